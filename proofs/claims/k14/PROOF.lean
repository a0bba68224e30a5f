import PyProof.Rows.All
import Wide.All
import OpenK.AllK
import Wide.FinOn
import Lean
import PyProof.EqAt
import PyProof.EqKinds
import PyProof.TupleCall
import PyProof.Rows.SetFrom
import PyProof.Rows.SortWalkRead
import PyProof.Rows.EqDataRows
import PyProof.CompFree
import PyProof.ZipIter
import PyProof.Rows.ZipGen
import PyProof.GenCompD
import PyProof.CodeObjX
import KE.KNest
import PyProof.DictWalks
import PyProof.AutoListH
import PyProof.WalksMore
import PyProof.Draws
import PyProof.EnumFor
import PyProof.EnumMake
import PyProof.EnumStmt
import PyProof.Rows.EnumRows
import KE.KSuper
import PyProof.WalkInts
import KE.KTryMore
import PyProof.ExcClass2
import PyProof.ExcInit
import PyProof.InstStore
import PyProof.ExcBaseAll.ValueError
import PyProof.InstStoreFacts
import KE.KSortTup
import PyProof.Rows.SortShellK
import PyProof.DictCompW
import KE.KRevSl
import PySem.Challenge.RW_slimbody_k14_an_order_of_the_arrows
set_option Elab.async false
set_option linter.all false
set_option tactic.hygienic false
set_option compiler.extract_closed false
set_option hygiene false
set_option genSizeOf false
set_option genInjectivity false
set_option maxRecDepth 100000
local macro_rules|`(#[$a,*])=>`(⟨$a,*⟩)
local macro_rules|`(#v[$a,*])=>`(List.toArray [$a,*])
local macro_rules|`(↑$a)=>`(some $a)
local macro_rules|`(⇑$a)=>`(($a).heap.objs.size)
set_option maxHeartbeats 4000000
local macro_rules|`(18)=>`((vH (vF P w) P w K mg base N qual scope f cd A outer s H E))|`(19)=>`((gU X.prog X.w))|`(51)=>`(#[I.ok.mod,I.ok.kind,I.ok.glob,I.ok.blt,I.ok.above,I.ok.inj,I.ok.has,I.ok.Od,I.ok.hd,I.ok.frames,I.ok.B5,I.ok.R9,I.ok.bs,I.ok.HR,I.ok.C3,I.ok.DE,I.ok.yo,I.ok.Jo])|`(52)=>`({ cls:=.type "list",data:=.seq ([]:List ci).toArray})|`(53)=>`((Ch.refl _ _ _ _))|`(54)=>`((List (Option (Int×(List Int)))))|`(55)=>`(("__debug__":Str))|`(57)=>`((p.1,#[],()))|`(58)=>`((false,eval e X.env))|`(61)=>`((lk p.1.rk p.2.1))|`(65)=>`((p.1,#[],#[],()))|`(66)=>`((gH->D->Prop))|`(67)=>`({ cls:=.type "list",dict:=none,data:=.seq zB.toArray nD})|`(70)=>`((xY wy (pv 0) vk (λ_ _=>rfl)))|`(71)=>`(("__class__",cc))|`(72)=>`({ cls:=.type "dict_keyiterator",data:=.fields #v[.ref a,.int 0 0,.int wV.length 0,.int ep 0]})|`(73)=>`({ cls:=.type "dict_keyiterator",data:=.fields #v[.ref a,.int 0 0,.int m.length 0,.int B 0]})|`(74)=>`((vH (vF P w) P w K l base N g c f u A e s H E))|`(75)=>`((false,eval a X.env))|`(76)=>`({ cls:=.type "list",dict:=none,data:=.seq ([]:List ci).toArray})|`(77)=>`((jw nm q C N bs bm hdct sn sub ab col dd k0 k1 k2 k3 k5 newId))|`(78)=>`((q.get<|A.get d))|`(79)=>`((.Call (.Name "super" p0) [] [] p1))|`(81)=>`((gH->PO->Prop))|`(82)=>`((vH (vF P w) P w K e base N c a f g A b s H E))|`(83)=>`((if kq t.dummies j=true then iU t.dummies (hI t.dummies j) else t.dummies))|`(84)=>`((uQ (ss 1) uN))|`(85)=>`((Int×List Int))|`(86)=>`((Kj (vF P w) P w K mg base N qual scope f (.ref yV) [71] A outer s H E))|`(87)=>`(#[rfl,I.turned (t':=s.toks) (λb o hb e=>eb b o hb e) f0 f1 f3 f4 f5])|`(88)=>`((.Name x pos))|`(90)=>`({ cls:=.type "range",data:=.fields #v[.int a t,.int c u,.int 1 v]})|`(91)=>`({ s with toks:=s.toks+1})|`(93)=>`((τ->PO->Prop))|`(94)=>`(((items.toList.drop<|wN items.size 0 lo).take<|wN items.size items.size hi-wN items.size 0 lo))|`(96)=>`({ s with heap:=a})|`(97)=>`((uR uP (uR uP vf)))|`(98)=>`((some<|.builtin "object.__setattr__"))|`(99)=>`(("__class__":Str))|`(101)=>`((gH->B0×Un×Unit->Prop))
noncomputable section
local macro_rules | `(tactic| walk_at "sc") => `(tactic| exact #[rfl, rfl, rfl, by decide +kernel, rfl, by decide +kernel, by decide +kernel])
local macro_rules | `(tactic| walk_at "ss") => `(tactic| exact #[rfl, rfl, rfl, by decide +kernel, rfl, by decide +kernel, by decide +kernel, by decide +kernel, rfl, rfl])
local macro_rules | `(tactic| walk_at "wl") => `(tactic| dsimp +instances only [At.get, At.hole, Pt.put, Ent.ent, Pj.pj, Fg.fg, Sel.sel, Sel.rest, Sel.mrg, Pre.pre, Pre.suf, at0, atS, pt0, ptS, ent0, entS, entC, pjNil, pjUn, pjCons, fgId, fgUn, fgCons, selNil, selCons, pre0, preS, stepC, id, ID.get, ID.set, wSq, cK, cB, cA, cO, cC, cM, cN, cS, cG, cI, cW, cT, cF])
def e0a2 {p0:Prop}{p1:Prop}{G:Prop}(h:p0/\p1)(k:p0->p1->G):G:=by obtain ⟨h0,h1⟩:=h;exact k h0 h1
def e0a3 {p0:Prop}{p1:Prop}{p2:Prop}{G:Prop}(h:p0/\p1/\p2)(k:p0->p1->p2->G):G:=by obtain ⟨h0,h1,h2⟩:=h;exact k h0 h1 h2
def e0a4 {p0:Prop}{p1:Prop}{p2:Prop}{p3:Prop}{G:Prop}(h:p0/\p1/\p2/\p3)(k:p0->p1->p2->p3->G):G:=by obtain ⟨h0,h1,h2,h3⟩:=h;exact k h0 h1 h2 h3
def e0a6 {p0:Prop}{p1:Prop}{p2:Prop}{p3:Prop}{p4:Prop}{p5:Prop}{G:Prop}(h:p0/\p1/\p2/\p3/\p4/\p5)(k:p0->p1->p2->p3->p4->p5->G):G:=by obtain ⟨h0,h1,h2,h3,h4,h5⟩:=h;exact k h0 h1 h2 h3 h4 h5
def e1a1 {vC:Sort _}{p0:vC->Prop}{G:Prop}(h:∃ x0:vC,p0 x0)(k:∀ x0:vC,p0 x0->G):G:=by obtain ⟨x0,h0⟩:=h;exact k x0 h0
def e1a2 {vC:Sort _}{p0:vC->Prop}{p1:vC->Prop}{G:Prop}(h:∃ x0:vC,p0 x0/\p1 x0)(k:∀ x0:vC,p0 x0->p1 x0->G):G:=by obtain ⟨x0,h0,h1⟩:=h;exact k x0 h0 h1
def e1a3 {vC:Sort _}{p0:vC->Prop}{p1:vC->Prop}{p2:vC->Prop}{G:Prop}(h:∃ x0:vC,p0 x0/\p1 x0/\p2 x0)(k:∀ x0:vC,p0 x0->p1 x0->p2 x0->G):G:=by obtain ⟨x0,h0,h1,h2⟩:=h;exact k x0 h0 h1 h2
def e1a4 {vC:Sort _}{p0:vC->Prop}{p1:vC->Prop}{p2:vC->Prop}{p3:vC->Prop}{G:Prop}(h:∃ x0:vC,p0 x0/\p1 x0/\p2 x0/\p3 x0)(k:∀ x0:vC,p0 x0->p1 x0->p2 x0->p3 x0->G):G:=by obtain ⟨x0,h0,h1,h2,h3⟩:=h;exact k x0 h0 h1 h2 h3
def e2a2 {vC:Sort _}{vR:Sort _}{p0:vC->vR->Prop}{p1:vC->vR->Prop}{G:Prop}(h:∃ x0:vC,∃ x1:vR,p0 x0 x1/\p1 x0 x1)(k:∀ x0:vC,∀ x1:vR,p0 x0 x1->p1 x0 x1->G):G:=by obtain ⟨x0,x1,h0,h1⟩:=h;exact k x0 x1 h0 h1
def e2a3 {vC:Sort _}{vR:Sort _}{p0:vC->vR->Prop}{p1:vC->vR->Prop}{p2:vC->vR->Prop}{G:Prop}(h:∃ x0:vC,∃ x1:vR,p0 x0 x1/\p1 x0 x1/\p2 x0 x1)(k:∀ x0:vC,∀ x1:vR,p0 x0 x1->p1 x0 x1->p2 x0 x1->G):G:=by obtain ⟨x0,x1,h0,h1,h2⟩:=h;exact k x0 x1 h0 h1 h2
def e2a4 {vC:Sort _}{vR:Sort _}{p0:vC->vR->Prop}{p1:vC->vR->Prop}{p2:vC->vR->Prop}{p3:vC->vR->Prop}{G:Prop}(h:∃ x0:vC,∃ x1:vR,p0 x0 x1/\p1 x0 x1/\p2 x0 x1/\p3 x0 x1)(k:∀ x0:vC,∀ x1:vR,p0 x0 x1->p1 x0 x1->p2 x0 x1->p3 x0 x1->G):G:=by obtain ⟨x0,x1,h0,h1,h2,h3⟩:=h;exact k x0 x1 h0 h1 h2 h3
def e2a5 {vC:Sort _}{vR:Sort _}{p0:vC->vR->Prop}{p1:vC->vR->Prop}{p2:vC->vR->Prop}{p3:vC->vR->Prop}{p4:vC->vR->Prop}{G:Prop}(h:∃ x0:vC,∃ x1:vR,p0 x0 x1/\p1 x0 x1/\p2 x0 x1/\p3 x0 x1/\p4 x0 x1)(k:∀ x0:vC,∀ x1:vR,p0 x0 x1->p1 x0 x1->p2 x0 x1->p3 x0 x1->p4 x0 x1->G):G:=by obtain ⟨x0,x1,h0,h1,h2,h3,h4⟩:=h;exact k x0 x1 h0 h1 h2 h3 h4
def e3a2 {vC:Sort _}{vR:Sort _}{wB:Sort _}{p0:vC->vR->wB->Prop}{p1:vC->vR->wB->Prop}{G:Prop}(h:∃ x0:vC,∃ x1:vR,∃ x2:wB,p0 x0 x1 x2/\p1 x0 x1 x2)(k:∀ x0:vC,∀ x1:vR,∀ x2:wB,p0 x0 x1 x2->p1 x0 x1 x2->G):G:=by obtain ⟨x0,x1,x2,h0,h1⟩:=h;exact k x0 x1 x2 h0 h1
def e3a3 {vC:Sort _}{vR:Sort _}{wB:Sort _}{p0:vC->vR->wB->Prop}{p1:vC->vR->wB->Prop}{p2:vC->vR->wB->Prop}{G:Prop}(h:∃ x0:vC,∃ x1:vR,∃ x2:wB,p0 x0 x1 x2/\p1 x0 x1 x2/\p2 x0 x1 x2)(k:∀ x0:vC,∀ x1:vR,∀ x2:wB,p0 x0 x1 x2->p1 x0 x1 x2->p2 x0 x1 x2->G):G:=by obtain ⟨x0,x1,x2,h0,h1,h2⟩:=h;exact k x0 x1 x2 h0 h1 h2
def e3a4 {vC:Sort _}{vR:Sort _}{wB:Sort _}{p0:vC->vR->wB->Prop}{p1:vC->vR->wB->Prop}{p2:vC->vR->wB->Prop}{p3:vC->vR->wB->Prop}{G:Prop}(h:∃ x0:vC,∃ x1:vR,∃ x2:wB,p0 x0 x1 x2/\p1 x0 x1 x2/\p2 x0 x1 x2/\p3 x0 x1 x2)(k:∀ x0:vC,∀ x1:vR,∀ x2:wB,p0 x0 x1 x2->p1 x0 x1 x2->p2 x0 x1 x2->p3 x0 x1 x2->G):G:=by obtain ⟨x0,x1,x2,h0,h1,h2,h3⟩:=h;exact k x0 x1 x2 h0 h1 h2 h3
def e3a5 {vC:Sort _}{vR:Sort _}{wB:Sort _}{p0:vC->vR->wB->Prop}{p1:vC->vR->wB->Prop}{p2:vC->vR->wB->Prop}{p3:vC->vR->wB->Prop}{p4:vC->vR->wB->Prop}{G:Prop}(h:∃ x0:vC,∃ x1:vR,∃ x2:wB,p0 x0 x1 x2/\p1 x0 x1 x2/\p2 x0 x1 x2/\p3 x0 x1 x2/\p4 x0 x1 x2)(k:∀ x0:vC,∀ x1:vR,∀ x2:wB,p0 x0 x1 x2->p1 x0 x1 x2->p2 x0 x1 x2->p3 x0 x1 x2->p4 x0 x1 x2->G):G:=by obtain ⟨x0,x1,x2,h0,h1,h2,h3,h4⟩:=h;exact k x0 x1 x2 h0 h1 h2 h3 h4
def e4a4 {vC:Sort _}{vR:Sort _}{wB:Sort _}{ym:Sort _}{p0:vC->vR->wB->ym->Prop}{p1:vC->vR->wB->ym->Prop}{p2:vC->vR->wB->ym->Prop}{p3:vC->vR->wB->ym->Prop}{G:Prop}(h:∃ x0:vC,∃ x1:vR,∃ x2:wB,∃ x3:ym,p0 x0 x1 x2 x3/\p1 x0 x1 x2 x3/\p2 x0 x1 x2 x3/\p3 x0 x1 x2 x3)(k:∀ x0:vC,∀ x1:vR,∀ x2:wB,∀ x3:ym,p0 x0 x1 x2 x3->p1 x0 x1 x2 x3->p2 x0 x1 x2 x3->p3 x0 x1 x2 x3->G):G:=by obtain ⟨x0,x1,x2,x3,h0,h1,h2,h3⟩:=h;exact k x0 x1 x2 x3 h0 h1 h2 h3
def e4a6 {vC:Sort _}{vR:Sort _}{wB:Sort _}{ym:Sort _}{p0:vC->vR->wB->ym->Prop}{p1:vC->vR->wB->ym->Prop}{p2:vC->vR->wB->ym->Prop}{p3:vC->vR->wB->ym->Prop}{p4:vC->vR->wB->ym->Prop}{p5:vC->vR->wB->ym->Prop}{G:Prop}(h:∃ x0:vC,∃ x1:vR,∃ x2:wB,∃ x3:ym,p0 x0 x1 x2 x3/\p1 x0 x1 x2 x3/\p2 x0 x1 x2 x3/\p3 x0 x1 x2 x3/\p4 x0 x1 x2 x3/\p5 x0 x1 x2 x3)(k:∀ x0:vC,∀ x1:vR,∀ x2:wB,∀ x3:ym,p0 x0 x1 x2 x3->p1 x0 x1 x2 x3->p2 x0 x1 x2 x3->p3 x0 x1 x2 x3->p4 x0 x1 x2 x3->p5 x0 x1 x2 x3->G):G:=by obtain ⟨x0,x1,x2,x3,h0,h1,h2,h3,h4,h5⟩:=h;exact k x0 x1 x2 x3 h0 h1 h2 h3 h4 h5
def e5a3 {vC:Sort _}{vR:Sort _}{wB:Sort _}{ym:Sort _}{AU:Sort _}{p0:vC->vR->wB->ym->AU->Prop}{p1:vC->vR->wB->ym->AU->Prop}{p2:vC->vR->wB->ym->AU->Prop}{G:Prop}(h:∃ x0:vC,∃ x1:vR,∃ x2:wB,∃ x3:ym,∃ x4:AU,p0 x0 x1 x2 x3 x4/\p1 x0 x1 x2 x3 x4/\p2 x0 x1 x2 x3 x4)(k:∀ x0:vC,∀ x1:vR,∀ x2:wB,∀ x3:ym,∀ x4:AU,p0 x0 x1 x2 x3 x4->p1 x0 x1 x2 x3 x4->p2 x0 x1 x2 x3 x4->G):G:=by obtain ⟨x0,x1,x2,x3,x4,h0,h1,h2⟩:=h;exact k x0 x1 x2 x3 x4 h0 h1 h2
def e5a4 {vC:Sort _}{vR:Sort _}{wB:Sort _}{ym:Sort _}{AU:Sort _}{p0:vC->vR->wB->ym->AU->Prop}{p1:vC->vR->wB->ym->AU->Prop}{p2:vC->vR->wB->ym->AU->Prop}{p3:vC->vR->wB->ym->AU->Prop}{G:Prop}(h:∃ x0:vC,∃ x1:vR,∃ x2:wB,∃ x3:ym,∃ x4:AU,p0 x0 x1 x2 x3 x4/\p1 x0 x1 x2 x3 x4/\p2 x0 x1 x2 x3 x4/\p3 x0 x1 x2 x3 x4)(k:∀ x0:vC,∀ x1:vR,∀ x2:wB,∀ x3:ym,∀ x4:AU,p0 x0 x1 x2 x3 x4->p1 x0 x1 x2 x3 x4->p2 x0 x1 x2 x3 x4->p3 x0 x1 x2 x3 x4->G):G:=by obtain ⟨x0,x1,x2,x3,x4,h0,h1,h2,h3⟩:=h;exact k x0 x1 x2 x3 x4 h0 h1 h2 h3
def e5a6 {vC:Sort _}{vR:Sort _}{wB:Sort _}{ym:Sort _}{AU:Sort _}{p0:vC->vR->wB->ym->AU->Prop}{p1:vC->vR->wB->ym->AU->Prop}{p2:vC->vR->wB->ym->AU->Prop}{p3:vC->vR->wB->ym->AU->Prop}{p4:vC->vR->wB->ym->AU->Prop}{p5:vC->vR->wB->ym->AU->Prop}{G:Prop}(h:∃ x0:vC,∃ x1:vR,∃ x2:wB,∃ x3:ym,∃ x4:AU,p0 x0 x1 x2 x3 x4/\p1 x0 x1 x2 x3 x4/\p2 x0 x1 x2 x3 x4/\p3 x0 x1 x2 x3 x4/\p4 x0 x1 x2 x3 x4/\p5 x0 x1 x2 x3 x4)(k:∀ x0:vC,∀ x1:vR,∀ x2:wB,∀ x3:ym,∀ x4:AU,p0 x0 x1 x2 x3 x4->p1 x0 x1 x2 x3 x4->p2 x0 x1 x2 x3 x4->p3 x0 x1 x2 x3 x4->p4 x0 x1 x2 x3 x4->p5 x0 x1 x2 x3 x4->G):G:=by obtain ⟨x0,x1,x2,x3,x4,h0,h1,h2,h3,h4,h5⟩:=h;exact k x0 x1 x2 x3 x4 h0 h1 h2 h3 h4 h5
def e6a2 {vC:Sort _}{vR:Sort _}{wB:Sort _}{ym:Sort _}{AU:Sort _}{RZ:Sort _}{p0:vC->vR->wB->ym->AU->RZ->Prop}{p1:vC->vR->wB->ym->AU->RZ->Prop}{G:Prop}(h:∃ x0:vC,∃ x1:vR,∃ x2:wB,∃ x3:ym,∃ x4:AU,∃ x5:RZ,p0 x0 x1 x2 x3 x4 x5/\p1 x0 x1 x2 x3 x4 x5)(k:∀ x0:vC,∀ x1:vR,∀ x2:wB,∀ x3:ym,∀ x4:AU,∀ x5:RZ,p0 x0 x1 x2 x3 x4 x5->p1 x0 x1 x2 x3 x4 x5->G):G:=by obtain ⟨x0,x1,x2,x3,x4,x5,h0,h1⟩:=h;exact k x0 x1 x2 x3 x4 x5 h0 h1
def e7a2 {vC:Sort _}{vR:Sort _}{wB:Sort _}{ym:Sort _}{AU:Sort _}{RZ:Sort _}{ZG:Sort _}{p0:vC->vR->wB->ym->AU->RZ->ZG->Prop}{p1:vC->vR->wB->ym->AU->RZ->ZG->Prop}{G:Prop}(h:∃ x0:vC,∃ x1:vR,∃ x2:wB,∃ x3:ym,∃ x4:AU,∃ x5:RZ,∃ x6:ZG,p0 x0 x1 x2 x3 x4 x5 x6/\p1 x0 x1 x2 x3 x4 x5 x6)(k:∀ x0:vC,∀ x1:vR,∀ x2:wB,∀ x3:ym,∀ x4:AU,∀ x5:RZ,∀ x6:ZG,p0 x0 x1 x2 x3 x4 x5 x6->p1 x0 x1 x2 x3 x4 x5 x6->G):G:=by obtain ⟨x0,x1,x2,x3,x4,x5,x6,h0,h1⟩:=h;exact k x0 x1 x2 x3 x4 x5 x6 h0 h1
def us0 {α:Type}{P:List α->Prop}(h:P [])(us:List α)(e:us.length=0):P us:=by
 cases us with
 |nil=>exact h
 |cons=>cases e
def us1 {α:Type}{P:List α->Prop}(h:∀ a,P [a])(us:List α)(e:us.length=1):P us:=by
 cases us with
 |nil=>cases e
 |cons a t=>exact us0 (P:=fun t=>P (a :: t)) (h a) t (Nat.succ.inj e)
def us2 {α:Type}{P:List α->Prop}(h:∀ a b,P [a,b])(us:List α)(e:us.length=2):P us:=by
 cases us with
 |nil=>cases e
 |cons a t=>exact us1 (P:=fun t=>P (a :: t)) (h a) t (Nat.succ.inj e)
def us3 {α:Type}{P:List α->Prop}(h:∀ a b c,P [a,b,c])(us:List α)(e:us.length=3):P us:=by
 cases us with
 |nil=>cases e
 |cons a t=>exact us2 (P:=fun t=>P (a :: t)) (h a) t (Nat.succ.inj e)
def us4 {α:Type}{P:List α->Prop}(h:∀ a b c d,P [a,b,c,d])(us:List α)(e:us.length=4):P us:=by
 cases us with
 |nil=>cases e
 |cons a t=>exact us3 (P:=fun t=>P (a :: t)) (h a) t (Nat.succ.inj e)
def cutG {α:Sort _}{G:α->Prop}{P:Prop}(k:(∀ a,G a)->P)(h:∀ a,G a):P:=k h
def cutP {G P:Prop}(k:G->P)(h:G):P:=k h
def lx0 {α:Type}(us:List α)(e:us.length=0):us=[]:=us0 (P:=fun us=>us=[]) rfl us e
def lx1 {α:Type}(us:List α)(e:us.length=1):∃ a,us=[a]:=us1 (P:=fun us=>∃ a,us=[a]) (fun a=>#[a,rfl]) us e
def lx2 {α:Type}(us:List α)(e:us.length=2):∃ a b,us=[a,b]:=us2 (P:=fun us=>∃ a b,us=[a,b]) (fun a b=>#[a,b,rfl]) us e
open PySem renaming wpAny_bind->am,wpAny_pure->ap,Value->ci,Addr->gH,starEach->gJ,sizeLine->gL,Shared->gO,wpAny->gS,model->gU,mainGlobals->g9,Stmt->ic,Program->im,wpAny_holding->iq,attributeBase->iA,FuncData->iB,Expr->iD,wpAny_newObj_type->iE,Heap->iG,World->iL,wpAny_call_entry->iM,behindInMarks->iN,sizeLine_eq->iQ,wpAny_mono->iY,wpAny_field->iZ,wpAny_setState_of->i7,backTo->jg,Around->jq,compareOp->jr,excClassObj->jw,wpAny_askSetting->jy,SetTable->jA,wpAny_loadPart_at->jC,codeAny_builtin->jE,wpAny_setField_rec->jH,codeAny_mono->jL,swapsWith->jN,mem_of_lookup->jW,wpAny_truthy_bool->jZ,foldedSetIterable->j0,intKind->kf,ExcBaseFacts->kh,cLine->ky,wpAny_Call_Name_kw->kA,wpAny_loadName_local->kF,holding->kG,keywordEach->kH,wpAny_typeOf->kI,sysModules->kO,plainId_quiet->kP,wpAny_seqItems->kU,unsupported->k9,tupleKind_room_in1->lj,wpAny_passesOwn->lw,rawInt->lF,builtinLookup_eq_fast->lH,Scope->lV,wpAny_rule->lW,wpAny_isInstance->l8,binaryOp->mj,boot_len->mo,codeAny->mq,codeAny_of_tree->mr,wpAny_call->mz,getMethod->mB,wpAny_of_eq->mC,bootBuiltins->mH,standAt->mI,backToKw->mJ,wpAny_setField->mO,typeLookup->mZ,hashInt->m4,wpAny_standAt->m7,callWith->m8,sliceBounds->m9,codeAny_call_builtin->ni,wpAny_execs_nil->nJ,typeLookup_type->nM,getItem->nV,call_meetsIn->nY,builtinsNs->oi,closureFor->om,relabel->oJ,wpAny_attempt->oS,wpAny_comprehension_free->oU,wpAny_onRaise->oV,tupleKind->oX,GenState->oZ,wpAny_Name->pA,assignEach->pB,Keyword->pE,intKind_is->pG,sub_set_self->pH,wpAny_specialOf->pJ,wpAny_updateSeq->pM,IsPart->pW,firstArgMember->pZ,IsPair->qc,wpAny_updateSeq_pair->qd,valueAt->qg,wpAny_loadName_free->qk,wpAny_setEntries_of->qt,Obj->qw,wpAny_isSubtype_exc->qy,CmpOp->qz,isTrue->qF,wpAny_load->qG,wpAny_pyIter_tuple->qH,wpAny_Call_method->qX,callerA->qY,cStatics->rc,ks_wpAt_mono->rf,plainObj_wpAny_Assign_Attribute->ro,wpAny_eqBool_int->rE,PassesOwn->rF,argsOk->rH,subscripted->rQ,IsZip->rY,wpAny_letGo->rZ,Within->r8,wpAny_AugAssign_SubscriptAny->se,letOwnedTupleGo->sf,wpAny_tests_nil->si,setItem->su,BindsTo->sw,OwnTail->sD,wpAny_Compare1->sG,assign->sH,recursionLimit->sJ,bindArgs->sK,atKey->sO,relayAll->sR,storeSet->sS,entryFor->sT,entryFor_alias->sU,wpAny_runValue->sV,isSubtype_type->sW,compEnvC->sY,refuseLoop->tj,evalPart_none->tM,wpAny_getItem_list_slice->tN,call->tO,wpAny_newList->tQ,wpAt->tS,table->tZ,pickOrder->t6,TriplesOk->uc,noteFrame->ud,field->ue,spliced->uk,truthy->ul,leaving->um,seqIndex_neg->uq,wpAny_Call_method_late->ut,wpAny_isTrue_Compare1->uA,weight_type_call_type->uD
open PySem.Heap renaming get?_push_of_some->ce,lt_size->gP,get?_push_size->gW,get?_update_other->iv,get?_update_self->iJ,SameBut->iT,size_push->ju,FlyingW->lK,get?_none_of_le->mQ,get?_push_at->n9,size_update->ou,get?_update_ne->pN,IsTuple->qi,MadeExcOf->rD
open PySem.W renaming Frag->gG,nsIn->hJ,findIn->ig,envX->iO,mg_of->iR,keepIn->ja,excIn->ji,codeIn->jk,fnOf->jv,kia_one->jz,Looks->jF,emptyDict->jG,ks_superIn->jM,instObj->kj,fnX->ku,mroIn->kR,exmAny->lp,hideAll->lQ,methodObj->md,fnIn->mi,plainGet->my,clsIn->mD,kas_rev_size->mP,of_hideAll->mY,hasDictIn->nq,tabIn->nN,isFn->oj,methodCall_KW->oA,lookIn->oM,typeIn->oN,looks_findIn->oO,hideAll_get->oY,plainGet_of->o4,looks_clsIn->o5,callWith_of->pf,looks_mroIn->ph,ks_superObj->pi,callWith_K->pC,isNs_of_in->pI,plainOver->pP,takerIn->qm,makesIn->qo,OpenLaw->qu,kitOne->qI,CodeHd->qM,tabObj->qN,ks_loadName_global->qO,MethP->rg,kas_rev->rh,cellsFrom_some->rG,funFrames_hide->rJ,hideAll_none->r9,looks_opaque->sr,callWith_K0->sx,codeRec_of->sM,tail_of_in->sZ,mg_none_of->td,kitx_list->tz,kitx_dict->tD,handedIn->tL,kat_cons->tT,keeps_M->uf,alongIn->ug,kas_place->ui,kat_yes->uj,kat_go->ux,kat_no->uy,nsOkIn->uz,WalkO->uE
open Nat renaming le_refl->gK,ne_of_lt->gZ,lt_of_lt_of_le->hR,le_trans->iV,zero_le->iX,ne_of_gt->je,lt_succ_self->jp,lt_irrefl->jI,le_of_lt_succ->jU,le_succ->lG,le_of_lt->lM,lt_trans->nc,succ_pos->ng,lt_of_le_of_lt->nK,mod_lt->nL,lt_succ_of_lt->og,le_add_right->oB,le_of_eq->qp,lt_trichotomy->qr,sub_self->qx,le_of_not_lt->qJ,zero_add->sQ,div_lt_of_lt_mul->tP
open List renaming mem_cons_self->gM,length_map->gN,mem_cons_of_mem->gQ,size_toArray->gX,length_append->gY,mem_append_right->hV,range->hW,length_cons->hX,length_singleton->hZ,map_cons->h8,mem_cons->ii,length_filter_le->iu,lookup_cons->iz,find?_cons->iK,mem_append_left->iW,not_mem_nil->jb,take_of_length_le->jc,getD_eq_getElem?_getD->jh,mem_filter->jl,filter_cons->jm,getElem?_eq_getElem->jo,getElem?_map->jx,mem_of_getElem?->jD,getElem?_append_right->jJ,pairwise_singleton->jT,map_append->jV,map_map->j5,lookup->j7,getElem?_eq_none->ki,filterMap_cons->kE,replicate->kK,length_drop->kM,append_nil->kW,length_range->lm,getElem?_of_mem->lx,length_take->lJ,getElem?_append_left->lN,map_congr_left->lU,length_set->lZ,mem_append->l6,perm_append_comm->mE,getElem?_set_ne->mS,take_append_of_le_length->mU,length_nil->mW,nodup_nil->ny,mem_singleton->nA,drop_eq_getElem_cons->nP,length->nW,reverse_cons->nX,append_assoc->n6,filter_congr->n8,any_cons->oa,eraseIdx_cons_succ->oo,all_eq_true->oy,getElem?_set_self->oG,map_nil->oH,drop_of_length_le->oK,of_mem_zip->oP,nil_append->oT,all_cons->pR,ext_getElem?->qh,eraseIdxIfInBounds_toArray->qq,filter_map->qT,getElem?_take_of_lt->rP,findIdx?->rT,getElem?_replicate->sg,getElem?_cons_succ->sk,pairwise_lt_range->sC,filterMap_eq_map'->sE,length_replicate->sL,take_append_drop->sP,eq_nil_or_concat->tm,concat_eq_append->tq,getElem?_range->tR,filterMap_map->tV,getElem?_take->tW,getElem?_drop->tX,map_filterMap->tY,contains_cons->uh,take_sublist->uo,getElem_mem->uC,any_eq_true->uF,drop_length->uG,zipIdx_cons->uH,take_length->uI,getElem_map->uJ
open Array renaming length_toList->gR,getElem?_toList->iC,getElem?_eq_getElem->jj,getD_eq_getD_getElem?->kZ,size_map->ml,toList_extract->mM,toList_append->pF,append_assoc->pO,toList_push->pX,toList->sd,getElem?_eq_none->sj,find?_toList->tK
open Bool renaming false_ne_true->gV,and_eq_true->iw,false_eq_true->kT,eq_iff_iff->lY,xor_assoc->nI,and_self->pT,false_xor->rB,xor_false->rC,or_false->rV
open PySem.SetTable renaming below->hI,sizeAbove->iI,eraseAt->iU,runEnd->i8,insertAt->i9,bits->jd,leap->jX,fresh->j4,has->kq,turns->kB,fill->kQ,Probe->k8,advance->lu,grown->l9,laid->nw,freeSlot->pK,layClean->pL,probe->qC,slot->qR,roomFor->tG,fits->uv,road->uw
open PySem.Value renaming ref->hO,type->jS,int->lE,isInt->mG,bool->qV,float->sF
open Sum renaming inl->ie,inr->qj
open PySem.F renaming excBase_ValueError->ik,slot_dict_get->j9,plainAttrs_list->kC,slot_tuple_iterator_next->lP,entry_dict_get->mf,slot_list_pop->mu,type_list_pop->mw,plainAttrs_dict->nZ,plain_list_iadd->ot,plain_set_new->pr,slot_zip_next->pw,plain_extend_loop->qa,slot_dict_delitem->qQ,args_dict_get_2->rq,args_dict_get_3->rr,args_tuple_iterator_next_1->rK,slot_dict_pop->rR,type_dict_get->rS,entry_tuple_iterator_next->rX,entry_proto_collect->t7,plain_proto_collect->t9
open List.Pairwise renaming nil->il,filter->jK,imp->oQ,sublist->qA
open False renaming elim->io
open Option renaming isSome_map->iH,getD_none->qf,map->tE
open Option.some renaming inj->iP
open PySem.SetTable.layClean renaming free->i4
open PySem.Builtin.SmallTypes renaming nextOf->jf,ownedTupleIsFree->jP,ownedTupleHandOut->nE
open PySem.Around renaming under_plainId->js,under->rO,frames_deeper->sy,under_plain->tJ
open PySem.Calls renaming evalArgs_plain->jt,spliced_cons->jO,callWith_builtin->jY,spliced_nil->kY,loadGlobal_builtin->nS,Name_function_global->qW,call_function_entry->rA
open PySem.SetTable.probe renaming go->jB
open PyProof.Rows renaming callWith_type1->jQ,boot_list->jR,boot_sorted->kd,slot_tuple_getitem->kg,IntsAre->kS,seqObj->mh,AllBare->m6,boot_set->nQ,envOfC->oz,callWith_builtin1->pq,boot_tuple->qv,boot_bool->qE,Subscript_->sN,size_push'->sX,listUpdate_at->tU,subscriptTail_builtinR->ur
open Or renaming inl->ko,inr->uB
open PySem.Spec renaming sameAll->kD,same->kN
open PySem.Builtin.Slice renaming slicePlaces->kX,sliceAdjust->pU
open PySem.Builtin.Tuple renaming tupleExact->lh,tupleItemsOf->pQ
open Int renaming toNat_natCast->lq,le_refl->oh,emod_lt_of_pos->qe,emod_nonneg->rj
open PySem.Builtin.List renaming listSameRef->lv,listExtendWith->pS
open PySem.W.KasT renaming kasWp->lA,kasWp_bind->mX
open PySem.Str renaming ofString->lO
open PySem.Heap.SameBut renaming refl->lR,update->oq
open PySem.Shared renaming TypeIs->lS
open PySem.SeqAt renaming noMixAll->mn,noMix->o8,shaped->sh
open ForInStep renaming yield->mF
open PySem.SetTable.below renaming go->mK
open Nat.succ renaming inj->mV
open Sum.inl renaming inj->nj
open PySem.Code renaming quiet_builtin->nC,isFrame->sv
open PySem.PyData renaming canLayAll0->nO,depthAll->oE,canLay0->oW,depth->rW
open List.Perm renaming cons->oC,refl->oF,append_left->rs,of_eq->tF
open PyProof.Rows.F renaming plain_set_update_loop->oR,entry_set_update_loop->tH
open PySem.Builtin.Frozenset renaming newClass->o7,oneOther->o9
open String renaming splitOnAux->pV,splitOn->qS
open PySem.Heap.UpToSlots renaming of_keeps->qb
open Classical renaming byContradiction->qD
open PyProof.Rows.IntsAre renaming int_at->qK,length->qL
open PySem.Heap.IsSliceOf renaming new->qP
open Eq renaming mpr->qU
open PySem.pickOrder renaming go->qZ
open PySem.W.Looks renaming ld->rL
open PySem.SeqAt.EqAt renaming int_str->rM,str_int->rN
open PySem.Heap.DictOf renaming new->sA
open PySem.Heap.Ns1 renaming of_empty->sI
open PySem.Data renaming fields->ts
open Function renaming comp->uu
abbrev cr:=@if_neg
abbrev gI:=@if_pos
abbrev g8:=@absurd
abbrev ij:=@decide_eq_false
abbrev iF:=@decide_eq_true_eq
abbrev kJ:=@of_decide_eq_true
abbrev lX:=@or_false
abbrev o6:=@if_false
abbrev pc:=@beq_self_eq_true
abbrev pY:=@not_or
abbrev q7:=@bne_self_eq_false
def q0q{p:Prop}(h:p:=by decide):p:=h
def q0d{p:Prop}(h:p:=by omega):p:=h
def q0o{p:Prop}(h:p:=by simp):p:=h
def q0s{p:Prop}(h:p:=by decide +kernel):p:=h
def q0a{p:Prop}(h:p:=by lia):p:=h
namespace L2
open PySem PySem.Spec PyProof.Rows
abbrev Key:=Sum Int Str
noncomputable def zC:Key->ci->Bool
 | .inl k,v=>mG k v
 | .inr x,v=>Value.isStrOf x v
noncomputable def Z9(w:iL):Key->Int
 | .inl k=>m4 k
 | .inr x=>hashStr w x
def vS:∀{k:Key} {v:ci},zC k v=true->(∃i t,k=ie i/\v=lE i t)\/(∃x t,k=qj x/\v=Value.str x t)
 | .inl i,v,h=>by
  obtain⟨t,e⟩:=Value.isInt_shape (k:=i) (v:=v) h;exact .inl #[i,t,rfl,e]
 | .inr x,v,h=>by obtain⟨t,e⟩:=Value.isStrOf_shape (x:=x) (v:=v) h;exact .inr #[x,t,rfl,e]
def MQ(i:Int)(t:Tok):zC (.inl i) (.int i t)=true:=by simp[zC,mG]
def MR(x:Str)(t:Tok):zC (.inr x) (.str x t)=true:=by simp[zC,Value.isStrOf]
def VF(a b:Int):decide ((ie a:Key)=ie b)=(a==b):=by
 by_cases e:a=b
 ·subst e;simp
 ·have h:¬(ie a:Key)=ie b:=λq=>e<|nj q;rw[ij h];exact(beq_eq_false_iff_ne.mpr e).symm
def VG(a b:Str):decide ((qj a:Key)=qj b)=decide (a=b):=by
 by_cases e:a=b
 ·subst e;simp
 ·have h:¬(qj a:Key)=qj b:=λq=>e<|Sum.inr.inj q;rw[ij h,ij e]
def VH(a:Int)(b:Str):decide ((ie a:Key)=qj b)=false:=ij<|λq=>nomatch q
def VI(a:Str)(b:Int):decide ((qj a:Key)=ie b)=false:=ij<|λq=>nomatch q
noncomputable def vp(prog:im)(w:iL):PySem.KeyKind prog w Key where
 is:=zC
 hash:=Z9 w
 inj:=λv a b ha hb=>by
  rcases vS ha with⟨i,t,rfl,rfl⟩|⟨x,t,rfl,rfl⟩
  ·rcases vS hb with⟨j,u,rfl,e⟩|⟨y,u,rfl,e⟩
   ·injection e with e1 _;rw[e1]
   ·exact nomatch e
  ·rcases vS hb with⟨j,u,rfl,e⟩|⟨y,u,rfl,e⟩
   ·exact nomatch e
   ·injection e with e1 _;rw[e1]
 byValue:=λk v h=>by rcases vS h with⟨i,t,rfl,rfl⟩|⟨x,t,rfl,rfl⟩<;>rfl
 pyHash:=λhv h=>by
  rcases vS hv with⟨i,t,rfl,rfl⟩|⟨x,t,rfl,rfl⟩
  ·exact wpAny_pyHash_int h
  ·exact wpAny_pyHash_str h
 eqBool:=λhu hv h=>by
  rcases vS hu with⟨i,t,rfl,rfl⟩|⟨x,t,rfl,rfl⟩
  ·rcases vS hv with⟨j,u,rfl,rfl⟩|⟨y,u,rfl,rfl⟩
   ·rw[VF]at h;exact rE h
   ·rw[VH]at h;exact rM i t y u _ _ _ _ h
  ·rcases vS hv with⟨j,u,rfl,rfl⟩|⟨y,u,rfl,rfl⟩
   ·rw[VI]at h;exact rN x t j u _ _ _ _ h
   ·rw[VG]at h;exact wpAny_eqBool_str h
 «strs»:=λk x t v h=>by
  rcases vS h with⟨i,u,rfl,e⟩|⟨y,u,rfl,e⟩
  ·exact nomatch e
  ·injection e with e1 _;subst e1;cases v<;>rfl
def HN(a:im)(w:iL)(i:Int)(t:Tok):(vp a w).is (.inl i) (.int i t)=true:=MQ i t
def HP(a:im)(w:iL)(x:Str)(t:Tok):(vp a w).is (.inr x) (.str x t)=true:=MR x t
set_option genInjectivity true in
inductive V where
 | wm|bl (b:Bool)|int (i:Int)|str (x:Str)|LD (b:Array UInt8)|VJ (b:UInt64)|ref (a:gH)|ty (n:String)
 deriving DecidableEq
def RelV:V->ci->Prop
 | .wm,u=>u=Value.none
 | .bl b,u=>u=qV b
 | .int i,u=>∃t,u=lE i t
 | .str x,u=>∃t,u=Value.str x t
 | .LD b,u=>∃t,u=Value.bytes b t
 | .VJ b,u=>∃t,u=sF b t
 | .ref a,u=>u=hO a
 | .ty n,u=>u=jS n
abbrev Vals:List V->List ci->Prop:=Paired RelV
def Vals.length{xs:List V}{us:List ci}(r:Vals xs us):xs.length=us.length:=Paired.length r
def Vals.get:∀{a:List V} {b:List ci} {i:Nat} {x:V},Vals a b->a[i]?=↑x->∃u,b[i]?=↑u/\RelV x u:=by
 intro _ _ i x z
 induction z generalizing i with
 |nil=>intro e;simp at e
 |cons r t c =>
  intro e
  cases i with
  |zero=>simp at e;subst e;exact#[_,rfl,r]
  |succ i=>exact e1a2 (c<|by simpa using e) λu d f=>#[u,by simpa using d,f]
def Vals.set(r:RelV x u):∀{a:List V} {b:List ci} (i:Nat),Vals a b->Vals (a.set i x) (b.set i u)
 |_,_,_,.nil=>.nil
 |_,_,0,.cons _ t=>.cons r t
 |_,_,i+1,.cons q t=>.cons q<|Vals.set r i t
def Vals.append:∀{a b:List V} {c d:List ci},Vals a c->Vals b d->Vals (a++b) (c++d):=by
 intro _ _ _ _ z s
 induction z with
 |nil=>exact s
 |cons h t e=>exact .cons h e
def Vals.take:∀{a:List V} {b:List ci} (n:Nat),Vals a b->Vals (a.take n) (b.take n)
 |_,_,0,_=>.nil
 |_,_,_+1,.nil=>.nil
 |_,_,n+1,.cons r t=>.cons r<|Vals.take n t
def Vals.drop:∀{a:List V} {b:List ci} (n:Nat),Vals a b->Vals (a.drop n) (b.drop n)
 |_,_,0,r=>r
 |_,_,_+1,.nil=>.nil
 |_,_,n+1,.cons _ t=>Vals.drop n t
def yW:Option V->Option ci->Prop
 |some v,some u=>RelV v u
 |none,none=>True
 |_,_=>False
def KV{a:Type}:List (a×V)->List (a×ci)->Prop:=Paired λ(p:a×V)(q:a×ci)=>p.1=q.1/\RelV p.2 q.2
noncomputable def kV:Key->V
 | .inl i=>.int i
 | .inr x=>.str x
inductive HO where
 | lst (xs:List V)
 | tup (xs:List V)
 | dK (wV:List (Key×V))|dT (wV:List (List Key×V))
 | set (S:Int->Bool) (n:Nat)
 | ins (C dx:gH) (fs:List (Str×V))
 | own (x:gH)
 | xd (fs:List (Str×V))
 | met (f x:gH)
 | yH (lo hi:Int)
 | Ju (o:Obj) (u:HO)
 | EQ (ps:Array ci)
 | ext (φ:iG->Prop)
abbrev Hp:=gH->Option HO
noncomputable def upd(H:Hp)(a:gH)(o:HO):Hp:=λb=>if b=a then some o else H b
def uO:upd H a o a=↑o:=by unfold upd;rw[gI rfl]
def uL(h:b≠a):upd H a o b=H b:=by unfold upd;rw[cr h]
def R6:upd (upd H a o) a u=upd H a u:=by funext b;unfold upd;split<;>rfl
def X3{H:Hp}{a b:gH}{o u:HO}(h:H a=↑o)(c:H b=↑u)(d:o≠u):a≠b:=by intro e;subst e;rw[h]at c;exact d<|iP c
def uU{H:Hp}{a b:gH}{o:HO}(h:H a=↑o)(c:H b=none):a≠b:=by intro e;subst e;rw[h]at c;cases c
section
variable(P:im)(w:iL)
def vO(H:Hp)(h:iG)(a:gH):HO->Prop
 | .lst xs=>xs.length<=gL/\∃(zB:List ci)(n:Nat),Vals xs zB/\h.get? a=some { cls:=.type "list",data:=.seq zB.toArray n}
 | .tup xs=>xs.length<=gL/\∃zB:List ci,Vals xs zB/\IsTup h a zB.toArray
 | .dK wV=>wV.length<=gL/\(a==kO)=false/\∃vs,KV wV vs/\h.DictOf (vp P w) a vs
 | .dT wV=>wV.length<=gL/\(a==kO)=false/\∃xs:List (List Key×gH×ci),
   Paired (λ(p:List Key×V)(q:List Key×gH×ci)=>p.1=q.1/\H q.2.1=↑(.tup<|p.1.map kV)/\RelV p.2 q.2.2) wV xs /\
   ∃o es ep,h.get? a=↑o/\o.ExactDict/\o.data=.dict es ep/\es.toList=xs.map (entryOfKey<|oX<|vp P w)/\(xs.map (·.1)).Nodup
 | .set S n=>h.SetOf (kf P w) a S n
 | .ins C dx fs=>H dx=↑(.own a)/\fs.length<=1000/\dx≠a/\h.get? a=↑(kj C dx) /\
   ∃mA,h.Ns1 dx mA/\(∀f,yW (fs.lookup f)<|mA f)/\r8 mA (fs.map (·.1))
 | .own _=>∃o,h.get? a=↑o
 | .xd fs=>∃mA,h.Ns1 a mA/\∀f,yW (fs.lookup f)<|mA f
 | .yH lo hi=>∃t u v,h.get? a=some { cls:=.type "range",data:=.fields #v[.int lo t,.int hi u,.int 1 v]}
 | .Ju o u=>h.get? a=↑o/\vO H h a u
 | .EQ ps=>h.get? a=some { cls:=.none,data:=.fields ps}
 | .met f x=>h.get? a=↑(md (.ref f)<|.ref x)
 | .ext φ=>φ h/\(∃o,h.get? a=↑o)/\∀h1 h2:iG,φ h1->(∀o,h1.get? a=↑o->h2.get? a=↑o)->φ h2
def xD(H:Hp)(h:iG):Prop:=∀a o,H a=↑o->vO P w H h a o
end
def vO.lt(x:vO P w H h a o):a<h.objs.size:=by
 cases o with
 |lst c=>obtain⟨_,_,_,_,e⟩:=x;exact gP e
 |tup c=>obtain⟨_,_,_,p⟩:=x;exact p.lt
 |dK b=>obtain⟨_,_,_,_,o,_,_,e,_⟩:=x;exact gP e
 |dT b=>obtain⟨_,_,_,_,o,_,_,e,_⟩:=x;exact gP e
 |set S n=>obtain⟨o,_,_,_,e,_⟩:=x;exact gP e
 |ins C d fs=>obtain⟨_,_,_,e,_⟩:=x;exact gP e
 |own y=>obtain⟨_,e⟩:=x;exact gP e
 |xd fs=>obtain⟨_,⟨_,_,_,e,_⟩,_⟩:=x;exact gP e
 |yH lo g=>obtain⟨_,_,_,e⟩:=x;exact gP e
 |Ju i u=>obtain⟨e,_⟩:=x;exact gP e
 |EQ j=>exact gP<|show h.get? a=some _ from x
 |met f y=>exact gP<|show h.get? a=some _ from x
 |ext k=>obtain⟨_,⟨_,e⟩,_⟩:=x;exact gP e
def Paired.VL:∀{c:List g} {d:List i},Paired F c d->(∀a b,F a b->G a b)->Paired G c d:=by
 intro _ _ z f
 induction z with
 |nil=>exact .nil
 |cons h t e=>exact .cons (f _ _ h) e
def vO.C0(x:vO P w H h a o)(k:∀b u,(b=a\/H b=↑(.own a))->h.get? b=↑u->F.get? b=↑u)
 (G:∀b,H b=↑(.own a)->D b=↑(.own a))(I:∀b m,H b=↑(.tup m)->D b=↑(.tup m)):vO P w D F a o:=by
  induction o with
  |lst m=>obtain⟨z,l,n,r,e⟩:=x;exact#[z,l,n,r,k _ _ (.inl rfl) e]
  |tup m=>obtain⟨z,l,r,g,e,c⟩:=x;exact#[z,l,r,g,k _ _ (.inl rfl) e,c]
  |dK s=>obtain⟨z,y,J,r,g,i,j,e,c⟩:=x;exact#[z,y,J,r,g,i,j,k _ _ (.inl rfl) e,c]
  |dT s =>
    obtain⟨z,y,m,r,g,i,j,e,c⟩:=x
    exact#[z,y,m,Paired.VL r λp q z=>#[z.1,I _ _ z.2.1,z.2.2],g,i,j,k _ _ (.inl rfl) e,c]
  |set S n=>obtain⟨g,i,j,t,e,c⟩:=x;exact#[g,i,j,t,k _ _ (.inl rfl) e,c]
  |ins C Q fs =>
    obtain⟨d,z,L,e,A,⟨B,i,j,M,c⟩,r⟩:=x
    exact#[G _ d,z,L,k _ _ (.inl rfl) e,A,#[B,i,j,k _ _ (.inr d) M,c],r]
  |own y=>obtain⟨g,e⟩:=x;exact#[g,k _ _ (.inl rfl) e]
  |xd fs=>obtain⟨A,⟨B,i,j,e,c⟩,r⟩:=x;exact#[A,#[B,i,j,k _ _ (.inl rfl) e,c],r]
  |yH lo R=>obtain⟨t,u,v,e⟩:=x;exact#[t,u,v,k _ _ (.inl rfl) e]
  |Ju g u N=>obtain⟨e,q⟩:=x;exact#[k _ _ (.inl rfl) e,N q]
  |EQ O =>
    have e:h.get? a=some { cls:=.none,data:=.fields O}:=x
    exact k a _ (.inl rfl) e
  |met f y =>
    have e:h.get? a=↑(md (.ref f)<|.ref y):=x
    exact k a _ (.inl rfl) e
  |ext T=>obtain⟨p,⟨o,e⟩,E⟩:=x;exact#[E _ _ p λo q=>k _ _ (.inl rfl) q,#[o,k _ _ (.inl rfl) e],E]
def xD.lt(x:xD P w H h)(e:H a=↑o):a<h.objs.size:=(x a o e).lt
def xD.fresh(x:xD P w H h)(e:h.objs.size<=a):H a=none:=by
 cases q:H a with
 |none=>rfl
 |some u=>exact g8 (hR (x.lt q) e)<|jI _
def xD.kept(x:xD P w H h)(k:∀b u,h.get? b=↑u->c.get? b=↑u):xD P w H c:=λa o e =>
 (x a o e).C0 (λb u _ q=>k b u q) (λ_ q=>q) λ_ _ q=>q
def xD.laid(x:xD P w H h)(k:∀b u,h.get? b=↑u->h'.get? b=↑u)(i:h.objs.size<=a)(d:vO P w (upd H a o) h' a o):xD P w (upd H a o) h':=λb u e=>by
 have f:=x.fresh i;by_cases g:b=a
 ·subst g;rw[uO]at e;cases e;exact d
 ·rw[uL g]at e;exact(x b u e).C0 (λc v _ q=>k c v q) (λc q=>by rw[uL<|uU q f];exact q) λc j q=>by rw[uL<|uU q f];exact q
def Rd(H:Hp)(a:gH)(u:HO):Prop:=H a=↑u\/∃o,H a=↑(.Ju o u)
def Rd.of(h:H a=↑u):Rd H a u:=.inl h
def Rd.ok(r:Rd H a u)(x:xD P w H h):vO P w H h a u:=by
 rcases r with r|⟨o,r⟩
 ·exact x a u r
 ·obtain⟨_,q⟩:=x a _ r;exact q
def X4:Option HO->Prop
 |some (.lst _)=>True
 |some (.dK _)=>True
 |some (.dT _)=>True
 |some (.set _ _)=>True
 |some (.ins _ _ _)=>True
 |some (.ext _)=>True
 |_=>False
def xD.write(t:xD P w H h)(g:X4 (H x))(o:e=x\/H e=↑(.own x))(k:∀b u,b≠e->h.get? b=↑u->h'.get? b=↑u)(m:∃u,h'.get? e=↑u)
 (n:vO P w (upd H x p) h' x p):xD P w (upd H x p) h':=λb u q=>by
  have d:∀c y,H c=↑(.own y)->c≠x:=λc y r z=>by subst z;rw[r]at g;exact g
  have f:∀c i,H c=↑(.tup i)->c≠x:=λc i r z=>by subst z;rw[r]at g;exact g
  by_cases j:b=x
  · subst j; rw[uO]at q; cases q; exact n
  · rw[uL j]at q
    by_cases a:b=e
    · have s : H b = some (.own x) := by
        rcases o with z|z
        · exact g8 (a.trans z) j
        · rw[a]; exact z
      rw[q]at s;cases s
      obtain⟨v,A⟩:=m
      exact#[v,by rw[a];exact A]
    · refine(t b u q).C0 (λc v l r => k c v ?_ r) (λc r => by rw[uL<|d c b r]; exact r) λc i r => by rw[uL<|f c i r]; exact r
      rcases l with rfl|l
      · exact a
      · rintro rfl
        rcases o with z|z
        · exact d c b l z
        · rw[l]at z; cases z; exact j rfl
structure Un(fs ex:List gH)(H H':Hp)(h h':iG):Prop where
 keep:∀b o,h.get? b=↑o->H b=none->b∉fs->b∉ex->h'.get? b=↑o
 slot:∀b o,h.get? b=↑o->H b=none->b∈fs->b∉ex->∃sl,h'.get? b=some { o with slots:=sl}
 free:∀b o,h.get? b=↑o->H b=none->b∉ex->H' b=none
 there:∀b o,h.get? b=↑o->b∉ex->∃o',h'.get? b=↑o'
 Bh:∀b xs,H b=↑(.tup xs)->H' b=↑(.tup xs)
 AV:∀b o u,H b=↑(.Ju o u)->H' b=↑(.Ju o u)
 AW:∀b ps,H b=↑(.EQ ps)->∃more,H' b=↑(.EQ<|ps++more)
def Un.any(u:Un fs e H H1 h f)(q:h.get? b=↑a)(n:H b=none)(c:b∉e):∃g,f.get? b=some { a with slots:=g}:=by
 by_cases d:b∈fs
 ·exact u.slot b a q n d c
 ·exact#[a.slots,u.keep b a q n d c]
def Un.trans(a:Un fs ex H H1 h h1)(b:Un fs ex H1 H2 h1 h2):Un fs ex H H2 h h2 where
 keep:=λc ob q n hc hx=>b.keep c ob (a.keep c ob q n hc hx) (a.free c ob q n hx) hc hx
 slot:=λc ob q n hc hx=>by obtain⟨sl,e1⟩:=a.slot c ob q n hc hx;obtain⟨sl',e2⟩:=b.slot c _ e1 (a.free c ob q n hx) hc hx;exact#[sl',e2]
 free:=λc ob q n hx=>by obtain⟨o',e1⟩:=a.there c ob q hx;exact b.free c o' e1 (a.free c ob q n hx) hx
 there:=λc ob q hx=>by obtain⟨o',e1⟩:=a.there c ob q hx;exact b.there c o' e1 hx
 Bh:=λc xs q=>b.Bh c xs<|a.Bh c xs q
 AV:=λc ob xs q=>b.AV c ob xs<|a.AV c ob xs q
 AW:=λc ps q=>by obtain⟨m1,e1⟩:=a.AW c ps q;obtain⟨m2,e2⟩:=b.AW c _ e1;exact#[m1++m2,by rw[e2,pO]]
def Un.kept(k:∀b u,h.get? b=↑u->c.get? b=↑u):Un fs d H H h c :=
 #[λb a q _ _ _=>k b a q,λb a q _ _ _=>#[a.slots,k b a q],λ_ _ _ n _=>n,λb a q _=>#[a,k b a q],λ_ _ q=>q,λ_ _ _ q=>q,λ_ e q=>#[#v[],by rw[q];simp]]
def Un.refl:Un fs a H H h h:=Un.kept λ_ _ q=>q
def Un.laid(k:∀b u,h.get? b=↑u->h'.get? b=↑u)(hp:h.objs.size<=a)(hn:H a=none):Un fs ex H (upd H a o) h h' where
 keep:=λb u q _ _ _=>k b u q
 slot:=λb u q _ _ _=>#[u.slots,k b u q]
 free:=λb u q n _=>by rw[uL<|gZ<|hR (gP q) hp];exact n
 there:=λb u q _=>#[u,k b u q]
 Bh:=λb xs q=>by rw[uL<|uU q hn];exact q
 AV:=λb u xs q=>by rw[uL<|uU q hn];exact q
 AW:=λb ps q=>#[#v[],by rw[uL<|uU q hn,q];simp]
def Un.write(c:X4 (H x))(j:e=x\/H e=↑(.own x))(k:∀b u,b≠e->h.get? b=↑u->h'.get? b=↑u)(d:∃u,h'.get? e=↑u):Un fs p H (upd H x o) h h':=by
 have g:∀b,H b=none->b≠x:=λb n z=>by subst z;rw[n]at c;exact c
 have i:∀b,H b=none->b≠e:=λb n z=>by
  subst z;rcases j with r|r
  ·exact g b n r
  ·rw[n]at r;cases r
 have f:∀b u,H b=↑u->¬X4 ↑u->b≠x:=λb u q l z=>by subst z;rw[q]at c;exact l c
 refine#[λb u q n _ _=>k b u (i b n) q,λb u q n _ _=>#[u.slots,k b u (i b n) q],λb u q n _=>by rw[uL (g b n)];exact n,λb u q _=>?_,
  λb m q=>by rw[uL (f b _ q λz=>z)];exact q,λb u m q=>by rw[uL (f b _ q λz=>z)];exact q,λb s q=>#[#v[],by rw[uL (f b _ q λz=>z),q];simp]]
 by_cases a:b=e
 ·subst a;exact d
 ·exact#[u,k b u a q]
noncomputable def ZH(h:iG)(H:Hp):List gH:=(hW h.objs.size).filter λa=>(H a).isSome
noncomputable def HQ(h:iG)(H:Hp):iG:=lQ h<|ZH h H
def MS(h:iG)(H:Hp):(HQ h H).objs.size=h.objs.size:=PySem.W.hideAll_size _ _
def DD{h:iG}(e:h.get? b=↑o)(n:H b=none):(HQ h H).get? b=↑o :=
 oY _ e λa=>by have q:(H b).isSome=true:=(List.mem_filter.mp a).2;rw[n]at q;simp at q
def R7(e:(HQ h H).get? b=↑o):h.get? b=↑o/\H b=none:=by
 have a:h.get? b=↑o:=mY (ZH h H) e;refine#[a,?_]
 cases q:H b with
 |none=>rfl
 |some x =>
  have c:b∈ZH h H:=List.mem_filter.mpr #[List.mem_range.mpr<|gP a,by simp[q]];have z:(HQ h H).get? b=none:=r9 (ZH h H) c;rw[z]at e;cases e
noncomputable def R8(g h:iG)(L:gH):List (gH×Obj):=(hW h.objs.size).filterMap λa=>if a=L\/(g.get? a).isSome=true then none else (h.get? a).map λo=>(a,o)
noncomputable def rest(g h:iG)(L d:gH):List (gH×Obj):=(R8 g h L).filter λp=>decide<|p.1≠d
structure Mod(K:gG)(mg:Str->Option ci)(base:iG):Prop where
 Bf:K.In base
 glob:base.Ns g9 mg
 blt:∃mb,base.Ns oi mb/\∀x:Str,x≠"__name__"->mb x=mH x
 nolimit:base.NoLimit
structure Cx where
 prog:im
 w:iL
 K:gG
 mg:Str->Option ci
 base:iG
 A:jq
 N:List Str
 s₀:gO
 H₀:Hp
 env:Env
 outer:List Env
 stack:List Env
 ex:List gH
 fn:Str->Bool
 calm:Bool
 pn:List (gH×Obj)
 xe:ci->gO->Prop
noncomputable def yT(l:List Env):List gH:=l.filterMap (·.frame)
noncomputable abbrev Cx.fs(X:Cx):List gH:=yT X.outer
def Vis(a:lV)(x:Str):Prop:=a.names.lookup x=some .local\/a.names.lookup x=some .cell\/a.names.lookup x=some .free
def Loc(a:lV)(x:Str):Prop:=a.names.lookup x=some .local\/a.names.lookup x=some .cell
def Look(a:Env)(h:iG)(m:Str->Option ci)(x:Str)(u:ci):Prop :=
 (a.kindOf x=some .local/\m x=↑u)\/((a.kindOf x=some .cell\/a.kindOf x=some .free)/\∃c,a.cells.lookup x=↑c/\h.IsCell c ↑u)
structure Cx.Ok(X:Cx):Prop where
 mod:Mod X.K X.mg X.base
 kind:X.env.scope.kind=.function
 glob:X.env.globals=g9
 blt:X.env.builtins=oi
 above:X.s₀.heap.objs.size<=X.env.locals
 inj:∀x y c,X.env.cells.lookup x=↑c->X.env.cells.lookup y=↑c->x=y
 has:∀x,(X.env.kindOf x=some .cell\/X.env.kindOf x=some .free)->∃c,X.env.cells.lookup x=↑c
 Od:∀x c,X.fn x=true->X.env.cells.lookup x=↑c->X.s₀.heap.objs.size<=c
 hd:X.calm=true->X.A.handled=none
 frames:X.A.frames=↑X.stack
 B5:X.stack=X.outer\/(X.stack=X.env::X.outer/\X.env.frame=↑X.env.locals)
 R9:∀b∈X.ex,b≠X.env.locals/\∀x c,X.env.cells.lookup x=↑c->c≠b
 bs:∀b o,X.base.get? b=↑o->X.s₀.heap.get? b=↑o/\X.H₀ b=none
 HR:X.base.objs.size<=X.s₀.heap.objs.size
 C3:∀b o,X.base.get? b=↑o->b∉X.ex
 DE:∀b∈X.ex,b∉X.fs
 yo:X.s₀.heap.FunFrames X.base X.outer
 Jo:∀b∈X.fs,X.H₀ b=none
structure Inv(X:Cx)(pins:List (gH×Obj))(σ:List (Option V))(H:Hp)(s:gO):Prop where
 ok:X.Ok
 os:s.os=X.s₀.os
 bare:m6 s.gens
 base:Un X.fs X.ex X.H₀ H X.s₀.heap s.heap
 loc:∃m,s.heap.Ns X.env.locals m/\∀(i:Nat)(x:Str)(v:V),X.N[i]?=↑x->σ[i]?=↑(some v)->Vis X.env.scope x->∃u,RelV v u/\Look X.env s.heap m x u
 cell:∀x c,X.env.cells.lookup x=↑c->∃v,s.heap.IsCell c v
 free:H X.env.locals=none
 xX:∀x c,X.env.cells.lookup x=↑c->H c=none
 pin:∀p∈X.pn++pins,s.heap.get? p.1=↑p.2/\H p.1=none/\p.1≠X.env.locals/\p.1∉X.fs/\∀v,p.2.data≠.cell v
 vD:xD X.prog X.w H s.heap
 len:σ.length=X.N.length
section
variable{X:Cx}{pins:List (gH×Obj)}{σ:List (Option V)}{H H':Hp}{s:gO}
def Cx.Ok.a0c(a:X.Ok)(e:X.base.get? b=↑o):b∉X.fs:=λc=>by have:=(a.yo.mem c).1;rw[e]at this;cases this
def Inv.bs(I:Inv X pins σ H s):∀b o,X.base.get? b=↑o->s.heap.get? b=↑o/\H b=none:=λb o e =>
 #[I.base.keep b o (I.ok.bs b o e).1 (I.ok.bs b o e).2 (I.ok.a0c e)<|I.ok.C3 b o e,I.base.free b o (I.ok.bs b o e).1 (I.ok.bs b o e).2<|I.ok.C3 b o e]
def Inv.bk(I:Inv X pins σ H s):∀b o,X.base.get? b=↑o->s.heap.get? b=↑o:=λb o e=>(I.bs b o e).1
def Inv.mod(I:Inv X pins σ H s):Mod X.K X.mg X.base:=I.ok.mod
def Inv.yr(I:Inv X pins σ H s):X.K.In s.heap:=I.ok.mod.Bf.keeps I.bk
def Inv.nolimit(I:Inv X pins σ H s):s.heap.NoLimit:=I.ok.mod.nolimit.keeps I.bk
def Inv.lt(I:Inv X pins σ H s):X.env.locals<⇑s:=e1a2 I.loc λ_ a _=> a.lt
def Inv.sz(I:Inv X pins σ H s):X.s₀.heap.objs.size<=⇑s:=iV I.ok.above<|lM I.lt
def Inv.a0d(I:Inv X pins σ H s)(h:⇑s<=a):a∉X.fs:=λb=>by obtain⟨_,o,c,_⟩:=I.ok.yo.mem b;exact g8 (hR (gP c)<|iV I.sz h)<|jI _
def Inv.cne(I:Inv X pins σ H s):∀x c,X.env.cells.lookup x=↑c->c≠X.env.locals:=λx c e z=>by refine e2a2 (I.cell x c e) λv o d f=>?_;obtain⟨m,⟨g,h,i,a,b,_⟩,_⟩:=I.loc;rw[z,a]at d;cases d;rw[b]at f;cases f
def Inv.yo(I:Inv X pins σ H s):s.heap.FunFrames X.base X.outer:=by
 have a:∀(l:List Env),(∀b∈yT l,b∈X.fs)->X.s₀.heap.FunFrames X.base l->s.heap.FunFrames X.base l:=by
  intro l
  induction l with
  |nil=>intro _ _;trivial
  |cons h r i =>
   intro g j;obtain⟨k,⟨L,o,c,m,n,p⟩,q⟩:=j;have d:L∈X.fs:=g L (by unfold yT;rw[kE,c];exact gM);obtain⟨t,e⟩:=I.base.slot L o n (I.ok.Jo L d) d λz=>I.ok.DE L z d;exact#[k,#[L,_,c,m,e,p],i (λb f=>g b<|by unfold yT;rw[kE,c];exact gQ _ f) q]
 exact a X.outer (λ_ f=>f) I.ok.yo
def Inv.stack(I:Inv X pins σ H s):s.heap.FunFrames X.base X.stack:=by
 rcases I.ok.B5 with e|⟨e,a⟩
 ·rw[e];exact I.yo
 ·rw[e];refine e1a2 I.loc λm b _=>?_;refine .cons (by rw[I.ok.kind];decide) a b ?_ I.yo;exact mQ<|iV I.ok.HR I.ok.above
def Inv.DF(I:Inv X pins σ H s):∀b∈yT X.stack,b∈X.env.locals::X.fs:=λb a=>by
 rcases I.ok.B5 with e|⟨e,c⟩
 ·rw[e]at a;exact gQ _ a
 ·rw[e]at a;unfold yT at a;rw[kE,c]at a;exact a
def Inv.LF(I:Inv X pins σ H s):∀b∈yT X.stack,H b=none:=λb a=>by
 rcases List.mem_cons.mp (I.DF b a) with e|a
 ·rw[e];exact I.free
 ·obtain⟨_,o,c,_⟩:=I.ok.yo.mem a;exact I.base.free b o c (I.ok.Jo b a) λz=>I.ok.DE b z a
def Inv.step{g':Array oZ}{t':Nat}{ch:List gH}(I:Inv X pins σ H s)
 (g:∀b∈ch,(b∈X.ex\/X.s₀.heap.objs.size<=b)/\b≠X.env.locals/\(∀x c,X.env.cells.lookup x=↑c->c≠b)/\∀p∈X.pn++pins,p.1≠b)
 (h:∀b o,b≠X.env.locals->b∉X.fs->b∉ch->s.heap.get? b=↑o->H b=none->h'.get? b=↑o)
 (B:∀b o,b≠X.env.locals->b∈X.fs->b∉ch->s.heap.get? b=↑o->H b=none->∃R,h'.get? b=some { o with slots:=R}) (f:∀b o,b∉ch->s.heap.get? b=↑o->H b=none->H' b=none)
 (D:∀b o,b∉ch->s.heap.get? b=↑o->∃G,h'.get? b=↑G)
 (J:∀b C,H b=↑(.tup C)->H' b=↑(.tup C)) (L:∀b o u,H b=↑(.Ju o u)->H' b=↑(.Ju o u)) (M:∀b Q,H b=↑(.EQ Q)->∃N,H' b=↑(.EQ<|Q++N))
 (ns:∀m,s.heap.Ns X.env.locals m->h'.Ns X.env.locals m) (S:xD X.prog X.w H' h') (hg:m6 g') :
    Inv X pins σ H' { s with heap:=h',gens:=g',drawn:=d',toks:=t'}:=by
  have O:∀b o,X.s₀.heap.get? b=↑o->b≠X.env.locals:=λb o e=>gZ<|hR (gP e) I.ok.above
  have y:∀b o,X.s₀.heap.get? b=↑o->b∉X.ex->b∉ch:=λb o e a E=>by
    rcases(g b E).1 with z|z
    · exact a z
    · exact g8 (hR (gP e) z)<|jI _
  have j:∀x c,X.env.cells.lookup x=↑c->∀v,s.heap.IsCell c v->h'.IsCell c v:=λx c e v z9=>e1a2 z9 λo F T=>by
    have t:c∉ch:=λz=>(g c z).2.2.1 x c e rfl
    by_cases W:c∈X.fs
    · obtain⟨R, q⟩ := B c o (I.cne x c e) W t F (I.xX x c e)
      exact#[_,q,T]
    · exact#[o, h c o (I.cne x c e) W t F<|I.xX x c e, T]
  refine#[I.ok,I.os,hg,#[λb o e n E a=>?_,λb o e n E a=>?_,λb o e n a=>?_,λb o e a=>?_,λb C e=>J b C<|I.base.Bh b C e,λb o C e=>L b o C<|I.base.AV b o C e,λb Q e=>?_],?_,λx c e=>?_,?_,λx c e=>?_,λp Y=>?_,S,I.len]
  · exact h b o (O b o e) E (y b o e a) (I.base.keep b o e n E a)<|I.base.free b o e n a
  · obtain⟨R, A⟩ := I.base.slot b o e n E a
    obtain⟨U,P⟩:=B b _ (O b o e) E (y b o e a) A<|I.base.free b o e n a
    exact#[U,P]
  · obtain⟨G, A⟩ := I.base.there b o e a
    exact f b G (y b o e a) A<|I.base.free b o e n a
  · obtain⟨G, A⟩ := I.base.there b o e a
    exact D b G (y b o e a) A
  · obtain⟨m1, A⟩ := I.base.AW b Q e
    obtain⟨m2,P⟩:=M b _ A
    exact#[m1++m2,by rw[P,pO]]
  · refine e1a2 I.loc λm hn hl => ?_
    refine#[m,ns m hn,λi x v A P e3=>?_]
    refine e1a2 (hl i x v A P e3) λu r l=>?_
    refine#[u,r,?_]
    rcases l with l|⟨k,c,e,z⟩
    · exact .inl l
    · exact .inr #[k, c, e, j x c e _ z]
  · obtain⟨v, z⟩ := I.cell x c e
    exact#[v,j x c e v z]
  · obtain⟨m, ⟨o, _, _, F, _⟩, _⟩ := I.loc
    exact f _ o (λz=>(g _ z).2.1 rfl) F I.free
  · refine e2a2 (I.cell x c e) λv o F T => ?_
    exact f c o (λz=>(g c z).2.2.1 x c e rfl) F<|I.xX x c e
  · obtain⟨e, n, Z, nf, d⟩ := I.pin p Y
    have t:p.1∉ch:=λz=>(g p.1 z).2.2.2 p Y rfl
    exact#[h p.1 p.2 Z nf t e n,f p.1 p.2 t e n,Z,nf,d]
def Inv.un{t':Nat}(I:Inv X pins σ H s)(u:Un X.fs [] H H' s.heap h')(c:xD X.prog X.w H' h'):Inv X pins σ H' { s with heap:=h',toks:=t'}:=by
 obtain⟨m,⟨o,l,p,h,r⟩,_⟩:=id I.loc;obtain⟨q,i⟩:=u.any h I.free q0o
 exact I.step (g':=s.gens) (d':=s.drawn) (ch:=[]) (λ_ z=>nomatch z) (λb o _ d _ e n=>u.keep b o e n d q0o) (λb o _ d _ e n=>u.slot b o e n d q0o) (λb o _ e n=>u.free b o e n q0o) (λb o _ e=>u.there b o e q0o) u.Bh u.AV u.AW (λt j=>by
  refine e3a2 j λv f g a k=>?_;rw[h]at a;cases a
  exact#[_,f,g,i,k]) c I.bare
def Inv.call{g':Array oZ}{t':Nat}{ch:List gH}(I:Inv X pins σ H s)(u:Un (yT X.stack) ch H H' s.heap h')(g:xD X.prog X.w H' h')(l:m6 g')
 (d:∀b∈ch,(b∈X.ex\/X.s₀.heap.objs.size<=b)/\b≠X.env.locals/\(∀x c,X.env.cells.lookup x=↑c->c≠b)/\∀p∈X.pn++pins,p.1≠b) :
    Inv X pins σ H' { s with heap:=h',gens:=g',drawn:=d',toks:=t'}:=by
  obtain⟨m,⟨o,y,A,k,r⟩,_⟩:=id I.loc
  obtain⟨B,h⟩:=u.any k I.free λz=>(d _ z).2.1 rfl
  exact I.step (ch:=ch) d (λb o h q a e n=>u.keep b o e n (λz=>(List.mem_cons.mp (I.DF b z)).elim h q) a) (λb o _ _ a e n=>u.any e n a) (λb o a e n=>u.free b o e n a) (λb o a e=>u.there b o e a) u.Bh u.AV u.AW (λC t=>by
    refine e3a2 t λD i j f v=>?_
    rw[k]at f;cases f
    exact#[_,i,j,h,v]) g l
def Inv.turned{t':Nat}(I:Inv X pins σ H s)(k:∀b o,b≠a->s.heap.get? b=↑o->h.get? b=↑o)(i:H a=none)(g:a≠X.env.locals)
 (j:a∈X.ex\/X.s₀.heap.objs.size<=a)(l:∀x c,X.env.cells.lookup x=↑c->c≠a)(t:∀p∈X.pn++pins,p.1≠a):Inv X pins σ H { s with heap:=h,toks:=t'}:=by
  have f:∀b u,H b=↑u->b≠a:=λb u e z=>by rw[z,i]at e;cases e
  refine I.step (g':=s.gens) (d':=s.drawn) (ch:=[a]) (λb w=>?_) (λb o _ _ d e _=>k b o (λz=>d<|by simp[z]) e) (λb o _ _ d e _=>#[o.slots,k b o (λz=>d<|by simp[z]) e]) (λ_ _ _ _ n=>n)
    (λb o d e=>#[o,k b o (λz=>d<|by simp[z]) e]) (λ_ _ e=>e) (λ_ _ _ e=>e) (λb D e=>#[#v[],by rw[e];simp]) (λm y=>?_) (λb u e=>?_) I.bare
  · have e : b = a := by simpa using w
    subst e
    exact#[j,g,l,t]
  · refine e3a2 y λo A B C r => ?_
    exact#[o,A,B,k _ o (Ne.symm g) C,r]
  · refine(I.vD b u e).C0 (λc v d q => k c v ?_ q) (λ_ q => q) λ_ _ q => q
    rcases d with z|z
    · rw[z]; exact f b u e
    · exact f c _ z
def Inv.tok(I:Inv X pins σ H s)(t:Nat):Inv X pins σ H { s with toks:=t}:=I.un (h':=s.heap) (t':=t) Un.refl I.vD
def Inv.kept{t':Nat}(I:Inv X pins σ H s)(k:∀b u,s.heap.get? b=↑u->a.get? b=↑u):Inv X pins σ H { s with heap:=a,toks:=t'}:=I.un (Un.kept k)<|I.vD.kept k
def Inv.laid{t':Nat}(I:Inv X pins σ H s)(k:∀b u,s.heap.get? b=↑u->h'.get? b=↑u)(c:⇑s<=a)(d:vO X.prog X.w (upd H a o) h' a o) :
  Inv X pins σ (upd H a o) { s with heap:=h',toks:=t'}:=I.un (Un.laid k c<|I.vD.fresh c)<|I.vD.laid k c d
def Inv.write{t':Nat}(I:Inv X pins σ H s)(d:X4 (H x))(f:e=x\/H e=↑(.own x))(k:∀b u,b≠e->s.heap.get? b=↑u->h'.get? b=↑u)(a:∃u,h'.get? e=↑u)
 (c:vO X.prog X.w (upd H x o) h' x o):Inv X pins σ (upd H x o) { s with heap:=h',toks:=t'}:=I.un (Un.write d f k a)<|I.vD.write d f k a c
def Inv.yX(I:Inv X pins σ H s)(h:∀p∈pins',s.heap.get? p.1=↑p.2/\H p.1=none/\p.1≠X.env.locals/\p.1∉X.fs/\∀v,p.2.data≠.cell v):Inv X pins' σ H s :=
 #[I.ok,I.os,I.bare,I.base,I.loc,I.cell,I.free,I.xX,λp a=>(List.mem_append.mp a).elim (λz=>I.pin p<|iW _ z)<|h p,I.vD,I.len]
def HS{N:List Str}(c:N.Nodup){i j:Nat}(a:N[i]?=↑x)(b:N[j]?=↑x):i=j:=by obtain⟨f,d⟩:=List.getElem?_eq_some_iff.mp a;obtain⟨g,e⟩:=List.getElem?_eq_some_iff.mp b;exact(List.getElem_inj c).mp<|d.trans e.symm
def Fl{E:ci->gO->Prop}{i:Nat}{Q:Unit->gO->Prop}(I:Inv X pins σ H s)(hN:X.N.Nodup)(S:X.N[i]?=↑x)(B:Loc X.env.scope x)(r:RelV v u)
 (h:∀s',Inv X pins (σ.set i<|↑v) H s'->(∃a,iT a s.heap s'.heap/\(a=X.env.locals\/X.env.cells.lookup x=↑a))->Q () s')(hf:X.fn x=true\/X.env.scope.names.lookup x=some .local:=by first|exact .inl rfl|exact .inr rfl|assumption):gS M A (storeName X.env x u) Q E s:=by
  refine e1a2 (id I.loc) λm hn hl=>?_
  have T:(X.env.scope.kind==.class||(X.env.scope.kind==.module&&X.env.locals != X.env.globals))=false:=by rw[I.ok.kind];rfl
  have F:i<σ.length:=by rw[I.len];exact(List.getElem?_eq_some_iff.mp S).1
  have J:=I.cne
  have g:∀{a:gH} {R:iG},(∃o,s.heap.get? a=↑o/\H a=none)->iT a s.heap R->xD X.prog X.w H R:=λ{a R} ha f b ob e=>by
    refine e1a2 ha λ_ _ C=>?_
    refine(I.vD b ob e).C0 (λc w' t q=>(f.2 c ?_).trans q) (λ_ q=>q) λ_ _ q=>q
    rintro rfl
    rcases t with rfl|t
    · rw[C]at e; cases e
    · rw[C]at t; cases t
  rcases B with G|G
  · refine wpAny_storeName_local G hn (λR aa f => ?_) T
    refine e3a2 (id hn) λoL _ _ ab _=>?_
    refine h _ #[I.ok,I.os,I.bare,#[λb o e n L B=>?_,λb o e n L B=>?_,I.base.free,λb o e B=>?_,I.base.Bh,I.base.AV,I.base.AW],#[_,aa,λj y v' l D e3=>?_],λy c e=>?_,I.free,I.xX,λp hp=>?_,g #[oL,ab,I.free] f,by simpa using I.len] #[_,f,.inl rfl]
    · exact(f.2 b<|gZ<|hR (gP e) I.ok.above).trans<|I.base.keep b o e n L B
    · obtain⟨sl, l⟩ := I.base.slot b o e n L B
      exact#[sl,(f.2 b<|gZ<|hR (gP e) I.ok.above).trans l]
    · obtain⟨o', l⟩ := I.base.there b o e B
      exact#[o',(f.2 b<|gZ<|hR (gP e) I.ok.above).trans l]
    · by_cases O : j = i
      · subst O
        rw[S]at l;cases l
        rw[oG F]at D
        cases D
        exact#[u,r,.inl #[G,q0o]]
      · rw[mS<|Ne.symm O]at D
        refine e1a2 (hl j y v' l D e3) λu' r' q=>?_
        refine#[u',r',?_]
        rcases q with⟨k,e⟩|⟨k,c,e,z⟩
        · refine .inl #[k, ?_]
          have:y≠x:=λe=>O<|HS hN l<|e▸S
          simp[this,e]
        · exact .inr #[k, c, e, z.sameBut f<|J y c e]
    · obtain⟨w', z⟩ := I.cell y c e
      exact#[w',z.sameBut f<|J y c e]
    · obtain⟨e, n, ne, nf, d⟩ := I.pin p hp
      exact#[(f.2 p.1 ne).trans e,n,ne,nf,d]
  · have P : X.fn x = true := by
      rcases hf with z|z
      · exact z
      · rw[z]at G; cases G
    obtain⟨c,t⟩:=I.ok.has x<|.inl G
    obtain⟨w',z⟩:=I.cell x c t
    refine wpAny_storeName_cell I.ok.kind G t z<|λR U f=>?_
    refine e1a2 (id z) λoc W Y=>?_
    refine h { s with heap:=R} #[I.ok,I.os,I.bare,#[λb o e n L B=>?_,λb o e n L B=>?_,I.base.free,λb o e B=>?_,I.base.Bh,I.base.AV,I.base.AW],#[m,hn.sameBut f<|Ne.symm<|J x c t,λj y v' l D e3=>?_],λy c' e=>?_,I.free,I.xX,λp hp=>?_,g #[oc,W,I.xX x c t] f,by simpa using I.len] #[c,f,.inr t]
    · exact(f.2 b<|gZ<|hR (gP e)<|I.ok.Od x c P t).trans<|I.base.keep b o e n L B
    · obtain⟨sl, l⟩ := I.base.slot b o e n L B
      exact#[sl,(f.2 b<|gZ<|hR (gP e)<|I.ok.Od x c P t).trans l]
    · obtain⟨o', l⟩ := I.base.there b o e B
      exact#[o',(f.2 b<|gZ<|hR (gP e)<|I.ok.Od x c P t).trans l]
    · by_cases O : j = i
      · subst O
        rw[S]at l;cases l
        rw[oG F]at D
        cases D
        exact#[u,r,.inr #[.inl G,c,t,U]]
      · rw[mS<|Ne.symm O]at D
        refine e1a2 (hl j y v' l D e3) λu' r' q=>?_
        refine#[u',r',?_]
        rcases q with q|⟨k,c',e,z'⟩
        · exact .inl q
        · refine .inr #[k, c', e, z'.sameBut f ?_]
          rintro rfl
          exact O<|HS hN l<|I.ok.inj _ _ _ e t▸S
    · by_cases Z : c' = c
      · subst Z; exact#[_, U]
      · obtain⟨w2, z2⟩ := I.cell y c' e
        exact#[w2,z2.sameBut f Z]
    · obtain⟨e, n, ne, nf, d⟩ := I.pin p hp
      refine#[(f.2 p.1 ?_).trans e,n,ne,nf,d]
      intro q
      rw[q,W]at e
      have q':oc=p.2:=iP e
      exact d w' (by rw[<- q'];exact Y)
def HU{i:Nat}(I:Inv X pins σ H s)(b:X.N.Nodup)(c:X.N[i]?=↑x)(d:Loc X.env.scope x)(r:RelV v u)
 (h:∀a,Inv X pins (σ.set i<|↑v) H a->Q () a)(e:X.fn x=true\/X.env.scope.names.lookup x=some .local:=by first|exact .inl rfl|exact .inr rfl|assumption):gS M A (storeName X.env x u) Q E s :=
  Fl I b c d r (λa f _=>h a f) e
def Inv.U1{a:gO}(I:Inv X pins σ H s)(g:a.os=s.os)(u:Un (yT X.stack) ch H H' s.heap a.heap)(d:xD X.prog X.w H' a.heap)(h:m6 a.gens)
 (f:∀b∈ch,(b∈X.ex\/X.s₀.heap.objs.size<=b)/\b≠X.env.locals/\(∀x c,X.env.cells.lookup x=↑c->c≠b)/\∀p∈X.pn++pins,p.1≠b):Inv X pins σ H' a:=by
  obtain⟨m,i,j,k,l⟩:=a
  have e:l=s.os:=g
  subst e
  exact I.call (g':=i) (t':=k) (d':=j) u d h f
end
abbrev XK:=ci->Option gH->Hp->Prop
abbrev St:=List<|Option V
abbrev VK:=V->Hp->Prop
abbrev TE:=St->Hp->VK->Prop
abbrev TT:=St->Hp->(Bool->Hp->Prop)->Prop
abbrev TA:=St->Hp->(List V->Hp->Prop)->Prop
structure Ends where
 nx:St->Hp->Prop
 rt:VK
 bk:St->Hp->Prop:=λ_ _=>False
 ct:St->Hp->Prop:=λ_ _=>False
abbrev TS:=Ends->St->Hp->Prop
def EP(X:Cx)(a:List (gH×Obj))(c:St)(Q:VK)(u:ci)(d:gO):Prop:=∃v b,Inv X a c b d/\RelV v u/\Q v b
def TP(X:Cx)(a:List (gH×Obj))(d:St)(Q:Bool->Hp->Prop)(b:Bool)(e:gO):Prop:=∃c,Inv X a d c e/\Q b c
def AP(X:Cx)(a:List (gH×Obj))(d:St)(Q:List V->Hp->Prop)(e:List ci)(f:gO):Prop:=∃b c,Inv X a d c f/\Vals b e/\Q b c
def SP(X:Cx)(b:List (gH×Obj))(D:Ends)(f:Flow)(d:gO):Prop :=
 match f with
 | .next=>∃a c,Inv X b a c d/\D.nx a c
 | .brk=>∃a c,Inv X b a c d/\D.bk a c
 | .cont=>∃a c,Inv X b a c d/\D.ct a c
 | .ret u=>∃v a c,Inv X b a c d/\RelV v u/\D.rt v c
def PE(X:Cx)(e:iD)(t:TE):Prop :=
 ∀(a:List (gH×Obj)) (s:gO) (b:St) (H:Hp) (Q:VK),Inv X a b H s->t b H Q->gS 19 X.A (eval e X.env) (EP X a b Q) X.xe s
def PT(X:Cx)(e:iD)(t:TT):Prop :=
 ∀(a:List (gH×Obj)) (s:gO) (b:St) (H:Hp) (Q:Bool->Hp->Prop),Inv X a b H s->t b H Q->gS 19 X.A (qF e X.env<|eval e X.env) (TP X a b Q) X.xe s
def PW(X:Cx)(e:iD)(t:TT):Prop :=
 ∀(b:Sem ci) (a:List (gH×Obj)) (s:gO) (c:St) (H:Hp) (Q:Bool->Hp->Prop),Inv X a c H s->t c H Q->gS 19 X.A (qF e X.env b) (TP X a c Q) X.xe s
def PW.pt(h:PW X e t):PT X e t:=h _
def PA(X:Cx)(d:List iD)(t:TA):Prop :=
 ∀(b:Pos) (a:List (gH×Obj)) (s:gO) (c:St) (H:Hp) (Q:List V->Hp->Prop),Inv X a c H s->t c H Q->gS 19 X.A (uk<|jg b<|gJ d X.env) (AP X a c Q) X.xe s
def PS(X:Cx)(c:ic)(t:TS):Prop :=
 ∀(a:List (gH×Obj)) (s:gO) (b:St) (H:Hp) (D:Ends),Inv X a b H s->t D b H->gS 19 X.A (exec c X.env) (SP X a D) X.xe s
def EU(X:Cx)(c:List ic)(t:TS):Prop :=
 ∀(a:List (gH×Obj)) (s:gO) (b:St) (H:Hp) (D:Ends),Inv X a b H s->t D b H->gS 19 X.A (execs c X.env) (SP X a D) X.xe s
def vB{b:Type}{t:Sem b}{Q c:b->gO->Prop}{M:Model}{A:jq}{E:ci->gO->Prop}{s:gO}(h:gS M A t Q E s)(d:∀a s,Q a s->c a s):gS M A t c E s:=iY h d λ_ _ x=>x
section
variable{X:Cx}
def vr(i:Nat):TE:=λa H Q=>∃v,a[i]?=↑(some v)/\Q v H
def tC(v:V):TE:=λ_ H Q=>Q v H
def Jv{i:Nat}(n:X.N[i]?=↑x)(o:Vis X.env.scope x)(g:(x==55)=false:=by decide)(j:(x==("__classdict__":Str))=false:=by decide):PE X 88 (vr i):=by
 intro f s p H Q I h;refine e1a2 h λv e h=>?_;refine e1a2 I.loc λm q t=>?_;refine e1a2 (t i x v n e o) λu r l=>?_;have b:EP X f p Q u s:=#[v,H,I,r,h];rcases l with⟨d,w⟩|⟨d,c,k,a⟩
 ·exact pA (kF I.ok.kind d q w b) g
 ·rcases d with d|d
  ·exact pA (wpAny_loadName_cell I.ok.kind d k a b) g
  ·exact pA (qk I.ok.kind d k a b j) g
def vk{i j pos}:PE X (.Constant (.int i) j pos) (tC<|.int i):=λ_ _ _ H _ I h=>wpAny_Constant_int #[.int i,H,I.tok _,#[_,rfl],h]
def X5{b j pos}:PE X (.Constant (.bool b) j pos) (tC<|.bl b):=λ_ _ _ H _ I h=>Constant_bool #[.bl b,H,I,rfl,h]
def Jw{j pos}:PE X (.Constant .none j pos) (tC .wm):=λ_ _ _ H _ I h=>Constant_none #[.wm,H,I,rfl,h]
def FX{x j pos}:PE X (.Constant (.str x) j pos) (tC<|.str x):=λ_ _ _ H _ I h=>Calls.Constant_str #[.str x,H,I.tok _,#[_,rfl],h]
def Gl(X:Cx)(x:Str):Prop:=X.env.kindOf x=some .globalImplicit
def yY(I:Inv X a e H s)(b:Gl X x)(c:X.mg x=↑u)(h:Q u s)
 (d:(x==55)=false:=by decide):gS 19 X.A (eval 88 X.env) Q E s :=
  qW I.ok.kind b (Calls.loadGlobal_global (by rw[I.ok.glob];exact I.mod.glob.keeps I.bk) c h) d
def yZ(I:Inv X a j H s)(b:Gl X x)(c:X.mg x=none)(d:mH x=↑u)(h:Q u s)
 (e:x≠"__name__":=by decide)(f:(x==55)=false:=by decide):gS 19 X.A (eval 88 X.env) Q E s:=by
  refine e1a2 I.mod.blt λk g i=>?_
  exact qW I.ok.kind b (nS (by rw[I.ok.glob];exact I.mod.glob.keeps I.bk) c (by rw[I.ok.blt];exact g.keeps I.bk) ((i x e).trans d) h) f
def Sc(a:Gl X x)(b:X.mg x=↑u)(r:RelV v u)(c:(x==55)=false:=by decide):PE X 88 (tC v) :=
 λ_ _ _ H _ I h=>yY I a b #[v,H,I,r,h] c
def Ao(a:Gl X x)(b:X.mg x=none)(c:mH x=↑u)(r:RelV v u)(d:x≠"__name__":=by decide)(e:(x==55)=false:=by decide):PE X 88 (tC v) :=
 λ_ _ _ H _ I h=>yZ I a b c #[v,H,I,r,h] d e
variable{a b:iD}{ta tb:TE}{pos:Pos}
def PC(X:Cx)(g:qz)(a b:iD)(t:TE):Prop :=
 ∀(c:List (gH×Obj)) (s:gO) (f:St) (H:Hp) (Q:VK),Inv X c f H s->t f H Q ->
  gS 19 X.A (eval a X.env) (λv d=>gS 19 X.A (eval b X.env) (λu e=>gS 19 X.A (jr g v u) (EP X c f Q) X.xe e) X.xe d) X.xe s
def HV(b:iD)(h:op≠.In)(c:op≠.NotIn):iN op b=false:=by
 have d:(op==CmpOp.In)=false:=by cases op<;>first|rfl|exact g8 rfl h
 have e:(op==CmpOp.NotIn)=false:=by cases op<;>first|rfl|exact g8 rfl c
 cases b<;>simp[iN,d,e]
def tB(t:TE):TT:=λd H Q=>t d H λx e=>∃c,x=.bl c/\Q c e
def Oi(h:PC X op a b t)(d:iN op b=false:=by first|exact HV _ q0q q0q|rfl):PE X (.Compare a [op] [b] pos) t:=λc s e H Q I f=>sG (h c s e H Q I f) d
def Jx{f:qz}{t:TE}(h:PC X f a b t)(g:iN f b=false:=by first|exact HV _ q0q q0q|rfl):PT X (.Compare a [f] [b] pos) (tB t):=by intro e s i H Q I j;refine uA (vB (h e s i H _ I j) λv r g=>vB g λu w k=>vB k λc y l=>e2a3 l λx m n o p=>?_) g;obtain⟨d,rfl,q⟩:=p;cases o;exact jZ #[m,n,q]
def VM{e:iD}{t:TE}(h:PE X e t)(g:∀c,qF e X.env c=(do let v <- c;mI e.pos;kG [v] (ul v)):=by intro _;rfl):PT X e (tB t):=by intro f s i H Q I j;refine isTrue_plain (vB (h f s i H _ I j) λv p k=>e2a3 k λx l m n o=>?_)<|g _;obtain⟨d,rfl,q⟩:=o;cases n;exact jZ #[l,m,q]
variable{tA ZI:TT}{rest:List iD}
def a0f(t u:TT):TT:=λd H Q=>t d H λc e=>if c=true then u d e Q else Q false e
def tOr(t u:TT):TT:=λd H Q=>t d H λc e=>if c=true then Q true e else u d e Q
def a0g(t:TT):TT:=λd H Q=>t d H λc e=>Q (!c) e
def Sd(f:PT X a tA):PW X (.BoolOp .And [a] pos) tA:=by
 intro i d s g H Q I h;refine isTrue_and<|vB (f d s g H Q I h) λc j e=>?_
 cases c with
 |true=>exact isTrue_and_nil e
 |false=>exact e
def Oj(f:PT X a tA):PW X (.BoolOp .Or [a] pos) tA:=by
 intro i d s g H Q I h;refine isTrue_or<|vB (f d s g H Q I h) λc j e=>?_
 cases c with
 |false=>exact isTrue_or_nil e
 |true=>exact e
def VN(j:PT X a tA)(k:PW X (.BoolOp .And (b::rest) pos) ZI):PW X (.BoolOp .And (a::b::rest) pos) (a0f tA ZI):=by
 intro l d s e H Q I h;refine isTrue_and<|vB (j d s e H _ I h) λc m n=>e1a2 n λf g i=>?_
 cases c with
 |true=>exact k l d m e f Q g i
 |false=>exact#[f,g,i]
def U4(j:PT X a tA)(k:PW X (.BoolOp .Or (b::rest) pos) ZI):PW X (.BoolOp .Or (a::b::rest) pos) (tOr tA ZI):=by
 intro l d s e H Q I h;refine isTrue_or<|vB (j d s e H _ I h) λc m n=>e1a2 n λf g i=>?_
 cases c with
 |true=>exact#[f,g,i]
 |false=>exact k l d m e f Q g i
def VO(e:PT X a tA):PT X (.UnaryOp .Not a pos) (a0g tA):=by intro d s f H Q I h;exact isTrue_not<|e d s f H (λc g=>Q (!c) g) I h
def X6(ta tb:TE):TE:=λd H Q=>ta d H λx e=>∃c,x=.bl c/\if c=true then tb d e Q else Q (.bl false) e
def a0h(ta tb:TE):TE:=λd H Q=>ta d H λx e=>∃c,x=.bl c/\if c=true then Q (.bl true) e else tb d e Q
def X7(ta:TE):TE:=λd H Q=>ta d H λx e=>∃c,x=.bl c/\Q (.bl<|!c) e
def VP{op}(h:PE X a t):PE X (.BoolOp op [a] pos) t:=λc s d H Q I e=>BoolOp_one<|h c s d H Q I e
def VQ(j:PE X a ta)(k:PE X (.BoolOp .And (b::rest) pos) tb):PE X (.BoolOp .And (a::b::rest) pos) (X6 ta tb):=by
 intro d s f H Q I h;refine BoolOp_and<|vB (j d s f H _ I h) λv l m=>e2a3 m λx g i n e=>?_;obtain⟨c,rfl,e⟩:=e;cases n;refine jZ ?_
 cases c with
 |true=>exact k d l f g Q i e
 |false=>exact#[.bl false,g,i,rfl,e]
def X8(j:PE X a ta)(k:PE X (.BoolOp .Or (b::rest) pos) tb):PE X (.BoolOp .Or (a::b::rest) pos) (a0h ta tb):=by
 intro d s f H Q I h;refine BoolOp_or<|vB (j d s f H _ I h) λv l m=>e2a3 m λx g i n e=>?_;obtain⟨c,rfl,e⟩:=e;cases n;refine jZ ?_
 cases c with
 |false=>exact k d l f g Q i e
 |true=>exact#[.bl true,g,i,rfl,e]
def VR(f:PE X a ta):PE X (.UnaryOp .Not a pos) (X7 ta):=by intro d s g H Q I h;refine UnaryOp_<|vB (f d s g H _ I h) λv m i=>e2a3 i λx j k l e=>?_;obtain⟨c,rfl,e⟩:=e;cases l;exact not_of<|jZ #[.bl<|!c,j,k,rfl,e]
end
def vX(K:gG)(H:Hp)(a:gH)(c:List V):Prop :=
 Rd H a (.lst c) \/
  ∃(o:Obj)(b:Array ci)(n:Nat),K.lookup a=↑o/\o.cls=.type "list"/\o.dict=none/\o.data=.seq b n/\b.size<=gL/\Vals c b.toList
def yI(K:gG)(H:Hp)(a:gH)(c:List V):Prop :=
 Rd H a (.tup c) \/
  ∃(o:Obj)(b:Array ci)(n:Nat),K.lookup a=↑o/\o.cls=.type "tuple"/\o.data=.seq b n/\b.size<=gL/\Vals c b.toList
noncomputable def a0i:ci->Option V
 | .none=>some .wm
 | .bool b=>some<|.bl b
 | .int i _=>some<|.int i
 | .str x _=>some<|.str x
 | .bytes b _=>some<|.LD b
 | .float b _=>some<|.VJ b
 | .ref a=>some<|.ref a
 | .type n=>some<|.ty n
 |_=>none
def RelV.abs(r:RelV x u):a0i u=↑x:=by
 cases x with
 |wm=>cases r;rfl
 |bl _=>cases r;rfl
 |int _=>obtain⟨t,rfl⟩:=r;rfl
 |str _=>obtain⟨t,rfl⟩:=r;rfl
 |LD _=>obtain⟨t,rfl⟩:=r;rfl
 |VJ _=>obtain⟨t,rfl⟩:=r;rfl
 |ref _=>cases r;rfl
 |ty _=>cases r;rfl
def RelV.inj(r:RelV x u)(q:RelV y u):x=y:=iP<|r.abs.symm.trans q.abs
def Vals.inj:∀{d c:List V} {e:List ci},Vals d e->Vals c e->d=c:=by
 intro _ c _ z
 induction z generalizing c with
 |nil=>intro q;cases q;rfl
 |cons h t f=>intro q;cases q with|cons a b=>rw[h.inj a,f b]
def vX.of{K:gG}(h:H a=↑(.lst b)):vX K H a b:=.inl<|.inl h
def yI.of{K:gG}(h:H a=↑(.tup b)):yI K H a b:=.inl<|.inl h
def Inv.list(I:Inv X c j H s)(h:vX X.K H a d):∃b:List ci,Vals d b/\PlainL s.heap a b.toArray/\d.length<=gL:=by
 rcases h with h|⟨o,b,n,f,g,hd,i,k,r⟩
 ·obtain⟨z,b,n,r,e⟩:=h.ok I.vD;exact#[b,r,#[_,n,e,rfl,rfl,rfl],z]
 ·refine#[b.toList,r,#[o,n,I.yr a o f,g,hd,by simpa using i],?_];have e:=r.length;simp only[gR]at e
  lia
def Inv.tuple(I:Inv X c j H s)(h:yI X.K H a d):∃b:List ci,Vals d b/\IsTup s.heap a b.toArray/\d.length<=gL:=by
 rcases h with h|⟨o,b,n,f,g,i,k,r⟩
 ·obtain⟨z,b,r,p⟩:=h.ok I.vD;exact#[b,r,p,z]
 ·refine#[b.toList,r,#[o,I.yr a o f,g,n,by simpa using i],?_];have e:=r.length;simp only[gR]at e
  lia
def Inv.HW(I:Inv X f q H s)(h:vX X.K H a j)(k:vX X.K H a l):j=l:=by
 obtain⟨c,r,⟨o,n,e,_,_,d⟩,_⟩:=I.list h;obtain⟨b,m,⟨t,u,g,_,_,i⟩,_⟩:=I.list k;rw[e]at g;cases g;rw[d]at i;injection i with p _;have:c=b:=by simpa using congrArg sd p
 subst this;exact r.inj m
def Inv.MT(I:Inv X f q H s)(h:yI X.K H a j)(k:yI X.K H a l):j=l:=by
 obtain⟨c,r,⟨o,e,_,n,d⟩,_⟩:=I.tuple h;obtain⟨b,m,⟨t,g,_,u,i⟩,_⟩:=I.tuple k;rw[e]at g;cases g;rw[d]at i;injection i with p _;have:c=b:=by simpa using congrArg sd p
 subst this;exact r.inj m
noncomputable abbrev Cx.EX(X:Cx)(E:ci->gO->Prop):Cx:={ X with xe:=E}
noncomputable abbrev Cx.ZJ(X:Cx):Cx:=X.EX λ_ _=>False
def Cx.Ok.EX{X:Cx}(a:X.Ok)(E:ci->gO->Prop):(X.EX E).Ok :=
 #[a.mod,a.kind,a.glob,a.blt,a.above,a.inj,a.has,a.Od,a.hd,a.frames,a.B5,a.R9,a.bs,a.HR,a.C3,a.DE,a.yo,a.Jo]
def Cx.Ok.zD{X:Cx}{E:ci->gO->Prop}(a:(X.EX E).Ok):X.Ok :=
 #[a.mod,a.kind,a.glob,a.blt,a.above,a.inj,a.has,a.Od,a.hd,a.frames,a.B5,a.R9,a.bs,a.HR,a.C3,a.DE,a.yo,a.Jo]
def Inv.EX(I:Inv X a b H s)(E:ci->gO->Prop):Inv (X.EX E) a b H s:=#[I.ok.EX E,I.os,I.bare,I.base,I.loc,I.cell,I.free,I.xX,I.pin,I.vD,I.len]
def Inv.zD(I:Inv (X.EX E) a b H s):Inv X a b H s:=#[I.ok.zD,I.os,I.bare,I.base,I.loc,I.cell,I.free,I.xX,I.pin,I.vD,I.len]
def SP.zD(h:SP (X.EX E) c D f d):SP X c D f d:=by
 cases f with
 |next=>obtain⟨a,b,I,q⟩:=h;exact#[a,b,I.zD,q]
 |brk=>obtain⟨a,b,I,q⟩:=h;exact#[a,b,I.zD,q]
 |cont=>obtain⟨a,b,I,q⟩:=h;exact#[a,b,I.zD,q]
 |ret u=>obtain⟨v,a,b,I,r,q⟩:=h;exact#[v,a,b,I.zD,r,q]
def EU.ZJ{b:List ic}(h:EU X.ZJ b t):EU X b t:=λa s c H D I d =>
 iY (h a s c H D (I.EX _) d) (λ_ _ q=>q.zD) λ_ _ z=>io z
section
variable{X:Cx}{st:ic}{rest:List ic}{t u:TS}
def U5:TS:=λD a H=>D.nx a H
def Jy(t u:TS):TS:=λD a H=>t { D with nx:=u D} a H
def y8:EU X [] U5:=λ_ _ a H _ I h=>nJ #[a,H,I,h]
def vU(c:PS X st t)(d:EU X rest u):EU X (st::rest) (Jy t u):=by
 intro a s e H D I h;refine wpAny_execs_cons<|vB (c a s e H { D with nx:=u D} I h) λf g q=>?_
 cases f with
 |next =>
  refine e2a2 q λb i j q=>?_;exact d a g b i D j q
 |ret v=>exact q
 |brk=>exact q
 |cont=>exact q
def xz(b:PS X st t):EU X [st] t:=by
 intro a s c H D I h;refine wpAny_execs_cons<|vB (b a s c H D I h) λf d q=>?_
 cases f with
 |next=>exact nJ q
 |ret v=>exact q
 |brk=>exact q
 |cont=>exact q
def Inv.quiet(I:Inv X a b H s):interactive X.env=false:=by simp[interactive,I.ok.kind]
def HX(b:TE):TS:=λD a H=>b a H λ_ c=>D.nx a c
def Bi(c:PE X e d)(f:jN e none pos.line X.env=pure false:=by rfl):PS X (.Expr e pos) (HX d):=by intro a s b H D I h;exact wpAny_Expr_any (vB (c a s b H _ I h) λv l g=>e2a3 g λx i j m k=>#[b,i,j,k]) I.quiet f
def VS(a:TE):TS:=λD b H=>a b H D.rt
def B8(c:PE X e d):PS X (.Return ↑e pos) (VS d):=by intro a s b H D I h;exact wpAny_Return_some<|vB (c a s b H _ I h) λv l f=>e2a3 f λx g i j k=>#[x,b,g,i,j,k]
def a0j(c:TT)(t u:TS):TS:=λD a H=>c a H λb d=>if b=true then t D a d else u D a d
def LG{c:iD}{a b:List ic}{g:TT}(m:PT X c g)(n:EU X a t)(o:EU X b u):PS X (.If c a b pos) (a0j g t u):=by
 intro e s f H D I h;refine wpAny_If<|vB (m e s f H _ I h) λd i p=>e1a2 p λj k l=>?_
 cases d with
 |true=>exact n e i f j D k l
 |false=>exact o e i f j D k l
def VT:TS:=λ_ _ _=>False
def MU:EU X a VT:=λ_ _ _ _ _ _ h=>h.elim
end
abbrev TG:=V->St->Hp->(St->Hp->Prop)->Prop
abbrev XI:=List V->St->Hp->(St->Hp->Prop)->Prop
def PG(X:Cx)(a:iD)(t:TG):Prop :=
 ∀(b:List (gH×Obj)) (s:gO) (d:St) (H:Hp) (v:V) (u:ci) (Q:St->Hp->Prop),Inv X b d H s->RelV v u->t v d H Q ->
  gS 19 X.A (sH a X.env u) (λ_ f=>∃c e,Inv X b c e f/\Q c e) X.xe s
def ZK(X:Cx)(g:List iD)(t:XI):Prop :=
 ∀(a:List (gH×Obj)) (s:gO) (c:St) (H:Hp) (d:List V) (e:List ci) (Q:St->Hp->Prop),Inv X a c H s->Vals d e->t d c H Q ->
  gS 19 X.A (assignInOrder ((pB g X.env).map (·.2)) e) (λ_ h=>∃b f,Inv X a b f h/\Q b f) X.xe s
abbrev Ol:=V->V->V->Hp->(Hp->Prop)->Prop
def VU(X:Cx)(t:Ol):Prop :=
 ∀(a:List (gH×Obj)) (s:gO) (b:St) (H:Hp) (o i v:V) (c d u:ci) (Q:Hp->Prop),Inv X a b H s->RelV o c->RelV i d->RelV v u->t o i v H Q ->
  gS 19 X.A (su c d u) (λ_ f=>∃e,Inv X a b e f/\Q e) X.xe s
abbrev ZL:=V->V->Hp->VK->Prop
def PIp(X:Cx)(c:Operator)(t:ZL):Prop :=
 ∀(a:List (gH×Obj)) (s:gO) (b:St) (H:Hp) (x y:V) (v u:ci) (Q:VK),Inv X a b H s->RelV x v->RelV y u->t x y H Q ->
  gS 19 X.A (inplaceOp c v u) (EP X a b Q) X.xe s
def CH(i:Nat):TG:=λv a H Q=>Q (a.set i<|↑v) H
def uW{i:Nat}(b:X.N.Nodup)(c:X.N[i]?=↑x:=by rfl)(d:Loc X.env.scope x:=by exact ko rfl)(e:X.fn x=true\/X.env.scope.names.lookup x=some .local:=by first|exact .inl rfl|exact .inr rfl|assumption):PG X 88 (CH i):=by intro a s g H v u Q I r h;exact wpAny_assign_Name<|HU I b c d r (λj f=>#[_,H,f,h]) e
def VW:XI:=λa b H Q=>a=[]/\Q b H
def Fo(t:TG)(u:XI):XI:=λb c H Q=>∃v r,b=v::r/\t v c H λa d=>u r a d Q
def Ap:ZK X [] VW:=by intro a s b H c d Q I r h;obtain⟨e,h⟩:=h;subst e;cases r;exact assignInOrder_nil #[b,H,I,h]
def wg{e:iD}{b:List iD}{t:TG}{u:XI}(d:PG X e t)(f:ZK X b u)
  (g:(pB (e::b) X.env).map (·.2)=sH e X.env::(pB b X.env).map (·.2):=by rfl):ZK X (e::b) (Fo t u):=by
 intro a s i H q w Q I r h;obtain⟨v,x,j,h⟩:=h;subst j
 cases r with
 |cons r k =>
  rw[g];refine assignInOrder_cons<|vB (d a s i H _ _ _ I r h) λ_ l m=>e2a2 m λc n o p=>?_;exact f a l c n _ _ Q o k p
def VX(K:gG)(n:Nat)(t:XI):TG:=λv c H Q=>∃a b,v=.ref a/\yI K H a b/\b.length=n/\t b c H Q
def B9{k:Nat}{n:Nat}(l:X.calm=true)(h:ZK X d t)
 (m:(pB d X.env).length=n:=by rfl)(f:(pB d X.env).findIdx? (·.1)=none:=by rfl):PG X (.Tuple d k pos) (VX X.K n t):=by
  intro c s i H v u Q I r g
  obtain⟨a,p,q,w,x,g⟩:=g
  subst q
  cases r
  obtain⟨y,j,z,D⟩:=I.tuple w
  refine assign_Tuple_tuple (I.ok.hd l) z (by simp[m,<- x,j.length]) f λA B=>?_
  have C:Inv X c i H { s with heap:=A}:=I.kept (t':=s.toks) λb o e=>B b o (gZ<|gP e) e
  exact h c _ i H p _ Q C (by simpa using j) g
def a0l(b c:TE)(t:Ol):TG:=λv a H Q=>b a H λo d=>c a d λi e=>t o i v e λf=>Q a f
def Om{o i:iD}{f g:TE}{t:Ol}(j:PE X o f)(k:PE X i g)(l:VU X t)
  (m:∀v,sH (.Subscript o i pos) X.env v=(do
   let b <- kG [v] (eval o X.env)
   let c <- kG [v,b] (eval i X.env)
   mI pos
   kG [v,b,c] (su b c v)
   release [v,b,c] []):=by intro _;rfl):PG X (.Subscript o i pos) (a0l f g t):=by
 intro a s e H v u Q I r h;rw[m];refine am<|iq<|vB (j a s e H _ I h) λb n d=>e2a3 d λx p q w z=>?_;refine am<|iq<|vB (k a n e p _ q z) λc A d=>e2a3 d λy B C D E=>?_;refine am<|m7<|am<|iq<|vB (l a A e B x y v b c u _ C w D r E) λ_ L d=>e1a2 d λF G J=>?_;exact wpAny_release #[e,F,G,J]
def VY(b:TE)(g:TG):TS:=λD a H=>b a H λx c=>g x a c D.nx
def Jz{b e:iD}{c:TE}{g:TG}(f:PE X e c)(i:PG X b g)(j:swapsWithSole [b] e pos.line X.env=pure false:=by rfl)(hw:swappedStores [b] e X.env=pure none:=by rfl)
  (k:(pB [b] X.env).map (·.2)=[sH b X.env]:=by rfl):PS X (.Assign [b] e pos) (VY c g):=by
 intro a s d H D I h;refine wpAny_Assign_stores (vB (f a s d H _ I h) λv l m=>e2a3 m λx n o p r=>?_) j hw;rw[k];exact vB (i a l d n x v _ o p r) λ_ t q=>q
def zF{i:Nat}{x:Str}{e:iD}{c:TE}{a:Pos}(d:X.N.Nodup)(f:X.N[i]?=↑x)(g:Loc X.env.scope x)(j:PE X e c)(k:jN e (some<|.Name x a) pos.line X.env=pure false:=by rfl)(l:X.fn x=true\/X.env.scope.names.lookup x=some .local:=by first|exact .inl rfl|exact .inr rfl|assumption) :
  PS X (.Assign [.Name x a] e pos) (VY c<|CH i):=by
 intro b s m H D I h;refine wpAny_Assign_Name (vB (j b s m H _ I h) λv u n=>e2a3 n λy o p q r=>?_) k;exact HU p d f g q (λw t=>#[_,o,t,r]) l
def X9(e f g:TE)(a:V->V->Hp->VK->Prop)(d:ZL)(b:Ol):TS:=λD c H=>e c H λo h=>f c h λi j=>a o i j λx k=>g c k λy l=>d x y l λz m=>b o i z m λn=>D.nx c n
def Ya(X:Cx)(t:V->V->Hp->VK->Prop):Prop :=
 ∀(a:List (gH×Obj)) (s:gO) (b:St) (H:Hp) (o i:V) (c d:ci) (Q:VK),Inv X a b H s->RelV o c->RelV i d->t o i H Q ->
  gS 19 X.A (nV c d) (EP X a b Q) X.xe s
def Sg{o i e:iD}{p q r:TE}{d:V->V->Hp->VK->Prop}{l:ZL}{f:Ol}{t:Operator}{m:Pos}(z:PE X o p)(A:PE X i q)(B:Ya X d)(C:PE X e r)(E:PIp X t l)(F:VU X f)
  (G:∀g j b,augStore i g j b=(do kG [b,g,j] (su g j b);release [b,g,j] [];pure .next):=by intros;rfl):PS X (.AugAssign (.Subscript o i m) t e pos) (X9 p q r d l f):=by
 intro a s k H D I h;refine se (vB (z a s k H _ I h) λg J c=>e2a3 c λu L M w N=>?_) G;refine vB (A a J k L _ M N) λj O c=>e2a3 c λx P Q y R=>?_;refine vB (B a O k P u x g j _ Q w y R) λn S c=>e2a3 c λT U W Y Z=>?_;refine vB (C a S k U _ W Z) λv s4 c=>e2a3 c λx4 H4 I4 r4 q4=>?_;refine vB (E a s4 k H4 T x4 n v _ I4 Y r4 q4) λb s5 c=>e2a3 c λx5 H5 I5 r5 q5=>?_;exact vB (F a s5 k H5 u x x5 g j b _ I5 w y r5 q5) λ_ s6 c=>e1a2 c λH6 I6 q6=>#[k,H6,I6,q6]
def ipI(f:Int->Int->Int):ZL:=λx y H Q=>∃i j,x=.int i/\y=.int j/\Q (.int<|f i j) H
def On:PIp X .Add (ipI λi j=>i+j):=by intro a s f H x y v u Q I b c h;obtain⟨i,j,d,e,q⟩:=h;subst d;subst e;obtain⟨t,rfl⟩:=b;obtain⟨g,rfl⟩:=c;exact iadd_int #[.int _,H,I.tok _,#[_,rfl],q]
def VZ:PIp X .Sub (ipI λi j=>i-j):=by intro a s f H x y v u Q I b c h;obtain⟨i,j,d,e,q⟩:=h;subst d;subst e;obtain⟨t,rfl⟩:=b;obtain⟨g,rfl⟩:=c;exact isub_int #[.int _,H,I.tok _,#[_,rfl],q]
def V0(c:TT)(h:TS):TS:=λD a H=>∃W:Nat->St->Hp->Prop,(∃m,W m a H)/\∀m a H,W m a H ->
 c a H λb e=>if b=true then ∃N:St->Hp->Prop,(∀d f,N d f->∃g,g<m/\W g d f)/\h { D with nx:=N,ct:=N,bk:=D.nx} a e else D.nx a e
def Oo{c:iD}{g:List ic}{u:TT}{x:TS}(y:rF 19 X.A X.env X.xe)(F:PT X c u)(G:EU X g x):PS X (.While c g [] pos) (V0 u x):=by
 intro a s J H D I h;obtain⟨W,⟨L,M⟩,i⟩:=h;refine wpAny_While<|codeAny_whileLoop (λn O=>∃j z,Inv X a j z O/\W n j z) ?_ L #[J,H,I,M];rintro n P ⟨e,H1,Q,R⟩;refine lw y<|vB (F a P e H1 _ Q<|i n e H1 R) λb S T=>e1a2 T λB C l=>?_
 cases b with
 |true =>
  refine e1a2 l λN E l=>?_;rw[gI rfl];refine lw y<|vB (G a S e B _ C l) λf U m=>?_
  cases f with
  |next =>
   refine e2a2 m λd k o p=>?_;refine e1a2 (E d k p) λq r t=>?_;exact#[q,r,d,k,o,t]
  |cont =>
   refine e2a2 m λd k o p=>?_;refine e1a2 (E d k p) λq r t=>?_;exact#[q,r,d,k,o,t]
  |brk=>exact m
  |ret v=>exact m
 |false =>
  rw[cr gV];exact nJ #[e,B,C,l]
structure It where
 go:Nat->Hp->Prop
 HJ:Nat->Hp->V->Hp->Prop
 stop:Nat->Hp->Prop
def AX(X:Cx)(a:List (gH×Obj))(H:Hp)(b:gH):Prop :=
 H b=none/\b≠X.env.locals/\b∉X.fs/\(b∈X.ex\/X.s₀.heap.objs.size<=b)/\(∀x c,X.env.cells.lookup x=↑c->c≠b)/\∀p∈X.pn++a,p.1≠b
def Inv.FY(I:Inv X a i H s)(d:⇑s<=b)(f:g b=none):AX X a g b:=by
 refine#[f,je<|hR I.lt d,I.a0d d,.inr<|iV I.sz d,λx c e z=>?_,λp h z=>?_]
 ·obtain⟨v,q⟩:=I.cell x c e;exact g8 (hR q.lt<|by rw[z];exact d)<|jI _
 ·exact g8 (hR (gP (I.pin p h).1)<|by rw[z];exact d)<|jI _
structure Turn(P:im)(w:iL)(K:gG)(tg:iD)(J:It)(fp:List gH)(it:gH)(tn:Nat->iG->Prop):Prop where
 mem:it∈fp
 obj:∀i h,tn i h->∀b∈fp,∃o,h.get? b=↑o/\∀v,o.data≠.cell v
 keep:∀i h h',tn i h->(∀b∈fp,∀o,h.get? b=↑o->h'.get? b=↑o)->tn i h'
 item:∀(X:Cx),X.prog=P->X.w=w->X.K=K->X.calm=true->∀(i:Nat) (pins:List (gH×Obj)) (s:gO) (σ:St) (H:Hp) (E:ci->gO->Prop),Inv X pins σ H s->(∀b∈fp,AX X pins H b)->tn i s.heap->J.go i H ->
  gS (gU P w) X.A (pyNext (.ref it)) (λr s1=>∃u,r=↑u /\
   gS (gU P w) X.A (sf tg (.ref it) u) (λ_ s2=>∃x H',Inv X pins σ H' s2/\RelV x u/\J.HJ i H x H'/\tn (i+1) s2.heap/\∀b∈fp,H' b=none) E s1) E s
 done:∀(X:Cx),X.prog=P->X.w=w->X.K=K->X.calm=true->∀(i:Nat) (pins:List (gH×Obj)) (s:gO) (σ:St) (H:Hp) (E:ci->gO->Prop),Inv X pins σ H s->(∀b∈fp,AX X pins H b)->tn i s.heap->J.stop i H ->
  gS (gU P w) X.A (pyNext<|.ref it) (λr s1=>r=none/\Inv X pins σ H s1) E s
 self:∀(A:jq)(i:Nat)(s:gO)(Q:ci->gO->Prop)(E:ci->gO->Prop),tn i s.heap->Q (.ref it) s->gS (gU P w) A (pyIter<|.ref it) Q E s
abbrev TI:=St->Hp->(It->Hp->Prop)->Prop
def PIE(X:Cx)(a:List (gH×Obj))(i:St)(j:iD)(R:It->Hp->Prop)(c:ci)(e:gO):Prop :=
 ∃(f:gH)(g:List gH)(h:Nat->iG->Prop)(J:It)(d:Hp),c=.ref f/\Inv X a i d e/\Turn X.prog X.w X.K j J g f h/\h 0 e.heap/\(∀b∈g,AX X a d b)/\R J d
def PI(X:Cx)(d b:iD)(e:TI):Prop :=
 ∀(a:List (gH×Obj)) (s:gO) (c:St) (H:Hp) (R:It->Hp->Prop),Inv X a c H s->e c H R ->
  gS 19 X.A (eval b X.env) (λv f=>gS 19 X.A (pyIter v) (PIE X a c d R) X.xe f) X.xe s
def Op{s:gO}(b:s.heap.get? c=↑o)(d:o.cls=.type n)(e:o.data=.fields f)
 (g:["enumerate","zip","dict_itemiterator","dict_reverseitemiterator","odict_iterator","itertools.zip_longest","itertools.pairwise"].contains n=false)(a:Q () s):gS M A (sf i (.ref c) u) Q E s:=by
  cases i<;>first
    | exact ap a
    | (cases u<;>first
        | exact ap a
        | (refine am (qG b ?_)
           rw[d,e]
           show gS M A (if (["enumerate","zip","dict_itemiterator","dict_reverseitemiterator","odict_iterator","itertools.zip_longest","itertools.pairwise"].contains n&&f[0]?==↑(lF _))=true then _ else _) Q E s
           rw[cr<|by intro h;rw[g,Bool.false_and]at h;cases h]
           exact ap a))
noncomputable def XJ(K:gG)(a:gH):It :=
 #[λi H=>∃b x,vX K H a b/\b[i]?=↑x,λi H x c=>c=H/\∀b,vX K H a b->b[i]?=↑x,λi H=>∃b,vX K H a b/\b.length<=i]
noncomputable def Itt(K:gG)(a:gH):It :=
 #[λi H=>∃b x,yI K H a b/\b[i]?=↑x,λi H x c=>c=H/\∀b,yI K H a b->b[i]?=↑x,λi H=>∃b,yI K H a b/\b.length<=i]
noncomputable def V1(a:Int)(n:Nat):It:=#[λi _=>i<n,λi H x b=>b=H/\x=.int (a+i),λi _=>n<=i]
def MV{P:im}{w:iL}{K:gG}{tg:iD}(a it:gH):Turn P w K tg (XJ K a) [it] it (λi h=>h.IsListIter it a i) where
 mem:=by simp
 obj:=λi h st b hb=>by
  have e:b=it:=by simpa using hb
  subst e;refine e1a3 st λo e c d=>?_;exact#[o,e,λv z=>by rw[d]at z;cases z]
 keep:=λi h h' st k=>st.at λo e=>k it q0o o e
 item:=by intro X hP hw hK hc i pins s σ H E I hf st hg;subst hP hw hK;refine e2a2 hg λxs x hq hx=>?_;refine e1a3 (I.list hq) λzB rv p hz=>?_;refine e1a2 (rv.get hx) λu hu ru=>?_;refine e0a6 (hf it q0o) λf0 f1 f2 f3 f4 f5=>?_;refine wpAny_pyNext_list_item st p.isList (x:=u) (by simpa using hu) λh' U6 sb=>?_;have I1:Inv X pins σ H { s with heap:=h'}:=I.turned (t':=s.toks) (λb o hb e=>(sb.2 b hb).trans e) f0 f1 f3 f4 f5;refine e1a3 (id U6) λo e c d=>?_;exact#[u,rfl,Op (s:={ s with heap:=h'}) e c d q0q #[x,H,I1,ru,#[rfl,λys hy=>by rw[I.HW hy hq];exact hx],U6,λb hb=>(hf b hb).1]]
 done:=by intro X hP hw hK hc i pins s σ H E I hf st hg;subst hP hw hK;refine e1a2 hg λxs hq hx=>?_;refine e1a3 (I.list hq) λzB rv p hz=>?_;refine e0a6 (hf it q0o) λf0 f1 f2 f3 f4 f5=>?_;have hl:=rv.length;exact wpAny_pyNext_list_end (I.ok.hd hc) st p.isList (by simp;lia) λh' eb=>87
 self:=λ_ _ _ _ _ st h=>wpAny_pyIter_listiter st h
def JA{P:im}{w:iL}{K:gG}{tg:iD}(a it:gH):Turn P w K tg (Itt K a) [it] it (λi h=>h.IsTupleIter it a i) where
 mem:=by simp
 obj:=λi h st b hb=>by
  have e:b=it:=by simpa using hb
  subst e;refine e1a3 st λo e c d=>?_;exact#[o,e,λv z=>by rw[d]at z;cases z]
 keep:=λi h h' st k=>st.at λo e=>k it q0o o e
 item:=by intro X hP hw hK hc i pins s σ H E I hf st hg;subst hP hw hK;refine e2a2 hg λxs x hq hx=>?_;refine e1a3 (I.tuple hq) λzB rv p hz=>?_;refine e1a2 (rv.get hx) λu hu ru=>?_;refine e0a6 (hf it q0o) λf0 f1 f2 f3 f4 f5=>?_;refine wpAny_pyNext_tuple_item st (show s.heap.IsTuple a zB.toArray from p) (x:=u) (by simpa using hu) λh' U6 sb=>?_;have I1:Inv X pins σ H { s with heap:=h'}:=I.turned (t':=s.toks) (λb o hb e=>(sb.2 b hb).trans e) f0 f1 f3 f4 f5;refine e1a3 (id U6) λo e c d=>?_;exact#[u,rfl,Op (s:={ s with heap:=h'}) e c d q0q #[x,H,I1,ru,#[rfl,λys hy=>by rw[I.MT hy hq];exact hx],U6,λb hb=>(hf b hb).1]]
 done:=by intro X hP hw hK hc i pins s σ H E I hf st hg;subst hP hw hK;refine e1a2 hg λxs hq hx=>?_;refine e1a3 (I.tuple hq) λzB rv p hz=>?_;refine e0a6 (hf it q0o) λf0 f1 f2 f3 f4 f5=>?_;have hl:=rv.length;exact wpAny_pyNext_tuple_end (I.ok.hd hc) st (show s.heap.IsTuple a zB.toArray from p) (by simp;lia) λh' eb=>87
 self:=λ_ _ _ _ _ st h=>wpAny_pyIter_tupleiter st h
def JB{P:im}{w:iL}{K:gG}{tg:iD}(it:gH)(lo:Int)(n:Nat):Turn P w K tg (V1 lo n) [it] it (λi h=>IsRangeIter h it (lo+(i:Nat)*1) ((n:Int)-(i:Nat)) 1) where
 mem:=by simp
 obj:=λi h st b hb=>by
  have e:b=it:=by simpa using hb
  subst e
  exact#[_,st,λv z=>by
   have z':ts _=Data.cell v:=z
   cases z']
 keep:=λi h h' st k=>k it q0o _ st
 item:=by intro X hP hw hK hc i pins s σ H E I hf st hg;subst hP hw hK;refine e0a6 (hf it q0o) λf0 f1 f2 f3 f4 f5=>?_;have W:=Walks.range (prog:=X.prog) (w:=X.w) (I.ok.hd hc) it lo 1 n;refine W.item i s _ _ hg st λv h' tk hv U6 kk=>?_;obtain⟨t,rfl⟩:=hv;have I1:Inv X pins σ H { s with heap:=h',toks:=tk}:=I.turned (λb o hb e=>kk b o (by simpa using hb) e) f0 f1 f3 f4 f5;refine#[_,rfl,Op (s:={ s with heap:=h',toks:=tk}) (n:="range_iterator") U6 rfl rfl q0q #[.int<|lo+i,H,I1,⟨t,?_⟩,⟨rfl,rfl⟩,U6,λb hb=>(hf b hb).1]];rw[Int.mul_one]
 done:=by intro X hP hw hK hc i pins s σ H E I hf st hg;refine e0a6 (hf it q0o) λf0 f1 f2 f3 f4 f5=>?_;exact wpAny_pyNext_range_end (I.ok.hd hc) st (by have:n<=i:=hg;lia) λh' eb=>87
 self:=λ_ _ _ _ _ st h=>wpAny_pyIter_rangeiter st h
def Yb(K:gG)(c:TE):TI:=λd H R=>c d H λx b=>∃a,x=.ref a/\(∃e,vX K b a e)/\R (XJ K a) b
def a0o(K:gG)(c:TE):TI:=λd H R=>c d H λx b=>∃a,x=.ref a/\(∃e,yI K b a e)/\R (Itt K a) b
def FZ{l:iD}{g:TE}(i:PE X l g):PI X y l (Yb X.K g):=by
 intro c s j H R I h;refine vB (i c s j H _ I h) λv d k=>e2a3 k λx m f n r=>?_;obtain⟨a,e,⟨z,t⟩,q⟩:=r;subst e;cases n;refine e1a3 (f.list t) λu A p B=>?_;refine wpAny_pyIter_list p.isList ?_;refine#[⇑d,[⇑d],_,_,m,rfl,f.kept (t':=d.toks) λb o e=>ce _ e,MV a _,#[_,gW _ rfl,rfl,rfl],λb w=>?_,q];have e:b=⇑d:=by simpa using w
 subst e;exact f.FY (gK _)<|f.vD.fresh<|gK _
def V2{l:iD}{i:TE}(j:PE X l i):PI X y l (a0o X.K i):=by
 intro c s k H R I h;refine vB (j c s k H _ I h) λv d m=>e2a3 m λx n f r t=>?_;obtain⟨a,e,⟨z,u⟩,q⟩:=t;subst e;cases r;refine e1a3 (f.tuple u) λg A p B=>?_;refine qH (show d.heap.IsTuple a g.toArray from p) ?_;refine#[⇑d,[⇑d],_,_,n,rfl,f.kept (t':=d.toks) λb o e=>ce _ e,JA a _,#[_,gW _ rfl,rfl,rfl],λb w=>?_,q];have e:b=⇑d:=by simpa using w
 subst e;exact f.FY (gK _)<|f.vD.fresh<|gK _
def HY{a c:Int}{f:Nat}(I:Inv X d h H s)(i:-(2 ^ 62)<=a)(j:a<2 ^ 62)(k:-(2 ^ 62)<=c)(l:c<2 ^ 62)
 (q:R (V1 a (c-a).toNat) H):gS 19 X.A (pyIter<|.ref ⇑s) (PIE X d h r R) E { s with heap:=s.heap.push 90,toks:=f}:=by
  refine wpAny_pyIter_range (IsRange.new ..) (small_one i j k l) ?_
  have g:Inv X d h H { s with heap:=s.heap.push 90,toks:=f}:=I.kept λb o e=>ce _ e
  refine#[(s.heap.push 90).objs.size,[(s.heap.push 90).objs.size],_,_,H,rfl,
    g.kept (t':=f) λb o e=>ce _ e,JB _ a (c-a).toNat,?_,λb m=>?_,q]
  · have n : a+((0 : Nat) : Int)*1 = a := by simp
    have p:(((c-a).toNat:Nat):Int)-((0:Nat):Int)=Builtin.Range.rangeSize a c 1:=by rw[rangeSize_one];split<;>lia
    rw[n,p]
    exact gW _ rfl
  · have e : b = (s.heap.push { cls := .type "range", data := .fields #v[.int a t, .int c u, .int 1 v] }).objs.size := by simpa using m
    subst e
    exact g.FY (gK _)<|g.vD.fresh<|gK _
def Yc(a:TA):TI:=λb H R=>a b H λc d=>∃j:Int,c=[.int j]/\-(2 ^ 62)<=j/\j<2 ^ 62/\R (V1 0 j.toNat) d
def U7(a:TA):TI:=λb H R=>a b H λc d=>∃i j:Int,c=[.int i,.int j]/\(-(2 ^ 62)<=i/\i<2 ^ 62/\-(2 ^ 62)<=j/\j<2 ^ 62)/\R (V1 i (j-i).toNat) d
def MW{a:iD}{f:TA}{p b:Pos}(g:Gl X "range")(i:X.mg "range"=none)(k:PA X [a] f)(l:gJ [a] X.env=[75]:=by rfl):PI X x (.Call (.Name "range" p) [a] [] b) (Yc f):=by
 intro c s m H R I h;refine Call_<|yZ I g i boot_range<|jQ (vB (k b c s m H _ I h) λy z n=>e2a3 n λA B o u d=>?_) l rfl;obtain⟨j,e,d,v,q⟩:=d;subst e
 cases u with
 |cons r w =>
  cases w;obtain⟨t,rfl⟩:=r;exact call_range_1<|HY o q0a q0a d v (by simpa using q)
def MX{a b:iD}{l:TA}{p c:Pos}(m:Gl X "range")(n:X.mg "range"=none)(o:PA X [a,b] l)(u:gJ [a,b] X.env=[75,(false,eval b X.env)]:=by rfl)(d:gJ [b] X.env=[(false,eval b X.env)]:=by rfl) :
  PI X C (.Call (.Name "range" p) [a,b] [] c) (U7 l):=by
 intro f s v H R I h;refine Call_<|yZ I m n boot_range<|jQ (vB (o c f s v H _ I h) λD E ⟨F,H1,w,x,g⟩=>?_) (by rw[u,d]) (by rw[d];rfl);obtain⟨i,j,e,⟨g,y,z,A⟩,q⟩:=g;subst e
 cases x with
 |cons r k =>
  cases k with
  |cons B k =>
   cases k;obtain⟨t,rfl⟩:=r;obtain⟨G,rfl⟩:=B;exact call_range_2<|HY w g y z A q
def a0p(f:TI)(g:TG)(h:TS):TS:=λD a H=>f a H λJ j=>∃W:Nat->Nat->St->Hp->Prop,(∃m,W 0 m a j)/\∀i m a H,W i m a H ->
 (J.stop i H/\D.nx a H)\/(J.go i H/\∃N:St->Hp->Prop,(∀b c,N b c->∃e,e<m/\W (i+1) e b c)/\∀x c,J.HJ i H x c->g x a c λd k=>h { D with nx:=N,ct:=N,bk:=D.nx} d k)
noncomputable def DG(a:List gH)(h:iG):List (gH×Obj):=a.filterMap λb=>(h.get? b).map λo=>(b,o)
def xh{h:iG}(a:b∈c)(e:h.get? b=↑o):(b,o)∈DG c h:=List.mem_filterMap.mpr #[b,a,by rw[e];rfl]
def MY(a:p∈DG c h):p.1∈c/\h.get? p.1=↑p.2:=by
 refine e1a2 (List.mem_filterMap.mp a) λb d e=>?_
 cases q:h.get? b with
 |none=>rw[q]at e;cases e
 |some o =>
  rw[q]at e;have f:(b,o)=p:=iP e;subst f;exact#[d,q]
def Inv.pinned(I:Inv X a g H s)(h:∀b∈fp,AX X a H b)(i:∀b∈fp,∃o,s.heap.get? b=↑o/\∀v,o.data≠.cell v):Inv X (a++DG fp s.heap) g H s :=
 I.yX λp j=>(List.mem_append.mp j).elim (λz=>I.pin p<|hV _ z) λz=>by obtain⟨c,e⟩:=MY z;obtain⟨k,l,m,_⟩:=h p.1 c;refine e1a2 (i p.1 c) λo f d=>?_;rw[e]at f;cases f;exact#[e,k,l,m,d]
def Inv.zH(I:Inv X (a++d) b H s):Inv X a b H s:=I.yX λp c=>I.pin p<|hV _<|iW _ c
def Oq{j:iD}{C:List ic}{wi:TI}{g:TG}{tb:TS}{Y:Pos}(M:rF 19 X.A X.env X.xe)(hc:X.calm=true)(hi:PI X tg j wi)(hg:PG X tg g)(k:EU X C tb)
  (hs:∀x,j0 j X.env x=pure x:=by intro _;rfl):PS X (.For tg j C [] Y) (a0p wi g tb):=by
 intro a s σ H D I h;refine wpAny_For (vB (hi a s σ H _ I h) λv s1 h1=>vB h1 λai s2 h2=>?_) hs;obtain⟨it,O,tn,J,H2,e,I2,T,Z,f2,W,⟨m0,w0⟩,P⟩:=h2;subst e
 -- ag aa true of the E Q through the ah
 have l:∀{B:Hp},(∀b∈O,B b=none)->∀b∈O,AX X a B b:=λhn b k=>#[hn b k,(f2 b k).2];refine codeAny_forLoop_any (λn s'=>∃i p B,Inv X a p B s'/\tn i s'.heap/\(∀b∈O,B b=none)/\W i n p B) ?_ m0 #[0,σ,H2,I2,Z,λb k=>(f2 b k).1,w0];rintro n s3 ⟨i,q,H3,I3,R,S,w3⟩;rcases P i n q H3 w3 with⟨stop,qn⟩|⟨go,N,hN,step⟩
 ·refine lw M<|vB (T.done X rfl rfl rfl hc i a s3 q H3 X.xe I3 (l S) R stop) λr s4 G=>e0a2 G λhr I4=>?_;subst hr;exact nJ #[q,H3,I4,qn]
 ·refine lw M<|vB (T.item X rfl rfl rfl hc i a s3 q H3 X.xe I3 (l S) R go) λr s4 G=>e1a2 G λu hr h4=>?_;subst hr;refine lw M<|vB h4 λ_ s5 G=>e2a5 G λx H5 I5 r5 y5 L ab=>?_;have ae:=I5.pinned (l ab)<|T.obj _ _ L;refine lw M<|vB (hg _ s5 q H5 x u _ ae r5<|step x H5 y5) λ_ s6 G=>e2a2 G λaf H6 I6 q6=>?_;refine lw M (vB (k _ s6 af H6 _ I6 q6) λf s7 F=>?_)
  have t:∀{c:St} {y:Hp},Inv X (a++DG O s5.heap) c y s7->N c y->∃m,m<n/\∃i p B,Inv X a p B s7/\tn i s7.heap/\(∀b∈O,B b=none)/\W i m p B:=λ{c y} z U=>by refine e1a2 (hN c y U) λm' hm w7=>?_;refine#[m',hm,i+1,c,y,z.zH,T.keep _ _ _ L λb k o e=>(z.pin (b,o)<|hV _<|hV _<|xh k e).1,λb k=>?_,w7];refine e1a2 (T.obj _ _ L b k) λo e d=>?_;exact(z.pin (b,o)<|hV _<|hV _<|xh k e).2.1
  cases f with
  |next=>obtain⟨c,y,z,U⟩:=F;exact t z U
  |cont=>obtain⟨c,y,z,U⟩:=F;exact t z U
  |brk=>obtain⟨c,y,z,F⟩:=F;exact#[c,y,z.zH,F]
  |ret v=>obtain⟨x7,c,y,z,r7,F⟩:=F;exact#[x7,c,y,z.zH,r7,F]
def Ot{K:gG}{a:gH}{xs:List V}{g:TG}{l:TS}{D:Ends}{b:St}{H:Hp}(c:Nat->St->Hp->Prop)(o:c 0 b H)(r:∀i b H,i<=xs.length->c i b H->vX K H a xs)
  (s:∀i x b H,xs[i]?=↑x->c i b H->g x b H λd k=>l { D with nx:=c<|i+1,ct:=c<|i+1,bk:=D.nx} d k) (t:∀b H,c xs.length b H->D.nx b H) :
  ∃W:Nat->Nat->St->Hp->Prop,(∃m,W 0 m b H)/\∀i m b H,W i m b H ->
   ((XJ K a).stop i H/\D.nx b H)\/((XJ K a).go i H/\∃N:St->Hp->Prop,(∀f h,N f h->∃n,n<m/\W (i+1) n f h)/\∀x h,(XJ K a).HJ i H x h->g x b h λd k=>l { D with nx:=N,ct:=N,bk:=D.nx} d k):=by
 refine#[λi m b H=>m=xs.length-i/\i<=xs.length/\c i b H,#[xs.length,q0o,iX _,o],?_];rintro i m b H ⟨rfl,u,p⟩;have q:=r i b H u p;by_cases j:i<xs.length
 ·refine .inr #[#[xs,xs[i],q,by simp[j]],c<|i+1,λf h v=>#[xs.length-(i+1),q0d,rfl,j,v],λx h y=>?_];obtain⟨e,y⟩:=y;subst e;exact s i x b _ (y xs q) p
 ·have e:i=xs.length:=by omega
  subst e;exact .inl #[#[xs,q,gK _],t b H p]
abbrev R2:=V->V->Hp->VK->Prop
def AH(X:Cx)(f:ci->ci->Sem ci)(r:R2):Prop :=
 ∀(a:List (gH×Obj)) (s:gO) (b:St) (H:Hp) (x y:V) (v u:ci) (Q:VK),Inv X a b H s->RelV x v->RelV y u->r x y H Q ->
  gS 19 X.A (f v u) (EP X a b Q) X.xe s
def UnR(X:Cx)(f:ci->Sem ci)(r:V->Hp->VK->Prop):Prop :=
 ∀(a:List (gH×Obj)) (s:gO) (b:St) (H:Hp) (x:V) (v:ci) (Q:VK),Inv X a b H s->RelV x v->r x H Q ->
  gS 19 X.A (f v) (EP X a b Q) X.xe s
def yu(X:Cx)(f:ci)(r:List V->Hp->VK->Prop):Prop :=
 ∀(a:List (gH×Obj)) (s:gO) (b:St) (H:Hp) (c:List V) (d:List ci) (Q:VK),Inv X a b H s->Vals c d->r c H Q ->
  gS 19 X.A (call f d) (EP X a b Q) X.xe s
def a0r(X:Cx)(r:V->Hp->(Bool->Hp->Prop)->Prop):Prop :=
 ∀(a:List (gH×Obj)) (s:gO) (b:St) (H:Hp) (x:V) (v:ci) (Q:Bool->Hp->Prop),Inv X a b H s->RelV x v->r x H Q ->
  gS 19 X.A (ul v) (TP X a b Q) X.xe s
def XM(r:R2)(b c:TE):TE:=λa H Q=>b a H λx d=>c a d λy e=>r x y e Q
def tUn(r:V->Hp->VK->Prop)(a:TE):TE:=λb H Q=>a b H λx c=>r x c Q
def rI(C:Int->Int->Prop)(g:Int->Int->V):R2:=λx y H Q=>∃i j,x=.int i/\y=.int j/\C i j/\Q (g i j) H
def RT(g:Int->Int->V):R2:=λx y H Q=>∃i j,x=.int i/\y=.int j/\Q (g i j) H
def rU(g:Int->V):V->Hp->VK->Prop:=λx H Q=>∃i,x=.int i/\Q (g i) H
def V3(m:PE X a n)(o:PE X b p){c:List (gH×Obj)}{s:gO}{d:St}{H:Hp}{R:V->V->Hp->Prop}(I:Inv X c d H s)
  (h:n d H λx k=>p d k λy e=>R x y e) {Q:ci->gO->Prop} {f:ci->ci->Sem ci}
  (q:∀v u j x y e,Inv X c d e j->RelV x v->RelV y u->R x y e->gS 19 X.A (f v u) Q X.xe j) :
  gS 19 X.A (eval a X.env) (λv g=>gS 19 X.A (eval b X.env) (λu i=>gS 19 X.A (f v u) Q X.xe i) X.xe g) X.xe s:=by
 refine vB (m c s d H _ I h) λv r l=>e2a3 l λx k t z B=>?_;refine vB (o c r d k _ t B) λu j l=>e2a3 l λy e C D E=>?_;exact q v u j x y e C z D E
def wC(d:AH X (mj op) r)(e:PE X a f)(g:PE X b i):PE X (.BinOp a op b pos) (XM r f i):=by intro c s j H Q I h;exact wpAny_BinOp<|V3 e g I h λv u k x y l m n o q=>d c k j l x y v u Q m n o q
def U8{c:UnaryOp}{r:V->Hp->VK->Prop}(e:UnR X (unaryOp c) r)(f:PE X a g):PE X (.UnaryOp c a pos) (tUn r g):=by intro b s d H Q I h;exact UnaryOp_<|vB (f b s d H _ I h) λv i j=>e2a3 j λx k l m n=>e b i d k x v Q l m n
def ZM{f:ci->ci->Sem ci}{C:Int->Int->Prop}{g:Int->Int->Int}
 (a:∀(i j:Int)(t u:Tok)(s:gO)(Q:ci->gO->Prop)(E:ci->gO->Prop),C i j->Q (.int (g i j) s.toks) 91->gS 19 X.A (f (.int i t)<|.int j u) Q E s) :
    AH X f (rI C λi j=>.int<|g i j):=by
  intro b s l H x y v u Q I c d h
  obtain⟨i,j,rfl,rfl,e,q⟩:=h
  obtain⟨t,rfl⟩:=c
  obtain⟨k,rfl⟩:=d
  exact a i j t k s _ _ e #[.int<|g i j,H,I.tok _,#[_,rfl],q]
def Yd{f:ci->ci->Sem ci}{g:Int->Int->Int}
 (a:∀(i j:Int)(t u:Tok)(s:gO)(Q:ci->gO->Prop)(E:ci->gO->Prop),Q (.int (g i j) s.toks) 91->gS 19 X.A (f (.int i t)<|.int j u) Q E s) :
    AH X f (RT λi j=>.int<|g i j):=by
  intro b s k H x y v u Q I c d h
  obtain⟨i,j,rfl,rfl,q⟩:=h
  obtain⟨t,rfl⟩:=c
  obtain⟨e,rfl⟩:=d
  exact a i j t e s _ _ #[.int<|g i j,H,I.tok _,#[_,rfl],q]
def Sh{f:ci->ci->Sem ci}{g:Int->Int->Bool}
 (a:∀(i j:Int)(t u:Tok)(s:gO)(Q:ci->gO->Prop)(E:ci->gO->Prop),Q (.bool<|g i j) s->gS 19 X.A (f (.int i t)<|.int j u) Q E s) :
    AH X f (RT λi j=>.bl<|g i j):=by
  intro b s k H x y v u Q I c d h
  obtain⟨i,j,rfl,rfl,q⟩:=h
  obtain⟨t,rfl⟩:=c
  obtain⟨e,rfl⟩:=d
  exact a i j t e s _ _ #[.bl<|g i j,H,I,rfl,q]
def a0s(i j:Int):Prop:=0<j/\j<1073741824
def a0t(i j:Int):Prop:=0<=j/\j<=1000000/\i.natAbs<2 ^ 64
def V4(i j:Int):Prop:=(-(2 ^ 64)<i/\i<2 ^ 64)\/(-(2 ^ 64)<j/\j<2 ^ 64)
def V4.ok{i j:Int}(h:V4 i j):IntMulOk i j:=by
 rcases h with⟨a,b⟩|⟨a,b⟩
 ·exact .of_left<|intBits_le_64 a b
 ·exact .of_right<|intBits_le_64 a b
def y9:AH X (mj .Add) (RT λi j=>.int<|i+j):=Yd λ_ _ _ _ _ _ _ q=>add_int q
def JC:AH X (mj .Sub) (RT λi j=>.int<|i-j):=Yd λ_ _ _ _ _ _ _ q=>sub_int q
def AY:AH X (mj .Mult) (rI V4 λi j=>.int<|i*j):=ZM λ_ _ _ _ _ _ _ a q=>mul_int q a.ok
def LH:AH X (mj .FloorDiv) (rI a0s λi j=>.int<|i / j):=ZM λi j _ _ _ _ _ a q=>by have b:(0:Int)<j:=a.1;have c:j<1073741824:=a.2;exact floordiv_int q0d (by rw[Int.fdiv_eq_ediv_of_nonneg i q0d];exact q)<|.inl<|PyProof.noPylong_small q0d
def Ca:AH X (mj .Mod) (rI (λ_ j=>0<j) λi j=>.int<|i%j):=ZM λi j _ _ _ _ _ a q=>by exact mod_int' q0a (by rw[Int.fmod_eq_emod_of_nonneg i q0a];exact q)
def V5:AH X (mj .Pow) (rI a0t λi j=>.int<|i ^ j.toNat):=ZM λ_ _ _ _ _ _ _ a q=>pow_int_small a.1 a.2.1 a.2.2 q
def unI{f:ci->Sem ci}{g:Int->Int}
 (a:∀(i:Int)(t:Tok)(s:gO)(Q:ci->gO->Prop)(E:ci->gO->Prop),Q (.int (g i) s.toks) 91->gS 19 X.A (f<|.int i t) Q E s) :
    UnR X f (rU λi=>.int<|g i):=by
  intro b s d H x v Q I c h
  obtain⟨i,rfl,q⟩:=h
  obtain⟨t,rfl⟩:=c
  exact a i t s _ _ #[.int<|g i,H,I.tok _,#[_,rfl],q]
def Ou:UnR X (unaryOp .USub) (rU λi=>.int (-i)):=unI λ_ _ _ _ _ q=>neg_int q
noncomputable def V6:V->V->Bool
 | .wm,.wm=>true|.wm,.int _=>true|.int _,.wm=>true|.wm,.bl _=>true|.bl _,.wm=>true|.wm,.str _=>true|.str _,.wm=>true
 | .int _,.int _=>true|.bl _,.bl _=>true|.str _,.str _=>true|.LD _,.LD _=>true
 | .int _,.str _=>true|.str _,.int _=>true|.bl _,.str _=>true|.str _,.bl _=>true
 |_,_=>false
def rEq:R2:=λx y H Q=>V6 x y=true/\Q (.bl<|decide<|x=y) H
def rNe:R2:=λx y H Q=>V6 x y=true/\Q (.bl<|!decide (x=y)) H
def LI{i j:Int}:decide (V.int i=V.int j)=(i==j):=by rw[lY];simp
def Ov{i j:Bool}:decide (V.bl i=V.bl j)=(i==j):=by rw[lY];simp
def LJ:decide (V.str i=V.str j)=(i==j):=by rw[lY];simp
def LK:decide (V.LD i=V.LD j)=(i.toList==j.toList):=by rw[lY];cases i;cases j;simp
def vw{k b:Bool}(I:Inv X a c H s)(q:Q (.bl k) H)(e:k=b):EP X a c Q (.bool b) s:=by subst e;exact#[.bl k,H,I,rfl,q]
def Ye:AH X (jr .Eq) rEq:=by
 intro e s f H x y v u Q I d a h;obtain⟨c,q⟩:=h
 cases x with
 |wm =>
  cases d
  cases y with
  |wm=>cases a;exact PySem.EqNone.eq_none_none<|vw I q q0o
  |bl j=>cases a;exact PySem.EqNone.eq_none_bool<|vw I q q0o
  |int j=>obtain⟨b,rfl⟩:=a;exact PySem.EqNone.eq_none_int<|vw I q q0o
  |str j=>obtain⟨b,rfl⟩:=a;exact PySem.EqNone.eq_none_str<|vw I q q0o
  |_=>exact g8 (show false=true from c) gV
 |bl i =>
  cases d
  cases y with
  |wm=>cases a;exact PySem.EqNone.eq_bool_none<|vw I q q0o
  |bl j=>cases a;exact eq_bool<|vw I q Ov
  |str j=>obtain⟨b,rfl⟩:=a;exact PySem.EqMixed.eq_bool_str<|vw I q q0o
  |_=>exact g8 (show false=true from c) gV
 |int i =>
  obtain⟨t,rfl⟩:=d
  cases y with
  |wm=>cases a;exact PySem.EqNone.eq_int_none<|vw I q q0o
  |int j=>obtain⟨b,rfl⟩:=a;exact eq_int<|vw I q LI
  |str j=>obtain⟨b,rfl⟩:=a;exact PySem.EqMixed.eq_int_str<|vw I q q0o
  |_=>exact g8 (show false=true from c) gV
 |str i =>
  obtain⟨t,rfl⟩:=d
  cases y with
  |wm=>cases a;exact PySem.EqNone.eq_str_none<|vw I q q0o
  |bl j=>cases a;exact PySem.EqMixed.eq_str_bool<|vw I q q0o
  |int j=>obtain⟨b,rfl⟩:=a;exact PySem.EqMixed.eq_str_int<|vw I q q0o
  |str j=>obtain⟨b,rfl⟩:=a;exact eq_str<|vw I q LJ
  |_=>exact g8 (show false=true from c) gV
 |LD i =>
  obtain⟨t,rfl⟩:=d
  cases y with
  |LD j=>obtain⟨b,rfl⟩:=a;exact PySem.W.eq_bytes<|vw I q LK
  |_=>exact g8 (show false=true from c) gV
 |_=>cases y<;>exact g8 (show false=true from c) gV
def Yf:AH X (jr .NotEq) rNe:=by
 intro e s f H x y v u Q I d a h;obtain⟨c,q⟩:=h
 cases x with
 |wm =>
  cases d
  cases y with
  |wm=>cases a;exact PySem.EqNone.ne_none_none<|vw I q q0o
  |bl j=>cases a;exact PySem.EqNone.ne_none_bool<|vw I q q0o
  |int j=>obtain⟨b,rfl⟩:=a;exact PySem.EqNone.ne_none_int<|vw I q q0o
  |str j=>obtain⟨b,rfl⟩:=a;exact PySem.EqNone.ne_none_str<|vw I q q0o
  |_=>exact g8 (show false=true from c) gV
 |bl i =>
  cases d
  cases y with
  |wm=>cases a;exact PySem.EqNone.ne_bool_none<|vw I q q0o
  |bl j=>cases a;exact ne_bool<|vw I q<|congrArg not Ov
  |str j=>obtain⟨b,rfl⟩:=a;exact PySem.EqMixed.ne_bool_str<|vw I q q0o
  |_=>exact g8 (show false=true from c) gV
 |int i =>
  obtain⟨t,rfl⟩:=d
  cases y with
  |wm=>cases a;exact PySem.EqNone.ne_int_none<|vw I q q0o
  |int j=>obtain⟨b,rfl⟩:=a;exact ne_int<|vw I q<|congrArg not LI
  |str j=>obtain⟨b,rfl⟩:=a;exact PySem.EqMixed.ne_int_str<|vw I q q0o
  |_=>exact g8 (show false=true from c) gV
 |str i =>
  obtain⟨t,rfl⟩:=d
  cases y with
  |wm=>cases a;exact PySem.EqNone.ne_str_none<|vw I q q0o
  |bl j=>cases a;exact PySem.EqMixed.ne_str_bool<|vw I q q0o
  |int j=>obtain⟨b,rfl⟩:=a;exact PySem.EqMixed.ne_str_int<|vw I q q0o
  |str j=>obtain⟨b,rfl⟩:=a;exact ne_str<|vw I q<|congrArg not LJ
  |_=>exact g8 (show false=true from c) gV
 |LD i =>
  obtain⟨t,rfl⟩:=d
  cases y with
  |LD j=>obtain⟨b,rfl⟩:=a;exact PySem.W.ne_bytes<|vw I q<|congrArg not LK
  |_=>exact g8 (show false=true from c) gV
 |_=>cases y<;>exact g8 (show false=true from c) gV
def U9:AH X (jr .Lt) (RT λi j=>.bl<|decide<|i<j):=Sh λ_ _ _ _ _ _ _ q=>lt_int q
def Va:AH X (jr .LtE) (RT λi j=>.bl<|decide<|i<=j):=Sh λ_ _ _ _ _ _ _ q=>le_int q
def Vb:AH X (jr .Gt) (RT λi j=>.bl<|decide<|j<i):=Sh λ_ _ _ _ _ _ _ q=>gt_int q
def Yg:AH X (jr .GtE) (RT λi j=>.bl<|decide<|j<=i):=Sh λ_ _ _ _ _ _ _ q=>ge_int q
def V7:AH X (jr .Is) (λx y H Q=>y=.wm/\Q (.bl<|decide<|x=.wm) H):=by
 intro a s d H x y v u Q I b c h;obtain⟨rfl,q⟩:=h;cases c;refine is_none_gen<|vw I q ?_
 cases x<;>first
  | (cases b;rfl)
  | (obtain⟨t,rfl⟩:=b;rfl)
def Si:AH X (jr .IsNot) (λx y H Q=>y=.wm/\Q (.bl<|!decide (x=.wm)) H):=by
 intro a s d H x y v u Q I b c h;obtain⟨rfl,q⟩:=h;cases c;refine isnot_none_gen<|vw I q ?_
 cases x<;>first
  | (cases b;rfl)
  | (obtain⟨t,rfl⟩:=b;rfl)
def vI(b:iD)(h:op≠.In:=by decide)(a:op≠.NotIn:=by decide):iN op b=false:=by
 have c:(op==CmpOp.In)=false:=by cases op<;>first|rfl|exact g8 rfl h
 have d:(op==CmpOp.NotIn)=false:=by cases op<;>first|rfl|exact g8 rfl a
 cases b<;>simp[iN,c,d]
def F7(d:AH X (jr op) r)(e:PE X a f)(g:PE X b i)(j:iN op b=false):PE X (.Compare a [op] [b] pos) (XM r f i):=by intro c s k H Q I h;exact sG (V3 e g I h λv u l x y m n o p q=>d c l k m x y v u Q n o p q) j
def Yh(t:TE):TT:=λa H Q=>t a H λx b=>∃k,x=.bl k/\Q k b
def xB{g:qz}{r:R2}(l:AH X (jr g) r)(m:PE X a n)(o:PE X b p)(q:iN g b=false):PT X (.Compare a [g] [b] pos) (Yh<|XM r n p):=by
 intro d s i H Q I h
 refine uA (vB (m d s i H _ I h) λv t f=>e2a3 f λx w A B C=>vB (o d t i w _ A C) λu D f=>e2a3 f λy E F G J =>
  vB (l d D i E x y v u _ F B G J) λc P f=>e2a3 f λz L M N j=>e1a2 j λk e O=>?_) q
 subst e;cases N;exact jZ #[L,M,O]
def Yi(K:gG)(x:V)(H:Hp)(k:Bool):Prop :=
 match x with
 | .wm=>k=false
 | .bl b=>k=b
 | .int i=>k=(i != 0)
 | .str y=>y.length<=gL/\k=((y.length:Int) != 0)
 | .LD y=>y.size<=gL/\k=((y.size:Int) != 0)
 | .ref p=>(∃a,vX K H p a/\k=!a.isEmpty)\/(∃a,yI K H p a/\k=!a.isEmpty)\/∃c,H p=↑(.dK c)/\k=!c.isEmpty
 |_=>False
def JD(r:KV a b):(!b.isEmpty)=!a.isEmpty:=by
 cases r<;>rfl
def DH(r:Vals b a):(!a.toArray.isEmpty)=!b.isEmpty:=by
 cases r<;>simp
def DI:(gL:Nat)<2 ^ 63:=by rw[iQ];decide
def V8:a0r X (λx H Q=>∃k,Yi X.K x H k/\Q k H):=by
 intro u s C H x v Q I g h;refine e1a2 h λk e q=>?_;have D:gL=16777216:=iQ
 cases x with
 |wm =>
  cases g;have a:k=false:=e;subst a;exact truthy_none #[H,I,q]
 |bl b =>
  cases g;have a:k=b:=e;subst a;exact jZ #[H,I,q]
 |int i =>
  obtain⟨t,rfl⟩:=g;have a:k=(i != 0):=e;subst a;exact PySem.P.truthy_int #[H,I,q]
 |str y =>
  obtain⟨t,rfl⟩:=g;obtain⟨A,a⟩:y.length<=gL/\k=((y.length:Int) != 0):=e;subst a;exact PySem.P.truthy_str q0a #[H,I.tok _,q]
 |LD y =>
  obtain⟨t,rfl⟩:=g;obtain⟨A,a⟩:y.size<=gL/\k=((y.size:Int) != 0):=e;subst a;exact PySem.W.truthy_bytes q0a #[H,I.tok _,q]
 |ref p =>
  cases g;have a:(∃f,vX X.K H p f/\k=!f.isEmpty)\/(∃f,yI X.K H p f/\k=!f.isEmpty)\/∃c,H p=↑(.dK c)/\k=!c.isEmpty:=e;rcases a with⟨f,j,a⟩|⟨f,j,a⟩|⟨c,j,a⟩
  ·subst a;refine e1a3 (I.list j) λn r o z=>?_;have d:=r.length;exact wpAny_truthy_list o.isList (by simp only[gX];lia) #[H,I.tok _,by rw[DH r];exact q]
  ·subst a;refine e1a3 (I.tuple j) λn r o z=>?_;have d:=r.length;exact truthy_tuple o (by simp only[gX];lia) #[H,I.tok _,by rw[DH r];exact q]
  ·subst a;obtain⟨z,B,l,r,m⟩:c.length<=gL/\(p==kO)=false/\∃l,KV c l/\s.heap.DictOf (vp X.prog X.w) p l:=I.vD p _ j;have d:c.length=l.length:=Paired.length r;exact wpAny_truthy_dict B m q0a #[H,I.tok _,by rw[JD r];exact q]
 |_=>exact(show False from e).elim
def HZ(f:PE X a g)(i:∀b,qF a X.env b=(do let v <- b;mI a.pos;kG [v] (ul v))) :
  PT X a (λd H Q=>g d H λx e=>∃k,Yi X.K x e k/\Q k e):=by
 intro c s d H Q I h;exact isTrue_plain (vB (f c s d H _ I h) λv j l=>e2a3 l λx m n o p=>V8 c j d m x v Q n o p)<|i _
def vals1(r:Vals [x] a):∃u,a=[u]/\RelV x u:=by
 cases r with
 |cons b c=>cases c;exact#[_,rfl,b]
def vals2(r:Vals [x,y] b):∃u a,b=[u,a]/\RelV x u/\RelV y a:=by
 cases r with
 |cons c d =>
  cases d with
  |cons e f=>cases f;exact#[_,_,rfl,c,e]
structure JE(h:iG)(x dx C:gH)(mA:Str->Option ci):Prop where
 obj:h.get? x=↑(kj C dx)
 ns:h.Ns1 dx mA
 ne:dx≠x
set_option tactic.hygienic true in
def MZ{h:iG}{c:gH}{d:Str->Option ci}(n:h.Ns1 c d):∃f,h.get? c=↑f/\∀name,oM name f=↑(d name):=by
 obtain⟨o,g,r,i,j,k,_,l⟩:=n;refine#[o,i,λname=>?_];have e:=l name;unfold nsFind findBy at e;rw[<- tK]at e;unfold oM;rw[j];dsimp only;split
 ·rename_i y q
  rw[q]at e;exact congrArg some e
 ·rename_i q
  rw[q]at e
  have a:g.toList.any (·.refKey)=false:=by rw[List.any_eq_false];intro y m;obtain⟨z,t,b⟩:=k y<|Array.mem_toList_iff.mp m;simp[DictEntry.refKey,b]
  have p:¬g.toList.any (·.refKey)=true:=by rw[a];exact gV
  rw[cr p];exact congrArg some e
def JE.look{C:gH}(I:JE h x b C c):∃a,PySem.W.InstAt h x (kj C b) C ↑a/\∀name,oM name a=↑(c name) :=
 e1a2 (MZ I.ns) λa d e =>
 #[a,#[I.obj,rfl,rfl,d],e]
section
variable{prog:im}{w:iL}{A:jq}{E:ci->gO->Prop}{s:gO}{K:gG}{x dx C f:gH}{mA:Str->Option ci}{name:Str}{v:ci}
def get_map{a:Bool}(X:K.In s.heap)(I:JE s.heap x dx C mA)(c:my K C name=true)(d:nq K C=true)
 (e:ig K (.ref C) name=↑none) (g:mA name=↑v) (b:tL v=true) (h:Q v 91) :
    gS (gU prog w) A (getAttr (.ref x) name a) Q E s:=by
  refine e1a2 I.look λj J i=>?_
  exact PySem.W.get_value X J (o4 c).1 (PySem.W.findObj_own d e rfl<|by rw[i,g]) b h
def Ox(X:K.In s.heap)(I:JE s.heap x dx C mA)(a:my K C name=true)
 (b:ig K (.ref C) name=↑(some<|.ref f)) (c:oj K (.ref f)=true) (d:mA name=none) (h:Q (.ref f,[.ref x]) s) :
    gS (gU prog w) A (mB (.ref x) name i) Q E s:=by
  refine e1a2 I.look λe J g=>?_
  exact PySem.W.method_fn X J (o4 a).1 (o4 a).2 b (beq_iff_eq.mp c) (by show (oM name e).map (·.isSome)=↑false;rw[g,d];rfl) h
def Sj(X:K.In s.heap)(I:JE s.heap x dx C mA)
 (l:ig K (.ref C) "__setattr__"=↑98) (m:pP K C=true) (n:qm K C name=↑none) (o:nq K C=true)
 (hw:r8 mA p) (q:p.length<=gL)
 (h:∀e,JE e x dx C (λy=>if y=name then some v else mA y)->iT dx s.heap e->Q () { s with heap:=e,toks:=s.toks+2}) :
    gS (gU prog w) A (setAttr (.ref x) name v) Q E s:=by
  refine e1a2 I.look λD J F=>?_
  refine PySem.W.set_plain X J l<|PySem.W.osa_open (s:=91) (r:=none) X J m n λb=>?_
  refine e1a2 (PySem.W.any_some o) λG t g=>?_
  have u:s.heap.get? x=some #[.ref C,↑dx,.plain,#v[]]:=I.obj
  refine am<|ap<|am<|am<|wpAny_loadPart u<|am<|PySem.W.Looks.here (s:=91) (o5 X t) ?_
  rw[g]
  refine ap (a:=↑dx)<|am<|ap<|am ?_
  refine wpAny_nsSet1 (s:=91) I.ns λe c d=>?_
  obtain⟨H,z,B,i,j,k⟩:=c.count<|PySem.Within.cons name v hw
  refine am<|wpAny_lookBehind i (by rw[j];exact pastItsLine_dict<|iV k<|by rw[hX];lia) ?_
  exact ap<|h _ #[(d.2 _<|Ne.symm I.ne).trans I.obj,c,I.ne] d
def Oy(X:K.In s.heap)(c:qo K C=true)
 (e:ig K (.ref C) "__init__"=↑(some<|.ref f)) (i:oN K (.ref f)=↑(.type "function"))
 (h:mq (gU prog w) (A.under (.builtin "type.__call__" #[.ref C::a,b])) (.call (.ref f) #[.ref (⇑s+1)::a,b]) (PySem.W.InitBack (⇑s+1) R)
 { s with heap:=(s.heap.push jG).push (kj C ⇑s)}) :
    mq (gU prog w) A (.call (.ref C) #[a,b]) R s:=by
  obtain⟨j,g,d,t,k⟩:=s
  exact PySem.W.make_core (PySem.W.makes_of X c) (oO X e) (λself=>PySem.W.bind_fn X self i) (.inl rfl) h
end
noncomputable def zI(f:Str)(v:V):List (Str×V)->List (Str×V)
 | []=>[(f,v)]
 | (g,x)::r=>if g=f then (g,v)::r else (g,x)::zI f v r
def H0(f g:Str)(v:V):∀d:List (Str×V),(zI f v d).lookup g=if g=f then some v else d.lookup g:=by
 intro i
 induction i with
 |nil =>
  show j7 g [(f,v)]=_;by_cases h:g=f
  ·have a:(g==f)=true:=beq_iff_eq.mpr h;simp only[j7,a,gI h]
  ·have a:(g==f)=false:=beq_eq_false_iff_ne.mpr h;simp only[j7,a,cr h]
 |cons j r c =>
  obtain⟨k,x⟩:=j;have l:=c;rw[show zI f v ((k,x)::r)=(if k=f then (k,v)::r else (k,x)::zI f v r) from rfl];by_cases b:k=f
  ·rw[gI b];by_cases h:g=k
   ·have a:(g==k)=true:=beq_iff_eq.mpr h;simp only[j7,a,gI<|h.trans b]
   ·have a:(g==k)=false:=beq_eq_false_iff_ne.mpr h;simp only[j7,a,cr (λe:g=f=>h<|e.trans b.symm)]
  ·rw[cr b];by_cases h:g=k
   ·have a:(g==k)=true:=beq_iff_eq.mpr h;simp only[j7,a,cr (λe:g=f=>b<|h.symm.trans e)]
   ·have a:(g==k)=false:=beq_eq_false_iff_ne.mpr h;simp only[j7,a];exact l
def Fp(f:Str)(v:V):∀a:List (Str×V),f∈(zI f v a).map (·.1)/\∀g,g∈a.map (·.1)->g∈(zI f v a).map (·.1):=by
 intro d
 induction d with
 |nil=>exact#[by simp[zI],λg h=>by simp at h]
 |cons i r b =>
  obtain⟨k,x⟩:=i;obtain⟨j,l⟩:=b;rw[show zI f v ((k,x)::r)=(if k=f then (k,v)::r else (k,x)::zI f v r) from rfl];by_cases c:k=f
  ·rw[gI c];subst c;exact#[q0o,λg h=>by simpa using h]
  ·rw[cr c];refine#[?_,λg h=>?_]
   ·rw[h8];exact gQ _ j
   ·rw[h8]at h ⊢;rcases List.mem_cons.mp h with e|e
    ·exact List.mem_cons.mpr<|.inl e
    ·exact gQ _<|l g e
def CI(f:Str)(v:V):∀a:List (Str×V),(zI f v a).length<=a.length+1
 | []=>by simp[zI]
 | (k,x)::r=>by
  have c:=CI f v r;rw[show zI f v ((k,x)::r)=(if k=f then (k,v)::r else (k,x)::zI f v r) from rfl];by_cases b:k=f
  ·rw[gI b,hX,hX];lia
  ·rw[cr b,hX,hX];lia
def yW.some_of(r:yW ↑v o):∃u,o=↑u/\RelV v u:=by
 cases o with
 |none=>exact(show False from r).elim
 |some u=>exact#[u,rfl,r]
def yW.none_of(r:yW none o):o=none:=by
 cases o with
 |none=>rfl
 |some u=>exact(show False from r).elim
def M0(r:RelV v u):tL u=true:=by
 cases v with
 |wm=>cases (show u=Value.none from r);rfl
 |bl b=>cases (show u=qV b from r);rfl
 |int i=>obtain⟨t,e⟩:=(show ∃t,u=lE i t from r);cases e;rfl
 |str x=>obtain⟨t,e⟩:=(show ∃t,u=Value.str x t from r);cases e;rfl
 |LD b=>obtain⟨t,e⟩:=(show ∃t,u=Value.bytes b t from r);cases e;rfl
 |VJ b=>obtain⟨t,e⟩:=(show ∃t,u=sF b t from r);cases e;rfl
 |ref a=>cases (show u=hO a from r);rfl
 |ty n=>cases (show u=jS n from r);rfl
def Bj(c:xD P w H h)(e:H a=↑(.ins C g fs)):∃b,JE h a g C b/\(∀f,yW (fs.lookup f)<|b f)/\r8 b (fs.map (·.1))/\fs.length<=1000/\H g=↑(.own a):=by obtain⟨d,z,i,j,b,n,r,q⟩:=(show vO P w H h a (.ins C g fs) from c a _ e);exact#[b,#[j,n,i],r,q,z,d]
structure AI(K:gG)(C:gH):Prop where
 pg:my K C Str.empty=true
 hd:nq K C=true
 po:pP K C=true
 sa:ig K (.ref C) "__setattr__"=↑98
def AI.get{K:gG}{C:gH}(c:AI K C)(f:Str):my K C f=true:=c.pg
def vJ(K:gG)(C:gH)(f:Str):Prop:=ig K (.ref C) f=↑none
def vJ.Yj{K:gG}{C:gH}{f:Str}(n:vJ K C f):qm K C f=↑none:=by unfold qm;rw[show ig K (.ref C) f=some none from n];rfl
structure Meth(K:gG)(C:gH)(m:Str)(f:gH):Prop where
 at_:ig K (.ref C) m=↑(some<|.ref f)
 fn:oj K (.ref f)=true
 kp:ja K (.ref f)=true
def JF{b:Bool}(I:Inv X d j H s)(e:H a=↑(.ins C p fs))(c:AI X.K C)(n:vJ X.K C f)(l:fs.lookup f=↑v)
 (h:∀u g,Inv X d j H g->RelV v u->Q u g):gS 19 A (getAttr (.ref a) f b) Q E s:=by
  obtain⟨k,O,r,_,_,_⟩:=Bj I.vD e
  obtain⟨u,m,i⟩:=yW.some_of (v:=v) (o:=k f) (by rw[<- l];exact r f)
  exact get_map I.yr O (c.get f) c.hd n m (M0 i)<|h u _ (I.tok _) i
def AZ(I:Inv X b i H s)(e:H a=↑(.ins C j fs))(c:AI X.K C)(k:Meth X.K C m g)(l:fs.lookup m=none)
 (h:Q (.ref g,[.ref a]) s):gS 19 A (mB (.ref a) m n) Q E s:=by
  obtain⟨d,O,r,_,_,_⟩:=Bj I.vD e
  have f:d m=none:=yW.none_of (by rw[<- l];exact r m)
  exact Ox I.yr O (c.get m) k.at_ k.fn f h
def JG(I:Inv X d t H s)(e:H a=↑(.ins C i fs))(c:AI X.K C)(n:vJ X.K C f)(N:fs.length<1000)(v:RelV y u)
 (h:∀k,Inv X d t (upd H a<|.ins C i<|zI f y fs) k->Q () k):gS 19 A (setAttr (.ref a) f u) Q E s:=by
  obtain⟨l,O,r,m,_,p⟩:=Bj I.vD e
  have B:(fs.map (·.1)).length<=gL:=by rw[gN,iQ];lia
  refine Sj I.yr O c.sa c.po n.Yj c.hd m B λD j F=>h _ ?_
  have G:∃o,D.get? i=↑o:=e3a2 j.ns λo _ _ J _=> #[o,J]
  refine I.write (x:=a) (e:=i) (by rw[e];exact True.intro) (.inr p) (λb q L z=>(F.2 b L).trans z) G ?_
  refine#[by rw[uL O.ne];exact p,?_,O.ne,j.obj,_,j.ns,λg=>?_,λg M=>?_]
  · have := CI f y fs; lia
  · show yW ((zI f y fs).lookup g) (if g = f then some u else l g)
    rw[H0]
    by_cases q:g=f
    · rw[gI q, gI q]; exact v
    · rw[cr q, cr q]; exact r g
  · by_cases q : g = f
    · rw[q]; exact(Fp f y fs).1
    · refine(Fp f y fs).2 g (m g λz => M ?_)
      show (if g=f then some u else l g)=none
      rw[cr q];exact z
def Inv.made(I:Inv X c g H s):Inv X c g (upd (upd H ⇑s<|.own<|⇑s+1) (⇑s+1)<|.ins C ⇑s [])
  { s with heap:=(s.heap.push jG).push (kj C ⇑s)}:=by
 have d:(s.heap.push jG).get? ⇑s=↑jG:=gW s.heap rfl
 have h:((s.heap.push jG).push<|kj C ⇑s).get? (⇑s+1)=↑(kj C ⇑s):=by
  have:=gW (s.heap.push jG) (o:=kj C ⇑s) rfl
  rwa [ju]at this
 have i:(s.heap.push jG).Ns ⇑s (λ_=>none):=#[jG,#v[],_,d,rfl,(λe j=>g8 j q0o),λ_=>rfl];have k:=I.laid (a:=⇑s) (o:=.own<|⇑s+1) (h':=s.heap.push jG) (t':=s.toks) (λb u q=>ce _ q) (gK _) #[_,d];refine k.laid (a:=⇑s+1) (o:=.ins C ⇑s []) (t':=s.toks) (λb u q=>ce _ q) (qp<|ju _ _) ?_;have f:⇑s≠⇑s+1:=gZ<|jp _;refine⟨by rw[uL f,uO],iX _,f,h,λ_=>none,(sI i).at λo q=>ce _ q,λ_=>True.intro,λy l=>g8 rfl l⟩
def Sk(d:iA e f a (eval e a)=eval e a)
 (h:gS (gU b w) A (eval e a) (λo c=>gS (gU b w) A (getAttr o f true) Q E c) E s):gS (gU b w) A (eval (.Attribute e f pos) a) Q E s :=
  Attribute_any_ h (by rw[arm_eval_Attribute,d])
def V9(K:gG)(d:TE)(f:Str):TE:=λe H Q=>d e H λx b=>∃a C g c v,x=.ref a/\b a=↑(.ins C g c)/\AI K C/\vJ K C f/\c.lookup f=↑v/\Q v b
def M3(K:gG)(g h:TE)(f:Str):TS:=λD b H=>h b H λy i=>g b i λx d=>∃a C e c,x=.ref a/\d a=↑(.ins C e c)/\AI K C/\vJ K C f/\c.length<1000 /\
 D.nx b (upd d a<|.ins C e<|zI f y c)
def Yk(X:Cx)(c:Operator)(d:V->V->Hp->VK->Prop):Prop :=
 ∀(a:List (gH×Obj)) (s:gO) (b:St) (H:Hp) (x y:V) (u v:ci) (Q:VK),Inv X a b H s->RelV x u->RelV y v->d x y H Q->gS 19 X.A (inplaceOp c u v) (EP X a b Q) X.xe s
def wD(g:PE X e i)(j:iA e f X.env (eval e X.env)=eval e X.env):PE X (.Attribute e f pos) (V9 X.K i f):=by intro b s k H Q I h;refine Sk j<|vB (g b s k H _ I h) λu z m=>e2a3 m λx H1 o p d=>e5a6 d λa C A fs v r t c n l q=>?_;subst r;obtain rfl:u=hO a:=p;exact JF o t c n l λB D w y=>#[v,H1,w,y,q]
def Cb(j:PE X o k)(m:PE X value p)(r:jN value (some<|.Attribute o f d) pos.line X.env=pure false):PS X (.Assign [.Attribute o f d] value pos) (M3 X.K k p f):=by intro b s g H D I h;refine ro (vB (m b s g H _ I h) λu t i=>e2a3 i λy H1 v w q=>vB (j b t g H1 _ v q) λz L i=>e2a3 i λx H2 A B e=>e4a6 e λa C M fs E F c n l G=>?_) r;subst E;obtain rfl:z=hO a:=B;exact JG A F c n l w λN J=>#[g,_,J,G]
inductive za(K:gG)(H:Hp):V->ci->Prop where
 | wm:za K H .wm (.type "NoneType")
 | bl (x:Bool):za K H (.bl x) (.type "bool")
 | int (i:Int):za K H (.int i) (.type "int")
 | str (x:Str):za K H (.str x) (.type "str")
 | VJ (x:UInt64):za K H (.VJ x) (.type "float")
 | lst {a:gH} {xs:List V} (e:H a=↑(.lst xs)):za K H (.ref a) (.type "list")
 | Ju {a:gH} {o:Obj} {xs:List V} (e:H a=↑(.Ju o<|.lst xs)):za K H (.ref a) (.type "list")
 | tup {a:gH} {xs:List V} (e:H a=↑(.tup xs)):za K H (.ref a) (.type "tuple")
 | dK {a:gH} {wV:List (Key×V)} (e:H a=↑(.dK wV)):za K H (.ref a) (.type "dict")
 | dT {a:gH} {wV:List (List Key×V)} (e:H a=↑(.dT wV)):za K H (.ref a) (.type "dict")
 | ins {a C dx:gH} {fs:List (Str×V)} (e:H a=↑(.ins C dx fs)) (cl:AI K C) (ha:ig K (.ref C) "__class__"=↑(some<|.builtin "object.__class__"))
   (hn:PySem.W.specialIn K (.builtin "object.__class__") "__get__"=↑(some<|.builtin "getset_descriptor.__get__")) (htk:PySem.W.takesIn K (.builtin "object.__class__")=↑true)
   (hm:kR K C (.type "object")=↑true):za K H (.ref a) (.ref C)
def M4(I:Inv X r R H s)(d:RelV x u)(B:za X.K H x t)(e:qI X.K t c=↑b)(h:∀D,Q (.bool b) { s with toks:=D}) :
  gS 19 A (call (.builtin "isinstance") [u,c]) Q E s:=by
 cases B with
 |wm=>cases (show u=Value.none from d);exact jz PySem.W.kitx_none I.yr True.intro e (λz=>nomatch z) h
 |bl y=>cases (show u=qV y from d);exact jz PySem.W.kitx_bool I.yr True.intro e (λz=>nomatch z) h
 |int i=>obtain⟨t,q⟩:=(show ∃t,u=lE i t from d);cases q;exact jz PySem.W.kitx_int I.yr True.intro e (λz=>nomatch z) h
 |str y=>obtain⟨t,q⟩:=(show ∃t,u=Value.str y t from d);cases q;exact jz PySem.W.kitx_str I.yr True.intro e (λz=>nomatch z) h
 |VJ y=>obtain⟨t,q⟩:=(show ∃t,u=sF y t from d);cases q;exact jz PySem.W.kitx_float I.yr True.intro e (λz=>nomatch z) h
 | @lst a k f =>
  cases (show u=hO a from d);obtain⟨_,_,n,_,g⟩:=(show vO X.prog X.w H s.heap a (.lst k) from I.vD a _ f);exact jz tz I.yr #[_,g,rfl] e (λz=>nomatch z) h
 | @Ju a F k f =>
  cases (show u=hO a from d);obtain⟨_,_,_,n,_,g⟩:=(show vO X.prog X.w H s.heap a (.Ju F<|.lst k) from I.vD a _ f);exact jz tz I.yr ⟨_,g,rfl⟩ e (λz=>nomatch z) h
 | @tup a k f =>
  cases (show u=hO a from d);obtain⟨_,_,_,p⟩:=(show vO X.prog X.w H s.heap a (.tup k) from I.vD a _ f);refine e1a3 p λo g l _=>?_;exact jz PySem.W.kitx_tuple I.yr #[o,g,l] e (λz=>nomatch z) h
 | @dK a j f =>
  cases (show u=hO a from d);obtain⟨_,_,S,_,p⟩:=(show vO X.prog X.w H s.heap a (.dK j) from I.vD a _ f);obtain⟨o,G,L,g,l,_⟩:=p;exact jz tD I.yr #[o,g,l.1] e (λz=>nomatch z) h
 | @dT a j f =>
  cases (show u=hO a from d);obtain⟨_,_,k,_,o,G,L,g,l,_⟩:=(show vO X.prog X.w H s.heap a (.dT j) from I.vD a _ f);exact jz tD I.yr #[o,g,l.1] e (λz=>nomatch z) h
 | @ins a C T fs f v M N m P =>
  cases (show u=hO a from d);refine e1a2 (Bj I.vD f) λU O _=>?_;refine e1a2 O.look λY J _=>?_;exact jz (PySem.W.kitx_own (v.get _) v.hd M N m P) I.yr J e (λz=>nomatch z) h
structure v4(k:Nat)(A:jq):Prop where
 hd:A.handled=none
 dp:A.depth+3*k+5<sJ
 un:A.units+16*k+200<ky
def v4.mono{j k:Nat}(r:v4 k A)(h:j<=k):v4 j A:=#[r.hd,by have:=r.dp;lia,by have:=r.un;lia]
def v4.deeper{k:Nat}(r:v4 (k+1) A)(a:Env):v4 k (A.deeper a) :=
 #[r.hd,by have:=r.dp;show A.depth+1+3*k+5<_;lia,by have:=r.un;show A.units+3+16*k+200<_;lia]
def JH{A:jq}{C:gH}{a:List ci}{b:List (Str×ci)}:(A.under<|.builtin "type.__call__" #[.ref C::a,b]).depth=A.depth+1:=by
 first|rfl|simp[rO,Code.weight,Code.isCreation,Code.isGuard,Code.isCaller,Code.frames,sv,guardIds]
def JI{A:jq}{C:gH}{a:List ci}{b:List (Str×ci)}:(A.under<|.builtin "type.__call__" #[.ref C::a,b]).units=A.units+1:=by
 first|rfl|simp[rO,Code.cUnits,Code.frames,sv]
def v4.make{k:Nat}(r:v4 (k+1) A)(C:gH)(a:List ci)(b:List (Str×ci)):v4 k (A.under<|.builtin "type.__call__" #[.ref C::a,b]) :=
 #[r.hd,by have:=r.dp;rw[JH];lia,by have:=r.un;rw[JI];lia]
def v4.depth{k:Nat}(r:v4 k A):A.depth<sJ:=by have:=r.dp;lia
def v4.units{k:Nat}(r:v4 k A):A.units+64<ky:=by have:=r.un;lia
def A1:TA:=λ_ H Q=>Q [] H
def AN(b:TE)(c:TA):TA:=λa H Q=>b a H λx d=>c a d λe f=>Q (x::e) f
def u4:PA X [] A1:=λ_ _ _ _ H Q I h=>kY #[[],H,I,.nil,h]
def uS(g:PE X e i)(j:PA X b t)(k:gJ (e::b) X.env=58::gJ b X.env:=by rfl):PA X (e::b) (AN i t):=by intro c a s f H Q I h;rw[k];refine jO<|vB (g a s f H _ I h) λu l d=>e2a3 d λx m n o p=>?_;exact vB (j c a l f m _ n p) λz A d=>e2a3 d λq r v w y=>#[x::q,r,v,.cons o w,y]
def a0u(t:TA):TE:=λc H Q=>t c H λa b=>a.length<=gL/\∀p,b p=none->Q (.ref p) (upd b p<|.tup a)
def a0v(t:TA):TE:=λc H Q=>t c H λa b=>a.length<=gL/\∀p,b p=none->Q (.ref p) (upd b p<|.lst a)
def Oz{g}(h:PA X i t):PE X (.Tuple i g pos) (a0u t):=by intro a s j H Q I k;refine wpAny_Tuple_spliced<|vB (h pos a s j H _ I k) λl c m=>e2a4 m λn d f r z q=>#[by rw[<- r.length];exact z,?_];have o:d ⇑c=none:=f.vD.fresh<|gK _;refine⟨.ref ⇑c,upd d ⇑c<|.tup n,f.laid (t':=c.toks) (λb u e=>ce _ e) (gK _) ?_,rfl,q _ o⟩;exact#[z,l,r,#[_,gW _ rfl,rfl,_,rfl]]
def OA(h:PA X g t):PE X (.List g pos) (a0v t):=by intro a s i H Q I j;refine wpAny_List_spliced<|vB (h pos a s i H _ I j) λk c l=>e2a4 l λm d f r z q=>#[by rw[<- r.length];exact z,?_];have n:d ⇑c=none:=f.vD.fresh<|gK _;refine⟨.ref ⇑c,upd d ⇑c<|.lst m,f.laid (t':=c.toks) (λb u e=>ce _ e) (gK _) ?_,rfl,q _ n⟩;exact#[z,k,0,r,gW _ rfl]
abbrev Sp:=List V->Hp->VK->XK->Prop
abbrev OB:=List Env->Hp->gO->XK->ci->gO->Prop
structure Ia(P:im)(w:iL)(K:gG)(mg:Str->Option ci)(base:iG)(A:jq)(outer:List Env)(s:gO)(H:Hp):Prop where
 frames:A.frames=↑outer
 mod:Mod K mg base
 bs:∀b o,base.get? b=↑o->s.heap.get? b=↑o/\H b=none
 HR:base.objs.size<=⇑s
 yo:s.heap.FunFrames base outer
 Jo:∀b∈yT outer,H b=none
 vD:xD P w H s.heap
 bare:m6 s.gens
def CE(a:List Env)(P:im)(w:iL)(H:Hp)(s:gO)(Q:VK)(u:ci)(b:gO):Prop :=
 ∃v c,b.os=s.os/\m6 b.gens/\Un (yT a) [] H c s.heap b.heap/\xD P w c b.heap/\RelV v u/\Q v c
def CR(c:OB)(a:List Env)(P:im)(w:iL)(H:Hp)(s:gO)(Q:VK)(E:XK)(r:Result)(b:gO):Prop :=
 match r with
 | .ok (.ret u)=>CE a P w H s Q u b
 | .ok _=>False
 | .error e=>c a H s E e b
structure vt(P:im)(w:iL)(K:gG)(mg:Str->Option ci)(base:iG)(CX:OB)(k:Nat)(f:gH)(fd:iB)(ps:List Str)(sp:Sp):Prop where
 len:∀vs H Q E,sp vs H Q E->vs.length=ps.length
 run:∀(A:jq)(outer:List Env)(s:gO)(H:Hp)(args:Args)(us:List ci)(vs:List V)(Q:VK)(E:XK),v4 k A->Ia P w K mg base A outer s H->sw s fd args (ps.zip us)->Vals vs us->sp vs H Q E ->
  mq (gU P w) A (.call (.ref f) args) (CR CX outer P w H s Q E) s
def vt.mono{P:im}{w:iL}{K:gG}{c:Str->Option ci}{a:iG}{d:OB}{j k:Nat}{f:gH}{e:iB}{g:List Str}{i:Sp}(F:vt P w K c a d j f e g i)(h:j<=k) :
  vt P w K c a d k f e g i:=#[F.len,λA b s H args l m Q E n=>F.run A b s H args l m Q E<|n.mono h]
def vt.imp{P:im}{w:iL}{K:gG}{e:Str->Option ci}{a:iG}{g:OB}{k:Nat}{f:gH}{i:iB}{j:List Str}{l d:Sp}(F:vt P w K e a g k f i j l)
  (h:∀c H Q E,d c H Q E->l c H Q E):vt P w K e a g k f i j d :=
 #[λc H Q E q=>F.len c H Q E<|h _ _ _ _ q,λA b s H args m c Q E n o p r t=>F.run A b s H args m c Q E n o p r<|h _ _ _ _ t]
def Ia.make{P:im}{w:iL}{K:gG}{c:Str->Option ci}{b:iG}{A:jq}{a:List Env}{s:gO}{H:Hp}(e:Ia P w K c b A a s H)(C:gH)(d:List ci)(f:List (Str×ci)) :
  Ia P w K c b (A.under<|.builtin "type.__call__" #[.ref C::d,f]) a s H:=#[by first|exact e.frames|(simpa[rO,Code.envs,sv,pushEnvs] using e.frames),e.mod,e.bs,e.HR,e.yo,e.Jo,e.vD,e.bare]
def Inv.Ib(I:Inv X a b H s):Ia X.prog X.w X.K X.mg X.base X.A X.stack s H :=
 #[I.ok.frames,I.ok.mod,I.bs,iV I.ok.HR I.sz,I.stack,I.LF,I.vD,I.bare]
def Inv.after(I:Inv X a j H s)(h:CE X.stack X.prog X.w H s Q u i):EP X a j Q u i:=by obtain⟨v,k,l,c,m,e,r,q⟩:=h;obtain⟨n,g,d,t,f⟩:=i;obtain rfl:f=s.os:=l;exact#[v,k,I.call (h':=n) (g':=g) (d':=d) (t':=t) (ch:=[]) m e c<|λb z=>g8 z q0o,r,q]
def Yl(b:Sp)(a:List V)(E:XK)(t:TA):TE:=λc H Q=>t c H λd e=>b (d++a) e Q E
def Fq(C:gH)(m:Str)(f:Sp)(b:List V)(E:XK)(g:TE)(t:TA):TE:=λc H Q=>g c H λx d=>∃a h e,x=.ref a/\d a=↑(.ins C h e)/\e.lookup m=none /\
 t c d λi j=>f (x::(i++b)) j Q E
def Ym(C:gH)(d:Sp)(b:List V)(E:XK)(t:TA):TE:=λe H Q=>t e H λf c=>∀x a,c x=none->c a=none->a≠x ->
 d (.ref x::(f++b)) (upd (upd c a<|.own x) x<|.ins C a []) (λv g=>v=.wm/\Q (.ref x) g) E
def Binds(K:gG)(d:iB)(b:List Str)(c:List ci):Prop :=
 ∀(s:gO)(a:List ci),K.In s.heap->(a++c).length=b.length->sw s d #[a,[]] (b.zip<|a++c)
def Binds.all{K:gG}{b:List Str}(h:∀a:List ci,a.length=b.length->sK d #[a,[]]=pure (b.zip a)):Binds K d b []:=λs a _ c=>by rw[kW]at c ⊢;exact .of_eq<|h a c
def Passes(c:OB)(X:Cx)(E:XK):Prop:=∀(a:List (gH×Obj)) (d:St) (H:Hp) (s:gO) (e:ci) (b:gO),Inv X a d H s->c X.stack H s E e b->X.xe e b
def JJ(F:vt X.prog X.w X.K X.mg X.base l k f m g n)(o:v4 k X.A)(p:Binds X.K m g d)(q:Vals b d)(t:Passes l X E)
 (I:Inv X a i H s)(r:Vals vs us)(h:n (vs++b) H Q E):gS 19 X.A (call (.ref f) us) (EP X a i Q) X.xe s:=by
  have j:Vals (vs++b) (us++d):=r.append q
  have v:(us++d).length=g.length:=by rw[<- j.length];exact F.len _ _ _ _ h
  refine mz<|jL (F.run X.A X.stack s H ⟨us,[]⟩ (us++d) (vs++b) Q E o I.Ib (p s us I.yr v) j h) λr x c=>?_
  cases r with
  |error e=>exact t a i H s e x I c
  |ok y =>
    cases y with
    |ret u=>exact I.after c
    |next=>exact io c
    |brk=>exact io c
    |cont=>exact io c
def Sl(F:vt X.prog X.w X.K X.mg X.base j k f l m n)(o:v4 k X.A)(u:Gl X x)(v:X.mg x=↑(.ref f))(y:ja X.K (.ref f)=true)(z:Binds X.K l m B)(C:Vals c B)(D:Passes j X E)
 (G:PA X (e::b) t) (d:(x==55)=false:=by decide) (J:gJ (e::b) X.env=58::gJ b X.env:=by rfl) (g:(jg pos<|gJ b X.env).any (·.1)=false:=by rfl) :
    PE X (.Call (.Name x p) (e::b) [] pos) (Yl n c E t):=by
  intro a s L H Q I h
  refine kA<|yY I u v ?_ d
  refine pC (h₀:=X.base) I.ok.mod.Bf y (vB (G pos a s L H _ I h) λN O M=>e2a3 M λP R i r q=>#[i.yr,?_]) J g
  exact JJ F o z C D i r q
def Sn{v:Sem Bool}(J:PE X o L)(c:AI X.K C)(y:Meth X.K C m f)(F:vt X.prog X.w X.K X.mg X.base M k f N O P)(R:v4 k X.A)(S:Binds X.K N O T)(hd:Vals i T)(U:Passes M X E)(Y:PA X (e::d) t)
  (j:gJ (e::d) X.env=58::gJ d X.env:=by rfl) (n:(jg pos<|gJ d X.env).any (·.1)=false:=by rfl)
  (ht:eval (.Call (.Attribute o m apos) (e::d) [] pos) X.env=(do
   let z <- eval o X.env
   mI apos.atName
   let (f,first) <- kG [z] (mB z m v)
   m8 pos f first (jg pos (gJ (e::d) X.env)) (mJ pos (kH [] X.env))):=by rfl) :
  PE X (.Call (.Attribute o m apos) (e::d) [] pos) (Fq C m P i E L t):=by
 intro b s B H Q I h;refine oA (pl:=v) (vB (J b s B H _ I h) λu Z p=>e2a3 p λx H1 D rx g=>e3a4 g λa dx fs ex ea l q=>?_) ht;subst ex;obtain rfl:u=hO a:=rx;refine AZ D ea c y l ?_;refine pC (first:=[.ref a]) (h₀:=X.base) I.ok.mod.Bf y.kp (vB (Y pos b Z B H1 _ D q) λus s2 p=>e2a3 p λvs H2 G r q2=>#[G.yr,?_]) j n
 exact JJ (us:=.ref a::us) (vs:=.ref a::vs) F R S hd U G (.cons rfl r) q2
def OC(n:PE X o p)(c:AI X.K C)(i:Meth X.K C m f)(F:vt X.prog X.w X.K X.mg X.base r k f t v y)(z:v4 k X.A)(B:Binds X.K t v D)(hd:Vals e D)(G:Passes r X E)
 (ht:eval (.Call (.Attribute o m apos) [] [] pos) X.env=(do
 let j <- eval o X.env
 mI apos.atName
 let (f,first) <- kG [j] (mB j m J)
 m8 pos f first (jg pos (gJ [] X.env)) (mJ pos (kH [] X.env))):=by rfl) :
    PE X (.Call (.Attribute o m apos) [] [] pos) (Fq C m y e E p A1):=by
  intro b s L H Q I h
  refine oA (pl:=J) (vB (n b s L H _ I h) λu R M=>e2a3 M λx H1 g N d=>e3a4 d λa S fs O P l q=>?_) ht
  subst O
  obtain rfl:u=hO a:=N
  refine AZ g P c i l ?_
  exact sx (first:=[.ref a]) g.yr i.kp<|JJ (us:=[.ref a]) (vs:=[.ref a]) F z B hd G g (.cons rfl .nil) q
structure Mk(K:gG)(C f:gH):Prop where
 makes:qo K C=true
 init:ig K (.ref C) "__init__"=↑(some<|.ref f)
 fn:oj K (.ref f)=true
 kp:ja K (.ref C)=true
def OD(M:Mk X.K C f)(F:vt X.prog X.w X.K X.mg X.base p k f q j t)(y:v4 (k+1) X.A)(z:Binds X.K q j d)(B:Vals c d)
 (D:Passes p X E) (I:Inv X b l H s) (r:Vals m us)
 (h:∀x g,H x=none->H g=none->g≠x->t (.ref x::(m++c)) (upd (upd H g<|.own x) x<|.ins C g []) (λv G=>v=.wm/\Q (.ref x) G) E) :
    gS 19 X.A (call (.ref C) us) (EP X b l Q) X.xe s:=by
  have n:=h (⇑s+1) ⇑s (I.vD.fresh<|lG _) (I.vD.fresh<|gK _)<|gZ<|jp _
  have i:=Inv.made (C:=C) I
  have o:Vals (V.ref (⇑s+1)::(m++c)) (hO (⇑s+1)::(us++d)):=.cons rfl<|r.append B
  have J:(hO (⇑s+1)::us++d).length=j.length:=by
    have e:=o.length
    rw[F.len _ _ _ _ n]at e
    exact e.symm
  refine mz (Oy (f:=f) I.yr M.makes M.init (beq_iff_eq.mp M.fn) (jL (F.run _ X.stack _ _ #[hO (⇑s+1)::us,[]] (hO (⇑s+1)::(us++d)) _ _ E (y.make C us [])
    (i.Ib.make C us []) (z _ (hO (⇑s+1)::us) i.yr J) o n) λr L a=>?_))
  cases r with
  |error e=>exact D b l _ _ e L i a
  |ok N =>
    cases N with
    |ret u =>
      refine e2a4 (i.after a) λv O P R S T=>?_
      subst S
      exact#[R,#[V.ref<|⇑s+1,O,P,rfl,T]]
    |next=>exact io a
    |brk=>exact io a
    |cont=>exact io a
def OE(M:Mk X.K C f)(F:vt X.prog X.w X.K X.mg X.base d k f e g i)(j:v4 (k+1) X.A)(l:Gl X x)(m:X.mg x=↑(.ref C))(n:Binds X.K e g o)(q:Vals a o)(r:Passes d X E)
 (b:(x==55)=false:=by decide):PE X (.Call (.Name x p) [] [] pos) (Ym C i a E A1):=by
  intro c s t H Q I h
  refine kA<|yY I l m ?_ b
  exact sx I.yr M.kp<|OD (us:=[]) M F j n q r I .nil h
def PK(X:Cx)(b:List pE)(t:TA):Prop :=
 ∀(c:Pos) (a:List (gH×Obj)) (s:gO) (d:St) (H:Hp) (Q:List V->Hp->Prop),Inv X a d H s->t d H Q->gS 19 X.A (evalAll ((mJ c<|kH b X.env).map (·.2))) (AP X a d Q) X.xe s
structure uT(N P:List Str)(sc:lV):Prop where
 kind:sc.kind=.function
 co:sc.isCoroutine=false
 gen:sc.isGenerator=false
 nd:N.Nodup
 pre:N.take P.length=P
 par:∀x∈P,sc.names.lookup x=some .local\/sc.names.lookup x=some .cell
 Wa:∀y∈sc.names,y.2≠.free
def Ft{b:Str->Option NameKind}:∀{a:List (Str×ci)} {m:Str->Option ci},(∀v,(x,v)∉a)->bindL b a m x=m x
 | [],_,_=>rfl
 | (n,v)::r,m,h=>by
  unfold bindL;rw[Ft λw c=>h w<|gQ _ c];split
  ·have:x≠n:=by rintro rfl;exact h v gM
   simp[this]
  ·rfl
def Fv{b:Str->Option NameKind}:∀{a:List (Str×ci)} {m:Str->Option ci},(∀v,(x,v)∉a)->bindC b a m x=m x
 | [],_,_=>rfl
 | (n,v)::r,m,h=>by
  unfold bindC;rw[Fv λw c=>h w<|gQ _ c];split
  ·rfl
  ·have:x≠n:=by rintro rfl;exact h v gM
   simp[this]
def M5{a:Str->Option NameKind}:∀{P:List Str} {b:List ci} {i:Nat} {m:Str->Option ci},P.Nodup->P[i]?=↑x->b[i]?=↑v->a x=some .local ->
  bindL a (P.zip b) m x=↑v:=by
 intro P
 induction P with
 |nil=>intro _ _ _ _ h;simp at h
 |cons p P g =>
  intro b i m e d c f
  cases b with
  |nil=>simp at c
  |cons w b =>
  cases i with
  |zero =>
   simp at d c;subst d;subst c;show bindL a ((p,w)::P.zip b) m p=_;unfold bindL;rw[Ft λv j=>(List.nodup_cons.mp e).1 (oP j).1,gI f];simp
  |succ i =>
   exact g (i:=i) (List.nodup_cons.mp e).2 (by simpa using d) (by simpa using c) f
def M6{a:Str->Option NameKind}:∀{P:List Str} {b:List ci} {i:Nat} {m:Str->Option ci},P.Nodup->P[i]?=↑x->b[i]?=↑v->a x≠some .local ->
  bindC a (P.zip b) m x=↑v:=by
 intro P
 induction P with
 |nil=>intro _ _ _ _ h;simp at h
 |cons p P g =>
  intro b i m e d c f
  cases b with
  |nil=>simp at c
  |cons w b =>
  cases i with
  |zero =>
   simp at d c;subst d;subst c;show bindC a ((p,w)::P.zip b) m p=_;unfold bindC;rw[Fv λv j=>(List.nodup_cons.mp e).1 (oP j).1,cr f];simp
  |succ i =>
   exact g (i:=i) (List.nodup_cons.mp e).2 (by simpa using d) (by simpa using c) f
noncomputable def start(N:List Str)(a:List V):St:=a.map some++kK (N.length-a.length) none
noncomputable def vH(CX:OB)(P:im)(w:iL)(K:gG)(mg:Str->Option ci)(base:iG)(N:List Str)(qual:Str)(scope:lV)(f:gH)(cd:ci)(A:jq)(outer:List Env)(s:gO)(H:Hp)(E:XK):Cx where
 prog:=P
 w:=w
 K:=K
 mg:=mg
 base:=base
 A:=A.deeper<|oz qual scope ⇑s f cd
 N:=N
 s₀:=s
 H₀:=H
 env:=oz qual scope ⇑s f cd
 outer:=outer
 stack:=oz qual scope ⇑s f cd::outer
 ex:=[]
 calm:=true
 fn:=λ_=>true
 pn:=[]
 xe:=λe s'=>gS (gU P w) (A.deeper<|oz qual scope ⇑s f cd) (um (oz qual scope ⇑s f cd) e) (λ_ So=>CX outer H s E e So) (λe' So=>CX outer H s E e' So) s'
def Ic{a:lV}{n:Nat}(h:a.names.lookup x=some .cell):∃c,(cellsFrom n a.names []).lookup x=↑c:=by have q:=rG a.names n []<|.inl h;exact Option.isSome_iff_exists.mp q
def M7{K:gG}{A:jq}{o:List V}
 (S:uT N C d) (R:A.handled=none) (m:Ia P w K L base A j s H) (hl:o.length=C.length) (r:Vals o M)
 (x:InCallC s ⇑s (bindL (oz l d ⇑s f J).kindOf (C.zip M) λ_=>none) (cellsFrom (⇑s+1) d.names []) (bindC (oz l d ⇑s f J).kindOf (C.zip M) λ_=>none) T) :
    Inv (vH U P w K L base N l d f J A j s H E) [] (start N o) H T:=by
  have X:C.length<=N.length:=by have:=congrArg nW S.pre;rw[lJ]at this;lia
  obtain⟨G,tk,rfl,O⟩:=x.done
  have t:∀b:gH,b∉(vH U P w K L base N l d f J A j s H E).ex:=λb z=>g8 (show b∈([]:List gH) from z) q0o
  refine#[#[m.mod,S.kind,rfl,rfl,gK _,λy z c G g=>?_,λy B=>?_,λy c _ h=>?_,λ_=>R,sy m.frames,.inr #[rfl,rfl],λb z=>g8 z (t b),m.bs,m.HR,λb _ _=>t b,λb z=>g8 z (t b),m.yo,m.Jo],
    rfl,m.bare,Un.kept O,#[_,x.toInCall.ns,λi y v G g h3=>?_],λy c h=>#[_,x.cell y c h],m.vD.fresh (gK _),λy c h=>?_,λp D=>g8 (show p∈([]:List (gH×Obj)) from D) q0o,m.vD.kept O,?_]
  · exact name_of_addr x.apart (jW G)<|jW g
  · have B : d.names.lookup y = some .cell \/ d.names.lookup y = some .free := B
    rcases B with B|B
    · exact Ic B
    · exact g8 rfl<|S.Wa _<|jW B
  · exact lM<|x.above y c<|jW h
  · have I : i<o.length := by
      unfold start at g
      by_cases I:i<o.length
      · exact I
      · rw[jJ<|by simpa using I]at g
        rw[sg]at g
        split at g<;>cases g
    have Y:o[i]?=↑v:=by
      unfold start at g
      rw[lN (by simpa using I),jx]at g
      cases e:o[i]? with
      |none=>rw[e]at g;cases g
      |some a=>rw[e]at g;cases g;rfl
    refine e1a2 (r.get Y) λu Q Z=>?_
    have D:C[i]?=↑y:=by
      rw[<- S.pre,rP q0a];exact G
    have F:C.Nodup:=by rw[<- S.pre];exact S.nd.sublist<|uo _ _
    refine#[u,Z,?_]
    rcases S.par y (jD D) with k|k
    · exact .inl #[k, M5 F D Q k]
    · obtain⟨c, e⟩ := Ic (n := ⇑s+1) k
      refine .inr #[.inl k,c,e,?_]
      have q:=x.cell y c e
      rw[M6 F D Q<|by show d.names.lookup y≠_;rw[k];decide]at q
      exact q
  · exact m.vD.fresh<|lM<|x.above y c<|jW h
  · unfold start
    show _=N.length
    rw[gY,gN,sL]
    lia
def Ie{K:gG}{k:Nat}{Z:ci} 
 (lk:K.lookup f=some #[oc,od,.func<|jv name d h body a dV Z G pm an g ct,aa]) (L:jk K g d=true) (S:uT N M a)
 (B:∀i H Q E,sp i H Q E->i.length=M.length)
 (m:∀(A:jq)(c:List Env)(s:gO)(H:Hp)(i:List V)(Q:VK)(E:XK),v4 k (A.deeper (oz d a ⇑s f g))->sp i H Q E ->
 ∃t,EU (vH O P w K R base N d a f g A c s H E) body t/\t { nx:=λ_ l=>Q .wm l,rt:=Q} (start N i) H) :
    vt P w K R base O (k+1) f (jv name d h body a dV Z G pm an g ct) M sp:=by
  refine#[B,λA c s H args us i Q E T C hb r D=>?_]
  have hl:=B _ _ _ _ D
  have KX:K.In s.heap:=C.mod.Bf.keeps λb o e=>(C.bs b o e).1
  have U:s.heap.NoLimit:=C.mod.nolimit.keeps λb o e=>(C.bs b o e).1
  have p:∀y∈M.zip us,a.names.lookup y.1=some .local\/(a.names.lookup y.1=some .cell/\((cellsFrom (⇑s+1) a.names []).lookup y.1).isSome=true):=λ⟨n,v⟩ hy=>by
    rcases S.par n (oP hy).1 with q|q
    · exact .inl q
    · exact .inr #[q, rG _ _ _<|.inl q]
  refine codeAny_call_function T.depth (KX _ _ lk) rfl S.co S.gen rfl (sM KX L)<|hb _ _ _ _ ?_
  refine wpAny_newFunctionEnv_cells S.kind p λab he s1 x=>?_
  subst he
  refine#[U.keeps x.toInCall.keep,codeAny_func ?_]
  refine e1a2 (m A c s H i Q E (T.deeper _) D) λt ht hq=>?_
  have I:Inv (vH O P w K R base N d a f g A c s H E) [] (start N i) H s1:=M7 S T.hd C hl r x
  refine iY (ht [] s1 (start N i) H _ I hq) (λfl X z=>?_) λe X z=>z
  have F:∀{j:St} {l:Hp} {v:V} {u:ci},Inv (vH O P w K R base N d a f g A c s H E) [] j l X->RelV v u->Q v l->CE c P w H s Q u X :=
    λ{j l v u} J Y q=>#[v,l,J.os,J.bare,J.base,J.vD,Y,q]
  cases fl with
  |ret u =>
    obtain⟨v,j,l,J,Y,q⟩:=z
    exact F J Y q
  |next =>
    refine e2a2 z λj l J q=>?_
    exact F (v:=V.wm) (u:=Value.none) J rfl q
  |brk =>
    refine e2a2 z λ_ _ _ q=>?_
    exact io q
  |cont =>
    refine e2a2 z λ_ _ _ q=>?_
    exact io q
section
variable{X:Cx}{x:Str}{p pos:Pos}{e:iD}{es:List iD}{t:TA}{id T:String}{r:List V->Hp->VK->Prop}
def tCB(r:List V->Hp->VK->Prop)(t:TA):TE:=λa H Q=>t a H λb c=>r b c Q
def ww(d:yu X (.builtin id) r)(f:Gl X x)(g:X.mg x=none)(i:mH x=↑(.builtin id))(j:PA X (e::es) t)(k:x≠"__name__":=by decide)(b:(x==55)=false:=by decide)
 (he:gJ (e::es) X.env=58::gJ es X.env:=by rfl) (hpl:(jg pos<|gJ es X.env).any (·.1)=false:=by rfl):PE X (.Call (.Name x p) (e::es) [] pos) (tCB r t):=by
  intro a s c H Q I h
  refine kA<|yZ I f g i ?_ k b
  exact pq (vB (j pos a s c H _ I h) λl m n=>e2a3 n λo q u v w=>d a m c q o l Q u v w) he hpl
def xi(f:yu X (.type T) r)(g:Gl X x)(i:X.mg x=none)(j:mH x=↑(.type T))(k:PA X (e::es) t)(l:x≠"__name__":=by decide)(b:(x==55)=false:=by decide)
 (he:gJ (e::es) X.env=58::gJ es X.env:=by rfl) (c:(jg pos<|gJ es X.env).any (·.1)=false:=by rfl):PE X (.Call (.Name x p) (e::es) [] pos) (tCB r t):=by
  intro a s d H Q I h
  refine kA<|yZ I g i j ?_ l b
  exact jQ (vB (k pos a s d H _ I h) λm n o=>e2a3 o λq u v w y=>f a n d u q m Q v w y) he c
def JK(c:yu X (.type T) r)(d:Gl X x)(f:X.mg x=none)(g:mH x=↑(.type T))(i:x≠"__name__":=by decide)(b:(x==55)=false:=by decide) :
  PE X (.Call (.Name x p) [] [] pos) (tCB r A1):=by
 intro a s j H Q I h;refine kA<|yZ I d f g ?_ i b;exact PyProof.Rows.callWith_type0<|c a s j H [] [] Q I .nil h
end
end L2
namespace HT
open PySem PyProof.Rows
noncomputable def wN(n d:Nat):Option Int->Nat
 |none=>d
 |some v=>if v<0 then (v+(n:Int)).toNat else min v.toNat n
def DJ(n d:Nat):wN n d none=d:=rfl
def F8(n d k:Nat):wN n d ↑(k:Int)=min k n:=by show (if (k:Int)<0 then ((k:Int)+(n:Int)).toNat else min (k:Int).toNat n)=min k n;rw[cr q0a,lq]
def a0x(n d:Nat)(b:d<=n)(o:Option Int):wN n d o<=n:=by
 cases o with
 |none=>exact b
 |some v =>
  show (if v<0 then (v+(n:Int)).toNat else min v.toNat n)<=n;by_cases a:v<0
  ·rw[gI a];lia
  ·rw[cr a];exact Nat.min_le_right _ _
def LL(v:Int)(n d:Nat):(if v<0 then max (v+(n:Int)) 0 else min v (n:Int))=((wN n d ↑v:Nat):Int):=by
 show (if v<0 then max (v+(n:Int)) 0 else min v (n:Int))=(((if v<0 then (v+(n:Int)).toNat else min v.toNat n):Nat):Int);by_cases a:v<0
 ·simp only[gI a];lia
 ·simp only[cr a];lia
def JL(lo a:Option Int)(n:Nat):pU lo a 1 (n:Int)=(((wN n 0 lo:Nat):Int),((wN n n a:Nat):Int)):=by
 refine Prod.ext ?_ ?_
 ·cases lo with
  |none=>rfl
  |some v=>exact LL v n 0
 ·cases a with
  |none=>rfl
  |some v=>exact LL v n n
def JM(i j:Nat):kX (i:Int) (j:Int) 1=j-i:=by unfold kX;split<;>lia
def DL(p:pW v o)(h:Q o s):gS (gU a w) A (Builtin.Slice.slicePartIndex v) Q E s:=by
 cases p with
 |none=>exact slicePart_none h
 |int i t=>exact slicePart_int h
def yJ{lo:Option Int}{n:Nat}(g:s.heap.IsSliceOf sl d e .none)(i:pW d lo)(j:pW e c)
 (h:Q (((wN n 0 lo:Nat):Int),1,wN n n c-wN n 0 lo) s):gS (gU f w) A (Builtin.Slice.sliceApplied (.ref sl)<|pure (n:Int)) Q E s:=by
  refine e1a3 (id g) λos a k b=>?_
  refine am<|am<|iZ a b (x:=d) rfl<|am<|iZ a b (x:=e) rfl<|am<|iZ a b (x:=.none) rfl<|ap ?_
  refine am<|slicePart_none ?_
  rw[cr q0q]
  refine am<|DL i<|am<|DL j<|am<|ap ?_
  show gS _ _ (match pU lo c 1 (n:Int) with|(lo,c)=>pure (lo,(1:Int),kX lo c 1)) _ _ s
  rw[JL lo c n]
  show gS _ _ (pure (((wN n 0 lo:Nat):Int),(1:Int),kX ((wN n 0 lo:Nat):Int) ((wN n n c:Nat):Int) 1)) _ _ s
  rw[JM]
  exact ap h
def OF(a:Array ci)(i k:Nat):((hW k).filterMap λ(m:Nat)=>a[((i:Int)+(m:Int)*1).toNat]?).toArray=((a.toList.drop i).take k).toArray:=by
 have e:(λ(m:Nat)=>a[((i:Int)+(m:Int)*1).toNat]?)=λm=>a[i+m]?:=by
  funext m
  have:((i:Int)+(m:Int)*1).toNat=i+m:=by lia
  rw[this]
 rw[e];have:=pick_run a i k;rw[tV]at this;have b:((λx=>a[x]?)∘λx=>i+x)=λm=>a[i+m]?:=rfl;rw[b]at this;rw[this]
def Bk{t sl:gH}{items:Array ci}{vl vu:ci}{lo hi:Option Int}{Q:ci->gO->Prop}(ht:IsTup s.heap t items)(hs:s.heap.IsSliceOf sl vl vu .none)(pl:pW vl lo)(pu:pW vu hi)
  (hw:¬(wN items.size 0 lo=0/\wN items.size items.size hi=items.size))
  (h:Q (.ref ⇑s) { s with heap:=s.heap.push { cls:=.type "tuple",data:=.seq (94).toArray}})
  (hsz:items.size<=gL):gS (gU prog w) A (nV (.ref t)<|.ref sl) Q E s:=by
 have LM:sizeOk (.seq (94).toArray):=by show (94).toArray.size<=gL;rw[gX,lJ,kM,gR];omega
 refine e1a3 (id hs) λos hos hcs hds=>?_;have hTs:s.TypeIs (.ref sl) "slice":=#[os,hos,hcs];unfold nV
 try with_reducible refine iq ?_
 first|refine am (ap ?_)|skip
 refine am<|wpAny_sequenceKey ht.typeIs q0q ?_
 refine am (wpAny_callSpecial?_slot (name:=lO "__getitem__") ht.typeIs kg
  (iM kg ht.typeIs entry_tuple_getitem ?_ (args_tuple_getitem _ _)))
 show gS _ _ (pQ (.ref t) >>= _) _ _ s;refine am<|tupleItemsOf_ ht ?_;refine am<|kI hTs ?_;rw[gI q0q];refine am<|yJ hs pl pu ?_
 have hno:¬((((wN items.size 0 lo:Nat):Int)==0&&(1:Int)==1&&(wN items.size items.size hi-wN items.size 0 lo)==items.size)=true):=by intro q;rw[iw,iw]at q;have q1:((wN items.size 0 lo:Nat):Int)=0:=eq_of_beq q.1.1;have q2:wN items.size items.size hi-wN items.size 0 lo=items.size:=eq_of_beq q.2;exact hw #[q0d,q0d]
 show gS _ _ (if (((wN items.size 0 lo:Nat):Int)==0&&(1:Int)==1&&(wN items.size items.size hi-wN items.size 0 lo)==items.size)=true then _ else _) _ _ s;rw[cr hno,OF]
 first
  | exact am (m:=lh _)<|iE (ap #[_,rfl,ap h]) LM
  | exact am (m:=lh _)<|iE (am<|ap<|ap #[_,rfl,ap h]) LM
  | exact am<|am (m:=lh _)<|iE (ap<|ap #[_,rfl,ap h]) LM
  | exact am<|am (m:=lh _)<|iE (ap #[_,rfl,ap h]) LM
end HT
namespace L2
open PySem PySem.Spec PyProof.Rows
abbrev TO:=St->Hp->(Option Int->Hp->Prop)->Prop
def PO(X:Cx)(e:Option iD)(t:TO):Prop :=
 ∀(a:List (gH×Obj)) (s:gO) (b:St) (H:Hp) (Q:Option Int->Hp->Prop),Inv X a b H s->t b H Q ->
  gS 19 X.A (evalPart e X.env) (λu d=>∃o c,Inv X a b c d/\pW u o/\Q o c) X.xe s
def Sq:TO:=λ_ H Q=>Q none H
def Yn(t:TE):TO:=λa H Q=>t a H λx b=>∃i,x=.int i/\Q ↑i b
def intsAre_of{a:List Int}:∀{b:List ci},Vals (a.map V.int) b->kS b a:=by
 induction a with
 |nil=>intro b r;rw[oH]at r;cases r;exact .nil
 |cons n a c =>
  intro b r;rw[h8]at r
  cases r with
  |cons d f =>
   obtain⟨t,e⟩:=d;subst e;exact .cons n t<|c f
section
variable{X:Cx}{e:iD}{te:TE}{lo hi:Option iD}{tl th:TO}{pos p2:Pos}
def Dd:PO X none Sq:=by intro a s b H Q I h;rw[tM];exact ap #[none,H,I,.none,h]
def De(h:PE X e te):PO X ↑e (Yn te):=by intro a s b H Q I c;rw[evalPart_some];refine vB (h a s b H _ I c) λu l d=>e2a3 d λx f g j k=>?_;obtain⟨i,rfl,q⟩:=k;obtain⟨t,rfl⟩:=j;exact#[↑i,f,g,.int i t,q]
def Vc(X:Cx)(r:V->Option Int->Option Int->Hp->VK->Prop):Prop :=
 ∀(a:List (gH×Obj)) (s:gO) (b:St) (H:Hp) (x:V) (v c d:ci) (lo hi:Option Int) (f:gH) (Q:VK),Inv X a b H s->RelV x v->s.heap.IsSliceOf f c d .none->pW c lo->pW d hi->r x lo hi H Q ->
  ∃T g,mZ (.type T) "__getitem__"=pure (some<|.builtin g)/\s.TypeIs v T/\gS 19 X.A (nV v<|.ref f) (EP X a b Q) X.xe s
def Vc.or(h:Vc X r)(l:Vc X m):Vc X (λx lo hi H Q=>r x lo hi H Q\/m x lo hi H Q):=by
 intro a s b H x v c d lo hi f Q I g i j k q;rcases q with q|q
 ·exact h a s b H x v c d lo hi f Q I g i j k q
 ·exact l a s b H x v c d lo hi f Q I g i j k q
def tSl(r:V->Option Int->Option Int->Hp->VK->Prop)(te:TE)(tl th:TO):TE:=λa H Q=>te a H λx b=>tl a b λl c=>th a c λu d=>r x l u d Q
def zJ(k:Vc X r)(m:PE X e te)(n:PO X lo tl)(o:PO X hi th):PE X (.Subscript e (.Slice lo hi none p2) pos) (tSl r te tl th):=by intro a s d H Q I h;refine sN<|vB (m a s d H _ I h) λv p f=>e2a3 f λx t w y z=>?_;refine wpAny_Slice<|vB (n a p d t _ w z) λg A f=>e2a3 f λl B C D E=>vB (o a A d B _ C E) λi c f=>e2a3 f λu j F G J=>?_;rw[tM];refine ap ?_;have L:Inv X a d j { c with heap:=c.heap.push { cls:=.type "slice",data:=.fields #v[g,i,.none]}}:=F.kept (t':=c.toks) λb P q=>ce _ q;obtain⟨T,R,M,N,O⟩:=k a { c with heap:=c.heap.push { cls:=.type "slice",data:=.fields #v[g,i,.none]}} d j x v g i l u ⇑c Q L y (qP ..) D G J;exact tail_any (ops:=[.ref ⇑c,v]) N M O (by with_unfolding_all rfl)
noncomputable def DM(a:List V)(lo hi:Option Int):List V:=(a.drop<|HT.wN a.length 0 lo).take<|HT.wN a.length a.length hi-HT.wN a.length 0 lo
def CJ(a:List V)(lo hi:Option Int):(DM a lo hi).length<=a.length:=by unfold DM;rw[lJ,kM];omega
def a0y(K:gG):V->Option Int->Option Int->Hp->VK->Prop:=λx lo hi H Q=>∃a b,x=.ref a/\yI K H a b /\
 ¬(HT.wN b.length 0 lo=0/\HT.wN b.length b.length hi=b.length)/\∀p,H p=none->Q (.ref p) (upd H p<|.tup<|DM b lo hi)
def Wb:Vc X (a0y X.K):=by
 intro g s u H x v w y lo hi z Q I k l m n h;obtain⟨a,d,rfl,p,t,q⟩:=h;cases k;refine e1a3 (I.tuple p) λf r i j=>?_;have c:f.toArray.size=d.length:=by rw[gX];exact r.length.symm
 refine#["tuple",_,PyProof.Rows.slot_tuple_getitem.lookup,i.typeIs,?_];refine HT.Bk i l m n (by rw[c];exact t) ?_ (by rw[c];exact j);rw[c];refine#[.ref ⇑s,_,I.laid (t':=s.toks) (o:=.tup<|DM d lo hi) (λb A q=>ce _ q) (gK _) ?_,rfl,q _<|I.vD.fresh<|gK _];exact#[iV (CJ d lo hi) j,_,(r.drop<|HT.wN d.length 0 lo).take<|HT.wN d.length d.length hi-HT.wN d.length 0 lo,IsTup.new _ _]
end
noncomputable def Vd(n:Nat)(i:Int):Option Nat:=if 0<=i then (if i<n then some i.toNat else none) else if -(n:Int)<=i then some (i+n).toNat else none
noncomputable def EY{a:Type}(b:List a)(i:Int):Option a:=(Vd b.length i).bind λj=>b[j]?
def LN{n:Nat}{i:Int}{j:Nat}(h:Vd n i=↑j):seqIndex? i n=↑j/\j<n/\-(n:Int)<=i/\i<n:=by
 unfold Vd at h;by_cases b:0<=i
 ·rw[gI b]at h;by_cases a:i<n
  ·rw[gI a]at h;have e:i.toNat=j:=iP h;exact#[by rw[seqIndex_of b a,e],q0a,q0a,a]
  ·rw[cr a]at h;cases h
 ·rw[cr b]at h;by_cases a:-(n:Int)<=i
  ·rw[gI a]at h;have e:(i+n).toNat=j:=iP h;exact#[by rw[uq q0a a,e],q0a,a,q0a]
  ·rw[cr a]at h;cases h
def LO{α:Type}{xs:List α}{i:Int}{v:α}(h:EY xs i=↑v):∃j,seqIndex? i xs.length=↑j/\xs[j]?=↑v/\j<xs.length/\-(xs.length:Int)<=i/\i<xs.length:=by
 unfold EY at h
 cases e:Vd xs.length i with
 |none=>rw[e]at h;cases h
 |some j =>
  rw[e]at h;obtain⟨h1,h2,h3,h4⟩:=LN e;exact#[j,h1,h,h2,h3,h4]
def LP{α:Type}{xs:List α}{j:Nat}{v:α}(h:xs[j]?=↑v):EY xs (j:Int)=↑v:=by
 have hj:j<xs.length:=(List.getElem?_eq_some_iff.mp h).1
 have e:Vd xs.length (j:Int)=↑j:=by unfold Vd;rw[gI q0a,gI q0a];simp
 unfold EY;rw[e];exact h
def LQ(b:iD):Prop:=∀o i,rQ b false o i=operate [o,i] (nV o i)
def IxR(X:Cx)(r:R2):Prop :=
 ∀(c a:iD) (b:List (gH×Obj)) (s:gO) (d:St) (H:Hp) (x y:V) (v u:ci) (Q:VK),Inv X b d H s->RelV x v->RelV y u->r x y H Q ->
  rQ a false v u=operate [v,u] (nV v u)->gS 19 X.A (subscriptTail c a v u) (EP X b d Q) X.xe s
def MtR(X:Cx)(e:String)(r:V->List V->Hp->VK->Prop):Prop :=
 ∀(a:List (gH×Obj)) (s:gO) (b:St) (H:Hp) (x:V) (c:List V) (v:ci) (d:List ci) (Q:VK),Inv X a b H s->RelV x v->Vals c d->r x c H Q ->
  gS 19 X.A (call (.builtin e) (v::d)) (EP X a b Q) X.xe s
section
variable{X:Cx}
def xY(d:IxR X r)(e:PE X a f)(g:PE X b i)(j:LQ b):PE X (.Subscript a b pos) (XM r f i):=by intro c s k H Q I h;exact sN<|V3 e g I h λv u l x y m n o p q=>d a b c l k m x y v u Q n o p q<|j _ _
def a0A(K:gG):R2:=λx y H Q=>∃p a i v,x=.ref p/\y=.int i/\vX K H p a/\EY a i=↑v/\Q v H
def a0B(K:gG):R2:=λx y H Q=>∃p a i v,x=.ref p/\y=.int i/\yI K H p a/\EY a i=↑v/\Q v H
def wy:IxR X (a0A X.K):=by
 intro value slice a s g H x y v u Q I n o h k;obtain⟨p,J,i,z,rfl,rfl,A,B,q⟩:=h;cases n;obtain⟨t,rfl⟩:=o;refine e1a3 (I.list A) λc r d L=>?_;obtain⟨j,b,C,M,D,E⟩:=LO B;refine e1a2 (r.get C) λw l e=>?_;have F:=r.length;have N:=DI;have fin:EP X a g Q w s:=#[z,H,I,e,q];by_cases m:0<=i
 ·have f:i.toNat=j:=by rw[seqIndex_of m E]at b;exact iP b
  exact item_listR d.isList m q0a (by rw[f];simpa using l) fin k
 ·have f:(i+(c.toArray.size:Int)).toNat=j:=by rw[uq q0a D]at b;rw[gX,<- F];exact iP b
  exact ur (x:=w) d.isList.typeIs slot_list_getitem.lookup
   (wpAny_getItem_list_neg (Q:=λr G=>r=w/\EP X a g Q r G) d.isList q0a (by rw[gX]<;>lia) q0a (by rw[f];simpa using l) #[rfl,fin]) k
def OG:IxR X (a0B X.K):=by
 intro value slice a s c H x y v u Q I e f h g;obtain⟨p,D,i,z,rfl,rfl,k,l,q⟩:=h;cases e;obtain⟨t,rfl⟩:=f;refine e1a3 (I.tuple k) λm r d E=>?_;obtain⟨j,n,o,F,G,J⟩:=LO l;refine e1a2 (r.get o) λw A b=>?_;have B:=r.length;have L:=DI;have fin:EP X a c Q w s:=#[z,H,I,b,q]
 exact ur (x:=w) d.typeIs slot_tuple_getitem.lookup
  (getItem_tuple (j:=j) (Q:=λr C=>r=w/\EP X a c Q r C) d q0a q0a (by rw[gX,<- B];exact n) (by simpa using A) #[rfl,fin]) g
def JN(a:List ci)(n j:Nat)(u:ci):Obj.mapSeq (·.setIfInBounds j u) { cls:=.type "list",data:=.seq a.toArray n}={ cls:=.type "list",data:=.seq (a.set j u).toArray n}:=by simp[Obj.mapSeq]
def Inv.lst(I:Inv X b d H s)(h:H p=↑(.lst c)) :
  ∃(a:List ci)(n:Nat),Vals c a/\s.heap.get? p=some { cls:=.type "list",data:=.seq a.toArray n}/\c.length<=gL:=by
 obtain⟨z,a,n,r,e⟩:=I.vD p _ h;exact#[a,n,r,e,z]
def Inv.Wc{c a:List ci}{n g:Nat}(I:Inv X d k H s)(h:H p=↑(.lst v))
 (l:s.heap.get? p=some { cls:=.type "list",data:=.seq c.toArray n}) (i:f { cls:=.type "list",data:=.seq c.toArray n}={ cls:=.type "list",data:=.seq a.toArray g}) (r:Vals j a) (m:j.length<=gL) (t:Nat) :
    Inv X d k (upd H p<|.lst j) { s with heap:=s.heap.update p f,toks:=t}:=by
  have e:(s.heap.update p f).get? p=some { cls:=.type "list",data:=.seq a.toArray g}:=by
    rw[iJ f l (by rw[i]<;>rfl),i]
  refine I.write (x:=p) (e:=p) (by rw[h];trivial) (.inl rfl) (λb u o q=>(iv _ _<|Ne.symm o).trans q) #[_,e] ?_
  exact#[m,a,g,r,e]
def Yo:V->V->V->Hp->(Hp->Prop)->Prop:=λo i v H Q=>∃p a k j,o=.ref p/\i=.int k/\H p=↑(.lst a)/\Vd a.length k=↑j/\Q (upd H p<|.lst<|a.set j v)
def set_list:VU X Yo:=by
 intro a s y H o i v F G u Q I z A B h;obtain⟨p,C,k,j,rfl,rfl,g,D,q⟩:=h;cases z;obtain⟨t,rfl⟩:=A;obtain⟨b,n,r,d,E⟩:=I.lst g;obtain⟨c,J,l,m⟩:=LN D;have e:=r.length;have L:=DI
 have w:Inv X a y (upd H p<|.lst<|C.set j v) { s with heap:=s.heap.update p (Obj.mapSeq (·.setIfInBounds j u))} :=
  I.Wc g d (JN b n j u) (r.set B j) (by rw[lZ];exact E) s.toks
 by_cases x:0<=k
 ·have f:k.toNat=j:=by rw[seqIndex_of x m]at c;exact iP c
  exact PySem.W.ki_setAt d x q0a (by rw[gX,<- e];exact m) (by rw[f];exact#[_,w,q])
 ·have f:(k+(b.toArray.size:Int)).toNat=j:=by rw[uq q0a l]at c;rw[gX,<- e];exact iP c
  exact PySem.W.ki_setBack d q0a (by rw[gX,<- e];exact l) q0a (by rw[f];exact#[_,w,q])
def F9(a b:Option Int)(n:Nat):(m9 a b none n).1=((HT.wN n 0 a:Nat):Int)/\(m9 a b none n).2.1=((HT.wN n n b:Nat):Int)/\(m9 a b none n).2.2=1:=by
 refine#[?_,?_,rfl]
 ·cases a with
  |none=>simp[m9,HT.wN]
  |some i =>
   simp only[m9,HT.wN,qf,show (1:Int)>0 by decide,if_true];by_cases h:i<0
   ·simp only[h,if_true]<;>lia
   ·simp only[h,o6]<;>lia
 ·cases b with
  |none=>simp[m9,HT.wN]
  |some i =>
   simp only[m9,HT.wN,qf,show (1:Int)>0 by decide,if_true];by_cases h:i<0
   ·simp only[h,if_true]<;>lia
   ·simp only[h,o6]<;>lia
def EZ(a:List ci)(b c:Option Int):slicePick a.toArray b c none=((a.drop<|HT.wN a.length 0 b).take<|HT.wN a.length a.length c-HT.wN a.length 0 b).toArray:=by refine e0a3 (F9 b c a.toArray.size) λd e f=>?_;unfold slicePick;rw[d,e,f];simp only[sliceRange_one,pick_run,gX]<;>rfl
def a0C(K:gG):V->Option Int->Option Int->Hp->VK->Prop:=λx c d H Q=>∃a b,x=.ref a/\vX K H a b/\∀p,H p=none->Q (.ref p) (upd H p<|.lst<|DM b c d)
def Df:Vc X (a0C X.K):=by intro g s u H x v w y e f z Q I j k l m h;obtain⟨a,c,rfl,n,q⟩:=h;cases j;refine e1a3 (I.list n) λp r i t=>?_;have d:=r.length;refine#["list",_,slot_list_getitem.lookup,i.isList.typeIs,?_];refine tN i.isList k l m .none q0o ?_ (by rw[gX]<;>lia);rw[EZ,<- d];refine#[.ref ⇑s,_,I.laid (t':=s.toks) (o:=.lst<|DM c e f) (λb A q=>ce _ q) (gK _) ?_,rfl,q _<|I.vD.fresh<|gK _];exact#[iV (CJ c e f) t,_,0,(r.drop<|HT.wN c.length 0 e).take<|HT.wN c.length c.length f-HT.wN c.length 0 e,gW _ rfl]
noncomputable def Bl:V->Bool
 | .wm=>true
 | .bl _=>true
 | .int _=>true
 | .str _=>true
 |_=>false
noncomputable def RU:V->V->Bool
 | .wm,.wm=>true
 | .bl a,.bl b=>a==b
 | .bl a,.int b=>(if a then 1 else 0)==b
 | .int a,.bl b=>a==(if b then 1 else 0)
 | .int a,.int b=>a==b
 | .str a,.str b=>a==b
 |_,_=>false
def Wd(e:RelV y u)(c:RelV x v)(g:Bl y=true)(f:Bl x=true):SeqAt.EqAt A s u v (RU y x):=by
 cases y with
 |wm =>
  cases e
  cases x with
  |wm=>cases c;exact SeqAt.EqAt.same _
  |bl b=>cases c;exact SeqAt.EqAt.none_bool b
  |int b=>obtain⟨t,rfl⟩:=c;exact SeqAt.EqAt.none_int b t
  |str b=>obtain⟨t,rfl⟩:=c;exact SeqAt.EqAt.none_str b t
  |_=>exact g8 (show false=true from f) gV
 |bl a =>
  cases e
  cases x with
  |wm=>cases c;exact SeqAt.EqAt.bool_none a
  |bl b=>cases c;exact SeqAt.EqAt.bool_bool a b
  |int b=>obtain⟨t,rfl⟩:=c;exact SeqAt.EqAt.bool_int a b t
  |str b=>obtain⟨t,rfl⟩:=c;exact SeqAt.EqAt.bool_str a b t
  |_=>exact g8 (show false=true from f) gV
 |int a =>
  obtain⟨d,rfl⟩:=e
  cases x with
  |wm=>cases c;exact SeqAt.EqAt.int_none a d
  |bl b=>cases c;exact SeqAt.EqAt.int_bool a d b
  |int b=>obtain⟨t,rfl⟩:=c;exact SeqAt.EqAt.int_int a d b t
  |str b=>obtain⟨t,rfl⟩:=c;exact rM a d b t
  |_=>exact g8 (show false=true from f) gV
 |str a =>
  obtain⟨d,rfl⟩:=e
  cases x with
  |wm=>cases c;exact SeqAt.EqAt.str_none a d
  |bl b=>cases c;exact SeqAt.EqAt.str_bool a d b
  |int b=>obtain⟨t,rfl⟩:=c;exact rN a d b t
  |str b=>obtain⟨t,rfl⟩:=c;exact SeqAt.EqAt.str_str a d b t
  |_=>exact g8 (show false=true from f) gV
 |_=>exact g8 (show false=true from g) gV
noncomputable def JO(x:V)(u:ci):Bool:=match u with
 | .none=>RU .wm x
 | .bool b=>RU (.bl b) x
 | .int i _=>RU (.int i) x
 | .str z _=>RU (.str z) x
 |_=>false
def OH(r:RelV y u)(f:Bl y=true):JO x u=RU y x:=by
 cases y with
 |wm=>cases r;rfl
 |bl b=>cases r;rfl
 |int i=>obtain⟨t,rfl⟩:=r;rfl
 |str z=>obtain⟨t,rfl⟩:=r;rfl
 |_=>exact g8 (show false=true from f) gV
def Dg:∀{a:List V} {b:List ci},Vals a b->a.all Bl=true->b.any (JO x)=a.any λy=>RU y x:=by
 intro _ _ z f
 induction z with
 |nil=>rfl
 |cons h t c =>
  rw[pR,iw]at f;rw[oa,oa,OH h f.1,c f.2]
def zK(d:RelV x v)(e:Bl x=true):∀{b:List V} {c:List ci},Vals b c->b.all Bl=true->∀u∈c,SeqAt.EqAt A s u v (JO x u)
 |_,_,.nil,_=>λu a=>by cases a
 |y::b,u::c,.cons r t,f=>λg a=>by
  rw[pR,iw]at f;rcases List.mem_cons.mp a with rfl|a
  ·rw[OH r f.1];exact Wd r d f.1 e
  ·exact zK d e t f.2 g a
noncomputable def ZN(x:V)(a:List V):Bool:=a.any λy=>RU y x
def rIn(K:gG)(b:Bool):R2:=λx y H Q=>∃p a,y=.ref p/\(vX K H p a\/yI K H p a)/\Bl x=true/\a.all Bl=true/\Q (.bl<|if b then !ZN x a else ZN x a) H
def Fw:AH X (jr .In) (rIn X.K false):=by
 intro f s l H x y v u Q I g j h;obtain⟨p,m,rfl,b,i,c,q⟩:=h;cases j;rcases b with b|b
 ·refine e1a3 (I.list b) λa r d k=>?_;refine SeqAt.in_listAt (JO x) d.isList (λw e=>zK g i r c w<|by simpa using e) #[.bl _,H,I,rfl,?_];rw[show a.toArray.any (JO x)=a.any (JO x) by simp,Dg r c];exact q
 ·refine e1a3 (I.tuple b) λa r d k=>?_;refine SeqAt.in_tupleAt (JO x) d (λw e=>zK g i r c w<|by simpa using e) #[.bl _,H,I,rfl,?_];rw[show a.toArray.any (JO x)=a.any (JO x) by simp,Dg r c];exact q
def Bm:AH X (jr .NotIn) (rIn X.K true):=by
 intro f s l H x y v u Q I g j h;obtain⟨p,m,rfl,b,i,c,q⟩:=h;cases j;rcases b with b|b
 ·refine e1a3 (I.list b) λa r d k=>?_;refine SeqAt.notIn_listAt (JO x) d.isList (λw e=>zK g i r c w<|by simpa using e) #[.bl _,H,I,rfl,?_];rw[show a.toArray.any (JO x)=a.any (JO x) by simp,Dg r c];exact q
 ·refine e1a3 (I.tuple b) λa r d k=>?_;refine SeqAt.notIn_tupleAt (JO x) d (λw e=>zK g i r c w<|by simpa using e) #[.bl _,H,I,rfl,?_];rw[show a.toArray.any (JO x)=a.any (JO x) by simp,Dg r c];exact q
def wX:yu X (.builtin "len") (λg H Q=>∃p b,g=[.ref p]/\(vX X.K H p b\/yI X.K H p b)/\Q (.int b.length) H):=by
 intro i s l H g m Q I r h;obtain⟨p,b,rfl,c,q⟩:=h;obtain⟨u,rfl,j⟩:=vals1 r;cases j;have n:=DI;rcases c with c|c
 ·refine e1a3 (I.list c) λd e f k=>?_;have a:=e.length;exact Calls.call_len_list f.isList (by simp only[gX]<;>lia) #[.int b.length,H,I.tok _,#[s.toks+1,by rw[gX,a]],q]
 ·refine e1a3 (I.tuple c) λd e f k=>?_;have a:=e.length;exact len_tuple f (by simp only[gX]<;>lia) #[.int b.length,H,I.tok _,#[s.toks+1,by rw[gX,a]],q]
def ya:yu X (.type "list") (λB H Q=>∃p d,B=[.ref p]/\(vX X.K H p d\/yI X.K H p d)/\∀l,H l=none->Q (.ref l) (upd H l<|.lst d)):=by
 intro i s D H B F Q I r h;obtain⟨p,d,rfl,j,q⟩:=h;obtain⟨u,rfl,E⟩:=vals1 r;cases E
 have k:∀(a:List ci),Vals d a->d.length<=gL->∀(c:iG)(f:Nat),(∀b C,s.heap.get? b=↑C->c.get? b=↑C) ->
   c.get? ⇑s=some { cls:=.type "list",dict:=none,data:=.seq a.toArray f,slots:=#v[]}->EP X i D Q (.ref ⇑s) { s with heap:=c}:=λa g m c f t e =>
  #[.ref ⇑s,_,I.laid (t':=s.toks) t (gK _)<|show vO X.prog X.w _ c _ (.lst d) from#[m,a,f,g,e],rfl,q _<|I.vD.fresh<|gK _]
 rcases j with j|j
 ·refine e1a3 (I.list j) λa g x m=>?_;have v:=g.length;obtain⟨o,y,z,n,A⟩:=x.isList;exact call_list_seq p (.inl rfl) y z A (λc f t e=>k a g m c f t e) (by simp only[gX]<;>lia)
 ·refine e1a3 (I.tuple j) λa g x m=>?_;have v:=g.length;obtain⟨o,y,z,n,A⟩:=x;exact call_list_seq p (.inr rfl) y z A (λc f t e=>k a g m c f t e) (by simp only[gX]<;>lia)
def E4:yu X (.type "tuple") (λk H Q=>∃p d,k=[.ref p]/\((vX X.K H p d/\∀l,H l=none->Q (.ref l) (upd H l<|.tup d))\/(yI X.K H p d/\Q (.ref p) H))):=by
 intro a s m H k A Q I r h;obtain⟨p,d,rfl,h⟩:=h;obtain⟨u,rfl,x⟩:=vals1 r;cases x;rcases h with⟨g,q⟩|⟨g,q⟩
 ·refine e1a3 (I.list g) λc i j n=>?_;have t:=i.length;refine call_tuple_list j.isList (λf y=>?_) (by simp only[gX]<;>lia);have v:Inv X a m H { s with heap:=f}:=I.kept (t':=s.toks) y
  have z:Inv X a m (upd H f.objs.size<|.tup d) { s with heap:=f.push { cls:=.type "tuple",data:=.seq c.toArray}} :=
   v.laid (t':=s.toks) (λb o e=>ce _ e) (gK _) (show vO X.prog X.w _ _ _ (.tup d) from#[n,c,i,IsTup.new _ _])
  exact#[.ref f.objs.size,_,z,rfl,q _<|v.vD.fresh<|gK _]
 ·refine e1a3 (I.tuple g) λc i j n=>?_;exact call_tuple_same j #[.ref p,H,I,rfl,q]
def tyV(K:gG)(T:String)(x:V)(H:Hp):Prop:=match x with
 | .str _=>T="str"
 | .int _=>T="int"
 | .ref p=>(T="list"/\∃xs,vX K H p xs)\/(T="tuple"/\∃o,K.lookup p=↑o/\o.cls=.type "tuple"/\o.dict=none) \/
   (T="dict"/\((∃wV,H p=↑(.dK wV))\/∃wV,H p=↑(.dT wV)))\/(T="set"/\∃S n,H p=↑(.set S n))
 |_=>False
def OI(I:Inv X k y H s)(r:RelV x v)(f:tyV X.K T x H) :
  s.TypeIs v T/\∀a,v=.ref a->∃l,s.heap.get? a=↑l/\l.dict=none:=by
 cases x with
 |str z =>
  obtain⟨t,rfl⟩:=r;cases (show T="str" from f);exact#[typeIs_str s z t,λ_ e=>nomatch e]
 |int i =>
  obtain⟨t,rfl⟩:=r;cases (show T="int" from f);exact#[typeIs_int s i t,λ_ e=>nomatch e]
 |ref p =>
  cases r;rcases f with⟨rfl,A,q⟩|⟨rfl,o,b,u,g⟩|⟨rfl,b⟩|⟨rfl,S,n,b⟩
  ·refine e1a3 (I.list q) λw _ m _=>?_;refine#[m.isList.typeIs,λa e=>?_];cases e;refine e2a4 m λo n e c g _=>?_;exact#[o,e,g]
  ·refine#[#[o,I.yr p o b,u],λa e=>?_];cases e;exact#[o,I.yr _ o b,g]
  ·have z:∃o,s.heap.get? p=↑o/\o.ExactDict:=by
    rcases b with⟨h,b⟩|⟨h,b⟩
    ·obtain⟨_,_,_,_,o,_,_,e,d,_⟩:=I.vD p _ b;exact#[o,e,d]
    ·obtain⟨_,_,_,_,o,_,_,e,d,_⟩:=I.vD p _ b;exact#[o,e,d]
   refine e1a2 z λo e d=>?_;refine#[#[o,e,d.1],λa j=>?_];cases j;exact#[o,e,d.2.1]
  ·obtain⟨o,_,_,_,e,d,_⟩:=I.vD p _ b;refine#[#[o,e,d.1],λa j=>?_];cases j;exact#[o,e,d.2.1]
 |_=>exact io f
def Yp(K:gG)(T:String)(r:V->List V->Hp->VK->Prop)(b:TE):TE:=λc H Q=>b c H λx a=>tyV K T x a/\r x [] a Q
def tBM(K:gG)(T:String)(r:V->List V->Hp->VK->Prop)(c:TE)(t:TA):TE:=λa H Q=>c a H λx b=>tyV K T x b/\t a b λd e=>r x d e Q
variable{o e:iD}{es:List iD}{to:TE}{t:TA}{name:Str}{apos cpos:Pos}{T id:String}{r:V->List V->Hp->VK->Prop}
def OJ(k:PlainAttrs T)(d:Slot T name id)(f:typeOf (.builtin id)=pure (.type "method_descriptor"))(l:MtR X id r)(m:PE X o to)
 (b:iA o name X.env (eval o X.env)=eval o X.env:=by rfl)(c:(apos.endLine==cpos.line)=true:=by rfl):PE X (.Call (.Attribute o name apos) [] [] cpos) (Yp X.K T r to):=by
  intro a s g H Q I h
  refine wpAny_Call_method0_late b c<|vB (m a s g H _ I h) λv n p=>e2a4 p λx q i j u w=>?_
  obtain⟨y,z⟩:=OI i j u
  exact#[T,id,k,d,f,y,z,jY rfl<|PySem.evalArgs_none<|l a n g q x [] v [] Q i j .nil w]
def OK(p:PlainAttrs T)(f:Slot T name id)(i:typeOf (.builtin id)=pure (.type "method_descriptor"))(q:MtR X id r)(u:PE X o to)(w:PA X (e::es) t)
 (c:iA o name X.env (eval o X.env)=eval o X.env:=by rfl)
 (g:((jg cpos (gJ (e::es) X.env)).all (λx=>!x.1)&&(mJ cpos (kH [] X.env)).all (λx=>x.1.isSome)
&&decide ((e::es).length+([]:List pE).length+(if ([]:List pE).isEmpty then 0 else 1)<30))=true:=by rfl)
 (d:(apos.endLine==cpos.line)=true:=by rfl) (y:gJ (e::es) X.env=58::gJ es X.env:=by rfl) (b:(jg cpos<|gJ es X.env).any (·.1)=false:=by rfl) :
    PE X (.Call (.Attribute o name apos) (e::es) [] cpos) (tBM X.K T r to t):=by
  intro a s j H Q I h
  refine ut c g d rfl<|vB (u a s j H _ I h) λv z k=>e2a4 k λx A l m B C=>?_
  obtain⟨D,E⟩:=OI l m B
  refine#[T,id,p,f,i,D,E,?_]
  have n:=w cpos a z j A _ l C
  rw[y]at n ⊢
  refine jY (by show (false||(jg cpos<|gJ es X.env).any (·.1))=false;rw[b]<;>rfl)<|jt ?_
  exact vB n λF G k=>e2a3 k λJ L M N O=>q a G j L x J v F Q M m N O
end
def XQ(X:Cx)(e:String)(r:V->List V->Hp->VK->Prop):Prop :=
 ∀(a:List (gH×Obj)) (s:gO) (b:St) (H:Hp) (x:V) (c:List V) (v:ci) (d:List ci) (Q:VK),Inv X a b H s->RelV x v->Vals c d->r x c H Q ->
  gS 19 X.A (call (.builtin e) (v::d)) (EP X a b Q) X.xe s
def Vals.one:∀{x:V} {a:List ci},Vals [x] a->∃u,a=[u]/\RelV x u:=by intro _ _ z;cases z with|cons h t=>cases t;exact#[_,rfl,h]
def Vals.zero:∀{a:List ci},Vals [] a->a=[]
 |_,.nil=>rfl
def Vals.dropLast(h:Vals a b):Vals a.dropLast b.dropLast:=by
 induction h with
 |nil=>exact .nil
 |cons r t c =>
  cases t with
  |nil=>exact .nil
  |cons q d=>exact .cons r c
def Vals.eraseIdx:∀{a:List V} {b:List ci} (i:Nat),Vals a b->Vals (a.eraseIdx i) (b.eraseIdx i)
 |_,_,_,.nil=>.nil
 |_,_,0,.cons _ t=>t
 |_,_,i+1,.cons r t=>.cons r<|Vals.eraseIdx i t
def Vals.reverse(h:Vals a b):Vals a.reverse b.reverse:=by
 induction h with
 |nil=>exact .nil
 |cons r t c=>rw[nX,nX];exact Vals.append c<|.cons r .nil
def JP(l:List d):l.eraseIdx (l.length-1)=l.dropLast:=by
 induction l with
 |nil=>rfl
 |cons a r c =>
  cases r with
  |nil=>rfl
  |cons b r =>
   have e:(a::b::r).length-1=((b::r).length-1)+1:=by
    have f:(a::b::r).length=r.length+2:=rfl;have g:(b::r).length=r.length+1:=rfl
    lia
   rw[e,oo,c]
   all_goals rfl
def Fx:∀(l:List a)(i:Nat),(l.eraseIdx i).length<=l.length
 | [],_=>gK _
 |_::_,0=>lG _
 |_::r,i+1=>Nat.succ_le_succ<|Fx r i
def Inv.We{a its':List ci}{n:Nat}{d:Nat}(I:Inv X b g H s)(h:H l=↑(.lst p))
 (e:s.heap.get? l=some { cls:=.type "list",data:=.seq a.toArray n}) (i:f a.toArray=its'.toArray) (j:Vals c its') (k:c.length<=gL) :
    Inv X b g (upd H l<|.lst c) { s with heap:=s.heap.update l<|Obj.mapSeq f,toks:=d}:=by
  have q:=PySem.IsL.update e f
  rw[i]at q
  refine I.write (x:=l) (e:=l) (by rw[h];exact trivial) (.inl rfl) (λr u m o=>(iv s.heap (Obj.mapSeq f)<|Ne.symm m).trans o) #[_,q] ?_
  exact#[k,its',_,j,q]
def Inv.a0F{t':Nat}(I:Inv X a d H s)(e:Vals c b)(f:c.length<=gL) :
  Inv X a d (upd H ⇑s<|.lst c) { s with heap:=s.heap.push { cls:=.type "list",data:=.seq b.toArray},toks:=t'} :=
 I.laid (λ_ _ q=>ce _ q) (gK _) #[f,b,0,e,gW _ rfl]
def Inv.fresh(I:Inv X a b H s):H ⇑s=none:=I.vD.fresh<|gK _
def Inv.OM(I:Inv X c f H s)(d:H l=↑(.lst b)):b.length<=gL/\∃(a:List ci)(n:Nat),Vals b a/\b.length=a.length/\s.heap.get? l=some { cls:=.type "list",data:=.seq a.toArray n}:=by obtain⟨z,a,n,r,e⟩:=I.vD l _ d;exact#[z,a,n,r,r.length,e]
def LR:V->List V->Hp->VK->Prop:=λx b H Q=>∃l a y,x=.ref l/\b=[y]/\H l=↑(.lst a)/\a.length<gL/\Q .wm (upd H l<|.lst<|a++[y])
def M8:XQ X "list.append" LR:=by
 intro b s i H x j v k Q I d f h;obtain⟨l,m,y,rfl,rfl,c,o,q⟩:=h;cases d;obtain⟨u,rfl,g⟩:=f.one;obtain⟨z,a,n,r,p,e⟩:=I.OM c;refine call_meets F.slot_list_append #[_,e,rfl] F.entry_list_append (F.args_list_append_2 _ _) (PySem.list_append l a.toArray n u<|by rw[gX];lia) #[e,?_];refine#[.wm,_,I.We (its':=a++[u]) c e q0o (r.append<|.cons g .nil) ?_,rfl,q];rw[gY,hZ]
 lia
def Yq:V->List V->Hp->VK->Prop:=λx b H Q=>∃l a y,x=.ref l/\b=[]/\H l=↑(.lst a)/\a[a.length-1]?=↑y/\Q y (upd H l<|.lst a.dropLast)
def ON:XQ X "list.pop" Yq:=by
 intro d s p H x t v w Q I g i h;obtain⟨l,A,y,rfl,rfl,f,j,q⟩:=h;cases g;have b:=i.zero;subst b;obtain⟨z,a,n,r,k,e⟩:=I.OM f;refine e1a2 (r.get j) λu m o=>?_
 have c:a.toArray[a.toArray.size-1]?=↑u:=by show a.toArray[a.length-1]?=↑u;rw[<- iC,<- k];exact m
 refine call_meets mu #[_,e,rfl] F.entry_list_pop (F.args_list_pop_1 _) (MeetsSeq.list_pop_last l a.toArray n u c<|by rw[gX];omega) #[e,?_];refine#[y,_,I.We (its':=a.dropLast) f e ?_ r.dropLast ?_,o,q]
 ·show a.toArray.eraseIdxIfInBounds (a.toArray.size-1)=a.dropLast.toArray;rw[gX,qq,JP]
 ·rw[List.length_dropLast];omega
def OO:V->List V->Hp->VK->Prop:=λx b H Q=>∃l a i k y,x=.ref l/\b=[.int i]/\H l=↑(.lst a)/\-(2 ^ 63)<=i/\i<2 ^ 63/\seqIndex? i a.length=↑k/\a[k]?=↑y/\Q y (upd H l<|.lst<|a.eraseIdx k)
def Ig:XQ X "list.pop" OO:=by
 intro c s E H x G v J Q I f g h;obtain⟨l,j,i,k,y,rfl,rfl,d,m,o,p,A,q⟩:=h;cases f;obtain⟨u,rfl,B⟩:=g.one;obtain⟨t,rfl⟩:=B;obtain⟨z,a,n,r,C,e⟩:=I.OM d;refine e1a2 (r.get A) λw D b=>?_
 refine call_meets mu #[_,e,rfl] F.entry_list_pop (F.args_list_pop_2 _ _)
  (MeetsSeq.list_pop_at l a.toArray n i t k w (fitsIndex_both m o) (by rw[gX,<- C];exact p) (by rw[<- iC];exact D)<|by rw[gX];lia) #[e,?_]
 refine#[y,_,I.We (its':=a.eraseIdx k) d e ?_ (r.eraseIdx k) ?_,b,q]
 ·show a.toArray.eraseIdxIfInBounds k=(a.eraseIdx k).toArray;rw[qq]
 ·have:=Fx j k
  lia
def a0G:R2:=λx y H Q=>∃l b a c,x=.ref l/\y=.ref b/\H l=↑(.lst a)/\H b=↑(.lst c)/\a.length+c.length<=gL/\∀p,H p=none->Q (.ref p) (upd H p<|.lst<|a++c)
def Wg:AH X (mj .Add) a0G:=by
 intro d s t H x y v u Q I f g h;obtain⟨l,b,w,A,rfl,rfl,i,j,B,q⟩:=h;cases f;cases g;obtain⟨z,c,n,r,C,e⟩:=I.OM i;obtain⟨D,a,E,k,m,o⟩:=I.OM j;refine PySem.P.add_list e o ?_ (by rw[gX,gX];lia);have p:c.toArray++a.toArray=(c++a).toArray:=by simp
 rw[p];exact#[.ref _,_,I.a0F (t':=s.toks) (r.append k) (by rw[gY];lia),rfl,q _ I.fresh]
section
variable{κ:Type}[DecidableEq κ]
noncomputable def yb(wV:List (κ×V))(k:κ):Option V:=(wV.find? λkv=>decide<|kv.1=k).map (·.2)
noncomputable def putK(wV:List (κ×V))(k:κ)(v:V):List (κ×V) :=
 if (wV.any λkv=>decide<|kv.1=k)=true then wV.map (λkv=>if kv.1=k then (kv.1,v) else kv) else wV++[(k,v)]
noncomputable def zL(a:List (κ×V))(k:κ):List (κ×V):=a.filter λb=>decide<|b.1≠k
def yK{p:κ×V}{r:List (κ×V)}(e:p.1=k):yb (p::r) k=↑p.2:=by simp[yb,iK,e]
def yL{p:κ×V}{r:List (κ×V)}(e:¬p.1=k):yb (p::r) k=yb r k:=by simp[yb,iK,e]
def zM(k:κ):∀a:List (κ×V),(a.any λb=>decide<|b.1=k)=(yb a k).isSome
 | []=>rfl
 |p::r=>by
  rw[oa];by_cases e:p.1=k
  ·simp only[yK e,decide_eq_true e,Bool.true_or,Option.isSome_some]
  ·rw[yL e,ij e,Bool.false_or];exact zM k r
def zN(a:List (κ×V))(k:κ)(v:V):(putK a k v).length<=a.length+1:=by
 unfold putK;split
 ·rw[gN];lia
 ·rw[gY,hX,mW];lia
def OP{a:List (κ×V)}(v:V)(h:yb a k=none):putK a k v=a++[(k,v)]:=by unfold putK;rw[zM,h];exact cr q0q
def yW.yg(r:yW o u):o.isSome=u.isSome:=by
 cases o with
 |none=>cases u with
  |none=>rfl
  |some _=>exact(show False from r).elim
 |some _=>cases u with
  |none=>exact(show False from r).elim
  |some _=>rfl
def yW.getD(r:yW o u)(a:RelV d b):RelV (o.getD d) (u.getD b):=by
 cases o with
 |none=>cases u with
  |none=>exact a
  |some _=>exact(show False from r).elim
 |some _=>cases u with
  |none=>exact(show False from r).elim
  |some _=>exact r
def KV.val(r:KV a g)(k:κ):yW (yb a k) (qg g k):=by
 induction r with
 |nil=>exact True.intro
 | @cons p q l c h t i =>
  obtain⟨f,j⟩:=h;by_cases e:p.1=k
  ·have d:q.1=k:=f.symm.trans e;have b:qg (q::c) k=↑q.2:=by simp[qg,iK,d]
   rw[yK e,b];exact j
  ·have d:¬q.1=k:=λz=>e<|f.trans z;have b:qg (q::c) k=qg c k:=by simp[qg,iK,d]
   rw[yL e,b];exact i
def KV.any(r:KV a c)(k:κ):(a.any λb=>decide<|b.1=k)=c.any λb=>decide (b.1=k):=by
 induction r with
 |nil=>rfl
 |cons h t d=>rw[oa,oa,d,h.1]
def KV.Wh(r:KV c d)(k:κ)(f:RelV y u) :
  KV (c.map λa=>if a.1=k then (a.1,y) else a) (d.map λa=>if a.1=k then (a.1,u) else a):=by
 induction r with
 |nil=>exact .nil
 | @cons p q j l h t g =>
  rw[h8,h8];refine .cons ?_ g;obtain⟨b,i⟩:=h;by_cases e:p.1=k
  ·rw[gI e,gI<|b.symm.trans e];exact#[b,f]
  ·rw[cr e,cr<|λz=>e<|b.trans z];exact#[b,i]
def KV.put(r:KV a b)(k:κ)(c:RelV y u):KV (putK a k y) (stored b k u):=by
 unfold putK stored;rw[r.any k];by_cases e:(b.any λd=>decide<|d.1=k)=true
 ·rw[gI e,gI e];exact r.Wh k c
 ·rw[cr e,cr e];exact Paired.snoc r #[rfl,c]
def KV.drop(r:KV c g)(k:κ):KV (zL c k) (without g k):=by
 unfold zL without
 induction r with
 |nil=>exact .nil
 | @cons p q l m h t f =>
  obtain⟨d,i⟩:=h;rw[jm,jm];by_cases e:p.1=k
  ·have a:¬decide (p.1≠k)=true:=by simp[e]
   have b:¬decide (q.1≠k)=true:=by simp[d.symm.trans e]
   rw[cr a,cr b];exact f
  ·have j:¬q.1=k:=λz=>e<|d.trans z;have a:decide (p.1≠k)=true:=by simp[e]
   have b:decide (q.1≠k)=true:=by simp[j]
   rw[gI a,gI b];exact .cons #[d,i] f
def KV.length{wV:List (κ×V)}{vs:List (κ×ci)}(r:KV wV vs):wV.length=vs.length:=Paired.length r
def Ih(a:List (κ×V))(k:κ):(zL a k).length<=a.length:=iu _ _
end
def AO(r:RelV (kV k) u):(vp P w).is k u=true:=by
 cases k with
 |inl i=>obtain⟨t,e⟩:=(show ∃t,u=lE i t from r);subst e;exact HN P w i t
 |inr x=>obtain⟨t,e⟩:=(show ∃t,u=Value.str x t from r);subst e;exact HP P w x t
def M9:∀{a:List Key} {c:List ci},Vals (a.map kV) c->ItemsAre (vp P w) a c:=by
 intro d
 induction d with
 |nil=>intro _ r;rw[oH]at r;cases r;exact .nil
 |cons k a b =>
  intro _ r;rw[h8]at r
  cases r with
  |cons h t=>exact .cons (AO h)<|b t
abbrev KT(H:Hp):List (List Key×V)->List (List Key×gH×ci)->Prop:=Paired λp q=>p.1=q.1/\H q.2.1=↑(.tup<|p.1.map kV)/\RelV p.2 q.2.2
def KT.val(r:KT H a g)(k:List Key):yW (yb a k) ((sO g k).map (·.2)):=by
 induction r with
 |nil=>exact True.intro
 | @cons p q l c h t i =>
  refine e0a3 h λf _ j=>?_;by_cases e:p.1=k
  ·have d:q.1=k:=f.symm.trans e;have b:sO (q::c) k=↑q.2:=by simp[sO,iK,d]
   rw[yK e,b];exact j
  ·have d:¬q.1=k:=λz=>e<|f.trans z;have b:sO (q::c) k=sO c k:=by simp[sO,iK,d]
   rw[yL e,b];exact i
def KT.Wh(r:KT H b f)(k:List Key)(g:RelV y u) :
  KT H (b.map λc=>if c.1=k then (c.1,y) else c) (f.map<|putAt k u):=by
 induction r with
 |nil=>exact .nil
 | @cons p q l m h t i =>
  rw[h8,h8];refine .cons ?_ i;refine e0a3 h λa d j=>?_;unfold putAt;by_cases e:p.1=k
  ·rw[gI e,gI<|a.symm.trans e];exact#[a,d,g]
  ·rw[cr e,cr<|λz=>e<|a.trans z];exact#[a,d,j]
def KT.put(r:KT H a c)(k:List Key)(f:H b=↑(.tup<|k.map kV))(d:RelV y u) :
  KT H (putK a k y) (storedH c k b u):=by
 have e:(a.any λg=>decide<|g.1=k)=(sO c k).isSome:=by rw[zM,(r.val k).yg,iH]
 unfold putK storedH;rw[e];by_cases q:(sO c k).isSome=true
 ·rw[gI q,gI q];exact r.Wh k d
 ·rw[cr q,cr q];exact Paired.snoc r #[rfl,f,d]
def KT.keeps(r:KT H a d)(e:∀b c,H b=↑(.tup c)->f b=↑(.tup c)):KT f a d :=
 Paired.VL r λ_ _ z=>#[z.1,e _ _ z.2.1,z.2.2]
def Ve(b:xD P w H h)(e:Rd H a u):vO P w H h a u:=e.ok b
def Bo(d:xD P w H h)(e:Rd H a (.dK b)):b.length<=gL/\(a==kO)=false/\∃c,KV b c/\h.DictOf (vp P w) a c :=
 show vO P w H h a (.dK b) from Ve d e
def LS(d:xD P w H h)(e:H a=↑(.dK b)):b.length<=gL/\(a==kO)=false/\∃c,KV b c/\h.DictOf (vp P w) a c:=Bo d<|.inl e
def A4{b:List Key}(d:xD P w H h)(e:H a=↑(.tup<|b.map kV)):(oX<|vp P w).is h b a:=by obtain⟨_,c,r,o,f,g,n,i⟩:=(show vO P w H h a (.tup<|b.map kV) from d a _ e);exact#[o,c.toArray,n,f,g,i,by simpa using M9 r]
def CK(g:xD P w H h)(e:Rd H a (.dT b)):b.length<=gL/\(a==kO)=false /\
  ∃d,KT H b d/\h.DictOfH (oX<|vp P w) a d:=by
 obtain⟨z,y,d,r,o,j,k,n,s,u,v,A⟩:=(show vO P w H h a (.dT b) from Ve g e);refine#[z,y,d,r,o,j,k,n,s,u,v,λx c=>?_,A]
 have f:∀{l:List (List Key×V)} {m:List (List Key×gH×ci)},KT H l m->∀x∈m,(oX<|vp P w).is h x.1 x.2.1:=by
  intro l m q
  induction q with
  |nil=>intro x c;exact nomatch c
  | @cons p q C D i t B =>
   intro x c;rcases List.mem_cons.mp c with e|c
   ·subst e;exact A4 g (by rw[<- i.1];exact i.2.1)
   ·exact B x c
 exact f r x c
def Yr(d:xD P w H h)(e:H a=↑(.dT b)):b.length<=gL/\(a==kO)=false /\
  ∃c,KT H b c/\h.DictOfH (oX<|vp P w) a c:=CK d<|.inl e
def xS(H:Hp)(a:gH)(y:V)(r:Option V):Prop :=
 (∃wV k,Rd H a (.dK wV)/\y=kV k/\r=yb wV k)\/∃wV k b,Rd H a (.dT wV)/\y=.ref b/\H b=↑(.tup<|k.map kV)/\r=yb wV k
def Ga(H:Hp)(a:gH)(y v:V)(H':Hp):Prop :=
 (∃wV k,H a=↑(.dK wV)/\y=kV k/\wV.length<gL/\H'=upd H a (.dK<|putK wV k v)) \/
 ∃wV k b,H a=↑(.dT wV)/\y=.ref b/\H b=↑(.tup<|k.map kV)/\wV.length<gL/\H'=upd H a (.dT<|putK wV k v)
def xS.k{H:Hp}{a:gH}{wV:List (Key×V)}{k:Key}(e:H a=↑(.dK wV)):xS H a (kV k) (yb wV k):=.inl #[wV,k,.inl e,rfl,rfl]
def Ga.k{H:Hp}{a:gH}{wV:List (Key×V)}{k:Key}{v:V}(e:H a=↑(.dK wV))(hl:wV.length<gL):Ga H a (kV k) v (upd H a<|.dK<|putK wV k v):=.inl #[wV,k,e,rfl,hl,rfl]
def Inv.big(I:Inv X a b H s):kO<⇑s:=by have h:g9<⇑s:=(I.mod.glob.keeps I.bk).lt;exact nc q0q h
def Fy(B:A.units+1<ky)(I:Inv X i C H s)(g:xS H a y ↑v)(t:RelV y u)(h:∀f x,Inv X i C H x->RelV v f->Q f x) :
  gS 19 A (nV (.ref a) u) Q E s:=by
 rcases g with⟨j,k,e,m,l⟩|⟨j,k,b,e,m,eb,l⟩
 ·subst m;obtain⟨z,D,F,c,n⟩:=Bo I.vD e;obtain⟨f,q,d⟩:=yW.some_of (v:=v) (o:=qg F k) (by rw[l];exact c.val k);exact wpAny_getItem_of (AO t) n.mapOf q<|h f _ (I.tok _) d
 ·subst m;cases (show u=hO b from t);obtain⟨z,D,G,c,n⟩:=CK I.vD e;obtain⟨f,q,d⟩:=yW.some_of (v:=v) (o:=(sO G k).map (·.2)) (by rw[l];exact c.val k);refine e1a2 (Option.map_eq_some_iff.mp q) λp J r=>?_;refine wpAny_getItem_heap (lj B) (A4 I.vD eb) n J ?_;rw[r];exact h f _ (I.tok _) d
def a0H(r:A.units+1<ky)(I:Inv X d t H s)(g:xS H a y o)(n:RelV y u)(h:∀p,Inv X d t H p->Q (.bool o.isSome) p) :
  gS 19 A (jr .In u<|.ref a) Q E s:=by
 rcases g with⟨f,k,e,i,l⟩|⟨f,k,b,e,i,eb,l⟩
 ·subst i;obtain⟨z,j,v,c,m⟩:=Bo I.vD e;refine wpAny_in_of (AO n) j m.mapOf ?_;rw[<- (c.val k).yg,<- l];exact h _<|I.tok _
 ·subst i;cases (show u=hO b from n);obtain⟨z,j,x,c,m⟩:=CK I.vD e;refine wpAny_in_heap (lj r) (A4 I.vD eb) j m ?_;have q:=(c.val k).yg;rw[iH]at q;rw[<- q,<- l];exact h _<|I.tok _
def Sr(r:A.units+1<ky)(I:Inv X d t H s)(g:xS H a y o)(n:RelV y u)(h:∀p,Inv X d t H p->Q (.bool<|!o.isSome) p) :
  gS 19 A (jr .NotIn u<|.ref a) Q E s:=by
 rcases g with⟨f,k,e,i,l⟩|⟨f,k,b,e,i,eb,l⟩
 ·subst i;obtain⟨z,j,v,c,m⟩:=Bo I.vD e;refine wpAny_notIn_of (AO n) j m.mapOf ?_;rw[<- (c.val k).yg,<- l];exact h _<|I.tok _
 ·subst i;cases (show u=hO b from n);obtain⟨z,j,x,c,m⟩:=CK I.vD e;refine wpAny_notIn_heap (lj r) (A4 I.vD eb) j m ?_;have q:=(c.val k).yg;rw[iH]at q;rw[<- q,<- l];exact h _<|I.tok _
def Bp{h:Nat}(I:Inv X c i H s)(j:X4 (H a))(k:iT a s.heap d)(l:∃q,d.get? a=↑q)(f:vO X.prog X.w (upd H a g) d a g) :
  Inv X c i (upd H a g) { s with heap:=d,toks:=h} :=
 I.write (x:=a) (e:=a) j (.inl rfl) (λb q m z=>(k.2 b m).trans z) l f
def DN{d:iG}{b:List (Key×V)}(z:b.length<=gL)(f:(a==kO)=false)(c:KV b e)(g:d.DictOf (vp P w) a e) :
  vO P w h d a (.dK b):=#[z,f,e,c,g]
def Fz(M:A.units+1<ky)(I:Inv X j N H s)(g:Ga H a y v O)(D:RelV y u)(F:RelV v r)(h:∀G,Inv X j N O G->Q () G) :
  gS 19 A (su (.ref a) u r) Q E s:=by
 rcases g with⟨d,k,e,n,l,o⟩|⟨d,k,b,e,n,eb,l,o⟩
 ·subst n o;obtain⟨z,p,P,f,t⟩:=LS I.vD e;have x:P.length<=gL:=by rw[<- f.length];exact z
  have B:(putK d k v).length<=gL:=by have:=zN d k v;lia
  refine wpAny_setItem_pairs (hsz:=x) (AO D) t λJ i C=>h _ ?_;have R:∃q,J.get? a=↑q:=e3a2 i λq _ _ m _=> #[q,m];exact Bp I (by rw[e];exact True.intro) C R<|DN B p (f.put k F) i
 ·subst n o;cases (show u=hO b from D);obtain⟨z,p,S,f,t⟩:=Yr I.vD e;have x:S.length<=gL:=by rw[<- Paired.length f];exact z
  have B:(putK d k v).length<=gL:=by have:=zN d k v;lia
  refine wpAny_setItem_heap (hsz:=x) (lj M) (A4 I.vD eb) t λJ i C=>h _ ?_;obtain⟨q,T,U,m,W,Y,Z,_,h5⟩:=i;refine Bp I (by rw[e];exact True.intro) C #[q,m] #[B,p,_,(f.put k eb F).keeps λc ys L=>?_,q,T,U,m,W,Y,Z,h5];rw[uL<|X3 L e<|λz=>nomatch z];exact L
def Na(I:Inv X d j H s)(e:H a=↑(.dK b))(m:RelV (kV k) u)(l:(yb b k).isSome=true)(h:∀i,Inv X d j (upd H a<|.dK<|zL b k) i->Q () i) :
  gS 19 A (delItem (.ref a) u) Q E s:=by
 obtain⟨z,n,o,c,g⟩:=LS I.vD e
 refine wpAny_delItem_slot g.typeIs q0q qQ
  (nY qQ g.typeIs PySem.F.entry_dict_delitem (PySem.F.args_dict_delitem_2 _ _) (meets_dict_delitem_pairs (vp X.prog X.w) a<|AO m) ⟨o,g,by rw[<- c.length];exact z,by rw[<- (c.val k).yg];exact l,λp f r=>h _ ?_⟩)
 have t:∃q,p.get? a=↑q:=e3a2 f λq _ _ v _=> #[q,v];exact Bp I (by rw[e];exact True.intro) r t<|DN (iV (Ih b k) z) n (c.drop k) f
def Ys(I:Inv X d B H s)(e:H a=↑(.dK b))(j:RelV (kV k) u)(l:yb b k=↑v)(n:more=[]\/∃x,more=[x])
 (h:∀f p,Inv X d B (upd H a<|.dK<|zL b k) p->RelV v f->Q f p):gS 19 A (call (.builtin "dict.pop") (.ref a::u::more)) Q E s:=by
  obtain⟨z,C,r,c,y⟩:=LS I.vD e
  obtain⟨f,D,m⟩:=yW.some_of (v:=v) (o:=qg r k) (by rw[<- l];exact c.val k)
  have G:(keyPart u).isSome=true:=by
    cases k with
    |inl i=>obtain⟨t,q⟩:=(show ∃t,u=lE i t from j);subst q;rfl
    |inr x=>obtain⟨t,q⟩:=(show ∃t,u=Value.str x t from j);subst q;rfl
  have J:rH "dict.pop" #[.ref a::u::more,[]]:=by
    rcases n with q|⟨x,q⟩
    · subst q; exact PySem.F.args_dict_pop_2 _ _
    · subst q; exact PySem.F.args_dict_pop_3 _ _ _
  refine nY rR y.typeIs PySem.F.entry_dict_pop J (meets_dict_pop_there (vp X.prog X.w) a (AO j) more n G)
    #[r,f,y,by rw[<- c.length];exact z,D,λL g M=>h f _ ?_ m]
  have N:∃q,L.get? a=↑q:=e3a2 g λq _ _ O _=> #[q,O]
  exact Bp I (by rw[e];exact True.intro) M N<|DN (iV (Ih b k) z) C (c.drop k) g
def Yt(I:Inv X b g H s)(e:Rd H a (.dK d))(h:∀t f,Inv X b g H f->Q (.int d.length t) f):gS 19 A (call (.builtin "len") [.ref a]) Q E s:=by obtain⟨z,i,k,c,j⟩:=Bo I.vD e;refine call_len_dict i j (by rw[<- c.length];rw[iQ]at z;lia) ?_;rw[<- c.length];exact h _ _<|I.tok _
def OQ(i:iD):Prop:=∀a b,rQ i false a b=operate [a,b] (nV a b)
def Ss{m:String} 
 (n:mZ (.type T) "__getitem__"=pure (some<|.builtin m)) (p:OQ slice)
 (h:gS (gU a w) A (eval value g) (λo d=>gS (gU a w) A (eval slice g) (λi b=>b.TypeIs o T/\gS (gU a w) A (nV o i) Q E b) E d) E s) :
    gS (gU a w) A (eval (.Subscript value slice pos) g) Q E s:=by
  refine sN<|iY h (λo d j=>iY j (λi b c=>?_) λ_ _ x=>x) λ_ _ x=>x
  obtain⟨l,c⟩:=c
  refine am ?_
  rw[getitemInPython_of_ne l.not_modules]
  refine am<|pJ l n ?_
  have f:gS (gU a w) A (rQ slice false o i) (λr e=>gS (gU a w) A (letTemporaryGo value o r >>= λ_=>pure r) Q E e) E b:=by
    rw[p o i]
    exact wpAny_operating<|iY c (λr e k=>am<|wpAny_letTemporaryGo<|ap k) λ_ _ x=>x
  first
    | exact ap<|am f
    | exact am<|ap<|am f
    | exact am f
def Ii(I:Inv X f h H s)(g:xS H a y o):s.TypeIs (.ref a) "dict":=by
 rcases g with⟨c,k,e,_,_⟩|⟨c,k,b,e,_,_,_⟩
 ·obtain⟨_,_,i,_,d⟩:=Bo I.vD e;exact d.typeIs
 ·obtain⟨_,_,j,_,d⟩:=CK I.vD e;exact d.typeIs
def Yu(d e:TE):TE:=λb H Q=>d b H λx f=>e b f λy c=>∃a v,x=.ref a/\xS c a y ↑v/\Q v c
def a0I(d e:TE):TE:=λb H Q=>d b H λy f=>e b f λx c=>∃a o,x=.ref a/\xS c a y o/\Q (.bl o.isSome) c
def Su(d e:TE):TE:=λb H Q=>d b H λy f=>e b f λx c=>∃a o,x=.ref a/\xS c a y o/\Q (.bl<|!o.isSome) c
def Yv(d e f:TE):TS:=λD b H=>f b H λv g=>d b g λx h=>e b h λy i=>∃a c,x=.ref a/\Ga i a y v c/\D.nx b c
def Yw(e f g:TE)(h:V->V->Hp->VK->Prop):TS:=λD b H=>e b H λx i=>f b i λy c=>∃a v,x=.ref a/\xS c a y ↑v /\
 g b c λj k=>h v j k λz l=>∃d,Ga l a y z d/\D.nx b d
def OR(e f:TE):TS:=λD c H=>e c H λx g=>f c g λy d=>∃a b k,x=.ref a/\d a=↑(.dK b)/\y=kV k/\(yb b k).isSome=true/\D.nx c (upd d a<|.dK<|zL b k)
def Gb(k:X.A.units+1<ky)(l:PE X o m)(n:PE X i ty)(p:OQ i):PE X (.Subscript o i pos) (Yu m ty):=by intro b s f H Q I h;refine Ss PySem.F.slot_dict_getitem.lookup p<|vB (l b s f H _ I h) λu q c=>e2a3 c λx H1 r t w=>vB (n b q f H1 _ r w) λE G c=>e2a3 c λy H2 j z d=>e2a3 d λa v B g C=>?_;subst B;obtain rfl:u=hO a:=t;exact#[Ii j g,Fy k j g z λJ L D e=>#[v,H2,D,e,C]]
def OS(f:X.A.units+1<ky)(j:PE X i ty)(k:PE X o l):PC X .In i o (a0I ty l):=by intro b s e H Q I h;refine vB (j b s e H _ I h) λC m c=>e2a3 c λy H1 n p q=>vB (k b m e H1 _ n q) λu D c=>e2a3 c λx H2 r t d=>e2a3 d λa v w g z=>?_;subst w;obtain rfl:u=hO a:=t;exact a0H f r g p λE B=>#[.bl v.isSome,H2,B,rfl,z]
def Cc(f:X.A.units+1<ky)(j:PE X i ty)(k:PE X o l):PC X .NotIn i o (Su ty l):=by intro b s e H Q I h;refine vB (j b s e H _ I h) λC m c=>e2a3 c λy H1 n p q=>vB (k b m e H1 _ n q) λu D c=>e2a3 c λx H2 r t d=>e2a3 d λa v w g z=>?_;subst w;obtain rfl:u=hO a:=t;exact Sr f r g p λE B=>#[.bl<|!v.isSome,H2,B,rfl,z]
def Gc(j:X.A.units+1<ky)(k:PE X o l)(m:PE X i ty)(n:PE X value p)(q:jN value (some<|.Subscript o i c) pos.line X.env=pure false) :
  PS X (.Assign [.Subscript o i c] value pos) (Yv l ty p):=by
 intro b s e H D I h;refine wpAny_Assign_Subscript (vB (n b s e H _ I h) λr t d=>e2a3 d λv H1 w z B=>vB (k b t e H1 _ w B) λu C d=>e2a3 d λx H2 E F G=>vB (m b C e H2 _ E G) λP Q d=>e2a3 d λy H3 J L f=>e2a3 f λa H4 M g N=>?_) q;subst M;obtain rfl:u=hO a:=F;exact Fz j J g L z λR O=>#[e,H4,O,N]
def Sv(p:X.A.units+1<ky)(t:PE X o w)(B:PE X i ty)(C:PE X value E)(j:Yk X op F)
 (G:∀f d new,augStore i f d new=(do kG [new,f,d] (su f d new);release [new,f,d] [];pure .next)):PS X (.AugAssign (.Subscript o i q) op value pos) (Yw w ty E F):=by
  intro b s e H D I h
  refine se (vB (t b s e H _ I h) λu J c=>e2a3 c λx H1 L M N=>vB (B b J e H1 _ L N) λd s2 c=>e2a3 c λy H2 O r k=>e2a3 k λa v P g Q=>?_) G
  subst P
  obtain rfl:u=hO a:=M
  refine Fy p O g r λR S T l=>vB (C b S e H2 _ T Q) λU W c=>e2a3 c λY H3 Z m q3=>vB (j b W e H3 v Y R U _ Z l m q3) λw3 s5 c=>e2a3 c λz H4 I5 rz n=>e1a2 n λH5 g5 q4=>?_
  exact Fz p I5 g5 r rz λs6 I6=>#[e,H5,I6,q4]
def Gd(j:PE X o m)(n:PE X i ty):PS X (.Delete [.Subscript o i g] pos) (OR m ty):=by intro b s d H D I h;refine wpAny_Delete<|wpAny_deleteEach_cons<|wpAny_delete_Subscript<|vB (j b s d H _ I h) λu p f=>e2a3 f λx H1 q r t=>vB (n b p d H1 _ q t) λF G f=>e2a3 f λy H2 v w c=>e3a5 c λa z k A e B l C=>?_;subst A B;obtain rfl:u=hO a:=r;exact Na v e w l λJ E=>wpAny_deleteEach_nil #[d,_,E,C]
def Ij(h:iG)(a:kO<h.objs.size):vO P w H (h.push { cls:=.type "dict",data:=.dict #v[]}) h.objs.size (.dK []) :=
 #[iX _,beq_eq_false_iff_ne.mpr<|Ne.symm<|gZ a,[],.nil,sA h]
def DO:TE:=λ_ H Q=>∀p,H p=none->Q (.ref p) (upd H p<|.dK [])
def Bq:PE X (.Dict [] [] pos) DO:=λb s c H Q I h =>
 wpAny_Dict_empty #[.ref ⇑s,_,I.laid (a:=⇑s) (o:=.dK []) (t':=s.toks) (λ_ _ q=>ce _ q) (gK _)<|Ij s.heap I.big,rfl,h _<|I.vD.fresh<|gK _]
def JQ:List (TE×TE)->St->Hp->(List (V×V)->Hp->Prop)->Prop
 | [],_,H,Q=>Q [] H
 | (tk,tv)::r,σ,H,Q=>tk σ H λx H1=>tv σ H1 λy H2=>JQ r σ H2 λps H3=>Q ((x,y)::ps) H3
abbrev VV:List (V×V)->List (ci×ci)->Prop:=Paired λp q=>RelV p.1 q.1/\RelV p.2 q.2
def ZO(X:Cx)(d:Pos)(c:List (Option iD))(a:List iD)(e:List (TE×TE)):Prop :=
 ∀(b:List (gH×Obj)) (s:gO) (f:St) (H:Hp) (Q:List (V×V)->Hp->Prop),Inv X b f H s->JQ e f H Q ->
  gS 19 X.A (evalPairs<|pairTrees c a X.env d) (λi j=>∃g h,Inv X b f h j/\VV g i/\Q g h) X.xe s
def Sw:ZO X pos [] [] []:=λa s b H Q I h=>pairTrees_nil_walk #[[],H,I,.nil,h]
def OT(e:PE X k f)(g:PE X v i)(j:ZO X pos l m c) :
  ZO X pos (↑k::l) (v::m) ((f,i)::c):=λa s d H Q I h =>
 pairTrees_cons_walk (vB (e a s d H _ I h) λu n b=>e2a3 b λx H1 o p q=>vB (g a n d H1 _ o q) λD r b=>e2a3 b λy H2 t w z =>
  vB (j a r d H2 _ t z) λE F b=>e2a3 b λA H3 B rel C=>#[(x,y)::A,H3,B,.cons #[p,w] rel,C])
noncomputable def DP(b a:List (Key×V)):List (Key×V):=a.foldl (λc d=>putK c d.1 d.2) b
def KV.merge:∀{a:List (Key×V)} {d:List (Key×ci)} {b:List (Key×V)} {c:List (Key×ci)},KV a d->KV b c->KV (DP b a) (merged c d):=by
 intro a d b c r
 induction r generalizing b c with
 |nil=>intro q;exact q
 | @cons p q i j h t f =>
  intro g
  have e:KV (putK b p.1 p.2) (stored c q.1 q.2):=by have:=g.put p.1 h.2;rw[<- h.1];exact this
  exact f e
def AQ:∀(b a:List (Key×V)),(DP a b).length<=a.length+b.length
 | [],a=>by show a.length<=a.length+0;lia
 |p::r,a=>by have c:=AQ r<|putK a p.1 p.2;have d:=zN a p.1 p.2;show (DP (putK a p.1 p.2) r).length<=_;rw[hX];lia
def JR:∀{d:List (Key×V)} {g:List (ci×ci)},VV (d.map λi=>(kV i.1,i.2)) g->∃e,Carries (vp P w) g e/\KV d e:=by
 intro j
 induction j with
 |nil=>intro _ r;rw[oH]at r;cases r;exact#[[],True.intro,.nil]
 |cons p d f =>
  intro _ r;rw[h8]at r
  cases r with
  | @cons a b as bs h t =>
   refine e1a2 (f t) λe c q=>?_;obtain⟨l,k⟩:=b;exact#[(p.1,k)::e,#[AO h.1,rfl,c],.cons #[rfl,h.2] q]
def Yx(b:List (TE×TE)):TE:=λe H Q=>∀p,H p=none->JQ b e (upd H p<|.dK []) λf c=>c p=↑(.dK [])/\∃a:List (Key×V),f=a.map (λd=>(kV d.1,d.2))/\a.length<=15/\Q (.ref p) (upd c p<|.dK<|DP [] a)
def Sy(h:ZO X pos keys values i)(b:keys.all (·.isSome)=true)(n:keys.length=values.length)(p:keys≠[])
 (j:keys.length<=15):PE X (.Dict keys values pos) (Yx i):=by
  intro d s r H Q I q
  have t:=I.vD.fresh<|gK ⇑s
  have u:=I.laid (a:=⇑s) (o:=.dK []) (h':=s.heap.push { cls:=.type "dict",data:=.dict #v[]}) (t':=s.toks) (λ_ _ q=>ce _ q) (gK _)<|Ij s.heap I.big
  refine wpAny_Dict_walk (knd:=vp X.prog X.w) b n p j<|vB (h d _ r _ _ u<|q _ t) λR S v=>e2a4 v λT U m k e l=>e1a3 l λf x lk y=>?_
  subst x
  refine e1a2 (JR (P:=X.prog) (w:=X.w) k) λA c B=>?_
  obtain⟨z,C,D,E,F⟩:=LS m.vD e
  cases E
  refine#[A,c,F,λG g J=>#[.ref ⇑s,_,?_,rfl,y]]
  have L:(DP [] f).length<=gL:=by
    have M:=AQ f []
    rw[mW]at M
    rw[iQ];lia
  have N:∃q,G.get? ⇑s=↑q:=e3a2 g λq _ _ O _=> #[q,O]
  exact Bp m (by rw[e];exact True.intro) J N<|DN L C (B.merge .nil) g
structure M1(X:Cx)(o:iD)(m:Str)(apos:Pos)(e:iD)(cpos:Pos):Prop where
 base:iA o m X.env (eval o X.env)=eval o X.env
 ZP:((jg cpos (gJ [e] X.env)).all (λx=>!x.1)&&(mJ cpos (kH [] X.env)).all (λx=>x.1.isSome)
  && decide (([e]:List iD).length+([]:List pE).length+(if ([]:List pE).isEmpty then 0 else 1)<30))=true
 line:(apos.endLine==cpos.line)=true
 trees:jg cpos (gJ [e] X.env)=[58]
structure M2(X:Cx)(o:iD)(m:Str)(apos:Pos)(e f:iD)(cpos:Pos):Prop where
 base:iA o m X.env (eval o X.env)=eval o X.env
 ZP:((jg cpos (gJ [e,f] X.env)).all (λx=>!x.1)&&(mJ cpos (kH [] X.env)).all (λx=>x.1.isSome)
  && decide (([e,f]:List iD).length+([]:List pE).length+(if ([]:List pE).isEmpty then 0 else 1)<30))=true
 line:(apos.endLine==cpos.line)=true
 trees:jg cpos (gJ [e,f] X.env)=[58,(false,eval f X.env)]
def ZQ(H:Hp)(a:gH):Prop:=(∃b,Rd H a<|.dK b)\/∃b,Rd H a<|.dT b
def JS(I:Inv X k l H s)(d:ZQ H a) :
  s.TypeIs (.ref a) "dict"/\(∀b,hO a=.ref b->∃c,s.heap.get? b=↑c/\c.dict=none)/\(a==kO)=false:=by
 rcases d with⟨g,e⟩|⟨g,e⟩
 ·obtain⟨_,h,m,_,f⟩:=Bo I.vD e;refine#[f.typeIs,λb q=>?_,h];cases q;obtain⟨c,_,_,i,j,_⟩:=f;exact#[c,i,j.2.1]
 ·obtain⟨_,h,n,_,f⟩:=CK I.vD e;refine#[f.typeIs,λb q=>?_,h];cases q;obtain⟨c,_,_,i,j,_⟩:=f;exact#[c,i,j.2.1]
def Wi(r:A.units+1<ky)(I:Inv X d t H s)(g:xS H a y o)(n:RelV y u)(h:∀p q,Inv X d t H q->RelV (o.getD .wm) p->Q p q) :
  gS 19 A (call (.builtin "dict.get") [.ref a,u]) Q E s:=by
 rcases g with⟨i,k,e,j,l⟩|⟨i,k,b,e,j,eb,l⟩
 ·subst j;obtain⟨z,m,x,c,f⟩:=Bo I.vD e;refine nY j9 f.typeIs mf (rq _ _) (meets_dict_get (vp X.prog X.w) a (AO n) m) #[_,f.mapOf,h _ _ (I.tok _) ?_];rw[l];exact(c.val k).getD rfl
 ·subst j;cases (show u=hO b from n);obtain⟨z,m,v,c,f⟩:=CK I.vD e;refine nY j9 f.typeIs mf (rq _ _) (meetsH_dict_get (oX<|vp X.prog X.w) a b m) #[lj r,k,v,A4 I.vD eb,f,h _ _ (I.tok _) ?_];rw[l];exact(c.val k).getD rfl
def Wj(x:A.units+1<ky)(I:Inv X f B H s)(g:xS H a y o)(p:RelV y u)(q:RelV d r)(h:∀t v,Inv X f B H v->RelV (o.getD d) t->Q t v) :
  gS 19 A (call (.builtin "dict.get") [.ref a,u,r]) Q E s:=by
 rcases g with⟨j,k,e,m,l⟩|⟨j,k,b,e,m,eb,l⟩
 ·subst m;obtain⟨z,n,D,c,i⟩:=Bo I.vD e;refine nY j9 i.typeIs mf (rr _ _ _) (meets_dict_get_default (vp X.prog X.w) a (AO p) n r) #[_,i.mapOf,h _ _ (I.tok _) ?_];rw[l];exact(c.val k).getD q
 ·subst m;cases (show u=hO b from p);obtain⟨z,n,C,c,i⟩:=CK I.vD e;refine nY j9 i.typeIs mf (rr _ _ _) (meetsH_dict_get_default (oX<|vp X.prog X.w) a b n r) #[lj x,k,C,A4 I.vD eb,i,h _ _ (I.tok _) ?_];rw[l];exact(c.val k).getD q
def Wk(e f:TE):TE:=λb H Q=>e b H λx c=>∃a,x=.ref a/\ZQ c a/\f b c λy d=>∃o,xS d a y o/\Q (o.getD .wm) d
def Wl(e f g:TE):TE:=λb H Q=>e b H λx c=>∃a,x=.ref a/\ZQ c a/\f b c λy h=>g b h λz d=>∃o,xS d a y o/\Q (o.getD z) d
def Wm(f g:TE):TE:=λc H Q=>f c H λx d=>∃a,x=.ref a/\ZQ d a/\g c d λy e=>∃b k v,e a=↑(.dK b)/\y=kV k/\yb b k=↑v/\Q v (upd e a<|.dK<|zL b k)
def OU(p:X.A.units+1<ky)(q:PE X o r)(t:PE X e ty)(m:M1 X o "get" apos e c):PE X (.Call (.Attribute o "get" apos) [e] [] c) (Wk r ty):=by intro b s l H Q I h;refine qX m.base m.ZP m.line nZ j9 rS<|vB (q b s l H _ I h) λu v f=>e2a3 f λx H1 n w i=>e1a3 i λa z d B=>?_;subst z;obtain rfl:u=hO a:=w;refine e0a3 (JS n d) λC D _=>?_;refine#[C,D,?_];rw[m.trees];refine jY rfl<|jt<|jO<|vB (t b v l H1 _ n B) λM N f=>e2a3 f λy H2 E G j=>e1a2 j λO g J=>kY ?_;exact Wi p E g G λP R L k=>#[_,H2,L,k,J]
def OV(q:X.A.units+1<ky)(r:PE X o t)(v:PE X e ty)(w:PE X f B)(m:M2 X o "get" apos e f c):PE X (.Call (.Attribute o "get" apos) [e,f] [] c) (Wl t ty B):=by
 intro b s j H Q I h;refine qX m.base m.ZP m.line nZ j9 rS<|vB (r b s j H _ I h) λu C i=>e2a3 i λx H1 p D k=>e1a3 k λa E d G=>?_;subst E;obtain rfl:u=hO a:=D;refine e0a3 (JS p d) λJ L _=>?_;refine#[J,L,?_];rw[m.trees]
 refine jY rfl (jt (jO (vB (v b C j H1 _ p G) λW M i=>e2a3 i λy H2 N O P =>
  jO (vB (w b M j H2 _ N P) λY Z i=>e2a3 i λz H3 R S l=>e1a2 l λov g T=>kY ?_))))
 exact Wj q R g O S λw' s4 U n=>#[_,H3,U,n,T]
def OX(q:PE X o r)(t:PE X e ty)(m:M1 X o "pop" apos e c):PE X (.Call (.Attribute o "pop" apos) [e] [] c) (Wm r ty):=by intro b s n H Q I h;refine qX m.base m.ZP m.line nZ rR PySem.F.type_dict_pop<|vB (q b s n H _ I h) λu w g=>e2a3 g λx H1 p z i=>e1a3 i λa A d B=>?_;subst A;obtain rfl:u=hO a:=z;refine e0a3 (JS p d) λC D _=>?_;refine#[C,D,?_];rw[m.trees];refine jY rfl<|jt<|jO<|vB (t b w n H1 _ p B) λP R g=>e2a3 g λy H2 E G f=>e3a4 f λJ k v L M l N=>kY ?_;subst M;exact Ys E L G l (.inl rfl) λS T O j=>#[v,_,O,j,N]
end L2
namespace Att
open PySem PySem.W PySem.Calls PyProof.Rows
def C4:∀(c:List Int)(d:List ci),WellAll P h d (c.map WData.int)->kS d c:=by
 intro c
 induction c with
 |nil =>
  intro d w;rw[oH]at w;cases w;exact .nil
 |cons n c e =>
  intro d w;rw[h8]at w
  cases w with
  |cons a b =>
   cases a;exact .cons _ _<|e _ b
def Nb{l:qu}{n:Nat}(o:l.most=↑n) 
 (b:l.row.toRowW.claim.pre args=true) (j:WellAll P h vals args) :
    ∃a m c,vals=[hO a]/\args=[WData.list<|c.map WData.int]/\h.get? a=some { cls:=.type "list",data:=.seq m.toArray}/\kS m c/\c.length<=n:=by
  have k:WShape.hasAll [] args [.list .int]=true:=(pre_splitW b).1
  have p:l.pre.holds [] { args:=args}=true:=(pre_splitW b).2
  obtain⟨d,r,rfl,s,t⟩:=hasAllW_cons k
  obtain rfl:=hasAllW_nil t
  obtain⟨y,rfl,u⟩:=hasW_list s
  obtain⟨c,rfl⟩:=items_int u
  have e:c.length<=n:=by
    have g:(WTm.not<|.lt (.lit<|.int (n:Int))<|.len<|.arg 0).holds [] { args:=[.list<|c.map .int]}=true:=by
      have g:=(holds_andW p).1
      rw[o]at g
      exact g
    have i:=condW_of g<|w_not<|w_lt w_lit<|w_len_list<|w_arg rfl
    rw[gN]at i
    refine qJ λq=>?_
    first
      | (rw[decide_eq_true z]at i;exact g8 i q0q)
      | (simp at i;omega)
  cases j with
  |cons v w =>
    cases w
    cases v with
    |list x f=>exact#[_,_,c,rfl,rfl,x,C4 c _ f,e]
def Nc(l:qu)(args:List WData):l.row.toRowW.claim.post args (.bool true) args=true :=
 postW_of (r:=l.row.toRowW) (X:=(true==true))
  (show WShape.has [] (.bool true) .bool=true by first|rfl|decide|simp[WShape.has,WShape.arms,WShape.armsAll])
  (show (WTm.eq .res<|.lit<|.bool true).value [] { args:=args,res:=some<|.bool true,after:=args}=some (.bool<|true==true) from w_eq_bool (w_res rfl) w_lit) rfl
def Ik{l:qu}{n:Nat}{XP:(Str->Option ci)->iG->Prop}{d:DefRec}
 (E:l.most=↑n) (x:d.params.defaults=[])
 (call:∀(w:iL)(c b:gO)(s y:Str->Option ci)(j:gH)(o:Obj)(pm t e:ci)(a:gH)(i:List ci)(u:List Int),
 Ground q g [] XP w c s y b.heap->F w b.heap ->
 b.heap.get? j=↑o->o.data=.func (docDef d.name d.params d.body d.scope pm t e)->b.heap.CodeRec t d.name->s d.name=↑(.ref j) ->
 b.heap.get? a=some { cls:=.type "list",data:=.seq i.toArray}->kS i u->u.length<=n->b.gens=#v[] ->
 mq (gU l.prog w) qY (.call (.ref j) #[[.ref a],[]]) (λr v=>r=.ok (.ret (.bool true))/\OldK b.heap v.heap/\v.os=b.os/\m6 v.gens) b) :
    uE q g XP F l.row.toRowW d [] (λf i=>tO f i):=by
  intro w c b s y G Y j o pm t e H kV I hd z C A J args vals as k D L B M
  obtain rfl:H=.none:=Dflts.none C x
  obtain rfl:kV=.none:=Dflts.noKw C
  obtain⟨a,i,u,rfl,rfl,m,h,p⟩:=Nb E k B
  refine enter_call<|jL (call w c b s y j o pm t e a i u G Y I (fd_plain hd) z A m h p J) λr v N=>?_
  obtain⟨rfl,O,P,Q⟩:=N
  exact#[.inl #[.bool true,.bool true,[],rfl,λ_=>rfl,.bool true,Nc l _,λ_=>#[il,λ_ R=>(nomatch R)]],O,P,Q]
end Att
namespace L2
open PySem PySem.Spec PyProof.Rows
def FA:∀{a:List ci} {b:List Int},kS a b->Vals (b.map V.int) a:=by
 intro _ _ z
 induction z with
 |nil=>exact .nil
 |cons n t h c=>exact .cons #[t,rfl] c
noncomputable def vL(s:ic):Arguments:=match s with
 | .FunctionDef _ a _ _ _ _ _ _ _ _=>a
 |_=>{ posonlyargs:=[],args:=[],vararg:=none,kwonlyargs:=[],kw_defaults:=[],kwarg:=none,defaults:=[]}
noncomputable def vq(s:ic):List ic:=match s with
 | .FunctionDef _ _ b _ _ _ _ _ _ _=>b
 |_=>[]
noncomputable def uK(s:ic):lV:=match s with
 | .FunctionDef _ _ _ _ _ _ sc _ _ _=>sc
 |_=>{ kind:=.function,names:=[],isGenerator:=false,isCoroutine:=false}
abbrev OY:OB:=λ_ _ _ _ _ _=>False
abbrev E0:XK:=λ_ _ _=>False
structure yE(K:gG)(x qual:Str)(st:ic)(f:gH)(fd:iB):Prop where
 ex:∃(oc:ci)(od:Option gH)(kV doc pm:ci)(an:Option gH)(RV ct:ci) (Nd:Array (Option ci)),
  fd=jv x qual (vL st) (vq st) (uK st) .none kV doc pm an RV ct/\K.lookup f=some #[oc,od,.func fd,Nd]/\jk K RV qual=true
 kp:ja K (.ref f)=true
section
variable{P:im}{w:iL}{K:gG}{mg:Str->Option ci}{base:iG}
def yE.ok{g:ic}{k:Nat}(F:yE K x c g f o)(S:uT N m (uK g))(i:∀d H Q E,n d H Q E->d.length=m.length)
 (e:∀(b:ci)(A:jq)(a:List Env)(s:gO)(H:Hp)(d:List V)(Q:VK)(E:XK),v4 k (A.deeper (oz c (uK g) ⇑s f b))->n d H Q E ->
 ∃t,EU (vH OY P w K mg base N c (uK g) f b A a s H E).ZJ (vq g) t/\t { nx:=λ_ p=>Q .wm p,rt:=Q} (start N d) H):vt P w K mg base OY (k+1) f o m n:=by
  obtain⟨y,z,B,r,C,D,b,G,u,rfl,lk,j⟩:=F.ex
  refine Ie lk j S i λA a s H d Q E v l=>?_
  refine e1a2 (e b A a s H d Q E v l) λt h q=>?_
  exact#[t,h.ZJ,q]
def yE.binds{d:ic}{ps:List Str}(F:yE K x c d f l)
 (h:∀(e a g:ci)(i:Option gH)(b j:ci)(k:List ci),k.length=ps.length->sK (jv x c (vL d) (vq d) (uK d) .none e a g i b j) #[k,[]]=pure (ps.zip k)):Binds K l ps []:=by
  obtain⟨o,p,e,a,g,i,b,j,m,rfl,lk,n⟩:=F.ex
  exact .all<|h e a g i b j
def DQ{st:ic}{e:ci}(l:K.lookup f=some #[j,m,.func<|jv x a (vL st) (vq st) (uK st) .none e d pm h b i,g])
 (c:jk K b a=true)(k:ja K (.ref f)=true):yE K x a st f (jv x a (vL st) (vq st) (uK st) .none e d pm h b i):=#[#[j,m,e,d,pm,h,b,i,g,rfl,l,c],k]
end
def Nf{n:Nat}(h:n<=1000):n<gL:=nK h q0q
def pv(i:Nat)(b:X.N[i]?=↑x:=by rfl)(c:Vis X.env.scope x:=by first|exact ko rfl|exact uB (ko rfl)|exact uB<|uB rfl)(d:(x==55)=false:=by decide)
 (a:(x==("__classdict__":Str))=false:=by decide):PE X 88 (vr i):=Jv b c d a
def Ng:yu X (.builtin "len") (λc H Q=>∃a b,c=[V.ref a]/\H a=↑(.dK b)/\Q (.int b.length) H):=by intro d s i H c j Q I r h;obtain⟨a,b,rfl,e,q⟩:=h;obtain⟨u,rfl,f⟩:=vals1 r;cases f;exact Yt I (.inl e) λt k g=>#[.int b.length,H,g,#[t,rfl],q]
def a0J{A B:Prop}(h:A):if true=true then A else B:=by rw[gI rfl];exact h
def Sz{c A B:Prop}[Decidable c](a:c->A)(b:¬c->B):if c then A else B:=by
 by_cases h:c
 ·rw[gI h];exact a h
 ·rw[cr h];exact b h
def C6(H a:Hp):Prop:=∀b o,H b=↑o->a b=↑o
def C6.trans{d e:Hp}(a:C6 H d)(b:C6 d e):C6 H e:=λc o h=>b c o<|a c o h
def C6.free(e:C6 H a)(h:a l=Option.none):H l=Option.none:=by
 cases q:H l with
 |none=>rfl
 |some o =>
  rw[e l o q]at h;cases h
def C6.seq{K:gG}(e:C6 H b)(h:vX K H a c):vX K b a c:=by
 rcases h with(h|⟨o,h⟩)|h
 ·exact .inl<|.inl<|e _ _ h
 ·exact .inl<|.inr #[o,e _ _ h]
 ·exact .inr h
end L2
namespace SX
open PySem
def zA(a:Array Nat):Prop:=a.toList.Pairwise (· < ·)
def Dh(r:zA c){i j a b:Nat}(d:c.toList[i]?=↑a)(e:c.toList[j]?=↑b)(h:i<j):a<b:=by obtain⟨f,g⟩:=List.getElem?_eq_some_iff.mp d;obtain⟨k,l⟩:=List.getElem?_eq_some_iff.mp e;have:=List.pairwise_iff_getElem.mp r i j f k h;rw[g,l]at this;exact this
def SA(f:Array Nat)(j:Nat)(r:zA f):∀(b d c:Nat),d<=c->c<=f.size->c-d<=b ->
  (∀i a,i<d->f.toList[i]?=↑a->a<j)->(∀i a,c<=i->f.toList[i]?=↑a->j<=a) ->
  mK f j b d c<=f.size/\(∀i a,i<mK f j b d c->f.toList[i]?=↑a->a<j) /\
   (∀i a,mK f j b d c<=i->f.toList[i]?=↑a->j<=a):=by
 intro b
 induction b with
 |zero =>
  intro d c t k u l m;have e:d=c:=by omega
  subst e;exact#[k,l,m]
 |succ b s =>
  intro d c t k u l m;unfold mK;by_cases h:d<c
  ·rw[gI h];have n:(d+c) / 2<f.size:=by omega
   have g:f.toList[(d+c) / 2]?=↑(f.getD ((d+c) / 2) j):=by rw[iC,kZ];rw[jj n];rfl
   by_cases o:f.getD ((d+c) / 2) j<j
   ·rw[gI o];refine s _ _ q0d k q0d (λi a p e=>?_) m;by_cases q:i=(d+c) / 2
    ·subst q;rw[g]at e;cases e;exact o
    ·have:=Dh r e g q0d;omega
   ·rw[cr o];refine s _ _ q0d q0d q0d l<|λi a p e=>?_;by_cases q:i=(d+c) / 2
    ·subst q;rw[g]at e;cases e;omega
    ·have:=Dh r g e q0d;omega
  ·rw[cr h];have e:d=c:=by omega
   subst e;exact#[k,l,m]
def zb(r:zA b)(j:Nat):hI b j<=b.size/\(∀i a,i<hI b j->b.toList[i]?=↑a->a<j) /\
  (∀i a,hI b j<=i->b.toList[i]?=↑a->j<=a):=by
 refine SA b j r b.size 0 b.size (iX _) (gK _) q0a (λi a h=>by lia)<|λi a h e=>?_;have:=(List.getElem?_eq_some_iff.mp e).1;rw[gR]at this
 lia
def below_at(r:zA b){i j:Nat}(h:b.toList[i]?=↑j):hI b j=i:=by
 obtain⟨f,c,d⟩:=zb r j;rcases qr (hI b j) i with q|q|q
 ·cases e:b.toList[hI b j]? with
  |none =>
   have:=List.getElem?_eq_none_iff.mp e;have:=(List.getElem?_eq_some_iff.mp h).1
   lia
  |some a =>
   have:=Dh r e h q;have:=d _ a (gK _) e
   lia
 ·exact q
 ·have:=c i j q h
  lia
def JT(r:zA b){i j:Nat}(h:b.toList[i]?=↑j):hI b (j+1)=i+1:=by
 obtain⟨f,c,d⟩:=zb r<|j+1;rcases qr (hI b<|j+1) (i+1) with q|q|q
 ·have:=d i j q0a h
  lia
 ·exact q
 ·cases e:b.toList[i+1]? with
  |none =>
   have:=List.getElem?_eq_none_iff.mp e;rw[gR]at this
   lia
  |some a =>
   have:=Dh r h e q0a;have:=c (i+1) a q e
   lia
def JU(r:zA b):hI b 0=0:=by
 obtain⟨f,d,g⟩:=zb r 0
 cases e:hI b 0 with
 |zero=>rfl
 |succ k =>
  cases c:b.toList[0]? with
  |none =>
   have:=List.getElem?_eq_none_iff.mp c;rw[gR]at this
   lia
  |some a =>
   have:=d 0 a q0a c
   lia
def toList_erase(a:Array b)(p:Nat):(iU a p).toList=a.toList.take p++a.toList.drop (p+1):=by unfold iU;rw[pF,mM,mM];simp[jc]
def DR(a:Array b)(p:Nat)(x:b):(i9 a p x).toList=a.toList.take p++x::a.toList.drop p:=by unfold i9;rw[pF,pX,mM,mM];simp[jc]
def JV(r:zA a)(p:Nat):zA (iU a p):=by
 unfold zA;rw[toList_erase];refine qA ?_ r
 conv=>rhs;rw[<- sP p a.toList]
 exact List.Sublist.append (List.Sublist.refl _)<|List.drop_sublist_drop_left _<|lG p
def OZ(r:zA c){j:Nat}(f:j∉c.toList):zA (i9 c (hI c j) j):=by
 obtain⟨t,g,h⟩:=zb r j;unfold zA;rw[DR];have k:(c.toList.take (hI c j)++c.toList.drop (hI c j)).Pairwise (· < ·):=by rw[sP];exact r
 obtain⟨l,m,n⟩:=List.pairwise_append.mp k
 have o:∀a∈c.toList.take (hI c j),a<j:=λa d=>by
  obtain⟨i,e⟩:=lx d;rw[tW]at e;split at e
  ·exact g i a (by assumption) e
  ·cases e
 have p:∀a∈c.toList.drop (hI c j),j<a:=λa d=>by
  obtain⟨i,e⟩:=lx d;rw[tX]at e;have:=h _ a (oB _ i) e;have:j≠a:=λq=>f (by rw[q];exact List.mem_of_mem_drop d)
  lia
 refine List.pairwise_append.mpr #[l,List.pairwise_cons.mpr #[p,m],λa d b s=>?_];rcases List.mem_cons.mp s with q|q
 ·rw[q];exact o a d
 ·exact n a d b q
def Nh{t:jA}(r:zA t.place){j:Nat}(h:∀i,t.slot j≠.live i):j∉t.place.toList:=λa=>by obtain⟨i,e⟩:=lx a;have b:=below_at r e;refine h (hI t.place j) ?_;unfold qR;rw[gI];rw[b,<- iC,e];simp
def JW{t:jA}{h:Int}:∀(b:Nat)(p:k8),(∀d,p.dummy=↑d->∀i,t.slot d≠.live i) ->
  ∀j c,jB t o h b p=↑(.empty j c)->∀i,t.slot (c.getD j)≠.live i:=by
 intro b
 induction b with
 |zero=>intro p _ j c e;cases e
 |succ b f =>
  intro p g j c e;unfold jB at e
  cases q:t.slot p.j with
  |empty =>
   rw[q]at e;injection e with e;injection e with l m;subst l m
   cases n:p.dummy with
   |none=>intro i z;rw[qf,q]at z;cases z
   |some d=>exact g d n
  |dummy =>
   rw[q]at e;refine f _ (λd a i z=>?_) j c e
   have:d=p.j:=by
    unfold lu at a;split at a
    ·injection a with a;exact a.symm
    ·injection a with a;exact a.symm
   rw[this,q]at z;cases z
  |live k =>
   rw[q]at e;dsimp only at e;split at e
   ·cases e
   ·refine f _ (λd a=>?_) j c e
    have:p.dummy=↑d:=by unfold lu at a;split at a<;>exact a
    exact g d this
set_option tactic.hygienic true in
def Il{t:jA}{h:Int}{j:Nat}{b:Bool}(r:zA t.place)(e:t.freeSlot h=↑(j,b)):j∉t.place.toList:=by
 refine Nh r ?_;unfold pK qC at e;split at e
 ·rename_i a c f
  injection e with e;injection e with g i;subst g;exact JW _ _ (λd q=>by cases q) a c f
 ·cases e
def Cd{c k l:Nat}{d i:Bool}(e:nw c k l d i m=↑(t,n)) :
  zA t.place/\t.led=d/\t.plain=i/\t.mask=c/\t.dummies=#v[]/\t.place.size=n.size:=by
 unfold nw at e
 cases q:pL c m with
 |none=>rw[q]at e;cases e
 |some j =>
  rw[q]at e;injection e with e;injection e with o p;subst o p;refine#[?_,rfl,rfl,rfl,rfl,q0o];unfold zA;rw[tY];rw[List.pairwise_filterMap];refine oQ ?_ sC;intro a b f x r y s
  have g:x=a:=by revert r;cases (j.getD a none)<;>simp;intro z;exact z.symm
  have h:y=b:=by revert s;cases (j.getD b none)<;>simp;intro z;exact z.symm
  subst g h;exact f
noncomputable def Oe(m i:Nat):Nat:=(i*5+1)%(m+1)
noncomputable def O0(m:Nat):Nat->Nat->Nat
 | 0,i=>i
 |n+1,i=>O0 m n<|Oe m i
noncomputable def orb(m:Nat):Nat->Nat->List Nat
 | 0,_=>[]
 |n+1,i=>i::orb m n (Oe m i)
def Ge(m a b i:Nat):O0 m (a+b) i=O0 m b (O0 m a i):=by
 induction a generalizing i with
 |zero=>rw[sQ];rfl
 |succ a c=>rw[Nat.succ_add];exact c _
def SE(m:Nat):∀(n i k:Nat),k∈orb m n i->∃a,a<n/\O0 m a i=k:=by
 intro n
 induction n with
 |zero=>intro i k h;cases h
 |succ n b =>
  intro i k h;rcases List.mem_cons.mp h with q|q
  ·exact#[0,q0a,q.symm]
  ·obtain⟨a,c,e⟩:=b _ _ q;exact#[a+1,q0a,e]
noncomputable def Gg(m:Nat):Bool:=O0 m (m+1) 0==0&&(hW<|m+1).all λk=>(orb m (m+1) 0).contains k
def FC{m:Nat}(h:Gg m=true):∀i k,i<=m->k<=m->∃n,n<=m/\O0 m n i=k:=by
 obtain⟨d,j⟩:=Bool.and_eq_true_iff.mp h;have d:O0 m (m+1) 0=0:=by simpa using d
 have c:∀k,k<=m->∃a,a<m+1/\O0 m a 0=k:=λk e=>by have:=List.all_eq_true.mp j k<|List.mem_range.mpr q0d;exact SE m _ _ _ (by simpa using this)
 intro i k l e;obtain⟨a,p,f⟩:=c i l;obtain⟨b,q,g⟩:=c k e;by_cases o:a<=b
 ·refine#[b-a,q0d,?_];rw[<- f,<- Ge,show a+(b-a)=b by omega,g]
 ·refine#[m+1-a+b,q0d,?_];rw[<- f,<- Ge,show a+(m+1-a+b)=(m+1)+b by omega,Ge,d,g]
def FD{m i:Nat}(h:i<=m):i8 m i<=m/\i<=i8 m i:=by unfold i8;split<;>lia
set_option tactic.hygienic true in
def SF{m:Nat}:∀(a i p:Nat),i<=m->∀j,i4 m c a i p=↑j->j<=m/\c.getD j ↑0=none:=by
 intro a
 induction a with
 |zero=>intro i p _ j e;cases e
 |succ a d =>
  intro i p f j e;unfold i4 at e;split at e
  ·rename_i k b
   injection e with e;subst e;have g:=List.find?_some b;have h:=List.mem_range.mp<|List.mem_of_find?_eq_some b;have:=FD f;refine#[q0d,?_];simpa[Option.isNone_iff_eq_none] using g
  ·dsimp only at e;refine d _ _ ?_ j e;have:=nL (i*5+1+p / 32)<|ng m;exact jU this
set_option tactic.hygienic true in
def JX{m:Nat}{b:Array (Option Nat)}{k:Nat}(d:b.getD k ↑0=none):∀(n a i:Nat),i<=m->n<a->O0 m n i=k->∃j,i4 m b a i 0=↑j:=by
 intro n
 induction n with
 |zero =>
  intro a i c g e;obtain⟨a,rfl⟩:∃f,a=f+1:=#[a-1,q0a];have e:i=k:=e;subst e;unfold i4;split
  ·exact#[_,rfl]
  ·rename_i q
   have:=List.find?_eq_none.mp q 0<|List.mem_range.mpr (by have:=(FD c).2;lia);rw[Nat.add_zero,d]at this;exact g8 rfl this
 |succ n h =>
  intro a i c g e;obtain⟨a,rfl⟩:∃f,a=f+1:=#[a-1,q0a];unfold i4;split
  ·exact#[_,rfl]
  ·dsimp only
   have l:jX m i 0=(Oe m i,0):=by unfold jX Oe;simp
   rw[l];exact h a (Oe m i) (jU<|nL _<|ng m) q0a e
def Ni{m:Nat}{h:Array (Option Nat)}(l:Gg m=true){k:Nat}(d:k<=m)(o:h.getD k ↑0=none):∀(c a i p:Nat),i<=m->p<32 ^ c->c+m+1<=a->∃j,i4 m h a i p=↑j:=by
 intro c
 induction c with
 |zero =>
  intro a i p g b q;have:p=0:=by rw[Nat.pow_zero]at b;lia
  subst this;obtain⟨n,s,e⟩:=FC l i k g d;exact JX o n a i g q0a e
 |succ c r =>
  intro a i p g b q;obtain⟨a,rfl⟩:∃f,a=f+1:=#[a-1,q0a];unfold i4;split
  ·exact#[_,rfl]
  ·dsimp only;refine r a _ (p / 32) (jU<|nL _<|ng m) ?_ q0a;rw[Nat.pow_succ]at b;exact tP (by rw[Nat.mul_comm];exact b)
def O3(x:Nat):∀(l:List (Option Nat)) (j:Nat),l[j]?=↑none->((l.set j<|↑x).filterMap id).Perm (x::l.filterMap id):=by
 intro l
 induction l with
 |nil=>intro j h;simp at h
 |cons a l b =>
  intro j h
  cases j with
  |zero =>
   have:a=none:=by simpa using h
   subst this;simp
  |succ j =>
   have c:l[j]?=↑none:=by simpa using h
   cases a with
   |none=>simpa using b j c
   |some y =>
    have:=b j c;exact(oC y this).trans<|List.Perm.swap x y _
def has_none:∀(l:List (Option Nat)),(l.filterMap id).length<l.length->∃j:Nat,l[j]?=↑none:=by
 intro l
 induction l with
 |nil=>intro h;simp at h
 |cons a l b =>
  intro h
  cases a with
  |none=>exact#[0,rfl]
  |some y =>
   obtain⟨j,e⟩:=b (by simpa using h);exact#[j+1,by simpa using e]
def LU(h:Int):jd h<32 ^ 13:=by
 have a:(h%(2 ^ 64:Int)).toNat<2 ^ 64:=by lia
 exact hR a q0q
def O5{m:Nat}(w:Gg m=true):∀(c:List Int) (a:Array (Option Nat)) (k:Nat),a.size=m+1->(a.toList.filterMap id).Perm (hW k)->k+c.length<=m ->
  ∃b,(c.foldl (init:=↑(a,k)) λi h=>do
   let (owner,k) <- i
   let j <- i4 m owner (kB m) (jd h%(m+1)) (jd h)
   pure (owner.setIfInBounds j ↑k,k+1))=↑(b,k+c.length)/\b.size=m+1/\(b.toList.filterMap id).Perm (hW (k+c.length)):=by
 intro c
 induction c with
 |nil=>intro a k d g r;exact#[a,rfl,d,g]
 |cons h c x =>
  intro a k d g r
  have e:(a.toList.filterMap id).length<a.toList.length:=by
   rw[g.length_eq,lm,gR,d]
   lia
  obtain⟨s,t⟩:=has_none _ e
  have l:s<m+1:=by have:=(List.getElem?_eq_some_iff.mp t).1;rw[gR,d]at this;exact this
  have n:a.getD s ↑0=none:=by rw[kZ,<- iC,t];rfl
  have u:jd h%(m+1)<=m:=jU<|nL _<|ng m;obtain⟨j,v⟩:=Ni w (jU l) n 13 (kB m) (jd h%(m+1)) (jd h) u (LU h) (by unfold kB;lia);obtain⟨y,f⟩:=SF _ _ _ u j v
  have o:a.toList[j]?=↑none:=by
   rw[kZ]at f;rw[iC]
   cases q:a[j]? with
   |none=>rw[q]at f;cases f
   |some z=>rw[q]at f;have p:z=none:=f;rw[p]
  obtain⟨b,A,B,C⟩:=x (a.setIfInBounds j ↑k) (k+1) (by rw[Array.size_setIfInBounds];exact d) (by
   rw[Array.toList_setIfInBounds];refine(O3 k _ _ o).trans<|(oC k g).trans ?_;rw[List.range_succ]
   exact(mE (l₁:=[k]) (l₂:=hW k))) (by simp at r;lia)
  refine#[b,?_,B,?_]
  ·rw[List.foldl_cons]
   have:(do
     let (owner,k) <- some (a,k)
     let j <- i4 m owner (kB m) (jd h%(m+1)) (jd h)
     pure (owner.setIfInBounds j ↑k,k+1))=↑(a.setIfInBounds j (some k),k+1):=by
    show (i4 m a (kB m) (jd h%(m+1))<|jd h).bind _=_;rw[v];rfl
   rw[this,A];simp only[hX];congr 2
   lia
  ·rw[hX,show k+(c.length+1)=k+1+c.length by lia];exact C
def Nj(l:List (Option Nat)):(hW l.length).map (λj=>l.getD j none)=l:=by
 apply qh;intro i;by_cases h:i<l.length
 ·simp[jh,h]
 ·rw[List.getElem?_eq_none_iff.mpr (by simpa using qJ h),List.getElem?_eq_none_iff.mpr<|qJ h]
def Ce{m fg mv:Nat}{led pl:Bool}{hs:Array Int}(c:Gg m=true)(d:hs.size<=m):∃t b,nw m fg mv led pl hs=↑(t,b)/\b.toList.Perm (hW hs.size):=by
 obtain⟨a,e,s,p⟩:=O5 c hs.toList (Array.replicate (m+1) none) 0 q0o q0o (by simpa using d)
 have f:pL m hs=↑a:=by unfold pL;rw[<- Array.foldl_toList];exact congrArg (tE Prod.fst) e
 refine#[_,_,by unfold nw;rw[f];rfl,?_];rw[tY]
 have q:(hW<|m+1).filterMap (λj=>tE (λx:Nat×Nat=>x.2)<|tE (λx=>(j,x))<|a.getD j none)=a.toList.filterMap id:=by
  conv=>rhs;rw[<- Nj a.toList]
  rw[tV,gR,s];congr 1
  funext j
  simp only[uu,id,Option.map_map];rw[kZ,jh,iC];cases (a[j]?.getD none)<;>rfl
 refine List.Perm.trans (tF q) ?_;simpa using p
def picked{es:Array (Int×ci)}{a:Array Nat}(h:a.toList.Perm (hW es.size)):(a.filterMap (es[·]?)).toList.Perm es.toList:=by
 rw[Array.toList_filterMap];refine(List.Perm.filterMap _ h).trans<|tF ?_;apply qh;intro i
 have:(hW es.size).filterMap (λx=>es[x]?)=es.toList:=by
  have e:(hW es.size).filterMap (λx=>es[x]?)=(hW es.toList.length).filterMap (λx=>es.toList[x]?):=by simp
  rw[e];exact List.filterMap_getElem?_range_length es.toList
 rw[this]
def a0L:Gg 7=true:=by decide +kernel
def Yy:Gg 15=true:=by decide +kernel
def Yz:Gg 31=true:=by decide +kernel
def YA:Gg 63=true:=by decide +kernel
def Wn:Gg 127=true:=by decide +kernel
def Wp:Gg 255=true:=by decide +kernel
def Wq:Gg 511=true:=by decide +kernel
def RX(t:jA)(h:Int)(a:Nat)(p:k8):Prop:=∃j d,jB t (λ_=>h+1) h a p=↑(.empty j d)
noncomputable def begin_(m i a:Nat)(b:Option Nat):k8:={ j:=i,more:=i8 m i-i,i:=i,perturb:=a,dummy:=b}
def LV{h:Int}:∀(k a:Nat)(p:k8),p.more=k->(∀b,RX t h a<|begin_ t.mask (jX t.mask p.i p.perturb).1 (jX t.mask p.i p.perturb).2 b)->RX t h (a+k+1) p:=by
 intro k
 induction k with
 |zero =>
  intro a p g d
  have c:∀b,t.advance { p with dummy:=b}=begin_ t.mask (jX t.mask p.i p.perturb).1 (jX t.mask p.i p.perturb).2 b:=λb=>by unfold lu;rw[cr<|by show ¬p.more>0;lia];rfl
  unfold RX jB
  cases q:t.slot p.j with
  |empty=>exact#[_,_,rfl]
  |dummy=>dsimp only;rw[c];exact d _
  |live i =>
   dsimp only;rw[cr<|by simp;lia];have:=c p.dummy;have e:({ p with dummy:=p.dummy}:k8)=p:=rfl;rw[e]at this;rw[this];exact d _
 |succ k l =>
  intro a p g d
  have f:∀b,RX t h (a+k+1) (t.advance { p with dummy:=b}):=λb=>by
   have e:t.advance { p with dummy:=b}={ p with j:=p.j+1,more:=p.more-1,dummy:=b}:=by unfold lu;rw[gI<|by show p.more>0;lia]
   rw[e];exact l a _ (by show p.more-1=k;lia) d
  unfold RX jB
  cases q:t.slot p.j with
  |empty=>exact#[_,_,rfl]
  |dummy=>exact f _
  |live i =>
   dsimp only;rw[cr<|by simp;lia];exact f p.dummy
def SG{t:jA}{h:Int}{p:k8}(e:t.slot p.j=.empty)(a:Nat):RX t h (a+1) p:=by unfold RX jB;rw[e];exact#[_,_,rfl]
def LW(m i:Nat):i8 m i-i<=9:=by unfold i8;split<;>lia
def a0M{t:jA}{h:Int}{k:Nat}(d:t.slot k=.empty):∀(n i a:Nat),O0 t.mask n i=k->10*(n+1)<=a->∀c,RX t h a (begin_ t.mask i 0 c):=by
 intro n
 induction n with
 |zero =>
  intro i a e g c;obtain⟨f,rfl⟩:∃f,a=f+1:=#[a-1,q0a];subst e;exact SG d f
 |succ n j =>
  intro i a e g c;have m:=LW t.mask i
  have z:=LV (t:=t) (h:=h) (i8 t.mask i-i) (a-(i8 t.mask i-i)-1) (begin_ t.mask i 0 c) rfl (λb=>by
   have l:jX t.mask i 0=(Oe t.mask i,0):=by unfold jX Oe;simp
   show RX t h _ (begin_ t.mask (jX t.mask i 0).1 (jX t.mask i 0).2 b);rw[l]
   exact j (Oe t.mask i) _ e q0a b)
  rw[show a-(i8 t.mask i-i)-1+(i8 t.mask i-i)+1=a by lia]at z;exact z
def a0N{t:jA}{h:Int}{k:Nat}(m:Gg t.mask=true)(g:k<=t.mask)(o:t.slot k=.empty):∀(c i b a:Nat),i<=t.mask->b<32 ^ c->10*(c+t.mask+1)<=a->∀d,RX t h a (begin_ t.mask i b d):=by
 intro c
 induction c with
 |zero =>
  intro i b a l f p d;have:b=0:=by rw[Nat.pow_zero]at f;lia
  subst this;obtain⟨n,r,e⟩:=FC m i k l g;exact a0M o n i a e q0a d
 |succ c q =>
  intro i b a l f p d;have s:=LW t.mask i
  have z:=LV (t:=t) (h:=h) (i8 t.mask i-i) (a-(i8 t.mask i-i)-1) (begin_ t.mask i b d) rfl (λj=>by
   refine q _ _ _ (jU<|nL _<|ng _) ?_ q0a j;rw[Nat.pow_succ]at f
   exact tP (by rw[Nat.mul_comm];exact f))
  rw[show a-(i8 t.mask i-i)-1+(i8 t.mask i-i)+1=a by lia]at z;exact z
def yM[DecidableEq d]:∀(l m:List d),l.Nodup->(∀x∈l,x∈m)->l.length<=m.length:=by
 intro l
 induction l with
 |nil=>intro m _ _;exact iX _
 |cons x r e =>
  intro m f b;obtain⟨g,h⟩:=List.nodup_cons.mp f;have a:=b x gM;have i:=e (m.erase x) h λy c=>(List.mem_erase_of_ne<|λ(z:y=x)=>g<|by rw[<- z];exact c).mpr<|b y<|gQ _ c;rw[List.length_erase_of_mem a]at i;have:0<m.length:=List.length_pos_of_mem a;rw[hX];omega
def Im(l:List Nat)(m:Nat)(h:l.length<=m):∃j,j<=m/\j∉l:=by
 refine qD λb=>?_;have a:∀j,j<=m->j∈l:=λj c=>qD λq=>b #[j,c,q];have:=yM (hW<|m+1) l List.nodup_range λx d=>a x<|jU<|List.mem_range.mp d;rw[lm]at this
 lia
def JY{t:jA}{n:Nat}(e:t.fits n=true):∃j,j<=t.mask/\t.slot j=.empty:=by
 have c:t.place.size+t.dummies.size<=t.mask:=by simp only[uv,iw,iF]at e;exact e.2
 obtain⟨j,f,d⟩:=Im (t.place.toList++t.dummies.toList) t.mask (by simpa using c);refine#[j,f,?_];rw[l6,pY]at d
 have b:∀(a:Array Nat),j∉a.toList->(a[hI a j]?==↑j)=false:=λa g=>by
  cases q:a[hI a j]? with
  |none=>rfl
  |some x =>
   have h:x∈a.toList:=by rw[<- iC]at q;exact jD q
   have:x≠j:=λz=>g<|z▸h;simp[this]
 unfold qR;dsimp only;rw[b _ d.1];unfold kq;rw[b _ d.2];rfl
def E5{t:jA}{n:Nat}(c:Gg t.mask=true)(f:t.fits n=true)(h:Int):∃j b,t.freeSlot h=↑(j,b):=by obtain⟨k,a,g⟩:=JY f;obtain⟨j,d,e⟩:=a0N (h:=h) c a g 13 (jd h%(t.mask+1)) (jd h) (10*kB t.mask) (jU<|nL _<|ng _) (LU h) (by unfold kB;lia) none;refine⟨d.getD j,d.isSome,?_⟩;unfold pK qC SetTable.probeStart;have l:jB t (λ_=>h+1) h (10*kB t.mask) { j:=jd h%(t.mask+1),more:=i8 t.mask (jd h%(t.mask+1))-jd h%(t.mask+1),i:=jd h%(t.mask+1),perturb:=jd h,dummy:=none}=↑(.empty j d):=e;rw[l]
def Io{t:jA}{h:Int}:∀(b:Nat)(p:k8),(∀d,p.dummy=↑d->kq t.dummies d=true) ->
  ∀j d,jB t l h b p=↑(.empty j<|some d)->kq t.dummies d=true:=by
 intro b
 induction b with
 |zero=>intro p _ j d e;cases e
 |succ b f =>
  intro p g j d e;unfold jB at e
  cases q:t.slot p.j with
  |empty =>
   rw[q]at e;injection e with e;injection e with m i;exact g d i
  |dummy =>
   rw[q]at e;refine f _ (λc a=>?_) j d e
   have:c=p.j:=by
    unfold lu at a;split at a
    ·injection a with a;exact a.symm
    ·injection a with a;exact a.symm
   rw[this];unfold qR at q;dsimp only at q;split at q
   ·cases q
   ·split at q
    ·assumption
    ·cases q
  |live k =>
   rw[q]at e;dsimp only at e;split at e
   ·cases e
   ·refine f _ (λc a=>?_) j d e
    have:p.dummy=↑c:=by unfold lu at a;split at a<;>exact a
    exact g c this
set_option tactic.hygienic true in
def DS{t:jA}{h:Int}{j:Nat}(e:t.freeSlot h=↑(j,true)):kq t.dummies j=true:=by
 unfold pK qC at e;split at e
 ·rename_i a b c
  injection e with e;injection e with f g
  cases b with
  |none=>cases g
  |some d =>
   subst f;exact Io _ _ (λd q=>by cases q) a d c
 ·cases e
def O6{j:Nat}(h:kq a j=true):hI a j<a.size:=by
 unfold kq at h;have b:a[hI a j]?=↑j:=by simpa using h
 exact(Array.getElem?_eq_some_iff.mp b).1
def A5(a:Array b)(p:Nat)(h:p<a.size):(iU a p).size=a.size-1:=by
 rw[<- gR,toList_erase,gY,lJ,kM,gR]
 lia
def yN(a:Array b)(p:Nat)(x:b):(i9 a p x).size=a.size+1:=by rw[<- gR,DR,gY,hX,lJ,kM,gR];omega
def xE{t:jA}{n:Nat}:t.fits n=true↔t.place.size=n/\t.place.size+t.dummies.size<=t.mask:=by unfold uv kQ;simp
def Good(m:Nat):Prop:=m=7\/m=15\/m=31\/m=63\/m=127\/m=255\/m=511
def Good.Gg{m:Nat}(h:Good m):Gg m=true:=by
 rcases h with q|q|q|q|q|q|q<;>rw[q]
 ·exact a0L
 ·exact Yy
 ·exact Yz
 ·exact YA
 ·exact Wn
 ·exact Wp
 ·exact Wq
def DT{n:Nat}(h:n<=511):Good (iI n-1)/\n<iI n:=by
 have q:((hW 512).all λn=>[8,16,32,64,128,256,512].contains (iI n)&&decide (n<iI n))=true:=by decide +kernel
 have q:=List.all_eq_true.mp q n<|List.mem_range.mpr q0a;obtain⟨q1,q2⟩:=Bool.and_eq_true_iff.mp q;refine#[?_,by simpa using q2];have q1:iI n=8\/iI n=16\/iI n=32\/iI n=64\/iI n=128\/iI n=256\/iI n=512:=by simpa using q1
 rcases q1 with e|e|e|e|e|e|e<;>rw[e]<;>unfold Good<;>decide
structure YB(t:jA)(n:Nat):Prop where
 fits:t.fits n=true
 rise:zA t.place
 plain:t.plain=true
 good:Good t.mask
 room:t.fill*5<t.mask*3
set_option tactic.hygienic true in
def SH{t:jA}{c:Array (Int×ci)}{h:Int}{x:ci}(k:YB t c.size)(q:c.size<=126) :
  ∃d g,layNew t c h x=(i9 c (hI t.place ((t.freeSlot h).getD (0,false)).1) (h,x),d,g,false)/\d.led=t.led/\d.plain=true/\d.fits (c.size+1)=true/\zA d.place/\Good d.mask/\(g=true->d.fill*5<d.mask*3):=by
 obtain⟨j,b,e⟩:=E5 k.good.Gg k.fits h;obtain⟨n,r⟩:=xE.mp k.fits;have f:=k.room;unfold kQ at f
 have l:(83).size<=t.dummies.size/\(b=true->(83).size+1<=t.dummies.size):=by
  split
  ·rename_i i
   rw[A5 _ _<|O6 i];have:=O6 i;exact⟨q0a,λ_=>by lia⟩
  ·rename_i i
   refine#[gK _,λm=>?_];subst m;exact g8 (DS e) i
 have a:(t.put j).1.fits (c.size+1)=true:=by
  refine xE.mpr #[?_,?_]
  ·show (i9 t.place (hI t.place j) j).size=_;rw[yN,n]
  ·show (i9 t.place (hI t.place j) j).size+(83).size<=t.mask;rw[yN]
   lia
 refine#[(t.put j).1,b,?_,rfl,k.plain,a,OZ k.rise<|Il k.rise e,k.good,λm=>?_]
 ·unfold layNew;rw[e];dsimp only;have o:(t.put j).2=hI t.place j:=rfl;have p:(i9 c (hI t.place j) (h,x)).size=c.size+1:=yN _ _ _;rw[o,p];unfold SetTable.orStandIn;rw[gI a,a];rfl
 ·have:=l.2 m;show ((i9 t.place (hI t.place j) j).size+(83).size)*5<t.mask*3;rw[yN]
  lia
def Nk{t:jA}{es:Array (Int×ci)}(v:1<=es.size)(h:es.size<=127)(m:t.plain=true):∃a c,sR t es (l9 es.size)=(a,c,false)/\a.toList.Perm es.toList/\YB c a.size/\c.led=t.led:=by
 have o:l9 es.size=es.size*4:=by unfold l9;rw[cr q0a]
 obtain⟨j,w⟩:=DT (n:=es.size*4) q0a;obtain⟨c,f,e,p⟩:=Ce (fg:=t.finger) (mv:=t.movedTo<|iI (es.size*4)-1) (led:=t.led) (pl:=t.plain) (hs:=es.map (·.1)) j.Gg (by rw[ml];lia);obtain⟨q,r,s,g,k,i⟩:=Cd e;rw[ml]at p;have l:=picked p;have u:(f.filterMap (es[·]?)).size=es.size:=by rw[<- gR,l.length_eq,gR]
 have b:f.size=es.size:=by rw[<- gR,p.length_eq,lm]
 have d:c.fits (f.filterMap (es[·]?)).size=true:=by
  refine xE.mpr #[by rw[i,u,b],?_];rw[i,k,b,g];show es.size+0<=_
  lia
 refine#[f.filterMap (es[·]?),c,?_,l,#[d,q,s.trans m,by rw[g];exact j,?_],r]
 ·unfold sR;rw[o];unfold SetTable.relaid;rw[e];dsimp only;rw[gI];rw[d,Bool.and_true];exact List.isPerm_iff.mpr p
 ·unfold kQ;rw[i,k,b,g];show (es.size+0)*5<_
  lia
open PyProof.Rows
def yw(e:Int×ci)(k:Int):Prop:=e.1=m4 k/\∃t,e.2=lE k t
noncomputable abbrev wY(a:Array (Int×ci))(b:Nat)(t:jA):Obj:={ cls:=.type "set",dict:=none,data:=.set a b t,slots:=#v[]}
structure Vf(w:iL)(es:Array (Int×ci))(t:jA)(ks:List Int):Prop where
 ent:Paired yw es.toList ks
 nd:ks.Nodup
 small:es.size<=127
 tab:YB t es.size
 led:w.params.followText "set-order"=true\/t.led=true
def zc{n:Nat}(h:n<=127):n<scanBound:=by have e:scanBound=4096:=rfl;rw[e];lia
def yp{n:Nat}(h:n<=127):n<=gL:=fits_of_scanBound<|zc h
def vK(w:iL)(a:gH)(c:List Int)(h:iG):Prop:=∃b d t,h.get? a=↑(wY b d t)/\Vf w b t c
def xF{k n:Type}{F:k->n->Prop}{l o:List k}(p:l.Perm o):∀{m:List n},Paired F l m->∃e,m.Perm e/\Paired F o e:=by
 induction p with
 |nil=>intro m h;exact#[m,.refl _,h]
 |cons x _ q =>
  intro m h
  cases h with
  |cons a b =>
   refine e1a2 (q b) λe f g=>?_;exact#[_,.cons _ f,.cons a g]
 |swap x y l =>
  intro m h
  cases h with
  |cons a b =>
   cases b with
   |cons c d=>exact#[_,.swap _ _ _,.cons c<|.cons a d]
 |trans _ _ i j =>
  intro m h;refine e1a2 (i h) λu f g=>?_;refine e1a2 (j g) λr s t=>?_;exact#[r,f.trans s,t]
def Gh:∀{g:List (Int×ci)} {h:List Int},Paired yw g h->∀k,(k∈h↔∃e∈g,mG k e.2=true):=by
 intro o p l
 induction l with
 |nil=>intro k;simp
 | @cons e j _ _ m r b =>
  intro k;have n:=b k;obtain⟨_,t,c⟩:=m
  have i:mG k e.2=true↔k=j:=by rw[c];simp[mG];exact eq_comm
  rw[ii,n];constructor
  ·rintro(z|⟨d,f,a⟩)
   ·exact#[e,gM,i.mpr z]
   ·exact#[d,gQ _ f,a]
  ·rintro⟨d,f,a⟩;rcases List.mem_cons.mp f with z|z
   ·rw[z]at a;exact .inl<|i.mp a
   ·exact .inr #[d,z,a]
def Cf{a:im}{w:iL}:∀{d:List (Int×ci)} {g:List Int},Paired yw d g->ElemsOf (kf a w) d:=by
 intro l m h
 induction h with
 |nil=>exact λe b=>by cases b
 | @cons x j _ _ i r c =>
  intro e b;rcases List.mem_cons.mp b with z|z
  ·subst z;obtain⟨k,t,f⟩:=i;refine#[#[j,?_,k],?_]
   ·rw[f];exact pG _ _ _ _
   ·rw[f];rfl
  ·exact c e z
def LX(h:Paired yw a b):a.length=b.length:=Paired.length h
def Vf.size{w:iL}{a:Array (Int×ci)}{t:jA}{b:List Int}(h:Vf w a t b):a.size=b.length:=by rw[<- gR];exact LX h.ent
def vK.nodup(x:vK w a b h):b.Nodup:=by refine e3a2 x λc d t e k=>?_;exact k.nd
def vK.of{b:im}{w:iL}{a:gH}{c:List Int}{h:iG}(x:vK w a c h):h.SetOf (kf b w) a (λk=>decide<|k∈c) c.length:=by refine e3a2 x λd f t e k=>?_;exact#[_,d,f,t,e,#[rfl,rfl,rfl],rfl,Cf k.ent,λj=>by rw[iF];exact Gh k.ent j,zc k.small,k.tab.fits,k.size]
def vK.keep{b:iG}(x:vK w a c h)(k:∀o,h.get? a=↑o->b.get? a=↑o):vK w a c b:=by refine e3a2 x λd f t e r=>?_;exact#[d,f,t,k _ e,r]
def vK.lt(x:vK w a b h):a<h.objs.size:=by refine e3a2 x λc d t e r=>?_;exact gP e
def vK.typeIs{w:iL}{a:gH}{b:List Int}{s:gO}(x:vK w a b s.heap):s.TypeIs (.ref a) "set":=by refine e3a2 x λc d t e r=>?_;exact#[_,e,rfl]
def SJ{h:iG}{a:gH}{f b:Array (Int×ci)}{d:Nat}{t c:jA}(e:h.get? a=↑(wY f d t)):(h.update a<|Obj.putSet b c).get? a=↑(wY b (d+1) c):=by have z:=iJ (Obj.putSet b c) e (by rw[putSet_of b c rfl];rfl);rw[putSet_of b c rfl]at z;exact z
def Aq{i b:Array (Int×ci)}{d:Nat}{t f:jA}{Q:Unit->gO->Prop}(e:s.heap.get? a=↑(wY i d t))(j:b.size<=gL)
  (h:∀c,iT a s.heap c->c.get? a=↑(wY b (d+1) f)->Q () { s with heap:=c}):gS (gU g w) A (sS a b f) Q E s :=
 wpAny_storeSet_of e rfl (h _ (oq ..)<|SJ e) j
set_option tactic.hygienic true in
def Vg{k:Int}{u:Tok}{Q:Bool->gO->Prop}(S:vK w a i s.heap)(room:i.length+1<=127)
  (h:∀l C,iT a s.heap l->vK w a C l->C.Perm (if k∈i then i else k::i)->Q (!decide (k∈i)) { s with heap:=l}) :
  gS (gU b w) A (setAddHashed a (.int k u)<|m4 k) Q E s:=by
 refine e3a2 S λm ep t e K=>?_;have el:ElemsOf (kf b w) m.toList:=Cf K.ent;have hk:(kf b w).is k (.int k u)=true:=pG _ _ _ _;have D:(kf b w).hash k=m4 k:=rfl;refine iq<|am<|i7 e rfl K.tab.fits ?_;dsimp only;rw[byScan_of (knd:=kf b w) rfl (zc K.small) el,gI rfl];refine am<|am<|lW<|am ?_;rw[<- D];refine wpAny_setScan_of (knd:=kf b w) hk e rfl K.tab.fits el ?_;have F:=Gh K.ent k
 cases hr:rT (λe=>(kf b w).is k e.2) m.toList with
 |some j =>
  refine e1a2 (List.findIdx?_eq_some_iff_getElem.mp hr) λhj hp _=>?_;have G:k∈i:=F.mpr #[_,uC hj,hp];have z:=h s.heap i (lR a s.heap) #[m,ep,t,e,K] (by rw[gI G]);rw[decide_eq_true G]at z;exact ap<|ap z
 |none =>
  have f:k∉i:=λq=>by refine e1a2 (F.mp q) λx hx P=>?_;have:=List.findIdx?_eq_none_iff.mp hr x hx;rw[show (kf b w).is k x.2=true from P]at this;cases this
  have R:m.size<=126:=by rw[K.size];lia
  obtain⟨o,H,le,ll,I,lf,lr,lg,ld⟩:=SH (h:=m4 k) (x:=.int k u) K.tab R;have J:=layNew_perm t m (m4 k)<|.int k u;rw[D];rw[le]at J ⊢;generalize i9 m (hI t.place ((t.freeSlot<|m4 k).getD (0,false)).1) (m4 k,lE k u)=c at J ⊢;rw[pX]at J;have p1:Paired yw ((m4 k,lE k u)::m.toList) (k::i):=.cons ⟨rfl,u,rfl⟩ K.ent;refine e1a2 (xF (J.trans mE).symm p1) λT pk pe=>?_;have U:c.size=m.size+1:=by rw[<- gR,J.length_eq];simp
  rw[<- U]at lf;have p:c.size<=127:=by lia
  have W:T.Nodup:=pk.nodup_iff.mp<|List.nodup_cons.mpr #[f,K.nd];have g:c.size<=gL:=yp p
  -- ab the end wants,for any tZ of X entries
  have L:∀(l:iG) (d:Array (Int×ci)) (v:Nat) (B:jA),iT a s.heap l->l.get? a=↑(wY d v B)->d.toList.Perm c.toList->YB B d.size->B.led=t.led->Q true { s with heap:=l}:=by
   intro l d v B sb Y pp f2 l2;refine e1a2 (xF pp.symm pe) λZ q1 q2=>?_;have hs:d.size=c.size:=by rw[<- gR,pp.length_eq,gR]
   have z:=h l Z sb #[d,v,B,Y,q2,q1.nodup_iff.mp W,by rw[hs];exact p,f2,by rw[l2];exact K.led] (by rw[cr f];exact q1.symm.trans pk.symm);rw[ij f]at z;exact z
  refine am<|ap ?_
  have n:gS (gU b w) A (do
    sS a c o
    if (!H&&o.tooFull)=true then do
      (match (sR o c<|l9 c.size).2.2 with|true=>rule "set.scan.the-table-gave-way" |false=>pure ())
      sS a (sR o c<|l9 c.size).1 (sR o c<|l9 c.size).2.1
      pure ↑true
     else pure ↑true) (λr M=>gS (gU b w) A (match r with|some y=>pure y|none=>setAddHashedIn a (.int k u) (m4 k) 99999) Q E M) E s:=by
   refine am<|Aq e g λh1 N o1=>?_;split
   ·refine e2a4 (Nk (t:=o) (es:=c) q0a p I) λd B re rp rt rl=>?_;rw[re];refine am<|ap<|am<|Aq (s:={ s with heap:=h1}) o1 ?_ λh2 aa Y=>ap<|ap<|L h2 _ _ _ (N.trans aa) Y rp rt<|rl.trans ll;have:d.size=c.size:=by rw[<- gR,rp.length_eq,gR]
    rw[this];exact g
   ·rename_i O
    refine ap<|ap<|L h1 _ _ _ N o1 (.refl _) #[lf,lr,I,lg,?_] ll
    cases H with
    |true=>exact ld rfl
    |false =>
     have:o.tooFull=false:=by simpa using O
     unfold SetTable.tooFull at this;simpa using this
  split
  ·rw[hashByValue_scannable 8 rfl];exact am<|ap n
  ·exact am<|ap n
def Vh{k:Int}(S:vK w a c s.heap)(room:c.length+1<=127)
 (h:∀d b f,iT a s.heap d->vK w a b d->b.Perm (if k∈c then c else k::c)->s.toks<=f->Q (!decide (k∈c)) { s with heap:=d,toks:=f}) :
    gS (gU e w) A (setAdd a<|.int k u) Q E s:=by
  refine iq<|am<|(kf e w).pyHash (k:=k) (pG _ _ _ _) ?_
  exact Vg (s:=91) S room λd b g i p=>h d b _ g i p<|lG _
def O7{a:Array (Int×ci)}{k:Int}:∀{b:List Int},Paired yw a.toList b->b.Nodup->∀{j:Nat},rT (λe=>(kf prog w).is k e.2) a.toList=↑j->b[j]?=↑k:=by
 intro b P _ j f;refine e1a2 (List.findIdx?_eq_some_iff_getElem.mp f) λg h _=>?_
 have:∀{a:List (Int×ci)} {b:List Int},Paired yw a b->∀(j:Nat)(e:Int×ci),a[j]?=↑e->∃d,b[j]?=↑d/\yw e d:=by
  intro a b P
  induction P with
  |nil=>intro j e z;simp at z
  |cons x _ i =>
   intro j e z
   cases j with
   |zero =>
    have l:=iP z;subst l;exact#[_,rfl,x]
   |succ j=>exact i j e (by simpa using z)
 obtain⟨d,m,_,u,n⟩:=this P j a.toList[j] (by simp[g]);have c:mG k a.toList[j].2=true:=h;rw[n]at c;have:d=k:=by simpa[mG] using c
 rw[<- this];exact m
def zd:∀{l:List b} {m:List c},Paired F l m->∀i,Paired F (l.take i++l.drop (i+1)) (m.take i++m.drop (i+1)):=by
 intro _ _ z
 induction z with
 |nil=>intro i;simpa using Paired.nil
 |cons x r a =>
  intro i
  cases i with
  |zero=>simpa using r
  |succ i=>simpa using Paired.cons x (a i)
def xj{k:Int}:∀{ks:List Int} {j:Nat},ks[j]?=↑k->ks.Perm (k::(ks.take j++ks.drop (j+1)))
 | [],j,e=>by simp at e
 |x::r,0,e=>by
  have:x=k:=by simpa using e
  subst this;simp
 |x::r,j+1,e=>by have:=xj (ks:=r) (j:=j) (by simpa using e);simpa using(oC x this).trans (List.Perm.swap k x _)
def FE{k:Int}{Q:Bool->gO->Prop}(S:vK w a c s.heap)
 (h:∀p g,iT a s.heap p->vK w a g p->(if k∈c then c.Perm (k::g) else g=c)->Q (decide<|k∈c) { s with heap:=p}) :
    gS (gU b w) A (setDiscardHashed a (.int k u)<|m4 k) Q E s:=by
  refine e3a2 S λd J t e K=>?_
  have F:ElemsOf (kf b w) d.toList:=Cf K.ent
  have L:(kf b w).is k (.int k u)=true:=pG _ _ _ _
  refine am<|am<|i7 e rfl K.tab.fits ?_
  dsimp only
  rw[byScan_of (knd:=kf b w) rfl (zc K.small) F,gI rfl]
  refine am<|lW<|am ?_
  rw[show m4 k=(kf b w).hash k from rfl]
  refine wpAny_setScan_of (knd:=kf b w) L e rfl K.tab.fits F ?_
  have r:=Gh K.ent k
  cases v:rT (λe=>(kf b w).is k e.2) d.toList with
  |none =>
    have f:k∉c:=λq=>by
      refine e1a2 (r.mp q) λx M y=>?_
      have:=List.findIdx?_eq_none_iff.mp v x M
      rw[show (kf b w).is k x.2=true from y]at this
      cases this
    have z:=h s.heap c (lR a s.heap) #[d,J,t,e,K] (by rw[cr f])
    rw[ij f]at z
    exact ap<|ap z
  |some j =>
    dsimp only
    have i:=O7 (prog:=b) (w:=w) K.ent K.nd v
    have n:k∈c:=jD i
    have B:j<d.size:=by
      have:=(List.findIdx?_eq_some_iff_getElem.mp v).1
      rwa [gR]at this
    rw[sQ]
    refine ap<|am<|i7 e rfl K.tab.fits ?_
    have G:=xE.mp K.tab.fits
    have C:t.place[j]?=↑t.place[j]!:=by
      rw[jj q0a,getElem!_pos]
    have H:t.drop j={ t with place:=iU t.place j,dummies:=i9 t.dummies (hI t.dummies t.place[j]!) t.place[j]!}:=by
      unfold SetTable.drop
      rw[C]
    have o:(iU d j).size=d.size-1:=A5 _ _ B
    have l:(iU t.place j).size=d.size-1:=by rw[A5 _ _ q0a];lia
    have I:Vf w (iU d j) (t.drop j) (c.take j++c.drop (j+1)):=by
      refine#[by rw[toList_erase];exact zd K.ent j,?_,by rw[o];have:=K.small;lia,?_,?_]
      · have := (xj i).nodup_iff.mp K.nd
        exact(List.nodup_cons.mp this).2
      · have m := K.tab.room
        unfold kQ at m
        rw[H]
        refine#[xE.mpr #[?_,?_],JV K.tab.rise j,K.tab.plain,K.tab.good,?_]
        · show (iU t.place j).size = _
          rw[l,o]
        · show (iU t.place j).size+(i9 t.dummies _ _).size <= t.mask
          rw[l,yN]
          lia
        · show ((iU t.place j).size+(i9 t.dummies _ _).size)*5<t.mask*3
          rw[l,yN]
          lia
      · rw[H]; exact K.led
    refine am<|Aq e (yp I.small) λN D O=>?_
    refine am<|wpAny_point ?_
    have z:=h N _ D #[_,_,_,O,I] (by rw[gI n];exact xj i)
    rw[decide_eq_true n]at z
    exact ap z
def DU:∀(l:List a)(i:Nat)(x:a),l[i]?=↑x->(x::l.eraseIdx i).Perm l
 | [],i,x,e=>by simp at e
 |y::r,0,x,e=>by
  have:y=x:=by simpa using e
  subst this;simp
 |y::r,i+1,x,e=>by have:=DU r i x (by simpa using e);rw[oo];exact(List.Perm.swap y x _).trans<|oC y this
set_option tactic.hygienic true in
def SK(c:Nat->Nat):∀(a k:Nat)(left:List d)(b:Array d),left.length<=a->(qZ c a k left b).toList.Perm (b.toList++left):=by
 intro a
 induction a with
 |zero =>
  intro k left b h;have:left=[]:=List.length_eq_zero_iff.mp q0a;subst this;simp[qZ]
 |succ a f =>
  intro k left b h;unfold qZ;split
  ·rename_i x e
   have g:=(List.getElem?_eq_some_iff.mp e).1;refine(f _ _ _<|by rw[List.length_eraseIdx];split<;>lia).trans ?_;rw[pX,n6];refine rs _ ?_;exact DU _ _ _ e
  ·rename_i e
   cases left with
   |nil=>simp
   |cons y r =>
    have:=List.getElem?_eq_none_iff.mp e;have i:=nL (c k) (show 0<(y::r).length by simp)
    lia
def Cg(b:Nat->Nat)(a:Array c):(t6 b a).toList.Perm a.toList:=by unfold t6;have:=SK b a.size 0 a.toList #v[] q0o;simpa using this
set_option tactic.hygienic true in
def Wr(S:vK w a f s.heap)(h:∀(c:Array (Int×ci)) (b:List Int),Paired yw c.toList b->b.Perm f->Q c s):gS (gU g w) A (setWalk a) Q E s:=by
 refine e3a2 S λd k t e K=>?_;refine am<|i7 e rfl K.tab.fits<|am<|am<|jy<|ap ?_;split
 ·refine am<|jy<|ap ?_;obtain⟨b,p,q⟩:=xF (Cg _ d).symm K.ent;exact h _ b q p.symm
 ·rename_i i
  rw[cr<|by show ¬((!t.plain&&decide (d.size>1))=true);rw[K.tab.plain];simp]
  have j:t.led=true:=by
   rcases K.led with z|z
   ·exact g8 z i
   ·exact z
  refine am<|show gS _ A (if (!t.led&&decide (d.size>1))=true then k9 "set:maker-not-led" else pure ()) _ _ _ from ?_;rw[j,cr q0o];exact ap<|ap<|h d f K.ent<|.refl _
def O8(S:vK w a i s.heap)(h:∀(b:Array (Int×ci)) (c:List Int),Paired yw b.toList c->c.Perm i->Q b s) :
  gS (gU d w) A (setWalkUnseen a f g) Q E s:=by
 refine e3a2 (id S) λk l t e K=>?_;refine am<|i7 e rfl K.tab.fits<|am<|am<|jy<|ap ?_
 rw[gI (by
  rcases K.led with z|z
  ·have j:(gU d w).w.params.followText "set-order"=true:=z;rw[j];simp
  ·rw[z,K.tab.plain];simp)]
 exact Wr S h
def Di{b:Nat}{n:Nat}(e:s.heap.get? a=↑(wY d b t))(k:t.fits d.size=true)(h:Q b s):gS (gU c w) A (setEpoch a) Q E s :=
 wpAny_setEpoch_of e rfl k h
def Vi{es:Array (Int×ci)}{b:Array Nat}{Q:Array (Int×ci)×jA->gO->Prop}(p:b.toList.Perm (hW es.size))(h:Q (b.filterMap (es[·]?),d) s) :
  gS (gU c w) A (do
   let some (t,order):=↑(d,b)|k9 "internal:set-table-without-room"
   let a:=order.filterMap (es[·]?)
   if a.size != es.size then k9 "internal:set-table-lost-an-element"
   pure (a,t)) Q E s:=by
 have e:(b.filterMap (es[·]?)).size=es.size:=by rw[<- gR,(picked p).length_eq,gR]
 dsimp only;rw[cr<|by rw[e];simp];exact ap h
def CL(w:iL)(r:gH)(h:iG):Prop:=∃b a,h.get? r=↑(wY #v[] b<|j4 0 0 a)/\(w.params.followText "set-order"=true\/a=true)
def Ci(a:Bool):YB (j4 0 0 a) 0:=#[rfl,il,rfl,.inl rfl,by show 0*5<7*3;decide]
def CL.set(x:CL w r h):vK w r [] h:=by refine e2a2 x λb a e l=>?_;exact#[#v[],b,_,e,.nil,ny,q0q,Ci a,l]
set_option tactic.hygienic true in
def SM{m:Sem Unit}{Q:Unit->gO->Prop}(F:CL w r s.heap)(S:vK w a X s.heap)(ne:r≠a)
 (h:∀Y l,iT r s.heap Y->vK w r l Y->l.Perm X->Q () { s with heap:=Y}):gS (gU I w) A (setMerge r a m) Q E s:=by
  refine e2a2 (id F) λZ c P lr=>?_
  refine e3a2 (id S) λb ep t e K=>?_
  unfold setMerge
  rw[cr<|by simpa using ne]
  refine am<|i7 e rfl K.tab.fits ?_
  dsimp only
  by_cases R:b.isEmpty=true
  · rw[gI R]
    have aa:b=#v[]:=by simpa using R
    subst aa
    have:X=[]:=by
      have:=K.ent
      cases this
      rfl
    subst this
    exact ap<|h s.heap [] (lR _ _) F.set<|.refl _
  · rw[cr R]
    have af:1<=b.size:=by
      have:b.size≠0:=λz=>R (by simpa using Array.size_eq_zero_iff.mp z)
      lia
    have T:=K.small
    -- the room
    have go:∀(o:iG)(J:Nat)(d:jA),iT r s.heap o->o.get? r=↑(wY #v[] J d)->d.place=#v[]->d.dummies=#v[]->d.plain=true->d.led=c->Good d.mask->b.size*5<d.mask*3 ->
        gS (gU I w) A (setState r >>= λx=>match x with
          | (_,_,k)=>match k.road t with
            | .slotForSlot=>sS r b { t with finger:=k.finger,led:=k.led&&t.led,moves:=k.moves,plain:=k.plain&&t.plain}
            | .clean=>do
              let (b,t) <- (do
                let some (t,order):=(nw k.mask k.finger k.moves (led:=k.led&&t.led) (plain:=k.plain&&t.plain) (b.map (·.1)))|k9 "internal:set-table-without-room"
                let L:=order.filterMap (b[·]?)
                if L.size != b.size then k9 "internal:set-table-lost-an-element"
                pure (L,t))
              sS r b t
            | .oneByOne=>do
              for (h,x) in <- setWalkUnseen a [r] ↑r do
                let _ <- kG [x] (setAddHashed r x h)
                m
                if (<- setState a).2.1 != ep then k9 "set.changed-during-merge") Q E { s with heap:=o}:=by
      intro o J d sb o1 p1 d1 M l1 C rm
      have f1:d.fits (#v[]:Array (Int×ci)).size=true:=xE.mpr #[by rw[p1];rfl,by rw[p1,d1];exact iX _]
      refine am<|i7 (s:={ s with heap:=o}) o1 rfl f1 ?_
      dsimp only
      have u:w.params.followText "set-order"=true\/(d.led&&t.led)=true:=by
        rcases lr with z|z
        · exact .inl z
        · rcases K.led with y|y
          · exact .inl y
          · exact .inr (by rw[l1, z, y]; rfl)
      have v:d.road t=.slotForSlot\/d.road t=.clean:=by
        unfold uw kQ
        rw[p1,d1]
        simp only[gX,mW,Nat.add_zero,q7,kT,o6]
        split
        · exact .inl rfl
        · exact .inr rfl
      have ab:d.road t=.slotForSlot->t.dummies.isEmpty=true:=λz=>by
        unfold uw at z
        split at z
        · cases z
        · split at z
          · rename_i q
            exact(Bool.and_eq_true_iff.mp q).2
          · cases z
      have up:∀f,iT r o f->iT r s.heap f:=λf q=>sb.trans q
      rcases v with z|z
      · have hd := ab z
        rw[z]
        refine Aq (s:={ s with heap:=o}) o1 (yp T) λf g D=>?_
        refine h f X (up f g) #[b,_,_,D,K.ent,K.nd,T,#[K.tab.fits,K.tab.rise,?_,K.tab.good,K.tab.room],u]<|.refl _
        rw[M,K.tab.plain];rfl
      · rw[z]
        have i:b.size<=d.mask:=by lia
        obtain⟨t2,B,N,p⟩:=Ce (fg:=d.finger) (mv:=d.moves) (led:=d.led&&t.led) (pl:=d.plain&&t.plain) (hs:=b.map (·.1)) C.Gg (by rw[ml];exact i)
        refine e0a6 (Cd N) λr1 r2 r3 G U O=>?_
        rw[N]
        rw[ml]at p
        have W:=picked p
        have H:(B.filterMap (b[·]?)).size=b.size:=by rw[<- gR,W.length_eq,gR]
        have j:B.size=b.size:=by rw[<- gR,p.length_eq,lm]
        refine am<|Vi p ?_
        refine Aq (s:={ s with heap:=o}) o1 (by rw[H];exact yp T) λf g D=>?_
        refine e1a2 (xF W.symm K.ent) λl q1 q2=>?_
        refine h f l (up f g) #[_,_,_,D,q2,q1.nodup_iff.mp K.nd,by rw[H];exact T,#[xE.mpr #[by rw[O,H,j],?_],r1,?_,by rw[G];exact C,?_],by rw[r2];exact u] q1.symm
        · rw[O, U, j, G]; exact i
        · rw[r3, M, K.tab.plain]; rfl
        · unfold kQ
          rw[O,U,j,G]
          exact rm
    refine am<|am<|i7 P rfl (Ci c).fits ?_
    by_cases hr:b.size*5>=7*3
    · have e1 : (j4 0 0 c).roomFor b.size = some (b.size*2) := by
        unfold tG kQ j4
        rw[gI<|by simpa using hr]
        simp
      rw[e1]
      obtain⟨C,g2⟩:=DT (n:=b.size*2) q0a
      obtain⟨t2,B,N,p⟩:=Ce (fg:=0) (mv:=(j4 0 0 c).movedTo<|iI (b.size*2)-1) (led:=c) (pl:=true) (hs:=(#v[]:Array (Int×ci)).map (·.1)) C.Gg (by rw[ml];exact iX _)
      refine e0a6 (Cd N) λr1 r2 r3 G U O=>?_
      have ae:(j4 0 0 c).relaid ((#v[]:Array (Int×ci)).map (·.1)) (b.size*2)=↑(t2,B):=N
      refine am<|i7 P rfl (Ci c).fits ?_
      dsimp only
      rw[cr (by
        have:iI (b.size*2)<=512:=by rcases C with q|q|q|q|q|q|q<;>lia
        have e3:(512:Nat)<=gL:=by rw[iQ];decide
        lia),ae]
      rw[ml]at p
      have W:=picked (es:=#v[]) p
      have H:(B.filterMap ((#v[]:Array (Int×ci))[·]?)).size=0:=by rw[<- gR,W.length_eq];rfl
      have j:B.size=0:=by rw[<- gR,p.length_eq];rfl
      refine am<|Vi (es:=#v[]) p ?_
      refine Aq P (by rw[H];exact iX _) λf g D=>?_
      have o3:B.filterMap ((#v[]:Array (Int×ci))[·]?)=#v[]:=Array.size_eq_zero_iff.mp H
      rw[o3]at D
      refine go f _ t2 g D (Array.size_eq_zero_iff.mp<|by rw[O,j]) U r3 r2 (by rw[G];exact C) (by rw[G];lia)
    · have e1 : (j4 0 0 c).roomFor b.size = none := by
        unfold tG kQ j4
        rw[cr<|by simpa using hr]
      rw[e1]
      refine ap ?_
      exact go s.heap Z (j4 0 0 c) (lR _ _) P rfl rfl rfl rfl (.inl rfl) (by show b.size*5<7*3;lia)
def Nl:sT tZ "set.__xor__"=↑Builtin.«frozenset.__xor__» :=
 sU (id':="frozenset.__xor__") (by kernel_rfl) (by first|rfl|decide +kernel|(unfold qS;simp +decide [pV])) q0s (by kernel_rfl)
def O9(h:∀a,CL w ⇑s a->(∀c o,s.heap.get? c=↑o->a.get? c=↑o)->Q (.ref ⇑s) 96):gS (gU b w) A (newSet<|.type "set") Q E s:=by
 refine am<|am<|jy<|ap ?_;refine am<|wpAny_alloc<|ap<|h _ ⟨0,_,gW _ rfl,?_⟩ λc o e=>ce _ e
 cases q:w.params.followText "set-order" with
 |true=>exact .inl rfl
 |false=>exact .inr (by show (!(w.params.followText "set-order"))=true;rw[q];rfl)
def Br(S:vK w a c s.heap)(h:Q true s):gS (gU b w) A (Builtin.Frozenset.isAnySet<|.ref a) Q E s:=by refine am<|l8 S.typeIs pH<|ap ?_;exact h
def Nm{m:String}{Q:ci->gO->Prop}(S:vK w a j s.heap)
  (h:∀f b,vK w ⇑s b f->b.Perm j->(∀c o,s.heap.get? c=↑o->f.get? c=↑o)->Q (.ref ⇑s) { s with heap:=f}) :
  gS (gU k w) A (Builtin.Frozenset.newFrom m (.type "set")<|.ref a) Q E s:=by
 refine am<|O9 λd r l=>?_;have g:vK w a j d:=S.keep λo e=>l a o e;have u:⇑s≠a:=je S.lt;refine am<|ap<|am<|iq ?_;refine am<|Br (s:={ s with heap:=d}) g ?_;rw[gI rfl];refine am<|ap ?_;have i:=g;refine e3a2 i λz B t e K=>?_;refine am<|Di (n:=0) (s:={ s with heap:=d}) e K.tab.fits ?_;refine SM (s:={ s with heap:=d}) r g u λv b x y p=>?_;exact ap<|h v b y p λc o q=>x.extBut c o (gZ<|gP q)<|l c o q
set_option tactic.hygienic true in
def YC{Q:ci->gO->Prop}(Sa:vK w a ka s.heap)(Sb:vK w b kb s.heap)(hl:ka.length+kb.length<=126)
  (h:∀h' ks,vK w ⇑s ks h'->(∀k,k∈ks↔((k∈kb/\k∉ka)\/(k∉kb/\k∈ka)))->(∀c o,s.heap.get? c=↑o->h'.get? c=↑o)->Q (.ref ⇑s) { s with heap:=h'}) :
  gS (gU prog w) A (mj .BitXor (.ref a)<|.ref b) Q E s:=by
 refine wpAny_binaryOp_same (op:=.BitXor) (T:="set") Sa.typeIs Sb.typeIs F.fills_set_xor F.slot_set_xor ?_;refine iM F.slot_set_xor Sa.typeIs Nl ?_<|F.args_set_xor_2 _ _;refine am<|am<|ap<|ap ?_;dsimp only;rw[cr gV];refine am<|am<|Br Sa<|Br Sb ?_;rw[cr q0o];refine am<|ap<|am ?_
 wp_delta
 refine am<|am<|l8 Sa.typeIs pH<|ap ?_;rw[gI rfl];refine am<|Nm Sb λh1 SN S1 p1 k1=>?_;have ZR:vK w a ka h1:=Sa.keep λo e=>k1 a o e;have ne:⇑s≠a:=je Sa.lt;refine am<|ap<|am<|iq ?_;unfold Builtin.Frozenset.symmetricDifferenceUpdate;rw[cr<|by simpa using Ne.symm ne];dsimp only;refine am<|kI (s:={ s with heap:=h1}) (vK.typeIs (s:={ s with heap:=h1}) ZR) ?_;rw[cr q0q];refine am<|Br (s:={ s with heap:=h1}) ZR ?_;rw[gI rfl];refine am<|ap<|am<|ap ?_;have a0O:=ZR;refine e3a2 a0O λes ep t e K=>?_;refine am<|Di (n:=0) (s:={ s with heap:=h1}) e K.tab.fits ?_;refine iq<|am<|O8 (s:={ s with heap:=h1}) ZR λes' YD P' p'=>?_;have nd':YD.Nodup:=p'.nodup_iff.mpr Sa.nodup;have a2d:=p'.length_eq;have a2e:=p1.length_eq
 refine am (wpAny_forIn_array' _ (λrest _ s2=>∃dn kr h2 k2,YD=dn++kr/\Paired yw rest kr/\s2={ s with heap:=h2}/\iT ⇑s h1 h2/\vK w ⇑s k2 h2/\k2.length<=SN.length+dn.length /\
   ∀k,k∈k2↔((k∈SN/\k∉dn)\/(k∉SN/\k∈dn))) _ ?turn ?fin es' _ #[[],YD,h1,SN,rfl,P',rfl,lR _ _,S1,gK _,λk=>by simp])
 case fin =>
  rintro _ s2 ⟨dn,kr,h2,k2,e0,P,rfl,sb,S2,_,m⟩;cases P;rw[kW]at e0;subst e0;refine ap<|ap<|ap ⟨_,rfl,q0o,?_⟩;refine h h2 k2 S2 (λk=>?_) λc o q=>sb.extBut c o (gZ<|gP q)<|k1 c o q;rw[m k,p1.mem_iff,p'.mem_iff]
 case turn =>
  rintro x rest _ s2 ⟨dn,kr,h2,k2,e0,P,rfl,sb,S2,l2,m⟩
  cases P with
  |cons hx hr =>
   rename_i k kr
   obtain⟨hx1,u,hx2⟩:=hx;rw[hx1,hx2];have nd2:=nd';rw[e0]at nd2
   have hkd:k∉dn:=λq=>by have:=(List.nodup_append.mp nd2).2.2 k q k gM;exact this rfl
   have a2i:dn.length+(kr.length+1)=YD.length:=by rw[e0,gY,hX]
   have ea:∀h3,iT ⇑s h2 h3->h3.get? a=↑(wY es ep t):=λh3 q=>q.extBut a _ (Ne.symm ne)<|sb.extBut a _ (Ne.symm ne) e
   have Vj:∀(R:ForInStep PUnit->gO->Prop) h3 k3,iT ⇑s h2 h3->vK w ⇑s k3 h3->k3.length<=k2.length+1->(∀j,j∈k3↔((j∈k2/\j≠k)\/(j∉k2/\j=k))) ->
     (∀s':gO,(∃dn kr h2 k2,YD=dn++kr/\Paired yw rest kr/\s'={ s with heap:=h2}/\iT ⇑s h1 h2/\vK w ⇑s k2 h2/\k2.length<=SN.length+dn.length/\∀k,k∈k2↔((k∈SN/\k∉dn)\/(k∉SN/\k∈dn)))->R (.yield #[]) s') ->
     gS (gU prog w) A.in1 (Builtin.Frozenset.unchanged (toString "frozenset."++toString "__xor__") a ep >>= λ_=>pure<|mF PUnit.unit) R E { s with heap:=h3}:=by
    intro R h3 k3 YE S3 l3 m3 fin;refine am<|am<|Di (n:=0) (s:={ s with heap:=h3}) (ea h3 YE) K.tab.fits ?_;rw[cr q0o];refine ap<|ap<|fin _ ⟨dn++[k],kr,h3,k3,by rw[e0];simp,hr,rfl,sb.trans YE,S3,by rw[gY];simp;lia,λj=>?_⟩;rw[m3 j,m j,l6,nA];by_cases q2:j=k
    ·subst q2;by_cases q1:j∈SN<;>simp[q1,hkd]
    ·by_cases q1:j∈SN<;>by_cases q3:j∈dn<;>simp[q1,q2,q3]
   refine am<|iq<|am ?_;refine FE (s:={ s with heap:=h2}) S2 λh3 k3 YE S3 p3=>?_;by_cases XU:k∈k2
   ·rw[decide_eq_true XU,cr q0o];rw[gI XU]at p3;have nd3:=p3.nodup_iff.mp S2.nodup;refine ap<|Vj _ h3 k3 YE S3 (by have:=p3.length_eq;rw[hX]at this;lia) (λj=>?_) λ_ z=>z;have q:=p3.mem_iff (a:=j);rw[ii]at q;rw[q];have hk1:=(List.nodup_cons.mp nd3).1;by_cases q2:j=k
    ·subst q2;simp[hk1]
    ·simp[q2]
   ·rw[ij XU,gI q0o];rw[cr XU]at p3;subst p3;refine am<|Vg (s:={ s with heap:=h3}) S3 q0a λh4 k4 ZS S4 p4=>?_;rw[cr XU]at p4;refine ap<|Vj _ h4 k4 (YE.trans ZS) S4 (by have:=p4.length_eq;rw[hX]at this;lia) (λj=>?_) λ_ z=>z;rw[p4.mem_iff,ii];by_cases q2:j=k
    ·subst q2;simp[XU]
    ·simp[q2]
section
variable{prog:im}{w:iL}{A:jq}{R:Result->gO->Prop}{I:gH}{fp wr:List gH}{G:Array oZ->Array oZ->Prop}{n:Nat}{P:Nat->ci->Prop}{St:Nat->gO->Prop}
set_option tactic.hygienic true in
def Ws(W:WalksS prog w A.in1 I fp wr G n P St)(r:gH)(O:r∉fp)(a:Nat->Int)(g:∀i v,P i v->∃t,v=.int (a i) t)(hb:n<=126) :
  ∀(m i:Nat)(s:gO)(b:List Int),i+m=n->St i s->vK w r b s.heap->(∀k,k∈b↔∃j,j<i/\a j=k)->b.length<=i ->
   (∀h l,Moved (r::wr) G s h->vK w r l h.heap->(∀k,k∈l↔∃j,j<n/\a j=k)->R (.ok<|.ret .none) h) ->
   mq (gU prog w) A (.builtin "set.update.loop" #[[.ref r,.ref I],[]]) R s:=by
 have Q:r∉wr:=λq=>O<|W.sub _ q;have x:∀c∈wr,c∈r::wr:=λc B=>gQ _ B;intro m
 induction m with
 |zero =>
  intro i s b X H S d Y f;obtain rfl:i=n:=by lia
  refine jE tH ?_;rw[js oR _];refine am<|W.done s _ _ H λh C=>?_;exact ap<|f h b (C.mono x) (S.keep λo e=>C.heap r o Q e) d
 |succ m Z =>
  intro i s b X H S d Y f;refine jE tH ?_;rw[js oR _];refine am<|W.item i s _ _ q0a H λv T hP J C=>?_;obtain⟨u,rfl⟩:=g i v hP;have S1:vK w r b T.heap:=S.keep λo e=>C.heap r o Q e;refine am<|iq<|Vh S1 q0a λh2 D tk U S2 p E=>?_
  have l2:D.length<=i+1:=by
   have:=p.length_eq;split at this
   ·lia
   ·rw[hX]at this;lia
  refine ap #[kP oR _,Z (i+1) _ D q0a (W.frame _ T _ _ J E λc B o e=>?_) S2 (λk=>?_) l2 λs3 L M S3 m3=>?_]
  ·rw[U.2 c (λz:c=r=>O<|by rw[<- z];exact B)];exact e
  ·rw[p.mem_iff]
   have q:(k∈if a i∈b then b else a i::b)↔(k=a i\/k∈b):=by
    split
    ·rename_i z
     constructor
     ·exact .inr
     ·rintro(y|y)
      ·rw[y];exact z
      ·exact y
    ·exact ii
   rw[q,d k];constructor
   ·rintro(z|⟨j,hj,e⟩)
    ·exact#[i,q0a,z.symm]
    ·exact#[j,q0a,e]
   ·rintro⟨j,hj,e⟩;by_cases N:j=i
    ·subst N;exact .inl e.symm
    ·exact .inr #[j,q0a,e]
  ·refine f s3 L (Moved.trans W.gtrans ((C.mono x).then_heap E λc o B e=>?_) M) S3 m3;rw[U.2 c (λz:c=r=>B<|by rw[z];exact gM)];exact e
end
def Nn(x:ci)(h:∀a,CL w ⇑s a->(∀c o,s.heap.get? c=↑o->a.get? c=↑o)->Q (.ref ⇑s) 96) :
  mq (gU b w) A (.call (.builtin "set.__new__") #[[.type "set",x],[]]) (wants Q E) s:=by
 refine mr ?_;refine am<|mC (F.newCall_set_1 x)<|ap #[kP pr _,jE F.entry_set_new ?_];rw[js pr _];unfold Builtin.«set.__new__» o7;have g:=pH;obtain⟨i,j,k,l,m⟩:=s;dsimp only;generalize d:newSet=n
 wp_walk
 subst d;refine O9 λa e f=>?_;exact ap<|h a e f
def JZ(hh:A.handled=none)(hl:s.heap.IsList l b)(hi:kS b.toList x)(hb:b.size<=126)
 (h:∀f G g,vK w ⇑s g f->(∀k,k∈g↔k∈x)->(∀c o,s.heap.get? c=↑o->f.get? c=↑o)->Q (.ref ⇑s) { s with heap:=f,toks:=G}) :
    gS (gU aa w) A (call (.type "set") [.ref l]) Q E s:=by
  obtain⟨c0,tl,ab⟩:=F.called_set.mro
  have J:=F.called_set.made
  have ae:=F.called_set.sub
  refine mz<|mr ?_
  refine ap #[nC _ q0s,jE F.entry_type_call ?_]
  rw[tJ (uD "set" [.ref l] []) rfl]
  have ag:=F.called_set.notType
  have ah:=F.called_set.canCreate
  have ai:=F.typeCall_set_1<|.ref l
  repeat (any_goals (first|assumption|wp_step))
  refine jL (Nn (.ref l) (E:=E) (Q:=λy z=>y=.ref ⇑s/\∃a,z=96/\CL w ⇑s a/\∀c o,s.heap.get? c=↑o->a.get? c=↑o) λa H u=>#[rfl,a,rfl,H,u]) λr1 s1 m=>?_
  cases r1 with
  |error e=>exact m
  |ok f1 =>
    cases f1 with
    |ret y =>
      obtain⟨rfl,a,rfl,H,u⟩:=m
      have L:vK w ⇑s [] a:=H.set
      have hT:lS 96 (.ref ⇑s) "set":=vK.typeIs (s:=96) L
      have aj:=F.called_set.init.lookup
      have ak:=F.called_set.init.bind<|.ref ⇑s
      repeat (any_goals (first|assumption|wp_step))
      refine jL (ni (R:=wants (λr B=>r=.none/\∃f G g,B={ s with heap:=f,toks:=G}/\vK w ⇑s g f/\(∀k,k∈g↔k∈x)/\∀c o,s.heap.get? c=↑o->f.get? c=↑o) E) F.called_set.init.plain F.entry_set_init<|check_set_init_1 hT ?_) λr2 s2 n=>?_
      · obtain⟨M, p, N, nl, O⟩ := id hl
        have q:a.IsList l b:=#[M,u l M p,N,nl,O]
        have al:lS 96 (.ref l) "list":=q.typeIs
        have q1:=F.sub_list_set
        have q2:=F.sub_list_frozenset
        have q3:(jS "list" == jS "dict")=false:=by decide
        refine e2a2 (id H) λan af e1 l1=>?_
        unfold Builtin.«set.__init__» noKeywords Builtin.Frozenset.updateFrom
        generalize P:pyIter=PI
        wp_walk
        subst P
        refine wpAny_pyIter_list q<|am<|sV ?_
        have S:l<a.objs.size:=gP<|u l M p
        have T:⇑s<a.objs.size:=L.lt
        have U:A.in1.in1.in1.handled=none:=by simp[hh]
        have nr:⇑s∉[a.objs.size,l]:=by
          simp only[ii,jb,lX,pY]
          exact#[gZ T,je<|gP p]
        have C:∀(i:Nat)(v:ci),b[i]?=↑v->∃t,v=.int ((λi=>x.getD i 0) i) t:=λi v hv=>qK hi i v (by rw[iC];exact hv)
        have d:∀c o,a.get? c=↑o->(a.push { cls:=.type "list_iterator",data:=.fields #v[.ref l,.int 0 0]}).get? c=↑o:=λc o e=>ce _ e
        have D:=qL hi
        rw[gR]at D
        refine Ws ((Walks.list U _ l (gZ S) b).toS) ⇑s nr (λi=>x.getD i 0) C hb b.size 0 _ [] q0a #[#[_,gW _ rfl,rfl,rfl],q.push _] (L.keep λo e=>d _ o e) (λk=>by simp) (iX _) λs2 W I S2 m2=>?_
        obtain⟨h2,g2,d2,X,Y⟩:=s2
        have eg:g2=s.gens:=I.gens
        have ed:d2=s.drawn:=I.drawn
        have eo:Y=s.os:=I.os
        subst eg ed eo
        refine ap<|ap ⟨rfl,h2,X,W,rfl,S2,λk=>?_,λc o e=>?_⟩
        · rw[m2 k]
          constructor
          · rintro⟨j, Z, e⟩
            rw[<- e]
            have:j<x.length:=by lia
            simp[jh,this]
          · intro hk
            obtain⟨j,Z⟩:=lx hk
            refine#[j,by have:=(List.getElem?_eq_some_iff.mp Z).1;lia,?_]
            simp[jh,Z]
        · refine I.heap c o ?_ (d c o<|u c o e)
          simp only[ii,jb,lX,pY]
          exact#[gZ<|gP e,gZ<|gP<|u c o e]
      · cases r2 with
        |error e=>exact n
        |ok f2 =>
          cases f2 with
          |ret r =>
            obtain⟨rfl,f,G,g,rfl,S',m',k'⟩:=n
            repeat (any_goals (first|assumption|wp_step))
            exact h _ _ g S' m' k'
          |_=>exact n.elim
    |_=>exact m.elim
def wI:Slot "set_iterator" "__next__" "set_iterator.__next__" :=
 .of (owner:="set_iterator") (n:="__next__") (by rw[nM,lH];kernel_rfl) q0s q0s q0s (by first|exact .inl q0s|exact .inr q0s) (by rw[sW];kernel_rfl)
def Pa:Manifest.owners.lookup (String.ofList ['r','o','t','a','r','e','t','i','_','t','e','s'].reverse)=↑Manifest.sig_set_iterator:=by kernel_rfl
def Bu(a:ci):rH "set_iterator.__next__" #[[a],[]]:=by unfold rH;rw[signature?_of (id:="set_iterator.__next__") (n:=['_','_','t','x','e','n','_','_']) (o:=['r','o','t','a','r','e','t','i','_','t','e','s']) (by kernel_rfl) Pa];kernel_rfl
def AR:sT tZ "set_iterator.__next__"=↑Builtin.«set_iterator.__next__»:=entryFor_of_tree (by kernel_rfl)
def Bv:Slot "set_iterator" "__iter__" "set_iterator.__iter__" :=
 .of (owner:="set_iterator") (n:="__iter__") (by rw[nM,lH];kernel_rfl) q0s q0s q0s (by first|exact .inl q0s|exact .inr q0s) (by rw[sW];kernel_rfl)
def Gi(a:ci):rH "set_iterator.__iter__" #[[a],[]]:=by unfold rH;rw[signature?_of (id:="set_iterator.__iter__") (n:=['_','_','r','e','t','i','_','_']) (o:=['r','o','t','a','r','e','t','i','_','t','e','s']) (by kernel_rfl) Pa];kernel_rfl
def E6:sT tZ "set_iterator.__iter__"=↑Builtin.«dict_keyiterator.__iter__» :=
 sU (id':="dict_keyiterator.__iter__") (by kernel_rfl) (by first|rfl|decide +kernel|(unfold qS;simp +decide [pV])) q0s (by kernel_rfl)
def DV:sT tZ "set.__iter__"=↑Builtin.«frozenset.__iter__» :=
 sU (id':="frozenset.__iter__") (by kernel_rfl) (by first|rfl|decide +kernel|(unfold qS;simp +decide [pV])) q0s (by kernel_rfl)
noncomputable abbrev YF(b i n c:Nat)(a:gH):Obj:={ cls:=.type "set_iterator",dict:=none,data:=.fields #v[lF b,lF i,.ref a,lF n,lF c],slots:=#v[]}
noncomputable def J0(w:iL)(a:gH)(b:Array (Int×ci))(c:Nat):Array (Int×ci):=if w.params.followText "set-order"=true then t6 (w.params.setOrder a c) b else b
def Cj(w:iL)(a:gH)(b:Array (Int×ci))(c:Nat):(J0 w a b c).toList.Perm b.toList:=by
 unfold J0;split
 ·exact Cg _ b
 ·exact .refl _
def SIt(w:iL)(e a:gH)(c:Array (Int×ci))(d:Nat)(t:jA)(i:Nat)(h:iG):Prop :=
 ∃b,(w.params.followText "set-order"=false->hI t.place b=i)/\h.get? e=↑(YF b i c.size d a)/\h.get? a=↑(wY c d t)
def Ip(e:s.heap.get? b=some { cls:=cls,dict:=none,data:=.fields c,slots:=#v[]})(h:Q c s):gS (gU a w) A (fieldsOf<|.ref b) Q E s:=by exact am<|qG e<|ap h
set_option tactic.hygienic true in
def No{c i:Nat}(e:s.heap.get? a=↑(wY g k t))(K:Vf w g t p)(n:w.params.followText "set-order"=false->hI t.place c=i)
 (d:(J0 w a g k)[i]?=↑x)(h:∀l,(w.params.followText "set-order"=false->hI t.place l=i+1)->Q ↑(x.2,l) s):gS (gU f w) A (setNext a c i k) Q E s:=by
  have q:=xE.mp K.tab.fits
  refine am<|i7 e rfl K.tab.fits<|am<|am<|jy<|ap ?_
  dsimp only
  unfold J0 at d
  split
  · rename_i j
    have b:w.params.followText "set-order"=true:=j
    rw[gI b]at d
    rw[cr q0o]
    refine am<|am<|i7 e rfl K.tab.fits<|am<|am<|jy<|ap ?_
    rw[gI j]
    refine am<|jy<|ap<|ap ?_
    rw[show (gU f w).w=w from rfl,d]
    exact h c λz=>by rw[b]at z;cases z
  · rename_i j
    have b:w.params.followText "set-order"=false:=Bool.eq_false_iff.mpr j
    rw[cr<|by rw[b];simp]at d
    rw[cr<|by show ¬((!t.plain&&decide (g.size>1))=true);rw[K.tab.plain];simp]
    have o:t.led=true:=by
      rcases K.led with z|z
      · rw[b]at z; cases z
      · exact z
    refine am<|show gS _ A (if (!t.led&&!g.isEmpty)=true then k9 "set:maker-not-led" else pure ()) _ _ _ from ?_
    rw[o,cr q0o]
    have r:=(Array.getElem?_eq_some_iff.mp d).1
    rw[n b,d]
    have m:t.place[i]?=↑t.place[i]!:=by rw[jj q0a,getElem!_pos]
    rw[m]
    refine ap<|ap<|h _ λ_=>?_
    exact JT K.tab.rise (by rw[iC];exact m)
set_option tactic.hygienic true in
def Np{c:Nat}(e:s.heap.get? a=↑(wY b i t))(K:Vf w b t l)(j:w.params.followText "set-order"=false->hI t.place c=b.size)(h:Q none s):gS (gU d w) A (setNext a c b.size i) Q E s:=by
 refine am<|i7 e rfl K.tab.fits<|am<|am<|jy<|ap ?_;dsimp only;split
 ·rename_i g
  rw[cr q0o];refine am<|am<|i7 e rfl K.tab.fits<|am<|am<|jy<|ap ?_;rw[gI g];refine am<|jy<|ap<|ap ?_
  have:(t6 ((gU d w).w.params.setOrder a i) b)[b.size]?=none:=by rw[Array.getElem?_eq_none_iff,<- gR,(Cg _ b).length_eq,gR];exact gK _
  rw[this];exact h
 ·rename_i g
  have f:w.params.followText "set-order"=false:=Bool.eq_false_iff.mpr g;rw[cr<|by show ¬((!t.plain&&decide (b.size>1))=true);rw[K.tab.plain];simp]
  have k:t.led=true:=by
   rcases K.led with z|z
   ·rw[f]at z;cases z
   ·exact z
  refine am<|show gS _ A (if (!t.led&&!b.isEmpty)=true then k9 "set:maker-not-led" else pure ()) _ _ _ from ?_;rw[k,cr q0o,j f];rw[show b[b.size]?=none from by simp];exact ap<|ap h
def Nq(hh:A.handled=none)(K:Vf w es t ks)(ne:a≠it):Walks prog w A it [it,a] [it] es.size (λi v=>∃x,(J0 w a es ep)[i]?=↑x/\v=x.2) (SIt w it a es ep t) where
 sub:=λb hb=>by simp at hb;simp[hb]
 frame:=λi h h' z9=>e1a3 z9 λsl z e1 e2 k=>#[sl,z,k it q0o _ e1,k a q0o _ e2]
 item:=by
  rintro i s Q E hi ⟨sl,z,e1,e2⟩ hQ;have hT:s.TypeIs (.ref it) "set_iterator":=#[_,e1,rfl];refine am<|oS<|wpAny_callSpecial?_slot (name:=lO "__next__") hT wI<|iM wI hT AR ?_<|Bu _;refine am<|ap<|am<|Ip e1 ?_;refine am<|qt e2 rfl K.tab.fits ?_;rw[cr q0o]
  obtain⟨x,hx⟩:∃x,(J0 w a es ep)[i]?=some x:=by
   have hl:i<(J0 w a es ep).size:=by rw[<- gR,(Cj w a es ep).length_eq,gR];exact hi
   exact#[_,jj hl]
  refine am<|No e2 K z hx λsl' z'=>?_;refine am<|jH e1 q0o λh1 o1 sb1=>am<|jH (s:={ s with heap:=h1}) o1 q0o λh2 o2 sb2=>ap #[_,rfl,ap ?_];have sb:=sb1.trans sb2;exact hQ _ h2 _ #[x,hx,rfl] #[sl',z',o2,sb.extBut a _ ne e2] λb o hb q=>sb.extBut b o (by simpa using hb) q
 done:=by
  rintro s Q E ⟨sl,z,e1,e2⟩ hQ;have hT:s.TypeIs (.ref it) "set_iterator":=#[_,e1,rfl];refine am<|oS<|wpAny_callSpecial?_slot (name:=lO "__next__") hT wI<|iM wI hT AR ?_<|Bu _;refine am<|ap<|am<|Ip e1 ?_;refine am<|qt e2 rfl K.tab.fits ?_;rw[cr q0o];refine am<|Np e2 K z ?_;refine am<|jH e1 q0o λh1 o1 sb1=>am ?_;refine am<|iE ?_ (by size_fits);refine am (m:=pZ _ _)<|mC (a:=Value.none) (by first|rfl|(simp only[pZ];rfl))<|iE ?_ (by size_fits)
  refine wpAny_raiseNew_none hh<|am<|l8 (T:="StopIteration") (b:=true) ⟨_,gW _ rfl,rfl⟩ isSubtype_stop<|ap ?_;exact hQ _ _ λb o hb q=>ce _<|ce _<|sb1.extBut b o (by simpa using hb) q
 self:=by rintro i s Q E ⟨sl,z,e1,e2⟩ hQ;have hT:s.TypeIs (.ref it) "set_iterator":=#[_,e1,rfl];refine wpAny_pyIter_slot hT Bv<|iM Bv hT E6 ?_<|Gi _;exact ap #[_,rfl,"set_iterator",_,hT,wI.lookup,hQ]
def Wt(e:s.heap.get? a=↑(wY f i t))(K:Vf w f t j)
 (h:∀d,SIt w ⇑s a f i t 0 d->(∀c o,s.heap.get? c=↑o->d.get? c=↑o)->d.objs.size=⇑s+1->Q (.ref ⇑s) { s with heap:=d}):gS (gU b w) A (pyIter<|.ref a) Q E s:=by
  have g:s.TypeIs (.ref a) "set":=#[_,e,rfl]
  refine wpAny_pyIter_slot g F.slot_set_iter<|iM F.slot_set_iter g DV ?_<|F.args_set_iter_1 _
  refine am<|am<|ap<|ap<|am<|am<|qt e rfl K.tab.fits<|ap ?_
  refine am<|am<|i7 e rfl K.tab.fits<|am<|am<|jy<|ap<|ap ?_
  rw[cr<|by show ¬((!(gU b w).w.params.followText "set-order"&&(!t.plain&&decide (f.size>1)))=true);rw[K.tab.plain];simp]
  refine am<|ap<|am<|Di (n:=0) e K.tab.fits ?_
  refine am<|iE ?_ (by size_fits)
  refine ap #[_,rfl,"set_iterator",_,#[_,gW _ rfl,rfl],wI.lookup,?_]
  exact h _ #[0,λ_=>JU K.tab.rise,gW _ rfl,ce _ e] (λc o q=>ce _ q)<|ju _ _
def Gj:mZ (.type "set") "__len__"=pure (some<|.builtin "set.__len__"):=by rw[nM,lH];kernel_rfl
def SO(P:Paired yw a b):∀(j:Nat)(e:Int×ci),a[j]?=↑e->∃k,b[j]?=↑k/\yw e k:=by
 induction P with
 |nil=>intro j e z;simp at z
 |cons x _ c =>
  intro j e z
  cases j with
  |zero =>
   have d:=iP z;subst d;exact#[_,rfl,x]
  |succ j=>exact c j e (by simpa using z)
def zO:∀{a:List ci} {b:List Int},a.length=b.length->(∀(i:Nat)(v:ci),a[i]?=↑v->∃k u,b[i]?=↑k/\v=lE k u)->kS a b
 | [],[],_,_=>.nil
 | [],_::_,h,_=>by simp at h
 |_::_,[],h,_=>by simp at h
 |v::a,n::b,h,k=>by
  refine e2a2 (k 0 v rfl) λc u d f=>?_;have:n=c:=by simpa using d
  subst this;subst f
  exact .cons _ _ (zO (by simpa using h) λi g e=>by
   refine e2a2 (k (i+1) g<|by simpa using e) λj l m o=>?_
   exact#[j,l,by simpa using m,o])
def Nr(hh:A.handled=none)(S:vK w a ks s.heap)
 (h:∀M tk Z G,kS Z G->G.Perm ks->(∀c o,s.heap.get? c=↑o->M.get? c=↑o)->⇑s<=M.objs.size->Q Z { s with heap:=M,toks:=tk}):gS (gU r w) A (collect<|.ref a) Q E s:=by
  refine e3a2 (id S) λH I t e K=>?_
  have d:a<⇑s:=gP e
  refine am<|sV<|jE t7 ?_
  rw[js t9 _]
  refine am (m:=newList [])<|iE<|ap #[kP ot _,jE F.entry_list_iadd ?_]
  rw[js ot _]
  have l:∀c o,s.heap.get? c=↑o->(s.heap.push 52).get? c=↑o:=λc o q=>ce _ q
  have oL:(s.heap.push 52).get? ⇑s=some 52:=gW _ rfl
  have f:(s.heap.push 52).objs.size=⇑s+1:=ju _ _
  generalize s.heap.push 52=n at l oL f ⊢
  show gS _ A.in1 (pS (.ref ⇑s) (.ref a)<|.ref ⇑s) _ _ { s with heap:=n}
  have hT:lS { s with heap:=n} (.ref a) "set":=#[_,l a _ e,rfl]
  refine am<|kI hT ?_
  have n1:lv (.ref ⇑s) (.ref a)=false:=by simp[lv,je d]
  have n2:(jS "set" == jS "list")=false:=by decide
  have n3:(jS "set" == jS "tuple")=false:=by decide
  simp only[n1,n2,n3,rV,kT,o6]
  refine am<|Wt (s:={ s with heap:=n}) (l a _ e) K λp I2 N ae=>?_
  have j:lS { s with heap:=p} (.ref a) "set":=#[_,N a _<|l a _ e,rfl]
  refine am<|iq ?_
  refine am<|pJ j Gj ?_
  generalize A6:("set.__len__":String)=O
  dsimp only
  rw[show splitId O=some ("set","__len__") from by subst A6;decide +kernel]
  subst A6
  refine am<|l8 (b:=true) j pH ?_
  rw[cr q0o]
  rw[gI q0s]
  refine am<|kI j<|ap ?_
  rw[gI q0s]
  refine am<|lW<|am ?_
  have y:=N _ _ oL
  have P:A.in1.handled=none:=by simp[hh]
  have ne:a≠n.objs.size:=gZ<|nc d (by rw[f];exact jp _)
  have W:=(Nq (prog:=r) (A:=A.in1) (ep:=I) P K ne).toS
  refine am<|pM y rfl ?_
  have B:=iJ (Obj.mapSeq (·.push Value.none)) y rfl
  refine pM B rfl ?_
  have C:=iJ (Obj.mapSeq (·.pop)) B rfl
  have J:∀c o,c≠⇑s->p.get? c=↑o->((p.update ⇑s (Obj.mapSeq (·.push Value.none))).update ⇑s (Obj.mapSeq (·.pop))).get? c=↑o :=
    λc o hc q=>(iv _ _<|Ne.symm hc).trans<|(iv _ _<|Ne.symm hc).trans q
  have R:((p.update ⇑s (Obj.mapSeq (·.push Value.none))).update ⇑s (Obj.mapSeq (·.pop))).objs.size=p.objs.size:=by rw[ou,ou]
  have T:⇑s∉[n.objs.size,a]:=by
    simp only[ii,jb,lX,pY]
    exact#[by rw[f];exact gZ<|jp _,je d]
  generalize (p.update ⇑s (Obj.mapSeq (·.push Value.none))).update ⇑s (Obj.mapSeq (·.pop))=h4 at C J R ⊢
  refine e1a3 I2 λsl z i1 i2=>?_
  have I4:SIt w n.objs.size a H I t 0 h4:=#[sl,z,J _ _ (by rw[f];exact je<|jp _) i1,J _ _ (gZ d) i2]
  refine ap #[kP qa _,codeAny_extend_loopS W (yp K.small) _ T _ H.size 0 _ _ _ rfl (iX _) I4 C (ItemsOf.nil _) λs5 U c5 L D g=>?_]
  refine am<|qG D<|ap ?_
  obtain⟨h5,g5,d5,X,Y⟩:=s5
  have eg:g5=s.gens:=L.gens
  have ed:d5=s.drawn:=L.drawn
  have eo:Y=s.os:=L.os
  subst eg ed eo
  -- aa ab
  refine e1a2 (xF (Cj w a H I).symm K.ent) λG pp pe=>?_
  have k5:∀c o,s.heap.get? c=↑o->h5.get? c=↑o:=λc o q=>L.heap c o (by
    simp only[ii,jb,lX,pY]
    exact#[gZ (gP q),gZ (gP (l c o q))]) (J c o (gZ (gP q)) (N c o (l c o q)))
  refine h h5 X U.toList G (zO ?_ λi v hv=>?_) pp.symm k5<|lM<|gP D
  · rw[gR, g.1, <- LX pe, gR, <- gR, <- gR, (Cj w a H I).length_eq]
  · obtain⟨x, hx, rfl⟩ := g.2 i v (by rw[<- iC]; exact hv)
    obtain⟨k,hk,_,u,hu⟩:=SO pe i x (by rw[iC];exact hx)
    exact#[k,u,hk,hu]
def Ck 
 (C:∀(u:List ci->gO->Prop),(∀b e a d,kS a d->d.Perm x->(∀c o,s.heap.get? c=↑o->b.get? c=↑o)->⇑s<=b.objs.size->u a { s with heap:=b,toks:=e})->gS (gU f w) A.in1 (collect v) u E s)
 (k:x.length<64) (h:∀b e r a d,⇑s<=r->kS a d->d.Perm x->d.Pairwise (·<=·)->(∃n,b.get? r=some { cls:=.type "list",data:=.seq a.toArray n})->(∀c o,s.heap.get? c=↑o->b.get? c=↑o)->Q (.ref r) { s with heap:=b,toks:=e}) :
    gS (gU f w) A (call (.builtin "sorted") [v]) Q E s:=by
  refine rA kind_sorted plain_sorted entry_sorted (args_sorted1 _) ?_
  refine am (m:=checkCount "sorted" 1 1 _)<|ap ?_
  refine am<|C _ λl e a d y z B D=>?_
  have g:a.length<64:=by rw[qL y,z.length_eq];exact k
  refine am<|tQ ?_
  have p:(l.push<|mh "list" a.toArray 0).get? l.objs.size=↑(mh "list" a.toArray 0):=gW _ rfl
  refine am<|iq<|iM slot_list_sort ⟨_,p,rfl⟩ entry_list_sort (list_sort_tree p y g λi t F G H=>#[_,rfl,?_])<|args_list_sort _
  obtain⟨I,J⟩:=sortedHeap_at (out:=i) p
  refine ap #[_,rfl,h _ e l.objs.size i.toList t D F (G.trans z) H #[I,by simpa using J] λc o q=>?_]
  have j:=gP<|B c o q
  rw[sortedHeap_old (gZ j)<|by rw[sX];exact og j]
  exact ce _<|B c o q
def Gk(j:A.handled=none)(S:vK w a f s.heap)(b:f.length<64)
 (h:∀d l r g e,⇑s<=r->kS g e->e.Perm f->e.Pairwise (·<=·)->(∃n,d.get? r=some { cls:=.type "list",data:=.seq g.toArray n})->(∀c o,s.heap.get? c=↑o->d.get? c=↑o)->Q (.ref r) { s with heap:=d,toks:=l}) :
    gS (gU i w) A (call (.builtin "sorted") [.ref a]) Q E s :=
  Ck (λ_ k=>Nr (by simp[j]) S k) b h
def E7{a:List ci}(p:s.heap.IsList l a.toArray)(b:kS a i)(d:i.length<64)
 (h:∀f t r j g,⇑s<=r->kS j g->g.Perm i->g.Pairwise (·<=·)->(∃n,f.get? r=some { cls:=.type "list",data:=.seq j.toArray n})->(∀c o,s.heap.get? c=↑o->f.get? c=↑o)->Q (.ref r) { s with heap:=f,toks:=t}) :
    gS (gU m w) A (call (.builtin "sorted") [.ref l]) Q E s :=
  Ck (λ_ k=>collect_list p (k _ s.toks _ _ b (.refl _) (λc o q=>(iv _ _ (je (gP q))).trans (ce _ q)) (by rw[ou,sX];exact lG _)) (by
    have:=qL b
    have e:(64:Nat)<=gL:=by rw[iQ];decide
    lia)) d h
end SX
namespace L2
open PySem PySem.Spec PyProof.Rows SX
def As{a:List Int}(h:Vals (a.map V.int) b):kS b a:=intsAre_of h
def SQ(h:kS a b):Vals (b.map V.int) a:=FA h
noncomputable def wS(w:iL)(p:gH)(a:List Int):HO:=.ext<|vK w p a
def ze(I:Inv X a c H s)(h:H p=↑(wS X.w p b)):vK X.w p b s.heap:=(I.vD p _ h).1
def Gm(x:vK w p a h):vO P w H h p (wS w p a) :=
 #[x,(e3a2 x λ_ _ _ e _=> #[_,e]),λ_ _ q k=>q.keep k]
def Iq(i:X.calm=true):yu X (.type "set") (λe H Q=>∃(a:gH)(c:List Int),e=[.ref a]/\vX X.K H a (c.map V.int)/\c.length<=126/\∀(p:gH)(b:List Int),H p=none->b.Nodup->b.length<=c.length->(∀k,k∈b↔k∈c)->Q (.ref p) (upd H p<|wS X.w p b)):=by intro f s z H e A Q I r h;obtain⟨a,c,rfl,j,B,q⟩:=h;obtain⟨u,rfl,l⟩:=vals1 r;cases l;refine e1a3 (I.list j) λn g o C=>?_;have t:=As g;have d:=g.length;rw[gN]at d;refine JZ (I.ok.hd i) o.isList (by simpa using t) (by rw[gX];lia) λD v b S m k=>?_;refine#[.ref ⇑s,_,I.laid (t':=v) k (gK _)<|Gm S,rfl,q _ b (I.vD.fresh<|gK _) S.nodup (yM _ _ S.nodup λx y=>(m x).mp y) m]
def SR:AH X (mj .BitXor) (λx y H Q=>∃(a b:gH)(c d:List Int),x=.ref a/\y=.ref b/\H a=↑(wS X.w a c)/\H b=↑(wS X.w b d)/\c.length+d.length<=126 /\
  ∀(p:gH)(e:List Int),H p=none->e.Nodup->(∀k,k∈e↔((k∈d/\k∉c)\/(k∉d/\k∈c)))->Q (.ref p) (upd H p (wS X.w p e))):=by
 intro f s o H x y v u Q I g i h;obtain⟨a,b,c,d,rfl,rfl,j,l,n,q⟩:=h;cases g;cases i;refine YC (ze I j) (ze I l) n λr e S m k=>?_;exact#[.ref ⇑s,_,I.laid (t':=s.toks) k (gK _)<|Gm S,rfl,q _ e (I.vD.fresh<|gK _) S.nodup m]
def A7{g:List Int}(I:Inv X b k H s)(l:g.length<64)(q:∀(p:gH)(a:List Int),H p=none->a.Perm g->a.Pairwise (·<=·)->Q (.ref p) (upd H p<|.lst<|a.map V.int)) :
  ∀(d:iG)(h:Nat)(r:gH)(f:List ci)(a:List Int),⇑s<=r->kS f a->a.Perm g->a.Pairwise (·<=·)->(∃n,d.get? r=some { cls:=.type "list",data:=.seq f.toArray n})->(∀c o,s.heap.get? c=↑o->d.get? c=↑o)->EP X b k Q (.ref r) { s with heap:=d,toks:=h}:=by
 intro d h r f a i m j t u v;obtain⟨n,e⟩:=u;have w:(64:Nat)<=gL:=by rw[iQ];decide
 exact#[.ref r,_,I.laid (t':=h) (o:=.lst<|a.map V.int) v i #[by rw[gN,j.length_eq];lia,f,n,SQ m,e],rfl,q r a (I.vD.fresh i) j t]
def Bw(g:X.calm=true):yu X (.builtin "sorted") (λe H Q=>∃(a:gH)(c:List Int),e=[.ref a]/\H a=↑(wS X.w a c)/\c.length<64/\∀(p:gH)(d:List Int),H p=none->d.Perm c->d.Pairwise (·<=·)->Q (.ref p) (upd H p<|.lst<|d.map V.int)):=by intro f s k H e l Q I r h;obtain⟨a,c,rfl,i,b,q⟩:=h;obtain⟨u,rfl,j⟩:=vals1 r;cases j;exact Gk (I.ok.hd g) (ze I i) b<|A7 I b q
def Gn:yu X (.builtin "sorted") (λe H Q=>∃(a:gH)(c:List Int),e=[.ref a]/\vX X.K H a (c.map V.int)/\c.length<64/\∀(p:gH)(d:List Int),H p=none->d.Perm c->d.Pairwise (·<=·)->Q (.ref p) (upd H p<|.lst<|d.map V.int)):=by intro f s m H e n Q I r h;obtain⟨a,c,rfl,g,b,q⟩:=h;obtain⟨u,rfl,i⟩:=vals1 r;cases i;refine e1a3 (I.list g) λj k l o=>?_;exact E7 l.isList (As k) b<|A7 I b q
def FF(X:Cx)(H:Hp)(x:V)(d:PyData):Prop:=∀(a:List (gH×Obj)) (b:St) (s:gO) (u:ci),Inv X a b H s->RelV x u->∃c,Reads s.heap u d c
def FF.int(i:Int):FF X H (.int i) (.int i):=λ_ _ _ _ _ r=>by obtain⟨t,rfl⟩:=r;exact#[_,Reads.int i t]
def FG(I:Inv X a e H s):∀{c:List V} {d:List ci} {b:List PyData},Vals c d->Paired (FF X H) c b->∃f,ReadsAll s.heap d b f:=by
 intro _ _ b z
 induction z generalizing b with
 |nil=>intro w;cases w;exact#[_,.nil]
 |cons r t g=>intro w;cases w with|cons q p =>
  obtain⟨j,h⟩:=q a e s _ I r;obtain⟨k,i⟩:=g p;exact#[_,.cons h i]
def FF.lst(h:vX X.K H a c)(p:Paired (FF X H) c d):FF X H (.ref a) (.list d):=λb m s u I r=>by
 cases r;refine e1a3 (I.list h) λe f g _=>?_;obtain⟨q,i⟩:=FG I f p;obtain⟨o,j,k,n,l⟩:=g.isList;exact#[_,Reads.list j k l<|by simpa using i]
def YG(X:Cx)(a:Bool):R2:=λx y H Q=>∃d e,FF X H x d/\FF X H y e/\sh d=true/\sh e=true/\o8 d e=true/\Q (.bl<|if a then !PySem.Spec.same d e else kN d e) H
def Wu(c:X.A.units+64<ky):AH X (jr .Eq) (YG X false):=by intro a s b H x y v u Q I f g h;obtain⟨d,e,i,j,k,l,m,q⟩:=h;obtain⟨p,n⟩:=i a b s v I f;obtain⟨r,o⟩:=j a b s u I g;exact eq_dataH_same n o k l c m #[.bl _,H,I,rfl,q]
def Pb(c:X.A.units+64<ky):AH X (jr .NotEq) (YG X true):=by intro a s b H x y v u Q I f g h;obtain⟨d,e,i,j,k,l,m,q⟩:=h;obtain⟨p,n⟩:=i a b s v I f;obtain⟨r,o⟩:=j a b s u I g;exact ne_dataH_same n o k l c m #[.bl _,H,I,rfl,q]
def Ir:yu X (.builtin "isinstance") (λa H Q=>∃(x:V)(T:String)(t:ci)(b:Bool),a=[x,.ty T]/\za X.K H x t/\qI X.K t (.type T)=↑b/\Q (.bl b) H):=by intro c s j H a k Q I r h;obtain⟨x,T,t,b,rfl,d,e,q⟩:=h;obtain⟨u,v,rfl,f,g⟩:=vals2 r;cases g;exact M4 I f d e λi=>#[.bl b,H,I.tok i,rfl,q]
def YH:V->V->Hp->VK->Prop:=λo i H Q=>∃(p:gH)(a:List V)(k:Int)(v:V),o=.ref p/\i=.int k/\H p=↑(.lst a)/\0<=k/\a[k.toNat]?=↑v/\Q v H
def Pc:Ya X YH:=by intro a s w H o i x y Q I c d h;obtain⟨p,z,k,v,rfl,rfl,e,f,b,q⟩:=h;cases c;obtain⟨t,rfl⟩:=d;refine e1a3 (I.list<|vX.of (K:=X.K) e) λg r j A=>?_;refine e1a2 (r.get b) λu l m=>?_;have B:=DI;have n:=(List.getElem?_eq_some_iff.mp b).1;exact wpAny_getItem_list j.isList f q0a (by simpa using l) #[v,H,I,m,q]
noncomputable abbrev ES(X:Cx)(a:lV)(d:List (Str×gH))(e:List Str)(b:gO)(c:Hp)(C:gH)(f:List gH)(g:List (gH×Obj)):Cx :=
 { X with N:=e,s₀:=b,H₀:=c,env:=sY a d C X.env,outer:=X.stack,stack:=X.stack,ex:=f,fn:=λ_=>false,pn:=g,xe:=λ_ _=>False}
structure yF(X:Cx)(scope:lV)(cl:List (Str×gH))(T Fr:List Str)(idx:List Nat):Prop where
 kind:scope.kind=.function
 YI:om scope X.env=pure cl
 A8:∀y∈scope.names,y.2≠.cell
 names:∀y∈scope.names,y.2=.local->scope.names.lookup y.1=some .local
 sub:∀x c,cl.lookup x=↑c->X.env.cells.lookup x=↑c
 frl:∀y∈scope.names,y.2=.free->∃c,cl.lookup y.1=↑c
 fr:∀(j:Nat)(x:Str),Fr[j]?=↑x->∃i c,idx[j]?=↑i/\X.N[i]?=↑x/\(X.env.kindOf x=some .cell\/X.env.kindOf x=some .free)/\cl.lookup x=↑c/\((oJ scope X.env).names.lookup x=some .cell\/(oJ scope X.env).names.lookup x=some .free)
 len:idx.length=Fr.length
noncomputable def wZ(T:List Str)(a:List Nat)(b:St):St:=T.map (λ_=>none)++a.map λi=>b[i]?.join
def lookup_mem{β:Type}:∀{l:List (Str×β)} {x:Str} {v:β},l.lookup x=↑v->(x,v)∈l:=by
 intro l
 induction l with
 |nil=>intro _ _ h;cases h
 |cons p r ih =>
  intro x v h;obtain⟨y,z⟩:=p;rw[iz]at h
  cases q:x==y with
  |true =>
   rw[q]at h;cases h;rw[eq_of_beq q];exact gM
  |false =>
   rw[q]at h;exact gQ _<|ih h
def yF.has{l:List Str}(B:yF X a m T l idx)(h:(oJ a X.env).names.lookup x=some .cell\/(oJ a X.env).names.lookup x=some .free):∃c,m.lookup x=↑c:=by
 have d:∃k,(x,k)∈(oJ a X.env).names/\(k=.cell\/k=.free):=by
  rcases h with h|h
  ·exact#[_,lookup_mem h,.inl rfl]
  ·exact#[_,lookup_mem h,.inr rfl]
 obtain⟨k,d,o⟩:=d;obtain⟨⟨n,f⟩,i,e⟩:=List.mem_map.mp d;dsimp only at e
 have:n=x/\f=.free:=by
  by_cases b:(f==NameKind.free&&X.env.scope.kind==ScopeKind.function&&X.env.kindOf n==↑NameKind.cell)=true
  ·rw[gI b]at e;have g:n=x:=congrArg Prod.fst e;simp only[iw,beq_iff_eq]at b;exact#[g,b.1.1]
  ·rw[cr b]at e;have g:n=x:=congrArg Prod.fst e;have j:f=k:=congrArg Prod.snd e;rcases o with q|q
   ·exact g8 (j.trans q)<|B.A8 _ i
   ·exact#[g,j.trans q]
 obtain⟨rfl,rfl⟩:=this;exact B.frl _ i rfl
def xD.Vk(x:xD P w H h)(f:H a=none)(d:vO P w (upd H a o) h a o):xD P w (upd H a o) h:=λb u e=>by
 by_cases g:b=a
 ·subst g;rw[uO]at e;cases e;exact d
 ·rw[uL g]at e;exact(x b u e).C0 (λ_ _ _ q=>q) (λc q=>by rw[uL<|uU q f];exact q) λc i q=>by rw[uL<|uU q f];exact q
section
variable{X:Cx}{elt iter tg:iD}{scope:lV}{cl:List (Str×gH)}{T Fr:List Str}{idx:List Nat}{wi:TI}{g:TG}{tt:TT}{te:TE}{pos:Pos}{ifs:List iD}
def Wv(X:Cx)(ifs:List iD)(tt:TT):Prop:=∀(a:List (gH×Obj)) (s:gO) (b:St) (H:Hp) (Q:Bool->Hp->Prop),Inv X a b H s->tt b H Q ->
 gS 19 X.A (forIn ifs true λc r=>if r=true then do let ok <- qF c X.env (eval c X.env);pure (mF ok) else pure (mF r)) (TP X a b Q) X.xe s
def SS:Wv X [] (λ_ H Q=>Q true H):=λ_ _ _ H _ I h=>si #[H,I,h]
def SU(h:PT X c b):Wv X [c] b:=λa s d H Q I q=>wpAny_tests_one<|h a s d H Q I q
def Pd(u:Nat->gO->Prop)
 (y:∀n s,u n s->gS (gU a w) A (pyNext H) (λr b=>match r with
 |none=>R (.ok .next) b
 |some v=>gS (gU a w) A (sf target H v) (λ_ f=>gS (gU a w) A (sH target e v) (λ_ i =>
 gS (gU a w) A (forIn ifs true λc r=>if r=true then do let z <- qF c e (eval c e);pure (mF z) else pure (mF r)) (λz d =>
 if z=true then gS (gU a w) A (eval elt e) (λx j=>gS (gU a w) A (call (.builtin "list.append") [G,x]) (λ_ k=>∃m,m<n/\u m k) (λ_ _=>False) j) (λ_ _=>False) d
 else ∃m,m<n/\u m d) (λ_ _=>False) i) (λ_ _=>False) f) (λ_ _=>False) b) (λ_ _=>False) s)
 (n:Nat) (h:u n s):mq (gU a w) A (.compLoop (.ListComp elt [#[target,iter,ifs,0]] scope pos) 0 H G e) R s:=by
  refine codeAny_loop rfl u (λn s J=>?_) n h
  refine wpAny_noted ?_
  rw[compTurn_list]
  have l:∀{I:Type} {t:Sem I} {Q:I->gO->Prop} {E:ci->gO->Prop} {s:gO},gS (gU a w) A t Q (λ_ _=>False) s->gS (gU a w) A t Q E s:=λh=>iY h (λ_ _ q=>q) λ_ _ q=>q.elim
  refine am<|m7<|am<|l<|vB (y n s J) λr b o=>?_
  cases r with
  |none=>exact l<|ap o
  |some v =>
    refine am<|l<|vB o λ_ f B=>am<|l<|vB B λ_ i C=>am<|l<|vB C λz d p=>?_
    cases z with
    |false=>exact l<|ap #[rfl,p]
    |true=>exact am<|am<|l<|vB p λx j D=>am<|l<|vB D λ_ k F=>ap<|ap #[rfl,F]
end
structure Ww(X:Cx)(c P:gH):Prop where
 code:X.env.code=.ref c
 hd:qM X.base c P
 blt:∃bm ob,X.mg "__builtins__"=↑(.ref bm)/\bm≠oi/\X.base.get? bm=↑ob/\ob.cls=.type "module"/\ob.dict=↑oi/\ob.data=.plain
def TabAt(H:Hp)(P:gH):Prop:=∃a,H P=↑(.EQ a)/\uc a.toList
def Bx{a b:Int}:∀(l:List ci),uc l->uc (l++[.int a 0,.int b 0,c])
 | [],_=>trivial
 | .int _ _::.int _ _::_::r,h=>Bx r h
noncomputable def zf(a b:List Int):Bool:=(a.zip b).all λp=>decide<|p.1<p.2
def SV(a b:List Int):(hW<|min a.length b.length).all (λj=>decide<|a.getD j 0<b.getD j 0)=zf a b:=by
 unfold zf;rw[lY,oy,oy];constructor
 ·intro h p f;obtain⟨j,c⟩:=lx f;obtain⟨d,e⟩:=List.getElem?_zip_eq_some.mp c;have l:=(List.getElem?_eq_some_iff.mp d).1;have m:=(List.getElem?_eq_some_iff.mp e).1;have:=h j<|List.mem_range.mpr q0a;rw[jh,jh,d,e]at this;exact this
 ·intro h j c;have c:=List.mem_range.mp c;have g:a[j]?=↑(a.getD j 0):=by rw[jh,jo q0a];rfl
  have i:b[j]?=↑(b.getD j 0):=by rw[jh,jo q0a];rfl
  have k:(a.zip b)[j]?=↑(a.getD j 0,b.getD j 0):=List.getElem?_zip_eq_some.mpr #[g,i];exact h _<|jD k
def J1(S:Hp->gH->List V->Prop)(P:gH)(g:TA):TE:=λh H Q=>g h H λi c=>∃(a b:gH)(e f:List Int),i=[.ref a,.ref b]/\S c a (e.map V.int)/\S c b (f.map V.int)/\TabAt c P /\
 ∀d,(∀b o,b≠P->c b=↑o->d b=↑o)->(∀b,b≠P->c b=none->d b=none)->TabAt d P->Q (.bl<|zf e f) d
abbrev YJ(K:gG)(P:gH)(a:TA):TE:=J1 (vX K) P a
abbrev Wx(K:gG)(P:gH)(a:TA):TE:=J1 (yI K) P a
structure Pe(X:Cx)(S:Hp->gH->List V->Prop)(P:gH):Prop where
 go:∀{pins:List (gH×Obj)} {σ:St} {H1:Hp} {s1:gO} {a b:gH} {us vs:List V} {ps:Array ci},Inv X pins σ H1 s1->X.A.handled=none->S H1 a us->S H1 b vs->H1 P=↑(.EQ ps) ->
  ∃ia ib:List ci,Vals us ia/\Vals vs ib/\a<⇑s1/\b<⇑s1/\a≠P/\b≠P/\∀(Q:ci->gO->Prop)(E:ci->gO->Prop),
   (∀h2 St Mid,(∀A':jq,A'.handled=none->WalksU X.prog X.w A' (⇑s1+4) [⇑s1+4,⇑s1+2,⇑s1+3,⇑s1,⇑s1+1,a,b] [⇑s1+4,⇑s1+3,⇑s1,⇑s1+1] (min ia.toArray.size ib.toArray.size) (λi vals=>∃x y,ia.toArray[i]?=↑x/\ib.toArray[i]?=↑y/\vals=#v[x,y]) St Mid) ->
    St 0 h2->h2.objs.size=⇑s1+5->(∀c o,s1.heap.get? c=↑o->h2.get? c=↑o)->Q (.ref (⇑s1+4)) { s1 with heap:=h2})->gS 19 X.A (call (.type "zip") [.ref a,.ref b]) Q E s1
def Inv.tabled{s':gO}(I:Inv X d l H s)(h:H P=↑(.EQ j))(m:s'.os=s.os)(p:m6 s'.gens)
 (k:∀b o,b≠P->s.heap.get? b=↑o->s'.heap.get? b=↑o)(e:s'.heap.get? P=some { cls:=.none,data:=.fields (j++more)}):Inv X d l (upd H P<|.EQ<|j++more) s':=by
  have i:∀b,H b=none->b≠P:=λb n z=>by rw[z,h]at n;cases n
  have g:∀b u,H b=↑u->(∀q,u≠.EQ q)->b≠P:=λb u n f z=>by rw[z,h]at n;cases n;exact f _ rfl
  refine I.U1 (ch:=[]) m #[λb o q n _ _=>k b o (i b n) q,λb o q n _ _=>#[o.slots,k b o (i b n) q],λb o q n _=>by rw[uL<|i b n];exact n,λb o q _=>?_,λb r q=>by rw[uL<|g b _ q<|λ_ z=>nomatch z];exact q,λb o u q=>by rw[uL<|g b _ q<|λ_ z=>nomatch z];exact q,λb w q=>?_] (λb u q=>?_) p λb a=>by cases a
  · by_cases a : b = P
    · rw[a]; exact#[_, e]
    · exact#[o, k b o a q]
  · by_cases a : b = P
    · subst a
      rw[h]at q
      cases q
      exact#[more,uO]
    · exact#[#v[], by rw[uL a, q]; simp]
  · by_cases a : b = P
    · subst a
      rw[uO]at q
      cases q
      exact e
    · rw[uL a]at q
      refine(I.vD b u q).C0 (λc v t z=>k c v ?_ z) (λc z=>by rw[uL<|g c _ z<|λ_ y=>nomatch y];exact z) λc r z=>by rw[uL<|g c _ z<|λ_ y=>nomatch y];exact z
      rcases t with y|y
      · rw[y]; exact a
      · exact g c _ y<|λ_ x => nomatch x
def Pf{s:gO}{a:Env}{i j:Int}(d:a.scope.kind=.function)(g:a.kindOf b=some .local)(k:a.kindOf c=some .local)(e:s.heap.Ns a.locals m)
 (l:m b=↑(.int i t))(n:m c=↑(.int j u))(o:(b==55)=false)(p:(c==55)=false)(h:Q (.bool<|decide<|i<j) s):gS (gU f w) A (eval (.Compare (.Name b q) [.Lt] [.Name c r] v) a) Q E s:=by
  refine sG (pA (kF d g e l<|pA (kF d k e n<|lt_int h) p) o)<|vI _
def Iu(Z:Pe X S P)(aC:X.calm=true)(G:Ww X c P)(ae:X.A.depth<sJ)(aD:Gl X "all")(aj:X.mg "all"=none)(aE:Gl X "zip")(aF:X.mg "zip"=none)(af:PA X [e1,e2] ta)
 (hk:n.kind=.function) (aG:n.isCoroutine=false) (ag:om n X.env=pure []) (ah:∀y∈n.names,y.2≠.cell) (h0:n.names.lookup (".0":Str)=↑NameKind.local) (ao:n.names.lookup xa=some .local) (aq:n.names.lookup xb=some .local) (aH:xa≠xb)
 (da:(xa==55)=false) (db:(xb==55)=false)
 (aI:gJ [e1,e2] X.env=(false,eval e1 X.env)::gJ [e2] X.env:=by rfl) (aJ:(jg p3<|gJ [e2] X.env).any (·.1)=false:=by rfl) :
    PE X (.Call (.Name "all" p1) [.GeneratorExp (.Compare (.Name xa q1) [.Lt] [.Name xb q2] q3) [#[.Tuple [.Name xa pa,.Name xb pb] kt pt,.Call (.Name "zip" p2) [e1,e2] [] p3,[],0]] n E] [] p4) (J1 S P ta):=by
  intro p s σ H Q I h
  have hh:X.A.handled=none:=I.ok.hd aC
  refine kA<|yZ I aD aj boot_all<|pq ?_ rfl rfl
  refine jO<|wpAny_GeneratorExp_walksQTD hh aG ag ah h0 ao aq aH hk ae (kA<|yZ I aE aF boot_zip<|jQ (vB (af p3 p s σ H _ I h) λus m z9=>e2a3 z9 λvs H1 I1 r1 q1=>?_) aI aJ)<|λ_=>rfl
  obtain⟨a,b,ns,ms,rfl,ha,f,⟨U,hP,tr⟩,q⟩:=q1
  obtain⟨ua,ub,rfl,ra,rb⟩:=vals2 r1
  cases ra
  cases rb
  obtain⟨ia,ib,va,vb,aK,aL,aP,bP,aM⟩:=Z.go I1 hh ha f hP
  have B:m.heap.get? P=↑(qN U):=I1.vD P _ hP
  have ar:P<⇑m:=gP B
  refine aM _ _ λh2 St au W av aN k2=>?_
  refine(W X.A hh).self 0 { m with heap:=h2} _ _ av ?_
  have I2:Inv X p σ H1 { m with heap:=h2}:=I1.kept (t':=m.toks) k2
  refine#[I2.nolimit,?_]
  have aw:qM h2 c P:=G.hd.keeps λb o e=>I2.bk b o e
  have ax:=aw.code (k2 P _ B) tr
  have aO:=aw.tab<|k2 P _ B
  obtain⟨bm,ob,b1,b2,b3,b4,b5,b6⟩:=G.blt
  -- an the J: the tZ is U++l,all else is kept
  have Y:∀(J:ci)(D:iG)(R:Nat)(l:Array ci),(∀b o,b≠P->h2.get? b=↑o->D.get? b=↑o)->h2.objs.size<=D.objs.size->D.get? P=some { cls:=.none,data:=.fields (U++l)}->uc (U++l).toList ->
      gS 19 X.A (builtinsFor X.env.globals X.env.builtins) (λbi d=>∃I fp wr r Pt L au pz F,hO (⇑m+4)=.ref I/\(∀A':jq,A'.handled=none->WalksU X.prog X.w A' I fp wr r Pt L au)/\(∀i M,Pt i M->∃va vb,M=#v[va,vb])/\L 0 d.heap/\(∀b∈fp,b<⇑d)/\d.heap.NoLimit/\rc∉wr /\
          (∀N:iG,(∀b o,d.heap.get? b=↑o->N.get? b=↑o) ->
            QuietGenTD X.prog X.w (genEnv n [] ⇑d J bi X.env) xa xb [] (.Compare (.Name xa q1) [.Lt] [.Name xb q2] q3) (hW ⇑d) wr Pt pz F N (X.A.depth+1) (X.A.units+8)) /\
          (∀a C R gs,gs.bare=true->⇑d<a->C.objs.size=a+1->(∀b o,d.heap.get? b=↑o->C.get? b=↑o) ->
            WalksS X.prog X.w X.A.in4 a (a::⇑d::hW ⇑d) (⇑d::wr) (GenOnlyQ d.gens.size) (passing pz r 0).length
              (λj y=>∃i,(passing pz r 0)[j]?=↑i/\F i y) (GenAt X.prog X.w X.A.in4 a d.gens.size ⇑d (hW ⇑d) wr pz r F) ->
            GenAt X.prog X.w X.A.in4 a d.gens.size ⇑d (hW ⇑d) wr pz r F 0 { d with gens:=d.gens.push gs,toks:=R,heap:=C} ->
            gS 19 X.A (uk []) (λus ak=>gS 19 X.A (call (.builtin "all") (.ref a::us)) (EP X p σ Q) X.xe ak) X.xe { d with gens:=d.gens.push gs,toks:=R,heap:=C})) X.xe { m with heap:=D,toks:=R}:=by
    intro J D R l k3 aQ e3 aR
    have I3:Inv X p σ (upd H1 P<|.EQ<|U++l) { m with heap:=D,toks:=R}:=Inv.tabled (s:={ m with heap:=h2}) (s':={ m with heap:=D,toks:=R}) I2 hP rfl I2.bare k3 e3
    have ay:=I3.bk
    refine wpAny_builtinsFor (by rw[I3.ok.glob];exact I3.mod.glob.keeps ay) b1 b2 (ay _ _ b3) b4 b5 b6 ?_
    have nz:∀k,⇑m+k≠P:=λk=>je<|hR ar<|oB _ _
    have aS:rc<⇑m:=by obtain⟨mc,hn,_⟩:=I1.nolimit;exact hn.lt
    have aa:=va.length
    have ab:=vb.length
    rw[gN]at aa ab
    have aT:∀(i:Nat)(x:ci),ia.toArray[i]?=↑x->∃t,x=.int (ns.getD i 0) t:=λi x hx=>qK (As va) i x (by simpa using hx)
    have aU:∀(i:Nat)(x:ci),ib.toArray[i]?=↑x->∃t,x=.int (ms.getD i 0) t:=λi x hx=>qK (As vb) i x (by simpa using hx)
    have u:∀k,k<5->⇑m+k<D.objs.size:=λk hk=>hR (Nat.add_lt_add_left hk _)<|iV (qp aN.symm) aQ
    refine#[_,_,_,_,_,_,_,(λ_=>true),(λi y=>y=.bool (decide<|ns.getD i 0<ms.getD i 0)),rfl,W,λi M z9=>e2a3 z9 λx y _ _ e=>#[x,y,e],(W X.A hh).frame _ _ _ av λb f o e=>k3 b o ?_ e,λb f=>?_,I3.nolimit,?_,λN a1=>?_,λg h5 aV gs gb g1 g2 k5 WS GA=>?_]
    · simp only[ii, jb, lX]at f
      rcases f with z|z|z|z|z|z|z<;>rw[z]
      · exact nz 4
      · exact nz 2
      · exact nz 3
      · exact nz 0
      · exact nz 1
      · exact aP
      · exact bP
    · simp only[ii, jb, lX]at f
      rcases f with z|z|z|z|z|z|z<;>rw[z]
      · exact u 4 q0q
      · exact u 2 q0q
      · exact u 3 q0q
      · exact u 0 q0q
      · exact u 1 q0q
      · exact nc aK<|u 0 q0q
      · exact nc aL<|u 0 q0q
    · intro f
      simp only[ii,jb,lX]at f
      have T:∀k,rc≠⇑m+k:=λk=>gZ<|hR aS<|oB _ _
      rcases f with z|z|z|z
      · exact T 4 z
      · exact T 3 z
      · exact T 0 z
      · exact T 1 z
    · refine#[λA' E' i az aA s2 m2 _ _ _ _ _ _ _ _ => si #[rfl, s2.heap, s2.toks, rfl, λ_ _ e => e], λA' E' i az aA s2 m2 hA _ _ aW _ hn aj aX _ => ?_]
      obtain⟨x,y,hx,hy,e⟩:=aW
      obtain⟨ex,ey⟩:az=x/\aA=y:=by simpa using congrArg sd e
      subst ex ey
      obtain⟨t1,rfl⟩:=aT i _ hx
      obtain⟨t2,rfl⟩:=aU i _ hy
      exact Pf hk ao aq hn aj aX da db #[rfl,s2.heap,s2.toks,rfl,λ_ _ e=>e]
    · have ai : passing (λ_ => true) (min ia.toArray.size ib.toArray.size) 0 = hW (min ia.toArray.size ib.toArray.size) := by
        unfold passing
        simp
      rw[ai]at WS
      have W1:=WS.in4_1
      refine kY<|call_all_walkS<|W1.self 0 _ _ _ GA ⟨g,_,_,_,_,_,_,(λj=>decide<|ns.getD j 0<ms.getD j 0),rfl,W1,GA,λj v s7 Q' E' hv hq=>?_,λs7 mv=>?_⟩
      · obtain⟨i, hi, rfl⟩ := hv
        have:i=j:=by
          obtain⟨hl,he⟩:=List.getElem?_eq_some_iff.mp hi
          rw[List.getElem_range]at he
          exact he.symm
        subst this
        exact jZ hq
      · have k7 : ∀b o, b<D.objs.size -> (∀k, b ≠ ⇑m+k) -> D.get? b = some o -> s7.heap.get? b = some o := λb o f hn e => mv.heap b o (by
          simp only[ii,jb,lX,pY]
          exact#[gZ f,hn 4,hn 3,hn 0,hn 1]) (k5 b o e)
        have O:∀b,b<⇑m->∀k,b≠⇑m+k:=λb f k=>gZ<|hR f<|oB _ _
        have e7:s7.heap.get? P=some { cls:=.none,data:=.fields (U++l)}:=k7 P _ (gP e3) (O P ar) e3
        have I7:Inv X p σ (upd H1 P<|.EQ<|U++l) s7:=Inv.tabled I1 hP mv.os (AllBare.movedS (s:={ m with heap:=h5,gens:=m.gens.push gs,toks:=aV}) (I1.bare.push gb) mv) (λb o f e=>k7 b o (gP<|k3 b o f<|k2 b o e) (O b<|gP e)<|k3 b o f<|k2 b o e) e7
        refine#[.bl _,_,I7,rfl,?_]
        have al:(hW (hW<|min ia.toArray.size ib.toArray.size).length).all (λj=>decide<|ns.getD j 0<ms.getD j 0)=zf ns ms:=by
          rw[lm,gX,gX,<- aa,<- ab]
          exact SV ns ms
        rw[al]
        exact q _ (λb o f e=>by rw[uL f];exact e) (λb f e=>by rw[uL f];exact e) #[_,uO,aR]
  cases aB:codeAmong E U.toList with
  |none =>
    refine wpAny_genexprCodeX G.code ax aO aB λc' D R hx aY aZ _ _ a0 _=>?_
    refine Y (.ref c') D R #v[lF E.line,lF E.col,.ref c'] (λb o f e=>hx b o f e) (iV aY<|lM aZ) a0.2 ?_
    rw[pF]
    exact Bx _ tr
  |some cv =>
    refine wpAny_genexprCode_hit G.code ax aB ?_
    have:=Y cv h2 m.toks #v[] (λb o _ e=>e) (gK _) (by simpa using k2 P _ B) (by simpa using tr)
    exact this
def a0R:Pe X (vX X.K) P:=#[λ{v M H1 j a b N O A} m R B C D=>by
 refine e1a3 (m.list B) λx F d S=>?_;refine e1a3 (m.list C) λy G f T=>?_;have i:j.heap.get? P=↑(qN A):=m.vD P _ D
 have h:∀(l:gH)(g:Array ci),j.heap.IsList l g->l≠P:=λl g n=>e1a3 n λo e c _ z=>by rw[z,i]at e;cases e;cases c
 have k:∀(l:gH)(g:Array ci),j.heap.IsList l g->l<⇑j:=λl g n=>e1a2 n λo e _=>gP e;refine#[x,y,F,G,k _ _ d.isList,k _ _ f.isList,h _ _ d.isList,h _ _ f.isList,λQ E H=>call_zip_2 d.isList f.isList λI J p q r s t u=>?_]
 exact H I _ _ (λU L=>(WalksT.zip2 (prog:=X.prog) (w:=X.w) L _ _ _ _ _ _ _ (zipApart_new (k _ _ d.isList) (k _ _ f.isList)) x.toArray y.toArray).toU) #[J,p,#[_,_,q],r,s,d.isList.at λo e=>u _ o e,f.isList.at λo e=>u _ o e] t u]
def Nt{K:gG}{k:Nat}{f:gO}{C:List ci} 
 (KX:K.In f.heap) (I:f.heap.Ns g9 U) (hb:f.heap.Ns oi mb) (ab:∀x:Str,x≠"__name__"->mb x=mH x) (J:f.heap.NoLimit) (hg:f.gens=#v[])
 (D:f.heap.get? a=some { cls:=.type "list",data:=.seq C.toArray}) (hi:kS C X) (hl:X.length<=gL) (hr:v4 k qY)
 (hT:f.heap.TableAt c tab #v[]) (ae:K.lookup tab=none)
 (F:∀base:iG,K.In base->base.Ns g9 U->(∀b o,f.heap.get? b=↑o->o.cls≠.type "list"->o.cls≠.none->base.get? b=↑o)->vt P w K U base CX k fa fd [x] sp) (E:∀(s:gO)(u:ci),sw s fd #[[u],[]] [(x,u)])
 (af:∀H:Hp,vX K H a (X.map V.int)->H tab=↑(.EQ #v[])->sp [.ref a] H (λv _=>v=.bl true) λ_ _ _=>False)
 (ag:∀H e j,CX [] H f (λ_ _ _=>False) e j->False) :
    mq (gU P w) qY (.call (.ref fa) #[[.ref a],[]]) (λr j=>r=.ok (.ret<|.bool true)/\OldK f.heap j.heap/\j.os=f.os/\m6 j.gens) f:=by
  have rv:=FA hi
  have L:=hi.length
  have l:f.heap.get? tab=some { cls:=.none,data:=.fields #v[]}:=hT.2
  have nat:a≠tab:=λz=>by rw[z,l]at D;cases D
  -- from an abstract ah in aa nothing ai the Y and the tZ aj be M
  have core:∀H:Hp,(∀b,H b=none\/(b=a/\∃o xs,H b=↑(.Ju o<|.lst xs))\/(b=tab/\H b=↑(.EQ #v[])))->vX K H a (X.map V.int)->H tab=↑(.EQ #v[])->xD P w H f.heap->(H a≠none->K.lookup a=none) ->
      mq (gU P w) qY (.call (.ref fa) #[[.ref a],[]]) (λr j=>r=.ok (.ret<|.bool true)/\OldK f.heap j.heap/\j.os=f.os/\m6 j.gens) f:=by
    intro H Z hS N O hK
    have freeOf:∀{b:gH} {o:Obj},f.heap.get? b=↑o->o.cls≠.type "list"->o.cls≠.none->H b=none:=λ{b o} e c1 c2=>by
      rcases Z b with z|⟨z,_⟩|⟨z,_⟩
      · exact z
      · rw[z, D]at e; cases e; exact g8 rfl c1
      · rw[z, l]at e; cases e; exact g8 rfl c2
    have y:∀{b:gH} {m:Str->Option ci},f.heap.Ns b m->(HQ f.heap H).Ns b m:=λ{b m} z9=>e3a3 z9 λo es ep e d r=>by
      refine#[o,es,ep,DD e ?_,d,r]
      rcases Z b with z|⟨z,_⟩|⟨z,_⟩
      · exact z
      · rw[z, D]at e; cases e; have d' : Data.seq C.toArray _ = Data.dict es ep := d; cases d'
      · rw[z, l]at e; cases e; have d' : ts #v[] = Data.dict es ep := d; cases d'
    have Q:K.In (HQ f.heap H):=λb o e=>DD (KX b o e) (by
      rcases Z b with z|⟨z,_,_,z2⟩|⟨z,_⟩
      · exact z
      · rw[z]at e z2; rw[hK<|by rw[z2]; simp]at e; cases e
      · rw[z, ae]at e; cases e)
    have hM:Mod K U (HQ f.heap H):=#[Q,y I,#[mb,y hb,ab],e1a2 J λmc h1 h2=> #[mc,y h1,h2]]
    have e0:Ia P w K U (HQ f.heap H) qY [] f H:=#[rfl,hM,λb o e=>R7 e,qp<|MS _ _,trivial,λb hb=>g8 (show b∈([]:List gH) from hb) q0o,O,.of_eq hg]
    refine jL ((F _ Q (y I) λb o e c1 c2=>DD e<|freeOf e c1 c2).run qY [] f H ⟨[.ref a],[]⟩ [.ref a] [.ref a] _ _ hr e0 (E f<|.ref a) (.cons rfl .nil)<|af H hS N) λr j h=>?_
    cases r with
    |error e=>exact(ag H e j h).elim
    |ok fl =>
      cases fl with
      |next=>exact io h
      |brk=>exact io h
      |cont=>exact io h
      |ret u =>
        obtain⟨v,H',os,R,un,B,r',q⟩:=h
        have q':v=.bl true:=q
        subst q'
        obtain rfl:u=qV true:=r'
        have G:∀b o,f.heap.get? b=↑o->H b=none->j.heap.get? b=↑o:=λb o e n=>un.keep b o e n (by intro z;exact g8 (show b∈([]:List gH) from z) q0o) q0o
        obtain⟨more,hm⟩:=un.AW tab _ N
        have S:j.heap.get? tab=some { cls:=.none,data:=.fields (#v[]++more)}:=B tab _ hm
        have p:∀b o,f.heap.get? b=↑o->b≠tab->j.heap.get? b=↑o:=λb o e n=>by
          rcases Z b with z|⟨_,ob,xs,z⟩|⟨z,_⟩
          · exact G b o e z
          · have z2 := un.AV b ob _ z
            obtain⟨e1,_⟩:=O b _ z
            obtain⟨e2,_⟩:=B b _ z2
            rw[e]at e1;cases e1
            exact e2
          · exact g8 z n
        refine#[rfl,#[λb o e=>?_,λb o e=>?_],os,R]
        · by_cases t : b = tab
          · subst t
            rw[l]at e
            cases e
            exact .inr<|.inl #[hT.isCodeTable,rfl,#v[],more,rfl,S]
          · exact .inl<|p b o e t
        · by_cases t : b = tab
          · rw[t]; exact#[_, S]
          · exact#[o, p b o e t]
  have T:∀H:Hp,vO P w H f.heap tab (.EQ #v[]):=λH=>l
  cases hk:K.lookup a with
  |some o =>
    have e:=KX a o hk
    rw[D]at e
    cases e
    refine core (λb=>if b=tab then some (.EQ #v[]) else none) (λb=>?_) (.inr #[_,C.toArray,_,hk,rfl,rfl,rfl,by rw[gX,L];exact hl,by simpa using rv]) (gI rfl) (λb u z=>?_) λz=>g8 (cr nat) z
    · by_cases g : b = tab
      · exact .inr<|.inr #[g, gI g]
      · exact .inl<|cr g
    · by_cases g : b = tab
      · have A := (gI g).symm.trans z
        cases A
        rw[g]
        exact T _
      · have A := (cr g).symm.trans z
        cases A
  |none =>
    refine core (λb=>if b=tab then some (.EQ #v[]) else if b=a then some (.Ju { cls:=.type "list",data:=.seq C.toArray} (.lst<|X.map V.int)) else none) (λb=>?_) (.inl<|.inr ⟨{ cls:=.type "list",data:=.seq C.toArray},(cr nat).trans<|gI rfl⟩) (gI rfl) (λb u z=>?_) λ_=>hk
    · by_cases g : b = tab
      · exact .inr<|.inr #[g, gI g]
      · by_cases i : b = a
        · exact .inr<|.inl #[i, _, _, (cr g).trans<|gI i]
        · exact .inl<|(cr g).trans<|cr i
    · by_cases g : b = tab
      · have A := (gI g).symm.trans z
        cases A
        rw[g]
        exact T _
      · by_cases i : b = a
        · have A := ((cr g).trans<|gI i).symm.trans z
          cases A
          subst i
          exact#[D,by rw[gN];exact hl,C,_,rv,D]
        · have A := ((cr g).trans<|cr i).symm.trans z
          cases A
structure Iv(mg:Str->Option ci)(base:iG)(c tab:gH):Prop where
 hd:qM base c tab
 blt:∃bm ob,mg "__builtins__"=↑(.ref bm)/\bm≠oi/\base.get? bm=↑ob/\ob.cls=.type "module"/\ob.dict=↑oi/\ob.data=.plain
def Pg{l:qu}{n k:Nat}{p:List Str}{XP:(Str->Option ci)->iG->Prop}{YP:iL->iG->Prop}{d:DefRec}{K:Params->gG}{sp:iL->gG->gH->Sp} 
 (hn:l.most=↑n) (L:n<=gL) (M:d.params.defaults=[]) (hr:v4 k qY)
 (hY:∀(w:iL)(h:iG),YP w h->(K w.params).In h) (z:(recsOf q).find? (λe=>e.name==tx)=↑dx)
 (F:∀(w:iL)(r:Str->Option ci)(I:gH)(h:iG),(K w.params).In h->h.Ns g9 r->r d.name=↑(.ref I) ->
 ∃(c j:gH)(N:iB),nN (K w.params) tx=↑(c,j)/\(K w.params).lookup j=none/\(∀(s:gO)(u:ci),sw s N #[[u],[]] [(x,u)]) /\
 ∀i:iG,(K w.params).In i->i.Ns g9 r->Iv r i c j->vt l.prog w (K w.params) r i CX k I N [x] (sp w (K w.params) j))
 (O:∀(w:iL)(K:gG)(H:Hp)(a j:gH)(J:List Int),J.length<=n->vX K H a (J.map V.int)->H j=↑(.EQ #v[])->sp w K j [.ref a] H (λv _=>v=.bl true) λ_ _ _=>False)
 (P:∀(H:Hp)(s:gO)(e:ci)(Q:gO),CX [] H s (λ_ _ _=>False) e Q->False) :
    uE q p XP YP l.row.toRowW d [] (λf vs=>tO f vs):=by
  refine Att.Ik hn M λw ab A r mb I o pm cd ae a vs J G Y ho hd af R B t m hg=>?_
  have S:=hY w _ Y
  obtain⟨c,j,N,ht,U,hb,hF⟩:=F w r I _ S G.T.g R
  obtain⟨C,hP⟩:=PySem.W.tab_of G.T S z ht
  obtain⟨bm,ob,b1,b2,b3,X,b5,b6⟩:=G.T.bmain
  refine Nt S G.T.g G.T.b G.T.builtins G.T.nolimit hg B t (iV m L) hr (C.tab hP) U (λi kb nb bk=>hF i kb nb #[?_,bm,ob,b1,b2,bk _ _ b3 (by rw[X];simp) (by rw[X];simp),X,b5,b6]) hb (λH hS hH=>O w _ H a j J m hS hH) λH e Q=>P H A e Q
  obtain⟨o,Z,D,tf,y,tg,aa,E,tt,e1,r1,r2⟩:=C
  exact#[o,Z,D,tf,y,tg,aa,E,tt,bk _ _ e1 (by rw[r1];simp) (by rw[r1];simp),r1,r2]
end L2
namespace SX
open PySem PyProof.Rows
def a0S{k:Int}(S:vK w a c s.heap)(h:Q (.bool<|decide<|k∈c) 91):gS (gU b w) A (jr .In (.int k u)<|.ref a) Q E s :=
 wpAny_inSet_of (knd:=kf b w) (k:=k) (pG _ _ _ _) rfl S.of h
def Wy{k:Int}(S:vK w a d s.heap)(room:d.length+1<=127)
 (h:∀c b e,iT a s.heap c->vK w a b c->b.Perm (if k∈d then d else k::d)->Q .none { s with heap:=c,toks:=e}) :
    gS (gU f w) A (call (.builtin "set.add") [.ref a,.int k u]) Q E s:=by
  refine iM F.slot_set_add S.typeIs F.entry_set_add ?_<|F.args_set_add_2 _ _
  show gS _ _ (o9 "add" #[[.ref a,.int k u],[]] >>= _) _ _ _
  refine am<|am<|ap<|ap<|am ?_
  refine Vh S room λc b e g i p _=>ap #[_,rfl,h c b e g i p]
def SY{k:Int}(S:vK w a e s.heap)
 (h:∀c b f,iT a s.heap c->vK w a b c->(if k∈e then e.Perm (k::b) else b=e)->Q .none { s with heap:=c,toks:=f}) :
    gS (gU d w) A (call (.builtin "set.discard") [.ref a,.int k u]) Q E s:=by
  refine iM F.slot_set_discard S.typeIs F.entry_set_discard ?_<|F.args_set_discard_2 _ _
  show gS _ _ (o9 "discard" #[[.ref a,.int k u],[]] >>= _) _ _ _
  refine am<|am<|ap<|ap<|am ?_
  unfold Builtin.Frozenset.withSetAsKey setDiscard
  refine wpAny_tryCatch ?_
  refine iq<|am<|(kf d w).pyHash (k:=k) (pG _ _ _ _) ?_
  exact FE (s:=91) S λc b g i p=>ap #[_,rfl,h c b _ g i p]
def J2(h:∀a,CL w ⇑s a->(∀c o,s.heap.get? c=↑o->a.get? c=↑o)->Q (.ref ⇑s) 96) :
  mq (gU b w) A (.call (.builtin "set.__new__") #[[.type "set"],[]]) (wants Q E) s:=by
 refine mr<|am<|mC F.newCall_set_0<|ap #[kP pr _,jE F.entry_set_new ?_];rw[js pr _];unfold Builtin.«set.__new__» o7;have g:=pH;obtain⟨i,j,k,l,m⟩:=s;dsimp only;generalize d:newSet=n
 wp_walk
 subst d;refine O9 λa e f=>?_;exact ap<|h a e f
def Iw(h:∀k,vK w ⇑s [] k->(∀c o,s.heap.get? c=↑o->k.get? c=↑o)->Q (.ref ⇑s) { s with heap:=k}):gS (gU n w) A (call (.type "set") []) Q E s:=by
 obtain⟨I,J,p⟩:=F.called_set.mro;have l:=F.called_set.made;have q:=F.called_set.sub;refine mz<|mr<|ap #[nC _ q0s,jE F.entry_type_call ?_];rw[tJ (uD "set" [] []) rfl];have v:=F.called_set.notType;have x:=F.called_set.canCreate;have y:=F.typeCall_set_0
 repeat (any_goals (first|assumption|wp_step))
 refine jL (J2 (E:=E) (Q:=λf g=>f=.ref ⇑s/\∃a,g=96/\CL w ⇑s a/\∀c o,s.heap.get? c=↑o->a.get? c=↑o) λa j m=>#[rfl,a,rfl,j,m]) λz L b=>?_
 cases z with
 |error e=>exact b
 |ok f1 =>
  cases f1 with
  |ret f =>
   obtain⟨rfl,a,rfl,j,m⟩:=b;have t:vK w ⇑s [] a:=j.set;have B:lS 96 (.ref ⇑s) "set":=vK.typeIs (s:=96) t;have C:=F.called_set.init.lookup;have D:=F.called_set.init.bind<|.ref ⇑s
   repeat (any_goals (first|assumption|wp_step))
   refine jL (ni (R:=wants (λr i=>r=.none/\i=96) E) F.called_set.init.plain F.entry_set_init<|check_set_init B ?_) λG M d=>?_
   ·obtain⟨H,u,N,O⟩:=id j;unfold Builtin.«set.__init__» noKeywords
    wp_walk
    exact#[rfl,rfl]
   ·cases G with
    |error e=>exact d
    |ok f2 =>
     cases f2 with
     |ret r =>
      obtain⟨rfl,rfl⟩:=d
      repeat (any_goals (first|assumption|wp_step))
      exact h _ t m
     |_=>exact d.elim
  |_=>exact b.elim
end SX
namespace L2
open PySem PySem.Spec PyProof.Rows SX
section
variable{X:Cx}
def Nu:yu X (.type "set") (λa H Q=>a=[]/\∀p:gH,H p=none->Q (.ref p) (upd H p<|wS X.w p [])):=by intro b s c H a d Q I r h;obtain⟨rfl,q⟩:=h;cases r;exact Iw λe S k=>#[.ref ⇑s,_,I.laid (t':=s.toks) k (gK _)<|Gm S,rfl,q _<|I.vD.fresh<|gK _]
def a0T(w:iL):R2:=λx y H Q=>∃(k:Int)(a:gH)(b:List Int),x=.int k/\y=.ref a/\H a=↑(wS w a b)/\Q (.bl<|decide<|k∈b) H
def Wz:AH X (jr .In) (a0T X.w):=by intro b s f H x y v u Q I c d h;obtain⟨k,a,g,rfl,rfl,e,q⟩:=h;obtain⟨t,rfl⟩:=c;cases d;exact a0S (ze I e) #[.bl _,H,I.tok _,rfl,q]
def Inv.sset{f:Nat}(I:Inv X c h H s)(i:H a=↑(wS X.w a k))(j:iT a s.heap g)(S:vK X.w a d g) :
  Inv X c h (upd H a<|wS X.w a d) { s with heap:=g,toks:=f} :=
 I.write (t':=f) (by rw[i];trivial) (.inl rfl) (λb u n e=>j.extBut b u n e) (e3a2 S λ_ _ _ e _=> #[_,e]) (Gm S)
def S6:XQ X "set.add" (λx d H Q=>∃(a:gH)(c:List Int)(k:Int),x=.ref a/\d=[.int k]/\H a=↑(wS X.w a c)/\c.length+1<=127/\∀b:List Int,b.Nodup->b.Perm (if k∈c then c else k::c)->Q .wm (upd H a<|wS X.w a b)):=by intro e s m H x d v n Q I g i h;obtain⟨a,c,k,rfl,rfl,f,j,q⟩:=h;cases g;obtain⟨u,rfl,t,rfl⟩:=i.one;exact Wy (ze I f) j λo b r l S p=>#[.wm,_,I.sset f l S,rfl,q b S.nodup p]
def Ph:XQ X "set.discard" (λx d H Q=>∃(a:gH)(c:List Int)(k:Int),x=.ref a/\d=[.int k]/\H a=↑(wS X.w a c)/\∀b:List Int,b.Nodup->(if k∈c then c.Perm (k::b) else b=c)->Q .wm (upd H a<|wS X.w a b)):=by intro e s l H x d v m Q I g i h;obtain⟨a,c,k,rfl,rfl,f,q⟩:=h;cases g;obtain⟨u,rfl,t,rfl⟩:=i.one;exact SY (ze I f) λn b o j S p=>#[.wm,_,I.sset f j S,rfl,q b S.nodup p]
def WA(w:iL)(r:V->List V->Hp->VK->Prop)(d:TE)(t:TA):TE:=λb H Q=>d b H λx c=>(∃(a:gH)(e:List Int),x=.ref a/\c a=↑(wS w a e))/\t b c λf g=>r x f g Q
variable{o e:iD}{es:List iD}{to:TE}{t:TA}{name:Str}{apos cpos:Pos}{id:String}{r:V->List V->Hp->VK->Prop}
def Pk(i:Slot "set" name id)(k:typeOf (.builtin id)=pure (.type "method_descriptor"))(q:XQ X id r)(u:PE X o to)(y:PA X (e::es) t)
 (f:iA o name X.env (eval o X.env)=eval o X.env:=by rfl)
 (j:((jg cpos<|gJ (e::es) X.env).all (λx=>!x.1)&&(mJ cpos<|kH [] X.env).all (λx=>x.1.isSome)&&decide ((e::es).length+([]:List pE).length+(if ([]:List pE).isEmpty then 0 else 1)<30))=true:=by rfl)
 (g:(apos.endLine==cpos.line)=true:=by rfl) (z:gJ (e::es) X.env=58::gJ es X.env:=by rfl) (d:(jg cpos<|gJ es X.env).any (·.1)=false:=by rfl) :
    PE X (.Call (.Attribute o name apos) (e::es) [] cpos) (WA X.w r to t):=by
  intro c s l H Q I h
  refine ut f j g rfl<|vB (u c s l H _ I h) λv A m=>e2a4 m λx B n C D E=>?_
  obtain⟨a,W,rfl,G⟩:=D
  cases C
  have S:=ze n G
  refine#["set",id,F.plainAttrs_set,i,k,S.typeIs,λb J=>?_,?_]
  · cases J
    refine e3a2 S λ_ _ _ L _=>?_
    exact#[_,L,rfl]
  have p:=y cpos c A l B _ n E
  rw[z]at p ⊢
  refine jY (by show (false||(jg cpos<|gJ es X.env).any (·.1))=false;rw[d]<;>rfl)<|jt ?_
  exact vB p λM N m=>e2a3 m λO P R T U=>q c N l P (.ref a) O (.ref a) M Q R rfl T U
end
def DK(e:gH)(d:Option gH)(h:iG):Prop:=∃o,h.get? e=↑o/\o.dict=d
def S7(o:Obj)(f:Array ci->Array ci):(o.mapFields f).dict=o.dict:=by obtain⟨c,d,a,b⟩:=o;cases a<;>rfl
section
variable{M:Model}{A:jq}{E:ci->gO->Prop}{s:gO}{base:iG}{env:Env}{outer:List Env}{L e:gH}{oe:Obj}{vs:Array ci}{a0 cls:ci}{d:Option gH}
def Vl{c:Bool}(m:A.frames=↑(env::outer))(k:s.heap.FunFrames base (env::outer))(I:env.frame=↑L)(n:s.heap.get? e=↑oe)(p:base.StaysIn s.heap)(r:base.get? e=none)(g:oe.data=.fields vs)(i:1<vs.size)(J:vs[0]?=↑a0)
 (h:∀t,Heap.NotedW base (env::outer) e oe.cls a0 (lF L) s.heap t->DK e oe.dict t->Q () { s with heap:=t}) :
    gS M A (do setField (.ref e) 1 (<- EntryCells.newEntry head (<- frameOf env) .none (lF L) .none (<- entryPlaceOf L c))) Q E s:=by
  have N:e∉(env::outer).filterMap (·.frame):=λz=>by
    obtain⟨_,o,w,O⟩:=k.mem z
    rw[n]at w;cases w;exact O _ g
  refine am<|wpAny_frameOf_fun m k I λa l=>am<|wpAny_entryPlaceOf λx j=>?_
  have B:a.get? e=↑oe:=(l.2.1 e N).trans n
  have C:base.StaysIn a:=λb o q=>(l.2.1 b λz=>by rw[(k.mem z).1]at q;cases q).trans<|p b o q
  refine am<|iE ?_<|j.sizeOk5 _ _ _ _ _
  have P:∃f:Array ci,(([head,.ref L,.none,lF L,.none]++(if x.isEmpty then kK 6 Value.none else x)).toArray=f)/\f[3]?=↑(lF L):=#[_,rfl,by first|(simp;done)|(rcases j with rfl|⟨_,_,_,_,_,_,_,rfl⟩<;>simp)]
  obtain⟨f,R,S⟩:=P
  rw[R]
  have u:=ce (h:=a) { cls:=.type "traceback",dict:=none,data:=.fields f} B
  have D:a.objs.size≠e:=je<|gP B
  refine mO u g i<|h _ ?_ ?_
  · have F := Obj.data_mapFields g (·.setIfInBounds 1 (hO a.objs.size))
    have T:=iJ (Obj.mapFields (·.setIfInBounds 1 (hO a.objs.size))) u<|Obj.isFreed_of_fields F
    have U:=(iv (a.push { cls:=.type "traceback",dict:=none,data:=.fields f}) (Obj.mapFields (·.setIfInBounds 1 (hO a.objs.size)))<|Ne.symm D).trans<|gW a rfl
    have v:∀b o,b≠e->a.get? b=↑o->((a.push { cls:=.type "traceback",dict:=none,data:=.fields f}).update e (Obj.mapFields (·.setIfInBounds 1 (hO a.objs.size)))).get? b=↑o:=λb o z q =>
      (iv _ _<|Ne.symm z).trans (ce _ q)
    have G:∀b o,s.heap.get? b=↑o->(∀vs,o.data≠.fields vs)->b≠e:=λb o q z y=>by rw[y,n]at q;cases q;exact z _ g
    refine#[λb o q=>v b o (λz=>by rw[z,r]at q;cases q)<|C b o q,k.of_keeps λb o q z=>?_,?_,λb o q z=>?_]
    · obtain⟨H, y⟩ := l.2.2 b o q
      exact#[_,v b _ (G b o q z) y,rfl]
    · exact#[_, _, a.objs.size, _, _, T, #[Obj.cls_mapFields _ _, by rw[Array.getElem?_setIfInBounds_ne q0q]; exact J], F, by simp[i], C.fresh, D, U, rfl, S]
    · obtain⟨H, y⟩ := l.2.2 b o q
      exact#[H,v b _ (G b o q z) y]
  · exact#[_, iJ _ u<|Obj.isFreed_of_fields<|Obj.data_mapFields g _, S7 _ _]
def S8(c:A.frames=↑(env::outer))(l:s.heap.FunFrames base (env::outer))(g:env.frame=↑L)(i:s.heap.get? e=↑oe)(f:base.StaysIn s.heap)(b:base.get? e=none)(j:oe.data=.fields vs)(k:vs[1]?=some .none)(m:vs[0]?=↑a0)
 (h:∀a,Heap.HeldW base (env::outer) e oe.cls a0 L a->s.heap.UpToSlots a->DK e oe.dict a->Q () 96):gS M A (ud (.ref e) env) Q E s:=by
  unfold ud
  simp only[g]
  refine am<|iZ i j k ?_
  rw[cr q0q]
  exact Vl c l g i f b j (Array.getElem?_eq_some_iff.mp k).1 m λa n=>e0a4 n λo p q r y=>h a #[o,b,p,q] r y
def S9(h:A.frames=↑(env::outer))(p:env.frame=↑L)(i:lK base (env::outer) e cls a0 s.heap)(x:DK e d s.heap)
 (B:∀f,Heap.HeldW base (env::outer) e cls a0 L f->s.heap.UpToSlots f->DK e d f->Q () { s with heap:=f}):gS M A (ud (.ref e) env) Q E s:=by
  obtain⟨j,g,C,oe,vs,T,N,O,k,⟨rfl,D⟩,r,t,l,m,n,c,u⟩:=i
  obtain⟨P,v,rfl⟩:=x
  rw[k]at v;cases v
  unfold ud
  simp only[p]
  refine am<|iZ k r t ?_
  rw[gI<|show (hO T != Value.none)=true from by simp]
  refine am<|iZ n c u ?_
  rw[cr<|show ¬((Value.none==lF L)=true) from by simp[lF]]
  refine am<|mO n c (Array.getElem?_eq_some_iff.mp u).1 ?_
  have a:∀b,b≠T->(s.heap.update T (Obj.mapFields (·.setIfInBounds 3 Value.none))).get? b=s.heap.get? b:=λb z=>iv _ _<|Ne.symm z
  have w:∀b o,s.heap.get? b=↑o->(∀vs,o.data≠.fields vs)->b≠T:=λb o q z y=>by rw[y,n]at q;cases q;exact z _ c
  refine Vl h (C.of_keeps λb o q z=>#[o,(a b<|w b o q z).trans q,rfl]) p ((a e<|Ne.symm m).trans k) (λb o q=>(a b λz=>by rw[z,l]at q;cases q).trans<|j b o q) g r (Array.getElem?_eq_some_iff.mp t).1 D
    λf F=>e0a4 F λG H I J y=>B f #[G,g,H,I] (λb o q z=>J b o ((a b<|w b o q z).trans q) z) y
def YK(n:base.StaysIn s.heap)(p:base.get? e=none)(C:s.heap.FunFrames base l)(D:s.heap.TracedAtW base e cls a0 H)(F:DK e d s.heap)
 (h:∀m,lK base l e cls a0 m->s.heap.UpToSlots m->DK e d m->Q () { s with heap:=m}):gS M A (setFlight (.ref e) none) Q E s:=by
  obtain⟨oe,vs,T,I,J,r,g,u,v,i,j,t,a,G⟩:=D
  obtain⟨N,w,rfl⟩:=F
  rw[r]at w;cases w
  have k:=(Array.getElem?_eq_some_iff.mp G).1
  have c:∀b,b≠T->(s.heap.update T (Obj.mapFields (·.setIfInBounds 3 ((none:Option gH).elim Value.none λf=>lF f)))).get? b=s.heap.get? b:=λb z=>iv _ _<|Ne.symm z
  have x:∀b o,s.heap.get? b=↑o->(∀vs,o.data≠.fields vs)->b≠T:=λb o q z y=>by rw[y,t]at q;cases q;exact z _ a
  have B:=(c e<|Ne.symm j).trans r
  refine am<|iZ r u v ?_
  rw[gI<|show (hO T != Value.none)=true from by simp]
  refine mO t a k<|h _ ⟨λb o q=>(c b λz=>by rw[z,i]at q;cases q).trans<|n b o q,p,C.of_keeps λb o q z=>#[o,(c b<|x b o q z).trans q,rfl],?_⟩ (λb o q z=>#[o.slots,(c b<|x b o q z).trans q]) #[_,B,rfl]
  exact#[oe,vs,T,_,_,B,g,u,v,i,j,iJ _ t<|Obj.isFreed_of_fields<|Obj.data_mapFields a _,Obj.data_mapFields a _,by simp[k]]
def AS(b:A.frames=↑(env::outer))(k:s.heap.FunFrames base (env::outer))(l:env.frame=↑L)(m:s.heap.get? e=↑oe)(c:base.StaysIn s.heap)(f:base.get? e=none)(n:oe.data=.fields vs)(o:vs[1]?=some .none)(p:vs[0]?=↑a0)
 (h:∀a,lK base outer e oe.cls a0 a->s.heap.UpToSlots a->DK e oe.dict a->Q () 96):gS M A (um env<|.ref e) Q E s:=by
  refine am<|S8 b k l m c f n o p λq g=>e0a4 g λr t u v w x=>YK (s:={ s with heap:=q}) r t u v x λy g=>e0a4 g λz B ⟨_,_,C⟩ D i j=>?_
  exact h y #[z,B,C,D] (w.trans i) j
def Pl(b:A.frames=↑(env::outer))(j:env.frame=↑L)(c:lK base (env::outer) e cls a0 s.heap)(k:DK e d s.heap)
 (l:∀a,lK base outer e cls a0 a->s.heap.UpToSlots a->DK e d a->Q () 96):gS M A (um env<|.ref e) Q E s:=by
  refine am<|S9 b j c k λm f=>e0a4 f λn o p q r g=>YK (s:={ s with heap:=m}) n o p q g λt f=>e0a4 f λu v ⟨_,_,w⟩ x h i=>?_
  exact l t #[u,v,w,x] (r.trans h) i
end
class GX where
 g:gH->Option gH->Hp->Prop
variable[GX]
structure DW(P:im)(w:iL)(outer:List Env)(H:Hp)(s:gO)(H':Hp)(C x:gH)(s':gO):Prop where
 os:s'.os=s.os
 bare:m6 s'.gens
 un:Un (yT outer) [] H H' s.heap s'.heap
 vD:xD P w H' s'.heap
 dct:∃d,DK x d s'.heap/\GX.g C d H'
 fly:∃(B:iG)(a0:ci),lK B outer x (.ref C) a0 s'.heap/\∀b o,s'.heap.get? b=↑o->(H' b≠none\/∃o0,s.heap.get? b=↑o0)->b∉yT outer->B.get? b=↑o
def vF(P:im)(w:iL):OB:=λa H s E e c=>∃(C x:gH)(b:Hp),e=.ref x/\DW P w a H s b C x c/\E (.ref C) ↑x b
def Au(x:xD P w H h)(e:H a=↑o):∃u,h.get? a=↑u:=by
 have d:∀o:HO,vO P w H h a o->∃u,h.get? a=↑u:=by
  intro o q
  cases o with
  |lst i=>obtain⟨_,_,_,_,z⟩:=q;exact#[_,z]
  |tup i=>obtain⟨_,_,_,c,z,_⟩:=q;exact#[_,z]
  |dK g=>obtain⟨_,_,_,_,c,_,_,z,_⟩:=q;exact#[_,z]
  |dT g=>obtain⟨_,_,_,_,c,_,_,z,_⟩:=q;exact#[_,z]
  |set S n=>obtain⟨c,_,_,_,z,_⟩:=q;exact#[_,z]
  |ins C j fs=>obtain⟨_,_,_,z,_⟩:=q;exact#[_,z]
  |own b=>exact q
  |xd fs=>obtain⟨k,⟨c,_,_,z,_⟩,_⟩:=q;exact#[_,z]
  |yH lo l=>obtain⟨_,_,_,z⟩:=q;exact#[_,z]
  |Ju c u=>exact#[_,q.1]
  |EQ m=>exact#[_,q]
  |met f y=>exact#[_,q]
  |ext p=>exact q.2.1
 exact d o<|x a o e
section
variable{P:im}{w:iL}{l:List Env}{H H':Hp}{s s2:gO}{B h':iG}
def Pm(u:Un (yT l) [] H H' s.heap s2.heap)(m:xD P w H' s2.heap)(g:∀b o,s2.heap.get? b=↑o->(H' b≠none\/∃D,s.heap.get? b=↑D)->b∉yT l->B.get? b=↑o)
 (i:∀b∈yT l,H' b=none/\∃o,s2.heap.get? b=↑o/\∀E,o.data≠.fields E)(p:B.StaysIn h')(F:s2.heap.UpToSlots h'):Un (yT l) [] H H' s.heap h'/\xD P w H' h':=by
  have d:∀b o,s2.heap.get? b=↑o->b∈yT l->∃r,h'.get? b=some { o with slots:=r}:=λb o e G=>by
    obtain⟨_,t,C,n⟩:=i b G
    rw[e]at C
    cases C
    exact F b o e n
  refine#[#[λb o e n f h=>?_,λb o e n f h=>?_,λb o e n h=>u.free b o e n h,λb o e h=>?_,u.Bh,u.AV,u.AW],λa o e=>?_]
  · exact p b o<|g b o (u.keep b o e n f h) (.inr #[o, e]) f
  · obtain⟨r, k⟩ := u.slot b o e n f h
    obtain⟨x,y⟩:=d b _ k f
    exact#[x,y]
  · obtain⟨t, k⟩ := u.there b o e h
    by_cases f:b∈yT l
    · obtain⟨r, y⟩ := d b _ k f
      exact#[_,y]
    · exact#[_, p b t<|g b t k (.inr #[o, e]) f]
  · have I : ∀c, H' c ≠ none -> c ∉ yT l := λc A f => A (i c f).1
    refine(m a o e).C0 (λc v A q=>?_) (λ_ q=>q) λ_ _ q=>q
    have j:H' c≠none:=by
      rcases A with z|z
      · rw[z, e]; simp
      · rw[z]; simp
    exact p c v<|g c v q (.inl j)<|I c j
end
section
variable{X:Cx}{pins:List (gH×Obj)}{σ:St}{H1 H':Hp}{s1 s2:gO}{C x:gH}{B h':iG}{a0:ci}
def xG(I:Inv X pins σ H1 s1)(a:X.stack=X.env::X.outer):X.env.frame=↑X.env.locals:=by
 rcases I.ok.B5 with z|z
 ·rw[a]at z;have:=congrArg nW z;simp at this
 ·exact z.2
def Nv(I:Inv X pins σ H1 s1)(a:X.stack=X.env::X.outer):yT X.stack=X.env.locals::yT X.outer:=by rw[a];unfold yT;rw[kE,xG I a]
def J3(I:Inv X pins σ H1 s1)(D:X.stack=X.env::X.outer)(hex:X.ex=[])(os:s2.os=s1.os)(m:m6 s2.gens)(u:Un (yT X.stack) [] H1 H' s1.heap s2.heap)(p:xD X.prog X.w H' s2.heap)
 (r:∀b o,s2.heap.get? b=↑o->(H' b≠none\/∃k,s1.heap.get? b=↑k)->b∉yT X.stack->B.get? b=↑o) (YL:∀b∈yT X.stack,H' b=none/\∃o,s2.heap.get? b=↑o/\∀R,o.data≠.fields R)
 (up:s2.heap.UpToSlots h')(E:lK B X.outer x (.ref C) a0 h')(F:∃d,DK x d h'/\GX.g C d H'):DW X.prog X.w X.outer X.H₀ X.s₀ H' C x { s2 with heap:=h'}:=by
  obtain⟨i,s⟩:=Pm u p r YL E.1 up
  have t:=Nv I D
  have base:Un (yT X.outer) [] X.H₀ H1 X.s₀.heap s1.heap:=by have:=I.base;rw[hex]at this;exact this
  have L:∀b:gH,b∉([]:List gH):=λb z=>by cases z
  have old:∀b o,X.s₀.heap.get? b=↑o->b≠X.env.locals:=λb o e z=>by
    have S:=gP e
    have M:=I.ok.above
    rw[<- z]at M
    exact g8 (hR S M)<|jI _
  have y:∀b o,X.s₀.heap.get? b=↑o->b∉yT X.outer->b∉yT X.stack:=λb o e n z=>by
    rw[t]at z
    rcases List.mem_cons.mp z with q|q
    · exact old b o e q
    · exact n q
  refine#[os.trans I.os,m,#[λb o e n j a=>?_,λb o e n j a=>?_,λb o e n a=>?_,λb o e a=>?_,λb N e=>?_,λb o v e=>?_,λb T e=>?_],s,F,B,a0,E,λb o e A j=>?_]
  · exact i.keep b o (base.keep b o e n j a) (base.free b o e n a) (y b o e j) a
  · obtain⟨sl, c⟩ := base.slot b o e n j a
    obtain⟨G,f⟩:=i.slot b _ c (base.free b o e n a) (by rw[t];exact gQ _ j) a
    exact#[G,f]
  · obtain⟨l, c⟩ := base.there b o e a
    exact i.free b l c (base.free b o e n a) a
  · obtain⟨l, c⟩ := base.there b o e a
    exact i.there b l c a
  · exact i.Bh b N<|base.Bh b N e
  · exact i.AV b o v<|base.AV b o v e
  · obtain⟨U, c⟩ := base.AW b T e
    obtain⟨W,f⟩:=i.AW b _ c
    exact#[U++W,by rw[f,pO]]
  · have fin : ∀h, s2.heap.get? b = some h -> (H' b ≠ none \/ ∃k, s1.heap.get? b = some k) -> b ∉ yT X.stack -> B.get? b = some o := λh f H J => by
      have q:=r b h f H J
      have O:=E.1 b h q
      have Y:h'.get? b=↑o:=e
      rw[Y]at O
      cases O
      exact q
    rcases A with A|⟨k,P⟩
    · obtain⟨Q, Z⟩ : ∃Q, H' b = some Q := by
        cases z:H' b with
        |none=>exact g8 z A
        |some v=>exact#[v,rfl]
      obtain⟨h,f⟩:=Au p Z
      exact fin h f (.inl A) λz=>A (YL b z).1
    · obtain⟨l, c⟩ := base.there b k P (L b)
      obtain⟨h,f⟩:=u.there b l c<|L b
      exact fin h f (.inr #[l,c])<|y b k P j
def DW.YL(F:DW P w l H s H' C x s2)(c:∀b∈yT l,H b=none/\∃o,s.heap.get? b=↑o):∀b∈yT l,H' b=none/\∃o,s2.heap.get? b=↑o/\∀d,o.data≠.fields d:=λb a=>by refine e2a2 F.fly λB a0 f _=>?_;obtain⟨n,o,e⟩:=c b a;exact#[F.un.free b o e n q0o,(f.2.2.1.mem a).2]
def Inv.ZU(I:Inv X pins σ H1 s1):∀b∈yT X.stack,H1 b=none/\∃o,s1.heap.get? b=↑o:=λb a=>by have c:=I.Ib;exact#[c.Jo b a,e1a2 ((c.yo.mem a).2) λo e _=> #[o,e]]
def Pn(I:Inv X pins σ H1 s1)(a:X.stack=X.env::X.outer)(b:X.ex=[])(F:DW X.prog X.w X.stack H1 s1 H' C x s2) :
  gS 19 X.A (um X.env<|.ref x) (λ_ c=>DW X.prog X.w X.outer X.H₀ X.s₀ H' C x c) E s2:=by
 have i:=F.YL I.ZU;refine e2a2 F.fly λB a0 h e=>?_;rw[a]at h;refine e1a2 F.dct λd j k=>?_;refine Pl (by rw[I.ok.frames,a]) (xG I a) h j λh' f l g=>?_;exact J3 I a b F.os F.bare F.un F.vD e i l f #[d,g,k]
end
section
variable{P:im}{w:iL}{K:gG}{mg:Str->Option ci}{base:iG}{N:List Str}{qual:Str}{scope:lV}{f:gH}{cd:ci}{A:jq}{outer:List Env}{s:gO}{H:Hp}{E:XK}
def zw:Passes (vF P w) 18 E:=by intro a i j k e l I h;obtain⟨C,x,b,rfl,F,c⟩:=h;exact iY (Pn I rfl rfl F) (λ_ d g=>#[C,x,b,rfl,g,c]) λ_ _ z=>z
def yc:rF (gU P w) (18).A (18).env (18).xe:=PassesOwn.leaving
end
variable[L2.GX]
set_option tactic.hygienic true in
def Ta{K:gG}{C:gH}(Z:K.In h)(y:ji K C d b=true) :
  ∃j N t q u c v e w f x z A B E F k,h.get? C=↑(jw t q C N u j c v e w f x z A B E F b)/\h.Ns N k/\k "__init__"=none/\sD h d j:=by
 unfold ji at y;split at y
 ·rename_i G H l a
  split at y
  ·rename_i D I m n o p g r J L
   simp only[iw,beq_iff_eq,Bool.not_eq_true']at y;obtain⟨⟨⟨⟨⟨M,O⟩,P⟩,Q⟩,s⟩,R⟩:=y;subst M;subst O;obtain⟨S,T,u3,U,X,Y,u7,u8,u9,i,aa⟩:=H;subst J;subst P
   have e3:l=#v[m,n,o,p,some<|.builtin g,r]:=by obtain⟨li⟩:=l;exact congrArg Array.mk L
   rw[e3]at a;exact#[I,U,S,X,T,Y,u7,u8,u9,i,G,m,n,o,p,r,_,Z _ _ a,.of_isNs<|pI Z s,PySem.W.nsMap_none_of_in Z s R,sZ Z Q]
  ·cases y
 ·cases y
def Po(C:gH)(E:XK)(a:TA):TS:=λ_ b H=>a b H λc d=>c.length<=gL/\∀x:gH,E (.ref C) ↑x d
section
variable{P:im}{w:iL}{K:gG}{mg:Str->Option ci}{base:iG}{N:List Str}{qual:Str}{scope:lV}{f:gH}{cd:ci}{A:jq}{outer:List Env}{s:gO}{H:Hp}{E:XK}
def DX{C:gH}(hg:Gl 18 x)(hm:mg x=↑(.ref C))(O:ji K C v i=true)
 (Y:kh B i n v) (g0:∀H',GX.g C none H') (ha:PA 18 (y::p) ta) (F:(x==55)=false:=by decide)
 (r:gJ (y::p) (18).env=(false,eval y (18).env)::gJ p (18).env:=by rfl)
 (G:(jg d<|gJ p (18).env).any (·.1)=false:=by rfl) :
    PS 18 (.Raise (some<|.Call (.Name x np) (y::p) [] d) none pos) (Po C E ta):=by
  intro k s1 σ H1 D I h
  obtain⟨bm,N',nm,q,bs,l,sn,J,ab,L,dd,k0,k1,k2,k3,k5,mN,hC,hN,M,T⟩:=Ta I.mod.Bf O
  have Z:=ha d k s1 σ H1 _ I h
  refine wpAny_Raise_call_subT (prog:=P) (w:=w) (C:=C) (nm:=nm) (q:=q) (N:=N') (bs:=bs) (bm:=bm) (hdct:=l) (sn:=sn) (sub:=J) (ab:=ab) (col:=L) (dd:=dd) (k0:=k0) (k1:=k1) (k2:=k2) (k3:=k3) (k5:=k5)
    Y (mN:=mN) (T.hasType Y.hasBase) (I.ok.hd rfl) (by rw[r];exact(Bool.false_or _).trans G) M (yY I hg hm #[rfl,?_] F)
  rw[r]at Z ⊢
  refine jt<|iY Z (λus u q2=>?_) λ_ _ z=>z
  refine e2a4 q2 λvs H2 c r2 hl hE=>?_
  refine#[rfl,by show us.length<=gL;rw[<- r2.length];exact hl,c.bk _ _ hC,hN.keeps c.bk,T.keeps c.bk,λh' e a=>?_]
  have m:(18).stack=(18).env::(18).outer:=rfl
  have fu:=c.Ib.yo
  refine e1a3 a.there λt R _ _=>?_
  have S:(lQ u.heap<|yT (18).stack).get? e=none:=by
    cases q:(lQ u.heap<|yT (18).stack).get? e with
    |none=>rfl
    |some o=>have z:=mY _ q;rw[a.new]at z;cases z
  refine iY (AS (base:=lQ u.heap (yT (18).stack)) (a0:=.ref t) c.ok.frames
    ((rJ fu λU r b j=>List.mem_filterMap.mpr #[U,r,j]).of_keeps λb o j _=>#[o,a.keeps b o j,rfl]) (xG c m) R (λb o z=>a.keeps b o (mY _ z)) S rfl rfl rfl (Q:=λ_ X=>vF P w outer H s E (.ref e) X) λaa fl up dk=>?_) (λ_ _ z=>z) λ_ _ z=>z
  refine#[C,e,H2,rfl,?_,hE e]
  refine J3 (s2:=u) c m rfl rfl c.bare Un.refl c.vD (λb o z _ nf=>oY _ z nf) (λb j=>?_) ((qb a.keeps).trans up) fl #[_,dk,g0 _]
  exact#[(c.ZU b j).1,(fu.mem j).2]
end
noncomputable abbrev hand(X:Cx)(x:gH):Cx:={ X with A:=X.A.mark<|some<|.ref x,calm:=false,xe:=λ_ _=>False}
def Inv.a0V(I:Inv { X with pn:=X.pn++a} b c H s):Inv X a c H s :=
 #[51,I.os,I.bare,I.base,I.loc,I.cell,I.free,I.xX,λp d=>I.pin p<|iW _ d,I.vD,I.len]
def Inv.Pp(I:Inv X a b H s):Inv (hand X x) a b H s :=
 #[#[I.ok.mod,I.ok.kind,I.ok.glob,I.ok.blt,I.ok.above,I.ok.inj,I.ok.has,I.ok.Od,(λz=>by cases z),I.ok.frames,I.ok.B5,I.ok.R9,I.ok.bs,I.ok.HR,I.ok.C3,I.ok.DE,I.ok.yo,I.ok.Jo],I.os,I.bare,I.base,I.loc,I.cell,I.free,I.xX,I.pin,I.vD,I.len]
def Inv.Go(b:X.calm=true->X.A.handled=none)(I:Inv (hand X x) a c H s):Inv X a c H s :=
 #[#[I.ok.mod,I.ok.kind,I.ok.glob,I.ok.blt,I.ok.above,I.ok.inj,I.ok.has,I.ok.Od,b,I.ok.frames,I.ok.B5,I.ok.R9,I.ok.bs,I.ok.HR,I.ok.C3,I.ok.DE,I.ok.yo,I.ok.Jo],I.os,I.bare,I.base,I.loc,I.cell,I.free,I.xX,I.pin,I.vD,I.len]
end L2
namespace SX
open PySem PyProof.Rows
def Ix:mZ (.type "dict") "__len__"=pure (some<|.builtin "dict.__len__"):=by rw[nM,lH];kernel_rfl
section
variable{prog:im}{w:iL}{K:Type}[DecidableEq K]{knd:KeyKind prog w K}{A:jq}{E:ci->gO->Prop}{s:gO}{a:gH}{ks:List Int}{wV:List (K×ci)}{ep:Nat}
def Nx(hh:A.handled=none)(G:(a==kO)=false)(D:s.heap.DictAt knd a wV ep)(hl:wV.length<=gL)(R:wV.length=ks.length)
 (hk:∀(i:Nat)(k:K)(x:ci)(v:ci),wV[i]?=↑(k,x)->knd.is k v=true->∃j u,ks[i]?=↑j/\v=.int j u)
 (h:∀S tk vs,kS vs ks->(∀c o,s.heap.get? c=↑o->S.get? c=↑o)->⇑s<=S.objs.size->Q vs { s with heap:=S,toks:=tk}):gS (gU prog w) A (collect<|.ref a) Q E s:=by
  have f:a<⇑s:=D.lt_size
  obtain⟨o0,ai,H,l,aj,ak⟩:=id D
  refine am<|sV<|jE t7 ?_
  rw[js t9 _]
  refine am (m:=newList [])<|iE<|ap #[kP ot _,jE F.entry_list_iadd ?_]
  rw[js ot _]
  have z:∀c o,s.heap.get? c=↑o->(s.heap.push 52).get? c=↑o:=λc o q=>ce _ q
  have oL:(s.heap.push 52).get? ⇑s=some 52:=gW _ rfl
  have g:(s.heap.push 52).objs.size=⇑s+1:=ju _ _
  generalize s.heap.push 52=d at z oL g ⊢
  have D1:d.DictAt knd a wV ep:=D.at' λo q=>z a o q
  show gS _ A.in1 (pS (.ref ⇑s) (.ref a)<|.ref ⇑s) _ _ { s with heap:=d}
  have hT:lS { s with heap:=d} (.ref a) "dict":=#[_,z a _ H,l.1]
  refine am<|kI hT ?_
  have n1:lv (.ref ⇑s) (.ref a)=false:=by simp[lv,je f]
  have n2:(jS "dict" == jS "list")=false:=by decide
  have n3:(jS "dict" == jS "tuple")=false:=by decide
  simp only[n1,n2,n3,rV,kT,o6]
  refine am<|wpAny_pyIter_dict (s:={ s with heap:=d}) G D1 ?_
  have I:∀c o,d.get? c=↑o->(d.push 72).get? c=↑o:=λc o q=>ce _ q
  have i2:(d.push 72).get? d.objs.size=some 72:=gW _ rfl
  generalize d.push 72=T at I i2 ⊢
  have p:lS { s with heap:=T} (.ref a) "dict":=#[_,I a _<|z a _ H,l.1]
  refine am<|iq ?_
  refine am<|pJ p Ix ?_
  generalize A6:("dict.__len__":String)=U
  dsimp only
  rw[show splitId U=some ("dict","__len__") from by subst A6;decide +kernel]
  subst A6
  refine am<|l8 (b:=true) p F.sub_dict_dict ?_
  rw[cr q0o]
  rw[gI q0s]
  refine am<|kI p<|ap ?_
  have X:A.in1.handled=none:=by simp[hh]
  have ne:a≠d.objs.size:=gZ<|nc f (by rw[g];exact jp _)
  have W:=(Walks.dictKeys (knd:=knd) (A:=A.in1) X d.objs.size a ne wV ep).toS
  have Y:⇑s∉[d.objs.size,a]:=by
    simp only[ii,jb,lX,pY]
    exact#[by rw[g];exact gZ<|jp _,je f]
  have t:=I _ _ oL
  -- the ah,B al J Z of it
  have L:∀(C:iG)(M:Nat),C.get? ⇑s=some { cls:=.type "list",data:=.seq ([]:List ci).toArray M}->(∀c o,c≠⇑s->T.get? c=↑o->C.get? c=↑o) ->
      mq (gU prog w) A (.builtin "list.extend.loop" #[[.ref ⇑s,.ref d.objs.size,.ref ⇑s],[]]) (λr s'=>match r with
        | .ok (.ret v)=>gS (gU prog w) A (match v with
          | .ref a=>do
            let o <- load a
            match o.data with
              | .seq xs aa=>pure xs.toList
              |x=>k9 "internal:collect"
          |x=>k9 "internal:collect") Q E s'
        | .ok _=>False
        | .error e=>E e s') { s with heap:=C}:=by
    intro C M y k4
    have I4:C.IsKeyIter d.objs.size a 0 wV.length ep/\C.DictAt knd a wV ep:=#[#[_,k4 _ _ (by rw[g];exact je<|jp _) i2,rfl,rfl],D1.at' λo q=>k4 _ _ (gZ f)<|I _ _ q]
    refine codeAny_extend_loopS W hl _ Y _ wV.length 0 _ _ _ rfl (iX _) I4 y (ItemsOf.nil _) λs5 ab c5 P N n=>?_
    refine am<|qG N<|ap ?_
    obtain⟨h5,g5,d5,ae,af⟩:=s5
    have eg:g5=s.gens:=P.gens
    have ed:d5=s.drawn:=P.drawn
    have eo:af=s.os:=P.os
    subst eg ed eo
    refine h h5 ae ab.toList (zO ?_ λi v hv=>?_) (λc o q=>P.heap c o (by
      simp only[ii,jb,lX,pY]
      exact#[gZ (gP q),gZ (gP (z c o q))]) (k4 c o (gZ (gP q)) (I c o (z c o q)))) (lM (gP N))
    · rw[gR, n.1, R]
    · obtain⟨k, x, hx, ag⟩ := n.2 i v (by rw[<- iC]; exact hv)
      exact hk i k x v hx ag
  first
    | (rw[cr q0s];exact ap ⟨kP qa _,L T 0 t λ_ _ _ q=>q⟩)
    | (rw[gI q0s]
       refine am<|lW<|am ?_
       refine am<|pM t rfl ?_
       have O:=iJ (Obj.mapSeq (·.push Value.none)) t rfl
       refine pM O rfl ?_
       have y:=iJ (Obj.mapSeq (·.pop)) O rfl
       refine ap #[kP qa _,L _ _ y λc o hc q=>(iv _ _ (Ne.symm hc)).trans ((iv _ _ (Ne.symm hc)).trans q)])
end
end SX
namespace L2
open PySem PySem.Spec PyProof.Rows SX
def Tb{k:Int}(h:zC (.inl k) v=true):∃u,v=.int k u:=by
 rcases vS h with⟨i,t,e,rfl⟩|⟨x,t,e,_⟩
 ·cases e;exact#[t,rfl]
 ·cases e
def WB:∀{b:List (Key×V)} {c:List (Key×ci)} (_:KV b c) (i:Nat) {k:Key} {x:ci},c[i]?=↑(k,x)->∃y,b[i]?=↑(k,y):=by
 intro _ _ z
 induction z with
 |nil=>intro i _ _ h;cases h
 |cons a t d =>
  intro i k x h
  cases i with
  |zero=>cases h;exact#[_,congrArg some<|Prod.ext a.1 rfl]
  |succ i=>exact e1a1 (d i<|by simpa using h) λy q=>#[y,by simpa using q]
def Gp(J:X.calm=true):yu X (.builtin "sorted") (λC H Q=>∃(a:gH) (b:List (Key×V)) (c:List Int),C=[.ref a]/\H a=↑(.dK b)/\b.map (·.1)=c.map ie/\c.length<64/\∀(p:gH)(t:List Int),H p=none->t.Perm c->t.Pairwise (·<=·)->Q (.ref p) (upd H p<|.lst<|t.map V.int)):=by
 intro E s σ H C us Q I r h;obtain⟨a,b,c,rfl,L,f,g,q⟩:=h;obtain⟨u,rfl,M⟩:=vals1 r;cases M;obtain⟨hz,l,F,G,N⟩:=I.vD a _ L;obtain⟨o,O,P,R,z,m,d⟩:=N;have D:s.heap.DictAt (vp X.prog X.w) a F P:=#[o,O,R,z,m,d];have S:b.length=F.length:=Paired.length G;have T:b.length=c.length:=by have:=congrArg nW f;simpa using this
 refine Ck (λQ' k=>Nx (by simp[I.ok.hd J]) l D q0a q0a (λi U x v W A=>?_) λY Z B hi k1 sz=>k Y Z B c hi (.refl _) k1 sz) g<|A7 I g q;obtain⟨y,hy⟩:=WB G i W;have n:(b.map (·.1))[i]?=↑U:=by rw[jx,hy];rfl
 rw[f,jx]at n
 cases e:c[i]? with
 |none=>rw[e]at n;cases n
 |some j =>
  rw[e]at n;cases n;obtain⟨u,hu⟩:=Tb A;exact#[j,u,rfl,hu]
end L2
namespace WL
open PySem L2
abbrev Wf(A τ PO:Type):=A->93->81->Prop
abbrev Rg:=gH->Prop
structure Ext(G R:Rg)(H:Hp)(R':Rg)(H':Hp):Prop where
 keep:∀b o,¬G b->H b=↑o->H' b=↑o
 new:∀a,R' a->R a\/H a=none
def Ext.wide(e:Ext G R H c d)(s:∀a,G a->R a):Ext R R H c d:=#[λb o n h=>e.keep b o (λg=>n<|s b g) h,e.new]
def Ext.not(e:Ext G R H b c)(n:¬R a)(h:H a=↑o):¬b a:=λz=>by
 rcases e.new a z with q|q
 ·exact n q
 ·rw[h]at q;cases q
class Rep(α:Type) where
 rp:Rg->Hp->α->V->Prop
 st:∀{R:Rg} {H:Hp} {R':Rg} {H':Hp} {x:α} {v:V},rp R H x v->Ext R R H R' H'->rp R' H' x v
open Rep (rp)
instance:Rep Int:=#[λ_ _ i v=>v=.int i,λh _=>h]
instance:Rep Bool:=#[λ_ _ i v=>v=.bl i,λh _=>h]
instance:Rep Unit:=#[λ_ _ _ v=>v=.wm,λh _=>h]
instance{α:Type}[Rep α]:Rep (Option α):=#[λR H x v=>match x with|none=>v=.wm|some y=>v≠.wm/\rp R H y v,λ{R H R' H' x v} h e=>by
 cases x with
 |none=>exact h
 |some y=>exact#[h.1,Rep.st h.2 e]]
def vT{α:Type}[Rep α]{R R':Rg}{H H':Hp}(e:Ext R R H R' H'):∀{xs:List α} {vs:List V},Paired (rp R H) xs vs->Paired (rp R' H') xs vs:=by
 intro _ _ z
 induction z with
 |nil=>exact .nil
 |cons h t ih=>exact .cons (Rep.st h e) ih
instance{α:Type}[Rep α]:Rep (List α):=#[λR H xs v=>∃a vs,v=.ref a/\¬R a/\H a=↑(.lst vs)/\Paired (rp R H) xs vs,λ{R H R' H' x v} h e=>by
 refine e2a4 h λa vs h1 h2 h3 h4=>?_
 exact#[a,vs,h1,e.not h2 h3,e.keep a _ h2 h3,vT e h4]]
instance{α β:Type}[Rep α][Rep β]:Rep (α×β):=#[λR H x v=>∃a u w,v=.ref a/\¬R a/\H a=↑(.tup [u,w])/\rp R H x.1 u/\rp R H x.2 w,λ{R H R' H' x v} h e=>by
 obtain⟨a,u,w,h1,h2,h3,h4,h5⟩:=h
 exact#[a,u,w,h1,e.not h2 h3,e.keep a _ h2 h3,Rep.st h4 e,Rep.st h5 e]]
structure Tp(α:Type) where
 l:List α
instance{α:Type}[Rep α]:Rep (Tp α):=#[λR H xs v=>∃a vs,v=.ref a/\¬R a/\H a=↑(.tup vs)/\Paired (rp R H) xs.l vs,λ{R H R' H' x v} h e=>by
 refine e2a4 h λa vs h1 h2 h3 h4=>?_
 exact#[a,vs,h1,e.not h2 h3,e.keep a _ h2 h3,vT e h4]]
class Ow(τ:Type) where
 sl:Rg->Rg->Hp->τ->Option V->Prop
 st:∀{F G R:Rg} {H:Hp} {R':Rg} {H':Hp} {x:τ} {v:Option V},sl F R H x v->Ext G R H R' H'->(∀a,G a->R a)->(∀a,F a->¬G a)->sl F R' H' x v
 fq:∀{F F' R:Rg} {H:Hp} {x:τ} {v:Option V},sl F R H x v->(∀a,F a↔F' a)->sl F' R H x v
open Ow (sl)
structure Un where
instance:Ow Un:=#[λF _ _ _ _=>∀a,¬F a,λh _ _ _=>h,λh e a z=>h a ((e a).mpr z)]
noncomputable instance a1G{α:Type}[Rep α]:Ow α:=#[λF R H x v=>(∀a,¬F a)/\∃u,v=↑u/\rp R H x u,λh e s _=>#[h.1,e1a2 h.2 λu h1 h2=> #[u,h1,Rep.st h2<|e.wide s]],λh e=>#[λa z=>h.1 a<|(e a).mpr z,h.2]]
structure OL(α:Type) where
 l:List α
instance{α:Type}[Rep α]:Ow (OL α):=#[λF R H x v=>∃a vs,v=↑(.ref a)/\(∀b,F b↔b=a)/\H a=↑(.lst vs)/\Paired (rp R H) x.l vs,
 λh e s n=>by
  refine e2a4 h λa vs h1 h2 h3 h4=>?_
  exact#[a,vs,h1,h2,e.keep a _ (n a<|(h2 a).mpr rfl) h3,vT (e.wide s) h4],
 λh e=>by
  refine e2a4 h λa vs h1 h2 h3 h4=>?_
  exact#[a,vs,h1,λb=>(e b).symm.trans (h2 b),h3,h4]]
class Sls(D:Type) where
 rel:Rg->Rg->Hp->D->St->Prop
 st:∀{F G R:Rg} {H:Hp} {R':Rg} {H':Hp} {d:D} {σ:St},rel F R H d σ->Ext G R H R' H'->(∀a,G a->R a)->(∀a,F a->¬G a)->rel F R' H' d σ
 fq:∀{F F' R:Rg} {H:Hp} {d:D} {σ:St},rel F R H d σ->(∀a,F a↔F' a)->rel F' R H d σ
open Sls (rel)
instance:Sls Unit:=#[λF _ _ _ σ=>σ=[]/\∀a,¬F a,λh _ _ _=>h,λh e=>#[h.1,λa z=>h.2 a ((e a).mpr z)]]
structure C7(F F1 F2:Rg):Prop where
 all:∀a,F a↔F1 a\/F2 a
 xZ:∀a,F1 a->F2 a->False
instance{τ D:Type}[Ow τ][Sls D]:Sls (τ×D):=#[λF R H d σ=>∃v σ' F1 F2,σ=v::σ'/\C7 F F1 F2/\sl F1 R H d.1 v/\rel F2 R H d.2 σ',
 λh e s n=>by
  refine e4a4 h λv σ' F1 F2 h1 h2 h3 h4=>?_
  exact#[v,σ',F1,F2,h1,h2,Ow.st h3 e s<|λa z=>n a<|(h2.all a).mpr<|.inl z,Sls.st h4 e s<|λa z=>n a<|(h2.all a).mpr<|.inr z],
 λh e=>by
  refine e4a4 h λv σ' F1 F2 h1 h2 h3 h4=>?_
  exact#[v,σ',F1,F2,h1,#[λa=>(e a).symm.trans (h2.all a),h2.xZ],h3,h4]]
class At(i:Nat)(B:Type)[Sls B](τ:outParam Type)[Ow τ](B':outParam Type)[Sls B'] where
 get:B->τ
 hole:B->B'
 take:∀{F R:Rg} {H:Hp} {b:B} {σ:St},rel F R H b σ->∃v F1 F2,σ[i]?=↑v/\C7 F F1 F2/\sl F1 R H (get b) v/\rel F2 R H (hole b) σ
class Pt(i:Nat)(B':Type)[Sls B'](τ:Type)[Ow τ](B:outParam Type)[Sls B] where
 put:B'->τ->B
 back:∀{F F1 F2 R:Rg} {H:Hp} {b:B'} {x:τ} {v:Option V} {σ:St},rel F2 R H b σ->C7 F F1 F2->sl F1 R H x v->rel F R H (put b x) (σ.set i v)
def set_same:∀{l:List b} {i:Nat} {v:b},l[i]?=↑v->l.set i v=l
 | [],_,_,h=>by simp at h
 |_::_,0,_,h=>by simp at h;subst h;rfl
 |a::r,i+1,v,h=>by show a::r.set i v=a::r;rw[set_same<|by simpa using h]
def Pt.same{i:Nat}{B' τ B:Type}[Sls B'][Ow τ][Sls B][A:Pt i B' τ B]{F F1 F2 R:Rg}{H:Hp}{b:B'}{x:τ}{v:Option V}{σ:St}(h:rel F2 R H b σ)(e:σ[i]?=↑v)(t:C7 F F1 F2)(s:sl F1 R H x v):rel F R H (A.put b x) σ:=by have:=A.back h t s;rw[set_same e]at this;exact this
noncomputable instance at0{τ D:Type}[Ow τ][Sls D]:At 0 (τ×D) τ (Un×D) where
 get b:=b.1
 hole b:=(#[],b.2)
 take:=λh=>by refine e4a4 h λv σ' F1 F2 h1 h2 h3 h4=>?_;exact#[v,F1,F2,by rw[h1];rfl,h2,h3,v,σ',λ_=>False,F2,h1,#[λa=>#[.inr,λz=>z.elim (λq=>q.elim) id],λ_ z _=>z],λ_ z=>z,h4]
noncomputable instance pt0{τ D:Type}[Ow τ][Sls D]:Pt 0 (Un×D) τ (τ×D) where
 put b x:=(x,b.2)
 back:=λ{F F1 F2 R H b x v σ} h t s=>by refine e4a4 h λv' σ' G1 G2 h1 h2 h3 h4=>?_;have e2:∀a,G2 a↔F2 a:=λa=>#[λz=>(h2.all a).mpr<|.inr z,λz=>((h2.all a).mp z).elim (λq=>g8 q<|h3 a) id];exact#[_,σ',F1,F2,by rw[h1];rfl,t,s,Sls.fq h4 e2]
noncomputable instance atS{i:Nat}{ρ τ D D':Type}[Ow ρ][Ow τ][Sls D][Sls D'][A:At i D τ D']:At (i+1) (ρ×D) τ (ρ×D') where
 get b:=A.get b.2
 hole b:=(b.1,A.hole b.2)
 take:=λh=>by
  refine e4a4 h λv σ' F1 F2 h1 h2 h3 h4=>?_;refine e3a4 (A.take h4) λu G1 G2 k1 k2 k3 k4=>?_;refine#[u,G1,λa=>F1 a\/G2 a,by rw[h1];simpa using k1,#[λa=>?_,λa z q=>?_],k3,v,σ',F1,G2,h1,#[λa=>Iff.rfl,λa z q=>h2.xZ a z<|(k2.all a).mpr<|.inr q],h3,k4]
  ·rw[h2.all,k2.all];exact#[λz=>z.elim (λq=>.inr<|.inl q) λz=>z.elim .inl λq=>.inr<|.inr q,λz=>z.elim (λq=>.inr<|.inl q) λz=>z.elim .inl λq=>.inr<|.inr q]
  ·rcases q with q|q
   ·exact h2.xZ a q<|(k2.all a).mpr<|.inl z
   ·exact k2.xZ a z q
noncomputable instance ptS{i:Nat}{ρ τ D D':Type}[Ow ρ][Ow τ][Sls D][Sls D'][A:Pt i D' τ D]:Pt (i+1) (ρ×D') τ (ρ×D) where
 put b x:=(b.1,A.put b.2 x)
 back:=λ{F F1 F2 R H b x v σ} h t s=>by
  refine e4a4 h λv' σ' G1 G2 h1 h2 h3 h4=>?_;have t':C7 (λa=>F1 a\/G2 a) F1 G2:=#[λa=>Iff.rfl,λa z q=>t.xZ a z<|(h2.all a).mpr<|.inr q];refine⟨v',σ'.set i v,G1,λa=>F1 a\/G2 a,by rw[h1];rfl,#[λa=>?_,λa z q=>?_],h3,A.back h4 t' s⟩
  ·rw[t.all,h2.all];exact#[λz=>z.elim (λq=>.inr<|.inl q) λz=>z.elim .inl λq=>.inr<|.inr q,λz=>z.elim (λq=>.inr<|.inl q) λz=>z.elim .inl λq=>.inr<|.inr q]
  ·rcases q with q|q
   ·exact t.xZ a q<|(h2.all a).mpr<|.inl z
   ·exact h2.xZ a z q
class Fg(D:Type)[Sls D](D':Type)[Sls D'] where
 fg:D->D'
 le:∀{F R:Rg} {H:Hp} {d:D} {σ:St},rel F R H d σ->∃F',(∀a,F' a->F a)/\rel F' R H (fg d) σ
noncomputable instance fgId{D:Type}[Sls D]:Fg D D:=#[id,λh=>#[_,λ_ z=>z,h]]
def two_le{F d e b c:Rg}(t:C7 F d e)(f:∀a,b a->d a)(g:∀a,c a->e a):C7 (λa=>b a\/c a) b c:=#[λ_=>Iff.rfl,λa x y=>t.xZ a (f a x)<|g a y]
instance(priority:=low) fgUn {τ D D':Type}[Ow τ][Sls D][Sls D'][A:Fg D D']:Fg (τ×D) (Un×D'):=#[λd=>(#[],A.fg d.2),λh=>by
 obtain⟨v,σ',F1,F2,h1,h2,h3,h4⟩:=h;obtain⟨F',k1,k2⟩:=A.le h4
 exact#[_,λa z=>(h2.all a).mpr (.inr (k1 a (z.elim (λq=>q.elim) id))),v,σ',λ_=>False,F',h1,#[λa=>Iff.rfl,λ_ z _=>z],λ_ z=>z,k2]]
noncomputable instance fgCons{τ D D':Type}[Ow τ][Sls D][Sls D'][A:Fg D D']:Fg (τ×D) (τ×D'):=#[λd=>(d.1,A.fg d.2),λh=>by
 refine e4a4 h λv σ' F1 F2 h1 h2 h3 h4=>?_;refine e1a2 (A.le h4) λF' k1 k2=>?_
 exact#[_,λa z=>(h2.all a).mpr (z.elim .inl λq=>.inr (k1 a q)),v,σ',F1,F',h1,two_le h2 (λ_ z=>z) k1,h3,k2]]
class Pj(D:Type)[Sls D](P:Type)[Sls P](n:outParam Nat) where
 pj:D->P
 le:∀{F R:Rg} {H:Hp} {d:D} {σ:St},rel F R H d σ->∃F',(∀a,F' a->F a)/\rel F' R H (pj d) (σ.take n)
noncomputable instance pjNil{D:Type}[Sls D]:Pj D Unit 0:=#[λ_=>(),λh=>#[λ_=>False,λ_ z=>z.elim,rfl,λ_ z=>z]]
instance(priority:=low) pjUn {τ D P:Type}{n:Nat}[Ow τ][Sls D][Sls P][A:Pj D P n]:Pj (τ×D) (Un×P) (n+1):=#[λd=>(#[],A.pj d.2),λh=>by
 obtain⟨v,σ',F1,F2,h1,h2,h3,h4⟩:=h;obtain⟨F',k1,k2⟩:=A.le h4
 exact#[_,λa z=>(h2.all a).mpr (.inr (k1 a (z.elim (λq=>q.elim) id))),v,σ'.take n,λ_=>False,F',by rw[h1];rfl,#[λa=>Iff.rfl,λ_ z _=>z],λ_ z=>z,k2]]
noncomputable instance pjCons{τ D P:Type}{n:Nat}[Ow τ][Sls D][Sls P][A:Pj D P n]:Pj (τ×D) (τ×P) (n+1):=#[λd=>(d.1,A.pj d.2),λh=>by
 refine e4a4 h λv σ' F1 F2 h1 h2 h3 h4=>?_;refine e1a2 (A.le h4) λF' k1 k2=>?_
 exact#[_,λa z=>(h2.all a).mpr (z.elim .inl λq=>.inr (k1 a q)),v,σ'.take n,F1,F',by rw[h1];rfl,two_le h2 (λ_ z=>z) k1,h3,k2]]
class Sel(is:List Nat)(D:Type)[Sls D](S:outParam Type)[Sls S](D0:outParam Type)[Sls D0] where
 sel:D->S
 rest:D->D0
 mrg:D0->S->D
 cut:∀{F R:Rg} {H:Hp} {d:D} {σ:St},rel F R H d σ->∃F1 F2,C7 F F1 F2/\rel F1 R H (sel d) (is.map λi=>σ[i]?.join)/\rel F2 R H (rest d) σ/\∀i∈is,i<σ.length
 join:∀{F F1 F2 R:Rg} {H:Hp} {d:D0} {s:S} {σ:St},C7 F F1 F2->rel F1 R H s (is.map λi=>σ[i]?.join)->rel F2 R H d σ->(∀i∈is,i<σ.length)->rel F R H (mrg d s) σ
noncomputable instance selNil{D:Type}[Sls D]:Sel [] D Unit D where
 sel _:=()
 rest d:=d
 mrg d _:=d
 cut:=λ{F R H d σ} h=>#[λ_=>False,F,#[λa=>#[.inr,λz=>z.elim (λq=>q.elim) id],λ_ z _=>z],#[rfl,λ_ z=>z],h,λ_ z=>by cases z]
 join:=λ{F F1 F2 R H d s σ} t h1 h2 _=>Sls.fq h2 λa=>#[λz=>(t.all a).mpr<|.inr z,λz=>((t.all a).mp z).elim (λq=>g8 q<|h1.2 a) id]
noncomputable instance selCons{i:Nat}{is:List Nat}{D τ D1 S D0:Type}[Sls D][Ow τ][Sls D1][Sls S][Sls D0][A:At i D τ D1][P:Pt i D1 τ D][B:Sel is D1 S D0]:Sel (i::is) D (τ×S) D0 where
 sel d:=(A.get d,B.sel<|A.hole d)
 rest d:=B.rest<|A.hole d
 mrg d s:=P.put (B.mrg d s.2) s.1
 cut:=λ{F R H d σ} h=>by
  refine e3a4 (A.take h) λv F1 F2 h1 h2 h3 h4=>?_;refine e2a4 (B.cut h4) λG1 G2 k1 k2 k3 k4=>?_;have hv:σ[i]?.join=v:=by rw[h1];rfl
  refine#[λa=>F1 a\/G1 a,G2,#[λa=>?_,λa z q=>?_],#[v,_,F1,G1,by rw[h8,hv],#[λ_=>Iff.rfl,λa z q=>h2.xZ a z<|(k1.all a).mpr<|.inl q],h3,k2],k3,λj hj=>?_]
  ·rw[h2.all,k1.all];exact#[λz=>z.elim (λq=>.inl<|.inl q) λz=>z.elim (λq=>.inl<|.inr q) .inr,λz=>z.elim (λz=>z.elim .inl λq=>.inr<|.inl q) λq=>.inr<|.inr q]
  ·rcases z with z|z
   ·exact h2.xZ a z<|(k1.all a).mpr<|.inr q
   ·exact k1.xZ a z q
  ·rcases List.mem_cons.mp hj with e|e
   ·rw[e];exact(List.getElem?_eq_some_iff.mp h1).1
   ·exact k4 j e
 join:=λ{F F1 F2 R H d s σ} t h1 h2 hl=>by
  refine e4a4 h1 λv σ' G1 G2 k1 k2 k3 k4=>?_;rw[h8]at k1;injection k1 with e1 e2;subst e2;have hi:i<σ.length:=hl i gM
  have ev:σ[i]?=↑v:=by rw[jo hi]at e1 ⊢;exact congrArg some e1
  have t2:C7 (λa=>G2 a\/F2 a) G2 F2:=#[λ_=>Iff.rfl,λa z q=>t.xZ a ((k2.all a).mpr<|.inr z) q];refine Pt.same (B.join t2 k4 h2 λj hj=>hl j<|gQ _ hj) ev ⟨λa=>?_,λa z q=>?_⟩ k3
  ·rw[t.all,k2.all];exact#[λz=>z.elim (λz=>z.elim .inl λq=>.inr<|.inl q) λq=>.inr<|.inr q,λz=>z.elim (λq=>.inl<|.inl q) λz=>z.elim (λq=>.inl<|.inr q) .inr]
  ·rcases q with q|q
   ·exact k2.xZ a z q
   ·exact t.xZ a ((k2.all a).mpr<|.inl z) q
structure vQ(T:gH){D:Type}[Sls D](F R:Rg)(H:Hp)(d:D)(σ:St):Prop where
 rel:rel F R H d σ
 sub:∀a,F a->R a
 wT:∀a,R a->H a≠none
 tab:TabAt H T
 vG:R T
 vv:¬F T
def yO(t:TabAt H T):H T≠none:=by refine e1a2 t λa e _=>?_;rw[e];simp
structure Ch(T:gH)(F R:Rg)(H:Hp)(F' R':Rg)(H':Hp):Prop where
 keep:∀b o,¬F b->b≠T->H b=↑o->H' b=↑o
 zP:∀a,R' a->R a\/H a=none
 yd:∀a,F' a->F a\/H a=none
 left:∀a,R a->¬F a->R' a
def Ch.refl(T:gH)(F R:Rg)(H:Hp):Ch T F R H F R H:=#[λ_ _ _ _ h=>h,λ_ h=>.inl h,λ_ h=>.inl h,λ_ h _=>h]
def Ch.trans{T:gH}{D:Type}[Sls D]{d:D}{u:St}{F R k l m p:Rg}{H j r:Hp}(s:vQ T F R H d u)(v:TabAt j T)(a:Ch T F R H k l j)(b:Ch T k l j m p r):Ch T F R H m p r:=by
 have g:∀c,¬F c->H c≠none->¬k c:=λc n h z=>by
  rcases a.yd c z with q|q
  ·exact n q
  ·exact h q
 have f:∀c,j c=none->¬(F c)->H c=none:=λc h n=>by
  cases e:H c with
  |none=>rfl
  |some o =>
   have w:c≠T:=λz=>by rw[z]at h;exact yO v h
   rw[a.keep c o n w e]at h;cases h
 refine#[λc o n t h=>b.keep c o (g c n<|by rw[h];simp) t<|a.keep c o n t h,λc h=>?_,λc h=>?_,λc h n=>b.left c (a.left c h n)<|g c n<|s.wT c h]
 ·rcases b.zP c h with q|q
  ·exact a.zP c q
  ·by_cases i:F c
   ·exact .inl<|s.sub c i
   ·exact .inr<|f c q i
 ·rcases b.yd c h with q|q
  ·exact a.yd c q
  ·by_cases i:F c
   ·exact .inl i
   ·exact .inr<|f c q i
def Ch.ext(c:Ch T F R H f d e):Ext (λa=>F a\/a=T) R H d e:=#[λb o n h=>c.keep b o (λz=>n<|.inl z) (λz=>n<|.inr z) h,c.zP]
def vQ.val{T:gH}{D:Type}[Sls D]{d:D}{σ:St}{F R F' R':Rg}{H H':Hp}(s:vQ T F R H d σ)(c:Ch T F R H F' R' H'){α:Type}[Rep α]{x:α}{v:V}(h:rp R H x v):rp R' H' x v :=
 Rep.st h (c.ext.wide λa z=>z.elim (s.sub a) λq=>by rw[q];exact s.vG)
def vQ.new{T:gH}{D:Type}[Sls D]{d:D}{c:St}{F R:Rg}{H:Hp}(s:vQ T F R H d c){p:gH}(o:HO)(f:H p=none):vQ T F R (upd H p o) d c/\Ch T F R H F R (upd H p o)/\¬R p:=by
 have g:¬R p:=λz=>s.wT p z f;have k:∀b u,H b=↑u->upd H p o b=↑u:=λb u e=>by rw[uL<|uU e f];exact e
 refine#[#[Sls.st s.rel (G:=λ_=>False) #[λb u _ e=>k b u e,λa h=>.inl h] (λ_ z=>z.elim)<|λ_ _ z=>z,s.sub,λa z=>?_,?_,s.vG,s.vv],#[λb u _ _ e=>k b u e,λa h=>.inl h,λa h=>.inl h,λa h _=>h],g]
 ·cases e:H a with
  |none=>exact g8 e<|s.wT a z
  |some u=>rw[k a u e];simp
 ·refine e1a2 s.tab λi e t=>?_;exact#[i,k _ _ e,t]
def EW(X:Cx)(E:XK)(T:gH)(e:iD){D α:Type}[Sls D][Rep α](w:Wf D α D):Prop :=
 ∃t,PE X e t/\∀(d:D)(F R:Rg)(σ:St)(H:Hp)(Kn:α->D->Prop)(Ke:gH->D->Prop)(Q:VK),vQ T F R H d σ->w d Kn Ke ->
  (∀x d' v F' R' H',Kn x d'->Ch T F R H F' R' H'->vQ T F' R' H' d' σ->rp R' H' x v->Q v H') ->
  (∀C y d' F' R' H',Ke C d'->Ch T F R H F' R' H'->vQ T F' R' H' d' σ->E (.ref C) ↑y H')->t σ H Q
@[reducible] def cK{D K a:Type}(w:D->a->66->Prop)(g:K->a):D->K->66->Prop:=λd b c=>w d (g b) c
@[reducible] def cB{D a K b:Type}(w:Wf D a D)(v:D->b->66->Prop)(g:a->K->b):D->K->66->Prop:=λd e c=>w d (λx f=>v f (g x e) c) c
@[reducible] def cA{D:Type}(w v:Wf D Bool D):D->(Bool->D->Prop)->66->Prop:=λd a b=>w d (λx c=>if x=true then v c a b else a false c) b
@[reducible] def cO{D:Type}(w v:Wf D Bool D):D->(Bool->D->Prop)->66->Prop:=λd a b=>w d (λx c=>if x=true then a true c else v c a b) b
@[reducible] def cC{D e P B g a:Type}(w:D->(P->B->g->Prop)->66->Prop)(f:Wf P e a)(m:B->g->a->D):D->(e->D->Prop)->66->Prop:=λd i h=>w d (λp b l=>f p (λx c=>i x<|m b l c) λC c=>h C<|m b l c) h
@[reducible] def cM{D e g P B h a:Type}(w:D->(P->B->h->Prop)->66->Prop)(f:Wf (g×P) e a)(t:B->g)(m:B->h->a->D):D->(e->D->Prop)->66->Prop:=λd j i=>w d (λp b l=>f (t b,p) (λx c=>j x<|m b l c) λC c=>i C<|m b l c) i
@[reducible] def cN{D i e P B g a:Type}(w:D->(P->B->g->Prop)->66->Prop)(f:Wf (e×P) i a)(t:B->e)(m:B->g->a->D):D->(D->Prop)->66->Prop:=λd j h=>w d (λp b l=>f (t b,p) (λ_ c=>j<|m b l c) λC c=>h C<|m b l c) h
@[reducible] def cS{D a b c e:Type}(w:D->e->66->Prop)(j:D->b)(g:(a->Prop)->c->e):D->(a->Prop)->c->(gH->b->Prop)->Prop:=λd f h i=>w d (g f h) λC k=>i C<|j k
@[reducible] def cG{D a D' b c:Type}(w:D->(a->Prop)->b->c->Prop)(g:a->D'):D->(D'->Prop)->b->c->Prop:=λd e f h=>w d (λi=>e<|g i) f h
@[reducible] def cI{D e a f:Type}(w:Wf D Bool D)(u v:D->(e->Prop)->f->(gH->a->Prop)->Prop)(j:D->a):D->(e->Prop)->f->(gH->a->Prop)->Prop:=λd g h c=>w d (λb i=>if b=true then u i g h c else v i g h c) λC k=>c C<|j k
@[reducible] def cW{D c a e:Type}(w:Wf D Bool D)(v:D->(c->Prop)->e->(gH->a->Prop)->Prop)(g:c->D)(j:D->a):D->(D->Prop)->e->(gH->a->Prop)->Prop:=λd k l f=>∃W:Nat->D->Prop,(∃m,W m d)/\∀m d,W m d->w d (λb h=>if b=true then v h (λn=>∃i,i<m/\W i (g n)) l f else k h) λC o=>f C<|j o
@[reducible] def cT{D a b:Type}(w:D->(D->Prop)->66->Prop)(v:D->(D->Prop)->b->(gH->a->Prop)->Prop)(e:List gH):D->(D->Prop)->b->(gH->a->Prop)->Prop:=λd c f g=>w d c λC h=>C∈e/\v h c f g
structure Nw(T:gH){τ:Type}[Ow τ](F1 F2 R:Rg)(H:Hp)(x:τ)(v:V):Prop where
 is:sl F1 R H x ↑v
 sub:∀a,F1 a->R a
 xZ:∀a,F1 a->F2 a->False
 tab:¬F1 T
def EO(X:Cx)(E:XK)(T:gH)(e:iD){D h:Type}[Sls D][Ow h](w:Wf D h D):Prop :=
 ∃t,PE X e t/\∀(d:D)(F R:Rg)(g:St)(H:Hp)(j:h->D->Prop)(k:gH->D->Prop)(Q:VK),vQ T F R H d g->w d j k ->
  (∀x f v l i c b,j x f->Ch T F R H (λa=>l a\/i a) c b->vQ T i c b f g->Nw T l i c b x v->Q v b) ->
  (∀C y f m c b,k C f->Ch T F R H m c b->vQ T m c b f g->E (.ref C) ↑y b)->t g H Q
def TW(X:Cx)(E:XK)(T:gH)(e:iD){D:Type}[Sls D](w:Wf D Bool D):Prop :=
 ∃t,PT X e t/\∀(d:D)(F R:Rg)(g:St)(H:Hp)(h:Bool->D->Prop)(i:gH->D->Prop)(Q:Bool->Hp->Prop),vQ T F R H d g->w d h i ->
  (∀x b c f a,h x b->Ch T F R H c f a->vQ T c f a b g->Q x a) ->
  (∀C y b c f a,i C b->Ch T F R H c f a->vQ T c f a b g->E (.ref C) ↑y a)->t g H Q
section
variable{D:Type}[Sls D]
def WC{F R F1 F2 R':Rg}{H H':Hp}{d d':D}{σ:St}{α:Type}[Rep α]{x:OL α}{v:V}(s:vQ T F R H d σ)(c:Ch T F R H (λa=>F1 a\/F2 a) R' H')(s':vQ T F2 R' H' d' σ)(n:Nw T F1 F2 R' H' x v) :
  ∃Jq,Ch T F R H F2 Jq H'/\vQ T F2 Jq H' d' σ/\rp Jq H' x.l v:=by
 have ex:Ext (λ_=>False) R' H' (λa=>R' a/\¬F1 a) H':=#[λ_ _ _ h=>h,λa h=>.inl h.1];refine#[λa=>R' a/\¬F1 a,#[c.keep,λa h=>c.zP a h.1,λa h=>c.yd a<|.inr h,λa h k=>#[c.left a h k,λz=>?_]],#[Sls.st s'.rel ex (λ_ z=>z.elim)<|λ_ _ z=>z,λa h=>#[s'.sub a h,λz=>n.xZ a z h],λa h=>s'.wT a h.1,s'.tab,#[s'.vG,n.tab],s'.vv],?_]
 ·rcases c.yd a (.inl z) with q|q
  ·exact k q
  ·exact s.wT a h q
 ·refine e2a4 n.is λa vs h1 h2 h3 h4=>?_;cases h1;exact#[a,vs,rfl,λz=>z.2<|(h2 a).mpr rfl,h3,vT (ex.wide λ_ z=>z.elim) h4]
def vz{α:Type}[Rep α]{w:Wf D (OL α) D}(h:EO X E T e w):EW X E T e (cK w λKn x d'=>Kn x.l d'):=by refine e1a2 h λt h1 h2=>?_;refine#[t,h1,λd F R σ H Kn Ke Q s hw kn ke=>h2 d F R σ H _ Ke Q s hw (λx d' v F1 F2 R' H' q c s' n=>?_) ke];refine e1a3 (WC s c s' n) λJq c2 s2 r=>?_;exact kn x.l d' v F2 Jq H' q c2 s2 r
def xk{F R:Rg}{H:Hp}{d:D}{σ:St}{α:Type}[Rep α]{xs:List α}{vs:List V}{p:gH}(s:vQ T F R H d σ)(hp:H p=none)(h:Paired (rp R H) xs vs) :
  ∃R',Ch T F R H (λa=>a=p\/F a) R' (upd H p<|.lst vs)/\vQ T F R' (upd H p<|.lst vs) d σ/\Nw T (λa=>a=p) F R' (upd H p<|.lst vs) (OL.mk xs) (.ref p):=by
 refine e0a3 (s.new (.lst vs) hp) λs1 c1 n1=>?_;have nF:¬F p:=λz=>n1<|s.sub p z;have ex:Ext (λ_=>False) R H (λa=>R a\/a=p) (upd H p<|.lst vs):=⟨λb o _ h=>by rw[uL<|uU h hp];exact h,λa h=>h.elim .inl λq=>.inr<|by rw[q];exact hp⟩;refine⟨λa=>R a\/a=p,#[c1.keep,ex.new,λa h=>h.elim (λq=>.inr<|by rw[q];exact hp) .inl,λa h _=>.inl h],#[Sls.st s.rel ex (λ_ z=>z.elim)<|λ_ _ z=>z,λa h=>.inl<|s.sub a h,λa h=>?_,s1.tab,.inl s.vG,s.vv],#[#[p,vs,rfl,λb=>Iff.rfl,uO,vT (ex.wide λ_ z=>z.elim) h],λa h=>.inr h,λa h k=>nF (by rw[<- h];exact k),λh=>n1<|by rw[<- h];exact s.vG]⟩;rcases h with h|h
 ·exact s1.wT a h
 ·rw[h,uO];simp
def Tc{i:Nat}{τ D':Type}[Ow τ][Sls D'][A:At i D τ D']{F R:Rg}{H:Hp}{d:D}{σ:St}(s:vQ T F R H d σ):∃v F1 F2,σ[i]?=↑v/\C7 F F1 F2/\sl F1 R H (A.get d) v/\rel F2 R H (A.hole d) σ:=A.take s.rel
def ss[Rep a][Sls c](i:Nat)[A:At i D a c](e:PE X 88 (vr i):=by exact pv _):EW X E T 88 (λ(d:D)(b:a->D->Prop) _=>b (A.get d) d):=by refine#[_,e,λd F R k H b l Q s f g _=>?_];obtain⟨v,m,n,h,o,⟨_,u,rfl,j⟩,_⟩:=A.take s.rel;exact#[u,h,g _ d u F R H f 53 s j]
def uP{n:Int}{k:Nat}:EW X E T (.Constant (.int n) k pos) (λ(d:D)(a:Int->D->Prop) _=>a n d) :=
 #[_,vk,λd F R e H a f Q s b c _=>c n d _ F R H b 53 s rfl]
def x8{b:Bool}{k:Nat}:EW X E T (.Constant (.bool b) k pos) (λ(d:D)(a:Bool->D->Prop) _=>a b d) :=
 #[_,X5,λd F R f H a g Q s c e _=>e b d _ F R H c 53 s rfl]
def J4{k:Nat}:EW X E T (.Constant .none k pos) (λ(d:D)(a:Unit->D->Prop) _=>a () d) :=
 #[_,Jw,λd F R e H a f Q s b c _=>c () d _ F R H b 53 s rfl]
def Pq{α β γ:Type}[Rep α][Rep β][Rep γ]{wa:Wf D α D}{wb:Wf D β D}{c:α->β->Prop}{g:α->β->γ}
 (ha:EW X E T a wa) (hb:EW X E T b wb) (he:∀ta tb,PE X a ta->PE X b tb->PE X e (XM r ta tb))
 (hr:∀{R:Rg} {H:Hp} {x:α} {y:β} {u v:V} {Q:VK},rp R H x u->rp R H y v->c x y->(∀z,rp R H (g x y) z->Q z H)->r u v H Q) :
    EW X E T e (cB wa wb λx Kn y d2=>c x y/\Kn (g x y) d2):=by
  refine e1a2 ha λta a1 a2=>?_
  refine e1a2 hb λtb b1 b2=>?_
  refine#[_,he ta tb a1 b1,λd F R σ H Kn Ke Q s hw kn ke=>?_]
  refine a2 d F R σ H _ Ke _ s hw (λx d1 u F1 R1 H1 q1 c1 s1 r1=>?_) ke
  refine b2 d1 F1 R1 σ H1 _ Ke _ s1 q1 (λy d2 v F2 R2 H2 q2 c2 s2 r2=>?_) λC y d' F' R' H' k c s'=>ke C y d' F' R' H' k (Ch.trans s s1.tab c1 c) s'
  exact hr (s1.val c2 r1) r2 q2.1 λz rz=>kn _ d2 z F2 R2 H2 q2.2 (Ch.trans s s1.tab c1 c2) s2 rz
def WD{α γ:Type}[Rep α][Rep γ]{r:V->Hp->VK->Prop}{wa:Wf D α D}{c:α->Prop}{g:α->γ}
 (ha:EW X E T a wa) (he:∀ta,PE X a ta->PE X e (tUn r ta)) (hr:∀{R:Rg} {H:Hp} {x:α} {u:V} {Q:VK},rp R H x u->c x->(∀z,rp R H (g x) z->Q z H)->r u H Q) :
    EW X E T e (cK wa λKn x d1=>c x/\Kn (g x) d1):=by
  refine e1a2 ha λta a1 a2=>?_
  refine#[_,he ta a1,λd F R σ H Kn Ke Q s hw kn ke=>?_]
  refine a2 d F R σ H _ Ke _ s hw (λx d1 u F1 R1 H1 q1 c1 s1 r1=>?_) ke
  exact hr r1 q1.1 λz rz=>kn _ d1 z F1 R1 H1 q1.2 c1 s1 rz
def Pr{c:Int->Int->Prop}{g:Int->Int->Int}{f h:Wf D Int D}(l:AH X (mj op) (rI c λi j=>.int<|g i j))(m:EW X E T a f)(n:EW X E T b h) :
  EW X E T (.BinOp a op b pos) (cB f h λx o y p=>c x y/\o (g x y) p) :=
 Pq (γ:=Int) m n (λr s d e=>wC l d e) λd e q k=>#[_,_,d,e,q,k _ rfl]
def zg{g:Int->Int->Int}{wa wb:Wf D Int D}(ho:AH X (mj op) (RT λi j=>.int<|g i j))(ha:EW X E T a wa)(hb:EW X E T b wb) :
  EW X E T (.BinOp a op b pos) (cB wa wb λx Kn y d2=>Kn (g x y) d2):=by
 have h:=Pq (c:=λ_ _=>True) (γ:=Int) (g:=g) (e:=.BinOp a op b pos) ha hb (λta tb h1 h2=>wC ho h1 h2) λh1 h2 _ k=>#[_,_,h1,h2,k _ rfl];simp only[true_and]at h;exact h
class Iy(α:Type)[Rep α][DecidableEq α] where
 sc:∀{R:Rg} {H:Hp} {x y:α} {u v:V},rp R H x u->rp R H y v->V6 u v=true/\decide (u=v)=decide (x=y)
instance:Iy Int:=#[λ{R H x y u v} h1 h2=>by
 subst h1;subst h2;refine#[rfl,?_];by_cases e:x=y
 ·rw[e];simp
 ·rw[ij e,ij (λz=>e (by cases z;rfl))]]
instance:Iy Bool:=#[λ{R H x y u v} h1 h2=>by
 subst h1;subst h2;refine#[rfl,?_]
 cases x<;>cases y<;>rfl]
def LY{α:Type}[Rep α]{x:Option α}(h:rp R H x u):decide (u=.wm)=x.isNone:=by
 cases x with
 |none=>have h:u=.wm:=h;rw[h];rfl
 |some y=>exact ij h.1
end
variable[L2.GX]
section
variable{D:Type}[Sls D]
def uX{b:Type}[Rep b]{w:Wf D b D}(h:EO X E T e w):EW X E T e w:=by refine e1a2 h λt f g=>?_;refine#[t,f,λd F R i H B j Q s k l m=>g d F R i H _ j Q s k (λx o v C p r y q c z n=>?_) m];obtain⟨G,u,e,A⟩:=n.is;cases e;exact l x o v p r y q #[c.keep,c.zP,λa h=>c.yd a<|.inr h,c.left] z A
def vd{b:Type}[Rep b]{w:Wf D b D}(h:EW X E T e w):EO X E T e w:=by refine e1a2 h λt f g=>?_;refine#[t,f,λd F R i H A j Q s k l m=>g d F R i H _ j Q s k (λx n v o p u q c y r=>?_) m];exact l x n v (λ_=>False) o p u q #[c.keep,c.zP,λa h=>c.yd a<|h.elim (λz=>z.elim) id,c.left] y #[#[λ_ z=>z,v,rfl,r],λ_ z=>z.elim,λ_ z=>z.elim,λz=>z]
end
class Hs(τ:Type)[Ow τ]:Prop where
 has:∀{F R:Rg} {H:Hp} {x:τ} {v:Option V},sl F R H x v->∃u,v=↑u
instance{α:Type}[Rep α]:Hs (OL α):=#[λz9=>e2a2 z9 λa _ h _=>#[_,h]]
instance{α:Type}[Rep α]:Hs α:=#[λz9=>e0a2 z9 λ_ z39=>e1a2 z39 λu h _=>#[u,h]]
structure Std(T:gH)(F R:Rg)(H:Hp):Prop where
 sub:∀a,F a->R a
 wT:∀a,R a->H a≠none
 tab:TabAt H T
 vG:R T
 vv:¬F T
def vQ.Ny{T:gH}{D:Type}[Sls D]{F R:Rg}{H:Hp}{d:D}{a:St}(s:vQ T F R H d a):Std T F R H:=#[s.sub,s.wT,s.tab,s.vG,s.vv]
def Std.stt{T:gH}{D:Type}[Sls D]{F R:Rg}{H:Hp}{d:D}{a:St}(s:Std T F R H)(h:rel F R H d a):vQ T F R H d a:=#[h,s.sub,s.wT,s.tab,s.vG,s.vv]
section
variable{D:Type}[Sls D]
def two_nil(F:Rg):C7 F (λ_=>False) F:=#[λ_=>#[.inr,λz=>z.elim (λq=>q.elim) id],λ_ z _=>z]
def two_eq(t:C7 F b c)(n:∀a,¬b a):∀a,c a↔F a:=λa=>#[λz=>(t.all a).mpr<|.inr z,λz=>((t.all a).mp z).elim (λq=>g8 q<|n a) id]
end
def ye(T:gH){P d f:Type}[Sls P][Sls d][Ow f](w:Wf P f d):Sp:=λg H Q E=>∃(F R:Rg)(p:P)(i:f->d->Prop)(j:gH->d->Prop),vQ T F R H p (g.map some)/\w p i j /\
 (∀x e v k h c b,i x e->Ch T F R H (λa=>k a\/h a) c b->vQ T h c b e (g.map some)->Nw T k h c b x v->Q v b) /\
 (∀C y e l c b,j C e->Ch T F R H l c b->vQ T l c b e (g.map some)->E (.ref C) ↑y b)
def Ag(c:List Nat)(b a:St):Prop:=a.length=b.length/\∀i∈c,a[i]?=b[i]?
def Ag.refl(b:List Nat)(a:St):Ag b a a:=#[rfl,λ_ _=>rfl]
def Ag.trans(a:Ag e f c)(b:Ag e c d):Ag e f d:=#[b.1.trans a.1,λi h=>(b.2 i h).trans<|a.2 i h]
def Ag.set{i:Nat}(h:i∉a):Ag a b (b.set i v):=#[lZ,λj c=>mS λe=>h<|by rw[e];exact c]
structure RY(P:Type)[Sls P](ms:List Nat)(n:Nat):Prop where
 dp:∀{F R:Rg} {H:Hp} {p:P} {σ σ':St},Ag ms σ σ'->rel F R H p (σ'.take n)->rel F R H p (σ.take n)
class Dp(P:Type)[Sls P](n:outParam Nat)(l:outParam (List Nat)):Prop where
 dp:RY P l n
instance dp0:Dp Unit 0 []:=#[#[λ{F R H p σ σ'} _ h=>#[rfl,h.2]]]
instance(priority:=high) dpU {P:Type}{n:Nat}{l:List Nat}[Sls P][A:Dp P n l]:Dp (Un×P) (n+1) (l.map (· + 1)):=#[#[λ{F R H p σ σ'} a r=>by
 refine e4a4 r λv ZV F1 F2 h1 h2 h3 h4=>?_
 cases σ' with
 |nil=>cases h1
 |cons v' r' =>
  cases σ with
  |nil=>have:=a.1;simp at this
  |cons u r =>
   injection h1 with e1 e2;subst e2;refine#[u,r.take n,F1,F2,rfl,h2,h3,A.dp.dp (σ':=r') #[by have:=a.1;simpa using this,λi hi=>?_] h4];have:=a.2 (i+1)<|List.mem_map.mpr #[i,hi,rfl]
   simpa using this]]
instance dpO{τ P:Type}{n:Nat}{l:List Nat}[Ow τ][Sls P][A:Dp P n l]:Dp (τ×P) (n+1) (0::l.map (· + 1)):=#[#[λ{F R H p σ σ'} a r=>by
 refine e4a4 r λv ZV F1 F2 h1 h2 h3 h4=>?_
 cases σ' with
 |nil=>cases h1
 |cons v' r' =>
  cases σ with
  |nil=>have:=a.1;simp at this
  |cons u r =>
   injection h1 with e1 e2;subst e2
   have e0:v'=u:=by have:=a.2 0 gM;simpa using this
   subst e0;subst e1;refine#[v',r.take n,F1,F2,rfl,h2,h3,A.dp.dp (σ':=r') #[by have:=a.1;simpa using this,λi hi=>?_] h4];have:=a.2 (i+1)<|gQ _<|List.mem_map.mpr #[i,hi,rfl]
   simpa using this]]
def vn[Sls P]{n:Nat}[A:Dp P n l](h:∀i∈l,i∈b):RY P b n:=#[λa r=>A.dp.dp #[a.1,λi c=>a.2 i<|h i c] r]
def Vm(E:XK)(T:gH)(u:List Nat)(n:Nat)(t:TS){D j f k:Type}[Sls D][Sls j][Sls f][Ow k](w:D->(j->Prop)->(k->f->Prop)->(gH->f->Prop)->Prop):Prop :=
 ∀(d:D)(F R:Rg)(g:St)(H:Hp)(o:j->Prop)(p:k->f->Prop)(q:gH->f->Prop)(l:Ends),vQ T F R H d g->w d o p q ->
  (∀r h c b e,o r->Ch T F R H h c b->vQ T h c b r e->Ag u g e->l.nx e b) ->
  (∀x i v s m c b,p x i->Ch T F R H (λa=>s a\/m a) c b->vQ T m c b i (g.take n)->Nw T s m c b x v->l.rt v b) ->
  (∀C y i h c b,q C i->Ch T F R H h c b->vQ T h c b i (g.take n)->E (.ref C) ↑y b)->t l g H
def S1(X:Cx)(E:XK)(T:gH)(d:List Nat)(n:Nat)(e:ic){D b a c:Type}[Sls D][Sls b][Sls a][Ow c](w:D->(b->Prop)->(c->a->Prop)->(gH->a->Prop)->Prop):Prop:=∃t,PS X e t/\Vm E T d n t w
def SW(X:Cx)(E:XK)(T:gH)(e:List Nat)(n:Nat)(a:List ic){D c b d:Type}[Sls D][Sls c][Sls b][Ow d](w:D->(c->Prop)->(d->b->Prop)->(gH->b->Prop)->Prop):Prop:=∃t,EU X a t/\Vm E T e n t w
section
variable{D D' D1 PO τ:Type}[Sls D][Sls D'][Sls D1][Sls PO][Ow τ]
def vi:SW X E T f n [] (λ(d:D)(a:D->Prop)(_:τ->PO->Prop) _=>a d) :=
 #[_,y8,λd F R b H a g h i s c e _ _=>e d F R H b c 53 s<|Ag.refl _ _]
def Pu:SW X E T e n a (λ(d:D)(b:D'->Prop)(_:τ->PO->Prop) _=>False) :=
 #[_,MU,λd F R f H b g h i s c j _ _=>c.elim]
def a0W{t:TS}[A:Fg D1 D']{w:D->(D1->Prop)->93->81->Prop}(f:Vm E T g n t w):Vm E T g n t (cG (D':=D') w A.fg):=by refine λd F R i H x j k l s m o p r=>f d F R i H _ j k l s m (λy z u v e q c b a=>?_) p r;refine e1a2 (A.le b.rel) λG g1 g2=>?_;exact o _ G u v e q #[c.keep,c.zP,λa h=>c.yd a<|g1 a h,c.left] ⟨g2,λa h=>b.sub a<|g1 a h,b.wT,b.tab,b.vG,λh=>b.vv<|g1 _ h⟩ a
def LZ{a:List ic}[A:Fg D1 D']{w:D->(D1->Prop)->93->81->Prop}(h:SW X E T b n a w):SW X E T b n a (cG (D':=D') w A.fg) :=
 e1a2 h λt c d=> #[t,c,a0W d]
def Vn{A:D->(D1->Prop)->93->81->Prop}{B:D1->(D'->Prop)->93->81->Prop}(G:RY PO k n)(L:Vm E T k n M A)(N:Vm E T k n O B) :
  Vm E T k n (Jy M O) (λd l b e=>A d (λo=>B o l b e) b e):=by
 refine λd F R P H l b e Q s S U I J=>L d F R P H _ b e _ s S (λo W X Y p q r j t=>?_) I J;refine N o W X p Y l b e Q j q (λZ u f h w i c a g=>U Z u f h w i (Ch.trans s j.tab r c) a<|t.trans g) (λx z v M1 M2 f h i c a m=>?_) λC y z u f h i c a=>?_
 ·exact I x z v M1 M2 f h i (Ch.trans s j.tab r c) #[G.dp t a.rel,a.sub,a.wT,a.tab,a.vG,a.vv] m
 ·exact J C y z u f h i (Ch.trans s j.tab r c) #[G.dp t a.rel,a.sub,a.wT,a.tab,a.vG,a.vv]
def Dj{c:ic}{a:List ic}{w1:D->(D1->Prop)->93->81->Prop}{w2:D1->(D'->Prop)->93->81->Prop}(g:RY PO b n)(h:S1 X E T b n c w1)(i:SW X E T b n a w2) :
  SW X E T b n (c::a) (λd j e f=>w1 d (λk=>w2 k j e f) e f) :=
 e1a2 h λq l m=> e1a2 i λr o p=> #[_,vU l o,Vn g m p]
def uM{a:ic}{b:D->(D'->Prop)->93->81->Prop}(c:S1 X E T d n a b):SW X E T d n [a] b :=
 e1a2 c λg e f=> #[_,xz e,f]
def wp[A:Pj D PO n](s:vQ T c e f d g):∃G,(∀a,G a->c a)/\vQ T G e f (A.pj d) (g.take n):=by refine e1a2 (A.le s.rel) λG b i=>?_;exact#[G,b,i,λa h=>s.sub a<|b a h,s.wT,s.tab,s.vG,λh=>s.vv<|b _ h]
def Ch.less(c:Ch T F R H b d e)(g:∀a,G a->b a):Ch T F R H G d e:=#[c.keep,c.zP,λa h=>c.yd a<|g a h,c.left]
def uZ[A:Pj D PO n](h:EO X E T e p):S1 X E T M n (.Return ↑e pos) (cS p A.pj λ(_:D'->Prop)(o:τ->PO->Prop) x f=>o x<|A.pj f):=by
 refine e1a2 h λt r u=>?_;refine#[_,B8 r,λd F R w H N o O P s B Q I J=>u d F R w H _ _ _ s B (λx f v L S g i q c j m=>?_) λC y f U g i q c j=>?_]
 ·refine e1a2 (wp (PO:=PO) j) λG b l=>?_;exact I x _ v L G g i q (c.less λa h=>h.elim .inl λz=>.inr<|b a z) l ⟨m.is,m.sub,λa h k=>m.xZ a h<|b a k,m.tab⟩
 ·refine e1a2 (wp (PO:=PO) j) λG b l=>?_;exact J C y _ G g i q (c.less b) l
def vY{i:Type}[Rep i][A:Pj D PO n]{j:Wf D i D}(h:EW X E T e j)(p:jN e none pos.line X.env=pure false:=by rfl) :
  S1 X E T M n (.Expr e pos) (cS j A.pj λ(k:D->Prop)(r:τ->PO->Prop) _ a=>k a):=by
 refine e1a2 h λt u w=>?_;refine#[_,Bi u p,λd F R l H k r N O s z B P I=>w d F R l H _ _ _ s z (λx a v o b f q c g m=>B a o b f l q c g<|Ag.refl _ _) λC y a o b f q c g=>?_];refine e1a2 (wp (PO:=PO) g) λG J L=>?_;exact I C y _ G b f q (c.less J) L
def vo{a b:List ic}[A:Pj D PO n]{B:Wf D Bool D}{I J:D->(D'->Prop)->93->81->Prop}(hc:TW X E T c B)(ha:SW X E T L n a I)(hb:SW X E T L n b J) :
  S1 X E T L n (.If c a b pos) (cI B I J A.pj):=by
 refine e1a2 hc λtc c1 c2=>?_;refine e1a2 ha λta a1 a2=>?_;refine e1a2 hb λtb b1 b2=>?_;refine#[_,LG c1 a1 b1,λd F R t H M N O P s hw Q S u=>c2 d F R t H _ _ _ s hw (λx U W Y Z q c k=>?_) λC y r l e f q c h=>?_]
 ·cases x with
  |true=>exact a2 U W Y t Z M N O P k q (λr l e f o i j h g=>Q r l e f o i (Ch.trans s k.tab c j) h g) (λx p v w z e f i j h m=>S x p v w z e f i (Ch.trans s k.tab c j) h m) λC y p l e f i j h=>u C y p l e f i (Ch.trans s k.tab c j) h
  |false=>exact b2 U W Y t Z M N O P k q (λr l e f o i j h g=>Q r l e f o i (Ch.trans s k.tab c j) h g) (λx p v w z e f i j h m=>S x p v w z e f i (Ch.trans s k.tab c j) h m) λC y p l e f i j h=>u C y p l e f i (Ch.trans s k.tab c j) h
 ·refine e1a2 (wp (PO:=PO) h) λG g1 g2=>?_;exact u C y _ G e f q (c.less g1) g2
def FH{i:Nat}[Ow c][Ow e][Sls f][Sls j][A:At i D c f][U:Pt i f e j](s:vQ T g R H d k)(m:Nw T F1 g R H x v) :
  ∃G,(∀a,G a->F1 a\/g a)/\vQ T G R H (U.put (A.hole d) x) (k.set i<|↑v):=by
 refine e3a4 (A.take s.rel) λo p l r b t n=>?_;refine#[λa=>F1 a\/l a,λa h=>h.elim .inl λz=>.inr<|(b.all a).mpr<|.inr z,U.back n ⟨λ_=>Iff.rfl,λa z q=>m.xZ a z<|(b.all a).mpr<|.inr q⟩ m.is,λa h=>h.elim (m.sub a) λz=>s.sub a<|(b.all a).mpr<|.inr z,s.wT,s.tab,s.vG,λh=>h.elim m.tab λz=>s.vv<|(b.all T).mpr<|.inr z]
def ve(i:Nat)[Ow b][Ow f][Sls r][Sls u][A:At i D b r][U:Pt i r f u][J:Pj D PO n](z:X.N.Nodup)(h:EO X E T e B)(I:X.N[i]?=↑x:=by rfl)(hx:Loc X.env.scope x:=by exact ko rfl)(L:i∉M:=by decide)
 (O:jN e (some<|.Name x a) pos.line X.env=pure false:=by rfl) (P:X.fn x=true\/X.env.scope.names.lookup x=some .local:=by first|exact .inl rfl|exact .inr rfl) :
    S1 X E T M n (.Assign [.Name x a] e pos) (cS B J.pj λ(w:u->Prop)(Q:τ->PO->Prop) x g=>w<|U.put (A.hole g) x):=by
  refine e1a2 h λt S W=>?_
  refine#[_,zF z I hx S O P,λd F R Y H w Q Ke En s Z kn kr ke=>W d F R Y H _ _ _ s Z (λx g v F1 F2 j k q c l m=>?_) λC y g F' j k q c l=>?_]
  · refine e1a2 (FH (i := i) l m) λG o p => ?_
    exact kn _ G j k _ q (c.less o) p<|Ag.set L
  · refine e1a2 (wp (PO := PO) l) λG o p => ?_
    exact ke C y _ G j k q (c.less o) p
end
class Ent(P:Type)[Sls P](k:Nat)(D:outParam Type)[Sls D] where
 ent:P->D
 ok:∀{F R:Rg} {H:Hp} {p:P} {σ:St},rel F R H p σ->rel F R H (ent p) (σ++kK k none)
noncomputable instance ent0:Ent Unit 0 Unit:=#[id,λh=>by obtain⟨rfl,h⟩:=h;exact#[rfl,h]]
noncomputable instance entS{k:Nat}{D:Type}[Sls D][A:Ent Unit k D]:Ent Unit (k+1) (Un×D):=#[λp=>(#[],A.ent p),λ{F R H p σ} h=>by
 obtain⟨rfl,h⟩:=h
 exact#[none,kK k none,λ_=>False,F,by rw[oT];rfl,two_nil F,λ_ z=>z,by simpa using A.ok (σ:=[]) (p:=p) (F:=F) (R:=R) (H:=H) #[rfl,h]]]
noncomputable instance entC{k:Nat}{τ P D:Type}[Ow τ][Sls P][Sls D][A:Ent P k D]:Ent (τ×P) k (τ×D):=#[λp=>(p.1,A.ent p.2),λ{F R H p σ} h=>by
 obtain⟨v,σ',F1,F2,rfl,h2,h3,h4⟩:=h
 exact#[v,σ'++kK k none,F1,F2,rfl,h2,h3,A.ok h4]]
class Ln(P:Type)[Sls P](n:outParam Nat):Prop where
 ln:∀{F R:Rg} {H:Hp} {p:P} {σ:St},rel F R H p σ->σ.length=n
instance ln0:Ln Unit 0:=#[λh=>by rw[h.1];rfl]
instance lnS{τ P:Type}{n:Nat}[Ow τ][Sls P][A:Ln P n]:Ln (τ×P) (n+1):=#[λh=>by
 obtain⟨v,σ',F1,F2,rfl,_,_,h4⟩:=h
 rw[hX,A.ln h4]]
def wn{r:ic}{N M:List Str}{k j n:Nat}{ms:List Nat}{A PO τ D D':Type}[Sls A][Sls PO][Ow τ][Sls D][Sls D'][L:Ln A n][J:Ent A j D]{O:D->(D'->Prop)->93->81->Prop}
 (F:yE K x d r f fd) (S:uT N M (uK r)) (hn:M.length=n) (hj:N.length-n=j)
 (i:∀(b:ci)(A:jq)(a:List Env)(s:gO)(H:Hp)(E:XK),v4 k (A.deeper<|oz d (uK r) ⇑s f b)->SW (vH (vF P w) P w K mg base N d (uK r) f b A a s H E) E T ms n (vq r) O) :
    vt P w K mg base (vF P w) (k+1) f fd M (ye T λ(p:A)(U:τ->PO->Prop) l=>O (J.ent p) (λ_=>False) U l):=by
  have e:∀{g:List V} {H:Hp} {Q:VK} {E:XK},ye T (λ(p:A)(U:τ->PO->Prop) l=>O (J.ent p) (λ_=>False) U l) g H Q E->g.length=n:=λh=>by
    obtain⟨F,R,p,Kn,l,s,_⟩:=h
    have:=L.ln s.rel
    rwa [gN]at this
  obtain⟨oc,od,kV,aa,pm,an,b,ct,ab,rfl,lk,W⟩:=F.ex
  refine Ie lk W S (λg H Q E h=>(e h).trans hn.symm) λAr a s H g Q E hr u=>?_
  refine e1a2 (i b Ar a s H E hr) λt h1 h2=>?_
  refine#[t,h1,?_]
  have X:=e u
  obtain⟨F,R,p,Kn,l,o,hw,kn,ke⟩:=u
  have B:start N g=g.map some++kK j none:=by unfold L2.start;rw[X,hj]
  have G:(start N g).take n=g.map some:=by rw[B,mU (by rw[gN,X];exact gK _),jc<|by rw[gN,X];exact gK _]
  refine h2 (J.ent p) F R _ H _ Kn l _ #[by rw[B];exact J.ok o.rel,o.sub,o.wT,o.tab,o.vG,o.vv] hw (λ_ _ _ _ _ z=>z.elim) (λx Y v F1 F2 Z H' q c I m=>?_) λC y Y F' Z H' q c I=>?_
  · rw[G]at I
    exact kn x Y v F1 F2 Z H' q c I m
  · rw[G]at I
    exact ke C y Y F' Z H' q c I
def Vo{o:ic}{N J:List Str}{k j n:Nat}{ms:List Nat}{A PO τ D D':Type}[Sls A][Sls PO][Ow τ][Sls D][Sls D'][L:Ln A n][I:Ent A j D]{M:D->(D'->Prop)->93->81->Prop}
 (F:yE K x b o f O) (S:uT N J (uK o)) (hn:J.length=n) (hj:N.length-n=j)
 (g:∀(A:jq)(a:List Env)(s:gO)(H:Hp)(E:XK),v4 k (A.deeper<|oz b (uK o) ⇑s f O.code)->SW (vH (vF P w) P w K mg base N b (uK o) f O.code A a s H E) E T ms n (vq o) M) :
    vt P w K mg base (vF P w) (k+1) f O J (ye T λ(p:A)(U:τ->PO->Prop) i=>M (I.ent p) (λ_=>False) U i):=by
  have d:∀{e:List V} {H:Hp} {Q:VK} {E:XK},ye T (λ(p:A)(U:τ->PO->Prop) i=>M (I.ent p) (λ_=>False) U i) e H Q E->e.length=n:=λh=>by
    obtain⟨F,R,p,Kn,i,s,_⟩:=h
    have:=L.ln s.rel
    rwa [gN]at this
  obtain⟨oc,od,kV,aa,pm,an,ab,ct,ae,rfl,lk,W⟩:=F.ex
  refine Ie lk W S (λe H Q E h=>(d h).trans hn.symm) λAr a s H e Q E hr r=>?_
  refine e1a2 (g Ar a s H E hr) λt h1 h2=>?_
  refine#[t,h1,?_]
  have X:=d r
  obtain⟨F,R,p,Kn,i,l,hw,kn,ke⟩:=r
  have u:start N e=e.map some++kK j none:=by unfold L2.start;rw[X,hj]
  have B:(start N e).take n=e.map some:=by rw[u,mU (by rw[gN,X];exact gK _),jc<|by rw[gN,X];exact gK _]
  refine h2 (I.ent p) F R _ H _ Kn i _ #[by rw[u];exact I.ok l.rel,l.sub,l.wT,l.tab,l.vG,l.vv] hw (λ_ _ _ _ _ z=>z.elim) (λx Y v F1 F2 Z H' q c G m=>?_) λC y Y F' Z H' q c G=>?_
  · rw[B]at G
    exact kn x Y v F1 F2 Z H' q c G m
  · rw[B]at G
    exact ke C y Y F' Z H' q c G
def DY{O:ic}{N ps:List Str}{k j n:Nat}{ms:List Nat}{A PO D D':Type}[Sls A][Sls PO][Sls D][Sls D'][L:Ln A n][En:Ent A j D][J:Pj D' PO n](dp:RY PO ms n){w0:D->(D'->Prop)->(Unit->PO->Prop)->81->Prop}
 (F:yE K x e O f fd) (S:uT N ps (uK O)) (hn:ps.length=n) (hj:N.length-n=j)
 (o:∀(d:ci)(A:jq)(b:List Env)(s:gO)(H:Hp)(E:XK),v4 k (A.deeper<|oz e (uK O) ⇑s f d)->SW (vH (vF P w) P w K mg base N e (uK O) f d A b s H E) E T ms n (vq O) w0) :
    vt P w K mg base (vF P w) (k+1) f fd ps (ye T λ(p:A)(U:Unit->PO->Prop) B=>w0 (En.ent p) (λd'=>U ()<|J.pj d') U B):=by
  have i:∀{l:List V} {H:Hp} {Q:VK} {E:XK},ye T (λ(p:A)(U:Unit->PO->Prop) B=>w0 (En.ent p) (λd'=>U ()<|J.pj d') U B) l H Q E->l.length=n:=λh=>by
    obtain⟨F,R,p,Kn,B,s,_⟩:=h
    have:=L.ln s.rel
    rwa [gN]at this
  obtain⟨oc,od,kV,ab,pm,an,d,ct,ae,rfl,lk,aa⟩:=F.ex
  refine Ie lk aa S (λl H Q E h=>(i h).trans hn.symm) λAr b s H l Q E hr W=>?_
  refine e1a2 (o d Ar b s H E hr) λt h1 h2=>?_
  refine#[t,h1,?_]
  have hl:=i W
  obtain⟨F,R,p,Kn,B,I,hw,kn,ke⟩:=W
  have X:start N l=l.map some++kK j none:=by unfold L2.start;rw[hl,hj]
  have r:(start N l).take n=l.map some:=by rw[X,mU (by rw[gN,hl];exact gK _),jc<|by rw[gN,hl];exact gK _]
  refine h2 (En.ent p) F R _ H _ Kn B _ #[by rw[X];exact En.ok I.rel,I.sub,I.wT,I.tab,I.vG,I.vv] hw (λd' F' Y Z af q c u g=>?_) (λx p' v F1 F2 Y Z q c u m=>?_) λC y p' F' Y Z q c u=>?_
  · refine e1a2 (wp (PO := PO) u) λG g1 M => ?_
    have g3:=dp.dp g M.rel
    rw[r]at g3
    exact kn () _ .wm (λ_=>False) G Y Z q (c.less λa h=>h.elim (λz=>z.elim)<|g1 a) ⟨g3,M.sub,M.wT,M.tab,M.vG,M.vv⟩ ⟨⟨λ_ z=>z,.wm,rfl,rfl⟩,λ_ z=>z.elim,λ_ z=>z.elim,λz=>z⟩
  · rw[r]at u
    exact kn x p' v F1 F2 Y Z q c u m
  · rw[r]at u
    exact ke C y p' F' Y Z q c u
end WL
namespace WL
open PySem L2
open Rep (rp)
open Ow (sl)
open Sls (rel)
class Dat(α:Type)[Rep α][DecidableEq α] where
 dat:α->PyData
 dp:Nat
 rd:∀{X:Cx} {R:Rg} {H:Hp} {x:α} {v:V},rp R H x v->FF X H v (dat x)
 lay:∀x,(dat x).canLay0=true
 dep:∀x,(dat x).depth<=dp
 nm:∀x y,o8 (dat x) (dat y)=true
 sm:∀x y,kN (dat x) (dat y)=decide (x=y)
instance:Dat Int where
 dat:=.int
 dp:=0
 rd h:=by have h:_=_:=h;subst h;exact FF.int _
 lay _:=by simp[oW]
 dep _:=by simp[rW]
 nm _ _:=by simp[o8]
 sm x y:=by rw[kN];by_cases h:x=y<;>simp[h]
section
variable{α β:Type}[Rep α][DecidableEq α][Dat α][Rep β][DecidableEq β][Dat β]
def By{X:Cx}{R:Rg}{H:Hp}:∀{xs:List α} {vs:List V},Paired (rp R H) xs vs->Paired (FF X H) vs (xs.map Dat.dat):=by
 intro _ _ z
 induction z with
 |nil=>exact .nil
 |cons h t ih=>exact .cons (Dat.rd h) ih
def L0:∀a:List α,nO (a.map Dat.dat)=true
 | []=>by simp[nO]
 |x::a=>by simp only[h8,nO,Dat.lay x,L0 a,pT]
def L4:∀a:List α,oE (a.map Dat.dat)<=Dat.dp α
 | []=>by simp[oE]
 |x::a=>by
  have b:=L4 a;have c:=Dat.dep x;simp only[h8,oE]
  lia
def Pw:∀a b:List α,mn (a.map Dat.dat) (b.map Dat.dat)=true
 | [],[]=>by simp[mn]
 | [],_::_=>by simp[mn]
 |_::_,[]=>by simp[mn]
 |x::a,y::b=>by simp only[h8,mn,Dat.nm x y,Pw a b,pT]
def Px:∀xs ys:List α,kD (xs.map Dat.dat) (ys.map Dat.dat)=decide (xs=ys)
 | [],[]=>by simp[kD]
 | [],_::_=>by simp[kD]
 |_::_,[]=>by simp[kD]
 |x::xs,y::ys=>by simp only[h8,kD,Dat.sm x y,Px xs ys];by_cases h:x=y<;>simp[h]
instance:Dat (List α) where
 dat xs:=.list<|xs.map Dat.dat
 dp:=Dat.dp α+1
 rd h:=by obtain⟨a,vs,rfl,_,h3,h4⟩:=h;exact FF.lst (vX.of h3)<|By h4
 lay xs:=by simp only[oW];exact L0 xs
 dep xs:=by simp only[rW];have:=L4 xs;omega
 nm xs ys:=by simp only[o8];exact Pw xs ys
 sm xs ys:=by simp only[kN];exact Px xs ys
def FF.tup{X:Cx}(h:yI X.K H a c)(p:Paired (FF X H) c d):FF X H (.ref a) (.tuple d):=λb m s u I r=>by
 cases r;refine e1a3 (I.tuple h) λe f g _=>?_;obtain⟨q,i⟩:=FG I f p;obtain⟨o,j,k,n,l⟩:=g;exact#[_,Reads.tuple j k l<|by simpa using i]
instance:Dat (α×β) where
 dat x:=.tuple [Dat.dat x.1,Dat.dat x.2]
 dp:=max (Dat.dp α) (Dat.dp β)+1
 rd h:=by obtain⟨a,u,w,rfl,_,h3,h4,h5⟩:=h;exact FF.tup (yI.of h3)<|.cons (Dat.rd h4)<|.cons (Dat.rd h5) .nil
 lay x:=by simp only[oW,nO,Dat.lay,pT]
 dep x:=by have h1:=Dat.dep x.1;have h2:=Dat.dep x.2;simp only[rW,oE];omega
 nm x y:=by simp only[o8,mn,Dat.nm,pT]
 sm x y:=by simp only[kN,kD,Dat.sm];obtain⟨a,b⟩:=x;obtain⟨c,d⟩:=y;by_cases h1:a=c<;>by_cases h2:b=d<;>simp[h1,h2]
end
def RdL{α:Type}[Rep α]{D:Type}[Sls D](T:gH)(F R:Rg)(H:Hp)(σ:St)(g:D->List α)(v:V):Prop :=
 ∀(d'':D)(Vp Jq:Rg)(Py:Hp),Ch T F R H Vp Jq Py->vQ T Vp Jq Py d'' σ->∃a vs,v=.ref a/\Py a=↑(.lst vs)/\Paired (rp Jq Py) (g d'') vs
def ER(X:Cx)(E:XK)(T:gH)(e:iD){D i:Type}[Sls D][Rep i](w:Wf D (D->List i) D):Prop :=
 ∃t,PE X e t/\∀(d:D)(F R:Rg)(f:St)(H:Hp) (j:(D->List i)->D->Prop) (k:gH->D->Prop) (Q:VK),vQ T F R H d f->w d j k ->
  (∀g h v b c a,j g h->Ch T F R H b c a->vQ T b c a h f->RdL T b c a f g v->Q v a) ->
  (∀C y h b c a,k C h->Ch T F R H b c a->vQ T b c a h f->E (.ref C) ↑y a)->t f H Q
section
variable{D:Type}[Sls D]{α β γ:Type}[Rep α][Rep β][Rep γ]
def vE(h:EW X E T e w):ER X E T e (cK w λ(f:(D->List α)->D->Prop) x b=>f (λ_=>x) b):=by refine e1a2 h λt i j=>?_;refine#[t,i,λd F R k H f l Q s m n o=>j d F R k H _ l Q s m (λx b v p u y q c g r=>n _ b v p u y q c g λz A B C G I=>?_) o];refine e2a4 (g.val G r) λa J L O M N=>?_;exact#[a,J,L,M,N]
def wh(i:Nat)[Sls h][A:At i D (OL α) h](j:PE X 88 (vr i):=by exact pv _):ER X E T 88 (λ(d:D) (e:(D->List α)->D->Prop) _=>e (λd=>(A.get d).l) d):=by refine#[_,j,λd F R w H e y Q s k m _=>?_];obtain⟨v,z,B,f,C,⟨a,G,rfl,I⟩,_⟩:=A.take s.rel;refine#[_,f,m _ d _ F R H k 53 s λn o p q J b=>?_];obtain⟨L,M,N,g,O,⟨P,c,r,S,t,u⟩,_⟩:=A.take b.rel;rw[f]at g;cases g;cases r;exact#[_,c,rfl,t,u]
def WE{wa:Wf D (D->List α) D}{wb:Wf D β D}{c:List α->β->γ->Prop}
 (ha:ER X E T a wa) (hb:EW X E T b wb) (he:∀ta tb,PE X a ta->PE X b tb->PE X e (XM r ta tb))
 (hr:∀{R:Rg} {H:Hp} {xs:List α} {y:β} {z:γ} {p:gH} {us:List V} {v:V} {Q:VK},H p=↑(.lst us)->Paired (rp R H) xs us->rp R H y v->c xs y z->(∀w,rp R H z w->Q w H)->r (.ref p) v H Q) :
    EW X E T e (cB wa wb λg Kn y d2=>∃z,c (g d2) y z/\Kn z d2):=by
  refine e1a2 ha λta a1 a2=>?_
  refine e1a2 hb λtb b1 b2=>?_
  refine#[_,he ta tb a1 b1,λd F R σ H Kn Ke Q s hw kn ke=>?_]
  refine a2 d F R σ H _ Ke _ s hw (λg d1 u F1 R1 H1 q1 c1 s1 r1=>?_) ke
  refine b2 d1 F1 R1 σ H1 _ Ke _ s1 q1 (λy d2 v F2 R2 H2 q2 c2 s2 r2=>?_) λC y d' F' R' H' k c s'=>ke C y d' F' R' H' k (Ch.trans s s1.tab c1 c) s'
  refine e1a2 q2 λz z1 z2=>?_
  obtain⟨p,us,rfl,h1,h2⟩:=r1 d2 F2 R2 H2 c2 s2
  exact hr h1 h2 r2 z1 λw rw=>kn _ d2 w F2 R2 H2 z2 (Ch.trans s s1.tab c1 c2) s2 rw
def wE{R:Rg}{H:Hp}:∀{xs:List α} {vs:List V} {i:Nat} {x:α},Paired (rp R H) xs vs->xs[i]?=↑x->∃v,vs[i]?=↑v/\rp R H x v:=by
 intro _ _ i x z
 induction z generalizing i with
 |nil=>intro e;simp at e
 |cons r t ih =>
  intro e
  cases i with
  |zero=>simp at e;subst e;exact#[_,rfl,r]
  |succ i=>exact e1a2 (ih<|by simpa using e) λu h1 h2=>#[u,by simpa using h1,h2]
def Av{xs:List α}{vs:List V}{i:Int}(h:Paired (rp R H) xs vs)(e:EY xs i=↑x):∃v,EY vs i=↑v/\rp R H x v:=by
 unfold EY at e ⊢;rw[<- Paired.length h]
 cases q:Vd xs.length i with
 |none=>rw[q]at e;cases e
 |some j =>
  rw[q]at e;exact wE h e
def wM{j:Wf D (D->List α) D}{l:Wf D Int D}(q:ER X E T a j)(s:EW X E T b l)(t:LQ b:=by intro _ _;rfl) :
  EW X E T (.Subscript a b pos) (λ(d:D)(u:α->D->Prop) m=>j d (λg A=>l A (λi n=>∃x,EY (g n) i=↑x/\u x n) m) m) :=
 WE (c:=λo i x=>EY o i=↑x) q s (λF G f h=>xY wy f h t) λ{R H o y z p I v Q} f h B C k=>by subst B;refine e1a2 (Av h C) λw e r=>?_;exact#[_,_,_,_,rfl,rfl,vX.of f,e,k _ r]
def Cn{k:Nat}{c:Wf D (α×β) D}(f:EW X E T a c):EW X E T (.Subscript a (.Constant (.int 0) k p) pos) (cK c λ(e:α->D->Prop) x b=>e x.1 b):=by refine e1a2 f λI g h=>?_;refine#[_,xY OG g vk<|λ_ _=>rfl,λd F R i H e j Q s l m n=>h d F R i H _ j _ s l (λx b u o r t y z A B=>?_) n];obtain⟨q,v,w,rfl,_,C,G,J⟩:=B;exact#[_,_,_,v,rfl,rfl,yI.of C,rfl,m _ b v o r t y z A G]
def zQ{k:Nat}{c:Wf D (α×β) D}(f:EW X E T a c):EW X E T (.Subscript a (.Constant (.int 1) k p) pos) (cK c λ(e:β->D->Prop) x b=>e x.2 b):=by refine e1a2 f λI g h=>?_;refine#[_,xY OG g vk<|λ_ _=>rfl,λd F R i H e j Q s l m n=>h d F R i H _ j _ s l (λx b u o r t y z A B=>?_) n];obtain⟨q,v,w,rfl,_,C,J,G⟩:=B;exact#[_,_,_,w,rfl,rfl,yI.of C,rfl,m _ b w o r t y z A G]
def zx(e:EW X E T a f):EW X E T a (cK f λ(c:α->D->Prop) x b=>∃y,x=↑y/\c y b):=by refine e1a2 e λz g h=>?_;refine#[_,g,λd F R i H c j Q s k l m=>h d F R i H _ j _ s k (λx b u n o p r t v w=>?_) m];obtain⟨y,rfl,q⟩:=r;exact l y b u n o p q t v w.2
class NV(α:Type)[Rep α]:Prop where
 nv:∀{R:Rg} {H:Hp} {x:α} {v:V},rp R H x v->v≠.wm
instance:NV Int:=#[λh z=>by have h:_=_:=h;rw[h]at z;cases z]
instance:NV (α×β):=#[λh z=>by obtain⟨a,u,w,e,_⟩:=h;rw[e]at z;cases z]
def zh[NV α](f:EW X E T a g):EW X E T a (cK g λ(c:Option α->D->Prop) x b=>c ↑x b):=by refine e1a2 f λw h i=>?_;exact#[_,h,λd F R j H c k Q s l m n=>i d F R j H _ k _ s l (λx b u o p q r t v e=>m ↑x b u o p q r t v #[NV.nv e,e]) n]
def Td{k:Nat}:EW X E T (.Constant .none k pos) (λ(d:D)(a:Option α->D->Prop) _=>a none d) :=
 #[_,Jw,λd F R e H a f Q s b c _=>c none d _ F R H b 53 s rfl]
def wx{a:iD}{p:Pos}{wa:Wf D (D->List α) D}(hg:Gl X "len")(hm:X.mg "len"=none)(ha:ER X E T a wa)(hs:gJ [a] X.env=75::gJ [] X.env:=by rfl) :
  EW X E T (.Call (.Name "len" p) [a] [] pos) (cK wa λ(Kn:Int->D->Prop) g d1=>Kn ((g d1).length:Int) d1):=by
 refine e1a2 ha λta a1 a2=>?_;refine#[_,ww wX hg hm mo (uS a1 u4 hs) (he:=hs),λd F R σ H Kn Ke Q s hw kn ke=>a2 d F R σ H _ Ke _ s hw (λg d1 u F1 R1 H1 q1 c1 s1 r1=>?_) ke];obtain⟨q,us,rfl,h1,h2⟩:=r1 d1 F1 R1 H1 53 s1;refine#[_,_,rfl,.inl<|vX.of h1,kn _ d1 _ F1 R1 H1 q1 c1 s1 ?_];show V.int _=V.int _;rw[Paired.length h2]
end
def AL(X:Cx)(E:XK)(T:gH)(es:List iD){D α:Type}[Sls D][Rep α](w:Wf D (List α) D):Prop :=
 ∃t,PA X es t/\∀(d:D)(F R:Rg)(σ:St)(H:Hp)(Kn:List α->D->Prop)(Ke:gH->D->Prop)(Q:List V->Hp->Prop),vQ T F R H d σ->w d Kn Ke ->
  (∀x d' vs F' R' H',Kn x d'->Ch T F R H F' R' H'->vQ T F' R' H' d' σ->Paired (rp R' H') x vs->vs.length=es.length->Q vs H') ->
  (∀C y d' F' R' H',Ke C d'->Ch T F R H F' R' H'->vQ T F' R' H' d' σ->E (.ref C) ↑y H')->t σ H Q
def vQ.vals{T:gH}{D:Type}[Sls D]{d:D}{σ:St}{F R F' R':Rg}{H H':Hp}(s:vQ T F R H d σ)(c:Ch T F R H F' R' H'){α:Type}[Rep α]{x:List α}{v:List V}(h:Paired (rp R H) x v):Paired (rp R' H') x v :=
 vT (c.ext.wide λa z=>z.elim (s.sub a) λq=>by rw[q];exact s.vG) h
section
variable{D:Type}[Sls D]{α β γ:Type}[Rep α][Rep β][Rep γ]
def vf:AL X E T [] (λ(d:D)(a:List α->D->Prop) _=>a [] d) :=
 #[_,u4,λd F R e H a f Q s b c _=>c [] d [] F R H b 53 s .nil rfl]
def uR{a:List iD}{g:Wf D α D}{h:Wf D (List α) D}(q:EW X E T e g)(r:AL X E T a h)(t:gJ (e::a) X.env=58::gJ a X.env:=by rfl) :
  AL X E T (e::a) (cB g h λx i j f=>i (x::j) f):=by
 refine e1a2 q λta v w=>?_;refine e1a2 r λtr z A=>?_;refine#[_,uS v z t,λd F R l H i m Q s B G n=>?_];refine w d F R l H _ m _ s B (λx I u J L M N o b O=>?_) n;refine A I J L l M _ m _ b N (λj f P S U W Y p Z r2 l2=>?_) λC y d' F' R' H' k c s'=>n C y d' F' R' H' k (Ch.trans s b.tab o c) s';exact G _ f (u::P) S U W Y (Ch.trans s b.tab o p) Z (.cons (b.val p O) r2) (by rw[hX,hX,l2])
def vg(h:AL X E T a w)(f:a.length<=gL:=by decide):EO X E T (.List a pos) (cK w λ(b:OL α->D->Prop) c g=>b #[c] g):=by refine e1a2 h λt i j=>?_;refine#[_,OA i,λd F R k H b l Q s m n o=>j d F R k H _ l _ s m (λc q I r J L u v e x y=>#[by rw[y];exact f,λp z=>?_]) o];refine e1a3 (xk e z x) λA B C G=>?_;exact n _ q _ _ r A _ u (Ch.trans s e.tab v B) C G
def wz{q}(r:EW X E T a t)(w:EW X E T b z)
 (A:gJ [a,b] X.env=75::gJ [b] X.env:=by rfl) (B:gJ [b] X.env=(false,eval b X.env)::gJ [] X.env:=by rfl) :
    EW X E T (.Tuple [a,b] q pos) (cB t z λx (i:α×β->D->Prop) y g=>i (x,y) g):=by
  refine e1a2 r λta G I=>?_
  refine e1a2 w λtb J L=>?_
  refine#[_,Oz<|uS G (uS J u4 B) A,λd F R j H i l Q s M N m=>?_]
  refine I d F R j H _ l _ s M (λx O u P S U W n e Y=>?_) m
  refine L O P S j U _ l _ e W (λy g v Z R2 H2 q2 o f r2=>#[(by show 2<=gL;decide),λp hp=>?_]) λC y d' F' R' H' k c s'=>m C y d' F' R' H' k (Ch.trans s e.tab n c) s'
  refine e0a3 (f.new (.tup [u,v]) hp) λs3 h n3=>?_
  exact N _ g _ Z R2 _ q2 (Ch.trans s e.tab n<|Ch.trans e f.tab o h) s3 #[p,u,v,rfl,n3,uO,f.val h<|e.val o Y,f.val h r2]
def xC{R:Rg}{H:Hp}:∀{xs ys:List α} {us vs:List V},Paired (rp R H) xs us->Paired (rp R H) ys vs->Paired (rp R H) (xs++ys) (us++vs):=by
 intro _ _ _ _ z s
 induction z with
 |nil=>exact s
 |cons h t ih=>exact .cons h ih
def Co(I:ER X E T a J)(L:ER X E T b M) :
  EO X E T (.BinOp a .Add b pos) (cB J M λg (l:OL α->D->Prop) k e=>(g e).length+(k e).length<=gL/\l #[g e++k e] e):=by
 refine e1a2 I λta N O=>?_;refine e1a2 L λtb P S=>?_;refine#[_,wC Wg N P,λd F R m H l n Q s U W o=>?_];refine O d F R m H _ n _ s U (λg Y u Z R1 H1 q1 t f r1=>?_) o;refine S Y Z R1 m H1 _ n _ f q1 (λk e v i w x z A h r2=>?_) λC y d' F' j H' k c s'=>o C y d' F' j H' k (Ch.trans s f.tab t c) s';obtain⟨p,us,rfl,h1,B⟩:=r1 e i w x A h;obtain⟨q,vs,rfl,k1,G⟩:=r2 e i w x 53 h;refine#[p,q,us,vs,rfl,rfl,h1,k1,by rw[<- Paired.length B,<- Paired.length G];exact z.1,λr hr=>?_];refine e1a3 (xk h hr<|xC B G) λj c3 s3 n3=>?_;exact W _ e _ _ i j _ z.2 (Ch.trans s f.tab t<|Ch.trans f h.tab A c3) s3 n3
def Te(i:Gl X "list")(j:X.mg "list"=none)(k:ER X E T a m)(e:gJ [a] X.env=75::gJ [] X.env:=by rfl) :
  EO X E T (.Call (.Name "list" p) [a] [] pos) (cK m λ(f:OL α->D->Prop) g b=>f #[g b] b):=by
 refine e1a2 k λP n o=>?_;refine#[_,xi ya i j jR (uS n u4 e) (he:=e),λd F R r H f t Q s v w x=>o d F R r H _ t _ s v (λg b u h y z A B c C=>?_) x];obtain⟨q,S,rfl,G,I⟩:=C b h y z 53 c;refine#[_,_,rfl,.inl<|vX.of G,λl J=>?_];refine e1a3 (xk c J I) λL M N O=>?_;exact w _ b _ _ h L _ A (Ch.trans s c.tab B M) N O
noncomputable def ins(x:Int):List Int->List Int
 | []=>[x]
 |y::r=>if x<=y then x::y::r else y::ins x r
noncomputable def CM:List Int->List Int
 | []=>[]
 |x::r=>ins x<|CM r
def zR(x:Int):∀r:List Int,(ins x r).Perm (x::r)
 | []=>oF _
 |y::r=>by
  unfold ins;split
  ·exact oF _
  ·exact((zR x r).cons y).trans<|List.Perm.swap x y r
def wF:∀r:List Int,(CM r).Perm r
 | []=>oF _
 |x::r=>(zR x<|CM r).trans<|(wF r).cons x
set_option tactic.hygienic true in
def Gr(x:Int):∀r:List Int,r.Pairwise (·<=·)->(ins x r).Pairwise (·<=·)
 | [],_=>jT _ _
 |y::r,h=>by
  unfold ins;have b:=List.pairwise_cons.mp h;split
  ·rename_i a
   refine List.pairwise_cons.mpr #[λz c=>?_,h];rcases List.mem_cons.mp c with e|e
   ·rw[e];exact a
   ·exact Int.le_trans a<|b.1 z e
  ·rename_i a
   refine List.pairwise_cons.mpr #[λz c=>?_,Gr x r b.2];rcases List.mem_cons.mp ((zR x r).mem_iff.mp c) with e|e
   ·rw[e];lia
   ·exact b.1 z e
def Aw:∀r:List Int,(CM r).Pairwise (·<=·)
 | []=>il
 |x::r=>Gr x _<|Aw r
def yh:∀{a b:List Int},a.Perm b->a.Pairwise (·<=·)->b.Pairwise (·<=·)->a=b
 | [],b,p,_,_=>(List.Perm.nil_eq p)
 |x::a,[],p,_,_=>g8 p.length_eq q0o
 |x::a,y::b,p,c,d=>by
  have e:x=y:=by
   have f:x∈y::b:=p.mem_iff.mp gM;have g:y∈x::a:=p.mem_iff.mpr gM;rcases List.mem_cons.mp f with q|q
   ·exact q
   ·rcases List.mem_cons.mp g with z|z
    ·exact z.symm
    ·have:=(List.pairwise_cons.mp d).1 x q;have:=(List.pairwise_cons.mp c).1 y z
     lia
  subst e;rw[yh p.cons_inv (List.pairwise_cons.mp c).2 (List.pairwise_cons.mp d).2]
def DZ{a:List Int}(p:a.Perm b)(h:a.Pairwise (·<=·)):a=CM b:=yh (p.trans (wF b).symm) h<|Aw b
def paired_ints{R:Rg}{H:Hp}:∀{xs:List Int} {vs:List V},Paired (rp R H) xs vs->vs=xs.map V.int:=by
 intro _ _ z
 induction z with
 |nil=>rfl
 |cons h t ih=>rw[show _=V.int _ from h,ih];rfl
def xH{R:Rg}{H:Hp}:∀xs:List Int,Paired (rp R H) xs (xs.map V.int)
 | []=>.nil
 |x::r=>.cons (rfl:rp R H x (V.int x))<|xH r
def FJ{a:iD}{p:Pos}{wa:Wf D (D->List Int) D}(hg:Gl X "sorted")(hm:X.mg "sorted"=none)(ha:ER X E T a wa)(hs:gJ [a] X.env=75::gJ [] X.env:=by rfl) :
  EO X E T (.Call (.Name "sorted" p) [a] [] pos) (cK wa λ(Kn:OL Int->D->Prop) g d1=>(g d1).length<64/\Kn #[CM<|g d1] d1):=by
 refine e1a2 ha λta a1 a2=>?_;refine#[_,ww Gn hg hm kd (uS a1 u4 hs) (he:=hs),λd F R σ H Kn Ke Q s hw kn ke=>a2 d F R σ H _ Ke _ s hw (λg d1 u F1 R1 H1 q1 c1 s1 r1=>?_) ke];obtain⟨q,us,rfl,h1,h2⟩:=r1 d1 F1 R1 H1 53 s1;refine#[_,g d1,rfl,vX.of (by rw[h1,paired_ints h2]),q1.1,λl ns hl pn sn=>?_];rw[DZ pn sn];refine e1a3 (xk s1 hl<|xH (R:=R1) (H:=H1)<|CM<|g d1) λR' c3 s3 n3=>?_;exact kn _ d1 _ _ F1 R' _ q1.2 (Ch.trans s s1.tab c1 c3) s3 n3
noncomputable def C8{α:Type}(a:List α)(b c:Option Int):List α:=(a.drop<|HT.wN a.length 0 b).take<|HT.wN a.length a.length c-HT.wN a.length 0 b
def Iz{R:Rg}{H:Hp}:∀{xs:List α} {vs:List V} (n:Nat),Paired (rp R H) xs vs->Paired (rp R H) (xs.drop n) (vs.drop n):=by
 intro _ _ n z
 induction z generalizing n with
 |nil=>cases n<;>exact .nil
 |cons h t ih=>cases n with
  |zero=>exact .cons h t
  |succ k=>exact ih k
def CN{R:Rg}{H:Hp}:∀{xs:List α} {vs:List V} (n:Nat),Paired (rp R H) xs vs->Paired (rp R H) (xs.take n) (vs.take n)
 |_,_,0,_=>.nil
 |_,_,_+1,.nil=>.nil
 |_,_,n+1,.cons r t=>.cons r<|CN n t
def D6{R:Rg}{H:Hp}{xs:List α}{vs:List V}(h:Paired (rp R H) xs vs)(lo hi:Option Int):Paired (rp R H) (C8 xs lo hi) (DM vs lo hi):=by unfold C8 DM;rw[<- Paired.length h];exact CN _<|Iz _ h
def OW(X:Cx)(E:XK)(T:gH)(e:Option iD){D:Type}[Sls D](w:Wf D (Option Int) D):Prop :=
 ∃t,PO X e t/\∀(d:D)(F R:Rg)(g:St)(H:Hp)(h:Option Int->D->Prop)(i:gH->D->Prop)(Q:Option Int->Hp->Prop),vQ T F R H d g->w d h i ->
  (∀x b c f a,h x b->Ch T F R H c f a->vQ T c f a b g->Q x a) ->
  (∀C y b c f a,i C b->Ch T F R H c f a->vQ T c f a b g->E (.ref C) ↑y a)->t g H Q
def Dk:OW X E T none (λ(d:D) a _=>a none d):=#[_,Dd,λd F R e H a f Q s b c _=>c none d F R H b 53 s]
def Dl{e:iD}{w:Wf D Int D}(h:EW X E T e w):OW X E T ↑e (cK w λa i b=>a ↑i b):=by refine e1a2 h λt c f=>?_;exact#[_,De c,λd F R g H a j Q s k l m=>f d F R g H _ j _ s k (λx n u o p H1 q r v y=>#[x,y,l _ n o p H1 q r v]) m]
def D7{G:Option iD}(M:ER X E T a N)(O:OW X E T G P)(S:OW X E T U W) :
  EO X E T (.Subscript a (.Slice G U none p2) pos) (λ(d:D)(I:OL α->D->Prop) b=>N d (λg m=>P m (λl n=>W n (λh f=>I #[C8 (g f) l h] f) b) b) b):=by
 refine e1a2 M λta Y Z=>?_;refine e1a2 O λtl l1 l2=>?_;refine e1a2 S λth h1 h2=>?_;refine#[_,zJ Df Y l1 h1,λd F R o H I b Q s hw kn r=>?_];refine Z d F R o H _ b _ s hw (λg m u F1 R1 H1 q1 t e r1=>?_) r;refine l2 m F1 R1 o H1 _ b _ e q1 (λl n F2 R2 H2 q2 v i=>?_) λC y w x j z k c A=>r C y w x j z k (Ch.trans s e.tab t c) A;refine h2 n F2 R2 o H2 _ b _ i q2 (λh f J R3 H3 q3 L B=>?_) λC y w x j z k c A=>r C y w x j z k (Ch.trans s e.tab t<|Ch.trans e i.tab v c) A;obtain⟨q,us,rfl,k1,k2⟩:=r1 f J R3 H3 (Ch.trans e i.tab v L) B;refine⟨q,us,rfl,vX.of k1,λp hp=>?_⟩;refine e1a3 (xk B hp<|D6 k2 l h) λj c4 s4 n4=>?_;exact kn _ f _ _ J j _ q3 (Ch.trans s e.tab t<|Ch.trans e i.tab v<|Ch.trans i B.tab L c4) s4 n4
def Cm(X:Cx)(op:qz)(g:α->β->Bool):Prop:=∃r,AH X (jr op) r/\∀{R:Rg} {H:Hp} {x:α} {y:β} {u v:V} {Q:VK},rp R H x u->rp R H y v->Q (.bl<|g x y) H->r u v H Q
def ZW(X:Cx)(op:qz)(g:List α->List β->Bool):Prop:=∃r,AH X (jr op) r/\∀{R:Rg} {H:Hp} {x:List α} {y:List β} {p q:gH} {us vs:List V} {Q:VK},H p=↑(.lst us)->Paired (rp R H) x us->H q=↑(.lst vs)->Paired (rp R H) y vs->Q (.bl<|g x y) H->r (.ref p) (.ref q) H Q
def ZX(X:Cx)(op:qz)(g:α->List β->Bool):Prop:=∃r,AH X (jr op) r/\∀{R:Rg} {H:Hp} {x:α} {y:List β} {q:gH} {u:V} {vs:List V} {Q:VK},rp R H x u->H q=↑(.lst vs)->Paired (rp R H) y vs->Q (.bl<|g x y) H->r u (.ref q) H Q
def WF(a:AH X (jr op) (RT λi j=>.bl<|g i j)):Cm X op g:=⟨_,a,λb c k=>#[_,_,b,c,k]⟩
def L5:Cm X .Lt (λi j:Int=>decide<|i<j):=WF U9
def Vq:Cm X .Gt (λi j:Int=>decide<|j<i):=WF Vb
def Vs:Cm X .GtE (λi j:Int=>decide<|j<=i):=WF Yg
def zy[DecidableEq α][Iy α]:Cm X .Eq (λx y:α=>decide<|x=y):=⟨_,Ye,λa b k=>#[(Iy.sc a b).1,by rw[(Iy.sc a b).2];exact k]⟩
def CO[DecidableEq α][Iy α]:Cm X .NotEq (λx y:α=>!decide (x=y)):=#[_,Yf,λa b k=>#[(Iy.sc a b).1,by rw[(Iy.sc a b).2];exact k]]
def WG:Cm X .Is (λ(x:Option α)(_:Unit)=>x.isNone):=#[_,V7,λa b k=>#[b,by rw[LY a];exact k]]
def L6:Cm X .IsNot (λ(x:Option α)(_:Unit)=>!x.isNone):=#[_,Si,λa b k=>#[b,by rw[LY a];exact k]]
def xl[DecidableEq α][Dat α](a:Dat.dp α<=64)(x:α):sh (Dat.dat x)=true:=by show (oW (Dat.dat x)&&decide ((Dat.dat x).depth<=64))=true;rw[iw];exact#[Dat.lay x,decide_eq_true<|iV (Dat.dep x) a]
def WH[DecidableEq α][Dat α](b:X.A.units+64<ky)(a:Dat.dp α<=64:=by decide):Cm X .NotEq (λx y:α=>!decide (x=y)):=#[_,Pb b,λ{R H x y u v Q} c d k=>#[_,_,Dat.rd c,Dat.rd d,xl a x,xl a y,Dat.nm x y,by rw[Dat.sm];exact k]]
def J5[DecidableEq α][Dat α](b:X.A.units+64<ky)(a:Dat.dp (List α)<=64:=by decide):ZW X .Eq (λx y:List α=>decide (x=y)):=#[_,Wu b,λ{R H x y p q g h Q} c d e f k=>#[_,_,FF.lst (vX.of c) (By d),FF.lst (vX.of e) (By f),xl a x,xl a y,Dat.nm x y,by
 have:=Dat.sm x y
 rw[show kN (.list (x.map Dat.dat)) (.list (y.map Dat.dat))=decide (x=y) from this];exact k]]
def Cp[DecidableEq α][Dat α](b:X.A.units+64<ky)(a:Dat.dp (List α)<=64:=by decide):ZW X .NotEq (λx y:List α=>!decide (x=y)):=#[_,Pb b,λ{R H x y p q g h Q} c d e f k=>#[_,_,FF.lst (vX.of c) (By d),FF.lst (vX.of e) (By f),xl a x,xl a y,Dat.nm x y,by
 have:=Dat.sm x y
 rw[show kN (.list (x.map Dat.dat)) (.list (y.map Dat.dat))=decide (x=y) from this];exact k]]
def BA(k:Int)(a:List Int):ZN (.int k) (a.map V.int)=decide (k∈a):=by
 unfold ZN;rw[List.any_map,lY,uF,iF];constructor
 ·rintro⟨y,b,e⟩;have:y=k:=by simpa[RU] using e
  rw[<- this];exact b
 ·intro h;exact#[k,h,by simp[RU]]
def Ax(a:List Int):(a.map V.int).all Bl=true:=by rw[List.all_map,oy];intro x _;rfl
def Vt:ZX X .In (λ(x:Int)(ys:List Int)=>decide (x∈ys)):=#[_,Fw,λ{R H x y q u vs Q} h1 h2 h3 k=>by
 subst h1;refine#[q,vs,rfl,.inl<|vX.of h2,rfl,by rw[paired_ints h3];exact Ax y,?_];rw[paired_ints h3,BA]
 exact k]
def D8:ZX X .NotIn (λ(x:Int)(ys:List Int)=>!decide (x∈ys)):=#[_,Bm,λ{R H x y q u vs Q} h1 h2 h3 k=>by
 subst h1;refine#[q,vs,rfl,.inl<|vX.of h2,rfl,by rw[paired_ints h3];exact Ax y,?_];rw[paired_ints h3,BA]
 exact k]
def tw_cm{a b:iD}{op:qz}{g:α->β->Bool}{wa:Wf D α D}{wb:Wf D β D}(C:Cm X op g)(ha:EW X E T a wa)(hb:EW X E T b wb)(hm:iN op b=false:=by exact vI _) :
  TW X E T (.Compare a [op] [b] pos) (cB wa wb λx Kn y d2=>Kn (g x y) d2):=by
 refine e1a2 C λr o1 o2=>?_;refine e1a2 ha λta a1 a2=>?_;refine e1a2 hb λtb b1 b2=>?_;refine#[_,xB o1 a1 b1 hm,λd F R σ H Kn Ke Q s hw kn ke=>?_];refine a2 d F R σ H _ Ke _ s hw (λx d1 u F1 R1 H1 q1 c1 s1 r1=>?_) ke;refine b2 d1 F1 R1 σ H1 _ Ke _ s1 q1 (λy d2 v F2 R2 H2 q2 c2 s2 r2=>?_) λC y d' F' R' H' k c s'=>ke C y d' F' R' H' k (Ch.trans s s1.tab c1 c) s';exact o2 (s1.val c2 r1) r2 #[_,rfl,kn _ d2 F2 R2 H2 q2 (Ch.trans s s1.tab c1 c2) s2]
def YM{a b:iD}{op:qz}{g:α->β->Bool}{h:Wf D α D}{i:Wf D β D}(C:Cm X op g)(q:EW X E T a h)(t:EW X E T b i)(w:iN op b=false:=by exact vI _) :
  EW X E T (.Compare a [op] [b] pos) (cB h i λx (j:Bool->D->Prop) y f=>j (g x y) f):=by
 obtain⟨r,z,A⟩:=C;obtain⟨ta,B,G⟩:=q;obtain⟨tb,I,J⟩:=t;refine#[_,F7 z B I w,λd F R l H j m Q s L M n=>?_];refine G d F R l H _ m _ s L (λx N u O P H1 S o e U=>?_) n;refine J N O P l H1 _ m _ e S (λy f v W R2 H2 Y p Z r2=>?_) λC y d' F' R' H' k c s'=>n C y d' F' R' H' k (Ch.trans s e.tab o c) s';exact A (e.val p U) r2<|M _ f _ W R2 H2 Y (Ch.trans s e.tab o p) Z rfl
def tw_cmL{a b:iD}{op:qz}{g:List α->List β->Bool}{wa:Wf D (D->List α) D}{wb:Wf D (D->List β) D}(C:ZW X op g)(ha:ER X E T a wa)(hb:ER X E T b wb)(hm:iN op b=false:=by exact vI _) :
  TW X E T (.Compare a [op] [b] pos) (cB wa wb λx Kn y d2=>Kn (g (x d2)<|y d2) d2):=by
 refine e1a2 C λr o1 o2=>?_;refine e1a2 ha λta a1 a2=>?_;refine e1a2 hb λtb b1 b2=>?_;refine#[_,xB o1 a1 b1 hm,λd F R σ H Kn Ke Q s hw kn ke=>?_];refine a2 d F R σ H _ Ke _ s hw (λx d1 u F1 R1 H1 q1 c1 s1 r1=>?_) ke;refine b2 d1 F1 R1 σ H1 _ Ke _ s1 q1 (λy d2 v F2 R2 H2 q2 c2 s2 r2=>?_) λC y d' F' R' H' k c s'=>ke C y d' F' R' H' k (Ch.trans s s1.tab c1 c) s';obtain⟨p,us,rfl,h1,h2⟩:=r1 d2 F2 R2 H2 c2 s2;obtain⟨q,vs,rfl,k1,k2⟩:=r2 d2 F2 R2 H2 53 s2;exact o2 h1 h2 k1 k2 #[_,rfl,kn _ d2 F2 R2 H2 q2 (Ch.trans s s1.tab c1 c2) s2]
def WI{a b:iD}{op:qz}{g:List α->List β->Bool}{wa:Wf D (D->List α) D}{wb:Wf D (D->List β) D}(C:ZW X op g)(ha:ER X E T a wa)(hb:ER X E T b wb)(hm:iN op b=false:=by exact vI _) :
  EW X E T (.Compare a [op] [b] pos) (cB wa wb λx (Kn:Bool->D->Prop) y d2=>Kn (g (x d2)<|y d2) d2):=by
 refine e1a2 C λr o1 o2=>?_;refine e1a2 ha λta a1 a2=>?_;refine e1a2 hb λtb b1 b2=>?_;refine#[_,F7 o1 a1 b1 hm,λd F R σ H Kn Ke Q s hw kn ke=>?_];refine a2 d F R σ H _ Ke _ s hw (λx d1 u F1 R1 H1 q1 c1 s1 r1=>?_) ke;refine b2 d1 F1 R1 σ H1 _ Ke _ s1 q1 (λy d2 v F2 R2 H2 q2 c2 s2 r2=>?_) λC y d' F' R' H' k c s'=>ke C y d' F' R' H' k (Ch.trans s s1.tab c1 c) s';obtain⟨p,us,rfl,h1,h2⟩:=r1 d2 F2 R2 H2 c2 s2;obtain⟨q,vs,rfl,k1,k2⟩:=r2 d2 F2 R2 H2 53 s2;exact o2 h1 h2 k1 k2<|kn _ d2 _ F2 R2 H2 q2 (Ch.trans s s1.tab c1 c2) s2 rfl
def tw_cmI{a b:iD}{op:qz}{g:α->List β->Bool}{wa:Wf D α D}{wb:Wf D (D->List β) D}(C:ZX X op g)(ha:EW X E T a wa)(hb:ER X E T b wb)(hm:iN op b=false:=by exact vI _) :
  TW X E T (.Compare a [op] [b] pos) (cB wa wb λx Kn y d2=>Kn (g x<|y d2) d2):=by
 refine e1a2 C λr o1 o2=>?_;refine e1a2 ha λta a1 a2=>?_;refine e1a2 hb λtb b1 b2=>?_;refine#[_,xB o1 a1 b1 hm,λd F R σ H Kn Ke Q s hw kn ke=>?_];refine a2 d F R σ H _ Ke _ s hw (λx d1 u F1 R1 H1 q1 c1 s1 r1=>?_) ke;refine b2 d1 F1 R1 σ H1 _ Ke _ s1 q1 (λy d2 v F2 R2 H2 q2 c2 s2 r2=>?_) λC y d' F' R' H' k c s'=>ke C y d' F' R' H' k (Ch.trans s s1.tab c1 c) s';obtain⟨q,vs,rfl,k1,k2⟩:=r2 d2 F2 R2 H2 53 s2;exact o2 (s1.val c2 r1) k1 k2 #[_,rfl,kn _ d2 F2 R2 H2 q2 (Ch.trans s s1.tab c1 c2) s2]
def WJ{a b:iD}{op:qz}{g:α->List β->Bool}{h:Wf D α D}{i:Wf D (D->List β) D}(C:ZX X op g)(z:EW X E T a h)(A:ER X E T b i)(B:iN op b=false) :
  EW X E T (.Compare a [op] [b] pos) (cB h i λx (j:Bool->D->Prop) y e=>j (g x<|y e) e):=by
 obtain⟨r,G,I⟩:=C;obtain⟨ta,J,L⟩:=z;obtain⟨tb,M,N⟩:=A;refine#[_,F7 G J M B,λd F R l H j m Q s O P n=>?_];refine L d F R l H _ m _ s O (λx S u U W H1 Y o f Z=>?_) n;refine N S U W l H1 _ m _ f Y (λy e v p R2 H2 q2 t w r2=>?_) λC y d' F' R' H' k c s'=>n C y d' F' R' H' k (Ch.trans s f.tab o c) s';obtain⟨q,vs,rfl,k1,k2⟩:=r2 e p R2 H2 53 w;exact I (f.val t Z) k1 k2<|P _ e _ p R2 H2 q2 (Ch.trans s f.tab o t) w rfl
def tw_val{w:Wf D Bool D}(h:EW X E T e w)(b:∀a,qF e X.env a=(do let v <- a;mI e.pos;kG [v] (ul v)):=by intro _;rfl):TW X E T e w:=by refine e1a2 h λt c f=>?_;exact#[_,VM c b,λd F R g H A i Q s j k l=>f d F R g H _ i _ s j (λx m u n o p q r y z=>#[x,z,k _ m n o p q r y]) l]
def tw_not{w:Wf D Bool D}(h:TW X E T e w):TW X E T (.UnaryOp .Not e pos) (cK w λc b a=>c (!b) a):=by refine e1a2 h λt f g=>?_;exact#[_,VO f,λd F R i H c j Q s k l m=>g d F R i H _ j _ s k (λx a n o p q r u=>l _ a n o p q r u) m]
def WW(X:Cx)(E:XK)(T:gH)(e:iD){D:Type}[Sls D](w:Wf D Bool D):Prop :=
 ∃t,PW X e t/\∀(d:D)(F R:Rg)(g:St)(H:Hp)(h:Bool->D->Prop)(i:gH->D->Prop)(Q:Bool->Hp->Prop),vQ T F R H d g->w d h i ->
  (∀x b c f a,h x b->Ch T F R H c f a->vQ T c f a b g->Q x a) ->
  (∀C y b c f a,i C b->Ch T F R H c f a->vQ T c f a b g->E (.ref C) ↑y a)->t g H Q
def tw_w{w:Wf D Bool D}(h:WW X E T e w):TW X E T e w:=e1a2 h λt a b=> #[t,a.pt,b]
def Dm{w:Wf D Bool D}(h:TW X E T a w):WW X E T (.BoolOp .And [a] pos) w:=e1a2 h λt b c=> #[_,Sd b,c]
def zS{w:Wf D Bool D}(h:TW X E T a w):WW X E T (.BoolOp .Or [a] pos) w:=e1a2 h λt b c=> #[_,Oj b,c]
def Gu{e:List iD}{h i:Wf D Bool D}(u:TW X E T a h)(v:WW X E T (.BoolOp .And (b::e) pos) i):WW X E T (.BoolOp .And (a::b::e) pos) (cA h i):=by
 refine e1a2 u λta w z=>?_;refine e1a2 v λtb A B=>?_;refine#[_,VN w A,λd F R j H Kn l Q s G m n=>?_];refine z d F R j H _ l _ s G (λx o p q r t g f=>?_) n
 cases x with
 |true=>exact B o p q j r _ l _ f t (λy I J L M N O P=>m _ I J L M N (Ch.trans s f.tab g O) P) λC y S U W Y k c Z=>n C y S U W Y k (Ch.trans s f.tab g c) Z
 |false=>exact m _ o p q r t g f
def BB{e:List iD}{h i:Wf D Bool D}(u:TW X E T a h)(v:WW X E T (.BoolOp .Or (b::e) pos) i):WW X E T (.BoolOp .Or (a::b::e) pos) (cO h i):=by
 refine e1a2 u λta w z=>?_;refine e1a2 v λtb A B=>?_;refine#[_,U4 w A,λd F R j H Kn l Q s G m n=>?_];refine z d F R j H _ l _ s G (λx o p q r t g f=>?_) n
 cases x with
 |false=>exact B o p q j r _ l _ f t (λy I J L M N O P=>m _ I J L M N (Ch.trans s f.tab g O) P) λC y S U W Y k c Z=>n C y S U W Y k (Ch.trans s f.tab g c) Z
 |true=>exact m _ o p q r t g f
def Ay{op}{w:Wf D Bool D}(h:EW X E T a w):EW X E T (.BoolOp op [a] pos) w:=e1a2 h λt b c=> #[_,VP b,c]
def D9{a b:iD}{rest:List iD}{g h:Wf D Bool D}(r:EW X E T a g)(t:EW X E T (.BoolOp .And (b::rest) pos) h):EW X E T (.BoolOp .And (a::b::rest) pos) (cA g h):=by
 refine e1a2 r λta w z=>?_;refine e1a2 t λtb A B=>?_;refine#[_,VQ w A,λd F R i H Kn j Q s G l m=>?_];refine z d F R i H _ j _ s G (λx n u o p H1 q f e I=>#[x,I,?_]) m
 cases x with
 |true=>exact B n o p i H1 _ j _ e q (λy J v L R2 H2 M N O P=>l _ J v L R2 H2 M (Ch.trans s e.tab f N) O P) λC y S U W Y k c Z=>m C y S U W Y k (Ch.trans s e.tab f c) Z
 |false=>exact l _ n _ o p H1 q f e rfl
def YN{a b:iD}{rest:List iD}{g h:Wf D Bool D}(r:EW X E T a g)(t:EW X E T (.BoolOp .Or (b::rest) pos) h):EW X E T (.BoolOp .Or (a::b::rest) pos) (cO g h):=by
 refine e1a2 r λta w z=>?_;refine e1a2 t λtb A B=>?_;refine#[_,X8 w A,λd F R i H Kn j Q s G l m=>?_];refine z d F R i H _ j _ s G (λx n u o p H1 q f e I=>#[x,I,?_]) m
 cases x with
 |false=>exact B n o p i H1 _ j _ e q (λy J v L R2 H2 M N O P=>l _ J v L R2 H2 M (Ch.trans s e.tab f N) O P) λC y S U W Y k c Z=>m C y S U W Y k (Ch.trans s e.tab f c) Z
 |true=>exact l _ n _ o p H1 q f e rfl
def WK(h:EW X E T a w):EW X E T (.UnaryOp .Not a pos) (cK w λ(e:Bool->D->Prop) b c=>e (!b) c):=by refine e1a2 h λt f g=>?_;exact#[_,VR f,λd F R i H e j Q s k l m=>g d F R i H _ j _ s k (λx c u n o p q r v y=>#[x,y,l _ c _ n o p q r v rfl]) m]
end
variable[L2.GX]
class Tf(τ:Type)[Ow τ]:Prop where
 fr:∀{F R L:Rg} {H:Hp} {x:τ} {v:Option V},sl F R H x v->(∀a,L a->∃us,H a=↑(.lst us))->sl F (λa=>R a\/L a) H x v
class J7(α:Type)[Rep α]:Prop where
 no:∀{R L:Rg} {H:Hp} {x:α} {v:V},rp R H x v->(∀a,L a->∃us,H a=↑(.lst us))->rp (λa=>R a\/L a) H x v
instance:J7 Int:=#[λh _=>h]
instance:J7 Bool:=#[λh _=>h]
instance{α β:Type}[Rep α][Rep β][J7 α][J7 β]:J7 (α×β):=#[λ{R L H x v} h k=>by
 obtain⟨a,u,w,h1,h2,h3,h4,h5⟩:=h
 exact#[a,u,w,h1,λz=>z.elim h2 λq=>(by obtain⟨us,e⟩:=k a q;rw[h3]at e;cases e),h3,J7.no h4 k,J7.no h5 k]]
def L7{α:Type}[Rep α][J7 α]{R L:Rg}{H:Hp}(k:∀a,L a->∃us,H a=↑(.lst us)):∀{xs:List α} {vs:List V},Paired (rp R H) xs vs->Paired (rp (λa=>R a\/L a) H) xs vs:=by
 intro _ _ z
 induction z with
 |nil=>exact .nil
 |cons h t ih=>exact .cons (J7.no h k) ih
instance{α:Type}[Rep α][J7 α]:J7 (Tp α):=#[λ{R L H x v} h k=>by
 refine e2a4 h λa vs h1 h2 h3 h4=>?_
 exact#[a,vs,h1,λz=>z.elim h2 λq=>(by obtain⟨us,e⟩:=k a q;rw[h3]at e;cases e),h3,L7 k h4]]
instance{α:Type}[Rep α][J7 α]:Tf α:=#[λ{F R L H x v} h k=>by
 obtain⟨h1,u,e,h2⟩:=h
 exact#[h1,u,e,J7.no h2 k]]
instance{α:Type}[Rep α][J7 α]:Tf (OL α):=#[λ{F R L H x v} h k=>by
 refine e2a4 h λa vs h1 h2 h3 h4=>?_
 exact#[a,vs,h1,h2,h3,L7 k h4]]
instance:Tf Un:=#[λh _=>h]
class XW(P:Type)[Sls P]:Prop where
 fr:∀{F R L:Rg} {H:Hp} {x:P} {v:St},rel F R H x v->(∀a,L a->∃us,H a=↑(.lst us))->rel F (λa=>R a\/L a) H x v
instance:XW Unit:=#[λh _=>h]
instance{τ P:Type}[Ow τ][Sls P][Tf τ][XW P]:XW (τ×P):=#[λh k=>by
 refine e4a4 h λv σ' F1 F2 h1 h2 h3 h4=>?_
 exact#[v,σ',F1,F2,h1,h2,Tf.fr h3 k,XW.fr h4 k]]
class WM(P:Type)[Sls P]:Prop where
 ls:∀{F R:Rg} {H:Hp} {x:P} {v:St},rel F R H x v->∀a,F a->∃us,H a=↑(.lst us)
instance:WM Unit:=#[λh a z=>g8 z (h.2 a)]
instance{α P:Type}[Rep α][Sls P][WM P]:WM (OL α×P):=#[λ{F R H x v} h a z=>by
 obtain⟨v,σ',F1,F2,h1,h2,⟨b,vs,k1,k2,k3,k4⟩,h4⟩:=h;rcases(h2.all a).mp z with q|q
 ·rw[(k2 a).mp q];exact#[vs,k3]
 ·exact WM.ls h4 a q]
abbrev Wo(R L:Rg):Rg:=λa=>R a/\¬L a
def Cr(R L:Rg)(H:Hp):Ext (λ_=>False) R H (Wo R L) H:=#[λ_ _ _ h=>h,λa h=>.inl h.1]
def Tg(h:∀a,L a->b a):Ext (λ_=>False) (Wo R L) H (Wo R b) H:=#[λ_ _ _ h=>h,λa z=>.inl #[z.1,λq=>z.2<|h a q]]
def Sls.wk{D:Type}[Sls D]{F R R':Rg}{H:Hp}{d:D}{σ:St}(h:rel F R H d σ)(e:Ext (λ_=>False) R H R' H):rel F R' H d σ:=Sls.st h e (λ_ z=>z.elim)<|λ_ _ z=>z
def Ow.wk{τ:Type}[Ow τ]{F R R':Rg}{H:Hp}{d:τ}{σ:Option V}(h:sl F R H d σ)(e:Ext (λ_=>False) R H R' H):sl F R' H d σ:=Ow.st h e (λ_ z=>z.elim)<|λ_ _ z=>z
class Lb(Lc τ PO:Type)[Sls Lc][Ow τ][Sls PO]:Prop where
 fr:∀{F R L R0:Rg} {H:Hp} {x:τ} {v:Option V} {l:Lc} {us:St},rel L R0 H l us->sl F R H x v->sl F (λa=>R a\/L a) H x v
 fs:∀{F R L R0:Rg} {H:Hp} {x:PO} {v:St} {l:Lc} {us:St},rel L R0 H l us->rel F R H x v->rel F (λa=>R a\/L a) H x v
instance{Lc τ PO:Type}[Sls Lc][Ow τ][Sls PO][Tf τ][XW PO][WM Lc]:Lb Lc τ PO:=#[λh k=>Tf.fr k (WM.ls h),λh k=>XW.fr k (WM.ls h)]
def Pz{R L:Rg}{H:Hp}(h:∀a,¬L a):Ext (λ_=>False) R H (λa=>R a\/L a) H:=#[λ_ _ _ h=>h,λa z=>z.elim .inl λq=>g8 q<|h a]
instance(priority:=high){τ PO:Type}[Ow τ][Sls PO]:Lb Unit τ PO:=#[λh k=>Ow.wk k (Pz h.2),λh k=>Sls.wk k (Pz h.2)]
structure Ea(F F1 F2 F3:Rg):Prop where
 all:∀a,F a↔F1 a\/F2 a\/F3 a
 HK:∀a,F1 a->F2 a->False
 Jr:∀a,F1 a->F3 a->False
 Js:∀a,F2 a->F3 a->False
def J8(X:Cx)(E:XK)(T:gH)(M:List iD){D P n B j:Type}[Sls D][Sls P][Sls n][Sls B][Sls j](k:B->j->n->D)(w:D->(P->B->j->Prop)->66->Prop):Prop :=
 ∃t,PA X M t/\∀(d:D)(F R:Rg)(g:St)(H:Hp)(o:P->B->j->Prop)(q:gH->D->Prop)(Q:List V->Hp->Prop),vQ T F R H d g->w d o q ->
  (∀p b l m r s u L h f a,o p b l->Ch T F R H h f a->Std T h f a->Ea h s u L->rel s (Wo f L) a p (m.map some)->rel u f a b g->rel L f a l r ->
   (∀v x z A G i c e I,rel z c e I (m.map some)->rel A c e v g->rel G c e x r->Ea i z A G->rel i c e (k v x I) g)->Q m a) ->
  (∀C y J h f a,q C J->Ch T F R H h f a->vQ T h f a J g->E (.ref C) ↑y a)->t g H Q
section
variable{D:Type}[Sls D]
def uN:J8 X E T [] (λ(b:D)(_:Unit)(_:Unit)=>b) (λ(d:D)(c:Unit->D->Unit->Prop) _=>c () d ()):=by refine#[_,u4,λd F R m H c n Q s e f _=>?_];exact f () d () [] [] (λ_=>False) F (λ_=>False) F R H e 53 s.Ny #[λa=>#[λz=>.inr<|.inl z,λz=>z.elim (λq=>q.elim) λz=>z.elim id λq=>q.elim],λ_ z=>z.elim,λ_ z=>z.elim,λ_ _ z=>z] #[rfl,λ_ z=>z] s.rel #[rfl,λ_ z=>z] λo p r u v g h i w j k l t=>Sls.fq k λa=>#[λz=>(t.all a).mpr<|.inr<|.inl z,λz=>((t.all a).mp z).elim (λq=>g8 q<|j.2 a) λz=>z.elim id λq=>g8 q<|l.2 a]
def uQ{g:List iD}{m P n B a:Type}[Rep m][Sls P][Sls n][Sls B][Sls a]{f:B->a->n->D}{A:Wf D m D}{G:D->(P->B->a->Prop)->66->Prop}
 (W:EW X E T e A) (Y:J8 X E T g f G) (Z:gJ (e::g) X.env=58::gJ g X.env:=by rfl) :
    J8 X E T (e::g) (λ(b:B)(l:a)(p:Un×n)=>f b l p.2) (cB A G λx (I:m×P->B->a->Prop) p b l=>I (x,p) b l):=by
  refine e1a2 W λta a1 a2=>?_
  refine e1a2 Y λtr b1 b2=>?_
  refine#[_,uS a1 b1 Z,λd F R J H I M Q s hw kn N=>?_]
  refine a2 d F R J H _ M _ s hw (λx d1 u F1 R1 H1 q1 O h r1=>?_) N
  refine b2 d1 F1 R1 J H1 _ M _ h q1 (λp b l S us o G2 L q i j q2 U s2 t2 h1 h2 hl k=>?_) λC y d' q i j k c s'=>N C y d' q i j k (Ch.trans s h.tab O c) s'
  refine kn (x,p) b l (u::S) us o G2 L q i j q2 (Ch.trans s h.tab O U) s2 t2 #[↑u,S.map some,λ_=>False,o,rfl,two_nil o,#[λ_ z=>z,u,rfl,Rep.st (h.val U r1)<|(Cr i L j).wide λ_ z=>z.elim],h1] h2 hl λb' l' L1 L2 L3 r v w p' h3 h4 h5 t=>?_
  refine e4a4 h3 λv' aa M1 M2 z1 z2 z3 z4=>?_
  injection z1 with _ z5
  subst z5
  exact k b' l' L1 L2 L3 r v w p'.2 (Sls.fq z4<|two_eq z2 z3) h4 h5 t
def vA{o:List iD}(i:Nat){c O P w B g h:Type}[Ow c][Hs c][Sls O][Sls P][Sls w][Sls B][Sls g][Sls h]{j:B->h->w->D}{S:D->(P->B->h->Prop)->66->Prop}
 [A0:At i D c O] [A:At i B c g] [U:Pt i g c B] (hr:J8 X E T o j S) (he:PE X 88 (vr i):=by exact pv _) (hs:gJ (.Name x pos::o) X.env=(false,eval 88 X.env)::gJ o X.env:=by rfl) :
    J8 X E T (.Name x pos::o) (λ(b:g)(l:h)(p:c×w)=>j (U.put b p.1) l p.2) (cK S λ(W:c×P->g->h->Prop) p b l=>W (A.get b,p) (A.hole b) l):=by
  refine e1a2 hr λtr b1 b2=>?_
  refine#[_,uS he b1 hs,λd F R σ H W Ke Q s hw kn ke=>?_]
  refine e3a4 (A0.take s.rel) λv _ _ y _ C _=>?_
  obtain⟨u,rfl⟩:=Hs.has C
  refine#[u,y,b2 d F R σ H _ Ke _ s hw (λp b l Y us Z G2 L F' R' H' q2 c2 s2 e h1 h2 hl k=>?_) ke]
  refine e3a4 (A.take h2) λv' G M2 z1 r z3 z4=>?_
  rw[y]at z1
  cases z1
  have m1:∀a,G a->G2 a:=λa m=>(r.all a).mpr<|.inl m
  have m2:∀a,M2 a->G2 a:=λa m=>(r.all a).mpr<|.inr m
  refine kn (A.get b,p) (A.hole b) l (u::Y) us (λa=>G a\/Z a) M2 L F' R' H' q2 c2 s2 #[λa=>?_,λa m n=>?_,λa m n=>?_,λa m n=>e.Js a (m2 a m) n] #[↑u,Y.map some,G,Z,rfl,#[λ_=>Iff.rfl,λa m n=>e.HK a n<|m1 a m],Ow.wk z3<|Cr R' L H',h1] z4 hl λb' l' L1 L2 L3 I J M p' h3 h4 h5 t=>?_
  · rw[e.all, r.all]
    exact#[λz=>z.elim (λq=>.inl<|.inr q) λz=>z.elim (λz=>z.elim (λq=>.inl<|.inl q) λq=>.inr<|.inl q) λq=>.inr<|.inr q,λz=>z.elim (λz=>z.elim (λq=>.inr<|.inl<|.inl q) .inl) λz=>z.elim (λq=>.inr<|.inl<|.inr q) λq=>.inr<|.inr q]
  · rcases m with m|m
    · exact r.xZ a m n
    · exact e.HK a m<|m2 a n
  · rcases m with m|m
    · exact e.Js a (m1 a m) n
    · exact e.Jr a m n
  · refine e4a4 h3 λv' aa N N2 y1 f y3 y4 => ?_
    injection y1 with y5 y6
    subst y5;subst y6
    have tt:C7 (λa=>N a\/L2 a) N L2:=#[λ_=>Iff.rfl,λa m n=>t.HK a ((f.all a).mpr<|.inl m) n]
    refine k _ l' N2 (λa=>N a\/L2 a) L3 I J M p'.2 y4 (Pt.same (A:=U) h4 y tt y3) h5 #[λa=>?_,λa m n=>?_,λa m n=>t.Jr a ((f.all a).mpr<|.inr m) n,λa m n=>?_]
    · rw[t.all, f.all]
      exact#[λz=>z.elim (λz=>z.elim (λq=>.inr<|.inl<|.inl q) .inl) λz=>z.elim (λq=>.inr<|.inl<|.inr q) λq=>.inr<|.inr q,λz=>z.elim (λq=>.inl<|.inr q) λz=>z.elim (λz=>z.elim (λq=>.inl<|.inl q) λq=>.inr<|.inl q) λq=>.inr<|.inr q]
    · rcases n with n|n
      · exact f.xZ a n m
      · exact t.HK a ((f.all a).mpr<|.inr m) n
    · rcases m with m|m
      · exact t.Jr a ((f.all a).mpr<|.inl m) n
      · exact t.Js a m n
def vP{u:List iD}(i:Nat){e S P y B h j:Type}[Rep e][Sls S][Sls P][Sls y][Sls B][Sls h][Sls j]{o:B->j->y->D}{W:D->(P->B->j->Prop)->66->Prop}
 [A0:At i D (OL e) S] [A:At i B (OL e) h] [U:Pt i h (OL e) B] (hr:J8 X E T u o W) (he:PE X 88 (vr i):=by exact pv _) (hs:gJ (.Name x pos::u) X.env=(false,eval 88 X.env)::gJ u X.env:=by rfl) :
    J8 X E T (.Name x pos::u) (λ(b:h)(l:OL e×j)(p:Un×y)=>o (U.put b l.1) l.2 p.2) (cK W λ(Y:List e×P->h->OL e×j->Prop) p b l=>Y ((A.get b).l,p) (A.hole b) (A.get b,l)):=by
  refine e1a2 hr λtr b1 b2=>?_
  refine#[_,uS he b1 hs,λd F R σ H Y Ke Q s hw kn ke=>?_]
  obtain⟨v,_,_,C,_,⟨r,_,rfl,_⟩,_⟩:=A0.take s.rel
  refine#[_,C,b2 d F R σ H _ Ke _ s hw (λp b l Z us G G2 L F' R' H' q2 c2 s2 f h1 h2 hl k=>?_) ke]
  refine e3a4 (A.take h2) λv' I M2 z1 w z3 z4=>?_
  rw[C]at z1
  cases z1
  refine e2a4 (id z3) λa ws e1 e2 e3 e4=>?_
  cases e1
  have m1:∀a,I a->G2 a:=λa m=>(w.all a).mpr<|.inl m
  have m2:∀a,M2 a->G2 a:=λa m=>(w.all a).mpr<|.inr m
  refine kn ((A.get b).l,p) (A.hole b) (A.get b,l) (.ref r::Z) (↑(.ref r)::us) G M2 (λc=>I c\/L c) F' R' H' q2 c2 s2 #[λa=>?_,λa m n=>f.HK a m<|m2 a n,λa m n=>?_,λa m n=>?_] #[some<|.ref r,Z.map some,λ_=>False,G,rfl,two_nil G,#[λ_ z=>z,_,rfl,r,ws,rfl,λz=>z.2<|.inl<|(e2 r).mpr rfl,e3,vT ((Cr R' _ H').wide λ_ z=>z.elim) e4],Sls.wk h1<|Tg λ_ z=>.inr z] z4 #[_,us,I,L,rfl,#[λ_=>Iff.rfl,λa m n=>f.Js a (m1 a m) n],z3,hl] λb' l' L1 L2 L3 J M N p' h3 h4 h5 t=>?_
  · rw[f.all, w.all]
    exact#[λz=>z.elim .inl λz=>z.elim (λz=>z.elim (λq=>.inr<|.inr<|.inl q) λq=>.inr<|.inl q) λq=>.inr<|.inr<|.inr q,λz=>z.elim .inl λz=>z.elim (λq=>.inr<|.inl<|.inr q) λz=>z.elim (λq=>.inr<|.inl<|.inl q) λq=>.inr<|.inr q]
  · rcases n with n|n
    · exact f.HK a m<|m1 a n
    · exact f.Jr a m n
  · rcases n with n|n
    · exact w.xZ a n m
    · exact f.Js a (m2 a m) n
  · refine e4a4 h3 λv' aa N1 N2 y1 y2 y3 y4 => ?_
    injection y1 with _ y6
    subst y6
    refine e4a4 h5 λv2 ab O K2 x1 g x3 x4=>?_
    injection x1 with x5 x6
    subst x5;subst x6
    have tt:C7 (λa=>O a\/L2 a) O L2:=#[λ_=>Iff.rfl,λa m n=>t.Js a n<|(g.all a).mpr<|.inl m]
    refine k _ l'.2 L1 (λa=>O a\/L2 a) K2 J M N p'.2 (Sls.fq y4<|two_eq y2 y3) (Pt.same (A:=U) h4 C tt x3) x4 ⟨λa=>?_,λa m n=>?_,λa m n=>t.Jr a m<|(g.all a).mpr<|.inr n,λa m n=>?_⟩
    · rw[t.all, g.all]
      exact#[λz=>z.elim .inl λz=>z.elim (λq=>.inr<|.inl<|.inr q) λz=>z.elim (λq=>.inr<|.inl<|.inl q) λq=>.inr<|.inr q,λz=>z.elim .inl λz=>z.elim (λz=>z.elim (λq=>.inr<|.inr<|.inl q) λq=>.inr<|.inl q) λq=>.inr<|.inr<|.inr q]
    · rcases n with n|n
      · exact t.Jr a m<|(g.all a).mpr<|.inl n
      · exact t.HK a m n
    · rcases m with m|m
      · exact g.xZ a m n
      · exact t.Js a m<|(g.all a).mpr<|.inr n
def Eb{P J B Lc M:Type}[Sls P][Sls J][Sls B][Sls Lc][Ow M][Lb Lc M J]{mrg:B->Lc->J->D}{wf:Wf P M J}{F R F1 F2 L:Rg}{H:Hp}{b:B}{l:Lc}{p:P}{σ:St}{vs:List V}{us:St}{Kn:M->D->Prop}{Ke:gH->D->Prop}{Q:VK}
  (s:Std T F R H) (t:Ea F F1 F2 L) (hp:rel F1 (Wo R L) H p (vs.map some)) (hb:rel F2 R H b σ) (hl:rel L R H l us) (km:∀b' l' G1 G2 G3 W u w r,rel G1 u w r (vs.map some)->rel G2 u w b' σ->rel G3 u w l' us->Ea W G1 G2 G3->rel W u w (mrg b' l' r) σ)
  (hw:wf p (λx r=>Kn x<|mrg b l r) (λC r=>Ke C<|mrg b l r))
  (kn:∀x X v M1 N i d,Kn x X->Ch T F R H (λa=>M1 a\/N a) i d->vQ T N i d X σ->Nw T M1 N i d x v->Q v d)
  (ke:∀C y X Y i d,Ke C X->Ch T F R H Y i d->vQ T Y i d X σ->E (.ref C) ↑y d):ye T wf vs H Q E:=by
 have O:∀a,F1 a->F a:=λa h=>(t.all a).mpr<|.inl h;have S:∀a,F2 a->F a:=λa h=>(t.all a).mpr<|.inr<|.inl h;have k:∀a,L a->F a:=λa h=>(t.all a).mpr<|.inr<|.inr h;have s1:vQ T F1 (Wo R L) H p (vs.map some):=⟨hp,λa h=>#[s.sub a<|O a h,λz=>t.Jr a h z],λa h=>s.wT a h.1,s.tab,#[s.vG,λz=>s.vv<|k T z],λh=>s.vv<|O T h⟩
 -- the region aa it: Z the ab left and Z ah ag
 have ex:∀{G i:Rg} {d:Hp},Ch T F1 (Wo R L) H G i d->Ext (λa=>F1 a\/a=T) R H (λa=>i a\/L a) d:=λc=>#[λb o n h=>c.keep b o (λz=>n<|.inl z) (λz=>n<|.inr z) h,λa h=>h.elim (λz=>(c.zP a z).elim (λq=>.inl q.1) .inr) λz=>.inl<|s.sub a<|k a z];have gs:∀a,(F1 a\/a=T)->R a:=λa h=>h.elim (λz=>s.sub a<|O a z) λq=>by rw[q];exact s.vG
 have fr:∀{G i:Rg} {d:Hp},Ch T F1 (Wo R L) H G i d->rel F2 (λa=>i a\/L a) d b σ:=λc=>Sls.st hb (ex c) gs λa h z=>z.elim (λq=>t.HK a q h) λq=>s.vv (by rw[<- q];exact S a h);have A:∀{G i:Rg} {d:Hp},Ch T F1 (Wo R L) H G i d->rel L (λa=>i a\/L a) d l us:=λc=>Sls.st hl (ex c) gs λa h z=>z.elim (λq=>t.Jr a q h) λq=>s.vv (by rw[<- q];exact k a h)
 have nF:∀{G i:Rg} {d:Hp},Ch T F1 (Wo R L) H G i d->∀a,G a->F2 a\/L a->False:=λc a g f=>by
  rcases c.yd a g with q|q
  ·exact f.elim (t.HK a q)<|t.Jr a q
  ·exact s.wT a (s.sub a<|f.elim (S a)<|k a) q
 have nR:∀{G i:Rg} {d:Hp},Ch T F1 (Wo R L) H G i d->∀a,L a->¬i a:=λc a h z=>by
  rcases c.zP a z with q|q
  ·exact q.2 h
  ·exact s.wT a (s.sub a<|k a h) q
 have ch:∀{G i:Rg} {d:Hp},Ch T F1 (Wo R L) H G i d->Ch T F R H (λa=>G a\/F2 a\/L a) (λa=>i a\/L a) d:=λc=>#[λb o n m h=>c.keep b o (λz=>n<|O b z) m h,(ex c).new,λa h=>h.elim (λq=>(c.yd a q).elim (λz=>.inl<|O a z) .inr) λq=>.inl<|q.elim (S a)<|k a,λa h n=>.inl<|c.left a ⟨h,λz=>n<|k a z⟩ λz=>n<|O a z];have ae:∀{G i:Rg} {d:Hp},Ch T F1 (Wo R L) H G i d->∀a,F2 a->i a:=λc a f=>c.left a #[s.sub a<|S a f,λz=>t.Js a f z] λz=>t.HK a z f
 have af:∀{G i:Rg} {d:Hp},Ch T F1 (Wo R L) H G i d->(∀a,i a->d a≠none)->∀a,i a\/L a->d a≠none:=λc h a z=>z.elim (h a) λq=>by
  cases e:H a with
  |none=>exact g8 e<|s.wT a<|s.sub a<|k a q
  |some o=>rw[c.keep a o (λz=>t.Jr a z q) (λz=>s.vv<|by rw[<- z];exact k a q) e];simp
 refine#[F1,Wo R L,p,_,_,s1,hw,λx r v M1 N i d q c j n=>?_,λC y r Y i d q c j=>?_]
 ·have U:=nF c;have kl:=A c;have I:=ch c;refine kn x _ v M1 (λa=>N a\/F2 a\/L a) (λa=>i a\/L a) d q #[I.keep,I.zP,λa h=>I.yd a<|h.elim (λz=>.inl<|.inl z) λz=>z.elim (λq=>.inl<|.inr q) .inr,I.left] ⟨km b l N F2 L _ _ d r (Lb.fs M kl j.rel) (fr c) (A c) ⟨λ_=>Iff.rfl,λa m f=>U a (.inr m)<|.inl f,λa m f=>U a (.inr m)<|.inr f,t.Js⟩,λa h=>h.elim (λz=>.inl<|j.sub a z) λz=>z.elim (λq=>.inl<|ae c a q) .inr,af c j.wT,j.tab,.inl j.vG,λh=>h.elim j.vv λz=>z.elim (λq=>s.vv<|S T q) λq=>s.vv<|k T q⟩ ⟨Lb.fr J kl n.is,λa m=>.inl<|n.sub a m,λa m z=>z.elim (n.xZ a m) λz=>U a (.inl m) z,n.tab⟩
 ·have U:=nF c;have kl:=A c;exact ke C y _ (λa=>Y a\/F2 a\/L a) (λa=>i a\/L a) d q (ch c) #[km b l Y F2 L _ _ d r (Lb.fs M kl j.rel) (fr c) (A c) #[λ_=>Iff.rfl,λa m f=>U a m<|.inl f,λa m f=>U a m<|.inr f,t.Js],λa h=>h.elim (λz=>.inl<|j.sub a z) λz=>z.elim (λq=>.inl<|ae c a q) .inr,af c j.wT,j.tab,.inl j.vG,λh=>h.elim j.vv λz=>z.elim (λq=>s.vv<|S T q) λq=>s.vv<|k T q]
def PB{P j B o:Type}[Sls P][Sls j][Sls B][Ow o]{mrg:B->j->D}{wf:Wf P o j}{F R F1 F2:Rg}{H:Hp}{b:B}{p:P}{σ:St}{r:List V}{Kn:o->D->Prop}{Ke:gH->D->Prop}{Q:VK}
  (s:Std T F R H) (t:C7 F F1 F2) (I:rel F1 R H p (r.map some)) (J:rel F2 R H b σ) (M:∀k m n e c d f,rel m c d f (r.map some)->rel n c d k σ->C7 e m n->rel e c d (mrg k f) σ)
  (hw:wf p (λx f=>Kn x<|mrg b f) (λC f=>Ke C<|mrg b f))
  (N:∀x i v w u h g,Kn x i->Ch T F R H (λa=>w a\/u a) h g->vQ T u h g i σ->Nw T w u h g x v->Q v g)
  (O:∀C y i A h g,Ke C i->Ch T F R H A h g->vQ T A h g i σ->E (.ref C) ↑y g):ye T wf r H Q E :=
 Eb (Lc:=Unit) (L:=λ_=>False) (l:=()) (us:=[]) (mrg:=λb _ p=>mrg b p) s #[λa=>(t.all a).trans #[λz=>z.elim .inl λq=>.inr<|.inl q,λz=>z.elim .inl λq=>q.elim .inr io],t.xZ,λ_ _ z=>z,λ_ _ z=>z] (Sls.wk I<|Cr _ _ _) J ⟨rfl,λ_ z=>z⟩
  (λk _ m n X e c d f S U W G=>M k m n e c d f S U #[λa=>(G.all a).trans #[λz=>z.elim .inl λq=>q.elim .inr λq=>g8 q<|W.2 a,λz=>z.elim .inl λq=>.inr<|.inl q],G.HK]) hw N O
def BC{P i B o r:Type}[Sls P][Sls i][Sls B][Sls o][Ow r][Lb o r i]{j:B->o->i->D}{S:Wf P r i}{U:D->(P->B->o->Prop)->66->Prop}{k:Nat}{Y:List Str}{m:List iD}
 (F:vt X.prog X.w X.K X.mg X.base (vF X.prog X.w) k f fd Y (ye T S)) (hr:v4 k X.A) (hg:Gl X x) (hm:X.mg x=↑(.ref f)) (hk:ja X.K (.ref f)=true) (hb:Binds X.K fd Y []) (hx:Passes (vF X.prog X.w) X E)
 (ha:J8 X E T (e::m) j U) (u:(x==55)=false:=by decide) (he:gJ (e::m) X.env=58::gJ m X.env:=by rfl) (z:(jg pos<|gJ m X.env).any (·.1)=false:=by rfl) :
    EO X E T (.Call (.Name x p) (e::m) [] pos) (cC U S j):=by
  refine e1a2 ha λt a1 a2=>?_
  refine#[_,Sl F hr hg hm hk hb .nil hx a1 u he z,λd F' R σ H Kn Ke Q s hw kn Z=>?_]
  refine a2 d F' R σ H _ Ke _ s hw (λp b l vs us F1 F2 L G R' H' q c I tw h1 h2 h3 km=>?_) Z
  rw[kW]
  exact Eb I tw h1 h2 h3 km q (λx J v M1 M2 a g M N h n=>kn x J v M1 M2 a g M (Ch.trans s I.tab c N) h n) λC y J O a g M N h=>Z C y J O a g M (Ch.trans s I.tab c N) h
class Obj(τ:Type)[Ow τ](K:gG)(C:gH)(m:Str):Prop where
 ob:∀{F R:Rg} {H:Hp} {x:τ} {v:V},sl F R H x ↑v->∃a dx fs,v=.ref a/\H a=↑(.ins C dx fs)/\fs.lookup m=none
end
section
variable{D PO τ:Type}[Sls D][Sls PO][Ow τ]{α:Type}[Rep α]
def zi{F:Rg}:Ext (λc=>c=a) R H R (upd H a o):=#[λb u n h=>by rw[uL n];exact h,λ_ h=>.inl h]
def BD{i:Nat}{D0:Type}[Sls D0][A:At i D (OL α) D0][U:Pt i D0 (OL α) D]{F R:Rg}{H:Hp}{d:D}{σ:St}(s:vQ T F R H d σ):∃a vs,σ[i]?=↑(some<|.ref a)/\H a=↑(.lst vs)/\Paired (rp R H) (A.get d).l vs /\
  ∀(ys:List α)(us:List V),Paired (rp R H) ys us->Ch T F R H F R (upd H a<|.lst us)/\vQ T F R (upd H a<|.lst us) (U.put (A.hole d) #[ys]) σ:=by
 obtain⟨v,F1,F2,h1,h2,⟨a,vs,rfl,h4,h5,h6⟩,h7⟩:=A.take s.rel;have aF:F a:=(h2.all a).mpr<|.inl<|(h4 a).mpr rfl;have aT:a≠T:=λz=>s.vv (by rw[<- z];exact aF);refine#[a,vs,h1,h5,h6,λys us hp=>?_];have ex:=zi (F:=F) (R:=R) (H:=H) (a:=a) (o:=.lst us);have gs:∀c,c=a->R c:=λc z=>by rw[z];exact s.sub a aF
 have k:∀b u,b≠a->H b=↑u->upd H a (.lst us) b=↑u:=λb u z e=>by rw[uL z];exact e
 refine#[#[λb o n _ e=>k b o (λz=>n<|by rw[z];exact aF) e,λ_ h=>.inl h,λ_ h=>.inl h,λ_ h _=>h],Pt.same (A:=U) (Sls.st h7 ex gs λc z q=>h2.xZ c ((h4 c).mpr q) z) h1 h2 #[a,us,rfl,h4,uO,vT (ex.wide gs) hp],s.sub,λc z=>?_,?_,s.vG,s.vv]
 ·by_cases e:c=a
  ·rw[e,uO];simp
  ·rw[uL e];exact s.wT c z
 ·refine e1a2 s.tab λps e t=>?_;exact#[ps,k _ _ (λz=>aT z.symm) e,t]
def wj{x:Str}{e:iD}(i:Nat){p1 p2 p3:Pos}{D0:Type}[Sls D0][A:At i D (OL α) D0][U:Pt i D0 (OL α) D][J:Pj D PO n]{we:Wf D α D}(h:EW X E T e we)
  (hb:∀{t:TA},PA X [e] t->PS X (.Expr (.Call (.Attribute (.Name x p1) "append" p2) [e] [] p3) pos) (HX<|tBM X.K "list" LR (vr i) t):=by exact λh=>Bi<|OK kC PySem.F.slot_list_append PySem.F.type_list_append M8 (pv _) h) (hs:gJ [e] X.env=58::gJ [] X.env:=by rfl) :
  S1 X E T ms n (.Expr (.Call (.Attribute (.Name x p1) "append" p2) [e] [] p3) pos) (cS we J.pj λ(Kn:D->Prop)(Kr:τ->PO->Prop) y d'=>(A.get d').l.length<gL/\Kn (U.put (A.hole d') #[(A.get d').l++[y]])):=by
 refine e1a2 h λt h1 h2=>?_;refine#[_,hb<|uS h1 u4 hs,λd F R σ H Kn Kr Ke En s hw kn kr ke=>?_];refine e2a4 (BD (i:=i) s) λa vs g1 g2 g3 _=>?_;refine#[_,g1,.inl #[rfl,vs,vX.of g2],h2 d F R σ H _ _ _ s hw (λy d' v F' R' H' q c s' r=>?_) λC y d' F' R' H' q c s'=>?_]
 ·refine e2a4 (BD (i:=i) s') λa' Th k1 k2 k3 k4=>?_;rw[g1]at k1;cases k1;obtain⟨c2,s2⟩:=k4 _ _<|xC k3<|.cons r .nil;exact#[a,Th,v,rfl,rfl,k2,by rw[<- Paired.length k3];exact q.1,kn _ F' R' _ σ q.2 (Ch.trans s s'.tab c c2) s2<|Ag.refl _ _]
 ·refine e1a2 (wp (PO:=PO) s') λG g1 g2=>?_;exact ke C y _ G R' H' q (c.less g1) g2
end
def GW(X:Cx)(T:gH)(ms:List Nat)(tg:iD){D D1 α:Type}[Sls D][Sls D1][Rep α](g:D->α->D1):Prop :=
 ∃t,PG X tg t/\∀(d:D)(F R:Rg)(σ:St)(H:Hp)(x:α)(v:V)(Q:St->Hp->Prop),vQ T F R H d σ->rp R H x v->(∀F' σ',(∀a,F' a->F a)->vQ T F' R H (g d x) σ'->Ag ms σ σ'->Q σ' H)->t v σ H Q
section
variable{D:Type}[Sls D]{α β:Type}[Rep α][Rep β]
def J9{i:Nat}{YO D0 D1:Type}[Ow YO][Sls D0][Sls D1][A:At i D YO D0][U:Pt i D0 α D1]{F R:Rg}{H:Hp}{d:D}{σ:St}{x:α}{v:V}(s:vQ T F R H d σ)(r:rp R H x v) :
  ∃F',(∀a,F' a->F a)/\vQ T F' R H (U.put (A.hole d) x) (σ.set i<|↑v):=by
 have m:Nw T (λ_=>False) F R H x v:=#[#[λ_ z=>z,v,rfl,r],λ_ z=>z.elim,λ_ z=>z.elim,λz=>z];refine e1a2 (FH (i:=i) s m) λG g1 g2=>?_;exact#[G,λa h=>(g1 a h).elim (λz=>z.elim) id,g2]
def vj{x:Str}(i:Nat){YO D0 D1:Type}[Ow YO][Sls D0][Sls D1][A:At i D YO D0][U:Pt i D0 α D1](hp:PG X 88 (CH i))(hm:i∉ms:=by decide):GW X T ms 88 (λ(d:D)(x:α)=>U.put (A.hole d) x) :=
 #[_,hp,λd F R σ H x v Q s r k=>by
  refine e1a2 (J9 (i:=i) s r) λF' f1 f2=>?_
  exact k F' _ f1 f2 (Ag.set hm)]
def BE(i j:Nat)[Ow b][Ow c][Sls e][Sls f][Sls g][Sls m][A:At i D b e][U:Pt i e α f][n:At j f c g][o:Pt j g β m](p:PG X q (VX X.K 2<|Fo (CH i)<|Fo (CH j) VW))(t:i∉l)(y:j∉l) :
  GW X T l q (λ(d:D)(x:α×β)=>o.put (n.hole<|U.put (A.hole d) x.1) x.2) :=
 #[_,p,λd F R M H x v Q s r k=>by
  obtain⟨a,u,w,rfl,_,z,B,C⟩:=r;refine e1a2 (J9 (i:=i) s B) λN E G=>?_;refine e1a2 (J9 (i:=j) G C) λI J L=>?_
  exact#[a,[u,w],rfl,yI.of z,rfl,u,[w],rfl,w,[],rfl,rfl,k I _ (λa h=>E a (J a h)) L ((Ag.set t).trans (Ag.set y))]]
end
structure XX{α:Type}[Rep α](J:It)(xs:List α)(Ps:Rg->Hp->Prop):Prop where
 go:∀{R:Rg} {H:Hp} {i:Nat},Ps R H->i<xs.length->J.go i H
 HJ:∀{R:Rg} {H:Hp} {i:Nat} {v:V} {H':Hp},Ps R H->(∀a,R a->H a≠none)->i<xs.length->J.HJ i H v H'->(H'=H\/∃p o,H p=none/\H'=upd H p o)/\∃x,xs[i]?=↑x/\rp R H' x v
 stop:∀{R:Rg} {H:Hp},Ps R H->J.stop xs.length H
def IW(X:Cx)(E:XK)(T:gH)(O:List Nat)(P e:iD){D B o:Type}[Sls D][Sls B][Rep o](k:B->List o->D)(w:D->(List o->B->Prop)->66->Prop):Prop :=
 ∃t,PI X P e t/\∀(d:D)(F R:Rg)(l:St)(H:Hp)(s:List o->B->Prop)(u:gH->D->Prop)(v:It->Hp->Prop),vQ T F R H d l->w d s u ->
  (∀p b J m j q x f c,s p b->Ch T F R H j f c->Std T j f c->C7 j q x->rel x f c b l->XX J p m->m f c ->
   (∀{G r z:Rg} {A I:Hp},m r A->(∀a,G a->r a)->(∀a,q a->¬G a)->Ext G r A z I->m z I) ->
   (∀L M n g h i,m g h->rel M g h L i->Ag O l i->C7 n q M->rel n g h (k L p) i)->v J c) ->
  (∀C y N j f c,u C N->Ch T F R H j f c->vQ T j f c N l->E (.ref C) ↑y c)->t l H v
section
variable{D:Type}[Sls D]{α β:Type}[Rep α][Rep β]
def BF{K:gG}{xs:List α}{vs:List V}:XX (XJ K a) xs (λR H=>H a=↑(.lst vs)/\Paired (rp R H) xs vs) where
 go:=λ{R H i} p h=>by refine e1a2 (wE (i:=i) (x:=xs[i]) p.2<|by simp[h]) λv e _=>?_;exact#[vs,v,vX.of p.1,e]
 HJ:=λ{R H i v H'} p _ hi y=>by obtain⟨e,y⟩:=y;subst e;have y':=y vs<|vX.of p.1;refine e1a2 (wE (i:=i) (x:=xs[i]) p.2<|by simp[hi]) λu e r=>?_;rw[y']at e;cases e;exact#[.inl rfl,_,by simp[hi],r]
 stop:=λ{R H} p=>#[vs,vX.of p.1,by rw[Paired.length p.2];exact gK _]
def vZ{w:Wf D (List α) D}(h:EW X E T e w):IW X E T is tg e (λ(b:D)(_:List α)=>b) w:=by refine e1a2 h λt h1 h2=>?_;refine#[_,FZ h1,λd F R σ H Kn Ke Rk s hw kn ke=>h2 d F R σ H _ _ _ s hw (λxs d' v F' R' H' q c s' r=>?_) ke];obtain⟨a,vs,rfl,r1,r2,r3⟩:=r;refine#[a,rfl,#[vs,vX.of r2],kn xs d' _ (λR H=>(H a=↑(.lst vs)/\Paired (rp R H) xs vs)/\¬R a) F' (λ_=>False) F' R' H' q c s'.Ny (two_nil F') s'.rel #[λp=>BF.go p.1,λp=>BF.HJ p.1,λp=>BF.stop p.1] #[#[r2,r3],r1] (λp gs nf ex=>?_) λb' G2 Vp Jq Py σ' p h g t=>Sls.fq h<|two_eq t λ_ z=>z];have na:¬_:=λz=>p.2<|gs a z;exact#[#[ex.keep a _ na p.1.1,vT (ex.wide gs) p.1.2],ex.not p.2 p.1.1]
def Ka{x:Str}(i:Nat){B:Type}[Sls B][A:At i D (OL α) B][U:Pt i B (OL α) D](hn:PE X 88 (vr i))(hi:i∈is):IW X E T is tg 88 (λ(b:B)(xs:List α)=>U.put b #[xs]) (λ(d:D)(Kn:List α->B->Prop) _=>Kn (A.get d).l<|A.hole d):=by refine⟨_,FZ hn,λd F R σ H Kn Ke Rk s hw kn ke=>?_⟩;obtain⟨v,F1,F2,h1,h2,⟨a,vs,rfl,h4,h5,h6⟩,h7⟩:=A.take s.rel;refine#[_,h1,a,rfl,#[vs,vX.of h5],kn _ _ _ (λR H=>H a=↑(.lst vs)/\Paired (rp R H) (A.get d).l vs) F F1 F2 R H hw 53 s.Ny h2 h7 BF #[h5,h6] (λp gs nf ex=>#[ex.keep a _ (nf a<|(h4 a).mpr rfl) p.1,vT (ex.wide gs) p.2]) λb' G2 Vp Jq Py σ' p h g t=>?_];exact Pt.same (A:=U) h (by rw[g.2 i hi];exact h1) t #[a,vs,rfl,h4,p.1,p.2]
noncomputable def yH(a b:Int):List Int:=(hW (b-a).toNat).map λ(i:Nat)=>a+(i:Int)
def wJ(a b:Int):(yH a b).length=(b-a).toNat:=by unfold yH;rw[gN,lm]
def Ti{a b:Int}{i:Nat}(h:i<(b-a).toNat):(yH a b)[i]?=↑(a+(i:Int)):=by unfold yH;rw[jx,tR h];rfl
def FK{lo hi:Int}:XX (V1 lo (hi-lo).toNat) (yH lo hi) (λ_ _=>True) where
 go:=λ{R H i} _ h=>by rw[wJ]at h;exact h
 HJ:=λ{R H i v H'} _ _ hi y=>by obtain⟨e,y⟩:=y;subst e y;rw[wJ]at hi;exact#[.inl rfl,_,Ti hi,rfl]
 stop:=λ{R H} _=>by rw[wJ];exact gK _
def wK(m:Gl X "range")(n:X.mg "range"=none)(o:EW X E T a u)(w:gJ [a] X.env=75::gJ [] X.env:=by rfl)(e:gJ [a] X.env=[75]:=by rfl) :
  IW X E T is P (.Call (.Name "range" p) [a] [] pos) (λ(b:D)(_:List Int)=>b) (cK u λk j f=>(-(2 ^ 62)<=j/\j<2 ^ 62)/\k (yH 0 j) f):=by
 refine e1a2 o λt x y=>?_;refine#[_,MW m n (uS x u4 w) e,λd F R A H k Q S s B C G=>y d F R A H _ _ _ s B (λj f v i I J q c l r=>?_) G];subst r;refine#[j,rfl,q.1.1,q.1.2,?_];have:=C (yH 0 j) f (V1 0 (j-0).toNat) (λ_ _=>True) i (λ_=>False) i I J q.2 c l.Ny (two_nil i) l.rel FK trivial (λ_ _ _ _=>trivial) λU W L M N O p h g t=>Sls.fq h<|two_eq t λ_ z=>z;rw[Int.sub_zero]at this;exact this
def Nz(hg:Gl X "range")(hm:X.mg "range"=none)(L:EW X E T a M)(N:EW X E T b O)(m:∀{A:TA},PA X [a,b] A->PI X P (.Call (.Name "range" p) [a,b] [] pos) (U7 A))
 (Q:gJ [a,b] X.env=75::gJ [b] X.env:=by rfl) (n:gJ [b] X.env=(false,eval b X.env)::gJ [] X.env:=by rfl) :
    IW X E T is P (.Call (.Name "range" p) [a,b] [] pos) (λ(b:D)(_:List Int)=>b) (cB M O λi B j e=>(-(2 ^ 62)<=i/\i<2 ^ 62/\-(2 ^ 62)<=j/\j<2 ^ 62)/\B (yH i j) e):=by
  obtain⟨t,S,U⟩:=L
  obtain⟨tb,W,Y⟩:=N
  refine#[_,m<|uS S (uS W u4 n) Q,λd F R G H B Ke Rk s Z kn I=>U d F R G H _ _ _ s Z (λi d1 u F1 R1 H1 q1 J o r1=>?_) I]
  refine Y d1 F1 R1 G H1 _ _ _ o q1 (λj e v f w x q c l r=>?_) λC y e f w x k c l=>I C y e f w x k (Ch.trans s o.tab J c) l
  subst r;subst r1
  exact#[i,j,rfl,q.1,kn (yH i j) e (V1 i (j-i).toNat) (λ_ _=>True) f (λ_=>False) f w x q.2 (Ch.trans s o.tab J c) l.Ny (two_nil f) l.rel FK trivial (λ_ _ _ _=>trivial) λb' G2 aa ab ae af p h g t=>Sls.fq h<|two_eq t λ_ z=>z]
end
def Gv{α B PO τ:Type}(b:α->B->(B->Prop)->93->81->Prop):List α->B->(B->Prop)->93->81->Prop
 | [],d,Kn,_,_=>Kn d
 |x::xs,d,Kn,Kr,Ke=>b x d (λd'=>Gv b xs d' Kn Kr Ke) Kr Ke
section
variable{D B D1 D2 PO τ α:Type}[Sls D][Sls B][Sls D1][Sls D2][Sls PO][Ow τ][Rep α]
def Ch.big(c:Ch T F R H d e f)(g:∀a,F a->G a):Ch T G R H d e f:=#[λb o n m h=>c.keep b o (λz=>n<|g b z) m h,c.zP,λa h=>(c.yd a h).elim (λz=>.inl<|g a z) .inr,λa h n=>c.left a h λz=>n<|g a z]
def Ch.PD(t:C7 F F1 d)(c:Ch T d R H e f g):Ch T F R H (λa=>F1 a\/e a) f g:=#[λb o n m h=>c.keep b o (λz=>n<|(t.all b).mpr<|.inr z) m h,c.zP,λa h=>h.elim (λz=>.inl<|(t.all a).mpr<|.inl z) λz=>(c.yd a z).elim (λz=>.inl<|(t.all a).mpr<|.inr z) .inr,λa h n=>c.left a h λz=>n<|(t.all a).mpr<|.inr z]
def Ch.trans'{j:Rg}{i k:Hp}(s:Std T F R H)(m:TabAt i T)(a:Ch T F R H l p i)(b:Ch T l p i r j k):Ch T F R H r j k:=by
 have f:∀c,¬F c->H c≠none->¬l c:=λc n h z=>by
  rcases a.yd c z with q|q
  ·exact n q
  ·exact h q
 have d:∀c,i c=none->¬(F c)->H c=none:=λc h n=>by
  cases e:H c with
  |none=>rfl
  |some o =>
   have u:c≠T:=λz=>by rw[z]at h;exact yO m h
   rw[a.keep c o n u e]at h;cases h
 refine#[λc o n t h=>b.keep c o (f c n<|by rw[h];simp) t<|a.keep c o n t h,λc h=>?_,λc h=>?_,λc h n=>b.left c (a.left c h n)<|f c n<|s.wT c h]
 ·rcases b.zP c h with q|q
  ·exact a.zP c q
  ·by_cases g:F c
   ·exact .inl<|s.sub c g
   ·exact .inr<|d c q g
 ·rcases b.yd c h with q|q
  ·exact a.yd c q
  ·by_cases g:F c
   ·exact .inl g
   ·exact .inr<|d c q g
def drop_cons{α:Type}{a:List α}{i:Nat}{x:α}(h:a[i]?=↑x):a.drop i=x::a.drop (i+1):=by have b:=(List.getElem?_eq_some_iff.mp h);rw[nP b.1,b.2]
def Ag.sub(a:Ag c d b)(h:∀i∈e,i∈c):Ag e d b:=#[a.1,λi f=>a.2 i<|h i f]
@[reducible] def cF{D B D1 D2 α τ PO:Type}(w:D->(List α->B->Prop)->66->Prop)(v:D1->(D2->Prop)->93->81->Prop)(g:B->α->D1)(k:B->List α->D)(f:D2->B)(j:D->PO):D->(D->Prop)->93->81->Prop:=λd i c a=>w d (λh b=>Gv (λx b e c a=>v (g b x) (λl=>e<|f l) c a) h b (λm=>i<|k m h) c a) λC n=>a C<|j n
def v8{I:B->List α->D}{wi:D->(List α->B->Prop)->66->Prop}{g:B->α->D1}{wb:D1->(D2->Prop)->93->81->Prop}[Gf:Fg D2 B][J:Pj D PO n](dp:RY PO ms n)(hp:rF 19 X.A X.env X.xe)(hc:X.calm=true)
 (hi:IW X E T is tg iter I wi) (hg:GW X T mb tg g) (hb:SW X E T mb n body wb) (h1:∀i∈ms,i∈mb) (h2:∀i∈is,i∈mb) (hs:∀x,j0 iter X.env x=pure x:=by intro _;rfl) :
    S1 X E T ms n (.For tg iter body [] pos) (cF wi wb g I Gf.fg J.pj):=by
  refine e1a2 hi λti i1 i2=>?_
  refine e1a2 hg λaq g1 g2=>?_
  refine e1a2 hb λtb Q b2=>?_
  refine#[_,Oq hp hc i1 g1 Q hs,λd F R σ H Kn Kr Ke En s hw kn kr ke=>?_]
  refine i2 d F R σ H _ _ _ s hw (λS b Jt Ps F' U F2 R' H' q c s' tw hr ip ps pk pb=>?_) λC y d' F' R' H' q c s'=>?_
  · -- the an
    refine#[λi m l N=>m=S.length-i/\i<=S.length/\∃Q G r j,Ch T F' R' H' G j N/\Std T G j N/\C7 G U r/\rel r j N Q l/\Ps j N/\Ag mb σ l/\Gv (λx b aa Kr Ke=>wb (g b x) (λd2=>aa (Gf.fg d2)) Kr Ke) (S.drop i) Q (λb'=>Kn (I b' S)) Kr Ke,
      #[_,rfl,iX _,b,F',F2,R',Ch.refl _ _ _ _,s',tw,hr,ps,Ag.refl _ _,q],?_]
    rintro i m l N ⟨rfl,hi,Q,G,r,j,c1,O,W,r1,p1,a1,w1⟩
    have cc:=Ch.trans s s'.tab c c1
    by_cases ab:i<S.length
    · refine .inr #[ip.go p1 ab, λae L => ∃b2 G2 ag R2, Ch T F' R' H' G2 R2 L /\ Std T G2 R2 L /\ C7 G2 U ag /\ rel ag R2 L b2 ae /\ Ps R2 L /\ Ag mb σ ae /\ Gv (λx b aa Kr Ke => wb (g b x) (λd2 => aa<|Gf.fg d2) Kr Ke) (S.drop<|i+1) b2 (λb' => Kn<|I b' S) Kr Ke, λae L p => #[S.length-(i+1), by omega, rfl, ab, p], λx L y => ?_]
      obtain⟨hH,x',ex,rx⟩:=ip.HJ p1 O.wT ab y
      -- the ao af the Y step
      have ai:Ch T G j N G j L/\Std T G j L/\rel r j L Q l/\Ps j L:=by
        rcases hH with e|⟨p,o,hp,e⟩
        · subst e; exact#[Ch.refl _ _ _ _, O, r1, p1]
        · subst e
          have k:∀b u,N b=↑u->upd N p o b=↑u:=λb u e=>by rw[uL<|uU e hp];exact e
          have ex:Ext (λ_=>False) j N j (upd N p o):=#[λb u _ e=>k b u e,λa h=>.inl h]
          refine#[#[λb u _ _ e=>k b u e,λa h=>.inl h,λa h=>.inl h,λa h _=>h],#[O.sub,λa z=>?_,?_,O.vG,O.vv],Sls.st r1 ex (λ_ z=>z.elim)<|λ_ _ z=>z,pk p1 (λ_ z=>z.elim) (λ_ _ z=>z) ex]
          · cases e : N a with
            |none=>exact g8 e<|O.wT a z
            |some u=>rw[k a u e];simp
          · refine e1a2 O.tab λqs e t => ?_
            exact#[qs,k _ _ e,t]
      obtain⟨c2,M,r2,p2⟩:=ai
      have P:∀a,r a->G a:=λa h=>(W.all a).mpr<|.inr h
      have S2:vQ T r j L Q l:=#[r2,λa h=>M.sub a<|P a h,M.wT,M.tab,M.vG,λh=>M.vv<|P T h]
      rw[drop_cons ex]at w1
      refine g2 Q r j l L x' x _ S2 rx λF3 aj f3 S3 a3=>?_
      have ah:=Ch.trans' s' O.tab c1 c2
      have Z:=Ch.trans s s'.tab c ah
      have t3:∀a,U a->F3 a->False:=λa h k=>W.xZ a h<|f3 a k
      refine b2 _ F3 j aj L _ Kr Ke _ S3 w1 (λd2 F4 R4 H4 ar q4 c4 f a4=>?_) (λx p' v M1 M2 R4 H4 q4 c4 f n4=>?_) λC y p' F4 R4 H4 q4 c4 f=>?_
      · refine e1a2 (Gf.le f.rel) λF5 f5 r5 => ?_
        have t4:∀a,U a->F4 a->False:=λa h k=>by
          rcases c4.yd a k with z|z
          · exact t3 a h z
          · exact M.wT a (M.sub a<|(W.all a).mpr<|.inl h) z
        have ak:Ch T G j L (λa=>U a\/F5 a) R4 H4:=(Ch.PD (F1:=U) (F:=λa=>U a\/F3 a) #[λ_=>Iff.rfl,t3]<|c4.less f5).big λa h=>h.elim (λz=>(W.all a).mpr<|.inl z) λz=>P a<|f3 a z
        have al:∀a,U a->R4 a:=λa h=>c4.left a (M.sub a<|(W.all a).mpr<|.inl h) λz=>t3 a h z
        refine#[Gf.fg d2,λa=>U a\/F5 a,F5,R4,Ch.trans' s' M.tab ah ak,#[λa h=>h.elim (al a) λz=>f.sub a<|f5 a z,f.wT,f.tab,f.vG,λh=>h.elim (λz=>M.vv<|(W.all T).mpr<|.inl z) λz=>f.vv<|f5 T z],⟨λ_=>Iff.rfl,λa h k=>t4 a h<|f5 a k⟩,r5,?_,(a1.trans a3).trans a4,q4]
        exact pk p2 (G:=λa=>F3 a\/a=T) (λa h=>h.elim (S3.sub a) λz=>by rw[z];exact M.vG) (λa h z=>z.elim (t3 a h) λz=>M.vv<|(W.all T).mpr<|.inl<|by rw[<- z];exact h) c4.ext
      · refine kr x p' v M1 M2 R4 H4 q4 (Ch.trans s M.tab Z<|c4.big λa h => P a<|f3 a h) #[dp.dp ((a1.trans a3).sub h1) f.rel, f.sub, f.wT, f.tab, f.vG, f.vv] n4
      · exact ke C y p' F4 R4 H4 q4 (Ch.trans s M.tab Z<|c4.big λa h => P a<|f3 a h) #[dp.dp ((a1.trans a3).sub h1) f.rel, f.sub, f.wT, f.tab, f.vG, f.vv]
    · have e : i = S.length := by omega
      subst e
      rw[uG]at w1
      exact .inl #[ip.stop p1,kn _ G j N l w1 cc #[pb Q r G j N l p1 r1 (a1.sub h2) W,O.sub,O.wT,O.tab,O.vG,O.vv]<|a1.sub h1]
  · refine e1a2 (wp (PO := PO) s') λG g1 g2 => ?_
    exact ke C y _ G R' H' q (c.less g1) g2
end
end WL
namespace L2
open PySem PySem.Spec PyProof.Rows
section
variable{X:Cx}{elt iter tg:iD}{scope:lV}{cl:List (Str×gH)}{T Fr:List Str}{idx:List Nat}{wi:TI}{pos:Pos}{ifs:List iD}
def CP{pins:List (gH×Obj)}{σ:St}{s2:gO}{H2:Hp}{J:It}{fp:List gH}{it:gH}{tn:Nat->iG->Prop}{E:ci->gO->Prop}{RR:ci->gH->Result->gO->Prop}{P:List V->Hp->Prop}(hcm:X.calm=true)
  (B:yF X scope cl T Fr idx) 
  (I2:Inv X pins σ H2 s2) (Tn:Turn X.prog X.w X.K tg J fp it tn) (ZY:tn 0 s2.heap) (f2:∀b∈fp,AX X pins H2 b)
  (hb:∀s₀ H₀ C ex pn,∃(g:TG)(tt:TT)(te:TE),(PG (ES X scope cl (T++Fr) s₀ H₀ C ex pn) tg g/\Wv (ES X scope cl (T++Fr) s₀ H₀ C ex pn) ifs tt/\PE (ES X scope cl (T++Fr) s₀ H₀ C ex pn) elt te)/\∃W:Nat->Nat->List V->St->Hp->Prop,(∃m,W 0 m [] (wZ T idx σ) H2)/\∀i m ys σ' H,W i m ys σ' H->(J.stop i H/\P ys H)\/(J.go i H/\ys.length<gL/\∀x H',J.HJ i H x H'->g x σ' H' λWN H2=>tt WN H2 λb H3=>if b=true then te WN H3 λy H4=>∃m',m'<m/\W (i+1) m' (ys++[y]) WN H4 else ∃m',m'<m/\W (i+1) m' ys WN H3))
  (hRR:∀(D C:gH)(s':gO)(H':Hp)(ys:List V),H' D=none->P ys H'->Inv X pins σ (upd H' D<|.lst ys) s'->(∃m,s'.heap.Ns C m)->(upd H' D<|.lst ys) C=none->C≠X.env.locals->X.s₀.heap.objs.size<=C->(∀x c,X.env.cells.lookup x=↑c->c≠C)->(∀p∈X.pn++pins,p.1≠C)->RR (.ref D) C (.ok .next) s') :
  gS 19 X.A (newList []) (λacc a0X=>gS 19 X.A (newFunctionEnv scope X.env.globals cl [] X.env.qual none .none ↑X.env) (λcenv a0Y =>
   mq 19 X.A (.compStart (.ListComp elt [#[tg,iter,ifs,0]] scope pos) 0 (.ref it) acc { cenv with scope:=oJ scope X.env}) (RR acc cenv.locals) a0Y) E a0X) E s2:=by
 refine iE<|wpAny_newFunctionEnv B.A8 (by intro y hy;simp at hy) (λh4 ns4 ZS=>?_) B.kind;have ZZ:∀b o,s2.heap.get? b=↑o->(s2.heap.push 76).get? b=↑o:=λb o e=>ce _ e;have oD3:(s2.heap.push 76).get? ⇑s2=some 76:=gW _ rfl;have sz3:(s2.heap.push 76).objs.size=⇑s2+1:=ju _ _;generalize s2.heap.push 76=h3 at ns4 ZS ZZ oD3 sz3 ⊢;have I3:Inv X pins σ H2 { s2 with heap:=h3}:=I2.kept (t':=s2.toks) ZZ;have PF:H2 ⇑s2=none:=I2.vD.fresh<|gK _;have WO:∀b o,h3.get? b=some o->h4.get? b=some o:=λb o e=>ZS.extBut b o (gZ<|gP e)<|ce _ e;have PH:H2 h3.objs.size=none:=I3.vD.fresh<|gK _;have YQ:⇑s2≠h3.objs.size:=by rw[sz3];exact gZ<|jp _
 -- facts about D,C,fp in X
 have fD:AX X pins H2 ⇑s2:=I2.FY (gK _) PF;have fC:AX X pins H2 h3.objs.size:=I3.FY (gK _) PH
 have IA:∀b∈⇑s2::fp,AX X pins H2 b/\b≠h3.objs.size:=λb yP=>by
  rcases List.mem_cons.mp yP with e|e
  ·subst e;exact#[fD,YQ]
  ·refine#[f2 b e,?_];obtain⟨o,ho,_⟩:=Tn.obj 0 _ ZY b e;exact gZ<|gP<|ZZ b o ho
 -- the Z0 context
 generalize Gw:ES X scope cl (T++Fr) { s2 with heap:=h3} H2 h3.objs.size (⇑s2::fp) (X.pn++pins)=X';obtain⟨g,tt,te,⟨hG,hT,hE⟩,W,w0,turn⟩:=hb { s2 with heap:=h3} H2 h3.objs.size (⇑s2::fp) (X.pn++pins);rw[Gw]at hG hT hE
 have ok':X'.Ok:=by
  subst Gw
  exact {
   mod:=I3.ok.mod
   kind:=B.kind
   glob:=I3.ok.glob
   blt:=I3.ok.blt
   above:=gK _
   inj:=λx y c e1 e2=>I3.ok.inj x y c (B.sub x c e1)<|B.sub y c e2
   has:=λx h=>B.has h
   Od:=λx c h=>by cases h
   hd:=I3.ok.hd
   frames:=I3.ok.frames
   B5:=.inl rfl
   R9:=λb yP=>#[(IA b yP).2,λx c e=>(IA b yP).1.2.2.2.2.1 x c<|B.sub x c e]
   bs:=λb o e=>I3.bs b o e
   HR:=iV I3.ok.HR I3.sz
   C3:=λb o e yP=>by
    rcases(IA b yP).1.2.2.2.1 with z|z
    ·exact I3.ok.C3 b o e z
    ·exact g8 (hR (gP e)<|iV I3.ok.HR z)<|jI _
   DE:=λb yP hf=>by
    rcases List.mem_cons.mp (I3.DF b hf) with z|z
    ·exact(IA b yP).1.2.1 z
    ·exact(IA b yP).1.2.2.1 z
   yo:=I3.stack
   Jo:=λb yP=>I3.LF b yP}
 have xA:X'.A=X.A:=by subst Gw;rfl
 have xp:X'.prog=X.prog:=by subst Gw;rfl
 have xw:X'.w=X.w:=by subst Gw;rfl
 have xK:X'.K=X.K:=by subst Gw;rfl
 have xc:X'.calm=true:=by subst Gw;exact hcm
 have xe:X'.env=sY scope cl h3.objs.size X.env:=by subst Gw;rfl
 have I4:Inv X' [] (wZ T idx σ) H2 { s2 with heap:=h4}:=by
  have hN:X'.N=T++Fr:=by subst Gw;rfl
  refine#[ok',by subst Gw;rfl,I3.bare,by subst Gw;exact Un.kept WO,?_,?_,by subst Gw;exact PH,?_,?_,?_,?_]
  ·obtain⟨m,hn,hl⟩:=I3.loc;refine#[_,by rw[xe];exact ns4,λi x v e1 e2 e3=>?_];rw[hN]at e1;unfold wZ at e2;by_cases hi:i<T.length
   ·rw[lN (by rw[gN];exact hi),jx,jo hi]at e2;cases e2
   ·rw[jJ q0a]at e1;rw[jJ (by rw[gN];lia),gN,jx]at e2;obtain⟨i0,c,q1,q2,q3,q4,q5⟩:=B.fr _ x e1;rw[q1]at e2;have Z1:(σ[i0]?).join=↑v:=iP e2
    have a0Z:σ[i0]?=↑(some v):=by
     cases z:σ[i0]? with
     |none=>rw[z]at Z1;cases Z1
     |some y=>rw[z]at Z1;have:y=↑v:=Z1;rw[this]
    obtain⟨u,r,l⟩:=hl i0 x v q2 a0Z (by
     rcases q3 with z|z
     ·exact .inr<|.inl z
     ·exact .inr (.inr z))
    refine#[u,r,?_];rcases l with⟨k,_⟩|⟨k,c',e,z⟩
    ·rcases q3 with y|y<;>(rw[y]at k;cases k)
    ·have:=B.sub x c q4;rw[e]at this;cases this;refine .inr #[by rw[xe];exact q5,_,by rw[xe];exact q4,?_];obtain⟨o,ho,hd⟩:=z;exact#[o,WO _ _ ho,hd]
  ·intro x c e;rw[xe]at e;obtain⟨v,o,ho,hd⟩:=I3.cell x c<|B.sub x c e;exact#[v,o,WO _ _ ho,hd]
  ·intro x c e;rw[xe]at e;exact I3.xX x c<|B.sub x c e
  ·intro p hp;have hp':p∈X.pn++pins:=by subst Gw;simpa using hp
   obtain⟨a1,a2,a3,a4,a5⟩:=I3.pin p hp';refine#[WO _ _ a1,a2,?_,?_,a5]
   ·rw[xe];exact gZ<|gP a1
   ·subst Gw;intro hf;rcases List.mem_cons.mp (I3.DF _ hf) with z|z
    ·exact a3 z
    ·exact a4 z
  ·subst Gw;exact I3.vD.kept WO
  ·rw[hN];unfold wZ;rw[gY,gY,gN,gN,B.len]
 have oD4:=WO _ _ oD3;have st4:tn 0 h4:=Tn.keep _ _ _ ZY λb _ o e=>WO b o<|ZZ b o e
 -- a01 stays true of the WP objects and of D
 have YR:∀{H':Hp} {pins':List (gH×Obj)},(∀p∈pins',p.1∉⇑s2::fp)->(∀b∈⇑s2::fp,H' b=none)->∀b∈⇑s2::fp,AX X' pins' H' b:=by
  intro H' pins' hp hn b yP;subst Gw;obtain⟨⟨z1,z2,z3,z4,z5,z6⟩,z7⟩:=IA b yP;refine#[hn b yP,z7,?_,.inl yP,λx c e=>z5 x c<|B.sub x c e,λp hp'=>?_]
  ·intro hf;rcases List.mem_cons.mp (I3.DF b hf) with z|z
   ·exact z2 z
   ·exact z3 z
  ·rcases List.mem_append.mp hp' with q|q
   ·exact z6 p q
   ·intro e;exact hp p q (by rw[e];exact yP)
 -- the end
 have fin:∀(s5:gO)(Of:St)(H5:Hp)(ys:List V)(zB:List ci)(nD:Nat),Inv X' [] Of H5 s5->(∀b∈⇑s2::fp,H5 b=none)->s5.heap.get? ⇑s2=some 67->Vals ys zB->ys.length<=gL->P ys H5->RR (.ref ⇑s2) h3.objs.size (.ok .next) s5:=by
  intro s5 Of H5 ys zB nD I5 n5 Z2 v5 l5 q5;have D5:=n5 _ gM;have WQ:Un (yT X.stack) (⇑s2::fp) H2 H5 h3 s5.heap:=by have z:=I5.base;subst Gw;exact z
  have C5:H5 h3.objs.size=none:=by have z:=I5.free;rw[xe]at z;exact z
  have a02:xD X.prog X.w (upd H5 ⇑s2<|.lst ys) s5.heap:=xD.Vk (by have z:=I5.vD;rw[xp,xw]at z;exact z) D5 #[l5,zB,nD,v5,Z2]
  have u5:Un (yT X.stack) (⇑s2::fp) H2 (upd H5 ⇑s2<|.lst ys) h3 s5.heap:=by have YS:∀b u,H2 b=some u->b≠⇑s2:=λb u e=>uU e PF;exact#[WQ.keep,WQ.slot,λb o e n hx=>by rw[uL<|λz=>hx<|by rw[z];exact gM];exact WQ.free b o e n hx,WQ.there,λb xs e=>by rw[uL<|YS b _ e];exact WQ.Bh b xs e,λb o u e=>by rw[uL<|YS b _ e];exact WQ.AV b o u e,λb ps e=>by rw[uL<|YS b _ e];exact WQ.AW b ps e]
  have os5:s5.os=s2.os:=by have z:=I5.os;subst Gw;exact z
  have IX:Inv X pins σ (upd H5 ⇑s2<|.lst ys) s5:=Inv.U1 (s:={ s2 with heap:=h3}) I3 os5 u5 a02 I5.bare λb yP=>by obtain⟨⟨z1,z2,z3,z4,z5,z6⟩,z7⟩:=IA b yP;exact#[z4,z2,z5,z6]
  obtain⟨m5,ns5,_⟩:=I5.loc;rw[xe]at ns5;refine hRR ⇑s2 h3.objs.size s5 H5 ys D5 q5 IX #[m5,ns5] (by rw[uL<|Ne.symm YQ];exact C5) fC.2.1 (iV I3.sz<|gK _) fC.2.2.2.2.1 fC.2.2.2.2.2
 obtain⟨m0,w0⟩:=w0
 have loop:mq 19 X.A (.compLoop (.ListComp elt [#[tg,iter,ifs,0]] scope pos) 0 (.ref it) (.ref ⇑s2)<|sY scope cl h3.objs.size X.env) (RR (.ref ⇑s2) h3.objs.size) { s2 with heap:=h4}:=by
  refine Pd (λn s5=>∃i ys zB nD Of H5,Inv X' [] Of H5 s5/\tn i s5.heap/\(∀b∈⇑s2::fp,H5 b=none)/\s5.heap.get? ⇑s2=some 67/\Vals ys zB/\ys.length<=gL/\W i n ys Of H5) ?_ m0
   #[0,[],[],0,wZ T idx σ,H2,I4,st4,λb yP=>(IA b yP).1.1,oD4,.nil,iX _,w0]
  rintro n s5 ⟨i,ys,zB,nD,Of,H5,I5,Oe,n5,Z2,v5,l5,w5⟩;have f5:=YR (pins':=[]) (λp hp=>by cases hp) n5;rcases turn i n ys Of H5 w5 with⟨stop,q⟩|⟨go,ll,step⟩
  ·have z:=Tn.done X' xp xw xK xc i [] s5 Of H5 (λ_ _=>False) I5 (λb yP=>f5 b<|gQ _ yP) Oe stop;rw[xA]at z
   -- D is not touched by the end
   have z2:=Tn.done X' xp xw xK xc i [(⇑s2,67)] s5 Of H5 (λ_ _=>False) (I5.yX λp hp=>by
    obtain rfl:=List.mem_singleton.mp hp;have WR:=f5 _ gM
    exact#[Z2,WR.1,WR.2.1,WR.2.2.1,λv z=>nomatch z]) (λb yP=>by
     obtain⟨a1,a2,a3,a4,a5,a6⟩:=f5 b<|gQ _ yP;refine⟨a1,a2,a3,a4,a5,λp hp=>?_⟩;rcases List.mem_append.mp hp with y|y
     ·exact a6 p<|iW _ y
     ·obtain rfl:=List.mem_singleton.mp y;intro e;obtain⟨o,ho,_⟩:=Tn.obj 0 _ ZY b yP
      exact jI _ (hR (gP ho) (qp (show ⇑s2=b from e)))) Oe stop
   rw[xA]at z2;refine vB z2 λr s6 z9=>e0a2 z9 λhr I6=>?_;subst hr;have p6:=I6.pin _<|hV _<|List.mem_singleton.mpr rfl;exact fin s6 Of H5 ys zB nD (I6.yX λp hp=>by cases hp) n5 p6.1 v5 l5 q
  ·have WR:=f5 _ gM
   have I5p:=I5.yX (pins':=[(⇑s2,67)]) λp hp=>by obtain rfl:=List.mem_singleton.mp hp;exact#[Z2,WR.1,WR.2.1,WR.2.2.1,λv z=>nomatch z]
   have fpD:∀b∈fp,b≠⇑s2:=λb yP=>by obtain⟨o,ho,_⟩:=Tn.obj 0 _ ZY b yP;exact gZ<|gP ho
   have fpP:∀{H':Hp},(∀b∈fp,H' b=none)->∀b∈fp,AX X' [(⇑s2,67)] H' b:=by
    intro H' hn b yP;obtain⟨a1,a2,a3,a4,a5,a6⟩:=f5 b<|gQ _ yP;refine⟨hn b yP,a2,a3,a4,a5,λp hp=>?_⟩;rcases List.mem_append.mp hp with y|y
    ·exact a6 p<|iW _ y
    ·obtain rfl:=List.mem_singleton.mp y;exact Ne.symm<|fpD b yP
   have z:=Tn.item X' xp xw xK xc i _ s5 Of H5 (λ_ _=>False) I5p (fpP λb yP=>n5 b<|gQ _ yP) Oe go;rw[xA]at z;refine vB z λr s6 z9=>e1a2 z9 λu hr h6=>?_;subst hr;refine vB h6 λ_ s7 z9=>e2a5 z9 λx H7 I7 r7 y7 st7 n7=>?_;have I7':=I7.pinned (fpP n7)<|Tn.obj _ _ st7;have xx:X'.xe=λ_ _=>False:=by subst Gw;rfl
   have zG:=hG _ s7 Of H7 x u _ I7' r7<|step x H7 y7;rw[xp,xw,xA,xe,xx]at zG;refine vB zG λ_ s8 z9=>e2a2 z9 λWT H8 I8 q8=>?_;have zT:=hT _ s8 WT H8 _ I8 q8;rw[xp,xw,xA,xe,xx]at zT;refine vB zT λok s9 z9=>e1a2 z9 λH9 I9 q9=>?_
   -- a01 holds behind the turn
   have behind:∀{H':Hp} {s':gO},Inv X' ([(⇑s2,67)]++DG fp s7.heap) WT H' s'->s'.heap.get? ⇑s2=some 67/\tn (i+1) s'.heap/\∀b∈⇑s2::fp,H' b=none:=by
    intro H' s' I';have pD:=I'.pin _<|hV _<|iW _<|List.mem_singleton.mpr rfl;refine⟨pD.1,Tn.keep _ _ _ st7 λb yP o e=>(I'.pin (b,o)<|hV _<|hV _<|xh yP e).1,λb yP=>?_⟩;rcases List.mem_cons.mp yP with e|e
    ·rw[e];exact pD.2.1
    ·obtain⟨o,e',_⟩:=Tn.obj _ _ st7 b e;exact(I'.pin (b,o)<|hV _<|hV _<|xh e e').2.1
   cases ok with
   |false =>
    rw[cr gV]at q9 ⊢;obtain⟨m',hm,w'⟩:=q9;obtain⟨b1,b2,b3⟩:=behind I9;exact#[m',hm,i+1,ys,zB,nD,WT,H9,I9.yX (λp hp=>by cases hp),b2,b3,b1,v5,l5,w']
   |true =>
    rw[gI rfl]at q9 ⊢;have zE:=hE _ s9 WT H9 _ I9 q9;rw[xp,xw,xA,xe,xx]at zE;refine vB zE λy s10 z9=>e2a3 z9 λyv H10 I10 r10 z69=>e1a2 z69 λm' hm w'=>?_;obtain⟨b1,b2,b3⟩:=behind I10;have hlen:=v5.length;refine wpAny_list_append_plain (items:=zB.toArray) #[nD,b1] (λh11 a06 YT=>?_) (by rw[gX];lia);obtain⟨YS,o11⟩:=a06;have a07:Inv X' [] WT H10 s10:=I10.yX λp hp=>by cases hp
    obtain⟨a1,a2,a3,a4,a5,a6⟩:=YR (pins':=[]) (λp hp=>by cases hp) b3 _ gM;have I11:Inv X' [] WT H10 { s10 with heap:=h11}:=a07.turned (t':=s10.toks) (λb o yP e=>(YT.2 b yP).trans e) a1 a2 a4 a5 a6;refine#[m',hm,i+1,ys++[yv],zB++[y],YS,WT,H10,I11,Tn.keep _ _ _ b2 λb yP o e=>(YT.2 b<|fpD b yP).trans e,b3,by simpa using o11,v5.append<|.cons r10 .nil,by rw[gY,hZ];lia,w']
 exact codeAny_compStart_list loop<|Tn.self _ 0 _ _ _ st4 loop
def WU(X:Cx)(elt tg:iD)(ifs:List iD)(scope:lV)(cl:List (Str×gH))(T Fr:List Str)(idx:List Nat)(wi:TI):TE:=λl H Q=>wi l H λJ s=>∀a c C j k,∃(g:TG)(n:TT)(o:TE),(PG (ES X scope cl (T++Fr) a c C j k) tg g/\Wv (ES X scope cl (T++Fr) a c C j k) ifs n/\PE (ES X scope cl (T++Fr) a c C j k) elt o)/\∃W:Nat->Nat->List V->St->Hp->Prop,(∃m,W 0 m [] (wZ T idx l) s)/\∀i m e f H,W i m e f H ->
 (J.stop i H/\∀p,H p=none->Q (.ref p) (upd H p<|.lst e))\/(J.go i H/\e.length<gL/\∀x q,J.HJ i H x q->g x f q λd t=>n d t λb r=>if b=true then o d r λy u=>∃h,h<m/\W (i+1) h (e++[y]) d u else ∃h,h<m/\W (i+1) h e d r)
def PJ(c:X.calm=true)(k:PI X tg iter wi)(B:yF X scope cl T Fr idx) 
 (l:∀x,j0 iter X.env x=pure x:=by intro _;rfl):PE X (.ListComp elt [#[tg,iter,ifs,0]] scope pos) (WU X elt tg ifs scope cl T Fr idx wi):=by
  intro a s i H Q I h
  rw[eval_ListComp]
  refine oU (use:=none) rfl l B.YI B.kind B.names<|vB (k a s i H _ I h) λv Y n=>vB n λr Z t=>?_
  obtain⟨it,fp,tn,J,H2,e,u,y,d,z,E⟩:=t
  subst e
  refine CP (RR:=λf C=>compPost 19 X.A X.xe none (EP X a i Q) f C) (P:=λj H=>∀p,H p=none->Q (.ref p) (upd H p<|.lst j)) c B u y d z E ?_
  intro D C F H' j G q L ⟨m,M⟩ N O R S U
  exact#[m,M,λh' W=>#[.ref D,_,L.turned (t':=F.toks) (λb o g e=>(W.2 b g).trans e) N O (.inr R) S U,rfl,q D G]]
def Tj(X:Cx)(elt tg:iD)(ifs:List iD)(scope:lV)(cl:List (Str×gH))(T Fr:List Str)(idx:List Nat)(wi:TI)(j:Nat):TS:=λD k H=>wi k H λJ t=>∀a c C l n,∃(g:TG)(o:TT)(q:TE),(PG (ES X scope cl (T++Fr) a c C l n) tg g/\Wv (ES X scope cl (T++Fr) a c C l n) ifs o/\PE (ES X scope cl (T++Fr) a c C l n) elt q)/\∃W:Nat->Nat->List V->St->Hp->Prop,(∃m,W 0 m [] (wZ T idx k) t)/\∀i m e f H,W i m e f H ->
 (J.stop i H/\∀p,H p=none->D.nx (k.set j<|some<|.ref p) (upd H p<|.lst e))\/(J.go i H/\e.length<gL/\∀x r,J.HJ i H x r->g x f r λd u=>o d u λb s=>if b=true then q d s λy v=>∃h,h<m/\W (i+1) h (e++[y]) d v else ∃h,h<m/\W (i+1) h e d s)
set_option tactic.hygienic true in
def PL{j:Nat}{d:Pos}(O:X.N.Nodup)(R:X.N[j]?=↑y)(u:X.env.scope.names.lookup y=some .local)(g:jN (.ListComp elt [#[tg,iter,ifs,0]] scope pos) (some<|.Name y py) d.line X.env=pure true)
 (i:X.calm=true) (S:PI X tg iter wi) (B:yF X scope cl T Fr idx) 
 (U:∀x,j0 iter X.env x=pure x:=by intro _;rfl):PS X (.Assign [.Name y py] (.ListComp elt [#[tg,iter,ifs,0]] scope pos) d) (Tj X elt tg ifs scope cl T Fr idx wi j):=by
  intro c s E H D I h
  rw[exec_Assign_Name_used _ _ _ _ g]
  refine am<|m7<|am ?_
  refine am<|vB (oU (use:=some<|sH (.Name y py) X.env) (Q:=λ_ f=>SP X c D .next f) rfl U B.YI B.kind B.names<|vB (S c s E H _ I h) λv s1 W=>vB W λY s2 Z=>?_) λ_ f hq=>ap<|ap hq
  obtain⟨it,fp,tn,J,H2,e,I2,Tn,k,f2,hb⟩:=Z
  subst e
  refine CP (RR:=λl C=>compPost 19 X.A X.xe (some<|sH (.Name y py) X.env) (λ_ f=>SP X c D .next f) l C) (P:=λF H=>∀p,H p=none->D.nx (E.set j<|some<|.ref p) (upd H p<|.lst F)) i B I2 Tn k f2 hb ?_
  intro G C f H' F hD q IX ⟨m,ns⟩ hC L c2 M c4
  refine wpAny_assign_Name<|Fl IX O R (.inl u) (v:=.ref G) rfl (λs3 I3 z9=>e1a2 z9 λa n ha=>?_)<|.inr u
  have r:C≠a:=by
    rcases ha with z|z
    · rw[z]; exact L
    · exact Ne.symm<|M _ _ z
  exact#[m,ns.sameBut n r,λh' sb=>#[_,_,I3.turned (t':=s3.toks) (λb o t e=>(sb.2 b t).trans e) hC L (.inr c2) M c4,q G hD]]
end
end L2
namespace WL
variable[L2.GX]
open PySem L2
open Rep (rp)
open Ow (sl)
open Sls (rel)
class Pre(k:Nat)(S:Type)[Sls S](Db:outParam Type)[Sls Db] where
 pre:S->Db
 suf:Db->S
 ok:∀{F R:Rg} {H:Hp} {s:S} {σ:St} (τ:St),τ.length=k->rel F R H s σ->rel F R H (pre s) (τ++σ)
 un:∀{F R:Rg} {H:Hp} {d:Db} {σ:St},rel F R H d σ->rel F R H (suf d) (σ.drop k)
 eta:∀d,pre (suf d)=d
 YU:∀s,suf (pre s)=s
noncomputable instance pre0{S:Type}[Sls S]:Pre 0 S S:=#[id,id,λτ h r=>by rw[List.length_eq_zero_iff.mp h];exact r,λr=>r,λ_=>rfl,λ_=>rfl]
noncomputable instance preS{k:Nat}{S Db:Type}[Sls S][Sls Db][A:Pre k S Db]:Pre (k+1) S (Un×Db):=#[λs=>(#[],A.pre s),λd=>A.suf d.2,λ{F R H s σ} τ h r=>by
  cases τ with
  |nil=>cases h
  |cons v τ'=>exact#[v,τ'++σ,λ_=>False,F,rfl,two_nil F,λ_ z=>z,A.ok τ' (by simpa using h) r],
 λ{F R H d σ} r=>by
  obtain⟨v,σ',F1,F2,rfl,h2,h3,h4⟩:=r
  exact A.un<|Sls.fq h4<|two_eq h2 h3,
 λd=>by
  obtain⟨⟨⟩,d⟩:=d
  rw[A.eta],
 λs=>A.YU s]
def BG{α γ S:Type}(b:α->S->(Option γ->S->Prop)->Prop):List α->S->(List γ->S->Prop)->Prop
 | [],s,K=>K [] s
 |x::xs,s,K=>b x s λo s'=>BG b xs s' λys So=>K (o.toList++ys) So
def YV(X:Cx)(T:gH)(a:List iD){D:Type}[Sls D](w:Wf D Bool D):Prop :=
 ∃t,Wv X a t/\∀(d:D)(F R:Rg)(b:St)(H:Hp)(e:Bool->D->Prop)(Q:Bool->Hp->Prop),vQ T F R H d b->w d e (λ_ _=>False) ->
  (∀x f g h c,e x f->Ch T F R H g h c->vQ T g h c f b->Q x c)->t b H Q
abbrev XF:XK:=λ_ _ _=>False
def tws_nil[Sls D]:YV X T [] (λ(d:D) a _=>a true d):=#[_,SS,λd F R e H a Q s b c=>c true d F R H b 53 s]
def tws_one{D:Type}[Sls D]{w:Wf D Bool D}(h:TW X XF T c w):YV X T [c] w:=e1a2 h λt a b=> #[t,SU a,λd F R e H f Q s g i=>b d F R e H f _ Q s g i λ_ _ _ _ _ _ z=>z.elim]
section
variable{D B S B0 Db D1 PO τ α γ:Type}[Sls D][Sls B][Sls S][Sls B0][Sls Db][Sls D1][Sls PO][Ow τ][Rep α][Rep γ]
abbrev stepC(P:Pre k S Db)(a:Fg D1 Db)(g:Db->α->D1)(c:Wf D1 Bool D1)(d:Wf D1 γ D1):α->S->(Option γ->S->Prop)->Prop :=
 λx s K=>c (g (P.pre s) x) (λt b=>if t=true then d b (λy e=>K ↑y<|P.suf<|a.fg e) (λ_ _=>False) else K none (P.suf<|a.fg b)) λ_ _=>False
def FL[P:Pre k S Db][Gf:Fg D1 Db]{g:Db->α->D1}{wt:Wf D1 Bool D1}{we:Wf D1 γ D1}{J:It}{Ps:Rg->Hp->Prop}{L:List α}{F1 Fs Z:Rg}{Q:Hp}{σ:St}{s0:S}{K:List γ->S->Prop}{ag:List V->Hp->Prop}
  (hk:R.length=k) (ao:∀i,k<=i->i<k+idx.length->i∈mb)
  (hG:∀d f C I M,GW (ES X n cl (R++Fr) d f C I M) T mb tg g) (hT:∀d f C I M,YV (ES X n cl (R++Fr) d f C I M) T aq wt) (hE:∀d f C I M,EW (ES X n cl (R++Fr) d f C I M) XF T ar we)
  (hz:L.length<=gL) (ip:XX J L Ps) (ps:Ps Z Q) (pk:∀{G Ra Rb:Rg} {Ha Hb:Hp},Ps Ra Ha->(∀a,G a->Ra a)->(∀a,F1 a->¬G a)->Ext G Ra Ha Rb Hb->Ps Rb Hb)
  (s':Std T Fs Z Q) (U:∀a,F1 a->Z a/\¬Fs a/\a≠T) (au:rel Fs Z Q s0 (idx.map λi=>σ[i]?.join)) (hw:BG (stepC P Gf g wt we) L s0 K)
  (av:∀E N F l r O,K E N->Ch T Fs Z Q F l r->Std T F l r->rel F l r N (idx.map λi=>σ[i]?.join)->Ps l r->Paired (rp l r) E O->ag O r) :
  ∀d f C I M,∃(g:TG)(tt:TT)(te:TE),(PG (ES X n cl (R++Fr) d f C I M) tg g/\Wv (ES X n cl (R++Fr) d f C I M) aq tt/\PE (ES X n cl (R++Fr) d f C I M) ar te)/\∃W:Nat->Nat->List V->St->Hp->Prop,(∃m,W 0 m [] (wZ R idx σ) Q)/\∀i m O ah H,W i m O ah H ->
   (J.stop i H/\ag O H)\/(J.go i H/\O.length<gL/\∀x Q,J.HJ i H x Q->g x ah Q λs Y=>tt s Y λb H3=>if b=true then te s H3 λy H4=>∃m',m'<m/\W (i+1) m' (O++[y]) s H4 else ∃m',m'<m/\W (i+1) m' O s H3):=by
 intro d f C I M;refine e1a2 (hG d f C I M) λaw g1 g2=>?_;refine e1a2 (hT d f C I M) λtt t1 t2=>?_;refine e1a2 (hE d f C I M) λte e1 e2=>?_;have aE:(wZ R idx σ).length=k+idx.length:=by unfold wZ;rw[gY,gN,gN,hk]
 have aa:∀{w:St},Ag mb (wZ R idx σ) w->w.drop k=idx.map λi=>σ[i]?.join:=λ{w} a=>by
  apply qh;intro j;rw[tX];by_cases hj:j<idx.length
  ·rw[a.2 (k+j)<|ao _ q0a q0a];unfold wZ;rw[jJ (by rw[gN,hk];lia),gN,hk,Nat.add_sub_cancel_left]
  ·rw[ki (by have:=a.1;lia),ki<|by rw[gN];lia]
 refine#[aw,tt,te,#[g1,t1,e1],λi m O w r=>m=L.length-i/\i<=L.length/\∃N F l E,Ch T Fs Z Q F l r/\Std T F l r/\rel F l r (P.pre N) w/\Ps l r/\Ag mb (wZ R idx σ) w/\Paired (rp l r) E O/\E.length<=i/\BG (stepC P Gf g wt we) (L.drop i) N (λws s'=>K (E++ws) s'),
  #[_,rfl,iX _,s0,Fs,Z,[],Ch.refl _ _ _ _,s',P.ok _ (by rw[gN,hk]) au,ps,Ag.refl _ _,.nil,iX _,by simpa using hw],?_]
 rintro i m O w r ⟨rfl,hi,N,F,l,E,c1,A,r1,p1,a1,pz,lz,w1⟩;have aG:=Paired.length pz;by_cases ab:i<L.length
 ·refine .inr #[ip.go p1 ab,q0a,λx Y y=>?_];obtain⟨hH,x',ax,rx⟩:=ip.HJ p1 A.wT ab y;have ay:∀{G l:Rg} {r:Hp},Ch T Fs Z Q G l r->∀a,F1 a->l a/\¬G a:=λc a h=>#[c.left a (U a h).1 (U a h).2.1,λz=>(c.yd a z).elim (U a h).2.1 λq=>s'.wT a (U a h).1 q]
  have az:Ch T F l r F l Y/\Std T F l Y/\rel F l Y (P.pre N) w/\Ps l Y/\Paired (rp l Y) E O:=by
   rcases hH with e|⟨p,o,hp,e⟩
   ·subst e;exact#[Ch.refl _ _ _ _,A,r1,p1,pz]
   ·subst e;have kk:∀b u,r b=↑u->upd r p o b=↑u:=λb u e=>by rw[uL<|uU e hp];exact e
    have I:Ext (λ_=>False) l r l (upd r p o):=#[λb u _ e=>kk b u e,λa h=>.inl h];refine#[#[λb u _ _ e=>kk b u e,λa h=>.inl h,λa h=>.inl h,λa h _=>h],#[A.sub,λa z=>?_,?_,A.vG,A.vv],Sls.st r1 I (λ_ z=>z.elim)<|λ_ _ z=>z,pk p1 (λ_ z=>z.elim) (λ_ _ z=>z) I,vT (I.wide λ_ z=>z.elim) pz]
    ·cases e:r a with
     |none=>exact g8 e<|A.wT a z
     |some u=>rw[kk a u e];simp
    ·refine e1a2 A.tab λqs e t=>?_;exact#[qs,kk _ _ e,t]
  obtain⟨c2,S2,r2,p2,ai⟩:=az;have aA:=Ch.trans' s' A.tab c1 c2;rw[drop_cons ax]at w1;refine g2 (P.pre N) F l w Y x' x _ (S2.stt r2) rx λF3 s f3 S3 a3=>?_;have c3:Ch T Fs Z Q F3 l Y:=aA.less f3
  -- aH the block aF on af an item
  have on:∀{d2:D1} {F5 R5:Rg} {H5:Hp} {o:Option γ} {ae:List V},BG (stepC P Gf g wt we) (L.drop<|i+1) (P.suf<|Gf.fg d2) (λws s'=>K (E++(o.toList++ws)) s')->Ch T F3 l Y F5 R5 H5->vQ T F5 R5 H5 d2 s->Paired (rp R5 H5) (E++o.toList) ae->(E++o.toList).length<=i+1 ->
    ∃m',m'<L.length-i/\m'=L.length-(i+1)/\i+1<=L.length/\∃N F l E,Ch T Fs Z Q F l H5/\Std T F l H5/\rel F l H5 (P.pre N) s/\Ps l H5/\Ag mb (wZ R idx σ) s/\Paired (rp l H5) E ae/\E.length<=i+1/\BG (stepC P Gf g wt we) (L.drop<|i+1) N (λws s'=>K (E++ws) s'):=λ{d2 F5 R5 H5 o ae} hw c5 S5 aB aC=>by
   refine e1a2 (Gf.le S5.rel) λF6 f6 r6=>?_;have aD:=Ch.trans' s' S2.tab c3 c5;refine#[L.length-(i+1),q0a,rfl,ab,P.suf<|Gf.fg d2,F6,R5,E++o.toList,aD.less f6,⟨λa h=>S5.sub a<|f6 a h,S5.wT,S5.tab,S5.vG,λh=>S5.vv<|f6 T h⟩,by rw[P.eta];exact r6,?_,a1.trans a3,aB,aC,?_]
   ·refine pk p2 (G:=λa=>F3 a\/a=T) (λa h=>h.elim (S3.sub a) λz=>by rw[z];exact S2.vG) (λa h z=>?_) c5.ext;rcases z with z|z
    ·exact(ay c3 a h).2 z
    ·exact(U a h).2.2 z
   ·simp only[n6];exact hw
  refine t2 _ F3 l s Y _ _ S3 w1 λb d1 F4 R4 H4 q4 c4 S4=>?_
  cases b with
  |false =>
   rw[cr gV];exact on (o:=none) q4 c4 S4 (by simpa using S3.vals c4 ai) (by simp;lia)
  |true =>
   rw[gI rfl];refine e2 _ F4 R4 s H4 _ _ _ S4 q4 (λy d2 v F5 R5 H5 q5 c5 S5 r5=>?_) λ_ _ _ _ _ _ z=>z.elim;have aj:=Ch.trans S3 S4.tab c4 c5;exact on (o:=↑y) q5 aj S5 (xC (S3.vals aj ai)<|.cons r5 .nil) (by simp;lia)
 ·have e:i=L.length:=by lia
  subst e;rw[uG]at w1;have ak:K (E++[]) N:=w1;rw[kW]at ak;have al:=P.un r1;rw[aa a1,P.YU]at al;refine .inl #[ip.stop p1,av E N F l r O ak c1 A al p1 pz]
def Ec[Se:Sel idx B S B0]{back:B->List α->D}{xs:List α}{Ps:Rg->Hp->Prop}(s':Std T F' R' H')(tw:C7 F' F1 F2)(hr:rel F2 R' H' b σ)
 (pb:∀b' G2 Vp Jq Py σ',Ps Jq Py->rel G2 Jq Py b' σ'->Ag is σ σ'->C7 Vp F1 G2->rel Vp Jq Py (back b' xs) σ') :
    ∃Fs,Std T Fs R' H'/\(∀a,F1 a->R' a/\¬Fs a/\a≠T)/\rel Fs R' H' (Se.sel b) (idx.map λi=>σ[i]?.join) /\
      ∀{s1:S} {Gs R1:Rg} {H1:Hp},Ch T Fs R' H' Gs R1 H1->Std T Gs R1 H1->rel Gs R1 H1 s1 (idx.map λi=>σ[i]?.join)->Ps R1 H1->∃G,Ch T F' R' H' G R1 H1/\vQ T G R1 H1 (back (Se.mrg (Se.rest b) s1) xs) σ:=by
  refine e2a4 (Se.cut hr) λFs F0 t0 h1 h2 hl=>?_
  have iS:∀a,Fs a->F' a:=λa h=>(tw.all a).mpr<|.inr<|(t0.all a).mpr<|.inl h
  have i0:∀a,F0 a->F' a:=λa h=>(tw.all a).mpr<|.inr<|(t0.all a).mpr<|.inr h
  have i1:∀a,F1 a->F' a:=λa h=>(tw.all a).mpr<|.inl h
  have d1S:∀a,F1 a->Fs a->False:=λa h k=>tw.xZ a h<|(t0.all a).mpr<|.inl k
  have d10:∀a,F1 a->F0 a->False:=λa h k=>tw.xZ a h<|(t0.all a).mpr<|.inr k
  refine#[Fs,#[λa h=>s'.sub a<|iS a h,s'.wT,s'.tab,s'.vG,λh=>s'.vv<|iS T h],λa h=>#[s'.sub a<|i1 a h,d1S a h,λz=>s'.vv<|by rw[<- z];exact i1 a h],h1,λ{s1 Gs R1 H1} c S1 r1 p1=>?_]
  have f0:rel F0 R1 H1 (Se.rest b) σ:=Sls.st h2 c.ext (λa h=>h.elim (λz=>s'.sub a<|iS a z) λz=>by rw[z];exact s'.vG) λa h z=>z.elim (λq=>t0.xZ a q h) λq=>s'.vv (by rw[<- q];exact i0 a h)
  have nG:∀a,Gs a->F1 a\/F0 a->False:=λa g f=>by
    rcases c.yd a g with q|q
    · exact f.elim (λz => d1S a z q) λz => t0.xZ a q z
    · exact s'.wT a (s'.sub a<|f.elim (i1 a)<|i0 a) q
  have out:∀a,F1 a\/F0 a->R1 a:=λa f=>c.left a (s'.sub a<|f.elim (i1 a)<|i0 a) λz=>f.elim (λq=>d1S a q z) λq=>t0.xZ a z q
  refine#[λa=>F1 a\/Gs a\/F0 a,#[λb o n m h=>c.keep b o (λz=>n<|iS b z) m h,c.zP,λa h=>h.elim (λz=>.inl<|i1 a z) λz=>z.elim (λq=>(c.yd a q).elim (λz=>.inl<|iS a z) .inr) λq=>.inl<|i0 a q,λa h n=>c.left a h λz=>n<|iS a z],pb _ (λa=>Gs a\/F0 a) _ R1 H1 σ p1 (Se.join #[λ_=>Iff.rfl,λa m f=>nG a m<|.inr f] r1 f0 hl) (Ag.refl _ _) ⟨λ_=>Iff.rfl,λa h z=>z.elim (λq=>nG a q<|.inl h) λq=>d10 a h q⟩,λa h=>h.elim (λz=>out a<|.inl z) λz=>z.elim (S1.sub a) λq=>out a<|.inr q,S1.wT,S1.tab,S1.vG,λh=>h.elim (λz=>s'.vv<|i1 T z) λz=>z.elim S1.vv λq=>s'.vv<|i0 T q]
def w4[P:Pre k S Db][N:Fg D1 Db][m:Sel idx B S B0]{h:B->List α->D}{v:D->(List α->B->Prop)->66->Prop}{g:Db->α->D1}{w:Wf D1 Bool D1}{y:Wf D1 γ D1}
 (o:X.calm=true) (O:IW X E T is z iter h v) (U:yF X a cl Ts Fr idx) (W:Ts.length=k) (r:∀i,k<=i->i<k+idx.length->i∈mb)
 (Y:∀e f C j l,GW (ES X a cl (Ts++Fr) e f C j l) T mb z g) (Z:∀e f C j l,YV (ES X a cl (Ts++Fr) e f C j l) T t w) (hE:∀e f C j l,EW (ES X a cl (Ts++Fr) e f C j l) XF T u y)
 (hs:∀x,j0 iter X.env x=pure x:=by intro _;rfl) :
    EO X E T (.ListComp u [#[z,iter,t,0]] a pos) (cK v λ(A:OL γ->D->Prop) n b=>n.length<=gL/\BG (stepC P N g w y) n (m.sel b) λI J=>A #[I]<|h (m.mrg (m.rest b) J) n):=by
  refine e1a2 O λti i1 i2=>?_
  refine#[_,PJ o i1 U hs,λd F R σ H A Ke Q s hw kn ke=>?_]
  refine i2 d F R σ H _ _ _ s hw (λn b Jt Ps F' F1 F2 R' H' q c L tw hr ip ps pk pb=>?_) ke
  refine e1a4 (Ec (idx:=idx) (Se:=m) L tw hr pb) λFs S0 n0 r0 on=>?_
  refine FL W r Y Z hE q.1 ip ps pk S0 n0 r0 q.2 λzs J Gs R1 H1 I kz c1 S1 r1 p1 pz p hp=>?_
  refine e1a2 (on c1 S1 r1 p1) λG c2 M=>?_
  refine e1a3 (xk M hp pz) λR2 c3 S3 n3=>?_
  exact kn _ _ _ _ G R2 _ kz (Ch.trans s M.tab (Ch.trans s L.tab c c2) c3) S3 n3
def Az[P:Pre k S Db][Gf:Fg D1 Db][v:Sel idx B S B0](j:Nat){m I J:Type}[Ow m][Sls I][Sls J][A:At j D m I][U:Pt j I (OL γ) J][Jp:Pj D PO n]{h:Pos}{l:B->List α->D}{W:D->(List α->B->Prop)->66->Prop}{g:Db->α->D1}{Y:Wf D1 Bool D1}{Z:Wf D1 γ D1}
 (hN:X.N.Nodup) (hj:X.N[j]?=↑y) (hy:X.env.scope.names.lookup y=some .local) (L:jN (.ListComp o [#[M,iter,r,0]] a pos) (some<|.Name y py) h.line X.env=pure true) (hm:j∉ms)
 (O:X.calm=true) (hi:IW X E T is M iter l W) (Bs:yF X a cl Ts Fr idx) (hk:Ts.length=k) (Q:∀i,k<=i->i<k+idx.length->i∈mb)
 (hG:∀e f C t u,GW (ES X a cl (Ts++Fr) e f C t u) T mb M g) (hT:∀e f C t u,YV (ES X a cl (Ts++Fr) e f C t u) T r Y) (hE:∀e f C t u,EW (ES X a cl (Ts++Fr) e f C t u) XF T o Z)
 (hs:∀x,j0 iter X.env x=pure x:=by intro _;rfl) :
    S1 X E T ms n (.Assign [.Name y py] (.ListComp o [#[M,iter,r,0]] a pos) h) (cS W Jp.pj λ(Kn:J->Prop)(Kr:τ->PO->Prop) w b=>w.length<=gL/\BG (stepC P Gf g Y Z) w (v.sel b) λys s1=>Kn<|U.put (A.hole<|l (v.mrg (v.rest b) s1) w) #[ys]):=by
  refine e1a2 hi λti i1 i2=>?_
  refine#[_,PL hN hj hy L O i1 Bs hs,λd F R σ H Kn Kr Ke En s hw kn kr ke=>?_]
  refine i2 d F R σ H _ _ _ s hw (λw b Jt Ps F' F1 F2 R' H' q c z tw hr ip ps pk pb=>?_) λC y d' F' R' H' q c z=>?_
  · refine e1a4 (Ec (idx := idx) (Se := v) z tw hr pb) λFs S0 n0 r0 on => ?_
    refine FL hk Q hG hT hE q.1 ip ps pk S0 n0 r0 q.2 λzs s1 Gs R1 H1 ys kz c1 S1 r1 p1 pz p hp=>?_
    refine e1a2 (on c1 S1 r1 p1) λG c2 S2=>?_
    refine e1a3 (xk S2 hp pz) λR2 c3 S3 n3=>?_
    refine e1a2 (FH (i:=j) S3 n3) λG2 g2 S4=>?_
    exact kn _ G2 R2 _ _ kz ((Ch.trans s S2.tab (Ch.trans s z.tab c c2) c3).less g2) S4<|Ag.set hm
  · refine e1a2 (wp (PO := PO) z) λG g1 g2 => ?_
    exact ke C y _ G R' H' q (c.less g1) g2
end
def Kp(g:gH)(H a:Hp):Prop:=∀b o,b≠g->H b=↑o->a b=↑o
def Kp.refl(g:gH)(H:Hp):Kp g H H:=λ_ _ _ h=>h
def Kp.trans{d e:Hp}(a:Kp g H d)(b:Kp g d e):Kp g H e:=λc o n h=>b c o n<|a c o n h
def Kp.at:Kp g H (upd H g o):=λb u n e=>by rw[uL n];exact e
def zU(h:H p=none):C6 H (upd H p o):=λb u e=>by rw[uL<|uU e h];exact e
noncomputable def E8(q:gH)(i z s:Int):List V:=[.ref q,.int i,.int z,.int s]
structure CQ(H:Hp)(g q:gH)(ns:List Int)(i z s:Int):Prop where
 ob:H g=↑(.lst<|E8 q i z s)
 sc:H q=↑(.lst<|ns.map V.int)
 i0:0<=i
 ne:q≠g
def CQ.put{i z s:Int}(B:CQ H g q b i z s){a z':Int}(h:0<=a):CQ (upd H g<|.lst<|E8 q a z' s) g q b a z' s:=#[uO,by rw[uL B.ne];exact B.sc,h,B.ne]
def WV(q:gH)(i z s:Int):EY (E8 q i z s) 0=↑(.ref q):=rfl
def PM(q:gH)(i z s:Int):EY (E8 q i z s) 1=↑(.int i):=rfl
def PN(q:gH)(i z s:Int):EY (E8 q i z s) 2=↑(.int z):=rfl
def a09(q:gH)(i z s:Int):EY (E8 q i z s) 3=↑(.int s):=rfl
def YW(x:Int):-(2 ^ 64)<x%2147483647/\x%2147483647<2 ^ 64:=by lia
def Tk{ns:List Int}{i:Int}(b:0<=i)(c:i<(ns.length:Int)):∃n,EY (ns.map V.int) i=↑(.int n):=by
 have a:i.toNat<ns.length:=by omega
 have e:(ns.map V.int)[i.toNat]?=↑(.int ns[i.toNat]):=by rw[jx,jo a];rfl
 have:=LP e;rw[show ((i.toNat:Nat):Int)=i by omega]at this;exact#[_,this]
structure Bg where
instance:Ow Bg:=#[λF _ H _ v=>∃g q ns i z s,v=↑(.ref g)/\(∀b,F b↔b=g\/b=q)/\CQ H g q ns i z s,
 λ{F G R H R' H' x v} h e s n=>by
  obtain⟨g,q,ns,i,z,s',h1,h2,h3⟩:=h
  exact#[g,q,ns,i,z,s',h1,h2,#[e.keep g _ (n g<|(h2 g).mpr<|.inl rfl) h3.ob,e.keep q _ (n q<|(h2 q).mpr<|.inr rfl) h3.sc,h3.i0,h3.ne]],
 λh e=>by
  obtain⟨g,q,ns,i,z,s',h1,h2,h3⟩:=h
  exact#[g,q,ns,i,z,s',h1,λb=>(e b).symm.trans (h2 b),h3]]
instance:Hs Bg:=#[λz9=>e6a2 z9 λ_ _ _ _ _ _ h _=>#[_,h]]
instance:Tf Bg:=#[λh _=>h]
def PP:Sp:=λd H Q _=>∃(g q:gH)(c:List Int)(i z s a:Int),d=[.ref g,.int a]/\CQ H g q c i z s/\0<a/\a<1073741824 /\
 ∀b e f r,Kp g H b->CQ b g q c e f s->0<=r->r<a->Q (.int r) b
abbrev Vu:Bg×Int×Unit->(Int->Bg×Un×Unit->Prop)->(gH->Bg×Un×Unit->Prop)->Prop:=λp a _=>0<p.2.1/\p.2.1<1073741824/\∀r,0<=r->r<p.2.1->a r (#[],#[],())
def Vv{K:gG}{k:Nat}(F:vt P w K b base OY k f c d g):vt P w K b base (vF P w) k f c d g :=
 #[F.len,λA a s H args i j Q E l m n o p=>jL (F.run A a s H args i j Q E l m n o p) λr t h=>by
  cases r with
  |error e=>exact io h
  |ok q =>
   cases q with
   |ret u=>exact h
   |next=>exact io h
   |brk=>exact io h
   |cont=>exact io h]
def a1a:∀{c:List V},List.map some c=[↑a,↑b]->c=[a,b]:=by
 intro c e
 cases c with
 |nil=>cases e
 |cons p r=>cases r with
  |nil=>cases e
  |cons q s=>cases s with
   |nil=>cases e;rfl
   |cons _ _=>cases e
def WX{K:gG}{k:Nat}(F:vt P w K I base OY k f J c PP):vt P w K I base (vF P w) k f J c (ye T Vu):=by
 refine(Vv F).imp λL H Q E h=>?_;obtain⟨m,R,p,Kn,Ke,s,⟨M,N,O⟩,S,_⟩:=h;obtain⟨v1,U,X,Y,Z,v,⟨g,q,x,i,z,y,rfl,A,hb⟩,d⟩:=s.rel;obtain⟨v2,aa,F3,F4,e2,t2,⟨n3,u,rfl,r2⟩,e3,n4⟩:=d;subst r2;subst e2 e3
 have ev:L=[.ref g,.int p.2.1]:=by exact a1a Z
 subst ev;have B:m g:=(v.all g).mpr<|.inl<|(A g).mpr<|.inl rfl;have gT:g≠T:=λe=>s.vv (by rw[<- e];exact B);refine#[g,q,x,i,z,y,p.2.1,rfl,hb,M,N,λC i' z' r j D r0 d=>?_]
 have l:∀a,R a->C a≠none:=λa h=>by
  by_cases e:a=g
  ·rw[e,D.ob];simp
  ·cases G:H a with
   |none=>exact g8 G<|s.wT a h
   |some o=>rw[j a o e G];simp
 refine S r (#[],#[],()) _ (λ_=>False) m R C (O r r0 d) #[λb o n _ h=>j b o (λe=>n<|by rw[e];exact B) h,λ_ h=>.inl h,λa h=>h.elim (λz=>z.elim) .inl,λ_ h _=>h]
  #[#[_,_,X,Y,rfl,v,#[g,q,x,i',z',y,rfl,A,D],_,_,F3,F4,rfl,t2,n3,rfl,n4],s.sub,l,?_,s.vG,s.vv] #[#[λ_ z=>z,_,rfl,rfl],λ_ z=>z.elim,λ_ z=>z.elim,λz=>z]
 refine e1a2 s.tab λc e t=>?_;exact#[c,j T _ (λe=>gT e.symm) e,t]
structure Fn(K:gG)(mg:Str->Option ci)(x:Str)(st:ic)(ps:List Str)(f:gH)(fd:iB):Prop where
 fn:yE K x x st f fd
 at_:mg x=↑(.ref f)
 bd:Binds K fd ps []
def A6{g:Prop}(h:∀G:Prop,(g->G)->G):g:=h g id
def a1b{a b c d:Type}{P:a×b×c×d->Prop}(h:∀e f g i,P (e,f,g,i)):∀x,P x:=λx=>h x.1 x.2.1 x.2.2.1 x.2.2.2
def a2F{a b c d e f:Type}{P:a×b×c×d×e×f->Prop}(h:∀g i j k l m,P (g,i,j,k,l,m)):∀x,P x:=λx=>h x.1 x.2.1 x.2.2.1 x.2.2.2.1 x.2.2.2.2.1 x.2.2.2.2.2
def a1c{a b c d e:Type}{P:a×b×c×d×e->Prop}(h:∀f g i j k,P (f,g,i,j,k)):∀x,P x:=λx=>h x.1 x.2.1 x.2.2.1 x.2.2.2.1 x.2.2.2.2
def a2G{a b c d e f g:Type}{P:a×b×c×d×e×f×g->Prop}(h:∀i j k l m n o,P (i,j,k,l,m,n,o)):∀x,P x:=λx=>h x.1 x.2.1 x.2.2.1 x.2.2.2.1 x.2.2.2.2.1 x.2.2.2.2.2.1 x.2.2.2.2.2.2
def YX{a b c d e f g i:Type}{P:a×b×c×d×e×f×g×i->Prop}(h:∀j k l m n o p q,P (j,k,l,m,n,o,p,q)):∀x,P x:=λx=>h x.1 x.2.1 x.2.2.1 x.2.2.2.1 x.2.2.2.2.1 x.2.2.2.2.2.1 x.2.2.2.2.2.2.1 x.2.2.2.2.2.2.2
def E9{a b c d e f g i j:Type}{P:a×b×c×d×e×f×g×i×j->Prop}(h:∀k l m n o p q r s,P (k,l,m,n,o,p,q,r,s)):∀x,P x:=λx=>h x.1 x.2.1 x.2.2.1 x.2.2.2.1 x.2.2.2.2.1 x.2.2.2.2.2.1 x.2.2.2.2.2.2.1 x.2.2.2.2.2.2.2.1 x.2.2.2.2.2.2.2.2
def PQ{b c d e f g i j k l a:Type}{P:b×c×d×e×f×g×i×j×k×l×a->Prop}(h:∀n o p q r s t u v w m,P (n,o,p,q,r,s,t,u,v,w,m)):∀x,P x:=λx=>h x.1 x.2.1 x.2.2.1 x.2.2.2.1 x.2.2.2.2.1 x.2.2.2.2.2.1 x.2.2.2.2.2.2.1 x.2.2.2.2.2.2.2.1 x.2.2.2.2.2.2.2.2.1 x.2.2.2.2.2.2.2.2.2.1 x.2.2.2.2.2.2.2.2.2.2
def uV{K:gG}{d:Str->Option ci}{k:Nat}{e:List Str}{A c g:Type}[Sls A][Sls c][Ow g]{i j:Wf A g c}(F:vt P w K d base (vF P w) k f l e (ye T i))(h:∀p a b,j p a b->i p a b):vt P w K d base (vF P w) k f l e (ye T j) :=
 F.imp λo H Q E m=>e5a3 m λF R p a b s n r=>#[F,R,p,a,b,s,h p a b n,r]
def a1R:Passes (vF P w) X XF:=λa b H s e c I h=>by obtain⟨_,_,_,_,_,z⟩:=h;exact z.elim
def lkc{β:Type}{n x:Str}{c c':β}{r:List (Str×β)}(h:j7 x ((n,c)::r)=↑c'):(x=n/\c'=c)\/j7 x r=↑c':=by
 rw[iz]at h
 cases q:x==n with
 |true=>rw[q]at h;exact .inl #[eq_of_beq q,(iP h).symm]
 |false=>rw[q]at h;exact .inr h
def fc{b:Type}{p:b->Prop}{a:b}{l:List b}(h:p a)(t:∀y∈l,p y):∀y∈a::l,p y:=λy c=>by
 rcases List.mem_cons.mp c with e|e
 ·rw[e];exact h
 ·exact t y e
def wG{k m:Nat}(h:a=(hW m).map (k + ·)):∀i,k<=i->i<k+m->i∈a:=λi b c=>by rw[h];exact List.mem_map.mpr #[i-k,List.mem_range.mpr q0d,q0d]
def a2H{a:Type}{p:a->Prop}:∀y∈([]:List a),p y:=λ_ h=>by cases h
section
variable{D PO τ:Type}[Sls D][Sls PO][Ow τ]{α:Type}[Rep α]
def Kc(d:EW X E T a f):EW X E T (.UnaryOp .USub a pos) (cK f λ(i:Int->D->Prop) x j=>i (-x) j):=by have h:=WD (c:=λ_=>True) (γ:=Int) (g:=λx:Int=>-x) (e:=.UnaryOp .USub a pos) d (λl b=>U8 Ou b) λb _ k=>#[_,b,k _ rfl];simp only[true_and]at h;exact h
def yx(i:Nat)[Sls l][Sls g][Hs τ][A:At i D τ g][J:Pj g PO n](m:PE X (.Name x p) (vr i)):S1 X E T I n (.Return (some<|.Name x p) pos) (λ(d:D)(_:l->Prop)(j:τ->PO->Prop) _=>j (A.get d)<|J.pj<|A.hole d):=by refine⟨_,B8 m,λd F R L H M j N O s q P r Q=>?_⟩;refine e3a4 (A.take s.rel) λv t w y c k B=>?_;obtain⟨u,rfl⟩:=Hs.has k;have f:∀a,w a->F a:=λa h=>(c.all a).mpr<|.inr h;refine e1a2 (J.le B) λG e C=>?_;exact#[u,y,r _ _ u t G R H q #[λb o _ _ h=>h,λ_ h=>.inl h,λa h=>.inl<|h.elim (λz=>(c.all a).mpr<|.inl z) λz=>f a<|e a z,λ_ h _=>h] #[C,λa h=>s.sub a<|f a<|e a h,s.wT,s.tab,s.vG,λh=>s.vv<|f T<|e T h] ⟨k,λa h=>s.sub a<|(c.all a).mpr<|.inl h,λa h z=>c.xZ a h<|e a z,λh=>s.vv<|(c.all T).mpr<|.inl h⟩]
def Tl{N:List iD}{i P PO B A:Type}[Ow i][Sls P][Sls PO][Sls B][Sls A]{G:B->A->PO->D}{we:Wf D i D}{wr:D->(P->B->A->Prop)->66->Prop}
 (ha:EO X E T e we) (hr:J8 X E T N G wr) (hs:gJ (e::N) X.env=58::gJ N X.env:=by rfl) :
    J8 X E T (e::N) (λ(b:B)(l:A)(p:Un×PO)=>G b l p.2) (cB we wr λx (Kn:i×P->B->A->Prop) p b l=>Kn (x,p) b l):=by
  refine e1a2 ha λta a1 a2=>?_
  refine e1a2 hr λtr b1 b2=>?_
  refine#[_,uS a1 b1 hs,λd F R σ H Kn Ke Q s hw kn ke=>?_]
  refine a2 d F R σ H _ Ke _ s hw (λx d1 u j F1 R1 H1 q1 c1 v g=>?_) ke
  have I:Ch T F R H F1 R1 H1:=c1.less λ_ z=>.inr z
  refine b2 d1 F1 R1 σ H1 _ Ke _ v q1 (λp b l vs us U G2 L o w J q2 O M r h1 h2 hl k=>?_) λC y d' o w J k c s'=>ke C y d' o w J k (Ch.trans s v.tab I c) s'
  -- the new W PD
  have Y:∀a,j a->o a->False:=λa m f=>by
    rcases O.yd a f with q|q
    · exact g.xZ a m q
    · exact v.wT a (g.sub a m) q
  have mT:∀a,j a->a≠T:=λa m z=>g.tab (by rw[<- z];exact m)
  have mx:sl j w J x ↑u:=Ow.st g.is O.ext (λa h=>h.elim (v.sub a) λq=>by rw[q];exact v.vG) λa m z=>z.elim (g.xZ a m)<|mT a m
  have mR:∀a,j a->w a:=λa m=>O.left a (g.sub a m) λz=>g.xZ a m z
  have g1:∀a,U a->o a:=λa h=>(r.all a).mpr<|.inl h
  have g2:∀a,G2 a->o a:=λa h=>(r.all a).mpr<|.inr<|.inl h
  have g3:∀a,L a->o a:=λa h=>(r.all a).mpr<|.inr<|.inr h
  have S:=Ch.trans s v.tab I O
  refine kn (x,p) b l (u::vs) us (λa=>j a\/U a) G2 L (λa=>j a\/o a) w J q2 #[S.keep,S.zP,λa h=>h.elim (λz=>c1.yd a<|.inl z)<|S.yd a,S.left] ⟨λa h=>h.elim (mR a)<|M.sub a,M.wT,M.tab,M.vG,λh=>h.elim g.tab M.vv⟩
    #[λa=>?_,λa m n=>m.elim (λz=>Y a z<|g2 a n) λz=>r.HK a z n,λa m n=>m.elim (λz=>Y a z<|g3 a n) λz=>r.Jr a z n,r.Js] #[↑u,vs.map some,j,U,rfl,#[λ_=>Iff.rfl,λa m n=>Y a m<|g1 a n],Ow.wk mx<|Cr w L J,h1] h2 hl λb' l' L1 L2 L3 Z aa ab p' h3 h4 h5 t=>?_
  · rw[r.all]
    exact#[λz=>z.elim (λq=>.inl<|.inl q) λz=>z.elim (λq=>.inl<|.inr q) .inr,λz=>z.elim (λz=>z.elim .inl λq=>.inr<|.inl q) λz=>.inr<|.inr z]
  · refine e4a4 h3 λv' ae N1 N2 z1 z2 z3 z4 => ?_
    injection z1 with _ z5
    subst z5
    exact k b' l' L1 L2 L3 Z aa ab p'.2 (Sls.fq z4<|two_eq z2 z3) h4 h5 t
class WY(α:Type)[Rep α](ty:String)(b:outParam Bool):Prop where
 ist:∀{K:gG} {R:Rg} {H:Hp} {x:α} {v:V},rp R H x v->∃t,za K H v t/\qI K t (.type ty)=↑b
instance:WY Int "int" true:=#[λ{K R H x v} h=>by
 subst h
 exact#[_,za.int x,by rfl]]
instance:WY Int "bool" false:=#[λ{K R H x v} h=>by
 subst h
 exact#[_,za.int x,by rfl]]
instance:WY (List α) "list" true:=#[λ{K R H x v} h=>by
 obtain⟨a,vs,rfl,_,h3,_⟩:=h
 exact#[_,za.lst h3,by rfl]]
def yi{b:Bool}[WY α ty b]{h:Wf D α D}(k:Gl X "isinstance")(l:X.mg "isinstance"=none)(c:PE X (.Name x q) (tC<|.ty ty))(m:EW X E T a h)
 (i:gJ [a,.Name x q] X.env=75::gJ [.Name x q] X.env:=by rfl) (e:gJ [.Name x q] X.env=(false,eval (.Name x q) X.env)::gJ [] X.env:=by rfl) (f:(jg pos<|gJ [.Name x q] X.env).any (·.1)=false:=by rfl) :
    EW X E T (.Call (.Name "isinstance" p) [a,.Name x q] [] pos) (cK h λ(j:Bool->D->Prop) _ g=>j b g):=by
  refine e1a2 m λP n o=>?_
  refine#[_,ww Ir k l PyProof.Rows.boot_isinstance (uS n (uS c u4 e) i) (he:=i) (hpl:=f),λd F R r H j v Q s w z A=>o d F R r H _ v _ s w (λy g u B C G I J L M=>?_) A]
  refine e1a2 (WY.ist (ty:=ty) (K:=X.K) M) λt N O=>?_
  exact#[u,ty,t,b,rfl,N,O,z _ g _ B C G I J L rfl]
end
end WL
namespace ZT
open PySem PySem.Spec PyProof.Rows
def Ed{i:Nat}(a:s.heap.IsTupleIter b t i)(h:s.heap.IsTuple t j)(k:j[i]?=↑x)
 (l:∀e,e.IsTupleIter b t (i+1)->iT b s.heap e->Q x { s with heap:=e}):gS (gU g w) A (jf<|.ref b) Q E s:=by
  obtain⟨o,d,n,c⟩:=id a;obtain⟨p,q,_,m,r⟩:=h;unfold jf
  refine am<|wpAny_callSpecial?_slot (name:=lO "__next__") a.typeIs lP<|iM lP a.typeIs rX ?_<|rK _
  show gS _ _ (ue (.ref b) 0 >>= _) _ _ s;refine am<|iZ d c (x:=.ref t) rfl ?_
  show gS _ _ (ue (.ref b) 1 >>= _) _ _ s;refine am<|iZ d c (x:=.int i 0) rfl ?_
  show gS _ _ (seqItems? (.ref t) >>= _) _ _ s;refine am<|kU q r ?_;simp only[lq,k]
  have f:Heap.IsTupleIter (s.heap.update b λu=>u.mapFields (·.setIfInBounds 1 (lF<|(i:Int)+1))) b t (i+1):=#[_,iJ _ d<|Obj.isFreed_of_fields<|Obj.data_mapFields c _,(Obj.cls_mapFields ..).trans n,by rw[Obj.data_mapFields c];simp[lF]]
  exact am<|mO d c q0o<|ap #[x,rfl,ap<|l _ f<|oq ..]
def L8{i:Nat}(h:A.handled=none)(b:s.heap.IsTupleIter c t i)(k:s.heap.IsTuple t l)(n:l[i]?=none)
 (q:∀d e,Heap.ExtBut c s.heap d->(∃o,d.get? e=↑o/\o.cls=.type "StopIteration")->E (.ref e) { s with heap:=d}):gS (gU j w) A (jf<|.ref c) Q E s:=by
  obtain⟨o,f,v,g⟩:=id b;obtain⟨p,r,_,m,u⟩:=k;unfold jf
  refine am<|wpAny_callSpecial?_slot (name:=lO "__next__") b.typeIs lP<|iM lP b.typeIs rX ?_<|rK _
  show gS _ _ (ue (.ref c) 0 >>= _) _ _ s;refine am<|iZ f g (x:=.ref t) rfl ?_
  show gS _ _ (ue (.ref c) 1 >>= _) _ _ s;refine am<|iZ f g (x:=.int i 0) rfl ?_
  show gS _ _ (seqItems? (.ref t) >>= _) _ _ s;refine am<|kU r u ?_;simp only[lq,n]
  refine am<|lW<|am<|mO f g q0o ?_;show gS _ _ (newExc (.type "StopIteration") [] >>= _) _ _ _
  refine am ?_;simp only[newExc,newTuple];refine am<|iE ?_ (by size_fits)
  refine am (m:=pZ _ _)<|mC (a:=Value.none) (by first|rfl|(simp only[pZ];rfl))<|iE ?_ (by size_fits)
  simp only[raiseNew];refine am<|wpAny_handled ?_;first|rw[show A.in1.handled=none from h]|rw[h]
  exact am<|ap<|wpAny_throw<|q _ _ (((oq ..).extBut.push _).push _) #[_,gW _ rfl,rfl]
abbrev YY(h:iG)(z c d e g i j:gH)(f:ci)(k:Nat)(l m:Array ci):Prop :=
 rY h z c d f/\qc h c (.ref e) (.ref g)/\(∃a b,qc h d a b)/\h.IsTupleIter e i k/\h.IsTupleIter g j k/\h.IsTuple i l/\h.IsTuple j m
def To{g d:gH}{k:Nat}{Q:ci->gO->Prop}(D:ZipApart z g d l m H I)(st:YY s.heap z g d l m H I .none k xs ys)(hx:xs[k]?=↑x)(hy:ys[k]?=↑y)
 (hQ:∀h,rY h z g d (lF ⇑s)->qc h d x y->h.IsTupleIter l H (k+1)->h.IsTupleIter m I (k+1)->qc h ⇑s x y ->
 (∀c o,c≠z->c≠d->c≠l->c≠m->s.heap.get? c=↑o->h.get? c=↑o)->Q (.ref ⇑s) { s with heap:=h}) :
    gS (gU W w) A (Builtin.«zip.__next__» #[[.ref z],[]]) (λJ s'=>∃v,J=.done (.ret v)/\Q v s') E s:=by
  obtain⟨q,L,⟨a,b,M⟩,h1,h2,N,O⟩:=st
  show gS _ _ (ue (.ref z) 2 >>= _) _ _ _;refine am<|iZ q rfl (x:=.bool false) rfl ?_
  show gS _ _ (ue (.ref z) 3 >>= _) _ _ _;refine am<|iZ q rfl (x:=.ref g) rfl<|am<|kU L rfl ?_
  show gS _ _ (jP (.ref z) >>= _) _ _ _;refine am ?_;unfold jP
  refine am<|iZ q rfl (x:=.none) rfl<|ap ?_;simp only[if_true]
  refine am<|lW<|am<|iZ q rfl (x:=.ref d) rfl<|am<|jH q q0o λg1 P i=>?_
  replace P:rY g1 z g d .ellipsis:=P;refine am ?_;simp only[uH,List.zipIdx_nil,List.forIn_cons,List.forIn_nil]
  refine am<|am<|oV ?_;show gS _ _ (jf (.ref l) >>= _) _ _ _
  refine am<|Ed (h1.extBut i.extBut D.i1z) (N.extBut i.extBut D.l1z) hx λg2 a2 n=>ap ?_
  have X:qc g2 d a b:=n.extBut _ _ D.TOi1<|i.extBut _ _ D.TOz M
  refine am<|kU X rfl<|am<|qd X λg3 R p=>am<|rZ<|ap ?_
  replace R:qc g3 d x b:=R
  refine am<|am<|oV ?_;show gS _ _ (jf (.ref m) >>= _) _ _ _
  refine am<|Ed (((h2.extBut i.extBut D.i2z).extBut n.extBut D.i12.symm).extBut p.extBut D.TOi2.symm) (((O.extBut i.extBut D.l2z).extBut n.extBut D.l2i1).extBut p.extBut D.l2TO) hy λg4 a4 r=>ap ?_
  have Y:qc g4 d x b:=r.extBut _ _ D.TOi2 R
  refine am<|kU Y rfl<|am<|qd Y λf u t=>am<|rZ<|ap<|ap ?_
  replace u:qc f d x y:=u
  refine am<|kU u rfl<|am<|wpAny_newTuple ?_
  have Z:f.objs.size=⇑s:=by rw[t.1,r.1,p.1,n.1,i.1]
  have z5:rY f z g d .ellipsis:=t.extBut _ _ D.TOz.symm<|r.extBut _ _ D.i2z.symm<|p.extBut _ _ D.TOz.symm<|n.extBut _ _ D.i1z.symm P
  have k5:∀c o,c≠z->c≠d->c≠l->c≠m->s.heap.get? c=↑o->f.get? c=↑o:=λc o j B S T e=>t.extBut _ _ B<|r.extBut _ _ T<|p.extBut _ _ B<|n.extBut _ _ S<|i.extBut _ _ j e
  have q1:f.IsTupleIter l H (k+1):=((a2.extBut p.extBut D.TOi1.symm).extBut r.extBut D.i12).extBut t.extBut D.TOi1.symm
  have q2:f.IsTupleIter m I (k+1):=a4.extBut t.extBut D.TOi2.symm
  have lz:z<f.objs.size:=gP z5
  show gS _ _ (nE (.ref z) (.ref f.objs.size) >>= _) _ _ _;refine am ?_;unfold nE
  have z6:rY (f.push { cls:=.type "tuple",data:=.seq #v[x,y]}) z g d .ellipsis:=ce _ z5
  refine am<|jH z6 q0o λg7 U e7=>?_;replace U:rY g7 z g d (lF f.objs.size):=U
  refine jH U q0o λC F e8=>?_;replace F:rY C z g d (lF f.objs.size):=F
  have G:∀c o,c≠z->f.get? c=↑o->C.get? c=↑o:=λc o j e=>e8.extBut _ _ j<|e7.extBut _ _ j<|ce _ e
  have t8:qc C f.objs.size x y:=e8.extBut _ _ (je lz)<|e7.extBut _ _ (je lz)<|gW _ rfl
  rw[Z]at F t8;refine ap #[_,rfl,?_];show Q (.ref f.objs.size) _;rw[Z]
  exact hQ C F (G _ _ D.TOz u) (q1.at λo e=>G _ o D.i1z e) (q2.at λo e=>G _ o D.i2z e) t8 λc o j B S T e=>G c o j<|k5 c o j B S T e
def WZ{l f:gH}{k:Nat}(O:A.handled=none)(D:ZipApart z l f v y l1 l2)(st:YY s.heap z l f v y l1 l2 .none k P R)(m:P[k]?=none\/R[k]?=none)
 (S:∀B e,(∀c o,c≠z->c≠f->c≠v->c≠y->s.heap.get? c=↑o->B.get? c=↑o)->(∃o,B.get? e=↑o/\o.cls=.type "StopIteration")->E (.ref e) { s with heap:=B}) :
    gS (gU T w) A (Builtin.«zip.__next__» #[[.ref z],[]]) Q E s:=by
  obtain⟨n,C,⟨a,b,F⟩,U,h2,p,G⟩:=st
  show gS _ _ (ue (.ref z) 2 >>= _) _ _ _;refine am<|iZ n rfl (x:=.bool false) rfl ?_
  show gS _ _ (ue (.ref z) 3 >>= _) _ _ _;refine am<|iZ n rfl (x:=.ref l) rfl<|am<|kU C rfl ?_
  show gS _ _ (jP (.ref z) >>= _) _ _ _;refine am ?_;unfold jP
  refine am<|iZ n rfl (x:=.none) rfl<|ap ?_;simp only[if_true]
  refine am<|lW<|am<|iZ n rfl (x:=.ref f) rfl<|am<|jH n q0o λg1 u d=>?_
  replace u:rY g1 z l f .ellipsis:=u;refine am ?_;simp only[uH,List.zipIdx_nil,List.forIn_cons,List.forIn_nil]
  refine am<|am<|oV ?_;show gS _ _ (jf (.ref v) >>= _) _ _ _
  cases H:P[k]? with
  |none =>
    refine am<|L8 O (U.extBut d.extBut D.i1z) (p.extBut d.extBut D.l1z) H λI e g J=>?_;obtain⟨L,i,r⟩:=J
    have W:rY I z l f .ellipsis:=g _ _ D.i1z.symm u
    have M:e≠z:=λq=>by subst q;rw[W]at i;cases i;simp at r
    exact jH W q0o λX _ j=>S X e (λc o t _ N _ q=>j.extBut _ _ t<|g _ _ N<|d.extBut _ _ t q) #[L,j.extBut _ _ M i,r]
  |some x =>
    have hy:R[k]?=none:=by rcases m with h|h;rw[H]at h;cases h;exact h
    refine am<|Ed (U.extBut d.extBut D.i1z) (p.extBut d.extBut D.l1z) H λI a2 g=>ap ?_
    have Y:qc I f a b:=g.extBut _ _ D.TOi1<|d.extBut _ _ D.TOz F
    refine am<|kU Y rfl<|am<|qd Y λX p3 j=>am<|rZ<|ap ?_
    refine am<|am<|oV ?_;show gS _ _ (jf (.ref y) >>= _) _ _ _
    refine am<|L8 O (((h2.extBut d.extBut D.i2z).extBut g.extBut D.i12.symm).extBut j.extBut D.TOi2.symm) (((G.extBut d.extBut D.l2z).extBut g.extBut D.l2i1).extBut j.extBut D.l2TO) hy λg4 e Z J=>?_
    obtain⟨L,i,r⟩:=J
    have z4:rY g4 z l f .ellipsis:=Z _ _ D.i2z.symm<|j.extBut _ _ D.TOz.symm<|g.extBut _ _ D.i1z.symm u
    have M:e≠z:=λq=>by subst q;rw[z4]at i;cases i;simp at r
    exact jH z4 q0o λg5 _ e5=>S g5 e (λc o t c2 N c4 q=>e5.extBut _ _ t<|Z _ _ c4<|j.extBut _ _ c2<|g.extBut _ _ N<|d.extBut _ _ t q) #[L,e5.extBut _ _ M i,r]
noncomputable abbrev tI(l:gH):Obj:={ cls:=.type "tuple_iterator",data:=.fields #v[.ref l,.int 0 0]}
noncomputable abbrev H1(h:iG)(a:gH):iG:=h.push<|tI a
noncomputable abbrev H2(h:iG)(a b:gH):iG:=(H1 h a).push<|tI b
noncomputable abbrev H3(h:iG)(a b:gH):iG:=(H2 h a b).push { cls:=.type "tuple",data:=.seq #v[.ref h.objs.size,.ref (H1 h a).objs.size]}
noncomputable abbrev H4(h:iG)(a b:gH):iG:=(H3 h a b).push { cls:=.type "tuple",data:=.seq #v[.none,.none]}
noncomputable abbrev H5(h:iG)(a b:gH):iG:=(H4 h a b).push { cls:=.type "zip",data:=.fields #v[.none,.bool false,.bool false,.ref (H2 h a b).objs.size,.ref (H3 h a b).objs.size]}
def made(a b:gH)(c e:Array ci):Meets (Builtin.«zip.__new__» #[[.type "zip",.ref a,.ref b],[]]) (λ_ R s=>s.heap.IsTuple a c/\s.heap.IsTuple b e/\R (.ok<|.ret<|.ref (H4 s.heap a b).objs.size) { s with heap:=H5 s.heap a b}) :=
 .of_wp λf w A R s h=>by
  obtain⟨i,g,d,j,k⟩:=s;obtain⟨m,n,h⟩:=h;have l:=sub_zip;have o:qi (Shared.heap #[i,g,d,j,k]) a c:=m;have p:qi (Shared.heap #[i.push<|tI a,g,d,j,k]) b e:=Heap.IsTuple.push n _
  wp_walk using qH o,qH p
  exact#[_,rfl,h]
def PR(n:s.heap.IsTuple a p)(q:s.heap.IsTuple b r)
 (h:∀d,YY d (⇑s+4) (⇑s+2) (⇑s+3) ⇑s (⇑s+1) a b .none 0 p r->d.objs.size=⇑s+5->(∀c o,s.heap.get? c=↑o->d.get? c=↑o)->Q (.ref<|⇑s+4) { s with heap:=d}) :
    gS (gU t w) A (call (.type "zip") [.ref a,.ref b]) Q E s:=by
  refine callType_new F.called_zip q0q (F.typeCall_zip_2 _ _) (F.newCall_zip_2 _ _) (λf=>F.args_object_init_3 f _ _) F.entry_zip_new (made a b p r) #[n,q,?_]
  have g:(H1 s.heap a).objs.size=⇑s+1:=ju ..
  have i:(H2 s.heap a b).objs.size=⇑s+2:=by rw[ju,g]
  have j:(H3 s.heap a b).objs.size=⇑s+3:=by rw[ju,i]
  have k:(H4 s.heap a b).objs.size=⇑s+4:=by rw[ju,j]
  have z:(H5 s.heap a b).objs.size=⇑s+5:=by rw[ju,k]
  have l:(H5 s.heap a b).get? (H4 s.heap a b).objs.size=↑_:=gW _ rfl
  have u:(H5 s.heap a b).get? (H3 s.heap a b).objs.size=↑_:=ce _<|gW _ rfl
  have v:(H5 s.heap a b).get? (H2 s.heap a b).objs.size=↑_:=ce _<|ce _<|gW _ rfl
  have y:(H5 s.heap a b).get? (H1 s.heap a).objs.size=↑_:=ce _<|ce _<|ce _<|gW _ rfl
  have B:(H5 s.heap a b).get? ⇑s=↑_:=ce _<|ce _<|ce _<|ce _<|gW _ rfl
  have m:∀c o,s.heap.get? c=↑o->(H5 s.heap a b).get? c=↑o:=λc o x=>ce _<|ce _<|ce _<|ce _<|ce _ x
  rw[i,j,k]at l;rw[g,i]at v;rw[j]at u;rw[g]at y;rw[k]
  exact#[#[_,l,rfl],h _ #[l,v,#[_,_,u],#[_,B,rfl,rfl],#[_,y,rfl,rfl],n.at λo e=>m _ o e,q.at λo e=>m _ o e] z m]
def walk(hh:A.handled=none)(z TI TO i1 i2 l1 l2:gH)(D:ZipApart z TI TO i1 i2 l1 l2)(xs ys:Array ci):WalksT prog w A z [z,TI,TO,i1,i2,l1,l2] [z,TO,i1,i2] (min xs.size ys.size)
   (λi vals=>∃x y,xs[i]?=↑x/\ys[i]?=↑y/\vals=#v[x,y]) (λi h=>YY h z TI TO i1 i2 l1 l2 .none i xs ys)
   (λi T h=>YY h z TI TO i1 i2 l1 l2 (lF T) (i+1) xs ys/\T≠z/\T≠TO/\T≠i1/\T≠i2) where
 sub:=λc hc=>by simp only[ii,jb,lX]at hc ⊢;rcases hc with q|q|q|q<;>simp[q]
 frame:=λi h h' st k=>by obtain⟨hz,YZ,⟨a,b,Y0⟩,h1,h2,Y1,Y2⟩:=st;exact#[k z q0o _ hz,k TI q0o _ YZ,#[a,b,k TO q0o _ Y0],h1.at λo e=>k i1 q0o o e,h2.at λo e=>k i2 q0o o e,Y1.at λo e=>k l1 q0o o e,Y2.at λo e=>k l2 q0o o e]
 item:=λi s Q E hi st hQ=>by have ix:i<xs.size:=hR hi<|Nat.min_le_left ..;have iy:i<ys.size:=hR hi<|Nat.min_le_right ..;have hT:s.TypeIs (.ref z) "zip":=⟨_,st.1,rfl⟩;unfold pyNext;refine am<|oS<|wpAny_callSpecial?_slot (name:=lO "__next__") hT pw<|iM pw hT F.entry_zip_next (To D st (jj ix) (jj iy) λh' a1 a2 a3 a4 a5 k=>ap ?_)<|F.args_zip_next_1 _;obtain⟨hz,YZ,⟨a,b,Y0⟩,h1,h2,Y1,Y2⟩:=st;have lt:∀{c o},s.heap.get? c=some o->⇑s≠c:=λe=>je<|gP e;refine hQ ⇑s #v[xs[i],ys[i]] h' s.toks ⟨_,_,jj ix,jj iy,rfl⟩ (gK _) ⟨_,a5,rfl,_,rfl⟩ ⟨⟨a1,k _ _ D.TIz D.TITO D.TIi1 D.TIi2 YZ,⟨_,_,a2⟩,a3,a4,Y1.at λo e=>k _ o D.l1z D.l1TO D.l1i1 D.l1i2 e,Y2.at λo e=>k _ o D.l2z D.l2TO D.l2i1 D.l2i2 e⟩,lt hz,lt Y0,by obtain⟨_,e,_⟩:=h1;exact lt e,by obtain⟨_,e,_⟩:=h2;exact lt e⟩ ?_;exact λc o hc e=>k c o (λx=>hc<|by simp[x]) (λx=>hc<|by simp[x]) (λx=>hc<|by simp[x]) (λx=>hc<|by simp[x]) e
 go:=λelts k pos i T s Q E hm hQ=>by obtain⟨⟨hz,YZ,⟨a,b,Y0⟩,h1,h2,Y1,Y2⟩,_⟩:=hm;refine wpAny_letOwnedTupleGo_zip hz λh' hz' e=>hQ h' #[hz',e.extBut _ _ D.TIz YZ,#[a,b,e.extBut _ _ D.TOz Y0],h1.extBut e.extBut D.i1z,h2.extBut e.extBut D.i2z,Y1.extBut e.extBut D.l1z,Y2.extBut e.extBut D.l2z] λc o hc q=>e.extBut _ _ (λx=>hc<|by simp[x]) q
 apart:=λi T h hm hT=>by obtain⟨_,t1,t2,t3,t4⟩:=hm;simp only[ii,jb,lX]at hT;rcases hT with q|q|q|q;exact t1 q;exact t2 q;exact t3 q;exact t4 q
 done:=λs Q E st hQ=>by
  have a1e:xs[min xs.size ys.size]?=none\/ys[min xs.size ys.size]?=none:=by
   rcases Nat.le_total xs.size ys.size with h|h
   ·rw[Nat.min_eq_left h];exact .inl<|sj<|gK _
   ·rw[Nat.min_eq_right h];exact .inr<|sj<|gK _
  have hT:s.TypeIs (.ref z) "zip":=#[_,st.1,rfl];unfold pyNext;refine am<|oS<|wpAny_callSpecial?_slot (name:=lO "__next__") hT pw<|iM pw hT F.entry_zip_next (WZ hh D st a1e λh' e k he=>?_)<|F.args_zip_next_1 _;obtain⟨o,ho,hc⟩:=he;exact am<|l8 (T:="StopIteration") (b:=true) ⟨o,ho,hc⟩ isSubtype_stop<|ap<|hQ _ s.toks λc o hc e=>k c o (λx=>hc<|by simp[x]) (λx=>hc<|by simp[x]) (λx=>hc<|by simp[x]) (λx=>hc<|by simp[x]) e
 self:=λi s Q E st hQ=>wpAny_pyIter_zip st.1 hQ
end ZT
namespace L2
open PySem PySem.Spec PyProof.Rows
def a1f:Pe X (yI X.K) P:=#[λ{v J H1 g a b L M x} m N y A B=>by
 obtain⟨n,C,p,O⟩:=m.tuple y;obtain⟨q,D,r,R⟩:=m.tuple A;have h:g.heap.get? P=↑(qN x):=m.vD P _ B;have i:qi g.heap a n.toArray:=p;have j:qi g.heap b q.toArray:=r
 have f:∀(l:gH)(d:Array ci),g.heap.IsTuple l d->l≠P:=λl d s=>e1a3 s λo e c _ z=>by rw[z,h]at e;cases e;cases c
 have k:∀(l:gH)(d:Array ci),g.heap.IsTuple l d->l<⇑g:=λl d s=>e1a2 s λo e _=>gP e;refine#[n,q,C,D,k _ _ i,k _ _ j,f _ _ i,f _ _ j,λQ E F=>ZT.PR i j λG t u H=>?_]
 exact F G _ _ (λS I=>(ZT.walk (prog:=X.prog) (w:=X.w) I _ _ _ _ _ _ _ (zipApart_new (k _ _ i) (k _ _ j)) n.toArray q.toArray).toU) t u H]
end L2
namespace HT
variable[L2.GX]
open PySem PySem.Spec PyProof.Rows
def AJ{a:Option Int}(b:IsTup s.heap t items)(i:s.heap.IsSliceOf sl k l .none)(m:pW k a)(n:pW l c)
 (hw:wN items.size 0 a=0/\wN items.size items.size c=items.size)(h:Q (.ref t) s):gS (gU j w) A (nV (.ref t)<|.ref sl) Q E s:=by
  refine e1a3 (id i) λo d e p=>?_
  have f:s.TypeIs (.ref sl) "slice":=#[o,d,e]
  unfold nV
  try with_reducible refine iq ?_
  first|refine am (ap ?_)|skip
  refine am<|wpAny_sequenceKey b.typeIs q0q ?_
  refine am (wpAny_callSpecial?_slot (name:=lO "__getitem__") b.typeIs kg
    (iM kg b.typeIs entry_tuple_getitem ?_ (args_tuple_getitem _ _)))
  show gS _ _ (pQ (.ref t) >>= _) _ _ s
  refine am<|tupleItemsOf_ b ?_
  refine am<|kI f ?_
  rw[gI q0q]
  refine am<|yJ i m n ?_
  have g:(((wN items.size 0 a:Nat):Int)==0&&(1:Int)==1&&(wN items.size items.size c-wN items.size 0 a)==items.size)=true:=by
    rw[hw.1,hw.2]
    simp
  show gS _ _ (if (((wN items.size 0 a:Nat):Int)==0&&(1:Int)==1&&(wN items.size items.size c-wN items.size 0 a)==items.size)=true then _ else _) _ _ s
  rw[gI g]
  refine am<|am<|kI b.typeIs<|ap ?_
  rw[gI q0q]
  first
    | exact am<|lW<|ap #[_,rfl,ap h]
    | exact am<|lW<|am<|ap<|ap #[_,rfl,ap h]
    | exact am<|am<|lW<|ap<|ap #[_,rfl,ap h]
end HT
namespace L2
variable[L2.GX]
open PySem PySem.Spec PyProof.Rows
def Y3(K:gG):V->Option Int->Option Int->Hp->VK->Prop:=λx c d H Q=>∃a b,x=.ref a/\yI K H a b/\(HT.wN b.length 0 c=0/\HT.wN b.length b.length d=b.length)/\Q (.ref a) H
def Tq:Vc X (Y3 X.K):=by
 intro d s n H x v o p t u w Q I f g i j h;obtain⟨a,k,rfl,l,m,q⟩:=h;cases f;refine e1a3 (I.tuple l) λc r e y=>?_;have b:c.toArray.size=k.length:=by rw[gX];exact r.length.symm
 refine#["tuple",_,PyProof.Rows.slot_tuple_getitem.lookup,e.typeIs,?_];exact HT.AJ e g i j (by rw[b];exact m) #[.ref a,H,I,rfl,q]
end L2
namespace WL
variable[L2.GX]
open PySem L2
open Rep (rp)
open Ow (sl)
open Sls (rel)
section
variable{D:Type}[Sls D]
def vQ.PU{F R:Rg}{H c:Hp}{d:D}{f:St}(s:vQ T F R H d f)(k:∀b o,b≠T->H b=↑o->c b=↑o)(t:TabAt c T):Ch T F R H F R c/\vQ T F R c d f:=by
 refine#[#[λb o _ n h=>k b o n h,λ_ h=>.inl h,λ_ h=>.inl h,λ_ h _=>h],Sls.st s.rel (G:=λa=>a=T) #[λb o n h=>k b o n h,λ_ h=>.inl h] (λa h=>by rw[h];exact s.vG)<|λa h z=>s.vv (by rw[<- z];exact h),s.sub,λa h=>?_,t,s.vG,s.vv];by_cases e:a=T
 ·rw[e];exact yO t
 ·cases q:H a with
  |none=>exact g8 q<|s.wT a h
  |some o=>rw[k a o e q];simp
def Ee{x:Tp Int}(h:rp R H x v):∃a,v=.ref a/\H a=↑(.tup<|x.l.map V.int):=by refine e2a4 h λa vs e _ h3 h4=>?_;exact#[a,e,by rw[h3,paired_ints h4]]
def Ef{x:List Int}(h:rp R H x v):∃a,v=.ref a/\H a=↑(.lst<|x.map V.int):=by refine e2a4 h λa vs e _ h3 h4=>?_;exact#[a,e,by rw[h3,paired_ints h4]]
def PV(A:EW X E T h B)(G:EW X E T f I)(J:∀{i:TA},PA X [h,f] i->PE X e (YJ X.K T i))
 (L:gJ [h,f] X.env=(false,eval h X.env)::gJ [f] X.env:=by rfl) (j:gJ [f] X.env=(false,eval f X.env)::gJ [] X.env:=by rfl) :
    EW X E T e (cB B I λM (o:Bool->D->Prop) N l=>o (zf M N) l):=by
  refine e1a2 A λi O P=>?_
  refine e1a2 G λtb S U=>?_
  refine#[_,J<|uS O (uS S u4 j) L,λd F R p H o q Q s W Y r=>?_]
  refine P d F R p H _ q _ s W (λx Z u F1 R1 H1 q1 w g r1=>?_) r
  refine U Z F1 R1 p H1 _ q _ g q1 (λy l v F2 R2 H2 q2 z m r2=>?_) λC y d' F' R' n k c s'=>r C y d' F' R' n k (Ch.trans s g.tab w c) s'
  obtain⟨a,rfl,ha⟩:=Ef<|g.val z r1
  obtain⟨b,rfl,hb⟩:=Ef r2
  refine#[a,b,x,y,rfl,vX.of ha,vX.of hb,m.tab,λn k _ t=>?_]
  obtain⟨c3,s3⟩:=m.PU k t
  exact Y _ l _ F2 R2 n q2 (Ch.trans s g.tab w<|Ch.trans g m.tab z c3) s3 rfl
def PX{p q:Wf D (Tp Int) D}(I:EW X E T h p)(J:EW X E T f q)(L:∀{i:TA},PA X [h,f] i->PE X e (Wx X.K T i))
 (M:gJ [h,f] X.env=(false,eval h X.env)::gJ [f] X.env:=by rfl) (j:gJ [f] X.env=(false,eval f X.env)::gJ [] X.env:=by rfl) :
    EW X E T e (cB p q λN (r:Bool->D->Prop) O m=>r (zf N.l O.l) m):=by
  refine e1a2 I λi P S=>?_
  refine e1a2 J λtb U W=>?_
  refine#[_,L<|uS P (uS U u4 j) M,λd F R w H r z Q s Y Z A=>?_]
  refine S d F R w H _ z _ s Y (λx d1 u F1 R1 H1 q1 B g r1=>?_) A
  refine W d1 F1 R1 w H1 _ z _ g q1 (λy m v F2 R2 H2 q2 G n r2=>?_) λC y d' F' R' o k c s'=>A C y d' F' R' o k (Ch.trans s g.tab B c) s'
  obtain⟨a,rfl,ha⟩:=Ee<|g.val G r1
  obtain⟨b,rfl,hb⟩:=Ee r2
  refine#[a,b,x.l,y.l,rfl,yI.of ha,yI.of hb,n.tab,λo k _ t=>?_]
  obtain⟨c3,s3⟩:=n.PU k t
  exact Z _ m _ F2 R2 o q2 (Ch.trans s g.tab B<|Ch.trans g n.tab G c3) s3 rfl
def NA{N O:Option iD}{P:Wf D (Tp Int) D}{S U:Wf D (Option Int) D}(ha:EW X E T a P)(hl:OW X E T N S)(hh:OW X E T O U) :
  EW X E T (.Subscript a (.Slice N O none p2) pos) (λ(d:D)(W:Tp Int->D->Prop) f=>P d (λg r=>S r (λl t=>U t (λh n=>W #[C8 g.l l h] n) f) f) f):=by
 refine e1a2 ha λta a1 a2=>?_;refine e1a2 hl λtl l1 l2=>?_;refine e1a2 hh λth h1 h2=>?_;refine#[_,zJ (Wb.or Tq) a1 l1 h1,λd F R v H W f Q s j Y w=>?_];refine a2 d F R v H _ f _ s j (λg r u F1 R1 H1 q1 x i r1=>?_) w;refine l2 r F1 R1 v H1 _ f _ i q1 (λl t F2 R2 H2 q2 Z z=>?_) λC y A B G I k c J=>w C y A B G I k (Ch.trans s i.tab x c) J;refine h2 t F2 R2 v H2 _ f _ z q2 (λh n F3 R3 H3 q3 c3 o=>?_) λC y A B G I k c J=>w C y A B G I k (Ch.trans s i.tab x<|Ch.trans i z.tab Z c) J;have m:=Ch.trans i z.tab Z c3;have r3:=i.val m r1;obtain⟨q,b,rfl,k1,L,M⟩:=id r3;have cc:=Ch.trans s i.tab x m;have le:=Paired.length M;by_cases j:HT.wN b.length 0 l=0/\HT.wN b.length b.length h=b.length
 ·refine .inr #[q,b,rfl,yI.of L,j,?_];refine Y _ n _ F3 R3 H3 q3 cc o #[q,b,rfl,k1,L,?_]
  have e:C8 g.l l h=g.l:=by unfold C8;rw[le,j.1,j.2,List.drop_zero,Nat.sub_zero,<- le,uI]
  rw[e];exact M
 ·refine .inl #[q,b,rfl,yI.of L,j,λp hp=>?_];refine e0a3 (o.new (.tup<|DM b l h) hp) λs4 c4 n4=>?_;exact Y _ n _ F3 R3 _ q3 (Ch.trans s o.tab cc c4) s4 #[p,_,rfl,n4,uO,o.vals c4<|D6 M l h]
end
structure SI(w:iL) where
 l:List Int
instance(w:iL):Ow (SI w):=#[λF _ H x v=>∃a ks,v=↑(.ref a)/\(∀b,F b↔b=a)/\H a=↑(wS w a ks)/\ks.Nodup/\(∀k,k∈ks↔k∈x.l)/\x.l.Pairwise (· < ·),
 λh e s n=>by
  refine e2a4 h λa ks h1 h2 h3 h4=>?_
  exact#[a,ks,h1,h2,e.keep a _ (n a<|(h2 a).mpr rfl) h3,h4],
 λh e=>by
  refine e2a4 h λa ks h1 h2 h3 h4=>?_
  exact#[a,ks,h1,λb=>(e b).symm.trans (h2 b),h3,h4]]
noncomputable def Fa(k:Int)(l:List Int):List Int:=if k∈l then l else ins k l
noncomputable def Kd(k:Int)(l:List Int):List Int:=l.filter λx=>decide<|x≠k
def v9{a b:List Int}(c:a.Nodup)(d:b.Nodup)(h:∀k,k∈a↔k∈b):a.Perm b:=(List.perm_ext_iff_of_nodup c d).mpr h
def vm{l:List Int}(h:l.Pairwise (· < ·)):l.Nodup:=h.imp λq=>Int.ne_of_lt q
def L9{l:List Int}(h:l.Pairwise (· < ·)):l.Pairwise (·<=·):=h.imp λq=>Int.le_of_lt q
def Vw{l:List Int}(h:l.Pairwise (·<=·))(n:l.Nodup):l.Pairwise (· < ·):=List.Pairwise.imp₂ (λa b (q:a<=b) (n:a≠b)=>by lia) h n
def AA{k:Int}:k∈CM l↔k∈l:=(wF l).mem_iff
def Eg{a:List Int}(n:a.Nodup)(h:∀k,k∈a↔k∈l)(r:l.Pairwise (· < ·)):CM a=l:=yh ((wF a).trans<|v9 n (vm r) h) (Aw a)<|L9 r
set_option tactic.hygienic true in
def BH{k x:Int}:x∈Fa k l↔x=k\/x∈l:=by
 unfold Fa;split
 ·rename_i h
  exact#[.inr,λz=>z.elim (λe=>by rw[e];exact h) id]
 ·rw[(zR k l).mem_iff,ii]
set_option tactic.hygienic true in
def Dn{k:Int}{l:List Int}(r:l.Pairwise (· < ·)):(Fa k l).Pairwise (· < ·):=by
 unfold Fa;split
 ·exact r
 ·rename_i h
  exact Vw (Gr k l<|L9 r)<|(zR k l).nodup_iff.mpr<|List.nodup_cons.mpr #[h,vm r]
def zV{k x:Int}:x∈Kd k l↔x∈l/\x≠k:=by unfold Kd;rw[jl];simp
section
variable{D PO τ:Type}[Sls D][Sls PO][Ow τ]{α:Type}[Rep α]
def Tr(j:X.w=w)(l:Gl X "set")(m:X.mg "set"=none):EO X E T (.Call (.Name "set" p) [] [] pos) (λ(d:D)(e:SI w->D->Prop) _=>e #[[]] d):=by
 subst j;refine#[_,JK Nu l m nQ,λd F R v H e x Q s n r y=>#[rfl,λp c=>?_]];refine e0a3 (s.new (wS X.w p []) c) λf t g=>?_;have u:¬F p:=λz=>g<|s.sub p z;have i:Ext (λ_=>False) R H (λa=>R a\/a=p) (upd H p<|wS X.w p []):=⟨λb o _ h=>by rw[uL<|uU h c];exact h,λa h=>h.elim .inl λq=>.inr<|by rw[q];exact c⟩;refine r ⟨[]⟩ d _ (λa=>a=p) F (λa=>R a\/a=p) _ n #[t.keep,i.new,λa h=>h.elim (λq=>.inr<|by rw[q];exact c) .inl,λa h _=>.inl h] #[Sls.st s.rel i (λ_ z=>z.elim)<|λ_ _ z=>z,λa h=>.inl<|s.sub a h,λa h=>?_,f.tab,.inl s.vG,s.vv] #[#[p,[],rfl,λb=>Iff.rfl,uO,ny,λ_=>Iff.rfl,il],λa h=>.inr h,λa h k=>u (by rw[<- h];exact k),λh=>g<|by rw[<- h];exact s.vG];rcases h with h|h
 ·exact f.wT a h
 ·rw[h,uO];simp
def tw_inS(i:Nat)(j:X.w=w)[Sls m][A:At i D (SI w) m](n:EW X E T a o)(q:PE X (.Name x p) (vr i))(r:iN .In (.Name x p)=false) :
  TW X E T (.Compare a [.In] [.Name x p] pos) (cK o λf k c=>f (decide<|k∈(A.get c).l) c):=by
 subst j;refine e1a2 n λY t y=>?_;refine#[_,xB Wz t q r,λd F R z H f B Q s C G I=>y d F R z H _ B _ s C (λk c u J L M N O g P=>?_) I];obtain⟨v,Z,G2,S,h2,⟨b,h,rfl,g2,U,g4,W,g6⟩,_⟩:=A.take g.rel;refine#[_,S,k,b,h,P,rfl,U,_,rfl,?_];have e:decide (k∈h)=decide (k∈(A.get c).l):=by simp only[W]
 rw[e];exact G _ c J L M N O g
def Do{i:Nat}[Sls x][A:At i D (SI w) x][U:Pt i x (SI w) D](s:vQ T F R H d y):∃a g,y[i]?=↑(some<|.ref a)/\H a=↑(wS w a g)/\g.Nodup/\(∀k,k∈g↔k∈(A.get d).l)/\(A.get d).l.Pairwise (· < ·) /\
  ∀(j f:List Int),f.Nodup->(∀k,k∈f↔k∈j)->j.Pairwise (· < ·)->Ch T F R H F R (upd H a<|wS w a f)/\vQ T F R (upd H a<|wS w a f) (U.put (A.hole d) #[j]) y:=by
 obtain⟨v,W,X,B,m,⟨a,g,rfl,p,C,E,G,I⟩,J⟩:=A.take s.rel;have r:F a:=(m.all a).mpr<|.inl<|(p a).mpr rfl;have L:a≠T:=λz=>s.vv (by rw[<- z];exact r);refine#[a,g,B,C,E,G,I,λj f M N O=>?_];have P:=zi (F:=F) (R:=R) (H:=H) (a:=a) (o:=wS w a f);have Q:∀c,c=a->R c:=λc z=>by rw[z];exact s.sub a r
 have k:∀b u,b≠a->H b=↑u->upd H a (wS w a f) b=↑u:=λb u z e=>by rw[uL z];exact e
 refine#[#[λb o n _ e=>k b o (λz=>n<|by rw[z];exact r) e,λ_ h=>.inl h,λ_ h=>.inl h,λ_ h _=>h],Pt.same (A:=U) (Sls.st J P Q λc z q=>m.xZ c ((p c).mpr q) z) B m #[a,f,rfl,p,uO,M,N,O],s.sub,λc z=>?_,?_,s.vG,s.vv]
 ·by_cases e:c=a
  ·rw[e,uO];simp
  ·rw[uL e];exact s.wT c z
 ·refine e1a2 s.tab λS e t=>?_;exact#[S,k _ _ (λz=>L z.symm) e,t]
set_option tactic.hygienic true in
def Tt(i:Nat)(S:X.w=w)[Sls B][A:At i D (SI w) B][U:Pt i B (SI w) D][J:Pj D PO n](h:EW X E T e W)
 (Y:∀{t:TA},PA X [e] t->PS X (.Expr (.Call (.Attribute (.Name x Z) "add" p2) [e] [] p3) pos) (HX<|WA X.w (λx vs H Q=>∃(a:gH)(f:List Int)(k:Int),x=.ref a/\vs=[.int k]/\H a=↑(wS X.w a f)/\f.length+1<=127/\∀b:List Int,b.Nodup->b.Perm (if k∈f then f else k::f)->Q .wm (upd H a<|wS X.w a b)) (vr i) t)) (hs:gJ [e] X.env=58::gJ [] X.env:=by rfl) :
    S1 X E T ms n (.Expr (.Call (.Attribute (.Name x Z) "add" p2) [e] [] p3) pos) (cS W J.pj λ(I:D->Prop)(Kr:τ->PO->Prop) y g=>(A.get g).l.length<127/\I (U.put (A.hole g) #[Fa y (A.get g).l])):=by
  subst S
  refine e1a2 h λt h1 h2=>?_
  refine#[_,Y<|uS h1 u4 hs,λd F R L H I Kr Ke En s hw kn kr ke=>?_]
  refine e2a4 (Do (i:=i) s) λa f j p g3 _=>?_
  refine#[_,j,#[a,f,rfl,p],h2 d F R L H _ _ _ s hw (λy g v M u N q c m r=>?_) λC y g M u N q c m=>?_]
  · obtain⟨a', b, O, k2, k3, o, P, k6⟩ := Do (i := i) m
    rw[j]at O
    cases O
    subst r
    have aa:b.length=(A.get g).l.length:=(v9 k3 (vm P) o).length_eq
    refine#[a,b,y,rfl,rfl,k2,by have:=q.1;lia,λus nu pu=>?_]
    obtain⟨c2,s2⟩:=k6 (Fa y (A.get g).l) us nu (λk=>by
      rw[pu.mem_iff,BH]
      split
      · rename_i hy
        rw[o]
        exact#[.inr,λz=>z.elim (λe=>by rw[e];exact(o y).mp hy) id]
      · rw[ii, o]) (Dn P)
    exact kn _ M u _ L q.2 (Ch.trans s m.tab c c2) s2<|Ag.refl _ _
  · refine e1a2 (wp (PO := PO) m) λG j p => ?_
    exact ke C y _ G u N q (c.less j) p
set_option tactic.hygienic true in
def Tu(i:Nat)(W:X.w=w)[Sls B][A:At i D (SI w) B][U:Pt i B (SI w) D][J:Pj D PO n](h:EW X E T e Y)
 (Z:∀{t:TA},PA X [e] t->PS X (.Expr (.Call (.Attribute (.Name x p1) "discard" p2) [e] [] p3) pos) (HX<|WA X.w (λx vs H Q=>∃(a:gH)(f:List Int)(k:Int),x=.ref a/\vs=[.int k]/\H a=↑(wS X.w a f)/\∀b:List Int,b.Nodup->(if k∈f then f.Perm (k::b) else b=f)->Q .wm (upd H a<|wS X.w a b)) (vr i) t)) (hs:gJ [e] X.env=58::gJ [] X.env:=by rfl) :
    S1 X E T ms n (.Expr (.Call (.Attribute (.Name x p1) "discard" p2) [e] [] p3) pos) (cS Y J.pj λ(I:D->Prop)(Kr:τ->PO->Prop) y g=>I<|U.put (A.hole g) #[Kd y (A.get g).l]):=by
  subst W
  refine e1a2 h λt h1 h2=>?_
  refine#[_,Z<|uS h1 u4 hs,λd F R L H I Kr Ke En s hw kn kr ke=>?_]
  refine e2a4 (Do (i:=i) s) λa f j p g3 _=>?_
  refine#[_,j,#[a,f,rfl,p],h2 d F R L H _ _ _ s hw (λy g v M u N q c m r=>?_) λC y g M u N q c m=>?_]
  · obtain⟨a', b, O, k2, k3, k4, k5, k6⟩ := Do (i := i) m
    rw[j]at O
    cases O
    subst r
    refine#[a,b,y,rfl,rfl,k2,λP nu o=>?_]
    obtain⟨c2,s2⟩:=k6 (Kd y (A.get g).l) P nu (λk=>by
      rw[zV,<- k4]
      split at o
      · rename_i S
        have nk:y∉P:=(List.nodup_cons.mp<|o.nodup_iff.mp k3).1
        rw[o.mem_iff,ii]
        exact#[λz=>#[.inr z,λe=>nk<|by rw[<- e];exact z],λz=>z.1.elim (λe=>g8 e z.2) id]
      · rename_i S
        rw[o]
        exact#[λz=>#[z,λe=>S (by rw[<- e];exact z)],λz=>z.1]) (jK _ k5)
    exact kn _ M u _ L q (Ch.trans s m.tab c c2) s2<|Ag.refl _ _
  · refine e1a2 (wp (PO := PO) m) λG j p => ?_
    exact ke C y _ G u N q (c.less j) p
def Kf(i:Nat)(j:X.w=w)[Sls k][A:At i D (SI w) k](m:X.calm=true)(n:Gl X "sorted")(o:X.mg "sorted"=none)(q:PE X (.Name x r) (vr i)) :
  EO X E T (.Call (.Name "sorted" p) [.Name x r] [] pos) (λ(d:D)(b:OL Int->D->Prop) _=>(A.get d).l.length<64/\b #[(A.get d).l] d):=by
 subst j;refine#[_,ww (Bw m) n o kd<|uS q u4,λd F R N H b O Q s c t P=>?_];obtain⟨v,S,U,u,W,⟨a,e,rfl,Y,y,f,g,h⟩,Z⟩:=A.take s.rel;have z:e.length=(A.get d).l.length:=(v9 f (vm h) g).length_eq;refine#[_,u,a,e,rfl,y,by have:=c.1;omega,λl ns B C G=>?_];rw[DZ C G,Eg f g h];refine e1a3 (xk s B<|xH (R:=R) (H:=H) (A.get d).l) λI J L M=>?_;exact t _ d _ _ F I _ c.2 J L M
def Gx{K:gG}{xs:List α}{vs:List V}:XX (Itt K a) xs (λR H=>H a=↑(.tup vs)/\Paired (rp R H) xs vs) where
 go:=λ{R H i} p h=>by refine e1a2 (wE (i:=i) (x:=xs[i]) p.2<|by simp[h]) λv e _=>?_;exact#[vs,v,yI.of p.1,e]
 HJ:=λ{R H i v H'} p _ hi y=>by obtain⟨e,y⟩:=y;subst e;have y':=y vs<|yI.of p.1;refine e1a2 (wE (i:=i) (x:=xs[i]) p.2<|by simp[hi]) λu e r=>?_;rw[y']at e;cases e;exact#[.inl rfl,_,by simp[hi],r]
 stop:=λ{R H} p=>#[vs,yI.of p.1,by rw[Paired.length p.2];exact gK _]
def PY{w:Wf D (Tp α) D}(h:EW X E T e w):IW X E T is tg e (λ(b:D)(_:List α)=>b) (cK w λKn x d'=>Kn x.l d'):=by refine e1a2 h λt h1 h2=>?_;refine#[_,V2 h1,λd F R σ H Kn Ke Rk s hw kn ke=>h2 d F R σ H _ _ _ s hw (λxs d' v F' R' H' q c s' r=>?_) ke];obtain⟨a,vs,rfl,r1,r2,r3⟩:=r;refine#[a,rfl,#[vs,yI.of r2],kn xs.l d' _ (λR H=>(H a=↑(.tup vs)/\Paired (rp R H) xs.l vs)/\¬R a) F' (λ_=>False) F' R' H' q c s'.Ny (two_nil F') s'.rel #[λp=>Gx.go p.1,λp=>Gx.HJ p.1,λp=>Gx.stop p.1] #[#[r2,r3],r1] (λp gs nf ex=>?_) λb' G2 Vp Jq Py σ' p h g t=>Sls.fq h<|two_eq t λ_ z=>z];have na:¬_:=λz=>p.2<|gs a z;exact#[#[ex.keep a _ na p.1.1,vT (ex.wide gs) p.1.2],ex.not p.2 p.1.1]
def Eh{a:ic}{C:gH}[Sls c][J:Pj D PO n](e:PS X a (Po C E<|AN (tC x) A1)):S1 X E T j n a (λ(d:D)(_:c->Prop)(_:τ->PO->Prop) b=>b C<|J.pj d):=by refine⟨_,e,λd F R k H l m b o s f p q g=>#[(by show 1<=gL;decide),λy=>?_]⟩;refine e1a2 (wp (PO:=PO) s) λG h i=>?_;exact g C y _ G R H f ((53).less h) i
end
def xR(l:List Int):Prop:=l.Pairwise (· < ·)
noncomputable def asc(a:List Int):Bool:=zf a<|a.drop 1
def Y4(b:List c):C8 b ↑1 none=b.drop 1:=by
 unfold C8;rw[HT.DJ,show ↑(1:Int)=some ((1:Nat):Int) from rfl,HT.F8]
 cases b with
 |nil=>rfl
 |cons a r =>
  rw[show min 1 (a::r).length=1 by simp,jc];rw[kM];exact gK _
def PZ{a b:Int}:asc (a::b::r)=(decide (a<b)&&asc (b::r)):=rfl
def AB:∀(c:List Int),asc c=true↔xR c
 | []=>#[λ_=>il,λ_=>rfl]
 | [a]=>#[λ_=>jT _ _,λ_=>rfl]
 |a::b::r=>by
  rw[PZ,iw,iF,AB (b::r)];constructor
  ·rintro⟨d,f⟩;refine List.pairwise_cons.mpr #[λx g=>?_,f];rcases List.mem_cons.mp g with e|e
   ·rw[e];exact d
   ·exact Int.lt_trans d<|(List.pairwise_cons.mp f).1 x e
  ·intro h;exact#[(List.pairwise_cons.mp h).1 b gM,(List.pairwise_cons.mp h).2]
def Gy(a:xR b)(c:xR d)(h:∀k,k∈b↔k∈d):b=d:=yh (v9 (vm a) (vm c) h) (L9 a)<|L9 c
noncomputable def Kg(l:List Int)(k:Int):List Int:=if k∈l then Kd k l else Fa k l
def Ma{k:Int}(h:xR l):xR (Kg l k):=by
 unfold Kg;split
 ·exact jK _ h
 ·exact Dn h
set_option tactic.hygienic true in
def Tv{k x:Int}:x∈Kg l k↔((x∈l)↔¬x=k):=by
 unfold Kg;split
 ·rename_i h
  rw[zV];constructor
  ·intro⟨a,b⟩;exact#[λ_=>b,λ_=>a]
  ·intro z;by_cases e:x=k
   ·rw[e]at z;exact g8 (z.mp h) q0o
   ·exact#[z.mpr e,e]
 ·rename_i h
  rw[BH];constructor
  ·rintro(a|a)
   ·subst a;exact#[λz=>g8 z h,λz=>g8 rfl z]
   ·exact#[λ_ e=>h (by rw[<- e];exact a),λ_=>a]
  ·intro z;by_cases e:x=k
   ·exact .inl e
   ·exact .inr<|z.mpr e
noncomputable def xr(l r:List Int):List Int:=r.foldl Kg l
def zW:∀{r l:List Int},xR l->xR (xr l r)
 | [],_,h=>h
 |_::r,_,h=>zW (r:=r)<|Ma h
def A9:∀{r l:List Int} {x:Int},r.Nodup->(x∈xr l r↔((x∈l)↔¬x∈r))
 | [],l,x,_=>by simp[xr]
 |k::r,l,x,h=>by
  have a:=List.nodup_cons.mp h;show x∈xr (Kg l k) r↔_;rw[A9 a.2,Tv,ii];by_cases e:x=k
  ·subst e;simp[a.1]
  ·simp[e]
def P0{r:List Int}{x:Int}(a:r.Nodup)(h:x∈xr l r):x∈l\/x∈r:=by
 rw[A9 a]at h;by_cases q:x∈r
 ·exact .inr q
 ·exact .inl<|h.mpr q
noncomputable def Og(a:List (List Int)):List Int:=a.foldl xr []
def BI:∀{rows:List (List Int)} {l:List Int},xR l->xR (rows.foldl xr l)
 | [],_,h=>h
 |_::r,_,h=>BI (rows:=r)<|zW h
def Tw(a:List (List Int)):xR (Og a):=BI il
def wq{l U:List Int}(h:xR l)(s:∀x∈l,x∈U):l.length<=U.length:=SX.yM _ _ (vm h) s
noncomputable def jn(a b:List Int):List Int:=CM<|a.filter (λk=>!decide (k∈b))++b.filter λk=>!decide (k∈a)
def Gz{k:Int}:k∈jn a b↔(k∈a/\k∉b)\/(k∈b/\k∉a):=by unfold jn;rw[AA,l6,jl,jl];simp
def GB(c:xR d)(f:xR g):xR (jn d g):=by refine Vw (Aw _)<|(wF _).nodup_iff.mpr<|List.nodup_append.mpr ⟨jK _<|vm c,jK _<|vm f,λa h b i e=>?_⟩;subst e;have j:=(List.mem_filter.mp h).1;have k:=(List.mem_filter.mp i).2;simp[j]at k
def Vx(e:xR c)(f:xR d):jn c d=xr c d:=Gy (GB e f) (zW e) λk=>by rw[Gz,A9<|vm f];by_cases a:k∈c<;>by_cases b:k∈d<;>simp[a,b]
def vV:∀{a:List k} {K:List g->S->Prop},(∀x∈a,∀K:Option g->S->Prop,K (f x) s->b x s K)->K (a.filterMap f) s->BG b a s K:=by
 intro i
 induction i with
 |nil=>intro _ _ h;exact h
 |cons x a c =>
  intro K d h;refine d x gM _<|c (λy j=>d y<|gQ _ j) ?_
  have e:(x::a).filterMap f=(f x).toList++a.filterMap f:=by rw[kE];cases f x<;>rfl
  rw[e]at h;exact h
def filterMap_filter(p:b->Bool):∀a:List b,a.filterMap (λx=>if p x=true then some x else none)=a.filter p
 | []=>rfl
 |x::a=>by rw[kE,jm,filterMap_filter p a];cases p x<;>rfl
def vy(I:List j->B->Prop):∀(a:List j) {s:B},I a s->(∀x r s,(∃p,a=p++x::r)->I (x::r) s->∀K:B->Prop,(∀c,I r c->K c)->b x s K k l)->(∀s,I [] s->m s)->Gv b a s m k l:=by
 intro d
 induction d with
 |nil=>intro s h _ f;exact f s h
 |cons x a g=>intro s h i f;exact i x a s #[[],rfl] h _ λc n=>g n (λy r o d=>e1a1 d λp e q=>i y r o #[x::p,by rw[e];rfl] q) f
def vM{n:Nat}(h:n<=1000):n<=gL:=lM<|Nf h
structure Bd(C:gH)(fl:Bool) where
 rk:List (Int×Int)
 bd:List 85
 up:Int
 ht:List (Int×Int)
 th:List (Int×Int)
noncomputable def lk{a:Type}(l:List (Int×a))(k:Int):Option a:=(l.find? λe=>decide<|e.1=k).map (·.2)
noncomputable def Bf(l:List (Int×Int)):List (Key×V):=l.map λe=>(ie e.1,V.int e.2)
def BJ(R:Rg)(H:Hp):List 85->List (Key×V)->Prop:=Paired λe u=>u.1=ie e.1/\rp R H (Tp.mk e.2) u.2
noncomputable def yq(a b c d:gH)(e:Int)(f:Bool):List (Str×V):=("ranks",.ref a)::("borders",.ref b)::("upcoming",.int e)::(if f=true then [("head_by_tail",.ref c),("tail_by_head",.ref d)] else [])
noncomputable def adr(p dx d1 d2 d3 d4:gH)(fl:Bool):List gH:=p::dx::d1::d2::(if fl=true then [d3,d4] else [])
structure Ei(C:gH)(fl:Bool)(R:Rg)(H:Hp)(x:Bd C fl)(p dx d1 d2 d3 d4:gH)(us:List (Key×V)):Prop where
 nd:(adr p dx d1 d2 d3 d4 fl).Nodup
 ob:H p=↑(.ins C dx<|yq d1 d2 d3 d4 x.up fl)
 ow:H dx=↑(.own p)
 rk:H d1=↑(.dK<|Bf x.rk)
 bd:H d2=↑(.dK us)
 tu:BJ R H x.bd us
 ht:fl=true->H d3=↑(.dK<|Bf x.ht)
 th:fl=true->H d4=↑(.dK<|Bf x.th)
def Dr{R R':Rg}{H H':Hp}(e:Ext R R H R' H'):∀{l:List 85} {us:List (Key×V)},BJ R H l us->BJ R' H' l us:=by
 intro _ _ z
 induction z with
 |nil=>exact .nil
 |cons h t ih=>exact .cons #[h.1,Rep.st h.2 e] ih
def Ei.st{C:gH}{fl:Bool}{G R R':Rg}{H H':Hp}{x:Bd C fl}{p dx d1 d2 d3 d4:gH}{us:List (Key×V)}(b:Ei C fl R H x p dx d1 d2 d3 d4 us)(e:Ext G R H R' H')(s:∀a,G a->R a)(n:∀a,a∈adr p dx d1 d2 d3 d4 fl->¬G a):Ei C fl R' H' x p dx d1 d2 d3 d4 us :=
 #[b.nd,e.keep _ _ (n _<|by simp[adr]) b.ob,e.keep _ _ (n _<|by simp[adr]) b.ow,e.keep _ _ (n _<|by simp[adr]) b.rk,e.keep _ _ (n _<|by simp[adr]) b.bd,Dr (e.wide s) b.tu,λh=>e.keep _ _ (n _<|by simp[adr,h])<|b.ht h,λh=>e.keep _ _ (n _<|by simp[adr,h])<|b.th h]
instance(C:gH)(fl:Bool):Ow (Bd C fl):=#[λF R H x v=>∃p dx d1 d2 d3 d4 us,v=↑(.ref p)/\(∀b,F b↔b∈adr p dx d1 d2 d3 d4 fl)/\Ei C fl R H x p dx d1 d2 d3 d4 us,
 λh e s n=>by
  obtain⟨p,dx,d1,d2,d3,d4,us,h1,h2,h3⟩:=h
  exact#[p,dx,d1,d2,d3,d4,us,h1,h2,h3.st e s λa z=>n a<|(h2 a).mpr z],
 λh e=>by
  obtain⟨p,dx,d1,d2,d3,d4,us,h1,h2,h3⟩:=h
  exact#[p,dx,d1,d2,d3,d4,us,h1,λb=>(e b).symm.trans (h2 b),h3]]
instance(C:gH)(fl:Bool):Hs (Bd C fl):=#[λz9=>e7a2 z9 λ_ _ _ _ _ _ _ h _=>#[_,h]]
def IB{R L:Rg}{H:Hp}(k:∀a,L a->∃b,H a=↑(.lst b)):∀{l:List 85} {b:List (Key×V)},BJ R H l b->BJ (λa=>R a\/L a) H l b
 |_,_,.nil=>.nil
 |_,_,.cons h t=>.cons #[h.1,J7.no h.2 k]<|IB k t
instance(C:gH)(fl:Bool):Tf (Bd C fl):=#[λ{F R L H x v} h k=>by
 obtain⟨p,dx,d1,d2,d3,d4,us,h1,h2,b⟩:=h
 exact#[p,dx,d1,d2,d3,d4,us,h1,h2,b.nd,b.ob,b.ow,b.rk,b.bd,IB k b.tu,b.ht,b.th]]
structure AK(K:gG)(C:gH):Prop where
 cl:AI K C
 nR:vJ K C "ranks"
 nB:vJ K C "borders"
 nU:vJ K C "upcoming"
structure P1(K:gG)(C:gH):Prop where
 nH:vJ K C "head_by_tail"
 nT:vJ K C "tail_by_head"
def yf(k:Int):∀l:List (Int×Int),yb (Bf l) (ie k)=(lk l k).map V.int
 | []=>rfl
 |e::l=>by
  by_cases h:e.1=k
  ·show yb ((ie e.1,V.int e.2)::Bf l) _=_;rw[yK<|by rw[h]];unfold lk;rw[iK,decide_eq_true h];rfl
  ·show yb ((ie e.1,V.int e.2)::Bf l) _=_;rw[yL (by intro z;exact h<|nj z),yf k l];unfold lk;rw[iK,ij h]
def Ej{R:Rg}{H:Hp}{k:Int}:∀{l:List 85} {us:List (Key×V)},BJ R H l us->(∀b,lk l k=↑b->∃v,yb us (ie k)=↑v/\rp R H (Tp.mk b) v)/\(lk l k=none->yb us (ie k)=none):=by
 intro z0 z1 z9
 induction z9 with
 |nil=>exact#[(λb h=>by cases h),λ_=>rfl]
 | @cons e u l us h t W0 =>
  obtain⟨i1,i2⟩:=W0;by_cases q:e.1=k
  ·have e1:lk (e::l) k=↑e.2:=by unfold lk;rw[iK,decide_eq_true q];rfl
   rw[e1];refine#[λb hb=>?_,(λz=>by cases z)];cases hb;exact#[u.2,yK (by rw[h.1,q]),h.2]
  ·have e1:lk (e::l) k=lk l k:=by unfold lk;rw[iK,ij q]
   rw[e1,yL<|by rw[h.1];intro z;exact q<|nj z];exact#[i1,i2]
noncomputable def pk{a:Type}(l:List (Int×a))(k:Int)(v:a):List (Int×a):=if (lk l k).isSome then l.map (λe=>if e.1=k then (e.1,v) else e) else l++[(k,v)]
noncomputable def dk{a:Type}(l:List (Int×a))(k:Int):List (Int×a):=l.filter λe=>decide<|e.1≠k
def Tx(l:List (Int×Int))(k v:Int):putK (Bf l) (ie k) (V.int v)=Bf (pk l k v):=by
 unfold putK pk;rw[zM,yf,iH]
 cases (lk l k).isSome with
 |true =>
  rw[gI rfl,gI rfl];unfold Bf;rw[j5,j5];refine lU λe _=>?_;show (if (ie e.1:Key)=ie k then _ else _)=(λe:Int×Int=>((ie e.1:Key),V.int e.2)) (if e.1=k then (e.1,v) else e);by_cases h:e.1=k
  ·rw[gI (by rw[h]),gI h]
  ·rw[cr<|λz=>h<|nj z,cr h]
 |false =>
  rw[cr gV,cr gV];unfold Bf;rw[jV];rfl
def IC(l:List (Int×Int))(k:Int):zL (Bf l) (ie k)=Bf (dk l k):=by
 unfold zL dk Bf;rw[qT];congr 1;refine n8 λe _=>?_;by_cases h:e.1=k
 ·simp[h]
 ·simp[h]
def IE{R:Rg}{H:Hp}{k:Int}{b:List Int}{v:V}(h:rp R H (Tp.mk b) v):∀{l:List 85} {us:List (Key×V)},BJ R H l us->BJ R H (l++[(k,b)]) (us++[(ie k,v)])
 |_,_,.nil=>.cons #[rfl,h] .nil
 |_,_,.cons q t=>.cons q<|IE h t
def P2{R:Rg}{H:Hp}{l:List 85}{us:List (Key×V)}{k:Int}{b:List Int}{v:V}(t:BJ R H l us)(hn:lk l k=none)(h:rp R H (Tp.mk b) v):BJ R H (pk l k b) (putK us (ie k) v):=by unfold pk;rw[hn,OP _<|(Ej t).2 hn];exact IE h t
def NB{R:Rg}{H:Hp}{k:Int}:∀{l:List 85} {us:List (Key×V)},BJ R H l us->BJ R H (dk l k) (zL us<|ie k):=by
 intro z0 z1 z9
 induction z9 with
 |nil=>exact .nil
 | @cons e u l us h t W0 =>
  have ih:=W0;unfold dk zL at ih ⊢;rw[jm,jm];by_cases q:e.1=k
  ·rw[cr (by simpa using q),cr<|by rw[h.1];simpa using q];exact ih
  ·rw[gI (by simpa using q),gI<|by rw[h.1];simpa using q];exact .cons h ih
inductive ID where
 | rk|ht|th
noncomputable abbrev ID.nm:ID->Str
 | .rk=>"ranks" | .ht=>"head_by_tail" | .th=>"tail_by_head"
noncomputable abbrev ID.get{C:gH}{a:Bool}:ID->Bd C a->List (Int×Int)
 | .rk,x=>x.rk|.ht,x=>x.ht|.th,x=>x.th
noncomputable abbrev ID.set{C:gH}{a:Bool}:ID->Bd C a->List (Int×Int)->Bd C a
 | .rk,x,l=>{ x with rk:=l}|.ht,x,l=>{ x with ht:=l}|.th,x,l=>{ x with th:=l}
def ID.ok:ID->Bool->Prop
 | .rk,_=>True|.ht,fl=>fl=true|.th,fl=>fl=true
def nd4(h:(a::b::c::d::r).Nodup):(a≠b/\a≠c/\a≠d/\∀x∈r,a≠x)/\(b≠c/\b≠d/\∀x∈r,b≠x)/\(c≠d/\∀x∈r,c≠x)/\(∀x∈r,d≠x)/\r.Nodup:=by have g:=List.nodup_cons.mp h;have i:=List.nodup_cons.mp g.2;have j:=List.nodup_cons.mp i.2;have k:=List.nodup_cons.mp j.2;simp only[ii,pY]at g i j;exact#[#[g.1.1,g.1.2.1,g.1.2.2.1,λx f e=>g.1.2.2.2<|by rw[e];exact f],⟨i.1.1,i.1.2.1,λx f e=>i.1.2.2<|by rw[e];exact f⟩,⟨j.1.1,λx f e=>j.1.2<|by rw[e];exact f⟩,λx f e=>k.1 (by rw[e];exact f),k.2]
def zX(b:Ei C k R H x p s l m g i t)(q:ID)(u:q.ok k):∃d,(yq l m g i x.up k).lookup q.nm=↑(.ref d)/\H d=↑(.dK<|Bf<|q.get x)/\d∈adr p s l m g i k /\
  ∀j,R d->Ei C k R (upd H d<|.dK<|Bf j) (q.set x j) p s l m g i t:=by
 have f:=nd4 b.nd;have n:∀d j,R d->BJ R (upd H d<|.dK<|Bf j) x.bd t:=λd j h=>Dr ((zi (F:=R) (R:=R) (H:=H) (a:=d) (o:=.dK<|Bf j)).wide λc z=>by rw[z];exact h) b.tu
 cases q with
 |rk =>
  refine#[l,rfl,b.rk,by simp[adr],λj h=>#[b.nd,by rw[uL f.1.2.1];exact b.ob,by rw[uL f.2.1.1];exact b.ow,uO,by rw[uL f.2.2.1.1.symm];exact b.bd,n _ _ h,λz=>?_,λz=>?_]]
  ·rw[uL (f.2.2.1.2 g<|by rw[gI z];simp).symm];exact b.ht z
  ·rw[uL (f.2.2.1.2 i<|by rw[gI z];simp).symm];exact b.th z
 |ht =>
  have z:k=true:=u;subst z;have r:=List.nodup_cons.mp f.2.2.2.2;refine#[g,rfl,b.ht rfl,by simp[adr],λj h=>#[b.nd,by rw[uL<|f.1.2.2.2 g q0o];exact b.ob,by rw[uL<|f.2.1.2.2 g q0o];exact b.ow,by rw[uL<|f.2.2.1.2 g q0o];exact b.rk,by rw[uL<|f.2.2.2.1 g q0o];exact b.bd,n _ _ h,λ_=>uO,λ_=>?_]];rw[uL<|λe=>r.1<|by rw[<- e];simp];exact b.th rfl
 |th =>
  have z:k=true:=u;subst z;have r:=List.nodup_cons.mp f.2.2.2.2;refine#[i,rfl,b.th rfl,by simp[adr],λj h=>#[b.nd,by rw[uL<|f.1.2.2.2 i q0o];exact b.ob,by rw[uL<|f.2.1.2.2 i q0o];exact b.ow,by rw[uL<|f.2.2.1.2 i q0o];exact b.rk,by rw[uL<|f.2.2.2.1 i q0o];exact b.bd,n _ _ h,λ_=>?_,λ_=>uO]];rw[uL<|λe=>r.1<|by rw[e];simp];exact b.ht rfl
section
variable{D PO τ:Type}[Sls D][Sls PO][Ow τ]
def wd{i:Nat}[Sls J][A:At i D (Bd C r) J](s:vQ T F R H d L):∃p f g j l m B,L[i]?=↑(some<|.ref p)/\Ei C r R H (A.get d) p f g j l m B/\(∀a∈adr p f g j l m r,R a) /\
  ∀{U:Pt i J (Bd C r) D} {a:gH} {o:HO} {E:Bd C r} {w:List (Key×V)},a∈adr p f g j l m r->Ei C r R (upd H a o) E p f g j l m w->Ch T F R H F R (upd H a o)/\vQ T F R (upd H a o) (U.put (A.hole d) E) L:=by
 obtain⟨v,X,Y,M,G,⟨p,f,g,j,l,m,B,rfl,I,N⟩,O⟩:=A.take s.rel;have x:∀a∈adr p f g j l m r,F a:=λa h=>(G.all a).mpr<|.inl<|(I a).mpr h;refine⟨p,f,g,j,l,m,B,M,N,λa h=>s.sub a<|x a h,λ{U a o E w} y P=>?_⟩;have Q:=zi (F:=F) (R:=R) (H:=H) (a:=a) (o:=o);have S:∀c,c=a->R c:=λc z=>by rw[z];exact s.sub a<|x a y
 have k:∀b u,b≠a->H b=↑u->upd H a o b=↑u:=λb u z e=>by rw[uL z];exact e
 refine#[#[λb o n _ e=>k b o (λz=>n<|by rw[z];exact x a y) e,λ_ h=>.inl h,λ_ h=>.inl h,λ_ h _=>h],Pt.same (A:=U) (Sls.st O Q S λc z q=>G.xZ c ((I c).mpr<|by rw[q];exact y) z) M G ⟨p,f,g,j,l,m,w,rfl,I,P⟩,s.sub,λc z=>?_,?_,s.vG,s.vv]
 ·by_cases e:c=a
  ·rw[e,uO];simp
  ·rw[uL e];exact s.wT c z
 ·refine e1a2 s.tab λW e t=>?_;exact#[W,k _ _ (λz=>s.vv<|by rw[z];exact x a y) e,t]
def Ki(q:ID)(b:Bool)(i:Nat)[Sls U][A:At i D (Bd C W) U](Y:q.ok W)(Z:AI X.K C)(nf:vJ X.K C q.nm)(G:X.A.units+1<ky)(hk:EW X E T a wk)(I:PE X (.Name x l) (vr i))(J:iA (.Name x l) q.nm X.env (eval (.Name x l) X.env)=eval (.Name x l) X.env:=by rfl)
 (L:iN (if b then .NotIn else .In) (.Attribute (.Name x l) q.nm p2)=false:=by with_unfolding_all rfl):EW X E T (.Compare a [if b then .NotIn else .In] [.Attribute (.Name x l) q.nm p2] pos) (cK wk λ(n:Bool->D->Prop) k c=>n (if b then !(lk (q.get<|A.get c) k).isSome else (lk (q.get<|A.get c) k).isSome) c):=by
  refine e1a2 hk λta M N=>?_
  have O:∀{c:D} {h j:Rg} {e:Hp} {f:St} {k:Int} {Q:VK},vQ T h j e c f->Q (.bl<|if b then !(lk (q.get<|A.get c) k).isSome else (lk (q.get<|A.get c) k).isSome) e->V9 X.K (vr i) q.nm f e λy P=>∃a o,y=.ref a/\xS P a (.int k) o/\Q (.bl<|if b then !o.isSome else o.isSome) P:=λ{c h j e f k Q} g m=>by
    obtain⟨p,dx,e1,e2,e3,e4,us,g1,S,_,_⟩:=wd (i:=i) g
    refine e1a4 (zX S q Y) λd l1 l2 _ _=>?_
    refine#[_,g1,p,C,dx,_,_,rfl,S.ob,Z,nf,l1,d,_,rfl,xS.k (k:=ie k) l2,?_]
    rw[yf,iH]
    exact m
  cases b with
  |false=>exact#[_,Oi (OS G M (wD I J)) L,λd F R f H n r Q s t m v=>N d F R f H _ r _ s t (λk c u h j e w z g B=>by
      subst B
      exact O g (m _ c _ h j e w z g rfl)) v]
  |true=>exact#[_,Oi (Cc G M (wD I J)) L,λd F R f H n r Q s t m v=>N d F R f H _ r _ s t (λk c u h j e w z g B=>by
      subst B
      exact O g (m _ c _ h j e w z g rfl)) v]
def tw_dIn(q:ID)(b:Bool)(i:Nat)[Sls W][A:At i D (Bd C Y) W](Z:q.ok Y)(cl:AI X.K C)(nf:vJ X.K C q.nm)(I:X.A.units+1<ky)(hk:EW X E T a wk)(J:PE X (.Name x m) (vr i))(L:iA (.Name x m) q.nm X.env (eval (.Name x m) X.env)=eval (.Name x m) X.env:=by rfl)
 (M:iN (if b then .NotIn else .In) (.Attribute (.Name x m) q.nm p2)=false:=by with_unfolding_all rfl):TW X E T (.Compare a [if b then .NotIn else .In] [.Attribute (.Name x m) q.nm p2] pos) (cK wk λ(r:Bool->D->Prop) k e=>r (if b then !(lk (q.get<|A.get e) k).isSome else (lk (q.get<|A.get e) k).isSome) e):=by
  refine e1a2 hk λta N O=>?_
  have P:∀{e:D} {j l:Rg} {f:Hp} {g:St} {k:Int} {Q:VK},vQ T j l f e g->Q (.bl<|if b then !(lk (q.get<|A.get e) k).isSome else (lk (q.get<|A.get e) k).isSome) f->V9 X.K (vr i) q.nm g f λy S=>∃a o,y=.ref a/\xS S a (.int k) o/\Q (.bl<|if b then !o.isSome else o.isSome) S:=λ{e j l f g k Q} h n=>by
    obtain⟨p,dx,e1,e2,e3,e4,us,g1,U,_,_⟩:=wd (i:=i) h
    refine e1a4 (zX U q Z) λd l1 l2 _ _=>?_
    refine#[_,g1,p,C,dx,_,_,rfl,U.ob,cl,nf,l1,d,_,rfl,xS.k (k:=ie k) l2,?_]
    rw[yf,iH]
    exact n
  cases b with
  |false=>exact#[_,Jx (OS I N (wD J L)) M,λd F R g H r t Q s v n w=>O d F R g H _ t _ s v (λk e u j l f z B h G=>by
      subst G
      exact P (Q:=λy H=>∃c,y=.bl c/\Q c H) h #[_,rfl,n _ e j l f z B h]) w]
  |true=>exact#[_,Jx (Cc I N (wD J L)) M,λd F R g H r t Q s v n w=>O d F R g H _ t _ s v (λk e u j l f z B h G=>by
      subst G
      exact P (Q:=λy H=>∃c,y=.bl c/\Q c H) h #[_,rfl,n _ e j l f z B h]) w]
def EV(X:Cx)(T:gH)(e:iD){D α:Type}[Sls D][Rep α](f:D->α):Prop :=
 ∃t,PE X e t/\∀(d:D)(F R:Rg)(σ:St)(H:Hp)(Q:VK),vQ T F R H d σ->(∀v,rp R H (f d) v->Q v H)->t σ H Q
def vW[Rep a][Sls b](i:Nat)[A:At i D a b](c:PE X (.Name y pos) (vr i)):EV X T (.Name y pos) (λ(d:D)=>A.get d):=by refine#[_,c,λd F R h H Q s e=>?_];obtain⟨v,j,k,f,l,⟨_,u,rfl,g⟩,_⟩:=A.take s.rel;exact#[u,f,e u g]
def P4{m:Int}{k:Nat}:EV X T (.Constant (.int m) k pos) (λ(_:D)=>m):=#[_,vk,λd F R b H Q s a=>a _ rfl]
def Ds(q:ID)(i:Nat)[Sls h][A:At i D (Bd C j) h](l:q.ok j)(m:AI X.K C)(n:vJ X.K C q.nm)(o:X.A.units+1<ky)(t:PE X (.Name x b) (vr i))(u:EV X T a f)(w:iA (.Name x b) q.nm X.env (eval (.Name x b) X.env)=eval (.Name x b) X.env:=by rfl)(B:OQ a:=by intro _ _;rfl) :
  EW X E T (.Subscript (.Attribute (.Name x b) q.nm Y) a pos) (λ(d:D)(c:Int->D->Prop) _=>∃v,lk 78 (f d)=↑v/\c v d):=by
 refine e1a2 u λZ G I=>?_;refine#[_,Gb o (wD t w) G B,λd F R J H c Ke Q s L M ke=>?_];obtain⟨p,N,e1,e2,e3,e4,us,O,e,_,_⟩:=wd (i:=i) s;refine e1a4 (zX e q l) λy P S _ _=>?_;refine#[_,O,p,C,N,_,_,rfl,e.ob,m,n,P,I d F R J H _ s λv r=>?_];subst r;refine e1a2 L λz U W=>?_;have g:=xS.k (k:=ie<|f d) S;rw[yf,U]at g;exact#[y,_,rfl,g,M z d _ F R H W 53 s rfl]
def AC(i:Nat)[Sls h][A:At i D (Bd C U) h](j:AI X.K C)(l:vJ X.K C "borders")(m:X.A.units+1<ky)(n:PE X (.Name x b) (vr i))(o:EV X T a f)(q:iA (.Name x b) "borders" X.env (eval (.Name x b) X.env)=eval (.Name x b) X.env:=by rfl)(t:OQ a:=by intro _ _;rfl) :
  EW X E T (.Subscript (.Attribute (.Name x b) "borders" W) a pos) (λ(d:D)(e:Tp Int->D->Prop) _=>∃v,lk (A.get d).bd (f d)=↑v/\e #[v] d):=by
 refine e1a2 o λY u y=>?_;refine#[_,Gb m (wD n q) u t,λd F R B H e Z Q s G I ke=>?_];obtain⟨p,J,e1,L,e3,e4,us,M,c,_,_⟩:=wd (i:=i) s;refine#[_,M,p,C,J,_,_,rfl,c.ob,j,l,rfl,y d F R B H _ s λv r=>?_];subst r;refine e1a2 G λz N O=>?_;refine e1a2 ((Ej c.tu).1 z N) λw P S=>?_;have g:=xS.k (k:=ie<|f d) c.bd;rw[P]at g;exact#[L,w,rfl,g,I #[z] d _ F R H O 53 s S]
def Tz(q:ID)(i:Nat)[Sls g][A:At i D (Bd C h) g](j:q.ok h)(k:AI X.K C)(l:vJ X.K C q.nm)(m:Gl X "len")(n:X.mg "len"=none)(o:PE X (.Name x a) (vr i))(r:iA (.Name x a) q.nm X.env (eval (.Name x a) X.env)=eval (.Name x a) X.env:=by rfl)
 (b:gJ [.Attribute (.Name x a) q.nm c] X.env=(false,eval (.Attribute (.Name x a) q.nm c) X.env)::gJ [] X.env:=by rfl) :
    EW X E T (.Call (.Name "len" G) [.Attribute (.Name x a) q.nm c] [] pos) (λ(d:D)(e:Int->D->Prop) _=>e ((78).length:Int) d):=by
  refine#[_,ww Ng m n mo (uS (wD o r) u4 b) (he:=b),λd F R I H e J Q s t u L=>?_]
  obtain⟨p,v,M,N,O,P,S,w,f,_,_⟩:=wd (i:=i) s
  refine e1a4 (zX f q j) λy z B _ _=>?_
  refine#[_,w,p,C,v,_,_,rfl,f.ob,k,l,z,y,_,rfl,B,u _ d _ F R H t 53 s ?_]
  show V.int _=V.int _
  unfold Bf
  rw[gN]
def Ek(q:ID)(i:Nat)[Sls h][A:At i D (Bd C j) h](k:q.ok j)(m:AI X.K C)(n:vJ X.K C q.nm)(o:X.calm=true)(r:Gl X "sorted")(t:X.mg "sorted"=none)(u:PE X (.Name x a) (vr i))(v:iA (.Name x a) q.nm X.env (eval (.Name x a) X.env)=eval (.Name x a) X.env:=by rfl)
 (b:gJ [.Attribute (.Name x a) q.nm c] X.env=(false,eval (.Attribute (.Name x a) q.nm c) X.env)::gJ [] X.env:=by rfl) :
    EO X E T (.Call (.Name "sorted" U) [.Attribute (.Name x a) q.nm c] [] pos) (λ(d:D)(e:OL Int->D->Prop) _=>(78).length<64/\e #[CM ((78).map (·.1))] d):=by
  refine#[_,ww (Gp o) r t kd (uS (wD u v) u4 b) (he:=b),λd F R W H e Y Q s f w Z=>?_]
  obtain⟨p,z,e1,e2,e3,e4,us,B,g,_,_⟩:=wd (i:=i) s
  refine e1a4 (zX g q k) λy G I _ _=>?_
  refine#[_,B,p,C,z,_,_,rfl,g.ob,m,n,G,y,_,(78).map (·.1),rfl,I,?_,by rw[gN];exact f.1,λl ns J L M=>?_]
  · unfold Bf
    rw[j5,j5]
    rfl
  · rw[DZ L M]
    refine e1a3 (xk s J (xH (R:=R) (H:=H) (CM ((78).map (·.1))))) λN O P S=>?_
    exact w _ d _ _ F N _ f.2 O P S
def Vy(i:Nat)[Sls c][A:At i D (Bd C o) c](e:AI X.K C)(f:vJ X.K C "upcoming")(g:PE X (.Name x a) (vr i))(h:iA (.Name x a) "upcoming" X.env (eval (.Name x a) X.env)=eval (.Name x a) X.env:=by rfl) :
  EW X E T (.Attribute (.Name x a) "upcoming" pos) (λ(d:D)(b:Int->D->Prop) _=>b (A.get d).up d):=by
 refine#[_,wD g h,λd F R q H b r Q s j k t=>?_];obtain⟨p,l,u,v,w,y,z,m,n,_,_⟩:=wd (i:=i) s;exact#[_,m,p,C,l,_,_,rfl,n.ob,e,f,rfl,k _ d _ F R H j 53 s rfl]
def GC(q:ID)(i:Nat)[Sls o][A:At i D (Bd C t) o][U:Pt i o (Bd C t) D][J:Pj D PO n](N:q.ok t)(O:AI X.K C)(P:vJ X.K C q.nm)(Q:X.A.units+1<ky)(S:PE X (.Name x g) (vr i))(W:EV X T a f)(Y:EW X E T e Z)(hb:iA (.Name x g) q.nm X.env (eval (.Name x g) X.env)=eval (.Name x g) X.env:=by rfl)
 (hs:jN e (some<|.Subscript (.Attribute (.Name x g) q.nm p2) a p3) pos.line X.env=pure false:=by rfl) :
    S1 X E T ms n (.Assign [.Subscript (.Attribute (.Name x g) q.nm p2) a p3] e pos) (cS Z J.pj λ(z:D->Prop)(Kr:τ->PO->Prop) v b=>(q.get<|A.get b).length<gL/\z (U.put (A.hole b)<|q.set (A.get b)<|pk (q.get<|A.get b) (f b) v)):=by
  refine e1a2 W λta a1 a2=>?_
  refine e1a2 Y λte b1 b2=>?_
  refine#[_,Gc Q (wD S hb) a1 b1 hs,λd F R j H z Kr Ke En s hw kn kr ke=>b2 d F R j H _ _ _ s hw (λv b u B I H1 L c1 l r1=>?_) λC y d' F' R' H' q c s'=>?_]
  · obtain⟨p, dx, e1, e2, e3, e4, us, m, h, g3, g4⟩ := wd (i := i) l
    refine e1a4 (zX h q N) λy l1 l2 M l4=>?_
    subst r1
    refine#[_,m,p,C,dx,_,_,rfl,h.ob,O,P,l1,a2 b B I j H1 _ l λw r=>?_]
    subst r
    obtain⟨c2,s2⟩:=g4 (U:=U) M<|l4 (pk (q.get<|A.get b) (f b) v)<|g3 y M
    refine#[y,_,rfl,Ga.k (k:=ie<|f b) l2 (by unfold Bf;rw[gN];exact L.1),?_]
    rw[Tx]
    exact kn _ B I _ j L.2 (Ch.trans s l.tab c1 c2) s2<|Ag.refl _ _
  · refine e1a2 (wp (PO := PO) s') λG m h => ?_
    exact ke C y _ G R' H' q (c.less m) h
def El(b:Ei C i R H y p j k f g h n)(m:R f)(t:BJ R H l d):Ei C i R (upd H f<|.dK d) { y with bd:=l} p j k f g h d:=by have e:=nd4 b.nd;exact⟨b.nd,by rw[uL e.1.2.2.1];exact b.ob,by rw[uL e.2.1.2.1];exact b.ow,by rw[uL e.2.2.1.1];exact b.rk,uO,Dr ((zi (F:=R) (R:=R) (H:=H) (a:=f) (o:=.dK d)).wide λc z=>by rw[z];exact m) t,λz=>by rw[uL (e.2.2.2.1 g<|by rw[gI z];simp).symm];exact b.ht z,λz=>by rw[uL (e.2.2.2.1 h<|by rw[gI z];simp).symm];exact b.th z⟩
def TB(i:Nat){o:Type}[Sls o][A:At i D (Bd C L) o][U:Pt i o (Bd C L) D][J:Pj D PO n]{f:D->Int}{M:Wf D (Tp Int) D}(W:AI X.K C)(Y:vJ X.K C "borders")(Z:X.A.units+1<ky)(hn:PE X (.Name x j) (vr i))(hk:EV X T a f)(he:EW X E T e M)(hb:iA (.Name x j) "borders" X.env (eval (.Name x j) X.env)=eval (.Name x j) X.env:=by rfl)
 (hs:jN e (some<|.Subscript (.Attribute (.Name x j) "borders" p2) a p3) pos.line X.env=pure false:=by rfl) :
    S1 X E T ms n (.Assign [.Subscript (.Attribute (.Name x j) "borders" p2) a p3] e pos) (cS M J.pj λ(N:D->Prop)(Kr:τ->PO->Prop) v g=>(A.get g).bd.length<gL/\lk (A.get g).bd (f g)=none/\N (U.put (A.hole g) { A.get g with bd:=pk (A.get g).bd (f g) v.l})):=by
  refine e1a2 hk λta a1 a2=>?_
  refine e1a2 he λte b1 b2=>?_
  refine#[_,Gc Z (wD hn hb) a1 b1 hs,λd F R t H N Kr Ke En s hw kn kr ke=>b2 d F R t H _ _ _ s hw (λv g u O P H1 z c1 B r1=>?_) λC y d' F' R' H' q c s'=>?_]
  · obtain⟨p, Q, e1, m, e3, e4, us, I, h, g3, g4⟩ := wd (i := i) B
    have S:m∈adr p Q e1 m e3 e4 L:=by simp[adr]
    refine#[_,I,p,C,Q,_,_,rfl,h.ob,W,Y,rfl,a2 g O P t H1 _ B λw r=>?_]
    subst r
    obtain⟨c2,s2⟩:=g4 (U:=U) S<|El h (g3 m S)<|P2 (b:=v.l) h.tu z.2.1 r1
    exact#[m,_,rfl,Ga.k (k:=ie<|f g) h.bd (by rw[<- Paired.length h.tu];exact z.1),kn _ O P _ t z.2.2 (Ch.trans s B.tab c1 c2) s2<|Ag.refl _ _]
  · refine e1a2 (wp (PO := PO) s') λG I h => ?_
    exact ke C y _ G R' H' q (c.less I) h
def Y5(i:Nat)[Sls w][A:At i D (Bd C f) w][U:Pt i w (Bd C f) D][J:Pj D PO n](P:AI X.K C)(Q:vJ X.K C "upcoming")(S:PE X (.Name x B) (vr i))(W:EW X E T e Y)(Z:jN e (some<|.Attribute (.Name x B) "upcoming" p2) pos.line X.env=pure false:=by rfl) :
  S1 X E T ms n (.Assign [.Attribute (.Name x B) "upcoming" p2] e pos) (cS Y J.pj λ(I:D->Prop)(Kr:τ->PO->Prop) v j=>I<|U.put (A.hole j) { A.get j with up:=v}):=by
 refine e1a2 W λte b1 b2=>?_;refine#[_,Cb S b1 Z,λd F R L H I Kr Ke En s hw kn kr ke=>b2 d F R L H _ _ _ s hw (λv j u F1 o M q1 c1 N r1=>?_) λC y d' F' R' H' q c s'=>?_]
 ·obtain⟨p,r,k,l,g,h,us,t,b,g3,g4⟩:=wd (i:=i) N;subst r1;have O:p∈adr p r k l g h f:=by simp[adr]
  have m:=nd4 b.nd;have eq:zI "upcoming" (V.int v) (yq k l g h (A.get j).up f)=yq k l g h v f:=rfl;have nb:Ei C f o (upd M p<|.ins C r<|yq k l g h v f) { A.get j with up:=v} p r k l g h us:=⟨b.nd,uO,by rw[uL m.1.1.symm];exact b.ow,by rw[uL m.1.2.1.symm];exact b.rk,by rw[uL m.1.2.2.1.symm];exact b.bd,Dr ((zi (F:=o) (R:=o) (H:=M) (a:=p)).wide λc z=>by rw[z];exact g3 p O) b.tu,λz=>by rw[uL (m.1.2.2.2 g<|by rw[gI z];simp).symm];exact b.ht z,λz=>by rw[uL (m.1.2.2.2 h<|by rw[gI z];simp).symm];exact b.th z⟩;obtain⟨c2,s2⟩:=g4 (U:=U) O nb;refine#[_,t,p,C,r,_,rfl,b.ob,P,Q,?_,?_]
  ·unfold yq;split<;>(simp only[hX,mW];decide)
  ·rw[eq];exact kn _ F1 o _ L q1 (Ch.trans s N.tab c1 c2) s2<|Ag.refl _ _
 ·refine e1a2 (wp (PO:=PO) s') λG t b=>?_;exact ke C y _ G R' H' q (c.less t) b
def Mb(q:ID)(i:Nat)[Sls c][A:At i D (Bd C e) c][U:Pt i c (Bd C e) D][J:Pj D PO n](u:q.ok e)(v:AI X.K C)(z:vJ X.K C q.nm)(B:PE X (.Name x b) (vr i))(G:EV X T a f)(I:∀{g h:TE},PE X (.Attribute (.Name x b) q.nm j) g->PE X a h->PS X (.Delete [.Subscript (.Attribute (.Name x b) q.nm j) a L] pos) (OR g h))(M:iA (.Name x b) q.nm X.env (eval (.Name x b) X.env)=eval (.Name x b) X.env:=by rfl) :
  S1 X E T ms n (.Delete [.Subscript (.Attribute (.Name x b) q.nm j) a L] pos) (λ(d:D)(k:D->Prop)(N:τ->PO->Prop)(O:gH->PO->Prop)=>(lk 78<|f d).isSome=true/\k (U.put (A.hole d)<|q.set (A.get d)<|dk 78<|f d)):=by
 refine e1a2 G λta P Q=>?_;refine#[_,I (wD B M) P,λd F R l H k N O En s m S kr ke=>?_];obtain⟨p,W,e1,e2,e3,e4,us,Y,o,Z,g4⟩:=wd (i:=i) s;refine e1a4 (zX o q u) λy l1 l2 t l4=>?_;refine#[_,Y,p,C,W,_,_,rfl,o.ob,v,z,l1,Q d F R l H _ s λw r=>?_];subst r;obtain⟨c2,s2⟩:=g4 (U:=U) t<|l4 (dk 78<|f d)<|Z y t;refine#[y,_,ie<|f d,rfl,l2,rfl,by rw[yf,iH];exact m.1,?_];rw[IC];exact S _ F R _ l m.2 c2 s2<|Ag.refl _ _
def TC(i:Nat)[Sls h][A:At i D (Bd C j) h][U:Pt i h (Bd C j) D][J:Pj D PO n](I:AI X.K C)(L:vJ X.K C "borders")(M:PE X (.Name x c) (vr i))(N:EV X T a f)(O:∀{l m:TE},PE X (.Attribute (.Name x c) "borders" o) l->PE X a m->PS X (.Delete [.Subscript (.Attribute (.Name x c) "borders" o) a P] pos) (OR l m))(Q:iA (.Name x c) "borders" X.env (eval (.Name x c) X.env)=eval (.Name x c) X.env:=by rfl) :
  S1 X E T ms n (.Delete [.Subscript (.Attribute (.Name x c) "borders" o) a P] pos) (λ(d:D)(q:D->Prop)(S:τ->PO->Prop)(W:gH->PO->Prop)=>(lk (A.get d).bd<|f d).isSome=true/\q (U.put (A.hole d) { A.get d with bd:=dk (A.get d).bd (f d)})):=by
 refine e1a2 N λta Y Z=>?_;refine#[_,O (wD M Q) Y,λd F R t H q S W En s u kn kr ke=>?_];obtain⟨p,y,e1,g,e3,e4,us,g1,e,g3,g4⟩:=wd (i:=i) s;have B:g∈adr p y e1 g e3 e4 j:=by simp[adr]
 refine#[_,g1,p,C,y,_,_,rfl,e.ob,I,L,rfl,Z d F R t H _ s λw r=>?_];subst r;obtain⟨c2,s2⟩:=g4 (U:=U) B<|El e (g3 g B)<|NB (k:=f d) e.tu;refine#[g,us,ie<|f d,rfl,e.bd,rfl,?_,kn _ F R _ t u.2 c2 s2<|Ag.refl _ _]
 cases z:lk (A.get d).bd (f d) with
 |none =>
  have G:=u.1;rw[z]at G;cases G
 |some b =>
  refine e1a2 ((Ej e.tu).1 b z) λv v1 _=>?_;rw[v1];rfl
end
section
variable{D PO τ:Type}[Sls D][Sls PO][Ow τ]{α:Type}[Rep α]
def IF(i:Nat){D1 P O B B1 S:Type}[Sls D1][Sls P][Sls O][Sls B][Sls B1][Sls S][Lb S τ<|Bd C J×O]{I:B->S->O->D}{wr:D->(P->B->S->Prop)->66->Prop}
 {wf:Wf (Bd C J×P) τ (Bd C J×O)} [A0:At i D (Bd C J) D1] [A:At i B (Bd C J) B1] [U:Pt i B1 (Bd C J) B] (hl:∀a b c d u,(yq a b c d u J).lookup m=none)
 (b2:∀(d:D)(F R:Rg)(k:St)(H:Hp)(W:P->B->S->Prop)(M:gH->D->Prop)(Q:List V->Hp->Prop),vQ T F R H d k->wr d W M ->
 (∀p b l vs us F1 X L w j e,W p b l->Ch T F R H w j e->Std T w j e->Ea w F1 X L->rel F1 (Wo j L) e p (vs.map some)->rel X j e b k->rel L j e l us ->
 (∀b' l' G1 G2 G3 o f h G,rel G1 f h G (vs.map some)->rel G2 f h b' k->rel G3 f h l' us->Ea o G1 G2 G3->rel o f h (I b' l' G) k)->Q vs e) ->
 (∀C y r w j e,M C r->Ch T F R H w j e->vQ T w j e r k->E (.ref C) ↑y e)->tr k H Q)
 (d:D) (F R:Rg) (k:St) (H:Hp) (W:τ->D->Prop) (M:gH->D->Prop) (Q:VK) (s:vQ T F R H d k) (hw:wr d (λp b l=>wf (A.get b,p) (λy G=>W y<|I (U.put (A.hole b) G.1) l G.2)<|λC G=>M C<|I (U.put (A.hole b) G.1) l G.2) M)
 (kn:∀x r v F1 X j e,W x r->Ch T F R H (λa=>F1 a\/X a) j e->vQ T X j e r k->Nw T F1 X j e x v->Q v e)
 (ke:∀C y r w j e,M C r->Ch T F R H w j e->vQ T w j e r k->E (.ref C) ↑y e):Fq C m (ye T wf) [] E (vr i) tr k H Q:=by
  obtain⟨v,_,_,hv,_,⟨a,dx,d1,d2,d3,d4,aa,rfl,_,g⟩,_⟩:=A0.take s.rel
  refine#[_,hv,a,dx,_,rfl,g.ob,hl _ _ _ _ _,b2 d F R k H _ M _ s hw (λp b l vs us G1 G2 L w j e q2 c2 s2 Y h1 h2 h3 km=>?_) ke]
  rw[kW]
  refine e3a4 (A.take h2) λv' M1 M2 z1 z2 z3 z4=>?_
  rw[hv]at z1
  cases z1
  have m1:∀a,M1 a->G2 a:=λa m=>(z2.all a).mpr<|.inl m
  have m2:∀a,M2 a->G2 a:=λa m=>(z2.all a).mpr<|.inr m
  refine Eb (F:=w) (F1:=λa=>M1 a\/G1 a) (F2:=M2) (L:=L) (mrg:=λ(b:B1)(l:S)(p:Bd C J×O)=>I (U.put b p.1) l p.2) (wf:=wf) (p:=(A.get b,p)) (b:=A.hole b) (l:=l) (us:=us) (σ:=k) (Kn:=W) (Ke:=M) s2 #[λa=>?_,λa m n=>?_,λa m n=>?_,λa m n=>Y.Js a (m2 a m) n] #[some<|.ref a,vs.map some,M1,G1,rfl,⟨λ_=>Iff.rfl,λa m n=>Y.HK a n<|m1 a m⟩,Ow.wk z3<|Cr j L e,h1] z4 h3 (λb' l' L1 L2 L3 o f h G h3 h4 h5 t=>?_) q2 (λx r v M1 M2 f h q' c' N n=>kn x r v M1 M2 f h q' (Ch.trans s s2.tab c2 c') N n) λC y r o f h q' c' N=>ke C y r o f h q' (Ch.trans s s2.tab c2 c') N
  · rw[Y.all, z2.all]
    exact#[λz=>z.elim (λq=>.inl<|.inr q) λz=>z.elim (λz=>z.elim (λq=>.inl<|.inl q) λq=>.inr<|.inl q) λq=>.inr<|.inr q,λz=>z.elim (λz=>z.elim (λq=>.inr<|.inl<|.inl q) .inl) λz=>z.elim (λq=>.inr<|.inl<|.inr q) λq=>.inr<|.inr q]
  · rcases m with m|m
    · exact z2.xZ a m n
    · exact Y.HK a m<|m2 a n
  · rcases m with m|m
    · exact Y.Js a (m1 a m) n
    · exact Y.Jr a m n
  · refine e4a4 h3 λv' ab N1 N2 y1 Z y3 y4 => ?_
    injection y1 with y5 y6
    subst y5;subst y6
    have tt:C7 (λa=>N1 a\/L2 a) N1 L2:=#[λ_=>Iff.rfl,λa m n=>t.HK a ((Z.all a).mpr<|.inl m) n]
    refine km _ l' N2 (λa=>N1 a\/L2 a) L3 o f h G.2 y4 (Pt.same (A:=U) h4 hv tt y3) h5 #[λa=>?_,λa m n=>?_,λa m n=>t.Jr a ((Z.all a).mpr<|.inr m) n,λa m n=>?_]
    · rw[t.all, Z.all]
      exact#[λz=>z.elim (λz=>z.elim (λq=>.inr<|.inl<|.inl q) .inl) λz=>z.elim (λq=>.inr<|.inl<|.inr q) λq=>.inr<|.inr q,λz=>z.elim (λq=>.inl<|.inr q) λz=>z.elim (λz=>z.elim (λq=>.inl<|.inl q) λq=>.inr<|.inl q) λq=>.inr<|.inr q]
    · rcases n with n|n
      · exact Z.xZ a n m
      · exact t.HK a ((Z.all a).mpr<|.inr m) n
    · rcases m with m|m
      · exact t.Jr a ((Z.all a).mpr<|.inl m) n
      · exact t.Js a m n
def P5{n:List iD}(i:Nat){s P h B q o:Type}[Sls s][Sls P][Sls h][Sls B][Sls q][Sls o][Lb o τ<|Bd C g×h]{j:B->o->h->D}{v:D->(P->B->o->Prop)->66->Prop}
 {r:Wf (Bd C g×P) τ (Bd C g×h)} [N:At i D (Bd C g) s] [A:At i B (Bd C g) q] [U:Pt i q (Bd C g) B] {k:Nat} {y:List Str}
 (F:vt X.prog X.w X.K X.mg X.base (vF X.prog X.w) k f G y (ye T r)) (O:v4 k X.A) (Q:AI X.K C) (R:Meth X.K C m f) (S:Binds X.K G y []) (W:Passes (vF X.prog X.w) X E) (Y:PE X (.Name x z) (vr i))
 (H:∀a b c d u,(yq a b c d u g).lookup m=none)
 (I:∀{t:TA},PA X (e::n) t->PE X (.Call (.Attribute (.Name x z) m apos) (e::n) [] pos) (Fq C m (ye T r) [] E (vr i) t)) (J:J8 X E T (e::n) j v) :
    EO X E T (.Call (.Attribute (.Name x z) m apos) (e::n) [] pos) (cM v r A.get λb l p=>j (U.put (A.hole b) p.1) l p.2):=by
  refine e1a2 J λZ L M=>?_
  exact#[_,I L,IF i H M]
def P6(i:Nat){h:Type}[Sls h]
 {j:Wf (Bd C e×Unit) τ (Bd C e×Unit)} [A:At i D (Bd C e) h] [U:Pt i h (Bd C e) D] {k:Nat} {B:List Str}
 (F:vt X.prog X.w X.K X.mg X.base (vF X.prog X.w) k f N B (ye T j)) (hr:v4 k X.A) (cl:AI X.K C) (hm:Meth X.K C m f) (hb:Binds X.K N B []) (hx:Passes (vF X.prog X.w) X E) (hn:PE X (.Name x G) (vr i))
 (O:∀a b c d u,(yq a b c d u e).lookup m=none)
 (P:PE X (.Call (.Attribute (.Name x G) m apos) [] [] pos) (Fq C m (ye T j) [] E (vr i) A1)) :
    EO X E T (.Call (.Attribute (.Name x G) m apos) [] [] pos) (λ(d:D)(o:τ->D->Prop) r=>j (A.get d,()) (λy l=>o y<|U.put (A.hole d) l.1)<|λC l=>r C<|U.put (A.hole d) l.1):=by
  refine#[_,P,λd F R S H o r Q s W Y Z=>?_]
  refine e3a4 (A.take s.rel) λv I M2 J z2 L z4=>?_
  obtain⟨a,dx,d1,d2,d3,d4,aa,rfl,_,g⟩:=id L
  refine#[_,J,a,dx,_,rfl,g.ob,O _ _ _ _ _,?_]
  refine PB (F:=F) (F1:=I) (F2:=M2) (mrg:=λ(b:h)(p:Bd C e×Unit)=>U.put b p.1) (wf:=j) (p:=(A.get d,())) (b:=A.hole d) (σ:=S) (Kn:=o) (Ke:=r) s.Ny z2 #[some<|.ref a,[],I,λ_=>False,rfl,#[λ_=>#[.inl,λz=>z.elim id λq=>q.elim],λ_ _ z=>z],L,rfl,λ_ z=>z] z4 (λb' G1 G2 ab ae af l h1 h2 t=>?_) W Y Z
  refine e4a4 h1 λv' ag N1 N2 y1 M y3 y4=>?_
  injection y1 with y5 y6
  subst y5
  refine Pt.same (A:=U) h2 J #[λa=>?_,λa m n=>t.xZ a ((M.all a).mpr<|.inl m) n] y3
  rw[t.all,M.all]
  exact#[λz=>z.elim (λz=>z.elim .inl λq=>g8 q<|y4.2 a) .inr,λz=>z.elim (λq=>.inl<|.inl q) .inr]
def tw_trueO{wa:Wf D (OL α) D}(ha:EO X E T a wa)(he:∀whole,qF a X.env whole=(do let v <- whole;mI a.pos;kG [v] (ul v)):=by intro _;rfl):TW X E T a (cK wa λKn xs d1=>Kn (!xs.l.isEmpty) d1):=by
 refine e1a2 ha λta a1 a2=>?_;refine#[_,HZ a1 he,λd F R σ H Kn Ke Q s hw kn ke=>a2 d F R σ H _ Ke _ s hw (λxs d1 u F1 F2 R1 H1 q1 c1 s1 n1=>?_) ke];refine e2a4 n1.is λb vs e _ h3 h4=>?_;cases e;refine#[!vs.isEmpty,.inl #[vs,vX.of h3,rfl],?_];obtain⟨l⟩:=xs
 have:vs.isEmpty=l.isEmpty:=by
  cases h4<;>rfl
 rw[this];exact kn _ d1 F2 R1 H1 q1 (c1.less λ_ z=>.inr z) s1
def P7{c:Wf D (Tp α) D}(h:Gl X "list")(i:X.mg "list"=none)(j:EW X E T a c)(e:gJ [a] X.env=75::gJ [] X.env:=by rfl) :
  EO X E T (.Call (.Name "list" p) [a] [] pos) (cK c λ(f:OL α->D->Prop) t b=>f #[t.l] b):=by
 refine e1a2 j λN k m=>?_;refine#[_,xi ya h i jR (uS k u4 e) (he:=e),λd F R n H f o Q s r v w=>m d F R n H _ o _ s r (λt b u x O P y z g A=>?_) w];obtain⟨q,S,rfl,_,B,C⟩:=A;refine#[_,_,rfl,.inr<|yI.of B,λl G=>?_];refine e1a3 (xk g G C) λI J L M=>?_;exact v _ b _ _ x I _ y (Ch.trans s g.tab z J) L M
def TF(m:Gl X "tuple")(n:X.mg "tuple"=none)(o:ER X E T a r)(e:gJ [a] X.env=75::gJ [] X.env:=by rfl) :
  EW X E T (.Call (.Name "tuple" p) [a] [] pos) (cK r λ(f:Tp α->D->Prop) g b=>f #[g b] b):=by
 refine e1a2 o λP t v=>?_;refine#[_,xi E4 m n qv (uS t u4 e) (he:=e),λd F R w H f x Q s y z A=>v d F R w H _ x _ s y (λg b u h i B C G c I=>?_) A];obtain⟨q,j,rfl,J,L⟩:=I b h i B 53 c;refine#[_,_,rfl,.inl #[vX.of J,λl M=>?_]];refine e0a3 (c.new (.tup j) M) λN k O=>?_;exact z _ b _ h i _ C (Ch.trans s c.tab G k) N #[l,j,rfl,O,uO,c.vals k L]
def ints_of{R:Rg}{H:Hp}:∀{xs:List Int} {vs:List V},Paired (rp R H) xs vs->vs=xs.map V.int:=by
 intro _ _ z
 induction z with
 |nil=>rfl
 |cons h t ih=>rw[show _=V.int _ from h,ih];rfl
def tw_inT{a b:iD}{wa:Wf D Int D}{wb:Wf D (Tp Int) D}(ha:EW X E T a wa)(hb:EW X E T b wb)(hm:iN .In b=false) :
  TW X E T (.Compare a [.In] [b] pos) (cB wa wb λk Kn t d2=>Kn (decide<|k∈t.l) d2):=by
 refine e1a2 ha λta a1 a2=>?_;refine e1a2 hb λtb b1 b2=>?_;refine#[_,xB Fw a1 b1 hm,λd F R σ H Kn Ke Q s hw kn ke=>a2 d F R σ H _ Ke _ s hw (λk d1 u F1 R1 H1 q1 c1 s1 r1=>?_) ke];refine b2 d1 F1 R1 σ H1 _ Ke _ s1 q1 (λt d2 v F2 R2 H2 q2 c2 s2 r2=>?_) λC y d' F' R' H' k c s'=>ke C y d' F' R' H' k (Ch.trans s s1.tab c1 c) s';subst r1;obtain⟨l⟩:=t;obtain⟨q,us,rfl,_,h1,h2⟩:=r2;have e:=ints_of (xs:=l) h2;subst e;refine#[q,_,rfl,.inr<|yI.of h1,rfl,Ax _,_,rfl,?_];rw[cr gV,BA];exact kn _ d2 F2 R2 H2 q2 (Ch.trans s s1.tab c1 c2) s2
def Em{c:iD}{body:List ic}{mb:List Nat}{D2:Type}[Sls D2]{U:Wf D Bool D}{Y:D->(D2->Prop)->93->81->Prop}[Z:Fg D2 D][J:Pj D PO n](I:RY PO ms n)(hp:rF 19 X.A X.env X.xe)
  (hc:TW X E T c U) (hb:SW X E T mb n body Y) (z:∀i∈ms,i∈mb) :
  S1 X E T ms n (.While c body [] pos) (cW U Y Z.fg J.pj):=by
 refine e1a2 hc λtc c1 c2=>?_;refine e1a2 hb λtb b1 b2=>?_;refine#[_,Oo hp c1 b1,λd F R σ H Kn Kr Ke En s hw kn kr ke=>?_];obtain⟨W,⟨m0,w0⟩,r⟩:=hw;refine#[λm e H1=>∃k G l,Ch T F R H G l H1/\vQ T G l H1 k e/\Ag mb σ e/\W m k,#[m0,d,F,R,Ch.refl _ _ _ _,s,Ag.refl _ _,w0],?_];rintro m e H1 ⟨k,G,l,k1,L,g1,w1⟩;refine c2 k G l e H1 _ _ _ L (r m k w1) (λb d2 G2 R2 H2 q2 k2 t=>?_) λC y d' F' R' u q c s'=>?_
 ·have j:=Ch.trans s L.tab k1 k2
  cases b with
  |false=>exact kn d2 G2 R2 H2 e q2 j t<|g1.sub z
  |true =>
   refine#[λo u=>∃B,B<m/\∃k G l,Ch T F R H G l u/\vQ T G l u k o/\Ag mb σ o/\W B k,λo u h=>h,?_];refine b2 d2 G2 R2 e H2 _ Kr Ke _ t q2 (λd3 G3 R3 H3 aa q3 k3 p g3=>?_) (λx M v M1 M2 N H4 O P f n4=>?_) λC y M F4 N H4 O P f=>?_
   ·refine e1a2 q3 λB hm w3=>?_;refine e1a2 (Z.le p.rel) λG5 Q r5=>?_;exact#[B,hm,_,G5,R3,(Ch.trans s t.tab j k3).less Q,#[r5,λa h=>p.sub a<|Q a h,p.wT,p.tab,p.vG,λh=>p.vv<|Q T h],g1.trans g3,w3]
   ·exact kr x M v M1 M2 N H4 O (Ch.trans s t.tab j P) #[I.dp (g1.sub z) f.rel,f.sub,f.wT,f.tab,f.vG,f.vv] n4
   ·exact ke C y M F4 N H4 O (Ch.trans s t.tab j P) #[I.dp (g1.sub z) f.rel,f.sub,f.wT,f.tab,f.vG,f.vv]
 ·refine e1a2 (wp (PO:=PO) s') λG' S g=>?_;exact ke C y _ G' R' u q ((Ch.trans s L.tab k1 c).less S) #[I.dp (g1.sub z) g.rel,g.sub,g.wT,g.tab,g.vG,g.vv]
end
open PyProof.Rows hiding K
noncomputable def Ite(K:gG)(a:gH):It :=
 #[λi H=>∃b x,vX K H a b/\b[i]?=↑x,λi H v c=>∃p x,v=.ref p/\H p=none/\c=upd H p (.tup [.int i,x])/\∀b,vX K H a b->b[i]?=↑x,λi H=>∃b,vX K H a b/\b.length<=i]
def TH{t':Nat}{xs:List V}{nh:Nat}(I:Inv X d y H s)(i:AX X d H e)(j:AX X d H l)(x:⇑s<=a)(k:∀b o,b≠e->b≠l->s.heap.get? b=↑o->h'.get? b=↑o)(A:xs.length<=gL)(r:Vals xs us)(B:IsTup h' a us.toArray) :
  Inv X d y (upd H a<|.tup xs) { s with heap:=h',toks:=t'}:=by
 have C:=I.vD.fresh x;have f:∀b u,H b=↑u->b≠e/\b≠l:=λb u q=>#[λz=>(by rw[z,i.1]at q;cases q),λz=>(by rw[z,j.1]at q;cases q)];have t:∀b o,b∉[e,l]->s.heap.get? b=↑o->h'.get? b=↑o:=λb o h q=>k b o (λz=>h<|by simp[z]) (λz=>h<|by simp[z]) q;have p:∀{b u},H b=some u->upd H a (.tup xs) b=some u:=λ{b u} q=>by rw[uL<|uU q C];exact q
 refine I.step (g':=s.gens) (d':=s.drawn) (ch:=[e,l]) (λb h=>?_) (λb o _ _ g q _=>t b o g q) (λb o _ _ g q _=>#[o.slots,t b o g q]) (λb o g q n=>?_)
  (λb o g q=>#[o,t b o g q]) (λ_ _ q=>p q) (λ_ _ _ q=>p q) (λb J q=>#[#v[],by rw[p q];simp]) (λm D=>?_) (λb u q=>?_) I.bare
 ·rcases List.mem_cons.mp h with z|z
  ·subst z;exact#[i.2.2.2.1,i.2.1,i.2.2.2.2.1,i.2.2.2.2.2]
  ·have z:b=l:=by simpa using z
   subst z;exact#[j.2.2.2.1,j.2.1,j.2.2.2.2.1,j.2.2.2.2.2]
 ·rw[uL<|λz=>g8 (gP q)<|by rw[z];exact Nat.not_lt.mpr x];exact n
 ·refine e3a2 D λo E F G r=>?_;exact#[o,E,F,k _ o (Ne.symm i.2.1) (Ne.symm j.2.1) G,r]
 ·by_cases h:b=a
  ·subst h;rw[uO]at q;cases q;exact#[A,us,r,B]
  ·rw[uL h]at q;refine(I.vD b u q).C0 (λc v g w=>?_) (λc w=>p w) λc L w=>p w;rcases g with z|z
   ·rw[z]at w ⊢;exact k b v (f b u q).1 (f b u q).2 w
   ·exact k c v (f c _ z).1 (f c _ z).2 w
def NC{K:gG}{x1}(a e it:gH)(hne:e≠it):Turn P w K (.Tuple els x1 tp) (Ite K a) [e,it] e (λi h=>(∃old,IsEnum h e it i old)/\h.IsListIter it a i) where
 mem:=by simp
 obj:=λi h st b hb=>by
  obtain⟨⟨old,h1⟩,⟨o,h2,c,d⟩⟩:=st;rcases List.mem_cons.mp hb with z|z
  ·subst z
   exact#[_,h1,λv z=>by
    have z':ts _=Data.cell v:=z
    cases z']
  ·have z:b=it:=by simpa using z
   subst z;exact#[o,h2,λv z=>by rw[d]at z;cases z]
 keep:=λi h h' st k=>#[e1a1 st.1 λold h1=> #[old,k e q0o _ h1],st.2.at λo q=>k it q0o o q]
 item:=by
  intro X hP hw hK hc i pins s σ H E I hf st hg;subst hP hw hK;refine e2a2 hg λxs x hq hx=>?_;refine e1a3 (I.list hq) λzB rv p hz=>?_;refine e1a2 (rv.get hx) λu hu ru=>?_;obtain⟨⟨old,h1⟩,h2⟩:=st;have fe:=hf e q0o;have fi:=hf it q0o;refine wpAny_pyNext_enum_item h1 h2 p.isList (x:=u) (by simpa using hu) hne λh' a1 a2 a3 a4 a5=>#[_,rfl,wpAny_letOwnedTupleGo_enum a1 λh2' b1 b2=>?_];have hel:e<⇑s:=gP h1;have t2:h2'.get? ⇑s=some { cls:=.type "tuple",data:=.seq #v[.int i s.toks,u]}:=b2.extBut _ _ (je hel) a3;refine#[.ref ⇑s,upd H ⇑s<|.tup [.int i,x],TH (s:=s) (h':=h2') (t':=s.toks+1) (xs:=[.int i,x]) (us:=[.int i s.toks,u]) (nh:=0) I fe fi (gK _) (λb o n1 n2 q=>b2.extBut b o n1<|a5 b o n1 n2 q) (by show 2<=gL;decide) (.cons ⟨_,rfl⟩<|.cons ru .nil) ⟨_,t2,rfl,_,rfl⟩,rfl,⟨_,x,rfl,I.vD.fresh<|gK _,rfl,λys hy=>by rw[I.HW hy hq];exact hx⟩,#[#[_,b1],a2.extBut b2.extBut<|Ne.symm hne],λb hb=>?_];rw[uL]
  ·exact(hf b hb).1
  ·refine e1a2 h2 λo ho _=>?_;rcases List.mem_cons.mp hb with z|z
   ·rw[z];exact gZ hel
   ·have z:b=it:=by simpa using z
    rw[z];exact gZ<|gP ho
 done:=by intro X hP hw hK hc i pins s σ H E I hf st hg;subst hP hw hK;refine e1a2 hg λxs hq hx=>?_;refine e1a3 (I.list hq) λzB rv p hz=>?_;obtain⟨⟨old,h1⟩,h2⟩:=st;refine e0a6 (hf it q0o) λf0 f1 f2 f3 f4 f5=>?_;have hl:=rv.length;exact wpAny_pyNext_enum_end (I.ok.hd hc) h1 h2 p.isList (by simp;lia) λh' eb=>87
 self:=λ_ _ _ _ _ st h=>wpAny_pyIter_enum st.1.choose_spec h
section
variable{D:Type}[Sls D]{α:Type}[Rep α]
def Y6(K:gG)(c:TA):TI:=λd H R=>c d H λe b=>∃a,e=[.ref a]/\(∃f,vX K b a f)/\R (Ite K a) b
def TJ{i}(j:Gl X "enumerate")(k:X.mg "enumerate"=none)(l:PA X [a] m)(n:gJ [a] X.env=[75]:=by rfl):PI X (.Tuple o i G) (.Call (.Name "enumerate" p) [a] [] pos) (Y6 X.K m):=by
 intro d s t H R I h;refine PyProof.Rows.Call_<|yZ I j k PyProof.Rows.boot_enumerate<|jQ (vB (l pos d s t H _ I h) λJ c u=>e2a3 u λL v f w x=>?_) n rfl;obtain⟨a,e,⟨M,y⟩,q⟩:=x;subst e
 cases w with
 |cons r A =>
  cases A;cases r;refine e1a3 (f.list y) λB N p O=>?_;refine call_enumerate_list p.isList λP g C Q E=>?_;refine wpAny_pyIter_enum g ?_;refine#[⇑c+1,[⇑c+1,⇑c],_,_,v,rfl,f.kept (t':=c.toks) E,NC a _ _<|je<|jp _,⟨⟨_,g⟩,C⟩,λb F=>?_,q]
  have e:⇑c<=b:=by
   rcases List.mem_cons.mp F with z|z
   ·rw[z];exact lG _
   ·have z:b=⇑c:=by simpa using z
    rw[z];exact gK _
  exact f.FY e<|f.vD.fresh e
noncomputable def ND:Nat->List α->List (Int×α)
 |_,[]=>[]
 |k,x::r=>((k:Int),x)::ND (k+1) r
def Dt:∀(k:Nat)(a:List α),(ND k a).length=a.length
 |_,[]=>rfl
 |k,x::r=>by show (ND (k+1) r).length+1=r.length+1;rw[Dt (k+1) r]
def Mc:∀(k:Nat)(a:List α)(i:Nat),(ND k a)[i]?=(a[i]?).map λx=>(((k+i:Nat):Int),x)
 |_,[],_=>by simp[ND]
 |k,x::r,0=>by simp[ND]
 |k,x::r,i+1=>by
  show (((k:Int),x)::ND (k+1) r)[i+1]?=_;rw[sk,sk,Mc (k+1) r i];congr 1
  funext y
  rw[show k+1+i=k+(i+1) by lia]
def Eo{K:gG}{xs:List α}{vs:List V}:XX (Ite K a) (ND 0 xs) (λR H=>H a=↑(.lst vs)/\Paired (rp R H) xs vs) where
 go:=λ{R H i} p h=>by rw[Dt]at h;obtain⟨v,e,_⟩:=wE (i:=i) (x:=xs[i]) p.2 (by simp[h]);exact#[vs,v,vX.of p.1,e]
 HJ:=λ{R H i v H'} p wT hi y=>by rw[Dt]at hi;obtain⟨q,w,e,hq,e',y⟩:=y;subst e e';have y':=y vs<|vX.of p.1;obtain⟨u,e,r⟩:=wE (i:=i) (x:=xs[i]) p.2 (by simp[hi]);rw[y']at e;cases e;have ex:Ext R R H R (upd H q<|.tup [.int i,w]):=⟨λb o _ z=>by rw[uL<|uU z hq];exact z,λ_ z=>.inl z⟩;refine#[.inr #[q,_,hq,rfl],((i:Int),xs[i]),?_,q,.int i,w,rfl,λz=>wT q z hq,uO,rfl,Rep.st r ex];rw[Mc,jo hi,sQ];rfl
 stop:=λ{R H} p=>#[vs,vX.of p.1,by rw[Dt,Paired.length p.2];exact gK _]
def TK{i:List iD}{A}{w:Wf D (List α) D}(B:Gl X "enumerate")(C:X.mg "enumerate"=none)(h:EW X E T e w)(G:gJ [e] X.env=58::gJ [] X.env:=by rfl)(j:gJ [e] X.env=[58]:=by rfl) :
  IW X E T is (.Tuple i A tp) (.Call (.Name "enumerate" p) [e] [] pos) (λ(b:D) (_:List (Int×α))=>b) (cK w λo f k=>o (ND 0 f) k):=by
 refine e1a2 h λt I J=>?_;refine#[_,TJ B C (uS I u4 G) j,λd F R L H o Ke Rk s M N O=>J d F R L H _ _ _ s M (λf k v l P Q q c u r=>?_) O];obtain⟨a,m,rfl,S,x,U⟩:=r;refine#[a,rfl,#[m,vX.of x],N (ND 0 f) k _ (λR H=>(H a=↑(.lst m)/\Paired (rp R H) f m)/\¬R a) l (λ_=>False) l P Q q c u.Ny (two_nil l) u.rel #[λp=>Eo.go p.1,λp=>Eo.HJ p.1,λp=>Eo.stop p.1] #[#[x,U],S] (λp y nf n=>?_) λb' G2 W Y Z aa p h g t=>Sls.fq h<|two_eq t λ_ z=>z];have na:¬_:=λz=>p.2<|y a z;exact#[#[n.keep a _ na p.1.1,vT (n.wide y) p.1.2],n.not p.2 p.1.1]
end
def GD(C:gH):Sp:=λf H Q E=>∃p e,f=[.ref p]/\H p=↑(.ins C e []) /\
 ∀c d a,H c=none->H d=none->c≠d->a p=↑(.ins C e<|yq c d 0 0 0 false)->a c=↑(.dK [])->a d=↑(.dK [])->(∀b o,b≠p->H b=↑o->a b=↑o)->Q .wm a
def TL{C:gH}{m:ic}{k:Nat}(F:yE K "__init__" i m f D)(S:uT ["self"] ["self"] (uK m))(g:AK K C)
 (j:∀(d:ci)(A:jq)(a:List Env)(s:gO)(H:Hp)(E:XK),EU (vH (vF P w) P w K G base ["self"] i (uK m) f d A a s H E) (vq m)<|Jy (M3 K (vr 0) DO "ranks")<|Jy (M3 K (vr 0) DO "borders")<|M3 K (vr 0) (tC<|.int 0) "upcoming") :
    vt P w K G base (vF P w) (k+1) f D ["self"] (GD C):=by
  obtain⟨T,U,W,I,X,Y,d,J,L,rfl,lk,t⟩:=F.ex
  refine Ie lk t S (λM H Q E N=>e2a2 N λp l e _=>by rw[e];rfl) λO a s H M Q E Z u=>#[_,j d O a s H E,?_]
  obtain⟨p,l,rfl,B,k⟩:=u
  intro h v
  have n:p≠h:=uU B v
  have R:upd H h (.dK []) p=↑(.ins C l []):=by rw[uL n];exact B
  refine#[_,rfl,p,C,l,[],rfl,R,g.cl,g.nR,q0q,?_]
  intro q c
  have r:p≠q:=λz=>by rw[<- z,uO]at c;cases c
  rw[uL r.symm]at c
  have x:q≠h:=λz=>by rw[z,uO]at c;cases c
  rw[uL x]at c
  refine#[_,rfl,p,C,l,[("ranks",.ref h)],rfl,?_,g.cl,g.nB,(by show 1<1000;decide),?_]
  · rw[uL r, uO]
    rfl
  refine#[_,rfl,p,C,l,[("ranks",.ref h),("borders",.ref q)],rfl,?_,g.cl,g.nU,(by show 2<1000;decide),?_]
  · rw[uO]
    rfl
  refine k h q _ v c x.symm ?_ ?_ ?_ λb o y j=>?_
  · rw[uO]
    rfl
  · rw[uL n.symm, uL n.symm, uL x.symm, uL n.symm, uO]
  · rw[uL r.symm, uL r.symm, uO]
  · rw[uL y, uL y, uL<|uU j c, uL y, uL<|uU j v]
    exact j
structure Mf(K:gG)(C:gH)(m qual:Str)(st:ic)(ps:List Str)(f:gH)(fd:iB):Prop where
 fn:yE K m qual st f fd
 me:Meth K C m f
 bd:Binds K fd ps []
structure Xc(K:gG)(mg:Str->Option ci)(x:Str)(C:gH):Prop where
 ex:∃(C9:List ci)(B newId xT:String),mg x=↑(.ref C)/\ji K C C9 newId=true/\kh B newId xT C9
 g0:∀H',GX.g C none H'
def B6{k:Nat}(r:v4 k A):A.units+1<ky:=nK (Nat.add_le_add_left q0q _) r.units
noncomputable def a1i(s:ic):List ic:=match s with
 | .ClassDef _ _ _ body _ _ _ _ _ _ _=>body
 |_=>[]
noncomputable def AT(s:ic)(i:Nat):ic:=(a1i s).getD i<|.Pass #[0,0,0,0]
section
variable{D D' PO τ:Type}[Sls D][Sls D'][Sls PO][Ow τ]
def BK{k:Nat}{C:gH}[J:Pj D PO n](r:Gl 82 x)(h:Xc K e x C)(l:(x==55)=false:=by decide)
 (q:gJ [.Constant (.str m) k mp] (82).env=(false,eval (.Constant (.str m) k mp) (82).env)::gJ [] (82).env:=by rfl)
 (o:(jg i<|gJ [] (82).env).any (·.1)=false:=by rfl) :
    S1 82 E T z n (.Raise (some<|.Call (.Name x np) [.Constant (.str m) k mp] [] i) none pos) (λ(d:D)(_:D'->Prop)(_:τ->PO->Prop) t=>t C<|J.pj d):=by
  obtain⟨u,B,p,j,v,O,y⟩:=h.ex
  exact Eh<|DX r v O y h.g0 (uS FX u4 q) l q o
end
section
variable{D:Type}[Sls D]
def P8{i:Int}(b:Gl X x)(c:X.mg x=↑(.int i t))(e:(x==55)=false:=by decide):EW X E T 88 (λ(d:D)(a:Int->D->Prop) _=>a i d) :=
 #[_,Sc (v:=.int i) b c #[t,rfl] e,λd F R h H a j Q s f g _=>g i d _ F R H f 53 s rfl]
end
noncomputable def Sf(f:Int->List Int)(x:Int):List Int->Bool
 | []=>false
 |c::l=>xor (decide<|x∈f c)<|Sf f x l
def Md{x:Int}{a:List Int}(p:a.Perm b):Sf f x a=Sf f x b:=by
 induction p with
 |nil=>rfl
 |cons c _ e=>show xor _ _=xor _ _;rw[e]
 |swap c d l=>show xor _ (xor _ _)=xor _ (xor _ _);rw[<- nI,<- nI,Bool.xor_comm<|decide<|x∈f d]
 |trans _ _ g h=>exact g.trans h
def W2{x k:Int}(h:xR l):Sf f x (Kg l k)=xor (decide<|x∈f k) (Sf f x l):=by
 by_cases q:k∈l
 ·have e:Kg l k=Kd k l:=gI q
  have p:l.Perm (k::Kd k l):=by
   refine v9 (vm h) (List.nodup_cons.mpr #[λz=>(zV.mp z).2 rfl,vm<|jK _ h]) λy=>?_;rw[ii,zV];by_cases z:y=k
   ·rw[z];simp[q]
   ·simp[z]
  rw[e,Md p];show _=xor _ (xor _ _);rw[<- nI,Bool.xor_self,rB]
 ·have e:Kg l k=Fa k l:=cr q
  have p:(Fa k l).Perm (k::l):=by refine v9 (vm<|Dn h) (List.nodup_cons.mpr ⟨q,vm h⟩) λy=>?_;rw[ii,BH]
  rw[e,Md p];rfl
def P9{x:Int}:∀{b a:List Int},xR a->Sf f x (xr a b)=xor (Sf f x a) (Sf f x b)
 | [],a,_=>by show Sf f x a=xor _ false;rw[rC]
 |k::b,a,h=>by show Sf f x (xr (Kg a k) b)=xor (Sf f x a) (xor (decide<|x∈f k)<|Sf f x b);rw[P9<|Ma h,W2 h,<- nI,Bool.xor_comm<|Sf f x a]
def Qa{x:Int}:∀{l:List Int} {a:List Int},(∀c∈l,(f c).Nodup)->decide (x∈(l.map f).foldl xr a)=xor (decide<|x∈a) (Sf f x l):=by
 intro d
 induction d with
 |nil=>intro a _;show decide (x∈a)=xor _ false;rw[rC]
 |cons c l b =>
  intro a h;show decide (x∈(l.map f).foldl xr (xr a<|f c))=xor _ (xor _ _);rw[b<|λy g=>h y<|gQ _ g,<- nI];congr 1;have e:=A9 (l:=a) (x:=x)<|h c gM;by_cases p:x∈a<;>by_cases q:x∈f c<;>simp[p,q,e]
noncomputable def wl(f:Int->List Int)(l:List Int):List Int:=Og<|l.map f
def yQ{x:Int}(h:∀c∈l,(f c).Nodup):decide (x∈wl f l)=Sf f x l:=by unfold wl Og;rw[Qa h];rw[ij q0o,rB]
def yR(f:Int->List Int)(l:List Int):xR (wl f l):=Tw _
def IG(c:xR a)(d:xR b)(h:∀x,decide (x∈a)=decide (x∈b)):a=b:=Gy c d λk=>by have:=h k;by_cases p:k∈a<;>by_cases q:k∈b<;>simp[p,q]at this ⊢
def IH{x:Int}(h:∀c∈l,(f c).Nodup)(a:x∈wl f l):∃c∈l,x∈f c:=by
 have e:=yQ (x:=x) h;rw[decide_eq_true a]at e;clear a
 induction l with
 |nil=>cases e
 |cons c l b =>
  by_cases q:x∈f c
  ·exact#[c,gM,q]
  ·have e:true=xor (decide<|x∈f c) (Sf f x l):=e;rw[ij q,rB]at e;obtain⟨d,g,i⟩:=b (λy j=>h y<|gQ _ j) e;exact#[d,gQ _ g,i]
def TM(h:xR a)(i:xR b)(d:∀c∈a,(f c).Nodup)(g:∀c∈b,(f c).Nodup):wl f (xr a b)=xr (wl f a) (wl f b) :=
 IG (yR _ _) (zW<|yR _ _) λx=>by rw[yQ λc j=>(P0 (vm i) j).elim (d c)<|g c,P9 h,<- yQ d,<- yQ g];have e:=A9 (l:=wl f a) (x:=x)<|vm<|yR f b;by_cases p:x∈wl f a<;>by_cases q:x∈wl f b<;>simp[p,q,e]
def Me{x:Int}:∀{l a:List Int},xR a->(∀c∈l,xR (f c)/\Sf f x (f c)=false)->Sf f x ((l.map f).foldl xr a)=Sf f x a
 | [],_,_,_=>rfl
 |c::l,a,b,h=>by show Sf f x ((l.map f).foldl xr<|xr a<|f c)=_;rw[Me (zW b) λy d=>h y<|gQ _ d,P9 b,(h c gM).2,rC]
def NE(h:∀c∈l,xR (f c)/\(∀d∈f c,(f d).Nodup)/\wl f (f c)=[]):wl f (wl f l)=[] :=
 IG (yR _ _) il λx=>by
  rw[yQ,ij q0o]
  ·exact Me (x:=x) (l:=l) il λc a=>#[(h c a).1,by rw[<- yQ (h c a).2.1,(h c a).2.2];rfl]
  ·intro d b;obtain⟨c,a,b⟩:=IH (λc a=>vm (h c a).1) b;exact(h c a).2.1 d b
def xm(h:∀c∈l,f c=g c):wl f l=wl g l:=by unfold wl;rw[lU h]
structure XY(K:gG) where
def Qb(K:gG)(R:Rg)(H:Hp)(a:gH)(c:List Int):Prop :=
 (¬R a/\Rd H a (.lst<|c.map V.int))\/∃(o:qw)(b:Array ci)(n:Nat),K.lookup a=↑o/\o.cls=.type "list"/\o.dict=none/\o.data=.seq b n/\b.size<=gL/\Vals (c.map V.int) b.toList
def Qb.sq{K:gG}(h:Qb K R H a b):vX K H a (b.map V.int):=h.elim (λz=>.inl z.2) .inr
instance(K:gG):Rep (XY K):=#[λR H _ v=>∃a ns,v=.ref a/\Qb K R H a ns,λ{R H R' H' x v} h e=>by
 refine e2a2 h λa ns h1 h2=>?_;refine#[a,ns,h1,?_];rcases h2 with⟨n,r⟩|r
 ·rcases r with r|⟨o,r⟩
  ·exact .inl #[e.not n r,.inl<|e.keep a _ n r]
  ·exact .inl #[e.not n r,.inr #[o,e.keep a _ n r]]
 ·exact .inr r]
def Vz(K:gG):Sp:=λd H Q _=>∃(a:gH)(e:List Int),d=[.ref a]/\vX K H a (e.map V.int)/\∀b g q c s,C6 H b->CQ b g q c 0 0 s->H g=none->H q=none->Q (.ref g) b
def Qc(K:gG):Wf (XY K×Unit) Bg (Un×Unit):=λ_ a _=>a #[] (#[],())
def VA(K:gG):Wf (XY K×Unit) Bool (Un×Unit):=λ_ a _=>a true (#[],())
def Y7(F:vt P w K y base OY k f A C (Vz K)):vt P w K y base (vF P w) k f A C (ye T<|Qc K) :=
 (Vv F).imp λD H Q E G=>e5a4 G λF R p Kn Ke s I J _=>by
  obtain⟨v,L,F1,F2,d,h2,⟨n1,u,e,a,M,N,O⟩,S⟩:=s.rel;subst e N
  match D,d with
  | [],d=>cases d
  |x::r,d =>
   injection d with U W;cases U
   have X:r=[]:=by have:=S.1;rw[<- W]at this;exact List.map_eq_nil_iff.mp this
   subst X;refine#[a,M,rfl,O.sq,λn g q j Y i B l m=>?_];have Z:Ext (λ_=>False) R H (λc=>R c\/c=g\/c=q) n:=#[λb o _ h=>i b o h,λc h=>h.elim .inl λz=>.inr<|z.elim (λz=>by rw[z];exact l) λz=>by rw[z];exact m];refine J #[] (#[],()) (.ref g) (λc=>c=g\/c=q) (λ_=>False) (λc=>R c\/c=g\/c=q) n I #[λb o _ _ h=>i b o h,Z.new,λc h=>h.elim (λz=>.inr<|z.elim (λz=>by rw[z];exact l) λz=>by rw[z];exact m) λz=>z.elim,λc h _=>.inl h] #[#[some<|.ref a,[],λ_=>False,λ_=>False,rfl,#[λ_=>#[λz=>z.elim,λz=>z.elim id id],λ_ z _=>z],λ_ z=>z,rfl,λ_ z=>z],λ_ z=>z.elim,λc h=>?_,?_,.inl s.vG,λz=>z] #[#[g,q,j,0,0,Y,rfl,λ_=>Iff.rfl,B],λc h=>.inr h,λ_ _ z=>z,λz=>?_]
   ·rcases h with h|h|h
    ·cases e:H c with
     |none=>exact g8 e<|s.wT c h
     |some o=>rw[i c o e];simp
    ·rw[h,B.ob];simp
    ·rw[h,B.sc];simp
   ·refine e1a2 s.tab λqs e t=>?_;exact#[qs,i _ _ e,t]
   ·have:=yO s.tab;rcases z with z|z
    ·rw[z]at this;exact this l
    ·rw[z]at this;exact this m
def Mg(K:gG)(b:gH):Sp:=λc H Q _=>∃(a:gH)(d:List Int),c=[.ref a]/\vX K H a (d.map V.int)/\TabAt H b/\∀e,Q (.bl true) e
def Y8(F:vt P w K g base (vF P w) k f i j (ye T<|VA K)):vt P w K g base (vF P w) k f i j (Mg K T) :=
 F.imp λB H Q E l=>e2a4 l λa m e p b s=>by
  subst e;refine#[λ_=>False,λc=>c=T,(#[],()),λx _=>x=true,λ_ _=>False,#[#[some<|.ref a,[],λ_=>False,λ_=>False,rfl,#[λ_=>#[λz=>z.elim,λz=>z.elim id id],λ_ z _=>z],#[λ_ z=>z,_,rfl,a,m,rfl,?_],rfl,λ_ z=>z],λ_ z=>z.elim,λc h=>by rw[h];exact yO b,b,rfl,λz=>z],rfl,λx t v D G A d q c I n=>?_,λC y t J A d q=>q.elim]
  ·rcases p with r|r
   ·refine .inl #[λz=>?_,r];refine e1a2 b λL e _=>?_;rcases r with r|⟨o,r⟩
    ·rw[z,e]at r;cases r
    ·rw[z,e]at r;cases r
   ·exact .inr r
  ·obtain⟨_,u,e,r⟩:=n.is;cases e;rw[r,q];exact s d
def Y9(F:vt P w K d base (vF P w) k f g i c)(h:∀b H Q E,c b H Q E->c b H Q XF):vt P w K d base OY k f g i c :=
 #[F.len,λA a s H args j b Q E l m n o p=>jL (F.run A a s H args j b Q XF l m n o (h _ _ _ _ p)) λr t z=>by
  cases r with
  |error e =>
   obtain⟨_,_,_,_,_,z⟩:=z;exact z.elim
  |ok q =>
   cases q with
   |ret u=>exact z
   |next=>exact io z
   |brk=>exact io z
   |cont=>exact io z]
structure Fk(P:im)(w:iL)(K:gG)(mg:Str->Option ci)(base:iG)(T:gH)(x:Str)(ps:List Str){A PO τ:Type}[Sls A][Sls PO][Ow τ](wf:Wf A τ PO)(k:Nat) where
 f:gH
 fd:iB
 ok:vt P w K mg base (vF P w) k f fd ps (ye T wf)
 at_:mg x=↑(.ref f)
 kp:ja K (.ref f)=true
 bd:Binds K fd ps []
structure Fm(P:im)(w:iL)(K:gG)(mg:Str->Option ci)(base:iG)(T C:gH)(m:Str)(ps:List Str){A PO τ:Type}[Sls A][Sls PO][Ow τ](wf:Wf A τ PO)(k:Nat) where
 f:gH
 fd:iB
 ok:vt P w K mg base (vF P w) k f fd ps (ye T wf)
 me:Meth K C m f
 bd:Binds K fd ps []
section
variable{P:im}{w:iL}{K:gG}{mg:Str->Option ci}{base:iG}{T C f:gH}{fd:iB}{x:Str}{ps:List Str}{A PO τ:Type}[Sls A][Sls PO][Ow τ]{wf:Wf A τ PO}{j k:Nat}
noncomputable def Fk.up(h:Fk P w K mg base T x ps wf j)(l:j<=k:=by decide):Fk P w K mg base T x ps wf k:=#[h.f,h.fd,h.ok.mono l,h.at_,h.kp,h.bd]
noncomputable def Fm.up(h:Fm P w K mg base T C x ps wf j)(l:j<=k:=by decide):Fm P w K mg base T C x ps wf k:=#[h.f,h.fd,h.ok.mono l,h.me,h.bd]
end
section
variable{D:Type}[Sls D]
def vh{P c B g i:Type}[Sls P][Sls c][Sls B][Sls g][Ow i][Lb g i c]{a:B->g->c->D}{o:Wf P i c}{q:D->(P->B->g->Prop)->66->Prop}{k:Nat}{s:List Str}{f:List iD}
 (h:Fk X.prog X.w X.K X.mg X.base T x s o k) (t:J8 X E T (e::f) a q) (u:v4 k X.A:=by assumption) (v:Gl X x:=by exact rfl) (y:Passes (vF X.prog X.w) X E:=by exact zw) (j:(x==55)=false:=by decide) (z:gJ (e::f) X.env=58::gJ f X.env:=by rfl) (m:(jg pos<|gJ f X.env).any (·.1)=false:=by rfl) :
    EO X E T (.Call (.Name x p) (e::f) [] pos) (λ(d:D)(F:i->D->Prop) r=>q d (λp b l=>o p (λx n=>F x<|a b l n)<|λC n=>r C<|a b l n) r):=BC h.ok u v h.at_ h.kp h.bd y t j z m
variable{τ:Type}[Ow τ]
def v6{g:List iD}(i:Nat){z P o B s r:Type}[Sls z][Sls P][Sls o][Sls B][Sls s][Sls r][Lb r τ<|Bd C j×o]{n:B->r->o->D}{F:D->(P->B->r->Prop)->66->Prop}
 {G:Wf (Bd C j×P) τ (Bd C j×o)} [A0:At i D (Bd C j) z] [A:At i B (Bd C j) s] [U:Pt i s (Bd C j) B] {k:Nat} {N:List Str} {O:Sem Bool}
 (h:Fm X.prog X.w X.K X.mg X.base T C m N G k) (Q:J8 X E T (e::g) n F) (H:v4 k X.A:=by assumption) (I:AI X.K C:=by exact AK.cl<|by assumption) (hx:Passes (vF X.prog X.w) X E:=by exact zw) (J:PE X (.Name x v) (vr i):=by exact pv _) (R:∀a b c d u,(yq a b c d u j).lookup m=none:=by intros;rfl)
 (S:gJ (e::g) X.env=58::gJ g X.env:=by rfl) (W:(jg pos<|gJ g X.env).any (·.1)=false:=by rfl)
 (Y:eval (.Call (.Attribute (.Name x v) m apos) (e::g) [] pos) X.env=(do
 let L <- eval (.Name x v) X.env
 mI apos.atName
 let (f,first) <- kG [L] (mB L m O)
 m8 pos f first (jg pos (gJ (e::g) X.env)) (mJ pos (kH [] X.env))):=by rfl) :
    EO X E T (.Call (.Attribute (.Name x v) m apos) (e::g) [] pos) (λ(d:D)(Z:τ->D->Prop) M=>F d (λp b l=>G (A.get b,p) (λy q=>Z y<|n (U.put (A.hole b) q.1) l q.2)<|λC q=>M C<|n (U.put (A.hole b) q.1) l q.2) M) :=
  P5 i h.ok H I h.me h.bd hx J R (λt=>Sn J I h.me h.ok H h.bd .nil hx t S W Y) Q
def BL(i:Nat){g:Type}[Sls g]{n:Wf (Bd C e×Unit) τ (Bd C e×Unit)}[A:At i D (Bd C e) g][U:Pt i g (Bd C e) D]{k:Nat}{t:List Str}{v:Sem Bool}
 (h:Fm X.prog X.w X.K X.mg X.base T C m t n k) (o:v4 k X.A:=by assumption) (p:AI X.K C:=by exact AK.cl<|by assumption) (q:Passes (vF X.prog X.w) X E:=by exact zw) (r:PE X (.Name x j) (vr i):=by exact pv _) (z:∀a b c d u,(yq a b c d u e).lookup m=none:=by intros;rfl)
 (B:eval (.Call (.Attribute (.Name x j) m apos) [] [] pos) X.env=(do
 let s <- eval (.Name x j) X.env
 mI apos.atName
 let (f,first) <- kG [s] (mB s m v)
 m8 pos f first (jg pos (gJ [] X.env)) (mJ pos (kH [] X.env))):=by rfl) :
    EO X E T (.Call (.Attribute (.Name x j) m apos) [] [] pos) (λ(d:D)(F:τ->D->Prop) G=>n (A.get d,()) (λy l=>F y<|U.put (A.hole d) l.1)<|λC l=>G C<|U.put (A.hole d) l.1) :=
  P6 i h.ok o p h.me h.bd q r z (OC r p h.me h.ok o h.bd .nil q B)
end
end WL
namespace WL
open PySem L2
open Rep (rp)
open Ow (sl)
open Sls (rel)
section
structure Dq(K:gG)(x:Str)(st:ic):Prop where
 ex:∃f fd,hJ K g9 x=↑(some<|.ref f)/\yE K x x st f fd
structure Mq(K:gG)(C:gH)(m q:Str)(st:ic):Prop where
 ex:∃f fd,Meth K C m f/\yE K m q st f fd
def Za{b:ic}{e:ci}(a:hJ K g9 x=↑(some<|.ref f))(l:K.lookup f=some #[i,j,.func<|jv x x (vL b) (vq b) (uK b) .none e g pm m d n,h])
 (c:jk K d x=true)(k:ja K (.ref f)=true):Dq K x b:=#[_,_,a,DQ l c k]
def Zb{b:ic}{e:ci}(a:ig K (.ref C) x=↑(some<|.ref f))(i:oj K (.ref f)=true)(l:K.lookup f=some #[j,m,.func<|jv x q (vL b) (vq b) (uK b) .none e g pm n d o,h])
 (c:jk K d q=true)(k:ja K (.ref f)=true):Mq K C x q b:=#[_,_,#[a,i,k],DQ l c k]
noncomputable def Dq.f{x:Str}{a:ic}(q:Dq K x a):gH:=q.ex.choose
noncomputable def Dq.d{x:Str}{a:ic}(q:Dq K x a):iB:=q.ex.choose_spec.choose
noncomputable def Mq.f{x q:Str}{a:ic}(m:Mq K C x q a):gH:=m.ex.choose
noncomputable def Mq.d{x q:Str}{a:ic}(m:Mq K C x q a):iB:=m.ex.choose_spec.choose
def Dq.fn{a:ic}(q:Dq K x a)(X:K.In h)(G:h.Ns g9 j)(c:List Str)
 (b:∀(k e l:ci)(m:Option gH)(g n:ci)(i:List ci),i.length=c.length->sK (jv x x (vL a) (vq a) (uK a) .none k e l m g n) #[i,[]]=pure (c.zip i)):Fn K j x a c q.f q.d :=
  have h:=q.ex.choose_spec.choose_spec;#[h.2,iR X G h.1,h.2.binds b]
def Mq.fn{a:ic}(m:Mq K C x q a)(c:List Str)
 (b:∀(j e k:ci)(l:Option gH)(g n:ci)(i:List ci),i.length=c.length->sK (jv x q (vL a) (vq a) (uK a) .none j e k l g n) #[i,[]]=pure (c.zip i)):Mf K C x q a c m.f m.d :=
  have h:=m.ex.choose_spec.choose_spec;#[h.2,h.1,h.2.binds b]
variable[L2.GX]
noncomputable def Fn.fk{x:Str}{h:ic}{a:List Str}{f:gH}{b:iB}{A c d:Type}[Sls A][Sls c][Ow d]{e:Wf A d c}{k:Nat}(N:Fn K g x h a f b)(o:vt P w K g base (vF P w) k f b a (ye T e)):Fk P w K g base T x a e k:=#[f,b,o,N.at_,N.fn.kp,N.bd]
noncomputable def Mf.fm{x q:Str}{g:ic}{a:List Str}{f:gH}{b:iB}{A c d:Type}[Sls A][Sls c][Ow d]{e:Wf A d c}{k:Nat}(N:Mf K C x q g a f b)(o:vt P w K h base (vF P w) k f b a (ye T e)):Fm P w K h base T C x a e k:=#[f,b,o,N.me,N.bd]
end
variable[L2.GX]
def Mh{X:Cx}{E:XK}{T:gH}{f:List Nat}{n:Nat}{D g PO j:Type}[Sls D][Sls g][Sls PO][Ow j]{a:List ic}{w w':D->(g->Prop)->(j->PO->Prop)->81->Prop}(h:SW X E T f n a w)(i:∀d b c e,w' d b c e->w d b c e):SW X E T f n a w' :=
 let ⟨t,k,l⟩:=h
 #[t,k,λd F R m H b c e o s p=>l d F R m H b c e o s<|i d b c e p]
end WL
namespace WL
open PySem L2
open Rep (rp)
open Ow (sl)
open Sls (rel)
structure Cq where
 P:im
 w:iL
 K:gG
 mg:Str->Option ci
 base:iG
 T:gH
structure Bz(K:gG):Prop where
 all:hJ K g9 "all"=↑none
 zip:hJ K g9 "zip"=↑none
 set:hJ K g9 "set"=↑none
 sorted:hJ K g9 "sorted"=↑none
 len:hJ K g9 "len"=↑none
 list:hJ K g9 "list"=↑none
 isinstance:hJ K g9 "isinstance"=↑none
 int:hJ K g9 "int"=↑none
 bool:hJ K g9 "bool"=↑none
 range:hJ K g9 "range"=↑none
 enumerate:hJ K g9 "enumerate"=↑none
 tuple:hJ K g9 "tuple"=↑none
 min:hJ K g9 "min"=↑none
 max:hJ K g9 "max"=↑none
 str:hJ K g9 "str"=↑none
structure Bn(mg:Str->Option ci):Prop where
 all:mg "all"=none
 zip:mg "zip"=none
 set:mg "set"=none
 sorted:mg "sorted"=none
 len:mg "len"=none
 list:mg "list"=none
 isinstance:mg "isinstance"=none
 int:mg "int"=none
 bool:mg "bool"=none
 range:mg "range"=none
 enumerate:mg "enumerate"=none
 tuple:mg "tuple"=none
 min:mg "min"=none
 max:mg "max"=none
 str:mg "str"=none
def Bz.bn{K:gG}(X:K.In h)(G:h.Ns g9 a)(z:Bz K):Bn a :=
 let f:=λ{x:Str} (e:hJ K g9 x=some none)=>td X G e
 #[f z.all,f z.zip,f z.set,f z.sorted,f z.len,f z.list,f z.isinstance,f z.int,f z.bool,f z.range,f z.enumerate,f z.tuple,f z.min,f z.max,f z.str]
variable[L2.GX]
abbrev wW(q:Cq)(x:Str)(c:List Str){A a b:Type}[Sls A][Sls a][Ow b](d:Wf A b a)(k:Nat):=Fk q.P q.w q.K q.mg q.base q.T x c d k
abbrev yU(q:Cq)(C:gH)(x:Str)(c:List Str){A a b:Type}[Sls A][Sls a][Ow b](d:Wf A b a)(k:Nat):=Fm q.P q.w q.K q.mg q.base q.T C x c d k
abbrev Gq(q:Cq)(k:Nat)(f:gH)(c:iB)(d:List Str){A a b:Type}[Sls A][Sls a][Ow b](e:Wf A b a):Prop:=vt q.P q.w q.K q.mg q.base (vF q.P q.w) k f c d<|ye q.T e
abbrev Du(q:Cq)(x:Str)(a:ic)(f:gH)(b:iB):Prop:=yE q.K x x a f b
@[reducible] def wSq{D c e a b:Type}(h:D->(e->Prop)->(b->a->Prop)->(gH->a->Prop)->Prop)(i:e->(c->Prop)->(b->a->Prop)->(gH->a->Prop)->Prop):D->(c->Prop)->(b->a->Prop)->(gH->a->Prop)->Prop:=λd j f g=>h d (λk=>i k j f g) f g
def uY{c:List Nat}{n:Nat}{D h d b e:Type}[Sls D][Sls h][Sls d][Sls b][Ow e]{i:ic}{a:List ic}{f:D->(d->Prop)->(e->b->Prop)->(gH->b->Prop)->Prop}{g:d->(h->Prop)->(e->b->Prop)->(gH->b->Prop)->Prop}(j:S1 X E T c n i f)(k:SW X E T c n a g)(l:RY b c n:=by exact vn q0q) :
  SW X E T c n (i::a) (wSq f g):=Dj (w1:=f) (w2:=g) l j k
end WL
namespace L2
variable[L2.GX]
open PySem PySem.Spec PyProof.Rows
structure Qd(N P:List Str)(sc:lV)(cl:List (Str×gH)):Prop where
 kind:sc.kind=.function
 co:sc.isCoroutine=false
 gen:sc.isGenerator=false
 nd:N.Nodup
 pre:N.take P.length=P
 par:∀x∈P,sc.names.lookup x=some .local
 A8:∀y∈sc.names,y.2≠.cell
 has:∀x,sc.names.lookup x=some .free->∃c,cl.lookup x=↑c
 inj:∀x y c,cl.lookup x=↑c->cl.lookup y=↑c->x=y
noncomputable def Kj(CX:OB)(P:im)(w:iL)(K:gG)(mg:Str->Option ci)(base:iG)(N:List Str)(qual:Str)(scope:lV)(f:gH)(cd:ci)(cl:List (Str×gH))(A:jq)(outer:List Env)(s:gO)(H:Hp)(E:XK):Cx where
 prog:=P
 w:=w
 K:=K
 mg:=mg
 base:=base
 A:=A.deeper<|iO qual scope ⇑s f cd cl
 N:=N
 s₀:=s
 H₀:=H
 env:=iO qual scope ⇑s f cd cl
 outer:=outer
 stack:=iO qual scope ⇑s f cd cl::outer
 ex:=[]
 calm:=true
 fn:=λ_=>false
 pn:=[]
 xe:=λe s'=>gS (gU P w) (A.deeper<|iO qual scope ⇑s f cd cl) (um (iO qual scope ⇑s f cd cl) e) (λ_ So=>CX outer H s E e So) (λe' So=>CX outer H s E e' So) s'
section
variable{P:im}{w:iL}{K:gG}{mg:Str->Option ci}{base:iG}{N ps:List Str}{qual:Str}{scope:lV}{f:gH}{cd:ci}{cl:List (Str×gH)}{A:jq}{outer:List Env}{s:gO}{H:Hp}{E:XK}
def Qe:Passes (vF P w) (Kj (vF P w) P w K mg base N qual scope f cd cl A outer s H E) E:=by intro a i j k e l I h;obtain⟨C,x,b,rfl,F,c⟩:=h;exact iY (Pn I rfl rfl F) (λ_ d g=>#[C,x,b,rfl,g,c]) λ_ _ z=>z
def Qf:∀{l:List (Str×d)},(l.map (·.1)).Nodup->(x,u)∈l->l.lookup x=↑u:=by
 intro l
 induction l with
 |nil=>intro _ h;cases h
 |cons p l b =>
  intro a h;rw[h8,List.nodup_cons]at a;obtain⟨y,v⟩:=p;rcases List.mem_cons.mp h with z|z
  ·cases z;rw[iz,pc]
  ·have c:(x==y)=false:=beq_eq_false_iff_ne.mpr λe=>a.1 (by rw[<- e];exact List.mem_map.mpr #[_,z,rfl]);rw[iz,c];exact b a.2 z
def II:∀(ps:List b)(a:List c),((ps.zip a).map (·.1)).Sublist ps
 | [],_=>by simp
 |_::_,[]=>by simp
 |p::ps,u::a=>by rw[List.zip_cons_cons,h8];exact(II ps a).cons₂ p
def TN{ps:List Str}{i:Nat}(b:ps.Nodup)(c:ps[i]?=↑x)(d:a[i]?=↑u):(ps.zip a).reverse.lookup x=↑u:=by
 refine Qf ?_ ?_
 ·rw[List.map_reverse];refine List.pairwise_reverse.mpr<|oQ Ne.symm ?_;exact b.sublist<|II ps a
 ·rw[List.mem_reverse];refine List.mem_iff_getElem?.mpr #[i,?_];rw[List.getElem?_zip_eq_some];exact#[c,d]
def Kk{j:iG}{D:Nat}{k:List V}(S:Qd N ps scope cl)(C:∀x c,cl.lookup x=↑c->∃v,base.IsCell c v)(F:A.handled=none)(g:Ia P w K mg base A outer s H)(R:k.length=ps.length)(r:Vals k G)
 (I:j.Ns ⇑s (λx=>(ps.zip G).reverse.lookup x))(t:∀b o,s.heap.get? b=↑o->j.get? b=↑o):Inv (Kj J P w K mg base N qual scope f cd cl A outer s H E) [] (start N k) H { s with heap:=j,toks:=D}:=by
  have L:ps.length<=N.length:=by have:=congrArg nW S.pre;rw[lJ]at this;lia
  have l:∀b:gH,b∉(Kj J P w K mg base N qual scope f cd cl A outer s H E).ex:=λb z=>g8 (show b∈([]:List gH) from z) q0o
  refine#[#[g.mod,S.kind,rfl,rfl,gK _,λy z c j d=>S.inj y z c j d,λy m=>?_,λy c z _=>(by cases z),λ_=>F,sy g.frames,.inr #[rfl,rfl],λb z=>g8 z (l b),g.bs,g.HR,λb _ _=>l b,λb z=>g8 z (l b),g.yo,g.Jo],
    rfl,g.bare,Un.kept t,#[_,I,λi y v j d T=>?_],λy c h=>?_,g.vD.fresh (gK _),λy c h=>?_,λp n=>g8 (show p∈([]:List (gH×Obj)) from n) q0o,g.vD.kept t,?_]
  · have m : scope.names.lookup y = some .cell \/ scope.names.lookup y = some .free := m
    rcases m with m|m
    · exact g8 rfl<|S.A8 _<|jW m
    · exact S.has y m
  · have q : i<k.length := by
      unfold start at d
      by_cases q:i<k.length
      · exact q
      · rw[jJ<|by simpa using q]at d
        rw[sg]at d
        split at d<;>cases d
    have M:k[i]?=↑v:=by
      unfold start at d
      rw[lN (by simpa using q),jx]at d
      cases e:k[i]? with
      |none=>rw[e]at d;cases d
      |some a=>rw[e]at d;cases d;rfl
    refine e1a2 (r.get M) λu O Q=>?_
    have n:ps[i]?=↑y:=by rw[<- S.pre,rP q0a];exact j
    have B:ps.Nodup:=by rw[<- S.pre];exact S.nd.sublist<|uo _ _
    exact#[u,Q,.inl #[S.par y<|jD n,TN B n O]]
  · obtain⟨v, z⟩ := C y c h
    exact#[v,z.keeps λb o e=>t b o (g.bs b o e).1]
  · refine e2a2 (C y c h) λv o z _ => ?_
    exact(g.bs c o z).2
  · unfold start
    show _=N.length
    rw[gY,gN,sL]
    lia
end
def Z3(X:Cx)(c:List ic)(e:iD)(t:TE):Prop :=
 ∀(a:List (gH×Obj)) (s:gO) (b:St) (H:Hp) (Q:VK),Inv X a b H s->t b H Q->tS 19 X.A (.func c X.env) (eval e X.env) (EP X a b Q) X.xe s
def Z4(X:Cx)(c:List ic)(d:ic)(t:TS):Prop :=
 ∀(a:List (gH×Obj)) (s:gO) (b:St) (H:Hp) (D:Ends),Inv X a b H s->t D b H->tS 19 X.A (.func c X.env) (exec d X.env) (SP X a D) X.xe s
def Qg(X:Cx)(c:List ic)(d:List ic)(t:TS):Prop :=
 ∀(a:List (gH×Obj)) (s:gO) (b:St) (H:Hp) (D:Ends),Inv X a b H s->t D b H->tS 19 X.A (.func c X.env) (execs d X.env) (SP X a D) X.xe s
section
variable{fb:List ic}{pos:Pos}
def Qh{b:ic}(h:PS X b t):Z4 X fb b t:=λa s c H D I q=>wpAt_of_wpAny<|h a s c H D I q
def Dv{b:List ic}(h:EU X b t):Qg X fb b t:=λa s c H D I q=>wpAt_of_wpAny<|h a s c H D I q
def yj{e:ic}{a:List ic}(g:Z4 X fb e h)(i:Qg X fb a j):Qg X fb (e::a) (Jy h j):=λb s k H D I q=>by
 refine ks_wpAt_execs_cons<|rf (g b s k H _ I q) (λf l c=>?_) λ_ _ z=>z
 cases f with
 |next=>obtain⟨d,m,J,n⟩:=c;exact i b l d m D J n
 |brk=>exact c
 |cont=>exact c
 |ret u=>exact c
def TQ(h:Z3 X fb e t):Z4 X fb (.Return ↑e pos) (VS t):=λa s b H D I q =>
 ks_wpAt_Return_some (rf (h a s b H _ I q) (λu g c=>e2a3 c λv d J r f=>#[v,b,d,J,r,f]) λ_ _ z=>z)
def Ep(h:Z3 X fb e t)(c:jN e none pos.line X.env=pure false:=by rfl):Z4 X fb (.Expr e pos) (HX t):=λa s b H D I q =>
 ks_wpAt_Expr_any (rf (h a s b H _ I q) (λu i d=>e2a3 d λv f J r g=>#[b,f,J,g]) λ_ _ z=>z) I.quiet c
end
structure Kl(P:im)(K:gG)(C f yV cc:gH)(x0:Str):Prop where
 fn:∃(oc:ci)(od:Option gH)(fd:iB) (Nd:Array (Option ci)) (ar:Arg),K.lookup f=some #[oc,od,.func fd,Nd]/\(fd.params.posonlyargs++fd.params.args).head?=↑ar/\ar.arg=x0
 code:∃(oc:ci)(od:Option gH)(vs:Array ci) (Nd:Array (Option ci)) (file:Str) (tf:Tok),K.lookup yV=some #[oc,od,.fields vs,Nd]/\vs[2]?=↑(.str file tf)/\((P.main.file:Str)==file)=true
 cell:∃(oc:ci)(od:Option gH) (Nd:Array (Option ci)),K.lookup cc=some #[oc,od,.cell<|some<|.ref C,Nd]
 cls:∃cd,mD K C=↑cd
 sub:kR K C (.ref C)=↑true
 opq:hJ K rc "thirdparty.any"=↑none
 top:(P.main.scope.names.lookup ("super":Str)).isSome=false
def Zc(C:gH)(c:Sp)(E:XK)(t:TA):TE:=λb H Q=>∃a d e,b[0]?=↑(some<|.ref a)/\H a=some (.ins C d e)/\t b H λf g=>c (.ref a::f) g Q E
def Qi(K:gG)(h:gH)(c:Pos)(f:List iD)(d:Env):Prop:=∀{M:Model} {B:jq} {Q e:ci->gO->Prop} {g:gO} {q a:gH},
 gS M B (uk<|jg c<|gJ f d) (λi b=>rg K q h (.ref a) b.heap/\gS M B (call (.ref q) i) Q e b) e g->gS M B (m8 c (.ref q) [] (jg c<|gJ f d) []) Q e g
def NF(d e b c:Pos)(m:Str)(f:List iD):Prop:=∀a:Env,∃h:Sem Bool,eval (.Call (.Attribute (.Call (.Name "super" d) [] [] e) m b) f [] c) a=(do
 let g <- iA (.Call (.Name "super" d) [] [] e) m a (eval (.Call (.Name "super" d) [] [] e) a)
 mI b.atName
 let (i,first) <- kG [g] (mB g m h)
 m8 c i first (jg c (gJ f a)) [])
def cw_nil{K:gG}(b:mi K f2=true):Qi K f2 pos [] c:=λ{M B Q e f q a} h=>by refine pf (P:=rg K q f2<|.ref a) rfl (uf b) ?_;refine am<|iY h (λg i d=>?_) λ_ _ x=>x;refine iq ?_;exact am<|ap<|am<|ap<|ap d
def cw_cons{K:gG}(f:mi K f2=true)(g:gJ (e::d) b=(false,eval e b)::gJ d b:=by rfl)(c:(jg pos<|gJ d b).any (·.1)=false:=by rfl):Qi K f2 pos (e::d) b:=λ{M B Q i j q a} h=>by rw[g]at h ⊢;exact pf (P:=rg K q f2<|.ref a) (by show ((false||(jg pos<|gJ d b).any (·.1))||false)=false;rw[c];rfl) (uf f)<|jt h
section
variable{P:im}{w:iL}{K:gG}{mg:Str->Option ci}{base:iG}{N ps:List Str}{qual:Str}{scope:lV}{f yV cc:gH}{A:jq}{outer:List Env}{s:gO}{H:Hp}{E E0:XK}{C f2:gH}{x0 m:Str}{k:Nat}{Zd:iB}{sp:Sp}{fb:List ic}{p0 p1 apos pos:Pos}{es:List iD}{ta:TA}
set_option tactic.hygienic true in
def GF(S:Kl P K C f yV cc x0)(ab:N[0]?=↑x0)(M:scope.names.lookup ("super":Str)=some .globalImplicit)(R:scope.names.lookup 99=some .free)(x:scope.names.lookup x0=some .local)(ae:mg "super"=none)
 (hm:jM K C C m=↑(some<|.ref f2)) (ht:oN K (.ref f2)=↑(.type "function")) (aq:mi K f2=true) (F:vt P w K mg base (vF P w) k f2 Zd ps sp) (T:Binds K Zd ps [])
 (hr:v4 k (A.deeper<|iO qual scope ⇑s f (.ref yV) [71])) (ha:PA 86 es ta)
 (af:Qi K f2 pos es (iO qual scope ⇑s f (.ref yV) [71])) (y:NF p0 p1 apos pos m es) (U:(m==99)=false:=by decide) :
    Z3 86 fb (.Call (.Attribute 79 m apos) es [] pos) (Zc C sp E ta):=by
  intro l i σ H1 Q I h
  obtain⟨a,dx,fs,h0,ea,h⟩:=h
  have X:=I.yr
  obtain⟨oc,od,fd,au,ar,lf,hp,rfl⟩:=S.fn
  obtain⟨av,aw,ax,al,file,tf,lc,ag,B⟩:=S.code
  obtain⟨an,ao,aa,D⟩:=S.cell
  obtain⟨cd,j⟩:=S.cls
  obtain⟨mA,O,_,_,_,_⟩:=Bj I.vD ea
  refine e1a2 I.loc λmL hn hl=>?_
  refine e1a2 (hl 0 ar.arg (.ref a) ab h0<|.inl x) λu ru lk=>?_
  obtain rfl:u=hO a:=ru
  have ah:mL ar.arg=↑(.ref a):=by
    rcases lk with⟨_,q⟩|⟨q,_⟩
    · exact q
    · have q : scope.names.lookup ar.arg = some .cell \/ scope.names.lookup ar.arg = some .free := q
      rw[x]at q
      rcases q with q|q<;>cases q
  obtain⟨oD,G,J⟩:∃oD,i.heap.get? C=some oD/\oD.data=.cls cd:=by
    unfold mD at j
    split at j
    · rename_i c d ay sl ho
      cases j
      exact#[_,X _ _ ho,rfl]
    · cases j
  refine e1a2 I.mod.blt λmb ai aj=>?_
  have ne:a≠C:=λz=>by
    have:=O.obj
    rw[z,G]at this
    cases this
    cases J
  obtain⟨pl,y⟩:=y<|iO qual scope ⇑s f (.ref yV) [71]
  refine ks_wpAt_MethodCall (pl:=pl) (ks_wpAt_super_base (env:=iO qual scope ⇑s f (.ref yV) [71]) M R U rfl (X _ _ lf) rfl hp rfl (X _ _ lc) rfl ag B S.top ?_) y
  refine qO I.ok.kind M<|nS (env:=iO qual scope ⇑s f (.ref yV) [71]) (I.mod.glob.keeps I.bk) ae (ai.keeps I.bk) ((aj _ q0s).trans rfl) #[rfl,?_]
  refine qk I.ok.kind R rfl #[_,X _ _ D,rfl] ?_
  refine kF I.ok.kind x hn ah ?_
  refine ks_wpAny_isType_cls (h:=i.heap) (g:=i.gens) (d:=i.drawn) (t:=i.toks) (os:=i.os) G J #[rfl,?_]
  refine ks_wpAny_call_super (h:=i.heap) (g:=i.gens) (d:=i.drawn) (t:=i.toks) (os:=i.os) G J O.obj rfl (λc e=>by cases e) (ph X S.sub) λn e k'=>?_
  have L:Inv _ l σ H1 #[n,i.gens,i.drawn,i.toks,i.os]:=I.kept (t':=i.toks) k'
  unfold jM at hm
  rw[j]at hm
  obtain⟨of,ak,Y⟩:∃of,n.get? f2=some of/\of.cls=.type "function":=by
    have p:(K.lookup f2).map (·.cls)=↑(.type "function"):=ht
    cases z:K.lookup f2 with
    |none=>rw[z]at p;cases p
    |some of=>rw[z]at p;exact#[of,L.yr _ _ z,iP p]
  refine ks_wpAny_getMethod_super e (sr L.yr S.opq) (l₀:=cd.mro) (λA Q E s k q=>am<|(o5 L.yr j) A _ E s k<|ap q) rfl L.yr hm ak Y ne U ?_
  have I2:Inv _ l σ H1 #[n.push { cls:=.type "method",data:=.fields #v[.ref f2,.ref a]},i.gens,i.drawn,i.toks+1,i.os]:=L.kept (t':=i.toks+1) λb o z=>ce _ z
  have fr:H1 n.objs.size=none:=L.vD.fresh<|gK _
  have gq:(n.push { cls:=.type "method",data:=.fields #v[.ref f2,.ref a]}).get? n.objs.size=↑(md (.ref f2)<|.ref a):=n9 rfl rfl
  have I3:=I2.pinned (fp:=[n.objs.size]) (λb T=>by rw[List.mem_singleton.mp T];exact L.FY (gK _) fr) λb T=>by rw[List.mem_singleton.mp T];exact#[_,gq,λv z=>by cases z]
  refine af (a:=a)<|vB (ha pos _ _ σ H1 _ I3 h) λZ s2 z9=>e2a3 z9 λvs H2 I4 r q2=>?_
  have g2:s2.heap.get? n.objs.size=↑(md (.ref f2)<|.ref a):=(I4.pin (n.objs.size,md (.ref f2)<|.ref a)<|hV _<|hV _<|xh gM gq).1
  refine#[#[g2,I4.yr],?_]
  have I5:=I4.zH
  have r2:Vals (.ref a::vs) (.ref a::Z):=.cons rfl r
  have hl:(hO a::Z).length=ps.length:=by rw[<- r2.length];exact F.len _ _ _ _ q2
  refine mz<|ks_codeAny_call_bound g2<|jL (F.run _ _ s2 H2 ⟨.ref a::Z,[]⟩ (.ref a::Z) (.ref a::vs) Q E hr I5.Ib (by simpa using T s2 (.ref a::Z) I5.yr (by simpa using hl)) r2 q2) λr s' hq=>?_
  cases r with
  |error e=>exact Qe l σ H2 s2 e s' I5 hq
  |ok fl =>
    cases fl with
    |ret u=>exact I5.after hq
    |next=>exact io hq
    |brk=>exact io hq
    |cont=>exact io hq
def GG{O:ci}(lk:K.lookup f=some #[oc,od,.func<|ku name qual g a scope i dV O F pm an d ct,aa])(R:jk K d qual=true)
 (S:Qd N ps scope i) (hc:∀x c,i.lookup x=↑c->∃o v,K.lookup c=↑o/\o.data=.cell v) (G:∀j H Q E,sp j H Q E->j.length=ps.length)
 (z:∀(A:jq)(outer:List Env)(s:gO)(H:Hp)(j:List V)(Q:VK)(E:XK),v4 k (A.deeper (iO qual scope ⇑s f d i))->sp j H Q E ->
 ∃t,Qg (Kj (vF P w) P w K mg base N qual scope f d i A outer s H E) a a t/\t { nx:=λ_ p=>Q .wm p,rt:=Q} (start N j) H) :
    vt P w K mg base (vF P w) (k+1) f (ku name qual g a scope i dV O F pm an d ct) ps sp:=by
  refine#[G,λA outer s H args us j Q E T B hb r L=>?_]
  have hl:=G _ _ _ _ L
  have KX:K.In s.heap:=B.mod.Bf.keeps λb o e=>(B.bs b o e).1
  have U:s.heap.NoLimit:=B.mod.nolimit.keeps λb o e=>(B.bs b o e).1
  have l:∀x c,i.lookup x=↑c->∃v,base.IsCell c v:=λx c h=>by
    refine e2a2 (hc x c h) λo v q1 q2=>?_
    exact#[v,o,B.mod.Bf _ _ q1,q2]
  refine ks_codeAny_call_defAt (fd:=ku name qual g a scope i dV O F pm an d ct) (body:=a) (binds:=ps.zip us) T.depth (KX _ _ lk) rfl U (sM KX R) rfl hb S.A8 (λy hy=>S.par y.1 (oP hy).1) (λh1 X Y=>?_) S.co S.gen S.kind
  refine e1a2 (z A outer s H j Q E (T.deeper _) L) λt ht hq=>?_
  have I:Inv (Kj (vF P w) P w K mg base N qual scope f d i A outer s H E) [] (start N j) H { s with heap:=h1,toks:=s.toks+(ps.zip us).length}:=Kk S l T.hd B hl r X Y
  refine rf (ht [] _ (start N j) H _ I hq) (λfl Z D=>?_) λe Z D=>D
  have M:∀{n:St} {p:Hp} {v:V} {u:ci},Inv (Kj (vF P w) P w K mg base N qual scope f d i A outer s H E) [] n p Z->RelV v u->Q v p->CE outer P w H s Q u Z :=
    λ{n p v u} J rv q=>#[v,p,J.os,J.bare,J.base,J.vD,rv,q]
  cases fl with
  |ret u =>
    obtain⟨v,n,p,J,rv,q⟩:=D
    exact M J rv q
  |next =>
    refine e2a2 D λn p J q=>?_
    exact M (v:=V.wm) (u:=Value.none) J rfl q
  |brk =>
    refine e2a2 D λ_ _ _ q=>?_
    exact io q
  |cont =>
    refine e2a2 D λ_ _ _ q=>?_
    exact io q
end
end L2
namespace WL
variable[L2.GX]
open PySem L2
open Rep (rp)
open Ow (sl)
open Sls (rel)
structure xg(N P:List Str)(sc:lV):Prop where
 kind:sc.kind=.function
 co:sc.isCoroutine=false
 gen:sc.isGenerator=false
 nd:N.Nodup
 pre:N.take P.length=P
 par:∀x∈P,sc.names.lookup x=some .local
 A8:∀y∈sc.names,y.2≠.cell
 fr:∀y∈sc.names,y.2=.free->y.1="__class__"
 ks:sc.names.lookup ("super":Str)=some .globalImplicit
 kc:sc.names.lookup 99=some .free
def xg.x{N P:List Str}{sc:lV}(S:xg N P sc)(cc:gH):Qd N P sc [71] :=
 #[S.kind,S.co,S.gen,S.nd,S.pre,S.par,S.A8,λx h=>#[cc,by have e:x="__class__":=S.fr _ (jW h) rfl;rw[e];rfl],λx y c h1 h2=>by
  have q:∀{z:Str},([(99,cc)]:List (Str×gH)).lookup z=↑c->z="__class__":=λ{z} h=>by
   by_cases e:(z==99)=true
   ·exact eq_of_beq e
   ·rw[iz,Bool.eq_false_iff.mpr e]at h;cases h
  rw[q h1,q h2]]
structure BM(P:im)(K:gG)(C:gH)(x qual:Str)(st:ic)(f:gH)(fd:iB):Prop where
 ex:∃(oc:ci)(od:Option gH)(kV doc pm:ci)(an:Option gH)(yV cc:gH)(ct:ci) (Nd:Array (Option ci)),
  fd=ku x qual (vL st) (vq st) (uK st) [71] .none kV doc pm an (.ref yV) ct/\K.lookup f=some #[oc,od,.func fd,Nd]/\jk K (.ref yV) qual=true/\Kl P K C f yV cc "self"
 kp:ja K (.ref f)=true
structure Sm(K:gG)(C:gH)(m:Str)(f2:gH):Prop where
 find:jM K C C m=↑(some<|.ref f2)
 ty:oN K (.ref f2)=↑(.type "function")
 fn:mi K f2=true
structure Fs(P:im)(w:iL)(K:gG)(mg:Str->Option ci)(base:iG)(C:gH)(m:Str)(ps:List Str)(sp:Sp)(k:Nat):Prop where
 ex:∃f2 Zd,Sm K C m f2/\vt P w K mg base (vF P w) k f2 Zd ps sp/\Binds K Zd ps []/\mg "super"=none
def TR{B b i:Type}[Sls B][Sls b][Ow i]{k:Bool}{l:Wf (Bd C k×B) i b}{c:List V}(h:ye T l c H Q E):∃a d m r,c=.ref a::r/\H a=↑(.ins C d m):=by
 obtain⟨F,R,p,o,q,s,_⟩:=h;obtain⟨v,n,t,u,e,_,⟨a,d,w,x,y,z,A,j,_,g⟩,_⟩:=s.rel;subst j
 cases c with
 |nil=>cases e
 |cons v r=>injection e with f j;injection f with f;subst f;exact#[a,d,_,r,rfl,g.ob]
def xI{o:ic}{d:List Str}{k:Nat}{B t X:Type}[Sls B][Sls t][Ow X]{fl:Bool}{u:Wf (Bd C fl×B) X t}{p:List iD} 
 (F:BM P K C x l o f fd) (S:xg d d (uK o)) (v:vq o=[.Return (some<|.Call (.Attribute 79 m apos) p [] pos) p2]) (Y:d[0]?=↑("self":Str)) (z:NF p0 p1 apos pos m p) (G:Fs P w K Z base C m d (ye T u) k)
 (ha:∀(g n:gH)(A:jq)(b:List Env)(s:gO)(H:Hp)(E:XK),PA (Kj (vF P w) P w K Z base d l (uK o) f (.ref g) [("__class__",n)] A b s H E) p ta)
 (I:∀(a:gH)(r:List V)(H:Hp)(Q:List V->Hp->Prop),r.length+1=d.length->Q r H->ta ((V.ref a::r).map some) H Q) (J:∀(q:gH)(L:Env),mi K q=true->Qi K q pos p L) (N:(m==99)=false:=by decide) :
    vt P w K Z base (vF P w) (k+1) f fd d (ye T u):=by
  obtain⟨oc,od,kV,aa,pm,an,g,n,ct,ab,rfl,lk,O,D⟩:=F.ex
  refine e2a4 G.ex λq ae M G hb R=>?_
  obtain⟨o1,o2,o3,i⟩:=D.cell
  refine GG lk O (S.x n) (λy c h=>?_) G.len λA b s H vs Q E hr j=>?_
  · have e : c = n := by
      by_cases e:(y==99)=true
      · rw[iz, e]at h; cases h; rfl
      · rw[iz, Bool.eq_false_iff.mpr e]at h; cases h
    subst e
    exact#[_,_,i,rfl]
  · have hl := G.len _ _ _ _ j
    obtain⟨a,dx,fs,r,rfl,ea⟩:=TR j
    have U:start d (V.ref a::r)=(V.ref a::r).map some:=by unfold L2.start;rw[hl,qx];simp
    refine#[Jy (VS<|Zc C (ye T u) E ta) U5,?_,?_]
    · rw[v]
      exact yj (TQ<|GF D Y S.ks S.kc (S.par _<|jD Y) R M.find M.ty M.fn G hb hr (ha g n A b s H E) (J q _ M.fn) z N)<|Dv y8
    · rw[U]
      exact#[a,dx,fs,rfl,ea,I a r H _ hl j]
class Fu(D:Type)[Sls D]:Prop where
 fu:∀{F R:Rg} {H:Hp} {d:D} {σ:St},rel F R H d σ->∃vs:List V,σ=vs.map some
instance:Fu Unit:=#[λh=>#[[],h.1]]
instance{τ D:Type}[Ow τ][Sls D][Hs τ][Fu D]:Fu (τ×D):=#[λh=>by
 obtain⟨v,σ',F1,F2,rfl,_,h3,h4⟩:=h;obtain⟨u,rfl⟩:=Hs.has h3;obtain⟨vs,rfl⟩:=Fu.fu h4
 exact#[u::vs,rfl]]
def Z5(X:Cx)(e:List ic)(E:XK)(T:gH)(f:List Nat)(n:Nat)(a:List ic){D c b d:Type}[Sls D][Sls c][Sls b][Ow d](w:D->(c->Prop)->(d->b->Prop)->(gH->b->Prop)->Prop):Prop:=∃t,Qg X e a t/\Vm E T f n t w
def VB{g:List ic}{c:List Nat}{n:Nat}{D h e b f:Type}[Sls D][Sls h][Sls e][Sls b][Ow f]{i:ic}{a:List ic}{j:D->(e->Prop)->(f->b->Prop)->(gH->b->Prop)->Prop}{k:e->(h->Prop)->(f->b->Prop)->(gH->b->Prop)->Prop}(o:S1 X E T c n i j)(p:Z5 X g E T c n a k)(q:RY b c n:=by exact vn q0q) :
  Z5 X g E T c n (i::a) (λd r l m=>j d (λs=>k s r l m) l m) :=
 e1a2 o λx t u=> e1a2 p λy v w=> #[_,yj (Qh t) v,Vn q u w]
def TU{o:ic}{A:jq}{b:List Env}{s:gO}{fb:List ic}{ms:List Nat}{n k:Nat}{l:List Str}{B t:Type}[Sls B][Sls t]{fl:Bool}{wf:Wf (Bd C fl×B) Unit t}{u:List iD}{p2:Pos}[Fu B][L:Ln B n]
 (D:Kl P K C f j z "self") (S:xg l l (uK o)) (h0:l[0]?=↑("self":Str)) (J:NF p0 p1 apos pos m u) (G:Fs P w K mg base C m l (ye T wf) k) (hr:v4 k (A.deeper<|iO i (uK o) ⇑s f (.ref j) [("__class__",z)]))
 (ha:PA (Kj (vF P w) P w K mg base l i (uK o) f (.ref j) [("__class__",z)] A b s H E) u ta)
 (N:∀(a:gH)(r:List V)(H:Hp)(Q:List V->Hp->Prop),r.length=n->Q r H->ta ((V.ref a::r).map some) H Q) (O:∀(I:gH)(U:Env),mi K I=true->Qi K I pos u U) (X:(m==99)=false:=by decide) (Y:jN (.Call (.Attribute 79 m apos) u [] pos) none p2.line (iO i (uK o) ⇑s f (.ref j) [("__class__",z)])=pure false:=by rfl) :
    Z5 (Kj (vF P w) P w K mg base l i (uK o) f (.ref j) [("__class__",z)] A b s H E) fb E T ms (n+1) [.Expr (.Call (.Attribute 79 m apos) u [] pos) p2] (λ(d:Bd C fl×B)(Z:t->Prop)(_:Unit->t->Prop) Ke=>wf d (λ_ p=>Z p) Ke):=by
  refine e2a4 G.ex λI ab M G hb aa=>?_
  refine#[_,yj (Ep (GF D h0 S.ks S.kc (S.par _<|jD h0) aa M.find M.ty M.fn G hb hr ha (O I _ M.fn) J X) Y)<|Dv y8,λd F R σ H1 Z Kr Ke En s1 hw kn kr ke=>?_]
  refine e4a4 (id s1.rel) λv ae F1 F2 e t2 h3 h4=>?_
  obtain⟨a,dx,d1,d2,d3,d4,us,rfl,_,g⟩:=id h3
  obtain⟨r,rfl⟩:=Fu.fu h4
  have hl:=L.ln h4
  rw[gN]at hl
  subst e
  refine#[a,dx,_,rfl,g.ob,N a r H1 _ hl #[F,R,d,λ_ p=>Z p,Ke,s1,hw,λx p' v M1 M2 R' H' q c s' n'=>?_,λC y p' F' R' H' q c s'=>?_]]
  · exact kn p' M2 R' H' _ q (c.less λa h => .inr h) s'<|Ag.refl _ _
  · exact ke C y p' F' R' H' q c (by rw[jc<|by simp[hl]]; exact s')
def Ze{J:ic}{M:List Str}{k n:Nat}{ms:List Nat}{A PO:Type}[Sls A][Sls PO][L:Ln A n](dp:RY PO ms n){w0:A->(PO->Prop)->(Unit->PO->Prop)->81->Prop}
 (F:BM P K C x j J f fd) (S:xg M M (uK J)) (hn:M.length=n)
 (r:∀(i u:gH)(A:jq)(b:List Env)(s:gO)(H:Hp)(E:XK),Kl P K C f i u "self"->v4 k (A.deeper<|iO j (uK J) ⇑s f (.ref i) [("__class__",u)])->Z5 (Kj (vF P w) P w K mg base M j (uK J) f (.ref i) [("__class__",u)] A b s H E) (vq J) E T ms n (vq J) w0) :
    vt P w K mg base (vF P w) (k+1) f fd M (ye T λ(p:A)(X:Unit->PO->Prop) N=>w0 p (λY=>X () Y) X N):=by
  have l:∀{o:List V} {H:Hp} {Q:VK} {E:XK},ye T (λ(p:A)(X:Unit->PO->Prop) N=>w0 p (λY=>X () Y) X N) o H Q E->o.length=n:=λh=>by
    obtain⟨F,R,p,Kn,N,s,_⟩:=h
    have:=L.ln s.rel
    rwa [gN]at this
  obtain⟨oc,od,kV,ae,pm,an,i,u,ct,af,rfl,lk,aa,D⟩:=F.ex
  obtain⟨o1,o2,o3,B⟩:=D.cell
  refine GG lk aa (S.x u) (λy c h=>?_) (λo H Q E h=>(l h).trans hn.symm) λAr b s H o Q E hr Z=>?_
  · have e : c = u := by
      by_cases e:(y==99)=true
      · rw[iz, e]at h; cases h; rfl
      · rw[iz, Bool.eq_false_iff.mpr e]at h; cases h
    subst e
    exact#[_,_,B,rfl]
  refine e1a2 (r i u Ar b s H E D hr) λt h1 h2=>?_
  refine#[t,h1,?_]
  have hl:=l Z
  obtain⟨F,R,p,Kn,N,s0,hw,kn,ke⟩:=Z
  have ab:start M o=o.map some:=by unfold L2.start;rw[hl,hn,qx];simp
  rw[ab]
  have G:(o.map some).take n=o.map some:=jc (by rw[gN,hl];exact gK _)
  refine h2 p F R _ H _ Kn N _ s0 hw (λY F' O U I q c d g=>?_) (λx p' v F1 F2 O U q c d m=>?_) λC y p' F' O U q c d=>?_
  · have e' : I.take n = I := jc (by rw[g.1, gN, hl]; exact gK _)
    have g3:=dp.dp g (show rel F' O U Y (I.take n) by rw[e'];exact d.rel)
    rw[G]at g3
    exact kn () _ .wm (λ_=>False) F' O U q (c.less λa h=>h.elim (λz=>z.elim) id) #[g3,d.sub,d.wT,d.tab,d.vG,d.vv] #[#[λ_ z=>z,.wm,rfl,rfl],λ_ z=>z.elim,λ_ z=>z.elim,λz=>z]
  · rw[G]at d
    exact kn x p' v F1 F2 O U q c d m
  · rw[G]at d
    exact ke C y p' F' O U q c d
def Dw(C:gH):Sp:=λi H Q E=>∃p h,i=[.ref p]/\H p=↑(.ins C h []) /\
 ∀c d e f g,(∀a,a=c\/a=d\/a=e\/a=f->H a=none)->[c,d,e,f].Nodup->g p=↑(.ins C h<|yq c d e f 0 true)->(∀a,a=c\/a=d\/a=e\/a=f->g a=↑(.dK []))->(∀b o,b≠p->H b=↑o->g b=↑o)->Q .wm g
def Qj{C:gH}{J:ic}{k:Nat}{p3 p4:Pos}{i:List ic}(F:BM P K C "__init__" q J f fd)(S:xg ["self"] ["self"] (uK J))(ct:AK K C)(cf:P1 K C)(T:NF p0 p1 apos pos "__init__" [])
 (U:vq J=.Expr (.Call (.Attribute 79 "__init__" apos) [] [] pos) p2::i) (G:Fs P w K mg base C "__init__" ["self"] (GD C) k)
 (W:∀X,jN (.Call (.Attribute 79 "__init__" apos) [] [] pos) none p2.line X=pure false)
 (Y:∀(j r:gH)(A:jq)(d:List Env)(s:gO)(H:Hp)(E:XK),EU (Kj (vF P w) P w K mg base ["self"] q (uK J) f (.ref j) [("__class__",r)] A d s H E) i<|Jy (M3 K (vr 0) DO "head_by_tail")<|M3 K (vr 0) DO "tail_by_head") :
    vt P w K mg base (vF P w) (k+1) f fd ["self"] (Dw C):=by
  obtain⟨oc,od,kV,af,pm,an,j,r,ag,ah,rfl,lk,Z,D⟩:=F.ex
  refine e2a4 G.ex λf2 ai M G hB aa=>?_
  obtain⟨o1,o2,o3,l⟩:=D.cell
  refine GG lk Z (S.x r) (λy c h=>?_) (λvs H Q E z9=>e2a2 z9 λp t e _=>by rw[e];rfl) λAr d s H vs Q E hr ab=>?_
  · have e : c = r := by
      by_cases e:(y==99)=true
      · rw[iz, e]at h; cases h; rfl
      · rw[iz, Bool.eq_false_iff.mpr e]at h; cases h
    subst e
    exact#[_,_,l,rfl]
  refine#[_,by rw[U];exact yj (Ep (GF D rfl S.ks S.kc (S.par _ gM) aa M.find M.ty M.fn G hB hr u4 (cw_nil M.fn) T)<|W _)<|Dv<|Y j r Ar d s H E,?_]
  obtain⟨p,t,rfl,m,k⟩:=ab
  refine#[p,t,[],rfl,m,p,t,rfl,m,λL N H1 h1 h2 ae g1 g2 g3 g4=>?_]
  intro u v
  have O:p≠u:=uU g1 v
  have q2:L≠u:=uU g2 v
  have q3:N≠u:=uU g3 v
  refine#[_,rfl,p,C,t,_,rfl,(by rw[uL O];exact g1),ct.cl,cf.nH,(by show 3<1000;decide),?_]
  intro B g
  have R:p≠B:=λz=>by rw[<- z,uO]at g;cases g
  rw[uL R.symm]at g
  have r2:B≠u:=λz=>by rw[z,uO]at g;cases g
  rw[uL r2]at g
  have r3:L≠B:=uU g2 g
  have r4:N≠B:=uU g3 g
  refine#[_,rfl,p,C,t,_,rfl,(by rw[uL R,uO]),ct.cl,cf.nT,(by show 4<1000;decide),?_]
  have I:∀{b:gH} {o:HO},H b=↑o->b≠p->H1 b=↑o:=λh n=>g4 _ _ n h
  have z:∀{a:gH},a≠p->H1 a=none->H a=none:=λ{a} n h=>by
    cases e:H a with
    |none=>rfl
    |some o=>rw[I e n]at h;cases h
  refine k L N u B _ (λa ha=>?_) ?_ ?_ (λa ha=>?_) λb o nb Y=>?_
  · rcases ha with e|e|e|e <;> rw[e]
    · exact h1
    · exact h2
    · exact z O.symm v
    · exact z R.symm g
  · simp only[List.nodup_cons, ii, jb, lX, pY, ny, and_true, not_false_eq_true]
    exact#[#[ae,q2,r3],#[q3,r4],r2.symm]
  · rw[uO]; rfl
  · have pd : p ≠ L := λe => by rw[e, h1]at m; cases m
    have pe:p≠N:=λe=>by rw[e,h2]at m;cases m
    rcases ha with e|e|e|e<;>rw[e]
    · rw[uL pd.symm, uL r3, uL pd.symm, uL q2]; exact g2
    · rw[uL pe.symm, uL r4, uL pe.symm, uL q3]; exact g3
    · rw[uL O.symm, uL r2.symm, uL O.symm, uO]
    · rw[uL R.symm, uO]
  · have e := I Y nb
    rw[uL nb,uL<|uU e g,uL nb,uL<|uU e v]
    exact e
section
variable{D:Type}[Sls D]
def Qk{k:Nat}(M:Mk X.K C f)(F:vt X.prog X.w X.K X.mg X.base (vF X.prog X.w) k f fd ["self"] (Dw C))(hr:v4 (k+1) X.A)(hg:Gl X x)(hm:X.mg x=↑(.ref C))(hb:Binds X.K fd ["self"] [])(hx:Passes (vF X.prog X.w) X E)(J:(x==55)=false:=by decide) :
  EO X E T (.Call (.Name x p) [] [] pos) (λ(d:D)(O:Bd C true->D->Prop) _=>O #[[],[],0,[],[]] d):=by
 refine#[_,OE M F hr hg hm hb .nil hx J,λd F' R σ H O Ke Q s hw kn _=>?_];intro y c L n m;refine#[y,c,rfl,uO,λg i j l r hn nd P v S=>#[rfl,?_]]
 have N:∀a,a=g\/a=i\/a=j\/a=l->a≠y/\a≠c/\H a=none:=λa ha=>by
  have h:=hn a ha;have U:a≠y:=λz=>by rw[z,uO]at h;cases h
  rw[uL U]at h;have W:a≠c:=λz=>by rw[z,uO]at h;cases h
  rw[uL W]at h;exact#[U,W,h]
 have B:∀a,a∈adr y c g i j l true->a=y\/a=c\/a=g\/a=i\/a=j\/a=l:=λa h=>by simpa[adr] using h
 have G:∀a,a∈adr y c g i j l true->H a=none:=λa h=>(B a h).elim (λz=>by rw[z];exact L) λh=>h.elim (λz=>by rw[z];exact n) λh=>(N a h).2.2;have I:∀b o,H b=↑o->r b=↑o:=λb o q=>S b o (uU q L) (by rw[uL<|uU q L,uL<|uU q n];exact q);have Y:r c=some (.own y):=S c _ m (by rw[uL m,uO]);have hl:∀a,a∈adr y c g i j l true->r a≠none:=λa h=>(B a h).elim (λz=>by rw[z,P];simp) λh=>h.elim (λz=>by rw[z,Y];simp) λh=>by rw[v a h];simp
 have Z:Ext (λ_=>False) R H (λa=>R a\/a∈adr y c g i j l true) r:=#[λb o _ h=>I b o h,λa h=>h.elim .inl λq=>.inr<|G a q]
 refine kn _ d (.ref y) (λa=>a∈adr y c g i j l true) F' (λa=>R a\/a∈adr y c g i j l true) r hw #[λb o _ _ h=>I b o h,Z.new,λa h=>h.elim (λq=>.inr<|G a q) .inl,λa h _=>.inl h]
  #[Sls.st s.rel Z (λ_ z=>z.elim)<|λ_ _ z=>z,λa h=>.inl<|s.sub a h,λa h=>h.elim (λz=>?_)<|hl a,?_,.inl s.vG,s.vv] ⟨⟨y,c,g,i,j,l,[],rfl,λ_=>Iff.rfl,#[?_,P,Y,v _<|.inl rfl,v _<|.inr<|.inl rfl,.nil,λ_=>v _<|.inr<|.inr<|.inl rfl,λ_=>v _<|.inr<|.inr<|.inr rfl]⟩,λa h=>.inr h,λa h z=>s.wT a (s.sub a z)<|G a h,λh=>yO s.tab<|G T h⟩
 ·cases e:H a with
  |none=>exact g8 e<|s.wT a z
  |some u=>rw[I a u e];simp
 ·refine e1a2 s.tab λps e t=>?_;exact#[ps,I _ _ e,t]
 ·show [y,c,g,i,j,l].Nodup;refine List.nodup_cons.mpr #[λh=>?_,List.nodup_cons.mpr #[λh=>?_,nd]]
  ·rcases List.mem_cons.mp h with z|z
   ·exact m z.symm
   ·exact(N y<|by simpa using z).1 rfl
  ·exact(N c<|by simpa using h).2.1 rfl
end
section
variable{X:Cx}{scope:lV}{T:List Str}{i j:Nat}{x y:Str}{c d:gH}
def Zf(a:scope.kind=.function/\om scope X.env=pure []:=by exact#[rfl,rfl])
 (b:(∀z∈scope.names,z.2≠.cell)/\(∀z∈scope.names,z.2=.local->scope.names.lookup z.1=some .local)/\∀z∈scope.names,z.2≠.free:=by refine#[?_,?_,?_]<;>decide +kernel):yF X scope [] T [] [] :=
  #[a.1,a.2,b.1,b.2.1,(λ_ _ h=>by cases h),λz f e=>g8 e<|b.2.2 z f,(λj z h=>by cases h),rfl]
def VC(a:scope.kind=.function/\om scope X.env=pure [(x,c)]/\X.env.cells.lookup x=↑c/\X.N[i]?=↑x/\X.env.kindOf x=some .cell/\(oJ scope X.env).names.lookup x=some .cell:=by exact#[rfl,rfl,rfl,rfl,rfl,rfl])
 (b:(∀z∈scope.names,z.2≠.cell)/\(∀z∈scope.names,z.2=.local->scope.names.lookup z.1=some .local)/\∀z∈scope.names,z.2=.free->z.1=x:=by refine#[?_,?_,?_]<;>decide +kernel):yF X scope [(x,c)] T [x] [i] :=
  have f:∀{z:Str},z=x->j7 z [(x,c)]=↑c:=λ{z} e=>by rw[e,iz,pc]
  #[a.1,a.2.1,b.1,b.2.1,(λz e h=>(lkc h).elim (λq=>by rw[q.1,q.2];exact a.2.2.1) λq=>by cases q),λz g e=>#[c,f (b.2.2 z g e)],(λk z h=>by
    cases k with
    |zero=>cases h;exact#[i,c,rfl,a.2.2.2.1,.inl a.2.2.2.2.1,f rfl,.inl a.2.2.2.2.2]
    |succ k=>cases h),rfl]
def Z6(a:scope.kind=.function/\om scope X.env=pure [(y,d),(x,c)]/\X.env.cells.lookup x=↑c/\X.env.cells.lookup y=↑d/\X.N[i]?=↑x/\X.N[j]?=↑y/\X.env.kindOf x=some .cell/\X.env.kindOf y=some .cell/\(oJ scope X.env).names.lookup x=some .cell/\(oJ scope X.env).names.lookup y=some .cell:=by exact#[rfl,rfl,rfl,rfl,rfl,rfl,rfl,rfl,rfl,rfl])
 (b:(∀z∈scope.names,z.2≠.cell)/\(∀z∈scope.names,z.2=.local->scope.names.lookup z.1=some .local)/\(∀z∈scope.names,z.2=.free->z.1=x\/z.1=y)/\¬x=y:=by refine#[?_,?_,?_,?_]<;>decide +kernel):yF X scope [(y,d),(x,c)] T [x,y] [i,j] :=
  have f:∀{z:Str},z=y->j7 z [(y,d),(x,c)]=↑d:=λ{z} e=>by rw[e,iz,pc]
  have g:∀{z:Str},z=x->j7 z [(y,d),(x,c)]=↑c:=λ{z} e=>by rw[e,iz,beq_eq_false_iff_ne.mpr b.2.2.2,iz,pc]
  #[a.1,a.2.1,b.1,b.2.1,(λz e h=>(lkc h).elim (λq=>by rw[q.1,q.2];exact a.2.2.2.1) λh=>(lkc h).elim (λq=>by rw[q.1,q.2];exact a.2.2.1) λq=>by cases q),λz l e=>(b.2.2.1 z l e).elim (λq=>#[c,g q]) λq=>#[d,f q],(λk z h=>by
    cases k with
    |zero=>cases h;exact#[i,c,rfl,a.2.2.2.2.1,.inl a.2.2.2.2.2.2.1,g rfl,.inl a.2.2.2.2.2.2.2.2.1]
    |succ k=>cases k with
      |zero=>cases h;exact#[j,d,rfl,a.2.2.2.2.2.1,.inl a.2.2.2.2.2.2.2.1,f rfl,.inl a.2.2.2.2.2.2.2.2.2]
      |succ k=>cases h),rfl]
end
end WL
namespace WL
open PySem L2
open Rep (rp)
open Ow (sl)
open Sls (rel)
open Rep (rp)
open Ow (sl)
open Sls (rel)
instance:WY Bool "bool" true:=#[λ{K R H x v} h=>by
 have h:v=V.bl x:=h;subst h
 exact#[_,za.bl x,by rfl]]
instance{α β:Type}[Rep α][Rep β]:WY (α×β) "tuple" true:=#[λ{K R H x v} h=>by
 obtain⟨a,u,w,rfl,_,h3,_⟩:=h
 exact#[_,za.tup h3,by rfl]]
section
variable{X:Cx}{E:XK}{T:gH}{D α β:Type}[Sls D][Rep α][Rep β]{pos:Pos}
def TV{a:iD}{p:Pos}{c:Wf D (α×β) D}(g:Gl X "len")(h:X.mg "len"=none)(i:EW X E T a c)(e:gJ [a] X.env=75::gJ [] X.env:=by rfl) :
  EW X E T (.Call (.Name "len" p) [a] [] pos) (cK c λ(f:Int->D->Prop) _ b=>f 2 b):=by
 refine e1a2 i λI j k=>?_;refine#[_,ww wX g h mo (uS j u4 e) (he:=e),λd F R l H f m Q s n o r=>k d F R l H _ m _ s n (λx b u t y H1 z A B C=>?_) r];obtain⟨q,v,w,rfl,_,G,J,L⟩:=C;exact#[_,_,rfl,.inr<|yI.of G,o _ b _ t y H1 z A B rfl]
end
variable[L2.GX]
structure Dc(α:Type) where
 l:List (Int×α)
def PK{α:Type}[Rep α](R:Rg)(H:Hp):List (Int×α)->List (Key×V)->Prop:=Paired λe u=>u.1=ie e.1/\rp R H e.2 u.2
section
variable{α:Type}[Rep α]
def Ql(e:Ext R R H b c):∀{l:List (Int×α)} {a:List (Key×V)},PK R H l a->PK b c l a:=by
 intro _ _ z
 induction z with
 |nil=>exact .nil
 |cons h t d=>exact .cons #[h.1,Rep.st h.2 e] d
def Km{k:Int}:∀{l:List (Int×α)} {us:List (Key×V)},PK R H l us->(∀b,lk l k=↑b->∃v,yb us (ie k)=↑v/\rp R H b v)/\(lk l k=none->yb us (ie k)=none):=by
 intro z0 z1 z9
 induction z9 with
 |nil=>exact#[(λb h=>by cases h),λ_=>rfl]
 | @cons e u l us h t W0 =>
  have i:=W0;by_cases q:e.1=k
  ·have e1:lk (e::l) k=↑e.2:=by unfold lk;rw[iK,decide_eq_true q];rfl
   rw[e1];refine#[λb hb=>?_,(λz=>by cases z)];cases hb;exact#[u.2,yK (by rw[h.1,q]),h.2]
  ·have e1:lk (e::l) k=lk l k:=by unfold lk;rw[iK,ij q]
   rw[e1,yL<|by rw[h.1];intro z;exact q<|nj z];exact i
def Mi{k:Int}{l:List (Int×α)}{us:List (Key×V)}(h:PK R H l us):(yb us<|ie k).isSome=(lk l k).isSome:=by
 have i:=Km (k:=k) h
 cases e:lk l k with
 |none=>rw[i.2 e];rfl
 |some b=>obtain⟨v,hv,_⟩:=i.1 b e;rw[hv];rfl
def Ko:∀{l:List (Int×α)} {a:List (Key×V)},PK R H l a->a.length=l.length
 |_,_,.nil=>rfl
 |_,_,.cons _ t=>by rw[hX,hX,Ko t]
def Qm{k:Int}{x:α}{v:V}(r:rp R H x v):∀{l:List (Int×α)} {us:List (Key×V)},PK R H l us->PK R H (l++[(k,x)]) (us++[(ie k,v)])
 |_,_,.nil=>.cons #[rfl,r] .nil
 |_,_,.cons h t=>.cons h<|Qm r t
def W3{k:Int}{x:α}{v:V}(r:rp R H x v):∀{l:List (Int×α)} {us:List (Key×V)},PK R H l us->PK R H (l.map λe=>if e.1=k then (e.1,x) else e) (us.map λkv=>if kv.1=ie k then (kv.1,v) else kv):=by
 intro z0 z1 z9
 induction z9 with
 |nil=>exact .nil
 | @cons e u l us h t W0 =>
  refine .cons ?_<|W0;dsimp only;by_cases q:e.1=k
  ·rw[gI q,gI<|by rw[h.1,q]];exact#[h.1,r]
  ·rw[cr q,cr<|by rw[h.1];intro z;exact q<|nj z];exact h
def Qn{k:Int}(r:rp R H x v){l:List (Int×α)}{us:List (Key×V)}(h:PK R H l us):PK R H (pk l k x) (putK us (ie k) v):=by
 unfold putK pk;rw[zM,Mi h]
 cases (lk l k).isSome with
 |true=>rw[gI rfl,gI rfl];exact W3 r h
 |false=>rw[cr gV,cr gV];exact Qm r h
end
instance{α:Type}[Rep α]:Ow (Dc α):=#[λF R H x v=>∃a us,v=↑(.ref a)/\(∀b,F b↔b=a)/\H a=↑(.dK us)/\PK R H x.l us,
 λh e s n=>by
  refine e2a4 h λa us h1 h2 h3 h4=>?_
  exact#[a,us,h1,h2,e.keep a _ (n a<|(h2 a).mpr rfl) h3,Ql (e.wide s) h4],
 λh e=>by
  refine e2a4 h λa us h1 h2 h3 h4=>?_
  exact#[a,us,h1,λb=>(e b).symm.trans (h2 b),h3,h4]]
instance{α:Type}[Rep α]:Hs (Dc α):=#[λz9=>e2a2 z9 λ_ _ h _=>#[_,h]]
section
variable{D PO τ:Type}[Sls D][Sls PO][Ow τ]{α:Type}[Rep α]
def Dx{i:Nat}[Sls c][A:At i D (Dc α) c](s:vQ T F R H d e):∃a b,e[i]?=↑(some<|.ref a)/\H a=↑(.dK b)/\PK R H (A.get d).l b:=by obtain⟨v,j,k,f,m,⟨a,b,rfl,n,g,h⟩,o⟩:=A.take s.rel;exact#[a,b,f,g,h]
def Qo{i:Nat}[Sls w][A:At i D (Dc α) w][U:Pt i w (Dc α) D](s:vQ T F R H d x):∃a g,x[i]?=↑(some<|.ref a)/\H a=↑(.dK g)/\PK R H (A.get d).l g /\
  ∀(j:List (Int×α)) (f:List (Key×V)),PK R H j f->Ch T F R H F R (upd H a<|.dK f)/\vQ T F R (upd H a<|.dK f) (U.put (A.hole d) #[j]) x:=by
 obtain⟨v,N,O,y,m,⟨a,g,rfl,p,E,G⟩,I⟩:=A.take s.rel;have r:F a:=(m.all a).mpr<|.inl<|(p a).mpr rfl;have J:a≠T:=λz=>s.vv (by rw[<- z];exact r);refine#[a,g,y,E,G,λj f L=>?_];have B:=zi (F:=F) (R:=R) (H:=H) (a:=a) (o:=.dK f);have C:∀c,c=a->R c:=λc z=>by rw[z];exact s.sub a r
 have k:∀b u,b≠a->H b=↑u->upd H a (.dK f) b=↑u:=λb u z e=>by rw[uL z];exact e
 refine#[#[λb o n _ e=>k b o (λz=>n<|by rw[z];exact r) e,λ_ h=>.inl h,λ_ h=>.inl h,λ_ h _=>h],Pt.same (A:=U) (Sls.st I B C λc z q=>m.xZ c ((p c).mpr q) z) y m #[a,f,rfl,p,uO,Ql (B.wide C) L],s.sub,λc z=>?_,?_,s.vG,s.vv]
 ·by_cases e:c=a
  ·rw[e,uO];simp
  ·rw[uL e];exact s.wT c z
 ·refine e1a2 s.tab λM e t=>?_;exact#[M,k _ _ (λz=>J z.symm) e,t]
def Er{a:iD}(i:Nat){D0:Type}[Sls D0][A:At i D (Dc α) D0]{wk:Wf D Int D}(hu:X.A.units+1<ky)(hn:PE X (.Name x p1) (vr i))(hk:EW X E T a wk)(hs:OQ a:=by intro _ _;rfl) :
  EW X E T (.Subscript (.Name x p1) a pos) (cK wk λ(Kn:α->D->Prop) k d1=>∃v,lk (A.get d1).l k=↑v/\Kn v d1):=by
 refine e1a2 hk λta a1 a2=>?_;refine#[_,Gb hu hn a1 hs,λd F R σ H Kn Ke Q s hw kn ke=>?_];obtain⟨y0,us0,h1,_,_⟩:=Dx (i:=i) s;refine#[_,h1,a2 d F R σ H _ Ke _ s hw (λk d1 u F1 R1 H1 q1 c1 s1 r1=>?_) ke];subst r1;obtain⟨y,us,g1,g2,g3⟩:=Dx (i:=i) s1;rw[h1]at g1;cases g1;refine e1a2 q1 λz z1 z2=>?_;refine e1a2 ((Km g3).1 z z1) λv v1 v2=>?_;have g:=xS.k (k:=ie k) g2;rw[v1]at g;exact#[_,v,rfl,g,kn z d1 v F1 R1 H1 z2 c1 s1 v2]
def Qp(i:Nat){B:Type}[Sls B][A:At i D (Dc α) B][U:Pt i B (Dc α) D][J:Pj D PO n]{M:Wf D Int D}{N:Wf D α D}(hu:X.A.units+1<ky)(hn:PE X (.Name x O) (vr i))(hk:EW X E T a M)(he:EW X E T e N)
 (hs:jN e (some<|.Subscript (.Name x O) a p3) pos.line X.env=pure false:=by rfl) :
    S1 X E T ms n (.Assign [.Subscript (.Name x O) a p3] e pos) (λ(d:D)(P:D->Prop)(Kr:τ->PO->Prop) j=>N d (λv I=>M I (λk r=>(A.get r).l.length<gL/\P (U.put (A.hole r) #[pk (A.get r).l k v])) λC f=>j C<|J.pj f) λC f=>j C<|J.pj f):=by
  refine e1a2 hk λta a1 a2=>?_
  refine e1a2 he λte b1 b2=>?_
  have Q:∀{F R g h:Rg} {H b:Hp} {C y:gH} {f:D} {m:St} {j:gH->PO->Prop},(∀C y S g h b,j C S->Ch T F R H g h b->vQ T g h b S (m.take n)->E (.ref C) ↑y b)->j C (J.pj f)->Ch T F R H g h b->vQ T g h b f m->E (.ref C) ↑y b:=λt q c p=>by
    refine e1a2 (wp (PO:=PO) p) λG z L=>?_
    exact t _ _ _ G _ _ q (c.less z) L
  refine#[_,Gc hu hn a1 b1 hs,λd F R m H P Kr j En s hw kn kr t=>b2 d F R m H _ _ _ s hw (λv I u F1 R1 H1 q1 W o r1=>?_) λC y f g h b q c p=>Q t q c p]
  obtain⟨y0,aa,Y,_,_⟩:=Dx (i:=i) o
  refine#[_,Y,a2 I F1 R1 m H1 _ _ _ o q1 (λk r w F2 R2 H2 Z c2 s2 r2=>?_) λC y f g h b q c p=>Q t q (Ch.trans s o.tab W c) p]
  subst r2
  refine e2a4 (Qo (i:=i) s2) λy us z L g3 g4=>?_
  rw[Y]at z
  cases z
  obtain⟨c3,s3⟩:=g4 _ _<|Qn (k:=k) (o.val c2 r1) g3
  exact#[_,_,rfl,Ga.k (k:=ie k) L (by rw[Ko g3];exact Z.1),kn _ F2 R2 _ m Z.2 (Ch.trans s o.tab W<|Ch.trans o s2.tab c2 c3) s3<|Ag.refl _ _]
end
section
variable{D PO τ:Type}[Sls D][Sls PO][Ow τ]{α β:Type}[Rep α][Rep β]
def FM{i:Nat}[Sls c][A:At i D (List Int) c](s:vQ T F R H d e):∃a,e[i]?=↑(some<|.ref a)/\H a=↑(.lst<|(A.get d).map V.int):=by obtain⟨v,h,j,f,_,⟨_,u,rfl,a,k,rfl,_,b,g⟩,_⟩:=A.take s.rel;rw[paired_ints g]at b;exact#[a,f,b]
def Z7(i j:Nat)[Sls D1][Sls D2][A:At i D (List Int) D1][B:At j D (List Int) D2](u:X.calm=true)(v:Gl X "sorted")(C:X.mg "sorted"=none)(L:Gl X "set")(M:X.mg "set"=none)(hn:PE X (.Name x c) (vr i))(G:PE X (.Name y e) (vr j))
 (f:gJ [.Name x c] X.env=(false,eval (.Name x c) X.env)::gJ [] X.env:=by rfl) (g:gJ [.Name y e] X.env=(false,eval (.Name y e) X.env)::gJ [] X.env:=by rfl)
 (h:gJ [.BinOp (.Call (.Name "set" N) [.Name x c] [] O) .BitXor (.Call (.Name "set" P) [.Name y e] [] S) W] X.env=(false,eval (.BinOp (.Call (.Name "set" N) [.Name x c] [] O) .BitXor (.Call (.Name "set" P) [.Name y e] [] S) W) X.env)::gJ [] X.env:=by rfl) :
    EO X E T (.Call (.Name "sorted" q1) [.BinOp (.Call (.Name "set" N) [.Name x c] [] O) .BitXor (.Call (.Name "set" P) [.Name y e] [] S) W] [] pos)
      (λ(d:D)(Y:OL Int->D->Prop) _=>(xR (A.get d)/\xR (B.get d)/\∃U:List Int,U.length<64/\(∀k∈A.get d,k∈U)/\∀k∈B.get d,k∈U)/\Y #[xr (A.get d)<|B.get d] d):=by
  refine#[_,ww (Bw u) v C kd (uS (wC SR (xi (Iq u) L M nQ (uS hn u4 f) (he:=f))<|xi (Iq u) L M nQ (uS G u4 g) (he:=g)) u4 h) (he:=h),λd F R σ H Y Ke Q s hw kn ke=>?_]
  obtain⟨⟨Z,rb,U,hU,ua,ub⟩,o⟩:=hw
  have la:=wq Z ua
  have lb:=wq rb ub
  refine e1a2 (FM (i:=i) s) λa a1 a2=>?_
  refine#[_,a1,a,A.get d,rfl,vX.of a2,q0a,λp ka hp aa ab ma=>?_]
  refine e0a3 (s.new (wS X.w p ka) hp) λt c1 _=>?_
  refine e1a2 (FM (i:=j) t) λb b1 b2=>?_
  refine#[_,b1,b,B.get d,rfl,vX.of b2,q0a,λq kb hq ae af mb=>?_]
  refine e0a3 (t.new (wS X.w q kb) hq) λI c2 _=>?_
  have J:p≠q:=uU uO hq
  refine#[p,q,ka,kb,rfl,rfl,by rw[uL J];exact uO,uO,q0a,λr m hr n mc=>?_]
  refine e0a3 (I.new (wS X.w r m) hr) λs3 c3 _=>?_
  have mm:∀k,k∈m↔k∈xr (A.get d) (B.get d):=λk=>by
    rw[mc,A9<|vm rb,ma,mb]
    by_cases h1:k∈A.get d<;>by_cases h2:k∈B.get d<;>simp[h1,h2]
  have lc:m.length<64:=by
    have:=SX.yM m U n λk o=>by
      rw[mc,ma,mb]at o
      exact o.elim (λz=>ub k z.1) λz=>ua k z.2
    lia
  refine#[r,m,rfl,uO,lc,λl ns hl pn sn=>?_]
  rw[DZ pn sn,Eg n mm<|zW Z]
  refine e1a3 (xk s3 hl<|xH (R:=R)<|xr (A.get d)<|B.get d) λR' c4 s4 n4=>?_
  exact kn _ d _ _ F R' _ o (Ch.trans s t.tab c1<|Ch.trans t I.tab c2<|Ch.trans I s3.tab c3 c4) s4 n4
end
structure T3(α β γ:Type) where
 a:α
 b:β
 c:γ
instance{α β γ:Type}[Ow α][Ow β][Ow γ]:Ow (T3 α β γ):=#[λF R H x v=>∃p u1 u2 u3 F1 F2 F3,v=↑(.ref p)/\¬R p/\H p=↑(.tup [u1,u2,u3])/\Ea F F1 F2 F3/\sl F1 R H x.a ↑u1/\sl F2 R H x.b ↑u2/\sl F3 R H x.c ↑u3,
 λh e s n=>by
  obtain⟨p,u1,u2,u3,F1,F2,F3,h1,h2,h3,t,g1,g2,g3⟩:=h
  exact#[p,u1,u2,u3,F1,F2,F3,h1,(e.wide s).not h2 h3,e.keep p _ (λz=>h2<|s p z) h3,t,Ow.st g1 e s λa z=>n a<|(t.all a).mpr<|.inl z,Ow.st g2 e s λa z=>n a<|(t.all a).mpr<|.inr<|.inl z,Ow.st g3 e s λa z=>n a<|(t.all a).mpr<|.inr<|.inr z],
 λh e=>by
  obtain⟨p,u1,u2,u3,F1,F2,F3,h1,h2,h3,t,g⟩:=h
  exact#[p,u1,u2,u3,F1,F2,F3,h1,h2,h3,#[λa=>(e a).symm.trans (t.all a),t.HK,t.Jr,t.Js],g]]
section
variable{D PO τ:Type}[Sls D][Sls PO][Ow τ]{α β γ:Type}[Ow α][Ow β][Ow γ]
def TX{x1}(i j k:Nat)[Sls D'][Sls P][Sls Q][Sls S][Hs α][Hs β][Hs γ][g:At i D α P][l:At j P β Q][t:At k Q γ S][J:Pj S PO n](u:PE X (.Name x v) (vr i))(w:PE X (.Name y m) (vr j))(A:PE X (.Name z e) (vr k))
 (h1:gJ [.Name x v,.Name y m,.Name z e] X.env=(false,eval (.Name x v) X.env)::gJ [.Name y m,.Name z e] X.env:=by rfl) (h2:gJ [.Name y m,.Name z e] X.env=(false,eval (.Name y m) X.env)::gJ [.Name z e] X.env:=by rfl) (h3:gJ [.Name z e] X.env=(false,eval (.Name z e) X.env)::gJ [] X.env:=by rfl) :
    S1 X E T ms n (.Return (some<|.Tuple [.Name x v,.Name y m,.Name z e] x1 p4) pos) (λ(d:D)(_:D'->Prop)(U:T3 α β γ->PO->Prop) _=>U #[g.get d,l.get<|g.hole d,t.get<|l.hole<|g.hole d]<|J.pj<|t.hole<|l.hole<|g.hole d):=by
  refine#[_,B8<|Oz<|uS u (uS w (uS A u4 h3) h2) h1,λd F R σ H Kn U Ke En s hw kn kr ke=>?_]
  refine e3a4 (g.take s.rel) λ_ G1 G2 W b g1 r1=>?_
  obtain⟨B,rfl⟩:=Hs.has g1
  refine e3a4 (l.take r1) λ_ _ _ Y _ g2 r2=>?_
  obtain⟨C,rfl⟩:=Hs.has g2
  refine e3a4 (t.take r2) λ_ _ _ Z _ g3 _=>?_
  obtain⟨I,rfl⟩:=Hs.has g3
  refine#[B,W,C,Y,I,Z,(by show 3<=gL;decide),λp hp=>?_]
  refine e0a3 (s.new (.tup [B,C,I]) hp) λL c1 n1=>?_
  refine e3a4 (g.take L.rel) λv1 o E1 b1 b k1 q1=>?_
  refine e3a4 (l.take q1) λv2 q E2 b2 c k2 q2=>?_
  refine e3a4 (t.take q2) λv3 r E3 b3 f k3 q3=>?_
  rw[W]at b1
  rw[Y]at b2
  rw[Z]at b3
  cases b1
  cases b2
  cases b3
  refine e1a2 (J.le q3) λG l1 l2=>?_
  have i1:∀a,o a->F a:=λa h=>(b.all a).mpr<|.inl h
  have i2:∀a,q a->F a:=λa h=>(b.all a).mpr<|.inr<|(c.all a).mpr<|.inl h
  have i3:∀a,r a->F a:=λa h=>(b.all a).mpr<|.inr<|(c.all a).mpr<|.inr<|(f.all a).mpr<|.inl h
  have M:∀a,G a->F a:=λa h=>(b.all a).mpr<|.inr<|(c.all a).mpr<|.inr<|(f.all a).mpr<|.inr<|l1 a h
  have dG:∀a,o a\/q a\/r a->¬G a:=λa h z=>by
    have N:=l1 a z
    rcases h with h|h|h
    · exact b.xZ a h<|(c.all a).mpr<|.inr<|(f.all a).mpr<|.inr N
    · exact c.xZ a h<|(f.all a).mpr<|.inr N
    · exact f.xZ a h N
  have O:∀a,o a\/q a\/r a->F a:=λa h=>h.elim (i1 a) λh=>h.elim (i2 a)<|i3 a
  exact kr _ _ (.ref p) (λa=>o a\/q a\/r a) G R _ hw #[c1.keep,λ_ h=>.inl h,λa h=>.inl<|h.elim (O a)<|M a,λ_ h _=>h] #[l2,λa h=>s.sub a<|M a h,L.wT,L.tab,s.vG,λh=>s.vv<|M T h]
    #[#[p,B,C,I,o,q,r,rfl,n1,uO,#[λ_=>Iff.rfl,λa h k=>b.xZ a h<|(c.all a).mpr<|.inl k,λa h k=>b.xZ a h<|(c.all a).mpr<|.inr<|(f.all a).mpr<|.inl k,λa h k=>c.xZ a h<|(f.all a).mpr<|.inl k],k1,k2,k3],λa h=>s.sub a<|O a h,λa h z=>dG a h z,λh=>s.vv<|O T h]
def TY(i j k:Nat){ZV WN σ3 D0 D1 D2 D3 D4 D5:Type}[Ow ZV][Ow WN][Ow σ3][Sls D0][Sls D1][Sls D2][Sls D3][Sls D4][Sls D5][A:At i D ZV D0][U:Pt i D0 α D1][A2:At j D1 WN D2][U2:Pt j D2 β D3][A3:At k D3 σ3 D4][U3:Pt k D4 γ D5][J:Pj D PO n]{we:Wf D (T3 α β γ) D}
 (hp:PG X tg (VX X.K 3<|Fo (CH i)<|Fo (CH j)<|Fo (CH k) VW)) (hi:i∉ms) (hj:j∉ms) (hk:k∉ms) (he:EO X E T e we)
 (hb:∀{te:TE} {t:TG},PE X e te->PG X tg t->PS X (.Assign [tg] e pos) (VY te t):=by intro te t h1 h2;exact Jz h1 h2) :
    S1 X E T ms n (.Assign [tg] e pos) (cS we J.pj λ(Kn:D5->Prop)(Kr:τ->PO->Prop) x d1=>Kn<|U3.put (A3.hole<|U2.put (A2.hole<|U.put (A.hole d1) x.a) x.b) x.c):=by
  refine e1a2 he λt h1 h2=>?_
  refine#[_,hb h1 hp,λd F R σ H Kn Kr Ke En s hw kn kr ke=>h2 d F R σ H _ _ _ s hw (λx d1 v F1 F2 R1 H1 q1 c1 s1 m1=>?_) λC y d' F' R' H' q c s'=>?_]
  · obtain⟨p, u1, u2, u3, G1, G2, G3, e1, e2, e3, t3, g1, g2, g3⟩ := m1.is
    cases e1
    have j1:∀a,G1 a->F1 a:=λa h=>(t3.all a).mpr<|.inl h
    have j2:∀a,G2 a->F1 a:=λa h=>(t3.all a).mpr<|.inr<|.inl h
    have j3:∀a,G3 a->F1 a:=λa h=>(t3.all a).mpr<|.inr<|.inr h
    refine e1a2 (FH (i:=i) s1 (x:=x.a) (v:=u1) (F1:=G1) #[g1,λa h=>m1.sub a<|j1 a h,λa h z=>m1.xZ a (j1 a h) z,λh=>m1.tab<|j1 T h]) λL1 k1 f1=>?_
    refine e1a2 (FH (i:=j) f1 (x:=x.b) (v:=u2) (F1:=G2) #[g2,λa h=>m1.sub a<|j2 a h,λa h z=>(k1 a z).elim (λq=>t3.HK a q h)<|m1.xZ a<|j2 a h,λh=>m1.tab<|j2 T h]) λL2 k2 f2=>?_
    refine e1a2 (FH (i:=k) f2 (x:=x.c) (v:=u3) (F1:=G3) #[g3,λa h=>m1.sub a<|j3 a h,λa h z=>(k2 a z).elim (λq=>t3.Js a q h) λz=>(k1 a z).elim (λq=>t3.Jr a q h)<|m1.xZ a<|j3 a h,λh=>m1.tab<|j3 T h]) λL3 k3 f3=>?_
    exact#[p,[u1,u2,u3],rfl,yI.of e3,rfl,u1,[u2,u3],rfl,u2,[u3],rfl,u3,[],rfl,rfl,kn _ L3 R1 H1 _ q1 (c1.less λa h=>(k3 a h).elim (λq=>.inl<|j3 a q) λh=>(k2 a h).elim (λq=>.inl<|j2 a q) λh=>(k1 a h).elim (λq=>.inl<|j1 a q) .inr) f3<|((Ag.set hi).trans<|Ag.set hj).trans<|Ag.set hk]
  · refine e1a2 (wp (PO := PO) s') λG g1 g2 => ?_
    exact ke C y _ G R' H' q (c.less g1) g2
end
end WL
namespace L2
variable[L2.GX]
open PySem PySem.Spec PyProof.Rows
noncomputable abbrev xn(X:Cx)(a:List (gH×Obj))(h:XK)(i:St->Prop):Cx :=
 { X with pn:=a,xe:=λe j=>∃(b:List (gH×Obj)) (c:St) (d:Hp) (f:gO) (C x:gH) (g:Hp),e=.ref x/\Inv { X with pn:=a} b c d f/\i c/\DW X.prog X.w X.stack d f g C x j/\h (.ref C) ↑x g}
def Inv.W4(I:Inv X a b H s):Inv (xn X (X.pn++a) d e) [] b H s :=
 #[51,I.os,I.bare,I.base,I.loc,I.cell,I.free,I.xX,λp c=>I.pin p (by simpa using c),I.vD,I.len]
def Inv.GH(I:Inv (xn X (X.pn++a) e f) b c H s):Inv X a c H s :=
 #[51,I.os,I.bare,I.base,I.loc,I.cell,I.free,I.xX,λp d=>I.pin p<|iW _ d,I.vD,I.len]
def Inv.Zg(I:Inv (xn X b d e) a c H s):Inv { X with pn:=b} a c H s :=
 #[51,I.os,I.bare,I.base,I.loc,I.cell,I.free,I.xX,I.pin,I.vD,I.len]
def Kq(c:OB)(X:Cx)(E:XK)(d:St):Prop:=∀(a:List (gH×Obj)) (H:Hp) (s:gO) (e:ci) (b:gO),Inv X a d H s->c X.stack H s E e b->X.xe e b
def Zh(h:c b):Kq (vF X.prog X.w) (xn X d f c) f b:=by intro a g i e m I j;obtain⟨C,x,k,rfl,F,l⟩:=j;exact#[a,b,g,i,C,x,k,rfl,I.Zg,h,F,l]
def TZ(F:vt X.prog X.w X.K X.mg X.base l k f m g n)(o:v4 k X.A)(p:Binds X.K m g d)(q:Vals b d)(t:Kq l X E i)
 (I:Inv X a i H s)(r:Vals vs us)(h:n (vs++b) H Q E):gS 19 X.A (call (.ref f) us) (EP X a i Q) X.xe s:=by
  have j:Vals (vs++b) (us++d):=r.append q
  have v:(us++d).length=g.length:=by rw[<- j.length];exact F.len _ _ _ _ h
  refine mz<|jL (F.run X.A X.stack s H ⟨us,[]⟩ (us++d) (vs++b) Q E o I.Ib (p s us I.yr v) j h) λr x c=>?_
  cases r with
  |error e=>exact t a H s e x I c
  |ok y =>
    cases y with
    |ret u=>exact I.after c
    |next=>exact io c
    |brk=>exact io c
    |cont=>exact io c
def Qq(c:OB)(X:Cx)(C:gH)(m:Str)(d:Sp)(a:List V)(E:XK)(e:TE)(t:TA):TE:=λb H Q=>Kq c X E b/\Fq C m d a E e t b H Q
def Qr(G:PE X o J)(c:AI X.K C)(v:Meth X.K C m f)(F:vt X.prog X.w X.K X.mg X.base CX k f L M N)(O:v4 k X.A)(P:Binds X.K L M R)(hd:Vals i R)(S:PA X (e::d) t)
 (j:gJ (e::d) X.env=58::gJ d X.env:=by rfl) (n:(jg pos<|gJ d X.env).any (·.1)=false:=by rfl)
 (ht:eval (.Call (.Attribute o m apos) (e::d) [] pos) X.env=(do
 let y <- eval o X.env
 mI apos.atName
 let (f,first) <- kG [y] (mB y m T)
 m8 pos f first (jg pos (gJ (e::d) X.env)) (mJ pos (kH [] X.env))):=by rfl) :
    PE X (.Call (.Attribute o m apos) (e::d) [] pos) (Qq CX X C m N i E J t):=by
  intro b s z H Q I h
  obtain⟨U,h⟩:=h
  refine oA (pl:=T) (vB (G b s z H _ I h) λu Y p=>e2a3 p λx H1 B Z g=>e3a4 g λa dx fs ex ea l q=>?_) ht
  subst ex
  obtain rfl:u=hO a:=Z
  refine AZ B ea c v l ?_
  refine pC (first:=[.ref a]) (h₀:=X.base) I.ok.mod.Bf v.kp (vB (S pos b Y z H1 _ B q) λus s2 p=>e2a3 p λvs H2 D r q2=>#[D.yr,?_]) j n
  exact TZ (us:=.ref a::us) (vs:=.ref a::vs) F O P hd U D (.cons rfl r) q2
def a1j(o:Option (List V))(h h':iG):Prop:=match o with
 |none=>h'=h
 |some xs=>∃zB:List ci,Vals xs zB/\xs.length<=gL/\h'=h.push { cls:=.type "tuple",data:=.seq zB.toArray}
def Lay(o:Option (List V))(H H':Hp):Prop:=match o with
 |none=>H'=H
 |some xs=>∃p,H p=none/\H'=upd H p (.tup xs)
def ClO(X:Cx)(d:iD)(e:List gH)(o:Option (List V)):Prop:=∀(x C:gH) (a:List (gH×Obj)) (s:gO) (f:St) (H:Hp) (Q:Bool->gO->Prop) (E:ci->gO->Prop),C∈e->Inv (hand X x) a f H s->(∃b,s.heap.get? x=↑b/\b.cls=.ref C) ->
 (∀c,a1j o s.heap c->Q true { s with heap:=c}) ->
 gS 19 (X.A.mark<|some<|.ref x) (eval d X.env) (λv g=>gS 19 (X.A.mark<|some<|.ref x) (excMatches (.ref x) v) Q E g) E s
def W5{r:Nat}(e:Gl X f)(g:X.mg f=↑(.ref c))(h:Gl X i)(j:X.mg i=↑(.ref d))(l:lp X.K (.ref c) [.ref c,.ref d]=↑true)(m:lp X.K (.ref d) [.ref c,.ref d]=↑true)
 (t:(f==55)=false:=by decide) (u:(i==55)=false:=by decide) :
    ClO X (.Tuple [.Name f D,.Name i F] r pos) [c,d] (some [.ref c,.ref d]):=by
  intro x n p s G H Q E v I ⟨J,y,A⟩ k
  have B:jF 19 s.heap (typeOf<|.ref x) (.ref n):=A▸(rL y).andThen .now
  refine wpAny_Tuple_spliced ?_
  refine jO<|yY (X:=hand X x) I e g (jO<|yY (X:=hand X x) I h j (kY ?_) u) t
  refine#[by show 2<=gL;decide,?_]
  have q:∀b o,s.heap.get? b=↑o->(s.heap.push { cls:=.type "tuple",data:=.seq [hO c,hO d].toArray}).get? b=↑o:=λb o z=>ce _ z
  have C:lp X.K (.ref n) [.ref c,.ref d]=↑true:=by
    rcases List.mem_cons.mp v with z|z
    · rw[z]; exact l
    · rw[List.mem_singleton.mp z]; exact m
  refine(PySem.W.exm_tup2 (λa o z=>q a o<|I.yr a o z) (B.keeps q) (gW _ rfl) C).here ?_
  exact k _ #[[.ref c,.ref d],.cons rfl<|.cons rfl .nil,(by show 2<=gL;decide),rfl]
def Inv.adopt(I:Inv X a j H s)(f:AX X a H p)(c:vO X.prog X.w (upd H p o) s.heap p o):Inv X a j (upd H p o) s:=by
 refine e0a6 f λi k r l n q=>?_;have d:∀b u,H b=↑u->b≠p:=λb u e z=>by rw[z,i]at e;cases e
 have J:=I.step (h':=s.heap) (g':=s.gens) (d':=s.drawn) (t':=s.toks) (ch:=[p]) (H':=upd H p o) (λb g=>by rw[List.mem_singleton.mp g];exact#[l,k,n,q]) (λb o _ _ _ e _=>e) (λb o _ _ _ e _=>#[o.slots,e])
  (λb _ g _ e=>by rw[uL λz=>g<|by rw[z];exact List.mem_singleton.mpr rfl];exact e) (λb o _ e=>#[o,e]) (λb t e=>by rw[uL<|d b _ e];exact e) (λb o u e=>by rw[uL<|d b _ e];exact e) (λb v e=>#[#v[],by rw[uL<|d b _ e,e];simp]) (λm h=>h) (I.vD.Vk i c) I.bare
 exact J
def Zi(i:XK->(St->Prop)->List (gH×Obj)->TS)(j:List gH)(o:Option (List V))(k:gH->TS):TS:=λD d H=>∃e:XK,(∀c f b,e c f b->∃C∈j,c=.ref C)/\(∀g,i e (λh=>h=d) g D d H)/\∀(c:ci)(f:Option gH)(b a:Hp),e c f b->Lay o b a->∀x,k x D d a
def T0(E:X.stack=X.env::X.outer)(Y:ClO X ty Cs o)
 (hb:∀U Φ N,EU (xn X N U Φ) body<|tb U Φ N) (hs:∀x,EU (hand X x) (b0::i)<|th x) :
    PS X (.Try body [.ExceptHandler ↑ty none (b0::i) hp] [] [] tp) (Zi tb Cs o th):=by
  intro d s σ H D I h
  refine e1a3 h λU Z hB hH=>?_
  refine wpAny_Try_except<|iY (hb U _ (X.pn++d) [] s σ H D I.W4<|hB _) (λO g q=>?_)<|λe g q=>?_
  · cases O with
    |next=>obtain⟨a,c,J,z⟩:=q;exact nJ #[a,c,J.GH,z]
    |brk=>obtain⟨a,c,J,z⟩:=q;exact#[a,c,J.GH,z]
    |cont=>obtain⟨a,c,J,z⟩:=q;exact#[a,c,J.GH,z]
    |ret u=>obtain⟨v,a,c,J,r,z⟩:=q;exact#[v,a,c,J.GH,r,z]
  · obtain⟨aa, k, H1, s0, C', x, c, rfl, J, ab, F, hE⟩ := q
    subst ab
    refine e1a2 (Z _ _ _ hE) λC hC hc=>?_
    cases hc
    have nf:=F.YL J.ZU
    refine e2a2 F.fly λB a0 O ae=>?_
    have af:lK B (X.env::X.outer) x (.ref C') a0 g.heap:=by rw[<- E];exact O
    have ag:X.A.frames=↑(X.env::X.outer):=by rw[<- E];exact J.ok.frames
    have ah:X.env.frame=↑X.env.locals:=xG I E
    refine wpAny_looks_onW ag ah af λh4 P ai=>wpAny_landsW P λl m aj=>?_
    have j:g.heap.UpToSlots l:=ai.trans aj
    have G:∀(n:iG)(Q:Nat),B.StaysIn n->g.heap.UpToSlots n->Inv X d k c { g with heap:=n,toks:=Q}:=λn Q st up=>by
      obtain⟨u6,ak⟩:=Pm F.un F.vD ae nf st up
      have J6:=J.call (h':=n) (g':=g.gens) (d':=g.drawn) (t':=Q) (ch:=[]) u6 ak F.bare<|λb z=>g8 z q0o
      have e6:{ s0 with heap:=n,gens:=g.gens,drawn:=g.drawn,toks:=Q}={ g with heap:=n,toks:=Q}:=by
        have:=F.os
        obtain⟨_,_,_,_,an⟩:=g
        obtain⟨_,_,_,_,ao⟩:=s0
        rw[this]
      rw[<- e6]
      exact J6.a0V
    have I5:=G l g.toks m.1 j
    have R:∀(S:Hp)(t:iG),Lay o c S->Inv X d k S { g with heap:=t}->gS 19 (X.A.mark<|some<|.ref x) (execs (b0::i) X.env) (λf T=>SP X d D f T) (λ_ _=>False) { g with heap:=t}:=λS t hY I7=>by
      refine iY (hs x d _ k S D I7.Pp<|hH _ _ c S hE hY x) (λO s7 q=>?_) λ_ _ z=>z.elim
      cases O with
      |next=>obtain⟨a,c,J,z⟩:=q;exact#[a,c,J.Go I.ok.hd,z]
      |brk=>obtain⟨a,c,J,z⟩:=q;exact#[a,c,J.Go I.ok.hd,z]
      |cont=>obtain⟨a,c,J,z⟩:=q;exact#[a,c,J.Go I.ok.hd,z]
      |ret u=>obtain⟨v,a,c,J,r,z⟩:=q;exact#[v,a,c,J.Go I.ok.hd,r,z]
    refine wpAny_handleBy_cons (codeAny_handlers_test<|Y x C' d { g with heap:=l} k c _ _ hC I5.Pp m.there λn hL=>?_) (by intro q;cases q)
    refine codeAny_handlers_suite ?_
    cases o with
    |none =>
      subst hL
      refine lands_againW (s:={ g with heap:=n}) m λt L y=>?_
      exact iY (R c t rfl<|G t g.toks L.1<|j.trans y) (λ_ _ z=>z) λ_ _ z=>z.elim
    |some xs =>
      obtain⟨M,r,hz,rfl⟩:=hL
      have kp:∀b o,l.get? b=↑o->(l.push { cls:=.type "tuple",data:=.seq M.toArray}).get? b=↑o:=λb o z=>ce _ z
      have al:=PySem.W.flying_keeps m kp
      refine lands_againW (s:={ g with heap:=l.push { cls:=.type "tuple",data:=.seq M.toArray}}) al λt L y=>?_
      have I7:=G t g.toks L.1<|(j.trans<|qb kp).trans y
      have n5:c l.objs.size=none:=I5.vD.fresh<|gK _
      obtain⟨sl,e7⟩:=y l.objs.size _ (gW _ rfl) (λvs z=>by cases z)
      have I8:=I7.adopt (p:=l.objs.size) (o:=.tup xs) (I5.FY (gK _) n5) #[hz,M,r,_,e7,rfl,_,rfl]
      exact iY (R _ t #[_,n5,rfl] I8) (λ_ _ z=>z) λ_ _ z=>z.elim
end L2
namespace WL
variable[L2.GX]
open PySem L2
open Rep (rp)
open Ow (sl)
open Sls (rel)
def BW(X:Cx)(T:gH)(c:List ic){D:Type}[Sls D](w:D->(D->Prop)->66->Prop):Prop:=∀i j h,∃t,EU (xn X h i j) c t/\∀(d:D)(F R:Rg)(b:St)(H:Hp)(k:D->Prop)(l:gH->D->Prop)(m:Ends),j b->vQ T F R H d b->w d k l ->
 (∀e f g a,k e->Ch T F R H f g a->vQ T f g a e b->m.nx b a)->(∀C y e f g a,l C e->Ch T F R H f g a->vQ T f g a e b->i (.ref C) ↑y a)->t m b H
section
variable{D PO τ Zj:Type}[Sls D][Sls PO][Ow τ][Ow Zj]
def T1{h:Pos}{n:List iD}(i:Nat){J P o B E y:Type}[Sls J][Sls P][Sls o][Sls B][Sls E][Sls y][Lb y Zj<|Bd C k×o]{r:B->y->o->D}{L:D->(P->B->y->Prop)->66->Prop}
 {M:Wf (Bd C k×P) Zj (Bd C k×o)} [A0:At i D (Bd C k) J] [A:At i B (Bd C k) E] [U:Pt i E (Bd C k) B]
 (O:∀a b c d u,(yq a b c d u k).lookup m=none) (Q:∀g j f,J8 (xn X f g j) g T (e::n) r L)
 (S:∀(g:XK)(j:St->Prop) (f:List (gH×qw)) {t:TA},PA (xn X f g j) (e::n) t->PE (xn X f g j) (.Call (.Attribute (.Name x N) m apos) (e::n) [] pos) (Qq (vF X.prog X.w) (xn X f g j) C m (ye T M) [] g (vr i) t))
 (W:jN (.Call (.Attribute (.Name x N) m apos) (e::n) [] pos) none h.line X.env=pure false:=by rfl) :
    BW X T [.Expr (.Call (.Attribute (.Name x N) m apos) (e::n) [] pos) h] (cN L M A.get λb l p=>r (U.put (A.hole b) p.1) l p.2):=by
  intro g j f
  refine e1a2 (Q g j f) λtr Y Z=>?_
  refine#[_,xz<|Bi (S g j f Y) W,λd G R σ H Kn Ke En F s hw kn ke=>#[Zh F,?_]]
  refine IF i O Z d G R σ H (λ_ I=>Kn I) Ke _ s hw (λx I v F1 F2 R' H' q c s' m=>?_) ke
  exact kn I F2 R' H' q (c.less λa z=>.inr z) s'
def Zk{j:Pos}{n:List iD}(i:Nat){H P v B G z:Type}[Sls H][Sls P][Sls v][Sls B][Sls G][Sls z][Lb z Zj<|Bd C q×v]{r:B->z->v->D}{I:D->(P->B->z->Prop)->66->Prop}
 {J:Wf (Bd C q×P) Zj (Bd C q×v)} [A0:At i D (Bd C q) H] [A:At i B (Bd C q) G] [U:Pt i G (Bd C q) B] {k:Nat} {N:List Str} {O:Sem Bool}
 (h:Fm X.prog X.w X.K X.mg X.base T C m N J k) (Q:v4 k X.A) (R:AI X.K C) (S:∀(o:XK)(s:St->Prop) (g:List (gH×qw)),PE (xn X g o s) (.Name x F)<|vr i) (W:∀(o:XK)(s:St->Prop) (g:List (gH×qw)),J8 (xn X g o s) o T (e::n) r I) (Y:∀a b c d u,(yq a b c d u q).lookup m=none:=by intros;rfl)
 (Z:gJ (e::n) X.env=58::gJ n X.env:=by rfl) (h2:(jg pos<|gJ n X.env).any (·.1)=false:=by rfl)
 (h3:eval (.Call (.Attribute (.Name x F) m apos) (e::n) [] pos) X.env=(do
 let L <- eval (.Name x F) X.env
 mI apos.atName
 let (f,first) <- kG [L] (mB L m O)
 m8 pos f first (jg pos (gJ (e::n) X.env)) (mJ pos (kH [] X.env))):=by rfl)
 (hs:jN (.Call (.Attribute (.Name x F) m apos) (e::n) [] pos) none j.line X.env=pure false:=by rfl) :
    BW X T [.Expr (.Call (.Attribute (.Name x F) m apos) (e::n) [] pos) j] (λ(d:D) Kn M=>I d (λp b l=>J (A.get b,p) (λ_ y=>Kn<|r (U.put (A.hole b) y.1) l y.2)<|λC y=>M C<|r (U.put (A.hole b) y.1) l y.2) M) :=
  T1 i Y W (λo s g {t} b1=>Qr (X:=xn X g o s) (CX:=vF X.prog X.w) (E:=o) (S o s g) R h.me h.ok Q h.bd .nil b1 Z h2 h3) hs
def T2{j a:List ic}{z:List gH}{o:Option (List V)}{wb:D->(D->Prop)->66->Prop}{A:D->(D->Prop)->93->81->Prop}(B:X.stack=X.env::X.outer)(G:ClO X ty z o)
 (I:BW X T j wb) (w:∀k,SW (hand X k) E T ms n (b0::a) A) :
    S1 X E T ms n (.Try j [.ExceptHandler ↑ty none (b0::a) hp] [] [] tp) (cT wb A z):=by
  refine#[_,T0 (tb:=λJ L b=>(I J L b).choose) (th:=λk=>(w k).choose) B G (λJ L b=>(I J L b).choose_spec.1)<|λk=>(w k).choose_spec.1,λd F R r H Kn Kr Ke M s hw kn kr ke=>?_]
  refine#[λc _ l=>∃C i f h,c=.ref C/\C∈z/\A i Kn Kr Ke/\Ch T F R H f h l/\vQ T f h l i r,?_,λb=>?_,?_]
  · rintro c ox l ⟨C, i, f, h, e, m, _⟩
    exact#[C,m,e]
  · exact(I _ _ b).choose_spec.2 d F R r H _ _ M rfl s hw (λi f h l q c N => kn i f h l r q c N<|Ag.refl _ _) λC y i f h l q c N => #[C, i, f, h, rfl, q.1, q.2, c, N]
  · rintro c ox l aa ⟨C, i, f, h, e, m, O, t, st⟩ hL k
    have go:∀{u:Hp},Ch T F R H f h u->vQ T f h u i r->(w k).choose M r u:=λ{u} t st=>(w k).choose_spec.2 i f h r u Kn Kr Ke M st O (λd1 F1 R1 H1 P q c s1 g=>kn d1 F1 R1 H1 P q (Ch.trans s st.tab t c) s1 g) (λx Q v M1 M2 S U W Y Z n4=>kr x Q v M1 M2 S U W (Ch.trans s st.tab t Y) Z n4) λC y Q F4 S U W Y Z=>ke C y Q F4 S U W (Ch.trans s st.tab t Y) Z
    cases o with
    |none =>
      rw[hL]
      exact go t st
    |some xs =>
      obtain⟨p,hp,rfl⟩:=hL
      refine e0a3 (st.new (.tup xs) hp) λs3 c3 _=>?_
      exact go (Ch.trans s st.tab t c3) s3
end
structure Zl(q:Cq)(C1 C2:gH)(y1 y2:Str):Prop where
 m1:q.mg y1=↑(.ref C1)
 m2:q.mg y2=↑(.ref C2)
 x1:lp q.K (.ref C1) [.ref C1,.ref C2]=↑true
 x2:lp q.K (.ref C2) [.ref C1,.ref C2]=↑true
end WL
namespace L2
variable[L2.GX]
open PySem PySem.Spec PyProof.Rows
def zY:Slot "wrapper_descriptor" "__get__" "wrapper_descriptor.__get__":=.of (owner:="wrapper_descriptor") (n:="__get__") (by rw[nM,lH];kernel_rfl) q0s q0s q0s
 (.inl<|by kernel_rfl) (by rw[sW];kernel_rfl)
def GI:sT tZ "wrapper_descriptor.__get__"=↑Builtin.«wrapper_descriptor.__get__»:=entryFor_of_tree (by kernel_rfl)
def IJ(a b c:ci):rH "wrapper_descriptor.__get__" #[[a,b,c],[]]:=by unfold rH;kernel_rfl
def zj:typeOf (.builtin "ValueError.__init__")=pure (.type "wrapper_descriptor"):=by kernel_rfl
noncomputable def Zm(obj cls:ci)(name:Str):Sem Unit:=do
  rule "descr.get.wrong-instance"
  raiseError "TypeError" s!"descriptor '{name.toString}' for '{← typeName cls}' objects doesn't apply to a '{← typeNameOf obj}' object"
def NG(x C:gH):Builtin.«wrapper_descriptor.__get__» #[[.builtin "ValueError.__init__",.ref x,.ref C],[]]=((isInstance (.ref x) (.type "ValueError") >>= λb=>if (!b)=true then Zm (.ref x) (.type "ValueError") "__init__" else pure ()) >>= λ_=>newFields "method-wrapper" [.builtin "ValueError.__init__",.ref x] >>= ret):=by kernel_rfl
section
variable{prog:im}{w:iL}{A:jq}{E:ci->gO->Prop}{h:iG}{g:Array oZ}{d:Drawn}{t:Nat}{os:OsState}{so D x C:gH}{ox:Obj}{l0 l:List ci}{K:gG}
def Es(c:h.get? x=↑ox)(b:ox.cls=.ref C)(a:jF (gU prog w) h (isSubtype (.ref C)<|.type "ValueError") true)
 (e:R (.ok<|.ret<|.ref h.objs.size) #[h.push { cls:=.type "method-wrapper",data:=.fields #v[.builtin "ValueError.__init__",.ref x]},g,d,t,os]) :
    mq (gU prog w) A (.call (.builtin "wrapper_descriptor.__get__") #[[.builtin "ValueError.__init__",.ref x,.ref C],[]]) R #[h,g,d,t,os]:=by
  have f:(#[h,g,d,t,os]:gO).TypeIs (.builtin "ValueError.__init__") "wrapper_descriptor":=by first|exact ko zj|exact zj
  refine ni zY.plain GI<|zY.check _ _ _ _ _ _ _ _ f (IJ _ _ _) ?_
  rw[NG]
  refine am<|am ?_
  refine am<|wpAny_typeOf_ref c ?_
  rw[b]
  refine PySem.W.Looks.at a ?_
  exact ap<|am<|iE<|ap e
def IK(a:h.get? so=↑(pi D x C))(c:jF (gU prog w) h (opaqueClassAbove<|.ref C) none)(j:jF (gU prog w) h (mroOf<|.ref C) l0)(k:(l0.dropWhile (· != .ref D)).drop 1=l)(X:K.In h)
 (m:ug K "__init__" l=↑(some<|.builtin "ValueError.__init__")) (n:h.get? x=↑ox) (e:ox.cls=.ref C) (b:jF (gU prog w) h (isSubtype (.ref C)<|.type "ValueError") true) (f:x≠C)
 (o:Q (.done<|.ret<|.ref h.objs.size) #[h.push { cls:=.type "method-wrapper",data:=.fields #v[.builtin "ValueError.__init__",.ref x]},g,d,t,os]) :
    gS (gU prog w) A (Builtin.«super.__getattribute__» #[[.ref so,.str "__init__" y],[]]) Q E #[h,g,d,t,os]:=by
  have lk:=zY.lookup
  have p:(hO x==hO C)=false:=by simp[f]
  have q:(("__init__":Str)==99)=false:=by decide
  have r:(#v[.ref D,.ref x,.ref C]:Array ci)[0]?=↑(.ref D):=rfl
  have s:(#v[.ref D,.ref x,.ref C]:Array ci)[1]?=↑(.ref x):=rfl
  have u:(#v[.ref D,.ref x,.ref C]:Array ci)[2]?=↑(.ref C):=rfl
  have i:(pi D x C).data=.fields #v[.ref D,.ref x,.ref C]:=rfl
  have v:=zj
  repeat (first|(with_reducible refine iZ a i r ?_)|(with_reducible refine iZ a i s ?_)|(with_reducible refine iZ a i u ?_)|(with_reducible refine ks_wpAny_notOpaque c ?_)|(with_reducible refine PySem.W.Looks.at j ?_;rw[k])|(refine ks_forIn_along X (λ_ _=>rfl) rfl ?_ m)|(with_reducible refine mC v ?_)|(simp only[q,p,rV,kT,o6])|wp_step|dsimp only)
  exact Es n e b<|am<|ap<|ap<|ap o
end
section
variable{prog:im}{w:iL}{A:jq}{E:ci->gO->Prop}{h:iG}{g:Array oZ}{d:Drawn}{t:Nat}{os:OsState}
variable{nm q:Str}{C N:gH}{bs bm C9:List ci}{hdct:Bool}{sn:List Str}{sub:List ci}{ab:Bool}{col:Option Bool}{dd:Option gH}{k0 k1 k2 k3 k5:Option ci}{B newId xT:String}
def AM(F:kh B newId xT C9)(T:sD h C9 bm){a:List ci} 
 (i:h.get? C=↑77) (u:h.Ns N v) (y:v "__init__"=↑(.ref n))
 (k:h.get? n=↑z) (l:z.cls=.type "function")
 (D:∀p e,rD h p e (.ref C) a ->
 gS (gU prog w) A (call (.ref n) (.ref e::a)) (λr s=>r=.none/\Q (.done (.ret (.ref e))) s) E #[p,g,d,t,os]) (hrest:a.length<=gL:=by size_fits) :
    gS (gU prog w) A (Builtin.«type.__call__» #[.ref C::a,[]]) Q E #[h,g,d,t,os]:=by
  repeat (first|with_reducible refine jC i ?_|with_reducible refine wpAny_madeBy_exc i ?_|wp_step)
  refine codeAny_call_builtin_code (nC _ F.quiet)<|wpAny_check_new_subT F T i ?_
  refine codeAny_exc_new_subT F T i ?_ hrest
  have j:∀b o,h.get? b=↑o->((h.push { cls:=.type "tuple",data:=.seq a.toArray}).push { cls:=.ref C,data:=.fields #v[.ref h.objs.size,.none,.none,.none,.bool false,.none]}).get? b=↑o:=λb o e=>ce _<|ce _ e
  have c:=j _ _ i
  have f:((h.push { cls:=.type "tuple",data:=.seq a.toArray}).push
      { cls:=.ref C,data:=.fields #v[.ref h.objs.size,.none,.none,.none,.bool false,.none]}).get? (h.objs.size+1)=some
      { cls:=.ref C,data:=.fields #v[.ref h.objs.size,.none,.none,.none,.bool false,.none]}:=by heap_get
  have m:(hO C::bm).contains (.ref C)=true:=by simp
  repeat (first|with_reducible refine jC f ?_|(with_reducible refine qy c ?_;rw[m])|wp_step)
  refine wpAny_typeLookup_tail c (u.keeps j) (T.keeps j) F.mroIs F.init.lookup ?_
  rw[y]
  refine iq<|am ?_
  refine am<|kI (T:="function") #[_,j _ _ k,l] ?_
  rw[gI q0q]
  refine ap<|am<|iY (D _ (h.objs.size+1) ⟨j,mQ<|lG _,h.objs.size,f,mQ<|gK _,ce _<|n9 rfl rfl⟩) (λr s G=>?_) λ_ _ x=>x
  obtain⟨rfl,H⟩:=G
  wp_walk
  exact H
def Et(F:kh B newId xT C9)(T:sD h C9 bm){a:List ci} 
 (c:h.get? C=↑77) (k:h.Ns N l) (m:l "__init__"=↑(.ref j))
 (f:h.get? j=↑n) (i:n.cls=.type "function")
 (o:∀b e,rD h b e (.ref C) a ->
 gS (gU prog w) (A.under (.builtin "type.__call__" #[.ref C::a,[]])) (call (.ref j) (.ref e::a)) (λr p=>r=.none/\Q (.ref e) p) E #[b,g,d,t,os]) (hrest:a.length<=gL:=by size_fits) :
    gS (gU prog w) A (call (.ref C) a) Q E #[h,g,d,t,os]:=by
  have u:=tc_lookup
  have v:=tc_bind<|.ref C
  refine mz<|mr ?_
  repeat (any_goals (first|assumption|with_reducible refine jC c ?_|wp_step))
  refine#[rfl,?_]
  exact codeAny_call_builtin_at (nC _ q0s) entry_typeCall<|wpAny_check_type_call_sub c<|AM (hrest:=hrest) F T c k m f i λb e s=>o b e s
end
noncomputable def zZ(x:gH):Obj:={ cls:=.type "method-wrapper",data:=.fields #v[.builtin "ValueError.__init__",.ref x]}
section
variable{prog:im}{w:iL}{A:jq}{E:ci->gO->Prop}{h:iG}{g:Array oZ}{d:Drawn}{t:Nat}{os:OsState}{so D x C:gH}{ox:Obj}{l0 l:List ci}{K:gG}
def Ba(a:h.get? so=↑(pi D x C))(f:jF (gU prog w) h (opaqueClassAbove<|.ref C) none)(n:jF (gU prog w) h (mroOf<|.ref C) l0)(o:(l0.dropWhile (· != .ref D)).drop 1=l)(X:K.In h)
 (p:ug K "__init__" l=↑(some<|.builtin "ValueError.__init__")) (q:h.get? x=↑ox) (i:ox.cls=.ref C) (b:jF (gU prog w) h (isSubtype (.ref C)<|.type "ValueError") true) (j:x≠C)
 (r:Q (.ref h.objs.size,[]) #[h.push<|zZ x,g,d,t+1,os]):gS (gU prog w) A (mB (.ref so) "__init__" y) Q E #[h,g,d,t,os]:=by
  have c:=F.ks_slot_super_ga.lookup
  have e:=F.ks_canon_super_ga
  have k:∀s,(#[h,g,d,s,os]:gO).TypeIs (.ref so) "super":=λ_=>#[_,a,rfl]
  refine am<|pJ (k _) c ?_
  show gS _ _ (if (Manifest.canonical "super.__getattribute__" != "object.__getattribute__")=true then _ else _) _ _ _
  rw[gI e]
  refine am<|am<|wpAny_mkText<|iq<|am<|kI (k _)<|am<|mC c ?_
  refine am<|mC (show (if onTheHeap (.type "super") then mZ (.type "super") "__getattr__" else pure none)=pure none from rfl) ?_
  refine am<|oS<|iq ?_
  refine am<|mC (F.ks_slot_super_ga.bind _) ?_
  refine iY (Q:=λv m=>v=.ref h.objs.size/\m=#[h.push<|zZ x,g,d,t+1,os]) (E:=λ_ _=>False)
    (iM F.ks_slot_super_ga (k _) F.ks_entry_super_ga (IK a f n o X p q i b j #[_,rfl,rfl,rfl])<|F.ks_gaArgs_super _ _) (λv m u=>?_) λ_ _ z=>z.elim
  obtain⟨rfl,rfl⟩:=u
  exact ap<|ap r
def Qs(h:iG)(e:h.get? q=↑(zZ x)):∃k,(k=Keeper.frame\/k=Keeper.machine\/k=Keeper.boundFrame)/\jF M h (keeperOf<|.ref q) k :=
 #[.machine,.inr<|.inl rfl,(rL (part:=none) e).andThen .now]
variable{nm q:Str}{N:gH}{bs bm C9:List ci}{hdct:Bool}{sn:List Str}{sub:List ci}{ab:Bool}{col:Option Bool}{dd:Option gH}{k0 k1 k2 k3 k5:Option ci}{newId:String}
def Ct(F:kh "ValueError" newId "ValueError.__init__" C9){c:List ci} 
 (f:h.get? C=↑77) (i:h.get? x=↑ox) (e:ox.cls=.ref C) (j:Q () #[h,g,d,t,os]) :
    gS M A (checkBoundCall "ValueError.__init__" #[.ref x::c,[]]) Q E #[h,g,d,t,os]:=by
  simp only[checkBoundCall,F.initKind,F.initRow]
  rw[gI q0q]
  repeat (first|(with_reducible refine jC i ?_;rw[e])|with_reducible refine jC f ?_|wp_step)
  refine oV ?_
  rw[show ∀(a b:String)(n:Nat),Bind.check #[.positional,"*","ValueError",.self,[#["args",.varPos,false]]] a b n (List.map (λx=>x.fst) ({ pos:=hO x::c}:Args).kw)=pure () from
    λa b n=>check_star_args _ _ _ _ _ _]
  exact ap j
def T4(F:kh "ValueError" newId "ValueError.__init__" C9){a:List ci}(o:h.get? C=↑77)(e:h.get? p=↑(zZ x))(j:h.get? x=↑ox)(f:ox.cls=.ref C)(k:ox.data=.fields m)(n:m[0]?=↑(.ref s))
 (r:Q .none #[(h.push { cls:=.type "tuple",data:=.seq a.toArray}).update x (Obj.mapFields (·.setIfInBounds 0 (.ref h.objs.size))),g,d,t,os]) (c:a.length<=gL:=by size_fits) :
    gS (gU prog w) A (call (.ref p) a) Q E #[h,g,d,t,os]:=by
  refine mz<|mr ?_
  refine am<|qG e ?_
  refine am<|Ct F o j f<|ap #[kP F.init.plain _,jE F.initEntry ?_]
  rw[js F.init.plain]
  unfold Builtin.«BaseException.__init__»
  dsimp only
  rw[cr q0o]
  have i:0<m.size:=(Array.getElem?_eq_some_iff.mp n).1
  have b:=ce (h:=h) { cls:=.type "tuple",data:=.seq a.toArray} j
  refine am<|iE (am<|am<|iZ b k n<|am<|mO b k i ?_) (by show a.toArray.size<=gL;rw[gX];exact c)
  exact rZ<|ap r
end
open Builtin Builtin.ObjectAttr
section
variable{prog:im}{w:iL}{A:jq}{E:ci->gO->Prop}{h:iG}{g:Array oZ}{d:Drawn}{t:Nat}{os:OsState}{x C N:gH}{o:Obj}{v:ci}{name:Str}
variable{nm q:Str}{bs bm C9:List ci}{sn:List Str}{sub:List ci}{ab:Bool}{col:Option Bool}{dd:Option gH}{k0 k1 k2 k3 k5:Option ci}{B newId sa owner:String}
def NH(e:StoreFacts B C9 sa owner)(f:bm.contains (.type owner)=true)
 (l:h.get? C=↑(jw nm q C N bs bm true sn sub ab col dd k0 k1 k2 k3 k5 newId)) (m:h.get? x=↑o) (n:o.cls=.ref C) (j:Q () #[h,g,d,t,os]) :
    gS M A (checkBuiltinCall sa #[[.ref x,a,v],[]]) Q E #[h,g,d,t,os]:=by
  have i:(hO C::bm).contains (.type owner)=true:=by rw[uh,f,Bool.or_true]
  have k:=e.args (.ref x) a v
  simp only[checkBuiltinCall,e.kind,e.split]
  refine am ?_
  repeat (first|(with_reducible refine jC m ?_;rw[n])|(with_reducible refine qy l ?_;rw[i])|wp_step)
  cases b:Manifest.signature? sa with
  |none=>exact ap j
  |some c =>
    simp only[rH,b]at k
    have p:Bind.checkArgs sa c #[[.ref x,a,v],[]]=pure ():=k
    show gS M A (Bind.checkArgs sa c #[[.ref x,a,v],[]]) Q E _
    rw[p];exact ap j
set_option tactic.hygienic true in
def Ks(m:tj (.ref x) "__setattr__" bm=pure ())
 (P:h.get? C=↑(jw nm q C N bs bm true sn sub ab col dd k0 k1 k2 k3 k5 newId)) (L2:jF (gU prog w) h (mZ (.ref C) name) none)
 (l:h.get? x=↑o) (R:o.cls=.ref C) (n:∀c,o.data≠.cls c) (p:o.dict=none)
 (S:∀i r s,h.get? s=none->(∀b u,b≠x->h.get? b=↑u->i.get? b=↑u)->i.get? x=some { cls:=o.cls,dict:=↑s,data:=o.data,slots:=o.slots}->i.Ns1 s (λy=>if y=name then some v else none)->Q (.done<|.ret .none) #[i,g,d,r,os]) :
    gS (gU prog w) A (Builtin.«object.__setattr__» #[[.ref x,.str name Z,v],[]]) Q E #[h,g,d,t,os]:=by
  repeat (first|rw[refuse_eq]|(rw[refuseLoop_ref,m])|(with_reducible refine jC l ?_;rw[R])|with_reducible refine wpAny_mroOf_exc P ?_|(with_reducible refine PySem.W.Looks.at L2 ?_)|wp_step)
  rw[p,cr<|by simp[typeHasDict]]
  split
  · rename_i f
    cases f
  split
  · rename_i c f
    exact g8 f<|n c
  · have a : (h.push { cls := .type "dict", data := .dict #v[] }).get? x = some o := ce _ l
    have j:x≠h.objs.size:=gZ<|gP l
    refine am<|wpAny_alloc' ?_
    refine am<|wpAny_update' a ?_
    refine ap ?_
    have z:((h.push { cls:=.type "dict",data:=.dict #v[]}).update x λo=>{ cls:=o.cls,dict:=↑h.objs.size,data:=o.data,slots:=o.slots}).get? h.objs.size
       =some { cls:=.type "dict",data:=.dict #v[]} :=
      (pN _ _ _ _ j.symm).trans (n9 rfl rfl)
    have D:((h.push { cls:=.type "dict",data:=.dict #v[]}).update x λo=>{ cls:=o.cls,dict:=↑h.objs.size,data:=o.data,slots:=o.slots}).Ns h.objs.size (λ_=>none) :=
      #[_,#v[],_,z,rfl,λe T=>g8 T q0o,λ_=>rfl]
    refine am<|ap<|am<|wpAny_nsSet1 (sI D) λi k M=>?_
    obtain⟨oD,U,X,F,G,H⟩:=k.count<|Within.cons name v Within.nil
    refine am<|wpAny_lookBehind F (by rw[G];exact pastItsLine_dict<|iV H<|by rw[hX,mW,iQ];lia) ?_
    wp_walk
    refine S i _ h.objs.size (mQ<|gK _) (λb u I O=>?_) ?_ k
    · exact(M.2 b<|gZ<|gP O).trans<|(pN _ _ _ _ I).trans<|ce _ O
    · refine(M.2 x j).trans (iJ _ a ?_)
      have J:=(Heap.get?_some_iff.mp l).2
      obtain⟨oc,od,L,Y⟩:=o
      cases L<;>first|rfl|exact J
def IL(i:StoreFacts B C9 sa owner)(j:bm.contains (.type owner)=true)(k:tj (.ref x) "__setattr__" bm=pure ())
 (r:h.get? C=↑(jw nm q C N bs bm true sn sub ab col dd k0 k1 k2 k3 k5 newId)) (u:jF (gU prog w) h (mZ (.ref C) "__setattr__") (some<|.builtin sa)) (L2:jF (gU prog w) h (mZ (.ref C) name) none)
 (l:h.get? x=↑o) (m:o.cls=.ref C) (n:∀c,o.data≠.cls c) (p:o.dict=none)
 (z:∀e a f,h.get? f=none->(∀b s,b≠x->h.get? b=↑s->e.get? b=↑s)->e.get? x=some { cls:=o.cls,dict:=↑f,data:=o.data,slots:=o.slots}->e.Ns1 f (λy=>if y=name then some v else none)->Q () #[e,g,d,a,os]) :
    gS (gU prog w) A (setAttr (.ref x) name v) Q E #[h,g,d,t,os]:=by
  have I:=i.slot.bind<|.ref x
  repeat (any_goals (first|assumption|(with_reducible refine jC l ?_;rw[m])|(with_reducible refine PySem.W.Looks.at u ?_)|wp_step))
  refine ni i.slot.plain i.entry<|NH i j r l m<|Ks k r L2 l m n p λe a f D F G H=>?_
  repeat (any_goals (first|assumption|wp_step))
  exact z e a f D F G H
end
def Zn(C x:gH)(d:Option gH)(h:iG):Prop:=∃(a:gH),h.get? x=some { cls:=.ref C,dict:=d,data:=.fields #v[.ref a,.none,.none,.none,.bool false,.none]}
noncomputable def Dy(C x:gH)(d:Option gH):HO:=.ext<|Zn C x d
def GJ{C:gH}(I:Inv X a c H s)(h:H x=↑(Dy C x b)):Zn C x b s.heap:=(I.vD x _ h).1
def Kt{C:gH}(q:Zn C x b h):vO P w H h x (Dy C x b) :=
 #[q,e1a1 q λ_ e=> #[_,e],λf g a=>e1a1 a λc d k=>#[c,k _ d]]
def cw_mw(i:gJ (e::f) b=(false,eval e b)::gJ f b)(c:(jg pos<|gJ f b).any (·.1)=false)
 (h:gS M B (uk<|jg pos<|gJ (e::f) b) (λj d=>d.heap.get? q=↑(zZ a)/\gS M B (call (.ref q) j) Q g d) g k):gS M B (m8 pos (.ref q) [] (jg pos<|gJ (e::f) b) []) Q g k:=by
  rw[i]at h ⊢
  exact pf (P:=λh=>h.get? q=↑(zZ a)) (by show ((false||(jg pos<|gJ f b).any (·.1))||false)=false;rw[c];rfl) Qs<|jt h
def Zo(C:gH)(t:TA):TE:=λb H Q=>∃a,b[0]?=↑(some<|.ref a)/\H a=some (Dy C a none)/\t b H λd c=>d.length<=gL/\c a=↑(Dy C a none)/\Q .wm c
section
variable{P:im}{w:iL}{K:gG}{mg:Str->Option ci}{base:iG}{N:List Str}{qual:Str}{scope:lV}{f yV cc:gH}{A:jq}{outer:List Env}{s:gO}{H:Hp}{E:XK}{C:gH}{x0:Str}{fb:List ic}{p0 p1 apos pos:Pos}{es:List iD}{e0:iD}{ta:TA}
variable{nm q:Str}{Ns:gH}{bs bm:List ci}{hdct:Bool}{sn:List Str}{sub:List ci}{ab:Bool}{col:Option Bool}{dd:Option gH}{k0 k1 k2 k3 k5:Option ci}
set_option tactic.hygienic true in
def Qt(S:Kl P K C f yV cc x0)(ae:N[0]?=↑x0)(U:scope.names.lookup ("super":Str)=some .globalImplicit)(X:scope.names.lookup 99=some .free)(B:scope.names.lookup x0=some .local)(af:mg "super"=none)
 (lC:K.lookup C=↑(jw nm q C Ns bs bm hdct sn sub ab col dd k0 k1 k2 k3 k5 "ValueError.__new__")) (hm:jM K C C "__init__"=↑(some<|.builtin "ValueError.__init__")) (ag:kR K C (.type "ValueError")=↑true)
 (ha:PA 86 (e0::es) ta)
 (he:gJ (e0::es) (iO qual scope ⇑s f (.ref yV) [71])=(false,eval e0<|iO qual scope ⇑s f (.ref yV) [71])::gJ es (iO qual scope ⇑s f (.ref yV) [71]))
 (l:(jg pos<|gJ es<|iO qual scope ⇑s f (.ref yV) [71]).any (·.1)=false) (D:NF p0 p1 apos pos "__init__" (e0::es)) :
    Z3 86 fb (.Call (.Attribute 79 "__init__" apos) (e0::es) [] pos) (Zo C ta):=by
  intro n i σ H1 Q I h
  refine e1a3 h λa h0 ea h=>?_
  have Y:=I.yr
  obtain⟨oc,od,fd,au,Z,lf,hp,rfl⟩:=S.fn
  obtain⟨av,aw,ax,an,file,tf,lc,ah,G⟩:=S.code
  obtain⟨ao,aq,aa,L⟩:=S.cell
  obtain⟨cd,j⟩:=S.cls
  obtain⟨t0,O⟩:=GJ I ea
  refine e1a2 I.loc λmL hn hl=>?_
  refine e1a2 (hl 0 Z.arg (.ref a) ae h0<|.inl B) λu ru lk=>?_
  obtain rfl:u=hO a:=ru
  have ai:mL Z.arg=↑(.ref a):=by
    rcases lk with⟨_,q⟩|⟨q,_⟩
    · exact q
    · have q : scope.names.lookup Z.arg = some .cell \/ scope.names.lookup Z.arg = some .free := q
      rw[B]at q
      rcases q with q|q<;>cases q
  obtain⟨oD,M,R⟩:∃oD,i.heap.get? C=some oD/\oD.data=.cls cd:=by
    unfold mD at j
    split at j
    · rename_i c d ay sl ho
      cases j
      exact#[_,Y _ _ ho,rfl]
    · cases j
  refine e1a2 I.mod.blt λmb aj ak=>?_
  have ne:a≠C:=λz=>by
    rw[z,M]at O
    cases O
    cases R
  obtain⟨pl,D⟩:=D<|iO qual scope ⇑s f (.ref yV) [71]
  refine ks_wpAt_MethodCall (pl:=pl) (ks_wpAt_super_base (env:=iO qual scope ⇑s f (.ref yV) [71]) U X q0q rfl (Y _ _ lf) rfl hp rfl (Y _ _ lc) rfl ah G S.top ?_) D
  refine qO I.ok.kind U<|nS (env:=iO qual scope ⇑s f (.ref yV) [71]) (I.mod.glob.keeps I.bk) af (aj.keeps I.bk) ((ak _ q0s).trans rfl) #[rfl,?_]
  refine qk I.ok.kind X rfl #[_,Y _ _ L,rfl] ?_
  refine kF I.ok.kind B hn ai ?_
  refine ks_wpAny_isType_cls (h:=i.heap) (g:=i.gens) (d:=i.drawn) (t:=i.toks) (os:=i.os) M R #[rfl,?_]
  refine ks_wpAny_call_super (h:=i.heap) (g:=i.gens) (d:=i.drawn) (t:=i.toks) (os:=i.os) M R O rfl (λc e=>by cases e) (ph Y S.sub) λp e k'=>?_
  have T:Inv _ n σ H1 #[p,i.gens,i.drawn,i.toks,i.os]:=I.kept (t':=i.toks) k'
  unfold jM at hm
  rw[j]at hm
  refine Ba e (sr T.yr S.opq) (l0:=cd.mro) (λA Q E s k q=>am<|(o5 T.yr j) A _ E s k<|ap q) rfl T.yr hm (k' _ _ O) rfl (ph T.yr ag) ne ?_
  have I2:Inv _ n σ H1 #[p.push<|zZ a,i.gens,i.drawn,i.toks+1,i.os]:=T.kept (t':=i.toks+1) λb o z=>ce _ z
  have fr:H1 p.objs.size=none:=T.vD.fresh<|gK _
  have gq:(p.push<|zZ a).get? p.objs.size=↑(zZ a):=n9 rfl rfl
  have I3:=I2.pinned (fp:=[p.objs.size]) (λb y=>by rw[List.mem_singleton.mp y];exact T.FY (gK _) fr) λb y=>by rw[List.mem_singleton.mp y];exact#[_,gq,λv z=>by cases z]
  refine cw_mw (a:=a) he l<|vB (ha pos _ _ σ H1 _ I3 h) λus s2 z9=>e2a5 z9 λvs H2 I4 r q1 q2 q3=>?_
  have g2:s2.heap.get? p.objs.size=↑(zZ a):=(I4.pin (p.objs.size,zZ a)<|hV _<|hV _<|xh gM gq).1
  refine#[g2,?_]
  have I5:=I4.zH
  obtain⟨t1,O1⟩:=GJ I5 q2
  have al:=I5.yr
  obtain⟨m,g5,d5,t5,az⟩:=s2
  refine T4 ik (al _ _ lC) g2 O1 rfl rfl rfl ?_ (by show us.length<=_;rw[<- r.length];exact q1)
  have hu:upd H2 a (Dy C a none)=H2:=by
    funext b
    by_cases y:b=a
    · rw[y, uO, q2]
    · rw[uL y]
  have O2:=iJ (f:=Obj.mapFields (·.setIfInBounds 0 (.ref m.objs.size))) (ce { cls:=.type "tuple",data:=.seq us.toArray} O1) rfl
  have J:=I5.write (x:=a) (e:=a) (o:=Dy C a none) (t':=t5) (h':=(m.push { cls:=.type "tuple",data:=.seq us.toArray}).update a (Obj.mapFields (·.setIfInBounds 0 (.ref m.objs.size)))) (by rw[q2];trivial) (.inl rfl)
    (λb u y z=>by rw[pN _ _ _ _ y];exact ce _ z) #[_,O2] (Kt #[m.objs.size,O2])
  rw[hu]at J
  exact#[.wm,H2,J,rfl,q3]
end
def xD.a1l{s:iG}{C:gH}(k:xD P w H h)(t:H a=↑(Dy C a none))(n:h.get? l=none)(x:∀b o,b≠a->h.get? b=↑o->s.get? b=↑o)(q:Zn C a d s)(D:s.Ns1 l (λz=>if z=f then some u else none))(r:RelV y u) :
  xD P w (upd (upd H l<|.xd [(f,y)]) a<|Dy C a d) s/\∀A,Un A [] H (upd (upd H l<|.xd [(f,y)]) a<|Dy C a d) h s:=by
 have E:∀b v,H b=↑v->b≠l:=λb v z e=>by obtain⟨o,i⟩:=Au k z;rw[e,n]at i;cases i
 have j:∀b v,H b=↑v->(∀B,v≠.ext B)->upd (upd H l<|.xd [(f,y)]) a (Dy C a d) b=some v:=λb v z e=>by rw[uL λi=>by rw[i,t]at z;cases z;exact e _ rfl,uL<|E b v z];exact z
 refine#[λb o z=>?_,λA=>#[λb o z e _ _=>x b o (λi=>by rw[i,t]at e;cases e) z,λb o z e _ _=>#[o.slots,x b o (λi=>by rw[i,t]at e;cases e) z],λb o z e _=>?_,λb o z _=>?_,λb B z=>j b _ z (λ_ e=>by cases e),λb o v z=>j b _ z (λ_ e=>by cases e),λb I z=>#[#v[],by rw[j b _ z<|λ_ e=>by cases e];simp]]]
 ·by_cases e:b=a
  ·subst e;rw[uO]at z;cases z;exact Kt q
  ·rw[uL e]at z;by_cases i:b=l
   ·subst i;rw[uO]at z;cases z;refine#[_,D,λg=>?_];by_cases m:g=f
    ·rw[m,List.lookup_cons_self,gI rfl];exact r
    ·rw[iz,beq_false_of_ne m,cr m];exact True.intro
   ·rw[uL i]at z;refine(k b o z).C0 (λc v p y=>x c v (λm=>?_) y) (λc y=>j c _ y λ_ e=>by cases e) λc J y=>j c _ y λ_ e=>by cases e
    rcases p with p|p
    ·exact e<|p▸m
    ·rw[m,t]at p;cases p
 ·have F:b≠a:=λi=>by rw[i,t]at e;cases e
  have G:b≠l:=λi=>by rw[i,n]at z;cases z
  rw[uL F,uL G];exact e
 ·by_cases e:b=a
  ·obtain⟨_,q⟩:=q;rw[e];exact#[_,q]
  ·exact#[_,x b o e z]
def Zp(C:gH)(f:Str)(e g:TE):TS:=λD c H=>g c H λy h=>e c h λx d=>∃a,x=.ref a/\d a=↑(Dy C a none)/\∀b,d b=none->b≠a->D.nx c (upd (upd d b<|.xd [(f,y)]) a<|Dy C a<|↑b)
def T5(L:PE X o M)(N:PE X value P)(Q:jN value (some<|.Attribute o f e) pos.line X.env=pure false)
 (R:X.K.lookup C=↑(jw nm q C Ns bs B true sn sub ab S dd k0 E G k3 k5 l)) (m:B.contains (.type "object")=true) (n:∀x:gH,tj (.ref x) "__setattr__" B=pure ())
 (T:ig X.K (.ref C) "__setattr__"=↑98)(U:ig X.K (.ref C) f=↑none):PS X (.Assign [.Attribute o f e] value pos) (Zp C f M P):=by
  intro b s p H D I h
  refine ro (vB (N b s p H _ I h) λu Y r=>e2a3 r λy H1 Z ry q=>vB (L b Y p H1 _ Z q) λov s2 r=>e2a3 r λx H2 i rx v=>e1a3 v λa ex J q2=>?_) Q
  subst ex
  obtain rfl:ov=hO a:=rx
  obtain⟨t0,O⟩:=GJ i J
  have w:=i.yr
  obtain⟨hp,g,d,t,os⟩:=s2
  refine IL PySem.F.store_ValueError m (n a) (w _ _ R) (oO w T) (oO w U) O rfl (λc z=>by cases z) rfl λh' A j k z2 z3 z4=>?_
  have n1:H2 j=none:=by
    cases z:H2 j with
    |none=>rfl
    |some o=>obtain⟨u,q⟩:=Au i.vD z;rw[k]at q;cases q
  have na:j≠a:=λz=>by rw[z,O]at k;cases k
  obtain⟨E,G⟩:=xD.a1l (d:=↑j) i.vD J k z2 #[t0,z3] z4 ry
  exact#[p,_,i.un (h':=h') (t':=A) (G _) E,q2 j n1 na]
def IM(b:bm.contains (.type "BaseException")=true)(k:A.handled=none)
 (h:gS M A x (λv a=>∃e t i,v=.ref e/\a.heap.get? C=↑77 /\
 a.heap.get? e=some { cls:=.ref C,dict:=i,data:=.fields #v[.ref t,.none,.none,.none,.bool false,.none]}/\E (.ref e) a) E s) :
    gS M A (raiseStmt l ↑x none) Q E s:=by
  have f:(hO C::bm).contains (.type "BaseException")=true:=by rw[uh,b,Bool.or_true]
  unfold raiseStmt
  refine am<|iY h (λv a c=>?_) λ_ _ x=>x
  obtain⟨e,t,i,rfl,j,m,n⟩:=c
  obtain⟨o,g,d,p,r⟩:=a
  repeat (first|with_reducible refine jC m ?_|with_reducible refine jC j ?_|(with_reducible refine qy j ?_;rw[f])|wp_step)
  exact wpAny_raiseNew_none k n
def IN(F:kh B c y H) 
 (n:bm.contains (.type "BaseException")=true) (Y:A.handled=none) (k:(jg l<|gJ args o).any (·.1)=false)
 (h:gS (gU prog w) A (eval (.Name x np) o) (λf m=>f=.ref C/\gS (gU prog w) A (evalArgs (.ref C) true (jg l (gJ args o)) [])
 (λa b=>a.kw=[]/\a.pos.length<=gL/\b.heap.get? C=↑(jw nm q C N bs bm hdct sn sub ab col dd k0 k1 k2 k3 k5 c)/\(∃I,b.heap.Ns N I/\I "__init__"=↑(.ref fI))/\(∃J,b.heap.get? fI=↑J/\J.cls=.type "function")/\sD b.heap H bm /\
 ∀D e,rD b.heap D e (.ref C) a.pos->gS (gU prog w) (A.under (.builtin "type.__call__" #[.ref C::a.pos,[]])) (call (.ref fI) (.ref e::a.pos)) (λr G=>r=.none/\G.heap.get? C=↑(jw nm q C N bs bm hdct sn sub ab col dd k0 k1 k2 k3 k5 c) /\
 (∃t L,G.heap.get? e=some { cls:=.ref C,dict:=L,data:=.fields #v[.ref t,.none,.none,.none,.bool false,.none]})/\E (.ref e) G) E { b with heap:=D}) E m) E s) :
    gS (gU prog w) A (exec (.Raise (some<|.Call (.Name x np) args [] l) none pos) o) Q E s:=by
  rw[arm_exec_Raise]
  refine am<|m7<|IM (C:=C) (nm:=nm) (q:=q) (N:=N) (bs:=bs) (bm:=bm) (hdct:=hdct) (sn:=sn) (sub:=sub) (ab:=ab) (col:=col) (dd:=dd) (k0:=k0) (k1:=k1) (k2:=k2) (k3:=k3) (k5:=k5) (newId:=c) n Y<|am<|iY (wpAny_Call_ofName<|iY h (λf m i=>?_) λ_ _ x=>x) (λv S p=>am<|m7<|ap p) λ_ _ x=>x
  obtain⟨rfl,i⟩:=i
  unfold m8
  refine am<|iq<|iY i (λa b j=>am<|m7 ?_) λ_ _ x=>x
  obtain⟨U,M⟩:=a
  obtain⟨O,u,W,⟨I,Z,hi⟩,⟨J,P,R⟩,T,j⟩:=j
  obtain rfl:M=[]:=O
  obtain⟨hp,g,d,tk,os⟩:=b
  simp only[k]
  refine am<|wpAny_keeperOf_exc W ?_
  refine am<|Et (hrest:=u) F T W Z hi P R λD e hm=>iY (j D e hm) (λr G X=>#[X.1,?_]) λ_ _ z=>z
  obtain⟨_,c1,⟨t,L,c2⟩,c3⟩:=X
  exact am<|iq<|wpAny_point<|ap #[e,t,L,rfl,c1,c2,c3]
noncomputable def BN(H:Hp)(x:gH):Hp:=λb=>if b=x then none else H b
def zk:BN H x x=none:=gI rfl
def xJ(h:b≠x):BN H x b=H b:=cr h
section
variable{P:im}{w:iL}{H H3 H4:Hp}{h h' h4:iG}{x C:gH}{c:Option gH}
def xD.Qu(k:xD P w H h)(e:H x=↑(Dy C x c)):xD P w (BN H x) h:=λa o z=>by
 have g:a≠x:=λq=>by rw[q,zk]at z;cases z
 rw[xJ g]at z
 have d:∀b u,H b=↑u->(∀f,u≠.ext f)->BN H x b=↑u:=λb u q n=>by rw[xJ λy=>by rw[y,e]at q;cases q;exact n _ rfl];exact q
 exact(k a o z).C0 (λ_ _ _ q=>q) (λb q=>d b _ q λf y=>by cases y) λb i q=>d b _ q λf y=>by cases y
def xD.GK(k:xD P w H h)(e:h.get? x=none):H x=none:=by
 cases z:H x with
 |none=>rfl
 |some o=>obtain⟨u,q⟩:=Au k z;rw[e]at q;cases q
def xD.Mj(k:xD P w H h)(e:h.get? x=none)(f:∀b o,h.get? b=↑o->h'.get? b=↑o)(n:Zn C x c h'):xD P w (upd H x<|Dy C x c) h':=λa o z=>by
 by_cases q:a=x
 ·subst q;rw[uO]at z;cases z;exact Kt n
 ·rw[uL q]at z;have d:∀b u,H b=↑u->upd H x (Dy C x c) b=↑u:=λb u y=>by rw[uL λg=>by rw[g,k.GK e]at y;cases y];exact y
  exact(k a o z).C0 (λ_ _ _ y=>f _ _ y) (λb y=>d b _ y) λb i y=>d b _ y
def Un.Mj(k:xD P w H h)(e:h.get? x=none)(d:∀b o,h.get? b=↑o->h'.get? b=↑o):Un fs [] H (upd H x<|Dy C x c) h h':=by
 have a:∀b u,H b=↑u->upd H x (Dy C x c) b=↑u:=λb u y=>by rw[uL λf=>by rw[f,k.GK e]at y;cases y];exact y
 refine#[λb o z _ _ _=>d b o z,λb o z _ _ _=>#[o.slots,d b o z],λb o z n _=>?_,λb o z _=>#[o,d b o z],λb g z=>a b _ z,λb o u z=>a b _ z,λb i z=>#[#v[],by rw[a b _ z];simp]];rw[uL λy=>by rw[y,e]at z;cases z];exact n
def Un.Qu(u:Un fs [] H H4 h h4)(e:h.get? x=none)(d:H x=none):Un fs [] H (BN H4 x) h h4:=by
 have a:∀b v,H b=↑v->b≠x:=λb v y z=>by rw[z,d]at y;cases y
 refine#[u.keep,u.slot,λb o z n f=>?_,u.there,λb g z=>?_,λb o v z=>?_,λb i z=>?_]
 ·rw[xJ λy=>by rw[y,e]at z;cases z];exact u.free b o z n f
 ·rw[xJ<|a b _ z];exact u.Bh b g z
 ·rw[xJ<|a b _ z];exact u.AV b o v z
 ·rw[xJ<|a b _ z];exact u.AW b i z
end
def T6(C:gH)(f:Sp)(a:List V)(E:XK)(h:TA):TS:=λ_ i H=>h i H λc e=>c.length<=gL/\∀x:gH,e x=none ->
 f (.ref x::c++a) (upd e x<|Dy C x none) (λv b=>v=.wm/\∃d,b x=↑(Dy C x d)/\GX.g C d (BN b x)/\E (.ref C) ↑x (BN b x)) λ_ _ _=>False
section
variable{P:im}{w:iL}{K:gG}{mg:Str->Option ci}{base:iG}{N:List Str}{qual:Str}{scope:lV}{f:gH}{cd:ci}{A:jq}{outer:List Env}{s:gO}{H:Hp}{E:XK}
variable{nm q:Str}{Ns:gH}{bs bm C9:List ci}{hdct:Bool}{sn:List Str}{sub:List ci}{ab:Bool}{col:Option Bool}{dd:Option gH}{k0 k1 k2 k3 k5:Option ci}{B newId xT:String}
def NI{C:gH}{k:Nat}(hg:Gl 18 x)(hm:mg x=↑(.ref C))
 (lC:K.lookup C=↑(jw nm q C Ns bs bm hdct sn sub ab col dd k0 k1 k2 k3 k5 newId)) (aa:∀h:iG,K.In h->∃mN,h.Ns Ns mN/\mN "__init__"=↑(.ref fI)) (hT:∀h:iG,K.In h->sD h C9 bm) (lI:K.lookup fI=↑oI) (ae:oI.cls=.type "function")
 (FB:kh B newId xT C9) (n:bm.contains (.type "BaseException")=true) (FI:vt P w K mg base (vF P w) k fI fd ps sp) (j:Binds K fd ps U) (af:Vals p U) (hr:v4 (k+1) (18).A)
 (ha:PA 18 args ta) (ag:(x==55)=false)
 (ah:(jg cpos<|gJ args (18).env).any (·.1)=false)
 (ai:∀(Q:Args->gO->Prop)(E':ci->gO->Prop)(s9:gO),gS (gU P w) (18).A (uk<|jg cpos<|gJ args (18).env) (λX y=>Q #[X,[]] y) E' s9->gS (gU P w) (18).A (evalArgs (.ref C) true (jg cpos<|gJ args (18).env) []) Q E' s9) :
    PS 18 (.Raise (some<|.Call (.Name x np) args [] cpos) none pos) (T6 C sp p E ta):=by
  intro a s1 σ H1 D I h
  have hA:=ha cpos a s1 σ H1 _ I h
  refine IN (prog:=P) (w:=w) (C:=C) (nm:=nm) (q:=q) (N:=Ns) (bs:=bs) (bm:=bm) (hdct:=hdct) (sn:=sn) (sub:=sub) (ab:=ab) (col:=col) (dd:=dd) (k0:=k0) (k1:=k1) (k2:=k2) (k3:=k3) (k5:=k5) (fI:=fI)
    FB n (I.ok.hd rfl) ah (yY I hg hm #[rfl,?_] ag)
  refine ai _ _ _<|iY hA (λl G q2=>?_) λ_ _ z=>z
  refine e2a4 q2 λX H2 F r2 hl M=>?_
  have Y:=F.yr
  refine#[rfl,by show l.length<=gL;rw[<- r2.length];exact hl,Y _ _ lC,aa _ Y,#[oI,Y _ _ lI,ae],hT _ Y,λZ e made=>?_]
  refine e1a3 made.there λt aj _ _=>?_
  have n2:H2 e=none:=F.vD.GK made.new
  have I3:Inv 18 a σ (upd H2 e<|Dy C e none) { G with heap:=Z,toks:=G.toks}:=F.un (Un.Mj F.vD made.new made.keeps)<|F.vD.Mj made.new made.keeps #[t,aj]
  have r3:Vals (.ref e::X++p) (.ref e::l++U):=.cons rfl<|Vals.append r2 af
  have ak:(hO e::l++U).length=ps.length:=by rw[<- r3.length];exact FI.len _ _ _ _<|M e n2
  refine mz<|jL (FI.run _ _ { G with heap:=Z} _ ⟨.ref e::l,[]⟩ (.ref e::l++U) (.ref e::X++p) _ _ (hr.make C l []) (I3.Ib.make C l []) (j { G with heap:=Z} (.ref e::l) I3.yr ak) r3 (M e n2)) λr y O=>?_
  cases r with
  |error e'=>obtain⟨_,_,_,_,_,z⟩:=O;exact z.elim
  |ok fl =>
    cases fl with
    |next=>exact io O
    |brk=>exact io O
    |cont=>exact io O
    |ret u =>
      obtain⟨v,H4,R,i,S,m,rv,rfl,c,e4,gd,hE⟩:=id O
      have T:(18).stack=(18).env::(18).outer:=rfl
      have J:Inv 18 a σ H4 y:=by
        obtain⟨hh,g,d,tt,al⟩:=y
        obtain rfl:al=G.os:=R
        exact Inv.call (s:={ G with heap:=Z}) (h':=hh) (g':=g) (d':=d) (t':=tt) (ch:=[]) I3 S m i<|λb z=>g8 z q0o
      obtain⟨t4,O4⟩:=GJ J e4
      refine#[rv,J.yr _ _ lC,#[t4,c,O4],?_]
      have fu:=J.Ib.yo
      have an:(lQ y.heap (e::yT (18).stack)).get? e=none:=r9 _ gM
      refine iY (AS (base:=lQ y.heap (e::yT (18).stack)) (a0:=.ref t4) J.ok.frames
        (rJ fu λao he b j=>gQ _<|List.mem_filterMap.mpr ⟨ao,he,j⟩) (xG J T) O4 (λb o z=>mY _ z) an rfl rfl rfl
        (Q:=λ_ aq=>vF P w outer H s E (.ref e) aq) λar fl up dk=>?_) (λ_ _ z=>z) λ_ _ z=>z
      refine#[C,e,BN H4 e,rfl,?_,hE]
      refine J3 (s2:=y) F T rfl R i (Un.Qu ((Un.Mj F.vD made.new made.keeps).trans S) made.new n2) (m.Qu e4) (λb o z L nf=>oY _ z λj=>?_) (λb j=>?_) up fl #[_,dk,gd]
      · rcases List.mem_cons.mp j with rfl|j
        · rcases L with L|⟨o0, L⟩
          · exact L zk
          · rw[made.new]at L; cases L
        · exact nf j
      · have z := J.ZU b j
        refine#[?_,(fu.mem j).2]
        by_cases q:b=e
        · rw[q, zk]
        · rw[xJ q]; exact z.1
end
def W6(K:gG)(C:gH)(c:Str):Sp:=λd H Q _=>∃x l b,d=[.ref x,.ref l]/\H x=↑(Dy C x none)/\(vX K H l b\/yI K H l b)/\∀p a,H p=none->H a=none->a≠x->a≠p->Q .wm (upd (upd (upd H p<|.lst b) a<|.xd [(c,.ref p)]) x<|Dy C x<|↑a)
section
variable{P:im}{w:iL}{K:gG}{mg:Str->Option ci}{base:iG}{qual name:Str}{scope:lV}{f yV cc:gH}{C:gH}{k:Nat}{p0 p1 p2 p3 p4 p5 p6 p7 p8 p9 apos pos:Pos}{r fl tx:Str}{j:Nat}
variable{nm q:Str}{Ns:gH}{bs bm:List ci}{sn:List Str}{sub:List ci}{ab:Bool}{col:Option Bool}{dd:Option gH}{k0 k1 k2 k3 k5:Option ci}{params:Arguments}{dV kV doc pm ct oc:ci}{an od:Option gH}{Nd:Array (Option ci)}{body:List ic}
def T7(lk:K.lookup f=some #[oc,od,.func<|ku name qual params body scope [71] dV kV doc pm an (.ref yV) ct,Nd])(g:jk K (.ref yV) qual=true)
 (m:body=[.Expr (.Call (.Attribute 79 "__init__" apos) [.Constant (.str tx) j p3] [] pos) p2,.Assign [.Attribute (.Name "self" p4) fl p5] (.Call (.Name "list" p6) [.Name r p7] [] p8) p9])
 (S:WL.xg ["self",r] ["self",r] scope) (D:Kl P K C f yV cc "self") (n:NF p0 p1 apos pos "__init__" [.Constant (.str tx) j p3]) (o:mg "super"=none) (t:mg "list"=none) (u:scope.names.lookup ("list":Str)=some .globalImplicit)
 (M:K.lookup C=↑(jw nm q C Ns bs bm true sn sub ab col dd k0 k1 k2 k3 k5 "ValueError.__new__")) (U:jM K C C "__init__"=↑(some<|.builtin "ValueError.__init__")) (v:kR K C (.type "ValueError")=↑true)
 (B:bm.contains (.type "object")=true) (F:∀x:gH,tj (.ref x) "__setattr__" bm=pure ()) (X:ig K (.ref C) "__setattr__"=↑98) (Y:ig K (.ref C) fl=↑none)
 (G:(r==55)=false) (I:(r==("__classdict__":Str))=false) :
    vt P w K mg base (vF P w) (k+1) f (ku name qual params body scope [71] dV kV doc pm an (.ref yV) ct) ["self",r] (W6 K C fl):=by
  obtain⟨o1,o2,o3,a⟩:=D.cell
  refine GG lk g (S.x cc) (λy c h=>?_) (λZ H Q E h=>?_) λA J s H Z Q E hr L=>?_
  · have e : c = cc := by
      by_cases e:(y==99)=true
      · rw[iz, e]at h; cases h; rfl
      · rw[iz, Bool.eq_false_iff.mpr e]at h; cases h
    subst e
    exact#[_,_,a,rfl]
  · obtain⟨x, l, N, rfl, _⟩ := h; rfl
  · obtain⟨x, l, N, rfl, b, hl, hq⟩ := L
    rw[m]
    refine#[_,yj (Ep (Qt D rfl S.ks S.kc (S.par _ gM) o M U v (uS FX u4) rfl rfl n)) (yj (Qh (T5 (Jv (i:=0) rfl (.inl (S.par _ gM)))
      (xi ya u t jR (uS (Jv (i:=1) rfl (.inl (S.par _ (gQ _ gM))) G I) u4)) rfl M B F X Y)) (Dv y8)),?_]
    have st:start ["self",r] [V.ref x,V.ref l]=[some<|.ref x,some<|.ref l]:=rfl
    rw[st]
    refine#[x,rfl,b,?_,b,?_]
    · show (1 : Nat) <= gL
      rw[iQ];lia
    · refine#[.ref l, rfl, l, N, rfl, hl, λp O => #[.ref x, rfl, x, rfl, ?_, λR d n2 => ?_]]
      · rw[uL λz => by rw[z, O]at b; cases b]
        exact b
      · have T : R ≠ p := λz => by rw[z, uO]at d; cases d
        rw[uL T]at d
        exact hq p R O d n2 T
end
end L2
namespace WL
variable[L2.GX]
open PySem L2
open Rep (rp)
open Ow (sl)
open Sls (rel)
structure XcI(P:im)(w:iL)(K:gG)(mg:Str->Option ci)(base:iG)(k:Nat)(x:Str)(C:gH)(fl:Str):Prop where
 ex:∃(fI Ns:gH)(fd:iB)(oI:qw)(nm q:Str)(bs bm C9:List ci)(hdct:Bool)(sn:List Str)(sub:List ci)(ab:Bool)(col:Option Bool)(dd:Option gH)(k0 k1 k2 k3 k5:Option ci)(B newId xT:String)(ps:List Str),
  mg x=↑(.ref C)/\K.lookup C=↑(jw nm q C Ns bs bm hdct sn sub ab col dd k0 k1 k2 k3 k5 newId)/\(∀h:iG,K.In h->∃mN,h.Ns Ns mN/\mN "__init__"=↑(.ref fI))/\(∀h:iG,K.In h->sD h C9 bm)/\K.lookup fI=↑oI/\oI.cls=.type "function" /\
  kh B newId xT C9/\bm.contains (.type "BaseException")=true/\vt P w K mg base (vF P w) k fI fd ps (W6 K C fl)/\Binds K fd ps []
 go:∀dx p xs H,H dx=↑(.xd [(fl,.ref p)])->H p=↑(.lst xs)->GX.g C ↑dx H
section
variable{D D' D1 PO τ α:Type}[Sls D][Sls D'][Sls D1][Sls PO][Ow τ][Rep α]
def W7{x r L:Str}{i:Nat}{y j M:Pos}{C:gH}[J:Pj D PO n][At i D (OL α) D1](hg:Gl 74 x)(h:XcI P w K l base k x C L)(hr:v4 (k+1) (74).A)
  (hv:PE 74 (.Name r M) (vr i)) (W:(x==55)=false:=by decide)
  (X:gJ [.Name r M] (74).env=(false,eval (.Name r M) (74).env)::gJ [] (74).env:=by rfl) :
  S1 74 E T ms n (.Raise (some<|.Call (.Name x y) [.Name r M] [] j) none Y) (λ(d:D)(_:D'->Prop)(_:τ->PO->Prop) Ke=>Ke C<|J.pj d):=by
 obtain⟨fI,Ns,fd,oI,nm,q,bs,bm,af,ae,sn,ag,ab,ah,dd,k0,k1,k2,k3,k5,B,Z,O,ps,a1,a2,a3,a4,a5,a6,a7,a8,a9,aa⟩:=h.ex;refine#[_,NI (np:=y) (pos:=Y) (cpos:=j) hg a1 a2 a3 a4 a5 a6 a7 a8 a9 aa .nil hr (uS hv u4 X) W (by rw[X];rfl) λQ E' s9 z=>by rw[X]at z ⊢;exact jt z,λd F R σ H Kn Kr Ke En s hw kn kr ke=>?_];obtain⟨v,F1,F2,e1,_,⟨a,I,rfl,_,ha,_⟩,_⟩:=Tc (i:=i) (τ:=OL α) s;refine#[.ref a,e1,(by show 1<=gL;decide),λx hx=>#[x,a,I,rfl,uO,.inl ?_,λp m S hd nx y=>#[rfl,↑m,uO,?_]]]
 ·have ne:a≠x:=λz=>by rw[z,hx]at ha;cases ha
  exact .inl<|Rd.of (by rw[uL ne];exact ha)
 ·have px:p≠x:=λz=>by rw[z,uO]at S;cases S
  rw[uL px]at S;rw[uL nx]at hd
  have q:BN (upd (upd (upd (upd H x<|Dy C x none) p<|.lst I) m<|.xd [(L,.ref p)]) x<|Dy C x<|↑m) x=upd (upd H p<|.lst I) m (.xd [(L,.ref p)]):=by
   funext b
   by_cases U:b=x
   ·rw[U,zk,uL<|Ne.symm nx,uL<|Ne.symm px,hx]
   ·rw[xJ U,uL U];by_cases o:b=m
    ·rw[o,uO,uO]
    ·rw[uL o,uL o];by_cases t:b=p
     ·rw[t,uO,uO]
     ·rw[uL t,uL U,uL t]
  rw[q];refine#[h.go m p I _ uO (by rw[uL<|Ne.symm y];exact uO),?_];refine e0a3 (s.new (.lst I) S) λs2 c2 _=>?_;obtain⟨s3,c3,_⟩:=s2.new (p:=m) (.xd [(L,.ref p)]) (by rw[uL y];exact hd);refine e1a2 (wp (PO:=PO) s3) λG g1 g2=>?_;exact ke C x _ G R _ hw ((Ch.trans s s2.tab c2 c3).less g1) g2
end
end WL
namespace SX
open PySem PySem.W PyProof.Rows
def z8(p:Array Nat)(k:Nat):p.getD k 0=(p[k]?).getD 0:=by simp
def Cu{p:Array Nat}{i j:Nat}(h:j<=p.size)(k:Nat):(rh p i j).getD k 0=if i<=k/\k<j then p.getD (i+j-1-k) 0 else p.getD k 0:=by rw[z8,rh,getElem?_mirror_all h k,z8,z8];split<;>rfl
def Ku{p:Array Nat}{k d:Nat}(h:k<p.size)(a:d<=k)(i:Nat):(bubble p k d).getD i 0=if i=k-d then p.getD k 0 else if k-d<i/\i<=k then p.getD (i-1) 0 else p.getD i 0:=by
 rw[z8,getElem?_bubble h d a i,z8,z8,z8];split
 ·rfl
 ·split<;>rfl
structure a1n(lt:Nat->Nat->Bool):Prop where
 ir:∀a,lt a a=false
 tr:∀a b c,lt b a=false->lt c b=false->lt c a=false
 as:∀a b,lt a b=true->lt b a=false
section
variable{lt:Nat->Nat->Bool}{cmp:Nat->Nat->(Bool->gO->Prop)->gO->Prop}{N:Nat}{s:gO}
def GL(lt:Nat->Nat->Bool)(p:Array Nat)(k:Nat):Prop:=∀i j,i<=j->j<k->lt (p.getD j 0) (p.getD i 0)=false
def Fb(lt:Nat->Nat->Bool)(p:Array Nat)(k:Nat):Prop:=∀i j,i<=j->j<k->lt (p.getD i 0) (p.getD j 0)=false
def HL(N:Nat)(p:Array Nat):Prop:=∀k,p.getD k 0<N
def HL.rev{i j:Nat}(b:HL N p)(h:j<=p.size):HL N (rh p i j):=λk=>by rw[Cu h];split<;>exact b _
def HL.bub{k d:Nat}(b:HL N p)(h:k<p.size)(c:d<=k):HL N (bubble p k d):=λi=>by
 rw[Ku h c];by_cases q:i=k-d
 ·rw[gI q];exact b _
 ·rw[cr q];by_cases a:k-d<i/\i<=k
  ·rw[gI a];exact b _
  ·rw[cr a];exact b _
def BO{i j:Nat}:(rh p i j).Perm p:=mirror_perm _ _ _ _
variable(L:a1n lt)(hc:∀i j (C:Bool->gO->Prop),i<N->j<N->C (lt i j) s->cmp i j C s)
include L hc
def Ml(b:HL N p):∀(f n:Nat) {Q:Nat->gO->Prop},1<=n->GL lt p n->(∀m,n<=m->m<=n+f->GL lt p m->(m<n+f->lt (p.getD m 0) (p.getD (m-1) 0)=true)->Q m s)->lA cmp (kas_asc p f n) Q s:=by
 intro g
 induction g with
 |zero=>intro n Q h a k;exact k n (gK _) (gK _) a<|λz=>g8 z<|jI _
 |succ f c =>
  intro n Q h a k;refine hc _ _ _ (b _) (b _) ?_
  cases e:lt (p.getD n 0) (p.getD (n-1) 0) with
  |true=>exact k n (gK _) q0a a λ_=>e
  |false =>
   refine c (n+1) q0a (λi j d t=>?_) λm u v l o=>k m q0a q0a l λz=>o q0a;by_cases q:j=n
   ·subst q;by_cases r:i=j
    ·rw[r];exact L.ir _
    ·exact L.tr _ _ _ (a i (j-1) q0a q0a) e
   ·exact a i j d q0a
omit hc in
set_option tactic.hygienic true in
def T8{p:Array Nat}{n q:Nat}(m:q+1<=n)(d:n<=p.size)(f:Fb lt p n)(c:∀k,n-(q+1)<=k->k<n->lt (p.getD (n-1) 0) (p.getD k 0)=false)(k:Nat) :
  lt ((rh p (n-(q+1)) n).getD k 0) (p.getD k 0)=false/\lt (p.getD k 0) ((rh p (n-(q+1)) n).getD k 0)=false:=by
 rw[Cu d];split
 ·rename_i h
  have e:∀a b,n-(q+1)<=a->a<n->n-(q+1)<=b->b<n->lt (p.getD a 0) (p.getD b 0)=false:=λa b o r g l =>
   L.tr _ (p.getD (n-1) 0) _ (c b g l) (f a (n-1) q0d q0d)
  exact#[e _ _ q0d q0d h.1 h.2,e _ _ h.1 h.2 q0d q0d]
 ·exact#[L.ir _,L.ir _]
omit hc in
def Mm{p:Array Nat}{n q m:Nat}(c:q+1<=n)(d:n<=p.size)(f:Fb lt p n)(a:∀k,n-(q+1)<=k->k<n->lt (p.getD (n-1) 0) (p.getD k 0)=false)(g:Fb lt p m):Fb lt (rh p (n-(q+1)) n) m:=λi j b h=>by have e:=T8 L c d f a;exact L.tr _ _ _ (L.tr _ _ _ (e j).2<|g i j b h) (e i).1
omit hc in
def Eu{n:Nat}(d:1<=n)(b:Fb lt p n)(h:lt (p.getD (n-1) 0) (p.getD n 0)=false):Fb lt p (n+1):=λi j a e=>by
 by_cases q:j=n
 ·subst q;by_cases c:i=j
  ·rw[c];exact L.ir _
  ·exact L.tr _ _ _ h<|b i (j-1) q0a q0a
 ·exact b i j a q0a
def Qv:∀(f:Nat)(p:Array Nat)(n q:Nat) {Q:Array Nat×Nat×Nat->gO->Prop},HL N p->q+1<=n->n+f<=p.size->Fb lt p n->(∀k,n-(q+1)<=k->k<n->lt (p.getD (n-1) 0) (p.getD k 0)=false) ->
  (∀a m d,a.Perm p->a.size=p.size->HL N a->d+1<=m->n<=m->m<=n+f->Fb lt a m->(∀k,m-(d+1)<=k->k<m->lt (a.getD (m-1) 0) (a.getD k 0)=false)->Q (a,m,d) s)->lA cmp (kas_desc f p n q) Q s:=by
 intro F
 induction F with
 |zero=>intro p n q Q b w G h c k;exact k p n q (.refl _) rfl b w (gK _) (gK _) h c
 |succ f g =>
  intro p n q Q b w G h c k;refine hc _ _ _ (b _) (b _) ?_
  cases e:lt (p.getD n 0) (p.getD (n-1) 0) with
  |true =>
   have y:=Eu L q0a h<|L.as _ _ e
   have A:∀{x:Array Nat},∀k,n+1-(0+1)<=k->k<n+1->lt (x.getD (n+1-1) 0) (x.getD k 0)=false:=λ{x} k H I=>by
    have:k=n+1-1:=by lia
    rw[this];exact L.ir _
   split
   ·refine g _ (n+1) 0 (b.rev q0a) q0a (by rw[mP];lia) (Mm L w q0a h c y) A λa m d l o r t B D u v=>k a m d (l.trans BO) (o.trans<|mP _ _) r t q0a q0a u v
   ·exact g p (n+1) 0 b q0a q0a y A λa m d l o r t B D u v=>k a m d l o r t q0a q0a u v
  |false =>
   refine hc _ _ _ (b _) (b _) ?_
   cases J:lt (p.getD (n-1) 0) (p.getD n 0) with
   |true=>exact k p n q (.refl _) rfl b w (gK _) q0a h c
   |false =>
    refine g p (n+1) (q+1) b q0a q0a (Eu L q0a h J) (λE H I=>?_) λa m d l o r t B D u v=>k a m d l o r t q0a q0a u v;have M:n+1-1=n:=by lia
    rw[M];by_cases z:E=n
    ·rw[z];exact L.ir _
    ·exact L.tr _ _ _ (c E q0a q0a) e
def IP{n a:Nat}(b:HL N p)(e:1<=n)(o:n<=a)(q:a<=p.size)(f:Fb lt p n)
 (k:∀m c,c.Perm p->c.size=p.size->HL N c->1<=m->m<=a->GL lt c m->Q (m,c) s):lA cmp (kas_tail3 n a p) Q s:=by
  unfold kas_tail3
  rw[mX]
  have d:n<=p.size:=by omega
  refine Ml L hc (b.rev d) _ n e (λi j g h=>?_) λm r t l _=>k m _ BO (mP _ _) (b.rev d) q0d q0d l
  rw[Cu d,Cu d,gI #[iX _,h],gI #[iX _,q0d]]
  exact f _ _ q0d q0d
def Qw{n a:Nat}(b:HL N p)(A:1<=n)(B:n+1<=a)(D:a<=p.size)(w:Fb lt p (n+1))
 (k:∀m d,d.Perm p->d.size=p.size->HL N d->1<=m->m<=a->GL lt d m->Q (m,d) s):lA cmp (kas_descPart n a p) Q s:=by
  unfold kas_descPart
  rw[mX]
  refine Qv L hc _ p (n+1) 0 b q0a q0a w (λx E F=>?_) λd m G t u v y H I e z=>?_
  · have : x = n+1-1 := by lia
    rw[this];exact L.ir _
  · dsimp only
    split
    · exact IP L hc (v.rev q0a) q0a q0a (by rw[mP]; lia) (Mm L y q0a e z e) λf c g h l o q r => k f c ((g.trans BO).trans t) ((h.trans<|mP _ _).trans u) l o q r
    · exact IP L hc v q0a q0a q0a e λf c g h l o q r => k f c (g.trans t) (h.trans u) l o q r
set_option tactic.hygienic true in
def NJ{d:Nat}(b:HL N p)(P:1<=d)(B:d<=p.size)
 (k:∀m f,f.Perm p->f.size=p.size->HL N f->1<=m->m<=d->GL lt f m->Q (m,f) s):lA cmp (kas_count d p) Q s:=by
  unfold kas_count
  rw[mX]
  refine Ml L hc b _ 1 (gK _) (λi j g v=>?_) λn w R o D=>?_
  · have r : i = 0 := by lia
    have h:j=0:=by lia
    rw[r,h];exact L.ir _
  · by_cases e : n = d
    · rw[gI<|by rw[e]; simp]
      exact k n p (.refl _) rfl b w q0a o
    · rw[cr<|by simp[e]]
      have x:=D q0a
      split
      · rename_i S
        refine hc _ _ _ (b _) (b _) ?_
        cases h:lt (p.getD 0 0) (p.getD (n-1) 0) with
        |true=>exact k n p (.refl _) rfl b w q0a o
        |false =>
          have t:n<=p.size:=by lia
          refine Qw L hc (b.rev t) q0a q0a (by rw[mP];lia) (λi j g v=>?_) λE u y F G H I J=>k E u (y.trans BO) (F.trans<|mP _ _) G H I J
          have l:∀a c,a<n->c<n->lt (p.getD a 0) (p.getD c 0)=false:=λa c M y=>L.tr _ _ _ (L.tr _ _ _ (o c (n-1) q0a q0a) h)<|o 0 a (iX _) M
          rw[Cu t i,Cu t j]
          by_cases q:j<n
          · rw[gI #[iX _, by lia], gI #[iX _, q]]
            exact l _ _ q0a q0a
          · have O : j = n := by lia
            rw[cr (c:=0<=j/\j<n) λz=>q z.2]
            by_cases A:i<n
            · rw[gI #[iX _, A], O]
              exact L.tr _ _ _ (L.as _ _ x)<|l _ _ q0a q0a
            · rw[cr λz => A z.2, show i = j by lia]
              exact L.ir _
      · refine Qw L hc b q0a q0a B (Eu L q0a (λi j g v => ?_)<|L.as _ _ x) k
        have r:i=0:=by lia
        have h:j=0:=by lia
        rw[r,h];exact L.ir _
def NK{k:Nat}(b:HL N p)(q:GL lt p k):∀(f l r:Nat) {Q:Nat->gO->Prop},r-l<=f->l<=r->r<=k->(∀i,i<l->lt (p.getD k 0) (p.getD i 0)=false)->(∀i,r<=i->i<k->lt (p.getD k 0) (p.getD i 0)=true) ->
  (∀h,h<=k->(∀i,i<h->lt (p.getD k 0) (p.getD i 0)=false)->(∀i,h<=i->i<k->lt (p.getD k 0) (p.getD i 0)=true)->Q h s)->lA cmp (ui p k f l r) Q s:=by
 intro t
 induction t with
 |zero=>intro l r Q u o a m n d;exact d l q0d m λi z=>n i q0d
 |succ f g =>
  intro l r Q u o a m n d;show lA cmp (if l>=r then KasT.ret l else KasT.ask (p.getD k 0) (p.getD ((l+r) / 2) 0) λc=>if c=true then ui p k f l ((l+r) / 2) else ui p k f ((l+r) / 2+1) r) Q s;split
  ·exact d l q0d m λi z=>n i q0d
  ·refine hc _ _ _ (b _) (b _) ?_
   cases e:lt (p.getD k 0) (p.getD ((l+r) / 2) 0) with
   |true =>
    refine g l ((l+r) / 2) q0d q0d q0d m (λi v w=>?_) d
    cases x:lt (p.getD k 0) (p.getD i 0) with
    |true=>rfl
    |false=>rw[L.tr _ _ _ (q ((l+r) / 2) i v w) x]at e;cases e
   |false =>
    refine g ((l+r) / 2+1) r q0d q0d a (λi z=>?_) n d;exact L.tr _ _ _ (q i ((l+r) / 2) q0d q0d) e
def T9:∀(f:Nat)(p:Array Nat)(k:Nat) {Q:Array Nat->gO->Prop},HL N p->k+f<=p.size->GL lt p k->(∀d,d.Perm p->GL lt d (k+f)->Q d s)->lA cmp (kas_bin f p k) Q s:=by
 intro t
 induction t with
 |zero=>intro p k Q b u c g;exact g p (.refl _) c
 |succ f h =>
  intro p k Q b u c g;show lA cmp ((ui p k k 0 k).bind λl=>kas_bin f (bubble p k<|k-l)<|k+1) Q s;rw[mX];refine NK L hc b c k 0 k q0a q0a (gK _) (λi z=>g8 z q0a) (λi D v=>g8 v q0a) λl E w x=>?_;have a:k<p.size:=by lia
  have m:k-l<=k:=by lia
  have y:k-(k-l)=l:=by lia
  refine h _ (k+1) (b.bub a m) (by rw[bubble_size];lia) (λi j n F=>?_) λd A B=>g d (A.trans<|bubble_perm _ _ _) (by rw[show k+(f+1)=k+1+f by lia];exact B);rw[Ku a m,Ku a m,y];by_cases o:j=l
  ·rw[gI o];by_cases e:i=l
   ·rw[gI e];exact L.ir _
   ·rw[cr e,cr q0a];exact w i q0a
  ·rw[cr o];by_cases q:l<j/\j<=k
   ·rw[gI q];by_cases e:i=l
    ·rw[gI e];exact L.as _ _<|x (j-1) q0a q0a
    ·rw[cr e];by_cases r:l<i/\i<=k
     ·rw[gI r];exact c _ _ q0a q0a
     ·rw[cr r];exact c _ _ q0a q0a
   ·rw[cr q,cr q0a,cr q0a];exact c _ _ n q0a
set_option tactic.hygienic true in
def Qx{n:Nat}(p:1<=n)(u:n<=N)(d:∀a,a.Perm (hW n).toArray->GL lt a n->Q a s):lA cmp (kas_sort n) Q s:=by
 unfold kas_sort;rw[mX];have e:(hW n).toArray.size=n:=by simp
 have b:HL N (hW n).toArray:=λk=>by
  rw[z8];simp only[List.getElem?_toArray,List.getElem?_range'];by_cases h:k<n
  ·simp[tR h];lia
  ·simp[ki (l:=hW n)<|by simpa using h];lia
 refine NJ L hc b p (by rw[e];exact gK _) λm a f q r v w g=>?_;split
 ·rename_i h
  refine T9 L hc _ a (max m 1) r (by rw[q,e];lia) (by rw[show max m 1=m by lia];exact g) λc t o=>d c (t.trans f) (by rw[show max m 1+(n-max m 1)=n by lia]at o;exact o)
 ·exact d a f (by rw[show n=m by lia];exact g)
end
open PySem.Spec
noncomputable def HM(p q:Int×Int):Bool:=decide (p.1<q.1)||(p.1==q.1&&decide (p.2<q.2))
def Ev:HM p q=false↔q.1<p.1\/(q.1=p.1/\q.2<=p.2):=by unfold HM;simp only[Bool.or_eq_false_iff,Bool.and_eq_false_iff,decide_eq_false_iff_not,beq_eq_false_iff_ne];omega
def Zq:HM p q=true↔p.1<q.1\/(p.1=q.1/\p.2<q.2):=by unfold HM;simp only[Bool.or_eq_true,iw,iF,beq_iff_eq]
def w6(h:iG)(v:ci)(p:Int×Int):Prop:=∃x o t u n,v=.ref x/\h.get? x=↑o/\o.cls=.type "tuple"/\o.data=.seq #v[.int p.1 t,.int p.2 u] n
def Ua{x y:ci}{p q:Int×Int}{Q:Bool->gO->Prop}(hx:w6 s.heap x p)(hy:w6 s.heap y q)(h:Q (HM p q) s):gS (gU prog w) A (keyLt' (tuples' true) x y) Q E s:=by
 obtain⟨a,o,t,u,n,rfl,h1,h2,h3⟩:=hx;obtain⟨b,o',t',u',n',rfl,k1,k2,k3⟩:=hy;refine PySem.W.kat_lt h1 h3 k1 k3<|tT<|rE<|ux (λe=>uj<|tT<|rE<|ux (λe2=>uj<|PySem.W.kat_nil ?_) λe2=>uy<|PySem.W.kat_one _ _<|wpAny_lt_int ?_) λe=>uy<|oneLt_int ?_
 ·have e1:=eq_of_beq e;have e2:=eq_of_beq e2;have:HM p q=false:=Ev.mpr<|.inr #[e1.symm,Int.le_of_eq e2.symm];rw[this]at h;exact h
 ·have e1:=eq_of_beq e;have:HM p q=decide (p.2<q.2):=by unfold HM;rw[e1];simp
  rw[this]at h;exact h
 ·have:HM p q=decide (p.1<q.1):=by unfold HM;rw[e];simp
  rw[this]at h;exact h
def w6.keep{h a:iG}(k:∀b o,h.get? b=↑o->o.cls=.type "tuple"->a.get? b=↑o)(z:w6 h v p):w6 a v p:=by obtain⟨x,o,t,u,n,e,d,c,f⟩:=z;exact#[x,o,t,u,n,e,k x o d c,c,f]
def Ew{h a:iG}(k:∀b o,h.get? b=↑o->o.cls=.type "tuple"->a.get? b=↑o):∀{c:List ci} {d:List (Int×Int)},Paired (w6 h) c d->Paired (w6 a) c d:=by
 intro _ _ z
 induction z with
 |nil=>exact .nil
 |cons h t e=>exact .cons (h.keep k) e
def Ex:∀{d:List ci} {e:List (Int×Int)},Paired (w6 h) d e->∃c,PySem.W.KatTups h d c/\c.length=d.length/\∀v∈c,∃i t,v=lE i t
 |_,_,.nil=>#[[],PySem.W.KatTups.nil,rfl,λ_ z=>g8 z jb]
 |_,_,.cons a b=>by
  refine e1a3 (Ex b) λc f g j=>?_;obtain⟨x,o,t,u,n,rfl,k,l,m⟩:=a;refine#[_::c,#[#[x,o,_,n,rfl,k,l,m,rfl],f],by simp[g],λv p=>?_];rcases List.mem_cons.mp p with z|z
  ·exact#[_,_,z]
  ·exact j v z
def FN:∀{c:List ci} {d:List (Int×Int)},Paired (w6 h) c d->∀i,i<c.length->w6 h (c.getD i .none) (d.getD i (0,0)):=by
 intro _ _ z
 induction z with
 |nil=>intro i z;exact g8 z<|Nat.not_lt_zero _
 |cons a b e =>
  intro i z
  cases i with
  |zero=>exact a
  |succ i=>simpa using e i (by simpa using z)
def Kv{d:List ci}{n:Nat}(D:s.heap.get? a=↑(mh "list" d.toArray n))(hp:Paired (w6 s.heap) d m)(I:d.length<64)
 (h:∀J:List Nat,J.Perm (hW d.length)->(J.map λi=>m.getD i (0,0)).Pairwise (λx y=>HM y x=false)->P (.done<|.ret .none) { s with heap:=sortedHeap s.heap a d (J.map λi=>d.getD i .none).toArray}):gS (gU U w) A (Builtin.«list.sort» #[[.ref a],[]]) P E s:=by
  rw[list_sort_plain]
  have sl:(64:Nat)<=gL:=by rw[iQ];decide
  have hz:d.length<=gL:=by lia
  refine am<|listItems_at D rfl<|am<|tU D rfl ?_ (hsz:=by simpa using hz)
  obtain⟨L,X⟩:∃L,(s.heap.update a<|Obj.mapSeq λ_=>#v[]).get? a=some (mh "list" #v[] L):=#[_,get?_update_seq D _]
  refine am<|seqEpoch_at X rfl<|am<|wpAny_newTuple<|am<|tQ<|iq ?_
  have F:(((s.heap.update a<|Obj.mapSeq λ_=>#v[]).push<|mh "tuple" d.toArray 0).push<|mh "list" #v[] 0).get? a=↑(mh "list" #v[] L):=ce _<|ce _ X
  have g:Paired (w6<|((s.heap.update a<|Obj.mapSeq λ_=>#v[]).push<|mh "tuple" d.toArray 0).push<|mh "list" #v[] 0) d m:=Ew (λb o z c=>ce _<|ce _<|(iv _ _ (λq=>by rw[<- q,D]at z;cases z;have c:jS "list"=jS "tuple":=c;injection c with c;exact g8 c q0q)).trans z) hp
  have sz:d.toArray.size=d.length:=by simp
  by_cases Y:d.length<2
  · rw[gI q0a, gI q0a]
    refine am<|ap<|am<|ap ?_
    refine am<|seqEpoch_at F rfl<|am<|tU F rfl ?_ (hsz2:=by simp[SortSt.mk',arrOf];lia)
    have key:=h (hW d.length) (.refl _) (by
      rcases d with _|⟨v,_|⟨v2,r⟩⟩
      · simp
      · simp
      · simp at Y; lia)
    have e:((hW d.length).map λi=>d.getD i .none).toArray=Array.map (λx=>x.snd) (d.toArray.zip d.toArray):=by
      rcases d with _|⟨v,_|⟨v2,r⟩⟩
      · simp
      · simp
      · simp at Y; lia
    rw[e]at key
    simp only[q7,kT,o6]
    exact ap key
  rw[cr q0a,cr q0a]
  refine e1a3 (Ex g) λfs f1 f2 f3=>?_
  refine am<|PySem.W.kat_kind (T:=.type "int") f1 q0a (λv hv=>?_) q0q ?_
  · obtain⟨i, t, rfl⟩ := f3 v hv
    exact PySem.W.Looks.now
  refine am (iY (PySem.W.kat_run (ks:=d) (vs:=d) (κ:=tuples' true) rfl q0a I (Q:=λf u=>∃p:Array Nat,p.size=d.length/\arrOf f=Array.map (PySem.W.kas_item (d.toArray.zip d.toArray)) p/\failedOf f=none/\u={ s with heap:=((s.heap.update a (Obj.mapSeq λ_=>#v[])).push (mh "tuple" d.toArray 0)).push (mh "list" #v[] 0)}/\p.toList.Perm (hW d.length)/\(p.toList.map λi=>m.getD i (0,0)).Pairwise (λx y=>HM y x=false))
    (G:=λp u=>u={ s with heap:=((s.heap.update a (Obj.mapSeq λ_=>#v[])).push (mh "tuple" d.toArray 0)).push (mh "list" #v[] 0)}/\p.toList.Perm (hW d.length)/\(p.toList.map λi=>m.getD i (0,0)).Pairwise (λx y=>HM y x=false)) (λp f u M O R q4=>#[p,M,O,R,q4]) ?_) ?_ λ_ _ z=>z)
  rotate_left
  · rintro⟨⟨⟩, f⟩ u ⟨p, M, O, R, rfl, g1, g2⟩
    have Z:=PySem.W.kat_snds (vs:=d) (ks:=d) rfl O
    refine am<|seqEpoch_at F rfl<|am<|tU F rfl ?_ (hsz2:=by rw[Z];simp[M];lia)
    rw[R]
    simp only[q7,kT,o6]
    rw[Z]
    exact ap<|h _ g1 g2
  · refine Qx (N := d.length) (lt := λi j => HM (m.getD i (0, 0))<|m.getD j (0, 0)) ⟨λa => ?_, λa b c z1 z2 => ?_, λa b z => ?_⟩ (λi j C H B k => ?_) q0a (gK _) λl c1 c2 => #[rfl, ?_, ?_]
    · exact Ev.mpr<|.inr #[rfl, oh _]
    · have z1 := Ev.mp z1
      have z2:=Ev.mp z2
      exact Ev.mpr q0a
    · have z := Zq.mp z
      exact Ev.mpr q0a
    · exact Ua (FN g i H) (FN g j B) k
    · have := c1.toList
      simpa using this
    · rw[List.pairwise_iff_getElem]
      intro i j H B S
      have hl:l.size=d.length:=by have:=c1.size_eq;simpa using this
      have q:=c2 i j (lM S) (by simpa[hl] using B)
      have gi:l.getD i 0=l.toList[i]'(by simpa using H):=by
        have:i<l.size:=by simpa using H
        simp[Array.getD,this]
      have gj:l.getD j 0=l.toList[j]'(by simpa using B):=by
        have:j<l.size:=by simpa using B
        simp[Array.getD,this]
      rw[uJ,uJ,<- gi,<- gj]
      exact q
def GN{a:List ci}(u:s.heap.IsList l a.toArray)(v:Paired (w6 s.heap) a B)(f:a.length<64)
 (h:∀j C r (d:List Nat),⇑s<=r->d.Perm (hW a.length)->(d.map λi=>B.getD i (0,0)).Pairwise (λx y=>HM y x=false)->(∃n,j.get? r=some { cls:=.type "list",data:=.seq (d.map λi=>a.getD i .none).toArray n})->(∀c o,s.heap.get? c=↑o->j.get? c=↑o)->Q (.ref r) { s with heap:=j,toks:=C}) :
    gS (gU t w) A (call (.builtin "sorted") [.ref l]) Q E s:=by
  refine rA kind_sorted plain_sorted entry_sorted (args_sorted1 _) ?_
  have sl:(64:Nat)<=gL:=by rw[iQ];decide
  refine am (m:=checkCount "sorted" 1 1 _)<|ap<|am<|collect_list u ?_ q0d
  have e:∀c o,s.heap.get? c=↑o->((s.heap.push<|mh "list" #v[] 0).update ⇑s<|Obj.mapSeq λx=>x++a.toArray).get? c=↑o:=λc o q=>(iv _ _<|je<|gP q).trans<|ce _ q
  have sz:⇑s<=((s.heap.push<|mh "list" #v[] 0).update ⇑s<|Obj.mapSeq λx=>x++a.toArray).objs.size:=by rw[ou,sX];exact lG _
  generalize ((s.heap.push<|mh "list" #v[] 0).update ⇑s<|Obj.mapSeq λx=>x++a.toArray)=k at e sz ⊢
  refine am<|tQ ?_
  have p:(k.push<|mh "list" a.toArray 0).get? k.objs.size=↑(mh "list" a.toArray 0):=gW _ rfl
  refine am<|iq<|iM slot_list_sort ⟨_,p,rfl⟩ entry_list_sort (Kv p (Ew (λb o z _=>ce _<|e b o z) v) f λd D F=>#[_,rfl,?_])<|args_list_sort _
  obtain⟨G,H⟩:=sortedHeap_at (out:=(d.map λi=>a.getD i .none).toArray) p
  refine ap #[_,rfl,h _ s.toks k.objs.size d sz D F #[G,by simpa using H] λc o g=>?_]
  have lt:=gP<|e c o g
  rw[sortedHeap_old (gZ lt)<|by rw[sX];exact og lt]
  exact ce _<|e c o g
end SX
namespace L2
open PySem PySem.Spec PyProof.Rows SX
def range_getD(l:List a)(d:a):(hW l.length).map (λi=>l.getD i d)=l:=by refine List.ext_getElem q0o λi c b=>?_;simp[List.getD,b]
def FO(h:Paired R c k):∀{b:List Nat},(∀i∈b,i<c.length)->Paired R (b.map λi=>c.getD i d) (b.map λi=>k.getD i e):=by
 have g:∀i,i<c.length->R (c.getD i d) (k.getD i e):=by
  induction h with
  |nil=>exact λi z=>g8 z<|Nat.not_lt_zero _
  |cons a _ f =>
   intro i z
   cases i with
   |zero=>exact a
   |succ i=>simpa using f i (by simpa using z)
 intro b
 induction b with
 |nil=>exact λ_=>.nil
 |cons i r f=>exact λz=>.cons (g i<|z i gM)<|f λj l=>z j<|gQ _ l
def pairs_at(I:Inv X g B H s):∀{i:List V} {d:List ci} {f:List (Int×Int)},Vals i d->Paired (λ(v:V)(p:Int×Int)=>∃t,v=.ref t/\H t=↑(.tup [.int p.1,.int p.2])) i f->Paired (w6 s.heap) d f:=by
 intro _ _ f z
 induction z generalizing f with
 |nil=>intro w;cases w;exact .nil
 |cons r C j=>intro w;cases w with|cons q k =>
  refine e1a2 q λt e h=>?_;subst e;obtain rfl:=r;obtain⟨d,l,⟨o,m,u,n,x⟩,_⟩:=I.tuple<|yI.of h
  cases l with|cons a b =>
  cases b with|cons b c =>
  cases c;obtain⟨y,rfl⟩:=a;obtain⟨A,rfl⟩:=b;exact .cons #[t,o,y,A,n,rfl,m,u,x]<|j k
def GO:yu X (.builtin "sorted") (λm H Q=>∃(a:gH)(c:List V) (j:List (Int×Int)),m=[.ref a]/\vX X.K H a c/\Paired (λ(v:V)(p:Int×Int)=>∃t,v=.ref t/\H t=↑(.tup [.int p.1,.int p.2])) c j/\c.length<64 /\
  ∀(l:gH)(b:List Nat),H l=none->b.Perm (hW c.length)->(b.map λi=>j.getD i (0,0)).Pairwise (λx y=>HM y x=false)->Q (.ref l) (upd H l (.lst (b.map λi=>c.getD i .wm)))):=by
 intro w s R H m c Q I r h;obtain⟨a,f,j,rfl,A,B,C,q⟩:=h;obtain⟨u,rfl,D⟩:=vals1 r;cases D;refine e1a3 (I.list A) λd k E S=>?_;have F:f.length=d.length:=k.length;refine GN E.isList (pairs_at I k B) q0d λT G r b z g J L M=>?_;obtain⟨n,e⟩:=L;rw[<- F]at g;have N:∀i∈b,i<f.length:=λi O=>by simpa using g.subset O
 have P:b.length=f.length:=by simpa using g.length_eq
 exact#[.ref r,_,I.laid (t':=G) (o:=.lst<|b.map λi=>f.getD i .wm) M z #[by rw[gN,P];omega,b.map λi=>d.getD i .none,n,FO k N,e],rfl,q r b (I.vD.fresh z) g J]
end L2
namespace WL
variable[L2.GX]
open PySem L2 SX
open Rep (rp)
open Ow (sl)
open Sls (rel)
section
variable{D:Type}[Sls D]
def NL:∀{a:List d} {b:List V},Paired R a b->Paired (λv x=>R x v) b a:=by
 intro _ _ z
 induction z with
 |nil=>exact .nil
 |cons h t c=>exact .cons h c
def IQ{a b:Type}{R S:a->b->Prop}(h:∀x y,R x y->S x y):∀{c:List a} {d:List b},Paired R c d->Paired S c d:=λz=>L2.Paired.VL z h
def Kw(B:Gl X "sorted")(C:X.mg "sorted"=none)(G:ER X E T a I)(k:gJ [a] X.env=75::gJ [] X.env:=by rfl) :
  EO X E T (.Call (.Name "sorted" p) [a] [] pos) (cK I λ(m:OL (Int×Int)->D->Prop) g b=>(g b).length<64/\∀c,c.Perm (g b)->c.Pairwise (λx y=>HM y x=false)->m #[c] b):=by
 refine e1a2 G λta J L=>?_;refine#[_,ww GO B C kd (uS J u4 k) (he:=k),λd F R M H m N Q s O P S=>L d F R M H _ N _ s O (λg b u n U W o Y f Z=>?_) S];obtain⟨q,r,rfl,h1,h⟩:=Z b n U W 53 f;have A:(g b).length=r.length:=h.length;refine#[_,r,g b,rfl,vX.of h1,IQ (λv x z=>?_)<|NL h,by rw[<- A];exact o.1,λl ix hl j sn=>?_]
 ·obtain⟨t,u,w,rfl,_,e,e1,e2⟩:=z;exact#[t,rfl,by rw[e,e1,e2]]
 ·rw[<- A]at j;have lt:∀i∈ix,i<(g b).length:=λi hi=>by simpa using j.subset hi
  refine e1a3 (xk f hl<|FO (d:=(0,0)) (e:=V.wm) h lt) λR' c3 s3 n3=>?_;exact P _ b _ _ n R' _ (o.2 _ (by have:=j.map<|λi=>(g b).getD i (0,0);rwa [range_getD]at this) sn) (Ch.trans s f.tab Y c3) s3 n3
def tw_trueR{f:Type}[Rep f]{h:Wf D (D->List f) D}(p:ER X E T a h)(r:∀b,qF a X.env b=(do let v <- b;mI a.pos;kG [v] (ul v)):=by intro _;rfl):TW X E T a (cK h λi g c=>i (!(g c).isEmpty) c):=by
 refine e1a2 p λL t w=>?_;refine#[_,HZ t r,λd F R x H i y Q s z A B=>w d F R x H _ y _ s z (λg c u j k m C G n I=>?_) B];obtain⟨q,e,rfl,J,o⟩:=I c j k m 53 n;refine#[!e.isEmpty,.inl #[e,vX.of J,rfl],?_]
 have:e.isEmpty=(g c).isEmpty:=by generalize g c=l at o;cases o<;>rfl
 rw[this];exact A _ c j k m C G n
end
section
variable{D PO τ:Type}[Sls D][Sls PO][Ow τ]{α:Type}[Rep α]
def Zr(q:ID)(i:Nat)[Sls j][A:At i D (Bd C l) j](n:q.ok l)(o:AI X.K C)(t:vJ X.K C q.nm)(u:X.A.units+1<ky)(w:PE X (.Name x b) (vr i))(B:EV X T a f)(m:M1 X (.Attribute (.Name x b) q.nm G) "get" apos a pos:=by exact#[rfl,rfl,rfl,rfl])(I:iA (.Name x b) q.nm X.env (eval (.Name x b) X.env)=eval (.Name x b) X.env:=by rfl) :
  EW X E T (.Call (.Attribute (.Attribute (.Name x b) q.nm G) "get" apos) [a] [] pos) (λ(d:D)(c:Option Int->D->Prop) _=>c (lk 78<|f d) d):=by
 refine e1a2 B λW J L=>?_;refine#[_,OU u (wD w I) J m,λd F R M H c Y Q s N O Z=>?_];obtain⟨p,P,e1,e2,e3,e4,us,S,e,_,_⟩:=wd (i:=i) s;refine e1a4 (zX e q n) λy U h _ _=>?_;refine#[_,S,p,C,P,_,_,rfl,e.ob,o,t,U,y,rfl,.inl #[_,.inl h],L d F R M H _ s λv r=>?_];subst r;have g:=xS.k (k:=ie<|f d) h;rw[yf]at g;refine#[_,g,O _ d _ F R H N 53 s ?_]
 cases lk 78 (f d) with
 |none=>exact rfl
 |some z=>exact#[(λz=>by cases z),rfl]
def Qy(q:ID)(i:Nat)[Sls n][A:At i D (Bd C o) n](t:q.ok o)(u:AI X.K C)(w:vJ X.K C q.nm)(B:X.A.units+1<ky)(G:PE X (.Name x c) (vr i))(I:EV X T a f)(J:EV X T b g)(m:M2 X (.Attribute (.Name x c) q.nm L) "get" apos a b pos:=by exact#[rfl,rfl,rfl,rfl])(M:iA (.Name x c) q.nm X.env (eval (.Name x c) X.env)=eval (.Name x c) X.env:=by rfl) :
  EW X E T (.Call (.Attribute (.Attribute (.Name x c) q.nm L) "get" apos) [a,b] [] pos) (λ(d:D)(e:Int->D->Prop) _=>e ((lk 78<|f d).getD<|g d) d):=by
 refine e1a2 I λta N O=>?_;refine e1a2 J λtb P S=>?_;refine#[_,OV B (wD G M) N P m,λd F R h H e Ke Q s U W ke=>?_];obtain⟨p,Y,e1,e2,e3,e4,us,Z,j,_,_⟩:=wd (i:=i) s;refine e1a4 (zX j q t) λy l1 l _ _=>?_;refine#[_,Z,p,C,Y,_,_,rfl,j.ob,u,w,l1,y,rfl,.inl #[_,.inl l],O d F R h H _ s λv r=>S d F R h H _ s λv' r'=>?_];subst r r';have g:=xS.k (k:=ie<|f d) l;rw[yf]at g;refine#[_,g,W _ d _ F R H U 53 s ?_]
 cases lk 78 (f d) with
 |none=>exact rfl
 |some z=>exact rfl
def Ub(q:ID)(i:Nat)[Sls e][A:At i D (Bd C g) e][U:Pt i e (Bd C g) D](n:q.ok g)(o:AI X.K C)(t:vJ X.K C q.nm)(u:PE X (.Name x b) (vr i))(w:EV X T a f)(m:M1 X (.Attribute (.Name x b) q.nm B) "pop" apos a pos:=by exact#[rfl,rfl,rfl,rfl])(G:iA (.Name x b) q.nm X.env (eval (.Name x b) X.env)=eval (.Name x b) X.env:=by rfl) :
  EW X E T (.Call (.Attribute (.Attribute (.Name x b) q.nm B) "pop" apos) [a] [] pos) (λ(d:D)(h:Int->D->Prop) _=>∃v,lk 78 (f d)=↑v/\h v (U.put (A.hole d)<|q.set (A.get d)<|dk 78<|f d)):=by
 refine e1a2 w λta I J=>?_;refine#[_,OX (wD u G) I m,λd F R L H h Ke Q s M N ke=>?_];obtain⟨p,O,e1,e2,e3,e4,us,P,j,S,W⟩:=wd (i:=i) s;refine e1a4 (zX j q n) λy Y k l Z=>?_;refine#[_,P,p,C,O,_,_,rfl,j.ob,o,t,Y,y,rfl,.inl #[_,.inl k],J d F R L H _ s λv r=>?_];subst r;refine e1a2 M λz h1 h2=>?_;refine#[_,ie<|f d,V.int z,k,rfl,(by rw[yf,h1];rfl),?_];rw[IC];obtain⟨c,s'⟩:=W (U:=U) l<|Z (dk 78<|f d)<|S _ l;exact N z _ _ F R _ h2 c s' rfl
def IR{R:Rg}{H:Hp}{y:α}:∀{xs:List α} {vs:List V},Paired (rp R H) (xs++[y]) vs->∃us u,vs=us++[u]/\Paired (rp R H) xs us/\rp R H y u:=by
 intro xs
 induction xs with
 |nil=>intro _ z;cases z with|cons h t=>cases t;exact#[[],_,rfl,.nil,h]
 |cons a xs ih =>
  intro _ z
  cases z with|cons h t =>
  obtain⟨us,u,rfl,h1,h2⟩:=ih t;exact#[_::us,u,rfl,.cons h h1,h2]
def Mn(i:Nat){D0:Type}[Sls D0][A:At i D (OL α) D0][U:Pt i D0 (OL α) D](hn:PE X (.Name x p1) (vr i))(hb:PE X (.Call (.Attribute (.Name x p1) "pop" apos) [] [] pos) (Yp X.K "list" Yq<|vr i)) :
  EW X E T (.Call (.Attribute (.Name x p1) "pop" apos) [] [] pos) (λ(d:D)(Kn:α->D->Prop) _=>∃ys y,(A.get d).l=ys++[y]/\Kn y (U.put (A.hole d) #[ys])):=by
 refine#[_,hb,λd F R σ H Kn Ke Q s hw kn ke=>?_];refine e2a4 (BD (i:=i) s) λa vs g1 g2 g3 g4=>?_;refine e2a2 hw λys y e hk=>?_;rw[e]at g3;obtain⟨us,u,rfl,h1,h2⟩:=IR g3;obtain⟨c2,s2⟩:=g4 _ _ h1;refine#[_,g1,.inl #[rfl,_,vX.of g2],a,_,u,rfl,rfl,g2,q0o,?_];rw[List.dropLast_concat];exact kn y _ u F R _ hk c2 s2<|s.val c2 h2
def zd{R:Rg}{H:Hp}:∀{xs:List α} {vs:List V} (k:Nat),Paired (rp R H) xs vs->Paired (rp R H) (xs.eraseIdx k) (vs.eraseIdx k):=by
 intro _ _ k z
 induction z generalizing k with
 |nil=>exact .nil
 |cons h t ih=>cases k with
  |zero=>exact t
  |succ k=>exact .cons h<|ih k
def FP{a:iD}(i:Nat){D0:Type}[Sls D0][A:At i D (OL α) D0][U:Pt i D0 (OL α) D]{we:Wf D Int D}(hn:PE X (.Name x p1) (vr i))(h:EW X E T a we)
  (hb:∀{t:TA},PA X [a] t->PE X (.Call (.Attribute (.Name x p1) "pop" apos) [a] [] pos) (tBM X.K "list" OO (vr i) t)) (hs:gJ [a] X.env=75::gJ [] X.env:=by rfl) :
  EW X E T (.Call (.Attribute (.Name x p1) "pop" apos) [a] [] pos) (cK we λ(Kn:α->D->Prop) k d'=>0<=k/\∃y,(A.get d').l[k.toNat]?=↑y/\(A.get d').l.length<1000/\Kn y (U.put (A.hole d') #[(A.get d').l.eraseIdx k.toNat])):=by
 refine e1a2 h λt h1 h2=>?_;refine#[_,hb<|uS h1 u4 hs,λd F R σ H Kn Ke Q s hw kn ke=>?_];refine e2a4 (BD (i:=i) s) λa0 vs0 g1 g2 g3 _=>?_;refine#[_,g1,.inl #[rfl,vs0,vX.of g2],h2 d F R σ H _ _ _ s hw (λk d' v F' R' H' q c s' r=>?_) ke];subst r;refine e2a4 (BD (i:=i) s') λa' Th k1 k2 k3 k4=>?_;rw[g1]at k1;cases k1;obtain⟨q0,y,e,ql,hk⟩:=q;refine e1a2 (wE k3 e) λu hu ru=>?_;have lt:=(List.getElem?_eq_some_iff.mp hu).1;have ll:=Paired.length k3;obtain⟨c2,s2⟩:=k4 _ _<|zd k.toNat k3;refine#[a0,Th,k,k.toNat,u,rfl,rfl,k2,q0a,q0a,?_,hu,kn y _ u F' R' _ hk (Ch.trans s s'.tab c c2) s2<|s'.val c2 ru];have e0:(if k<0 then k+(Th.length:Int) else k)=k:=cr q0a;show (if (decide (0<=(if k<0 then k+(Th.length:Int) else k))&&decide ((if k<0 then k+(Th.length:Int) else k)<(Th.length:Int)))=true then some (if k<0 then k+(Th.length:Int) else k).toNat else none)=_;rw[e0];have:(decide (0<=k)&&decide (k<(Th.length:Int)))=true:=by simp;lia
 exact gI this
end
end WL
namespace L2
open PySem PySem.Spec PyProof.Rows SX
def W8(f:TE)(c:Int):TE:=λg H Q=>f g H λv d=>∃(a:gH) (b:List (Key×V)) (e:List Int),v=.ref a/\d a=↑(.dK b)/\b.map (·.1)=e.map ie/\∀p,d p=none->Q (.ref p) (upd d p<|.dK<|e.map λk=>(ie k,V.int c))
def stored_new:∀{l:List (Key×ci)},k∉l.map (·.1)->stored l k y=l++[(k,y)]
 |l,h=>by unfold stored;rw[cr];simp only[uF,iF,not_exists,not_and];exact λe a z=>h<|List.mem_map.mpr #[e,a,z]
def IS:∀{l:List k} {c:List m},Paired R c (l++[v])->∃b d,c=b++[d]/\Paired R b l/\R d v:=by
 intro e
 induction e with
 |nil=>intro _ z;cases z with|cons h t=>cases t;exact#[[],_,rfl,.nil,h]
 |cons a e f =>
  intro _ z
  cases z with|cons h t =>
  obtain⟨g,u,rfl,i,j⟩:=f t;exact#[_::g,u,rfl,.cons h i,j]
def Av:∀{l:List c} {m:List d},l.length=m.length->(∀(j:Nat)(k:c)(v:d),l[j]?=↑k->m[j]?=↑v->R k v)->Paired R l m
 | [],[],_,_=>.nil
 | [],_::_,h,_=>by cases h
 |_::_,[],h,_=>by cases h
 |a::l,b::m,h,f=>.cons (f 0 a b rfl rfl)<|Av (mV h) λj k v e g=>f (j+1) k v e g
def IT{c:Int}:∀{a:List Int} {r:List (Key×ci)},r.map (·.1)=a.map ie->(∀e∈r,∃t,e.2=.int c t)->KV (a.map λk=>(ie k,V.int c)) r
 | [],[],_,_=>.nil
 | [],_::_,h,_=>by cases h
 |_::_,[],h,_=>by cases h
 |k::a,e::r,h,f=>by rw[h8,h8]at h;injection h with b d;obtain⟨t,g⟩:=f e gM;exact .cons #[b.symm,t,g]<|IT d λi j=>f i<|gQ _ j
def Kx{P:im}{w:iL}(g:∀v k,i v k->zC k v=true)(h:StoredAll i j l r):∀{a:List Key},Paired (λk v=>zC k v=true) a l->a.Nodup->r.map (·.1)=a/\∀e∈r,∃v,j v e.2:=by
 induction h with
 |nil=>intro a c _;cases c;exact#[rfl,λ_ z=>by cases z]
 | @snoc l r v k y _ m n o =>
  intro a c p;obtain⟨q,d,rfl,s,t⟩:=IS c;have u:k=d:=(vp P w).inj v k d (g v k m) t;subst u;have b:=List.nodup_append.mp p;obtain⟨f,x⟩:=o s b.1;have A:k∉r.map (·.1):=λz=>by rw[f]at z;exact b.2.2 k z k q0o rfl
  rw[stored_new A,jV,f];refine#[rfl,λe B=>?_];rcases List.mem_append.mp B with z|z
  ·exact x e z
  ·rw[List.mem_singleton.mp z];exact#[v,n]
def Qz(af:X.calm=true)(hi:PE X iter ti)(E:om d X.env=pure [])(F:∀y∈d.names,y.2≠.cell)(f:d.kind=.function)(p:∀y∈d.names,y.2=.local->d.names.lookup y.1=some .local)(hx:d.names.lookup x=some .local)(hd:(x==55)=false:=by decide)
 (hs:∀x,j0 iter X.env x=pure x:=by intro _;rfl):PE X (.DictComp (.Name x q1) (.Constant (.int c) j q2) [#[.Name x px,iter,[],0]] d pos) (W8 ti c):=by
  intro u s σ H Q I h
  have hh:X.A.handled=none:=I.ok.hd af
  rw[arm_eval_DictComp]
  refine oU (use:=none) rfl hs E f p<|vB (hi u s σ H _ I h) λv l z9=>e2a3 z9 λx1 H1 I1 r1 N=>e3a4 N λa r O e1 ha G q=>?_
  subst e1
  obtain rfl:v=hO a:=r1
  obtain⟨hz,S,m,kv,wO⟩:=I1.vD a _ ha
  obtain⟨B,D⟩:=wO.dictAt
  have alt:a<⇑l:=D.lt_size
  refine wpAny_pyIter_dict S D ?_
  -- the M ah at n,the dict at n+1,the frame at n+2
  have u0:∀b o,l.heap.get? b=↑o->(l.heap.push 73).get? b=↑o:=λb o e=>ce _ e
  have i0:Heap.IsKeyIter (l.heap.push 73) ⇑l a 0 m.length B:=#[_,gW _ rfl,rfl,rfl]
  have z0:(l.heap.push 73).objs.size=⇑l+1:=ju _ _
  generalize l.heap.push 73=g at u0 i0 z0 ⊢
  refine iE<|wpAny_newFunctionEnv F (λy hy=>by cases hy) (λJ T U=>?_) f
  have d1:(g.push { cls:=.type "dict",dict:=none,data:=.dict #v[]}).DictOf (vp X.prog X.w) g.objs.size []:=sA g
  have u1:∀b o,g.get? b=↑o->(g.push { cls:=.type "dict",dict:=none,data:=.dict #v[]}).get? b=↑o:=λb o e=>ce _ e
  have z1:(g.push { cls:=.type "dict",dict:=none,data:=.dict #v[]}).objs.size=g.objs.size+1:=ju _ _
  generalize g.push { cls:=.type "dict",dict:=none,data:=.dict #v[]}=g1 at d1 u1 z1 T U ⊢
  have u2:∀b o,g1.get? b=↑o->J.get? b=↑o:=λb o e=>U.extBut b o (gZ<|gP e)<|ce _ e
  have c1:g.objs.size≠g1.objs.size:=by lia
  have n1:∀b∈[⇑l,a],b<g.objs.size:=λb hb=>by
    rcases List.mem_cons.mp hb with z|z
    · rw[z, z0]; exact jp _
    · rw[List.mem_singleton.mp z, z0]; exact og alt
  have W:=Walks.dictKeys (prog:=X.prog) (w:=X.w) (knd:=vp X.prog X.w) hh ⇑l a (gZ alt) m B
  have st:J.IsKeyIter ⇑l a 0 m.length B/\J.DictAt (vp X.prog X.w) a m B:=#[i0.at λo e=>u2 _ o<|u1 _ o e,D.at' λo e=>u2 _ o<|u1 _ o<|u0 _ o e]
  have C:=codeAny_compLoop_walkD (R:=compPost 19 X.A X.xe none (EP X u σ Q) (hO g.objs.size) g1.objs.size) (s:={ l with heap:=J,toks:=l.toks+0}) (kx:=.Name x q1) (vx:=.Constant (.int c) j q2) (iter:=iter) (x:=x) (px:=px) (ifs:=[]) (scope:=d) (pos:=pos) (D:=g.objs.size) (cenv:=sY d [] g1.objs.size X.env) W (λ_=>true) (λv k=>zC k v=true) (λ_ y=>∃t,y=.int c t)
    (lookup_relabel_local hx) (by simp[sY,oJ,f]) c1 (λY=>jI _<|n1 _ Y) (λY=>jI _<|nc (n1 _ Y)<|by rw[z1];exact jp _) st (d1.at λo e=>u2 _ o e) T (λi v L m3 _ _ _ _=>si #[rfl,L.heap,L.toks,rfl,λ_ _ e=>e])
    (λi v L m3 Z _ hn Y _=>by
      refine e2a2 Z λk x' aj hk=>?_
      exact pA (kF (by show d.kind=_;exact f) (lookup_relabel_local hx) hn Y #[#[k,hk,hk],L.heap,L.toks,rfl,λ_ _ e=>e]) hd)
    (λi v L m3 _ _ _ _ _=>wpAny_Constant_int #[#[_,rfl],L.heap,_,rfl,λ_ _ e=>e])
    (λh2 tk m' aa ag hn dd ab hP hS k=>?fin) (by rw[<- Paired.length kv];exact hz)
  · exact codeAny_compStart_dict C<|W.self 0 _ _ _ st C
  · refine#[m', hn, λh3 ae => ?_]
    have le:⇑l<=g.objs.size:=by rw[z0];exact lG _
    have k':∀b o,l.heap.get? b=↑o->h3.get? b=↑o:=λb o e=>by
      have lb:=gP e
      have lg:b<g.objs.size:=hR lb le
      have n2:b≠g1.objs.size:=gZ (by rw[z1];exact og lg)
      exact ae.extBut b o n2<|k b o n2 (λz=>by rw[List.mem_singleton.mp z]at lb;exact jI _ lb) (gZ lg)<|u2 _ _<|u1 _ _<|u0 _ _ e
    have nH:H1 g.objs.size=none:=I1.vD.fresh le
    have kk:∀{r:List (Key×V)} {m:List (Key×ci)},KV r m->r.map (·.1)=m.map (·.1):=λh=>by
      induction h with
      |nil=>rfl
      |cons h _ ih=>rw[h8,h8,ih,h.1]
    have Z:Paired (λk v=>zC k v=true) (O.map ie) ag:=by
      rw[<- G,kk kv]
      refine Av (by rw[gN,ab]) λj k v J h2=>?_
      refine e2a2 (hP j v h2) λk' x' g1 g2=>?_
      rw[jx,g1]at J
      cases J
      exact g2
    have nd:(O.map ie:List Key).Nodup:=by
      rw[<- G,kk kv]
      obtain⟨o,es,ho,hc,ai,hk,hp,hn⟩:=id D
      exact hn
    obtain⟨f1,f2⟩:=Kx (P:=X.prog) (w:=X.w) (λv k h=>h) hS (by rw[List.filter_eq_self.mpr<|λ_ _=>rfl];exact Z) nd
    have rel:KV (O.map λk=>(ie k,V.int c)) aa:=IT f1 λe he=>(f2 e he).elim λv Z=>Z
    have ll:O.length=r.length:=by have:=congrArg nW G;simpa using this.symm
    exact#[.ref g.objs.size,_,I1.laid (a:=g.objs.size) (o:=.dK<|O.map λk=>(ie k,V.int c)) (t':=tk) k' le<|DN (by rw[gN,ll];exact hz) (beq_eq_false_iff_ne.mpr λz=>g8 I1.big<|by rw[<- z];exact Nat.not_lt.mpr le) rel<|dd.extBut ae.extBut c1,rfl,q _ nH]
end L2
namespace WL
variable[L2.GX]
open PySem L2
open Rep (rp)
open Ow (sl)
open Sls (rel)
section
variable{D PO τ:Type}[Sls D][Sls PO][Ow τ]{α:Type}[Rep α]
def QA{F R:Rg}{H:Hp}{d:D}{g:St}(s:vQ T F R H d g){p:gH}(c:H p=none){l:List (Int×α)}{us:List (Key×V)}(h:PK R H l us):∃e,Ch T F R H (λa=>a=p\/F a) e (upd H p<|.dK us)/\vQ T F e (upd H p<|.dK us) d g/\Nw T (λa=>a=p) F e (upd H p<|.dK us) (Dc.mk l) (.ref p):=by
 refine e0a3 (s.new (.dK us) c) λi m j=>?_;have n:¬F p:=λz=>j<|s.sub p z;have f:Ext (λ_=>False) R H (λa=>R a\/a=p) (upd H p<|.dK us):=⟨λb o _ h=>by rw[uL<|uU h c];exact h,λa h=>h.elim .inl λq=>.inr<|by rw[q];exact c⟩;refine⟨λa=>R a\/a=p,#[m.keep,f.new,λa h=>h.elim (λq=>.inr<|by rw[q];exact c) .inl,λa h _=>.inl h],#[Sls.st s.rel f (λ_ z=>z.elim)<|λ_ _ z=>z,λa h=>.inl<|s.sub a h,λa h=>?_,i.tab,.inl s.vG,s.vv],#[#[p,us,rfl,λb=>Iff.rfl,uO,Ql (f.wide λ_ z=>z.elim) h],λa h=>.inr h,λa h k=>n (by rw[<- h];exact k),λh=>j<|by rw[<- h];exact s.vG]⟩;rcases h with h|h
 ·exact i.wT a h
 ·rw[h,uO];simp
def Mo{c:Int}:∀l:List Int,PK R H (l.map λk=>(k,c)) (l.map λk=>((ie k:Key),V.int c))
 | []=>.nil
 |_::l=>.cons #[rfl,rfl]<|Mo l
def NM{y:Str}{r t u:Pos}{c:Int}{j:Nat}{a:lV}(q:ID)(i:Nat){m:Type}[Sls m][A:At i D (Bd C v) m](w:q.ok v)(B:AI X.K C)(G:vJ X.K C q.nm)(l:X.calm=true)(I:PE X (.Name x h) (vr i))(e:om a X.env=pure [])(f:∀y∈a.names,y.2≠.cell)(g:a.kind=.function)(b:∀y∈a.names,y.2=.local->a.names.lookup y.1=some .local)(J:a.names.lookup y=some .local)(L:(y==55)=false:=by decide)(M:iA (.Name x h) q.nm X.env (eval (.Name x h) X.env)=eval (.Name x h) X.env:=by rfl)
  (N:∀z,j0 (.Attribute (.Name x h) q.nm O) X.env z=pure z:=by intro _;rfl) :
  EO X E T (.DictComp (.Name y r) (.Constant (.int c) j t) [#[.Name y u,.Attribute (.Name x h) q.nm O,[],0]] a pos) (λ(d:D)(n:Dc Int->D->Prop) _=>n #[((78).map (·.1)).map λk=>(k,c)] d):=by
 refine#[_,Qz l (wD I M) e f g b J L N,λd F R σ H n Ke Q s P S ke=>?_];obtain⟨p,U,e1,e2,e3,e4,us,W,o,_,_⟩:=wd (i:=i) s;refine e1a4 (zX o q w) λz Y Z _ _=>?_;refine#[_,W,p,C,U,_,_,rfl,o.ob,B,G,Y,z,_,(78).map (·.1),rfl,Z,?_,λp' hp=>?_]
 ·unfold Bf;rw[j5,j5];rfl
 ·refine e1a3 (QA s hp (Mo (R:=R) (H:=H) (c:=c) ((78).map (·.1)))) λR' c3 s3 n3=>?_;exact S _ d _ _ F R' _ P c3 s3 n3
def W9{j:Nat}(e:EV X T a f):EO X E T (.Dict [↑a] [.Constant .none j w] pos) (λ(d:D) (b:Dc (Option Int)->D->Prop) _=>b #[[(f d,none)]] d):=by
 refine e1a2 e λx g h=>?_;refine#[_,Sy (OT g Jw Sw) rfl rfl q0o q0o,λd F R i H b y Q s k m z=>?_];intro p c;refine e0a3 (s.new (.dK []) c) λn A B=>?_;refine h d F R i _ _ n λv r=>#[uO,[(ie<|f d,.wm)],?_,(show 1<=15 by decide),?_]
 ·have r:v=V.int (f d):=r;rw[r];rfl
 ·rw[R6];refine e1a3 (QA (α:=Option Int) s c (l:=[(f d,none)]) (us:=[(ie<|f d,V.wm)])<|.cons ⟨rfl,rfl⟩ .nil) λo q t u=>?_;exact m _ d _ _ F o _ k q t u
def tw_dcNin(i:Nat)[Sls g][A:At i D (Dc α) g](h:X.A.units+1<ky)(j:EW X E T a wk)(m:PE X (.Name x c) (vr i))(n:iN .NotIn (.Name x c)=false:=by with_unfolding_all rfl) :
  TW X E T (.Compare a [.NotIn] [.Name x c] pos) (cK wk λ(e:Bool->D->Prop) k b=>e (!(lk (A.get b).l k).isSome) b):=by
 refine e1a2 j λO o p=>?_;refine#[_,Jx (Cc h o m) n,λd F R q H e r Q s t v w=>p d F R q H _ r _ s t (λk b u z B C G I f J=>?_) w];subst J;obtain⟨y,P,L,M,N⟩:=Dx (i:=i) f;refine#[_,L,y,_,rfl,xS.k (k:=ie k) M,_,rfl,?_];rw[Mi N];exact v _ b z B C G I f
def IU(i:Nat)[Sls q][A:At i D (Dc Int) q][U:Pt i q (Dc Int) D][J:Pj D PO n](B:X.A.units+1<ky)(C:PE X (.Name x G) (vr i))(I:EV X T a f)(L:EV X T e h)(m:Yk X op (ipI g))
 (M:∀c j b,augStore a c j b=(do kG [b,c,j] (su c j b);release [b,c,j] [];pure .next):=by intros;rfl) :
    S1 X E T ms n (.AugAssign (.Subscript (.Name x G) a p3) op e pos) (λ(d:D)(r:D->Prop)(_:τ->PO->Prop) _=>∃v,lk (A.get d).l (f d)=↑v/\(A.get d).l.length<gL/\r (U.put (A.hole d) #[pk (A.get d).l (f d)<|g v<|h d])):=by
  refine e1a2 I λta N O=>?_
  refine e1a2 L λte P Q=>?_
  refine#[_,Sv B C N P m M,λd F R o H r Kr Ke En s S W kr ke=>?_]
  refine e2a4 (Qo (i:=i) s) λy us Y t p Z=>?_
  refine e1a3 S λv h1 h2 h3=>?_
  refine#[_,Y,O d F R o H _ s λk rk=>?_]
  subst rk
  refine e1a2 ((Km p).1 v h1) λw w1 w2=>?_
  subst w2
  have u:=xS.k (k:=ie<|f d) t
  rw[w1]at u
  refine#[y,_,rfl,u,Q d F R o H _ s λz rz=>?_]
  subst rz
  obtain⟨c3,s3⟩:=Z _ _<|Qn (R:=R) (H:=H) (k:=f d) (x:=g v<|h d) (v:=V.int<|g v<|h d) rfl p
  exact#[v,h d,rfl,rfl,_,Ga.k (k:=ie<|f d) t (by rw[Ko p];exact h2),W _ F R _ o h3 c3 s3<|Ag.refl _ _]
end
section
variable{D:Type}[Sls D]
def tw_ninT{h:Wf D Int D}{i:Wf D (Tp Int) D}(r:EW X E T a h)(w:EW X E T b i)(x:iN .NotIn b=false) :
  TW X E T (.Compare a [.NotIn] [b] pos) (cB h i λk j t f=>j (!decide (k∈t.l)) f):=by
 refine e1a2 r λta z A=>?_;refine e1a2 w λtb B G=>?_;refine#[_,xB Bm z B x,λd F R m H j n Q s I J o=>A d F R m H _ n _ s I (λk L u M N O P p g S=>?_) o];refine G L M N m O _ n _ g P (λt f v U W Y Z c2 s2 r2=>?_) λC y d' F' R' H' k c s'=>o C y d' F' R' H' k (Ch.trans s g.tab p c) s';subst S;obtain⟨l⟩:=t;obtain⟨q,us,rfl,_,h1,h2⟩:=r2;have e:=ints_of (xs:=l) h2;subst e;refine#[q,_,rfl,.inr<|yI.of h1,rfl,Ax _,_,rfl,?_];rw[gI rfl,BA];exact J _ f U W Y Z (Ch.trans s g.tab p c2) s2
end
end WL
namespace L2
variable[L2.GX]
open PySem PySem.Spec PyProof.Rows
def a1o(K:gG)(d:TE):TE:=λe H Q=>d e H λx b=>∃a c,x=.ref a/\vX K b a c/\∀p,b p=none->Q (.ref p) (upd b p<|.lst c.reverse)
def Xa{X:Cx}{e:iD}{te:TE}{p2 p3 p4 pos:Pos}{j:Nat}(he:PE X e te):PE X (.Subscript e (.Slice none none (some<|.UnaryOp .USub (.Constant (.int 1) j p3) p4) p2) pos) (a1o X.K te):=by
 intro pins s σ H Q I h;refine sN<|vB (he pins s σ H _ I h) λv s1 z9=>e2a3 z9 λx H1 I1 r1 z89=>e2a3 z89 λa xs e1 hx q=>?_;subst e1;obtain rfl:v=hO a:=r1;refine wpAny_Slice ?_;rw[tM,evalPart_some];refine ap<|ap<|vB (U8 Ou vk pins s1 σ H1 (λv H=>v=.int (-1)/\H=H1) I1 #[1,rfl,rfl,rfl]) λu s2 z9=>e2a4 z9 λy H2 I2 r2 e2 e3=>?_;subst e2 e3;obtain⟨t,rfl⟩:=r2;have I4:Inv X pins σ H2 { s2 with heap:=s2.heap.push { cls:=.type "slice",data:=.fields #v[.none,.none,.int (-1) t]}}:=I2.kept (t':=s2.toks) λb ob q=>ce _ q;refine e1a3 (I4.list hx) λzB r pl hz=>?_;refine' tail_any pl.isList.typeIs slot_list_getitem.lookup ?_ ?hs
 case hs=>with_unfolding_all rfl
 refine tN pl.isList (qP ..) .none .none (.int (-1) t) q0q ?_ (by rw[gX,<- r.length];exact hz);rw[PySem.W.krv_pick];refine#[.ref (s2.heap.push { cls:=.type "slice",data:=.fields #v[.none,.none,.int (-1) t]}).objs.size,_,I4.laid (t':=s2.toks) (o:=.lst xs.reverse) (λb ob q=>ce _ q) (gK _) ?_,rfl,q _<|I4.vD.fresh<|gK _];exact#[by rw[List.length_reverse];exact hz,zB.reverse,0,r.reverse,gW _ rfl]
end L2
namespace WL
variable[L2.GX]
open PySem L2
open Rep (rp)
open Ow (sl)
open Sls (rel)
section
variable{D:Type}[Sls D]{α:Type}[Rep α]
def Ky{R:Rg}{H:Hp}:∀{xs:List α} {vs:List V},Paired (rp R H) xs vs->Paired (rp R H) xs.reverse vs.reverse:=by
 intro _ _ z
 induction z with
 |nil=>exact .nil
 |cons h t ih=>rw[nX,nX];exact xC ih<|.cons h .nil
def Xb{j:Nat}(h:ER X E T a i) :
  EO X E T (.Subscript a (.Slice none none (some<|.UnaryOp .USub (.Constant (.int 1) j N) O) P) pos) (cK i λ(e:OL α->D->Prop) g b=>e #[(g b).reverse] b):=by
 refine e1a2 h λS k l=>?_;refine#[_,Xa k,λd F R m H e n Q s o r t=>?_];refine l d F R m H _ n _ s o (λg b u f v w x y c z=>?_) t;obtain⟨q,A,rfl,B,C⟩:=z b f v w 53 c;refine#[q,A,rfl,vX.of B,λp G=>?_];refine e1a3 (xk c G<|Ky C) λI J L M=>?_;exact r _ b _ _ f I _ x (Ch.trans s c.tab y J) L M
end
end WL
namespace K7
instance gx0:L2.GX:=#[λ_ _ _=>True]
abbrev XS:gH:=44
abbrev XC:gH:=56
abbrev XB:gH:=68
abbrev XO:gH:=80
abbrev XP:gH:=92
abbrev Zs:gH:=104
abbrev XV:gH:=116
abbrev XF:gH:=128
abbrev XT:gH:=140
abbrev XN:gH:=152
abbrev XR:gH:=175
abbrev C:gH:=531
open PySem L2 WL
noncomputable def top(i:Nat):ic:=PySem.Challenge.pw_slimbody_k14_an_order_of_the_arrows.main.body.getD i<|.Pass #[0,0,0,0]
noncomputable abbrev wP:ic:=top 15
noncomputable abbrev Ey:ic:=top 16
noncomputable abbrev GP:ic:=top 17
def FQ:Wf (List Int×Unit) Bool (Un×Unit):=λp a _=>a (asc p.1) (#[],())
def FR:Wf (Tp Int×Unit) Bool (Un×Unit):=λp a _=>a (asc p.1.l) (#[],())
def Mp(C:gH):Wf (List Int×Unit) Unit (Un×Unit):=λp a b=>(asc p.1=true->a () (#[],()))/\(asc p.1=false->b C (#[],()))
def Mr(C:gH):Wf (Tp Int×Unit) Unit (Un×Unit):=λp a b=>(asc p.1.l=true->a () (#[],()))/\(asc p.1.l=false->b C (#[],()))
def Ms:Wf (List (Tp Int)×Unit) (OL Int) (Un×Unit):=λp a _=>∃U:List Int,U.length<64/\(∀r∈p.1,xR r.l/\∀x∈r.l,x∈U)/\a #[Og (p.1.map (·.l))] (#[],())
section
variable{P:im}{w:iL}{K:gG}{mg:Str->Option ci}{base:iG}{T:gH}
def FS:uT ["row"] ["row"] (uK wP):=#[rfl,rfl,rfl,q0s,rfl,q0s,q0s]
def Kz{f c:gH}{fd:iB}(F:yE K "is_sum" "is_sum" wP f fd)(hc:fd.code=.ref c)(B:Iv mg base c T)(Xd:mg "all"=none)(Xe:mg "zip"=none):vt P w K mg base (vF P w) 1 f fd ["row"] (ye T FQ):=by
 refine' uV (Vo (A:=List Int×Unit) (PO:=Un×Unit) (τ:=Bool) (D':=Unit) (ms:=[]) (j:=0) F FS rfl rfl λA outer s H E hr=>?body) ?nice
 case body =>
  exact uM<|uZ<|vd<|PV (ss 0) (vz<|D7 (vE<|ss 0) (Dl uP) Dk)<|λh=>Iu a0R (c:=c) (P:=T) rfl #[hc,B.hd,B.blt] hr.depth rfl Xd rfl Xe h rfl rfl rfl q0s rfl rfl rfl q0s q0s q0s
 case nice =>
  intro p Kn Ke h
  walk_at "wl"
  rw[Y4];exact h
def KA{f c:gH}{fd:iB}(F:yE K "is_sum" "is_sum" wP f fd)(hc:fd.code=.ref c)(B:Iv mg base c T)(Xd:mg "all"=none)(Xe:mg "zip"=none):vt P w K mg base (vF P w) 1 f fd ["row"] (ye T FR):=by
 refine' uV (Vo (A:=Tp Int×Unit) (PO:=Un×Unit) (τ:=Bool) (D':=Unit) (ms:=[]) (j:=0) F FS rfl rfl λA outer s H E hr=>?body) ?nice
 case body =>
  exact uM<|uZ<|vd<|PX (ss 0) (NA (ss 0) (Dl uP) Dk)<|λh=>Iu a1f (c:=c) (P:=T) rfl #[hc,B.hd,B.blt] hr.depth rfl Xd rfl Xe h rfl rfl rfl q0s rfl rfl rfl q0s q0s q0s
 case nice =>
  intro p Kn Ke h
  walk_at "wl"
  rw[Y4];exact h
def Mt:uT ["row"] ["row"] (uK Ey):=#[rfl,rfl,rfl,q0s,rfl,q0s,q0s]
def FT{b:Bool}(h:(b=true->p)/\(b=false->q)):if (!b)=true then q else p:=by
 cases b
 ·exact h.2 rfl
 ·exact h.1 rfl
def QB{f C f1:gH}{fd VD:iB}{C9:List ci}{B newId xT:String}(F:yE K "must_be_sum" "must_be_sum" Ey f fd)(F1:Fn K mg "is_sum" wP ["row"] f1 VD)(G1:vt P w K mg base (vF P w) 1 f1 VD ["row"] (ye T FQ))
  (hC:mg "NotASum"=↑(.ref C))(O:ji K C C9 newId=true)(FB:kh B newId xT C9)(g0:∀H',GX.g C none H'):vt P w K mg base (vF P w) 2 f fd ["row"] (ye T<|Mp C):=by
 refine' uV (DY (vn q0q) (A:=List Int×Unit) (PO:=Un×Unit) (D':=List Int×Unit) (ms:=[]) (j:=0) F Mt rfl rfl λRV A outer s H E hr=>?body) ?nice
 case body =>
  exact uM<|vo (tw_not<|tw_val<|uX<|BC G1 hr rfl F1.at_ F1.fn.kp F1.bd zw<|uQ (ss 0) uN) (uM<|Eh<|DX rfl hC O FB g0<|uS FX u4) vi
 case nice =>
  intro p Kn Ke h
  walk_at "wl"
  exact FT h
def QC{f C f1:gH}{fd VD:iB}{C9:List ci}{B newId xT:String}(F:yE K "must_be_sum" "must_be_sum" Ey f fd)(F1:Fn K mg "is_sum" wP ["row"] f1 VD)(G1:vt P w K mg base (vF P w) 1 f1 VD ["row"] (ye T FR))
  (hC:mg "NotASum"=↑(.ref C))(O:ji K C C9 newId=true)(FB:kh B newId xT C9)(g0:∀H',GX.g C none H'):vt P w K mg base (vF P w) 2 f fd ["row"] (ye T<|Mr C):=by
 refine' uV (DY (vn q0q) (A:=Tp Int×Unit) (PO:=Un×Unit) (D':=Tp Int×Unit) (ms:=[]) (j:=0) F Mt rfl rfl λRV A outer s H E hr=>?body) ?nice
 case body =>
  exact uM<|vo (tw_not<|tw_val<|uX<|BC G1 hr rfl F1.at_ F1.fn.kp F1.bd zw<|uQ (ss 0) uN) (uM<|Eh<|DX rfl hC O FB g0<|uS FX u4) vi
 case nice =>
  intro p Kn Ke h
  walk_at "wl"
  exact FT h
def IV:uT ["rows","odd","row","number"] ["rows"] (uK GP):=#[rfl,rfl,rfl,q0s,rfl,q0s,q0s]
def QD{f C f1:gH}{fd VD:iB}(F:yE K "total" "total" GP f fd)(F1:Fn K mg "must_be_sum" Ey ["row"] f1 VD)(G1:vt P w K mg base (vF P w) 2 f1 VD ["row"] (ye T<|Mr C))(a1p:mg "set"=none)(Uc:mg "sorted"=none) :
  vt P w K mg base (vF P w) 3 f fd ["rows"] (ye T Ms):=by
 refine' uV (wn (A:=List (Tp Int)×Unit) (PO:=Un×Unit) (τ:=OL Int) (D':=Unit) (ms:=[]) (j:=3) F IV rfl rfl λRV A outer s H E hr=>?body) ?nice
 case body =>
  have nd:=IV.nd
  exact Dj (vn q0q) (ve 1 nd<|Tr (w:=w) rfl rfl a1p)
   (Dj (vn q0q) (v8 (is:=[]) (mb:=[]) (D1:=List (Tp Int)×SI w×Tp Int×Un×Unit) (D2:=List (Tp Int)×SI w×Tp Int×Un×Unit) (vn q0q) yc rfl (vZ (ss 0)) (vj 2 (uW nd))
    (Dj (vn q0q) (vY (uX (BC G1 hr rfl F1.at_ F1.fn.kp F1.bd zw (uQ (ss 2) uN))))
     (uM (v8 (is:=[]) (mb:=[]) (D1:=List (Tp Int)×SI w×Tp Int×Int×Unit) (D2:=List (Tp Int)×SI w×Tp Int×Int×Unit) (vn q0q) yc rfl (PY (ss 2)) (vj 3 (uW nd))
      (uM (vo (tw_inS 1 (w:=w) rfl (ss 3) (pv 1) (by with_unfolding_all rfl))
       (uM<|Tu 1 (w:=w) rfl (ss 3)<|λh=>Bi<|Pk PySem.F.slot_set_discard PySem.F.type_set_discard Ph (pv 1) h)
       (uM (Tt 1 (w:=w) rfl (ss 3) (λh=>Bi (Pk PySem.F.slot_set_add PySem.F.type_set_add S6 (pv 1) h)))))) q0q q0q))) q0q q0q)
    (uM (uZ (Kf 1 (w:=w) rfl rfl rfl Uc (pv 1)))))
 case nice =>
  intro p Kn Ke h
  walk_at "wl"
  obtain⟨U,hU,hr,hk⟩:=h;refine vy (λ(r:List (Tp Int)) (b:List (Tp Int)×SI w×Un×Un×Unit)=>xR b.2.1.l/\(∀x∈b.2.1.l,x∈U)/\(r.map (·.l)).foldl xr b.2.1.l=Og (p.1.map (·.l))) p.1 #[il,(λ_ h=>by cases h),rfl] ?_ ?_
  ·rintro x r b ⟨pre,e⟩ ⟨h1,h2,h3⟩ K hK;have hx:=hr x (by rw[e];simp);refine#[λ_=>?_,λz=>g8 ((AB _).mpr hx.1)<|by rw[z];simp];refine vy (λ(q:List Int) (c:List (Tp Int)×SI w×Tp Int×Un×Unit)=>xR c.2.1.l/\(∀y∈c.2.1.l,y∈U)/\q.foldl Kg c.2.1.l=xr b.2.1.l x.l) x.l #[h1,h2,rfl] ?_ ?_
   ·rintro y q c ⟨a2N,e2⟩ ⟨g1,g2,g3⟩ K2 hK2;have hy:y∈x.l:=by rw[e2];simp
    have g3':q.foldl Kg (Kg c.2.1.l y)=xr b.2.1.l x.l:=g3;by_cases hc:y∈c.2.1.l
    ·rw[gI<|decide_eq_true hc];refine hK2 _ ⟨jK _ g1,λz hz=>g2 z (zV.mp hz).1,?_⟩;rw[<- g3'];unfold Kg;rw[gI hc]
    ·rw[cr<|by simpa using hc];refine⟨by have:=wq g1 g2;lia,hK2 _ ⟨Dn g1,λz hz=>?_,?_⟩⟩
     ·rcases BH.mp hz with e3|e3
      ·rw[e3];exact hx.2 y hy
      ·exact g2 z e3
     ·rw[<- g3'];rw[show Kg c.2.1.l y=Fa y c.2.1.l from cr hc]
   ·rintro c ⟨g1,g2,g3⟩;refine hK _ #[g1,g2,?_];rw[<- h3];show (r.map (·.l)).foldl xr c.2.1.l=(r.map (·.l)).foldl xr (xr b.2.1.l x.l);rw[<- g3];rfl
  ·rintro b ⟨h1,h2,h3⟩;refine#[by have:=wq h1 h2;lia,?_];have h3':b.2.1.l=Og (p.1.map (·.l)):=h3;rw[h3'];exact hk
end
open PySem L2 WL
abbrev B0:=Bd C true
noncomputable def wU(x:B0)(row:List Int):Bool:=row.all λc=>(lk x.rk c).isSome
noncomputable def yk(x:B0)(c:Int):List Int:=(lk x.bd c).getD []
noncomputable def Xf(x:B0)(c:Int):List Int:=(x.rk.map (·.1)).filter λh=>decide<|c∈yk x h
noncomputable def Ud(x:B0)(row:List Int)(r:Int):Bool:=row.all λc=>decide<|lk x.rk c=↑r
structure QE(x:B0):Prop where
 kb:∀k,(lk x.rk k).isSome=true->(lk x.bd k).isSome=true
 bo:∀k b,lk x.bd k=↑b->xR b/\∀c∈b,0<=c/\c<63
 ri:(x.rk.map (·.1)).Pairwise (·<=·)
 lr:x.rk.length<64
 lb:x.bd.length<64
def BP :B0×Int×Unit->(Unit->B0×Un×Unit->Prop)->101->Prop:=λp a b =>
 if (61).isSome=true then a () 57 else b XC 57
def Aa :B0×List Int×Unit->(Unit->B0×Un×Unit->Prop)->101->Prop:=λp Kn Ke =>
 if asc p.2.1=true then (if wU p.1 p.2.1=true then Kn () 57 else Ke XC 57) else Ke XS 57
def xo :B0×List Int×Int×Unit->(Unit->B0×Un×Un×Unit->Prop)->(gH->B0×Un×Un×Unit->Prop)->Prop:=λp Kn Ke =>
 wU p.1 p.2.1=true/\if Ud p.1 p.2.1 p.2.2.1=true then Kn () 65 else Ke XO 65
def xL :B0×List Int×Unit->(OL Int->B0×Un×Unit->Prop)->101->Prop:=λp Kn Ke =>
 QE p.1/\if asc p.2.1=true then (if wU p.1 p.2.1=true then Kn #[Og<|p.2.1.map<|yk p.1] 57 else Ke XC 57) else Ke XS 57
def Dz:Wf (B0×Unit) (OL Int) (B0×Unit):=λp a _=>QE p.1/\a #[p.1.rk.map (·.1)] (p.1,())
def GQ :B0×Int×Unit->(OL Int->B0×Un×Unit->Prop)->101->Prop:=λp a b =>
 QE p.1/\if (61).isSome=true then a #[Xf p.1 p.2.1] 57 else b XC 57
def IY :B0×Int×List Int×Unit->(Int->B0×Un×Un×Unit->Prop)->(gH->B0×Un×Un×Unit->Prop)->Prop:=λp b a =>
 QE p.1/\lk p.1.bd p.1.up=none/\if p.2.1<0\/12<p.2.1 then a XB 65 else if asc p.2.2.1=true then (if wU p.1 p.2.2.1=true then (if Ud p.1 p.2.2.1 (p.2.1-1)=true then
  (if Og (p.2.2.1.map (yk p.1))=[] then b p.1.up ({ p.1 with rk:=pk p.1.rk p.1.up p.2.1,bd:=pk p.1.bd p.1.up p.2.2.1,up:=p.1.up+1},#[],#[],()) else a XP 65) else a XO 65) else a XC 65) else a XS 65
def GR :B0×Int×Unit->(Unit->B0×Un×Unit->Prop)->101->Prop:=λp b a =>
 QE p.1/\if (61).isSome=true then (if Xf p.1 p.2.1=[] then b () ({ p.1 with rk:=dk p.1.rk p.2.1,bd:=dk p.1.bd p.2.1},#[],()) else a XV 57) else a XC 57
def Ue(x:B0)(c:Int):Int:=(lk x.rk c).getD 0
def BQ:Wf (B0×Int×Unit) Bool (B0×Un×Unit):=λp a _=>a (61).isSome 57
def BR:Wf (B0×Unit) Int (B0×Unit):=λp a _=>a p.1.up (p.1,())
def BS :B0×Int×Unit->(Int->B0×Un×Unit->Prop)->101->Prop:=λp a b =>
 if (61).isSome=true then a (Ue p.1 p.2.1) 57 else b XC 57
def Ab :B0×Int×Unit->(OL Int->B0×Un×Unit->Prop)->101->Prop:=λp Kn Ke =>
 QE p.1/\if (61).isSome=true then Kn #[yk p.1 p.2.1] 57 else Ke XC 57
def AD{n k:Int}(h0:0<=k)(h1:k<n):k∈yH 0 n:=by exact List.mem_map.mpr #[k.toNat,List.mem_range.mpr q0a,q0a]
def Ac{k:Int}:∀{l:List (Int×c)},(lk l k).isSome=true->k∈l.map (·.1):=by
 intro b
 induction b with
 |nil=>intro h;cases h
 |cons e l a =>
  intro h;by_cases q:e.1=k
  ·rw[<- q];simp
  ·have:lk (e::l) k=lk l k:=by unfold lk;rw[iK,ij q]
   rw[this]at h;exact gQ _<|a h
def xU{k:Int}:∀{l:List (Int×a)},k∈l.map (·.1)->(lk l k).isSome=true
 | [],h=>by cases h
 |e::l,h=>by
  by_cases q:e.1=k
  ·unfold lk;rw[iK,decide_eq_true q];rfl
  ·have:lk (e::l) k=lk l k:=by unfold lk;rw[iK,ij q]
   rw[this];rcases List.mem_cons.mp h with z|z
   ·exact g8 z.symm q
   ·exact xU z
def Ez{x:B0}{c:Int}{r:List Int}:wU x (c::r)=((lk x.rk c).isSome&&wU x r):=by unfold wU;rw[pR]
def QF{x:B0}{c k:Int}{r:List Int}:Ud x (c::r) k=(decide (lk x.rk c=↑k)&&Ud x r k):=by unfold Ud;rw[pR]
def NN{x:B0}{row:List Int}(ok:QE x)(ha:asc row=true)(h:wU x row=true):row.length<=gL:=by have:=wq (U:=x.rk.map (·.1)) ((AB row).mp ha) λc hc=>Ac<|List.all_eq_true.mp h c hc;rw[gN]at this;have:=ok.lr;exact vM q0a
def BU{n:Nat}(h:n<1000):n<gL:=by have z:gL=16777216:=iQ;lia
def CS{x:B0}(ok:QE x){c:Int}(h:(lk x.rk c).isSome=true):lk x.bd c=↑(yk x c):=by obtain⟨v,hv⟩:=Option.isSome_iff_exists.mp<|ok.kb c h;unfold yk;rw[hv];rfl
def Zt{x:B0}{c:Int}(h:(lk x.rk c).isSome=true):lk x.rk c=↑(Ue x c):=by obtain⟨v,e⟩:=Option.isSome_iff_exists.mp h;unfold Ue;rw[e];rfl
def v7{K:List d->S->Prop}(e:∀x∈c,∀K:Option d->S->Prop,(if q x=true then K ↑x s else K none s)->b x s K)(h:K (c.filter q) s):BG b c s K:=by
 refine vV (f:=λx=>if q x=true then some x else none) (λx g K a=>e x g K ?_) (by rw[filterMap_filter];exact h);by_cases z:q x=true
 ·rw[gI z]at a ⊢;exact a
 ·rw[cr z]at a ⊢;exact a
section
variable{q:Cq}{XL:gH}
noncomputable abbrev zl:ic:=AT (top 21) 15
noncomputable abbrev zm:List Str:=["self","cell"]
def Fc:uT ["self","cell"] zm (uK zl):=by walk_at "sc"
abbrev wu(q:Cq)(k:Nat):=yU q C "must_stand" zm (BP) k
def Fd(F:yE q.K "must_stand" "Body.must_stand" zl f d)(c:AK q.K C)(a:Xc q.K q.mg "NoCell" XC):Gq q 2 f d zm (BP):=by
 refine' uV (DY (vn q0q) (D':=(Bd C true)×Int×Unit) (ms:=[0]) (j:=0) F Fc rfl rfl λe A b s H E g =>
   (uM (vo (tw_dIn .rk true 0 trivial c.cl c.nR (B6 g) (ss 1) (pv 0))
   (uM<|BK rfl a)
   vi))) λp i k h=>?_
 walk_at "wl"
 have h:if (61).isSome=true then i () 57 else k XC 57:=h
 cases q:(61).isSome with
 |true=>rw[q]at h;simpa using h
 |false=>rw[q]at h;simpa using h
noncomputable abbrev Ad:ic:=AT (top 21) 16
noncomputable abbrev Ae:List Str:=["self","row"]
def BV:uT ["self","row","cell"] Ae (uK Ad):=by walk_at "sc"
abbrev CT(q:Cq)(k:Nat):=yU q C "must_hold" Ae (Aa) k
def GS{f:gH}{fd:iB}(F:yE q.K "must_hold" "Body.must_hold" Ad f fd)(ct:AK q.K C)(Fe:wW q "must_be_sum" ["row"] (Mp XS) 2)(w8:wu q 2):Gq q 3 f fd Ae (Aa):=by
 refine' uV (DY (vn q0q) (D':=(Bd C true)×(List Int)×Un×Unit) (ms:=[0]) (j:=1) F BV rfl rfl λRV A outer s H E hr =>
   (uY (vY (uX (vh Fe 84)))
   (uM (v8 (is:=[]) (mb:=[0]) (D1:=(Bd C true)×(List Int)×Int×Unit) (D2:=(Bd C true)×(List Int)×Int×Unit) (vn q0q) yc rfl (vZ (ss 1)) (vj 2 (uW BV.nd))
   (uM (vY (uX (v6 0 w8 (uQ (ss 2) uN))))) q0q q0q)))) λp Kn Ke h=>?_
 walk_at "wl"
 have h:if asc p.2.1=true then (if wU p.1 p.2.1=true then Kn () 57 else Ke XC 57) else Ke XS 57:=h;refine#[λha=>?_,λha=>?_]
 ·have ha:asc p.2.1=true:=ha;rw[gI ha]at h;refine vy (λ(r:List Int)(b:B0×List Int×WL.Un×Unit)=>b.1=p.1/\if wU p.1 r=true then Kn () 57 else Ke XC 57) p.2.1 #[rfl,h] ?_ ?_
  ·rintro c r b _ ⟨e,hb⟩ K2 hK;rw[Ez]at hb;show if (lk b.1.rk c).isSome=true then K2 _ else Ke XC (b.1,#[],());rw[e]
   cases q:(lk p.1.rk c).isSome with
   |false=>rw[q]at hb;simpa using hb
   |true =>
    rw[q,Bool.true_and]at hb;rw[gI rfl];exact hK _ #[rfl,hb]
  ·rintro b ⟨e,hb⟩;rw[e];exact hb
 ·have ha:asc p.2.1=false:=ha;rw[cr<|by rw[ha];simp]at h;exact h
noncomputable abbrev xq:ic:=AT (top 21) 17
noncomputable abbrev xt:List Str:=["self","row","rank"]
def yy:uT ["self","row","rank","cell"] xt (uK xq):=by walk_at "sc"
abbrev Cv(q:Cq)(k:Nat):=yU q C "must_have_rank" xt (xo) k
def BX{f:gH}{fd:iB}(F:yE q.K "must_have_rank" "Body.must_have_rank" xq f fd)(ct:AK q.K C)(IZ:Xc q.K q.mg "OtherRank" XO):Gq q 2 f fd xt (xo):=by
 refine' uV (DY (vn q0q) (D':=(Bd C true)×(List Int)×Int×Un×Unit) (ms:=[0]) (j:=1) F yy rfl rfl λRV A outer s H E hr =>
   (uM (v8 (is:=[]) (mb:=[0]) (D1:=(Bd C true)×(List Int)×Int×Int×Unit) (D2:=(Bd C true)×(List Int)×Int×Int×Unit) (vn q0q) yc rfl (vZ (ss 1)) (vj 3 (uW yy.nd))
   (uM (vo (tw_cm CO (Ds .rk 0 trivial ct.cl ct.nR (B6 hr) (pv 0) (vW 3 (pv 3))) (ss 2))
   (uM<|BK rfl IZ)
   vi)) q0q q0q))) λp Kn Ke h=>?_
 walk_at "wl"
 refine vy (λ(r:List Int)(b:B0×List Int×Int×WL.Un×Unit)=>b.1=p.1/\b.2.2.1=p.2.2.1/\wU p.1 r=true/\if Ud p.1 r p.2.2.1=true then Kn () 65 else Ke XO 65) p.2.1 #[rfl,rfl,h.1,h.2] ?_ ?_
 ·rintro c r b _ ⟨e1,e2,hi,hb⟩ K2 hK;rw[Ez,iw]at hi;rw[QF]at hb;obtain⟨v,hv⟩:=Option.isSome_iff_exists.mp hi.1;refine#[v,by rw[e1];exact hv,?_];rw[hv]at hb;rw[e2];by_cases q:v=p.2.2.1
  ·rw[cr<|by simp[q]];refine hK _ #[e1,rfl,hi.2,?_];rw[q]at hb;simpa using hb
  ·rw[gI (by simp[q]),e1];rw[cr<|by simp[q]]at hb;exact hb
 ·rintro b ⟨e1,_,_,hb⟩;rw[e1];exact hb
noncomputable abbrev Af:ic:=AT (top 21) 9
abbrev wo:List Str:=["self","row"]
def GU:uT ["self","row"] wo (uK Af):=by walk_at "sc"
def Ff:(["cell","self"]:List Str).Nodup:=by decide +kernel
abbrev I0(q:Cq)(k:Nat):=yU q C "border_of" wo (xL) k
def GV{f:gH}{fd:iB}(F:yE q.K "border_of" "Body.border_of" Af f fd)(ct:AK q.K C)(Uf:wW q "total" ["rows"] Ms 3)(Ja:CT q 3):Gq q 4 f fd wo (xL):=by
 refine' uV (wn (D':=Unit) (ms:=[0]) (j:=0) F GU rfl rfl λRV A outer s H E hr =>
   (uY (vY (uX (v6 0 Ja 84)))
   (uM (uZ (vh Uf (uQ (vz (w4 (Ts:=["cell"]) (Fr:=["self"]) (idx:=[0]) (k:=1) (mb:=[1]) (is:=[]) (cl:=[("self",⇑s+1)]) rfl (vZ (ss 1)) VC rfl (wG rfl) (λs₀ H₀ C ex pn=>(vj 0 (uW Ff))) (λs₀ H₀ C ex pn=>tws_nil) (λs₀ H₀ C ex pn=>(AC 1 ct.cl ct.nB (B6 hr) (pv 1) (vW 0 (pv 0)))))) uN)))))) λp Kn Ke h=>?_
 walk_at "wl"
 obtain⟨ok,h⟩:=h;show if asc p.2.1=true then (if wU p.1 p.2.1=true then _ else Ke XC 57) else Ke XS 57;by_cases ha:asc p.2.1=true
 ·rw[gI ha]at h ⊢;by_cases hb:wU p.1 p.2.1=true
  ·rw[gI hb]at h ⊢
   have lkb:∀c∈p.2.1,lk p.1.bd c=↑(yk p.1 c):=λc hc=>by obtain⟨v,hv⟩:=Option.isSome_iff_exists.mp<|ok.kb c<|List.all_eq_true.mp hb c hc;unfold yk;rw[hv];rfl
   refine#[NN ok ha hb,vV (f:=λc=>some<|Tp.mk<|yk p.1 c) (λc hc K hk=>#[yk p.1 c,lkb c hc,hk]) ?_];refine#[yH 0 63,by rw[wJ];decide,λr hr=>?_,?_]
   ·obtain⟨c,hc,e⟩:=List.mem_filterMap.mp hr;cases e;obtain⟨g1,g2⟩:=ok.bo c _<|lkb c hc;exact⟨g1,λx hx=>AD (g2 x hx).1 (g2 x hx).2⟩
   ·have e:((p.2.1.filterMap λc=>some<|Tp.mk<|yk p.1 c).map (·.l))=p.2.1.map (yk p.1):=by rw[show (λc=>some<|Tp.mk<|yk p.1 c)=some∘(λc=>Tp.mk<|yk p.1 c) from rfl,List.filterMap_eq_map,j5];rfl
    rw[e];exact h
  ·rw[cr hb]at h ⊢;exact h
 ·rw[cr ha]at h ⊢;exact h
noncomputable abbrev GY:ic:=AT (top 21) 4
noncomputable abbrev yz:List Str:=["self"]
def QG:uT ["self"] yz (uK GY):=by walk_at "sc"
abbrev Mu(q:Cq)(k:Nat):=yU q C "cells" yz (Dz) k
def QH(F:yE q.K "cells" "Body.cells" GY f d)(b:AK q.K C)(B:Bn q.mg):Gq q 2 f d yz (Dz):=by
 refine' uV (wn (D':=Unit) (ms:=[0]) (j:=0) F QG rfl rfl λe A a s H E g =>
   (uM (uZ (Ek .rk 0 trivial b.cl b.nR rfl rfl B.sorted (pv 0))))) λp i k h=>?_
 walk_at "wl"
 obtain⟨c,h⟩:=h;exact#[c.lr,by rw[<- DZ (oF _) c.ri];exact h]
noncomputable abbrev KC:ic:=AT (top 21) 8
abbrev Ah:List Str:=["self","cell"]
def Ug:uT ["self","cell"] Ah (uK KC):=by walk_at "sc"
def QI:(["high","cell","self"]:List Str).Nodup:=by decide +kernel
abbrev Xg(q:Cq)(k:Nat):=yU q C "over" Ah (GQ) k
def Uh(F:yE q.K "over" "Body.over" KC f u)(m:AK q.K C)(a:wu q 3)(b:Mu q 3):Gq q 4 f u Ah (GQ):=by
 refine' uV (wn (D':=Unit) (ms:=[0]) (j:=0) F Ug rfl rfl λw A i s H E x =>
   (uY (vY (uX (v6 0 a 84)))
   (uM (uZ (w4 (Ts:=["high"]) (Fr:=["cell","self"]) (idx:=[1,0]) (k:=1) (mb:=[1,2]) (is:=[]) (cl:=[("self",⇑s+1),("cell",⇑s+1+1)]) rfl (vZ (vz (BL 0 b))) Z6 rfl (wG rfl) (λc d C n o=>(vj 0 (uW QI))) (λc d C n o=>(tws_one (tw_inT (ss 1) (AC 2 m.cl m.nB (B6 x) (pv 2) (vW 0 (pv 0))) (by with_unfolding_all rfl)))) (λc d C n o=>(ss 0))))))) λp B y h=>?_
 walk_at "wl"
 obtain⟨l,h⟩:=h;show if (61).isSome=true then _ else y XC 57;by_cases r:(61).isSome=true
 ·rw[gI r]at h ⊢;refine#[l,?_,?_]
  ·show (p.1.rk.map (·.1)).length<=gL;rw[gN];have:=l.lr;exact vM q0a
  ·refine vV (f:=λk=>if decide (p.2.1∈yk p.1 k)=true then some k else none) (λk z K g=>?_) ?_
   ·obtain⟨v,t⟩:=Option.isSome_iff_exists.mp<|l.kb k<|xU z;have e:yk p.1 k=v:=by unfold yk;rw[t];rfl
    refine#[v,t,?_];rw[e]at g;show if decide (p.2.1∈v)=true then _ else _;by_cases q:decide (p.2.1∈v)=true
    ·rw[gI q]at g ⊢;exact g
    ·rw[cr q]at g ⊢;exact g
   ·rw[filterMap_filter];exact h
 ·rw[cr r]at h ⊢;exact h
noncomputable abbrev QJ:ic:=AT (top 21) 1
noncomputable abbrev CU:List Str:=["self","rank","border"]
def QK:uT ["self","rank","border","cell"] CU (uK QJ):=by walk_at "sc"
abbrev Zu(q:Cq)(k:Nat):=yU q C "put" CU (IY) k
def Xh(F:yE q.K "put" "Body.put" QJ f R)(o:AK q.K C)(e:CT q 5)(b:Cv q 5)(g:I0 q 5)(k:Xc q.K q.mg "BadRank" XB)(t:Xc q.K q.mg "Full" Zs)(c:Xc q.K q.mg "OpenBorder" XP)(d:q.mg "MOST_CELLS"=↑(.int 120 r))(i:q.mg "TOP_RANK"=↑(.int 12 u))(B:Bn q.mg):Gq q 6 f R CU (IY):=by
 refine' uV (wn (D':=Unit) (ms:=[0]) (j:=1) F QK rfl rfl λS A I s H E O =>
   (uY (vo (tw_w (BB (tw_cm L5 (ss 1) uP) (zS (tw_cm Vq (ss 1) (P8 rfl i)))))
   (uM<|BK rfl k)
   vi)
   (uY (vY (uX (v6 0 e (uQ (ss 2) uN))))
   (uY (vY (uX (v6 0 b (uQ (ss 2) (uQ (zg JC (ss 1) uP) uN)))))
   (uY (vo (tw_trueO (v6 0 g (uQ (ss 2) uN)))
   (uM<|BK rfl c)
   vi)
   (uY (vo (tw_cm Vs (Tz .rk 0 trivial o.cl o.nR rfl B.len (pv 0)) (P8 rfl d))
   (uM<|BK rfl t)
   vi)
   (uY (ve 3 QK.nd (vd (Vy 0 o.cl o.nU (pv 0))))
   (uY (GC .rk 0 trivial o.cl o.nR (B6 O) (pv 0) (vW 3 (pv 3)) (ss 1))
   (uY (TB 0 o.cl o.nB (B6 O) (pv 0) (vW 3 (pv 3)) (TF rfl B.tuple (vE (ss 2))))
   (uY (Y5 0 o.cl o.nU (pv 0) (zg y9 (ss 3) uP))
   (uM (uZ (vd (ss 3)))))))))))))) λp P m h=>?_
 walk_at "wl"
 obtain⟨J,L,h⟩:=h
 have M:(if asc p.2.2.1=true then (if wU p.1 p.2.2.1=true then (if Ud p.1 p.2.2.1 (p.2.1-1)=true then
  (if Og (p.2.2.1.map (yk p.1))=[] then P p.1.up ({ p.1 with rk:=pk p.1.rk p.1.up p.2.1,bd:=pk p.1.bd p.1.up p.2.2.1,up:=p.1.up+1},#[],#[],()) else m XP 65) else m XO 65) else m XC 65) else m XS 65) ->
  Aa (p.1,p.2.2.1,()) (λy v=>xo (v.1,p.2.2.1,p.2.1-1,()) (λy w=>xL (w.1,p.2.2.1,()) (λy a =>
   if (!y.l.isEmpty)=true then m XP (a.1,#[],#[],()) else if decide (120<=(a.1.rk.length:Int))=true then m Zs (a.1,#[],#[],()) else a.1.rk.length<gL/\a.1.bd.length<gL/\lk a.1.bd a.1.up=none /\
    P a.1.up ({ a.1 with rk:=pk a.1.rk a.1.up p.2.1,bd:=pk a.1.bd a.1.up p.2.2.1,up:=a.1.up+1},#[],#[],()))
   λn v=>m n (v.1,#[],#[],())) λn v=>m n (v.1,#[],#[],())) λn v=>m n (v.1,#[],#[],()):=by
  intro h;show if asc p.2.2.1=true then (if wU p.1 p.2.2.1=true then _ else m XC 65) else m XS 65;by_cases N:asc p.2.2.1=true
  ·rw[gI N]at h ⊢;by_cases x:wU p.1 p.2.2.1=true
   ·rw[gI x]at h ⊢;refine#[x,?_];by_cases Q:Ud p.1 p.2.2.1 (p.2.1-1)=true
    ·rw[gI Q]at h ⊢;refine#[J,?_];rw[gI N,gI x];by_cases hd:Og (p.2.2.1.map<|yk p.1)=[]
     ·rw[gI hd]at h;have T:=J.lr;have U:=J.lb;have z:gL=16777216:=iQ;rw[hd,cr q0o,cr<|by simp;lia];exact#[(by show p.1.rk.length<gL;lia),(by show p.1.bd.length<gL;lia),L,h]
     ·rw[cr hd]at h;rw[gI<|by simpa using hd];exact h
    ·rw[cr Q]at h ⊢;exact h
   ·rw[cr x]at h ⊢;exact h
  ·rw[cr N]at h ⊢;exact h
 by_cases D:p.2.1<0
 ·rw[gI<|decide_eq_true D,gI rfl];rw[gI<|.inl D]at h;exact h
 ·rw[cr<|by simpa using D];by_cases G:12<p.2.1
  ·rw[gI<|decide_eq_true G];rw[gI<|.inr G]at h;exact h
  ·rw[cr<|by simpa using G];rw[cr (by intro z;rcases z with z|z;exact D z;exact G z)]at h;exact M h
noncomputable abbrev KD:ic:=AT (top 21) 2
abbrev Ai:List Str:=["self","cell"]
def Ui:uT ["self","cell"] Ai (uK KD):=by walk_at "sc"
def Uj(F:yE q.K "take" "Body.take" KD f m)(d:AK q.K C)(c:Xg q 5)(b:Xc q.K q.mg "Covered" XV):Gq q 6 f m Ai (GR):=by
 refine' uV (DY (vn q0q) (D':=(Bd C true)×Int×Unit) (ms:=[0]) (j:=0) F Ui rfl rfl λn A g s H E o =>
   (uY (vo (tw_trueO (v6 0 c 84))
   (uM<|BK rfl b)
   vi)
   (uY (Mb .rk 0 trivial d.cl d.nR (pv 0) (vW 1 (pv 1)) (λi k=>Gd i k))
   (uM (TC 0 d.cl d.nB (pv 0) (vW 1 (pv 1)) (λi k=>Gd i k)))))) λp t u h=>?_
 walk_at "wl"
 obtain⟨l,h⟩:=h;refine#[l,?_];by_cases e:(61).isSome=true
 ·rw[gI e]at h ⊢
  cases q:Xf p.1 p.2.1 with
  |nil =>
   rw[q,gI rfl]at h;exact#[e,l.kb _ e,h]
  |cons a r =>
   rw[q,cr q0o]at h;exact h
 ·rw[cr e]at h ⊢;exact h
abbrev EA:ic:=AT (top 21) 3
abbrev xM:List Str:=["self","cell"]
def NO:uT ["self","cell"] xM (uK EA):=by walk_at "sc"
abbrev QL(q:Cq)(k:Nat):=yU q C "stands" xM (BQ) k
def NP(F:yE q.K "stands" "Body.stands" EA f c)(b:AK q.K C):Gq q 2 f c xM (BQ):=by
 refine' uV (wn (D':=Unit) (ms:=[0]) (j:=0) F NO rfl rfl λd A a s H E e =>
   (uM (uZ (vd (Ki .rk false 0 trivial b.cl b.nR (B6 e) (ss 1) (pv 0)))))) λp g i h=>?_
 walk_at "wl"
 exact h
abbrev EB:ic:=AT (top 21) 5
abbrev xN:List Str:=["self"]
def NQ:uT ["self"] xN (uK EB):=by walk_at "sc"
abbrev QM(q:Cq)(k:Nat):=yU q C "coming" xN (BR) k
def NR(F:yE q.K "coming" "Body.coming" EB f c)(b:AK q.K C):Gq q 2 f c xN (BR):=by
 refine' uV (wn (D':=Unit) (ms:=[0]) (j:=0) F NQ rfl rfl λd A a s H E e =>
   (uM (uZ (vd (Vy 0 b.cl b.nU (pv 0)))))) λp g i h=>?_
 walk_at "wl"
 exact h
abbrev GZ:ic:=AT (top 21) 6
abbrev yA:List Str:=["self","cell"]
def QN:uT ["self","cell"] yA (uK GZ):=by walk_at "sc"
abbrev Uk(q:Cq)(k:Nat):=yU q C "rank" yA (BS) k
def QO(F:yE q.K "rank" "Body.rank" GZ f e)(c:AK q.K C)(a:wu q 2):Gq q 3 f e yA (BS):=by
 refine' uV (wn (D':=Unit) (ms:=[0]) (j:=0) F QN rfl rfl λg A b s H E i =>
   (uY (vY (uX (v6 0 a 84)))
   (uM (uZ (vd (Ds .rk 0 trivial c.cl c.nR (B6 i) (pv 0) (vW 1 (pv 1)))))))) λp k d h=>?_
 walk_at "wl"
 have h:if (61).isSome=true then k (Ue p.1 p.2.1) 57 else d XC 57:=h;show if (61).isSome=true then _ else d XC 57;by_cases q:(61).isSome=true
 ·rw[gI q]at h ⊢;exact#[_,Zt q,h]
 ·rw[cr q]at h ⊢;exact h
noncomputable abbrev EC:ic:=AT (top 21) 7
abbrev xO:List Str:=["self","cell"]
def NS:uT ["self","cell"] xO (uK EC):=by walk_at "sc"
abbrev QP(q:Cq)(k:Nat):=yU q C "border" xO (Ab) k
def NT{f:gH}{fd:iB}(F:yE q.K "border" "Body.border" EC f fd)(ct:AK q.K C)(w8:wu q 2)(B:Bn q.mg):Gq q 3 f fd xO (Ab):=by
 refine' uV (wn (D':=Unit) (ms:=[0]) (j:=0) F NS rfl rfl λRV A outer s H E hr =>
   (uY (vY (uX (v6 0 w8 84)))
   (uM (uZ (P7 rfl B.list (AC 0 ct.cl ct.nB (B6 hr) (pv 0) (vW 1 (pv 1)))))))) λp Kn Ke h=>?_
 walk_at "wl"
 obtain⟨ok,h⟩:=h;show if (61).isSome=true then _ else Ke XC 57;by_cases q:(61).isSome=true
 ·rw[gI q]at h ⊢;exact#[_,CS ok q,h]
 ·rw[cr q]at h ⊢;exact h
end
noncomputable def xP(x:B0)(c:Int):Bool:=(lk x.ht c).isSome||(lk x.th c).isSome
noncomputable def B7(x:B0)(low high:Int):List Int:=(yk x high).filter λf=>decide (f≠low)&&(lk x.ht f).isSome
noncomputable def wO(x:B0)(t:Int):Int:=(lk x.ht t).getD 0
noncomputable def wc(x:B0):List Int:=x.ht.map (·.1)
def XZ(x:B0):Prop:=∃r:Int->Nat,∀l∈wc x,∀t∈B7 x l (wO x l),r l<r t
structure ED(x:B0):Prop where
 ok:QE x
 nd:(wc x).Nodup
 len:x.ht.length<64
 Zv:x.th.length<64
 ht:∀l h,lk x.ht l=↑h->(lk x.rk l).isSome=true/\(lk x.rk h).isSome=true/\l∈yk x h/\lk x.th h=↑l
 th:∀l h,lk x.th h=↑l->lk x.ht l=↑h
 one:∀c,(lk x.ht c).isSome=true->(lk x.th c).isSome=true->False
 acy:XZ x
noncomputable def ET(x:B0)(low high:Int):B0:={ x with ht:=pk x.ht low high,th:=pk x.th high low}
def FU:Wf (B0×Int×Unit) Bool (B0×Un×Unit):=λp a _=>a (xP p.1 p.2.1) 57
def G0:Wf (B0×Int×Int×Unit) (OL Int) (B0×Un×Un×Unit):=λp a _ =>
 (lk p.1.bd p.2.2.1).isSome=true/\(yk p.1 p.2.2.1).length<=gL/\a #[B7 p.1 p.2.1 p.2.2.1] 65
def Mv:Wf (B0×Unit) (OL Int) (B0×Unit):=λp a _=>p.1.ht.length<64/\(wc p.1).Nodup/\a #[CM<|wc p.1] (p.1,())
def Jb:Wf (B0×Unit) (OL<|Int×Int) (B0×Unit):=λp a _=>p.1.ht.length<64/\(wc p.1).Nodup/\a #[(CM<|wc p.1).map λl=>(l,wO p.1 l)] (p.1,())
def X0 :B0×Int×Unit->(Option Int->B0×Un×Unit->Prop)->101->Prop:=λp a b =>
 if (61).isSome=true then a (lk p.1.ht p.2.1) 57 else b XC 57
def G4 :B0×Int×Unit->(Int->B0×Un×Unit->Prop)->101->Prop:=λp b a =>
 ED p.1/\if (61).isSome=true then (if (lk p.1.ht p.2.1).isSome=true then b (wO p.1 p.2.1) ({ p.1 with ht:=dk p.1.ht p.2.1,th:=dk p.1.th (wO p.1 p.2.1)},#[],()) else a XN 57) else a XC 57
def yS:Wf (Dc (Option Int)×Int×Unit) (OL Int) (Dc (Option Int)×Un×Unit):=λp a _ =>
 (∃m:Int->Nat,(∀k,m k<1000)/\(lk p.1.l p.2.1).isSome=true/\∀k e,lk p.1.l k=↑(some e)->(lk p.1.l e).isSome=true/\m e<m k)/\∀r:List Int,r≠[]->a #[r] 57
def CV:Wf (B0×Int×Int×Unit) (OL Int) (B0×Un×Un×Unit):=λp a _ =>
 ED p.1/\(lk p.1.rk p.2.2.1).isSome=true/\xP p.1 p.2.1=false/\xP p.1 p.2.2.1=false/\∀r:List Int,(r=[]->XZ (ET p.1 p.2.1 p.2.2.1))->a #[r] 65
def QQ :B0×Int×Int×Unit->(Unit->B0×Un×Un×Unit->Prop)->(gH->B0×Un×Un×Unit->Prop)->Prop:=λp b a =>
 ED p.1/\if (61).isSome=true then (if (lk p.1.rk p.2.2.1).isSome=true then (if p.2.1∈yk p.1 p.2.2.1 then (if xP p.1 p.2.1=true\/xP p.1 p.2.2.1=true then a XT 65
  else a XR 65/\(XZ (ET p.1 p.2.1 p.2.2.1)->b () (ET p.1 p.2.1 p.2.2.1,#[],#[],()))) else a XF 65) else a XC 65) else a XC 65
structure Ord(x:B0)(o:List Int):Prop where
 pm:o.Perm (wc x)
 up:o.Pairwise λa b=>a∉B7 x b (wO x b)
def Mw:Wf (B0×Unit) (OL Int) (B0×Unit):=λp a _=>ED p.1/\∀o,Ord p.1 o->a #[o] (p.1,())
noncomputable def a2P(x:B0)(s:List Int×List Int)(t:Int):List Int×List Int:=if t∈s.1 then (xr s.1<|yk x<|wO x t,s.2++[wO x t]) else s
def wQ{j:Int}:lk (e::l) j=if e.1=j then some e.2 else lk l j:=by
 by_cases q:e.1=j
 ·rw[gI q];unfold lk;rw[iK,decide_eq_true q];rfl
 ·rw[cr q];unfold lk;rw[iK,ij q]
def KG{k j:Int}:∀{l:List (Int×c)},lk l k=none->lk (l++[(k,v)]) j=if j=k then some v else lk l j:=by
 intro b
 induction b with
 |nil =>
  intro _;rw[oT,wQ];by_cases q:j=k
  ·rw[gI q,gI q.symm]
  ·rw[cr q,cr<|λz=>q z.symm]
 |cons e l a =>
  intro h;rw[wQ]at h;by_cases z:e.1=k
  ·rw[gI z]at h;cases h
  ·rw[cr z]at h;rw[List.cons_append,wQ,wQ,a h];by_cases q:e.1=j
   ·rw[gI q,gI q,cr<|λw=>z<|q.trans w]
   ·rw[cr q,cr q]
def zn{k:Int}(h:lk l k=none):pk l k v=l++[(k,v)]:=by unfold pk;rw[h];rfl
def BY{k j:Int}:∀{l:List (Int×d)},lk (dk l k) j=if j=k then none else lk l j:=by
 intro c
 induction c with
 |nil=>unfold dk;rw[List.filter_nil];split<;>rfl
 |cons e l a =>
  have b:=a;unfold dk at b ⊢;rw[jm];by_cases z:e.1=k
  ·rw[cr (by simpa using z),b,wQ];by_cases q:j=k
   ·rw[gI q,gI q]
   ·rw[cr q,cr q,cr<|λw=>q<|w.symm.trans z]
  ·rw[gI (by simpa using z),wQ,wQ,b];by_cases q:e.1=j
   ·rw[gI q,gI q,cr<|λw=>z<|q.trans w]
   ·rw[cr q,cr q]
def Xi{k j:Int}:∀{l:List (Int×c)},lk (l.map λe=>if e.1=k then (e.1,v) else e) j=if j=k then (if (lk l k).isSome=true then some v else none) else lk l j:=by
 intro b
 induction b with
 |nil=>simp[lk]
 |cons e l a =>
  rw[h8,wQ,a,wQ,wQ];by_cases z:e.1=k
  ·rw[gI z,gI z];by_cases q:j=k
   ·subst q;simp[z]
   ·have:¬e.1=j:=λw=>q<|w.symm.trans z;simp[q,this]
  ·rw[cr z,cr z];by_cases q:e.1=j
   ·have:¬j=k:=λw=>z<|q.trans w;simp[q,this]
   ·simp[q]
def x9{k j:Int}:lk (pk l k v) j=if j=k then some v else lk l j:=by
 unfold pk
 cases q:(lk l k).isSome with
 |true=>rw[gI rfl,Xi,q];simp
 |false =>
  rw[cr q0o,KG<|by simpa using q]
def Ul{a:Type}{l:List (Int×a)}{k:Int}(h:k∉l.map (·.1)):lk l k=none:=by
 cases e:lk l k with
 |none=>rfl
 |some v=>exact g8 (Ac<|by rw[e];rfl) h
def Aj{a:Type}{k:Int}{l:List (Int×a)}:(lk l k).isSome=true↔k∈l.map (·.1):=#[Ac,xU]
def My{c t:Int}:∀{l:List Int},t∈l->lk (l.map λk=>(k,c)) t=↑c
 |a::l,h=>by
  rw[h8,wQ];by_cases q:a=t
  ·rw[gI q]
  ·rw[cr q];exact My<|(List.mem_cons.mp h).elim (λz=>g8 z.symm q) id
def CW{b:Type}{p q:b->Bool}(h:∀t,q t=true->p t=true):∀{l:List b},(l.filter q).length<=(l.filter p).length
 | []=>gK _
 |a::l=>by
  have:=CW h (l:=l);rw[jm,jm];by_cases z:q a=true
  ·rw[gI z,gI<|h a z];simpa using this
  ·rw[cr z];split<;>simp<;>lia
def filter_lt{b:Type}{p q:b->Bool}(h:∀t,q t=true->p t=true){x:b}(c:p x=true)(d:q x=false):∀{l:List b},x∈l->(l.filter q).length+1<=(l.filter p).length
 |a::l,m=>by
  rw[jm,jm];rcases List.mem_cons.mp m with z|z
  ·subst z;rw[d,c,cr q0o,gI rfl];have:=CW h (l:=l);simp;lia
  ·have:=filter_lt h c d z;by_cases w:q a=true
   ·rw[gI w,gI<|h a w];simp;lia
   ·rw[cr w];split<;>simp<;>lia
def QR{r:Int->Nat}{t:Int}:∀{l:List Int},t∈l->r t<=(l.map r).sum
 |a::l,h=>by
  rw[h8,List.sum_cons];rcases List.mem_cons.mp h with z|z
  ·rw[z];lia
  ·have:=QR (r:=r) z;lia
section
variable{x:B0}
def zo{l:Int}(h:l∈wc x):lk x.ht l=↑(wO x l):=by obtain⟨v,e⟩:=Option.isSome_iff_exists.mp<|xU h;unfold wO;rw[e];rfl
def wR{l h t:Int}:t∈B7 x l h↔t∈yk x h/\t≠l/\t∈wc x:=by unfold B7 wc;rw[jl,iw,iF,Aj]
def ED.Ny(a:ED x){l:Int}(h:l∈wc x):(lk x.rk<|wO x l).isSome=true:=(a.ht l _<|zo h).2.1
def ED.bl(a:ED x){c:Int}(h:(lk x.rk c).isSome=true):(yk x c).length<=gL:=by
 have:=(a.ok.bo c _<|CS a.ok h);have:=wq (U:=yH 0 63) this.1 λk b=>AD (this.2 k b).1 (this.2 k b).2;have e:(yH 0 63).length=63:=by decide
 exact vM q0a
def Um{low high:Int}{V:List Int}(v:ED x)(o:low∉wc x)(f:low∈V)(D:∀k∈V,k≠low->k∈wc x)
 (p:∀k∈V,(k≠low->low∉yk x (wO x k))/\∀t∈B7 x k (if k=low then high else wO x k),t∈V):XZ (ET x low high):=by
  obtain⟨r,u⟩:=v.acy
  have c:∀{t:Int},t∈wc (ET x low high)↔t=low\/t∈wc x:=λ{t}=>by
    show t∈(pk x.ht low high).map (·.1)↔_
    rw[<- Aj,x9]
    by_cases q:t=low
    · simp[q]
    · rw[cr q, Aj]; simp[q, wc]
  have y:∀l,wO (ET x low high) l=if l=low then high else wO x l:=λl=>by
    unfold wO ET
    rw[x9]
    split<;>rfl
  have A:∀{l h t:Int},t∈B7 (ET x low high) l h↔t∈yk x h/\t≠l/\(t=low\/t∈wc x):=λ{l h t}=>by
    rw[wR,c];exact Iff.rfl
  refine#[λt=>if t∈V then (if t=low then ((wc x).map r).sum+1 else ((wc x).map r).sum+2+r t) else r t,λl g t a=>?_]
  rw[y]at a
  have a:=A.mp a
  have i:∀k,k∈wc x->r k<=((wc x).map r).sum:=λk B=>QR B
  dsimp only
  by_cases b:l=low
  · subst b
    rw[gI rfl]at a
    rw[gI f,gI rfl]
    have C:t∈wc x:=a.2.2.elim (λz=>g8 z a.2.1) id
    have e:t∈V:=(p l f).2 t (by rw[gI rfl];exact wR.mpr #[a.1,a.2.1,C])
    rw[gI e,cr a.2.1]
    lia
  · rw[cr b]at a
    have j:l∈wc x:=(c.mp g).elim (λz=>g8 z b) id
    by_cases m:l∈V
    · rw[gI m, cr b]
      have d:=p l m
      rw[cr b]at d
      rcases a.2.2 with z|z
      · rw[z]at a; exact g8 a.1<|d.1 b
      · have s : t ∈ B7 x l (wO x l) := wR.mpr #[a.1, a.2.1, z]
        have:=u l j t s
        have n:t≠low:=λw=>o<|w▸z
        rw[gI<|d.2 t s,cr n]
        lia
    · rw[cr m]
      have:=i l j
      rcases a.2.2 with z|z
      · subst z
        rw[gI f,gI rfl]
        lia
      · have s : t ∈ B7 x l (wO x l) := wR.mpr #[a.1, a.2.1, z]
        have:=u l j t s
        have n:t≠low:=λw=>o<|w▸z
        by_cases e:t∈V
        · rw[gI e, cr n]; lia
        · rw[cr e]; lia
noncomputable def Oh(x:B0)(e:List (Int×Option Int)):Nat:=((wc x).filter λt=>!(lk e t).isSome).length
structure Rw(x:B0)(low:Int)(e:List (Int×Option Int))(ws:List Int)(D:Int->List (Int×Option Int)->Prop):Prop where
 lo:(lk e low).isSome=true
 tl:∀k,(lk e k).isSome=true->k≠low->k∈wc x
 wk:∀k∈ws,(lk e k).isSome=true
 dn:∀k,(lk e k).isSome=true->k∉ws->D k e
 ch:∃mm:Int->Nat,(∀k,mm k<=e.length)/\∀k t,lk e k=↑(some t)->(lk e t).isSome=true/\mm t<mm k
 sz:e.length+Oh x e<=64
def Rw.add{low:Int}{a t0:Int}(R:Rw x low e p D)(m:a∈wc x)(d:lk e a=none)(i:(lk e t0).isSome=true)(b:∀k,(lk e k).isSome=true->D k e->D k (pk e a<|↑t0)) :
  Rw x low (pk e a<|↑t0) (p++[a]) D/\Oh x (pk e a<|↑t0)+1<=Oh x e:=by
 have r:Oh x (pk e a<|↑t0)+1<=Oh x e:=by
  refine filter_lt (x:=a) (λt h=>?_) (by rw[d];rfl) (by rw[x9,gI rfl];rfl) m;rw[x9]at h;by_cases q:t=a
  ·rw[gI q]at h;simp at h
  ·rw[cr q]at h;exact h
 have f:∀k,(lk e k).isSome=true->(lk (pk e a<|some t0) k).isSome=true:=λk h=>by
  rw[x9];split
  ·rfl
  ·exact h
 have j:∀k,k≠a->lk (pk e a<|some t0) k=lk e k:=λk h=>by rw[x9,cr h]
 have c:(pk e a<|↑t0).length=e.length+1:=by rw[zn d];simp
 refine#[#[f _ R.lo,λk h n=>?_,λk h=>?_,λk h n=>?_,?_,by rw[c];have:=R.sz;lia],r]
 ·by_cases q:k=a
  ·rw[q];exact m
  ·rw[j k q]at h;exact R.tl k h n
 ·rcases List.mem_append.mp h with z|z
  ·exact f _<|R.wk k z
  ·rw[List.mem_singleton.mp z,x9,gI rfl];rfl
 ·have q:k≠a:=λz=>n (by rw[z];simp);rw[j k q]at h;exact b k h<|R.dn k h λz=>n<|iW _ z
 ·obtain⟨s,o,u⟩:=R.ch;refine#[λk=>if k=a then e.length+1 else s k,λk=>?_,λk t h=>?_]
  ·rw[c];dsimp only;split
   ·exact gK _
   ·have:=o k;lia
  ·by_cases q:k=a
   ·rw[q,x9,gI rfl]at h;injection h with h;injection h with h;subst h;have l:t0≠a:=λz=>by rw[z,d]at i;cases i
    refine#[f _ i,?_];dsimp only;rw[gI q,cr l];have:=o t0;lia
   ·rw[j k q]at h;have g:=u k t h;have l:t≠a:=λz=>by rw[z,d]at g;cases g.1
    refine#[f _ g.1,?_];dsimp only;rw[cr q,cr l];exact g.2
def Mz(x:B0)(low high:Int)(k:Int)(e:List (Int×Option Int)):Prop:=(k≠low->low∉yk x (wO x k))/\∀t∈B7 x k (if k=low then high else wO x k),(lk e t).isSome=true
def QS{low high:Int}(b:ED x):Rw x low [(low,none)] [low] (Mz x low high):=by
 have a:∀k,(lk ([(low,none)]:List (Int×Option Int)) k).isSome=true->k=low:=λk h=>by have:=Ac h;simpa using this
 refine#[xU q0o,λk h n=>g8 (a k h) n,λk h=>xU (by simpa using h),λk h n=>g8 (a k h) (by simpa using n),#[λ_=>0,λ_=>iX _,λk t h=>?_],?_]
 ·rw[wQ]at h;by_cases q:low=k
  ·rw[gI q]at h;cases h
  ·rw[cr q]at h;cases h
 ·have:=b.len;have g:Oh x [(low,none)]<=(wc x).length:=iu _ _;have e:(wc x).length=x.ht.length:=gN _;simp only[hZ]
  lia
def a1r{low:Int}(a:ED x):2*Oh x [(low,none)]+[low].length<=200:=by
 have:=a.len;have g:Oh x [(low,none)]<=(wc x).length:=iu _ _;have e:(wc x).length=x.ht.length:=gN _;simp only[hZ]
 lia
noncomputable def KH(x:B0)(a:List Int):List Int:=(wc x).filter λt=>decide<|t∉a
noncomputable def cnt(x:B0)(a:List Int)(t:Int):Int:=((a.filter λl=>decide<|t∈B7 x l (wO x l)).length:Int)
def yB{t:Int}:t∈KH x a↔t∈wc x/\t∉a:=by unfold KH;rw[jl,iF]
def cnt_cons{l t:Int}:cnt x (l::a) t=cnt x a t+if t∈B7 x l (wO x l) then 1 else 0:=by
 unfold cnt;rw[jm];by_cases q:t∈B7 x l (wO x l)
 ·rw[gI<|decide_eq_true q,gI q];simp
 ·rw[cr (by simpa using q),cr q];simp
def Jc{a:List Int}{t:Int}(h:a.Perm b):cnt x a t=cnt x b t:=by unfold cnt;rw[(h.filter _).length_eq]
def Xj{t:Int}:0<=cnt x a t:=by unfold cnt;lia
def QT{t:Int}(h:cnt x a t=0):∀l∈a,t∉B7 x l (wO x l):=λl b q=>by unfold cnt at h;have:(a.filter λl=>decide<|t∈B7 x l (wO x l))=[]:=List.length_eq_zero_iff.mp q0a;have m:l∈(a.filter λl=>decide<|t∈B7 x l (wO x l)):=List.mem_filter.mpr #[b,decide_eq_true q];rw[this]at m;cases m
def MA{t:Int}(h:cnt x a t≠0):∃l∈a,t∈B7 x l (wO x l):=by
 unfold cnt at h
 cases e:(a.filter λl=>decide<|t∈B7 x l (wO x l)) with
 |nil=>rw[e]at h;exact g8 rfl h
 |cons l r =>
  have m:l∈(a.filter λl=>decide<|t∈B7 x l (wO x l)):=by rw[e];exact gM
  have:=List.mem_filter.mp m;exact#[l,this.1,kJ this.2]
def KI{a b:List Int}(h:a.Nodup)(c:b.Nodup)(s:∀k∈a,k∈b):a.length<=b.length:=by
 have p:a.Perm (b.filter λk=>decide<|k∈a):=v9 h (c.filter _) λk=>by rw[jl,iF];exact#[λz=>#[s k z,z],λz=>z.2]
 rw[p.length_eq];exact iu _ _
def MB{a:Type}{l:List (Int×a)}{k:Int}{v:a}(h:(lk l k).isSome=true):(pk l k v).map (·.1)=l.map (·.1):=by unfold pk;rw[gI h,j5];refine lU λe _=>?_;dsimp only[uu];split<;>rfl
structure Kh(x:B0)(u:List (Int×Int))(ready told r2:List Int):Prop where
 ks:u.map (·.1)=wc x
 nd:(told++ready).Nodup
 st:∀t∈told++ready,t∈wc x
 ct:∀t∈wc x,lk u t=↑(cnt x (KH x told) t+if t∈r2 then 1 else 0)
 rd:∀t∈wc x,t∉told->(t∈ready↔cnt x (KH x told) t+(if t∈r2 then 1 else 0)=0)
 bk:∀a∈told,∀l∈wc x,l∉told->a∉B7 x l (wO x l)
 od:told.Pairwise λa b=>a∉B7 x b (wO x b)
def Uo{y:Int}(b:ED x)(c:y∈wc x)(d:y∉a):(KH x a).Perm (y::KH x (a++[y])):=by
 refine v9 (b.nd.filter _) (List.nodup_cons.mpr #[λz=>(yB.mp z).2 q0o,b.nd.filter _]) λk=>?_;rw[yB,ii,yB,l6,nA];by_cases q:k=y
 ·subst q;exact#[λ_=>.inl rfl,λ_=>#[c,d]]
 ·simp[q]
def Kh.pop{y:Int}(n:ED x)(K:Kh x u (f++[y]) c []):Kh x u f (c++[y]) (B7 x y<|wO x y):=by
 have g:y∈wc x:=K.st y q0o;have o:=List.nodup_append.mp K.nd;have h:y∉c:=λz=>o.2.2 y z y q0o rfl;have q:=Uo n g h;have j:∀t,cnt x (KH x c) t=cnt x (KH x<|c++[y]) t+if t∈B7 x y (wO x y) then 1 else 0:=λt=>by rw[Jc q,cnt_cons]
 have r:cnt x (KH x c) y=0:=by have:=(K.rd y g h).mp q0o;simpa using this
 refine#[K.ks,?_,λt d=>K.st t (by simp only[l6,nA]at d ⊢;rcases d with(z|z)|z<;>simp[z]),λt d=>?_,λt d e=>?_,λa i l k e=>?_,?_]
 ·have p:(c++[y]++f).Perm (c++(f++[y])):=by rw[n6];exact rs c mE
  exact(p.nodup_iff).mpr K.nd
 ·rw[K.ct t d,j t];simp
 ·have s:t∉c:=λz=>e<|iW _ z;have v:t≠y:=λz=>e (by rw[z];simp);have:=K.rd t d s;rw[j t]at this;rw[l6,nA]at this;simpa[v] using this
 ·have m:l∉c:=λz=>e<|iW _ z;rcases List.mem_append.mp i with z|z
  ·exact K.bk a z l k m
  ·rw[List.mem_singleton.mp z];exact QT r l<|yB.mpr #[k,m]
 ·rw[List.pairwise_append];refine#[K.od,jT _ _,λa i b w=>?_];rw[List.mem_singleton.mp w];exact K.bk a i y g h
def Kh.step{b v:Int}(K:Kh x u ready c (b::e))(f:b∈wc x)(i:b∉c)(j:b∉e)(k:lk u b=↑v) :
  Kh x (pk u b<|v-1) (if v-1=0 then ready++[b] else ready) c e:=by
 have g:=K.ct b f;rw[k,gI gM]at g;injection g with g
 have l:b∉ready:=λz=>by
  have:=(K.rd b f i).mp z;rw[gI gM]at this;have:=Xj (x:=x) (a:=KH x c) (t:=b)
  lia
 have d:∀t,t≠b->(if t∈b::e then (1:Int) else 0)=if t∈e then 1 else 0:=λt q=>by simp[q]
 refine#[(MB<|by rw[k];rfl).trans K.ks,?_,λt h=>?_,λt h=>?_,λt h m=>?_,K.bk,K.od]
 ·split
  ·have p:(c++(ready++[b])).Perm (b::(c++ready)):=by rw[<- n6];exact mE
   refine(p.nodup_iff).mpr<|List.nodup_cons.mpr ⟨λz=>?_,K.nd⟩;rcases List.mem_append.mp z with z|z
   ·exact i z
   ·exact l z
  ·exact K.nd
 ·by_cases q:t=b
  ·rw[q];exact f
  ·refine K.st t ?_;rcases List.mem_append.mp h with z|z
   ·exact iW _ z
   ·by_cases w:v-1=0
    ·rw[gI w]at z;rcases List.mem_append.mp z with z|z
     ·exact hV _ z
     ·exact g8 (List.mem_singleton.mp z) q
    ·rw[cr w]at z;exact hV _ z
 ·rw[x9];by_cases q:t=b
  ·rw[gI q,q,cr j];congr 1;lia
  ·rw[cr q,K.ct t h,d t q]
 ·by_cases q:t=b
  ·rw[q,cr j];by_cases w:v-1=0
   ·rw[gI w];exact#[λ_=>by lia,λ_=>by simp]
   ·rw[cr w];exact#[λz=>g8 z l,λz=>g8 q0a w]
  ·have:=K.rd t h m;rw[d t q]at this;rw[<- this];by_cases w:v-1=0
   ·rw[gI w];simp[q]
   ·rw[cr w]
def Kh.done(f:ED x)(K:Kh x u [] a []):Ord x a:=by
 obtain⟨r,g⟩:=f.acy
 have c:∀n t,r t<=n->t∈wc x->t∈a:=by
  intro n
  induction n with
  |zero =>
   intro t i d;by_cases q:t∈a
   ·exact q
   ·have:cnt x (KH x a) t≠0:=λz=>by have:=(K.rd t d q).mpr (by simpa using z);cases this
    obtain⟨l,b,e⟩:=MA this;have:=g l (yB.mp b).1 t e
    lia
  |succ n j =>
   intro t i d;by_cases q:t∈a
   ·exact q
   ·have:cnt x (KH x a) t≠0:=λz=>by have:=(K.rd t d q).mpr (by simpa using z);cases this
    obtain⟨l,b,e⟩:=MA this;have:=g l (yB.mp b).1 t e;exact g8 (j l q0a (yB.mp b).1) (yB.mp b).2
 have h:=K.nd;rw[kW]at h;exact#[v9 h f.nd λk=>#[λz=>K.st k (by simpa using z),λz=>c _ k (gK _) z],K.od]
def Kh.len(b:ED x)(K:Kh x u ready a d):ready.length<=63/\a.length<=63/\u.length<=63:=by
 have e:(wc x).length=x.ht.length:=gN _;have:=b.len;have c:=KI K.nd b.nd K.st;rw[gY]at c;have f:u.length=(wc x).length:=by rw[<- K.ks,gN]
 lia
def QU(a:ED x){l h:Int}(b:(lk x.rk h).isSome=true):(B7 x l h).Nodup:=by exact(vm (a.ok.bo h _<|CS a.ok b).1).filter _
end
section
variable{q:Cq}{XL:gH}
noncomputable abbrev Cw:ic:=AT (top 23) 22
noncomputable abbrev Cy:List Str:=["self","cell"]
def KJ:uT ["self","cell"] Cy (uK Cw):=by walk_at "sc"
abbrev FV(q:Cq)(k:Nat):=yU q C "is_tied" Cy (FU) k
def KL(F:yE q.K "is_tied" "Field.is_tied" Cw f g)(b:AK q.K C)(c:P1 q.K C):Gq q 2 f g Cy (FU):=by
 refine' uV (wn (D':=Unit) (ms:=[0]) (j:=0) F KJ rfl rfl λi A a s H E d =>
   (uM (uZ (vd (YN (Ki .ht false 0 rfl b.cl c.nH (B6 d) (ss 1) (pv 0)) (Ay (Ki .th false 0 rfl b.cl c.nT (B6 d) (ss 1) (pv 0)))))))) λp k l h=>?_
 walk_at "wl"
 have h:k ((lk p.1.ht p.2.1).isSome||(lk p.1.th p.2.1).isSome) 57:=h;rw[cr gV,cr gV];by_cases e:(lk p.1.ht p.2.1).isSome=true
 ·rw[gI e];rw[e]at h;exact h
 ·rw[cr e];rw[Bool.eq_false_iff.mpr e]at h;exact h
noncomputable abbrev G6:ic:=AT (top 23) 24
noncomputable abbrev G7:List Str:=["self","low","high"]
def QV:uT ["self","low","high"] G7 (uK G6):=by walk_at "sc"
def NU:(["face","low","self"]:List Str).Nodup:=by decide +kernel
abbrev MC(q:Cq)(k:Nat):=yU q C "steps" G7 (G0) k
def QW(F:yE q.K "steps" "Field.steps" G6 f t)(d:AK q.K C)(u:P1 q.K C):Gq q 2 f t G7 (G0):=by
 refine' uV (wn (D':=Unit) (ms:=[0]) (j:=0) F QV rfl rfl λw A g s H E l =>
   (uM (uZ (w4 (Ts:=["face"]) (Fr:=["low","self"]) (idx:=[1,0]) (k:=1) (mb:=[1,2]) (is:=[]) (cl:=[("self",⇑s+1),("low",⇑s+1+1)]) rfl (PY (AC 0 d.cl d.nB (B6 l) (pv 0) (vW 2 (pv 2)))) Z6 rfl (wG rfl) (λa b C m n=>(vj 0 (uW NU))) (λa b C m n=>(tws_one (tw_w (Gu (tw_cm CO (ss 0) (ss 1)) (Dm (tw_dIn .ht false 2 rfl d.cl u.nH (B6 l) (ss 0) (pv 2))))))) (λa b C m n=>(ss 0)))))) λp x G h=>?_
 walk_at "wl"
 refine A6 λB i=>?_;obtain⟨D,o,h⟩:=h;obtain⟨v,r⟩:=Option.isSome_iff_exists.mp D;have e:yk p.1 p.2.2.1=v:=by unfold yk;rw[r];rfl
 refine i ?_;rw[e]at o;refine#[v,r,o,?_];refine v7 (q:=λf=>decide (f≠p.2.1)&&(lk p.1.ht f).isSome) (λf I K c=>?_) ?_
 ·show if (!decide (f=p.2.1))=true then (if (if false=true then _ else (lk p.1.ht f).isSome)=true then K ↑f _ else K none _) else (if false=true then K ↑f _ else K none _);rw[cr gV,cr gV];by_cases z:f=p.2.1
  ·rw[cr<|by simp[z]];rw[cr<|by simp[z]]at c;exact c
  ·rw[gI<|by simp[z]];by_cases y:(lk p.1.ht f).isSome=true
   ·rw[gI y];rw[gI<|by simp[z,y]]at c;exact c
   ·rw[cr y];rw[cr<|by simp[z,y]]at c;exact c
 ·have h:x #[B7 p.1 p.2.1 p.2.2.1] 65:=h;unfold B7 at h;rw[e]at h;exact h
noncomputable abbrev G8:ic:=AT (top 23) 17
noncomputable abbrev G9:List Str:=["self"]
def QX:uT ["self"] G9 (uK G8):=by walk_at "sc"
abbrev MD(q:Cq)(k:Nat):=yU q C "tails" G9 (Mv) k
def QY(F:yE q.K "tails" "Field.tails" G8 f b)(c:AK q.K C)(d:P1 q.K C)(B:Bn q.mg):Gq q 2 f b G9 (Mv):=by
 refine' uV (wn (D':=Unit) (ms:=[0]) (j:=0) F QX rfl rfl λe A a s H E k =>
   (uM (uZ (Ek .ht 0 rfl c.cl d.nH rfl rfl B.sorted (pv 0))))) λp l m h=>?_
 walk_at "wl"
 obtain⟨g,n,i⟩:=h;exact#[g,i]
noncomputable abbrev EE:ic:=AT (top 23) 20
abbrev EF:List Str:=["self"]
def NW:uT ["self"] EF (uK EE):=by walk_at "sc"
def KN:(["low","self"]:List Str).Nodup:=by decide +kernel
abbrev Jd(q:Cq)(k:Nat):=yU q C "arrows" EF (Jb) k
def NX(F:yE q.K "arrows" "Field.arrows" EE f i)(m:AK q.K C)(n:P1 q.K C)(a:MD q 2):Gq q 3 f i EF (Jb):=by
 refine' uV (wn (D':=Unit) (ms:=[0]) (j:=0) F NW rfl rfl λo A d s H E r =>
   (uM (uZ (w4 (Ts:=["low"]) (Fr:=["self"]) (idx:=[0]) (k:=1) (mb:=[1]) (is:=[]) (cl:=[("self",⇑s+1)]) rfl (vZ (vz (BL 0 a))) VC rfl (wG rfl) (λb c C e g=>(vj 0 (uW KN))) (λb c C e g=>tws_nil) (λb c C e g=>(wz (ss 0) (Ds .ht 1 rfl m.cl n.nH (B6 r) (pv 1) (vW 0 (pv 0))))))))) λp z B h=>?_
 walk_at "wl"
 obtain⟨t,u,v⟩:=h;refine#[t,u,?_,?_]
 ·show (CM<|wc p.1).length<=gL;rw[(wF _).length_eq];exact vM (by show (p.1.ht.map (·.1)).length<=1000;rw[gN];lia)
 ·refine vV (f:=λl=>↑(l,wO p.1 l)) (λl w K y=>?_) ?_
  ·exact#[_,zo (x:=p.1)<|AA.mp w,y]
  ·rw[sE];exact v
noncomputable abbrev Hc:ic:=AT (top 23) 14
noncomputable abbrev Hd:List Str:=["self","low"]
def Je:uT ["self","low","high"] Hd (uK Hc):=by walk_at "sc"
abbrev ME(q:Cq)(k:Nat):=yU q C "untie" Hd (G4) k
def QZ(F:yE q.K "untie" "Field.untie" Hc f k)(c:AK q.K C)(d:P1 q.K C)(a:wu q 2)(b:Xc q.K q.mg "NotTied" XN):Gq q 3 f k Hd (G4):=by
 refine' uV (wn (D':=Unit) (ms:=[0]) (j:=1) F Je rfl rfl λl A g s H E m =>
   (uY (vY (uX (v6 0 a 84)))
   (uY (vo (tw_dIn .ht true 0 rfl c.cl d.nH (B6 m) (ss 1) (pv 0))
   (uM<|BK rfl b)
   vi)
   (uY (ve 2 Je.nd (vd (Ub .ht 0 rfl c.cl d.nH (pv 0) (vW 1 (pv 1)))))
   (uY (Mb .th 0 rfl c.cl d.nT (pv 0) (vW 2 (pv 2)) (λn o=>Gd n o))
   (uM (uZ (vd (ss 2))))))))) λp u r h=>?_
 walk_at "wl"
 obtain⟨t,h⟩:=h;show if (61).isSome=true then _ else r XC 57;by_cases i:(61).isSome=true
 ·rw[gI i]at h ⊢;dsimp only;rw[gI rfl];by_cases q:(lk p.1.ht p.2.1).isSome=true
  ·rw[gI q]at h;rw[cr<|by simp[q]];have e:=zo (x:=p.1)<|Ac q;exact#[_,e,by rw[(t.ht _ _ e).2.2.2];rfl,h]
  ·rw[cr q]at h;rw[gI<|by simp[q]];exact h
 ·rw[cr i]at h ⊢;exact h
noncomputable abbrev xu:ic:=top 24
noncomputable abbrev xv:List Str:=["earlier","last"]
def wA:uT ["earlier","last","row","tail"] xv (uK xu):=by walk_at "sc"
abbrev Cz(q:Cq)(k:Nat):=wW q "row_from_first" xv yS k
def BZ(F:Du q "row_from_first" xu f o):Gq q 2 f o xv yS:=by
 refine' uV (wn (D':=Unit) (ms:=[0]) (j:=2) F wA rfl rfl λr A b s H E t =>
   (uY (ve 2 wA.nd (vg (α:=Int) vf))
   (uY (ve 3 wA.nd (vd (zh (ss 1))))
   (uY (Em (mb:=[0]) (D2:=(Dc (Option Int))×Int×(OL Int)×(Option Int)×Unit) (vn q0q) yc (tw_cm L6 (ss 3) J4)
   (uY (wj 2 (zx (ss 3)))
   (uM (ve 3 wA.nd (vd (Er 0 (B6 t) (pv 0) (zx (ss 3))))))) q0q)
   (uM (uZ (Xb (wh 2)))))))) λp D G h=>?_
 walk_at "wl"
 refine A6 λu c=>?_;obtain⟨⟨a,w,x,y⟩,h⟩:=h;refine c ?_;refine#[λm d=>d.1=p.1/\(match d.2.2.2.1 with|none=>d.2.2.1.l≠[]|some k=>(lk p.1.l k).isSome=true/\d.2.2.1.l.length+a k<1000)/\(match d.2.2.2.1 with|none=>0|some k=>a k+1)<=m,#[a p.2.1+1,rfl,#[x,by have:=w p.2.1;simpa using this],gK _],?_];intro m;refine a1c λI J B C L=>?_;rintro⟨rfl,i,M⟩
 cases C with
 |none =>
  rw[cr q0o];exact h _ (by simpa using i)
 |some k =>
  rw[gI q0o];obtain⟨v,n⟩:=Option.isSome_iff_exists.mp i.1;have z:gL=16777216:=iQ;refine#[k,rfl,by show B.l.length<gL;lia,k,rfl,v,n,?_]
  cases v with
  |none=>exact#[0,q0a,rfl,q0o,gK _]
  |some e =>
   have g:=y k e n;exact#[a e+1,q0a,rfl,#[g.1,by simp;lia],gK _]
noncomputable abbrev Ak:ic:=AT (top 23) 25
noncomputable abbrev Al:List Str:=["self","low","high"]
def wL:uT ["self","low","high","earlier","waiting","tail","head","later"] Al (uK Ak):=by walk_at "sc"
abbrev Jf(q:Cq)(k:Nat):=yU q C "ring_with" Al (CV) k
def He(F:yE q.K "ring_with" "Field.ring_with" Ak f fd)(ct:AK q.K C)(cf:P1 q.K C)(a:Cz q 3)(D:MC q 3):Gq q 4 f fd Al (CV):=by
 refine' uV (wn (D':=Unit) (ms:=[0]) (j:=5) F wL rfl rfl λag A aa s H E P =>
   (uY (ve 3 wL.nd (W9 (vW 1 (pv 1))))
   (uY (ve 4 wL.nd (vg (uR (ss 1) vf)))
   (uY (Em (mb:=[0]) (D2:=(Bd C true)×Int×Int×(Dc (Option Int))×(OL Int)×Int×Int×Un×Unit) (vn q0q) yc (tw_trueR (wh 4))
   (uY (ve 5 wL.nd (vd (Mn 4 (pv 4) (OJ kC mu mw ON (pv 4)))))
   (uY (ve 6 wL.nd (vd (Qy .ht 0 rfl ct.cl cf.nH (B6 P) (pv 0) (vW 5 (pv 5)) (vW 2 (pv 2)))))
   (uY (vo (tw_w (Gu (tw_cm CO (ss 5) (ss 1)) (Dm (tw_inT (ss 1) (AC 0 ct.cl ct.nB (B6 P) (pv 0) (vW 6 (pv 6))) (by with_unfolding_all rfl)))))
   (uM<|uZ<|vh a<|vA 3<|uQ (ss 5) uN)
   vi)
   (uM (v8 (is:=[]) (mb:=[0]) (D1:=(Bd C true)×Int×Int×(Dc (Option Int))×(OL Int)×Int×Int×Int×Unit) (D2:=(Bd C true)×Int×Int×(Dc (Option Int))×(OL Int)×Int×Int×Int×Unit) (vn q0q) yc rfl (vZ (vz (v6 0 D (uQ (ss 5) (uQ (ss 6) uN))))) (vj 7 (uW wL.nd))
   (uM (vo (tw_dcNin 3 (B6 P) (ss 7) (pv 3))
   (uY (Qp 3 (B6 P) (pv 3) (ss 7) (zh (ss 5)))
   (uM (wj 4 (ss 7))))
   vi)) q0q q0q))))) q0q)
   (uM (uZ (vg (α:=Int) vf))))))) λp Kn Ke h=>?_
 walk_at "wl"
 refine A6 λah ab=>?_;obtain⟨L,hh,t1,t2,h⟩:=h;refine ab ?_
 have G:p.2.1∉wc p.1:=λz=>by have:=xU z;unfold xP at t1;rw[this]at t1;cases t1
 have n0:lk p.1.ht p.2.1=none:=Ul G;refine#[λm d=>d.1=p.1/\d.2.1=p.2.1/\d.2.2.1=p.2.2.1/\Rw p.1 p.2.1 d.2.2.2.1.l d.2.2.2.2.1.l (Mz p.1 p.2.1 p.2.2.1)/\2*Oh p.1 d.2.2.2.1.l+d.2.2.2.2.1.l.length<=m/\m<=200,#[_,rfl,rfl,rfl,QS L,gK _,a1r L],?_];intro m;refine E9 λd1 d2 d3 d4 d5 d6 d7 d8 d9=>?_;rintro⟨rfl,rfl,rfl,i,i5,i6⟩;rcases tm d5.l with e|⟨ys,y,e⟩
 ·rw[cr<|by rw[e];simp];refine h [] λ_=>?_;rw[e]at i;exact Um (V:=d4.l.map (·.1)) L G (Aj.mp i.lo) (λk o n=>i.tl k (Aj.mpr o) n) λk o=>#[(i.dn k (Aj.mpr o) q0o).1,λt c=>Aj.mp<|(i.dn k (Aj.mpr o) q0o).2 t c]
 ·rw[gI<|by rw[e];simp];rw[tq]at e;refine#[ys,y,e,?_];have W:(lk d4.l y).isSome=true:=i.wk y (by rw[e];simp)
  have hd:(lk p.1.ht y).getD p.2.2.1=if y=p.2.1 then p.2.2.1 else wO p.1 y:=by
   by_cases q:y=p.2.1
   ·rw[gI q,q,n0];rfl
   ·rw[cr q,zo<|i.tl y W q];rfl
  have M:(lk p.1.rk<|if y=p.2.1 then p.2.2.1 else wO p.1 y).isSome=true:=by
   by_cases q:y=p.2.1
   ·rw[gI q];exact hh
   ·rw[cr q];exact L.Ny<|i.tl y W q
  rw[hd]
  have I:(y≠p.2.1->p.2.1∉yk p.1 (wO p.1 y))->G0 (p.1,y,(if y=p.2.1 then p.2.2.1 else wO p.1 y),()) (λae p'=>Gv (λx (b:B0×Int×Int×Dc (Option Int)×OL Int×Int×Int×WL.Un×Unit) R Kr Ke =>
    if (!(lk b.2.2.2.1.l x).isSome)=true then b.2.2.2.1.l.length<gL/\b.2.2.2.2.1.l.length<gL/\R (b.1,b.2.1,b.2.2.1,#[pk b.2.2.2.1.l x<|↑b.2.2.2.2.2.1],#[b.2.2.2.2.1.l++[x]],b.2.2.2.2.2.1,b.2.2.2.2.2.2.1,#[],b.2.2.2.2.2.2.2.2)
    else R (b.1,b.2.1,b.2.2.1,b.2.2.2.1,b.2.2.2.2.1,b.2.2.2.2.2.1,b.2.2.2.2.2.2.1,#[],b.2.2.2.2.2.2.2.2)) ae.l (p'.1,p.2.1,p.2.2.1,d4,#[ys],y,(if y=p.2.1 then p.2.2.1 else wO p.1 y),d8,d9)
    (λN=>∃m',m'<m/\N.1=p.1/\N.2.1=p.2.1/\N.2.2.1=p.2.2.1/\Rw p.1 p.2.1 N.2.2.2.1.l N.2.2.2.2.1.l (Mz p.1 p.2.1 p.2.2.1)/\2*Oh p.1 N.2.2.2.1.l+N.2.2.2.2.1.l.length<=m'/\m'<=200) Kn Ke) (λaf p'=>Ke af (p'.1,#[],#[],())):=by
   intro hy;refine#[by rw[CS L.ok M];rfl,L.bl M,?_]
   refine vy (λ(r:List Int) (b:B0×Int×Int×Dc (Option Int)×OL Int×Int×Int×WL.Un×Unit)=>b.1=p.1/\b.2.1=p.2.1/\b.2.2.1=p.2.2.1/\b.2.2.2.2.2.1=y/\(lk b.2.2.2.1.l y).isSome=true/\(∀t∈r,t∈wc p.1) /\
    Rw p.1 p.2.1 b.2.2.2.1.l b.2.2.2.2.1.l (λk e=>if k=y then (∀t∈B7 p.1 y (if y=p.2.1 then p.2.2.1 else wO p.1 y),(lk e t).isSome=true\/t∈r) else Mz p.1 p.2.1 p.2.2.1 k e)/\2*Oh p.1 b.2.2.2.1.l+b.2.2.2.2.1.l.length+1<=m) _ ?_ ?_ ?_
   ·refine#[rfl,rfl,rfl,rfl,W,λt c=>(wR.mp c).2.2,#[i.lo,i.tl,λk o=>i.wk k (by rw[e];exact iW _ o),λk o O=>?_,i.ch,i.sz],?_]
    ·dsimp only;by_cases q:k=y
     ·rw[gI q];exact λt c=>.inr c
     ·rw[cr q];exact i.dn k o (by rw[e];intro z;rcases List.mem_append.mp z with z|z;exact O z;exact q<|List.mem_singleton.mp z)
    ·rw[e,gY]at i5;simp only[hZ]at i5
     lia
   ·intro S r;refine E9 λb1 b2 b3 X b5 J b7 b8 b9=>?_;rintro _ ⟨rfl,rfl,rfl,rfl,Y,j6,u,j8⟩ K hK;have T:∀t∈r,t∈wc p.1:=λt c=>j6 t (gQ _ c)
    cases q:lk X.l S with
    |none =>
     rw[gI q0o];have z:gL=16777216:=iQ;have s1:=u.sz;have nn:∀(k:Int) (e':List (Int×Option Int)),(∀t,(lk e' t).isSome=true->(lk (pk e' S<|some J) t).isSome=true):=λk e' t c=>by rw[x9];split;rfl;exact c
     obtain⟨Q,u2⟩:=u.add (t0:=J) (j6 S gM) q Y λk o U=>by
      by_cases B:k=J
      ·rw[gI B]at U ⊢;exact λt c=>(U t c).imp (nn k _ t) id
      ·rw[cr B]at U ⊢;exact#[U.1,λt c=>nn k _ t<|U.2 t c]
     refine#[by show X.l.length<gL;lia,by show b5.l.length<gL;lia,hK _ #[rfl,rfl,rfl,rfl,nn 0 _ _ Y,T,?_,?_]]
     ·refine#[Q.lo,Q.tl,Q.wk,λk o O=>?_,Q.ch,Q.sz];have g:=Q.dn k o O;by_cases B:k=J
      ·rw[gI B]at g ⊢;intro t c;rcases g t c with w|w
       ·exact .inl w
       ·rcases List.mem_cons.mp w with w|w
        ·left;rw[w,x9,gI rfl];rfl
        ·exact .inr w
      ·rw[cr B]at g ⊢;exact g
     ·show 2*Oh p.1 (pk X.l S<|↑J)+(b5.l++[S]).length+1<=m;rw[gY];simp only[hZ]
      lia
    |some v =>
     rw[cr q0o];refine hK _ #[rfl,rfl,rfl,rfl,Y,T,#[u.lo,u.tl,u.wk,λk o O=>?_,u.ch,u.sz],j8];have g:=u.dn k o O;by_cases B:k=J
     ·rw[gI B]at g ⊢;intro t c;rcases g t c with w|w
      ·exact .inl w
      ·rcases List.mem_cons.mp w with w|w
       ·left;rw[w,q];rfl
       ·exact .inr w
     ·rw[cr B]at g ⊢;exact g
   ·refine E9 λb1 b2 b3 X b5 J b7 b8 b9=>?_;rintro⟨rfl,rfl,rfl,rfl,Y,_,u,j8⟩;refine#[m-1,q0a,rfl,rfl,rfl,#[u.lo,u.tl,u.wk,λk o O=>?_,u.ch,u.sz],by dsimp only at j8 ⊢;lia,q0a];have g:=u.dn k o O;by_cases B:k=J
    ·rw[gI B]at g;subst B;exact#[hy,λt c=>(g t c).elim id λw=>g8 w q0o]
    ·rw[cr B]at g;exact g
  by_cases q:y=p.2.1
  ·rw[cr (by simp[q]),cr gV];exact I λz=>g8 q z
  ·rw[gI<|by simp[q]];refine#[_,CS L.ok M,?_];by_cases Z:p.2.1∈yk p.1 (if y=p.2.1 then p.2.2.1 else wO p.1 y)
   ·rw[gI<|decide_eq_true Z];obtain⟨mm,m1,m2⟩:=i.ch;refine⟨⟨mm,λk=>by have:=m1 k;have:=i.sz;lia,W,m2⟩,λr P=>h r λz=>g8 z P⟩
   ·rw[cr<|by simpa using Z];exact I λ_=>by rw[cr q]at Z;exact Z
noncomputable abbrev Q0:ic:=AT (top 23) 13
abbrev Q1:List Str:=["self","low","high"]
def Q2:uT ["self","low","high","ring"] Q1 (uK Q0):=by walk_at "sc"
abbrev Zw(q:Cq)(k:Nat):=yU q C "tie" Q1 (QQ) k
def Xk(F:yE q.K "tie" "Field.tie" Q0 f D)(o:AK q.K C)(x:P1 q.K C)(b:wu q 4)(d:FV q 4)(e:Jf q 4)(g:Xc q.K q.mg "NotFace" XF)(k:Xc q.K q.mg "Tied" XT)(c:XcI q.P q.w q.K q.mg q.base 3 "RingOfArrows" XR "ring"):Gq q 5 f D Q1 (QQ):=by
 refine' uV (DY (vn q0q) (D':=(Bd C true)×Int×Int×(OL Int)×Unit) (ms:=[0]) (j:=1) F Q2 rfl rfl λG A v s H E l =>
   (uY (vY (uX (v6 0 b 84)))
   (uY (vY (uX (v6 0 b (uQ (ss 2) uN))))
   (uY (vo (tw_ninT (ss 1) (AC 0 o.cl o.nB (B6 l) (pv 0) (vW 2 (pv 2))) (by with_unfolding_all rfl))
   (uM<|BK rfl g)
   vi)
   (uY (vo (tw_w (BB (tw_val (uX (v6 0 d 84))) (zS (tw_val (uX (v6 0 d (uQ (ss 2) uN)))))))
   (uM<|BK rfl k)
   vi)
   (uY (ve 3 Q2.nd (v6 0 e (uQ (ss 1) (uQ (ss 2) uN))))
   (uY (vo (tw_trueR (wh 3))
   (uM<|W7 (i:=3) (α:=Int) rfl c l<|pv 3)
   vi)
   (uY (GC .ht 0 rfl o.cl x.nH (B6 l) (pv 0) (vW 1 (pv 1)) (ss 2))
   (uM (GC .th 0 rfl o.cl x.nT (B6 l) (pv 0) (vW 2 (pv 2)) (ss 1))))))))))) λp I y h=>?_
 walk_at "wl"
 obtain⟨t,h⟩:=h;show if (61).isSome=true then _ else y XC 65;by_cases B:(61).isSome=true
 ·rw[gI B]at h ⊢;show if (lk p.1.rk p.2.2.1).isSome=true then _ else y XC 65;by_cases ht:(lk p.1.rk p.2.2.1).isSome=true
  ·rw[gI ht]at h ⊢;refine#[_,CS t.ok ht,?_];by_cases u:p.2.1∈yk p.1 p.2.2.1
   ·rw[gI u]at h;rw[cr<|by simp[u]];show if xP p.1 p.2.1=true then _ else _;by_cases m:xP p.1 p.2.1=true
    ·rw[gI<|.inl m]at h;rw[gI m,gI rfl];exact h
    ·rw[cr m];show if xP p.1 p.2.2.1=true then _ else _;by_cases n:xP p.1 p.2.2.1=true
     ·rw[gI<|.inr n]at h;rw[gI n];exact h
     ·rw[cr<|λz=>z.elim m n]at h;rw[cr n];refine#[t,ht,by simpa using m,by simpa using n,λr l=>?_]
      cases r with
      |nil =>
       rw[cr q0o];have z:gL=16777216:=iQ;exact#[(by show p.1.ht.length<gL;have:=t.len;lia),(by show p.1.th.length<gL;have:=t.Zv;lia),h.2<|l rfl]
      |cons a r =>
       rw[gI q0o];exact h.1
   ·rw[cr u]at h;rw[gI<|by simp[u]];exact h
  ·rw[cr ht]at h ⊢;exact h
 ·rw[cr B]at h ⊢;exact h
noncomputable abbrev Hf:ic:=AT (top 23) 21
noncomputable abbrev Hg:List Str:=["self"]
def w9:uT ["self","tail","unmet","low","high","later","ready","told"] Hg (uK Hf):=by walk_at "sc"
def NY:(["tail","unmet"]:List Str).Nodup:=by decide +kernel
abbrev Up(q:Cq)(k:Nat):=yU q C "order" Hg (Mw) k
def Q3(F:yE q.K "order" "Field.order" Hf f fd)(ct:AK q.K C)(cf:P1 q.K C)(u:Jd q 3)(n:MC q 3)(v:MD q 3):Gq q 4 f fd Hg (Mw):=by
 refine' uV (wn (D':=Unit) (ms:=[0]) (j:=7) F w9 rfl rfl λab A aa s H E U =>
   (uY (ve 2 w9.nd (NM .ht 0 rfl ct.cl cf.nH rfl (pv 0) rfl q0s rfl q0s rfl) (hx:=uB rfl))
   (uY (v8 (is:=[]) (mb:=[0]) (D1:=(Bd C true)×Un×(Dc Int)×Int×Int×Un×Un×Un×Unit) (D2:=(Bd C true)×Un×(Dc Int)×Int×Int×Un×Un×Un×Unit) (vn q0q) yc rfl (vZ (vz (BL 0 u))) (BE 3 4 (B9 rfl (wg (uW (i:=3) w9.nd) (wg (uW (i:=4) w9.nd) Ap))) q0q q0q)
   (uM (v8 (is:=[]) (mb:=[0]) (D1:=(Bd C true)×Un×(Dc Int)×Int×Int×Int×Un×Un×Unit) (D2:=(Bd C true)×Un×(Dc Int)×Int×Int×Int×Un×Un×Unit) (vn q0q) yc rfl (vZ (vz (v6 0 n (uQ (ss 3) (uQ (ss 4) uN))))) (vj 5 (uW w9.nd))
   (uM (IU 2 (B6 U) (pv 2) (vW 5 (pv 5)) P4 On)) q0q q0q)) q0q q0q)
   (uY (Az (Ts:=["tail"]) (Fr:=["unmet"]) (idx:=[2]) (k:=1) (mb:=[1]) (is:=[]) (cl:=[("unmet",⇑s+1)]) 6 w9.nd rfl rfl rfl q0q rfl (vZ (vz (BL 0 v))) VC rfl (wG rfl) (λJ L C ex pn=>(vj 0 (uW NY))) (λJ L C ex pn=>(tws_one (tw_cm zy (Er 1 (B6 U) (pv 1) (ss 0)) uP))) (λJ L C ex pn=>(ss 0)))
   (uY (ve 7 w9.nd (vg (α:=Int) vf))
   (uY (Em (mb:=[0]) (D2:=(Bd C true)×Int×(Dc Int)×Un×Un×Un×(OL Int)×(OL Int)×Unit) (vn q0q) yc (tw_trueR (wh 6))
   (uY (ve 1 w9.nd (vd (Mn 6 (pv 6) (OJ kC mu mw ON (pv 6)))))
   (uY (wj 7 (ss 1))
   (uM (v8 (is:=[]) (mb:=[0]) (D1:=(Bd C true)×Int×(Dc Int)×Un×Un×Int×(OL Int)×(OL Int)×Unit) (D2:=(Bd C true)×Int×(Dc Int)×Un×Un×Int×(OL Int)×(OL Int)×Unit) (vn q0q) yc rfl (vZ (vz (v6 0 n (uQ (ss 1) (uQ (Ds .ht 0 rfl ct.cl cf.nH (B6 U) (pv 0) (vW 1 (pv 1))) uN))))) (vj 5 (uW w9.nd))
   (uY (IU 2 (B6 U) (pv 2) (vW 5 (pv 5)) P4 VZ)
   (uM (vo (tw_cm zy (Er 2 (B6 U) (pv 2) (ss 5)) uP)
   (uM<|wj 6<|ss 5)
   vi))) q0q q0q)))) q0q)
   (uM (yx 7 (pv 7))))))))) λp Kn Ke h=>?_
 walk_at "wl"
 obtain⟨g,h⟩:=h;have sl:gL=16777216:=iQ;have W:(wc p.1).length<=63:=by have e:(wc p.1).length=p.1.ht.length:=gN _;have:=g.len;lia
 have N:(CM<|wc p.1).Nodup:=(wF _).nodup_iff.mpr g.nd;refine⟨g.len,g.nd,?_⟩;refine vy (λ(r:List (Int×Int)) (b:B0×WL.Un×Dc Int×WL.Un×WL.Un×WL.Un×WL.Un×WL.Un×Unit)=>b.1=p.1/\b.2.2.1.l.map (·.1)=wc p.1/\(∀e∈r,e.1∈wc p.1/\e.2=wO p.1 e.1)/\∀t∈wc p.1,lk b.2.2.1.l t=↑(cnt p.1 (CM<|wc p.1) t-cnt p.1 (r.map (·.1)) t)) _ ?_ ?_ ?_
 ·refine#[rfl,?_,λe he=>?_,λt c=>?_]
  ·show ((List.map (λx=>x.1) p.1.ht).map λk=>(k,(0:Int))).map (·.1)=wc p.1;rw[j5];exact List.map_id' _
  ·obtain⟨l,hl,rfl⟩:=List.mem_map.mp he;exact#[AA.mp hl,rfl]
  ·have e:((CM<|wc p.1).map λl=>(l,wO p.1 l)).map (·.1)=CM (wc p.1):=by rw[j5];exact List.map_id' _
   rw[e,Int.sub_self];exact My c
 ·rintro⟨l,hd⟩ r;refine E9 λb1 b2 b3 b4 b5 b6 b7 b8 b9=>?_;rintro _ ⟨rfl,j2,j3,R⟩ K hK;have l1:l∈wc p.1/\hd=wO p.1 l:=j3 (l,hd) gM;have hl:=l1.1;have e2:=l1.2;subst e2;have o:=g.Ny hl;refine#[by rw[CS g.ok o];rfl,g.bl o,?_];refine vy (λ(B:List Int)(b:B0×WL.Un×Dc Int×Int×Int×WL.Un×WL.Un×WL.Un×Unit)=>b.1=p.1/\b.2.2.1.l.map (·.1)=wc p.1/\B.Nodup/\(∀t∈B,t∈wc p.1)/\∀t∈wc p.1,lk b.2.2.1.l t=↑(cnt p.1 (CM<|wc p.1) t-cnt p.1 (r.map (·.1)) t-if t∈B then 1 else 0)) _ ?_ ?_ ?_
  ·refine#[rfl,j2,QU g o,λt c=>(wR.mp c).2.2,λt c=>?_];rw[R t c,h8,cnt_cons,<- Int.sub_sub]
  ·intro G B;refine E9 λc1 c2 O c4 c5 c6 c7 c8 c9=>?_;rintro _ ⟨rfl,D,k3,X,k5⟩ K2 I;have T:=List.nodup_cons.mp k3;have e0:=k5 G<|X G gM;have cl:O.l.length<=63:=by rw[<- gN (f:=(·.1)) (as:=O.l),D];exact W
   refine#[_,e0,by show O.l.length<gL;lia,I _ #[rfl,(MB<|by rw[e0];rfl).trans D,T.2,λt c=>X t<|gQ _ c,λt c=>?_]];rw[x9];by_cases q:t=G
   ·rw[gI q,q,gI gM,cr T.1];congr 1;lia
   ·rw[cr q,k5 t c];simp[q]
  ·refine E9 λc1 c2 O c4 c5 c6 c7 c8 c9=>?_;rintro⟨rfl,D,_,_,k5⟩;refine hK _ #[rfl,D,λe he=>j3 e<|gQ _ he,λt c=>?_];rw[k5 t c];simp
 ·refine E9 λb1 b2 b3 b4 b5 b6 b7 b8 b9=>?_;rintro⟨rfl,j2,_,R⟩
  have R:∀t∈wc p.1,lk b3.l t=↑(cnt p.1 (wc p.1) t):=λt c=>by rw[R t c,oH,Jc<|wF<|wc p.1];unfold cnt;simp
  refine#[g.len,g.nd,?_];refine#[by rw[(wF _).length_eq];lia,?_];refine v7 (q:=λt=>decide<|cnt p.1 (wc p.1) t=0) (λt c K hK=>#[_,R t<|AA.mp c,hK]) ?_
  have P:Kh p.1 b3.l ((CM<|wc p.1).filter λt=>decide<|cnt p.1 (wc p.1) t=0) [] []:=by
   have u0:KH p.1 []=wc p.1:=by unfold KH;simp
   refine#[j2,by rw[oT];exact N.filter _,λt c=>?_,λt c=>?_,λt c _=>?_,λa ha=>g8 ha q0o,il]
   ·rw[oT,jl]at c;exact AA.mp c.1
   ·rw[u0,R t c];simp
   ·rw[u0,jl,AA,iF];simp[c]
  refine#[λm d=>d.1=p.1/\Kh p.1 d.2.2.1.l d.2.2.2.2.2.2.1.l d.2.2.2.2.2.2.2.1.l []/\64<=m+d.2.2.2.2.2.2.2.1.l.length,#[64,rfl,P,q0o],?_];intro m;refine E9 λd1 d2 d3 d4 d5 d6 d7 Q d9=>?_;rintro⟨rfl,M,i2⟩;rcases tm d7.l with e|⟨ys,y,e⟩
  ·rw[cr<|by rw[e];simp];rw[e]at M;exact h _<|M.done g
  ·rw[gI<|by rw[e];simp];rw[tq]at e;rw[e]at M;have yt:y∈wc p.1:=M.st y q0o;have o:=g.Ny yt;have ln:=M.len g;refine⟨ys,y,e,by show Q.l.length<gL;lia,_,zo yt,by rw[CS g.ok o];rfl,g.bl o,?_⟩;have K0:=M.pop g;refine vy (λ(B:List Int)(b:B0×Int×Dc Int×WL.Un×WL.Un×WL.Un×OL Int×OL Int×Unit)=>b.1=p.1/\b.2.2.2.2.2.2.2.1.l=Q.l++[y]/\Kh p.1 b.2.2.1.l b.2.2.2.2.2.2.1.l (Q.l++[y]) B/\B.Nodup/\∀t∈B,t∈wc p.1/\t∉Q.l++[y]) _ ?_ ?_ ?_
   ·refine#[rfl,rfl,K0,QU g o,λt c=>#[(wR.mp c).2.2,λz=>?_]];rcases List.mem_append.mp z with z|z
    ·have yn:y∉Q.l:=λw=>(List.nodup_append.mp M.nd).2.2 y w y q0o rfl;exact M.bk t z y yt yn c
    ·exact(wR.mp c).2.1<|List.mem_singleton.mp z
   ·intro G B;refine E9 λc1 c2 O c4 c5 c6 c7 c8 c9=>?_;rintro _ ⟨rfl,Y,D,k3,X⟩ K2 I;have T:=List.nodup_cons.mp k3;have x1:=X G gM;have hv:=D.ct G x1.1;have S:=D.step x1.1 x1.2 T.1 hv;have ae:=D.len g;refine#[_,hv,by show O.l.length<gL;lia,_,by rw[x9,gI rfl],?_];have Z:∀t∈B,t∈wc p.1/\t∉Q.l++[y]:=λt c=>X t<|gQ _ c;by_cases w:(cnt p.1 (KH p.1<|Q.l++[y]) G+if G∈G::B then 1 else 0)-1=0
    ·rw[gI<|decide_eq_true w];rw[gI w]at S;exact#[by show c7.l.length<gL;lia,I _ #[rfl,Y,S,T.2,Z]]
    ·rw[cr<|by simpa using w];rw[cr w]at S;exact I _ #[rfl,Y,S,T.2,Z]
   ·refine E9 λc1 c2 O c4 c5 c6 c7 c8 c9=>?_;rintro⟨rfl,Y,D,_,_⟩;exact#[m-1,q0a,rfl,by rw[Y];exact D,by rw[Y,gY,hZ];lia]
end
structure X1(l:List Int):Prop where
 ri:xR l
 lt:∀c∈l,0<=c/\c<63
def X1.xr(d:X1 a)(e:X1 b):X1 (xr a b):=#[zW d.ri,λc f=>(P0 (vm e.ri) f).elim (d.lt c)<|e.lt c]
def X1.mem(b:X1 a):∀k∈a,k∈yH 0 63:=λk c=>AD (b.lt k c).1 (b.lt k c).2
section
variable{x:B0}
end
def Hh :B0×Int×Unit->(Unit->B0×WL.Un×Unit->Prop)->(gH->B0×WL.Un×Unit->Prop)->Prop:=λp a b=>xP p.1 p.2.1=false/\GR p a b
abbrev Uq(q:Cq)(k:Nat):=yU q C "take" Ai (Hh) k
section
variable{x:B0}
end
section
variable{q:Cq}{XL:gH}
end
noncomputable abbrev KO:ic:=top 27
abbrev xV:=Vu
abbrev RW:=Option<|Int×List Int
noncomputable def rowAt(a:List RW)(k:Int):RW:=if 0<=k then (a[k.toNat]?).join else none
noncomputable def eb(a:List RW)(k:Int):List Int:=((rowAt a k).map (·.2)).getD []
structure Vr(rows:List RW):Prop where
 ok:∀k r e,rowAt rows k=↑(r,e)->0<=r/\r<=12/\xR e/\(∀c∈e,c<k/\∃e',rowAt rows c=↑(r-1,e'))/\wl (eb rows) e=[]
 ln:rows.length<=60
 sm:∀k r e,rowAt rows k=↑(r,e)->∀c∈e,c<35
def Lp(a:List RW)(q:Int×List Int):Prop:=xR q.2/\(∀c∈q.2,∃e,rowAt a c=↑(q.1,e))/\wl (eb a) q.2=[]
noncomputable def CY(a:List RW):List Int:=(yH 0 a.length).filter λk=>(rowAt a k).isSome
noncomputable def B5:List RW:=[↑(0,[]),↑(0,[]),↑(0,[]),↑(0,[]),↑(1,[0,1]),↑(1,[0,2]),↑(1,[0,3]),↑(1,[1,2]),↑(1,[1,3]),↑(1,[2,3]),↑(2,[4,5,7]),↑(2,[4,6,8]),↑(2,[5,6,9]),↑(2,[7,8,9]),↑(3,[10,11,12,13])]
def Hi:Wf (Bg×Unit) Int (Bg×Unit):=λp a _=>∀r,0<=r->r<=12->a r (#[],())
def KP:Wf (List Int×List Int×Unit) (OL Int) (WL.Un×WL.Un×Unit):=λp a _=>(p.1.length<=1000/\p.2.1.length<=1000/\(p.1.filter λk=>!decide (k∈p.2.1)).length+(p.2.1.filter λk=>!decide (k∈p.1)).length<64)/\a #[jn p.1 p.2.1] (#[],#[],())
def Q4:Wf (List RW×Unit) (OL Int) (WL.Un×Unit):=λp a _=>p.1.length<1000/\a #[CY p.1] (#[],())
def Q5:Wf (Bg×List Int×Unit) (OL Int) (Bg×WL.Un×Unit):=λp a _=>p.2.1.length<60/\∀l,xR l->(∀x∈l,x∈p.2.1)->a #[l] (#[],#[],())
def Q6:Wf (List RW×List Int×Unit) (OL Int) (WL.Un×WL.Un×Unit):=λp a _=>Vr p.1/\(∀c∈p.2.1,(rowAt p.1 c).isSome=true)/\a #[wl (eb p.1) p.2.1] (#[],#[],())
def Hj:Wf (Int×Unit) Bool (WL.Un×Unit):=λp a _=>a true (#[],())
def Q7:Wf (List Int×Unit) Bool (WL.Un×Unit):=λp a _=>a true (#[],())
def KQ:Wf (List Int×List Int×Unit) Bool (WL.Un×WL.Un×Unit):=λp a _=>a (decide<|p.1=p.2.1) (#[],#[],())
def MF:Wf (Int×Unit) (OL RW) (WL.Un×Unit):=λp a _=>0<=p.1/\a #[B5.take p.1.toNat] (#[],())
def AE:Wf (OL RW×OL 85×Int×Bg×Unit) (OL Int) (OL RW×OL 85×WL.Un×Bg×Unit):=λp a _ =>
 Vr p.1.l/\p.1.l.length<=34/\p.2.1.l.length<=100/\(∀q∈p.2.1.l,Lp p.1.l q)/\0<=p.2.2.1/\p.2.2.1<=12 /\
 ∀e q,Vr (p.1.l++[↑(p.2.2.1,e)])->(∀u∈p.2.1.l++q,Lp (p.1.l++[↑(p.2.2.1,e)]) u)->q.length<=1->a #[e] (p.1,#[p.2.1.l++q],#[],#[],())
def Q8:Wf (Bg×Int×Unit) (OL RW) (Bg×WL.Un×Unit):=λp b _=>(0<=p.2.1/\p.2.1<=20)/\∀a,Vr a->a.length<=35->b #[a] (#[],#[],())
structure xW(x:B0)(rows:List RW):Prop where
 up:x.up=rows.length
 rk:∀k,lk x.rk k=(rowAt rows k).map (·.1)
 bd:∀k,lk x.bd k=(rowAt rows k).map (·.2)
 ks:x.rk.map (·.1)=CY rows
 lb:x.bd.length<=rows.length
def Q9 :B0×List RW×Unit->(B0->WL.Un×WL.Un×Unit->Prop)->(gH->WL.Un×WL.Un×Unit->Prop)->Prop:=λp a _=>p.1=#[[],[],0,[],[]]/\Vr p.2.1/\∀x:B0,xW x p.2.1->x.ht=[]->x.th=[]->a x (#[],#[],())
def Hk:Wf (Bool×Bool×Unit) Bool (WL.Un×WL.Un×Unit):=λp a _=>a (decide<|p.1=p.2.1) (#[],#[],())
def B2 :B0×List RW×Unit->(Bool->B0×WL.Un×Unit->Prop)->(gH->B0×WL.Un×Unit->Prop)->Prop:=λp a _=>xW p.1 p.2.1/\Vr p.2.1/\a true 57
def xf{b:Type}{l:List b}{i:Int}(c:0<=i)(d:i<(l.length:Int)):∃x,EY l i=↑x/\l[i.toNat]?=↑x/\x∈l:=by
 have a:i.toNat<l.length:=by lia
 have e:l[i.toNat]?=↑l[i.toNat]:=jo a;have:=LP e;rw[show ((i.toNat:Nat):Int)=i by lia]at this;exact#[_,this,e,uC a]
def DA{n k:Int}(h:k∈yH 0 n):0<=k/\k<n:=by
 unfold yH at h;obtain⟨i,a,e⟩:=List.mem_map.mp h;have:=List.mem_range.mp a
 lia
def vc{k:Int}(h:rowAt rows k=↑y):0<=k/\k<(rows.length:Int)/\rows[k.toNat]?=↑(some y)/\EY rows k=↑(some y):=by
 unfold rowAt at h;by_cases a:0<=k
 ·rw[gI a]at h
  cases e:rows[k.toNat]? with
  |none=>rw[e]at h;cases h
  |some z =>
   rw[e]at h;have h:z=↑y:=h;subst h;have f:=(List.getElem?_eq_some_iff.mp e).1;have b:k<(rows.length:Int):=by omega
   obtain⟨x,d,c,_⟩:=xf a b;rw[e]at c;cases c;exact#[a,b,rfl,d]
 ·rw[cr a]at h;cases h
def EG{k:Int}(a:0<=k)(e:rows[k.toNat]?=↑z):rowAt rows k=z:=by unfold rowAt;rw[gI a,e];rfl
def Vr.Xl(v:Vr rows){k:Int}(h:rowAt rows k=↑y):xR y.2/\∀x∈y.2,x∈yH 0 35:=by obtain⟨_,_,b,c,_⟩:=v.ok k y.1 y.2 h;refine#[b,λx a=>?_];obtain⟨_,f,d⟩:=c x a;obtain⟨e,g,_⟩:=vc d;exact AD e<|v.sm k y.1 y.2 h x a
def yC{k:Int}(h:rowAt rows k=↑y):eb rows k=y.2:=by unfold eb;rw[h];rfl
def Xm(a:List b){n:Int}(h:0<=n):C8 a none ↑n=a.take n.toNat:=by unfold C8;rw[show ↑n=some ((n.toNat:Nat):Int) by rw[show ((n.toNat:Nat):Int)=n by lia],HT.F8,HT.DJ];simp
def wv{n:Int}(a:0<n)(b:n<1073741824)(h:∀r,0<=r->r<n->c r (#[],#[],())):xV (g,n,()) c d:=#[a,b,h]
def vN:rowAt (rows++[z]) (rows.length:Int)=z:=by refine EG q0a ?_;rw[lq,jJ<|gK _,qx];rfl
def v0{a:List RW}{k:Int}(h:k≠(a.length:Int)):rowAt (a++[z]) k=rowAt a k:=by
 unfold rowAt;by_cases b:0<=k
 ·rw[gI b,gI b];by_cases c:k.toNat<a.length
  ·rw[lN c]
  ·rw[ki (by rw[gY,hZ];lia),ki q0a]
 ·rw[cr b,cr b]
def Hl{a:List RW}{k:Int}(h:k≠(a.length:Int)):eb (a++[z]) k=eb a k:=by unfold eb;rw[v0 h]
def xQ{k:Int}(h:rowAt rows k=↑y):k≠(rows.length:Int):=λz=>by
 have:=(vc h).2.1
 lia
def Hm(v:Vr rows)(p:rows.length<=35)(m:∀r e,z=↑(r,e)->0<=r/\r<=12/\xR e/\(∀c∈e,∃g,rowAt rows c=↑(r-1,g))/\wl (eb rows) e=[]):Vr (rows++[z]):=by
 refine#[λk r e h=>?_,by rw[gY,hZ];lia,λk r e h c n=>?_]
 rotate_left
 ·by_cases q:k=(rows.length:Int)
  ·rw[q,vN]at h;obtain⟨g,i⟩:=(m r e h).2.2.2.1 c n;have:=(vc i).2.1
   lia
  ·rw[v0 q]at h;exact v.sm k r e h c n
 have j:∀{k r e},0<=r/\r<=12/\xR e/\(∀c∈e,c<k/\∃g,rowAt rows c=↑(r-1,g))/\wl (eb rows) e=[]->0<=r/\r<=12/\xR e/\(∀c∈e,c<k/\∃g,rowAt (rows++[z]) c=↑(r-1,g))/\wl (eb<|rows++[z]) e=[]:=λ{k r e} ⟨a,b,c,d,f⟩=>by
  refine#[a,b,c,λx l=>?_,?_]
  ·obtain⟨o,g,i⟩:=d x l;exact#[o,g,by rw[v0<|xQ i];exact i]
  ·rw[<- f];refine xm λx l=>?_;obtain⟨_,g,i⟩:=d x l;exact Hl<|xQ i
 by_cases q:k=(rows.length:Int)
 ·rw[q,vN]at h;obtain⟨a,b,c,d,f⟩:=m r e h;refine j #[a,b,c,λx l=>?_,f];obtain⟨g,i⟩:=d x l;exact#[by have:=(vc i).2.1;lia,g,i]
 ·rw[v0 q]at h;exact j<|v.ok k r e h
def EH(h:Lp rows u):Lp (rows++[z]) u:=by
 obtain⟨a,b,c⟩:=h;refine#[a,λx d=>?_,?_]
 ·obtain⟨e,q⟩:=b x d;exact#[e,by rw[v0<|xQ q];exact q]
 ·rw[<- c];refine xm λx d=>?_;obtain⟨e,q⟩:=b x d;exact Hl<|xQ q
def Rc{r:Int}:Lp (rows++[↑(r,[])]) (r,[(rows.length:Int)]):=by
 refine#[jT _ _,λx a=>#[[],?_],?_]
 ·rw[List.mem_singleton.mp a,vN]
 ·show xr [] (eb (rows++[↑(r,[])]) (rows.length:Int))=[];rw[yC (y:=(r,[])) vN];rfl
def Ur(h:xR e):xr e e=[]:=Gy (zW h) il λk=>by rw[A9<|vm h];by_cases q:k∈e<;>simp[q]
def NZ{c:Int}:wl f (l++[c])=xr (wl f l) (f c):=by unfold wl Og;rw[jV,List.foldl_append];rfl
def N0{r:Int}(v:Vr rows)(p:xR l)(h:∀c∈l,∃e,rowAt rows c=↑(r,e)) :
  (∀c∈wl (eb rows) l,∃n,rowAt rows c=↑(r-1,n))/\wl (eb rows) (wl (eb rows) l)=[]/\Lp (rows++[↑(r,wl (eb rows) l)]) (r,l++[(rows.length:Int)]):=by
 have m:∀c∈l,xR (eb rows c)/\(∀d∈eb rows c,∃n,rowAt rows d=↑(r-1,n))/\wl (eb rows) (eb rows c)=[]:=λc i=>by obtain⟨e,j⟩:=h c i;obtain⟨_,_,a,b,f⟩:=v.ok c r e j;rw[yC j];exact#[a,λd k=>(b d k).2,f]
 have s:∀{d q},rowAt rows d=↑q->(eb rows d).Nodup:=λ{d q} k=>by rw[yC k];exact vm (v.Xl k).1
 refine#[λc i=>?_,NE λc i=>#[(m c i).1,λd k=>?_,(m c i).2.2],?_,λx o=>?_,?_]
 ·obtain⟨d,k,o⟩:=IH (λc i=>vm (m c i).1) i;exact(m d k).2.1 c o
 ·obtain⟨n,q⟩:=(m c i).2.1 d k;exact s q
 ·refine List.pairwise_append.mpr #[p,jT _ _,λa t b u=>?_];obtain⟨e,j⟩:=h a t;rw[List.mem_singleton.mp u];exact(vc j).2.1
 ·rcases List.mem_append.mp o with z|z
  ·obtain⟨e,j⟩:=h x z;exact#[e,by rw[v0<|xQ j];exact j]
  ·rw[List.mem_singleton.mp z];exact#[_,vN]
 ·show wl _ (l++[(rows.length:Int)])=[];rw[NZ,yC (y:=(r,wl (eb rows) l)) vN,xm (g:=eb rows) λc i=>?_]
  ·exact Ur<|yR _ _
  ·obtain⟨e,j⟩:=h c i;exact Hl<|xQ j
def Lp.sub{a:List RW}(c:a.length<=35)(h:Lp a u):∀x∈u.2,x∈yH 0 35:=λx b=>by obtain⟨e,q⟩:=h.2.1 x b;have:=vc q;exact AD q0a q0a
def zp{k:Int}:k∈CY rows↔(rowAt rows k).isSome=true:=by unfold CY;rw[jl];refine#[λh=>h.2,λh=>#[?_,h]];obtain⟨y,a⟩:=Option.isSome_iff_exists.mp h;have:=vc a;exact AD this.1 this.2.1
def AF(a:List RW):(CY a).length<=a.length:=by
 have:=iu (λk=>(rowAt a k).isSome)<|yH 0 a.length;rw[wJ]at this;unfold CY
 lia
def MG(c:List RW):xR (CY c):=by
 refine jK _ ?_;unfold yH;rw[List.pairwise_map];refine oQ ?_<|sC;intro a b h
 lia
def Re(n:Nat):yH 0 ((n+1:Nat):Int)=yH 0 (n:Int)++[(n:Int)]:=by unfold yH;rw[show (((n+1:Nat):Int)-0).toNat=n+1 by lia,show ((n:Int)-0).toNat=n by lia,List.range_succ,jV];simp
def Us:CY (rows++[z])=CY rows++if z.isSome=true then [(rows.length:Int)] else []:=by
 unfold CY;rw[gY,hZ,Re,List.filter_append];congr 1
 ·refine n8 λk a=>?_;rw[v0 (by have:=DA a;lia)]
 ·rw[jm,vN];rfl
def Rf:CY (rows++[↑y])=CY rows++[(rows.length:Int)]:=Us
def FW{a:List RW}{k:Int}(h:(a.length:Int)<=k):rowAt a k=none:=by
 cases e:rowAt a k with
 |none=>rfl
 |some y=>have:=(vc e).2.1;omega
def CA{a:List RW}{j k:Int}(c:0<=j):rowAt (a.set j.toNat none) k=if k=j then none else rowAt a k:=by
 by_cases q:k=j
 ·rw[gI q,q];unfold rowAt;rw[gI c];by_cases d:j.toNat<a.length
  ·rw[oG d];rfl
  ·rw[ki<|by rw[lZ];lia];rfl
 ·rw[cr q];unfold rowAt;by_cases b:0<=k
  ·rw[gI b,gI b,mS q0a]
  ·rw[cr b,cr b]
def Rh{a:List RW}{j:Int}(b:0<=j):CY (a.set j.toNat none)=(CY a).filter λk=>!decide (k=j):=by unfold CY;rw[lZ,List.filter_filter];refine n8 λk _=>?_;rw[CA b];by_cases q:k=j<;>simp[q]
section
variable{x:B0}{rows:List RW}
def xW.lr(c:xW x rows):x.rk.length<=rows.length:=by have:=congrArg nW c.ks;rw[gN]at this;rw[this];exact AF rows
def xW.Zx(c:xW x rows)(v:Vr rows):QE x:=by
 have l:=v.ln;have g:=c.lr;have i:=c.lb;refine#[λk h=>?_,λk b h=>?_,by rw[c.ks];exact(MG rows).imp Int.le_of_lt,q0a,q0a]
 ·rw[c.rk,iH]at h;rw[c.bd,iH];exact h
 ·rw[c.bd]at h
  cases e:rowAt rows k with
  |none=>rw[e]at h;cases h
  |some y =>
   rw[e]at h;cases h;obtain⟨_,_,a,b,_⟩:=v.ok k y.1 y.2 e;refine#[a,λd f=>?_];obtain⟨j,q⟩:=(b d f).2;have:=vc q;exact#[this.1,by have:=v.sm k y.1 y.2 e d f;lia]
def xW.yk(c:xW x rows)(k:Int):yk x k=eb rows k:=by unfold K7.yk eb;rw[c.bd]
def xW.put(c:xW x rows){r:Int}:xW ({ x with rk:=pk x.rk x.up r,bd:=pk x.bd x.up e,up:=x.up+1}:B0) (rows++[↑(r,e)]):=by
 have n:rowAt rows x.up=none:=FW (by rw[c.up];exact oh _);have a:lk x.rk x.up=none:=by rw[c.rk,n];rfl
 have b:lk x.bd x.up=none:=by rw[c.bd,n];rfl
 have d:=c.lr;have f:=c.lb;refine#[?_,λk=>?_,λk=>?_,?_,?_]
 ·show x.up+1=_;rw[c.up,gY,hZ]
  lia
 ·show lk (pk x.rk x.up r) k=_;rw[zn a,KG a];by_cases q:k=x.up
  ·rw[gI q,q,c.up,vN];rfl
  ·rw[cr q,v0 (by rw[<- c.up];exact q),c.rk]
 ·show lk (pk x.bd x.up e) k=_;rw[zn b,KG b];by_cases q:k=x.up
  ·rw[gI q,q,c.up,vN];rfl
  ·rw[cr q,v0 (by rw[<- c.up];exact q),c.bd]
 ·show (pk x.rk x.up r).map (·.1)=_;rw[zn a,jV,c.ks,Rf,<- c.up];rfl
 ·show (pk x.bd x.up e).length<=_;rw[zn b,gY,gY,hZ,hZ]
  lia
def xW.take(c:xW x rows){j:Int}(a:0<=j):xW ({ x with rk:=dk x.rk j,bd:=dk x.bd j}:B0) (rows.set j.toNat none):=by
 have d:=c.lr;have b:=c.lb;refine#[by rw[lZ];exact c.up,λk=>?_,λk=>?_,?_,?_]
 ·show lk (dk x.rk j) k=_;rw[BY,CA a,c.rk];split<;>rfl
 ·show lk (dk x.bd j) k=_;rw[BY,CA a,c.bd];split<;>rfl
 ·show (dk x.rk j).map (·.1)=_;rw[Rh a,<- c.ks];unfold dk;rw[qT];congr 1;refine n8 λe _=>?_;by_cases q:e.1=j<;>simp[q]
 ·rw[lZ];exact iV (iu _ _) b
def xW.wU(c:xW x rows)(h:∀k∈row,(rowAt rows k).isSome=true):wU x row=true:=List.all_eq_true.mpr λk a=>by rw[c.rk,iH];exact h k a
def Ri{r:Int}(c:xW x rows)(v:Vr rows)(l:0<=r)(m:r<=12)(i:xR e)(g:∀d∈e,∃b,rowAt rows d=↑(r-1,b))(j:wl (eb rows) e=[])
 (k:∀a:B0,xW a (rows++[↑(r,e)])->a.ht=x.ht->a.th=x.th->h x.up (a,#[],#[],())):IY (x,r,e,()) h o:=by
  have n:rowAt rows x.up=none:=FW (by rw[c.up];exact oh _)
  refine#[c.Zx v,(by show lk x.bd x.up=none;rw[c.bd,n];rfl),?_]
  show if r<0\/12<r then _ else if asc e=true then (if K7.wU x e=true then (if Ud x e (r-1)=true then (if Og (e.map<|K7.yk x)=[] then h x.up _ else _) else _) else _) else _
  rw[cr q0a,gI<|(AB e).mpr i,gI (c.wU λd f=>by obtain⟨b,q⟩:=g d f;rw[q];rfl),gI,gI]
  · exact k _ c.put rfl rfl
  · rw[lU λd _ => c.yk d]
    exact j
  · refine List.all_eq_true.mpr λd f => decide_eq_true ?_
    obtain⟨b,q⟩:=g d f
    rw[c.rk,q]
    rfl
def MH(c:xW x rows){j h:Int}:h∈Xf x j↔(rowAt rows h).isSome=true/\j∈eb rows h:=by
 unfold Xf;rw[jl,iF,c.yk];constructor
 ·rintro⟨a,b⟩;have:=xU a;rw[c.rk,iH]at this;exact#[this,b]
 ·rintro⟨a,b⟩;exact#[Ac (by rw[c.rk,iH];exact a),b]
def Ut(c:xW x rows){j:Int}:Xf x j=[]↔∀h,j∉eb rows h:=by
 rw[List.eq_nil_iff_forall_not_mem];constructor
 ·intro z h a;refine z h ((MH c).mpr #[?_,a])
  cases e:rowAt rows h with
  |none=>unfold eb at a;rw[e]at a;cases a
  |some y=>rfl
 ·intro z h a;exact z h ((MH c).mp a).2
def Uu{j:Int}(c:xW x rows)(v:Vr rows)(b:(rowAt rows j).isSome=true)(e:∀h,j∉eb rows h)(f:xP x j=false)
 (k:∀a:B0,xW a (rows.set j.toNat none)->a.ht=x.ht->a.th=x.th->d () (a,#[],())):Hh (x,j,()) d i:=by
  refine#[f,c.Zx v,?_]
  show if (lk x.rk j).isSome=true then (if Xf x j=[] then d () _ else _) else _
  rw[gI (by rw[c.rk,iH];exact b),gI<|(Ut c).mpr e]
  obtain⟨y,g⟩:=Option.isSome_iff_exists.mp b
  exact k _ (c.take (vc g).1) rfl rfl
end
def xy{a:List RW}{n:Nat}{j:Int}:rowAt (a.take n) j=if j<(n:Int) then rowAt a j else none:=by
 unfold rowAt;by_cases b:0<=j
 ·rw[gI b,gI b,tW];by_cases c:j<(n:Int)
  ·rw[gI c,gI q0d]
  ·rw[cr c,cr q0d];rfl
 ·rw[cr b,cr b];split<;>rfl
def Uv(v:Vr rows)(n:Nat):Vr (rows.take n):=by
 refine#[λk r e h=>?_,iV (List.length_take_le' _ _) v.ln,λk r e h=>?_]
 rotate_left
 ·rw[xy]at h;split at h
  ·exact v.sm k r e h
  ·cases h
 rw[xy]at h;by_cases q:k<(n:Int)
 ·rw[gI q]at h;obtain⟨a,b,c,d,f⟩:=v.ok k r e h;refine#[a,b,c,λx g=>#[(d x g).1,?_],?_]
  ·obtain⟨l,i,j⟩:=d x g;exact#[i,by rw[xy,gI q0a];exact j]
  ·rw[<- f];refine xm λx g=>?_;have:=(d x g).1;unfold eb;rw[xy,gI q0a]
 ·rw[cr q]at h;cases h
noncomputable def Zy(a:List RW)(u:Int×List Int):Bool:=asc u.2&&u.2.all (λc=>decide ((rowAt a c).map (·.1)=↑u.1))&&decide (wl (eb a) u.2=[])
def MI{c r:Int}(h:(rowAt rows c).map (·.1)=↑r):∃e,rowAt rows c=↑(r,e):=by
 cases e:rowAt rows c with
 |none=>rw[e]at h;cases h
 |some y=>rw[e]at h;cases h;exact#[y.2,rfl]
def Rj(h:Zy rows u=true):Lp rows u:=by unfold Zy at h;rw[iw,iw]at h;exact#[(AB _).mp h.1.1,λc a=>MI<|kJ<|List.all_eq_true.mp h.1.2 c a,kJ h.2]
noncomputable def VrB(rows:List RW):Bool:=decide (rows.length<=27)&&(hW rows.length).all λk=>match rowAt rows (k:Int) with
 |none=>true
 |some (r,e)=>decide (0<=r)&&decide (r<=12)&&asc e&&e.all (λc=>decide (c<(k:Int))&&decide ((rowAt rows c).map (·.1)=↑(r-1)))&&decide (wl (eb rows) e=[])
def Rl(h:VrB rows=true):Vr rows:=by
 unfold VrB at h;rw[iw]at h;have f:=kJ h.1
 suffices g:∀k r e,rowAt rows k=↑(r,e)->0<=r/\r<=12/\xR e/\(∀c∈e,c<k/\∃d,rowAt rows c=↑(r-1,d))/\wl (eb rows) e=[] from#[g,q0d,λk r e a c b=>by
  have:=((g k r e a).2.2.2.1 c b).1;have:=vc a
  omega]
 intro k r e a;have q:=vc a;have z:=List.all_eq_true.mp h.2 k.toNat<|List.mem_range.mpr q0d;rw[show ((k.toNat:Nat):Int)=k by omega,a]at z;simp only[iw,iF,oy]at z;exact⟨z.1.1.1.1,z.1.1.1.2,(AB _).mp z.1.1.2,λc b=>#[(z.1.2 c b).1,MI (z.1.2 c b).2],z.2⟩
noncomputable def X2(n:Nat):List 85:=(yH 0 n).filterMap λk=>if decide (k<4)=true then some (0,[k]) else none
noncomputable def lp1:List 85:=[(1,[4,5,7]),(1,[4,6,8]),(1,[5,6,9])]
noncomputable def chk(m:Nat):Bool:=VrB (B5.take m)&&(X2 (B5.take m).length).all (Zy<|B5.take m)&&decide ((X2 (B5.take m).length).length<=4)&&decide ((B5.take m).length<=15)&&(decide ((B5.take m).length<=9)||lp1.all (Zy<|B5.take m))
def Uw:(hW 16).all chk=true:=by decide +kernel
def Rm(c:xR a)(d:xR b)(f:∀k∈a,k∈yH 0 35)(g:∀k∈b,k∈yH 0 35):a.length<=1000/\b.length<=1000/\(a.filter λk=>!decide (k∈b)).length+(b.filter λk=>!decide (k∈a)).length<64:=by
 have i:=wq c f;have j:=wq d g;have h:=SX.yM ((a.filter λk=>!decide (k∈b))++b.filter λk=>!decide (k∈a)) (yH 0 35) (List.nodup_append.mpr #[(vm c).filter _,(vm d).filter _,λx l y m e=>?_]) λk n=>?_
 ·rw[gY]at h;rw[wJ]at i j h
  lia
 ·have q:=(List.mem_filter.mp l).2;rw[e]at q;simp[(List.mem_filter.mp m).1]at q
 ·rcases List.mem_append.mp n with z|z
  ·exact f k (List.mem_filter.mp z).1
  ·exact g k (List.mem_filter.mp z).1
def Ux{a b:List Int}(h:a.length+b.length<64):a.length<=1000/\b.length<=1000/\(a.filter λk=>!decide (k∈b)).length+(b.filter λk=>!decide (k∈a)).length<64:=by
 have c:=iu (λk=>!decide (k∈b)) a;have d:=iu (λk=>!decide (k∈a)) b
 lia
def MJ(e:a=b)(k:c true (#[],#[],())):KQ (a,b,()) c d:=by show c (decide<|a=b) _;rw[decide_eq_true e];exact k
def Rn{a b:Bool}(e:a=b)(k:c true (#[],#[],())):Hk (a,b,()) c d:=by show c (decide<|a=b) _;rw[decide_eq_true e];exact k
def xW.Zz(c:xW x rows)(k:Int):(lk x.rk k).isSome=decide (k∈CY rows):=by
 rw[c.rk,iH];by_cases q:(rowAt rows k).isSome=true
 ·rw[q,decide_eq_true<|zp.mpr q]
 ·rw[ij<|λz=>q<|zp.mp z];simpa using q
def xW.Ue(c:xW x rows){k:Int}(h:rowAt rows k=↑y):Ue x k=y.1:=by unfold K7.Ue;rw[c.rk,h];rfl
def MK{k:Int}{y:Int×List Int}{a:Int->B0×WL.Un×Unit->Prop}{b:gH->B0×WL.Un×Unit->Prop}(c:xW x rows)(h:rowAt rows k=↑y)(g:a y.1 (x,#[],())):BS (x,k,()) a b:=by show if (lk x.rk k).isSome=true then a (K7.Ue x k) _ else _;rw[gI (by rw[c.rk,h];rfl),c.Ue h];exact g
def N3{k:Int}{y:Int×List Int}{a:OL Int->B0×WL.Un×Unit->Prop}{b:gH->B0×WL.Un×Unit->Prop}(c:xW x rows)(v:Vr rows)(h:rowAt rows k=↑y)(g:a #[y.2] (x,#[],())):Ab (x,k,()) a b:=by refine#[c.Zx v,?_];show if (lk x.rk k).isSome=true then a #[K7.yk x k] _ else _;rw[gI (by rw[c.rk,h];rfl),c.yk,yC h];exact g
def EI{n:Int}(k:b true (#[],())):Hj (n,()) b c:=k
/-! ### a -/
def ZA(v:Vr rows)(n:rows.length<=59):Vr (rows++[↑(0,[])]):=by
 refine#[λk r e h=>?_,by rw[gY,hZ];lia,λk r e h c j=>?_]
 ·by_cases q:k=(rows.length:Int)
  ·rw[q,vN]at h;cases h;exact#[oh 0,q0q,il,(λ_ z=>by cases z),rfl]
  ·rw[v0 q]at h;obtain⟨a,b,c,d,f⟩:=v.ok k r e h;refine#[a,b,c,λx i=>?_,?_]
   ·obtain⟨m,l,g⟩:=d x i;exact#[m,l,by rw[v0<|xQ g];exact g]
   ·rw[<- f];refine xm λx i=>?_;obtain⟨_,l,g⟩:=d x i;exact Hl<|xQ g
 ·by_cases q:k=(rows.length:Int)
  ·rw[q,vN]at h;cases h;cases j
  ·rw[v0 q]at h;exact v.sm k r e h c j
def Uy:xW (#[[],[],0,[],[]]:B0) []:=by
 have n:∀k,rowAt [] k=none:=λk=>by unfold rowAt;split<;>rfl
 exact#[rfl,(λk=>by rw[n];rfl),(λk=>by rw[n];rfl),rfl,gK _]
structure Arr(x:B0)(a:List (Int×Int)):Prop where
 ok:ED x
 nt:(x.th.map (·.1)).Nodup
 pm:(a.map (·.1)).Perm (wc x)
 hd:∀e∈a,wO x e.1=e.2
def Ro :B0×List RW×Bg×Int×Unit->(OL (Int×Int)->B0×WL.Un×Bg×WL.Un×Unit->Prop)->(gH->B0×WL.Un×Bg×WL.Un×Unit->Prop)->Prop:=λp b _ =>
 xW p.1 p.2.1/\Vr p.2.1/\p.2.1.length<=35/\p.1.ht=[]/\p.1.th=[]/\(0<=p.2.2.2.1/\p.2.2.2.1<=1000)/\∀x a,xW x p.2.1->Arr x a->(a.map (·.1)).Pairwise (·<=·)->b #[a] (x,#[],#[],#[],())
def ML :Bg×Int×Unit->(T3 (B0) (OL RW) (OL<|Int×Int)->Bg×WL.Un×Unit->Prop)->(gH->Bg×WL.Un×Unit->Prop)->Prop:=λp c _ =>
 (0<=p.2.1/\p.2.1<=20)/\∀x b a,xW x b->Vr b->b.length<=35->Arr x a->(a.map (·.1)).Pairwise (·<=·)->c #[x,#[b],#[a]] (#[],#[],())
def Z8:Wf (List (Int×Int)×Unit) (OL Int) (WL.Un×Unit):=λp a _=>p.1.length<64/\a #[CM (p.1.map (·.2))] (#[],())
noncomputable def lns(b:List RW)(a:List (Int×Int)):List Int:=(CY b).filter λk=>!decide (k∈a.map (·.1)++CM (a.map (·.2)))
def Jg:Wf (List (Int×Int)×Unit) (OL Int) (WL.Un×Unit):=λp a _=>p.1.length<64/\a #[p.1.map (·.1)] (#[],())
def a1u:Wf (List RW×List (Int×Int)×Unit) (OL Int) (WL.Un×WL.Un×Unit):=λp a _=>p.1.length<1000/\p.2.1.length<64/\a #[lns p.1 p.2.1] (#[],#[],())
def w_sum:Wf (List Int×Unit) Bool (WL.Un×Unit):=λp a _=>xR p.1/\p.1.length<=1000/\a true (#[],())
def ZB:Wf (List Int×List Int×Unit) (OL Int) (WL.Un×WL.Un×Unit):=λp a _=>p.1.length<=1000/\a #[p.1.filter λk=>decide<|k∈p.2.1] (#[],#[],())
def a1v(h:xR l){k:Int}(p:1<=k)(c:k<l.length):∃a b,EY l (k-1)=↑a/\EY l k=↑b/\a<b:=by obtain⟨a,d,e,_⟩:=xf (l:=l) (i:=k-1) q0a q0a;obtain⟨b,f,g,_⟩:=xf (l:=l) (i:=k) q0a c;obtain⟨j,m⟩:=List.getElem?_eq_some_iff.mp e;obtain⟨n,o⟩:=List.getElem?_eq_some_iff.mp g;refine#[a,b,d,f,?_];rw[<- m,<- o];exact(List.pairwise_iff_getElem.mp h) _ _ j n q0a
def Xn(k:a true (#[],())):Q7 (l,()) a b:=k
def ZC{n k:Int}(h:k∈yH 1 n):1<=k/\k<n:=by unfold yH at h;obtain⟨i,a,e⟩:=List.mem_map.mp h;have:=List.mem_range.mp a;omega
def MM:Wf (List (Int×Int)×List (Int×Int)×Unit) Bool (WL.Un×WL.Un×Unit):=λp a _=>p.1=p.2.1/\p.1.length<64/\a true (#[],#[],())
def Rp :B0×List RW×List (Int×Int)×Unit->(Bool->B0×WL.Un×WL.Un×Unit->Prop)->(gH->B0×WL.Un×WL.Un×Unit->Prop)->Prop:=λp Kn _ =>
 (xW p.1 p.2.1/\Vr p.2.1/\p.2.1.length<=35/\Arr p.1 p.2.2.1/\(p.2.2.1.map (·.1)).Pairwise (·<=·))/\Kn true 65
def Arr.eq{x:B0}{a:List (Int×Int)}(A:Arr x a)(s:(a.map (·.1)).Pairwise (·<=·)):(CM<|wc x).map (λl=>(l,wO x l))=a:=by rw[yh ((wF _).trans A.pm.symm) (Aw _) s,j5];exact(lU λy hy=>by show (y.1,wO x y.1)=y;rw[A.hd y hy]).trans<|List.map_id _
def Xo{l:List (Int×Int)}(h:l.Pairwise (λx y=>SX.HM y x=false)):(l.map (·.1)).Pairwise (·<=·):=List.pairwise_map.mpr (h.imp λ{p q} z=>by rcases SX.Ev.mp z with z|z<;>omega)
def w_head:Wf (List (Int×Int)×Int×Unit) Int (WL.Un×WL.Un×Unit):=λp a _=>(∃e∈p.1,e.1=p.2.1)/\∀e∈p.1,e.1=p.2.1->a e.2 (#[],#[],())
def w_next:Wf (List RW×List (Int×Int)×Int×Unit) (OL Int) (WL.Un×WL.Un×WL.Un×Unit):=λp a _ =>
 ((∀e∈p.2.1,e.1=p.2.2.1->∃y,rowAt p.1 e.2=↑y)/\(∃e∈p.2.1,e.1=p.2.2.1)/\p.2.1.length<64)/\∀e∈p.2.1,e.1=p.2.2.1->(eb p.1 e.2).length<=1000/\a #[(eb p.1 e.2).filter λk=>decide (k≠p.2.2.1)&&decide (k∈p.2.1.map (·.1))] (#[],#[],#[],())
def EJ :List RW×List (Int×Int)×List Int×Unit->(Bool->WL.Un×WL.Un×WL.Un×Unit->Prop)->(gH->WL.Un×WL.Un×WL.Un×Unit->Prop)->Prop:=λp a _ =>
 (∃x:B0,xW x p.1/\Vr p.1/\p.1.length<=35/\Arr x p.2.1/\(p.2.1.map (·.1)).Pairwise (·<=·)/\Ord x p.2.2.1)/\a true (#[],#[],#[],())
def Rq{i:Nat}:C8 l (some<|(i:Int)+1) none=l.drop (i+1):=by
 unfold C8;rw[show (some<|(i:Int)+1)=some (((i+1:Nat):Int)) by rw[Int.natCast_succ],HT.F8,HT.DJ];rw[jc (by rw[kM];omega),Nat.min_def];split
 ·rfl
 ·rw[oK q0d,oK q0d]
def Ord.a1w(a:Ord x o){i:Nat}{t u:Int}(h:o[i]?=↑t)(m:u∈B7 x t (wO x t)):u∈o.drop (i+1):=by
 obtain⟨_,n,c⟩:=wR.mp m;obtain⟨j,d,e⟩:=List.mem_iff_getElem.mp<|a.pm.mem_iff.mpr c;obtain⟨f,b⟩:=List.getElem?_eq_some_iff.mp h;rcases qr i j with z|z|z
 ·exact List.mem_iff_getElem.mpr #[j-(i+1),by rw[kM];omega,by rw[List.getElem_drop];simp only[show i+1+(j-(i+1))=j by omega];exact e]
 ·subst z;exact g8 (e.symm.trans b) n
 ·have:=List.pairwise_iff_getElem.mp a.up j i d f z;rw[e,b]at this;exact g8 m this
def xj:∀{l:List b} {i:Nat},l[i]?=↑y->(y::l.eraseIdx i).Perm l
 | [],i,h=>by simp at h
 |a::l,0,h=>by
  have h:a=y:=by simpa using h
  rw[h];exact .refl _
 |a::l,i+1,h=>by rw[oo];exact(List.Perm.swap a y _).trans<|(xj<|by simpa using h).cons a
def DB{a:Type}{l:List (Int×a)}{k:Int}:(dk l k).map (·.1)=(l.map (·.1)).filter λj=>decide (j≠k):=by unfold dk;rw[qT];rfl
section
variable{x:B0}{rows:List RW}{a:List (Int×Int)}
def ED.ZD(b:ED x){l:Int}(n:l∈wc x):ED ({ x with ht:=dk x.ht l,th:=dk x.th (wO x l)}:B0):=by
 have o:∀{t:Int},t∈wc ({ x with ht:=dk x.ht l,th:=dk x.th (wO x l)}:B0)↔t∈wc x/\t≠l:=λ{t}=>by show t∈(dk x.ht l).map (·.1)↔_;rw[DB,jl,iF];exact Iff.rfl
 refine#[#[b.ok.kb,b.ok.bo,b.ok.ri,b.ok.lr,b.ok.lb],?_,?_,?_,λd f e=>?_,λd f e=>?_,λc h i=>?_,?_]
 ·show ((dk x.ht l).map (·.1)).Nodup;rw[DB];exact b.nd.filter _
 ·exact nK (iu _ _) b.len
 ·exact nK (iu _ _) b.Zv
 ·have e:lk (dk x.ht l) d=↑f:=e;rw[BY]at e;by_cases q:d=l
  ·rw[gI q]at e;cases e
  ·rw[cr q]at e;have g:=b.ht d f e;refine#[g.1,g.2.1,g.2.2.1,?_];show lk (dk x.th<|wO x l) f=some d;rw[BY,cr λz=>?_]
   ·exact g.2.2.2
   ·have:=(b.ht l _<|zo n).2.2.2;rw[<- z,g.2.2.2]at this;injection this with this;exact q this
 ·have e:lk (dk x.th<|wO x l) f=↑d:=e;rw[BY]at e;by_cases q:f=wO x l
  ·rw[gI q]at e;cases e
  ·rw[cr q]at e;have g:=b.th d f e;show lk (dk x.ht l) d=↑f;rw[BY,cr λz=>?_]
   ·exact g
   ·rw[z,zo n]at g;injection g with g;exact q g.symm
 ·have h:(lk (dk x.ht l) c).isSome=true:=h;have i:(lk (dk x.th<|wO x l) c).isSome=true:=i;rw[BY]at h i;refine b.one c ?_ ?_
  ·by_cases q:c=l
   ·rw[gI q]at h;cases h
   ·rw[cr q]at h;exact h
  ·by_cases q:c=wO x l
   ·rw[gI q]at i;cases i
   ·rw[cr q]at i;exact i
 ·obtain⟨r,p⟩:=b.acy;refine#[r,λk m t j=>?_];have m:=o.mp m
  have s:wO ({ x with ht:=dk x.ht l,th:=dk x.th (wO x l)}:B0) k=wO x k:=by unfold wO;show (lk (dk x.ht l) k).getD 0=_;rw[BY,cr m.2]
  rw[s]at j;have j:=wR.mp j;exact p k m.1 t<|wR.mpr #[j.1,j.2.1,(o.mp j.2.2).1]
def ED.ET(d:ED x){low high:Int}(w:(lk x.rk low).isSome=true)(y:(lk x.rk high).isSome=true)(f:low∈yk x high)(A:xP x low=false)(B:xP x high=false)(C:low≠high)(ac:XZ (ET x low high))(D:x.ht.length+1<64)(E:x.th.length+1<64):ED (ET x low high):=by
 have p:=Bool.or_eq_false_iff.mp A;have r:=Bool.or_eq_false_iff.mp B;have o:lk x.ht low=none:=by simpa using p.1
 have F:lk x.th low=none:=by simpa using p.2
 have G:lk x.ht high=none:=by simpa using r.1
 have s:lk x.th high=none:=by simpa using r.2
 have t:(K7.ET x low high).ht=x.ht++[(low,high)]:=zn o;have H:(K7.ET x low high).th=x.th++[(high,low)]:=zn s;have j:∀k,lk (K7.ET x low high).ht k=if k=low then some high else lk x.ht k:=λk=>x9;have l:∀k,lk (K7.ET x low high).th k=if k=high then some low else lk x.th k:=λk=>x9;refine#[#[d.ok.kb,d.ok.bo,d.ok.ri,d.ok.lr,d.ok.lb],?_,by rw[t];simpa using D,by rw[H];simpa using E,λm n e=>?_,λm n e=>?_,λc h i=>?_,ac]
 ·show ((K7.ET x low high).ht.map (·.1)).Nodup;rw[t,jV];refine List.nodup_append.mpr #[d.nd,q0o,λa u b f z=>?_];have f:b=low:=by simpa using f
  rw[z,f]at u;have:=xU u;rw[o]at this;cases this
 ·rw[j]at e;by_cases q:m=low
  ·rw[gI q]at e;injection e with e;subst e;subst q;exact#[w,y,f,by rw[l,gI rfl]]
  ·rw[cr q]at e;have g:=d.ht m n e;refine#[g.1,g.2.1,g.2.2.1,?_];rw[l,cr λz=>?_]
   ·exact g.2.2.2
   ·rw[z,s]at g;cases g.2.2.2
 ·rw[l]at e;by_cases q:n=high
  ·rw[gI q]at e;injection e with e;subst e;subst q;rw[j,gI rfl]
  ·rw[cr q]at e;have g:=d.th m n e;rw[j,cr λz=>?_]
   ·exact g
   ·rw[z,o]at g;cases g
 ·rw[j]at h;rw[l]at i;by_cases q:c=low
  ·rw[cr λz=>C<|q.symm.trans z,q,F]at i;cases i
  ·rw[cr q]at h;by_cases v:c=high
   ·rw[v,G]at h;cases h
   ·rw[cr v]at i;exact d.one c h i
def xW.same(c:xW x rows){y:B0}(b:y.rk=x.rk)(d:y.bd=x.bd)(e:y.up=x.up):xW y rows:=by obtain⟨f,g,h,i,j⟩:=c;exact#[e.trans f,by rw[b];exact g,by rw[d];exact h,by rw[b];exact i,by rw[d];exact j]
def Arr.mem(A:Arr x a)(h:e∈a):e.1∈wc x:=A.pm.mem_iff.mp<|List.mem_map.mpr #[e,h,rfl]
def Arr.pop(A:Arr x a){i:Nat}(h:a[i]?=↑y):Arr ({ x with ht:=dk x.ht y.1,th:=dk x.th (wO x y.1)}:B0) (a.eraseIdx i):=by
 have b:(y::a.eraseIdx i).Perm a:=xj h;have g:y∈a:=b.mem_iff.mp gM;have j:=A.mem g
 have d:(y.1::(a.eraseIdx i).map (·.1)).Perm (wc x):=by
  have:=(b.map (λe:Int×Int=>e.1)).trans A.pm
  rwa [h8]at this
 have c:=List.nodup_cons.mp<|d.nodup_iff.mpr A.ok.nd;refine⟨A.ok.ZD j,?_,?_,λe f=>?_⟩
 ·show ((dk x.th<|wO x y.1).map (·.1)).Nodup;rw[DB];exact A.nt.filter _
 ·show ((a.eraseIdx i).map (·.1)).Perm ((dk x.ht y.1).map (·.1));rw[DB];refine v9 c.2 (A.ok.nd.filter _) λk=>?_;rw[jl,iF];have:=d.mem_iff (a:=k);rw[ii]at this;constructor
  ·exact λz=>#[this.mp<|.inr z,λw=>c.1<|w▸z]
  ·exact λz=>(this.mpr z.1).elim (λw=>g8 w z.2) id
 ·have l:e∈a:=b.mem_iff.mp<|gQ _ f;have m:e.1≠y.1:=λz=>c.1<|z▸List.mem_map.mpr #[e,f,rfl];show (lk (dk x.ht y.1) e.1).getD 0=e.2;rw[BY,cr m];exact A.hd e l
def Arr.KR(A:Arr x a)(c:xW x rows)(v:rows.length<=35):x.ht.length<=35/\x.th.length<=35/\a.length<=35:=by
 have ln:=c.lr;have rn:(x.rk.map (·.1)).Nodup:=by rw[c.ks];exact vm<|MG rows
 have h1:(wc x).length<=(x.rk.map (·.1)).length:=KI A.ok.nd rn λk hk=>Ac (A.ok.ht k _<|zo hk).1
 have h2:(x.th.map (·.1)).length<=(x.rk.map (·.1)).length:=KI A.nt rn λk hk=>by obtain⟨l,e⟩:=Option.isSome_iff_exists.mp<|xU hk;exact Ac (A.ok.ht l k<|A.ok.th l k e).2.1
 have h3:=A.pm.length_eq;have e:(wc x).length=x.ht.length:=gN _;rw[gN]at h1 h2 h3;rw[gN]at h2
 lia
def Arr.add(A:Arr x a)(c:xW x rows)(v:rows.length<=35){low high:Int}(k:(lk x.rk low).isSome=true)(l:(lk x.rk high).isSome=true)(d:low∈yk x high)(f:xP x low=false)(g:xP x high=false)(m:low≠high)(ac:XZ (ET x low high)):Arr (ET x low high) (a++[(low,high)]):=by
 have q:=A.KR c v;have h:lk x.ht low=none:=by simpa using(Bool.or_eq_false_iff.mp f).1
 have i:lk x.th high=none:=by simpa using(Bool.or_eq_false_iff.mp g).2
 have n:(K7.ET x low high).ht=x.ht++[(low,high)]:=zn h;have o:(K7.ET x low high).th=x.th++[(high,low)]:=zn i;refine#[A.ok.ET k l d f g m ac q0a q0a,?_,?_,λe p=>?_]
 ·rw[o,jV];refine List.nodup_append.mpr #[A.nt,q0o,λa j b d z=>?_];have d:b=high:=by simpa using d
  rw[z,d]at j;have:=xU j;rw[i]at this;cases this
 ·show ((a++[(low,high)]).map (·.1)).Perm ((K7.ET x low high).ht.map (·.1));rw[n,jV,jV];exact A.pm.append_right _
 ·show (lk (pk x.ht low high) e.1).getD 0=e.2;rw[x9];rcases List.mem_append.mp p with z|z
  ·have:e.1≠low:=λw=>by have:=xU<|A.mem z;rw[w,h]at this;cases this
   rw[cr this];exact A.hd e z
  ·have z:e=(low,high):=by simpa using z
   rw[z,gI rfl];rfl
def Jh(v:Vr rows){k:Int}(d:rowAt rows k=↑y):y.2.length<=95:=by
 have b:=v.ok k y.1 y.2 d
 have:=wq (U:=CY rows) b.2.2.1 λc e=>by obtain⟨_,g,f⟩:=b.2.2.2.1 c e;exact zp.mpr (by rw[f];rfl)
 have h:=AF rows;have i:=v.ln
 lia
def Uz(i:QE x)(b:x.ht=[])(d:x.th=[]):Arr x []:=by
 have f:wc x=[]:=by unfold wc;rw[b];rfl
 refine#[#[i,by rw[f];exact ny,by rw[b];decide,by rw[d];decide,λl h e=>?_,λl h e=>?_,λc e=>?_,λ_=>0,λl g=>?_],by rw[d];exact ny,by rw[f];exact .refl _,λe j=>by cases j]
 ·rw[b]at e;cases e
 ·rw[d]at e;cases e
 ·rw[b]at e;cases e
 ·rw[f]at g;cases g
def Ji{i:Nat}(A:Arr x a)(c:xW x rows)(h:a[i]?=↑y)(k:∀v (b:B0),xW b rows->Arr b (a.eraseIdx i)->d v (b,#[],())):G4 (x,y.1,()) d g:=by have f:=A.mem<|jD h;have e:=zo f;refine#[A.ok,?_];show if (lk x.rk y.1).isSome=true then (if (lk x.ht y.1).isSome=true then d (wO x y.1) _ else _) else _;rw[gI (A.ok.ht _ _ e).1,gI<|by rw[e];rfl];exact k _ _ (c.same rfl rfl rfl)<|A.pop h
def Xp{low high:Int}(A:Arr x a)(c:xW x rows)(v:Vr rows)(l:rows.length<=35)(b:rowAt rows high=↑y)(f:low∈y.2)
 (g:∀D∈[XT,XR],d D (x,#[],#[],()))(k:∀e:B0,xW e rows->Arr e (a++[(low,high)])->m () (e,#[],#[],())):QQ (x,low,high,()) m d:=by
  have n:=v.ok high y.1 y.2 b
  obtain⟨o,u,p⟩:=n.2.2.2.1 low f
  have h:(lk x.rk low).isSome=true:=by rw[c.rk,p];rfl
  have i:(lk x.rk high).isSome=true:=by rw[c.rk,b];rfl
  have j:low∈K7.yk x high:=by rw[c.yk,yC b];exact f
  refine#[A.ok,?_]
  show if (lk x.rk low).isSome=true then (if (lk x.rk high).isSome=true then (if low∈K7.yk x high then (if xP x low=true\/xP x high=true then d XT _ else d XR _/\_) else _) else _) else _
  rw[gI h,gI i,gI j]
  by_cases t:xP x low=true\/xP x high=true
  · rw[gI t]; exact g XT q0o
  · rw[cr t]
    have r:xP x low=false:=by cases q:xP x low with|true=>exact g8 (.inl q) t|false=>rfl
    have s:xP x high=false:=by cases q:xP x high with|true=>exact g8 (.inr q) t|false=>rfl
    exact#[g XR q0o,λac=>k _ (c.same rfl rfl rfl)<|A.add c l h i j r s (Int.ne_of_lt o) ac]
end
section
variable{q:Cq}{XL:gH}
noncomputable abbrev KS:ic:=top 29
noncomputable abbrev KU:List Str:=["_law_bag_here"]
def UA:uT ["_law_bag_here"] KU (uK KS):=by walk_at "sc"
abbrev Xq(q:Cq)(k:Nat):=wW q "_law_rank" KU Hi k
def UB(F:Du q "_law_rank" KS f i)(a:wW q "_law_pull" ["_law_bag_here","_law_many"] xV 1):Gq q 2 f i KU Hi:=by
 refine' uV (wn (D':=Unit) (ms:=[0]) (j:=0) F UA rfl rfl λk A c s H E t =>
   (uY (vo (tw_cm zy (uX (vh a (vA 0 (uQ uP uN)))) uP)
   (uM<|uZ<|vh a<|vA 0<|uQ uP uN)
   vi)
   (uM (uZ (vd (wM (vE (vz (vg (uR uP (uR uP (uR uP (uR uP (uR uP (uR uP 97))))))))) (uX (vh a (vA 0 (uQ uP uN)))))))))) λp m u h=>?_
 walk_at "wl"
 have h:∀r,0<=r->r<=12->m r (#[],()):=h;refine wv q0q q0q λr v w=>?_
 try dsimp only
 by_cases q:r=11
 ·rw[gI<|decide_eq_true q];refine wv q0q q0q λs d b=>h s d ?_;have b:s<13:=b
  lia
 ·rw[cr<|by simpa using q];refine wv q0q q0q λs d b=>?_;refine A6 λn e=>?_;have b:s<8:=b;obtain⟨x,o,_,g⟩:=xf (l:=[(0:Int),0,1,1,1,2,2,3]) d (by simpa using b);refine e ?_;refine#[x,o,h x ?_ ?_]
  ·simp at g;lia
  ·simp at g;lia
noncomputable abbrev KW:ic:=top 30
noncomputable abbrev KY:List Str:=["_law_one","_law_other"]
def MN:uT ["_law_one","_law_other","_law_left"] KY (uK KW):=by walk_at "sc"
def Rr:(["_law_x","_law_other"]:List Str).Nodup:=by decide +kernel
def Rs:(["_law_x","_law_one"]:List Str).Nodup:=by decide +kernel
abbrev KZ(q:Cq)(k:Nat):=wW q "_law_join" KY KP k
def UC(F:Du q "_law_join" KW f l)(B:Bn q.mg):Gq q 2 f l KY KP:=by
 refine' uV (wn (D':=Unit) (ms:=[]) (j:=1) F MN rfl rfl λm A e s H E r =>
   (uY (Az (Ts:=["_law_x"]) (Fr:=["_law_other"]) (idx:=[1]) (k:=1) (mb:=[1]) (is:=[]) (cl:=[("_law_other",⇑s+1+1)]) 2 MN.nd rfl rfl rfl q0q rfl (vZ (ss 0)) VC rfl (wG rfl) (λa b C c d=>(vj 0 (uW Rr))) (λa b C c d=>(tws_one (tw_cmI D8 (ss 0) (vE (ss 1)) (by with_unfolding_all rfl)))) (λa b C c d=>(ss 0)))
   (uM (uZ (FJ rfl B.sorted (vE (vz (Co (wh 2) (vE (vz (w4 (Ts:=["_law_x"]) (Fr:=["_law_one"]) (idx:=[0]) (k:=1) (mb:=[1]) (is:=[]) (cl:=[("_law_one",⇑s+1)]) rfl (vZ (ss 1)) VC rfl (wG rfl) (λa b C c d=>(vj 0 (uW Rs))) (λa b C c d=>(tws_one (tw_cmI D8 (ss 0) (vE (ss 1)) (by with_unfolding_all rfl)))) (λa b C c d=>(ss 0))))))))))))) λp t u h=>?_
 walk_at "wl"
 refine A6 λn g=>?_;obtain⟨⟨v,w,x⟩,o⟩:=h;refine g ?_;refine#[vM q0d,v7 (q:=λk=>!decide (k∈p.2.1)) (λk _ K i=>i) ?_];refine#[vM (show p.2.1.length<=1000 by omega),v7 (q:=λk=>!decide (k∈p.1)) (λk _ K i=>i) ?_];have y:=iu (λk=>!decide (k∈p.2.1)) p.1;have z:=iu (λk=>!decide (k∈p.1)) p.2.1;refine#[vM ?_,?_,o]
 ·show (p.1.filter λk=>!decide (k∈p.2.1)).length+(p.2.1.filter λk=>!decide (k∈p.1)).length<=1000;omega
 ·rw[gY];show (p.1.filter λk=>!decide (k∈p.2.1)).length+(p.2.1.filter λk=>!decide (k∈p.1)).length<64;omega
noncomputable abbrev K3:ic:=top 31
noncomputable abbrev K4:List Str:=["_law_rows_here"]
def UD:uT ["_law_rows_here"] K4 (uK K3):=by walk_at "sc"
def Rt:(["_law_k","_law_rows_here"]:List Str).Nodup:=by decide +kernel
abbrev K5(q:Cq)(k:Nat):=wW q "_law_here" K4 Q4 k
def UE(F:Du q "_law_here" K3 f o)(B:Bn q.mg):Gq q 2 f o K4 Q4:=by
 refine' uV (wn (D':=Unit) (ms:=[]) (j:=0) F UD rfl rfl λr A c s H E D =>
   (uM (uZ (w4 (Ts:=["_law_k"]) (Fr:=["_law_rows_here"]) (idx:=[0]) (k:=1) (mb:=[1]) (is:=[]) (cl:=[("_law_rows_here",⇑s+1)]) rfl (wK rfl B.range (wx rfl B.len (vE (ss 0)))) VC rfl (wG rfl) (λa b C i m=>(vj 0 (uW Rt))) (λa b C i m=>(tws_one (tw_cm L6 (wM (vE (ss 1)) (ss 0)) J4))) (λa b C i m=>(ss 0)))))) λp G I h=>?_
 walk_at "wl"
 obtain⟨J,t⟩:=h;refine#[#[q0a,q0a],?_,v7 (q:=λk=>(rowAt p.1 k).isSome) (λk d K e=>?_) t]
 ·rw[wJ];exact vM q0a
 ·obtain⟨n,u⟩:=DA d;refine A6 λv g=>?_;obtain⟨x,w,z,_⟩:=xf (l:=p.1) n u;refine g ?_;rw[EG n z]at e;refine#[x,w,?_]
  cases x with
  |none=>exact e
  |some y=>exact e
noncomputable abbrev K6:ic:=top 32
noncomputable abbrev K8:List Str:=["_law_bag_here","_law_row_here"]
def AG:uT ["_law_bag_here","_law_row_here","_law_found","_law_count","_law_k"] K8 (uK K6):=by walk_at "sc"
abbrev Xr(q:Cq)(k:Nat):=wW q "_law_some" K8 Q5 k
def UF(F:Du q "_law_some" K6 f P)(a:wW q "_law_pull" ["_law_bag_here","_law_many"] xV 2)(d:KZ q 2)(B:Bn q.mg):Gq q 3 f P K8 Q5:=by
 refine' uV (wn (D':=Unit) (ms:=[0]) (j:=3) F AG rfl rfl λQ A v s H E R =>
   (uY (ve 2 AG.nd (vg (α:=Int) vf))
   (uY (vo (tw_cmL (J5 R.units) (vE (ss 1)) (vE (vz (vg (α:=Int) vf))))
   (uM<|yx 2<|pv 2)
   vi)
   (uY (ve 3 AG.nd (vh a (vA 0 (uQ uP uN))))
   (uY (vo (tw_cm zy (ss 3) uP)
   (uM<|ve 3 AG.nd<|vd<|Pr AY (uX<|vh a<|vA 0<|uQ uP uN)<|wx rfl B.len<|vE<|ss 1)
   vi)
   (uY (v8 (is:=[]) (mb:=[0]) (D1:=Bg×(List Int)×(OL Int)×Int×Int×Unit) (D2:=Bg×(List Int)×(OL Int)×Int×Int×Unit) (vn q0q) yc rfl (wK rfl B.range (ss 3)) (vj 4 (uW AG.nd))
   (uM (ve 2 AG.nd (vh d (vP 2 (uQ (vz (vg (uR (wM (vE (ss 1)) (uX (vh a (vA 0 (uQ (wx rfl B.len (vE (ss 1))) uN))))) vf))) uN))))) q0q q0q)
   (uM (yx 2 (pv 2))))))))) λp L o h=>?_
 walk_at "wl"
 obtain⟨hl,M⟩:=h;by_cases w:p.2.1=[]
 ·rw[gI<|decide_eq_true w];exact M [] il λ_ z=>by cases z
 rw[cr<|by simpa using w]
 have D:0<(p.2.1.length:Int):=by
  have:=List.length_pos_iff.mpr w
  lia
 have g:∀(n c:Int),Gv (λ(x:Int)(b:Bg×List Int×OL Int×Int×WL.Un×Unit) G (Kr:OL Int->Bg×WL.Un×Unit->Prop) o=>xV (b.1,(b.2.1.length:Int),()) (λx t=>∃k,EY b.2.1 x=↑k/\KP (b.2.2.1.l,[k],()) (λx m=>G (t.1,b.2.1,x,b.2.2.2.1,#[],b.2.2.2.2.2)) λC m=>o C (t.1,#[],())) λC t=>o C (t.1,#[],()))
   (yH 0 n) (#[],p.2.1,#[[]],c,#[],p.2.2) (λN=>L N.2.2.1 (N.1,#[],())) L o:=by
  intro n c;refine vy (λ(r:List Int)(b:Bg×List Int×OL Int×Int×WL.Un×Unit)=>b.2.1=p.2.1/\xR b.2.2.1.l/\∀x∈b.2.2.1.l,x∈p.2.1) (yH 0 n) #[rfl,il,(λ_ z=>by cases z)] ?_ ?_
  ·rintro x r b _ ⟨e,i,g2⟩ K S;rw[e];refine wv D q0a λr O u=>?_;refine A6 λT I=>?_;obtain⟨y,U,_,W⟩:=xf (l:=p.2.1) O u;have X:=wq i g2;refine I ?_;refine#[y,U,Ux (show b.2.2.1.l.length+1<64 by lia),S _ #[rfl,GB i<|jT _ _,λz Y=>?_]];rcases Gz.mp Y with⟨J,_⟩|⟨J,_⟩
   ·exact g2 z J
   ·rw[List.mem_singleton.mp J];exact W
  ·rintro b ⟨_,i,g2⟩;exact M _ i g2
 refine wv q0q q0q λr O u=>?_
 try dsimp only
 have u:r<7:=u;by_cases q:r=6
 ·rw[gI<|decide_eq_true q];refine wv q0q q0q λs Z i=>?_;have i:s<3:=i
  have b1:s*(p.2.1.length:Int)<=2*60:=by
   have:s*(p.2.1.length:Int)<=2*(p.2.1.length:Int):=Int.mul_le_mul_of_nonneg_right q0a q0a
   lia
  have b0:0<=s*(p.2.1.length:Int):=Int.mul_nonneg Z q0a;exact#[.inl #[q0a,q0a],#[q0a,q0a],g _ _]
 ·rw[cr<|by simpa using q];exact#[#[q0a,q0a],g _ _]
noncomputable abbrev K9:ic:=top 33
noncomputable abbrev La:List Str:=["_law_rows_here","_law_row_here"]
def DC:uT ["_law_rows_here","_law_row_here","_law_found","_law_cell"] La (uK K9):=by walk_at "sc"
abbrev Xs(q:Cq)(k:Nat):=wW q "_law_edge" La Q6 k
def UG(F:Du q "_law_edge" K9 f t)(a:KZ q 2):Gq q 3 f t La Q6:=by
 refine' uV (wn (D':=Unit) (ms:=[]) (j:=2) F DC rfl rfl λu A i s H E O =>
   (uY (ve 2 DC.nd (vg (α:=Int) vf))
   (uY (v8 (is:=[]) (mb:=[]) (D1:=(List RW)×(List Int)×(OL Int)×Int×Unit) (D2:=(List RW)×(List Int)×(OL Int)×Int×Unit) (vn q0q) yc rfl (vZ (ss 1)) (vj 3 (uW DC.nd))
   (uM (ve 2 DC.nd (vh a (vP 2 (uQ (zQ (zx (wM (vE (ss 0)) (ss 3)))) uN))))) q0q q0q)
   (uM (yx 2 (pv 2)))))) λp w P h=>?_
 walk_at "wl"
 obtain⟨v,B,C⟩:=h;refine vy (λ(r:List Int)(b:List RW×List Int×OL Int×WL.Un×Unit)=>b.1=p.1/\(∀c∈r,(rowAt p.1 c).isSome=true)/\xR b.2.2.1.l/\(∀x∈b.2.2.1.l,x∈yH 0 35)/\(r.map<|eb p.1).foldl xr b.2.2.1.l=wl (eb p.1) p.2.1) p.2.1 ⟨rfl,B,il,(λ_ z=>by cases z),rfl⟩ ?_ ?_
 ·rintro c r b _ ⟨e,o,g1,g2,d⟩ K D;refine A6 λG k=>?_;obtain⟨y,m⟩:=Option.isSome_iff_exists.mp<|o c gM;obtain⟨_,_,_,I⟩:=vc m;obtain⟨g,n⟩:=v.Xl m;refine k ?_;rw[e];have J:=wq g1 g2;have L:=wq g n;rw[wJ]at J L;refine⟨_,I,y,rfl,Rm g1 g g2 n,D _ ⟨rfl,λc M=>o c<|gQ _ M,GB g1 g,λx N=>?_,?_⟩⟩
  ·rcases Gz.mp N with⟨z,_⟩|⟨z,_⟩
   ·exact g2 x z
   ·exact n x z
  ·rw[<- d];show (r.map<|eb p.1).foldl xr (jn b.2.2.1.l y.2)=(r.map<|eb p.1).foldl xr (xr b.2.2.1.l<|eb p.1 c);rw[Vx g1 g,yC m]
 ·rintro b ⟨_,_,_,_,d⟩;have d:b.2.2.1.l=wl (eb p.1) p.2.1:=d;show w b.2.2.1 _;rw[show b.2.2.1=OL.mk b.2.2.1.l from rfl,d];exact C
noncomputable abbrev Hn:ic:=top 39
noncomputable abbrev Ho:List Str:=["_law_found"]
def Ru:uT ["_law_found"] Ho (uK Hn):=by walk_at "sc"
abbrev Hq(q:Cq)(k:Nat):=wW q "_law_whole" Ho Hj k
def Rv(F:Du q "_law_whole" Hn f b)(B:Bn q.mg):Gq q 2 f b Ho Hj:=by
 refine' uV (wn (D':=Unit) (ms:=[]) (j:=0) F Ru rfl rfl λc A a s H E d =>
   (uM (uZ (vd (D9 (yi (ty:="int") rfl B.isinstance (Ao (v:=.ty "int") rfl B.int PyProof.Rows.boot_int rfl) (ss 0)) (Ay (WK (yi (ty:="bool") rfl B.isinstance (Ao (v:=.ty "bool") rfl B.bool qE rfl) (ss 0))))))))) λp e g h=>?_
 walk_at "wl"
 exact h
noncomputable abbrev s_row:ic:=top 40
abbrev Rx:List Str:=["_law_found"]
def Ry:uT ["_law_found","_law_one"] Rx (uK s_row):=by walk_at "sc"
abbrev VE(q:Cq)(k:Nat):=wW q "_law_row" Rx Q7 k
def Xt(F:Du q "_law_row" s_row f d)(a:Hq q 2)(B:Bn q.mg):Gq q 3 f d Rx Q7:=by
 refine' uV (wn (D':=Unit) (ms:=[]) (j:=1) F Ry rfl rfl λe A c s H E i =>
   (uY (vo (tw_not (tw_val (yi (ty:="list") rfl B.isinstance (Ao (v:=.ty "list") rfl B.list jR rfl) (ss 0))))
   (uM<|uZ<|vd x8)
   vi)
   (uY (v8 (is:=[]) (mb:=[]) (D1:=(List Int)×Int×Unit) (D2:=(List Int)×Int×Unit) (vn q0q) yc rfl (vZ (ss 0)) (vj 1 (uW Ry.nd))
   (uM (vo (tw_not (tw_val (uX (vh a 84))))
   (uM<|uZ<|vd x8)
   vi)) q0q q0q)
   (uM (uZ (vd x8)))))) λp k l h=>?_
 walk_at "wl"
 rw[cr q0q];exact vy (λ(r:List Int)(b:List Int×WL.Un×Unit)=>True) p.1 trivial (λx r b _ _ K g=>g _ trivial) λ_ _=>h
noncomputable abbrev s_same:ic:=top 45
noncomputable abbrev Ld:List Str:=["_law_found","_law_due"]
def UH:uT ["_law_found","_law_due"] Ld (uK s_same):=by walk_at "sc"
abbrev Xu(q:Cq)(k:Nat):=wW q "_law_same" Ld KQ k
def UI(F:Du q "_law_same" s_same f c)(a:VE q 3):Gq q 4 f c Ld KQ:=by
 refine' uV (wn (D':=Unit) (ms:=[]) (j:=0) F UH rfl rfl λd A b s H E e =>
   (uM (uZ (vd (D9 (uX (vh a (uQ (ss 0) uN))) (Ay (WI (J5 e.units) (vE (ss 0)) (vE (ss 1)) (vI _)))))))) λp g i h=>?_
 walk_at "wl"
 exact h
noncomputable abbrev Hr:ic:=top 28
noncomputable abbrev Ht:List Str:=["_law_many"]
def Am:uT ["_law_many","_law_pairs_here","_law_threes","_law_rows_here"] Ht (uK Hr):=by walk_at "sc"
def N4:(["_law_k"]:List Str).Nodup:=by decide +kernel
def N5:(["_law_pair"]:List Str).Nodup:=by decide +kernel
def N6:(["_law_three"]:List Str).Nodup:=by decide +kernel
abbrev UJ(q:Cq)(k:Nat):=wW q "_law_stock" Ht MF k
def Rz(F:Du q "_law_stock" Hr f i)(B:Bn q.mg):Gq q 2 f i Ht MF:=by
 refine' uV (wn (D':=Unit) (ms:=[]) (j:=3) F Am rfl rfl λl A g s H E o =>
   (uY (ve 1 Am.nd (vg (uR (vz (vg 97)) (uR (vz (vg 97)) (uR (vz (vg 97)) (uR (vz (vg 97)) (uR (vz (vg 97)) (uR (vz (vg 97)) vf))))))))
   (uY (ve 2 Am.nd (vg (uR (vz (vg (uR uP 97))) (uR (vz (vg (uR uP 97))) (uR (vz (vg (uR uP 97))) (uR (vz (vg (uR uP 97))) vf))))))
   (uY (ve 3 Am.nd (Co (vE (vz (w4 (Ts:=["_law_k"]) (Fr:=[]) (idx:=[]) (k:=1) (mb:=[]) (is:=[]) (cl:=[]) rfl (wK rfl B.range uP) Zf rfl (wG rfl) (λa b C c d=>(vj 0 (uW N4))) (λa b C c d=>tws_nil) (λa b C c d=>(zh (wz uP (vz (vg (α:=Int) vf)))))))) (vE (vz (w4 (Ts:=["_law_pair"]) (Fr:=[]) (idx:=[]) (k:=1) (mb:=[]) (is:=[1]) (cl:=[]) rfl (Ka 1 (pv 1) q0q) Zf rfl (wG rfl) (λa b C c d=>(vj 0 (uW N5))) (λa b C c d=>tws_nil) (λa b C c d=>(zh (wz uP (ss 0)))))))))
   (uY (ve 3 Am.nd (Co (vE (vz (Co (wh 3) (vE (vz (w4 (Ts:=["_law_three"]) (Fr:=[]) (idx:=[]) (k:=1) (mb:=[]) (is:=[2]) (cl:=[]) rfl (Ka 2 (pv 2) q0q) Zf rfl (wG rfl) (λa b C c d=>(vj 0 (uW N6))) (λa b C c d=>tws_nil) (λa b C c d=>(zh (wz uP (ss 0)))))))))) (vE (vz (vg (uR (zh (wz uP (vz (vg (uR uP (uR uP 97)))))) vf))))))
   (uM (uZ (D7 (wh 3) Dk (Dl (ss 0)))))))))) λp r t h=>?_
 walk_at "wl"
 obtain⟨m,n⟩:=h;refine#[q0q,(by rw[wJ];exact vM q0q),vV (f:=λ_=>some<|some (0,[])) (λx _ K e=>e) ?_];refine#[vM q0q,vV (f:=λx=>some<|some (1,x)) (λx _ K e=>e) ?_];refine#[vM q0q,vM q0q,vV (f:=λx=>some<|some (2,x)) (λx _ K e=>e) ?_];refine#[vM q0q,vM q0q,?_];rw[Xm _ m];exact n
noncomputable abbrev CB:ic:=top 34
noncomputable abbrev CC:List Str:=["_law_rows_here","_law_loops","_law_rank_here","_law_bag_here"]
def wH:uT ["_law_rows_here","_law_loops","_law_rank_here","_law_bag_here","_law_number","_law_edge_here","_law_beneath","_law_k","_law_kin","_law_chosen"] CC (uK CB):=by walk_at "sc"
def CZ:(["_law_at","_law_one","_law_rank_here"]:List Str).Nodup:=by decide +kernel
def Jj:(["_law_k","_law_rank_here","_law_rows_here"]:List Str).Nodup:=by decide +kernel
abbrev N7(q:Cq)(k:Nat):=wW q "_law_edge_by" CC AE k
def Le(F:Du q "_law_edge_by" CB f fd)(a:wW q "_law_pull" ["_law_bag_here","_law_many"] xV 3)(I:KZ q 3)(J:K5 q 3)(L:Xr q 3)(M:Xs q 3)(B:Bn q.mg):Gq q 4 f fd CC AE:=by
 refine' uV (wn (D':=Unit) (ms:=[0,1,3]) (j:=6) F wH rfl rfl λae A aa s H E hr =>
   (uY (ve 4 wH.nd (vd (wx rfl B.len (wh 0))))
   (uY (ve 5 wH.nd (vg (α:=Int) vf))
   (uY (vo (tw_cm zy (ss 2) uP)
   (uY (wj 1 (wz uP (vz (vg (uR (ss 4) vf)))))
   (uM (yx 5 (pv 5))))
   vi)
   (uY (vo (tw_cm L5 (uX (vh a (vA 3 (uQ uP uN)))) uP)
   (uY (Az (Ts:=["_law_at","_law_one"]) (Fr:=["_law_rank_here"]) (idx:=[2]) (k:=2) (mb:=[2]) (is:=[1]) (cl:=[("_law_rank_here",⇑s+1+1)]) 6 wH.nd rfl rfl rfl q0q rfl (Ka 1 (pv 1) q0q) VC rfl (wG rfl) (λd g C U W=>(BE 0 1 (B9 rfl (wg (uW (i:=0) CZ) (wg (uW (i:=1) CZ) Ap))) q0q q0q)) (λd g C U W=>(tws_one (tw_cm zy (ss 0) (zg JC (ss 2) uP)))) (λd g C U W=>(ss 1)))
   (uY (v8 (is:=[]) (mb:=[0,1,3]) (D1:=(OL RW)×(OL (Int×(List Int)))×Int×Bg×Int×(OL Int)×(OL (List Int))×Int×Un×Un×Unit) (D2:=(OL RW)×(OL (Int×(List Int)))×Int×Bg×Int×(OL Int)×(OL (List Int))×Int×Un×Un×Unit) (vn q0q) yc rfl (wK rfl B.range (wM (vE (vz (vg (uR uP (uR uP (uR uP (uR uP (uR uP (uR uP 97))))))))) (uX (vh a (vA 3 (uQ uP uN)))))) (vj 7 (uW wH.nd))
   (uM (vo (tw_cmL (Cp hr.units) (wh 6) (vE (vz (vg (α:=(List Int)) vf))))
   (uM<|ve 5 wH.nd<|vh I<|vP 5<|uQ (wM (wh 6)<|uX<|vh a<|vA 3<|uQ (wx rfl B.len<|wh 6) uN) uN)
   vi)) q0q q0q)
   (uY (vo (tw_cmL (J5 hr.units) (wh 5) (vE (vz (vg (α:=Int) vf))))
   (uM<|wj 1<|wz (ss 2)<|vz<|vg<|uR (ss 4) vf)
   vi)
   (uM (yx 5 (pv 5))))))
   vi)
   (uY (Az (Ts:=["_law_k"]) (Fr:=["_law_rank_here","_law_rows_here"]) (idx:=[2,0]) (k:=1) (mb:=[1,2]) (is:=[]) (cl:=[("_law_rows_here",⇑s+1),("_law_rank_here",⇑s+1+1)]) 8 wH.nd rfl rfl rfl q0q rfl (vZ (vz (vh J (vP 0 uN)))) Z6 rfl (wG rfl) (λd g C U W=>(vj 0 (uW Jj))) (λd g C U W=>(tws_one (tw_cm zy (Cn (zx (wM (wh 2) (ss 0)))) (ss 1)))) (λd g C U W=>(ss 0)))
   (uY (ve 9 wH.nd (vh L (vA 3 (vP 8 uN))))
   (uY (wj 1 (wz (ss 2) (vz (Co (wh 9) (vE (vz (vg (uR (ss 4) vf))))))))
   (uM (uZ (vh M (vP 0 (vP 9 uN))))))))))))) λp Kn Ke h=>?_
 walk_at "wl"
 refine A6 λX D=>?_;obtain⟨v,hn,hq,Y,r0,r1,hk⟩:=h;refine D ?_;by_cases h0:p.2.2.1=0
 ·rw[gI<|decide_eq_true h0];refine⟨BU q0a,?_⟩;refine hk [] [(0,[(p.1.l.length:Int)])] (Hm v q0a λr e z=>?_) (λu N=>?_) q0o
  ·cases z;exact#[r0,r1,il,(λ_ z=>by cases z),rfl]
  ·rcases List.mem_append.mp N with z|z
   ·exact EH<|Y u z
   ·rw[List.mem_singleton.mp z];have:=Rc (rows:=p.1.l) (r:=p.2.2.1);rw[h0]at this ⊢;exact this
 ·rw[cr<|by simpa using h0];refine wv q0q q0q λx g0 g1=>?_
  try dsimp only
  by_cases hx:x<3
  ·rw[gI<|decide_eq_true hx];refine⟨vM q0a,vV (f:=λu:Int×List Int=>if decide (u.1=p.2.2.1-1)=true then some u.2 else none) (λu _ K o=>?_) ?_⟩
   ·show if decide (u.1=p.2.2.1-1)=true then K ↑u.2 _ else K none _;by_cases z:decide (u.1=p.2.2.1-1)=true
    ·rw[gI z]at o ⊢;exact o
    ·rw[cr z]at o ⊢;exact o
   ·have ly:(p.2.1.l.filterMap λu:Int×List Int=>if decide (u.1=p.2.2.1-1)=true then some u.2 else none).length<=100:=iV (List.length_filterMap_le _ _) hq
    have Z:∀z∈(p.2.1.l.filterMap λu:Int×List Int=>if decide (u.1=p.2.2.1-1)=true then some u.2 else none),Lp p.1.l (p.2.2.1-1,z):=λz hz=>by
     obtain⟨u,N,e⟩:=List.mem_filterMap.mp hz;by_cases q:decide (u.1=p.2.2.1-1)=true
     ·rw[gI q]at e;cases e;rw[<- kJ q];exact Y u N
     ·rw[cr q]at e;cases e
    generalize (p.2.1.l.filterMap λu:Int×List Int=>if decide (u.1=p.2.2.1-1)=true then some u.2 else none)=ys at ly Z;refine wv q0q q0q λs g2 g3=>?_;refine A6 λX D=>?_;obtain⟨m,m1,_,m3⟩:=xf (l:=[(2:Int),2,2,2,0,1,3,4]) g2 (by simpa using g3);refine D ?_;refine#[m,m1,#[by simp at m3;lia,by simp at m3;lia],?_];refine vy (λ(r:List Int) (b:OL RW×OL 85×Int×Bg×Int×OL Int×OL (List Int)×WL.Un×WL.Un×WL.Un×Unit)=>b.1=p.1/\b.2.1=p.2.1/\b.2.2.1=p.2.2.1/\b.2.2.2.2.1=(p.1.l.length:Int)/\b.2.2.2.2.2.2.1.l=ys/\Lp p.1.l (p.2.2.1-1,b.2.2.2.2.2.1.l)) (yH 0 m) #[rfl,rfl,rfl,rfl,rfl,il,(λ_ z=>by cases z),rfl] ?_ ?_
    ·intro y r;refine YX λb1 b2 b3 b4 b5 O b7 b8=>?_;rintro _ ⟨Q,R,S,T,e5,n⟩ K o;dsimp only at Q R S T e5 n ⊢;subst e5;by_cases q:b7.l=[]
     ·rw[cr<|by simp[q]];exact o _ #[Q,R,S,T,rfl,n]
     ·rw[gI<|by simp[q]];have:=List.length_pos_iff.mpr q;refine wv q0a q0a λt t0 t1=>?_;refine A6 λX D=>?_;obtain⟨z,z1,_,z3⟩:=xf (l:=b7.l) t0 t1;have G:=Z z z3;have s1:=wq n.1<|n.sub q0a;have s2:=wq G.1<|G.sub q0a;refine D ?_;rw[wJ]at s1 s2;have s1:O.l.length<=35:=s1;have s2:z.length<=35:=s2;refine⟨z,z1,Rm n.1 G.1 (n.sub q0a)<|G.sub q0a,o _ ⟨Q,R,S,T,rfl,?_⟩⟩;show Lp p.1.l (p.2.2.1-1,jn O.l z);have nn:∀c,(∃e,rowAt p.1.l c=some (p.2.2.1-1,e))->(eb p.1.l c).Nodup:=λc ⟨e,he⟩=>by rw[yC he];exact vm (v.Xl he).1
      refine#[GB n.1 G.1,λc P=>?_,?_]
      ·rcases Gz.mp P with⟨w,_⟩|⟨w,_⟩
       ·exact n.2.1 c w
       ·exact G.2.1 c w
      ·show wl (eb p.1.l) (jn O.l z)=[];rw[Vx n.1 G.1,TM n.1 G.1 (λc P=>nn c<|n.2.1 c P)<|λc P=>nn c<|G.2.1 c P,show wl (eb p.1.l) O.l=[] from n.2.2,show wl (eb p.1.l) z=[] from G.2.2];rfl
    ·refine YX λb1 b2 b3 b4 b5 O b7 b8=>?_;rintro⟨Q,R,S,T,e5,n⟩;dsimp only at Q R S T e5 n ⊢;subst Q R S T
     have va:Vr (p.1.l++[↑(p.2.2.1,O.l)]):=Hm v q0a λr e z=>by
      cases z;exact#[r0,r1,n.1,n.2.1,n.2.2]
     by_cases q:O.l=[]
     ·rw[gI<|decide_eq_true q];refine⟨BU q0a,hk O.l [(p.2.2.1,[(p.1.l.length:Int)])] va (λu N=>?_) q0o⟩;rcases List.mem_append.mp N with z|z
      ·exact EH<|Y u z
      ·rw[List.mem_singleton.mp z,q];exact Rc
     ·rw[cr<|by simpa using q];have:=hk O.l [] va (λu N=>EH<|Y u<|by simpa using N) q0o;rw[kW]at this;exact this
  ·rw[cr<|by simpa using hx];refine⟨(show p.1.l.length<1000 by lia),vM (by have:=AF p.1.l;show (CY p.1.l).length<=1000;lia),v7 (q:=λk=>decide ((rowAt p.1.l k).map (·.1)=↑p.2.2.1)) (λk ab K o=>?_) ?_⟩
   ·obtain⟨y,Z⟩:=Option.isSome_iff_exists.mp<|zp.mp ab;refine#[_,(vc Z).2.2.2,y,rfl,?_];rw[Z]at o;show if decide (y.1=p.2.2.1)=true then _ else _;by_cases z:y.1=p.2.2.1
    ·rw[gI<|by simp[z]]at o ⊢;exact o
    ·rw[cr<|by simpa using z]at o ⊢;exact o
   ·have hs:=iu (λk=>decide ((rowAt p.1.l k).map (·.1)=↑p.2.2.1))<|CY p.1.l;have af:=AF p.1.l;refine⟨(show ((CY p.1.l).filter _).length<60 by lia),λl l1 l2=>?_⟩
    have hl:∀c∈l,∃e,rowAt p.1.l c=↑(p.2.2.1,e):=λc P=>by
     have:=(List.mem_filter.mp<|l2 c P).2
     cases e:rowAt p.1.l c with
     |none=>rw[e]at this;simp at this
     |some y =>
      rw[e]at this;have this:y.1=p.2.2.1:=by simpa using this
      exact#[y.2,by rw[<- this]]
    obtain⟨c1,c2,c3⟩:=N0 v l1 hl;have ll:l.length<=((CY p.1.l).filter λk=>decide ((rowAt p.1.l k).map (·.1)=↑p.2.2.1)).length:=wq l1 l2;refine#[vM (show l.length+1<=1000 by lia),BU q0a,v,λc P=>?_,?_]
    ·obtain⟨e,he⟩:=hl c P;show (rowAt p.1.l c).isSome=true;rw[he];rfl
    ·refine hk _ [(p.2.2.1,l++[(p.1.l.length:Int)])] (Hm v q0a λr e z=>?_) (λu N=>?_) q0o
     ·cases z;exact#[r0,r1,yR _ _,c1,c2]
     ·rcases List.mem_append.mp N with z|z
      ·exact EH<|Y u z
      ·rw[List.mem_singleton.mp z];exact c3
noncomputable abbrev Lf:ic:=top 35
noncomputable abbrev Lg:List Str:=["_law_bag_here","_law_most"]
def zq:uT ["_law_bag_here","_law_most","_law_rows_here","_law_k","_law_loops","_law_rank_here"] Lg (uK Lf):=by walk_at "sc"
def RA:(["_law_k"]:List Str).Nodup:=by decide +kernel
abbrev Xv(q:Cq)(k:Nat):=wW q "_law_rows" Lg Q8 k
def UK(F:Du q "_law_rows" Lf f fd)(i:wW q "_law_pull" ["_law_bag_here","_law_many"] xV 4)(G:UJ q 4)(L:Xq q 4)(w:N7 q 4)(B:Bn q.mg):Gq q 5 f fd Lg Q8:=by
 refine' uV (wn (D':=Unit) (ms:=[0]) (j:=4) F zq rfl rfl λaa A X s H E hr =>
   (uY (ve 2 zq.nd (vg (α:=RW) vf))
   (uY (vo (tw_cm zy (uX (vh i (vA 0 (uQ uP uN)))) uP)
   (uM<|ve 2 zq.nd<|vh G<|uQ (uX<|vh i<|vA 0<|uQ uP uN) uN)
   vi)
   (uY (Az (Ts:=["_law_k"]) (Fr:=[]) (idx:=[]) (k:=1) (mb:=[]) (is:=[]) (cl:=[]) 4 zq.nd rfl rfl rfl q0q rfl (wK rfl B.range (wx rfl B.len (wh 2))) Zf rfl (wG rfl) (λM N C ex pn=>(vj 0 (uW RA))) (λM N C ex pn=>(tws_one (tw_cm L5 (ss 0) uP))) (λM N C ex pn=>(wz uP (vz (vg (uR (ss 0) vf))))))
   (uY (vo (tw_cm Vq (wx rfl B.len (wh 2)) uP)
   (uM<|ve 4 zq.nd<|Co (wh 4)<|vE<|vz<|vg<|uR (wz uP<|vz<|vg<|uR uP<|uR uP<|uR uP vf)<|uR (wz uP<|vz<|vg<|uR uP<|uR uP<|uR uP vf)<|uR (wz uP<|vz<|vg<|uR uP<|uR uP<|uR uP vf) vf)
   vi)
   (uY (v8 (is:=[]) (mb:=[0]) (D1:=Bg×Int×(OL RW)×Int×(OL (Int×(List Int)))×Un×Unit) (D2:=Bg×Int×(OL RW)×Int×(OL (Int×(List Int)))×Un×Unit) (vn q0q) yc rfl (wK rfl B.range (uX (vh i (vA 0 (uQ (zg y9 (ss 1) uP) uN))))) (vj 3 (uW zq.nd))
   (uM (vo (tw_cm zy (uX (vh i (vA 0 (uQ uP uN)))) uP)
   (uM<|wj 2 Td)
   (LZ (D':=Bg×Int×(OL RW)×Int×(OL (Int×(List Int)))×Un×Unit) (uY (ve 5 zq.nd (vh L (vA 0 uN)))
   (uM (wj 2 (zh (wz (ss 5) (vz (vh w (vA 2 (vA 4 (uQ (ss 5) (vA 0 uN)))))))))))))) q0q q0q)
   (uM (yx 2 (pv 2))))))))) λp W I h=>?_
 walk_at "wl"
 obtain⟨hm,hk⟩:=h
 have S:∀(a:List RW) (o:List 85) (n:Int),n<=20->Vr a->a.length<=15->(∀u∈o,Lp a u)->o.length<=20 ->
   Gv (λ(x:Int) (b:Bg×Int×OL RW×WL.Un×OL 85×WL.Un×Unit) J (Kr:OL RW->Bg×WL.Un×Unit->Prop) I =>
    xV (b.1,9,()) (λx d=>if decide (x=8)=true then b.2.2.1.l.length<gL/\J (d.1,b.2.1,#[b.2.2.1.l++[none]],#[],b.2.2.2.2.1,b.2.2.2.2.2.1,b.2.2.2.2.2.2) else
     Hi (d.1,()) (λx d=>AE (b.2.2.1,b.2.2.2.2.1,x,d.1,()) (λO d=>d.1.l.length<gL/\J (d.2.2.2.1,b.2.1,#[d.1.l++[↑(x,O.l)]],#[],d.2.1,#[],b.2.2.2.2.2.2)) λC d=>I C (d.2.2.2.1,#[],())) λC d=>I C (d.1,#[],())) λC d=>I C (d.1,#[],()))
   (yH 0 n) (#[],p.2.1,#[a],#[],#[o],#[],p.2.2) (λT=>W T.2.2.1 (T.1,#[],())) W I:=by
  intro a o n hn v hl Y ab;refine vy (λ(r:List Int) (b:Bg×Int×OL RW×WL.Un×OL 85×WL.Un×Unit)=>Vr b.2.2.1.l/\(∀u∈b.2.2.2.2.1.l,Lp b.2.2.1.l u)/\b.2.2.1.l.length+r.length<=35/\b.2.2.2.2.1.l.length+r.length<=100) (yH 0 n) #[v,Y,(by rw[wJ];show a.length+_<=35;lia),(by rw[wJ];show o.length+_<=100;lia)] ?_ ?_
  ·rintro y r b _ ⟨R,g2,g3,g4⟩ K D;rw[hX]at g3 g4;refine wv q0q q0q λs s0 s1=>?_;dsimp only;by_cases q:s=8
   ·rw[gI<|decide_eq_true q];refine⟨BU q0a,D _ ⟨Hm R q0a (λr e z=>by cases z),λu P=>EH<|g2 u P,?_,?_⟩⟩
    ·show (b.2.2.1.l++[none]).length+r.length<=35;rw[gY,hZ]
     lia
    ·show b.2.2.2.2.1.l.length+r.length<=100
     lia
   ·rw[cr<|by simpa using q];intro t t0 t1;refine⟨R,(show b.2.2.1.l.length<=34 by lia),(show b.2.2.2.2.1.l.length<=100 by lia),g2,t0,t1,λe u v1 v2 v3=>#[BU (show b.2.2.1.l.length<1000 by lia),D _ #[v1,v2,?_,?_]]⟩
    ·show (b.2.2.1.l++[↑(t,e)]).length+r.length<=35;rw[gY,hZ]
     lia
    ·show (b.2.2.2.2.1.l++u).length+r.length<=100;rw[gY]
     lia
  ·rintro b ⟨R,_,g3,_⟩;exact hk _ R q0a
 have Q:∀(a:List RW) (U:List 85),Vr a->a.length<=15->(∀u∈U,Lp a u)->U.length<=20->∀g:Bg,xV (g,p.2.1+1,()) (λx d=>(-2 ^ 62<=x/\x<2 ^ 62)/\Gv (λ(x:Int) (b:Bg×Int×OL RW×WL.Un×OL 85×WL.Un×Unit) J (Kr:OL RW->Bg×WL.Un×Unit->Prop) I =>
    xV (b.1,9,()) (λx d=>if decide (x=8)=true then b.2.2.1.l.length<gL/\J (d.1,b.2.1,#[b.2.2.1.l++[none]],#[],b.2.2.2.2.1,b.2.2.2.2.2.1,b.2.2.2.2.2.2) else
     Hi (d.1,()) (λx d=>AE (b.2.2.1,b.2.2.2.2.1,x,d.1,()) (λO d=>d.1.l.length<gL/\J (d.2.2.2.1,b.2.1,#[d.1.l++[↑(x,O.l)]],#[],d.2.1,#[],b.2.2.2.2.2.2)) λC d=>I C (d.2.2.2.1,#[],())) λC d=>I C (d.1,#[],())) λC d=>I C (d.1,#[],()))
   (yH 0 x) (d.1,p.2.1,#[a],#[],#[U],#[],p.2.2) (λT=>W T.2.2.1 (T.1,#[],())) W I) (λC d=>I C (d.1,#[],())):=by
  intro a U v l1 Y l2 g;exact wv q0a q0a λr g0 R=>#[#[q0a,q0a],S a U r q0a v l1 Y l2]
 refine wv q0q q0q λx g0 R=>?_;dsimp only;by_cases hx:x=1
 ·rw[gI<|decide_eq_true hx];refine wv q0q q0q λm m0 m1=>#[m0,?_];dsimp only;have c:=List.all_eq_true.mp Uw m.toNat<|List.mem_range.mpr q0a;unfold chk at c;simp only[iw,Bool.or_eq_true,iF]at c;refine A6 λae Z=>?_;obtain⟨⟨⟨⟨c1,c2⟩,c3⟩,c4⟩,c5⟩:=c;have v:=Rl c1;refine Z ?_;refine#[#[q0a,q0a],(by rw[wJ];exact vM q0a),vV (f:=λk:Int=>if decide (k<4)=true then some (0,[k]) else none) (λk _ K D=>?_) ?_]
  ·show if decide (k<4)=true then K ↑(0,[k]) _ else K none _;by_cases z:decide (k<4)=true
   ·rw[gI z]at D ⊢;exact D
   ·rw[cr z]at D ⊢;exact D
  ·have l0:∀u∈X2 (B5.take m.toNat).length,Lp (B5.take m.toNat) u:=λu P=>Rj<|List.all_eq_true.mp c2 u P;by_cases h9:9<((B5.take m.toNat).length:Int)
   ·rw[gI<|decide_eq_true h9];have c5:lp1.all (Zy<|B5.take m.toNat)=true:=c5.elim (λz=>g8 z q0a) id;refine#[vM (show (X2 (B5.take m.toNat).length).length+3<=1000 by lia),Q _ (X2 (B5.take m.toNat).length++lp1) v c4 (λu P=>?_) ?_ _]
    ·rcases List.mem_append.mp P with z|z
     ·exact l0 u z
     ·exact Rj<|List.all_eq_true.mp c5 u z
    ·rw[gY];show _+3<=20
     lia
   ·rw[cr<|by simpa using h9];exact Q _ (X2 (B5.take m.toNat).length) v c4 l0 q0a _
 ·rw[cr<|by simpa using hx];refine⟨⟨q0q,q0q⟩,vM q0q,vV (f:=λk:Int=>if decide (k<4)=true then some (0,[k]) else none) (λk _ K D=>?_) ?_⟩
  ·show if decide (k<4)=true then K ↑(0,[k]) _ else K none _;by_cases z:decide (k<4)=true
   ·rw[gI z]at D ⊢;exact D
   ·rw[cr z]at D ⊢;exact D
  ·exact Q [] [] (Rl rfl) q0q (λu P=>by cases P) q0q _
noncomputable abbrev Lh:ic:=top 36
noncomputable abbrev Li:List Str:=["_law_body","_law_rows_here"]
def Hu:uT ["_law_body","_law_rows_here","_law_number","_law_row_here"] Li (uK Lh):=by walk_at "sc"
abbrev Xw(q:Cq)(k:Nat):=wW q "_law_fill" Li (Q9) k
set_option tactic.hygienic true in
def UL(F:Du q "_law_fill" Lh f W)(ct:AK q.K C)(a:Zu q 8)(g:Uq q 8)(B:Bn q.mg):Gq q 9 f W Li (Q9):=by
 refine' uV (wn (D':=Unit) (ms:=[]) (j:=2) F Hu rfl rfl λX A D s H E hr =>
   (uY (v8 (is:=[]) (mb:=[]) (D1:=(Bd C true)×(List RW)×Int×RW×Unit) (D2:=(Bd C true)×(List RW)×Int×RW×Unit) (vn q0q) yc rfl (TK rfl B.enumerate (ss 1)) (BE 2 3 (B9 rfl (wg (uW (i:=2) Hu.nd) (wg (uW (i:=3) Hu.nd) Ap))) q0q q0q)
   (uM (vo (tw_cm WG (ss 3) J4)
   (uY (vY (uX (v6 0 a (uQ uP (uQ (vz (vg (α:=Int) vf)) uN)))))
   (uM (vY (uX (v6 0 g (uQ (ss 2) uN))))))
   (uM (vY (uX (v6 0 a (uQ (Cn (zx (ss 3))) (uQ (vz (Te rfl B.list (vE (zQ (zx (ss 3)))))) uN)))))))) q0q q0q)
   (uM (yx 0 (pv 0))))) λp Kn Ke h=>?_
 walk_at "wl"
 obtain⟨Y,v,Z⟩:=h;refine vy (λ(r:List (Int×RW)) (b:B0×List RW×WL.Un×WL.Un×Unit)=>∃k,r=ND k (p.2.1.drop k)/\k<=p.2.1.length/\xW b.1 (p.2.1.take k)/\b.1.ht=[]/\b.1.th=[]) (ND 0 p.2.1) #[0,rfl,iX _,?_] ?_ ?_
 ·show xW p.1 []/\p.1.ht=[]/\p.1.th=[];rw[Y];exact#[Uy,rfl,rfl]
 ·rintro x r b _ ⟨k,e,O,c,m,n⟩ K hK
  have l:k<p.2.1.length:=by
   rcases Nat.lt_or_ge k p.2.1.length with z|z
   ·exact z
   ·rw[oK z]at e;cases e
  rw[nP l]at e;have e1:x=((k:Int),p.2.1[k]):=by cases e;rfl
  have e2:r=ND (k+1) (p.2.1.drop<|k+1):=by cases e;rfl
  have tk:p.2.1.take (k+1)=p.2.1.take k++[p.2.1[k]]:=(List.take_append_getElem l).symm;have G:(p.2.1.take k).length=k:=List.length_take_of_le O;have I:=Uv v k;have next:∀o:B0,xW o (p.2.1.take k++[p.2.1[k]])->o.ht=[]->o.th=[]->K (o,b.2.1,#[],#[],b.2.2.2.2):=λo h m1 m2=>hK _ #[k+1,e2,l,by rw[tk];exact h,m1,m2]
  have P:rowAt p.2.1 (k:Int)=p.2.1[k]:=EG q0a (by rw[lq];exact jo l);have ln:=v.ln;subst e1;dsimp only
  cases z:p.2.1[k] with
  |none =>
   rw[gI<|show (none:RW).isNone=true from rfl];rw[z]at next
   refine Ri c I (oh 0) q0q il (λ_ q=>by cases q) rfl λQ J u w=>?_;have R:Vr (p.2.1.take k++[↑(0,[])]):=ZA I q0a;refine Uu J R (by have:=vN (rows:=p.2.1.take k) (z:=↑(0,[]));rw[G]at this;rw[this];rfl) (λh t=>?_) (by unfold xP;rw[u,w,m,n];rfl) λx2 S g3 g4=>next x2 ?_ (g3.trans<|u.trans m)<|g4.trans<|w.trans n
   ·cases q:rowAt (p.2.1.take k++[↑(0,[])]) h with
    |none=>unfold eb at t;rw[q]at t;cases t
    |some y =>
     rw[yC q]at t;have T:=((R.ok h y.1 y.2 q).2.2.2.1 _ t).1;have L:=(vc q).2.1;rw[gY,hZ,G]at L
     lia
   ·rw[lq,List.set_append_right _ _ q0a,G,qx]at S;exact S
  |some y =>
   rw[cr q0o];rw[z]at next P
   refine A6 λaa M=>?_;obtain⟨T,L,a3,U,a5⟩:=v.ok k y.1 y.2 P;refine M ?_;refine#[y,rfl,y,rfl,Ri c I T L a3 (λd N=>?_) ?_ λQ J u w=>next Q J (u.trans m)<|w.trans n]
   ·obtain⟨q1,e',q2⟩:=U d N;exact#[e',by rw[xy,gI q1];exact q2]
   ·rw[<- a5];refine xm λd N=>?_;unfold eb;rw[xy,gI (U d N).1]
 ·rintro b ⟨k,e,O,c,m,n⟩
  have:k=p.2.1.length:=by
   rcases Nat.lt_or_ge k p.2.1.length with z|z
   ·rw[nP z]at e;cases e
   ·lia
  rw[this,uI]at c;exact Z _ c m n
noncomputable abbrev Lj:ic:=top 37
noncomputable abbrev Lk:List Str:=["_law_field","_law_rows_here","_law_bag_here","_law_tries"]
def yD:uT ["_law_field","_law_rows_here","_law_bag_here","_law_tries","_law_arrows","_law_k","_law_highs","_law_gone","_law_high","_law_low"] Lk (uK Lj):=by walk_at "sc"
def RB:(["_law_k","_law_rows_here"]:List Str).Nodup:=by decide +kernel
abbrev Xx(q:Cq)(k:Nat):=wW q "_law_ties" Lk (Ro) k
def UM(F:Du q "_law_ties" Lj f fd)(ct:AK q.K C)(u:K5 q 6)(g:wW q "_law_pull" ["_law_bag_here","_law_many"] xV 6)(n:ME q 6)(O:Zw q 6)(a:Zl q XT XR "Tied" "RingOfArrows")(B:Bn q.mg):Gq q 7 f fd Lk (Ro):=by
  refine' uV (wn (D':=Unit) (ms:=[0,2]) (j:=6) F yD rfl rfl λaf A Z s H E W =>
      (uY (ve 4 yD.nd (vg (α:=(Int×Int)) vf))
      (uY (Az (Ts:=["_law_k"]) (Fr:=["_law_rows_here"]) (idx:=[1]) (k:=1) (mb:=[1]) (is:=[]) (cl:=[("_law_rows_here",⇑s+1)]) 6 yD.nd rfl rfl rfl q0q rfl (vZ (vz (vh u 84))) VC rfl (wG rfl) (λJ L C ex pn=>(vj 0 (uW (i:=0) RB rfl (ko rfl)) q0q)) (λJ L C ex pn=>(tws_one (tw_cmL (Cp W.units) (vE (zQ (zx (wM (vE (ss 1)) (ss 0))))) (vE (vz (vg (α:=Int) vf))) (vI _)))) (λJ L C ex pn=>(ss 0)))
      (uY (v8 (is:=[]) (mb:=[0,2]) (D1:=(Bd C true)×54×Bg×Int×(OL (Int×Int))×Int×(OL Int)×Un×Un×Un×Unit) (D2:=(Bd C true)×54×Bg×Int×(OL (Int×Int))×Int×(OL Int)×Un×Un×Un×Unit) (vn q0q) yc rfl (wK rfl B.range (ss 3)) (vj 5 (uW (i:=5) yD.nd rfl (ko rfl)) q0q)
      (uM (vo (tw_w (Gu (tw_cmL (Cp W.units) (wh 4) (vE (vz (vg (α:=(Int×Int)) vf))) (vI _)) (Dm (tw_cm zy (uX (vh g (vA 2 (uQ uP uN)))) uP (vI _)))))
      (LZ (D':=(Bd C true)×54×Bg×Int×(OL (Int×Int))×Int×(OL Int)×Un×Un×Un×Unit) (uY (ve 7 yD.nd (vd (FP 4 (pv 4) (uX (vh g (vA 2 (uQ (wx rfl B.len (wh 4)) uN)))) (λh=>OK kC mu mw Ig (pv 4) h))))
      (uM (vY (uX (v6 0 n (uQ (Cn (ss 7)) uN)))))))
      (Mh (w':=λ(d:(Bd C true)×54×Bg×Int×(OL (Int×Int))×Int×(OL Int)×Un×Un×Un×Unit) (Kn:(Bd C true)×54×Bg×Int×(OL (Int×Int))×Int×(OL Int)×Un×Un×Un×Unit->Prop) _ _=>(xW d.1 d.2.1/\Vr d.2.1/\d.2.1.length<=35/\Arr d.1 d.2.2.2.2.1.l/\d.2.2.2.2.2.2.1.l=(CY d.2.1).filter (λk=>!decide (eb d.2.1 k=[])))/\∀M:(Bd C true)×54×Bg×Int×(OL (Int×Int))×Int×(OL Int)×Un×Un×Un×Unit,(M.2.1=d.2.1/\M.2.2.2.2.2.2.1=d.2.2.2.2.2.2.1/\xW M.1 d.2.1/\Arr M.1 M.2.2.2.2.1.l)->Kn M) (uM (vo (tw_cmL (Cp W.units) (wh 6) (vE (vz (vg (α:=Int) vf))) (vI _))
      (LZ (D':=(Bd C true)×54×Bg×Int×(OL (Int×Int))×Int×(OL Int)×Un×Un×Un×Unit) (uY (ve 8 yD.nd (vd (wM (wh 6) (uX (vh g (vA 2 (uQ (wx rfl B.len (wh 6)) uN)))))))
      (uY (ve 9 yD.nd (vd (wM (vE (zQ (zx (wM (vE (ss 1)) (ss 8))))) (uX (vh g (vA 2 (uQ (wx rfl B.len (vE (zQ (zx (wM (vE (ss 1)) (ss 8)))))) uN)))))))
      (uY (T2 rfl (W5 rfl a.m1 rfl a.m2 a.x1 a.x2) (Zk 0 O W ct.cl (λE1 Φ aa=>(pv 0)) (λE1 Φ aa=>(uQ (ss 9) (uQ (ss 8) uN)))) (λx' =>
      (uM (ve 8 yD.nd (vd (Kc uP))))))
      (uM (vo (tw_cm Vs (ss 8) uP (vI _))
      (uM<|wj 4<|wz (ss 9)<|ss 8)
      vi))))))
      vi)) (by
   refine PQ λQ R b3 b4 P b6 S b8 b9 T U=>?_
   intro Kn Kr Ke h
   walk_at "wl"
   refine A6 λx m=>?_
   obtain⟨⟨c,v,N,A,o⟩,t⟩:=h
   refine m ?_
   dsimp only at c v N A o t ⊢
   have sl:gL=16777216:=iQ
   have al:=A.KR c N
   by_cases q:S.l=[]
   · rw[cr<|by simp[q]]
     exact t _ #[rfl,rfl,c,A]
   · rw[gI<|by simp[q]]
     have l7:S.l.length<=35:=by rw[o];have:=iu (λk=>!decide (eb R k=[]))<|CY R;have:=AF R;omega
     have p7:0<S.l.length:=List.length_pos_iff.mpr q
     refine wv q0d q0d λi X i1=>?_
     refine A6 λx m=>?_
     obtain⟨hg,a1,a2,Y⟩:=xf X i1
     refine m ?_
     rw[o,jl]at Y
     obtain⟨y,G⟩:=Option.isSome_iff_exists.mp<|zp.mp Y.1
     have yn:y.2≠[]:=λz=>by have:=Y.2;rw[yC G,z]at this;simp at this
     have yl:y.2.length<=95:=by
         exact Jh v G
     have py:0<y.2.length:=List.length_pos_iff.mpr yn
     refine#[hg,a1,_,(vc G).2.2.2,y,rfl,_,(vc G).2.2.2,y,rfl,wv q0d q0d λi' ab ae=>?_]
     refine A6 λx m=>?_
     obtain⟨lo,l1,l2,l3⟩:=xf ab ae
     refine m ?_
     refine#[lo,l1,Xp A c v N G l3 (λD hD=>#[hD,?_]) λx' c' A'=>?_]
     · rw[cr<|λz => g8 (kJ z) q0d]
       exact t _ #[rfl,rfl,c,A]
     · rw[gI<|decide_eq_true (vc G).1]
       exact#[by show P.l.length<gL;omega,t _ #[rfl,rfl,c',A']])))) q0q q0q)
      (uM (uZ (Kw rfl B.sorted (wh 4)))))))) λp Kn Ke h=>?_
  walk_at "wl"
  refine A6 λx m=>?_
  obtain⟨c0,v,N,n1,n2,tr,h⟩:=h
  have sl:gL=16777216:=iQ
  refine m ?_
  refine#[by show p.2.1.length<1000;omega,by show (CY p.2.1).length<=gL;have:=AF p.2.1;omega,?_]
  refine v7 (q:=λk=>!decide (eb p.2.1 k=[])) (λk hk K t=>?_) ?_
  · obtain⟨y, G⟩ := Option.isSome_iff_exists.mp (zp.mp hk)
    refine#[_,(vc G).2.2.2,y,rfl,?_]
    rw[yC G]at t
    exact t
  dsimp only
  refine#[q0d,?_]
  refine vy (λ(_:List Int) (b:B0×List RW×Bg×Int×OL (Int×Int)×WL.Un×OL Int×WL.Un×WL.Un×WL.Un×Unit)=>b.2.1=p.2.1/\b.2.2.2.2.2.2.1.l=(CY p.2.1).filter (λk=>!decide (eb p.2.1 k=[]))/\xW b.1 p.2.1/\Arr b.1 b.2.2.2.2.1.l) _ #[rfl,rfl,c0,Uz (c0.Zx v) n1 n2] ?_ ?_
  · intro k r
    refine PQ λQ R b3 b4 P b6 S b8 b9 T U=>?_
    rintro _ ⟨rfl,o,c,A⟩ K t
    dsimp only at o c A ⊢
    have al:=A.KR c N
    by_cases e5:P.l=[]
    · rw[cr (by simp[e5]), cr gV]
      exact#[#[c,v,N,A,o],λM I=>t _ #[I.1,by rw[I.2.1];exact o,I.2.2.1,I.2.2.2]]
    · rw[gI<|by simp[e5]]
      refine wv q0q q0q λz z0 z1=>?_
      by_cases e8:z=8
      · rw[gI<|decide_eq_true e8]
        have p5:0<P.l.length:=List.length_pos_iff.mpr e5
        refine wv q0d q0d λi X i1=>?_
        refine A6 λx m=>?_
        obtain⟨y,a1,a2,Y⟩:=xf X i1
        refine m ?_
        exact#[X,y,a2,q0d,Ji A c a2 λw x' c' A'=>t _ #[rfl,o,c',A']]
      · rw[cr<|by simpa using e8]
        exact#[#[c,v,N,A,o],λM I=>t _ #[I.1,by rw[I.2.1];exact o,I.2.2.1,I.2.2.2]]
  · refine PQ λQ R b3 b4 P b6 S b8 b9 T U => ?_
    rintro⟨rfl,o,c,A⟩
    have c:xW Q p.2.1:=c
    have A:Arr Q P.l:=A
    have al:=A.KR c N
    refine#[by show P.l.length<64;omega,λps hp so=>h Q ps c #[A.ok,A.nt,(hp.map _).trans A.pm,λe he=>A.hd e<|hp.mem_iff.mp he]<|Xo so]
noncomputable abbrev Hv:ic:=top 38
abbrev Hw:List Str:=["_law_bag_here","_law_most"]
def B3:uT ["_law_bag_here","_law_most","_law_rows_here","_law_field","_law_arrows"] Hw (uK Hv):=by walk_at "sc"
abbrev UN(q:Cq)(k:Nat):=wW q "_law_house" Hw (ML) k
def RC(F:Du q "_law_house" Hv f D)(e:Mk q.K C g)(i:vt q.P q.w q.K q.mg q.base (vF q.P q.w) 8 g b ["self"] (Dw C))(k:Binds q.K b ["self"] [])(d:q.mg "Field"=↑(.ref C))(l:Xv q 9)(m:Xw q 9)(o:Xx q 9)(r:wW q "_law_pull" ["_law_bag_here","_law_many"] xV 9)(B:Bn q.mg):Gq q 10 f D Hw (ML):=by
 refine' uV (wn (D':=Unit) (ms:=[0]) (j:=3) F B3 rfl rfl λG A u s H E I =>
   (uY (ve 2 B3.nd (vh l (vA 0 84)))
   (uY (ve 3 B3.nd (vh m (Tl (Qk e i I rfl d k zw) (vP 2 uN))))
   (uY (ve 4 B3.nd (vh o (vA 3 (vP 2 (vA 0 (uQ (uX (vh r (vA 0 (uQ (zg y9 (Pr AY uP (wx rfl B.len (wh 2))) uP) uN)))) uN))))))
   (uM (TX 3 2 4 (pv 3) (pv 2) (pv 4))))))) λp R S h=>?_
 walk_at "wl"
 obtain⟨J,h⟩:=h;refine#[J,λt v y=>?_];refine#[rfl,v,λx c L M=>?_];dsimp only;refine#[.inl q0q,wv (n:=2*(t.length:Int)+1) q0d q0d λz T U=>?_];exact#[c,v,y,L,M,by show 0<=z/\z<=1000;omega,λN a O A Q=>h N t a O v y A Q]
noncomputable abbrev EK:ic:=top 41
noncomputable abbrev EL:List Str:=["_law_arrows"]
def N8:uT ["_law_arrows"] EL (uK EK):=by walk_at "sc"
def EM:(["_law_low","_law_high"]:List Str).Nodup:=by decide +kernel
abbrev Jk(q:Cq)(k:Nat):=wW q "_law_tails" EL Jg k
def N9(F:Du q "_law_tails" EK f l):Gq q 2 f l EL Jg:=by
 refine' uV (wn (D':=Unit) (ms:=[]) (j:=0) F N8 rfl rfl λm A c s H E o =>
   (uM (uZ (w4 (Ts:=["_law_low","_law_high"]) (Fr:=[]) (idx:=[]) (k:=2) (mb:=[]) (is:=[]) (cl:=[]) rfl (vZ (ss 0)) Zf rfl (wG rfl) (λa b C d g=>(BE 0 1 (B9 rfl (wg (uW (i:=0) EM) (wg (uW (i:=1) EM) Ap))) q0q q0q)) (λa b C d g=>tws_nil) (λa b C d g=>(ss 0)))))) λp r t h=>?_
 walk_at "wl"
 obtain⟨u,h⟩:=h;have v:gL=16777216:=iQ;refine#[q0a,?_];refine vV (f:=λ(e:Int×Int)=>↑e.1) (λe w K n=>n) ?_;rw[sE];exact h
abbrev Ll:ic:=top 42
abbrev Lm:List Str:=["_law_arrows","_law_tail"]
def Hx:uT ["_law_arrows","_law_tail","_law_low","_law_high"] Lm (uK Ll):=by walk_at "sc"
abbrev Xy(q:Cq)(k:Nat):=wW q "_law_head" Lm w_head k
def UO(F:Du q "_law_head" Ll f k):Gq q 2 f k Lm w_head:=by
 refine' uV (wn (D':=Unit) (ms:=[]) (j:=2) F Hx rfl rfl λl A a s H E x =>
   (uY (v8 (is:=[]) (mb:=[]) (D1:=(List (Int×Int))×Int×Int×Int×Unit) (D2:=(List (Int×Int))×Int×Int×Int×Unit) (vn q0q) yc rfl (vZ (ss 0)) (BE 2 3 (B9 rfl (wg (uW (i:=2) Hx.nd rfl (ko rfl)) (wg (uW (i:=3) Hx.nd rfl (ko rfl)) Ap))) q0q q0q)
   (uM (vo (tw_cm zy (ss 2) (ss 1) (vI _))
   (uM<|uZ<|vd<|ss 3)
   vi)) q0q q0q)
   (uM (uZ (vd (Kc uP)))))) λp y B h=>?_
 walk_at "wl"
 obtain⟨m,n⟩:=h;refine vy (λ(r:List (Int×Int)) (b:List (Int×Int)×Int×WL.Un×WL.Un×Unit)=>b.2.1=p.2.1/\(∀e∈r,e∈p.1)/\∃e∈r,e.1=p.2.1) p.1 #[rfl,λ_ z=>z,m] ?_ ?_
 ·rintro e r b _ ⟨o,c,t⟩ K u;rw[o];by_cases q:e.1=p.2.1
  ·rw[gI<|decide_eq_true q];exact n e (c e gM) q
  ·rw[cr<|by simpa using q];refine u _ ⟨rfl,λd v=>c d<|gQ _ v,?_⟩;obtain⟨d,w,g⟩:=t;rcases List.mem_cons.mp w with z|z
   ·exact g8 (z▸g) q
   ·exact#[d,z,g]
 ·rintro b ⟨_,_,e,z,_⟩;cases z
abbrev Lo:ic:=top 43
abbrev Lq:List Str:=["_law_rows_here","_law_arrows","_law_tail"]
def Hy:uT ["_law_rows_here","_law_arrows","_law_tail","_law_head_here","_law_tails_here"] Lq (uK Lo):=by walk_at "sc"
def RD:(["_law_x","_law_tail","_law_tails_here"]:List Str).Nodup:=by decide +kernel
abbrev Xz(q:Cq)(k:Nat):=wW q "_law_next" Lq w_next k
def UP(F:Du q "_law_next" Lo f z)(b:Xy q 2)(a:Jk q 2):Gq q 3 f z Lq w_next:=by
 refine' uV (wn (D':=Unit) (ms:=[]) (j:=2) F Hy rfl rfl λB A m s H E r =>
   (uY (ve 3 Hy.nd (vh b (uQ (ss 1) (uQ (ss 2) uN))))
   (uY (vo (tw_cm L5 (ss 3) uP (vI _))
   (uM<|uZ<|vg (α:=Int) vf)
   vi)
   (uY (ve 4 Hy.nd (vh a 84) (hx:=uB rfl))
   (uM (uZ (w4 (Ts:=["_law_x"]) (Fr:=["_law_tail","_law_tails_here"]) (idx:=[2,4]) (k:=1) (mb:=[1,2]) (is:=[]) (cl:=[("_law_tails_here",⇑s+1+1),("_law_tail",⇑s+1)]) rfl (vZ (zQ (zx (wM (vE (ss 0)) (ss 3))))) Z6 rfl (wG rfl) (λc d C t u=>(vj 0 (uW (i:=0) RD rfl (ko rfl)) q0q)) (λc d C t u=>(tws_one (tw_w (Gu (tw_cm CO (ss 0) (ss 1) (vI _)) (Dm (tw_cmI Vt (ss 0) (wh 2) (by with_unfolding_all rfl))))))) (λc d C t u=>(ss 0))))))))) λp M N h=>?_
 walk_at "wl"
 refine A6 λn g=>?_;obtain⟨⟨r,D,G⟩,I⟩:=h;have O:gL=16777216:=iQ;refine g ?_;refine#[D,λe v w=>?_];refine A6 λn g=>?_;obtain⟨y,o⟩:=r e v w;obtain⟨J,x⟩:=I e v w;refine g ?_;rw[yC o]at J x;have L:=(vc o).1;rw[cr<|by simpa using L];refine⟨G,_,(vc o).2.2.2,y,rfl,q0d,v7 (q:=λk=>decide (k≠p.2.2.1)&&decide (k∈p.2.1.map (·.1))) (λk _ K l=>?_) x⟩;show if (!decide (k=p.2.2.1))=true then (if decide (k∈p.2.1.map (·.1))=true then _ else _) else _;by_cases q:k=p.2.2.1
 ·rw[cr<|by simp[q]];rw[cr<|by simp[q]]at l;exact l
 ·rw[gI<|by simp[q]];simp only[q,ne_eq,not_false_eq_true,decide_true,Bool.true_and]at l;exact l
abbrev Bb:ic:=top 44
abbrev Bc:List Str:=["_law_rows_here","_law_arrows","_law_row_here"]
def An:uT ["_law_rows_here","_law_arrows","_law_row_here","_law_k","_law_there"] Bc (uK Bb):=by walk_at "sc"
abbrev Lr(q:Cq)(k:Nat):=wW q "_law_is_order" Bc (EJ) k
def Jl(F:Du q "_law_is_order" Bb f T)(l:VE q 3)(a:Jk q 3)(d:Xz q 3)(B:Bn q.mg):Gq q 4 f T Bc (EJ):=by
 refine' uV (wn (D':=Unit) (ms:=[]) (j:=2) F An rfl rfl λU A D s H E W =>
   (uY (vo (tw_w (BB (tw_not (tw_val (uX (vh l (uQ (ss 2) uN))))) (zS (tw_cmL (Cp W.units) (vE (vz (FJ rfl B.sorted (vE (ss 2))))) (vE (vz (vh a 84))) (vI _)))))
   (uM<|uZ<|vd x8)
   vi)
   (uY (v8 (is:=[]) (mb:=[]) (D1:=54×(List (Int×Int))×(List Int)×Int×Un×Unit) (D2:=54×(List (Int×Int))×(List Int)×Int×Un×Unit) (vn q0q) yc rfl (wK rfl B.range (wx rfl B.len (vE (ss 2)))) (vj 3 (uW (i:=3) An.nd rfl (ko rfl)) q0q)
   (uM (v8 (is:=[]) (mb:=[]) (D1:=54×(List (Int×Int))×(List Int)×Int×Int×Unit) (D2:=54×(List (Int×Int))×(List Int)×Int×Int×Unit) (vn q0q) yc rfl (vZ (vz (vh d (uQ (ss 0) (uQ (ss 1) (uQ (wM (vE (ss 2)) (ss 3)) uN)))))) (vj 4 (uW (i:=4) An.nd rfl (ko rfl)) q0q)
   (uM (vo (tw_cmI D8 (ss 4) (vE (vz (D7 (vE (ss 2)) (Dl (zg y9 (ss 3) uP)) Dk))) (by with_unfolding_all rfl))
   (uM<|uZ<|vd x8)
   vi)) q0q q0q)) q0q q0q)
   (uM (uZ (vd x8)))))) λp Kn Ke h=>?_
 walk_at "wl"
 refine A6 λG m=>?_;obtain⟨⟨x,c,v,X,A,Y,C⟩,k⟩:=h;have Z:=A.KR c X;have sl:gL=16777216:=iQ;have ol:p.2.2.1.length<=35:=by rw[C.pm.length_eq,wc,gN];exact Z.1
 refine m ?_;refine Xn ?_;rw[cr q0q];refine#[q0d,by show p.2.1.length<64;omega,?_];show if (!decide (CM p.2.2.1=p.2.1.map (·.1)))=true then _ else _;rw[cr<|by rw[yh ((wF _).trans<|C.pm.trans A.pm.symm) (Aw _) Y];simp];refine⟨⟨q0d,q0d⟩,?_⟩;refine vy (λ(r:List Int) (b:List RW×List (Int×Int)×List Int×WL.Un×WL.Un×Unit)=>(b.1=p.1/\b.2.1=p.2.1/\b.2.2.1=p.2.2.1)/\∀i∈r,0<=i/\i<p.2.2.1.length) _ #[#[rfl,rfl,rfl],λi hi=>DA hi] ?_ λ_ _=>k;rintro i r b _ ⟨⟨e1,e2,e3⟩,O⟩ K I;refine A6 λG m=>?_;obtain⟨i0,i1⟩:=O i gM;obtain⟨t,a1,a2,a3⟩:=xf i0 i1;have P:=C.pm.mem_iff.mp a3;have I:=λg h1 h2 h3=>I g #[#[h1,h2,h3],λz J=>O z<|gQ _ J];refine m ?_;rw[e1,e2,e3];obtain⟨e0,m0,n0⟩:=List.mem_map.mp<|A.pm.mem_iff.mpr P
 have Q:∀e∈p.2.1,e.1=t->e.2=wO x t/\∃y,rowAt p.1 e.2=↑y:=λe w n=>by
  have q:e.2=wO x t:=by rw[<- A.hd e w,n]
  have:=A.ok.Ny P;rw[c.rk,iH,<- q]at this;exact#[q,Option.isSome_iff_exists.mp this]
 refine#[t,a1,#[λe w n=>(Q e w n).2,#[e0,m0,n0],by show p.2.1.length<64;omega],λe w n=>?_];obtain⟨q,y,L⟩:=Q e w n;have yl:=Jh v L;rw[yC L];refine#[q0d,?_];refine vy (λ(r:List Int) (g:List RW×List (Int×Int)×List Int×Int×WL.Un×Unit)=>(g.1=p.1/\g.2.1=p.2.1/\g.2.2.1=p.2.2.1/\g.2.2.2.1=i)/\∀u∈r,u∈p.2.2.1.drop (i.toNat+1)) _ #[#[rfl,rfl,rfl,rfl],λu o=>C.a1w a2<|wR.mpr ?_] ?_ ?_
 ·have o:=List.mem_filter.mp o;simp only[iw,iF]at o;exact#[by rw[<- q,c.yk,yC L];exact o.1,o.2.1,A.pm.mem_iff.mp o.2.2]
 ·rintro u r' g _ ⟨⟨M,g2,g3,R⟩,S⟩ K' N;rw[g3,R];rw[cr<|by rw[show i=(i.toNat:Int) by omega,Rq];simpa using S u gM];exact N _ ⟨⟨M,g2,rfl,rfl⟩,λz J=>S z<|gQ _ J⟩
 ·rintro g ⟨⟨M,g2,g3,R⟩,_⟩;exact I _ M g2 g3
abbrev Hz:ic:=top 46
abbrev HA:List Str:=["_law_found","_law_due"]
def RE:uT ["_law_found","_law_due"] HA (uK Hz):=by walk_at "sc"
abbrev UQ(q:Cq)(k:Nat):=wW q "_law_truth" HA Hk k
def RF(F:Du q "_law_truth" Hz f b)(B:Bn q.mg):Gq q 2 f b HA Hk:=by
 refine' uV (wn (D':=Unit) (ms:=[]) (j:=0) F RE rfl rfl λc A a s H E d =>
   (uM (uZ (vd (D9 (yi (ty:="bool") rfl B.isinstance (Ao (v:=.ty "bool") rfl B.bool qE rfl) (ss 0)) (Ay (YM zy (ss 0) (ss 1) (vI _)))))))) λp e g h=>?_
 walk_at "wl"
 rw[gI rfl];exact h
abbrev zr:ic:=top 47
abbrev zt:List Str:=["_law_body","_law_rows_here"]
def yG:uT ["_law_body","_law_rows_here","_law_cell"] zt (uK zr):=by walk_at "sc"
abbrev HB(q:Cq)(k:Nat):=wW q "_law_cells_kept" zt (B2) k
def Fh(F:Du q "_law_cells_kept" zr f O)(L:AK q.K C)(e:Xu q 6)(a:K5 q 6)(n:UQ q 6)(o:Hq q 6)(t:Mu q 6)(g:QM q 6)(l:QL q 6)(d:Uk q 6)(m:QP q 6)(B:Bn q.mg):Gq q 7 f O zt (B2):=by
 refine' uV (wn (D':=Unit) (ms:=[0]) (j:=1) F yG rfl rfl λP A z s H E M =>
   (uY (vo (tw_w (BB (tw_not (tw_val (uX (vh e (uQ (vz (BL 0 t M L.cl zw (pv 0))) (uQ (vz (vh a 84)) uN)))))) (zS (tw_cm CO (uX (BL 0 g M L.cl zw (pv 0))) (wx rfl B.len (vE (ss 1))) (vI _)))))
   (uM<|uZ<|vd x8)
   vi)
   (uY (v8 (is:=[]) (mb:=[0]) (D1:=(Bd C true)×54×Int×Unit) (D2:=(Bd C true)×54×Int×Unit) (vn q0q) yc rfl (Nz rfl B.range (Kc uP) (zg y9 (wx rfl B.len (vE (ss 1))) uP) (λh=>MX rfl B.range h)) (vj 2 (uW (i:=2) yG.nd rfl (ko rfl)) q0q)
   (uM (vo (tw_not (tw_val (uX (vh n (uQ (uX (v6 0 l (uQ (ss 2) uN))) (uQ (WJ Vt (ss 2) (vE (vz (vh a 84))) (by with_unfolding_all rfl)) uN))))))
   (uM<|uZ<|vd x8)
   vi)) q0q q0q)
   (uY (v8 (is:=[]) (mb:=[0]) (D1:=(Bd C true)×54×Int×Unit) (D2:=(Bd C true)×54×Int×Unit) (vn q0q) yc rfl (vZ (vz (vh a 84))) (vj 2 (uW (i:=2) yG.nd rfl (ko rfl)) q0q)
   (uY (vo (tw_w (BB (tw_cm CO (uX (v6 0 d (uQ (ss 2) uN))) (Cn (zx (wM (vE (ss 1)) (ss 2)))) (vI _)) (zS (tw_not (tw_val (uX (vh o (uQ (uX (v6 0 d (uQ (ss 2) uN))) uN))))))))
   (uM<|uZ<|vd x8)
   vi)
   (uM (vo (tw_not (tw_val (uX (vh e (uQ (vz (v6 0 m (uQ (ss 2) uN))) (uQ (zQ (zx (wM (vE (ss 1)) (ss 2)))) uN))))))
   (uM<|uZ<|vd x8)
   vi))) q0q q0q)
   (uM (uZ (vd x8))))))) λp S T h=>?_
 walk_at "wl"
 obtain⟨c,v,h⟩:=h;have U:=v.ln;refine#[c.Zx v,(show p.2.1.length<1000 by omega),MJ c.ks ?_];rw[cr q0q];show if (!decide (p.1.up=(p.2.1.length:Int)))=true then _ else _;rw[cr<|by simp[c.up]];refine⟨⟨q0q,q0q,q0d,q0d⟩,?_⟩;refine vy (λ(r:List Int)(b:B0×List RW×WL.Un×Unit)=>b.1=p.1/\b.2.1=p.2.1) _ #[rfl,rfl] ?_ ?_
 ·rintro k r ⟨D,G,I⟩ _ ⟨u,w⟩ K J;dsimp only at u w ⊢;subst u w;refine#[(show p.2.1.length<1000 by omega),Rn (c.Zz k) ?_];rw[cr q0q];exact J _ #[rfl,rfl]
 ·rintro⟨D,G,I⟩ ⟨u,w⟩;dsimp only at u w ⊢;subst u w;refine#[(show p.2.1.length<1000 by omega),?_];refine vy (λ(r:List Int)(b:B0×List RW×WL.Un×Unit)=>b.1=p.1/\b.2.1=p.2.1/\∀k∈r,(rowAt p.2.1 k).isSome=true) _ #[rfl,rfl,λk Q=>zp.mp Q] ?_ ?_
  ·rintro k r ⟨D,G,I⟩ _ ⟨u,w,N⟩ K J;dsimp only at u w ⊢;subst u w;obtain⟨y,x⟩:=Option.isSome_iff_exists.mp<|N k gM;refine MK c x ⟨_,(vc x).2.2.2,y,rfl,?_⟩;rw[cr q0o];refine MK c x<|EI ?_;rw[cr q0q];refine N3 c v x ⟨_,(vc x).2.2.2,y,rfl,MJ rfl ?_⟩;rw[cr q0q];exact J _ ⟨rfl,rfl,λj R=>N j<|gQ _ R⟩
  ·rintro⟨D,G,I⟩ ⟨u,w,_⟩;dsimp only at u w ⊢;subst u w;exact h
abbrev HC:ic:=top 48
abbrev HD:List Str:=["_law_found","_law_due"]
def Jm:uT ["_law_found","_law_due","_law_k"] HD (uK HC):=by walk_at "sc"
abbrev UR(q:Cq)(k:Nat):=wW q "_law_pairs" HD MM k
def RG(F:Du q "_law_pairs" HC f o)(a:Hq q 3)(B:Bn q.mg):Gq q 4 f o HD MM:=by
 refine' uV (wn (D':=Unit) (ms:=[]) (j:=1) F Jm rfl rfl λt A d s H E u =>
   (uY (vo (tw_w (BB (tw_not (tw_val (yi (ty:="list") rfl B.isinstance (Ao (v:=.ty "list") rfl B.list jR rfl) (ss 0)))) (zS (tw_cm CO (wx rfl B.len (vE (ss 0))) (wx rfl B.len (vE (ss 1))) (vI _)))))
   (uM<|uZ<|vd x8)
   vi)
   (uY (v8 (is:=[]) (mb:=[]) (D1:=(List (Int×Int))×(List (Int×Int))×Int×Unit) (D2:=(List (Int×Int))×(List (Int×Int))×Int×Unit) (vn q0q) yc rfl (wK rfl B.range (wx rfl B.len (vE (ss 1)))) (vj 2 (uW (i:=2) Jm.nd rfl (ko rfl)) q0q)
   (uY (vo (tw_w (BB (tw_not (tw_val (yi (ty:="tuple") rfl B.isinstance (Ao (v:=.ty "tuple") rfl B.tuple qv rfl) (wM (vE (ss 0)) (ss 2))))) (zS (tw_cm CO (TV rfl B.len (wM (vE (ss 0)) (ss 2))) uP (vI _)))))
   (uM<|uZ<|vd x8)
   vi)
   (uM (vo (tw_w (BB (tw_not (tw_val (uX (vh a (uQ (Cn (wM (vE (ss 0)) (ss 2))) uN))))) (BB (tw_not (tw_val (uX (vh a (uQ (zQ (wM (vE (ss 0)) (ss 2))) uN))))) (zS (tw_cm (WH u.units) (wM (vE (ss 0)) (ss 2)) (wM (vE (ss 1)) (ss 2)) (vI _))))))
   (uM<|uZ<|vd x8)
   vi))) q0q q0q)
   (uM (uZ (vd x8)))))) λp C D h=>?_
 walk_at "wl"
 obtain⟨e,n,k⟩:=h;rw[e]at n ⊢;refine qU (cr q0q)<|qU (cr q0o) ⟨⟨q0d,q0d⟩,?_⟩;refine vy (λ(r:List Int) (b:List (Int×Int)×List (Int×Int)×WL.Un×Unit)=>b.1=p.2.1/\b.2.1=p.2.1/\∀j∈r,0<=j/\j<(p.2.1.length:Int)) _ #[rfl,rfl,λj w=>DA w] ?_ λ_ _=>k;intro j r;refine a1b λG I J L=>?_;rintro _ ⟨l,m,g⟩ K x;dsimp only at l m ⊢;subst l m;obtain⟨y,c,_⟩:=xf (g j gM).1 (g j gM).2;exact#[y,c,qU (cr q0q) #[y,c,qU (cr q0q) #[y,c,EI<|qU (cr q0q) ⟨y,c,EI<|qU (cr q0q) ⟨y,c,y,c,qU (cr q0o)<|x _ ⟨rfl,rfl,λi z=>g i<|gQ _ z⟩⟩⟩]]]
abbrev Ls:ic:=top 49
abbrev Lu:List Str:=["_law_field","_law_rows_here","_law_arrows"]
def US:uT ["_law_field","_law_rows_here","_law_arrows"] Lu (uK Ls):=by walk_at "sc"
abbrev XA(q:Cq)(k:Nat):=wW q "_law_kept" Lu (Rp) k
def UT{f:gH}{fd:iB}(F:Du q "_law_kept" Ls f fd)(ct:AK q.K C)(HE:HB q 7)(UU:UR q 7)(RH:Jd q 7):Gq q 8 f fd Lu (Rp):=by
 refine' uV (wn (D':=Unit) (ms:=[0]) (j:=0) F US rfl rfl λRV A outer s H E hr =>
   (uM (uZ (vd (D9 (uX (vh HE (vA 0 84))) (Ay (uX (vh UU (uQ (vz (BL 0 RH hr ct.cl zw (pv 0))) (uQ (ss 2) uN)))))))))) λp Kn Ke h=>?_
 walk_at "wl"
 refine A6 λj0z j0y=>?_;obtain⟨⟨c,v,ln,A,so⟩,k⟩:=h;have al:=A.KR c ln;refine j0y ?_;refine#[c,v,qU (gI rfl) #[by show p.1.ht.length<64;omega,A.ok.nd,A.eq so,?_,k]];show ((CM<|wc p.1).map λl=>(l,wO p.1 l)).length<64;rw[A.eq so];omega
end
noncomputable abbrev RI:ic:=top 26
def XD{K:gG}{p:XY K×Unit}{a:Bg->WL.Un×Unit->Prop}{b:gH->WL.Un×Unit->Prop}(k:a #[] (#[],())):Qc K p a b:=k
section
variable{x:B0}{rows:List RW}{a:List (Int×Int)}
end
section
variable{x:B0}{rows:List RW}{a:List (Int×Int)}{l g:List Int}{Kb:Bool->WL.Un×Unit->Prop}{K1:OL Int->WL.Un×Unit->Prop}{K2:OL Int->WL.Un×WL.Un×Unit->Prop}{E1:gH->WL.Un×Unit->Prop}{E2:gH->WL.Un×WL.Un×Unit->Prop}
def a1x{c:Bool}{P Q:Prop}(h:c=false)(k:Q):if c=true then P else Q:=by rw[cr<|by rw[h];decide];exact k
def a1y{c:Bool}{P Q:Prop}(h:c=true)(k:P):if c=true then P else Q:=by rw[gI h];exact k
end
section
variable{q:Cq}{XL:gH}
noncomputable abbrev B4:ic:=top 50
def Be:uT ["_law_script","_law_bag_here","_law_field","_law_rows_here","_law_arrows","_law_found","_law_gone"] ["_law_script"] (uK B4):=by walk_at "sc"
def XG{f:gH}{M:iB}(F:Du q "law" B4 f M)(N:AK q.K C)(t:wW q "_law_bag" ["_law_script"] (Qc q.K) 10)(g:UN q 10)(b:Lr q 10)(n:wW q "_law_pull" ["_law_bag_here","_law_many"] xV 10)(r:XA q 10)(e:Up q 10)(m:ME q 10)(B:Bn q.mg):Gq q 11 f M ["_law_script"] (VA q.K):=by
  refine' uV (wn (D':=Unit) (ms:=[]) (j:=6) F Be rfl rfl λT A I s H E J =>
      (uY (ve 1 Be.nd (vh t (uQ (ss 0) uN)))
      (uY (TY 2 3 4 (B9 rfl (wg (uW (i:=2) Be.nd rfl (ko rfl)) (wg (uW (i:=3) Be.nd rfl (ko rfl)) (wg (uW (i:=4) Be.nd rfl (ko rfl)) Ap)))) q0q q0q q0q (vh g (vA 1 (uQ uP uN))))
      (uY (ve 5 Be.nd (BL 2 e J N.cl zw (pv 2)))
      (uY (vo (tw_not (tw_val (uX (vh b (vP 3 (vP 4 (vP 5 uN)))))))
      (uM<|uZ<|vd x8)
      vi)
      (uY (wj 5 uP)
      (uY (vo (tw_cmL (Cp J.units) (wh 4) (vE (vz (vg (α:=(Int×Int)) vf))) (vI _))
      (LZ (D':=(XY q.K)×Bg×(Bd C true)×(OL (Option (Int×(List Int))))×(OL (Int×Int))×(OL Int)×Un×Unit) (uY (ve 6 Be.nd (vd (FP 4 (pv 4) (uX (vh n (vA 1 (uQ (wx rfl B.len (wh 4)) uN)))) (λh=>OK kC mu mw Ig (pv 4) h))))
      (uM (vY (uX (v6 2 m (uQ (Cn (ss 6)) uN)))))))
      vi)
      (Mh (w':=λ(d:(XY q.K)×Bg×(Bd C true)×(OL (Option (Int×(List Int))))×(OL (Int×Int))×(OL Int)×Un×Unit) (_:Unit->Prop) (O:Bool->Un×Unit->Prop) (_:gH->Un×Unit->Prop)=>(Arr d.2.2.1 d.2.2.2.2.1.l/\xW d.2.2.1 d.2.2.2.1.l/\Vr d.2.2.2.1.l/\d.2.2.2.1.l.length<=35/\(d.2.2.2.2.1.l.map (·.1)).Pairwise (·<=·))/\O true (#[],())) (uM (uZ (vd (D9 (uX (vh b (vP 3 (vP 4 (uQ (vz (BL 2 e J N.cl zw (pv 2))) uN))))) (Ay (uX (vh r (vA 2 (vP 3 (vP 4 uN)))))))))) (by
   intro d P O U h
   walk_at "wl"
   refine A6 λL u=>?_
   obtain⟨⟨A,c,v,z,D⟩,k⟩:=h
   refine u ?_
   exact#[A.ok,λo G=>#[#[_,c,v,z,A,D,G],a1y rfl #[#[c,v,z,A,D],k]]]
))))))))) λp P U h=>?_
  walk_at "wl"
  have h:P true (#[],()):=h
  refine XD #[#[q0q,q0q],λx Q a c v z A D=>?_]
  have W:=A.KR c z
  have sl:gL=16777216:=iQ
  refine#[A.ok,λo G=>#[#[x,c,v,z,A,D,G],a1x rfl ?_]]
  have ol:o.length<=35:=by rw[G.pm.length_eq,wc,gN];exact W.1
  refine#[by show o.length<gL;omega,?_]
  by_cases q:a=[]
  · rw[cr<|by simp[q]]
    exact#[#[A,c,v,z,D],h]
  · rw[gI<|by simp[q]]
    have p5:0<a.length:=List.length_pos_iff.mpr q
    refine wv (by show 0<(a.length:Int);omega) (by show (a.length:Int)<_;omega) λi R X=>?_
    refine A6 λL u=>?_
    obtain⟨y,a1,S,a3⟩:=xf R X
    refine u ?_
    exact#[R,y,S,by show a.length<1000;omega,Ji A c S λw x' Y Z=>#[#[Z,Y,v,z,qA ((List.eraseIdx_sublist _ _).map _) D],h]]
end
section
variable{P:im}{w:iL}{K:gG}{mg:Str->Option ci}{base:iG}
def RJ:uT ["_law_bag_here","_law_many","_law_seed","_law_mixed","_law_drawn"] ["_law_bag_here","_law_many"] (uK KO):=#[rfl,rfl,rfl,q0s,rfl,q0s,q0s]
def UV(F:yE K "_law_pull" "_law_pull" KO f I)(c:mg "len"=none):vt P w K mg base OY 1 f I ["_law_bag_here","_law_many"] WL.PP:=by
 refine F.ok RJ (λJ H Q E h=>?_)<|λL A p s H J Q E N h=>?_
 ·obtain⟨g,q,m,i,z,s,e,rfl,_⟩:=h;rfl
 ·obtain⟨g,q,m,i,z,j,e,rfl,B,d,v,k⟩:=h;have l:=RJ.nd
  refine#[_,vU (LG (xB Va 70 vk (vI _))
    (vU (Sg (pv 0) vk Pc vk On set_list)
    (vU (zF (i:=2) l rfl (ko rfl) 70)
    (vU (LG (xB Va 70 (ww wX (by rfl) c mo (uS 70 u4)) (vI _))
     (xz (zF (i:=2) l rfl (ko rfl) (xY wy 70 (wC JC 70 vk) (λ_ _=>rfl)))) y8)
    (vU (LG (U4 (xB Vb 70 (ww wX (by rfl) c mo (uS 70 u4)) (vI _)) (Oj (xB U9 (pv 2) (wC V5 vk vk) (vI _)))).pt
     (vU (zF (i:=3) l rfl (ko rfl) (wC Ca (wC y9 (wC y9 (wC AY (pv 2) vk) (wC AY 70 vk)) vk) vk))
     (vU (zF (i:=3) l rfl (ko rfl) (wC Ca (wC AY (pv 3) (pv 3)) vk))
     (xz (B8 (wC Ca (wC LH (wC Ca (wC AY (wC y9 (pv 3) 70) vk) vk) vk) (pv 1)))))) y8)
    (xz (Jz (pv 2) (Om (pv 0) vk set_list))))))) y8)
   (vU (zF (i:=4) l rfl (ko rfl) (wC Ca 70 (pv 1)))
   (vU (Jz (wC LH 70 (pv 1)) (Om (pv 0) vk set_list))
   (xz (B8 (pv 4))))),?_]
  refine#[_,rfl,g,_,_,_,rfl,rfl,vX.of B.ob,PN _ _ _ _,_,_,rfl,rfl,_,rfl,?_];refine Sz (λ_=>?_)<|λ_=>?_
  ·-- r[1] += 1;x=r[3]
   refine#[_,rfl,g,_,_,_,rfl,rfl,B.ob,q0q,rfl,_,_,rfl,rfl,g,_,_,1,rfl,rfl,B.ob,rfl,?_];have a:CQ (upd H g<|.lst<|E8 q (i+1) z j) g q m (i+1) z j:=B.put (by have:=B.i0;lia);refine⟨_,rfl,g,_,_,_,rfl,rfl,vX.of a.ob,a09 _ _ _ _,?_⟩;refine⟨_,rfl,g,_,_,_,rfl,rfl,vX.of a.ob,PM _ _ _ _,_,rfl,g,_,_,_,rfl,rfl,vX.of a.ob,WV _ _ _ _,q,_,rfl,.inl<|vX.of a.sc,_,_,rfl,rfl,_,rfl,?_⟩;have b:=a;refine' cutG (α:=Int) (G:=_) (λy=>Sz (λC=>?_)<|λC=>?_) ?_
   rotate_left
   ·have t:i+1<=((m.map V.int).length:Int):=kJ C;rw[gN]at t;obtain⟨n,M⟩:=Tk (ns:=m) (i:=i+1-1) (by have:=B.i0;lia) q0a;refine#[_,rfl,g,_,_,_,rfl,rfl,vX.of a.ob,WV _ _ _ _,_,rfl,g,_,_,_,rfl,rfl,vX.of a.ob,PM _ _ _ _,_,_,rfl,rfl,q,_,_,_,rfl,rfl,vX.of a.sc,M,?_];exact y n
   ·exact y j
   ·intro n;refine#[_,rfl,g,_,_,_,rfl,rfl,vX.of a.ob,PM _ _ _ _,_,rfl,g,_,_,_,rfl,rfl,vX.of a.ob,WV _ _ _ _,q,_,rfl,.inl<|vX.of a.sc,_,_,rfl,rfl,_,rfl,?_];refine' cutP (G:=_) (λD=>Sz (λ_=>a0J D)<|λ_=>?_) ?_
    ·refine#[_,rfl,_,_,rfl,rfl,#[q0q,q0q,q0q],_,_,rfl,rfl,_,rfl,?_];refine Sz (λ_=>D)<|λ_=>?_;refine#[_,rfl,_,rfl,g,_,_,2,rfl,rfl,a.ob,rfl,?_];have b:=a.put (z':=n) a.i0;have u:=(Kp.at (g:=g) (H:=H) (o:=.lst<|E8 q (i+1) z j)).trans<|Kp.at (o:=.lst<|E8 q (i+1) n j);refine#[_,rfl,g,_,_,_,rfl,rfl,vX.of b.ob,PN _ _ _ _,_,rfl,_,_,rfl,rfl,d,?_];refine#[_,rfl,g,_,_,_,rfl,rfl,vX.of b.ob,PN _ _ _ _,_,rfl,_,_,rfl,rfl,#[d,v],_,rfl,g,_,_,2,rfl,rfl,b.ob,rfl,?_];exact#[_,rfl,k _ _ _ _ (u.trans Kp.at) (b.put b.i0) (rj _ q0a)<|qe _ d]
    ·refine#[_,rfl,_,_,rfl,rfl,.inr #[q0q,q0q],_,rfl,g,_,_,_,rfl,rfl,vX.of a.ob,PM _ _ _ _,_,_,rfl,rfl,.inr #[q0q,q0q],_,_,rfl,rfl,_,_,rfl,rfl,_,_,rfl,rfl,(by show (0:Int)<2147483647;decide),?_];refine#[_,rfl,_,rfl,_,_,rfl,rfl,.inl<|YW _,_,_,rfl,rfl,(by show (0:Int)<2147483629;decide),?_];refine#[_,rfl,_,rfl,g,_,_,_,rfl,rfl,vX.of a.ob,PM _ _ _ _,_,_,rfl,rfl,_,_,rfl,rfl,.inr #[q0q,q0q],_,_,rfl,rfl,(by show (0:Int)<998244353;decide),_,_,rfl,rfl,#[q0q,q0q],_,rfl,_,_,rfl,rfl,d,?_];exact k _ _ _ _ Kp.at a (rj _ q0a)<|qe _ d
  ·have b:=B;have u:=Kp.refl g H;refine#[_,rfl,g,_,_,_,rfl,rfl,vX.of b.ob,PN _ _ _ _,_,rfl,_,_,rfl,rfl,d,?_];refine#[_,rfl,g,_,_,_,rfl,rfl,vX.of b.ob,PN _ _ _ _,_,rfl,_,_,rfl,rfl,#[d,v],_,rfl,g,_,_,2,rfl,rfl,b.ob,rfl,?_];exact#[_,rfl,k _ _ _ _ (u.trans Kp.at) (b.put b.i0) (rj _ q0a)<|qe _ d]
def MO:uT ["_law_script","_law_salt","_law_one"] ["_law_script"] (uK RI):=#[rfl,rfl,rfl,q0s,rfl,q0s,q0s]
def a1z(a:List Int)(b c:Option Int):∃d:List Int,DM (a.map V.int) b c=d.map V.int:=by unfold DM;exact#[_,by rw[<- List.map_drop,<- List.map_take]]
def XH(F:yE K "_law_bag" "_law_bag" RI f U)(m:mg "len"=none)(g:mg "list"=none):vt P w K mg base OY 1 f U ["_law_script"] (WL.Vz K):=by
 refine F.ok MO (λX H Q E h=>?_)<|λY A B s H X Q E hr h=>?_
 ·obtain⟨a,N,rfl,_⟩:=h;rfl
 ·obtain⟨a,N,rfl,C,k⟩:=h
  refine#[_,vU (zF (i:=1) MO.nd rfl (ko rfl) (ww wX (by rfl) m mo (uS (zJ Df (pv 0) Dd (De vk)) u4)))
   (vU (Oq PassesOwn.never rfl (FZ (zJ Df (pv 0) Dd (De vk))) (uW (i:=2) MO.nd)
    (xz (zF (i:=1) MO.nd rfl (ko rfl) (wC Ca (wC y9 (wC AY (pv 1) vk) (pv 2)) vk))))
   (xz (B8 (OA (uS (xi ya rfl g jR (uS (zJ Df (pv 0) Dd (De vk)) u4)) (uS vk (uS vk (uS (pv 1) u4)))))))),?_]
  obtain⟨b,j⟩:=a1z N none<|some 63;refine⟨_,rfl,63,rfl,a,_,rfl,C,λp Z=>?_⟩;rw[j];have O:C6 H (upd H p<|.lst<|b.map V.int):=zU Z;refine⟨p,_,rfl,.inl<|vX.of uO,?_⟩;refine⟨_,rfl,63,rfl,a,_,rfl,O.seq C,λn D=>?_⟩;rw[j];have s2:C6 (upd H p<|.lst<|b.map V.int) (upd (upd H p<|.lst<|b.map V.int) n<|.lst<|b.map V.int):=zU D;have c:=O.trans s2;generalize G:upd (upd H p<|.lst<|b.map V.int) n (.lst<|b.map V.int)=H2 at c;have q:H2 n=↑(.lst<|b.map V.int):=by rw[<- G];exact uO
  refine#[n,rfl,#[_,vX.of q],Ot (K:=K) (a:=n) (xs:=b.map V.int) (λi u x=>x=H2/\∃(r:Int)(v:Option V),u=[some<|.ref a,some<|.int r,v]) ⟨rfl,_,none,rfl⟩ (λi u x _ z9=>e0a2 z9 λe _=>by rw[e];exact vX.of q) ?_ ?_]
  ·rintro i y u x d ⟨rfl,r,v,rfl⟩
   obtain⟨z,rfl⟩:∃z,y=V.int z:=by
    rw[jx]at d
    cases e:b[i]? with
    |none=>rw[e]at d;cases d
    |some z=>rw[e]at d;exact#[z,(iP d).symm]
   exact#[_,rfl,_,_,rfl,rfl,.inr #[q0q,q0q],_,rfl,_,_,rfl,rfl,_,_,rfl,rfl,(by show (0:Int)<1000003;decide),rfl,_,_,rfl]
  ·rintro u x ⟨rfl,r,v,rfl⟩;refine#[_,rfl,63,rfl,a,_,rfl,c.seq C,λp3 I=>?_];rw[j];refine#[p3,_,rfl,.inl<|vX.of uO,λJ t=>#[_,rfl,(by decide:4<=gL),λR l=>?_]];have L:=zU (o:=.lst<|b.map V.int) I;have S:=zU (o:=.lst<|b.map V.int) t;have T:=zU (o:=.lst<|E8 J 0 0 r) l;have M:J≠R:=uU uO l;refine k _ R J b r (((c.trans L).trans S).trans T) #[uO,T _ _ uO,oh _,M] ?_ ?_
   ·exact(((c.trans L).trans S).free l)
   ·exact((c.trans L).free t)
end
section
variable{q:Cq}{XL:gH}
noncomputable abbrev Lv:ic:=AT (top 23) 1
def UW:xg CU CU (uK Lv):=by walk_at "ss"
noncomputable abbrev EN:ic:=AT (top 23) 4
def Oa:xg yz yz (uK EN):=by walk_at "ss"
noncomputable abbrev HF:ic:=AT (top 23) 8
def RK:xg Ah Ah (uK HF):=by walk_at "ss"
noncomputable abbrev zu:ic:=AT (top 23) 9
def Fi:xg wo wo (uK zu):=by walk_at "ss"
noncomputable abbrev CD:ic:=AT (top 23) 7
def Lw:xg xO xO (uK CD):=by walk_at "ss"
abbrev CF:ic:=AT (top 23) 5
def Lx:xg xN xN (uK CF):=by walk_at "ss"
abbrev CG:ic:=AT (top 23) 3
def Ly:xg xM xM (uK CG):=by walk_at "ss"
abbrev HG:ic:=AT (top 23) 6
def RL:xg yA yA (uK HG):=by walk_at "ss"
noncomputable abbrev HH:ic:=AT (top 23) 2
def Jn:xg Ai Ai (uK HH):=by walk_at "ss"
def UX{f:gH}{fd:iB}{k:Nat}(F:BM q.P q.K C "put" "Field.put" Lv f fd)(G:Fs q.P q.w q.K q.mg q.base C "put" CU (ye q.T<|IY) k):Gq q (k+1) f fd CU (IY) :=
 xI (m:="put") (ta:=(AN (vr 1)<|AN (vr 2) A1)) F UW rfl rfl (λ_=>#[_,rfl]) G (λyV cc A outer s H E=>(uS (pv 1)<|uS (pv 2) u4)) (λa r H Q hl h=>by obtain⟨u1,u2,rfl⟩:=lx2 r<|mV hl;exact⟨u1,rfl,u2,rfl,h⟩) (λf2 env h=>cw_cons h)
def Ob{f:gH}{fd:iB}{k:Nat}(F:BM q.P q.K C "cells" "Field.cells" EN f fd)(G:Fs q.P q.w q.K q.mg q.base C "cells" yz (ye q.T<|Dz) k):Gq q (k+1) f fd yz (Dz) :=
 xI (m:="cells") (ta:=A1) F Oa rfl rfl (λ_=>#[_,rfl]) G (λyV cc A outer s H E=>u4) (λa r H Q hl h=>by obtain rfl:=lx0 r<|mV hl;exact h) (λf2 env h=>cw_nil h)
def RM{f:gH}{fd:iB}{k:Nat}(F:BM q.P q.K C "over" "Field.over" HF f fd)(G:Fs q.P q.w q.K q.mg q.base C "over" Ah (ye q.T<|GQ) k):Gq q (k+1) f fd Ah (GQ) :=
 xI (m:="over") (ta:=(AN (vr 1) A1)) F RK rfl rfl (λ_=>#[_,rfl]) G (λyV cc A outer s H E=>(uS (pv 1) u4)) (λa r H Q hl h=>by obtain⟨u1,rfl⟩:=lx1 r<|mV hl;exact⟨u1,rfl,h⟩) (λf2 env h=>cw_cons h)
def Fj{f:gH}{fd:iB}{k:Nat}(F:BM q.P q.K C "border_of" "Field.border_of" zu f fd)(G:Fs q.P q.w q.K q.mg q.base C "border_of" wo (ye q.T<|xL) k):Gq q (k+1) f fd wo (xL) :=
 xI (m:="border_of") (ta:=(AN (vr 1) A1)) F Fi rfl rfl (λ_=>#[_,rfl]) G (λyV cc A outer s H E=>(uS (pv 1) u4)) (λa r H Q hl h=>by obtain⟨u1,rfl⟩:=lx1 r<|mV hl;exact⟨u1,rfl,h⟩) (λf2 env h=>cw_cons h)
def Lz{f:gH}{fd:iB}{k:Nat}(F:BM q.P q.K C "border" "Field.border" CD f fd)(G:Fs q.P q.w q.K q.mg q.base C "border" xO (ye q.T<|Ab) k):Gq q (k+1) f fd xO (Ab) :=
 xI (m:="border") (ta:=(AN (vr 1) A1)) F Lw rfl rfl (λ_=>#[_,rfl]) G (λyV cc A outer s H E=>(uS (pv 1) u4)) (λa r H Q hl h=>by obtain⟨u1,rfl⟩:=lx1 r<|mV hl;exact⟨u1,rfl,h⟩) (λf2 env h=>cw_cons h)
def LA{k:Nat}(F:BM q.P q.K C "coming" "Field.coming" CF f c)(G:Fs q.P q.w q.K q.mg q.base C "coming" xN (ye q.T<|BR) k):Gq q (k+1) f c xN (BR) :=
 xI (m:="coming") (ta:=A1) F Lx rfl rfl (λ_=>#[_,rfl]) G (λd i A b s H E=>u4) (λa r H Q e h=>by
  match r,e with
  | [],_=>exact h) (λj g h=>cw_nil h)
def LB{k:Nat}(F:BM q.P q.K C "stands" "Field.stands" CG f c)(G:Fs q.P q.w q.K q.mg q.base C "stands" xM (ye q.T<|BQ) k):Gq q (k+1) f c xM (BQ) :=
 xI (m:="stands") (ta:=(AN (vr 1) A1)) F Ly rfl rfl (λ_=>#[_,rfl]) G (λd j A b s H E=>(uS (pv 1) u4)) (λa r H Q e h=>by
  match r,e with
  | [g],_=>exact#[g,rfl,h]) (λl i h=>cw_cons h)
def RN{k:Nat}(F:BM q.P q.K C "rank" "Field.rank" HG f c)(G:Fs q.P q.w q.K q.mg q.base C "rank" yA (ye q.T<|BS) k):Gq q (k+1) f c yA (BS) :=
 xI (m:="rank") (ta:=(AN (vr 1) A1)) F RL rfl rfl (λ_=>#[_,rfl]) G (λd j A b s H E=>(uS (pv 1) u4)) (λa r H Q e h=>by
  match r,e with
  | [g],_=>exact#[g,rfl,h]) (λl i h=>cw_cons h)
def RO{f:gH}{fd:iB}(F:BM q.P q.K C "take" "Field.take" HH f fd)(ct:AK q.K C)(w8:wu q 7)(Oc:FV q 7)(G:Fs q.P q.w q.K q.mg q.base C "take" Ai (ye q.T<|GR) 7):Gq q 8 f fd Ai (Hh):=by
 refine' uV (Ze (A:=B0×Int×Unit) (PO:=B0×WL.Un×Unit) (ms:=[0]) (vn q0q) F Jn rfl λyV cc A outer s H E D hr =>
  VB (vY<|uX<|v6 0 w8 84 (hx:=Qe))
   (VB (vo (tw_val (uX (v6 0 Oc 84 (hx:=Qe)))) Pu vi)
    (TU (m:="take") (ta:=AN (vr 1) A1) D Jn rfl (λ_=>#[_,rfl]) G hr (uS (pv 1) u4) (λa r H Q hl h=>by obtain⟨u,rfl⟩:=lx1 r hl;exact#[u,rfl,h]) (λf2 env h=>cw_cons h)))) λp Kn Ke h=>?_
 walk_at "wl"
 obtain⟨t,ok,h⟩:=h;show if (61).isSome=true then (if xP p.1 p.2.1=true then False else GR (p.1,p.2) (λx p=>Kn () p) Ke) else Ke XC 57;by_cases hs:(61).isSome=true
 ·rw[gI hs,cr<|by simp[t]];exact#[ok,h]
 ·rw[cr hs]at h ⊢;exact h
noncomputable abbrev HI:ic:=AT (top 23) 0
def RP:xg ["self"] ["self"] (uK HI):=by walk_at "ss"
def RQ{k:Nat}(F:BM q.P q.K C "__init__" "Field.__init__" HI f b)(c:AK q.K C)(d:P1 q.K C)(G:Fs q.P q.w q.K q.mg q.base C "__init__" ["self"] (GD C) k):vt q.P q.w q.K q.mg q.base (vF q.P q.w) (k+1) f b ["self"] (Dw C) :=
 Qj (p3:=#[0,0,0,0]) (p4:=#[0,0,0,0]) F RP c d (λ_=>#[_,rfl]) rfl G (λ_=>rfl) λe g A a s H E=>vU (Cb (pv 0) Bq rfl)<|xz<|Cb (pv 0) Bq rfl
end
abbrev MP:List ci:=[.type "ValueError",.type "Exception",.type "BaseException",.type "object"]
abbrev zv:ic:=AT (top 13) 0
abbrev LC:ic:=AT (top 21) 0
def UY:uT ["self"] ["self"] (uK LC):=#[rfl,rfl,rfl,q0s,rfl,q0s,q0s]
def RS:xg ["self","ring"] ["self","ring"] (uK zv):=#[rfl,rfl,rfl,q0s,rfl,q0s,q0s,q0s,rfl,rfl]
def UZ{K:gG}(F:yE K "__init__" "Body.__init__" LC f fd)(ct:AK K C):vt P w K mg base (vF P w) 1 f fd ["self"] (GD C) :=
 TL F UY ct λb A a s H E=>vU (Cb (pv 0) Bq rfl)<|vU (Cb (pv 0) Bq rfl)<|xz<|Cb (pv 0) vk rfl
section
variable{P:im}{K:gG} 
structure Mx(P:im)(K:gG)(C:gH)(m q:Str)(st:ic):Prop where
 ex:∃f fd,Meth K C m f/\∃(oc:ci)(od:Option gH)(kV doc pm:ci)(an:Option gH)(yV cc:gH)(ct:ci) (Nd:Array (Option ci)) (ocD:ci) (odD:Option gH) (vsD:Array ci) (slD:Array (Option ci)) (file:Str) (tf:Tok) (occ:ci) (odc:Option gH) (slc:Array (Option ci)),
  fd=ku m q (vL st) (vq st) (uK st) [71] .none kV doc pm an (.ref yV) ct/\K.lookup f=some #[oc,od,.func fd,Nd]/\jk K (.ref yV) q=true/\ja K (.ref f)=true/\K.lookup yV=some #[ocD,odD,.fields vsD,slD]/\vsD[2]?=↑(.str file tf)/\((P.main.file:Str)==file)=true/\K.lookup cc=some #[occ,odc,.cell<|some<|.ref C,slc]
def ZE{st:ic}{g:ci}(a:ig K (.ref C) m=↑(some<|.ref f))(i:oj K (.ref f)=true)
 (l:K.lookup f=some #[z,od,.func<|ku m q (vL st) (vq st) (uK st) [("__class__",h)] .none g j pm A (.ref b) ct,n])(c:jk K (.ref b) q=true)(k:ja K (.ref f)=true)(o:K.lookup b=some #[p,r,.fields d,s])(t:d[2]?=↑(.str file B))(u:((P.main.file:Str)==file)=true)(v:K.lookup h=some #[w,x,.cell<|some<|.ref C,y]):Mx P K C m q st :=
  #[_,_,#[a,i,k],_,_,_,_,_,_,_,_,_,_,_,_,_,_,_,_,_,_,_,rfl,l,c,k,o,t,u,v]
structure Sx(K:gG)(C:gH)(m q:Str)(st:ic):Prop where
 ex:∃f fd,Sm K C m f/\yE K m q st f fd
def ZF{st:ic}{d:ci}(a:jM K C C m=↑(some<|.ref f))(ty:oN K (.ref f)=↑(.type "function"))(fn:mi K f=true)
 (l:K.lookup f=some #[h,od,.func<|jv m q (vL st) (vq st) (uK st) .none d e pm i b ct,g])(c:jk K b q=true)(k:ja K (.ref f)=true):Sx K C m q st:=#[_,_,#[a,ty,fn],DQ l c k]
def Mx.fx{st:ic}(M:Mx P K C m q st)(cl:∃s,mD K C=↑s)(sub:kR K C (.ref C)=↑true)(g:hJ K rc "thirdparty.any"=↑none)(top:(P.main.scope.names.lookup ("super":Str)).isSome=false)(h:((vL st).posonlyargs++(vL st).args).head?=↑p)(hs:p.arg="self")(ps:List Str)
 (b:∀(i d j:ci)(n:Option gH)(e o:gH)(ct:ci)(us:List ci),us.length=ps.length->sK (ku m q (vL st) (vq st) (uK st) [("__class__",o)] .none i d j n (.ref e) ct) #[us,[]]=pure (ps.zip us)):∃f fd,Meth K C m f/\BM P K C m q st f fd/\Binds K fd ps []:=by
  obtain⟨f,fd,t,H,I,i,d,j,n,e,o,ct,u,v,w,x,y,r,J,z,A,B,rfl,l,c,k,D,E,F,G⟩:=M.ex
  exact#[f,_,t,#[#[_,_,_,_,_,_,_,_,_,_,rfl,l,c,#[#[_,_,_,_,p,l,h,hs],#[_,_,_,_,_,_,D,E,F],#[_,_,_,G],cl,sub,g,top]],k],.all<|b i d j n e o ct]
end
set_option tactic.hygienic true in
def U0{K:gG}(X:K.In h)(e:uz K N=true)(q:hJ K N x=↑(some v)):h.nsMap N x=↑v:=by
 obtain⟨o,k,l,b,f,_,g⟩:=Heap.Ns.of_isNs<|pI X e;unfold hJ at q;split at q
 ·rename_i c d i m n z
  have a:=X _ _ z;rw[b]at a;cases a;cases f;split at q
  ·rename_i p j
   cases q;rw[<- g];unfold nsFind findBy;rw[<- tK,j];rfl
  ·split at q<;>cases q
 ·cases q
def all_mk{l:qu}{K:gG}{fj:Nat}{e4:List ci}{fo:Bool}(X:K.In h)(G:h.Ns g9 mg)(fp:mg "law"=↑(.ref fa))
 (a1:hJ K g9 "is_sum"=↑(some<|.ref f1))
 (l1:K.lookup f1=some #[f3,f4,.func<|jv "is_sum" "is_sum" (vL wP) (vq wP) (uK wP) .none f5 f6 f7 f8 (.ref c) f9,ga])
 (c1:jk K (.ref c) "is_sum"=true)
 (k1:ja K (.ref f1)=true)
 (lc:K.lookup c=some #[gb,gc,.fields ft,gd])
 (ev:ft[11]?=↑(.ref cy))
 (fv:K.lookup cy=none)
 (aL:hJ K g9 "law"=↑(some<|.ref fL))
 (lL:K.lookup fL=some #[gf,gg,.func<|jv "law" "law" (vL B4) (vq B4) (uK B4) .none fw fy fz fA e9 fB,gh])
 (cL:jk K e9 "law"=true)
 (kL:ja K (.ref fL)=true)
 (M:Dq K "must_be_sum" Ey)
 (cz:Dq K "total" GP)
 (u:Dq K "row_from_first" xu)
 (eA:Dq K "_law_bag" RI)
 (dF:Dq K "_law_pull" KO)
 (dG:Dq K "_law_rank" KS)
 (dH:Dq K "_law_join" KW)
 (dI:Dq K "_law_here" K3)
 (dJ:Dq K "_law_some" K6)
 (dL:Dq K "_law_edge" K9)
 (cD:Dq K "_law_whole" Hn)
 (eB:Dq K "_law_row" s_row)
 (dM:Dq K "_law_same" s_same)
 (cE:Dq K "_law_stock" Hr)
 (ba:Dq K "_law_edge_by" CB)
 (dN:Dq K "_law_rows" Lf)
 (dO:Dq K "_law_fill" Lh)
 (dP:Dq K "_law_ties" Lj)
 (cH:Dq K "_law_house" Hv)
 (b6:Dq K "_law_tails" EK)
 (dQ:Dq K "_law_head" Ll)
 (dR:Dq K "_law_next" Lo)
 (aO:Dq K "_law_is_order" Bb)
 (cJ:Dq K "_law_truth" Hz)
 (ab:Dq K "_law_cells_kept" zr)
 (cP:Dq K "_law_pairs" HC)
 (dS:Dq K "_law_kept" Ls)
 (aC:hJ K g9 "Field"=↑(some<|.ref C))
 (ae:Mq K C "must_stand" "Body.must_stand" zl)
 (aF:Mq K C "must_hold" "Body.must_hold" Ad)
 (y:Mq K C "must_have_rank" "Body.must_have_rank" xq)
 (bb:Mq K C "is_tied" "Field.is_tied" Cw)
 (cQ:Mq K C "steps" "Field.steps" G6)
 (cR:Mq K C "tails" "Field.tails" G8)
 (b7:Mq K C "arrows" "Field.arrows" EE)
 (cU:Mq K C "untie" "Field.untie" Hc)
 (aG:Mq K C "ring_with" "Field.ring_with" Ak)
 (eC:Mq K C "tie" "Field.tie" Q0)
 (cV:Mq K C "order" "Field.order" Hf)
 (eD:Mx l.prog K C "put" "Field.put" Lv)
 (eE:Sx K C "put" "Body.put" QJ)
 (cX:Mx l.prog K C "cells" "Field.cells" EN)
 (cY:Sx K C "cells" "Body.cells" GY)
 (dU:Mx l.prog K C "over" "Field.over" HF)
 (dV:Sx K C "over" "Body.over" KC)
 (aH:Mx l.prog K C "border_of" "Field.border_of" zu)
 (aI:Sx K C "border_of" "Body.border_of" Af)
 (b8:Mx l.prog K C "border" "Field.border" CD)
 (b9:Sx K C "border" "Body.border" EC)
 (ca:Mx l.prog K C "coming" "Field.coming" CF)
 (cb:Sx K C "coming" "Body.coming" EB)
 (cd:Mx l.prog K C "stands" "Field.stands" CG)
 (cg:Sx K C "stands" "Body.stands" EA)
 (dW:Mx l.prog K C "rank" "Field.rank" HG)
 (dX:Sx K C "rank" "Body.rank" GZ)
 (dY:Mx l.prog K C "take" "Field.take" HH)
 (dZ:Sx K C "take" "Body.take" KD)
 (aP:Mx l.prog K C "__init__" "Field.__init__" HI)
 (aQ:Sx K C "__init__" "Body.__init__" LC)
 (pg:my K C Str.empty=true)
 (hd:nq K C=true)
 (po:pP K C=true)
 (sa:ig K (.ref C) "__setattr__"=↑98)
 (mk:qo K C=true)
 (kc:ja K (.ref C)=true)
 (nR:ig K (.ref C) "ranks"=↑none)
 (nB:ig K (.ref C) "borders"=↑none)
 (nU:ig K (.ref C) "upcoming"=↑none)
 (nH:ig K (.ref C) "head_by_tail"=↑none)
 (nT:ig K (.ref C) "tail_by_head"=↑none)
 (cw:mD K C=↑gi)
 (cx:kR K C (.ref C)=↑true)
 (N:hJ K rc "thirdparty.any"=↑none)
 (O:(l.prog.main.scope.names.lookup ("super":Str)).isSome=false)
 (bc:hJ K g9 "NotASum"=↑(some<|.ref XS))
 (be:ji K XS MP "ValueError.__new__"=true)
 (cj:hJ K g9 "NoCell"=↑(some<|.ref XC))
 (ck:ji K XC MP "ValueError.__new__"=true)
 (aJ:hJ K g9 "OtherRank"=↑(some<|.ref XO))
 (aK:ji K XO MP "ValueError.__new__"=true)
 (bf:hJ K g9 "BadRank"=↑(some<|.ref XB))
 (bg:ji K XB MP "ValueError.__new__"=true)
 (af:hJ K g9 "OpenBorder"=↑(some<|.ref XP))
 (ag:ji K XP MP "ValueError.__new__"=true)
 (d0:hJ K g9 "Full"=↑(some<|.ref Zs))
 (d1:ji K Zs MP "ValueError.__new__"=true)
 (bh:hJ K g9 "Covered"=↑(some<|.ref XV))
 (bi:ji K XV MP "ValueError.__new__"=true)
 (bj:hJ K g9 "NotFace"=↑(some<|.ref XF))
 (bm:ji K XF MP "ValueError.__new__"=true)
 (bR:hJ K g9 "Tied"=↑(some<|.ref XT))
 (d2:ji K XT MP "ValueError.__new__"=true)
 (bp:hJ K g9 "NotTied"=↑(some<|.ref XN))
 (bq:ji K XN MP "ValueError.__new__"=true)
 (ah:hJ K g9 "MOST_CELLS"=↑(some<|.int 120 dw))
 (aR:hJ K g9 "TOP_RANK"=↑(some<|.int 12 ek))
 (fb:hJ K g9 "RingOfArrows"=↑(some<|.ref XR))
 (gj:hJ K g9 "BodyError"=↑(some<|.ref XE))
 (lB:K.lookup XR=↑(jw gk qB XR eM gl (.ref XE::MP) true gm e4 fo fX gn gp gq gr gs gu "ValueError.__new__"))
 (fC:hJ K eM "__init__"=↑(some<|.ref fI))
 (fe:uz K eM=true)
 (fE:PySem.W.tailIn K MP (.ref XE::MP)=true)
 (lI:K.lookup fI=some #[.type "function",gv,.func<|ku "__init__" "RingOfArrows.__init__" (vL zv) (vq zv) (uK zv) [71] (.ref TD) fF fG fH fJ (.ref eN) fK,gw])
 (cI:jk K (.ref eN) "RingOfArrows.__init__"=true)
 (lD:K.lookup eN=some #[gx,gy,.fields fM,gz])
 (fD:fM[2]?=↑(.str eF gA))
 (pD:((l.prog.main.file:Str)==eF)=true)
 (fN:K.lookup cc=some #[fY,fZ,.cell<|some<|.ref XR,f0])
 (fO:mD K XR=↑gB)
 (fP:kR K XR (.ref XR)=↑true)
 (fQ:jM K XR XR "__init__"=↑(some<|.builtin "ValueError.__init__"))
 (fR:kR K XR (.type "ValueError")=↑true)
 (sB:ig K (.ref XR) "__setattr__"=↑98)
 (fS:ig K (.ref XR) "ring"=↑none)
 (lT:K.lookup TD=some #[gC,gD,.seq #v[dT] fj,gE])
 (fT:lp K (.ref XT) [.ref XT,.ref XR]=↑true)
 (fU:lp K (.ref XR) [.ref XT,.ref XR]=↑true)
 (fV:hJ K g9 "super"=↑none)
 (zz:Bz K) :
    ∃(c cy:gH)(fd:iB),nN K "is_sum"=↑(c,cy)/\K.lookup cy=none/\(∀(s:gO)(v:ci),sw s fd #[[v],[]] [("_law_script",v)])/\∀base:iG,K.In base->base.Ns g9 mg->Iv mg base c cy->vt l.prog w K mg base OY 11 fa fd ["_law_script"] (Mg K cy):=by
  have e:=fp.symm.trans<|iR X G aL
  cases e
  have ht:nN K "is_sum"=↑(c,cy):=by
    unfold nN
    rw[a1]
    dsimp only
    rw[l1]
    dsimp only[jv]
    rw[lc]
    dsimp only
    rw[ev]
  have j:=DQ (st:=wP) l1 c1 k1
  have av:Fn K mg "is_sum" wP ["row"] f1 _:=#[j,iR X G a1,j.binds (ps:=["row"])<|λ_ _ _ _ _ _=>us1 λ_=>rfl]
  have eG:=DQ (st:=B4) lL cL kL
  have b:=M.fn X G ["row"]<|λ_ _ _ _ _ _=>us1 λ_=>rfl
  have aU:=cz.fn X G ["rows"]<|λ_ _ _ _ _ _=>us1 λ_=>rfl
  have d:=u.fn X G ["earlier","last"]<|λ_ _ _ _ _ _=>us2 λ_ _=>rfl
  have dB:=eA.fn X G ["_law_script"]<|λ_ _ _ _ _ _=>us1 λ_=>rfl
  have bS:=dF.fn X G ["_law_bag_here","_law_many"]<|λ_ _ _ _ _ _=>us2 λ_ _=>rfl
  have bT:=dG.fn X G ["_law_bag_here"]<|λ_ _ _ _ _ _=>us1 λ_=>rfl
  have bU:=dH.fn X G ["_law_one","_law_other"]<|λ_ _ _ _ _ _=>us2 λ_ _=>rfl
  have bV:=dI.fn X G ["_law_rows_here"]<|λ_ _ _ _ _ _=>us1 λ_=>rfl
  have bW:=dJ.fn X G ["_law_bag_here","_law_row_here"]<|λ_ _ _ _ _ _=>us2 λ_ _=>rfl
  have bX:=dL.fn X G ["_law_rows_here","_law_row_here"]<|λ_ _ _ _ _ _=>us2 λ_ _=>rfl
  have aV:=cD.fn X G ["_law_found"]<|λ_ _ _ _ _ _=>us1 λ_=>rfl
  have dC:=eB.fn X G ["_law_found"]<|λ_ _ _ _ _ _=>us1 λ_=>rfl
  have bY:=dM.fn X G ["_law_found","_law_due"]<|λ_ _ _ _ _ _=>us2 λ_ _=>rfl
  have aW:=cE.fn X G ["_law_many"]<|λ_ _ _ _ _ _=>us1 λ_=>rfl
  have Q:=ba.fn X G ["_law_rows_here","_law_loops","_law_rank_here","_law_bag_here"]<|λ_ _ _ _ _ _=>us4 λ_ _ _ _=>rfl
  have bZ:=dN.fn X G ["_law_bag_here","_law_most"]<|λ_ _ _ _ _ _=>us2 λ_ _=>rfl
  have b0:=dO.fn X G ["_law_body","_law_rows_here"]<|λ_ _ _ _ _ _=>us2 λ_ _=>rfl
  have b1:=dP.fn X G ["_law_field","_law_rows_here","_law_bag_here","_law_tries"]<|λ_ _ _ _ _ _=>us4 λ_ _ _ _=>rfl
  have aX:=cH.fn X G ["_law_bag_here","_law_most"]<|λ_ _ _ _ _ _=>us2 λ_ _=>rfl
  have aw:=b6.fn X G ["_law_arrows"]<|λ_ _ _ _ _ _=>us1 λ_=>rfl
  have b2:=dQ.fn X G ["_law_arrows","_law_tail"]<|λ_ _ _ _ _ _=>us2 λ_ _=>rfl
  have b3:=dR.fn X G ["_law_rows_here","_law_arrows","_law_tail"]<|λ_ _ _ _ _ _=>us3 λ_ _ _=>rfl
  have I:=aO.fn X G ["_law_rows_here","_law_arrows","_law_row_here"]<|λ_ _ _ _ _ _=>us3 λ_ _ _=>rfl
  have aY:=cJ.fn X G ["_law_found","_law_due"]<|λ_ _ _ _ _ _=>us2 λ_ _=>rfl
  have m:=ab.fn X G ["_law_body","_law_rows_here"]<|λ_ _ _ _ _ _=>us2 λ_ _=>rfl
  have aZ:=cP.fn X G ["_law_found","_law_due"]<|λ_ _ _ _ _ _=>us2 λ_ _=>rfl
  have b4:=dS.fn X G ["_law_field","_law_rows_here","_law_arrows"]<|λ_ _ _ _ _ _=>us3 λ_ _ _=>rfl
  have n:=ae.fn ["self","cell"]<|λ_ _ _ _ _ _=>us2 λ_ _=>rfl
  have A:=aF.fn ["self","row"]<|λ_ _ _ _ _ _=>us2 λ_ _=>rfl
  have f:=y.fn ["self","row","rank"]<|λ_ _ _ _ _ _=>us3 λ_ _ _=>rfl
  have R:=bb.fn ["self","cell"]<|λ_ _ _ _ _ _=>us2 λ_ _=>rfl
  have a0:=cQ.fn ["self","low","high"]<|λ_ _ _ _ _ _=>us3 λ_ _ _=>rfl
  have a2:=cR.fn ["self"]<|λ_ _ _ _ _ _=>us1 λ_=>rfl
  have ax:=b7.fn ["self"]<|λ_ _ _ _ _ _=>us1 λ_=>rfl
  have a3:=cU.fn ["self","low"]<|λ_ _ _ _ _ _=>us2 λ_ _=>rfl
  have D:=aG.fn ["self","low","high"]<|λ_ _ _ _ _ _=>us3 λ_ _ _=>rfl
  have dD:=eC.fn ["self","low","high"]<|λ_ _ _ _ _ _=>us3 λ_ _ _=>rfl
  have a4:=cV.fn ["self"]<|λ_ _ _ _ _ _=>us1 λ_=>rfl
  obtain⟨e5,e6,d3,d4,d5⟩:=eD.fx #[_,cw] cx N O rfl rfl CU<|λ_ _ _ _ _ _ _=>us3 λ_ _ _=>rfl
  obtain⟨e7,e8,d6,b5⟩:=eE.ex
  obtain⟨eI,eJ,cm,cn,cp⟩:=cX.fx #[_,cw] cx N O rfl rfl yz<|λ_ _ _ _ _ _ _=>us1 λ_=>rfl
  obtain⟨eK,eL,cq,ay⟩:=cY.ex
  obtain⟨eO,eP,cZ,c0,c2⟩:=dU.fx #[_,cw] cx N O rfl rfl Ah<|λ_ _ _ _ _ _ _=>us2 λ_ _=>rfl
  obtain⟨eQ,eR,c3,a5⟩:=dV.ex
  obtain⟨dx,dy,ai,aj,ak⟩:=aH.fx #[_,cw] cx N O rfl rfl wo<|λ_ _ _ _ _ _ _=>us2 λ_ _=>rfl
  obtain⟨dz,dA,al,o⟩:=aI.ex
  obtain⟨el,em,br,bt,bu⟩:=b8.fx #[_,cw] cx N O rfl rfl xO<|λ_ _ _ _ _ _ _=>us2 λ_ _=>rfl
  obtain⟨en,eo,bv,S⟩:=b9.ex
  obtain⟨ep,er,bA,bB,bC⟩:=ca.fx #[_,cw] cx N O rfl rfl xN<|λ_ _ _ _ _ _ _=>us1 λ_=>rfl
  obtain⟨es,et,bD,T⟩:=cb.ex
  obtain⟨eu,ew,bE,bF,bG⟩:=cd.fx #[_,cw] cx N O rfl rfl xM<|λ_ _ _ _ _ _ _=>us2 λ_ _=>rfl
  obtain⟨ey,ez,bH,U⟩:=cg.ex
  obtain⟨eS,eT,c4,c5,c6⟩:=dW.fx #[_,cw] cx N O rfl rfl yA<|λ_ _ _ _ _ _ _=>us2 λ_ _=>rfl
  obtain⟨eU,eV,c7,a6⟩:=dX.ex
  obtain⟨eW,eX,c8,c9,da⟩:=dY.fx #[_,cw] cx N O rfl rfl Ai<|λ_ _ _ _ _ _ _=>us2 λ_ _=>rfl
  obtain⟨eY,eZ,db,a7⟩:=dZ.ex
  obtain⟨e0,e1,a8,dc,dd⟩:=aP.fx #[_,cw] cx N O rfl rfl ["self"]<|λ_ _ _ _ _ _ _=>us1 λ_=>rfl
  obtain⟨e2,e3,de,a9⟩:=aQ.ex
  have B:=zz.bn X G
  have Y:=td X G fV
  have an:=iR X G ah
  have aS:=iR X G aR
  have bI:Xc K mg "NotASum" XS:=#[#[_,_,_,_,iR X G bc,be,ik],λ_=>trivial]
  have cs:Xc K mg "NoCell" XC:=#[#[_,_,_,_,iR X G cj,ck,ik],λ_=>trivial]
  have aM:Xc K mg "OtherRank" XO:=#[#[_,_,_,_,iR X G aJ,aK,ik],λ_=>trivial]
  have bJ:Xc K mg "BadRank" XB:=#[#[_,_,_,_,iR X G bf,bg,ik],λ_=>trivial]
  have ao:Xc K mg "OpenBorder" XP:=#[#[_,_,_,_,iR X G af,ag,ik],λ_=>trivial]
  have d7:Xc K mg "Full" Zs:=#[#[_,_,_,_,iR X G d0,d1,ik],λ_=>trivial]
  have bK:Xc K mg "Covered" XV:=#[#[_,_,_,_,iR X G bh,bi,ik],λ_=>trivial]
  have bL:Xc K mg "NotFace" XF:=#[#[_,_,_,_,iR X G bj,bm,ik],λ_=>trivial]
  have d8:Xc K mg "Tied" XT:=#[#[_,_,_,_,iR X G bR,d2,ik],λ_=>trivial]
  have bM:Xc K mg "NotTied" XN:=#[#[_,_,_,_,iR X G bp,bq,ik],λ_=>trivial]
  have H:AK K C:=#[#[pg,hd,po,sa],nR,nB,nU]
  have cf:P1 K C:=#[nH,nT]
  have df:=iR X G aC
  refine#[c,cy,jv "law" "law" (vL B4) (vq B4) (uK B4) .none fw fy fz fA e9 fB,ht,fv,λs v=>.of_eq rfl,λbase _ _ Bt=>?_]
  let q:Cq:=#[l.prog,w,K,mg,base,cy]
  have SD:L2.Kl l.prog K XR fI eN cc "self":=#[#[_,_,_,_,_,lI,rfl,rfl],#[_,_,_,_,_,_,lD,fD,pD],#[_,_,_,fN],#[_,fO],fP,N,O]
  have cu:vt l.prog w K mg base (vF l.prog w) 3 fI _ ["self","ring"] (W6 K XR "ring"):=T7 (P:=l.prog) (w:=w) (mg:=mg) (base:=base) (k:=2) (r:="ring") (fl:="ring") lI cI rfl RS SD (λ_=>#[_,rfl]) Y B.list rfl lB fQ fR rfl (λx=>by rw[PySem.refuseLoop_ref];exact PySem.F.store_ValueError.passes _) sB fS q0q q0q
  have fW:∀h:iG,K.In h->∃mN,h.Ns eM mN/\mN "__init__"=↑(.ref fI):=λh Z=>#[_,.of_isNs<|pI Z fe,U0 Z fe fC]
  have hB:Binds K (ku "__init__" "RingOfArrows.__init__" (vL zv) (vq zv) (uK zv) [71] (.ref TD) fF fG fH fJ (.ref eN) fK) ["self","ring"] []:=λs us Z hl=>by
    have hl:us.length=2:=by simpa using hl
    obtain⟨u1,u2,rfl⟩:=lx2 us hl
    exact PySem.W.binds_K Z rfl lT rfl rfl rfl
  have L:XcI l.prog w K mg base 3 "RingOfArrows" XR "ring":=#[#[fI,eM,_,_,_,_,_,_,MP,_,_,_,_,_,_,_,_,_,_,_,_,_,_,_,iR X G fb,lB,fW,λh Z=>sZ Z fE,lI,rfl,ik,rfl,cu,hB],λ_ _ _ _ _ _=>trivial]
  have i:Zl q XT XR "Tied" "RingOfArrows":=#[iR X G bR,iR X G fb,fT,fU]
  obtain⟨bx,gF,bz,bw,ff,fh,fi⟩:=bI.ex
  have dg:=QB b.fn av (Kz (P:=l.prog) (w:=w) j rfl Bt B.all B.zip) ff fh fi λ_=>trivial
  have dh:=QC b.fn av (KA (P:=l.prog) (w:=w) j rfl Bt B.all B.zip) ff fh fi λ_=>trivial
  have d9:=RQ (q:=q) dc H cf #[#[_,_,de,UZ (P:=l.prog) (w:=w) (mg:=mg) (base:=base) a9 H,a9.binds<|λ_ _ _ _ _ _=>us1 λ_=>rfl,Y]]
  have di:wW q _ _ _ _:=b.fk dg
  have dj:wW q _ _ _ _:=aU.fk<|QD aU.fn b dh B.set B.sorted
  have a:yU q C _ _ _ _:=n.fm<|Fd (q:=q) n.fn H cs
  have p:yU q C _ _ _ _:=A.fm<|GS (q:=q) A.fn H (di.up q0q)<|a.up q0q
  have t:yU q C _ _ _ _:=f.fm<|BX (q:=q) f.fn H aM
  have aq:yU q C _ _ _ _:=#[_,_,Fj (q:=q) aj #[#[_,_,al,(GV (q:=q) o H (dj.up q0q)<|p.up q0q),o.binds<|λ_ _ _ _ _ _=>us2 λ_ _=>rfl,Y]],ai,ak]
  have az:yU q C _ _ _ _:=#[_,_,Ob (q:=q) cn #[#[_,_,cq,(QH (q:=q) ay H B),ay.binds<|λ_ _ _ _ _ _=>us1 λ_=>rfl,Y]],cm,cp]
  have dm:yU q C _ _ _ _:=#[_,_,RM (q:=q) c0 #[#[_,_,c3,(Uh (q:=q) a5 H (a.up q0q)<|az.up q0q),a5.binds<|λ_ _ _ _ _ _=>us2 λ_ _=>rfl,Y]],cZ,c2]
  have ea:yU q C _ _ _ _:=#[_,_,UX (q:=q) d4 #[#[_,_,d6,(Xh (q:=q) b5 H (p.up q0q) (t.up q0q) (aq.up q0q) bJ d7 ao an aS B),b5.binds<|λ_ _ _ _ _ _=>us3 λ_ _ _=>rfl,Y]],d3,d5]
  have bN:yU q C _ _ _ _:=#[_,_,Lz (q:=q) bt #[#[_,_,bv,(NT (q:=q) S H (a.up q0q) B),S.binds<|λ_ _ _ _ _ _=>us2 λ_ _=>rfl,Y]],br,bu]
  have bO:yU q C _ _ _ _:=#[_,_,LA (q:=q) bB #[#[_,_,bD,(NR (q:=q) T H),T.binds<|λ_ _ _ _ _ _=>us1 λ_=>rfl,Y]],bA,bC]
  have bP:yU q C _ _ _ _:=#[_,_,LB (q:=q) bF #[#[_,_,bH,(NP (q:=q) U H),U.binds<|λ_ _ _ _ _ _=>us2 λ_ _=>rfl,Y]],bE,bG]
  have dq:yU q C _ _ _ _:=#[_,_,RN (q:=q) c5 #[#[_,_,c7,(QO (q:=q) a6 H<|a.up q0q),a6.binds<|λ_ _ _ _ _ _=>us2 λ_ _=>rfl,Y]],c4,c6]
  have J:yU q C _ _ _ _:=R.fm<|KL (q:=q) R.fn H cf
  have dr:yU q C _ _ _ _:=#[_,_,RO (q:=q) c9 H (a.up q0q) (J.up q0q) #[#[_,_,db,((Uj (q:=q) a7 H (dm.up q0q) bK)).mono q0q,a7.binds<|λ_ _ _ _ _ _=>us2 λ_ _=>rfl,Y]],c8,da]
  have aA:yU q C _ _ _ _:=a0.fm<|QW (q:=q) a0.fn H cf
  have aB:yU q C _ _ _ _:=a2.fm<|QY (q:=q) a2.fn H cf B
  have aa:yU q C _ _ _ _:=ax.fm<|NX (q:=q) ax.fn H cf<|aB.up q0q
  have aD:yU q C _ _ _ _:=a3.fm<|QZ (q:=q) a3.fn H cf (a.up q0q) bM
  have E:wW q _ _ _ _:=d.fk<|BZ (q:=q) d.fn
  have ar:yU q C _ _ _ _:=D.fm<|He (q:=q) D.fn H cf (E.up q0q)<|aA.up q0q
  have ec:yU q C _ _ _ _:=dD.fm<|Xk (q:=q) dD.fn H cf (a.up q0q) (J.up q0q) (ar.up q0q) bL d8 L
  have cv:yU q C _ _ _ _:=a4.fm<|Q3 (q:=q) a4.fn H cf (aa.up q0q) (aA.up q0q)<|aB.up q0q
  have eH:wW q _ _ _ _:=dB.fk<|Y7<|XH dB.fn B.len B.list
  have g:wW q _ _ _ _:=bS.fk<|WX<|UV bS.fn B.len
  have ed:wW q _ _ _ _:=bT.fk<|UB (q:=q) bT.fn<|g.up q0q
  have aN:wW q _ _ _ _:=bU.fk<|UC (q:=q) bU.fn B
  have k_here:wW q _ _ _ _:=bV.fk<|UE (q:=q) bV.fn B
  have ee:wW q _ _ _ _:=bW.fk<|UF (q:=q) bW.fn (g.up q0q) (aN.up q0q) B
  have ef:wW q _ _ _ _:=bX.fk<|UG (q:=q) bX.fn<|aN.up q0q
  have k_whole:wW q _ _ _ _:=aV.fk<|Rv (q:=q) aV.fn B
  have dE:wW q _ _ _ _:=dC.fk<|Xt (q:=q) dC.fn (k_whole.up q0q) B
  have k_same:wW q _ _ _ _:=bY.fk<|UI (q:=q) bY.fn<|dE.up q0q
  have ds:wW q _ _ _ _:=aW.fk<|Rz (q:=q) aW.fn B
  have bQ:wW q _ _ _ _:=Q.fk<|Le (q:=q) Q.fn (g.up q0q) (aN.up q0q) (k_here.up q0q) (ee.up q0q) (ef.up q0q) B
  have eg:wW q _ _ _ _:=bZ.fk<|UK (q:=q) bZ.fn (g.up q0q) (ds.up q0q) (ed.up q0q) (bQ.up q0q) B
  have k_fill:wW q _ _ _ _:=b0.fk<|UL (q:=q) b0.fn H (ea.up q0q) (dr.up q0q) B
  have eh:wW q _ _ _ _:=b1.fk<|UM (q:=q) b1.fn H (k_here.up q0q) (g.up q0q) (aD.up q0q) (ec.up q0q) i B
  have dt:wW q _ _ _ _:=aX.fk<|RC (q:=q) aX.fn #[mk,a8.at_,a8.fn,kc] (d9.mono q0q) dd df (eg.up q0q) (k_fill.up q0q) (eh.up q0q) (g.up q0q) B
  have aE:wW q _ _ _ _:=aw.fk<|N9 (q:=q) aw.fn
  have k_head:wW q _ _ _ _:=b2.fk<|UO (q:=q) b2.fn
  have ei:wW q _ _ _ _:=b3.fk<|UP (q:=q) b3.fn (k_head.up q0q)<|aE.up q0q
  have aT:wW q _ _ _ _:=I.fk<|Jl (q:=q) I.fn (dE.up q0q) (aE.up q0q) (ei.up q0q) B
  have du:wW q _ _ _ _:=aY.fk<|RF (q:=q) aY.fn B
  have au:wW q _ _ _ _:=m.fk<|Fh (q:=q) m.fn H (k_same.up q0q) (k_here.up q0q) (du.up q0q) (k_whole.up q0q) (az.up q0q) (bO.up q0q) (bP.up q0q) (dq.up q0q) (bN.up q0q) B
  have dv:wW q _ _ _ _:=aZ.fk<|RG (q:=q) aZ.fn (k_whole.up q0q) B
  have ej:wW q _ _ _ _:=b4.fk<|UT (q:=q) b4.fn H (au.up q0q) (dv.up q0q)<|aa.up q0q
  exact Y9 (Y8<|XG (q:=q) eG H (eH.up q0q) (dt.up q0q) (aT.up q0q) (g.up q0q) (ej.up q0q) (cv.up q0q) (aD.up q0q) B) λ_ _ _ _ z=>z
def walk{l:qu}{q:im}{loose:List Str}{XP:(Str->Option ci)->iG->Prop}{YP:iL->iG->Prop}{d:DefRec}{K:Params->gG}{dx:DefRec}(hn:l.most=↑63)(hdf:d.params.defaults=[])
  (hY:∀(w:iL)(h:iG),YP w h->(K w.params).In h) (a1A:(PyProof.Rows.recsOf q).find? (λe=>e.name==("is_sum":Str))=↑dx)
  (F:∀(w:iL)(mg:Str->Option ci)(fa:gH)(h:iG),(K w.params).In h->h.Ns g9 mg->mg d.name=↑(.ref fa) ->
   ∃(c tab:gH)(fd:iB),nN (K w.params) "is_sum"=↑(c,tab)/\(K w.params).lookup tab=none/\(∀(s:gO)(u:ci),sw s fd #[[u],[]] [("_law_script",u)]) /\
    ∀base:iG,(K w.params).In base->base.Ns g9 mg->Iv mg base c tab->vt l.prog w (K w.params) mg base OY 11 fa fd ["_law_script"] (Mg (K w.params) tab)) :
  uE q loose XP YP l.row.toRowW d [] (λf vs=>tO f vs) :=
 L2.Pg (n:=63) (k:=11) (x:="_law_script") (tx:="is_sum") (CX:=OY) (sp:=λ_ K tab=>Mg K tab) hn q0q hdf #[rfl,q0q,q0q] hY a1A F (λ_ K H a tab ns _ hS hH=>#[a,ns,rfl,hS,#[#v[],hH,trivial],λ_=>rfl]) λ_ _ _ _ z=>z
end K7
open WL
open K7
set_option tactic.hygienic true
set_option hygiene true
namespace PySem.W.Fast
def tw13564474249708107150:=0
def tw7204761260967569402:=0
def tw4751147323965506673:=0
def tw17710718775158077198:=0
def tw12004565152556234354:=0
def tw18083371916868117510:=0
def tw13985424593402898624:=0
def tw13787835397991888526:=0
def tw7461099807248477530:=0
def tw8096788276674924983:=0
def tw10479576812651220759:=0
def tw9925490999458732331:=0
def tw11878025863165356913:=0
def tw647786768556988466:=0
def tw7666761601323640150:=0
def tw17180858232416208692:=0
def tw8089662186254873710:=0
def tw15237905877082480356:=0
def tw4510490486616045588:=0
def tw6684083980680074688:=0
def tw2728827170776524715:=0
def tw16970322690976655649:=0
def tw13780718486595069767:=0
def tw14362871443092040296:=0
def tw16223436272817771522:=0
def tw10768828808481120244:=0
def tw1421153603872677059:=0
def tw2234689449575298875:=0
def tw7698426671202207152:=0
def tw9454618303308848282:=0
def tw14002664277593745910:=0
def tw6828428604999768024:=0
def tw10964916943861242212:=0
def tw12906584520365340418:=0
def tw14186721281051437890:=0
def tw13727763646212424720:=0
def tw5084524110621733144:=0
def tw8519513839384341964:=0
def tw13096241767738146680:=0
def tw7677381358819834054:=0
def tw13009890789653269574:=0
def tw786041576613472671:=0
def tw11080744439105528374:=0
def tw11718197531653830092:=0
def tw9639974537557126811:=0
def tw336691693698355625:=0
def tw8895381656351589505:=0
def tw7744489377217726470:=0
def tw12763107695750451450:=0
def tw14785624352387083170:=0
def tw14739932623710154885:=0
def tw9655056020623922478:=0
def tw4075911396122195378:=0
def tw14262295235759108290:=0
def tw15463836037118454582:=0
def tw473308424927157382:=0
def tw17873182490860691341:=0
def tw2337589945664525704:=0
def tw16780182776818005940:=0
def tw5741986945991075804:=0
def tw11747138634696788971:=0
def tw239439823087798494:=0
def tw10616741025974951104:=0
def tw18311387328617738929:=0
def tw308075309875914544:=0
def tw16631069451640515370:=0
def tw4566271557950558101:=0
def tw5664090950788853921:=0
def tw12538673539041424434:=0
def tw17062800275055274453:=0
def tw2682579601535198432:=0
def tw9634219757300658222:=0
def tw10597785786545848080:=0
def tw9591823868743720926:=0
def tw7504811285644191965:=0
def tw12853236710152618790:=0
def tw11019495490816575726:=0
def tw9273486658898250149:=0
def tw9979531564364049445:=0
def tw10858678936177379319:=0
def tw11748694799563224460:=0
def tw16703580005975732980:=0
def tw1768868344145500561:=0
def tw616001342007983156:=0
def tw9525798993742996835:=0
def tw12033798288904792620:=0
def tw5186384418330690939:=0
def tw8990306439701351046:=0
def tw14834407830169068167:=0
def tw7812118366392344228:=0
def tw2979223498032263640:=0
def tw10246120997756346567:=0
def tw12199903911701482444:=0
def tw10750866328687440297:=0
def tw10812557816179530781:=0
def tw2606185932791005608:=0
def tw5283471993602875655:=0
def tw7181846327500332083:=0
def tw18214673642905044186:=0
def tw2694896496351522995:=0
def tw17926810452192162183:=0
def tw10175094351917963506:=0
def tw469993938283516291:=0
def tw1060912497888485136:=0
def tw5342099819540050326:=0
def tw8056980877148704105:=0
def tw107068903675178084:=0
def tw1863599181882657797:=0
def tw9422399668429425319:=0
def tw10255608184937735261:=0
def tw402090704179693902:=0
def tw15297413155867762524:=0
def tw4884958450546635889:=0
def tw1417186506131448718:=0
def tw2170393516359533902:=0
def tw15810986089296397239:=0
def tw4447166146154177521:=0
def tw6639244984716006443:=0
def tw15648976859753150458:=0
def tw8233213489414795262:=0
def tw16603046112230762545:=0
def tw111442541444726069:=0
def tw11784026355606013898:=0
def tw16310849351674321338:=0
def tw10573255430980057712:=0
def tw4704557554239917836:=0
def tw16961862190506490404:=0
def tw8762464289138325316:=0
def tw8783798618861596507:=0
def tw733688706402131653:=0
def tw5731335237259009308:=0
def tw15694436285649970168:=0
def tw5807424991609723631:=0
def tw1645005084508854205:=0
def tw8271869603927668096:=0
def tw14027743436840595561:=0
def tw18175232271629264538:=0
def tw11971793733518872857:=0
def tw685415741620634927:=0
def tw737666273784246651:=0
def tw8111053968460296504:=0
def tw1342774580078322570:=0
def tw4563722732616352946:=0
def tw1710511524466484356:=0
def tw17122067836702174369:=0
def tw13156190164977697171:=0
def tw3812847265305666096:=0
def tw12729353537011972815:=0
def tw692449108170002454:=0
def tw1996597201053146822:=0
def tw2686132075087760367:=0
def tw16290787672505706716:=0
def tw13916775024353598091:=0
def tw5301549062424049902:=0
def tw5064206424085360192:=0
def tw4813721524420612370:=0
def tw10772122709007724448:=0
def tw2930202521729567964:=0
def tw14111098092190913533:=0
def tw3135439191586942599:=0
def tw18115266252155171335:=0
def tw7570628460047189640:=0
def tw12427863267600198333:=0
def tw8204357319513059813:=0
def tw12121941093415069266:=0
def tw17922612310693011099:=0
def tw16657050814614265533:=0
def tw7675525710613715859:=0
def tw7414413144969571547:=0
def tw16406599348074269050:=0
def tw4159993378850594716:=0
def tw3670365785278500987:=0
def tw6253553003456224579:=0
def tw4331496085308605369:=0
def tw18403295138247902117:=0
def tw13896893148334719083:=0
def tw13310599253470801964:=0
def tw18091176255783629848:=0
def tw6365340940231942791:=0
def tw7269892206806048214:=0
def tw16576421056576861425:=0
def tw4578268746635636599:=0
def tw4989253245580959122:=0
def tw13379962845361497020:=0
def tw317826457965161245:=0
def tw7677477081814474348:=0
def tw16133669563770265705:=0
def tw17447745339166015476:=0
def tw10995506118565554599:=0
def tw7330860304420263122:=0
def tw6533030089458641510:=0
def tw12279589364551315716:=0
def tw12551424740972841735:=0
def tw11119410772272742552:=0
def tw10656064224744415344:=0
def tw6371547950668528510:=0
def tw485890319518128838:=0
def tw17764920073165269568:=0
def tw17487759466800360269:=0
def tw1741736765903788157:=0
def tw16979366598591671404:=0
def tw1610258212529557137:=0
def tw1351107641591337945:=0
def tw10253862317116374182:=0
def tw7357057201189830412:=0
def tw10813997991346188443:=0
def tw17611431131383425176:=0
def tw14747656238898278118:=0
def tw16623018204586397231:=0
def tw669389586111540855:=0
def tw11115223993742130104:=0
def tw6519737715667300881:=0
def tw5501850427360822840:=0
def tw4036614325878125388:=0
def tw13762580414769559368:=0
def tw16043161819865636791:=0
def tw9695674050474941099:=0
def tw7597262925156068053:=0
def tw3812719731281990110:=0
def tw16347797171700371252:=0
def tw10263775547222096706:=0
def tw3582198586691458487:=0
def tw13221815444799144817:=0
def tw12852594642786441063:=0
def tw101010373554905042:=0
def tw7830349247125088599:=0
def tw6833556028265926187:=0
def tw12201077707134740233:=0
def tw4883015969321156533:=0
def tw3246889680952776312:=0
def tw7656457121698862467:=0
def tw13962528841820820123:=0
def tw10405148547460389337:=0
def tw443949969839563883:=0
def tw16369538359223596103:=0
def tw6341607665738898954:=0
def tw5260623132201269676:=0
def tw16524981532538680174:=0
def tw15219172400350868921:=0
def tw14085972964517693749:=0
def tw1669376876536520009:=0
def tw7979279406482514584:=0
def tw6968334938676107488:=0
def tw376358204347490985:=0
def tw1805273022092738278:=0
def tw13307741454787183049:=0
def tw9993236463211170088:=0
def tw7759391833645590730:=0
def tw7248286163889489396:=0
def tw5831137086422610335:=0
def tw1833012646436128905:=0
def tw15248334275777227131:=0
def tw12491638026486163123:=0
def tw10154665408662091665:=0
def tw18203908293988104112:=0
def tw13790544687318075558:=0
def tw9781475960685027579:=0
def tw16238493390945034227:=0
def tw14912703363716748129:=0
def tw15263927987235172549:=0
def tw12548053431518517439:=0
def tw6385465669375288761:=0
def tw17124199833860297904:=0
def tw14522112309454622303:=0
def tw16311514797622310802:=0
def tw7304064934903691842:=0
def tw14342117362572170220:=0
def tw3223295091953884441:=0
def tw4264448418053812248:=0
def tw14159290047334764473:=0
def tw5932240983177500033:=0
def tw4726629927719792832:=0
def tw15193795010644269993:=0
def tw6812580542627077427:=0
def tw277995970840587750:=0
def tw2242969332062624230:=0
def tw15655789107229472955:=0
def tw14750844156998170933:=0
def tw11569862210150250536:=0
def tw18111343937928569407:=0
def tw10630564616072260176:=0
def tw1874427470493889647:=0
def tw1031727851495726321:=0
def tw12468643300168091965:=0
def tw10853762593494439569:=0
def tw237439464659253467:=0
def tw5538378723722079934:=0
def tw16412038555741631914:=0
def tw8089058438636877375:=0
def tw3656569682131854938:=0
def tw9843493413770472672:=0
def tw58259447545074482:=0
def tw7134179472183575852:=0
def tw10014611983198975775:=0
def tw3579239605146531376:=0
def tw7039854031748476280:=0
def tw13216112378543982875:=0
def tw18057621747745012195:=0
def tw9034246143393269717:=0
def tw8676359542500591257:=0
def tw3059485749458948467:=0
def tw16710619249754694623:=0
def tw14171888869199562980:=0
def tw14166907600391946983:=0
def tw13392279920845925973:=0
def tw9749991613242838673:=0
def tw7991282894326777720:=0
def tw765880708285375579:=0
def tw6609552238956453717:=0
def tw6526141692841798863:=0
def tw5954379713829005139:=0
def tw4674689259241677265:=0
def tw4039160235431210656:=0
def tw4025893580709021761:=0
def tw3571349510733021645:=0
def tw3555636312944737225:=0
def tw2601455834074331786:=0
def tw2548892048348268566:=0
def tw2356532086119133279:=0
def tw18397167531957968541:=0
def tw15922263495597478553:=0
def tw1398449215777433138:=0
def tw12997730388027568683:=0
def tw11320376265102186171:=0
def tw15020534902803963810:=0
def tw10132592212051022555:=0
def tw2439319618887854354:=0
def tw16310580701108870248:=0
def tw13545926111830007686:=0
def tw16364534929199378351:=0
def tw1252593908217129937:=0
def tw2789126555356644709:=0
def tw14350601113963774819:=0
def tw12972888014900775238:=0
def tw12557333233178920246:=0
def tw7287051555146388608:=0
end PySem.W.Fast
open PySem PySem.W PyProof.Rows
set_option maxHeartbeats 0 in
theorem PySem.Challenge.cw_slimbody_k14_an_order_of_the_arrows_holds : PySem.Challenge.rw_slimbody_k14_an_order_of_the_arrows.Holds := by
  w_on; o_law; k_head; (case hw => w_witness2)
  k_fill
  refine K7.walk (l := PySem.Challenge.rw_slimbody_k14_an_order_of_the_arrows) rfl rfl (fun w h Y => PySem.W.kIn_of Y) (by rfl) ?j0a
  case j0a =>
    intro w mg fa h KX G hmg
    refine' K7.all_mk KX G hmg ?_ ?_ ?_ ?_ ?_ ?_ ?_ ?_ ?_ ?_ ?_ ?_ ?_ ?_ ?_ ?_ ?_ ?_ ?_ ?_ ?_ ?_ ?_ ?_ ?_ ?_ ?_ ?_ ?_ ?_ ?_ ?_ ?_ ?_ ?_ ?_ ?_ ?_ ?_ ?_ ?_ ?_ ?_ ?_ ?_ ?_ ?_ ?_ ?_ ?_ ?_ ?_ ?_ ?_ ?_ ?_ ?_ ?_ ?_ ?_ ?_ ?_ ?_ ?_ ?_ ?_ ?_ ?_ ?_ ?_ ?_ ?_ ?_ ?_ ?_ ?_ ?_ ?_ ?_ ?_ ?_ ?_ ?_ ?_ ?_ ?_ ?_ ?_ ?_ ?_ ?_ ?_ ?_ ?_ ?_ ?_ ?_ ?_ ?_ ?_ ?_ ?_ ?_ ?_ ?_ ?_ ?_ ?_ ?_ ?_ ?_ ?_ ?_ ?_ ?_ ?_ ?_ ?_ ?_ ?_ ?_ ?_ ?_ ?_ ?_ ?_ ?_ ?_ ?_ ?_
    all_goals try first | k_is | k_exc | exact Za (by k_is) (by k_is) (by k_is) (by k_is) | exact Zb (by k_is) (by k_is) (by k_is) (by k_is) (by k_is) | exact ZE (by k_is) (by k_is) (by k_is) (by k_is) (by k_is) (by k_is) (by rfl) (by rfl) (by k_is) | exact ZF (by rfl) (by k_is) (by k_is) (by k_is) (by k_is) (by k_is) | rfl | kernel_rfl
    constructor <;> k_is
