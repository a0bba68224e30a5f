import PyProof.Rows.All
import Wide.All
import OpenK.AllK
import Wide.FinOn
import Lean
import PyProof.EqAt
import PyProof.EqKinds
import PyProof.TupleCall
import PyProof.Rows.SetFrom
import PyProof.Rows.SortWalkRead
import PyProof.Rows.EqDataRows
import PyProof.CompFree
import PyProof.ZipIter
import PyProof.Rows.ZipGen
import PyProof.GenCompD
import PyProof.CodeObjX
import KE.KNest
import PyProof.DictWalks
import PyProof.AutoListH
import PyProof.WalksMore
import PyProof.Draws
import PyProof.EnumFor
import PyProof.EnumMake
import PyProof.EnumStmt
import PyProof.Rows.EnumRows
import KE.KSuper
import PyProof.WalkInts
import KE.KTryMore
import PyProof.ExcClass2
import PyProof.ExcInit
import PyProof.InstStore
import PyProof.ExcBaseAll.ValueError
import PyProof.InstStoreFacts
import KE.KSortTup
import PyProof.Rows.SortShellK
import PyProof.DictCompW
import KE.KRevSl
import PySem.Challenge.RW_slimbody_k26_carried_up
set_option Elab.async false
set_option linter.all false
set_option tactic.hygienic false
set_option compiler.extract_closed false
set_option hygiene false
set_option genSizeOf false
set_option genInjectivity false
set_option maxRecDepth 100000
local macro_rules|`(#[$a,*])=>`(⟨$a,*⟩)
local macro_rules|`(#v[$a,*])=>`(List.toArray [$a,*])
local macro_rules|`(↑$a)=>`(some $a)
local macro_rules|`(⇑$a)=>`(($a).heap.objs.size)
set_option maxHeartbeats 4000000
local macro_rules|`(29)=>`((wd (v4 P w) P w K mg base N qual scope f cd A outer s H E))|`(58)=>`((ij X.prog X.w))|`(61)=>`(#[I.ok.mod,I.ok.kind,I.ok.glob,I.ok.blt,I.ok.above,I.ok.inj,I.ok.has,I.ok.PP,I.ok.hd,I.ok.frames,I.ok.CV,I.ok.Us,I.ok.bs,I.ok.Jo,I.ok.DR,I.ok.Es,I.ok.yT,I.ok.Kz])|`(65)=>`((p.1,#[],()))|`(66)=>`({ cls:=.type "list",data:=.seq ([]:List ci).toArray})|`(67)=>`((Ch.refl _ _ _ _))|`(70)=>`(("__debug__":Str))|`(71)=>`((false,eval e X.env))|`(72)=>`((lk p.1.rk p.2.1))|`(73)=>`((p.1,#[],#[],()))|`(74)=>`((Option (Int×(List Int))))|`(75)=>`((hJ->D->Prop))|`(76)=>`({ cls:=.type "list",dict:=none,data:=.seq Ap.toArray nD})|`(77)=>`((yF w8 (pv 0) vL (λ_ _=>rfl)))|`(78)=>`(("__class__",cc))|`(79)=>`((vk (ss 1) vi))|`(81)=>`((rowAt rows k))|`(82)=>`({ cls:=.type "dict_keyiterator",data:=.fields #v[.ref a,.int 0 0,.int xG.length 0,.int ep 0]})|`(83)=>`({ cls:=.type "dict_keyiterator",data:=.fields #v[.ref a,.int 0 0,.int m.length 0,.int B 0]})|`(84)=>`((wd (v4 P w) P w K l base N g c f u A e s H E))|`(85)=>`((false,eval a X.env))|`(86)=>`({ cls:=.type "list",dict:=none,data:=.seq ([]:List ci).toArray})|`(87)=>`((jT nm q C N bs bm hdct sn sub ab col dd k0 k1 k2 k3 k5 newId))|`(88)=>`((q.get<|A.get d))|`(90)=>`((.Call (.Name "super" p0) [] [] p1))|`(91)=>`((hJ->PO->Prop))|`(93)=>`((wd (v4 P w) P w K e base N c a f g A b s H E))|`(94)=>`((if kU t.dummies j=true then jm t.dummies (iw t.dummies j) else t.dummies))|`(96)=>`((Int×List Int))|`(97)=>`((LF (v4 P w) P w K mg base N qual scope f (.ref zK) [78] A outer s H E))|`(98)=>`(#[rfl,I.turned (t':=s.toks) (λb o hb e=>eb b o hb e) f0 f1 f3 f4 f5])|`(99)=>`((#[],#[],()))|`(101)=>`((.Name x pos))|`(102)=>`({ cls:=.type "range",data:=.fields #v[.int a t,.int c u,.int 1 v]})|`(103)=>`({ s with toks:=s.toks+1})|`(105)=>`((τ->PO->Prop))|`(106)=>`(((items.toList.drop<|xu items.size 0 lo).take<|xu items.size items.size hi-xu items.size 0 lo))|`(107)=>`({ s with heap:=a})|`(108)=>`((vo vn (vo vn vI)))|`(109)=>`((some<|.builtin "object.__setattr__"))|`(110)=>`(("__class__":Str))|`(111)=>`((hJ->B0×Un×Unit->Prop))|`(112)=>`((vJ (α:=Int) vI))|`(113)=>`({ cls:=.type "method-wrapper",data:=.fields #v[.builtin "ValueError.__init__",.ref x]})|`(114)=>`((.ListComp elt [#[tg,iter,ifs,0]] scope pos))|`(115)=>`({ cls:=.ref C,data:=.fields #v[.ref h.objs.size,.none,.none,.none,.bool false,.none]})|`(117)=>`({ cls:=.type "list",data:=.seq a.toArray n})|`(118)=>`((a.filter λl=>decide<|t∈CM x l (wA x l)))|`(119)=>`((.Compare a [op] [b] pos))|`(121)=>`((∀C y b c f a,i C b->Ch T F R H c f a->wz T c f a b g->E (.ref C) ↑y a))|`(122)=>`((λz=>z.elim (λq=>.inl<|.inl q) λq=>.inr<|.inl q))|`(123)=>`((v4 X.prog X.w))|`(124)=>`((λx=>hc<|by simp[x]))|`(125)=>`(((s.heap.push<|mP "list" #v[] 0).update ⇑s<|Obj.mapSeq λx=>x++a.toArray))|`(129)=>`((hJ->B0×WL.Un×Unit->Prop))|`(130)=>`((vj<|vB<|vG yH))|`(131)=>`((vk (ss 2) vi))|`(132)=>`((some<|.builtin "ValueError.__init__"))|`(133)=>`({ cls:=.type "dict",data:=.dict #v[]})|`(134)=>`({ cls:=.type "dict",dict:=none,data:=.dict #v[]})
noncomputable section
local macro_rules | `(tactic| walk_at "sc") => `(tactic| exact #[rfl, rfl, rfl, by decide +kernel, rfl, by decide +kernel, by decide +kernel])
local macro_rules | `(tactic| walk_at "ss") => `(tactic| exact #[rfl, rfl, rfl, by decide +kernel, rfl, by decide +kernel, by decide +kernel, by decide +kernel, rfl, rfl])
local macro_rules | `(tactic| walk_at "wl") => `(tactic| dsimp +instances only [At.get, At.hole, Pt.put, Ent.ent, Pj.pj, Fg.fg, Sel.sel, Sel.rest, Sel.mrg, Pre.pre, Pre.suf, at0, atS, pt0, ptS, ent0, entS, entC, pjNil, pjUn, pjCons, fgId, fgUn, fgCons, selNil, selCons, pre0, preS, stepC, id, ID.get, ID.set, wSq, cK, cB, cA, cO, cC, cM, cN, cS, cG, cI, cW, cT, cF])
def e0a2 {p0:Prop}{p1:Prop}{G:Prop}(h:p0/\p1)(k:p0->p1->G):G:=by obtain ⟨h0,h1⟩:=h;exact k h0 h1
def e0a3 {p0:Prop}{p1:Prop}{p2:Prop}{G:Prop}(h:p0/\p1/\p2)(k:p0->p1->p2->G):G:=by obtain ⟨h0,h1,h2⟩:=h;exact k h0 h1 h2
def e0a4 {p0:Prop}{p1:Prop}{p2:Prop}{p3:Prop}{G:Prop}(h:p0/\p1/\p2/\p3)(k:p0->p1->p2->p3->G):G:=by obtain ⟨h0,h1,h2,h3⟩:=h;exact k h0 h1 h2 h3
def e0a6 {p0:Prop}{p1:Prop}{p2:Prop}{p3:Prop}{p4:Prop}{p5:Prop}{G:Prop}(h:p0/\p1/\p2/\p3/\p4/\p5)(k:p0->p1->p2->p3->p4->p5->G):G:=by obtain ⟨h0,h1,h2,h3,h4,h5⟩:=h;exact k h0 h1 h2 h3 h4 h5
def e1a1 {vZ:Sort _}{p0:vZ->Prop}{G:Prop}(h:∃ x0:vZ,p0 x0)(k:∀ x0:vZ,p0 x0->G):G:=by obtain ⟨x0,h0⟩:=h;exact k x0 h0
def e1a2 {vZ:Sort _}{p0:vZ->Prop}{p1:vZ->Prop}{G:Prop}(h:∃ x0:vZ,p0 x0/\p1 x0)(k:∀ x0:vZ,p0 x0->p1 x0->G):G:=by obtain ⟨x0,h0,h1⟩:=h;exact k x0 h0 h1
def e1a3 {vZ:Sort _}{p0:vZ->Prop}{p1:vZ->Prop}{p2:vZ->Prop}{G:Prop}(h:∃ x0:vZ,p0 x0/\p1 x0/\p2 x0)(k:∀ x0:vZ,p0 x0->p1 x0->p2 x0->G):G:=by obtain ⟨x0,h0,h1,h2⟩:=h;exact k x0 h0 h1 h2
def e1a4 {vZ:Sort _}{p0:vZ->Prop}{p1:vZ->Prop}{p2:vZ->Prop}{p3:vZ->Prop}{G:Prop}(h:∃ x0:vZ,p0 x0/\p1 x0/\p2 x0/\p3 x0)(k:∀ x0:vZ,p0 x0->p1 x0->p2 x0->p3 x0->G):G:=by obtain ⟨x0,h0,h1,h2,h3⟩:=h;exact k x0 h0 h1 h2 h3
def e2a2 {vZ:Sort _}{wB:Sort _}{p0:vZ->wB->Prop}{p1:vZ->wB->Prop}{G:Prop}(h:∃ x0:vZ,∃ x1:wB,p0 x0 x1/\p1 x0 x1)(k:∀ x0:vZ,∀ x1:wB,p0 x0 x1->p1 x0 x1->G):G:=by obtain ⟨x0,x1,h0,h1⟩:=h;exact k x0 x1 h0 h1
def e2a3 {vZ:Sort _}{wB:Sort _}{p0:vZ->wB->Prop}{p1:vZ->wB->Prop}{p2:vZ->wB->Prop}{G:Prop}(h:∃ x0:vZ,∃ x1:wB,p0 x0 x1/\p1 x0 x1/\p2 x0 x1)(k:∀ x0:vZ,∀ x1:wB,p0 x0 x1->p1 x0 x1->p2 x0 x1->G):G:=by obtain ⟨x0,x1,h0,h1,h2⟩:=h;exact k x0 x1 h0 h1 h2
def e2a4 {vZ:Sort _}{wB:Sort _}{p0:vZ->wB->Prop}{p1:vZ->wB->Prop}{p2:vZ->wB->Prop}{p3:vZ->wB->Prop}{G:Prop}(h:∃ x0:vZ,∃ x1:wB,p0 x0 x1/\p1 x0 x1/\p2 x0 x1/\p3 x0 x1)(k:∀ x0:vZ,∀ x1:wB,p0 x0 x1->p1 x0 x1->p2 x0 x1->p3 x0 x1->G):G:=by obtain ⟨x0,x1,h0,h1,h2,h3⟩:=h;exact k x0 x1 h0 h1 h2 h3
def e2a5 {vZ:Sort _}{wB:Sort _}{p0:vZ->wB->Prop}{p1:vZ->wB->Prop}{p2:vZ->wB->Prop}{p3:vZ->wB->Prop}{p4:vZ->wB->Prop}{G:Prop}(h:∃ x0:vZ,∃ x1:wB,p0 x0 x1/\p1 x0 x1/\p2 x0 x1/\p3 x0 x1/\p4 x0 x1)(k:∀ x0:vZ,∀ x1:wB,p0 x0 x1->p1 x0 x1->p2 x0 x1->p3 x0 x1->p4 x0 x1->G):G:=by obtain ⟨x0,x1,h0,h1,h2,h3,h4⟩:=h;exact k x0 x1 h0 h1 h2 h3 h4
def e3a2 {vZ:Sort _}{wB:Sort _}{xi:Sort _}{p0:vZ->wB->xi->Prop}{p1:vZ->wB->xi->Prop}{G:Prop}(h:∃ x0:vZ,∃ x1:wB,∃ x2:xi,p0 x0 x1 x2/\p1 x0 x1 x2)(k:∀ x0:vZ,∀ x1:wB,∀ x2:xi,p0 x0 x1 x2->p1 x0 x1 x2->G):G:=by obtain ⟨x0,x1,x2,h0,h1⟩:=h;exact k x0 x1 x2 h0 h1
def e3a3 {vZ:Sort _}{wB:Sort _}{xi:Sort _}{p0:vZ->wB->xi->Prop}{p1:vZ->wB->xi->Prop}{p2:vZ->wB->xi->Prop}{G:Prop}(h:∃ x0:vZ,∃ x1:wB,∃ x2:xi,p0 x0 x1 x2/\p1 x0 x1 x2/\p2 x0 x1 x2)(k:∀ x0:vZ,∀ x1:wB,∀ x2:xi,p0 x0 x1 x2->p1 x0 x1 x2->p2 x0 x1 x2->G):G:=by obtain ⟨x0,x1,x2,h0,h1,h2⟩:=h;exact k x0 x1 x2 h0 h1 h2
def e3a4 {vZ:Sort _}{wB:Sort _}{xi:Sort _}{p0:vZ->wB->xi->Prop}{p1:vZ->wB->xi->Prop}{p2:vZ->wB->xi->Prop}{p3:vZ->wB->xi->Prop}{G:Prop}(h:∃ x0:vZ,∃ x1:wB,∃ x2:xi,p0 x0 x1 x2/\p1 x0 x1 x2/\p2 x0 x1 x2/\p3 x0 x1 x2)(k:∀ x0:vZ,∀ x1:wB,∀ x2:xi,p0 x0 x1 x2->p1 x0 x1 x2->p2 x0 x1 x2->p3 x0 x1 x2->G):G:=by obtain ⟨x0,x1,x2,h0,h1,h2,h3⟩:=h;exact k x0 x1 x2 h0 h1 h2 h3
def e3a5 {vZ:Sort _}{wB:Sort _}{xi:Sort _}{p0:vZ->wB->xi->Prop}{p1:vZ->wB->xi->Prop}{p2:vZ->wB->xi->Prop}{p3:vZ->wB->xi->Prop}{p4:vZ->wB->xi->Prop}{G:Prop}(h:∃ x0:vZ,∃ x1:wB,∃ x2:xi,p0 x0 x1 x2/\p1 x0 x1 x2/\p2 x0 x1 x2/\p3 x0 x1 x2/\p4 x0 x1 x2)(k:∀ x0:vZ,∀ x1:wB,∀ x2:xi,p0 x0 x1 x2->p1 x0 x1 x2->p2 x0 x1 x2->p3 x0 x1 x2->p4 x0 x1 x2->G):G:=by obtain ⟨x0,x1,x2,h0,h1,h2,h3,h4⟩:=h;exact k x0 x1 x2 h0 h1 h2 h3 h4
def e4a4 {vZ:Sort _}{wB:Sort _}{xi:Sort _}{yS:Sort _}{p0:vZ->wB->xi->yS->Prop}{p1:vZ->wB->xi->yS->Prop}{p2:vZ->wB->xi->yS->Prop}{p3:vZ->wB->xi->yS->Prop}{G:Prop}(h:∃ x0:vZ,∃ x1:wB,∃ x2:xi,∃ x3:yS,p0 x0 x1 x2 x3/\p1 x0 x1 x2 x3/\p2 x0 x1 x2 x3/\p3 x0 x1 x2 x3)(k:∀ x0:vZ,∀ x1:wB,∀ x2:xi,∀ x3:yS,p0 x0 x1 x2 x3->p1 x0 x1 x2 x3->p2 x0 x1 x2 x3->p3 x0 x1 x2 x3->G):G:=by obtain ⟨x0,x1,x2,x3,h0,h1,h2,h3⟩:=h;exact k x0 x1 x2 x3 h0 h1 h2 h3
def e4a6 {vZ:Sort _}{wB:Sort _}{xi:Sort _}{yS:Sort _}{p0:vZ->wB->xi->yS->Prop}{p1:vZ->wB->xi->yS->Prop}{p2:vZ->wB->xi->yS->Prop}{p3:vZ->wB->xi->yS->Prop}{p4:vZ->wB->xi->yS->Prop}{p5:vZ->wB->xi->yS->Prop}{G:Prop}(h:∃ x0:vZ,∃ x1:wB,∃ x2:xi,∃ x3:yS,p0 x0 x1 x2 x3/\p1 x0 x1 x2 x3/\p2 x0 x1 x2 x3/\p3 x0 x1 x2 x3/\p4 x0 x1 x2 x3/\p5 x0 x1 x2 x3)(k:∀ x0:vZ,∀ x1:wB,∀ x2:xi,∀ x3:yS,p0 x0 x1 x2 x3->p1 x0 x1 x2 x3->p2 x0 x1 x2 x3->p3 x0 x1 x2 x3->p4 x0 x1 x2 x3->p5 x0 x1 x2 x3->G):G:=by obtain ⟨x0,x1,x2,x3,h0,h1,h2,h3,h4,h5⟩:=h;exact k x0 x1 x2 x3 h0 h1 h2 h3 h4 h5
def e5a3 {vZ:Sort _}{wB:Sort _}{xi:Sort _}{yS:Sort _}{BK:Sort _}{p0:vZ->wB->xi->yS->BK->Prop}{p1:vZ->wB->xi->yS->BK->Prop}{p2:vZ->wB->xi->yS->BK->Prop}{G:Prop}(h:∃ x0:vZ,∃ x1:wB,∃ x2:xi,∃ x3:yS,∃ x4:BK,p0 x0 x1 x2 x3 x4/\p1 x0 x1 x2 x3 x4/\p2 x0 x1 x2 x3 x4)(k:∀ x0:vZ,∀ x1:wB,∀ x2:xi,∀ x3:yS,∀ x4:BK,p0 x0 x1 x2 x3 x4->p1 x0 x1 x2 x3 x4->p2 x0 x1 x2 x3 x4->G):G:=by obtain ⟨x0,x1,x2,x3,x4,h0,h1,h2⟩:=h;exact k x0 x1 x2 x3 x4 h0 h1 h2
def e5a4 {vZ:Sort _}{wB:Sort _}{xi:Sort _}{yS:Sort _}{BK:Sort _}{p0:vZ->wB->xi->yS->BK->Prop}{p1:vZ->wB->xi->yS->BK->Prop}{p2:vZ->wB->xi->yS->BK->Prop}{p3:vZ->wB->xi->yS->BK->Prop}{G:Prop}(h:∃ x0:vZ,∃ x1:wB,∃ x2:xi,∃ x3:yS,∃ x4:BK,p0 x0 x1 x2 x3 x4/\p1 x0 x1 x2 x3 x4/\p2 x0 x1 x2 x3 x4/\p3 x0 x1 x2 x3 x4)(k:∀ x0:vZ,∀ x1:wB,∀ x2:xi,∀ x3:yS,∀ x4:BK,p0 x0 x1 x2 x3 x4->p1 x0 x1 x2 x3 x4->p2 x0 x1 x2 x3 x4->p3 x0 x1 x2 x3 x4->G):G:=by obtain ⟨x0,x1,x2,x3,x4,h0,h1,h2,h3⟩:=h;exact k x0 x1 x2 x3 x4 h0 h1 h2 h3
def e5a6 {vZ:Sort _}{wB:Sort _}{xi:Sort _}{yS:Sort _}{BK:Sort _}{p0:vZ->wB->xi->yS->BK->Prop}{p1:vZ->wB->xi->yS->BK->Prop}{p2:vZ->wB->xi->yS->BK->Prop}{p3:vZ->wB->xi->yS->BK->Prop}{p4:vZ->wB->xi->yS->BK->Prop}{p5:vZ->wB->xi->yS->BK->Prop}{G:Prop}(h:∃ x0:vZ,∃ x1:wB,∃ x2:xi,∃ x3:yS,∃ x4:BK,p0 x0 x1 x2 x3 x4/\p1 x0 x1 x2 x3 x4/\p2 x0 x1 x2 x3 x4/\p3 x0 x1 x2 x3 x4/\p4 x0 x1 x2 x3 x4/\p5 x0 x1 x2 x3 x4)(k:∀ x0:vZ,∀ x1:wB,∀ x2:xi,∀ x3:yS,∀ x4:BK,p0 x0 x1 x2 x3 x4->p1 x0 x1 x2 x3 x4->p2 x0 x1 x2 x3 x4->p3 x0 x1 x2 x3 x4->p4 x0 x1 x2 x3 x4->p5 x0 x1 x2 x3 x4->G):G:=by obtain ⟨x0,x1,x2,x3,x4,h0,h1,h2,h3,h4,h5⟩:=h;exact k x0 x1 x2 x3 x4 h0 h1 h2 h3 h4 h5
def e6a2 {vZ:Sort _}{wB:Sort _}{xi:Sort _}{yS:Sort _}{BK:Sort _}{Um:Sort _}{p0:vZ->wB->xi->yS->BK->Um->Prop}{p1:vZ->wB->xi->yS->BK->Um->Prop}{G:Prop}(h:∃ x0:vZ,∃ x1:wB,∃ x2:xi,∃ x3:yS,∃ x4:BK,∃ x5:Um,p0 x0 x1 x2 x3 x4 x5/\p1 x0 x1 x2 x3 x4 x5)(k:∀ x0:vZ,∀ x1:wB,∀ x2:xi,∀ x3:yS,∀ x4:BK,∀ x5:Um,p0 x0 x1 x2 x3 x4 x5->p1 x0 x1 x2 x3 x4 x5->G):G:=by obtain ⟨x0,x1,x2,x3,x4,x5,h0,h1⟩:=h;exact k x0 x1 x2 x3 x4 x5 h0 h1
def e7a2 {vZ:Sort _}{wB:Sort _}{xi:Sort _}{yS:Sort _}{BK:Sort _}{Um:Sort _}{α6:Sort _}{p0:vZ->wB->xi->yS->BK->Um->α6->Prop}{p1:vZ->wB->xi->yS->BK->Um->α6->Prop}{G:Prop}(h:∃ x0:vZ,∃ x1:wB,∃ x2:xi,∃ x3:yS,∃ x4:BK,∃ x5:Um,∃ x6:α6,p0 x0 x1 x2 x3 x4 x5 x6/\p1 x0 x1 x2 x3 x4 x5 x6)(k:∀ x0:vZ,∀ x1:wB,∀ x2:xi,∀ x3:yS,∀ x4:BK,∀ x5:Um,∀ x6:α6,p0 x0 x1 x2 x3 x4 x5 x6->p1 x0 x1 x2 x3 x4 x5 x6->G):G:=by obtain ⟨x0,x1,x2,x3,x4,x5,x6,h0,h1⟩:=h;exact k x0 x1 x2 x3 x4 x5 x6 h0 h1
def us0 {α:Type}{P:List α->Prop}(h:P [])(us:List α)(e:us.length=0):P us:=by
 cases us with
 |nil=>exact h
 |cons=>cases e
def us1 {α:Type}{P:List α->Prop}(h:∀ a,P [a])(us:List α)(e:us.length=1):P us:=by
 cases us with
 |nil=>cases e
 |cons a t=>exact us0 (P:=fun t=>P (a :: t)) (h a) t (Nat.succ.inj e)
def us2 {α:Type}{P:List α->Prop}(h:∀ a b,P [a,b])(us:List α)(e:us.length=2):P us:=by
 cases us with
 |nil=>cases e
 |cons a t=>exact us1 (P:=fun t=>P (a :: t)) (h a) t (Nat.succ.inj e)
def us3 {α:Type}{P:List α->Prop}(h:∀ a b c,P [a,b,c])(us:List α)(e:us.length=3):P us:=by
 cases us with
 |nil=>cases e
 |cons a t=>exact us2 (P:=fun t=>P (a :: t)) (h a) t (Nat.succ.inj e)
def us4 {α:Type}{P:List α->Prop}(h:∀ a b c d,P [a,b,c,d])(us:List α)(e:us.length=4):P us:=by
 cases us with
 |nil=>cases e
 |cons a t=>exact us3 (P:=fun t=>P (a :: t)) (h a) t (Nat.succ.inj e)
def cutG {α:Sort _}{G:α->Prop}{P:Prop}(k:(∀ a,G a)->P)(h:∀ a,G a):P:=k h
def cutP {G P:Prop}(k:G->P)(h:G):P:=k h
def lx0 {α:Type}(us:List α)(e:us.length=0):us=[]:=us0 (P:=fun us=>us=[]) rfl us e
def lx1 {α:Type}(us:List α)(e:us.length=1):∃ a,us=[a]:=us1 (P:=fun us=>∃ a,us=[a]) (fun a=>#[a,rfl]) us e
def lx2 {α:Type}(us:List α)(e:us.length=2):∃ a b,us=[a,b]:=us2 (P:=fun us=>∃ a b,us=[a,b]) (fun a b=>#[a,b,rfl]) us e
open PySem renaming wpAny_bind->am,wpAny_pure->ap,Value->ci,Addr->hJ,starEach->hR,sizeLine->hX,Shared->ic,wpAny->ii,model->ij,mainGlobals->iv,Stmt->iH,Program->iQ,wpAny_holding->iT,attributeBase->iW,FuncData->iX,Expr->iZ,wpAny_newObj_type->i8,Heap->ja,World->jf,wpAny_call_entry->jg,behindInMarks->jh,sizeLine_eq->jk,wpAny_mono->jr,wpAny_field->jt,wpAny_setState_of->jw,backTo->jE,Around->jN,compareOp->jO,excClassObj->jT,wpAny_askSetting->jV,SetTable->jX,wpAny_loadPart_at->jZ,codeAny_builtin->j5,wpAny_setField_rec->kd,codeAny_mono->kh,swapsWith->kj,mem_of_lookup->kD,wpAny_truthy_bool->kG,foldedSetIterable->kH,intKind->kP,ExcBaseFacts->kR,cLine->kX,wpAny_Call_Name_kw->kZ,wpAny_loadName_local->lj,holding->lm,keywordEach->lp,wpAny_typeOf->lq,sysModules->lw,plainId_quiet->lx,wpAny_seqItems->lH,unsupported->lQ,tupleKind_room_in1->lS,wpAny_passesOwn->l6,rawInt->mf,builtinLookup_eq_fast->mi,Scope->mB,wpAny_rule->mC,wpAny_isInstance->mI,binaryOp->mS,boot_len->mW,codeAny->mX,codeAny_of_tree->mZ,wpAny_call->m8,getMethod->m9,wpAny_of_eq->nc,bootBuiltins->ny,standAt->nA,backToKw->nC,wpAny_setField->nJ,typeLookup->nW,hashInt->nX,wpAny_standAt->nZ,callWith->n6,sliceBounds->n8,codeAny_call_builtin->og,wpAny_execs_nil->oq,typeLookup_type->ou,getItem->oE,call_meetsIn->oH,builtinsNs->oP,closureFor->oS,relabel->ph,wpAny_attempt->pE,wpAny_comprehension_free->pF,wpAny_onRaise->pG,tupleKind->pI,GenState->pK,wpAny_Name->pZ,assignEach->qa,Keyword->qc,intKind_is->qf,sub_set_self->qg,wpAny_specialOf->qi,wpAny_updateSeq->qm,IsPart->qy,firstArgMember->qA,IsPair->qE,wpAny_updateSeq_pair->qF,valueAt->qI,wpAny_loadName_free->qN,wpAny_setEntries_of->qS,Obj->qV,wpAny_isSubtype_exc->qX,CmpOp->qY,isTrue->rf,wpAny_load->rg,wpAny_pyIter_tuple->rh,wpAny_Call_method->rL,callerA->rM,cStatics->rP,ks_wpAt_mono->rQ,plainObj_wpAny_Assign_Attribute->rV,wpAny_eqBool_int->r8,PassesOwn->r9,argsOk->se,subscripted->su,IsZip->sD,wpAny_letGo->sE,Within->sF,wpAny_AugAssign_SubscriptAny->sI,letOwnedTupleGo->sJ,wpAny_tests_nil->sM,setItem->sQ,BindsTo->sS,OwnTail->sX,wpAny_Compare1->sZ,assign->td,recursionLimit->tm,bindArgs->tq,atKey->tE,relayAll->tH,storeSet->tJ,entryFor->tK,entryFor_alias->tL,wpAny_runValue->tM,isSubtype_type->tN,compEnvC->tP,refuseLoop->tS,evalPart_none->ue,wpAny_getItem_list_slice->uf,call->ug,wpAny_newList->ui,wpAt->uk,table->uu,pickOrder->uv,TriplesOk->uy,noteFrame->uz,field->uA,spliced->uG,truthy->uH,leaving->uI,seqIndex_neg->uK,wpAny_Call_method_late->uM,wpAny_isTrue_Compare1->uU,weight_type_call_type->uY
open PySem.Heap renaming get?_push_of_some->ce,lt_size->ie,get?_push_size->il,get?_update_other->iU,get?_update_self->jd,SameBut->jl,size_push->jR,FlyingW->ml,get?_none_of_le->nL,get?_push_at->oK,size_update->oW,get?_update_ne->qo,IsTuple->qK,MadeExcOf->rZ
open PySem.W renaming Frag->hO,nsIn->iz,findIn->iN,mg_of->jc,envX->ji,keepIn->jz,excIn->jC,codeIn->jJ,fnOf->jS,kia_one->jW,Looks->j7,emptyDict->j9,ks_superIn->ki,instObj->kT,fnX->kW,mroIn->lE,exmAny->lW,hideAll->mu,methodObj->mM,fnIn->mQ,plainGet->m7,clsIn->ng,kas_rev_size->nK,of_hideAll->nV,hasDictIn->oi,tabIn->oy,isFn->oQ,methodCall_KW->oZ,lookIn->pq,typeIn->pr,looks_findIn->pw,hideAll_get->pJ,plainGet_of->pL,looks_clsIn->pM,callWith_of->pS,looks_mroIn->pT,ks_superObj->pU,callWith_K->qb,isNs_of_in->qh,plainOver->qq,takerIn->qO,makesIn->qP,OpenLaw->qT,kitOne->rj,CodeHd->rs,tabObj->rA,ks_loadName_global->rB,MethP->rR,kas_rev->rS,cellsFrom_some->sd,funFrames_hide->sf,hideAll_none->sG,looks_opaque->sP,callWith_K0->sT,codeRec_of->tz,tail_of_in->tQ,mg_none_of->tR,kitx_list->tW,kitx_dict->tX,handedIn->ud,kat_cons->ul,keeps_M->uB,alongIn->uC,kas_place->uE,kat_yes->uF,kat_go->uR,kat_no->uS,nsOkIn->uT,WalkO->uZ
open Nat renaming le_refl->hV,ne_of_lt->iu,lt_of_lt_of_le->iB,le_trans->iP,zero_le->jp,lt_of_le_of_lt->jv,ne_of_gt->jB,lt_succ_self->jM,lt_irrefl->kf,le_of_lt_succ->kB,le_succ->mh,le_of_lt->mn,lt_trans->n9,succ_pos->oa,mod_lt->ot,lt_succ_of_lt->oN,le_add_right->o4,le_of_eq->qQ,sub_self->qW,le_of_not_lt->ro,zero_add->tG,div_lt_of_lt_mul->uh,lt_trichotomy->uW
open List renaming mem_cons_self->hW,mem_cons_of_mem->hZ,length_map->h8,size_toArray->im,length_append->io,mem_append_right->iD,length_singleton->iE,length_cons->iF,range->iG,map_cons->iJ,mem_cons->iK,length_filter_le->iL,lookup_cons->iV,find?_cons->je,mem_append_left->jo,not_mem_nil->jq,mem_filter->js,getD_eq_getElem?_getD->jG,take_of_length_le->jI,filter_cons->jK,getElem?_eq_getElem->jL,getElem?_map->jU,mem_of_getElem?->j0,pairwise_singleton->j4,getElem?_append_right->kg,map_append->kC,map_map->kJ,lookup->kM,getElem?_eq_none->kS,append_nil->kY,filterMap_cons->lh,replicate->lu,mem_append->lM,length_range->lU,append_assoc->lV,getElem?_of_mem->l8,length_take->mj,getElem?_append_left->mo,map_congr_left->mz,length_set->mG,foldl_cons->mH,mem_singleton->mK,nodup_nil->mY,filter_congr->m4,perm_append_comm->ni,length_drop->nq,getElem?_set_ne->nM,take_append_of_le_length->nN,length_nil->nP,nil_append->nQ,drop_eq_getElem_cons->oA,length->oF,reverse_cons->oG,any_cons->oM,eraseIdx_cons_succ->oT,all_eq_true->oX,getElem?_set_self->pc,map_nil->pf,filterMap_eq_map'->pi,of_mem_zip->pA,all_cons->qt,ext_getElem?->qJ,eraseIdxIfInBounds_toArray->qR,filter_map->rH,getElem?_take_of_lt->sr,findIdx?->sx,getElem?_replicate->sK,getElem?_cons_succ->sO,pairwise_lt_range->sW,length_replicate->ts,take_append_drop->tF,eq_nil_or_concat->tT,concat_eq_append->tU,getElem?_range->uj,filterMap_map->uo,getElem?_take->uq,getElem?_drop->ur,map_filterMap->ut,contains_cons->uD,take_sublist->uJ,getElem_mem->uX,any_eq_true->u4,drop_length->vc,zipIdx_cons->vd,take_length->ve,getElem_map->vf
open Array renaming length_toList->ig,getElem?_toList->iY,getElem?_eq_getElem->jH,getD_eq_getD_getElem?->lO,size_map->mU,toList_extract->nI,toList_append->qd,append_assoc->qp,toList_push->qz,toList->sH,getElem?_eq_none->sN,find?_toList->uc
open Bool renaming false_ne_true->ik,and_eq_true->i7,false_eq_true->lG,eq_iff_iff->mF,xor_assoc->m6,xor_false->oo,false_xor->pY,and_self->qv,or_false->sy,not_eq_true'->uQ
open PySem.SetTable renaming below->iw,sizeAbove->jb,eraseAt->jm,runEnd->jx,insertAt->jy,bits->jA,leap->kE,fresh->kI,has->kU,turns->k8,fill->lA,Probe->lP,advance->lY,grown->mJ,laid->oj,freeSlot->qj,layClean->qk,probe->qZ,slot->rF,roomFor->t6,fits->uO,road->uP
open PySem.Value renaming ref->iA,type->kA,int->md,isInt->nw,bool->rJ,float->sY
open PySem.F renaming excBase_ValueError->iI,slot_dict_get->kN,slot_tuple_iterator_next->mr,plainAttrs_list->mE,entry_dict_get->mO,plainAttrs_dict->oJ,plain_list_iadd->oV,slot_list_pop->o8,type_list_pop->o9,plain_set_new->pW,slot_zip_next->pX,plain_extend_loop->qC,slot_dict_delitem->rE,args_dict_get_2->rW,args_dict_get_3->rX,args_tuple_iterator_next_1->sg,slot_dict_pop->sv,type_dict_get->sw,entry_tuple_iterator_next->sC,entry_proto_collect->uw,plain_proto_collect->ux
open Sum renaming inl->iM,inr->qM
open List.Pairwise renaming nil->iO,filter->jF,imp->pB
open False renaming elim->iR
open Option renaming isSome_map->i4,getD_none->qH,map->tY
open Option.some renaming inj->jj
open PySem.SetTable.layClean renaming free->ju
open PySem.Builtin.SmallTypes renaming nextOf->jD,ownedTupleIsFree->kq,ownedTupleHandOut->om
open PySem.Around renaming under_plainId->jP,under->sk,frames_deeper->sU,under_plain->t9
open PySem.Calls renaming evalArgs_plain->jQ,spliced_cons->ko,callWith_builtin->kF,spliced_nil->lN,loadGlobal_builtin->oC,Name_function_global->rK,call_function_entry->rY
open PySem.SetTable.probe renaming go->jY
open PyProof.Rows renaming callWith_type1->ku,boot_list->ky,boot_sorted->kO,slot_tuple_getitem->kQ,IntsAre->lF,seqObj->mP,AllBare->nY,boot_set->oB,envOfC->oY,callWith_builtin1->pV,boot_tuple->qU,boot_bool->rc,Subscript_->tD,size_push'->tO,listUpdate_at->um,subscriptTail_builtinR->uL
open PySem.Spec renaming sameAll->k9,same->lv
open Or renaming inl->lJ,inr->uV
open PySem.Builtin.Slice renaming slicePlaces->lK,sliceAdjust->qw
open PySem.Builtin.Tuple renaming tupleExact->lR,tupleItemsOf->qr
open Int renaming toNat_natCast->lX,le_refl->oO,emod_lt_of_pos->qG,emod_nonneg->rT
open PySem.Builtin.List renaming listSameRef->lZ,listExtendWith->qu
open PySem.W.KasT renaming kasWp->l9,kasWp_bind->nS
open PySem.Str renaming ofString->mq
open PySem.Heap.SameBut renaming refl->mw,update->oU
open PySem.Shared renaming TypeIs->my
open PySem.SeqAt renaming noMixAll->mV,noMix->pP,shaped->sL
open ForInStep renaming yield->nj
open PySem.SetTable.below renaming go->nE
open Nat.succ renaming inj->nO
open Sum.inl renaming inj->oh
open PySem.Code renaming quiet_builtin->ol,isFrame->sR
open PySem.PyData renaming canLayAll0->oz,depthAll->o6,canLay0->pH,depth->sA
open List.Perm renaming append_left->oR,cons->o5,refl->o7,of_eq->tZ
open PyProof.Rows.F renaming plain_set_update_loop->pC,entry_set_update_loop->t7
open PySem.Builtin.Frozenset renaming newClass->pO,oneOther->pQ
open String renaming splitOnAux->qx,splitOn->rG
open PySem.Heap.UpToSlots renaming of_keeps->qD
open Eq renaming mpr->qL
open Classical renaming byContradiction->q7
open PyProof.Rows.IntsAre renaming int_at->rq,length->rr
open PySem.Heap.IsSliceOf renaming new->rD
open PySem.pickOrder renaming go->rN
open PySem.W.Looks renaming ld->sh
open PySem.SeqAt.EqAt renaming int_str->si,str_int->sj
open PySem.Heap.DictOf renaming new->sV
open PySem.Heap.Ns1 renaming of_empty->tj
open PySem.Data renaming fields->tV
open Function renaming comp->uN
abbrev cr:=@if_pos
abbrev hI:=@if_neg
abbrev iq:=@absurd
abbrev iC:=@decide_eq_false
abbrev i9:=@decide_eq_true_eq
abbrev kK:=@of_decide_eq_true
abbrev mD:=@or_false
abbrev pN:=@if_false
abbrev pR:=@beq_self_eq_true
abbrev qe:=@not_or
abbrev rC:=@of_decide_eq_false
abbrev rO:=@bne_self_eq_false
def q0q{p:Prop}(h:p:=by decide):p:=h
def q0d{p:Prop}(h:p:=by omega):p:=h
def q0o{p:Prop}(h:p:=by simp):p:=h
def q0s{p:Prop}(h:p:=by decide +kernel):p:=h
def q0a{p:Prop}(h:p:=by lia):p:=h
namespace L2
open PySem PySem.Spec PyProof.Rows
abbrev Key:=Sum Int Str
noncomputable def Aq:Key->ci->Bool
 | .inl k,v=>nw k v
 | .inr x,v=>Value.isStrOf x v
noncomputable def a1Z(w:jf):Key->Int
 | .inl k=>nX k
 | .inr x=>hashStr w x
def wD:∀{k:Key} {v:ci},Aq k v=true->(∃i t,k=iM i/\v=md i t)\/(∃x t,k=qM x/\v=Value.str x t)
 | .inl i,v,h=>by
  obtain⟨t,e⟩:=Value.isInt_shape (k:=i) (v:=v) h;exact .inl #[i,t,rfl,e]
 | .inr x,v,h=>by obtain⟨t,e⟩:=Value.isStrOf_shape (x:=x) (v:=v) h;exact .inr #[x,t,rfl,e]
def N9(i:Int)(t:Tok):Aq (.inl i) (.int i t)=true:=by simp[Aq,nw]
def Oa(x:Str)(t:Tok):Aq (.inr x) (.str x t)=true:=by simp[Aq,Value.isStrOf]
def Xu(a b:Int):decide ((iM a:Key)=iM b)=(a==b):=by
 by_cases e:a=b
 ·subst e;simp
 ·have h:¬(iM a:Key)=iM b:=λq=>e<|oh q;rw[iC h];exact(beq_eq_false_iff_ne.mpr e).symm
def Xv(a b:Str):decide ((qM a:Key)=qM b)=decide (a=b):=by
 by_cases e:a=b
 ·subst e;simp
 ·have h:¬(qM a:Key)=qM b:=λq=>e<|Sum.inr.inj q;rw[iC h,iC e]
def Xw(a:Int)(b:Str):decide ((iM a:Key)=qM b)=false:=iC<|λq=>nomatch q
def Xx(a:Str)(b:Int):decide ((qM a:Key)=iM b)=false:=iC<|λq=>nomatch q
noncomputable def vR(prog:iQ)(w:jf):PySem.KeyKind prog w Key where
 is:=Aq
 hash:=a1Z w
 inj:=λv a b ha hb=>by
  rcases wD ha with⟨i,t,rfl,rfl⟩|⟨x,t,rfl,rfl⟩
  ·rcases wD hb with⟨j,u,rfl,e⟩|⟨y,u,rfl,e⟩
   ·injection e with e1 _;rw[e1]
   ·exact nomatch e
  ·rcases wD hb with⟨j,u,rfl,e⟩|⟨y,u,rfl,e⟩
   ·exact nomatch e
   ·injection e with e1 _;rw[e1]
 byValue:=λk v h=>by rcases wD h with⟨i,t,rfl,rfl⟩|⟨x,t,rfl,rfl⟩<;>rfl
 pyHash:=λhv h=>by
  rcases wD hv with⟨i,t,rfl,rfl⟩|⟨x,t,rfl,rfl⟩
  ·exact wpAny_pyHash_int h
  ·exact wpAny_pyHash_str h
 eqBool:=λhu hv h=>by
  rcases wD hu with⟨i,t,rfl,rfl⟩|⟨x,t,rfl,rfl⟩
  ·rcases wD hv with⟨j,u,rfl,rfl⟩|⟨y,u,rfl,rfl⟩
   ·rw[Xu]at h;exact r8 h
   ·rw[Xw]at h;exact si i t y u _ _ _ _ h
  ·rcases wD hv with⟨j,u,rfl,rfl⟩|⟨y,u,rfl,rfl⟩
   ·rw[Xx]at h;exact sj x t j u _ _ _ _ h
   ·rw[Xv]at h;exact wpAny_eqBool_str h
 «strs»:=λk x t v h=>by
  rcases wD h with⟨i,u,rfl,e⟩|⟨y,u,rfl,e⟩
  ·exact nomatch e
  ·injection e with e1 _;subst e1;cases v<;>rfl
def Jl(a:iQ)(w:jf)(i:Int)(t:Tok):(vR a w).is (.inl i) (.int i t)=true:=N9 i t
def Jm(a:iQ)(w:jf)(x:Str)(t:Tok):(vR a w).is (.inr x) (.str x t)=true:=Oa x t
set_option genInjectivity true in
inductive V where
 | wW|bl (b:Bool)|int (i:Int)|str (x:Str)|MU (b:Array UInt8)|Xy (b:UInt64)|ref (a:hJ)|ty (n:String)
 deriving DecidableEq
def RelV:V->ci->Prop
 | .wW,u=>u=Value.none
 | .bl b,u=>u=rJ b
 | .int i,u=>∃t,u=md i t
 | .str x,u=>∃t,u=Value.str x t
 | .MU b,u=>∃t,u=Value.bytes b t
 | .Xy b,u=>∃t,u=sY b t
 | .ref a,u=>u=iA a
 | .ty n,u=>u=kA n
abbrev Vals:List V->List ci->Prop:=Paired RelV
def Vals.length{xs:List V}{us:List ci}(r:Vals xs us):xs.length=us.length:=Paired.length r
def Vals.get:∀{a:List V} {b:List ci} {i:Nat} {x:V},Vals a b->a[i]?=↑x->∃u,b[i]?=↑u/\RelV x u:=by
 intro _ _ i x z
 induction z generalizing i with
 |nil=>intro e;simp at e
 |cons r t c =>
  intro e
  cases i with
  |zero=>simp at e;subst e;exact#[_,rfl,r]
  |succ i=>exact e1a2 (c<|by simpa using e) λu d f=>#[u,by simpa using d,f]
def Vals.set(r:RelV x u):∀{a:List V} {b:List ci} (i:Nat),Vals a b->Vals (a.set i x) (b.set i u)
 |_,_,_,.nil=>.nil
 |_,_,0,.cons _ t=>.cons r t
 |_,_,i+1,.cons q t=>.cons q<|Vals.set r i t
def Vals.append:∀{a b:List V} {c d:List ci},Vals a c->Vals b d->Vals (a++b) (c++d):=by
 intro _ _ _ _ z s
 induction z with
 |nil=>exact s
 |cons h t e=>exact .cons h e
def Vals.take:∀{a:List V} {b:List ci} (n:Nat),Vals a b->Vals (a.take n) (b.take n)
 |_,_,0,_=>.nil
 |_,_,_+1,.nil=>.nil
 |_,_,n+1,.cons r t=>.cons r<|Vals.take n t
def Vals.drop:∀{a:List V} {b:List ci} (n:Nat),Vals a b->Vals (a.drop n) (b.drop n)
 |_,_,0,r=>r
 |_,_,_+1,.nil=>.nil
 |_,_,n+1,.cons _ t=>Vals.drop n t
def zL:Option V->Option ci->Prop
 |some v,some u=>RelV v u
 |none,none=>True
 |_,_=>False
def KV{a:Type}:List (a×V)->List (a×ci)->Prop:=Paired λ(p:a×V)(q:a×ci)=>p.1=q.1/\RelV p.2 q.2
noncomputable def kV:Key->V
 | .inl i=>.int i
 | .inr x=>.str x
inductive HO where
 | lst (xs:List V)
 | tup (xs:List V)
 | dK (xG:List (Key×V))|dT (xG:List (List Key×V))
 | set (S:Int->Bool) (n:Nat)
 | ins (C dx:hJ) (fs:List (Str×V))
 | own (x:hJ)
 | xd (fs:List (Str×V))
 | met (f x:hJ)
 | zb (lo hi:Int)
 | KG (o:Obj) (u:HO)
 | FU (ps:Array ci)
 | ext (φ:ja->Prop)
abbrev Hp:=hJ->Option HO
noncomputable def upd(H:Hp)(a:hJ)(o:HO):Hp:=λb=>if b=a then some o else H b
def vm:upd H a o a=↑o:=by unfold upd;rw[cr rfl]
def vh(h:b≠a):upd H a o b=H b:=by unfold upd;rw[hI h]
def Uo:upd (upd H a o) a u=upd H a u:=by funext b;unfold upd;split<;>rfl
def ZL{H:Hp}{a b:hJ}{o u:HO}(h:H a=↑o)(c:H b=↑u)(d:o≠u):a≠b:=by intro e;subst e;rw[h]at c;exact d<|jj c
def vv{H:Hp}{a b:hJ}{o:HO}(h:H a=↑o)(c:H b=none):a≠b:=by intro e;subst e;rw[h]at c;cases c
section
variable(P:iQ)(w:jf)
def wy(H:Hp)(h:ja)(a:hJ):HO->Prop
 | .lst xs=>xs.length<=hX/\∃(Ap:List ci)(n:Nat),Vals xs Ap/\h.get? a=some { cls:=.type "list",data:=.seq Ap.toArray n}
 | .tup xs=>xs.length<=hX/\∃Ap:List ci,Vals xs Ap/\IsTup h a Ap.toArray
 | .dK xG=>xG.length<=hX/\(a==lw)=false/\∃vs,KV xG vs/\h.DictOf (vR P w) a vs
 | .dT xG=>xG.length<=hX/\(a==lw)=false/\∃xs:List (List Key×hJ×ci),
   Paired (λ(p:List Key×V)(q:List Key×hJ×ci)=>p.1=q.1/\H q.2.1=↑(.tup<|p.1.map kV)/\RelV p.2 q.2.2) xG xs /\
   ∃o es ep,h.get? a=↑o/\o.ExactDict/\o.data=.dict es ep/\es.toList=xs.map (entryOfKey<|pI<|vR P w)/\(xs.map (·.1)).Nodup
 | .set S n=>h.SetOf (kP P w) a S n
 | .ins C dx fs=>H dx=↑(.own a)/\fs.length<=1000/\dx≠a/\h.get? a=↑(kT C dx) /\
   ∃mA,h.Ns1 dx mA/\(∀f,zL (fs.lookup f)<|mA f)/\sF mA (fs.map (·.1))
 | .own _=>∃o,h.get? a=↑o
 | .xd fs=>∃mA,h.Ns1 a mA/\∀f,zL (fs.lookup f)<|mA f
 | .zb lo hi=>∃t u v,h.get? a=some { cls:=.type "range",data:=.fields #v[.int lo t,.int hi u,.int 1 v]}
 | .KG o u=>h.get? a=↑o/\wy H h a u
 | .FU ps=>h.get? a=some { cls:=.none,data:=.fields ps}
 | .met f x=>h.get? a=↑(mM (.ref f)<|.ref x)
 | .ext φ=>φ h/\(∃o,h.get? a=↑o)/\∀h1 h2:ja,φ h1->(∀o,h1.get? a=↑o->h2.get? a=↑o)->φ h2
def yk(H:Hp)(h:ja):Prop:=∀a o,H a=↑o->wy P w H h a o
end
def wy.lt(x:wy P w H h a o):a<h.objs.size:=by
 cases o with
 |lst c=>obtain⟨_,_,_,_,e⟩:=x;exact ie e
 |tup c=>obtain⟨_,_,_,p⟩:=x;exact p.lt
 |dK b=>obtain⟨_,_,_,_,o,_,_,e,_⟩:=x;exact ie e
 |dT b=>obtain⟨_,_,_,_,o,_,_,e,_⟩:=x;exact ie e
 |set S n=>obtain⟨o,_,_,_,e,_⟩:=x;exact ie e
 |ins C d fs=>obtain⟨_,_,_,e,_⟩:=x;exact ie e
 |own y=>obtain⟨_,e⟩:=x;exact ie e
 |xd fs=>obtain⟨_,⟨_,_,_,e,_⟩,_⟩:=x;exact ie e
 |zb lo g=>obtain⟨_,_,_,e⟩:=x;exact ie e
 |KG i u=>obtain⟨e,_⟩:=x;exact ie e
 |FU j=>exact ie<|show h.get? a=some _ from x
 |met f y=>exact ie<|show h.get? a=some _ from x
 |ext k=>obtain⟨_,⟨_,e⟩,_⟩:=x;exact ie e
def Paired.Xz:∀{c:List g} {d:List i},Paired F c d->(∀a b,F a b->G a b)->Paired G c d:=by
 intro _ _ z f
 induction z with
 |nil=>exact .nil
 |cons h t e=>exact .cons (f _ _ h) e
def wy.DQ(x:wy P w H h a o)(k:∀b u,(b=a\/H b=↑(.own a))->h.get? b=↑u->F.get? b=↑u)
 (G:∀b,H b=↑(.own a)->D b=↑(.own a))(I:∀b m,H b=↑(.tup m)->D b=↑(.tup m)):wy P w D F a o:=by
  induction o with
  |lst m=>obtain⟨z,l,n,r,e⟩:=x;exact#[z,l,n,r,k _ _ (.inl rfl) e]
  |tup m=>obtain⟨z,l,r,g,e,c⟩:=x;exact#[z,l,r,g,k _ _ (.inl rfl) e,c]
  |dK s=>obtain⟨z,y,J,r,g,i,j,e,c⟩:=x;exact#[z,y,J,r,g,i,j,k _ _ (.inl rfl) e,c]
  |dT s =>
    obtain⟨z,y,m,r,g,i,j,e,c⟩:=x
    exact#[z,y,m,Paired.Xz r λp q z=>#[z.1,I _ _ z.2.1,z.2.2],g,i,j,k _ _ (.inl rfl) e,c]
  |set S n=>obtain⟨g,i,j,t,e,c⟩:=x;exact#[g,i,j,t,k _ _ (.inl rfl) e,c]
  |ins C Q fs =>
    obtain⟨d,z,L,e,A,⟨B,i,j,M,c⟩,r⟩:=x
    exact#[G _ d,z,L,k _ _ (.inl rfl) e,A,#[B,i,j,k _ _ (.inr d) M,c],r]
  |own y=>obtain⟨g,e⟩:=x;exact#[g,k _ _ (.inl rfl) e]
  |xd fs=>obtain⟨A,⟨B,i,j,e,c⟩,r⟩:=x;exact#[A,#[B,i,j,k _ _ (.inl rfl) e,c],r]
  |zb lo R=>obtain⟨t,u,v,e⟩:=x;exact#[t,u,v,k _ _ (.inl rfl) e]
  |KG g u N=>obtain⟨e,q⟩:=x;exact#[k _ _ (.inl rfl) e,N q]
  |FU O =>
    have e:h.get? a=some { cls:=.none,data:=.fields O}:=x
    exact k a _ (.inl rfl) e
  |met f y =>
    have e:h.get? a=↑(mM (.ref f)<|.ref y):=x
    exact k a _ (.inl rfl) e
  |ext T=>obtain⟨p,⟨o,e⟩,E⟩:=x;exact#[E _ _ p λo q=>k _ _ (.inl rfl) q,#[o,k _ _ (.inl rfl) e],E]
def yk.lt(x:yk P w H h)(e:H a=↑o):a<h.objs.size:=(x a o e).lt
def yk.fresh(x:yk P w H h)(e:h.objs.size<=a):H a=none:=by
 cases q:H a with
 |none=>rfl
 |some u=>exact iq (iB (x.lt q) e)<|kf _
def yk.kept(x:yk P w H h)(k:∀b u,h.get? b=↑u->c.get? b=↑u):yk P w H c:=λa o e =>
 (x a o e).DQ (λb u _ q=>k b u q) (λ_ q=>q) λ_ _ q=>q
def yk.laid(x:yk P w H h)(k:∀b u,h.get? b=↑u->h'.get? b=↑u)(i:h.objs.size<=a)(d:wy P w (upd H a o) h' a o):yk P w (upd H a o) h':=λb u e=>by
 have f:=x.fresh i;by_cases g:b=a
 ·subst g;rw[vm]at e;cases e;exact d
 ·rw[vh g]at e;exact(x b u e).DQ (λc v _ q=>k c v q) (λc q=>by rw[vh<|vv q f];exact q) λc j q=>by rw[vh<|vv q f];exact q
def Rd(H:Hp)(a:hJ)(u:HO):Prop:=H a=↑u\/∃o,H a=↑(.KG o u)
def Rd.of(h:H a=↑u):Rd H a u:=.inl h
def Rd.ok(r:Rd H a u)(x:yk P w H h):wy P w H h a u:=by
 rcases r with r|⟨o,r⟩
 ·exact x a u r
 ·obtain⟨_,q⟩:=x a _ r;exact q
def ZM:Option HO->Prop
 |some (.lst _)=>True
 |some (.dK _)=>True
 |some (.dT _)=>True
 |some (.set _ _)=>True
 |some (.ins _ _ _)=>True
 |some (.ext _)=>True
 |_=>False
def yk.write(t:yk P w H h)(g:ZM (H x))(o:e=x\/H e=↑(.own x))(k:∀b u,b≠e->h.get? b=↑u->h'.get? b=↑u)(m:∃u,h'.get? e=↑u)
 (n:wy P w (upd H x p) h' x p):yk P w (upd H x p) h':=λb u q=>by
  have d:∀c y,H c=↑(.own y)->c≠x:=λc y r z=>by subst z;rw[r]at g;exact g
  have f:∀c i,H c=↑(.tup i)->c≠x:=λc i r z=>by subst z;rw[r]at g;exact g
  by_cases j:b=x
  · subst j; rw[vm]at q; cases q; exact n
  · rw[vh j]at q
    by_cases a:b=e
    · have s : H b = some (.own x) := by
        rcases o with z|z
        · exact iq (a.trans z) j
        · rw[a]; exact z
      rw[q]at s;cases s
      obtain⟨v,A⟩:=m
      exact#[v,by rw[a];exact A]
    · refine(t b u q).DQ (λc v l r => k c v ?_ r) (λc r => by rw[vh<|d c b r]; exact r) λc i r => by rw[vh<|f c i r]; exact r
      rcases l with rfl|l
      · exact a
      · rintro rfl
        rcases o with z|z
        · exact d c b l z
        · rw[l]at z; cases z; exact j rfl
structure Un(fs ex:List hJ)(H H':Hp)(h h':ja):Prop where
 keep:∀b o,h.get? b=↑o->H b=none->b∉fs->b∉ex->h'.get? b=↑o
 slot:∀b o,h.get? b=↑o->H b=none->b∈fs->b∉ex->∃sl,h'.get? b=some { o with slots:=sl}
 free:∀b o,h.get? b=↑o->H b=none->b∉ex->H' b=none
 there:∀b o,h.get? b=↑o->b∉ex->∃o',h'.get? b=↑o'
 B4:∀b xs,H b=↑(.tup xs)->H' b=↑(.tup xs)
 BL:∀b o u,H b=↑(.KG o u)->H' b=↑(.KG o u)
 BM:∀b ps,H b=↑(.FU ps)->∃more,H' b=↑(.FU<|ps++more)
def Un.any(u:Un fs e H H1 h f)(q:h.get? b=↑a)(n:H b=none)(c:b∉e):∃g,f.get? b=some { a with slots:=g}:=by
 by_cases d:b∈fs
 ·exact u.slot b a q n d c
 ·exact#[a.slots,u.keep b a q n d c]
def Un.trans(a:Un fs ex H H1 h h1)(b:Un fs ex H1 H2 h1 h2):Un fs ex H H2 h h2 where
 keep:=λc ob q n hc hx=>b.keep c ob (a.keep c ob q n hc hx) (a.free c ob q n hx) hc hx
 slot:=λc ob q n hc hx=>by obtain⟨sl,e1⟩:=a.slot c ob q n hc hx;obtain⟨sl',e2⟩:=b.slot c _ e1 (a.free c ob q n hx) hc hx;exact#[sl',e2]
 free:=λc ob q n hx=>by obtain⟨o',e1⟩:=a.there c ob q hx;exact b.free c o' e1 (a.free c ob q n hx) hx
 there:=λc ob q hx=>by obtain⟨o',e1⟩:=a.there c ob q hx;exact b.there c o' e1 hx
 B4:=λc xs q=>b.B4 c xs<|a.B4 c xs q
 BL:=λc ob xs q=>b.BL c ob xs<|a.BL c ob xs q
 BM:=λc ps q=>by obtain⟨m1,e1⟩:=a.BM c ps q;obtain⟨m2,e2⟩:=b.BM c _ e1;exact#[m1++m2,by rw[e2,qp]]
def Un.kept(k:∀b u,h.get? b=↑u->c.get? b=↑u):Un fs d H H h c :=
 #[λb a q _ _ _=>k b a q,λb a q _ _ _=>#[a.slots,k b a q],λ_ _ _ n _=>n,λb a q _=>#[a,k b a q],λ_ _ q=>q,λ_ _ _ q=>q,λ_ e q=>#[#v[],by rw[q];simp]]
def Un.refl:Un fs a H H h h:=Un.kept λ_ _ q=>q
def Un.laid(k:∀b u,h.get? b=↑u->h'.get? b=↑u)(hp:h.objs.size<=a)(hn:H a=none):Un fs ex H (upd H a o) h h' where
 keep:=λb u q _ _ _=>k b u q
 slot:=λb u q _ _ _=>#[u.slots,k b u q]
 free:=λb u q n _=>by rw[vh<|iu<|iB (ie q) hp];exact n
 there:=λb u q _=>#[u,k b u q]
 B4:=λb xs q=>by rw[vh<|vv q hn];exact q
 BL:=λb u xs q=>by rw[vh<|vv q hn];exact q
 BM:=λb ps q=>#[#v[],by rw[vh<|vv q hn,q];simp]
def Un.write(c:ZM (H x))(j:e=x\/H e=↑(.own x))(k:∀b u,b≠e->h.get? b=↑u->h'.get? b=↑u)(d:∃u,h'.get? e=↑u):Un fs p H (upd H x o) h h':=by
 have g:∀b,H b=none->b≠x:=λb n z=>by subst z;rw[n]at c;exact c
 have i:∀b,H b=none->b≠e:=λb n z=>by
  subst z;rcases j with r|r
  ·exact g b n r
  ·rw[n]at r;cases r
 have f:∀b u,H b=↑u->¬ZM ↑u->b≠x:=λb u q l z=>by subst z;rw[q]at c;exact l c
 refine#[λb u q n _ _=>k b u (i b n) q,λb u q n _ _=>#[u.slots,k b u (i b n) q],λb u q n _=>by rw[vh (g b n)];exact n,λb u q _=>?_,
  λb m q=>by rw[vh (f b _ q λz=>z)];exact q,λb u m q=>by rw[vh (f b _ q λz=>z)];exact q,λb s q=>#[#v[],by rw[vh (f b _ q λz=>z),q];simp]]
 by_cases a:b=e
 ·subst a;exact d
 ·exact#[u,k b u a q]
noncomputable def trk(h:ja)(H:Hp):List hJ:=(iG h.objs.size).filter λa=>(H a).isSome
noncomputable def Jn(h:ja)(H:Hp):ja:=mu h<|trk h H
def Ob(h:ja)(H:Hp):(Jn h H).objs.size=h.objs.size:=PySem.W.hideAll_size _ _
def Er{h:ja}(e:h.get? b=↑o)(n:H b=none):(Jn h H).get? b=↑o :=
 pJ _ e λa=>by have q:(H b).isSome=true:=(List.mem_filter.mp a).2;rw[n]at q;simp at q
def Uq(e:(Jn h H).get? b=↑o):h.get? b=↑o/\H b=none:=by
 have a:h.get? b=↑o:=nV (trk h H) e;refine#[a,?_]
 cases q:H b with
 |none=>rfl
 |some x =>
  have c:b∈trk h H:=List.mem_filter.mpr #[List.mem_range.mpr<|ie a,by simp[q]];have z:(Jn h H).get? b=none:=sG (trk h H) c;rw[z]at e;cases e
noncomputable def Ur(g h:ja)(L:hJ):List (hJ×Obj):=(iG h.objs.size).filterMap λa=>if a=L\/(g.get? a).isSome=true then none else (h.get? a).map λo=>(a,o)
noncomputable def rest(g h:ja)(L d:hJ):List (hJ×Obj):=(Ur g h L).filter λp=>decide<|p.1≠d
structure Mod(K:hO)(mg:Str->Option ci)(base:ja):Prop where
 B3:K.In base
 glob:base.Ns iv mg
 blt:∃mb,base.Ns oP mb/\∀x:Str,x≠"__name__"->mb x=ny x
 nolimit:base.NoLimit
structure Cx where
 prog:iQ
 w:jf
 K:hO
 mg:Str->Option ci
 base:ja
 A:jN
 N:List Str
 s₀:ic
 H₀:Hp
 env:Env
 outer:List Env
 stack:List Env
 ex:List hJ
 fn:Str->Bool
 calm:Bool
 pn:List (hJ×Obj)
 xe:ci->ic->Prop
noncomputable def zJ(l:List Env):List hJ:=l.filterMap (·.frame)
noncomputable abbrev Cx.fs(X:Cx):List hJ:=zJ X.outer
def Vis(a:mB)(x:Str):Prop:=a.names.lookup x=some .local\/a.names.lookup x=some .cell\/a.names.lookup x=some .free
def Loc(a:mB)(x:Str):Prop:=a.names.lookup x=some .local\/a.names.lookup x=some .cell
def Look(a:Env)(h:ja)(m:Str->Option ci)(x:Str)(u:ci):Prop :=
 (a.kindOf x=some .local/\m x=↑u)\/((a.kindOf x=some .cell\/a.kindOf x=some .free)/\∃c,a.cells.lookup x=↑c/\h.IsCell c ↑u)
structure Cx.Ok(X:Cx):Prop where
 mod:Mod X.K X.mg X.base
 kind:X.env.scope.kind=.function
 glob:X.env.globals=iv
 blt:X.env.builtins=oP
 above:X.s₀.heap.objs.size<=X.env.locals
 inj:∀x y c,X.env.cells.lookup x=↑c->X.env.cells.lookup y=↑c->x=y
 has:∀x,(X.env.kindOf x=some .cell\/X.env.kindOf x=some .free)->∃c,X.env.cells.lookup x=↑c
 PP:∀x c,X.fn x=true->X.env.cells.lookup x=↑c->X.s₀.heap.objs.size<=c
 hd:X.calm=true->X.A.handled=none
 frames:X.A.frames=↑X.stack
 CV:X.stack=X.outer\/(X.stack=X.env::X.outer/\X.env.frame=↑X.env.locals)
 Us:∀b∈X.ex,b≠X.env.locals/\∀x c,X.env.cells.lookup x=↑c->c≠b
 bs:∀b o,X.base.get? b=↑o->X.s₀.heap.get? b=↑o/\X.H₀ b=none
 Jo:X.base.objs.size<=X.s₀.heap.objs.size
 DR:∀b o,X.base.get? b=↑o->b∉X.ex
 Es:∀b∈X.ex,b∉X.fs
 yT:X.s₀.heap.FunFrames X.base X.outer
 Kz:∀b∈X.fs,X.H₀ b=none
structure Inv(X:Cx)(pins:List (hJ×Obj))(σ:List (Option V))(H:Hp)(s:ic):Prop where
 ok:X.Ok
 os:s.os=X.s₀.os
 bare:nY s.gens
 base:Un X.fs X.ex X.H₀ H X.s₀.heap s.heap
 loc:∃m,s.heap.Ns X.env.locals m/\∀(i:Nat)(x:Str)(v:V),X.N[i]?=↑x->σ[i]?=↑(some v)->Vis X.env.scope x->∃u,RelV v u/\Look X.env s.heap m x u
 cell:∀x c,X.env.cells.lookup x=↑c->∃v,s.heap.IsCell c v
 free:H X.env.locals=none
 yE:∀x c,X.env.cells.lookup x=↑c->H c=none
 pin:∀p∈X.pn++pins,s.heap.get? p.1=↑p.2/\H p.1=none/\p.1≠X.env.locals/\p.1∉X.fs/\∀v,p.2.data≠.cell v
 v0:yk X.prog X.w H s.heap
 len:σ.length=X.N.length
section
variable{X:Cx}{pins:List (hJ×Obj)}{σ:List (Option V)}{H H':Hp}{s:ic}
def Cx.Ok.a12(a:X.Ok)(e:X.base.get? b=↑o):b∉X.fs:=λc=>by have:=(a.yT.mem c).1;rw[e]at this;cases this
def Inv.bs(I:Inv X pins σ H s):∀b o,X.base.get? b=↑o->s.heap.get? b=↑o/\H b=none:=λb o e =>
 #[I.base.keep b o (I.ok.bs b o e).1 (I.ok.bs b o e).2 (I.ok.a12 e)<|I.ok.DR b o e,I.base.free b o (I.ok.bs b o e).1 (I.ok.bs b o e).2<|I.ok.DR b o e]
def Inv.bk(I:Inv X pins σ H s):∀b o,X.base.get? b=↑o->s.heap.get? b=↑o:=λb o e=>(I.bs b o e).1
def Inv.mod(I:Inv X pins σ H s):Mod X.K X.mg X.base:=I.ok.mod
def Inv.y9(I:Inv X pins σ H s):X.K.In s.heap:=I.ok.mod.B3.keeps I.bk
def Inv.nolimit(I:Inv X pins σ H s):s.heap.NoLimit:=I.ok.mod.nolimit.keeps I.bk
def Inv.lt(I:Inv X pins σ H s):X.env.locals<⇑s:=e1a2 I.loc λ_ a _=> a.lt
def Inv.sz(I:Inv X pins σ H s):X.s₀.heap.objs.size<=⇑s:=iP I.ok.above<|mn I.lt
def Inv.a13(I:Inv X pins σ H s)(h:⇑s<=a):a∉X.fs:=λb=>by obtain⟨_,o,c,_⟩:=I.ok.yT.mem b;exact iq (iB (ie c)<|iP I.sz h)<|kf _
def Inv.cne(I:Inv X pins σ H s):∀x c,X.env.cells.lookup x=↑c->c≠X.env.locals:=λx c e z=>by refine e2a2 (I.cell x c e) λv o d f=>?_;obtain⟨m,⟨g,h,i,a,b,_⟩,_⟩:=I.loc;rw[z,a]at d;cases d;rw[b]at f;cases f
def Inv.yT(I:Inv X pins σ H s):s.heap.FunFrames X.base X.outer:=by
 have a:∀(l:List Env),(∀b∈zJ l,b∈X.fs)->X.s₀.heap.FunFrames X.base l->s.heap.FunFrames X.base l:=by
  intro l
  induction l with
  |nil=>intro _ _;trivial
  |cons h r i =>
   intro g j;obtain⟨k,⟨L,o,c,m,n,p⟩,q⟩:=j;have d:L∈X.fs:=g L (by unfold zJ;rw[lh,c];exact hW);obtain⟨t,e⟩:=I.base.slot L o n (I.ok.Kz L d) d λz=>I.ok.Es L z d;exact#[k,#[L,_,c,m,e,p],i (λb f=>g b<|by unfold zJ;rw[lh,c];exact hZ _ f) q]
 exact a X.outer (λ_ f=>f) I.ok.yT
def Inv.stack(I:Inv X pins σ H s):s.heap.FunFrames X.base X.stack:=by
 rcases I.ok.CV with e|⟨e,a⟩
 ·rw[e];exact I.yT
 ·rw[e];refine e1a2 I.loc λm b _=>?_;refine .cons (by rw[I.ok.kind];decide) a b ?_ I.yT;exact nL<|iP I.ok.Jo I.ok.above
def Inv.Et(I:Inv X pins σ H s):∀b∈zJ X.stack,b∈X.env.locals::X.fs:=λb a=>by
 rcases I.ok.CV with e|⟨e,c⟩
 ·rw[e]at a;exact hZ _ a
 ·rw[e]at a;unfold zJ at a;rw[lh,c]at a;exact a
def Inv.MV(I:Inv X pins σ H s):∀b∈zJ X.stack,H b=none:=λb a=>by
 rcases List.mem_cons.mp (I.Et b a) with e|a
 ·rw[e];exact I.free
 ·obtain⟨_,o,c,_⟩:=I.ok.yT.mem a;exact I.base.free b o c (I.ok.Kz b a) λz=>I.ok.Es b z a
def Inv.step{g':Array pK}{t':Nat}{ch:List hJ}(I:Inv X pins σ H s)
 (g:∀b∈ch,(b∈X.ex\/X.s₀.heap.objs.size<=b)/\b≠X.env.locals/\(∀x c,X.env.cells.lookup x=↑c->c≠b)/\∀p∈X.pn++pins,p.1≠b)
 (h:∀b o,b≠X.env.locals->b∉X.fs->b∉ch->s.heap.get? b=↑o->H b=none->h'.get? b=↑o)
 (B:∀b o,b≠X.env.locals->b∈X.fs->b∉ch->s.heap.get? b=↑o->H b=none->∃R,h'.get? b=some { o with slots:=R}) (f:∀b o,b∉ch->s.heap.get? b=↑o->H b=none->H' b=none)
 (D:∀b o,b∉ch->s.heap.get? b=↑o->∃G,h'.get? b=↑G)
 (J:∀b C,H b=↑(.tup C)->H' b=↑(.tup C)) (L:∀b o u,H b=↑(.KG o u)->H' b=↑(.KG o u)) (M:∀b Q,H b=↑(.FU Q)->∃N,H' b=↑(.FU<|Q++N))
 (ns:∀m,s.heap.Ns X.env.locals m->h'.Ns X.env.locals m) (S:yk X.prog X.w H' h') (hg:nY g') :
    Inv X pins σ H' { s with heap:=h',gens:=g',drawn:=d',toks:=t'}:=by
  have O:∀b o,X.s₀.heap.get? b=↑o->b≠X.env.locals:=λb o e=>iu<|iB (ie e) I.ok.above
  have y:∀b o,X.s₀.heap.get? b=↑o->b∉X.ex->b∉ch:=λb o e a E=>by
    rcases(g b E).1 with z|z
    · exact a z
    · exact iq (iB (ie e) z)<|kf _
  have j:∀x c,X.env.cells.lookup x=↑c->∀v,s.heap.IsCell c v->h'.IsCell c v:=λx c e v z9=>e1a2 z9 λo F T=>by
    have t:c∉ch:=λz=>(g c z).2.2.1 x c e rfl
    by_cases W:c∈X.fs
    · obtain⟨R, q⟩ := B c o (I.cne x c e) W t F (I.yE x c e)
      exact#[_,q,T]
    · exact#[o, h c o (I.cne x c e) W t F<|I.yE x c e, T]
  refine#[I.ok,I.os,hg,#[λb o e n E a=>?_,λb o e n E a=>?_,λb o e n a=>?_,λb o e a=>?_,λb C e=>J b C<|I.base.B4 b C e,λb o C e=>L b o C<|I.base.BL b o C e,λb Q e=>?_],?_,λx c e=>?_,?_,λx c e=>?_,λp Y=>?_,S,I.len]
  · exact h b o (O b o e) E (y b o e a) (I.base.keep b o e n E a)<|I.base.free b o e n a
  · obtain⟨R, A⟩ := I.base.slot b o e n E a
    obtain⟨U,P⟩:=B b _ (O b o e) E (y b o e a) A<|I.base.free b o e n a
    exact#[U,P]
  · obtain⟨G, A⟩ := I.base.there b o e a
    exact f b G (y b o e a) A<|I.base.free b o e n a
  · obtain⟨G, A⟩ := I.base.there b o e a
    exact D b G (y b o e a) A
  · obtain⟨m1, A⟩ := I.base.BM b Q e
    obtain⟨m2,P⟩:=M b _ A
    exact#[m1++m2,by rw[P,qp]]
  · refine e1a2 I.loc λm hn hl => ?_
    refine#[m,ns m hn,λi x v A P e3=>?_]
    refine e1a2 (hl i x v A P e3) λu r l=>?_
    refine#[u,r,?_]
    rcases l with l|⟨k,c,e,z⟩
    · exact .inl l
    · exact .inr #[k, c, e, j x c e _ z]
  · obtain⟨v, z⟩ := I.cell x c e
    exact#[v,j x c e v z]
  · obtain⟨m, ⟨o, _, _, F, _⟩, _⟩ := I.loc
    exact f _ o (λz=>(g _ z).2.1 rfl) F I.free
  · refine e2a2 (I.cell x c e) λv o F T => ?_
    exact f c o (λz=>(g c z).2.2.1 x c e rfl) F<|I.yE x c e
  · obtain⟨e, n, Z, nf, d⟩ := I.pin p Y
    have t:p.1∉ch:=λz=>(g p.1 z).2.2.2 p Y rfl
    exact#[h p.1 p.2 Z nf t e n,f p.1 p.2 t e n,Z,nf,d]
def Inv.un{t':Nat}(I:Inv X pins σ H s)(u:Un X.fs [] H H' s.heap h')(c:yk X.prog X.w H' h'):Inv X pins σ H' { s with heap:=h',toks:=t'}:=by
 obtain⟨m,⟨o,l,p,h,r⟩,_⟩:=id I.loc;obtain⟨q,i⟩:=u.any h I.free q0o
 exact I.step (g':=s.gens) (d':=s.drawn) (ch:=[]) (λ_ z=>nomatch z) (λb o _ d _ e n=>u.keep b o e n d q0o) (λb o _ d _ e n=>u.slot b o e n d q0o) (λb o _ e n=>u.free b o e n q0o) (λb o _ e=>u.there b o e q0o) u.B4 u.BL u.BM (λt j=>by
  refine e3a2 j λv f g a k=>?_;rw[h]at a;cases a
  exact#[_,f,g,i,k]) c I.bare
def Inv.call{g':Array pK}{t':Nat}{ch:List hJ}(I:Inv X pins σ H s)(u:Un (zJ X.stack) ch H H' s.heap h')(g:yk X.prog X.w H' h')(l:nY g')
 (d:∀b∈ch,(b∈X.ex\/X.s₀.heap.objs.size<=b)/\b≠X.env.locals/\(∀x c,X.env.cells.lookup x=↑c->c≠b)/\∀p∈X.pn++pins,p.1≠b) :
    Inv X pins σ H' { s with heap:=h',gens:=g',drawn:=d',toks:=t'}:=by
  obtain⟨m,⟨o,y,A,k,r⟩,_⟩:=id I.loc
  obtain⟨B,h⟩:=u.any k I.free λz=>(d _ z).2.1 rfl
  exact I.step (ch:=ch) d (λb o h q a e n=>u.keep b o e n (λz=>(List.mem_cons.mp (I.Et b z)).elim h q) a) (λb o _ _ a e n=>u.any e n a) (λb o a e n=>u.free b o e n a) (λb o a e=>u.there b o e a) u.B4 u.BL u.BM (λC t=>by
    refine e3a2 t λD i j f v=>?_
    rw[k]at f;cases f
    exact#[_,i,j,h,v]) g l
def Inv.turned{t':Nat}(I:Inv X pins σ H s)(k:∀b o,b≠a->s.heap.get? b=↑o->h.get? b=↑o)(i:H a=none)(g:a≠X.env.locals)
 (j:a∈X.ex\/X.s₀.heap.objs.size<=a)(l:∀x c,X.env.cells.lookup x=↑c->c≠a)(t:∀p∈X.pn++pins,p.1≠a):Inv X pins σ H { s with heap:=h,toks:=t'}:=by
  have f:∀b u,H b=↑u->b≠a:=λb u e z=>by rw[z,i]at e;cases e
  refine I.step (g':=s.gens) (d':=s.drawn) (ch:=[a]) (λb w=>?_) (λb o _ _ d e _=>k b o (λz=>d<|by simp[z]) e) (λb o _ _ d e _=>#[o.slots,k b o (λz=>d<|by simp[z]) e]) (λ_ _ _ _ n=>n)
    (λb o d e=>#[o,k b o (λz=>d<|by simp[z]) e]) (λ_ _ e=>e) (λ_ _ _ e=>e) (λb D e=>#[#v[],by rw[e];simp]) (λm y=>?_) (λb u e=>?_) I.bare
  · have e : b = a := by simpa using w
    subst e
    exact#[j,g,l,t]
  · refine e3a2 y λo A B C r => ?_
    exact#[o,A,B,k _ o (Ne.symm g) C,r]
  · refine(I.v0 b u e).DQ (λc v d q => k c v ?_ q) (λ_ q => q) λ_ _ q => q
    rcases d with z|z
    · rw[z]; exact f b u e
    · exact f c _ z
def Inv.tok(I:Inv X pins σ H s)(t:Nat):Inv X pins σ H { s with toks:=t}:=I.un (h':=s.heap) (t':=t) Un.refl I.v0
def Inv.kept{t':Nat}(I:Inv X pins σ H s)(k:∀b u,s.heap.get? b=↑u->a.get? b=↑u):Inv X pins σ H { s with heap:=a,toks:=t'}:=I.un (Un.kept k)<|I.v0.kept k
def Inv.laid{t':Nat}(I:Inv X pins σ H s)(k:∀b u,s.heap.get? b=↑u->h'.get? b=↑u)(c:⇑s<=a)(d:wy X.prog X.w (upd H a o) h' a o) :
  Inv X pins σ (upd H a o) { s with heap:=h',toks:=t'}:=I.un (Un.laid k c<|I.v0.fresh c)<|I.v0.laid k c d
def Inv.write{t':Nat}(I:Inv X pins σ H s)(d:ZM (H x))(f:e=x\/H e=↑(.own x))(k:∀b u,b≠e->s.heap.get? b=↑u->h'.get? b=↑u)(a:∃u,h'.get? e=↑u)
 (c:wy X.prog X.w (upd H x o) h' x o):Inv X pins σ (upd H x o) { s with heap:=h',toks:=t'}:=I.un (Un.write d f k a)<|I.v0.write d f k a c
def Inv.zM(I:Inv X pins σ H s)(h:∀p∈pins',s.heap.get? p.1=↑p.2/\H p.1=none/\p.1≠X.env.locals/\p.1∉X.fs/\∀v,p.2.data≠.cell v):Inv X pins' σ H s :=
 #[I.ok,I.os,I.bare,I.base,I.loc,I.cell,I.free,I.yE,λp a=>(List.mem_append.mp a).elim (λz=>I.pin p<|jo _ z)<|h p,I.v0,I.len]
def Jq{N:List Str}(c:N.Nodup){i j:Nat}(a:N[i]?=↑x)(b:N[j]?=↑x):i=j:=by obtain⟨f,d⟩:=List.getElem?_eq_some_iff.mp a;obtain⟨g,e⟩:=List.getElem?_eq_some_iff.mp b;exact(List.getElem_inj c).mp<|d.trans e.symm
def Gu{E:ci->ic->Prop}{i:Nat}{Q:Unit->ic->Prop}(I:Inv X pins σ H s)(hN:X.N.Nodup)(S:X.N[i]?=↑x)(B:Loc X.env.scope x)(r:RelV v u)
 (h:∀s',Inv X pins (σ.set i<|↑v) H s'->(∃a,jl a s.heap s'.heap/\(a=X.env.locals\/X.env.cells.lookup x=↑a))->Q () s')(hf:X.fn x=true\/X.env.scope.names.lookup x=some .local:=by first|exact .inl rfl|exact .inr rfl|assumption):ii M A (storeName X.env x u) Q E s:=by
  refine e1a2 (id I.loc) λm hn hl=>?_
  have T:(X.env.scope.kind==.class||(X.env.scope.kind==.module&&X.env.locals != X.env.globals))=false:=by rw[I.ok.kind];rfl
  have F:i<σ.length:=by rw[I.len];exact(List.getElem?_eq_some_iff.mp S).1
  have J:=I.cne
  have g:∀{a:hJ} {R:ja},(∃o,s.heap.get? a=↑o/\H a=none)->jl a s.heap R->yk X.prog X.w H R:=λ{a R} ha f b ob e=>by
    refine e1a2 ha λ_ _ C=>?_
    refine(I.v0 b ob e).DQ (λc w' t q=>(f.2 c ?_).trans q) (λ_ q=>q) λ_ _ q=>q
    rintro rfl
    rcases t with rfl|t
    · rw[C]at e; cases e
    · rw[C]at t; cases t
  rcases B with G|G
  · refine wpAny_storeName_local G hn (λR aa f => ?_) T
    refine e3a2 (id hn) λoL _ _ ab _=>?_
    refine h _ #[I.ok,I.os,I.bare,#[λb o e n L B=>?_,λb o e n L B=>?_,I.base.free,λb o e B=>?_,I.base.B4,I.base.BL,I.base.BM],#[_,aa,λj y v' l D e3=>?_],λy c e=>?_,I.free,I.yE,λp hp=>?_,g #[oL,ab,I.free] f,by simpa using I.len] #[_,f,.inl rfl]
    · exact(f.2 b<|iu<|iB (ie e) I.ok.above).trans<|I.base.keep b o e n L B
    · obtain⟨sl, l⟩ := I.base.slot b o e n L B
      exact#[sl,(f.2 b<|iu<|iB (ie e) I.ok.above).trans l]
    · obtain⟨o', l⟩ := I.base.there b o e B
      exact#[o',(f.2 b<|iu<|iB (ie e) I.ok.above).trans l]
    · by_cases O : j = i
      · subst O
        rw[S]at l;cases l
        rw[pc F]at D
        cases D
        exact#[u,r,.inl #[G,q0o]]
      · rw[nM<|Ne.symm O]at D
        refine e1a2 (hl j y v' l D e3) λu' r' q=>?_
        refine#[u',r',?_]
        rcases q with⟨k,e⟩|⟨k,c,e,z⟩
        · refine .inl #[k, ?_]
          have:y≠x:=λe=>O<|Jq hN l<|e▸S
          simp[this,e]
        · exact .inr #[k, c, e, z.sameBut f<|J y c e]
    · obtain⟨w', z⟩ := I.cell y c e
      exact#[w',z.sameBut f<|J y c e]
    · obtain⟨e, n, ne, nf, d⟩ := I.pin p hp
      exact#[(f.2 p.1 ne).trans e,n,ne,nf,d]
  · have P : X.fn x = true := by
      rcases hf with z|z
      · exact z
      · rw[z]at G; cases G
    obtain⟨c,t⟩:=I.ok.has x<|.inl G
    obtain⟨w',z⟩:=I.cell x c t
    refine wpAny_storeName_cell I.ok.kind G t z<|λR U f=>?_
    refine e1a2 (id z) λoc W Y=>?_
    refine h { s with heap:=R} #[I.ok,I.os,I.bare,#[λb o e n L B=>?_,λb o e n L B=>?_,I.base.free,λb o e B=>?_,I.base.B4,I.base.BL,I.base.BM],#[m,hn.sameBut f<|Ne.symm<|J x c t,λj y v' l D e3=>?_],λy c' e=>?_,I.free,I.yE,λp hp=>?_,g #[oc,W,I.yE x c t] f,by simpa using I.len] #[c,f,.inr t]
    · exact(f.2 b<|iu<|iB (ie e)<|I.ok.PP x c P t).trans<|I.base.keep b o e n L B
    · obtain⟨sl, l⟩ := I.base.slot b o e n L B
      exact#[sl,(f.2 b<|iu<|iB (ie e)<|I.ok.PP x c P t).trans l]
    · obtain⟨o', l⟩ := I.base.there b o e B
      exact#[o',(f.2 b<|iu<|iB (ie e)<|I.ok.PP x c P t).trans l]
    · by_cases O : j = i
      · subst O
        rw[S]at l;cases l
        rw[pc F]at D
        cases D
        exact#[u,r,.inr #[.inl G,c,t,U]]
      · rw[nM<|Ne.symm O]at D
        refine e1a2 (hl j y v' l D e3) λu' r' q=>?_
        refine#[u',r',?_]
        rcases q with q|⟨k,c',e,z'⟩
        · exact .inl q
        · refine .inr #[k, c', e, z'.sameBut f ?_]
          rintro rfl
          exact O<|Jq hN l<|I.ok.inj _ _ _ e t▸S
    · by_cases Z : c' = c
      · subst Z; exact#[_, U]
      · obtain⟨w2, z2⟩ := I.cell y c' e
        exact#[w2,z2.sameBut f Z]
    · obtain⟨e, n, ne, nf, d⟩ := I.pin p hp
      refine#[(f.2 p.1 ?_).trans e,n,ne,nf,d]
      intro q
      rw[q,W]at e
      have q':oc=p.2:=jj e
      exact d w' (by rw[<- q'];exact Y)
def Jr{i:Nat}(I:Inv X pins σ H s)(b:X.N.Nodup)(c:X.N[i]?=↑x)(d:Loc X.env.scope x)(r:RelV v u)
 (h:∀a,Inv X pins (σ.set i<|↑v) H a->Q () a)(e:X.fn x=true\/X.env.scope.names.lookup x=some .local:=by first|exact .inl rfl|exact .inr rfl|assumption):ii M A (storeName X.env x u) Q E s :=
  Gu I b c d r (λa f _=>h a f) e
def Inv.WR{a:ic}(I:Inv X pins σ H s)(g:a.os=s.os)(u:Un (zJ X.stack) ch H H' s.heap a.heap)(d:yk X.prog X.w H' a.heap)(h:nY a.gens)
 (f:∀b∈ch,(b∈X.ex\/X.s₀.heap.objs.size<=b)/\b≠X.env.locals/\(∀x c,X.env.cells.lookup x=↑c->c≠b)/\∀p∈X.pn++pins,p.1≠b):Inv X pins σ H' a:=by
  obtain⟨m,i,j,k,l⟩:=a
  have e:l=s.os:=g
  subst e
  exact I.call (g':=i) (t':=k) (d':=j) u d h f
end
abbrev XK:=ci->Option hJ->Hp->Prop
abbrev St:=List<|Option V
abbrev VK:=V->Hp->Prop
abbrev TE:=St->Hp->VK->Prop
abbrev TT:=St->Hp->(Bool->Hp->Prop)->Prop
abbrev TA:=St->Hp->(List V->Hp->Prop)->Prop
structure Ends where
 nx:St->Hp->Prop
 rt:VK
 bk:St->Hp->Prop:=λ_ _=>False
 ct:St->Hp->Prop:=λ_ _=>False
abbrev TS:=Ends->St->Hp->Prop
def EP(X:Cx)(a:List (hJ×Obj))(c:St)(Q:VK)(u:ci)(d:ic):Prop:=∃v b,Inv X a c b d/\RelV v u/\Q v b
def TP(X:Cx)(a:List (hJ×Obj))(d:St)(Q:Bool->Hp->Prop)(b:Bool)(e:ic):Prop:=∃c,Inv X a d c e/\Q b c
def AP(X:Cx)(a:List (hJ×Obj))(d:St)(Q:List V->Hp->Prop)(e:List ci)(f:ic):Prop:=∃b c,Inv X a d c f/\Vals b e/\Q b c
def SP(X:Cx)(b:List (hJ×Obj))(D:Ends)(f:Flow)(d:ic):Prop :=
 match f with
 | .next=>∃a c,Inv X b a c d/\D.nx a c
 | .brk=>∃a c,Inv X b a c d/\D.bk a c
 | .cont=>∃a c,Inv X b a c d/\D.ct a c
 | .ret u=>∃v a c,Inv X b a c d/\RelV v u/\D.rt v c
def PE(X:Cx)(e:iZ)(t:TE):Prop :=
 ∀(a:List (hJ×Obj)) (s:ic) (b:St) (H:Hp) (Q:VK),Inv X a b H s->t b H Q->ii 58 X.A (eval e X.env) (EP X a b Q) X.xe s
def PT(X:Cx)(e:iZ)(t:TT):Prop :=
 ∀(a:List (hJ×Obj)) (s:ic) (b:St) (H:Hp) (Q:Bool->Hp->Prop),Inv X a b H s->t b H Q->ii 58 X.A (rf e X.env<|eval e X.env) (TP X a b Q) X.xe s
def PW(X:Cx)(e:iZ)(t:TT):Prop :=
 ∀(b:Sem ci) (a:List (hJ×Obj)) (s:ic) (c:St) (H:Hp) (Q:Bool->Hp->Prop),Inv X a c H s->t c H Q->ii 58 X.A (rf e X.env b) (TP X a c Q) X.xe s
def PW.pt(h:PW X e t):PT X e t:=h _
def PA(X:Cx)(d:List iZ)(t:TA):Prop :=
 ∀(b:Pos) (a:List (hJ×Obj)) (s:ic) (c:St) (H:Hp) (Q:List V->Hp->Prop),Inv X a c H s->t c H Q->ii 58 X.A (uG<|jE b<|hR d X.env) (AP X a c Q) X.xe s
def PS(X:Cx)(c:iH)(t:TS):Prop :=
 ∀(a:List (hJ×Obj)) (s:ic) (b:St) (H:Hp) (D:Ends),Inv X a b H s->t D b H->ii 58 X.A (exec c X.env) (SP X a D) X.xe s
def FX(X:Cx)(c:List iH)(t:TS):Prop :=
 ∀(a:List (hJ×Obj)) (s:ic) (b:St) (H:Hp) (D:Ends),Inv X a b H s->t D b H->ii 58 X.A (execs c X.env) (SP X a D) X.xe s
def vX{b:Type}{t:Sem b}{Q c:b->ic->Prop}{M:Model}{A:jN}{E:ci->ic->Prop}{s:ic}(h:ii M A t Q E s)(d:∀a s,Q a s->c a s):ii M A t c E s:=jr h d λ_ _ x=>x
section
variable{X:Cx}
def vT(i:Nat):TE:=λa H Q=>∃v,a[i]?=↑(some v)/\Q v H
def tC(v:V):TE:=λ_ H Q=>Q v H
def KH{i:Nat}(n:X.N[i]?=↑x)(o:Vis X.env.scope x)(g:(x==70)=false:=by decide)(j:(x==("__classdict__":Str))=false:=by decide):PE X 101 (vT i):=by
 intro f s p H Q I h;refine e1a2 h λv e h=>?_;refine e1a2 I.loc λm q t=>?_;refine e1a2 (t i x v n e o) λu r l=>?_;have b:EP X f p Q u s:=#[v,H,I,r,h];rcases l with⟨d,w⟩|⟨d,c,k,a⟩
 ·exact pZ (lj I.ok.kind d q w b) g
 ·rcases d with d|d
  ·exact pZ (wpAny_loadName_cell I.ok.kind d k a b) g
  ·exact pZ (qN I.ok.kind d k a b j) g
def vL{i j pos}:PE X (.Constant (.int i) j pos) (tC<|.int i):=λ_ _ _ H _ I h=>wpAny_Constant_int #[.int i,H,I.tok _,#[_,rfl],h]
def ZN{b j pos}:PE X (.Constant (.bool b) j pos) (tC<|.bl b):=λ_ _ _ H _ I h=>Constant_bool #[.bl b,H,I,rfl,h]
def KI{j pos}:PE X (.Constant .none j pos) (tC .wW):=λ_ _ _ H _ I h=>Constant_none #[.wW,H,I,rfl,h]
def Hd{x j pos}:PE X (.Constant (.str x) j pos) (tC<|.str x):=λ_ _ _ H _ I h=>Calls.Constant_str #[.str x,H,I.tok _,#[_,rfl],h]
def Gl(X:Cx)(x:Str):Prop:=X.env.kindOf x=some .globalImplicit
def zN(I:Inv X a e H s)(b:Gl X x)(c:X.mg x=↑u)(h:Q u s)
 (d:(x==70)=false:=by decide):ii 58 X.A (eval 101 X.env) Q E s :=
  rK I.ok.kind b (Calls.loadGlobal_global (by rw[I.ok.glob];exact I.mod.glob.keeps I.bk) c h) d
def zO(I:Inv X a j H s)(b:Gl X x)(c:X.mg x=none)(d:ny x=↑u)(h:Q u s)
 (e:x≠"__name__":=by decide)(f:(x==70)=false:=by decide):ii 58 X.A (eval 101 X.env) Q E s:=by
  refine e1a2 I.mod.blt λk g i=>?_
  exact rK I.ok.kind b (oC (by rw[I.ok.glob];exact I.mod.glob.keeps I.bk) c (by rw[I.ok.blt];exact g.keeps I.bk) ((i x e).trans d) h) f
def Ut(a:Gl X x)(b:X.mg x=↑u)(r:RelV v u)(c:(x==70)=false:=by decide):PE X 101 (tC v) :=
 λ_ _ _ H _ I h=>zN I a b #[v,H,I,r,h] c
def A7(a:Gl X x)(b:X.mg x=none)(c:ny x=↑u)(r:RelV v u)(d:x≠"__name__":=by decide)(e:(x==70)=false:=by decide):PE X 101 (tC v) :=
 λ_ _ _ H _ I h=>zO I a b c #[v,H,I,r,h] d e
variable{a b:iZ}{ta tb:TE}{pos:Pos}
def PC(X:Cx)(g:qY)(a b:iZ)(t:TE):Prop :=
 ∀(c:List (hJ×Obj)) (s:ic) (f:St) (H:Hp) (Q:VK),Inv X c f H s->t f H Q ->
  ii 58 X.A (eval a X.env) (λv d=>ii 58 X.A (eval b X.env) (λu e=>ii 58 X.A (jO g v u) (EP X c f Q) X.xe e) X.xe d) X.xe s
def Js(b:iZ)(h:op≠.In)(c:op≠.NotIn):jh op b=false:=by
 have d:(op==CmpOp.In)=false:=by cases op<;>first|rfl|exact iq rfl h
 have e:(op==CmpOp.NotIn)=false:=by cases op<;>first|rfl|exact iq rfl c
 cases b<;>simp[jh,d,e]
def tB(t:TE):TT:=λd H Q=>t d H λx e=>∃c,x=.bl c/\Q c e
def PY(h:PC X op a b t)(d:jh op b=false:=by first|exact Js _ q0q q0q|rfl):PE X 119 t:=λc s e H Q I f=>sZ (h c s e H Q I f) d
def KJ{f:qY}{t:TE}(h:PC X f a b t)(g:jh f b=false:=by first|exact Js _ q0q q0q|rfl):PT X (.Compare a [f] [b] pos) (tB t):=by intro e s i H Q I j;refine uU (vX (h e s i H _ I j) λv r g=>vX g λu w k=>vX k λc y l=>e2a3 l λx m n o p=>?_) g;obtain⟨d,rfl,q⟩:=p;cases o;exact kG #[m,n,q]
def XA{e:iZ}{t:TE}(h:PE X e t)(g:∀c,rf e X.env c=(do let v <- c;nA e.pos;lm [v] (uH v)):=by intro _;rfl):PT X e (tB t):=by intro f s i H Q I j;refine isTrue_plain (vX (h f s i H _ I j) λv p k=>e2a3 k λx l m n o=>?_)<|g _;obtain⟨d,rfl,q⟩:=o;cases n;exact kG #[l,m,q]
variable{tA tB':TT}{rest:List iZ}
def a15(t u:TT):TT:=λd H Q=>t d H λc e=>if c=true then u d e Q else Q false e
def tOr(t u:TT):TT:=λd H Q=>t d H λc e=>if c=true then Q true e else u d e Q
def a16(t:TT):TT:=λd H Q=>t d H λc e=>Q (!c) e
def Uu(f:PT X a tA):PW X (.BoolOp .And [a] pos) tA:=by
 intro i d s g H Q I h;refine isTrue_and<|vX (f d s g H Q I h) λc j e=>?_
 cases c with
 |true=>exact isTrue_and_nil e
 |false=>exact e
def PZ(f:PT X a tA):PW X (.BoolOp .Or [a] pos) tA:=by
 intro i d s g H Q I h;refine isTrue_or<|vX (f d s g H Q I h) λc j e=>?_
 cases c with
 |false=>exact isTrue_or_nil e
 |true=>exact e
def XD(j:PT X a tA)(k:PW X (.BoolOp .And (b::rest) pos) tB'):PW X (.BoolOp .And (a::b::rest) pos) (a15 tA tB'):=by
 intro l d s e H Q I h;refine isTrue_and<|vX (j d s e H _ I h) λc m n=>e1a2 n λf g i=>?_
 cases c with
 |true=>exact k l d m e f Q g i
 |false=>exact#[f,g,i]
def WT(j:PT X a tA)(k:PW X (.BoolOp .Or (b::rest) pos) tB'):PW X (.BoolOp .Or (a::b::rest) pos) (tOr tA tB'):=by
 intro l d s e H Q I h;refine isTrue_or<|vX (j d s e H _ I h) λc m n=>e1a2 n λf g i=>?_
 cases c with
 |true=>exact#[f,g,i]
 |false=>exact k l d m e f Q g i
def XG(e:PT X a tA):PT X (.UnaryOp .Not a pos) (a16 tA):=by intro d s f H Q I h;exact isTrue_not<|e d s f H (λc g=>Q (!c) g) I h
def ZO(ta tb:TE):TE:=λd H Q=>ta d H λx e=>∃c,x=.bl c/\if c=true then tb d e Q else Q (.bl false) e
def a17(ta tb:TE):TE:=λd H Q=>ta d H λx e=>∃c,x=.bl c/\if c=true then Q (.bl true) e else tb d e Q
def ZP(ta:TE):TE:=λd H Q=>ta d H λx e=>∃c,x=.bl c/\Q (.bl<|!c) e
def XH{op}(h:PE X a t):PE X (.BoolOp op [a] pos) t:=λc s d H Q I e=>BoolOp_one<|h c s d H Q I e
def XI(j:PE X a ta)(k:PE X (.BoolOp .And (b::rest) pos) tb):PE X (.BoolOp .And (a::b::rest) pos) (ZO ta tb):=by
 intro d s f H Q I h;refine BoolOp_and<|vX (j d s f H _ I h) λv l m=>e2a3 m λx g i n e=>?_;obtain⟨c,rfl,e⟩:=e;cases n;refine kG ?_
 cases c with
 |true=>exact k d l f g Q i e
 |false=>exact#[.bl false,g,i,rfl,e]
def ZQ(j:PE X a ta)(k:PE X (.BoolOp .Or (b::rest) pos) tb):PE X (.BoolOp .Or (a::b::rest) pos) (a17 ta tb):=by
 intro d s f H Q I h;refine BoolOp_or<|vX (j d s f H _ I h) λv l m=>e2a3 m λx g i n e=>?_;obtain⟨c,rfl,e⟩:=e;cases n;refine kG ?_
 cases c with
 |false=>exact k d l f g Q i e
 |true=>exact#[.bl true,g,i,rfl,e]
def XJ(f:PE X a ta):PE X (.UnaryOp .Not a pos) (ZP ta):=by intro d s g H Q I h;refine UnaryOp_<|vX (f d s g H _ I h) λv m i=>e2a3 i λx j k l e=>?_;obtain⟨c,rfl,e⟩:=e;cases l;exact not_of<|kG #[.bl<|!c,j,k,rfl,e]
end
def wI(K:hO)(H:Hp)(a:hJ)(c:List V):Prop :=
 Rd H a (.lst c) \/
  ∃(o:Obj)(b:Array ci)(n:Nat),K.lookup a=↑o/\o.cls=.type "list"/\o.dict=none/\o.data=.seq b n/\b.size<=hX/\Vals c b.toList
def zu(K:hO)(H:Hp)(a:hJ)(c:List V):Prop :=
 Rd H a (.tup c) \/
  ∃(o:Obj)(b:Array ci)(n:Nat),K.lookup a=↑o/\o.cls=.type "tuple"/\o.data=.seq b n/\b.size<=hX/\Vals c b.toList
noncomputable def a18:ci->Option V
 | .none=>some .wW
 | .bool b=>some<|.bl b
 | .int i _=>some<|.int i
 | .str x _=>some<|.str x
 | .bytes b _=>some<|.MU b
 | .float b _=>some<|.Xy b
 | .ref a=>some<|.ref a
 | .type n=>some<|.ty n
 |_=>none
def RelV.abs(r:RelV x u):a18 u=↑x:=by
 cases x with
 |wW=>cases r;rfl
 |bl _=>cases r;rfl
 |int _=>obtain⟨t,rfl⟩:=r;rfl
 |str _=>obtain⟨t,rfl⟩:=r;rfl
 |MU _=>obtain⟨t,rfl⟩:=r;rfl
 |Xy _=>obtain⟨t,rfl⟩:=r;rfl
 |ref _=>cases r;rfl
 |ty _=>cases r;rfl
def RelV.inj(r:RelV x u)(q:RelV y u):x=y:=jj<|r.abs.symm.trans q.abs
def Vals.inj:∀{d c:List V} {e:List ci},Vals d e->Vals c e->d=c:=by
 intro _ c _ z
 induction z generalizing c with
 |nil=>intro q;cases q;rfl
 |cons h t f=>intro q;cases q with|cons a b=>rw[h.inj a,f b]
def wI.of{K:hO}(h:H a=↑(.lst b)):wI K H a b:=.inl<|.inl h
def zu.of{K:hO}(h:H a=↑(.tup b)):zu K H a b:=.inl<|.inl h
def Inv.list(I:Inv X c j H s)(h:wI X.K H a d):∃b:List ci,Vals d b/\PlainL s.heap a b.toArray/\d.length<=hX:=by
 rcases h with h|⟨o,b,n,f,g,hd,i,k,r⟩
 ·obtain⟨z,b,n,r,e⟩:=h.ok I.v0;exact#[b,r,#[_,n,e,rfl,rfl,rfl],z]
 ·refine#[b.toList,r,#[o,n,I.y9 a o f,g,hd,by simpa using i],?_];have e:=r.length;simp only[ig]at e
  lia
def Inv.tuple(I:Inv X c j H s)(h:zu X.K H a d):∃b:List ci,Vals d b/\IsTup s.heap a b.toArray/\d.length<=hX:=by
 rcases h with h|⟨o,b,n,f,g,i,k,r⟩
 ·obtain⟨z,b,r,p⟩:=h.ok I.v0;exact#[b,r,p,z]
 ·refine#[b.toList,r,#[o,I.y9 a o f,g,n,by simpa using i],?_];have e:=r.length;simp only[ig]at e
  lia
def Inv.Ju(I:Inv X f q H s)(h:wI X.K H a j)(k:wI X.K H a l):j=l:=by
 obtain⟨c,r,⟨o,n,e,_,_,d⟩,_⟩:=I.list h;obtain⟨b,m,⟨t,u,g,_,_,i⟩,_⟩:=I.list k;rw[e]at g;cases g;rw[d]at i;injection i with p _;have:c=b:=by simpa using congrArg sH p
 subst this;exact r.inj m
def Inv.Oc(I:Inv X f q H s)(h:zu X.K H a j)(k:zu X.K H a l):j=l:=by
 obtain⟨c,r,⟨o,e,_,n,d⟩,_⟩:=I.tuple h;obtain⟨b,m,⟨t,g,_,u,i⟩,_⟩:=I.tuple k;rw[e]at g;cases g;rw[d]at i;injection i with p _;have:c=b:=by simpa using congrArg sH p
 subst this;exact r.inj m
noncomputable abbrev Cx.FY(X:Cx)(E:ci->ic->Prop):Cx:={ X with xe:=E}
noncomputable abbrev Cx.nox(X:Cx):Cx:=X.FY λ_ _=>False
def Cx.Ok.FY{X:Cx}(a:X.Ok)(E:ci->ic->Prop):(X.FY E).Ok :=
 #[a.mod,a.kind,a.glob,a.blt,a.above,a.inj,a.has,a.PP,a.hd,a.frames,a.CV,a.Us,a.bs,a.Jo,a.DR,a.Es,a.yT,a.Kz]
def Cx.Ok.As{X:Cx}{E:ci->ic->Prop}(a:(X.FY E).Ok):X.Ok :=
 #[a.mod,a.kind,a.glob,a.blt,a.above,a.inj,a.has,a.PP,a.hd,a.frames,a.CV,a.Us,a.bs,a.Jo,a.DR,a.Es,a.yT,a.Kz]
def Inv.FY(I:Inv X a b H s)(E:ci->ic->Prop):Inv (X.FY E) a b H s:=#[I.ok.FY E,I.os,I.bare,I.base,I.loc,I.cell,I.free,I.yE,I.pin,I.v0,I.len]
def Inv.As(I:Inv (X.FY E) a b H s):Inv X a b H s:=#[I.ok.As,I.os,I.bare,I.base,I.loc,I.cell,I.free,I.yE,I.pin,I.v0,I.len]
def SP.As(h:SP (X.FY E) c D f d):SP X c D f d:=by
 cases f with
 |next=>obtain⟨a,b,I,q⟩:=h;exact#[a,b,I.As,q]
 |brk=>obtain⟨a,b,I,q⟩:=h;exact#[a,b,I.As,q]
 |cont=>obtain⟨a,b,I,q⟩:=h;exact#[a,b,I.As,q]
 |ret u=>obtain⟨v,a,b,I,r,q⟩:=h;exact#[v,a,b,I.As,r,q]
def FX.nox{b:List iH}(h:FX X.nox b t):FX X b t:=λa s c H D I d =>
 jr (h a s c H D (I.FY _) d) (λ_ _ q=>q.As) λ_ _ z=>iR z
section
variable{X:Cx}{st:iH}{rest:List iH}{t u:TS}
def WU:TS:=λD a H=>D.nx a H
def KL(t u:TS):TS:=λD a H=>t { D with nx:=u D} a H
def zP:FX X [] WU:=λ_ _ a H _ I h=>oq #[a,H,I,h]
def wG(c:PS X st t)(d:FX X rest u):FX X (st::rest) (KL t u):=by
 intro a s e H D I h;refine wpAny_execs_cons<|vX (c a s e H { D with nx:=u D} I h) λf g q=>?_
 cases f with
 |next =>
  refine e2a2 q λb i j q=>?_;exact d a g b i D j q
 |ret v=>exact q
 |brk=>exact q
 |cont=>exact q
def yd(b:PS X st t):FX X [st] t:=by
 intro a s c H D I h;refine wpAny_execs_cons<|vX (b a s c H D I h) λf d q=>?_
 cases f with
 |next=>exact oq q
 |ret v=>exact q
 |brk=>exact q
 |cont=>exact q
def Inv.quiet(I:Inv X a b H s):interactive X.env=false:=by simp[interactive,I.ok.kind]
def Jv(b:TE):TS:=λD a H=>b a H λ_ c=>D.nx a c
def B5(c:PE X e d)(f:kj e none pos.line X.env=pure false:=by rfl):PS X (.Expr e pos) (Jv d):=by intro a s b H D I h;exact wpAny_Expr_any (vX (c a s b H _ I h) λv l g=>e2a3 g λx i j m k=>#[b,i,j,k]) I.quiet f
def XM(a:TE):TS:=λD b H=>a b H D.rt
def CY(c:PE X e d):PS X (.Return ↑e pos) (XM d):=by intro a s b H D I h;exact wpAny_Return_some<|vX (c a s b H _ I h) λv l f=>e2a3 f λx g i j k=>#[x,b,g,i,j,k]
def a19(c:TT)(t u:TS):TS:=λD a H=>c a H λb d=>if b=true then t D a d else u D a d
def MW{c:iZ}{a b:List iH}{g:TT}(m:PT X c g)(n:FX X a t)(o:FX X b u):PS X (.If c a b pos) (a19 g t u):=by
 intro e s f H D I h;refine wpAny_If<|vX (m e s f H _ I h) λd i p=>e1a2 p λj k l=>?_
 cases d with
 |true=>exact n e i f j D k l
 |false=>exact o e i f j D k l
def XQ:TS:=λ_ _ _=>False
def Od:FX X a XQ:=λ_ _ _ _ _ _ h=>h.elim
end
abbrev TG:=V->St->Hp->(St->Hp->Prop)->Prop
abbrev Zz:=List V->St->Hp->(St->Hp->Prop)->Prop
def PG(X:Cx)(a:iZ)(t:TG):Prop :=
 ∀(b:List (hJ×Obj)) (s:ic) (d:St) (H:Hp) (v:V) (u:ci) (Q:St->Hp->Prop),Inv X b d H s->RelV v u->t v d H Q ->
  ii 58 X.A (td a X.env u) (λ_ f=>∃c e,Inv X b c e f/\Q c e) X.xe s
def PGs(X:Cx)(g:List iZ)(t:Zz):Prop :=
 ∀(a:List (hJ×Obj)) (s:ic) (c:St) (H:Hp) (d:List V) (e:List ci) (Q:St->Hp->Prop),Inv X a c H s->Vals d e->t d c H Q ->
  ii 58 X.A (assignInOrder ((qa g X.env).map (·.2)) e) (λ_ h=>∃b f,Inv X a b f h/\Q b f) X.xe s
abbrev P0:=V->V->V->Hp->(Hp->Prop)->Prop
def XU(X:Cx)(t:P0):Prop :=
 ∀(a:List (hJ×Obj)) (s:ic) (b:St) (H:Hp) (o i v:V) (c d u:ci) (Q:Hp->Prop),Inv X a b H s->RelV o c->RelV i d->RelV v u->t o i v H Q ->
  ii 58 X.A (sQ c d u) (λ_ f=>∃e,Inv X a b e f/\Q e) X.xe s
abbrev TIp:=V->V->Hp->VK->Prop
def PIp(X:Cx)(c:Operator)(t:TIp):Prop :=
 ∀(a:List (hJ×Obj)) (s:ic) (b:St) (H:Hp) (x y:V) (v u:ci) (Q:VK),Inv X a b H s->RelV x v->RelV y u->t x y H Q ->
  ii 58 X.A (inplaceOp c v u) (EP X a b Q) X.xe s
def DB(i:Nat):TG:=λv a H Q=>Q (a.set i<|↑v) H
def vy{i:Nat}(b:X.N.Nodup)(c:X.N[i]?=↑x:=by rfl)(d:Loc X.env.scope x:=by exact lJ rfl)(e:X.fn x=true\/X.env.scope.names.lookup x=some .local:=by first|exact .inl rfl|exact .inr rfl|assumption):PG X 101 (DB i):=by intro a s g H v u Q I r h;exact wpAny_assign_Name<|Jr I b c d r (λj f=>#[_,H,f,h]) e
def XW:Zz:=λa b H Q=>a=[]/\Q b H
def Gv(t:TG)(u:Zz):Zz:=λb c H Q=>∃v r,b=v::r/\t v c H λa d=>u r a d Q
def A8:PGs X [] XW:=by intro a s b H c d Q I r h;obtain⟨e,h⟩:=h;subst e;cases r;exact assignInOrder_nil #[b,H,I,h]
def wR{e:iZ}{b:List iZ}{t:TG}{u:Zz}(d:PG X e t)(f:PGs X b u)
  (g:(qa (e::b) X.env).map (·.2)=td e X.env::(qa b X.env).map (·.2):=by rfl):PGs X (e::b) (Gv t u):=by
 intro a s i H q w Q I r h;obtain⟨v,x,j,h⟩:=h;subst j
 cases r with
 |cons r k =>
  rw[g];refine assignInOrder_cons<|vX (d a s i H _ _ _ I r h) λ_ l m=>e2a2 m λc n o p=>?_;exact f a l c n _ _ Q o k p
def XX(K:hO)(n:Nat)(t:Zz):TG:=λv c H Q=>∃a b,v=.ref a/\zu K H a b/\b.length=n/\t b c H Q
def CZ{k:Nat}{n:Nat}(l:X.calm=true)(h:PGs X d t)
 (m:(qa d X.env).length=n:=by rfl)(f:(qa d X.env).findIdx? (·.1)=none:=by rfl):PG X (.Tuple d k pos) (XX X.K n t):=by
  intro c s i H v u Q I r g
  obtain⟨a,p,q,w,x,g⟩:=g
  subst q
  cases r
  obtain⟨y,j,z,D⟩:=I.tuple w
  refine assign_Tuple_tuple (I.ok.hd l) z (by simp[m,<- x,j.length]) f λA B=>?_
  have C:Inv X c i H { s with heap:=A}:=I.kept (t':=s.toks) λb o e=>B b o (iu<|ie e) e
  exact h c _ i H p _ Q C (by simpa using j) g
def a2b(b c:TE)(t:P0):TG:=λv a H Q=>b a H λo d=>c a d λi e=>t o i v e λf=>Q a f
def P1{o i:iZ}{f g:TE}{t:P0}(j:PE X o f)(k:PE X i g)(l:XU X t)
  (m:∀v,td (.Subscript o i pos) X.env v=(do
   let b <- lm [v] (eval o X.env)
   let c <- lm [v,b] (eval i X.env)
   nA pos
   lm [v,b,c] (sQ b c v)
   release [v,b,c] []):=by intro _;rfl):PG X (.Subscript o i pos) (a2b f g t):=by
 intro a s e H v u Q I r h;rw[m];refine am<|iT<|vX (j a s e H _ I h) λb n d=>e2a3 d λx p q w z=>?_;refine am<|iT<|vX (k a n e p _ q z) λc A d=>e2a3 d λy B C D E=>?_;refine am<|nZ<|am<|iT<|vX (l a A e B x y v b c u _ C w D r E) λ_ L d=>e1a2 d λF G J=>?_;exact wpAny_release #[e,F,G,J]
def XY(b:TE)(g:TG):TS:=λD a H=>b a H λx c=>g x a c D.nx
def KN{b e:iZ}{c:TE}{g:TG}(f:PE X e c)(i:PG X b g)(j:swapsWithSole [b] e pos.line X.env=pure false:=by rfl)(hw:swappedStores [b] e X.env=pure none:=by rfl)
  (k:(qa [b] X.env).map (·.2)=[td b X.env]:=by rfl):PS X (.Assign [b] e pos) (XY c g):=by
 intro a s d H D I h;refine wpAny_Assign_stores (vX (f a s d H _ I h) λv l m=>e2a3 m λx n o p r=>?_) j hw;rw[k];exact vX (i a l d n x v _ o p r) λ_ t q=>q
def Au{i:Nat}{x:Str}{e:iZ}{c:TE}{a:Pos}(d:X.N.Nodup)(f:X.N[i]?=↑x)(g:Loc X.env.scope x)(j:PE X e c)(k:kj e (some<|.Name x a) pos.line X.env=pure false:=by rfl)(l:X.fn x=true\/X.env.scope.names.lookup x=some .local:=by first|exact .inl rfl|exact .inr rfl|assumption) :
  PS X (.Assign [.Name x a] e pos) (XY c<|DB i):=by
 intro b s m H D I h;refine wpAny_Assign_Name (vX (j b s m H _ I h) λv u n=>e2a3 n λy o p q r=>?_) k;exact Jr p d f g q (λw t=>#[_,o,t,r]) l
def ZR(e f g:TE)(a:V->V->Hp->VK->Prop)(d:TIp)(b:P0):TS:=λD c H=>e c H λo h=>f c h λi j=>a o i j λx k=>g c k λy l=>d x y l λz m=>b o i z m λn=>D.nx c n
def ZS(X:Cx)(t:V->V->Hp->VK->Prop):Prop :=
 ∀(a:List (hJ×Obj)) (s:ic) (b:St) (H:Hp) (o i:V) (c d:ci) (Q:VK),Inv X a b H s->RelV o c->RelV i d->t o i H Q ->
  ii 58 X.A (oE c d) (EP X a b Q) X.xe s
def Uv{o i e:iZ}{p q r:TE}{d:V->V->Hp->VK->Prop}{l:TIp}{f:P0}{t:Operator}{m:Pos}(z:PE X o p)(A:PE X i q)(B:ZS X d)(C:PE X e r)(E:PIp X t l)(F:XU X f)
  (G:∀g j b,augStore i g j b=(do lm [b,g,j] (sQ g j b);release [b,g,j] [];pure .next):=by intros;rfl):PS X (.AugAssign (.Subscript o i m) t e pos) (ZR p q r d l f):=by
 intro a s k H D I h;refine sI (vX (z a s k H _ I h) λg J c=>e2a3 c λu L M w N=>?_) G;refine vX (A a J k L _ M N) λj O c=>e2a3 c λx P Q y R=>?_;refine vX (B a O k P u x g j _ Q w y R) λn S c=>e2a3 c λT U W Y Z=>?_;refine vX (C a S k U _ W Z) λv s4 c=>e2a3 c λx4 H4 I4 r4 q4=>?_;refine vX (E a s4 k H4 T x4 n v _ I4 Y r4 q4) λb s5 c=>e2a3 c λx5 H5 I5 r5 q5=>?_;exact vX (F a s5 k H5 u x x5 g j b _ I5 w y r5 q5) λ_ s6 c=>e1a2 c λH6 I6 q6=>#[k,H6,I6,q6]
def ipI(f:Int->Int->Int):TIp:=λx y H Q=>∃i j,x=.int i/\y=.int j/\Q (.int<|f i j) H
def P2:PIp X .Add (ipI λi j=>i+j):=by intro a s f H x y v u Q I b c h;obtain⟨i,j,d,e,q⟩:=h;subst d;subst e;obtain⟨t,rfl⟩:=b;obtain⟨g,rfl⟩:=c;exact iadd_int #[.int _,H,I.tok _,#[_,rfl],q]
def XZ:PIp X .Sub (ipI λi j=>i-j):=by intro a s f H x y v u Q I b c h;obtain⟨i,j,d,e,q⟩:=h;subst d;subst e;obtain⟨t,rfl⟩:=b;obtain⟨g,rfl⟩:=c;exact isub_int #[.int _,H,I.tok _,#[_,rfl],q]
def X0(c:TT)(h:TS):TS:=λD a H=>∃W:Nat->St->Hp->Prop,(∃m,W m a H)/\∀m a H,W m a H ->
 c a H λb e=>if b=true then ∃N:St->Hp->Prop,(∀d f,N d f->∃g,g<m/\W g d f)/\h { D with nx:=N,ct:=N,bk:=D.nx} a e else D.nx a e
def P4{c:iZ}{g:List iH}{u:TT}{x:TS}(y:r9 58 X.A X.env X.xe)(F:PT X c u)(G:FX X g x):PS X (.While c g [] pos) (X0 u x):=by
 intro a s J H D I h;obtain⟨W,⟨L,M⟩,i⟩:=h;refine wpAny_While<|codeAny_whileLoop (λn O=>∃j z,Inv X a j z O/\W n j z) ?_ L #[J,H,I,M];rintro n P ⟨e,H1,Q,R⟩;refine l6 y<|vX (F a P e H1 _ Q<|i n e H1 R) λb S T=>e1a2 T λB C l=>?_
 cases b with
 |true =>
  refine e1a2 l λN E l=>?_;rw[cr rfl];refine l6 y<|vX (G a S e B _ C l) λf U m=>?_
  cases f with
  |next =>
   refine e2a2 m λd k o p=>?_;refine e1a2 (E d k p) λq r t=>?_;exact#[q,r,d,k,o,t]
  |cont =>
   refine e2a2 m λd k o p=>?_;refine e1a2 (E d k p) λq r t=>?_;exact#[q,r,d,k,o,t]
  |brk=>exact m
  |ret v=>exact m
 |false =>
  rw[hI ik];exact oq #[e,B,C,l]
structure It where
 go:Nat->Hp->Prop
 Jh:Nat->Hp->V->Hp->Prop
 stop:Nat->Hp->Prop
def BN(X:Cx)(a:List (hJ×Obj))(H:Hp)(b:hJ):Prop :=
 H b=none/\b≠X.env.locals/\b∉X.fs/\(b∈X.ex\/X.s₀.heap.objs.size<=b)/\(∀x c,X.env.cells.lookup x=↑c->c≠b)/\∀p∈X.pn++a,p.1≠b
def Inv.He(I:Inv X a i H s)(d:⇑s<=b)(f:g b=none):BN X a g b:=by
 refine#[f,jB<|iB I.lt d,I.a13 d,.inr<|iP I.sz d,λx c e z=>?_,λp h z=>?_]
 ·obtain⟨v,q⟩:=I.cell x c e;exact iq (iB q.lt<|by rw[z];exact d)<|kf _
 ·exact iq (iB (ie (I.pin p h).1)<|by rw[z];exact d)<|kf _
structure Turn(P:iQ)(w:jf)(K:hO)(tg:iZ)(J:It)(fp:List hJ)(it:hJ)(tn:Nat->ja->Prop):Prop where
 mem:it∈fp
 obj:∀i h,tn i h->∀b∈fp,∃o,h.get? b=↑o/\∀v,o.data≠.cell v
 keep:∀i h h',tn i h->(∀b∈fp,∀o,h.get? b=↑o->h'.get? b=↑o)->tn i h'
 item:∀(X:Cx),X.prog=P->X.w=w->X.K=K->X.calm=true->∀(i:Nat) (pins:List (hJ×Obj)) (s:ic) (σ:St) (H:Hp) (E:ci->ic->Prop),Inv X pins σ H s->(∀b∈fp,BN X pins H b)->tn i s.heap->J.go i H ->
  ii (ij P w) X.A (pyNext (.ref it)) (λr s1=>∃u,r=↑u /\
   ii (ij P w) X.A (sJ tg (.ref it) u) (λ_ s2=>∃x H',Inv X pins σ H' s2/\RelV x u/\J.Jh i H x H'/\tn (i+1) s2.heap/\∀b∈fp,H' b=none) E s1) E s
 done:∀(X:Cx),X.prog=P->X.w=w->X.K=K->X.calm=true->∀(i:Nat) (pins:List (hJ×Obj)) (s:ic) (σ:St) (H:Hp) (E:ci->ic->Prop),Inv X pins σ H s->(∀b∈fp,BN X pins H b)->tn i s.heap->J.stop i H ->
  ii (ij P w) X.A (pyNext<|.ref it) (λr s1=>r=none/\Inv X pins σ H s1) E s
 self:∀(A:jN)(i:Nat)(s:ic)(Q:ci->ic->Prop)(E:ci->ic->Prop),tn i s.heap->Q (.ref it) s->ii (ij P w) A (pyIter<|.ref it) Q E s
abbrev TI:=St->Hp->(It->Hp->Prop)->Prop
def PIE(X:Cx)(a:List (hJ×Obj))(i:St)(j:iZ)(R:It->Hp->Prop)(c:ci)(e:ic):Prop :=
 ∃(f:hJ)(g:List hJ)(h:Nat->ja->Prop)(J:It)(d:Hp),c=.ref f/\Inv X a i d e/\Turn X.prog X.w X.K j J g f h/\h 0 e.heap/\(∀b∈g,BN X a d b)/\R J d
def PI(X:Cx)(d b:iZ)(e:TI):Prop :=
 ∀(a:List (hJ×Obj)) (s:ic) (c:St) (H:Hp) (R:It->Hp->Prop),Inv X a c H s->e c H R ->
  ii 58 X.A (eval b X.env) (λv f=>ii 58 X.A (pyIter v) (PIE X a c d R) X.xe f) X.xe s
def P5{s:ic}(b:s.heap.get? c=↑o)(d:o.cls=.type n)(e:o.data=.fields f)
 (g:["enumerate","zip","dict_itemiterator","dict_reverseitemiterator","odict_iterator","itertools.zip_longest","itertools.pairwise"].contains n=false)(a:Q () s):ii M A (sJ i (.ref c) u) Q E s:=by
  cases i<;>first
    | exact ap a
    | (cases u<;>first
        | exact ap a
        | (refine am (rg b ?_)
           rw[d,e]
           show ii M A (if (["enumerate","zip","dict_itemiterator","dict_reverseitemiterator","odict_iterator","itertools.zip_longest","itertools.pairwise"].contains n&&f[0]?==↑(mf _))=true then _ else _) Q E s
           rw[hI<|by intro h;rw[g,Bool.false_and]at h;cases h]
           exact ap a))
noncomputable def ZA(K:hO)(a:hJ):It :=
 #[λi H=>∃b x,wI K H a b/\b[i]?=↑x,λi H x c=>c=H/\∀b,wI K H a b->b[i]?=↑x,λi H=>∃b,wI K H a b/\b.length<=i]
noncomputable def Itt(K:hO)(a:hJ):It :=
 #[λi H=>∃b x,zu K H a b/\b[i]?=↑x,λi H x c=>c=H/\∀b,zu K H a b->b[i]?=↑x,λi H=>∃b,zu K H a b/\b.length<=i]
noncomputable def X1(a:Int)(n:Nat):It:=#[λi _=>i<n,λi H x b=>b=H/\x=.int (a+i),λi _=>n<=i]
def Oe{P:iQ}{w:jf}{K:hO}{tg:iZ}(a it:hJ):Turn P w K tg (ZA K a) [it] it (λi h=>h.IsListIter it a i) where
 mem:=by simp
 obj:=λi h st b hb=>by
  have e:b=it:=by simpa using hb
  subst e;refine e1a3 st λo e c d=>?_;exact#[o,e,λv z=>by rw[d]at z;cases z]
 keep:=λi h h' st k=>st.at λo e=>k it q0o o e
 item:=by intro X hP hw hK hc i pins s σ H E I hf st hg;subst hP hw hK;refine e2a2 hg λxs x hq hx=>?_;refine e1a3 (I.list hq) λAp rv p hz=>?_;refine e1a2 (rv.get hx) λu hu ru=>?_;refine e0a6 (hf it q0o) λf0 f1 f2 f3 f4 f5=>?_;refine wpAny_pyNext_list_item st p.isList (x:=u) (by simpa using hu) λh' WV sb=>?_;have I1:Inv X pins σ H { s with heap:=h'}:=I.turned (t':=s.toks) (λb o hb e=>(sb.2 b hb).trans e) f0 f1 f3 f4 f5;refine e1a3 (id WV) λo e c d=>?_;exact#[u,rfl,P5 (s:={ s with heap:=h'}) e c d q0q #[x,H,I1,ru,#[rfl,λys hy=>by rw[I.Ju hy hq];exact hx],WV,λb hb=>(hf b hb).1]]
 done:=by intro X hP hw hK hc i pins s σ H E I hf st hg;subst hP hw hK;refine e1a2 hg λxs hq hx=>?_;refine e1a3 (I.list hq) λAp rv p hz=>?_;refine e0a6 (hf it q0o) λf0 f1 f2 f3 f4 f5=>?_;have hl:=rv.length;exact wpAny_pyNext_list_end (I.ok.hd hc) st p.isList (by simp;lia) λh' eb=>98
 self:=λ_ _ _ _ _ st h=>wpAny_pyIter_listiter st h
def KO{P:iQ}{w:jf}{K:hO}{tg:iZ}(a it:hJ):Turn P w K tg (Itt K a) [it] it (λi h=>h.IsTupleIter it a i) where
 mem:=by simp
 obj:=λi h st b hb=>by
  have e:b=it:=by simpa using hb
  subst e;refine e1a3 st λo e c d=>?_;exact#[o,e,λv z=>by rw[d]at z;cases z]
 keep:=λi h h' st k=>st.at λo e=>k it q0o o e
 item:=by intro X hP hw hK hc i pins s σ H E I hf st hg;subst hP hw hK;refine e2a2 hg λxs x hq hx=>?_;refine e1a3 (I.tuple hq) λAp rv p hz=>?_;refine e1a2 (rv.get hx) λu hu ru=>?_;refine e0a6 (hf it q0o) λf0 f1 f2 f3 f4 f5=>?_;refine wpAny_pyNext_tuple_item st (show s.heap.IsTuple a Ap.toArray from p) (x:=u) (by simpa using hu) λh' WV sb=>?_;have I1:Inv X pins σ H { s with heap:=h'}:=I.turned (t':=s.toks) (λb o hb e=>(sb.2 b hb).trans e) f0 f1 f3 f4 f5;refine e1a3 (id WV) λo e c d=>?_;exact#[u,rfl,P5 (s:={ s with heap:=h'}) e c d q0q #[x,H,I1,ru,#[rfl,λys hy=>by rw[I.Oc hy hq];exact hx],WV,λb hb=>(hf b hb).1]]
 done:=by intro X hP hw hK hc i pins s σ H E I hf st hg;subst hP hw hK;refine e1a2 hg λxs hq hx=>?_;refine e1a3 (I.tuple hq) λAp rv p hz=>?_;refine e0a6 (hf it q0o) λf0 f1 f2 f3 f4 f5=>?_;have hl:=rv.length;exact wpAny_pyNext_tuple_end (I.ok.hd hc) st (show s.heap.IsTuple a Ap.toArray from p) (by simp;lia) λh' eb=>98
 self:=λ_ _ _ _ _ st h=>wpAny_pyIter_tupleiter st h
def KP{P:iQ}{w:jf}{K:hO}{tg:iZ}(it:hJ)(lo:Int)(n:Nat):Turn P w K tg (X1 lo n) [it] it (λi h=>IsRangeIter h it (lo+(i:Nat)*1) ((n:Int)-(i:Nat)) 1) where
 mem:=by simp
 obj:=λi h st b hb=>by
  have e:b=it:=by simpa using hb
  subst e
  exact#[_,st,λv z=>by
   have z':tV _=Data.cell v:=z
   cases z']
 keep:=λi h h' st k=>k it q0o _ st
 item:=by intro X hP hw hK hc i pins s σ H E I hf st hg;subst hP hw hK;refine e0a6 (hf it q0o) λf0 f1 f2 f3 f4 f5=>?_;have W:=Walks.range (prog:=X.prog) (w:=X.w) (I.ok.hd hc) it lo 1 n;refine W.item i s _ _ hg st λv h' tk hv WV kk=>?_;obtain⟨t,rfl⟩:=hv;have I1:Inv X pins σ H { s with heap:=h',toks:=tk}:=I.turned (λb o hb e=>kk b o (by simpa using hb) e) f0 f1 f3 f4 f5;refine#[_,rfl,P5 (s:={ s with heap:=h',toks:=tk}) (n:="range_iterator") WV rfl rfl q0q #[.int<|lo+i,H,I1,⟨t,?_⟩,⟨rfl,rfl⟩,WV,λb hb=>(hf b hb).1]];rw[Int.mul_one]
 done:=by intro X hP hw hK hc i pins s σ H E I hf st hg;refine e0a6 (hf it q0o) λf0 f1 f2 f3 f4 f5=>?_;exact wpAny_pyNext_range_end (I.ok.hd hc) st (by have:n<=i:=hg;lia) λh' eb=>98
 self:=λ_ _ _ _ _ st h=>wpAny_pyIter_rangeiter st h
def ZU(K:hO)(c:TE):TI:=λd H R=>c d H λx b=>∃a,x=.ref a/\(∃e,wI K b a e)/\R (ZA K a) b
def a2e(K:hO)(c:TE):TI:=λd H R=>c d H λx b=>∃a,x=.ref a/\(∃e,zu K b a e)/\R (Itt K a) b
def Hf{l:iZ}{g:TE}(i:PE X l g):PI X y l (ZU X.K g):=by
 intro c s j H R I h;refine vX (i c s j H _ I h) λv d k=>e2a3 k λx m f n r=>?_;obtain⟨a,e,⟨z,t⟩,q⟩:=r;subst e;cases n;refine e1a3 (f.list t) λu A p B=>?_;refine wpAny_pyIter_list p.isList ?_;refine#[⇑d,[⇑d],_,_,m,rfl,f.kept (t':=d.toks) λb o e=>ce _ e,Oe a _,#[_,il _ rfl,rfl,rfl],λb w=>?_,q];have e:b=⇑d:=by simpa using w
 subst e;exact f.He (hV _)<|f.v0.fresh<|hV _
def X2{l:iZ}{i:TE}(j:PE X l i):PI X y l (a2e X.K i):=by
 intro c s k H R I h;refine vX (j c s k H _ I h) λv d m=>e2a3 m λx n f r t=>?_;obtain⟨a,e,⟨z,u⟩,q⟩:=t;subst e;cases r;refine e1a3 (f.tuple u) λg A p B=>?_;refine rh (show d.heap.IsTuple a g.toArray from p) ?_;refine#[⇑d,[⇑d],_,_,n,rfl,f.kept (t':=d.toks) λb o e=>ce _ e,KO a _,#[_,il _ rfl,rfl,rfl],λb w=>?_,q];have e:b=⇑d:=by simpa using w
 subst e;exact f.He (hV _)<|f.v0.fresh<|hV _
def Jw{a c:Int}{f:Nat}(I:Inv X d h H s)(i:-(2 ^ 62)<=a)(j:a<2 ^ 62)(k:-(2 ^ 62)<=c)(l:c<2 ^ 62)
 (q:R (X1 a (c-a).toNat) H):ii 58 X.A (pyIter<|.ref ⇑s) (PIE X d h r R) E { s with heap:=s.heap.push 102,toks:=f}:=by
  refine wpAny_pyIter_range (IsRange.new ..) (small_one i j k l) ?_
  have g:Inv X d h H { s with heap:=s.heap.push 102,toks:=f}:=I.kept λb o e=>ce _ e
  refine#[(s.heap.push 102).objs.size,[(s.heap.push 102).objs.size],_,_,H,rfl,
    g.kept (t':=f) λb o e=>ce _ e,KP _ a (c-a).toNat,?_,λb m=>?_,q]
  · have n : a+((0 : Nat) : Int)*1 = a := by simp
    have p:(((c-a).toNat:Nat):Int)-((0:Nat):Int)=Builtin.Range.rangeSize a c 1:=by rw[rangeSize_one];split<;>lia
    rw[n,p]
    exact il _ rfl
  · have e : b = (s.heap.push { cls := .type "range", data := .fields #v[.int a t, .int c u, .int 1 v] }).objs.size := by simpa using m
    subst e
    exact g.He (hV _)<|g.v0.fresh<|hV _
def ZV(a:TA):TI:=λb H R=>a b H λc d=>∃j:Int,c=[.int j]/\-(2 ^ 62)<=j/\j<2 ^ 62/\R (X1 0 j.toNat) d
def WX(a:TA):TI:=λb H R=>a b H λc d=>∃i j:Int,c=[.int i,.int j]/\(-(2 ^ 62)<=i/\i<2 ^ 62/\-(2 ^ 62)<=j/\j<2 ^ 62)/\R (X1 i (j-i).toNat) d
def Of{a:iZ}{f:TA}{p b:Pos}(g:Gl X "range")(i:X.mg "range"=none)(k:PA X [a] f)(l:hR [a] X.env=[85]:=by rfl):PI X x (.Call (.Name "range" p) [a] [] b) (ZV f):=by
 intro c s m H R I h;refine Call_<|zO I g i boot_range<|ku (vX (k b c s m H _ I h) λy z n=>e2a3 n λA B o u d=>?_) l rfl;obtain⟨j,e,d,v,q⟩:=d;subst e
 cases u with
 |cons r w =>
  cases w;obtain⟨t,rfl⟩:=r;exact call_range_1<|Jw o q0a q0a d v (by simpa using q)
def Og{a b:iZ}{l:TA}{p c:Pos}(m:Gl X "range")(n:X.mg "range"=none)(o:PA X [a,b] l)(u:hR [a,b] X.env=[85,(false,eval b X.env)]:=by rfl)(d:hR [b] X.env=[(false,eval b X.env)]:=by rfl) :
  PI X C (.Call (.Name "range" p) [a,b] [] c) (WX l):=by
 intro f s v H R I h;refine Call_<|zO I m n boot_range<|ku (vX (o c f s v H _ I h) λD E ⟨F,H1,w,x,g⟩=>?_) (by rw[u,d]) (by rw[d];rfl);obtain⟨i,j,e,⟨g,y,z,A⟩,q⟩:=g;subst e
 cases x with
 |cons r k =>
  cases k with
  |cons B k =>
   cases k;obtain⟨t,rfl⟩:=r;obtain⟨G,rfl⟩:=B;exact call_range_2<|Jw w g y z A q
def a2f(f:TI)(g:TG)(h:TS):TS:=λD a H=>f a H λJ j=>∃W:Nat->Nat->St->Hp->Prop,(∃m,W 0 m a j)/\∀i m a H,W i m a H ->
 (J.stop i H/\D.nx a H)\/(J.go i H/\∃N:St->Hp->Prop,(∀b c,N b c->∃e,e<m/\W (i+1) e b c)/\∀x c,J.Jh i H x c->g x a c λd k=>h { D with nx:=N,ct:=N,bk:=D.nx} d k)
noncomputable def Eu(a:List hJ)(h:ja):List (hJ×Obj):=a.filterMap λb=>(h.get? b).map λo=>(b,o)
def xT{h:ja}(a:b∈c)(e:h.get? b=↑o):(b,o)∈Eu c h:=List.mem_filterMap.mpr #[b,a,by rw[e];rfl]
def Oh(a:p∈Eu c h):p.1∈c/\h.get? p.1=↑p.2:=by
 refine e1a2 (List.mem_filterMap.mp a) λb d e=>?_
 cases q:h.get? b with
 |none=>rw[q]at e;cases e
 |some o =>
  rw[q]at e;have f:(b,o)=p:=jj e;subst f;exact#[d,q]
def Inv.pinned(I:Inv X a g H s)(h:∀b∈fp,BN X a H b)(i:∀b∈fp,∃o,s.heap.get? b=↑o/\∀v,o.data≠.cell v):Inv X (a++Eu fp s.heap) g H s :=
 I.zM λp j=>(List.mem_append.mp j).elim (λz=>I.pin p<|iD _ z) λz=>by obtain⟨c,e⟩:=Oh z;obtain⟨k,l,m,_⟩:=h p.1 c;refine e1a2 (i p.1 c) λo f d=>?_;rw[e]at f;cases f;exact#[e,k,l,m,d]
def Inv.Av(I:Inv X (a++d) b H s):Inv X a b H s:=I.zM λp c=>I.pin p<|iD _<|jo _ c
def P6{j:iZ}{C:List iH}{wi:TI}{g:TG}{tb:TS}{Y:Pos}(M:r9 58 X.A X.env X.xe)(hc:X.calm=true)(hi:PI X tg j wi)(hg:PG X tg g)(k:FX X C tb)
  (hs:∀x,kH j X.env x=pure x:=by intro _;rfl):PS X (.For tg j C [] Y) (a2f wi g tb):=by
 intro a s σ H D I h;refine wpAny_For (vX (hi a s σ H _ I h) λv s1 h1=>vX h1 λai s2 h2=>?_) hs;obtain⟨it,O,tn,J,H2,e,I2,T,Z,f2,W,⟨m0,w0⟩,P⟩:=h2;subst e
 -- ag aa true of the E Q through the ah
 have l:∀{B:Hp},(∀b∈O,B b=none)->∀b∈O,BN X a B b:=λhn b k=>#[hn b k,(f2 b k).2];refine codeAny_forLoop_any (λn s'=>∃i p B,Inv X a p B s'/\tn i s'.heap/\(∀b∈O,B b=none)/\W i n p B) ?_ m0 #[0,σ,H2,I2,Z,λb k=>(f2 b k).1,w0];rintro n s3 ⟨i,q,H3,I3,R,S,w3⟩;rcases P i n q H3 w3 with⟨stop,qn⟩|⟨go,N,hN,step⟩
 ·refine l6 M<|vX (T.done X rfl rfl rfl hc i a s3 q H3 X.xe I3 (l S) R stop) λr s4 G=>e0a2 G λhr I4=>?_;subst hr;exact oq #[q,H3,I4,qn]
 ·refine l6 M<|vX (T.item X rfl rfl rfl hc i a s3 q H3 X.xe I3 (l S) R go) λr s4 G=>e1a2 G λu hr h4=>?_;subst hr;refine l6 M<|vX h4 λ_ s5 G=>e2a5 G λx H5 I5 r5 y5 L ab=>?_;have ae:=I5.pinned (l ab)<|T.obj _ _ L;refine l6 M<|vX (hg _ s5 q H5 x u _ ae r5<|step x H5 y5) λ_ s6 G=>e2a2 G λaf H6 I6 q6=>?_;refine l6 M (vX (k _ s6 af H6 _ I6 q6) λf s7 F=>?_)
  have t:∀{c:St} {y:Hp},Inv X (a++Eu O s5.heap) c y s7->N c y->∃m,m<n/\∃i p B,Inv X a p B s7/\tn i s7.heap/\(∀b∈O,B b=none)/\W i m p B:=λ{c y} z U=>by refine e1a2 (hN c y U) λm' hm w7=>?_;refine#[m',hm,i+1,c,y,z.Av,T.keep _ _ _ L λb k o e=>(z.pin (b,o)<|iD _<|iD _<|xT k e).1,λb k=>?_,w7];refine e1a2 (T.obj _ _ L b k) λo e d=>?_;exact(z.pin (b,o)<|iD _<|iD _<|xT k e).2.1
  cases f with
  |next=>obtain⟨c,y,z,U⟩:=F;exact t z U
  |cont=>obtain⟨c,y,z,U⟩:=F;exact t z U
  |brk=>obtain⟨c,y,z,F⟩:=F;exact#[c,y,z.Av,F]
  |ret v=>obtain⟨x7,c,y,z,r7,F⟩:=F;exact#[x7,c,y,z.Av,r7,F]
def P7{K:hO}{a:hJ}{xs:List V}{g:TG}{l:TS}{D:Ends}{b:St}{H:Hp}(c:Nat->St->Hp->Prop)(o:c 0 b H)(r:∀i b H,i<=xs.length->c i b H->wI K H a xs)
  (s:∀i x b H,xs[i]?=↑x->c i b H->g x b H λd k=>l { D with nx:=c<|i+1,ct:=c<|i+1,bk:=D.nx} d k) (t:∀b H,c xs.length b H->D.nx b H) :
  ∃W:Nat->Nat->St->Hp->Prop,(∃m,W 0 m b H)/\∀i m b H,W i m b H ->
   ((ZA K a).stop i H/\D.nx b H)\/((ZA K a).go i H/\∃N:St->Hp->Prop,(∀f h,N f h->∃n,n<m/\W (i+1) n f h)/\∀x h,(ZA K a).Jh i H x h->g x b h λd k=>l { D with nx:=N,ct:=N,bk:=D.nx} d k):=by
 refine#[λi m b H=>m=xs.length-i/\i<=xs.length/\c i b H,#[xs.length,q0o,jp _,o],?_];rintro i m b H ⟨rfl,u,p⟩;have q:=r i b H u p;by_cases j:i<xs.length
 ·refine .inr #[#[xs,xs[i],q,by simp[j]],c<|i+1,λf h v=>#[xs.length-(i+1),q0d,rfl,j,v],λx h y=>?_];obtain⟨e,y⟩:=y;subst e;exact s i x b _ (y xs q) p
 ·have e:i=xs.length:=by omega
  subst e;exact .inl #[#[xs,q,hV _],t b H p]
abbrev R2:=V->V->Hp->VK->Prop
def Bv(X:Cx)(f:ci->ci->Sem ci)(r:R2):Prop :=
 ∀(a:List (hJ×Obj)) (s:ic) (b:St) (H:Hp) (x y:V) (v u:ci) (Q:VK),Inv X a b H s->RelV x v->RelV y u->r x y H Q ->
  ii 58 X.A (f v u) (EP X a b Q) X.xe s
def UnR(X:Cx)(f:ci->Sem ci)(r:V->Hp->VK->Prop):Prop :=
 ∀(a:List (hJ×Obj)) (s:ic) (b:St) (H:Hp) (x:V) (v:ci) (Q:VK),Inv X a b H s->RelV x v->r x H Q ->
  ii 58 X.A (f v) (EP X a b Q) X.xe s
def zc(X:Cx)(f:ci)(r:List V->Hp->VK->Prop):Prop :=
 ∀(a:List (hJ×Obj)) (s:ic) (b:St) (H:Hp) (c:List V) (d:List ci) (Q:VK),Inv X a b H s->Vals c d->r c H Q ->
  ii 58 X.A (call f d) (EP X a b Q) X.xe s
def a2h(X:Cx)(r:V->Hp->(Bool->Hp->Prop)->Prop):Prop :=
 ∀(a:List (hJ×Obj)) (s:ic) (b:St) (H:Hp) (x:V) (v:ci) (Q:Bool->Hp->Prop),Inv X a b H s->RelV x v->r x H Q ->
  ii 58 X.A (uH v) (TP X a b Q) X.xe s
def ZB(r:R2)(b c:TE):TE:=λa H Q=>b a H λx d=>c a d λy e=>r x y e Q
def tUn(r:V->Hp->VK->Prop)(a:TE):TE:=λb H Q=>a b H λx c=>r x c Q
def rI(C:Int->Int->Prop)(g:Int->Int->V):R2:=λx y H Q=>∃i j,x=.int i/\y=.int j/\C i j/\Q (g i j) H
def Ug(g:Int->Int->V):R2:=λx y H Q=>∃i j,x=.int i/\y=.int j/\Q (g i j) H
def rU(g:Int->V):V->Hp->VK->Prop:=λx H Q=>∃i,x=.int i/\Q (g i) H
def X3(m:PE X a n)(o:PE X b p){c:List (hJ×Obj)}{s:ic}{d:St}{H:Hp}{R:V->V->Hp->Prop}(I:Inv X c d H s)
  (h:n d H λx k=>p d k λy e=>R x y e) {Q:ci->ic->Prop} {f:ci->ci->Sem ci}
  (q:∀v u j x y e,Inv X c d e j->RelV x v->RelV y u->R x y e->ii 58 X.A (f v u) Q X.xe j) :
  ii 58 X.A (eval a X.env) (λv g=>ii 58 X.A (eval b X.env) (λu i=>ii 58 X.A (f v u) Q X.xe i) X.xe g) X.xe s:=by
 refine vX (m c s d H _ I h) λv r l=>e2a3 l λx k t z B=>?_;refine vX (o c r d k _ t B) λu j l=>e2a3 l λy e C D E=>?_;exact q v u j x y e C z D E
def xj(d:Bv X (mS op) r)(e:PE X a f)(g:PE X b i):PE X (.BinOp a op b pos) (ZB r f i):=by intro c s j H Q I h;exact wpAny_BinOp<|X3 e g I h λv u k x y l m n o q=>d c k j l x y v u Q m n o q
def WY{c:UnaryOp}{r:V->Hp->VK->Prop}(e:UnR X (unaryOp c) r)(f:PE X a g):PE X (.UnaryOp c a pos) (tUn r g):=by intro b s d H Q I h;exact UnaryOp_<|vX (f b s d H _ I h) λv i j=>e2a3 j λx k l m n=>e b i d k x v Q l m n
def opI{f:ci->ci->Sem ci}{C:Int->Int->Prop}{g:Int->Int->Int}
 (a:∀(i j:Int)(t u:Tok)(s:ic)(Q:ci->ic->Prop)(E:ci->ic->Prop),C i j->Q (.int (g i j) s.toks) 103->ii 58 X.A (f (.int i t)<|.int j u) Q E s) :
    Bv X f (rI C λi j=>.int<|g i j):=by
  intro b s l H x y v u Q I c d h
  obtain⟨i,j,rfl,rfl,e,q⟩:=h
  obtain⟨t,rfl⟩:=c
  obtain⟨k,rfl⟩:=d
  exact a i j t k s _ _ e #[.int<|g i j,H,I.tok _,#[_,rfl],q]
def ZW{f:ci->ci->Sem ci}{g:Int->Int->Int}
 (a:∀(i j:Int)(t u:Tok)(s:ic)(Q:ci->ic->Prop)(E:ci->ic->Prop),Q (.int (g i j) s.toks) 103->ii 58 X.A (f (.int i t)<|.int j u) Q E s) :
    Bv X f (Ug λi j=>.int<|g i j):=by
  intro b s k H x y v u Q I c d h
  obtain⟨i,j,rfl,rfl,q⟩:=h
  obtain⟨t,rfl⟩:=c
  obtain⟨e,rfl⟩:=d
  exact a i j t e s _ _ #[.int<|g i j,H,I.tok _,#[_,rfl],q]
def Uw{f:ci->ci->Sem ci}{g:Int->Int->Bool}
 (a:∀(i j:Int)(t u:Tok)(s:ic)(Q:ci->ic->Prop)(E:ci->ic->Prop),Q (.bool<|g i j) s->ii 58 X.A (f (.int i t)<|.int j u) Q E s) :
    Bv X f (Ug λi j=>.bl<|g i j):=by
  intro b s k H x y v u Q I c d h
  obtain⟨i,j,rfl,rfl,q⟩:=h
  obtain⟨t,rfl⟩:=c
  obtain⟨e,rfl⟩:=d
  exact a i j t e s _ _ #[.bl<|g i j,H,I,rfl,q]
def a2i(i j:Int):Prop:=0<j/\j<1073741824
def a2j(i j:Int):Prop:=0<=j/\j<=1000000/\i.natAbs<2 ^ 64
def X4(i j:Int):Prop:=(-(2 ^ 64)<i/\i<2 ^ 64)\/(-(2 ^ 64)<j/\j<2 ^ 64)
def X4.ok{i j:Int}(h:X4 i j):IntMulOk i j:=by
 rcases h with⟨a,b⟩|⟨a,b⟩
 ·exact .of_left<|intBits_le_64 a b
 ·exact .of_right<|intBits_le_64 a b
def Aw:Bv X (mS .Add) (Ug λi j=>.int<|i+j):=ZW λ_ _ _ _ _ _ _ q=>add_int q
def KQ:Bv X (mS .Sub) (Ug λi j=>.int<|i-j):=ZW λ_ _ _ _ _ _ _ q=>sub_int q
def BO:Bv X (mS .Mult) (rI X4 λi j=>.int<|i*j):=opI λ_ _ _ _ _ _ _ a q=>mul_int q a.ok
def MX:Bv X (mS .FloorDiv) (rI a2i λi j=>.int<|i / j):=opI λi j _ _ _ _ _ a q=>by have b:(0:Int)<j:=a.1;have c:j<1073741824:=a.2;exact floordiv_int q0d (by rw[Int.fdiv_eq_ediv_of_nonneg i q0d];exact q)<|.inl<|PyProof.noPylong_small q0d
def C0:Bv X (mS .Mod) (rI (λ_ j=>0<j) λi j=>.int<|i%j):=opI λi j _ _ _ _ _ a q=>by exact mod_int' q0a (by rw[Int.fmod_eq_emod_of_nonneg i q0a];exact q)
def X5:Bv X (mS .Pow) (rI a2j λi j=>.int<|i ^ j.toNat):=opI λ_ _ _ _ _ _ _ a q=>pow_int_small a.1 a.2.1 a.2.2 q
def unI{f:ci->Sem ci}{g:Int->Int}
 (a:∀(i:Int)(t:Tok)(s:ic)(Q:ci->ic->Prop)(E:ci->ic->Prop),Q (.int (g i) s.toks) 103->ii 58 X.A (f<|.int i t) Q E s) :
    UnR X f (rU λi=>.int<|g i):=by
  intro b s d H x v Q I c h
  obtain⟨i,rfl,q⟩:=h
  obtain⟨t,rfl⟩:=c
  exact a i t s _ _ #[.int<|g i,H,I.tok _,#[_,rfl],q]
def P8:UnR X (unaryOp .USub) (rU λi=>.int (-i)):=unI λ_ _ _ _ _ q=>neg_int q
noncomputable def X6:V->V->Bool
 | .wW,.wW=>true|.wW,.int _=>true|.int _,.wW=>true|.wW,.bl _=>true|.bl _,.wW=>true|.wW,.str _=>true|.str _,.wW=>true
 | .int _,.int _=>true|.bl _,.bl _=>true|.str _,.str _=>true|.MU _,.MU _=>true
 | .int _,.str _=>true|.str _,.int _=>true|.bl _,.str _=>true|.str _,.bl _=>true
 |_,_=>false
def rEq:R2:=λx y H Q=>X6 x y=true/\Q (.bl<|decide<|x=y) H
def rNe:R2:=λx y H Q=>X6 x y=true/\Q (.bl<|!decide (x=y)) H
def MY{i j:Int}:decide (V.int i=V.int j)=(i==j):=by rw[mF];simp
def P9{i j:Bool}:decide (V.bl i=V.bl j)=(i==j):=by rw[mF];simp
def MZ:decide (V.str i=V.str j)=(i==j):=by rw[mF];simp
def M0:decide (V.MU i=V.MU j)=(i.toList==j.toList):=by rw[mF];cases i;cases j;simp
def vW{k b:Bool}(I:Inv X a c H s)(q:Q (.bl k) H)(e:k=b):EP X a c Q (.bool b) s:=by subst e;exact#[.bl k,H,I,rfl,q]
def ZX:Bv X (jO .Eq) rEq:=by
 intro e s f H x y v u Q I d a h;obtain⟨c,q⟩:=h
 cases x with
 |wW =>
  cases d
  cases y with
  |wW=>cases a;exact PySem.EqNone.eq_none_none<|vW I q q0o
  |bl j=>cases a;exact PySem.EqNone.eq_none_bool<|vW I q q0o
  |int j=>obtain⟨b,rfl⟩:=a;exact PySem.EqNone.eq_none_int<|vW I q q0o
  |str j=>obtain⟨b,rfl⟩:=a;exact PySem.EqNone.eq_none_str<|vW I q q0o
  |_=>exact iq (show false=true from c) ik
 |bl i =>
  cases d
  cases y with
  |wW=>cases a;exact PySem.EqNone.eq_bool_none<|vW I q q0o
  |bl j=>cases a;exact eq_bool<|vW I q P9
  |str j=>obtain⟨b,rfl⟩:=a;exact PySem.EqMixed.eq_bool_str<|vW I q q0o
  |_=>exact iq (show false=true from c) ik
 |int i =>
  obtain⟨t,rfl⟩:=d
  cases y with
  |wW=>cases a;exact PySem.EqNone.eq_int_none<|vW I q q0o
  |int j=>obtain⟨b,rfl⟩:=a;exact eq_int<|vW I q MY
  |str j=>obtain⟨b,rfl⟩:=a;exact PySem.EqMixed.eq_int_str<|vW I q q0o
  |_=>exact iq (show false=true from c) ik
 |str i =>
  obtain⟨t,rfl⟩:=d
  cases y with
  |wW=>cases a;exact PySem.EqNone.eq_str_none<|vW I q q0o
  |bl j=>cases a;exact PySem.EqMixed.eq_str_bool<|vW I q q0o
  |int j=>obtain⟨b,rfl⟩:=a;exact PySem.EqMixed.eq_str_int<|vW I q q0o
  |str j=>obtain⟨b,rfl⟩:=a;exact eq_str<|vW I q MZ
  |_=>exact iq (show false=true from c) ik
 |MU i =>
  obtain⟨t,rfl⟩:=d
  cases y with
  |MU j=>obtain⟨b,rfl⟩:=a;exact PySem.W.eq_bytes<|vW I q M0
  |_=>exact iq (show false=true from c) ik
 |_=>cases y<;>exact iq (show false=true from c) ik
def ZY:Bv X (jO .NotEq) rNe:=by
 intro e s f H x y v u Q I d a h;obtain⟨c,q⟩:=h
 cases x with
 |wW =>
  cases d
  cases y with
  |wW=>cases a;exact PySem.EqNone.ne_none_none<|vW I q q0o
  |bl j=>cases a;exact PySem.EqNone.ne_none_bool<|vW I q q0o
  |int j=>obtain⟨b,rfl⟩:=a;exact PySem.EqNone.ne_none_int<|vW I q q0o
  |str j=>obtain⟨b,rfl⟩:=a;exact PySem.EqNone.ne_none_str<|vW I q q0o
  |_=>exact iq (show false=true from c) ik
 |bl i =>
  cases d
  cases y with
  |wW=>cases a;exact PySem.EqNone.ne_bool_none<|vW I q q0o
  |bl j=>cases a;exact ne_bool<|vW I q<|congrArg not P9
  |str j=>obtain⟨b,rfl⟩:=a;exact PySem.EqMixed.ne_bool_str<|vW I q q0o
  |_=>exact iq (show false=true from c) ik
 |int i =>
  obtain⟨t,rfl⟩:=d
  cases y with
  |wW=>cases a;exact PySem.EqNone.ne_int_none<|vW I q q0o
  |int j=>obtain⟨b,rfl⟩:=a;exact ne_int<|vW I q<|congrArg not MY
  |str j=>obtain⟨b,rfl⟩:=a;exact PySem.EqMixed.ne_int_str<|vW I q q0o
  |_=>exact iq (show false=true from c) ik
 |str i =>
  obtain⟨t,rfl⟩:=d
  cases y with
  |wW=>cases a;exact PySem.EqNone.ne_str_none<|vW I q q0o
  |bl j=>cases a;exact PySem.EqMixed.ne_str_bool<|vW I q q0o
  |int j=>obtain⟨b,rfl⟩:=a;exact PySem.EqMixed.ne_str_int<|vW I q q0o
  |str j=>obtain⟨b,rfl⟩:=a;exact ne_str<|vW I q<|congrArg not MZ
  |_=>exact iq (show false=true from c) ik
 |MU i =>
  obtain⟨t,rfl⟩:=d
  cases y with
  |MU j=>obtain⟨b,rfl⟩:=a;exact PySem.W.ne_bytes<|vW I q<|congrArg not M0
  |_=>exact iq (show false=true from c) ik
 |_=>cases y<;>exact iq (show false=true from c) ik
def WZ:Bv X (jO .Lt) (Ug λi j=>.bl<|decide<|i<j):=Uw λ_ _ _ _ _ _ _ q=>lt_int q
def W0:Bv X (jO .LtE) (Ug λi j=>.bl<|decide<|i<=j):=Uw λ_ _ _ _ _ _ _ q=>le_int q
def W2:Bv X (jO .Gt) (Ug λi j=>.bl<|decide<|j<i):=Uw λ_ _ _ _ _ _ _ q=>gt_int q
def ZZ:Bv X (jO .GtE) (Ug λi j=>.bl<|decide<|j<=i):=Uw λ_ _ _ _ _ _ _ q=>ge_int q
def X7:Bv X (jO .Is) (λx y H Q=>y=.wW/\Q (.bl<|decide<|x=.wW) H):=by
 intro a s d H x y v u Q I b c h;obtain⟨rfl,q⟩:=h;cases c;refine is_none_gen<|vW I q ?_
 cases x<;>first
  | (cases b;rfl)
  | (obtain⟨t,rfl⟩:=b;rfl)
def Ux:Bv X (jO .IsNot) (λx y H Q=>y=.wW/\Q (.bl<|!decide (x=.wW)) H):=by
 intro a s d H x y v u Q I b c h;obtain⟨rfl,q⟩:=h;cases c;refine isnot_none_gen<|vW I q ?_
 cases x<;>first
  | (cases b;rfl)
  | (obtain⟨t,rfl⟩:=b;rfl)
def wn(b:iZ)(h:op≠.In:=by decide)(a:op≠.NotIn:=by decide):jh op b=false:=by
 have c:(op==CmpOp.In)=false:=by cases op<;>first|rfl|exact iq rfl h
 have d:(op==CmpOp.NotIn)=false:=by cases op<;>first|rfl|exact iq rfl a
 cases b<;>simp[jh,c,d]
def Hg(d:Bv X (jO op) r)(e:PE X a f)(g:PE X b i)(j:jh op b=false):PE X 119 (ZB r f i):=by intro c s k H Q I h;exact sZ (X3 e g I h λv u l x y m n o p q=>d c l k m x y v u Q n o p q) j
def Z0(t:TE):TT:=λa H Q=>t a H λx b=>∃k,x=.bl k/\Q k b
def ye{g:qY}{r:R2}(l:Bv X (jO g) r)(m:PE X a n)(o:PE X b p)(q:jh g b=false):PT X (.Compare a [g] [b] pos) (Z0<|ZB r n p):=by
 intro d s i H Q I h
 refine uU (vX (m d s i H _ I h) λv t f=>e2a3 f λx w A B C=>vX (o d t i w _ A C) λu D f=>e2a3 f λy E F G J =>
  vX (l d D i E x y v u _ F B G J) λc P f=>e2a3 f λz L M N j=>e1a2 j λk e O=>?_) q
 subst e;cases N;exact kG #[L,M,O]
def Z1(K:hO)(x:V)(H:Hp)(k:Bool):Prop :=
 match x with
 | .wW=>k=false
 | .bl b=>k=b
 | .int i=>k=(i != 0)
 | .str y=>y.length<=hX/\k=((y.length:Int) != 0)
 | .MU y=>y.size<=hX/\k=((y.size:Int) != 0)
 | .ref p=>(∃a,wI K H p a/\k=!a.isEmpty)\/(∃a,zu K H p a/\k=!a.isEmpty)\/∃c,H p=↑(.dK c)/\k=!c.isEmpty
 |_=>False
def KR(r:KV a b):(!b.isEmpty)=!a.isEmpty:=by
 cases r<;>rfl
def Ev(r:Vals b a):(!a.toArray.isEmpty)=!b.isEmpty:=by
 cases r<;>simp
def Ew:(hX:Nat)<2 ^ 63:=by rw[jk];decide
def X8:a2h X (λx H Q=>∃k,Z1 X.K x H k/\Q k H):=by
 intro u s C H x v Q I g h;refine e1a2 h λk e q=>?_;have D:hX=16777216:=jk
 cases x with
 |wW =>
  cases g;have a:k=false:=e;subst a;exact truthy_none #[H,I,q]
 |bl b =>
  cases g;have a:k=b:=e;subst a;exact kG #[H,I,q]
 |int i =>
  obtain⟨t,rfl⟩:=g;have a:k=(i != 0):=e;subst a;exact PySem.P.truthy_int #[H,I,q]
 |str y =>
  obtain⟨t,rfl⟩:=g;obtain⟨A,a⟩:y.length<=hX/\k=((y.length:Int) != 0):=e;subst a;exact PySem.P.truthy_str q0a #[H,I.tok _,q]
 |MU y =>
  obtain⟨t,rfl⟩:=g;obtain⟨A,a⟩:y.size<=hX/\k=((y.size:Int) != 0):=e;subst a;exact PySem.W.truthy_bytes q0a #[H,I.tok _,q]
 |ref p =>
  cases g;have a:(∃f,wI X.K H p f/\k=!f.isEmpty)\/(∃f,zu X.K H p f/\k=!f.isEmpty)\/∃c,H p=↑(.dK c)/\k=!c.isEmpty:=e;rcases a with⟨f,j,a⟩|⟨f,j,a⟩|⟨c,j,a⟩
  ·subst a;refine e1a3 (I.list j) λn r o z=>?_;have d:=r.length;exact wpAny_truthy_list o.isList (by simp only[im];lia) #[H,I.tok _,by rw[Ev r];exact q]
  ·subst a;refine e1a3 (I.tuple j) λn r o z=>?_;have d:=r.length;exact truthy_tuple o (by simp only[im];lia) #[H,I.tok _,by rw[Ev r];exact q]
  ·subst a;obtain⟨z,B,l,r,m⟩:c.length<=hX/\(p==lw)=false/\∃l,KV c l/\s.heap.DictOf (vR X.prog X.w) p l:=I.v0 p _ j;have d:c.length=l.length:=Paired.length r;exact wpAny_truthy_dict B m q0a #[H,I.tok _,by rw[KR r];exact q]
 |_=>exact(show False from e).elim
def Jx(f:PE X a g)(i:∀b,rf a X.env b=(do let v <- b;nA a.pos;lm [v] (uH v))) :
  PT X a (λd H Q=>g d H λx e=>∃k,Z1 X.K x e k/\Q k e):=by
 intro c s d H Q I h;exact isTrue_plain (vX (f c s d H _ I h) λv j l=>e2a3 l λx m n o p=>X8 c j d m x v Q n o p)<|i _
def vals1(r:Vals [x] a):∃u,a=[u]/\RelV x u:=by
 cases r with
 |cons b c=>cases c;exact#[_,rfl,b]
def vals2(r:Vals [x,y] b):∃u a,b=[u,a]/\RelV x u/\RelV y a:=by
 cases r with
 |cons c d =>
  cases d with
  |cons e f=>cases f;exact#[_,_,rfl,c,e]
structure KS(h:ja)(x dx C:hJ)(mA:Str->Option ci):Prop where
 obj:h.get? x=↑(kT C dx)
 ns:h.Ns1 dx mA
 ne:dx≠x
set_option tactic.hygienic true in
def Oi{h:ja}{c:hJ}{d:Str->Option ci}(n:h.Ns1 c d):∃f,h.get? c=↑f/\∀name,pq name f=↑(d name):=by
 obtain⟨o,g,r,i,j,k,_,l⟩:=n;refine#[o,i,λname=>?_];have e:=l name;unfold nsFind findBy at e;rw[<- uc]at e;unfold pq;rw[j];dsimp only;split
 ·rename_i y q
  rw[q]at e;exact congrArg some e
 ·rename_i q
  rw[q]at e
  have a:g.toList.any (·.refKey)=false:=by rw[List.any_eq_false];intro y m;obtain⟨z,t,b⟩:=k y<|Array.mem_toList_iff.mp m;simp[DictEntry.refKey,b]
  have p:¬g.toList.any (·.refKey)=true:=by rw[a];exact ik
  rw[hI p];exact congrArg some e
def KS.look{C:hJ}(I:KS h x b C c):∃a,PySem.W.InstAt h x (kT C b) C ↑a/\∀name,pq name a=↑(c name) :=
 e1a2 (Oi I.ns) λa d e =>
 #[a,#[I.obj,rfl,rfl,d],e]
section
variable{prog:iQ}{w:jf}{A:jN}{E:ci->ic->Prop}{s:ic}{K:hO}{x dx C f:hJ}{mA:Str->Option ci}{name:Str}{v:ci}
def get_map{a:Bool}(X:K.In s.heap)(I:KS s.heap x dx C mA)(c:m7 K C name=true)(d:oi K C=true)
 (e:iN K (.ref C) name=↑none) (g:mA name=↑v) (b:ud v=true) (h:Q v 103) :
    ii (ij prog w) A (getAttr (.ref x) name a) Q E s:=by
  refine e1a2 I.look λj J i=>?_
  exact PySem.W.get_value X J (pL c).1 (PySem.W.findObj_own d e rfl<|by rw[i,g]) b h
def Qa(X:K.In s.heap)(I:KS s.heap x dx C mA)(a:m7 K C name=true)
 (b:iN K (.ref C) name=↑(some<|.ref f)) (c:oQ K (.ref f)=true) (d:mA name=none) (h:Q (.ref f,[.ref x]) s) :
    ii (ij prog w) A (m9 (.ref x) name i) Q E s:=by
  refine e1a2 I.look λe J g=>?_
  exact PySem.W.method_fn X J (pL a).1 (pL a).2 b (beq_iff_eq.mp c) (by show (pq name e).map (·.isSome)=↑false;rw[g,d];rfl) h
def Uy(X:K.In s.heap)(I:KS s.heap x dx C mA)
 (l:iN K (.ref C) "__setattr__"=↑109) (m:qq K C=true) (n:qO K C name=↑none) (o:oi K C=true)
 (hw:sF mA p) (q:p.length<=hX)
 (h:∀e,KS e x dx C (λy=>if y=name then some v else mA y)->jl dx s.heap e->Q () { s with heap:=e,toks:=s.toks+2}) :
    ii (ij prog w) A (setAttr (.ref x) name v) Q E s:=by
  refine e1a2 I.look λD J F=>?_
  refine PySem.W.set_plain X J l<|PySem.W.osa_open (s:=103) (r:=none) X J m n λb=>?_
  refine e1a2 (PySem.W.any_some o) λG t g=>?_
  have u:s.heap.get? x=some #[.ref C,↑dx,.plain,#v[]]:=I.obj
  refine am<|ap<|am<|am<|wpAny_loadPart u<|am<|PySem.W.Looks.here (s:=103) (pM X t) ?_
  rw[g]
  refine ap (a:=↑dx)<|am<|ap<|am ?_
  refine wpAny_nsSet1 (s:=103) I.ns λe c d=>?_
  obtain⟨H,z,B,i,j,k⟩:=c.count<|PySem.Within.cons name v hw
  refine am<|wpAny_lookBehind i (by rw[j];exact pastItsLine_dict<|iP k<|by rw[iF];lia) ?_
  exact ap<|h _ #[(d.2 _<|Ne.symm I.ne).trans I.obj,c,I.ne] d
def Qb(X:K.In s.heap)(c:qP K C=true)
 (e:iN K (.ref C) "__init__"=↑(some<|.ref f)) (i:pr K (.ref f)=↑(.type "function"))
 (h:mX (ij prog w) (A.under (.builtin "type.__call__" #[.ref C::a,b])) (.call (.ref f) #[.ref (⇑s+1)::a,b]) (PySem.W.InitBack (⇑s+1) R)
 { s with heap:=(s.heap.push j9).push (kT C ⇑s)}) :
    mX (ij prog w) A (.call (.ref C) #[a,b]) R s:=by
  obtain⟨j,g,d,t,k⟩:=s
  exact PySem.W.make_core (PySem.W.makes_of X c) (pw X e) (λself=>PySem.W.bind_fn X self i) (.inl rfl) h
end
noncomputable def Ax(f:Str)(v:V):List (Str×V)->List (Str×V)
 | []=>[(f,v)]
 | (g,x)::r=>if g=f then (g,v)::r else (g,x)::Ax f v r
def Jy(f g:Str)(v:V):∀d:List (Str×V),(Ax f v d).lookup g=if g=f then some v else d.lookup g:=by
 intro i
 induction i with
 |nil =>
  show kM g [(f,v)]=_;by_cases h:g=f
  ·have a:(g==f)=true:=beq_iff_eq.mpr h;simp only[kM,a,cr h]
  ·have a:(g==f)=false:=beq_eq_false_iff_ne.mpr h;simp only[kM,a,hI h]
 |cons j r c =>
  obtain⟨k,x⟩:=j;have l:=c;rw[show Ax f v ((k,x)::r)=(if k=f then (k,v)::r else (k,x)::Ax f v r) from rfl];by_cases b:k=f
  ·rw[cr b];by_cases h:g=k
   ·have a:(g==k)=true:=beq_iff_eq.mpr h;simp only[kM,a,cr<|h.trans b]
   ·have a:(g==k)=false:=beq_eq_false_iff_ne.mpr h;simp only[kM,a,hI (λe:g=f=>h<|e.trans b.symm)]
  ·rw[hI b];by_cases h:g=k
   ·have a:(g==k)=true:=beq_iff_eq.mpr h;simp only[kM,a,hI (λe:g=f=>b<|h.symm.trans e)]
   ·have a:(g==k)=false:=beq_eq_false_iff_ne.mpr h;simp only[kM,a];exact l
def Gw(f:Str)(v:V):∀a:List (Str×V),f∈(Ax f v a).map (·.1)/\∀g,g∈a.map (·.1)->g∈(Ax f v a).map (·.1):=by
 intro d
 induction d with
 |nil=>exact#[by simp[Ax],λg h=>by simp at h]
 |cons i r b =>
  obtain⟨k,x⟩:=i;obtain⟨j,l⟩:=b;rw[show Ax f v ((k,x)::r)=(if k=f then (k,v)::r else (k,x)::Ax f v r) from rfl];by_cases c:k=f
  ·rw[cr c];subst c;exact#[q0o,λg h=>by simpa using h]
  ·rw[hI c];refine#[?_,λg h=>?_]
   ·rw[iJ];exact hZ _ j
   ·rw[iJ]at h ⊢;rcases List.mem_cons.mp h with e|e
    ·exact List.mem_cons.mpr<|.inl e
    ·exact hZ _<|l g e
def DC(f:Str)(v:V):∀a:List (Str×V),(Ax f v a).length<=a.length+1
 | []=>by simp[Ax]
 | (k,x)::r=>by
  have c:=DC f v r;rw[show Ax f v ((k,x)::r)=(if k=f then (k,v)::r else (k,x)::Ax f v r) from rfl];by_cases b:k=f
  ·rw[cr b,iF,iF];lia
  ·rw[hI b,iF,iF];lia
def zL.some_of(r:zL ↑v o):∃u,o=↑u/\RelV v u:=by
 cases o with
 |none=>exact(show False from r).elim
 |some u=>exact#[u,rfl,r]
def zL.none_of(r:zL none o):o=none:=by
 cases o with
 |none=>rfl
 |some u=>exact(show False from r).elim
def Oj(r:RelV v u):ud u=true:=by
 cases v with
 |wW=>cases (show u=Value.none from r);rfl
 |bl b=>cases (show u=rJ b from r);rfl
 |int i=>obtain⟨t,e⟩:=(show ∃t,u=md i t from r);cases e;rfl
 |str x=>obtain⟨t,e⟩:=(show ∃t,u=Value.str x t from r);cases e;rfl
 |MU b=>obtain⟨t,e⟩:=(show ∃t,u=Value.bytes b t from r);cases e;rfl
 |Xy b=>obtain⟨t,e⟩:=(show ∃t,u=sY b t from r);cases e;rfl
 |ref a=>cases (show u=iA a from r);rfl
 |ty n=>cases (show u=kA n from r);rfl
def B6(c:yk P w H h)(e:H a=↑(.ins C g fs)):∃b,KS h a g C b/\(∀f,zL (fs.lookup f)<|b f)/\sF b (fs.map (·.1))/\fs.length<=1000/\H g=↑(.own a):=by obtain⟨d,z,i,j,b,n,r,q⟩:=(show wy P w H h a (.ins C g fs) from c a _ e);exact#[b,#[j,n,i],r,q,z,d]
structure Bw(K:hO)(C:hJ):Prop where
 pg:m7 K C Str.empty=true
 hd:oi K C=true
 po:qq K C=true
 sa:iN K (.ref C) "__setattr__"=↑109
def Bw.get{K:hO}{C:hJ}(c:Bw K C)(f:Str):m7 K C f=true:=c.pg
def wg(K:hO)(C:hJ)(f:Str):Prop:=iN K (.ref C) f=↑none
def wg.Z2{K:hO}{C:hJ}{f:Str}(n:wg K C f):qO K C f=↑none:=by unfold qO;rw[show iN K (.ref C) f=some none from n];rfl
structure Meth(K:hO)(C:hJ)(m:Str)(f:hJ):Prop where
 at_:iN K (.ref C) m=↑(some<|.ref f)
 fn:oQ K (.ref f)=true
 kp:jz K (.ref f)=true
def KU{b:Bool}(I:Inv X d j H s)(e:H a=↑(.ins C p fs))(c:Bw X.K C)(n:wg X.K C f)(l:fs.lookup f=↑v)
 (h:∀u g,Inv X d j H g->RelV v u->Q u g):ii 58 A (getAttr (.ref a) f b) Q E s:=by
  obtain⟨k,O,r,_,_,_⟩:=B6 I.v0 e
  obtain⟨u,m,i⟩:=zL.some_of (v:=v) (o:=k f) (by rw[<- l];exact r f)
  exact get_map I.y9 O (c.get f) c.hd n m (Oj i)<|h u _ (I.tok _) i
def BP(I:Inv X b i H s)(e:H a=↑(.ins C j fs))(c:Bw X.K C)(k:Meth X.K C m g)(l:fs.lookup m=none)
 (h:Q (.ref g,[.ref a]) s):ii 58 A (m9 (.ref a) m n) Q E s:=by
  obtain⟨d,O,r,_,_,_⟩:=B6 I.v0 e
  have f:d m=none:=zL.none_of (by rw[<- l];exact r m)
  exact Qa I.y9 O (c.get m) k.at_ k.fn f h
def KW(I:Inv X d t H s)(e:H a=↑(.ins C i fs))(c:Bw X.K C)(n:wg X.K C f)(N:fs.length<1000)(v:RelV y u)
 (h:∀k,Inv X d t (upd H a<|.ins C i<|Ax f y fs) k->Q () k):ii 58 A (setAttr (.ref a) f u) Q E s:=by
  obtain⟨l,O,r,m,_,p⟩:=B6 I.v0 e
  have B:(fs.map (·.1)).length<=hX:=by rw[h8,jk];lia
  refine Uy I.y9 O c.sa c.po n.Z2 c.hd m B λD j F=>h _ ?_
  have G:∃o,D.get? i=↑o:=e3a2 j.ns λo _ _ J _=> #[o,J]
  refine I.write (x:=a) (e:=i) (by rw[e];exact True.intro) (.inr p) (λb q L z=>(F.2 b L).trans z) G ?_
  refine#[by rw[vh O.ne];exact p,?_,O.ne,j.obj,_,j.ns,λg=>?_,λg M=>?_]
  · have := DC f y fs; lia
  · show zL ((Ax f y fs).lookup g) (if g = f then some u else l g)
    rw[Jy]
    by_cases q:g=f
    · rw[cr q, cr q]; exact v
    · rw[hI q, hI q]; exact r g
  · by_cases q : g = f
    · rw[q]; exact(Gw f y fs).1
    · refine(Gw f y fs).2 g (m g λz => M ?_)
      show (if g=f then some u else l g)=none
      rw[hI q];exact z
def Inv.made(I:Inv X c g H s):Inv X c g (upd (upd H ⇑s<|.own<|⇑s+1) (⇑s+1)<|.ins C ⇑s [])
  { s with heap:=(s.heap.push j9).push (kT C ⇑s)}:=by
 have d:(s.heap.push j9).get? ⇑s=↑j9:=il s.heap rfl
 have h:((s.heap.push j9).push<|kT C ⇑s).get? (⇑s+1)=↑(kT C ⇑s):=by
  have:=il (s.heap.push j9) (o:=kT C ⇑s) rfl
  rwa [jR]at this
 have i:(s.heap.push j9).Ns ⇑s (λ_=>none):=#[j9,#v[],_,d,rfl,(λe j=>iq j q0o),λ_=>rfl];have k:=I.laid (a:=⇑s) (o:=.own<|⇑s+1) (h':=s.heap.push j9) (t':=s.toks) (λb u q=>ce _ q) (hV _) #[_,d];refine k.laid (a:=⇑s+1) (o:=.ins C ⇑s []) (t':=s.toks) (λb u q=>ce _ q) (qQ<|jR _ _) ?_;have f:⇑s≠⇑s+1:=iu<|jM _;refine⟨by rw[vh f,vm],jp _,f,h,λ_=>none,(tj i).at λo q=>ce _ q,λ_=>True.intro,λy l=>iq rfl l⟩
def Uz(d:iW e f a (eval e a)=eval e a)
 (h:ii (ij b w) A (eval e a) (λo c=>ii (ij b w) A (getAttr o f true) Q E c) E s):ii (ij b w) A (eval (.Attribute e f pos) a) Q E s :=
  Attribute_any_ h (by rw[arm_eval_Attribute,d])
def X9(K:hO)(d:TE)(f:Str):TE:=λe H Q=>d e H λx b=>∃a C g c v,x=.ref a/\b a=↑(.ins C g c)/\Bw K C/\wg K C f/\c.lookup f=↑v/\Q v b
def Ol(K:hO)(g h:TE)(f:Str):TS:=λD b H=>h b H λy i=>g b i λx d=>∃a C e c,x=.ref a/\d a=↑(.ins C e c)/\Bw K C/\wg K C f/\c.length<1000 /\
 D.nx b (upd d a<|.ins C e<|Ax f y c)
def Z3(X:Cx)(c:Operator)(d:V->V->Hp->VK->Prop):Prop :=
 ∀(a:List (hJ×Obj)) (s:ic) (b:St) (H:Hp) (x y:V) (u v:ci) (Q:VK),Inv X a b H s->RelV x u->RelV y v->d x y H Q->ii 58 X.A (inplaceOp c u v) (EP X a b Q) X.xe s
def xk(g:PE X e i)(j:iW e f X.env (eval e X.env)=eval e X.env):PE X (.Attribute e f pos) (X9 X.K i f):=by intro b s k H Q I h;refine Uz j<|vX (g b s k H _ I h) λu z m=>e2a3 m λx H1 o p d=>e5a6 d λa C A fs v r t c n l q=>?_;subst r;obtain rfl:u=iA a:=p;exact KU o t c n l λB D w y=>#[v,H1,w,y,q]
def C3(j:PE X o k)(m:PE X value p)(r:kj value (some<|.Attribute o f d) pos.line X.env=pure false):PS X (.Assign [.Attribute o f d] value pos) (Ol X.K k p f):=by intro b s g H D I h;refine rV (vX (m b s g H _ I h) λu t i=>e2a3 i λy H1 v w q=>vX (j b t g H1 _ v q) λz L i=>e2a3 i λx H2 A B e=>e4a6 e λa C M fs E F c n l G=>?_) r;subst E;obtain rfl:z=iA a:=B;exact KW A F c n l w λN J=>#[g,_,J,G]
inductive zQ(K:hO)(H:Hp):V->ci->Prop where
 | wW:zQ K H .wW (.type "NoneType")
 | bl (x:Bool):zQ K H (.bl x) (.type "bool")
 | int (i:Int):zQ K H (.int i) (.type "int")
 | str (x:Str):zQ K H (.str x) (.type "str")
 | Xy (x:UInt64):zQ K H (.Xy x) (.type "float")
 | lst {a:hJ} {xs:List V} (e:H a=↑(.lst xs)):zQ K H (.ref a) (.type "list")
 | KG {a:hJ} {o:Obj} {xs:List V} (e:H a=↑(.KG o<|.lst xs)):zQ K H (.ref a) (.type "list")
 | tup {a:hJ} {xs:List V} (e:H a=↑(.tup xs)):zQ K H (.ref a) (.type "tuple")
 | dK {a:hJ} {xG:List (Key×V)} (e:H a=↑(.dK xG)):zQ K H (.ref a) (.type "dict")
 | dT {a:hJ} {xG:List (List Key×V)} (e:H a=↑(.dT xG)):zQ K H (.ref a) (.type "dict")
 | ins {a C dx:hJ} {fs:List (Str×V)} (e:H a=↑(.ins C dx fs)) (cl:Bw K C) (ha:iN K (.ref C) "__class__"=↑(some<|.builtin "object.__class__"))
   (hn:PySem.W.specialIn K (.builtin "object.__class__") "__get__"=↑(some<|.builtin "getset_descriptor.__get__")) (htk:PySem.W.takesIn K (.builtin "object.__class__")=↑true)
   (hm:lE K C (.type "object")=↑true):zQ K H (.ref a) (.ref C)
def Om(I:Inv X r R H s)(d:RelV x u)(B:zQ X.K H x t)(e:rj X.K t c=↑b)(h:∀D,Q (.bool b) { s with toks:=D}) :
  ii 58 A (call (.builtin "isinstance") [u,c]) Q E s:=by
 cases B with
 |wW=>cases (show u=Value.none from d);exact jW PySem.W.kitx_none I.y9 True.intro e (λz=>nomatch z) h
 |bl y=>cases (show u=rJ y from d);exact jW PySem.W.kitx_bool I.y9 True.intro e (λz=>nomatch z) h
 |int i=>obtain⟨t,q⟩:=(show ∃t,u=md i t from d);cases q;exact jW PySem.W.kitx_int I.y9 True.intro e (λz=>nomatch z) h
 |str y=>obtain⟨t,q⟩:=(show ∃t,u=Value.str y t from d);cases q;exact jW PySem.W.kitx_str I.y9 True.intro e (λz=>nomatch z) h
 |Xy y=>obtain⟨t,q⟩:=(show ∃t,u=sY y t from d);cases q;exact jW PySem.W.kitx_float I.y9 True.intro e (λz=>nomatch z) h
 | @lst a k f =>
  cases (show u=iA a from d);obtain⟨_,_,n,_,g⟩:=(show wy X.prog X.w H s.heap a (.lst k) from I.v0 a _ f);exact jW tW I.y9 #[_,g,rfl] e (λz=>nomatch z) h
 | @KG a F k f =>
  cases (show u=iA a from d);obtain⟨_,_,_,n,_,g⟩:=(show wy X.prog X.w H s.heap a (.KG F<|.lst k) from I.v0 a _ f);exact jW tW I.y9 ⟨_,g,rfl⟩ e (λz=>nomatch z) h
 | @tup a k f =>
  cases (show u=iA a from d);obtain⟨_,_,_,p⟩:=(show wy X.prog X.w H s.heap a (.tup k) from I.v0 a _ f);refine e1a3 p λo g l _=>?_;exact jW PySem.W.kitx_tuple I.y9 #[o,g,l] e (λz=>nomatch z) h
 | @dK a j f =>
  cases (show u=iA a from d);obtain⟨_,_,S,_,p⟩:=(show wy X.prog X.w H s.heap a (.dK j) from I.v0 a _ f);obtain⟨o,G,L,g,l,_⟩:=p;exact jW tX I.y9 #[o,g,l.1] e (λz=>nomatch z) h
 | @dT a j f =>
  cases (show u=iA a from d);obtain⟨_,_,k,_,o,G,L,g,l,_⟩:=(show wy X.prog X.w H s.heap a (.dT j) from I.v0 a _ f);exact jW tX I.y9 #[o,g,l.1] e (λz=>nomatch z) h
 | @ins a C T fs f v M N m P =>
  cases (show u=iA a from d);refine e1a2 (B6 I.v0 f) λU O _=>?_;refine e1a2 O.look λY J _=>?_;exact jW (PySem.W.kitx_own (v.get _) v.hd M N m P) I.y9 J e (λz=>nomatch z) h
structure wM(k:Nat)(A:jN):Prop where
 hd:A.handled=none
 dp:A.depth+3*k+5<tm
 un:A.units+16*k+200<kX
def wM.mono{j k:Nat}(r:wM k A)(h:j<=k):wM j A:=#[r.hd,by have:=r.dp;lia,by have:=r.un;lia]
def wM.deeper{k:Nat}(r:wM (k+1) A)(a:Env):wM k (A.deeper a) :=
 #[r.hd,by have:=r.dp;show A.depth+1+3*k+5<_;lia,by have:=r.un;show A.units+3+16*k+200<_;lia]
def KY{A:jN}{C:hJ}{a:List ci}{b:List (Str×ci)}:(A.under<|.builtin "type.__call__" #[.ref C::a,b]).depth=A.depth+1:=by
 first|rfl|simp[sk,Code.weight,Code.isCreation,Code.isGuard,Code.isCaller,Code.frames,sR,guardIds]
def KZ{A:jN}{C:hJ}{a:List ci}{b:List (Str×ci)}:(A.under<|.builtin "type.__call__" #[.ref C::a,b]).units=A.units+1:=by
 first|rfl|simp[sk,Code.cUnits,Code.frames,sR]
def wM.make{k:Nat}(r:wM (k+1) A)(C:hJ)(a:List ci)(b:List (Str×ci)):wM k (A.under<|.builtin "type.__call__" #[.ref C::a,b]) :=
 #[r.hd,by have:=r.dp;rw[KY];lia,by have:=r.un;rw[KZ];lia]
def wM.depth{k:Nat}(r:wM k A):A.depth<tm:=by have:=r.dp;lia
def wM.units{k:Nat}(r:wM k A):A.units+64<kX:=by have:=r.un;lia
def BQ:TA:=λ_ H Q=>Q [] H
def BB(b:TE)(c:TA):TA:=λa H Q=>b a H λx d=>c a d λe f=>Q (x::e) f
def vF:PA X [] BQ:=λ_ _ _ _ H Q I h=>lN #[[],H,I,.nil,h]
def vq(g:PE X e i)(j:PA X b t)(k:hR (e::b) X.env=71::hR b X.env:=by rfl):PA X (e::b) (BB i t):=by intro c a s f H Q I h;rw[k];refine ko<|vX (g a s f H _ I h) λu l d=>e2a3 d λx m n o p=>?_;exact vX (j c a l f m _ n p) λz A d=>e2a3 d λq r v w y=>#[x::q,r,v,.cons o w,y]
def a2k(t:TA):TE:=λc H Q=>t c H λa b=>a.length<=hX/\∀p,b p=none->Q (.ref p) (upd b p<|.tup a)
def a2l(t:TA):TE:=λc H Q=>t c H λa b=>a.length<=hX/\∀p,b p=none->Q (.ref p) (upd b p<|.lst a)
def Qc{g}(h:PA X i t):PE X (.Tuple i g pos) (a2k t):=by intro a s j H Q I k;refine wpAny_Tuple_spliced<|vX (h pos a s j H _ I k) λl c m=>e2a4 m λn d f r z q=>#[by rw[<- r.length];exact z,?_];have o:d ⇑c=none:=f.v0.fresh<|hV _;refine⟨.ref ⇑c,upd d ⇑c<|.tup n,f.laid (t':=c.toks) (λb u e=>ce _ e) (hV _) ?_,rfl,q _ o⟩;exact#[z,l,r,#[_,il _ rfl,rfl,_,rfl]]
def Qd(h:PA X g t):PE X (.List g pos) (a2l t):=by intro a s i H Q I j;refine wpAny_List_spliced<|vX (h pos a s i H _ I j) λk c l=>e2a4 l λm d f r z q=>#[by rw[<- r.length];exact z,?_];have n:d ⇑c=none:=f.v0.fresh<|hV _;refine⟨.ref ⇑c,upd d ⇑c<|.lst m,f.laid (t':=c.toks) (λb u e=>ce _ e) (hV _) ?_,rfl,q _ n⟩;exact#[z,k,0,r,il _ rfl]
abbrev Sp:=List V->Hp->VK->XK->Prop
abbrev Qe:=List Env->Hp->ic->XK->ci->ic->Prop
structure Jz(P:iQ)(w:jf)(K:hO)(mg:Str->Option ci)(base:ja)(A:jN)(outer:List Env)(s:ic)(H:Hp):Prop where
 frames:A.frames=↑outer
 mod:Mod K mg base
 bs:∀b o,base.get? b=↑o->s.heap.get? b=↑o/\H b=none
 Jo:base.objs.size<=⇑s
 yT:s.heap.FunFrames base outer
 Kz:∀b∈zJ outer,H b=none
 v0:yk P w H s.heap
 bare:nY s.gens
def CE(a:List Env)(P:iQ)(w:jf)(H:Hp)(s:ic)(Q:VK)(u:ci)(b:ic):Prop :=
 ∃v c,b.os=s.os/\nY b.gens/\Un (zJ a) [] H c s.heap b.heap/\yk P w c b.heap/\RelV v u/\Q v c
def CR(c:Qe)(a:List Env)(P:iQ)(w:jf)(H:Hp)(s:ic)(Q:VK)(E:XK)(r:Result)(b:ic):Prop :=
 match r with
 | .ok (.ret u)=>CE a P w H s Q u b
 | .ok _=>False
 | .error e=>c a H s E e b
structure vU(P:iQ)(w:jf)(K:hO)(mg:Str->Option ci)(base:ja)(CX:Qe)(k:Nat)(f:hJ)(fd:iX)(ps:List Str)(sp:Sp):Prop where
 len:∀vs H Q E,sp vs H Q E->vs.length=ps.length
 run:∀(A:jN)(outer:List Env)(s:ic)(H:Hp)(args:Args)(us:List ci)(vs:List V)(Q:VK)(E:XK),wM k A->Jz P w K mg base A outer s H->sS s fd args (ps.zip us)->Vals vs us->sp vs H Q E ->
  mX (ij P w) A (.call (.ref f) args) (CR CX outer P w H s Q E) s
def vU.mono{P:iQ}{w:jf}{K:hO}{c:Str->Option ci}{a:ja}{d:Qe}{j k:Nat}{f:hJ}{e:iX}{g:List Str}{i:Sp}(F:vU P w K c a d j f e g i)(h:j<=k) :
  vU P w K c a d k f e g i:=#[F.len,λA b s H args l m Q E n=>F.run A b s H args l m Q E<|n.mono h]
def vU.imp{P:iQ}{w:jf}{K:hO}{e:Str->Option ci}{a:ja}{g:Qe}{k:Nat}{f:hJ}{i:iX}{j:List Str}{l d:Sp}(F:vU P w K e a g k f i j l)
  (h:∀c H Q E,d c H Q E->l c H Q E):vU P w K e a g k f i j d :=
 #[λc H Q E q=>F.len c H Q E<|h _ _ _ _ q,λA b s H args m c Q E n o p r t=>F.run A b s H args m c Q E n o p r<|h _ _ _ _ t]
def Jz.make{P:iQ}{w:jf}{K:hO}{c:Str->Option ci}{b:ja}{A:jN}{a:List Env}{s:ic}{H:Hp}(e:Jz P w K c b A a s H)(C:hJ)(d:List ci)(f:List (Str×ci)) :
  Jz P w K c b (A.under<|.builtin "type.__call__" #[.ref C::d,f]) a s H:=#[by first|exact e.frames|(simpa[sk,Code.envs,sR,pushEnvs] using e.frames),e.mod,e.bs,e.Jo,e.yT,e.Kz,e.v0,e.bare]
def Inv.JA(I:Inv X a b H s):Jz X.prog X.w X.K X.mg X.base X.A X.stack s H :=
 #[I.ok.frames,I.ok.mod,I.bs,iP I.ok.Jo I.sz,I.stack,I.MV,I.v0,I.bare]
def Inv.after(I:Inv X a j H s)(h:CE X.stack X.prog X.w H s Q u i):EP X a j Q u i:=by obtain⟨v,k,l,c,m,e,r,q⟩:=h;obtain⟨n,g,d,t,f⟩:=i;obtain rfl:f=s.os:=l;exact#[v,k,I.call (h':=n) (g':=g) (d':=d) (t':=t) (ch:=[]) m e c<|λb z=>iq z q0o,r,q]
def Z4(b:Sp)(a:List V)(E:XK)(t:TA):TE:=λc H Q=>t c H λd e=>b (d++a) e Q E
def Gx(C:hJ)(m:Str)(f:Sp)(b:List V)(E:XK)(g:TE)(t:TA):TE:=λc H Q=>g c H λx d=>∃a h e,x=.ref a/\d a=↑(.ins C h e)/\e.lookup m=none /\
 t c d λi j=>f (x::(i++b)) j Q E
def Z5(C:hJ)(d:Sp)(b:List V)(E:XK)(t:TA):TE:=λe H Q=>t e H λf c=>∀x a,c x=none->c a=none->a≠x ->
 d (.ref x::(f++b)) (upd (upd c a<|.own x) x<|.ins C a []) (λv g=>v=.wW/\Q (.ref x) g) E
def Binds(K:hO)(d:iX)(b:List Str)(c:List ci):Prop :=
 ∀(s:ic)(a:List ci),K.In s.heap->(a++c).length=b.length->sS s d #[a,[]] (b.zip<|a++c)
def Binds.all{K:hO}{b:List Str}(h:∀a:List ci,a.length=b.length->tq d #[a,[]]=pure (b.zip a)):Binds K d b []:=λs a _ c=>by rw[kY]at c ⊢;exact .of_eq<|h a c
def Passes(c:Qe)(X:Cx)(E:XK):Prop:=∀(a:List (hJ×Obj)) (d:St) (H:Hp) (s:ic) (e:ci) (b:ic),Inv X a d H s->c X.stack H s E e b->X.xe e b
def K3(F:vU X.prog X.w X.K X.mg X.base l k f m g n)(o:wM k X.A)(p:Binds X.K m g d)(q:Vals b d)(t:Passes l X E)
 (I:Inv X a i H s)(r:Vals vs us)(h:n (vs++b) H Q E):ii 58 X.A (call (.ref f) us) (EP X a i Q) X.xe s:=by
  have j:Vals (vs++b) (us++d):=r.append q
  have v:(us++d).length=g.length:=by rw[<- j.length];exact F.len _ _ _ _ h
  refine m8<|kh (F.run X.A X.stack s H ⟨us,[]⟩ (us++d) (vs++b) Q E o I.JA (p s us I.y9 v) j h) λr x c=>?_
  cases r with
  |error e=>exact t a i H s e x I c
  |ok y =>
    cases y with
    |ret u=>exact I.after c
    |next=>exact iR c
    |brk=>exact iR c
    |cont=>exact iR c
def UA(F:vU X.prog X.w X.K X.mg X.base j k f l m n)(o:wM k X.A)(u:Gl X x)(v:X.mg x=↑(.ref f))(y:jz X.K (.ref f)=true)(z:Binds X.K l m B)(C:Vals c B)(D:Passes j X E)
 (G:PA X (e::b) t) (d:(x==70)=false:=by decide) (J:hR (e::b) X.env=71::hR b X.env:=by rfl) (g:(jE pos<|hR b X.env).any (·.1)=false:=by rfl) :
    PE X (.Call (.Name x p) (e::b) [] pos) (Z4 n c E t):=by
  intro a s L H Q I h
  refine kZ<|zN I u v ?_ d
  refine qb (h₀:=X.base) I.ok.mod.B3 y (vX (G pos a s L H _ I h) λN O M=>e2a3 M λP R i r q=>#[i.y9,?_]) J g
  exact K3 F o z C D i r q
def UB{v:Sem Bool}(J:PE X o L)(c:Bw X.K C)(y:Meth X.K C m f)(F:vU X.prog X.w X.K X.mg X.base M k f N O P)(R:wM k X.A)(S:Binds X.K N O T)(hd:Vals i T)(U:Passes M X E)(Y:PA X (e::d) t)
  (j:hR (e::d) X.env=71::hR d X.env:=by rfl) (n:(jE pos<|hR d X.env).any (·.1)=false:=by rfl)
  (ht:eval (.Call (.Attribute o m apos) (e::d) [] pos) X.env=(do
   let z <- eval o X.env
   nA apos.atName
   let (f,first) <- lm [z] (m9 z m v)
   n6 pos f first (jE pos (hR (e::d) X.env)) (nC pos (lp [] X.env))):=by rfl) :
  PE X (.Call (.Attribute o m apos) (e::d) [] pos) (Gx C m P i E L t):=by
 intro b s B H Q I h;refine oZ (pl:=v) (vX (J b s B H _ I h) λu Z p=>e2a3 p λx H1 D rx g=>e3a4 g λa dx fs ex ea l q=>?_) ht;subst ex;obtain rfl:u=iA a:=rx;refine BP D ea c y l ?_;refine qb (first:=[.ref a]) (h₀:=X.base) I.ok.mod.B3 y.kp (vX (Y pos b Z B H1 _ D q) λus s2 p=>e2a3 p λvs H2 G r q2=>#[G.y9,?_]) j n
 exact K3 (us:=.ref a::us) (vs:=.ref a::vs) F R S hd U G (.cons rfl r) q2
def Qf(n:PE X o p)(c:Bw X.K C)(i:Meth X.K C m f)(F:vU X.prog X.w X.K X.mg X.base r k f t v y)(z:wM k X.A)(B:Binds X.K t v D)(hd:Vals e D)(G:Passes r X E)
 (ht:eval (.Call (.Attribute o m apos) [] [] pos) X.env=(do
 let j <- eval o X.env
 nA apos.atName
 let (f,first) <- lm [j] (m9 j m J)
 n6 pos f first (jE pos (hR [] X.env)) (nC pos (lp [] X.env))):=by rfl) :
    PE X (.Call (.Attribute o m apos) [] [] pos) (Gx C m y e E p BQ):=by
  intro b s L H Q I h
  refine oZ (pl:=J) (vX (n b s L H _ I h) λu R M=>e2a3 M λx H1 g N d=>e3a4 d λa S fs O P l q=>?_) ht
  subst O
  obtain rfl:u=iA a:=N
  refine BP g P c i l ?_
  exact sT (first:=[.ref a]) g.y9 i.kp<|K3 (us:=[.ref a]) (vs:=[.ref a]) F z B hd G g (.cons rfl .nil) q
structure Mk(K:hO)(C f:hJ):Prop where
 makes:qP K C=true
 init:iN K (.ref C) "__init__"=↑(some<|.ref f)
 fn:oQ K (.ref f)=true
 kp:jz K (.ref C)=true
def Qg(M:Mk X.K C f)(F:vU X.prog X.w X.K X.mg X.base p k f q j t)(y:wM (k+1) X.A)(z:Binds X.K q j d)(B:Vals c d)
 (D:Passes p X E) (I:Inv X b l H s) (r:Vals m us)
 (h:∀x g,H x=none->H g=none->g≠x->t (.ref x::(m++c)) (upd (upd H g<|.own x) x<|.ins C g []) (λv G=>v=.wW/\Q (.ref x) G) E) :
    ii 58 X.A (call (.ref C) us) (EP X b l Q) X.xe s:=by
  have n:=h (⇑s+1) ⇑s (I.v0.fresh<|mh _) (I.v0.fresh<|hV _)<|iu<|jM _
  have i:=Inv.made (C:=C) I
  have o:Vals (V.ref (⇑s+1)::(m++c)) (iA (⇑s+1)::(us++d)):=.cons rfl<|r.append B
  have J:(iA (⇑s+1)::us++d).length=j.length:=by
    have e:=o.length
    rw[F.len _ _ _ _ n]at e
    exact e.symm
  refine m8 (Qb (f:=f) I.y9 M.makes M.init (beq_iff_eq.mp M.fn) (kh (F.run _ X.stack _ _ #[iA (⇑s+1)::us,[]] (iA (⇑s+1)::(us++d)) _ _ E (y.make C us [])
    (i.JA.make C us []) (z _ (iA (⇑s+1)::us) i.y9 J) o n) λr L a=>?_))
  cases r with
  |error e=>exact D b l _ _ e L i a
  |ok N =>
    cases N with
    |ret u =>
      refine e2a4 (i.after a) λv O P R S T=>?_
      subst S
      exact#[R,#[V.ref<|⇑s+1,O,P,rfl,T]]
    |next=>exact iR a
    |brk=>exact iR a
    |cont=>exact iR a
def Qh(M:Mk X.K C f)(F:vU X.prog X.w X.K X.mg X.base d k f e g i)(j:wM (k+1) X.A)(l:Gl X x)(m:X.mg x=↑(.ref C))(n:Binds X.K e g o)(q:Vals a o)(r:Passes d X E)
 (b:(x==70)=false:=by decide):PE X (.Call (.Name x p) [] [] pos) (Z5 C i a E BQ):=by
  intro c s t H Q I h
  refine kZ<|zN I l m ?_ b
  exact sT I.y9 M.kp<|Qg (us:=[]) M F j n q r I .nil h
def PK(X:Cx)(b:List qc)(t:TA):Prop :=
 ∀(c:Pos) (a:List (hJ×Obj)) (s:ic) (d:St) (H:Hp) (Q:List V->Hp->Prop),Inv X a d H s->t d H Q->ii 58 X.A (evalAll ((nC c<|lp b X.env).map (·.2))) (AP X a d Q) X.xe s
structure vp(N P:List Str)(sc:mB):Prop where
 kind:sc.kind=.function
 co:sc.isCoroutine=false
 gen:sc.isGenerator=false
 nd:N.Nodup
 pre:N.take P.length=P
 par:∀x∈P,sc.names.lookup x=some .local\/sc.names.lookup x=some .cell
 Ya:∀y∈sc.names,y.2≠.free
def Gy{b:Str->Option NameKind}:∀{a:List (Str×ci)} {m:Str->Option ci},(∀v,(x,v)∉a)->bindL b a m x=m x
 | [],_,_=>rfl
 | (n,v)::r,m,h=>by
  unfold bindL;rw[Gy λw c=>h w<|hZ _ c];split
  ·have:x≠n:=by rintro rfl;exact h v hW
   simp[this]
  ·rfl
def Gz{b:Str->Option NameKind}:∀{a:List (Str×ci)} {m:Str->Option ci},(∀v,(x,v)∉a)->bindC b a m x=m x
 | [],_,_=>rfl
 | (n,v)::r,m,h=>by
  unfold bindC;rw[Gz λw c=>h w<|hZ _ c];split
  ·rfl
  ·have:x≠n:=by rintro rfl;exact h v hW
   simp[this]
def On{a:Str->Option NameKind}:∀{P:List Str} {b:List ci} {i:Nat} {m:Str->Option ci},P.Nodup->P[i]?=↑x->b[i]?=↑v->a x=some .local ->
  bindL a (P.zip b) m x=↑v:=by
 intro P
 induction P with
 |nil=>intro _ _ _ _ h;simp at h
 |cons p P g =>
  intro b i m e d c f
  cases b with
  |nil=>simp at c
  |cons w b =>
  cases i with
  |zero =>
   simp at d c;subst d;subst c;show bindL a ((p,w)::P.zip b) m p=_;unfold bindL;rw[Gy λv j=>(List.nodup_cons.mp e).1 (pA j).1,cr f];simp
  |succ i =>
   exact g (i:=i) (List.nodup_cons.mp e).2 (by simpa using d) (by simpa using c) f
def Oo{a:Str->Option NameKind}:∀{P:List Str} {b:List ci} {i:Nat} {m:Str->Option ci},P.Nodup->P[i]?=↑x->b[i]?=↑v->a x≠some .local ->
  bindC a (P.zip b) m x=↑v:=by
 intro P
 induction P with
 |nil=>intro _ _ _ _ h;simp at h
 |cons p P g =>
  intro b i m e d c f
  cases b with
  |nil=>simp at c
  |cons w b =>
  cases i with
  |zero =>
   simp at d c;subst d;subst c;show bindC a ((p,w)::P.zip b) m p=_;unfold bindC;rw[Gz λv j=>(List.nodup_cons.mp e).1 (pA j).1,hI f];simp
  |succ i =>
   exact g (i:=i) (List.nodup_cons.mp e).2 (by simpa using d) (by simpa using c) f
noncomputable def start(N:List Str)(a:List V):St:=a.map some++lu (N.length-a.length) none
noncomputable def wd(CX:Qe)(P:iQ)(w:jf)(K:hO)(mg:Str->Option ci)(base:ja)(N:List Str)(qual:Str)(scope:mB)(f:hJ)(cd:ci)(A:jN)(outer:List Env)(s:ic)(H:Hp)(E:XK):Cx where
 prog:=P
 w:=w
 K:=K
 mg:=mg
 base:=base
 A:=A.deeper<|oY qual scope ⇑s f cd
 N:=N
 s₀:=s
 H₀:=H
 env:=oY qual scope ⇑s f cd
 outer:=outer
 stack:=oY qual scope ⇑s f cd::outer
 ex:=[]
 calm:=true
 fn:=λ_=>true
 pn:=[]
 xe:=λe s'=>ii (ij P w) (A.deeper<|oY qual scope ⇑s f cd) (uI (oY qual scope ⇑s f cd) e) (λ_ UC=>CX outer H s E e UC) (λe' UC=>CX outer H s E e' UC) s'
def JB{a:mB}{n:Nat}(h:a.names.lookup x=some .cell):∃c,(cellsFrom n a.names []).lookup x=↑c:=by have q:=sd a.names n []<|.inl h;exact Option.isSome_iff_exists.mp q
def Op{K:hO}{A:jN}{o:List V}
 (S:vp N C d) (R:A.handled=none) (m:Jz P w K L base A j s H) (hl:o.length=C.length) (r:Vals o M)
 (x:InCallC s ⇑s (bindL (oY l d ⇑s f J).kindOf (C.zip M) λ_=>none) (cellsFrom (⇑s+1) d.names []) (bindC (oY l d ⇑s f J).kindOf (C.zip M) λ_=>none) T) :
    Inv (wd U P w K L base N l d f J A j s H E) [] (start N o) H T:=by
  have X:C.length<=N.length:=by have:=congrArg oF S.pre;rw[mj]at this;lia
  obtain⟨G,tk,rfl,O⟩:=x.done
  have t:∀b:hJ,b∉(wd U P w K L base N l d f J A j s H E).ex:=λb z=>iq (show b∈([]:List hJ) from z) q0o
  refine#[#[m.mod,S.kind,rfl,rfl,hV _,λy z c G g=>?_,λy B=>?_,λy c _ h=>?_,λ_=>R,sU m.frames,.inr #[rfl,rfl],λb z=>iq z (t b),m.bs,m.Jo,λb _ _=>t b,λb z=>iq z (t b),m.yT,m.Kz],
    rfl,m.bare,Un.kept O,#[_,x.toInCall.ns,λi y v G g h3=>?_],λy c h=>#[_,x.cell y c h],m.v0.fresh (hV _),λy c h=>?_,λp D=>iq (show p∈([]:List (hJ×Obj)) from D) q0o,m.v0.kept O,?_]
  · exact name_of_addr x.apart (kD G)<|kD g
  · have B : d.names.lookup y = some .cell \/ d.names.lookup y = some .free := B
    rcases B with B|B
    · exact JB B
    · exact iq rfl<|S.Ya _<|kD B
  · exact mn<|x.above y c<|kD h
  · have I : i<o.length := by
      unfold start at g
      by_cases I:i<o.length
      · exact I
      · rw[kg<|by simpa using I]at g
        rw[sK]at g
        split at g<;>cases g
    have Y:o[i]?=↑v:=by
      unfold start at g
      rw[mo (by simpa using I),jU]at g
      cases e:o[i]? with
      |none=>rw[e]at g;cases g
      |some a=>rw[e]at g;cases g;rfl
    refine e1a2 (r.get Y) λu Q Z=>?_
    have D:C[i]?=↑y:=by
      rw[<- S.pre,sr q0a];exact G
    have F:C.Nodup:=by rw[<- S.pre];exact S.nd.sublist<|uJ _ _
    refine#[u,Z,?_]
    rcases S.par y (j0 D) with k|k
    · exact .inl #[k, On F D Q k]
    · obtain⟨c, e⟩ := JB (n := ⇑s+1) k
      refine .inr #[.inl k,c,e,?_]
      have q:=x.cell y c e
      rw[Oo F D Q<|by show d.names.lookup y≠_;rw[k];decide]at q
      exact q
  · exact m.v0.fresh<|mn<|x.above y c<|kD h
  · unfold start
    show _=N.length
    rw[io,h8,ts]
    lia
def JC{K:hO}{k:Nat}{Z:ci} 
 (lk:K.lookup f=some #[oc,od,.func<|jS name d h body a dV Z G pm an g ct,aa]) (L:jJ K g d=true) (S:vp N M a)
 (B:∀i H Q E,sp i H Q E->i.length=M.length)
 (m:∀(A:jN)(c:List Env)(s:ic)(H:Hp)(i:List V)(Q:VK)(E:XK),wM k (A.deeper (oY d a ⇑s f g))->sp i H Q E ->
 ∃t,FX (wd O P w K R base N d a f g A c s H E) body t/\t { nx:=λ_ l=>Q .wW l,rt:=Q} (start N i) H) :
    vU P w K R base O (k+1) f (jS name d h body a dV Z G pm an g ct) M sp:=by
  refine#[B,λA c s H args us i Q E T C hb r D=>?_]
  have hl:=B _ _ _ _ D
  have KX:K.In s.heap:=C.mod.B3.keeps λb o e=>(C.bs b o e).1
  have U:s.heap.NoLimit:=C.mod.nolimit.keeps λb o e=>(C.bs b o e).1
  have p:∀y∈M.zip us,a.names.lookup y.1=some .local\/(a.names.lookup y.1=some .cell/\((cellsFrom (⇑s+1) a.names []).lookup y.1).isSome=true):=λ⟨n,v⟩ hy=>by
    rcases S.par n (pA hy).1 with q|q
    · exact .inl q
    · exact .inr #[q, sd _ _ _<|.inl q]
  refine codeAny_call_function T.depth (KX _ _ lk) rfl S.co S.gen rfl (tz KX L)<|hb _ _ _ _ ?_
  refine wpAny_newFunctionEnv_cells S.kind p λab he s1 x=>?_
  subst he
  refine#[U.keeps x.toInCall.keep,codeAny_func ?_]
  refine e1a2 (m A c s H i Q E (T.deeper _) D) λt ht hq=>?_
  have I:Inv (wd O P w K R base N d a f g A c s H E) [] (start N i) H s1:=Op S T.hd C hl r x
  refine jr (ht [] s1 (start N i) H _ I hq) (λfl X z=>?_) λe X z=>z
  have F:∀{j:St} {l:Hp} {v:V} {u:ci},Inv (wd O P w K R base N d a f g A c s H E) [] j l X->RelV v u->Q v l->CE c P w H s Q u X :=
    λ{j l v u} J Y q=>#[v,l,J.os,J.bare,J.base,J.v0,Y,q]
  cases fl with
  |ret u =>
    obtain⟨v,j,l,J,Y,q⟩:=z
    exact F J Y q
  |next =>
    refine e2a2 z λj l J q=>?_
    exact F (v:=V.wW) (u:=Value.none) J rfl q
  |brk =>
    refine e2a2 z λ_ _ _ q=>?_
    exact iR q
  |cont =>
    refine e2a2 z λ_ _ _ q=>?_
    exact iR q
section
variable{X:Cx}{x:Str}{p pos:Pos}{e:iZ}{es:List iZ}{t:TA}{id T:String}{r:List V->Hp->VK->Prop}
def tCB(r:List V->Hp->VK->Prop)(t:TA):TE:=λa H Q=>t a H λb c=>r b c Q
def wZ(d:zc X (.builtin id) r)(f:Gl X x)(g:X.mg x=none)(i:ny x=↑(.builtin id))(j:PA X (e::es) t)(k:x≠"__name__":=by decide)(b:(x==70)=false:=by decide)
 (he:hR (e::es) X.env=71::hR es X.env:=by rfl) (hpl:(jE pos<|hR es X.env).any (·.1)=false:=by rfl):PE X (.Call (.Name x p) (e::es) [] pos) (tCB r t):=by
  intro a s c H Q I h
  refine kZ<|zO I f g i ?_ k b
  exact pV (vX (j pos a s c H _ I h) λl m n=>e2a3 n λo q u v w=>d a m c q o l Q u v w) he hpl
def xU(f:zc X (.type T) r)(g:Gl X x)(i:X.mg x=none)(j:ny x=↑(.type T))(k:PA X (e::es) t)(l:x≠"__name__":=by decide)(b:(x==70)=false:=by decide)
 (he:hR (e::es) X.env=71::hR es X.env:=by rfl) (c:(jE pos<|hR es X.env).any (·.1)=false:=by rfl):PE X (.Call (.Name x p) (e::es) [] pos) (tCB r t):=by
  intro a s d H Q I h
  refine kZ<|zO I g i j ?_ l b
  exact ku (vX (k pos a s d H _ I h) λm n o=>e2a3 o λq u v w y=>f a n d u q m Q v w y) he c
def K4(c:zc X (.type T) r)(d:Gl X x)(f:X.mg x=none)(g:ny x=↑(.type T))(i:x≠"__name__":=by decide)(b:(x==70)=false:=by decide) :
  PE X (.Call (.Name x p) [] [] pos) (tCB r BQ):=by
 intro a s j H Q I h;refine kZ<|zO I d f g ?_ i b;exact PyProof.Rows.callWith_type0<|c a s j H [] [] Q I .nil h
end
end L2
namespace HT
open PySem PyProof.Rows
noncomputable def xu(n d:Nat):Option Int->Nat
 |none=>d
 |some v=>if v<0 then (v+(n:Int)).toNat else min v.toNat n
def JD(n d:Nat):xu n d none=d:=rfl
def M3(n d k:Nat):xu n d ↑(k:Int)=min k n:=by show (if (k:Int)<0 then ((k:Int)+(n:Int)).toNat else min (k:Int).toNat n)=min k n;rw[hI q0a,lX]
def a2n(n d:Nat)(b:d<=n)(o:Option Int):xu n d o<=n:=by
 cases o with
 |none=>exact b
 |some v =>
  show (if v<0 then (v+(n:Int)).toNat else min v.toNat n)<=n;by_cases a:v<0
  ·rw[cr a];lia
  ·rw[hI a];exact Nat.min_le_right _ _
def M4(v:Int)(n d:Nat):(if v<0 then max (v+(n:Int)) 0 else min v (n:Int))=((xu n d ↑v:Nat):Int):=by
 show (if v<0 then max (v+(n:Int)) 0 else min v (n:Int))=(((if v<0 then (v+(n:Int)).toNat else min v.toNat n):Nat):Int);by_cases a:v<0
 ·simp only[cr a];lia
 ·simp only[hI a];lia
def K5(lo a:Option Int)(n:Nat):qw lo a 1 (n:Int)=(((xu n 0 lo:Nat):Int),((xu n n a:Nat):Int)):=by
 refine Prod.ext ?_ ?_
 ·cases lo with
  |none=>rfl
  |some v=>exact M4 v n 0
 ·cases a with
  |none=>rfl
  |some v=>exact M4 v n n
def K6(i j:Nat):lK (i:Int) (j:Int) 1=j-i:=by unfold lK;split<;>lia
def Ex(p:qy v o)(h:Q o s):ii (ij a w) A (Builtin.Slice.slicePartIndex v) Q E s:=by
 cases p with
 |none=>exact slicePart_none h
 |int i t=>exact slicePart_int h
def zv{lo:Option Int}{n:Nat}(g:s.heap.IsSliceOf sl d e .none)(i:qy d lo)(j:qy e c)
 (h:Q (((xu n 0 lo:Nat):Int),1,xu n n c-xu n 0 lo) s):ii (ij f w) A (Builtin.Slice.sliceApplied (.ref sl)<|pure (n:Int)) Q E s:=by
  refine e1a3 (id g) λos a k b=>?_
  refine am<|am<|jt a b (x:=d) rfl<|am<|jt a b (x:=e) rfl<|am<|jt a b (x:=.none) rfl<|ap ?_
  refine am<|slicePart_none ?_
  rw[hI q0q]
  refine am<|Ex i<|am<|Ex j<|am<|ap ?_
  show ii _ _ (match qw lo c 1 (n:Int) with|(lo,c)=>pure (lo,(1:Int),lK lo c 1)) _ _ s
  rw[K5 lo c n]
  show ii _ _ (pure (((xu n 0 lo:Nat):Int),(1:Int),lK ((xu n 0 lo:Nat):Int) ((xu n n c:Nat):Int) 1)) _ _ s
  rw[K6]
  exact ap h
def Qi(a:Array ci)(i k:Nat):((iG k).filterMap λ(m:Nat)=>a[((i:Int)+(m:Int)*1).toNat]?).toArray=((a.toList.drop i).take k).toArray:=by
 have e:(λ(m:Nat)=>a[((i:Int)+(m:Int)*1).toNat]?)=λm=>a[i+m]?:=by
  funext m
  have:((i:Int)+(m:Int)*1).toNat=i+m:=by lia
  rw[this]
 rw[e];have:=pick_run a i k;rw[uo]at this;have b:((λx=>a[x]?)∘λx=>i+x)=λm=>a[i+m]?:=rfl;rw[b]at this;rw[this]
def B7{t sl:hJ}{items:Array ci}{vl vu:ci}{lo hi:Option Int}{Q:ci->ic->Prop}(ht:IsTup s.heap t items)(hs:s.heap.IsSliceOf sl vl vu .none)(pl:qy vl lo)(pu:qy vu hi)
  (hw:¬(xu items.size 0 lo=0/\xu items.size items.size hi=items.size))
  (h:Q (.ref ⇑s) { s with heap:=s.heap.push { cls:=.type "tuple",data:=.seq (106).toArray}})
  (hsz:items.size<=hX):ii (ij prog w) A (oE (.ref t)<|.ref sl) Q E s:=by
 have M5:sizeOk (.seq (106).toArray):=by show (106).toArray.size<=hX;rw[im,mj,nq,ig];omega
 refine e1a3 (id hs) λos hos hcs hds=>?_;have hTs:s.TypeIs (.ref sl) "slice":=#[os,hos,hcs];unfold oE
 try with_reducible refine iT ?_
 first|refine am (ap ?_)|skip
 refine am<|wpAny_sequenceKey ht.typeIs q0q ?_
 refine am (wpAny_callSpecial?_slot (name:=mq "__getitem__") ht.typeIs kQ
  (jg kQ ht.typeIs entry_tuple_getitem ?_ (args_tuple_getitem _ _)))
 show ii _ _ (qr (.ref t) >>= _) _ _ s;refine am<|tupleItemsOf_ ht ?_;refine am<|lq hTs ?_;rw[cr q0q];refine am<|zv hs pl pu ?_
 have hno:¬((((xu items.size 0 lo:Nat):Int)==0&&(1:Int)==1&&(xu items.size items.size hi-xu items.size 0 lo)==items.size)=true):=by intro q;rw[i7,i7]at q;have q1:((xu items.size 0 lo:Nat):Int)=0:=eq_of_beq q.1.1;have q2:xu items.size items.size hi-xu items.size 0 lo=items.size:=eq_of_beq q.2;exact hw #[q0d,q0d]
 show ii _ _ (if (((xu items.size 0 lo:Nat):Int)==0&&(1:Int)==1&&(xu items.size items.size hi-xu items.size 0 lo)==items.size)=true then _ else _) _ _ s;rw[hI hno,Qi]
 first
  | exact am (m:=lR _)<|i8 (ap #[_,rfl,ap h]) M5
  | exact am (m:=lR _)<|i8 (am<|ap<|ap #[_,rfl,ap h]) M5
  | exact am<|am (m:=lR _)<|i8 (ap<|ap #[_,rfl,ap h]) M5
  | exact am<|am (m:=lR _)<|i8 (ap #[_,rfl,ap h]) M5
end HT
namespace L2
open PySem PySem.Spec PyProof.Rows
abbrev TO:=St->Hp->(Option Int->Hp->Prop)->Prop
def PO(X:Cx)(e:Option iZ)(t:TO):Prop :=
 ∀(a:List (hJ×Obj)) (s:ic) (b:St) (H:Hp) (Q:Option Int->Hp->Prop),Inv X a b H s->t b H Q ->
  ii 58 X.A (evalPart e X.env) (λu d=>∃o c,Inv X a b c d/\qy u o/\Q o c) X.xe s
def UD:TO:=λ_ H Q=>Q none H
def Z6(t:TE):TO:=λa H Q=>t a H λx b=>∃i,x=.int i/\Q ↑i b
def intsAre_of{a:List Int}:∀{b:List ci},Vals (a.map V.int) b->lF b a:=by
 induction a with
 |nil=>intro b r;rw[pf]at r;cases r;exact .nil
 |cons n a c =>
  intro b r;rw[iJ]at r
  cases r with
  |cons d f =>
   obtain⟨t,e⟩:=d;subst e;exact .cons n t<|c f
section
variable{X:Cx}{e:iZ}{te:TE}{lo hi:Option iZ}{tl th:TO}{pos p2:Pos}
def DX:PO X none UD:=by intro a s b H Q I h;rw[ue];exact ap #[none,H,I,.none,h]
def DY(h:PE X e te):PO X ↑e (Z6 te):=by intro a s b H Q I c;rw[evalPart_some];refine vX (h a s b H _ I c) λu l d=>e2a3 d λx f g j k=>?_;obtain⟨i,rfl,q⟩:=k;obtain⟨t,rfl⟩:=j;exact#[↑i,f,g,.int i t,q]
def W3(X:Cx)(r:V->Option Int->Option Int->Hp->VK->Prop):Prop :=
 ∀(a:List (hJ×Obj)) (s:ic) (b:St) (H:Hp) (x:V) (v c d:ci) (lo hi:Option Int) (f:hJ) (Q:VK),Inv X a b H s->RelV x v->s.heap.IsSliceOf f c d .none->qy c lo->qy d hi->r x lo hi H Q ->
  ∃T g,nW (.type T) "__getitem__"=pure (some<|.builtin g)/\s.TypeIs v T/\ii 58 X.A (oE v<|.ref f) (EP X a b Q) X.xe s
def W3.or(h:W3 X r)(l:W3 X m):W3 X (λx lo hi H Q=>r x lo hi H Q\/m x lo hi H Q):=by
 intro a s b H x v c d lo hi f Q I g i j k q;rcases q with q|q
 ·exact h a s b H x v c d lo hi f Q I g i j k q
 ·exact l a s b H x v c d lo hi f Q I g i j k q
def tSl(r:V->Option Int->Option Int->Hp->VK->Prop)(te:TE)(tl th:TO):TE:=λa H Q=>te a H λx b=>tl a b λl c=>th a c λu d=>r x l u d Q
def Ay(k:W3 X r)(m:PE X e te)(n:PO X lo tl)(o:PO X hi th):PE X (.Subscript e (.Slice lo hi none p2) pos) (tSl r te tl th):=by intro a s d H Q I h;refine tD<|vX (m a s d H _ I h) λv p f=>e2a3 f λx t w y z=>?_;refine wpAny_Slice<|vX (n a p d t _ w z) λg A f=>e2a3 f λl B C D E=>vX (o a A d B _ C E) λi c f=>e2a3 f λu j F G J=>?_;rw[ue];refine ap ?_;have L:Inv X a d j { c with heap:=c.heap.push { cls:=.type "slice",data:=.fields #v[g,i,.none]}}:=F.kept (t':=c.toks) λb P q=>ce _ q;obtain⟨T,R,M,N,O⟩:=k a { c with heap:=c.heap.push { cls:=.type "slice",data:=.fields #v[g,i,.none]}} d j x v g i l u ⇑c Q L y (rD ..) D G J;exact tail_any (ops:=[.ref ⇑c,v]) N M O (by with_unfolding_all rfl)
noncomputable def Ey(a:List V)(lo hi:Option Int):List V:=(a.drop<|HT.xu a.length 0 lo).take<|HT.xu a.length a.length hi-HT.xu a.length 0 lo
def DD(a:List V)(lo hi:Option Int):(Ey a lo hi).length<=a.length:=by unfold Ey;rw[mj,nq];omega
def a2o(K:hO):V->Option Int->Option Int->Hp->VK->Prop:=λx lo hi H Q=>∃a b,x=.ref a/\zu K H a b /\
 ¬(HT.xu b.length 0 lo=0/\HT.xu b.length b.length hi=b.length)/\∀p,H p=none->Q (.ref p) (upd H p<|.tup<|Ey b lo hi)
def Yb:W3 X (a2o X.K):=by
 intro g s u H x v w y lo hi z Q I k l m n h;obtain⟨a,d,rfl,p,t,q⟩:=h;cases k;refine e1a3 (I.tuple p) λf r i j=>?_;have c:f.toArray.size=d.length:=by rw[im];exact r.length.symm
 refine#["tuple",_,PyProof.Rows.slot_tuple_getitem.lookup,i.typeIs,?_];refine HT.B7 i l m n (by rw[c];exact t) ?_ (by rw[c];exact j);rw[c];refine#[.ref ⇑s,_,I.laid (t':=s.toks) (o:=.tup<|Ey d lo hi) (λb A q=>ce _ q) (hV _) ?_,rfl,q _<|I.v0.fresh<|hV _];exact#[iP (DD d lo hi) j,_,(r.drop<|HT.xu d.length 0 lo).take<|HT.xu d.length d.length hi-HT.xu d.length 0 lo,IsTup.new _ _]
end
noncomputable def W4(n:Nat)(i:Int):Option Nat:=if 0<=i then (if i<n then some i.toNat else none) else if -(n:Int)<=i then some (i+n).toNat else none
noncomputable def FZ{a:Type}(b:List a)(i:Int):Option a:=(W4 b.length i).bind λj=>b[j]?
def M6{n:Nat}{i:Int}{j:Nat}(h:W4 n i=↑j):seqIndex? i n=↑j/\j<n/\-(n:Int)<=i/\i<n:=by
 unfold W4 at h;by_cases b:0<=i
 ·rw[cr b]at h;by_cases a:i<n
  ·rw[cr a]at h;have e:i.toNat=j:=jj h;exact#[by rw[seqIndex_of b a,e],q0a,q0a,a]
  ·rw[hI a]at h;cases h
 ·rw[hI b]at h;by_cases a:-(n:Int)<=i
  ·rw[cr a]at h;have e:(i+n).toNat=j:=jj h;exact#[by rw[uK q0a a,e],q0a,a,q0a]
  ·rw[hI a]at h;cases h
def M7{α:Type}{xs:List α}{i:Int}{v:α}(h:FZ xs i=↑v):∃j,seqIndex? i xs.length=↑j/\xs[j]?=↑v/\j<xs.length/\-(xs.length:Int)<=i/\i<xs.length:=by
 unfold FZ at h
 cases e:W4 xs.length i with
 |none=>rw[e]at h;cases h
 |some j =>
  rw[e]at h;obtain⟨h1,h2,h3,h4⟩:=M6 e;exact#[j,h1,h,h2,h3,h4]
def M8{α:Type}{xs:List α}{j:Nat}{v:α}(h:xs[j]?=↑v):FZ xs (j:Int)=↑v:=by
 have hj:j<xs.length:=(List.getElem?_eq_some_iff.mp h).1
 have e:W4 xs.length (j:Int)=↑j:=by unfold W4;rw[cr q0a,cr q0a];simp
 unfold FZ;rw[e];exact h
def M9(b:iZ):Prop:=∀o i,su b false o i=operate [o,i] (oE o i)
def IxR(X:Cx)(r:R2):Prop :=
 ∀(c a:iZ) (b:List (hJ×Obj)) (s:ic) (d:St) (H:Hp) (x y:V) (v u:ci) (Q:VK),Inv X b d H s->RelV x v->RelV y u->r x y H Q ->
  su a false v u=operate [v,u] (oE v u)->ii 58 X.A (subscriptTail c a v u) (EP X b d Q) X.xe s
def MtR(X:Cx)(e:String)(r:V->List V->Hp->VK->Prop):Prop :=
 ∀(a:List (hJ×Obj)) (s:ic) (b:St) (H:Hp) (x:V) (c:List V) (v:ci) (d:List ci) (Q:VK),Inv X a b H s->RelV x v->Vals c d->r x c H Q ->
  ii 58 X.A (call (.builtin e) (v::d)) (EP X a b Q) X.xe s
section
variable{X:Cx}
def yF(d:IxR X r)(e:PE X a f)(g:PE X b i)(j:M9 b):PE X (.Subscript a b pos) (ZB r f i):=by intro c s k H Q I h;exact tD<|X3 e g I h λv u l x y m n o p q=>d a b c l k m x y v u Q n o p q<|j _ _
def a2q(K:hO):R2:=λx y H Q=>∃p a i v,x=.ref p/\y=.int i/\wI K H p a/\FZ a i=↑v/\Q v H
def a2r(K:hO):R2:=λx y H Q=>∃p a i v,x=.ref p/\y=.int i/\zu K H p a/\FZ a i=↑v/\Q v H
def w8:IxR X (a2q X.K):=by
 intro value slice a s g H x y v u Q I n o h k;obtain⟨p,J,i,z,rfl,rfl,A,B,q⟩:=h;cases n;obtain⟨t,rfl⟩:=o;refine e1a3 (I.list A) λc r d L=>?_;obtain⟨j,b,C,M,D,E⟩:=M7 B;refine e1a2 (r.get C) λw l e=>?_;have F:=r.length;have N:=Ew;have fin:EP X a g Q w s:=#[z,H,I,e,q];by_cases m:0<=i
 ·have f:i.toNat=j:=by rw[seqIndex_of m E]at b;exact jj b
  exact item_listR d.isList m q0a (by rw[f];simpa using l) fin k
 ·have f:(i+(c.toArray.size:Int)).toNat=j:=by rw[uK q0a D]at b;rw[im,<- F];exact jj b
  exact uL (x:=w) d.isList.typeIs slot_list_getitem.lookup
   (wpAny_getItem_list_neg (Q:=λr G=>r=w/\EP X a g Q r G) d.isList q0a (by rw[im]<;>lia) q0a (by rw[f];simpa using l) #[rfl,fin]) k
def Qj:IxR X (a2r X.K):=by
 intro value slice a s c H x y v u Q I e f h g;obtain⟨p,D,i,z,rfl,rfl,k,l,q⟩:=h;cases e;obtain⟨t,rfl⟩:=f;refine e1a3 (I.tuple k) λm r d E=>?_;obtain⟨j,n,o,F,G,J⟩:=M7 l;refine e1a2 (r.get o) λw A b=>?_;have B:=r.length;have L:=Ew;have fin:EP X a c Q w s:=#[z,H,I,b,q]
 exact uL (x:=w) d.typeIs slot_tuple_getitem.lookup
  (getItem_tuple (j:=j) (Q:=λr C=>r=w/\EP X a c Q r C) d q0a q0a (by rw[im,<- B];exact n) (by simpa using A) #[rfl,fin]) g
def K8(a:List ci)(n j:Nat)(u:ci):Obj.mapSeq (·.setIfInBounds j u) 117={ cls:=.type "list",data:=.seq (a.set j u).toArray n}:=by simp[Obj.mapSeq]
def Inv.lst(I:Inv X b d H s)(h:H p=↑(.lst c)) :
  ∃(a:List ci)(n:Nat),Vals c a/\s.heap.get? p=some 117/\c.length<=hX:=by
 obtain⟨z,a,n,r,e⟩:=I.v0 p _ h;exact#[a,n,r,e,z]
def Inv.Yc{c a:List ci}{n g:Nat}(I:Inv X d k H s)(h:H p=↑(.lst v))
 (l:s.heap.get? p=some { cls:=.type "list",data:=.seq c.toArray n}) (i:f { cls:=.type "list",data:=.seq c.toArray n}={ cls:=.type "list",data:=.seq a.toArray g}) (r:Vals j a) (m:j.length<=hX) (t:Nat) :
    Inv X d k (upd H p<|.lst j) { s with heap:=s.heap.update p f,toks:=t}:=by
  have e:(s.heap.update p f).get? p=some { cls:=.type "list",data:=.seq a.toArray g}:=by
    rw[jd f l (by rw[i]<;>rfl),i]
  refine I.write (x:=p) (e:=p) (by rw[h];trivial) (.inl rfl) (λb u o q=>(iU _ _<|Ne.symm o).trans q) #[_,e] ?_
  exact#[m,a,g,r,e]
def Z7:V->V->V->Hp->(Hp->Prop)->Prop:=λo i v H Q=>∃p a k j,o=.ref p/\i=.int k/\H p=↑(.lst a)/\W4 a.length k=↑j/\Q (upd H p<|.lst<|a.set j v)
def set_list:XU X Z7:=by
 intro a s y H o i v F G u Q I z A B h;obtain⟨p,C,k,j,rfl,rfl,g,D,q⟩:=h;cases z;obtain⟨t,rfl⟩:=A;obtain⟨b,n,r,d,E⟩:=I.lst g;obtain⟨c,J,l,m⟩:=M6 D;have e:=r.length;have L:=Ew
 have w:Inv X a y (upd H p<|.lst<|C.set j v) { s with heap:=s.heap.update p (Obj.mapSeq (·.setIfInBounds j u))} :=
  I.Yc g d (K8 b n j u) (r.set B j) (by rw[mG];exact E) s.toks
 by_cases x:0<=k
 ·have f:k.toNat=j:=by rw[seqIndex_of x m]at c;exact jj c
  exact PySem.W.ki_setAt d x q0a (by rw[im,<- e];exact m) (by rw[f];exact#[_,w,q])
 ·have f:(k+(b.toArray.size:Int)).toNat=j:=by rw[uK q0a l]at c;rw[im,<- e];exact jj c
  exact PySem.W.ki_setBack d q0a (by rw[im,<- e];exact l) q0a (by rw[f];exact#[_,w,q])
def Hh(a b:Option Int)(n:Nat):(n8 a b none n).1=((HT.xu n 0 a:Nat):Int)/\(n8 a b none n).2.1=((HT.xu n n b:Nat):Int)/\(n8 a b none n).2.2=1:=by
 refine#[?_,?_,rfl]
 ·cases a with
  |none=>simp[n8,HT.xu]
  |some i =>
   simp only[n8,HT.xu,qH,show (1:Int)>0 by decide,if_true];by_cases h:i<0
   ·simp only[h,if_true]<;>lia
   ·simp only[h,pN]<;>lia
 ·cases b with
  |none=>simp[n8,HT.xu]
  |some i =>
   simp only[n8,HT.xu,qH,show (1:Int)>0 by decide,if_true];by_cases h:i<0
   ·simp only[h,if_true]<;>lia
   ·simp only[h,pN]<;>lia
def F7(a:List ci)(b c:Option Int):slicePick a.toArray b c none=((a.drop<|HT.xu a.length 0 b).take<|HT.xu a.length a.length c-HT.xu a.length 0 b).toArray:=by refine e0a3 (Hh b c a.toArray.size) λd e f=>?_;unfold slicePick;rw[d,e,f];simp only[sliceRange_one,pick_run,im]<;>rfl
def a2s(K:hO):V->Option Int->Option Int->Hp->VK->Prop:=λx c d H Q=>∃a b,x=.ref a/\wI K H a b/\∀p,H p=none->Q (.ref p) (upd H p<|.lst<|Ey b c d)
def DZ:W3 X (a2s X.K):=by intro g s u H x v w y e f z Q I j k l m h;obtain⟨a,c,rfl,n,q⟩:=h;cases j;refine e1a3 (I.list n) λp r i t=>?_;have d:=r.length;refine#["list",_,slot_list_getitem.lookup,i.isList.typeIs,?_];refine uf i.isList k l m .none q0o ?_ (by rw[im]<;>lia);rw[F7,<- d];refine#[.ref ⇑s,_,I.laid (t':=s.toks) (o:=.lst<|Ey c e f) (λb A q=>ce _ q) (hV _) ?_,rfl,q _<|I.v0.fresh<|hV _];exact#[iP (DD c e f) t,_,0,(r.drop<|HT.xu c.length 0 e).take<|HT.xu c.length c.length f-HT.xu c.length 0 e,il _ rfl]
noncomputable def B8:V->Bool
 | .wW=>true
 | .bl _=>true
 | .int _=>true
 | .str _=>true
 |_=>false
noncomputable def Uh:V->V->Bool
 | .wW,.wW=>true
 | .bl a,.bl b=>a==b
 | .bl a,.int b=>(if a then 1 else 0)==b
 | .int a,.bl b=>a==(if b then 1 else 0)
 | .int a,.int b=>a==b
 | .str a,.str b=>a==b
 |_,_=>false
def Yd(e:RelV y u)(c:RelV x v)(g:B8 y=true)(f:B8 x=true):SeqAt.EqAt A s u v (Uh y x):=by
 cases y with
 |wW =>
  cases e
  cases x with
  |wW=>cases c;exact SeqAt.EqAt.same _
  |bl b=>cases c;exact SeqAt.EqAt.none_bool b
  |int b=>obtain⟨t,rfl⟩:=c;exact SeqAt.EqAt.none_int b t
  |str b=>obtain⟨t,rfl⟩:=c;exact SeqAt.EqAt.none_str b t
  |_=>exact iq (show false=true from f) ik
 |bl a =>
  cases e
  cases x with
  |wW=>cases c;exact SeqAt.EqAt.bool_none a
  |bl b=>cases c;exact SeqAt.EqAt.bool_bool a b
  |int b=>obtain⟨t,rfl⟩:=c;exact SeqAt.EqAt.bool_int a b t
  |str b=>obtain⟨t,rfl⟩:=c;exact SeqAt.EqAt.bool_str a b t
  |_=>exact iq (show false=true from f) ik
 |int a =>
  obtain⟨d,rfl⟩:=e
  cases x with
  |wW=>cases c;exact SeqAt.EqAt.int_none a d
  |bl b=>cases c;exact SeqAt.EqAt.int_bool a d b
  |int b=>obtain⟨t,rfl⟩:=c;exact SeqAt.EqAt.int_int a d b t
  |str b=>obtain⟨t,rfl⟩:=c;exact si a d b t
  |_=>exact iq (show false=true from f) ik
 |str a =>
  obtain⟨d,rfl⟩:=e
  cases x with
  |wW=>cases c;exact SeqAt.EqAt.str_none a d
  |bl b=>cases c;exact SeqAt.EqAt.str_bool a d b
  |int b=>obtain⟨t,rfl⟩:=c;exact sj a d b t
  |str b=>obtain⟨t,rfl⟩:=c;exact SeqAt.EqAt.str_str a d b t
  |_=>exact iq (show false=true from f) ik
 |_=>exact iq (show false=true from g) ik
noncomputable def K9(x:V)(u:ci):Bool:=match u with
 | .none=>Uh .wW x
 | .bool b=>Uh (.bl b) x
 | .int i _=>Uh (.int i) x
 | .str z _=>Uh (.str z) x
 |_=>false
def Qk(r:RelV y u)(f:B8 y=true):K9 x u=Uh y x:=by
 cases y with
 |wW=>cases r;rfl
 |bl b=>cases r;rfl
 |int i=>obtain⟨t,rfl⟩:=r;rfl
 |str z=>obtain⟨t,rfl⟩:=r;rfl
 |_=>exact iq (show false=true from f) ik
def D6:∀{a:List V} {b:List ci},Vals a b->a.all B8=true->b.any (K9 x)=a.any λy=>Uh y x:=by
 intro _ _ z f
 induction z with
 |nil=>rfl
 |cons h t c =>
  rw[qt,i7]at f;rw[oM,oM,Qk h f.1,c f.2]
def Az(d:RelV x v)(e:B8 x=true):∀{b:List V} {c:List ci},Vals b c->b.all B8=true->∀u∈c,SeqAt.EqAt A s u v (K9 x u)
 |_,_,.nil,_=>λu a=>by cases a
 |y::b,u::c,.cons r t,f=>λg a=>by
  rw[qt,i7]at f;rcases List.mem_cons.mp a with rfl|a
  ·rw[Qk r f.1];exact Yd r d f.1 e
  ·exact Az d e t f.2 g a
noncomputable def inV(x:V)(a:List V):Bool:=a.any λy=>Uh y x
def rIn(K:hO)(b:Bool):R2:=λx y H Q=>∃p a,y=.ref p/\(wI K H p a\/zu K H p a)/\B8 x=true/\a.all B8=true/\Q (.bl<|if b then !inV x a else inV x a) H
def GB:Bv X (jO .In) (rIn X.K false):=by
 intro f s l H x y v u Q I g j h;obtain⟨p,m,rfl,b,i,c,q⟩:=h;cases j;rcases b with b|b
 ·refine e1a3 (I.list b) λa r d k=>?_;refine SeqAt.in_listAt (K9 x) d.isList (λw e=>Az g i r c w<|by simpa using e) #[.bl _,H,I,rfl,?_];rw[show a.toArray.any (K9 x)=a.any (K9 x) by simp,D6 r c];exact q
 ·refine e1a3 (I.tuple b) λa r d k=>?_;refine SeqAt.in_tupleAt (K9 x) d (λw e=>Az g i r c w<|by simpa using e) #[.bl _,H,I,rfl,?_];rw[show a.toArray.any (K9 x)=a.any (K9 x) by simp,D6 r c];exact q
def B9:Bv X (jO .NotIn) (rIn X.K true):=by
 intro f s l H x y v u Q I g j h;obtain⟨p,m,rfl,b,i,c,q⟩:=h;cases j;rcases b with b|b
 ·refine e1a3 (I.list b) λa r d k=>?_;refine SeqAt.notIn_listAt (K9 x) d.isList (λw e=>Az g i r c w<|by simpa using e) #[.bl _,H,I,rfl,?_];rw[show a.toArray.any (K9 x)=a.any (K9 x) by simp,D6 r c];exact q
 ·refine e1a3 (I.tuple b) λa r d k=>?_;refine SeqAt.notIn_tupleAt (K9 x) d (λw e=>Az g i r c w<|by simpa using e) #[.bl _,H,I,rfl,?_];rw[show a.toArray.any (K9 x)=a.any (K9 x) by simp,D6 r c];exact q
def xH:zc X (.builtin "len") (λg H Q=>∃p b,g=[.ref p]/\(wI X.K H p b\/zu X.K H p b)/\Q (.int b.length) H):=by
 intro i s l H g m Q I r h;obtain⟨p,b,rfl,c,q⟩:=h;obtain⟨u,rfl,j⟩:=vals1 r;cases j;have n:=Ew;rcases c with c|c
 ·refine e1a3 (I.list c) λd e f k=>?_;have a:=e.length;exact Calls.call_len_list f.isList (by simp only[im]<;>lia) #[.int b.length,H,I.tok _,#[s.toks+1,by rw[im,a]],q]
 ·refine e1a3 (I.tuple c) λd e f k=>?_;have a:=e.length;exact len_tuple f (by simp only[im]<;>lia) #[.int b.length,H,I.tok _,#[s.toks+1,by rw[im,a]],q]
def yJ:zc X (.type "list") (λB H Q=>∃p d,B=[.ref p]/\(wI X.K H p d\/zu X.K H p d)/\∀l,H l=none->Q (.ref l) (upd H l<|.lst d)):=by
 intro i s D H B F Q I r h;obtain⟨p,d,rfl,j,q⟩:=h;obtain⟨u,rfl,E⟩:=vals1 r;cases E
 have k:∀(a:List ci),Vals d a->d.length<=hX->∀(c:ja)(f:Nat),(∀b C,s.heap.get? b=↑C->c.get? b=↑C) ->
   c.get? ⇑s=some { cls:=.type "list",dict:=none,data:=.seq a.toArray f,slots:=#v[]}->EP X i D Q (.ref ⇑s) { s with heap:=c}:=λa g m c f t e =>
  #[.ref ⇑s,_,I.laid (t':=s.toks) t (hV _)<|show wy X.prog X.w _ c _ (.lst d) from#[m,a,f,g,e],rfl,q _<|I.v0.fresh<|hV _]
 rcases j with j|j
 ·refine e1a3 (I.list j) λa g x m=>?_;have v:=g.length;obtain⟨o,y,z,n,A⟩:=x.isList;exact call_list_seq p (.inl rfl) y z A (λc f t e=>k a g m c f t e) (by simp only[im]<;>lia)
 ·refine e1a3 (I.tuple j) λa g x m=>?_;have v:=g.length;obtain⟨o,y,z,n,A⟩:=x;exact call_list_seq p (.inr rfl) y z A (λc f t e=>k a g m c f t e) (by simp only[im]<;>lia)
def F8:zc X (.type "tuple") (λk H Q=>∃p d,k=[.ref p]/\((wI X.K H p d/\∀l,H l=none->Q (.ref l) (upd H l<|.tup d))\/(zu X.K H p d/\Q (.ref p) H))):=by
 intro a s m H k A Q I r h;obtain⟨p,d,rfl,h⟩:=h;obtain⟨u,rfl,x⟩:=vals1 r;cases x;rcases h with⟨g,q⟩|⟨g,q⟩
 ·refine e1a3 (I.list g) λc i j n=>?_;have t:=i.length;refine call_tuple_list j.isList (λf y=>?_) (by simp only[im]<;>lia);have v:Inv X a m H { s with heap:=f}:=I.kept (t':=s.toks) y
  have z:Inv X a m (upd H f.objs.size<|.tup d) { s with heap:=f.push { cls:=.type "tuple",data:=.seq c.toArray}} :=
   v.laid (t':=s.toks) (λb o e=>ce _ e) (hV _) (show wy X.prog X.w _ _ _ (.tup d) from#[n,c,i,IsTup.new _ _])
  exact#[.ref f.objs.size,_,z,rfl,q _<|v.v0.fresh<|hV _]
 ·refine e1a3 (I.tuple g) λc i j n=>?_;exact call_tuple_same j #[.ref p,H,I,rfl,q]
def tyV(K:hO)(T:String)(x:V)(H:Hp):Prop:=match x with
 | .str _=>T="str"
 | .int _=>T="int"
 | .ref p=>(T="list"/\∃xs,wI K H p xs)\/(T="tuple"/\∃o,K.lookup p=↑o/\o.cls=.type "tuple"/\o.dict=none) \/
   (T="dict"/\((∃xG,H p=↑(.dK xG))\/∃xG,H p=↑(.dT xG)))\/(T="set"/\∃S n,H p=↑(.set S n))
 |_=>False
def Ql(I:Inv X k y H s)(r:RelV x v)(f:tyV X.K T x H) :
  s.TypeIs v T/\∀a,v=.ref a->∃l,s.heap.get? a=↑l/\l.dict=none:=by
 cases x with
 |str z =>
  obtain⟨t,rfl⟩:=r;cases (show T="str" from f);exact#[typeIs_str s z t,λ_ e=>nomatch e]
 |int i =>
  obtain⟨t,rfl⟩:=r;cases (show T="int" from f);exact#[typeIs_int s i t,λ_ e=>nomatch e]
 |ref p =>
  cases r;rcases f with⟨rfl,A,q⟩|⟨rfl,o,b,u,g⟩|⟨rfl,b⟩|⟨rfl,S,n,b⟩
  ·refine e1a3 (I.list q) λw _ m _=>?_;refine#[m.isList.typeIs,λa e=>?_];cases e;refine e2a4 m λo n e c g _=>?_;exact#[o,e,g]
  ·refine#[#[o,I.y9 p o b,u],λa e=>?_];cases e;exact#[o,I.y9 _ o b,g]
  ·have z:∃o,s.heap.get? p=↑o/\o.ExactDict:=by
    rcases b with⟨h,b⟩|⟨h,b⟩
    ·obtain⟨_,_,_,_,o,_,_,e,d,_⟩:=I.v0 p _ b;exact#[o,e,d]
    ·obtain⟨_,_,_,_,o,_,_,e,d,_⟩:=I.v0 p _ b;exact#[o,e,d]
   refine e1a2 z λo e d=>?_;refine#[#[o,e,d.1],λa j=>?_];cases j;exact#[o,e,d.2.1]
  ·obtain⟨o,_,_,_,e,d,_⟩:=I.v0 p _ b;refine#[#[o,e,d.1],λa j=>?_];cases j;exact#[o,e,d.2.1]
 |_=>exact iR f
def Z8(K:hO)(T:String)(r:V->List V->Hp->VK->Prop)(b:TE):TE:=λc H Q=>b c H λx a=>tyV K T x a/\r x [] a Q
def tBM(K:hO)(T:String)(r:V->List V->Hp->VK->Prop)(c:TE)(t:TA):TE:=λa H Q=>c a H λx b=>tyV K T x b/\t a b λd e=>r x d e Q
variable{o e:iZ}{es:List iZ}{to:TE}{t:TA}{name:Str}{apos cpos:Pos}{T id:String}{r:V->List V->Hp->VK->Prop}
def Qm(k:PlainAttrs T)(d:Slot T name id)(f:typeOf (.builtin id)=pure (.type "method_descriptor"))(l:MtR X id r)(m:PE X o to)
 (b:iW o name X.env (eval o X.env)=eval o X.env:=by rfl)(c:(apos.endLine==cpos.line)=true:=by rfl):PE X (.Call (.Attribute o name apos) [] [] cpos) (Z8 X.K T r to):=by
  intro a s g H Q I h
  refine wpAny_Call_method0_late b c<|vX (m a s g H _ I h) λv n p=>e2a4 p λx q i j u w=>?_
  obtain⟨y,z⟩:=Ql i j u
  exact#[T,id,k,d,f,y,z,kF rfl<|PySem.evalArgs_none<|l a n g q x [] v [] Q i j .nil w]
def W5(p:PlainAttrs T)(f:Slot T name id)(i:typeOf (.builtin id)=pure (.type "method_descriptor"))(q:MtR X id r)(u:PE X o to)(w:PA X (e::es) t)
 (c:iW o name X.env (eval o X.env)=eval o X.env:=by rfl)
 (g:((jE cpos (hR (e::es) X.env)).all (λx=>!x.1)&&(nC cpos (lp [] X.env)).all (λx=>x.1.isSome)
&&decide ((e::es).length+([]:List qc).length+(if ([]:List qc).isEmpty then 0 else 1)<30))=true:=by rfl)
 (d:(apos.endLine==cpos.line)=true:=by rfl) (y:hR (e::es) X.env=71::hR es X.env:=by rfl) (b:(jE cpos<|hR es X.env).any (·.1)=false:=by rfl) :
    PE X (.Call (.Attribute o name apos) (e::es) [] cpos) (tBM X.K T r to t):=by
  intro a s j H Q I h
  refine uM c g d rfl<|vX (u a s j H _ I h) λv z k=>e2a4 k λx A l m B C=>?_
  obtain⟨D,E⟩:=Ql l m B
  refine#[T,id,p,f,i,D,E,?_]
  have n:=w cpos a z j A _ l C
  rw[y]at n ⊢
  refine kF (by show (false||(jE cpos<|hR es X.env).any (·.1))=false;rw[b]<;>rfl)<|jQ ?_
  exact vX n λF G k=>e2a3 k λJ L M N O=>q a G j L x J v F Q M m N O
end
def ZC(X:Cx)(e:String)(r:V->List V->Hp->VK->Prop):Prop :=
 ∀(a:List (hJ×Obj)) (s:ic) (b:St) (H:Hp) (x:V) (c:List V) (v:ci) (d:List ci) (Q:VK),Inv X a b H s->RelV x v->Vals c d->r x c H Q ->
  ii 58 X.A (call (.builtin e) (v::d)) (EP X a b Q) X.xe s
def Vals.one:∀{x:V} {a:List ci},Vals [x] a->∃u,a=[u]/\RelV x u:=by intro _ _ z;cases z with|cons h t=>cases t;exact#[_,rfl,h]
def Vals.zero:∀{a:List ci},Vals [] a->a=[]
 |_,.nil=>rfl
def Vals.dropLast(h:Vals a b):Vals a.dropLast b.dropLast:=by
 induction h with
 |nil=>exact .nil
 |cons r t c =>
  cases t with
  |nil=>exact .nil
  |cons q d=>exact .cons r c
def Vals.eraseIdx:∀{a:List V} {b:List ci} (i:Nat),Vals a b->Vals (a.eraseIdx i) (b.eraseIdx i)
 |_,_,_,.nil=>.nil
 |_,_,0,.cons _ t=>t
 |_,_,i+1,.cons r t=>.cons r<|Vals.eraseIdx i t
def Vals.reverse(h:Vals a b):Vals a.reverse b.reverse:=by
 induction h with
 |nil=>exact .nil
 |cons r t c=>rw[oG,oG];exact Vals.append c<|.cons r .nil
def La(l:List d):l.eraseIdx (l.length-1)=l.dropLast:=by
 induction l with
 |nil=>rfl
 |cons a r c =>
  cases r with
  |nil=>rfl
  |cons b r =>
   have e:(a::b::r).length-1=((b::r).length-1)+1:=by
    have f:(a::b::r).length=r.length+2:=rfl;have g:(b::r).length=r.length+1:=rfl
    lia
   rw[e,oT,c]
   all_goals rfl
def GC:∀(l:List a)(i:Nat),(l.eraseIdx i).length<=l.length
 | [],_=>hV _
 |_::_,0=>mh _
 |_::r,i+1=>Nat.succ_le_succ<|GC r i
def Inv.Ye{a its':List ci}{n:Nat}{d:Nat}(I:Inv X b g H s)(h:H l=↑(.lst p))
 (e:s.heap.get? l=some 117) (i:f a.toArray=its'.toArray) (j:Vals c its') (k:c.length<=hX) :
    Inv X b g (upd H l<|.lst c) { s with heap:=s.heap.update l<|Obj.mapSeq f,toks:=d}:=by
  have q:=PySem.IsL.update e f
  rw[i]at q
  refine I.write (x:=l) (e:=l) (by rw[h];exact trivial) (.inl rfl) (λr u m o=>(iU s.heap (Obj.mapSeq f)<|Ne.symm m).trans o) #[_,q] ?_
  exact#[k,its',_,j,q]
def Inv.a2v{t':Nat}(I:Inv X a d H s)(e:Vals c b)(f:c.length<=hX) :
  Inv X a d (upd H ⇑s<|.lst c) { s with heap:=s.heap.push { cls:=.type "list",data:=.seq b.toArray},toks:=t'} :=
 I.laid (λ_ _ q=>ce _ q) (hV _) #[f,b,0,e,il _ rfl]
def Inv.fresh(I:Inv X a b H s):H ⇑s=none:=I.v0.fresh<|hV _
def Inv.Qn(I:Inv X c f H s)(d:H l=↑(.lst b)):b.length<=hX/\∃(a:List ci)(n:Nat),Vals b a/\b.length=a.length/\s.heap.get? l=some 117:=by obtain⟨z,a,n,r,e⟩:=I.v0 l _ d;exact#[z,a,n,r,r.length,e]
def Na:V->List V->Hp->VK->Prop:=λx b H Q=>∃l a y,x=.ref l/\b=[y]/\H l=↑(.lst a)/\a.length<hX/\Q .wW (upd H l<|.lst<|a++[y])
def Oq:ZC X "list.append" Na:=by
 intro b s i H x j v k Q I d f h;obtain⟨l,m,y,rfl,rfl,c,o,q⟩:=h;cases d;obtain⟨u,rfl,g⟩:=f.one;obtain⟨z,a,n,r,p,e⟩:=I.Qn c;refine call_meets F.slot_list_append #[_,e,rfl] F.entry_list_append (F.args_list_append_2 _ _) (PySem.list_append l a.toArray n u<|by rw[im];lia) #[e,?_];refine#[.wW,_,I.Ye (its':=a++[u]) c e q0o (r.append<|.cons g .nil) ?_,rfl,q];rw[io,iE]
 lia
def Z9:V->List V->Hp->VK->Prop:=λx b H Q=>∃l a y,x=.ref l/\b=[]/\H l=↑(.lst a)/\a[a.length-1]?=↑y/\Q y (upd H l<|.lst a.dropLast)
def Qo:ZC X "list.pop" Z9:=by
 intro d s p H x t v w Q I g i h;obtain⟨l,A,y,rfl,rfl,f,j,q⟩:=h;cases g;have b:=i.zero;subst b;obtain⟨z,a,n,r,k,e⟩:=I.Qn f;refine e1a2 (r.get j) λu m o=>?_
 have c:a.toArray[a.toArray.size-1]?=↑u:=by show a.toArray[a.length-1]?=↑u;rw[<- iY,<- k];exact m
 refine call_meets o8 #[_,e,rfl] F.entry_list_pop (F.args_list_pop_1 _) (MeetsSeq.list_pop_last l a.toArray n u c<|by rw[im];omega) #[e,?_];refine#[y,_,I.Ye (its':=a.dropLast) f e ?_ r.dropLast ?_,o,q]
 ·show a.toArray.eraseIdxIfInBounds (a.toArray.size-1)=a.dropLast.toArray;rw[im,qR,La]
 ·rw[List.length_dropLast];omega
def Qp:V->List V->Hp->VK->Prop:=λx b H Q=>∃l a i k y,x=.ref l/\b=[.int i]/\H l=↑(.lst a)/\-(2 ^ 63)<=i/\i<2 ^ 63/\seqIndex? i a.length=↑k/\a[k]?=↑y/\Q y (upd H l<|.lst<|a.eraseIdx k)
def Qq:ZC X "list.pop" Qp:=by
 intro c s E H x G v J Q I f g h;obtain⟨l,j,i,k,y,rfl,rfl,d,m,o,p,A,q⟩:=h;cases f;obtain⟨u,rfl,B⟩:=g.one;obtain⟨t,rfl⟩:=B;obtain⟨z,a,n,r,C,e⟩:=I.Qn d;refine e1a2 (r.get A) λw D b=>?_
 refine call_meets o8 #[_,e,rfl] F.entry_list_pop (F.args_list_pop_2 _ _)
  (MeetsSeq.list_pop_at l a.toArray n i t k w (fitsIndex_both m o) (by rw[im,<- C];exact p) (by rw[<- iY];exact D)<|by rw[im];lia) #[e,?_]
 refine#[y,_,I.Ye (its':=a.eraseIdx k) d e ?_ (r.eraseIdx k) ?_,b,q]
 ·show a.toArray.eraseIdxIfInBounds k=(a.eraseIdx k).toArray;rw[qR]
 ·have:=GC j k
  lia
def a2w:R2:=λx y H Q=>∃l b a c,x=.ref l/\y=.ref b/\H l=↑(.lst a)/\H b=↑(.lst c)/\a.length+c.length<=hX/\∀p,H p=none->Q (.ref p) (upd H p<|.lst<|a++c)
def Yf:Bv X (mS .Add) a2w:=by
 intro d s t H x y v u Q I f g h;obtain⟨l,b,w,A,rfl,rfl,i,j,B,q⟩:=h;cases f;cases g;obtain⟨z,c,n,r,C,e⟩:=I.Qn i;obtain⟨D,a,E,k,m,o⟩:=I.Qn j;refine PySem.P.add_list e o ?_ (by rw[im,im];lia);have p:c.toArray++a.toArray=(c++a).toArray:=by simp
 rw[p];exact#[.ref _,_,I.a2v (t':=s.toks) (r.append k) (by rw[io];lia),rfl,q _ I.fresh]
section
variable{κ:Type}[DecidableEq κ]
noncomputable def yK(xG:List (κ×V))(k:κ):Option V:=(xG.find? λkv=>decide<|kv.1=k).map (·.2)
noncomputable def putK(xG:List (κ×V))(k:κ)(v:V):List (κ×V) :=
 if (xG.any λkv=>decide<|kv.1=k)=true then xG.map (λkv=>if kv.1=k then (kv.1,v) else kv) else xG++[(k,v)]
noncomputable def AA(a:List (κ×V))(k:κ):List (κ×V):=a.filter λb=>decide<|b.1≠k
def zw{p:κ×V}{r:List (κ×V)}(e:p.1=k):yK (p::r) k=↑p.2:=by simp[yK,je,e]
def zx{p:κ×V}{r:List (κ×V)}(e:¬p.1=k):yK (p::r) k=yK r k:=by simp[yK,je,e]
def AB(k:κ):∀a:List (κ×V),(a.any λb=>decide<|b.1=k)=(yK a k).isSome
 | []=>rfl
 |p::r=>by
  rw[oM];by_cases e:p.1=k
  ·simp only[zw e,decide_eq_true e,Bool.true_or,Option.isSome_some]
  ·rw[zx e,iC e,Bool.false_or];exact AB k r
def AC(a:List (κ×V))(k:κ)(v:V):(putK a k v).length<=a.length+1:=by
 unfold putK;split
 ·rw[h8];lia
 ·rw[io,iF,nP];lia
def Qr{a:List (κ×V)}(v:V)(h:yK a k=none):putK a k v=a++[(k,v)]:=by unfold putK;rw[AB,h];exact hI q0q
def zL.yO(r:zL o u):o.isSome=u.isSome:=by
 cases o with
 |none=>cases u with
  |none=>rfl
  |some _=>exact(show False from r).elim
 |some _=>cases u with
  |none=>exact(show False from r).elim
  |some _=>rfl
def zL.getD(r:zL o u)(a:RelV d b):RelV (o.getD d) (u.getD b):=by
 cases o with
 |none=>cases u with
  |none=>exact a
  |some _=>exact(show False from r).elim
 |some _=>cases u with
  |none=>exact(show False from r).elim
  |some _=>exact r
def KV.val(r:KV a g)(k:κ):zL (yK a k) (qI g k):=by
 induction r with
 |nil=>exact True.intro
 | @cons p q l c h t i =>
  obtain⟨f,j⟩:=h;by_cases e:p.1=k
  ·have d:q.1=k:=f.symm.trans e;have b:qI (q::c) k=↑q.2:=by simp[qI,je,d]
   rw[zw e,b];exact j
  ·have d:¬q.1=k:=λz=>e<|f.trans z;have b:qI (q::c) k=qI c k:=by simp[qI,je,d]
   rw[zx e,b];exact i
def KV.any(r:KV a c)(k:κ):(a.any λb=>decide<|b.1=k)=c.any λb=>decide (b.1=k):=by
 induction r with
 |nil=>rfl
 |cons h t d=>rw[oM,oM,d,h.1]
def KV.Yg(r:KV c d)(k:κ)(f:RelV y u) :
  KV (c.map λa=>if a.1=k then (a.1,y) else a) (d.map λa=>if a.1=k then (a.1,u) else a):=by
 induction r with
 |nil=>exact .nil
 | @cons p q j l h t g =>
  rw[iJ,iJ];refine .cons ?_ g;obtain⟨b,i⟩:=h;by_cases e:p.1=k
  ·rw[cr e,cr<|b.symm.trans e];exact#[b,f]
  ·rw[hI e,hI<|λz=>e<|b.trans z];exact#[b,i]
def KV.put(r:KV a b)(k:κ)(c:RelV y u):KV (putK a k y) (stored b k u):=by
 unfold putK stored;rw[r.any k];by_cases e:(b.any λd=>decide<|d.1=k)=true
 ·rw[cr e,cr e];exact r.Yg k c
 ·rw[hI e,hI e];exact Paired.snoc r #[rfl,c]
def KV.drop(r:KV c g)(k:κ):KV (AA c k) (without g k):=by
 unfold AA without
 induction r with
 |nil=>exact .nil
 | @cons p q l m h t f =>
  obtain⟨d,i⟩:=h;rw[jK,jK];by_cases e:p.1=k
  ·have a:¬decide (p.1≠k)=true:=by simp[e]
   have b:¬decide (q.1≠k)=true:=by simp[d.symm.trans e]
   rw[hI a,hI b];exact f
  ·have j:¬q.1=k:=λz=>e<|d.trans z;have a:decide (p.1≠k)=true:=by simp[e]
   have b:decide (q.1≠k)=true:=by simp[j]
   rw[cr a,cr b];exact .cons #[d,i] f
def KV.length{xG:List (κ×V)}{vs:List (κ×ci)}(r:KV xG vs):xG.length=vs.length:=Paired.length r
def JE(a:List (κ×V))(k:κ):(AA a k).length<=a.length:=iL _ _
end
def BC(r:RelV (kV k) u):(vR P w).is k u=true:=by
 cases k with
 |inl i=>obtain⟨t,e⟩:=(show ∃t,u=md i t from r);subst e;exact Jl P w i t
 |inr x=>obtain⟨t,e⟩:=(show ∃t,u=Value.str x t from r);subst e;exact Jm P w x t
def Ot:∀{a:List Key} {c:List ci},Vals (a.map kV) c->ItemsAre (vR P w) a c:=by
 intro d
 induction d with
 |nil=>intro _ r;rw[pf]at r;cases r;exact .nil
 |cons k a b =>
  intro _ r;rw[iJ]at r
  cases r with
  |cons h t=>exact .cons (BC h)<|b t
abbrev KT(H:Hp):List (List Key×V)->List (List Key×hJ×ci)->Prop:=Paired λp q=>p.1=q.1/\H q.2.1=↑(.tup<|p.1.map kV)/\RelV p.2 q.2.2
def KT.val(r:KT H a g)(k:List Key):zL (yK a k) ((tE g k).map (·.2)):=by
 induction r with
 |nil=>exact True.intro
 | @cons p q l c h t i =>
  refine e0a3 h λf _ j=>?_;by_cases e:p.1=k
  ·have d:q.1=k:=f.symm.trans e;have b:tE (q::c) k=↑q.2:=by simp[tE,je,d]
   rw[zw e,b];exact j
  ·have d:¬q.1=k:=λz=>e<|f.trans z;have b:tE (q::c) k=tE c k:=by simp[tE,je,d]
   rw[zx e,b];exact i
def KT.Yg(r:KT H b f)(k:List Key)(g:RelV y u) :
  KT H (b.map λc=>if c.1=k then (c.1,y) else c) (f.map<|putAt k u):=by
 induction r with
 |nil=>exact .nil
 | @cons p q l m h t i =>
  rw[iJ,iJ];refine .cons ?_ i;refine e0a3 h λa d j=>?_;unfold putAt;by_cases e:p.1=k
  ·rw[cr e,cr<|a.symm.trans e];exact#[a,d,g]
  ·rw[hI e,hI<|λz=>e<|a.trans z];exact#[a,d,j]
def KT.put(r:KT H a c)(k:List Key)(f:H b=↑(.tup<|k.map kV))(d:RelV y u) :
  KT H (putK a k y) (storedH c k b u):=by
 have e:(a.any λg=>decide<|g.1=k)=(tE c k).isSome:=by rw[AB,(r.val k).yO,i4]
 unfold putK storedH;rw[e];by_cases q:(tE c k).isSome=true
 ·rw[cr q,cr q];exact r.Yg k d
 ·rw[hI q,hI q];exact Paired.snoc r #[rfl,f,d]
def KT.keeps(r:KT H a d)(e:∀b c,H b=↑(.tup c)->f b=↑(.tup c)):KT f a d :=
 Paired.Xz r λ_ _ z=>#[z.1,e _ _ z.2.1,z.2.2]
def W6(b:yk P w H h)(e:Rd H a u):wy P w H h a u:=e.ok b
def Ca(d:yk P w H h)(e:Rd H a (.dK b)):b.length<=hX/\(a==lw)=false/\∃c,KV b c/\h.DictOf (vR P w) a c :=
 show wy P w H h a (.dK b) from W6 d e
def Nb(d:yk P w H h)(e:H a=↑(.dK b)):b.length<=hX/\(a==lw)=false/\∃c,KV b c/\h.DictOf (vR P w) a c:=Ca d<|.inl e
def BR{b:List Key}(d:yk P w H h)(e:H a=↑(.tup<|b.map kV)):(pI<|vR P w).is h b a:=by obtain⟨_,c,r,o,f,g,n,i⟩:=(show wy P w H h a (.tup<|b.map kV) from d a _ e);exact#[o,c.toArray,n,f,g,i,by simpa using Ot r]
def DE(g:yk P w H h)(e:Rd H a (.dT b)):b.length<=hX/\(a==lw)=false /\
  ∃d,KT H b d/\h.DictOfH (pI<|vR P w) a d:=by
 obtain⟨z,y,d,r,o,j,k,n,s,u,v,A⟩:=(show wy P w H h a (.dT b) from W6 g e);refine#[z,y,d,r,o,j,k,n,s,u,v,λx c=>?_,A]
 have f:∀{l:List (List Key×V)} {m:List (List Key×hJ×ci)},KT H l m->∀x∈m,(pI<|vR P w).is h x.1 x.2.1:=by
  intro l m q
  induction q with
  |nil=>intro x c;exact nomatch c
  | @cons p q C D i t B =>
   intro x c;rcases List.mem_cons.mp c with e|c
   ·subst e;exact BR g (by rw[<- i.1];exact i.2.1)
   ·exact B x c
 exact f r x c
def a0a(d:yk P w H h)(e:H a=↑(.dT b)):b.length<=hX/\(a==lw)=false /\
  ∃c,KT H b c/\h.DictOfH (pI<|vR P w) a c:=DE d<|.inl e
def yB(H:Hp)(a:hJ)(y:V)(r:Option V):Prop :=
 (∃xG k,Rd H a (.dK xG)/\y=kV k/\r=yK xG k)\/∃xG k b,Rd H a (.dT xG)/\y=.ref b/\H b=↑(.tup<|k.map kV)/\r=yK xG k
def Hi(H:Hp)(a:hJ)(y v:V)(H':Hp):Prop :=
 (∃xG k,H a=↑(.dK xG)/\y=kV k/\xG.length<hX/\H'=upd H a (.dK<|putK xG k v)) \/
 ∃xG k b,H a=↑(.dT xG)/\y=.ref b/\H b=↑(.tup<|k.map kV)/\xG.length<hX/\H'=upd H a (.dT<|putK xG k v)
def yB.k{H:Hp}{a:hJ}{xG:List (Key×V)}{k:Key}(e:H a=↑(.dK xG)):yB H a (kV k) (yK xG k):=.inl #[xG,k,.inl e,rfl,rfl]
def Hi.k{H:Hp}{a:hJ}{xG:List (Key×V)}{k:Key}{v:V}(e:H a=↑(.dK xG))(hl:xG.length<hX):Hi H a (kV k) v (upd H a<|.dK<|putK xG k v):=.inl #[xG,k,e,rfl,hl,rfl]
def Inv.big(I:Inv X a b H s):lw<⇑s:=by have h:iv<⇑s:=(I.mod.glob.keeps I.bk).lt;exact n9 q0q h
def GD(B:A.units+1<kX)(I:Inv X i C H s)(g:yB H a y ↑v)(t:RelV y u)(h:∀f x,Inv X i C H x->RelV v f->Q f x) :
  ii 58 A (oE (.ref a) u) Q E s:=by
 rcases g with⟨j,k,e,m,l⟩|⟨j,k,b,e,m,eb,l⟩
 ·subst m;obtain⟨z,D,F,c,n⟩:=Ca I.v0 e;obtain⟨f,q,d⟩:=zL.some_of (v:=v) (o:=qI F k) (by rw[l];exact c.val k);exact wpAny_getItem_of (BC t) n.mapOf q<|h f _ (I.tok _) d
 ·subst m;cases (show u=iA b from t);obtain⟨z,D,G,c,n⟩:=DE I.v0 e;obtain⟨f,q,d⟩:=zL.some_of (v:=v) (o:=(tE G k).map (·.2)) (by rw[l];exact c.val k);refine e1a2 (Option.map_eq_some_iff.mp q) λp J r=>?_;refine wpAny_getItem_heap (lS B) (BR I.v0 eb) n J ?_;rw[r];exact h f _ (I.tok _) d
def a2x(r:A.units+1<kX)(I:Inv X d t H s)(g:yB H a y o)(n:RelV y u)(h:∀p,Inv X d t H p->Q (.bool o.isSome) p) :
  ii 58 A (jO .In u<|.ref a) Q E s:=by
 rcases g with⟨f,k,e,i,l⟩|⟨f,k,b,e,i,eb,l⟩
 ·subst i;obtain⟨z,j,v,c,m⟩:=Ca I.v0 e;refine wpAny_in_of (BC n) j m.mapOf ?_;rw[<- (c.val k).yO,<- l];exact h _<|I.tok _
 ·subst i;cases (show u=iA b from n);obtain⟨z,j,x,c,m⟩:=DE I.v0 e;refine wpAny_in_heap (lS r) (BR I.v0 eb) j m ?_;have q:=(c.val k).yO;rw[i4]at q;rw[<- q,<- l];exact h _<|I.tok _
def UE(r:A.units+1<kX)(I:Inv X d t H s)(g:yB H a y o)(n:RelV y u)(h:∀p,Inv X d t H p->Q (.bool<|!o.isSome) p) :
  ii 58 A (jO .NotIn u<|.ref a) Q E s:=by
 rcases g with⟨f,k,e,i,l⟩|⟨f,k,b,e,i,eb,l⟩
 ·subst i;obtain⟨z,j,v,c,m⟩:=Ca I.v0 e;refine wpAny_notIn_of (BC n) j m.mapOf ?_;rw[<- (c.val k).yO,<- l];exact h _<|I.tok _
 ·subst i;cases (show u=iA b from n);obtain⟨z,j,x,c,m⟩:=DE I.v0 e;refine wpAny_notIn_heap (lS r) (BR I.v0 eb) j m ?_;have q:=(c.val k).yO;rw[i4]at q;rw[<- q,<- l];exact h _<|I.tok _
def Cb{h:Nat}(I:Inv X c i H s)(j:ZM (H a))(k:jl a s.heap d)(l:∃q,d.get? a=↑q)(f:wy X.prog X.w (upd H a g) d a g) :
  Inv X c i (upd H a g) { s with heap:=d,toks:=h} :=
 I.write (x:=a) (e:=a) j (.inl rfl) (λb q m z=>(k.2 b m).trans z) l f
def Ez{d:ja}{b:List (Key×V)}(z:b.length<=hX)(f:(a==lw)=false)(c:KV b e)(g:d.DictOf (vR P w) a e) :
  wy P w h d a (.dK b):=#[z,f,e,c,g]
def GF(M:A.units+1<kX)(I:Inv X j N H s)(g:Hi H a y v O)(D:RelV y u)(F:RelV v r)(h:∀G,Inv X j N O G->Q () G) :
  ii 58 A (sQ (.ref a) u r) Q E s:=by
 rcases g with⟨d,k,e,n,l,o⟩|⟨d,k,b,e,n,eb,l,o⟩
 ·subst n o;obtain⟨z,p,P,f,t⟩:=Nb I.v0 e;have x:P.length<=hX:=by rw[<- f.length];exact z
  have B:(putK d k v).length<=hX:=by have:=AC d k v;lia
  refine wpAny_setItem_pairs (hsz:=x) (BC D) t λJ i C=>h _ ?_;have R:∃q,J.get? a=↑q:=e3a2 i λq _ _ m _=> #[q,m];exact Cb I (by rw[e];exact True.intro) C R<|Ez B p (f.put k F) i
 ·subst n o;cases (show u=iA b from D);obtain⟨z,p,S,f,t⟩:=a0a I.v0 e;have x:S.length<=hX:=by rw[<- Paired.length f];exact z
  have B:(putK d k v).length<=hX:=by have:=AC d k v;lia
  refine wpAny_setItem_heap (hsz:=x) (lS M) (BR I.v0 eb) t λJ i C=>h _ ?_;obtain⟨q,T,U,m,W,Y,Z,_,h5⟩:=i;refine Cb I (by rw[e];exact True.intro) C #[q,m] #[B,p,_,(f.put k eb F).keeps λc ys L=>?_,q,T,U,m,W,Y,Z,h5];rw[vh<|ZL L e<|λz=>nomatch z];exact L
def Ou(I:Inv X d j H s)(e:H a=↑(.dK b))(m:RelV (kV k) u)(l:(yK b k).isSome=true)(h:∀i,Inv X d j (upd H a<|.dK<|AA b k) i->Q () i) :
  ii 58 A (delItem (.ref a) u) Q E s:=by
 obtain⟨z,n,o,c,g⟩:=Nb I.v0 e
 refine wpAny_delItem_slot g.typeIs q0q rE
  (oH rE g.typeIs PySem.F.entry_dict_delitem (PySem.F.args_dict_delitem_2 _ _) (meets_dict_delitem_pairs (vR X.prog X.w) a<|BC m) ⟨o,g,by rw[<- c.length];exact z,by rw[<- (c.val k).yO];exact l,λp f r=>h _ ?_⟩)
 have t:∃q,p.get? a=↑q:=e3a2 f λq _ _ v _=> #[q,v];exact Cb I (by rw[e];exact True.intro) r t<|Ez (iP (JE b k) z) n (c.drop k) f
def a0b{b:List ci}(I:Inv X f C H s)(e:H a=↑(.dK c))(m:RelV (kV k) u)(l:yK c k=↑v)(p:b=[]\/∃x,b=[x])
 (h:∀g r,Inv X f C (upd H a<|.dK<|AA c k) r->RelV v g->Q g r):ii 58 A (call (.builtin "dict.pop") (.ref a::u::b)) Q E s:=by
  obtain⟨z,D,y,d,B⟩:=Nb I.v0 e
  obtain⟨g,G,n⟩:=zL.some_of (v:=v) (o:=qI y k) (by rw[<- l];exact d.val k)
  have J:(keyPart u).isSome=true:=by
    cases k with
    |inl i=>obtain⟨t,q⟩:=(show ∃t,u=md i t from m);subst q;rfl
    |inr x=>obtain⟨t,q⟩:=(show ∃t,u=Value.str x t from m);subst q;rfl
  have L:se "dict.pop" #[.ref a::u::b,[]]:=by
    rcases p with q|⟨x,q⟩
    · subst q; exact PySem.F.args_dict_pop_2 _ _
    · subst q; exact PySem.F.args_dict_pop_3 _ _ _
  refine oH sv B.typeIs PySem.F.entry_dict_pop L (meets_dict_pop_there (vR X.prog X.w) a (BC m) b p J)
    #[y,g,B,by rw[<- d.length];exact z,G,λM j N=>h g _ ?_ n]
  have O:∃q,M.get? a=↑q:=e3a2 j λq _ _ P _=> #[q,P]
  exact Cb I (by rw[e];exact True.intro) N O<|Ez (iP (JE c k) z) D (d.drop k) j
def a0c(I:Inv X b g H s)(e:Rd H a (.dK d))(h:∀t f,Inv X b g H f->Q (.int d.length t) f):ii 58 A (call (.builtin "len") [.ref a]) Q E s:=by obtain⟨z,i,k,c,j⟩:=Ca I.v0 e;refine call_len_dict i j (by rw[<- c.length];rw[jk]at z;lia) ?_;rw[<- c.length];exact h _ _<|I.tok _
def Qs(i:iZ):Prop:=∀a b,su i false a b=operate [a,b] (oE a b)
def UF{m:String} 
 (n:nW (.type T) "__getitem__"=pure (some<|.builtin m)) (p:Qs slice)
 (h:ii (ij a w) A (eval value g) (λo d=>ii (ij a w) A (eval slice g) (λi b=>b.TypeIs o T/\ii (ij a w) A (oE o i) Q E b) E d) E s) :
    ii (ij a w) A (eval (.Subscript value slice pos) g) Q E s:=by
  refine tD<|jr h (λo d j=>jr j (λi b c=>?_) λ_ _ x=>x) λ_ _ x=>x
  obtain⟨l,c⟩:=c
  refine am ?_
  rw[getitemInPython_of_ne l.not_modules]
  refine am<|qi l n ?_
  have f:ii (ij a w) A (su slice false o i) (λr e=>ii (ij a w) A (letTemporaryGo value o r >>= λ_=>pure r) Q E e) E b:=by
    rw[p o i]
    exact wpAny_operating<|jr c (λr e k=>am<|wpAny_letTemporaryGo<|ap k) λ_ _ x=>x
  first
    | exact ap<|am f
    | exact am<|ap<|am f
    | exact am f
def JF(I:Inv X f h H s)(g:yB H a y o):s.TypeIs (.ref a) "dict":=by
 rcases g with⟨c,k,e,_,_⟩|⟨c,k,b,e,_,_,_⟩
 ·obtain⟨_,_,i,_,d⟩:=Ca I.v0 e;exact d.typeIs
 ·obtain⟨_,_,j,_,d⟩:=DE I.v0 e;exact d.typeIs
def a0d(d e:TE):TE:=λb H Q=>d b H λx f=>e b f λy c=>∃a v,x=.ref a/\yB c a y ↑v/\Q v c
def a2y(d e:TE):TE:=λb H Q=>d b H λy f=>e b f λx c=>∃a o,x=.ref a/\yB c a y o/\Q (.bl o.isSome) c
def UG(d e:TE):TE:=λb H Q=>d b H λy f=>e b f λx c=>∃a o,x=.ref a/\yB c a y o/\Q (.bl<|!o.isSome) c
def a0e(d e f:TE):TS:=λD b H=>f b H λv g=>d b g λx h=>e b h λy i=>∃a c,x=.ref a/\Hi i a y v c/\D.nx b c
def a0f(e f g:TE)(h:V->V->Hp->VK->Prop):TS:=λD b H=>e b H λx i=>f b i λy c=>∃a v,x=.ref a/\yB c a y ↑v /\
 g b c λj k=>h v j k λz l=>∃d,Hi l a y z d/\D.nx b d
def Qt(e f:TE):TS:=λD c H=>e c H λx g=>f c g λy d=>∃a b k,x=.ref a/\d a=↑(.dK b)/\y=kV k/\(yK b k).isSome=true/\D.nx c (upd d a<|.dK<|AA b k)
def Hj(k:X.A.units+1<kX)(l:PE X o m)(n:PE X i ty)(p:Qs i):PE X (.Subscript o i pos) (a0d m ty):=by intro b s f H Q I h;refine UF PySem.F.slot_dict_getitem.lookup p<|vX (l b s f H _ I h) λu q c=>e2a3 c λx H1 r t w=>vX (n b q f H1 _ r w) λE G c=>e2a3 c λy H2 j z d=>e2a3 d λa v B g C=>?_;subst B;obtain rfl:u=iA a:=t;exact#[JF j g,GD k j g z λJ L D e=>#[v,H2,D,e,C]]
def Qu(f:X.A.units+1<kX)(j:PE X i ty)(k:PE X o l):PC X .In i o (a2y ty l):=by intro b s e H Q I h;refine vX (j b s e H _ I h) λC m c=>e2a3 c λy H1 n p q=>vX (k b m e H1 _ n q) λu D c=>e2a3 c λx H2 r t d=>e2a3 d λa v w g z=>?_;subst w;obtain rfl:u=iA a:=t;exact a2x f r g p λE B=>#[.bl v.isSome,H2,B,rfl,z]
def C4(f:X.A.units+1<kX)(j:PE X i ty)(k:PE X o l):PC X .NotIn i o (UG ty l):=by intro b s e H Q I h;refine vX (j b s e H _ I h) λC m c=>e2a3 c λy H1 n p q=>vX (k b m e H1 _ n q) λu D c=>e2a3 c λx H2 r t d=>e2a3 d λa v w g z=>?_;subst w;obtain rfl:u=iA a:=t;exact UE f r g p λE B=>#[.bl<|!v.isSome,H2,B,rfl,z]
def Hk(j:X.A.units+1<kX)(k:PE X o l)(m:PE X i ty)(n:PE X value p)(q:kj value (some<|.Subscript o i c) pos.line X.env=pure false) :
  PS X (.Assign [.Subscript o i c] value pos) (a0e l ty p):=by
 intro b s e H D I h;refine wpAny_Assign_Subscript (vX (n b s e H _ I h) λr t d=>e2a3 d λv H1 w z B=>vX (k b t e H1 _ w B) λu C d=>e2a3 d λx H2 E F G=>vX (m b C e H2 _ E G) λP Q d=>e2a3 d λy H3 J L f=>e2a3 f λa H4 M g N=>?_) q;subst M;obtain rfl:u=iA a:=F;exact GF j J g L z λR O=>#[e,H4,O,N]
def UH(p:X.A.units+1<kX)(t:PE X o w)(B:PE X i ty)(C:PE X value E)(j:Z3 X op F)
 (G:∀f d new,augStore i f d new=(do lm [new,f,d] (sQ f d new);release [new,f,d] [];pure .next)):PS X (.AugAssign (.Subscript o i q) op value pos) (a0f w ty E F):=by
  intro b s e H D I h
  refine sI (vX (t b s e H _ I h) λu J c=>e2a3 c λx H1 L M N=>vX (B b J e H1 _ L N) λd s2 c=>e2a3 c λy H2 O r k=>e2a3 k λa v P g Q=>?_) G
  subst P
  obtain rfl:u=iA a:=M
  refine GD p O g r λR S T l=>vX (C b S e H2 _ T Q) λU W c=>e2a3 c λY H3 Z m q3=>vX (j b W e H3 v Y R U _ Z l m q3) λw3 s5 c=>e2a3 c λz H4 I5 rz n=>e1a2 n λH5 g5 q4=>?_
  exact GF p I5 g5 r rz λs6 I6=>#[e,H5,I6,q4]
def Hl(j:PE X o m)(n:PE X i ty):PS X (.Delete [.Subscript o i g] pos) (Qt m ty):=by intro b s d H D I h;refine wpAny_Delete<|wpAny_deleteEach_cons<|wpAny_delete_Subscript<|vX (j b s d H _ I h) λu p f=>e2a3 f λx H1 q r t=>vX (n b p d H1 _ q t) λF G f=>e2a3 f λy H2 v w c=>e3a5 c λa z k A e B l C=>?_;subst A B;obtain rfl:u=iA a:=r;exact Ou v e w l λJ E=>wpAny_deleteEach_nil #[d,_,E,C]
def JG(h:ja)(a:lw<h.objs.size):wy P w H (h.push 133) h.objs.size (.dK []) :=
 #[jp _,beq_eq_false_iff_ne.mpr<|Ne.symm<|iu a,[],.nil,sV h]
def EA:TE:=λ_ H Q=>∀p,H p=none->Q (.ref p) (upd H p<|.dK [])
def Cc:PE X (.Dict [] [] pos) EA:=λb s c H Q I h =>
 wpAny_Dict_empty #[.ref ⇑s,_,I.laid (a:=⇑s) (o:=.dK []) (t':=s.toks) (λ_ _ q=>ce _ q) (hV _)<|JG s.heap I.big,rfl,h _<|I.v0.fresh<|hV _]
def Ld:List (TE×TE)->St->Hp->(List (V×V)->Hp->Prop)->Prop
 | [],_,H,Q=>Q [] H
 | (tk,tv)::r,σ,H,Q=>tk σ H λx H1=>tv σ H1 λy H2=>Ld r σ H2 λps H3=>Q ((x,y)::ps) H3
abbrev VV:List (V×V)->List (ci×ci)->Prop:=Paired λp q=>RelV p.1 q.1/\RelV p.2 q.2
def PPs(X:Cx)(d:Pos)(c:List (Option iZ))(a:List iZ)(e:List (TE×TE)):Prop :=
 ∀(b:List (hJ×Obj)) (s:ic) (f:St) (H:Hp) (Q:List (V×V)->Hp->Prop),Inv X b f H s->Ld e f H Q ->
  ii 58 X.A (evalPairs<|pairTrees c a X.env d) (λi j=>∃g h,Inv X b f h j/\VV g i/\Q g h) X.xe s
def UI:PPs X pos [] [] []:=λa s b H Q I h=>pairTrees_nil_walk #[[],H,I,.nil,h]
def Qv(e:PE X k f)(g:PE X v i)(j:PPs X pos l m c) :
  PPs X pos (↑k::l) (v::m) ((f,i)::c):=λa s d H Q I h =>
 pairTrees_cons_walk (vX (e a s d H _ I h) λu n b=>e2a3 b λx H1 o p q=>vX (g a n d H1 _ o q) λD r b=>e2a3 b λy H2 t w z =>
  vX (j a r d H2 _ t z) λE F b=>e2a3 b λA H3 B rel C=>#[(x,y)::A,H3,B,.cons #[p,w] rel,C])
noncomputable def EB(b a:List (Key×V)):List (Key×V):=a.foldl (λc d=>putK c d.1 d.2) b
def KV.merge:∀{a:List (Key×V)} {d:List (Key×ci)} {b:List (Key×V)} {c:List (Key×ci)},KV a d->KV b c->KV (EB b a) (merged c d):=by
 intro a d b c r
 induction r generalizing b c with
 |nil=>intro q;exact q
 | @cons p q i j h t f =>
  intro g
  have e:KV (putK b p.1 p.2) (stored c q.1 q.2):=by have:=g.put p.1 h.2;rw[<- h.1];exact this
  exact f e
def BD:∀(b a:List (Key×V)),(EB a b).length<=a.length+b.length
 | [],a=>by show a.length<=a.length+0;lia
 |p::r,a=>by have c:=BD r<|putK a p.1 p.2;have d:=AC a p.1 p.2;show (EB (putK a p.1 p.2) r).length<=_;rw[iF];lia
def Le:∀{d:List (Key×V)} {g:List (ci×ci)},VV (d.map λi=>(kV i.1,i.2)) g->∃e,Carries (vR P w) g e/\KV d e:=by
 intro j
 induction j with
 |nil=>intro _ r;rw[pf]at r;cases r;exact#[[],True.intro,.nil]
 |cons p d f =>
  intro _ r;rw[iJ]at r
  cases r with
  | @cons a b as bs h t =>
   refine e1a2 (f t) λe c q=>?_;obtain⟨l,k⟩:=b;exact#[(p.1,k)::e,#[BC h.1,rfl,c],.cons #[rfl,h.2] q]
def a0g(b:List (TE×TE)):TE:=λe H Q=>∀p,H p=none->Ld b e (upd H p<|.dK []) λf c=>c p=↑(.dK [])/\∃a:List (Key×V),f=a.map (λd=>(kV d.1,d.2))/\a.length<=15/\Q (.ref p) (upd c p<|.dK<|EB [] a)
def UJ(h:PPs X pos keys values i)(b:keys.all (·.isSome)=true)(n:keys.length=values.length)(p:keys≠[])
 (j:keys.length<=15):PE X (.Dict keys values pos) (a0g i):=by
  intro d s r H Q I q
  have t:=I.v0.fresh<|hV ⇑s
  have u:=I.laid (a:=⇑s) (o:=.dK []) (h':=s.heap.push 133) (t':=s.toks) (λ_ _ q=>ce _ q) (hV _)<|JG s.heap I.big
  refine wpAny_Dict_walk (knd:=vR X.prog X.w) b n p j<|vX (h d _ r _ _ u<|q _ t) λR S v=>e2a4 v λT U m k e l=>e1a3 l λf x lk y=>?_
  subst x
  refine e1a2 (Le (P:=X.prog) (w:=X.w) k) λA c B=>?_
  obtain⟨z,C,D,E,F⟩:=Nb m.v0 e
  cases E
  refine#[A,c,F,λG g J=>#[.ref ⇑s,_,?_,rfl,y]]
  have L:(EB [] f).length<=hX:=by
    have M:=BD f []
    rw[nP]at M
    rw[jk];lia
  have N:∃q,G.get? ⇑s=↑q:=e3a2 g λq _ _ O _=> #[q,O]
  exact Cb m (by rw[e];exact True.intro) J N<|Ez L C (B.merge .nil) g
structure M1(X:Cx)(o:iZ)(m:Str)(apos:Pos)(e:iZ)(cpos:Pos):Prop where
 base:iW o m X.env (eval o X.env)=eval o X.env
 few:((jE cpos (hR [e] X.env)).all (λx=>!x.1)&&(nC cpos (lp [] X.env)).all (λx=>x.1.isSome)
  && decide (([e]:List iZ).length+([]:List qc).length+(if ([]:List qc).isEmpty then 0 else 1)<30))=true
 line:(apos.endLine==cpos.line)=true
 trees:jE cpos (hR [e] X.env)=[71]
structure M2(X:Cx)(o:iZ)(m:Str)(apos:Pos)(e f:iZ)(cpos:Pos):Prop where
 base:iW o m X.env (eval o X.env)=eval o X.env
 few:((jE cpos (hR [e,f] X.env)).all (λx=>!x.1)&&(nC cpos (lp [] X.env)).all (λx=>x.1.isSome)
  && decide (([e,f]:List iZ).length+([]:List qc).length+(if ([]:List qc).isEmpty then 0 else 1)<30))=true
 line:(apos.endLine==cpos.line)=true
 trees:jE cpos (hR [e,f] X.env)=[71,(false,eval f X.env)]
def IsD(H:Hp)(a:hJ):Prop:=(∃b,Rd H a<|.dK b)\/∃b,Rd H a<|.dT b
def Lf(I:Inv X k l H s)(d:IsD H a) :
  s.TypeIs (.ref a) "dict"/\(∀b,iA a=.ref b->∃c,s.heap.get? b=↑c/\c.dict=none)/\(a==lw)=false:=by
 rcases d with⟨g,e⟩|⟨g,e⟩
 ·obtain⟨_,h,m,_,f⟩:=Ca I.v0 e;refine#[f.typeIs,λb q=>?_,h];cases q;obtain⟨c,_,_,i,j,_⟩:=f;exact#[c,i,j.2.1]
 ·obtain⟨_,h,n,_,f⟩:=DE I.v0 e;refine#[f.typeIs,λb q=>?_,h];cases q;obtain⟨c,_,_,i,j,_⟩:=f;exact#[c,i,j.2.1]
def Yh(r:A.units+1<kX)(I:Inv X d t H s)(g:yB H a y o)(n:RelV y u)(h:∀p q,Inv X d t H q->RelV (o.getD .wW) p->Q p q) :
  ii 58 A (call (.builtin "dict.get") [.ref a,u]) Q E s:=by
 rcases g with⟨i,k,e,j,l⟩|⟨i,k,b,e,j,eb,l⟩
 ·subst j;obtain⟨z,m,x,c,f⟩:=Ca I.v0 e;refine oH kN f.typeIs mO (rW _ _) (meets_dict_get (vR X.prog X.w) a (BC n) m) #[_,f.mapOf,h _ _ (I.tok _) ?_];rw[l];exact(c.val k).getD rfl
 ·subst j;cases (show u=iA b from n);obtain⟨z,m,v,c,f⟩:=DE I.v0 e;refine oH kN f.typeIs mO (rW _ _) (meetsH_dict_get (pI<|vR X.prog X.w) a b m) #[lS r,k,v,BR I.v0 eb,f,h _ _ (I.tok _) ?_];rw[l];exact(c.val k).getD rfl
def Yi(x:A.units+1<kX)(I:Inv X f B H s)(g:yB H a y o)(p:RelV y u)(q:RelV d r)(h:∀t v,Inv X f B H v->RelV (o.getD d) t->Q t v) :
  ii 58 A (call (.builtin "dict.get") [.ref a,u,r]) Q E s:=by
 rcases g with⟨j,k,e,m,l⟩|⟨j,k,b,e,m,eb,l⟩
 ·subst m;obtain⟨z,n,D,c,i⟩:=Ca I.v0 e;refine oH kN i.typeIs mO (rX _ _ _) (meets_dict_get_default (vR X.prog X.w) a (BC p) n r) #[_,i.mapOf,h _ _ (I.tok _) ?_];rw[l];exact(c.val k).getD q
 ·subst m;cases (show u=iA b from p);obtain⟨z,n,C,c,i⟩:=DE I.v0 e;refine oH kN i.typeIs mO (rX _ _ _) (meetsH_dict_get_default (pI<|vR X.prog X.w) a b n r) #[lS x,k,C,BR I.v0 eb,i,h _ _ (I.tok _) ?_];rw[l];exact(c.val k).getD q
def Yj(e f:TE):TE:=λb H Q=>e b H λx c=>∃a,x=.ref a/\IsD c a/\f b c λy d=>∃o,yB d a y o/\Q (o.getD .wW) d
def Yk(e f g:TE):TE:=λb H Q=>e b H λx c=>∃a,x=.ref a/\IsD c a/\f b c λy h=>g b h λz d=>∃o,yB d a y o/\Q (o.getD z) d
def Yl(f g:TE):TE:=λc H Q=>f c H λx d=>∃a,x=.ref a/\IsD d a/\g c d λy e=>∃b k v,e a=↑(.dK b)/\y=kV k/\yK b k=↑v/\Q v (upd e a<|.dK<|AA b k)
def Qw(p:X.A.units+1<kX)(q:PE X o r)(t:PE X e ty)(m:M1 X o "get" apos e c):PE X (.Call (.Attribute o "get" apos) [e] [] c) (Yj r ty):=by intro b s l H Q I h;refine rL m.base m.few m.line oJ kN sw<|vX (q b s l H _ I h) λu v f=>e2a3 f λx H1 n w i=>e1a3 i λa z d B=>?_;subst z;obtain rfl:u=iA a:=w;refine e0a3 (Lf n d) λC D _=>?_;refine#[C,D,?_];rw[m.trees];refine kF rfl<|jQ<|ko<|vX (t b v l H1 _ n B) λM N f=>e2a3 f λy H2 E G j=>e1a2 j λO g J=>lN ?_;exact Yh p E g G λP R L k=>#[_,H2,L,k,J]
def Qx(q:X.A.units+1<kX)(r:PE X o t)(v:PE X e ty)(w:PE X f B)(m:M2 X o "get" apos e f c):PE X (.Call (.Attribute o "get" apos) [e,f] [] c) (Yk t ty B):=by
 intro b s j H Q I h;refine rL m.base m.few m.line oJ kN sw<|vX (r b s j H _ I h) λu C i=>e2a3 i λx H1 p D k=>e1a3 k λa E d G=>?_;subst E;obtain rfl:u=iA a:=D;refine e0a3 (Lf p d) λJ L _=>?_;refine#[J,L,?_];rw[m.trees]
 refine kF rfl (jQ (ko (vX (v b C j H1 _ p G) λW M i=>e2a3 i λy H2 N O P =>
  ko (vX (w b M j H2 _ N P) λY Z i=>e2a3 i λz H3 R S l=>e1a2 l λov g T=>lN ?_))))
 exact Yi q R g O S λw' s4 U n=>#[_,H3,U,n,T]
def Qy(q:PE X o r)(t:PE X e ty)(m:M1 X o "pop" apos e c):PE X (.Call (.Attribute o "pop" apos) [e] [] c) (Yl r ty):=by intro b s n H Q I h;refine rL m.base m.few m.line oJ sv PySem.F.type_dict_pop<|vX (q b s n H _ I h) λu w g=>e2a3 g λx H1 p z i=>e1a3 i λa A d B=>?_;subst A;obtain rfl:u=iA a:=z;refine e0a3 (Lf p d) λC D _=>?_;refine#[C,D,?_];rw[m.trees];refine kF rfl<|jQ<|ko<|vX (t b w n H1 _ p B) λP R g=>e2a3 g λy H2 E G f=>e3a4 f λJ k v L M l N=>lN ?_;subst M;exact a0b E L G l (.inl rfl) λS T O j=>#[v,_,O,j,N]
end L2
namespace Att
open PySem PySem.W PySem.Calls PyProof.Rows
def DS:∀(c:List Int)(d:List ci),WellAll P h d (c.map WData.int)->lF d c:=by
 intro c
 induction c with
 |nil =>
  intro d w;rw[pf]at w;cases w;exact .nil
 |cons n c e =>
  intro d w;rw[iJ]at w
  cases w with
  |cons a b =>
   cases a;exact .cons _ _<|e _ b
def Ov{l:qT}{n:Nat}(o:l.most=↑n) 
 (b:l.row.toRowW.claim.pre args=true) (j:WellAll P h vals args) :
    ∃a m c,vals=[iA a]/\args=[WData.list<|c.map WData.int]/\h.get? a=some { cls:=.type "list",data:=.seq m.toArray}/\lF m c/\c.length<=n:=by
  have k:WShape.hasAll [] args [.list .int]=true:=(pre_splitW b).1
  have p:l.pre.holds [] { args:=args}=true:=(pre_splitW b).2
  obtain⟨d,r,rfl,s,t⟩:=hasAllW_cons k
  obtain rfl:=hasAllW_nil t
  obtain⟨y,rfl,u⟩:=hasW_list s
  obtain⟨c,rfl⟩:=items_int u
  have e:c.length<=n:=by
    have g:(WTm.not<|.lt (.lit<|.int (n:Int))<|.len<|.arg 0).holds [] { args:=[.list<|c.map .int]}=true:=by
      have g:=(holds_andW p).1
      rw[o]at g
      exact g
    have i:=condW_of g<|w_not<|w_lt w_lit<|w_len_list<|w_arg rfl
    rw[h8]at i
    refine ro λq=>?_
    first
      | (rw[decide_eq_true z]at i;exact iq i q0q)
      | (simp at i;omega)
  cases j with
  |cons v w =>
    cases w
    cases v with
    |list x f=>exact#[_,_,c,rfl,rfl,x,DS c _ f,e]
def Ox(l:qT)(args:List WData):l.row.toRowW.claim.post args (.bool true) args=true :=
 postW_of (r:=l.row.toRowW) (X:=(true==true))
  (show WShape.has [] (.bool true) .bool=true by first|rfl|decide|simp[WShape.has,WShape.arms,WShape.armsAll])
  (show (WTm.eq .res<|.lit<|.bool true).value [] { args:=args,res:=some<|.bool true,after:=args}=some (.bool<|true==true) from w_eq_bool (w_res rfl) w_lit) rfl
def JH{l:qT}{n:Nat}{XP:(Str->Option ci)->ja->Prop}{d:DefRec}
 (E:l.most=↑n) (x:d.params.defaults=[])
 (call:∀(w:jf)(c b:ic)(s y:Str->Option ci)(j:hJ)(o:Obj)(pm t e:ci)(a:hJ)(i:List ci)(u:List Int),
 Ground q g [] XP w c s y b.heap->F w b.heap ->
 b.heap.get? j=↑o->o.data=.func (docDef d.name d.params d.body d.scope pm t e)->b.heap.CodeRec t d.name->s d.name=↑(.ref j) ->
 b.heap.get? a=some { cls:=.type "list",data:=.seq i.toArray}->lF i u->u.length<=n->b.gens=#v[] ->
 mX (ij l.prog w) rM (.call (.ref j) #[[.ref a],[]]) (λr v=>r=.ok (.ret (.bool true))/\OldK b.heap v.heap/\v.os=b.os/\nY v.gens) b) :
    uZ q g XP F l.row.toRowW d [] (λf i=>ug f i):=by
  intro w c b s y G Y j o pm t e H kV I hd z C A J args vals as k D L B M
  obtain rfl:H=.none:=Dflts.none C x
  obtain rfl:kV=.none:=Dflts.noKw C
  obtain⟨a,i,u,rfl,rfl,m,h,p⟩:=Ov E k B
  refine enter_call<|kh (call w c b s y j o pm t e a i u G Y I (fd_plain hd) z A m h p J) λr v N=>?_
  obtain⟨rfl,O,P,Q⟩:=N
  exact#[.inl #[.bool true,.bool true,[],rfl,λ_=>rfl,.bool true,Ox l _,λ_=>#[iO,λ_ R=>(nomatch R)]],O,P,Q]
end Att
namespace L2
open PySem PySem.Spec PyProof.Rows
def GG:∀{a:List ci} {b:List Int},lF a b->Vals (b.map V.int) a:=by
 intro _ _ z
 induction z with
 |nil=>exact .nil
 |cons n t h c=>exact .cons #[t,rfl] c
noncomputable def wq(s:iH):Arguments:=match s with
 | .FunctionDef _ a _ _ _ _ _ _ _ _=>a
 |_=>{ posonlyargs:=[],args:=[],vararg:=none,kwonlyargs:=[],kw_defaults:=[],kwarg:=none,defaults:=[]}
noncomputable def vS(s:iH):List iH:=match s with
 | .FunctionDef _ _ b _ _ _ _ _ _ _=>b
 |_=>[]
noncomputable def vg(s:iH):mB:=match s with
 | .FunctionDef _ _ _ _ _ _ sc _ _ _=>sc
 |_=>{ kind:=.function,names:=[],isGenerator:=false,isCoroutine:=false}
abbrev Qz:Qe:=λ_ _ _ _ _ _=>False
abbrev E0:XK:=λ_ _ _=>False
structure za(K:hO)(x qual:Str)(st:iH)(f:hJ)(fd:iX):Prop where
 ex:∃(oc:ci)(od:Option hJ)(kV doc pm:ci)(an:Option hJ)(Ui ct:ci) (Oy:Array (Option ci)),
  fd=jS x qual (wq st) (vS st) (vg st) .none kV doc pm an Ui ct/\K.lookup f=some #[oc,od,.func fd,Oy]/\jJ K Ui qual=true
 kp:jz K (.ref f)=true
section
variable{P:iQ}{w:jf}{K:hO}{mg:Str->Option ci}{base:ja}
def za.ok{g:iH}{k:Nat}(F:za K x c g f o)(S:vp N m (vg g))(i:∀d H Q E,n d H Q E->d.length=m.length)
 (e:∀(b:ci)(A:jN)(a:List Env)(s:ic)(H:Hp)(d:List V)(Q:VK)(E:XK),wM k (A.deeper (oY c (vg g) ⇑s f b))->n d H Q E ->
 ∃t,FX (wd Qz P w K mg base N c (vg g) f b A a s H E).nox (vS g) t/\t { nx:=λ_ p=>Q .wW p,rt:=Q} (start N d) H):vU P w K mg base Qz (k+1) f o m n:=by
  obtain⟨y,z,B,r,C,D,b,G,u,rfl,lk,j⟩:=F.ex
  refine JC lk j S i λA a s H d Q E v l=>?_
  refine e1a2 (e b A a s H d Q E v l) λt h q=>?_
  exact#[t,h.nox,q]
def za.binds{d:iH}{ps:List Str}(F:za K x c d f l)
 (h:∀(e a g:ci)(i:Option hJ)(b j:ci)(k:List ci),k.length=ps.length->tq (jS x c (wq d) (vS d) (vg d) .none e a g i b j) #[k,[]]=pure (ps.zip k)):Binds K l ps []:=by
  obtain⟨o,p,e,a,g,i,b,j,m,rfl,lk,n⟩:=F.ex
  exact .all<|h e a g i b j
def EC{st:iH}{e:ci}(l:K.lookup f=some #[j,m,.func<|jS x a (wq st) (vS st) (vg st) .none e d pm h b i,g])
 (c:jJ K b a=true)(k:jz K (.ref f)=true):za K x a st f (jS x a (wq st) (vS st) (vg st) .none e d pm h b i):=#[#[j,m,e,d,pm,h,b,i,g,rfl,l,c],k]
end
def Oz{n:Nat}(h:n<=1000):n<hX:=jv h q0q
def pv(i:Nat)(b:X.N[i]?=↑x:=by rfl)(c:Vis X.env.scope x:=by first|exact lJ rfl|exact uV (lJ rfl)|exact uV<|uV rfl)(d:(x==70)=false:=by decide)
 (a:(x==("__classdict__":Str))=false:=by decide):PE X 101 (vT i):=KH b c d a
def OA:zc X (.builtin "len") (λc H Q=>∃a b,c=[V.ref a]/\H a=↑(.dK b)/\Q (.int b.length) H):=by intro d s i H c j Q I r h;obtain⟨a,b,rfl,e,q⟩:=h;obtain⟨u,rfl,f⟩:=vals1 r;cases f;exact a0c I (.inl e) λt k g=>#[.int b.length,H,g,#[t,rfl],q]
def a2z{A B:Prop}(h:A):if true=true then A else B:=by rw[cr rfl];exact h
def UK{c A B:Prop}[Decidable c](a:c->A)(b:¬c->B):if c then A else B:=by
 by_cases h:c
 ·rw[cr h];exact a h
 ·rw[hI h];exact b h
def DT(H a:Hp):Prop:=∀b o,H b=↑o->a b=↑o
def DT.trans{d e:Hp}(a:DT H d)(b:DT d e):DT H e:=λc o h=>b c o<|a c o h
def DT.free(e:DT H a)(h:a l=Option.none):H l=Option.none:=by
 cases q:H l with
 |none=>rfl
 |some o =>
  rw[e l o q]at h;cases h
def DT.seq{K:hO}(e:DT H b)(h:wI K H a c):wI K b a c:=by
 rcases h with(h|⟨o,h⟩)|h
 ·exact .inl<|.inl<|e _ _ h
 ·exact .inl<|.inr #[o,e _ _ h]
 ·exact .inr h
end L2
namespace SX
open PySem
def Ao(a:Array Nat):Prop:=a.toList.Pairwise (· < ·)
def D7(r:Ao c){i j a b:Nat}(d:c.toList[i]?=↑a)(e:c.toList[j]?=↑b)(h:i<j):a<b:=by obtain⟨f,g⟩:=List.getElem?_eq_some_iff.mp d;obtain⟨k,l⟩:=List.getElem?_eq_some_iff.mp e;have:=List.pairwise_iff_getElem.mp r i j f k h;rw[g,l]at this;exact this
def UL(f:Array Nat)(j:Nat)(r:Ao f):∀(b d c:Nat),d<=c->c<=f.size->c-d<=b ->
  (∀i a,i<d->f.toList[i]?=↑a->a<j)->(∀i a,c<=i->f.toList[i]?=↑a->j<=a) ->
  nE f j b d c<=f.size/\(∀i a,i<nE f j b d c->f.toList[i]?=↑a->a<j) /\
   (∀i a,nE f j b d c<=i->f.toList[i]?=↑a->j<=a):=by
 intro b
 induction b with
 |zero =>
  intro d c t k u l m;have e:d=c:=by omega
  subst e;exact#[k,l,m]
 |succ b s =>
  intro d c t k u l m;unfold nE;by_cases h:d<c
  ·rw[cr h];have n:(d+c) / 2<f.size:=by omega
   have g:f.toList[(d+c) / 2]?=↑(f.getD ((d+c) / 2) j):=by rw[iY,lO];rw[jH n];rfl
   by_cases o:f.getD ((d+c) / 2) j<j
   ·rw[cr o];refine s _ _ q0d k q0d (λi a p e=>?_) m;by_cases q:i=(d+c) / 2
    ·subst q;rw[g]at e;cases e;exact o
    ·have:=D7 r e g q0d;omega
   ·rw[hI o];refine s _ _ q0d q0d q0d l<|λi a p e=>?_;by_cases q:i=(d+c) / 2
    ·subst q;rw[g]at e;cases e;omega
    ·have:=D7 r g e q0d;omega
  ·rw[hI h];have e:d=c:=by omega
   subst e;exact#[k,l,m]
def zR(r:Ao b)(j:Nat):iw b j<=b.size/\(∀i a,i<iw b j->b.toList[i]?=↑a->a<j) /\
  (∀i a,iw b j<=i->b.toList[i]?=↑a->j<=a):=by
 refine UL b j r b.size 0 b.size (jp _) (hV _) q0a (λi a h=>by lia)<|λi a h e=>?_;have:=(List.getElem?_eq_some_iff.mp e).1;rw[ig]at this
 lia
def below_at(r:Ao b){i j:Nat}(h:b.toList[i]?=↑j):iw b j=i:=by
 obtain⟨f,c,d⟩:=zR r j;rcases uW (iw b j) i with q|q|q
 ·cases e:b.toList[iw b j]? with
  |none =>
   have:=List.getElem?_eq_none_iff.mp e;have:=(List.getElem?_eq_some_iff.mp h).1
   lia
  |some a =>
   have:=D7 r e h q;have:=d _ a (hV _) e
   lia
 ·exact q
 ·have:=c i j q h
  lia
def Lg(r:Ao b){i j:Nat}(h:b.toList[i]?=↑j):iw b (j+1)=i+1:=by
 obtain⟨f,c,d⟩:=zR r<|j+1;rcases uW (iw b<|j+1) (i+1) with q|q|q
 ·have:=d i j q0a h
  lia
 ·exact q
 ·cases e:b.toList[i+1]? with
  |none =>
   have:=List.getElem?_eq_none_iff.mp e;rw[ig]at this
   lia
  |some a =>
   have:=D7 r h e q0a;have:=c (i+1) a q e
   lia
def Lh(r:Ao b):iw b 0=0:=by
 obtain⟨f,d,g⟩:=zR r 0
 cases e:iw b 0 with
 |zero=>rfl
 |succ k =>
  cases c:b.toList[0]? with
  |none =>
   have:=List.getElem?_eq_none_iff.mp c;rw[ig]at this
   lia
  |some a =>
   have:=d 0 a q0a c
   lia
def toList_erase(a:Array b)(p:Nat):(jm a p).toList=a.toList.take p++a.toList.drop (p+1):=by unfold jm;rw[qd,nI,nI];simp[jI]
def ED(a:Array b)(p:Nat)(x:b):(jy a p x).toList=a.toList.take p++x::a.toList.drop p:=by unfold jy;rw[qd,qz,nI,nI];simp[jI]
def Li(r:Ao a)(p:Nat):Ao (jm a p):=by
 unfold Ao;rw[toList_erase];refine List.Pairwise.sublist ?_ r
 conv=>rhs;rw[<- tF p a.toList]
 exact List.Sublist.append (List.Sublist.refl _)<|List.drop_sublist_drop_left _<|mh p
def QA(r:Ao c){j:Nat}(f:j∉c.toList):Ao (jy c (iw c j) j):=by
 obtain⟨t,g,h⟩:=zR r j;unfold Ao;rw[ED];have k:(c.toList.take (iw c j)++c.toList.drop (iw c j)).Pairwise (· < ·):=by rw[tF];exact r
 obtain⟨l,m,n⟩:=List.pairwise_append.mp k
 have o:∀a∈c.toList.take (iw c j),a<j:=λa d=>by
  obtain⟨i,e⟩:=l8 d;rw[uq]at e;split at e
  ·exact g i a (by assumption) e
  ·cases e
 have p:∀a∈c.toList.drop (iw c j),j<a:=λa d=>by
  obtain⟨i,e⟩:=l8 d;rw[ur]at e;have:=h _ a (o4 _ i) e;have:j≠a:=λq=>f (by rw[q];exact List.mem_of_mem_drop d)
  lia
 refine List.pairwise_append.mpr #[l,List.pairwise_cons.mpr #[p,m],λa d b s=>?_];rcases List.mem_cons.mp s with q|q
 ·rw[q];exact o a d
 ·exact n a d b q
def OB{t:jX}(r:Ao t.place){j:Nat}(h:∀i,t.slot j≠.live i):j∉t.place.toList:=λa=>by obtain⟨i,e⟩:=l8 a;have b:=below_at r e;refine h (iw t.place j) ?_;unfold rF;rw[cr];rw[b,<- iY,e];simp
def Lj{t:jX}{h:Int}:∀(b:Nat)(p:lP),(∀d,p.dummy=↑d->∀i,t.slot d≠.live i) ->
  ∀j c,jY t o h b p=↑(.empty j c)->∀i,t.slot (c.getD j)≠.live i:=by
 intro b
 induction b with
 |zero=>intro p _ j c e;cases e
 |succ b f =>
  intro p g j c e;unfold jY at e
  cases q:t.slot p.j with
  |empty =>
   rw[q]at e;injection e with e;injection e with l m;subst l m
   cases n:p.dummy with
   |none=>intro i z;rw[qH,q]at z;cases z
   |some d=>exact g d n
  |dummy =>
   rw[q]at e;refine f _ (λd a i z=>?_) j c e
   have:d=p.j:=by
    unfold lY at a;split at a
    ·injection a with a;exact a.symm
    ·injection a with a;exact a.symm
   rw[this,q]at z;cases z
  |live k =>
   rw[q]at e;dsimp only at e;split at e
   ·cases e
   ·refine f _ (λd a=>?_) j c e
    have:p.dummy=↑d:=by unfold lY at a;split at a<;>exact a
    exact g d this
set_option tactic.hygienic true in
def JI{t:jX}{h:Int}{j:Nat}{b:Bool}(r:Ao t.place)(e:t.freeSlot h=↑(j,b)):j∉t.place.toList:=by
 refine OB r ?_;unfold qj qZ at e;split at e
 ·rename_i a c f
  injection e with e;injection e with g i;subst g;exact Lj _ _ (λd q=>by cases q) a c f
 ·cases e
def C6{c k l:Nat}{d i:Bool}(e:oj c k l d i m=↑(t,n)) :
  Ao t.place/\t.led=d/\t.plain=i/\t.mask=c/\t.dummies=#v[]/\t.place.size=n.size:=by
 unfold oj at e
 cases q:qk c m with
 |none=>rw[q]at e;cases e
 |some j =>
  rw[q]at e;injection e with e;injection e with o p;subst o p;refine#[?_,rfl,rfl,rfl,rfl,q0o];unfold Ao;rw[ut];rw[List.pairwise_filterMap];refine pB ?_ sW;intro a b f x r y s
  have g:x=a:=by revert r;cases (j.getD a none)<;>simp;intro z;exact z.symm
  have h:y=b:=by revert s;cases (j.getD b none)<;>simp;intro z;exact z.symm
  subst g h;exact f
noncomputable def PQ(m i:Nat):Nat:=(i*5+1)%(m+1)
noncomputable def QB(m:Nat):Nat->Nat->Nat
 | 0,i=>i
 |n+1,i=>QB m n<|PQ m i
noncomputable def orb(m:Nat):Nat->Nat->List Nat
 | 0,_=>[]
 |n+1,i=>i::orb m n (PQ m i)
def Hm(m a b i:Nat):QB m (a+b) i=QB m b (QB m a i):=by
 induction a generalizing i with
 |zero=>rw[tG];rfl
 |succ a c=>rw[Nat.succ_add];exact c _
def UM(m:Nat):∀(n i k:Nat),k∈orb m n i->∃a,a<n/\QB m a i=k:=by
 intro n
 induction n with
 |zero=>intro i k h;cases h
 |succ n b =>
  intro i k h;rcases List.mem_cons.mp h with q|q
  ·exact#[0,q0a,q.symm]
  ·obtain⟨a,c,e⟩:=b _ _ q;exact#[a+1,q0a,e]
noncomputable def Hn(m:Nat):Bool:=QB m (m+1) 0==0&&(iG<|m+1).all λk=>(orb m (m+1) 0).contains k
def GH{m:Nat}(h:Hn m=true):∀i k,i<=m->k<=m->∃n,n<=m/\QB m n i=k:=by
 obtain⟨d,j⟩:=Bool.and_eq_true_iff.mp h;have d:QB m (m+1) 0=0:=by simpa using d
 have c:∀k,k<=m->∃a,a<m+1/\QB m a 0=k:=λk e=>by have:=List.all_eq_true.mp j k<|List.mem_range.mpr q0d;exact UM m _ _ _ (by simpa using this)
 intro i k l e;obtain⟨a,p,f⟩:=c i l;obtain⟨b,q,g⟩:=c k e;by_cases o:a<=b
 ·refine#[b-a,q0d,?_];rw[<- f,<- Hm,show a+(b-a)=b by omega,g]
 ·refine#[m+1-a+b,q0d,?_];rw[<- f,<- Hm,show a+(m+1-a+b)=(m+1)+b by omega,Hm,d,g]
def GI{m i:Nat}(h:i<=m):jx m i<=m/\i<=jx m i:=by unfold jx;split<;>lia
set_option tactic.hygienic true in
def UN{m:Nat}:∀(a i p:Nat),i<=m->∀j,ju m c a i p=↑j->j<=m/\c.getD j ↑0=none:=by
 intro a
 induction a with
 |zero=>intro i p _ j e;cases e
 |succ a d =>
  intro i p f j e;unfold ju at e;split at e
  ·rename_i k b
   injection e with e;subst e;have g:=List.find?_some b;have h:=List.mem_range.mp<|List.mem_of_find?_eq_some b;have:=GI f;refine#[q0d,?_];simpa[Option.isNone_iff_eq_none] using g
  ·dsimp only at e;refine d _ _ ?_ j e;have:=ot (i*5+1+p / 32)<|oa m;exact kB this
set_option tactic.hygienic true in
def Lk{m:Nat}{b:Array (Option Nat)}{k:Nat}(d:b.getD k ↑0=none):∀(n a i:Nat),i<=m->n<a->QB m n i=k->∃j,ju m b a i 0=↑j:=by
 intro n
 induction n with
 |zero =>
  intro a i c g e;obtain⟨a,rfl⟩:∃f,a=f+1:=#[a-1,q0a];have e:i=k:=e;subst e;unfold ju;split
  ·exact#[_,rfl]
  ·rename_i q
   have:=List.find?_eq_none.mp q 0<|List.mem_range.mpr (by have:=(GI c).2;lia);rw[Nat.add_zero,d]at this;exact iq rfl this
 |succ n h =>
  intro a i c g e;obtain⟨a,rfl⟩:∃f,a=f+1:=#[a-1,q0a];unfold ju;split
  ·exact#[_,rfl]
  ·dsimp only
   have l:kE m i 0=(PQ m i,0):=by unfold kE PQ;simp
   rw[l];exact h a (PQ m i) (kB<|ot _<|oa m) q0a e
def OC{m:Nat}{h:Array (Option Nat)}(l:Hn m=true){k:Nat}(d:k<=m)(o:h.getD k ↑0=none):∀(c a i p:Nat),i<=m->p<32 ^ c->c+m+1<=a->∃j,ju m h a i p=↑j:=by
 intro c
 induction c with
 |zero =>
  intro a i p g b q;have:p=0:=by rw[Nat.pow_zero]at b;lia
  subst this;obtain⟨n,s,e⟩:=GH l i k g d;exact Lk o n a i g q0a e
 |succ c r =>
  intro a i p g b q;obtain⟨a,rfl⟩:∃f,a=f+1:=#[a-1,q0a];unfold ju;split
  ·exact#[_,rfl]
  ·dsimp only;refine r a _ (p / 32) (kB<|ot _<|oa m) ?_ q0a;rw[Nat.pow_succ]at b;exact uh (by rw[Nat.mul_comm];exact b)
def QC(x:Nat):∀(l:List (Option Nat)) (j:Nat),l[j]?=↑none->((l.set j<|↑x).filterMap id).Perm (x::l.filterMap id):=by
 intro l
 induction l with
 |nil=>intro j h;simp at h
 |cons a l b =>
  intro j h
  cases j with
  |zero =>
   have:a=none:=by simpa using h
   subst this;simp
  |succ j =>
   have c:l[j]?=↑none:=by simpa using h
   cases a with
   |none=>simpa using b j c
   |some y =>
    have:=b j c;exact(o5 y this).trans<|List.Perm.swap x y _
def has_none:∀(l:List (Option Nat)),(l.filterMap id).length<l.length->∃j:Nat,l[j]?=↑none:=by
 intro l
 induction l with
 |nil=>intro h;simp at h
 |cons a l b =>
  intro h
  cases a with
  |none=>exact#[0,rfl]
  |some y =>
   obtain⟨j,e⟩:=b (by simpa using h);exact#[j+1,by simpa using e]
def Nc(h:Int):jA h<32 ^ 13:=by
 have a:(h%(2 ^ 64:Int)).toNat<2 ^ 64:=by lia
 exact iB a q0q
def QD{m:Nat}(w:Hn m=true):∀(c:List Int) (a:Array (Option Nat)) (k:Nat),a.size=m+1->(a.toList.filterMap id).Perm (iG k)->k+c.length<=m ->
  ∃b,(c.foldl (init:=↑(a,k)) λi h=>do
   let (owner,k) <- i
   let j <- ju m owner (k8 m) (jA h%(m+1)) (jA h)
   pure (owner.setIfInBounds j ↑k,k+1))=↑(b,k+c.length)/\b.size=m+1/\(b.toList.filterMap id).Perm (iG (k+c.length)):=by
 intro c
 induction c with
 |nil=>intro a k d g r;exact#[a,rfl,d,g]
 |cons h c x =>
  intro a k d g r
  have e:(a.toList.filterMap id).length<a.toList.length:=by
   rw[g.length_eq,lU,ig,d]
   lia
  obtain⟨s,t⟩:=has_none _ e
  have l:s<m+1:=by have:=(List.getElem?_eq_some_iff.mp t).1;rw[ig,d]at this;exact this
  have n:a.getD s ↑0=none:=by rw[lO,<- iY,t];rfl
  have u:jA h%(m+1)<=m:=kB<|ot _<|oa m;obtain⟨j,v⟩:=OC w (kB l) n 13 (k8 m) (jA h%(m+1)) (jA h) u (Nc h) (by unfold k8;lia);obtain⟨y,f⟩:=UN _ _ _ u j v
  have o:a.toList[j]?=↑none:=by
   rw[lO]at f;rw[iY]
   cases q:a[j]? with
   |none=>rw[q]at f;cases f
   |some z=>rw[q]at f;have p:z=none:=f;rw[p]
  obtain⟨b,A,B,C⟩:=x (a.setIfInBounds j ↑k) (k+1) (by rw[Array.size_setIfInBounds];exact d) (by
   rw[Array.toList_setIfInBounds];refine(QC k _ _ o).trans<|(o5 k g).trans ?_;rw[List.range_succ]
   exact(ni (l₁:=[k]) (l₂:=iG k))) (by simp at r;lia)
  refine#[b,?_,B,?_]
  ·rw[mH]
   have:(do
     let (owner,k) <- some (a,k)
     let j <- ju m owner (k8 m) (jA h%(m+1)) (jA h)
     pure (owner.setIfInBounds j ↑k,k+1))=↑(a.setIfInBounds j (some k),k+1):=by
    show (ju m a (k8 m) (jA h%(m+1))<|jA h).bind _=_;rw[v];rfl
   rw[this,A];simp only[iF];congr 2
   lia
  ·rw[iF,show k+(c.length+1)=k+1+c.length by lia];exact C
def OD(l:List (Option Nat)):(iG l.length).map (λj=>l.getD j none)=l:=by
 apply qJ;intro i;by_cases h:i<l.length
 ·simp[jG,h]
 ·rw[List.getElem?_eq_none_iff.mpr (by simpa using ro h),List.getElem?_eq_none_iff.mpr<|ro h]
def C7{m fg mv:Nat}{led pl:Bool}{hs:Array Int}(c:Hn m=true)(d:hs.size<=m):∃t b,oj m fg mv led pl hs=↑(t,b)/\b.toList.Perm (iG hs.size):=by
 obtain⟨a,e,s,p⟩:=QD c hs.toList (Array.replicate (m+1) none) 0 q0o q0o (by simpa using d)
 have f:qk m hs=↑a:=by unfold qk;rw[<- Array.foldl_toList];exact congrArg (tY Prod.fst) e
 refine#[_,_,by unfold oj;rw[f];rfl,?_];rw[ut]
 have q:(iG<|m+1).filterMap (λj=>tY (λx:Nat×Nat=>x.2)<|tY (λx=>(j,x))<|a.getD j none)=a.toList.filterMap id:=by
  conv=>rhs;rw[<- OD a.toList]
  rw[uo,ig,s];congr 1
  funext j
  simp only[uN,id,Option.map_map];rw[lO,jG,iY];cases (a[j]?.getD none)<;>rfl
 refine List.Perm.trans (tZ q) ?_;simpa using p
def picked{es:Array (Int×ci)}{a:Array Nat}(h:a.toList.Perm (iG es.size)):(a.filterMap (es[·]?)).toList.Perm es.toList:=by
 rw[Array.toList_filterMap];refine(List.Perm.filterMap _ h).trans<|tZ ?_;apply qJ;intro i
 have:(iG es.size).filterMap (λx=>es[x]?)=es.toList:=by
  have e:(iG es.size).filterMap (λx=>es[x]?)=(iG es.toList.length).filterMap (λx=>es.toList[x]?):=by simp
  rw[e];exact List.filterMap_getElem?_range_length es.toList
 rw[this]
def a2B:Hn 7=true:=by decide +kernel
def a0h:Hn 15=true:=by decide +kernel
def a0i:Hn 31=true:=by decide +kernel
def a0j:Hn 63=true:=by decide +kernel
def Ym:Hn 127=true:=by decide +kernel
def Yn:Hn 255=true:=by decide +kernel
def Yo:Hn 511=true:=by decide +kernel
def Uj(t:jX)(h:Int)(a:Nat)(p:lP):Prop:=∃j d,jY t (λ_=>h+1) h a p=↑(.empty j d)
noncomputable def begin_(m i a:Nat)(b:Option Nat):lP:={ j:=i,more:=jx m i-i,i:=i,perturb:=a,dummy:=b}
def Nd{h:Int}:∀(k a:Nat)(p:lP),p.more=k->(∀b,Uj t h a<|begin_ t.mask (kE t.mask p.i p.perturb).1 (kE t.mask p.i p.perturb).2 b)->Uj t h (a+k+1) p:=by
 intro k
 induction k with
 |zero =>
  intro a p g d
  have c:∀b,t.advance { p with dummy:=b}=begin_ t.mask (kE t.mask p.i p.perturb).1 (kE t.mask p.i p.perturb).2 b:=λb=>by unfold lY;rw[hI<|by show ¬p.more>0;lia];rfl
  unfold Uj jY
  cases q:t.slot p.j with
  |empty=>exact#[_,_,rfl]
  |dummy=>dsimp only;rw[c];exact d _
  |live i =>
   dsimp only;rw[hI<|by simp;lia];have:=c p.dummy;have e:({ p with dummy:=p.dummy}:lP)=p:=rfl;rw[e]at this;rw[this];exact d _
 |succ k l =>
  intro a p g d
  have f:∀b,Uj t h (a+k+1) (t.advance { p with dummy:=b}):=λb=>by
   have e:t.advance { p with dummy:=b}={ p with j:=p.j+1,more:=p.more-1,dummy:=b}:=by unfold lY;rw[cr<|by show p.more>0;lia]
   rw[e];exact l a _ (by show p.more-1=k;lia) d
  unfold Uj jY
  cases q:t.slot p.j with
  |empty=>exact#[_,_,rfl]
  |dummy=>exact f _
  |live i =>
   dsimp only;rw[hI<|by simp;lia];exact f p.dummy
def UO{t:jX}{h:Int}{p:lP}(e:t.slot p.j=.empty)(a:Nat):Uj t h (a+1) p:=by unfold Uj jY;rw[e];exact#[_,_,rfl]
def Nf(m i:Nat):jx m i-i<=9:=by unfold jx;split<;>lia
def a2C{t:jX}{h:Int}{k:Nat}(d:t.slot k=.empty):∀(n i a:Nat),QB t.mask n i=k->10*(n+1)<=a->∀c,Uj t h a (begin_ t.mask i 0 c):=by
 intro n
 induction n with
 |zero =>
  intro i a e g c;obtain⟨f,rfl⟩:∃f,a=f+1:=#[a-1,q0a];subst e;exact UO d f
 |succ n j =>
  intro i a e g c;have m:=Nf t.mask i
  have z:=Nd (t:=t) (h:=h) (jx t.mask i-i) (a-(jx t.mask i-i)-1) (begin_ t.mask i 0 c) rfl (λb=>by
   have l:kE t.mask i 0=(PQ t.mask i,0):=by unfold kE PQ;simp
   show Uj t h _ (begin_ t.mask (kE t.mask i 0).1 (kE t.mask i 0).2 b);rw[l]
   exact j (PQ t.mask i) _ e q0a b)
  rw[show a-(jx t.mask i-i)-1+(jx t.mask i-i)+1=a by lia]at z;exact z
def a2D{t:jX}{h:Int}{k:Nat}(m:Hn t.mask=true)(g:k<=t.mask)(o:t.slot k=.empty):∀(c i b a:Nat),i<=t.mask->b<32 ^ c->10*(c+t.mask+1)<=a->∀d,Uj t h a (begin_ t.mask i b d):=by
 intro c
 induction c with
 |zero =>
  intro i b a l f p d;have:b=0:=by rw[Nat.pow_zero]at f;lia
  subst this;obtain⟨n,r,e⟩:=GH m i k l g;exact a2C o n i a e q0a d
 |succ c q =>
  intro i b a l f p d;have s:=Nf t.mask i
  have z:=Nd (t:=t) (h:=h) (jx t.mask i-i) (a-(jx t.mask i-i)-1) (begin_ t.mask i b d) rfl (λj=>by
   refine q _ _ _ (kB<|ot _<|oa _) ?_ q0a j;rw[Nat.pow_succ]at f
   exact uh (by rw[Nat.mul_comm];exact f))
  rw[show a-(jx t.mask i-i)-1+(jx t.mask i-i)+1=a by lia]at z;exact z
def zy[DecidableEq d]:∀(l m:List d),l.Nodup->(∀x∈l,x∈m)->l.length<=m.length:=by
 intro l
 induction l with
 |nil=>intro m _ _;exact jp _
 |cons x r e =>
  intro m f b;obtain⟨g,h⟩:=List.nodup_cons.mp f;have a:=b x hW;have i:=e (m.erase x) h λy c=>(List.mem_erase_of_ne<|λ(z:y=x)=>g<|by rw[<- z];exact c).mpr<|b y<|hZ _ c;rw[List.length_erase_of_mem a]at i;have:0<m.length:=List.length_pos_of_mem a;rw[iF];omega
def JJ(l:List Nat)(m:Nat)(h:l.length<=m):∃j,j<=m/\j∉l:=by
 refine q7 λb=>?_;have a:∀j,j<=m->j∈l:=λj c=>q7 λq=>b #[j,c,q];have:=zy (iG<|m+1) l List.nodup_range λx d=>a x<|kB<|List.mem_range.mp d;rw[lU]at this
 lia
def Ll{t:jX}{n:Nat}(e:t.fits n=true):∃j,j<=t.mask/\t.slot j=.empty:=by
 have c:t.place.size+t.dummies.size<=t.mask:=by simp only[uO,i7,i9]at e;exact e.2
 obtain⟨j,f,d⟩:=JJ (t.place.toList++t.dummies.toList) t.mask (by simpa using c);refine#[j,f,?_];rw[lM,qe]at d
 have b:∀(a:Array Nat),j∉a.toList->(a[iw a j]?==↑j)=false:=λa g=>by
  cases q:a[iw a j]? with
  |none=>rfl
  |some x =>
   have h:x∈a.toList:=by rw[<- iY]at q;exact j0 q
   have:x≠j:=λz=>g<|z▸h;simp[this]
 unfold rF;dsimp only;rw[b _ d.1];unfold kU;rw[b _ d.2];rfl
def F9{t:jX}{n:Nat}(c:Hn t.mask=true)(f:t.fits n=true)(h:Int):∃j b,t.freeSlot h=↑(j,b):=by obtain⟨k,a,g⟩:=Ll f;obtain⟨j,d,e⟩:=a2D (h:=h) c a g 13 (jA h%(t.mask+1)) (jA h) (10*k8 t.mask) (kB<|ot _<|oa _) (Nc h) (by unfold k8;lia) none;refine⟨d.getD j,d.isSome,?_⟩;unfold qj qZ SetTable.probeStart;have l:jY t (λ_=>h+1) h (10*k8 t.mask) { j:=jA h%(t.mask+1),more:=jx t.mask (jA h%(t.mask+1))-jA h%(t.mask+1),i:=jA h%(t.mask+1),perturb:=jA h,dummy:=none}=↑(.empty j d):=e;rw[l]
def JK{t:jX}{h:Int}:∀(b:Nat)(p:lP),(∀d,p.dummy=↑d->kU t.dummies d=true) ->
  ∀j d,jY t l h b p=↑(.empty j<|some d)->kU t.dummies d=true:=by
 intro b
 induction b with
 |zero=>intro p _ j d e;cases e
 |succ b f =>
  intro p g j d e;unfold jY at e
  cases q:t.slot p.j with
  |empty =>
   rw[q]at e;injection e with e;injection e with m i;exact g d i
  |dummy =>
   rw[q]at e;refine f _ (λc a=>?_) j d e
   have:c=p.j:=by
    unfold lY at a;split at a
    ·injection a with a;exact a.symm
    ·injection a with a;exact a.symm
   rw[this];unfold rF at q;dsimp only at q;split at q
   ·cases q
   ·split at q
    ·assumption
    ·cases q
  |live k =>
   rw[q]at e;dsimp only at e;split at e
   ·cases e
   ·refine f _ (λc a=>?_) j d e
    have:p.dummy=↑c:=by unfold lY at a;split at a<;>exact a
    exact g c this
set_option tactic.hygienic true in
def EE{t:jX}{h:Int}{j:Nat}(e:t.freeSlot h=↑(j,true)):kU t.dummies j=true:=by
 unfold qj qZ at e;split at e
 ·rename_i a b c
  injection e with e;injection e with f g
  cases b with
  |none=>cases g
  |some d =>
   subst f;exact JK _ _ (λd q=>by cases q) a d c
 ·cases e
def QE{j:Nat}(h:kU a j=true):iw a j<a.size:=by
 unfold kU at h;have b:a[iw a j]?=↑j:=by simpa using h
 exact(Array.getElem?_eq_some_iff.mp b).1
def BS(a:Array b)(p:Nat)(h:p<a.size):(jm a p).size=a.size-1:=by
 rw[<- ig,toList_erase,io,mj,nq,ig]
 lia
def zA(a:Array b)(p:Nat)(x:b):(jy a p x).size=a.size+1:=by rw[<- ig,ED,io,iF,mj,nq,ig];omega
def ym{t:jX}{n:Nat}:t.fits n=true↔t.place.size=n/\t.place.size+t.dummies.size<=t.mask:=by unfold uO lA;simp
def Good(m:Nat):Prop:=m=7\/m=15\/m=31\/m=63\/m=127\/m=255\/m=511
def Good.Hn{m:Nat}(h:Good m):Hn m=true:=by
 rcases h with q|q|q|q|q|q|q<;>rw[q]
 ·exact a2B
 ·exact a0h
 ·exact a0i
 ·exact a0j
 ·exact Ym
 ·exact Yn
 ·exact Yo
def EF{n:Nat}(h:n<=511):Good (jb n-1)/\n<jb n:=by
 have q:((iG 512).all λn=>[8,16,32,64,128,256,512].contains (jb n)&&decide (n<jb n))=true:=by decide +kernel
 have q:=List.all_eq_true.mp q n<|List.mem_range.mpr q0a;obtain⟨q1,q2⟩:=Bool.and_eq_true_iff.mp q;refine#[?_,by simpa using q2];have q1:jb n=8\/jb n=16\/jb n=32\/jb n=64\/jb n=128\/jb n=256\/jb n=512:=by simpa using q1
 rcases q1 with e|e|e|e|e|e|e<;>rw[e]<;>unfold Good<;>decide
structure TOk(t:jX)(n:Nat):Prop where
 fits:t.fits n=true
 rise:Ao t.place
 plain:t.plain=true
 good:Good t.mask
 room:t.fill*5<t.mask*3
set_option tactic.hygienic true in
def UP{t:jX}{c:Array (Int×ci)}{h:Int}{x:ci}(k:TOk t c.size)(q:c.size<=126) :
  ∃d g,layNew t c h x=(jy c (iw t.place ((t.freeSlot h).getD (0,false)).1) (h,x),d,g,false)/\d.led=t.led/\d.plain=true/\d.fits (c.size+1)=true/\Ao d.place/\Good d.mask/\(g=true->d.fill*5<d.mask*3):=by
 obtain⟨j,b,e⟩:=F9 k.good.Hn k.fits h;obtain⟨n,r⟩:=ym.mp k.fits;have f:=k.room;unfold lA at f
 have l:(94).size<=t.dummies.size/\(b=true->(94).size+1<=t.dummies.size):=by
  split
  ·rename_i i
   rw[BS _ _<|QE i];have:=QE i;exact⟨q0a,λ_=>by lia⟩
  ·rename_i i
   refine#[hV _,λm=>?_];subst m;exact iq (EE e) i
 have a:(t.put j).1.fits (c.size+1)=true:=by
  refine ym.mpr #[?_,?_]
  ·show (jy t.place (iw t.place j) j).size=_;rw[zA,n]
  ·show (jy t.place (iw t.place j) j).size+(94).size<=t.mask;rw[zA]
   lia
 refine#[(t.put j).1,b,?_,rfl,k.plain,a,QA k.rise<|JI k.rise e,k.good,λm=>?_]
 ·unfold layNew;rw[e];dsimp only;have o:(t.put j).2=iw t.place j:=rfl;have p:(jy c (iw t.place j) (h,x)).size=c.size+1:=zA _ _ _;rw[o,p];unfold SetTable.orStandIn;rw[cr a,a];rfl
 ·have:=l.2 m;show ((jy t.place (iw t.place j) j).size+(94).size)*5<t.mask*3;rw[zA]
  lia
def OE{t:jX}{es:Array (Int×ci)}(v:1<=es.size)(h:es.size<=127)(m:t.plain=true):∃a c,tH t es (mJ es.size)=(a,c,false)/\a.toList.Perm es.toList/\TOk c a.size/\c.led=t.led:=by
 have o:mJ es.size=es.size*4:=by unfold mJ;rw[hI q0a]
 obtain⟨j,w⟩:=EF (n:=es.size*4) q0a;obtain⟨c,f,e,p⟩:=C7 (fg:=t.finger) (mv:=t.movedTo<|jb (es.size*4)-1) (led:=t.led) (pl:=t.plain) (hs:=es.map (·.1)) j.Hn (by rw[mU];lia);obtain⟨q,r,s,g,k,i⟩:=C6 e;rw[mU]at p;have l:=picked p;have u:(f.filterMap (es[·]?)).size=es.size:=by rw[<- ig,l.length_eq,ig]
 have b:f.size=es.size:=by rw[<- ig,p.length_eq,lU]
 have d:c.fits (f.filterMap (es[·]?)).size=true:=by
  refine ym.mpr #[by rw[i,u,b],?_];rw[i,k,b,g];show es.size+0<=_
  lia
 refine#[f.filterMap (es[·]?),c,?_,l,#[d,q,s.trans m,by rw[g];exact j,?_],r]
 ·unfold tH;rw[o];unfold SetTable.relaid;rw[e];dsimp only;rw[cr];rw[d,Bool.and_true];exact List.isPerm_iff.mpr p
 ·unfold lA;rw[i,k,b,g];show (es.size+0)*5<_
  lia
open PyProof.Rows
def zd(e:Int×ci)(k:Int):Prop:=e.1=nX k/\∃t,e.2=md k t
noncomputable abbrev xI(a:Array (Int×ci))(b:Nat)(t:jX):Obj:={ cls:=.type "set",dict:=none,data:=.set a b t,slots:=#v[]}
structure W7(w:jf)(es:Array (Int×ci))(t:jX)(ks:List Int):Prop where
 ent:Paired zd es.toList ks
 nd:ks.Nodup
 small:es.size<=127
 tab:TOk t es.size
 led:w.params.followText "set-order"=true\/t.led=true
def zS{n:Nat}(h:n<=127):n<scanBound:=by have e:scanBound=4096:=rfl;rw[e];lia
def yU{n:Nat}(h:n<=127):n<=hX:=fits_of_scanBound<|zS h
def wh(w:jf)(a:hJ)(c:List Int)(h:ja):Prop:=∃b d t,h.get? a=↑(xI b d t)/\W7 w b t c
def yo{k n:Type}{F:k->n->Prop}{l o:List k}(p:l.Perm o):∀{m:List n},Paired F l m->∃e,m.Perm e/\Paired F o e:=by
 induction p with
 |nil=>intro m h;exact#[m,.refl _,h]
 |cons x _ q =>
  intro m h
  cases h with
  |cons a b =>
   refine e1a2 (q b) λe f g=>?_;exact#[_,.cons _ f,.cons a g]
 |swap x y l =>
  intro m h
  cases h with
  |cons a b =>
   cases b with
   |cons c d=>exact#[_,.swap _ _ _,.cons c<|.cons a d]
 |trans _ _ i j =>
  intro m h;refine e1a2 (i h) λu f g=>?_;refine e1a2 (j g) λr s t=>?_;exact#[r,f.trans s,t]
def Ho:∀{g:List (Int×ci)} {h:List Int},Paired zd g h->∀k,(k∈h↔∃e∈g,nw k e.2=true):=by
 intro o p l
 induction l with
 |nil=>intro k;simp
 | @cons e j _ _ m r b =>
  intro k;have n:=b k;obtain⟨_,t,c⟩:=m
  have i:nw k e.2=true↔k=j:=by rw[c];simp[nw];exact eq_comm
  rw[iK,n];constructor
  ·rintro(z|⟨d,f,a⟩)
   ·exact#[e,hW,i.mpr z]
   ·exact#[d,hZ _ f,a]
  ·rintro⟨d,f,a⟩;rcases List.mem_cons.mp f with z|z
   ·rw[z]at a;exact .inl<|i.mp a
   ·exact .inr #[d,z,a]
def C8{a:iQ}{w:jf}:∀{d:List (Int×ci)} {g:List Int},Paired zd d g->ElemsOf (kP a w) d:=by
 intro l m h
 induction h with
 |nil=>exact λe b=>by cases b
 | @cons x j _ _ i r c =>
  intro e b;rcases List.mem_cons.mp b with z|z
  ·subst z;obtain⟨k,t,f⟩:=i;refine#[#[j,?_,k],?_]
   ·rw[f];exact qf _ _ _ _
   ·rw[f];rfl
  ·exact c e z
def Ng(h:Paired zd a b):a.length=b.length:=Paired.length h
def W7.size{w:jf}{a:Array (Int×ci)}{t:jX}{b:List Int}(h:W7 w a t b):a.size=b.length:=by rw[<- ig];exact Ng h.ent
def wh.nodup(x:wh w a b h):b.Nodup:=by refine e3a2 x λc d t e k=>?_;exact k.nd
def wh.of{b:iQ}{w:jf}{a:hJ}{c:List Int}{h:ja}(x:wh w a c h):h.SetOf (kP b w) a (λk=>decide<|k∈c) c.length:=by refine e3a2 x λd f t e k=>?_;exact#[_,d,f,t,e,#[rfl,rfl,rfl],rfl,C8 k.ent,λj=>by rw[i9];exact Ho k.ent j,zS k.small,k.tab.fits,k.size]
def wh.keep{b:ja}(x:wh w a c h)(k:∀o,h.get? a=↑o->b.get? a=↑o):wh w a c b:=by refine e3a2 x λd f t e r=>?_;exact#[d,f,t,k _ e,r]
def wh.lt(x:wh w a b h):a<h.objs.size:=by refine e3a2 x λc d t e r=>?_;exact ie e
def wh.typeIs{w:jf}{a:hJ}{b:List Int}{s:ic}(x:wh w a b s.heap):s.TypeIs (.ref a) "set":=by refine e3a2 x λc d t e r=>?_;exact#[_,e,rfl]
def UQ{h:ja}{a:hJ}{f b:Array (Int×ci)}{d:Nat}{t c:jX}(e:h.get? a=↑(xI f d t)):(h.update a<|Obj.putSet b c).get? a=↑(xI b (d+1) c):=by have z:=jd (Obj.putSet b c) e (by rw[putSet_of b c rfl];rfl);rw[putSet_of b c rfl]at z;exact z
def A9{i b:Array (Int×ci)}{d:Nat}{t f:jX}{Q:Unit->ic->Prop}(e:s.heap.get? a=↑(xI i d t))(j:b.size<=hX)
  (h:∀c,jl a s.heap c->c.get? a=↑(xI b (d+1) f)->Q () { s with heap:=c}):ii (ij g w) A (tJ a b f) Q E s :=
 wpAny_storeSet_of e rfl (h _ (oU ..)<|UQ e) j
set_option tactic.hygienic true in
def W8{k:Int}{u:Tok}{Q:Bool->ic->Prop}(S:wh w a i s.heap)(room:i.length+1<=127)
  (h:∀l C,jl a s.heap l->wh w a C l->C.Perm (if k∈i then i else k::i)->Q (!decide (k∈i)) { s with heap:=l}) :
  ii (ij b w) A (setAddHashed a (.int k u)<|nX k) Q E s:=by
 refine e3a2 S λm ep t e K=>?_;have el:ElemsOf (kP b w) m.toList:=C8 K.ent;have hk:(kP b w).is k (.int k u)=true:=qf _ _ _ _;have D:(kP b w).hash k=nX k:=rfl;refine iT<|am<|jw e rfl K.tab.fits ?_;dsimp only;rw[byScan_of (knd:=kP b w) rfl (zS K.small) el,cr rfl];refine am<|am<|mC<|am ?_;rw[<- D];refine wpAny_setScan_of (knd:=kP b w) hk e rfl K.tab.fits el ?_;have F:=Ho K.ent k
 cases hr:sx (λe=>(kP b w).is k e.2) m.toList with
 |some j =>
  refine e1a2 (List.findIdx?_eq_some_iff_getElem.mp hr) λhj hp _=>?_;have G:k∈i:=F.mpr #[_,uX hj,hp];have z:=h s.heap i (mw a s.heap) #[m,ep,t,e,K] (by rw[cr G]);rw[decide_eq_true G]at z;exact ap<|ap z
 |none =>
  have f:k∉i:=λq=>by refine e1a2 (F.mp q) λx hx P=>?_;have:=List.findIdx?_eq_none_iff.mp hr x hx;rw[show (kP b w).is k x.2=true from P]at this;cases this
  have R:m.size<=126:=by rw[K.size];lia
  obtain⟨o,H,le,ll,I,lf,lr,lg,ld⟩:=UP (h:=nX k) (x:=.int k u) K.tab R;have J:=layNew_perm t m (nX k)<|.int k u;rw[D];rw[le]at J ⊢;generalize jy m (iw t.place ((t.freeSlot<|nX k).getD (0,false)).1) (nX k,md k u)=c at J ⊢;rw[qz]at J;have p1:Paired zd ((nX k,md k u)::m.toList) (k::i):=.cons ⟨rfl,u,rfl⟩ K.ent;refine e1a2 (yo (J.trans ni).symm p1) λT pk pe=>?_;have U:c.size=m.size+1:=by rw[<- ig,J.length_eq];simp
  rw[<- U]at lf;have p:c.size<=127:=by lia
  have W:T.Nodup:=pk.nodup_iff.mp<|List.nodup_cons.mpr #[f,K.nd];have g:c.size<=hX:=yU p
  -- ab the end wants,for any uu of X entries
  have L:∀(l:ja) (d:Array (Int×ci)) (v:Nat) (B:jX),jl a s.heap l->l.get? a=↑(xI d v B)->d.toList.Perm c.toList->TOk B d.size->B.led=t.led->Q true { s with heap:=l}:=by
   intro l d v B sb Y pp f2 l2;refine e1a2 (yo pp.symm pe) λZ q1 q2=>?_;have hs:d.size=c.size:=by rw[<- ig,pp.length_eq,ig]
   have z:=h l Z sb #[d,v,B,Y,q2,q1.nodup_iff.mp W,by rw[hs];exact p,f2,by rw[l2];exact K.led] (by rw[hI f];exact q1.symm.trans pk.symm);rw[iC f]at z;exact z
  refine am<|ap ?_
  have n:ii (ij b w) A (do
    tJ a c o
    if (!H&&o.tooFull)=true then do
      (match (tH o c<|mJ c.size).2.2 with|true=>rule "set.scan.the-table-gave-way" |false=>pure ())
      tJ a (tH o c<|mJ c.size).1 (tH o c<|mJ c.size).2.1
      pure ↑true
     else pure ↑true) (λr M=>ii (ij b w) A (match r with|some y=>pure y|none=>setAddHashedIn a (.int k u) (nX k) 99999) Q E M) E s:=by
   refine am<|A9 e g λh1 N o1=>?_;split
   ·refine e2a4 (OE (t:=o) (es:=c) q0a p I) λd B re rp rt rl=>?_;rw[re];refine am<|ap<|am<|A9 (s:={ s with heap:=h1}) o1 ?_ λh2 aa Y=>ap<|ap<|L h2 _ _ _ (N.trans aa) Y rp rt<|rl.trans ll;have:d.size=c.size:=by rw[<- ig,rp.length_eq,ig]
    rw[this];exact g
   ·rename_i O
    refine ap<|ap<|L h1 _ _ _ N o1 (.refl _) #[lf,lr,I,lg,?_] ll
    cases H with
    |true=>exact ld rfl
    |false =>
     have:o.tooFull=false:=by simpa using O
     unfold SetTable.tooFull at this;simpa using this
  split
  ·rw[hashByValue_scannable 8 rfl];exact am<|ap n
  ·exact am<|ap n
def W9{k:Int}(S:wh w a c s.heap)(room:c.length+1<=127)
 (h:∀d b f,jl a s.heap d->wh w a b d->b.Perm (if k∈c then c else k::c)->s.toks<=f->Q (!decide (k∈c)) { s with heap:=d,toks:=f}) :
    ii (ij e w) A (setAdd a<|.int k u) Q E s:=by
  refine iT<|am<|(kP e w).pyHash (k:=k) (qf _ _ _ _) ?_
  exact W8 (s:=103) S room λd b g i p=>h d b _ g i p<|mh _
def QF{a:Array (Int×ci)}{k:Int}:∀{b:List Int},Paired zd a.toList b->b.Nodup->∀{j:Nat},sx (λe=>(kP prog w).is k e.2) a.toList=↑j->b[j]?=↑k:=by
 intro b P _ j f;refine e1a2 (List.findIdx?_eq_some_iff_getElem.mp f) λg h _=>?_
 have:∀{a:List (Int×ci)} {b:List Int},Paired zd a b->∀(j:Nat)(e:Int×ci),a[j]?=↑e->∃d,b[j]?=↑d/\zd e d:=by
  intro a b P
  induction P with
  |nil=>intro j e z;simp at z
  |cons x _ i =>
   intro j e z
   cases j with
   |zero =>
    have l:=jj z;subst l;exact#[_,rfl,x]
   |succ j=>exact i j e (by simpa using z)
 obtain⟨d,m,_,u,n⟩:=this P j a.toList[j] (by simp[g]);have c:nw k a.toList[j].2=true:=h;rw[n]at c;have:d=k:=by simpa[nw] using c
 rw[<- this];exact m
def zU:∀{l:List b} {m:List c},Paired F l m->∀i,Paired F (l.take i++l.drop (i+1)) (m.take i++m.drop (i+1)):=by
 intro _ _ z
 induction z with
 |nil=>intro i;simpa using Paired.nil
 |cons x r a =>
  intro i
  cases i with
  |zero=>simpa using r
  |succ i=>simpa using Paired.cons x (a i)
def xV{k:Int}:∀{ks:List Int} {j:Nat},ks[j]?=↑k->ks.Perm (k::(ks.take j++ks.drop (j+1)))
 | [],j,e=>by simp at e
 |x::r,0,e=>by
  have:x=k:=by simpa using e
  subst this;simp
 |x::r,j+1,e=>by have:=xV (ks:=r) (j:=j) (by simpa using e);simpa using(o5 x this).trans (List.Perm.swap k x _)
def GJ{k:Int}{Q:Bool->ic->Prop}(S:wh w a c s.heap)
 (h:∀p g,jl a s.heap p->wh w a g p->(if k∈c then c.Perm (k::g) else g=c)->Q (decide<|k∈c) { s with heap:=p}) :
    ii (ij b w) A (setDiscardHashed a (.int k u)<|nX k) Q E s:=by
  refine e3a2 S λd J t e K=>?_
  have F:ElemsOf (kP b w) d.toList:=C8 K.ent
  have L:(kP b w).is k (.int k u)=true:=qf _ _ _ _
  refine am<|am<|jw e rfl K.tab.fits ?_
  dsimp only
  rw[byScan_of (knd:=kP b w) rfl (zS K.small) F,cr rfl]
  refine am<|mC<|am ?_
  rw[show nX k=(kP b w).hash k from rfl]
  refine wpAny_setScan_of (knd:=kP b w) L e rfl K.tab.fits F ?_
  have r:=Ho K.ent k
  cases v:sx (λe=>(kP b w).is k e.2) d.toList with
  |none =>
    have f:k∉c:=λq=>by
      refine e1a2 (r.mp q) λx M y=>?_
      have:=List.findIdx?_eq_none_iff.mp v x M
      rw[show (kP b w).is k x.2=true from y]at this
      cases this
    have z:=h s.heap c (mw a s.heap) #[d,J,t,e,K] (by rw[hI f])
    rw[iC f]at z
    exact ap<|ap z
  |some j =>
    dsimp only
    have i:=QF (prog:=b) (w:=w) K.ent K.nd v
    have n:k∈c:=j0 i
    have B:j<d.size:=by
      have:=(List.findIdx?_eq_some_iff_getElem.mp v).1
      rwa [ig]at this
    rw[tG]
    refine ap<|am<|jw e rfl K.tab.fits ?_
    have G:=ym.mp K.tab.fits
    have C:t.place[j]?=↑t.place[j]!:=by
      rw[jH q0a,getElem!_pos]
    have H:t.drop j={ t with place:=jm t.place j,dummies:=jy t.dummies (iw t.dummies t.place[j]!) t.place[j]!}:=by
      unfold SetTable.drop
      rw[C]
    have o:(jm d j).size=d.size-1:=BS _ _ B
    have l:(jm t.place j).size=d.size-1:=by rw[BS _ _ q0a];lia
    have I:W7 w (jm d j) (t.drop j) (c.take j++c.drop (j+1)):=by
      refine#[by rw[toList_erase];exact zU K.ent j,?_,by rw[o];have:=K.small;lia,?_,?_]
      · have := (xV i).nodup_iff.mp K.nd
        exact(List.nodup_cons.mp this).2
      · have m := K.tab.room
        unfold lA at m
        rw[H]
        refine#[ym.mpr #[?_,?_],Li K.tab.rise j,K.tab.plain,K.tab.good,?_]
        · show (jm t.place j).size = _
          rw[l,o]
        · show (jm t.place j).size+(jy t.dummies _ _).size <= t.mask
          rw[l,zA]
          lia
        · show ((jm t.place j).size+(jy t.dummies _ _).size)*5<t.mask*3
          rw[l,zA]
          lia
      · rw[H]; exact K.led
    refine am<|A9 e (yU I.small) λN D O=>?_
    refine am<|wpAny_point ?_
    have z:=h N _ D #[_,_,_,O,I] (by rw[cr n];exact xV i)
    rw[decide_eq_true n]at z
    exact ap z
def EG:∀(l:List a)(i:Nat)(x:a),l[i]?=↑x->(x::l.eraseIdx i).Perm l
 | [],i,x,e=>by simp at e
 |y::r,0,x,e=>by
  have:y=x:=by simpa using e
  subst this;simp
 |y::r,i+1,x,e=>by have:=EG r i x (by simpa using e);rw[oT];exact(List.Perm.swap y x _).trans<|o5 y this
set_option tactic.hygienic true in
def UR(c:Nat->Nat):∀(a k:Nat)(left:List d)(b:Array d),left.length<=a->(rN c a k left b).toList.Perm (b.toList++left):=by
 intro a
 induction a with
 |zero =>
  intro k left b h;have:left=[]:=List.length_eq_zero_iff.mp q0a;subst this;simp[rN]
 |succ a f =>
  intro k left b h;unfold rN;split
  ·rename_i x e
   have g:=(List.getElem?_eq_some_iff.mp e).1;refine(f _ _ _<|by rw[List.length_eraseIdx];split<;>lia).trans ?_;rw[qz,lV];refine oR _ ?_;exact EG _ _ _ e
  ·rename_i e
   cases left with
   |nil=>simp
   |cons y r =>
    have:=List.getElem?_eq_none_iff.mp e;have i:=ot (c k) (show 0<(y::r).length by simp)
    lia
def C9(b:Nat->Nat)(a:Array c):(uv b a).toList.Perm a.toList:=by unfold uv;have:=UR b a.size 0 a.toList #v[] q0o;simpa using this
set_option tactic.hygienic true in
def Yp(S:wh w a f s.heap)(h:∀(c:Array (Int×ci)) (b:List Int),Paired zd c.toList b->b.Perm f->Q c s):ii (ij g w) A (setWalk a) Q E s:=by
 refine e3a2 S λd k t e K=>?_;refine am<|jw e rfl K.tab.fits<|am<|am<|jV<|ap ?_;split
 ·refine am<|jV<|ap ?_;obtain⟨b,p,q⟩:=yo (C9 _ d).symm K.ent;exact h _ b q p.symm
 ·rename_i i
  rw[hI<|by show ¬((!t.plain&&decide (d.size>1))=true);rw[K.tab.plain];simp]
  have j:t.led=true:=by
   rcases K.led with z|z
   ·exact iq z i
   ·exact z
  refine am<|show ii _ A (if (!t.led&&decide (d.size>1))=true then lQ "set:maker-not-led" else pure ()) _ _ _ from ?_;rw[j,hI q0o];exact ap<|ap<|h d f K.ent<|.refl _
def QG(S:wh w a i s.heap)(h:∀(b:Array (Int×ci)) (c:List Int),Paired zd b.toList c->c.Perm i->Q b s) :
  ii (ij d w) A (setWalkUnseen a f g) Q E s:=by
 refine e3a2 (id S) λk l t e K=>?_;refine am<|jw e rfl K.tab.fits<|am<|am<|jV<|ap ?_
 rw[cr (by
  rcases K.led with z|z
  ·have j:(ij d w).w.params.followText "set-order"=true:=z;rw[j];simp
  ·rw[z,K.tab.plain];simp)]
 exact Yp S h
def D8{b:Nat}{n:Nat}(e:s.heap.get? a=↑(xI d b t))(k:t.fits d.size=true)(h:Q b s):ii (ij c w) A (setEpoch a) Q E s :=
 wpAny_setEpoch_of e rfl k h
def Xa{es:Array (Int×ci)}{b:Array Nat}{Q:Array (Int×ci)×jX->ic->Prop}(p:b.toList.Perm (iG es.size))(h:Q (b.filterMap (es[·]?),d) s) :
  ii (ij c w) A (do
   let some (t,order):=↑(d,b)|lQ "internal:set-table-without-room"
   let a:=order.filterMap (es[·]?)
   if a.size != es.size then lQ "internal:set-table-lost-an-element"
   pure (a,t)) Q E s:=by
 have e:(b.filterMap (es[·]?)).size=es.size:=by rw[<- ig,(picked p).length_eq,ig]
 dsimp only;rw[hI<|by rw[e];simp];exact ap h
def DF(w:jf)(r:hJ)(h:ja):Prop:=∃b a,h.get? r=↑(xI #v[] b<|kI 0 0 a)/\(w.params.followText "set-order"=true\/a=true)
def Dd(a:Bool):TOk (kI 0 0 a) 0:=#[rfl,iO,rfl,.inl rfl,by show 0*5<7*3;decide]
def DF.set(x:DF w r h):wh w r [] h:=by refine e2a2 x λb a e l=>?_;exact#[#v[],b,_,e,.nil,mY,q0q,Dd a,l]
set_option tactic.hygienic true in
def US{m:Sem Unit}{Q:Unit->ic->Prop}(F:DF w r s.heap)(S:wh w a X s.heap)(ne:r≠a)
 (h:∀Y l,jl r s.heap Y->wh w r l Y->l.Perm X->Q () { s with heap:=Y}):ii (ij I w) A (setMerge r a m) Q E s:=by
  refine e2a2 (id F) λZ c P lr=>?_
  refine e3a2 (id S) λb ep t e K=>?_
  unfold setMerge
  rw[hI<|by simpa using ne]
  refine am<|jw e rfl K.tab.fits ?_
  dsimp only
  by_cases R:b.isEmpty=true
  · rw[cr R]
    have aa:b=#v[]:=by simpa using R
    subst aa
    have:X=[]:=by
      have:=K.ent
      cases this
      rfl
    subst this
    exact ap<|h s.heap [] (mw _ _) F.set<|.refl _
  · rw[hI R]
    have af:1<=b.size:=by
      have:b.size≠0:=λz=>R (by simpa using Array.size_eq_zero_iff.mp z)
      lia
    have T:=K.small
    -- the room
    have go:∀(o:ja)(J:Nat)(d:jX),jl r s.heap o->o.get? r=↑(xI #v[] J d)->d.place=#v[]->d.dummies=#v[]->d.plain=true->d.led=c->Good d.mask->b.size*5<d.mask*3 ->
        ii (ij I w) A (setState r >>= λx=>match x with
          | (_,_,k)=>match k.road t with
            | .slotForSlot=>tJ r b { t with finger:=k.finger,led:=k.led&&t.led,moves:=k.moves,plain:=k.plain&&t.plain}
            | .clean=>do
              let (b,t) <- (do
                let some (t,order):=(oj k.mask k.finger k.moves (led:=k.led&&t.led) (plain:=k.plain&&t.plain) (b.map (·.1)))|lQ "internal:set-table-without-room"
                let L:=order.filterMap (b[·]?)
                if L.size != b.size then lQ "internal:set-table-lost-an-element"
                pure (L,t))
              tJ r b t
            | .oneByOne=>do
              for (h,x) in <- setWalkUnseen a [r] ↑r do
                let _ <- lm [x] (setAddHashed r x h)
                m
                if (<- setState a).2.1 != ep then lQ "set.changed-during-merge") Q E { s with heap:=o}:=by
      intro o J d sb o1 p1 d1 M l1 C rm
      have f1:d.fits (#v[]:Array (Int×ci)).size=true:=ym.mpr #[by rw[p1];rfl,by rw[p1,d1];exact jp _]
      refine am<|jw (s:={ s with heap:=o}) o1 rfl f1 ?_
      dsimp only
      have u:w.params.followText "set-order"=true\/(d.led&&t.led)=true:=by
        rcases lr with z|z
        · exact .inl z
        · rcases K.led with y|y
          · exact .inl y
          · exact .inr (by rw[l1, z, y]; rfl)
      have v:d.road t=.slotForSlot\/d.road t=.clean:=by
        unfold uP lA
        rw[p1,d1]
        simp only[im,nP,Nat.add_zero,rO,lG,pN]
        split
        · exact .inl rfl
        · exact .inr rfl
      have ab:d.road t=.slotForSlot->t.dummies.isEmpty=true:=λz=>by
        unfold uP at z
        split at z
        · cases z
        · split at z
          · rename_i q
            exact(Bool.and_eq_true_iff.mp q).2
          · cases z
      have up:∀f,jl r o f->jl r s.heap f:=λf q=>sb.trans q
      rcases v with z|z
      · have hd := ab z
        rw[z]
        refine A9 (s:={ s with heap:=o}) o1 (yU T) λf g D=>?_
        refine h f X (up f g) #[b,_,_,D,K.ent,K.nd,T,#[K.tab.fits,K.tab.rise,?_,K.tab.good,K.tab.room],u]<|.refl _
        rw[M,K.tab.plain];rfl
      · rw[z]
        have i:b.size<=d.mask:=by lia
        obtain⟨t2,B,N,p⟩:=C7 (fg:=d.finger) (mv:=d.moves) (led:=d.led&&t.led) (pl:=d.plain&&t.plain) (hs:=b.map (·.1)) C.Hn (by rw[mU];exact i)
        refine e0a6 (C6 N) λr1 r2 r3 G U O=>?_
        rw[N]
        rw[mU]at p
        have W:=picked p
        have H:(B.filterMap (b[·]?)).size=b.size:=by rw[<- ig,W.length_eq,ig]
        have j:B.size=b.size:=by rw[<- ig,p.length_eq,lU]
        refine am<|Xa p ?_
        refine A9 (s:={ s with heap:=o}) o1 (by rw[H];exact yU T) λf g D=>?_
        refine e1a2 (yo W.symm K.ent) λl q1 q2=>?_
        refine h f l (up f g) #[_,_,_,D,q2,q1.nodup_iff.mp K.nd,by rw[H];exact T,#[ym.mpr #[by rw[O,H,j],?_],r1,?_,by rw[G];exact C,?_],by rw[r2];exact u] q1.symm
        · rw[O, U, j, G]; exact i
        · rw[r3, M, K.tab.plain]; rfl
        · unfold lA
          rw[O,U,j,G]
          exact rm
    refine am<|am<|jw P rfl (Dd c).fits ?_
    by_cases hr:b.size*5>=7*3
    · have e1 : (kI 0 0 c).roomFor b.size = some (b.size*2) := by
        unfold t6 lA kI
        rw[cr<|by simpa using hr]
        simp
      rw[e1]
      obtain⟨C,g2⟩:=EF (n:=b.size*2) q0a
      obtain⟨t2,B,N,p⟩:=C7 (fg:=0) (mv:=(kI 0 0 c).movedTo<|jb (b.size*2)-1) (led:=c) (pl:=true) (hs:=(#v[]:Array (Int×ci)).map (·.1)) C.Hn (by rw[mU];exact jp _)
      refine e0a6 (C6 N) λr1 r2 r3 G U O=>?_
      have ae:(kI 0 0 c).relaid ((#v[]:Array (Int×ci)).map (·.1)) (b.size*2)=↑(t2,B):=N
      refine am<|jw P rfl (Dd c).fits ?_
      dsimp only
      rw[hI (by
        have:jb (b.size*2)<=512:=by rcases C with q|q|q|q|q|q|q<;>lia
        have e3:(512:Nat)<=hX:=by rw[jk];decide
        lia),ae]
      rw[mU]at p
      have W:=picked (es:=#v[]) p
      have H:(B.filterMap ((#v[]:Array (Int×ci))[·]?)).size=0:=by rw[<- ig,W.length_eq];rfl
      have j:B.size=0:=by rw[<- ig,p.length_eq];rfl
      refine am<|Xa (es:=#v[]) p ?_
      refine A9 P (by rw[H];exact jp _) λf g D=>?_
      have o3:B.filterMap ((#v[]:Array (Int×ci))[·]?)=#v[]:=Array.size_eq_zero_iff.mp H
      rw[o3]at D
      refine go f _ t2 g D (Array.size_eq_zero_iff.mp<|by rw[O,j]) U r3 r2 (by rw[G];exact C) (by rw[G];lia)
    · have e1 : (kI 0 0 c).roomFor b.size = none := by
        unfold t6 lA kI
        rw[hI<|by simpa using hr]
      rw[e1]
      refine ap ?_
      exact go s.heap Z (kI 0 0 c) (mw _ _) P rfl rfl rfl rfl (.inl rfl) (by show b.size*5<7*3;lia)
def OF:tK uu "set.__xor__"=↑Builtin.«frozenset.__xor__» :=
 tL (id':="frozenset.__xor__") (by kernel_rfl) (by first|rfl|decide +kernel|(unfold rG;simp +decide [qx])) q0s (by kernel_rfl)
def QH(h:∀a,DF w ⇑s a->(∀c o,s.heap.get? c=↑o->a.get? c=↑o)->Q (.ref ⇑s) 107):ii (ij b w) A (newSet<|.type "set") Q E s:=by
 refine am<|am<|jV<|ap ?_;refine am<|wpAny_alloc<|ap<|h _ ⟨0,_,il _ rfl,?_⟩ λc o e=>ce _ e
 cases q:w.params.followText "set-order" with
 |true=>exact .inl rfl
 |false=>exact .inr (by show (!(w.params.followText "set-order"))=true;rw[q];rfl)
def Cd(S:wh w a c s.heap)(h:Q true s):ii (ij b w) A (Builtin.Frozenset.isAnySet<|.ref a) Q E s:=by refine am<|mI S.typeIs qg<|ap ?_;exact h
def OG{m:String}{Q:ci->ic->Prop}(S:wh w a j s.heap)
  (h:∀f b,wh w ⇑s b f->b.Perm j->(∀c o,s.heap.get? c=↑o->f.get? c=↑o)->Q (.ref ⇑s) { s with heap:=f}) :
  ii (ij k w) A (Builtin.Frozenset.newFrom m (.type "set")<|.ref a) Q E s:=by
 refine am<|QH λd r l=>?_;have g:wh w a j d:=S.keep λo e=>l a o e;have u:⇑s≠a:=jB S.lt;refine am<|ap<|am<|iT ?_;refine am<|Cd (s:={ s with heap:=d}) g ?_;rw[cr rfl];refine am<|ap ?_;have i:=g;refine e3a2 i λz B t e K=>?_;refine am<|D8 (n:=0) (s:={ s with heap:=d}) e K.tab.fits ?_;refine US (s:={ s with heap:=d}) r g u λv b x y p=>?_;exact ap<|h v b y p λc o q=>x.extBut c o (iu<|ie q)<|l c o q
set_option tactic.hygienic true in
def a0l{Q:ci->ic->Prop}(Sa:wh w a ka s.heap)(Sb:wh w b kb s.heap)(hl:ka.length+kb.length<=126)
  (h:∀h' ks,wh w ⇑s ks h'->(∀k,k∈ks↔((k∈kb/\k∉ka)\/(k∉kb/\k∈ka)))->(∀c o,s.heap.get? c=↑o->h'.get? c=↑o)->Q (.ref ⇑s) { s with heap:=h'}) :
  ii (ij prog w) A (mS .BitXor (.ref a)<|.ref b) Q E s:=by
 refine wpAny_binaryOp_same (op:=.BitXor) (T:="set") Sa.typeIs Sb.typeIs F.fills_set_xor F.slot_set_xor ?_;refine jg F.slot_set_xor Sa.typeIs OF ?_<|F.args_set_xor_2 _ _;refine am<|am<|ap<|ap ?_;dsimp only;rw[hI ik];refine am<|am<|Cd Sa<|Cd Sb ?_;rw[hI q0o];refine am<|ap<|am ?_
 wp_delta
 refine am<|am<|mI Sa.typeIs qg<|ap ?_;rw[cr rfl];refine am<|OG Sb λh1 UT S1 p1 k1=>?_;have Sa1:wh w a ka h1:=Sa.keep λo e=>k1 a o e;have ne:⇑s≠a:=jB Sa.lt;refine am<|ap<|am<|iT ?_;unfold Builtin.Frozenset.symmetricDifferenceUpdate;rw[hI<|by simpa using Ne.symm ne];dsimp only;refine am<|lq (s:={ s with heap:=h1}) (wh.typeIs (s:={ s with heap:=h1}) Sa1) ?_;rw[hI q0q];refine am<|Cd (s:={ s with heap:=h1}) Sa1 ?_;rw[cr rfl];refine am<|ap<|am<|ap ?_;have a2E:=Sa1;refine e3a2 a2E λes ep t e K=>?_;refine am<|D8 (n:=0) (s:={ s with heap:=h1}) e K.tab.fits ?_;refine iT<|am<|QG (s:={ s with heap:=h1}) Sa1 λes' ks' P' p'=>?_;have nd':ks'.Nodup:=p'.nodup_iff.mpr Sa.nodup;have a36:=p'.length_eq;have a37:=p1.length_eq
 refine am (wpAny_forIn_array' _ (λrest _ s2=>∃dn kr h2 k2,ks'=dn++kr/\Paired zd rest kr/\s2={ s with heap:=h2}/\jl ⇑s h1 h2/\wh w ⇑s k2 h2/\k2.length<=UT.length+dn.length /\
   ∀k,k∈k2↔((k∈UT/\k∉dn)\/(k∉UT/\k∈dn))) _ ?turn ?fin es' _ #[[],ks',h1,UT,rfl,P',rfl,mw _ _,S1,hV _,λk=>by simp])
 case fin =>
  rintro _ s2 ⟨dn,kr,h2,k2,e0,P,rfl,sb,S2,_,m⟩;cases P;rw[kY]at e0;subst e0;refine ap<|ap<|ap ⟨_,rfl,q0o,?_⟩;refine h h2 k2 S2 (λk=>?_) λc o q=>sb.extBut c o (iu<|ie q)<|k1 c o q;rw[m k,p1.mem_iff,p'.mem_iff]
 case turn =>
  rintro x rest _ s2 ⟨dn,kr,h2,k2,e0,P,rfl,sb,S2,l2,m⟩
  cases P with
  |cons hx hr =>
   rename_i k kr
   obtain⟨hx1,u,hx2⟩:=hx;rw[hx1,hx2];have nd2:=nd';rw[e0]at nd2
   have hkd:k∉dn:=λq=>by have:=(List.nodup_append.mp nd2).2.2 k q k hW;exact this rfl
   have a4b:dn.length+(kr.length+1)=ks'.length:=by rw[e0,io,iF]
   have ea:∀h3,jl ⇑s h2 h3->h3.get? a=↑(xI es ep t):=λh3 q=>q.extBut a _ (Ne.symm ne)<|sb.extBut a _ (Ne.symm ne) e
   have Xb:∀(R:ForInStep PUnit->ic->Prop) h3 k3,jl ⇑s h2 h3->wh w ⇑s k3 h3->k3.length<=k2.length+1->(∀j,j∈k3↔((j∈k2/\j≠k)\/(j∉k2/\j=k))) ->
     (∀s':ic,(∃dn kr h2 k2,ks'=dn++kr/\Paired zd rest kr/\s'={ s with heap:=h2}/\jl ⇑s h1 h2/\wh w ⇑s k2 h2/\k2.length<=UT.length+dn.length/\∀k,k∈k2↔((k∈UT/\k∉dn)\/(k∉UT/\k∈dn)))->R (.yield #[]) s') ->
     ii (ij prog w) A.in1 (Builtin.Frozenset.unchanged (toString "frozenset."++toString "__xor__") a ep >>= λ_=>pure<|nj PUnit.unit) R E { s with heap:=h3}:=by
    intro R h3 k3 sb3 S3 l3 m3 fin;refine am<|am<|D8 (n:=0) (s:={ s with heap:=h3}) (ea h3 sb3) K.tab.fits ?_;rw[hI q0o];refine ap<|ap<|fin _ ⟨dn++[k],kr,h3,k3,by rw[e0];simp,hr,rfl,sb.trans sb3,S3,by rw[io];simp;lia,λj=>?_⟩;rw[m3 j,m j,lM,mK];by_cases q2:j=k
    ·subst q2;by_cases q1:j∈UT<;>simp[q1,hkd]
    ·by_cases q1:j∈UT<;>by_cases q3:j∈dn<;>simp[q1,q2,q3]
   refine am<|iT<|am ?_;refine GJ (s:={ s with heap:=h2}) S2 λh3 k3 sb3 S3 p3=>?_;by_cases ZD:k∈k2
   ·rw[decide_eq_true ZD,hI q0o];rw[cr ZD]at p3;have nd3:=p3.nodup_iff.mp S2.nodup;refine ap<|Xb _ h3 k3 sb3 S3 (by have:=p3.length_eq;rw[iF]at this;lia) (λj=>?_) λ_ z=>z;have q:=p3.mem_iff (a:=j);rw[iK]at q;rw[q];have hk1:=(List.nodup_cons.mp nd3).1;by_cases q2:j=k
    ·subst q2;simp[hk1]
    ·simp[q2]
   ·rw[iC ZD,cr q0o];rw[hI ZD]at p3;subst p3;refine am<|W8 (s:={ s with heap:=h3}) S3 q0a λh4 k4 sb4 S4 p4=>?_;rw[hI ZD]at p4;refine ap<|Xb _ h4 k4 (sb3.trans sb4) S4 (by have:=p4.length_eq;rw[iF]at this;lia) (λj=>?_) λ_ z=>z;rw[p4.mem_iff,iK];by_cases q2:j=k
    ·subst q2;simp[ZD]
    ·simp[q2]
section
variable{prog:iQ}{w:jf}{A:jN}{R:Result->ic->Prop}{I:hJ}{fp wr:List hJ}{G:Array pK->Array pK->Prop}{n:Nat}{P:Nat->ci->Prop}{St:Nat->ic->Prop}
set_option tactic.hygienic true in
def Yq(W:WalksS prog w A.in1 I fp wr G n P St)(r:hJ)(O:r∉fp)(a:Nat->Int)(g:∀i v,P i v->∃t,v=.int (a i) t)(hb:n<=126) :
  ∀(m i:Nat)(s:ic)(b:List Int),i+m=n->St i s->wh w r b s.heap->(∀k,k∈b↔∃j,j<i/\a j=k)->b.length<=i ->
   (∀h l,Moved (r::wr) G s h->wh w r l h.heap->(∀k,k∈l↔∃j,j<n/\a j=k)->R (.ok<|.ret .none) h) ->
   mX (ij prog w) A (.builtin "set.update.loop" #[[.ref r,.ref I],[]]) R s:=by
 have Q:r∉wr:=λq=>O<|W.sub _ q;have x:∀c∈wr,c∈r::wr:=λc B=>hZ _ B;intro m
 induction m with
 |zero =>
  intro i s b X H S d Y f;obtain rfl:i=n:=by lia
  refine j5 t7 ?_;rw[jP pC _];refine am<|W.done s _ _ H λh C=>?_;exact ap<|f h b (C.mono x) (S.keep λo e=>C.heap r o Q e) d
 |succ m Z =>
  intro i s b X H S d Y f;refine j5 t7 ?_;rw[jP pC _];refine am<|W.item i s _ _ q0a H λv T hP J C=>?_;obtain⟨u,rfl⟩:=g i v hP;have S1:wh w r b T.heap:=S.keep λo e=>C.heap r o Q e;refine am<|iT<|W9 S1 q0a λh2 D tk U S2 p E=>?_
  have l2:D.length<=i+1:=by
   have:=p.length_eq;split at this
   ·lia
   ·rw[iF]at this;lia
  refine ap #[lx pC _,Z (i+1) _ D q0a (W.frame _ T _ _ J E λc B o e=>?_) S2 (λk=>?_) l2 λs3 L M S3 m3=>?_]
  ·rw[U.2 c (λz:c=r=>O<|by rw[<- z];exact B)];exact e
  ·rw[p.mem_iff]
   have q:(k∈if a i∈b then b else a i::b)↔(k=a i\/k∈b):=by
    split
    ·rename_i z
     constructor
     ·exact .inr
     ·rintro(y|y)
      ·rw[y];exact z
      ·exact y
    ·exact iK
   rw[q,d k];constructor
   ·rintro(z|⟨j,hj,e⟩)
    ·exact#[i,q0a,z.symm]
    ·exact#[j,q0a,e]
   ·rintro⟨j,hj,e⟩;by_cases N:j=i
    ·subst N;exact .inl e.symm
    ·exact .inr #[j,q0a,e]
  ·refine f s3 L (Moved.trans W.gtrans ((C.mono x).then_heap E λc o B e=>?_) M) S3 m3;rw[U.2 c (λz:c=r=>B<|by rw[z];exact hW)];exact e
end
def OH(x:ci)(h:∀a,DF w ⇑s a->(∀c o,s.heap.get? c=↑o->a.get? c=↑o)->Q (.ref ⇑s) 107) :
  mX (ij b w) A (.call (.builtin "set.__new__") #[[.type "set",x],[]]) (wants Q E) s:=by
 refine mZ ?_;refine am<|nc (F.newCall_set_1 x)<|ap #[lx pW _,j5 F.entry_set_new ?_];rw[jP pW _];unfold Builtin.«set.__new__» pO;have g:=qg;obtain⟨i,j,k,l,m⟩:=s;dsimp only;generalize d:newSet=n
 wp_walk
 subst d;refine QH λa e f=>?_;exact ap<|h a e f
def Lm(hh:A.handled=none)(hl:s.heap.IsList l b)(hi:lF b.toList x)(hb:b.size<=126)
 (h:∀f G g,wh w ⇑s g f->(∀k,k∈g↔k∈x)->(∀c o,s.heap.get? c=↑o->f.get? c=↑o)->Q (.ref ⇑s) { s with heap:=f,toks:=G}) :
    ii (ij aa w) A (call (.type "set") [.ref l]) Q E s:=by
  obtain⟨c0,tl,ab⟩:=F.called_set.mro
  have J:=F.called_set.made
  have ae:=F.called_set.sub
  refine m8<|mZ ?_
  refine ap #[ol _ q0s,j5 F.entry_type_call ?_]
  rw[t9 (uY "set" [.ref l] []) rfl]
  have ag:=F.called_set.notType
  have ah:=F.called_set.canCreate
  have ai:=F.typeCall_set_1<|.ref l
  repeat (any_goals (first|assumption|wp_step))
  refine kh (OH (.ref l) (E:=E) (Q:=λy z=>y=.ref ⇑s/\∃a,z=107/\DF w ⇑s a/\∀c o,s.heap.get? c=↑o->a.get? c=↑o) λa H u=>#[rfl,a,rfl,H,u]) λr1 s1 m=>?_
  cases r1 with
  |error e=>exact m
  |ok f1 =>
    cases f1 with
    |ret y =>
      obtain⟨rfl,a,rfl,H,u⟩:=m
      have L:wh w ⇑s [] a:=H.set
      have hT:my 107 (.ref ⇑s) "set":=wh.typeIs (s:=107) L
      have aj:=F.called_set.init.lookup
      have ak:=F.called_set.init.bind<|.ref ⇑s
      repeat (any_goals (first|assumption|wp_step))
      refine kh (og (R:=wants (λr B=>r=.none/\∃f G g,B={ s with heap:=f,toks:=G}/\wh w ⇑s g f/\(∀k,k∈g↔k∈x)/\∀c o,s.heap.get? c=↑o->f.get? c=↑o) E) F.called_set.init.plain F.entry_set_init<|check_set_init_1 hT ?_) λr2 s2 n=>?_
      · obtain⟨M, p, N, nl, O⟩ := id hl
        have q:a.IsList l b:=#[M,u l M p,N,nl,O]
        have al:my 107 (.ref l) "list":=q.typeIs
        have q1:=F.sub_list_set
        have q2:=F.sub_list_frozenset
        have q3:(kA "list" == kA "dict")=false:=by decide
        refine e2a2 (id H) λan af e1 l1=>?_
        unfold Builtin.«set.__init__» noKeywords Builtin.Frozenset.updateFrom
        generalize P:pyIter=PI
        wp_walk
        subst P
        refine wpAny_pyIter_list q<|am<|tM ?_
        have S:l<a.objs.size:=ie<|u l M p
        have T:⇑s<a.objs.size:=L.lt
        have U:A.in1.in1.in1.handled=none:=by simp[hh]
        have nr:⇑s∉[a.objs.size,l]:=by
          simp only[iK,jq,mD,qe]
          exact#[iu T,jB<|ie p]
        have C:∀(i:Nat)(v:ci),b[i]?=↑v->∃t,v=.int ((λi=>x.getD i 0) i) t:=λi v hv=>rq hi i v (by rw[iY];exact hv)
        have d:∀c o,a.get? c=↑o->(a.push { cls:=.type "list_iterator",data:=.fields #v[.ref l,.int 0 0]}).get? c=↑o:=λc o e=>ce _ e
        have D:=rr hi
        rw[ig]at D
        refine Yq ((Walks.list U _ l (iu S) b).toS) ⇑s nr (λi=>x.getD i 0) C hb b.size 0 _ [] q0a #[#[_,il _ rfl,rfl,rfl],q.push _] (L.keep λo e=>d _ o e) (λk=>by simp) (jp _) λs2 W I S2 m2=>?_
        obtain⟨h2,g2,d2,X,Y⟩:=s2
        have eg:g2=s.gens:=I.gens
        have ed:d2=s.drawn:=I.drawn
        have eo:Y=s.os:=I.os
        subst eg ed eo
        refine ap<|ap ⟨rfl,h2,X,W,rfl,S2,λk=>?_,λc o e=>?_⟩
        · rw[m2 k]
          constructor
          · rintro⟨j, Z, e⟩
            rw[<- e]
            have:j<x.length:=by lia
            simp[jG,this]
          · intro hk
            obtain⟨j,Z⟩:=l8 hk
            refine#[j,by have:=(List.getElem?_eq_some_iff.mp Z).1;lia,?_]
            simp[jG,Z]
        · refine I.heap c o ?_ (d c o<|u c o e)
          simp only[iK,jq,mD,qe]
          exact#[iu<|ie e,iu<|ie<|u c o e]
      · cases r2 with
        |error e=>exact n
        |ok f2 =>
          cases f2 with
          |ret r =>
            obtain⟨rfl,f,G,g,rfl,S',m',k'⟩:=n
            repeat (any_goals (first|assumption|wp_step))
            exact h _ _ g S' m' k'
          |_=>exact n.elim
    |_=>exact m.elim
def xo:Slot "set_iterator" "__next__" "set_iterator.__next__" :=
 .of (owner:="set_iterator") (n:="__next__") (by rw[ou,mi];kernel_rfl) q0s q0s q0s (by first|exact .inl q0s|exact .inr q0s) (by rw[tN];kernel_rfl)
def QI:Manifest.owners.lookup (String.ofList ['r','o','t','a','r','e','t','i','_','t','e','s'].reverse)=↑Manifest.sig_set_iterator:=by kernel_rfl
def Ce(a:ci):se "set_iterator.__next__" #[[a],[]]:=by unfold se;rw[signature?_of (id:="set_iterator.__next__") (n:=['_','_','t','x','e','n','_','_']) (o:=['r','o','t','a','r','e','t','i','_','t','e','s']) (by kernel_rfl) QI];kernel_rfl
def BE:tK uu "set_iterator.__next__"=↑Builtin.«set_iterator.__next__»:=entryFor_of_tree (by kernel_rfl)
def Cf:Slot "set_iterator" "__iter__" "set_iterator.__iter__" :=
 .of (owner:="set_iterator") (n:="__iter__") (by rw[ou,mi];kernel_rfl) q0s q0s q0s (by first|exact .inl q0s|exact .inr q0s) (by rw[tN];kernel_rfl)
def Hq(a:ci):se "set_iterator.__iter__" #[[a],[]]:=by unfold se;rw[signature?_of (id:="set_iterator.__iter__") (n:=['_','_','r','e','t','i','_','_']) (o:=['r','o','t','a','r','e','t','i','_','t','e','s']) (by kernel_rfl) QI];kernel_rfl
def Ga:tK uu "set_iterator.__iter__"=↑Builtin.«dict_keyiterator.__iter__» :=
 tL (id':="dict_keyiterator.__iter__") (by kernel_rfl) (by first|rfl|decide +kernel|(unfold rG;simp +decide [qx])) q0s (by kernel_rfl)
def EH:tK uu "set.__iter__"=↑Builtin.«frozenset.__iter__» :=
 tL (id':="frozenset.__iter__") (by kernel_rfl) (by first|rfl|decide +kernel|(unfold rG;simp +decide [qx])) q0s (by kernel_rfl)
noncomputable abbrev a0o(b i n c:Nat)(a:hJ):Obj:={ cls:=.type "set_iterator",dict:=none,data:=.fields #v[mf b,mf i,.ref a,mf n,mf c],slots:=#v[]}
noncomputable def Lo(w:jf)(a:hJ)(b:Array (Int×ci))(c:Nat):Array (Int×ci):=if w.params.followText "set-order"=true then uv (w.params.setOrder a c) b else b
def De(w:jf)(a:hJ)(b:Array (Int×ci))(c:Nat):(Lo w a b c).toList.Perm b.toList:=by
 unfold Lo;split
 ·exact C9 _ b
 ·exact .refl _
def SIt(w:jf)(e a:hJ)(c:Array (Int×ci))(d:Nat)(t:jX)(i:Nat)(h:ja):Prop :=
 ∃b,(w.params.followText "set-order"=false->iw t.place b=i)/\h.get? e=↑(a0o b i c.size d a)/\h.get? a=↑(xI c d t)
def JL(e:s.heap.get? b=some { cls:=cls,dict:=none,data:=.fields c,slots:=#v[]})(h:Q c s):ii (ij a w) A (fieldsOf<|.ref b) Q E s:=by exact am<|rg e<|ap h
set_option tactic.hygienic true in
def OI{c i:Nat}(e:s.heap.get? a=↑(xI g k t))(K:W7 w g t p)(n:w.params.followText "set-order"=false->iw t.place c=i)
 (d:(Lo w a g k)[i]?=↑x)(h:∀l,(w.params.followText "set-order"=false->iw t.place l=i+1)->Q ↑(x.2,l) s):ii (ij f w) A (setNext a c i k) Q E s:=by
  have q:=ym.mp K.tab.fits
  refine am<|jw e rfl K.tab.fits<|am<|am<|jV<|ap ?_
  dsimp only
  unfold Lo at d
  split
  · rename_i j
    have b:w.params.followText "set-order"=true:=j
    rw[cr b]at d
    rw[hI q0o]
    refine am<|am<|jw e rfl K.tab.fits<|am<|am<|jV<|ap ?_
    rw[cr j]
    refine am<|jV<|ap<|ap ?_
    rw[show (ij f w).w=w from rfl,d]
    exact h c λz=>by rw[b]at z;cases z
  · rename_i j
    have b:w.params.followText "set-order"=false:=Bool.eq_false_iff.mpr j
    rw[hI<|by rw[b];simp]at d
    rw[hI<|by show ¬((!t.plain&&decide (g.size>1))=true);rw[K.tab.plain];simp]
    have o:t.led=true:=by
      rcases K.led with z|z
      · rw[b]at z; cases z
      · exact z
    refine am<|show ii _ A (if (!t.led&&!g.isEmpty)=true then lQ "set:maker-not-led" else pure ()) _ _ _ from ?_
    rw[o,hI q0o]
    have r:=(Array.getElem?_eq_some_iff.mp d).1
    rw[n b,d]
    have m:t.place[i]?=↑t.place[i]!:=by rw[jH q0a,getElem!_pos]
    rw[m]
    refine ap<|ap<|h _ λ_=>?_
    exact Lg K.tab.rise (by rw[iY];exact m)
set_option tactic.hygienic true in
def OJ{c:Nat}(e:s.heap.get? a=↑(xI b i t))(K:W7 w b t l)(j:w.params.followText "set-order"=false->iw t.place c=b.size)(h:Q none s):ii (ij d w) A (setNext a c b.size i) Q E s:=by
 refine am<|jw e rfl K.tab.fits<|am<|am<|jV<|ap ?_;dsimp only;split
 ·rename_i g
  rw[hI q0o];refine am<|am<|jw e rfl K.tab.fits<|am<|am<|jV<|ap ?_;rw[cr g];refine am<|jV<|ap<|ap ?_
  have:(uv ((ij d w).w.params.setOrder a i) b)[b.size]?=none:=by rw[Array.getElem?_eq_none_iff,<- ig,(C9 _ b).length_eq,ig];exact hV _
  rw[this];exact h
 ·rename_i g
  have f:w.params.followText "set-order"=false:=Bool.eq_false_iff.mpr g;rw[hI<|by show ¬((!t.plain&&decide (b.size>1))=true);rw[K.tab.plain];simp]
  have k:t.led=true:=by
   rcases K.led with z|z
   ·rw[f]at z;cases z
   ·exact z
  refine am<|show ii _ A (if (!t.led&&!b.isEmpty)=true then lQ "set:maker-not-led" else pure ()) _ _ _ from ?_;rw[k,hI q0o,j f];rw[show b[b.size]?=none from by simp];exact ap<|ap h
def OK(hh:A.handled=none)(K:W7 w es t ks)(ne:a≠it):Walks prog w A it [it,a] [it] es.size (λi v=>∃x,(Lo w a es ep)[i]?=↑x/\v=x.2) (SIt w it a es ep t) where
 sub:=λb hb=>by simp at hb;simp[hb]
 frame:=λi h h' z9=>e1a3 z9 λsl z e1 e2 k=>#[sl,z,k it q0o _ e1,k a q0o _ e2]
 item:=by
  rintro i s Q E hi ⟨sl,z,e1,e2⟩ hQ;have hT:s.TypeIs (.ref it) "set_iterator":=#[_,e1,rfl];refine am<|pE<|wpAny_callSpecial?_slot (name:=mq "__next__") hT xo<|jg xo hT BE ?_<|Ce _;refine am<|ap<|am<|JL e1 ?_;refine am<|qS e2 rfl K.tab.fits ?_;rw[hI q0o]
  obtain⟨x,hx⟩:∃x,(Lo w a es ep)[i]?=some x:=by
   have hl:i<(Lo w a es ep).size:=by rw[<- ig,(De w a es ep).length_eq,ig];exact hi
   exact#[_,jH hl]
  refine am<|OI e2 K z hx λsl' z'=>?_;refine am<|kd e1 q0o λh1 o1 sb1=>am<|kd (s:={ s with heap:=h1}) o1 q0o λh2 o2 sb2=>ap #[_,rfl,ap ?_];have sb:=sb1.trans sb2;exact hQ _ h2 _ #[x,hx,rfl] #[sl',z',o2,sb.extBut a _ ne e2] λb o hb q=>sb.extBut b o (by simpa using hb) q
 done:=by
  rintro s Q E ⟨sl,z,e1,e2⟩ hQ;have hT:s.TypeIs (.ref it) "set_iterator":=#[_,e1,rfl];refine am<|pE<|wpAny_callSpecial?_slot (name:=mq "__next__") hT xo<|jg xo hT BE ?_<|Ce _;refine am<|ap<|am<|JL e1 ?_;refine am<|qS e2 rfl K.tab.fits ?_;rw[hI q0o];refine am<|OJ e2 K z ?_;refine am<|kd e1 q0o λh1 o1 sb1=>am ?_;refine am<|i8 ?_ (by size_fits);refine am (m:=qA _ _)<|nc (a:=Value.none) (by first|rfl|(simp only[qA];rfl))<|i8 ?_ (by size_fits)
  refine wpAny_raiseNew_none hh<|am<|mI (T:="StopIteration") (b:=true) ⟨_,il _ rfl,rfl⟩ isSubtype_stop<|ap ?_;exact hQ _ _ λb o hb q=>ce _<|ce _<|sb1.extBut b o (by simpa using hb) q
 self:=by rintro i s Q E ⟨sl,z,e1,e2⟩ hQ;have hT:s.TypeIs (.ref it) "set_iterator":=#[_,e1,rfl];refine wpAny_pyIter_slot hT Cf<|jg Cf hT Ga ?_<|Hq _;exact ap #[_,rfl,"set_iterator",_,hT,xo.lookup,hQ]
def Yr(e:s.heap.get? a=↑(xI f i t))(K:W7 w f t j)
 (h:∀d,SIt w ⇑s a f i t 0 d->(∀c o,s.heap.get? c=↑o->d.get? c=↑o)->d.objs.size=⇑s+1->Q (.ref ⇑s) { s with heap:=d}):ii (ij b w) A (pyIter<|.ref a) Q E s:=by
  have g:s.TypeIs (.ref a) "set":=#[_,e,rfl]
  refine wpAny_pyIter_slot g F.slot_set_iter<|jg F.slot_set_iter g EH ?_<|F.args_set_iter_1 _
  refine am<|am<|ap<|ap<|am<|am<|qS e rfl K.tab.fits<|ap ?_
  refine am<|am<|jw e rfl K.tab.fits<|am<|am<|jV<|ap<|ap ?_
  rw[hI<|by show ¬((!(ij b w).w.params.followText "set-order"&&(!t.plain&&decide (f.size>1)))=true);rw[K.tab.plain];simp]
  refine am<|ap<|am<|D8 (n:=0) e K.tab.fits ?_
  refine am<|i8 ?_ (by size_fits)
  refine ap #[_,rfl,"set_iterator",_,#[_,il _ rfl,rfl],xo.lookup,?_]
  exact h _ #[0,λ_=>Lh K.tab.rise,il _ rfl,ce _ e] (λc o q=>ce _ q)<|jR _ _
def Hr:nW (.type "set") "__len__"=pure (some<|.builtin "set.__len__"):=by rw[ou,mi];kernel_rfl
def UU(P:Paired zd a b):∀(j:Nat)(e:Int×ci),a[j]?=↑e->∃k,b[j]?=↑k/\zd e k:=by
 induction P with
 |nil=>intro j e z;simp at z
 |cons x _ c =>
  intro j e z
  cases j with
  |zero =>
   have d:=jj z;subst d;exact#[_,rfl,x]
  |succ j=>exact c j e (by simpa using z)
def AD:∀{a:List ci} {b:List Int},a.length=b.length->(∀(i:Nat)(v:ci),a[i]?=↑v->∃k u,b[i]?=↑k/\v=md k u)->lF a b
 | [],[],_,_=>.nil
 | [],_::_,h,_=>by simp at h
 |_::_,[],h,_=>by simp at h
 |v::a,n::b,h,k=>by
  refine e2a2 (k 0 v rfl) λc u d f=>?_;have:n=c:=by simpa using d
  subst this;subst f
  exact .cons _ _ (AD (by simpa using h) λi g e=>by
   refine e2a2 (k (i+1) g<|by simpa using e) λj l m o=>?_
   exact#[j,l,by simpa using m,o])
def OM(hh:A.handled=none)(S:wh w a ks s.heap)
 (h:∀M tk Z G,lF Z G->G.Perm ks->(∀c o,s.heap.get? c=↑o->M.get? c=↑o)->⇑s<=M.objs.size->Q Z { s with heap:=M,toks:=tk}):ii (ij r w) A (collect<|.ref a) Q E s:=by
  refine e3a2 (id S) λH I t e K=>?_
  have d:a<⇑s:=ie e
  refine am<|tM<|j5 uw ?_
  rw[jP ux _]
  refine am (m:=newList [])<|i8<|ap #[lx oV _,j5 F.entry_list_iadd ?_]
  rw[jP oV _]
  have l:∀c o,s.heap.get? c=↑o->(s.heap.push 66).get? c=↑o:=λc o q=>ce _ q
  have oL:(s.heap.push 66).get? ⇑s=some 66:=il _ rfl
  have f:(s.heap.push 66).objs.size=⇑s+1:=jR _ _
  generalize s.heap.push 66=n at l oL f ⊢
  show ii _ A.in1 (qu (.ref ⇑s) (.ref a)<|.ref ⇑s) _ _ { s with heap:=n}
  have hT:my { s with heap:=n} (.ref a) "set":=#[_,l a _ e,rfl]
  refine am<|lq hT ?_
  have n1:lZ (.ref ⇑s) (.ref a)=false:=by simp[lZ,jB d]
  have n2:(kA "set" == kA "list")=false:=by decide
  have n3:(kA "set" == kA "tuple")=false:=by decide
  simp only[n1,n2,n3,sy,lG,pN]
  refine am<|Yr (s:={ s with heap:=n}) (l a _ e) K λp I2 N ae=>?_
  have j:my { s with heap:=p} (.ref a) "set":=#[_,N a _<|l a _ e,rfl]
  refine am<|iT ?_
  refine am<|qi j Hr ?_
  generalize BF:("set.__len__":String)=O
  dsimp only
  rw[show splitId O=some ("set","__len__") from by subst BF;decide +kernel]
  subst BF
  refine am<|mI (b:=true) j qg ?_
  rw[hI q0o]
  rw[cr q0s]
  refine am<|lq j<|ap ?_
  rw[cr q0s]
  refine am<|mC<|am ?_
  have y:=N _ _ oL
  have P:A.in1.handled=none:=by simp[hh]
  have ne:a≠n.objs.size:=iu<|n9 d (by rw[f];exact jM _)
  have W:=(OK (prog:=r) (A:=A.in1) (ep:=I) P K ne).toS
  refine am<|qm y rfl ?_
  have B:=jd (Obj.mapSeq (·.push Value.none)) y rfl
  refine qm B rfl ?_
  have C:=jd (Obj.mapSeq (·.pop)) B rfl
  have J:∀c o,c≠⇑s->p.get? c=↑o->((p.update ⇑s (Obj.mapSeq (·.push Value.none))).update ⇑s (Obj.mapSeq (·.pop))).get? c=↑o :=
    λc o hc q=>(iU _ _<|Ne.symm hc).trans<|(iU _ _<|Ne.symm hc).trans q
  have R:((p.update ⇑s (Obj.mapSeq (·.push Value.none))).update ⇑s (Obj.mapSeq (·.pop))).objs.size=p.objs.size:=by rw[oW,oW]
  have T:⇑s∉[n.objs.size,a]:=by
    simp only[iK,jq,mD,qe]
    exact#[by rw[f];exact iu<|jM _,jB d]
  generalize (p.update ⇑s (Obj.mapSeq (·.push Value.none))).update ⇑s (Obj.mapSeq (·.pop))=h4 at C J R ⊢
  refine e1a3 I2 λsl z i1 i2=>?_
  have I4:SIt w n.objs.size a H I t 0 h4:=#[sl,z,J _ _ (by rw[f];exact jB<|jM _) i1,J _ _ (iu d) i2]
  refine ap #[lx qC _,codeAny_extend_loopS W (yU K.small) _ T _ H.size 0 _ _ _ rfl (jp _) I4 C (ItemsOf.nil _) λs5 U c5 L D g=>?_]
  refine am<|rg D<|ap ?_
  obtain⟨h5,g5,d5,X,Y⟩:=s5
  have eg:g5=s.gens:=L.gens
  have ed:d5=s.drawn:=L.drawn
  have eo:Y=s.os:=L.os
  subst eg ed eo
  -- aa ab
  refine e1a2 (yo (De w a H I).symm K.ent) λG pp pe=>?_
  have k5:∀c o,s.heap.get? c=↑o->h5.get? c=↑o:=λc o q=>L.heap c o (by
    simp only[iK,jq,mD,qe]
    exact#[iu (ie q),iu (ie (l c o q))]) (J c o (iu (ie q)) (N c o (l c o q)))
  refine h h5 X U.toList G (AD ?_ λi v hv=>?_) pp.symm k5<|mn<|ie D
  · rw[ig, g.1, <- Ng pe, ig, <- ig, <- ig, (De w a H I).length_eq]
  · obtain⟨x, hx, rfl⟩ := g.2 i v (by rw[<- iY]; exact hv)
    obtain⟨k,hk,_,u,hu⟩:=UU pe i x (by rw[iY];exact hx)
    exact#[k,u,hk,hu]
def Df 
 (C:∀(u:List ci->ic->Prop),(∀b e a d,lF a d->d.Perm x->(∀c o,s.heap.get? c=↑o->b.get? c=↑o)->⇑s<=b.objs.size->u a { s with heap:=b,toks:=e})->ii (ij f w) A.in1 (collect v) u E s)
 (k:x.length<64) (h:∀b e r a d,⇑s<=r->lF a d->d.Perm x->d.Pairwise (·<=·)->(∃n,b.get? r=some 117)->(∀c o,s.heap.get? c=↑o->b.get? c=↑o)->Q (.ref r) { s with heap:=b,toks:=e}) :
    ii (ij f w) A (call (.builtin "sorted") [v]) Q E s:=by
  refine rY kind_sorted plain_sorted entry_sorted (args_sorted1 _) ?_
  refine am (m:=checkCount "sorted" 1 1 _)<|ap ?_
  refine am<|C _ λl e a d y z B D=>?_
  have g:a.length<64:=by rw[rr y,z.length_eq];exact k
  refine am<|ui ?_
  have p:(l.push<|mP "list" a.toArray 0).get? l.objs.size=↑(mP "list" a.toArray 0):=il _ rfl
  refine am<|iT<|jg slot_list_sort ⟨_,p,rfl⟩ entry_list_sort (list_sort_tree p y g λi t F G H=>#[_,rfl,?_])<|args_list_sort _
  obtain⟨I,J⟩:=sortedHeap_at (out:=i) p
  refine ap #[_,rfl,h _ e l.objs.size i.toList t D F (G.trans z) H #[I,by simpa using J] λc o q=>?_]
  have j:=ie<|B c o q
  rw[sortedHeap_old (iu j)<|by rw[tO];exact oN j]
  exact ce _<|B c o q
def Ht(j:A.handled=none)(S:wh w a f s.heap)(b:f.length<64)
 (h:∀d l r g e,⇑s<=r->lF g e->e.Perm f->e.Pairwise (·<=·)->(∃n,d.get? r=some { cls:=.type "list",data:=.seq g.toArray n})->(∀c o,s.heap.get? c=↑o->d.get? c=↑o)->Q (.ref r) { s with heap:=d,toks:=l}) :
    ii (ij i w) A (call (.builtin "sorted") [.ref a]) Q E s :=
  Df (λ_ k=>OM (by simp[j]) S k) b h
def Gb{a:List ci}(p:s.heap.IsList l a.toArray)(b:lF a i)(d:i.length<64)
 (h:∀f t r j g,⇑s<=r->lF j g->g.Perm i->g.Pairwise (·<=·)->(∃n,f.get? r=some { cls:=.type "list",data:=.seq j.toArray n})->(∀c o,s.heap.get? c=↑o->f.get? c=↑o)->Q (.ref r) { s with heap:=f,toks:=t}) :
    ii (ij m w) A (call (.builtin "sorted") [.ref l]) Q E s :=
  Df (λ_ k=>collect_list p (k _ s.toks _ _ b (.refl _) (λc o q=>(iU _ _ (jB (ie q))).trans (ce _ q)) (by rw[oW,tO];exact mh _)) (by
    have:=rr b
    have e:(64:Nat)<=hX:=by rw[jk];decide
    lia)) d h
end SX
namespace L2
open PySem PySem.Spec PyProof.Rows SX
def Ba{a:List Int}(h:Vals (a.map V.int) b):lF b a:=intsAre_of h
def UV(h:lF a b):Vals (b.map V.int) a:=GG h
noncomputable def xC(w:jf)(p:hJ)(a:List Int):HO:=.ext<|wh w p a
def zV(I:Inv X a c H s)(h:H p=↑(xC X.w p b)):wh X.w p b s.heap:=(I.v0 p _ h).1
def Hu(x:wh w p a h):wy P w H h p (xC w p a) :=
 #[x,(e3a2 x λ_ _ _ e _=> #[_,e]),λ_ _ q k=>q.keep k]
def JM(i:X.calm=true):zc X (.type "set") (λe H Q=>∃(a:hJ)(c:List Int),e=[.ref a]/\wI X.K H a (c.map V.int)/\c.length<=126/\∀(p:hJ)(b:List Int),H p=none->b.Nodup->b.length<=c.length->(∀k,k∈b↔k∈c)->Q (.ref p) (upd H p<|xC X.w p b)):=by intro f s z H e A Q I r h;obtain⟨a,c,rfl,j,B,q⟩:=h;obtain⟨u,rfl,l⟩:=vals1 r;cases l;refine e1a3 (I.list j) λn g o C=>?_;have t:=Ba g;have d:=g.length;rw[h8]at d;refine Lm (I.ok.hd i) o.isList (by simpa using t) (by rw[im];lia) λD v b S m k=>?_;refine#[.ref ⇑s,_,I.laid (t':=v) k (hV _)<|Hu S,rfl,q _ b (I.v0.fresh<|hV _) S.nodup (zy _ _ S.nodup λx y=>(m x).mp y) m]
def UW:Bv X (mS .BitXor) (λx y H Q=>∃(a b:hJ)(c d:List Int),x=.ref a/\y=.ref b/\H a=↑(xC X.w a c)/\H b=↑(xC X.w b d)/\c.length+d.length<=126 /\
  ∀(p:hJ)(e:List Int),H p=none->e.Nodup->(∀k,k∈e↔((k∈d/\k∉c)\/(k∉d/\k∈c)))->Q (.ref p) (upd H p (xC X.w p e))):=by
 intro f s o H x y v u Q I g i h;obtain⟨a,b,c,d,rfl,rfl,j,l,n,q⟩:=h;cases g;cases i;refine a0l (zV I j) (zV I l) n λr e S m k=>?_;exact#[.ref ⇑s,_,I.laid (t':=s.toks) k (hV _)<|Hu S,rfl,q _ e (I.v0.fresh<|hV _) S.nodup m]
def BU{g:List Int}(I:Inv X b k H s)(l:g.length<64)(q:∀(p:hJ)(a:List Int),H p=none->a.Perm g->a.Pairwise (·<=·)->Q (.ref p) (upd H p<|.lst<|a.map V.int)) :
  ∀(d:ja)(h:Nat)(r:hJ)(f:List ci)(a:List Int),⇑s<=r->lF f a->a.Perm g->a.Pairwise (·<=·)->(∃n,d.get? r=some { cls:=.type "list",data:=.seq f.toArray n})->(∀c o,s.heap.get? c=↑o->d.get? c=↑o)->EP X b k Q (.ref r) { s with heap:=d,toks:=h}:=by
 intro d h r f a i m j t u v;obtain⟨n,e⟩:=u;have w:(64:Nat)<=hX:=by rw[jk];decide
 exact#[.ref r,_,I.laid (t':=h) (o:=.lst<|a.map V.int) v i #[by rw[h8,j.length_eq];lia,f,n,UV m,e],rfl,q r a (I.v0.fresh i) j t]
def Cg(g:X.calm=true):zc X (.builtin "sorted") (λe H Q=>∃(a:hJ)(c:List Int),e=[.ref a]/\H a=↑(xC X.w a c)/\c.length<64/\∀(p:hJ)(d:List Int),H p=none->d.Perm c->d.Pairwise (·<=·)->Q (.ref p) (upd H p<|.lst<|d.map V.int)):=by intro f s k H e l Q I r h;obtain⟨a,c,rfl,i,b,q⟩:=h;obtain⟨u,rfl,j⟩:=vals1 r;cases j;exact Ht (I.ok.hd g) (zV I i) b<|BU I b q
def Hv:zc X (.builtin "sorted") (λe H Q=>∃(a:hJ)(c:List Int),e=[.ref a]/\wI X.K H a (c.map V.int)/\c.length<64/\∀(p:hJ)(d:List Int),H p=none->d.Perm c->d.Pairwise (·<=·)->Q (.ref p) (upd H p<|.lst<|d.map V.int)):=by intro f s m H e n Q I r h;obtain⟨a,c,rfl,g,b,q⟩:=h;obtain⟨u,rfl,i⟩:=vals1 r;cases i;refine e1a3 (I.list g) λj k l o=>?_;exact Gb l.isList (Ba k) b<|BU I b q
def GK(X:Cx)(H:Hp)(x:V)(d:PyData):Prop:=∀(a:List (hJ×Obj)) (b:St) (s:ic) (u:ci),Inv X a b H s->RelV x u->∃c,Reads s.heap u d c
def GK.int(i:Int):GK X H (.int i) (.int i):=λ_ _ _ _ _ r=>by obtain⟨t,rfl⟩:=r;exact#[_,Reads.int i t]
def GL(I:Inv X a e H s):∀{c:List V} {d:List ci} {b:List PyData},Vals c d->Paired (GK X H) c b->∃f,ReadsAll s.heap d b f:=by
 intro _ _ b z
 induction z generalizing b with
 |nil=>intro w;cases w;exact#[_,.nil]
 |cons r t g=>intro w;cases w with|cons q p =>
  obtain⟨j,h⟩:=q a e s _ I r;obtain⟨k,i⟩:=g p;exact#[_,.cons h i]
def GK.lst(h:wI X.K H a c)(p:Paired (GK X H) c d):GK X H (.ref a) (.list d):=λb m s u I r=>by
 cases r;refine e1a3 (I.list h) λe f g _=>?_;obtain⟨q,i⟩:=GL I f p;obtain⟨o,j,k,n,l⟩:=g.isList;exact#[_,Reads.list j k l<|by simpa using i]
def a0p(X:Cx)(a:Bool):R2:=λx y H Q=>∃d e,GK X H x d/\GK X H y e/\sL d=true/\sL e=true/\pP d e=true/\Q (.bl<|if a then !PySem.Spec.same d e else lv d e) H
def Ys(c:X.A.units+64<kX):Bv X (jO .Eq) (a0p X false):=by intro a s b H x y v u Q I f g h;obtain⟨d,e,i,j,k,l,m,q⟩:=h;obtain⟨p,n⟩:=i a b s v I f;obtain⟨r,o⟩:=j a b s u I g;exact eq_dataH_same n o k l c m #[.bl _,H,I,rfl,q]
def QJ(c:X.A.units+64<kX):Bv X (jO .NotEq) (a0p X true):=by intro a s b H x y v u Q I f g h;obtain⟨d,e,i,j,k,l,m,q⟩:=h;obtain⟨p,n⟩:=i a b s v I f;obtain⟨r,o⟩:=j a b s u I g;exact ne_dataH_same n o k l c m #[.bl _,H,I,rfl,q]
def JN:zc X (.builtin "isinstance") (λa H Q=>∃(x:V)(T:String)(t:ci)(b:Bool),a=[x,.ty T]/\zQ X.K H x t/\rj X.K t (.type T)=↑b/\Q (.bl b) H):=by intro c s j H a k Q I r h;obtain⟨x,T,t,b,rfl,d,e,q⟩:=h;obtain⟨u,v,rfl,f,g⟩:=vals2 r;cases g;exact Om I f d e λi=>#[.bl b,H,I.tok i,rfl,q]
def a0q:V->V->Hp->VK->Prop:=λo i H Q=>∃(p:hJ)(a:List V)(k:Int)(v:V),o=.ref p/\i=.int k/\H p=↑(.lst a)/\0<=k/\a[k.toNat]?=↑v/\Q v H
def QK:ZS X a0q:=by intro a s w H o i x y Q I c d h;obtain⟨p,z,k,v,rfl,rfl,e,f,b,q⟩:=h;cases c;obtain⟨t,rfl⟩:=d;refine e1a3 (I.list<|wI.of (K:=X.K) e) λg r j A=>?_;refine e1a2 (r.get b) λu l m=>?_;have B:=Ew;have n:=(List.getElem?_eq_some_iff.mp b).1;exact wpAny_getItem_list j.isList f q0a (by simpa using l) #[v,H,I,m,q]
noncomputable abbrev FV(X:Cx)(a:mB)(d:List (Str×hJ))(e:List Str)(b:ic)(c:Hp)(C:hJ)(f:List hJ)(g:List (hJ×Obj)):Cx :=
 { X with N:=e,s₀:=b,H₀:=c,env:=tP a d C X.env,outer:=X.stack,stack:=X.stack,ex:=f,fn:=λ_=>false,pn:=g,xe:=λ_ _=>False}
structure zn(X:Cx)(scope:mB)(cl:List (Str×hJ))(T Fr:List Str)(idx:List Nat):Prop where
 kind:scope.kind=.function
 a0r:oS scope X.env=pure cl
 BV:∀y∈scope.names,y.2≠.cell
 names:∀y∈scope.names,y.2=.local->scope.names.lookup y.1=some .local
 sub:∀x c,cl.lookup x=↑c->X.env.cells.lookup x=↑c
 frl:∀y∈scope.names,y.2=.free->∃c,cl.lookup y.1=↑c
 fr:∀(j:Nat)(x:Str),Fr[j]?=↑x->∃i c,idx[j]?=↑i/\X.N[i]?=↑x/\(X.env.kindOf x=some .cell\/X.env.kindOf x=some .free)/\cl.lookup x=↑c/\((ph scope X.env).names.lookup x=some .cell\/(ph scope X.env).names.lookup x=some .free)
 len:idx.length=Fr.length
noncomputable def xJ(T:List Str)(a:List Nat)(b:St):St:=T.map (λ_=>none)++a.map λi=>b[i]?.join
def lookup_mem{β:Type}:∀{l:List (Str×β)} {x:Str} {v:β},l.lookup x=↑v->(x,v)∈l:=by
 intro l
 induction l with
 |nil=>intro _ _ h;cases h
 |cons p r ih =>
  intro x v h;obtain⟨y,z⟩:=p;rw[iV]at h
  cases q:x==y with
  |true =>
   rw[q]at h;cases h;rw[eq_of_beq q];exact hW
  |false =>
   rw[q]at h;exact hZ _<|ih h
def zn.has{l:List Str}(B:zn X a m T l idx)(h:(ph a X.env).names.lookup x=some .cell\/(ph a X.env).names.lookup x=some .free):∃c,m.lookup x=↑c:=by
 have d:∃k,(x,k)∈(ph a X.env).names/\(k=.cell\/k=.free):=by
  rcases h with h|h
  ·exact#[_,lookup_mem h,.inl rfl]
  ·exact#[_,lookup_mem h,.inr rfl]
 obtain⟨k,d,o⟩:=d;obtain⟨⟨n,f⟩,i,e⟩:=List.mem_map.mp d;dsimp only at e
 have:n=x/\f=.free:=by
  by_cases b:(f==NameKind.free&&X.env.scope.kind==ScopeKind.function&&X.env.kindOf n==↑NameKind.cell)=true
  ·rw[cr b]at e;have g:n=x:=congrArg Prod.fst e;simp only[i7,beq_iff_eq]at b;exact#[g,b.1.1]
  ·rw[hI b]at e;have g:n=x:=congrArg Prod.fst e;have j:f=k:=congrArg Prod.snd e;rcases o with q|q
   ·exact iq (j.trans q)<|B.BV _ i
   ·exact#[g,j.trans q]
 obtain⟨rfl,rfl⟩:=this;exact B.frl _ i rfl
def yk.Xd(x:yk P w H h)(f:H a=none)(d:wy P w (upd H a o) h a o):yk P w (upd H a o) h:=λb u e=>by
 by_cases g:b=a
 ·subst g;rw[vm]at e;cases e;exact d
 ·rw[vh g]at e;exact(x b u e).DQ (λ_ _ _ q=>q) (λc q=>by rw[vh<|vv q f];exact q) λc i q=>by rw[vh<|vv q f];exact q
section
variable{X:Cx}{elt iter tg:iZ}{scope:mB}{cl:List (Str×hJ)}{T Fr:List Str}{idx:List Nat}{wi:TI}{g:TG}{tt:TT}{te:TE}{pos:Pos}{ifs:List iZ}
def Yt(X:Cx)(ifs:List iZ)(tt:TT):Prop:=∀(a:List (hJ×Obj)) (s:ic) (b:St) (H:Hp) (Q:Bool->Hp->Prop),Inv X a b H s->tt b H Q ->
 ii 58 X.A (forIn ifs true λc r=>if r=true then do let ok <- rf c X.env (eval c X.env);pure (nj ok) else pure (nj r)) (TP X a b Q) X.xe s
def UX:Yt X [] (λ_ H Q=>Q true H):=λ_ _ _ H _ I h=>sM #[H,I,h]
def UY(h:PT X c b):Yt X [c] b:=λa s d H Q I q=>wpAny_tests_one<|h a s d H Q I q
def QL(u:Nat->ic->Prop)
 (y:∀n s,u n s->ii (ij a w) A (pyNext H) (λr b=>match r with
 |none=>R (.ok .next) b
 |some v=>ii (ij a w) A (sJ target H v) (λ_ f=>ii (ij a w) A (td target e v) (λ_ i =>
 ii (ij a w) A (forIn ifs true λc r=>if r=true then do let z <- rf c e (eval c e);pure (nj z) else pure (nj r)) (λz d =>
 if z=true then ii (ij a w) A (eval elt e) (λx j=>ii (ij a w) A (call (.builtin "list.append") [G,x]) (λ_ k=>∃m,m<n/\u m k) (λ_ _=>False) j) (λ_ _=>False) d
 else ∃m,m<n/\u m d) (λ_ _=>False) i) (λ_ _=>False) f) (λ_ _=>False) b) (λ_ _=>False) s)
 (n:Nat) (h:u n s):mX (ij a w) A (.compLoop (.ListComp elt [#[target,iter,ifs,0]] scope pos) 0 H G e) R s:=by
  refine codeAny_loop rfl u (λn s J=>?_) n h
  refine wpAny_noted ?_
  rw[compTurn_list]
  have l:∀{I:Type} {t:Sem I} {Q:I->ic->Prop} {E:ci->ic->Prop} {s:ic},ii (ij a w) A t Q (λ_ _=>False) s->ii (ij a w) A t Q E s:=λh=>jr h (λ_ _ q=>q) λ_ _ q=>q.elim
  refine am<|nZ<|am<|l<|vX (y n s J) λr b o=>?_
  cases r with
  |none=>exact l<|ap o
  |some v =>
    refine am<|l<|vX o λ_ f B=>am<|l<|vX B λ_ i C=>am<|l<|vX C λz d p=>?_
    cases z with
    |false=>exact l<|ap #[rfl,p]
    |true=>exact am<|am<|l<|vX p λx j D=>am<|l<|vX D λ_ k F=>ap<|ap #[rfl,F]
end
structure Yu(X:Cx)(c P:hJ):Prop where
 code:X.env.code=.ref c
 hd:rs X.base c P
 blt:∃bm ob,X.mg "__builtins__"=↑(.ref bm)/\bm≠oP/\X.base.get? bm=↑ob/\ob.cls=.type "module"/\ob.dict=↑oP/\ob.data=.plain
def TabAt(H:Hp)(P:hJ):Prop:=∃a,H P=↑(.FU a)/\uy a.toList
def Ci{a b:Int}:∀(l:List ci),uy l->uy (l++[.int a 0,.int b 0,c])
 | [],_=>trivial
 | .int _ _::.int _ _::_::r,h=>Ci r h
noncomputable def zW(a b:List Int):Bool:=(a.zip b).all λp=>decide<|p.1<p.2
def UZ(a b:List Int):(iG<|min a.length b.length).all (λj=>decide<|a.getD j 0<b.getD j 0)=zW a b:=by
 unfold zW;rw[mF,oX,oX];constructor
 ·intro h p f;obtain⟨j,c⟩:=l8 f;obtain⟨d,e⟩:=List.getElem?_zip_eq_some.mp c;have l:=(List.getElem?_eq_some_iff.mp d).1;have m:=(List.getElem?_eq_some_iff.mp e).1;have:=h j<|List.mem_range.mpr q0a;rw[jG,jG,d,e]at this;exact this
 ·intro h j c;have c:=List.mem_range.mp c;have g:a[j]?=↑(a.getD j 0):=by rw[jG,jL q0a];rfl
  have i:b[j]?=↑(b.getD j 0):=by rw[jG,jL q0a];rfl
  have k:(a.zip b)[j]?=↑(a.getD j 0,b.getD j 0):=List.getElem?_zip_eq_some.mpr #[g,i];exact h _<|j0 k
def Lq(S:Hp->hJ->List V->Prop)(P:hJ)(g:TA):TE:=λh H Q=>g h H λi c=>∃(a b:hJ)(e f:List Int),i=[.ref a,.ref b]/\S c a (e.map V.int)/\S c b (f.map V.int)/\TabAt c P /\
 ∀d,(∀b o,b≠P->c b=↑o->d b=↑o)->(∀b,b≠P->c b=none->d b=none)->TabAt d P->Q (.bl<|zW e f) d
abbrev a0s(K:hO)(P:hJ)(a:TA):TE:=Lq (wI K) P a
abbrev Yv(K:hO)(P:hJ)(a:TA):TE:=Lq (zu K) P a
structure QM(X:Cx)(S:Hp->hJ->List V->Prop)(P:hJ):Prop where
 go:∀{pins:List (hJ×Obj)} {σ:St} {H1:Hp} {s1:ic} {a b:hJ} {us vs:List V} {ps:Array ci},Inv X pins σ H1 s1->X.A.handled=none->S H1 a us->S H1 b vs->H1 P=↑(.FU ps) ->
  ∃ia ib:List ci,Vals us ia/\Vals vs ib/\a<⇑s1/\b<⇑s1/\a≠P/\b≠P/\∀(Q:ci->ic->Prop)(E:ci->ic->Prop),
   (∀h2 St Mid,(∀A':jN,A'.handled=none->WalksU X.prog X.w A' (⇑s1+4) [⇑s1+4,⇑s1+2,⇑s1+3,⇑s1,⇑s1+1,a,b] [⇑s1+4,⇑s1+3,⇑s1,⇑s1+1] (min ia.toArray.size ib.toArray.size) (λi vals=>∃x y,ia.toArray[i]?=↑x/\ib.toArray[i]?=↑y/\vals=#v[x,y]) St Mid) ->
    St 0 h2->h2.objs.size=⇑s1+5->(∀c o,s1.heap.get? c=↑o->h2.get? c=↑o)->Q (.ref (⇑s1+4)) { s1 with heap:=h2})->ii 58 X.A (call (.type "zip") [.ref a,.ref b]) Q E s1
def Inv.tabled{s':ic}{a:Array ci}(I:Inv X g m H s)(i:H P=↑(.FU l))(p:s'.os=s.os)(r:nY s'.gens)
 (k:∀b o,b≠P->s.heap.get? b=↑o->s'.heap.get? b=↑o)(e:s'.heap.get? P=some { cls:=.none,data:=.fields (l++a)}):Inv X g m (upd H P<|.FU<|l++a) s':=by
  have j:∀b,H b=none->b≠P:=λb n z=>by rw[z,i]at n;cases n
  have h:∀b u,H b=↑u->(∀q,u≠.FU q)->b≠P:=λb u n f z=>by rw[z,i]at n;cases n;exact f _ rfl
  refine I.WR (ch:=[]) p #[λb o q n _ _=>k b o (j b n) q,λb o q n _ _=>#[o.slots,k b o (j b n) q],λb o q n _=>by rw[vh<|j b n];exact n,λb o q _=>?_,λb t q=>by rw[vh<|h b _ q<|λ_ z=>nomatch z];exact q,λb o u q=>by rw[vh<|h b _ q<|λ_ z=>nomatch z];exact q,λb A q=>?_] (λb u q=>?_) r λb d=>by cases d
  · by_cases d : b = P
    · rw[d]; exact#[_, e]
    · exact#[o, k b o d q]
  · by_cases d : b = P
    · subst d
      rw[i]at q
      cases q
      exact#[a,vm]
    · exact#[#v[], by rw[vh d, q]; simp]
  · by_cases d : b = P
    · subst d
      rw[vm]at q
      cases q
      exact e
    · rw[vh d]at q
      refine(I.v0 b u q).DQ (λc v w z=>k c v ?_ z) (λc z=>by rw[vh<|h c _ z<|λ_ y=>nomatch y];exact z) λc t z=>by rw[vh<|h c _ z<|λ_ y=>nomatch y];exact z
      rcases w with y|y
      · rw[y]; exact d
      · exact h c _ y<|λ_ x => nomatch x
def QN{s:ic}{a:Env}{i j:Int}(d:a.scope.kind=.function)(g:a.kindOf b=some .local)(k:a.kindOf c=some .local)(e:s.heap.Ns a.locals m)
 (l:m b=↑(.int i t))(n:m c=↑(.int j u))(o:(b==70)=false)(p:(c==70)=false)(h:Q (.bool<|decide<|i<j) s):ii (ij f w) A (eval (.Compare (.Name b q) [.Lt] [.Name c r] v) a) Q E s:=by
  refine sZ (pZ (lj d g e l<|pZ (lj d k e n<|lt_int h) p) o)<|wn _
def JO(Z:QM X S P)(aC:X.calm=true)(G:Yu X c P)(ae:X.A.depth<tm)(aD:Gl X "all")(aj:X.mg "all"=none)(aE:Gl X "zip")(aF:X.mg "zip"=none)(af:PA X [e1,e2] ta)
 (hk:n.kind=.function) (aG:n.isCoroutine=false) (ag:oS n X.env=pure []) (ah:∀y∈n.names,y.2≠.cell) (h0:n.names.lookup (".0":Str)=↑NameKind.local) (ao:n.names.lookup xa=some .local) (aq:n.names.lookup xb=some .local) (aH:xa≠xb)
 (da:(xa==70)=false) (db:(xb==70)=false)
 (aI:hR [e1,e2] X.env=(false,eval e1 X.env)::hR [e2] X.env:=by rfl) (aJ:(jE p3<|hR [e2] X.env).any (·.1)=false:=by rfl) :
    PE X (.Call (.Name "all" p1) [.GeneratorExp (.Compare (.Name xa q1) [.Lt] [.Name xb q2] q3) [#[.Tuple [.Name xa pa,.Name xb pb] kt pt,.Call (.Name "zip" p2) [e1,e2] [] p3,[],0]] n E] [] p4) (Lq S P ta):=by
  intro p s σ H Q I h
  have hh:X.A.handled=none:=I.ok.hd aC
  refine kZ<|zO I aD aj boot_all<|pV ?_ rfl rfl
  refine ko<|wpAny_GeneratorExp_walksQTD hh aG ag ah h0 ao aq aH hk ae (kZ<|zO I aE aF boot_zip<|ku (vX (af p3 p s σ H _ I h) λus m z9=>e2a3 z9 λvs H1 I1 r1 q1=>?_) aI aJ)<|λ_=>rfl
  obtain⟨a,b,ns,ms,rfl,ha,f,⟨U,hP,tr⟩,q⟩:=q1
  obtain⟨ua,ub,rfl,ra,rb⟩:=vals2 r1
  cases ra
  cases rb
  obtain⟨ia,ib,va,vb,aK,aL,aP,bP,aM⟩:=Z.go I1 hh ha f hP
  have B:m.heap.get? P=↑(rA U):=I1.v0 P _ hP
  have ar:P<⇑m:=ie B
  refine aM _ _ λh2 St au W av aN k2=>?_
  refine(W X.A hh).self 0 { m with heap:=h2} _ _ av ?_
  have I2:Inv X p σ H1 { m with heap:=h2}:=I1.kept (t':=m.toks) k2
  refine#[I2.nolimit,?_]
  have aw:rs h2 c P:=G.hd.keeps λb o e=>I2.bk b o e
  have ax:=aw.code (k2 P _ B) tr
  have aO:=aw.tab<|k2 P _ B
  obtain⟨bm,ob,b1,b2,b3,b4,b5,b6⟩:=G.blt
  -- an the J: the uu is U++l,all else is kept
  have Y:∀(J:ci)(D:ja)(R:Nat)(l:Array ci),(∀b o,b≠P->h2.get? b=↑o->D.get? b=↑o)->h2.objs.size<=D.objs.size->D.get? P=some { cls:=.none,data:=.fields (U++l)}->uy (U++l).toList ->
      ii 58 X.A (builtinsFor X.env.globals X.env.builtins) (λbi d=>∃I fp wr r Pt L au pz F,iA (⇑m+4)=.ref I/\(∀A':jN,A'.handled=none->WalksU X.prog X.w A' I fp wr r Pt L au)/\(∀i M,Pt i M->∃va vb,M=#v[va,vb])/\L 0 d.heap/\(∀b∈fp,b<⇑d)/\d.heap.NoLimit/\rP∉wr /\
          (∀N:ja,(∀b o,d.heap.get? b=↑o->N.get? b=↑o) ->
            QuietGenTD X.prog X.w (genEnv n [] ⇑d J bi X.env) xa xb [] (.Compare (.Name xa q1) [.Lt] [.Name xb q2] q3) (iG ⇑d) wr Pt pz F N (X.A.depth+1) (X.A.units+8)) /\
          (∀a C R gs,gs.bare=true->⇑d<a->C.objs.size=a+1->(∀b o,d.heap.get? b=↑o->C.get? b=↑o) ->
            WalksS X.prog X.w X.A.in4 a (a::⇑d::iG ⇑d) (⇑d::wr) (GenOnlyQ d.gens.size) (passing pz r 0).length
              (λj y=>∃i,(passing pz r 0)[j]?=↑i/\F i y) (GenAt X.prog X.w X.A.in4 a d.gens.size ⇑d (iG ⇑d) wr pz r F) ->
            GenAt X.prog X.w X.A.in4 a d.gens.size ⇑d (iG ⇑d) wr pz r F 0 { d with gens:=d.gens.push gs,toks:=R,heap:=C} ->
            ii 58 X.A (uG []) (λus ak=>ii 58 X.A (call (.builtin "all") (.ref a::us)) (EP X p σ Q) X.xe ak) X.xe { d with gens:=d.gens.push gs,toks:=R,heap:=C})) X.xe { m with heap:=D,toks:=R}:=by
    intro J D R l k3 aQ e3 aR
    have I3:Inv X p σ (upd H1 P<|.FU<|U++l) { m with heap:=D,toks:=R}:=Inv.tabled (s:={ m with heap:=h2}) (s':={ m with heap:=D,toks:=R}) I2 hP rfl I2.bare k3 e3
    have ay:=I3.bk
    refine wpAny_builtinsFor (by rw[I3.ok.glob];exact I3.mod.glob.keeps ay) b1 b2 (ay _ _ b3) b4 b5 b6 ?_
    have nz:∀k,⇑m+k≠P:=λk=>jB<|iB ar<|o4 _ _
    have aS:rP<⇑m:=by obtain⟨mc,hn,_⟩:=I1.nolimit;exact hn.lt
    have aa:=va.length
    have ab:=vb.length
    rw[h8]at aa ab
    have aT:∀(i:Nat)(x:ci),ia.toArray[i]?=↑x->∃t,x=.int (ns.getD i 0) t:=λi x hx=>rq (Ba va) i x (by simpa using hx)
    have aU:∀(i:Nat)(x:ci),ib.toArray[i]?=↑x->∃t,x=.int (ms.getD i 0) t:=λi x hx=>rq (Ba vb) i x (by simpa using hx)
    have u:∀k,k<5->⇑m+k<D.objs.size:=λk hk=>iB (Nat.add_lt_add_left hk _)<|iP (qQ aN.symm) aQ
    refine#[_,_,_,_,_,_,_,(λ_=>true),(λi y=>y=.bool (decide<|ns.getD i 0<ms.getD i 0)),rfl,W,λi M z9=>e2a3 z9 λx y _ _ e=>#[x,y,e],(W X.A hh).frame _ _ _ av λb f o e=>k3 b o ?_ e,λb f=>?_,I3.nolimit,?_,λN a1=>?_,λg h5 aV gs gb g1 g2 k5 WS GA=>?_]
    · simp only[iK, jq, mD]at f
      rcases f with z|z|z|z|z|z|z<;>rw[z]
      · exact nz 4
      · exact nz 2
      · exact nz 3
      · exact nz 0
      · exact nz 1
      · exact aP
      · exact bP
    · simp only[iK, jq, mD]at f
      rcases f with z|z|z|z|z|z|z<;>rw[z]
      · exact u 4 q0q
      · exact u 2 q0q
      · exact u 3 q0q
      · exact u 0 q0q
      · exact u 1 q0q
      · exact n9 aK<|u 0 q0q
      · exact n9 aL<|u 0 q0q
    · intro f
      simp only[iK,jq,mD]at f
      have T:∀k,rP≠⇑m+k:=λk=>iu<|iB aS<|o4 _ _
      rcases f with z|z|z|z
      · exact T 4 z
      · exact T 3 z
      · exact T 0 z
      · exact T 1 z
    · refine#[λA' E' i az aA s2 m2 _ _ _ _ _ _ _ _ => sM #[rfl, s2.heap, s2.toks, rfl, λ_ _ e => e], λA' E' i az aA s2 m2 hA _ _ aW _ hn aj aX _ => ?_]
      obtain⟨x,y,hx,hy,e⟩:=aW
      obtain⟨ex,ey⟩:az=x/\aA=y:=by simpa using congrArg sH e
      subst ex ey
      obtain⟨t1,rfl⟩:=aT i _ hx
      obtain⟨t2,rfl⟩:=aU i _ hy
      exact QN hk ao aq hn aj aX da db #[rfl,s2.heap,s2.toks,rfl,λ_ _ e=>e]
    · have ai : passing (λ_ => true) (min ia.toArray.size ib.toArray.size) 0 = iG (min ia.toArray.size ib.toArray.size) := by
        unfold passing
        simp
      rw[ai]at WS
      have W1:=WS.in4_1
      refine lN<|call_all_walkS<|W1.self 0 _ _ _ GA ⟨g,_,_,_,_,_,_,(λj=>decide<|ns.getD j 0<ms.getD j 0),rfl,W1,GA,λj v s7 Q' E' hv hq=>?_,λs7 mv=>?_⟩
      · obtain⟨i, hi, rfl⟩ := hv
        have:i=j:=by
          obtain⟨hl,he⟩:=List.getElem?_eq_some_iff.mp hi
          rw[List.getElem_range]at he
          exact he.symm
        subst this
        exact kG hq
      · have k7 : ∀b o, b<D.objs.size -> (∀k, b ≠ ⇑m+k) -> D.get? b = some o -> s7.heap.get? b = some o := λb o f hn e => mv.heap b o (by
          simp only[iK,jq,mD,qe]
          exact#[iu f,hn 4,hn 3,hn 0,hn 1]) (k5 b o e)
        have O:∀b,b<⇑m->∀k,b≠⇑m+k:=λb f k=>iu<|iB f<|o4 _ _
        have e7:s7.heap.get? P=some { cls:=.none,data:=.fields (U++l)}:=k7 P _ (ie e3) (O P ar) e3
        have I7:Inv X p σ (upd H1 P<|.FU<|U++l) s7:=Inv.tabled I1 hP mv.os (AllBare.movedS (s:={ m with heap:=h5,gens:=m.gens.push gs,toks:=aV}) (I1.bare.push gb) mv) (λb o f e=>k7 b o (ie<|k3 b o f<|k2 b o e) (O b<|ie e)<|k3 b o f<|k2 b o e) e7
        refine#[.bl _,_,I7,rfl,?_]
        have al:(iG (iG<|min ia.toArray.size ib.toArray.size).length).all (λj=>decide<|ns.getD j 0<ms.getD j 0)=zW ns ms:=by
          rw[lU,im,im,<- aa,<- ab]
          exact UZ ns ms
        rw[al]
        exact q _ (λb o f e=>by rw[vh f];exact e) (λb f e=>by rw[vh f];exact e) #[_,vm,aR]
  cases aB:codeAmong E U.toList with
  |none =>
    refine wpAny_genexprCodeX G.code ax aO aB λc' D R hx aY aZ _ _ a0 _=>?_
    refine Y (.ref c') D R #v[mf E.line,mf E.col,.ref c'] (λb o f e=>hx b o f e) (iP aY<|mn aZ) a0.2 ?_
    rw[qd]
    exact Ci _ tr
  |some cv =>
    refine wpAny_genexprCode_hit G.code ax aB ?_
    have:=Y cv h2 m.toks #v[] (λb o _ e=>e) (hV _) (by simpa using k2 P _ B) (by simpa using tr)
    exact this
def a2H:QM X (wI X.K) P:=#[λ{v M H1 j a b N O A} m R B C D=>by
 refine e1a3 (m.list B) λx F d S=>?_;refine e1a3 (m.list C) λy G f T=>?_;have i:j.heap.get? P=↑(rA A):=m.v0 P _ D
 have h:∀(l:hJ)(g:Array ci),j.heap.IsList l g->l≠P:=λl g n=>e1a3 n λo e c _ z=>by rw[z,i]at e;cases e;cases c
 have k:∀(l:hJ)(g:Array ci),j.heap.IsList l g->l<⇑j:=λl g n=>e1a2 n λo e _=>ie e;refine#[x,y,F,G,k _ _ d.isList,k _ _ f.isList,h _ _ d.isList,h _ _ f.isList,λQ E H=>call_zip_2 d.isList f.isList λI J p q r s t u=>?_]
 exact H I _ _ (λU L=>(WalksT.zip2 (prog:=X.prog) (w:=X.w) L _ _ _ _ _ _ _ (zipApart_new (k _ _ d.isList) (k _ _ f.isList)) x.toArray y.toArray).toU) #[J,p,#[_,_,q],r,s,d.isList.at λo e=>u _ o e,f.isList.at λo e=>u _ o e] t u]
def ON{K:hO}{k:Nat}{f:ic}{C:List ci} 
 (KX:K.In f.heap) (I:f.heap.Ns iv U) (hb:f.heap.Ns oP mb) (ab:∀x:Str,x≠"__name__"->mb x=ny x) (J:f.heap.NoLimit) (hg:f.gens=#v[])
 (D:f.heap.get? a=some { cls:=.type "list",data:=.seq C.toArray}) (hi:lF C X) (hl:X.length<=hX) (hr:wM k rM)
 (hT:f.heap.TableAt c tab #v[]) (ae:K.lookup tab=none)
 (F:∀base:ja,K.In base->base.Ns iv U->(∀b o,f.heap.get? b=↑o->o.cls≠.type "list"->o.cls≠.none->base.get? b=↑o)->vU P w K U base CX k fa fd [x] sp) (E:∀(s:ic)(u:ci),sS s fd #[[u],[]] [(x,u)])
 (af:∀H:Hp,wI K H a (X.map V.int)->H tab=↑(.FU #v[])->sp [.ref a] H (λv _=>v=.bl true) λ_ _ _=>False)
 (ag:∀H e j,CX [] H f (λ_ _ _=>False) e j->False) :
    mX (ij P w) rM (.call (.ref fa) #[[.ref a],[]]) (λr j=>r=.ok (.ret<|.bool true)/\OldK f.heap j.heap/\j.os=f.os/\nY j.gens) f:=by
  have rv:=GG hi
  have L:=hi.length
  have l:f.heap.get? tab=some { cls:=.none,data:=.fields #v[]}:=hT.2
  have nat:a≠tab:=λz=>by rw[z,l]at D;cases D
  -- from an abstract ah in aa nothing ai the Y and the uu aj be M
  have core:∀H:Hp,(∀b,H b=none\/(b=a/\∃o xs,H b=↑(.KG o<|.lst xs))\/(b=tab/\H b=↑(.FU #v[])))->wI K H a (X.map V.int)->H tab=↑(.FU #v[])->yk P w H f.heap->(H a≠none->K.lookup a=none) ->
      mX (ij P w) rM (.call (.ref fa) #[[.ref a],[]]) (λr j=>r=.ok (.ret<|.bool true)/\OldK f.heap j.heap/\j.os=f.os/\nY j.gens) f:=by
    intro H Z hS N O hK
    have freeOf:∀{b:hJ} {o:Obj},f.heap.get? b=↑o->o.cls≠.type "list"->o.cls≠.none->H b=none:=λ{b o} e c1 c2=>by
      rcases Z b with z|⟨z,_⟩|⟨z,_⟩
      · exact z
      · rw[z, D]at e; cases e; exact iq rfl c1
      · rw[z, l]at e; cases e; exact iq rfl c2
    have y:∀{b:hJ} {m:Str->Option ci},f.heap.Ns b m->(Jn f.heap H).Ns b m:=λ{b m} z9=>e3a3 z9 λo es ep e d r=>by
      refine#[o,es,ep,Er e ?_,d,r]
      rcases Z b with z|⟨z,_⟩|⟨z,_⟩
      · exact z
      · rw[z, D]at e; cases e; have d' : Data.seq C.toArray _ = Data.dict es ep := d; cases d'
      · rw[z, l]at e; cases e; have d' : tV #v[] = Data.dict es ep := d; cases d'
    have Q:K.In (Jn f.heap H):=λb o e=>Er (KX b o e) (by
      rcases Z b with z|⟨z,_,_,z2⟩|⟨z,_⟩
      · exact z
      · rw[z]at e z2; rw[hK<|by rw[z2]; simp]at e; cases e
      · rw[z, ae]at e; cases e)
    have hM:Mod K U (Jn f.heap H):=#[Q,y I,#[mb,y hb,ab],e1a2 J λmc h1 h2=> #[mc,y h1,h2]]
    have e0:Jz P w K U (Jn f.heap H) rM [] f H:=#[rfl,hM,λb o e=>Uq e,qQ<|Ob _ _,trivial,λb hb=>iq (show b∈([]:List hJ) from hb) q0o,O,.of_eq hg]
    refine kh ((F _ Q (y I) λb o e c1 c2=>Er e<|freeOf e c1 c2).run rM [] f H ⟨[.ref a],[]⟩ [.ref a] [.ref a] _ _ hr e0 (E f<|.ref a) (.cons rfl .nil)<|af H hS N) λr j h=>?_
    cases r with
    |error e=>exact(ag H e j h).elim
    |ok fl =>
      cases fl with
      |next=>exact iR h
      |brk=>exact iR h
      |cont=>exact iR h
      |ret u =>
        obtain⟨v,H',os,R,un,B,r',q⟩:=h
        have q':v=.bl true:=q
        subst q'
        obtain rfl:u=rJ true:=r'
        have G:∀b o,f.heap.get? b=↑o->H b=none->j.heap.get? b=↑o:=λb o e n=>un.keep b o e n (by intro z;exact iq (show b∈([]:List hJ) from z) q0o) q0o
        obtain⟨more,hm⟩:=un.BM tab _ N
        have S:j.heap.get? tab=some { cls:=.none,data:=.fields (#v[]++more)}:=B tab _ hm
        have p:∀b o,f.heap.get? b=↑o->b≠tab->j.heap.get? b=↑o:=λb o e n=>by
          rcases Z b with z|⟨_,ob,xs,z⟩|⟨z,_⟩
          · exact G b o e z
          · have z2 := un.BL b ob _ z
            obtain⟨e1,_⟩:=O b _ z
            obtain⟨e2,_⟩:=B b _ z2
            rw[e]at e1;cases e1
            exact e2
          · exact iq z n
        refine#[rfl,#[λb o e=>?_,λb o e=>?_],os,R]
        · by_cases t : b = tab
          · subst t
            rw[l]at e
            cases e
            exact .inr<|.inl #[hT.isCodeTable,rfl,#v[],more,rfl,S]
          · exact .inl<|p b o e t
        · by_cases t : b = tab
          · rw[t]; exact#[_, S]
          · exact#[o, p b o e t]
  have T:∀H:Hp,wy P w H f.heap tab (.FU #v[]):=λH=>l
  cases hk:K.lookup a with
  |some o =>
    have e:=KX a o hk
    rw[D]at e
    cases e
    refine core (λb=>if b=tab then some (.FU #v[]) else none) (λb=>?_) (.inr #[_,C.toArray,_,hk,rfl,rfl,rfl,by rw[im,L];exact hl,by simpa using rv]) (cr rfl) (λb u z=>?_) λz=>iq (hI nat) z
    · by_cases g : b = tab
      · exact .inr<|.inr #[g, cr g]
      · exact .inl<|hI g
    · by_cases g : b = tab
      · have A := (cr g).symm.trans z
        cases A
        rw[g]
        exact T _
      · have A := (hI g).symm.trans z
        cases A
  |none =>
    refine core (λb=>if b=tab then some (.FU #v[]) else if b=a then some (.KG { cls:=.type "list",data:=.seq C.toArray} (.lst<|X.map V.int)) else none) (λb=>?_) (.inl<|.inr ⟨{ cls:=.type "list",data:=.seq C.toArray},(hI nat).trans<|cr rfl⟩) (cr rfl) (λb u z=>?_) λ_=>hk
    · by_cases g : b = tab
      · exact .inr<|.inr #[g, cr g]
      · by_cases i : b = a
        · exact .inr<|.inl #[i, _, _, (hI g).trans<|cr i]
        · exact .inl<|(hI g).trans<|hI i
    · by_cases g : b = tab
      · have A := (cr g).symm.trans z
        cases A
        rw[g]
        exact T _
      · by_cases i : b = a
        · have A := ((hI g).trans<|cr i).symm.trans z
          cases A
          subst i
          exact#[D,by rw[h8];exact hl,C,_,rv,D]
        · have A := ((hI g).trans<|hI i).symm.trans z
          cases A
structure JP(mg:Str->Option ci)(base:ja)(c tab:hJ):Prop where
 hd:rs base c tab
 blt:∃bm ob,mg "__builtins__"=↑(.ref bm)/\bm≠oP/\base.get? bm=↑ob/\ob.cls=.type "module"/\ob.dict=↑oP/\ob.data=.plain
def QO{l:qT}{n k:Nat}{p:List Str}{XP:(Str->Option ci)->ja->Prop}{YP:jf->ja->Prop}{d:DefRec}{K:Params->hO}{sp:jf->hO->hJ->Sp} 
 (hn:l.most=↑n) (L:n<=hX) (M:d.params.defaults=[]) (hr:wM k rM)
 (hY:∀(w:jf)(h:ja),YP w h->(K w.params).In h) (z:(recsOf q).find? (λe=>e.name==tx)=↑dx)
 (F:∀(w:jf)(r:Str->Option ci)(I:hJ)(h:ja),(K w.params).In h->h.Ns iv r->r d.name=↑(.ref I) ->
 ∃(c j:hJ)(N:iX),oy (K w.params) tx=↑(c,j)/\(K w.params).lookup j=none/\(∀(s:ic)(u:ci),sS s N #[[u],[]] [(x,u)]) /\
 ∀i:ja,(K w.params).In i->i.Ns iv r->JP r i c j->vU l.prog w (K w.params) r i CX k I N [x] (sp w (K w.params) j))
 (O:∀(w:jf)(K:hO)(H:Hp)(a j:hJ)(J:List Int),J.length<=n->wI K H a (J.map V.int)->H j=↑(.FU #v[])->sp w K j [.ref a] H (λv _=>v=.bl true) λ_ _ _=>False)
 (P:∀(H:Hp)(s:ic)(e:ci)(Q:ic),CX [] H s (λ_ _ _=>False) e Q->False) :
    uZ q p XP YP l.row.toRowW d [] (λf vs=>ug f vs):=by
  refine Att.JH hn M λw ab A r mb I o pm cd ae a vs J G Y ho hd af R B t m hg=>?_
  have S:=hY w _ Y
  obtain⟨c,j,N,ht,U,hb,hF⟩:=F w r I _ S G.T.g R
  obtain⟨C,hP⟩:=PySem.W.tab_of G.T S z ht
  obtain⟨bm,ob,b1,b2,b3,X,b5,b6⟩:=G.T.bmain
  refine ON S G.T.g G.T.b G.T.builtins G.T.nolimit hg B t (iP m L) hr (C.tab hP) U (λi kb nb bk=>hF i kb nb #[?_,bm,ob,b1,b2,bk _ _ b3 (by rw[X];simp) (by rw[X];simp),X,b5,b6]) hb (λH hS hH=>O w _ H a j J m hS hH) λH e Q=>P H A e Q
  obtain⟨o,Z,D,tf,y,tg,aa,E,tt,e1,r1,r2⟩:=C
  exact#[o,Z,D,tf,y,tg,aa,E,tt,bk _ _ e1 (by rw[r1];simp) (by rw[r1];simp),r1,r2]
end L2
namespace SX
open PySem PyProof.Rows
def a2I{k:Int}(S:wh w a c s.heap)(h:Q (.bool<|decide<|k∈c) 103):ii (ij b w) A (jO .In (.int k u)<|.ref a) Q E s :=
 wpAny_inSet_of (knd:=kP b w) (k:=k) (qf _ _ _ _) rfl S.of h
def Yw{k:Int}(S:wh w a d s.heap)(room:d.length+1<=127)
 (h:∀c b e,jl a s.heap c->wh w a b c->b.Perm (if k∈d then d else k::d)->Q .none { s with heap:=c,toks:=e}) :
    ii (ij f w) A (call (.builtin "set.add") [.ref a,.int k u]) Q E s:=by
  refine jg F.slot_set_add S.typeIs F.entry_set_add ?_<|F.args_set_add_2 _ _
  show ii _ _ (pQ "add" #[[.ref a,.int k u],[]] >>= _) _ _ _
  refine am<|am<|ap<|ap<|am ?_
  refine W9 S room λc b e g i p _=>ap #[_,rfl,h c b e g i p]
def U0{k:Int}(S:wh w a e s.heap)
 (h:∀c b f,jl a s.heap c->wh w a b c->(if k∈e then e.Perm (k::b) else b=e)->Q .none { s with heap:=c,toks:=f}) :
    ii (ij d w) A (call (.builtin "set.discard") [.ref a,.int k u]) Q E s:=by
  refine jg F.slot_set_discard S.typeIs F.entry_set_discard ?_<|F.args_set_discard_2 _ _
  show ii _ _ (pQ "discard" #[[.ref a,.int k u],[]] >>= _) _ _ _
  refine am<|am<|ap<|ap<|am ?_
  unfold Builtin.Frozenset.withSetAsKey setDiscard
  refine wpAny_tryCatch ?_
  refine iT<|am<|(kP d w).pyHash (k:=k) (qf _ _ _ _) ?_
  exact GJ (s:=103) S λc b g i p=>ap #[_,rfl,h c b _ g i p]
def Lr(h:∀a,DF w ⇑s a->(∀c o,s.heap.get? c=↑o->a.get? c=↑o)->Q (.ref ⇑s) 107) :
  mX (ij b w) A (.call (.builtin "set.__new__") #[[.type "set"],[]]) (wants Q E) s:=by
 refine mZ<|am<|nc F.newCall_set_0<|ap #[lx pW _,j5 F.entry_set_new ?_];rw[jP pW _];unfold Builtin.«set.__new__» pO;have g:=qg;obtain⟨i,j,k,l,m⟩:=s;dsimp only;generalize d:newSet=n
 wp_walk
 subst d;refine QH λa e f=>?_;exact ap<|h a e f
def JQ(h:∀k,wh w ⇑s [] k->(∀c o,s.heap.get? c=↑o->k.get? c=↑o)->Q (.ref ⇑s) { s with heap:=k}):ii (ij n w) A (call (.type "set") []) Q E s:=by
 obtain⟨I,J,p⟩:=F.called_set.mro;have l:=F.called_set.made;have q:=F.called_set.sub;refine m8<|mZ<|ap #[ol _ q0s,j5 F.entry_type_call ?_];rw[t9 (uY "set" [] []) rfl];have v:=F.called_set.notType;have x:=F.called_set.canCreate;have y:=F.typeCall_set_0
 repeat (any_goals (first|assumption|wp_step))
 refine kh (Lr (E:=E) (Q:=λf g=>f=.ref ⇑s/\∃a,g=107/\DF w ⇑s a/\∀c o,s.heap.get? c=↑o->a.get? c=↑o) λa j m=>#[rfl,a,rfl,j,m]) λz L b=>?_
 cases z with
 |error e=>exact b
 |ok f1 =>
  cases f1 with
  |ret f =>
   obtain⟨rfl,a,rfl,j,m⟩:=b;have t:wh w ⇑s [] a:=j.set;have B:my 107 (.ref ⇑s) "set":=wh.typeIs (s:=107) t;have C:=F.called_set.init.lookup;have D:=F.called_set.init.bind<|.ref ⇑s
   repeat (any_goals (first|assumption|wp_step))
   refine kh (og (R:=wants (λr i=>r=.none/\i=107) E) F.called_set.init.plain F.entry_set_init<|check_set_init B ?_) λG M d=>?_
   ·obtain⟨H,u,N,O⟩:=id j;unfold Builtin.«set.__init__» noKeywords
    wp_walk
    exact#[rfl,rfl]
   ·cases G with
    |error e=>exact d
    |ok f2 =>
     cases f2 with
     |ret r =>
      obtain⟨rfl,rfl⟩:=d
      repeat (any_goals (first|assumption|wp_step))
      exact h _ t m
     |_=>exact d.elim
  |_=>exact b.elim
end SX
namespace L2
open PySem PySem.Spec PyProof.Rows SX
section
variable{X:Cx}
def OO:zc X (.type "set") (λa H Q=>a=[]/\∀p:hJ,H p=none->Q (.ref p) (upd H p<|xC X.w p [])):=by intro b s c H a d Q I r h;obtain⟨rfl,q⟩:=h;cases r;exact JQ λe S k=>#[.ref ⇑s,_,I.laid (t':=s.toks) k (hV _)<|Hu S,rfl,q _<|I.v0.fresh<|hV _]
def a2J(w:jf):R2:=λx y H Q=>∃(k:Int)(a:hJ)(b:List Int),x=.int k/\y=.ref a/\H a=↑(xC w a b)/\Q (.bl<|decide<|k∈b) H
def Yx:Bv X (jO .In) (a2J X.w):=by intro b s f H x y v u Q I c d h;obtain⟨k,a,g,rfl,rfl,e,q⟩:=h;obtain⟨t,rfl⟩:=c;cases d;exact a2I (zV I e) #[.bl _,H,I.tok _,rfl,q]
def Inv.sset{f:Nat}(I:Inv X c h H s)(i:H a=↑(xC X.w a k))(j:jl a s.heap g)(S:wh X.w a d g) :
  Inv X c h (upd H a<|xC X.w a d) { s with heap:=g,toks:=f} :=
 I.write (t':=f) (by rw[i];trivial) (.inl rfl) (λb u n e=>j.extBut b u n e) (e3a2 S λ_ _ _ e _=> #[_,e]) (Hu S)
def U1:ZC X "set.add" (λx d H Q=>∃(a:hJ)(c:List Int)(k:Int),x=.ref a/\d=[.int k]/\H a=↑(xC X.w a c)/\c.length+1<=127/\∀b:List Int,b.Nodup->b.Perm (if k∈c then c else k::c)->Q .wW (upd H a<|xC X.w a b)):=by intro e s m H x d v n Q I g i h;obtain⟨a,c,k,rfl,rfl,f,j,q⟩:=h;cases g;obtain⟨u,rfl,t,rfl⟩:=i.one;exact Yw (zV I f) j λo b r l S p=>#[.wW,_,I.sset f l S,rfl,q b S.nodup p]
def QP:ZC X "set.discard" (λx d H Q=>∃(a:hJ)(c:List Int)(k:Int),x=.ref a/\d=[.int k]/\H a=↑(xC X.w a c)/\∀b:List Int,b.Nodup->(if k∈c then c.Perm (k::b) else b=c)->Q .wW (upd H a<|xC X.w a b)):=by intro e s l H x d v m Q I g i h;obtain⟨a,c,k,rfl,rfl,f,q⟩:=h;cases g;obtain⟨u,rfl,t,rfl⟩:=i.one;exact U0 (zV I f) λn b o j S p=>#[.wW,_,I.sset f j S,rfl,q b S.nodup p]
def Yy(w:jf)(r:V->List V->Hp->VK->Prop)(d:TE)(t:TA):TE:=λb H Q=>d b H λx c=>(∃(a:hJ)(e:List Int),x=.ref a/\c a=↑(xC w a e))/\t b c λf g=>r x f g Q
variable{o e:iZ}{es:List iZ}{to:TE}{t:TA}{name:Str}{apos cpos:Pos}{id:String}{r:V->List V->Hp->VK->Prop}
def QQ(i:Slot "set" name id)(k:typeOf (.builtin id)=pure (.type "method_descriptor"))(q:ZC X id r)(u:PE X o to)(y:PA X (e::es) t)
 (f:iW o name X.env (eval o X.env)=eval o X.env:=by rfl)
 (j:((jE cpos<|hR (e::es) X.env).all (λx=>!x.1)&&(nC cpos<|lp [] X.env).all (λx=>x.1.isSome)&&decide ((e::es).length+([]:List qc).length+(if ([]:List qc).isEmpty then 0 else 1)<30))=true:=by rfl)
 (g:(apos.endLine==cpos.line)=true:=by rfl) (z:hR (e::es) X.env=71::hR es X.env:=by rfl) (d:(jE cpos<|hR es X.env).any (·.1)=false:=by rfl) :
    PE X (.Call (.Attribute o name apos) (e::es) [] cpos) (Yy X.w r to t):=by
  intro c s l H Q I h
  refine uM f j g rfl<|vX (u c s l H _ I h) λv A m=>e2a4 m λx B n C D E=>?_
  obtain⟨a,W,rfl,G⟩:=D
  cases C
  have S:=zV n G
  refine#["set",id,F.plainAttrs_set,i,k,S.typeIs,λb J=>?_,?_]
  · cases J
    refine e3a2 S λ_ _ _ L _=>?_
    exact#[_,L,rfl]
  have p:=y cpos c A l B _ n E
  rw[z]at p ⊢
  refine kF (by show (false||(jE cpos<|hR es X.env).any (·.1))=false;rw[d]<;>rfl)<|jQ ?_
  exact vX p λM N m=>e2a3 m λO P R T U=>q c N l P (.ref a) O (.ref a) M Q R rfl T U
end
def DK(e:hJ)(d:Option hJ)(h:ja):Prop:=∃o,h.get? e=↑o/\o.dict=d
def U4(o:Obj)(f:Array ci->Array ci):(o.mapFields f).dict=o.dict:=by obtain⟨c,d,a,b⟩:=o;cases a<;>rfl
section
variable{M:Model}{A:jN}{E:ci->ic->Prop}{s:ic}{base:ja}{env:Env}{outer:List Env}{L e:hJ}{oe:Obj}{vs:Array ci}{a0 cls:ci}{d:Option hJ}
def Xe{c:Bool}(m:A.frames=↑(env::outer))(k:s.heap.FunFrames base (env::outer))(I:env.frame=↑L)(n:s.heap.get? e=↑oe)(p:base.StaysIn s.heap)(r:base.get? e=none)(g:oe.data=.fields vs)(i:1<vs.size)(J:vs[0]?=↑a0)
 (h:∀t,Heap.NotedW base (env::outer) e oe.cls a0 (mf L) s.heap t->DK e oe.dict t->Q () { s with heap:=t}) :
    ii M A (do setField (.ref e) 1 (<- EntryCells.newEntry head (<- frameOf env) .none (mf L) .none (<- entryPlaceOf L c))) Q E s:=by
  have N:e∉(env::outer).filterMap (·.frame):=λz=>by
    obtain⟨_,o,w,O⟩:=k.mem z
    rw[n]at w;cases w;exact O _ g
  refine am<|wpAny_frameOf_fun m k I λa l=>am<|wpAny_entryPlaceOf λx j=>?_
  have B:a.get? e=↑oe:=(l.2.1 e N).trans n
  have C:base.StaysIn a:=λb o q=>(l.2.1 b λz=>by rw[(k.mem z).1]at q;cases q).trans<|p b o q
  refine am<|i8 ?_<|j.sizeOk5 _ _ _ _ _
  have P:∃f:Array ci,(([head,.ref L,.none,mf L,.none]++(if x.isEmpty then lu 6 Value.none else x)).toArray=f)/\f[3]?=↑(mf L):=#[_,rfl,by first|(simp;done)|(rcases j with rfl|⟨_,_,_,_,_,_,_,rfl⟩<;>simp)]
  obtain⟨f,R,S⟩:=P
  rw[R]
  have u:=ce (h:=a) { cls:=.type "traceback",dict:=none,data:=.fields f} B
  have D:a.objs.size≠e:=jB<|ie B
  refine nJ u g i<|h _ ?_ ?_
  · have F := Obj.data_mapFields g (·.setIfInBounds 1 (iA a.objs.size))
    have T:=jd (Obj.mapFields (·.setIfInBounds 1 (iA a.objs.size))) u<|Obj.isFreed_of_fields F
    have U:=(iU (a.push { cls:=.type "traceback",dict:=none,data:=.fields f}) (Obj.mapFields (·.setIfInBounds 1 (iA a.objs.size)))<|Ne.symm D).trans<|il a rfl
    have v:∀b o,b≠e->a.get? b=↑o->((a.push { cls:=.type "traceback",dict:=none,data:=.fields f}).update e (Obj.mapFields (·.setIfInBounds 1 (iA a.objs.size)))).get? b=↑o:=λb o z q =>
      (iU _ _<|Ne.symm z).trans (ce _ q)
    have G:∀b o,s.heap.get? b=↑o->(∀vs,o.data≠.fields vs)->b≠e:=λb o q z y=>by rw[y,n]at q;cases q;exact z _ g
    refine#[λb o q=>v b o (λz=>by rw[z,r]at q;cases q)<|C b o q,k.of_keeps λb o q z=>?_,?_,λb o q z=>?_]
    · obtain⟨H, y⟩ := l.2.2 b o q
      exact#[_,v b _ (G b o q z) y,rfl]
    · exact#[_, _, a.objs.size, _, _, T, #[Obj.cls_mapFields _ _, by rw[Array.getElem?_setIfInBounds_ne q0q]; exact J], F, by simp[i], C.fresh, D, U, rfl, S]
    · obtain⟨H, y⟩ := l.2.2 b o q
      exact#[H,v b _ (G b o q z) y]
  · exact#[_, jd _ u<|Obj.isFreed_of_fields<|Obj.data_mapFields g _, U4 _ _]
def U5(c:A.frames=↑(env::outer))(l:s.heap.FunFrames base (env::outer))(g:env.frame=↑L)(i:s.heap.get? e=↑oe)(f:base.StaysIn s.heap)(b:base.get? e=none)(j:oe.data=.fields vs)(k:vs[1]?=some .none)(m:vs[0]?=↑a0)
 (h:∀a,Heap.HeldW base (env::outer) e oe.cls a0 L a->s.heap.UpToSlots a->DK e oe.dict a->Q () 107):ii M A (uz (.ref e) env) Q E s:=by
  unfold uz
  simp only[g]
  refine am<|jt i j k ?_
  rw[hI q0q]
  exact Xe c l g i f b j (Array.getElem?_eq_some_iff.mp k).1 m λa n=>e0a4 n λo p q r y=>h a #[o,b,p,q] r y
def U6(h:A.frames=↑(env::outer))(p:env.frame=↑L)(i:ml base (env::outer) e cls a0 s.heap)(x:DK e d s.heap)
 (B:∀f,Heap.HeldW base (env::outer) e cls a0 L f->s.heap.UpToSlots f->DK e d f->Q () { s with heap:=f}):ii M A (uz (.ref e) env) Q E s:=by
  obtain⟨j,g,C,oe,vs,T,N,O,k,⟨rfl,D⟩,r,t,l,m,n,c,u⟩:=i
  obtain⟨P,v,rfl⟩:=x
  rw[k]at v;cases v
  unfold uz
  simp only[p]
  refine am<|jt k r t ?_
  rw[cr<|show (iA T != Value.none)=true from by simp]
  refine am<|jt n c u ?_
  rw[hI<|show ¬((Value.none==mf L)=true) from by simp[mf]]
  refine am<|nJ n c (Array.getElem?_eq_some_iff.mp u).1 ?_
  have a:∀b,b≠T->(s.heap.update T (Obj.mapFields (·.setIfInBounds 3 Value.none))).get? b=s.heap.get? b:=λb z=>iU _ _<|Ne.symm z
  have w:∀b o,s.heap.get? b=↑o->(∀vs,o.data≠.fields vs)->b≠T:=λb o q z y=>by rw[y,n]at q;cases q;exact z _ c
  refine Xe h (C.of_keeps λb o q z=>#[o,(a b<|w b o q z).trans q,rfl]) p ((a e<|Ne.symm m).trans k) (λb o q=>(a b λz=>by rw[z,l]at q;cases q).trans<|j b o q) g r (Array.getElem?_eq_some_iff.mp t).1 D
    λf F=>e0a4 F λG H I J y=>B f #[G,g,H,I] (λb o q z=>J b o ((a b<|w b o q z).trans q) z) y
def a0t(n:base.StaysIn s.heap)(p:base.get? e=none)(C:s.heap.FunFrames base l)(D:s.heap.TracedAtW base e cls a0 H)(F:DK e d s.heap)
 (h:∀m,ml base l e cls a0 m->s.heap.UpToSlots m->DK e d m->Q () { s with heap:=m}):ii M A (setFlight (.ref e) none) Q E s:=by
  obtain⟨oe,vs,T,I,J,r,g,u,v,i,j,t,a,G⟩:=D
  obtain⟨N,w,rfl⟩:=F
  rw[r]at w;cases w
  have k:=(Array.getElem?_eq_some_iff.mp G).1
  have c:∀b,b≠T->(s.heap.update T (Obj.mapFields (·.setIfInBounds 3 ((none:Option hJ).elim Value.none λf=>mf f)))).get? b=s.heap.get? b:=λb z=>iU _ _<|Ne.symm z
  have x:∀b o,s.heap.get? b=↑o->(∀vs,o.data≠.fields vs)->b≠T:=λb o q z y=>by rw[y,t]at q;cases q;exact z _ a
  have B:=(c e<|Ne.symm j).trans r
  refine am<|jt r u v ?_
  rw[cr<|show (iA T != Value.none)=true from by simp]
  refine nJ t a k<|h _ ⟨λb o q=>(c b λz=>by rw[z,i]at q;cases q).trans<|n b o q,p,C.of_keeps λb o q z=>#[o,(c b<|x b o q z).trans q,rfl],?_⟩ (λb o q z=>#[o.slots,(c b<|x b o q z).trans q]) #[_,B,rfl]
  exact#[oe,vs,T,_,_,B,g,u,v,i,j,jd _ t<|Obj.isFreed_of_fields<|Obj.data_mapFields a _,Obj.data_mapFields a _,by simp[k]]
def BG(b:A.frames=↑(env::outer))(k:s.heap.FunFrames base (env::outer))(l:env.frame=↑L)(m:s.heap.get? e=↑oe)(c:base.StaysIn s.heap)(f:base.get? e=none)(n:oe.data=.fields vs)(o:vs[1]?=some .none)(p:vs[0]?=↑a0)
 (h:∀a,ml base outer e oe.cls a0 a->s.heap.UpToSlots a->DK e oe.dict a->Q () 107):ii M A (uI env<|.ref e) Q E s:=by
  refine am<|U5 b k l m c f n o p λq g=>e0a4 g λr t u v w x=>a0t (s:={ s with heap:=q}) r t u v x λy g=>e0a4 g λz B ⟨_,_,C⟩ D i j=>?_
  exact h y #[z,B,C,D] (w.trans i) j
def QR(b:A.frames=↑(env::outer))(j:env.frame=↑L)(c:ml base (env::outer) e cls a0 s.heap)(k:DK e d s.heap)
 (l:∀a,ml base outer e cls a0 a->s.heap.UpToSlots a->DK e d a->Q () 107):ii M A (uI env<|.ref e) Q E s:=by
  refine am<|U6 b j c k λm f=>e0a4 f λn o p q r g=>a0t (s:={ s with heap:=m}) n o p q g λt f=>e0a4 f λu v ⟨_,_,w⟩ x h i=>?_
  exact l t #[u,v,w,x] (r.trans h) i
end
class GX where
 g:hJ->Option hJ->Hp->Prop
variable[GX]
structure EI(P:iQ)(w:jf)(outer:List Env)(H:Hp)(s:ic)(H':Hp)(C x:hJ)(s':ic):Prop where
 os:s'.os=s.os
 bare:nY s'.gens
 un:Un (zJ outer) [] H H' s.heap s'.heap
 v0:yk P w H' s'.heap
 dct:∃d,DK x d s'.heap/\GX.g C d H'
 fly:∃(B:ja)(a0:ci),ml B outer x (.ref C) a0 s'.heap/\∀b o,s'.heap.get? b=↑o->(H' b≠none\/∃o0,s.heap.get? b=↑o0)->b∉zJ outer->B.get? b=↑o
def v4(P:iQ)(w:jf):Qe:=λa H s E e c=>∃(C x:hJ)(b:Hp),e=.ref x/\EI P w a H s b C x c/\E (.ref C) ↑x b
def Bb(x:yk P w H h)(e:H a=↑o):∃u,h.get? a=↑u:=by
 have d:∀o:HO,wy P w H h a o->∃u,h.get? a=↑u:=by
  intro o q
  cases o with
  |lst i=>obtain⟨_,_,_,_,z⟩:=q;exact#[_,z]
  |tup i=>obtain⟨_,_,_,c,z,_⟩:=q;exact#[_,z]
  |dK g=>obtain⟨_,_,_,_,c,_,_,z,_⟩:=q;exact#[_,z]
  |dT g=>obtain⟨_,_,_,_,c,_,_,z,_⟩:=q;exact#[_,z]
  |set S n=>obtain⟨c,_,_,_,z,_⟩:=q;exact#[_,z]
  |ins C j fs=>obtain⟨_,_,_,z,_⟩:=q;exact#[_,z]
  |own b=>exact q
  |xd fs=>obtain⟨k,⟨c,_,_,z,_⟩,_⟩:=q;exact#[_,z]
  |zb lo l=>obtain⟨_,_,_,z⟩:=q;exact#[_,z]
  |KG c u=>exact#[_,q.1]
  |FU m=>exact#[_,q]
  |met f y=>exact#[_,q]
  |ext p=>exact q.2.1
 exact d o<|x a o e
section
variable{P:iQ}{w:jf}{l:List Env}{H H':Hp}{s s2:ic}{B h':ja}
def QS(u:Un (zJ l) [] H H' s.heap s2.heap)(m:yk P w H' s2.heap)(g:∀b o,s2.heap.get? b=↑o->(H' b≠none\/∃D,s.heap.get? b=↑D)->b∉zJ l->B.get? b=↑o)
 (i:∀b∈zJ l,H' b=none/\∃o,s2.heap.get? b=↑o/\∀E,o.data≠.fields E)(p:B.StaysIn h')(F:s2.heap.UpToSlots h'):Un (zJ l) [] H H' s.heap h'/\yk P w H' h':=by
  have d:∀b o,s2.heap.get? b=↑o->b∈zJ l->∃r,h'.get? b=some { o with slots:=r}:=λb o e G=>by
    obtain⟨_,t,C,n⟩:=i b G
    rw[e]at C
    cases C
    exact F b o e n
  refine#[#[λb o e n f h=>?_,λb o e n f h=>?_,λb o e n h=>u.free b o e n h,λb o e h=>?_,u.B4,u.BL,u.BM],λa o e=>?_]
  · exact p b o<|g b o (u.keep b o e n f h) (.inr #[o, e]) f
  · obtain⟨r, k⟩ := u.slot b o e n f h
    obtain⟨x,y⟩:=d b _ k f
    exact#[x,y]
  · obtain⟨t, k⟩ := u.there b o e h
    by_cases f:b∈zJ l
    · obtain⟨r, y⟩ := d b _ k f
      exact#[_,y]
    · exact#[_, p b t<|g b t k (.inr #[o, e]) f]
  · have I : ∀c, H' c ≠ none -> c ∉ zJ l := λc A f => A (i c f).1
    refine(m a o e).DQ (λc v A q=>?_) (λ_ q=>q) λ_ _ q=>q
    have j:H' c≠none:=by
      rcases A with z|z
      · rw[z, e]; simp
      · rw[z]; simp
    exact p c v<|g c v q (.inl j)<|I c j
end
section
variable{X:Cx}{pins:List (hJ×Obj)}{σ:St}{H1 H':Hp}{s1 s2:ic}{C x:hJ}{B h':ja}{a0:ci}
def yp(I:Inv X pins σ H1 s1)(a:X.stack=X.env::X.outer):X.env.frame=↑X.env.locals:=by
 rcases I.ok.CV with z|z
 ·rw[a]at z;have:=congrArg oF z;simp at this
 ·exact z.2
def OP(I:Inv X pins σ H1 s1)(a:X.stack=X.env::X.outer):zJ X.stack=X.env.locals::zJ X.outer:=by rw[a];unfold zJ;rw[lh,yp I a]
def Ls(I:Inv X pins σ H1 s1)(D:X.stack=X.env::X.outer)(hex:X.ex=[])(os:s2.os=s1.os)(m:nY s2.gens)(u:Un (zJ X.stack) [] H1 H' s1.heap s2.heap)(p:yk X.prog X.w H' s2.heap)
 (r:∀b o,s2.heap.get? b=↑o->(H' b≠none\/∃k,s1.heap.get? b=↑k)->b∉zJ X.stack->B.get? b=↑o) (nfr:∀b∈zJ X.stack,H' b=none/\∃o,s2.heap.get? b=↑o/\∀R,o.data≠.fields R)
 (up:s2.heap.UpToSlots h')(E:ml B X.outer x (.ref C) a0 h')(F:∃d,DK x d h'/\GX.g C d H'):EI X.prog X.w X.outer X.H₀ X.s₀ H' C x { s2 with heap:=h'}:=by
  obtain⟨i,s⟩:=QS u p r nfr E.1 up
  have t:=OP I D
  have base:Un (zJ X.outer) [] X.H₀ H1 X.s₀.heap s1.heap:=by have:=I.base;rw[hex]at this;exact this
  have L:∀b:hJ,b∉([]:List hJ):=λb z=>by cases z
  have old:∀b o,X.s₀.heap.get? b=↑o->b≠X.env.locals:=λb o e z=>by
    have S:=ie e
    have M:=I.ok.above
    rw[<- z]at M
    exact iq (iB S M)<|kf _
  have y:∀b o,X.s₀.heap.get? b=↑o->b∉zJ X.outer->b∉zJ X.stack:=λb o e n z=>by
    rw[t]at z
    rcases List.mem_cons.mp z with q|q
    · exact old b o e q
    · exact n q
  refine#[os.trans I.os,m,#[λb o e n j a=>?_,λb o e n j a=>?_,λb o e n a=>?_,λb o e a=>?_,λb N e=>?_,λb o v e=>?_,λb T e=>?_],s,F,B,a0,E,λb o e A j=>?_]
  · exact i.keep b o (base.keep b o e n j a) (base.free b o e n a) (y b o e j) a
  · obtain⟨sl, c⟩ := base.slot b o e n j a
    obtain⟨G,f⟩:=i.slot b _ c (base.free b o e n a) (by rw[t];exact hZ _ j) a
    exact#[G,f]
  · obtain⟨l, c⟩ := base.there b o e a
    exact i.free b l c (base.free b o e n a) a
  · obtain⟨l, c⟩ := base.there b o e a
    exact i.there b l c a
  · exact i.B4 b N<|base.B4 b N e
  · exact i.BL b o v<|base.BL b o v e
  · obtain⟨U, c⟩ := base.BM b T e
    obtain⟨W,f⟩:=i.BM b _ c
    exact#[U++W,by rw[f,qp]]
  · have fin : ∀h, s2.heap.get? b = some h -> (H' b ≠ none \/ ∃k, s1.heap.get? b = some k) -> b ∉ zJ X.stack -> B.get? b = some o := λh f H J => by
      have q:=r b h f H J
      have O:=E.1 b h q
      have Y:h'.get? b=↑o:=e
      rw[Y]at O
      cases O
      exact q
    rcases A with A|⟨k,P⟩
    · obtain⟨Q, Z⟩ : ∃Q, H' b = some Q := by
        cases z:H' b with
        |none=>exact iq z A
        |some v=>exact#[v,rfl]
      obtain⟨h,f⟩:=Bb p Z
      exact fin h f (.inl A) λz=>A (nfr b z).1
    · obtain⟨l, c⟩ := base.there b k P (L b)
      obtain⟨h,f⟩:=u.there b l c<|L b
      exact fin h f (.inr #[l,c])<|y b k P j
def EI.nfr(F:EI P w l H s H' C x s2)(c:∀b∈zJ l,H b=none/\∃o,s.heap.get? b=↑o):∀b∈zJ l,H' b=none/\∃o,s2.heap.get? b=↑o/\∀d,o.data≠.fields d:=λb a=>by refine e2a2 F.fly λB a0 f _=>?_;obtain⟨n,o,e⟩:=c b a;exact#[F.un.free b o e n q0o,(f.2.2.1.mem a).2]
def Inv.frn(I:Inv X pins σ H1 s1):∀b∈zJ X.stack,H1 b=none/\∃o,s1.heap.get? b=↑o:=λb a=>by have c:=I.JA;exact#[c.Kz b a,e1a2 ((c.yT.mem a).2) λo e _=> #[o,e]]
def QT(I:Inv X pins σ H1 s1)(a:X.stack=X.env::X.outer)(b:X.ex=[])(F:EI X.prog X.w X.stack H1 s1 H' C x s2) :
  ii 58 X.A (uI X.env<|.ref x) (λ_ c=>EI X.prog X.w X.outer X.H₀ X.s₀ H' C x c) E s2:=by
 have i:=F.nfr I.frn;refine e2a2 F.fly λB a0 h e=>?_;rw[a]at h;refine e1a2 F.dct λd j k=>?_;refine QR (by rw[I.ok.frames,a]) (yp I a) h j λh' f l g=>?_;exact Ls I a b F.os F.bare F.un F.v0 e i l f #[d,g,k]
end
section
variable{P:iQ}{w:jf}{K:hO}{mg:Str->Option ci}{base:ja}{N:List Str}{qual:Str}{scope:mB}{f:hJ}{cd:ci}{A:jN}{outer:List Env}{s:ic}{H:Hp}{E:XK}
def BH:Passes (v4 P w) 29 E:=by intro a i j k e l I h;obtain⟨C,x,b,rfl,F,c⟩:=h;exact jr (QT I rfl rfl F) (λ_ d g=>#[C,x,b,rfl,g,c]) λ_ _ z=>z
def yV:r9 (ij P w) (29).A (29).env (29).xe:=PassesOwn.leaving
end
variable[L2.GX]
set_option tactic.hygienic true in
def U7{K:hO}{C:hJ}(Z:K.In h)(y:jC K C d b=true) :
  ∃j N t q u c v e w f x z A B E F k,h.get? C=↑(jT t q C N u j c v e w f x z A B E F b)/\h.Ns N k/\k "__init__"=none/\sX h d j:=by
 unfold jC at y;split at y
 ·rename_i G H l a
  split at y
  ·rename_i D I m n o p g r J L
   simp only[i7,beq_iff_eq,uQ]at y;obtain⟨⟨⟨⟨⟨M,O⟩,P⟩,Q⟩,s⟩,R⟩:=y;subst M;subst O;obtain⟨S,T,u3,U,X,Y,u7,u8,u9,i,aa⟩:=H;subst J;subst P
   have e3:l=#v[m,n,o,p,some<|.builtin g,r]:=by obtain⟨li⟩:=l;exact congrArg Array.mk L
   rw[e3]at a;exact#[I,U,S,X,T,Y,u7,u8,u9,i,G,m,n,o,p,r,_,Z _ _ a,.of_isNs<|qh Z s,PySem.W.nsMap_none_of_in Z s R,tQ Z Q]
  ·cases y
 ·cases y
def QU(C:hJ)(E:XK)(a:TA):TS:=λ_ b H=>a b H λc d=>c.length<=hX/\∀x:hJ,E (.ref C) ↑x d
section
variable{P:iQ}{w:jf}{K:hO}{mg:Str->Option ci}{base:ja}{N:List Str}{qual:Str}{scope:mB}{f:hJ}{cd:ci}{A:jN}{outer:List Env}{s:ic}{H:Hp}{E:XK}
def EJ{C:hJ}(hg:Gl 29 x)(hm:mg x=↑(.ref C))(O:jC K C v i=true)
 (Y:kR B i n v) (g0:∀H',GX.g C none H') (ha:PA 29 (y::p) ta) (F:(x==70)=false:=by decide)
 (r:hR (y::p) (29).env=(false,eval y (29).env)::hR p (29).env:=by rfl)
 (G:(jE d<|hR p (29).env).any (·.1)=false:=by rfl) :
    PS 29 (.Raise (some<|.Call (.Name x np) (y::p) [] d) none pos) (QU C E ta):=by
  intro k s1 σ H1 D I h
  obtain⟨bm,N',nm,q,bs,l,sn,J,ab,L,dd,k0,k1,k2,k3,k5,mN,hC,hN,M,T⟩:=U7 I.mod.B3 O
  have Z:=ha d k s1 σ H1 _ I h
  refine wpAny_Raise_call_subT (prog:=P) (w:=w) (C:=C) (nm:=nm) (q:=q) (N:=N') (bs:=bs) (bm:=bm) (hdct:=l) (sn:=sn) (sub:=J) (ab:=ab) (col:=L) (dd:=dd) (k0:=k0) (k1:=k1) (k2:=k2) (k3:=k3) (k5:=k5)
    Y (mN:=mN) (T.hasType Y.hasBase) (I.ok.hd rfl) (by rw[r];exact(Bool.false_or _).trans G) M (zN I hg hm #[rfl,?_] F)
  rw[r]at Z ⊢
  refine jQ<|jr Z (λus u q2=>?_) λ_ _ z=>z
  refine e2a4 q2 λvs H2 c r2 hl hE=>?_
  refine#[rfl,by show us.length<=hX;rw[<- r2.length];exact hl,c.bk _ _ hC,hN.keeps c.bk,T.keeps c.bk,λh' e a=>?_]
  have m:(29).stack=(29).env::(29).outer:=rfl
  have fu:=c.JA.yT
  refine e1a3 a.there λt R _ _=>?_
  have S:(mu u.heap<|zJ (29).stack).get? e=none:=by
    cases q:(mu u.heap<|zJ (29).stack).get? e with
    |none=>rfl
    |some o=>have z:=nV _ q;rw[a.new]at z;cases z
  refine jr (BG (base:=mu u.heap (zJ (29).stack)) (a0:=.ref t) c.ok.frames
    ((sf fu λU r b j=>List.mem_filterMap.mpr #[U,r,j]).of_keeps λb o j _=>#[o,a.keeps b o j,rfl]) (yp c m) R (λb o z=>a.keeps b o (nV _ z)) S rfl rfl rfl (Q:=λ_ X=>v4 P w outer H s E (.ref e) X) λaa fl up dk=>?_) (λ_ _ z=>z) λ_ _ z=>z
  refine#[C,e,H2,rfl,?_,hE e]
  refine Ls (s2:=u) c m rfl rfl c.bare Un.refl c.v0 (λb o z _ nf=>pJ _ z nf) (λb j=>?_) ((qD a.keeps).trans up) fl #[_,dk,g0 _]
  exact#[(c.frn b j).1,(fu.mem j).2]
end
noncomputable abbrev hand(X:Cx)(x:hJ):Cx:={ X with A:=X.A.mark<|some<|.ref x,calm:=false,xe:=λ_ _=>False}
def Inv.a2L(I:Inv { X with pn:=X.pn++a} b c H s):Inv X a c H s :=
 #[61,I.os,I.bare,I.base,I.loc,I.cell,I.free,I.yE,λp d=>I.pin p<|jo _ d,I.v0,I.len]
def Inv.QV(I:Inv X a b H s):Inv (hand X x) a b H s :=
 #[#[I.ok.mod,I.ok.kind,I.ok.glob,I.ok.blt,I.ok.above,I.ok.inj,I.ok.has,I.ok.PP,(λz=>by cases z),I.ok.frames,I.ok.CV,I.ok.Us,I.ok.bs,I.ok.Jo,I.ok.DR,I.ok.Es,I.ok.yT,I.ok.Kz],I.os,I.bare,I.base,I.loc,I.cell,I.free,I.yE,I.pin,I.v0,I.len]
def Inv.Hw(b:X.calm=true->X.A.handled=none)(I:Inv (hand X x) a c H s):Inv X a c H s :=
 #[#[I.ok.mod,I.ok.kind,I.ok.glob,I.ok.blt,I.ok.above,I.ok.inj,I.ok.has,I.ok.PP,b,I.ok.frames,I.ok.CV,I.ok.Us,I.ok.bs,I.ok.Jo,I.ok.DR,I.ok.Es,I.ok.yT,I.ok.Kz],I.os,I.bare,I.base,I.loc,I.cell,I.free,I.yE,I.pin,I.v0,I.len]
end L2
namespace SX
open PySem PyProof.Rows
def JR:nW (.type "dict") "__len__"=pure (some<|.builtin "dict.__len__"):=by rw[ou,mi];kernel_rfl
section
variable{prog:iQ}{w:jf}{K:Type}[DecidableEq K]{knd:KeyKind prog w K}{A:jN}{E:ci->ic->Prop}{s:ic}{a:hJ}{ks:List Int}{xG:List (K×ci)}{ep:Nat}
def OQ(hh:A.handled=none)(G:(a==lw)=false)(D:s.heap.DictAt knd a xG ep)(hl:xG.length<=hX)(R:xG.length=ks.length)
 (hk:∀(i:Nat)(k:K)(x:ci)(v:ci),xG[i]?=↑(k,x)->knd.is k v=true->∃j u,ks[i]?=↑j/\v=.int j u)
 (h:∀S tk vs,lF vs ks->(∀c o,s.heap.get? c=↑o->S.get? c=↑o)->⇑s<=S.objs.size->Q vs { s with heap:=S,toks:=tk}):ii (ij prog w) A (collect<|.ref a) Q E s:=by
  have f:a<⇑s:=D.lt_size
  obtain⟨o0,ai,H,l,aj,ak⟩:=id D
  refine am<|tM<|j5 uw ?_
  rw[jP ux _]
  refine am (m:=newList [])<|i8<|ap #[lx oV _,j5 F.entry_list_iadd ?_]
  rw[jP oV _]
  have z:∀c o,s.heap.get? c=↑o->(s.heap.push 66).get? c=↑o:=λc o q=>ce _ q
  have oL:(s.heap.push 66).get? ⇑s=some 66:=il _ rfl
  have g:(s.heap.push 66).objs.size=⇑s+1:=jR _ _
  generalize s.heap.push 66=d at z oL g ⊢
  have D1:d.DictAt knd a xG ep:=D.at' λo q=>z a o q
  show ii _ A.in1 (qu (.ref ⇑s) (.ref a)<|.ref ⇑s) _ _ { s with heap:=d}
  have hT:my { s with heap:=d} (.ref a) "dict":=#[_,z a _ H,l.1]
  refine am<|lq hT ?_
  have n1:lZ (.ref ⇑s) (.ref a)=false:=by simp[lZ,jB f]
  have n2:(kA "dict" == kA "list")=false:=by decide
  have n3:(kA "dict" == kA "tuple")=false:=by decide
  simp only[n1,n2,n3,sy,lG,pN]
  refine am<|wpAny_pyIter_dict (s:={ s with heap:=d}) G D1 ?_
  have I:∀c o,d.get? c=↑o->(d.push 82).get? c=↑o:=λc o q=>ce _ q
  have i2:(d.push 82).get? d.objs.size=some 82:=il _ rfl
  generalize d.push 82=T at I i2 ⊢
  have p:my { s with heap:=T} (.ref a) "dict":=#[_,I a _<|z a _ H,l.1]
  refine am<|iT ?_
  refine am<|qi p JR ?_
  generalize BF:("dict.__len__":String)=U
  dsimp only
  rw[show splitId U=some ("dict","__len__") from by subst BF;decide +kernel]
  subst BF
  refine am<|mI (b:=true) p F.sub_dict_dict ?_
  rw[hI q0o]
  rw[cr q0s]
  refine am<|lq p<|ap ?_
  have X:A.in1.handled=none:=by simp[hh]
  have ne:a≠d.objs.size:=iu<|n9 f (by rw[g];exact jM _)
  have W:=(Walks.dictKeys (knd:=knd) (A:=A.in1) X d.objs.size a ne xG ep).toS
  have Y:⇑s∉[d.objs.size,a]:=by
    simp only[iK,jq,mD,qe]
    exact#[by rw[g];exact iu<|jM _,jB f]
  have t:=I _ _ oL
  -- the ah,B al J Z of it
  have L:∀(C:ja)(M:Nat),C.get? ⇑s=some { cls:=.type "list",data:=.seq ([]:List ci).toArray M}->(∀c o,c≠⇑s->T.get? c=↑o->C.get? c=↑o) ->
      mX (ij prog w) A (.builtin "list.extend.loop" #[[.ref ⇑s,.ref d.objs.size,.ref ⇑s],[]]) (λr s'=>match r with
        | .ok (.ret v)=>ii (ij prog w) A (match v with
          | .ref a=>do
            let o <- load a
            match o.data with
              | .seq xs aa=>pure xs.toList
              |x=>lQ "internal:collect"
          |x=>lQ "internal:collect") Q E s'
        | .ok _=>False
        | .error e=>E e s') { s with heap:=C}:=by
    intro C M y k4
    have I4:C.IsKeyIter d.objs.size a 0 xG.length ep/\C.DictAt knd a xG ep:=#[#[_,k4 _ _ (by rw[g];exact jB<|jM _) i2,rfl,rfl],D1.at' λo q=>k4 _ _ (iu f)<|I _ _ q]
    refine codeAny_extend_loopS W hl _ Y _ xG.length 0 _ _ _ rfl (jp _) I4 y (ItemsOf.nil _) λs5 ab c5 P N n=>?_
    refine am<|rg N<|ap ?_
    obtain⟨h5,g5,d5,ae,af⟩:=s5
    have eg:g5=s.gens:=P.gens
    have ed:d5=s.drawn:=P.drawn
    have eo:af=s.os:=P.os
    subst eg ed eo
    refine h h5 ae ab.toList (AD ?_ λi v hv=>?_) (λc o q=>P.heap c o (by
      simp only[iK,jq,mD,qe]
      exact#[iu (ie q),iu (ie (z c o q))]) (k4 c o (iu (ie q)) (I c o (z c o q)))) (mn (ie N))
    · rw[ig, n.1, R]
    · obtain⟨k, x, hx, ag⟩ := n.2 i v (by rw[<- iY]; exact hv)
      exact hk i k x v hx ag
  first
    | (rw[hI q0s];exact ap ⟨lx qC _,L T 0 t λ_ _ _ q=>q⟩)
    | (rw[cr q0s]
       refine am<|mC<|am ?_
       refine am<|qm t rfl ?_
       have O:=jd (Obj.mapSeq (·.push Value.none)) t rfl
       refine qm O rfl ?_
       have y:=jd (Obj.mapSeq (·.pop)) O rfl
       refine ap #[lx qC _,L _ _ y λc o hc q=>(iU _ _ (Ne.symm hc)).trans ((iU _ _ (Ne.symm hc)).trans q)])
end
end SX
namespace L2
open PySem PySem.Spec PyProof.Rows SX
def U8{k:Int}(h:Aq (.inl k) v=true):∃u,v=.int k u:=by
 rcases wD h with⟨i,t,e,rfl⟩|⟨x,t,e,_⟩
 ·cases e;exact#[t,rfl]
 ·cases e
def Yz:∀{b:List (Key×V)} {c:List (Key×ci)} (_:KV b c) (i:Nat) {k:Key} {x:ci},c[i]?=↑(k,x)->∃y,b[i]?=↑(k,y):=by
 intro _ _ z
 induction z with
 |nil=>intro i _ _ h;cases h
 |cons a t d =>
  intro i k x h
  cases i with
  |zero=>cases h;exact#[_,congrArg some<|Prod.ext a.1 rfl]
  |succ i=>exact e1a1 (d i<|by simpa using h) λy q=>#[y,by simpa using q]
def Hx(J:X.calm=true):zc X (.builtin "sorted") (λC H Q=>∃(a:hJ) (b:List (Key×V)) (c:List Int),C=[.ref a]/\H a=↑(.dK b)/\b.map (·.1)=c.map iM/\c.length<64/\∀(p:hJ)(t:List Int),H p=none->t.Perm c->t.Pairwise (·<=·)->Q (.ref p) (upd H p<|.lst<|t.map V.int)):=by
 intro E s σ H C us Q I r h;obtain⟨a,b,c,rfl,L,f,g,q⟩:=h;obtain⟨u,rfl,M⟩:=vals1 r;cases M;obtain⟨hz,l,F,G,N⟩:=I.v0 a _ L;obtain⟨o,O,P,R,z,m,d⟩:=N;have D:s.heap.DictAt (vR X.prog X.w) a F P:=#[o,O,R,z,m,d];have S:b.length=F.length:=Paired.length G;have T:b.length=c.length:=by have:=congrArg oF f;simpa using this
 refine Df (λQ' k=>OQ (by simp[I.ok.hd J]) l D q0a q0a (λi U x v W A=>?_) λY Z B hi k1 sz=>k Y Z B c hi (.refl _) k1 sz) g<|BU I g q;obtain⟨y,hy⟩:=Yz G i W;have n:(b.map (·.1))[i]?=↑U:=by rw[jU,hy];rfl
 rw[f,jU]at n
 cases e:c[i]? with
 |none=>rw[e]at n;cases n
 |some j =>
  rw[e]at n;cases n;obtain⟨u,hu⟩:=U8 A;exact#[j,u,rfl,hu]
end L2
namespace WL
open PySem L2
abbrev Wf(A τ PO:Type):=A->105->91->Prop
abbrev Rg:=hJ->Prop
structure Ext(G R:Rg)(H:Hp)(R':Rg)(H':Hp):Prop where
 keep:∀b o,¬G b->H b=↑o->H' b=↑o
 new:∀a,R' a->R a\/H a=none
def Ext.wide(e:Ext G R H c d)(s:∀a,G a->R a):Ext R R H c d:=#[λb o n h=>e.keep b o (λg=>n<|s b g) h,e.new]
def Ext.not(e:Ext G R H b c)(n:¬R a)(h:H a=↑o):¬b a:=λz=>by
 rcases e.new a z with q|q
 ·exact n q
 ·rw[h]at q;cases q
class Rep(α:Type) where
 rp:Rg->Hp->α->V->Prop
 st:∀{R:Rg} {H:Hp} {R':Rg} {H':Hp} {x:α} {v:V},rp R H x v->Ext R R H R' H'->rp R' H' x v
open Rep (rp)
instance:Rep Int:=#[λ_ _ i v=>v=.int i,λh _=>h]
instance:Rep Bool:=#[λ_ _ i v=>v=.bl i,λh _=>h]
instance:Rep Unit:=#[λ_ _ _ v=>v=.wW,λh _=>h]
instance{α:Type}[Rep α]:Rep (Option α):=#[λR H x v=>match x with|none=>v=.wW|some y=>v≠.wW/\rp R H y v,λ{R H R' H' x v} h e=>by
 cases x with
 |none=>exact h
 |some y=>exact#[h.1,Rep.st h.2 e]]
def wE{α:Type}[Rep α]{R R':Rg}{H H':Hp}(e:Ext R R H R' H'):∀{xs:List α} {vs:List V},Paired (rp R H) xs vs->Paired (rp R' H') xs vs:=by
 intro _ _ z
 induction z with
 |nil=>exact .nil
 |cons h t ih=>exact .cons (Rep.st h e) ih
instance{α:Type}[Rep α]:Rep (List α):=#[λR H xs v=>∃a vs,v=.ref a/\¬R a/\H a=↑(.lst vs)/\Paired (rp R H) xs vs,λ{R H R' H' x v} h e=>by
 refine e2a4 h λa vs h1 h2 h3 h4=>?_
 exact#[a,vs,h1,e.not h2 h3,e.keep a _ h2 h3,wE e h4]]
instance{α β:Type}[Rep α][Rep β]:Rep (α×β):=#[λR H x v=>∃a u w,v=.ref a/\¬R a/\H a=↑(.tup [u,w])/\rp R H x.1 u/\rp R H x.2 w,λ{R H R' H' x v} h e=>by
 obtain⟨a,u,w,h1,h2,h3,h4,h5⟩:=h
 exact#[a,u,w,h1,e.not h2 h3,e.keep a _ h2 h3,Rep.st h4 e,Rep.st h5 e]]
structure Tp(α:Type) where
 l:List α
instance{α:Type}[Rep α]:Rep (Tp α):=#[λR H xs v=>∃a vs,v=.ref a/\¬R a/\H a=↑(.tup vs)/\Paired (rp R H) xs.l vs,λ{R H R' H' x v} h e=>by
 refine e2a4 h λa vs h1 h2 h3 h4=>?_
 exact#[a,vs,h1,e.not h2 h3,e.keep a _ h2 h3,wE e h4]]
class Ow(τ:Type) where
 sl:Rg->Rg->Hp->τ->Option V->Prop
 st:∀{F G R:Rg} {H:Hp} {R':Rg} {H':Hp} {x:τ} {v:Option V},sl F R H x v->Ext G R H R' H'->(∀a,G a->R a)->(∀a,F a->¬G a)->sl F R' H' x v
 fq:∀{F F' R:Rg} {H:Hp} {x:τ} {v:Option V},sl F R H x v->(∀a,F a↔F' a)->sl F' R H x v
open Ow (sl)
structure Un where
instance:Ow Un:=#[λF _ _ _ _=>∀a,¬F a,λh _ _ _=>h,λh e a z=>h a ((e a).mpr z)]
noncomputable instance a3z{α:Type}[Rep α]:Ow α:=#[λF R H x v=>(∀a,¬F a)/\∃u,v=↑u/\rp R H x u,λh e s _=>#[h.1,e1a2 h.2 λu h1 h2=> #[u,h1,Rep.st h2<|e.wide s]],λh e=>#[λa z=>h.1 a<|(e a).mpr z,h.2]]
structure OL(α:Type) where
 l:List α
instance{α:Type}[Rep α]:Ow (OL α):=#[λF R H x v=>∃a vs,v=↑(.ref a)/\(∀b,F b↔b=a)/\H a=↑(.lst vs)/\Paired (rp R H) x.l vs,
 λh e s n=>by
  refine e2a4 h λa vs h1 h2 h3 h4=>?_
  exact#[a,vs,h1,h2,e.keep a _ (n a<|(h2 a).mpr rfl) h3,wE (e.wide s) h4],
 λh e=>by
  refine e2a4 h λa vs h1 h2 h3 h4=>?_
  exact#[a,vs,h1,λb=>(e b).symm.trans (h2 b),h3,h4]]
class Sls(D:Type) where
 rel:Rg->Rg->Hp->D->St->Prop
 st:∀{F G R:Rg} {H:Hp} {R':Rg} {H':Hp} {d:D} {σ:St},rel F R H d σ->Ext G R H R' H'->(∀a,G a->R a)->(∀a,F a->¬G a)->rel F R' H' d σ
 fq:∀{F F' R:Rg} {H:Hp} {d:D} {σ:St},rel F R H d σ->(∀a,F a↔F' a)->rel F' R H d σ
open Sls (rel)
instance:Sls Unit:=#[λF _ _ _ σ=>σ=[]/\∀a,¬F a,λh _ _ _=>h,λh e=>#[h.1,λa z=>h.2 a ((e a).mpr z)]]
structure DU(F F1 F2:Rg):Prop where
 all:∀a,F a↔F1 a\/F2 a
 yG:∀a,F1 a->F2 a->False
instance{τ D:Type}[Ow τ][Sls D]:Sls (τ×D):=#[λF R H d σ=>∃v σ' F1 F2,σ=v::σ'/\DU F F1 F2/\sl F1 R H d.1 v/\rel F2 R H d.2 σ',
 λh e s n=>by
  refine e4a4 h λv σ' F1 F2 h1 h2 h3 h4=>?_
  exact#[v,σ',F1,F2,h1,h2,Ow.st h3 e s<|λa z=>n a<|(h2.all a).mpr<|.inl z,Sls.st h4 e s<|λa z=>n a<|(h2.all a).mpr<|.inr z],
 λh e=>by
  refine e4a4 h λv σ' F1 F2 h1 h2 h3 h4=>?_
  exact#[v,σ',F1,F2,h1,#[λa=>(e a).symm.trans (h2.all a),h2.yG],h3,h4]]
class At(i:Nat)(B:Type)[Sls B](τ:outParam Type)[Ow τ](B':outParam Type)[Sls B'] where
 get:B->τ
 hole:B->B'
 take:∀{F R:Rg} {H:Hp} {b:B} {σ:St},rel F R H b σ->∃v F1 F2,σ[i]?=↑v/\DU F F1 F2/\sl F1 R H (get b) v/\rel F2 R H (hole b) σ
class Pt(i:Nat)(B':Type)[Sls B'](τ:Type)[Ow τ](B:outParam Type)[Sls B] where
 put:B'->τ->B
 back:∀{F F1 F2 R:Rg} {H:Hp} {b:B'} {x:τ} {v:Option V} {σ:St},rel F2 R H b σ->DU F F1 F2->sl F1 R H x v->rel F R H (put b x) (σ.set i v)
def set_same:∀{l:List b} {i:Nat} {v:b},l[i]?=↑v->l.set i v=l
 | [],_,_,h=>by simp at h
 |_::_,0,_,h=>by simp at h;subst h;rfl
 |a::r,i+1,v,h=>by show a::r.set i v=a::r;rw[set_same<|by simpa using h]
def Pt.same{i:Nat}{B' τ B:Type}[Sls B'][Ow τ][Sls B][A:Pt i B' τ B]{F F1 F2 R:Rg}{H:Hp}{b:B'}{x:τ}{v:Option V}{σ:St}(h:rel F2 R H b σ)(e:σ[i]?=↑v)(t:DU F F1 F2)(s:sl F1 R H x v):rel F R H (A.put b x) σ:=by have:=A.back h t s;rw[set_same e]at this;exact this
noncomputable instance at0{τ D:Type}[Ow τ][Sls D]:At 0 (τ×D) τ (Un×D) where
 get b:=b.1
 hole b:=(#[],b.2)
 take:=λh=>by refine e4a4 h λv σ' F1 F2 h1 h2 h3 h4=>?_;exact#[v,F1,F2,by rw[h1];rfl,h2,h3,v,σ',λ_=>False,F2,h1,#[λa=>#[.inr,λz=>z.elim (λq=>q.elim) id],λ_ z _=>z],λ_ z=>z,h4]
noncomputable instance pt0{τ D:Type}[Ow τ][Sls D]:Pt 0 (Un×D) τ (τ×D) where
 put b x:=(x,b.2)
 back:=λ{F F1 F2 R H b x v σ} h t s=>by refine e4a4 h λv' σ' G1 G2 h1 h2 h3 h4=>?_;have e2:∀a,G2 a↔F2 a:=λa=>#[λz=>(h2.all a).mpr<|.inr z,λz=>((h2.all a).mp z).elim (λq=>iq q<|h3 a) id];exact#[_,σ',F1,F2,by rw[h1];rfl,t,s,Sls.fq h4 e2]
noncomputable instance atS{i:Nat}{ρ τ D D':Type}[Ow ρ][Ow τ][Sls D][Sls D'][A:At i D τ D']:At (i+1) (ρ×D) τ (ρ×D') where
 get b:=A.get b.2
 hole b:=(b.1,A.hole b.2)
 take:=λh=>by
  refine e4a4 h λv σ' F1 F2 h1 h2 h3 h4=>?_;refine e3a4 (A.take h4) λu G1 G2 k1 k2 k3 k4=>?_;refine#[u,G1,λa=>F1 a\/G2 a,by rw[h1];simpa using k1,#[λa=>?_,λa z q=>?_],k3,v,σ',F1,G2,h1,#[λa=>Iff.rfl,λa z q=>h2.yG a z<|(k2.all a).mpr<|.inr q],h3,k4]
  ·rw[h2.all,k2.all];exact#[λz=>z.elim (λq=>.inr<|.inl q) λz=>z.elim .inl λq=>.inr<|.inr q,λz=>z.elim (λq=>.inr<|.inl q) λz=>z.elim .inl λq=>.inr<|.inr q]
  ·rcases q with q|q
   ·exact h2.yG a q<|(k2.all a).mpr<|.inl z
   ·exact k2.yG a z q
noncomputable instance ptS{i:Nat}{ρ τ D D':Type}[Ow ρ][Ow τ][Sls D][Sls D'][A:Pt i D' τ D]:Pt (i+1) (ρ×D') τ (ρ×D) where
 put b x:=(b.1,A.put b.2 x)
 back:=λ{F F1 F2 R H b x v σ} h t s=>by
  refine e4a4 h λv' σ' G1 G2 h1 h2 h3 h4=>?_;have t':DU (λa=>F1 a\/G2 a) F1 G2:=#[λa=>Iff.rfl,λa z q=>t.yG a z<|(h2.all a).mpr<|.inr q];refine⟨v',σ'.set i v,G1,λa=>F1 a\/G2 a,by rw[h1];rfl,#[λa=>?_,λa z q=>?_],h3,A.back h4 t' s⟩
  ·rw[t.all,h2.all];exact#[λz=>z.elim (λq=>.inr<|.inl q) λz=>z.elim .inl λq=>.inr<|.inr q,λz=>z.elim (λq=>.inr<|.inl q) λz=>z.elim .inl λq=>.inr<|.inr q]
  ·rcases q with q|q
   ·exact t.yG a q<|(h2.all a).mpr<|.inl z
   ·exact h2.yG a z q
class Fg(D:Type)[Sls D](D':Type)[Sls D'] where
 fg:D->D'
 le:∀{F R:Rg} {H:Hp} {d:D} {σ:St},rel F R H d σ->∃F',(∀a,F' a->F a)/\rel F' R H (fg d) σ
noncomputable instance fgId{D:Type}[Sls D]:Fg D D:=#[id,λh=>#[_,λ_ z=>z,h]]
def two_le{F d e b c:Rg}(t:DU F d e)(f:∀a,b a->d a)(g:∀a,c a->e a):DU (λa=>b a\/c a) b c:=#[λ_=>Iff.rfl,λa x y=>t.yG a (f a x)<|g a y]
instance(priority:=low) fgUn {τ D D':Type}[Ow τ][Sls D][Sls D'][A:Fg D D']:Fg (τ×D) (Un×D'):=#[λd=>(#[],A.fg d.2),λh=>by
 obtain⟨v,σ',F1,F2,h1,h2,h3,h4⟩:=h;obtain⟨F',k1,k2⟩:=A.le h4
 exact#[_,λa z=>(h2.all a).mpr (.inr (k1 a (z.elim (λq=>q.elim) id))),v,σ',λ_=>False,F',h1,#[λa=>Iff.rfl,λ_ z _=>z],λ_ z=>z,k2]]
noncomputable instance fgCons{τ D D':Type}[Ow τ][Sls D][Sls D'][A:Fg D D']:Fg (τ×D) (τ×D'):=#[λd=>(d.1,A.fg d.2),λh=>by
 refine e4a4 h λv σ' F1 F2 h1 h2 h3 h4=>?_;refine e1a2 (A.le h4) λF' k1 k2=>?_
 exact#[_,λa z=>(h2.all a).mpr (z.elim .inl λq=>.inr (k1 a q)),v,σ',F1,F',h1,two_le h2 (λ_ z=>z) k1,h3,k2]]
class Pj(D:Type)[Sls D](P:Type)[Sls P](n:outParam Nat) where
 pj:D->P
 le:∀{F R:Rg} {H:Hp} {d:D} {σ:St},rel F R H d σ->∃F',(∀a,F' a->F a)/\rel F' R H (pj d) (σ.take n)
noncomputable instance pjNil{D:Type}[Sls D]:Pj D Unit 0:=#[λ_=>(),λh=>#[λ_=>False,λ_ z=>z.elim,rfl,λ_ z=>z]]
instance(priority:=low) pjUn {τ D P:Type}{n:Nat}[Ow τ][Sls D][Sls P][A:Pj D P n]:Pj (τ×D) (Un×P) (n+1):=#[λd=>(#[],A.pj d.2),λh=>by
 obtain⟨v,σ',F1,F2,h1,h2,h3,h4⟩:=h;obtain⟨F',k1,k2⟩:=A.le h4
 exact#[_,λa z=>(h2.all a).mpr (.inr (k1 a (z.elim (λq=>q.elim) id))),v,σ'.take n,λ_=>False,F',by rw[h1];rfl,#[λa=>Iff.rfl,λ_ z _=>z],λ_ z=>z,k2]]
noncomputable instance pjCons{τ D P:Type}{n:Nat}[Ow τ][Sls D][Sls P][A:Pj D P n]:Pj (τ×D) (τ×P) (n+1):=#[λd=>(d.1,A.pj d.2),λh=>by
 refine e4a4 h λv σ' F1 F2 h1 h2 h3 h4=>?_;refine e1a2 (A.le h4) λF' k1 k2=>?_
 exact#[_,λa z=>(h2.all a).mpr (z.elim .inl λq=>.inr (k1 a q)),v,σ'.take n,F1,F',by rw[h1];rfl,two_le h2 (λ_ z=>z) k1,h3,k2]]
class Sel(is:List Nat)(D:Type)[Sls D](S:outParam Type)[Sls S](D0:outParam Type)[Sls D0] where
 sel:D->S
 rest:D->D0
 mrg:D0->S->D
 cut:∀{F R:Rg} {H:Hp} {d:D} {σ:St},rel F R H d σ->∃F1 F2,DU F F1 F2/\rel F1 R H (sel d) (is.map λi=>σ[i]?.join)/\rel F2 R H (rest d) σ/\∀i∈is,i<σ.length
 join:∀{F F1 F2 R:Rg} {H:Hp} {d:D0} {s:S} {σ:St},DU F F1 F2->rel F1 R H s (is.map λi=>σ[i]?.join)->rel F2 R H d σ->(∀i∈is,i<σ.length)->rel F R H (mrg d s) σ
noncomputable instance selNil{D:Type}[Sls D]:Sel [] D Unit D where
 sel _:=()
 rest d:=d
 mrg d _:=d
 cut:=λ{F R H d σ} h=>#[λ_=>False,F,#[λa=>#[.inr,λz=>z.elim (λq=>q.elim) id],λ_ z _=>z],#[rfl,λ_ z=>z],h,λ_ z=>by cases z]
 join:=λ{F F1 F2 R H d s σ} t h1 h2 _=>Sls.fq h2 λa=>#[λz=>(t.all a).mpr<|.inr z,λz=>((t.all a).mp z).elim (λq=>iq q<|h1.2 a) id]
noncomputable instance selCons{i:Nat}{is:List Nat}{D τ D1 S D0:Type}[Sls D][Ow τ][Sls D1][Sls S][Sls D0][A:At i D τ D1][P:Pt i D1 τ D][B:Sel is D1 S D0]:Sel (i::is) D (τ×S) D0 where
 sel d:=(A.get d,B.sel<|A.hole d)
 rest d:=B.rest<|A.hole d
 mrg d s:=P.put (B.mrg d s.2) s.1
 cut:=λ{F R H d σ} h=>by
  refine e3a4 (A.take h) λv F1 F2 h1 h2 h3 h4=>?_;refine e2a4 (B.cut h4) λG1 G2 k1 k2 k3 k4=>?_;have hv:σ[i]?.join=v:=by rw[h1];rfl
  refine#[λa=>F1 a\/G1 a,G2,#[λa=>?_,λa z q=>?_],#[v,_,F1,G1,by rw[iJ,hv],#[λ_=>Iff.rfl,λa z q=>h2.yG a z<|(k1.all a).mpr<|.inl q],h3,k2],k3,λj hj=>?_]
  ·rw[h2.all,k1.all];exact#[λz=>z.elim (λq=>.inl<|.inl q) λz=>z.elim (λq=>.inl<|.inr q) .inr,λz=>z.elim (λz=>z.elim .inl λq=>.inr<|.inl q) λq=>.inr<|.inr q]
  ·rcases z with z|z
   ·exact h2.yG a z<|(k1.all a).mpr<|.inr q
   ·exact k1.yG a z q
  ·rcases List.mem_cons.mp hj with e|e
   ·rw[e];exact(List.getElem?_eq_some_iff.mp h1).1
   ·exact k4 j e
 join:=λ{F F1 F2 R H d s σ} t h1 h2 hl=>by
  refine e4a4 h1 λv σ' G1 G2 k1 k2 k3 k4=>?_;rw[iJ]at k1;injection k1 with e1 e2;subst e2;have hi:i<σ.length:=hl i hW
  have ev:σ[i]?=↑v:=by rw[jL hi]at e1 ⊢;exact congrArg some e1
  have t2:DU (λa=>G2 a\/F2 a) G2 F2:=#[λ_=>Iff.rfl,λa z q=>t.yG a ((k2.all a).mpr<|.inr z) q];refine Pt.same (B.join t2 k4 h2 λj hj=>hl j<|hZ _ hj) ev ⟨λa=>?_,λa z q=>?_⟩ k3
  ·rw[t.all,k2.all];exact#[λz=>z.elim (λz=>z.elim .inl λq=>.inr<|.inl q) λq=>.inr<|.inr q,λz=>z.elim (λq=>.inl<|.inl q) λz=>z.elim (λq=>.inl<|.inr q) .inr]
  ·rcases q with q|q
   ·exact k2.yG a z q
   ·exact t.yG a ((k2.all a).mpr<|.inl z) q
structure wz(T:hJ){D:Type}[Sls D](F R:Rg)(H:Hp)(d:D)(σ:St):Prop where
 rel:rel F R H d σ
 sub:∀a,F a->R a
 xD:∀a,R a->H a≠none
 tab:TabAt H T
 v8:R T
 vV:¬F T
def zB(t:TabAt H T):H T≠none:=by refine e1a2 t λa e _=>?_;rw[e];simp
structure Ch(T:hJ)(F R:Rg)(H:Hp)(F' R':Rg)(H':Hp):Prop where
 keep:∀b o,¬F b->b≠T->H b=↑o->H' b=↑o
 AE:∀a,R' a->R a\/H a=none
 yL:∀a,F' a->F a\/H a=none
 left:∀a,R a->¬F a->R' a
def Ch.refl(T:hJ)(F R:Rg)(H:Hp):Ch T F R H F R H:=#[λ_ _ _ _ h=>h,λ_ h=>.inl h,λ_ h=>.inl h,λ_ h _=>h]
def Ch.trans{T:hJ}{D:Type}[Sls D]{d:D}{u:St}{F R k l m p:Rg}{H j r:Hp}(s:wz T F R H d u)(v:TabAt j T)(a:Ch T F R H k l j)(b:Ch T k l j m p r):Ch T F R H m p r:=by
 have g:∀c,¬F c->H c≠none->¬k c:=λc n h z=>by
  rcases a.yL c z with q|q
  ·exact n q
  ·exact h q
 have f:∀c,j c=none->¬(F c)->H c=none:=λc h n=>by
  cases e:H c with
  |none=>rfl
  |some o =>
   have w:c≠T:=λz=>by rw[z]at h;exact zB v h
   rw[a.keep c o n w e]at h;cases h
 refine#[λc o n t h=>b.keep c o (g c n<|by rw[h];simp) t<|a.keep c o n t h,λc h=>?_,λc h=>?_,λc h n=>b.left c (a.left c h n)<|g c n<|s.xD c h]
 ·rcases b.AE c h with q|q
  ·exact a.AE c q
  ·by_cases i:F c
   ·exact .inl<|s.sub c i
   ·exact .inr<|f c q i
 ·rcases b.yL c h with q|q
  ·exact a.yL c q
  ·by_cases i:F c
   ·exact .inl i
   ·exact .inr<|f c q i
def Ch.ext(c:Ch T F R H f d e):Ext (λa=>F a\/a=T) R H d e:=#[λb o n h=>c.keep b o (λz=>n<|.inl z) (λz=>n<|.inr z) h,c.AE]
def wz.val{T:hJ}{D:Type}[Sls D]{d:D}{σ:St}{F R F' R':Rg}{H H':Hp}(s:wz T F R H d σ)(c:Ch T F R H F' R' H'){α:Type}[Rep α]{x:α}{v:V}(h:rp R H x v):rp R' H' x v :=
 Rep.st h (c.ext.wide λa z=>z.elim (s.sub a) λq=>by rw[q];exact s.v8)
def wz.new{T:hJ}{D:Type}[Sls D]{d:D}{c:St}{F R:Rg}{H:Hp}(s:wz T F R H d c){p:hJ}(o:HO)(f:H p=none):wz T F R (upd H p o) d c/\Ch T F R H F R (upd H p o)/\¬R p:=by
 have g:¬R p:=λz=>s.xD p z f;have k:∀b u,H b=↑u->upd H p o b=↑u:=λb u e=>by rw[vh<|vv e f];exact e
 refine#[#[Sls.st s.rel (G:=λ_=>False) #[λb u _ e=>k b u e,λa h=>.inl h] (λ_ z=>z.elim)<|λ_ _ z=>z,s.sub,λa z=>?_,?_,s.v8,s.vV],#[λb u _ _ e=>k b u e,λa h=>.inl h,λa h=>.inl h,λa h _=>h],g]
 ·cases e:H a with
  |none=>exact iq e<|s.xD a z
  |some u=>rw[k a u e];simp
 ·refine e1a2 s.tab λi e t=>?_;exact#[i,k _ _ e,t]
def EW(X:Cx)(E:XK)(T:hJ)(e:iZ){D α:Type}[Sls D][Rep α](w:Wf D α D):Prop :=
 ∃t,PE X e t/\∀(d:D)(F R:Rg)(σ:St)(H:Hp)(Kn:α->D->Prop)(Ke:hJ->D->Prop)(Q:VK),wz T F R H d σ->w d Kn Ke ->
  (∀x d' v F' R' H',Kn x d'->Ch T F R H F' R' H'->wz T F' R' H' d' σ->rp R' H' x v->Q v H') ->
  (∀C y d' F' R' H',Ke C d'->Ch T F R H F' R' H'->wz T F' R' H' d' σ->E (.ref C) ↑y H')->t σ H Q
@[reducible] def cK{D K a:Type}(w:D->a->75->Prop)(g:K->a):D->K->75->Prop:=λd b c=>w d (g b) c
@[reducible] def cB{D a K b:Type}(w:Wf D a D)(v:D->b->75->Prop)(g:a->K->b):D->K->75->Prop:=λd e c=>w d (λx f=>v f (g x e) c) c
@[reducible] def cA{D:Type}(w v:Wf D Bool D):D->(Bool->D->Prop)->75->Prop:=λd a b=>w d (λx c=>if x=true then v c a b else a false c) b
@[reducible] def cO{D:Type}(w v:Wf D Bool D):D->(Bool->D->Prop)->75->Prop:=λd a b=>w d (λx c=>if x=true then a true c else v c a b) b
@[reducible] def cC{D e P B g a:Type}(w:D->(P->B->g->Prop)->75->Prop)(f:Wf P e a)(m:B->g->a->D):D->(e->D->Prop)->75->Prop:=λd i h=>w d (λp b l=>f p (λx c=>i x<|m b l c) λC c=>h C<|m b l c) h
@[reducible] def cM{D e g P B h a:Type}(w:D->(P->B->h->Prop)->75->Prop)(f:Wf (g×P) e a)(t:B->g)(m:B->h->a->D):D->(e->D->Prop)->75->Prop:=λd j i=>w d (λp b l=>f (t b,p) (λx c=>j x<|m b l c) λC c=>i C<|m b l c) i
@[reducible] def cN{D i e P B g a:Type}(w:D->(P->B->g->Prop)->75->Prop)(f:Wf (e×P) i a)(t:B->e)(m:B->g->a->D):D->(D->Prop)->75->Prop:=λd j h=>w d (λp b l=>f (t b,p) (λ_ c=>j<|m b l c) λC c=>h C<|m b l c) h
@[reducible] def cS{D a b c e:Type}(w:D->e->75->Prop)(j:D->b)(g:(a->Prop)->c->e):D->(a->Prop)->c->(hJ->b->Prop)->Prop:=λd f h i=>w d (g f h) λC k=>i C<|j k
@[reducible] def cG{D a D' b c:Type}(w:D->(a->Prop)->b->c->Prop)(g:a->D'):D->(D'->Prop)->b->c->Prop:=λd e f h=>w d (λi=>e<|g i) f h
@[reducible] def cI{D e a f:Type}(w:Wf D Bool D)(u v:D->(e->Prop)->f->(hJ->a->Prop)->Prop)(j:D->a):D->(e->Prop)->f->(hJ->a->Prop)->Prop:=λd g h c=>w d (λb i=>if b=true then u i g h c else v i g h c) λC k=>c C<|j k
@[reducible] def cW{D c a e:Type}(w:Wf D Bool D)(v:D->(c->Prop)->e->(hJ->a->Prop)->Prop)(g:c->D)(j:D->a):D->(D->Prop)->e->(hJ->a->Prop)->Prop:=λd k l f=>∃W:Nat->D->Prop,(∃m,W m d)/\∀m d,W m d->w d (λb h=>if b=true then v h (λn=>∃i,i<m/\W i (g n)) l f else k h) λC o=>f C<|j o
@[reducible] def cT{D a b:Type}(w:D->(D->Prop)->75->Prop)(v:D->(D->Prop)->b->(hJ->a->Prop)->Prop)(e:List hJ):D->(D->Prop)->b->(hJ->a->Prop)->Prop:=λd c f g=>w d c λC h=>C∈e/\v h c f g
structure Nw(T:hJ){τ:Type}[Ow τ](F1 F2 R:Rg)(H:Hp)(x:τ)(v:V):Prop where
 is:sl F1 R H x ↑v
 sub:∀a,F1 a->R a
 yG:∀a,F1 a->F2 a->False
 tab:¬F1 T
def EO(X:Cx)(E:XK)(T:hJ)(e:iZ){D h:Type}[Sls D][Ow h](w:Wf D h D):Prop :=
 ∃t,PE X e t/\∀(d:D)(F R:Rg)(g:St)(H:Hp)(j:h->D->Prop)(k:hJ->D->Prop)(Q:VK),wz T F R H d g->w d j k ->
  (∀x f v l i c b,j x f->Ch T F R H (λa=>l a\/i a) c b->wz T i c b f g->Nw T l i c b x v->Q v b) ->
  (∀C y f m c b,k C f->Ch T F R H m c b->wz T m c b f g->E (.ref C) ↑y b)->t g H Q
def TW(X:Cx)(E:XK)(T:hJ)(e:iZ){D:Type}[Sls D](w:Wf D Bool D):Prop :=
 ∃t,PT X e t/\∀(d:D)(F R:Rg)(g:St)(H:Hp)(h:Bool->D->Prop)(i:hJ->D->Prop)(Q:Bool->Hp->Prop),wz T F R H d g->w d h i ->
  (∀x b c f a,h x b->Ch T F R H c f a->wz T c f a b g->Q x a) ->
  121->t g H Q
section
variable{D:Type}[Sls D]
def YA{F R F1 F2 R':Rg}{H H':Hp}{d d':D}{σ:St}{α:Type}[Rep α]{x:OL α}{v:V}(s:wz T F R H d σ)(c:Ch T F R H (λa=>F1 a\/F2 a) R' H')(s':wz T F2 R' H' d' σ)(n:Nw T F1 F2 R' H' x v) :
  ∃KA,Ch T F R H F2 KA H'/\wz T F2 KA H' d' σ/\rp KA H' x.l v:=by
 have ex:Ext (λ_=>False) R' H' (λa=>R' a/\¬F1 a) H':=#[λ_ _ _ h=>h,λa h=>.inl h.1];refine#[λa=>R' a/\¬F1 a,#[c.keep,λa h=>c.AE a h.1,λa h=>c.yL a<|.inr h,λa h k=>#[c.left a h k,λz=>?_]],#[Sls.st s'.rel ex (λ_ z=>z.elim)<|λ_ _ z=>z,λa h=>#[s'.sub a h,λz=>n.yG a z h],λa h=>s'.xD a h.1,s'.tab,#[s'.v8,n.tab],s'.vV],?_]
 ·rcases c.yL a (.inl z) with q|q
  ·exact k q
  ·exact s.xD a h q
 ·refine e2a4 n.is λa vs h1 h2 h3 h4=>?_;cases h1;exact#[a,vs,rfl,λz=>z.2<|(h2 a).mpr rfl,h3,wE (ex.wide λ_ z=>z.elim) h4]
def vO{α:Type}[Rep α]{w:Wf D (OL α) D}(h:EO X E T e w):EW X E T e (cK w λKn x d'=>Kn x.l d'):=by refine e1a2 h λt h1 h2=>?_;refine#[t,h1,λd F R σ H Kn Ke Q s hw kn ke=>h2 d F R σ H _ Ke Q s hw (λx d' v F1 F2 R' H' q c s' n=>?_) ke];refine e1a3 (YA s c s' n) λKA c2 s2 r=>?_;exact kn x.l d' v F2 KA H' q c2 s2 r
def xW{F R:Rg}{H:Hp}{d:D}{σ:St}{α:Type}[Rep α]{xs:List α}{vs:List V}{p:hJ}(s:wz T F R H d σ)(hp:H p=none)(h:Paired (rp R H) xs vs) :
  ∃R',Ch T F R H (λa=>a=p\/F a) R' (upd H p<|.lst vs)/\wz T F R' (upd H p<|.lst vs) d σ/\Nw T (λa=>a=p) F R' (upd H p<|.lst vs) (OL.mk xs) (.ref p):=by
 refine e0a3 (s.new (.lst vs) hp) λs1 c1 n1=>?_;have nF:¬F p:=λz=>n1<|s.sub p z;have ex:Ext (λ_=>False) R H (λa=>R a\/a=p) (upd H p<|.lst vs):=⟨λb o _ h=>by rw[vh<|vv h hp];exact h,λa h=>h.elim .inl λq=>.inr<|by rw[q];exact hp⟩;refine⟨λa=>R a\/a=p,#[c1.keep,ex.new,λa h=>h.elim (λq=>.inr<|by rw[q];exact hp) .inl,λa h _=>.inl h],#[Sls.st s.rel ex (λ_ z=>z.elim)<|λ_ _ z=>z,λa h=>.inl<|s.sub a h,λa h=>?_,s1.tab,.inl s.v8,s.vV],#[#[p,vs,rfl,λb=>Iff.rfl,vm,wE (ex.wide λ_ z=>z.elim) h],λa h=>.inr h,λa h k=>nF (by rw[<- h];exact k),λh=>n1<|by rw[<- h];exact s.v8]⟩;rcases h with h|h
 ·exact s1.xD a h
 ·rw[h,vm];simp
def U9{i:Nat}{τ D':Type}[Ow τ][Sls D'][A:At i D τ D']{F R:Rg}{H:Hp}{d:D}{σ:St}(s:wz T F R H d σ):∃v F1 F2,σ[i]?=↑v/\DU F F1 F2/\sl F1 R H (A.get d) v/\rel F2 R H (A.hole d) σ:=A.take s.rel
def ss[Rep a][Sls c](i:Nat)[A:At i D a c](e:PE X 101 (vT i):=by exact pv _):EW X E T 101 (λ(d:D)(b:a->D->Prop) _=>b (A.get d) d):=by refine#[_,e,λd F R k H b l Q s f g _=>?_];obtain⟨v,m,n,h,o,⟨_,u,rfl,j⟩,_⟩:=A.take s.rel;exact#[u,h,g _ d u F R H f 67 s j]
def vn{n:Int}{k:Nat}:EW X E T (.Constant (.int n) k pos) (λ(d:D)(a:Int->D->Prop) _=>a n d) :=
 #[_,vL,λd F R e H a f Q s b c _=>c n d _ F R H b 67 s rfl]
def yH{b:Bool}{k:Nat}:EW X E T (.Constant (.bool b) k pos) (λ(d:D)(a:Bool->D->Prop) _=>a b d) :=
 #[_,ZN,λd F R f H a g Q s c e _=>e b d _ F R H c 67 s rfl]
def Lu{k:Nat}:EW X E T (.Constant .none k pos) (λ(d:D)(a:Unit->D->Prop) _=>a () d) :=
 #[_,KI,λd F R e H a f Q s b c _=>c () d _ F R H b 67 s rfl]
def QW{α β γ:Type}[Rep α][Rep β][Rep γ]{wa:Wf D α D}{wb:Wf D β D}{c:α->β->Prop}{g:α->β->γ}
 (ha:EW X E T a wa) (hb:EW X E T b wb) (he:∀ta tb,PE X a ta->PE X b tb->PE X e (ZB r ta tb))
 (hr:∀{R:Rg} {H:Hp} {x:α} {y:β} {u v:V} {Q:VK},rp R H x u->rp R H y v->c x y->(∀z,rp R H (g x y) z->Q z H)->r u v H Q) :
    EW X E T e (cB wa wb λx Kn y d2=>c x y/\Kn (g x y) d2):=by
  refine e1a2 ha λta a1 a2=>?_
  refine e1a2 hb λtb b1 b2=>?_
  refine#[_,he ta tb a1 b1,λd F R σ H Kn Ke Q s hw kn ke=>?_]
  refine a2 d F R σ H _ Ke _ s hw (λx d1 u F1 R1 H1 q1 c1 s1 r1=>?_) ke
  refine b2 d1 F1 R1 σ H1 _ Ke _ s1 q1 (λy d2 v F2 R2 H2 q2 c2 s2 r2=>?_) λC y d' F' R' H' k c s'=>ke C y d' F' R' H' k (Ch.trans s s1.tab c1 c) s'
  exact hr (s1.val c2 r1) r2 q2.1 λz rz=>kn _ d2 z F2 R2 H2 q2.2 (Ch.trans s s1.tab c1 c2) s2 rz
def YB{α γ:Type}[Rep α][Rep γ]{r:V->Hp->VK->Prop}{wa:Wf D α D}{c:α->Prop}{g:α->γ}
 (ha:EW X E T a wa) (he:∀ta,PE X a ta->PE X e (tUn r ta)) (hr:∀{R:Rg} {H:Hp} {x:α} {u:V} {Q:VK},rp R H x u->c x->(∀z,rp R H (g x) z->Q z H)->r u H Q) :
    EW X E T e (cK wa λKn x d1=>c x/\Kn (g x) d1):=by
  refine e1a2 ha λta a1 a2=>?_
  refine#[_,he ta a1,λd F R σ H Kn Ke Q s hw kn ke=>?_]
  refine a2 d F R σ H _ Ke _ s hw (λx d1 u F1 R1 H1 q1 c1 s1 r1=>?_) ke
  exact hr r1 q1.1 λz rz=>kn _ d1 z F1 R1 H1 q1.2 c1 s1 rz
def QX{c:Int->Int->Prop}{g:Int->Int->Int}{f h:Wf D Int D}(l:Bv X (mS op) (rI c λi j=>.int<|g i j))(m:EW X E T a f)(n:EW X E T b h) :
  EW X E T (.BinOp a op b pos) (cB f h λx o y p=>c x y/\o (g x y) p) :=
 QW (γ:=Int) m n (λr s d e=>xj l d e) λd e q k=>#[_,_,d,e,q,k _ rfl]
def Bc{g:Int->Int->Int}{wa wb:Wf D Int D}(ho:Bv X (mS op) (Ug λi j=>.int<|g i j))(ha:EW X E T a wa)(hb:EW X E T b wb) :
  EW X E T (.BinOp a op b pos) (cB wa wb λx Kn y d2=>Kn (g x y) d2):=by
 have h:=QW (c:=λ_ _=>True) (γ:=Int) (g:=g) (e:=.BinOp a op b pos) ha hb (λta tb h1 h2=>xj ho h1 h2) λh1 h2 _ k=>#[_,_,h1,h2,k _ rfl];simp only[true_and]at h;exact h
class JS(α:Type)[Rep α][DecidableEq α] where
 sc:∀{R:Rg} {H:Hp} {x y:α} {u v:V},rp R H x u->rp R H y v->X6 u v=true/\decide (u=v)=decide (x=y)
instance:JS Int:=#[λ{R H x y u v} h1 h2=>by
 subst h1;subst h2;refine#[rfl,?_];by_cases e:x=y
 ·rw[e];simp
 ·rw[iC e,iC (λz=>e (by cases z;rfl))]]
instance:JS Bool:=#[λ{R H x y u v} h1 h2=>by
 subst h1;subst h2;refine#[rfl,?_]
 cases x<;>cases y<;>rfl]
def Nh{α:Type}[Rep α]{x:Option α}(h:rp R H x u):decide (u=.wW)=x.isNone:=by
 cases x with
 |none=>have h:u=.wW:=h;rw[h];rfl
 |some y=>exact iC h.1
end
variable[L2.GX]
section
variable{D:Type}[Sls D]
def vw{b:Type}[Rep b]{w:Wf D b D}(h:EO X E T e w):EW X E T e w:=by refine e1a2 h λt f g=>?_;refine#[t,f,λd F R i H B j Q s k l m=>g d F R i H _ j Q s k (λx o v C p r y q c z n=>?_) m];obtain⟨G,u,e,A⟩:=n.is;cases e;exact l x o v p r y q #[c.keep,c.AE,λa h=>c.yL a<|.inr h,c.left] z A
def vG{b:Type}[Rep b]{w:Wf D b D}(h:EW X E T e w):EO X E T e w:=by refine e1a2 h λt f g=>?_;refine#[t,f,λd F R i H A j Q s k l m=>g d F R i H _ j Q s k (λx n v o p u q c y r=>?_) m];exact l x n v (λ_=>False) o p u q #[c.keep,c.AE,λa h=>c.yL a<|h.elim (λz=>z.elim) id,c.left] y #[#[λ_ z=>z,v,rfl,r],λ_ z=>z.elim,λ_ z=>z.elim,λz=>z]
end
class Hs(τ:Type)[Ow τ]:Prop where
 has:∀{F R:Rg} {H:Hp} {x:τ} {v:Option V},sl F R H x v->∃u,v=↑u
instance{α:Type}[Rep α]:Hs (OL α):=#[λz9=>e2a2 z9 λa _ h _=>#[_,h]]
instance{α:Type}[Rep α]:Hs α:=#[λz9=>e0a2 z9 λ_ z39=>e1a2 z39 λu h _=>#[u,h]]
structure Std(T:hJ)(F R:Rg)(H:Hp):Prop where
 sub:∀a,F a->R a
 xD:∀a,R a->H a≠none
 tab:TabAt H T
 v8:R T
 vV:¬F T
def wz.Hy{T:hJ}{D:Type}[Sls D]{F R:Rg}{H:Hp}{d:D}{a:St}(s:wz T F R H d a):Std T F R H:=#[s.sub,s.xD,s.tab,s.v8,s.vV]
def Std.stt{T:hJ}{D:Type}[Sls D]{F R:Rg}{H:Hp}{d:D}{a:St}(s:Std T F R H)(h:rel F R H d a):wz T F R H d a:=#[h,s.sub,s.xD,s.tab,s.v8,s.vV]
section
variable{D:Type}[Sls D]
def two_nil(F:Rg):DU F (λ_=>False) F:=#[λ_=>#[.inr,λz=>z.elim (λq=>q.elim) id],λ_ z _=>z]
def two_eq(t:DU F b c)(n:∀a,¬b a):∀a,c a↔F a:=λa=>#[λz=>(t.all a).mpr<|.inr z,λz=>((t.all a).mp z).elim (λq=>iq q<|n a) id]
end
def yM(T:hJ){P d f:Type}[Sls P][Sls d][Ow f](w:Wf P f d):Sp:=λg H Q E=>∃(F R:Rg)(p:P)(i:f->d->Prop)(j:hJ->d->Prop),wz T F R H p (g.map some)/\w p i j /\
 (∀x e v k h c b,i x e->Ch T F R H (λa=>k a\/h a) c b->wz T h c b e (g.map some)->Nw T k h c b x v->Q v b) /\
 (∀C y e l c b,j C e->Ch T F R H l c b->wz T l c b e (g.map some)->E (.ref C) ↑y b)
def Ag(c:List Nat)(b a:St):Prop:=a.length=b.length/\∀i∈c,a[i]?=b[i]?
def Ag.refl(b:List Nat)(a:St):Ag b a a:=#[rfl,λ_ _=>rfl]
def Ag.trans(a:Ag e f c)(b:Ag e c d):Ag e f d:=#[b.1.trans a.1,λi h=>(b.2 i h).trans<|a.2 i h]
def Ag.set{i:Nat}(h:i∉a):Ag a b (b.set i v):=#[mG,λj c=>nM λe=>h<|by rw[e];exact c]
structure Uk(P:Type)[Sls P](ms:List Nat)(n:Nat):Prop where
 dp:∀{F R:Rg} {H:Hp} {p:P} {σ σ':St},Ag ms σ σ'->rel F R H p (σ'.take n)->rel F R H p (σ.take n)
class Dp(P:Type)[Sls P](n:outParam Nat)(l:outParam (List Nat)):Prop where
 dp:Uk P l n
instance dp0:Dp Unit 0 []:=#[#[λ{F R H p σ σ'} _ h=>#[rfl,h.2]]]
instance(priority:=high) dpU {P:Type}{n:Nat}{l:List Nat}[Sls P][A:Dp P n l]:Dp (Un×P) (n+1) (l.map (· + 1)):=#[#[λ{F R H p σ σ'} a r=>by
 refine e4a4 r λv σ1 F1 F2 h1 h2 h3 h4=>?_
 cases σ' with
 |nil=>cases h1
 |cons v' r' =>
  cases σ with
  |nil=>have:=a.1;simp at this
  |cons u r =>
   injection h1 with e1 e2;subst e2;refine#[u,r.take n,F1,F2,rfl,h2,h3,A.dp.dp (σ':=r') #[by have:=a.1;simpa using this,λi hi=>?_] h4];have:=a.2 (i+1)<|List.mem_map.mpr #[i,hi,rfl]
   simpa using this]]
instance dpO{τ P:Type}{n:Nat}{l:List Nat}[Ow τ][Sls P][A:Dp P n l]:Dp (τ×P) (n+1) (0::l.map (· + 1)):=#[#[λ{F R H p σ σ'} a r=>by
 refine e4a4 r λv σ1 F1 F2 h1 h2 h3 h4=>?_
 cases σ' with
 |nil=>cases h1
 |cons v' r' =>
  cases σ with
  |nil=>have:=a.1;simp at this
  |cons u r =>
   injection h1 with e1 e2;subst e2
   have e0:v'=u:=by have:=a.2 0 hW;simpa using this
   subst e0;subst e1;refine#[v',r.take n,F1,F2,rfl,h2,h3,A.dp.dp (σ':=r') #[by have:=a.1;simpa using this,λi hi=>?_] h4];have:=a.2 (i+1)<|hZ _<|List.mem_map.mpr #[i,hi,rfl]
   simpa using this]]
def vP[Sls P]{n:Nat}[A:Dp P n l](h:∀i∈l,i∈b):Uk P b n:=#[λa r=>A.dp.dp #[a.1,λi c=>a.2 i<|h i c] r]
def Xf(E:XK)(T:hJ)(u:List Nat)(n:Nat)(t:TS){D j f k:Type}[Sls D][Sls j][Sls f][Ow k](w:D->(j->Prop)->(k->f->Prop)->(hJ->f->Prop)->Prop):Prop :=
 ∀(d:D)(F R:Rg)(g:St)(H:Hp)(o:j->Prop)(p:k->f->Prop)(q:hJ->f->Prop)(l:Ends),wz T F R H d g->w d o p q ->
  (∀r h c b e,o r->Ch T F R H h c b->wz T h c b r e->Ag u g e->l.nx e b) ->
  (∀x i v s m c b,p x i->Ch T F R H (λa=>s a\/m a) c b->wz T m c b i (g.take n)->Nw T s m c b x v->l.rt v b) ->
  (∀C y i h c b,q C i->Ch T F R H h c b->wz T h c b i (g.take n)->E (.ref C) ↑y b)->t l g H
def S1(X:Cx)(E:XK)(T:hJ)(d:List Nat)(n:Nat)(e:iH){D b a c:Type}[Sls D][Sls b][Sls a][Ow c](w:D->(b->Prop)->(c->a->Prop)->(hJ->a->Prop)->Prop):Prop:=∃t,PS X e t/\Xf E T d n t w
def SW(X:Cx)(E:XK)(T:hJ)(e:List Nat)(n:Nat)(a:List iH){D c b d:Type}[Sls D][Sls c][Sls b][Ow d](w:D->(c->Prop)->(d->b->Prop)->(hJ->b->Prop)->Prop):Prop:=∃t,FX X a t/\Xf E T e n t w
section
variable{D D' D1 PO τ:Type}[Sls D][Sls D'][Sls D1][Sls PO][Ow τ]
def vK:SW X E T f n [] (λ(d:D)(a:D->Prop)(_:τ->PO->Prop) _=>a d) :=
 #[_,zP,λd F R b H a g h i s c e _ _=>e d F R H b c 67 s<|Ag.refl _ _]
def QY:SW X E T e n a (λ(d:D)(b:D'->Prop)(_:τ->PO->Prop) _=>False) :=
 #[_,Od,λd F R f H b g h i s c j _ _=>c.elim]
def a2M{t:TS}[A:Fg D1 D']{w:D->(D1->Prop)->105->91->Prop}(f:Xf E T g n t w):Xf E T g n t (cG (D':=D') w A.fg):=by refine λd F R i H x j k l s m o p r=>f d F R i H _ j k l s m (λy z u v e q c b a=>?_) p r;refine e1a2 (A.le b.rel) λG g1 g2=>?_;exact o _ G u v e q #[c.keep,c.AE,λa h=>c.yL a<|g1 a h,c.left] ⟨g2,λa h=>b.sub a<|g1 a h,b.xD,b.tab,b.v8,λh=>b.vV<|g1 _ h⟩ a
def Ni{a:List iH}[A:Fg D1 D']{w:D->(D1->Prop)->105->91->Prop}(h:SW X E T b n a w):SW X E T b n a (cG (D':=D') w A.fg) :=
 e1a2 h λt c d=> #[t,c,a2M d]
def Xg{A:D->(D1->Prop)->105->91->Prop}{B:D1->(D'->Prop)->105->91->Prop}(G:Uk PO k n)(L:Xf E T k n M A)(N:Xf E T k n O B) :
  Xf E T k n (KL M O) (λd l b e=>A d (λo=>B o l b e) b e):=by
 refine λd F R P H l b e Q s S U I J=>L d F R P H _ b e _ s S (λo W X Y p q r j t=>?_) I J;refine N o W X p Y l b e Q j q (λZ u f h w i c a g=>U Z u f h w i (Ch.trans s j.tab r c) a<|t.trans g) (λx z v M1 M2 f h i c a m=>?_) λC y z u f h i c a=>?_
 ·exact I x z v M1 M2 f h i (Ch.trans s j.tab r c) #[G.dp t a.rel,a.sub,a.xD,a.tab,a.v8,a.vV] m
 ·exact J C y z u f h i (Ch.trans s j.tab r c) #[G.dp t a.rel,a.sub,a.xD,a.tab,a.v8,a.vV]
def D9{c:iH}{a:List iH}{w1:D->(D1->Prop)->105->91->Prop}{w2:D1->(D'->Prop)->105->91->Prop}(g:Uk PO b n)(h:S1 X E T b n c w1)(i:SW X E T b n a w2) :
  SW X E T b n (c::a) (λd j e f=>w1 d (λk=>w2 k j e f) e f) :=
 e1a2 h λq l m=> e1a2 i λr o p=> #[_,wG l o,Xg g m p]
def vj{a:iH}{b:D->(D'->Prop)->105->91->Prop}(c:S1 X E T d n a b):SW X E T d n [a] b :=
 e1a2 c λg e f=> #[_,yd e,f]
def wY[A:Pj D PO n](s:wz T c e f d g):∃G,(∀a,G a->c a)/\wz T G e f (A.pj d) (g.take n):=by refine e1a2 (A.le s.rel) λG b i=>?_;exact#[G,b,i,λa h=>s.sub a<|b a h,s.xD,s.tab,s.v8,λh=>s.vV<|b _ h]
def Ch.less(c:Ch T F R H b d e)(g:∀a,G a->b a):Ch T F R H G d e:=#[c.keep,c.AE,λa h=>c.yL a<|g a h,c.left]
def vB[A:Pj D PO n](h:EO X E T e p):S1 X E T M n (.Return ↑e pos) (cS p A.pj λ(_:D'->Prop)(o:τ->PO->Prop) x f=>o x<|A.pj f):=by
 refine e1a2 h λt r u=>?_;refine#[_,CY r,λd F R w H N o O P s B Q I J=>u d F R w H _ _ _ s B (λx f v L S g i q c j m=>?_) λC y f U g i q c j=>?_]
 ·refine e1a2 (wY (PO:=PO) j) λG b l=>?_;exact I x _ v L G g i q (c.less λa h=>h.elim .inl λz=>.inr<|b a z) l ⟨m.is,m.sub,λa h k=>m.yG a h<|b a k,m.tab⟩
 ·refine e1a2 (wY (PO:=PO) j) λG b l=>?_;exact J C y _ G g i q (c.less b) l
def v6{i:Type}[Rep i][A:Pj D PO n]{j:Wf D i D}(h:EW X E T e j)(p:kj e none pos.line X.env=pure false:=by rfl) :
  S1 X E T M n (.Expr e pos) (cS j A.pj λ(k:D->Prop)(r:τ->PO->Prop) _ a=>k a):=by
 refine e1a2 h λt u w=>?_;refine#[_,B5 u p,λd F R l H k r N O s z B P I=>w d F R l H _ _ _ s z (λx a v o b f q c g m=>B a o b f l q c g<|Ag.refl _ _) λC y a o b f q c g=>?_];refine e1a2 (wY (PO:=PO) g) λG J L=>?_;exact I C y _ G b f q (c.less J) L
def vQ{a b:List iH}[A:Pj D PO n]{B:Wf D Bool D}{I J:D->(D'->Prop)->105->91->Prop}(hc:TW X E T c B)(ha:SW X E T L n a I)(hb:SW X E T L n b J) :
  S1 X E T L n (.If c a b pos) (cI B I J A.pj):=by
 refine e1a2 hc λtc c1 c2=>?_;refine e1a2 ha λta a1 a2=>?_;refine e1a2 hb λtb b1 b2=>?_;refine#[_,MW c1 a1 b1,λd F R t H M N O P s hw Q S u=>c2 d F R t H _ _ _ s hw (λx U W Y Z q c k=>?_) λC y r l e f q c h=>?_]
 ·cases x with
  |true=>exact a2 U W Y t Z M N O P k q (λr l e f o i j h g=>Q r l e f o i (Ch.trans s k.tab c j) h g) (λx p v w z e f i j h m=>S x p v w z e f i (Ch.trans s k.tab c j) h m) λC y p l e f i j h=>u C y p l e f i (Ch.trans s k.tab c j) h
  |false=>exact b2 U W Y t Z M N O P k q (λr l e f o i j h g=>Q r l e f o i (Ch.trans s k.tab c j) h g) (λx p v w z e f i j h m=>S x p v w z e f i (Ch.trans s k.tab c j) h m) λC y p l e f i j h=>u C y p l e f i (Ch.trans s k.tab c j) h
 ·refine e1a2 (wY (PO:=PO) h) λG g1 g2=>?_;exact u C y _ G e f q (c.less g1) g2
def GN{i:Nat}[Ow c][Ow e][Sls f][Sls j][A:At i D c f][U:Pt i f e j](s:wz T g R H d k)(m:Nw T F1 g R H x v) :
  ∃G,(∀a,G a->F1 a\/g a)/\wz T G R H (U.put (A.hole d) x) (k.set i<|↑v):=by
 refine e3a4 (A.take s.rel) λo p l r b t n=>?_;refine#[λa=>F1 a\/l a,λa h=>h.elim .inl λz=>.inr<|(b.all a).mpr<|.inr z,U.back n ⟨λ_=>Iff.rfl,λa z q=>m.yG a z<|(b.all a).mpr<|.inr q⟩ m.is,λa h=>h.elim (m.sub a) λz=>s.sub a<|(b.all a).mpr<|.inr z,s.xD,s.tab,s.v8,λh=>h.elim m.tab λz=>s.vV<|(b.all T).mpr<|.inr z]
def vC(i:Nat)[Ow b][Ow f][Sls r][Sls u][A:At i D b r][U:Pt i r f u][J:Pj D PO n](z:X.N.Nodup)(h:EO X E T e B)(I:X.N[i]?=↑x:=by rfl)(hx:Loc X.env.scope x:=by exact lJ rfl)(L:i∉M:=by decide)
 (O:kj e (some<|.Name x a) pos.line X.env=pure false:=by rfl) (P:X.fn x=true\/X.env.scope.names.lookup x=some .local:=by first|exact .inl rfl|exact .inr rfl) :
    S1 X E T M n (.Assign [.Name x a] e pos) (cS B J.pj λ(w:u->Prop)(Q:τ->PO->Prop) x g=>w<|U.put (A.hole g) x):=by
  refine e1a2 h λt S W=>?_
  refine#[_,Au z I hx S O P,λd F R Y H w Q Ke En s Z kn kr ke=>W d F R Y H _ _ _ s Z (λx g v F1 F2 j k q c l m=>?_) λC y g F' j k q c l=>?_]
  · refine e1a2 (GN (i := i) l m) λG o p => ?_
    exact kn _ G j k _ q (c.less o) p<|Ag.set L
  · refine e1a2 (wY (PO := PO) l) λG o p => ?_
    exact ke C y _ G j k q (c.less o) p
end
class Ent(P:Type)[Sls P](k:Nat)(D:outParam Type)[Sls D] where
 ent:P->D
 ok:∀{F R:Rg} {H:Hp} {p:P} {σ:St},rel F R H p σ->rel F R H (ent p) (σ++lu k none)
noncomputable instance ent0:Ent Unit 0 Unit:=#[id,λh=>by obtain⟨rfl,h⟩:=h;exact#[rfl,h]]
noncomputable instance entS{k:Nat}{D:Type}[Sls D][A:Ent Unit k D]:Ent Unit (k+1) (Un×D):=#[λp=>(#[],A.ent p),λ{F R H p σ} h=>by
 obtain⟨rfl,h⟩:=h
 exact#[none,lu k none,λ_=>False,F,by rw[nQ];rfl,two_nil F,λ_ z=>z,by simpa using A.ok (σ:=[]) (p:=p) (F:=F) (R:=R) (H:=H) #[rfl,h]]]
noncomputable instance entC{k:Nat}{τ P D:Type}[Ow τ][Sls P][Sls D][A:Ent P k D]:Ent (τ×P) k (τ×D):=#[λp=>(p.1,A.ent p.2),λ{F R H p σ} h=>by
 obtain⟨v,σ',F1,F2,rfl,h2,h3,h4⟩:=h
 exact#[v,σ'++lu k none,F1,F2,rfl,h2,h3,A.ok h4]]
class Ln(P:Type)[Sls P](n:outParam Nat):Prop where
 ln:∀{F R:Rg} {H:Hp} {p:P} {σ:St},rel F R H p σ->σ.length=n
instance ln0:Ln Unit 0:=#[λh=>by rw[h.1];rfl]
instance lnS{τ P:Type}{n:Nat}[Ow τ][Sls P][A:Ln P n]:Ln (τ×P) (n+1):=#[λh=>by
 obtain⟨v,σ',F1,F2,rfl,_,_,h4⟩:=h
 rw[iF,A.ln h4]]
def wK{r:iH}{N M:List Str}{k j n:Nat}{ms:List Nat}{A PO τ D D':Type}[Sls A][Sls PO][Ow τ][Sls D][Sls D'][L:Ln A n][J:Ent A j D]{O:D->(D'->Prop)->105->91->Prop}
 (F:za K x d r f fd) (S:vp N M (vg r)) (hn:M.length=n) (hj:N.length-n=j)
 (i:∀(b:ci)(A:jN)(a:List Env)(s:ic)(H:Hp)(E:XK),wM k (A.deeper<|oY d (vg r) ⇑s f b)->SW (wd (v4 P w) P w K mg base N d (vg r) f b A a s H E) E T ms n (vS r) O) :
    vU P w K mg base (v4 P w) (k+1) f fd M (yM T λ(p:A)(U:τ->PO->Prop) l=>O (J.ent p) (λ_=>False) U l):=by
  have e:∀{g:List V} {H:Hp} {Q:VK} {E:XK},yM T (λ(p:A)(U:τ->PO->Prop) l=>O (J.ent p) (λ_=>False) U l) g H Q E->g.length=n:=λh=>by
    obtain⟨F,R,p,Kn,l,s,_⟩:=h
    have:=L.ln s.rel
    rwa [h8]at this
  obtain⟨oc,od,kV,aa,pm,an,b,ct,ab,rfl,lk,W⟩:=F.ex
  refine JC lk W S (λg H Q E h=>(e h).trans hn.symm) λAr a s H g Q E hr u=>?_
  refine e1a2 (i b Ar a s H E hr) λt h1 h2=>?_
  refine#[t,h1,?_]
  have X:=e u
  obtain⟨F,R,p,Kn,l,o,hw,kn,ke⟩:=u
  have B:start N g=g.map some++lu j none:=by unfold L2.start;rw[X,hj]
  have G:(start N g).take n=g.map some:=by rw[B,nN (by rw[h8,X];exact hV _),jI<|by rw[h8,X];exact hV _]
  refine h2 (J.ent p) F R _ H _ Kn l _ #[by rw[B];exact J.ok o.rel,o.sub,o.xD,o.tab,o.v8,o.vV] hw (λ_ _ _ _ _ z=>z.elim) (λx Y v F1 F2 Z H' q c I m=>?_) λC y Y F' Z H' q c I=>?_
  · rw[G]at I
    exact kn x Y v F1 F2 Z H' q c I m
  · rw[G]at I
    exact ke C y Y F' Z H' q c I
def Xh{o:iH}{N J:List Str}{k j n:Nat}{ms:List Nat}{A PO τ D D':Type}[Sls A][Sls PO][Ow τ][Sls D][Sls D'][L:Ln A n][I:Ent A j D]{M:D->(D'->Prop)->105->91->Prop}
 (F:za K x b o f O) (S:vp N J (vg o)) (hn:J.length=n) (hj:N.length-n=j)
 (g:∀(A:jN)(a:List Env)(s:ic)(H:Hp)(E:XK),wM k (A.deeper<|oY b (vg o) ⇑s f O.code)->SW (wd (v4 P w) P w K mg base N b (vg o) f O.code A a s H E) E T ms n (vS o) M) :
    vU P w K mg base (v4 P w) (k+1) f O J (yM T λ(p:A)(U:τ->PO->Prop) i=>M (I.ent p) (λ_=>False) U i):=by
  have d:∀{e:List V} {H:Hp} {Q:VK} {E:XK},yM T (λ(p:A)(U:τ->PO->Prop) i=>M (I.ent p) (λ_=>False) U i) e H Q E->e.length=n:=λh=>by
    obtain⟨F,R,p,Kn,i,s,_⟩:=h
    have:=L.ln s.rel
    rwa [h8]at this
  obtain⟨oc,od,kV,aa,pm,an,ab,ct,ae,rfl,lk,W⟩:=F.ex
  refine JC lk W S (λe H Q E h=>(d h).trans hn.symm) λAr a s H e Q E hr r=>?_
  refine e1a2 (g Ar a s H E hr) λt h1 h2=>?_
  refine#[t,h1,?_]
  have X:=d r
  obtain⟨F,R,p,Kn,i,l,hw,kn,ke⟩:=r
  have u:start N e=e.map some++lu j none:=by unfold L2.start;rw[X,hj]
  have B:(start N e).take n=e.map some:=by rw[u,nN (by rw[h8,X];exact hV _),jI<|by rw[h8,X];exact hV _]
  refine h2 (I.ent p) F R _ H _ Kn i _ #[by rw[u];exact I.ok l.rel,l.sub,l.xD,l.tab,l.v8,l.vV] hw (λ_ _ _ _ _ z=>z.elim) (λx Y v F1 F2 Z H' q c G m=>?_) λC y Y F' Z H' q c G=>?_
  · rw[B]at G
    exact kn x Y v F1 F2 Z H' q c G m
  · rw[B]at G
    exact ke C y Y F' Z H' q c G
def DG{O:iH}{N ps:List Str}{k j n:Nat}{ms:List Nat}{A PO D D':Type}[Sls A][Sls PO][Sls D][Sls D'][L:Ln A n][En:Ent A j D][J:Pj D' PO n](dp:Uk PO ms n){w0:D->(D'->Prop)->(Unit->PO->Prop)->91->Prop}
 (F:za K x e O f fd) (S:vp N ps (vg O)) (hn:ps.length=n) (hj:N.length-n=j)
 (o:∀(d:ci)(A:jN)(b:List Env)(s:ic)(H:Hp)(E:XK),wM k (A.deeper<|oY e (vg O) ⇑s f d)->SW (wd (v4 P w) P w K mg base N e (vg O) f d A b s H E) E T ms n (vS O) w0) :
    vU P w K mg base (v4 P w) (k+1) f fd ps (yM T λ(p:A)(U:Unit->PO->Prop) B=>w0 (En.ent p) (λd'=>U ()<|J.pj d') U B):=by
  have i:∀{l:List V} {H:Hp} {Q:VK} {E:XK},yM T (λ(p:A)(U:Unit->PO->Prop) B=>w0 (En.ent p) (λd'=>U ()<|J.pj d') U B) l H Q E->l.length=n:=λh=>by
    obtain⟨F,R,p,Kn,B,s,_⟩:=h
    have:=L.ln s.rel
    rwa [h8]at this
  obtain⟨oc,od,kV,ab,pm,an,d,ct,ae,rfl,lk,aa⟩:=F.ex
  refine JC lk aa S (λl H Q E h=>(i h).trans hn.symm) λAr b s H l Q E hr W=>?_
  refine e1a2 (o d Ar b s H E hr) λt h1 h2=>?_
  refine#[t,h1,?_]
  have hl:=i W
  obtain⟨F,R,p,Kn,B,I,hw,kn,ke⟩:=W
  have X:start N l=l.map some++lu j none:=by unfold L2.start;rw[hl,hj]
  have r:(start N l).take n=l.map some:=by rw[X,nN (by rw[h8,hl];exact hV _),jI<|by rw[h8,hl];exact hV _]
  refine h2 (En.ent p) F R _ H _ Kn B _ #[by rw[X];exact En.ok I.rel,I.sub,I.xD,I.tab,I.v8,I.vV] hw (λd' F' Y Z af q c u g=>?_) (λx p' v F1 F2 Y Z q c u m=>?_) λC y p' F' Y Z q c u=>?_
  · refine e1a2 (wY (PO := PO) u) λG g1 M => ?_
    have g3:=dp.dp g M.rel
    rw[r]at g3
    exact kn () _ .wW (λ_=>False) G Y Z q (c.less λa h=>h.elim (λz=>z.elim)<|g1 a) ⟨g3,M.sub,M.xD,M.tab,M.v8,M.vV⟩ ⟨⟨λ_ z=>z,.wW,rfl,rfl⟩,λ_ z=>z.elim,λ_ z=>z.elim,λz=>z⟩
  · rw[r]at u
    exact kn x p' v F1 F2 Y Z q c u m
  · rw[r]at u
    exact ke C y p' F' Y Z q c u
end WL
namespace WL
open PySem L2
open Rep (rp)
open Ow (sl)
open Sls (rel)
class Dat(α:Type)[Rep α][DecidableEq α] where
 dat:α->PyData
 dp:Nat
 rd:∀{X:Cx} {R:Rg} {H:Hp} {x:α} {v:V},rp R H x v->GK X H v (dat x)
 lay:∀x,(dat x).canLay0=true
 dep:∀x,(dat x).depth<=dp
 nm:∀x y,pP (dat x) (dat y)=true
 sm:∀x y,lv (dat x) (dat y)=decide (x=y)
instance:Dat Int where
 dat:=.int
 dp:=0
 rd h:=by have h:_=_:=h;subst h;exact GK.int _
 lay _:=by simp[pH]
 dep _:=by simp[sA]
 nm _ _:=by simp[pP]
 sm x y:=by rw[lv];by_cases h:x=y<;>simp[h]
section
variable{α β:Type}[Rep α][DecidableEq α][Dat α][Rep β][DecidableEq β][Dat β]
def Cj{X:Cx}{R:Rg}{H:Hp}:∀{xs:List α} {vs:List V},Paired (rp R H) xs vs->Paired (GK X H) vs (xs.map Dat.dat):=by
 intro _ _ z
 induction z with
 |nil=>exact .nil
 |cons h t ih=>exact .cons (Dat.rd h) ih
def Nj:∀a:List α,oz (a.map Dat.dat)=true
 | []=>by simp[oz]
 |x::a=>by simp only[iJ,oz,Dat.lay x,Nj a,qv]
def Nk:∀a:List α,o6 (a.map Dat.dat)<=Dat.dp α
 | []=>by simp[o6]
 |x::a=>by
  have b:=Nk a;have c:=Dat.dep x;simp only[iJ,o6]
  lia
def QZ:∀a b:List α,mV (a.map Dat.dat) (b.map Dat.dat)=true
 | [],[]=>by simp[mV]
 | [],_::_=>by simp[mV]
 |_::_,[]=>by simp[mV]
 |x::a,y::b=>by simp only[iJ,mV,Dat.nm x y,QZ a b,qv]
def Q0:∀xs ys:List α,k9 (xs.map Dat.dat) (ys.map Dat.dat)=decide (xs=ys)
 | [],[]=>by simp[k9]
 | [],_::_=>by simp[k9]
 |_::_,[]=>by simp[k9]
 |x::xs,y::ys=>by simp only[iJ,k9,Dat.sm x y,Q0 xs ys];by_cases h:x=y<;>simp[h]
instance:Dat (List α) where
 dat xs:=.list<|xs.map Dat.dat
 dp:=Dat.dp α+1
 rd h:=by obtain⟨a,vs,rfl,_,h3,h4⟩:=h;exact GK.lst (wI.of h3)<|Cj h4
 lay xs:=by simp only[pH];exact Nj xs
 dep xs:=by simp only[sA];have:=Nk xs;omega
 nm xs ys:=by simp only[pP];exact QZ xs ys
 sm xs ys:=by simp only[lv];exact Q0 xs ys
def GK.tup{X:Cx}(h:zu X.K H a c)(p:Paired (GK X H) c d):GK X H (.ref a) (.tuple d):=λb m s u I r=>by
 cases r;refine e1a3 (I.tuple h) λe f g _=>?_;obtain⟨q,i⟩:=GL I f p;obtain⟨o,j,k,n,l⟩:=g;exact#[_,Reads.tuple j k l<|by simpa using i]
instance:Dat (α×β) where
 dat x:=.tuple [Dat.dat x.1,Dat.dat x.2]
 dp:=max (Dat.dp α) (Dat.dp β)+1
 rd h:=by obtain⟨a,u,w,rfl,_,h3,h4,h5⟩:=h;exact GK.tup (zu.of h3)<|.cons (Dat.rd h4)<|.cons (Dat.rd h5) .nil
 lay x:=by simp only[pH,oz,Dat.lay,qv]
 dep x:=by have h1:=Dat.dep x.1;have h2:=Dat.dep x.2;simp only[sA,o6];omega
 nm x y:=by simp only[pP,mV,Dat.nm,qv]
 sm x y:=by simp only[lv,k9,Dat.sm];obtain⟨a,b⟩:=x;obtain⟨c,d⟩:=y;by_cases h1:a=c<;>by_cases h2:b=d<;>simp[h1,h2]
end
def RdL{α:Type}[Rep α]{D:Type}[Sls D](T:hJ)(F R:Rg)(H:Hp)(σ:St)(g:D->List α)(v:V):Prop :=
 ∀(d'':D)(Xi KA:Rg)(Q1:Hp),Ch T F R H Xi KA Q1->wz T Xi KA Q1 d'' σ->∃a vs,v=.ref a/\Q1 a=↑(.lst vs)/\Paired (rp KA Q1) (g d'') vs
def ER(X:Cx)(E:XK)(T:hJ)(e:iZ){D i:Type}[Sls D][Rep i](w:Wf D (D->List i) D):Prop :=
 ∃t,PE X e t/\∀(d:D)(F R:Rg)(f:St)(H:Hp) (j:(D->List i)->D->Prop) (k:hJ->D->Prop) (Q:VK),wz T F R H d f->w d j k ->
  (∀g h v b c a,j g h->Ch T F R H b c a->wz T b c a h f->RdL T b c a f g v->Q v a) ->
  (∀C y h b c a,k C h->Ch T F R H b c a->wz T b c a h f->E (.ref C) ↑y a)->t f H Q
section
variable{D:Type}[Sls D]{α β γ:Type}[Rep α][Rep β][Rep γ]
def v9(h:EW X E T e w):ER X E T e (cK w λ(f:(D->List α)->D->Prop) x b=>f (λ_=>x) b):=by refine e1a2 h λt i j=>?_;refine#[t,i,λd F R k H f l Q s m n o=>j d F R k H _ l Q s m (λx b v p u y q c g r=>n _ b v p u y q c g λz A B C G I=>?_) o];refine e2a4 (g.val G r) λa J L O M N=>?_;exact#[a,J,L,M,N]
def wo(i:Nat)[Sls h][A:At i D (OL α) h](j:PE X 101 (vT i):=by exact pv _):ER X E T 101 (λ(d:D) (e:(D->List α)->D->Prop) _=>e (λd=>(A.get d).l) d):=by refine#[_,j,λd F R w H e y Q s k m _=>?_];obtain⟨v,z,B,f,C,⟨a,G,rfl,I⟩,_⟩:=A.take s.rel;refine#[_,f,m _ d _ F R H k 67 s λn o p q J b=>?_];obtain⟨L,M,N,g,O,⟨P,c,r,S,t,u⟩,_⟩:=A.take b.rel;rw[f]at g;cases g;cases r;exact#[_,c,rfl,t,u]
def YC{wa:Wf D (D->List α) D}{wb:Wf D β D}{c:List α->β->γ->Prop}
 (ha:ER X E T a wa) (hb:EW X E T b wb) (he:∀ta tb,PE X a ta->PE X b tb->PE X e (ZB r ta tb))
 (hr:∀{R:Rg} {H:Hp} {xs:List α} {y:β} {z:γ} {p:hJ} {us:List V} {v:V} {Q:VK},H p=↑(.lst us)->Paired (rp R H) xs us->rp R H y v->c xs y z->(∀w,rp R H z w->Q w H)->r (.ref p) v H Q) :
    EW X E T e (cB wa wb λg Kn y d2=>∃z,c (g d2) y z/\Kn z d2):=by
  refine e1a2 ha λta a1 a2=>?_
  refine e1a2 hb λtb b1 b2=>?_
  refine#[_,he ta tb a1 b1,λd F R σ H Kn Ke Q s hw kn ke=>?_]
  refine a2 d F R σ H _ Ke _ s hw (λg d1 u F1 R1 H1 q1 c1 s1 r1=>?_) ke
  refine b2 d1 F1 R1 σ H1 _ Ke _ s1 q1 (λy d2 v F2 R2 H2 q2 c2 s2 r2=>?_) λC y d' F' R' H' k c s'=>ke C y d' F' R' H' k (Ch.trans s s1.tab c1 c) s'
  refine e1a2 q2 λz z1 z2=>?_
  obtain⟨p,us,rfl,h1,h2⟩:=r1 d2 F2 R2 H2 c2 s2
  exact hr h1 h2 r2 z1 λw rw=>kn _ d2 w F2 R2 H2 z2 (Ch.trans s s1.tab c1 c2) s2 rw
def xl{R:Rg}{H:Hp}:∀{xs:List α} {vs:List V} {i:Nat} {x:α},Paired (rp R H) xs vs->xs[i]?=↑x->∃v,vs[i]?=↑v/\rp R H x v:=by
 intro _ _ i x z
 induction z generalizing i with
 |nil=>intro e;simp at e
 |cons r t ih =>
  intro e
  cases i with
  |zero=>simp at e;subst e;exact#[_,rfl,r]
  |succ i=>exact e1a2 (ih<|by simpa using e) λu h1 h2=>#[u,by simpa using h1,h2]
def Be{xs:List α}{vs:List V}{i:Int}(h:Paired (rp R H) xs vs)(e:FZ xs i=↑x):∃v,FZ vs i=↑v/\rp R H x v:=by
 unfold FZ at e ⊢;rw[<- Paired.length h]
 cases q:W4 xs.length i with
 |none=>rw[q]at e;cases e
 |some j =>
  rw[q]at e;exact xl h e
def xE{j:Wf D (D->List α) D}{l:Wf D Int D}(q:ER X E T a j)(s:EW X E T b l)(t:M9 b:=by intro _ _;rfl) :
  EW X E T (.Subscript a b pos) (λ(d:D)(u:α->D->Prop) m=>j d (λg A=>l A (λi n=>∃x,FZ (g n) i=↑x/\u x n) m) m) :=
 YC (c:=λo i x=>FZ o i=↑x) q s (λF G f h=>yF w8 f h t) λ{R H o y z p I v Q} f h B C k=>by subst B;refine e1a2 (Be h C) λw e r=>?_;exact#[_,_,_,_,rfl,rfl,wI.of f,e,k _ r]
def EK{k:Nat}{c:Wf D (α×β) D}(f:EW X E T a c):EW X E T (.Subscript a (.Constant (.int 0) k p) pos) (cK c λ(e:α->D->Prop) x b=>e x.1 b):=by refine e1a2 f λI g h=>?_;refine#[_,yF Qj g vL<|λ_ _=>rfl,λd F R i H e j Q s l m n=>h d F R i H _ j _ s l (λx b u o r t y z A B=>?_) n];obtain⟨q,v,w,rfl,_,C,G,J⟩:=B;exact#[_,_,_,v,rfl,rfl,zu.of C,rfl,m _ b v o r t y z A G]
def BX{k:Nat}{c:Wf D (α×β) D}(f:EW X E T a c):EW X E T (.Subscript a (.Constant (.int 1) k p) pos) (cK c λ(e:β->D->Prop) x b=>e x.2 b):=by refine e1a2 f λI g h=>?_;refine#[_,yF Qj g vL<|λ_ _=>rfl,λd F R i H e j Q s l m n=>h d F R i H _ j _ s l (λx b u o r t y z A B=>?_) n];obtain⟨q,v,w,rfl,_,C,J,G⟩:=B;exact#[_,_,_,w,rfl,rfl,zu.of C,rfl,m _ b w o r t y z A G]
def zC(e:EW X E T a f):EW X E T a (cK f λ(c:α->D->Prop) x b=>∃y,x=↑y/\c y b):=by refine e1a2 e λz g h=>?_;refine#[_,g,λd F R i H c j Q s k l m=>h d F R i H _ j _ s k (λx b u n o p r t v w=>?_) m];obtain⟨y,rfl,q⟩:=r;exact l y b u n o p q t v w.2
class NV(α:Type)[Rep α]:Prop where
 nv:∀{R:Rg} {H:Hp} {x:α} {v:V},rp R H x v->v≠.wW
instance:NV Int:=#[λh z=>by have h:_=_:=h;rw[h]at z;cases z]
instance:NV (α×β):=#[λh z=>by obtain⟨a,u,w,e,_⟩:=h;rw[e]at z;cases z]
def zX[NV α](f:EW X E T a g):EW X E T a (cK g λ(c:Option α->D->Prop) x b=>c ↑x b):=by refine e1a2 f λw h i=>?_;exact#[_,h,λd F R j H c k Q s l m n=>i d F R j H _ k _ s l (λx b u o p q r t v e=>m ↑x b u o p q r t v #[NV.nv e,e]) n]
def Va{k:Nat}:EW X E T (.Constant .none k pos) (λ(d:D)(a:Option α->D->Prop) _=>a none d) :=
 #[_,KI,λd F R e H a f Q s b c _=>c none d _ F R H b 67 s rfl]
def xv{a:iZ}{p:Pos}{wa:Wf D (D->List α) D}(hg:Gl X "len")(hm:X.mg "len"=none)(ha:ER X E T a wa)(hs:hR [a] X.env=85::hR [] X.env:=by rfl) :
  EW X E T (.Call (.Name "len" p) [a] [] pos) (cK wa λ(Kn:Int->D->Prop) g d1=>Kn ((g d1).length:Int) d1):=by
 refine e1a2 ha λta a1 a2=>?_;refine#[_,wZ xH hg hm mW (vq a1 vF hs) (he:=hs),λd F R σ H Kn Ke Q s hw kn ke=>a2 d F R σ H _ Ke _ s hw (λg d1 u F1 R1 H1 q1 c1 s1 r1=>?_) ke];obtain⟨q,us,rfl,h1,h2⟩:=r1 d1 F1 R1 H1 67 s1;refine#[_,_,rfl,.inl<|wI.of h1,kn _ d1 _ F1 R1 H1 q1 c1 s1 ?_];show V.int _=V.int _;rw[Paired.length h2]
end
def AL(X:Cx)(E:XK)(T:hJ)(es:List iZ){D α:Type}[Sls D][Rep α](w:Wf D (List α) D):Prop :=
 ∃t,PA X es t/\∀(d:D)(F R:Rg)(σ:St)(H:Hp)(Kn:List α->D->Prop)(Ke:hJ->D->Prop)(Q:List V->Hp->Prop),wz T F R H d σ->w d Kn Ke ->
  (∀x d' vs F' R' H',Kn x d'->Ch T F R H F' R' H'->wz T F' R' H' d' σ->Paired (rp R' H') x vs->vs.length=es.length->Q vs H') ->
  (∀C y d' F' R' H',Ke C d'->Ch T F R H F' R' H'->wz T F' R' H' d' σ->E (.ref C) ↑y H')->t σ H Q
def wz.vals{T:hJ}{D:Type}[Sls D]{d:D}{σ:St}{F R F' R':Rg}{H H':Hp}(s:wz T F R H d σ)(c:Ch T F R H F' R' H'){α:Type}[Rep α]{x:List α}{v:List V}(h:Paired (rp R H) x v):Paired (rp R' H') x v :=
 wE (c.ext.wide λa z=>z.elim (s.sub a) λq=>by rw[q];exact s.v8) h
section
variable{D:Type}[Sls D]{α β γ:Type}[Rep α][Rep β][Rep γ]
def vI:AL X E T [] (λ(d:D)(a:List α->D->Prop) _=>a [] d) :=
 #[_,vF,λd F R e H a f Q s b c _=>c [] d [] F R H b 67 s .nil rfl]
def vo{a:List iZ}{g:Wf D α D}{h:Wf D (List α) D}(q:EW X E T e g)(r:AL X E T a h)(t:hR (e::a) X.env=71::hR a X.env:=by rfl) :
  AL X E T (e::a) (cB g h λx i j f=>i (x::j) f):=by
 refine e1a2 q λta v w=>?_;refine e1a2 r λtr z A=>?_;refine#[_,vq v z t,λd F R l H i m Q s B G n=>?_];refine w d F R l H _ m _ s B (λx I u J L M N o b O=>?_) n;refine A I J L l M _ m _ b N (λj f P S U W Y p Z r2 l2=>?_) λC y d' F' R' H' k c s'=>n C y d' F' R' H' k (Ch.trans s b.tab o c) s';exact G _ f (u::P) S U W Y (Ch.trans s b.tab o p) Z (.cons (b.val p O) r2) (by rw[iF,iF,l2])
def vJ(h:AL X E T a w)(f:a.length<=hX:=by decide):EO X E T (.List a pos) (cK w λ(b:OL α->D->Prop) c g=>b #[c] g):=by refine e1a2 h λt i j=>?_;refine#[_,Qd i,λd F R k H b l Q s m n o=>j d F R k H _ l _ s m (λc q I r J L u v e x y=>#[by rw[y];exact f,λp z=>?_]) o];refine e1a3 (xW e z x) λA B C G=>?_;exact n _ q _ _ r A _ u (Ch.trans s e.tab v B) C G
def w9{q}(r:EW X E T a t)(w:EW X E T b z)
 (A:hR [a,b] X.env=85::hR [b] X.env:=by rfl) (B:hR [b] X.env=(false,eval b X.env)::hR [] X.env:=by rfl) :
    EW X E T (.Tuple [a,b] q pos) (cB t z λx (i:α×β->D->Prop) y g=>i (x,y) g):=by
  refine e1a2 r λta G I=>?_
  refine e1a2 w λtb J L=>?_
  refine#[_,Qc<|vq G (vq J vF B) A,λd F R j H i l Q s M N m=>?_]
  refine I d F R j H _ l _ s M (λx O u P S U W n e Y=>?_) m
  refine L O P S j U _ l _ e W (λy g v Z R2 H2 q2 o f r2=>#[(by show 2<=hX;decide),λp hp=>?_]) λC y d' F' R' H' k c s'=>m C y d' F' R' H' k (Ch.trans s e.tab n c) s'
  refine e0a3 (f.new (.tup [u,v]) hp) λs3 h n3=>?_
  exact N _ g _ Z R2 _ q2 (Ch.trans s e.tab n<|Ch.trans e f.tab o h) s3 #[p,u,v,rfl,n3,vm,f.val h<|e.val o Y,f.val h r2]
def yf{R:Rg}{H:Hp}:∀{xs ys:List α} {us vs:List V},Paired (rp R H) xs us->Paired (rp R H) ys vs->Paired (rp R H) (xs++ys) (us++vs):=by
 intro _ _ _ _ z s
 induction z with
 |nil=>exact s
 |cons h t ih=>exact .cons h ih
def BY(I:ER X E T a J)(L:ER X E T b M) :
  EO X E T (.BinOp a .Add b pos) (cB J M λg (l:OL α->D->Prop) k e=>(g e).length+(k e).length<=hX/\l #[g e++k e] e):=by
 refine e1a2 I λta N O=>?_;refine e1a2 L λtb P S=>?_;refine#[_,xj Yf N P,λd F R m H l n Q s U W o=>?_];refine O d F R m H _ n _ s U (λg Y u Z R1 H1 q1 t f r1=>?_) o;refine S Y Z R1 m H1 _ n _ f q1 (λk e v i w x z A h r2=>?_) λC y d' F' j H' k c s'=>o C y d' F' j H' k (Ch.trans s f.tab t c) s';obtain⟨p,us,rfl,h1,B⟩:=r1 e i w x A h;obtain⟨q,vs,rfl,k1,G⟩:=r2 e i w x 67 h;refine#[p,q,us,vs,rfl,rfl,h1,k1,by rw[<- Paired.length B,<- Paired.length G];exact z.1,λr hr=>?_];refine e1a3 (xW h hr<|yf B G) λj c3 s3 n3=>?_;exact W _ e _ _ i j _ z.2 (Ch.trans s f.tab t<|Ch.trans f h.tab A c3) s3 n3
def Hz(i:Gl X "list")(j:X.mg "list"=none)(k:ER X E T a m)(e:hR [a] X.env=85::hR [] X.env:=by rfl) :
  EO X E T (.Call (.Name "list" p) [a] [] pos) (cK m λ(f:OL α->D->Prop) g b=>f #[g b] b):=by
 refine e1a2 k λP n o=>?_;refine#[_,xU yJ i j ky (vq n vF e) (he:=e),λd F R r H f t Q s v w x=>o d F R r H _ t _ s v (λg b u h y z A B c C=>?_) x];obtain⟨q,S,rfl,G,I⟩:=C b h y z 67 c;refine#[_,_,rfl,.inl<|wI.of G,λl J=>?_];refine e1a3 (xW c J I) λL M N O=>?_;exact w _ b _ _ h L _ A (Ch.trans s c.tab B M) N O
noncomputable def ins(x:Int):List Int->List Int
 | []=>[x]
 |y::r=>if x<=y then x::y::r else y::ins x r
noncomputable def Bx:List Int->List Int
 | []=>[]
 |x::r=>ins x<|Bx r
def AF(x:Int):∀r:List Int,(ins x r).Perm (x::r)
 | []=>o7 _
 |y::r=>by
  unfold ins;split
  ·exact o7 _
  ·exact((AF x r).cons y).trans<|List.Perm.swap x y r
def wN:∀r:List Int,(Bx r).Perm r
 | []=>o7 _
 |x::r=>(AF x<|Bx r).trans<|(wN r).cons x
set_option tactic.hygienic true in
def HA(x:Int):∀r:List Int,r.Pairwise (·<=·)->(ins x r).Pairwise (·<=·)
 | [],_=>j4 _ _
 |y::r,h=>by
  unfold ins;have b:=List.pairwise_cons.mp h;split
  ·rename_i a
   refine List.pairwise_cons.mpr #[λz c=>?_,h];rcases List.mem_cons.mp c with e|e
   ·rw[e];exact a
   ·exact Int.le_trans a<|b.1 z e
  ·rename_i a
   refine List.pairwise_cons.mpr #[λz c=>?_,HA x r b.2];rcases List.mem_cons.mp ((AF x r).mem_iff.mp c) with e|e
   ·rw[e];lia
   ·exact b.1 z e
def Bf:∀r:List Int,(Bx r).Pairwise (·<=·)
 | []=>iO
 |x::r=>HA x _<|Bf r
def zD:∀{a b:List Int},a.Perm b->a.Pairwise (·<=·)->b.Pairwise (·<=·)->a=b
 | [],b,p,_,_=>(List.Perm.nil_eq p)
 |x::a,[],p,_,_=>iq p.length_eq q0o
 |x::a,y::b,p,c,d=>by
  have e:x=y:=by
   have f:x∈y::b:=p.mem_iff.mp hW;have g:y∈x::a:=p.mem_iff.mpr hW;rcases List.mem_cons.mp f with q|q
   ·exact q
   ·rcases List.mem_cons.mp g with z|z
    ·exact z.symm
    ·have:=(List.pairwise_cons.mp d).1 x q;have:=(List.pairwise_cons.mp c).1 y z
     lia
  subst e;rw[zD p.cons_inv (List.pairwise_cons.mp c).2 (List.pairwise_cons.mp d).2]
def EL{a:List Int}(p:a.Perm b)(h:a.Pairwise (·<=·)):a=Bx b:=zD (p.trans (wN b).symm) h<|Bf b
def paired_ints{R:Rg}{H:Hp}:∀{xs:List Int} {vs:List V},Paired (rp R H) xs vs->vs=xs.map V.int:=by
 intro _ _ z
 induction z with
 |nil=>rfl
 |cons h t ih=>rw[show _=V.int _ from h,ih];rfl
def yq{R:Rg}{H:Hp}:∀xs:List Int,Paired (rp R H) xs (xs.map V.int)
 | []=>.nil
 |x::r=>.cons (rfl:rp R H x (V.int x))<|yq r
def Dg{a:iZ}{p:Pos}{wa:Wf D (D->List Int) D}(hg:Gl X "sorted")(hm:X.mg "sorted"=none)(ha:ER X E T a wa)(hs:hR [a] X.env=85::hR [] X.env:=by rfl) :
  EO X E T (.Call (.Name "sorted" p) [a] [] pos) (cK wa λ(Kn:OL Int->D->Prop) g d1=>(g d1).length<64/\Kn #[Bx<|g d1] d1):=by
 refine e1a2 ha λta a1 a2=>?_;refine#[_,wZ Hv hg hm kO (vq a1 vF hs) (he:=hs),λd F R σ H Kn Ke Q s hw kn ke=>a2 d F R σ H _ Ke _ s hw (λg d1 u F1 R1 H1 q1 c1 s1 r1=>?_) ke];obtain⟨q,us,rfl,h1,h2⟩:=r1 d1 F1 R1 H1 67 s1;refine#[_,g d1,rfl,wI.of (by rw[h1,paired_ints h2]),q1.1,λl ns hl pn sn=>?_];rw[EL pn sn];refine e1a3 (xW s1 hl<|yq (R:=R1) (H:=H1)<|Bx<|g d1) λR' c3 s3 n3=>?_;exact kn _ d1 _ _ F1 R' _ q1.2 (Ch.trans s s1.tab c1 c3) s3 n3
noncomputable def Gc{α:Type}(a:List α)(b c:Option Int):List α:=(a.drop<|HT.xu a.length 0 b).take<|HT.xu a.length a.length c-HT.xu a.length 0 b
def JT{R:Rg}{H:Hp}:∀{xs:List α} {vs:List V} (n:Nat),Paired (rp R H) xs vs->Paired (rp R H) (xs.drop n) (vs.drop n):=by
 intro _ _ n z
 induction z generalizing n with
 |nil=>cases n<;>exact .nil
 |cons h t ih=>cases n with
  |zero=>exact .cons h t
  |succ k=>exact ih k
def DH{R:Rg}{H:Hp}:∀{xs:List α} {vs:List V} (n:Nat),Paired (rp R H) xs vs->Paired (rp R H) (xs.take n) (vs.take n)
 |_,_,0,_=>.nil
 |_,_,_+1,.nil=>.nil
 |_,_,n+1,.cons r t=>.cons r<|DH n t
def EM{R:Rg}{H:Hp}{xs:List α}{vs:List V}(h:Paired (rp R H) xs vs)(lo hi:Option Int):Paired (rp R H) (Gc xs lo hi) (Ey vs lo hi):=by unfold Gc Ey;rw[<- Paired.length h];exact DH _<|JT _ h
def OW(X:Cx)(E:XK)(T:hJ)(e:Option iZ){D:Type}[Sls D](w:Wf D (Option Int) D):Prop :=
 ∃t,PO X e t/\∀(d:D)(F R:Rg)(g:St)(H:Hp)(h:Option Int->D->Prop)(i:hJ->D->Prop)(Q:Option Int->Hp->Prop),wz T F R H d g->w d h i ->
  (∀x b c f a,h x b->Ch T F R H c f a->wz T c f a b g->Q x a) ->
  121->t g H Q
def HB:OW X E T none (λ(d:D) a _=>a none d):=#[_,DX,λd F R e H a f Q s b c _=>c none d F R H b 67 s]
def HC{e:iZ}{w:Wf D Int D}(h:EW X E T e w):OW X E T ↑e (cK w λa i b=>a ↑i b):=by refine e1a2 h λt c f=>?_;exact#[_,DY c,λd F R g H a j Q s k l m=>f d F R g H _ j _ s k (λx n u o p H1 q r v y=>#[x,y,l _ n o p H1 q r v]) m]
def JU{G:Option iZ}(M:ER X E T a N)(O:OW X E T G P)(S:OW X E T U W) :
  EO X E T (.Subscript a (.Slice G U none p2) pos) (λ(d:D)(I:OL α->D->Prop) b=>N d (λg m=>P m (λl n=>W n (λh f=>I #[Gc (g f) l h] f) b) b) b):=by
 refine e1a2 M λta Y Z=>?_;refine e1a2 O λtl l1 l2=>?_;refine e1a2 S λth h1 h2=>?_;refine#[_,Ay DZ Y l1 h1,λd F R o H I b Q s hw kn r=>?_];refine Z d F R o H _ b _ s hw (λg m u F1 R1 H1 q1 t e r1=>?_) r;refine l2 m F1 R1 o H1 _ b _ e q1 (λl n F2 R2 H2 q2 v i=>?_) λC y w x j z k c A=>r C y w x j z k (Ch.trans s e.tab t c) A;refine h2 n F2 R2 o H2 _ b _ i q2 (λh f J R3 H3 q3 L B=>?_) λC y w x j z k c A=>r C y w x j z k (Ch.trans s e.tab t<|Ch.trans e i.tab v c) A;obtain⟨q,us,rfl,k1,k2⟩:=r1 f J R3 H3 (Ch.trans e i.tab v L) B;refine⟨q,us,rfl,wI.of k1,λp hp=>?_⟩;refine e1a3 (xW B hp<|EM k2 l h) λj c4 s4 n4=>?_;exact kn _ f _ _ J j _ q3 (Ch.trans s e.tab t<|Ch.trans e i.tab v<|Ch.trans i B.tab L c4) s4 n4
def Cm(X:Cx)(op:qY)(g:α->β->Bool):Prop:=∃r,Bv X (jO op) r/\∀{R:Rg} {H:Hp} {x:α} {y:β} {u v:V} {Q:VK},rp R H x u->rp R H y v->Q (.bl<|g x y) H->r u v H Q
def CmL(X:Cx)(op:qY)(g:List α->List β->Bool):Prop:=∃r,Bv X (jO op) r/\∀{R:Rg} {H:Hp} {x:List α} {y:List β} {p q:hJ} {us vs:List V} {Q:VK},H p=↑(.lst us)->Paired (rp R H) x us->H q=↑(.lst vs)->Paired (rp R H) y vs->Q (.bl<|g x y) H->r (.ref p) (.ref q) H Q
def CmI(X:Cx)(op:qY)(g:α->List β->Bool):Prop:=∃r,Bv X (jO op) r/\∀{R:Rg} {H:Hp} {x:α} {y:List β} {q:hJ} {u:V} {vs:List V} {Q:VK},rp R H x u->H q=↑(.lst vs)->Paired (rp R H) y vs->Q (.bl<|g x y) H->r u (.ref q) H Q
def YD(a:Bv X (jO op) (Ug λi j=>.bl<|g i j)):Cm X op g:=⟨_,a,λb c k=>#[_,_,b,c,k]⟩
def Q2:Cm X .Lt (λi j:Int=>decide<|i<j):=YD WZ
def Xj:Cm X .Gt (λi j:Int=>decide<|j<i):=YD W2
def Xk:Cm X .GtE (λi j:Int=>decide<|j<=i):=YD ZZ
def AG[DecidableEq α][JS α]:Cm X .Eq (λx y:α=>decide<|x=y):=⟨_,ZX,λa b k=>#[(JS.sc a b).1,by rw[(JS.sc a b).2];exact k]⟩
def EN[DecidableEq α][JS α]:Cm X .NotEq (λx y:α=>!decide (x=y)):=#[_,ZY,λa b k=>#[(JS.sc a b).1,by rw[(JS.sc a b).2];exact k]]
def YE:Cm X .Is (λ(x:Option α)(_:Unit)=>x.isNone):=#[_,X7,λa b k=>#[b,by rw[Nh a];exact k]]
def Nl:Cm X .IsNot (λ(x:Option α)(_:Unit)=>!x.isNone):=#[_,Ux,λa b k=>#[b,by rw[Nh a];exact k]]
def xX[DecidableEq α][Dat α](a:Dat.dp α<=64)(x:α):sL (Dat.dat x)=true:=by show (pH (Dat.dat x)&&decide ((Dat.dat x).depth<=64))=true;rw[i7];exact#[Dat.lay x,decide_eq_true<|iP (Dat.dep x) a]
def YF[DecidableEq α][Dat α](b:X.A.units+64<kX)(a:Dat.dp α<=64:=by decide):Cm X .NotEq (λx y:α=>!decide (x=y)):=#[_,QJ b,λ{R H x y u v Q} c d k=>#[_,_,Dat.rd c,Dat.rd d,xX a x,xX a y,Dat.nm x y,by rw[Dat.sm];exact k]]
def HD[DecidableEq α][Dat α](b:X.A.units+64<kX)(a:Dat.dp (List α)<=64:=by decide):CmL X .Eq (λx y:List α=>decide (x=y)):=#[_,Ys b,λ{R H x y p q g h Q} c d e f k=>#[_,_,GK.lst (wI.of c) (Cj d),GK.lst (wI.of e) (Cj f),xX a x,xX a y,Dat.nm x y,by
 have:=Dat.sm x y
 rw[show lv (.list (x.map Dat.dat)) (.list (y.map Dat.dat))=decide (x=y) from this];exact k]]
def BZ[DecidableEq α][Dat α](b:X.A.units+64<kX)(a:Dat.dp (List α)<=64:=by decide):CmL X .NotEq (λx y:List α=>!decide (x=y)):=#[_,QJ b,λ{R H x y p q g h Q} c d e f k=>#[_,_,GK.lst (wI.of c) (Cj d),GK.lst (wI.of e) (Cj f),xX a x,xX a y,Dat.nm x y,by
 have:=Dat.sm x y
 rw[show lv (.list (x.map Dat.dat)) (.list (y.map Dat.dat))=decide (x=y) from this];exact k]]
def Ck(k:Int)(a:List Int):inV (.int k) (a.map V.int)=decide (k∈a):=by
 unfold inV;rw[List.any_map,mF,u4,i9];constructor
 ·rintro⟨y,b,e⟩;have:y=k:=by simpa[Uh] using e
  rw[<- this];exact b
 ·intro h;exact#[k,h,by simp[Uh]]
def Bh(a:List Int):(a.map V.int).all B8=true:=by rw[List.all_map,oX];intro x _;rfl
def Q3:CmI X .In (λ(x:Int)(ys:List Int)=>decide (x∈ys)):=#[_,GB,λ{R H x y q u vs Q} h1 h2 h3 k=>by
 subst h1;refine#[q,vs,rfl,.inl<|wI.of h2,rfl,by rw[paired_ints h3];exact Bh y,?_];rw[paired_ints h3,Ck]
 exact k]
def EQ:CmI X .NotIn (λ(x:Int)(ys:List Int)=>!decide (x∈ys)):=#[_,B9,λ{R H x y q u vs Q} h1 h2 h3 k=>by
 subst h1;refine#[q,vs,rfl,.inl<|wI.of h2,rfl,by rw[paired_ints h3];exact Bh y,?_];rw[paired_ints h3,Ck]
 exact k]
def tw_cm{a b:iZ}{op:qY}{g:α->β->Bool}{wa:Wf D α D}{wb:Wf D β D}(C:Cm X op g)(ha:EW X E T a wa)(hb:EW X E T b wb)(hm:jh op b=false:=by exact wn _) :
  TW X E T 119 (cB wa wb λx Kn y d2=>Kn (g x y) d2):=by
 refine e1a2 C λr o1 o2=>?_;refine e1a2 ha λta a1 a2=>?_;refine e1a2 hb λtb b1 b2=>?_;refine#[_,ye o1 a1 b1 hm,λd F R σ H Kn Ke Q s hw kn ke=>?_];refine a2 d F R σ H _ Ke _ s hw (λx d1 u F1 R1 H1 q1 c1 s1 r1=>?_) ke;refine b2 d1 F1 R1 σ H1 _ Ke _ s1 q1 (λy d2 v F2 R2 H2 q2 c2 s2 r2=>?_) λC y d' F' R' H' k c s'=>ke C y d' F' R' H' k (Ch.trans s s1.tab c1 c) s';exact o2 (s1.val c2 r1) r2 #[_,rfl,kn _ d2 F2 R2 H2 q2 (Ch.trans s s1.tab c1 c2) s2]
def a0v{a b:iZ}{op:qY}{g:α->β->Bool}{h:Wf D α D}{i:Wf D β D}(C:Cm X op g)(q:EW X E T a h)(t:EW X E T b i)(w:jh op b=false:=by exact wn _) :
  EW X E T 119 (cB h i λx (j:Bool->D->Prop) y f=>j (g x y) f):=by
 obtain⟨r,z,A⟩:=C;obtain⟨ta,B,G⟩:=q;obtain⟨tb,I,J⟩:=t;refine#[_,Hg z B I w,λd F R l H j m Q s L M n=>?_];refine G d F R l H _ m _ s L (λx N u O P H1 S o e U=>?_) n;refine J N O P l H1 _ m _ e S (λy f v W R2 H2 Y p Z r2=>?_) λC y d' F' R' H' k c s'=>n C y d' F' R' H' k (Ch.trans s e.tab o c) s';exact A (e.val p U) r2<|M _ f _ W R2 H2 Y (Ch.trans s e.tab o p) Z rfl
def tw_cmL{a b:iZ}{op:qY}{g:List α->List β->Bool}{wa:Wf D (D->List α) D}{wb:Wf D (D->List β) D}(C:CmL X op g)(ha:ER X E T a wa)(hb:ER X E T b wb)(hm:jh op b=false:=by exact wn _) :
  TW X E T 119 (cB wa wb λx Kn y d2=>Kn (g (x d2)<|y d2) d2):=by
 refine e1a2 C λr o1 o2=>?_;refine e1a2 ha λta a1 a2=>?_;refine e1a2 hb λtb b1 b2=>?_;refine#[_,ye o1 a1 b1 hm,λd F R σ H Kn Ke Q s hw kn ke=>?_];refine a2 d F R σ H _ Ke _ s hw (λx d1 u F1 R1 H1 q1 c1 s1 r1=>?_) ke;refine b2 d1 F1 R1 σ H1 _ Ke _ s1 q1 (λy d2 v F2 R2 H2 q2 c2 s2 r2=>?_) λC y d' F' R' H' k c s'=>ke C y d' F' R' H' k (Ch.trans s s1.tab c1 c) s';obtain⟨p,us,rfl,h1,h2⟩:=r1 d2 F2 R2 H2 c2 s2;obtain⟨q,vs,rfl,k1,k2⟩:=r2 d2 F2 R2 H2 67 s2;exact o2 h1 h2 k1 k2 #[_,rfl,kn _ d2 F2 R2 H2 q2 (Ch.trans s s1.tab c1 c2) s2]
def Q4{a b:iZ}{op:qY}{g:List α->List β->Bool}{wa:Wf D (D->List α) D}{wb:Wf D (D->List β) D}(C:CmL X op g)(ha:ER X E T a wa)(hb:ER X E T b wb)(hm:jh op b=false:=by exact wn _) :
  EW X E T 119 (cB wa wb λx (Kn:Bool->D->Prop) y d2=>Kn (g (x d2)<|y d2) d2):=by
 refine e1a2 C λr o1 o2=>?_;refine e1a2 ha λta a1 a2=>?_;refine e1a2 hb λtb b1 b2=>?_;refine#[_,Hg o1 a1 b1 hm,λd F R σ H Kn Ke Q s hw kn ke=>?_];refine a2 d F R σ H _ Ke _ s hw (λx d1 u F1 R1 H1 q1 c1 s1 r1=>?_) ke;refine b2 d1 F1 R1 σ H1 _ Ke _ s1 q1 (λy d2 v F2 R2 H2 q2 c2 s2 r2=>?_) λC y d' F' R' H' k c s'=>ke C y d' F' R' H' k (Ch.trans s s1.tab c1 c) s';obtain⟨p,us,rfl,h1,h2⟩:=r1 d2 F2 R2 H2 c2 s2;obtain⟨q,vs,rfl,k1,k2⟩:=r2 d2 F2 R2 H2 67 s2;exact o2 h1 h2 k1 k2<|kn _ d2 _ F2 R2 H2 q2 (Ch.trans s s1.tab c1 c2) s2 rfl
def tw_cmI{a b:iZ}{op:qY}{g:α->List β->Bool}{wa:Wf D α D}{wb:Wf D (D->List β) D}(C:CmI X op g)(ha:EW X E T a wa)(hb:ER X E T b wb)(hm:jh op b=false:=by exact wn _) :
  TW X E T 119 (cB wa wb λx Kn y d2=>Kn (g x<|y d2) d2):=by
 refine e1a2 C λr o1 o2=>?_;refine e1a2 ha λta a1 a2=>?_;refine e1a2 hb λtb b1 b2=>?_;refine#[_,ye o1 a1 b1 hm,λd F R σ H Kn Ke Q s hw kn ke=>?_];refine a2 d F R σ H _ Ke _ s hw (λx d1 u F1 R1 H1 q1 c1 s1 r1=>?_) ke;refine b2 d1 F1 R1 σ H1 _ Ke _ s1 q1 (λy d2 v F2 R2 H2 q2 c2 s2 r2=>?_) λC y d' F' R' H' k c s'=>ke C y d' F' R' H' k (Ch.trans s s1.tab c1 c) s';obtain⟨q,vs,rfl,k1,k2⟩:=r2 d2 F2 R2 H2 67 s2;exact o2 (s1.val c2 r1) k1 k2 #[_,rfl,kn _ d2 F2 R2 H2 q2 (Ch.trans s s1.tab c1 c2) s2]
def YG{a b:iZ}{op:qY}{g:α->List β->Bool}{h:Wf D α D}{i:Wf D (D->List β) D}(C:CmI X op g)(z:EW X E T a h)(A:ER X E T b i)(B:jh op b=false) :
  EW X E T 119 (cB h i λx (j:Bool->D->Prop) y e=>j (g x<|y e) e):=by
 obtain⟨r,G,I⟩:=C;obtain⟨ta,J,L⟩:=z;obtain⟨tb,M,N⟩:=A;refine#[_,Hg G J M B,λd F R l H j m Q s O P n=>?_];refine L d F R l H _ m _ s O (λx S u U W H1 Y o f Z=>?_) n;refine N S U W l H1 _ m _ f Y (λy e v p R2 H2 q2 t w r2=>?_) λC y d' F' R' H' k c s'=>n C y d' F' R' H' k (Ch.trans s f.tab o c) s';obtain⟨q,vs,rfl,k1,k2⟩:=r2 e p R2 H2 67 w;exact I (f.val t Z) k1 k2<|P _ e _ p R2 H2 q2 (Ch.trans s f.tab o t) w rfl
def tw_val{w:Wf D Bool D}(h:EW X E T e w)(b:∀a,rf e X.env a=(do let v <- a;nA e.pos;lm [v] (uH v)):=by intro _;rfl):TW X E T e w:=by refine e1a2 h λt c f=>?_;exact#[_,XA c b,λd F R g H A i Q s j k l=>f d F R g H _ i _ s j (λx m u n o p q r y z=>#[x,z,k _ m n o p q r y]) l]
def tw_not{w:Wf D Bool D}(h:TW X E T e w):TW X E T (.UnaryOp .Not e pos) (cK w λc b a=>c (!b) a):=by refine e1a2 h λt f g=>?_;exact#[_,XG f,λd F R i H c j Q s k l m=>g d F R i H _ j _ s k (λx a n o p q r u=>l _ a n o p q r u) m]
def WW(X:Cx)(E:XK)(T:hJ)(e:iZ){D:Type}[Sls D](w:Wf D Bool D):Prop :=
 ∃t,PW X e t/\∀(d:D)(F R:Rg)(g:St)(H:Hp)(h:Bool->D->Prop)(i:hJ->D->Prop)(Q:Bool->Hp->Prop),wz T F R H d g->w d h i ->
  (∀x b c f a,h x b->Ch T F R H c f a->wz T c f a b g->Q x a) ->
  121->t g H Q
def tw_w{w:Wf D Bool D}(h:WW X E T e w):TW X E T e w:=e1a2 h λt a b=> #[t,a.pt,b]
def HE{w:Wf D Bool D}(h:TW X E T a w):WW X E T (.BoolOp .And [a] pos) w:=e1a2 h λt b c=> #[_,Uu b,c]
def zY{w:Wf D Bool D}(h:TW X E T a w):WW X E T (.BoolOp .Or [a] pos) w:=e1a2 h λt b c=> #[_,PZ b,c]
def Lv{e:List iZ}{h i:Wf D Bool D}(u:TW X E T a h)(v:WW X E T (.BoolOp .And (b::e) pos) i):WW X E T (.BoolOp .And (a::b::e) pos) (cA h i):=by
 refine e1a2 u λta w z=>?_;refine e1a2 v λtb A B=>?_;refine#[_,XD w A,λd F R j H Kn l Q s G m n=>?_];refine z d F R j H _ l _ s G (λx o p q r t g f=>?_) n
 cases x with
 |true=>exact B o p q j r _ l _ f t (λy I J L M N O P=>m _ I J L M N (Ch.trans s f.tab g O) P) λC y S U W Y k c Z=>n C y S U W Y k (Ch.trans s f.tab g c) Z
 |false=>exact m _ o p q r t g f
def AH{e:List iZ}{h i:Wf D Bool D}(u:TW X E T a h)(v:WW X E T (.BoolOp .Or (b::e) pos) i):WW X E T (.BoolOp .Or (a::b::e) pos) (cO h i):=by
 refine e1a2 u λta w z=>?_;refine e1a2 v λtb A B=>?_;refine#[_,WT w A,λd F R j H Kn l Q s G m n=>?_];refine z d F R j H _ l _ s G (λx o p q r t g f=>?_) n
 cases x with
 |false=>exact B o p q j r _ l _ f t (λy I J L M N O P=>m _ I J L M N (Ch.trans s f.tab g O) P) λC y S U W Y k c Z=>n C y S U W Y k (Ch.trans s f.tab g c) Z
 |true=>exact m _ o p q r t g f
def Bi{op}{w:Wf D Bool D}(h:EW X E T a w):EW X E T (.BoolOp op [a] pos) w:=e1a2 h λt b c=> #[_,XH b,c]
def ES{a b:iZ}{rest:List iZ}{g h:Wf D Bool D}(r:EW X E T a g)(t:EW X E T (.BoolOp .And (b::rest) pos) h):EW X E T (.BoolOp .And (a::b::rest) pos) (cA g h):=by
 refine e1a2 r λta w z=>?_;refine e1a2 t λtb A B=>?_;refine#[_,XI w A,λd F R i H Kn j Q s G l m=>?_];refine z d F R i H _ j _ s G (λx n u o p H1 q f e I=>#[x,I,?_]) m
 cases x with
 |true=>exact B n o p i H1 _ j _ e q (λy J v L R2 H2 M N O P=>l _ J v L R2 H2 M (Ch.trans s e.tab f N) O P) λC y S U W Y k c Z=>m C y S U W Y k (Ch.trans s e.tab f c) Z
 |false=>exact l _ n _ o p H1 q f e rfl
def a0w{a b:iZ}{rest:List iZ}{g h:Wf D Bool D}(r:EW X E T a g)(t:EW X E T (.BoolOp .Or (b::rest) pos) h):EW X E T (.BoolOp .Or (a::b::rest) pos) (cO g h):=by
 refine e1a2 r λta w z=>?_;refine e1a2 t λtb A B=>?_;refine#[_,ZQ w A,λd F R i H Kn j Q s G l m=>?_];refine z d F R i H _ j _ s G (λx n u o p H1 q f e I=>#[x,I,?_]) m
 cases x with
 |false=>exact B n o p i H1 _ j _ e q (λy J v L R2 H2 M N O P=>l _ J v L R2 H2 M (Ch.trans s e.tab f N) O P) λC y S U W Y k c Z=>m C y S U W Y k (Ch.trans s e.tab f c) Z
 |true=>exact l _ n _ o p H1 q f e rfl
def YH(h:EW X E T a w):EW X E T (.UnaryOp .Not a pos) (cK w λ(e:Bool->D->Prop) b c=>e (!b) c):=by refine e1a2 h λt f g=>?_;exact#[_,XJ f,λd F R i H e j Q s k l m=>g d F R i H _ j _ s k (λx c u n o p q r v y=>#[x,y,l _ c _ n o p q r v rfl]) m]
end
variable[L2.GX]
class Vb(τ:Type)[Ow τ]:Prop where
 fr:∀{F R L:Rg} {H:Hp} {x:τ} {v:Option V},sl F R H x v->(∀a,L a->∃us,H a=↑(.lst us))->sl F (λa=>R a\/L a) H x v
class Lw(α:Type)[Rep α]:Prop where
 no:∀{R L:Rg} {H:Hp} {x:α} {v:V},rp R H x v->(∀a,L a->∃us,H a=↑(.lst us))->rp (λa=>R a\/L a) H x v
instance:Lw Int:=#[λh _=>h]
instance:Lw Bool:=#[λh _=>h]
instance{α β:Type}[Rep α][Rep β][Lw α][Lw β]:Lw (α×β):=#[λ{R L H x v} h k=>by
 obtain⟨a,u,w,h1,h2,h3,h4,h5⟩:=h
 exact#[a,u,w,h1,λz=>z.elim h2 λq=>(by obtain⟨us,e⟩:=k a q;rw[h3]at e;cases e),h3,Lw.no h4 k,Lw.no h5 k]]
def Nm{α:Type}[Rep α][Lw α]{R L:Rg}{H:Hp}(k:∀a,L a->∃us,H a=↑(.lst us)):∀{xs:List α} {vs:List V},Paired (rp R H) xs vs->Paired (rp (λa=>R a\/L a) H) xs vs:=by
 intro _ _ z
 induction z with
 |nil=>exact .nil
 |cons h t ih=>exact .cons (Lw.no h k) ih
instance{α:Type}[Rep α][Lw α]:Lw (Tp α):=#[λ{R L H x v} h k=>by
 refine e2a4 h λa vs h1 h2 h3 h4=>?_
 exact#[a,vs,h1,λz=>z.elim h2 λq=>(by obtain⟨us,e⟩:=k a q;rw[h3]at e;cases e),h3,Nm k h4]]
instance{α:Type}[Rep α][Lw α]:Vb α:=#[λ{F R L H x v} h k=>by
 obtain⟨h1,u,e,h2⟩:=h
 exact#[h1,u,e,Lw.no h2 k]]
instance{α:Type}[Rep α][Lw α]:Vb (OL α):=#[λ{F R L H x v} h k=>by
 refine e2a4 h λa vs h1 h2 h3 h4=>?_
 exact#[a,vs,h1,h2,h3,Nm k h4]]
instance:Vb Un:=#[λh _=>h]
class ZE(P:Type)[Sls P]:Prop where
 fr:∀{F R L:Rg} {H:Hp} {x:P} {v:St},rel F R H x v->(∀a,L a->∃us,H a=↑(.lst us))->rel F (λa=>R a\/L a) H x v
instance:ZE Unit:=#[λh _=>h]
instance{τ P:Type}[Ow τ][Sls P][Vb τ][ZE P]:ZE (τ×P):=#[λh k=>by
 refine e4a4 h λv σ' F1 F2 h1 h2 h3 h4=>?_
 exact#[v,σ',F1,F2,h1,h2,Vb.fr h3 k,ZE.fr h4 k]]
class YI(P:Type)[Sls P]:Prop where
 ls:∀{F R:Rg} {H:Hp} {x:P} {v:St},rel F R H x v->∀a,F a->∃us,H a=↑(.lst us)
instance:YI Unit:=#[λh a z=>iq z (h.2 a)]
instance{α P:Type}[Rep α][Sls P][YI P]:YI (OL α×P):=#[λ{F R H x v} h a z=>by
 obtain⟨v,σ',F1,F2,h1,h2,⟨b,vs,k1,k2,k3,k4⟩,h4⟩:=h;rcases(h2.all a).mp z with q|q
 ·rw[(k2 a).mp q];exact#[vs,k3]
 ·exact YI.ls h4 a q]
abbrev Wo(R L:Rg):Rg:=λa=>R a/\¬L a
def Dh(R L:Rg)(H:Hp):Ext (λ_=>False) R H (Wo R L) H:=#[λ_ _ _ h=>h,λa h=>.inl h.1]
def Vc(h:∀a,L a->b a):Ext (λ_=>False) (Wo R L) H (Wo R b) H:=#[λ_ _ _ h=>h,λa z=>.inl #[z.1,λq=>z.2<|h a q]]
def Sls.wk{D:Type}[Sls D]{F R R':Rg}{H:Hp}{d:D}{σ:St}(h:rel F R H d σ)(e:Ext (λ_=>False) R H R' H):rel F R' H d σ:=Sls.st h e (λ_ z=>z.elim)<|λ_ _ z=>z
def Ow.wk{τ:Type}[Ow τ]{F R R':Rg}{H:Hp}{d:τ}{σ:Option V}(h:sl F R H d σ)(e:Ext (λ_=>False) R H R' H):sl F R' H d σ:=Ow.st h e (λ_ z=>z.elim)<|λ_ _ z=>z
class Lb(Lc τ PO:Type)[Sls Lc][Ow τ][Sls PO]:Prop where
 fr:∀{F R L R0:Rg} {H:Hp} {x:τ} {v:Option V} {l:Lc} {us:St},rel L R0 H l us->sl F R H x v->sl F (λa=>R a\/L a) H x v
 fs:∀{F R L R0:Rg} {H:Hp} {x:PO} {v:St} {l:Lc} {us:St},rel L R0 H l us->rel F R H x v->rel F (λa=>R a\/L a) H x v
instance{Lc τ PO:Type}[Sls Lc][Ow τ][Sls PO][Vb τ][ZE PO][YI Lc]:Lb Lc τ PO:=#[λh k=>Vb.fr k (YI.ls h),λh k=>ZE.fr k (YI.ls h)]
def Q5{R L:Rg}{H:Hp}(h:∀a,¬L a):Ext (λ_=>False) R H (λa=>R a\/L a) H:=#[λ_ _ _ h=>h,λa z=>z.elim .inl λq=>iq q<|h a]
instance(priority:=high){τ PO:Type}[Ow τ][Sls PO]:Lb Unit τ PO:=#[λh k=>Ow.wk k (Q5 h.2),λh k=>Sls.wk k (Q5 h.2)]
structure ET(F F1 F2 F3:Rg):Prop where
 all:∀a,F a↔F1 a\/F2 a\/F3 a
 Ji:∀a,F1 a->F2 a->False
 KC:∀a,F1 a->F3 a->False
 KD:∀a,F2 a->F3 a->False
def Lx(X:Cx)(E:XK)(T:hJ)(M:List iZ){D P n B j:Type}[Sls D][Sls P][Sls n][Sls B][Sls j](k:B->j->n->D)(w:D->(P->B->j->Prop)->75->Prop):Prop :=
 ∃t,PA X M t/\∀(d:D)(F R:Rg)(g:St)(H:Hp)(o:P->B->j->Prop)(q:hJ->D->Prop)(Q:List V->Hp->Prop),wz T F R H d g->w d o q ->
  (∀p b l m r s u L h f a,o p b l->Ch T F R H h f a->Std T h f a->ET h s u L->rel s (Wo f L) a p (m.map some)->rel u f a b g->rel L f a l r ->
   (∀v x z A G i c e I,rel z c e I (m.map some)->rel A c e v g->rel G c e x r->ET i z A G->rel i c e (k v x I) g)->Q m a) ->
  (∀C y J h f a,q C J->Ch T F R H h f a->wz T h f a J g->E (.ref C) ↑y a)->t g H Q
section
variable{D:Type}[Sls D]
def vi:Lx X E T [] (λ(b:D)(_:Unit)(_:Unit)=>b) (λ(d:D)(c:Unit->D->Unit->Prop) _=>c () d ()):=by refine#[_,vF,λd F R m H c n Q s e f _=>?_];exact f () d () [] [] (λ_=>False) F (λ_=>False) F R H e 67 s.Hy #[λa=>#[λz=>.inr<|.inl z,λz=>z.elim (λq=>q.elim) λz=>z.elim id λq=>q.elim],λ_ z=>z.elim,λ_ z=>z.elim,λ_ _ z=>z] #[rfl,λ_ z=>z] s.rel #[rfl,λ_ z=>z] λo p r u v g h i w j k l t=>Sls.fq k λa=>#[λz=>(t.all a).mpr<|.inr<|.inl z,λz=>((t.all a).mp z).elim (λq=>iq q<|j.2 a) λz=>z.elim id λq=>iq q<|l.2 a]
def vk{g:List iZ}{m P n B a:Type}[Rep m][Sls P][Sls n][Sls B][Sls a]{f:B->a->n->D}{A:Wf D m D}{G:D->(P->B->a->Prop)->75->Prop}
 (W:EW X E T e A) (Y:Lx X E T g f G) (Z:hR (e::g) X.env=71::hR g X.env:=by rfl) :
    Lx X E T (e::g) (λ(b:B)(l:a)(p:Un×n)=>f b l p.2) (cB A G λx (I:m×P->B->a->Prop) p b l=>I (x,p) b l):=by
  refine e1a2 W λta a1 a2=>?_
  refine e1a2 Y λtr b1 b2=>?_
  refine#[_,vq a1 b1 Z,λd F R J H I M Q s hw kn N=>?_]
  refine a2 d F R J H _ M _ s hw (λx d1 u F1 R1 H1 q1 O h r1=>?_) N
  refine b2 d1 F1 R1 J H1 _ M _ h q1 (λp b l S us o G2 L q i j q2 U s2 t2 h1 h2 hl k=>?_) λC y d' q i j k c s'=>N C y d' q i j k (Ch.trans s h.tab O c) s'
  refine kn (x,p) b l (u::S) us o G2 L q i j q2 (Ch.trans s h.tab O U) s2 t2 #[↑u,S.map some,λ_=>False,o,rfl,two_nil o,#[λ_ z=>z,u,rfl,Rep.st (h.val U r1)<|(Dh i L j).wide λ_ z=>z.elim],h1] h2 hl λb' l' L1 L2 L3 r v w p' h3 h4 h5 t=>?_
  refine e4a4 h3 λv' aa M1 M2 z1 z2 z3 z4=>?_
  injection z1 with _ z5
  subst z5
  exact k b' l' L1 L2 L3 r v w p'.2 (Sls.fq z4<|two_eq z2 z3) h4 h5 t
def vN{o:List iZ}(i:Nat){c O P w B g h:Type}[Ow c][Hs c][Sls O][Sls P][Sls w][Sls B][Sls g][Sls h]{j:B->h->w->D}{S:D->(P->B->h->Prop)->75->Prop}
 [A0:At i D c O] [A:At i B c g] [U:Pt i g c B] (hr:Lx X E T o j S) (he:PE X 101 (vT i):=by exact pv _) (hs:hR (.Name x pos::o) X.env=(false,eval 101 X.env)::hR o X.env:=by rfl) :
    Lx X E T (.Name x pos::o) (λ(b:g)(l:h)(p:c×w)=>j (U.put b p.1) l p.2) (cK S λ(W:c×P->g->h->Prop) p b l=>W (A.get b,p) (A.hole b) l):=by
  refine e1a2 hr λtr b1 b2=>?_
  refine#[_,vq he b1 hs,λd F R σ H W Ke Q s hw kn ke=>?_]
  refine e3a4 (A0.take s.rel) λv _ _ y _ C _=>?_
  obtain⟨u,rfl⟩:=Hs.has C
  refine#[u,y,b2 d F R σ H _ Ke _ s hw (λp b l Y us Z G2 L F' R' H' q2 c2 s2 e h1 h2 hl k=>?_) ke]
  refine e3a4 (A.take h2) λv' G M2 z1 r z3 z4=>?_
  rw[y]at z1
  cases z1
  have m1:∀a,G a->G2 a:=λa m=>(r.all a).mpr<|.inl m
  have m2:∀a,M2 a->G2 a:=λa m=>(r.all a).mpr<|.inr m
  refine kn (A.get b,p) (A.hole b) l (u::Y) us (λa=>G a\/Z a) M2 L F' R' H' q2 c2 s2 #[λa=>?_,λa m n=>?_,λa m n=>?_,λa m n=>e.KD a (m2 a m) n] #[↑u,Y.map some,G,Z,rfl,#[λ_=>Iff.rfl,λa m n=>e.Ji a n<|m1 a m],Ow.wk z3<|Dh R' L H',h1] z4 hl λb' l' L1 L2 L3 I J M p' h3 h4 h5 t=>?_
  · rw[e.all, r.all]
    exact#[λz=>z.elim (λq=>.inl<|.inr q) λz=>z.elim 122 λq=>.inr<|.inr q,λz=>z.elim (λz=>z.elim (λq=>.inr<|.inl<|.inl q) .inl) λz=>z.elim (λq=>.inr<|.inl<|.inr q) λq=>.inr<|.inr q]
  · rcases m with m|m
    · exact r.yG a m n
    · exact e.Ji a m<|m2 a n
  · rcases m with m|m
    · exact e.KD a (m1 a m) n
    · exact e.KC a m n
  · refine e4a4 h3 λv' aa N N2 y1 f y3 y4 => ?_
    injection y1 with y5 y6
    subst y5;subst y6
    have tt:DU (λa=>N a\/L2 a) N L2:=#[λ_=>Iff.rfl,λa m n=>t.Ji a ((f.all a).mpr<|.inl m) n]
    refine k _ l' N2 (λa=>N a\/L2 a) L3 I J M p'.2 y4 (Pt.same (A:=U) h4 y tt y3) h5 #[λa=>?_,λa m n=>?_,λa m n=>t.KC a ((f.all a).mpr<|.inr m) n,λa m n=>?_]
    · rw[t.all, f.all]
      exact#[λz=>z.elim (λz=>z.elim (λq=>.inr<|.inl<|.inl q) .inl) λz=>z.elim (λq=>.inr<|.inl<|.inr q) λq=>.inr<|.inr q,λz=>z.elim (λq=>.inl<|.inr q) λz=>z.elim 122 λq=>.inr<|.inr q]
    · rcases n with n|n
      · exact f.yG a n m
      · exact t.Ji a ((f.all a).mpr<|.inr m) n
    · rcases m with m|m
      · exact t.KC a ((f.all a).mpr<|.inl m) n
      · exact t.KD a m n
def vD{u:List iZ}(i:Nat){e S P y B h j:Type}[Rep e][Sls S][Sls P][Sls y][Sls B][Sls h][Sls j]{o:B->j->y->D}{W:D->(P->B->j->Prop)->75->Prop}
 [A0:At i D (OL e) S] [A:At i B (OL e) h] [U:Pt i h (OL e) B] (hr:Lx X E T u o W) (he:PE X 101 (vT i):=by exact pv _) (hs:hR (.Name x pos::u) X.env=(false,eval 101 X.env)::hR u X.env:=by rfl) :
    Lx X E T (.Name x pos::u) (λ(b:h)(l:OL e×j)(p:Un×y)=>o (U.put b l.1) l.2 p.2) (cK W λ(Y:List e×P->h->OL e×j->Prop) p b l=>Y ((A.get b).l,p) (A.hole b) (A.get b,l)):=by
  refine e1a2 hr λtr b1 b2=>?_
  refine#[_,vq he b1 hs,λd F R σ H Y Ke Q s hw kn ke=>?_]
  obtain⟨v,_,_,C,_,⟨r,_,rfl,_⟩,_⟩:=A0.take s.rel
  refine#[_,C,b2 d F R σ H _ Ke _ s hw (λp b l Z us G G2 L F' R' H' q2 c2 s2 f h1 h2 hl k=>?_) ke]
  refine e3a4 (A.take h2) λv' I M2 z1 w z3 z4=>?_
  rw[C]at z1
  cases z1
  refine e2a4 (id z3) λa ws e1 e2 e3 e4=>?_
  cases e1
  have m1:∀a,I a->G2 a:=λa m=>(w.all a).mpr<|.inl m
  have m2:∀a,M2 a->G2 a:=λa m=>(w.all a).mpr<|.inr m
  refine kn ((A.get b).l,p) (A.hole b) (A.get b,l) (.ref r::Z) (↑(.ref r)::us) G M2 (λc=>I c\/L c) F' R' H' q2 c2 s2 #[λa=>?_,λa m n=>f.Ji a m<|m2 a n,λa m n=>?_,λa m n=>?_] #[some<|.ref r,Z.map some,λ_=>False,G,rfl,two_nil G,#[λ_ z=>z,_,rfl,r,ws,rfl,λz=>z.2<|.inl<|(e2 r).mpr rfl,e3,wE ((Dh R' _ H').wide λ_ z=>z.elim) e4],Sls.wk h1<|Vc λ_ z=>.inr z] z4 #[_,us,I,L,rfl,#[λ_=>Iff.rfl,λa m n=>f.KD a (m1 a m) n],z3,hl] λb' l' L1 L2 L3 J M N p' h3 h4 h5 t=>?_
  · rw[f.all, w.all]
    exact#[λz=>z.elim .inl λz=>z.elim (λz=>z.elim (λq=>.inr<|.inr<|.inl q) λq=>.inr<|.inl q) λq=>.inr<|.inr<|.inr q,λz=>z.elim .inl λz=>z.elim (λq=>.inr<|.inl<|.inr q) λz=>z.elim (λq=>.inr<|.inl<|.inl q) λq=>.inr<|.inr q]
  · rcases n with n|n
    · exact f.Ji a m<|m1 a n
    · exact f.KC a m n
  · rcases n with n|n
    · exact w.yG a n m
    · exact f.KD a (m2 a m) n
  · refine e4a4 h3 λv' aa N1 N2 y1 y2 y3 y4 => ?_
    injection y1 with _ y6
    subst y6
    refine e4a4 h5 λv2 ab O K2 x1 g x3 x4=>?_
    injection x1 with x5 x6
    subst x5;subst x6
    have tt:DU (λa=>O a\/L2 a) O L2:=#[λ_=>Iff.rfl,λa m n=>t.KD a n<|(g.all a).mpr<|.inl m]
    refine k _ l'.2 L1 (λa=>O a\/L2 a) K2 J M N p'.2 (Sls.fq y4<|two_eq y2 y3) (Pt.same (A:=U) h4 C tt x3) x4 ⟨λa=>?_,λa m n=>?_,λa m n=>t.KC a m<|(g.all a).mpr<|.inr n,λa m n=>?_⟩
    · rw[t.all, g.all]
      exact#[λz=>z.elim .inl λz=>z.elim (λq=>.inr<|.inl<|.inr q) λz=>z.elim (λq=>.inr<|.inl<|.inl q) λq=>.inr<|.inr q,λz=>z.elim .inl λz=>z.elim (λz=>z.elim (λq=>.inr<|.inr<|.inl q) λq=>.inr<|.inl q) λq=>.inr<|.inr<|.inr q]
    · rcases n with n|n
      · exact t.KC a m<|(g.all a).mpr<|.inl n
      · exact t.Ji a m n
    · rcases m with m|m
      · exact g.yG a m n
      · exact t.KD a m<|(g.all a).mpr<|.inr n
def EU{P J B Lc M:Type}[Sls P][Sls J][Sls B][Sls Lc][Ow M][Lb Lc M J]{mrg:B->Lc->J->D}{wf:Wf P M J}{F R F1 F2 L:Rg}{H:Hp}{b:B}{l:Lc}{p:P}{σ:St}{vs:List V}{us:St}{Kn:M->D->Prop}{Ke:hJ->D->Prop}{Q:VK}
  (s:Std T F R H) (t:ET F F1 F2 L) (hp:rel F1 (Wo R L) H p (vs.map some)) (hb:rel F2 R H b σ) (hl:rel L R H l us) (km:∀b' l' G1 G2 G3 W u w r,rel G1 u w r (vs.map some)->rel G2 u w b' σ->rel G3 u w l' us->ET W G1 G2 G3->rel W u w (mrg b' l' r) σ)
  (hw:wf p (λx r=>Kn x<|mrg b l r) (λC r=>Ke C<|mrg b l r))
  (kn:∀x X v M1 N i d,Kn x X->Ch T F R H (λa=>M1 a\/N a) i d->wz T N i d X σ->Nw T M1 N i d x v->Q v d)
  (ke:∀C y X Y i d,Ke C X->Ch T F R H Y i d->wz T Y i d X σ->E (.ref C) ↑y d):yM T wf vs H Q E:=by
 have O:∀a,F1 a->F a:=λa h=>(t.all a).mpr<|.inl h;have S:∀a,F2 a->F a:=λa h=>(t.all a).mpr<|.inr<|.inl h;have k:∀a,L a->F a:=λa h=>(t.all a).mpr<|.inr<|.inr h;have s1:wz T F1 (Wo R L) H p (vs.map some):=⟨hp,λa h=>#[s.sub a<|O a h,λz=>t.KC a h z],λa h=>s.xD a h.1,s.tab,#[s.v8,λz=>s.vV<|k T z],λh=>s.vV<|O T h⟩
 -- the region aa it: Z the ab left and Z ah ag
 have ex:∀{G i:Rg} {d:Hp},Ch T F1 (Wo R L) H G i d->Ext (λa=>F1 a\/a=T) R H (λa=>i a\/L a) d:=λc=>#[λb o n h=>c.keep b o (λz=>n<|.inl z) (λz=>n<|.inr z) h,λa h=>h.elim (λz=>(c.AE a z).elim (λq=>.inl q.1) .inr) λz=>.inl<|s.sub a<|k a z];have gs:∀a,(F1 a\/a=T)->R a:=λa h=>h.elim (λz=>s.sub a<|O a z) λq=>by rw[q];exact s.v8
 have fr:∀{G i:Rg} {d:Hp},Ch T F1 (Wo R L) H G i d->rel F2 (λa=>i a\/L a) d b σ:=λc=>Sls.st hb (ex c) gs λa h z=>z.elim (λq=>t.Ji a q h) λq=>s.vV (by rw[<- q];exact S a h);have A:∀{G i:Rg} {d:Hp},Ch T F1 (Wo R L) H G i d->rel L (λa=>i a\/L a) d l us:=λc=>Sls.st hl (ex c) gs λa h z=>z.elim (λq=>t.KC a q h) λq=>s.vV (by rw[<- q];exact k a h)
 have nF:∀{G i:Rg} {d:Hp},Ch T F1 (Wo R L) H G i d->∀a,G a->F2 a\/L a->False:=λc a g f=>by
  rcases c.yL a g with q|q
  ·exact f.elim (t.Ji a q)<|t.KC a q
  ·exact s.xD a (s.sub a<|f.elim (S a)<|k a) q
 have nR:∀{G i:Rg} {d:Hp},Ch T F1 (Wo R L) H G i d->∀a,L a->¬i a:=λc a h z=>by
  rcases c.AE a z with q|q
  ·exact q.2 h
  ·exact s.xD a (s.sub a<|k a h) q
 have ch:∀{G i:Rg} {d:Hp},Ch T F1 (Wo R L) H G i d->Ch T F R H (λa=>G a\/F2 a\/L a) (λa=>i a\/L a) d:=λc=>#[λb o n m h=>c.keep b o (λz=>n<|O b z) m h,(ex c).new,λa h=>h.elim (λq=>(c.yL a q).elim (λz=>.inl<|O a z) .inr) λq=>.inl<|q.elim (S a)<|k a,λa h n=>.inl<|c.left a ⟨h,λz=>n<|k a z⟩ λz=>n<|O a z];have ae:∀{G i:Rg} {d:Hp},Ch T F1 (Wo R L) H G i d->∀a,F2 a->i a:=λc a f=>c.left a #[s.sub a<|S a f,λz=>t.KD a f z] λz=>t.Ji a z f
 have af:∀{G i:Rg} {d:Hp},Ch T F1 (Wo R L) H G i d->(∀a,i a->d a≠none)->∀a,i a\/L a->d a≠none:=λc h a z=>z.elim (h a) λq=>by
  cases e:H a with
  |none=>exact iq e<|s.xD a<|s.sub a<|k a q
  |some o=>rw[c.keep a o (λz=>t.KC a z q) (λz=>s.vV<|by rw[<- z];exact k a q) e];simp
 refine#[F1,Wo R L,p,_,_,s1,hw,λx r v M1 N i d q c j n=>?_,λC y r Y i d q c j=>?_]
 ·have U:=nF c;have kl:=A c;have I:=ch c;refine kn x _ v M1 (λa=>N a\/F2 a\/L a) (λa=>i a\/L a) d q #[I.keep,I.AE,λa h=>I.yL a<|h.elim (λz=>.inl<|.inl z) λz=>z.elim (λq=>.inl<|.inr q) .inr,I.left] ⟨km b l N F2 L _ _ d r (Lb.fs M kl j.rel) (fr c) (A c) ⟨λ_=>Iff.rfl,λa m f=>U a (.inr m)<|.inl f,λa m f=>U a (.inr m)<|.inr f,t.KD⟩,λa h=>h.elim (λz=>.inl<|j.sub a z) λz=>z.elim (λq=>.inl<|ae c a q) .inr,af c j.xD,j.tab,.inl j.v8,λh=>h.elim j.vV λz=>z.elim (λq=>s.vV<|S T q) λq=>s.vV<|k T q⟩ ⟨Lb.fr J kl n.is,λa m=>.inl<|n.sub a m,λa m z=>z.elim (n.yG a m) λz=>U a (.inl m) z,n.tab⟩
 ·have U:=nF c;have kl:=A c;exact ke C y _ (λa=>Y a\/F2 a\/L a) (λa=>i a\/L a) d q (ch c) #[km b l Y F2 L _ _ d r (Lb.fs M kl j.rel) (fr c) (A c) #[λ_=>Iff.rfl,λa m f=>U a m<|.inl f,λa m f=>U a m<|.inr f,t.KD],λa h=>h.elim (λz=>.inl<|j.sub a z) λz=>z.elim (λq=>.inl<|ae c a q) .inr,af c j.xD,j.tab,.inl j.v8,λh=>h.elim j.vV λz=>z.elim (λq=>s.vV<|S T q) λq=>s.vV<|k T q]
def Q6{P j B o:Type}[Sls P][Sls j][Sls B][Ow o]{mrg:B->j->D}{wf:Wf P o j}{F R F1 F2:Rg}{H:Hp}{b:B}{p:P}{σ:St}{r:List V}{Kn:o->D->Prop}{Ke:hJ->D->Prop}{Q:VK}
  (s:Std T F R H) (t:DU F F1 F2) (I:rel F1 R H p (r.map some)) (J:rel F2 R H b σ) (M:∀k m n e c d f,rel m c d f (r.map some)->rel n c d k σ->DU e m n->rel e c d (mrg k f) σ)
  (hw:wf p (λx f=>Kn x<|mrg b f) (λC f=>Ke C<|mrg b f))
  (N:∀x i v w u h g,Kn x i->Ch T F R H (λa=>w a\/u a) h g->wz T u h g i σ->Nw T w u h g x v->Q v g)
  (O:∀C y i A h g,Ke C i->Ch T F R H A h g->wz T A h g i σ->E (.ref C) ↑y g):yM T wf r H Q E :=
 EU (Lc:=Unit) (L:=λ_=>False) (l:=()) (us:=[]) (mrg:=λb _ p=>mrg b p) s #[λa=>(t.all a).trans #[λz=>z.elim .inl λq=>.inr<|.inl q,λz=>z.elim .inl λq=>q.elim .inr iR],t.yG,λ_ _ z=>z,λ_ _ z=>z] (Sls.wk I<|Dh _ _ _) J ⟨rfl,λ_ z=>z⟩
  (λk _ m n X e c d f S U W G=>M k m n e c d f S U #[λa=>(G.all a).trans #[λz=>z.elim .inl λq=>q.elim .inr λq=>iq q<|W.2 a,λz=>z.elim .inl λq=>.inr<|.inl q],G.Ji]) hw N O
def Cn{P i B o r:Type}[Sls P][Sls i][Sls B][Sls o][Ow r][Lb o r i]{j:B->o->i->D}{S:Wf P r i}{U:D->(P->B->o->Prop)->75->Prop}{k:Nat}{Y:List Str}{m:List iZ}
 (F:vU X.prog X.w X.K X.mg X.base 123 k f fd Y (yM T S)) (hr:wM k X.A) (hg:Gl X x) (hm:X.mg x=↑(.ref f)) (hk:jz X.K (.ref f)=true) (hb:Binds X.K fd Y []) (hx:Passes 123 X E)
 (ha:Lx X E T (e::m) j U) (u:(x==70)=false:=by decide) (he:hR (e::m) X.env=71::hR m X.env:=by rfl) (z:(jE pos<|hR m X.env).any (·.1)=false:=by rfl) :
    EO X E T (.Call (.Name x p) (e::m) [] pos) (cC U S j):=by
  refine e1a2 ha λt a1 a2=>?_
  refine#[_,UA F hr hg hm hk hb .nil hx a1 u he z,λd F' R σ H Kn Ke Q s hw kn Z=>?_]
  refine a2 d F' R σ H _ Ke _ s hw (λp b l vs us F1 F2 L G R' H' q c I tw h1 h2 h3 km=>?_) Z
  rw[kY]
  exact EU I tw h1 h2 h3 km q (λx J v M1 M2 a g M N h n=>kn x J v M1 M2 a g M (Ch.trans s I.tab c N) h n) λC y J O a g M N h=>Z C y J O a g M (Ch.trans s I.tab c N) h
class Obj(τ:Type)[Ow τ](K:hO)(C:hJ)(m:Str):Prop where
 ob:∀{F R:Rg} {H:Hp} {x:τ} {v:V},sl F R H x ↑v->∃a dx fs,v=.ref a/\H a=↑(.ins C dx fs)/\fs.lookup m=none
end
section
variable{D PO τ:Type}[Sls D][Sls PO][Ow τ]{α:Type}[Rep α]
def zZ{F:Rg}:Ext (λc=>c=a) R H R (upd H a o):=#[λb u n h=>by rw[vh n];exact h,λ_ h=>.inl h]
def Co{i:Nat}{D0:Type}[Sls D0][A:At i D (OL α) D0][U:Pt i D0 (OL α) D]{F R:Rg}{H:Hp}{d:D}{σ:St}(s:wz T F R H d σ):∃a vs,σ[i]?=↑(some<|.ref a)/\H a=↑(.lst vs)/\Paired (rp R H) (A.get d).l vs /\
  ∀(ys:List α)(us:List V),Paired (rp R H) ys us->Ch T F R H F R (upd H a<|.lst us)/\wz T F R (upd H a<|.lst us) (U.put (A.hole d) #[ys]) σ:=by
 obtain⟨v,F1,F2,h1,h2,⟨a,vs,rfl,h4,h5,h6⟩,h7⟩:=A.take s.rel;have aF:F a:=(h2.all a).mpr<|.inl<|(h4 a).mpr rfl;have aT:a≠T:=λz=>s.vV (by rw[<- z];exact aF);refine#[a,vs,h1,h5,h6,λys us hp=>?_];have ex:=zZ (F:=F) (R:=R) (H:=H) (a:=a) (o:=.lst us);have gs:∀c,c=a->R c:=λc z=>by rw[z];exact s.sub a aF
 have k:∀b u,b≠a->H b=↑u->upd H a (.lst us) b=↑u:=λb u z e=>by rw[vh z];exact e
 refine#[#[λb o n _ e=>k b o (λz=>n<|by rw[z];exact aF) e,λ_ h=>.inl h,λ_ h=>.inl h,λ_ h _=>h],Pt.same (A:=U) (Sls.st h7 ex gs λc z q=>h2.yG c ((h4 c).mpr q) z) h1 h2 #[a,us,rfl,h4,vm,wE (ex.wide gs) hp],s.sub,λc z=>?_,?_,s.v8,s.vV]
 ·by_cases e:c=a
  ·rw[e,vm];simp
  ·rw[vh e];exact s.xD c z
 ·refine e1a2 s.tab λps e t=>?_;exact#[ps,k _ _ (λz=>aT z.symm) e,t]
def wF{x:Str}{e:iZ}(i:Nat){p1 p2 p3:Pos}{D0:Type}[Sls D0][A:At i D (OL α) D0][U:Pt i D0 (OL α) D][J:Pj D PO n]{we:Wf D α D}(h:EW X E T e we)
  (hb:∀{t:TA},PA X [e] t->PS X (.Expr (.Call (.Attribute (.Name x p1) "append" p2) [e] [] p3) pos) (Jv<|tBM X.K "list" Na (vT i) t):=by exact λh=>B5<|W5 mE PySem.F.slot_list_append PySem.F.type_list_append Oq (pv _) h) (hs:hR [e] X.env=71::hR [] X.env:=by rfl) :
  S1 X E T ms n (.Expr (.Call (.Attribute (.Name x p1) "append" p2) [e] [] p3) pos) (cS we J.pj λ(Kn:D->Prop)(Kr:τ->PO->Prop) y d'=>(A.get d').l.length<hX/\Kn (U.put (A.hole d') #[(A.get d').l++[y]])):=by
 refine e1a2 h λt h1 h2=>?_;refine#[_,hb<|vq h1 vF hs,λd F R σ H Kn Kr Ke En s hw kn kr ke=>?_];refine e2a4 (Co (i:=i) s) λa vs g1 g2 g3 _=>?_;refine#[_,g1,.inl #[rfl,vs,wI.of g2],h2 d F R σ H _ _ _ s hw (λy d' v F' R' H' q c s' r=>?_) λC y d' F' R' H' q c s'=>?_]
 ·refine e2a4 (Co (i:=i) s') λa' Vd k1 k2 k3 k4=>?_;rw[g1]at k1;cases k1;obtain⟨c2,s2⟩:=k4 _ _<|yf k3<|.cons r .nil;exact#[a,Vd,v,rfl,rfl,k2,by rw[<- Paired.length k3];exact q.1,kn _ F' R' _ σ q.2 (Ch.trans s s'.tab c c2) s2<|Ag.refl _ _]
 ·refine e1a2 (wY (PO:=PO) s') λG g1 g2=>?_;exact ke C y _ G R' H' q (c.less g1) g2
end
def GW(X:Cx)(T:hJ)(ms:List Nat)(tg:iZ){D D1 α:Type}[Sls D][Sls D1][Rep α](g:D->α->D1):Prop :=
 ∃t,PG X tg t/\∀(d:D)(F R:Rg)(σ:St)(H:Hp)(x:α)(v:V)(Q:St->Hp->Prop),wz T F R H d σ->rp R H x v->(∀F' σ',(∀a,F' a->F a)->wz T F' R H (g d x) σ'->Ag ms σ σ'->Q σ' H)->t v σ H Q
section
variable{D:Type}[Sls D]{α β:Type}[Rep α][Rep β]
def Ly{i:Nat}{τ0 D0 D1:Type}[Ow τ0][Sls D0][Sls D1][A:At i D τ0 D0][U:Pt i D0 α D1]{F R:Rg}{H:Hp}{d:D}{σ:St}{x:α}{v:V}(s:wz T F R H d σ)(r:rp R H x v) :
  ∃F',(∀a,F' a->F a)/\wz T F' R H (U.put (A.hole d) x) (σ.set i<|↑v):=by
 have m:Nw T (λ_=>False) F R H x v:=#[#[λ_ z=>z,v,rfl,r],λ_ z=>z.elim,λ_ z=>z.elim,λz=>z];refine e1a2 (GN (i:=i) s m) λG g1 g2=>?_;exact#[G,λa h=>(g1 a h).elim (λz=>z.elim) id,g2]
def vH{x:Str}(i:Nat){τ0 D0 D1:Type}[Ow τ0][Sls D0][Sls D1][A:At i D τ0 D0][U:Pt i D0 α D1](hp:PG X 101 (DB i))(hm:i∉ms:=by decide):GW X T ms 101 (λ(d:D)(x:α)=>U.put (A.hole d) x) :=
 #[_,hp,λd F R σ H x v Q s r k=>by
  refine e1a2 (Ly (i:=i) s r) λF' f1 f2=>?_
  exact k F' _ f1 f2 (Ag.set hm)]
def Cp(i j:Nat)[Ow b][Ow c][Sls e][Sls f][Sls g][Sls m][A:At i D b e][U:Pt i e α f][n:At j f c g][o:Pt j g β m](p:PG X q (XX X.K 2<|Gv (DB i)<|Gv (DB j) XW))(t:i∉l)(y:j∉l) :
  GW X T l q (λ(d:D)(x:α×β)=>o.put (n.hole<|U.put (A.hole d) x.1) x.2) :=
 #[_,p,λd F R M H x v Q s r k=>by
  obtain⟨a,u,w,rfl,_,z,B,C⟩:=r;refine e1a2 (Ly (i:=i) s B) λN E G=>?_;refine e1a2 (Ly (i:=j) G C) λI J L=>?_
  exact#[a,[u,w],rfl,zu.of z,rfl,u,[w],rfl,w,[],rfl,rfl,k I _ (λa h=>E a (J a h)) L ((Ag.set t).trans (Ag.set y))]]
end
structure ZF{α:Type}[Rep α](J:It)(xs:List α)(Ps:Rg->Hp->Prop):Prop where
 go:∀{R:Rg} {H:Hp} {i:Nat},Ps R H->i<xs.length->J.go i H
 Jh:∀{R:Rg} {H:Hp} {i:Nat} {v:V} {H':Hp},Ps R H->(∀a,R a->H a≠none)->i<xs.length->J.Jh i H v H'->(H'=H\/∃p o,H p=none/\H'=upd H p o)/\∃x,xs[i]?=↑x/\rp R H' x v
 stop:∀{R:Rg} {H:Hp},Ps R H->J.stop xs.length H
def IW(X:Cx)(E:XK)(T:hJ)(O:List Nat)(P e:iZ){D B o:Type}[Sls D][Sls B][Rep o](k:B->List o->D)(w:D->(List o->B->Prop)->75->Prop):Prop :=
 ∃t,PI X P e t/\∀(d:D)(F R:Rg)(l:St)(H:Hp)(s:List o->B->Prop)(u:hJ->D->Prop)(v:It->Hp->Prop),wz T F R H d l->w d s u ->
  (∀p b J m j q x f c,s p b->Ch T F R H j f c->Std T j f c->DU j q x->rel x f c b l->ZF J p m->m f c ->
   (∀{G r z:Rg} {A I:Hp},m r A->(∀a,G a->r a)->(∀a,q a->¬G a)->Ext G r A z I->m z I) ->
   (∀L M n g h i,m g h->rel M g h L i->Ag O l i->DU n q M->rel n g h (k L p) i)->v J c) ->
  (∀C y N j f c,u C N->Ch T F R H j f c->wz T j f c N l->E (.ref C) ↑y c)->t l H v
section
variable{D:Type}[Sls D]{α β:Type}[Rep α][Rep β]
def Cr{K:hO}{xs:List α}{vs:List V}:ZF (ZA K a) xs (λR H=>H a=↑(.lst vs)/\Paired (rp R H) xs vs) where
 go:=λ{R H i} p h=>by refine e1a2 (xl (i:=i) (x:=xs[i]) p.2<|by simp[h]) λv e _=>?_;exact#[vs,v,wI.of p.1,e]
 Jh:=λ{R H i v H'} p _ hi y=>by obtain⟨e,y⟩:=y;subst e;have y':=y vs<|wI.of p.1;refine e1a2 (xl (i:=i) (x:=xs[i]) p.2<|by simp[hi]) λu e r=>?_;rw[y']at e;cases e;exact#[.inl rfl,_,by simp[hi],r]
 stop:=λ{R H} p=>#[vs,wI.of p.1,by rw[Paired.length p.2];exact hV _]
def wu{w:Wf D (List α) D}(h:EW X E T e w):IW X E T is tg e (λ(b:D)(_:List α)=>b) w:=by refine e1a2 h λt h1 h2=>?_;refine#[_,Hf h1,λd F R σ H Kn Ke Rk s hw kn ke=>h2 d F R σ H _ _ _ s hw (λxs d' v F' R' H' q c s' r=>?_) ke];obtain⟨a,vs,rfl,r1,r2,r3⟩:=r;refine#[a,rfl,#[vs,wI.of r2],kn xs d' _ (λR H=>(H a=↑(.lst vs)/\Paired (rp R H) xs vs)/\¬R a) F' (λ_=>False) F' R' H' q c s'.Hy (two_nil F') s'.rel #[λp=>Cr.go p.1,λp=>Cr.Jh p.1,λp=>Cr.stop p.1] #[#[r2,r3],r1] (λp gs nf ex=>?_) λb' G2 Xi KA Q1 σ' p h g t=>Sls.fq h<|two_eq t λ_ z=>z];have na:¬_:=λz=>p.2<|gs a z;exact#[#[ex.keep a _ na p.1.1,wE (ex.wide gs) p.1.2],ex.not p.2 p.1.1]
def Lz{x:Str}(i:Nat){B:Type}[Sls B][A:At i D (OL α) B][U:Pt i B (OL α) D](hn:PE X 101 (vT i))(hi:i∈is):IW X E T is tg 101 (λ(b:B)(xs:List α)=>U.put b #[xs]) (λ(d:D)(Kn:List α->B->Prop) _=>Kn (A.get d).l<|A.hole d):=by refine⟨_,Hf hn,λd F R σ H Kn Ke Rk s hw kn ke=>?_⟩;obtain⟨v,F1,F2,h1,h2,⟨a,vs,rfl,h4,h5,h6⟩,h7⟩:=A.take s.rel;refine#[_,h1,a,rfl,#[vs,wI.of h5],kn _ _ _ (λR H=>H a=↑(.lst vs)/\Paired (rp R H) (A.get d).l vs) F F1 F2 R H hw 67 s.Hy h2 h7 Cr #[h5,h6] (λp gs nf ex=>#[ex.keep a _ (nf a<|(h4 a).mpr rfl) p.1,wE (ex.wide gs) p.2]) λb' G2 Xi KA Q1 σ' p h g t=>?_];exact Pt.same (A:=U) h (by rw[g.2 i hi];exact h1) t #[a,vs,rfl,h4,p.1,p.2]
noncomputable def zb(a b:Int):List Int:=(iG (b-a).toNat).map λ(i:Nat)=>a+(i:Int)
def xf(a b:Int):(zb a b).length=(b-a).toNat:=by unfold zb;rw[h8,lU]
def Ve{a b:Int}{i:Nat}(h:i<(b-a).toNat):(zb a b)[i]?=↑(a+(i:Int)):=by unfold zb;rw[jU,uj h];rfl
def GO{lo hi:Int}:ZF (X1 lo (hi-lo).toNat) (zb lo hi) (λ_ _=>True) where
 go:=λ{R H i} _ h=>by rw[xf]at h;exact h
 Jh:=λ{R H i v H'} _ _ hi y=>by obtain⟨e,y⟩:=y;subst e y;rw[xf]at hi;exact#[.inl rfl,_,Ve hi,rfl]
 stop:=λ{R H} _=>by rw[xf];exact hV _
def xF(m:Gl X "range")(n:X.mg "range"=none)(o:EW X E T a u)(w:hR [a] X.env=85::hR [] X.env:=by rfl)(e:hR [a] X.env=[85]:=by rfl) :
  IW X E T is P (.Call (.Name "range" p) [a] [] pos) (λ(b:D)(_:List Int)=>b) (cK u λk j f=>(-(2 ^ 62)<=j/\j<2 ^ 62)/\k (zb 0 j) f):=by
 refine e1a2 o λt x y=>?_;refine#[_,Of m n (vq x vF w) e,λd F R A H k Q S s B C G=>y d F R A H _ _ _ s B (λj f v i I J q c l r=>?_) G];subst r;refine#[j,rfl,q.1.1,q.1.2,?_];have:=C (zb 0 j) f (X1 0 (j-0).toNat) (λ_ _=>True) i (λ_=>False) i I J q.2 c l.Hy (two_nil i) l.rel GO trivial (λ_ _ _ _=>trivial) λU W L M N O p h g t=>Sls.fq h<|two_eq t λ_ z=>z;rw[Int.sub_zero]at this;exact this
def OR(hg:Gl X "range")(hm:X.mg "range"=none)(L:EW X E T a M)(N:EW X E T b O)(m:∀{A:TA},PA X [a,b] A->PI X P (.Call (.Name "range" p) [a,b] [] pos) (WX A))
 (Q:hR [a,b] X.env=85::hR [b] X.env:=by rfl) (n:hR [b] X.env=(false,eval b X.env)::hR [] X.env:=by rfl) :
    IW X E T is P (.Call (.Name "range" p) [a,b] [] pos) (λ(b:D)(_:List Int)=>b) (cB M O λi B j e=>(-(2 ^ 62)<=i/\i<2 ^ 62/\-(2 ^ 62)<=j/\j<2 ^ 62)/\B (zb i j) e):=by
  obtain⟨t,S,U⟩:=L
  obtain⟨tb,W,Y⟩:=N
  refine#[_,m<|vq S (vq W vF n) Q,λd F R G H B Ke Rk s Z kn I=>U d F R G H _ _ _ s Z (λi d1 u F1 R1 H1 q1 J o r1=>?_) I]
  refine Y d1 F1 R1 G H1 _ _ _ o q1 (λj e v f w x q c l r=>?_) λC y e f w x k c l=>I C y e f w x k (Ch.trans s o.tab J c) l
  subst r;subst r1
  exact#[i,j,rfl,q.1,kn (zb i j) e (X1 i (j-i).toNat) (λ_ _=>True) f (λ_=>False) f w x q.2 (Ch.trans s o.tab J c) l.Hy (two_nil f) l.rel GO trivial (λ_ _ _ _=>trivial) λb' G2 aa ab ae af p h g t=>Sls.fq h<|two_eq t λ_ z=>z]
end
def HF{α B PO τ:Type}(b:α->B->(B->Prop)->105->91->Prop):List α->B->(B->Prop)->105->91->Prop
 | [],d,Kn,_,_=>Kn d
 |x::xs,d,Kn,Kr,Ke=>b x d (λd'=>HF b xs d' Kn Kr Ke) Kr Ke
section
variable{D B D1 D2 PO τ α:Type}[Sls D][Sls B][Sls D1][Sls D2][Sls PO][Ow τ][Rep α]
def Ch.big(c:Ch T F R H d e f)(g:∀a,F a->G a):Ch T G R H d e f:=#[λb o n m h=>c.keep b o (λz=>n<|g b z) m h,c.AE,λa h=>(c.yL a h).elim (λz=>.inl<|g a z) .inr,λa h n=>c.left a h λz=>n<|g a z]
def Ch.Q7(t:DU F F1 d)(c:Ch T d R H e f g):Ch T F R H (λa=>F1 a\/e a) f g:=#[λb o n m h=>c.keep b o (λz=>n<|(t.all b).mpr<|.inr z) m h,c.AE,λa h=>h.elim (λz=>.inl<|(t.all a).mpr<|.inl z) λz=>(c.yL a z).elim (λz=>.inl<|(t.all a).mpr<|.inr z) .inr,λa h n=>c.left a h λz=>n<|(t.all a).mpr<|.inr z]
def Ch.trans'{j:Rg}{i k:Hp}(s:Std T F R H)(m:TabAt i T)(a:Ch T F R H l p i)(b:Ch T l p i r j k):Ch T F R H r j k:=by
 have f:∀c,¬F c->H c≠none->¬l c:=λc n h z=>by
  rcases a.yL c z with q|q
  ·exact n q
  ·exact h q
 have d:∀c,i c=none->¬(F c)->H c=none:=λc h n=>by
  cases e:H c with
  |none=>rfl
  |some o =>
   have u:c≠T:=λz=>by rw[z]at h;exact zB m h
   rw[a.keep c o n u e]at h;cases h
 refine#[λc o n t h=>b.keep c o (f c n<|by rw[h];simp) t<|a.keep c o n t h,λc h=>?_,λc h=>?_,λc h n=>b.left c (a.left c h n)<|f c n<|s.xD c h]
 ·rcases b.AE c h with q|q
  ·exact a.AE c q
  ·by_cases g:F c
   ·exact .inl<|s.sub c g
   ·exact .inr<|d c q g
 ·rcases b.yL c h with q|q
  ·exact a.yL c q
  ·by_cases g:F c
   ·exact .inl g
   ·exact .inr<|d c q g
def drop_cons{α:Type}{a:List α}{i:Nat}{x:α}(h:a[i]?=↑x):a.drop i=x::a.drop (i+1):=by have b:=(List.getElem?_eq_some_iff.mp h);rw[oA b.1,b.2]
def Ag.sub(a:Ag c d b)(h:∀i∈e,i∈c):Ag e d b:=#[a.1,λi f=>a.2 i<|h i f]
@[reducible] def cF{D B D1 D2 α τ PO:Type}(w:D->(List α->B->Prop)->75->Prop)(v:D1->(D2->Prop)->105->91->Prop)(g:B->α->D1)(k:B->List α->D)(f:D2->B)(j:D->PO):D->(D->Prop)->105->91->Prop:=λd i c a=>w d (λh b=>HF (λx b e c a=>v (g b x) (λl=>e<|f l) c a) h b (λm=>i<|k m h) c a) λC n=>a C<|j n
def wS{I:B->List α->D}{wi:D->(List α->B->Prop)->75->Prop}{g:B->α->D1}{wb:D1->(D2->Prop)->105->91->Prop}[Gf:Fg D2 B][J:Pj D PO n](dp:Uk PO ms n)(hp:r9 58 X.A X.env X.xe)(hc:X.calm=true)
 (hi:IW X E T is tg iter I wi) (hg:GW X T mb tg g) (hb:SW X E T mb n body wb) (h1:∀i∈ms,i∈mb) (h2:∀i∈is,i∈mb) (hs:∀x,kH iter X.env x=pure x:=by intro _;rfl) :
    S1 X E T ms n (.For tg iter body [] pos) (cF wi wb g I Gf.fg J.pj):=by
  refine e1a2 hi λti i1 i2=>?_
  refine e1a2 hg λaq g1 g2=>?_
  refine e1a2 hb λtb Q b2=>?_
  refine#[_,P6 hp hc i1 g1 Q hs,λd F R σ H Kn Kr Ke En s hw kn kr ke=>?_]
  refine i2 d F R σ H _ _ _ s hw (λS b Jt Ps F' U F2 R' H' q c s' tw hr ip ps pk pb=>?_) λC y d' F' R' H' q c s'=>?_
  · -- the an
    refine#[λi m l N=>m=S.length-i/\i<=S.length/\∃Q G r j,Ch T F' R' H' G j N/\Std T G j N/\DU G U r/\rel r j N Q l/\Ps j N/\Ag mb σ l/\HF (λx b aa Kr Ke=>wb (g b x) (λd2=>aa (Gf.fg d2)) Kr Ke) (S.drop i) Q (λb'=>Kn (I b' S)) Kr Ke,
      #[_,rfl,jp _,b,F',F2,R',Ch.refl _ _ _ _,s',tw,hr,ps,Ag.refl _ _,q],?_]
    rintro i m l N ⟨rfl,hi,Q,G,r,j,c1,O,W,r1,p1,a1,w1⟩
    have cc:=Ch.trans s s'.tab c c1
    by_cases ab:i<S.length
    · refine .inr #[ip.go p1 ab, λae L => ∃b2 G2 ag R2, Ch T F' R' H' G2 R2 L /\ Std T G2 R2 L /\ DU G2 U ag /\ rel ag R2 L b2 ae /\ Ps R2 L /\ Ag mb σ ae /\ HF (λx b aa Kr Ke => wb (g b x) (λd2 => aa<|Gf.fg d2) Kr Ke) (S.drop<|i+1) b2 (λb' => Kn<|I b' S) Kr Ke, λae L p => #[S.length-(i+1), by omega, rfl, ab, p], λx L y => ?_]
      obtain⟨hH,x',ex,rx⟩:=ip.Jh p1 O.xD ab y
      -- the ao af the Y step
      have ai:Ch T G j N G j L/\Std T G j L/\rel r j L Q l/\Ps j L:=by
        rcases hH with e|⟨p,o,hp,e⟩
        · subst e; exact#[Ch.refl _ _ _ _, O, r1, p1]
        · subst e
          have k:∀b u,N b=↑u->upd N p o b=↑u:=λb u e=>by rw[vh<|vv e hp];exact e
          have ex:Ext (λ_=>False) j N j (upd N p o):=#[λb u _ e=>k b u e,λa h=>.inl h]
          refine#[#[λb u _ _ e=>k b u e,λa h=>.inl h,λa h=>.inl h,λa h _=>h],#[O.sub,λa z=>?_,?_,O.v8,O.vV],Sls.st r1 ex (λ_ z=>z.elim)<|λ_ _ z=>z,pk p1 (λ_ z=>z.elim) (λ_ _ z=>z) ex]
          · cases e : N a with
            |none=>exact iq e<|O.xD a z
            |some u=>rw[k a u e];simp
          · refine e1a2 O.tab λqs e t => ?_
            exact#[qs,k _ _ e,t]
      obtain⟨c2,M,r2,p2⟩:=ai
      have P:∀a,r a->G a:=λa h=>(W.all a).mpr<|.inr h
      have S2:wz T r j L Q l:=#[r2,λa h=>M.sub a<|P a h,M.xD,M.tab,M.v8,λh=>M.vV<|P T h]
      rw[drop_cons ex]at w1
      refine g2 Q r j l L x' x _ S2 rx λF3 aj f3 S3 a3=>?_
      have ah:=Ch.trans' s' O.tab c1 c2
      have Z:=Ch.trans s s'.tab c ah
      have t3:∀a,U a->F3 a->False:=λa h k=>W.yG a h<|f3 a k
      refine b2 _ F3 j aj L _ Kr Ke _ S3 w1 (λd2 F4 R4 H4 ar q4 c4 f a4=>?_) (λx p' v M1 M2 R4 H4 q4 c4 f n4=>?_) λC y p' F4 R4 H4 q4 c4 f=>?_
      · refine e1a2 (Gf.le f.rel) λF5 f5 r5 => ?_
        have t4:∀a,U a->F4 a->False:=λa h k=>by
          rcases c4.yL a k with z|z
          · exact t3 a h z
          · exact M.xD a (M.sub a<|(W.all a).mpr<|.inl h) z
        have ak:Ch T G j L (λa=>U a\/F5 a) R4 H4:=(Ch.Q7 (F1:=U) (F:=λa=>U a\/F3 a) #[λ_=>Iff.rfl,t3]<|c4.less f5).big λa h=>h.elim (λz=>(W.all a).mpr<|.inl z) λz=>P a<|f3 a z
        have al:∀a,U a->R4 a:=λa h=>c4.left a (M.sub a<|(W.all a).mpr<|.inl h) λz=>t3 a h z
        refine#[Gf.fg d2,λa=>U a\/F5 a,F5,R4,Ch.trans' s' M.tab ah ak,#[λa h=>h.elim (al a) λz=>f.sub a<|f5 a z,f.xD,f.tab,f.v8,λh=>h.elim (λz=>M.vV<|(W.all T).mpr<|.inl z) λz=>f.vV<|f5 T z],⟨λ_=>Iff.rfl,λa h k=>t4 a h<|f5 a k⟩,r5,?_,(a1.trans a3).trans a4,q4]
        exact pk p2 (G:=λa=>F3 a\/a=T) (λa h=>h.elim (S3.sub a) λz=>by rw[z];exact M.v8) (λa h z=>z.elim (t3 a h) λz=>M.vV<|(W.all T).mpr<|.inl<|by rw[<- z];exact h) c4.ext
      · refine kr x p' v M1 M2 R4 H4 q4 (Ch.trans s M.tab Z<|c4.big λa h => P a<|f3 a h) #[dp.dp ((a1.trans a3).sub h1) f.rel, f.sub, f.xD, f.tab, f.v8, f.vV] n4
      · exact ke C y p' F4 R4 H4 q4 (Ch.trans s M.tab Z<|c4.big λa h => P a<|f3 a h) #[dp.dp ((a1.trans a3).sub h1) f.rel, f.sub, f.xD, f.tab, f.v8, f.vV]
    · have e : i = S.length := by omega
      subst e
      rw[vc]at w1
      exact .inl #[ip.stop p1,kn _ G j N l w1 cc #[pb Q r G j N l p1 r1 (a1.sub h2) W,O.sub,O.xD,O.tab,O.v8,O.vV]<|a1.sub h1]
  · refine e1a2 (wY (PO := PO) s') λG g1 g2 => ?_
    exact ke C y _ G R' H' q (c.less g1) g2
end
end WL
namespace L2
open PySem PySem.Spec PyProof.Rows
section
variable{X:Cx}{elt iter tg:iZ}{scope:mB}{cl:List (Str×hJ)}{T Fr:List Str}{idx:List Nat}{wi:TI}{pos:Pos}{ifs:List iZ}
def DI{pins:List (hJ×Obj)}{σ:St}{s2:ic}{H2:Hp}{J:It}{fp:List hJ}{it:hJ}{tn:Nat->ja->Prop}{E:ci->ic->Prop}{RR:ci->hJ->Result->ic->Prop}{P:List V->Hp->Prop}(hcm:X.calm=true)
  (B:zn X scope cl T Fr idx) 
  (I2:Inv X pins σ H2 s2) (Tn:Turn X.prog X.w X.K tg J fp it tn) (st2:tn 0 s2.heap) (f2:∀b∈fp,BN X pins H2 b)
  (hb:∀s₀ H₀ C ex pn,∃(g:TG)(tt:TT)(te:TE),(PG (FV X scope cl (T++Fr) s₀ H₀ C ex pn) tg g/\Yt (FV X scope cl (T++Fr) s₀ H₀ C ex pn) ifs tt/\PE (FV X scope cl (T++Fr) s₀ H₀ C ex pn) elt te)/\∃W:Nat->Nat->List V->St->Hp->Prop,(∃m,W 0 m [] (xJ T idx σ) H2)/\∀i m ys σ' H,W i m ys σ' H->(J.stop i H/\P ys H)\/(J.go i H/\ys.length<hX/\∀x H',J.Jh i H x H'->g x σ' H' λYJ H2=>tt YJ H2 λb H3=>if b=true then te YJ H3 λy H4=>∃m',m'<m/\W (i+1) m' (ys++[y]) YJ H4 else ∃m',m'<m/\W (i+1) m' ys YJ H3))
  (hRR:∀(D C:hJ)(s':ic)(H':Hp)(ys:List V),H' D=none->P ys H'->Inv X pins σ (upd H' D<|.lst ys) s'->(∃m,s'.heap.Ns C m)->(upd H' D<|.lst ys) C=none->C≠X.env.locals->X.s₀.heap.objs.size<=C->(∀x c,X.env.cells.lookup x=↑c->c≠C)->(∀p∈X.pn++pins,p.1≠C)->RR (.ref D) C (.ok .next) s') :
  ii 58 X.A (newList []) (λacc a2N=>ii 58 X.A (newFunctionEnv scope X.env.globals cl [] X.env.qual none .none ↑X.env) (λcenv a2O =>
   mX 58 X.A (.compStart 114 0 (.ref it) acc { cenv with scope:=ph scope X.env}) (RR acc cenv.locals) a2O) E a2N) E s2:=by
 refine i8<|wpAny_newFunctionEnv B.BV (by intro y hy;simp at hy) (λh4 ns4 sb4=>?_) B.kind;have hk3:∀b o,s2.heap.get? b=↑o->(s2.heap.push 86).get? b=↑o:=λb o e=>ce _ e;have oD3:(s2.heap.push 86).get? ⇑s2=some 86:=il _ rfl;have sz3:(s2.heap.push 86).objs.size=⇑s2+1:=jR _ _;generalize s2.heap.push 86=h3 at ns4 sb4 hk3 oD3 sz3 ⊢;have I3:Inv X pins σ H2 { s2 with heap:=h3}:=I2.kept (t':=s2.toks) hk3;have Q8:H2 ⇑s2=none:=I2.v0.fresh<|hV _;have YK:∀b o,h3.get? b=some o->h4.get? b=some o:=λb o e=>sb4.extBut b o (iu<|ie e)<|ce _ e;have Q9:H2 h3.objs.size=none:=I3.v0.fresh<|hV _;have a0y:⇑s2≠h3.objs.size:=by rw[sz3];exact iu<|jM _
 -- facts about D,C,fp in X
 have fD:BN X pins H2 ⇑s2:=I2.He (hV _) Q8;have fC:BN X pins H2 h3.objs.size:=I3.He (hV _) Q9
 have JV:∀b∈⇑s2::fp,BN X pins H2 b/\b≠h3.objs.size:=λb zF=>by
  rcases List.mem_cons.mp zF with e|e
  ·subst e;exact#[fD,a0y]
  ·refine#[f2 b e,?_];obtain⟨o,ho,_⟩:=Tn.obj 0 _ st2 b e;exact iu<|ie<|hk3 b o ho
 -- the a1Q context
 generalize HG:FV X scope cl (T++Fr) { s2 with heap:=h3} H2 h3.objs.size (⇑s2::fp) (X.pn++pins)=X';obtain⟨g,tt,te,⟨hG,hT,hE⟩,W,w0,turn⟩:=hb { s2 with heap:=h3} H2 h3.objs.size (⇑s2::fp) (X.pn++pins);rw[HG]at hG hT hE
 have ok':X'.Ok:=by
  subst HG
  exact {
   mod:=I3.ok.mod
   kind:=B.kind
   glob:=I3.ok.glob
   blt:=I3.ok.blt
   above:=hV _
   inj:=λx y c e1 e2=>I3.ok.inj x y c (B.sub x c e1)<|B.sub y c e2
   has:=λx h=>B.has h
   PP:=λx c h=>by cases h
   hd:=I3.ok.hd
   frames:=I3.ok.frames
   CV:=.inl rfl
   Us:=λb zF=>#[(JV b zF).2,λx c e=>(JV b zF).1.2.2.2.2.1 x c<|B.sub x c e]
   bs:=λb o e=>I3.bs b o e
   Jo:=iP I3.ok.Jo I3.sz
   DR:=λb o e zF=>by
    rcases(JV b zF).1.2.2.2.1 with z|z
    ·exact I3.ok.DR b o e z
    ·exact iq (iB (ie e)<|iP I3.ok.Jo z)<|kf _
   Es:=λb zF hf=>by
    rcases List.mem_cons.mp (I3.Et b hf) with z|z
    ·exact(JV b zF).1.2.1 z
    ·exact(JV b zF).1.2.2.1 z
   yT:=I3.stack
   Kz:=λb zF=>I3.MV b zF}
 have xA:X'.A=X.A:=by subst HG;rfl
 have xp:X'.prog=X.prog:=by subst HG;rfl
 have xw:X'.w=X.w:=by subst HG;rfl
 have xK:X'.K=X.K:=by subst HG;rfl
 have xc:X'.calm=true:=by subst HG;exact hcm
 have xe:X'.env=tP scope cl h3.objs.size X.env:=by subst HG;rfl
 have I4:Inv X' [] (xJ T idx σ) H2 { s2 with heap:=h4}:=by
  have hN:X'.N=T++Fr:=by subst HG;rfl
  refine#[ok',by subst HG;rfl,I3.bare,by subst HG;exact Un.kept YK,?_,?_,by subst HG;exact Q9,?_,?_,?_,?_]
  ·obtain⟨m,hn,hl⟩:=I3.loc;refine#[_,by rw[xe];exact ns4,λi x v e1 e2 e3=>?_];rw[hN]at e1;unfold xJ at e2;by_cases hi:i<T.length
   ·rw[mo (by rw[h8];exact hi),jU,jL hi]at e2;cases e2
   ·rw[kg q0a]at e1;rw[kg (by rw[h8];lia),h8,jU]at e2;obtain⟨i0,c,q1,q2,q3,q4,q5⟩:=B.fr _ x e1;rw[q1]at e2;have e2':(σ[i0]?).join=↑v:=jj e2
    have a2P:σ[i0]?=↑(some v):=by
     cases z:σ[i0]? with
     |none=>rw[z]at e2';cases e2'
     |some y=>rw[z]at e2';have:y=↑v:=e2';rw[this]
    obtain⟨u,r,l⟩:=hl i0 x v q2 a2P (by
     rcases q3 with z|z
     ·exact .inr<|.inl z
     ·exact .inr (.inr z))
    refine#[u,r,?_];rcases l with⟨k,_⟩|⟨k,c',e,z⟩
    ·rcases q3 with y|y<;>(rw[y]at k;cases k)
    ·have:=B.sub x c q4;rw[e]at this;cases this;refine .inr #[by rw[xe];exact q5,_,by rw[xe];exact q4,?_];obtain⟨o,ho,hd⟩:=z;exact#[o,YK _ _ ho,hd]
  ·intro x c e;rw[xe]at e;obtain⟨v,o,ho,hd⟩:=I3.cell x c<|B.sub x c e;exact#[v,o,YK _ _ ho,hd]
  ·intro x c e;rw[xe]at e;exact I3.yE x c<|B.sub x c e
  ·intro p hp;have hp':p∈X.pn++pins:=by subst HG;simpa using hp
   obtain⟨a1,a2,a3,a4,a5⟩:=I3.pin p hp';refine#[YK _ _ a1,a2,?_,?_,a5]
   ·rw[xe];exact iu<|ie a1
   ·subst HG;intro hf;rcases List.mem_cons.mp (I3.Et _ hf) with z|z
    ·exact a3 z
    ·exact a4 z
  ·subst HG;exact I3.v0.kept YK
  ·rw[hN];unfold xJ;rw[io,io,h8,h8,B.len]
 have oD4:=YK _ _ oD3;have st4:tn 0 h4:=Tn.keep _ _ _ st2 λb _ o e=>YK b o<|hk3 b o e
 -- a2R stays true of the YL objects and of D
 have a0z:∀{H':Hp} {pins':List (hJ×Obj)},(∀p∈pins',p.1∉⇑s2::fp)->(∀b∈⇑s2::fp,H' b=none)->∀b∈⇑s2::fp,BN X' pins' H' b:=by
  intro H' pins' hp hn b zF;subst HG;obtain⟨⟨z1,z2,z3,z4,z5,z6⟩,z7⟩:=JV b zF;refine#[hn b zF,z7,?_,.inl zF,λx c e=>z5 x c<|B.sub x c e,λp hp'=>?_]
  ·intro hf;rcases List.mem_cons.mp (I3.Et b hf) with z|z
   ·exact z2 z
   ·exact z3 z
  ·rcases List.mem_append.mp hp' with q|q
   ·exact z6 p q
   ·intro e;exact hp p q (by rw[e];exact zF)
 -- the end
 have fin:∀(s5:ic)(PR:St)(H5:Hp)(ys:List V)(Ap:List ci)(nD:Nat),Inv X' [] PR H5 s5->(∀b∈⇑s2::fp,H5 b=none)->s5.heap.get? ⇑s2=some 76->Vals ys Ap->ys.length<=hX->P ys H5->RR (.ref ⇑s2) h3.objs.size (.ok .next) s5:=by
  intro s5 PR H5 ys Ap nD I5 n5 oD5 v5 l5 q5;have D5:=n5 _ hW;have YM:Un (zJ X.stack) (⇑s2::fp) H2 H5 h3 s5.heap:=by have z:=I5.base;subst HG;exact z
  have C5:H5 h3.objs.size=none:=by have z:=I5.free;rw[xe]at z;exact z
  have a2S:yk X.prog X.w (upd H5 ⇑s2<|.lst ys) s5.heap:=yk.Xd (by have z:=I5.v0;rw[xp,xw]at z;exact z) D5 #[l5,Ap,nD,v5,oD5]
  have u5:Un (zJ X.stack) (⇑s2::fp) H2 (upd H5 ⇑s2<|.lst ys) h3 s5.heap:=by have nD':∀b u,H2 b=some u->b≠⇑s2:=λb u e=>vv e Q8;exact#[YM.keep,YM.slot,λb o e n hx=>by rw[vh<|λz=>hx<|by rw[z];exact hW];exact YM.free b o e n hx,YM.there,λb xs e=>by rw[vh<|nD' b _ e];exact YM.B4 b xs e,λb o u e=>by rw[vh<|nD' b _ e];exact YM.BL b o u e,λb ps e=>by rw[vh<|nD' b _ e];exact YM.BM b ps e]
  have os5:s5.os=s2.os:=by have z:=I5.os;subst HG;exact z
  have IX:Inv X pins σ (upd H5 ⇑s2<|.lst ys) s5:=Inv.WR (s:={ s2 with heap:=h3}) I3 os5 u5 a2S I5.bare λb zF=>by obtain⟨⟨z1,z2,z3,z4,z5,z6⟩,z7⟩:=JV b zF;exact#[z4,z2,z5,z6]
  obtain⟨m5,ns5,_⟩:=I5.loc;rw[xe]at ns5;refine hRR ⇑s2 h3.objs.size s5 H5 ys D5 q5 IX #[m5,ns5] (by rw[vh<|Ne.symm a0y];exact C5) fC.2.1 (iP I3.sz<|hV _) fC.2.2.2.2.1 fC.2.2.2.2.2
 obtain⟨m0,w0⟩:=w0
 have loop:mX 58 X.A (.compLoop 114 0 (.ref it) (.ref ⇑s2)<|tP scope cl h3.objs.size X.env) (RR (.ref ⇑s2) h3.objs.size) { s2 with heap:=h4}:=by
  refine QL (λn s5=>∃i ys Ap nD PR H5,Inv X' [] PR H5 s5/\tn i s5.heap/\(∀b∈⇑s2::fp,H5 b=none)/\s5.heap.get? ⇑s2=some 76/\Vals ys Ap/\ys.length<=hX/\W i n ys PR H5) ?_ m0
   #[0,[],[],0,xJ T idx σ,H2,I4,st4,λb zF=>(JV b zF).1.1,oD4,.nil,jp _,w0]
  rintro n s5 ⟨i,ys,Ap,nD,PR,H5,I5,PQ,n5,oD5,v5,l5,w5⟩;have f5:=a0z (pins':=[]) (λp hp=>by cases hp) n5;rcases turn i n ys PR H5 w5 with⟨stop,q⟩|⟨go,ll,step⟩
  ·have z:=Tn.done X' xp xw xK xc i [] s5 PR H5 (λ_ _=>False) I5 (λb zF=>f5 b<|hZ _ zF) PQ stop;rw[xA]at z
   -- D is not touched by the end
   have z2:=Tn.done X' xp xw xK xc i [(⇑s2,76)] s5 PR H5 (λ_ _=>False) (I5.zM λp hp=>by
    obtain rfl:=List.mem_singleton.mp hp;have YN:=f5 _ hW
    exact#[oD5,YN.1,YN.2.1,YN.2.2.1,λv z=>nomatch z]) (λb zF=>by
     obtain⟨a1,a2,a3,a4,a5,a6⟩:=f5 b<|hZ _ zF;refine⟨a1,a2,a3,a4,a5,λp hp=>?_⟩;rcases List.mem_append.mp hp with y|y
     ·exact a6 p<|jo _ y
     ·obtain rfl:=List.mem_singleton.mp y;intro e;obtain⟨o,ho,_⟩:=Tn.obj 0 _ st2 b zF
      exact kf _ (iB (ie ho) (qQ (show ⇑s2=b from e)))) PQ stop
   rw[xA]at z2;refine vX z2 λr s6 z9=>e0a2 z9 λhr I6=>?_;subst hr;have p6:=I6.pin _<|iD _<|List.mem_singleton.mpr rfl;exact fin s6 PR H5 ys Ap nD (I6.zM λp hp=>by cases hp) n5 p6.1 v5 l5 q
  ·have YN:=f5 _ hW
   have I5p:=I5.zM (pins':=[(⇑s2,76)]) λp hp=>by obtain rfl:=List.mem_singleton.mp hp;exact#[oD5,YN.1,YN.2.1,YN.2.2.1,λv z=>nomatch z]
   have fpD:∀b∈fp,b≠⇑s2:=λb zF=>by obtain⟨o,ho,_⟩:=Tn.obj 0 _ st2 b zF;exact iu<|ie ho
   have fpP:∀{H':Hp},(∀b∈fp,H' b=none)->∀b∈fp,BN X' [(⇑s2,76)] H' b:=by
    intro H' hn b zF;obtain⟨a1,a2,a3,a4,a5,a6⟩:=f5 b<|hZ _ zF;refine⟨hn b zF,a2,a3,a4,a5,λp hp=>?_⟩;rcases List.mem_append.mp hp with y|y
    ·exact a6 p<|jo _ y
    ·obtain rfl:=List.mem_singleton.mp y;exact Ne.symm<|fpD b zF
   have z:=Tn.item X' xp xw xK xc i _ s5 PR H5 (λ_ _=>False) I5p (fpP λb zF=>n5 b<|hZ _ zF) PQ go;rw[xA]at z;refine vX z λr s6 z9=>e1a2 z9 λu hr h6=>?_;subst hr;refine vX h6 λ_ s7 z9=>e2a5 z9 λx H7 I7 r7 y7 st7 n7=>?_;have I7':=I7.pinned (fpP n7)<|Tn.obj _ _ st7;have xx:X'.xe=λ_ _=>False:=by subst HG;rfl
   have zG:=hG _ s7 PR H7 x u _ I7' r7<|step x H7 y7;rw[xp,xw,xA,xe,xx]at zG;refine vX zG λ_ s8 z9=>e2a2 z9 λYO H8 I8 q8=>?_;have zT:=hT _ s8 YO H8 _ I8 q8;rw[xp,xw,xA,xe,xx]at zT;refine vX zT λok s9 z9=>e1a2 z9 λH9 I9 q9=>?_
   -- a2R holds behind the turn
   have behind:∀{H':Hp} {s':ic},Inv X' ([(⇑s2,76)]++Eu fp s7.heap) YO H' s'->s'.heap.get? ⇑s2=some 76/\tn (i+1) s'.heap/\∀b∈⇑s2::fp,H' b=none:=by
    intro H' s' I';have pD:=I'.pin _<|iD _<|jo _<|List.mem_singleton.mpr rfl;refine⟨pD.1,Tn.keep _ _ _ st7 λb zF o e=>(I'.pin (b,o)<|iD _<|iD _<|xT zF e).1,λb zF=>?_⟩;rcases List.mem_cons.mp zF with e|e
    ·rw[e];exact pD.2.1
    ·obtain⟨o,e',_⟩:=Tn.obj _ _ st7 b e;exact(I'.pin (b,o)<|iD _<|iD _<|xT e e').2.1
   cases ok with
   |false =>
    rw[hI ik]at q9 ⊢;obtain⟨m',hm,w'⟩:=q9;obtain⟨b1,b2,b3⟩:=behind I9;exact#[m',hm,i+1,ys,Ap,nD,YO,H9,I9.zM (λp hp=>by cases hp),b2,b3,b1,v5,l5,w']
   |true =>
    rw[cr rfl]at q9 ⊢;have zE:=hE _ s9 YO H9 _ I9 q9;rw[xp,xw,xA,xe,xx]at zE;refine vX zE λy s10 z9=>e2a3 z9 λyv H10 I10 r10 z69=>e1a2 z69 λm' hm w'=>?_;obtain⟨b1,b2,b3⟩:=behind I10;have hlen:=v5.length;refine wpAny_list_append_plain (items:=Ap.toArray) #[nD,b1] (λh11 a2W a0B=>?_) (by rw[im];lia);obtain⟨nD',o11⟩:=a2W;have a2X:Inv X' [] YO H10 s10:=I10.zM λp hp=>by cases hp
    obtain⟨a1,a2,a3,a4,a5,a6⟩:=a0z (pins':=[]) (λp hp=>by cases hp) b3 _ hW;have I11:Inv X' [] YO H10 { s10 with heap:=h11}:=a2X.turned (t':=s10.toks) (λb o zF e=>(a0B.2 b zF).trans e) a1 a2 a4 a5 a6;refine#[m',hm,i+1,ys++[yv],Ap++[y],nD',YO,H10,I11,Tn.keep _ _ _ b2 λb zF o e=>(a0B.2 b<|fpD b zF).trans e,b3,by simpa using o11,v5.append<|.cons r10 .nil,by rw[io,iE];lia,w']
 exact codeAny_compStart_list loop<|Tn.self _ 0 _ _ _ st4 loop
def YQ(X:Cx)(elt tg:iZ)(ifs:List iZ)(scope:mB)(cl:List (Str×hJ))(T Fr:List Str)(idx:List Nat)(wi:TI):TE:=λl H Q=>wi l H λJ s=>∀a c C j k,∃(g:TG)(n:TT)(o:TE),(PG (FV X scope cl (T++Fr) a c C j k) tg g/\Yt (FV X scope cl (T++Fr) a c C j k) ifs n/\PE (FV X scope cl (T++Fr) a c C j k) elt o)/\∃W:Nat->Nat->List V->St->Hp->Prop,(∃m,W 0 m [] (xJ T idx l) s)/\∀i m e f H,W i m e f H ->
 (J.stop i H/\∀p,H p=none->Q (.ref p) (upd H p<|.lst e))\/(J.go i H/\e.length<hX/\∀x q,J.Jh i H x q->g x f q λd t=>n d t λb r=>if b=true then o d r λy u=>∃h,h<m/\W (i+1) h (e++[y]) d u else ∃h,h<m/\W (i+1) h e d r)
def Rc(c:X.calm=true)(k:PI X tg iter wi)(B:zn X scope cl T Fr idx) 
 (l:∀x,kH iter X.env x=pure x:=by intro _;rfl):PE X 114 (YQ X elt tg ifs scope cl T Fr idx wi):=by
  intro a s i H Q I h
  rw[eval_ListComp]
  refine pF (use:=none) rfl l B.a0r B.kind B.names<|vX (k a s i H _ I h) λv Y n=>vX n λr Z t=>?_
  obtain⟨it,fp,tn,J,H2,e,u,y,d,z,E⟩:=t
  subst e
  refine DI (RR:=λf C=>compPost 58 X.A X.xe none (EP X a i Q) f C) (P:=λj H=>∀p,H p=none->Q (.ref p) (upd H p<|.lst j)) c B u y d z E ?_
  intro D C F H' j G q L ⟨m,M⟩ N O R S U
  exact#[m,M,λh' W=>#[.ref D,_,L.turned (t':=F.toks) (λb o g e=>(W.2 b g).trans e) N O (.inr R) S U,rfl,q D G]]
def Vf(X:Cx)(elt tg:iZ)(ifs:List iZ)(scope:mB)(cl:List (Str×hJ))(T Fr:List Str)(idx:List Nat)(wi:TI)(j:Nat):TS:=λD k H=>wi k H λJ t=>∀a c C l n,∃(g:TG)(o:TT)(q:TE),(PG (FV X scope cl (T++Fr) a c C l n) tg g/\Yt (FV X scope cl (T++Fr) a c C l n) ifs o/\PE (FV X scope cl (T++Fr) a c C l n) elt q)/\∃W:Nat->Nat->List V->St->Hp->Prop,(∃m,W 0 m [] (xJ T idx k) t)/\∀i m e f H,W i m e f H ->
 (J.stop i H/\∀p,H p=none->D.nx (k.set j<|some<|.ref p) (upd H p<|.lst e))\/(J.go i H/\e.length<hX/\∀x r,J.Jh i H x r->g x f r λd u=>o d u λb s=>if b=true then q d s λy v=>∃h,h<m/\W (i+1) h (e++[y]) d v else ∃h,h<m/\W (i+1) h e d s)
set_option tactic.hygienic true in
def Re{j:Nat}{d:Pos}(O:X.N.Nodup)(R:X.N[j]?=↑y)(u:X.env.scope.names.lookup y=some .local)(g:kj 114 (some<|.Name y py) d.line X.env=pure true)
 (i:X.calm=true) (S:PI X tg iter wi) (B:zn X scope cl T Fr idx) 
 (U:∀x,kH iter X.env x=pure x:=by intro _;rfl):PS X (.Assign [.Name y py] 114 d) (Vf X elt tg ifs scope cl T Fr idx wi j):=by
  intro c s E H D I h
  rw[exec_Assign_Name_used _ _ _ _ g]
  refine am<|nZ<|am ?_
  refine am<|vX (pF (use:=some<|td (.Name y py) X.env) (Q:=λ_ f=>SP X c D .next f) rfl U B.a0r B.kind B.names<|vX (S c s E H _ I h) λv s1 W=>vX W λY s2 Z=>?_) λ_ f hq=>ap<|ap hq
  obtain⟨it,fp,tn,J,H2,e,I2,Tn,k,f2,hb⟩:=Z
  subst e
  refine DI (RR:=λl C=>compPost 58 X.A X.xe (some<|td (.Name y py) X.env) (λ_ f=>SP X c D .next f) l C) (P:=λF H=>∀p,H p=none->D.nx (E.set j<|some<|.ref p) (upd H p<|.lst F)) i B I2 Tn k f2 hb ?_
  intro G C f H' F hD q IX ⟨m,ns⟩ hC L c2 M c4
  refine wpAny_assign_Name<|Gu IX O R (.inl u) (v:=.ref G) rfl (λs3 I3 z9=>e1a2 z9 λa n ha=>?_)<|.inr u
  have r:C≠a:=by
    rcases ha with z|z
    · rw[z]; exact L
    · exact Ne.symm<|M _ _ z
  exact#[m,ns.sameBut n r,λh' sb=>#[_,_,I3.turned (t':=s3.toks) (λb o t e=>(sb.2 b t).trans e) hC L (.inr c2) M c4,q G hD]]
end
end L2
namespace WL
variable[L2.GX]
open PySem L2
open Rep (rp)
open Ow (sl)
open Sls (rel)
class Pre(k:Nat)(S:Type)[Sls S](Db:outParam Type)[Sls Db] where
 pre:S->Db
 suf:Db->S
 ok:∀{F R:Rg} {H:Hp} {s:S} {σ:St} (τ:St),τ.length=k->rel F R H s σ->rel F R H (pre s) (τ++σ)
 un:∀{F R:Rg} {H:Hp} {d:Db} {σ:St},rel F R H d σ->rel F R H (suf d) (σ.drop k)
 eta:∀d,pre (suf d)=d
 a0C:∀s,suf (pre s)=s
noncomputable instance pre0{S:Type}[Sls S]:Pre 0 S S:=#[id,id,λτ h r=>by rw[List.length_eq_zero_iff.mp h];exact r,λr=>r,λ_=>rfl,λ_=>rfl]
noncomputable instance preS{k:Nat}{S Db:Type}[Sls S][Sls Db][A:Pre k S Db]:Pre (k+1) S (Un×Db):=#[λs=>(#[],A.pre s),λd=>A.suf d.2,λ{F R H s σ} τ h r=>by
  cases τ with
  |nil=>cases h
  |cons v τ'=>exact#[v,τ'++σ,λ_=>False,F,rfl,two_nil F,λ_ z=>z,A.ok τ' (by simpa using h) r],
 λ{F R H d σ} r=>by
  obtain⟨v,σ',F1,F2,rfl,h2,h3,h4⟩:=r
  exact A.un<|Sls.fq h4<|two_eq h2 h3,
 λd=>by
  obtain⟨⟨⟩,d⟩:=d
  rw[A.eta],
 λs=>A.a0C s]
def Ct{α γ S:Type}(b:α->S->(Option γ->S->Prop)->Prop):List α->S->(List γ->S->Prop)->Prop
 | [],s,K=>K [] s
 |x::xs,s,K=>b x s λo s'=>Ct b xs s' λys UC=>K (o.toList++ys) UC
def TWs(X:Cx)(T:hJ)(a:List iZ){D:Type}[Sls D](w:Wf D Bool D):Prop :=
 ∃t,Yt X a t/\∀(d:D)(F R:Rg)(b:St)(H:Hp)(e:Bool->D->Prop)(Q:Bool->Hp->Prop),wz T F R H d b->w d e (λ_ _=>False) ->
  (∀x f g h c,e x f->Ch T F R H g h c->wz T g h c f b->Q x c)->t b H Q
abbrev XF:XK:=λ_ _ _=>False
def tws_nil[Sls D]:TWs X T [] (λ(d:D) a _=>a true d):=#[_,UX,λd F R e H a Q s b c=>c true d F R H b 67 s]
def tws_one{D:Type}[Sls D]{w:Wf D Bool D}(h:TW X XF T c w):TWs X T [c] w:=e1a2 h λt a b=> #[t,UY a,λd F R e H f Q s g i=>b d F R e H f _ Q s g i λ_ _ _ _ _ _ z=>z.elim]
section
variable{D B S B0 Db D1 PO τ α γ:Type}[Sls D][Sls B][Sls S][Sls B0][Sls Db][Sls D1][Sls PO][Ow τ][Rep α][Rep γ]
abbrev stepC(P:Pre k S Db)(a:Fg D1 Db)(g:Db->α->D1)(c:Wf D1 Bool D1)(d:Wf D1 γ D1):α->S->(Option γ->S->Prop)->Prop :=
 λx s K=>c (g (P.pre s) x) (λt b=>if t=true then d b (λy e=>K ↑y<|P.suf<|a.fg e) (λ_ _=>False) else K none (P.suf<|a.fg b)) λ_ _=>False
def GP[P:Pre k S Db][Gf:Fg D1 Db]{g:Db->α->D1}{wt:Wf D1 Bool D1}{we:Wf D1 γ D1}{J:It}{Ps:Rg->Hp->Prop}{L:List α}{F1 Fs Z:Rg}{Q:Hp}{σ:St}{s0:S}{K:List γ->S->Prop}{ag:List V->Hp->Prop}
  (hk:R.length=k) (ao:∀i,k<=i->i<k+idx.length->i∈mb)
  (hG:∀d f C I M,GW (FV X n cl (R++Fr) d f C I M) T mb tg g) (hT:∀d f C I M,TWs (FV X n cl (R++Fr) d f C I M) T aq wt) (hE:∀d f C I M,EW (FV X n cl (R++Fr) d f C I M) XF T ar we)
  (hz:L.length<=hX) (ip:ZF J L Ps) (ps:Ps Z Q) (pk:∀{G Ra Rb:Rg} {Ha Hb:Hp},Ps Ra Ha->(∀a,G a->Ra a)->(∀a,F1 a->¬G a)->Ext G Ra Ha Rb Hb->Ps Rb Hb)
  (s':Std T Fs Z Q) (U:∀a,F1 a->Z a/\¬Fs a/\a≠T) (au:rel Fs Z Q s0 (idx.map λi=>σ[i]?.join)) (hw:Ct (stepC P Gf g wt we) L s0 K)
  (av:∀E N F l r O,K E N->Ch T Fs Z Q F l r->Std T F l r->rel F l r N (idx.map λi=>σ[i]?.join)->Ps l r->Paired (rp l r) E O->ag O r) :
  ∀d f C I M,∃(g:TG)(tt:TT)(te:TE),(PG (FV X n cl (R++Fr) d f C I M) tg g/\Yt (FV X n cl (R++Fr) d f C I M) aq tt/\PE (FV X n cl (R++Fr) d f C I M) ar te)/\∃W:Nat->Nat->List V->St->Hp->Prop,(∃m,W 0 m [] (xJ R idx σ) Q)/\∀i m O ah H,W i m O ah H ->
   (J.stop i H/\ag O H)\/(J.go i H/\O.length<hX/\∀x Q,J.Jh i H x Q->g x ah Q λs Y=>tt s Y λb H3=>if b=true then te s H3 λy H4=>∃m',m'<m/\W (i+1) m' (O++[y]) s H4 else ∃m',m'<m/\W (i+1) m' O s H3):=by
 intro d f C I M;refine e1a2 (hG d f C I M) λaw g1 g2=>?_;refine e1a2 (hT d f C I M) λtt t1 t2=>?_;refine e1a2 (hE d f C I M) λte e1 e2=>?_;have aE:(xJ R idx σ).length=k+idx.length:=by unfold xJ;rw[io,h8,h8,hk]
 have aa:∀{w:St},Ag mb (xJ R idx σ) w->w.drop k=idx.map λi=>σ[i]?.join:=λ{w} a=>by
  apply qJ;intro j;rw[ur];by_cases hj:j<idx.length
  ·rw[a.2 (k+j)<|ao _ q0a q0a];unfold xJ;rw[kg (by rw[h8,hk];lia),h8,hk,Nat.add_sub_cancel_left]
  ·rw[kS (by have:=a.1;lia),kS<|by rw[h8];lia]
 refine#[aw,tt,te,#[g1,t1,e1],λi m O w r=>m=L.length-i/\i<=L.length/\∃N F l E,Ch T Fs Z Q F l r/\Std T F l r/\rel F l r (P.pre N) w/\Ps l r/\Ag mb (xJ R idx σ) w/\Paired (rp l r) E O/\E.length<=i/\Ct (stepC P Gf g wt we) (L.drop i) N (λws s'=>K (E++ws) s'),
  #[_,rfl,jp _,s0,Fs,Z,[],Ch.refl _ _ _ _,s',P.ok _ (by rw[h8,hk]) au,ps,Ag.refl _ _,.nil,jp _,by simpa using hw],?_]
 rintro i m O w r ⟨rfl,hi,N,F,l,E,c1,A,r1,p1,a1,pz,lz,w1⟩;have aG:=Paired.length pz;by_cases ab:i<L.length
 ·refine .inr #[ip.go p1 ab,q0a,λx Y y=>?_];obtain⟨hH,x',ax,rx⟩:=ip.Jh p1 A.xD ab y;have ay:∀{G l:Rg} {r:Hp},Ch T Fs Z Q G l r->∀a,F1 a->l a/\¬G a:=λc a h=>#[c.left a (U a h).1 (U a h).2.1,λz=>(c.yL a z).elim (U a h).2.1 λq=>s'.xD a (U a h).1 q]
  have az:Ch T F l r F l Y/\Std T F l Y/\rel F l Y (P.pre N) w/\Ps l Y/\Paired (rp l Y) E O:=by
   rcases hH with e|⟨p,o,hp,e⟩
   ·subst e;exact#[Ch.refl _ _ _ _,A,r1,p1,pz]
   ·subst e;have kk:∀b u,r b=↑u->upd r p o b=↑u:=λb u e=>by rw[vh<|vv e hp];exact e
    have I:Ext (λ_=>False) l r l (upd r p o):=#[λb u _ e=>kk b u e,λa h=>.inl h];refine#[#[λb u _ _ e=>kk b u e,λa h=>.inl h,λa h=>.inl h,λa h _=>h],#[A.sub,λa z=>?_,?_,A.v8,A.vV],Sls.st r1 I (λ_ z=>z.elim)<|λ_ _ z=>z,pk p1 (λ_ z=>z.elim) (λ_ _ z=>z) I,wE (I.wide λ_ z=>z.elim) pz]
    ·cases e:r a with
     |none=>exact iq e<|A.xD a z
     |some u=>rw[kk a u e];simp
    ·refine e1a2 A.tab λqs e t=>?_;exact#[qs,kk _ _ e,t]
  obtain⟨c2,S2,r2,p2,ai⟩:=az;have aA:=Ch.trans' s' A.tab c1 c2;rw[drop_cons ax]at w1;refine g2 (P.pre N) F l w Y x' x _ (S2.stt r2) rx λF3 s f3 S3 a3=>?_;have c3:Ch T Fs Z Q F3 l Y:=aA.less f3
  -- aH the block aF on af an item
  have on:∀{d2:D1} {F5 R5:Rg} {H5:Hp} {o:Option γ} {ae:List V},Ct (stepC P Gf g wt we) (L.drop<|i+1) (P.suf<|Gf.fg d2) (λws s'=>K (E++(o.toList++ws)) s')->Ch T F3 l Y F5 R5 H5->wz T F5 R5 H5 d2 s->Paired (rp R5 H5) (E++o.toList) ae->(E++o.toList).length<=i+1 ->
    ∃m',m'<L.length-i/\m'=L.length-(i+1)/\i+1<=L.length/\∃N F l E,Ch T Fs Z Q F l H5/\Std T F l H5/\rel F l H5 (P.pre N) s/\Ps l H5/\Ag mb (xJ R idx σ) s/\Paired (rp l H5) E ae/\E.length<=i+1/\Ct (stepC P Gf g wt we) (L.drop<|i+1) N (λws s'=>K (E++ws) s'):=λ{d2 F5 R5 H5 o ae} hw c5 S5 aB aC=>by
   refine e1a2 (Gf.le S5.rel) λF6 f6 r6=>?_;have aD:=Ch.trans' s' S2.tab c3 c5;refine#[L.length-(i+1),q0a,rfl,ab,P.suf<|Gf.fg d2,F6,R5,E++o.toList,aD.less f6,⟨λa h=>S5.sub a<|f6 a h,S5.xD,S5.tab,S5.v8,λh=>S5.vV<|f6 T h⟩,by rw[P.eta];exact r6,?_,a1.trans a3,aB,aC,?_]
   ·refine pk p2 (G:=λa=>F3 a\/a=T) (λa h=>h.elim (S3.sub a) λz=>by rw[z];exact S2.v8) (λa h z=>?_) c5.ext;rcases z with z|z
    ·exact(ay c3 a h).2 z
    ·exact(U a h).2.2 z
   ·simp only[lV];exact hw
  refine t2 _ F3 l s Y _ _ S3 w1 λb d1 F4 R4 H4 q4 c4 S4=>?_
  cases b with
  |false =>
   rw[hI ik];exact on (o:=none) q4 c4 S4 (by simpa using S3.vals c4 ai) (by simp;lia)
  |true =>
   rw[cr rfl];refine e2 _ F4 R4 s H4 _ _ _ S4 q4 (λy d2 v F5 R5 H5 q5 c5 S5 r5=>?_) λ_ _ _ _ _ _ z=>z.elim;have aj:=Ch.trans S3 S4.tab c4 c5;exact on (o:=↑y) q5 aj S5 (yf (S3.vals aj ai)<|.cons r5 .nil) (by simp;lia)
 ·have e:i=L.length:=by lia
  subst e;rw[vc]at w1;have ak:K (E++[]) N:=w1;rw[kY]at ak;have al:=P.un r1;rw[aa a1,P.a0C]at al;refine .inl #[ip.stop p1,av E N F l r O ak c1 A al p1 pz]
def EX[Se:Sel idx B S B0]{back:B->List α->D}{xs:List α}{Ps:Rg->Hp->Prop}(s':Std T F' R' H')(tw:DU F' F1 F2)(hr:rel F2 R' H' b σ)
 (pb:∀b' G2 Xi KA Q1 σ',Ps KA Q1->rel G2 KA Q1 b' σ'->Ag is σ σ'->DU Xi F1 G2->rel Xi KA Q1 (back b' xs) σ') :
    ∃Fs,Std T Fs R' H'/\(∀a,F1 a->R' a/\¬Fs a/\a≠T)/\rel Fs R' H' (Se.sel b) (idx.map λi=>σ[i]?.join) /\
      ∀{s1:S} {Gs R1:Rg} {H1:Hp},Ch T Fs R' H' Gs R1 H1->Std T Gs R1 H1->rel Gs R1 H1 s1 (idx.map λi=>σ[i]?.join)->Ps R1 H1->∃G,Ch T F' R' H' G R1 H1/\wz T G R1 H1 (back (Se.mrg (Se.rest b) s1) xs) σ:=by
  refine e2a4 (Se.cut hr) λFs F0 t0 h1 h2 hl=>?_
  have iS:∀a,Fs a->F' a:=λa h=>(tw.all a).mpr<|.inr<|(t0.all a).mpr<|.inl h
  have i0:∀a,F0 a->F' a:=λa h=>(tw.all a).mpr<|.inr<|(t0.all a).mpr<|.inr h
  have i1:∀a,F1 a->F' a:=λa h=>(tw.all a).mpr<|.inl h
  have d1S:∀a,F1 a->Fs a->False:=λa h k=>tw.yG a h<|(t0.all a).mpr<|.inl k
  have d10:∀a,F1 a->F0 a->False:=λa h k=>tw.yG a h<|(t0.all a).mpr<|.inr k
  refine#[Fs,#[λa h=>s'.sub a<|iS a h,s'.xD,s'.tab,s'.v8,λh=>s'.vV<|iS T h],λa h=>#[s'.sub a<|i1 a h,d1S a h,λz=>s'.vV<|by rw[<- z];exact i1 a h],h1,λ{s1 Gs R1 H1} c S1 r1 p1=>?_]
  have f0:rel F0 R1 H1 (Se.rest b) σ:=Sls.st h2 c.ext (λa h=>h.elim (λz=>s'.sub a<|iS a z) λz=>by rw[z];exact s'.v8) λa h z=>z.elim (λq=>t0.yG a q h) λq=>s'.vV (by rw[<- q];exact i0 a h)
  have nG:∀a,Gs a->F1 a\/F0 a->False:=λa g f=>by
    rcases c.yL a g with q|q
    · exact f.elim (λz => d1S a z q) λz => t0.yG a q z
    · exact s'.xD a (s'.sub a<|f.elim (i1 a)<|i0 a) q
  have out:∀a,F1 a\/F0 a->R1 a:=λa f=>c.left a (s'.sub a<|f.elim (i1 a)<|i0 a) λz=>f.elim (λq=>d1S a q z) λq=>t0.yG a z q
  refine#[λa=>F1 a\/Gs a\/F0 a,#[λb o n m h=>c.keep b o (λz=>n<|iS b z) m h,c.AE,λa h=>h.elim (λz=>.inl<|i1 a z) λz=>z.elim (λq=>(c.yL a q).elim (λz=>.inl<|iS a z) .inr) λq=>.inl<|i0 a q,λa h n=>c.left a h λz=>n<|iS a z],pb _ (λa=>Gs a\/F0 a) _ R1 H1 σ p1 (Se.join #[λ_=>Iff.rfl,λa m f=>nG a m<|.inr f] r1 f0 hl) (Ag.refl _ _) ⟨λ_=>Iff.rfl,λa h z=>z.elim (λq=>nG a q<|.inl h) λq=>d10 a h q⟩,λa h=>h.elim (λz=>out a<|.inl z) λz=>z.elim (S1.sub a) λq=>out a<|.inr q,S1.xD,S1.tab,S1.v8,λh=>h.elim (λz=>s'.vV<|i1 T z) λz=>z.elim S1.vV λq=>s'.vV<|i0 T q]
def xg[P:Pre k S Db][N:Fg D1 Db][m:Sel idx B S B0]{h:B->List α->D}{v:D->(List α->B->Prop)->75->Prop}{g:Db->α->D1}{w:Wf D1 Bool D1}{y:Wf D1 γ D1}
 (o:X.calm=true) (O:IW X E T is z iter h v) (U:zn X a cl Ts Fr idx) (W:Ts.length=k) (r:∀i,k<=i->i<k+idx.length->i∈mb)
 (Y:∀e f C j l,GW (FV X a cl (Ts++Fr) e f C j l) T mb z g) (Z:∀e f C j l,TWs (FV X a cl (Ts++Fr) e f C j l) T t w) (hE:∀e f C j l,EW (FV X a cl (Ts++Fr) e f C j l) XF T u y)
 (hs:∀x,kH iter X.env x=pure x:=by intro _;rfl) :
    EO X E T (.ListComp u [#[z,iter,t,0]] a pos) (cK v λ(A:OL γ->D->Prop) n b=>n.length<=hX/\Ct (stepC P N g w y) n (m.sel b) λI J=>A #[I]<|h (m.mrg (m.rest b) J) n):=by
  refine e1a2 O λti i1 i2=>?_
  refine#[_,Rc o i1 U hs,λd F R σ H A Ke Q s hw kn ke=>?_]
  refine i2 d F R σ H _ _ _ s hw (λn b Jt Ps F' F1 F2 R' H' q c L tw hr ip ps pk pb=>?_) ke
  refine e1a4 (EX (idx:=idx) (Se:=m) L tw hr pb) λFs S0 n0 r0 on=>?_
  refine GP W r Y Z hE q.1 ip ps pk S0 n0 r0 q.2 λzs J Gs R1 H1 I kz c1 S1 r1 p1 pz p hp=>?_
  refine e1a2 (on c1 S1 r1 p1) λG c2 M=>?_
  refine e1a3 (xW M hp pz) λR2 c3 S3 n3=>?_
  exact kn _ _ _ _ G R2 _ kz (Ch.trans s M.tab (Ch.trans s L.tab c c2) c3) S3 n3
def Bj[P:Pre k S Db][Gf:Fg D1 Db][v:Sel idx B S B0](j:Nat){m I J:Type}[Ow m][Sls I][Sls J][A:At j D m I][U:Pt j I (OL γ) J][Jp:Pj D PO n]{h:Pos}{l:B->List α->D}{W:D->(List α->B->Prop)->75->Prop}{g:Db->α->D1}{Y:Wf D1 Bool D1}{Z:Wf D1 γ D1}
 (hN:X.N.Nodup) (hj:X.N[j]?=↑y) (hy:X.env.scope.names.lookup y=some .local) (L:kj (.ListComp o [#[M,iter,r,0]] a pos) (some<|.Name y py) h.line X.env=pure true) (hm:j∉ms)
 (O:X.calm=true) (hi:IW X E T is M iter l W) (Bs:zn X a cl Ts Fr idx) (hk:Ts.length=k) (Q:∀i,k<=i->i<k+idx.length->i∈mb)
 (hG:∀e f C t u,GW (FV X a cl (Ts++Fr) e f C t u) T mb M g) (hT:∀e f C t u,TWs (FV X a cl (Ts++Fr) e f C t u) T r Y) (hE:∀e f C t u,EW (FV X a cl (Ts++Fr) e f C t u) XF T o Z)
 (hs:∀x,kH iter X.env x=pure x:=by intro _;rfl) :
    S1 X E T ms n (.Assign [.Name y py] (.ListComp o [#[M,iter,r,0]] a pos) h) (cS W Jp.pj λ(Kn:J->Prop)(Kr:τ->PO->Prop) w b=>w.length<=hX/\Ct (stepC P Gf g Y Z) w (v.sel b) λys s1=>Kn<|U.put (A.hole<|l (v.mrg (v.rest b) s1) w) #[ys]):=by
  refine e1a2 hi λti i1 i2=>?_
  refine#[_,Re hN hj hy L O i1 Bs hs,λd F R σ H Kn Kr Ke En s hw kn kr ke=>?_]
  refine i2 d F R σ H _ _ _ s hw (λw b Jt Ps F' F1 F2 R' H' q c z tw hr ip ps pk pb=>?_) λC y d' F' R' H' q c z=>?_
  · refine e1a4 (EX (idx := idx) (Se := v) z tw hr pb) λFs S0 n0 r0 on => ?_
    refine GP hk Q hG hT hE q.1 ip ps pk S0 n0 r0 q.2 λzs s1 Gs R1 H1 ys kz c1 S1 r1 p1 pz p hp=>?_
    refine e1a2 (on c1 S1 r1 p1) λG c2 S2=>?_
    refine e1a3 (xW S2 hp pz) λR2 c3 S3 n3=>?_
    refine e1a2 (GN (i:=j) S3 n3) λG2 g2 S4=>?_
    exact kn _ G2 R2 _ _ kz ((Ch.trans s S2.tab (Ch.trans s z.tab c c2) c3).less g2) S4<|Ag.set hm
  · refine e1a2 (wY (PO := PO) z) λG g1 g2 => ?_
    exact ke C y _ G R' H' q (c.less g1) g2
end
def Kp(g:hJ)(H a:Hp):Prop:=∀b o,b≠g->H b=↑o->a b=↑o
def Kp.refl(g:hJ)(H:Hp):Kp g H H:=λ_ _ _ h=>h
def Kp.trans{d e:Hp}(a:Kp g H d)(b:Kp g d e):Kp g H e:=λc o n h=>b c o n<|a c o n h
def Kp.at:Kp g H (upd H g o):=λb u n e=>by rw[vh n];exact e
def AI(h:H p=none):DT H (upd H p o):=λb u e=>by rw[vh<|vv e h];exact e
noncomputable def Gd(q:hJ)(i z s:Int):List V:=[.ref q,.int i,.int z,.int s]
structure DJ(H:Hp)(g q:hJ)(ns:List Int)(i z s:Int):Prop where
 ob:H g=↑(.lst<|Gd q i z s)
 sc:H q=↑(.lst<|ns.map V.int)
 i0:0<=i
 ne:q≠g
def DJ.put{i z s:Int}(B:DJ H g q b i z s){a z':Int}(h:0<=a):DJ (upd H g<|.lst<|Gd q a z' s) g q b a z' s:=#[vm,by rw[vh B.ne];exact B.sc,h,B.ne]
def YR(q:hJ)(i z s:Int):FZ (Gd q i z s) 0=↑(.ref q):=rfl
def Rf(q:hJ)(i z s:Int):FZ (Gd q i z s) 1=↑(.int i):=rfl
def Rh(q:hJ)(i z s:Int):FZ (Gd q i z s) 2=↑(.int z):=rfl
def a2Z(q:hJ)(i z s:Int):FZ (Gd q i z s) 3=↑(.int s):=rfl
def a0E(x:Int):-(2 ^ 64)<x%2147483647/\x%2147483647<2 ^ 64:=by lia
def Vg{ns:List Int}{i:Int}(b:0<=i)(c:i<(ns.length:Int)):∃n,FZ (ns.map V.int) i=↑(.int n):=by
 have a:i.toNat<ns.length:=by omega
 have e:(ns.map V.int)[i.toNat]?=↑(.int ns[i.toNat]):=by rw[jU,jL a];rfl
 have:=M8 e;rw[show ((i.toNat:Nat):Int)=i by omega]at this;exact#[_,this]
structure Bg where
instance:Ow Bg:=#[λF _ H _ v=>∃g q ns i z s,v=↑(.ref g)/\(∀b,F b↔b=g\/b=q)/\DJ H g q ns i z s,
 λ{F G R H R' H' x v} h e s n=>by
  obtain⟨g,q,ns,i,z,s',h1,h2,h3⟩:=h
  exact#[g,q,ns,i,z,s',h1,h2,#[e.keep g _ (n g<|(h2 g).mpr<|.inl rfl) h3.ob,e.keep q _ (n q<|(h2 q).mpr<|.inr rfl) h3.sc,h3.i0,h3.ne]],
 λh e=>by
  obtain⟨g,q,ns,i,z,s',h1,h2,h3⟩:=h
  exact#[g,q,ns,i,z,s',h1,λb=>(e b).symm.trans (h2 b),h3]]
instance:Hs Bg:=#[λz9=>e6a2 z9 λ_ _ _ _ _ _ h _=>#[_,h]]
instance:Vb Bg:=#[λh _=>h]
def Ri:Sp:=λd H Q _=>∃(g q:hJ)(c:List Int)(i z s a:Int),d=[.ref g,.int a]/\DJ H g q c i z s/\0<a/\a<1073741824 /\
 ∀b e f r,Kp g H b->DJ b g q c e f s->0<=r->r<a->Q (.int r) b
abbrev Xl:Bg×Int×Unit->(Int->Bg×Un×Unit->Prop)->(hJ->Bg×Un×Unit->Prop)->Prop:=λp a _=>0<p.2.1/\p.2.1<1073741824/\∀r,0<=r->r<p.2.1->a r 99
def Xm{K:hO}{k:Nat}(F:vU P w K b base Qz k f c d g):vU P w K b base (v4 P w) k f c d g :=
 #[F.len,λA a s H args i j Q E l m n o p=>kh (F.run A a s H args i j Q E l m n o p) λr t h=>by
  cases r with
  |error e=>exact iR h
  |ok q =>
   cases q with
   |ret u=>exact h
   |next=>exact iR h
   |brk=>exact iR h
   |cont=>exact iR h]
def a20:∀{c:List V},List.map some c=[↑a,↑b]->c=[a,b]:=by
 intro c e
 cases c with
 |nil=>cases e
 |cons p r=>cases r with
  |nil=>cases e
  |cons q s=>cases s with
   |nil=>cases e;rfl
   |cons _ _=>cases e
def YS{K:hO}{k:Nat}(F:vU P w K I base Qz k f J c Ri):vU P w K I base (v4 P w) k f J c (yM T Xl):=by
 refine(Xm F).imp λL H Q E h=>?_;obtain⟨m,R,p,Kn,Ke,s,⟨M,N,O⟩,S,_⟩:=h;obtain⟨v1,U,X,Y,Z,v,⟨g,q,x,i,z,y,rfl,A,hb⟩,d⟩:=s.rel;obtain⟨v2,aa,F3,F4,e2,t2,⟨n3,u,rfl,r2⟩,e3,n4⟩:=d;subst r2;subst e2 e3
 have ev:L=[.ref g,.int p.2.1]:=by exact a20 Z
 subst ev;have B:m g:=(v.all g).mpr<|.inl<|(A g).mpr<|.inl rfl;have gT:g≠T:=λe=>s.vV (by rw[<- e];exact B);refine#[g,q,x,i,z,y,p.2.1,rfl,hb,M,N,λC i' z' r j D r0 d=>?_]
 have l:∀a,R a->C a≠none:=λa h=>by
  by_cases e:a=g
  ·rw[e,D.ob];simp
  ·cases G:H a with
   |none=>exact iq G<|s.xD a h
   |some o=>rw[j a o e G];simp
 refine S r 99 _ (λ_=>False) m R C (O r r0 d) #[λb o n _ h=>j b o (λe=>n<|by rw[e];exact B) h,λ_ h=>.inl h,λa h=>h.elim (λz=>z.elim) .inl,λ_ h _=>h]
  #[#[_,_,X,Y,rfl,v,#[g,q,x,i',z',y,rfl,A,D],_,_,F3,F4,rfl,t2,n3,rfl,n4],s.sub,l,?_,s.v8,s.vV] #[#[λ_ z=>z,_,rfl,rfl],λ_ z=>z.elim,λ_ z=>z.elim,λz=>z]
 refine e1a2 s.tab λc e t=>?_;exact#[c,j T _ (λe=>gT e.symm) e,t]
structure Fn(K:hO)(mg:Str->Option ci)(x:Str)(st:iH)(ps:List Str)(f:hJ)(fd:iX):Prop where
 fn:za K x x st f fd
 at_:mg x=↑(.ref f)
 bd:Binds K fd ps []
def BF{g:Prop}(h:∀G:Prop,(g->G)->G):g:=h g id
def a21{a b c d:Type}{P:a×b×c×d->Prop}(h:∀e f g i,P (e,f,g,i)):∀x,P x:=λx=>h x.1 x.2.1 x.2.2.1 x.2.2.2
def a4y{a b c d e f:Type}{P:a×b×c×d×e×f->Prop}(h:∀g i j k l m,P (g,i,j,k,l,m)):∀x,P x:=λx=>h x.1 x.2.1 x.2.2.1 x.2.2.2.1 x.2.2.2.2.1 x.2.2.2.2.2
def a22{a b c d e:Type}{P:a×b×c×d×e->Prop}(h:∀f g i j k,P (f,g,i,j,k)):∀x,P x:=λx=>h x.1 x.2.1 x.2.2.1 x.2.2.2.1 x.2.2.2.2
def a0F{a b c d e f g:Type}{P:a×b×c×d×e×f×g->Prop}(h:∀i j k l m n o,P (i,j,k,l,m,n,o)):∀x,P x:=λx=>h x.1 x.2.1 x.2.2.1 x.2.2.2.1 x.2.2.2.2.1 x.2.2.2.2.2.1 x.2.2.2.2.2.2
def a0G{a b c d e f g i:Type}{P:a×b×c×d×e×f×g×i->Prop}(h:∀j k l m n o p q,P (j,k,l,m,n,o,p,q)):∀x,P x:=λx=>h x.1 x.2.1 x.2.2.1 x.2.2.2.1 x.2.2.2.2.1 x.2.2.2.2.2.1 x.2.2.2.2.2.2.1 x.2.2.2.2.2.2.2
def Ge{a b c d e f g i j:Type}{P:a×b×c×d×e×f×g×i×j->Prop}(h:∀k l m n o p q r s,P (k,l,m,n,o,p,q,r,s)):∀x,P x:=λx=>h x.1 x.2.1 x.2.2.1 x.2.2.2.1 x.2.2.2.2.1 x.2.2.2.2.2.1 x.2.2.2.2.2.2.1 x.2.2.2.2.2.2.2.1 x.2.2.2.2.2.2.2.2
def Rj{b c d e f g i j k l a:Type}{P:b×c×d×e×f×g×i×j×k×l×a->Prop}(h:∀n o p q r s t u v w m,P (n,o,p,q,r,s,t,u,v,w,m)):∀x,P x:=λx=>h x.1 x.2.1 x.2.2.1 x.2.2.2.1 x.2.2.2.2.1 x.2.2.2.2.2.1 x.2.2.2.2.2.2.1 x.2.2.2.2.2.2.2.1 x.2.2.2.2.2.2.2.2.1 x.2.2.2.2.2.2.2.2.2.1 x.2.2.2.2.2.2.2.2.2.2
def vr{K:hO}{d:Str->Option ci}{k:Nat}{e:List Str}{A c g:Type}[Sls A][Sls c][Ow g]{i j:Wf A g c}(F:vU P w K d base (v4 P w) k f l e (yM T i))(h:∀p a b,j p a b->i p a b):vU P w K d base (v4 P w) k f l e (yM T j) :=
 F.imp λo H Q E m=>e5a3 m λF R p a b s n r=>#[F,R,p,a,b,s,h p a b n,r]
def a0H:Passes (v4 P w) X XF:=λa b H s e c I h=>by obtain⟨_,_,_,_,_,z⟩:=h;exact z.elim
def lkc{β:Type}{n x:Str}{c c':β}{r:List (Str×β)}(h:kM x ((n,c)::r)=↑c'):(x=n/\c'=c)\/kM x r=↑c':=by
 rw[iV]at h
 cases q:x==n with
 |true=>rw[q]at h;exact .inl #[eq_of_beq q,(jj h).symm]
 |false=>rw[q]at h;exact .inr h
def fc{b:Type}{p:b->Prop}{a:b}{l:List b}(h:p a)(t:∀y∈l,p y):∀y∈a::l,p y:=λy c=>by
 rcases List.mem_cons.mp c with e|e
 ·rw[e];exact h
 ·exact t y e
def wT{k m:Nat}(h:a=(iG m).map (k + ·)):∀i,k<=i->i<k+m->i∈a:=λi b c=>by rw[h];exact List.mem_map.mpr #[i-k,List.mem_range.mpr q0d,q0d]
def a4z{a:Type}{p:a->Prop}:∀y∈([]:List a),p y:=λ_ h=>by cases h
section
variable{D PO τ:Type}[Sls D][Sls PO][Ow τ]{α:Type}[Rep α]
def Rl(d:EW X E T a f):EW X E T (.UnaryOp .USub a pos) (cK f λ(i:Int->D->Prop) x j=>i (-x) j):=by have h:=YB (c:=λ_=>True) (γ:=Int) (g:=λx:Int=>-x) (e:=.UnaryOp .USub a pos) d (λl b=>WY P8 b) λb _ k=>#[_,b,k _ rfl];simp only[true_and]at h;exact h
def ze(i:Nat)[Sls l][Sls g][Hs τ][A:At i D τ g][J:Pj g PO n](m:PE X (.Name x p) (vT i)):S1 X E T I n (.Return (some<|.Name x p) pos) (λ(d:D)(_:l->Prop)(j:τ->PO->Prop) _=>j (A.get d)<|J.pj<|A.hole d):=by refine⟨_,CY m,λd F R L H M j N O s q P r Q=>?_⟩;refine e3a4 (A.take s.rel) λv t w y c k B=>?_;obtain⟨u,rfl⟩:=Hs.has k;have f:∀a,w a->F a:=λa h=>(c.all a).mpr<|.inr h;refine e1a2 (J.le B) λG e C=>?_;exact#[u,y,r _ _ u t G R H q #[λb o _ _ h=>h,λ_ h=>.inl h,λa h=>.inl<|h.elim (λz=>(c.all a).mpr<|.inl z) λz=>f a<|e a z,λ_ h _=>h] #[C,λa h=>s.sub a<|f a<|e a h,s.xD,s.tab,s.v8,λh=>s.vV<|f T<|e T h] ⟨k,λa h=>s.sub a<|(c.all a).mpr<|.inl h,λa h z=>c.yG a h<|e a z,λh=>s.vV<|(c.all T).mpr<|.inl h⟩]
def Vh{N:List iZ}{i P PO B A:Type}[Ow i][Sls P][Sls PO][Sls B][Sls A]{G:B->A->PO->D}{we:Wf D i D}{wr:D->(P->B->A->Prop)->75->Prop}
 (ha:EO X E T e we) (hr:Lx X E T N G wr) (hs:hR (e::N) X.env=71::hR N X.env:=by rfl) :
    Lx X E T (e::N) (λ(b:B)(l:A)(p:Un×PO)=>G b l p.2) (cB we wr λx (Kn:i×P->B->A->Prop) p b l=>Kn (x,p) b l):=by
  refine e1a2 ha λta a1 a2=>?_
  refine e1a2 hr λtr b1 b2=>?_
  refine#[_,vq a1 b1 hs,λd F R σ H Kn Ke Q s hw kn ke=>?_]
  refine a2 d F R σ H _ Ke _ s hw (λx d1 u j F1 R1 H1 q1 c1 v g=>?_) ke
  have I:Ch T F R H F1 R1 H1:=c1.less λ_ z=>.inr z
  refine b2 d1 F1 R1 σ H1 _ Ke _ v q1 (λp b l vs us U G2 L o w J q2 O M r h1 h2 hl k=>?_) λC y d' o w J k c s'=>ke C y d' o w J k (Ch.trans s v.tab I c) s'
  -- the new W Q7
  have Y:∀a,j a->o a->False:=λa m f=>by
    rcases O.yL a f with q|q
    · exact g.yG a m q
    · exact v.xD a (g.sub a m) q
  have mT:∀a,j a->a≠T:=λa m z=>g.tab (by rw[<- z];exact m)
  have mx:sl j w J x ↑u:=Ow.st g.is O.ext (λa h=>h.elim (v.sub a) λq=>by rw[q];exact v.v8) λa m z=>z.elim (g.yG a m)<|mT a m
  have mR:∀a,j a->w a:=λa m=>O.left a (g.sub a m) λz=>g.yG a m z
  have g1:∀a,U a->o a:=λa h=>(r.all a).mpr<|.inl h
  have g2:∀a,G2 a->o a:=λa h=>(r.all a).mpr<|.inr<|.inl h
  have g3:∀a,L a->o a:=λa h=>(r.all a).mpr<|.inr<|.inr h
  have S:=Ch.trans s v.tab I O
  refine kn (x,p) b l (u::vs) us (λa=>j a\/U a) G2 L (λa=>j a\/o a) w J q2 #[S.keep,S.AE,λa h=>h.elim (λz=>c1.yL a<|.inl z)<|S.yL a,S.left] ⟨λa h=>h.elim (mR a)<|M.sub a,M.xD,M.tab,M.v8,λh=>h.elim g.tab M.vV⟩
    #[λa=>?_,λa m n=>m.elim (λz=>Y a z<|g2 a n) λz=>r.Ji a z n,λa m n=>m.elim (λz=>Y a z<|g3 a n) λz=>r.KC a z n,r.KD] #[↑u,vs.map some,j,U,rfl,#[λ_=>Iff.rfl,λa m n=>Y a m<|g1 a n],Ow.wk mx<|Dh w L J,h1] h2 hl λb' l' L1 L2 L3 Z aa ab p' h3 h4 h5 t=>?_
  · rw[r.all]
    exact#[λz=>z.elim (λq=>.inl<|.inl q) λz=>z.elim (λq=>.inl<|.inr q) .inr,λz=>z.elim (λz=>z.elim .inl λq=>.inr<|.inl q) λz=>.inr<|.inr z]
  · refine e4a4 h3 λv' ae N1 N2 z1 z2 z3 z4 => ?_
    injection z1 with _ z5
    subst z5
    exact k b' l' L1 L2 L3 Z aa ab p'.2 (Sls.fq z4<|two_eq z2 z3) h4 h5 t
class YT(α:Type)[Rep α](ty:String)(b:outParam Bool):Prop where
 ist:∀{K:hO} {R:Rg} {H:Hp} {x:α} {v:V},rp R H x v->∃t,zQ K H v t/\rj K t (.type ty)=↑b
instance:YT Int "int" true:=#[λ{K R H x v} h=>by
 subst h
 exact#[_,zQ.int x,by rfl]]
instance:YT Int "bool" false:=#[λ{K R H x v} h=>by
 subst h
 exact#[_,zQ.int x,by rfl]]
instance:YT (List α) "list" true:=#[λ{K R H x v} h=>by
 obtain⟨a,vs,rfl,_,h3,_⟩:=h
 exact#[_,zQ.lst h3,by rfl]]
def yP{b:Bool}[YT α ty b]{h:Wf D α D}(k:Gl X "isinstance")(l:X.mg "isinstance"=none)(c:PE X (.Name x q) (tC<|.ty ty))(m:EW X E T a h)
 (i:hR [a,.Name x q] X.env=85::hR [.Name x q] X.env:=by rfl) (e:hR [.Name x q] X.env=(false,eval (.Name x q) X.env)::hR [] X.env:=by rfl) (f:(jE pos<|hR [.Name x q] X.env).any (·.1)=false:=by rfl) :
    EW X E T (.Call (.Name "isinstance" p) [a,.Name x q] [] pos) (cK h λ(j:Bool->D->Prop) _ g=>j b g):=by
  refine e1a2 m λP n o=>?_
  refine#[_,wZ JN k l PyProof.Rows.boot_isinstance (vq n (vq c vF e) i) (he:=i) (hpl:=f),λd F R r H j v Q s w z A=>o d F R r H _ v _ s w (λy g u B C G I J L M=>?_) A]
  refine e1a2 (YT.ist (ty:=ty) (K:=X.K) M) λt N O=>?_
  exact#[u,ty,t,b,rfl,N,O,z _ g _ B C G I J L rfl]
end
end WL
namespace ZT
open PySem PySem.Spec PyProof.Rows
def EY{i:Nat}(a:s.heap.IsTupleIter b t i)(h:s.heap.IsTuple t j)(k:j[i]?=↑x)
 (l:∀e,e.IsTupleIter b t (i+1)->jl b s.heap e->Q x { s with heap:=e}):ii (ij g w) A (jD<|.ref b) Q E s:=by
  obtain⟨o,d,n,c⟩:=id a;obtain⟨p,q,_,m,r⟩:=h;unfold jD
  refine am<|wpAny_callSpecial?_slot (name:=mq "__next__") a.typeIs mr<|jg mr a.typeIs sC ?_<|sg _
  show ii _ _ (uA (.ref b) 0 >>= _) _ _ s;refine am<|jt d c (x:=.ref t) rfl ?_
  show ii _ _ (uA (.ref b) 1 >>= _) _ _ s;refine am<|jt d c (x:=.int i 0) rfl ?_
  show ii _ _ (seqItems? (.ref t) >>= _) _ _ s;refine am<|lH q r ?_;simp only[lX,k]
  have f:Heap.IsTupleIter (s.heap.update b λu=>u.mapFields (·.setIfInBounds 1 (mf<|(i:Int)+1))) b t (i+1):=#[_,jd _ d<|Obj.isFreed_of_fields<|Obj.data_mapFields c _,(Obj.cls_mapFields ..).trans n,by rw[Obj.data_mapFields c];simp[mf]]
  exact am<|nJ d c q0o<|ap #[x,rfl,ap<|l _ f<|oU ..]
def Nn{i:Nat}(h:A.handled=none)(b:s.heap.IsTupleIter c t i)(k:s.heap.IsTuple t l)(n:l[i]?=none)
 (q:∀d e,Heap.ExtBut c s.heap d->(∃o,d.get? e=↑o/\o.cls=.type "StopIteration")->E (.ref e) { s with heap:=d}):ii (ij j w) A (jD<|.ref c) Q E s:=by
  obtain⟨o,f,v,g⟩:=id b;obtain⟨p,r,_,m,u⟩:=k;unfold jD
  refine am<|wpAny_callSpecial?_slot (name:=mq "__next__") b.typeIs mr<|jg mr b.typeIs sC ?_<|sg _
  show ii _ _ (uA (.ref c) 0 >>= _) _ _ s;refine am<|jt f g (x:=.ref t) rfl ?_
  show ii _ _ (uA (.ref c) 1 >>= _) _ _ s;refine am<|jt f g (x:=.int i 0) rfl ?_
  show ii _ _ (seqItems? (.ref t) >>= _) _ _ s;refine am<|lH r u ?_;simp only[lX,n]
  refine am<|mC<|am<|nJ f g q0o ?_;show ii _ _ (newExc (.type "StopIteration") [] >>= _) _ _ _
  refine am ?_;simp only[newExc,newTuple];refine am<|i8 ?_ (by size_fits)
  refine am (m:=qA _ _)<|nc (a:=Value.none) (by first|rfl|(simp only[qA];rfl))<|i8 ?_ (by size_fits)
  simp only[raiseNew];refine am<|wpAny_handled ?_;first|rw[show A.in1.handled=none from h]|rw[h]
  exact am<|ap<|wpAny_throw<|q _ _ (((oU ..).extBut.push _).push _) #[_,il _ rfl,rfl]
abbrev ZSt(h:ja)(z c d e g i j:hJ)(f:ci)(k:Nat)(l m:Array ci):Prop :=
 sD h z c d f/\qE h c (.ref e) (.ref g)/\(∃a b,qE h d a b)/\h.IsTupleIter e i k/\h.IsTupleIter g j k/\h.IsTuple i l/\h.IsTuple j m
def Vi{g d:hJ}{k:Nat}{Q:ci->ic->Prop}(D:ZipApart z g d l m H I)(st:ZSt s.heap z g d l m H I .none k xs ys)(hx:xs[k]?=↑x)(hy:ys[k]?=↑y)
 (hQ:∀h,sD h z g d (mf ⇑s)->qE h d x y->h.IsTupleIter l H (k+1)->h.IsTupleIter m I (k+1)->qE h ⇑s x y ->
 (∀c o,c≠z->c≠d->c≠l->c≠m->s.heap.get? c=↑o->h.get? c=↑o)->Q (.ref ⇑s) { s with heap:=h}) :
    ii (ij W w) A (Builtin.«zip.__next__» #[[.ref z],[]]) (λJ s'=>∃v,J=.done (.ret v)/\Q v s') E s:=by
  obtain⟨q,L,⟨a,b,M⟩,h1,h2,N,O⟩:=st
  show ii _ _ (uA (.ref z) 2 >>= _) _ _ _;refine am<|jt q rfl (x:=.bool false) rfl ?_
  show ii _ _ (uA (.ref z) 3 >>= _) _ _ _;refine am<|jt q rfl (x:=.ref g) rfl<|am<|lH L rfl ?_
  show ii _ _ (kq (.ref z) >>= _) _ _ _;refine am ?_;unfold kq
  refine am<|jt q rfl (x:=.none) rfl<|ap ?_;simp only[if_true]
  refine am<|mC<|am<|jt q rfl (x:=.ref d) rfl<|am<|kd q q0o λg1 P i=>?_
  replace P:sD g1 z g d .ellipsis:=P;refine am ?_;simp only[vd,List.zipIdx_nil,List.forIn_cons,List.forIn_nil]
  refine am<|am<|pG ?_;show ii _ _ (jD (.ref l) >>= _) _ _ _
  refine am<|EY (h1.extBut i.extBut D.i1z) (N.extBut i.extBut D.l1z) hx λg2 a2 n=>ap ?_
  have X:qE g2 d a b:=n.extBut _ _ D.TOi1<|i.extBut _ _ D.TOz M
  refine am<|lH X rfl<|am<|qF X λg3 R p=>am<|sE<|ap ?_
  replace R:qE g3 d x b:=R
  refine am<|am<|pG ?_;show ii _ _ (jD (.ref m) >>= _) _ _ _
  refine am<|EY (((h2.extBut i.extBut D.i2z).extBut n.extBut D.i12.symm).extBut p.extBut D.TOi2.symm) (((O.extBut i.extBut D.l2z).extBut n.extBut D.l2i1).extBut p.extBut D.l2TO) hy λg4 a4 r=>ap ?_
  have Y:qE g4 d x b:=r.extBut _ _ D.TOi2 R
  refine am<|lH Y rfl<|am<|qF Y λf u t=>am<|sE<|ap<|ap ?_
  replace u:qE f d x y:=u
  refine am<|lH u rfl<|am<|wpAny_newTuple ?_
  have Z:f.objs.size=⇑s:=by rw[t.1,r.1,p.1,n.1,i.1]
  have z5:sD f z g d .ellipsis:=t.extBut _ _ D.TOz.symm<|r.extBut _ _ D.i2z.symm<|p.extBut _ _ D.TOz.symm<|n.extBut _ _ D.i1z.symm P
  have k5:∀c o,c≠z->c≠d->c≠l->c≠m->s.heap.get? c=↑o->f.get? c=↑o:=λc o j B S T e=>t.extBut _ _ B<|r.extBut _ _ T<|p.extBut _ _ B<|n.extBut _ _ S<|i.extBut _ _ j e
  have q1:f.IsTupleIter l H (k+1):=((a2.extBut p.extBut D.TOi1.symm).extBut r.extBut D.i12).extBut t.extBut D.TOi1.symm
  have q2:f.IsTupleIter m I (k+1):=a4.extBut t.extBut D.TOi2.symm
  have lz:z<f.objs.size:=ie z5
  show ii _ _ (om (.ref z) (.ref f.objs.size) >>= _) _ _ _;refine am ?_;unfold om
  have z6:sD (f.push { cls:=.type "tuple",data:=.seq #v[x,y]}) z g d .ellipsis:=ce _ z5
  refine am<|kd z6 q0o λg7 U e7=>?_;replace U:sD g7 z g d (mf f.objs.size):=U
  refine kd U q0o λC F e8=>?_;replace F:sD C z g d (mf f.objs.size):=F
  have G:∀c o,c≠z->f.get? c=↑o->C.get? c=↑o:=λc o j e=>e8.extBut _ _ j<|e7.extBut _ _ j<|ce _ e
  have t8:qE C f.objs.size x y:=e8.extBut _ _ (jB lz)<|e7.extBut _ _ (jB lz)<|il _ rfl
  rw[Z]at F t8;refine ap #[_,rfl,?_];show Q (.ref f.objs.size) _;rw[Z]
  exact hQ C F (G _ _ D.TOz u) (q1.at λo e=>G _ o D.i1z e) (q2.at λo e=>G _ o D.i2z e) t8 λc o j B S T e=>G c o j<|k5 c o j B S T e
def YU{l f:hJ}{k:Nat}(O:A.handled=none)(D:ZipApart z l f v y l1 l2)(st:ZSt s.heap z l f v y l1 l2 .none k P R)(m:P[k]?=none\/R[k]?=none)
 (S:∀B e,(∀c o,c≠z->c≠f->c≠v->c≠y->s.heap.get? c=↑o->B.get? c=↑o)->(∃o,B.get? e=↑o/\o.cls=.type "StopIteration")->E (.ref e) { s with heap:=B}) :
    ii (ij T w) A (Builtin.«zip.__next__» #[[.ref z],[]]) Q E s:=by
  obtain⟨n,C,⟨a,b,F⟩,U,h2,p,G⟩:=st
  show ii _ _ (uA (.ref z) 2 >>= _) _ _ _;refine am<|jt n rfl (x:=.bool false) rfl ?_
  show ii _ _ (uA (.ref z) 3 >>= _) _ _ _;refine am<|jt n rfl (x:=.ref l) rfl<|am<|lH C rfl ?_
  show ii _ _ (kq (.ref z) >>= _) _ _ _;refine am ?_;unfold kq
  refine am<|jt n rfl (x:=.none) rfl<|ap ?_;simp only[if_true]
  refine am<|mC<|am<|jt n rfl (x:=.ref f) rfl<|am<|kd n q0o λg1 u d=>?_
  replace u:sD g1 z l f .ellipsis:=u;refine am ?_;simp only[vd,List.zipIdx_nil,List.forIn_cons,List.forIn_nil]
  refine am<|am<|pG ?_;show ii _ _ (jD (.ref v) >>= _) _ _ _
  cases H:P[k]? with
  |none =>
    refine am<|Nn O (U.extBut d.extBut D.i1z) (p.extBut d.extBut D.l1z) H λI e g J=>?_;obtain⟨L,i,r⟩:=J
    have W:sD I z l f .ellipsis:=g _ _ D.i1z.symm u
    have M:e≠z:=λq=>by subst q;rw[W]at i;cases i;simp at r
    exact kd W q0o λX _ j=>S X e (λc o t _ N _ q=>j.extBut _ _ t<|g _ _ N<|d.extBut _ _ t q) #[L,j.extBut _ _ M i,r]
  |some x =>
    have hy:R[k]?=none:=by rcases m with h|h;rw[H]at h;cases h;exact h
    refine am<|EY (U.extBut d.extBut D.i1z) (p.extBut d.extBut D.l1z) H λI a2 g=>ap ?_
    have Y:qE I f a b:=g.extBut _ _ D.TOi1<|d.extBut _ _ D.TOz F
    refine am<|lH Y rfl<|am<|qF Y λX p3 j=>am<|sE<|ap ?_
    refine am<|am<|pG ?_;show ii _ _ (jD (.ref y) >>= _) _ _ _
    refine am<|Nn O (((h2.extBut d.extBut D.i2z).extBut g.extBut D.i12.symm).extBut j.extBut D.TOi2.symm) (((G.extBut d.extBut D.l2z).extBut g.extBut D.l2i1).extBut j.extBut D.l2TO) hy λg4 e Z J=>?_
    obtain⟨L,i,r⟩:=J
    have z4:sD g4 z l f .ellipsis:=Z _ _ D.i2z.symm<|j.extBut _ _ D.TOz.symm<|g.extBut _ _ D.i1z.symm u
    have M:e≠z:=λq=>by subst q;rw[z4]at i;cases i;simp at r
    exact kd z4 q0o λg5 _ e5=>S g5 e (λc o t c2 N c4 q=>e5.extBut _ _ t<|Z _ _ c4<|j.extBut _ _ c2<|g.extBut _ _ N<|d.extBut _ _ t q) #[L,e5.extBut _ _ M i,r]
noncomputable abbrev tI(l:hJ):Obj:={ cls:=.type "tuple_iterator",data:=.fields #v[.ref l,.int 0 0]}
noncomputable abbrev H1(h:ja)(a:hJ):ja:=h.push<|tI a
noncomputable abbrev H2(h:ja)(a b:hJ):ja:=(H1 h a).push<|tI b
noncomputable abbrev H3(h:ja)(a b:hJ):ja:=(H2 h a b).push { cls:=.type "tuple",data:=.seq #v[.ref h.objs.size,.ref (H1 h a).objs.size]}
noncomputable abbrev H4(h:ja)(a b:hJ):ja:=(H3 h a b).push { cls:=.type "tuple",data:=.seq #v[.none,.none]}
noncomputable abbrev H5(h:ja)(a b:hJ):ja:=(H4 h a b).push { cls:=.type "zip",data:=.fields #v[.none,.bool false,.bool false,.ref (H2 h a b).objs.size,.ref (H3 h a b).objs.size]}
def made(a b:hJ)(c e:Array ci):Meets (Builtin.«zip.__new__» #[[.type "zip",.ref a,.ref b],[]]) (λ_ R s=>s.heap.IsTuple a c/\s.heap.IsTuple b e/\R (.ok<|.ret<|.ref (H4 s.heap a b).objs.size) { s with heap:=H5 s.heap a b}) :=
 .of_wp λf w A R s h=>by
  obtain⟨i,g,d,j,k⟩:=s;obtain⟨m,n,h⟩:=h;have l:=sub_zip;have o:qK (Shared.heap #[i,g,d,j,k]) a c:=m;have p:qK (Shared.heap #[i.push<|tI a,g,d,j,k]) b e:=Heap.IsTuple.push n _
  wp_walk using rh o,rh p
  exact#[_,rfl,h]
def Rm(n:s.heap.IsTuple a p)(q:s.heap.IsTuple b r)
 (h:∀d,ZSt d (⇑s+4) (⇑s+2) (⇑s+3) ⇑s (⇑s+1) a b .none 0 p r->d.objs.size=⇑s+5->(∀c o,s.heap.get? c=↑o->d.get? c=↑o)->Q (.ref<|⇑s+4) { s with heap:=d}) :
    ii (ij t w) A (call (.type "zip") [.ref a,.ref b]) Q E s:=by
  refine callType_new F.called_zip q0q (F.typeCall_zip_2 _ _) (F.newCall_zip_2 _ _) (λf=>F.args_object_init_3 f _ _) F.entry_zip_new (made a b p r) #[n,q,?_]
  have g:(H1 s.heap a).objs.size=⇑s+1:=jR ..
  have i:(H2 s.heap a b).objs.size=⇑s+2:=by rw[jR,g]
  have j:(H3 s.heap a b).objs.size=⇑s+3:=by rw[jR,i]
  have k:(H4 s.heap a b).objs.size=⇑s+4:=by rw[jR,j]
  have z:(H5 s.heap a b).objs.size=⇑s+5:=by rw[jR,k]
  have l:(H5 s.heap a b).get? (H4 s.heap a b).objs.size=↑_:=il _ rfl
  have u:(H5 s.heap a b).get? (H3 s.heap a b).objs.size=↑_:=ce _<|il _ rfl
  have v:(H5 s.heap a b).get? (H2 s.heap a b).objs.size=↑_:=ce _<|ce _<|il _ rfl
  have y:(H5 s.heap a b).get? (H1 s.heap a).objs.size=↑_:=ce _<|ce _<|ce _<|il _ rfl
  have B:(H5 s.heap a b).get? ⇑s=↑_:=ce _<|ce _<|ce _<|ce _<|il _ rfl
  have m:∀c o,s.heap.get? c=↑o->(H5 s.heap a b).get? c=↑o:=λc o x=>ce _<|ce _<|ce _<|ce _<|ce _ x
  rw[i,j,k]at l;rw[g,i]at v;rw[j]at u;rw[g]at y;rw[k]
  exact#[#[_,l,rfl],h _ #[l,v,#[_,_,u],#[_,B,rfl,rfl],#[_,y,rfl,rfl],n.at λo e=>m _ o e,q.at λo e=>m _ o e] z m]
def walk(hh:A.handled=none)(z TI TO i1 i2 l1 l2:hJ)(D:ZipApart z TI TO i1 i2 l1 l2)(xs ys:Array ci):WalksT prog w A z [z,TI,TO,i1,i2,l1,l2] [z,TO,i1,i2] (min xs.size ys.size)
   (λi vals=>∃x y,xs[i]?=↑x/\ys[i]?=↑y/\vals=#v[x,y]) (λi h=>ZSt h z TI TO i1 i2 l1 l2 .none i xs ys)
   (λi T h=>ZSt h z TI TO i1 i2 l1 l2 (mf T) (i+1) xs ys/\T≠z/\T≠TO/\T≠i1/\T≠i2) where
 sub:=λc hc=>by simp only[iK,jq,mD]at hc ⊢;rcases hc with q|q|q|q<;>simp[q]
 frame:=λi h h' st k=>by obtain⟨hz,hTI,⟨a,b,hTO⟩,h1,h2,hl1,hl2⟩:=st;exact#[k z q0o _ hz,k TI q0o _ hTI,#[a,b,k TO q0o _ hTO],h1.at λo e=>k i1 q0o o e,h2.at λo e=>k i2 q0o o e,hl1.at λo e=>k l1 q0o o e,hl2.at λo e=>k l2 q0o o e]
 item:=λi s Q E hi st hQ=>by have ix:i<xs.size:=iB hi<|Nat.min_le_left ..;have iy:i<ys.size:=iB hi<|Nat.min_le_right ..;have hT:s.TypeIs (.ref z) "zip":=⟨_,st.1,rfl⟩;unfold pyNext;refine am<|pE<|wpAny_callSpecial?_slot (name:=mq "__next__") hT pX<|jg pX hT F.entry_zip_next (Vi D st (jH ix) (jH iy) λh' a1 a2 a3 a4 a5 k=>ap ?_)<|F.args_zip_next_1 _;obtain⟨hz,hTI,⟨a,b,hTO⟩,h1,h2,hl1,hl2⟩:=st;have lt:∀{c o},s.heap.get? c=some o->⇑s≠c:=λe=>jB<|ie e;refine hQ ⇑s #v[xs[i],ys[i]] h' s.toks ⟨_,_,jH ix,jH iy,rfl⟩ (hV _) ⟨_,a5,rfl,_,rfl⟩ ⟨⟨a1,k _ _ D.TIz D.TITO D.TIi1 D.TIi2 hTI,⟨_,_,a2⟩,a3,a4,hl1.at λo e=>k _ o D.l1z D.l1TO D.l1i1 D.l1i2 e,hl2.at λo e=>k _ o D.l2z D.l2TO D.l2i1 D.l2i2 e⟩,lt hz,lt hTO,by obtain⟨_,e,_⟩:=h1;exact lt e,by obtain⟨_,e,_⟩:=h2;exact lt e⟩ ?_;exact λc o hc e=>k c o 124 124 124 124 e
 go:=λelts k pos i T s Q E hm hQ=>by obtain⟨⟨hz,hTI,⟨a,b,hTO⟩,h1,h2,hl1,hl2⟩,_⟩:=hm;refine wpAny_letOwnedTupleGo_zip hz λh' hz' e=>hQ h' #[hz',e.extBut _ _ D.TIz hTI,#[a,b,e.extBut _ _ D.TOz hTO],h1.extBut e.extBut D.i1z,h2.extBut e.extBut D.i2z,hl1.extBut e.extBut D.l1z,hl2.extBut e.extBut D.l2z] λc o hc q=>e.extBut _ _ 124 q
 apart:=λi T h hm hT=>by obtain⟨_,t1,t2,t3,t4⟩:=hm;simp only[iK,jq,mD]at hT;rcases hT with q|q|q|q;exact t1 q;exact t2 q;exact t3 q;exact t4 q
 done:=λs Q E st hQ=>by
  have a24:xs[min xs.size ys.size]?=none\/ys[min xs.size ys.size]?=none:=by
   rcases Nat.le_total xs.size ys.size with h|h
   ·rw[Nat.min_eq_left h];exact .inl<|sN<|hV _
   ·rw[Nat.min_eq_right h];exact .inr<|sN<|hV _
  have hT:s.TypeIs (.ref z) "zip":=#[_,st.1,rfl];unfold pyNext;refine am<|pE<|wpAny_callSpecial?_slot (name:=mq "__next__") hT pX<|jg pX hT F.entry_zip_next (YU hh D st a24 λh' e k he=>?_)<|F.args_zip_next_1 _;obtain⟨o,ho,hc⟩:=he;exact am<|mI (T:="StopIteration") (b:=true) ⟨o,ho,hc⟩ isSubtype_stop<|ap<|hQ _ s.toks λc o hc e=>k c o 124 124 124 124 e
 self:=λi s Q E st hQ=>wpAny_pyIter_zip st.1 hQ
end ZT
namespace L2
open PySem PySem.Spec PyProof.Rows
def a25:QM X (zu X.K) P:=#[λ{v J H1 g a b L M x} m N y A B=>by
 obtain⟨n,C,p,O⟩:=m.tuple y;obtain⟨q,D,r,R⟩:=m.tuple A;have h:g.heap.get? P=↑(rA x):=m.v0 P _ B;have i:qK g.heap a n.toArray:=p;have j:qK g.heap b q.toArray:=r
 have f:∀(l:hJ)(d:Array ci),g.heap.IsTuple l d->l≠P:=λl d s=>e1a3 s λo e c _ z=>by rw[z,h]at e;cases e;cases c
 have k:∀(l:hJ)(d:Array ci),g.heap.IsTuple l d->l<⇑g:=λl d s=>e1a2 s λo e _=>ie e;refine#[n,q,C,D,k _ _ i,k _ _ j,f _ _ i,f _ _ j,λQ E F=>ZT.Rm i j λG t u H=>?_]
 exact F G _ _ (λS I=>(ZT.walk (prog:=X.prog) (w:=X.w) I _ _ _ _ _ _ _ (zipApart_new (k _ _ i) (k _ _ j)) n.toArray q.toArray).toU) t u H]
end L2
namespace HT
variable[L2.GX]
open PySem PySem.Spec PyProof.Rows
def By{a:Option Int}(b:IsTup s.heap t items)(i:s.heap.IsSliceOf sl k l .none)(m:qy k a)(n:qy l c)
 (hw:xu items.size 0 a=0/\xu items.size items.size c=items.size)(h:Q (.ref t) s):ii (ij j w) A (oE (.ref t)<|.ref sl) Q E s:=by
  refine e1a3 (id i) λo d e p=>?_
  have f:s.TypeIs (.ref sl) "slice":=#[o,d,e]
  unfold oE
  try with_reducible refine iT ?_
  first|refine am (ap ?_)|skip
  refine am<|wpAny_sequenceKey b.typeIs q0q ?_
  refine am (wpAny_callSpecial?_slot (name:=mq "__getitem__") b.typeIs kQ
    (jg kQ b.typeIs entry_tuple_getitem ?_ (args_tuple_getitem _ _)))
  show ii _ _ (qr (.ref t) >>= _) _ _ s
  refine am<|tupleItemsOf_ b ?_
  refine am<|lq f ?_
  rw[cr q0q]
  refine am<|zv i m n ?_
  have g:(((xu items.size 0 a:Nat):Int)==0&&(1:Int)==1&&(xu items.size items.size c-xu items.size 0 a)==items.size)=true:=by
    rw[hw.1,hw.2]
    simp
  show ii _ _ (if (((xu items.size 0 a:Nat):Int)==0&&(1:Int)==1&&(xu items.size items.size c-xu items.size 0 a)==items.size)=true then _ else _) _ _ s
  rw[cr g]
  refine am<|am<|lq b.typeIs<|ap ?_
  rw[cr q0q]
  first
    | exact am<|mC<|ap #[_,rfl,ap h]
    | exact am<|mC<|am<|ap<|ap #[_,rfl,ap h]
    | exact am<|am<|mC<|ap<|ap #[_,rfl,ap h]
end HT
namespace L2
variable[L2.GX]
open PySem PySem.Spec PyProof.Rows
def a0N(K:hO):V->Option Int->Option Int->Hp->VK->Prop:=λx c d H Q=>∃a b,x=.ref a/\zu K H a b/\(HT.xu b.length 0 c=0/\HT.xu b.length b.length d=b.length)/\Q (.ref a) H
def Vj:W3 X (a0N X.K):=by
 intro d s n H x v o p t u w Q I f g i j h;obtain⟨a,k,rfl,l,m,q⟩:=h;cases f;refine e1a3 (I.tuple l) λc r e y=>?_;have b:c.toArray.size=k.length:=by rw[im];exact r.length.symm
 refine#["tuple",_,PyProof.Rows.slot_tuple_getitem.lookup,e.typeIs,?_];exact HT.By e g i j (by rw[b];exact m) #[.ref a,H,I,rfl,q]
end L2
namespace WL
variable[L2.GX]
open PySem L2
open Rep (rp)
open Ow (sl)
open Sls (rel)
section
variable{D:Type}[Sls D]
def wz.Rn{F R:Rg}{H c:Hp}{d:D}{f:St}(s:wz T F R H d f)(k:∀b o,b≠T->H b=↑o->c b=↑o)(t:TabAt c T):Ch T F R H F R c/\wz T F R c d f:=by
 refine#[#[λb o _ n h=>k b o n h,λ_ h=>.inl h,λ_ h=>.inl h,λ_ h _=>h],Sls.st s.rel (G:=λa=>a=T) #[λb o n h=>k b o n h,λ_ h=>.inl h] (λa h=>by rw[h];exact s.v8)<|λa h z=>s.vV (by rw[<- z];exact h),s.sub,λa h=>?_,t,s.v8,s.vV];by_cases e:a=T
 ·rw[e];exact zB t
 ·cases q:H a with
  |none=>exact iq q<|s.xD a h
  |some o=>rw[k a o e q];simp
def EZ{x:Tp Int}(h:rp R H x v):∃a,v=.ref a/\H a=↑(.tup<|x.l.map V.int):=by refine e2a4 h λa vs e _ h3 h4=>?_;exact#[a,e,by rw[h3,paired_ints h4]]
def E4{x:List Int}(h:rp R H x v):∃a,v=.ref a/\H a=↑(.lst<|x.map V.int):=by refine e2a4 h λa vs e _ h3 h4=>?_;exact#[a,e,by rw[h3,paired_ints h4]]
def Ro(A:EW X E T h B)(G:EW X E T f I)(J:∀{i:TA},PA X [h,f] i->PE X e (a0s X.K T i))
 (L:hR [h,f] X.env=(false,eval h X.env)::hR [f] X.env:=by rfl) (j:hR [f] X.env=(false,eval f X.env)::hR [] X.env:=by rfl) :
    EW X E T e (cB B I λM (o:Bool->D->Prop) N l=>o (zW M N) l):=by
  refine e1a2 A λi O P=>?_
  refine e1a2 G λtb S U=>?_
  refine#[_,J<|vq O (vq S vF j) L,λd F R p H o q Q s W Y r=>?_]
  refine P d F R p H _ q _ s W (λx Z u F1 R1 H1 q1 w g r1=>?_) r
  refine U Z F1 R1 p H1 _ q _ g q1 (λy l v F2 R2 H2 q2 z m r2=>?_) λC y d' F' R' n k c s'=>r C y d' F' R' n k (Ch.trans s g.tab w c) s'
  obtain⟨a,rfl,ha⟩:=E4<|g.val z r1
  obtain⟨b,rfl,hb⟩:=E4 r2
  refine#[a,b,x,y,rfl,wI.of ha,wI.of hb,m.tab,λn k _ t=>?_]
  obtain⟨c3,s3⟩:=m.Rn k t
  exact Y _ l _ F2 R2 n q2 (Ch.trans s g.tab w<|Ch.trans g m.tab z c3) s3 rfl
def Rp{p q:Wf D (Tp Int) D}(I:EW X E T h p)(J:EW X E T f q)(L:∀{i:TA},PA X [h,f] i->PE X e (Yv X.K T i))
 (M:hR [h,f] X.env=(false,eval h X.env)::hR [f] X.env:=by rfl) (j:hR [f] X.env=(false,eval f X.env)::hR [] X.env:=by rfl) :
    EW X E T e (cB p q λN (r:Bool->D->Prop) O m=>r (zW N.l O.l) m):=by
  refine e1a2 I λi P S=>?_
  refine e1a2 J λtb U W=>?_
  refine#[_,L<|vq P (vq U vF j) M,λd F R w H r z Q s Y Z A=>?_]
  refine S d F R w H _ z _ s Y (λx d1 u F1 R1 H1 q1 B g r1=>?_) A
  refine W d1 F1 R1 w H1 _ z _ g q1 (λy m v F2 R2 H2 q2 G n r2=>?_) λC y d' F' R' o k c s'=>A C y d' F' R' o k (Ch.trans s g.tab B c) s'
  obtain⟨a,rfl,ha⟩:=EZ<|g.val G r1
  obtain⟨b,rfl,hb⟩:=EZ r2
  refine#[a,b,x.l,y.l,rfl,zu.of ha,zu.of hb,n.tab,λo k _ t=>?_]
  obtain⟨c3,s3⟩:=n.Rn k t
  exact Z _ m _ F2 R2 o q2 (Ch.trans s g.tab B<|Ch.trans g n.tab G c3) s3 rfl
def OS{N O:Option iZ}{P:Wf D (Tp Int) D}{S U:Wf D (Option Int) D}(ha:EW X E T a P)(hl:OW X E T N S)(hh:OW X E T O U) :
  EW X E T (.Subscript a (.Slice N O none p2) pos) (λ(d:D)(W:Tp Int->D->Prop) f=>P d (λg r=>S r (λl t=>U t (λh n=>W #[Gc g.l l h] n) f) f) f):=by
 refine e1a2 ha λta a1 a2=>?_;refine e1a2 hl λtl l1 l2=>?_;refine e1a2 hh λth h1 h2=>?_;refine#[_,Ay (Yb.or Vj) a1 l1 h1,λd F R v H W f Q s j Y w=>?_];refine a2 d F R v H _ f _ s j (λg r u F1 R1 H1 q1 x i r1=>?_) w;refine l2 r F1 R1 v H1 _ f _ i q1 (λl t F2 R2 H2 q2 Z z=>?_) λC y A B G I k c J=>w C y A B G I k (Ch.trans s i.tab x c) J;refine h2 t F2 R2 v H2 _ f _ z q2 (λh n F3 R3 H3 q3 c3 o=>?_) λC y A B G I k c J=>w C y A B G I k (Ch.trans s i.tab x<|Ch.trans i z.tab Z c) J;have m:=Ch.trans i z.tab Z c3;have r3:=i.val m r1;obtain⟨q,b,rfl,k1,L,M⟩:=id r3;have cc:=Ch.trans s i.tab x m;have le:=Paired.length M;by_cases j:HT.xu b.length 0 l=0/\HT.xu b.length b.length h=b.length
 ·refine .inr #[q,b,rfl,zu.of L,j,?_];refine Y _ n _ F3 R3 H3 q3 cc o #[q,b,rfl,k1,L,?_]
  have e:Gc g.l l h=g.l:=by unfold Gc;rw[le,j.1,j.2,List.drop_zero,Nat.sub_zero,<- le,ve]
  rw[e];exact M
 ·refine .inl #[q,b,rfl,zu.of L,j,λp hp=>?_];refine e0a3 (o.new (.tup<|Ey b l h) hp) λs4 c4 n4=>?_;exact Y _ n _ F3 R3 _ q3 (Ch.trans s o.tab cc c4) s4 #[p,_,rfl,n4,vm,o.vals c4<|EM M l h]
end
structure SI(w:jf) where
 l:List Int
instance(w:jf):Ow (SI w):=#[λF _ H x v=>∃a ks,v=↑(.ref a)/\(∀b,F b↔b=a)/\H a=↑(xC w a ks)/\ks.Nodup/\(∀k,k∈ks↔k∈x.l)/\x.l.Pairwise (· < ·),
 λh e s n=>by
  refine e2a4 h λa ks h1 h2 h3 h4=>?_
  exact#[a,ks,h1,h2,e.keep a _ (n a<|(h2 a).mpr rfl) h3,h4],
 λh e=>by
  refine e2a4 h λa ks h1 h2 h3 h4=>?_
  exact#[a,ks,h1,λb=>(e b).symm.trans (h2 b),h3,h4]]
noncomputable def Gg(k:Int)(l:List Int):List Int:=if k∈l then l else ins k l
noncomputable def LA(k:Int)(l:List Int):List Int:=l.filter λx=>decide<|x≠k
def wH{a b:List Int}(c:a.Nodup)(d:b.Nodup)(h:∀k,k∈a↔k∈b):a.Perm b:=(List.perm_ext_iff_of_nodup c d).mpr h
def vt{l:List Int}(h:l.Pairwise (· < ·)):l.Nodup:=h.imp λq=>Int.ne_of_lt q
def No{l:List Int}(h:l.Pairwise (· < ·)):l.Pairwise (·<=·):=h.imp λq=>Int.le_of_lt q
def Rq{l:List Int}(h:l.Pairwise (·<=·))(n:l.Nodup):l.Pairwise (· < ·):=List.Pairwise.imp₂ (λa b (q:a<=b) (n:a≠b)=>by lia) h n
def zf{k:Int}:k∈Bx l↔k∈l:=(wN l).mem_iff
def E5{a:List Int}(n:a.Nodup)(h:∀k,k∈a↔k∈l)(r:l.Pairwise (· < ·)):Bx a=l:=zD ((wN a).trans<|wH n (vt r) h) (Bf a)<|No r
set_option tactic.hygienic true in
def Cu{k x:Int}:x∈Gg k l↔x=k\/x∈l:=by
 unfold Gg;split
 ·rename_i h
  exact#[.inr,λz=>z.elim (λe=>by rw[e];exact h) id]
 ·rw[(AF k l).mem_iff,iK]
set_option tactic.hygienic true in
def Ea{k:Int}{l:List Int}(r:l.Pairwise (· < ·)):(Gg k l).Pairwise (· < ·):=by
 unfold Gg;split
 ·exact r
 ·rename_i h
  exact Rq (HA k l<|No r)<|(AF k l).nodup_iff.mpr<|List.nodup_cons.mpr #[h,vt r]
def AJ{k x:Int}:x∈LA k l↔x∈l/\x≠k:=by unfold LA;rw[js];simp
section
variable{D PO τ:Type}[Sls D][Sls PO][Ow τ]{α:Type}[Rep α]
def Vk(j:X.w=w)(l:Gl X "set")(m:X.mg "set"=none):EO X E T (.Call (.Name "set" p) [] [] pos) (λ(d:D)(e:SI w->D->Prop) _=>e #[[]] d):=by
 subst j;refine#[_,K4 OO l m oB,λd F R v H e x Q s n r y=>#[rfl,λp c=>?_]];refine e0a3 (s.new (xC X.w p []) c) λf t g=>?_;have u:¬F p:=λz=>g<|s.sub p z;have i:Ext (λ_=>False) R H (λa=>R a\/a=p) (upd H p<|xC X.w p []):=⟨λb o _ h=>by rw[vh<|vv h c];exact h,λa h=>h.elim .inl λq=>.inr<|by rw[q];exact c⟩;refine r ⟨[]⟩ d _ (λa=>a=p) F (λa=>R a\/a=p) _ n #[t.keep,i.new,λa h=>h.elim (λq=>.inr<|by rw[q];exact c) .inl,λa h _=>.inl h] #[Sls.st s.rel i (λ_ z=>z.elim)<|λ_ _ z=>z,λa h=>.inl<|s.sub a h,λa h=>?_,f.tab,.inl s.v8,s.vV] #[#[p,[],rfl,λb=>Iff.rfl,vm,mY,λ_=>Iff.rfl,iO],λa h=>.inr h,λa h k=>u (by rw[<- h];exact k),λh=>g<|by rw[<- h];exact s.v8];rcases h with h|h
 ·exact f.xD a h
 ·rw[h,vm];simp
def tw_inS(i:Nat)(j:X.w=w)[Sls m][A:At i D (SI w) m](n:EW X E T a o)(q:PE X (.Name x p) (vT i))(r:jh .In (.Name x p)=false) :
  TW X E T (.Compare a [.In] [.Name x p] pos) (cK o λf k c=>f (decide<|k∈(A.get c).l) c):=by
 subst j;refine e1a2 n λY t y=>?_;refine#[_,ye Yx t q r,λd F R z H f B Q s C G I=>y d F R z H _ B _ s C (λk c u J L M N O g P=>?_) I];obtain⟨v,Z,G2,S,h2,⟨b,h,rfl,g2,U,g4,W,g6⟩,_⟩:=A.take g.rel;refine#[_,S,k,b,h,P,rfl,U,_,rfl,?_];have e:decide (k∈h)=decide (k∈(A.get c).l):=by simp only[W]
 rw[e];exact G _ c J L M N O g
def Eb{i:Nat}[Sls x][A:At i D (SI w) x][U:Pt i x (SI w) D](s:wz T F R H d y):∃a g,y[i]?=↑(some<|.ref a)/\H a=↑(xC w a g)/\g.Nodup/\(∀k,k∈g↔k∈(A.get d).l)/\(A.get d).l.Pairwise (· < ·) /\
  ∀(j f:List Int),f.Nodup->(∀k,k∈f↔k∈j)->j.Pairwise (· < ·)->Ch T F R H F R (upd H a<|xC w a f)/\wz T F R (upd H a<|xC w a f) (U.put (A.hole d) #[j]) y:=by
 obtain⟨v,W,X,B,m,⟨a,g,rfl,p,C,E,G,I⟩,J⟩:=A.take s.rel;have r:F a:=(m.all a).mpr<|.inl<|(p a).mpr rfl;have L:a≠T:=λz=>s.vV (by rw[<- z];exact r);refine#[a,g,B,C,E,G,I,λj f M N O=>?_];have P:=zZ (F:=F) (R:=R) (H:=H) (a:=a) (o:=xC w a f);have Q:∀c,c=a->R c:=λc z=>by rw[z];exact s.sub a r
 have k:∀b u,b≠a->H b=↑u->upd H a (xC w a f) b=↑u:=λb u z e=>by rw[vh z];exact e
 refine#[#[λb o n _ e=>k b o (λz=>n<|by rw[z];exact r) e,λ_ h=>.inl h,λ_ h=>.inl h,λ_ h _=>h],Pt.same (A:=U) (Sls.st J P Q λc z q=>m.yG c ((p c).mpr q) z) B m #[a,f,rfl,p,vm,M,N,O],s.sub,λc z=>?_,?_,s.v8,s.vV]
 ·by_cases e:c=a
  ·rw[e,vm];simp
  ·rw[vh e];exact s.xD c z
 ·refine e1a2 s.tab λS e t=>?_;exact#[S,k _ _ (λz=>L z.symm) e,t]
set_option tactic.hygienic true in
def Vl(i:Nat)(S:X.w=w)[Sls B][A:At i D (SI w) B][U:Pt i B (SI w) D][J:Pj D PO n](h:EW X E T e W)
 (Y:∀{t:TA},PA X [e] t->PS X (.Expr (.Call (.Attribute (.Name x Z) "add" p2) [e] [] p3) pos) (Jv<|Yy X.w (λx vs H Q=>∃(a:hJ)(f:List Int)(k:Int),x=.ref a/\vs=[.int k]/\H a=↑(xC X.w a f)/\f.length+1<=127/\∀b:List Int,b.Nodup->b.Perm (if k∈f then f else k::f)->Q .wW (upd H a<|xC X.w a b)) (vT i) t)) (hs:hR [e] X.env=71::hR [] X.env:=by rfl) :
    S1 X E T ms n (.Expr (.Call (.Attribute (.Name x Z) "add" p2) [e] [] p3) pos) (cS W J.pj λ(I:D->Prop)(Kr:τ->PO->Prop) y g=>(A.get g).l.length<127/\I (U.put (A.hole g) #[Gg y (A.get g).l])):=by
  subst S
  refine e1a2 h λt h1 h2=>?_
  refine#[_,Y<|vq h1 vF hs,λd F R L H I Kr Ke En s hw kn kr ke=>?_]
  refine e2a4 (Eb (i:=i) s) λa f j p g3 _=>?_
  refine#[_,j,#[a,f,rfl,p],h2 d F R L H _ _ _ s hw (λy g v M u N q c m r=>?_) λC y g M u N q c m=>?_]
  · obtain⟨a', b, O, k2, k3, o, P, k6⟩ := Eb (i := i) m
    rw[j]at O
    cases O
    subst r
    have aa:b.length=(A.get g).l.length:=(wH k3 (vt P) o).length_eq
    refine#[a,b,y,rfl,rfl,k2,by have:=q.1;lia,λus nu pu=>?_]
    obtain⟨c2,s2⟩:=k6 (Gg y (A.get g).l) us nu (λk=>by
      rw[pu.mem_iff,Cu]
      split
      · rename_i hy
        rw[o]
        exact#[.inr,λz=>z.elim (λe=>by rw[e];exact(o y).mp hy) id]
      · rw[iK, o]) (Ea P)
    exact kn _ M u _ L q.2 (Ch.trans s m.tab c c2) s2<|Ag.refl _ _
  · refine e1a2 (wY (PO := PO) m) λG j p => ?_
    exact ke C y _ G u N q (c.less j) p
set_option tactic.hygienic true in
def Vm(i:Nat)(W:X.w=w)[Sls B][A:At i D (SI w) B][U:Pt i B (SI w) D][J:Pj D PO n](h:EW X E T e Y)
 (Z:∀{t:TA},PA X [e] t->PS X (.Expr (.Call (.Attribute (.Name x p1) "discard" p2) [e] [] p3) pos) (Jv<|Yy X.w (λx vs H Q=>∃(a:hJ)(f:List Int)(k:Int),x=.ref a/\vs=[.int k]/\H a=↑(xC X.w a f)/\∀b:List Int,b.Nodup->(if k∈f then f.Perm (k::b) else b=f)->Q .wW (upd H a<|xC X.w a b)) (vT i) t)) (hs:hR [e] X.env=71::hR [] X.env:=by rfl) :
    S1 X E T ms n (.Expr (.Call (.Attribute (.Name x p1) "discard" p2) [e] [] p3) pos) (cS Y J.pj λ(I:D->Prop)(Kr:τ->PO->Prop) y g=>I<|U.put (A.hole g) #[LA y (A.get g).l]):=by
  subst W
  refine e1a2 h λt h1 h2=>?_
  refine#[_,Z<|vq h1 vF hs,λd F R L H I Kr Ke En s hw kn kr ke=>?_]
  refine e2a4 (Eb (i:=i) s) λa f j p g3 _=>?_
  refine#[_,j,#[a,f,rfl,p],h2 d F R L H _ _ _ s hw (λy g v M u N q c m r=>?_) λC y g M u N q c m=>?_]
  · obtain⟨a', b, O, k2, k3, k4, k5, k6⟩ := Eb (i := i) m
    rw[j]at O
    cases O
    subst r
    refine#[a,b,y,rfl,rfl,k2,λP nu o=>?_]
    obtain⟨c2,s2⟩:=k6 (LA y (A.get g).l) P nu (λk=>by
      rw[AJ,<- k4]
      split at o
      · rename_i S
        have nk:y∉P:=(List.nodup_cons.mp<|o.nodup_iff.mp k3).1
        rw[o.mem_iff,iK]
        exact#[λz=>#[.inr z,λe=>nk<|by rw[<- e];exact z],λz=>z.1.elim (λe=>iq e z.2) id]
      · rename_i S
        rw[o]
        exact#[λz=>#[z,λe=>S (by rw[<- e];exact z)],λz=>z.1]) (jF _ k5)
    exact kn _ M u _ L q (Ch.trans s m.tab c c2) s2<|Ag.refl _ _
  · refine e1a2 (wY (PO := PO) m) λG j p => ?_
    exact ke C y _ G u N q (c.less j) p
def LB(i:Nat)(j:X.w=w)[Sls k][A:At i D (SI w) k](m:X.calm=true)(n:Gl X "sorted")(o:X.mg "sorted"=none)(q:PE X (.Name x r) (vT i)) :
  EO X E T (.Call (.Name "sorted" p) [.Name x r] [] pos) (λ(d:D)(b:OL Int->D->Prop) _=>(A.get d).l.length<64/\b #[(A.get d).l] d):=by
 subst j;refine#[_,wZ (Cg m) n o kO<|vq q vF,λd F R N H b O Q s c t P=>?_];obtain⟨v,S,U,u,W,⟨a,e,rfl,Y,y,f,g,h⟩,Z⟩:=A.take s.rel;have z:e.length=(A.get d).l.length:=(wH f (vt h) g).length_eq;refine#[_,u,a,e,rfl,y,by have:=c.1;omega,λl ns B C G=>?_];rw[EL C G,E5 f g h];refine e1a3 (xW s B<|yq (R:=R) (H:=H) (A.get d).l) λI J L M=>?_;exact t _ d _ _ F I _ c.2 J L M
def HH{K:hO}{xs:List α}{vs:List V}:ZF (Itt K a) xs (λR H=>H a=↑(.tup vs)/\Paired (rp R H) xs vs) where
 go:=λ{R H i} p h=>by refine e1a2 (xl (i:=i) (x:=xs[i]) p.2<|by simp[h]) λv e _=>?_;exact#[vs,v,zu.of p.1,e]
 Jh:=λ{R H i v H'} p _ hi y=>by obtain⟨e,y⟩:=y;subst e;have y':=y vs<|zu.of p.1;refine e1a2 (xl (i:=i) (x:=xs[i]) p.2<|by simp[hi]) λu e r=>?_;rw[y']at e;cases e;exact#[.inl rfl,_,by simp[hi],r]
 stop:=λ{R H} p=>#[vs,zu.of p.1,by rw[Paired.length p.2];exact hV _]
def Rr{w:Wf D (Tp α) D}(h:EW X E T e w):IW X E T is tg e (λ(b:D)(_:List α)=>b) (cK w λKn x d'=>Kn x.l d'):=by refine e1a2 h λt h1 h2=>?_;refine#[_,X2 h1,λd F R σ H Kn Ke Rk s hw kn ke=>h2 d F R σ H _ _ _ s hw (λxs d' v F' R' H' q c s' r=>?_) ke];obtain⟨a,vs,rfl,r1,r2,r3⟩:=r;refine#[a,rfl,#[vs,zu.of r2],kn xs.l d' _ (λR H=>(H a=↑(.tup vs)/\Paired (rp R H) xs.l vs)/\¬R a) F' (λ_=>False) F' R' H' q c s'.Hy (two_nil F') s'.rel #[λp=>HH.go p.1,λp=>HH.Jh p.1,λp=>HH.stop p.1] #[#[r2,r3],r1] (λp gs nf ex=>?_) λb' G2 Xi KA Q1 σ' p h g t=>Sls.fq h<|two_eq t λ_ z=>z];have na:¬_:=λz=>p.2<|gs a z;exact#[#[ex.keep a _ na p.1.1,wE (ex.wide gs) p.1.2],ex.not p.2 p.1.1]
def E6{a:iH}{C:hJ}[Sls c][J:Pj D PO n](e:PS X a (QU C E<|BB (tC x) BQ)):S1 X E T j n a (λ(d:D)(_:c->Prop)(_:τ->PO->Prop) b=>b C<|J.pj d):=by refine⟨_,e,λd F R k H l m b o s f p q g=>#[(by show 1<=hX;decide),λy=>?_]⟩;refine e1a2 (wY (PO:=PO) s) λG h i=>?_;exact g C y _ G R H f ((67).less h) i
end
def w4(l:List Int):Prop:=l.Pairwise (· < ·)
noncomputable def asc(a:List Int):Bool:=zW a<|a.drop 1
def a0O(b:List c):Gc b ↑1 none=b.drop 1:=by
 unfold Gc;rw[HT.JD,show ↑(1:Int)=some ((1:Nat):Int) from rfl,HT.M3]
 cases b with
 |nil=>rfl
 |cons a r =>
  rw[show min 1 (a::r).length=1 by simp,jI];rw[nq];exact hV _
def Rs{a b:Int}:asc (a::b::r)=(decide (a<b)&&asc (b::r)):=rfl
def yg:∀(c:List Int),asc c=true↔w4 c
 | []=>#[λ_=>iO,λ_=>rfl]
 | [a]=>#[λ_=>j4 _ _,λ_=>rfl]
 |a::b::r=>by
  rw[Rs,i7,i9,yg (b::r)];constructor
  ·rintro⟨d,f⟩;refine List.pairwise_cons.mpr #[λx g=>?_,f];rcases List.mem_cons.mp g with e|e
   ·rw[e];exact d
   ·exact Int.lt_trans d<|(List.pairwise_cons.mp f).1 x e
  ·intro h;exact#[(List.pairwise_cons.mp h).1 b hW,(List.pairwise_cons.mp h).2]
def Ec(a:w4 b)(c:w4 d)(h:∀k,k∈b↔k∈d):b=d:=zD (wH (vt a) (vt c) h) (No a)<|No c
noncomputable def LC(l:List Int)(k:Int):List Int:=if k∈l then LA k l else Gg k l
def Np{k:Int}(h:w4 l):w4 (LC l k):=by
 unfold LC;split
 ·exact jF _ h
 ·exact Ea h
set_option tactic.hygienic true in
def Vn{k x:Int}:x∈LC l k↔((x∈l)↔¬x=k):=by
 unfold LC;split
 ·rename_i h
  rw[AJ];constructor
  ·intro⟨a,b⟩;exact#[λ_=>b,λ_=>a]
  ·intro z;by_cases e:x=k
   ·rw[e]at z;exact iq (z.mp h) q0o
   ·exact#[z.mpr e,e]
 ·rename_i h
  rw[Cu];constructor
  ·rintro(a|a)
   ·subst a;exact#[λz=>iq z h,λz=>iq rfl z]
   ·exact#[λ_ e=>h (by rw[<- e];exact a),λ_=>a]
  ·intro z;by_cases e:x=k
   ·exact .inl e
   ·exact .inr<|z.mpr e
noncomputable def xr(l r:List Int):List Int:=r.foldl LC l
def xL:∀{r l:List Int},w4 l->w4 (xr l r)
 | [],_,h=>h
 |_::r,_,h=>xL (r:=r)<|Np h
def zo:∀{r l:List Int} {x:Int},r.Nodup->(x∈xr l r↔((x∈l)↔¬x∈r))
 | [],l,x,_=>by simp[xr]
 |k::r,l,x,h=>by
  have a:=List.nodup_cons.mp h;show x∈xr (LC l k) r↔_;rw[zo a.2,Vn,iK];by_cases e:x=k
  ·subst e;simp[a.1]
  ·simp[e]
def HI{r:List Int}{x:Int}(a:r.Nodup)(h:x∈xr l r):x∈l\/x∈r:=by
 rw[zo a]at h;by_cases q:x∈r
 ·exact .inr q
 ·exact .inl<|h.mpr q
noncomputable def PU(a:List (List Int)):List Int:=a.foldl xr []
def Cv:∀{rows:List (List Int)} {l:List Int},w4 l->w4 (rows.foldl xr l)
 | [],_,h=>h
 |_::r,_,h=>Cv (rows:=r)<|xL h
def Vo(a:List (List Int)):w4 (PU a):=Cv iO
def wO{l U:List Int}(h:w4 l)(s:∀x∈l,x∈U):l.length<=U.length:=SX.zy _ _ (vt h) s
noncomputable def jn(a b:List Int):List Int:=Bx<|a.filter (λk=>!decide (k∈b))++b.filter λk=>!decide (k∈a)
def HJ{k:Int}:k∈jn a b↔(k∈a/\k∉b)\/(k∈b/\k∉a):=by unfold jn;rw[zf,lM,js,js];simp
def HK(c:w4 d)(f:w4 g):w4 (jn d g):=by refine Rq (Bf _)<|(wN _).nodup_iff.mpr<|List.nodup_append.mpr ⟨jF _<|vt c,jF _<|vt f,λa h b i e=>?_⟩;subst e;have j:=(List.mem_filter.mp h).1;have k:=(List.mem_filter.mp i).2;simp[j]at k
def Rt(e:w4 c)(f:w4 d):jn c d=xr c d:=Ec (HK e f) (xL e) λk=>by rw[HJ,zo<|vt f];by_cases a:k∈c<;>by_cases b:k∈d<;>simp[a,b]
def wv:∀{a:List k} {K:List g->S->Prop},(∀x∈a,∀K:Option g->S->Prop,K (f x) s->b x s K)->K (a.filterMap f) s->Ct b a s K:=by
 intro i
 induction i with
 |nil=>intro _ _ h;exact h
 |cons x a c =>
  intro K d h;refine d x hW _<|c (λy j=>d y<|hZ _ j) ?_
  have e:(x::a).filterMap f=(f x).toList++a.filterMap f:=by rw[lh];cases f x<;>rfl
  rw[e]at h;exact h
def filterMap_filter(p:b->Bool):∀a:List b,a.filterMap (λx=>if p x=true then some x else none)=a.filter p
 | []=>rfl
 |x::a=>by rw[lh,jK,filterMap_filter p a];cases p x<;>rfl
def vY(I:List j->B->Prop):∀(a:List j) {s:B},I a s->(∀x r s,(∃p,a=p++x::r)->I (x::r) s->∀K:B->Prop,(∀c,I r c->K c)->b x s K k l)->(∀s,I [] s->m s)->HF b a s m k l:=by
 intro d
 induction d with
 |nil=>intro s h _ f;exact f s h
 |cons x a g=>intro s h i f;exact i x a s #[[],rfl] h _ λc n=>g n (λy r o d=>e1a1 d λp e q=>i y r o #[x::p,by rw[e];rfl] q) f
def wc{n:Nat}(h:n<=1000):n<=hX:=mn<|Oz h
structure Bd(C:hJ)(fl:Bool) where
 rk:List (Int×Int)
 bd:List 96
 up:Int
 ht:List (Int×Int)
 th:List (Int×Int)
noncomputable def lk{a:Type}(l:List (Int×a))(k:Int):Option a:=(l.find? λe=>decide<|e.1=k).map (·.2)
noncomputable def B3(l:List (Int×Int)):List (Key×V):=l.map λe=>(iM e.1,V.int e.2)
def Cw(R:Rg)(H:Hp):List 96->List (Key×V)->Prop:=Paired λe u=>u.1=iM e.1/\rp R H (Tp.mk e.2) u.2
noncomputable def yW(a b c d:hJ)(e:Int)(f:Bool):List (Str×V):=("ranks",.ref a)::("borders",.ref b)::("upcoming",.int e)::(if f=true then [("head_by_tail",.ref c),("tail_by_head",.ref d)] else [])
noncomputable def adr(p dx d1 d2 d3 d4:hJ)(fl:Bool):List hJ:=p::dx::d1::d2::(if fl=true then [d3,d4] else [])
structure E7(C:hJ)(fl:Bool)(R:Rg)(H:Hp)(x:Bd C fl)(p dx d1 d2 d3 d4:hJ)(us:List (Key×V)):Prop where
 nd:(adr p dx d1 d2 d3 d4 fl).Nodup
 ob:H p=↑(.ins C dx<|yW d1 d2 d3 d4 x.up fl)
 ow:H dx=↑(.own p)
 rk:H d1=↑(.dK<|B3 x.rk)
 bd:H d2=↑(.dK us)
 tu:Cw R H x.bd us
 ht:fl=true->H d3=↑(.dK<|B3 x.ht)
 th:fl=true->H d4=↑(.dK<|B3 x.th)
def Ed{R R':Rg}{H H':Hp}(e:Ext R R H R' H'):∀{l:List 96} {us:List (Key×V)},Cw R H l us->Cw R' H' l us:=by
 intro _ _ z
 induction z with
 |nil=>exact .nil
 |cons h t ih=>exact .cons #[h.1,Rep.st h.2 e] ih
def E7.st{C:hJ}{fl:Bool}{G R R':Rg}{H H':Hp}{x:Bd C fl}{p dx d1 d2 d3 d4:hJ}{us:List (Key×V)}(b:E7 C fl R H x p dx d1 d2 d3 d4 us)(e:Ext G R H R' H')(s:∀a,G a->R a)(n:∀a,a∈adr p dx d1 d2 d3 d4 fl->¬G a):E7 C fl R' H' x p dx d1 d2 d3 d4 us :=
 #[b.nd,e.keep _ _ (n _<|by simp[adr]) b.ob,e.keep _ _ (n _<|by simp[adr]) b.ow,e.keep _ _ (n _<|by simp[adr]) b.rk,e.keep _ _ (n _<|by simp[adr]) b.bd,Ed (e.wide s) b.tu,λh=>e.keep _ _ (n _<|by simp[adr,h])<|b.ht h,λh=>e.keep _ _ (n _<|by simp[adr,h])<|b.th h]
instance(C:hJ)(fl:Bool):Ow (Bd C fl):=#[λF R H x v=>∃p dx d1 d2 d3 d4 us,v=↑(.ref p)/\(∀b,F b↔b∈adr p dx d1 d2 d3 d4 fl)/\E7 C fl R H x p dx d1 d2 d3 d4 us,
 λh e s n=>by
  obtain⟨p,dx,d1,d2,d3,d4,us,h1,h2,h3⟩:=h
  exact#[p,dx,d1,d2,d3,d4,us,h1,h2,h3.st e s λa z=>n a<|(h2 a).mpr z],
 λh e=>by
  obtain⟨p,dx,d1,d2,d3,d4,us,h1,h2,h3⟩:=h
  exact#[p,dx,d1,d2,d3,d4,us,h1,λb=>(e b).symm.trans (h2 b),h3]]
instance(C:hJ)(fl:Bool):Hs (Bd C fl):=#[λz9=>e7a2 z9 λ_ _ _ _ _ _ _ h _=>#[_,h]]
def JW{R L:Rg}{H:Hp}(k:∀a,L a->∃b,H a=↑(.lst b)):∀{l:List 96} {b:List (Key×V)},Cw R H l b->Cw (λa=>R a\/L a) H l b
 |_,_,.nil=>.nil
 |_,_,.cons h t=>.cons #[h.1,Lw.no h.2 k]<|JW k t
instance(C:hJ)(fl:Bool):Vb (Bd C fl):=#[λ{F R L H x v} h k=>by
 obtain⟨p,dx,d1,d2,d3,d4,us,h1,h2,b⟩:=h
 exact#[p,dx,d1,d2,d3,d4,us,h1,h2,b.nd,b.ob,b.ow,b.rk,b.bd,JW k b.tu,b.ht,b.th]]
structure Am(K:hO)(C:hJ):Prop where
 cl:Bw K C
 nR:wg K C "ranks"
 nB:wg K C "borders"
 nU:wg K C "upcoming"
structure PV(K:hO)(C:hJ):Prop where
 nH:wg K C "head_by_tail"
 nT:wg K C "tail_by_head"
def yN(k:Int):∀l:List (Int×Int),yK (B3 l) (iM k)=(lk l k).map V.int
 | []=>rfl
 |e::l=>by
  by_cases h:e.1=k
  ·show yK ((iM e.1,V.int e.2)::B3 l) _=_;rw[zw<|by rw[h]];unfold lk;rw[je,decide_eq_true h];rfl
  ·show yK ((iM e.1,V.int e.2)::B3 l) _=_;rw[zx (by intro z;exact h<|oh z),yN k l];unfold lk;rw[je,iC h]
def E8{R:Rg}{H:Hp}{k:Int}:∀{l:List 96} {us:List (Key×V)},Cw R H l us->(∀b,lk l k=↑b->∃v,yK us (iM k)=↑v/\rp R H (Tp.mk b) v)/\(lk l k=none->yK us (iM k)=none):=by
 intro z0 z1 z9
 induction z9 with
 |nil=>exact#[(λb h=>by cases h),λ_=>rfl]
 | @cons e u l us h t YV =>
  obtain⟨i1,i2⟩:=YV;by_cases q:e.1=k
  ·have e1:lk (e::l) k=↑e.2:=by unfold lk;rw[je,decide_eq_true q];rfl
   rw[e1];refine#[λb hb=>?_,(λz=>by cases z)];cases hb;exact#[u.2,zw (by rw[h.1,q]),h.2]
  ·have e1:lk (e::l) k=lk l k:=by unfold lk;rw[je,iC q]
   rw[e1,zx<|by rw[h.1];intro z;exact q<|oh z];exact#[i1,i2]
noncomputable def pk{a:Type}(l:List (Int×a))(k:Int)(v:a):List (Int×a):=if (lk l k).isSome then l.map (λe=>if e.1=k then (e.1,v) else e) else l++[(k,v)]
noncomputable def dk{a:Type}(l:List (Int×a))(k:Int):List (Int×a):=l.filter λe=>decide<|e.1≠k
def Vp(l:List (Int×Int))(k v:Int):putK (B3 l) (iM k) (V.int v)=B3 (pk l k v):=by
 unfold putK pk;rw[AB,yN,i4]
 cases (lk l k).isSome with
 |true =>
  rw[cr rfl,cr rfl];unfold B3;rw[kJ,kJ];refine mz λe _=>?_;show (if (iM e.1:Key)=iM k then _ else _)=(λe:Int×Int=>((iM e.1:Key),V.int e.2)) (if e.1=k then (e.1,v) else e);by_cases h:e.1=k
  ·rw[cr (by rw[h]),cr h]
  ·rw[hI<|λz=>h<|oh z,hI h]
 |false =>
  rw[hI ik,hI ik];unfold B3;rw[kC];rfl
def JX(l:List (Int×Int))(k:Int):AA (B3 l) (iM k)=B3 (dk l k):=by
 unfold AA dk B3;rw[rH];congr 1;refine m4 λe _=>?_;by_cases h:e.1=k
 ·simp[h]
 ·simp[h]
def JY{R:Rg}{H:Hp}{k:Int}{b:List Int}{v:V}(h:rp R H (Tp.mk b) v):∀{l:List 96} {us:List (Key×V)},Cw R H l us->Cw R H (l++[(k,b)]) (us++[(iM k,v)])
 |_,_,.nil=>.cons #[rfl,h] .nil
 |_,_,.cons q t=>.cons q<|JY h t
def Ru{R:Rg}{H:Hp}{l:List 96}{us:List (Key×V)}{k:Int}{b:List Int}{v:V}(t:Cw R H l us)(hn:lk l k=none)(h:rp R H (Tp.mk b) v):Cw R H (pk l k b) (putK us (iM k) v):=by unfold pk;rw[hn,Qr _<|(E8 t).2 hn];exact JY h t
def OT{R:Rg}{H:Hp}{k:Int}:∀{l:List 96} {us:List (Key×V)},Cw R H l us->Cw R H (dk l k) (AA us<|iM k):=by
 intro z0 z1 z9
 induction z9 with
 |nil=>exact .nil
 | @cons e u l us h t YV =>
  have ih:=YV;unfold dk AA at ih ⊢;rw[jK,jK];by_cases q:e.1=k
  ·rw[hI (by simpa using q),hI<|by rw[h.1];simpa using q];exact ih
  ·rw[cr (by simpa using q),cr<|by rw[h.1];simpa using q];exact .cons h ih
inductive ID where
 | rk|ht|th
noncomputable abbrev ID.nm:ID->Str
 | .rk=>"ranks" | .ht=>"head_by_tail" | .th=>"tail_by_head"
noncomputable abbrev ID.get{C:hJ}{a:Bool}:ID->Bd C a->List (Int×Int)
 | .rk,x=>x.rk|.ht,x=>x.ht|.th,x=>x.th
noncomputable abbrev ID.set{C:hJ}{a:Bool}:ID->Bd C a->List (Int×Int)->Bd C a
 | .rk,x,l=>{ x with rk:=l}|.ht,x,l=>{ x with ht:=l}|.th,x,l=>{ x with th:=l}
def ID.ok:ID->Bool->Prop
 | .rk,_=>True|.ht,fl=>fl=true|.th,fl=>fl=true
def nd4(h:(a::b::c::d::r).Nodup):(a≠b/\a≠c/\a≠d/\∀x∈r,a≠x)/\(b≠c/\b≠d/\∀x∈r,b≠x)/\(c≠d/\∀x∈r,c≠x)/\(∀x∈r,d≠x)/\r.Nodup:=by have g:=List.nodup_cons.mp h;have i:=List.nodup_cons.mp g.2;have j:=List.nodup_cons.mp i.2;have k:=List.nodup_cons.mp j.2;simp only[iK,qe]at g i j;exact#[#[g.1.1,g.1.2.1,g.1.2.2.1,λx f e=>g.1.2.2.2<|by rw[e];exact f],⟨i.1.1,i.1.2.1,λx f e=>i.1.2.2<|by rw[e];exact f⟩,⟨j.1.1,λx f e=>j.1.2<|by rw[e];exact f⟩,λx f e=>k.1 (by rw[e];exact f),k.2]
def AK(b:E7 C k R H x p s l m g i t)(q:ID)(u:q.ok k):∃d,(yW l m g i x.up k).lookup q.nm=↑(.ref d)/\H d=↑(.dK<|B3<|q.get x)/\d∈adr p s l m g i k /\
  ∀j,R d->E7 C k R (upd H d<|.dK<|B3 j) (q.set x j) p s l m g i t:=by
 have f:=nd4 b.nd;have n:∀d j,R d->Cw R (upd H d<|.dK<|B3 j) x.bd t:=λd j h=>Ed ((zZ (F:=R) (R:=R) (H:=H) (a:=d) (o:=.dK<|B3 j)).wide λc z=>by rw[z];exact h) b.tu
 cases q with
 |rk =>
  refine#[l,rfl,b.rk,by simp[adr],λj h=>#[b.nd,by rw[vh f.1.2.1];exact b.ob,by rw[vh f.2.1.1];exact b.ow,vm,by rw[vh f.2.2.1.1.symm];exact b.bd,n _ _ h,λz=>?_,λz=>?_]]
  ·rw[vh (f.2.2.1.2 g<|by rw[cr z];simp).symm];exact b.ht z
  ·rw[vh (f.2.2.1.2 i<|by rw[cr z];simp).symm];exact b.th z
 |ht =>
  have z:k=true:=u;subst z;have r:=List.nodup_cons.mp f.2.2.2.2;refine#[g,rfl,b.ht rfl,by simp[adr],λj h=>#[b.nd,by rw[vh<|f.1.2.2.2 g q0o];exact b.ob,by rw[vh<|f.2.1.2.2 g q0o];exact b.ow,by rw[vh<|f.2.2.1.2 g q0o];exact b.rk,by rw[vh<|f.2.2.2.1 g q0o];exact b.bd,n _ _ h,λ_=>vm,λ_=>?_]];rw[vh<|λe=>r.1<|by rw[<- e];simp];exact b.th rfl
 |th =>
  have z:k=true:=u;subst z;have r:=List.nodup_cons.mp f.2.2.2.2;refine#[i,rfl,b.th rfl,by simp[adr],λj h=>#[b.nd,by rw[vh<|f.1.2.2.2 i q0o];exact b.ob,by rw[vh<|f.2.1.2.2 i q0o];exact b.ow,by rw[vh<|f.2.2.1.2 i q0o];exact b.rk,by rw[vh<|f.2.2.2.1 i q0o];exact b.bd,n _ _ h,λ_=>?_,λ_=>vm]];rw[vh<|λe=>r.1<|by rw[e];simp];exact b.ht rfl
section
variable{D PO τ:Type}[Sls D][Sls PO][Ow τ]
def wQ{i:Nat}[Sls J][A:At i D (Bd C r) J](s:wz T F R H d L):∃p f g j l m B,L[i]?=↑(some<|.ref p)/\E7 C r R H (A.get d) p f g j l m B/\(∀a∈adr p f g j l m r,R a) /\
  ∀{U:Pt i J (Bd C r) D} {a:hJ} {o:HO} {E:Bd C r} {w:List (Key×V)},a∈adr p f g j l m r->E7 C r R (upd H a o) E p f g j l m w->Ch T F R H F R (upd H a o)/\wz T F R (upd H a o) (U.put (A.hole d) E) L:=by
 obtain⟨v,X,Y,M,G,⟨p,f,g,j,l,m,B,rfl,I,N⟩,O⟩:=A.take s.rel;have x:∀a∈adr p f g j l m r,F a:=λa h=>(G.all a).mpr<|.inl<|(I a).mpr h;refine⟨p,f,g,j,l,m,B,M,N,λa h=>s.sub a<|x a h,λ{U a o E w} y P=>?_⟩;have Q:=zZ (F:=F) (R:=R) (H:=H) (a:=a) (o:=o);have S:∀c,c=a->R c:=λc z=>by rw[z];exact s.sub a<|x a y
 have k:∀b u,b≠a->H b=↑u->upd H a o b=↑u:=λb u z e=>by rw[vh z];exact e
 refine#[#[λb o n _ e=>k b o (λz=>n<|by rw[z];exact x a y) e,λ_ h=>.inl h,λ_ h=>.inl h,λ_ h _=>h],Pt.same (A:=U) (Sls.st O Q S λc z q=>G.yG c ((I c).mpr<|by rw[q];exact y) z) M G ⟨p,f,g,j,l,m,w,rfl,I,P⟩,s.sub,λc z=>?_,?_,s.v8,s.vV]
 ·by_cases e:c=a
  ·rw[e,vm];simp
  ·rw[vh e];exact s.xD c z
 ·refine e1a2 s.tab λW e t=>?_;exact#[W,k _ _ (λz=>s.vV<|by rw[z];exact x a y) e,t]
def LD(q:ID)(b:Bool)(i:Nat)[Sls U][A:At i D (Bd C W) U](Y:q.ok W)(Z:Bw X.K C)(nf:wg X.K C q.nm)(G:X.A.units+1<kX)(hk:EW X E T a wk)(I:PE X (.Name x l) (vT i))(J:iW (.Name x l) q.nm X.env (eval (.Name x l) X.env)=eval (.Name x l) X.env:=by rfl)
 (L:jh (if b then .NotIn else .In) (.Attribute (.Name x l) q.nm p2)=false:=by with_unfolding_all rfl):EW X E T (.Compare a [if b then .NotIn else .In] [.Attribute (.Name x l) q.nm p2] pos) (cK wk λ(n:Bool->D->Prop) k c=>n (if b then !(lk (q.get<|A.get c) k).isSome else (lk (q.get<|A.get c) k).isSome) c):=by
  refine e1a2 hk λta M N=>?_
  have O:∀{c:D} {h j:Rg} {e:Hp} {f:St} {k:Int} {Q:VK},wz T h j e c f->Q (.bl<|if b then !(lk (q.get<|A.get c) k).isSome else (lk (q.get<|A.get c) k).isSome) e->X9 X.K (vT i) q.nm f e λy P=>∃a o,y=.ref a/\yB P a (.int k) o/\Q (.bl<|if b then !o.isSome else o.isSome) P:=λ{c h j e f k Q} g m=>by
    obtain⟨p,dx,e1,e2,e3,e4,us,g1,S,_,_⟩:=wQ (i:=i) g
    refine e1a4 (AK S q Y) λd l1 l2 _ _=>?_
    refine#[_,g1,p,C,dx,_,_,rfl,S.ob,Z,nf,l1,d,_,rfl,yB.k (k:=iM k) l2,?_]
    rw[yN,i4]
    exact m
  cases b with
  |false=>exact#[_,PY (Qu G M (xk I J)) L,λd F R f H n r Q s t m v=>N d F R f H _ r _ s t (λk c u h j e w z g B=>by
      subst B
      exact O g (m _ c _ h j e w z g rfl)) v]
  |true=>exact#[_,PY (C4 G M (xk I J)) L,λd F R f H n r Q s t m v=>N d F R f H _ r _ s t (λk c u h j e w z g B=>by
      subst B
      exact O g (m _ c _ h j e w z g rfl)) v]
def tw_dIn(q:ID)(b:Bool)(i:Nat)[Sls W][A:At i D (Bd C Y) W](Z:q.ok Y)(cl:Bw X.K C)(nf:wg X.K C q.nm)(I:X.A.units+1<kX)(hk:EW X E T a wk)(J:PE X (.Name x m) (vT i))(L:iW (.Name x m) q.nm X.env (eval (.Name x m) X.env)=eval (.Name x m) X.env:=by rfl)
 (M:jh (if b then .NotIn else .In) (.Attribute (.Name x m) q.nm p2)=false:=by with_unfolding_all rfl):TW X E T (.Compare a [if b then .NotIn else .In] [.Attribute (.Name x m) q.nm p2] pos) (cK wk λ(r:Bool->D->Prop) k e=>r (if b then !(lk (q.get<|A.get e) k).isSome else (lk (q.get<|A.get e) k).isSome) e):=by
  refine e1a2 hk λta N O=>?_
  have P:∀{e:D} {j l:Rg} {f:Hp} {g:St} {k:Int} {Q:VK},wz T j l f e g->Q (.bl<|if b then !(lk (q.get<|A.get e) k).isSome else (lk (q.get<|A.get e) k).isSome) f->X9 X.K (vT i) q.nm g f λy S=>∃a o,y=.ref a/\yB S a (.int k) o/\Q (.bl<|if b then !o.isSome else o.isSome) S:=λ{e j l f g k Q} h n=>by
    obtain⟨p,dx,e1,e2,e3,e4,us,g1,U,_,_⟩:=wQ (i:=i) h
    refine e1a4 (AK U q Z) λd l1 l2 _ _=>?_
    refine#[_,g1,p,C,dx,_,_,rfl,U.ob,cl,nf,l1,d,_,rfl,yB.k (k:=iM k) l2,?_]
    rw[yN,i4]
    exact n
  cases b with
  |false=>exact#[_,KJ (Qu I N (xk J L)) M,λd F R g H r t Q s v n w=>O d F R g H _ t _ s v (λk e u j l f z B h G=>by
      subst G
      exact P (Q:=λy H=>∃c,y=.bl c/\Q c H) h #[_,rfl,n _ e j l f z B h]) w]
  |true=>exact#[_,KJ (C4 I N (xk J L)) M,λd F R g H r t Q s v n w=>O d F R g H _ t _ s v (λk e u j l f z B h G=>by
      subst G
      exact P (Q:=λy H=>∃c,y=.bl c/\Q c H) h #[_,rfl,n _ e j l f z B h]) w]
def EV(X:Cx)(T:hJ)(e:iZ){D α:Type}[Sls D][Rep α](f:D->α):Prop :=
 ∃t,PE X e t/\∀(d:D)(F R:Rg)(σ:St)(H:Hp)(Q:VK),wz T F R H d σ->(∀v,rp R H (f d) v->Q v H)->t σ H Q
def wC[Rep a][Sls b](i:Nat)[A:At i D a b](c:PE X (.Name y pos) (vT i)):EV X T (.Name y pos) (λ(d:D)=>A.get d):=by refine#[_,c,λd F R h H Q s e=>?_];obtain⟨v,j,k,f,l,⟨_,u,rfl,g⟩,_⟩:=A.take s.rel;exact#[u,f,e u g]
def Rv{m:Int}{k:Nat}:EV X T (.Constant (.int m) k pos) (λ(_:D)=>m):=#[_,vL,λd F R b H Q s a=>a _ rfl]
def Ee(q:ID)(i:Nat)[Sls h][A:At i D (Bd C j) h](l:q.ok j)(m:Bw X.K C)(n:wg X.K C q.nm)(o:X.A.units+1<kX)(t:PE X (.Name x b) (vT i))(u:EV X T a f)(w:iW (.Name x b) q.nm X.env (eval (.Name x b) X.env)=eval (.Name x b) X.env:=by rfl)(B:Qs a:=by intro _ _;rfl) :
  EW X E T (.Subscript (.Attribute (.Name x b) q.nm Y) a pos) (λ(d:D)(c:Int->D->Prop) _=>∃v,lk 88 (f d)=↑v/\c v d):=by
 refine e1a2 u λZ G I=>?_;refine#[_,Hj o (xk t w) G B,λd F R J H c Ke Q s L M ke=>?_];obtain⟨p,N,e1,e2,e3,e4,us,O,e,_,_⟩:=wQ (i:=i) s;refine e1a4 (AK e q l) λy P S _ _=>?_;refine#[_,O,p,C,N,_,_,rfl,e.ob,m,n,P,I d F R J H _ s λv r=>?_];subst r;refine e1a2 L λz U W=>?_;have g:=yB.k (k:=iM<|f d) S;rw[yN,U]at g;exact#[y,_,rfl,g,M z d _ F R H W 67 s rfl]
def Bk(i:Nat)[Sls h][A:At i D (Bd C U) h](j:Bw X.K C)(l:wg X.K C "borders")(m:X.A.units+1<kX)(n:PE X (.Name x b) (vT i))(o:EV X T a f)(q:iW (.Name x b) "borders" X.env (eval (.Name x b) X.env)=eval (.Name x b) X.env:=by rfl)(t:Qs a:=by intro _ _;rfl) :
  EW X E T (.Subscript (.Attribute (.Name x b) "borders" W) a pos) (λ(d:D)(e:Tp Int->D->Prop) _=>∃v,lk (A.get d).bd (f d)=↑v/\e #[v] d):=by
 refine e1a2 o λY u y=>?_;refine#[_,Hj m (xk n q) u t,λd F R B H e Z Q s G I ke=>?_];obtain⟨p,J,e1,L,e3,e4,us,M,c,_,_⟩:=wQ (i:=i) s;refine#[_,M,p,C,J,_,_,rfl,c.ob,j,l,rfl,y d F R B H _ s λv r=>?_];subst r;refine e1a2 G λz N O=>?_;refine e1a2 ((E8 c.tu).1 z N) λw P S=>?_;have g:=yB.k (k:=iM<|f d) c.bd;rw[P]at g;exact#[L,w,rfl,g,I #[z] d _ F R H O 67 s S]
def Vq(q:ID)(i:Nat)[Sls g][A:At i D (Bd C h) g](j:q.ok h)(k:Bw X.K C)(l:wg X.K C q.nm)(m:Gl X "len")(n:X.mg "len"=none)(o:PE X (.Name x a) (vT i))(r:iW (.Name x a) q.nm X.env (eval (.Name x a) X.env)=eval (.Name x a) X.env:=by rfl)
 (b:hR [.Attribute (.Name x a) q.nm c] X.env=(false,eval (.Attribute (.Name x a) q.nm c) X.env)::hR [] X.env:=by rfl) :
    EW X E T (.Call (.Name "len" G) [.Attribute (.Name x a) q.nm c] [] pos) (λ(d:D)(e:Int->D->Prop) _=>e ((88).length:Int) d):=by
  refine#[_,wZ OA m n mW (vq (xk o r) vF b) (he:=b),λd F R I H e J Q s t u L=>?_]
  obtain⟨p,v,M,N,O,P,S,w,f,_,_⟩:=wQ (i:=i) s
  refine e1a4 (AK f q j) λy z B _ _=>?_
  refine#[_,w,p,C,v,_,_,rfl,f.ob,k,l,z,y,_,rfl,B,u _ d _ F R H t 67 s ?_]
  show V.int _=V.int _
  unfold B3
  rw[h8]
def E9(q:ID)(i:Nat)[Sls h][A:At i D (Bd C j) h](k:q.ok j)(m:Bw X.K C)(n:wg X.K C q.nm)(o:X.calm=true)(r:Gl X "sorted")(t:X.mg "sorted"=none)(u:PE X (.Name x a) (vT i))(v:iW (.Name x a) q.nm X.env (eval (.Name x a) X.env)=eval (.Name x a) X.env:=by rfl)
 (b:hR [.Attribute (.Name x a) q.nm c] X.env=(false,eval (.Attribute (.Name x a) q.nm c) X.env)::hR [] X.env:=by rfl) :
    EO X E T (.Call (.Name "sorted" U) [.Attribute (.Name x a) q.nm c] [] pos) (λ(d:D)(e:OL Int->D->Prop) _=>(88).length<64/\e #[Bx ((88).map (·.1))] d):=by
  refine#[_,wZ (Hx o) r t kO (vq (xk u v) vF b) (he:=b),λd F R W H e Y Q s f w Z=>?_]
  obtain⟨p,z,e1,e2,e3,e4,us,B,g,_,_⟩:=wQ (i:=i) s
  refine e1a4 (AK g q k) λy G I _ _=>?_
  refine#[_,B,p,C,z,_,_,rfl,g.ob,m,n,G,y,_,(88).map (·.1),rfl,I,?_,by rw[h8];exact f.1,λl ns J L M=>?_]
  · unfold B3
    rw[kJ,kJ]
    rfl
  · rw[EL L M]
    refine e1a3 (xW s J (yq (R:=R) (H:=H) (Bx ((88).map (·.1))))) λN O P S=>?_
    exact w _ d _ _ F N _ f.2 O P S
def Xn(i:Nat)[Sls c][A:At i D (Bd C o) c](e:Bw X.K C)(f:wg X.K C "upcoming")(g:PE X (.Name x a) (vT i))(h:iW (.Name x a) "upcoming" X.env (eval (.Name x a) X.env)=eval (.Name x a) X.env:=by rfl) :
  EW X E T (.Attribute (.Name x a) "upcoming" pos) (λ(d:D)(b:Int->D->Prop) _=>b (A.get d).up d):=by
 refine#[_,xk g h,λd F R q H b r Q s j k t=>?_];obtain⟨p,l,u,v,w,y,z,m,n,_,_⟩:=wQ (i:=i) s;exact#[_,m,p,C,l,_,_,rfl,n.ob,e,f,rfl,k _ d _ F R H j 67 s rfl]
def HL(q:ID)(i:Nat)[Sls o][A:At i D (Bd C t) o][U:Pt i o (Bd C t) D][J:Pj D PO n](N:q.ok t)(O:Bw X.K C)(P:wg X.K C q.nm)(Q:X.A.units+1<kX)(S:PE X (.Name x g) (vT i))(W:EV X T a f)(Y:EW X E T e Z)(hb:iW (.Name x g) q.nm X.env (eval (.Name x g) X.env)=eval (.Name x g) X.env:=by rfl)
 (hs:kj e (some<|.Subscript (.Attribute (.Name x g) q.nm p2) a p3) pos.line X.env=pure false:=by rfl) :
    S1 X E T ms n (.Assign [.Subscript (.Attribute (.Name x g) q.nm p2) a p3] e pos) (cS Z J.pj λ(z:D->Prop)(Kr:τ->PO->Prop) v b=>(q.get<|A.get b).length<hX/\z (U.put (A.hole b)<|q.set (A.get b)<|pk (q.get<|A.get b) (f b) v)):=by
  refine e1a2 W λta a1 a2=>?_
  refine e1a2 Y λte b1 b2=>?_
  refine#[_,Hk Q (xk S hb) a1 b1 hs,λd F R j H z Kr Ke En s hw kn kr ke=>b2 d F R j H _ _ _ s hw (λv b u B I H1 L c1 l r1=>?_) λC y d' F' R' H' q c s'=>?_]
  · obtain⟨p, dx, e1, e2, e3, e4, us, m, h, g3, g4⟩ := wQ (i := i) l
    refine e1a4 (AK h q N) λy l1 l2 M l4=>?_
    subst r1
    refine#[_,m,p,C,dx,_,_,rfl,h.ob,O,P,l1,a2 b B I j H1 _ l λw r=>?_]
    subst r
    obtain⟨c2,s2⟩:=g4 (U:=U) M<|l4 (pk (q.get<|A.get b) (f b) v)<|g3 y M
    refine#[y,_,rfl,Hi.k (k:=iM<|f b) l2 (by unfold B3;rw[h8];exact L.1),?_]
    rw[Vp]
    exact kn _ B I _ j L.2 (Ch.trans s l.tab c1 c2) s2<|Ag.refl _ _
  · refine e1a2 (wY (PO := PO) s') λG m h => ?_
    exact ke C y _ G R' H' q (c.less m) h
def Fa(b:E7 C i R H y p j k f g h n)(m:R f)(t:Cw R H l d):E7 C i R (upd H f<|.dK d) { y with bd:=l} p j k f g h d:=by have e:=nd4 b.nd;exact⟨b.nd,by rw[vh e.1.2.2.1];exact b.ob,by rw[vh e.2.1.2.1];exact b.ow,by rw[vh e.2.2.1.1];exact b.rk,vm,Ed ((zZ (F:=R) (R:=R) (H:=H) (a:=f) (o:=.dK d)).wide λc z=>by rw[z];exact m) t,λz=>by rw[vh (e.2.2.2.1 g<|by rw[cr z];simp).symm];exact b.ht z,λz=>by rw[vh (e.2.2.2.1 h<|by rw[cr z];simp).symm];exact b.th z⟩
def Vs(i:Nat){o:Type}[Sls o][A:At i D (Bd C L) o][U:Pt i o (Bd C L) D][J:Pj D PO n]{f:D->Int}{M:Wf D (Tp Int) D}(W:Bw X.K C)(Y:wg X.K C "borders")(Z:X.A.units+1<kX)(hn:PE X (.Name x j) (vT i))(hk:EV X T a f)(he:EW X E T e M)(hb:iW (.Name x j) "borders" X.env (eval (.Name x j) X.env)=eval (.Name x j) X.env:=by rfl)
 (hs:kj e (some<|.Subscript (.Attribute (.Name x j) "borders" p2) a p3) pos.line X.env=pure false:=by rfl) :
    S1 X E T ms n (.Assign [.Subscript (.Attribute (.Name x j) "borders" p2) a p3] e pos) (cS M J.pj λ(N:D->Prop)(Kr:τ->PO->Prop) v g=>(A.get g).bd.length<hX/\lk (A.get g).bd (f g)=none/\N (U.put (A.hole g) { A.get g with bd:=pk (A.get g).bd (f g) v.l})):=by
  refine e1a2 hk λta a1 a2=>?_
  refine e1a2 he λte b1 b2=>?_
  refine#[_,Hk Z (xk hn hb) a1 b1 hs,λd F R t H N Kr Ke En s hw kn kr ke=>b2 d F R t H _ _ _ s hw (λv g u O P H1 z c1 B r1=>?_) λC y d' F' R' H' q c s'=>?_]
  · obtain⟨p, Q, e1, m, e3, e4, us, I, h, g3, g4⟩ := wQ (i := i) B
    have S:m∈adr p Q e1 m e3 e4 L:=by simp[adr]
    refine#[_,I,p,C,Q,_,_,rfl,h.ob,W,Y,rfl,a2 g O P t H1 _ B λw r=>?_]
    subst r
    obtain⟨c2,s2⟩:=g4 (U:=U) S<|Fa h (g3 m S)<|Ru (b:=v.l) h.tu z.2.1 r1
    exact#[m,_,rfl,Hi.k (k:=iM<|f g) h.bd (by rw[<- Paired.length h.tu];exact z.1),kn _ O P _ t z.2.2 (Ch.trans s B.tab c1 c2) s2<|Ag.refl _ _]
  · refine e1a2 (wY (PO := PO) s') λG I h => ?_
    exact ke C y _ G R' H' q (c.less I) h
def a0P(i:Nat)[Sls w][A:At i D (Bd C f) w][U:Pt i w (Bd C f) D][J:Pj D PO n](P:Bw X.K C)(Q:wg X.K C "upcoming")(S:PE X (.Name x B) (vT i))(W:EW X E T e Y)(Z:kj e (some<|.Attribute (.Name x B) "upcoming" p2) pos.line X.env=pure false:=by rfl) :
  S1 X E T ms n (.Assign [.Attribute (.Name x B) "upcoming" p2] e pos) (cS Y J.pj λ(I:D->Prop)(Kr:τ->PO->Prop) v j=>I<|U.put (A.hole j) { A.get j with up:=v}):=by
 refine e1a2 W λte b1 b2=>?_;refine#[_,C3 S b1 Z,λd F R L H I Kr Ke En s hw kn kr ke=>b2 d F R L H _ _ _ s hw (λv j u F1 o M q1 c1 N r1=>?_) λC y d' F' R' H' q c s'=>?_]
 ·obtain⟨p,r,k,l,g,h,us,t,b,g3,g4⟩:=wQ (i:=i) N;subst r1;have O:p∈adr p r k l g h f:=by simp[adr]
  have m:=nd4 b.nd;have eq:Ax "upcoming" (V.int v) (yW k l g h (A.get j).up f)=yW k l g h v f:=rfl;have nb:E7 C f o (upd M p<|.ins C r<|yW k l g h v f) { A.get j with up:=v} p r k l g h us:=⟨b.nd,vm,by rw[vh m.1.1.symm];exact b.ow,by rw[vh m.1.2.1.symm];exact b.rk,by rw[vh m.1.2.2.1.symm];exact b.bd,Ed ((zZ (F:=o) (R:=o) (H:=M) (a:=p)).wide λc z=>by rw[z];exact g3 p O) b.tu,λz=>by rw[vh (m.1.2.2.2 g<|by rw[cr z];simp).symm];exact b.ht z,λz=>by rw[vh (m.1.2.2.2 h<|by rw[cr z];simp).symm];exact b.th z⟩;obtain⟨c2,s2⟩:=g4 (U:=U) O nb;refine#[_,t,p,C,r,_,rfl,b.ob,P,Q,?_,?_]
  ·unfold yW;split<;>(simp only[iF,nP];decide)
  ·rw[eq];exact kn _ F1 o _ L q1 (Ch.trans s N.tab c1 c2) s2<|Ag.refl _ _
 ·refine e1a2 (wY (PO:=PO) s') λG t b=>?_;exact ke C y _ G R' H' q (c.less t) b
def Nq(q:ID)(i:Nat)[Sls c][A:At i D (Bd C e) c][U:Pt i c (Bd C e) D][J:Pj D PO n](u:q.ok e)(v:Bw X.K C)(z:wg X.K C q.nm)(B:PE X (.Name x b) (vT i))(G:EV X T a f)(I:∀{g h:TE},PE X (.Attribute (.Name x b) q.nm j) g->PE X a h->PS X (.Delete [.Subscript (.Attribute (.Name x b) q.nm j) a L] pos) (Qt g h))(M:iW (.Name x b) q.nm X.env (eval (.Name x b) X.env)=eval (.Name x b) X.env:=by rfl) :
  S1 X E T ms n (.Delete [.Subscript (.Attribute (.Name x b) q.nm j) a L] pos) (λ(d:D)(k:D->Prop)(N:τ->PO->Prop)(O:hJ->PO->Prop)=>(lk 88<|f d).isSome=true/\k (U.put (A.hole d)<|q.set (A.get d)<|dk 88<|f d)):=by
 refine e1a2 G λta P Q=>?_;refine#[_,I (xk B M) P,λd F R l H k N O En s m S kr ke=>?_];obtain⟨p,W,e1,e2,e3,e4,us,Y,o,Z,g4⟩:=wQ (i:=i) s;refine e1a4 (AK o q u) λy l1 l2 t l4=>?_;refine#[_,Y,p,C,W,_,_,rfl,o.ob,v,z,l1,Q d F R l H _ s λw r=>?_];subst r;obtain⟨c2,s2⟩:=g4 (U:=U) t<|l4 (dk 88<|f d)<|Z y t;refine#[y,_,iM<|f d,rfl,l2,rfl,by rw[yN,i4];exact m.1,?_];rw[JX];exact S _ F R _ l m.2 c2 s2<|Ag.refl _ _
def Vt(i:Nat)[Sls h][A:At i D (Bd C j) h][U:Pt i h (Bd C j) D][J:Pj D PO n](I:Bw X.K C)(L:wg X.K C "borders")(M:PE X (.Name x c) (vT i))(N:EV X T a f)(O:∀{l m:TE},PE X (.Attribute (.Name x c) "borders" o) l->PE X a m->PS X (.Delete [.Subscript (.Attribute (.Name x c) "borders" o) a P] pos) (Qt l m))(Q:iW (.Name x c) "borders" X.env (eval (.Name x c) X.env)=eval (.Name x c) X.env:=by rfl) :
  S1 X E T ms n (.Delete [.Subscript (.Attribute (.Name x c) "borders" o) a P] pos) (λ(d:D)(q:D->Prop)(S:τ->PO->Prop)(W:hJ->PO->Prop)=>(lk (A.get d).bd<|f d).isSome=true/\q (U.put (A.hole d) { A.get d with bd:=dk (A.get d).bd (f d)})):=by
 refine e1a2 N λta Y Z=>?_;refine#[_,O (xk M Q) Y,λd F R t H q S W En s u kn kr ke=>?_];obtain⟨p,y,e1,g,e3,e4,us,g1,e,g3,g4⟩:=wQ (i:=i) s;have B:g∈adr p y e1 g e3 e4 j:=by simp[adr]
 refine#[_,g1,p,C,y,_,_,rfl,e.ob,I,L,rfl,Z d F R t H _ s λw r=>?_];subst r;obtain⟨c2,s2⟩:=g4 (U:=U) B<|Fa e (g3 g B)<|OT (k:=f d) e.tu;refine#[g,us,iM<|f d,rfl,e.bd,rfl,?_,kn _ F R _ t u.2 c2 s2<|Ag.refl _ _]
 cases z:lk (A.get d).bd (f d) with
 |none =>
  have G:=u.1;rw[z]at G;cases G
 |some b =>
  refine e1a2 ((E8 e.tu).1 b z) λv v1 _=>?_;rw[v1];rfl
end
section
variable{D PO τ:Type}[Sls D][Sls PO][Ow τ]{α:Type}[Rep α]
def JZ(i:Nat){D1 P O B B1 S:Type}[Sls D1][Sls P][Sls O][Sls B][Sls B1][Sls S][Lb S τ<|Bd C J×O]{I:B->S->O->D}{wr:D->(P->B->S->Prop)->75->Prop}
 {wf:Wf (Bd C J×P) τ (Bd C J×O)} [A0:At i D (Bd C J) D1] [A:At i B (Bd C J) B1] [U:Pt i B1 (Bd C J) B] (hl:∀a b c d u,(yW a b c d u J).lookup m=none)
 (b2:∀(d:D)(F R:Rg)(k:St)(H:Hp)(W:P->B->S->Prop)(M:hJ->D->Prop)(Q:List V->Hp->Prop),wz T F R H d k->wr d W M ->
 (∀p b l vs us F1 X L w j e,W p b l->Ch T F R H w j e->Std T w j e->ET w F1 X L->rel F1 (Wo j L) e p (vs.map some)->rel X j e b k->rel L j e l us ->
 (∀b' l' G1 G2 G3 o f h G,rel G1 f h G (vs.map some)->rel G2 f h b' k->rel G3 f h l' us->ET o G1 G2 G3->rel o f h (I b' l' G) k)->Q vs e) ->
 (∀C y r w j e,M C r->Ch T F R H w j e->wz T w j e r k->E (.ref C) ↑y e)->tr k H Q)
 (d:D) (F R:Rg) (k:St) (H:Hp) (W:τ->D->Prop) (M:hJ->D->Prop) (Q:VK) (s:wz T F R H d k) (hw:wr d (λp b l=>wf (A.get b,p) (λy G=>W y<|I (U.put (A.hole b) G.1) l G.2)<|λC G=>M C<|I (U.put (A.hole b) G.1) l G.2) M)
 (kn:∀x r v F1 X j e,W x r->Ch T F R H (λa=>F1 a\/X a) j e->wz T X j e r k->Nw T F1 X j e x v->Q v e)
 (ke:∀C y r w j e,M C r->Ch T F R H w j e->wz T w j e r k->E (.ref C) ↑y e):Gx C m (yM T wf) [] E (vT i) tr k H Q:=by
  obtain⟨v,_,_,hv,_,⟨a,dx,d1,d2,d3,d4,aa,rfl,_,g⟩,_⟩:=A0.take s.rel
  refine#[_,hv,a,dx,_,rfl,g.ob,hl _ _ _ _ _,b2 d F R k H _ M _ s hw (λp b l vs us G1 G2 L w j e q2 c2 s2 Y h1 h2 h3 km=>?_) ke]
  rw[kY]
  refine e3a4 (A.take h2) λv' M1 M2 z1 z2 z3 z4=>?_
  rw[hv]at z1
  cases z1
  have m1:∀a,M1 a->G2 a:=λa m=>(z2.all a).mpr<|.inl m
  have m2:∀a,M2 a->G2 a:=λa m=>(z2.all a).mpr<|.inr m
  refine EU (F:=w) (F1:=λa=>M1 a\/G1 a) (F2:=M2) (L:=L) (mrg:=λ(b:B1)(l:S)(p:Bd C J×O)=>I (U.put b p.1) l p.2) (wf:=wf) (p:=(A.get b,p)) (b:=A.hole b) (l:=l) (us:=us) (σ:=k) (Kn:=W) (Ke:=M) s2 #[λa=>?_,λa m n=>?_,λa m n=>?_,λa m n=>Y.KD a (m2 a m) n] #[some<|.ref a,vs.map some,M1,G1,rfl,⟨λ_=>Iff.rfl,λa m n=>Y.Ji a n<|m1 a m⟩,Ow.wk z3<|Dh j L e,h1] z4 h3 (λb' l' L1 L2 L3 o f h G h3 h4 h5 t=>?_) q2 (λx r v M1 M2 f h q' c' N n=>kn x r v M1 M2 f h q' (Ch.trans s s2.tab c2 c') N n) λC y r o f h q' c' N=>ke C y r o f h q' (Ch.trans s s2.tab c2 c') N
  · rw[Y.all, z2.all]
    exact#[λz=>z.elim (λq=>.inl<|.inr q) λz=>z.elim 122 λq=>.inr<|.inr q,λz=>z.elim (λz=>z.elim (λq=>.inr<|.inl<|.inl q) .inl) λz=>z.elim (λq=>.inr<|.inl<|.inr q) λq=>.inr<|.inr q]
  · rcases m with m|m
    · exact z2.yG a m n
    · exact Y.Ji a m<|m2 a n
  · rcases m with m|m
    · exact Y.KD a (m1 a m) n
    · exact Y.KC a m n
  · refine e4a4 h3 λv' ab N1 N2 y1 Z y3 y4 => ?_
    injection y1 with y5 y6
    subst y5;subst y6
    have tt:DU (λa=>N1 a\/L2 a) N1 L2:=#[λ_=>Iff.rfl,λa m n=>t.Ji a ((Z.all a).mpr<|.inl m) n]
    refine km _ l' N2 (λa=>N1 a\/L2 a) L3 o f h G.2 y4 (Pt.same (A:=U) h4 hv tt y3) h5 #[λa=>?_,λa m n=>?_,λa m n=>t.KC a ((Z.all a).mpr<|.inr m) n,λa m n=>?_]
    · rw[t.all, Z.all]
      exact#[λz=>z.elim (λz=>z.elim (λq=>.inr<|.inl<|.inl q) .inl) λz=>z.elim (λq=>.inr<|.inl<|.inr q) λq=>.inr<|.inr q,λz=>z.elim (λq=>.inl<|.inr q) λz=>z.elim 122 λq=>.inr<|.inr q]
    · rcases n with n|n
      · exact Z.yG a n m
      · exact t.Ji a ((Z.all a).mpr<|.inr m) n
    · rcases m with m|m
      · exact t.KC a ((Z.all a).mpr<|.inl m) n
      · exact t.KD a m n
def Rx{n:List iZ}(i:Nat){s P h B q o:Type}[Sls s][Sls P][Sls h][Sls B][Sls q][Sls o][Lb o τ<|Bd C g×h]{j:B->o->h->D}{v:D->(P->B->o->Prop)->75->Prop}
 {r:Wf (Bd C g×P) τ (Bd C g×h)} [N:At i D (Bd C g) s] [A:At i B (Bd C g) q] [U:Pt i q (Bd C g) B] {k:Nat} {y:List Str}
 (F:vU X.prog X.w X.K X.mg X.base 123 k f G y (yM T r)) (O:wM k X.A) (Q:Bw X.K C) (R:Meth X.K C m f) (S:Binds X.K G y []) (W:Passes 123 X E) (Y:PE X (.Name x z) (vT i))
 (H:∀a b c d u,(yW a b c d u g).lookup m=none)
 (I:∀{t:TA},PA X (e::n) t->PE X (.Call (.Attribute (.Name x z) m apos) (e::n) [] pos) (Gx C m (yM T r) [] E (vT i) t)) (J:Lx X E T (e::n) j v) :
    EO X E T (.Call (.Attribute (.Name x z) m apos) (e::n) [] pos) (cM v r A.get λb l p=>j (U.put (A.hole b) p.1) l p.2):=by
  refine e1a2 J λZ L M=>?_
  exact#[_,I L,JZ i H M]
def Ry(i:Nat){h:Type}[Sls h]
 {j:Wf (Bd C e×Unit) τ (Bd C e×Unit)} [A:At i D (Bd C e) h] [U:Pt i h (Bd C e) D] {k:Nat} {B:List Str}
 (F:vU X.prog X.w X.K X.mg X.base 123 k f N B (yM T j)) (hr:wM k X.A) (cl:Bw X.K C) (hm:Meth X.K C m f) (hb:Binds X.K N B []) (hx:Passes 123 X E) (hn:PE X (.Name x G) (vT i))
 (O:∀a b c d u,(yW a b c d u e).lookup m=none)
 (P:PE X (.Call (.Attribute (.Name x G) m apos) [] [] pos) (Gx C m (yM T j) [] E (vT i) BQ)) :
    EO X E T (.Call (.Attribute (.Name x G) m apos) [] [] pos) (λ(d:D)(o:τ->D->Prop) r=>j (A.get d,()) (λy l=>o y<|U.put (A.hole d) l.1)<|λC l=>r C<|U.put (A.hole d) l.1):=by
  refine#[_,P,λd F R S H o r Q s W Y Z=>?_]
  refine e3a4 (A.take s.rel) λv I M2 J z2 L z4=>?_
  obtain⟨a,dx,d1,d2,d3,d4,aa,rfl,_,g⟩:=id L
  refine#[_,J,a,dx,_,rfl,g.ob,O _ _ _ _ _,?_]
  refine Q6 (F:=F) (F1:=I) (F2:=M2) (mrg:=λ(b:h)(p:Bd C e×Unit)=>U.put b p.1) (wf:=j) (p:=(A.get d,())) (b:=A.hole d) (σ:=S) (Kn:=o) (Ke:=r) s.Hy z2 #[some<|.ref a,[],I,λ_=>False,rfl,#[λ_=>#[.inl,λz=>z.elim id λq=>q.elim],λ_ _ z=>z],L,rfl,λ_ z=>z] z4 (λb' G1 G2 ab ae af l h1 h2 t=>?_) W Y Z
  refine e4a4 h1 λv' ag N1 N2 y1 M y3 y4=>?_
  injection y1 with y5 y6
  subst y5
  refine Pt.same (A:=U) h2 J #[λa=>?_,λa m n=>t.yG a ((M.all a).mpr<|.inl m) n] y3
  rw[t.all,M.all]
  exact#[λz=>z.elim (λz=>z.elim .inl λq=>iq q<|y4.2 a) .inr,λz=>z.elim (λq=>.inl<|.inl q) .inr]
def tw_trueO{wa:Wf D (OL α) D}(ha:EO X E T a wa)(he:∀whole,rf a X.env whole=(do let v <- whole;nA a.pos;lm [v] (uH v)):=by intro _;rfl):TW X E T a (cK wa λKn xs d1=>Kn (!xs.l.isEmpty) d1):=by
 refine e1a2 ha λta a1 a2=>?_;refine#[_,Jx a1 he,λd F R σ H Kn Ke Q s hw kn ke=>a2 d F R σ H _ Ke _ s hw (λxs d1 u F1 F2 R1 H1 q1 c1 s1 n1=>?_) ke];refine e2a4 n1.is λb vs e _ h3 h4=>?_;cases e;refine#[!vs.isEmpty,.inl #[vs,wI.of h3,rfl],?_];obtain⟨l⟩:=xs
 have:vs.isEmpty=l.isEmpty:=by
  cases h4<;>rfl
 rw[this];exact kn _ d1 F2 R1 H1 q1 (c1.less λ_ z=>.inr z) s1
def Rz{c:Wf D (Tp α) D}(h:Gl X "list")(i:X.mg "list"=none)(j:EW X E T a c)(e:hR [a] X.env=85::hR [] X.env:=by rfl) :
  EO X E T (.Call (.Name "list" p) [a] [] pos) (cK c λ(f:OL α->D->Prop) t b=>f #[t.l] b):=by
 refine e1a2 j λN k m=>?_;refine#[_,xU yJ h i ky (vq k vF e) (he:=e),λd F R n H f o Q s r v w=>m d F R n H _ o _ s r (λt b u x O P y z g A=>?_) w];obtain⟨q,S,rfl,_,B,C⟩:=A;refine#[_,_,rfl,.inr<|zu.of B,λl G=>?_];refine e1a3 (xW g G C) λI J L M=>?_;exact v _ b _ _ x I _ y (Ch.trans s g.tab z J) L M
def Vu(m:Gl X "tuple")(n:X.mg "tuple"=none)(o:ER X E T a r)(e:hR [a] X.env=85::hR [] X.env:=by rfl) :
  EW X E T (.Call (.Name "tuple" p) [a] [] pos) (cK r λ(f:Tp α->D->Prop) g b=>f #[g b] b):=by
 refine e1a2 o λP t v=>?_;refine#[_,xU F8 m n qU (vq t vF e) (he:=e),λd F R w H f x Q s y z A=>v d F R w H _ x _ s y (λg b u h i B C G c I=>?_) A];obtain⟨q,j,rfl,J,L⟩:=I b h i B 67 c;refine#[_,_,rfl,.inl #[wI.of J,λl M=>?_]];refine e0a3 (c.new (.tup j) M) λN k O=>?_;exact z _ b _ h i _ C (Ch.trans s c.tab G k) N #[l,j,rfl,O,vm,c.vals k L]
def ints_of{R:Rg}{H:Hp}:∀{xs:List Int} {vs:List V},Paired (rp R H) xs vs->vs=xs.map V.int:=by
 intro _ _ z
 induction z with
 |nil=>rfl
 |cons h t ih=>rw[show _=V.int _ from h,ih];rfl
def tw_inT{a b:iZ}{wa:Wf D Int D}{wb:Wf D (Tp Int) D}(ha:EW X E T a wa)(hb:EW X E T b wb)(hm:jh .In b=false) :
  TW X E T (.Compare a [.In] [b] pos) (cB wa wb λk Kn t d2=>Kn (decide<|k∈t.l) d2):=by
 refine e1a2 ha λta a1 a2=>?_;refine e1a2 hb λtb b1 b2=>?_;refine#[_,ye GB a1 b1 hm,λd F R σ H Kn Ke Q s hw kn ke=>a2 d F R σ H _ Ke _ s hw (λk d1 u F1 R1 H1 q1 c1 s1 r1=>?_) ke];refine b2 d1 F1 R1 σ H1 _ Ke _ s1 q1 (λt d2 v F2 R2 H2 q2 c2 s2 r2=>?_) λC y d' F' R' H' k c s'=>ke C y d' F' R' H' k (Ch.trans s s1.tab c1 c) s';subst r1;obtain⟨l⟩:=t;obtain⟨q,us,rfl,_,h1,h2⟩:=r2;have e:=ints_of (xs:=l) h2;subst e;refine#[q,_,rfl,.inr<|zu.of h1,rfl,Bh _,_,rfl,?_];rw[hI ik,Ck];exact kn _ d2 F2 R2 H2 q2 (Ch.trans s s1.tab c1 c2) s2
def Fb{c:iZ}{body:List iH}{mb:List Nat}{D2:Type}[Sls D2]{U:Wf D Bool D}{Y:D->(D2->Prop)->105->91->Prop}[Z:Fg D2 D][J:Pj D PO n](I:Uk PO ms n)(hp:r9 58 X.A X.env X.xe)
  (hc:TW X E T c U) (hb:SW X E T mb n body Y) (z:∀i∈ms,i∈mb) :
  S1 X E T ms n (.While c body [] pos) (cW U Y Z.fg J.pj):=by
 refine e1a2 hc λtc c1 c2=>?_;refine e1a2 hb λtb b1 b2=>?_;refine#[_,P4 hp c1 b1,λd F R σ H Kn Kr Ke En s hw kn kr ke=>?_];obtain⟨W,⟨m0,w0⟩,r⟩:=hw;refine#[λm e H1=>∃k G l,Ch T F R H G l H1/\wz T G l H1 k e/\Ag mb σ e/\W m k,#[m0,d,F,R,Ch.refl _ _ _ _,s,Ag.refl _ _,w0],?_];rintro m e H1 ⟨k,G,l,k1,L,g1,w1⟩;refine c2 k G l e H1 _ _ _ L (r m k w1) (λb d2 G2 R2 H2 q2 k2 t=>?_) λC y d' F' R' u q c s'=>?_
 ·have j:=Ch.trans s L.tab k1 k2
  cases b with
  |false=>exact kn d2 G2 R2 H2 e q2 j t<|g1.sub z
  |true =>
   refine#[λo u=>∃B,B<m/\∃k G l,Ch T F R H G l u/\wz T G l u k o/\Ag mb σ o/\W B k,λo u h=>h,?_];refine b2 d2 G2 R2 e H2 _ Kr Ke _ t q2 (λd3 G3 R3 H3 aa q3 k3 p g3=>?_) (λx M v M1 M2 N H4 O P f n4=>?_) λC y M F4 N H4 O P f=>?_
   ·refine e1a2 q3 λB hm w3=>?_;refine e1a2 (Z.le p.rel) λG5 Q r5=>?_;exact#[B,hm,_,G5,R3,(Ch.trans s t.tab j k3).less Q,#[r5,λa h=>p.sub a<|Q a h,p.xD,p.tab,p.v8,λh=>p.vV<|Q T h],g1.trans g3,w3]
   ·exact kr x M v M1 M2 N H4 O (Ch.trans s t.tab j P) #[I.dp (g1.sub z) f.rel,f.sub,f.xD,f.tab,f.v8,f.vV] n4
   ·exact ke C y M F4 N H4 O (Ch.trans s t.tab j P) #[I.dp (g1.sub z) f.rel,f.sub,f.xD,f.tab,f.v8,f.vV]
 ·refine e1a2 (wY (PO:=PO) s') λG' S g=>?_;exact ke C y _ G' R' u q ((Ch.trans s L.tab k1 c).less S) #[I.dp (g1.sub z) g.rel,g.sub,g.xD,g.tab,g.v8,g.vV]
end
open PyProof.Rows hiding K
noncomputable def Ite(K:hO)(a:hJ):It :=
 #[λi H=>∃b x,wI K H a b/\b[i]?=↑x,λi H v c=>∃p x,v=.ref p/\H p=none/\c=upd H p (.tup [.int i,x])/\∀b,wI K H a b->b[i]?=↑x,λi H=>∃b,wI K H a b/\b.length<=i]
def Vv{t':Nat}{xs:List V}{nh:Nat}(I:Inv X d y H s)(i:BN X d H e)(j:BN X d H l)(x:⇑s<=a)(k:∀b o,b≠e->b≠l->s.heap.get? b=↑o->h'.get? b=↑o)(A:xs.length<=hX)(r:Vals xs us)(B:IsTup h' a us.toArray) :
  Inv X d y (upd H a<|.tup xs) { s with heap:=h',toks:=t'}:=by
 have C:=I.v0.fresh x;have f:∀b u,H b=↑u->b≠e/\b≠l:=λb u q=>#[λz=>(by rw[z,i.1]at q;cases q),λz=>(by rw[z,j.1]at q;cases q)];have t:∀b o,b∉[e,l]->s.heap.get? b=↑o->h'.get? b=↑o:=λb o h q=>k b o (λz=>h<|by simp[z]) (λz=>h<|by simp[z]) q;have p:∀{b u},H b=some u->upd H a (.tup xs) b=some u:=λ{b u} q=>by rw[vh<|vv q C];exact q
 refine I.step (g':=s.gens) (d':=s.drawn) (ch:=[e,l]) (λb h=>?_) (λb o _ _ g q _=>t b o g q) (λb o _ _ g q _=>#[o.slots,t b o g q]) (λb o g q n=>?_)
  (λb o g q=>#[o,t b o g q]) (λ_ _ q=>p q) (λ_ _ _ q=>p q) (λb J q=>#[#v[],by rw[p q];simp]) (λm D=>?_) (λb u q=>?_) I.bare
 ·rcases List.mem_cons.mp h with z|z
  ·subst z;exact#[i.2.2.2.1,i.2.1,i.2.2.2.2.1,i.2.2.2.2.2]
  ·have z:b=l:=by simpa using z
   subst z;exact#[j.2.2.2.1,j.2.1,j.2.2.2.2.1,j.2.2.2.2.2]
 ·rw[vh<|λz=>iq (ie q)<|by rw[z];exact Nat.not_lt.mpr x];exact n
 ·refine e3a2 D λo E F G r=>?_;exact#[o,E,F,k _ o (Ne.symm i.2.1) (Ne.symm j.2.1) G,r]
 ·by_cases h:b=a
  ·subst h;rw[vm]at q;cases q;exact#[A,us,r,B]
  ·rw[vh h]at q;refine(I.v0 b u q).DQ (λc v g w=>?_) (λc w=>p w) λc L w=>p w;rcases g with z|z
   ·rw[z]at w ⊢;exact k b v (f b u q).1 (f b u q).2 w
   ·exact k c v (f c _ z).1 (f c _ z).2 w
def OU{K:hO}{x1}(a e it:hJ)(hne:e≠it):Turn P w K (.Tuple els x1 tp) (Ite K a) [e,it] e (λi h=>(∃old,IsEnum h e it i old)/\h.IsListIter it a i) where
 mem:=by simp
 obj:=λi h st b hb=>by
  obtain⟨⟨old,h1⟩,⟨o,h2,c,d⟩⟩:=st;rcases List.mem_cons.mp hb with z|z
  ·subst z
   exact#[_,h1,λv z=>by
    have z':tV _=Data.cell v:=z
    cases z']
  ·have z:b=it:=by simpa using z
   subst z;exact#[o,h2,λv z=>by rw[d]at z;cases z]
 keep:=λi h h' st k=>#[e1a1 st.1 λold h1=> #[old,k e q0o _ h1],st.2.at λo q=>k it q0o o q]
 item:=by
  intro X hP hw hK hc i pins s σ H E I hf st hg;subst hP hw hK;refine e2a2 hg λxs x hq hx=>?_;refine e1a3 (I.list hq) λAp rv p hz=>?_;refine e1a2 (rv.get hx) λu hu ru=>?_;obtain⟨⟨old,h1⟩,h2⟩:=st;have fe:=hf e q0o;have fi:=hf it q0o;refine wpAny_pyNext_enum_item h1 h2 p.isList (x:=u) (by simpa using hu) hne λh' a1 a2 a3 a4 a5=>#[_,rfl,wpAny_letOwnedTupleGo_enum a1 λh2' b1 b2=>?_];have hel:e<⇑s:=ie h1;have t2:h2'.get? ⇑s=some { cls:=.type "tuple",data:=.seq #v[.int i s.toks,u]}:=b2.extBut _ _ (jB hel) a3;refine#[.ref ⇑s,upd H ⇑s<|.tup [.int i,x],Vv (s:=s) (h':=h2') (t':=s.toks+1) (xs:=[.int i,x]) (us:=[.int i s.toks,u]) (nh:=0) I fe fi (hV _) (λb o n1 n2 q=>b2.extBut b o n1<|a5 b o n1 n2 q) (by show 2<=hX;decide) (.cons ⟨_,rfl⟩<|.cons ru .nil) ⟨_,t2,rfl,_,rfl⟩,rfl,⟨_,x,rfl,I.v0.fresh<|hV _,rfl,λys hy=>by rw[I.Ju hy hq];exact hx⟩,#[#[_,b1],a2.extBut b2.extBut<|Ne.symm hne],λb hb=>?_];rw[vh]
  ·exact(hf b hb).1
  ·refine e1a2 h2 λo ho _=>?_;rcases List.mem_cons.mp hb with z|z
   ·rw[z];exact iu hel
   ·have z:b=it:=by simpa using z
    rw[z];exact iu<|ie ho
 done:=by intro X hP hw hK hc i pins s σ H E I hf st hg;subst hP hw hK;refine e1a2 hg λxs hq hx=>?_;refine e1a3 (I.list hq) λAp rv p hz=>?_;obtain⟨⟨old,h1⟩,h2⟩:=st;refine e0a6 (hf it q0o) λf0 f1 f2 f3 f4 f5=>?_;have hl:=rv.length;exact wpAny_pyNext_enum_end (I.ok.hd hc) h1 h2 p.isList (by simp;lia) λh' eb=>98
 self:=λ_ _ _ _ _ st h=>wpAny_pyIter_enum st.1.choose_spec h
section
variable{D:Type}[Sls D]{α:Type}[Rep α]
def a0Q(K:hO)(c:TA):TI:=λd H R=>c d H λe b=>∃a,e=[.ref a]/\(∃f,wI K b a f)/\R (Ite K a) b
def Vw{i}(j:Gl X "enumerate")(k:X.mg "enumerate"=none)(l:PA X [a] m)(n:hR [a] X.env=[85]:=by rfl):PI X (.Tuple o i G) (.Call (.Name "enumerate" p) [a] [] pos) (a0Q X.K m):=by
 intro d s t H R I h;refine PyProof.Rows.Call_<|zO I j k PyProof.Rows.boot_enumerate<|ku (vX (l pos d s t H _ I h) λJ c u=>e2a3 u λL v f w x=>?_) n rfl;obtain⟨a,e,⟨M,y⟩,q⟩:=x;subst e
 cases w with
 |cons r A =>
  cases A;cases r;refine e1a3 (f.list y) λB N p O=>?_;refine call_enumerate_list p.isList λP g C Q E=>?_;refine wpAny_pyIter_enum g ?_;refine#[⇑c+1,[⇑c+1,⇑c],_,_,v,rfl,f.kept (t':=c.toks) E,OU a _ _<|jB<|jM _,⟨⟨_,g⟩,C⟩,λb F=>?_,q]
  have e:⇑c<=b:=by
   rcases List.mem_cons.mp F with z|z
   ·rw[z];exact mh _
   ·have z:b=⇑c:=by simpa using z
    rw[z];exact hV _
  exact f.He e<|f.v0.fresh e
noncomputable def OV:Nat->List α->List (Int×α)
 |_,[]=>[]
 |k,x::r=>((k:Int),x)::OV (k+1) r
def Ef:∀(k:Nat)(a:List α),(OV k a).length=a.length
 |_,[]=>rfl
 |k,x::r=>by show (OV (k+1) r).length+1=r.length+1;rw[Ef (k+1) r]
def Nr:∀(k:Nat)(a:List α)(i:Nat),(OV k a)[i]?=(a[i]?).map λx=>(((k+i:Nat):Int),x)
 |_,[],_=>by simp[OV]
 |k,x::r,0=>by simp[OV]
 |k,x::r,i+1=>by
  show (((k:Int),x)::OV (k+1) r)[i+1]?=_;rw[sO,sO,Nr (k+1) r i];congr 1
  funext y
  rw[show k+1+i=k+(i+1) by lia]
def Fc{K:hO}{xs:List α}{vs:List V}:ZF (Ite K a) (OV 0 xs) (λR H=>H a=↑(.lst vs)/\Paired (rp R H) xs vs) where
 go:=λ{R H i} p h=>by rw[Ef]at h;obtain⟨v,e,_⟩:=xl (i:=i) (x:=xs[i]) p.2 (by simp[h]);exact#[vs,v,wI.of p.1,e]
 Jh:=λ{R H i v H'} p xD hi y=>by rw[Ef]at hi;obtain⟨q,w,e,hq,e',y⟩:=y;subst e e';have y':=y vs<|wI.of p.1;obtain⟨u,e,r⟩:=xl (i:=i) (x:=xs[i]) p.2 (by simp[hi]);rw[y']at e;cases e;have ex:Ext R R H R (upd H q<|.tup [.int i,w]):=⟨λb o _ z=>by rw[vh<|vv z hq];exact z,λ_ z=>.inl z⟩;refine#[.inr #[q,_,hq,rfl],((i:Int),xs[i]),?_,q,.int i,w,rfl,λz=>xD q z hq,vm,rfl,Rep.st r ex];rw[Nr,jL hi,tG];rfl
 stop:=λ{R H} p=>#[vs,wI.of p.1,by rw[Ef,Paired.length p.2];exact hV _]
def Vx{i:List iZ}{A}{w:Wf D (List α) D}(B:Gl X "enumerate")(C:X.mg "enumerate"=none)(h:EW X E T e w)(G:hR [e] X.env=71::hR [] X.env:=by rfl)(j:hR [e] X.env=[71]:=by rfl) :
  IW X E T is (.Tuple i A tp) (.Call (.Name "enumerate" p) [e] [] pos) (λ(b:D) (_:List (Int×α))=>b) (cK w λo f k=>o (OV 0 f) k):=by
 refine e1a2 h λt I J=>?_;refine#[_,Vw B C (vq I vF G) j,λd F R L H o Ke Rk s M N O=>J d F R L H _ _ _ s M (λf k v l P Q q c u r=>?_) O];obtain⟨a,m,rfl,S,x,U⟩:=r;refine#[a,rfl,#[m,wI.of x],N (OV 0 f) k _ (λR H=>(H a=↑(.lst m)/\Paired (rp R H) f m)/\¬R a) l (λ_=>False) l P Q q c u.Hy (two_nil l) u.rel #[λp=>Fc.go p.1,λp=>Fc.Jh p.1,λp=>Fc.stop p.1] #[#[x,U],S] (λp y nf n=>?_) λb' G2 W Y Z aa p h g t=>Sls.fq h<|two_eq t λ_ z=>z];have na:¬_:=λz=>p.2<|y a z;exact#[#[n.keep a _ na p.1.1,wE (n.wide y) p.1.2],n.not p.2 p.1.1]
end
def HM(C:hJ):Sp:=λf H Q E=>∃p e,f=[.ref p]/\H p=↑(.ins C e []) /\
 ∀c d a,H c=none->H d=none->c≠d->a p=↑(.ins C e<|yW c d 0 0 0 false)->a c=↑(.dK [])->a d=↑(.dK [])->(∀b o,b≠p->H b=↑o->a b=↑o)->Q .wW a
def Vy{C:hJ}{m:iH}{k:Nat}(F:za K "__init__" i m f D)(S:vp ["self"] ["self"] (vg m))(g:Am K C)
 (j:∀(d:ci)(A:jN)(a:List Env)(s:ic)(H:Hp)(E:XK),FX (wd (v4 P w) P w K G base ["self"] i (vg m) f d A a s H E) (vS m)<|KL (Ol K (vT 0) EA "ranks")<|KL (Ol K (vT 0) EA "borders")<|Ol K (vT 0) (tC<|.int 0) "upcoming") :
    vU P w K G base (v4 P w) (k+1) f D ["self"] (HM C):=by
  obtain⟨T,U,W,I,X,Y,d,J,L,rfl,lk,t⟩:=F.ex
  refine JC lk t S (λM H Q E N=>e2a2 N λp l e _=>by rw[e];rfl) λO a s H M Q E Z u=>#[_,j d O a s H E,?_]
  obtain⟨p,l,rfl,B,k⟩:=u
  intro h v
  have n:p≠h:=vv B v
  have R:upd H h (.dK []) p=↑(.ins C l []):=by rw[vh n];exact B
  refine#[_,rfl,p,C,l,[],rfl,R,g.cl,g.nR,q0q,?_]
  intro q c
  have r:p≠q:=λz=>by rw[<- z,vm]at c;cases c
  rw[vh r.symm]at c
  have x:q≠h:=λz=>by rw[z,vm]at c;cases c
  rw[vh x]at c
  refine#[_,rfl,p,C,l,[("ranks",.ref h)],rfl,?_,g.cl,g.nB,(by show 1<1000;decide),?_]
  · rw[vh r, vm]
    rfl
  refine#[_,rfl,p,C,l,[("ranks",.ref h),("borders",.ref q)],rfl,?_,g.cl,g.nU,(by show 2<1000;decide),?_]
  · rw[vm]
    rfl
  refine k h q _ v c x.symm ?_ ?_ ?_ λb o y j=>?_
  · rw[vm]
    rfl
  · rw[vh n.symm, vh n.symm, vh x.symm, vh n.symm, vm]
  · rw[vh r.symm, vh r.symm, vm]
  · rw[vh y, vh y, vh<|vv j c, vh y, vh<|vv j v]
    exact j
structure Mf(K:hO)(C:hJ)(m qual:Str)(st:iH)(ps:List Str)(f:hJ)(fd:iX):Prop where
 fn:za K m qual st f fd
 me:Meth K C m f
 bd:Binds K fd ps []
structure Xc(K:hO)(mg:Str->Option ci)(x:Str)(C:hJ):Prop where
 ex:∃(DV:List ci)(B newId yC:String),mg x=↑(.ref C)/\jC K C DV newId=true/\kR B newId yC DV
 g0:∀H',GX.g C none H'
def Cy{k:Nat}(r:wM k A):A.units+1<kX:=jv (Nat.add_le_add_left q0q _) r.units
noncomputable def a28(s:iH):List iH:=match s with
 | .ClassDef _ _ _ body _ _ _ _ _ _ _=>body
 |_=>[]
noncomputable def Bl(s:iH)(i:Nat):iH:=(a28 s).getD i<|.Pass #[0,0,0,0]
section
variable{D D' PO τ:Type}[Sls D][Sls D'][Sls PO][Ow τ]
def BI{k:Nat}{C:hJ}[J:Pj D PO n](r:Gl 93 x)(h:Xc K e x C)(l:(x==70)=false:=by decide)
 (q:hR [.Constant (.str m) k mp] (93).env=(false,eval (.Constant (.str m) k mp) (93).env)::hR [] (93).env:=by rfl)
 (o:(jE i<|hR [] (93).env).any (·.1)=false:=by rfl) :
    S1 93 E T z n (.Raise (some<|.Call (.Name x np) [.Constant (.str m) k mp] [] i) none pos) (λ(d:D)(_:D'->Prop)(_:τ->PO->Prop) t=>t C<|J.pj d):=by
  obtain⟨u,B,p,j,v,O,y⟩:=h.ex
  exact E6<|EJ r v O y h.g0 (vq Hd vF q) l q o
end
section
variable{D:Type}[Sls D]
def RA{i:Int}(b:Gl X x)(c:X.mg x=↑(.int i t))(e:(x==70)=false:=by decide):EW X E T 101 (λ(d:D)(a:Int->D->Prop) _=>a i d) :=
 #[_,Ut (v:=.int i) b c #[t,rfl] e,λd F R h H a j Q s f g _=>g i d _ F R H f 67 s rfl]
end
noncomputable def Sf(f:Int->List Int)(x:Int):List Int->Bool
 | []=>false
 |c::l=>xor (decide<|x∈f c)<|Sf f x l
def HN{x:Int}{a:List Int}(p:a.Perm b):Sf f x a=Sf f x b:=by
 induction p with
 |nil=>rfl
 |cons c _ e=>show xor _ _=xor _ _;rw[e]
 |swap c d l=>show xor _ (xor _ _)=xor _ (xor _ _);rw[<- m6,<- m6,Bool.xor_comm<|decide<|x∈f d]
 |trans _ _ g h=>exact g.trans h
def YW{x k:Int}(h:w4 l):Sf f x (LC l k)=xor (decide<|x∈f k) (Sf f x l):=by
 by_cases q:k∈l
 ·have e:LC l k=LA k l:=cr q
  have p:l.Perm (k::LA k l):=by
   refine wH (vt h) (List.nodup_cons.mpr #[λz=>(AJ.mp z).2 rfl,vt<|jF _ h]) λy=>?_;rw[iK,AJ];by_cases z:y=k
   ·rw[z];simp[q]
   ·simp[z]
  rw[e,HN p];show _=xor _ (xor _ _);rw[<- m6,Bool.xor_self,pY]
 ·have e:LC l k=Gg k l:=hI q
  have p:(Gg k l).Perm (k::l):=by refine wH (vt<|Ea h) (List.nodup_cons.mpr ⟨q,vt h⟩) λy=>?_;rw[iK,Cu]
  rw[e,HN p];rfl
def RB{x:Int}:∀{b a:List Int},w4 a->Sf f x (xr a b)=xor (Sf f x a) (Sf f x b)
 | [],a,_=>by show Sf f x a=xor _ false;rw[oo]
 |k::b,a,h=>by show Sf f x (xr (LC a k) b)=xor (Sf f x a) (xor (decide<|x∈f k)<|Sf f x b);rw[RB<|Np h,YW h,<- m6,Bool.xor_comm<|Sf f x a]
def RC{x:Int}:∀{l:List Int} {a:List Int},(∀c∈l,(f c).Nodup)->decide (x∈(l.map f).foldl xr a)=xor (decide<|x∈a) (Sf f x l):=by
 intro d
 induction d with
 |nil=>intro a _;show decide (x∈a)=xor _ false;rw[oo]
 |cons c l b =>
  intro a h;show decide (x∈(l.map f).foldl xr (xr a<|f c))=xor _ (xor _ _);rw[b<|λy g=>h y<|hZ _ g,<- m6];congr 1;have e:=zo (l:=a) (x:=x)<|h c hW;by_cases p:x∈a<;>by_cases q:x∈f c<;>simp[p,q,e]
noncomputable def vM(f:Int->List Int)(l:List Int):List Int:=PU<|l.map f
def xM{x:Int}(h:∀c∈l,(f c).Nodup):decide (x∈vM f l)=Sf f x l:=by unfold vM PU;rw[RC h];rw[iC q0o,pY]
def wp(f:Int->List Int)(l:List Int):w4 (vM f l):=Vo _
def AM(c:w4 a)(d:w4 b)(h:∀x,decide (x∈a)=decide (x∈b)):a=b:=Ec c d λk=>by have:=h k;by_cases p:k∈a<;>by_cases q:k∈b<;>simp[p,q]at this ⊢
def zH{x:Int}(h:∀c∈l,(f c).Nodup)(a:x∈vM f l):∃c∈l,x∈f c:=by
 have e:=xM (x:=x) h;rw[decide_eq_true a]at e;clear a
 induction l with
 |nil=>cases e
 |cons c l b =>
  by_cases q:x∈f c
  ·exact#[c,hW,q]
  ·have e:true=xor (decide<|x∈f c) (Sf f x l):=e;rw[iC q,pY]at e;obtain⟨d,g,i⟩:=b (λy j=>h y<|hZ _ j) e;exact#[d,hZ _ g,i]
def Bm(h:w4 a)(i:w4 b)(d:∀c∈a,(f c).Nodup)(g:∀c∈b,(f c).Nodup):vM f (xr a b)=xr (vM f a) (vM f b) :=
 AM (wp _ _) (xL<|wp _ _) λx=>by rw[xM λc j=>(HI (vt i) j).elim (d c)<|g c,RB h,<- xM d,<- xM g];have e:=zo (l:=vM f a) (x:=x)<|vt<|wp f b;by_cases p:x∈vM f a<;>by_cases q:x∈vM f b<;>simp[p,q,e]
def Nt{x:Int}:∀{l a:List Int},w4 a->(∀c∈l,w4 (f c)/\Sf f x (f c)=false)->Sf f x ((l.map f).foldl xr a)=Sf f x a
 | [],_,_,_=>rfl
 |c::l,a,b,h=>by show Sf f x ((l.map f).foldl xr<|xr a<|f c)=_;rw[Nt (xL b) λy d=>h y<|hZ _ d,RB b,(h c hW).2,oo]
def GQ(h:∀c∈l,w4 (f c)/\(∀d∈f c,(f d).Nodup)/\vM f (f c)=[]):vM f (vM f l)=[] :=
 AM (wp _ _) iO λx=>by
  rw[xM,iC q0o]
  ·exact Nt (x:=x) (l:=l) iO λc a=>#[(h c a).1,by rw[<- xM (h c a).2.1,(h c a).2.2];rfl]
  ·intro d b;obtain⟨c,a,b⟩:=zH (λc a=>vt (h c a).1) b;exact(h c a).2.1 d b
def ww(h:∀c∈l,f c=g c):vM f l=vM g l:=by unfold vM;rw[mz h]
structure Xo(K:hO) where
def RD(K:hO)(R:Rg)(H:Hp)(a:hJ)(c:List Int):Prop :=
 (¬R a/\Rd H a (.lst<|c.map V.int))\/∃(o:qV)(b:Array ci)(n:Nat),K.lookup a=↑o/\o.cls=.type "list"/\o.dict=none/\o.data=.seq b n/\b.size<=hX/\Vals (c.map V.int) b.toList
def RD.sq{K:hO}(h:RD K R H a b):wI K H a (b.map V.int):=h.elim (λz=>.inl z.2) .inr
instance(K:hO):Rep (Xo K):=#[λR H _ v=>∃a ns,v=.ref a/\RD K R H a ns,λ{R H R' H' x v} h e=>by
 refine e2a2 h λa ns h1 h2=>?_;refine#[a,ns,h1,?_];rcases h2 with⟨n,r⟩|r
 ·rcases r with r|⟨o,r⟩
  ·exact .inl #[e.not n r,.inl<|e.keep a _ n r]
  ·exact .inl #[e.not n r,.inr #[o,e.keep a _ n r]]
 ·exact .inr r]
def Xp(K:hO):Sp:=λd H Q _=>∃(a:hJ)(e:List Int),d=[.ref a]/\wI K H a (e.map V.int)/\∀b g q c s,DT H b->DJ b g q c 0 0 s->H g=none->H q=none->Q (.ref g) b
def RE(K:hO):Wf (Xo K×Unit) Bg (Un×Unit):=λ_ a _=>a #[] (#[],())
def Xq(K:hO):Wf (Xo K×Unit) Bool (Un×Unit):=λ_ a _=>a true (#[],())
def a0R(F:vU P w K y base Qz k f A C (Xp K)):vU P w K y base (v4 P w) k f A C (yM T<|RE K) :=
 (Xm F).imp λD H Q E G=>e5a4 G λF R p Kn Ke s I J _=>by
  obtain⟨v,L,F1,F2,d,h2,⟨n1,u,e,a,M,N,O⟩,S⟩:=s.rel;subst e N
  match D,d with
  | [],d=>cases d
  |x::r,d =>
   injection d with U W;cases U
   have X:r=[]:=by have:=S.1;rw[<- W]at this;exact List.map_eq_nil_iff.mp this
   subst X;refine#[a,M,rfl,O.sq,λn g q j Y i B l m=>?_];have Z:Ext (λ_=>False) R H (λc=>R c\/c=g\/c=q) n:=#[λb o _ h=>i b o h,λc h=>h.elim .inl λz=>.inr<|z.elim (λz=>by rw[z];exact l) λz=>by rw[z];exact m];refine J #[] (#[],()) (.ref g) (λc=>c=g\/c=q) (λ_=>False) (λc=>R c\/c=g\/c=q) n I #[λb o _ _ h=>i b o h,Z.new,λc h=>h.elim (λz=>.inr<|z.elim (λz=>by rw[z];exact l) λz=>by rw[z];exact m) λz=>z.elim,λc h _=>.inl h] #[#[some<|.ref a,[],λ_=>False,λ_=>False,rfl,#[λ_=>#[λz=>z.elim,λz=>z.elim id id],λ_ z _=>z],λ_ z=>z,rfl,λ_ z=>z],λ_ z=>z.elim,λc h=>?_,?_,.inl s.v8,λz=>z] #[#[g,q,j,0,0,Y,rfl,λ_=>Iff.rfl,B],λc h=>.inr h,λ_ _ z=>z,λz=>?_]
   ·rcases h with h|h|h
    ·cases e:H c with
     |none=>exact iq e<|s.xD c h
     |some o=>rw[i c o e];simp
    ·rw[h,B.ob];simp
    ·rw[h,B.sc];simp
   ·refine e1a2 s.tab λqs e t=>?_;exact#[qs,i _ _ e,t]
   ·have:=zB s.tab;rcases z with z|z
    ·rw[z]at this;exact this l
    ·rw[z]at this;exact this m
def Nu(K:hO)(b:hJ):Sp:=λc H Q _=>∃(a:hJ)(d:List Int),c=[.ref a]/\wI K H a (d.map V.int)/\TabAt H b/\∀e,Q (.bl true) e
def a0S(F:vU P w K g base (v4 P w) k f i j (yM T<|Xq K)):vU P w K g base (v4 P w) k f i j (Nu K T) :=
 F.imp λB H Q E l=>e2a4 l λa m e p b s=>by
  subst e;refine#[λ_=>False,λc=>c=T,(#[],()),λx _=>x=true,λ_ _=>False,#[#[some<|.ref a,[],λ_=>False,λ_=>False,rfl,#[λ_=>#[λz=>z.elim,λz=>z.elim id id],λ_ z _=>z],#[λ_ z=>z,_,rfl,a,m,rfl,?_],rfl,λ_ z=>z],λ_ z=>z.elim,λc h=>by rw[h];exact zB b,b,rfl,λz=>z],rfl,λx t v D G A d q c I n=>?_,λC y t J A d q=>q.elim]
  ·rcases p with r|r
   ·refine .inl #[λz=>?_,r];refine e1a2 b λL e _=>?_;rcases r with r|⟨o,r⟩
    ·rw[z,e]at r;cases r
    ·rw[z,e]at r;cases r
   ·exact .inr r
  ·obtain⟨_,u,e,r⟩:=n.is;cases e;rw[r,q];exact s d
def a0T(F:vU P w K d base (v4 P w) k f g i c)(h:∀b H Q E,c b H Q E->c b H Q XF):vU P w K d base Qz k f g i c :=
 #[F.len,λA a s H args j b Q E l m n o p=>kh (F.run A a s H args j b Q XF l m n o (h _ _ _ _ p)) λr t z=>by
  cases r with
  |error e =>
   obtain⟨_,_,_,_,_,z⟩:=z;exact z.elim
  |ok q =>
   cases q with
   |ret u=>exact z
   |next=>exact iR z
   |brk=>exact iR z
   |cont=>exact iR z]
structure Fk(P:iQ)(w:jf)(K:hO)(mg:Str->Option ci)(base:ja)(T:hJ)(x:Str)(ps:List Str){A PO τ:Type}[Sls A][Sls PO][Ow τ](wf:Wf A τ PO)(k:Nat) where
 f:hJ
 fd:iX
 ok:vU P w K mg base (v4 P w) k f fd ps (yM T wf)
 at_:mg x=↑(.ref f)
 kp:jz K (.ref f)=true
 bd:Binds K fd ps []
structure Fm(P:iQ)(w:jf)(K:hO)(mg:Str->Option ci)(base:ja)(T C:hJ)(m:Str)(ps:List Str){A PO τ:Type}[Sls A][Sls PO][Ow τ](wf:Wf A τ PO)(k:Nat) where
 f:hJ
 fd:iX
 ok:vU P w K mg base (v4 P w) k f fd ps (yM T wf)
 me:Meth K C m f
 bd:Binds K fd ps []
section
variable{P:iQ}{w:jf}{K:hO}{mg:Str->Option ci}{base:ja}{T C f:hJ}{fd:iX}{x:Str}{ps:List Str}{A PO τ:Type}[Sls A][Sls PO][Ow τ]{wf:Wf A τ PO}{j k:Nat}
noncomputable def Fk.up(h:Fk P w K mg base T x ps wf j)(l:j<=k:=by decide):Fk P w K mg base T x ps wf k:=#[h.f,h.fd,h.ok.mono l,h.at_,h.kp,h.bd]
noncomputable def Fm.up(h:Fm P w K mg base T C x ps wf j)(l:j<=k:=by decide):Fm P w K mg base T C x ps wf k:=#[h.f,h.fd,h.ok.mono l,h.me,h.bd]
end
section
variable{D:Type}[Sls D]
def vA{P c B g i:Type}[Sls P][Sls c][Sls B][Sls g][Ow i][Lb g i c]{a:B->g->c->D}{o:Wf P i c}{q:D->(P->B->g->Prop)->75->Prop}{k:Nat}{s:List Str}{f:List iZ}
 (h:Fk X.prog X.w X.K X.mg X.base T x s o k) (t:Lx X E T (e::f) a q) (u:wM k X.A:=by assumption) (v:Gl X x:=by exact rfl) (y:Passes 123 X E:=by exact BH) (j:(x==70)=false:=by decide) (z:hR (e::f) X.env=71::hR f X.env:=by rfl) (m:(jE pos<|hR f X.env).any (·.1)=false:=by rfl) :
    EO X E T (.Call (.Name x p) (e::f) [] pos) (λ(d:D)(F:i->D->Prop) r=>q d (λp b l=>o p (λx n=>F x<|a b l n)<|λC n=>r C<|a b l n) r):=Cn h.ok u v h.at_ h.kp h.bd y t j z m
variable{τ:Type}[Ow τ]
def v7{g:List iZ}(i:Nat){z P o B s r:Type}[Sls z][Sls P][Sls o][Sls B][Sls s][Sls r][Lb r τ<|Bd C j×o]{n:B->r->o->D}{F:D->(P->B->r->Prop)->75->Prop}
 {G:Wf (Bd C j×P) τ (Bd C j×o)} [Z:At i D (Bd C j) z] [A:At i B (Bd C j) s] [U:Pt i s (Bd C j) B] {k:Nat} {M:List Str} {N:Sem Bool}
 (h:Fm X.prog X.w X.K X.mg X.base T C m M G k) (O:Lx X E T (e::g) n F) (hr:wM k X.A:=by assumption) (H:Bw X.K C:=by exact Am.cl<|by assumption) (hx:Passes 123 X E:=by exact BH) (I:PE X (.Name x v) (vT i):=by exact pv _) (Q:∀a b c d u,(yW a b c d u j).lookup m=none:=by intros;rfl)
 (R:hR (e::g) X.env=71::hR g X.env:=by rfl) (S:(jE pos<|hR g X.env).any (·.1)=false:=by rfl)
 (W:eval (.Call (.Attribute (.Name x v) m apos) (e::g) [] pos) X.env=(do
 let J <- eval (.Name x v) X.env
 nA apos.atName
 let (f,first) <- lm [J] (m9 J m N)
 n6 pos f first (jE pos (hR (e::g) X.env)) (nC pos (lp [] X.env))):=by rfl) :
    EO X E T (.Call (.Attribute (.Name x v) m apos) (e::g) [] pos) (λ(d:D)(Y:τ->D->Prop) L=>F d (λp b l=>G (A.get b,p) (λy q=>Y y<|n (U.put (A.hole b) q.1) l q.2)<|λC q=>L C<|n (U.put (A.hole b) q.1) l q.2) L) :=
  Rx i h.ok hr H h.me h.bd hx I Q (λt=>UB I H h.me h.ok hr h.bd .nil hx t R S W) O
def DL(i:Nat){g:Type}[Sls g]{n:Wf (Bd C e×Unit) τ (Bd C e×Unit)}[A:At i D (Bd C e) g][U:Pt i g (Bd C e) D]{k:Nat}{t:List Str}{v:Sem Bool}
 (h:Fm X.prog X.w X.K X.mg X.base T C m t n k) (o:wM k X.A:=by assumption) (p:Bw X.K C:=by exact Am.cl<|by assumption) (q:Passes 123 X E:=by exact BH) (r:PE X (.Name x j) (vT i):=by exact pv _) (z:∀a b c d u,(yW a b c d u e).lookup m=none:=by intros;rfl)
 (B:eval (.Call (.Attribute (.Name x j) m apos) [] [] pos) X.env=(do
 let s <- eval (.Name x j) X.env
 nA apos.atName
 let (f,first) <- lm [s] (m9 s m v)
 n6 pos f first (jE pos (hR [] X.env)) (nC pos (lp [] X.env))):=by rfl) :
    EO X E T (.Call (.Attribute (.Name x j) m apos) [] [] pos) (λ(d:D)(F:τ->D->Prop) G=>n (A.get d,()) (λy l=>F y<|U.put (A.hole d) l.1)<|λC l=>G C<|U.put (A.hole d) l.1) :=
  Ry i h.ok o p h.me h.bd q r z (Qf r p h.me h.ok o h.bd .nil q B)
end
end WL
namespace WL
open PySem L2
open Rep (rp)
open Ow (sl)
open Sls (rel)
section
structure Dq(K:hO)(x:Str)(st:iH):Prop where
 ex:∃f fd,iz K iv x=↑(some<|.ref f)/\za K x x st f fd
structure Mq(K:hO)(C:hJ)(m q:Str)(st:iH):Prop where
 ex:∃f fd,Meth K C m f/\za K m q st f fd
def a0U{b:iH}{e:ci}(a:iz K iv x=↑(some<|.ref f))(l:K.lookup f=some #[i,j,.func<|jS x x (wq b) (vS b) (vg b) .none e g pm m d n,h])
 (c:jJ K d x=true)(k:jz K (.ref f)=true):Dq K x b:=#[_,_,a,EC l c k]
def a0V{b:iH}{e:ci}(a:iN K (.ref C) x=↑(some<|.ref f))(i:oQ K (.ref f)=true)(l:K.lookup f=some #[j,m,.func<|jS x q (wq b) (vS b) (vg b) .none e g pm n d o,h])
 (c:jJ K d q=true)(k:jz K (.ref f)=true):Mq K C x q b:=#[_,_,#[a,i,k],EC l c k]
noncomputable def Dq.f{x:Str}{a:iH}(q:Dq K x a):hJ:=q.ex.choose
noncomputable def Dq.d{x:Str}{a:iH}(q:Dq K x a):iX:=q.ex.choose_spec.choose
noncomputable def Mq.f{x q:Str}{a:iH}(m:Mq K C x q a):hJ:=m.ex.choose
noncomputable def Mq.d{x q:Str}{a:iH}(m:Mq K C x q a):iX:=m.ex.choose_spec.choose
def Dq.fn{a:iH}(q:Dq K x a)(X:K.In h)(G:h.Ns iv j)(c:List Str)
 (b:∀(k e l:ci)(m:Option hJ)(g n:ci)(i:List ci),i.length=c.length->tq (jS x x (wq a) (vS a) (vg a) .none k e l m g n) #[i,[]]=pure (c.zip i)):Fn K j x a c q.f q.d :=
  have h:=q.ex.choose_spec.choose_spec;#[h.2,jc X G h.1,h.2.binds b]
def Mq.fn{a:iH}(m:Mq K C x q a)(c:List Str)
 (b:∀(j e k:ci)(l:Option hJ)(g n:ci)(i:List ci),i.length=c.length->tq (jS x q (wq a) (vS a) (vg a) .none j e k l g n) #[i,[]]=pure (c.zip i)):Mf K C x q a c m.f m.d :=
  have h:=m.ex.choose_spec.choose_spec;#[h.2,h.1,h.2.binds b]
variable[L2.GX]
noncomputable def Fn.fk{x:Str}{h:iH}{a:List Str}{f:hJ}{b:iX}{A c d:Type}[Sls A][Sls c][Ow d]{e:Wf A d c}{k:Nat}(N:Fn K g x h a f b)(o:vU P w K g base (v4 P w) k f b a (yM T e)):Fk P w K g base T x a e k:=#[f,b,o,N.at_,N.fn.kp,N.bd]
noncomputable def Mf.fm{x q:Str}{g:iH}{a:List Str}{f:hJ}{b:iX}{A c d:Type}[Sls A][Sls c][Ow d]{e:Wf A d c}{k:Nat}(N:Mf K C x q g a f b)(o:vU P w K h base (v4 P w) k f b a (yM T e)):Fm P w K h base T C x a e k:=#[f,b,o,N.me,N.bd]
end
variable[L2.GX]
def Cz{X:Cx}{E:XK}{T:hJ}{f:List Nat}{n:Nat}{D g PO j:Type}[Sls D][Sls g][Sls PO][Ow j]{a:List iH}{w w':D->(g->Prop)->(j->PO->Prop)->91->Prop}(h:SW X E T f n a w)(i:∀d b c e,w' d b c e->w d b c e):SW X E T f n a w' :=
 let ⟨t,k,l⟩:=h
 #[t,k,λd F R m H b c e o s p=>l d F R m H b c e o s<|i d b c e p]
end WL
namespace WL
open PySem L2
open Rep (rp)
open Ow (sl)
open Sls (rel)
structure Cq where
 P:iQ
 w:jf
 K:hO
 mg:Str->Option ci
 base:ja
 T:hJ
structure Bz(K:hO):Prop where
 all:iz K iv "all"=↑none
 zip:iz K iv "zip"=↑none
 set:iz K iv "set"=↑none
 sorted:iz K iv "sorted"=↑none
 len:iz K iv "len"=↑none
 list:iz K iv "list"=↑none
 isinstance:iz K iv "isinstance"=↑none
 int:iz K iv "int"=↑none
 bool:iz K iv "bool"=↑none
 range:iz K iv "range"=↑none
 enumerate:iz K iv "enumerate"=↑none
 tuple:iz K iv "tuple"=↑none
 min:iz K iv "min"=↑none
 max:iz K iv "max"=↑none
 str:iz K iv "str"=↑none
structure Bn(mg:Str->Option ci):Prop where
 all:mg "all"=none
 zip:mg "zip"=none
 set:mg "set"=none
 sorted:mg "sorted"=none
 len:mg "len"=none
 list:mg "list"=none
 isinstance:mg "isinstance"=none
 int:mg "int"=none
 bool:mg "bool"=none
 range:mg "range"=none
 enumerate:mg "enumerate"=none
 tuple:mg "tuple"=none
 min:mg "min"=none
 max:mg "max"=none
 str:mg "str"=none
def Bz.bn{K:hO}(X:K.In h)(G:h.Ns iv a)(z:Bz K):Bn a :=
 let f:=λ{x:Str} (e:iz K iv x=some none)=>tR X G e
 #[f z.all,f z.zip,f z.set,f z.sorted,f z.len,f z.list,f z.isinstance,f z.int,f z.bool,f z.range,f z.enumerate,f z.tuple,f z.min,f z.max,f z.str]
variable[L2.GX]
abbrev xn(q:Cq)(x:Str)(c:List Str){A a b:Type}[Sls A][Sls a][Ow b](d:Wf A b a)(k:Nat):=Fk q.P q.w q.K q.mg q.base q.T x c d k
abbrev zg(q:Cq)(C:hJ)(x:Str)(c:List Str){A a b:Type}[Sls A][Sls a][Ow b](d:Wf A b a)(k:Nat):=Fm q.P q.w q.K q.mg q.base q.T C x c d k
abbrev Gq(q:Cq)(k:Nat)(f:hJ)(c:iX)(d:List Str){A a b:Type}[Sls A][Sls a][Ow b](e:Wf A b a):Prop:=vU q.P q.w q.K q.mg q.base (v4 q.P q.w) k f c d<|yM q.T e
abbrev CA(q:Cq)(x:Str)(a:iH)(f:hJ)(b:iX):Prop:=za q.K x x a f b
@[reducible] def wSq{D c e a b:Type}(h:D->(e->Prop)->(b->a->Prop)->(hJ->a->Prop)->Prop)(i:e->(c->Prop)->(b->a->Prop)->(hJ->a->Prop)->Prop):D->(c->Prop)->(b->a->Prop)->(hJ->a->Prop)->Prop:=λd j f g=>h d (λk=>i k j f g) f g
def vz{c:List Nat}{n:Nat}{D h d b e:Type}[Sls D][Sls h][Sls d][Sls b][Ow e]{i:iH}{a:List iH}{f:D->(d->Prop)->(e->b->Prop)->(hJ->b->Prop)->Prop}{g:d->(h->Prop)->(e->b->Prop)->(hJ->b->Prop)->Prop}(j:S1 X E T c n i f)(k:SW X E T c n a g)(l:Uk b c n:=by exact vP q0q) :
  SW X E T c n (i::a) (wSq f g):=D9 (w1:=f) (w2:=g) l j k
end WL
namespace L2
variable[L2.GX]
open PySem PySem.Spec PyProof.Rows
structure RF(N P:List Str)(sc:mB)(cl:List (Str×hJ)):Prop where
 kind:sc.kind=.function
 co:sc.isCoroutine=false
 gen:sc.isGenerator=false
 nd:N.Nodup
 pre:N.take P.length=P
 par:∀x∈P,sc.names.lookup x=some .local
 BV:∀y∈sc.names,y.2≠.cell
 has:∀x,sc.names.lookup x=some .free->∃c,cl.lookup x=↑c
 inj:∀x y c,cl.lookup x=↑c->cl.lookup y=↑c->x=y
noncomputable def LF(CX:Qe)(P:iQ)(w:jf)(K:hO)(mg:Str->Option ci)(base:ja)(N:List Str)(qual:Str)(scope:mB)(f:hJ)(cd:ci)(cl:List (Str×hJ))(A:jN)(outer:List Env)(s:ic)(H:Hp)(E:XK):Cx where
 prog:=P
 w:=w
 K:=K
 mg:=mg
 base:=base
 A:=A.deeper<|ji qual scope ⇑s f cd cl
 N:=N
 s₀:=s
 H₀:=H
 env:=ji qual scope ⇑s f cd cl
 outer:=outer
 stack:=ji qual scope ⇑s f cd cl::outer
 ex:=[]
 calm:=true
 fn:=λ_=>false
 pn:=[]
 xe:=λe s'=>ii (ij P w) (A.deeper<|ji qual scope ⇑s f cd cl) (uI (ji qual scope ⇑s f cd cl) e) (λ_ UC=>CX outer H s E e UC) (λe' UC=>CX outer H s E e' UC) s'
section
variable{P:iQ}{w:jf}{K:hO}{mg:Str->Option ci}{base:ja}{N ps:List Str}{qual:Str}{scope:mB}{f:hJ}{cd:ci}{cl:List (Str×hJ)}{A:jN}{outer:List Env}{s:ic}{H:Hp}{E:XK}
def RG:Passes (v4 P w) (LF (v4 P w) P w K mg base N qual scope f cd cl A outer s H E) E:=by intro a i j k e l I h;obtain⟨C,x,b,rfl,F,c⟩:=h;exact jr (QT I rfl rfl F) (λ_ d g=>#[C,x,b,rfl,g,c]) λ_ _ z=>z
def RH:∀{l:List (Str×d)},(l.map (·.1)).Nodup->(x,u)∈l->l.lookup x=↑u:=by
 intro l
 induction l with
 |nil=>intro _ h;cases h
 |cons p l b =>
  intro a h;rw[iJ,List.nodup_cons]at a;obtain⟨y,v⟩:=p;rcases List.mem_cons.mp h with z|z
  ·cases z;rw[iV,pR]
  ·have c:(x==y)=false:=beq_eq_false_iff_ne.mpr λe=>a.1 (by rw[<- e];exact List.mem_map.mpr #[_,z,rfl]);rw[iV,c];exact b a.2 z
def J0:∀(ps:List b)(a:List c),((ps.zip a).map (·.1)).Sublist ps
 | [],_=>by simp
 |_::_,[]=>by simp
 |p::ps,u::a=>by rw[List.zip_cons_cons,iJ];exact(J0 ps a).cons₂ p
def Vz{ps:List Str}{i:Nat}(b:ps.Nodup)(c:ps[i]?=↑x)(d:a[i]?=↑u):(ps.zip a).reverse.lookup x=↑u:=by
 refine RH ?_ ?_
 ·rw[List.map_reverse];refine List.pairwise_reverse.mpr<|pB Ne.symm ?_;exact b.sublist<|J0 ps a
 ·rw[List.mem_reverse];refine List.mem_iff_getElem?.mpr #[i,?_];rw[List.getElem?_zip_eq_some];exact#[c,d]
def LG{j:ja}{D:Nat}{k:List V}(S:RF N ps scope cl)(C:∀x c,cl.lookup x=↑c->∃v,base.IsCell c v)(F:A.handled=none)(g:Jz P w K mg base A outer s H)(R:k.length=ps.length)(r:Vals k G)
 (I:j.Ns ⇑s (λx=>(ps.zip G).reverse.lookup x))(t:∀b o,s.heap.get? b=↑o->j.get? b=↑o):Inv (LF J P w K mg base N qual scope f cd cl A outer s H E) [] (start N k) H { s with heap:=j,toks:=D}:=by
  have L:ps.length<=N.length:=by have:=congrArg oF S.pre;rw[mj]at this;lia
  have l:∀b:hJ,b∉(LF J P w K mg base N qual scope f cd cl A outer s H E).ex:=λb z=>iq (show b∈([]:List hJ) from z) q0o
  refine#[#[g.mod,S.kind,rfl,rfl,hV _,λy z c j d=>S.inj y z c j d,λy m=>?_,λy c z _=>(by cases z),λ_=>F,sU g.frames,.inr #[rfl,rfl],λb z=>iq z (l b),g.bs,g.Jo,λb _ _=>l b,λb z=>iq z (l b),g.yT,g.Kz],
    rfl,g.bare,Un.kept t,#[_,I,λi y v j d T=>?_],λy c h=>?_,g.v0.fresh (hV _),λy c h=>?_,λp n=>iq (show p∈([]:List (hJ×Obj)) from n) q0o,g.v0.kept t,?_]
  · have m : scope.names.lookup y = some .cell \/ scope.names.lookup y = some .free := m
    rcases m with m|m
    · exact iq rfl<|S.BV _<|kD m
    · exact S.has y m
  · have q : i<k.length := by
      unfold start at d
      by_cases q:i<k.length
      · exact q
      · rw[kg<|by simpa using q]at d
        rw[sK]at d
        split at d<;>cases d
    have M:k[i]?=↑v:=by
      unfold start at d
      rw[mo (by simpa using q),jU]at d
      cases e:k[i]? with
      |none=>rw[e]at d;cases d
      |some a=>rw[e]at d;cases d;rfl
    refine e1a2 (r.get M) λu O Q=>?_
    have n:ps[i]?=↑y:=by rw[<- S.pre,sr q0a];exact j
    have B:ps.Nodup:=by rw[<- S.pre];exact S.nd.sublist<|uJ _ _
    exact#[u,Q,.inl #[S.par y<|j0 n,Vz B n O]]
  · obtain⟨v, z⟩ := C y c h
    exact#[v,z.keeps λb o e=>t b o (g.bs b o e).1]
  · refine e2a2 (C y c h) λv o z _ => ?_
    exact(g.bs c o z).2
  · unfold start
    show _=N.length
    rw[io,h8,ts]
    lia
end
def PEA(X:Cx)(c:List iH)(e:iZ)(t:TE):Prop :=
 ∀(a:List (hJ×Obj)) (s:ic) (b:St) (H:Hp) (Q:VK),Inv X a b H s->t b H Q->uk 58 X.A (.func c X.env) (eval e X.env) (EP X a b Q) X.xe s
def PSA(X:Cx)(c:List iH)(d:iH)(t:TS):Prop :=
 ∀(a:List (hJ×Obj)) (s:ic) (b:St) (H:Hp) (D:Ends),Inv X a b H s->t D b H->uk 58 X.A (.func c X.env) (exec d X.env) (SP X a D) X.xe s
def RI(X:Cx)(c:List iH)(d:List iH)(t:TS):Prop :=
 ∀(a:List (hJ×Obj)) (s:ic) (b:St) (H:Hp) (D:Ends),Inv X a b H s->t D b H->uk 58 X.A (.func c X.env) (execs d X.env) (SP X a D) X.xe s
section
variable{fb:List iH}{pos:Pos}
def RJ{b:iH}(h:PS X b t):PSA X fb b t:=λa s c H D I q=>wpAt_of_wpAny<|h a s c H D I q
def Eg{b:List iH}(h:FX X b t):RI X fb b t:=λa s c H D I q=>wpAt_of_wpAny<|h a s c H D I q
def yQ{e:iH}{a:List iH}(g:PSA X fb e h)(i:RI X fb a j):RI X fb (e::a) (KL h j):=λb s k H D I q=>by
 refine ks_wpAt_execs_cons<|rQ (g b s k H _ I q) (λf l c=>?_) λ_ _ z=>z
 cases f with
 |next=>obtain⟨d,m,J,n⟩:=c;exact i b l d m D J n
 |brk=>exact c
 |cont=>exact c
 |ret u=>exact c
def VA(h:PEA X fb e t):PSA X fb (.Return ↑e pos) (XM t):=λa s b H D I q =>
 ks_wpAt_Return_some (rQ (h a s b H _ I q) (λu g c=>e2a3 c λv d J r f=>#[v,b,d,J,r,f]) λ_ _ z=>z)
def Fd(h:PEA X fb e t)(c:kj e none pos.line X.env=pure false:=by rfl):PSA X fb (.Expr e pos) (Jv t):=λa s b H D I q =>
 ks_wpAt_Expr_any (rQ (h a s b H _ I q) (λu i d=>e2a3 d λv f J r g=>#[b,f,J,g]) λ_ _ z=>z) I.quiet c
end
structure LH(P:iQ)(K:hO)(C f zK cc:hJ)(x0:Str):Prop where
 fn:∃(oc:ci)(od:Option hJ)(fd:iX) (Oy:Array (Option ci)) (ar:Arg),K.lookup f=some #[oc,od,.func fd,Oy]/\(fd.params.posonlyargs++fd.params.args).head?=↑ar/\ar.arg=x0
 code:∃(oc:ci)(od:Option hJ)(vs:Array ci) (Oy:Array (Option ci)) (file:Str) (tf:Tok),K.lookup zK=some #[oc,od,.fields vs,Oy]/\vs[2]?=↑(.str file tf)/\((P.main.file:Str)==file)=true
 cell:∃(oc:ci)(od:Option hJ) (Oy:Array (Option ci)),K.lookup cc=some #[oc,od,.cell<|some<|.ref C,Oy]
 cls:∃cd,ng K C=↑cd
 sub:lE K C (.ref C)=↑true
 opq:iz K rP "thirdparty.any"=↑none
 top:(P.main.scope.names.lookup ("super":Str)).isSome=false
def a0W(C:hJ)(c:Sp)(E:XK)(t:TA):TE:=λb H Q=>∃a d e,b[0]?=↑(some<|.ref a)/\H a=some (.ins C d e)/\t b H λf g=>c (.ref a::f) g Q E
def RK(K:hO)(h:hJ)(c:Pos)(f:List iZ)(d:Env):Prop:=∀{M:Model} {B:jN} {Q e:ci->ic->Prop} {g:ic} {q a:hJ},
 ii M B (uG<|jE c<|hR f d) (λi b=>rR K q h (.ref a) b.heap/\ii M B (call (.ref q) i) Q e b) e g->ii M B (n6 c (.ref q) [] (jE c<|hR f d) []) Q e g
def OX(d e b c:Pos)(m:Str)(f:List iZ):Prop:=∀a:Env,∃h:Sem Bool,eval (.Call (.Attribute (.Call (.Name "super" d) [] [] e) m b) f [] c) a=(do
 let g <- iW (.Call (.Name "super" d) [] [] e) m a (eval (.Call (.Name "super" d) [] [] e) a)
 nA b.atName
 let (i,first) <- lm [g] (m9 g m h)
 n6 c i first (jE c (hR f a)) [])
def cw_nil{K:hO}(b:mQ K f2=true):RK K f2 pos [] c:=λ{M B Q e f q a} h=>by refine pS (P:=rR K q f2<|.ref a) rfl (uB b) ?_;refine am<|jr h (λg i d=>?_) λ_ _ x=>x;refine iT ?_;exact am<|ap<|am<|ap<|ap d
def cw_cons{K:hO}(f:mQ K f2=true)(g:hR (e::d) b=(false,eval e b)::hR d b:=by rfl)(c:(jE pos<|hR d b).any (·.1)=false:=by rfl):RK K f2 pos (e::d) b:=λ{M B Q i j q a} h=>by rw[g]at h ⊢;exact pS (P:=rR K q f2<|.ref a) (by show ((false||(jE pos<|hR d b).any (·.1))||false)=false;rw[c];rfl) (uB f)<|jQ h
section
variable{P:iQ}{w:jf}{K:hO}{mg:Str->Option ci}{base:ja}{N ps:List Str}{qual:Str}{scope:mB}{f zK cc:hJ}{A:jN}{outer:List Env}{s:ic}{H:Hp}{E E0:XK}{C f2:hJ}{x0 m:Str}{k:Nat}{fd2:iX}{sp:Sp}{fb:List iH}{p0 p1 apos pos:Pos}{es:List iZ}{ta:TA}
set_option tactic.hygienic true in
def HP(S:LH P K C f zK cc x0)(ab:N[0]?=↑x0)(M:scope.names.lookup ("super":Str)=some .globalImplicit)(R:scope.names.lookup 110=some .free)(x:scope.names.lookup x0=some .local)(ae:mg "super"=none)
 (hm:ki K C C m=↑(some<|.ref f2)) (ht:pr K (.ref f2)=↑(.type "function")) (aq:mQ K f2=true) (F:vU P w K mg base (v4 P w) k f2 fd2 ps sp) (T:Binds K fd2 ps [])
 (hr:wM k (A.deeper<|ji qual scope ⇑s f (.ref zK) [78])) (ha:PA 97 es ta)
 (af:RK K f2 pos es (ji qual scope ⇑s f (.ref zK) [78])) (y:OX p0 p1 apos pos m es) (U:(m==110)=false:=by decide) :
    PEA 97 fb (.Call (.Attribute 90 m apos) es [] pos) (a0W C sp E ta):=by
  intro l i σ H1 Q I h
  obtain⟨a,dx,fs,h0,ea,h⟩:=h
  have X:=I.y9
  obtain⟨oc,od,fd,au,ar,lf,hp,rfl⟩:=S.fn
  obtain⟨av,aw,ax,al,file,tf,lc,ag,B⟩:=S.code
  obtain⟨an,ao,aa,D⟩:=S.cell
  obtain⟨cd,j⟩:=S.cls
  obtain⟨mA,O,_,_,_,_⟩:=B6 I.v0 ea
  refine e1a2 I.loc λmL hn hl=>?_
  refine e1a2 (hl 0 ar.arg (.ref a) ab h0<|.inl x) λu ru lk=>?_
  obtain rfl:u=iA a:=ru
  have ah:mL ar.arg=↑(.ref a):=by
    rcases lk with⟨_,q⟩|⟨q,_⟩
    · exact q
    · have q : scope.names.lookup ar.arg = some .cell \/ scope.names.lookup ar.arg = some .free := q
      rw[x]at q
      rcases q with q|q<;>cases q
  obtain⟨oD,G,J⟩:∃oD,i.heap.get? C=some oD/\oD.data=.cls cd:=by
    unfold ng at j
    split at j
    · rename_i c d ay sl ho
      cases j
      exact#[_,X _ _ ho,rfl]
    · cases j
  refine e1a2 I.mod.blt λmb ai aj=>?_
  have ne:a≠C:=λz=>by
    have:=O.obj
    rw[z,G]at this
    cases this
    cases J
  obtain⟨pl,y⟩:=y<|ji qual scope ⇑s f (.ref zK) [78]
  refine ks_wpAt_MethodCall (pl:=pl) (ks_wpAt_super_base (env:=ji qual scope ⇑s f (.ref zK) [78]) M R U rfl (X _ _ lf) rfl hp rfl (X _ _ lc) rfl ag B S.top ?_) y
  refine rB I.ok.kind M<|oC (env:=ji qual scope ⇑s f (.ref zK) [78]) (I.mod.glob.keeps I.bk) ae (ai.keeps I.bk) ((aj _ q0s).trans rfl) #[rfl,?_]
  refine qN I.ok.kind R rfl #[_,X _ _ D,rfl] ?_
  refine lj I.ok.kind x hn ah ?_
  refine ks_wpAny_isType_cls (h:=i.heap) (g:=i.gens) (d:=i.drawn) (t:=i.toks) (os:=i.os) G J #[rfl,?_]
  refine ks_wpAny_call_super (h:=i.heap) (g:=i.gens) (d:=i.drawn) (t:=i.toks) (os:=i.os) G J O.obj rfl (λc e=>by cases e) (pT X S.sub) λn e k'=>?_
  have L:Inv _ l σ H1 #[n,i.gens,i.drawn,i.toks,i.os]:=I.kept (t':=i.toks) k'
  unfold ki at hm
  rw[j]at hm
  obtain⟨of,ak,Y⟩:∃of,n.get? f2=some of/\of.cls=.type "function":=by
    have p:(K.lookup f2).map (·.cls)=↑(.type "function"):=ht
    cases z:K.lookup f2 with
    |none=>rw[z]at p;cases p
    |some of=>rw[z]at p;exact#[of,L.y9 _ _ z,jj p]
  refine ks_wpAny_getMethod_super e (sP L.y9 S.opq) (l₀:=cd.mro) (λA Q E s k q=>am<|(pM L.y9 j) A _ E s k<|ap q) rfl L.y9 hm ak Y ne U ?_
  have I2:Inv _ l σ H1 #[n.push { cls:=.type "method",data:=.fields #v[.ref f2,.ref a]},i.gens,i.drawn,i.toks+1,i.os]:=L.kept (t':=i.toks+1) λb o z=>ce _ z
  have fr:H1 n.objs.size=none:=L.v0.fresh<|hV _
  have gq:(n.push { cls:=.type "method",data:=.fields #v[.ref f2,.ref a]}).get? n.objs.size=↑(mM (.ref f2)<|.ref a):=oK rfl rfl
  have I3:=I2.pinned (fp:=[n.objs.size]) (λb T=>by rw[List.mem_singleton.mp T];exact L.He (hV _) fr) λb T=>by rw[List.mem_singleton.mp T];exact#[_,gq,λv z=>by cases z]
  refine af (a:=a)<|vX (ha pos _ _ σ H1 _ I3 h) λZ s2 z9=>e2a3 z9 λvs H2 I4 r q2=>?_
  have g2:s2.heap.get? n.objs.size=↑(mM (.ref f2)<|.ref a):=(I4.pin (n.objs.size,mM (.ref f2)<|.ref a)<|iD _<|iD _<|xT hW gq).1
  refine#[#[g2,I4.y9],?_]
  have I5:=I4.Av
  have r2:Vals (.ref a::vs) (.ref a::Z):=.cons rfl r
  have hl:(iA a::Z).length=ps.length:=by rw[<- r2.length];exact F.len _ _ _ _ q2
  refine m8<|ks_codeAny_call_bound g2<|kh (F.run _ _ s2 H2 ⟨.ref a::Z,[]⟩ (.ref a::Z) (.ref a::vs) Q E hr I5.JA (by simpa using T s2 (.ref a::Z) I5.y9 (by simpa using hl)) r2 q2) λr s' hq=>?_
  cases r with
  |error e=>exact RG l σ H2 s2 e s' I5 hq
  |ok fl =>
    cases fl with
    |ret u=>exact I5.after hq
    |next=>exact iR hq
    |brk=>exact iR hq
    |cont=>exact iR hq
def HQ{O:ci}(lk:K.lookup f=some #[oc,od,.func<|kW name qual g a scope i dV O F pm an d ct,aa])(R:jJ K d qual=true)
 (S:RF N ps scope i) (hc:∀x c,i.lookup x=↑c->∃o v,K.lookup c=↑o/\o.data=.cell v) (G:∀j H Q E,sp j H Q E->j.length=ps.length)
 (z:∀(A:jN)(outer:List Env)(s:ic)(H:Hp)(j:List V)(Q:VK)(E:XK),wM k (A.deeper (ji qual scope ⇑s f d i))->sp j H Q E ->
 ∃t,RI (LF (v4 P w) P w K mg base N qual scope f d i A outer s H E) a a t/\t { nx:=λ_ p=>Q .wW p,rt:=Q} (start N j) H) :
    vU P w K mg base (v4 P w) (k+1) f (kW name qual g a scope i dV O F pm an d ct) ps sp:=by
  refine#[G,λA outer s H args us j Q E T B hb r L=>?_]
  have hl:=G _ _ _ _ L
  have KX:K.In s.heap:=B.mod.B3.keeps λb o e=>(B.bs b o e).1
  have U:s.heap.NoLimit:=B.mod.nolimit.keeps λb o e=>(B.bs b o e).1
  have l:∀x c,i.lookup x=↑c->∃v,base.IsCell c v:=λx c h=>by
    refine e2a2 (hc x c h) λo v q1 q2=>?_
    exact#[v,o,B.mod.B3 _ _ q1,q2]
  refine ks_codeAny_call_defAt (fd:=kW name qual g a scope i dV O F pm an d ct) (body:=a) (binds:=ps.zip us) T.depth (KX _ _ lk) rfl U (tz KX R) rfl hb S.BV (λy hy=>S.par y.1 (pA hy).1) (λh1 X Y=>?_) S.co S.gen S.kind
  refine e1a2 (z A outer s H j Q E (T.deeper _) L) λt ht hq=>?_
  have I:Inv (LF (v4 P w) P w K mg base N qual scope f d i A outer s H E) [] (start N j) H { s with heap:=h1,toks:=s.toks+(ps.zip us).length}:=LG S l T.hd B hl r X Y
  refine rQ (ht [] _ (start N j) H _ I hq) (λfl Z D=>?_) λe Z D=>D
  have M:∀{n:St} {p:Hp} {v:V} {u:ci},Inv (LF (v4 P w) P w K mg base N qual scope f d i A outer s H E) [] n p Z->RelV v u->Q v p->CE outer P w H s Q u Z :=
    λ{n p v u} J rv q=>#[v,p,J.os,J.bare,J.base,J.v0,rv,q]
  cases fl with
  |ret u =>
    obtain⟨v,n,p,J,rv,q⟩:=D
    exact M J rv q
  |next =>
    refine e2a2 D λn p J q=>?_
    exact M (v:=V.wW) (u:=Value.none) J rfl q
  |brk =>
    refine e2a2 D λ_ _ _ q=>?_
    exact iR q
  |cont =>
    refine e2a2 D λ_ _ _ q=>?_
    exact iR q
end
end L2
namespace WL
variable[L2.GX]
open PySem L2
open Rep (rp)
open Ow (sl)
open Sls (rel)
structure xS(N P:List Str)(sc:mB):Prop where
 kind:sc.kind=.function
 co:sc.isCoroutine=false
 gen:sc.isGenerator=false
 nd:N.Nodup
 pre:N.take P.length=P
 par:∀x∈P,sc.names.lookup x=some .local
 BV:∀y∈sc.names,y.2≠.cell
 fr:∀y∈sc.names,y.2=.free->y.1="__class__"
 ks:sc.names.lookup ("super":Str)=some .globalImplicit
 kc:sc.names.lookup 110=some .free
def xS.x{N P:List Str}{sc:mB}(S:xS N P sc)(cc:hJ):RF N P sc [78] :=
 #[S.kind,S.co,S.gen,S.nd,S.pre,S.par,S.BV,λx h=>#[cc,by have e:x="__class__":=S.fr _ (kD h) rfl;rw[e];rfl],λx y c h1 h2=>by
  have q:∀{z:Str},([(110,cc)]:List (Str×hJ)).lookup z=↑c->z="__class__":=λ{z} h=>by
   by_cases e:(z==110)=true
   ·exact eq_of_beq e
   ·rw[iV,Bool.eq_false_iff.mpr e]at h;cases h
  rw[q h1,q h2]]
structure CB(P:iQ)(K:hO)(C:hJ)(x qual:Str)(st:iH)(f:hJ)(fd:iX):Prop where
 ex:∃(oc:ci)(od:Option hJ)(kV doc pm:ci)(an:Option hJ)(zK cc:hJ)(ct:ci) (Oy:Array (Option ci)),
  fd=kW x qual (wq st) (vS st) (vg st) [78] .none kV doc pm an (.ref zK) ct/\K.lookup f=some #[oc,od,.func fd,Oy]/\jJ K (.ref zK) qual=true/\LH P K C f zK cc "self"
 kp:jz K (.ref f)=true
structure Sm(K:hO)(C:hJ)(m:Str)(f2:hJ):Prop where
 find:ki K C C m=↑(some<|.ref f2)
 ty:pr K (.ref f2)=↑(.type "function")
 fn:mQ K f2=true
structure Fs(P:iQ)(w:jf)(K:hO)(mg:Str->Option ci)(base:ja)(C:hJ)(m:Str)(ps:List Str)(sp:Sp)(k:Nat):Prop where
 ex:∃f2 fd2,Sm K C m f2/\vU P w K mg base (v4 P w) k f2 fd2 ps sp/\Binds K fd2 ps []/\mg "super"=none
def VB{B b i:Type}[Sls B][Sls b][Ow i]{k:Bool}{l:Wf (Bd C k×B) i b}{c:List V}(h:yM T l c H Q E):∃a d m r,c=.ref a::r/\H a=↑(.ins C d m):=by
 obtain⟨F,R,p,o,q,s,_⟩:=h;obtain⟨v,n,t,u,e,_,⟨a,d,w,x,y,z,A,j,_,g⟩,_⟩:=s.rel;subst j
 cases c with
 |nil=>cases e
 |cons v r=>injection e with f j;injection f with f;subst f;exact#[a,d,_,r,rfl,g.ob]
def yr{o:iH}{d:List Str}{k:Nat}{B t X:Type}[Sls B][Sls t][Ow X]{fl:Bool}{u:Wf (Bd C fl×B) X t}{p:List iZ} 
 (F:CB P K C x l o f fd) (S:xS d d (vg o)) (v:vS o=[.Return (some<|.Call (.Attribute 90 m apos) p [] pos) p2]) (Y:d[0]?=↑("self":Str)) (z:OX p0 p1 apos pos m p) (G:Fs P w K Z base C m d (yM T u) k)
 (ha:∀(g n:hJ)(A:jN)(b:List Env)(s:ic)(H:Hp)(E:XK),PA (LF (v4 P w) P w K Z base d l (vg o) f (.ref g) [("__class__",n)] A b s H E) p ta)
 (I:∀(a:hJ)(r:List V)(H:Hp)(Q:List V->Hp->Prop),r.length+1=d.length->Q r H->ta ((V.ref a::r).map some) H Q) (J:∀(q:hJ)(L:Env),mQ K q=true->RK K q pos p L) (N:(m==110)=false:=by decide) :
    vU P w K Z base (v4 P w) (k+1) f fd d (yM T u):=by
  obtain⟨oc,od,kV,aa,pm,an,g,n,ct,ab,rfl,lk,O,D⟩:=F.ex
  refine e2a4 G.ex λq ae M G hb R=>?_
  obtain⟨o1,o2,o3,i⟩:=D.cell
  refine HQ lk O (S.x n) (λy c h=>?_) G.len λA b s H vs Q E hr j=>?_
  · have e : c = n := by
      by_cases e:(y==110)=true
      · rw[iV, e]at h; cases h; rfl
      · rw[iV, Bool.eq_false_iff.mpr e]at h; cases h
    subst e
    exact#[_,_,i,rfl]
  · have hl := G.len _ _ _ _ j
    obtain⟨a,dx,fs,r,rfl,ea⟩:=VB j
    have U:start d (V.ref a::r)=(V.ref a::r).map some:=by unfold L2.start;rw[hl,qW];simp
    refine#[KL (XM<|a0W C (yM T u) E ta) WU,?_,?_]
    · rw[v]
      exact yQ (VA<|HP D Y S.ks S.kc (S.par _<|j0 Y) R M.find M.ty M.fn G hb hr (ha g n A b s H E) (J q _ M.fn) z N)<|Eg zP
    · rw[U]
      exact#[a,dx,fs,rfl,ea,I a r H _ hl j]
class Fu(D:Type)[Sls D]:Prop where
 fu:∀{F R:Rg} {H:Hp} {d:D} {σ:St},rel F R H d σ->∃vs:List V,σ=vs.map some
instance:Fu Unit:=#[λh=>#[[],h.1]]
instance{τ D:Type}[Ow τ][Sls D][Hs τ][Fu D]:Fu (τ×D):=#[λh=>by
 obtain⟨v,σ',F1,F2,rfl,_,h3,h4⟩:=h;obtain⟨u,rfl⟩:=Hs.has h3;obtain⟨vs,rfl⟩:=Fu.fu h4
 exact#[u::vs,rfl]]
def SWA(X:Cx)(e:List iH)(E:XK)(T:hJ)(f:List Nat)(n:Nat)(a:List iH){D c b d:Type}[Sls D][Sls c][Sls b][Ow d](w:D->(c->Prop)->(d->b->Prop)->(hJ->b->Prop)->Prop):Prop:=∃t,RI X e a t/\Xf E T f n t w
def Xr{g:List iH}{c:List Nat}{n:Nat}{D h e b f:Type}[Sls D][Sls h][Sls e][Sls b][Ow f]{i:iH}{a:List iH}{j:D->(e->Prop)->(f->b->Prop)->(hJ->b->Prop)->Prop}{k:e->(h->Prop)->(f->b->Prop)->(hJ->b->Prop)->Prop}(o:S1 X E T c n i j)(p:SWA X g E T c n a k)(q:Uk b c n:=by exact vP q0q) :
  SWA X g E T c n (i::a) (λd r l m=>j d (λs=>k s r l m) l m) :=
 e1a2 o λx t u=> e1a2 p λy v w=> #[_,yQ (RJ t) v,Xg q u w]
def VC{o:iH}{A:jN}{b:List Env}{s:ic}{fb:List iH}{ms:List Nat}{n k:Nat}{l:List Str}{B t:Type}[Sls B][Sls t]{fl:Bool}{wf:Wf (Bd C fl×B) Unit t}{u:List iZ}{p2:Pos}[Fu B][L:Ln B n]
 (D:LH P K C f j z "self") (S:xS l l (vg o)) (h0:l[0]?=↑("self":Str)) (J:OX p0 p1 apos pos m u) (G:Fs P w K mg base C m l (yM T wf) k) (hr:wM k (A.deeper<|ji i (vg o) ⇑s f (.ref j) [("__class__",z)]))
 (ha:PA (LF (v4 P w) P w K mg base l i (vg o) f (.ref j) [("__class__",z)] A b s H E) u ta)
 (N:∀(a:hJ)(r:List V)(H:Hp)(Q:List V->Hp->Prop),r.length=n->Q r H->ta ((V.ref a::r).map some) H Q) (O:∀(I:hJ)(U:Env),mQ K I=true->RK K I pos u U) (X:(m==110)=false:=by decide) (Y:kj (.Call (.Attribute 90 m apos) u [] pos) none p2.line (ji i (vg o) ⇑s f (.ref j) [("__class__",z)])=pure false:=by rfl) :
    SWA (LF (v4 P w) P w K mg base l i (vg o) f (.ref j) [("__class__",z)] A b s H E) fb E T ms (n+1) [.Expr (.Call (.Attribute 90 m apos) u [] pos) p2] (λ(d:Bd C fl×B)(Z:t->Prop)(_:Unit->t->Prop) Ke=>wf d (λ_ p=>Z p) Ke):=by
  refine e2a4 G.ex λI ab M G hb aa=>?_
  refine#[_,yQ (Fd (HP D h0 S.ks S.kc (S.par _<|j0 h0) aa M.find M.ty M.fn G hb hr ha (O I _ M.fn) J X) Y)<|Eg zP,λd F R σ H1 Z Kr Ke En s1 hw kn kr ke=>?_]
  refine e4a4 (id s1.rel) λv ae F1 F2 e t2 h3 h4=>?_
  obtain⟨a,dx,d1,d2,d3,d4,us,rfl,_,g⟩:=id h3
  obtain⟨r,rfl⟩:=Fu.fu h4
  have hl:=L.ln h4
  rw[h8]at hl
  subst e
  refine#[a,dx,_,rfl,g.ob,N a r H1 _ hl #[F,R,d,λ_ p=>Z p,Ke,s1,hw,λx p' v M1 M2 R' H' q c s' n'=>?_,λC y p' F' R' H' q c s'=>?_]]
  · exact kn p' M2 R' H' _ q (c.less λa h => .inr h) s'<|Ag.refl _ _
  · exact ke C y p' F' R' H' q c (by rw[jI<|by simp[hl]]; exact s')
def a0Y{J:iH}{M:List Str}{k n:Nat}{ms:List Nat}{A PO:Type}[Sls A][Sls PO][L:Ln A n](dp:Uk PO ms n){w0:A->(PO->Prop)->(Unit->PO->Prop)->91->Prop}
 (F:CB P K C x j J f fd) (S:xS M M (vg J)) (hn:M.length=n)
 (r:∀(i u:hJ)(A:jN)(b:List Env)(s:ic)(H:Hp)(E:XK),LH P K C f i u "self"->wM k (A.deeper<|ji j (vg J) ⇑s f (.ref i) [("__class__",u)])->SWA (LF (v4 P w) P w K mg base M j (vg J) f (.ref i) [("__class__",u)] A b s H E) (vS J) E T ms n (vS J) w0) :
    vU P w K mg base (v4 P w) (k+1) f fd M (yM T λ(p:A)(X:Unit->PO->Prop) N=>w0 p (λY=>X () Y) X N):=by
  have l:∀{o:List V} {H:Hp} {Q:VK} {E:XK},yM T (λ(p:A)(X:Unit->PO->Prop) N=>w0 p (λY=>X () Y) X N) o H Q E->o.length=n:=λh=>by
    obtain⟨F,R,p,Kn,N,s,_⟩:=h
    have:=L.ln s.rel
    rwa [h8]at this
  obtain⟨oc,od,kV,ae,pm,an,i,u,ct,af,rfl,lk,aa,D⟩:=F.ex
  obtain⟨o1,o2,o3,B⟩:=D.cell
  refine HQ lk aa (S.x u) (λy c h=>?_) (λo H Q E h=>(l h).trans hn.symm) λAr b s H o Q E hr Z=>?_
  · have e : c = u := by
      by_cases e:(y==110)=true
      · rw[iV, e]at h; cases h; rfl
      · rw[iV, Bool.eq_false_iff.mpr e]at h; cases h
    subst e
    exact#[_,_,B,rfl]
  refine e1a2 (r i u Ar b s H E D hr) λt h1 h2=>?_
  refine#[t,h1,?_]
  have hl:=l Z
  obtain⟨F,R,p,Kn,N,s0,hw,kn,ke⟩:=Z
  have ab:start M o=o.map some:=by unfold L2.start;rw[hl,hn,qW];simp
  rw[ab]
  have G:(o.map some).take n=o.map some:=jI (by rw[h8,hl];exact hV _)
  refine h2 p F R _ H _ Kn N _ s0 hw (λY F' O U I q c d g=>?_) (λx p' v F1 F2 O U q c d m=>?_) λC y p' F' O U q c d=>?_
  · have e' : I.take n = I := jI (by rw[g.1, h8, hl]; exact hV _)
    have g3:=dp.dp g (show rel F' O U Y (I.take n) by rw[e'];exact d.rel)
    rw[G]at g3
    exact kn () _ .wW (λ_=>False) F' O U q (c.less λa h=>h.elim (λz=>z.elim) id) #[g3,d.sub,d.xD,d.tab,d.v8,d.vV] #[#[λ_ z=>z,.wW,rfl,rfl],λ_ z=>z.elim,λ_ z=>z.elim,λz=>z]
  · rw[G]at d
    exact kn x p' v F1 F2 O U q c d m
  · rw[G]at d
    exact ke C y p' F' O U q c d
def Eh(C:hJ):Sp:=λi H Q E=>∃p h,i=[.ref p]/\H p=↑(.ins C h []) /\
 ∀c d e f g,(∀a,a=c\/a=d\/a=e\/a=f->H a=none)->[c,d,e,f].Nodup->g p=↑(.ins C h<|yW c d e f 0 true)->(∀a,a=c\/a=d\/a=e\/a=f->g a=↑(.dK []))->(∀b o,b≠p->H b=↑o->g b=↑o)->Q .wW g
def RL{C:hJ}{J:iH}{k:Nat}{p3 p4:Pos}{i:List iH}(F:CB P K C "__init__" q J f fd)(S:xS ["self"] ["self"] (vg J))(ct:Am K C)(cf:PV K C)(T:OX p0 p1 apos pos "__init__" [])
 (U:vS J=.Expr (.Call (.Attribute 90 "__init__" apos) [] [] pos) p2::i) (G:Fs P w K mg base C "__init__" ["self"] (HM C) k)
 (W:∀X,kj (.Call (.Attribute 90 "__init__" apos) [] [] pos) none p2.line X=pure false)
 (Y:∀(j r:hJ)(A:jN)(d:List Env)(s:ic)(H:Hp)(E:XK),FX (LF (v4 P w) P w K mg base ["self"] q (vg J) f (.ref j) [("__class__",r)] A d s H E) i<|KL (Ol K (vT 0) EA "head_by_tail")<|Ol K (vT 0) EA "tail_by_head") :
    vU P w K mg base (v4 P w) (k+1) f fd ["self"] (Eh C):=by
  obtain⟨oc,od,kV,af,pm,an,j,r,ag,ah,rfl,lk,Z,D⟩:=F.ex
  refine e2a4 G.ex λf2 ai M G hB aa=>?_
  obtain⟨o1,o2,o3,l⟩:=D.cell
  refine HQ lk Z (S.x r) (λy c h=>?_) (λvs H Q E z9=>e2a2 z9 λp t e _=>by rw[e];rfl) λAr d s H vs Q E hr ab=>?_
  · have e : c = r := by
      by_cases e:(y==110)=true
      · rw[iV, e]at h; cases h; rfl
      · rw[iV, Bool.eq_false_iff.mpr e]at h; cases h
    subst e
    exact#[_,_,l,rfl]
  refine#[_,by rw[U];exact yQ (Fd (HP D rfl S.ks S.kc (S.par _ hW) aa M.find M.ty M.fn G hB hr vF (cw_nil M.fn) T)<|W _)<|Eg<|Y j r Ar d s H E,?_]
  obtain⟨p,t,rfl,m,k⟩:=ab
  refine#[p,t,[],rfl,m,p,t,rfl,m,λL N H1 h1 h2 ae g1 g2 g3 g4=>?_]
  intro u v
  have O:p≠u:=vv g1 v
  have q2:L≠u:=vv g2 v
  have q3:N≠u:=vv g3 v
  refine#[_,rfl,p,C,t,_,rfl,(by rw[vh O];exact g1),ct.cl,cf.nH,(by show 3<1000;decide),?_]
  intro B g
  have R:p≠B:=λz=>by rw[<- z,vm]at g;cases g
  rw[vh R.symm]at g
  have r2:B≠u:=λz=>by rw[z,vm]at g;cases g
  rw[vh r2]at g
  have r3:L≠B:=vv g2 g
  have r4:N≠B:=vv g3 g
  refine#[_,rfl,p,C,t,_,rfl,(by rw[vh R,vm]),ct.cl,cf.nT,(by show 4<1000;decide),?_]
  have I:∀{b:hJ} {o:HO},H b=↑o->b≠p->H1 b=↑o:=λh n=>g4 _ _ n h
  have z:∀{a:hJ},a≠p->H1 a=none->H a=none:=λ{a} n h=>by
    cases e:H a with
    |none=>rfl
    |some o=>rw[I e n]at h;cases h
  refine k L N u B _ (λa ha=>?_) ?_ ?_ (λa ha=>?_) λb o nb Y=>?_
  · rcases ha with e|e|e|e <;> rw[e]
    · exact h1
    · exact h2
    · exact z O.symm v
    · exact z R.symm g
  · simp only[List.nodup_cons, iK, jq, mD, qe, mY, and_true, not_false_eq_true]
    exact#[#[ae,q2,r3],#[q3,r4],r2.symm]
  · rw[vm]; rfl
  · have pd : p ≠ L := λe => by rw[e, h1]at m; cases m
    have pe:p≠N:=λe=>by rw[e,h2]at m;cases m
    rcases ha with e|e|e|e<;>rw[e]
    · rw[vh pd.symm, vh r3, vh pd.symm, vh q2]; exact g2
    · rw[vh pe.symm, vh r4, vh pe.symm, vh q3]; exact g3
    · rw[vh O.symm, vh r2.symm, vh O.symm, vm]
    · rw[vh R.symm, vm]
  · have e := I Y nb
    rw[vh nb,vh<|vv e g,vh nb,vh<|vv e v]
    exact e
section
variable{D:Type}[Sls D]
def RM{k:Nat}(M:Mk X.K C f)(F:vU X.prog X.w X.K X.mg X.base 123 k f fd ["self"] (Eh C))(hr:wM (k+1) X.A)(hg:Gl X x)(hm:X.mg x=↑(.ref C))(hb:Binds X.K fd ["self"] [])(hx:Passes 123 X E)(J:(x==70)=false:=by decide) :
  EO X E T (.Call (.Name x p) [] [] pos) (λ(d:D)(O:Bd C true->D->Prop) _=>O #[[],[],0,[],[]] d):=by
 refine#[_,Qh M F hr hg hm hb .nil hx J,λd F' R σ H O Ke Q s hw kn _=>?_];intro y c L n m;refine#[y,c,rfl,vm,λg i j l r hn nd P v S=>#[rfl,?_]]
 have N:∀a,a=g\/a=i\/a=j\/a=l->a≠y/\a≠c/\H a=none:=λa ha=>by
  have h:=hn a ha;have U:a≠y:=λz=>by rw[z,vm]at h;cases h
  rw[vh U]at h;have W:a≠c:=λz=>by rw[z,vm]at h;cases h
  rw[vh W]at h;exact#[U,W,h]
 have B:∀a,a∈adr y c g i j l true->a=y\/a=c\/a=g\/a=i\/a=j\/a=l:=λa h=>by simpa[adr] using h
 have G:∀a,a∈adr y c g i j l true->H a=none:=λa h=>(B a h).elim (λz=>by rw[z];exact L) λh=>h.elim (λz=>by rw[z];exact n) λh=>(N a h).2.2;have I:∀b o,H b=↑o->r b=↑o:=λb o q=>S b o (vv q L) (by rw[vh<|vv q L,vh<|vv q n];exact q);have Y:r c=some (.own y):=S c _ m (by rw[vh m,vm]);have hl:∀a,a∈adr y c g i j l true->r a≠none:=λa h=>(B a h).elim (λz=>by rw[z,P];simp) λh=>h.elim (λz=>by rw[z,Y];simp) λh=>by rw[v a h];simp
 have Z:Ext (λ_=>False) R H (λa=>R a\/a∈adr y c g i j l true) r:=#[λb o _ h=>I b o h,λa h=>h.elim .inl λq=>.inr<|G a q]
 refine kn _ d (.ref y) (λa=>a∈adr y c g i j l true) F' (λa=>R a\/a∈adr y c g i j l true) r hw #[λb o _ _ h=>I b o h,Z.new,λa h=>h.elim (λq=>.inr<|G a q) .inl,λa h _=>.inl h]
  #[Sls.st s.rel Z (λ_ z=>z.elim)<|λ_ _ z=>z,λa h=>.inl<|s.sub a h,λa h=>h.elim (λz=>?_)<|hl a,?_,.inl s.v8,s.vV] ⟨⟨y,c,g,i,j,l,[],rfl,λ_=>Iff.rfl,#[?_,P,Y,v _<|.inl rfl,v _<|.inr<|.inl rfl,.nil,λ_=>v _<|.inr<|.inr<|.inl rfl,λ_=>v _<|.inr<|.inr<|.inr rfl]⟩,λa h=>.inr h,λa h z=>s.xD a (s.sub a z)<|G a h,λh=>zB s.tab<|G T h⟩
 ·cases e:H a with
  |none=>exact iq e<|s.xD a z
  |some u=>rw[I a u e];simp
 ·refine e1a2 s.tab λps e t=>?_;exact#[ps,I _ _ e,t]
 ·show [y,c,g,i,j,l].Nodup;refine List.nodup_cons.mpr #[λh=>?_,List.nodup_cons.mpr #[λh=>?_,nd]]
  ·rcases List.mem_cons.mp h with z|z
   ·exact m z.symm
   ·exact(N y<|by simpa using z).1 rfl
  ·exact(N c<|by simpa using h).2.1 rfl
end
end WL
namespace WL
open PySem L2
open Rep (rp)
open Ow (sl)
open Sls (rel)
open Rep (rp)
open Ow (sl)
open Sls (rel)
instance:YT Bool "bool" true:=#[λ{K R H x v} h=>by
 have h:v=V.bl x:=h;subst h
 exact#[_,zQ.bl x,by rfl]]
instance{α β:Type}[Rep α][Rep β]:YT (α×β) "tuple" true:=#[λ{K R H x v} h=>by
 obtain⟨a,u,w,rfl,_,h3,_⟩:=h
 exact#[_,zQ.tup h3,by rfl]]
section
variable{X:Cx}{E:XK}{T:hJ}{D α β:Type}[Sls D][Rep α][Rep β]{pos:Pos}
def VD{a:iZ}{p:Pos}{c:Wf D (α×β) D}(g:Gl X "len")(h:X.mg "len"=none)(i:EW X E T a c)(e:hR [a] X.env=85::hR [] X.env:=by rfl) :
  EW X E T (.Call (.Name "len" p) [a] [] pos) (cK c λ(f:Int->D->Prop) _ b=>f 2 b):=by
 refine e1a2 i λI j k=>?_;refine#[_,wZ xH g h mW (vq j vF e) (he:=e),λd F R l H f m Q s n o r=>k d F R l H _ m _ s n (λx b u t y H1 z A B C=>?_) r];obtain⟨q,v,w,rfl,_,G,J,L⟩:=C;exact#[_,_,rfl,.inr<|zu.of G,o _ b _ t y H1 z A B rfl]
end
variable[L2.GX]
section
variable{X:Cx}{scope:mB}{T:List Str}{i j:Nat}{x y:Str}{c d:hJ}
/-- the scope of a comprehension a0Z reads nothing,one name,two names from around it -/
def ZG(a:scope.kind=.function/\oS scope X.env=pure []:=by exact#[rfl,rfl])
 (b:(∀z∈scope.names,z.2≠.cell)/\(∀z∈scope.names,z.2=.local->scope.names.lookup z.1=some .local)/\∀z∈scope.names,z.2≠.free:=by refine#[?_,?_,?_]<;>decide +kernel):zn X scope [] T [] [] :=
  #[a.1,a.2,b.1,b.2.1,(λ_ _ h=>by cases h),λz f e=>iq e<|b.2.2 z f,(λj z h=>by cases h),rfl]
def RN(a:scope.kind=.function/\oS scope X.env=pure [(x,c)]/\X.env.cells.lookup x=↑c/\X.N[i]?=↑x/\X.env.kindOf x=some .cell/\(ph scope X.env).names.lookup x=some .cell:=by exact#[rfl,rfl,rfl,rfl,rfl,rfl])
 (b:(∀z∈scope.names,z.2≠.cell)/\(∀z∈scope.names,z.2=.local->scope.names.lookup z.1=some .local)/\∀z∈scope.names,z.2=.free->z.1=x:=by refine#[?_,?_,?_]<;>decide +kernel):zn X scope [(x,c)] T [x] [i] :=
  have f:∀{z:Str},z=x->kM z [(x,c)]=↑c:=λ{z} e=>by rw[e,iV,pR]
  #[a.1,a.2.1,b.1,b.2.1,(λz e h=>(lkc h).elim (λq=>by rw[q.1,q.2];exact a.2.2.1) λq=>by cases q),λz g e=>#[c,f (b.2.2 z g e)],(λk z h=>by
    cases k with
    |zero=>cases h;exact#[i,c,rfl,a.2.2.2.1,.inl a.2.2.2.2.1,f rfl,.inl a.2.2.2.2.2]
    |succ k=>cases h),rfl]
def bs2(a:scope.kind=.function/\oS scope X.env=pure [(y,d),(x,c)]/\X.env.cells.lookup x=↑c/\X.env.cells.lookup y=↑d/\X.N[i]?=↑x/\X.N[j]?=↑y/\X.env.kindOf x=some .cell/\X.env.kindOf y=some .cell/\(ph scope X.env).names.lookup x=some .cell/\(ph scope X.env).names.lookup y=some .cell:=by exact#[rfl,rfl,rfl,rfl,rfl,rfl,rfl,rfl,rfl,rfl])
 (b:(∀z∈scope.names,z.2≠.cell)/\(∀z∈scope.names,z.2=.local->scope.names.lookup z.1=some .local)/\(∀z∈scope.names,z.2=.free->z.1=x\/z.1=y)/\¬x=y:=by refine#[?_,?_,?_,?_]<;>decide +kernel):zn X scope [(y,d),(x,c)] T [x,y] [i,j] :=
  have f:∀{z:Str},z=y->kM z [(y,d),(x,c)]=↑d:=λ{z} e=>by rw[e,iV,pR]
  have g:∀{z:Str},z=x->kM z [(y,d),(x,c)]=↑c:=λ{z} e=>by rw[e,iV,beq_eq_false_iff_ne.mpr b.2.2.2,iV,pR]
  #[a.1,a.2.1,b.1,b.2.1,(λz e h=>(lkc h).elim (λq=>by rw[q.1,q.2];exact a.2.2.2.1) λh=>(lkc h).elim (λq=>by rw[q.1,q.2];exact a.2.2.1) λq=>by cases q),λz l e=>(b.2.2.1 z l e).elim (λq=>#[c,g q]) λq=>#[d,f q],(λk z h=>by
    cases k with
    |zero=>cases h;exact#[i,c,rfl,a.2.2.2.2.1,.inl a.2.2.2.2.2.2.1,g rfl,.inl a.2.2.2.2.2.2.2.2.1]
    |succ k=>cases k with
      |zero=>cases h;exact#[j,d,rfl,a.2.2.2.2.2.1,.inl a.2.2.2.2.2.2.2.1,f rfl,.inl a.2.2.2.2.2.2.2.2.2]
      |succ k=>cases h),rfl]
end
structure Dc(α:Type) where
 l:List (Int×α)
def PK{α:Type}[Rep α](R:Rg)(H:Hp):List (Int×α)->List (Key×V)->Prop:=Paired λe u=>u.1=iM e.1/\rp R H e.2 u.2
section
variable{α:Type}[Rep α]
def RO(e:Ext R R H b c):∀{l:List (Int×α)} {a:List (Key×V)},PK R H l a->PK b c l a:=by
 intro _ _ z
 induction z with
 |nil=>exact .nil
 |cons h t d=>exact .cons #[h.1,Rep.st h.2 e] d
def LI{k:Int}:∀{l:List (Int×α)} {us:List (Key×V)},PK R H l us->(∀b,lk l k=↑b->∃v,yK us (iM k)=↑v/\rp R H b v)/\(lk l k=none->yK us (iM k)=none):=by
 intro z0 z1 z9
 induction z9 with
 |nil=>exact#[(λb h=>by cases h),λ_=>rfl]
 | @cons e u l us h t YV =>
  have i:=YV;by_cases q:e.1=k
  ·have e1:lk (e::l) k=↑e.2:=by unfold lk;rw[je,decide_eq_true q];rfl
   rw[e1];refine#[λb hb=>?_,(λz=>by cases z)];cases hb;exact#[u.2,zw (by rw[h.1,q]),h.2]
  ·have e1:lk (e::l) k=lk l k:=by unfold lk;rw[je,iC q]
   rw[e1,zx<|by rw[h.1];intro z;exact q<|oh z];exact i
def Nv{k:Int}{l:List (Int×α)}{us:List (Key×V)}(h:PK R H l us):(yK us<|iM k).isSome=(lk l k).isSome:=by
 have i:=LI (k:=k) h
 cases e:lk l k with
 |none=>rw[i.2 e];rfl
 |some b=>obtain⟨v,hv,_⟩:=i.1 b e;rw[hv];rfl
def LJ:∀{l:List (Int×α)} {a:List (Key×V)},PK R H l a->a.length=l.length
 |_,_,.nil=>rfl
 |_,_,.cons _ t=>by rw[iF,iF,LJ t]
def RP{k:Int}{x:α}{v:V}(r:rp R H x v):∀{l:List (Int×α)} {us:List (Key×V)},PK R H l us->PK R H (l++[(k,x)]) (us++[(iM k,v)])
 |_,_,.nil=>.cons #[rfl,r] .nil
 |_,_,.cons h t=>.cons h<|RP r t
def YX{k:Int}{x:α}{v:V}(r:rp R H x v):∀{l:List (Int×α)} {us:List (Key×V)},PK R H l us->PK R H (l.map λe=>if e.1=k then (e.1,x) else e) (us.map λkv=>if kv.1=iM k then (kv.1,v) else kv):=by
 intro z0 z1 z9
 induction z9 with
 |nil=>exact .nil
 | @cons e u l us h t YV =>
  refine .cons ?_<|YV;dsimp only;by_cases q:e.1=k
  ·rw[cr q,cr<|by rw[h.1,q]];exact#[h.1,r]
  ·rw[hI q,hI<|by rw[h.1];intro z;exact q<|oh z];exact h
def RQ{k:Int}(r:rp R H x v){l:List (Int×α)}{us:List (Key×V)}(h:PK R H l us):PK R H (pk l k x) (putK us (iM k) v):=by
 unfold putK pk;rw[AB,Nv h]
 cases (lk l k).isSome with
 |true=>rw[cr rfl,cr rfl];exact YX r h
 |false=>rw[hI ik,hI ik];exact RP r h
end
instance{α:Type}[Rep α]:Ow (Dc α):=#[λF R H x v=>∃a us,v=↑(.ref a)/\(∀b,F b↔b=a)/\H a=↑(.dK us)/\PK R H x.l us,
 λh e s n=>by
  refine e2a4 h λa us h1 h2 h3 h4=>?_
  exact#[a,us,h1,h2,e.keep a _ (n a<|(h2 a).mpr rfl) h3,RO (e.wide s) h4],
 λh e=>by
  refine e2a4 h λa us h1 h2 h3 h4=>?_
  exact#[a,us,h1,λb=>(e b).symm.trans (h2 b),h3,h4]]
instance{α:Type}[Rep α]:Hs (Dc α):=#[λz9=>e2a2 z9 λ_ _ h _=>#[_,h]]
section
variable{D PO τ:Type}[Sls D][Sls PO][Ow τ]{α:Type}[Rep α]
def Ei{i:Nat}[Sls c][A:At i D (Dc α) c](s:wz T F R H d e):∃a b,e[i]?=↑(some<|.ref a)/\H a=↑(.dK b)/\PK R H (A.get d).l b:=by obtain⟨v,j,k,f,m,⟨a,b,rfl,n,g,h⟩,o⟩:=A.take s.rel;exact#[a,b,f,g,h]
def RS{i:Nat}[Sls w][A:At i D (Dc α) w][U:Pt i w (Dc α) D](s:wz T F R H d x):∃a g,x[i]?=↑(some<|.ref a)/\H a=↑(.dK g)/\PK R H (A.get d).l g /\
  ∀(j:List (Int×α)) (f:List (Key×V)),PK R H j f->Ch T F R H F R (upd H a<|.dK f)/\wz T F R (upd H a<|.dK f) (U.put (A.hole d) #[j]) x:=by
 obtain⟨v,N,O,y,m,⟨a,g,rfl,p,E,G⟩,I⟩:=A.take s.rel;have r:F a:=(m.all a).mpr<|.inl<|(p a).mpr rfl;have J:a≠T:=λz=>s.vV (by rw[<- z];exact r);refine#[a,g,y,E,G,λj f L=>?_];have B:=zZ (F:=F) (R:=R) (H:=H) (a:=a) (o:=.dK f);have C:∀c,c=a->R c:=λc z=>by rw[z];exact s.sub a r
 have k:∀b u,b≠a->H b=↑u->upd H a (.dK f) b=↑u:=λb u z e=>by rw[vh z];exact e
 refine#[#[λb o n _ e=>k b o (λz=>n<|by rw[z];exact r) e,λ_ h=>.inl h,λ_ h=>.inl h,λ_ h _=>h],Pt.same (A:=U) (Sls.st I B C λc z q=>m.yG c ((p c).mpr q) z) y m #[a,f,rfl,p,vm,RO (B.wide C) L],s.sub,λc z=>?_,?_,s.v8,s.vV]
 ·by_cases e:c=a
  ·rw[e,vm];simp
  ·rw[vh e];exact s.xD c z
 ·refine e1a2 s.tab λM e t=>?_;exact#[M,k _ _ (λz=>J z.symm) e,t]
def Fe{a:iZ}(i:Nat){D0:Type}[Sls D0][A:At i D (Dc α) D0]{wk:Wf D Int D}(hu:X.A.units+1<kX)(hn:PE X (.Name x p1) (vT i))(hk:EW X E T a wk)(hs:Qs a:=by intro _ _;rfl) :
  EW X E T (.Subscript (.Name x p1) a pos) (cK wk λ(Kn:α->D->Prop) k d1=>∃v,lk (A.get d1).l k=↑v/\Kn v d1):=by
 refine e1a2 hk λta a1 a2=>?_;refine#[_,Hj hu hn a1 hs,λd F R σ H Kn Ke Q s hw kn ke=>?_];obtain⟨y0,us0,h1,_,_⟩:=Ei (i:=i) s;refine#[_,h1,a2 d F R σ H _ Ke _ s hw (λk d1 u F1 R1 H1 q1 c1 s1 r1=>?_) ke];subst r1;obtain⟨y,us,g1,g2,g3⟩:=Ei (i:=i) s1;rw[h1]at g1;cases g1;refine e1a2 q1 λz z1 z2=>?_;refine e1a2 ((LI g3).1 z z1) λv v1 v2=>?_;have g:=yB.k (k:=iM k) g2;rw[v1]at g;exact#[_,v,rfl,g,kn z d1 v F1 R1 H1 z2 c1 s1 v2]
def RT(i:Nat){B:Type}[Sls B][A:At i D (Dc α) B][U:Pt i B (Dc α) D][J:Pj D PO n]{M:Wf D Int D}{N:Wf D α D}(hu:X.A.units+1<kX)(hn:PE X (.Name x O) (vT i))(hk:EW X E T a M)(he:EW X E T e N)
 (hs:kj e (some<|.Subscript (.Name x O) a p3) pos.line X.env=pure false:=by rfl) :
    S1 X E T ms n (.Assign [.Subscript (.Name x O) a p3] e pos) (λ(d:D)(P:D->Prop)(Kr:τ->PO->Prop) j=>N d (λv I=>M I (λk r=>(A.get r).l.length<hX/\P (U.put (A.hole r) #[pk (A.get r).l k v])) λC f=>j C<|J.pj f) λC f=>j C<|J.pj f):=by
  refine e1a2 hk λta a1 a2=>?_
  refine e1a2 he λte b1 b2=>?_
  have Q:∀{F R g h:Rg} {H b:Hp} {C y:hJ} {f:D} {m:St} {j:hJ->PO->Prop},(∀C y S g h b,j C S->Ch T F R H g h b->wz T g h b S (m.take n)->E (.ref C) ↑y b)->j C (J.pj f)->Ch T F R H g h b->wz T g h b f m->E (.ref C) ↑y b:=λt q c p=>by
    refine e1a2 (wY (PO:=PO) p) λG z L=>?_
    exact t _ _ _ G _ _ q (c.less z) L
  refine#[_,Hk hu hn a1 b1 hs,λd F R m H P Kr j En s hw kn kr t=>b2 d F R m H _ _ _ s hw (λv I u F1 R1 H1 q1 W o r1=>?_) λC y f g h b q c p=>Q t q c p]
  obtain⟨y0,aa,Y,_,_⟩:=Ei (i:=i) o
  refine#[_,Y,a2 I F1 R1 m H1 _ _ _ o q1 (λk r w F2 R2 H2 Z c2 s2 r2=>?_) λC y f g h b q c p=>Q t q (Ch.trans s o.tab W c) p]
  subst r2
  refine e2a4 (RS (i:=i) s2) λy us z L g3 g4=>?_
  rw[Y]at z
  cases z
  obtain⟨c3,s3⟩:=g4 _ _<|RQ (k:=k) (o.val c2 r1) g3
  exact#[_,_,rfl,Hi.k (k:=iM k) L (by rw[LJ g3];exact Z.1),kn _ F2 R2 _ m Z.2 (Ch.trans s o.tab W<|Ch.trans o s2.tab c2 c3) s3<|Ag.refl _ _]
end
section
variable{D PO τ:Type}[Sls D][Sls PO][Ow τ]{α β:Type}[Rep α][Rep β]
def GR{i:Nat}[Sls c][A:At i D (List Int) c](s:wz T F R H d e):∃a,e[i]?=↑(some<|.ref a)/\H a=↑(.lst<|(A.get d).map V.int):=by obtain⟨v,h,j,f,_,⟨_,u,rfl,a,k,rfl,_,b,g⟩,_⟩:=A.take s.rel;rw[paired_ints g]at b;exact#[a,f,b]
def VE(i j:Nat)[Sls D1][Sls D2][A:At i D (List Int) D1][B:At j D (List Int) D2](u:X.calm=true)(v:Gl X "sorted")(C:X.mg "sorted"=none)(L:Gl X "set")(M:X.mg "set"=none)(hn:PE X (.Name x c) (vT i))(G:PE X (.Name y e) (vT j))
 (f:hR [.Name x c] X.env=(false,eval (.Name x c) X.env)::hR [] X.env:=by rfl) (g:hR [.Name y e] X.env=(false,eval (.Name y e) X.env)::hR [] X.env:=by rfl)
 (h:hR [.BinOp (.Call (.Name "set" N) [.Name x c] [] O) .BitXor (.Call (.Name "set" P) [.Name y e] [] S) W] X.env=(false,eval (.BinOp (.Call (.Name "set" N) [.Name x c] [] O) .BitXor (.Call (.Name "set" P) [.Name y e] [] S) W) X.env)::hR [] X.env:=by rfl) :
    EO X E T (.Call (.Name "sorted" q1) [.BinOp (.Call (.Name "set" N) [.Name x c] [] O) .BitXor (.Call (.Name "set" P) [.Name y e] [] S) W] [] pos)
      (λ(d:D)(Y:OL Int->D->Prop) _=>(w4 (A.get d)/\w4 (B.get d)/\∃U:List Int,U.length<64/\(∀k∈A.get d,k∈U)/\∀k∈B.get d,k∈U)/\Y #[xr (A.get d)<|B.get d] d):=by
  refine#[_,wZ (Cg u) v C kO (vq (xj UW (xU (JM u) L M oB (vq hn vF f) (he:=f))<|xU (JM u) L M oB (vq G vF g) (he:=g)) vF h) (he:=h),λd F R σ H Y Ke Q s hw kn ke=>?_]
  obtain⟨⟨Z,rb,U,hU,ua,ub⟩,o⟩:=hw
  have la:=wO Z ua
  have lb:=wO rb ub
  refine e1a2 (GR (i:=i) s) λa a1 a2=>?_
  refine#[_,a1,a,A.get d,rfl,wI.of a2,q0a,λp ka hp aa ab ma=>?_]
  refine e0a3 (s.new (xC X.w p ka) hp) λt c1 _=>?_
  refine e1a2 (GR (i:=j) t) λb b1 b2=>?_
  refine#[_,b1,b,B.get d,rfl,wI.of b2,q0a,λq kb hq ae af mb=>?_]
  refine e0a3 (t.new (xC X.w q kb) hq) λI c2 _=>?_
  have J:p≠q:=vv vm hq
  refine#[p,q,ka,kb,rfl,rfl,by rw[vh J];exact vm,vm,q0a,λr m hr n mc=>?_]
  refine e0a3 (I.new (xC X.w r m) hr) λs3 c3 _=>?_
  have mm:∀k,k∈m↔k∈xr (A.get d) (B.get d):=λk=>by
    rw[mc,zo<|vt rb,ma,mb]
    by_cases h1:k∈A.get d<;>by_cases h2:k∈B.get d<;>simp[h1,h2]
  have lc:m.length<64:=by
    have:=SX.zy m U n λk o=>by
      rw[mc,ma,mb]at o
      exact o.elim (λz=>ub k z.1) λz=>ua k z.2
    lia
  refine#[r,m,rfl,vm,lc,λl ns hl pn sn=>?_]
  rw[EL pn sn,E5 n mm<|xL Z]
  refine e1a3 (xW s3 hl<|yq (R:=R)<|xr (A.get d)<|B.get d) λR' c4 s4 n4=>?_
  exact kn _ d _ _ F R' _ o (Ch.trans s t.tab c1<|Ch.trans t I.tab c2<|Ch.trans I s3.tab c3 c4) s4 n4
end
structure T3(α β γ:Type) where
 a:α
 b:β
 c:γ
instance{α β γ:Type}[Ow α][Ow β][Ow γ]:Ow (T3 α β γ):=#[λF R H x v=>∃p u1 u2 u3 F1 F2 F3,v=↑(.ref p)/\¬R p/\H p=↑(.tup [u1,u2,u3])/\ET F F1 F2 F3/\sl F1 R H x.a ↑u1/\sl F2 R H x.b ↑u2/\sl F3 R H x.c ↑u3,
 λh e s n=>by
  obtain⟨p,u1,u2,u3,F1,F2,F3,h1,h2,h3,t,g1,g2,g3⟩:=h
  exact#[p,u1,u2,u3,F1,F2,F3,h1,(e.wide s).not h2 h3,e.keep p _ (λz=>h2<|s p z) h3,t,Ow.st g1 e s λa z=>n a<|(t.all a).mpr<|.inl z,Ow.st g2 e s λa z=>n a<|(t.all a).mpr<|.inr<|.inl z,Ow.st g3 e s λa z=>n a<|(t.all a).mpr<|.inr<|.inr z],
 λh e=>by
  obtain⟨p,u1,u2,u3,F1,F2,F3,h1,h2,h3,t,g⟩:=h
  exact#[p,u1,u2,u3,F1,F2,F3,h1,h2,h3,#[λa=>(e a).symm.trans (t.all a),t.Ji,t.KC,t.KD],g]]
section
variable{D PO τ:Type}[Sls D][Sls PO][Ow τ]{α β γ:Type}[Ow α][Ow β][Ow γ]
def VF{x1}(i j k:Nat)[Sls D'][Sls P][Sls Q][Sls S][Hs α][Hs β][Hs γ][g:At i D α P][l:At j P β Q][t:At k Q γ S][J:Pj S PO n](u:PE X (.Name x v) (vT i))(w:PE X (.Name y m) (vT j))(A:PE X (.Name z e) (vT k))
 (h1:hR [.Name x v,.Name y m,.Name z e] X.env=(false,eval (.Name x v) X.env)::hR [.Name y m,.Name z e] X.env:=by rfl) (h2:hR [.Name y m,.Name z e] X.env=(false,eval (.Name y m) X.env)::hR [.Name z e] X.env:=by rfl) (h3:hR [.Name z e] X.env=(false,eval (.Name z e) X.env)::hR [] X.env:=by rfl) :
    S1 X E T ms n (.Return (some<|.Tuple [.Name x v,.Name y m,.Name z e] x1 p4) pos) (λ(d:D)(_:D'->Prop)(U:T3 α β γ->PO->Prop) _=>U #[g.get d,l.get<|g.hole d,t.get<|l.hole<|g.hole d]<|J.pj<|t.hole<|l.hole<|g.hole d):=by
  refine#[_,CY<|Qc<|vq u (vq w (vq A vF h3) h2) h1,λd F R σ H Kn U Ke En s hw kn kr ke=>?_]
  refine e3a4 (g.take s.rel) λ_ G1 G2 W b g1 r1=>?_
  obtain⟨B,rfl⟩:=Hs.has g1
  refine e3a4 (l.take r1) λ_ _ _ Y _ g2 r2=>?_
  obtain⟨C,rfl⟩:=Hs.has g2
  refine e3a4 (t.take r2) λ_ _ _ Z _ g3 _=>?_
  obtain⟨I,rfl⟩:=Hs.has g3
  refine#[B,W,C,Y,I,Z,(by show 3<=hX;decide),λp hp=>?_]
  refine e0a3 (s.new (.tup [B,C,I]) hp) λL c1 n1=>?_
  refine e3a4 (g.take L.rel) λv1 o E1 b1 b k1 q1=>?_
  refine e3a4 (l.take q1) λv2 q E2 b2 c k2 q2=>?_
  refine e3a4 (t.take q2) λv3 r E3 b3 f k3 q3=>?_
  rw[W]at b1
  rw[Y]at b2
  rw[Z]at b3
  cases b1
  cases b2
  cases b3
  refine e1a2 (J.le q3) λG l1 l2=>?_
  have i1:∀a,o a->F a:=λa h=>(b.all a).mpr<|.inl h
  have i2:∀a,q a->F a:=λa h=>(b.all a).mpr<|.inr<|(c.all a).mpr<|.inl h
  have i3:∀a,r a->F a:=λa h=>(b.all a).mpr<|.inr<|(c.all a).mpr<|.inr<|(f.all a).mpr<|.inl h
  have M:∀a,G a->F a:=λa h=>(b.all a).mpr<|.inr<|(c.all a).mpr<|.inr<|(f.all a).mpr<|.inr<|l1 a h
  have dG:∀a,o a\/q a\/r a->¬G a:=λa h z=>by
    have N:=l1 a z
    rcases h with h|h|h
    · exact b.yG a h<|(c.all a).mpr<|.inr<|(f.all a).mpr<|.inr N
    · exact c.yG a h<|(f.all a).mpr<|.inr N
    · exact f.yG a h N
  have O:∀a,o a\/q a\/r a->F a:=λa h=>h.elim (i1 a) λh=>h.elim (i2 a)<|i3 a
  exact kr _ _ (.ref p) (λa=>o a\/q a\/r a) G R _ hw #[c1.keep,λ_ h=>.inl h,λa h=>.inl<|h.elim (O a)<|M a,λ_ h _=>h] #[l2,λa h=>s.sub a<|M a h,L.xD,L.tab,s.v8,λh=>s.vV<|M T h]
    #[#[p,B,C,I,o,q,r,rfl,n1,vm,#[λ_=>Iff.rfl,λa h k=>b.yG a h<|(c.all a).mpr<|.inl k,λa h k=>b.yG a h<|(c.all a).mpr<|.inr<|(f.all a).mpr<|.inl k,λa h k=>c.yG a h<|(f.all a).mpr<|.inl k],k1,k2,k3],λa h=>s.sub a<|O a h,λa h z=>dG a h z,λh=>s.vV<|O T h]
def VG(i j k:Nat){σ1 YJ σ3 D0 D1 D2 D3 D4 D5:Type}[Ow σ1][Ow YJ][Ow σ3][Sls D0][Sls D1][Sls D2][Sls D3][Sls D4][Sls D5][A:At i D σ1 D0][U:Pt i D0 α D1][A2:At j D1 YJ D2][U2:Pt j D2 β D3][A3:At k D3 σ3 D4][U3:Pt k D4 γ D5][J:Pj D PO n]{we:Wf D (T3 α β γ) D}
 (hp:PG X tg (XX X.K 3<|Gv (DB i)<|Gv (DB j)<|Gv (DB k) XW)) (hi:i∉ms) (hj:j∉ms) (hk:k∉ms) (he:EO X E T e we)
 (hb:∀{te:TE} {t:TG},PE X e te->PG X tg t->PS X (.Assign [tg] e pos) (XY te t):=by intro te t h1 h2;exact KN h1 h2) :
    S1 X E T ms n (.Assign [tg] e pos) (cS we J.pj λ(Kn:D5->Prop)(Kr:τ->PO->Prop) x d1=>Kn<|U3.put (A3.hole<|U2.put (A2.hole<|U.put (A.hole d1) x.a) x.b) x.c):=by
  refine e1a2 he λt h1 h2=>?_
  refine#[_,hb h1 hp,λd F R σ H Kn Kr Ke En s hw kn kr ke=>h2 d F R σ H _ _ _ s hw (λx d1 v F1 F2 R1 H1 q1 c1 s1 m1=>?_) λC y d' F' R' H' q c s'=>?_]
  · obtain⟨p, u1, u2, u3, G1, G2, G3, e1, e2, e3, t3, g1, g2, g3⟩ := m1.is
    cases e1
    have j1:∀a,G1 a->F1 a:=λa h=>(t3.all a).mpr<|.inl h
    have j2:∀a,G2 a->F1 a:=λa h=>(t3.all a).mpr<|.inr<|.inl h
    have j3:∀a,G3 a->F1 a:=λa h=>(t3.all a).mpr<|.inr<|.inr h
    refine e1a2 (GN (i:=i) s1 (x:=x.a) (v:=u1) (F1:=G1) #[g1,λa h=>m1.sub a<|j1 a h,λa h z=>m1.yG a (j1 a h) z,λh=>m1.tab<|j1 T h]) λL1 k1 f1=>?_
    refine e1a2 (GN (i:=j) f1 (x:=x.b) (v:=u2) (F1:=G2) #[g2,λa h=>m1.sub a<|j2 a h,λa h z=>(k1 a z).elim (λq=>t3.Ji a q h)<|m1.yG a<|j2 a h,λh=>m1.tab<|j2 T h]) λL2 k2 f2=>?_
    refine e1a2 (GN (i:=k) f2 (x:=x.c) (v:=u3) (F1:=G3) #[g3,λa h=>m1.sub a<|j3 a h,λa h z=>(k2 a z).elim (λq=>t3.KD a q h) λz=>(k1 a z).elim (λq=>t3.KC a q h)<|m1.yG a<|j3 a h,λh=>m1.tab<|j3 T h]) λL3 k3 f3=>?_
    exact#[p,[u1,u2,u3],rfl,zu.of e3,rfl,u1,[u2,u3],rfl,u2,[u3],rfl,u3,[],rfl,rfl,kn _ L3 R1 H1 _ q1 (c1.less λa h=>(k3 a h).elim (λq=>.inl<|j3 a q) λh=>(k2 a h).elim (λq=>.inl<|j2 a q) λh=>(k1 a h).elim (λq=>.inl<|j1 a q) .inr) f3<|((Ag.set hi).trans<|Ag.set hj).trans<|Ag.set hk]
  · refine e1a2 (wY (PO := PO) s') λG g1 g2 => ?_
    exact ke C y _ G R' H' q (c.less g1) g2
end
end WL
namespace L2
variable[L2.GX]
open PySem PySem.Spec PyProof.Rows
noncomputable abbrev xY(X:Cx)(a:List (hJ×Obj))(h:XK)(i:St->Prop):Cx :=
 { X with pn:=a,xe:=λe j=>∃(b:List (hJ×Obj)) (c:St) (d:Hp) (f:ic) (C x:hJ) (g:Hp),e=.ref x/\Inv { X with pn:=a} b c d f/\i c/\EI X.prog X.w X.stack d f g C x j/\h (.ref C) ↑x g}
def Inv.YY(I:Inv X a b H s):Inv (xY X (X.pn++a) d e) [] b H s :=
 #[61,I.os,I.bare,I.base,I.loc,I.cell,I.free,I.yE,λp c=>I.pin p (by simpa using c),I.v0,I.len]
def Inv.HR(I:Inv (xY X (X.pn++a) e f) b c H s):Inv X a c H s :=
 #[61,I.os,I.bare,I.base,I.loc,I.cell,I.free,I.yE,λp d=>I.pin p<|jo _ d,I.v0,I.len]
def Inv.a00(I:Inv (xY X b d e) a c H s):Inv { X with pn:=b} a c H s :=
 #[61,I.os,I.bare,I.base,I.loc,I.cell,I.free,I.yE,I.pin,I.v0,I.len]
def LK(c:Qe)(X:Cx)(E:XK)(d:St):Prop:=∀(a:List (hJ×Obj)) (H:Hp) (s:ic) (e:ci) (b:ic),Inv X a d H s->c X.stack H s E e b->X.xe e b
def a01(h:c b):LK 123 (xY X d f c) f b:=by intro a g i e m I j;obtain⟨C,x,k,rfl,F,l⟩:=j;exact#[a,b,g,i,C,x,k,rfl,I.a00,h,F,l]
def VH(F:vU X.prog X.w X.K X.mg X.base l k f m g n)(o:wM k X.A)(p:Binds X.K m g d)(q:Vals b d)(t:LK l X E i)
 (I:Inv X a i H s)(r:Vals vs us)(h:n (vs++b) H Q E):ii 58 X.A (call (.ref f) us) (EP X a i Q) X.xe s:=by
  have j:Vals (vs++b) (us++d):=r.append q
  have v:(us++d).length=g.length:=by rw[<- j.length];exact F.len _ _ _ _ h
  refine m8<|kh (F.run X.A X.stack s H ⟨us,[]⟩ (us++d) (vs++b) Q E o I.JA (p s us I.y9 v) j h) λr x c=>?_
  cases r with
  |error e=>exact t a H s e x I c
  |ok y =>
    cases y with
    |ret u=>exact I.after c
    |next=>exact iR c
    |brk=>exact iR c
    |cont=>exact iR c
def RU(c:Qe)(X:Cx)(C:hJ)(m:Str)(d:Sp)(a:List V)(E:XK)(e:TE)(t:TA):TE:=λb H Q=>LK c X E b/\Gx C m d a E e t b H Q
def RV(G:PE X o J)(c:Bw X.K C)(v:Meth X.K C m f)(F:vU X.prog X.w X.K X.mg X.base CX k f L M N)(O:wM k X.A)(P:Binds X.K L M R)(hd:Vals i R)(S:PA X (e::d) t)
 (j:hR (e::d) X.env=71::hR d X.env:=by rfl) (n:(jE pos<|hR d X.env).any (·.1)=false:=by rfl)
 (ht:eval (.Call (.Attribute o m apos) (e::d) [] pos) X.env=(do
 let y <- eval o X.env
 nA apos.atName
 let (f,first) <- lm [y] (m9 y m T)
 n6 pos f first (jE pos (hR (e::d) X.env)) (nC pos (lp [] X.env))):=by rfl) :
    PE X (.Call (.Attribute o m apos) (e::d) [] pos) (RU CX X C m N i E J t):=by
  intro b s z H Q I h
  obtain⟨U,h⟩:=h
  refine oZ (pl:=T) (vX (G b s z H _ I h) λu Y p=>e2a3 p λx H1 B Z g=>e3a4 g λa dx fs ex ea l q=>?_) ht
  subst ex
  obtain rfl:u=iA a:=Z
  refine BP B ea c v l ?_
  refine qb (first:=[.ref a]) (h₀:=X.base) I.ok.mod.B3 v.kp (vX (S pos b Y z H1 _ B q) λus s2 p=>e2a3 p λvs H2 D r q2=>#[D.y9,?_]) j n
  exact VH (us:=.ref a::us) (vs:=.ref a::vs) F O P hd U D (.cons rfl r) q2
def a3a(o:Option (List V))(h h':ja):Prop:=match o with
 |none=>h'=h
 |some xs=>∃Ap:List ci,Vals xs Ap/\xs.length<=hX/\h'=h.push { cls:=.type "tuple",data:=.seq Ap.toArray}
def Lay(o:Option (List V))(H H':Hp):Prop:=match o with
 |none=>H'=H
 |some xs=>∃p,H p=none/\H'=upd H p (.tup xs)
def ClO(X:Cx)(d:iZ)(e:List hJ)(o:Option (List V)):Prop:=∀(x C:hJ) (a:List (hJ×Obj)) (s:ic) (f:St) (H:Hp) (Q:Bool->ic->Prop) (E:ci->ic->Prop),C∈e->Inv (hand X x) a f H s->(∃b,s.heap.get? x=↑b/\b.cls=.ref C) ->
 (∀c,a3a o s.heap c->Q true { s with heap:=c}) ->
 ii 58 (X.A.mark<|some<|.ref x) (eval d X.env) (λv g=>ii 58 (X.A.mark<|some<|.ref x) (excMatches (.ref x) v) Q E g) E s
def YZ{r:Nat}(e:Gl X f)(g:X.mg f=↑(.ref c))(h:Gl X i)(j:X.mg i=↑(.ref d))(l:lW X.K (.ref c) [.ref c,.ref d]=↑true)(m:lW X.K (.ref d) [.ref c,.ref d]=↑true)
 (t:(f==70)=false:=by decide) (u:(i==70)=false:=by decide) :
    ClO X (.Tuple [.Name f D,.Name i F] r pos) [c,d] (some [.ref c,.ref d]):=by
  intro x n p s G H Q E v I ⟨J,y,A⟩ k
  have B:j7 58 s.heap (typeOf<|.ref x) (.ref n):=A▸(sh y).andThen .now
  refine wpAny_Tuple_spliced ?_
  refine ko<|zN (X:=hand X x) I e g (ko<|zN (X:=hand X x) I h j (lN ?_) u) t
  refine#[by show 2<=hX;decide,?_]
  have q:∀b o,s.heap.get? b=↑o->(s.heap.push { cls:=.type "tuple",data:=.seq [iA c,iA d].toArray}).get? b=↑o:=λb o z=>ce _ z
  have C:lW X.K (.ref n) [.ref c,.ref d]=↑true:=by
    rcases List.mem_cons.mp v with z|z
    · rw[z]; exact l
    · rw[List.mem_singleton.mp z]; exact m
  refine(PySem.W.exm_tup2 (λa o z=>q a o<|I.y9 a o z) (B.keeps q) (il _ rfl) C).here ?_
  exact k _ #[[.ref c,.ref d],.cons rfl<|.cons rfl .nil,(by show 2<=hX;decide),rfl]
def Inv.adopt(I:Inv X a j H s)(f:BN X a H p)(c:wy X.prog X.w (upd H p o) s.heap p o):Inv X a j (upd H p o) s:=by
 refine e0a6 f λi k r l n q=>?_;have d:∀b u,H b=↑u->b≠p:=λb u e z=>by rw[z,i]at e;cases e
 have J:=I.step (h':=s.heap) (g':=s.gens) (d':=s.drawn) (t':=s.toks) (ch:=[p]) (H':=upd H p o) (λb g=>by rw[List.mem_singleton.mp g];exact#[l,k,n,q]) (λb o _ _ _ e _=>e) (λb o _ _ _ e _=>#[o.slots,e])
  (λb _ g _ e=>by rw[vh λz=>g<|by rw[z];exact List.mem_singleton.mpr rfl];exact e) (λb o _ e=>#[o,e]) (λb t e=>by rw[vh<|d b _ e];exact e) (λb o u e=>by rw[vh<|d b _ e];exact e) (λb v e=>#[#v[],by rw[vh<|d b _ e,e];simp]) (λm h=>h) (I.v0.Xd i c) I.bare
 exact J
def a02(i:XK->(St->Prop)->List (hJ×Obj)->TS)(j:List hJ)(o:Option (List V))(k:hJ->TS):TS:=λD d H=>∃e:XK,(∀c f b,e c f b->∃C∈j,c=.ref C)/\(∀g,i e (λh=>h=d) g D d H)/\∀(c:ci)(f:Option hJ)(b a:Hp),e c f b->Lay o b a->∀x,k x D d a
def VI(E:X.stack=X.env::X.outer)(Y:ClO X ty Cs o)
 (hb:∀U Φ N,FX (xY X N U Φ) body<|tb U Φ N) (hs:∀x,FX (hand X x) (b0::i)<|th x) :
    PS X (.Try body [.ExceptHandler ↑ty none (b0::i) hp] [] [] tp) (a02 tb Cs o th):=by
  intro d s σ H D I h
  refine e1a3 h λU Z hB hH=>?_
  refine wpAny_Try_except<|jr (hb U _ (X.pn++d) [] s σ H D I.YY<|hB _) (λO g q=>?_)<|λe g q=>?_
  · cases O with
    |next=>obtain⟨a,c,J,z⟩:=q;exact oq #[a,c,J.HR,z]
    |brk=>obtain⟨a,c,J,z⟩:=q;exact#[a,c,J.HR,z]
    |cont=>obtain⟨a,c,J,z⟩:=q;exact#[a,c,J.HR,z]
    |ret u=>obtain⟨v,a,c,J,r,z⟩:=q;exact#[v,a,c,J.HR,r,z]
  · obtain⟨aa, k, H1, s0, C', x, c, rfl, J, ab, F, hE⟩ := q
    subst ab
    refine e1a2 (Z _ _ _ hE) λC hC hc=>?_
    cases hc
    have nf:=F.nfr J.frn
    refine e2a2 F.fly λB a0 O ae=>?_
    have af:ml B (X.env::X.outer) x (.ref C') a0 g.heap:=by rw[<- E];exact O
    have ag:X.A.frames=↑(X.env::X.outer):=by rw[<- E];exact J.ok.frames
    have ah:X.env.frame=↑X.env.locals:=yp I E
    refine wpAny_looks_onW ag ah af λh4 P ai=>wpAny_landsW P λl m aj=>?_
    have j:g.heap.UpToSlots l:=ai.trans aj
    have G:∀(n:ja)(Q:Nat),B.StaysIn n->g.heap.UpToSlots n->Inv X d k c { g with heap:=n,toks:=Q}:=λn Q st up=>by
      obtain⟨u6,ak⟩:=QS F.un F.v0 ae nf st up
      have J6:=J.call (h':=n) (g':=g.gens) (d':=g.drawn) (t':=Q) (ch:=[]) u6 ak F.bare<|λb z=>iq z q0o
      have e6:{ s0 with heap:=n,gens:=g.gens,drawn:=g.drawn,toks:=Q}={ g with heap:=n,toks:=Q}:=by
        have:=F.os
        obtain⟨_,_,_,_,an⟩:=g
        obtain⟨_,_,_,_,ao⟩:=s0
        rw[this]
      rw[<- e6]
      exact J6.a2L
    have I5:=G l g.toks m.1 j
    have R:∀(S:Hp)(t:ja),Lay o c S->Inv X d k S { g with heap:=t}->ii 58 (X.A.mark<|some<|.ref x) (execs (b0::i) X.env) (λf T=>SP X d D f T) (λ_ _=>False) { g with heap:=t}:=λS t hY I7=>by
      refine jr (hs x d _ k S D I7.QV<|hH _ _ c S hE hY x) (λO s7 q=>?_) λ_ _ z=>z.elim
      cases O with
      |next=>obtain⟨a,c,J,z⟩:=q;exact#[a,c,J.Hw I.ok.hd,z]
      |brk=>obtain⟨a,c,J,z⟩:=q;exact#[a,c,J.Hw I.ok.hd,z]
      |cont=>obtain⟨a,c,J,z⟩:=q;exact#[a,c,J.Hw I.ok.hd,z]
      |ret u=>obtain⟨v,a,c,J,r,z⟩:=q;exact#[v,a,c,J.Hw I.ok.hd,r,z]
    refine wpAny_handleBy_cons (codeAny_handlers_test<|Y x C' d { g with heap:=l} k c _ _ hC I5.QV m.there λn hL=>?_) (by intro q;cases q)
    refine codeAny_handlers_suite ?_
    cases o with
    |none =>
      subst hL
      refine lands_againW (s:={ g with heap:=n}) m λt L y=>?_
      exact jr (R c t rfl<|G t g.toks L.1<|j.trans y) (λ_ _ z=>z) λ_ _ z=>z.elim
    |some xs =>
      obtain⟨M,r,hz,rfl⟩:=hL
      have kp:∀b o,l.get? b=↑o->(l.push { cls:=.type "tuple",data:=.seq M.toArray}).get? b=↑o:=λb o z=>ce _ z
      have al:=PySem.W.flying_keeps m kp
      refine lands_againW (s:={ g with heap:=l.push { cls:=.type "tuple",data:=.seq M.toArray}}) al λt L y=>?_
      have I7:=G t g.toks L.1<|(j.trans<|qD kp).trans y
      have n5:c l.objs.size=none:=I5.v0.fresh<|hV _
      obtain⟨sl,e7⟩:=y l.objs.size _ (il _ rfl) (λvs z=>by cases z)
      have I8:=I7.adopt (p:=l.objs.size) (o:=.tup xs) (I5.He (hV _) n5) #[hz,M,r,_,e7,rfl,_,rfl]
      exact jr (R _ t #[_,n5,rfl] I8) (λ_ _ z=>z) λ_ _ z=>z.elim
end L2
namespace WL
variable[L2.GX]
open PySem L2
open Rep (rp)
open Ow (sl)
open Sls (rel)
def BW(X:Cx)(T:hJ)(c:List iH){D:Type}[Sls D](w:D->(D->Prop)->75->Prop):Prop:=∀i j h,∃t,FX (xY X h i j) c t/\∀(d:D)(F R:Rg)(b:St)(H:Hp)(k:D->Prop)(l:hJ->D->Prop)(m:Ends),j b->wz T F R H d b->w d k l ->
 (∀e f g a,k e->Ch T F R H f g a->wz T f g a e b->m.nx b a)->(∀C y e f g a,l C e->Ch T F R H f g a->wz T f g a e b->i (.ref C) ↑y a)->t m b H
section
variable{D PO τ τ1:Type}[Sls D][Sls PO][Ow τ][Ow τ1]
def VJ{h:Pos}{n:List iZ}(i:Nat){J P o B E y:Type}[Sls J][Sls P][Sls o][Sls B][Sls E][Sls y][Lb y τ1<|Bd C k×o]{r:B->y->o->D}{L:D->(P->B->y->Prop)->75->Prop}
 {M:Wf (Bd C k×P) τ1 (Bd C k×o)} [A0:At i D (Bd C k) J] [A:At i B (Bd C k) E] [U:Pt i E (Bd C k) B]
 (O:∀a b c d u,(yW a b c d u k).lookup m=none) (Q:∀g j f,Lx (xY X f g j) g T (e::n) r L)
 (S:∀(g:XK)(j:St->Prop) (f:List (hJ×qV)) {t:TA},PA (xY X f g j) (e::n) t->PE (xY X f g j) (.Call (.Attribute (.Name x N) m apos) (e::n) [] pos) (RU 123 (xY X f g j) C m (yM T M) [] g (vT i) t))
 (W:kj (.Call (.Attribute (.Name x N) m apos) (e::n) [] pos) none h.line X.env=pure false:=by rfl) :
    BW X T [.Expr (.Call (.Attribute (.Name x N) m apos) (e::n) [] pos) h] (cN L M A.get λb l p=>r (U.put (A.hole b) p.1) l p.2):=by
  intro g j f
  refine e1a2 (Q g j f) λtr Y Z=>?_
  refine#[_,yd<|B5 (S g j f Y) W,λd G R σ H Kn Ke En F s hw kn ke=>#[a01 F,?_]]
  refine JZ i O Z d G R σ H (λ_ I=>Kn I) Ke _ s hw (λx I v F1 F2 R' H' q c s' m=>?_) ke
  exact kn I F2 R' H' q (c.less λa z=>.inr z) s'
def a04{j:Pos}{n:List iZ}(i:Nat){H P v B G z:Type}[Sls H][Sls P][Sls v][Sls B][Sls G][Sls z][Lb z τ1<|Bd C q×v]{r:B->z->v->D}{I:D->(P->B->z->Prop)->75->Prop}
 {J:Wf (Bd C q×P) τ1 (Bd C q×v)} [A0:At i D (Bd C q) H] [A:At i B (Bd C q) G] [U:Pt i G (Bd C q) B] {k:Nat} {N:List Str} {O:Sem Bool}
 (h:Fm X.prog X.w X.K X.mg X.base T C m N J k) (Q:wM k X.A) (R:Bw X.K C) (S:∀(o:XK)(s:St->Prop) (g:List (hJ×qV)),PE (xY X g o s) (.Name x F)<|vT i) (W:∀(o:XK)(s:St->Prop) (g:List (hJ×qV)),Lx (xY X g o s) o T (e::n) r I) (Y:∀a b c d u,(yW a b c d u q).lookup m=none:=by intros;rfl)
 (Z:hR (e::n) X.env=71::hR n X.env:=by rfl) (h2:(jE pos<|hR n X.env).any (·.1)=false:=by rfl)
 (h3:eval (.Call (.Attribute (.Name x F) m apos) (e::n) [] pos) X.env=(do
 let L <- eval (.Name x F) X.env
 nA apos.atName
 let (f,first) <- lm [L] (m9 L m O)
 n6 pos f first (jE pos (hR (e::n) X.env)) (nC pos (lp [] X.env))):=by rfl)
 (hs:kj (.Call (.Attribute (.Name x F) m apos) (e::n) [] pos) none j.line X.env=pure false:=by rfl) :
    BW X T [.Expr (.Call (.Attribute (.Name x F) m apos) (e::n) [] pos) j] (λ(d:D) Kn M=>I d (λp b l=>J (A.get b,p) (λ_ y=>Kn<|r (U.put (A.hole b) y.1) l y.2)<|λC y=>M C<|r (U.put (A.hole b) y.1) l y.2) M) :=
  VJ i Y W (λo s g {t} b1=>RV (X:=xY X g o s) (CX:=v4 X.prog X.w) (E:=o) (S o s g) R h.me h.ok Q h.bd .nil b1 Z h2 h3) hs
def VL{j a:List iH}{z:List hJ}{o:Option (List V)}{wb:D->(D->Prop)->75->Prop}{A:D->(D->Prop)->105->91->Prop}(B:X.stack=X.env::X.outer)(G:ClO X ty z o)
 (I:BW X T j wb) (w:∀k,SW (hand X k) E T ms n (b0::a) A) :
    S1 X E T ms n (.Try j [.ExceptHandler ↑ty none (b0::a) hp] [] [] tp) (cT wb A z):=by
  refine#[_,VI (tb:=λJ L b=>(I J L b).choose) (th:=λk=>(w k).choose) B G (λJ L b=>(I J L b).choose_spec.1)<|λk=>(w k).choose_spec.1,λd F R r H Kn Kr Ke M s hw kn kr ke=>?_]
  refine#[λc _ l=>∃C i f h,c=.ref C/\C∈z/\A i Kn Kr Ke/\Ch T F R H f h l/\wz T f h l i r,?_,λb=>?_,?_]
  · rintro c ox l ⟨C, i, f, h, e, m, _⟩
    exact#[C,m,e]
  · exact(I _ _ b).choose_spec.2 d F R r H _ _ M rfl s hw (λi f h l q c N => kn i f h l r q c N<|Ag.refl _ _) λC y i f h l q c N => #[C, i, f, h, rfl, q.1, q.2, c, N]
  · rintro c ox l aa ⟨C, i, f, h, e, m, O, t, st⟩ hL k
    have go:∀{u:Hp},Ch T F R H f h u->wz T f h u i r->(w k).choose M r u:=λ{u} t st=>(w k).choose_spec.2 i f h r u Kn Kr Ke M st O (λd1 F1 R1 H1 P q c s1 g=>kn d1 F1 R1 H1 P q (Ch.trans s st.tab t c) s1 g) (λx Q v M1 M2 S U W Y Z n4=>kr x Q v M1 M2 S U W (Ch.trans s st.tab t Y) Z n4) λC y Q F4 S U W Y Z=>ke C y Q F4 S U W (Ch.trans s st.tab t Y) Z
    cases o with
    |none =>
      rw[hL]
      exact go t st
    |some xs =>
      obtain⟨p,hp,rfl⟩:=hL
      refine e0a3 (st.new (.tup xs) hp) λs3 c3 _=>?_
      exact go (Ch.trans s st.tab t c3) s3
end
structure a05(q:Cq)(C1 C2:hJ)(y1 y2:Str):Prop where
 m1:q.mg y1=↑(.ref C1)
 m2:q.mg y2=↑(.ref C2)
 x1:lW q.K (.ref C1) [.ref C1,.ref C2]=↑true
 x2:lW q.K (.ref C2) [.ref C1,.ref C2]=↑true
end WL
namespace L2
variable[L2.GX]
open PySem PySem.Spec PyProof.Rows
def AN:Slot "wrapper_descriptor" "__get__" "wrapper_descriptor.__get__":=.of (owner:="wrapper_descriptor") (n:="__get__") (by rw[ou,mi];kernel_rfl) q0s q0s q0s
 (.inl<|by kernel_rfl) (by rw[tN];kernel_rfl)
def HS:tK uu "wrapper_descriptor.__get__"=↑Builtin.«wrapper_descriptor.__get__»:=entryFor_of_tree (by kernel_rfl)
def J1(a b c:ci):se "wrapper_descriptor.__get__" #[[a,b,c],[]]:=by unfold se;kernel_rfl
def z8:typeOf (.builtin "ValueError.__init__")=pure (.type "wrapper_descriptor"):=by kernel_rfl
noncomputable def a06(obj cls:ci)(name:Str):Sem Unit:=do
  rule "descr.get.wrong-instance"
  raiseError "TypeError" s!"descriptor '{name.toString}' for '{← typeName cls}' objects doesn't apply to a '{← typeNameOf obj}' object"
def OY(x C:hJ):Builtin.«wrapper_descriptor.__get__» #[[.builtin "ValueError.__init__",.ref x,.ref C],[]]=((isInstance (.ref x) (.type "ValueError") >>= λb=>if (!b)=true then a06 (.ref x) (.type "ValueError") "__init__" else pure ()) >>= λ_=>newFields "method-wrapper" [.builtin "ValueError.__init__",.ref x] >>= ret):=by kernel_rfl
section
variable{prog:iQ}{w:jf}{A:jN}{E:ci->ic->Prop}{h:ja}{g:Array pK}{d:Drawn}{t:Nat}{os:OsState}{so D x C:hJ}{ox:Obj}{l0 l:List ci}{K:hO}
def Ff(c:h.get? x=↑ox)(b:ox.cls=.ref C)(a:j7 (ij prog w) h (isSubtype (.ref C)<|.type "ValueError") true)
 (e:R (.ok<|.ret<|.ref h.objs.size) #[h.push 113,g,d,t,os]) :
    mX (ij prog w) A (.call (.builtin "wrapper_descriptor.__get__") #[[.builtin "ValueError.__init__",.ref x,.ref C],[]]) R #[h,g,d,t,os]:=by
  have f:(#[h,g,d,t,os]:ic).TypeIs (.builtin "ValueError.__init__") "wrapper_descriptor":=by first|exact lJ z8|exact z8
  refine og AN.plain HS<|AN.check _ _ _ _ _ _ _ _ f (J1 _ _ _) ?_
  rw[OY]
  refine am<|am ?_
  refine am<|wpAny_typeOf_ref c ?_
  rw[b]
  refine PySem.W.Looks.at a ?_
  exact ap<|am<|i8<|ap e
def J2(a:h.get? so=↑(pU D x C))(c:j7 (ij prog w) h (opaqueClassAbove<|.ref C) none)(j:j7 (ij prog w) h (mroOf<|.ref C) l0)(k:(l0.dropWhile (· != .ref D)).drop 1=l)(X:K.In h)
 (m:uC K "__init__" l=↑132) (n:h.get? x=↑ox) (e:ox.cls=.ref C) (b:j7 (ij prog w) h (isSubtype (.ref C)<|.type "ValueError") true) (f:x≠C)
 (o:Q (.done<|.ret<|.ref h.objs.size) #[h.push 113,g,d,t,os]) :
    ii (ij prog w) A (Builtin.«super.__getattribute__» #[[.ref so,.str "__init__" y],[]]) Q E #[h,g,d,t,os]:=by
  have lk:=AN.lookup
  have p:(iA x==iA C)=false:=by simp[f]
  have q:(("__init__":Str)==110)=false:=by decide
  have r:(#v[.ref D,.ref x,.ref C]:Array ci)[0]?=↑(.ref D):=rfl
  have s:(#v[.ref D,.ref x,.ref C]:Array ci)[1]?=↑(.ref x):=rfl
  have u:(#v[.ref D,.ref x,.ref C]:Array ci)[2]?=↑(.ref C):=rfl
  have i:(pU D x C).data=.fields #v[.ref D,.ref x,.ref C]:=rfl
  have v:=z8
  repeat (first|(with_reducible refine jt a i r ?_)|(with_reducible refine jt a i s ?_)|(with_reducible refine jt a i u ?_)|(with_reducible refine ks_wpAny_notOpaque c ?_)|(with_reducible refine PySem.W.Looks.at j ?_;rw[k])|(refine ks_forIn_along X (λ_ _=>rfl) rfl ?_ m)|(with_reducible refine nc v ?_)|(simp only[q,p,sy,lG,pN])|wp_step|dsimp only)
  exact Ff n e b<|am<|ap<|ap<|ap o
end
section
variable{prog:iQ}{w:jf}{A:jN}{E:ci->ic->Prop}{h:ja}{g:Array pK}{d:Drawn}{t:Nat}{os:OsState}
variable{nm q:Str}{C N:hJ}{bs bm DV:List ci}{hdct:Bool}{sn:List Str}{sub:List ci}{ab:Bool}{col:Option Bool}{dd:Option hJ}{k0 k1 k2 k3 k5:Option ci}{B newId yC:String}
def BA(F:kR B newId yC DV)(T:sX h DV bm){a:List ci} 
 (i:h.get? C=↑87) (u:h.Ns N v) (y:v "__init__"=↑(.ref n))
 (k:h.get? n=↑z) (l:z.cls=.type "function")
 (D:∀p e,rZ h p e (.ref C) a ->
 ii (ij prog w) A (call (.ref n) (.ref e::a)) (λr s=>r=.none/\Q (.done (.ret (.ref e))) s) E #[p,g,d,t,os]) (hrest:a.length<=hX:=by size_fits) :
    ii (ij prog w) A (Builtin.«type.__call__» #[.ref C::a,[]]) Q E #[h,g,d,t,os]:=by
  repeat (first|with_reducible refine jZ i ?_|with_reducible refine wpAny_madeBy_exc i ?_|wp_step)
  refine codeAny_call_builtin_code (ol _ F.quiet)<|wpAny_check_new_subT F T i ?_
  refine codeAny_exc_new_subT F T i ?_ hrest
  have j:∀b o,h.get? b=↑o->((h.push { cls:=.type "tuple",data:=.seq a.toArray}).push 115).get? b=↑o:=λb o e=>ce _<|ce _ e
  have c:=j _ _ i
  have f:((h.push { cls:=.type "tuple",data:=.seq a.toArray}).push
      115).get? (h.objs.size+1)=some
      115:=by heap_get
  have m:(iA C::bm).contains (.ref C)=true:=by simp
  repeat (first|with_reducible refine jZ f ?_|(with_reducible refine qX c ?_;rw[m])|wp_step)
  refine wpAny_typeLookup_tail c (u.keeps j) (T.keeps j) F.mroIs F.init.lookup ?_
  rw[y]
  refine iT<|am ?_
  refine am<|lq (T:="function") #[_,j _ _ k,l] ?_
  rw[cr q0q]
  refine ap<|am<|jr (D _ (h.objs.size+1) ⟨j,nL<|mh _,h.objs.size,f,nL<|hV _,ce _<|oK rfl rfl⟩) (λr s G=>?_) λ_ _ x=>x
  obtain⟨rfl,H⟩:=G
  wp_walk
  exact H
def Fh(F:kR B newId yC DV)(T:sX h DV bm){a:List ci} 
 (c:h.get? C=↑87) (k:h.Ns N l) (m:l "__init__"=↑(.ref j))
 (f:h.get? j=↑n) (i:n.cls=.type "function")
 (o:∀b e,rZ h b e (.ref C) a ->
 ii (ij prog w) (A.under (.builtin "type.__call__" #[.ref C::a,[]])) (call (.ref j) (.ref e::a)) (λr p=>r=.none/\Q (.ref e) p) E #[b,g,d,t,os]) (hrest:a.length<=hX:=by size_fits) :
    ii (ij prog w) A (call (.ref C) a) Q E #[h,g,d,t,os]:=by
  have u:=tc_lookup
  have v:=tc_bind<|.ref C
  refine m8<|mZ ?_
  repeat (any_goals (first|assumption|with_reducible refine jZ c ?_|wp_step))
  refine#[rfl,?_]
  exact codeAny_call_builtin_at (ol _ q0s) entry_typeCall<|wpAny_check_type_call_sub c<|BA (hrest:=hrest) F T c k m f i λb e s=>o b e s
end
noncomputable def AO(x:hJ):Obj:=113
section
variable{prog:iQ}{w:jf}{A:jN}{E:ci->ic->Prop}{h:ja}{g:Array pK}{d:Drawn}{t:Nat}{os:OsState}{so D x C:hJ}{ox:Obj}{l0 l:List ci}{K:hO}
def B2(a:h.get? so=↑(pU D x C))(f:j7 (ij prog w) h (opaqueClassAbove<|.ref C) none)(n:j7 (ij prog w) h (mroOf<|.ref C) l0)(o:(l0.dropWhile (· != .ref D)).drop 1=l)(X:K.In h)
 (p:uC K "__init__" l=↑132) (q:h.get? x=↑ox) (i:ox.cls=.ref C) (b:j7 (ij prog w) h (isSubtype (.ref C)<|.type "ValueError") true) (j:x≠C)
 (r:Q (.ref h.objs.size,[]) #[h.push<|AO x,g,d,t+1,os]):ii (ij prog w) A (m9 (.ref so) "__init__" y) Q E #[h,g,d,t,os]:=by
  have c:=F.ks_slot_super_ga.lookup
  have e:=F.ks_canon_super_ga
  have k:∀s,(#[h,g,d,s,os]:ic).TypeIs (.ref so) "super":=λ_=>#[_,a,rfl]
  refine am<|qi (k _) c ?_
  show ii _ _ (if (Manifest.canonical "super.__getattribute__" != "object.__getattribute__")=true then _ else _) _ _ _
  rw[cr e]
  refine am<|am<|wpAny_mkText<|iT<|am<|lq (k _)<|am<|nc c ?_
  refine am<|nc (show (if onTheHeap (.type "super") then nW (.type "super") "__getattr__" else pure none)=pure none from rfl) ?_
  refine am<|pE<|iT ?_
  refine am<|nc (F.ks_slot_super_ga.bind _) ?_
  refine jr (Q:=λv m=>v=.ref h.objs.size/\m=#[h.push<|AO x,g,d,t+1,os]) (E:=λ_ _=>False)
    (jg F.ks_slot_super_ga (k _) F.ks_entry_super_ga (J2 a f n o X p q i b j #[_,rfl,rfl,rfl])<|F.ks_gaArgs_super _ _) (λv m u=>?_) λ_ _ z=>z.elim
  obtain⟨rfl,rfl⟩:=u
  exact ap<|ap r
def RX(h:ja)(e:h.get? q=↑(AO x)):∃k,(k=Keeper.frame\/k=Keeper.machine\/k=Keeper.boundFrame)/\j7 M h (keeperOf<|.ref q) k :=
 #[.machine,.inr<|.inl rfl,(sh (part:=none) e).andThen .now]
variable{nm q:Str}{N:hJ}{bs bm DV:List ci}{hdct:Bool}{sn:List Str}{sub:List ci}{ab:Bool}{col:Option Bool}{dd:Option hJ}{k0 k1 k2 k3 k5:Option ci}{newId:String}
def Di(F:kR "ValueError" newId "ValueError.__init__" DV){c:List ci} 
 (f:h.get? C=↑87) (i:h.get? x=↑ox) (e:ox.cls=.ref C) (j:Q () #[h,g,d,t,os]) :
    ii M A (checkBoundCall "ValueError.__init__" #[.ref x::c,[]]) Q E #[h,g,d,t,os]:=by
  simp only[checkBoundCall,F.initKind,F.initRow]
  rw[cr q0q]
  repeat (first|(with_reducible refine jZ i ?_;rw[e])|with_reducible refine jZ f ?_|wp_step)
  refine pG ?_
  rw[show ∀(a b:String)(n:Nat),Bind.check #[.positional,"*","ValueError",.self,[#["args",.varPos,false]]] a b n (List.map (λx=>x.fst) ({ pos:=iA x::c}:Args).kw)=pure () from
    λa b n=>check_star_args _ _ _ _ _ _]
  exact ap j
def VM(F:kR "ValueError" newId "ValueError.__init__" DV){a:List ci}(o:h.get? C=↑87)(e:h.get? p=↑(AO x))(j:h.get? x=↑ox)(f:ox.cls=.ref C)(k:ox.data=.fields m)(n:m[0]?=↑(.ref s))
 (r:Q .none #[(h.push { cls:=.type "tuple",data:=.seq a.toArray}).update x (Obj.mapFields (·.setIfInBounds 0 (.ref h.objs.size))),g,d,t,os]) (c:a.length<=hX:=by size_fits) :
    ii (ij prog w) A (call (.ref p) a) Q E #[h,g,d,t,os]:=by
  refine m8<|mZ ?_
  refine am<|rg e ?_
  refine am<|Di F o j f<|ap #[lx F.init.plain _,j5 F.initEntry ?_]
  rw[jP F.init.plain]
  unfold Builtin.«BaseException.__init__»
  dsimp only
  rw[hI q0o]
  have i:0<m.size:=(Array.getElem?_eq_some_iff.mp n).1
  have b:=ce (h:=h) { cls:=.type "tuple",data:=.seq a.toArray} j
  refine am<|i8 (am<|am<|jt b k n<|am<|nJ b k i ?_) (by show a.toArray.size<=hX;rw[im];exact c)
  exact sE<|ap r
end
open Builtin Builtin.ObjectAttr
section
variable{prog:iQ}{w:jf}{A:jN}{E:ci->ic->Prop}{h:ja}{g:Array pK}{d:Drawn}{t:Nat}{os:OsState}{x C N:hJ}{o:Obj}{v:ci}{name:Str}
variable{nm q:Str}{bs bm DV:List ci}{sn:List Str}{sub:List ci}{ab:Bool}{col:Option Bool}{dd:Option hJ}{k0 k1 k2 k3 k5:Option ci}{B newId sa owner:String}
def OZ(e:StoreFacts B DV sa owner)(f:bm.contains (.type owner)=true)
 (l:h.get? C=↑(jT nm q C N bs bm true sn sub ab col dd k0 k1 k2 k3 k5 newId)) (m:h.get? x=↑o) (n:o.cls=.ref C) (j:Q () #[h,g,d,t,os]) :
    ii M A (checkBuiltinCall sa #[[.ref x,a,v],[]]) Q E #[h,g,d,t,os]:=by
  have i:(iA C::bm).contains (.type owner)=true:=by rw[uD,f,Bool.or_true]
  have k:=e.args (.ref x) a v
  simp only[checkBuiltinCall,e.kind,e.split]
  refine am ?_
  repeat (first|(with_reducible refine jZ m ?_;rw[n])|(with_reducible refine qX l ?_;rw[i])|wp_step)
  cases b:Manifest.signature? sa with
  |none=>exact ap j
  |some c =>
    simp only[se,b]at k
    have p:Bind.checkArgs sa c #[[.ref x,a,v],[]]=pure ():=k
    show ii M A (Bind.checkArgs sa c #[[.ref x,a,v],[]]) Q E _
    rw[p];exact ap j
set_option tactic.hygienic true in
def LL(m:tS (.ref x) "__setattr__" bm=pure ())
 (P:h.get? C=↑(jT nm q C N bs bm true sn sub ab col dd k0 k1 k2 k3 k5 newId)) (L2:j7 (ij prog w) h (nW (.ref C) name) none)
 (l:h.get? x=↑o) (R:o.cls=.ref C) (n:∀c,o.data≠.cls c) (p:o.dict=none)
 (S:∀i r s,h.get? s=none->(∀b u,b≠x->h.get? b=↑u->i.get? b=↑u)->i.get? x=some { cls:=o.cls,dict:=↑s,data:=o.data,slots:=o.slots}->i.Ns1 s (λy=>if y=name then some v else none)->Q (.done<|.ret .none) #[i,g,d,r,os]) :
    ii (ij prog w) A (Builtin.«object.__setattr__» #[[.ref x,.str name Z,v],[]]) Q E #[h,g,d,t,os]:=by
  repeat (first|rw[refuse_eq]|(rw[refuseLoop_ref,m])|(with_reducible refine jZ l ?_;rw[R])|with_reducible refine wpAny_mroOf_exc P ?_|(with_reducible refine PySem.W.Looks.at L2 ?_)|wp_step)
  rw[p,hI<|by simp[typeHasDict]]
  split
  · rename_i f
    cases f
  split
  · rename_i c f
    exact iq f<|n c
  · have a : (h.push { cls := .type "dict", data := .dict #v[] }).get? x = some o := ce _ l
    have j:x≠h.objs.size:=iu<|ie l
    refine am<|wpAny_alloc' ?_
    refine am<|wpAny_update' a ?_
    refine ap ?_
    have z:((h.push 133).update x λo=>{ cls:=o.cls,dict:=↑h.objs.size,data:=o.data,slots:=o.slots}).get? h.objs.size
       =some 133 :=
      (qo _ _ _ _ j.symm).trans (oK rfl rfl)
    have D:((h.push 133).update x λo=>{ cls:=o.cls,dict:=↑h.objs.size,data:=o.data,slots:=o.slots}).Ns h.objs.size (λ_=>none) :=
      #[_,#v[],_,z,rfl,λe T=>iq T q0o,λ_=>rfl]
    refine am<|ap<|am<|wpAny_nsSet1 (tj D) λi k M=>?_
    obtain⟨oD,U,X,F,G,H⟩:=k.count<|Within.cons name v Within.nil
    refine am<|wpAny_lookBehind F (by rw[G];exact pastItsLine_dict<|iP H<|by rw[iF,nP,jk];lia) ?_
    wp_walk
    refine S i _ h.objs.size (nL<|hV _) (λb u I O=>?_) ?_ k
    · exact(M.2 b<|iu<|ie O).trans<|(qo _ _ _ _ I).trans<|ce _ O
    · refine(M.2 x j).trans (jd _ a ?_)
      have J:=(Heap.get?_some_iff.mp l).2
      obtain⟨oc,od,L,Y⟩:=o
      cases L<;>first|rfl|exact J
def J3(i:StoreFacts B DV sa owner)(j:bm.contains (.type owner)=true)(k:tS (.ref x) "__setattr__" bm=pure ())
 (r:h.get? C=↑(jT nm q C N bs bm true sn sub ab col dd k0 k1 k2 k3 k5 newId)) (u:j7 (ij prog w) h (nW (.ref C) "__setattr__") (some<|.builtin sa)) (L2:j7 (ij prog w) h (nW (.ref C) name) none)
 (l:h.get? x=↑o) (m:o.cls=.ref C) (n:∀c,o.data≠.cls c) (p:o.dict=none)
 (z:∀e a f,h.get? f=none->(∀b s,b≠x->h.get? b=↑s->e.get? b=↑s)->e.get? x=some { cls:=o.cls,dict:=↑f,data:=o.data,slots:=o.slots}->e.Ns1 f (λy=>if y=name then some v else none)->Q () #[e,g,d,a,os]) :
    ii (ij prog w) A (setAttr (.ref x) name v) Q E #[h,g,d,t,os]:=by
  have I:=i.slot.bind<|.ref x
  repeat (any_goals (first|assumption|(with_reducible refine jZ l ?_;rw[m])|(with_reducible refine PySem.W.Looks.at u ?_)|wp_step))
  refine og i.slot.plain i.entry<|OZ i j r l m<|LL k r L2 l m n p λe a f D F G H=>?_
  repeat (any_goals (first|assumption|wp_step))
  exact z e a f D F G H
end
def ExI(C x:hJ)(d:Option hJ)(h:ja):Prop:=∃(a:hJ),h.get? x=some { cls:=.ref C,dict:=d,data:=.fields #v[.ref a,.none,.none,.none,.bool false,.none]}
noncomputable def Ej(C x:hJ)(d:Option hJ):HO:=.ext<|ExI C x d
def HU{C:hJ}(I:Inv X a c H s)(h:H x=↑(Ej C x b)):ExI C x b s.heap:=(I.v0 x _ h).1
def LM{C:hJ}(q:ExI C x b h):wy P w H h x (Ej C x b) :=
 #[q,e1a1 q λ_ e=> #[_,e],λf g a=>e1a1 a λc d k=>#[c,k _ d]]
def cw_mw(i:hR (e::f) b=(false,eval e b)::hR f b)(c:(jE pos<|hR f b).any (·.1)=false)
 (h:ii M B (uG<|jE pos<|hR (e::f) b) (λj d=>d.heap.get? q=↑(AO a)/\ii M B (call (.ref q) j) Q g d) g k):ii M B (n6 pos (.ref q) [] (jE pos<|hR (e::f) b) []) Q g k:=by
  rw[i]at h ⊢
  exact pS (P:=λh=>h.get? q=↑(AO a)) (by show ((false||(jE pos<|hR f b).any (·.1))||false)=false;rw[c];rfl) RX<|jQ h
def a08(C:hJ)(t:TA):TE:=λb H Q=>∃a,b[0]?=↑(some<|.ref a)/\H a=some (Ej C a none)/\t b H λd c=>d.length<=hX/\c a=↑(Ej C a none)/\Q .wW c
section
variable{P:iQ}{w:jf}{K:hO}{mg:Str->Option ci}{base:ja}{N:List Str}{qual:Str}{scope:mB}{f zK cc:hJ}{A:jN}{outer:List Env}{s:ic}{H:Hp}{E:XK}{C:hJ}{x0:Str}{fb:List iH}{p0 p1 apos pos:Pos}{es:List iZ}{e0:iZ}{ta:TA}
variable{nm q:Str}{Ns:hJ}{bs bm:List ci}{hdct:Bool}{sn:List Str}{sub:List ci}{ab:Bool}{col:Option Bool}{dd:Option hJ}{k0 k1 k2 k3 k5:Option ci}
set_option tactic.hygienic true in
def RY(S:LH P K C f zK cc x0)(ae:N[0]?=↑x0)(U:scope.names.lookup ("super":Str)=some .globalImplicit)(X:scope.names.lookup 110=some .free)(B:scope.names.lookup x0=some .local)(af:mg "super"=none)
 (lC:K.lookup C=↑(jT nm q C Ns bs bm hdct sn sub ab col dd k0 k1 k2 k3 k5 "ValueError.__new__")) (hm:ki K C C "__init__"=↑132) (ag:lE K C (.type "ValueError")=↑true)
 (ha:PA 97 (e0::es) ta)
 (he:hR (e0::es) (ji qual scope ⇑s f (.ref zK) [78])=(false,eval e0<|ji qual scope ⇑s f (.ref zK) [78])::hR es (ji qual scope ⇑s f (.ref zK) [78]))
 (l:(jE pos<|hR es<|ji qual scope ⇑s f (.ref zK) [78]).any (·.1)=false) (D:OX p0 p1 apos pos "__init__" (e0::es)) :
    PEA 97 fb (.Call (.Attribute 90 "__init__" apos) (e0::es) [] pos) (a08 C ta):=by
  intro n i σ H1 Q I h
  refine e1a3 h λa h0 ea h=>?_
  have Y:=I.y9
  obtain⟨oc,od,fd,au,Z,lf,hp,rfl⟩:=S.fn
  obtain⟨av,aw,ax,an,file,tf,lc,ah,G⟩:=S.code
  obtain⟨ao,aq,aa,L⟩:=S.cell
  obtain⟨cd,j⟩:=S.cls
  obtain⟨t0,O⟩:=HU I ea
  refine e1a2 I.loc λmL hn hl=>?_
  refine e1a2 (hl 0 Z.arg (.ref a) ae h0<|.inl B) λu ru lk=>?_
  obtain rfl:u=iA a:=ru
  have ai:mL Z.arg=↑(.ref a):=by
    rcases lk with⟨_,q⟩|⟨q,_⟩
    · exact q
    · have q : scope.names.lookup Z.arg = some .cell \/ scope.names.lookup Z.arg = some .free := q
      rw[B]at q
      rcases q with q|q<;>cases q
  obtain⟨oD,M,R⟩:∃oD,i.heap.get? C=some oD/\oD.data=.cls cd:=by
    unfold ng at j
    split at j
    · rename_i c d ay sl ho
      cases j
      exact#[_,Y _ _ ho,rfl]
    · cases j
  refine e1a2 I.mod.blt λmb aj ak=>?_
  have ne:a≠C:=λz=>by
    rw[z,M]at O
    cases O
    cases R
  obtain⟨pl,D⟩:=D<|ji qual scope ⇑s f (.ref zK) [78]
  refine ks_wpAt_MethodCall (pl:=pl) (ks_wpAt_super_base (env:=ji qual scope ⇑s f (.ref zK) [78]) U X q0q rfl (Y _ _ lf) rfl hp rfl (Y _ _ lc) rfl ah G S.top ?_) D
  refine rB I.ok.kind U<|oC (env:=ji qual scope ⇑s f (.ref zK) [78]) (I.mod.glob.keeps I.bk) af (aj.keeps I.bk) ((ak _ q0s).trans rfl) #[rfl,?_]
  refine qN I.ok.kind X rfl #[_,Y _ _ L,rfl] ?_
  refine lj I.ok.kind B hn ai ?_
  refine ks_wpAny_isType_cls (h:=i.heap) (g:=i.gens) (d:=i.drawn) (t:=i.toks) (os:=i.os) M R #[rfl,?_]
  refine ks_wpAny_call_super (h:=i.heap) (g:=i.gens) (d:=i.drawn) (t:=i.toks) (os:=i.os) M R O rfl (λc e=>by cases e) (pT Y S.sub) λp e k'=>?_
  have T:Inv _ n σ H1 #[p,i.gens,i.drawn,i.toks,i.os]:=I.kept (t':=i.toks) k'
  unfold ki at hm
  rw[j]at hm
  refine B2 e (sP T.y9 S.opq) (l0:=cd.mro) (λA Q E s k q=>am<|(pM T.y9 j) A _ E s k<|ap q) rfl T.y9 hm (k' _ _ O) rfl (pT T.y9 ag) ne ?_
  have I2:Inv _ n σ H1 #[p.push<|AO a,i.gens,i.drawn,i.toks+1,i.os]:=T.kept (t':=i.toks+1) λb o z=>ce _ z
  have fr:H1 p.objs.size=none:=T.v0.fresh<|hV _
  have gq:(p.push<|AO a).get? p.objs.size=↑(AO a):=oK rfl rfl
  have I3:=I2.pinned (fp:=[p.objs.size]) (λb y=>by rw[List.mem_singleton.mp y];exact T.He (hV _) fr) λb y=>by rw[List.mem_singleton.mp y];exact#[_,gq,λv z=>by cases z]
  refine cw_mw (a:=a) he l<|vX (ha pos _ _ σ H1 _ I3 h) λus s2 z9=>e2a5 z9 λvs H2 I4 r q1 q2 q3=>?_
  have g2:s2.heap.get? p.objs.size=↑(AO a):=(I4.pin (p.objs.size,AO a)<|iD _<|iD _<|xT hW gq).1
  refine#[g2,?_]
  have I5:=I4.Av
  obtain⟨t1,O1⟩:=HU I5 q2
  have al:=I5.y9
  obtain⟨m,g5,d5,t5,az⟩:=s2
  refine VM iI (al _ _ lC) g2 O1 rfl rfl rfl ?_ (by show us.length<=_;rw[<- r.length];exact q1)
  have hu:upd H2 a (Ej C a none)=H2:=by
    funext b
    by_cases y:b=a
    · rw[y, vm, q2]
    · rw[vh y]
  have O2:=jd (f:=Obj.mapFields (·.setIfInBounds 0 (.ref m.objs.size))) (ce { cls:=.type "tuple",data:=.seq us.toArray} O1) rfl
  have J:=I5.write (x:=a) (e:=a) (o:=Ej C a none) (t':=t5) (h':=(m.push { cls:=.type "tuple",data:=.seq us.toArray}).update a (Obj.mapFields (·.setIfInBounds 0 (.ref m.objs.size)))) (by rw[q2];trivial) (.inl rfl)
    (λb u y z=>by rw[qo _ _ _ _ y];exact ce _ z) #[_,O2] (LM #[m.objs.size,O2])
  rw[hu]at J
  exact#[.wW,H2,J,rfl,q3]
end
def yk.a3c{s:ja}{C:hJ}(k:yk P w H h)(t:H a=↑(Ej C a none))(n:h.get? l=none)(x:∀b o,b≠a->h.get? b=↑o->s.get? b=↑o)(q:ExI C a d s)(D:s.Ns1 l (λz=>if z=f then some u else none))(r:RelV y u) :
  yk P w (upd (upd H l<|.xd [(f,y)]) a<|Ej C a d) s/\∀A,Un A [] H (upd (upd H l<|.xd [(f,y)]) a<|Ej C a d) h s:=by
 have E:∀b v,H b=↑v->b≠l:=λb v z e=>by obtain⟨o,i⟩:=Bb k z;rw[e,n]at i;cases i
 have j:∀b v,H b=↑v->(∀B,v≠.ext B)->upd (upd H l<|.xd [(f,y)]) a (Ej C a d) b=some v:=λb v z e=>by rw[vh λi=>by rw[i,t]at z;cases z;exact e _ rfl,vh<|E b v z];exact z
 refine#[λb o z=>?_,λA=>#[λb o z e _ _=>x b o (λi=>by rw[i,t]at e;cases e) z,λb o z e _ _=>#[o.slots,x b o (λi=>by rw[i,t]at e;cases e) z],λb o z e _=>?_,λb o z _=>?_,λb B z=>j b _ z (λ_ e=>by cases e),λb o v z=>j b _ z (λ_ e=>by cases e),λb I z=>#[#v[],by rw[j b _ z<|λ_ e=>by cases e];simp]]]
 ·by_cases e:b=a
  ·subst e;rw[vm]at z;cases z;exact LM q
  ·rw[vh e]at z;by_cases i:b=l
   ·subst i;rw[vm]at z;cases z;refine#[_,D,λg=>?_];by_cases m:g=f
    ·rw[m,List.lookup_cons_self,cr rfl];exact r
    ·rw[iV,beq_false_of_ne m,hI m];exact True.intro
   ·rw[vh i]at z;refine(k b o z).DQ (λc v p y=>x c v (λm=>?_) y) (λc y=>j c _ y λ_ e=>by cases e) λc J y=>j c _ y λ_ e=>by cases e
    rcases p with p|p
    ·exact e<|p▸m
    ·rw[m,t]at p;cases p
 ·have F:b≠a:=λi=>by rw[i,t]at e;cases e
  have G:b≠l:=λi=>by rw[i,n]at z;cases z
  rw[vh F,vh G];exact e
 ·by_cases e:b=a
  ·obtain⟨_,q⟩:=q;rw[e];exact#[_,q]
  ·exact#[_,x b o e z]
def a09(C:hJ)(f:Str)(e g:TE):TS:=λD c H=>g c H λy h=>e c h λx d=>∃a,x=.ref a/\d a=↑(Ej C a none)/\∀b,d b=none->b≠a->D.nx c (upd (upd d b<|.xd [(f,y)]) a<|Ej C a<|↑b)
def VN(L:PE X o M)(N:PE X value P)(Q:kj value (some<|.Attribute o f e) pos.line X.env=pure false)
 (R:X.K.lookup C=↑(jT nm q C Ns bs B true sn sub ab S dd k0 E G k3 k5 l)) (m:B.contains (.type "object")=true) (n:∀x:hJ,tS (.ref x) "__setattr__" B=pure ())
 (T:iN X.K (.ref C) "__setattr__"=↑109)(U:iN X.K (.ref C) f=↑none):PS X (.Assign [.Attribute o f e] value pos) (a09 C f M P):=by
  intro b s p H D I h
  refine rV (vX (N b s p H _ I h) λu Y r=>e2a3 r λy H1 Z ry q=>vX (L b Y p H1 _ Z q) λov s2 r=>e2a3 r λx H2 i rx v=>e1a3 v λa ex J q2=>?_) Q
  subst ex
  obtain rfl:ov=iA a:=rx
  obtain⟨t0,O⟩:=HU i J
  have w:=i.y9
  obtain⟨hp,g,d,t,os⟩:=s2
  refine J3 PySem.F.store_ValueError m (n a) (w _ _ R) (pw w T) (pw w U) O rfl (λc z=>by cases z) rfl λh' A j k z2 z3 z4=>?_
  have n1:H2 j=none:=by
    cases z:H2 j with
    |none=>rfl
    |some o=>obtain⟨u,q⟩:=Bb i.v0 z;rw[k]at q;cases q
  have na:j≠a:=λz=>by rw[z,O]at k;cases k
  obtain⟨E,G⟩:=yk.a3c (d:=↑j) i.v0 J k z2 #[t0,z3] z4 ry
  exact#[p,_,i.un (h':=h') (t':=A) (G _) E,q2 j n1 na]
def J4(b:bm.contains (.type "BaseException")=true)(k:A.handled=none)
 (h:ii M A x (λv a=>∃e t i,v=.ref e/\a.heap.get? C=↑87 /\
 a.heap.get? e=some { cls:=.ref C,dict:=i,data:=.fields #v[.ref t,.none,.none,.none,.bool false,.none]}/\E (.ref e) a) E s) :
    ii M A (raiseStmt l ↑x none) Q E s:=by
  have f:(iA C::bm).contains (.type "BaseException")=true:=by rw[uD,b,Bool.or_true]
  unfold raiseStmt
  refine am<|jr h (λv a c=>?_) λ_ _ x=>x
  obtain⟨e,t,i,rfl,j,m,n⟩:=c
  obtain⟨o,g,d,p,r⟩:=a
  repeat (first|with_reducible refine jZ m ?_|with_reducible refine jZ j ?_|(with_reducible refine qX j ?_;rw[f])|wp_step)
  exact wpAny_raiseNew_none k n
def J5(F:kR B c y H) 
 (n:bm.contains (.type "BaseException")=true) (Y:A.handled=none) (k:(jE l<|hR args o).any (·.1)=false)
 (h:ii (ij prog w) A (eval (.Name x np) o) (λf m=>f=.ref C/\ii (ij prog w) A (evalArgs (.ref C) true (jE l (hR args o)) [])
 (λa b=>a.kw=[]/\a.pos.length<=hX/\b.heap.get? C=↑(jT nm q C N bs bm hdct sn sub ab col dd k0 k1 k2 k3 k5 c)/\(∃I,b.heap.Ns N I/\I "__init__"=↑(.ref fI))/\(∃J,b.heap.get? fI=↑J/\J.cls=.type "function")/\sX b.heap H bm /\
 ∀D e,rZ b.heap D e (.ref C) a.pos->ii (ij prog w) (A.under (.builtin "type.__call__" #[.ref C::a.pos,[]])) (call (.ref fI) (.ref e::a.pos)) (λr G=>r=.none/\G.heap.get? C=↑(jT nm q C N bs bm hdct sn sub ab col dd k0 k1 k2 k3 k5 c) /\
 (∃t L,G.heap.get? e=some { cls:=.ref C,dict:=L,data:=.fields #v[.ref t,.none,.none,.none,.bool false,.none]})/\E (.ref e) G) E { b with heap:=D}) E m) E s) :
    ii (ij prog w) A (exec (.Raise (some<|.Call (.Name x np) args [] l) none pos) o) Q E s:=by
  rw[arm_exec_Raise]
  refine am<|nZ<|J4 (C:=C) (nm:=nm) (q:=q) (N:=N) (bs:=bs) (bm:=bm) (hdct:=hdct) (sn:=sn) (sub:=sub) (ab:=ab) (col:=col) (dd:=dd) (k0:=k0) (k1:=k1) (k2:=k2) (k3:=k3) (k5:=k5) (newId:=c) n Y<|am<|jr (wpAny_Call_ofName<|jr h (λf m i=>?_) λ_ _ x=>x) (λv S p=>am<|nZ<|ap p) λ_ _ x=>x
  obtain⟨rfl,i⟩:=i
  unfold n6
  refine am<|iT<|jr i (λa b j=>am<|nZ ?_) λ_ _ x=>x
  obtain⟨U,M⟩:=a
  obtain⟨O,u,W,⟨I,Z,hi⟩,⟨J,P,R⟩,T,j⟩:=j
  obtain rfl:M=[]:=O
  obtain⟨hp,g,d,tk,os⟩:=b
  simp only[k]
  refine am<|wpAny_keeperOf_exc W ?_
  refine am<|Fh (hrest:=u) F T W Z hi P R λD e hm=>jr (j D e hm) (λr G X=>#[X.1,?_]) λ_ _ z=>z
  obtain⟨_,c1,⟨t,L,c2⟩,c3⟩:=X
  exact am<|iT<|wpAny_point<|ap #[e,t,L,rfl,c1,c2,c3]
noncomputable def CC(H:Hp)(x:hJ):Hp:=λb=>if b=x then none else H b
def Aa:CC H x x=none:=cr rfl
def yu(h:b≠x):CC H x b=H b:=hI h
section
variable{P:iQ}{w:jf}{H H3 H4:Hp}{h h' h4:ja}{x C:hJ}{c:Option hJ}
def yk.RZ(k:yk P w H h)(e:H x=↑(Ej C x c)):yk P w (CC H x) h:=λa o z=>by
 have g:a≠x:=λq=>by rw[q,Aa]at z;cases z
 rw[yu g]at z
 have d:∀b u,H b=↑u->(∀f,u≠.ext f)->CC H x b=↑u:=λb u q n=>by rw[yu λy=>by rw[y,e]at q;cases q;exact n _ rfl];exact q
 exact(k a o z).DQ (λ_ _ _ q=>q) (λb q=>d b _ q λf y=>by cases y) λb i q=>d b _ q λf y=>by cases y
def yk.HV(k:yk P w H h)(e:h.get? x=none):H x=none:=by
 cases z:H x with
 |none=>rfl
 |some o=>obtain⟨u,q⟩:=Bb k z;rw[e]at q;cases q
def yk.Nx(k:yk P w H h)(e:h.get? x=none)(f:∀b o,h.get? b=↑o->h'.get? b=↑o)(n:ExI C x c h'):yk P w (upd H x<|Ej C x c) h':=λa o z=>by
 by_cases q:a=x
 ·subst q;rw[vm]at z;cases z;exact LM n
 ·rw[vh q]at z;have d:∀b u,H b=↑u->upd H x (Ej C x c) b=↑u:=λb u y=>by rw[vh λg=>by rw[g,k.HV e]at y;cases y];exact y
  exact(k a o z).DQ (λ_ _ _ y=>f _ _ y) (λb y=>d b _ y) λb i y=>d b _ y
def Un.Nx(k:yk P w H h)(e:h.get? x=none)(d:∀b o,h.get? b=↑o->h'.get? b=↑o):Un fs [] H (upd H x<|Ej C x c) h h':=by
 have a:∀b u,H b=↑u->upd H x (Ej C x c) b=↑u:=λb u y=>by rw[vh λf=>by rw[f,k.HV e]at y;cases y];exact y
 refine#[λb o z _ _ _=>d b o z,λb o z _ _ _=>#[o.slots,d b o z],λb o z n _=>?_,λb o z _=>#[o,d b o z],λb g z=>a b _ z,λb o u z=>a b _ z,λb i z=>#[#v[],by rw[a b _ z];simp]];rw[vh λy=>by rw[y,e]at z;cases z];exact n
def Un.RZ(u:Un fs [] H H4 h h4)(e:h.get? x=none)(d:H x=none):Un fs [] H (CC H4 x) h h4:=by
 have a:∀b v,H b=↑v->b≠x:=λb v y z=>by rw[z,d]at y;cases y
 refine#[u.keep,u.slot,λb o z n f=>?_,u.there,λb g z=>?_,λb o v z=>?_,λb i z=>?_]
 ·rw[yu λy=>by rw[y,e]at z;cases z];exact u.free b o z n f
 ·rw[yu<|a b _ z];exact u.B4 b g z
 ·rw[yu<|a b _ z];exact u.BL b o v z
 ·rw[yu<|a b _ z];exact u.BM b i z
end
def VO(C:hJ)(f:Sp)(a:List V)(E:XK)(h:TA):TS:=λ_ i H=>h i H λc e=>c.length<=hX/\∀x:hJ,e x=none ->
 f (.ref x::c++a) (upd e x<|Ej C x none) (λv b=>v=.wW/\∃d,b x=↑(Ej C x d)/\GX.g C d (CC b x)/\E (.ref C) ↑x (CC b x)) λ_ _ _=>False
section
variable{P:iQ}{w:jf}{K:hO}{mg:Str->Option ci}{base:ja}{N:List Str}{qual:Str}{scope:mB}{f:hJ}{cd:ci}{A:jN}{outer:List Env}{s:ic}{H:Hp}{E:XK}
variable{nm q:Str}{Ns:hJ}{bs bm DV:List ci}{hdct:Bool}{sn:List Str}{sub:List ci}{ab:Bool}{col:Option Bool}{dd:Option hJ}{k0 k1 k2 k3 k5:Option ci}{B newId yC:String}
def O0{C:hJ}{k:Nat}(hg:Gl 29 x)(hm:mg x=↑(.ref C))
 (lC:K.lookup C=↑(jT nm q C Ns bs bm hdct sn sub ab col dd k0 k1 k2 k3 k5 newId)) (aa:∀h:ja,K.In h->∃mN,h.Ns Ns mN/\mN "__init__"=↑(.ref fI)) (hT:∀h:ja,K.In h->sX h DV bm) (lI:K.lookup fI=↑oI) (ae:oI.cls=.type "function")
 (FB:kR B newId yC DV) (n:bm.contains (.type "BaseException")=true) (FI:vU P w K mg base (v4 P w) k fI fd ps sp) (j:Binds K fd ps U) (af:Vals p U) (hr:wM (k+1) (29).A)
 (ha:PA 29 args ta) (ag:(x==70)=false)
 (ah:(jE cpos<|hR args (29).env).any (·.1)=false)
 (ai:∀(Q:Args->ic->Prop)(E':ci->ic->Prop)(s9:ic),ii (ij P w) (29).A (uG<|jE cpos<|hR args (29).env) (λX y=>Q #[X,[]] y) E' s9->ii (ij P w) (29).A (evalArgs (.ref C) true (jE cpos<|hR args (29).env) []) Q E' s9) :
    PS 29 (.Raise (some<|.Call (.Name x np) args [] cpos) none pos) (VO C sp p E ta):=by
  intro a s1 σ H1 D I h
  have hA:=ha cpos a s1 σ H1 _ I h
  refine J5 (prog:=P) (w:=w) (C:=C) (nm:=nm) (q:=q) (N:=Ns) (bs:=bs) (bm:=bm) (hdct:=hdct) (sn:=sn) (sub:=sub) (ab:=ab) (col:=col) (dd:=dd) (k0:=k0) (k1:=k1) (k2:=k2) (k3:=k3) (k5:=k5) (fI:=fI)
    FB n (I.ok.hd rfl) ah (zN I hg hm #[rfl,?_] ag)
  refine ai _ _ _<|jr hA (λl G q2=>?_) λ_ _ z=>z
  refine e2a4 q2 λX H2 F r2 hl M=>?_
  have Y:=F.y9
  refine#[rfl,by show l.length<=hX;rw[<- r2.length];exact hl,Y _ _ lC,aa _ Y,#[oI,Y _ _ lI,ae],hT _ Y,λZ e made=>?_]
  refine e1a3 made.there λt aj _ _=>?_
  have n2:H2 e=none:=F.v0.HV made.new
  have I3:Inv 29 a σ (upd H2 e<|Ej C e none) { G with heap:=Z,toks:=G.toks}:=F.un (Un.Nx F.v0 made.new made.keeps)<|F.v0.Nx made.new made.keeps #[t,aj]
  have r3:Vals (.ref e::X++p) (.ref e::l++U):=.cons rfl<|Vals.append r2 af
  have ak:(iA e::l++U).length=ps.length:=by rw[<- r3.length];exact FI.len _ _ _ _<|M e n2
  refine m8<|kh (FI.run _ _ { G with heap:=Z} _ ⟨.ref e::l,[]⟩ (.ref e::l++U) (.ref e::X++p) _ _ (hr.make C l []) (I3.JA.make C l []) (j { G with heap:=Z} (.ref e::l) I3.y9 ak) r3 (M e n2)) λr y O=>?_
  cases r with
  |error e'=>obtain⟨_,_,_,_,_,z⟩:=O;exact z.elim
  |ok fl =>
    cases fl with
    |next=>exact iR O
    |brk=>exact iR O
    |cont=>exact iR O
    |ret u =>
      obtain⟨v,H4,R,i,S,m,rv,rfl,c,e4,gd,hE⟩:=id O
      have T:(29).stack=(29).env::(29).outer:=rfl
      have J:Inv 29 a σ H4 y:=by
        obtain⟨hh,g,d,tt,al⟩:=y
        obtain rfl:al=G.os:=R
        exact Inv.call (s:={ G with heap:=Z}) (h':=hh) (g':=g) (d':=d) (t':=tt) (ch:=[]) I3 S m i<|λb z=>iq z q0o
      obtain⟨t4,O4⟩:=HU J e4
      refine#[rv,J.y9 _ _ lC,#[t4,c,O4],?_]
      have fu:=J.JA.yT
      have an:(mu y.heap (e::zJ (29).stack)).get? e=none:=sG _ hW
      refine jr (BG (base:=mu y.heap (e::zJ (29).stack)) (a0:=.ref t4) J.ok.frames
        (sf fu λao he b j=>hZ _<|List.mem_filterMap.mpr ⟨ao,he,j⟩) (yp J T) O4 (λb o z=>nV _ z) an rfl rfl rfl
        (Q:=λ_ aq=>v4 P w outer H s E (.ref e) aq) λar fl up dk=>?_) (λ_ _ z=>z) λ_ _ z=>z
      refine#[C,e,CC H4 e,rfl,?_,hE]
      refine Ls (s2:=y) F T rfl R i (Un.RZ ((Un.Nx F.v0 made.new made.keeps).trans S) made.new n2) (m.RZ e4) (λb o z L nf=>pJ _ z λj=>?_) (λb j=>?_) up fl #[_,dk,gd]
      · rcases List.mem_cons.mp j with rfl|j
        · rcases L with L|⟨o0, L⟩
          · exact L Aa
          · rw[made.new]at L; cases L
        · exact nf j
      · have z := J.frn b j
        refine#[?_,(fu.mem j).2]
        by_cases q:b=e
        · rw[q, Aa]
        · rw[yu q]; exact z.1
end
def Y0(K:hO)(C:hJ)(c:Str):Sp:=λd H Q _=>∃x l b,d=[.ref x,.ref l]/\H x=↑(Ej C x none)/\(wI K H l b\/zu K H l b)/\∀p a,H p=none->H a=none->a≠x->a≠p->Q .wW (upd (upd (upd H p<|.lst b) a<|.xd [(c,.ref p)]) x<|Ej C x<|↑a)
section
variable{P:iQ}{w:jf}{K:hO}{mg:Str->Option ci}{base:ja}{qual name:Str}{scope:mB}{f zK cc:hJ}{C:hJ}{k:Nat}{p0 p1 p2 p3 p4 p5 p6 p7 p8 p9 apos pos:Pos}{r fl tx:Str}{j:Nat}
variable{nm q:Str}{Ns:hJ}{bs bm:List ci}{sn:List Str}{sub:List ci}{ab:Bool}{col:Option Bool}{dd:Option hJ}{k0 k1 k2 k3 k5:Option ci}{params:Arguments}{dV kV doc pm ct oc:ci}{an od:Option hJ}{Oy:Array (Option ci)}{body:List iH}
def VP(lk:K.lookup f=some #[oc,od,.func<|kW name qual params body scope [78] dV kV doc pm an (.ref zK) ct,Oy])(g:jJ K (.ref zK) qual=true)
 (m:body=[.Expr (.Call (.Attribute 90 "__init__" apos) [.Constant (.str tx) j p3] [] pos) p2,.Assign [.Attribute (.Name "self" p4) fl p5] (.Call (.Name "list" p6) [.Name r p7] [] p8) p9])
 (S:WL.xS ["self",r] ["self",r] scope) (D:LH P K C f zK cc "self") (n:OX p0 p1 apos pos "__init__" [.Constant (.str tx) j p3]) (o:mg "super"=none) (t:mg "list"=none) (u:scope.names.lookup ("list":Str)=some .globalImplicit)
 (M:K.lookup C=↑(jT nm q C Ns bs bm true sn sub ab col dd k0 k1 k2 k3 k5 "ValueError.__new__")) (U:ki K C C "__init__"=↑132) (v:lE K C (.type "ValueError")=↑true)
 (B:bm.contains (.type "object")=true) (F:∀x:hJ,tS (.ref x) "__setattr__" bm=pure ()) (X:iN K (.ref C) "__setattr__"=↑109) (Y:iN K (.ref C) fl=↑none)
 (G:(r==70)=false) (I:(r==("__classdict__":Str))=false) :
    vU P w K mg base (v4 P w) (k+1) f (kW name qual params body scope [78] dV kV doc pm an (.ref zK) ct) ["self",r] (Y0 K C fl):=by
  obtain⟨o1,o2,o3,a⟩:=D.cell
  refine HQ lk g (S.x cc) (λy c h=>?_) (λZ H Q E h=>?_) λA J s H Z Q E hr L=>?_
  · have e : c = cc := by
      by_cases e:(y==110)=true
      · rw[iV, e]at h; cases h; rfl
      · rw[iV, Bool.eq_false_iff.mpr e]at h; cases h
    subst e
    exact#[_,_,a,rfl]
  · obtain⟨x, l, N, rfl, _⟩ := h; rfl
  · obtain⟨x, l, N, rfl, b, hl, hq⟩ := L
    rw[m]
    refine#[_,yQ (Fd (RY D rfl S.ks S.kc (S.par _ hW) o M U v (vq Hd vF) rfl rfl n)) (yQ (RJ (VN (KH (i:=0) rfl (.inl (S.par _ hW)))
      (xU yJ u t ky (vq (KH (i:=1) rfl (.inl (S.par _ (hZ _ hW))) G I) vF)) rfl M B F X Y)) (Eg zP)),?_]
    have st:start ["self",r] [V.ref x,V.ref l]=[some<|.ref x,some<|.ref l]:=rfl
    rw[st]
    refine#[x,rfl,b,?_,b,?_]
    · show (1 : Nat) <= hX
      rw[jk];lia
    · refine#[.ref l, rfl, l, N, rfl, hl, λp O => #[.ref x, rfl, x, rfl, ?_, λR d n2 => ?_]]
      · rw[vh λz => by rw[z, O]at b; cases b]
        exact b
      · have T : R ≠ p := λz => by rw[z, vm]at d; cases d
        rw[vh T]at d
        exact hq p R O d n2 T
end
end L2
namespace WL
variable[L2.GX]
open PySem L2
open Rep (rp)
open Ow (sl)
open Sls (rel)
structure XcI(P:iQ)(w:jf)(K:hO)(mg:Str->Option ci)(base:ja)(k:Nat)(x:Str)(C:hJ)(fl:Str):Prop where
 ex:∃(fI Ns:hJ)(fd:iX)(oI:qV)(nm q:Str)(bs bm DV:List ci)(hdct:Bool)(sn:List Str)(sub:List ci)(ab:Bool)(col:Option Bool)(dd:Option hJ)(k0 k1 k2 k3 k5:Option ci)(B newId yC:String)(ps:List Str),
  mg x=↑(.ref C)/\K.lookup C=↑(jT nm q C Ns bs bm hdct sn sub ab col dd k0 k1 k2 k3 k5 newId)/\(∀h:ja,K.In h->∃mN,h.Ns Ns mN/\mN "__init__"=↑(.ref fI))/\(∀h:ja,K.In h->sX h DV bm)/\K.lookup fI=↑oI/\oI.cls=.type "function" /\
  kR B newId yC DV/\bm.contains (.type "BaseException")=true/\vU P w K mg base (v4 P w) k fI fd ps (Y0 K C fl)/\Binds K fd ps []
 go:∀dx p xs H,H dx=↑(.xd [(fl,.ref p)])->H p=↑(.lst xs)->GX.g C ↑dx H
section
variable{D D' D1 PO τ α:Type}[Sls D][Sls D'][Sls D1][Sls PO][Ow τ][Rep α]
def Y1{x r L:Str}{i:Nat}{y j M:Pos}{C:hJ}[J:Pj D PO n][At i D (OL α) D1](hg:Gl 84 x)(h:XcI P w K l base k x C L)(hr:wM (k+1) (84).A)
  (hv:PE 84 (.Name r M) (vT i)) (W:(x==70)=false:=by decide)
  (X:hR [.Name r M] (84).env=(false,eval (.Name r M) (84).env)::hR [] (84).env:=by rfl) :
  S1 84 E T ms n (.Raise (some<|.Call (.Name x y) [.Name r M] [] j) none Y) (λ(d:D)(_:D'->Prop)(_:τ->PO->Prop) Ke=>Ke C<|J.pj d):=by
 obtain⟨fI,Ns,fd,oI,nm,q,bs,bm,af,ae,sn,ag,ab,ah,dd,k0,k1,k2,k3,k5,B,Z,O,ps,a1,a2,a3,a4,a5,a6,a7,a8,a9,aa⟩:=h.ex;refine#[_,O0 (np:=y) (pos:=Y) (cpos:=j) hg a1 a2 a3 a4 a5 a6 a7 a8 a9 aa .nil hr (vq hv vF X) W (by rw[X];rfl) λQ E' s9 z=>by rw[X]at z ⊢;exact jQ z,λd F R σ H Kn Kr Ke En s hw kn kr ke=>?_];obtain⟨v,F1,F2,e1,_,⟨a,I,rfl,_,ha,_⟩,_⟩:=U9 (i:=i) (τ:=OL α) s;refine#[.ref a,e1,(by show 1<=hX;decide),λx hx=>#[x,a,I,rfl,vm,.inl ?_,λp m S hd nx y=>#[rfl,↑m,vm,?_]]]
 ·have ne:a≠x:=λz=>by rw[z,hx]at ha;cases ha
  exact .inl<|Rd.of (by rw[vh ne];exact ha)
 ·have px:p≠x:=λz=>by rw[z,vm]at S;cases S
  rw[vh px]at S;rw[vh nx]at hd
  have q:CC (upd (upd (upd (upd H x<|Ej C x none) p<|.lst I) m<|.xd [(L,.ref p)]) x<|Ej C x<|↑m) x=upd (upd H p<|.lst I) m (.xd [(L,.ref p)]):=by
   funext b
   by_cases U:b=x
   ·rw[U,Aa,vh<|Ne.symm nx,vh<|Ne.symm px,hx]
   ·rw[yu U,vh U];by_cases o:b=m
    ·rw[o,vm,vm]
    ·rw[vh o,vh o];by_cases t:b=p
     ·rw[t,vm,vm]
     ·rw[vh t,vh U,vh t]
  rw[q];refine#[h.go m p I _ vm (by rw[vh<|Ne.symm y];exact vm),?_];refine e0a3 (s.new (.lst I) S) λs2 c2 _=>?_;obtain⟨s3,c3,_⟩:=s2.new (p:=m) (.xd [(L,.ref p)]) (by rw[vh y];exact hd);refine e1a2 (wY (PO:=PO) s3) λG g1 g2=>?_;exact ke C x _ G R _ hw ((Ch.trans s s2.tab c2 c3).less g1) g2
end
end WL
namespace SX
open PySem PySem.W PyProof.Rows
def AQ(p:Array Nat)(k:Nat):p.getD k 0=(p[k]?).getD 0:=by simp
def Dj{p:Array Nat}{i j:Nat}(h:j<=p.size)(k:Nat):(rS p i j).getD k 0=if i<=k/\k<j then p.getD (i+j-1-k) 0 else p.getD k 0:=by rw[AQ,rS,getElem?_mirror_all h k,AQ,AQ];split<;>rfl
def LN{p:Array Nat}{k d:Nat}(h:k<p.size)(a:d<=k)(i:Nat):(bubble p k d).getD i 0=if i=k-d then p.getD k 0 else if k-d<i/\i<=k then p.getD (i-1) 0 else p.getD i 0:=by
 rw[AQ,getElem?_bubble h d a i,AQ,AQ,AQ];split
 ·rfl
 ·split<;>rfl
structure a3e(lt:Nat->Nat->Bool):Prop where
 ir:∀a,lt a a=false
 tr:∀a b c,lt b a=false->lt c b=false->lt c a=false
 as:∀a b,lt a b=true->lt b a=false
section
variable{lt:Nat->Nat->Bool}{cmp:Nat->Nat->(Bool->ic->Prop)->ic->Prop}{N:Nat}{s:ic}
def HW(lt:Nat->Nat->Bool)(p:Array Nat)(k:Nat):Prop:=∀i j,i<=j->j<k->lt (p.getD j 0) (p.getD i 0)=false
def Gh(lt:Nat->Nat->Bool)(p:Array Nat)(k:Nat):Prop:=∀i j,i<=j->j<k->lt (p.getD i 0) (p.getD j 0)=false
def Jj(N:Nat)(p:Array Nat):Prop:=∀k,p.getD k 0<N
def Jj.rev{i j:Nat}(b:Jj N p)(h:j<=p.size):Jj N (rS p i j):=λk=>by rw[Dj h];split<;>exact b _
def Jj.bub{k d:Nat}(b:Jj N p)(h:k<p.size)(c:d<=k):Jj N (bubble p k d):=λi=>by
 rw[LN h c];by_cases q:i=k-d
 ·rw[cr q];exact b _
 ·rw[hI q];by_cases a:k-d<i/\i<=k
  ·rw[cr a];exact b _
  ·rw[hI a];exact b _
def CD{i j:Nat}:(rS p i j).Perm p:=mirror_perm _ _ _ _
variable(L:a3e lt)(hc:∀i j (C:Bool->ic->Prop),i<N->j<N->C (lt i j) s->cmp i j C s)
include L hc
def Ny(b:Jj N p):∀(f n:Nat) {Q:Nat->ic->Prop},1<=n->HW lt p n->(∀m,n<=m->m<=n+f->HW lt p m->(m<n+f->lt (p.getD m 0) (p.getD (m-1) 0)=true)->Q m s)->l9 cmp (kas_asc p f n) Q s:=by
 intro g
 induction g with
 |zero=>intro n Q h a k;exact k n (hV _) (hV _) a<|λz=>iq z<|kf _
 |succ f c =>
  intro n Q h a k;refine hc _ _ _ (b _) (b _) ?_
  cases e:lt (p.getD n 0) (p.getD (n-1) 0) with
  |true=>exact k n (hV _) q0a a λ_=>e
  |false =>
   refine c (n+1) q0a (λi j d t=>?_) λm u v l o=>k m q0a q0a l λz=>o q0a;by_cases q:j=n
   ·subst q;by_cases r:i=j
    ·rw[r];exact L.ir _
    ·exact L.tr _ _ _ (a i (j-1) q0a q0a) e
   ·exact a i j d q0a
omit hc in
set_option tactic.hygienic true in
def VQ{p:Array Nat}{n q:Nat}(m:q+1<=n)(d:n<=p.size)(f:Gh lt p n)(c:∀k,n-(q+1)<=k->k<n->lt (p.getD (n-1) 0) (p.getD k 0)=false)(k:Nat) :
  lt ((rS p (n-(q+1)) n).getD k 0) (p.getD k 0)=false/\lt (p.getD k 0) ((rS p (n-(q+1)) n).getD k 0)=false:=by
 rw[Dj d];split
 ·rename_i h
  have e:∀a b,n-(q+1)<=a->a<n->n-(q+1)<=b->b<n->lt (p.getD a 0) (p.getD b 0)=false:=λa b o r g l =>
   L.tr _ (p.getD (n-1) 0) _ (c b g l) (f a (n-1) q0d q0d)
  exact#[e _ _ q0d q0d h.1 h.2,e _ _ h.1 h.2 q0d q0d]
 ·exact#[L.ir _,L.ir _]
omit hc in
def Nz{p:Array Nat}{n q m:Nat}(c:q+1<=n)(d:n<=p.size)(f:Gh lt p n)(a:∀k,n-(q+1)<=k->k<n->lt (p.getD (n-1) 0) (p.getD k 0)=false)(g:Gh lt p m):Gh lt (rS p (n-(q+1)) n) m:=λi j b h=>by have e:=VQ L c d f a;exact L.tr _ _ _ (L.tr _ _ _ (e j).2<|g i j b h) (e i).1
omit hc in
def Fi{n:Nat}(d:1<=n)(b:Gh lt p n)(h:lt (p.getD (n-1) 0) (p.getD n 0)=false):Gh lt p (n+1):=λi j a e=>by
 by_cases q:j=n
 ·subst q;by_cases c:i=j
  ·rw[c];exact L.ir _
  ·exact L.tr _ _ _ h<|b i (j-1) q0a q0a
 ·exact b i j a q0a
def R6:∀(f:Nat)(p:Array Nat)(n q:Nat) {Q:Array Nat×Nat×Nat->ic->Prop},Jj N p->q+1<=n->n+f<=p.size->Gh lt p n->(∀k,n-(q+1)<=k->k<n->lt (p.getD (n-1) 0) (p.getD k 0)=false) ->
  (∀a m d,a.Perm p->a.size=p.size->Jj N a->d+1<=m->n<=m->m<=n+f->Gh lt a m->(∀k,m-(d+1)<=k->k<m->lt (a.getD (m-1) 0) (a.getD k 0)=false)->Q (a,m,d) s)->l9 cmp (kas_desc f p n q) Q s:=by
 intro F
 induction F with
 |zero=>intro p n q Q b w G h c k;exact k p n q (.refl _) rfl b w (hV _) (hV _) h c
 |succ f g =>
  intro p n q Q b w G h c k;refine hc _ _ _ (b _) (b _) ?_
  cases e:lt (p.getD n 0) (p.getD (n-1) 0) with
  |true =>
   have y:=Fi L q0a h<|L.as _ _ e
   have A:∀{x:Array Nat},∀k,n+1-(0+1)<=k->k<n+1->lt (x.getD (n+1-1) 0) (x.getD k 0)=false:=λ{x} k H I=>by
    have:k=n+1-1:=by lia
    rw[this];exact L.ir _
   split
   ·refine g _ (n+1) 0 (b.rev q0a) q0a (by rw[nK];lia) (Nz L w q0a h c y) A λa m d l o r t B D u v=>k a m d (l.trans CD) (o.trans<|nK _ _) r t q0a q0a u v
   ·exact g p (n+1) 0 b q0a q0a y A λa m d l o r t B D u v=>k a m d l o r t q0a q0a u v
  |false =>
   refine hc _ _ _ (b _) (b _) ?_
   cases J:lt (p.getD (n-1) 0) (p.getD n 0) with
   |true=>exact k p n q (.refl _) rfl b w (hV _) q0a h c
   |false =>
    refine g p (n+1) (q+1) b q0a q0a (Fi L q0a h J) (λE H I=>?_) λa m d l o r t B D u v=>k a m d l o r t q0a q0a u v;have M:n+1-1=n:=by lia
    rw[M];by_cases z:E=n
    ·rw[z];exact L.ir _
    ·exact L.tr _ _ _ (c E q0a q0a) e
def J7{n a:Nat}(b:Jj N p)(e:1<=n)(o:n<=a)(q:a<=p.size)(f:Gh lt p n)
 (k:∀m c,c.Perm p->c.size=p.size->Jj N c->1<=m->m<=a->HW lt c m->Q (m,c) s):l9 cmp (kas_tail3 n a p) Q s:=by
  unfold kas_tail3
  rw[nS]
  have d:n<=p.size:=by omega
  refine Ny L hc (b.rev d) _ n e (λi j g h=>?_) λm r t l _=>k m _ CD (nK _ _) (b.rev d) q0d q0d l
  rw[Dj d,Dj d,cr #[jp _,h],cr #[jp _,q0d]]
  exact f _ _ q0d q0d
def R7{n a:Nat}(b:Jj N p)(A:1<=n)(B:n+1<=a)(D:a<=p.size)(w:Gh lt p (n+1))
 (k:∀m d,d.Perm p->d.size=p.size->Jj N d->1<=m->m<=a->HW lt d m->Q (m,d) s):l9 cmp (kas_descPart n a p) Q s:=by
  unfold kas_descPart
  rw[nS]
  refine R6 L hc _ p (n+1) 0 b q0a q0a w (λx E F=>?_) λd m G t u v y H I e z=>?_
  · have : x = n+1-1 := by lia
    rw[this];exact L.ir _
  · dsimp only
    split
    · exact J7 L hc (v.rev q0a) q0a q0a (by rw[nK]; lia) (Nz L y q0a e z e) λf c g h l o q r => k f c ((g.trans CD).trans t) ((h.trans<|nK _ _).trans u) l o q r
    · exact J7 L hc v q0a q0a q0a e λf c g h l o q r => k f c (g.trans t) (h.trans u) l o q r
set_option tactic.hygienic true in
def O3{d:Nat}(b:Jj N p)(P:1<=d)(B:d<=p.size)
 (k:∀m f,f.Perm p->f.size=p.size->Jj N f->1<=m->m<=d->HW lt f m->Q (m,f) s):l9 cmp (kas_count d p) Q s:=by
  unfold kas_count
  rw[nS]
  refine Ny L hc b _ 1 (hV _) (λi j g v=>?_) λn w R o D=>?_
  · have r : i = 0 := by lia
    have h:j=0:=by lia
    rw[r,h];exact L.ir _
  · by_cases e : n = d
    · rw[cr<|by rw[e]; simp]
      exact k n p (.refl _) rfl b w q0a o
    · rw[hI<|by simp[e]]
      have x:=D q0a
      split
      · rename_i S
        refine hc _ _ _ (b _) (b _) ?_
        cases h:lt (p.getD 0 0) (p.getD (n-1) 0) with
        |true=>exact k n p (.refl _) rfl b w q0a o
        |false =>
          have t:n<=p.size:=by lia
          refine R7 L hc (b.rev t) q0a q0a (by rw[nK];lia) (λi j g v=>?_) λE u y F G H I J=>k E u (y.trans CD) (F.trans<|nK _ _) G H I J
          have l:∀a c,a<n->c<n->lt (p.getD a 0) (p.getD c 0)=false:=λa c M y=>L.tr _ _ _ (L.tr _ _ _ (o c (n-1) q0a q0a) h)<|o 0 a (jp _) M
          rw[Dj t i,Dj t j]
          by_cases q:j<n
          · rw[cr #[jp _, by lia], cr #[jp _, q]]
            exact l _ _ q0a q0a
          · have O : j = n := by lia
            rw[hI (c:=0<=j/\j<n) λz=>q z.2]
            by_cases A:i<n
            · rw[cr #[jp _, A], O]
              exact L.tr _ _ _ (L.as _ _ x)<|l _ _ q0a q0a
            · rw[hI λz => A z.2, show i = j by lia]
              exact L.ir _
      · refine R7 L hc b q0a q0a B (Fi L q0a (λi j g v => ?_)<|L.as _ _ x) k
        have r:i=0:=by lia
        have h:j=0:=by lia
        rw[r,h];exact L.ir _
def O5{k:Nat}(b:Jj N p)(q:HW lt p k):∀(f l r:Nat) {Q:Nat->ic->Prop},r-l<=f->l<=r->r<=k->(∀i,i<l->lt (p.getD k 0) (p.getD i 0)=false)->(∀i,r<=i->i<k->lt (p.getD k 0) (p.getD i 0)=true) ->
  (∀h,h<=k->(∀i,i<h->lt (p.getD k 0) (p.getD i 0)=false)->(∀i,h<=i->i<k->lt (p.getD k 0) (p.getD i 0)=true)->Q h s)->l9 cmp (uE p k f l r) Q s:=by
 intro t
 induction t with
 |zero=>intro l r Q u o a m n d;exact d l q0d m λi z=>n i q0d
 |succ f g =>
  intro l r Q u o a m n d;show l9 cmp (if l>=r then KasT.ret l else KasT.ask (p.getD k 0) (p.getD ((l+r) / 2) 0) λc=>if c=true then uE p k f l ((l+r) / 2) else uE p k f ((l+r) / 2+1) r) Q s;split
  ·exact d l q0d m λi z=>n i q0d
  ·refine hc _ _ _ (b _) (b _) ?_
   cases e:lt (p.getD k 0) (p.getD ((l+r) / 2) 0) with
   |true =>
    refine g l ((l+r) / 2) q0d q0d q0d m (λi v w=>?_) d
    cases x:lt (p.getD k 0) (p.getD i 0) with
    |true=>rfl
    |false=>rw[L.tr _ _ _ (q ((l+r) / 2) i v w) x]at e;cases e
   |false =>
    refine g ((l+r) / 2+1) r q0d q0d a (λi z=>?_) n d;exact L.tr _ _ _ (q i ((l+r) / 2) q0d q0d) e
def VR:∀(f:Nat)(p:Array Nat)(k:Nat) {Q:Array Nat->ic->Prop},Jj N p->k+f<=p.size->HW lt p k->(∀d,d.Perm p->HW lt d (k+f)->Q d s)->l9 cmp (kas_bin f p k) Q s:=by
 intro t
 induction t with
 |zero=>intro p k Q b u c g;exact g p (.refl _) c
 |succ f h =>
  intro p k Q b u c g;show l9 cmp ((uE p k k 0 k).bind λl=>kas_bin f (bubble p k<|k-l)<|k+1) Q s;rw[nS];refine O5 L hc b c k 0 k q0a q0a (hV _) (λi z=>iq z q0a) (λi D v=>iq v q0a) λl E w x=>?_;have a:k<p.size:=by lia
  have m:k-l<=k:=by lia
  have y:k-(k-l)=l:=by lia
  refine h _ (k+1) (b.bub a m) (by rw[bubble_size];lia) (λi j n F=>?_) λd A B=>g d (A.trans<|bubble_perm _ _ _) (by rw[show k+(f+1)=k+1+f by lia];exact B);rw[LN a m,LN a m,y];by_cases o:j=l
  ·rw[cr o];by_cases e:i=l
   ·rw[cr e];exact L.ir _
   ·rw[hI e,hI q0a];exact w i q0a
  ·rw[hI o];by_cases q:l<j/\j<=k
   ·rw[cr q];by_cases e:i=l
    ·rw[cr e];exact L.as _ _<|x (j-1) q0a q0a
    ·rw[hI e];by_cases r:l<i/\i<=k
     ·rw[cr r];exact c _ _ q0a q0a
     ·rw[hI r];exact c _ _ q0a q0a
   ·rw[hI q,hI q0a,hI q0a];exact c _ _ n q0a
set_option tactic.hygienic true in
def R8{n:Nat}(p:1<=n)(u:n<=N)(d:∀a,a.Perm (iG n).toArray->HW lt a n->Q a s):l9 cmp (kas_sort n) Q s:=by
 unfold kas_sort;rw[nS];have e:(iG n).toArray.size=n:=by simp
 have b:Jj N (iG n).toArray:=λk=>by
  rw[AQ];simp only[List.getElem?_toArray,List.getElem?_range'];by_cases h:k<n
  ·simp[uj h];lia
  ·simp[kS (l:=iG n)<|by simpa using h];lia
 refine O3 L hc b p (by rw[e];exact hV _) λm a f q r v w g=>?_;split
 ·rename_i h
  refine VR L hc _ a (max m 1) r (by rw[q,e];lia) (by rw[show max m 1=m by lia];exact g) λc t o=>d c (t.trans f) (by rw[show max m 1+(n-max m 1)=n by lia]at o;exact o)
 ·exact d a f (by rw[show n=m by lia];exact g)
end
open PySem.Spec
noncomputable def Jk(p q:Int×Int):Bool:=decide (p.1<q.1)||(p.1==q.1&&decide (p.2<q.2))
def Fj:Jk p q=false↔q.1<p.1\/(q.1=p.1/\q.2<=p.2):=by unfold Jk;simp only[Bool.or_eq_false_iff,Bool.and_eq_false_iff,decide_eq_false_iff_not,beq_eq_false_iff_ne];omega
def a1a:Jk p q=true↔p.1<q.1\/(p.1=q.1/\p.2<q.2):=by unfold Jk;simp only[Bool.or_eq_true,i7,i9,beq_iff_eq]
def xN(h:ja)(v:ci)(p:Int×Int):Prop:=∃x o t u n,v=.ref x/\h.get? x=↑o/\o.cls=.type "tuple"/\o.data=.seq #v[.int p.1 t,.int p.2 u] n
def VS{x y:ci}{p q:Int×Int}{Q:Bool->ic->Prop}(hx:xN s.heap x p)(hy:xN s.heap y q)(h:Q (Jk p q) s):ii (ij prog w) A (keyLt' (tuples' true) x y) Q E s:=by
 obtain⟨a,o,t,u,n,rfl,h1,h2,h3⟩:=hx;obtain⟨b,o',t',u',n',rfl,k1,k2,k3⟩:=hy;refine PySem.W.kat_lt h1 h3 k1 k3<|ul<|r8<|uR (λe=>uF<|ul<|r8<|uR (λe2=>uF<|PySem.W.kat_nil ?_) λe2=>uS<|PySem.W.kat_one _ _<|wpAny_lt_int ?_) λe=>uS<|oneLt_int ?_
 ·have e1:=eq_of_beq e;have e2:=eq_of_beq e2;have:Jk p q=false:=Fj.mpr<|.inr #[e1.symm,Int.le_of_eq e2.symm];rw[this]at h;exact h
 ·have e1:=eq_of_beq e;have:Jk p q=decide (p.2<q.2):=by unfold Jk;rw[e1];simp
  rw[this]at h;exact h
 ·have:Jk p q=decide (p.1<q.1):=by unfold Jk;rw[e];simp
  rw[this]at h;exact h
def xN.keep{h a:ja}(k:∀b o,h.get? b=↑o->o.cls=.type "tuple"->a.get? b=↑o)(z:xN h v p):xN a v p:=by obtain⟨x,o,t,u,n,e,d,c,f⟩:=z;exact#[x,o,t,u,n,e,k x o d c,c,f]
def Fo{h a:ja}(k:∀b o,h.get? b=↑o->o.cls=.type "tuple"->a.get? b=↑o):∀{c:List ci} {d:List (Int×Int)},Paired (xN h) c d->Paired (xN a) c d:=by
 intro _ _ z
 induction z with
 |nil=>exact .nil
 |cons h t e=>exact .cons (h.keep k) e
def Fp:∀{d:List ci} {e:List (Int×Int)},Paired (xN h) d e->∃c,PySem.W.KatTups h d c/\c.length=d.length/\∀v∈c,∃i t,v=md i t
 |_,_,.nil=>#[[],PySem.W.KatTups.nil,rfl,λ_ z=>iq z jq]
 |_,_,.cons a b=>by
  refine e1a3 (Fp b) λc f g j=>?_;obtain⟨x,o,t,u,n,rfl,k,l,m⟩:=a;refine#[_::c,#[#[x,o,_,n,rfl,k,l,m,rfl],f],by simp[g],λv p=>?_];rcases List.mem_cons.mp p with z|z
  ·exact#[_,_,z]
  ·exact j v z
def GS:∀{c:List ci} {d:List (Int×Int)},Paired (xN h) c d->∀i,i<c.length->xN h (c.getD i .none) (d.getD i (0,0)):=by
 intro _ _ z
 induction z with
 |nil=>intro i z;exact iq z<|Nat.not_lt_zero _
 |cons a b e =>
  intro i z
  cases i with
  |zero=>exact a
  |succ i=>simpa using e i (by simpa using z)
def LO{d:List ci}{n:Nat}(D:s.heap.get? a=↑(mP "list" d.toArray n))(hp:Paired (xN s.heap) d m)(I:d.length<64)
 (h:∀J:List Nat,J.Perm (iG d.length)->(J.map λi=>m.getD i (0,0)).Pairwise (λx y=>Jk y x=false)->P (.done<|.ret .none) { s with heap:=sortedHeap s.heap a d (J.map λi=>d.getD i .none).toArray}):ii (ij U w) A (Builtin.«list.sort» #[[.ref a],[]]) P E s:=by
  rw[list_sort_plain]
  have sl:(64:Nat)<=hX:=by rw[jk];decide
  have hz:d.length<=hX:=by lia
  refine am<|listItems_at D rfl<|am<|um D rfl ?_ (hsz:=by simpa using hz)
  obtain⟨L,X⟩:∃L,(s.heap.update a<|Obj.mapSeq λ_=>#v[]).get? a=some (mP "list" #v[] L):=#[_,get?_update_seq D _]
  refine am<|seqEpoch_at X rfl<|am<|wpAny_newTuple<|am<|ui<|iT ?_
  have F:(((s.heap.update a<|Obj.mapSeq λ_=>#v[]).push<|mP "tuple" d.toArray 0).push<|mP "list" #v[] 0).get? a=↑(mP "list" #v[] L):=ce _<|ce _ X
  have g:Paired (xN<|((s.heap.update a<|Obj.mapSeq λ_=>#v[]).push<|mP "tuple" d.toArray 0).push<|mP "list" #v[] 0) d m:=Fo (λb o z c=>ce _<|ce _<|(iU _ _ (λq=>by rw[<- q,D]at z;cases z;have c:kA "list"=kA "tuple":=c;injection c with c;exact iq c q0q)).trans z) hp
  have sz:d.toArray.size=d.length:=by simp
  by_cases Y:d.length<2
  · rw[cr q0a, cr q0a]
    refine am<|ap<|am<|ap ?_
    refine am<|seqEpoch_at F rfl<|am<|um F rfl ?_ (hsz2:=by simp[SortSt.mk',arrOf];lia)
    have key:=h (iG d.length) (.refl _) (by
      rcases d with _|⟨v,_|⟨v2,r⟩⟩
      · simp
      · simp
      · simp at Y; lia)
    have e:((iG d.length).map λi=>d.getD i .none).toArray=Array.map (λx=>x.snd) (d.toArray.zip d.toArray):=by
      rcases d with _|⟨v,_|⟨v2,r⟩⟩
      · simp
      · simp
      · simp at Y; lia
    rw[e]at key
    simp only[rO,lG,pN]
    exact ap key
  rw[hI q0a,hI q0a]
  refine e1a3 (Fp g) λfs f1 f2 f3=>?_
  refine am<|PySem.W.kat_kind (T:=.type "int") f1 q0a (λv hv=>?_) q0q ?_
  · obtain⟨i, t, rfl⟩ := f3 v hv
    exact PySem.W.Looks.now
  refine am (jr (PySem.W.kat_run (ks:=d) (vs:=d) (κ:=tuples' true) rfl q0a I (Q:=λf u=>∃p:Array Nat,p.size=d.length/\arrOf f=Array.map (PySem.W.kas_item (d.toArray.zip d.toArray)) p/\failedOf f=none/\u={ s with heap:=((s.heap.update a (Obj.mapSeq λ_=>#v[])).push (mP "tuple" d.toArray 0)).push (mP "list" #v[] 0)}/\p.toList.Perm (iG d.length)/\(p.toList.map λi=>m.getD i (0,0)).Pairwise (λx y=>Jk y x=false))
    (G:=λp u=>u={ s with heap:=((s.heap.update a (Obj.mapSeq λ_=>#v[])).push (mP "tuple" d.toArray 0)).push (mP "list" #v[] 0)}/\p.toList.Perm (iG d.length)/\(p.toList.map λi=>m.getD i (0,0)).Pairwise (λx y=>Jk y x=false)) (λp f u M O R q4=>#[p,M,O,R,q4]) ?_) ?_ λ_ _ z=>z)
  rotate_left
  · rintro⟨⟨⟩, f⟩ u ⟨p, M, O, R, rfl, g1, g2⟩
    have Z:=PySem.W.kat_snds (vs:=d) (ks:=d) rfl O
    refine am<|seqEpoch_at F rfl<|am<|um F rfl ?_ (hsz2:=by rw[Z];simp[M];lia)
    rw[R]
    simp only[rO,lG,pN]
    rw[Z]
    exact ap<|h _ g1 g2
  · refine R8 (N := d.length) (lt := λi j => Jk (m.getD i (0, 0))<|m.getD j (0, 0)) ⟨λa => ?_, λa b c z1 z2 => ?_, λa b z => ?_⟩ (λi j C H B k => ?_) q0a (hV _) λl c1 c2 => #[rfl, ?_, ?_]
    · exact Fj.mpr<|.inr #[rfl, oO _]
    · have z1 := Fj.mp z1
      have z2:=Fj.mp z2
      exact Fj.mpr q0a
    · have z := a1a.mp z
      exact Fj.mpr q0a
    · exact VS (GS g i H) (GS g j B) k
    · have := c1.toList
      simpa using this
    · rw[List.pairwise_iff_getElem]
      intro i j H B S
      have hl:l.size=d.length:=by have:=c1.size_eq;simpa using this
      have q:=c2 i j (mn S) (by simpa[hl] using B)
      have gi:l.getD i 0=l.toList[i]'(by simpa using H):=by
        have:i<l.size:=by simpa using H
        simp[Array.getD,this]
      have gj:l.getD j 0=l.toList[j]'(by simpa using B):=by
        have:j<l.size:=by simpa using B
        simp[Array.getD,this]
      rw[vf,vf,<- gi,<- gj]
      exact q
def HX{a:List ci}(u:s.heap.IsList l a.toArray)(v:Paired (xN s.heap) a B)(f:a.length<64)
 (h:∀j C r (d:List Nat),⇑s<=r->d.Perm (iG a.length)->(d.map λi=>B.getD i (0,0)).Pairwise (λx y=>Jk y x=false)->(∃n,j.get? r=some { cls:=.type "list",data:=.seq (d.map λi=>a.getD i .none).toArray n})->(∀c o,s.heap.get? c=↑o->j.get? c=↑o)->Q (.ref r) { s with heap:=j,toks:=C}) :
    ii (ij t w) A (call (.builtin "sorted") [.ref l]) Q E s:=by
  refine rY kind_sorted plain_sorted entry_sorted (args_sorted1 _) ?_
  have sl:(64:Nat)<=hX:=by rw[jk];decide
  refine am (m:=checkCount "sorted" 1 1 _)<|ap<|am<|collect_list u ?_ q0d
  have e:∀c o,s.heap.get? c=↑o->(125).get? c=↑o:=λc o q=>(iU _ _<|jB<|ie q).trans<|ce _ q
  have sz:⇑s<=(125).objs.size:=by rw[oW,tO];exact mh _
  generalize 125=k at e sz ⊢
  refine am<|ui ?_
  have p:(k.push<|mP "list" a.toArray 0).get? k.objs.size=↑(mP "list" a.toArray 0):=il _ rfl
  refine am<|iT<|jg slot_list_sort ⟨_,p,rfl⟩ entry_list_sort (LO p (Fo (λb o z _=>ce _<|e b o z) v) f λd D F=>#[_,rfl,?_])<|args_list_sort _
  obtain⟨G,H⟩:=sortedHeap_at (out:=(d.map λi=>a.getD i .none).toArray) p
  refine ap #[_,rfl,h _ s.toks k.objs.size d sz D F #[G,by simpa using H] λc o g=>?_]
  have lt:=ie<|e c o g
  rw[sortedHeap_old (iu lt)<|by rw[tO];exact oN lt]
  exact ce _<|e c o g
end SX
namespace L2
open PySem PySem.Spec PyProof.Rows SX
def range_getD(l:List a)(d:a):(iG l.length).map (λi=>l.getD i d)=l:=by refine List.ext_getElem q0o λi c b=>?_;simp[List.getD,b]
def GU(h:Paired R c k):∀{b:List Nat},(∀i∈b,i<c.length)->Paired R (b.map λi=>c.getD i d) (b.map λi=>k.getD i e):=by
 have g:∀i,i<c.length->R (c.getD i d) (k.getD i e):=by
  induction h with
  |nil=>exact λi z=>iq z<|Nat.not_lt_zero _
  |cons a _ f =>
   intro i z
   cases i with
   |zero=>exact a
   |succ i=>simpa using f i (by simpa using z)
 intro b
 induction b with
 |nil=>exact λ_=>.nil
 |cons i r f=>exact λz=>.cons (g i<|z i hW)<|f λj l=>z j<|hZ _ l
def pairs_at(I:Inv X g B H s):∀{i:List V} {d:List ci} {f:List (Int×Int)},Vals i d->Paired (λ(v:V)(p:Int×Int)=>∃t,v=.ref t/\H t=↑(.tup [.int p.1,.int p.2])) i f->Paired (xN s.heap) d f:=by
 intro _ _ f z
 induction z generalizing f with
 |nil=>intro w;cases w;exact .nil
 |cons r C j=>intro w;cases w with|cons q k =>
  refine e1a2 q λt e h=>?_;subst e;obtain rfl:=r;obtain⟨d,l,⟨o,m,u,n,x⟩,_⟩:=I.tuple<|zu.of h
  cases l with|cons a b =>
  cases b with|cons b c =>
  cases c;obtain⟨y,rfl⟩:=a;obtain⟨A,rfl⟩:=b;exact .cons #[t,o,y,A,n,rfl,m,u,x]<|j k
def HY:zc X (.builtin "sorted") (λm H Q=>∃(a:hJ)(c:List V) (j:List (Int×Int)),m=[.ref a]/\wI X.K H a c/\Paired (λ(v:V)(p:Int×Int)=>∃t,v=.ref t/\H t=↑(.tup [.int p.1,.int p.2])) c j/\c.length<64 /\
  ∀(l:hJ)(b:List Nat),H l=none->b.Perm (iG c.length)->(b.map λi=>j.getD i (0,0)).Pairwise (λx y=>Jk y x=false)->Q (.ref l) (upd H l (.lst (b.map λi=>c.getD i .wW)))):=by
 intro w s R H m c Q I r h;obtain⟨a,f,j,rfl,A,B,C,q⟩:=h;obtain⟨u,rfl,D⟩:=vals1 r;cases D;refine e1a3 (I.list A) λd k E S=>?_;have F:f.length=d.length:=k.length;refine HX E.isList (pairs_at I k B) q0d λT G r b z g J L M=>?_;obtain⟨n,e⟩:=L;rw[<- F]at g;have N:∀i∈b,i<f.length:=λi O=>by simpa using g.subset O
 have P:b.length=f.length:=by simpa using g.length_eq
 exact#[.ref r,_,I.laid (t':=G) (o:=.lst<|b.map λi=>f.getD i .wW) M z #[by rw[h8,P];omega,b.map λi=>d.getD i .none,n,GU k N,e],rfl,q r b (I.v0.fresh z) g J]
end L2
namespace WL
variable[L2.GX]
open PySem L2 SX
open Rep (rp)
open Ow (sl)
open Sls (rel)
section
variable{D:Type}[Sls D]
def O6:∀{a:List d} {b:List V},Paired R a b->Paired (λv x=>R x v) b a:=by
 intro _ _ z
 induction z with
 |nil=>exact .nil
 |cons h t c=>exact .cons h c
def J8{a b:Type}{R S:a->b->Prop}(h:∀x y,R x y->S x y):∀{c:List a} {d:List b},Paired R c d->Paired S c d:=λz=>L2.Paired.Xz z h
def LP(B:Gl X "sorted")(C:X.mg "sorted"=none)(G:ER X E T a I)(k:hR [a] X.env=85::hR [] X.env:=by rfl) :
  EO X E T (.Call (.Name "sorted" p) [a] [] pos) (cK I λ(m:OL (Int×Int)->D->Prop) g b=>(g b).length<64/\∀c,c.Perm (g b)->c.Pairwise (λx y=>Jk y x=false)->m #[c] b):=by
 refine e1a2 G λta J L=>?_;refine#[_,wZ HY B C kO (vq J vF k) (he:=k),λd F R M H m N Q s O P S=>L d F R M H _ N _ s O (λg b u n U W o Y f Z=>?_) S];obtain⟨q,r,rfl,h1,h⟩:=Z b n U W 67 f;have A:(g b).length=r.length:=h.length;refine#[_,r,g b,rfl,wI.of h1,J8 (λv x z=>?_)<|O6 h,by rw[<- A];exact o.1,λl ix hl j sn=>?_]
 ·obtain⟨t,u,w,rfl,_,e,e1,e2⟩:=z;exact#[t,rfl,by rw[e,e1,e2]]
 ·rw[<- A]at j;have lt:∀i∈ix,i<(g b).length:=λi hi=>by simpa using j.subset hi
  refine e1a3 (xW f hl<|GU (d:=(0,0)) (e:=V.wW) h lt) λR' c3 s3 n3=>?_;exact P _ b _ _ n R' _ (o.2 _ (by have:=j.map<|λi=>(g b).getD i (0,0);rwa [range_getD]at this) sn) (Ch.trans s f.tab Y c3) s3 n3
def tw_trueR{f:Type}[Rep f]{h:Wf D (D->List f) D}(p:ER X E T a h)(r:∀b,rf a X.env b=(do let v <- b;nA a.pos;lm [v] (uH v)):=by intro _;rfl):TW X E T a (cK h λi g c=>i (!(g c).isEmpty) c):=by
 refine e1a2 p λL t w=>?_;refine#[_,Jx t r,λd F R x H i y Q s z A B=>w d F R x H _ y _ s z (λg c u j k m C G n I=>?_) B];obtain⟨q,e,rfl,J,o⟩:=I c j k m 67 n;refine#[!e.isEmpty,.inl #[e,wI.of J,rfl],?_]
 have:e.isEmpty=(g c).isEmpty:=by generalize g c=l at o;cases o<;>rfl
 rw[this];exact A _ c j k m C G n
end
section
variable{D PO τ:Type}[Sls D][Sls PO][Ow τ]{α:Type}[Rep α]
def R9(q:ID)(i:Nat)[Sls j][A:At i D (Bd C l) j](n:q.ok l)(o:Bw X.K C)(t:wg X.K C q.nm)(u:X.A.units+1<kX)(w:PE X (.Name x b) (vT i))(B:EV X T a f)(m:M1 X (.Attribute (.Name x b) q.nm G) "get" apos a pos:=by exact#[rfl,rfl,rfl,rfl])(I:iW (.Name x b) q.nm X.env (eval (.Name x b) X.env)=eval (.Name x b) X.env:=by rfl) :
  EW X E T (.Call (.Attribute (.Attribute (.Name x b) q.nm G) "get" apos) [a] [] pos) (λ(d:D)(c:Option Int->D->Prop) _=>c (lk 88<|f d) d):=by
 refine e1a2 B λW J L=>?_;refine#[_,Qw u (xk w I) J m,λd F R M H c Y Q s N O Z=>?_];obtain⟨p,P,e1,e2,e3,e4,us,S,e,_,_⟩:=wQ (i:=i) s;refine e1a4 (AK e q n) λy U h _ _=>?_;refine#[_,S,p,C,P,_,_,rfl,e.ob,o,t,U,y,rfl,.inl #[_,.inl h],L d F R M H _ s λv r=>?_];subst r;have g:=yB.k (k:=iM<|f d) h;rw[yN]at g;refine#[_,g,O _ d _ F R H N 67 s ?_]
 cases lk 88 (f d) with
 |none=>exact rfl
 |some z=>exact#[(λz=>by cases z),rfl]
def Sc(q:ID)(i:Nat)[Sls n][A:At i D (Bd C o) n](t:q.ok o)(u:Bw X.K C)(w:wg X.K C q.nm)(B:X.A.units+1<kX)(G:PE X (.Name x c) (vT i))(I:EV X T a f)(J:EV X T b g)(m:M2 X (.Attribute (.Name x c) q.nm L) "get" apos a b pos:=by exact#[rfl,rfl,rfl,rfl])(M:iW (.Name x c) q.nm X.env (eval (.Name x c) X.env)=eval (.Name x c) X.env:=by rfl) :
  EW X E T (.Call (.Attribute (.Attribute (.Name x c) q.nm L) "get" apos) [a,b] [] pos) (λ(d:D)(e:Int->D->Prop) _=>e ((lk 88<|f d).getD<|g d) d):=by
 refine e1a2 I λta N O=>?_;refine e1a2 J λtb P S=>?_;refine#[_,Qx B (xk G M) N P m,λd F R h H e Ke Q s U W ke=>?_];obtain⟨p,Y,e1,e2,e3,e4,us,Z,j,_,_⟩:=wQ (i:=i) s;refine e1a4 (AK j q t) λy l1 l _ _=>?_;refine#[_,Z,p,C,Y,_,_,rfl,j.ob,u,w,l1,y,rfl,.inl #[_,.inl l],O d F R h H _ s λv r=>S d F R h H _ s λv' r'=>?_];subst r r';have g:=yB.k (k:=iM<|f d) l;rw[yN]at g;refine#[_,g,W _ d _ F R H U 67 s ?_]
 cases lk 88 (f d) with
 |none=>exact rfl
 |some z=>exact rfl
def VT(q:ID)(i:Nat)[Sls e][A:At i D (Bd C g) e][U:Pt i e (Bd C g) D](n:q.ok g)(o:Bw X.K C)(t:wg X.K C q.nm)(u:PE X (.Name x b) (vT i))(w:EV X T a f)(m:M1 X (.Attribute (.Name x b) q.nm B) "pop" apos a pos:=by exact#[rfl,rfl,rfl,rfl])(G:iW (.Name x b) q.nm X.env (eval (.Name x b) X.env)=eval (.Name x b) X.env:=by rfl) :
  EW X E T (.Call (.Attribute (.Attribute (.Name x b) q.nm B) "pop" apos) [a] [] pos) (λ(d:D)(h:Int->D->Prop) _=>∃v,lk 88 (f d)=↑v/\h v (U.put (A.hole d)<|q.set (A.get d)<|dk 88<|f d)):=by
 refine e1a2 w λta I J=>?_;refine#[_,Qy (xk u G) I m,λd F R L H h Ke Q s M N ke=>?_];obtain⟨p,O,e1,e2,e3,e4,us,P,j,S,W⟩:=wQ (i:=i) s;refine e1a4 (AK j q n) λy Y k l Z=>?_;refine#[_,P,p,C,O,_,_,rfl,j.ob,o,t,Y,y,rfl,.inl #[_,.inl k],J d F R L H _ s λv r=>?_];subst r;refine e1a2 M λz h1 h2=>?_;refine#[_,iM<|f d,V.int z,k,rfl,(by rw[yN,h1];rfl),?_];rw[JX];obtain⟨c,s'⟩:=W (U:=U) l<|Z (dk 88<|f d)<|S _ l;exact N z _ _ F R _ h2 c s' rfl
def J9{R:Rg}{H:Hp}{y:α}:∀{xs:List α} {vs:List V},Paired (rp R H) (xs++[y]) vs->∃us u,vs=us++[u]/\Paired (rp R H) xs us/\rp R H y u:=by
 intro xs
 induction xs with
 |nil=>intro _ z;cases z with|cons h t=>cases t;exact#[[],_,rfl,.nil,h]
 |cons a xs ih =>
  intro _ z
  cases z with|cons h t =>
  obtain⟨us,u,rfl,h1,h2⟩:=ih t;exact#[_::us,u,rfl,.cons h h1,h2]
def NA(i:Nat){D0:Type}[Sls D0][A:At i D (OL α) D0][U:Pt i D0 (OL α) D](hn:PE X (.Name x p1) (vT i))(hb:PE X (.Call (.Attribute (.Name x p1) "pop" apos) [] [] pos) (Z8 X.K "list" Z9<|vT i)) :
  EW X E T (.Call (.Attribute (.Name x p1) "pop" apos) [] [] pos) (λ(d:D)(Kn:α->D->Prop) _=>∃ys y,(A.get d).l=ys++[y]/\Kn y (U.put (A.hole d) #[ys])):=by
 refine#[_,hb,λd F R σ H Kn Ke Q s hw kn ke=>?_];refine e2a4 (Co (i:=i) s) λa vs g1 g2 g3 g4=>?_;refine e2a2 hw λys y e hk=>?_;rw[e]at g3;obtain⟨us,u,rfl,h1,h2⟩:=J9 g3;obtain⟨c2,s2⟩:=g4 _ _ h1;refine#[_,g1,.inl #[rfl,_,wI.of g2],a,_,u,rfl,rfl,g2,q0o,?_];rw[List.dropLast_concat];exact kn y _ u F R _ hk c2 s2<|s.val c2 h2
def zU{R:Rg}{H:Hp}:∀{xs:List α} {vs:List V} (k:Nat),Paired (rp R H) xs vs->Paired (rp R H) (xs.eraseIdx k) (vs.eraseIdx k):=by
 intro _ _ k z
 induction z generalizing k with
 |nil=>exact .nil
 |cons h t ih=>cases k with
  |zero=>exact t
  |succ k=>exact .cons h<|ih k
def O7{a:iZ}(i:Nat){D0:Type}[Sls D0][A:At i D (OL α) D0][U:Pt i D0 (OL α) D]{we:Wf D Int D}(hn:PE X (.Name x p1) (vT i))(h:EW X E T a we)
  (hb:∀{t:TA},PA X [a] t->PE X (.Call (.Attribute (.Name x p1) "pop" apos) [a] [] pos) (tBM X.K "list" Qp (vT i) t)) (hs:hR [a] X.env=85::hR [] X.env:=by rfl) :
  EW X E T (.Call (.Attribute (.Name x p1) "pop" apos) [a] [] pos) (cK we λ(Kn:α->D->Prop) k d'=>0<=k/\∃y,(A.get d').l[k.toNat]?=↑y/\(A.get d').l.length<1000/\Kn y (U.put (A.hole d') #[(A.get d').l.eraseIdx k.toNat])):=by
 refine e1a2 h λt h1 h2=>?_;refine#[_,hb<|vq h1 vF hs,λd F R σ H Kn Ke Q s hw kn ke=>?_];refine e2a4 (Co (i:=i) s) λa0 vs0 g1 g2 g3 _=>?_;refine#[_,g1,.inl #[rfl,vs0,wI.of g2],h2 d F R σ H _ _ _ s hw (λk d' v F' R' H' q c s' r=>?_) ke];subst r;refine e2a4 (Co (i:=i) s') λa' Vd k1 k2 k3 k4=>?_;rw[g1]at k1;cases k1;obtain⟨q0,y,e,ql,hk⟩:=q;refine e1a2 (xl k3 e) λu hu ru=>?_;have lt:=(List.getElem?_eq_some_iff.mp hu).1;have ll:=Paired.length k3;obtain⟨c2,s2⟩:=k4 _ _<|zU k.toNat k3;refine#[a0,Vd,k,k.toNat,u,rfl,rfl,k2,q0a,q0a,?_,hu,kn y _ u F' R' _ hk (Ch.trans s s'.tab c c2) s2<|s'.val c2 ru];have e0:(if k<0 then k+(Vd.length:Int) else k)=k:=hI q0a;show (if (decide (0<=(if k<0 then k+(Vd.length:Int) else k))&&decide ((if k<0 then k+(Vd.length:Int) else k)<(Vd.length:Int)))=true then some (if k<0 then k+(Vd.length:Int) else k).toNat else none)=_;rw[e0];have:(decide (0<=k)&&decide (k<(Vd.length:Int)))=true:=by simp;lia
 exact cr this
end
end WL
namespace L2
open PySem PySem.Spec PyProof.Rows SX
def Y2(f:TE)(c:Int):TE:=λg H Q=>f g H λv d=>∃(a:hJ) (b:List (Key×V)) (e:List Int),v=.ref a/\d a=↑(.dK b)/\b.map (·.1)=e.map iM/\∀p,d p=none->Q (.ref p) (upd d p<|.dK<|e.map λk=>(iM k,V.int c))
def stored_new:∀{l:List (Key×ci)},k∉l.map (·.1)->stored l k y=l++[(k,y)]
 |l,h=>by unfold stored;rw[hI];simp only[u4,i9,not_exists,not_and];exact λe a z=>h<|List.mem_map.mpr #[e,a,z]
def Ka:∀{l:List k} {c:List m},Paired R c (l++[v])->∃b d,c=b++[d]/\Paired R b l/\R d v:=by
 intro e
 induction e with
 |nil=>intro _ z;cases z with|cons h t=>cases t;exact#[[],_,rfl,.nil,h]
 |cons a e f =>
  intro _ z
  cases z with|cons h t =>
  obtain⟨g,u,rfl,i,j⟩:=f t;exact#[_::g,u,rfl,.cons h i,j]
def Be:∀{l:List c} {m:List d},l.length=m.length->(∀(j:Nat)(k:c)(v:d),l[j]?=↑k->m[j]?=↑v->R k v)->Paired R l m
 | [],[],_,_=>.nil
 | [],_::_,h,_=>by cases h
 |_::_,[],h,_=>by cases h
 |a::l,b::m,h,f=>.cons (f 0 a b rfl rfl)<|Be (nO h) λj k v e g=>f (j+1) k v e g
def Kc{c:Int}:∀{a:List Int} {r:List (Key×ci)},r.map (·.1)=a.map iM->(∀e∈r,∃t,e.2=.int c t)->KV (a.map λk=>(iM k,V.int c)) r
 | [],[],_,_=>.nil
 | [],_::_,h,_=>by cases h
 |_::_,[],h,_=>by cases h
 |k::a,e::r,h,f=>by rw[iJ,iJ]at h;injection h with b d;obtain⟨t,g⟩:=f e hW;exact .cons #[b.symm,t,g]<|Kc d λi j=>f i<|hZ _ j
def LQ{P:iQ}{w:jf}(g:∀v k,i v k->Aq k v=true)(h:StoredAll i j l r):∀{a:List Key},Paired (λk v=>Aq k v=true) a l->a.Nodup->r.map (·.1)=a/\∀e∈r,∃v,j v e.2:=by
 induction h with
 |nil=>intro a c _;cases c;exact#[rfl,λ_ z=>by cases z]
 | @snoc l r v k y _ m n o =>
  intro a c p;obtain⟨q,d,rfl,s,t⟩:=Ka c;have u:k=d:=(vR P w).inj v k d (g v k m) t;subst u;have b:=List.nodup_append.mp p;obtain⟨f,x⟩:=o s b.1;have A:k∉r.map (·.1):=λz=>by rw[f]at z;exact b.2.2 k z k q0o rfl
  rw[stored_new A,kC,f];refine#[rfl,λe B=>?_];rcases List.mem_append.mp B with z|z
  ·exact x e z
  ·rw[List.mem_singleton.mp z];exact#[v,n]
def Sd(af:X.calm=true)(hi:PE X iter ti)(E:oS d X.env=pure [])(F:∀y∈d.names,y.2≠.cell)(f:d.kind=.function)(p:∀y∈d.names,y.2=.local->d.names.lookup y.1=some .local)(hx:d.names.lookup x=some .local)(hd:(x==70)=false:=by decide)
 (hs:∀x,kH iter X.env x=pure x:=by intro _;rfl):PE X (.DictComp (.Name x q1) (.Constant (.int c) j q2) [#[.Name x px,iter,[],0]] d pos) (Y2 ti c):=by
  intro u s σ H Q I h
  have hh:X.A.handled=none:=I.ok.hd af
  rw[arm_eval_DictComp]
  refine pF (use:=none) rfl hs E f p<|vX (hi u s σ H _ I h) λv l z9=>e2a3 z9 λx1 H1 I1 r1 N=>e3a4 N λa r O e1 ha G q=>?_
  subst e1
  obtain rfl:v=iA a:=r1
  obtain⟨hz,S,m,kv,wA⟩:=I1.v0 a _ ha
  obtain⟨B,D⟩:=wA.dictAt
  have alt:a<⇑l:=D.lt_size
  refine wpAny_pyIter_dict S D ?_
  -- the M ah at n,the dict at n+1,the frame at n+2
  have u0:∀b o,l.heap.get? b=↑o->(l.heap.push 83).get? b=↑o:=λb o e=>ce _ e
  have i0:Heap.IsKeyIter (l.heap.push 83) ⇑l a 0 m.length B:=#[_,il _ rfl,rfl,rfl]
  have z0:(l.heap.push 83).objs.size=⇑l+1:=jR _ _
  generalize l.heap.push 83=g at u0 i0 z0 ⊢
  refine i8<|wpAny_newFunctionEnv F (λy hy=>by cases hy) (λJ T U=>?_) f
  have d1:(g.push 134).DictOf (vR X.prog X.w) g.objs.size []:=sV g
  have u1:∀b o,g.get? b=↑o->(g.push 134).get? b=↑o:=λb o e=>ce _ e
  have z1:(g.push 134).objs.size=g.objs.size+1:=jR _ _
  generalize g.push 134=g1 at d1 u1 z1 T U ⊢
  have u2:∀b o,g1.get? b=↑o->J.get? b=↑o:=λb o e=>U.extBut b o (iu<|ie e)<|ce _ e
  have c1:g.objs.size≠g1.objs.size:=by lia
  have n1:∀b∈[⇑l,a],b<g.objs.size:=λb hb=>by
    rcases List.mem_cons.mp hb with z|z
    · rw[z, z0]; exact jM _
    · rw[List.mem_singleton.mp z, z0]; exact oN alt
  have W:=Walks.dictKeys (prog:=X.prog) (w:=X.w) (knd:=vR X.prog X.w) hh ⇑l a (iu alt) m B
  have st:J.IsKeyIter ⇑l a 0 m.length B/\J.DictAt (vR X.prog X.w) a m B:=#[i0.at λo e=>u2 _ o<|u1 _ o e,D.at' λo e=>u2 _ o<|u1 _ o<|u0 _ o e]
  have C:=codeAny_compLoop_walkD (R:=compPost 58 X.A X.xe none (EP X u σ Q) (iA g.objs.size) g1.objs.size) (s:={ l with heap:=J,toks:=l.toks+0}) (kx:=.Name x q1) (vx:=.Constant (.int c) j q2) (iter:=iter) (x:=x) (px:=px) (ifs:=[]) (scope:=d) (pos:=pos) (D:=g.objs.size) (cenv:=tP d [] g1.objs.size X.env) W (λ_=>true) (λv k=>Aq k v=true) (λ_ y=>∃t,y=.int c t)
    (lookup_relabel_local hx) (by simp[tP,ph,f]) c1 (λY=>kf _<|n1 _ Y) (λY=>kf _<|n9 (n1 _ Y)<|by rw[z1];exact jM _) st (d1.at λo e=>u2 _ o e) T (λi v L m3 _ _ _ _=>sM #[rfl,L.heap,L.toks,rfl,λ_ _ e=>e])
    (λi v L m3 Z _ hn Y _=>by
      refine e2a2 Z λk x' aj hk=>?_
      exact pZ (lj (by show d.kind=_;exact f) (lookup_relabel_local hx) hn Y #[#[k,hk,hk],L.heap,L.toks,rfl,λ_ _ e=>e]) hd)
    (λi v L m3 _ _ _ _ _=>wpAny_Constant_int #[#[_,rfl],L.heap,_,rfl,λ_ _ e=>e])
    (λh2 tk m' aa ag hn dd ab hP hS k=>?fin) (by rw[<- Paired.length kv];exact hz)
  · exact codeAny_compStart_dict C<|W.self 0 _ _ _ st C
  · refine#[m', hn, λh3 ae => ?_]
    have le:⇑l<=g.objs.size:=by rw[z0];exact mh _
    have k':∀b o,l.heap.get? b=↑o->h3.get? b=↑o:=λb o e=>by
      have lb:=ie e
      have lg:b<g.objs.size:=iB lb le
      have n2:b≠g1.objs.size:=iu (by rw[z1];exact oN lg)
      exact ae.extBut b o n2<|k b o n2 (λz=>by rw[List.mem_singleton.mp z]at lb;exact kf _ lb) (iu lg)<|u2 _ _<|u1 _ _<|u0 _ _ e
    have nH:H1 g.objs.size=none:=I1.v0.fresh le
    have kk:∀{r:List (Key×V)} {m:List (Key×ci)},KV r m->r.map (·.1)=m.map (·.1):=λh=>by
      induction h with
      |nil=>rfl
      |cons h _ ih=>rw[iJ,iJ,ih,h.1]
    have Z:Paired (λk v=>Aq k v=true) (O.map iM) ag:=by
      rw[<- G,kk kv]
      refine Be (by rw[h8,ab]) λj k v J h2=>?_
      refine e2a2 (hP j v h2) λk' x' g1 g2=>?_
      rw[jU,g1]at J
      cases J
      exact g2
    have nd:(O.map iM:List Key).Nodup:=by
      rw[<- G,kk kv]
      obtain⟨o,es,ho,hc,ai,hk,hp,hn⟩:=id D
      exact hn
    obtain⟨f1,f2⟩:=LQ (P:=X.prog) (w:=X.w) (λv k h=>h) hS (by rw[List.filter_eq_self.mpr<|λ_ _=>rfl];exact Z) nd
    have rel:KV (O.map λk=>(iM k,V.int c)) aa:=Kc f1 λe he=>(f2 e he).elim λv Z=>Z
    have ll:O.length=r.length:=by have:=congrArg oF G;simpa using this.symm
    exact#[.ref g.objs.size,_,I1.laid (a:=g.objs.size) (o:=.dK<|O.map λk=>(iM k,V.int c)) (t':=tk) k' le<|Ez (by rw[h8,ll];exact hz) (beq_eq_false_iff_ne.mpr λz=>iq I1.big<|by rw[<- z];exact Nat.not_lt.mpr le) rel<|dd.extBut ae.extBut c1,rfl,q _ nH]
end L2
namespace WL
variable[L2.GX]
open PySem L2
open Rep (rp)
open Ow (sl)
open Sls (rel)
section
variable{D PO τ:Type}[Sls D][Sls PO][Ow τ]{α:Type}[Rep α]
def Sg{F R:Rg}{H:Hp}{d:D}{g:St}(s:wz T F R H d g){p:hJ}(c:H p=none){l:List (Int×α)}{us:List (Key×V)}(h:PK R H l us):∃e,Ch T F R H (λa=>a=p\/F a) e (upd H p<|.dK us)/\wz T F e (upd H p<|.dK us) d g/\Nw T (λa=>a=p) F e (upd H p<|.dK us) (Dc.mk l) (.ref p):=by
 refine e0a3 (s.new (.dK us) c) λi m j=>?_;have n:¬F p:=λz=>j<|s.sub p z;have f:Ext (λ_=>False) R H (λa=>R a\/a=p) (upd H p<|.dK us):=⟨λb o _ h=>by rw[vh<|vv h c];exact h,λa h=>h.elim .inl λq=>.inr<|by rw[q];exact c⟩;refine⟨λa=>R a\/a=p,#[m.keep,f.new,λa h=>h.elim (λq=>.inr<|by rw[q];exact c) .inl,λa h _=>.inl h],#[Sls.st s.rel f (λ_ z=>z.elim)<|λ_ _ z=>z,λa h=>.inl<|s.sub a h,λa h=>?_,i.tab,.inl s.v8,s.vV],#[#[p,us,rfl,λb=>Iff.rfl,vm,RO (f.wide λ_ z=>z.elim) h],λa h=>.inr h,λa h k=>n (by rw[<- h];exact k),λh=>j<|by rw[<- h];exact s.v8]⟩;rcases h with h|h
 ·exact i.xD a h
 ·rw[h,vm];simp
def NB{c:Int}:∀l:List Int,PK R H (l.map λk=>(k,c)) (l.map λk=>((iM k:Key),V.int c))
 | []=>.nil
 |_::l=>.cons #[rfl,rfl]<|NB l
def O8{y:Str}{r t u:Pos}{c:Int}{j:Nat}{a:mB}(q:ID)(i:Nat){m:Type}[Sls m][A:At i D (Bd C v) m](w:q.ok v)(B:Bw X.K C)(G:wg X.K C q.nm)(l:X.calm=true)(I:PE X (.Name x h) (vT i))(e:oS a X.env=pure [])(f:∀y∈a.names,y.2≠.cell)(g:a.kind=.function)(b:∀y∈a.names,y.2=.local->a.names.lookup y.1=some .local)(J:a.names.lookup y=some .local)(L:(y==70)=false:=by decide)(M:iW (.Name x h) q.nm X.env (eval (.Name x h) X.env)=eval (.Name x h) X.env:=by rfl)
  (N:∀z,kH (.Attribute (.Name x h) q.nm O) X.env z=pure z:=by intro _;rfl) :
  EO X E T (.DictComp (.Name y r) (.Constant (.int c) j t) [#[.Name y u,.Attribute (.Name x h) q.nm O,[],0]] a pos) (λ(d:D)(n:Dc Int->D->Prop) _=>n #[((88).map (·.1)).map λk=>(k,c)] d):=by
 refine#[_,Sd l (xk I M) e f g b J L N,λd F R σ H n Ke Q s P S ke=>?_];obtain⟨p,U,e1,e2,e3,e4,us,W,o,_,_⟩:=wQ (i:=i) s;refine e1a4 (AK o q w) λz Y Z _ _=>?_;refine#[_,W,p,C,U,_,_,rfl,o.ob,B,G,Y,z,_,(88).map (·.1),rfl,Z,?_,λp' hp=>?_]
 ·unfold B3;rw[kJ,kJ];rfl
 ·refine e1a3 (Sg s hp (NB (R:=R) (H:=H) (c:=c) ((88).map (·.1)))) λR' c3 s3 n3=>?_;exact S _ d _ _ F R' _ P c3 s3 n3
def Y3{j:Nat}(e:EV X T a f):EO X E T (.Dict [↑a] [.Constant .none j w] pos) (λ(d:D) (b:Dc (Option Int)->D->Prop) _=>b #[[(f d,none)]] d):=by
 refine e1a2 e λx g h=>?_;refine#[_,UJ (Qv g KI UI) rfl rfl q0o q0o,λd F R i H b y Q s k m z=>?_];intro p c;refine e0a3 (s.new (.dK []) c) λn A B=>?_;refine h d F R i _ _ n λv r=>#[vm,[(iM<|f d,.wW)],?_,(show 1<=15 by decide),?_]
 ·have r:v=V.int (f d):=r;rw[r];rfl
 ·rw[Uo];refine e1a3 (Sg (α:=Option Int) s c (l:=[(f d,none)]) (us:=[(iM<|f d,V.wW)])<|.cons ⟨rfl,rfl⟩ .nil) λo q t u=>?_;exact m _ d _ _ F o _ k q t u
def tw_dcNin(i:Nat)[Sls g][A:At i D (Dc α) g](h:X.A.units+1<kX)(j:EW X E T a wk)(m:PE X (.Name x c) (vT i))(n:jh .NotIn (.Name x c)=false:=by with_unfolding_all rfl) :
  TW X E T (.Compare a [.NotIn] [.Name x c] pos) (cK wk λ(e:Bool->D->Prop) k b=>e (!(lk (A.get b).l k).isSome) b):=by
 refine e1a2 j λO o p=>?_;refine#[_,KJ (C4 h o m) n,λd F R q H e r Q s t v w=>p d F R q H _ r _ s t (λk b u z B C G I f J=>?_) w];subst J;obtain⟨y,P,L,M,N⟩:=Ei (i:=i) f;refine#[_,L,y,_,rfl,yB.k (k:=iM k) M,_,rfl,?_];rw[Nv N];exact v _ b z B C G I f
def Kd(i:Nat)[Sls q][A:At i D (Dc Int) q][U:Pt i q (Dc Int) D][J:Pj D PO n](B:X.A.units+1<kX)(C:PE X (.Name x G) (vT i))(I:EV X T a f)(L:EV X T e h)(m:Z3 X op (ipI g))
 (M:∀c j b,augStore a c j b=(do lm [b,c,j] (sQ c j b);release [b,c,j] [];pure .next):=by intros;rfl) :
    S1 X E T ms n (.AugAssign (.Subscript (.Name x G) a p3) op e pos) (λ(d:D)(r:D->Prop)(_:τ->PO->Prop) _=>∃v,lk (A.get d).l (f d)=↑v/\(A.get d).l.length<hX/\r (U.put (A.hole d) #[pk (A.get d).l (f d)<|g v<|h d])):=by
  refine e1a2 I λta N O=>?_
  refine e1a2 L λte P Q=>?_
  refine#[_,UH B C N P m M,λd F R o H r Kr Ke En s S W kr ke=>?_]
  refine e2a4 (RS (i:=i) s) λy us Y t p Z=>?_
  refine e1a3 S λv h1 h2 h3=>?_
  refine#[_,Y,O d F R o H _ s λk rk=>?_]
  subst rk
  refine e1a2 ((LI p).1 v h1) λw w1 w2=>?_
  subst w2
  have u:=yB.k (k:=iM<|f d) t
  rw[w1]at u
  refine#[y,_,rfl,u,Q d F R o H _ s λz rz=>?_]
  subst rz
  obtain⟨c3,s3⟩:=Z _ _<|RQ (R:=R) (H:=H) (k:=f d) (x:=g v<|h d) (v:=V.int<|g v<|h d) rfl p
  exact#[v,h d,rfl,rfl,_,Hi.k (k:=iM<|f d) t (by rw[LJ p];exact h2),W _ F R _ o h3 c3 s3<|Ag.refl _ _]
end
section
variable{D:Type}[Sls D]
def tw_ninT{h:Wf D Int D}{i:Wf D (Tp Int) D}(r:EW X E T a h)(w:EW X E T b i)(x:jh .NotIn b=false) :
  TW X E T (.Compare a [.NotIn] [b] pos) (cB h i λk j t f=>j (!decide (k∈t.l)) f):=by
 refine e1a2 r λta z A=>?_;refine e1a2 w λtb B G=>?_;refine#[_,ye B9 z B x,λd F R m H j n Q s I J o=>A d F R m H _ n _ s I (λk L u M N O P p g S=>?_) o];refine G L M N m O _ n _ g P (λt f v U W Y Z c2 s2 r2=>?_) λC y d' F' R' H' k c s'=>o C y d' F' R' H' k (Ch.trans s g.tab p c) s';subst S;obtain⟨l⟩:=t;obtain⟨q,us,rfl,_,h1,h2⟩:=r2;have e:=ints_of (xs:=l) h2;subst e;refine#[q,_,rfl,.inr<|zu.of h1,rfl,Bh _,_,rfl,?_];rw[cr rfl,Ck];exact J _ f U W Y Z (Ch.trans s g.tab p c2) s2
end
end WL
namespace L2
variable[L2.GX]
open PySem PySem.Spec PyProof.Rows
def a3f(K:hO)(d:TE):TE:=λe H Q=>d e H λx b=>∃a c,x=.ref a/\wI K b a c/\∀p,b p=none->Q (.ref p) (upd b p<|.lst c.reverse)
def Y4{X:Cx}{e:iZ}{te:TE}{p2 p3 p4 pos:Pos}{j:Nat}(he:PE X e te):PE X (.Subscript e (.Slice none none (some<|.UnaryOp .USub (.Constant (.int 1) j p3) p4) p2) pos) (a3f X.K te):=by
 intro pins s σ H Q I h;refine tD<|vX (he pins s σ H _ I h) λv s1 z9=>e2a3 z9 λx H1 I1 r1 z89=>e2a3 z89 λa xs e1 hx q=>?_;subst e1;obtain rfl:v=iA a:=r1;refine wpAny_Slice ?_;rw[ue,evalPart_some];refine ap<|ap<|vX (WY P8 vL pins s1 σ H1 (λv H=>v=.int (-1)/\H=H1) I1 #[1,rfl,rfl,rfl]) λu s2 z9=>e2a4 z9 λy H2 I2 r2 e2 e3=>?_;subst e2 e3;obtain⟨t,rfl⟩:=r2;have I4:Inv X pins σ H2 { s2 with heap:=s2.heap.push { cls:=.type "slice",data:=.fields #v[.none,.none,.int (-1) t]}}:=I2.kept (t':=s2.toks) λb ob q=>ce _ q;refine e1a3 (I4.list hx) λAp r pl hz=>?_;refine' tail_any pl.isList.typeIs slot_list_getitem.lookup ?_ ?hs
 case hs=>with_unfolding_all rfl
 refine uf pl.isList (rD ..) .none .none (.int (-1) t) q0q ?_ (by rw[im,<- r.length];exact hz);rw[PySem.W.krv_pick];refine#[.ref (s2.heap.push { cls:=.type "slice",data:=.fields #v[.none,.none,.int (-1) t]}).objs.size,_,I4.laid (t':=s2.toks) (o:=.lst xs.reverse) (λb ob q=>ce _ q) (hV _) ?_,rfl,q _<|I4.v0.fresh<|hV _];exact#[by rw[List.length_reverse];exact hz,Ap.reverse,0,r.reverse,il _ rfl]
end L2
namespace WL
variable[L2.GX]
open PySem L2
open Rep (rp)
open Ow (sl)
open Sls (rel)
section
variable{D:Type}[Sls D]{α:Type}[Rep α]
def LR{R:Rg}{H:Hp}:∀{xs:List α} {vs:List V},Paired (rp R H) xs vs->Paired (rp R H) xs.reverse vs.reverse:=by
 intro _ _ z
 induction z with
 |nil=>exact .nil
 |cons h t ih=>rw[oG,oG];exact yf ih<|.cons h .nil
def Y5{j:Nat}(h:ER X E T a i) :
  EO X E T (.Subscript a (.Slice none none (some<|.UnaryOp .USub (.Constant (.int 1) j N) O) P) pos) (cK i λ(e:OL α->D->Prop) g b=>e #[(g b).reverse] b):=by
 refine e1a2 h λS k l=>?_;refine#[_,Y4 k,λd F R m H e n Q s o r t=>?_];refine l d F R m H _ n _ s o (λg b u f v w x y c z=>?_) t;obtain⟨q,A,rfl,B,C⟩:=z b f v w 67 c;refine#[q,A,rfl,wI.of B,λp G=>?_];refine e1a3 (xW c G<|LR C) λI J L M=>?_;exact r _ b _ _ f I _ x (Ch.trans s c.tab y J) L M
end
end WL
namespace K7
instance gx0:L2.GX:=#[λ_ _ _=>True]
abbrev C:hJ:=574
abbrev XS:hJ:=44
abbrev XC:hJ:=56
abbrev XO:hJ:=80
abbrev XB:hJ:=68
abbrev XP:hJ:=92
abbrev XF0:hJ:=104
abbrev XV:hJ:=116
abbrev XF:hJ:=128
abbrev XT:hJ:=140
abbrev XN:hJ:=152
abbrev XL:hJ:=187
abbrev XR:hJ:=175
open PySem L2 WL
noncomputable def top(i:Nat):iH:=PySem.Challenge.pw_slimbody_k26_carried_up.main.body.getD i<|.Pass #[0,0,0,0]
noncomputable abbrev xy:iH:=top 16
noncomputable abbrev Fq:iH:=top 17
noncomputable abbrev HZ:iH:=top 19
def GV:Wf (List Int×Unit) Bool (Un×Unit):=λp a _=>a (asc p.1) (#[],())
def GY:Wf (Tp Int×Unit) Bool (Un×Unit):=λp a _=>a (asc p.1.l) (#[],())
def Ek(C:hJ):Wf (List Int×Unit) Unit (Un×Unit):=λp a b=>(asc p.1=true->a () (#[],()))/\(asc p.1=false->b C (#[],()))
def NC(C:hJ):Wf (Tp Int×Unit) Unit (Un×Unit):=λp a b=>(asc p.1.l=true->a () (#[],()))/\(asc p.1.l=false->b C (#[],()))
def ND:Wf (List (Tp Int)×Unit) (OL Int) (Un×Unit):=λp a _=>∃U:List Int,U.length<64/\(∀r∈p.1,w4 r.l/\∀x∈r.l,x∈U)/\a #[PU (p.1.map (·.l))] (#[],())
section
variable{P:iQ}{w:jf}{K:hO}{mg:Str->Option ci}{base:ja}{T:hJ}
def GZ:vp ["row"] ["row"] (vg xy):=#[rfl,rfl,rfl,q0s,rfl,q0s,q0s]
def LS{f c:hJ}{fd:iX}(F:za K "is_sum" "is_sum" xy f fd)(hc:fd.code=.ref c)(B:JP mg base c T)(Y6:mg "all"=none)(Y7:mg "zip"=none):vU P w K mg base (v4 P w) 1 f fd ["row"] (yM T GV):=by
 refine' vr (Xh (A:=List Int×Unit) (PO:=Un×Unit) (τ:=Bool) (D':=Unit) (ms:=[]) (j:=0) F GZ rfl rfl λA outer s H E hr=>?body) ?nice
 case body =>
  exact vj<|vB<|vG<|Ro (ss 0) (vO<|JU (v9<|ss 0) (HC vn) HB)<|λh=>JO a2H (c:=c) (P:=T) rfl #[hc,B.hd,B.blt] hr.depth rfl Y6 rfl Y7 h rfl rfl rfl q0s rfl rfl rfl q0s q0s q0s
 case nice =>
  intro p Kn Ke h
  walk_at "wl"
  rw[a0O];exact h
def LU{f c:hJ}{fd:iX}(F:za K "is_sum" "is_sum" xy f fd)(hc:fd.code=.ref c)(B:JP mg base c T)(Y6:mg "all"=none)(Y7:mg "zip"=none):vU P w K mg base (v4 P w) 1 f fd ["row"] (yM T GY):=by
 refine' vr (Xh (A:=Tp Int×Unit) (PO:=Un×Unit) (τ:=Bool) (D':=Unit) (ms:=[]) (j:=0) F GZ rfl rfl λA outer s H E hr=>?body) ?nice
 case body =>
  exact vj<|vB<|vG<|Rp (ss 0) (OS (ss 0) (HC vn) HB)<|λh=>JO a25 (c:=c) (P:=T) rfl #[hc,B.hd,B.blt] hr.depth rfl Y6 rfl Y7 h rfl rfl rfl q0s rfl rfl rfl q0s q0s q0s
 case nice =>
  intro p Kn Ke h
  walk_at "wl"
  rw[a0O];exact h
def NE:vp ["row"] ["row"] (vg Fq):=#[rfl,rfl,rfl,q0s,rfl,q0s,q0s]
def G0{b:Bool}(h:(b=true->p)/\(b=false->q)):if (!b)=true then q else p:=by
 cases b
 ·exact h.2 rfl
 ·exact h.1 rfl
def Sh{f C f1:hJ}{fd Xs:iX}{DV:List ci}{B newId yC:String}(F:za K "must_be_sum" "must_be_sum" Fq f fd)(F1:Fn K mg "is_sum" xy ["row"] f1 Xs)(G1:vU P w K mg base (v4 P w) 1 f1 Xs ["row"] (yM T GV))
  (hC:mg "NotASum"=↑(.ref C))(O:jC K C DV newId=true)(FB:kR B newId yC DV)(g0:∀H',GX.g C none H'):vU P w K mg base (v4 P w) 2 f fd ["row"] (yM T<|Ek C):=by
 refine' vr (DG (vP q0q) (A:=List Int×Unit) (PO:=Un×Unit) (D':=List Int×Unit) (ms:=[]) (j:=0) F NE rfl rfl λUi A outer s H E hr=>?body) ?nice
 case body =>
  exact vj<|vQ (tw_not<|tw_val<|vw<|Cn G1 hr rfl F1.at_ F1.fn.kp F1.bd BH<|vk (ss 0) vi) (vj<|E6<|EJ rfl hC O FB g0<|vq Hd vF) vK
 case nice =>
  intro p Kn Ke h
  walk_at "wl"
  exact G0 h
def Si{f C f1:hJ}{fd Xs:iX}{DV:List ci}{B newId yC:String}(F:za K "must_be_sum" "must_be_sum" Fq f fd)(F1:Fn K mg "is_sum" xy ["row"] f1 Xs)(G1:vU P w K mg base (v4 P w) 1 f1 Xs ["row"] (yM T GY))
  (hC:mg "NotASum"=↑(.ref C))(O:jC K C DV newId=true)(FB:kR B newId yC DV)(g0:∀H',GX.g C none H'):vU P w K mg base (v4 P w) 2 f fd ["row"] (yM T<|NC C):=by
 refine' vr (DG (vP q0q) (A:=Tp Int×Unit) (PO:=Un×Unit) (D':=Tp Int×Unit) (ms:=[]) (j:=0) F NE rfl rfl λUi A outer s H E hr=>?body) ?nice
 case body =>
  exact vj<|vQ (tw_not<|tw_val<|vw<|Cn G1 hr rfl F1.at_ F1.fn.kp F1.bd BH<|vk (ss 0) vi) (vj<|E6<|EJ rfl hC O FB g0<|vq Hd vF) vK
 case nice =>
  intro p Kn Ke h
  walk_at "wl"
  exact G0 h
def Kf:vp ["rows","odd","row","number"] ["rows"] (vg HZ):=#[rfl,rfl,rfl,q0s,rfl,q0s,q0s]
def Sj{f C f1:hJ}{fd Xs:iX}(F:za K "total" "total" HZ f fd)(F1:Fn K mg "must_be_sum" Fq ["row"] f1 Xs)(G1:vU P w K mg base (v4 P w) 2 f1 Xs ["row"] (yM T<|NC C))(a3g:mg "set"=none)(VU:mg "sorted"=none) :
  vU P w K mg base (v4 P w) 3 f fd ["rows"] (yM T ND):=by
 refine' vr (wK (A:=List (Tp Int)×Unit) (PO:=Un×Unit) (τ:=OL Int) (D':=Unit) (ms:=[]) (j:=3) F Kf rfl rfl λUi A outer s H E hr=>?body) ?nice
 case body =>
  have nd:=Kf.nd
  exact D9 (vP q0q) (vC 1 nd<|Vk (w:=w) rfl rfl a3g)
   (D9 (vP q0q) (wS (is:=[]) (mb:=[]) (D1:=List (Tp Int)×SI w×Tp Int×Un×Unit) (D2:=List (Tp Int)×SI w×Tp Int×Un×Unit) (vP q0q) yV rfl (wu (ss 0)) (vH 2 (vy nd))
    (D9 (vP q0q) (v6 (vw (Cn G1 hr rfl F1.at_ F1.fn.kp F1.bd BH 131)))
     (vj (wS (is:=[]) (mb:=[]) (D1:=List (Tp Int)×SI w×Tp Int×Int×Unit) (D2:=List (Tp Int)×SI w×Tp Int×Int×Unit) (vP q0q) yV rfl (Rr (ss 2)) (vH 3 (vy nd))
      (vj (vQ (tw_inS 1 (w:=w) rfl (ss 3) (pv 1) (by with_unfolding_all rfl))
       (vj<|Vm 1 (w:=w) rfl (ss 3)<|λh=>B5<|QQ PySem.F.slot_set_discard PySem.F.type_set_discard QP (pv 1) h)
       (vj (Vl 1 (w:=w) rfl (ss 3) (λh=>B5 (QQ PySem.F.slot_set_add PySem.F.type_set_add U1 (pv 1) h)))))) q0q q0q))) q0q q0q)
    (vj (vB (LB 1 (w:=w) rfl rfl rfl VU (pv 1)))))
 case nice =>
  intro p Kn Ke h
  walk_at "wl"
  obtain⟨U,hU,hr,hk⟩:=h;refine vY (λ(r:List (Tp Int)) (b:List (Tp Int)×SI w×Un×Un×Unit)=>w4 b.2.1.l/\(∀x∈b.2.1.l,x∈U)/\(r.map (·.l)).foldl xr b.2.1.l=PU (p.1.map (·.l))) p.1 #[iO,(λ_ h=>by cases h),rfl] ?_ ?_
  ·rintro x r b ⟨pre,e⟩ ⟨h1,h2,h3⟩ K hK;have hx:=hr x (by rw[e];simp);refine#[λ_=>?_,λz=>iq ((yg _).mpr hx.1)<|by rw[z];simp];refine vY (λ(q:List Int) (c:List (Tp Int)×SI w×Tp Int×Un×Unit)=>w4 c.2.1.l/\(∀y∈c.2.1.l,y∈U)/\q.foldl LC c.2.1.l=xr b.2.1.l x.l) x.l #[h1,h2,rfl] ?_ ?_
   ·rintro y q c ⟨a4F,e2⟩ ⟨g1,g2,g3⟩ K2 hK2;have hy:y∈x.l:=by rw[e2];simp
    have g3':q.foldl LC (LC c.2.1.l y)=xr b.2.1.l x.l:=g3;by_cases hc:y∈c.2.1.l
    ·rw[cr<|decide_eq_true hc];refine hK2 _ ⟨jF _ g1,λz hz=>g2 z (AJ.mp hz).1,?_⟩;rw[<- g3'];unfold LC;rw[cr hc]
    ·rw[hI<|by simpa using hc];refine⟨by have:=wO g1 g2;lia,hK2 _ ⟨Ea g1,λz hz=>?_,?_⟩⟩
     ·rcases Cu.mp hz with e3|e3
      ·rw[e3];exact hx.2 y hy
      ·exact g2 z e3
     ·rw[<- g3'];rw[show LC c.2.1.l y=Gg y c.2.1.l from hI hc]
   ·rintro c ⟨g1,g2,g3⟩;refine hK _ #[g1,g2,?_];rw[<- h3];show (r.map (·.l)).foldl xr c.2.1.l=(r.map (·.l)).foldl xr (xr b.2.1.l x.l);rw[<- g3];rfl
  ·rintro b ⟨h1,h2,h3⟩;refine#[by have:=wO h1 h2;lia,?_];have h3':b.2.1.l=PU (p.1.map (·.l)):=h3;rw[h3'];exact hk
end
open PySem L2 WL
abbrev B0:=Bd C true
noncomputable def wl(x:B0)(row:List Int):Bool:=row.all λc=>(lk x.rk c).isSome
noncomputable def wJ(x:B0)(c:Int):List Int:=(lk x.bd c).getD []
noncomputable def Y8(x:B0)(c:Int):List Int:=(x.rk.map (·.1)).filter λh=>decide<|c∈wJ x h
noncomputable def VW(x:B0)(row:List Int)(r:Int):Bool:=row.all λc=>decide<|lk x.rk c=↑r
structure Sk(x:B0):Prop where
 kb:∀k,(lk x.rk k).isSome=true->(lk x.bd k).isSome=true
 bo:∀k b,lk x.bd k=↑b->w4 b/\∀c∈b,0<=c/\c<63
 ri:(x.rk.map (·.1)).Pairwise (·<=·)
 lr:x.rk.length<64
 lb:x.bd.length<64
def CF :B0×Int×Unit->(Unit->B0×Un×Unit->Prop)->111->Prop:=λp a b =>
 if (72).isSome=true then a () 65 else b XC 65
def AR :B0×List Int×Unit->(Unit->B0×Un×Unit->Prop)->111->Prop:=λp Kn Ke =>
 if asc p.2.1=true then (if wl p.1 p.2.1=true then Kn () 65 else Ke XC 65) else Ke XS 65
def xZ :B0×List Int×Int×Unit->(Unit->B0×Un×Un×Unit->Prop)->(hJ->B0×Un×Un×Unit->Prop)->Prop:=λp Kn Ke =>
 wl p.1 p.2.1=true/\if VW p.1 p.2.1 p.2.2.1=true then Kn () 73 else Ke XO 73
def yw :B0×List Int×Unit->(OL Int->B0×Un×Unit->Prop)->111->Prop:=λp Kn Ke =>
 Sk p.1/\if asc p.2.1=true then (if wl p.1 p.2.1=true then Kn #[PU<|p.2.1.map<|wJ p.1] 65 else Ke XC 65) else Ke XS 65
def El:Wf (B0×Unit) (OL Int) (B0×Unit):=λp a _=>Sk p.1/\a #[p.1.rk.map (·.1)] (p.1,())
def H0 :B0×Int×Unit->(OL Int->B0×Un×Unit->Prop)->111->Prop:=λp a b =>
 Sk p.1/\if (72).isSome=true then a #[Y8 p.1 p.2.1] 65 else b XC 65
def Kg :B0×Int×List Int×Unit->(Int->B0×Un×Un×Unit->Prop)->(hJ->B0×Un×Un×Unit->Prop)->Prop:=λp b a =>
 Sk p.1/\lk p.1.bd p.1.up=none/\if p.2.1<0\/12<p.2.1 then a XB 73 else if asc p.2.2.1=true then (if wl p.1 p.2.2.1=true then (if VW p.1 p.2.2.1 (p.2.1-1)=true then
  (if PU (p.2.2.1.map (wJ p.1))=[] then b p.1.up ({ p.1 with rk:=pk p.1.rk p.1.up p.2.1,bd:=pk p.1.bd p.1.up p.2.2.1,up:=p.1.up+1},#[],#[],()) else a XP 73) else a XO 73) else a XC 73) else a XS 73
def Ia :B0×Int×Unit->(Unit->B0×Un×Unit->Prop)->111->Prop:=λp b a =>
 Sk p.1/\if (72).isSome=true then (if Y8 p.1 p.2.1=[] then b () ({ p.1 with rk:=dk p.1.rk p.2.1,bd:=dk p.1.bd p.2.1},#[],()) else a XV 65) else a XC 65
def VX(x:B0)(c:Int):Int:=(lk x.rk c).getD 0
def CG:Wf (B0×Int×Unit) Bool (B0×Un×Unit):=λp a _=>a (72).isSome 65
def CH:Wf (B0×Unit) Int (B0×Unit):=λp a _=>a p.1.up (p.1,())
def CI :B0×Int×Unit->(Int->B0×Un×Unit->Prop)->111->Prop:=λp a b =>
 if (72).isSome=true then a (VX p.1 p.2.1) 65 else b XC 65
def AS :B0×Int×Unit->(OL Int->B0×Un×Unit->Prop)->111->Prop:=λp Kn Ke =>
 Sk p.1/\if (72).isSome=true then Kn #[wJ p.1 p.2.1] 65 else Ke XC 65
def Ab{n k:Int}(h0:0<=k)(h1:k<n):k∈zb 0 n:=by exact List.mem_map.mpr #[k.toNat,List.mem_range.mpr q0a,q0a]
def Ac{k:Int}:∀{l:List (Int×c)},(lk l k).isSome=true->k∈l.map (·.1):=by
 intro b
 induction b with
 |nil=>intro h;cases h
 |cons e l a =>
  intro h;by_cases q:e.1=k
  ·rw[<- q];simp
  ·have:lk (e::l) k=lk l k:=by unfold lk;rw[je,iC q]
   rw[this]at h;exact hZ _<|a h
def xO{k:Int}:∀{l:List (Int×a)},k∈l.map (·.1)->(lk l k).isSome=true
 | [],h=>by cases h
 |e::l,h=>by
  by_cases q:e.1=k
  ·unfold lk;rw[je,decide_eq_true q];rfl
  ·have:lk (e::l) k=lk l k:=by unfold lk;rw[je,iC q]
   rw[this];rcases List.mem_cons.mp h with z|z
   ·exact iq z.symm q
   ·exact xO z
def Ft{x:B0}{c:Int}{r:List Int}:wl x (c::r)=((lk x.rk c).isSome&&wl x r):=by unfold wl;rw[qt]
def Sl{x:B0}{c k:Int}{r:List Int}:VW x (c::r) k=(decide (lk x.rk c=↑k)&&VW x r k):=by unfold VW;rw[qt]
def O9{x:B0}{row:List Int}(ok:Sk x)(ha:asc row=true)(h:wl x row=true):row.length<=hX:=by have:=wO (U:=x.rk.map (·.1)) ((yg row).mp ha) λc hc=>Ac<|List.all_eq_true.mp h c hc;rw[h8]at this;have:=ok.lr;exact wc q0a
def CJ{n:Nat}(h:n<1000):n<hX:=by have z:hX=16777216:=jk;lia
def BJ{x:B0}(ok:Sk x){c:Int}(h:(lk x.rk c).isSome=true):lk x.bd c=↑(wJ x c):=by obtain⟨v,hv⟩:=Option.isSome_iff_exists.mp<|ok.kb c h;unfold wJ;rw[hv];rfl
def a1c{x:B0}{c:Int}(h:(lk x.rk c).isSome=true):lk x.rk c=↑(VX x c):=by obtain⟨v,e⟩:=Option.isSome_iff_exists.mp h;unfold VX;rw[e];rfl
/-- g the f i the row b is d a -/
def wm{K:List d->S->Prop}(e:∀x∈c,∀K:Option d->S->Prop,(if q x=true then K ↑x s else K none s)->b x s K)(h:K (c.filter q) s):Ct b c s K:=by
 refine wv (f:=λx=>if q x=true then some x else none) (λx g K a=>e x g K ?_) (by rw[filterMap_filter];exact h);by_cases z:q x=true
 ·rw[cr z]at a ⊢;exact a
 ·rw[hI z]at a ⊢;exact a
section
variable{q:Cq} 
noncomputable abbrev Ad:iH:=Bl (top 28) 15
noncomputable abbrev Ae:List Str:=["self","cell"]
def Gi:vp ["self","cell"] Ae (vg Ad):=by walk_at "sc"
abbrev wP(q:Cq)(k:Nat):=zg q C "must_stand" Ae (CF) k
def Gj(F:za q.K "must_stand" "Body.must_stand" Ad f d)(c:Am q.K C)(a:Xc q.K q.mg "NoCell" XC):Gq q 2 f d Ae (CF):=by
 refine' vr (DG (vP q0q) (D':=(Bd C true)×Int×Unit) (ms:=[0]) (j:=0) F Gi rfl rfl λe A b s H E g =>
   (vj (vQ (tw_dIn .rk true 0 trivial c.cl c.nR (Cy g) (ss 1) (pv 0))
   (vj<|BI rfl a)
   vK))) λp i k h=>?_
 walk_at "wl"
 have h:if (72).isSome=true then i () 65 else k XC 65:=h
 cases q:(72).isSome with
 |true=>rw[q]at h;simpa using h
 |false=>rw[q]at h;simpa using h
noncomputable abbrev AT:iH:=Bl (top 28) 16
noncomputable abbrev AU:List Str:=["self","row"]
def CK:vp ["self","row","cell"] AU (vg AT):=by walk_at "sc"
abbrev zh(q:Cq)(k:Nat):=zg q C "must_hold" AU (AR) k
def Ib{f:hJ}{fd:iX}(F:za q.K "must_hold" "Body.must_hold" AT f fd)(ct:Am q.K C)(Gk:xn q "must_be_sum" ["row"] (Ek XS) 2)(xP:wP q 2):Gq q 3 f fd AU (AR):=by
 refine' vr (DG (vP q0q) (D':=(Bd C true)×(List Int)×Un×Unit) (ms:=[0]) (j:=1) F CK rfl rfl λUi A outer s H E hr =>
   (vz (v6 (vw (vA Gk 79)))
   (vj (wS (is:=[]) (mb:=[0]) (D1:=(Bd C true)×(List Int)×Int×Unit) (D2:=(Bd C true)×(List Int)×Int×Unit) (vP q0q) yV rfl (wu (ss 1)) (vH 2 (vy CK.nd))
   (vj (v6 (vw (v7 0 xP 131)))) q0q q0q)))) λp Kn Ke h=>?_
 walk_at "wl"
 have h:if asc p.2.1=true then (if wl p.1 p.2.1=true then Kn () 65 else Ke XC 65) else Ke XS 65:=h;refine#[λha=>?_,λha=>?_]
 ·have ha:asc p.2.1=true:=ha;rw[cr ha]at h;refine vY (λ(r:List Int)(b:B0×List Int×WL.Un×Unit)=>b.1=p.1/\if wl p.1 r=true then Kn () 65 else Ke XC 65) p.2.1 #[rfl,h] ?_ ?_
  ·rintro c r b _ ⟨e,hb⟩ K2 hK;rw[Ft]at hb;show if (lk b.1.rk c).isSome=true then K2 _ else Ke XC (b.1,#[],());rw[e]
   cases q:(lk p.1.rk c).isSome with
   |false=>rw[q]at hb;simpa using hb
   |true =>
    rw[q,Bool.true_and]at hb;rw[cr rfl];exact hK _ #[rfl,hb]
  ·rintro b ⟨e,hb⟩;rw[e];exact hb
 ·have ha:asc p.2.1=false:=ha;rw[hI<|by rw[ha];simp]at h;exact h
noncomputable abbrev x8:iH:=Bl (top 28) 17
noncomputable abbrev x9:List Str:=["self","row","rank"]
def zi:vp ["self","row","rank","cell"] x9 (vg x8):=by walk_at "sc"
abbrev Dk(q:Cq)(k:Nat):=zg q C "must_have_rank" x9 (xZ) k
def CL{f:hJ}{fd:iX}(F:za q.K "must_have_rank" "Body.must_have_rank" x8 f fd)(ct:Am q.K C)(Ki:Xc q.K q.mg "OtherRank" XO):Gq q 2 f fd x9 (xZ):=by
 refine' vr (DG (vP q0q) (D':=(Bd C true)×(List Int)×Int×Un×Unit) (ms:=[0]) (j:=1) F zi rfl rfl λUi A outer s H E hr =>
   (vj (wS (is:=[]) (mb:=[0]) (D1:=(Bd C true)×(List Int)×Int×Int×Unit) (D2:=(Bd C true)×(List Int)×Int×Int×Unit) (vP q0q) yV rfl (wu (ss 1)) (vH 3 (vy zi.nd))
   (vj (vQ (tw_cm EN (Ee .rk 0 trivial ct.cl ct.nR (Cy hr) (pv 0) (wC 3 (pv 3))) (ss 2))
   (vj<|BI rfl Ki)
   vK)) q0q q0q))) λp Kn Ke h=>?_
 walk_at "wl"
 refine vY (λ(r:List Int)(b:B0×List Int×Int×WL.Un×Unit)=>b.1=p.1/\b.2.2.1=p.2.2.1/\wl p.1 r=true/\if VW p.1 r p.2.2.1=true then Kn () 73 else Ke XO 73) p.2.1 #[rfl,rfl,h.1,h.2] ?_ ?_
 ·rintro c r b _ ⟨e1,e2,hi,hb⟩ K2 hK;rw[Ft,i7]at hi;rw[Sl]at hb;obtain⟨v,hv⟩:=Option.isSome_iff_exists.mp hi.1;refine#[v,by rw[e1];exact hv,?_];rw[hv]at hb;rw[e2];by_cases q:v=p.2.2.1
  ·rw[hI<|by simp[q]];refine hK _ #[e1,rfl,hi.2,?_];rw[q]at hb;simpa using hb
  ·rw[cr (by simp[q]),e1];rw[hI<|by simp[q]]at hb;exact hb
 ·rintro b ⟨e1,_,_,hb⟩;rw[e1];exact hb
noncomputable abbrev AV:iH:=Bl (top 28) 9
abbrev wX:List Str:=["self","row"]
def Ic:vp ["self","row"] wX (vg AV):=by walk_at "sc"
def Gm:(["cell","self"]:List Str).Nodup:=by decide +kernel
abbrev AW(q:Cq)(k:Nat):=zg q C "border_of" wX (yw) k
def Ie{f:hJ}{fd:iX}(F:za q.K "border_of" "Body.border_of" AV f fd)(ct:Am q.K C)(VY:xn q "total" ["rows"] ND 3)(Kj:zh q 3):Gq q 4 f fd wX (yw):=by
 refine' vr (wK (D':=Unit) (ms:=[0]) (j:=0) F Ic rfl rfl λUi A outer s H E hr =>
   (vz (v6 (vw (v7 0 Kj 79)))
   (vj (vB (vA VY (vk (vO (xg (Ts:=["cell"]) (Fr:=["self"]) (idx:=[0]) (k:=1) (mb:=[1]) (is:=[]) (cl:=[("self",⇑s+1)]) rfl (wu (ss 1)) RN rfl (wT rfl) (λs₀ H₀ C ex pn=>(vH 0 (vy Gm))) (λs₀ H₀ C ex pn=>tws_nil) (λs₀ H₀ C ex pn=>(Bk 1 ct.cl ct.nB (Cy hr) (pv 1) (wC 0 (pv 0)))))) vi)))))) λp Kn Ke h=>?_
 walk_at "wl"
 obtain⟨ok,h⟩:=h;show if asc p.2.1=true then (if wl p.1 p.2.1=true then _ else Ke XC 65) else Ke XS 65;by_cases ha:asc p.2.1=true
 ·rw[cr ha]at h ⊢;by_cases hb:wl p.1 p.2.1=true
  ·rw[cr hb]at h ⊢
   have lkb:∀c∈p.2.1,lk p.1.bd c=↑(wJ p.1 c):=λc hc=>by obtain⟨v,hv⟩:=Option.isSome_iff_exists.mp<|ok.kb c<|List.all_eq_true.mp hb c hc;unfold wJ;rw[hv];rfl
   refine#[O9 ok ha hb,wv (f:=λc=>some<|Tp.mk<|wJ p.1 c) (λc hc K hk=>#[wJ p.1 c,lkb c hc,hk]) ?_];refine#[zb 0 63,by rw[xf];decide,λr hr=>?_,?_]
   ·obtain⟨c,hc,e⟩:=List.mem_filterMap.mp hr;cases e;obtain⟨g1,g2⟩:=ok.bo c _<|lkb c hc;exact⟨g1,λx hx=>Ab (g2 x hx).1 (g2 x hx).2⟩
   ·have e:((p.2.1.filterMap λc=>some<|Tp.mk<|wJ p.1 c).map (·.l))=p.2.1.map (wJ p.1):=by rw[show (λc=>some<|Tp.mk<|wJ p.1 c)=some∘(λc=>Tp.mk<|wJ p.1 c) from rfl,List.filterMap_eq_map,kJ];rfl
    rw[e];exact h
  ·rw[hI hb]at h ⊢;exact h
 ·rw[hI ha]at h ⊢;exact h
noncomputable abbrev Ig:iH:=Bl (top 28) 4
noncomputable abbrev zj:List Str:=["self"]
def Sn:vp ["self"] zj (vg Ig):=by walk_at "sc"
abbrev NF(q:Cq)(k:Nat):=zg q C "cells" zj (El) k
def So(F:za q.K "cells" "Body.cells" Ig f d)(b:Am q.K C)(B:Bn q.mg):Gq q 2 f d zj (El):=by
 refine' vr (wK (D':=Unit) (ms:=[0]) (j:=0) F Sn rfl rfl λe A a s H E g =>
   (vj (vB (E9 .rk 0 trivial b.cl b.nR rfl rfl B.sorted (pv 0))))) λp i k h=>?_
 walk_at "wl"
 obtain⟨c,h⟩:=h;exact#[c.lr,by rw[<- EL (o7 _) c.ri];exact h]
noncomputable abbrev LV:iH:=Bl (top 28) 8
abbrev AX:List Str:=["self","cell"]
def VZ:vp ["self","cell"] AX (vg LV):=by walk_at "sc"
def Sq:(["high","cell","self"]:List Str).Nodup:=by decide +kernel
abbrev Y9(q:Cq)(k:Nat):=zg q C "over" AX (H0) k
def V0(F:za q.K "over" "Body.over" LV f u)(m:Am q.K C)(a:wP q 3)(b:NF q 3):Gq q 4 f u AX (H0):=by
 refine' vr (wK (D':=Unit) (ms:=[0]) (j:=0) F VZ rfl rfl λw A i s H E x =>
   (vz (v6 (vw (v7 0 a 79)))
   (vj (vB (xg (Ts:=["high"]) (Fr:=["cell","self"]) (idx:=[1,0]) (k:=1) (mb:=[1,2]) (is:=[]) (cl:=[("self",⇑s+1),("cell",⇑s+1+1)]) rfl (wu (vO (DL 0 b))) bs2 rfl (wT rfl) (λc d C n o=>(vH 0 (vy Sq))) (λc d C n o=>(tws_one (tw_inT (ss 1) (Bk 2 m.cl m.nB (Cy x) (pv 2) (wC 0 (pv 0))) (by with_unfolding_all rfl)))) (λc d C n o=>(ss 0))))))) λp B y h=>?_
 walk_at "wl"
 obtain⟨l,h⟩:=h;show if (72).isSome=true then _ else y XC 65;by_cases r:(72).isSome=true
 ·rw[cr r]at h ⊢;refine#[l,?_,?_]
  ·show (p.1.rk.map (·.1)).length<=hX;rw[h8];have:=l.lr;exact wc q0a
  ·refine wv (f:=λk=>if decide (p.2.1∈wJ p.1 k)=true then some k else none) (λk z K g=>?_) ?_
   ·obtain⟨v,t⟩:=Option.isSome_iff_exists.mp<|l.kb k<|xO z;have e:wJ p.1 k=v:=by unfold wJ;rw[t];rfl
    refine#[v,t,?_];rw[e]at g;show if decide (p.2.1∈v)=true then _ else _;by_cases q:decide (p.2.1∈v)=true
    ·rw[cr q]at g ⊢;exact g
    ·rw[hI q]at g ⊢;exact g
   ·rw[filterMap_filter];exact h
 ·rw[hI r]at h ⊢;exact h
noncomputable abbrev Sr:iH:=Bl (top 28) 1
noncomputable abbrev DM:List Str:=["self","rank","border"]
def Ss:vp ["self","rank","border","cell"] DM (vg Sr):=by walk_at "sc"
abbrev a1d(q:Cq)(k:Nat):=zg q C "put" DM (Kg) k
def Za(F:za q.K "put" "Body.put" Sr f R)(o:Am q.K C)(e:zh q 5)(b:Dk q 5)(g:AW q 5)(k:Xc q.K q.mg "BadRank" XB)(t:Xc q.K q.mg "Full" XF0)(c:Xc q.K q.mg "OpenBorder" XP)(d:q.mg "MOST_CELLS"=↑(.int 120 r))(i:q.mg "TOP_RANK"=↑(.int 12 u))(B:Bn q.mg):Gq q 6 f R DM (Kg):=by
 refine' vr (wK (D':=Unit) (ms:=[0]) (j:=1) F Ss rfl rfl λS A I s H E O =>
   (vz (vQ (tw_w (AH (tw_cm Q2 (ss 1) vn) (zY (tw_cm Xj (ss 1) (RA rfl i)))))
   (vj<|BI rfl k)
   vK)
   (vz (v6 (vw (v7 0 e 131)))
   (vz (v6 (vw (v7 0 b (vk (ss 2) (vk (Bc KQ (ss 1) vn) vi)))))
   (vz (vQ (tw_trueO (v7 0 g 131))
   (vj<|BI rfl c)
   vK)
   (vz (vQ (tw_cm Xk (Vq .rk 0 trivial o.cl o.nR rfl B.len (pv 0)) (RA rfl d))
   (vj<|BI rfl t)
   vK)
   (vz (vC 3 Ss.nd (vG (Xn 0 o.cl o.nU (pv 0))))
   (vz (HL .rk 0 trivial o.cl o.nR (Cy O) (pv 0) (wC 3 (pv 3)) (ss 1))
   (vz (Vs 0 o.cl o.nB (Cy O) (pv 0) (wC 3 (pv 3)) (Vu rfl B.tuple (v9 (ss 2))))
   (vz (a0P 0 o.cl o.nU (pv 0) (Bc Aw (ss 3) vn))
   (vj (vB (vG (ss 3)))))))))))))) λp P m h=>?_
 walk_at "wl"
 obtain⟨J,L,h⟩:=h
 have M:(if asc p.2.2.1=true then (if wl p.1 p.2.2.1=true then (if VW p.1 p.2.2.1 (p.2.1-1)=true then
  (if PU (p.2.2.1.map (wJ p.1))=[] then P p.1.up ({ p.1 with rk:=pk p.1.rk p.1.up p.2.1,bd:=pk p.1.bd p.1.up p.2.2.1,up:=p.1.up+1},#[],#[],()) else m XP 73) else m XO 73) else m XC 73) else m XS 73) ->
  AR (p.1,p.2.2.1,()) (λy v=>xZ (v.1,p.2.2.1,p.2.1-1,()) (λy w=>yw (w.1,p.2.2.1,()) (λy a =>
   if (!y.l.isEmpty)=true then m XP (a.1,#[],#[],()) else if decide (120<=(a.1.rk.length:Int))=true then m XF0 (a.1,#[],#[],()) else a.1.rk.length<hX/\a.1.bd.length<hX/\lk a.1.bd a.1.up=none /\
    P a.1.up ({ a.1 with rk:=pk a.1.rk a.1.up p.2.1,bd:=pk a.1.bd a.1.up p.2.2.1,up:=a.1.up+1},#[],#[],()))
   λn v=>m n (v.1,#[],#[],())) λn v=>m n (v.1,#[],#[],())) λn v=>m n (v.1,#[],#[],()):=by
  intro h;show if asc p.2.2.1=true then (if wl p.1 p.2.2.1=true then _ else m XC 73) else m XS 73;by_cases N:asc p.2.2.1=true
  ·rw[cr N]at h ⊢;by_cases x:wl p.1 p.2.2.1=true
   ·rw[cr x]at h ⊢;refine#[x,?_];by_cases Q:VW p.1 p.2.2.1 (p.2.1-1)=true
    ·rw[cr Q]at h ⊢;refine#[J,?_];rw[cr N,cr x];by_cases hd:PU (p.2.2.1.map<|wJ p.1)=[]
     ·rw[cr hd]at h;have T:=J.lr;have U:=J.lb;have z:hX=16777216:=jk;rw[hd,hI q0o,hI<|by simp;lia];exact#[(by show p.1.rk.length<hX;lia),(by show p.1.bd.length<hX;lia),L,h]
     ·rw[hI hd]at h;rw[cr<|by simpa using hd];exact h
    ·rw[hI Q]at h ⊢;exact h
   ·rw[hI x]at h ⊢;exact h
  ·rw[hI N]at h ⊢;exact h
 by_cases D:p.2.1<0
 ·rw[cr<|decide_eq_true D,cr rfl];rw[cr<|.inl D]at h;exact h
 ·rw[hI<|by simpa using D];by_cases G:12<p.2.1
  ·rw[cr<|decide_eq_true G];rw[cr<|.inr G]at h;exact h
  ·rw[hI<|by simpa using G];rw[hI (by intro z;rcases z with z|z;exact D z;exact G z)]at h;exact M h
noncomputable abbrev LW:iH:=Bl (top 28) 2
abbrev AY:List Str:=["self","cell"]
def V1:vp ["self","cell"] AY (vg LW):=by walk_at "sc"
def V2(F:za q.K "take" "Body.take" LW f m)(d:Am q.K C)(c:Y9 q 5)(b:Xc q.K q.mg "Covered" XV):Gq q 6 f m AY (Ia):=by
 refine' vr (DG (vP q0q) (D':=(Bd C true)×Int×Unit) (ms:=[0]) (j:=0) F V1 rfl rfl λn A g s H E o =>
   (vz (vQ (tw_trueO (v7 0 c 79))
   (vj<|BI rfl b)
   vK)
   (vz (Nq .rk 0 trivial d.cl d.nR (pv 0) (wC 1 (pv 1)) (λi k=>Hl i k))
   (vj (Vt 0 d.cl d.nB (pv 0) (wC 1 (pv 1)) (λi k=>Hl i k)))))) λp t u h=>?_
 walk_at "wl"
 obtain⟨l,h⟩:=h;refine#[l,?_];by_cases e:(72).isSome=true
 ·rw[cr e]at h ⊢
  cases q:Y8 p.1 p.2.1 with
  |nil =>
   rw[q,cr rfl]at h;exact#[e,l.kb _ e,h]
  |cons a r =>
   rw[q,hI q0o]at h;exact h
 ·rw[hI e]at h ⊢;exact h
abbrev Fv:iH:=Bl (top 28) 3
abbrev yx:List Str:=["self","cell"]
def Pa:vp ["self","cell"] yx (vg Fv):=by walk_at "sc"
abbrev Su(q:Cq)(k:Nat):=zg q C "stands" yx (CG) k
def Pb(F:za q.K "stands" "Body.stands" Fv f c)(b:Am q.K C):Gq q 2 f c yx (CG):=by
 refine' vr (wK (D':=Unit) (ms:=[0]) (j:=0) F Pa rfl rfl λd A a s H E e =>
   (vj (vB (vG (LD .rk false 0 trivial b.cl b.nR (Cy e) (ss 1) (pv 0)))))) λp g i h=>?_
 walk_at "wl"
 exact h
abbrev Fw:iH:=Bl (top 28) 5
abbrev yy:List Str:=["self"]
def Pc:vp ["self"] yy (vg Fw):=by walk_at "sc"
abbrev Sv(q:Cq)(k:Nat):=zg q C "coming" yy (CH) k
def Pd(F:za q.K "coming" "Body.coming" Fw f c)(b:Am q.K C):Gq q 2 f c yy (CH):=by
 refine' vr (wK (D':=Unit) (ms:=[0]) (j:=0) F Pc rfl rfl λd A a s H E e =>
   (vj (vB (vG (Xn 0 b.cl b.nU (pv 0)))))) λp g i h=>?_
 walk_at "wl"
 exact h
abbrev Ih:iH:=Bl (top 28) 6
abbrev zk:List Str:=["self","cell"]
def Sw:vp ["self","cell"] zk (vg Ih):=by walk_at "sc"
abbrev V3(q:Cq)(k:Nat):=zg q C "rank" zk (CI) k
def Sy(F:za q.K "rank" "Body.rank" Ih f e)(c:Am q.K C)(a:wP q 2):Gq q 3 f e zk (CI):=by
 refine' vr (wK (D':=Unit) (ms:=[0]) (j:=0) F Sw rfl rfl λg A b s H E i =>
   (vz (v6 (vw (v7 0 a 79)))
   (vj (vB (vG (Ee .rk 0 trivial c.cl c.nR (Cy i) (pv 0) (wC 1 (pv 1)))))))) λp k d h=>?_
 walk_at "wl"
 have h:if (72).isSome=true then k (VX p.1 p.2.1) 65 else d XC 65:=h;show if (72).isSome=true then _ else d XC 65;by_cases q:(72).isSome=true
 ·rw[cr q]at h ⊢;exact#[_,a1c q,h]
 ·rw[hI q]at h ⊢;exact h
noncomputable abbrev Fx:iH:=Bl (top 28) 7
abbrev yz:List Str:=["self","cell"]
def Pe:vp ["self","cell"] yz (vg Fx):=by walk_at "sc"
abbrev Kk(q:Cq)(k:Nat):=zg q C "border" yz (AS) k
def Pf{f:hJ}{fd:iX}(F:za q.K "border" "Body.border" Fx f fd)(ct:Am q.K C)(xP:wP q 2)(B:Bn q.mg):Gq q 3 f fd yz (AS):=by
 refine' vr (wK (D':=Unit) (ms:=[0]) (j:=0) F Pe rfl rfl λUi A outer s H E hr =>
   (vz (v6 (vw (v7 0 xP 79)))
   (vj (vB (Rz rfl B.list (Bk 0 ct.cl ct.nB (Cy hr) (pv 0) (wC 1 (pv 1)))))))) λp Kn Ke h=>?_
 walk_at "wl"
 obtain⟨ok,h⟩:=h;show if (72).isSome=true then _ else Ke XC 65;by_cases q:(72).isSome=true
 ·rw[cr q]at h ⊢;exact#[_,BJ ok q,h]
 ·rw[hI q]at h ⊢;exact h
end
noncomputable def wU(x:B0)(c:Int):Bool:=(lk x.ht c).isSome||(lk x.th c).isSome
noncomputable def CM(x:B0)(low high:Int):List Int:=(wJ x high).filter λf=>decide (f≠low)&&(lk x.ht f).isSome
noncomputable def wA(x:B0)(t:Int):Int:=(lk x.ht t).getD 0
noncomputable def wj(x:B0):List Int:=x.ht.map (·.1)
def ZH(x:B0):Prop:=∃r:Int->Nat,∀l∈wj x,∀t∈CM x l (wA x l),r l<r t
structure Bo(x:B0):Prop where
 ok:Sk x
 nd:(wj x).Nodup
 len:x.ht.length<64
 a1e:x.th.length<64
 ht:∀l h,lk x.ht l=↑h->(lk x.rk l).isSome=true/\(lk x.rk h).isSome=true/\l∈wJ x h/\lk x.th h=↑l
 th:∀l h,lk x.th h=↑l->lk x.ht l=↑h
 one:∀c,(lk x.ht c).isSome=true->(lk x.th c).isSome=true->False
 acy:ZH x
noncomputable def FW(x:B0)(low high:Int):B0:={ x with ht:=pk x.ht low high,th:=pk x.th high low}
def G4:Wf (B0×Int×Unit) Bool (B0×Un×Unit):=λp a _=>a (wU p.1 p.2.1) 65
def Ii:Wf (B0×Int×Int×Unit) (OL Int) (B0×Un×Un×Unit):=λp a _ =>
 (lk p.1.bd p.2.2.1).isSome=true/\(wJ p.1 p.2.2.1).length<=hX/\a #[CM p.1 p.2.1 p.2.2.1] 73
def NG:Wf (B0×Unit) (OL Int) (B0×Unit):=λp a _=>p.1.ht.length<64/\(wj p.1).Nodup/\a #[Bx<|wj p.1] (p.1,())
def Kl:Wf (B0×Unit) (OL<|Int×Int) (B0×Unit):=λp a _=>p.1.ht.length<64/\(wj p.1).Nodup/\a #[(Bx<|wj p.1).map λl=>(l,wA p.1 l)] (p.1,())
def G6 :B0×Int×Unit->(Option Int->B0×Un×Unit->Prop)->111->Prop:=λp a b =>
 if (72).isSome=true then a (lk p.1.ht p.2.1) 65 else b XC 65
def Ij :B0×Int×Unit->(Int->B0×Un×Unit->Prop)->111->Prop:=λp b a =>
 Bo p.1/\if (72).isSome=true then (if (lk p.1.ht p.2.1).isSome=true then b (wA p.1 p.2.1) ({ p.1 with ht:=dk p.1.ht p.2.1,th:=dk p.1.th (wA p.1 p.2.1)},#[],()) else a XN 65) else a XC 65
def zI:Wf (Dc (Option Int)×Int×Unit) (OL Int) (Dc (Option Int)×Un×Unit):=λp a _ =>
 (∃m:Int->Nat,(∀k,m k<1000)/\(lk p.1.l p.2.1).isSome=true/\∀k e,lk p.1.l k=↑(some e)->(lk p.1.l e).isSome=true/\m e<m k)/\∀r:List Int,r≠[]->a #[r] 65
def DN:Wf (B0×Int×Int×Unit) (OL Int) (B0×Un×Un×Unit):=λp a _ =>
 Bo p.1/\(lk p.1.rk p.2.2.1).isSome=true/\wU p.1 p.2.1=false/\wU p.1 p.2.2.1=false/\∀r:List Int,(r=[]->ZH (FW p.1 p.2.1 p.2.2.1))->a #[r] 73
def Sz :B0×Int×Int×Unit->(Unit->B0×Un×Un×Unit->Prop)->(hJ->B0×Un×Un×Unit->Prop)->Prop:=λp b a =>
 Bo p.1/\if (72).isSome=true then (if (lk p.1.rk p.2.2.1).isSome=true then (if p.2.1∈wJ p.1 p.2.2.1 then (if wU p.1 p.2.1=true\/wU p.1 p.2.2.1=true then a XT 73
  else a XR 73/\(ZH (FW p.1 p.2.1 p.2.2.1)->b () (FW p.1 p.2.1 p.2.2.1,#[],#[],()))) else a XF 73) else a XC 73) else a XC 73
structure Ord(x:B0)(o:List Int):Prop where
 pm:o.Perm (wj x)
 up:o.Pairwise λa b=>a∉CM x b (wA x b)
def NH:Wf (B0×Unit) (OL Int) (B0×Unit):=λp a _=>Bo p.1/\∀o,Ord p.1 o->a #[o] (p.1,())
noncomputable def Dl(x:B0)(s:List Int×List Int)(t:Int):List Int×List Int:=if t∈s.1 then (xr s.1<|wJ x<|wA x t,s.2++[wA x t]) else s
def xz{j:Int}:lk (e::l) j=if e.1=j then some e.2 else lk l j:=by
 by_cases q:e.1=j
 ·rw[cr q];unfold lk;rw[je,decide_eq_true q];rfl
 ·rw[hI q];unfold lk;rw[je,iC q]
def LX{k j:Int}:∀{l:List (Int×c)},lk l k=none->lk (l++[(k,v)]) j=if j=k then some v else lk l j:=by
 intro b
 induction b with
 |nil =>
  intro _;rw[nQ,xz];by_cases q:j=k
  ·rw[cr q,cr q.symm]
  ·rw[hI q,hI<|λz=>q z.symm]
 |cons e l a =>
  intro h;rw[xz]at h;by_cases z:e.1=k
  ·rw[cr z]at h;cases h
  ·rw[hI z]at h;rw[List.cons_append,xz,xz,a h];by_cases q:e.1=j
   ·rw[cr q,cr q,hI<|λw=>z<|q.trans w]
   ·rw[hI q,hI q]
def Af{k:Int}(h:lk l k=none):pk l k v=l++[(k,v)]:=by unfold pk;rw[h];rfl
def CN{k j:Int}:∀{l:List (Int×d)},lk (dk l k) j=if j=k then none else lk l j:=by
 intro c
 induction c with
 |nil=>unfold dk;rw[List.filter_nil];split<;>rfl
 |cons e l a =>
  have b:=a;unfold dk at b ⊢;rw[jK];by_cases z:e.1=k
  ·rw[hI (by simpa using z),b,xz];by_cases q:j=k
   ·rw[cr q,cr q]
   ·rw[hI q,hI q,hI<|λw=>q<|w.symm.trans z]
  ·rw[cr (by simpa using z),xz,xz,b];by_cases q:e.1=j
   ·rw[cr q,cr q,hI<|λw=>z<|q.trans w]
   ·rw[hI q,hI q]
def Zb{k j:Int}:∀{l:List (Int×c)},lk (l.map λe=>if e.1=k then (e.1,v) else e) j=if j=k then (if (lk l k).isSome=true then some v else none) else lk l j:=by
 intro b
 induction b with
 |nil=>simp[lk]
 |cons e l a =>
  rw[iJ,xz,a,xz,xz];by_cases z:e.1=k
  ·rw[cr z,cr z];by_cases q:j=k
   ·subst q;simp[z]
   ·have:¬e.1=j:=λw=>q<|w.symm.trans z;simp[q,this]
  ·rw[hI z,hI z];by_cases q:e.1=j
   ·have:¬j=k:=λw=>z<|q.trans w;simp[q,this]
   ·simp[q]
def yI{k j:Int}:lk (pk l k v) j=if j=k then some v else lk l j:=by
 unfold pk
 cases q:(lk l k).isSome with
 |true=>rw[cr rfl,Zb,q];simp
 |false =>
  rw[hI q0o,LX<|by simpa using q]
def NI{a:Type}{l:List (Int×a)}{k:Int}(h:k∉l.map (·.1)):lk l k=none:=by
 cases e:lk l k with
 |none=>rfl
 |some v=>exact iq (Ac<|by rw[e];rfl) h
def AZ{a:Type}{k:Int}{l:List (Int×a)}:(lk l k).isSome=true↔k∈l.map (·.1):=#[Ac,xO]
def NJ{c t:Int}:∀{l:List Int},t∈l->lk (l.map λk=>(k,c)) t=↑c
 |a::l,h=>by
  rw[iJ,xz];by_cases q:a=t
  ·rw[cr q]
  ·rw[hI q];exact NJ<|(List.mem_cons.mp h).elim (λz=>iq z.symm q) id
def DO{b:Type}{p q:b->Bool}(h:∀t,q t=true->p t=true):∀{l:List b},(l.filter q).length<=(l.filter p).length
 | []=>hV _
 |a::l=>by
  have:=DO h (l:=l);rw[jK,jK];by_cases z:q a=true
  ·rw[cr z,cr<|h a z];simpa using this
  ·rw[hI z];split<;>simp<;>lia
def filter_lt{b:Type}{p q:b->Bool}(h:∀t,q t=true->p t=true){x:b}(c:p x=true)(d:q x=false):∀{l:List b},x∈l->(l.filter q).length+1<=(l.filter p).length
 |a::l,m=>by
  rw[jK,jK];rcases List.mem_cons.mp m with z|z
  ·subst z;rw[d,c,hI q0o,cr rfl];have:=DO h (l:=l);simp;lia
  ·have:=filter_lt h c d z;by_cases w:q a=true
   ·rw[cr w,cr<|h a w];simp;lia
   ·rw[hI w];split<;>simp<;>lia
def SA{r:Int->Nat}{t:Int}:∀{l:List Int},t∈l->r t<=(l.map r).sum
 |a::l,h=>by
  rw[iJ,List.sum_cons];rcases List.mem_cons.mp h with z|z
  ·rw[z];lia
  ·have:=SA (r:=r) z;lia
section
variable{x:B0}
def wV{l:Int}(h:l∈wj x):lk x.ht l=↑(wA x l):=by obtain⟨v,e⟩:=Option.isSome_iff_exists.mp<|xO h;unfold wA;rw[e];rfl
def xB{l h t:Int}:t∈CM x l h↔t∈wJ x h/\t≠l/\t∈wj x:=by unfold CM wj;rw[js,i7,i9,AZ]
def Bo.Hy(a:Bo x){l:Int}(h:l∈wj x):(lk x.rk<|wA x l).isSome=true:=(a.ht l _<|wV h).2.1
def Bo.bl(a:Bo x){c:Int}(h:(lk x.rk c).isSome=true):(wJ x c).length<=hX:=by
 have:=(a.ok.bo c _<|BJ a.ok h);have:=wO (U:=zb 0 63) this.1 λk b=>Ab (this.2 k b).1 (this.2 k b).2;have e:(zb 0 63).length=63:=by decide
 exact wc q0a
def V4{low high:Int}{V:List Int}(v:Bo x)(o:low∉wj x)(f:low∈V)(D:∀k∈V,k≠low->k∈wj x)
 (p:∀k∈V,(k≠low->low∉wJ x (wA x k))/\∀t∈CM x k (if k=low then high else wA x k),t∈V):ZH (FW x low high):=by
  obtain⟨r,u⟩:=v.acy
  have c:∀{t:Int},t∈wj (FW x low high)↔t=low\/t∈wj x:=λ{t}=>by
    show t∈(pk x.ht low high).map (·.1)↔_
    rw[<- AZ,yI]
    by_cases q:t=low
    · simp[q]
    · rw[hI q, AZ]; simp[q, wj]
  have y:∀l,wA (FW x low high) l=if l=low then high else wA x l:=λl=>by
    unfold wA FW
    rw[yI]
    split<;>rfl
  have A:∀{l h t:Int},t∈CM (FW x low high) l h↔t∈wJ x h/\t≠l/\(t=low\/t∈wj x):=λ{l h t}=>by
    rw[xB,c];exact Iff.rfl
  refine#[λt=>if t∈V then (if t=low then ((wj x).map r).sum+1 else ((wj x).map r).sum+2+r t) else r t,λl g t a=>?_]
  rw[y]at a
  have a:=A.mp a
  have i:∀k,k∈wj x->r k<=((wj x).map r).sum:=λk B=>SA B
  dsimp only
  by_cases b:l=low
  · subst b
    rw[cr rfl]at a
    rw[cr f,cr rfl]
    have C:t∈wj x:=a.2.2.elim (λz=>iq z a.2.1) id
    have e:t∈V:=(p l f).2 t (by rw[cr rfl];exact xB.mpr #[a.1,a.2.1,C])
    rw[cr e,hI a.2.1]
    lia
  · rw[hI b]at a
    have j:l∈wj x:=(c.mp g).elim (λz=>iq z b) id
    by_cases m:l∈V
    · rw[cr m, hI b]
      have d:=p l m
      rw[hI b]at d
      rcases a.2.2 with z|z
      · rw[z]at a; exact iq a.1<|d.1 b
      · have s : t ∈ CM x l (wA x l) := xB.mpr #[a.1, a.2.1, z]
        have:=u l j t s
        have n:t≠low:=λw=>o<|w▸z
        rw[cr<|d.2 t s,hI n]
        lia
    · rw[hI m]
      have:=i l j
      rcases a.2.2 with z|z
      · subst z
        rw[cr f,cr rfl]
        lia
      · have s : t ∈ CM x l (wA x l) := xB.mpr #[a.1, a.2.1, z]
        have:=u l j t s
        have n:t≠low:=λw=>o<|w▸z
        by_cases e:t∈V
        · rw[cr e, hI n]; lia
        · rw[hI e]; lia
noncomputable def PX(x:B0)(e:List (Int×Option Int)):Nat:=((wj x).filter λt=>!(lk e t).isSome).length
structure Rw(x:B0)(low:Int)(e:List (Int×Option Int))(ws:List Int)(D:Int->List (Int×Option Int)->Prop):Prop where
 lo:(lk e low).isSome=true
 tl:∀k,(lk e k).isSome=true->k≠low->k∈wj x
 wk:∀k∈ws,(lk e k).isSome=true
 dn:∀k,(lk e k).isSome=true->k∉ws->D k e
 ch:∃mm:Int->Nat,(∀k,mm k<=e.length)/\∀k t,lk e k=↑(some t)->(lk e t).isSome=true/\mm t<mm k
 sz:e.length+PX x e<=64
def Rw.add{low:Int}{a t0:Int}(R:Rw x low e p D)(m:a∈wj x)(d:lk e a=none)(i:(lk e t0).isSome=true)(b:∀k,(lk e k).isSome=true->D k e->D k (pk e a<|↑t0)) :
  Rw x low (pk e a<|↑t0) (p++[a]) D/\PX x (pk e a<|↑t0)+1<=PX x e:=by
 have r:PX x (pk e a<|↑t0)+1<=PX x e:=by
  refine filter_lt (x:=a) (λt h=>?_) (by rw[d];rfl) (by rw[yI,cr rfl];rfl) m;rw[yI]at h;by_cases q:t=a
  ·rw[cr q]at h;simp at h
  ·rw[hI q]at h;exact h
 have f:∀k,(lk e k).isSome=true->(lk (pk e a<|some t0) k).isSome=true:=λk h=>by
  rw[yI];split
  ·rfl
  ·exact h
 have j:∀k,k≠a->lk (pk e a<|some t0) k=lk e k:=λk h=>by rw[yI,hI h]
 have c:(pk e a<|↑t0).length=e.length+1:=by rw[Af d];simp
 refine#[#[f _ R.lo,λk h n=>?_,λk h=>?_,λk h n=>?_,?_,by rw[c];have:=R.sz;lia],r]
 ·by_cases q:k=a
  ·rw[q];exact m
  ·rw[j k q]at h;exact R.tl k h n
 ·rcases List.mem_append.mp h with z|z
  ·exact f _<|R.wk k z
  ·rw[List.mem_singleton.mp z,yI,cr rfl];rfl
 ·have q:k≠a:=λz=>n (by rw[z];simp);rw[j k q]at h;exact b k h<|R.dn k h λz=>n<|jo _ z
 ·obtain⟨s,o,u⟩:=R.ch;refine#[λk=>if k=a then e.length+1 else s k,λk=>?_,λk t h=>?_]
  ·rw[c];dsimp only;split
   ·exact hV _
   ·have:=o k;lia
  ·by_cases q:k=a
   ·rw[q,yI,cr rfl]at h;injection h with h;injection h with h;subst h;have l:t0≠a:=λz=>by rw[z,d]at i;cases i
    refine#[f _ i,?_];dsimp only;rw[cr q,hI l];have:=o t0;lia
   ·rw[j k q]at h;have g:=u k t h;have l:t≠a:=λz=>by rw[z,d]at g;cases g.1
    refine#[f _ g.1,?_];dsimp only;rw[hI q,hI l];exact g.2
def NK(x:B0)(low high:Int)(k:Int)(e:List (Int×Option Int)):Prop:=(k≠low->low∉wJ x (wA x k))/\∀t∈CM x k (if k=low then high else wA x k),(lk e t).isSome=true
def SE{low high:Int}(b:Bo x):Rw x low [(low,none)] [low] (NK x low high):=by
 have a:∀k,(lk ([(low,none)]:List (Int×Option Int)) k).isSome=true->k=low:=λk h=>by have:=Ac h;simpa using this
 refine#[xO q0o,λk h n=>iq (a k h) n,λk h=>xO (by simpa using h),λk h n=>iq (a k h) (by simpa using n),#[λ_=>0,λ_=>jp _,λk t h=>?_],?_]
 ·rw[xz]at h;by_cases q:low=k
  ·rw[cr q]at h;cases h
  ·rw[hI q]at h;cases h
 ·have:=b.len;have g:PX x [(low,none)]<=(wj x).length:=iL _ _;have e:(wj x).length=x.ht.length:=h8 _;simp only[iE]
  lia
def a3i{low:Int}(a:Bo x):2*PX x [(low,none)]+[low].length<=200:=by
 have:=a.len;have g:PX x [(low,none)]<=(wj x).length:=iL _ _;have e:(wj x).length=x.ht.length:=h8 _;simp only[iE]
 lia
noncomputable def LY(x:B0)(a:List Int):List Int:=(wj x).filter λt=>decide<|t∉a
noncomputable def cnt(x:B0)(a:List Int)(t:Int):Int:=((118).length:Int)
def zl{t:Int}:t∈LY x a↔t∈wj x/\t∉a:=by unfold LY;rw[js,i9]
def cnt_cons{l t:Int}:cnt x (l::a) t=cnt x a t+if t∈CM x l (wA x l) then 1 else 0:=by
 unfold cnt;rw[jK];by_cases q:t∈CM x l (wA x l)
 ·rw[cr<|decide_eq_true q,cr q];simp
 ·rw[hI (by simpa using q),hI q];simp
def Km{a:List Int}{t:Int}(h:a.Perm b):cnt x a t=cnt x b t:=by unfold cnt;rw[(h.filter _).length_eq]
def Zc{t:Int}:0<=cnt x a t:=by unfold cnt;lia
def SF{t:Int}(h:cnt x a t=0):∀l∈a,t∉CM x l (wA x l):=λl b q=>by unfold cnt at h;have:118=[]:=List.length_eq_zero_iff.mp q0a;have m:l∈118:=List.mem_filter.mpr #[b,decide_eq_true q];rw[this]at m;cases m
def NL{t:Int}(h:cnt x a t≠0):∃l∈a,t∈CM x l (wA x l):=by
 unfold cnt at h
 cases e:118 with
 |nil=>rw[e]at h;exact iq rfl h
 |cons l r =>
  have m:l∈118:=by rw[e];exact hW
  have:=List.mem_filter.mp m;exact#[l,this.1,kK this.2]
def LZ{a b:List Int}(h:a.Nodup)(c:b.Nodup)(s:∀k∈a,k∈b):a.length<=b.length:=by
 have p:a.Perm (b.filter λk=>decide<|k∈a):=wH h (c.filter _) λk=>by rw[js,i9];exact#[λz=>#[s k z,z],λz=>z.2]
 rw[p.length_eq];exact iL _ _
def NM{a:Type}{l:List (Int×a)}{k:Int}{v:a}(h:(lk l k).isSome=true):(pk l k v).map (·.1)=l.map (·.1):=by unfold pk;rw[cr h,kJ];refine mz λe _=>?_;dsimp only[uN];split<;>rfl
structure Kh(x:B0)(u:List (Int×Int))(ready told r2:List Int):Prop where
 ks:u.map (·.1)=wj x
 nd:(told++ready).Nodup
 st:∀t∈told++ready,t∈wj x
 ct:∀t∈wj x,lk u t=↑(cnt x (LY x told) t+if t∈r2 then 1 else 0)
 rd:∀t∈wj x,t∉told->(t∈ready↔cnt x (LY x told) t+(if t∈r2 then 1 else 0)=0)
 bk:∀a∈told,∀l∈wj x,l∉told->a∉CM x l (wA x l)
 od:told.Pairwise λa b=>a∉CM x b (wA x b)
def V5{y:Int}(b:Bo x)(c:y∈wj x)(d:y∉a):(LY x a).Perm (y::LY x (a++[y])):=by
 refine wH (b.nd.filter _) (List.nodup_cons.mpr #[λz=>(zl.mp z).2 q0o,b.nd.filter _]) λk=>?_;rw[zl,iK,zl,lM,mK];by_cases q:k=y
 ·subst q;exact#[λ_=>.inl rfl,λ_=>#[c,d]]
 ·simp[q]
def Kh.pop{y:Int}(n:Bo x)(K:Kh x u (f++[y]) c []):Kh x u f (c++[y]) (CM x y<|wA x y):=by
 have g:y∈wj x:=K.st y q0o;have o:=List.nodup_append.mp K.nd;have h:y∉c:=λz=>o.2.2 y z y q0o rfl;have q:=V5 n g h;have j:∀t,cnt x (LY x c) t=cnt x (LY x<|c++[y]) t+if t∈CM x y (wA x y) then 1 else 0:=λt=>by rw[Km q,cnt_cons]
 have r:cnt x (LY x c) y=0:=by have:=(K.rd y g h).mp q0o;simpa using this
 refine#[K.ks,?_,λt d=>K.st t (by simp only[lM,mK]at d ⊢;rcases d with(z|z)|z<;>simp[z]),λt d=>?_,λt d e=>?_,λa i l k e=>?_,?_]
 ·have p:(c++[y]++f).Perm (c++(f++[y])):=by rw[lV];exact oR c ni
  exact(p.nodup_iff).mpr K.nd
 ·rw[K.ct t d,j t];simp
 ·have s:t∉c:=λz=>e<|jo _ z;have v:t≠y:=λz=>e (by rw[z];simp);have:=K.rd t d s;rw[j t]at this;rw[lM,mK]at this;simpa[v] using this
 ·have m:l∉c:=λz=>e<|jo _ z;rcases List.mem_append.mp i with z|z
  ·exact K.bk a z l k m
  ·rw[List.mem_singleton.mp z];exact SF r l<|zl.mpr #[k,m]
 ·rw[List.pairwise_append];refine#[K.od,j4 _ _,λa i b w=>?_];rw[List.mem_singleton.mp w];exact K.bk a i y g h
def Kh.step{b v:Int}(K:Kh x u ready c (b::e))(f:b∈wj x)(i:b∉c)(j:b∉e)(k:lk u b=↑v) :
  Kh x (pk u b<|v-1) (if v-1=0 then ready++[b] else ready) c e:=by
 have g:=K.ct b f;rw[k,cr hW]at g;injection g with g
 have l:b∉ready:=λz=>by
  have:=(K.rd b f i).mp z;rw[cr hW]at this;have:=Zc (x:=x) (a:=LY x c) (t:=b)
  lia
 have d:∀t,t≠b->(if t∈b::e then (1:Int) else 0)=if t∈e then 1 else 0:=λt q=>by simp[q]
 refine#[(NM<|by rw[k];rfl).trans K.ks,?_,λt h=>?_,λt h=>?_,λt h m=>?_,K.bk,K.od]
 ·split
  ·have p:(c++(ready++[b])).Perm (b::(c++ready)):=by rw[<- lV];exact ni
   refine(p.nodup_iff).mpr<|List.nodup_cons.mpr ⟨λz=>?_,K.nd⟩;rcases List.mem_append.mp z with z|z
   ·exact i z
   ·exact l z
  ·exact K.nd
 ·by_cases q:t=b
  ·rw[q];exact f
  ·refine K.st t ?_;rcases List.mem_append.mp h with z|z
   ·exact jo _ z
   ·by_cases w:v-1=0
    ·rw[cr w]at z;rcases List.mem_append.mp z with z|z
     ·exact iD _ z
     ·exact iq (List.mem_singleton.mp z) q
    ·rw[hI w]at z;exact iD _ z
 ·rw[yI];by_cases q:t=b
  ·rw[cr q,q,hI j];congr 1;lia
  ·rw[hI q,K.ct t h,d t q]
 ·by_cases q:t=b
  ·rw[q,hI j];by_cases w:v-1=0
   ·rw[cr w];exact#[λ_=>by lia,λ_=>by simp]
   ·rw[hI w];exact#[λz=>iq z l,λz=>iq q0a w]
  ·have:=K.rd t h m;rw[d t q]at this;rw[<- this];by_cases w:v-1=0
   ·rw[cr w];simp[q]
   ·rw[hI w]
def Kh.done(f:Bo x)(K:Kh x u [] a []):Ord x a:=by
 obtain⟨r,g⟩:=f.acy
 have c:∀n t,r t<=n->t∈wj x->t∈a:=by
  intro n
  induction n with
  |zero =>
   intro t i d;by_cases q:t∈a
   ·exact q
   ·have:cnt x (LY x a) t≠0:=λz=>by have:=(K.rd t d q).mpr (by simpa using z);cases this
    obtain⟨l,b,e⟩:=NL this;have:=g l (zl.mp b).1 t e
    lia
  |succ n j =>
   intro t i d;by_cases q:t∈a
   ·exact q
   ·have:cnt x (LY x a) t≠0:=λz=>by have:=(K.rd t d q).mpr (by simpa using z);cases this
    obtain⟨l,b,e⟩:=NL this;have:=g l (zl.mp b).1 t e;exact iq (j l q0a (zl.mp b).1) (zl.mp b).2
 have h:=K.nd;rw[kY]at h;exact#[wH h f.nd λk=>#[λz=>K.st k (by simpa using z),λz=>c _ k (hV _) z],K.od]
def Kh.len(b:Bo x)(K:Kh x u ready a d):ready.length<=63/\a.length<=63/\u.length<=63:=by
 have e:(wj x).length=x.ht.length:=h8 _;have:=b.len;have c:=LZ K.nd b.nd K.st;rw[io]at c;have f:u.length=(wj x).length:=by rw[<- K.ks,h8]
 lia
def SG(a:Bo x){l h:Int}(b:(lk x.rk h).isSome=true):(CM x l h).Nodup:=by exact(vt (a.ok.bo h _<|BJ a.ok b).1).filter _
end
def A1 :B0×List Int×Unit->(Unit->B0×WL.Un×Unit->Prop)->129->Prop:=λp a _=>(∀c∈p.2.1,wU p.1 c=false)/\a () 65
section
variable{q:Cq} 
noncomputable abbrev Dm:iH:=Bl (top 30) 22
noncomputable abbrev Dn:List Str:=["self","cell"]
def L0:vp ["self","cell"] Dn (vg Dm):=by walk_at "sc"
abbrev Bp(q:Cq)(k:Nat):=zg q C "is_tied" Dn (G4) k
def L4(F:za q.K "is_tied" "Field.is_tied" Dm f g)(b:Am q.K C)(c:PV q.K C):Gq q 2 f g Dn (G4):=by
 refine' vr (wK (D':=Unit) (ms:=[0]) (j:=0) F L0 rfl rfl λi A a s H E d =>
   (vj (vB (vG (a0w (LD .ht false 0 rfl b.cl c.nH (Cy d) (ss 1) (pv 0)) (Bi (LD .th false 0 rfl b.cl c.nT (Cy d) (ss 1) (pv 0)))))))) λp k l h=>?_
 walk_at "wl"
 have h:k ((lk p.1.ht p.2.1).isSome||(lk p.1.th p.2.1).isSome) 65:=h;rw[hI ik,hI ik];by_cases e:(lk p.1.ht p.2.1).isSome=true
 ·rw[cr e];rw[e]at h;exact h
 ·rw[hI e];rw[Bool.eq_false_iff.mpr e]at h;exact h
noncomputable abbrev yX:iH:=Bl (top 30) 23
noncomputable abbrev yY:List Str:=["self","row"]
def An:vp ["self","row","cell"] yY (vg yX):=by walk_at "sc"
abbrev Fy(q:Cq)(k:Nat):=zg q C "must_be_lone" yY (A1) k
def DW(F:za q.K "must_be_lone" "Field.must_be_lone" yX f i)(t:Am q.K C)(a:Bp q 2)(d:Xc q.K q.mg "NotLone" XL):Gq q 3 f i yY (A1):=by
 refine' vr (DG (vP q0q) (D':=(Bd C true)×(List Int)×Un×Unit) (ms:=[0]) (j:=1) F An rfl rfl λk A g s H E u =>
   (vj (wS (is:=[]) (mb:=[0]) (D1:=(Bd C true)×(List Int)×Int×Unit) (D2:=(Bd C true)×(List Int)×Int×Unit) (vP q0q) yV rfl (wu (ss 1)) (vH 2 (vy An.nd))
   (vj (vQ (tw_val (vw (v7 0 a 131)))
   (vj<|BI rfl d)
   vK)) q0q q0q))) λp v w h=>?_
 walk_at "wl"
 obtain⟨l,m⟩:=h;refine vY (λ(r:List Int)(b:B0×List Int×WL.Un×Unit)=>b.1=p.1/\∀c∈r,wU p.1 c=false) _ #[rfl,l] ?_ ?_
 ·intro y r b _ e K n;show if wU b.1 y=true then _ else _;rw[hI<|by rw[e.1,e.2 y hW];decide];exact n _ ⟨e.1,λc o=>e.2 c<|hZ _ o⟩
 ·intro b e;rw[e.1];exact m
noncomputable abbrev Ik:iH:=Bl (top 30) 24
noncomputable abbrev Il:List Str:=["self","low","high"]
def SH:vp ["self","low","high"] Il (vg Ik):=by walk_at "sc"
def Pg:(["face","low","self"]:List Str).Nodup:=by decide +kernel
abbrev NN(q:Cq)(k:Nat):=zg q C "steps" Il (Ii) k
def SJ(F:za q.K "steps" "Field.steps" Ik f t)(d:Am q.K C)(u:PV q.K C):Gq q 2 f t Il (Ii):=by
 refine' vr (wK (D':=Unit) (ms:=[0]) (j:=0) F SH rfl rfl λw A g s H E l =>
   (vj (vB (xg (Ts:=["face"]) (Fr:=["low","self"]) (idx:=[1,0]) (k:=1) (mb:=[1,2]) (is:=[]) (cl:=[("self",⇑s+1),("low",⇑s+1+1)]) rfl (Rr (Bk 0 d.cl d.nB (Cy l) (pv 0) (wC 2 (pv 2)))) bs2 rfl (wT rfl) (λa b C m n=>(vH 0 (vy Pg))) (λa b C m n=>(tws_one (tw_w (Lv (tw_cm EN (ss 0) (ss 1)) (HE (tw_dIn .ht false 2 rfl d.cl u.nH (Cy l) (ss 0) (pv 2))))))) (λa b C m n=>(ss 0)))))) λp x G h=>?_
 walk_at "wl"
 refine BF λB i=>?_;obtain⟨D,o,h⟩:=h;obtain⟨v,r⟩:=Option.isSome_iff_exists.mp D;have e:wJ p.1 p.2.2.1=v:=by unfold wJ;rw[r];rfl
 refine i ?_;rw[e]at o;refine#[v,r,o,?_];refine wm (q:=λf=>decide (f≠p.2.1)&&(lk p.1.ht f).isSome) (λf I K c=>?_) ?_
 ·show if (!decide (f=p.2.1))=true then (if (if false=true then _ else (lk p.1.ht f).isSome)=true then K ↑f _ else K none _) else (if false=true then K ↑f _ else K none _);rw[hI ik,hI ik];by_cases z:f=p.2.1
  ·rw[hI<|by simp[z]];rw[hI<|by simp[z]]at c;exact c
  ·rw[cr<|by simp[z]];by_cases y:(lk p.1.ht f).isSome=true
   ·rw[cr y];rw[cr<|by simp[z,y]]at c;exact c
   ·rw[hI y];rw[hI<|by simp[z,y]]at c;exact c
 ·have h:x #[CM p.1 p.2.1 p.2.2.1] 73:=h;unfold CM at h;rw[e]at h;exact h
noncomputable abbrev Im:iH:=Bl (top 30) 17
noncomputable abbrev Io:List Str:=["self"]
def SK:vp ["self"] Io (vg Im):=by walk_at "sc"
abbrev NO(q:Cq)(k:Nat):=zg q C "tails" Io (NG) k
def SM(F:za q.K "tails" "Field.tails" Im f b)(c:Am q.K C)(d:PV q.K C)(B:Bn q.mg):Gq q 2 f b Io (NG):=by
 refine' vr (wK (D':=Unit) (ms:=[0]) (j:=0) F SK rfl rfl λe A a s H E k =>
   (vj (vB (E9 .ht 0 rfl c.cl d.nH rfl rfl B.sorted (pv 0))))) λp l m h=>?_
 walk_at "wl"
 obtain⟨g,n,i⟩:=h;exact#[g,i]
noncomputable abbrev Fz:iH:=Bl (top 30) 20
abbrev FA:List Str:=["self"]
def Ph:vp ["self"] FA (vg Fz):=by walk_at "sc"
def L5:(["low","self"]:List Str).Nodup:=by decide +kernel
abbrev Ko(q:Cq)(k:Nat):=zg q C "arrows" FA (Kl) k
def Pk(F:za q.K "arrows" "Field.arrows" Fz f i)(m:Am q.K C)(n:PV q.K C)(a:NO q 2):Gq q 3 f i FA (Kl):=by
 refine' vr (wK (D':=Unit) (ms:=[0]) (j:=0) F Ph rfl rfl λo A d s H E r =>
   (vj (vB (xg (Ts:=["low"]) (Fr:=["self"]) (idx:=[0]) (k:=1) (mb:=[1]) (is:=[]) (cl:=[("self",⇑s+1)]) rfl (wu (vO (DL 0 a))) RN rfl (wT rfl) (λb c C e g=>(vH 0 (vy L5))) (λb c C e g=>tws_nil) (λb c C e g=>(w9 (ss 0) (Ee .ht 1 rfl m.cl n.nH (Cy r) (pv 1) (wC 0 (pv 0))))))))) λp z B h=>?_
 walk_at "wl"
 obtain⟨t,u,v⟩:=h;refine#[t,u,?_,?_]
 ·show (Bx<|wj p.1).length<=hX;rw[(wN _).length_eq];exact wc (by show (p.1.ht.map (·.1)).length<=1000;rw[h8];lia)
 ·refine wv (f:=λl=>↑(l,wA p.1 l)) (λl w K y=>?_) ?_
  ·exact#[_,wV (x:=p.1)<|zf.mp w,y]
  ·rw[pi];exact v
noncomputable abbrev Do:iH:=Bl (top 30) 15
abbrev Dr:List Str:=["self","cell"]
def L6:vp ["self","cell"] Dr (vg Do):=by walk_at "sc"
abbrev Pl(q:Cq)(k:Nat):=zg q C "head_of" Dr (G6) k
def L7(F:za q.K "head_of" "Field.head_of" Do f c)(d:Am q.K C)(e:PV q.K C)(a:wP q 2):Gq q 3 f c Dr (G6):=by
 refine' vr (wK (D':=Unit) (ms:=[0]) (j:=0) F L6 rfl rfl λg A b s H E i =>
   (vz (v6 (vw (v7 0 a 79)))
   (vj (vB (vG (R9 .ht 0 rfl d.cl e.nH (Cy i) (pv 0) (wC 1 (pv 1)))))))) λp k l h=>?_
 walk_at "wl"
 exact h
noncomputable abbrev Ip:iH:=Bl (top 30) 14
noncomputable abbrev Iq:List Str:=["self","low"]
def Kq:vp ["self","low","high"] Iq (vg Ip):=by walk_at "sc"
abbrev V6(q:Cq)(k:Nat):=zg q C "untie" Iq (Ij) k
def SN(F:za q.K "untie" "Field.untie" Ip f k)(c:Am q.K C)(d:PV q.K C)(a:wP q 2)(b:Xc q.K q.mg "NotTied" XN):Gq q 3 f k Iq (Ij):=by
 refine' vr (wK (D':=Unit) (ms:=[0]) (j:=1) F Kq rfl rfl λl A g s H E m =>
   (vz (v6 (vw (v7 0 a 79)))
   (vz (vQ (tw_dIn .ht true 0 rfl c.cl d.nH (Cy m) (ss 1) (pv 0))
   (vj<|BI rfl b)
   vK)
   (vz (vC 2 Kq.nd (vG (VT .ht 0 rfl c.cl d.nH (pv 0) (wC 1 (pv 1)))))
   (vz (Nq .th 0 rfl c.cl d.nT (pv 0) (wC 2 (pv 2)) (λn o=>Hl n o))
   (vj (vB (vG (ss 2))))))))) λp u r h=>?_
 walk_at "wl"
 obtain⟨t,h⟩:=h;show if (72).isSome=true then _ else r XC 65;by_cases i:(72).isSome=true
 ·rw[cr i]at h ⊢;dsimp only;rw[cr rfl];by_cases q:(lk p.1.ht p.2.1).isSome=true
  ·rw[cr q]at h;rw[hI<|by simp[q]];have e:=wV (x:=p.1)<|Ac q;exact#[_,e,by rw[(t.ht _ _ e).2.2.2];rfl,h]
  ·rw[hI q]at h;rw[cr<|by simp[q]];exact h
 ·rw[hI i]at h ⊢;exact h
noncomputable abbrev ya:iH:=top 31
noncomputable abbrev yb:List Str:=["earlier","last"]
def xh:vp ["earlier","last","row","tail"] yb (vg ya):=by walk_at "sc"
abbrev Ds(q:Cq)(k:Nat):=xn q "row_from_first" yb zI k
def CO(F:CA q "row_from_first" ya f o):Gq q 2 f o yb zI:=by
 refine' vr (wK (D':=Unit) (ms:=[0]) (j:=2) F xh rfl rfl λr A b s H E t =>
   (vz (vC 2 xh.nd 112)
   (vz (vC 3 xh.nd (vG (zX (ss 1))))
   (vz (Fb (mb:=[0]) (D2:=(Dc (Option Int))×Int×(OL Int)×(Option Int)×Unit) (vP q0q) yV (tw_cm Nl (ss 3) Lu)
   (vz (wF 2 (zC (ss 3)))
   (vj (vC 3 xh.nd (vG (Fe 0 (Cy t) (pv 0) (zC (ss 3))))))) q0q)
   (vj (vB (Y5 (wo 2)))))))) λp D G h=>?_
 walk_at "wl"
 refine BF λu c=>?_;obtain⟨⟨a,w,x,y⟩,h⟩:=h;refine c ?_;refine#[λm d=>d.1=p.1/\(match d.2.2.2.1 with|none=>d.2.2.1.l≠[]|some k=>(lk p.1.l k).isSome=true/\d.2.2.1.l.length+a k<1000)/\(match d.2.2.2.1 with|none=>0|some k=>a k+1)<=m,#[a p.2.1+1,rfl,#[x,by have:=w p.2.1;simpa using this],hV _],?_];intro m;refine a22 λI J B C L=>?_;rintro⟨rfl,i,M⟩
 cases C with
 |none =>
  rw[hI q0o];exact h _ (by simpa using i)
 |some k =>
  rw[cr q0o];obtain⟨v,n⟩:=Option.isSome_iff_exists.mp i.1;have z:hX=16777216:=jk;refine#[k,rfl,by show B.l.length<hX;lia,k,rfl,v,n,?_]
  cases v with
  |none=>exact#[0,q0a,rfl,q0o,hV _]
  |some e =>
   have g:=y k e n;exact#[a e+1,q0a,rfl,#[g.1,by simp;lia],hV _]
noncomputable abbrev A4:iH:=Bl (top 30) 25
noncomputable abbrev A5:List Str:=["self","low","high"]
def xq:vp ["self","low","high","earlier","waiting","tail","head","later"] A5 (vg A4):=by walk_at "sc"
abbrev Ks(q:Cq)(k:Nat):=zg q C "ring_with" A5 (DN) k
def Ir(F:za q.K "ring_with" "Field.ring_with" A4 f fd)(ct:Am q.K C)(cf:PV q.K C)(a:Ds q 3)(D:NN q 3):Gq q 4 f fd A5 (DN):=by
 refine' vr (wK (D':=Unit) (ms:=[0]) (j:=5) F xq rfl rfl λag A aa s H E P =>
   (vz (vC 3 xq.nd (Y3 (wC 1 (pv 1))))
   (vz (vC 4 xq.nd (vJ (vo (ss 1) vI)))
   (vz (Fb (mb:=[0]) (D2:=(Bd C true)×Int×Int×(Dc (Option Int))×(OL Int)×Int×Int×Un×Unit) (vP q0q) yV (tw_trueR (wo 4))
   (vz (vC 5 xq.nd (vG (NA 4 (pv 4) (Qm mE o8 o9 Qo (pv 4)))))
   (vz (vC 6 xq.nd (vG (Sc .ht 0 rfl ct.cl cf.nH (Cy P) (pv 0) (wC 5 (pv 5)) (wC 2 (pv 2)))))
   (vz (vQ (tw_w (Lv (tw_cm EN (ss 5) (ss 1)) (HE (tw_inT (ss 1) (Bk 0 ct.cl ct.nB (Cy P) (pv 0) (wC 6 (pv 6))) (by with_unfolding_all rfl)))))
   (vj<|vB<|vA a<|vN 3<|vk (ss 5) vi)
   vK)
   (vj (wS (is:=[]) (mb:=[0]) (D1:=(Bd C true)×Int×Int×(Dc (Option Int))×(OL Int)×Int×Int×Int×Unit) (D2:=(Bd C true)×Int×Int×(Dc (Option Int))×(OL Int)×Int×Int×Int×Unit) (vP q0q) yV rfl (wu (vO (v7 0 D (vk (ss 5) (vk (ss 6) vi))))) (vH 7 (vy xq.nd))
   (vj (vQ (tw_dcNin 3 (Cy P) (ss 7) (pv 3))
   (vz (RT 3 (Cy P) (pv 3) (ss 7) (zX (ss 5)))
   (vj (wF 4 (ss 7))))
   vK)) q0q q0q))))) q0q)
   (vj (vB 112)))))) λp Kn Ke h=>?_
 walk_at "wl"
 refine BF λah ab=>?_;obtain⟨L,hh,t1,t2,h⟩:=h;refine ab ?_
 have G:p.2.1∉wj p.1:=λz=>by have:=xO z;unfold wU at t1;rw[this]at t1;cases t1
 have n0:lk p.1.ht p.2.1=none:=NI G;refine#[λm d=>d.1=p.1/\d.2.1=p.2.1/\d.2.2.1=p.2.2.1/\Rw p.1 p.2.1 d.2.2.2.1.l d.2.2.2.2.1.l (NK p.1 p.2.1 p.2.2.1)/\2*PX p.1 d.2.2.2.1.l+d.2.2.2.2.1.l.length<=m/\m<=200,#[_,rfl,rfl,rfl,SE L,hV _,a3i L],?_];intro m;refine Ge λd1 d2 d3 d4 d5 d6 d7 d8 d9=>?_;rintro⟨rfl,rfl,rfl,i,i5,i6⟩;rcases tT d5.l with e|⟨ys,y,e⟩
 ·rw[hI<|by rw[e];simp];refine h [] λ_=>?_;rw[e]at i;exact V4 (V:=d4.l.map (·.1)) L G (AZ.mp i.lo) (λk o n=>i.tl k (AZ.mpr o) n) λk o=>#[(i.dn k (AZ.mpr o) q0o).1,λt c=>AZ.mp<|(i.dn k (AZ.mpr o) q0o).2 t c]
 ·rw[cr<|by rw[e];simp];rw[tU]at e;refine#[ys,y,e,?_];have W:(lk d4.l y).isSome=true:=i.wk y (by rw[e];simp)
  have hd:(lk p.1.ht y).getD p.2.2.1=if y=p.2.1 then p.2.2.1 else wA p.1 y:=by
   by_cases q:y=p.2.1
   ·rw[cr q,q,n0];rfl
   ·rw[hI q,wV<|i.tl y W q];rfl
  have M:(lk p.1.rk<|if y=p.2.1 then p.2.2.1 else wA p.1 y).isSome=true:=by
   by_cases q:y=p.2.1
   ·rw[cr q];exact hh
   ·rw[hI q];exact L.Hy<|i.tl y W q
  rw[hd]
  have I:(y≠p.2.1->p.2.1∉wJ p.1 (wA p.1 y))->Ii (p.1,y,(if y=p.2.1 then p.2.2.1 else wA p.1 y),()) (λae p'=>HF (λx (b:B0×Int×Int×Dc (Option Int)×OL Int×Int×Int×WL.Un×Unit) R Kr Ke =>
    if (!(lk b.2.2.2.1.l x).isSome)=true then b.2.2.2.1.l.length<hX/\b.2.2.2.2.1.l.length<hX/\R (b.1,b.2.1,b.2.2.1,#[pk b.2.2.2.1.l x<|↑b.2.2.2.2.2.1],#[b.2.2.2.2.1.l++[x]],b.2.2.2.2.2.1,b.2.2.2.2.2.2.1,#[],b.2.2.2.2.2.2.2.2)
    else R (b.1,b.2.1,b.2.2.1,b.2.2.2.1,b.2.2.2.2.1,b.2.2.2.2.2.1,b.2.2.2.2.2.2.1,#[],b.2.2.2.2.2.2.2.2)) ae.l (p'.1,p.2.1,p.2.2.1,d4,#[ys],y,(if y=p.2.1 then p.2.2.1 else wA p.1 y),d8,d9)
    (λN=>∃m',m'<m/\N.1=p.1/\N.2.1=p.2.1/\N.2.2.1=p.2.2.1/\Rw p.1 p.2.1 N.2.2.2.1.l N.2.2.2.2.1.l (NK p.1 p.2.1 p.2.2.1)/\2*PX p.1 N.2.2.2.1.l+N.2.2.2.2.1.l.length<=m'/\m'<=200) Kn Ke) (λaf p'=>Ke af (p'.1,#[],#[],())):=by
   intro hy;refine#[by rw[BJ L.ok M];rfl,L.bl M,?_]
   refine vY (λ(r:List Int) (b:B0×Int×Int×Dc (Option Int)×OL Int×Int×Int×WL.Un×Unit)=>b.1=p.1/\b.2.1=p.2.1/\b.2.2.1=p.2.2.1/\b.2.2.2.2.2.1=y/\(lk b.2.2.2.1.l y).isSome=true/\(∀t∈r,t∈wj p.1) /\
    Rw p.1 p.2.1 b.2.2.2.1.l b.2.2.2.2.1.l (λk e=>if k=y then (∀t∈CM p.1 y (if y=p.2.1 then p.2.2.1 else wA p.1 y),(lk e t).isSome=true\/t∈r) else NK p.1 p.2.1 p.2.2.1 k e)/\2*PX p.1 b.2.2.2.1.l+b.2.2.2.2.1.l.length+1<=m) _ ?_ ?_ ?_
   ·refine#[rfl,rfl,rfl,rfl,W,λt c=>(xB.mp c).2.2,#[i.lo,i.tl,λk o=>i.wk k (by rw[e];exact jo _ o),λk o O=>?_,i.ch,i.sz],?_]
    ·dsimp only;by_cases q:k=y
     ·rw[cr q];exact λt c=>.inr c
     ·rw[hI q];exact i.dn k o (by rw[e];intro z;rcases List.mem_append.mp z with z|z;exact O z;exact q<|List.mem_singleton.mp z)
    ·rw[e,io]at i5;simp only[iE]at i5
     lia
   ·intro S r;refine Ge λb1 b2 b3 X b5 J b7 b8 b9=>?_;rintro _ ⟨rfl,rfl,rfl,rfl,Y,j6,u,j8⟩ K hK;have T:∀t∈r,t∈wj p.1:=λt c=>j6 t (hZ _ c)
    cases q:lk X.l S with
    |none =>
     rw[cr q0o];have z:hX=16777216:=jk;have s1:=u.sz;have nn:∀(k:Int) (e':List (Int×Option Int)),(∀t,(lk e' t).isSome=true->(lk (pk e' S<|some J) t).isSome=true):=λk e' t c=>by rw[yI];split;rfl;exact c
     obtain⟨Q,u2⟩:=u.add (t0:=J) (j6 S hW) q Y λk o U=>by
      by_cases B:k=J
      ·rw[cr B]at U ⊢;exact λt c=>(U t c).imp (nn k _ t) id
      ·rw[hI B]at U ⊢;exact#[U.1,λt c=>nn k _ t<|U.2 t c]
     refine#[by show X.l.length<hX;lia,by show b5.l.length<hX;lia,hK _ #[rfl,rfl,rfl,rfl,nn 0 _ _ Y,T,?_,?_]]
     ·refine#[Q.lo,Q.tl,Q.wk,λk o O=>?_,Q.ch,Q.sz];have g:=Q.dn k o O;by_cases B:k=J
      ·rw[cr B]at g ⊢;intro t c;rcases g t c with w|w
       ·exact .inl w
       ·rcases List.mem_cons.mp w with w|w
        ·left;rw[w,yI,cr rfl];rfl
        ·exact .inr w
      ·rw[hI B]at g ⊢;exact g
     ·show 2*PX p.1 (pk X.l S<|↑J)+(b5.l++[S]).length+1<=m;rw[io];simp only[iE]
      lia
    |some v =>
     rw[hI q0o];refine hK _ #[rfl,rfl,rfl,rfl,Y,T,#[u.lo,u.tl,u.wk,λk o O=>?_,u.ch,u.sz],j8];have g:=u.dn k o O;by_cases B:k=J
     ·rw[cr B]at g ⊢;intro t c;rcases g t c with w|w
      ·exact .inl w
      ·rcases List.mem_cons.mp w with w|w
       ·left;rw[w,q];rfl
       ·exact .inr w
     ·rw[hI B]at g ⊢;exact g
   ·refine Ge λb1 b2 b3 X b5 J b7 b8 b9=>?_;rintro⟨rfl,rfl,rfl,rfl,Y,_,u,j8⟩;refine#[m-1,q0a,rfl,rfl,rfl,#[u.lo,u.tl,u.wk,λk o O=>?_,u.ch,u.sz],by dsimp only at j8 ⊢;lia,q0a];have g:=u.dn k o O;by_cases B:k=J
    ·rw[cr B]at g;subst B;exact#[hy,λt c=>(g t c).elim id λw=>iq w q0o]
    ·rw[hI B]at g;exact g
  by_cases q:y=p.2.1
  ·rw[hI (by simp[q]),hI ik];exact I λz=>iq q z
  ·rw[cr<|by simp[q]];refine#[_,BJ L.ok M,?_];by_cases Z:p.2.1∈wJ p.1 (if y=p.2.1 then p.2.2.1 else wA p.1 y)
   ·rw[cr<|decide_eq_true Z];obtain⟨mm,m1,m2⟩:=i.ch;refine⟨⟨mm,λk=>by have:=m1 k;have:=i.sz;lia,W,m2⟩,λr P=>h r λz=>iq z P⟩
   ·rw[hI<|by simpa using Z];exact I λ_=>by rw[hI q]at Z;exact Z
noncomputable abbrev SO:iH:=Bl (top 30) 13
abbrev SQ:List Str:=["self","low","high"]
def SR:vp ["self","low","high","ring"] SQ (vg SO):=by walk_at "sc"
abbrev a1f(q:Cq)(k:Nat):=zg q C "tie" SQ (Sz) k
def Zd(F:za q.K "tie" "Field.tie" SO f D)(o:Am q.K C)(x:PV q.K C)(b:wP q 4)(d:Bp q 4)(e:Ks q 4)(g:Xc q.K q.mg "NotFace" XF)(k:Xc q.K q.mg "Tied" XT)(c:XcI q.P q.w q.K q.mg q.base 3 "RingOfArrows" XR "ring"):Gq q 5 f D SQ (Sz):=by
 refine' vr (DG (vP q0q) (D':=(Bd C true)×Int×Int×(OL Int)×Unit) (ms:=[0]) (j:=1) F SR rfl rfl λG A v s H E l =>
   (vz (v6 (vw (v7 0 b 79)))
   (vz (v6 (vw (v7 0 b 131)))
   (vz (vQ (tw_ninT (ss 1) (Bk 0 o.cl o.nB (Cy l) (pv 0) (wC 2 (pv 2))) (by with_unfolding_all rfl))
   (vj<|BI rfl g)
   vK)
   (vz (vQ (tw_w (AH (tw_val (vw (v7 0 d 79))) (zY (tw_val (vw (v7 0 d 131))))))
   (vj<|BI rfl k)
   vK)
   (vz (vC 3 SR.nd (v7 0 e (vk (ss 1) 131)))
   (vz (vQ (tw_trueR (wo 3))
   (vj<|Y1 (i:=3) (α:=Int) rfl c l<|pv 3)
   vK)
   (vz (HL .ht 0 rfl o.cl x.nH (Cy l) (pv 0) (wC 1 (pv 1)) (ss 2))
   (vj (HL .th 0 rfl o.cl x.nT (Cy l) (pv 0) (wC 2 (pv 2)) (ss 1))))))))))) λp I y h=>?_
 walk_at "wl"
 obtain⟨t,h⟩:=h;show if (72).isSome=true then _ else y XC 73;by_cases B:(72).isSome=true
 ·rw[cr B]at h ⊢;show if (lk p.1.rk p.2.2.1).isSome=true then _ else y XC 73;by_cases ht:(lk p.1.rk p.2.2.1).isSome=true
  ·rw[cr ht]at h ⊢;refine#[_,BJ t.ok ht,?_];by_cases u:p.2.1∈wJ p.1 p.2.2.1
   ·rw[cr u]at h;rw[hI<|by simp[u]];show if wU p.1 p.2.1=true then _ else _;by_cases m:wU p.1 p.2.1=true
    ·rw[cr<|.inl m]at h;rw[cr m,cr rfl];exact h
    ·rw[hI m];show if wU p.1 p.2.2.1=true then _ else _;by_cases n:wU p.1 p.2.2.1=true
     ·rw[cr<|.inr n]at h;rw[cr n];exact h
     ·rw[hI<|λz=>z.elim m n]at h;rw[hI n];refine#[t,ht,by simpa using m,by simpa using n,λr l=>?_]
      cases r with
      |nil =>
       rw[hI q0o];have z:hX=16777216:=jk;exact#[(by show p.1.ht.length<hX;have:=t.len;lia),(by show p.1.th.length<hX;have:=t.a1e;lia),h.2<|l rfl]
      |cons a r =>
       rw[cr q0o];exact h.1
   ·rw[hI u]at h;rw[cr<|by simp[u]];exact h
  ·rw[hI ht]at h ⊢;exact h
 ·rw[hI B]at h ⊢;exact h
noncomputable abbrev Iu:iH:=Bl (top 30) 21
noncomputable abbrev Iv:List Str:=["self"]
def xQ:vp ["self","tail","unmet","low","high","later","ready","told"] Iv (vg Iu):=by walk_at "sc"
def Pm:(["tail","unmet"]:List Str).Nodup:=by decide +kernel
abbrev V7(q:Cq)(k:Nat):=zg q C "order" Iv (NH) k
def SS(F:za q.K "order" "Field.order" Iu f fd)(ct:Am q.K C)(cf:PV q.K C)(u:Ko q 3)(n:NN q 3)(v:NO q 3):Gq q 4 f fd Iv (NH):=by
 refine' vr (wK (D':=Unit) (ms:=[0]) (j:=7) F xQ rfl rfl λab A aa s H E U =>
   (vz (vC 2 xQ.nd (O8 .ht 0 rfl ct.cl cf.nH rfl (pv 0) rfl q0s rfl q0s rfl) (hx:=uV rfl))
   (vz (wS (is:=[]) (mb:=[0]) (D1:=(Bd C true)×Un×(Dc Int)×Int×Int×Un×Un×Un×Unit) (D2:=(Bd C true)×Un×(Dc Int)×Int×Int×Un×Un×Un×Unit) (vP q0q) yV rfl (wu (vO (DL 0 u))) (Cp 3 4 (CZ rfl (wR (vy (i:=3) xQ.nd) (wR (vy (i:=4) xQ.nd) A8))) q0q q0q)
   (vj (wS (is:=[]) (mb:=[0]) (D1:=(Bd C true)×Un×(Dc Int)×Int×Int×Int×Un×Un×Unit) (D2:=(Bd C true)×Un×(Dc Int)×Int×Int×Int×Un×Un×Unit) (vP q0q) yV rfl (wu (vO (v7 0 n (vk (ss 3) (vk (ss 4) vi))))) (vH 5 (vy xQ.nd))
   (vj (Kd 2 (Cy U) (pv 2) (wC 5 (pv 5)) Rv P2)) q0q q0q)) q0q q0q)
   (vz (Bj (Ts:=["tail"]) (Fr:=["unmet"]) (idx:=[2]) (k:=1) (mb:=[1]) (is:=[]) (cl:=[("unmet",⇑s+1)]) 6 xQ.nd rfl rfl rfl q0q rfl (wu (vO (DL 0 v))) RN rfl (wT rfl) (λJ L C ex pn=>(vH 0 (vy Pm))) (λJ L C ex pn=>(tws_one (tw_cm AG (Fe 1 (Cy U) (pv 1) (ss 0)) vn))) (λJ L C ex pn=>(ss 0)))
   (vz (vC 7 xQ.nd 112)
   (vz (Fb (mb:=[0]) (D2:=(Bd C true)×Int×(Dc Int)×Un×Un×Un×(OL Int)×(OL Int)×Unit) (vP q0q) yV (tw_trueR (wo 6))
   (vz (vC 1 xQ.nd (vG (NA 6 (pv 6) (Qm mE o8 o9 Qo (pv 6)))))
   (vz (wF 7 (ss 1))
   (vj (wS (is:=[]) (mb:=[0]) (D1:=(Bd C true)×Int×(Dc Int)×Un×Un×Int×(OL Int)×(OL Int)×Unit) (D2:=(Bd C true)×Int×(Dc Int)×Un×Un×Int×(OL Int)×(OL Int)×Unit) (vP q0q) yV rfl (wu (vO (v7 0 n (vk (ss 1) (vk (Ee .ht 0 rfl ct.cl cf.nH (Cy U) (pv 0) (wC 1 (pv 1))) vi))))) (vH 5 (vy xQ.nd))
   (vz (Kd 2 (Cy U) (pv 2) (wC 5 (pv 5)) Rv XZ)
   (vj (vQ (tw_cm AG (Fe 2 (Cy U) (pv 2) (ss 5)) vn)
   (vj<|wF 6<|ss 5)
   vK))) q0q q0q)))) q0q)
   (vj (ze 7 (pv 7))))))))) λp Kn Ke h=>?_
 walk_at "wl"
 obtain⟨g,h⟩:=h;have sl:hX=16777216:=jk;have W:(wj p.1).length<=63:=by have e:(wj p.1).length=p.1.ht.length:=h8 _;have:=g.len;lia
 have N:(Bx<|wj p.1).Nodup:=(wN _).nodup_iff.mpr g.nd;refine⟨g.len,g.nd,?_⟩;refine vY (λ(r:List (Int×Int)) (b:B0×WL.Un×Dc Int×WL.Un×WL.Un×WL.Un×WL.Un×WL.Un×Unit)=>b.1=p.1/\b.2.2.1.l.map (·.1)=wj p.1/\(∀e∈r,e.1∈wj p.1/\e.2=wA p.1 e.1)/\∀t∈wj p.1,lk b.2.2.1.l t=↑(cnt p.1 (Bx<|wj p.1) t-cnt p.1 (r.map (·.1)) t)) _ ?_ ?_ ?_
 ·refine#[rfl,?_,λe he=>?_,λt c=>?_]
  ·show ((List.map (λx=>x.1) p.1.ht).map λk=>(k,(0:Int))).map (·.1)=wj p.1;rw[kJ];exact List.map_id' _
  ·obtain⟨l,hl,rfl⟩:=List.mem_map.mp he;exact#[zf.mp hl,rfl]
  ·have e:((Bx<|wj p.1).map λl=>(l,wA p.1 l)).map (·.1)=Bx (wj p.1):=by rw[kJ];exact List.map_id' _
   rw[e,Int.sub_self];exact NJ c
 ·rintro⟨l,hd⟩ r;refine Ge λb1 b2 b3 b4 b5 b6 b7 b8 b9=>?_;rintro _ ⟨rfl,j2,j3,R⟩ K hK;have l1:l∈wj p.1/\hd=wA p.1 l:=j3 (l,hd) hW;have hl:=l1.1;have e2:=l1.2;subst e2;have o:=g.Hy hl;refine#[by rw[BJ g.ok o];rfl,g.bl o,?_];refine vY (λ(B:List Int)(b:B0×WL.Un×Dc Int×Int×Int×WL.Un×WL.Un×WL.Un×Unit)=>b.1=p.1/\b.2.2.1.l.map (·.1)=wj p.1/\B.Nodup/\(∀t∈B,t∈wj p.1)/\∀t∈wj p.1,lk b.2.2.1.l t=↑(cnt p.1 (Bx<|wj p.1) t-cnt p.1 (r.map (·.1)) t-if t∈B then 1 else 0)) _ ?_ ?_ ?_
  ·refine#[rfl,j2,SG g o,λt c=>(xB.mp c).2.2,λt c=>?_];rw[R t c,iJ,cnt_cons,<- Int.sub_sub]
  ·intro G B;refine Ge λc1 c2 O c4 c5 c6 c7 c8 c9=>?_;rintro _ ⟨rfl,D,k3,X,k5⟩ K2 I;have T:=List.nodup_cons.mp k3;have e0:=k5 G<|X G hW;have cl:O.l.length<=63:=by rw[<- h8 (f:=(·.1)) (as:=O.l),D];exact W
   refine#[_,e0,by show O.l.length<hX;lia,I _ #[rfl,(NM<|by rw[e0];rfl).trans D,T.2,λt c=>X t<|hZ _ c,λt c=>?_]];rw[yI];by_cases q:t=G
   ·rw[cr q,q,cr hW,hI T.1];congr 1;lia
   ·rw[hI q,k5 t c];simp[q]
  ·refine Ge λc1 c2 O c4 c5 c6 c7 c8 c9=>?_;rintro⟨rfl,D,_,_,k5⟩;refine hK _ #[rfl,D,λe he=>j3 e<|hZ _ he,λt c=>?_];rw[k5 t c];simp
 ·refine Ge λb1 b2 b3 b4 b5 b6 b7 b8 b9=>?_;rintro⟨rfl,j2,_,R⟩
  have R:∀t∈wj p.1,lk b3.l t=↑(cnt p.1 (wj p.1) t):=λt c=>by rw[R t c,pf,Km<|wN<|wj p.1];unfold cnt;simp
  refine#[g.len,g.nd,?_];refine#[by rw[(wN _).length_eq];lia,?_];refine wm (q:=λt=>decide<|cnt p.1 (wj p.1) t=0) (λt c K hK=>#[_,R t<|zf.mp c,hK]) ?_
  have P:Kh p.1 b3.l ((Bx<|wj p.1).filter λt=>decide<|cnt p.1 (wj p.1) t=0) [] []:=by
   have u0:LY p.1 []=wj p.1:=by unfold LY;simp
   refine#[j2,by rw[nQ];exact N.filter _,λt c=>?_,λt c=>?_,λt c _=>?_,λa ha=>iq ha q0o,iO]
   ·rw[nQ,js]at c;exact zf.mp c.1
   ·rw[u0,R t c];simp
   ·rw[u0,js,zf,i9];simp[c]
  refine#[λm d=>d.1=p.1/\Kh p.1 d.2.2.1.l d.2.2.2.2.2.2.1.l d.2.2.2.2.2.2.2.1.l []/\64<=m+d.2.2.2.2.2.2.2.1.l.length,#[64,rfl,P,q0o],?_];intro m;refine Ge λd1 d2 d3 d4 d5 d6 d7 Q d9=>?_;rintro⟨rfl,M,i2⟩;rcases tT d7.l with e|⟨ys,y,e⟩
  ·rw[hI<|by rw[e];simp];rw[e]at M;exact h _<|M.done g
  ·rw[cr<|by rw[e];simp];rw[tU]at e;rw[e]at M;have yt:y∈wj p.1:=M.st y q0o;have o:=g.Hy yt;have ln:=M.len g;refine⟨ys,y,e,by show Q.l.length<hX;lia,_,wV yt,by rw[BJ g.ok o];rfl,g.bl o,?_⟩;have K0:=M.pop g;refine vY (λ(B:List Int)(b:B0×Int×Dc Int×WL.Un×WL.Un×WL.Un×OL Int×OL Int×Unit)=>b.1=p.1/\b.2.2.2.2.2.2.2.1.l=Q.l++[y]/\Kh p.1 b.2.2.1.l b.2.2.2.2.2.2.1.l (Q.l++[y]) B/\B.Nodup/\∀t∈B,t∈wj p.1/\t∉Q.l++[y]) _ ?_ ?_ ?_
   ·refine#[rfl,rfl,K0,SG g o,λt c=>#[(xB.mp c).2.2,λz=>?_]];rcases List.mem_append.mp z with z|z
    ·have yn:y∉Q.l:=λw=>(List.nodup_append.mp M.nd).2.2 y w y q0o rfl;exact M.bk t z y yt yn c
    ·exact(xB.mp c).2.1<|List.mem_singleton.mp z
   ·intro G B;refine Ge λc1 c2 O c4 c5 c6 c7 c8 c9=>?_;rintro _ ⟨rfl,Y,D,k3,X⟩ K2 I;have T:=List.nodup_cons.mp k3;have x1:=X G hW;have hv:=D.ct G x1.1;have S:=D.step x1.1 x1.2 T.1 hv;have ae:=D.len g;refine#[_,hv,by show O.l.length<hX;lia,_,by rw[yI,cr rfl],?_];have Z:∀t∈B,t∈wj p.1/\t∉Q.l++[y]:=λt c=>X t<|hZ _ c;by_cases w:(cnt p.1 (LY p.1<|Q.l++[y]) G+if G∈G::B then 1 else 0)-1=0
    ·rw[cr<|decide_eq_true w];rw[cr w]at S;exact#[by show c7.l.length<hX;lia,I _ #[rfl,Y,S,T.2,Z]]
    ·rw[hI<|by simpa using w];rw[hI w]at S;exact I _ #[rfl,Y,S,T.2,Z]
   ·refine Ge λc1 c2 O c4 c5 c6 c7 c8 c9=>?_;rintro⟨rfl,Y,D,_,_⟩;exact#[m-1,q0a,rfl,by rw[Y];exact D,by rw[Y,io,iE];lia]
end
structure NP(l:List Int):Prop where
 ri:w4 l
 lt:∀c∈l,0<=c/\c<63
def NP.xr(d:NP a)(e:NP b):NP (xr a b):=#[xL d.ri,λc f=>(HI (vt e.ri) f).elim (d.lt c)<|e.lt c]
def NP.mem(b:NP a):∀k∈a,k∈zb 0 63:=λk c=>Ab (b.lt k c).1 (b.lt k c).2
def NQ:Wf (List Int×List Int×Unit) (OL Int) (WL.Un×WL.Un×Unit):=λp a _=>NP p.1/\NP p.2.1/\a #[xr p.1 p.2.1] 99
def Kt(h:w4 row)(k:a () (#[],())):Ek XS (row,()) a b:=#[λ_=>k,λz=>by
 rw[(yg row).mpr h]at z
 cases z]
section
variable{x:B0}
def Bo.Xt(a:Bo x){c:Int}(h:(lk x.rk c).isSome=true):NP (wJ x c):=#[(a.ok.bo c _<|BJ a.ok h).1,(a.ok.bo c _<|BJ a.ok h).2]
def Ze{t h:Int}(d:t∈f h):∀{T:List Int},T.Nodup->(∀a∈T,a≠h->t∉f a)->Sf f t T=decide (h∈T):=by
 intro e
 induction e with
 |nil=>intro _ _;exact rfl
 |cons c T b =>
  intro n k;have n:=List.nodup_cons.mp n;show xor (decide<|t∈f c) (Sf f t T)=_;rw[b n.2 λa m=>k a<|hZ _ m];by_cases q:c=h
  ·subst q;simp[d,n.1]
  ·have:=k c hW q;simp[this,Ne.symm q]
def SU(g:Bo x):∀{q T acc:List Int},q.Nodup->(∀t∈q,t∈wj x)->(q.Pairwise λa b=>a∉CM x b (wA x b))->w4 T->(∀h∈T,∃t∈q,wA x t=h)->(q.foldl (Dl x) (vM (wJ x) T,acc)).2.Perm (acc++T):=by
 intro M
 induction M with
 |nil =>
  intro T acc _ _ _ _ n
  cases T with
  |nil=>simp
  |cons h r=>obtain⟨t,z,_⟩:=n h hW;cases z
 |cons t q p =>
  intro T acc B C s o n;have B:=List.nodup_cons.mp B;have s:=List.pairwise_cons.mp s;have E:=C t hW;have F:=(g.ht t _<|wV E).2.2.1
  have N:∀a∈wj x,∀b∈wj x,wA x a=wA x b->a=b:=λa O b F e=>by have D:=(g.ht a _<|wV O).2.2.2;have P:=(g.ht b _<|wV F).2.2.2;rw[e,P]at D;injection D with D;exact D.symm
  have I:∀c∈T,(wJ x c).Nodup:=λc u=>by obtain⟨d,m,e⟩:=n c u;rw[<- e];exact vt (g.Xt<|g.Hy<|C d m).ri
  have v:t∈vM (wJ x) T↔wA x t∈T:=by
   have:=xM (f:=wJ x) (x:=t) (l:=T) I;rw[Ze F (vt o) λQ m R z=>?_]at this
   ·exact decide_eq_decide.mp this
   ·obtain⟨d,y,e⟩:=n Q m;have J:d≠t:=λw=>R (by rw[<- e,w]);have S:d∈q:=(List.mem_cons.mp y).elim (λw=>iq w J) id;refine s.1 d S<|xB.mpr #[?_,Ne.symm J,E];rw[e];exact z
  rw[mH];unfold Dl;by_cases A:wA x t∈T
  ·rw[cr<|v.mpr A];have U:w4 [wA x t]:=j4 _ _;have G:=g.Xt (g.Hy E)
   have W:vM (wJ x) [wA x t]=wJ x (wA x t):=AM (wp _ _) G.ri λk=>by rw[xM<|λc u=>by rw[List.mem_singleton.mp u];exact vt G.ri];show xor (decide<|k∈wJ x (wA x t)) false=_;rw[oo]
   have L:=Bm (f:=wJ x) o U I (λc u=>by rw[List.mem_singleton.mp u];exact vt G.ri);rw[W]at L;rw[<- L]
   have i:∀k,k∈xr T [wA x t]↔k∈T/\k≠wA x t:=λk=>by
    rw[zo q0o,mK];by_cases z:k=wA x t
    ·subst z;simp[A]
    ·simp[z]
   have X:=p (T:=xr T [wA x t]) (acc:=acc++[wA x t]) B.2 (λk H=>C k<|hZ _ H) s.2 (xL o) λh j=>by have j:=(i h).mp j;obtain⟨d,y,e⟩:=n h j.1;refine#[d,(List.mem_cons.mp y).elim (λw=>iq (by rw[<- e,w]) j.2) id,e]
   refine X.trans ?_;rw[lV];refine oR acc<|wH (List.nodup_cons.mpr ⟨λz=>((i _).mp z).2 rfl,vt<|xL o⟩) (vt o) λk=>?_;show k∈wA x t::xr T [wA x t]↔_;rw[iK,i];by_cases z:k=wA x t
   ·subst z;simp[A]
   ·simp[z]
  ·rw[hI λz=>A<|v.mp z]
   exact p B.2 (λk H=>C k<|hZ _ H) s.2 o λh j=>by obtain⟨d,y,e⟩:=n h j;exact#[d,(List.mem_cons.mp y).elim (λw=>iq j<|by rw[<- e,w];exact A) id,e]
def G7(h:∀c∈row,c∉wj x):∀{o:List Int},(∀t∈o,t∈wj x)->o.foldl (Dl x) (row,a)=(row,a)
 | [],_=>rfl
 |t::o,k=>by
  rw[mH];have:Dl x (row,a) t=(row,a):=by unfold Dl;rw[hI λz=>h t z<|k t hW]
  rw[this];exact G7 h λt b=>k t<|hZ _ b
end
def FC :B0×List Int×Unit->(OL Int->B0×WL.Un×Unit->Prop)->129->Prop:=λp a b =>
 Bo p.1/\NP p.2.1/\if wl p.1 p.2.1=true then (∀o,Ord p.1 o->a #[Bx (o.foldl (Dl p.1) (p.2.1,[])).2] 65) else b XC 65
def Iw :B0×Int×Unit->(Unit->B0×WL.Un×Unit->Prop)->129->Prop:=λp a b=>wU p.1 p.2.1=false/\Ia p a b
abbrev V8(q:Cq)(k:Nat):=zg q C "take" AY (Iw) k
section
variable{x:B0}
def FD{x:Int}(c:w4 b):decide (x∈xr a b)=xor (decide<|x∈a) (decide<|x∈b):=by have e:=zo (l:=a) (x:=x)<|vt c;by_cases p:x∈a<;>by_cases q:x∈b<;>simp[p,q,e]
def Zf(f:w4 a)(d:w4 b)(h:xr a b=[]):a=b:=AM f d λx=>by have e:=FD (a:=a) (x:=x) d;rw[h]at e;generalize decide (x∈a)=p at e ⊢;generalize decide (x∈b)=q at e ⊢;cases p<;>cases q<;>simp at e<;>rfl
/-- the c of a sum -/
structure Fl(x:B0)(row h:List Int):Prop where
 ri:w4 h
 hs:∀k∈h,∃t∈wj x,wA x t=k
 nt:∀t∈wj x,t∉xr row (vM (wJ x) h)
 od:∃o,Ord x o
def NR(ok:Bo x){h:List Int}(a:∀k∈h,∃t∈wj x,wA x t=k):∀c∈h,(wJ x c).Nodup:=λc b=>by obtain⟨t,m,e⟩:=a c b;rw[<- e];exact vt (ok.Xt<|ok.Hy m).ri
def NS(d:Bo x)(f:∃o,Ord x o)(g:w4 h)(i:∀k∈h,∃t∈wj x,wA x t=k)(j:∀t∈wj x,t∉vM (wJ x) h):h=[]:=by
 obtain⟨o,a⟩:=f
 have p:=SU d (q:=o) (T:=h) (acc:=[]) (a.pm.nodup_iff.mpr d.nd) (λt b=>a.pm.mem_iff.mp b) a.up g λk l=>by obtain⟨t,m,e⟩:=i k l;exact#[t,a.pm.mem_iff.mpr m,e]
 rw[G7 (λc n z=>j c z n) λt b=>a.pm.mem_iff.mp b]at p;exact(List.nil_perm.mp p).trans rfl
def a1g(c:w4 b)(d:∀k∈a,∃t∈wj x,wA x t=k)(e:∀k∈b,∃t∈wj x,wA x t=k):∀k∈xr a b,∃t∈wj x,wA x t=k:=λk f=>(HI (vt c) f).elim (d k)<|e k
def Fl.Zg(c:Bo x)(f:Fl x r d)(g:Fl x r e):d=e:=by refine Zf f.ri g.ri<|NS c f.od (xL f.ri) (a1g g.ri f.hs g.hs) λt h=>rC ?_;have a:=iC<|f.nt t h;have b:=iC<|g.nt t h;rw[FD<|wp _ _]at a b;rw[Bm f.ri g.ri (NR c f.hs)<|NR c g.hs,FD<|wp _ _];revert a b;generalize decide (t∈r)=p;generalize decide (t∈vM (wJ x) d)=i;generalize decide (t∈vM (wJ x) e)=j;cases p<;>cases i<;>cases j<;>simp
def V9(l:Bo x):∀{q R acc:List Int},q.Nodup->(∀t∈q,t∈wj x)->(q.Pairwise λa b=>a∉CM x b (wA x b)) ->
  ∃d,(q.foldl (Dl x) (R,acc)).2=acc++d/\d.Nodup/\(∀k∈d,∃t∈q,wA x t=k)/\∀t∈q,xor (decide<|t∈R) (Sf (wJ x) t d)=false:=by
 intro q
 induction q with
 |nil=>exact λ_ _ _=>#[[],(kY _).symm,mY,(λk z=>by cases z),λt z=>by cases z]
 |cons t q C =>
  intro R acc g D m;have g:=List.nodup_cons.mp g;have m:=List.pairwise_cons.mp m;have n:=D t hW;have f:∀s∈q,s∈wj x:=λs d=>D s<|hZ _ d;have F:=(l.ht t _<|wV n).2.2.1;have G:=(l.Xt<|l.Hy n).ri
  have E:∀{d:List Int},(∀k∈d,∃s∈q,wA x s=k)->Sf (wJ x) t d=false:=λ{d} h=>by
   induction d with
   |nil=>rfl
   |cons k d r =>
    show xor (decide<|t∈wJ x k) (Sf (wJ x) t d)=false;rw[r λj H=>h j<|hZ _ H,oo];obtain⟨s,c,e⟩:=h k hW;refine iC λz=>m.1 s c<|xB.mpr ⟨by rw[e];exact z,λw=>g.1 (by rw[w];exact c),n⟩
  by_cases o:t∈R
  ·have u:Dl x (R,acc) t=(xr R<|wJ x<|wA x t,acc++[wA x t]):=cr o;rw[mH,u];obtain⟨d,v,y,i,A⟩:=C (R:=xr R<|wJ x<|wA x t) (acc:=acc++[wA x t]) g.2 f m.2;refine⟨wA x t::d,by rw[v,lV];rfl,List.nodup_cons.mpr ⟨λz=>?_,y⟩,λk B=>?_,λs c=>?_⟩
   ·obtain⟨s,c,e⟩:=i _ z;have I:=(l.ht t _<|wV n).2.2.2;have p:=(l.ht s _<|wV<|f s c).2.2.2;rw[e,I]at p;injection p with p;exact g.1 (by rw[p];exact c)
   ·rcases List.mem_cons.mp B with z|z
    ·exact#[t,hW,z.symm]
    ·obtain⟨s,c,e⟩:=i k z;exact#[s,hZ _ c,e]
   ·show xor (decide<|s∈R) (xor (decide<|s∈wJ x (wA x t))<|Sf (wJ x) s d)=false;rcases List.mem_cons.mp c with z|z
    ·rw[z,E i,decide_eq_true o,decide_eq_true F];rfl
    ·have:=A s z;rw[FD G,m6]at this;exact this
  ·have u:Dl x (R,acc) t=(R,acc):=hI o;rw[mH,u];obtain⟨d,v,y,i,A⟩:=C (R:=R) (acc:=acc) g.2 f m.2;refine#[d,v,y,λk B=>?_,λs c=>?_]
   ·obtain⟨s,c,e⟩:=i k B;exact#[s,hZ _ c,e]
   ·rcases List.mem_cons.mp c with z|z
    ·rw[z,E i,iC o];rfl
    ·exact A s z
def SV(b:Bo x)(a:Ord x o):Fl x row (Bx (o.foldl (Dl x) (row,[])).2):=by
 obtain⟨c,g,h,i,j⟩:=V9 b (q:=o) (R:=row) (acc:=[]) (a.pm.nodup_iff.mpr b.nd) (λt d=>a.pm.mem_iff.mp d) a.up;rw[g,nQ]
 have f:∀k∈Bx c,∃t∈wj x,wA x t=k:=λk l=>by obtain⟨t,m,e⟩:=i k<|zf.mp l;exact#[t,a.pm.mem_iff.mp m,e]
 refine#[Rq (Bf _)<|(wN c).nodup_iff.mpr h,f,λt d=>rC ?_,o,a];rw[FD<|wp _ _,xM<|NR b f,HN<|wN c];exact j t<|a.pm.mem_iff.mpr d
end
def w_up :B0×List Int×Unit->(OL Int->B0×WL.Un×Unit->Prop)->129->Prop:=λp a _ =>
 (Bo p.1/\NP p.2.1/\wl p.1 p.2.1=true/\(∀c∈p.2.1,wU p.1 c=false)/\wl p.1 (vM (wJ p.1) p.2.1)=true/\∀c,(lk p.1.rk c).isSome=true->0<=c/\c<63)/\∀h,Fl p.1 (vM (wJ p.1) p.2.1) h->a #[xr p.2.1 h] 65
def G8 :B0×List Int×Unit->(OL Int->B0×WL.Un×Unit->Prop)->129->Prop:=λp a _=>p.2.1.length<=1000/\a #[p.2.1.filter λc=>!wU p.1 c] 65
def zp :B0×List Int×Unit->(OL Int->B0×WL.Un×Unit->Prop)->129->Prop:=λp a _ =>
 (Bo p.1/\NP p.2.1/\wl p.1 p.2.1=true/\(∀c∈p.2.1,wU p.1 c=false)/\wl p.1 (vM (wJ p.1) p.2.1)=true/\∀c,(lk p.1.rk c).isSome=true->0<=c/\c<63) /\
  ∀h,Fl p.1 (vM (wJ p.1) p.2.1) h->(wl p.1 (xr p.2.1 h)=true/\(vM (wJ p.1)<|xr p.2.1 h).length<=1000)/\a ⟨(vM (wJ p.1)<|xr p.2.1 h).filter λc=>!wU p.1 c⟩ 65
section
variable{q:Cq} 
noncomputable abbrev Ix:iH:=top 18
noncomputable abbrev Iy:List Str:=["one","other"]
def SY:vp ["one","other"] Iy (vg Ix):=by walk_at "sc"
abbrev NT(q:Cq)(k:Nat):=xn q "added" Iy NQ k
def S6(F:CA q "added" Ix f e)(a:xn q "must_be_sum" ["row"] (Ek XS) 2)(B:Bn q.mg):Gq q 3 f e Iy NQ:=by
 refine' vr (wK (D':=Unit) (ms:=[]) (j:=0) F SY rfl rfl λg A b s H E k =>
   (vz (v6 (vw (vA a (vk (ss 0) vi))))
   (vz (v6 (vw (vA a 79)))
   (vj (vB (VE 0 1 rfl rfl B.sorted rfl B.set (pv 0) (pv 1))))))) λp l m h=>?_
 walk_at "wl"
 obtain⟨c,d,i⟩:=h;exact Kt c.ri<|Kt d.ri #[#[c.ri,d.ri,zb 0 63,by rw[xf];decide,c.mem,d.mem],i]
noncomputable abbrev FE:iH:=top 21
noncomputable abbrev FF:List Str:=["field","row"]
def yR:vp ["field","row","rest","heads","tail","head"] FF (vg FE):=by walk_at "sc"
abbrev Ku(q:Cq)(k:Nat):=xn q "filled" FF (FC) k
def Pn(F:CA q "filled" FE f Q)(ct:Am q.K C)(g:NT q 4)(a:zh q 4)(i:V7 q 4)(c:Pl q 4)(d:Kk q 4)(B:Bn q.mg):Gq q 5 f Q FF (FC):=by
 refine' vr (wK (D':=Unit) (ms:=[0]) (j:=4) F yR rfl rfl λR A y s H E hr =>
   (vz (v6 (vw (v7 0 a 79)))
   (vz (vC 2 yR.nd (Hz rfl B.list (v9 (ss 1))))
   (vz (vC 3 yR.nd 112)
   (vz (wS (is:=[]) (mb:=[0]) (D1:=(Bd C true)×(List Int)×(OL Int)×(OL Int)×Int×Un×Unit) (D2:=(Bd C true)×(List Int)×(OL Int)×(OL Int)×Int×Un×Unit) (vP q0q) yV rfl (wu (vO (DL 0 i))) (vH 4 (vy yR.nd))
   (vj (vQ (tw_cmI Q3 (ss 4) (wo 2) (by with_unfolding_all rfl))
   (Ni (D':=(Bd C true)×(List Int)×(OL Int)×(OL Int)×Int×Un×Unit) (vz (vC 5 yR.nd (v7 0 c (vk (ss 4) vi)))
   (vz (wF 3 (zC (ss 5)))
   (vj (vC 2 yR.nd (vA g (vD 2 (vk (vO (v7 0 d (vk (zC (ss 5)) vi))) vi))))))))
   vK)) q0q q0q)
   (vj (vB (Dg rfl B.sorted (wo 3))))))))) λp Kn L h=>?_
 walk_at "wl"
 obtain⟨n,M,h⟩:=h;show if asc p.2.1=true then (if wl p.1 p.2.1=true then _ else L XC 65) else L XS 65;rw[cr<|(yg p.2.1).mpr M.ri];by_cases N:wl p.1 p.2.1=true
 ·rw[cr N]at h ⊢;refine#[n,λo z=>?_]
  have S:o.length<=63:=by rw[z.pm.length_eq];have e:(wj p.1).length=p.1.ht.length:=h8 _;have:=n.len;lia
  refine vY (λ(r:List Int)(b:B0×List Int×OL Int×OL Int×WL.Un×WL.Un×Unit)=>b.1=p.1/\NP b.2.2.1.l/\(∀t∈r,t∈wj p.1)/\b.2.2.2.1.l.length+r.length<=63/\r.foldl (Dl p.1) (b.2.2.1.l,b.2.2.2.1.l)=o.foldl (Dl p.1) (p.2.1,[])) _ #[rfl,M,λt D=>z.pm.mem_iff.mp D,by simpa using S,rfl] ?_ ?_
  ·intro t r;refine a0F λT U O v W X Y=>?_;rintro _ ⟨rfl,w,G,I,m⟩ K P;have x:=G t hW;have u:∀t∈r,t∈wj p.1:=λt D=>G t<|hZ _ D;rw[iF]at I;rw[mH]at m;unfold Dl at m;by_cases q:t∈O.l
   ·rw[cr<|decide_eq_true q];rw[cr q]at m;have J:=n.Hy x;have Z:(lk p.1.rk t).isSome=true:=(n.ht t _<|wV x).1;have sl:hX=16777216:=jk;show if (lk p.1.rk t).isSome=true then _ else _;rw[cr Z];refine#[_,wV x,by show v.l.length<hX;lia,_,wV x,n.ok,?_];rw[cr J];refine#[w,n.Xt J,P _ #[rfl,w.xr<|n.Xt J,u,?_,m]];rw[io,iE];lia
   ·rw[hI<|by simpa using q];rw[hI q]at m;exact P _ #[rfl,w,u,by show v.l.length+r.length<=63;lia,m]
  ·refine a0F λT U O v W X Y=>?_;rintro⟨rfl,w,G,I,m⟩;have k:=h o z;rw[<- m]at k;exact#[by show v.l.length<64;simp at I;lia,k]
 ·rw[hI N]at h ⊢;exact h
noncomputable abbrev Zh:iH:=top 22
abbrev Zi:List Str:=["field","row"]
def a1h:vp ["field","row"] Zi (vg Zh):=by walk_at "sc"
abbrev a1i(q:Cq)(k:Nat):=xn q "up" Zi (w_up) k
def a1j(F:CA q "up" Zh f G)(R:Am q.K C)(l:NT q 6)(i:Ku q 6)(b:zh q 6)(a:Fy q 6)(g:AW q 6):Gq q 7 f G Zi (w_up):=by
 refine' vr (wK (D':=Unit) (ms:=[0]) (j:=0) F a1h rfl rfl λI A r s H E x =>
   (vz (v6 (vw (v7 0 b 79)))
   (vz (v6 (vw (v7 0 a 79)))
   (vj (vB (vA l (vk (ss 1) (vk (vO (vA i (vN 0 (vk (vO (v7 0 g 79)) vi)))) vi)))))))) λp S y h=>?_
 walk_at "wl"
 refine BF λJ u=>?_;obtain⟨⟨n,z,v,L,M,x⟩,N⟩:=h;have B:asc p.2.1=true:=(yg p.2.1).mpr z.ri;refine u ?_;show if asc p.2.1=true then (if wl p.1 p.2.1=true then _ else y XC 65) else y XS 65;rw[cr B,cr v];refine#[L,n.ok,?_];rw[cr B,cr v];have D:∀c∈p.2.1,(lk p.1.rk c).isSome=true:=λc O=>List.all_eq_true.mp v c O;refine#[n,#[wp _ _,λd P=>?_],?_]
 ·obtain⟨c,m,q⟩:=zH (λc m=>vt (n.Xt<|D c m).ri) P;exact(n.Xt<|D c m).lt d q
 ·show if wl p.1 (vM (wJ p.1) p.2.1)=true then _ else _;rw[cr M];intro o Q;have f:=SV n (row:=vM (wJ p.1) p.2.1) Q;refine#[z,#[f.ri,λk w=>?_],N _ f];obtain⟨t,m,e⟩:=f.hs k w;rw[<- e];exact x _<|n.Hy m
noncomputable abbrev Dt:iH:=top 24
abbrev Du:List Str:=["field","row"]
def L8:vp ["field","row"] Du (vg Dt):=by walk_at "sc"
def Kv:(["cell","field"]:List Str).Nodup:=by decide +kernel
abbrev Po(q:Cq)(k:Nat):=xn q "lone_of" Du (G8) k
def L9(F:CA q "lone_of" Dt f m)(v:Am q.K C)(a:Bp q 3):Gq q 4 f m Du (G8):=by
 refine' vr (wK (D':=Unit) (ms:=[0]) (j:=0) F L8 rfl rfl λn A e s H E o =>
   (vj (vB (xg (Ts:=["cell"]) (Fr:=["field"]) (idx:=[0]) (k:=1) (mb:=[1]) (is:=[]) (cl:=[("field",⇑s+1)]) rfl (wu (ss 1)) RN rfl (wT rfl) (λb d C g l=>(vH 0 (vy (i:=0) Kv rfl (lJ rfl)) q0q)) (λb d C g l=>(tws_one (tw_not (tw_val (vw (v7 1 a (vk (ss 0) vi) (hr:=o) (hx:=a0H))))))) (λb d C g l=>(ss 0)))))) λp w x h=>?_
 walk_at "wl"
 obtain⟨r,t⟩:=h;exact#[wc r,wm (q:=λc=>!wU p.1 c) (λk _ K u=>u) t]
noncomputable abbrev zq:iH:=top 23
noncomputable abbrev zr:List Str:=["field","row"]
def FG:vp ["field","row"] zr (vg zq):=by walk_at "sc"
abbrev Gn(q:Cq)(k:Nat):=xn q "slim_border" zr (zp) k
def FH(F:CA q "slim_border" zq f n)(B:Am q.K C)(b:Po q 8)(d:a1i q 8)(a:AW q 8):Gq q 9 f n zr (zp):=by
 refine' vr (wK (D':=Unit) (ms:=[0]) (j:=0) F FG rfl rfl λo A e s H E i =>
   (vj (vB (vA b (vN 0 (vk (vO (v7 0 a (vk (vO (vA d (vN 0 79))) vi))) vi)))))) λp D k h=>?_
 walk_at "wl"
 refine BF λg c=>?_;obtain⟨⟨l,m,r,t,u,i⟩,v⟩:=h;refine c ?_;refine#[#[l,m,r,t,u,i],λh f=>?_];refine BF λg c=>?_;obtain⟨⟨w,x⟩,y⟩:=v h f;have z:asc (xr p.2.1 h)=true:=(yg _).mpr<|xL m.ri;refine c ?_;refine#[l.ok,?_];show if asc (xr p.2.1 h)=true then (if wl p.1 (xr p.2.1 h)=true then _ else k XC 65) else k XS 65;rw[cr z,cr w];exact#[x,y]
end
noncomputable abbrev Ma:iH:=top 34
abbrev yZ:=Xl
abbrev RW:=Option<|Int×List Int
noncomputable def rowAt(a:List RW)(k:Int):RW:=if 0<=k then (a[k.toNat]?).join else none
noncomputable def eb(a:List RW)(k:Int):List Int:=((rowAt a k).map (·.2)).getD []
structure Vr(rows:List RW):Prop where
 ok:∀k r e,rowAt rows k=↑(r,e)->0<=r/\r<=12/\w4 e/\(∀c∈e,c<k/\∃e',rowAt rows c=↑(r-1,e'))/\vM (eb rows) e=[]
 ln:rows.length<=60
 sm:∀k r e,rowAt rows k=↑(r,e)->∀c∈e,c<35
def Lp(a:List RW)(q:Int×List Int):Prop:=w4 q.2/\(∀c∈q.2,∃e,rowAt a c=↑(q.1,e))/\vM (eb a) q.2=[]
noncomputable def CW(a:List RW):List Int:=(zb 0 a.length).filter λk=>(rowAt a k).isSome
noncomputable def CV:List RW:=[↑(0,[]),↑(0,[]),↑(0,[]),↑(0,[]),↑(1,[0,1]),↑(1,[0,2]),↑(1,[0,3]),↑(1,[1,2]),↑(1,[1,3]),↑(1,[2,3]),↑(2,[4,5,7]),↑(2,[4,6,8]),↑(2,[5,6,9]),↑(2,[7,8,9]),↑(3,[10,11,12,13])]
def Iz:Wf (Bg×Unit) Int (Bg×Unit):=λp a _=>∀r,0<=r->r<=12->a r (#[],())
def IA:Wf (List Int×List Int×Unit) (OL Int) (WL.Un×WL.Un×Unit):=λp a _=>(p.1.length<=1000/\p.2.1.length<=1000/\(p.1.filter λk=>!decide (k∈p.2.1)).length+(p.2.1.filter λk=>!decide (k∈p.1)).length<64)/\a #[jn p.1 p.2.1] 99
def Mb:Wf (List RW×Unit) (OL Int) (WL.Un×Unit):=λp a _=>p.1.length<1000/\a #[CW p.1] (#[],())
def Mc:Wf (Bg×List Int×Unit) (OL Int) (Bg×WL.Un×Unit):=λp a _=>p.2.1.length<60/\∀l,w4 l->(∀x∈l,x∈p.2.1)->a #[l] 99
def Md:Wf (List RW×List Int×Unit) (OL Int) (WL.Un×WL.Un×Unit):=λp a _=>Vr p.1/\(∀c∈p.2.1,(rowAt p.1 c).isSome=true)/\a #[vM (eb p.1) p.2.1] 99
def IB:Wf (Int×Unit) Bool (WL.Un×Unit):=λp a _=>a true (#[],())
def S7:Wf (List Int×Unit) Bool (WL.Un×Unit):=λp a _=>a true (#[],())
def Me:Wf (List Int×List Int×Unit) Bool (WL.Un×WL.Un×Unit):=λp a _=>a (decide<|p.1=p.2.1) 99
def NU:Wf (Int×Unit) (OL RW) (WL.Un×Unit):=λp a _=>0<=p.1/\a #[CV.take p.1.toNat] (#[],())
def Bq:Wf (OL RW×OL 96×Int×Bg×Unit) (OL Int) (OL RW×OL 96×WL.Un×Bg×Unit):=λp a _ =>
 Vr p.1.l/\p.1.l.length<=34/\p.2.1.l.length<=100/\(∀q∈p.2.1.l,Lp p.1.l q)/\0<=p.2.2.1/\p.2.2.1<=12 /\
 ∀e q,Vr (p.1.l++[↑(p.2.2.1,e)])->(∀u∈p.2.1.l++q,Lp (p.1.l++[↑(p.2.2.1,e)]) u)->q.length<=1->a #[e] (p.1,#[p.2.1.l++q],#[],#[],())
def S8:Wf (Bg×Int×Unit) (OL RW) (Bg×WL.Un×Unit):=λp b _=>(0<=p.2.1/\p.2.1<=20)/\∀a,Vr a->a.length<=35->b #[a] 99
structure xR(x:B0)(rows:List RW):Prop where
 up:x.up=rows.length
 rk:∀k,lk x.rk k=(81).map (·.1)
 bd:∀k,lk x.bd k=(81).map (·.2)
 ks:x.rk.map (·.1)=CW rows
 lb:x.bd.length<=rows.length
def S9 :B0×List RW×Unit->(B0->WL.Un×WL.Un×Unit->Prop)->(hJ->WL.Un×WL.Un×Unit->Prop)->Prop:=λp a _=>p.1=#[[],[],0,[],[]]/\Vr p.2.1/\∀x:B0,xR x p.2.1->x.ht=[]->x.th=[]->a x 99
def IC:Wf (Bool×Bool×Unit) Bool (WL.Un×WL.Un×Unit):=λp a _=>a (decide<|p.1=p.2.1) 99
def CP :B0×List RW×Unit->(Bool->B0×WL.Un×Unit->Prop)->129->Prop:=λp a _=>xR p.1 p.2.1/\Vr p.2.1/\a true 65
def yD{b:Type}{l:List b}{i:Int}(c:0<=i)(d:i<(l.length:Int)):∃x,FZ l i=↑x/\l[i.toNat]?=↑x/\x∈l:=by
 have a:i.toNat<l.length:=by lia
 have e:l[i.toNat]?=↑l[i.toNat]:=jL a;have:=M8 e;rw[show ((i.toNat:Nat):Int)=i by lia]at this;exact#[_,this,e,uX a]
def IE{n k:Int}(h:k∈zb 0 n):0<=k/\k<n:=by
 unfold zb at h;obtain⟨i,a,e⟩:=List.mem_map.mp h;have:=List.mem_range.mp a
 lia
def vE{k:Int}(h:rowAt rows k=↑y):0<=k/\k<(rows.length:Int)/\rows[k.toNat]?=↑(some y)/\FZ rows k=↑(some y):=by
 unfold rowAt at h;by_cases a:0<=k
 ·rw[cr a]at h
  cases e:rows[k.toNat]? with
  |none=>rw[e]at h;cases h
  |some z =>
   rw[e]at h;have h:z=↑y:=h;subst h;have f:=(List.getElem?_eq_some_iff.mp e).1;have b:k<(rows.length:Int):=by omega
   obtain⟨x,d,c,_⟩:=yD a b;rw[e]at c;cases c;exact#[a,b,rfl,d]
 ·rw[hI a]at h;cases h
def FJ{k:Int}(a:0<=k)(e:rows[k.toNat]?=↑z):rowAt rows k=z:=by unfold rowAt;rw[cr a,e];rfl
def Vr.IF(v:Vr rows){k:Int}(h:rowAt rows k=↑y):w4 y.2/\∀x∈y.2,x∈zb 0 35:=by obtain⟨_,_,b,c,_⟩:=v.ok k y.1 y.2 h;refine#[b,λx a=>?_];obtain⟨_,f,d⟩:=c x a;obtain⟨e,g,_⟩:=vE d;exact Ab e<|v.sm k y.1 y.2 h x a
def xt{k:Int}(h:rowAt rows k=↑y):eb rows k=y.2:=by unfold eb;rw[h];rfl
def Zj(a:List b){n:Int}(h:0<=n):Gc a none ↑n=a.take n.toNat:=by unfold Gc;rw[show ↑n=some ((n.toNat:Nat):Int) by rw[show ((n.toNat:Nat):Int)=n by lia],HT.M3,HT.JD];simp
def w6{n:Int}(a:0<n)(b:n<1073741824)(h:∀r,0<=r->r<n->c r 99):yZ (g,n,()) c d:=#[a,b,h]
def wx:rowAt (rows++[z]) (rows.length:Int)=z:=by refine FJ q0a ?_;rw[lX,kg<|hV _,qW];rfl
def wL{a:List RW}{k:Int}(h:k≠(a.length:Int)):rowAt (a++[z]) k=rowAt a k:=by
 unfold rowAt;by_cases b:0<=k
 ·rw[cr b,cr b];by_cases c:k.toNat<a.length
  ·rw[mo c]
  ·rw[kS (by rw[io,iE];lia),kS q0a]
 ·rw[hI b,hI b]
def IG{a:List RW}{k:Int}(h:k≠(a.length:Int)):eb (a++[z]) k=eb a k:=by unfold eb;rw[wL h]
def yA{k:Int}(h:rowAt rows k=↑y):k≠(rows.length:Int):=λz=>by
 have:=(vE h).2.1
 lia
def IH(v:Vr rows)(p:rows.length<=35)(m:∀r e,z=↑(r,e)->0<=r/\r<=12/\w4 e/\(∀c∈e,∃g,rowAt rows c=↑(r-1,g))/\vM (eb rows) e=[]):Vr (rows++[z]):=by
 refine#[λk r e h=>?_,by rw[io,iE];lia,λk r e h c n=>?_]
 rotate_left
 ·by_cases q:k=(rows.length:Int)
  ·rw[q,wx]at h;obtain⟨g,i⟩:=(m r e h).2.2.2.1 c n;have:=(vE i).2.1
   lia
  ·rw[wL q]at h;exact v.sm k r e h c n
 have j:∀{k r e},0<=r/\r<=12/\w4 e/\(∀c∈e,c<k/\∃g,rowAt rows c=↑(r-1,g))/\vM (eb rows) e=[]->0<=r/\r<=12/\w4 e/\(∀c∈e,c<k/\∃g,rowAt (rows++[z]) c=↑(r-1,g))/\vM (eb<|rows++[z]) e=[]:=λ{k r e} ⟨a,b,c,d,f⟩=>by
  refine#[a,b,c,λx l=>?_,?_]
  ·obtain⟨o,g,i⟩:=d x l;exact#[o,g,by rw[wL<|yA i];exact i]
  ·rw[<- f];refine ww λx l=>?_;obtain⟨_,g,i⟩:=d x l;exact IG<|yA i
 by_cases q:k=(rows.length:Int)
 ·rw[q,wx]at h;obtain⟨a,b,c,d,f⟩:=m r e h;refine j #[a,b,c,λx l=>?_,f];obtain⟨g,i⟩:=d x l;exact#[by have:=(vE i).2.1;lia,g,i]
 ·rw[wL q]at h;exact j<|v.ok k r e h
def FK(h:Lp rows u):Lp (rows++[z]) u:=by
 obtain⟨a,b,c⟩:=h;refine#[a,λx d=>?_,?_]
 ·obtain⟨e,q⟩:=b x d;exact#[e,by rw[wL<|yA q];exact q]
 ·rw[<- c];refine ww λx d=>?_;obtain⟨e,q⟩:=b x d;exact IG<|yA q
def Ta{r:Int}:Lp (rows++[↑(r,[])]) (r,[(rows.length:Int)]):=by
 refine#[j4 _ _,λx a=>#[[],?_],?_]
 ·rw[List.mem_singleton.mp a,wx]
 ·show xr [] (eb (rows++[↑(r,[])]) (rows.length:Int))=[];rw[xt (y:=(r,[])) wx];rfl
def Wa(h:w4 e):xr e e=[]:=Ec (xL h) iO λk=>by rw[zo<|vt h];by_cases q:k∈e<;>simp[q]
def Pp{c:Int}:vM f (l++[c])=xr (vM f l) (f c):=by unfold vM PU;rw[kC,List.foldl_append];rfl
def Pq{r:Int}(v:Vr rows)(p:w4 l)(h:∀c∈l,∃e,rowAt rows c=↑(r,e)) :
  (∀c∈vM (eb rows) l,∃n,rowAt rows c=↑(r-1,n))/\vM (eb rows) (vM (eb rows) l)=[]/\Lp (rows++[↑(r,vM (eb rows) l)]) (r,l++[(rows.length:Int)]):=by
 have m:∀c∈l,w4 (eb rows c)/\(∀d∈eb rows c,∃n,rowAt rows d=↑(r-1,n))/\vM (eb rows) (eb rows c)=[]:=λc i=>by obtain⟨e,j⟩:=h c i;obtain⟨_,_,a,b,f⟩:=v.ok c r e j;rw[xt j];exact#[a,λd k=>(b d k).2,f]
 have s:∀{d q},rowAt rows d=↑q->(eb rows d).Nodup:=λ{d q} k=>by rw[xt k];exact vt (v.IF k).1
 refine#[λc i=>?_,GQ λc i=>#[(m c i).1,λd k=>?_,(m c i).2.2],?_,λx o=>?_,?_]
 ·obtain⟨d,k,o⟩:=zH (λc i=>vt (m c i).1) i;exact(m d k).2.1 c o
 ·obtain⟨n,q⟩:=(m c i).2.1 d k;exact s q
 ·refine List.pairwise_append.mpr #[p,j4 _ _,λa t b u=>?_];obtain⟨e,j⟩:=h a t;rw[List.mem_singleton.mp u];exact(vE j).2.1
 ·rcases List.mem_append.mp o with z|z
  ·obtain⟨e,j⟩:=h x z;exact#[e,by rw[wL<|yA j];exact j]
  ·rw[List.mem_singleton.mp z];exact#[_,wx]
 ·show vM _ (l++[(rows.length:Int)])=[];rw[Pp,xt (y:=(r,vM (eb rows) l)) wx,ww (g:=eb rows) λc i=>?_]
  ·exact Wa<|wp _ _
  ·obtain⟨e,j⟩:=h c i;exact IG<|yA j
def Lp.sub{a:List RW}(c:a.length<=35)(h:Lp a u):∀x∈u.2,x∈zb 0 35:=λx b=>by obtain⟨e,q⟩:=h.2.1 x b;have:=vE q;exact Ab q0a q0a
def yh{k:Int}:k∈CW rows↔(81).isSome=true:=by unfold CW;rw[js];refine#[λh=>h.2,λh=>#[?_,h]];obtain⟨y,a⟩:=Option.isSome_iff_exists.mp h;have:=vE a;exact Ab this.1 this.2.1
def yi(a:List RW):(CW a).length<=a.length:=by
 have:=iL (λk=>(rowAt a k).isSome)<|zb 0 a.length;rw[xf]at this;unfold CW
 lia
def NW(c:List RW):w4 (CW c):=by
 refine jF _ ?_;unfold zb;rw[List.pairwise_map];refine pB ?_<|sW;intro a b h
 lia
def Tb(n:Nat):zb 0 ((n+1:Nat):Int)=zb 0 (n:Int)++[(n:Int)]:=by unfold zb;rw[show (((n+1:Nat):Int)-0).toNat=n+1 by lia,show ((n:Int)-0).toNat=n by lia,List.range_succ,kC];simp
def Wb:CW (rows++[z])=CW rows++if z.isSome=true then [(rows.length:Int)] else []:=by
 unfold CW;rw[io,iE,Tb,List.filter_append];congr 1
 ·refine m4 λk a=>?_;rw[wL (by have:=IE a;lia)]
 ·rw[jK,wx];rfl
def Tc:CW (rows++[↑y])=CW rows++[(rows.length:Int)]:=Wb
def G9{a:List RW}{k:Int}(h:(a.length:Int)<=k):rowAt a k=none:=by
 cases e:rowAt a k with
 |none=>rfl
 |some y=>have:=(vE e).2.1;omega
def Dv{a:List RW}{j k:Int}(c:0<=j):rowAt (a.set j.toNat none) k=if k=j then none else rowAt a k:=by
 by_cases q:k=j
 ·rw[cr q,q];unfold rowAt;rw[cr c];by_cases d:j.toNat<a.length
  ·rw[pc d];rfl
  ·rw[kS<|by rw[mG];lia];rfl
 ·rw[hI q];unfold rowAt;by_cases b:0<=k
  ·rw[cr b,cr b,nM q0a]
  ·rw[hI b,hI b]
def Td{a:List RW}{j:Int}(b:0<=j):CW (a.set j.toNat none)=(CW a).filter λk=>!decide (k=j):=by unfold CW;rw[mG,List.filter_filter];refine m4 λk _=>?_;rw[Dv b];by_cases q:k=j<;>simp[q]
section
variable{x:B0}{rows:List RW}
def xR.lr(c:xR x rows):x.rk.length<=rows.length:=by have:=congrArg oF c.ks;rw[h8]at this;rw[this];exact yi rows
def xR.okb(c:xR x rows)(v:Vr rows):Sk x:=by
 have l:=v.ln;have g:=c.lr;have i:=c.lb;refine#[λk h=>?_,λk b h=>?_,by rw[c.ks];exact(NW rows).imp Int.le_of_lt,q0a,q0a]
 ·rw[c.rk,i4]at h;rw[c.bd,i4];exact h
 ·rw[c.bd]at h
  cases e:rowAt rows k with
  |none=>rw[e]at h;cases h
  |some y =>
   rw[e]at h;cases h;obtain⟨_,_,a,b,_⟩:=v.ok k y.1 y.2 e;refine#[a,λd f=>?_];obtain⟨j,q⟩:=(b d f).2;have:=vE q;exact#[this.1,by have:=v.sm k y.1 y.2 e d f;lia]
def xR.wJ(c:xR x rows)(k:Int):wJ x k=eb rows k:=by unfold K7.wJ eb;rw[c.bd]
def xR.put(c:xR x rows){r:Int}:xR ({ x with rk:=pk x.rk x.up r,bd:=pk x.bd x.up e,up:=x.up+1}:B0) (rows++[↑(r,e)]):=by
 have n:rowAt rows x.up=none:=G9 (by rw[c.up];exact oO _);have a:lk x.rk x.up=none:=by rw[c.rk,n];rfl
 have b:lk x.bd x.up=none:=by rw[c.bd,n];rfl
 have d:=c.lr;have f:=c.lb;refine#[?_,λk=>?_,λk=>?_,?_,?_]
 ·show x.up+1=_;rw[c.up,io,iE]
  lia
 ·show lk (pk x.rk x.up r) k=_;rw[Af a,LX a];by_cases q:k=x.up
  ·rw[cr q,q,c.up,wx];rfl
  ·rw[hI q,wL (by rw[<- c.up];exact q),c.rk]
 ·show lk (pk x.bd x.up e) k=_;rw[Af b,LX b];by_cases q:k=x.up
  ·rw[cr q,q,c.up,wx];rfl
  ·rw[hI q,wL (by rw[<- c.up];exact q),c.bd]
 ·show (pk x.rk x.up r).map (·.1)=_;rw[Af a,kC,c.ks,Tc,<- c.up];rfl
 ·show (pk x.bd x.up e).length<=_;rw[Af b,io,io,iE,iE]
  lia
def xR.take(c:xR x rows){j:Int}(a:0<=j):xR ({ x with rk:=dk x.rk j,bd:=dk x.bd j}:B0) (rows.set j.toNat none):=by
 have d:=c.lr;have b:=c.lb;refine#[by rw[mG];exact c.up,λk=>?_,λk=>?_,?_,?_]
 ·show lk (dk x.rk j) k=_;rw[CN,Dv a,c.rk];split<;>rfl
 ·show lk (dk x.bd j) k=_;rw[CN,Dv a,c.bd];split<;>rfl
 ·show (dk x.rk j).map (·.1)=_;rw[Td a,<- c.ks];unfold dk;rw[rH];congr 1;refine m4 λe _=>?_;by_cases q:e.1=j<;>simp[q]
 ·rw[mG];exact iP (iL _ _) b
def xR.wl(c:xR x rows)(h:∀k∈row,(81).isSome=true):wl x row=true:=List.all_eq_true.mpr λk a=>by rw[c.rk,i4];exact h k a
def Te{r:Int}(c:xR x rows)(v:Vr rows)(l:0<=r)(m:r<=12)(i:w4 e)(g:∀d∈e,∃b,rowAt rows d=↑(r-1,b))(j:vM (eb rows) e=[])
 (k:∀a:B0,xR a (rows++[↑(r,e)])->a.ht=x.ht->a.th=x.th->h x.up (a,#[],#[],())):Kg (x,r,e,()) h o:=by
  have n:rowAt rows x.up=none:=G9 (by rw[c.up];exact oO _)
  refine#[c.okb v,(by show lk x.bd x.up=none;rw[c.bd,n];rfl),?_]
  show if r<0\/12<r then _ else if asc e=true then (if K7.wl x e=true then (if VW x e (r-1)=true then (if PU (e.map<|K7.wJ x)=[] then h x.up _ else _) else _) else _) else _
  rw[hI q0a,cr<|(yg e).mpr i,cr (c.wl λd f=>by obtain⟨b,q⟩:=g d f;rw[q];rfl),cr,cr]
  · exact k _ c.put rfl rfl
  · rw[mz λd _ => c.wJ d]
    exact j
  · refine List.all_eq_true.mpr λd f => decide_eq_true ?_
    obtain⟨b,q⟩:=g d f
    rw[c.rk,q]
    rfl
def NX(c:xR x rows){j h:Int}:h∈Y8 x j↔(rowAt rows h).isSome=true/\j∈eb rows h:=by
 unfold Y8;rw[js,i9,c.wJ];constructor
 ·rintro⟨a,b⟩;have:=xO a;rw[c.rk,i4]at this;exact#[this,b]
 ·rintro⟨a,b⟩;exact#[Ac (by rw[c.rk,i4];exact a),b]
def Wc(c:xR x rows){j:Int}:Y8 x j=[]↔∀h,j∉eb rows h:=by
 rw[List.eq_nil_iff_forall_not_mem];constructor
 ·intro z h a;refine z h ((NX c).mpr #[?_,a])
  cases e:rowAt rows h with
  |none=>unfold eb at a;rw[e]at a;cases a
  |some y=>rfl
 ·intro z h a;exact z h ((NX c).mp a).2
def Wd{j:Int}(c:xR x rows)(v:Vr rows)(b:(rowAt rows j).isSome=true)(e:∀h,j∉eb rows h)(f:wU x j=false)
 (k:∀a:B0,xR a (rows.set j.toNat none)->a.ht=x.ht->a.th=x.th->d () (a,#[],())):Iw (x,j,()) d i:=by
  refine#[f,c.okb v,?_]
  show if (lk x.rk j).isSome=true then (if Y8 x j=[] then d () _ else _) else _
  rw[cr (by rw[c.rk,i4];exact b),cr<|(Wc c).mpr e]
  obtain⟨y,g⟩:=Option.isSome_iff_exists.mp b
  exact k _ (c.take (vE g).1) rfl rfl
end
def yc{a:List RW}{n:Nat}{j:Int}:rowAt (a.take n) j=if j<(n:Int) then rowAt a j else none:=by
 unfold rowAt;by_cases b:0<=j
 ·rw[cr b,cr b,uq];by_cases c:j<(n:Int)
  ·rw[cr c,cr q0d]
  ·rw[hI c,hI q0d];rfl
 ·rw[hI b,hI b];split<;>rfl
def We(v:Vr rows)(n:Nat):Vr (rows.take n):=by
 refine#[λk r e h=>?_,iP (List.length_take_le' _ _) v.ln,λk r e h=>?_]
 rotate_left
 ·rw[yc]at h;split at h
  ·exact v.sm k r e h
  ·cases h
 rw[yc]at h;by_cases q:k<(n:Int)
 ·rw[cr q]at h;obtain⟨a,b,c,d,f⟩:=v.ok k r e h;refine#[a,b,c,λx g=>#[(d x g).1,?_],?_]
  ·obtain⟨l,i,j⟩:=d x g;exact#[i,by rw[yc,cr q0a];exact j]
  ·rw[<- f];refine ww λx g=>?_;have:=(d x g).1;unfold eb;rw[yc,cr q0a]
 ·rw[hI q]at h;cases h
noncomputable def LpB(a:List RW)(u:Int×List Int):Bool:=asc u.2&&u.2.all (λc=>decide ((rowAt a c).map (·.1)=↑u.1))&&decide (vM (eb a) u.2=[])
def NY{c r:Int}(h:(rowAt rows c).map (·.1)=↑r):∃e,rowAt rows c=↑(r,e):=by
 cases e:rowAt rows c with
 |none=>rw[e]at h;cases h
 |some y=>rw[e]at h;cases h;exact#[y.2,rfl]
def Tf(h:LpB rows u=true):Lp rows u:=by unfold LpB at h;rw[i7,i7]at h;exact#[(yg _).mp h.1.1,λc a=>NY<|kK<|List.all_eq_true.mp h.1.2 c a,kK h.2]
noncomputable def VrB(rows:List RW):Bool:=decide (rows.length<=27)&&(iG rows.length).all λk=>match rowAt rows (k:Int) with
 |none=>true
 |some (r,e)=>decide (0<=r)&&decide (r<=12)&&asc e&&e.all (λc=>decide (c<(k:Int))&&decide ((rowAt rows c).map (·.1)=↑(r-1)))&&decide (vM (eb rows) e=[])
def Tg(h:VrB rows=true):Vr rows:=by
 unfold VrB at h;rw[i7]at h;have f:=kK h.1
 suffices g:∀k r e,rowAt rows k=↑(r,e)->0<=r/\r<=12/\w4 e/\(∀c∈e,c<k/\∃d,rowAt rows c=↑(r-1,d))/\vM (eb rows) e=[] from#[g,q0d,λk r e a c b=>by
  have:=((g k r e a).2.2.2.1 c b).1;have:=vE a
  omega]
 intro k r e a;have q:=vE a;have z:=List.all_eq_true.mp h.2 k.toNat<|List.mem_range.mpr q0d;rw[show ((k.toNat:Nat):Int)=k by omega,a]at z;simp only[i7,i9,oX]at z;exact⟨z.1.1.1.1,z.1.1.1.2,(yg _).mp z.1.1.2,λc b=>#[(z.1.2 c b).1,NY (z.1.2 c b).2],z.2⟩
noncomputable def ZI(n:Nat):List 96:=(zb 0 n).filterMap λk=>if decide (k<4)=true then some (0,[k]) else none
noncomputable def lp1:List 96:=[(1,[4,5,7]),(1,[4,6,8]),(1,[5,6,9])]
noncomputable def chk(m:Nat):Bool:=VrB (CV.take m)&&(ZI (CV.take m).length).all (LpB<|CV.take m)&&decide ((ZI (CV.take m).length).length<=4)&&decide ((CV.take m).length<=15)&&(decide ((CV.take m).length<=9)||lp1.all (LpB<|CV.take m))
def Wg:(iG 16).all chk=true:=by decide +kernel
def Mg(c:w4 a)(d:w4 b)(f:∀k∈a,k∈zb 0 35)(g:∀k∈b,k∈zb 0 35):a.length<=1000/\b.length<=1000/\(a.filter λk=>!decide (k∈b)).length+(b.filter λk=>!decide (k∈a)).length<64:=by
 have i:=wO c f;have j:=wO d g;have h:=SX.zy ((a.filter λk=>!decide (k∈b))++b.filter λk=>!decide (k∈a)) (zb 0 35) (List.nodup_append.mpr #[(vt c).filter _,(vt d).filter _,λx l y m e=>?_]) λk n=>?_
 ·rw[io]at h;rw[xf]at i j h
  lia
 ·have q:=(List.mem_filter.mp l).2;rw[e]at q;simp[(List.mem_filter.mp m).1]at q
 ·rcases List.mem_append.mp n with z|z
  ·exact f k (List.mem_filter.mp z).1
  ·exact g k (List.mem_filter.mp z).1
def Wh{a b:List Int}(h:a.length+b.length<64):a.length<=1000/\b.length<=1000/\(a.filter λk=>!decide (k∈b)).length+(b.filter λk=>!decide (k∈a)).length<64:=by
 have c:=iL (λk=>!decide (k∈b)) a;have d:=iL (λk=>!decide (k∈a)) b
 lia
def Br(e:a=b)(k:c true 99):Me (a,b,()) c d:=by show c (decide<|a=b) _;rw[decide_eq_true e];exact k
def Th{a b:Bool}(e:a=b)(k:c true 99):IC (a,b,()) c d:=by show c (decide<|a=b) _;rw[decide_eq_true e];exact k
def xR.a1m(c:xR x rows)(k:Int):(lk x.rk k).isSome=decide (k∈CW rows):=by
 rw[c.rk,i4];by_cases q:(81).isSome=true
 ·rw[q,decide_eq_true<|yh.mpr q]
 ·rw[iC<|λz=>q<|yh.mp z];simpa using q
def xR.VX(c:xR x rows){k:Int}(h:rowAt rows k=↑y):VX x k=y.1:=by unfold K7.VX;rw[c.rk,h];rfl
def NZ{k:Int}{y:Int×List Int}{a:Int->B0×WL.Un×Unit->Prop}{b:hJ->B0×WL.Un×Unit->Prop}(c:xR x rows)(h:rowAt rows k=↑y)(g:a y.1 (x,#[],())):CI (x,k,()) a b:=by show if (lk x.rk k).isSome=true then a (K7.VX x k) _ else _;rw[cr (by rw[c.rk,h];rfl),c.VX h];exact g
def Pr{k:Int}{y:Int×List Int}{a:OL Int->B0×WL.Un×Unit->Prop}{b:hJ->B0×WL.Un×Unit->Prop}(c:xR x rows)(v:Vr rows)(h:rowAt rows k=↑y)(g:a #[y.2] (x,#[],())):AS (x,k,()) a b:=by refine#[c.okb v,?_];show if (lk x.rk k).isSome=true then a #[K7.wJ x k] _ else _;rw[cr (by rw[c.rk,h];rfl),c.wJ,xt h];exact g
def FL{n:Int}(k:b true (#[],())):IB (n,()) b c:=k
/-! ### a -/
def a1n(v:Vr rows)(n:rows.length<=59):Vr (rows++[↑(0,[])]):=by
 refine#[λk r e h=>?_,by rw[io,iE];lia,λk r e h c j=>?_]
 ·by_cases q:k=(rows.length:Int)
  ·rw[q,wx]at h;cases h;exact#[oO 0,q0q,iO,(λ_ z=>by cases z),rfl]
  ·rw[wL q]at h;obtain⟨a,b,c,d,f⟩:=v.ok k r e h;refine#[a,b,c,λx i=>?_,?_]
   ·obtain⟨m,l,g⟩:=d x i;exact#[m,l,by rw[wL<|yA g];exact g]
   ·rw[<- f];refine ww λx i=>?_;obtain⟨_,l,g⟩:=d x i;exact IG<|yA g
 ·by_cases q:k=(rows.length:Int)
  ·rw[q,wx]at h;cases h;cases j
  ·rw[wL q]at h;exact v.sm k r e h c j
def Wi:xR (#[[],[],0,[],[]]:B0) []:=by
 have n:∀k,rowAt [] k=none:=λk=>by unfold rowAt;split<;>rfl
 exact#[rfl,(λk=>by rw[n];rfl),(λk=>by rw[n];rfl),rfl,hV _]
structure Arr(x:B0)(a:List (Int×Int)):Prop where
 ok:Bo x
 nt:(x.th.map (·.1)).Nodup
 pm:(a.map (·.1)).Perm (wj x)
 hd:∀e∈a,wA x e.1=e.2
def Ti :B0×List RW×Bg×Int×Unit->(OL (Int×Int)->B0×WL.Un×Bg×WL.Un×Unit->Prop)->(hJ->B0×WL.Un×Bg×WL.Un×Unit->Prop)->Prop:=λp b _ =>
 xR p.1 p.2.1/\Vr p.2.1/\p.2.1.length<=35/\p.1.ht=[]/\p.1.th=[]/\(0<=p.2.2.2.1/\p.2.2.2.1<=1000)/\∀x a,xR x p.2.1->Arr x a->(a.map (·.1)).Pairwise (·<=·)->b #[a] (x,#[],#[],#[],())
def N0 :Bg×Int×Unit->(T3 (B0) (OL RW) (OL<|Int×Int)->Bg×WL.Un×Unit->Prop)->(hJ->Bg×WL.Un×Unit->Prop)->Prop:=λp c _ =>
 (0<=p.2.1/\p.2.1<=20)/\∀x b a,xR x b->Vr b->b.length<=35->Arr x a->(a.map (·.1)).Pairwise (·<=·)->c #[x,#[b],#[a]] 99
def II:Wf (List (Int×Int)×Unit) (OL Int) (WL.Un×Unit):=λp a _=>p.1.length<64/\a #[Bx (p.1.map (·.2))] (#[],())
noncomputable def Em(b:List RW)(a:List (Int×Int)):List Int:=(CW b).filter λk=>!decide (k∈a.map (·.1)++Bx (a.map (·.2)))
def FM:Wf (List (Int×Int)×Unit) (OL Int) (WL.Un×Unit):=λp a _=>p.1.length<64/\a #[p.1.map (·.1)] (#[],())
def Mh:Wf (List RW×List (Int×Int)×Unit) (OL Int) (WL.Un×WL.Un×Unit):=λp a _=>p.1.length<1000/\p.2.1.length<64/\a #[Em p.1 p.2.1] 99
def w_sum:Wf (List Int×Unit) Bool (WL.Un×Unit):=λp a _=>w4 p.1/\p.1.length<=1000/\a true (#[],())
def CQ:Wf (List Int×List Int×Unit) (OL Int) (WL.Un×WL.Un×Unit):=λp a _=>p.1.length<=1000/\a #[p.1.filter λk=>decide<|k∈p.2.1] 99
def a3l(h:w4 l){k:Int}(p:1<=k)(c:k<l.length):∃a b,FZ l (k-1)=↑a/\FZ l k=↑b/\a<b:=by obtain⟨a,d,e,_⟩:=yD (l:=l) (i:=k-1) q0a q0a;obtain⟨b,f,g,_⟩:=yD (l:=l) (i:=k) q0a c;obtain⟨j,m⟩:=List.getElem?_eq_some_iff.mp e;obtain⟨n,o⟩:=List.getElem?_eq_some_iff.mp g;refine#[a,b,d,f,?_];rw[<- m,<- o];exact(List.pairwise_iff_getElem.mp h) _ _ j n q0a
def a3m(k:a true (#[],())):S7 (l,()) a b:=k
def a1o{n k:Int}(h:k∈zb 1 n):1<=k/\k<n:=by unfold zb at h;obtain⟨i,a,e⟩:=List.mem_map.mp h;have:=List.mem_range.mp a;omega
def N3:Wf (List (Int×Int)×List (Int×Int)×Unit) Bool (WL.Un×WL.Un×Unit):=λp a _=>p.1=p.2.1/\p.1.length<64/\a true 99
def Tj :B0×List RW×List (Int×Int)×Unit->(Bool->B0×WL.Un×WL.Un×Unit->Prop)->(hJ->B0×WL.Un×WL.Un×Unit->Prop)->Prop:=λp Kn _ =>
 (xR p.1 p.2.1/\Vr p.2.1/\p.2.1.length<=35/\Arr p.1 p.2.2.1/\(p.2.2.1.map (·.1)).Pairwise (·<=·))/\Kn true 73
def Arr.eq{x:B0}{a:List (Int×Int)}(A:Arr x a)(s:(a.map (·.1)).Pairwise (·<=·)):(Bx<|wj x).map (λl=>(l,wA x l))=a:=by rw[zD ((wN _).trans A.pm.symm) (Bf _) s,kJ];exact(mz λy hy=>by show (y.1,wA x y.1)=y;rw[A.hd y hy]).trans<|List.map_id _
def Zk{l:List (Int×Int)}(h:l.Pairwise (λx y=>SX.Jk y x=false)):(l.map (·.1)).Pairwise (·<=·):=List.pairwise_map.mpr (h.imp λ{p q} z=>by rcases SX.Fj.mp z with z|z<;>omega)
def xV:∀{l:List b} {i:Nat},l[i]?=↑y->(y::l.eraseIdx i).Perm l
 | [],i,h=>by simp at h
 |a::l,0,h=>by
  have h:a=y:=by simpa using h
  rw[h];exact .refl _
 |a::l,i+1,h=>by rw[oT];exact(List.Perm.swap a y _).trans<|(xV<|by simpa using h).cons a
def Eo{a:Type}{l:List (Int×a)}{k:Int}:(dk l k).map (·.1)=(l.map (·.1)).filter λj=>decide (j≠k):=by unfold dk;rw[rH];rfl
section
variable{x:B0}{rows:List RW}{a:List (Int×Int)}
def Bo.a1p(b:Bo x){l:Int}(n:l∈wj x):Bo ({ x with ht:=dk x.ht l,th:=dk x.th (wA x l)}:B0):=by
 have o:∀{t:Int},t∈wj ({ x with ht:=dk x.ht l,th:=dk x.th (wA x l)}:B0)↔t∈wj x/\t≠l:=λ{t}=>by show t∈(dk x.ht l).map (·.1)↔_;rw[Eo,js,i9];exact Iff.rfl
 refine#[#[b.ok.kb,b.ok.bo,b.ok.ri,b.ok.lr,b.ok.lb],?_,?_,?_,λd f e=>?_,λd f e=>?_,λc h i=>?_,?_]
 ·show ((dk x.ht l).map (·.1)).Nodup;rw[Eo];exact b.nd.filter _
 ·exact jv (iL _ _) b.len
 ·exact jv (iL _ _) b.a1e
 ·have e:lk (dk x.ht l) d=↑f:=e;rw[CN]at e;by_cases q:d=l
  ·rw[cr q]at e;cases e
  ·rw[hI q]at e;have g:=b.ht d f e;refine#[g.1,g.2.1,g.2.2.1,?_];show lk (dk x.th<|wA x l) f=some d;rw[CN,hI λz=>?_]
   ·exact g.2.2.2
   ·have:=(b.ht l _<|wV n).2.2.2;rw[<- z,g.2.2.2]at this;injection this with this;exact q this
 ·have e:lk (dk x.th<|wA x l) f=↑d:=e;rw[CN]at e;by_cases q:f=wA x l
  ·rw[cr q]at e;cases e
  ·rw[hI q]at e;have g:=b.th d f e;show lk (dk x.ht l) d=↑f;rw[CN,hI λz=>?_]
   ·exact g
   ·rw[z,wV n]at g;injection g with g;exact q g.symm
 ·have h:(lk (dk x.ht l) c).isSome=true:=h;have i:(lk (dk x.th<|wA x l) c).isSome=true:=i;rw[CN]at h i;refine b.one c ?_ ?_
  ·by_cases q:c=l
   ·rw[cr q]at h;cases h
   ·rw[hI q]at h;exact h
  ·by_cases q:c=wA x l
   ·rw[cr q]at i;cases i
   ·rw[hI q]at i;exact i
 ·obtain⟨r,p⟩:=b.acy;refine#[r,λk m t j=>?_];have m:=o.mp m
  have s:wA ({ x with ht:=dk x.ht l,th:=dk x.th (wA x l)}:B0) k=wA x k:=by unfold wA;show (lk (dk x.ht l) k).getD 0=_;rw[CN,hI m.2]
  rw[s]at j;have j:=xB.mp j;exact p k m.1 t<|xB.mpr #[j.1,j.2.1,(o.mp j.2.2).1]
def Bo.FW(d:Bo x){low high:Int}(w:(lk x.rk low).isSome=true)(y:(lk x.rk high).isSome=true)(f:low∈wJ x high)(A:wU x low=false)(B:wU x high=false)(C:low≠high)(ac:ZH (FW x low high))(D:x.ht.length+1<64)(E:x.th.length+1<64):Bo (FW x low high):=by
 have p:=Bool.or_eq_false_iff.mp A;have r:=Bool.or_eq_false_iff.mp B;have o:lk x.ht low=none:=by simpa using p.1
 have F:lk x.th low=none:=by simpa using p.2
 have G:lk x.ht high=none:=by simpa using r.1
 have s:lk x.th high=none:=by simpa using r.2
 have t:(K7.FW x low high).ht=x.ht++[(low,high)]:=Af o;have H:(K7.FW x low high).th=x.th++[(high,low)]:=Af s;have j:∀k,lk (K7.FW x low high).ht k=if k=low then some high else lk x.ht k:=λk=>yI;have l:∀k,lk (K7.FW x low high).th k=if k=high then some low else lk x.th k:=λk=>yI;refine#[#[d.ok.kb,d.ok.bo,d.ok.ri,d.ok.lr,d.ok.lb],?_,by rw[t];simpa using D,by rw[H];simpa using E,λm n e=>?_,λm n e=>?_,λc h i=>?_,ac]
 ·show ((K7.FW x low high).ht.map (·.1)).Nodup;rw[t,kC];refine List.nodup_append.mpr #[d.nd,q0o,λa u b f z=>?_];have f:b=low:=by simpa using f
  rw[z,f]at u;have:=xO u;rw[o]at this;cases this
 ·rw[j]at e;by_cases q:m=low
  ·rw[cr q]at e;injection e with e;subst e;subst q;exact#[w,y,f,by rw[l,cr rfl]]
  ·rw[hI q]at e;have g:=d.ht m n e;refine#[g.1,g.2.1,g.2.2.1,?_];rw[l,hI λz=>?_]
   ·exact g.2.2.2
   ·rw[z,s]at g;cases g.2.2.2
 ·rw[l]at e;by_cases q:n=high
  ·rw[cr q]at e;injection e with e;subst e;subst q;rw[j,cr rfl]
  ·rw[hI q]at e;have g:=d.th m n e;rw[j,hI λz=>?_]
   ·exact g
   ·rw[z,o]at g;cases g
 ·rw[j]at h;rw[l]at i;by_cases q:c=low
  ·rw[hI λz=>C<|q.symm.trans z,q,F]at i;cases i
  ·rw[hI q]at h;by_cases v:c=high
   ·rw[v,G]at h;cases h
   ·rw[hI v]at i;exact d.one c h i
def xR.same(c:xR x rows){y:B0}(b:y.rk=x.rk)(d:y.bd=x.bd)(e:y.up=x.up):xR y rows:=by obtain⟨f,g,h,i,j⟩:=c;exact#[e.trans f,by rw[b];exact g,by rw[d];exact h,by rw[b];exact i,by rw[d];exact j]
def Arr.mem(A:Arr x a)(h:e∈a):e.1∈wj x:=A.pm.mem_iff.mp<|List.mem_map.mpr #[e,h,rfl]
def Arr.pop(A:Arr x a){i:Nat}(h:a[i]?=↑y):Arr ({ x with ht:=dk x.ht y.1,th:=dk x.th (wA x y.1)}:B0) (a.eraseIdx i):=by
 have b:(y::a.eraseIdx i).Perm a:=xV h;have g:y∈a:=b.mem_iff.mp hW;have j:=A.mem g
 have d:(y.1::(a.eraseIdx i).map (·.1)).Perm (wj x):=by
  have:=(b.map (λe:Int×Int=>e.1)).trans A.pm
  rwa [iJ]at this
 have c:=List.nodup_cons.mp<|d.nodup_iff.mpr A.ok.nd;refine⟨A.ok.a1p j,?_,?_,λe f=>?_⟩
 ·show ((dk x.th<|wA x y.1).map (·.1)).Nodup;rw[Eo];exact A.nt.filter _
 ·show ((a.eraseIdx i).map (·.1)).Perm ((dk x.ht y.1).map (·.1));rw[Eo];refine wH c.2 (A.ok.nd.filter _) λk=>?_;rw[js,i9];have:=d.mem_iff (a:=k);rw[iK]at this;constructor
  ·exact λz=>#[this.mp<|.inr z,λw=>c.1<|w▸z]
  ·exact λz=>(this.mpr z.1).elim (λw=>iq w z.2) id
 ·have l:e∈a:=b.mem_iff.mp<|hZ _ f;have m:e.1≠y.1:=λz=>c.1<|z▸List.mem_map.mpr #[e,f,rfl];show (lk (dk x.ht y.1) e.1).getD 0=e.2;rw[CN,hI m];exact A.hd e l
def Arr.Pu(A:Arr x a)(c:xR x rows)(v:rows.length<=35):x.ht.length<=35/\x.th.length<=35/\a.length<=35:=by
 have ln:=c.lr;have rn:(x.rk.map (·.1)).Nodup:=by rw[c.ks];exact vt<|NW rows
 have h1:(wj x).length<=(x.rk.map (·.1)).length:=LZ A.ok.nd rn λk hk=>Ac (A.ok.ht k _<|wV hk).1
 have h2:(x.th.map (·.1)).length<=(x.rk.map (·.1)).length:=LZ A.nt rn λk hk=>by obtain⟨l,e⟩:=Option.isSome_iff_exists.mp<|xO hk;exact Ac (A.ok.ht l k<|A.ok.th l k e).2.1
 have h3:=A.pm.length_eq;have e:(wj x).length=x.ht.length:=h8 _;rw[h8]at h1 h2 h3;rw[h8]at h2
 lia
def Arr.add(A:Arr x a)(c:xR x rows)(v:rows.length<=35){low high:Int}(k:(lk x.rk low).isSome=true)(l:(lk x.rk high).isSome=true)(d:low∈wJ x high)(f:wU x low=false)(g:wU x high=false)(m:low≠high)(ac:ZH (FW x low high)):Arr (FW x low high) (a++[(low,high)]):=by
 have q:=A.Pu c v;have h:lk x.ht low=none:=by simpa using(Bool.or_eq_false_iff.mp f).1
 have i:lk x.th high=none:=by simpa using(Bool.or_eq_false_iff.mp g).2
 have n:(K7.FW x low high).ht=x.ht++[(low,high)]:=Af h;have o:(K7.FW x low high).th=x.th++[(high,low)]:=Af i;refine#[A.ok.FW k l d f g m ac q0a q0a,?_,?_,λe p=>?_]
 ·rw[o,kC];refine List.nodup_append.mpr #[A.nt,q0o,λa j b d z=>?_];have d:b=high:=by simpa using d
  rw[z,d]at j;have:=xO j;rw[i]at this;cases this
 ·show ((a++[(low,high)]).map (·.1)).Perm ((K7.FW x low high).ht.map (·.1));rw[n,kC,kC];exact A.pm.append_right _
 ·show (lk (pk x.ht low high) e.1).getD 0=e.2;rw[yI];rcases List.mem_append.mp p with z|z
  ·have:e.1≠low:=λw=>by have:=xO<|A.mem z;rw[w,h]at this;cases this
   rw[hI this];exact A.hd e z
  ·have z:e=(low,high):=by simpa using z
   rw[z,cr rfl];rfl
def Tk(v:Vr rows){k:Int}(d:rowAt rows k=↑y):y.2.length<=95:=by
 have b:=v.ok k y.1 y.2 d
 have:=wO (U:=CW rows) b.2.2.1 λc e=>by obtain⟨_,g,f⟩:=b.2.2.2.1 c e;exact yh.mpr (by rw[f];rfl)
 have h:=yi rows;have i:=v.ln
 lia
def Wj(i:Sk x)(b:x.ht=[])(d:x.th=[]):Arr x []:=by
 have f:wj x=[]:=by unfold wj;rw[b];rfl
 refine#[#[i,by rw[f];exact mY,by rw[b];decide,by rw[d];decide,λl h e=>?_,λl h e=>?_,λc e=>?_,λ_=>0,λl g=>?_],by rw[d];exact mY,by rw[f];exact .refl _,λe j=>by cases j]
 ·rw[b]at e;cases e
 ·rw[d]at e;cases e
 ·rw[b]at e;cases e
 ·rw[f]at g;cases g
def Tl{i:Nat}(A:Arr x a)(c:xR x rows)(h:a[i]?=↑y)(k:∀v (b:B0),xR b rows->Arr b (a.eraseIdx i)->d v (b,#[],())):Ij (x,y.1,()) d g:=by have f:=A.mem<|j0 h;have e:=wV f;refine#[A.ok,?_];show if (lk x.rk y.1).isSome=true then (if (lk x.ht y.1).isSome=true then d (wA x y.1) _ else _) else _;rw[cr (A.ok.ht _ _ e).1,cr<|by rw[e];rfl];exact k _ _ (c.same rfl rfl rfl)<|A.pop h
def Zl{low high:Int}(A:Arr x a)(c:xR x rows)(v:Vr rows)(l:rows.length<=35)(b:rowAt rows high=↑y)(f:low∈y.2)
 (g:∀D∈[XT,XR],d D (x,#[],#[],()))(k:∀e:B0,xR e rows->Arr e (a++[(low,high)])->m () (e,#[],#[],())):Sz (x,low,high,()) m d:=by
  have n:=v.ok high y.1 y.2 b
  obtain⟨o,u,p⟩:=n.2.2.2.1 low f
  have h:(lk x.rk low).isSome=true:=by rw[c.rk,p];rfl
  have i:(lk x.rk high).isSome=true:=by rw[c.rk,b];rfl
  have j:low∈K7.wJ x high:=by rw[c.wJ,xt b];exact f
  refine#[A.ok,?_]
  show if (lk x.rk low).isSome=true then (if (lk x.rk high).isSome=true then (if low∈K7.wJ x high then (if wU x low=true\/wU x high=true then d XT _ else d XR _/\_) else _) else _) else _
  rw[cr h,cr i,cr j]
  by_cases t:wU x low=true\/wU x high=true
  · rw[cr t]; exact g XT q0o
  · rw[hI t]
    have r:wU x low=false:=by cases q:wU x low with|true=>exact iq (.inl q) t|false=>rfl
    have s:wU x high=false:=by cases q:wU x high with|true=>exact iq (.inr q) t|false=>rfl
    exact#[g XR q0o,λac=>k _ (c.same rfl rfl rfl)<|A.add c l h i j r s (Int.ne_of_lt o) ac]
end
section
variable{q:Cq} 
noncomputable abbrev Mi:iH:=top 36
noncomputable abbrev Mj:List Str:=["_law_bag_here"]
def Wk:vp ["_law_bag_here"] Mj (vg Mi):=by walk_at "sc"
abbrev Zm(q:Cq)(k:Nat):=xn q "_law_rank" Mj Iz k
def Wl(F:CA q "_law_rank" Mi f i)(a:xn q "_law_pull" ["_law_bag_here","_law_many"] yZ 1):Gq q 2 f i Mj Iz:=by
 refine' vr (wK (D':=Unit) (ms:=[0]) (j:=0) F Wk rfl rfl λk A c s H E t =>
   (vz (vQ (tw_cm AG (vw (vA a (vN 0 (vk vn vi)))) vn)
   (vj<|vB<|vA a<|vN 0<|vk vn vi)
   vK)
   (vj (vB (vG (xE (v9 (vO (vJ (vo vn (vo vn (vo vn (vo vn (vo vn (vo vn 108))))))))) (vw (vA a (vN 0 (vk vn vi)))))))))) λp m u h=>?_
 walk_at "wl"
 have h:∀r,0<=r->r<=12->m r (#[],()):=h;refine w6 q0q q0q λr v w=>?_
 try dsimp only
 by_cases q:r=11
 ·rw[cr<|decide_eq_true q];refine w6 q0q q0q λs d b=>h s d ?_;have b:s<13:=b
  lia
 ·rw[hI<|by simpa using q];refine w6 q0q q0q λs d b=>?_;refine BF λn e=>?_;have b:s<8:=b;obtain⟨x,o,_,g⟩:=yD (l:=[(0:Int),0,1,1,1,2,2,3]) d (by simpa using b);refine e ?_;refine#[x,o,h x ?_ ?_]
  ·simp at g;lia
  ·simp at g;lia
noncomputable abbrev Ml:iH:=top 37
noncomputable abbrev Mm:List Str:=["_law_one","_law_other"]
def N4:vp ["_law_one","_law_other","_law_left"] Mm (vg Ml):=by walk_at "sc"
def To:(["_law_x","_law_other"]:List Str).Nodup:=by decide +kernel
def Tq:(["_law_x","_law_one"]:List Str).Nodup:=by decide +kernel
abbrev IJ(q:Cq)(k:Nat):=xn q "_law_join" Mm IA k
def Wm(F:CA q "_law_join" Ml f l)(B:Bn q.mg):Gq q 2 f l Mm IA:=by
 refine' vr (wK (D':=Unit) (ms:=[]) (j:=1) F N4 rfl rfl λm A e s H E r =>
   (vz (Bj (Ts:=["_law_x"]) (Fr:=["_law_other"]) (idx:=[1]) (k:=1) (mb:=[1]) (is:=[]) (cl:=[("_law_other",⇑s+1+1)]) 2 N4.nd rfl rfl rfl q0q rfl (wu (ss 0)) RN rfl (wT rfl) (λa b C c d=>(vH 0 (vy To))) (λa b C c d=>(tws_one (tw_cmI EQ (ss 0) (v9 (ss 1)) (by with_unfolding_all rfl)))) (λa b C c d=>(ss 0)))
   (vj (vB (Dg rfl B.sorted (v9 (vO (BY (wo 2) (v9 (vO (xg (Ts:=["_law_x"]) (Fr:=["_law_one"]) (idx:=[0]) (k:=1) (mb:=[1]) (is:=[]) (cl:=[("_law_one",⇑s+1)]) rfl (wu (ss 1)) RN rfl (wT rfl) (λa b C c d=>(vH 0 (vy Tq))) (λa b C c d=>(tws_one (tw_cmI EQ (ss 0) (v9 (ss 1)) (by with_unfolding_all rfl)))) (λa b C c d=>(ss 0))))))))))))) λp t u h=>?_
 walk_at "wl"
 refine BF λn g=>?_;obtain⟨⟨v,w,x⟩,o⟩:=h;refine g ?_;refine#[wc q0d,wm (q:=λk=>!decide (k∈p.2.1)) (λk _ K i=>i) ?_];refine#[wc (show p.2.1.length<=1000 by omega),wm (q:=λk=>!decide (k∈p.1)) (λk _ K i=>i) ?_];have y:=iL (λk=>!decide (k∈p.2.1)) p.1;have z:=iL (λk=>!decide (k∈p.1)) p.2.1;refine#[wc ?_,?_,o]
 ·show (p.1.filter λk=>!decide (k∈p.2.1)).length+(p.2.1.filter λk=>!decide (k∈p.1)).length<=1000;omega
 ·rw[io];show (p.1.filter λk=>!decide (k∈p.2.1)).length+(p.2.1.filter λk=>!decide (k∈p.1)).length<64;omega
noncomputable abbrev Mn:iH:=top 38
noncomputable abbrev Mo:List Str:=["_law_rows_here"]
def Wn:vp ["_law_rows_here"] Mo (vg Mn):=by walk_at "sc"
def Tr:(["_law_k","_law_rows_here"]:List Str).Nodup:=by decide +kernel
abbrev IK(q:Cq)(k:Nat):=xn q "_law_here" Mo Mb k
def Wp(F:CA q "_law_here" Mn f o)(B:Bn q.mg):Gq q 2 f o Mo Mb:=by
 refine' vr (wK (D':=Unit) (ms:=[]) (j:=0) F Wn rfl rfl λr A c s H E D =>
   (vj (vB (xg (Ts:=["_law_k"]) (Fr:=["_law_rows_here"]) (idx:=[0]) (k:=1) (mb:=[1]) (is:=[]) (cl:=[("_law_rows_here",⇑s+1)]) rfl (xF rfl B.range (xv rfl B.len (v9 (ss 0)))) RN rfl (wT rfl) (λa b C i m=>(vH 0 (vy Tr))) (λa b C i m=>(tws_one (tw_cm Nl (xE (v9 (ss 1)) (ss 0)) Lu))) (λa b C i m=>(ss 0)))))) λp G I h=>?_
 walk_at "wl"
 obtain⟨J,t⟩:=h;refine#[#[q0a,q0a],?_,wm (q:=λk=>(rowAt p.1 k).isSome) (λk d K e=>?_) t]
 ·rw[xf];exact wc q0a
 ·obtain⟨n,u⟩:=IE d;refine BF λv g=>?_;obtain⟨x,w,z,_⟩:=yD (l:=p.1) n u;refine g ?_;rw[FJ n z]at e;refine#[x,w,?_]
  cases x with
  |none=>exact e
  |some y=>exact e
noncomputable abbrev Mp:iH:=top 39
noncomputable abbrev Mr:List Str:=["_law_bag_here","_law_row_here"]
def Bu:vp ["_law_bag_here","_law_row_here","_law_found","_law_count","_law_k"] Mr (vg Mp):=by walk_at "sc"
abbrev Tt(q:Cq)(k:Nat):=xn q "_law_some" Mr Mc k
def Wq(F:CA q "_law_some" Mp f P)(a:xn q "_law_pull" ["_law_bag_here","_law_many"] yZ 2)(d:IJ q 2)(B:Bn q.mg):Gq q 3 f P Mr Mc:=by
 refine' vr (wK (D':=Unit) (ms:=[0]) (j:=3) F Bu rfl rfl λQ A v s H E R =>
   (vz (vC 2 Bu.nd 112)
   (vz (vQ (tw_cmL (HD R.units) (v9 (ss 1)) (v9 (vO 112)))
   (vj<|ze 2<|pv 2)
   vK)
   (vz (vC 3 Bu.nd (vA a (vN 0 (vk vn vi))))
   (vz (vQ (tw_cm AG (ss 3) vn)
   (vj<|vC 3 Bu.nd<|vG<|QX BO (vw<|vA a<|vN 0<|vk vn vi)<|xv rfl B.len<|v9<|ss 1)
   vK)
   (vz (wS (is:=[]) (mb:=[0]) (D1:=Bg×(List Int)×(OL Int)×Int×Int×Unit) (D2:=Bg×(List Int)×(OL Int)×Int×Int×Unit) (vP q0q) yV rfl (xF rfl B.range (ss 3)) (vH 4 (vy Bu.nd))
   (vj (vC 2 Bu.nd (vA d (vD 2 (vk (vO (vJ (vo (xE (v9 (ss 1)) (vw (vA a (vN 0 (vk (xv rfl B.len (v9 (ss 1))) vi))))) vI))) vi))))) q0q q0q)
   (vj (ze 2 (pv 2))))))))) λp L o h=>?_
 walk_at "wl"
 obtain⟨hl,M⟩:=h;by_cases w:p.2.1=[]
 ·rw[cr<|decide_eq_true w];exact M [] iO λ_ z=>by cases z
 rw[hI<|by simpa using w]
 have D:0<(p.2.1.length:Int):=by
  have:=List.length_pos_iff.mpr w
  lia
 have g:∀(n c:Int),HF (λ(x:Int)(b:Bg×List Int×OL Int×Int×WL.Un×Unit) G (Kr:OL Int->Bg×WL.Un×Unit->Prop) o=>yZ (b.1,(b.2.1.length:Int),()) (λx t=>∃k,FZ b.2.1 x=↑k/\IA (b.2.2.1.l,[k],()) (λx m=>G (t.1,b.2.1,x,b.2.2.2.1,#[],b.2.2.2.2.2)) λC m=>o C (t.1,#[],())) λC t=>o C (t.1,#[],()))
   (zb 0 n) (#[],p.2.1,#[[]],c,#[],p.2.2) (λN=>L N.2.2.1 (N.1,#[],())) L o:=by
  intro n c;refine vY (λ(r:List Int)(b:Bg×List Int×OL Int×Int×WL.Un×Unit)=>b.2.1=p.2.1/\w4 b.2.2.1.l/\∀x∈b.2.2.1.l,x∈p.2.1) (zb 0 n) #[rfl,iO,(λ_ z=>by cases z)] ?_ ?_
  ·rintro x r b _ ⟨e,i,g2⟩ K S;rw[e];refine w6 D q0a λr O u=>?_;refine BF λT I=>?_;obtain⟨y,U,_,W⟩:=yD (l:=p.2.1) O u;have X:=wO i g2;refine I ?_;refine#[y,U,Wh (show b.2.2.1.l.length+1<64 by lia),S _ #[rfl,HK i<|j4 _ _,λz Y=>?_]];rcases HJ.mp Y with⟨J,_⟩|⟨J,_⟩
   ·exact g2 z J
   ·rw[List.mem_singleton.mp J];exact W
  ·rintro b ⟨_,i,g2⟩;exact M _ i g2
 refine w6 q0q q0q λr O u=>?_
 try dsimp only
 have u:r<7:=u;by_cases q:r=6
 ·rw[cr<|decide_eq_true q];refine w6 q0q q0q λs Z i=>?_;have i:s<3:=i
  have b1:s*(p.2.1.length:Int)<=2*60:=by
   have:s*(p.2.1.length:Int)<=2*(p.2.1.length:Int):=Int.mul_le_mul_of_nonneg_right q0a q0a
   lia
  have b0:0<=s*(p.2.1.length:Int):=Int.mul_nonneg Z q0a;exact#[.inl #[q0a,q0a],#[q0a,q0a],g _ _]
 ·rw[hI<|by simpa using q];exact#[#[q0a,q0a],g _ _]
noncomputable abbrev Ms:iH:=top 40
noncomputable abbrev Mt:List Str:=["_law_rows_here","_law_row_here"]
def Ep:vp ["_law_rows_here","_law_row_here","_law_found","_law_cell"] Mt (vg Ms):=by walk_at "sc"
abbrev Tu(q:Cq)(k:Nat):=xn q "_law_edge" Mt Md k
def Wr(F:CA q "_law_edge" Ms f t)(a:IJ q 2):Gq q 3 f t Mt Md:=by
 refine' vr (wK (D':=Unit) (ms:=[]) (j:=2) F Ep rfl rfl λu A i s H E O =>
   (vz (vC 2 Ep.nd 112)
   (vz (wS (is:=[]) (mb:=[]) (D1:=(List RW)×(List Int)×(OL Int)×Int×Unit) (D2:=(List RW)×(List Int)×(OL Int)×Int×Unit) (vP q0q) yV rfl (wu (ss 1)) (vH 3 (vy Ep.nd))
   (vj (vC 2 Ep.nd (vA a (vD 2 (vk (BX (zC (xE (v9 (ss 0)) (ss 3)))) vi))))) q0q q0q)
   (vj (ze 2 (pv 2)))))) λp w P h=>?_
 walk_at "wl"
 obtain⟨v,B,C⟩:=h;refine vY (λ(r:List Int)(b:List RW×List Int×OL Int×WL.Un×Unit)=>b.1=p.1/\(∀c∈r,(rowAt p.1 c).isSome=true)/\w4 b.2.2.1.l/\(∀x∈b.2.2.1.l,x∈zb 0 35)/\(r.map<|eb p.1).foldl xr b.2.2.1.l=vM (eb p.1) p.2.1) p.2.1 ⟨rfl,B,iO,(λ_ z=>by cases z),rfl⟩ ?_ ?_
 ·rintro c r b _ ⟨e,o,g1,g2,d⟩ K D;refine BF λG k=>?_;obtain⟨y,m⟩:=Option.isSome_iff_exists.mp<|o c hW;obtain⟨_,_,_,I⟩:=vE m;obtain⟨g,n⟩:=v.IF m;refine k ?_;rw[e];have J:=wO g1 g2;have L:=wO g n;rw[xf]at J L;refine⟨_,I,y,rfl,Mg g1 g g2 n,D _ ⟨rfl,λc M=>o c<|hZ _ M,HK g1 g,λx N=>?_,?_⟩⟩
  ·rcases HJ.mp N with⟨z,_⟩|⟨z,_⟩
   ·exact g2 x z
   ·exact n x z
  ·rw[<- d];show (r.map<|eb p.1).foldl xr (jn b.2.2.1.l y.2)=(r.map<|eb p.1).foldl xr (xr b.2.2.1.l<|eb p.1 c);rw[Rt g1 g,xt m]
 ·rintro b ⟨_,_,_,_,d⟩;have d:b.2.2.1.l=vM (eb p.1) p.2.1:=d;show w b.2.2.1 _;rw[show b.2.2.1=OL.mk b.2.2.1.l from rfl,d];exact C
noncomputable abbrev IL:iH:=top 49
noncomputable abbrev IM:List Str:=["_law_found"]
def Tv:vp ["_law_found"] IM (vg IL):=by walk_at "sc"
abbrev IN(q:Cq)(k:Nat):=xn q "_law_whole" IM IB k
def Tw(F:CA q "_law_whole" IL f b)(B:Bn q.mg):Gq q 2 f b IM IB:=by
 refine' vr (wK (D':=Unit) (ms:=[]) (j:=0) F Tv rfl rfl λc A a s H E d =>
   (vj (vB (vG (ES (yP (ty:="int") rfl B.isinstance (A7 (v:=.ty "int") rfl B.int PyProof.Rows.boot_int rfl) (ss 0)) (Bi (YH (yP (ty:="bool") rfl B.isinstance (A7 (v:=.ty "bool") rfl B.bool rc rfl) (ss 0))))))))) λp e g h=>?_
 walk_at "wl"
 exact h
noncomputable abbrev s_row:iH:=top 50
abbrev Tx:List Str:=["_law_found"]
def Tz:vp ["_law_found","_law_one"] Tx (vg s_row):=by walk_at "sc"
abbrev a1q(q:Cq)(k:Nat):=xn q "_law_row" Tx S7 k
def Zn(F:CA q "_law_row" s_row f d)(a:IN q 2)(B:Bn q.mg):Gq q 3 f d Tx S7:=by
 refine' vr (wK (D':=Unit) (ms:=[]) (j:=1) F Tz rfl rfl λe A c s H E i =>
   (vz (vQ (tw_not (tw_val (yP (ty:="list") rfl B.isinstance (A7 (v:=.ty "list") rfl B.list ky rfl) (ss 0))))
   130
   vK)
   (vz (wS (is:=[]) (mb:=[]) (D1:=(List Int)×Int×Unit) (D2:=(List Int)×Int×Unit) (vP q0q) yV rfl (wu (ss 0)) (vH 1 (vy Tz.nd))
   (vj (vQ (tw_not (tw_val (vw (vA a 79))))
   130
   vK)) q0q q0q)
   (vj (vB (vG yH)))))) λp k l h=>?_
 walk_at "wl"
 rw[hI q0q];exact vY (λ(r:List Int)(b:List Int×WL.Un×Unit)=>True) p.1 trivial (λx r b _ _ K g=>g _ trivial) λ_ _=>h
noncomputable abbrev s_same:iH:=top 51
noncomputable abbrev Mu:List Str:=["_law_found","_law_due"]
def Ws:vp ["_law_found","_law_due"] Mu (vg s_same):=by walk_at "sc"
abbrev TB(q:Cq)(k:Nat):=xn q "_law_same" Mu Me k
def Wt(F:CA q "_law_same" s_same f c)(a:a1q q 3):Gq q 4 f c Mu Me:=by
 refine' vr (wK (D':=Unit) (ms:=[]) (j:=0) F Ws rfl rfl λd A b s H E e =>
   (vj (vB (vG (ES (vw (vA a (vk (ss 0) vi))) (Bi (Q4 (HD e.units) (v9 (ss 0)) (v9 (ss 1)) (wn _)))))))) λp g i h=>?_
 walk_at "wl"
 exact h
noncomputable abbrev IP:iH:=top 35
noncomputable abbrev IQ:List Str:=["_law_many"]
def A6:vp ["_law_many","_law_pairs_here","_law_threes","_law_rows_here"] IQ (vg IP):=by walk_at "sc"
def Pw:(["_law_k"]:List Str).Nodup:=by decide +kernel
def Px:(["_law_pair"]:List Str).Nodup:=by decide +kernel
def Py:(["_law_three"]:List Str).Nodup:=by decide +kernel
abbrev Wu(q:Cq)(k:Nat):=xn q "_law_stock" IQ NU k
def TC(F:CA q "_law_stock" IP f i)(B:Bn q.mg):Gq q 2 f i IQ NU:=by
 refine' vr (wK (D':=Unit) (ms:=[]) (j:=3) F A6 rfl rfl λl A g s H E o =>
   (vz (vC 1 A6.nd (vJ (vo (vO (vJ 108)) (vo (vO (vJ 108)) (vo (vO (vJ 108)) (vo (vO (vJ 108)) (vo (vO (vJ 108)) (vo (vO (vJ 108)) vI))))))))
   (vz (vC 2 A6.nd (vJ (vo (vO (vJ (vo vn 108))) (vo (vO (vJ (vo vn 108))) (vo (vO (vJ (vo vn 108))) (vo (vO (vJ (vo vn 108))) vI))))))
   (vz (vC 3 A6.nd (BY (v9 (vO (xg (Ts:=["_law_k"]) (Fr:=[]) (idx:=[]) (k:=1) (mb:=[]) (is:=[]) (cl:=[]) rfl (xF rfl B.range vn) ZG rfl (wT rfl) (λa b C c d=>(vH 0 (vy Pw))) (λa b C c d=>tws_nil) (λa b C c d=>(zX (w9 vn (vO 112))))))) (v9 (vO (xg (Ts:=["_law_pair"]) (Fr:=[]) (idx:=[]) (k:=1) (mb:=[]) (is:=[1]) (cl:=[]) rfl (Lz 1 (pv 1) q0q) ZG rfl (wT rfl) (λa b C c d=>(vH 0 (vy Px))) (λa b C c d=>tws_nil) (λa b C c d=>(zX (w9 vn (ss 0)))))))))
   (vz (vC 3 A6.nd (BY (v9 (vO (BY (wo 3) (v9 (vO (xg (Ts:=["_law_three"]) (Fr:=[]) (idx:=[]) (k:=1) (mb:=[]) (is:=[2]) (cl:=[]) rfl (Lz 2 (pv 2) q0q) ZG rfl (wT rfl) (λa b C c d=>(vH 0 (vy Py))) (λa b C c d=>tws_nil) (λa b C c d=>(zX (w9 vn (ss 0)))))))))) (v9 (vO (vJ (vo (zX (w9 vn (vO (vJ (vo vn (vo vn 108)))))) vI))))))
   (vj (vB (JU (wo 3) HB (HC (ss 0)))))))))) λp r t h=>?_
 walk_at "wl"
 obtain⟨m,n⟩:=h;refine#[q0q,(by rw[xf];exact wc q0q),wv (f:=λ_=>some<|some (0,[])) (λx _ K e=>e) ?_];refine#[wc q0q,wv (f:=λx=>some<|some (1,x)) (λx _ K e=>e) ?_];refine#[wc q0q,wc q0q,wv (f:=λx=>some<|some (2,x)) (λx _ K e=>e) ?_];refine#[wc q0q,wc q0q,?_];rw[Zj _ m];exact n
noncomputable abbrev Dw:iH:=top 41
noncomputable abbrev Dx:List Str:=["_law_rows_here","_law_loops","_law_rank_here","_law_bag_here"]
def xm:vp ["_law_rows_here","_law_loops","_law_rank_here","_law_bag_here","_law_number","_law_edge_here","_law_beneath","_law_k","_law_kin","_law_chosen"] Dx (vg Dw):=by walk_at "sc"
def DP:(["_law_at","_law_one","_law_rank_here"]:List Str).Nodup:=by decide +kernel
def Kw:(["_law_k","_law_rank_here","_law_rows_here"]:List Str).Nodup:=by decide +kernel
abbrev Pz(q:Cq)(k:Nat):=xn q "_law_edge_by" Dx Bq k
def Mv(F:CA q "_law_edge_by" Dw f fd)(a:xn q "_law_pull" ["_law_bag_here","_law_many"] yZ 3)(I:IJ q 3)(J:IK q 3)(L:Tt q 3)(M:Tu q 3)(B:Bn q.mg):Gq q 4 f fd Dx Bq:=by
 refine' vr (wK (D':=Unit) (ms:=[0,1,3]) (j:=6) F xm rfl rfl λae A aa s H E hr =>
   (vz (vC 4 xm.nd (vG (xv rfl B.len (wo 0))))
   (vz (vC 5 xm.nd 112)
   (vz (vQ (tw_cm AG (ss 2) vn)
   (vz (wF 1 (w9 vn (vO (vJ (vo (ss 4) vI)))))
   (vj (ze 5 (pv 5))))
   vK)
   (vz (vQ (tw_cm Q2 (vw (vA a (vN 3 (vk vn vi)))) vn)
   (vz (Bj (Ts:=["_law_at","_law_one"]) (Fr:=["_law_rank_here"]) (idx:=[2]) (k:=2) (mb:=[2]) (is:=[1]) (cl:=[("_law_rank_here",⇑s+1+1)]) 6 xm.nd rfl rfl rfl q0q rfl (Lz 1 (pv 1) q0q) RN rfl (wT rfl) (λd g C U W=>(Cp 0 1 (CZ rfl (wR (vy (i:=0) DP) (wR (vy (i:=1) DP) A8))) q0q q0q)) (λd g C U W=>(tws_one (tw_cm AG (ss 0) (Bc KQ (ss 2) vn)))) (λd g C U W=>(ss 1)))
   (vz (wS (is:=[]) (mb:=[0,1,3]) (D1:=(OL RW)×(OL (Int×(List Int)))×Int×Bg×Int×(OL Int)×(OL (List Int))×Int×Un×Un×Unit) (D2:=(OL RW)×(OL (Int×(List Int)))×Int×Bg×Int×(OL Int)×(OL (List Int))×Int×Un×Un×Unit) (vP q0q) yV rfl (xF rfl B.range (xE (v9 (vO (vJ (vo vn (vo vn (vo vn (vo vn (vo vn (vo vn 108))))))))) (vw (vA a (vN 3 (vk vn vi)))))) (vH 7 (vy xm.nd))
   (vj (vQ (tw_cmL (BZ hr.units) (wo 6) (v9 (vO (vJ (α:=(List Int)) vI))))
   (vj<|vC 5 xm.nd<|vA I<|vD 5<|vk (xE (wo 6)<|vw<|vA a<|vN 3<|vk (xv rfl B.len<|wo 6) vi) vi)
   vK)) q0q q0q)
   (vz (vQ (tw_cmL (HD hr.units) (wo 5) (v9 (vO 112)))
   (vj<|wF 1<|w9 (ss 2)<|vO<|vJ<|vo (ss 4) vI)
   vK)
   (vj (ze 5 (pv 5))))))
   vK)
   (vz (Bj (Ts:=["_law_k"]) (Fr:=["_law_rank_here","_law_rows_here"]) (idx:=[2,0]) (k:=1) (mb:=[1,2]) (is:=[]) (cl:=[("_law_rows_here",⇑s+1),("_law_rank_here",⇑s+1+1)]) 8 xm.nd rfl rfl rfl q0q rfl (wu (vO (vA J (vD 0 vi)))) bs2 rfl (wT rfl) (λd g C U W=>(vH 0 (vy Kw))) (λd g C U W=>(tws_one (tw_cm AG (EK (zC (xE (wo 2) (ss 0)))) (ss 1)))) (λd g C U W=>(ss 0)))
   (vz (vC 9 xm.nd (vA L (vN 3 (vD 8 vi))))
   (vz (wF 1 (w9 (ss 2) (vO (BY (wo 9) (v9 (vO (vJ (vo (ss 4) vI))))))))
   (vj (vB (vA M (vD 0 (vD 9 vi))))))))))))) λp Kn Ke h=>?_
 walk_at "wl"
 refine BF λX D=>?_;obtain⟨v,hn,hq,Y,r0,r1,hk⟩:=h;refine D ?_;by_cases h0:p.2.2.1=0
 ·rw[cr<|decide_eq_true h0];refine⟨CJ q0a,?_⟩;refine hk [] [(0,[(p.1.l.length:Int)])] (IH v q0a λr e z=>?_) (λu N=>?_) q0o
  ·cases z;exact#[r0,r1,iO,(λ_ z=>by cases z),rfl]
  ·rcases List.mem_append.mp N with z|z
   ·exact FK<|Y u z
   ·rw[List.mem_singleton.mp z];have:=Ta (rows:=p.1.l) (r:=p.2.2.1);rw[h0]at this ⊢;exact this
 ·rw[hI<|by simpa using h0];refine w6 q0q q0q λx g0 g1=>?_
  try dsimp only
  by_cases hx:x<3
  ·rw[cr<|decide_eq_true hx];refine⟨wc q0a,wv (f:=λu:Int×List Int=>if decide (u.1=p.2.2.1-1)=true then some u.2 else none) (λu _ K o=>?_) ?_⟩
   ·show if decide (u.1=p.2.2.1-1)=true then K ↑u.2 _ else K none _;by_cases z:decide (u.1=p.2.2.1-1)=true
    ·rw[cr z]at o ⊢;exact o
    ·rw[hI z]at o ⊢;exact o
   ·have ly:(p.2.1.l.filterMap λu:Int×List Int=>if decide (u.1=p.2.2.1-1)=true then some u.2 else none).length<=100:=iP (List.length_filterMap_le _ _) hq
    have Z:∀z∈(p.2.1.l.filterMap λu:Int×List Int=>if decide (u.1=p.2.2.1-1)=true then some u.2 else none),Lp p.1.l (p.2.2.1-1,z):=λz hz=>by
     obtain⟨u,N,e⟩:=List.mem_filterMap.mp hz;by_cases q:decide (u.1=p.2.2.1-1)=true
     ·rw[cr q]at e;cases e;rw[<- kK q];exact Y u N
     ·rw[hI q]at e;cases e
    generalize (p.2.1.l.filterMap λu:Int×List Int=>if decide (u.1=p.2.2.1-1)=true then some u.2 else none)=ys at ly Z;refine w6 q0q q0q λs g2 g3=>?_;refine BF λX D=>?_;obtain⟨m,m1,_,m3⟩:=yD (l:=[(2:Int),2,2,2,0,1,3,4]) g2 (by simpa using g3);refine D ?_;refine#[m,m1,#[by simp at m3;lia,by simp at m3;lia],?_];refine vY (λ(r:List Int) (b:OL RW×OL 96×Int×Bg×Int×OL Int×OL (List Int)×WL.Un×WL.Un×WL.Un×Unit)=>b.1=p.1/\b.2.1=p.2.1/\b.2.2.1=p.2.2.1/\b.2.2.2.2.1=(p.1.l.length:Int)/\b.2.2.2.2.2.2.1.l=ys/\Lp p.1.l (p.2.2.1-1,b.2.2.2.2.2.1.l)) (zb 0 m) #[rfl,rfl,rfl,rfl,rfl,iO,(λ_ z=>by cases z),rfl] ?_ ?_
    ·intro y r;refine a0G λb1 b2 b3 b4 b5 O b7 b8=>?_;rintro _ ⟨Q,R,S,T,e5,n⟩ K o;dsimp only at Q R S T e5 n ⊢;subst e5;by_cases q:b7.l=[]
     ·rw[hI<|by simp[q]];exact o _ #[Q,R,S,T,rfl,n]
     ·rw[cr<|by simp[q]];have:=List.length_pos_iff.mpr q;refine w6 q0a q0a λt t0 t1=>?_;refine BF λX D=>?_;obtain⟨z,z1,_,z3⟩:=yD (l:=b7.l) t0 t1;have G:=Z z z3;have s1:=wO n.1<|n.sub q0a;have s2:=wO G.1<|G.sub q0a;refine D ?_;rw[xf]at s1 s2;have s1:O.l.length<=35:=s1;have s2:z.length<=35:=s2;refine⟨z,z1,Mg n.1 G.1 (n.sub q0a)<|G.sub q0a,o _ ⟨Q,R,S,T,rfl,?_⟩⟩;show Lp p.1.l (p.2.2.1-1,jn O.l z);have nn:∀c,(∃e,rowAt p.1.l c=some (p.2.2.1-1,e))->(eb p.1.l c).Nodup:=λc ⟨e,he⟩=>by rw[xt he];exact vt (v.IF he).1
      refine#[HK n.1 G.1,λc P=>?_,?_]
      ·rcases HJ.mp P with⟨w,_⟩|⟨w,_⟩
       ·exact n.2.1 c w
       ·exact G.2.1 c w
      ·show vM (eb p.1.l) (jn O.l z)=[];rw[Rt n.1 G.1,Bm n.1 G.1 (λc P=>nn c<|n.2.1 c P)<|λc P=>nn c<|G.2.1 c P,show vM (eb p.1.l) O.l=[] from n.2.2,show vM (eb p.1.l) z=[] from G.2.2];rfl
    ·refine a0G λb1 b2 b3 b4 b5 O b7 b8=>?_;rintro⟨Q,R,S,T,e5,n⟩;dsimp only at Q R S T e5 n ⊢;subst Q R S T
     have va:Vr (p.1.l++[↑(p.2.2.1,O.l)]):=IH v q0a λr e z=>by
      cases z;exact#[r0,r1,n.1,n.2.1,n.2.2]
     by_cases q:O.l=[]
     ·rw[cr<|decide_eq_true q];refine⟨CJ q0a,hk O.l [(p.2.2.1,[(p.1.l.length:Int)])] va (λu N=>?_) q0o⟩;rcases List.mem_append.mp N with z|z
      ·exact FK<|Y u z
      ·rw[List.mem_singleton.mp z,q];exact Ta
     ·rw[hI<|by simpa using q];have:=hk O.l [] va (λu N=>FK<|Y u<|by simpa using N) q0o;rw[kY]at this;exact this
  ·rw[hI<|by simpa using hx];refine⟨(show p.1.l.length<1000 by lia),wc (by have:=yi p.1.l;show (CW p.1.l).length<=1000;lia),wm (q:=λk=>decide ((rowAt p.1.l k).map (·.1)=↑p.2.2.1)) (λk ab K o=>?_) ?_⟩
   ·obtain⟨y,Z⟩:=Option.isSome_iff_exists.mp<|yh.mp ab;refine#[_,(vE Z).2.2.2,y,rfl,?_];rw[Z]at o;show if decide (y.1=p.2.2.1)=true then _ else _;by_cases z:y.1=p.2.2.1
    ·rw[cr<|by simp[z]]at o ⊢;exact o
    ·rw[hI<|by simpa using z]at o ⊢;exact o
   ·have hs:=iL (λk=>decide ((rowAt p.1.l k).map (·.1)=↑p.2.2.1))<|CW p.1.l;have af:=yi p.1.l;refine⟨(show ((CW p.1.l).filter _).length<60 by lia),λl l1 l2=>?_⟩
    have hl:∀c∈l,∃e,rowAt p.1.l c=↑(p.2.2.1,e):=λc P=>by
     have:=(List.mem_filter.mp<|l2 c P).2
     cases e:rowAt p.1.l c with
     |none=>rw[e]at this;simp at this
     |some y =>
      rw[e]at this;have this:y.1=p.2.2.1:=by simpa using this
      exact#[y.2,by rw[<- this]]
    obtain⟨c1,c2,c3⟩:=Pq v l1 hl;have ll:l.length<=((CW p.1.l).filter λk=>decide ((rowAt p.1.l k).map (·.1)=↑p.2.2.1)).length:=wO l1 l2;refine#[wc (show l.length+1<=1000 by lia),CJ q0a,v,λc P=>?_,?_]
    ·obtain⟨e,he⟩:=hl c P;show (rowAt p.1.l c).isSome=true;rw[he];rfl
    ·refine hk _ [(p.2.2.1,l++[(p.1.l.length:Int)])] (IH v q0a λr e z=>?_) (λu N=>?_) q0o
     ·cases z;exact#[r0,r1,wp _ _,c1,c2]
     ·rcases List.mem_append.mp N with z|z
      ·exact FK<|Y u z
      ·rw[List.mem_singleton.mp z];exact c3
noncomputable abbrev Mw:iH:=top 42
noncomputable abbrev My:List Str:=["_law_bag_here","_law_most"]
def Ah:vp ["_law_bag_here","_law_most","_law_rows_here","_law_k","_law_loops","_law_rank_here"] My (vg Mw):=by walk_at "sc"
def TF:(["_law_k"]:List Str).Nodup:=by decide +kernel
abbrev Zo(q:Cq)(k:Nat):=xn q "_law_rows" My S8 k
def Wv(F:CA q "_law_rows" Mw f fd)(i:xn q "_law_pull" ["_law_bag_here","_law_many"] yZ 4)(G:Wu q 4)(L:Zm q 4)(w:Pz q 4)(B:Bn q.mg):Gq q 5 f fd My S8:=by
 refine' vr (wK (D':=Unit) (ms:=[0]) (j:=4) F Ah rfl rfl λaa A X s H E hr =>
   (vz (vC 2 Ah.nd (vJ (α:=RW) vI))
   (vz (vQ (tw_cm AG (vw (vA i (vN 0 (vk vn vi)))) vn)
   (vj<|vC 2 Ah.nd<|vA G<|vk (vw<|vA i<|vN 0<|vk vn vi) vi)
   vK)
   (vz (Bj (Ts:=["_law_k"]) (Fr:=[]) (idx:=[]) (k:=1) (mb:=[]) (is:=[]) (cl:=[]) 4 Ah.nd rfl rfl rfl q0q rfl (xF rfl B.range (xv rfl B.len (wo 2))) ZG rfl (wT rfl) (λM N C ex pn=>(vH 0 (vy TF))) (λM N C ex pn=>(tws_one (tw_cm Q2 (ss 0) vn))) (λM N C ex pn=>(w9 vn (vO (vJ (vo (ss 0) vI))))))
   (vz (vQ (tw_cm Xj (xv rfl B.len (wo 2)) vn)
   (vj<|vC 4 Ah.nd<|BY (wo 4)<|v9<|vO<|vJ<|vo (w9 vn<|vO<|vJ<|vo vn<|vo vn<|vo vn vI)<|vo (w9 vn<|vO<|vJ<|vo vn<|vo vn<|vo vn vI)<|vo (w9 vn<|vO<|vJ<|vo vn<|vo vn<|vo vn vI) vI)
   vK)
   (vz (wS (is:=[]) (mb:=[0]) (D1:=Bg×Int×(OL RW)×Int×(OL (Int×(List Int)))×Un×Unit) (D2:=Bg×Int×(OL RW)×Int×(OL (Int×(List Int)))×Un×Unit) (vP q0q) yV rfl (xF rfl B.range (vw (vA i (vN 0 (vk (Bc Aw (ss 1) vn) vi))))) (vH 3 (vy Ah.nd))
   (vj (vQ (tw_cm AG (vw (vA i (vN 0 (vk vn vi)))) vn)
   (vj<|wF 2 Va)
   (Ni (D':=Bg×Int×(OL RW)×Int×(OL (Int×(List Int)))×Un×Unit) (vz (vC 5 Ah.nd (vA L (vN 0 vi)))
   (vj (wF 2 (zX (w9 (ss 5) (vO (vA w (vN 2 (vN 4 (vk (ss 5) (vN 0 vi)))))))))))))) q0q q0q)
   (vj (ze 2 (pv 2))))))))) λp W I h=>?_
 walk_at "wl"
 obtain⟨hm,hk⟩:=h
 have S:∀(a:List RW) (o:List 96) (n:Int),n<=20->Vr a->a.length<=15->(∀u∈o,Lp a u)->o.length<=20 ->
   HF (λ(x:Int) (b:Bg×Int×OL RW×WL.Un×OL 96×WL.Un×Unit) J (Kr:OL RW->Bg×WL.Un×Unit->Prop) I =>
    yZ (b.1,9,()) (λx d=>if decide (x=8)=true then b.2.2.1.l.length<hX/\J (d.1,b.2.1,#[b.2.2.1.l++[none]],#[],b.2.2.2.2.1,b.2.2.2.2.2.1,b.2.2.2.2.2.2) else
     Iz (d.1,()) (λx d=>Bq (b.2.2.1,b.2.2.2.2.1,x,d.1,()) (λO d=>d.1.l.length<hX/\J (d.2.2.2.1,b.2.1,#[d.1.l++[↑(x,O.l)]],#[],d.2.1,#[],b.2.2.2.2.2.2)) λC d=>I C (d.2.2.2.1,#[],())) λC d=>I C (d.1,#[],())) λC d=>I C (d.1,#[],()))
   (zb 0 n) (#[],p.2.1,#[a],#[],#[o],#[],p.2.2) (λT=>W T.2.2.1 (T.1,#[],())) W I:=by
  intro a o n hn v hl Y ab;refine vY (λ(r:List Int) (b:Bg×Int×OL RW×WL.Un×OL 96×WL.Un×Unit)=>Vr b.2.2.1.l/\(∀u∈b.2.2.2.2.1.l,Lp b.2.2.1.l u)/\b.2.2.1.l.length+r.length<=35/\b.2.2.2.2.1.l.length+r.length<=100) (zb 0 n) #[v,Y,(by rw[xf];show a.length+_<=35;lia),(by rw[xf];show o.length+_<=100;lia)] ?_ ?_
  ·rintro y r b _ ⟨R,g2,g3,g4⟩ K D;rw[iF]at g3 g4;refine w6 q0q q0q λs s0 s1=>?_;dsimp only;by_cases q:s=8
   ·rw[cr<|decide_eq_true q];refine⟨CJ q0a,D _ ⟨IH R q0a (λr e z=>by cases z),λu P=>FK<|g2 u P,?_,?_⟩⟩
    ·show (b.2.2.1.l++[none]).length+r.length<=35;rw[io,iE]
     lia
    ·show b.2.2.2.2.1.l.length+r.length<=100
     lia
   ·rw[hI<|by simpa using q];intro t t0 t1;refine⟨R,(show b.2.2.1.l.length<=34 by lia),(show b.2.2.2.2.1.l.length<=100 by lia),g2,t0,t1,λe u v1 v2 v3=>#[CJ (show b.2.2.1.l.length<1000 by lia),D _ #[v1,v2,?_,?_]]⟩
    ·show (b.2.2.1.l++[↑(t,e)]).length+r.length<=35;rw[io,iE]
     lia
    ·show (b.2.2.2.2.1.l++u).length+r.length<=100;rw[io]
     lia
  ·rintro b ⟨R,_,g3,_⟩;exact hk _ R q0a
 have Q:∀(a:List RW) (U:List 96),Vr a->a.length<=15->(∀u∈U,Lp a u)->U.length<=20->∀g:Bg,yZ (g,p.2.1+1,()) (λx d=>(-2 ^ 62<=x/\x<2 ^ 62)/\HF (λ(x:Int) (b:Bg×Int×OL RW×WL.Un×OL 96×WL.Un×Unit) J (Kr:OL RW->Bg×WL.Un×Unit->Prop) I =>
    yZ (b.1,9,()) (λx d=>if decide (x=8)=true then b.2.2.1.l.length<hX/\J (d.1,b.2.1,#[b.2.2.1.l++[none]],#[],b.2.2.2.2.1,b.2.2.2.2.2.1,b.2.2.2.2.2.2) else
     Iz (d.1,()) (λx d=>Bq (b.2.2.1,b.2.2.2.2.1,x,d.1,()) (λO d=>d.1.l.length<hX/\J (d.2.2.2.1,b.2.1,#[d.1.l++[↑(x,O.l)]],#[],d.2.1,#[],b.2.2.2.2.2.2)) λC d=>I C (d.2.2.2.1,#[],())) λC d=>I C (d.1,#[],())) λC d=>I C (d.1,#[],()))
   (zb 0 x) (d.1,p.2.1,#[a],#[],#[U],#[],p.2.2) (λT=>W T.2.2.1 (T.1,#[],())) W I) (λC d=>I C (d.1,#[],())):=by
  intro a U v l1 Y l2 g;exact w6 q0a q0a λr g0 R=>#[#[q0a,q0a],S a U r q0a v l1 Y l2]
 refine w6 q0q q0q λx g0 R=>?_;dsimp only;by_cases hx:x=1
 ·rw[cr<|decide_eq_true hx];refine w6 q0q q0q λm m0 m1=>#[m0,?_];dsimp only;have c:=List.all_eq_true.mp Wg m.toNat<|List.mem_range.mpr q0a;unfold chk at c;simp only[i7,Bool.or_eq_true,i9]at c;refine BF λae Z=>?_;obtain⟨⟨⟨⟨c1,c2⟩,c3⟩,c4⟩,c5⟩:=c;have v:=Tg c1;refine Z ?_;refine#[#[q0a,q0a],(by rw[xf];exact wc q0a),wv (f:=λk:Int=>if decide (k<4)=true then some (0,[k]) else none) (λk _ K D=>?_) ?_]
  ·show if decide (k<4)=true then K ↑(0,[k]) _ else K none _;by_cases z:decide (k<4)=true
   ·rw[cr z]at D ⊢;exact D
   ·rw[hI z]at D ⊢;exact D
  ·have l0:∀u∈ZI (CV.take m.toNat).length,Lp (CV.take m.toNat) u:=λu P=>Tf<|List.all_eq_true.mp c2 u P;by_cases h9:9<((CV.take m.toNat).length:Int)
   ·rw[cr<|decide_eq_true h9];have c5:lp1.all (LpB<|CV.take m.toNat)=true:=c5.elim (λz=>iq z q0a) id;refine#[wc (show (ZI (CV.take m.toNat).length).length+3<=1000 by lia),Q _ (ZI (CV.take m.toNat).length++lp1) v c4 (λu P=>?_) ?_ _]
    ·rcases List.mem_append.mp P with z|z
     ·exact l0 u z
     ·exact Tf<|List.all_eq_true.mp c5 u z
    ·rw[io];show _+3<=20
     lia
   ·rw[hI<|by simpa using h9];exact Q _ (ZI (CV.take m.toNat).length) v c4 l0 q0a _
 ·rw[hI<|by simpa using hx];refine⟨⟨q0q,q0q⟩,wc q0q,wv (f:=λk:Int=>if decide (k<4)=true then some (0,[k]) else none) (λk _ K D=>?_) ?_⟩
  ·show if decide (k<4)=true then K ↑(0,[k]) _ else K none _;by_cases z:decide (k<4)=true
   ·rw[cr z]at D ⊢;exact D
   ·rw[hI z]at D ⊢;exact D
  ·exact Q [] [] (Tg rfl) q0q (λu P=>by cases P) q0q _
noncomputable abbrev Mz:iH:=top 43
noncomputable abbrev MA:List Str:=["_law_body","_law_rows_here"]
def IR:vp ["_law_body","_law_rows_here","_law_number","_law_row_here"] MA (vg Mz):=by walk_at "sc"
abbrev Zp(q:Cq)(k:Nat):=xn q "_law_fill" MA (S9) k
set_option tactic.hygienic true in
def Ww(F:CA q "_law_fill" Mz f W)(ct:Am q.K C)(a:a1d q 8)(g:V8 q 8)(B:Bn q.mg):Gq q 9 f W MA (S9):=by
 refine' vr (wK (D':=Unit) (ms:=[]) (j:=2) F IR rfl rfl λX A D s H E hr =>
   (vz (wS (is:=[]) (mb:=[]) (D1:=(Bd C true)×(List RW)×Int×RW×Unit) (D2:=(Bd C true)×(List RW)×Int×RW×Unit) (vP q0q) yV rfl (Vx rfl B.enumerate (ss 1)) (Cp 2 3 (CZ rfl (wR (vy (i:=2) IR.nd) (wR (vy (i:=3) IR.nd) A8))) q0q q0q)
   (vj (vQ (tw_cm YE (ss 3) Lu)
   (vz (v6 (vw (v7 0 a (vk vn (vk (vO 112) vi)))))
   (vj (v6 (vw (v7 0 g 131)))))
   (vj (v6 (vw (v7 0 a (vk (EK (zC (ss 3))) (vk (vO (Hz rfl B.list (v9 (BX (zC (ss 3)))))) vi)))))))) q0q q0q)
   (vj (ze 0 (pv 0))))) λp Kn Ke h=>?_
 walk_at "wl"
 obtain⟨Y,v,Z⟩:=h;refine vY (λ(r:List (Int×RW)) (b:B0×List RW×WL.Un×WL.Un×Unit)=>∃k,r=OV k (p.2.1.drop k)/\k<=p.2.1.length/\xR b.1 (p.2.1.take k)/\b.1.ht=[]/\b.1.th=[]) (OV 0 p.2.1) #[0,rfl,jp _,?_] ?_ ?_
 ·show xR p.1 []/\p.1.ht=[]/\p.1.th=[];rw[Y];exact#[Wi,rfl,rfl]
 ·rintro x r b _ ⟨k,e,O,c,m,n⟩ K hK
  have l:k<p.2.1.length:=by
   rcases Nat.lt_or_ge k p.2.1.length with z|z
   ·exact z
   ·rw[List.drop_of_length_le z]at e;cases e
  rw[oA l]at e;have e1:x=((k:Int),p.2.1[k]):=by cases e;rfl
  have e2:r=OV (k+1) (p.2.1.drop<|k+1):=by cases e;rfl
  have tk:p.2.1.take (k+1)=p.2.1.take k++[p.2.1[k]]:=(List.take_append_getElem l).symm;have G:(p.2.1.take k).length=k:=List.length_take_of_le O;have I:=We v k;have next:∀o:B0,xR o (p.2.1.take k++[p.2.1[k]])->o.ht=[]->o.th=[]->K (o,b.2.1,#[],#[],b.2.2.2.2):=λo h m1 m2=>hK _ #[k+1,e2,l,by rw[tk];exact h,m1,m2]
  have P:rowAt p.2.1 (k:Int)=p.2.1[k]:=FJ q0a (by rw[lX];exact jL l);have ln:=v.ln;subst e1;dsimp only
  cases z:p.2.1[k] with
  |none =>
   rw[cr<|show (none:RW).isNone=true from rfl];rw[z]at next
   refine Te c I (oO 0) q0q iO (λ_ q=>by cases q) rfl λQ J u w=>?_;have R:Vr (p.2.1.take k++[↑(0,[])]):=a1n I q0a;refine Wd J R (by have:=wx (rows:=p.2.1.take k) (z:=↑(0,[]));rw[G]at this;rw[this];rfl) (λh t=>?_) (by unfold wU;rw[u,w,m,n];rfl) λx2 S g3 g4=>next x2 ?_ (g3.trans<|u.trans m)<|g4.trans<|w.trans n
   ·cases q:rowAt (p.2.1.take k++[↑(0,[])]) h with
    |none=>unfold eb at t;rw[q]at t;cases t
    |some y =>
     rw[xt q]at t;have T:=((R.ok h y.1 y.2 q).2.2.2.1 _ t).1;have L:=(vE q).2.1;rw[io,iE,G]at L
     lia
   ·rw[lX,List.set_append_right _ _ q0a,G,qW]at S;exact S
  |some y =>
   rw[hI q0o];rw[z]at next P
   refine BF λaa M=>?_;obtain⟨T,L,a3,U,a5⟩:=v.ok k y.1 y.2 P;refine M ?_;refine#[y,rfl,y,rfl,Te c I T L a3 (λd N=>?_) ?_ λQ J u w=>next Q J (u.trans m)<|w.trans n]
   ·obtain⟨q1,e',q2⟩:=U d N;exact#[e',by rw[yc,cr q1];exact q2]
   ·rw[<- a5];refine ww λd N=>?_;unfold eb;rw[yc,cr (U d N).1]
 ·rintro b ⟨k,e,O,c,m,n⟩
  have:k=p.2.1.length:=by
   rcases Nat.lt_or_ge k p.2.1.length with z|z
   ·rw[oA z]at e;cases e
   ·lia
  rw[this,ve]at c;exact Z _ c m n
noncomputable abbrev MB:iH:=top 44
noncomputable abbrev MC:List Str:=["_law_field","_law_rows_here","_law_bag_here","_law_tries"]
def zm:vp ["_law_field","_law_rows_here","_law_bag_here","_law_tries","_law_arrows","_law_k","_law_highs","_law_gone","_law_high","_law_low"] MC (vg MB):=by walk_at "sc"
def TH:(["_law_k","_law_rows_here"]:List Str).Nodup:=by decide +kernel
abbrev Zq(q:Cq)(k:Nat):=xn q "_law_ties" MC (Ti) k
def Wx(F:CA q "_law_ties" MB f fd)(ct:Am q.K C)(u:IK q 6)(g:xn q "_law_pull" ["_law_bag_here","_law_many"] yZ 6)(n:V6 q 6)(O:a1f q 6)(a:a05 q XT XR "Tied" "RingOfArrows")(B:Bn q.mg):Gq q 7 f fd MC (Ti):=by
  refine' vr (wK (D':=Unit) (ms:=[0,2]) (j:=6) F zm rfl rfl λaf A Z s H E W =>
      (vz (vC 4 zm.nd (vJ (α:=(Int×Int)) vI))
      (vz (Bj (Ts:=["_law_k"]) (Fr:=["_law_rows_here"]) (idx:=[1]) (k:=1) (mb:=[1]) (is:=[]) (cl:=[("_law_rows_here",⇑s+1)]) 6 zm.nd rfl rfl rfl q0q rfl (wu (vO (vA u 79))) RN rfl (wT rfl) (λJ L C ex pn=>(vH 0 (vy (i:=0) TH rfl (lJ rfl)) q0q)) (λJ L C ex pn=>(tws_one (tw_cmL (BZ W.units) (v9 (BX (zC (xE (v9 (ss 1)) (ss 0))))) (v9 (vO 112)) (wn _)))) (λJ L C ex pn=>(ss 0)))
      (vz (wS (is:=[]) (mb:=[0,2]) (D1:=(Bd C true)×(List 74)×Bg×Int×(OL (Int×Int))×Int×(OL Int)×Un×Un×Un×Unit) (D2:=(Bd C true)×(List 74)×Bg×Int×(OL (Int×Int))×Int×(OL Int)×Un×Un×Un×Unit) (vP q0q) yV rfl (xF rfl B.range (ss 3)) (vH 5 (vy (i:=5) zm.nd rfl (lJ rfl)) q0q)
      (vj (vQ (tw_w (Lv (tw_cmL (BZ W.units) (wo 4) (v9 (vO (vJ (α:=(Int×Int)) vI))) (wn _)) (HE (tw_cm AG (vw (vA g (vN 2 (vk vn vi)))) vn (wn _)))))
      (Ni (D':=(Bd C true)×(List 74)×Bg×Int×(OL (Int×Int))×Int×(OL Int)×Un×Un×Un×Unit) (vz (vC 7 zm.nd (vG (O7 4 (pv 4) (vw (vA g (vN 2 (vk (xv rfl B.len (wo 4)) vi)))) (λh=>W5 mE o8 o9 Qq (pv 4) h))))
      (vj (v6 (vw (v7 0 n (vk (EK (ss 7)) vi)))))))
      (Cz (w':=λ(d:(Bd C true)×(List 74)×Bg×Int×(OL (Int×Int))×Int×(OL Int)×Un×Un×Un×Unit) (Kn:(Bd C true)×(List 74)×Bg×Int×(OL (Int×Int))×Int×(OL Int)×Un×Un×Un×Unit->Prop) _ _=>(xR d.1 d.2.1/\Vr d.2.1/\d.2.1.length<=35/\Arr d.1 d.2.2.2.2.1.l/\d.2.2.2.2.2.2.1.l=(CW d.2.1).filter (λk=>!decide (eb d.2.1 k=[])))/\∀M:(Bd C true)×(List 74)×Bg×Int×(OL (Int×Int))×Int×(OL Int)×Un×Un×Un×Unit,(M.2.1=d.2.1/\M.2.2.2.2.2.2.1=d.2.2.2.2.2.2.1/\xR M.1 d.2.1/\Arr M.1 M.2.2.2.2.1.l)->Kn M) (vj (vQ (tw_cmL (BZ W.units) (wo 6) (v9 (vO 112)) (wn _))
      (Ni (D':=(Bd C true)×(List 74)×Bg×Int×(OL (Int×Int))×Int×(OL Int)×Un×Un×Un×Unit) (vz (vC 8 zm.nd (vG (xE (wo 6) (vw (vA g (vN 2 (vk (xv rfl B.len (wo 6)) vi)))))))
      (vz (vC 9 zm.nd (vG (xE (v9 (BX (zC (xE (v9 (ss 1)) (ss 8))))) (vw (vA g (vN 2 (vk (xv rfl B.len (v9 (BX (zC (xE (v9 (ss 1)) (ss 8)))))) vi)))))))
      (vz (VL rfl (YZ rfl a.m1 rfl a.m2 a.x1 a.x2) (a04 0 O W ct.cl (λE1 Φ aa=>(pv 0)) (λE1 Φ aa=>(vk (ss 9) (vk (ss 8) vi)))) (λx' =>
      (vj (vC 8 zm.nd (vG (Rl vn))))))
      (vj (vQ (tw_cm Xk (ss 8) vn (wn _))
      (vj<|wF 4<|w9 (ss 9)<|ss 8)
      vK))))))
      vK)) (by
   refine Rj λQ R b3 b4 P b6 S b8 b9 T U=>?_
   intro Kn Kr Ke h
   walk_at "wl"
   refine BF λx m=>?_
   obtain⟨⟨c,v,N,A,o⟩,t⟩:=h
   refine m ?_
   dsimp only at c v N A o t ⊢
   have sl:hX=16777216:=jk
   have al:=A.Pu c N
   by_cases q:S.l=[]
   · rw[hI<|by simp[q]]
     exact t _ #[rfl,rfl,c,A]
   · rw[cr<|by simp[q]]
     have l7:S.l.length<=35:=by rw[o];have:=iL (λk=>!decide (eb R k=[]))<|CW R;have:=yi R;omega
     have p7:0<S.l.length:=List.length_pos_iff.mpr q
     refine w6 q0d q0d λi X i1=>?_
     refine BF λx m=>?_
     obtain⟨hg,a1,a2,Y⟩:=yD X i1
     refine m ?_
     rw[o,js]at Y
     obtain⟨y,G⟩:=Option.isSome_iff_exists.mp<|yh.mp Y.1
     have yn:y.2≠[]:=λz=>by have:=Y.2;rw[xt G,z]at this;simp at this
     have yl:y.2.length<=95:=by
         exact Tk v G
     have py:0<y.2.length:=List.length_pos_iff.mpr yn
     refine#[hg,a1,_,(vE G).2.2.2,y,rfl,_,(vE G).2.2.2,y,rfl,w6 q0d q0d λi' ab ae=>?_]
     refine BF λx m=>?_
     obtain⟨lo,l1,l2,l3⟩:=yD ab ae
     refine m ?_
     refine#[lo,l1,Zl A c v N G l3 (λD hD=>#[hD,?_]) λx' c' A'=>?_]
     · rw[hI<|λz => iq (kK z) q0d]
       exact t _ #[rfl,rfl,c,A]
     · rw[cr<|decide_eq_true (vE G).1]
       exact#[by show P.l.length<hX;omega,t _ #[rfl,rfl,c',A']])))) q0q q0q)
      (vj (vB (LP rfl B.sorted (wo 4)))))))) λp Kn Ke h=>?_
  walk_at "wl"
  refine BF λx m=>?_
  obtain⟨c0,v,N,n1,n2,tr,h⟩:=h
  have sl:hX=16777216:=jk
  refine m ?_
  refine#[by show p.2.1.length<1000;omega,by show (CW p.2.1).length<=hX;have:=yi p.2.1;omega,?_]
  refine wm (q:=λk=>!decide (eb p.2.1 k=[])) (λk hk K t=>?_) ?_
  · obtain⟨y, G⟩ := Option.isSome_iff_exists.mp (yh.mp hk)
    refine#[_,(vE G).2.2.2,y,rfl,?_]
    rw[xt G]at t
    exact t
  dsimp only
  refine#[q0d,?_]
  refine vY (λ(_:List Int) (b:B0×List RW×Bg×Int×OL (Int×Int)×WL.Un×OL Int×WL.Un×WL.Un×WL.Un×Unit)=>b.2.1=p.2.1/\b.2.2.2.2.2.2.1.l=(CW p.2.1).filter (λk=>!decide (eb p.2.1 k=[]))/\xR b.1 p.2.1/\Arr b.1 b.2.2.2.2.1.l) _ #[rfl,rfl,c0,Wj (c0.okb v) n1 n2] ?_ ?_
  · intro k r
    refine Rj λQ R b3 b4 P b6 S b8 b9 T U=>?_
    rintro _ ⟨rfl,o,c,A⟩ K t
    dsimp only at o c A ⊢
    have al:=A.Pu c N
    by_cases e5:P.l=[]
    · rw[hI (by simp[e5]), hI ik]
      exact#[#[c,v,N,A,o],λM I=>t _ #[I.1,by rw[I.2.1];exact o,I.2.2.1,I.2.2.2]]
    · rw[cr<|by simp[e5]]
      refine w6 q0q q0q λz z0 z1=>?_
      by_cases e8:z=8
      · rw[cr<|decide_eq_true e8]
        have p5:0<P.l.length:=List.length_pos_iff.mpr e5
        refine w6 q0d q0d λi X i1=>?_
        refine BF λx m=>?_
        obtain⟨y,a1,a2,Y⟩:=yD X i1
        refine m ?_
        exact#[X,y,a2,q0d,Tl A c a2 λw x' c' A'=>t _ #[rfl,o,c',A']]
      · rw[hI<|by simpa using e8]
        exact#[#[c,v,N,A,o],λM I=>t _ #[I.1,by rw[I.2.1];exact o,I.2.2.1,I.2.2.2]]
  · refine Rj λQ R b3 b4 P b6 S b8 b9 T U => ?_
    rintro⟨rfl,o,c,A⟩
    have c:xR Q p.2.1:=c
    have A:Arr Q P.l:=A
    have al:=A.Pu c N
    refine#[by show P.l.length<64;omega,λps hp so=>h Q ps c #[A.ok,A.nt,(hp.map _).trans A.pm,λe he=>A.hd e<|hp.mem_iff.mp he]<|Zk so]
noncomputable abbrev IS:iH:=top 45
abbrev IT:List Str:=["_law_bag_here","_law_most"]
def CS:vp ["_law_bag_here","_law_most","_law_rows_here","_law_field","_law_arrows"] IT (vg IS):=by walk_at "sc"
abbrev Wy(q:Cq)(k:Nat):=xn q "_law_house" IT (N0) k
def TJ(F:CA q "_law_house" IS f D)(e:Mk q.K C g)(i:vU q.P q.w q.K q.mg q.base (v4 q.P q.w) 8 g b ["self"] (Eh C))(k:Binds q.K b ["self"] [])(d:q.mg "Field"=↑(.ref C))(l:Zo q 9)(m:Zp q 9)(o:Zq q 9)(r:xn q "_law_pull" ["_law_bag_here","_law_many"] yZ 9)(B:Bn q.mg):Gq q 10 f D IT (N0):=by
 refine' vr (wK (D':=Unit) (ms:=[0]) (j:=3) F CS rfl rfl λG A u s H E I =>
   (vz (vC 2 CS.nd (vA l (vN 0 79)))
   (vz (vC 3 CS.nd (vA m (Vh (RM e i I rfl d k BH) (vD 2 vi))))
   (vz (vC 4 CS.nd (vA o (vN 3 (vD 2 (vN 0 (vk (vw (vA r (vN 0 (vk (Bc Aw (QX BO vn (xv rfl B.len (wo 2))) vn) vi)))) vi))))))
   (vj (VF 3 2 4 (pv 3) (pv 2) (pv 4))))))) λp R S h=>?_
 walk_at "wl"
 obtain⟨J,h⟩:=h;refine#[J,λt v y=>?_];refine#[rfl,v,λx c L M=>?_];dsimp only;refine#[.inl q0q,w6 (n:=2*(t.length:Int)+1) q0d q0d λz T U=>?_];exact#[c,v,y,L,M,by show 0<=z/\z<=1000;omega,λN a O A Q=>h N t a O v y A Q]
noncomputable abbrev FN:iH:=top 46
noncomputable abbrev FO:List Str:=["_law_arrows"]
def PB:vp ["_law_arrows"] FO (vg FN):=by walk_at "sc"
def FP:(["_law_low","_law_high"]:List Str).Nodup:=by decide +kernel
abbrev TK(q:Cq)(k:Nat):=xn q "_law_tails" FO FM k
def PD(F:CA q "_law_tails" FN f l):Gq q 2 f l FO FM:=by
 refine' vr (wK (D':=Unit) (ms:=[]) (j:=0) F PB rfl rfl λm A c s H E o =>
   (vj (vB (xg (Ts:=["_law_low","_law_high"]) (Fr:=[]) (idx:=[]) (k:=2) (mb:=[]) (is:=[]) (cl:=[]) rfl (wu (ss 0)) ZG rfl (wT rfl) (λa b C d g=>(Cp 0 1 (CZ rfl (wR (vy (i:=0) FP) (wR (vy (i:=1) FP) A8))) q0q q0q)) (λa b C d g=>tws_nil) (λa b C d g=>(ss 0)))))) λp r t h=>?_
 walk_at "wl"
 obtain⟨u,h⟩:=h;have v:hX=16777216:=jk;refine#[q0a,?_];refine wv (f:=λ(e:Int×Int)=>↑e.1) (λe w K n=>n) ?_;rw[pi];exact h
noncomputable abbrev IU:iH:=top 47
abbrev IV:List Str:=["_law_arrows"]
def TL:vp ["_law_arrows"] IV (vg IU):=by walk_at "sc"
def Hc:(["_law_low","_law_high"]:List Str).Nodup:=by decide +kernel
abbrev Wz(q:Cq)(k:Nat):=xn q "_law_heads" IV II k
def TM(F:CA q "_law_heads" IU f l)(B:Bn q.mg):Gq q 2 f l IV II:=by
 refine' vr (wK (D':=Unit) (ms:=[]) (j:=0) F TL rfl rfl λm A c s H E r =>
   (vj (vB (Dg rfl B.sorted (v9 (vO (xg (Ts:=["_law_low","_law_high"]) (Fr:=[]) (idx:=[]) (k:=2) (mb:=[]) (is:=[]) (cl:=[]) rfl (wu (ss 0)) ZG rfl (wT rfl) (λa b C d g=>(Cp 0 1 (CZ rfl (wR (vy (i:=0) Hc) (wR (vy (i:=1) Hc) A8))) q0q q0q)) (λa b C d g=>tws_nil) (λa b C d g=>(ss 1))))))))) λp t u h=>?_
 walk_at "wl"
 obtain⟨n,h⟩:=h;have v:hX=16777216:=jk;refine#[q0a,?_];refine wv (f:=λ(e:Int×Int)=>↑e.2) (λe w K o=>o) ?_;rw[pi];exact#[by rw[h8];exact n,h]
noncomputable abbrev MD:iH:=top 48
noncomputable abbrev ME:List Str:=["_law_rows_here","_law_arrows"]
def N5:vp ["_law_rows_here","_law_arrows","_law_bound"] ME (vg MD):=by walk_at "sc"
def TN:(["_law_k","_law_bound"]:List Str).Nodup:=by decide +kernel
abbrev Zr(q:Cq)(k:Nat):=xn q "_law_lone" ME Mh k
def WA(F:CA q "_law_lone" MD f o)(a:TK q 2)(b:Wz q 2)(c:IK q 2):Gq q 3 f o ME Mh:=by
 refine' vr (wK (D':=Unit) (ms:=[]) (j:=1) F N5 rfl rfl λr A g s H E i =>
   (vz (vC 2 N5.nd (BY (v9 (vO (vA a 79))) (v9 (vO (vA b 79)))) (hx:=uV rfl))
   (vj (vB (xg (Ts:=["_law_k"]) (Fr:=["_law_bound"]) (idx:=[2]) (k:=1) (mb:=[1]) (is:=[]) (cl:=[("_law_bound",⇑s+1)]) rfl (wu (vO (vA c (vk (ss 0) vi)))) RN rfl (wT rfl) (λd e C l m=>(vH 0 (vy TN))) (λd e C l m=>(tws_one (tw_cmI EQ (ss 0) (wo 1) (by with_unfolding_all rfl)))) (λd e C l m=>(ss 0))))))) λp v w h=>?_
 walk_at "wl"
 obtain⟨i,n,t⟩:=h;have x:hX=16777216:=jk;have y:(p.2.1.map (·.1)).length=p.2.1.length:=h8 _;have z:(Bx (p.2.1.map (·.2))).length=p.2.1.length:=by rw[(wN _).length_eq,h8]
 have B:=yi p.1;refine#[n,n,?_];refine#[by show (p.2.1.map (·.1)).length+(Bx (p.2.1.map (·.2))).length<=hX;lia,i,?_];exact#[by show (CW p.1).length<=hX;lia,wm (q:=λk=>!decide (k∈p.2.1.map (·.1)++Bx (p.2.1.map (·.2)))) (λk _ K u=>u) t]
noncomputable abbrev FQ:iH:=top 52
noncomputable abbrev FR:List Str:=["_law_row_here","_law_keep"]
def PF:vp ["_law_row_here","_law_keep"] FR (vg FQ):=by walk_at "sc"
def MF:(["_law_x","_law_keep"]:List Str).Nodup:=by decide +kernel
abbrev TQ(q:Cq)(k:Nat):=xn q "_law_parted" FR CQ k
def PH(F:CA q "_law_parted" FQ f g):Gq q 2 f g FR CQ:=by
 refine' vr (wK (D':=Unit) (ms:=[]) (j:=0) F PF rfl rfl λi A c s H E o =>
   (vj (vB (xg (Ts:=["_law_x"]) (Fr:=["_law_keep"]) (idx:=[1]) (k:=1) (mb:=[1]) (is:=[]) (cl:=[("_law_keep",⇑s+1)]) rfl (wu (ss 0)) RN rfl (wT rfl) (λa b C d e=>(vH 0 (vy MF))) (λa b C d e=>(tws_one (tw_cmI Q3 (ss 0) (v9 (ss 1)) (by with_unfolding_all rfl)))) (λa b C d e=>(ss 0)))))) λp r t h=>?_
 walk_at "wl"
 obtain⟨l,m⟩:=h;exact#[wc l,wm (q:=λk=>decide<|k∈p.2.1) (λk _ K n=>n) m]
abbrev IY:iH:=top 53
abbrev IZ:List Str:=["_law_found","_law_due"]
def TR:vp ["_law_found","_law_due"] IZ (vg IY):=by walk_at "sc"
abbrev WB(q:Cq)(k:Nat):=xn q "_law_truth" IZ IC k
def TU(F:CA q "_law_truth" IY f b)(B:Bn q.mg):Gq q 2 f b IZ IC:=by
 refine' vr (wK (D':=Unit) (ms:=[]) (j:=0) F TR rfl rfl λc A a s H E d =>
   (vj (vB (vG (ES (yP (ty:="bool") rfl B.isinstance (A7 (v:=.ty "bool") rfl B.bool rc rfl) (ss 0)) (Bi (a0v AG (ss 0) (ss 1) (wn _)))))))) λp e g h=>?_
 walk_at "wl"
 rw[cr rfl];exact h
abbrev Ai:iH:=top 54
abbrev Aj:List Str:=["_law_body","_law_rows_here"]
def zt:vp ["_law_body","_law_rows_here","_law_cell"] Aj (vg Ai):=by walk_at "sc"
abbrev I0(q:Cq)(k:Nat):=xn q "_law_cells_kept" Aj (CP) k
def Go(F:CA q "_law_cells_kept" Ai f O)(L:Am q.K C)(e:TB q 6)(a:IK q 6)(n:WB q 6)(o:IN q 6)(t:NF q 6)(g:Sv q 6)(l:Su q 6)(d:V3 q 6)(m:Kk q 6)(B:Bn q.mg):Gq q 7 f O Aj (CP):=by
 refine' vr (wK (D':=Unit) (ms:=[0]) (j:=1) F zt rfl rfl λP A z s H E M =>
   (vz (vQ (tw_w (AH (tw_not (tw_val (vw (vA e (vk (vO (DL 0 t M L.cl BH (pv 0))) (vk (vO (vA a 79)) vi)))))) (zY (tw_cm EN (vw (DL 0 g M L.cl BH (pv 0))) (xv rfl B.len (v9 (ss 1))) (wn _)))))
   130
   vK)
   (vz (wS (is:=[]) (mb:=[0]) (D1:=(Bd C true)×(List 74)×Int×Unit) (D2:=(Bd C true)×(List 74)×Int×Unit) (vP q0q) yV rfl (OR rfl B.range (Rl vn) (Bc Aw (xv rfl B.len (v9 (ss 1))) vn) (λh=>Og rfl B.range h)) (vH 2 (vy (i:=2) zt.nd rfl (lJ rfl)) q0q)
   (vj (vQ (tw_not (tw_val (vw (vA n (vk (vw (v7 0 l 131)) (vk (YG Q3 (ss 2) (v9 (vO (vA a 79))) (by with_unfolding_all rfl)) vi))))))
   130
   vK)) q0q q0q)
   (vz (wS (is:=[]) (mb:=[0]) (D1:=(Bd C true)×(List 74)×Int×Unit) (D2:=(Bd C true)×(List 74)×Int×Unit) (vP q0q) yV rfl (wu (vO (vA a 79))) (vH 2 (vy (i:=2) zt.nd rfl (lJ rfl)) q0q)
   (vz (vQ (tw_w (AH (tw_cm EN (vw (v7 0 d 131)) (EK (zC (xE (v9 (ss 1)) (ss 2)))) (wn _)) (zY (tw_not (tw_val (vw (vA o (vk (vw (v7 0 d 131)) vi))))))))
   130
   vK)
   (vj (vQ (tw_not (tw_val (vw (vA e (vk (vO (v7 0 m 131)) (vk (BX (zC (xE (v9 (ss 1)) (ss 2)))) vi))))))
   130
   vK))) q0q q0q)
   (vj (vB (vG yH))))))) λp S T h=>?_
 walk_at "wl"
 obtain⟨c,v,h⟩:=h;have U:=v.ln;refine#[c.okb v,(show p.2.1.length<1000 by omega),Br c.ks ?_];rw[hI q0q];show if (!decide (p.1.up=(p.2.1.length:Int)))=true then _ else _;rw[hI<|by simp[c.up]];refine⟨⟨q0q,q0q,q0d,q0d⟩,?_⟩;refine vY (λ(r:List Int)(b:B0×List RW×WL.Un×Unit)=>b.1=p.1/\b.2.1=p.2.1) _ #[rfl,rfl] ?_ ?_
 ·rintro k r ⟨D,G,I⟩ _ ⟨u,w⟩ K J;dsimp only at u w ⊢;subst u w;refine#[(show p.2.1.length<1000 by omega),Th (c.a1m k) ?_];rw[hI q0q];exact J _ #[rfl,rfl]
 ·rintro⟨D,G,I⟩ ⟨u,w⟩;dsimp only at u w ⊢;subst u w;refine#[(show p.2.1.length<1000 by omega),?_];refine vY (λ(r:List Int)(b:B0×List RW×WL.Un×Unit)=>b.1=p.1/\b.2.1=p.2.1/\∀k∈r,(rowAt p.2.1 k).isSome=true) _ #[rfl,rfl,λk Q=>yh.mp Q] ?_ ?_
  ·rintro k r ⟨D,G,I⟩ _ ⟨u,w,N⟩ K J;dsimp only at u w ⊢;subst u w;obtain⟨y,x⟩:=Option.isSome_iff_exists.mp<|N k hW;refine NZ c x ⟨_,(vE x).2.2.2,y,rfl,?_⟩;rw[hI q0o];refine NZ c x<|FL ?_;rw[hI q0q];refine Pr c v x ⟨_,(vE x).2.2.2,y,rfl,Br rfl ?_⟩;rw[hI q0q];exact J _ ⟨rfl,rfl,λj R=>N j<|hZ _ R⟩
  ·rintro⟨D,G,I⟩ ⟨u,w,_⟩;dsimp only at u w ⊢;subst u w;exact h
abbrev Ja:iH:=top 55
abbrev Jb:List Str:=["_law_found","_law_due"]
def Kx:vp ["_law_found","_law_due","_law_k"] Jb (vg Ja):=by walk_at "sc"
abbrev WC(q:Cq)(k:Nat):=xn q "_law_pairs" Jb N3 k
def TV(F:CA q "_law_pairs" Ja f o)(a:IN q 3)(B:Bn q.mg):Gq q 4 f o Jb N3:=by
 refine' vr (wK (D':=Unit) (ms:=[]) (j:=1) F Kx rfl rfl λt A d s H E u =>
   (vz (vQ (tw_w (AH (tw_not (tw_val (yP (ty:="list") rfl B.isinstance (A7 (v:=.ty "list") rfl B.list ky rfl) (ss 0)))) (zY (tw_cm EN (xv rfl B.len (v9 (ss 0))) (xv rfl B.len (v9 (ss 1))) (wn _)))))
   130
   vK)
   (vz (wS (is:=[]) (mb:=[]) (D1:=(List (Int×Int))×(List (Int×Int))×Int×Unit) (D2:=(List (Int×Int))×(List (Int×Int))×Int×Unit) (vP q0q) yV rfl (xF rfl B.range (xv rfl B.len (v9 (ss 1)))) (vH 2 (vy (i:=2) Kx.nd rfl (lJ rfl)) q0q)
   (vz (vQ (tw_w (AH (tw_not (tw_val (yP (ty:="tuple") rfl B.isinstance (A7 (v:=.ty "tuple") rfl B.tuple qU rfl) (xE (v9 (ss 0)) (ss 2))))) (zY (tw_cm EN (VD rfl B.len (xE (v9 (ss 0)) (ss 2))) vn (wn _)))))
   130
   vK)
   (vj (vQ (tw_w (AH (tw_not (tw_val (vw (vA a (vk (EK (xE (v9 (ss 0)) (ss 2))) vi))))) (AH (tw_not (tw_val (vw (vA a (vk (BX (xE (v9 (ss 0)) (ss 2))) vi))))) (zY (tw_cm (YF u.units) (xE (v9 (ss 0)) (ss 2)) (xE (v9 (ss 1)) (ss 2)) (wn _))))))
   130
   vK))) q0q q0q)
   (vj (vB (vG yH)))))) λp C D h=>?_
 walk_at "wl"
 obtain⟨e,n,k⟩:=h;rw[e]at n ⊢;refine qL (hI q0q)<|qL (hI q0o) ⟨⟨q0d,q0d⟩,?_⟩;refine vY (λ(r:List Int) (b:List (Int×Int)×List (Int×Int)×WL.Un×Unit)=>b.1=p.2.1/\b.2.1=p.2.1/\∀j∈r,0<=j/\j<(p.2.1.length:Int)) _ #[rfl,rfl,λj w=>IE w] ?_ λ_ _=>k;intro j r;refine a21 λG I J L=>?_;rintro _ ⟨l,m,g⟩ K x;dsimp only at l m ⊢;subst l m;obtain⟨y,c,_⟩:=yD (g j hW).1 (g j hW).2;exact#[y,c,qL (hI q0q) #[y,c,qL (hI q0q) #[y,c,FL<|qL (hI q0q) ⟨y,c,FL<|qL (hI q0q) ⟨y,c,y,c,qL (hI q0o)<|x _ ⟨rfl,rfl,λi z=>g i<|hZ _ z⟩⟩⟩]]]
abbrev MG:iH:=top 56
abbrev MH:List Str:=["_law_field","_law_rows_here","_law_arrows"]
def WD:vp ["_law_field","_law_rows_here","_law_arrows"] MH (vg MG):=by walk_at "sc"
abbrev Zs(q:Cq)(k:Nat):=xn q "_law_kept" MH (Tj) k
def WE{f:hJ}{fd:iX}(F:CA q "_law_kept" MG f fd)(ct:Am q.K C)(Jc:I0 q 7)(WF:WC q 7)(TX:Ko q 7):Gq q 8 f fd MH (Tj):=by
 refine' vr (wK (D':=Unit) (ms:=[0]) (j:=0) F WD rfl rfl λUi A outer s H E hr =>
   (vj (vB (vG (ES (vw (vA Jc (vN 0 79))) (Bi (vw (vA WF (vk (vO (DL 0 TX hr ct.cl BH (pv 0))) 131))))))))) λp Kn Ke h=>?_
 walk_at "wl"
 refine BF λj0z j0y=>?_;obtain⟨⟨c,v,ln,A,so⟩,k⟩:=h;have al:=A.Pu c ln;refine j0y ?_;refine#[c,v,qL (cr rfl) #[by show p.1.ht.length<64;omega,A.ok.nd,A.eq so,?_,k]];show ((Bx<|wj p.1).map λl=>(l,wA p.1 l)).length<64;rw[A.eq so];omega
end
noncomputable abbrev TY:iH:=top 33
def Zt{K:hO}{p:Xo K×Unit}{a:Bg->WL.Un×Unit->Prop}{b:hJ->WL.Un×Unit->Prop}(k:a #[] (#[],())):RE K p a b:=k
section
variable{x:B0}{rows:List RW}{a:List (Int×Int)}
def Arr.tail(A:Arr x a){k:Int}:k∈a.map (·.1)↔k∈wj x:=A.pm.mem_iff
def Arr.hdm(A:Arr x a){k:Int}(h:∃t∈wj x,wA x t=k):k∈a.map (·.2):=by obtain⟨t,m,e⟩:=h;obtain⟨b,c,q⟩:=List.mem_map.mp<|A.tail.mpr m;refine List.mem_map.mpr #[b,c,?_];rw[<- e,<- q];exact(A.hd b c).symm
def Arr.hdt(A:Arr x a){k:Int}(h:k∈a.map (·.2)):∃t∈wj x,wA x t=k:=by obtain⟨e,b,rfl⟩:=List.mem_map.mp h;exact#[e.1,A.mem b,A.hd e b]
def yj(A:Arr x a){k:Int}:k∈Em rows a↔(81).isSome=true/\k∉wj x/\k∉a.map (·.2):=by unfold Em;rw[js,yh,uQ,decide_eq_false_iff_not,lM,zf,A.tail,qe]
def WG:(Em rows a).length<=rows.length:=iP (iL _ _)<|yi rows
def TZ(A:Arr x a){k:Int}(h:k∈Em rows a):wU x k=false:=by
 have h:=(yj A).mp h;unfold wU;rw[NI h.2.1]
 cases e:lk x.th k with
 |none=>rfl
 |some l =>
  have b:=A.ok.th l k e;exact iq (A.hdm #[l,Ac (by rw[b];rfl),by unfold wA;rw[b];rfl]) h.2.2
def PJ(A:Arr x a){k:Int}(h:k∈a.map (·.2)):k∉wj x:=λz=>by obtain⟨t,m,e⟩:=A.hdt h;refine A.ok.one k (xO z) ?_;rw[<- e,(A.ok.ht t _<|wV m).2.2.2];rfl
def CT(A:Arr x a)(c:xR x rows){k:Int}(h:k∈a.map (·.2)):(81).isSome=true:=by obtain⟨t,m,e⟩:=A.hdt h;have:=A.ok.Hy m;rw[e,c.rk,i4]at this;exact this
structure Up(x:B0)(rows:List RW)(a:List (Int×Int))(l f:List Int):Prop where
 A:Arr x a
 c:xR x rows
 v:Vr rows
 ln:rows.length<=35
 ri:w4 l
 ll:∀k∈l,k∈Em rows a
 fl:∃h,f=xr l h/\Fl x (vM (wJ x) l) h
def T0(A:Arr x a)(c:xR x rows)(v:Vr rows)(r:rows.length<=35)(o:w4 l)(n:∀k∈l,k∈Em rows a)(k:∀f,Up x rows a l f->Kn #[f] (x,#[],())):w_up (x,l,()) Kn Ke:=by
 have g:∀k∈l,(81).isSome=true:=λk e=>((yj A).mp<|n k e).1
 have p:∀{k:Int},(81).isSome=true->0<=k/\k<63:=λ{k} h=>by obtain⟨y,b⟩:=Option.isSome_iff_exists.mp h;have:=vE b;exact#[this.1,by have:=this.2.1;omega]
 refine#[#[A.ok,#[o,λk e=>p<|g k e],c.wl g,λk e=>TZ A<|n k e,c.wl λd i=>?_,λd i=>p<|by rw[c.rk,i4]at i;exact i],λh f=>k _ #[A,c,v,r,o,n,h,rfl,f]];obtain⟨j,m,q⟩:=zH (λj m=>by rw[c.wJ];obtain⟨y,b⟩:=Option.isSome_iff_exists.mp<|g j m;rw[xt b];exact vt (v.IF b).1) i;obtain⟨y,b⟩:=Option.isSome_iff_exists.mp<|g j m;rw[c.wJ,xt b]at q;obtain⟨_,t,s⟩:=(v.ok j y.1 y.2 b).2.2.2.1 d q;rw[s];rfl
namespace Up
variable{l f:List Int}(s:Up x rows a l f)
include s
def ris:w4 f:=by obtain⟨h,e,_⟩:=s.fl;rw[e];exact xL s.ri
def mem{k:Int}(h:k∈f):k∈l\/k∈a.map (·.2):=by obtain⟨b,e,g⟩:=s.fl;rw[e]at h;exact(HI (vt g.ri) h).imp id λz=>s.A.hdm<|g.hs k z
def st{k:Int}(h:k∈f):(81).isSome=true:=(s.mem h).elim (λz=>((yj s.A).mp<|s.ll k z).1) λz=>CT s.A s.c z
def nt{k:Int}(h:k∈f):k∉wj x:=(s.mem h).elim (λz=>((yj s.A).mp<|s.ll k z).2.1) λz=>PJ s.A z
def low{k:Int}:k∈f/\k∈Em rows a↔k∈l:=by refine#[λh=>(s.mem h.1).elim id λz=>iq z ((yj s.A).mp h.2).2.2,λh=>#[?_,s.ll k h]];obtain⟨b,e,g⟩:=s.fl;rw[e];exact(zo<|vt g.ri).mpr ⟨λ_ z=>((yj s.A).mp<|s.ll k h).2.2<|s.A.hdm<|g.hs k z,λ_=>h⟩
def len:f.length<=35:=by have:=wO s.ris λk b=>yh.mpr<|s.st b;have:=yi rows;have:=s.ln;omega
def nf{k:Int}(h:(81).isSome=true):(wJ x k).Nodup:=by obtain⟨y,b⟩:=Option.isSome_iff_exists.mp h;rw[s.c.wJ,xt b];exact vt (s.v.IF b).1
def ed{t:Int}(b:t∈wj x):t∉vM (eb rows) f:=by obtain⟨h,e,g⟩:=s.fl;rw[<- ww λk _=>s.c.wJ k,e,Bm s.ri g.ri (λk d=>s.nf ((yj s.A).mp<|s.ll k d).1)<|NR s.A.ok g.hs];exact g.nt t b
def more(i:w4 m)(j:∀k∈m,k∈a.map (·.2)):(∀t∈wj x,t∉vM (eb rows) (xr f m))↔m=[]:=by refine#[λh=>?_,λh=>by subst h;exact λt d=>s.ed d];obtain⟨n,e,g⟩:=s.fl;refine NS s.A.ok g.od i (λk b=>s.A.hdt<|j k b) λt d=>rC ?_;have q:=iC<|h t d;rw[<- ww λk _=>s.c.wJ k,Bm s.ris i (λk b=>s.nf<|s.st b)<|λk b=>s.nf<|CT s.A s.c<|j k b,FD<|wp _ _,ww λk _=>s.c.wJ k,iC<|s.ed d,pY]at q;exact q
def part:(f.filter λk=>decide<|k∈Em rows a)=l:=Ec (jF _ s.ris) s.ri λk=>by rw[js,i9];exact s.low
end Up
def T1(v:Vr rows)(e:∀k∈g,(81).isSome=true){d:Int}(f:d∈vM (eb rows) g):(rowAt rows d).isSome=true:=by obtain⟨c,m,q⟩:=zH (λc m=>by obtain⟨y,b⟩:=Option.isSome_iff_exists.mp<|e c m;rw[xt b];exact vt (v.IF b).1) f;obtain⟨y,b⟩:=Option.isSome_iff_exists.mp<|e c m;rw[xt b]at q;obtain⟨_,i,h⟩:=(v.ok c y.1 y.2 b).2.2.2.1 d q;rw[h];rfl
def MI(v:Vr rows)(b:∀k∈g,(81).isSome=true):(vM (eb rows) g).length<=rows.length:=iP (wO (wp _ _) λd c=>yh.mpr<|T1 v b c)<|yi rows
def T2(c:rows.length<=35){k:Int}(h:(81).isSome=true):k∈zb 0 35:=by obtain⟨y,b⟩:=Option.isSome_iff_exists.mp h;have:=vE b;exact Ab this.1 (by have:=this.2.1;omega)
end
def ZJ{l k:List Int}(h:∀c∈l,c∉k):(l.filter λc=>decide<|c∈k)=[]:=List.filter_eq_nil_iff.mpr λc a z=>h c a<|kK z
def ZK{l k:List Int}(h:∀c∈l,c∈k):(l.filter λc=>decide<|c∈k)=l:=List.filter_eq_self.mpr λc a=>decide_eq_true<|h c a
section
variable{x:B0}{rows:List RW}{a:List (Int×Int)}{l g:List Int}{Kb:Bool->WL.Un×Unit->Prop}{K1:OL Int->WL.Un×Unit->Prop}{K2:OL Int->WL.Un×WL.Un×Unit->Prop}{E1:hJ->WL.Un×Unit->Prop}{E2:hJ->WL.Un×WL.Un×Unit->Prop}
def MJ{c:Bool}{P Q:Prop}(h:c=false)(k:Q):if c=true then P else Q:=by rw[hI<|by rw[h];decide];exact k
def a3o:(!decide (([]:List Int)=[]))=false:=rfl
def a3T:(!decide (l=l))=false:=by rw[decide_eq_true rfl];rfl
def a3p(h:w4 l)(n:l.length<=35)(k:Kb true (#[],())):w_sum (l,()) Kb E1:=#[h,iP n q0q,k]
def N6(n:l.length<=35)(e:(l.filter λc=>decide<|c∈g)=r)(k:K2 #[r] 99):CQ (l,g,()) K2 E2:=#[iP n q0q,by rw[<- e]at k;exact k]
def a1s(n:rows.length<=35)(k:K1 #[CW rows] (#[],())):Mb (rows,()) K1 E1:=#[jv n q0q,k]
def FS(v:Vr rows)(h:∀c∈l,(rowAt rows c).isSome=true)(k:K2 #[vM (eb rows) l] 99):Md (rows,l,()) K2 E2:=#[v,h,k]
def WH(n:rows.length<=35)(m:a.length<=35)(k:K2 #[Em rows a] 99):Mh (rows,a,()) K2 E2:=#[jv n q0q,jv m q0q,k]
def a1t(m:a.length<=35)(k:K1 #[a.map (·.1)] (#[],())):FM (a,()) K1 E1:=#[jv m q0q,k]
def a1u(m:a.length<=35)(k:K1 #[Bx (a.map (·.2))] (#[],())):II (a,()) K1 E1:=#[jv m q0q,k]
def T4{b:Bg}{K2:OL Int->Bg×WL.Un×Unit->Prop}{E2:hJ->Bg×WL.Un×Unit->Prop}(n:l.length<=35)(k:∀m,w4 m->(∀x∈m,x∈l)->K2 #[m] 99):Mc (b,l,()) K2 E2:=#[jv n q0q,k]
def WI(n:rows.length<=35)(c:w4 l)(d:w4 g)(e:∀k∈l,(81).isSome=true)(f:∀k∈g,(81).isSome=true)(k:K2 #[xr l g] 99):IA (l,g,()) K2 E2 :=
 #[Mg c d (λk b=>T2 n<|e k b)<|λk b=>T2 n<|f k b,by rw[<- Rt c d]at k;exact k]
def a1X(m:a.length<=35):(Bx (a.map (·.2))).length<=35:=by rw[(wN _).length_eq,h8];exact m
def Arr.len(A:Arr x a)(c:xR x rows)(n:rows.length<=35):a.length<=35:=by have:=A.Pu c n;lia
def MK(v:Vr rows){a:List Int}(i:∀k∈a,(81).isSome=true):(∀k∈vM (eb rows) a,(81).isSome=true)/\vM (eb rows) (vM (eb rows) a)=[]/\∀k∈a,w4 (eb rows k):=by
 have ed:∀k∈a,∃y,rowAt rows k=↑y:=λk e=>Option.isSome_iff_exists.mp<|i k e
 have f:∀k∈a,w4 (eb rows k):=λk e=>by obtain⟨y,b⟩:=ed k e;rw[xt b];exact(v.IF b).1
 refine#[λk e=>?_,GQ λk e=>#[f k e,λd hd=>?_,?_],f]
 ·obtain⟨d,hd,h⟩:=zH (λc j=>vt<|f c j) e;obtain⟨y,b⟩:=ed d hd;rw[xt b]at h;obtain⟨m,q⟩:=((v.ok d y.1 y.2 b).2.2.2.1 k h).2;rw[q];rfl
 ·obtain⟨y,b⟩:=ed k e;rw[xt b]at hd;obtain⟨m,q⟩:=((v.ok k y.1 y.2 b).2.2.2.1 d hd).2;rw[xt q];exact vt (v.IF q).1
 ·obtain⟨y,b⟩:=ed k e;rw[xt b];exact(v.ok k y.1 y.2 b).2.2.2.2
def Up.Zg(s:Up x rows a l f)(t:Up x rows a l g):f=g:=by obtain⟨h,e,u⟩:=s.fl;obtain⟨d,b,c⟩:=t.fl;rw[e,b,Fl.Zg s.A.ok u c]
def Up.bst(s:Up x rows a l f){k:Int}(h:k∈vM (eb rows) f):(81).isSome=true:=T1 s.v (λc d=>s.st d) h
/-- the slim b -/
noncomputable def Ul(rows:List RW)(a:List (Int×Int))(f:List Int):List Int:=(vM (eb rows) f).filter λk=>decide<|k∈Em rows a
def Zu(A:Arr x a){k:Int}(h:(81).isSome=true):(!wU x k)=decide (k∈Em rows a):=by
 by_cases q:k∈Em rows a
 ·rw[TZ A q,decide_eq_true q];rfl
 ·rw[iC q]
  cases e:wU x k with
  |true=>rfl
  |false =>
   refine iq ((yj A).mpr #[h,λz=>?_,λz=>?_]) q
   ·unfold wU at e;rw[xO z]at e;cases e
   ·obtain⟨t,m,b⟩:=A.hdt z;unfold wU at e;rw[<- b,(A.ok.ht t _<|wV m).2.2.2]at e;simp at e
def N7(A:Arr x a)(c:xR x rows)(v:Vr rows)(j:rows.length<=35)(m:w4 l)(n:∀k∈l,k∈Em rows a)(k:∀f,Up x rows a l f->i #[Ul rows a f] (x,#[],())):zp (x,l,()) i q:=by
 have u:=T0 (Kn:=λf p=>Up x rows a l f.l) (Ke:=λ_ _=>True) A c v j m n λf s=>s;refine#[u.1,λh o=>?_];have s:Up x rows a l (xr l h):=u.2 h o;have e:vM (wJ x) (xr l h)=vM (eb rows) (xr l h):=ww λk _=>c.wJ k;refine#[#[c.wl λk d=>s.st d,?_],?_]
 ·have:=MI v (g:=xr l h) λk d=>s.st d;show (vM (wJ x)<|xr l h).length<=1000;rw[e];omega
 ·show i #[(vM (wJ x)<|xr l h).filter λk=>!wU x k] (x,#[],());rw[e,m4 λk d=>Zu A<|s.bst d];exact k _ s
/-- up of the slim b is the b of up -/
def Up.slim(s:Up x rows a l f)(t:Up x rows a (Ul rows a f) g):g=vM (eb rows) f:=by
 have st:∀k∈f,(81).isSome=true:=λk b=>s.st b;have bs:=MK s.v st
 let hd:=(vM (eb rows) f).filter λk=>!decide (k∈Em rows a)
 have h:w4 (Ul rows a f):=jF _<|wp _ _;have d:w4 hd:=jF _<|wp _ _
 have e:xr (Ul rows a f) hd=vM (eb rows) f:=AM (xL h) (wp _ _) λk=>by rw[FD d];show xor (decide<|k∈(vM (eb rows) f).filter λk=>decide<|k∈Em rows a) (decide<|k∈(vM (eb rows) f).filter λk=>!decide (k∈Em rows a))=_;by_cases p:k∈vM (eb rows) f<;>by_cases q:k∈Em rows a<;>simp[js,p,q]
 have i:∀k∈hd,k∈a.map (·.2):=λk b=>by
  have b:=List.mem_filter.mp b;have nl:k∉Em rows a:=λz=>by have:=b.2;rw[decide_eq_true z]at this;cases this
  refine Decidable.byContradiction λz=>nl<|(yj s.A).mpr ⟨s.bst b.1,λy=>s.ed y b.1,z⟩
 obtain⟨m,j,u⟩:=t.fl;have sl:∀k∈Ul rows a f,(81).isSome=true:=λk b=>s.bst (List.mem_filter.mp b).1
 have F:Fl x (vM (wJ x) (Ul rows a f)) hd:=#[d,λk b=>s.A.hdt (i k b),λy n=>by
  rw[<- Bm h d (λk b=>s.nf<|sl k b) (λk b=>s.nf<|CT s.A s.c<|i k b),e,ww λk _=>s.c.wJ k,bs.2.1]
  exact jq,u.od]
 rw[j,Fl.Zg s.A.ok u F,e]
def a1Y:w4 []:=iO
def Fl.st(A:Arr x a)(c:xR x rows)(f:Fl x l h):∀k∈h,(81).isSome=true:=λk b=>CT A c<|A.hdm<|f.hs k b
def a3r(c:xR x rows)(v:Vr rows)(s:∀k∈l,(81).isSome=true):∀k∈l,(wJ x k).Nodup:=λk d=>by obtain⟨y,b⟩:=Option.isSome_iff_exists.mp<|s k d;rw[c.wJ,xt b];exact vt (v.IF b).1
def Zv(e:rows.length<=35)(b:w4 l)(s:∀k∈l,(81).isSome=true):NP l:=#[b,λk c=>by
 obtain⟨y,d⟩:=Option.isSome_iff_exists.mp<|s k c;have:=vE d
 exact#[this.1,by have:=this.2.1;omega]]
def Zw(A:Arr x a)(c:xR x rows)(b:rows.length<=35)(d:w4 l)(s:∀k∈l,(81).isSome=true)(k:∀h,Fl x l h->e #[h] (x,#[],())):FC (x,l,()) e i:=by refine#[A.ok,Zv b d s,?_];show if wl x l=true then _ else _;rw[cr<|c.wl s];exact λo f=>k _<|SV A.ok f
def Up.due(s:Up x rows a l f)(g:Fl x (vM (eb rows) l) h):f=xr l h:=by obtain⟨b,e,u⟩:=s.fl;rw[ww λk _=>s.c.wJ k]at u;rw[e,u.Zg s.A.ok g]
def T5(s:Up x rows a l f)(b:g=Em rows a)(k:K2 #[Ul rows a f] 99):CQ (vM (eb rows) f,g,()) K2 E2:=N6 (iP (MI s.v λc d=>s.st d) s.ln) (by rw[b];rfl) k
def WJ(s:Up x rows a l f):(Ul rows a f).length<hX:=jv (iL _ _)<|jv (iP (MI s.v λc b=>s.st b) s.ln) q0q
def T6{u w:List Int}(e:u=w):(!decide (u=w))=false:=by rw[decide_eq_true e];rfl
end
section
variable{q:Cq} 
noncomputable abbrev CU:iH:=top 57
def y8:vp ["_law_script","_law_bag_here","_law_field","_law_rows_here","_law_arrows","_law_lone_here","_law_row_here","_law_handed","_law_found","_law_due","_law_slim"] ["_law_script"] (vg CU):=by walk_at "sc"
def Zx{f:hJ}{fd:iX}(F:CA q "law" CU f fd)(P:xn q "_law_bag" ["_law_script"] (RE q.K) 10)(y:Wy q 10)(D:Zr q 10)(G:Tt q 10)(M:a1i q 10)(I:IJ q 10)(u:Ku q 10)(o:Tu q 10)(n:TB q 10)(m:TQ q 10)(b:Gn q 10)(J:Zs q 10)(B:Bn q.mg):Gq q 11 f fd ["_law_script"] (Xq q.K):=by
  refine' vr (wK (D':=Unit) (ms:=[]) (j:=10) F y8 rfl rfl λaa A X s H E U =>
      (vz (vC 1 y8.nd (vA P (vk (ss 0) vi)))
      (vz (VG 2 3 4 (CZ rfl (wR (vy (i:=2) y8.nd rfl (lJ rfl)) (wR (vy (i:=3) y8.nd rfl (lJ rfl)) (wR (vy (i:=4) y8.nd rfl (lJ rfl)) A8)))) q0q q0q q0q (vA y (vN 1 (vk vn vi))))
      (vz (vC 5 y8.nd (vA D (vD 3 (vD 4 vi))))
      (vz (vC 6 y8.nd (vA G (vN 1 (vD 5 vi))))
      (vz (vC 7 y8.nd (Hz rfl B.list (wo 6)))
      (vz (vC 8 y8.nd (vA M (vN 2 (vD 7 vi))))
      (vz (vC 9 y8.nd (vA I (vD 6 (vk (vO (vA u (vN 2 (vk (vO (vA o (vD 3 (vD 6 vi)))) vi)))) vi))))
      (vz (vQ (tw_w (AH (tw_not (tw_val (vw (vA n (vD 8 (vD 9 vi)))))) (AH (tw_cmL (BZ U.units) (wo 7) (wo 6) (wn _)) (zY (tw_cmL (BZ U.units) (v9 (vO (vA m (vD 9 (vD 5 vi))))) (wo 6) (wn _))))))
      130
      vK)
      (vz (wF 8 vn)
      (Cz (w':=λ(d:(Xo q.K)×Bg×(Bd C true)×(OL 74)×(OL (Int×Int))×(OL Int)×(OL Int)×(OL Int)×(OL Int)×(OL Int)×Un×Unit) (_:Unit->Prop) (z:Bool->Un×Unit->Prop) (_:hJ->Un×Unit->Prop)=>(Up d.2.2.1 d.2.2.2.1.l d.2.2.2.2.1.l d.2.2.2.2.2.2.2.1.l d.2.2.2.2.2.2.2.2.2.1.l/\d.2.2.2.2.2.1.l=Em d.2.2.2.1.l d.2.2.2.2.1.l/\d.2.2.2.2.2.2.2.1.l=d.2.2.2.2.2.2.1.l/\(d.2.2.2.2.1.l.map (·.1)).Pairwise (·<=·))/\z true (#[],())) (vz (vQ (tw_not (tw_val (vw (vA n (vk (vO (vA M (vN 2 (vD 7 vi)))) (vD 9 vi))))))
      130
      vK)
      (Cz (w':=λ(d:(Xo q.K)×Bg×(Bd C true)×(OL 74)×(OL (Int×Int))×(OL Int)×(OL Int)×(OL Int)×(OL Int)×(OL Int)×Un×Unit) (_:Unit->Prop) (z:Bool->Un×Unit->Prop) (_:hJ->Un×Unit->Prop)=>(Up d.2.2.1 d.2.2.2.1.l d.2.2.2.2.1.l d.2.2.2.2.2.2.2.1.l d.2.2.2.2.2.2.2.2.2.1.l/\d.2.2.2.2.2.1.l=Em d.2.2.2.1.l d.2.2.2.2.1.l/\d.2.2.2.2.2.2.2.1.l=d.2.2.2.2.2.2.1.l/\(d.2.2.2.2.1.l.map (·.1)).Pairwise (·<=·))/\z true (#[],())) (vz (vC 10 y8.nd (vA b (vN 2 (vD 7 vi))))
      (vz (vQ (tw_w (AH (tw_not (tw_val (vw (vA n (vD 10 (vk (vO (vA m (vk (vO (vA o (vD 3 (vD 9 vi)))) (vD 5 vi)))) vi)))))) (zY (tw_cmL (BZ U.units) (wo 7) (wo 6) (wn _)))))
      130
      vK)
      (vz (wF 10 vn)
      (Cz (w':=λ(d:(Xo q.K)×Bg×(Bd C true)×(OL 74)×(OL (Int×Int))×(OL Int)×(OL Int)×(OL Int)×(OL Int)×(OL Int)×(OL Int)×Unit) (_:Unit->Prop) (z:Bool->Un×Unit->Prop) (_:hJ->Un×Unit->Prop)=>(Up d.2.2.1 d.2.2.2.1.l d.2.2.2.2.1.l d.2.2.2.2.2.2.2.1.l d.2.2.2.2.2.2.2.2.2.1.l/\d.2.2.2.2.2.1.l=Em d.2.2.2.1.l d.2.2.2.2.1.l/\d.2.2.2.2.2.2.2.1.l=d.2.2.2.2.2.2.1.l/\(d.2.2.2.2.1.l.map (·.1)).Pairwise (·<=·))/\z true (#[],())) (vz (vQ (tw_not (tw_val (vw (vA n (vk (vO (vA b (vN 2 (vD 7 vi)))) (vk (vO (vA m (vk (vO (vA o (vD 3 (vD 9 vi)))) (vD 5 vi)))) vi))))))
      130
      vK)
      (Cz (w':=λ(d:(Xo q.K)×Bg×(Bd C true)×(OL 74)×(OL (Int×Int))×(OL Int)×(OL Int)×(OL Int)×(OL Int)×(OL Int)×(OL Int)×Unit) (_:Unit->Prop) (z:Bool->Un×Unit->Prop) (_:hJ->Un×Unit->Prop)=>(Up d.2.2.1 d.2.2.2.1.l d.2.2.2.2.1.l d.2.2.2.2.2.2.2.1.l d.2.2.2.2.2.2.2.2.2.1.l/\d.2.2.2.2.2.1.l=Em d.2.2.2.1.l d.2.2.2.2.1.l/\d.2.2.2.2.2.2.2.1.l=d.2.2.2.2.2.2.1.l/\(d.2.2.2.2.1.l.map (·.1)).Pairwise (·<=·))/\z true (#[],())) (vj (vB (vG (ES (Q4 (HD U.units) (wo 7) (wo 6) (wn _)) (Bi (vw (vA J (vN 2 (vD 3 (vD 4 vi)))))))))) (by
   intro d S z W h
   walk_at "wl"
   refine BF λQ r=>?_
   obtain⟨⟨s,N,O,L⟩,k⟩:=h
   refine r ?_
   exact qL (cr<|decide_eq_true O) #[#[s.c,s.v,s.ln,s.A,L],k]
))) (by
   intro d S z W h
   walk_at "wl"
   refine BF λQ r=>?_
   obtain⟨⟨s,N,O,L⟩,k⟩:=h
   refine r ?_
   exact N7 s.A s.c s.v s.ln s.ri s.ll λf t=>FS s.v (λc Y=>s.st Y) (T5 s N<|Br (congrArg (Ul _ _)<|t.Zg s)<|MJ rfl #[#[s,N,O,L],k])
))))) (by
   intro d S z W h
   walk_at "wl"
   refine BF λQ r=>?_
   obtain⟨⟨s,N,O,L⟩,k⟩:=h
   refine r ?_
   refine N7 s.A s.c s.v s.ln s.ri s.ll λf t=>FS s.v (λc Y=>s.st Y)<|T5 s N<|Br (congrArg (Ul _ _)<|t.Zg s)<|MJ rfl ?_
   exact MJ (T6 O) #[WJ t,#[s,N,O,L],k]
))) (by
   intro d S z W h
   walk_at "wl"
   refine BF λQ r=>?_
   obtain⟨⟨s,N,O,L⟩,k⟩:=h
   refine r ?_
   exact T0 s.A s.c s.v s.ln s.ri s.ll λg t=>Br (t.Zg s) (MJ rfl #[#[s,N,O,L],k])
)))))))))))) λp S W h=>?_
  walk_at "wl"
  have h:S true (#[],()):=h
  refine Zt ?_
  refine#[#[q0q,q0q],λx T a c v R A L=>?_]
  have al:=A.len c R
  refine WH R al<|T4 (iP WG R) λl l1 l2=>?_
  have Z:=λk hk=>((yj A).mp<|l2 k hk).1
  refine T0 A c v R l1 l2 λf s=>FS v Z<|Zw A c R (wp _ _) (λk hk=>T1 v Z hk) λg w=>?_
  have e:=s.due w
  have t:Up x T a l (xr l g):=e▸s
  refine WI R l1 w.ri Z (w.st A c)<|Br e<|MJ rfl<|MJ (T6 rfl) ?_
  exact N6 t.len t.part<|MJ (T6 rfl) #[jv s.len q0q,#[t,rfl,rfl,L],h]
end
section
variable{P:iQ}{w:jf}{K:hO}{mg:Str->Option ci}{base:ja}
def T7:vp ["_law_bag_here","_law_many","_law_seed","_law_mixed","_law_drawn"] ["_law_bag_here","_law_many"] (vg Ma):=#[rfl,rfl,rfl,q0s,rfl,q0s,q0s]
def WK(F:za K "_law_pull" "_law_pull" Ma f I)(c:mg "len"=none):vU P w K mg base Qz 1 f I ["_law_bag_here","_law_many"] WL.Ri:=by
 refine F.ok T7 (λJ H Q E h=>?_)<|λL A p s H J Q E N h=>?_
 ·obtain⟨g,q,m,i,z,s,e,rfl,_⟩:=h;rfl
 ·obtain⟨g,q,m,i,z,j,e,rfl,B,d,v,k⟩:=h;have l:=T7.nd
  refine#[_,wG (MW (ye W0 77 vL (wn _))
    (wG (Uv (pv 0) vL QK vL P2 set_list)
    (wG (Au (i:=2) l rfl (lJ rfl) 77)
    (wG (MW (ye W0 77 (wZ xH (by rfl) c mW (vq 77 vF)) (wn _))
     (yd (Au (i:=2) l rfl (lJ rfl) (yF w8 77 (xj KQ 77 vL) (λ_ _=>rfl)))) zP)
    (wG (MW (WT (ye W2 77 (wZ xH (by rfl) c mW (vq 77 vF)) (wn _)) (PZ (ye WZ (pv 2) (xj X5 vL vL) (wn _)))).pt
     (wG (Au (i:=3) l rfl (lJ rfl) (xj C0 (xj Aw (xj Aw (xj BO (pv 2) vL) (xj BO 77 vL)) vL) vL))
     (wG (Au (i:=3) l rfl (lJ rfl) (xj C0 (xj BO (pv 3) (pv 3)) vL))
     (yd (CY (xj C0 (xj MX (xj C0 (xj BO (xj Aw (pv 3) 77) vL) vL) vL) (pv 1)))))) zP)
    (yd (KN (pv 2) (P1 (pv 0) vL set_list))))))) zP)
   (wG (Au (i:=4) l rfl (lJ rfl) (xj C0 77 (pv 1)))
   (wG (KN (xj MX 77 (pv 1)) (P1 (pv 0) vL set_list))
   (yd (CY (pv 4))))),?_]
  refine#[_,rfl,g,_,_,_,rfl,rfl,wI.of B.ob,Rh _ _ _ _,_,_,rfl,rfl,_,rfl,?_];refine UK (λ_=>?_)<|λ_=>?_
  ·-- r[1] += 1;x=r[3]
   refine#[_,rfl,g,_,_,_,rfl,rfl,B.ob,q0q,rfl,_,_,rfl,rfl,g,_,_,1,rfl,rfl,B.ob,rfl,?_];have a:DJ (upd H g<|.lst<|Gd q (i+1) z j) g q m (i+1) z j:=B.put (by have:=B.i0;lia);refine⟨_,rfl,g,_,_,_,rfl,rfl,wI.of a.ob,a2Z _ _ _ _,?_⟩;refine⟨_,rfl,g,_,_,_,rfl,rfl,wI.of a.ob,Rf _ _ _ _,_,rfl,g,_,_,_,rfl,rfl,wI.of a.ob,YR _ _ _ _,q,_,rfl,.inl<|wI.of a.sc,_,_,rfl,rfl,_,rfl,?_⟩;have b:=a;refine' cutG (α:=Int) (G:=_) (λy=>UK (λC=>?_)<|λC=>?_) ?_
   rotate_left
   ·have t:i+1<=((m.map V.int).length:Int):=kK C;rw[h8]at t;obtain⟨n,M⟩:=Vg (ns:=m) (i:=i+1-1) (by have:=B.i0;lia) q0a;refine#[_,rfl,g,_,_,_,rfl,rfl,wI.of a.ob,YR _ _ _ _,_,rfl,g,_,_,_,rfl,rfl,wI.of a.ob,Rf _ _ _ _,_,_,rfl,rfl,q,_,_,_,rfl,rfl,wI.of a.sc,M,?_];exact y n
   ·exact y j
   ·intro n;refine#[_,rfl,g,_,_,_,rfl,rfl,wI.of a.ob,Rf _ _ _ _,_,rfl,g,_,_,_,rfl,rfl,wI.of a.ob,YR _ _ _ _,q,_,rfl,.inl<|wI.of a.sc,_,_,rfl,rfl,_,rfl,?_];refine' cutP (G:=_) (λD=>UK (λ_=>a2z D)<|λ_=>?_) ?_
    ·refine#[_,rfl,_,_,rfl,rfl,#[q0q,q0q,q0q],_,_,rfl,rfl,_,rfl,?_];refine UK (λ_=>D)<|λ_=>?_;refine#[_,rfl,_,rfl,g,_,_,2,rfl,rfl,a.ob,rfl,?_];have b:=a.put (z':=n) a.i0;have u:=(Kp.at (g:=g) (H:=H) (o:=.lst<|Gd q (i+1) z j)).trans<|Kp.at (o:=.lst<|Gd q (i+1) n j);refine#[_,rfl,g,_,_,_,rfl,rfl,wI.of b.ob,Rh _ _ _ _,_,rfl,_,_,rfl,rfl,d,?_];refine#[_,rfl,g,_,_,_,rfl,rfl,wI.of b.ob,Rh _ _ _ _,_,rfl,_,_,rfl,rfl,#[d,v],_,rfl,g,_,_,2,rfl,rfl,b.ob,rfl,?_];exact#[_,rfl,k _ _ _ _ (u.trans Kp.at) (b.put b.i0) (rT _ q0a)<|qG _ d]
    ·refine#[_,rfl,_,_,rfl,rfl,.inr #[q0q,q0q],_,rfl,g,_,_,_,rfl,rfl,wI.of a.ob,Rf _ _ _ _,_,_,rfl,rfl,.inr #[q0q,q0q],_,_,rfl,rfl,_,_,rfl,rfl,_,_,rfl,rfl,(by show (0:Int)<2147483647;decide),?_];refine#[_,rfl,_,rfl,_,_,rfl,rfl,.inl<|a0E _,_,_,rfl,rfl,(by show (0:Int)<2147483629;decide),?_];refine#[_,rfl,_,rfl,g,_,_,_,rfl,rfl,wI.of a.ob,Rf _ _ _ _,_,_,rfl,rfl,_,_,rfl,rfl,.inr #[q0q,q0q],_,_,rfl,rfl,(by show (0:Int)<998244353;decide),_,_,rfl,rfl,#[q0q,q0q],_,rfl,_,_,rfl,rfl,d,?_];exact k _ _ _ _ Kp.at a (rT _ q0a)<|qG _ d
  ·have b:=B;have u:=Kp.refl g H;refine#[_,rfl,g,_,_,_,rfl,rfl,wI.of b.ob,Rh _ _ _ _,_,rfl,_,_,rfl,rfl,d,?_];refine#[_,rfl,g,_,_,_,rfl,rfl,wI.of b.ob,Rh _ _ _ _,_,rfl,_,_,rfl,rfl,#[d,v],_,rfl,g,_,_,2,rfl,rfl,b.ob,rfl,?_];exact#[_,rfl,k _ _ _ _ (u.trans Kp.at) (b.put b.i0) (rT _ q0a)<|qG _ d]
def N8:vp ["_law_script","_law_salt","_law_one"] ["_law_script"] (vg TY):=#[rfl,rfl,rfl,q0s,rfl,q0s,q0s]
def a3s(a:List Int)(b c:Option Int):∃d:List Int,Ey (a.map V.int) b c=d.map V.int:=by unfold Ey;exact#[_,by rw[<- List.map_drop,<- List.map_take]]
def Zy(F:za K "_law_bag" "_law_bag" TY f U)(m:mg "len"=none)(g:mg "list"=none):vU P w K mg base Qz 1 f U ["_law_script"] (WL.Xp K):=by
 refine F.ok N8 (λX H Q E h=>?_)<|λY A B s H X Q E hr h=>?_
 ·obtain⟨a,N,rfl,_⟩:=h;rfl
 ·obtain⟨a,N,rfl,C,k⟩:=h
  refine#[_,wG (Au (i:=1) N8.nd rfl (lJ rfl) (wZ xH (by rfl) m mW (vq (Ay DZ (pv 0) DX (DY vL)) vF)))
   (wG (P6 PassesOwn.never rfl (Hf (Ay DZ (pv 0) DX (DY vL))) (vy (i:=2) N8.nd)
    (yd (Au (i:=1) N8.nd rfl (lJ rfl) (xj C0 (xj Aw (xj BO (pv 1) vL) (pv 2)) vL))))
   (yd (CY (Qd (vq (xU yJ rfl g ky (vq (Ay DZ (pv 0) DX (DY vL)) vF)) (vq vL (vq vL (vq (pv 1) vF)))))))),?_]
  obtain⟨b,j⟩:=a3s N none<|some 63;refine⟨_,rfl,63,rfl,a,_,rfl,C,λp Z=>?_⟩;rw[j];have O:DT H (upd H p<|.lst<|b.map V.int):=AI Z;refine⟨p,_,rfl,.inl<|wI.of vm,?_⟩;refine⟨_,rfl,63,rfl,a,_,rfl,O.seq C,λn D=>?_⟩;rw[j];have s2:DT (upd H p<|.lst<|b.map V.int) (upd (upd H p<|.lst<|b.map V.int) n<|.lst<|b.map V.int):=AI D;have c:=O.trans s2;generalize G:upd (upd H p<|.lst<|b.map V.int) n (.lst<|b.map V.int)=H2 at c;have q:H2 n=↑(.lst<|b.map V.int):=by rw[<- G];exact vm
  refine#[n,rfl,#[_,wI.of q],P7 (K:=K) (a:=n) (xs:=b.map V.int) (λi u x=>x=H2/\∃(r:Int)(v:Option V),u=[some<|.ref a,some<|.int r,v]) ⟨rfl,_,none,rfl⟩ (λi u x _ z9=>e0a2 z9 λe _=>by rw[e];exact wI.of q) ?_ ?_]
  ·rintro i y u x d ⟨rfl,r,v,rfl⟩
   obtain⟨z,rfl⟩:∃z,y=V.int z:=by
    rw[jU]at d
    cases e:b[i]? with
    |none=>rw[e]at d;cases d
    |some z=>rw[e]at d;exact#[z,(jj d).symm]
   exact#[_,rfl,_,_,rfl,rfl,.inr #[q0q,q0q],_,rfl,_,_,rfl,rfl,_,_,rfl,rfl,(by show (0:Int)<1000003;decide),rfl,_,_,rfl]
  ·rintro u x ⟨rfl,r,v,rfl⟩;refine#[_,rfl,63,rfl,a,_,rfl,c.seq C,λp3 I=>?_];rw[j];refine#[p3,_,rfl,.inl<|wI.of vm,λJ t=>#[_,rfl,(by decide:4<=hX),λR l=>?_]];have L:=AI (o:=.lst<|b.map V.int) I;have S:=AI (o:=.lst<|b.map V.int) t;have T:=AI (o:=.lst<|Gd J 0 0 r) l;have M:J≠R:=vv vm l;refine k _ R J b r (((c.trans L).trans S).trans T) #[vm,T _ _ vm,oO _,M] ?_ ?_
   ·exact(((c.trans L).trans S).free l)
   ·exact((c.trans L).free t)
end
section
variable{q:Cq} 
noncomputable abbrev ML:iH:=Bl (top 30) 1
def WM:xS DM DM (vg ML):=by walk_at "ss"
noncomputable abbrev FT:iH:=Bl (top 30) 4
def PL:xS zj zj (vg FT):=by walk_at "ss"
noncomputable abbrev Jd:iH:=Bl (top 30) 8
def T8:xS AX AX (vg Jd):=by walk_at "ss"
noncomputable abbrev Ak:iH:=Bl (top 30) 9
def Gp:xS wX wX (vg Ak):=by walk_at "ss"
noncomputable abbrev Dy:iH:=Bl (top 30) 7
def MM:xS yz yz (vg Dy):=by walk_at "ss"
abbrev Dz:iH:=Bl (top 30) 5
def MN:xS yy yy (vg Dz):=by walk_at "ss"
abbrev DA:iH:=Bl (top 30) 3
def MO:xS yx yx (vg DA):=by walk_at "ss"
abbrev Je:iH:=Bl (top 30) 6
def T9:xS zk zk (vg Je):=by walk_at "ss"
noncomputable abbrev Jf:iH:=Bl (top 30) 2
def Ky:xS AY AY (vg Jf):=by walk_at "ss"
def WN{f:hJ}{fd:iX}{k:Nat}(F:CB q.P q.K C "put" "Field.put" ML f fd)(G:Fs q.P q.w q.K q.mg q.base C "put" DM (yM q.T<|Kg) k):Gq q (k+1) f fd DM (Kg) :=
 yr (m:="put") (ta:=(BB (vT 1)<|BB (vT 2) BQ)) F WM rfl rfl (λ_=>#[_,rfl]) G (λzK cc A outer s H E=>(vq (pv 1)<|vq (pv 2) vF)) (λa r H Q hl h=>by obtain⟨u1,u2,rfl⟩:=lx2 r<|nO hl;exact⟨u1,rfl,u2,rfl,h⟩) (λf2 env h=>cw_cons h)
def PM{f:hJ}{fd:iX}{k:Nat}(F:CB q.P q.K C "cells" "Field.cells" FT f fd)(G:Fs q.P q.w q.K q.mg q.base C "cells" zj (yM q.T<|El) k):Gq q (k+1) f fd zj (El) :=
 yr (m:="cells") (ta:=BQ) F PL rfl rfl (λ_=>#[_,rfl]) G (λzK cc A outer s H E=>vF) (λa r H Q hl h=>by obtain rfl:=lx0 r<|nO hl;exact h) (λf2 env h=>cw_nil h)
def Ua{f:hJ}{fd:iX}{k:Nat}(F:CB q.P q.K C "over" "Field.over" Jd f fd)(G:Fs q.P q.w q.K q.mg q.base C "over" AX (yM q.T<|H0) k):Gq q (k+1) f fd AX (H0) :=
 yr (m:="over") (ta:=(BB (vT 1) BQ)) F T8 rfl rfl (λ_=>#[_,rfl]) G (λzK cc A outer s H E=>(vq (pv 1) vF)) (λa r H Q hl h=>by obtain⟨u1,rfl⟩:=lx1 r<|nO hl;exact⟨u1,rfl,h⟩) (λf2 env h=>cw_cons h)
def Gr{f:hJ}{fd:iX}{k:Nat}(F:CB q.P q.K C "border_of" "Field.border_of" Ak f fd)(G:Fs q.P q.w q.K q.mg q.base C "border_of" wX (yM q.T<|yw) k):Gq q (k+1) f fd wX (yw) :=
 yr (m:="border_of") (ta:=(BB (vT 1) BQ)) F Gp rfl rfl (λ_=>#[_,rfl]) G (λzK cc A outer s H E=>(vq (pv 1) vF)) (λa r H Q hl h=>by obtain⟨u1,rfl⟩:=lx1 r<|nO hl;exact⟨u1,rfl,h⟩) (λf2 env h=>cw_cons h)
def MP{f:hJ}{fd:iX}{k:Nat}(F:CB q.P q.K C "border" "Field.border" Dy f fd)(G:Fs q.P q.w q.K q.mg q.base C "border" yz (yM q.T<|AS) k):Gq q (k+1) f fd yz (AS) :=
 yr (m:="border") (ta:=(BB (vT 1) BQ)) F MM rfl rfl (λ_=>#[_,rfl]) G (λzK cc A outer s H E=>(vq (pv 1) vF)) (λa r H Q hl h=>by obtain⟨u1,rfl⟩:=lx1 r<|nO hl;exact⟨u1,rfl,h⟩) (λf2 env h=>cw_cons h)
def MQ{k:Nat}(F:CB q.P q.K C "coming" "Field.coming" Dz f c)(G:Fs q.P q.w q.K q.mg q.base C "coming" yy (yM q.T<|CH) k):Gq q (k+1) f c yy (CH) :=
 yr (m:="coming") (ta:=BQ) F MN rfl rfl (λ_=>#[_,rfl]) G (λd i A b s H E=>vF) (λa r H Q e h=>by
  match r,e with
  | [],_=>exact h) (λj g h=>cw_nil h)
def MR{k:Nat}(F:CB q.P q.K C "stands" "Field.stands" DA f c)(G:Fs q.P q.w q.K q.mg q.base C "stands" yx (yM q.T<|CG) k):Gq q (k+1) f c yx (CG) :=
 yr (m:="stands") (ta:=(BB (vT 1) BQ)) F MO rfl rfl (λ_=>#[_,rfl]) G (λd j A b s H E=>(vq (pv 1) vF)) (λa r H Q e h=>by
  match r,e with
  | [g],_=>exact#[g,rfl,h]) (λl i h=>cw_cons h)
def Ub{k:Nat}(F:CB q.P q.K C "rank" "Field.rank" Je f c)(G:Fs q.P q.w q.K q.mg q.base C "rank" zk (yM q.T<|CI) k):Gq q (k+1) f c zk (CI) :=
 yr (m:="rank") (ta:=(BB (vT 1) BQ)) F T9 rfl rfl (λ_=>#[_,rfl]) G (λd j A b s H E=>(vq (pv 1) vF)) (λa r H Q e h=>by
  match r,e with
  | [g],_=>exact#[g,rfl,h]) (λl i h=>cw_cons h)
def Uc{f:hJ}{fd:iX}(F:CB q.P q.K C "take" "Field.take" Jf f fd)(ct:Am q.K C)(xP:wP q 7)(PN:Bp q 7)(G:Fs q.P q.w q.K q.mg q.base C "take" AY (yM q.T<|Ia) 7):Gq q 8 f fd AY (Iw):=by
 refine' vr (a0Y (A:=B0×Int×Unit) (PO:=B0×WL.Un×Unit) (ms:=[0]) (vP q0q) F Ky rfl λzK cc A outer s H E D hr =>
  Xr (v6<|vw<|v7 0 xP 79 (hx:=RG))
   (Xr (vQ (tw_val (vw (v7 0 PN 79 (hx:=RG)))) QY vK)
    (VC (m:="take") (ta:=BB (vT 1) BQ) D Ky rfl (λ_=>#[_,rfl]) G hr (vq (pv 1) vF) (λa r H Q hl h=>by obtain⟨u,rfl⟩:=lx1 r hl;exact#[u,rfl,h]) (λf2 env h=>cw_cons h)))) λp Kn Ke h=>?_
 walk_at "wl"
 obtain⟨t,ok,h⟩:=h;show if (72).isSome=true then (if wU p.1 p.2.1=true then False else Ia (p.1,p.2) (λx p=>Kn () p) Ke) else Ke XC 65;by_cases hs:(72).isSome=true
 ·rw[cr hs,hI<|by simp[t]];exact#[ok,h]
 ·rw[hI hs]at h ⊢;exact h
noncomputable abbrev Jg:iH:=Bl (top 30) 0
def Ud:xS ["self"] ["self"] (vg Jg):=by walk_at "ss"
def Ue{k:Nat}(F:CB q.P q.K C "__init__" "Field.__init__" Jg f b)(c:Am q.K C)(d:PV q.K C)(G:Fs q.P q.w q.K q.mg q.base C "__init__" ["self"] (HM C) k):vU q.P q.w q.K q.mg q.base (v4 q.P q.w) (k+1) f b ["self"] (Eh C) :=
 RL (p3:=#[0,0,0,0]) (p4:=#[0,0,0,0]) F Ud c d (λ_=>#[_,rfl]) rfl G (λ_=>rfl) λe g A a s H E=>wG (C3 (pv 0) Cc rfl)<|yd<|C3 (pv 0) Cc rfl
end
abbrev MS:List ci:=[.type "ValueError",.type "Exception",.type "BaseException",.type "object"]
abbrev Al:iH:=Bl (top 13) 0
abbrev MT:iH:=Bl (top 28) 0
def WO:vp ["self"] ["self"] (vg MT):=#[rfl,rfl,rfl,q0s,rfl,q0s,q0s]
def Uf:xS ["self","ring"] ["self","ring"] (vg Al):=#[rfl,rfl,rfl,q0s,rfl,q0s,q0s,q0s,rfl,rfl]
def WP{K:hO}(F:za K "__init__" "Body.__init__" MT f fd)(ct:Am K C):vU P w K mg base (v4 P w) 1 f fd ["self"] (HM C) :=
 Vy F WO ct λb A a s H E=>wG (C3 (pv 0) Cc rfl)<|wG (C3 (pv 0) Cc rfl)<|yd<|C3 (pv 0) vL rfl
section
variable{P:iQ}{K:hO} 
/-- a method a0Z calls super(),as it lies behind the top -/
structure Mx(P:iQ)(K:hO)(C:hJ)(m q:Str)(st:iH):Prop where
 ex:∃f fd,Meth K C m f/\∃(oc:ci)(od:Option hJ)(kV doc pm:ci)(an:Option hJ)(zK cc:hJ)(ct:ci) (Oy:Array (Option ci)) (ocD:ci) (odD:Option hJ) (vsD:Array ci) (slD:Array (Option ci)) (file:Str) (tf:Tok) (occ:ci) (odc:Option hJ) (slc:Array (Option ci)),
  fd=kW m q (wq st) (vS st) (vg st) [78] .none kV doc pm an (.ref zK) ct/\K.lookup f=some #[oc,od,.func fd,Oy]/\jJ K (.ref zK) q=true/\jz K (.ref f)=true/\K.lookup zK=some #[ocD,odD,.fields vsD,slD]/\vsD[2]?=↑(.str file tf)/\((P.main.file:Str)==file)=true/\K.lookup cc=some #[occ,odc,.cell<|some<|.ref C,slc]
def a1v{st:iH}{g:ci}(a:iN K (.ref C) m=↑(some<|.ref f))(i:oQ K (.ref f)=true)
 (l:K.lookup f=some #[z,od,.func<|kW m q (wq st) (vS st) (vg st) [("__class__",h)] .none g j pm A (.ref b) ct,n])(c:jJ K (.ref b) q=true)(k:jz K (.ref f)=true)(o:K.lookup b=some #[p,r,.fields d,s])(t:d[2]?=↑(.str file B))(u:((P.main.file:Str)==file)=true)(v:K.lookup h=some #[w,x,.cell<|some<|.ref C,y]):Mx P K C m q st :=
  #[_,_,#[a,i,k],_,_,_,_,_,_,_,_,_,_,_,_,_,_,_,_,_,_,_,rfl,l,c,k,o,t,u,v]
/-- the method of the class above a0Z super() e -/
structure Sx(K:hO)(C:hJ)(m q:Str)(st:iH):Prop where
 ex:∃f fd,Sm K C m f/\za K m q st f fd
def a1w{st:iH}{d:ci}(a:ki K C C m=↑(some<|.ref f))(ty:pr K (.ref f)=↑(.type "function"))(fn:mQ K f=true)
 (l:K.lookup f=some #[h,od,.func<|jS m q (wq st) (vS st) (vg st) .none d e pm i b ct,g])(c:jJ K b q=true)(k:jz K (.ref f)=true):Sx K C m q st:=#[_,_,#[a,ty,fn],EC l c k]
def Mx.fx{st:iH}(M:Mx P K C m q st)(cl:∃s,ng K C=↑s)(sub:lE K C (.ref C)=↑true)(g:iz K rP "thirdparty.any"=↑none)(top:(P.main.scope.names.lookup ("super":Str)).isSome=false)(h:((wq st).posonlyargs++(wq st).args).head?=↑p)(hs:p.arg="self")(ps:List Str)
 (b:∀(i d j:ci)(n:Option hJ)(e o:hJ)(ct:ci)(us:List ci),us.length=ps.length->tq (kW m q (wq st) (vS st) (vg st) [("__class__",o)] .none i d j n (.ref e) ct) #[us,[]]=pure (ps.zip us)):∃f fd,Meth K C m f/\CB P K C m q st f fd/\Binds K fd ps []:=by
  obtain⟨f,fd,t,H,I,i,d,j,n,e,o,ct,u,v,w,x,y,r,J,z,A,B,rfl,l,c,k,D,E,F,G⟩:=M.ex
  exact#[f,_,t,#[#[_,_,_,_,_,_,_,_,_,_,rfl,l,c,#[#[_,_,_,_,p,l,h,hs],#[_,_,_,_,_,_,D,E,F],#[_,_,_,G],cl,sub,g,top]],k],.all<|b i d j n e o ct]
end
set_option tactic.hygienic true in
def WQ{K:hO}(X:K.In h)(e:uT K N=true)(q:iz K N x=↑(some v)):h.nsMap N x=↑v:=by
 obtain⟨o,k,l,b,f,_,g⟩:=Heap.Ns.of_isNs<|qh X e;unfold iz at q;split at q
 ·rename_i c d i m n z
  have a:=X _ _ z;rw[b]at a;cases a;cases f;split at q
  ·rename_i p j
   cases q;rw[<- g];unfold nsFind findBy;rw[<- uc,j];rfl
  ·split at q<;>cases q
 ·cases q
def all_mk{l:qT}{K:hO}{fV:Nat}{fH:List ci}{fW:Bool}(X:K.In h)(G:h.Ns iv mg)(fX:mg "law"=↑(.ref fa))
 (a1:iz K iv "is_sum"=↑(some<|.ref f1))
 (l1:K.lookup f1=some #[gw,gx,.func<|jS "is_sum" "is_sum" (wq xy) (vS xy) (vg xy) .none gy gz gA gB (.ref c) gC,gD])
 (c1:jJ K (.ref c) "is_sum"=true)
 (k1:jz K (.ref f1)=true)
 (lc:K.lookup c=some #[gE,gF,.fields fY,gG])
 (ev:fY[11]?=↑(.ref da))
 (fZ:K.lookup da=none)
 (aL:iz K iv "law"=↑(some<|.ref fL))
 (lL:K.lookup fL=some #[gH,gI,.func<|jS "law" "law" (wq CU) (vS CU) (vg CU) .none f0 f3 f4 f5 fP f6,gJ])
 (cL:jJ K fP "law"=true)
 (kL:jz K (.ref fL)=true)
 (S:Dq K "must_be_sum" Fq)
 (db:Dq K "total" HZ)
 (H:Dq K "row_from_first" ya)
 (dc:Dq K "added" Ix)
 (cx:Dq K "filled" FE)
 (fJ:Dq K "up" Zh)
 (bq:Dq K "lone_of" Dt)
 (T:Dq K "slim_border" zq)
 (eY:Dq K "_law_bag" TY)
 (d5:Dq K "_law_pull" Ma)
 (d6:Dq K "_law_rank" Mi)
 (d7:Dq K "_law_join" Ml)
 (d8:Dq K "_law_here" Mn)
 (d9:Dq K "_law_some" Mp)
 (ea:Dq K "_law_edge" Ms)
 (dd:Dq K "_law_whole" IL)
 (eZ:Dq K "_law_row" s_row)
 (ec:Dq K "_law_same" s_same)
 (de:Dq K "_law_stock" IP)
 (br:Dq K "_law_edge_by" Dw)
 (ee:Dq K "_law_rows" Mw)
 (ef:Dq K "_law_fill" Mz)
 (eg:Dq K "_law_ties" MB)
 (df:Dq K "_law_house" IS)
 (cy:Dq K "_law_tails" FN)
 (dg:Dq K "_law_heads" IU)
 (eh:Dq K "_law_lone" MD)
 (cz:Dq K "_law_parted" FQ)
 (dh:Dq K "_law_truth" IY)
 (an:Dq K "_law_cells_kept" Ai)
 (di:Dq K "_law_pairs" Ja)
 (ei:Dq K "_law_kept" MG)
 (aC:iz K iv "Field"=↑(some<|.ref C))
 (ao:Mq K C "must_stand" "Body.must_stand" Ad)
 (aP:Mq K C "must_hold" "Body.must_hold" AT)
 (I:Mq K C "must_have_rank" "Body.must_have_rank" x8)
 (bt:Mq K C "is_tied" "Field.is_tied" Dm)
 (O:Mq K C "must_be_lone" "Field.must_be_lone" yX)
 (dj:Mq K C "steps" "Field.steps" Ik)
 (dm:Mq K C "tails" "Field.tails" Im)
 (cD:Mq K C "arrows" "Field.arrows" Fz)
 (bu:Mq K C "head_of" "Field.head_of" Do)
 (dq:Mq K C "untie" "Field.untie" Ip)
 (aQ:Mq K C "ring_with" "Field.ring_with" A4)
 (e0:Mq K C "tie" "Field.tie" SO)
 (dr:Mq K C "order" "Field.order" Iu)
 (e1:Mx l.prog K C "put" "Field.put" ML)
 (e2:Sx K C "put" "Body.put" Sr)
 (ds:Mx l.prog K C "cells" "Field.cells" FT)
 (dt:Sx K C "cells" "Body.cells" Ig)
 (ej:Mx l.prog K C "over" "Field.over" Jd)
 (ek:Sx K C "over" "Body.over" LV)
 (aR:Mx l.prog K C "border_of" "Field.border_of" Ak)
 (aS:Sx K C "border_of" "Body.border_of" AV)
 (cE:Mx l.prog K C "border" "Field.border" Dy)
 (cH:Sx K C "border" "Body.border" Fx)
 (cJ:Mx l.prog K C "coming" "Field.coming" Dz)
 (cP:Sx K C "coming" "Body.coming" Fw)
 (cQ:Mx l.prog K C "stands" "Field.stands" DA)
 (cR:Sx K C "stands" "Body.stands" Fv)
 (el:Mx l.prog K C "rank" "Field.rank" Je)
 (em:Sx K C "rank" "Body.rank" Ih)
 (en:Mx l.prog K C "take" "Field.take" Jf)
 (eo:Sx K C "take" "Body.take" LW)
 (aW:Mx l.prog K C "__init__" "Field.__init__" Jg)
 (aX:Sx K C "__init__" "Body.__init__" MT)
 (pg:m7 K C Str.empty=true)
 (hd:oi K C=true)
 (po:qq K C=true)
 (sa:iN K (.ref C) "__setattr__"=↑109)
 (mk:qP K C=true)
 (kc:jz K (.ref C)=true)
 (nR:iN K (.ref C) "ranks"=↑none)
 (nB:iN K (.ref C) "borders"=↑none)
 (nU:iN K (.ref C) "upcoming"=↑none)
 (nH:iN K (.ref C) "head_by_tail"=↑none)
 (nT:iN K (.ref C) "tail_by_head"=↑none)
 (c8:ng K C=↑gK)
 (c9:lE K C (.ref C)=↑true)
 (U:iz K rP "thirdparty.any"=↑none)
 (Y:(l.prog.main.scope.names.lookup ("super":Str)).isSome=false)
 (bv:iz K iv "NotASum"=↑(some<|.ref XS))
 (bA:jC K XS MS "ValueError.__new__"=true)
 (cU:iz K iv "NoCell"=↑(some<|.ref XC))
 (cV:jC K XC MS "ValueError.__new__"=true)
 (aT:iz K iv "OtherRank"=↑(some<|.ref XO))
 (aU:jC K XO MS "ValueError.__new__"=true)
 (bB:iz K iv "BadRank"=↑(some<|.ref XB))
 (bC:jC K XB MS "ValueError.__new__"=true)
 (aq:iz K iv "OpenBorder"=↑(some<|.ref XP))
 (ar:jC K XP MS "ValueError.__new__"=true)
 (ep:iz K iv "Full"=↑(some<|.ref XF0))
 (er:jC K XF0 MS "ValueError.__new__"=true)
 (bD:iz K iv "Covered"=↑(some<|.ref XV))
 (bE:jC K XV MS "ValueError.__new__"=true)
 (bF:iz K iv "NotFace"=↑(some<|.ref XF))
 (bG:jC K XF MS "ValueError.__new__"=true)
 (b8:iz K iv "Tied"=↑(some<|.ref XT))
 (es:jC K XT MS "ValueError.__new__"=true)
 (bH:iz K iv "NotTied"=↑(some<|.ref XN))
 (bI:jC K XN MS "ValueError.__new__"=true)
 (bJ:iz K iv "NotLone"=↑(some<|.ref XL))
 (bK:jC K XL MS "ValueError.__new__"=true)
 (au:iz K iv "MOST_CELLS"=↑(some<|.int 120 dX))
 (aY:iz K iv "TOP_RANK"=↑(some<|.int 12 eJ))
 (fQ:iz K iv "RingOfArrows"=↑(some<|.ref XR))
 (gL:iz K iv "BodyError"=↑(some<|.ref XE))
 (lB:K.lookup XR=↑(jT gM qB XR fe gN (.ref XE::MS) true gO fH fW gr gP gQ gR gS gT gU "ValueError.__new__"))
 (f7:iz K fe "__init__"=↑(some<|.ref fI))
 (fR:uT K fe=true)
 (f8:PySem.W.tailIn K MS (.ref XE::MS)=true)
 (lI:K.lookup fI=some #[.type "function",gV,.func<|kW "__init__" "RingOfArrows.__init__" (wq Al) (vS Al) (vg Al) [78] (.ref TD) f9 ga gb gc (.ref ff) gd,gW])
 (cI:jJ K (.ref ff) "RingOfArrows.__init__"=true)
 (lD:K.lookup ff=some #[gX,gY,.fields gf,gZ])
 (fD:gf[2]?=↑(.str e3 g4))
 (pD:((l.prog.main.file:Str)==e3)=true)
 (gg:K.lookup cc=some #[gs,gu,.cell<|some<|.ref XR,gv])
 (gh:ng K XR=↑g5)
 (gi:lE K XR (.ref XR)=↑true)
 (gj:ki K XR XR "__init__"=↑132)
 (gk:lE K XR (.type "ValueError")=↑true)
 (sB:iN K (.ref XR) "__setattr__"=↑109)
 (gl:iN K (.ref XR) "ring"=↑none)
 (lT:K.lookup TD=some #[g6,g7,.seq #v[dT] fV,g8])
 (gm:lW K (.ref XT) [.ref XT,.ref XR]=↑true)
 (gn:lW K (.ref XR) [.ref XT,.ref XR]=↑true)
 (gp:iz K iv "super"=↑none)
 (zz:Bz K) :
    ∃(c da:hJ)(fd:iX),oy K "is_sum"=↑(c,da)/\K.lookup da=none/\(∀(s:ic)(v:ci),sS s fd #[[v],[]] [("_law_script",v)])/\∀base:ja,K.In base->base.Ns iv mg->JP mg base c da->vU l.prog w K mg base Qz 11 fa fd ["_law_script"] (Nu K da):=by
  have e:=fX.symm.trans<|jc X G aL
  cases e
  have ht:oy K "is_sum"=↑(c,da):=by
    unfold oy
    rw[a1]
    dsimp only
    rw[l1]
    dsimp only[jS]
    rw[lc]
    dsimp only
    rw[ev]
  have p:=EC (st:=xy) l1 c1 k1
  have aE:Fn K mg "is_sum" xy ["row"] f1 _:=#[p,jc X G a1,p.binds (ps:=["row"])<|λ_ _ _ _ _ _=>us1 λ_=>rfl]
  have e4:=EC (st:=CU) lL cL kL
  have b:=S.fn X G ["row"]<|λ_ _ _ _ _ _=>us1 λ_=>rfl
  have a2:=db.fn X G ["rows"]<|λ_ _ _ _ _ _=>us1 λ_=>rfl
  have f:=H.fn X G ["earlier","last"]<|λ_ _ _ _ _ _=>us2 λ_ _=>rfl
  have a3:=dc.fn X G ["one","other"]<|λ_ _ _ _ _ _=>us2 λ_ _=>rfl
  have aF:=cx.fn X G ["field","row"]<|λ_ _ _ _ _ _=>us2 λ_ _=>rfl
  have eW:=fJ.fn X G ["field","row"]<|λ_ _ _ _ _ _=>us2 λ_ _=>rfl
  have ab:=bq.fn X G ["field","row"]<|λ_ _ _ _ _ _=>us2 λ_ _=>rfl
  have n:=T.fn X G ["field","row"]<|λ_ _ _ _ _ _=>us2 λ_ _=>rfl
  have d2:=eY.fn X G ["_law_script"]<|λ_ _ _ _ _ _=>us1 λ_=>rfl
  have b9:=d5.fn X G ["_law_bag_here","_law_many"]<|λ_ _ _ _ _ _=>us2 λ_ _=>rfl
  have ca:=d6.fn X G ["_law_bag_here"]<|λ_ _ _ _ _ _=>us1 λ_=>rfl
  have cb:=d7.fn X G ["_law_one","_law_other"]<|λ_ _ _ _ _ _=>us2 λ_ _=>rfl
  have cd:=d8.fn X G ["_law_rows_here"]<|λ_ _ _ _ _ _=>us1 λ_=>rfl
  have cg:=d9.fn X G ["_law_bag_here","_law_row_here"]<|λ_ _ _ _ _ _=>us2 λ_ _=>rfl
  have cj:=ea.fn X G ["_law_rows_here","_law_row_here"]<|λ_ _ _ _ _ _=>us2 λ_ _=>rfl
  have a4:=dd.fn X G ["_law_found"]<|λ_ _ _ _ _ _=>us1 λ_=>rfl
  have d3:=eZ.fn X G ["_law_found"]<|λ_ _ _ _ _ _=>us1 λ_=>rfl
  have ck:=ec.fn X G ["_law_found","_law_due"]<|λ_ _ _ _ _ _=>us2 λ_ _=>rfl
  have a5:=de.fn X G ["_law_many"]<|λ_ _ _ _ _ _=>us1 λ_=>rfl
  have ae:=br.fn X G ["_law_rows_here","_law_loops","_law_rank_here","_law_bag_here"]<|λ_ _ _ _ _ _=>us4 λ_ _ _ _=>rfl
  have cm:=ee.fn X G ["_law_bag_here","_law_most"]<|λ_ _ _ _ _ _=>us2 λ_ _=>rfl
  have cn:=ef.fn X G ["_law_body","_law_rows_here"]<|λ_ _ _ _ _ _=>us2 λ_ _=>rfl
  have cp:=eg.fn X G ["_law_field","_law_rows_here","_law_bag_here","_law_tries"]<|λ_ _ _ _ _ _=>us4 λ_ _ _ _=>rfl
  have a6:=df.fn X G ["_law_bag_here","_law_most"]<|λ_ _ _ _ _ _=>us2 λ_ _=>rfl
  have aG:=cy.fn X G ["_law_arrows"]<|λ_ _ _ _ _ _=>us1 λ_=>rfl
  have a7:=dg.fn X G ["_law_arrows"]<|λ_ _ _ _ _ _=>us1 λ_=>rfl
  have cq:=eh.fn X G ["_law_rows_here","_law_arrows"]<|λ_ _ _ _ _ _=>us2 λ_ _=>rfl
  have aH:=cz.fn X G ["_law_row_here","_law_keep"]<|λ_ _ _ _ _ _=>us2 λ_ _=>rfl
  have a8:=dh.fn X G ["_law_found","_law_due"]<|λ_ _ _ _ _ _=>us2 λ_ _=>rfl
  have y:=an.fn X G ["_law_body","_law_rows_here"]<|λ_ _ _ _ _ _=>us2 λ_ _=>rfl
  have a9:=di.fn X G ["_law_found","_law_due"]<|λ_ _ _ _ _ _=>us2 λ_ _=>rfl
  have cs:=ei.fn X G ["_law_field","_law_rows_here","_law_arrows"]<|λ_ _ _ _ _ _=>us3 λ_ _ _=>rfl
  have A:=ao.fn ["self","cell"]<|λ_ _ _ _ _ _=>us2 λ_ _=>rfl
  have J:=aP.fn ["self","row"]<|λ_ _ _ _ _ _=>us2 λ_ _=>rfl
  have g:=I.fn ["self","row","rank"]<|λ_ _ _ _ _ _=>us3 λ_ _ _=>rfl
  have af:=bt.fn ["self","cell"]<|λ_ _ _ _ _ _=>us2 λ_ _=>rfl
  have m:=O.fn ["self","row"]<|λ_ _ _ _ _ _=>us2 λ_ _=>rfl
  have ba:=dj.fn ["self","low","high"]<|λ_ _ _ _ _ _=>us3 λ_ _ _=>rfl
  have bb:=dm.fn ["self"]<|λ_ _ _ _ _ _=>us1 λ_=>rfl
  have aI:=cD.fn ["self"]<|λ_ _ _ _ _ _=>us1 λ_=>rfl
  have ag:=bu.fn ["self","cell"]<|λ_ _ _ _ _ _=>us2 λ_ _=>rfl
  have bc:=dq.fn ["self","low"]<|λ_ _ _ _ _ _=>us2 λ_ _=>rfl
  have L:=aQ.fn ["self","low","high"]<|λ_ _ _ _ _ _=>us3 λ_ _ _=>rfl
  have d4:=e0.fn ["self","low","high"]<|λ_ _ _ _ _ _=>us3 λ_ _ _=>rfl
  have be:=dr.fn ["self"]<|λ_ _ _ _ _ _=>us1 λ_=>rfl
  obtain⟨fK,fM,et,eu,ew⟩:=e1.fx #[_,c8] c9 U Y rfl rfl DM<|λ_ _ _ _ _ _ _=>us3 λ_ _ _=>rfl
  obtain⟨fN,fO,ey,cu⟩:=e2.ex
  obtain⟨e7,e8,cX,cY,cZ⟩:=ds.fx #[_,c8] c9 U Y rfl rfl zj<|λ_ _ _ _ _ _ _=>us1 λ_=>rfl
  obtain⟨e9,fb,c0,aJ⟩:=dt.ex
  obtain⟨fh,fi,du,dv,dw⟩:=ej.fx #[_,c8] c9 U Y rfl rfl AX<|λ_ _ _ _ _ _ _=>us2 λ_ _=>rfl
  obtain⟨fj,fo,dx,bf⟩:=ek.ex
  obtain⟨dY,dZ,av,aw,ax⟩:=aR.fx #[_,c8] c9 U Y rfl rfl wX<|λ_ _ _ _ _ _ _=>us2 λ_ _=>rfl
  obtain⟨d0,d1,ay,D⟩:=aS.ex
  obtain⟨eK,eL,bL,bM,bN⟩:=cE.fx #[_,c8] c9 U Y rfl rfl yz<|λ_ _ _ _ _ _ _=>us2 λ_ _=>rfl
  obtain⟨eM,eN,bO,ah⟩:=cH.ex
  obtain⟨eO,eP,bP,bQ,bR⟩:=cJ.fx #[_,c8] c9 U Y rfl rfl yy<|λ_ _ _ _ _ _ _=>us1 λ_=>rfl
  obtain⟨eQ,eR,bS,ai⟩:=cP.ex
  obtain⟨eS,eT,bT,bU,bV⟩:=cQ.fx #[_,c8] c9 U Y rfl rfl yx<|λ_ _ _ _ _ _ _=>us2 λ_ _=>rfl
  obtain⟨eU,eV,bW,aj⟩:=cR.ex
  obtain⟨fp,ft,dy,dz,dA⟩:=el.fx #[_,c8] c9 U Y rfl rfl zk<|λ_ _ _ _ _ _ _=>us2 λ_ _=>rfl
  obtain⟨fv,fw,dB,bg⟩:=em.ex
  obtain⟨fy,fz,dC,dD,dE⟩:=en.fx #[_,c8] c9 U Y rfl rfl AY<|λ_ _ _ _ _ _ _=>us2 λ_ _=>rfl
  obtain⟨fA,fB,dF,bh⟩:=eo.ex
  obtain⟨fC,fE,bi,dG,dH⟩:=aW.fx #[_,c8] c9 U Y rfl rfl ["self"]<|λ_ _ _ _ _ _ _=>us1 λ_=>rfl
  obtain⟨fF,fG,dI,bj⟩:=aX.ex
  have B:=zz.bn X G
  have b7:=tR X G gp
  have az:=jc X G au
  have aZ:=jc X G aY
  have bX:Xc K mg "NotASum" XS:=#[#[_,_,_,_,jc X G bv,bA,iI],λ_=>trivial]
  have c2:Xc K mg "NoCell" XC:=#[#[_,_,_,_,jc X G cU,cV,iI],λ_=>trivial]
  have aV:Xc K mg "OtherRank" XO:=#[#[_,_,_,_,jc X G aT,aU,iI],λ_=>trivial]
  have bY:Xc K mg "BadRank" XB:=#[#[_,_,_,_,jc X G bB,bC,iI],λ_=>trivial]
  have aA:Xc K mg "OpenBorder" XP:=#[#[_,_,_,_,jc X G aq,ar,iI],λ_=>trivial]
  have ez:Xc K mg "Full" XF0:=#[#[_,_,_,_,jc X G ep,er,iI],λ_=>trivial]
  have bZ:Xc K mg "Covered" XV:=#[#[_,_,_,_,jc X G bD,bE,iI],λ_=>trivial]
  have b0:Xc K mg "NotFace" XF:=#[#[_,_,_,_,jc X G bF,bG,iI],λ_=>trivial]
  have eA:Xc K mg "Tied" XT:=#[#[_,_,_,_,jc X G b8,es,iI],λ_=>trivial]
  have b1:Xc K mg "NotTied" XN:=#[#[_,_,_,_,jc X G bH,bI,iI],λ_=>trivial]
  have b2:Xc K mg "NotLone" XL:=#[#[_,_,_,_,jc X G bJ,bK,iI],λ_=>trivial]
  have u:Am K C:=#[#[pg,hd,po,sa],nR,nB,nU]
  have cf:PV K C:=#[nH,nT]
  have dJ:=jc X G aC
  refine#[c,da,jS "law" "law" (wq CU) (vS CU) (vg CU) .none f0 f3 f4 f5 fP f6,ht,fZ,λs v=>.of_eq rfl,λbase _ _ Bt=>?_]
  let q:Cq:=#[l.prog,w,K,mg,base,da]
  have SD:L2.LH l.prog K XR fI ff cc "self":=#[#[_,_,_,_,_,lI,rfl,rfl],#[_,_,_,_,_,_,lD,fD,pD],#[_,_,_,gg],#[_,gh],gi,U,Y]
  have c3:vU l.prog w K mg base (v4 l.prog w) 3 fI _ ["self","ring"] (Y0 K XR "ring"):=VP (P:=l.prog) (w:=w) (mg:=mg) (base:=base) (k:=2) (r:="ring") (fl:="ring") lI cI rfl Uf SD (λ_=>#[_,rfl]) b7 B.list rfl lB gj gk rfl (λx=>by rw[PySem.refuseLoop_ref];exact PySem.F.store_ValueError.passes _) sB gl q0q q0q
  have gq:∀h:ja,K.In h->∃mN,h.Ns fe mN/\mN "__init__"=↑(.ref fI):=λh Z=>#[_,.of_isNs<|qh Z fR,WQ Z fR f7]
  have hB:Binds K (kW "__init__" "RingOfArrows.__init__" (wq Al) (vS Al) (vg Al) [78] (.ref TD) f9 ga gb gc (.ref ff) gd) ["self","ring"] []:=λs us Z hl=>by
    have hl:us.length=2:=by simpa using hl
    obtain⟨u1,u2,rfl⟩:=lx2 us hl
    exact PySem.W.binds_K Z rfl lT rfl rfl rfl
  have Q:XcI l.prog w K mg base 3 "RingOfArrows" XR "ring":=#[#[fI,fe,_,_,_,_,_,_,MS,_,_,_,_,_,_,_,_,_,_,_,_,_,_,_,jc X G fQ,lB,gq,λh Z=>tQ Z f8,lI,rfl,iI,rfl,c3,hB],λ_ _ _ _ _ _=>trivial]
  have o:a05 q XT XR "Tied" "RingOfArrows":=#[jc X G b8,jc X G fQ,gm,gn]
  obtain⟨bx,g9,bz,bw,fS,fT,fU⟩:=bX.ex
  have dL:=Sh b.fn aE (LS (P:=l.prog) (w:=w) p rfl Bt B.all B.zip) fS fT fU λ_=>trivial
  have dM:=Si b.fn aE (LU (P:=l.prog) (w:=w) p rfl Bt B.all B.zip) fS fT fU λ_=>trivial
  have eB:=Ue (q:=q) dG u cf #[#[_,_,dI,WP (P:=l.prog) (w:=w) (mg:=mg) (base:=base) bj u,bj.binds<|λ_ _ _ _ _ _=>us1 λ_=>rfl,b7]]
  have bm:xn q _ _ _ _:=b.fk dL
  have dN:xn q _ _ _ _:=a2.fk<|Sj a2.fn b dM B.set B.sorted
  have a:zg q C _ _ _ _:=A.fm<|Gj (q:=q) A.fn u c2
  have d:zg q C _ _ _ _:=J.fm<|Ib (q:=q) J.fn u (bm.up q0q)<|a.up q0q
  have E:zg q C _ _ _ _:=g.fm<|CL (q:=q) g.fn u aV
  have j:zg q C _ _ _ _:=#[_,_,Gr (q:=q) aw #[#[_,_,ay,(Ie (q:=q) D u (dN.up q0q)<|d.up q0q),D.binds<|λ_ _ _ _ _ _=>us2 λ_ _=>rfl,b7]],av,ax]
  have aK:zg q C _ _ _ _:=#[_,_,PM (q:=q) cY #[#[_,_,c0,(So (q:=q) aJ u B),aJ.binds<|λ_ _ _ _ _ _=>us1 λ_=>rfl,b7]],cX,cZ]
  have dO:zg q C _ _ _ _:=#[_,_,Ua (q:=q) dv #[#[_,_,dx,(V0 (q:=q) bf u (a.up q0q)<|aK.up q0q),bf.binds<|λ_ _ _ _ _ _=>us2 λ_ _=>rfl,b7]],du,dw]
  have eC:zg q C _ _ _ _:=#[_,_,WN (q:=q) eu #[#[_,_,ey,(Za (q:=q) cu u (d.up q0q) (E.up q0q) (j.up q0q) bY ez aA az aZ B),cu.binds<|λ_ _ _ _ _ _=>us3 λ_ _ _=>rfl,b7]],et,ew]
  have ak:zg q C _ _ _ _:=#[_,_,MP (q:=q) bM #[#[_,_,bO,(Pf (q:=q) ah u (a.up q0q) B),ah.binds<|λ_ _ _ _ _ _=>us2 λ_ _=>rfl,b7]],bL,bN]
  have b3:zg q C _ _ _ _:=#[_,_,MQ (q:=q) bQ #[#[_,_,bS,(Pd (q:=q) ai u),ai.binds<|λ_ _ _ _ _ _=>us1 λ_=>rfl,b7]],bP,bR]
  have b4:zg q C _ _ _ _:=#[_,_,MR (q:=q) bU #[#[_,_,bW,(Pb (q:=q) aj u),aj.binds<|λ_ _ _ _ _ _=>us2 λ_ _=>rfl,b7]],bT,bV]
  have dP:zg q C _ _ _ _:=#[_,_,Ub (q:=q) dz #[#[_,_,dB,(Sy (q:=q) bg u<|a.up q0q),bg.binds<|λ_ _ _ _ _ _=>us2 λ_ _=>rfl,b7]],dy,dA]
  have i:zg q C _ _ _ _:=af.fm<|L4 (q:=q) af.fn u cf
  have dQ:zg q C _ _ _ _:=#[_,_,Uc (q:=q) dD u (a.up q0q) (i.up q0q) #[#[_,_,dF,((V2 (q:=q) bh u (dO.up q0q) bZ)).mono q0q,bh.binds<|λ_ _ _ _ _ _=>us2 λ_ _=>rfl,b7]],dC,dE]
  have N:zg q C _ _ _ _:=m.fm<|DW (q:=q) m.fn u (i.up q0q) b2
  have aM:zg q C _ _ _ _:=ba.fm<|SJ (q:=q) ba.fn u cf
  have aN:zg q C _ _ _ _:=bb.fm<|SM (q:=q) bb.fn u cf B
  have al:zg q C _ _ _ _:=aI.fm<|Pk (q:=q) aI.fn u cf<|aN.up q0q
  have a0:zg q C _ _ _ _:=ag.fm<|L7 (q:=q) ag.fn u cf<|a.up q0q
  have c4:zg q C _ _ _ _:=bc.fm<|SN (q:=q) bc.fn u cf (a.up q0q) b1
  have M:xn q _ _ _ _:=f.fk<|CO (q:=q) f.fn
  have aB:zg q C _ _ _ _:=L.fm<|Ir (q:=q) L.fn u cf (M.up q0q)<|aM.up q0q
  have eD:zg q C _ _ _ _:=d4.fm<|Zd (q:=q) d4.fn u cf (a.up q0q) (i.up q0q) (aB.up q0q) b0 eA Q
  have c5:zg q C _ _ _ _:=be.fm<|SS (q:=q) be.fn u cf (al.up q0q) (aM.up q0q)<|aN.up q0q
  have bp:xn q _ _ _ _:=a3.fk<|S6 (q:=q) a3.fn (bm.up q0q) B
  have aO:xn q _ _ _ _:=aF.fk<|Pn (q:=q) aF.fn u (bp.up q0q) (d.up q0q) (c5.up q0q) (a0.up q0q) (ak.up q0q) B
  have eX:xn q _ _ _ _:=eW.fk<|a1j (q:=q) eW.fn u (bp.up q0q) (aO.up q0q) (d.up q0q) (N.up q0q)<|j.up q0q
  have b5:xn q _ _ _ _:=ab.fk<|L9 (q:=q) ab.fn u<|i.up q0q
  have aa:xn q _ _ _ _:=n.fk<|FH (q:=q) n.fn u (b5.up q0q) (eX.up q0q)<|j.up q0q
  have e5:xn q _ _ _ _:=d2.fk<|a0R<|Zy d2.fn B.len B.list
  have t:xn q _ _ _ _:=b9.fk<|YS<|WK b9.fn B.len
  have eE:xn q _ _ _ _:=ca.fk<|Wl (q:=q) ca.fn<|t.up q0q
  have R:xn q _ _ _ _:=cb.fk<|Wm (q:=q) cb.fn B
  have k_here:xn q _ _ _ _:=cd.fk<|Wp (q:=q) cd.fn B
  have cv:xn q _ _ _ _:=cg.fk<|Wq (q:=q) cg.fn (t.up q0q) (R.up q0q) B
  have cw:xn q _ _ _ _:=cj.fk<|Wr (q:=q) cj.fn<|R.up q0q
  have k_whole:xn q _ _ _ _:=a4.fk<|Tw (q:=q) a4.fn B
  have e6:xn q _ _ _ _:=d3.fk<|Zn (q:=q) d3.fn (k_whole.up q0q) B
  have k_same:xn q _ _ _ _:=ck.fk<|Wt (q:=q) ck.fn<|e6.up q0q
  have dR:xn q _ _ _ _:=a5.fk<|TC (q:=q) a5.fn B
  have b6:xn q _ _ _ _:=ae.fk<|Mv (q:=q) ae.fn (t.up q0q) (R.up q0q) (k_here.up q0q) (cv.up q0q) (cw.up q0q) B
  have eF:xn q _ _ _ _:=cm.fk<|Wv (q:=q) cm.fn (t.up q0q) (dR.up q0q) (eE.up q0q) (b6.up q0q) B
  have k_fill:xn q _ _ _ _:=cn.fk<|Ww (q:=q) cn.fn u (eC.up q0q) (dQ.up q0q) B
  have eG:xn q _ _ _ _:=cp.fk<|Wx (q:=q) cp.fn u (k_here.up q0q) (t.up q0q) (c4.up q0q) (eD.up q0q) o B
  have dS:xn q _ _ _ _:=a6.fk<|TJ (q:=q) a6.fn #[mk,bi.at_,bi.fn,kc] (eB.mono q0q) dH dJ (eF.up q0q) (k_fill.up q0q) (eG.up q0q) (t.up q0q) B
  have c6:xn q _ _ _ _:=aG.fk<|PD (q:=q) aG.fn
  have dU:xn q _ _ _ _:=a7.fk<|TM (q:=q) a7.fn B
  have eH:xn q _ _ _ _:=cq.fk<|WA (q:=q) cq.fn (c6.up q0q) (dU.up q0q)<|k_here.up q0q
  have c7:xn q _ _ _ _:=aH.fk<|PH (q:=q) aH.fn
  have dV:xn q _ _ _ _:=a8.fk<|TU (q:=q) a8.fn B
  have aD:xn q _ _ _ _:=y.fk<|Go (q:=q) y.fn u (k_same.up q0q) (k_here.up q0q) (dV.up q0q) (k_whole.up q0q) (aK.up q0q) (b3.up q0q) (b4.up q0q) (dP.up q0q) (ak.up q0q) B
  have dW:xn q _ _ _ _:=a9.fk<|TV (q:=q) a9.fn (k_whole.up q0q) B
  have eI:xn q _ _ _ _:=cs.fk<|WE (q:=q) cs.fn u (aD.up q0q) (dW.up q0q)<|al.up q0q
  exact a0T (a0S<|Zx (q:=q) e4 (e5.up q0q) (dS.up q0q) (eH.up q0q) (cv.up q0q) (eX.up q0q) (R.up q0q) (aO.up q0q) (cw.up q0q) (k_same.up q0q) (c7.up q0q) (aa.up q0q) (eI.up q0q) B) λ_ _ _ _ z=>z
def walk{l:qT}{q:iQ}{loose:List Str}{XP:(Str->Option ci)->ja->Prop}{YP:jf->ja->Prop}{d:DefRec}{K:Params->hO}{dx:DefRec}(hn:l.most=↑63)(hdf:d.params.defaults=[])
  (hY:∀(w:jf)(h:ja),YP w h->(K w.params).In h) (a3t:(PyProof.Rows.recsOf q).find? (λe=>e.name==("is_sum":Str))=↑dx)
  (F:∀(w:jf)(mg:Str->Option ci)(fa:hJ)(h:ja),(K w.params).In h->h.Ns iv mg->mg d.name=↑(.ref fa) ->
   ∃(c tab:hJ)(fd:iX),oy (K w.params) "is_sum"=↑(c,tab)/\(K w.params).lookup tab=none/\(∀(s:ic)(u:ci),sS s fd #[[u],[]] [("_law_script",u)]) /\
    ∀base:ja,(K w.params).In base->base.Ns iv mg->JP mg base c tab->vU l.prog w (K w.params) mg base Qz 11 fa fd ["_law_script"] (Nu (K w.params) tab)) :
  uZ q loose XP YP l.row.toRowW d [] (λf vs=>ug f vs) :=
 L2.QO (n:=63) (k:=11) (x:="_law_script") (tx:="is_sum") (CX:=Qz) (sp:=λ_ K tab=>Nu K tab) hn q0q hdf #[rfl,q0q,q0q] hY a3t F (λ_ K H a tab ns _ hS hH=>#[a,ns,rfl,hS,#[#v[],hH,trivial],λ_=>rfl]) λ_ _ _ _ z=>z
end K7
open WL
open K7
set_option tactic.hygienic true
set_option hygiene true
namespace PySem.W.Fast
def tw12813510256717082630:=0
def tw9069538929695308435:=0
def tw3216983074083613270:=0
def tw777310125336398989:=0
def tw2596197031468700248:=0
def tw11404707202838331035:=0
def tw1067860712284671628:=0
def tw11257287708826444885:=0
def tw7171831089047063895:=0
def tw1723430070431478399:=0
def tw12961471559411519229:=0
def tw10404079658980404101:=0
def tw4331817229845702232:=0
def tw108966686169911:=0
def tw2522123195301125240:=0
def tw3967180620662177944:=0
def tw11372380913146687516:=0
def tw4732720514252036997:=0
def tw196791415674335668:=0
def tw4639851073141662172:=0
def tw9475279810622041806:=0
def tw14987308032057471782:=0
def tw16598266738828447985:=0
def tw17266963534151207544:=0
def tw13639761392841258032:=0
def tw8144111156160824493:=0
def tw15534967347508403912:=0
def tw10889657366634008898:=0
def tw5194136087714656865:=0
def tw13539472397247312521:=0
def tw14431053530693664412:=0
def tw524544538923668583:=0
def tw8589955953995303326:=0
def tw6097927638854148075:=0
def tw1359286461780106573:=0
def tw11514217902280136695:=0
def tw3940368326560870110:=0
def tw12385351791306230971:=0
def tw11744310725397265194:=0
def tw2887499075655676146:=0
def tw1185518729276650277:=0
def tw4613219791471781342:=0
def tw2194880758957217066:=0
def tw3672564541131902614:=0
def tw5272469734108132406:=0
def tw4568992103078211997:=0
def tw10934023268520654216:=0
def tw13332730933009016596:=0
def tw17685486020267275882:=0
def tw12015175407787792049:=0
def tw7686425844835294669:=0
def tw15801070905962160618:=0
def tw13037210133095965663:=0
def tw6632584937501463900:=0
def tw16864772284210197505:=0
def tw4692426753851218723:=0
def tw6196008900026759775:=0
def tw8319121225498454805:=0
def tw12471343965341117643:=0
def tw13516119100047319735:=0
def tw13424402914314384540:=0
def tw18199042439094296218:=0
def tw6926663834368769501:=0
def tw16284073480732380690:=0
def tw9744637216901139635:=0
def tw10638421563548148955:=0
def tw1562844391949053550:=0
def tw16334613206228141907:=0
def tw4527846506846201750:=0
def tw8475894749114398221:=0
def tw15674870056630381892:=0
def tw17541581202325783088:=0
def tw1666346764792003835:=0
def tw1310819170983702288:=0
def tw11791702076740021854:=0
def tw7422440118753111439:=0
def tw5241883366495792353:=0
def tw2942139472867671576:=0
def tw16373349397337558463:=0
def tw11960617419491206924:=0
def tw12203117435994450847:=0
def tw7886862127741739739:=0
def tw6669873576994029550:=0
def tw10499804300858016867:=0
def tw14925925928234580984:=0
def tw8161884049507262589:=0
def tw11048267526912545948:=0
def tw5578175467704610177:=0
def tw1102601420306198508:=0
def tw6991508834184369906:=0
def tw9943581773250730732:=0
def tw12563321045185899329:=0
def tw14147391321064754633:=0
def tw12893246069002324702:=0
def tw12896636531296714852:=0
def tw1043473829766299411:=0
def tw10059241565631318649:=0
def tw6184060596852723613:=0
def tw6252799307747220670:=0
def tw17732659286568846836:=0
def tw7875483408295149414:=0
def tw11289380651029803517:=0
def tw6680342576745260269:=0
def tw5763699522044408866:=0
def tw17187587621049779048:=0
def tw1469720983742219770:=0
def tw17414716696270582889:=0
def tw8887804103201364677:=0
def tw13840884052880005372:=0
def tw8136435459408271186:=0
def tw10807381617281613766:=0
def tw16547130591963237852:=0
def tw11962748173739684604:=0
def tw6730815215669746945:=0
def tw10790009755936125490:=0
def tw15443407212108566923:=0
def tw2413981836233856946:=0
def tw17848411856900599485:=0
def tw17422445718813266074:=0
def tw17496978392936201598:=0
def tw2125117341753430970:=0
def tw3231913152008412564:=0
def tw1929857972253056951:=0
def tw14608301845998723736:=0
def tw12878127085659690791:=0
def tw17142517006777611530:=0
def tw13849996213612046068:=0
def tw4449008381535101723:=0
def tw8772389157557266892:=0
def tw4222961509248014062:=0
def tw14694146914041200179:=0
def tw12519234934705756545:=0
def tw14613015916604134783:=0
def tw11111573825027771849:=0
def tw8385082613428739636:=0
def tw17791080004232483937:=0
def tw883486767019214950:=0
def tw11661525951895796749:=0
def tw3786662277235303254:=0
def tw2186032966857412659:=0
def tw11135076356031769757:=0
def tw9195906387868590249:=0
def tw14169464058315954249:=0
def tw2068659257431989711:=0
def tw172046147384752312:=0
def tw12101892282619521434:=0
def tw15153247425634249119:=0
def tw6648835407653346092:=0
def tw17371872509599965316:=0
def tw2314026278432560948:=0
def tw13133652665751347750:=0
def tw5278336928139202668:=0
def tw14624013834667215213:=0
def tw12621889480617881259:=0
def tw8071876956074185550:=0
def tw10997040236396175557:=0
def tw360369403654062040:=0
def tw15740544562838482413:=0
def tw16351050789768725074:=0
def tw1738818812439046920:=0
def tw8111554981850842315:=0
def tw3197506660433320826:=0
def tw12449003105811078188:=0
def tw16350602487395866679:=0
def tw7583009662216507770:=0
def tw13586412254711554246:=0
def tw16847979139580476766:=0
def tw14240419865951486223:=0
def tw16656716306138844850:=0
def tw12579593358158621165:=0
def tw10424731811827855372:=0
def tw5202391796413180005:=0
def tw4462081853934860260:=0
def tw641878298087012826:=0
def tw10911568906100553976:=0
def tw15202012783876243181:=0
def tw10083786862049775351:=0
def tw14026555746523533834:=0
def tw15237337626978517913:=0
def tw4833443013056728407:=0
def tw8894686268236112013:=0
def tw3122059519336298816:=0
def tw14176447166483726161:=0
def tw9416151214704007187:=0
def tw9052383126666650321:=0
def tw4567051658243734859:=0
def tw2911966014051829407:=0
def tw14282527658270384656:=0
def tw10648835180947221105:=0
def tw17737752241483318273:=0
def tw10171816098776940385:=0
def tw4585554766934085089:=0
def tw48261190848424356:=0
def tw5961999070278813072:=0
def tw16257703191022832624:=0
def tw7797388041838760237:=0
def tw17821337811053021402:=0
def tw5612773780573272828:=0
def tw9581504726737883662:=0
def tw5436758857099217402:=0
def tw12877467708424878370:=0
def tw13670509253979407443:=0
def tw7424534258484136856:=0
def tw2814062833480546522:=0
def tw2772628009509159432:=0
def tw14581007230594323507:=0
def tw15729289325324142910:=0
def tw3819305658892927293:=0
def tw7150400504708551430:=0
def tw5961363172615195507:=0
def tw5051547086902084492:=0
def tw18063799616222702436:=0
def tw17026201300164636620:=0
def tw17023058759348146042:=0
def tw16066290975828642598:=0
def tw14574884699662060204:=0
def tw10353800679193107303:=0
def tw654915173937916806:=0
def tw3952479522745535229:=0
def tw6415804637020365432:=0
def tw3954408639593927530:=0
def tw16162529968619908269:=0
def tw10629009806391548666:=0
def tw13866291532766542528:=0
def tw4800153772897243576:=0
def tw18239945119575372567:=0
def tw17091717563469251787:=0
def tw2731303527520931425:=0
def tw16946798043817867249:=0
def tw12225876163077265655:=0
def tw7695760046005359701:=0
def tw5529847644148033262:=0
def tw2475017296351844413:=0
def tw1585178179310996221:=0
def tw14323118886087967672:=0
def tw12029793823699041758:=0
def tw9793257900876573935:=0
def tw4860703577785938589:=0
def tw4657443564138133384:=0
def tw10562168557140374771:=0
def tw6111714923589132109:=0
def tw18370278799394257476:=0
def tw15900568738611496139:=0
def tw1464700739038299917:=0
def tw11802759479245524779:=0
def tw9964048354921359746:=0
def tw9511666970692221808:=0
def tw6172933790320260467:=0
def tw3003861909192896867:=0
def tw9214777722373904747:=0
def tw18207142829198857670:=0
def tw17749500700162887834:=0
def tw15229843009621936308:=0
def tw10102672201137671555:=0
def tw2296467308373013313:=0
def tw10263130795647597429:=0
def tw14128351075368374701:=0
def tw7368033049044384210:=0
def tw12073234170496378418:=0
def tw9460740281105167918:=0
def tw4686557379819494220:=0
def tw8117731834312781140:=0
def tw17441344931126597315:=0
def tw13687820284318960765:=0
def tw9722917253471181281:=0
def tw623958509881869771:=0
def tw2713647591302720515:=0
def tw16146834101422551086:=0
def tw15106513604625871024:=0
def tw13965434304555563501:=0
def tw13489893917566640793:=0
def tw12580799545886176949:=0
def tw11560395523243412229:=0
def tw11512360146519822337:=0
def tw5822768743840216499:=0
def tw2907856909886096299:=0
def tw9396633271454241306:=0
def tw12013845801152731286:=0
def tw8765578465352343947:=0
def tw17376703931306614102:=0
def tw4902492229311362209:=0
def tw2694011034432590247:=0
def tw10400320082558070339:=0
def tw14464100017271094240:=0
def tw2855847373649646976:=0
def tw7731995005432115218:=0
def tw6642116824088388065:=0
def tw16411714836302734488:=0
def tw14477095744869663166:=0
def tw11092620671836973627:=0
def tw16799945277331938869:=0
def tw8960721332945430527:=0
def tw18249763999551543584:=0
def tw8394873870314097789:=0
def tw17993908964913006980:=0
def tw4144650170992953087:=0
def tw11082267164809304335:=0
def tw18167810280563630517:=0
def tw11905968273763617350:=0
def tw788147344559855478:=0
def tw6422108488737899521:=0
def tw5286355290304569367:=0
def tw4072477457190374873:=0
def tw3715562258401741159:=0
def tw3420094825676345933:=0
def tw2552327051442351665:=0
def tw2238171280334006541:=0
def tw15734267804296254568:=0
def tw11835586687014593855:=0
def tw11135907966564635528:=0
def tw9850669606798356186:=0
def tw8304030850367449642:=0
def tw6960557820894978031:=0
def tw6114282561748241335:=0
def tw5784910128127482009:=0
def tw4239451879939379499:=0
def tw3447777284470594026:=0
def tw3345127166356757860:=0
def tw311013285102934386:=0
def tw2749487942823433774:=0
def tw17638429883536953828:=0
def tw17621003827769756019:=0
def tw17611462813412355676:=0
def tw17101879010757893335:=0
def tw16655106634262707302:=0
def tw16536368792605043866:=0
def tw15486759515751569097:=0
def tw15249113997470997852:=0
def tw14857171179535248569:=0
def tw14834362488512819495:=0
def tw1463435453263985066:=0
def tw13437136898794627551:=0
def tw13008371743889014285:=0
def tw12688447964242566445:=0
def tw12590055138250162558:=0
def tw12482925312183750142:=0
def tw10892247869045120709:=0
def tw13412235586029648350:=0
def tw12590795008452479007:=0
def tw12260603756667240698:=0
def tw5333658097134155356:=0
def tw5657404417020586650:=0
def tw4944858871520626603:=0
def tw17394895231303866609:=0
def tw15985201772190807813:=0
def tw14221139825811007511:=0
def tw10458280961373454256:=0
def tw7877938124046858022:=0
def tw18215302845159013744:=0
def tw8061850414018302952:=0
def tw7893084566393053850:=0
def tw7159020068888268021:=0
def tw655141864933438672:=0
def tw5251106820388935282:=0
def tw17443002729299410765:=0
def tw12517362049000466591:=0
def tw4645300615881891101:=0
def tw422457690842244339:=0
def tw17363253531218059732:=0
def tw15332776688552055885:=0
def tw13890624875176922662:=0
def tw2061568860022804179:=0
def tw16841623999473142754:=0
def tw14067908124051064054:=0
def tw13913595331347375981:=0
def tw98464281645172573:=0
def tw9791017012736903625:=0
def tw9014183419705367724:=0
def tw8250034950300054747:=0
def tw7726295774096637407:=0
def tw7689305838295999590:=0
def tw64868669639557603:=0
def tw640400795983573311:=0
def tw5663669298377415161:=0
def tw528806309094017918:=0
def tw5253328927083447841:=0
def tw3876977369539737007:=0
def tw3628330287679685632:=0
def tw3258928383309432334:=0
def tw3152481126548844951:=0
def tw2552907885414446533:=0
def tw2512337022388885387:=0
def tw2360346038484432165:=0
def tw18394935431800315701:=0
def tw18345719829190368782:=0
def tw173823882741455480:=0
def tw17258628113047464959:=0
def tw17253646664994820191:=0
def tw16151277917132556167:=0
def tw13260167541379425729:=0
def tw13158379528844545920:=0
def tw12175168222996680280:=0
def tw11977163793185457724:=0
def tw10325991251010151048:=0
def tw1006785343420861928:=0
def tw5856979330261601530:=0
def tw8287872878062615063:=0
def tw1842523367749922824:=0
def tw12000935998302537506:=0
def tw16645760622029704301:=0
def tw5005654917149468998:=0
def tw14398830701108029724:=0
def tw9828533377150999826:=0
def tw8519312334301717602:=0
def tw4675782066863693922:=0
def tw3214546593443160025:=0
def tw2956587544759219799:=0
def tw2930774770209959627:=0
def tw17869477871439011708:=0
def tw14427173453752512998:=0
def tw1343284497500286790:=0
def tw12807625634100678587:=0
def tw11737058083988387767:=0
def tw9581210740147315416:=0
def tw8252787346500336103:=0
def tw5518581786226804901:=0
def tw2506762527225241554:=0
def tw17818784850654048557:=0
def tw17364919728357026871:=0
def tw16211671587450309893:=0
def tw15749880291527270470:=0
def tw15129259597673083236:=0
def tw14821828289243505393:=0
def tw14153165470641552914:=0
def tw13898117203883793129:=0
def tw10268097576180769223:=0
def tw11043581563457192110:=0
def tw13645551761365129724:=0
def tw10941176130289711571:=0
def tw7179714357035713940:=0
def tw5198645052034972745:=0
def tw2630438313935268347:=0
def tw17272375923150887821:=0
def tw10600905835146958619:=0
def tw7861431813873556619:=0
end PySem.W.Fast
open PySem PySem.W PyProof.Rows
set_option maxHeartbeats 0 in
theorem PySem.Challenge.cw_slimbody_k26_carried_up_holds : PySem.Challenge.rw_slimbody_k26_carried_up.Holds := by
  w_on; o_law; k_head; (case hw => w_witness2)
  k_fill
  refine K7.walk (l := PySem.Challenge.rw_slimbody_k26_carried_up) rfl rfl (fun w h Y => PySem.W.kIn_of Y) (by rfl) ?j0a
  case j0a =>
    intro w mg fa h KX G hmg
    refine' K7.all_mk KX G hmg ?_ ?_ ?_ ?_ ?_ ?_ ?_ ?_ ?_ ?_ ?_ ?_ ?_ ?_ ?_ ?_ ?_ ?_ ?_ ?_ ?_ ?_ ?_ ?_ ?_ ?_ ?_ ?_ ?_ ?_ ?_ ?_ ?_ ?_ ?_ ?_ ?_ ?_ ?_ ?_ ?_ ?_ ?_ ?_ ?_ ?_ ?_ ?_ ?_ ?_ ?_ ?_ ?_ ?_ ?_ ?_ ?_ ?_ ?_ ?_ ?_ ?_ ?_ ?_ ?_ ?_ ?_ ?_ ?_ ?_ ?_ ?_ ?_ ?_ ?_ ?_ ?_ ?_ ?_ ?_ ?_ ?_ ?_ ?_ ?_ ?_ ?_ ?_ ?_ ?_ ?_ ?_ ?_ ?_ ?_ ?_ ?_ ?_ ?_ ?_ ?_ ?_ ?_ ?_ ?_ ?_ ?_ ?_ ?_ ?_ ?_ ?_ ?_ ?_ ?_ ?_ ?_ ?_ ?_ ?_ ?_ ?_ ?_ ?_ ?_ ?_ ?_ ?_ ?_ ?_ ?_ ?_ ?_ ?_ ?_ ?_ ?_ ?_ ?_
    all_goals try first | k_is | k_exc | exact a0U (by k_is) (by k_is) (by k_is) (by k_is) | exact a0V (by k_is) (by k_is) (by k_is) (by k_is) (by k_is) | exact a1v (by k_is) (by k_is) (by k_is) (by k_is) (by k_is) (by k_is) (by rfl) (by rfl) (by k_is) | exact a1w (by rfl) (by k_is) (by k_is) (by k_is) (by k_is) (by k_is) | rfl | kernel_rfl
    constructor <;> k_is
