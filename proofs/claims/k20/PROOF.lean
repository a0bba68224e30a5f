import PyProof.Rows.All
import Wide.All
import OpenK.AllK
import Wide.FinOn
import Lean
import PyProof.EqAt
import PyProof.EqKinds
import PyProof.TupleCall
import PyProof.Rows.SetFrom
import PyProof.Rows.SortWalkRead
import PyProof.Rows.EqDataRows
import PyProof.CompFree
import PyProof.ZipIter
import PyProof.Rows.ZipGen
import PyProof.GenCompD
import PyProof.CodeObjX
import KE.KNest
import PyProof.DictWalks
import PyProof.AutoListH
import PyProof.WalksMore
import PyProof.Draws
import PyProof.EnumFor
import PyProof.EnumMake
import PyProof.EnumStmt
import PyProof.Rows.EnumRows
import KE.KSuper
import PyProof.WalkInts
import KE.KTryMore
import PyProof.ExcClass2
import PyProof.ExcInit
import PyProof.InstStore
import PyProof.ExcBaseAll.ValueError
import PyProof.InstStoreFacts
import KE.KSortTup
import PyProof.Rows.SortShellK
import PyProof.DictCompW
import KE.KRevSl
import PySem.Challenge.RW_slimbody_k20_fillers_by_kinds
set_option Elab.async false
set_option linter.all false
set_option tactic.hygienic false
set_option compiler.extract_closed false
set_option hygiene false
set_option genSizeOf false
set_option genInjectivity false
set_option maxRecDepth 100000
local macro_rules|`(#[$a,*])=>`(⟨$a,*⟩)
local macro_rules|`(#v[$a,*])=>`(List.toArray [$a,*])
local macro_rules|`(↑$a)=>`(some $a)
local macro_rules|`(⇑$a)=>`(($a).heap.objs.size)
set_option maxHeartbeats 4000000
local macro_rules|`(23)=>`((v6 (vX P w) P w K mg base N qual scope f cd A outer s H E))|`(28)=>`((hZ X.prog X.w))|`(55)=>`(#[I.ok.mod,I.ok.kind,I.ok.glob,I.ok.blt,I.ok.above,I.ok.inj,I.ok.has,I.ok.Pd,I.ok.hd,I.ok.frames,I.ok.CG,I.ok.T0,I.ok.bs,I.ok.IY,I.ok.DC,I.ok.Eb,I.ok.yT,I.ok.Ki])|`(57)=>`((Option (Int×(List Int))))|`(58)=>`({ cls:=.type "list",data:=.seq ([]:List cr).toArray})|`(61)=>`((Ch.refl _ _ _ _))|`(65)=>`((p.1,#[],()))|`(66)=>`(("__debug__":Str))|`(67)=>`((false,eval e X.env))|`(70)=>`((lk p.1.rk p.2.1))|`(71)=>`((p.1,#[],#[],()))|`(72)=>`((gV->D->Prop))|`(73)=>`({ cls:=.type "list",dict:=none,data:=.seq Ai.toArray nD})|`(74)=>`((yD w4 (pv 0) vH (λ_ _=>rfl)))|`(75)=>`(("__class__",cc))|`(76)=>`({ cls:=.type "dict_keyiterator",data:=.fields #v[.ref a,.int 0 0,.int xF.length 0,.int ep 0]})|`(77)=>`({ cls:=.type "dict_keyiterator",data:=.fields #v[.ref a,.int 0 0,.int m.length 0,.int B 0]})|`(78)=>`((v6 (vX P w) P w K l base N g c f u A e s H E))|`(79)=>`((false,eval a X.env))|`(81)=>`({ cls:=.type "list",dict:=none,data:=.seq ([]:List cr).toArray})|`(82)=>`((jN nm q C N bs bm hdct sn sub ab col dd k0 k1 k2 k3 k5 newId))|`(83)=>`((q.get<|A.get d))|`(84)=>`((.Call (.Name "super" p0) [] [] p1))|`(85)=>`((gV->PO->Prop))|`(86)=>`((vj (ss 1) vg))|`(87)=>`((v6 (vX P w) P w K e base N c a f g A b s H E))|`(88)=>`((if kR t.dummies j=true then jh t.dummies (im t.dummies j) else t.dummies))|`(90)=>`((Int×List Int))|`(91)=>`((Lm (vX P w) P w K mg base N qual scope f (.ref zA) [75] A outer s H E))|`(93)=>`(#[rfl,I.turned (t':=s.toks) (λb o hb e=>eb b o hb e) f0 f1 f3 f4 f5])|`(94)=>`((#[],#[],()))|`(96)=>`((OL (Int×Int)))|`(97)=>`((.Name x pos))|`(98)=>`({ cls:=.type "range",data:=.fields #v[.int a t,.int c u,.int 1 v]})|`(99)=>`({ s with toks:=s.toks+1})|`(101)=>`((τ->PO->Prop))|`(102)=>`(((items.toList.drop<|xq items.size 0 lo).take<|xq items.size items.size hi-xq items.size 0 lo))|`(103)=>`({ s with heap:=a})|`(105)=>`((vE (α:=Int) vD))|`(106)=>`((vk vi (vk vi vD)))|`(107)=>`((rowAt rows k))|`(108)=>`((some<|.builtin "object.__setattr__"))|`(109)=>`(("__class__":Str))|`(110)=>`((gV->B0×Un×Unit->Prop))|`(111)=>`({ cls:=.type "method-wrapper",data:=.fields #v[.builtin "ValueError.__init__",.ref x]})|`(112)=>`((.ListComp elt [#[tg,iter,ifs,0]] scope pos))|`(113)=>`({ cls:=.ref C,data:=.fields #v[.ref h.objs.size,.none,.none,.none,.bool false,.none]})|`(114)=>`({ cls:=.type "list",data:=.seq a.toArray n})|`(115)=>`((a.filter λl=>decide<|t∈Cv x l (wh x l)))|`(117)=>`((vf<|vw<|vC xP))|`(118)=>`((.Compare a [op] [b] pos))|`(119)=>`((∀C y b c f a,i C b->Ch T F R H c f a->wq T c f a b g->E (.ref C) ↑y a))|`(121)=>`((λz=>z.elim (λq=>.inl<|.inl q) λq=>.inr<|.inl q))|`(122)=>`((vX X.prog X.w))|`(123)=>`((λx=>hc<|by simp[x]))|`(124)=>`(((s.heap.push<|mJ "list" #v[] 0).update ⇑s<|Obj.mapSeq λx=>x++a.toArray))|`(125)=>`((some<|.builtin "ValueError.__init__"))|`(129)=>`({ cls:=.type "dict",data:=.dict #v[]})|`(130)=>`((WL.Un×WL.Un×Unit))|`(131)=>`({ cls:=.type "dict",dict:=none,data:=.dict #v[]})
noncomputable section
local macro_rules | `(tactic| walk_at "sc") => `(tactic| exact #[rfl, rfl, rfl, by decide +kernel, rfl, by decide +kernel, by decide +kernel])
local macro_rules | `(tactic| walk_at "ss") => `(tactic| exact #[rfl, rfl, rfl, by decide +kernel, rfl, by decide +kernel, by decide +kernel, by decide +kernel, rfl, rfl])
local macro_rules | `(tactic| walk_at "wl") => `(tactic| dsimp +instances only [At.get, At.hole, Pt.put, Ent.ent, Pj.pj, Fg.fg, Sel.sel, Sel.rest, Sel.mrg, Pre.pre, Pre.suf, at0, atS, pt0, ptS, ent0, entS, entC, pjNil, pjUn, pjCons, fgId, fgUn, fgCons, selNil, selCons, pre0, preS, stepC, id, ID.get, ID.set, wSq, cK, cB, cA, cO, cC, cM, cN, cS, cG, cI, cW, cT, cF])
def e0a2 {p0:Prop}{p1:Prop}{G:Prop}(h:p0/\p1)(k:p0->p1->G):G:=by obtain ⟨h0,h1⟩:=h;exact k h0 h1
def e0a3 {p0:Prop}{p1:Prop}{p2:Prop}{G:Prop}(h:p0/\p1/\p2)(k:p0->p1->p2->G):G:=by obtain ⟨h0,h1,h2⟩:=h;exact k h0 h1 h2
def e0a4 {p0:Prop}{p1:Prop}{p2:Prop}{p3:Prop}{G:Prop}(h:p0/\p1/\p2/\p3)(k:p0->p1->p2->p3->G):G:=by obtain ⟨h0,h1,h2,h3⟩:=h;exact k h0 h1 h2 h3
def e0a6 {p0:Prop}{p1:Prop}{p2:Prop}{p3:Prop}{p4:Prop}{p5:Prop}{G:Prop}(h:p0/\p1/\p2/\p3/\p4/\p5)(k:p0->p1->p2->p3->p4->p5->G):G:=by obtain ⟨h0,h1,h2,h3,h4,h5⟩:=h;exact k h0 h1 h2 h3 h4 h5
def e1a1 {vV:Sort _}{p0:vV->Prop}{G:Prop}(h:∃ x0:vV,p0 x0)(k:∀ x0:vV,p0 x0->G):G:=by obtain ⟨x0,h0⟩:=h;exact k x0 h0
def e1a2 {vV:Sort _}{p0:vV->Prop}{p1:vV->Prop}{G:Prop}(h:∃ x0:vV,p0 x0/\p1 x0)(k:∀ x0:vV,p0 x0->p1 x0->G):G:=by obtain ⟨x0,h0,h1⟩:=h;exact k x0 h0 h1
def e1a3 {vV:Sort _}{p0:vV->Prop}{p1:vV->Prop}{p2:vV->Prop}{G:Prop}(h:∃ x0:vV,p0 x0/\p1 x0/\p2 x0)(k:∀ x0:vV,p0 x0->p1 x0->p2 x0->G):G:=by obtain ⟨x0,h0,h1,h2⟩:=h;exact k x0 h0 h1 h2
def e1a4 {vV:Sort _}{p0:vV->Prop}{p1:vV->Prop}{p2:vV->Prop}{p3:vV->Prop}{G:Prop}(h:∃ x0:vV,p0 x0/\p1 x0/\p2 x0/\p3 x0)(k:∀ x0:vV,p0 x0->p1 x0->p2 x0->p3 x0->G):G:=by obtain ⟨x0,h0,h1,h2,h3⟩:=h;exact k x0 h0 h1 h2 h3
def e2a2 {vV:Sort _}{wu:Sort _}{p0:vV->wu->Prop}{p1:vV->wu->Prop}{G:Prop}(h:∃ x0:vV,∃ x1:wu,p0 x0 x1/\p1 x0 x1)(k:∀ x0:vV,∀ x1:wu,p0 x0 x1->p1 x0 x1->G):G:=by obtain ⟨x0,x1,h0,h1⟩:=h;exact k x0 x1 h0 h1
def e2a3 {vV:Sort _}{wu:Sort _}{p0:vV->wu->Prop}{p1:vV->wu->Prop}{p2:vV->wu->Prop}{G:Prop}(h:∃ x0:vV,∃ x1:wu,p0 x0 x1/\p1 x0 x1/\p2 x0 x1)(k:∀ x0:vV,∀ x1:wu,p0 x0 x1->p1 x0 x1->p2 x0 x1->G):G:=by obtain ⟨x0,x1,h0,h1,h2⟩:=h;exact k x0 x1 h0 h1 h2
def e2a4 {vV:Sort _}{wu:Sort _}{p0:vV->wu->Prop}{p1:vV->wu->Prop}{p2:vV->wu->Prop}{p3:vV->wu->Prop}{G:Prop}(h:∃ x0:vV,∃ x1:wu,p0 x0 x1/\p1 x0 x1/\p2 x0 x1/\p3 x0 x1)(k:∀ x0:vV,∀ x1:wu,p0 x0 x1->p1 x0 x1->p2 x0 x1->p3 x0 x1->G):G:=by obtain ⟨x0,x1,h0,h1,h2,h3⟩:=h;exact k x0 x1 h0 h1 h2 h3
def e2a5 {vV:Sort _}{wu:Sort _}{p0:vV->wu->Prop}{p1:vV->wu->Prop}{p2:vV->wu->Prop}{p3:vV->wu->Prop}{p4:vV->wu->Prop}{G:Prop}(h:∃ x0:vV,∃ x1:wu,p0 x0 x1/\p1 x0 x1/\p2 x0 x1/\p3 x0 x1/\p4 x0 x1)(k:∀ x0:vV,∀ x1:wu,p0 x0 x1->p1 x0 x1->p2 x0 x1->p3 x0 x1->p4 x0 x1->G):G:=by obtain ⟨x0,x1,h0,h1,h2,h3,h4⟩:=h;exact k x0 x1 h0 h1 h2 h3 h4
def e3a2 {vV:Sort _}{wu:Sort _}{xf:Sort _}{p0:vV->wu->xf->Prop}{p1:vV->wu->xf->Prop}{G:Prop}(h:∃ x0:vV,∃ x1:wu,∃ x2:xf,p0 x0 x1 x2/\p1 x0 x1 x2)(k:∀ x0:vV,∀ x1:wu,∀ x2:xf,p0 x0 x1 x2->p1 x0 x1 x2->G):G:=by obtain ⟨x0,x1,x2,h0,h1⟩:=h;exact k x0 x1 x2 h0 h1
def e3a3 {vV:Sort _}{wu:Sort _}{xf:Sort _}{p0:vV->wu->xf->Prop}{p1:vV->wu->xf->Prop}{p2:vV->wu->xf->Prop}{G:Prop}(h:∃ x0:vV,∃ x1:wu,∃ x2:xf,p0 x0 x1 x2/\p1 x0 x1 x2/\p2 x0 x1 x2)(k:∀ x0:vV,∀ x1:wu,∀ x2:xf,p0 x0 x1 x2->p1 x0 x1 x2->p2 x0 x1 x2->G):G:=by obtain ⟨x0,x1,x2,h0,h1,h2⟩:=h;exact k x0 x1 x2 h0 h1 h2
def e3a4 {vV:Sort _}{wu:Sort _}{xf:Sort _}{p0:vV->wu->xf->Prop}{p1:vV->wu->xf->Prop}{p2:vV->wu->xf->Prop}{p3:vV->wu->xf->Prop}{G:Prop}(h:∃ x0:vV,∃ x1:wu,∃ x2:xf,p0 x0 x1 x2/\p1 x0 x1 x2/\p2 x0 x1 x2/\p3 x0 x1 x2)(k:∀ x0:vV,∀ x1:wu,∀ x2:xf,p0 x0 x1 x2->p1 x0 x1 x2->p2 x0 x1 x2->p3 x0 x1 x2->G):G:=by obtain ⟨x0,x1,x2,h0,h1,h2,h3⟩:=h;exact k x0 x1 x2 h0 h1 h2 h3
def e3a5 {vV:Sort _}{wu:Sort _}{xf:Sort _}{p0:vV->wu->xf->Prop}{p1:vV->wu->xf->Prop}{p2:vV->wu->xf->Prop}{p3:vV->wu->xf->Prop}{p4:vV->wu->xf->Prop}{G:Prop}(h:∃ x0:vV,∃ x1:wu,∃ x2:xf,p0 x0 x1 x2/\p1 x0 x1 x2/\p2 x0 x1 x2/\p3 x0 x1 x2/\p4 x0 x1 x2)(k:∀ x0:vV,∀ x1:wu,∀ x2:xf,p0 x0 x1 x2->p1 x0 x1 x2->p2 x0 x1 x2->p3 x0 x1 x2->p4 x0 x1 x2->G):G:=by obtain ⟨x0,x1,x2,h0,h1,h2,h3,h4⟩:=h;exact k x0 x1 x2 h0 h1 h2 h3 h4
def e4a4 {vV:Sort _}{wu:Sort _}{xf:Sort _}{yS:Sort _}{p0:vV->wu->xf->yS->Prop}{p1:vV->wu->xf->yS->Prop}{p2:vV->wu->xf->yS->Prop}{p3:vV->wu->xf->yS->Prop}{G:Prop}(h:∃ x0:vV,∃ x1:wu,∃ x2:xf,∃ x3:yS,p0 x0 x1 x2 x3/\p1 x0 x1 x2 x3/\p2 x0 x1 x2 x3/\p3 x0 x1 x2 x3)(k:∀ x0:vV,∀ x1:wu,∀ x2:xf,∀ x3:yS,p0 x0 x1 x2 x3->p1 x0 x1 x2 x3->p2 x0 x1 x2 x3->p3 x0 x1 x2 x3->G):G:=by obtain ⟨x0,x1,x2,x3,h0,h1,h2,h3⟩:=h;exact k x0 x1 x2 x3 h0 h1 h2 h3
def e4a6 {vV:Sort _}{wu:Sort _}{xf:Sort _}{yS:Sort _}{p0:vV->wu->xf->yS->Prop}{p1:vV->wu->xf->yS->Prop}{p2:vV->wu->xf->yS->Prop}{p3:vV->wu->xf->yS->Prop}{p4:vV->wu->xf->yS->Prop}{p5:vV->wu->xf->yS->Prop}{G:Prop}(h:∃ x0:vV,∃ x1:wu,∃ x2:xf,∃ x3:yS,p0 x0 x1 x2 x3/\p1 x0 x1 x2 x3/\p2 x0 x1 x2 x3/\p3 x0 x1 x2 x3/\p4 x0 x1 x2 x3/\p5 x0 x1 x2 x3)(k:∀ x0:vV,∀ x1:wu,∀ x2:xf,∀ x3:yS,p0 x0 x1 x2 x3->p1 x0 x1 x2 x3->p2 x0 x1 x2 x3->p3 x0 x1 x2 x3->p4 x0 x1 x2 x3->p5 x0 x1 x2 x3->G):G:=by obtain ⟨x0,x1,x2,x3,h0,h1,h2,h3,h4,h5⟩:=h;exact k x0 x1 x2 x3 h0 h1 h2 h3 h4 h5
def e5a3 {vV:Sort _}{wu:Sort _}{xf:Sort _}{yS:Sort _}{Bu:Sort _}{p0:vV->wu->xf->yS->Bu->Prop}{p1:vV->wu->xf->yS->Bu->Prop}{p2:vV->wu->xf->yS->Bu->Prop}{G:Prop}(h:∃ x0:vV,∃ x1:wu,∃ x2:xf,∃ x3:yS,∃ x4:Bu,p0 x0 x1 x2 x3 x4/\p1 x0 x1 x2 x3 x4/\p2 x0 x1 x2 x3 x4)(k:∀ x0:vV,∀ x1:wu,∀ x2:xf,∀ x3:yS,∀ x4:Bu,p0 x0 x1 x2 x3 x4->p1 x0 x1 x2 x3 x4->p2 x0 x1 x2 x3 x4->G):G:=by obtain ⟨x0,x1,x2,x3,x4,h0,h1,h2⟩:=h;exact k x0 x1 x2 x3 x4 h0 h1 h2
def e5a4 {vV:Sort _}{wu:Sort _}{xf:Sort _}{yS:Sort _}{Bu:Sort _}{p0:vV->wu->xf->yS->Bu->Prop}{p1:vV->wu->xf->yS->Bu->Prop}{p2:vV->wu->xf->yS->Bu->Prop}{p3:vV->wu->xf->yS->Bu->Prop}{G:Prop}(h:∃ x0:vV,∃ x1:wu,∃ x2:xf,∃ x3:yS,∃ x4:Bu,p0 x0 x1 x2 x3 x4/\p1 x0 x1 x2 x3 x4/\p2 x0 x1 x2 x3 x4/\p3 x0 x1 x2 x3 x4)(k:∀ x0:vV,∀ x1:wu,∀ x2:xf,∀ x3:yS,∀ x4:Bu,p0 x0 x1 x2 x3 x4->p1 x0 x1 x2 x3 x4->p2 x0 x1 x2 x3 x4->p3 x0 x1 x2 x3 x4->G):G:=by obtain ⟨x0,x1,x2,x3,x4,h0,h1,h2,h3⟩:=h;exact k x0 x1 x2 x3 x4 h0 h1 h2 h3
def e5a6 {vV:Sort _}{wu:Sort _}{xf:Sort _}{yS:Sort _}{Bu:Sort _}{p0:vV->wu->xf->yS->Bu->Prop}{p1:vV->wu->xf->yS->Bu->Prop}{p2:vV->wu->xf->yS->Bu->Prop}{p3:vV->wu->xf->yS->Bu->Prop}{p4:vV->wu->xf->yS->Bu->Prop}{p5:vV->wu->xf->yS->Bu->Prop}{G:Prop}(h:∃ x0:vV,∃ x1:wu,∃ x2:xf,∃ x3:yS,∃ x4:Bu,p0 x0 x1 x2 x3 x4/\p1 x0 x1 x2 x3 x4/\p2 x0 x1 x2 x3 x4/\p3 x0 x1 x2 x3 x4/\p4 x0 x1 x2 x3 x4/\p5 x0 x1 x2 x3 x4)(k:∀ x0:vV,∀ x1:wu,∀ x2:xf,∀ x3:yS,∀ x4:Bu,p0 x0 x1 x2 x3 x4->p1 x0 x1 x2 x3 x4->p2 x0 x1 x2 x3 x4->p3 x0 x1 x2 x3 x4->p4 x0 x1 x2 x3 x4->p5 x0 x1 x2 x3 x4->G):G:=by obtain ⟨x0,x1,x2,x3,x4,h0,h1,h2,h3,h4,h5⟩:=h;exact k x0 x1 x2 x3 x4 h0 h1 h2 h3 h4 h5
def e6a2 {vV:Sort _}{wu:Sort _}{xf:Sort _}{yS:Sort _}{Bu:Sort _}{TV:Sort _}{p0:vV->wu->xf->yS->Bu->TV->Prop}{p1:vV->wu->xf->yS->Bu->TV->Prop}{G:Prop}(h:∃ x0:vV,∃ x1:wu,∃ x2:xf,∃ x3:yS,∃ x4:Bu,∃ x5:TV,p0 x0 x1 x2 x3 x4 x5/\p1 x0 x1 x2 x3 x4 x5)(k:∀ x0:vV,∀ x1:wu,∀ x2:xf,∀ x3:yS,∀ x4:Bu,∀ x5:TV,p0 x0 x1 x2 x3 x4 x5->p1 x0 x1 x2 x3 x4 x5->G):G:=by obtain ⟨x0,x1,x2,x3,x4,x5,h0,h1⟩:=h;exact k x0 x1 x2 x3 x4 x5 h0 h1
def e7a2 {vV:Sort _}{wu:Sort _}{xf:Sort _}{yS:Sort _}{Bu:Sort _}{TV:Sort _}{α6:Sort _}{p0:vV->wu->xf->yS->Bu->TV->α6->Prop}{p1:vV->wu->xf->yS->Bu->TV->α6->Prop}{G:Prop}(h:∃ x0:vV,∃ x1:wu,∃ x2:xf,∃ x3:yS,∃ x4:Bu,∃ x5:TV,∃ x6:α6,p0 x0 x1 x2 x3 x4 x5 x6/\p1 x0 x1 x2 x3 x4 x5 x6)(k:∀ x0:vV,∀ x1:wu,∀ x2:xf,∀ x3:yS,∀ x4:Bu,∀ x5:TV,∀ x6:α6,p0 x0 x1 x2 x3 x4 x5 x6->p1 x0 x1 x2 x3 x4 x5 x6->G):G:=by obtain ⟨x0,x1,x2,x3,x4,x5,x6,h0,h1⟩:=h;exact k x0 x1 x2 x3 x4 x5 x6 h0 h1
def us0 {α:Type}{P:List α->Prop}(h:P [])(us:List α)(e:us.length=0):P us:=by
 cases us with
 |nil=>exact h
 |cons=>cases e
def us1 {α:Type}{P:List α->Prop}(h:∀ a,P [a])(us:List α)(e:us.length=1):P us:=by
 cases us with
 |nil=>cases e
 |cons a t=>exact us0 (P:=fun t=>P (a :: t)) (h a) t (Nat.succ.inj e)
def us2 {α:Type}{P:List α->Prop}(h:∀ a b,P [a,b])(us:List α)(e:us.length=2):P us:=by
 cases us with
 |nil=>cases e
 |cons a t=>exact us1 (P:=fun t=>P (a :: t)) (h a) t (Nat.succ.inj e)
def us3 {α:Type}{P:List α->Prop}(h:∀ a b c,P [a,b,c])(us:List α)(e:us.length=3):P us:=by
 cases us with
 |nil=>cases e
 |cons a t=>exact us2 (P:=fun t=>P (a :: t)) (h a) t (Nat.succ.inj e)
def us4 {α:Type}{P:List α->Prop}(h:∀ a b c d,P [a,b,c,d])(us:List α)(e:us.length=4):P us:=by
 cases us with
 |nil=>cases e
 |cons a t=>exact us3 (P:=fun t=>P (a :: t)) (h a) t (Nat.succ.inj e)
def cutG {α:Sort _}{G:α->Prop}{P:Prop}(k:(∀ a,G a)->P)(h:∀ a,G a):P:=k h
def cutP {G P:Prop}(k:G->P)(h:G):P:=k h
def lx0 {α:Type}(us:List α)(e:us.length=0):us=[]:=us0 (P:=fun us=>us=[]) rfl us e
def lx1 {α:Type}(us:List α)(e:us.length=1):∃ a,us=[a]:=us1 (P:=fun us=>∃ a,us=[a]) (fun a=>#[a,rfl]) us e
def lx2 {α:Type}(us:List α)(e:us.length=2):∃ a b,us=[a,b]:=us2 (P:=fun us=>∃ a b,us=[a,b]) (fun a b=>#[a,b,rfl]) us e
open PySem renaming wpAny_bind->am,wpAny_pure->ap,Value->cr,Addr->gV,starEach->gX,sizeLine->hJ,Shared->hR,wpAny->hX,model->hZ,mainGlobals->il,Stmt->iB,Program->iJ,wpAny_holding->iM,attributeBase->iP,FuncData->iQ,Expr->iT,wpAny_newObj_type->iV,Heap->iX,sizeLine_eq->i7,World->jb,wpAny_call_entry->jc,behindInMarks->jd,wpAny_mono->jm,wpAny_field->jo,wpAny_setState_of->jq,backTo->jx,Around->jF,compareOp->jG,excClassObj->jN,wpAny_askSetting->jP,SetTable->jS,wpAny_loadPart_at->jU,codeAny_builtin->jX,wpAny_setField_rec->j0,codeAny_mono->j7,swapsWith->kd,mem_of_lookup->ky,wpAny_truthy_bool->kC,foldedSetIterable->kD,intKind->kM,ExcBaseFacts->kO,cLine->kT,wpAny_Call_Name_kw->kU,wpAny_loadName_local->k8,holding->k9,keywordEach->lh,wpAny_typeOf->lj,sysModules->lq,plainId_quiet->lu,wpAny_seqItems->lE,unsupported->lM,tupleKind_room_in1->lO,wpAny_passesOwn->lX,rawInt->l9,builtinLookup_eq_fast->mf,Scope->my,wpAny_rule->mz,wpAny_isInstance->mF,binaryOp->mM,boot_len->mQ,codeAny->mS,codeAny_of_tree->mV,wpAny_call->mX,getMethod->mY,wpAny_of_eq->mZ,bootBuiltins->nc,standAt->ng,backToKw->ni,wpAny_setField->nw,typeLookup->nN,hashInt->nP,wpAny_standAt->nS,callWith->nV,sliceBounds->nW,codeAny_call_builtin->nZ,wpAny_execs_nil->oj,typeLookup_type->om,getItem->oz,call_meetsIn->oC,builtinsNs->oM,closureFor->oP,relabel->o9,wpAny_attempt->pA,wpAny_comprehension_free->pB,wpAny_onRaise->pC,tupleKind->pF,GenState->pH,wpAny_Name->pV,assignEach->pW,Keyword->pY,intKind_is->qb,sub_set_self->qc,wpAny_specialOf->qe,wpAny_updateSeq->qh,IsPart->qu,firstArgMember->qw,IsPair->qz,wpAny_updateSeq_pair->qA,valueAt->qE,wpAny_loadName_free->qI,wpAny_setEntries_of->qN,Obj->qQ,wpAny_isSubtype_exc->qS,CmpOp->qT,isTrue->qW,wpAny_load->qX,wpAny_pyIter_tuple->qY,wpAny_Call_method->rE,callerA->rF,cStatics->rJ,ks_wpAt_mono->rK,plainObj_wpAny_Assign_Attribute->rO,wpAny_eqBool_int->rT,PassesOwn->rV,argsOk->rX,subscripted->sg,IsZip->sv,wpAny_letGo->sw,Within->sx,wpAny_AugAssign_SubscriptAny->sD,letOwnedTupleGo->sE,wpAny_tests_nil->sH,setItem->sL,BindsTo->sN,OwnTail->sS,wpAny_Compare1->sU,assign->sV,recursionLimit->sX,bindArgs->sY,atKey->tm,relayAll->tD,storeSet->tE,entryFor->tF,entryFor_alias->tG,wpAny_runValue->tH,isSubtype_type->tJ,compEnvC->tL,refuseLoop->tO,evalPart_none->t7,wpAny_getItem_list_slice->t9,call->uc,wpAny_newList->ue,wpAt->ug,table->uo,pickOrder->uq,TriplesOk->uu,noteFrame->uv,field->uw,spliced->uD,truthy->uE,leaving->uF,seqIndex_neg->uH,wpAny_Call_method_late->uJ,wpAny_isTrue_Compare1->uR,weight_type_call_type->uV
open PySem.Heap renaming get?_push_of_some->ce,lt_size->hV,get?_push_size->ic,get?_update_other->iN,get?_update_self->i8,SameBut->jg,size_push->jK,FlyingW->mi,get?_none_of_le->nA,get?_push_at->oG,size_update->oT,get?_update_ne->qi,IsTuple->qG,MadeExcOf->rS
open PySem.W renaming Frag->gW,nsIn->io,findIn->iF,envX->je,mg_of->jf,keepIn->jt,excIn->jz,codeIn->jC,fnOf->jL,kia_one->jR,Looks->jY,emptyDict->jZ,ks_superIn->j9,instObj->kQ,fnX->kS,mroIn->lw,exmAny->lR,hideAll->mq,methodObj->mH,fnIn->mK,plainGet->mW,clsIn->m4,kas_rev_size->ny,of_hideAll->nM,hasDictIn->n8,tabIn->oo,isFn->oN,methodCall_KW->oW,lookIn->pf,typeIn->ph,looks_findIn->pi,hideAll_get->pG,plainGet_of->pI,looks_clsIn->pJ,callWith_of->pP,looks_mroIn->pQ,ks_superObj->pR,callWith_K->pX,isNs_of_in->qd,plainOver->qk,takerIn->qJ,makesIn->qK,OpenLaw->qO,kitOne->qZ,CodeHd->rg,tabObj->rh,ks_loadName_global->rj,MethP->rL,kas_rev->rM,cellsFrom_some->rW,funFrames_hide->rY,hideAll_none->sA,looks_opaque->sK,callWith_K0->sO,codeRec_of->td,tail_of_in->tM,mg_none_of->tN,kitx_list->tS,kitx_dict->tT,handedIn->t6,kat_cons->uh,keeps_M->ux,alongIn->uy,kas_place->uA,kat_yes->uB,kat_go->uO,kat_no->uP,nsOkIn->uQ,WalkO->uW
open List renaming mem_cons_self->gY,mem_cons_of_mem->hI,length_map->hO,size_toArray->ie,length_append->ig,mem_append_right->iv,length_singleton->iw,length_cons->iz,range->iA,map_cons->iC,mem_cons->iD,length_filter_le->iI,lookup_cons->iO,find?_cons->i9,mem_filter->ja,mem_append_left->ji,filter_cons->jk,not_mem_nil->jl,getD_eq_getElem?_getD->jy,take_of_length_le->jB,getElem?_eq_getElem->jD,pairwise_singleton->jH,getElem?_map->jO,mem_of_getElem?->jW,getElem?_append_right->j5,append_nil->ko,map_append->ku,map_map->kF,lookup->kG,mem_singleton->kJ,getElem?_eq_none->kP,mem_append->kW,filterMap_cons->kZ,replicate->lm,length_range->lP,append_assoc->lQ,getElem?_of_mem->lY,length_take->mh,getElem?_append_left->ml,map_congr_left->mw,length_set->mD,foldl_cons->mE,nodup_nil->mU,perm_append_comm->m6,length_drop->m8,getElem?_set_ne->nC,take_append_of_le_length->nE,length_nil->nJ,nil_append->nK,drop_eq_getElem_cons->ot,length->oA,reverse_cons->oB,filter_congr->oF,any_cons->oH,eraseIdx_cons_succ->oQ,all_eq_true->oU,getElem?_set_self->o7,map_nil->o8,filterMap_eq_map'->pc,of_mem_zip->pq,all_cons->qo,ext_getElem?->qF,eraseIdxIfInBounds_toArray->qM,filter_map->rA,getElem?_take_of_lt->sf,findIdx?->sj,getElem?_replicate->sF,getElem?_cons_succ->sJ,pairwise_lt_range->sR,length_replicate->sZ,take_append_drop->tq,eq_nil_or_concat->tP,concat_eq_append->tQ,getElem?_range->uf,filterMap_map->uj,getElem?_take->uk,getElem?_drop->ul,map_filterMap->um,contains_cons->uz,filter_append->uC,take_sublist->uG,getElem_mem->uU,any_eq_true->uX,drop_length->uY,zipIdx_cons->uZ,take_length->u4,getElem_map->vc
open Nat renaming le_refl->gZ,ne_of_lt->ij,lt_of_lt_of_le->iu,le_trans->iK,zero_le->jj,ne_of_gt->jv,lt_succ_self->jE,lt_of_le_of_lt->jM,lt_irrefl->j4,le_of_lt_succ->kq,le_succ->md,le_of_lt->mj,lt_trans->nX,succ_pos->nY,mod_lt->ol,lt_succ_of_lt->oJ,le_add_right->oX,le_of_eq->qL,sub_self->qR,le_of_not_lt->q7,zero_add->tz,div_lt_of_lt_mul->ud,lt_trichotomy->uT
open Array renaming length_toList->hW,getElem?_toList->iR,getElem?_eq_getElem->jA,getD_eq_getD_getElem?->lJ,size_map->mO,toList_extract->nq,toList_append->pZ,append_assoc->qj,toList_push->qv,toList->sC,getElem?_eq_none->sI,find?_toList->tZ
open Bool renaming false_ne_true->h8,and_eq_true->iU,false_eq_true->lA,eq_iff_iff->lF,xor_assoc->lZ,false_xor->oh,xor_false->oi,and_self->qq,or_false->sk,not_eq_true'->uN
open PySem.SetTable renaming below->im,sizeAbove->i4,eraseAt->jh,runEnd->jr,insertAt->js,bits->ju,leap->kA,fresh->kE,has->kR,turns->kX,fill->lv,Probe->lK,advance->lV,grown->mG,laid->n9,freeSlot->qf,layClean->qg,probe->qU,slot->rr,roomFor->tW,fits->uL,road->uM
open PySem.Value renaming ref->iq,type->kj,int->l8,isInt->m9,bool->rC,float->sT
open Sum renaming inl->iE,inr->qH
open List.Pairwise renaming nil->iG,filter->jQ,imp->pr
open PySem.F renaming excBase_ValueError->iH,slot_dict_get->kI,slot_tuple_iterator_next->mo,plainAttrs_list->mC,entry_dict_get->mI,plainAttrs_dict->oE,plain_list_iadd->oS,slot_list_pop->o5,type_list_pop->o6,plain_set_new->pT,slot_zip_next->pU,plain_extend_loop->qx,slot_dict_delitem->rq,args_dict_get_2->rP,args_dict_get_3->rQ,args_tuple_iterator_next_1->rZ,slot_dict_pop->sh,type_dict_get->si,entry_tuple_iterator_next->su,entry_proto_collect->ur,plain_proto_collect->ut
open False renaming elim->iL
open Option.some renaming inj->iY
open Option renaming isSome_map->iZ,getD_none->qD,map->tU
open PySem.SetTable.layClean renaming free->jp
open PySem.Builtin.SmallTypes renaming nextOf->jw,ownedTupleIsFree->kg,ownedTupleHandOut->og
open PySem.Around renaming under_plainId->jI,under->se,frames_deeper->sP,under_plain->tY
open PySem.Calls renaming evalArgs_plain->jJ,spliced_cons->kf,callWith_builtin->kB,spliced_nil->lH,loadGlobal_builtin->oy,Name_function_global->rD,call_function_entry->rR
open PySem.SetTable.probe renaming go->jT
open PyProof.Rows renaming callWith_type1->kh,boot_list->ki,boot_sorted->kK,slot_tuple_getitem->kN,IntsAre->lx,seqObj->mJ,AllBare->nQ,boot_set->ou,envOfC->oV,callWith_builtin1->pS,boot_tuple->qP,boot_bool->qV,Subscript_->tj,size_push'->tK,listUpdate_at->ui,subscriptTail_builtinR->uI
open Or renaming inl->kH,inr->uS
open PySem.Spec renaming sameAll->kY,same->lp
open PySem.Builtin.Slice renaming slicePlaces->lG,sliceAdjust->qr
open PySem.Builtin.Tuple renaming tupleExact->lN,tupleItemsOf->qm
open Int renaming toNat_natCast->lU,le_refl->oK,emod_lt_of_pos->qC,emod_nonneg->rN
open PySem.Builtin.List renaming listSameRef->lW,listExtendWith->qp
open PySem.W.KasT renaming kasWp->l6,kasWp_bind->nL
open PySem.Str renaming ofString->mn
open PySem.Heap.SameBut renaming refl->mr,update->oR
open PySem.Shared renaming TypeIs->mu
open PySem.SeqAt renaming noMixAll->mP,noMix->pM,shaped->sG
open ForInStep renaming yield->m7
open PySem.SetTable.below renaming go->nj
open Nat.succ renaming inj->nI
open Classical renaming byContradiction->nO
open Sum.inl renaming inj->n6
open PySem.Code renaming quiet_builtin->oa,isFrame->sM
open PySem.PyData renaming canLayAll0->oq,depthAll->oZ,canLay0->pE,depth->sr
open List.Perm renaming append_left->oO,cons->oY,refl->o4,of_eq->tV
open PyProof.Rows.F renaming plain_set_update_loop->pw,entry_set_update_loop->tX
open PySem.Builtin.Frozenset renaming newClass->pL,oneOther->pN
open String renaming splitOnAux->qt,splitOn->rs
open PySem.Heap.UpToSlots renaming of_keeps->qy
open PyProof.Rows.IntsAre renaming int_at->rc,length->rf
open PySem.Heap.IsSliceOf renaming new->ro
open Eq renaming mpr->rB
open PySem.pickOrder renaming go->rG
open PySem.W.Looks renaming ld->r8
open PySem.SeqAt.EqAt renaming int_str->r9,str_int->sd
open PySem.Heap.DictOf renaming new->sQ
open PySem.Heap.Ns1 renaming of_empty->sW
open PySem.Data renaming fields->tR
open Function renaming comp->uK
abbrev ci:=@if_neg
abbrev gU:=@if_pos
abbrev ii:=@absurd
abbrev ik:=@decide_eq_false
abbrev iW:=@decide_eq_true_eq
abbrev jV:=@of_decide_eq_true
abbrev lS:=@of_decide_eq_false
abbrev mB:=@or_false
abbrev pK:=@if_false
abbrev pO:=@beq_self_eq_true
abbrev qa:=@not_or
abbrev rH:=@bne_self_eq_false
def q0q{p:Prop}(h:p:=by decide):p:=h
def q0d{p:Prop}(h:p:=by omega):p:=h
def q0o{p:Prop}(h:p:=by simp):p:=h
def q0s{p:Prop}(h:p:=by decide +kernel):p:=h
def q0a{p:Prop}(h:p:=by lia):p:=h
namespace L2
open PySem PySem.Spec PyProof.Rows
abbrev Key:=Sum Int Str
noncomputable def Aj:Key->cr->Bool
 | .inl k,v=>m9 k v
 | .inr x,v=>Value.isStrOf x v
noncomputable def a1x(w:jb):Key->Int
 | .inl k=>nP k
 | .inr x=>hashStr w x
def wx:∀{k:Key} {v:cr},Aj k v=true->(∃i t,k=iE i/\v=l8 i t)\/(∃x t,k=qH x/\v=Value.str x t)
 | .inl i,v,h=>by
  obtain⟨t,e⟩:=Value.isInt_shape (k:=i) (v:=v) h;exact .inl #[i,t,rfl,e]
 | .inr x,v,h=>by obtain⟨t,e⟩:=Value.isStrOf_shape (x:=x) (v:=v) h;exact .inr #[x,t,rfl,e]
def NH(i:Int)(t:Tok):Aj (.inl i) (.int i t)=true:=by simp[Aj,m9]
def NI(x:Str)(t:Tok):Aj (.inr x) (.str x t)=true:=by simp[Aj,Value.isStrOf]
def W4(a b:Int):decide ((iE a:Key)=iE b)=(a==b):=by
 by_cases e:a=b
 ·subst e;simp
 ·have h:¬(iE a:Key)=iE b:=λq=>e<|n6 q;rw[ik h];exact(beq_eq_false_iff_ne.mpr e).symm
def W5(a b:Str):decide ((qH a:Key)=qH b)=decide (a=b):=by
 by_cases e:a=b
 ·subst e;simp
 ·have h:¬(qH a:Key)=qH b:=λq=>e<|Sum.inr.inj q;rw[ik h,ik e]
def W6(a:Int)(b:Str):decide ((iE a:Key)=qH b)=false:=ik<|λq=>nomatch q
def W7(a:Str)(b:Int):decide ((qH a:Key)=iE b)=false:=ik<|λq=>nomatch q
noncomputable def vO(prog:iJ)(w:jb):PySem.KeyKind prog w Key where
 is:=Aj
 hash:=a1x w
 inj:=λv a b ha hb=>by
  rcases wx ha with⟨i,t,rfl,rfl⟩|⟨x,t,rfl,rfl⟩
  ·rcases wx hb with⟨j,u,rfl,e⟩|⟨y,u,rfl,e⟩
   ·injection e with e1 _;rw[e1]
   ·exact nomatch e
  ·rcases wx hb with⟨j,u,rfl,e⟩|⟨y,u,rfl,e⟩
   ·exact nomatch e
   ·injection e with e1 _;rw[e1]
 byValue:=λk v h=>by rcases wx h with⟨i,t,rfl,rfl⟩|⟨x,t,rfl,rfl⟩<;>rfl
 pyHash:=λhv h=>by
  rcases wx hv with⟨i,t,rfl,rfl⟩|⟨x,t,rfl,rfl⟩
  ·exact wpAny_pyHash_int h
  ·exact wpAny_pyHash_str h
 eqBool:=λhu hv h=>by
  rcases wx hu with⟨i,t,rfl,rfl⟩|⟨x,t,rfl,rfl⟩
  ·rcases wx hv with⟨j,u,rfl,rfl⟩|⟨y,u,rfl,rfl⟩
   ·rw[W4]at h;exact rT h
   ·rw[W6]at h;exact r9 i t y u _ _ _ _ h
  ·rcases wx hv with⟨j,u,rfl,rfl⟩|⟨y,u,rfl,rfl⟩
   ·rw[W7]at h;exact sd x t j u _ _ _ _ h
   ·rw[W5]at h;exact wpAny_eqBool_str h
 «strs»:=λk x t v h=>by
  rcases wx h with⟨i,u,rfl,e⟩|⟨y,u,rfl,e⟩
  ·exact nomatch e
  ·injection e with e1 _;subst e1;cases v<;>rfl
def IT(a:iJ)(w:jb)(i:Int)(t:Tok):(vO a w).is (.inl i) (.int i t)=true:=NH i t
def IU(a:iJ)(w:jb)(x:Str)(t:Tok):(vO a w).is (.inr x) (.str x t)=true:=NI x t
set_option genInjectivity true in
inductive V where
 | wP|bl (b:Bool)|int (i:Int)|str (x:Str)|My (b:Array UInt8)|W8 (b:UInt64)|ref (a:gV)|ty (n:String)
 deriving DecidableEq
def RelV:V->cr->Prop
 | .wP,u=>u=Value.none
 | .bl b,u=>u=rC b
 | .int i,u=>∃t,u=l8 i t
 | .str x,u=>∃t,u=Value.str x t
 | .My b,u=>∃t,u=Value.bytes b t
 | .W8 b,u=>∃t,u=sT b t
 | .ref a,u=>u=iq a
 | .ty n,u=>u=kj n
abbrev Vals:List V->List cr->Prop:=Paired RelV
def Vals.length{xs:List V}{us:List cr}(r:Vals xs us):xs.length=us.length:=Paired.length r
def Vals.get:∀{a:List V} {b:List cr} {i:Nat} {x:V},Vals a b->a[i]?=↑x->∃u,b[i]?=↑u/\RelV x u:=by
 intro _ _ i x z
 induction z generalizing i with
 |nil=>intro e;simp at e
 |cons r t c =>
  intro e
  cases i with
  |zero=>simp at e;subst e;exact#[_,rfl,r]
  |succ i=>exact e1a2 (c<|by simpa using e) λu d f=>#[u,by simpa using d,f]
def Vals.set(r:RelV x u):∀{a:List V} {b:List cr} (i:Nat),Vals a b->Vals (a.set i x) (b.set i u)
 |_,_,_,.nil=>.nil
 |_,_,0,.cons _ t=>.cons r t
 |_,_,i+1,.cons q t=>.cons q<|Vals.set r i t
def Vals.append:∀{a b:List V} {c d:List cr},Vals a c->Vals b d->Vals (a++b) (c++d):=by
 intro _ _ _ _ z s
 induction z with
 |nil=>exact s
 |cons h t e=>exact .cons h e
def Vals.take:∀{a:List V} {b:List cr} (n:Nat),Vals a b->Vals (a.take n) (b.take n)
 |_,_,0,_=>.nil
 |_,_,_+1,.nil=>.nil
 |_,_,n+1,.cons r t=>.cons r<|Vals.take n t
def Vals.drop:∀{a:List V} {b:List cr} (n:Nat),Vals a b->Vals (a.drop n) (b.drop n)
 |_,_,0,r=>r
 |_,_,_+1,.nil=>.nil
 |_,_,n+1,.cons _ t=>Vals.drop n t
def zB:Option V->Option cr->Prop
 |some v,some u=>RelV v u
 |none,none=>True
 |_,_=>False
def KV{a:Type}:List (a×V)->List (a×cr)->Prop:=Paired λ(p:a×V)(q:a×cr)=>p.1=q.1/\RelV p.2 q.2
noncomputable def kV:Key->V
 | .inl i=>.int i
 | .inr x=>.str x
inductive HO where
 | lst (xs:List V)
 | tup (xs:List V)
 | dK (xF:List (Key×V))|dT (xF:List (List Key×V))
 | set (S:Int->Bool) (n:Nat)
 | ins (C dx:gV) (fs:List (Str×V))
 | own (x:gV)
 | xd (fs:List (Str×V))
 | met (f x:gV)
 | yY (lo hi:Int)
 | Km (o:Obj) (u:HO)
 | FC (ps:Array cr)
 | ext (φ:iX->Prop)
abbrev Hp:=gV->Option HO
noncomputable def upd(H:Hp)(a:gV)(o:HO):Hp:=λb=>if b=a then some o else H b
def vh:upd H a o a=↑o:=by unfold upd;rw[gU rfl]
def ve(h:b≠a):upd H a o b=H b:=by unfold upd;rw[ci h]
def TX:upd (upd H a o) a u=upd H a u:=by funext b;unfold upd;split<;>rfl
def Zq{H:Hp}{a b:gV}{o u:HO}(h:H a=↑o)(c:H b=↑u)(d:o≠u):a≠b:=by intro e;subst e;rw[h]at c;exact d<|iY c
def vq{H:Hp}{a b:gV}{o:HO}(h:H a=↑o)(c:H b=none):a≠b:=by intro e;subst e;rw[h]at c;cases c
section
variable(P:iJ)(w:jb)
def wp(H:Hp)(h:iX)(a:gV):HO->Prop
 | .lst xs=>xs.length<=hJ/\∃(Ai:List cr)(n:Nat),Vals xs Ai/\h.get? a=some { cls:=.type "list",data:=.seq Ai.toArray n}
 | .tup xs=>xs.length<=hJ/\∃Ai:List cr,Vals xs Ai/\IsTup h a Ai.toArray
 | .dK xF=>xF.length<=hJ/\(a==lq)=false/\∃vs,KV xF vs/\h.DictOf (vO P w) a vs
 | .dT xF=>xF.length<=hJ/\(a==lq)=false/\∃xs:List (List Key×gV×cr),
   Paired (λ(p:List Key×V)(q:List Key×gV×cr)=>p.1=q.1/\H q.2.1=↑(.tup<|p.1.map kV)/\RelV p.2 q.2.2) xF xs /\
   ∃o es ep,h.get? a=↑o/\o.ExactDict/\o.data=.dict es ep/\es.toList=xs.map (entryOfKey<|pF<|vO P w)/\(xs.map (·.1)).Nodup
 | .set S n=>h.SetOf (kM P w) a S n
 | .ins C dx fs=>H dx=↑(.own a)/\fs.length<=1000/\dx≠a/\h.get? a=↑(kQ C dx) /\
   ∃mA,h.Ns1 dx mA/\(∀f,zB (fs.lookup f)<|mA f)/\sx mA (fs.map (·.1))
 | .own _=>∃o,h.get? a=↑o
 | .xd fs=>∃mA,h.Ns1 a mA/\∀f,zB (fs.lookup f)<|mA f
 | .yY lo hi=>∃t u v,h.get? a=some { cls:=.type "range",data:=.fields #v[.int lo t,.int hi u,.int 1 v]}
 | .Km o u=>h.get? a=↑o/\wp H h a u
 | .FC ps=>h.get? a=some { cls:=.none,data:=.fields ps}
 | .met f x=>h.get? a=↑(mH (.ref f)<|.ref x)
 | .ext φ=>φ h/\(∃o,h.get? a=↑o)/\∀h1 h2:iX,φ h1->(∀o,h1.get? a=↑o->h2.get? a=↑o)->φ h2
def yi(H:Hp)(h:iX):Prop:=∀a o,H a=↑o->wp P w H h a o
end
def wp.lt(x:wp P w H h a o):a<h.objs.size:=by
 cases o with
 |lst c=>obtain⟨_,_,_,_,e⟩:=x;exact hV e
 |tup c=>obtain⟨_,_,_,p⟩:=x;exact p.lt
 |dK b=>obtain⟨_,_,_,_,o,_,_,e,_⟩:=x;exact hV e
 |dT b=>obtain⟨_,_,_,_,o,_,_,e,_⟩:=x;exact hV e
 |set S n=>obtain⟨o,_,_,_,e,_⟩:=x;exact hV e
 |ins C d fs=>obtain⟨_,_,_,e,_⟩:=x;exact hV e
 |own y=>obtain⟨_,e⟩:=x;exact hV e
 |xd fs=>obtain⟨_,⟨_,_,_,e,_⟩,_⟩:=x;exact hV e
 |yY lo g=>obtain⟨_,_,_,e⟩:=x;exact hV e
 |Km i u=>obtain⟨e,_⟩:=x;exact hV e
 |FC j=>exact hV<|show h.get? a=some _ from x
 |met f y=>exact hV<|show h.get? a=some _ from x
 |ext k=>obtain⟨_,⟨_,e⟩,_⟩:=x;exact hV e
def Paired.W9:∀{c:List g} {d:List i},Paired F c d->(∀a b,F a b->G a b)->Paired G c d:=by
 intro _ _ z f
 induction z with
 |nil=>exact .nil
 |cons h t e=>exact .cons (f _ _ h) e
def wp.DB(x:wp P w H h a o)(k:∀b u,(b=a\/H b=↑(.own a))->h.get? b=↑u->F.get? b=↑u)
 (G:∀b,H b=↑(.own a)->D b=↑(.own a))(I:∀b m,H b=↑(.tup m)->D b=↑(.tup m)):wp P w D F a o:=by
  induction o with
  |lst m=>obtain⟨z,l,n,r,e⟩:=x;exact#[z,l,n,r,k _ _ (.inl rfl) e]
  |tup m=>obtain⟨z,l,r,g,e,c⟩:=x;exact#[z,l,r,g,k _ _ (.inl rfl) e,c]
  |dK s=>obtain⟨z,y,J,r,g,i,j,e,c⟩:=x;exact#[z,y,J,r,g,i,j,k _ _ (.inl rfl) e,c]
  |dT s =>
    obtain⟨z,y,m,r,g,i,j,e,c⟩:=x
    exact#[z,y,m,Paired.W9 r λp q z=>#[z.1,I _ _ z.2.1,z.2.2],g,i,j,k _ _ (.inl rfl) e,c]
  |set S n=>obtain⟨g,i,j,t,e,c⟩:=x;exact#[g,i,j,t,k _ _ (.inl rfl) e,c]
  |ins C Q fs =>
    obtain⟨d,z,L,e,A,⟨B,i,j,M,c⟩,r⟩:=x
    exact#[G _ d,z,L,k _ _ (.inl rfl) e,A,#[B,i,j,k _ _ (.inr d) M,c],r]
  |own y=>obtain⟨g,e⟩:=x;exact#[g,k _ _ (.inl rfl) e]
  |xd fs=>obtain⟨A,⟨B,i,j,e,c⟩,r⟩:=x;exact#[A,#[B,i,j,k _ _ (.inl rfl) e,c],r]
  |yY lo R=>obtain⟨t,u,v,e⟩:=x;exact#[t,u,v,k _ _ (.inl rfl) e]
  |Km g u N=>obtain⟨e,q⟩:=x;exact#[k _ _ (.inl rfl) e,N q]
  |FC O =>
    have e:h.get? a=some { cls:=.none,data:=.fields O}:=x
    exact k a _ (.inl rfl) e
  |met f y =>
    have e:h.get? a=↑(mH (.ref f)<|.ref y):=x
    exact k a _ (.inl rfl) e
  |ext T=>obtain⟨p,⟨o,e⟩,E⟩:=x;exact#[E _ _ p λo q=>k _ _ (.inl rfl) q,#[o,k _ _ (.inl rfl) e],E]
def yi.lt(x:yi P w H h)(e:H a=↑o):a<h.objs.size:=(x a o e).lt
def yi.fresh(x:yi P w H h)(e:h.objs.size<=a):H a=none:=by
 cases q:H a with
 |none=>rfl
 |some u=>exact ii (iu (x.lt q) e)<|j4 _
def yi.kept(x:yi P w H h)(k:∀b u,h.get? b=↑u->c.get? b=↑u):yi P w H c:=λa o e =>
 (x a o e).DB (λb u _ q=>k b u q) (λ_ q=>q) λ_ _ q=>q
def yi.laid(x:yi P w H h)(k:∀b u,h.get? b=↑u->h'.get? b=↑u)(i:h.objs.size<=a)(d:wp P w (upd H a o) h' a o):yi P w (upd H a o) h':=λb u e=>by
 have f:=x.fresh i;by_cases g:b=a
 ·subst g;rw[vh]at e;cases e;exact d
 ·rw[ve g]at e;exact(x b u e).DB (λc v _ q=>k c v q) (λc q=>by rw[ve<|vq q f];exact q) λc j q=>by rw[ve<|vq q f];exact q
def Rd(H:Hp)(a:gV)(u:HO):Prop:=H a=↑u\/∃o,H a=↑(.Km o u)
def Rd.of(h:H a=↑u):Rd H a u:=.inl h
def Rd.ok(r:Rd H a u)(x:yi P w H h):wp P w H h a u:=by
 rcases r with r|⟨o,r⟩
 ·exact x a u r
 ·obtain⟨_,q⟩:=x a _ r;exact q
def Zr:Option HO->Prop
 |some (.lst _)=>True
 |some (.dK _)=>True
 |some (.dT _)=>True
 |some (.set _ _)=>True
 |some (.ins _ _ _)=>True
 |some (.ext _)=>True
 |_=>False
def yi.write(t:yi P w H h)(g:Zr (H x))(o:e=x\/H e=↑(.own x))(k:∀b u,b≠e->h.get? b=↑u->h'.get? b=↑u)(m:∃u,h'.get? e=↑u)
 (n:wp P w (upd H x p) h' x p):yi P w (upd H x p) h':=λb u q=>by
  have d:∀c y,H c=↑(.own y)->c≠x:=λc y r z=>by subst z;rw[r]at g;exact g
  have f:∀c i,H c=↑(.tup i)->c≠x:=λc i r z=>by subst z;rw[r]at g;exact g
  by_cases j:b=x
  · subst j; rw[vh]at q; cases q; exact n
  · rw[ve j]at q
    by_cases a:b=e
    · have s : H b = some (.own x) := by
        rcases o with z|z
        · exact ii (a.trans z) j
        · rw[a]; exact z
      rw[q]at s;cases s
      obtain⟨v,A⟩:=m
      exact#[v,by rw[a];exact A]
    · refine(t b u q).DB (λc v l r => k c v ?_ r) (λc r => by rw[ve<|d c b r]; exact r) λc i r => by rw[ve<|f c i r]; exact r
      rcases l with rfl|l
      · exact a
      · rintro rfl
        rcases o with z|z
        · exact d c b l z
        · rw[l]at z; cases z; exact j rfl
structure Un(fs ex:List gV)(H H':Hp)(h h':iX):Prop where
 keep:∀b o,h.get? b=↑o->H b=none->b∉fs->b∉ex->h'.get? b=↑o
 slot:∀b o,h.get? b=↑o->H b=none->b∈fs->b∉ex->∃sl,h'.get? b=some { o with slots:=sl}
 free:∀b o,h.get? b=↑o->H b=none->b∉ex->H' b=none
 there:∀b o,h.get? b=↑o->b∉ex->∃o',h'.get? b=↑o'
 BL:∀b xs,H b=↑(.tup xs)->H' b=↑(.tup xs)
 Bv:∀b o u,H b=↑(.Km o u)->H' b=↑(.Km o u)
 Bw:∀b ps,H b=↑(.FC ps)->∃more,H' b=↑(.FC<|ps++more)
def Un.any(u:Un fs e H H1 h f)(q:h.get? b=↑a)(n:H b=none)(c:b∉e):∃g,f.get? b=some { a with slots:=g}:=by
 by_cases d:b∈fs
 ·exact u.slot b a q n d c
 ·exact#[a.slots,u.keep b a q n d c]
def Un.trans(a:Un fs ex H H1 h h1)(b:Un fs ex H1 H2 h1 h2):Un fs ex H H2 h h2 where
 keep:=λc ob q n hc hx=>b.keep c ob (a.keep c ob q n hc hx) (a.free c ob q n hx) hc hx
 slot:=λc ob q n hc hx=>by obtain⟨sl,e1⟩:=a.slot c ob q n hc hx;obtain⟨sl',e2⟩:=b.slot c _ e1 (a.free c ob q n hx) hc hx;exact#[sl',e2]
 free:=λc ob q n hx=>by obtain⟨o',e1⟩:=a.there c ob q hx;exact b.free c o' e1 (a.free c ob q n hx) hx
 there:=λc ob q hx=>by obtain⟨o',e1⟩:=a.there c ob q hx;exact b.there c o' e1 hx
 BL:=λc xs q=>b.BL c xs<|a.BL c xs q
 Bv:=λc ob xs q=>b.Bv c ob xs<|a.Bv c ob xs q
 Bw:=λc ps q=>by obtain⟨m1,e1⟩:=a.Bw c ps q;obtain⟨m2,e2⟩:=b.Bw c _ e1;exact#[m1++m2,by rw[e2,qj]]
def Un.kept(k:∀b u,h.get? b=↑u->c.get? b=↑u):Un fs d H H h c :=
 #[λb a q _ _ _=>k b a q,λb a q _ _ _=>#[a.slots,k b a q],λ_ _ _ n _=>n,λb a q _=>#[a,k b a q],λ_ _ q=>q,λ_ _ _ q=>q,λ_ e q=>#[#v[],by rw[q];simp]]
def Un.refl:Un fs a H H h h:=Un.kept λ_ _ q=>q
def Un.laid(k:∀b u,h.get? b=↑u->h'.get? b=↑u)(hp:h.objs.size<=a)(hn:H a=none):Un fs ex H (upd H a o) h h' where
 keep:=λb u q _ _ _=>k b u q
 slot:=λb u q _ _ _=>#[u.slots,k b u q]
 free:=λb u q n _=>by rw[ve<|ij<|iu (hV q) hp];exact n
 there:=λb u q _=>#[u,k b u q]
 BL:=λb xs q=>by rw[ve<|vq q hn];exact q
 Bv:=λb u xs q=>by rw[ve<|vq q hn];exact q
 Bw:=λb ps q=>#[#v[],by rw[ve<|vq q hn,q];simp]
def Un.write(c:Zr (H x))(j:e=x\/H e=↑(.own x))(k:∀b u,b≠e->h.get? b=↑u->h'.get? b=↑u)(d:∃u,h'.get? e=↑u):Un fs p H (upd H x o) h h':=by
 have g:∀b,H b=none->b≠x:=λb n z=>by subst z;rw[n]at c;exact c
 have i:∀b,H b=none->b≠e:=λb n z=>by
  subst z;rcases j with r|r
  ·exact g b n r
  ·rw[n]at r;cases r
 have f:∀b u,H b=↑u->¬Zr ↑u->b≠x:=λb u q l z=>by subst z;rw[q]at c;exact l c
 refine#[λb u q n _ _=>k b u (i b n) q,λb u q n _ _=>#[u.slots,k b u (i b n) q],λb u q n _=>by rw[ve (g b n)];exact n,λb u q _=>?_,
  λb m q=>by rw[ve (f b _ q λz=>z)];exact q,λb u m q=>by rw[ve (f b _ q λz=>z)];exact q,λb s q=>#[#v[],by rw[ve (f b _ q λz=>z),q];simp]]
 by_cases a:b=e
 ·subst a;exact d
 ·exact#[u,k b u a q]
noncomputable def trk(h:iX)(H:Hp):List gV:=(iA h.objs.size).filter λa=>(H a).isSome
noncomputable def IV(h:iX)(H:Hp):iX:=mq h<|trk h H
def NJ(h:iX)(H:Hp):(IV h H).objs.size=h.objs.size:=PySem.W.hideAll_size _ _
def Ea{h:iX}(e:h.get? b=↑o)(n:H b=none):(IV h H).get? b=↑o :=
 pG _ e λa=>by have q:(H b).isSome=true:=(List.mem_filter.mp a).2;rw[n]at q;simp at q
def TY(e:(IV h H).get? b=↑o):h.get? b=↑o/\H b=none:=by
 have a:h.get? b=↑o:=nM (trk h H) e;refine#[a,?_]
 cases q:H b with
 |none=>rfl
 |some x =>
  have c:b∈trk h H:=List.mem_filter.mpr #[List.mem_range.mpr<|hV a,by simp[q]];have z:(IV h H).get? b=none:=sA (trk h H) c;rw[z]at e;cases e
noncomputable def TZ(g h:iX)(L:gV):List (gV×Obj):=(iA h.objs.size).filterMap λa=>if a=L\/(g.get? a).isSome=true then none else (h.get? a).map λo=>(a,o)
noncomputable def rest(g h:iX)(L d:gV):List (gV×Obj):=(TZ g h L).filter λp=>decide<|p.1≠d
structure Mod(K:gW)(mg:Str->Option cr)(base:iX):Prop where
 BK:K.In base
 glob:base.Ns il mg
 blt:∃mb,base.Ns oM mb/\∀x:Str,x≠"__name__"->mb x=nc x
 nolimit:base.NoLimit
structure Cx where
 prog:iJ
 w:jb
 K:gW
 mg:Str->Option cr
 base:iX
 A:jF
 N:List Str
 s₀:hR
 H₀:Hp
 env:Env
 outer:List Env
 stack:List Env
 ex:List gV
 fn:Str->Bool
 calm:Bool
 pn:List (gV×Obj)
 xe:cr->hR->Prop
noncomputable def zy(l:List Env):List gV:=l.filterMap (·.frame)
noncomputable abbrev Cx.fs(X:Cx):List gV:=zy X.outer
def Vis(a:my)(x:Str):Prop:=a.names.lookup x=some .local\/a.names.lookup x=some .cell\/a.names.lookup x=some .free
def Loc(a:my)(x:Str):Prop:=a.names.lookup x=some .local\/a.names.lookup x=some .cell
def Look(a:Env)(h:iX)(m:Str->Option cr)(x:Str)(u:cr):Prop :=
 (a.kindOf x=some .local/\m x=↑u)\/((a.kindOf x=some .cell\/a.kindOf x=some .free)/\∃c,a.cells.lookup x=↑c/\h.IsCell c ↑u)
structure Cx.Ok(X:Cx):Prop where
 mod:Mod X.K X.mg X.base
 kind:X.env.scope.kind=.function
 glob:X.env.globals=il
 blt:X.env.builtins=oM
 above:X.s₀.heap.objs.size<=X.env.locals
 inj:∀x y c,X.env.cells.lookup x=↑c->X.env.cells.lookup y=↑c->x=y
 has:∀x,(X.env.kindOf x=some .cell\/X.env.kindOf x=some .free)->∃c,X.env.cells.lookup x=↑c
 Pd:∀x c,X.fn x=true->X.env.cells.lookup x=↑c->X.s₀.heap.objs.size<=c
 hd:X.calm=true->X.A.handled=none
 frames:X.A.frames=↑X.stack
 CG:X.stack=X.outer\/(X.stack=X.env::X.outer/\X.env.frame=↑X.env.locals)
 T0:∀b∈X.ex,b≠X.env.locals/\∀x c,X.env.cells.lookup x=↑c->c≠b
 bs:∀b o,X.base.get? b=↑o->X.s₀.heap.get? b=↑o/\X.H₀ b=none
 IY:X.base.objs.size<=X.s₀.heap.objs.size
 DC:∀b o,X.base.get? b=↑o->b∉X.ex
 Eb:∀b∈X.ex,b∉X.fs
 yT:X.s₀.heap.FunFrames X.base X.outer
 Ki:∀b∈X.fs,X.H₀ b=none
structure Inv(X:Cx)(pins:List (gV×Obj))(σ:List (Option V))(H:Hp)(s:hR):Prop where
 ok:X.Ok
 os:s.os=X.s₀.os
 bare:nQ s.gens
 base:Un X.fs X.ex X.H₀ H X.s₀.heap s.heap
 loc:∃m,s.heap.Ns X.env.locals m/\∀(i:Nat)(x:Str)(v:V),X.N[i]?=↑x->σ[i]?=↑(some v)->Vis X.env.scope x->∃u,RelV v u/\Look X.env s.heap m x u
 cell:∀x c,X.env.cells.lookup x=↑c->∃v,s.heap.IsCell c v
 free:H X.env.locals=none
 yC:∀x c,X.env.cells.lookup x=↑c->H c=none
 pin:∀p∈X.pn++pins,s.heap.get? p.1=↑p.2/\H p.1=none/\p.1≠X.env.locals/\p.1∉X.fs/\∀v,p.2.data≠.cell v
 vW:yi X.prog X.w H s.heap
 len:σ.length=X.N.length
section
variable{X:Cx}{pins:List (gV×Obj)}{σ:List (Option V)}{H H':Hp}{s:hR}
def Cx.Ok.a1A(a:X.Ok)(e:X.base.get? b=↑o):b∉X.fs:=λc=>by have:=(a.yT.mem c).1;rw[e]at this;cases this
def Inv.bs(I:Inv X pins σ H s):∀b o,X.base.get? b=↑o->s.heap.get? b=↑o/\H b=none:=λb o e =>
 #[I.base.keep b o (I.ok.bs b o e).1 (I.ok.bs b o e).2 (I.ok.a1A e)<|I.ok.DC b o e,I.base.free b o (I.ok.bs b o e).1 (I.ok.bs b o e).2<|I.ok.DC b o e]
def Inv.bk(I:Inv X pins σ H s):∀b o,X.base.get? b=↑o->s.heap.get? b=↑o:=λb o e=>(I.bs b o e).1
def Inv.mod(I:Inv X pins σ H s):Mod X.K X.mg X.base:=I.ok.mod
def Inv.yZ(I:Inv X pins σ H s):X.K.In s.heap:=I.ok.mod.BK.keeps I.bk
def Inv.nolimit(I:Inv X pins σ H s):s.heap.NoLimit:=I.ok.mod.nolimit.keeps I.bk
def Inv.lt(I:Inv X pins σ H s):X.env.locals<⇑s:=e1a2 I.loc λ_ a _=> a.lt
def Inv.sz(I:Inv X pins σ H s):X.s₀.heap.objs.size<=⇑s:=iK I.ok.above<|mj I.lt
def Inv.a1B(I:Inv X pins σ H s)(h:⇑s<=a):a∉X.fs:=λb=>by obtain⟨_,o,c,_⟩:=I.ok.yT.mem b;exact ii (iu (hV c)<|iK I.sz h)<|j4 _
def Inv.cne(I:Inv X pins σ H s):∀x c,X.env.cells.lookup x=↑c->c≠X.env.locals:=λx c e z=>by refine e2a2 (I.cell x c e) λv o d f=>?_;obtain⟨m,⟨g,h,i,a,b,_⟩,_⟩:=I.loc;rw[z,a]at d;cases d;rw[b]at f;cases f
def Inv.yT(I:Inv X pins σ H s):s.heap.FunFrames X.base X.outer:=by
 have a:∀(l:List Env),(∀b∈zy l,b∈X.fs)->X.s₀.heap.FunFrames X.base l->s.heap.FunFrames X.base l:=by
  intro l
  induction l with
  |nil=>intro _ _;trivial
  |cons h r i =>
   intro g j;obtain⟨k,⟨L,o,c,m,n,p⟩,q⟩:=j;have d:L∈X.fs:=g L (by unfold zy;rw[kZ,c];exact gY);obtain⟨t,e⟩:=I.base.slot L o n (I.ok.Ki L d) d λz=>I.ok.Eb L z d;exact#[k,#[L,_,c,m,e,p],i (λb f=>g b<|by unfold zy;rw[kZ,c];exact hI _ f) q]
 exact a X.outer (λ_ f=>f) I.ok.yT
def Inv.stack(I:Inv X pins σ H s):s.heap.FunFrames X.base X.stack:=by
 rcases I.ok.CG with e|⟨e,a⟩
 ·rw[e];exact I.yT
 ·rw[e];refine e1a2 I.loc λm b _=>?_;refine .cons (by rw[I.ok.kind];decide) a b ?_ I.yT;exact nA<|iK I.ok.IY I.ok.above
def Inv.Ec(I:Inv X pins σ H s):∀b∈zy X.stack,b∈X.env.locals::X.fs:=λb a=>by
 rcases I.ok.CG with e|⟨e,c⟩
 ·rw[e]at a;exact hI _ a
 ·rw[e]at a;unfold zy at a;rw[kZ,c]at a;exact a
def Inv.Mz(I:Inv X pins σ H s):∀b∈zy X.stack,H b=none:=λb a=>by
 rcases List.mem_cons.mp (I.Ec b a) with e|a
 ·rw[e];exact I.free
 ·obtain⟨_,o,c,_⟩:=I.ok.yT.mem a;exact I.base.free b o c (I.ok.Ki b a) λz=>I.ok.Eb b z a
def Inv.step{g':Array pH}{t':Nat}{ch:List gV}(I:Inv X pins σ H s)
 (g:∀b∈ch,(b∈X.ex\/X.s₀.heap.objs.size<=b)/\b≠X.env.locals/\(∀x c,X.env.cells.lookup x=↑c->c≠b)/\∀p∈X.pn++pins,p.1≠b)
 (h:∀b o,b≠X.env.locals->b∉X.fs->b∉ch->s.heap.get? b=↑o->H b=none->h'.get? b=↑o)
 (B:∀b o,b≠X.env.locals->b∈X.fs->b∉ch->s.heap.get? b=↑o->H b=none->∃R,h'.get? b=some { o with slots:=R}) (f:∀b o,b∉ch->s.heap.get? b=↑o->H b=none->H' b=none)
 (D:∀b o,b∉ch->s.heap.get? b=↑o->∃G,h'.get? b=↑G)
 (J:∀b C,H b=↑(.tup C)->H' b=↑(.tup C)) (L:∀b o u,H b=↑(.Km o u)->H' b=↑(.Km o u)) (M:∀b Q,H b=↑(.FC Q)->∃N,H' b=↑(.FC<|Q++N))
 (ns:∀m,s.heap.Ns X.env.locals m->h'.Ns X.env.locals m) (S:yi X.prog X.w H' h') (hg:nQ g') :
    Inv X pins σ H' { s with heap:=h',gens:=g',drawn:=d',toks:=t'}:=by
  have O:∀b o,X.s₀.heap.get? b=↑o->b≠X.env.locals:=λb o e=>ij<|iu (hV e) I.ok.above
  have y:∀b o,X.s₀.heap.get? b=↑o->b∉X.ex->b∉ch:=λb o e a E=>by
    rcases(g b E).1 with z|z
    · exact a z
    · exact ii (iu (hV e) z)<|j4 _
  have j:∀x c,X.env.cells.lookup x=↑c->∀v,s.heap.IsCell c v->h'.IsCell c v:=λx c e v z9=>e1a2 z9 λo F T=>by
    have t:c∉ch:=λz=>(g c z).2.2.1 x c e rfl
    by_cases W:c∈X.fs
    · obtain⟨R, q⟩ := B c o (I.cne x c e) W t F (I.yC x c e)
      exact#[_,q,T]
    · exact#[o, h c o (I.cne x c e) W t F<|I.yC x c e, T]
  refine#[I.ok,I.os,hg,#[λb o e n E a=>?_,λb o e n E a=>?_,λb o e n a=>?_,λb o e a=>?_,λb C e=>J b C<|I.base.BL b C e,λb o C e=>L b o C<|I.base.Bv b o C e,λb Q e=>?_],?_,λx c e=>?_,?_,λx c e=>?_,λp Y=>?_,S,I.len]
  · exact h b o (O b o e) E (y b o e a) (I.base.keep b o e n E a)<|I.base.free b o e n a
  · obtain⟨R, A⟩ := I.base.slot b o e n E a
    obtain⟨U,P⟩:=B b _ (O b o e) E (y b o e a) A<|I.base.free b o e n a
    exact#[U,P]
  · obtain⟨G, A⟩ := I.base.there b o e a
    exact f b G (y b o e a) A<|I.base.free b o e n a
  · obtain⟨G, A⟩ := I.base.there b o e a
    exact D b G (y b o e a) A
  · obtain⟨m1, A⟩ := I.base.Bw b Q e
    obtain⟨m2,P⟩:=M b _ A
    exact#[m1++m2,by rw[P,qj]]
  · refine e1a2 I.loc λm hn hl => ?_
    refine#[m,ns m hn,λi x v A P e3=>?_]
    refine e1a2 (hl i x v A P e3) λu r l=>?_
    refine#[u,r,?_]
    rcases l with l|⟨k,c,e,z⟩
    · exact .inl l
    · exact .inr #[k, c, e, j x c e _ z]
  · obtain⟨v, z⟩ := I.cell x c e
    exact#[v,j x c e v z]
  · obtain⟨m, ⟨o, _, _, F, _⟩, _⟩ := I.loc
    exact f _ o (λz=>(g _ z).2.1 rfl) F I.free
  · refine e2a2 (I.cell x c e) λv o F T => ?_
    exact f c o (λz=>(g c z).2.2.1 x c e rfl) F<|I.yC x c e
  · obtain⟨e, n, Z, nf, d⟩ := I.pin p Y
    have t:p.1∉ch:=λz=>(g p.1 z).2.2.2 p Y rfl
    exact#[h p.1 p.2 Z nf t e n,f p.1 p.2 t e n,Z,nf,d]
def Inv.un{t':Nat}(I:Inv X pins σ H s)(u:Un X.fs [] H H' s.heap h')(c:yi X.prog X.w H' h'):Inv X pins σ H' { s with heap:=h',toks:=t'}:=by
 obtain⟨m,⟨o,l,p,h,r⟩,_⟩:=id I.loc;obtain⟨q,i⟩:=u.any h I.free q0o
 exact I.step (g':=s.gens) (d':=s.drawn) (ch:=[]) (λ_ z=>nomatch z) (λb o _ d _ e n=>u.keep b o e n d q0o) (λb o _ d _ e n=>u.slot b o e n d q0o) (λb o _ e n=>u.free b o e n q0o) (λb o _ e=>u.there b o e q0o) u.BL u.Bv u.Bw (λt j=>by
  refine e3a2 j λv f g a k=>?_;rw[h]at a;cases a
  exact#[_,f,g,i,k]) c I.bare
def Inv.call{g':Array pH}{t':Nat}{ch:List gV}(I:Inv X pins σ H s)(u:Un (zy X.stack) ch H H' s.heap h')(g:yi X.prog X.w H' h')(l:nQ g')
 (d:∀b∈ch,(b∈X.ex\/X.s₀.heap.objs.size<=b)/\b≠X.env.locals/\(∀x c,X.env.cells.lookup x=↑c->c≠b)/\∀p∈X.pn++pins,p.1≠b) :
    Inv X pins σ H' { s with heap:=h',gens:=g',drawn:=d',toks:=t'}:=by
  obtain⟨m,⟨o,y,A,k,r⟩,_⟩:=id I.loc
  obtain⟨B,h⟩:=u.any k I.free λz=>(d _ z).2.1 rfl
  exact I.step (ch:=ch) d (λb o h q a e n=>u.keep b o e n (λz=>(List.mem_cons.mp (I.Ec b z)).elim h q) a) (λb o _ _ a e n=>u.any e n a) (λb o a e n=>u.free b o e n a) (λb o a e=>u.there b o e a) u.BL u.Bv u.Bw (λC t=>by
    refine e3a2 t λD i j f v=>?_
    rw[k]at f;cases f
    exact#[_,i,j,h,v]) g l
def Inv.turned{t':Nat}(I:Inv X pins σ H s)(k:∀b o,b≠a->s.heap.get? b=↑o->h.get? b=↑o)(i:H a=none)(g:a≠X.env.locals)
 (j:a∈X.ex\/X.s₀.heap.objs.size<=a)(l:∀x c,X.env.cells.lookup x=↑c->c≠a)(t:∀p∈X.pn++pins,p.1≠a):Inv X pins σ H { s with heap:=h,toks:=t'}:=by
  have f:∀b u,H b=↑u->b≠a:=λb u e z=>by rw[z,i]at e;cases e
  refine I.step (g':=s.gens) (d':=s.drawn) (ch:=[a]) (λb w=>?_) (λb o _ _ d e _=>k b o (λz=>d<|by simp[z]) e) (λb o _ _ d e _=>#[o.slots,k b o (λz=>d<|by simp[z]) e]) (λ_ _ _ _ n=>n)
    (λb o d e=>#[o,k b o (λz=>d<|by simp[z]) e]) (λ_ _ e=>e) (λ_ _ _ e=>e) (λb D e=>#[#v[],by rw[e];simp]) (λm y=>?_) (λb u e=>?_) I.bare
  · have e : b = a := by simpa using w
    subst e
    exact#[j,g,l,t]
  · refine e3a2 y λo A B C r => ?_
    exact#[o,A,B,k _ o (Ne.symm g) C,r]
  · refine(I.vW b u e).DB (λc v d q => k c v ?_ q) (λ_ q => q) λ_ _ q => q
    rcases d with z|z
    · rw[z]; exact f b u e
    · exact f c _ z
def Inv.tok(I:Inv X pins σ H s)(t:Nat):Inv X pins σ H { s with toks:=t}:=I.un (h':=s.heap) (t':=t) Un.refl I.vW
def Inv.kept{t':Nat}(I:Inv X pins σ H s)(k:∀b u,s.heap.get? b=↑u->a.get? b=↑u):Inv X pins σ H { s with heap:=a,toks:=t'}:=I.un (Un.kept k)<|I.vW.kept k
def Inv.laid{t':Nat}(I:Inv X pins σ H s)(k:∀b u,s.heap.get? b=↑u->h'.get? b=↑u)(c:⇑s<=a)(d:wp X.prog X.w (upd H a o) h' a o) :
  Inv X pins σ (upd H a o) { s with heap:=h',toks:=t'}:=I.un (Un.laid k c<|I.vW.fresh c)<|I.vW.laid k c d
def Inv.write{t':Nat}(I:Inv X pins σ H s)(d:Zr (H x))(f:e=x\/H e=↑(.own x))(k:∀b u,b≠e->s.heap.get? b=↑u->h'.get? b=↑u)(a:∃u,h'.get? e=↑u)
 (c:wp X.prog X.w (upd H x o) h' x o):Inv X pins σ (upd H x o) { s with heap:=h',toks:=t'}:=I.un (Un.write d f k a)<|I.vW.write d f k a c
def Inv.zC(I:Inv X pins σ H s)(h:∀p∈pins',s.heap.get? p.1=↑p.2/\H p.1=none/\p.1≠X.env.locals/\p.1∉X.fs/\∀v,p.2.data≠.cell v):Inv X pins' σ H s :=
 #[I.ok,I.os,I.bare,I.base,I.loc,I.cell,I.free,I.yC,λp a=>(List.mem_append.mp a).elim (λz=>I.pin p<|ji _ z)<|h p,I.vW,I.len]
def IZ{N:List Str}(c:N.Nodup){i j:Nat}(a:N[i]?=↑x)(b:N[j]?=↑x):i=j:=by obtain⟨f,d⟩:=List.getElem?_eq_some_iff.mp a;obtain⟨g,e⟩:=List.getElem?_eq_some_iff.mp b;exact(List.getElem_inj c).mp<|d.trans e.symm
def F7{E:cr->hR->Prop}{i:Nat}{Q:Unit->hR->Prop}(I:Inv X pins σ H s)(hN:X.N.Nodup)(S:X.N[i]?=↑x)(B:Loc X.env.scope x)(r:RelV v u)
 (h:∀s',Inv X pins (σ.set i<|↑v) H s'->(∃a,jg a s.heap s'.heap/\(a=X.env.locals\/X.env.cells.lookup x=↑a))->Q () s')(hf:X.fn x=true\/X.env.scope.names.lookup x=some .local:=by first|exact .inl rfl|exact .inr rfl|assumption):hX M A (storeName X.env x u) Q E s:=by
  refine e1a2 (id I.loc) λm hn hl=>?_
  have T:(X.env.scope.kind==.class||(X.env.scope.kind==.module&&X.env.locals != X.env.globals))=false:=by rw[I.ok.kind];rfl
  have F:i<σ.length:=by rw[I.len];exact(List.getElem?_eq_some_iff.mp S).1
  have J:=I.cne
  have g:∀{a:gV} {R:iX},(∃o,s.heap.get? a=↑o/\H a=none)->jg a s.heap R->yi X.prog X.w H R:=λ{a R} ha f b ob e=>by
    refine e1a2 ha λ_ _ C=>?_
    refine(I.vW b ob e).DB (λc w' t q=>(f.2 c ?_).trans q) (λ_ q=>q) λ_ _ q=>q
    rintro rfl
    rcases t with rfl|t
    · rw[C]at e; cases e
    · rw[C]at t; cases t
  rcases B with G|G
  · refine wpAny_storeName_local G hn (λR aa f => ?_) T
    refine e3a2 (id hn) λoL _ _ ab _=>?_
    refine h _ #[I.ok,I.os,I.bare,#[λb o e n L B=>?_,λb o e n L B=>?_,I.base.free,λb o e B=>?_,I.base.BL,I.base.Bv,I.base.Bw],#[_,aa,λj y v' l D e3=>?_],λy c e=>?_,I.free,I.yC,λp hp=>?_,g #[oL,ab,I.free] f,by simpa using I.len] #[_,f,.inl rfl]
    · exact(f.2 b<|ij<|iu (hV e) I.ok.above).trans<|I.base.keep b o e n L B
    · obtain⟨sl, l⟩ := I.base.slot b o e n L B
      exact#[sl,(f.2 b<|ij<|iu (hV e) I.ok.above).trans l]
    · obtain⟨o', l⟩ := I.base.there b o e B
      exact#[o',(f.2 b<|ij<|iu (hV e) I.ok.above).trans l]
    · by_cases O : j = i
      · subst O
        rw[S]at l;cases l
        rw[o7 F]at D
        cases D
        exact#[u,r,.inl #[G,q0o]]
      · rw[nC<|Ne.symm O]at D
        refine e1a2 (hl j y v' l D e3) λu' r' q=>?_
        refine#[u',r',?_]
        rcases q with⟨k,e⟩|⟨k,c,e,z⟩
        · refine .inl #[k, ?_]
          have:y≠x:=λe=>O<|IZ hN l<|e▸S
          simp[this,e]
        · exact .inr #[k, c, e, z.sameBut f<|J y c e]
    · obtain⟨w', z⟩ := I.cell y c e
      exact#[w',z.sameBut f<|J y c e]
    · obtain⟨e, n, ne, nf, d⟩ := I.pin p hp
      exact#[(f.2 p.1 ne).trans e,n,ne,nf,d]
  · have P : X.fn x = true := by
      rcases hf with z|z
      · exact z
      · rw[z]at G; cases G
    obtain⟨c,t⟩:=I.ok.has x<|.inl G
    obtain⟨w',z⟩:=I.cell x c t
    refine wpAny_storeName_cell I.ok.kind G t z<|λR U f=>?_
    refine e1a2 (id z) λoc W Y=>?_
    refine h { s with heap:=R} #[I.ok,I.os,I.bare,#[λb o e n L B=>?_,λb o e n L B=>?_,I.base.free,λb o e B=>?_,I.base.BL,I.base.Bv,I.base.Bw],#[m,hn.sameBut f<|Ne.symm<|J x c t,λj y v' l D e3=>?_],λy c' e=>?_,I.free,I.yC,λp hp=>?_,g #[oc,W,I.yC x c t] f,by simpa using I.len] #[c,f,.inr t]
    · exact(f.2 b<|ij<|iu (hV e)<|I.ok.Pd x c P t).trans<|I.base.keep b o e n L B
    · obtain⟨sl, l⟩ := I.base.slot b o e n L B
      exact#[sl,(f.2 b<|ij<|iu (hV e)<|I.ok.Pd x c P t).trans l]
    · obtain⟨o', l⟩ := I.base.there b o e B
      exact#[o',(f.2 b<|ij<|iu (hV e)<|I.ok.Pd x c P t).trans l]
    · by_cases O : j = i
      · subst O
        rw[S]at l;cases l
        rw[o7 F]at D
        cases D
        exact#[u,r,.inr #[.inl G,c,t,U]]
      · rw[nC<|Ne.symm O]at D
        refine e1a2 (hl j y v' l D e3) λu' r' q=>?_
        refine#[u',r',?_]
        rcases q with q|⟨k,c',e,z'⟩
        · exact .inl q
        · refine .inr #[k, c', e, z'.sameBut f ?_]
          rintro rfl
          exact O<|IZ hN l<|I.ok.inj _ _ _ e t▸S
    · by_cases Z : c' = c
      · subst Z; exact#[_, U]
      · obtain⟨w2, z2⟩ := I.cell y c' e
        exact#[w2,z2.sameBut f Z]
    · obtain⟨e, n, ne, nf, d⟩ := I.pin p hp
      refine#[(f.2 p.1 ?_).trans e,n,ne,nf,d]
      intro q
      rw[q,W]at e
      have q':oc=p.2:=iY e
      exact d w' (by rw[<- q'];exact Y)
def I0{i:Nat}(I:Inv X pins σ H s)(b:X.N.Nodup)(c:X.N[i]?=↑x)(d:Loc X.env.scope x)(r:RelV v u)
 (h:∀a,Inv X pins (σ.set i<|↑v) H a->Q () a)(e:X.fn x=true\/X.env.scope.names.lookup x=some .local:=by first|exact .inl rfl|exact .inr rfl|assumption):hX M A (storeName X.env x u) Q E s :=
  F7 I b c d r (λa f _=>h a f) e
def Inv.Wr{a:hR}(I:Inv X pins σ H s)(g:a.os=s.os)(u:Un (zy X.stack) ch H H' s.heap a.heap)(d:yi X.prog X.w H' a.heap)(h:nQ a.gens)
 (f:∀b∈ch,(b∈X.ex\/X.s₀.heap.objs.size<=b)/\b≠X.env.locals/\(∀x c,X.env.cells.lookup x=↑c->c≠b)/\∀p∈X.pn++pins,p.1≠b):Inv X pins σ H' a:=by
  obtain⟨m,i,j,k,l⟩:=a
  have e:l=s.os:=g
  subst e
  exact I.call (g':=i) (t':=k) (d':=j) u d h f
end
abbrev XK:=cr->Option gV->Hp->Prop
abbrev St:=List<|Option V
abbrev VK:=V->Hp->Prop
abbrev TE:=St->Hp->VK->Prop
abbrev TT:=St->Hp->(Bool->Hp->Prop)->Prop
abbrev TA:=St->Hp->(List V->Hp->Prop)->Prop
structure Ends where
 nx:St->Hp->Prop
 rt:VK
 bk:St->Hp->Prop:=λ_ _=>False
 ct:St->Hp->Prop:=λ_ _=>False
abbrev TS:=Ends->St->Hp->Prop
def EP(X:Cx)(a:List (gV×Obj))(c:St)(Q:VK)(u:cr)(d:hR):Prop:=∃v b,Inv X a c b d/\RelV v u/\Q v b
def TP(X:Cx)(a:List (gV×Obj))(d:St)(Q:Bool->Hp->Prop)(b:Bool)(e:hR):Prop:=∃c,Inv X a d c e/\Q b c
def AP(X:Cx)(a:List (gV×Obj))(d:St)(Q:List V->Hp->Prop)(e:List cr)(f:hR):Prop:=∃b c,Inv X a d c f/\Vals b e/\Q b c
def SP(X:Cx)(b:List (gV×Obj))(D:Ends)(f:Flow)(d:hR):Prop :=
 match f with
 | .next=>∃a c,Inv X b a c d/\D.nx a c
 | .brk=>∃a c,Inv X b a c d/\D.bk a c
 | .cont=>∃a c,Inv X b a c d/\D.ct a c
 | .ret u=>∃v a c,Inv X b a c d/\RelV v u/\D.rt v c
def PE(X:Cx)(e:iT)(t:TE):Prop :=
 ∀(a:List (gV×Obj)) (s:hR) (b:St) (H:Hp) (Q:VK),Inv X a b H s->t b H Q->hX 28 X.A (eval e X.env) (EP X a b Q) X.xe s
def PT(X:Cx)(e:iT)(t:TT):Prop :=
 ∀(a:List (gV×Obj)) (s:hR) (b:St) (H:Hp) (Q:Bool->Hp->Prop),Inv X a b H s->t b H Q->hX 28 X.A (qW e X.env<|eval e X.env) (TP X a b Q) X.xe s
def PW(X:Cx)(e:iT)(t:TT):Prop :=
 ∀(b:Sem cr) (a:List (gV×Obj)) (s:hR) (c:St) (H:Hp) (Q:Bool->Hp->Prop),Inv X a c H s->t c H Q->hX 28 X.A (qW e X.env b) (TP X a c Q) X.xe s
def PW.pt(h:PW X e t):PT X e t:=h _
def PA(X:Cx)(d:List iT)(t:TA):Prop :=
 ∀(b:Pos) (a:List (gV×Obj)) (s:hR) (c:St) (H:Hp) (Q:List V->Hp->Prop),Inv X a c H s->t c H Q->hX 28 X.A (uD<|jx b<|gX d X.env) (AP X a c Q) X.xe s
def PS(X:Cx)(c:iB)(t:TS):Prop :=
 ∀(a:List (gV×Obj)) (s:hR) (b:St) (H:Hp) (D:Ends),Inv X a b H s->t D b H->hX 28 X.A (exec c X.env) (SP X a D) X.xe s
def FF(X:Cx)(c:List iB)(t:TS):Prop :=
 ∀(a:List (gV×Obj)) (s:hR) (b:St) (H:Hp) (D:Ends),Inv X a b H s->t D b H->hX 28 X.A (execs c X.env) (SP X a D) X.xe s
def vU{b:Type}{t:Sem b}{Q c:b->hR->Prop}{M:Model}{A:jF}{E:cr->hR->Prop}{s:hR}(h:hX M A t Q E s)(d:∀a s,Q a s->c a s):hX M A t c E s:=jm h d λ_ _ x=>x
section
variable{X:Cx}
def vQ(i:Nat):TE:=λa H Q=>∃v,a[i]?=↑(some v)/\Q v H
def tC(v:V):TE:=λ_ H Q=>Q v H
def Ko{i:Nat}(n:X.N[i]?=↑x)(o:Vis X.env.scope x)(g:(x==66)=false:=by decide)(j:(x==("__classdict__":Str))=false:=by decide):PE X 97 (vQ i):=by
 intro f s p H Q I h;refine e1a2 h λv e h=>?_;refine e1a2 I.loc λm q t=>?_;refine e1a2 (t i x v n e o) λu r l=>?_;have b:EP X f p Q u s:=#[v,H,I,r,h];rcases l with⟨d,w⟩|⟨d,c,k,a⟩
 ·exact pV (k8 I.ok.kind d q w b) g
 ·rcases d with d|d
  ·exact pV (wpAny_loadName_cell I.ok.kind d k a b) g
  ·exact pV (qI I.ok.kind d k a b j) g
def vH{i j pos}:PE X (.Constant (.int i) j pos) (tC<|.int i):=λ_ _ _ H _ I h=>wpAny_Constant_int #[.int i,H,I.tok _,#[_,rfl],h]
def Zs{b j pos}:PE X (.Constant (.bool b) j pos) (tC<|.bl b):=λ_ _ _ H _ I h=>Constant_bool #[.bl b,H,I,rfl,h]
def Kq{j pos}:PE X (.Constant .none j pos) (tC .wP):=λ_ _ _ H _ I h=>Constant_none #[.wP,H,I,rfl,h]
def GN{x j pos}:PE X (.Constant (.str x) j pos) (tC<|.str x):=λ_ _ _ H _ I h=>Calls.Constant_str #[.str x,H,I.tok _,#[_,rfl],h]
def Gl(X:Cx)(x:Str):Prop:=X.env.kindOf x=some .globalImplicit
def zD(I:Inv X a e H s)(b:Gl X x)(c:X.mg x=↑u)(h:Q u s)
 (d:(x==66)=false:=by decide):hX 28 X.A (eval 97 X.env) Q E s :=
  rD I.ok.kind b (Calls.loadGlobal_global (by rw[I.ok.glob];exact I.mod.glob.keeps I.bk) c h) d
def zF(I:Inv X a j H s)(b:Gl X x)(c:X.mg x=none)(d:nc x=↑u)(h:Q u s)
 (e:x≠"__name__":=by decide)(f:(x==66)=false:=by decide):hX 28 X.A (eval 97 X.env) Q E s:=by
  refine e1a2 I.mod.blt λk g i=>?_
  exact rD I.ok.kind b (oy (by rw[I.ok.glob];exact I.mod.glob.keeps I.bk) c (by rw[I.ok.blt];exact g.keeps I.bk) ((i x e).trans d) h) f
def T1(a:Gl X x)(b:X.mg x=↑u)(r:RelV v u)(c:(x==66)=false:=by decide):PE X 97 (tC v) :=
 λ_ _ _ H _ I h=>zD I a b #[v,H,I,r,h] c
def AV(a:Gl X x)(b:X.mg x=none)(c:nc x=↑u)(r:RelV v u)(d:x≠"__name__":=by decide)(e:(x==66)=false:=by decide):PE X 97 (tC v) :=
 λ_ _ _ H _ I h=>zF I a b c #[v,H,I,r,h] d e
variable{a b:iT}{ta tb:TE}{pos:Pos}
def PC(X:Cx)(g:qT)(a b:iT)(t:TE):Prop :=
 ∀(c:List (gV×Obj)) (s:hR) (f:St) (H:Hp) (Q:VK),Inv X c f H s->t f H Q ->
  hX 28 X.A (eval a X.env) (λv d=>hX 28 X.A (eval b X.env) (λu e=>hX 28 X.A (jG g v u) (EP X c f Q) X.xe e) X.xe d) X.xe s
def Ja(b:iT)(h:op≠.In)(c:op≠.NotIn):jd op b=false:=by
 have d:(op==CmpOp.In)=false:=by cases op<;>first|rfl|exact ii rfl h
 have e:(op==CmpOp.NotIn)=false:=by cases op<;>first|rfl|exact ii rfl c
 cases b<;>simp[jd,d,e]
def tB(t:TE):TT:=λd H Q=>t d H λx e=>∃c,x=.bl c/\Q c e
def Pm(h:PC X op a b t)(d:jd op b=false:=by first|exact Ja _ q0q q0q|rfl):PE X 118 t:=λc s e H Q I f=>sU (h c s e H Q I f) d
def Ks{f:qT}{t:TE}(h:PC X f a b t)(g:jd f b=false:=by first|exact Ja _ q0q q0q|rfl):PT X (.Compare a [f] [b] pos) (tB t):=by intro e s i H Q I j;refine uR (vU (h e s i H _ I j) λv r g=>vU g λu w k=>vU k λc y l=>e2a3 l λx m n o p=>?_) g;obtain⟨d,rfl,q⟩:=p;cases o;exact kC #[m,n,q]
def Xa{e:iT}{t:TE}(h:PE X e t)(g:∀c,qW e X.env c=(do let v <- c;ng e.pos;k9 [v] (uE v)):=by intro _;rfl):PT X e (tB t):=by intro f s i H Q I j;refine isTrue_plain (vU (h f s i H _ I j) λv p k=>e2a3 k λx l m n o=>?_)<|g _;obtain⟨d,rfl,q⟩:=o;cases n;exact kC #[l,m,q]
variable{tA tB':TT}{rest:List iT}
def a1D(t u:TT):TT:=λd H Q=>t d H λc e=>if c=true then u d e Q else Q false e
def tOr(t u:TT):TT:=λd H Q=>t d H λc e=>if c=true then Q true e else u d e Q
def a1E(t:TT):TT:=λd H Q=>t d H λc e=>Q (!c) e
def T2(f:PT X a tA):PW X (.BoolOp .And [a] pos) tA:=by
 intro i d s g H Q I h;refine isTrue_and<|vU (f d s g H Q I h) λc j e=>?_
 cases c with
 |true=>exact isTrue_and_nil e
 |false=>exact e
def Pn(f:PT X a tA):PW X (.BoolOp .Or [a] pos) tA:=by
 intro i d s g H Q I h;refine isTrue_or<|vU (f d s g H Q I h) λc j e=>?_
 cases c with
 |false=>exact isTrue_or_nil e
 |true=>exact e
def Xb(j:PT X a tA)(k:PW X (.BoolOp .And (b::rest) pos) tB'):PW X (.BoolOp .And (a::b::rest) pos) (a1D tA tB'):=by
 intro l d s e H Q I h;refine isTrue_and<|vU (j d s e H _ I h) λc m n=>e1a2 n λf g i=>?_
 cases c with
 |true=>exact k l d m e f Q g i
 |false=>exact#[f,g,i]
def Ws(j:PT X a tA)(k:PW X (.BoolOp .Or (b::rest) pos) tB'):PW X (.BoolOp .Or (a::b::rest) pos) (tOr tA tB'):=by
 intro l d s e H Q I h;refine isTrue_or<|vU (j d s e H _ I h) λc m n=>e1a2 n λf g i=>?_
 cases c with
 |true=>exact#[f,g,i]
 |false=>exact k l d m e f Q g i
def Xd(e:PT X a tA):PT X (.UnaryOp .Not a pos) (a1E tA):=by intro d s f H Q I h;exact isTrue_not<|e d s f H (λc g=>Q (!c) g) I h
def Zt(ta tb:TE):TE:=λd H Q=>ta d H λx e=>∃c,x=.bl c/\if c=true then tb d e Q else Q (.bl false) e
def a1F(ta tb:TE):TE:=λd H Q=>ta d H λx e=>∃c,x=.bl c/\if c=true then Q (.bl true) e else tb d e Q
def Zu(ta:TE):TE:=λd H Q=>ta d H λx e=>∃c,x=.bl c/\Q (.bl<|!c) e
def Xe{op}(h:PE X a t):PE X (.BoolOp op [a] pos) t:=λc s d H Q I e=>BoolOp_one<|h c s d H Q I e
def Xf(j:PE X a ta)(k:PE X (.BoolOp .And (b::rest) pos) tb):PE X (.BoolOp .And (a::b::rest) pos) (Zt ta tb):=by
 intro d s f H Q I h;refine BoolOp_and<|vU (j d s f H _ I h) λv l m=>e2a3 m λx g i n e=>?_;obtain⟨c,rfl,e⟩:=e;cases n;refine kC ?_
 cases c with
 |true=>exact k d l f g Q i e
 |false=>exact#[.bl false,g,i,rfl,e]
def Zv(j:PE X a ta)(k:PE X (.BoolOp .Or (b::rest) pos) tb):PE X (.BoolOp .Or (a::b::rest) pos) (a1F ta tb):=by
 intro d s f H Q I h;refine BoolOp_or<|vU (j d s f H _ I h) λv l m=>e2a3 m λx g i n e=>?_;obtain⟨c,rfl,e⟩:=e;cases n;refine kC ?_
 cases c with
 |false=>exact k d l f g Q i e
 |true=>exact#[.bl true,g,i,rfl,e]
def Xg(f:PE X a ta):PE X (.UnaryOp .Not a pos) (Zu ta):=by intro d s g H Q I h;refine UnaryOp_<|vU (f d s g H _ I h) λv m i=>e2a3 i λx j k l e=>?_;obtain⟨c,rfl,e⟩:=e;cases l;exact not_of<|kC #[.bl<|!c,j,k,rfl,e]
end
def wD(K:gW)(H:Hp)(a:gV)(c:List V):Prop :=
 Rd H a (.lst c) \/
  ∃(o:Obj)(b:Array cr)(n:Nat),K.lookup a=↑o/\o.cls=.type "list"/\o.dict=none/\o.data=.seq b n/\b.size<=hJ/\Vals c b.toList
def zn(K:gW)(H:Hp)(a:gV)(c:List V):Prop :=
 Rd H a (.tup c) \/
  ∃(o:Obj)(b:Array cr)(n:Nat),K.lookup a=↑o/\o.cls=.type "tuple"/\o.data=.seq b n/\b.size<=hJ/\Vals c b.toList
noncomputable def a1G:cr->Option V
 | .none=>some .wP
 | .bool b=>some<|.bl b
 | .int i _=>some<|.int i
 | .str x _=>some<|.str x
 | .bytes b _=>some<|.My b
 | .float b _=>some<|.W8 b
 | .ref a=>some<|.ref a
 | .type n=>some<|.ty n
 |_=>none
def RelV.abs(r:RelV x u):a1G u=↑x:=by
 cases x with
 |wP=>cases r;rfl
 |bl _=>cases r;rfl
 |int _=>obtain⟨t,rfl⟩:=r;rfl
 |str _=>obtain⟨t,rfl⟩:=r;rfl
 |My _=>obtain⟨t,rfl⟩:=r;rfl
 |W8 _=>obtain⟨t,rfl⟩:=r;rfl
 |ref _=>cases r;rfl
 |ty _=>cases r;rfl
def RelV.inj(r:RelV x u)(q:RelV y u):x=y:=iY<|r.abs.symm.trans q.abs
def Vals.inj:∀{d c:List V} {e:List cr},Vals d e->Vals c e->d=c:=by
 intro _ c _ z
 induction z generalizing c with
 |nil=>intro q;cases q;rfl
 |cons h t f=>intro q;cases q with|cons a b=>rw[h.inj a,f b]
def wD.of{K:gW}(h:H a=↑(.lst b)):wD K H a b:=.inl<|.inl h
def zn.of{K:gW}(h:H a=↑(.tup b)):zn K H a b:=.inl<|.inl h
def Inv.list(I:Inv X c j H s)(h:wD X.K H a d):∃b:List cr,Vals d b/\PlainL s.heap a b.toArray/\d.length<=hJ:=by
 rcases h with h|⟨o,b,n,f,g,hd,i,k,r⟩
 ·obtain⟨z,b,n,r,e⟩:=h.ok I.vW;exact#[b,r,#[_,n,e,rfl,rfl,rfl],z]
 ·refine#[b.toList,r,#[o,n,I.yZ a o f,g,hd,by simpa using i],?_];have e:=r.length;simp only[hW]at e
  lia
def Inv.tuple(I:Inv X c j H s)(h:zn X.K H a d):∃b:List cr,Vals d b/\IsTup s.heap a b.toArray/\d.length<=hJ:=by
 rcases h with h|⟨o,b,n,f,g,i,k,r⟩
 ·obtain⟨z,b,r,p⟩:=h.ok I.vW;exact#[b,r,p,z]
 ·refine#[b.toList,r,#[o,I.yZ a o f,g,n,by simpa using i],?_];have e:=r.length;simp only[hW]at e
  lia
def Inv.Jb(I:Inv X f q H s)(h:wD X.K H a j)(k:wD X.K H a l):j=l:=by
 obtain⟨c,r,⟨o,n,e,_,_,d⟩,_⟩:=I.list h;obtain⟨b,m,⟨t,u,g,_,_,i⟩,_⟩:=I.list k;rw[e]at g;cases g;rw[d]at i;injection i with p _;have:c=b:=by simpa using congrArg sC p
 subst this;exact r.inj m
def Inv.NK(I:Inv X f q H s)(h:zn X.K H a j)(k:zn X.K H a l):j=l:=by
 obtain⟨c,r,⟨o,e,_,n,d⟩,_⟩:=I.tuple h;obtain⟨b,m,⟨t,g,_,u,i⟩,_⟩:=I.tuple k;rw[e]at g;cases g;rw[d]at i;injection i with p _;have:c=b:=by simpa using congrArg sC p
 subst this;exact r.inj m
noncomputable abbrev Cx.FG(X:Cx)(E:cr->hR->Prop):Cx:={ X with xe:=E}
noncomputable abbrev Cx.nox(X:Cx):Cx:=X.FG λ_ _=>False
def Cx.Ok.FG{X:Cx}(a:X.Ok)(E:cr->hR->Prop):(X.FG E).Ok :=
 #[a.mod,a.kind,a.glob,a.blt,a.above,a.inj,a.has,a.Pd,a.hd,a.frames,a.CG,a.T0,a.bs,a.IY,a.DC,a.Eb,a.yT,a.Ki]
def Cx.Ok.Ak{X:Cx}{E:cr->hR->Prop}(a:(X.FG E).Ok):X.Ok :=
 #[a.mod,a.kind,a.glob,a.blt,a.above,a.inj,a.has,a.Pd,a.hd,a.frames,a.CG,a.T0,a.bs,a.IY,a.DC,a.Eb,a.yT,a.Ki]
def Inv.FG(I:Inv X a b H s)(E:cr->hR->Prop):Inv (X.FG E) a b H s:=#[I.ok.FG E,I.os,I.bare,I.base,I.loc,I.cell,I.free,I.yC,I.pin,I.vW,I.len]
def Inv.Ak(I:Inv (X.FG E) a b H s):Inv X a b H s:=#[I.ok.Ak,I.os,I.bare,I.base,I.loc,I.cell,I.free,I.yC,I.pin,I.vW,I.len]
def SP.Ak(h:SP (X.FG E) c D f d):SP X c D f d:=by
 cases f with
 |next=>obtain⟨a,b,I,q⟩:=h;exact#[a,b,I.Ak,q]
 |brk=>obtain⟨a,b,I,q⟩:=h;exact#[a,b,I.Ak,q]
 |cont=>obtain⟨a,b,I,q⟩:=h;exact#[a,b,I.Ak,q]
 |ret u=>obtain⟨v,a,b,I,r,q⟩:=h;exact#[v,a,b,I.Ak,r,q]
def FF.nox{b:List iB}(h:FF X.nox b t):FF X b t:=λa s c H D I d =>
 jm (h a s c H D (I.FG _) d) (λ_ _ q=>q.Ak) λ_ _ z=>iL z
section
variable{X:Cx}{st:iB}{rest:List iB}{t u:TS}
def Wt:TS:=λD a H=>D.nx a H
def Kt(t u:TS):TS:=λD a H=>t { D with nx:=u D} a H
def zH:FF X [] Wt:=λ_ _ a H _ I h=>oj #[a,H,I,h]
def wA(c:PS X st t)(d:FF X rest u):FF X (st::rest) (Kt t u):=by
 intro a s e H D I h;refine wpAny_execs_cons<|vU (c a s e H { D with nx:=u D} I h) λf g q=>?_
 cases f with
 |next =>
  refine e2a2 q λb i j q=>?_;exact d a g b i D j q
 |ret v=>exact q
 |brk=>exact q
 |cont=>exact q
def ye(b:PS X st t):FF X [st] t:=by
 intro a s c H D I h;refine wpAny_execs_cons<|vU (b a s c H D I h) λf d q=>?_
 cases f with
 |next=>exact oj q
 |ret v=>exact q
 |brk=>exact q
 |cont=>exact q
def Inv.quiet(I:Inv X a b H s):interactive X.env=false:=by simp[interactive,I.ok.kind]
def Jc(b:TE):TS:=λD a H=>b a H λ_ c=>D.nx a c
def BM(c:PE X e d)(f:kd e none pos.line X.env=pure false:=by rfl):PS X (.Expr e pos) (Jc d):=by intro a s b H D I h;exact wpAny_Expr_any (vU (c a s b H _ I h) λv l g=>e2a3 g λx i j m k=>#[b,i,j,k]) I.quiet f
def Xh(a:TE):TS:=λD b H=>a b H D.rt
def CH(c:PE X e d):PS X (.Return ↑e pos) (Xh d):=by intro a s b H D I h;exact wpAny_Return_some<|vU (c a s b H _ I h) λv l f=>e2a3 f λx g i j k=>#[x,b,g,i,j,k]
def a1H(c:TT)(t u:TS):TS:=λD a H=>c a H λb d=>if b=true then t D a d else u D a d
def MA{c:iT}{a b:List iB}{g:TT}(m:PT X c g)(n:FF X a t)(o:FF X b u):PS X (.If c a b pos) (a1H g t u):=by
 intro e s f H D I h;refine wpAny_If<|vU (m e s f H _ I h) λd i p=>e1a2 p λj k l=>?_
 cases d with
 |true=>exact n e i f j D k l
 |false=>exact o e i f j D k l
def Xi:TS:=λ_ _ _=>False
def NL:FF X a Xi:=λ_ _ _ _ _ _ h=>h.elim
end
abbrev TG:=V->St->Hp->(St->Hp->Prop)->Prop
abbrev Zd:=List V->St->Hp->(St->Hp->Prop)->Prop
def PG(X:Cx)(a:iT)(t:TG):Prop :=
 ∀(b:List (gV×Obj)) (s:hR) (d:St) (H:Hp) (v:V) (u:cr) (Q:St->Hp->Prop),Inv X b d H s->RelV v u->t v d H Q ->
  hX 28 X.A (sV a X.env u) (λ_ f=>∃c e,Inv X b c e f/\Q c e) X.xe s
def PGs(X:Cx)(g:List iT)(t:Zd):Prop :=
 ∀(a:List (gV×Obj)) (s:hR) (c:St) (H:Hp) (d:List V) (e:List cr) (Q:St->Hp->Prop),Inv X a c H s->Vals d e->t d c H Q ->
  hX 28 X.A (assignInOrder ((pW g X.env).map (·.2)) e) (λ_ h=>∃b f,Inv X a b f h/\Q b f) X.xe s
abbrev Po:=V->V->V->Hp->(Hp->Prop)->Prop
def Xj(X:Cx)(t:Po):Prop :=
 ∀(a:List (gV×Obj)) (s:hR) (b:St) (H:Hp) (o i v:V) (c d u:cr) (Q:Hp->Prop),Inv X a b H s->RelV o c->RelV i d->RelV v u->t o i v H Q ->
  hX 28 X.A (sL c d u) (λ_ f=>∃e,Inv X a b e f/\Q e) X.xe s
abbrev TIp:=V->V->Hp->VK->Prop
def PIp(X:Cx)(c:Operator)(t:TIp):Prop :=
 ∀(a:List (gV×Obj)) (s:hR) (b:St) (H:Hp) (x y:V) (v u:cr) (Q:VK),Inv X a b H s->RelV x v->RelV y u->t x y H Q ->
  hX 28 X.A (inplaceOp c v u) (EP X a b Q) X.xe s
def Dl(i:Nat):TG:=λv a H Q=>Q (a.set i<|↑v) H
def vp{i:Nat}(b:X.N.Nodup)(c:X.N[i]?=↑x:=by rfl)(d:Loc X.env.scope x:=by exact kH rfl)(e:X.fn x=true\/X.env.scope.names.lookup x=some .local:=by first|exact .inl rfl|exact .inr rfl|assumption):PG X 97 (Dl i):=by intro a s g H v u Q I r h;exact wpAny_assign_Name<|I0 I b c d r (λj f=>#[_,H,f,h]) e
def Xk:Zd:=λa b H Q=>a=[]/\Q b H
def F8(t:TG)(u:Zd):Zd:=λb c H Q=>∃v r,b=v::r/\t v c H λa d=>u r a d Q
def zI:PGs X [] Xk:=by intro a s b H c d Q I r h;obtain⟨e,h⟩:=h;subst e;cases r;exact assignInOrder_nil #[b,H,I,h]
def wB{e:iT}{b:List iT}{t:TG}{u:Zd}(d:PG X e t)(f:PGs X b u)
  (g:(pW (e::b) X.env).map (·.2)=sV e X.env::(pW b X.env).map (·.2):=by rfl):PGs X (e::b) (F8 t u):=by
 intro a s i H q w Q I r h;obtain⟨v,x,j,h⟩:=h;subst j
 cases r with
 |cons r k =>
  rw[g];refine assignInOrder_cons<|vU (d a s i H _ _ _ I r h) λ_ l m=>e2a2 m λc n o p=>?_;exact f a l c n _ _ Q o k p
def Xl(K:gW)(n:Nat)(t:Zd):TG:=λv c H Q=>∃a b,v=.ref a/\zn K H a b/\b.length=n/\t b c H Q
def Bx{k:Nat}{n:Nat}(l:X.calm=true)(h:PGs X d t)
 (m:(pW d X.env).length=n:=by rfl)(f:(pW d X.env).findIdx? (·.1)=none:=by rfl):PG X (.Tuple d k pos) (Xl X.K n t):=by
  intro c s i H v u Q I r g
  obtain⟨a,p,q,w,x,g⟩:=g
  subst q
  cases r
  obtain⟨y,j,z,D⟩:=I.tuple w
  refine assign_Tuple_tuple (I.ok.hd l) z (by simp[m,<- x,j.length]) f λA B=>?_
  have C:Inv X c i H { s with heap:=A}:=I.kept (t':=s.toks) λb o e=>B b o (ij<|hV e) e
  exact h c _ i H p _ Q C (by simpa using j) g
def a1J(b c:TE)(t:Po):TG:=λv a H Q=>b a H λo d=>c a d λi e=>t o i v e λf=>Q a f
def Pp{o i:iT}{f g:TE}{t:Po}(j:PE X o f)(k:PE X i g)(l:Xj X t)
  (m:∀v,sV (.Subscript o i pos) X.env v=(do
   let b <- k9 [v] (eval o X.env)
   let c <- k9 [v,b] (eval i X.env)
   ng pos
   k9 [v,b,c] (sL b c v)
   release [v,b,c] []):=by intro _;rfl):PG X (.Subscript o i pos) (a1J f g t):=by
 intro a s e H v u Q I r h;rw[m];refine am<|iM<|vU (j a s e H _ I h) λb n d=>e2a3 d λx p q w z=>?_;refine am<|iM<|vU (k a n e p _ q z) λc A d=>e2a3 d λy B C D E=>?_;refine am<|nS<|am<|iM<|vU (l a A e B x y v b c u _ C w D r E) λ_ L d=>e1a2 d λF G J=>?_;exact wpAny_release #[e,F,G,J]
def Xm(b:TE)(g:TG):TS:=λD a H=>b a H λx c=>g x a c D.nx
def Ku{b e:iT}{c:TE}{g:TG}(f:PE X e c)(i:PG X b g)(j:swapsWithSole [b] e pos.line X.env=pure false:=by rfl)(hw:swappedStores [b] e X.env=pure none:=by rfl)
  (k:(pW [b] X.env).map (·.2)=[sV b X.env]:=by rfl):PS X (.Assign [b] e pos) (Xm c g):=by
 intro a s d H D I h;refine wpAny_Assign_stores (vU (f a s d H _ I h) λv l m=>e2a3 m λx n o p r=>?_) j hw;rw[k];exact vU (i a l d n x v _ o p r) λ_ t q=>q
def Al{i:Nat}{x:Str}{e:iT}{c:TE}{a:Pos}(d:X.N.Nodup)(f:X.N[i]?=↑x)(g:Loc X.env.scope x)(j:PE X e c)(k:kd e (some<|.Name x a) pos.line X.env=pure false:=by rfl)(l:X.fn x=true\/X.env.scope.names.lookup x=some .local:=by first|exact .inl rfl|exact .inr rfl|assumption) :
  PS X (.Assign [.Name x a] e pos) (Xm c<|Dl i):=by
 intro b s m H D I h;refine wpAny_Assign_Name (vU (j b s m H _ I h) λv u n=>e2a3 n λy o p q r=>?_) k;exact I0 p d f g q (λw t=>#[_,o,t,r]) l
def Zw(e f g:TE)(a:V->V->Hp->VK->Prop)(d:TIp)(b:Po):TS:=λD c H=>e c H λo h=>f c h λi j=>a o i j λx k=>g c k λy l=>d x y l λz m=>b o i z m λn=>D.nx c n
def Zx(X:Cx)(t:V->V->Hp->VK->Prop):Prop :=
 ∀(a:List (gV×Obj)) (s:hR) (b:St) (H:Hp) (o i:V) (c d:cr) (Q:VK),Inv X a b H s->RelV o c->RelV i d->t o i H Q ->
  hX 28 X.A (oz c d) (EP X a b Q) X.xe s
def T4{o i e:iT}{p q r:TE}{d:V->V->Hp->VK->Prop}{l:TIp}{f:Po}{t:Operator}{m:Pos}(z:PE X o p)(A:PE X i q)(B:Zx X d)(C:PE X e r)(E:PIp X t l)(F:Xj X f)
  (G:∀g j b,augStore i g j b=(do k9 [b,g,j] (sL g j b);release [b,g,j] [];pure .next):=by intros;rfl):PS X (.AugAssign (.Subscript o i m) t e pos) (Zw p q r d l f):=by
 intro a s k H D I h;refine sD (vU (z a s k H _ I h) λg J c=>e2a3 c λu L M w N=>?_) G;refine vU (A a J k L _ M N) λj O c=>e2a3 c λx P Q y R=>?_;refine vU (B a O k P u x g j _ Q w y R) λn S c=>e2a3 c λT U W Y Z=>?_;refine vU (C a S k U _ W Z) λv s4 c=>e2a3 c λx4 H4 I4 r4 q4=>?_;refine vU (E a s4 k H4 T x4 n v _ I4 Y r4 q4) λb s5 c=>e2a3 c λx5 H5 I5 r5 q5=>?_;exact vU (F a s5 k H5 u x x5 g j b _ I5 w y r5 q5) λ_ s6 c=>e1a2 c λH6 I6 q6=>#[k,H6,I6,q6]
def ipI(f:Int->Int->Int):TIp:=λx y H Q=>∃i j,x=.int i/\y=.int j/\Q (.int<|f i j) H
def Pq:PIp X .Add (ipI λi j=>i+j):=by intro a s f H x y v u Q I b c h;obtain⟨i,j,d,e,q⟩:=h;subst d;subst e;obtain⟨t,rfl⟩:=b;obtain⟨g,rfl⟩:=c;exact iadd_int #[.int _,H,I.tok _,#[_,rfl],q]
def Xn:PIp X .Sub (ipI λi j=>i-j):=by intro a s f H x y v u Q I b c h;obtain⟨i,j,d,e,q⟩:=h;subst d;subst e;obtain⟨t,rfl⟩:=b;obtain⟨g,rfl⟩:=c;exact isub_int #[.int _,H,I.tok _,#[_,rfl],q]
def Xo(c:TT)(h:TS):TS:=λD a H=>∃W:Nat->St->Hp->Prop,(∃m,W m a H)/\∀m a H,W m a H ->
 c a H λb e=>if b=true then ∃N:St->Hp->Prop,(∀d f,N d f->∃g,g<m/\W g d f)/\h { D with nx:=N,ct:=N,bk:=D.nx} a e else D.nx a e
def Pr{c:iT}{g:List iB}{u:TT}{x:TS}(y:rV 28 X.A X.env X.xe)(F:PT X c u)(G:FF X g x):PS X (.While c g [] pos) (Xo u x):=by
 intro a s J H D I h;obtain⟨W,⟨L,M⟩,i⟩:=h;refine wpAny_While<|codeAny_whileLoop (λn O=>∃j z,Inv X a j z O/\W n j z) ?_ L #[J,H,I,M];rintro n P ⟨e,H1,Q,R⟩;refine lX y<|vU (F a P e H1 _ Q<|i n e H1 R) λb S T=>e1a2 T λB C l=>?_
 cases b with
 |true =>
  refine e1a2 l λN E l=>?_;rw[gU rfl];refine lX y<|vU (G a S e B _ C l) λf U m=>?_
  cases f with
  |next =>
   refine e2a2 m λd k o p=>?_;refine e1a2 (E d k p) λq r t=>?_;exact#[q,r,d,k,o,t]
  |cont =>
   refine e2a2 m λd k o p=>?_;refine e1a2 (E d k p) λq r t=>?_;exact#[q,r,d,k,o,t]
  |brk=>exact m
  |ret v=>exact m
 |false =>
  rw[ci h8];exact oj #[e,B,C,l]
structure It where
 go:Nat->Hp->Prop
 IN:Nat->Hp->V->Hp->Prop
 stop:Nat->Hp->Prop
def By(X:Cx)(a:List (gV×Obj))(H:Hp)(b:gV):Prop :=
 H b=none/\b≠X.env.locals/\b∉X.fs/\(b∈X.ex\/X.s₀.heap.objs.size<=b)/\(∀x c,X.env.cells.lookup x=↑c->c≠b)/\∀p∈X.pn++a,p.1≠b
def Inv.GO(I:Inv X a i H s)(d:⇑s<=b)(f:g b=none):By X a g b:=by
 refine#[f,jv<|iu I.lt d,I.a1B d,.inr<|iK I.sz d,λx c e z=>?_,λp h z=>?_]
 ·obtain⟨v,q⟩:=I.cell x c e;exact ii (iu q.lt<|by rw[z];exact d)<|j4 _
 ·exact ii (iu (hV (I.pin p h).1)<|by rw[z];exact d)<|j4 _
structure Turn(P:iJ)(w:jb)(K:gW)(tg:iT)(J:It)(fp:List gV)(it:gV)(tn:Nat->iX->Prop):Prop where
 mem:it∈fp
 obj:∀i h,tn i h->∀b∈fp,∃o,h.get? b=↑o/\∀v,o.data≠.cell v
 keep:∀i h h',tn i h->(∀b∈fp,∀o,h.get? b=↑o->h'.get? b=↑o)->tn i h'
 item:∀(X:Cx),X.prog=P->X.w=w->X.K=K->X.calm=true->∀(i:Nat) (pins:List (gV×Obj)) (s:hR) (σ:St) (H:Hp) (E:cr->hR->Prop),Inv X pins σ H s->(∀b∈fp,By X pins H b)->tn i s.heap->J.go i H ->
  hX (hZ P w) X.A (pyNext (.ref it)) (λr s1=>∃u,r=↑u /\
   hX (hZ P w) X.A (sE tg (.ref it) u) (λ_ s2=>∃x H',Inv X pins σ H' s2/\RelV x u/\J.IN i H x H'/\tn (i+1) s2.heap/\∀b∈fp,H' b=none) E s1) E s
 done:∀(X:Cx),X.prog=P->X.w=w->X.K=K->X.calm=true->∀(i:Nat) (pins:List (gV×Obj)) (s:hR) (σ:St) (H:Hp) (E:cr->hR->Prop),Inv X pins σ H s->(∀b∈fp,By X pins H b)->tn i s.heap->J.stop i H ->
  hX (hZ P w) X.A (pyNext<|.ref it) (λr s1=>r=none/\Inv X pins σ H s1) E s
 self:∀(A:jF)(i:Nat)(s:hR)(Q:cr->hR->Prop)(E:cr->hR->Prop),tn i s.heap->Q (.ref it) s->hX (hZ P w) A (pyIter<|.ref it) Q E s
abbrev TI:=St->Hp->(It->Hp->Prop)->Prop
def PIE(X:Cx)(a:List (gV×Obj))(i:St)(j:iT)(R:It->Hp->Prop)(c:cr)(e:hR):Prop :=
 ∃(f:gV)(g:List gV)(h:Nat->iX->Prop)(J:It)(d:Hp),c=.ref f/\Inv X a i d e/\Turn X.prog X.w X.K j J g f h/\h 0 e.heap/\(∀b∈g,By X a d b)/\R J d
def PI(X:Cx)(d b:iT)(e:TI):Prop :=
 ∀(a:List (gV×Obj)) (s:hR) (c:St) (H:Hp) (R:It->Hp->Prop),Inv X a c H s->e c H R ->
  hX 28 X.A (eval b X.env) (λv f=>hX 28 X.A (pyIter v) (PIE X a c d R) X.xe f) X.xe s
def Pu{s:hR}(b:s.heap.get? c=↑o)(d:o.cls=.type n)(e:o.data=.fields f)
 (g:["enumerate","zip","dict_itemiterator","dict_reverseitemiterator","odict_iterator","itertools.zip_longest","itertools.pairwise"].contains n=false)(a:Q () s):hX M A (sE i (.ref c) u) Q E s:=by
  cases i<;>first
    | exact ap a
    | (cases u<;>first
        | exact ap a
        | (refine am (qX b ?_)
           rw[d,e]
           show hX M A (if (["enumerate","zip","dict_itemiterator","dict_reverseitemiterator","odict_iterator","itertools.zip_longest","itertools.pairwise"].contains n&&f[0]?==↑(l9 _))=true then _ else _) Q E s
           rw[ci<|by intro h;rw[g,Bool.false_and]at h;cases h]
           exact ap a))
noncomputable def Ze(K:gW)(a:gV):It :=
 #[λi H=>∃b x,wD K H a b/\b[i]?=↑x,λi H x c=>c=H/\∀b,wD K H a b->b[i]?=↑x,λi H=>∃b,wD K H a b/\b.length<=i]
noncomputable def Itt(K:gW)(a:gV):It :=
 #[λi H=>∃b x,zn K H a b/\b[i]?=↑x,λi H x c=>c=H/\∀b,zn K H a b->b[i]?=↑x,λi H=>∃b,zn K H a b/\b.length<=i]
noncomputable def Xp(a:Int)(n:Nat):It:=#[λi _=>i<n,λi H x b=>b=H/\x=.int (a+i),λi _=>n<=i]
def NM{P:iJ}{w:jb}{K:gW}{tg:iT}(a it:gV):Turn P w K tg (Ze K a) [it] it (λi h=>h.IsListIter it a i) where
 mem:=by simp
 obj:=λi h st b hb=>by
  have e:b=it:=by simpa using hb
  subst e;refine e1a3 st λo e c d=>?_;exact#[o,e,λv z=>by rw[d]at z;cases z]
 keep:=λi h h' st k=>st.at λo e=>k it q0o o e
 item:=by intro X hP hw hK hc i pins s σ H E I hf st hg;subst hP hw hK;refine e2a2 hg λxs x hq hx=>?_;refine e1a3 (I.list hq) λAi rv p hz=>?_;refine e1a2 (rv.get hx) λu hu ru=>?_;refine e0a6 (hf it q0o) λf0 f1 f2 f3 f4 f5=>?_;refine wpAny_pyNext_list_item st p.isList (x:=u) (by simpa using hu) λh' Wu sb=>?_;have I1:Inv X pins σ H { s with heap:=h'}:=I.turned (t':=s.toks) (λb o hb e=>(sb.2 b hb).trans e) f0 f1 f3 f4 f5;refine e1a3 (id Wu) λo e c d=>?_;exact#[u,rfl,Pu (s:={ s with heap:=h'}) e c d q0q #[x,H,I1,ru,#[rfl,λys hy=>by rw[I.Jb hy hq];exact hx],Wu,λb hb=>(hf b hb).1]]
 done:=by intro X hP hw hK hc i pins s σ H E I hf st hg;subst hP hw hK;refine e1a2 hg λxs hq hx=>?_;refine e1a3 (I.list hq) λAi rv p hz=>?_;refine e0a6 (hf it q0o) λf0 f1 f2 f3 f4 f5=>?_;have hl:=rv.length;exact wpAny_pyNext_list_end (I.ok.hd hc) st p.isList (by simp;lia) λh' eb=>93
 self:=λ_ _ _ _ _ st h=>wpAny_pyIter_listiter st h
def Kv{P:iJ}{w:jb}{K:gW}{tg:iT}(a it:gV):Turn P w K tg (Itt K a) [it] it (λi h=>h.IsTupleIter it a i) where
 mem:=by simp
 obj:=λi h st b hb=>by
  have e:b=it:=by simpa using hb
  subst e;refine e1a3 st λo e c d=>?_;exact#[o,e,λv z=>by rw[d]at z;cases z]
 keep:=λi h h' st k=>st.at λo e=>k it q0o o e
 item:=by intro X hP hw hK hc i pins s σ H E I hf st hg;subst hP hw hK;refine e2a2 hg λxs x hq hx=>?_;refine e1a3 (I.tuple hq) λAi rv p hz=>?_;refine e1a2 (rv.get hx) λu hu ru=>?_;refine e0a6 (hf it q0o) λf0 f1 f2 f3 f4 f5=>?_;refine wpAny_pyNext_tuple_item st (show s.heap.IsTuple a Ai.toArray from p) (x:=u) (by simpa using hu) λh' Wu sb=>?_;have I1:Inv X pins σ H { s with heap:=h'}:=I.turned (t':=s.toks) (λb o hb e=>(sb.2 b hb).trans e) f0 f1 f3 f4 f5;refine e1a3 (id Wu) λo e c d=>?_;exact#[u,rfl,Pu (s:={ s with heap:=h'}) e c d q0q #[x,H,I1,ru,#[rfl,λys hy=>by rw[I.NK hy hq];exact hx],Wu,λb hb=>(hf b hb).1]]
 done:=by intro X hP hw hK hc i pins s σ H E I hf st hg;subst hP hw hK;refine e1a2 hg λxs hq hx=>?_;refine e1a3 (I.tuple hq) λAi rv p hz=>?_;refine e0a6 (hf it q0o) λf0 f1 f2 f3 f4 f5=>?_;have hl:=rv.length;exact wpAny_pyNext_tuple_end (I.ok.hd hc) st (show s.heap.IsTuple a Ai.toArray from p) (by simp;lia) λh' eb=>93
 self:=λ_ _ _ _ _ st h=>wpAny_pyIter_tupleiter st h
def Kw{P:iJ}{w:jb}{K:gW}{tg:iT}(it:gV)(lo:Int)(n:Nat):Turn P w K tg (Xp lo n) [it] it (λi h=>IsRangeIter h it (lo+(i:Nat)*1) ((n:Int)-(i:Nat)) 1) where
 mem:=by simp
 obj:=λi h st b hb=>by
  have e:b=it:=by simpa using hb
  subst e
  exact#[_,st,λv z=>by
   have z':tR _=Data.cell v:=z
   cases z']
 keep:=λi h h' st k=>k it q0o _ st
 item:=by intro X hP hw hK hc i pins s σ H E I hf st hg;subst hP hw hK;refine e0a6 (hf it q0o) λf0 f1 f2 f3 f4 f5=>?_;have W:=Walks.range (prog:=X.prog) (w:=X.w) (I.ok.hd hc) it lo 1 n;refine W.item i s _ _ hg st λv h' tk hv Wu kk=>?_;obtain⟨t,rfl⟩:=hv;have I1:Inv X pins σ H { s with heap:=h',toks:=tk}:=I.turned (λb o hb e=>kk b o (by simpa using hb) e) f0 f1 f3 f4 f5;refine#[_,rfl,Pu (s:={ s with heap:=h',toks:=tk}) (n:="range_iterator") Wu rfl rfl q0q #[.int<|lo+i,H,I1,⟨t,?_⟩,⟨rfl,rfl⟩,Wu,λb hb=>(hf b hb).1]];rw[Int.mul_one]
 done:=by intro X hP hw hK hc i pins s σ H E I hf st hg;refine e0a6 (hf it q0o) λf0 f1 f2 f3 f4 f5=>?_;exact wpAny_pyNext_range_end (I.ok.hd hc) st (by have:n<=i:=hg;lia) λh' eb=>93
 self:=λ_ _ _ _ _ st h=>wpAny_pyIter_rangeiter st h
def Zy(K:gW)(c:TE):TI:=λd H R=>c d H λx b=>∃a,x=.ref a/\(∃e,wD K b a e)/\R (Ze K a) b
def a1M(K:gW)(c:TE):TI:=λd H R=>c d H λx b=>∃a,x=.ref a/\(∃e,zn K b a e)/\R (Itt K a) b
def GP{l:iT}{g:TE}(i:PE X l g):PI X y l (Zy X.K g):=by
 intro c s j H R I h;refine vU (i c s j H _ I h) λv d k=>e2a3 k λx m f n r=>?_;obtain⟨a,e,⟨z,t⟩,q⟩:=r;subst e;cases n;refine e1a3 (f.list t) λu A p B=>?_;refine wpAny_pyIter_list p.isList ?_;refine#[⇑d,[⇑d],_,_,m,rfl,f.kept (t':=d.toks) λb o e=>ce _ e,NM a _,#[_,ic _ rfl,rfl,rfl],λb w=>?_,q];have e:b=⇑d:=by simpa using w
 subst e;exact f.GO (gZ _)<|f.vW.fresh<|gZ _
def Xq{l:iT}{i:TE}(j:PE X l i):PI X y l (a1M X.K i):=by
 intro c s k H R I h;refine vU (j c s k H _ I h) λv d m=>e2a3 m λx n f r t=>?_;obtain⟨a,e,⟨z,u⟩,q⟩:=t;subst e;cases r;refine e1a3 (f.tuple u) λg A p B=>?_;refine qY (show d.heap.IsTuple a g.toArray from p) ?_;refine#[⇑d,[⇑d],_,_,n,rfl,f.kept (t':=d.toks) λb o e=>ce _ e,Kv a _,#[_,ic _ rfl,rfl,rfl],λb w=>?_,q];have e:b=⇑d:=by simpa using w
 subst e;exact f.GO (gZ _)<|f.vW.fresh<|gZ _
def Jd{a c:Int}{f:Nat}(I:Inv X d h H s)(i:-(2 ^ 62)<=a)(j:a<2 ^ 62)(k:-(2 ^ 62)<=c)(l:c<2 ^ 62)
 (q:R (Xp a (c-a).toNat) H):hX 28 X.A (pyIter<|.ref ⇑s) (PIE X d h r R) E { s with heap:=s.heap.push 98,toks:=f}:=by
  refine wpAny_pyIter_range (IsRange.new ..) (small_one i j k l) ?_
  have g:Inv X d h H { s with heap:=s.heap.push 98,toks:=f}:=I.kept λb o e=>ce _ e
  refine#[(s.heap.push 98).objs.size,[(s.heap.push 98).objs.size],_,_,H,rfl,
    g.kept (t':=f) λb o e=>ce _ e,Kw _ a (c-a).toNat,?_,λb m=>?_,q]
  · have n : a+((0 : Nat) : Int)*1 = a := by simp
    have p:(((c-a).toNat:Nat):Int)-((0:Nat):Int)=Builtin.Range.rangeSize a c 1:=by rw[rangeSize_one];split<;>lia
    rw[n,p]
    exact ic _ rfl
  · have e : b = (s.heap.push { cls := .type "range", data := .fields #v[.int a t, .int c u, .int 1 v] }).objs.size := by simpa using m
    subst e
    exact g.GO (gZ _)<|g.vW.fresh<|gZ _
def Zz(a:TA):TI:=λb H R=>a b H λc d=>∃j:Int,c=[.int j]/\-(2 ^ 62)<=j/\j<2 ^ 62/\R (Xp 0 j.toNat) d
def Wv(a:TA):TI:=λb H R=>a b H λc d=>∃i j:Int,c=[.int i,.int j]/\(-(2 ^ 62)<=i/\i<2 ^ 62/\-(2 ^ 62)<=j/\j<2 ^ 62)/\R (Xp i (j-i).toNat) d
def NN{a:iT}{f:TA}{p b:Pos}(g:Gl X "range")(i:X.mg "range"=none)(k:PA X [a] f)(l:gX [a] X.env=[79]:=by rfl):PI X x (.Call (.Name "range" p) [a] [] b) (Zz f):=by
 intro c s m H R I h;refine Call_<|zF I g i boot_range<|kh (vU (k b c s m H _ I h) λy z n=>e2a3 n λA B o u d=>?_) l rfl;obtain⟨j,e,d,v,q⟩:=d;subst e
 cases u with
 |cons r w =>
  cases w;obtain⟨t,rfl⟩:=r;exact call_range_1<|Jd o q0a q0a d v (by simpa using q)
def F9{a b:iT}{l:TA}{p c:Pos}(m:Gl X "range")(n:X.mg "range"=none)(o:PA X [a,b] l)(u:gX [a,b] X.env=[79,(false,eval b X.env)]:=by rfl)(d:gX [b] X.env=[(false,eval b X.env)]:=by rfl) :
  PI X C (.Call (.Name "range" p) [a,b] [] c) (Wv l):=by
 intro f s v H R I h;refine Call_<|zF I m n boot_range<|kh (vU (o c f s v H _ I h) λD E ⟨F,H1,w,x,g⟩=>?_) (by rw[u,d]) (by rw[d];rfl);obtain⟨i,j,e,⟨g,y,z,A⟩,q⟩:=g;subst e
 cases x with
 |cons r k =>
  cases k with
  |cons B k =>
   cases k;obtain⟨t,rfl⟩:=r;obtain⟨G,rfl⟩:=B;exact call_range_2<|Jd w g y z A q
def a1N(f:TI)(g:TG)(h:TS):TS:=λD a H=>f a H λJ j=>∃W:Nat->Nat->St->Hp->Prop,(∃m,W 0 m a j)/\∀i m a H,W i m a H ->
 (J.stop i H/\D.nx a H)\/(J.go i H/\∃N:St->Hp->Prop,(∀b c,N b c->∃e,e<m/\W (i+1) e b c)/\∀x c,J.IN i H x c->g x a c λd k=>h { D with nx:=N,ct:=N,bk:=D.nx} d k)
noncomputable def Ed(a:List gV)(h:iX):List (gV×Obj):=a.filterMap λb=>(h.get? b).map λo=>(b,o)
def xS{h:iX}(a:b∈c)(e:h.get? b=↑o):(b,o)∈Ed c h:=List.mem_filterMap.mpr #[b,a,by rw[e];rfl]
def NO(a:p∈Ed c h):p.1∈c/\h.get? p.1=↑p.2:=by
 refine e1a2 (List.mem_filterMap.mp a) λb d e=>?_
 cases q:h.get? b with
 |none=>rw[q]at e;cases e
 |some o =>
  rw[q]at e;have f:(b,o)=p:=iY e;subst f;exact#[d,q]
def Inv.pinned(I:Inv X a g H s)(h:∀b∈fp,By X a H b)(i:∀b∈fp,∃o,s.heap.get? b=↑o/\∀v,o.data≠.cell v):Inv X (a++Ed fp s.heap) g H s :=
 I.zC λp j=>(List.mem_append.mp j).elim (λz=>I.pin p<|iv _ z) λz=>by obtain⟨c,e⟩:=NO z;obtain⟨k,l,m,_⟩:=h p.1 c;refine e1a2 (i p.1 c) λo f d=>?_;rw[e]at f;cases f;exact#[e,k,l,m,d]
def Inv.Am(I:Inv X (a++d) b H s):Inv X a b H s:=I.zC λp c=>I.pin p<|iv _<|ji _ c
def Pw{j:iT}{C:List iB}{wi:TI}{g:TG}{tb:TS}{Y:Pos}(M:rV 28 X.A X.env X.xe)(hc:X.calm=true)(hi:PI X tg j wi)(hg:PG X tg g)(k:FF X C tb)
  (hs:∀x,kD j X.env x=pure x:=by intro _;rfl):PS X (.For tg j C [] Y) (a1N wi g tb):=by
 intro a s σ H D I h;refine wpAny_For (vU (hi a s σ H _ I h) λv s1 h1=>vU h1 λai s2 h2=>?_) hs;obtain⟨it,O,tn,J,H2,e,I2,T,Z,f2,W,⟨m0,w0⟩,P⟩:=h2;subst e
 -- ag aa true of the E Q through the ah
 have l:∀{B:Hp},(∀b∈O,B b=none)->∀b∈O,By X a B b:=λhn b k=>#[hn b k,(f2 b k).2];refine codeAny_forLoop_any (λn s'=>∃i p B,Inv X a p B s'/\tn i s'.heap/\(∀b∈O,B b=none)/\W i n p B) ?_ m0 #[0,σ,H2,I2,Z,λb k=>(f2 b k).1,w0];rintro n s3 ⟨i,q,H3,I3,R,S,w3⟩;rcases P i n q H3 w3 with⟨stop,qn⟩|⟨go,N,hN,step⟩
 ·refine lX M<|vU (T.done X rfl rfl rfl hc i a s3 q H3 X.xe I3 (l S) R stop) λr s4 G=>e0a2 G λhr I4=>?_;subst hr;exact oj #[q,H3,I4,qn]
 ·refine lX M<|vU (T.item X rfl rfl rfl hc i a s3 q H3 X.xe I3 (l S) R go) λr s4 G=>e1a2 G λu hr h4=>?_;subst hr;refine lX M<|vU h4 λ_ s5 G=>e2a5 G λx H5 I5 r5 y5 L ab=>?_;have ae:=I5.pinned (l ab)<|T.obj _ _ L;refine lX M<|vU (hg _ s5 q H5 x u _ ae r5<|step x H5 y5) λ_ s6 G=>e2a2 G λaf H6 I6 q6=>?_;refine lX M (vU (k _ s6 af H6 _ I6 q6) λf s7 F=>?_)
  have t:∀{c:St} {y:Hp},Inv X (a++Ed O s5.heap) c y s7->N c y->∃m,m<n/\∃i p B,Inv X a p B s7/\tn i s7.heap/\(∀b∈O,B b=none)/\W i m p B:=λ{c y} z U=>by refine e1a2 (hN c y U) λm' hm w7=>?_;refine#[m',hm,i+1,c,y,z.Am,T.keep _ _ _ L λb k o e=>(z.pin (b,o)<|iv _<|iv _<|xS k e).1,λb k=>?_,w7];refine e1a2 (T.obj _ _ L b k) λo e d=>?_;exact(z.pin (b,o)<|iv _<|iv _<|xS k e).2.1
  cases f with
  |next=>obtain⟨c,y,z,U⟩:=F;exact t z U
  |cont=>obtain⟨c,y,z,U⟩:=F;exact t z U
  |brk=>obtain⟨c,y,z,F⟩:=F;exact#[c,y,z.Am,F]
  |ret v=>obtain⟨x7,c,y,z,r7,F⟩:=F;exact#[x7,c,y,z.Am,r7,F]
def Px{K:gW}{a:gV}{xs:List V}{g:TG}{l:TS}{D:Ends}{b:St}{H:Hp}(c:Nat->St->Hp->Prop)(o:c 0 b H)(r:∀i b H,i<=xs.length->c i b H->wD K H a xs)
  (s:∀i x b H,xs[i]?=↑x->c i b H->g x b H λd k=>l { D with nx:=c<|i+1,ct:=c<|i+1,bk:=D.nx} d k) (t:∀b H,c xs.length b H->D.nx b H) :
  ∃W:Nat->Nat->St->Hp->Prop,(∃m,W 0 m b H)/\∀i m b H,W i m b H ->
   ((Ze K a).stop i H/\D.nx b H)\/((Ze K a).go i H/\∃N:St->Hp->Prop,(∀f h,N f h->∃n,n<m/\W (i+1) n f h)/\∀x h,(Ze K a).IN i H x h->g x b h λd k=>l { D with nx:=N,ct:=N,bk:=D.nx} d k):=by
 refine#[λi m b H=>m=xs.length-i/\i<=xs.length/\c i b H,#[xs.length,q0o,jj _,o],?_];rintro i m b H ⟨rfl,u,p⟩;have q:=r i b H u p;by_cases j:i<xs.length
 ·refine .inr #[#[xs,xs[i],q,by simp[j]],c<|i+1,λf h v=>#[xs.length-(i+1),q0d,rfl,j,v],λx h y=>?_];obtain⟨e,y⟩:=y;subst e;exact s i x b _ (y xs q) p
 ·have e:i=xs.length:=by omega
  subst e;exact .inl #[#[xs,q,gZ _],t b H p]
abbrev R2:=V->V->Hp->VK->Prop
def Bb(X:Cx)(f:cr->cr->Sem cr)(r:R2):Prop :=
 ∀(a:List (gV×Obj)) (s:hR) (b:St) (H:Hp) (x y:V) (v u:cr) (Q:VK),Inv X a b H s->RelV x v->RelV y u->r x y H Q ->
  hX 28 X.A (f v u) (EP X a b Q) X.xe s
def UnR(X:Cx)(f:cr->Sem cr)(r:V->Hp->VK->Prop):Prop :=
 ∀(a:List (gV×Obj)) (s:hR) (b:St) (H:Hp) (x:V) (v:cr) (Q:VK),Inv X a b H s->RelV x v->r x H Q ->
  hX 28 X.A (f v) (EP X a b Q) X.xe s
def y8(X:Cx)(f:cr)(r:List V->Hp->VK->Prop):Prop :=
 ∀(a:List (gV×Obj)) (s:hR) (b:St) (H:Hp) (c:List V) (d:List cr) (Q:VK),Inv X a b H s->Vals c d->r c H Q ->
  hX 28 X.A (call f d) (EP X a b Q) X.xe s
def a1P(X:Cx)(r:V->Hp->(Bool->Hp->Prop)->Prop):Prop :=
 ∀(a:List (gV×Obj)) (s:hR) (b:St) (H:Hp) (x:V) (v:cr) (Q:Bool->Hp->Prop),Inv X a b H s->RelV x v->r x H Q ->
  hX 28 X.A (uE v) (TP X a b Q) X.xe s
def Zf(r:R2)(b c:TE):TE:=λa H Q=>b a H λx d=>c a d λy e=>r x y e Q
def tUn(r:V->Hp->VK->Prop)(a:TE):TE:=λb H Q=>a b H λx c=>r x c Q
def rI(C:Int->Int->Prop)(g:Int->Int->V):R2:=λx y H Q=>∃i j,x=.int i/\y=.int j/\C i j/\Q (g i j) H
def TL(g:Int->Int->V):R2:=λx y H Q=>∃i j,x=.int i/\y=.int j/\Q (g i j) H
def rU(g:Int->V):V->Hp->VK->Prop:=λx H Q=>∃i,x=.int i/\Q (g i) H
def Xr(m:PE X a n)(o:PE X b p){c:List (gV×Obj)}{s:hR}{d:St}{H:Hp}{R:V->V->Hp->Prop}(I:Inv X c d H s)
  (h:n d H λx k=>p d k λy e=>R x y e) {Q:cr->hR->Prop} {f:cr->cr->Sem cr}
  (q:∀v u j x y e,Inv X c d e j->RelV x v->RelV y u->R x y e->hX 28 X.A (f v u) Q X.xe j) :
  hX 28 X.A (eval a X.env) (λv g=>hX 28 X.A (eval b X.env) (λu i=>hX 28 X.A (f v u) Q X.xe i) X.xe g) X.xe s:=by
 refine vU (m c s d H _ I h) λv r l=>e2a3 l λx k t z B=>?_;refine vU (o c r d k _ t B) λu j l=>e2a3 l λy e C D E=>?_;exact q v u j x y e C z D E
def xg(d:Bb X (mM op) r)(e:PE X a f)(g:PE X b i):PE X (.BinOp a op b pos) (Zf r f i):=by intro c s j H Q I h;exact wpAny_BinOp<|Xr e g I h λv u k x y l m n o q=>d c k j l x y v u Q m n o q
def Ww{c:UnaryOp}{r:V->Hp->VK->Prop}(e:UnR X (unaryOp c) r)(f:PE X a g):PE X (.UnaryOp c a pos) (tUn r g):=by intro b s d H Q I h;exact UnaryOp_<|vU (f b s d H _ I h) λv i j=>e2a3 j λx k l m n=>e b i d k x v Q l m n
def opI{f:cr->cr->Sem cr}{C:Int->Int->Prop}{g:Int->Int->Int}
 (a:∀(i j:Int)(t u:Tok)(s:hR)(Q:cr->hR->Prop)(E:cr->hR->Prop),C i j->Q (.int (g i j) s.toks) 99->hX 28 X.A (f (.int i t)<|.int j u) Q E s) :
    Bb X f (rI C λi j=>.int<|g i j):=by
  intro b s l H x y v u Q I c d h
  obtain⟨i,j,rfl,rfl,e,q⟩:=h
  obtain⟨t,rfl⟩:=c
  obtain⟨k,rfl⟩:=d
  exact a i j t k s _ _ e #[.int<|g i j,H,I.tok _,#[_,rfl],q]
def ZA{f:cr->cr->Sem cr}{g:Int->Int->Int}
 (a:∀(i j:Int)(t u:Tok)(s:hR)(Q:cr->hR->Prop)(E:cr->hR->Prop),Q (.int (g i j) s.toks) 99->hX 28 X.A (f (.int i t)<|.int j u) Q E s) :
    Bb X f (TL λi j=>.int<|g i j):=by
  intro b s k H x y v u Q I c d h
  obtain⟨i,j,rfl,rfl,q⟩:=h
  obtain⟨t,rfl⟩:=c
  obtain⟨e,rfl⟩:=d
  exact a i j t e s _ _ #[.int<|g i j,H,I.tok _,#[_,rfl],q]
def T5{f:cr->cr->Sem cr}{g:Int->Int->Bool}
 (a:∀(i j:Int)(t u:Tok)(s:hR)(Q:cr->hR->Prop)(E:cr->hR->Prop),Q (.bool<|g i j) s->hX 28 X.A (f (.int i t)<|.int j u) Q E s) :
    Bb X f (TL λi j=>.bl<|g i j):=by
  intro b s k H x y v u Q I c d h
  obtain⟨i,j,rfl,rfl,q⟩:=h
  obtain⟨t,rfl⟩:=c
  obtain⟨e,rfl⟩:=d
  exact a i j t e s _ _ #[.bl<|g i j,H,I,rfl,q]
def a1Q(i j:Int):Prop:=0<j/\j<1073741824
def a1R(i j:Int):Prop:=0<=j/\j<=1000000/\i.natAbs<2 ^ 64
def Xs(i j:Int):Prop:=(-(2 ^ 64)<i/\i<2 ^ 64)\/(-(2 ^ 64)<j/\j<2 ^ 64)
def Xs.ok{i j:Int}(h:Xs i j):IntMulOk i j:=by
 rcases h with⟨a,b⟩|⟨a,b⟩
 ·exact .of_left<|intBits_le_64 a b
 ·exact .of_right<|intBits_le_64 a b
def zJ:Bb X (mM .Add) (TL λi j=>.int<|i+j):=ZA λ_ _ _ _ _ _ _ q=>add_int q
def GQ:Bb X (mM .Sub) (TL λi j=>.int<|i-j):=ZA λ_ _ _ _ _ _ _ q=>sub_int q
def BA:Bb X (mM .Mult) (rI Xs λi j=>.int<|i*j):=opI λ_ _ _ _ _ _ _ a q=>mul_int q a.ok
def MB:Bb X (mM .FloorDiv) (rI a1Q λi j=>.int<|i / j):=opI λi j _ _ _ _ _ a q=>by have b:(0:Int)<j:=a.1;have c:j<1073741824:=a.2;exact floordiv_int q0d (by rw[Int.fdiv_eq_ediv_of_nonneg i q0d];exact q)<|.inl<|PyProof.noPylong_small q0d
def CI:Bb X (mM .Mod) (rI (λ_ j=>0<j) λi j=>.int<|i%j):=opI λi j _ _ _ _ _ a q=>by exact mod_int' q0a (by rw[Int.fmod_eq_emod_of_nonneg i q0a];exact q)
def Xt:Bb X (mM .Pow) (rI a1R λi j=>.int<|i ^ j.toNat):=opI λ_ _ _ _ _ _ _ a q=>pow_int_small a.1 a.2.1 a.2.2 q
def unI{f:cr->Sem cr}{g:Int->Int}
 (a:∀(i:Int)(t:Tok)(s:hR)(Q:cr->hR->Prop)(E:cr->hR->Prop),Q (.int (g i) s.toks) 99->hX 28 X.A (f<|.int i t) Q E s) :
    UnR X f (rU λi=>.int<|g i):=by
  intro b s d H x v Q I c h
  obtain⟨i,rfl,q⟩:=h
  obtain⟨t,rfl⟩:=c
  exact a i t s _ _ #[.int<|g i,H,I.tok _,#[_,rfl],q]
def Py:UnR X (unaryOp .USub) (rU λi=>.int (-i)):=unI λ_ _ _ _ _ q=>neg_int q
noncomputable def Xu:V->V->Bool
 | .wP,.wP=>true|.wP,.int _=>true|.int _,.wP=>true|.wP,.bl _=>true|.bl _,.wP=>true|.wP,.str _=>true|.str _,.wP=>true
 | .int _,.int _=>true|.bl _,.bl _=>true|.str _,.str _=>true|.My _,.My _=>true
 | .int _,.str _=>true|.str _,.int _=>true|.bl _,.str _=>true|.str _,.bl _=>true
 |_,_=>false
def rEq:R2:=λx y H Q=>Xu x y=true/\Q (.bl<|decide<|x=y) H
def rNe:R2:=λx y H Q=>Xu x y=true/\Q (.bl<|!decide (x=y)) H
def MC{i j:Int}:decide (V.int i=V.int j)=(i==j):=by rw[lF];simp
def Pz{i j:Bool}:decide (V.bl i=V.bl j)=(i==j):=by rw[lF];simp
def MD:decide (V.str i=V.str j)=(i==j):=by rw[lF];simp
def ME:decide (V.My i=V.My j)=(i.toList==j.toList):=by rw[lF];cases i;cases j;simp
def vT{k b:Bool}(I:Inv X a c H s)(q:Q (.bl k) H)(e:k=b):EP X a c Q (.bool b) s:=by subst e;exact#[.bl k,H,I,rfl,q]
def ZB:Bb X (jG .Eq) rEq:=by
 intro e s f H x y v u Q I d a h;obtain⟨c,q⟩:=h
 cases x with
 |wP =>
  cases d
  cases y with
  |wP=>cases a;exact PySem.EqNone.eq_none_none<|vT I q q0o
  |bl j=>cases a;exact PySem.EqNone.eq_none_bool<|vT I q q0o
  |int j=>obtain⟨b,rfl⟩:=a;exact PySem.EqNone.eq_none_int<|vT I q q0o
  |str j=>obtain⟨b,rfl⟩:=a;exact PySem.EqNone.eq_none_str<|vT I q q0o
  |_=>exact ii (show false=true from c) h8
 |bl i =>
  cases d
  cases y with
  |wP=>cases a;exact PySem.EqNone.eq_bool_none<|vT I q q0o
  |bl j=>cases a;exact eq_bool<|vT I q Pz
  |str j=>obtain⟨b,rfl⟩:=a;exact PySem.EqMixed.eq_bool_str<|vT I q q0o
  |_=>exact ii (show false=true from c) h8
 |int i =>
  obtain⟨t,rfl⟩:=d
  cases y with
  |wP=>cases a;exact PySem.EqNone.eq_int_none<|vT I q q0o
  |int j=>obtain⟨b,rfl⟩:=a;exact eq_int<|vT I q MC
  |str j=>obtain⟨b,rfl⟩:=a;exact PySem.EqMixed.eq_int_str<|vT I q q0o
  |_=>exact ii (show false=true from c) h8
 |str i =>
  obtain⟨t,rfl⟩:=d
  cases y with
  |wP=>cases a;exact PySem.EqNone.eq_str_none<|vT I q q0o
  |bl j=>cases a;exact PySem.EqMixed.eq_str_bool<|vT I q q0o
  |int j=>obtain⟨b,rfl⟩:=a;exact PySem.EqMixed.eq_str_int<|vT I q q0o
  |str j=>obtain⟨b,rfl⟩:=a;exact eq_str<|vT I q MD
  |_=>exact ii (show false=true from c) h8
 |My i =>
  obtain⟨t,rfl⟩:=d
  cases y with
  |My j=>obtain⟨b,rfl⟩:=a;exact PySem.W.eq_bytes<|vT I q ME
  |_=>exact ii (show false=true from c) h8
 |_=>cases y<;>exact ii (show false=true from c) h8
def ZC:Bb X (jG .NotEq) rNe:=by
 intro e s f H x y v u Q I d a h;obtain⟨c,q⟩:=h
 cases x with
 |wP =>
  cases d
  cases y with
  |wP=>cases a;exact PySem.EqNone.ne_none_none<|vT I q q0o
  |bl j=>cases a;exact PySem.EqNone.ne_none_bool<|vT I q q0o
  |int j=>obtain⟨b,rfl⟩:=a;exact PySem.EqNone.ne_none_int<|vT I q q0o
  |str j=>obtain⟨b,rfl⟩:=a;exact PySem.EqNone.ne_none_str<|vT I q q0o
  |_=>exact ii (show false=true from c) h8
 |bl i =>
  cases d
  cases y with
  |wP=>cases a;exact PySem.EqNone.ne_bool_none<|vT I q q0o
  |bl j=>cases a;exact ne_bool<|vT I q<|congrArg not Pz
  |str j=>obtain⟨b,rfl⟩:=a;exact PySem.EqMixed.ne_bool_str<|vT I q q0o
  |_=>exact ii (show false=true from c) h8
 |int i =>
  obtain⟨t,rfl⟩:=d
  cases y with
  |wP=>cases a;exact PySem.EqNone.ne_int_none<|vT I q q0o
  |int j=>obtain⟨b,rfl⟩:=a;exact ne_int<|vT I q<|congrArg not MC
  |str j=>obtain⟨b,rfl⟩:=a;exact PySem.EqMixed.ne_int_str<|vT I q q0o
  |_=>exact ii (show false=true from c) h8
 |str i =>
  obtain⟨t,rfl⟩:=d
  cases y with
  |wP=>cases a;exact PySem.EqNone.ne_str_none<|vT I q q0o
  |bl j=>cases a;exact PySem.EqMixed.ne_str_bool<|vT I q q0o
  |int j=>obtain⟨b,rfl⟩:=a;exact PySem.EqMixed.ne_str_int<|vT I q q0o
  |str j=>obtain⟨b,rfl⟩:=a;exact ne_str<|vT I q<|congrArg not MD
  |_=>exact ii (show false=true from c) h8
 |My i =>
  obtain⟨t,rfl⟩:=d
  cases y with
  |My j=>obtain⟨b,rfl⟩:=a;exact PySem.W.ne_bytes<|vT I q<|congrArg not ME
  |_=>exact ii (show false=true from c) h8
 |_=>cases y<;>exact ii (show false=true from c) h8
def Wx:Bb X (jG .Lt) (TL λi j=>.bl<|decide<|i<j):=T5 λ_ _ _ _ _ _ _ q=>lt_int q
def Wy:Bb X (jG .LtE) (TL λi j=>.bl<|decide<|i<=j):=T5 λ_ _ _ _ _ _ _ q=>le_int q
def Wz:Bb X (jG .Gt) (TL λi j=>.bl<|decide<|j<i):=T5 λ_ _ _ _ _ _ _ q=>gt_int q
def ZD:Bb X (jG .GtE) (TL λi j=>.bl<|decide<|j<=i):=T5 λ_ _ _ _ _ _ _ q=>ge_int q
def Xv:Bb X (jG .Is) (λx y H Q=>y=.wP/\Q (.bl<|decide<|x=.wP) H):=by
 intro a s d H x y v u Q I b c h;obtain⟨rfl,q⟩:=h;cases c;refine is_none_gen<|vT I q ?_
 cases x<;>first
  | (cases b;rfl)
  | (obtain⟨t,rfl⟩:=b;rfl)
def T6:Bb X (jG .IsNot) (λx y H Q=>y=.wP/\Q (.bl<|!decide (x=.wP)) H):=by
 intro a s d H x y v u Q I b c h;obtain⟨rfl,q⟩:=h;cases c;refine isnot_none_gen<|vT I q ?_
 cases x<;>first
  | (cases b;rfl)
  | (obtain⟨t,rfl⟩:=b;rfl)
def v0(b:iT)(h:op≠.In:=by decide)(a:op≠.NotIn:=by decide):jd op b=false:=by
 have c:(op==CmpOp.In)=false:=by cases op<;>first|rfl|exact ii rfl h
 have d:(op==CmpOp.NotIn)=false:=by cases op<;>first|rfl|exact ii rfl a
 cases b<;>simp[jd,c,d]
def GR(d:Bb X (jG op) r)(e:PE X a f)(g:PE X b i)(j:jd op b=false):PE X 118 (Zf r f i):=by intro c s k H Q I h;exact sU (Xr e g I h λv u l x y m n o p q=>d c l k m x y v u Q n o p q) j
def ZE(t:TE):TT:=λa H Q=>t a H λx b=>∃k,x=.bl k/\Q k b
def yf{g:qT}{r:R2}(l:Bb X (jG g) r)(m:PE X a n)(o:PE X b p)(q:jd g b=false):PT X (.Compare a [g] [b] pos) (ZE<|Zf r n p):=by
 intro d s i H Q I h
 refine uR (vU (m d s i H _ I h) λv t f=>e2a3 f λx w A B C=>vU (o d t i w _ A C) λu D f=>e2a3 f λy E F G J =>
  vU (l d D i E x y v u _ F B G J) λc P f=>e2a3 f λz L M N j=>e1a2 j λk e O=>?_) q
 subst e;cases N;exact kC #[L,M,O]
def ZF(K:gW)(x:V)(H:Hp)(k:Bool):Prop :=
 match x with
 | .wP=>k=false
 | .bl b=>k=b
 | .int i=>k=(i != 0)
 | .str y=>y.length<=hJ/\k=((y.length:Int) != 0)
 | .My y=>y.size<=hJ/\k=((y.size:Int) != 0)
 | .ref p=>(∃a,wD K H p a/\k=!a.isEmpty)\/(∃a,zn K H p a/\k=!a.isEmpty)\/∃c,H p=↑(.dK c)/\k=!c.isEmpty
 |_=>False
def Kx(r:KV a b):(!b.isEmpty)=!a.isEmpty:=by
 cases r<;>rfl
def Ee(r:Vals b a):(!a.toArray.isEmpty)=!b.isEmpty:=by
 cases r<;>simp
def Ef:(hJ:Nat)<2 ^ 63:=by rw[i7];decide
def Xw:a1P X (λx H Q=>∃k,ZF X.K x H k/\Q k H):=by
 intro u s C H x v Q I g h;refine e1a2 h λk e q=>?_;have D:hJ=16777216:=i7
 cases x with
 |wP =>
  cases g;have a:k=false:=e;subst a;exact truthy_none #[H,I,q]
 |bl b =>
  cases g;have a:k=b:=e;subst a;exact kC #[H,I,q]
 |int i =>
  obtain⟨t,rfl⟩:=g;have a:k=(i != 0):=e;subst a;exact PySem.P.truthy_int #[H,I,q]
 |str y =>
  obtain⟨t,rfl⟩:=g;obtain⟨A,a⟩:y.length<=hJ/\k=((y.length:Int) != 0):=e;subst a;exact PySem.P.truthy_str q0a #[H,I.tok _,q]
 |My y =>
  obtain⟨t,rfl⟩:=g;obtain⟨A,a⟩:y.size<=hJ/\k=((y.size:Int) != 0):=e;subst a;exact PySem.W.truthy_bytes q0a #[H,I.tok _,q]
 |ref p =>
  cases g;have a:(∃f,wD X.K H p f/\k=!f.isEmpty)\/(∃f,zn X.K H p f/\k=!f.isEmpty)\/∃c,H p=↑(.dK c)/\k=!c.isEmpty:=e;rcases a with⟨f,j,a⟩|⟨f,j,a⟩|⟨c,j,a⟩
  ·subst a;refine e1a3 (I.list j) λn r o z=>?_;have d:=r.length;exact wpAny_truthy_list o.isList (by simp only[ie];lia) #[H,I.tok _,by rw[Ee r];exact q]
  ·subst a;refine e1a3 (I.tuple j) λn r o z=>?_;have d:=r.length;exact truthy_tuple o (by simp only[ie];lia) #[H,I.tok _,by rw[Ee r];exact q]
  ·subst a;obtain⟨z,B,l,r,m⟩:c.length<=hJ/\(p==lq)=false/\∃l,KV c l/\s.heap.DictOf (vO X.prog X.w) p l:=I.vW p _ j;have d:c.length=l.length:=Paired.length r;exact wpAny_truthy_dict B m q0a #[H,I.tok _,by rw[Kx r];exact q]
 |_=>exact(show False from e).elim
def Je(f:PE X a g)(i:∀b,qW a X.env b=(do let v <- b;ng a.pos;k9 [v] (uE v))) :
  PT X a (λd H Q=>g d H λx e=>∃k,ZF X.K x e k/\Q k e):=by
 intro c s d H Q I h;exact isTrue_plain (vU (f c s d H _ I h) λv j l=>e2a3 l λx m n o p=>Xw c j d m x v Q n o p)<|i _
def vals1(r:Vals [x] a):∃u,a=[u]/\RelV x u:=by
 cases r with
 |cons b c=>cases c;exact#[_,rfl,b]
def vals2(r:Vals [x,y] b):∃u a,b=[u,a]/\RelV x u/\RelV y a:=by
 cases r with
 |cons c d =>
  cases d with
  |cons e f=>cases f;exact#[_,_,rfl,c,e]
structure Ky(h:iX)(x dx C:gV)(mA:Str->Option cr):Prop where
 obj:h.get? x=↑(kQ C dx)
 ns:h.Ns1 dx mA
 ne:dx≠x
set_option tactic.hygienic true in
def NP{h:iX}{c:gV}{d:Str->Option cr}(n:h.Ns1 c d):∃f,h.get? c=↑f/\∀name,pf name f=↑(d name):=by
 obtain⟨o,g,r,i,j,k,_,l⟩:=n;refine#[o,i,λname=>?_];have e:=l name;unfold nsFind findBy at e;rw[<- tZ]at e;unfold pf;rw[j];dsimp only;split
 ·rename_i y q
  rw[q]at e;exact congrArg some e
 ·rename_i q
  rw[q]at e
  have a:g.toList.any (·.refKey)=false:=by rw[List.any_eq_false];intro y m;obtain⟨z,t,b⟩:=k y<|Array.mem_toList_iff.mp m;simp[DictEntry.refKey,b]
  have p:¬g.toList.any (·.refKey)=true:=by rw[a];exact h8
  rw[ci p];exact congrArg some e
def Ky.look{C:gV}(I:Ky h x b C c):∃a,PySem.W.InstAt h x (kQ C b) C ↑a/\∀name,pf name a=↑(c name) :=
 e1a2 (NP I.ns) λa d e =>
 #[a,#[I.obj,rfl,rfl,d],e]
section
variable{prog:iJ}{w:jb}{A:jF}{E:cr->hR->Prop}{s:hR}{K:gW}{x dx C f:gV}{mA:Str->Option cr}{name:Str}{v:cr}
def get_map{a:Bool}(X:K.In s.heap)(I:Ky s.heap x dx C mA)(c:mW K C name=true)(d:n8 K C=true)
 (e:iF K (.ref C) name=↑none) (g:mA name=↑v) (b:t6 v=true) (h:Q v 99) :
    hX (hZ prog w) A (getAttr (.ref x) name a) Q E s:=by
  refine e1a2 I.look λj J i=>?_
  exact PySem.W.get_value X J (pI c).1 (PySem.W.findObj_own d e rfl<|by rw[i,g]) b h
def PB(X:K.In s.heap)(I:Ky s.heap x dx C mA)(a:mW K C name=true)
 (b:iF K (.ref C) name=↑(some<|.ref f)) (c:oN K (.ref f)=true) (d:mA name=none) (h:Q (.ref f,[.ref x]) s) :
    hX (hZ prog w) A (mY (.ref x) name i) Q E s:=by
  refine e1a2 I.look λe J g=>?_
  exact PySem.W.method_fn X J (pI a).1 (pI a).2 b (beq_iff_eq.mp c) (by show (pf name e).map (·.isSome)=↑false;rw[g,d];rfl) h
def T7(X:K.In s.heap)(I:Ky s.heap x dx C mA)
 (l:iF K (.ref C) "__setattr__"=↑108) (m:qk K C=true) (n:qJ K C name=↑none) (o:n8 K C=true)
 (hw:sx mA p) (q:p.length<=hJ)
 (h:∀e,Ky e x dx C (λy=>if y=name then some v else mA y)->jg dx s.heap e->Q () { s with heap:=e,toks:=s.toks+2}) :
    hX (hZ prog w) A (setAttr (.ref x) name v) Q E s:=by
  refine e1a2 I.look λD J F=>?_
  refine PySem.W.set_plain X J l<|PySem.W.osa_open (s:=99) (r:=none) X J m n λb=>?_
  refine e1a2 (PySem.W.any_some o) λG t g=>?_
  have u:s.heap.get? x=some #[.ref C,↑dx,.plain,#v[]]:=I.obj
  refine am<|ap<|am<|am<|wpAny_loadPart u<|am<|PySem.W.Looks.here (s:=99) (pJ X t) ?_
  rw[g]
  refine ap (a:=↑dx)<|am<|ap<|am ?_
  refine wpAny_nsSet1 (s:=99) I.ns λe c d=>?_
  obtain⟨H,z,B,i,j,k⟩:=c.count<|PySem.Within.cons name v hw
  refine am<|wpAny_lookBehind i (by rw[j];exact pastItsLine_dict<|iK k<|by rw[iz];lia) ?_
  exact ap<|h _ #[(d.2 _<|Ne.symm I.ne).trans I.obj,c,I.ne] d
def PD(X:K.In s.heap)(c:qK K C=true)
 (e:iF K (.ref C) "__init__"=↑(some<|.ref f)) (i:ph K (.ref f)=↑(.type "function"))
 (h:mS (hZ prog w) (A.under (.builtin "type.__call__" #[.ref C::a,b])) (.call (.ref f) #[.ref (⇑s+1)::a,b]) (PySem.W.InitBack (⇑s+1) R)
 { s with heap:=(s.heap.push jZ).push (kQ C ⇑s)}) :
    mS (hZ prog w) A (.call (.ref C) #[a,b]) R s:=by
  obtain⟨j,g,d,t,k⟩:=s
  exact PySem.W.make_core (PySem.W.makes_of X c) (pi X e) (λself=>PySem.W.bind_fn X self i) (.inl rfl) h
end
noncomputable def An(f:Str)(v:V):List (Str×V)->List (Str×V)
 | []=>[(f,v)]
 | (g,x)::r=>if g=f then (g,v)::r else (g,x)::An f v r
def Jf(f g:Str)(v:V):∀d:List (Str×V),(An f v d).lookup g=if g=f then some v else d.lookup g:=by
 intro i
 induction i with
 |nil =>
  show kG g [(f,v)]=_;by_cases h:g=f
  ·have a:(g==f)=true:=beq_iff_eq.mpr h;simp only[kG,a,gU h]
  ·have a:(g==f)=false:=beq_eq_false_iff_ne.mpr h;simp only[kG,a,ci h]
 |cons j r c =>
  obtain⟨k,x⟩:=j;have l:=c;rw[show An f v ((k,x)::r)=(if k=f then (k,v)::r else (k,x)::An f v r) from rfl];by_cases b:k=f
  ·rw[gU b];by_cases h:g=k
   ·have a:(g==k)=true:=beq_iff_eq.mpr h;simp only[kG,a,gU<|h.trans b]
   ·have a:(g==k)=false:=beq_eq_false_iff_ne.mpr h;simp only[kG,a,ci (λe:g=f=>h<|e.trans b.symm)]
  ·rw[ci b];by_cases h:g=k
   ·have a:(g==k)=true:=beq_iff_eq.mpr h;simp only[kG,a,ci (λe:g=f=>b<|h.symm.trans e)]
   ·have a:(g==k)=false:=beq_eq_false_iff_ne.mpr h;simp only[kG,a];exact l
def Ga(f:Str)(v:V):∀a:List (Str×V),f∈(An f v a).map (·.1)/\∀g,g∈a.map (·.1)->g∈(An f v a).map (·.1):=by
 intro d
 induction d with
 |nil=>exact#[by simp[An],λg h=>by simp at h]
 |cons i r b =>
  obtain⟨k,x⟩:=i;obtain⟨j,l⟩:=b;rw[show An f v ((k,x)::r)=(if k=f then (k,v)::r else (k,x)::An f v r) from rfl];by_cases c:k=f
  ·rw[gU c];subst c;exact#[q0o,λg h=>by simpa using h]
  ·rw[ci c];refine#[?_,λg h=>?_]
   ·rw[iC];exact hI _ j
   ·rw[iC]at h ⊢;rcases List.mem_cons.mp h with e|e
    ·exact List.mem_cons.mpr<|.inl e
    ·exact hI _<|l g e
def Dm(f:Str)(v:V):∀a:List (Str×V),(An f v a).length<=a.length+1
 | []=>by simp[An]
 | (k,x)::r=>by
  have c:=Dm f v r;rw[show An f v ((k,x)::r)=(if k=f then (k,v)::r else (k,x)::An f v r) from rfl];by_cases b:k=f
  ·rw[gU b,iz,iz];lia
  ·rw[ci b,iz,iz];lia
def zB.some_of(r:zB ↑v o):∃u,o=↑u/\RelV v u:=by
 cases o with
 |none=>exact(show False from r).elim
 |some u=>exact#[u,rfl,r]
def zB.none_of(r:zB none o):o=none:=by
 cases o with
 |none=>rfl
 |some u=>exact(show False from r).elim
def NQ(r:RelV v u):t6 u=true:=by
 cases v with
 |wP=>cases (show u=Value.none from r);rfl
 |bl b=>cases (show u=rC b from r);rfl
 |int i=>obtain⟨t,e⟩:=(show ∃t,u=l8 i t from r);cases e;rfl
 |str x=>obtain⟨t,e⟩:=(show ∃t,u=Value.str x t from r);cases e;rfl
 |My b=>obtain⟨t,e⟩:=(show ∃t,u=Value.bytes b t from r);cases e;rfl
 |W8 b=>obtain⟨t,e⟩:=(show ∃t,u=sT b t from r);cases e;rfl
 |ref a=>cases (show u=iq a from r);rfl
 |ty n=>cases (show u=kj n from r);rfl
def BN(c:yi P w H h)(e:H a=↑(.ins C g fs)):∃b,Ky h a g C b/\(∀f,zB (fs.lookup f)<|b f)/\sx b (fs.map (·.1))/\fs.length<=1000/\H g=↑(.own a):=by obtain⟨d,z,i,j,b,n,r,q⟩:=(show wp P w H h a (.ins C g fs) from c a _ e);exact#[b,#[j,n,i],r,q,z,d]
structure Bc(K:gW)(C:gV):Prop where
 pg:mW K C Str.empty=true
 hd:n8 K C=true
 po:qk K C=true
 sa:iF K (.ref C) "__setattr__"=↑108
def Bc.get{K:gW}{C:gV}(c:Bc K C)(f:Str):mW K C f=true:=c.pg
def v9(K:gW)(C:gV)(f:Str):Prop:=iF K (.ref C) f=↑none
def v9.ZG{K:gW}{C:gV}{f:Str}(n:v9 K C f):qJ K C f=↑none:=by unfold qJ;rw[show iF K (.ref C) f=some none from n];rfl
structure Meth(K:gW)(C:gV)(m:Str)(f:gV):Prop where
 at_:iF K (.ref C) m=↑(some<|.ref f)
 fn:oN K (.ref f)=true
 kp:jt K (.ref f)=true
def Kz{b:Bool}(I:Inv X d j H s)(e:H a=↑(.ins C p fs))(c:Bc X.K C)(n:v9 X.K C f)(l:fs.lookup f=↑v)
 (h:∀u g,Inv X d j H g->RelV v u->Q u g):hX 28 A (getAttr (.ref a) f b) Q E s:=by
  obtain⟨k,O,r,_,_,_⟩:=BN I.vW e
  obtain⟨u,m,i⟩:=zB.some_of (v:=v) (o:=k f) (by rw[<- l];exact r f)
  exact get_map I.yZ O (c.get f) c.hd n m (NQ i)<|h u _ (I.tok _) i
def BB(I:Inv X b i H s)(e:H a=↑(.ins C j fs))(c:Bc X.K C)(k:Meth X.K C m g)(l:fs.lookup m=none)
 (h:Q (.ref g,[.ref a]) s):hX 28 A (mY (.ref a) m n) Q E s:=by
  obtain⟨d,O,r,_,_,_⟩:=BN I.vW e
  have f:d m=none:=zB.none_of (by rw[<- l];exact r m)
  exact PB I.yZ O (c.get m) k.at_ k.fn f h
def KA(I:Inv X d t H s)(e:H a=↑(.ins C i fs))(c:Bc X.K C)(n:v9 X.K C f)(N:fs.length<1000)(v:RelV y u)
 (h:∀k,Inv X d t (upd H a<|.ins C i<|An f y fs) k->Q () k):hX 28 A (setAttr (.ref a) f u) Q E s:=by
  obtain⟨l,O,r,m,_,p⟩:=BN I.vW e
  have B:(fs.map (·.1)).length<=hJ:=by rw[hO,i7];lia
  refine T7 I.yZ O c.sa c.po n.ZG c.hd m B λD j F=>h _ ?_
  have G:∃o,D.get? i=↑o:=e3a2 j.ns λo _ _ J _=> #[o,J]
  refine I.write (x:=a) (e:=i) (by rw[e];exact True.intro) (.inr p) (λb q L z=>(F.2 b L).trans z) G ?_
  refine#[by rw[ve O.ne];exact p,?_,O.ne,j.obj,_,j.ns,λg=>?_,λg M=>?_]
  · have := Dm f y fs; lia
  · show zB ((An f y fs).lookup g) (if g = f then some u else l g)
    rw[Jf]
    by_cases q:g=f
    · rw[gU q, gU q]; exact v
    · rw[ci q, ci q]; exact r g
  · by_cases q : g = f
    · rw[q]; exact(Ga f y fs).1
    · refine(Ga f y fs).2 g (m g λz => M ?_)
      show (if g=f then some u else l g)=none
      rw[ci q];exact z
def Inv.made(I:Inv X c g H s):Inv X c g (upd (upd H ⇑s<|.own<|⇑s+1) (⇑s+1)<|.ins C ⇑s [])
  { s with heap:=(s.heap.push jZ).push (kQ C ⇑s)}:=by
 have d:(s.heap.push jZ).get? ⇑s=↑jZ:=ic s.heap rfl
 have h:((s.heap.push jZ).push<|kQ C ⇑s).get? (⇑s+1)=↑(kQ C ⇑s):=by
  have:=ic (s.heap.push jZ) (o:=kQ C ⇑s) rfl
  rwa [jK]at this
 have i:(s.heap.push jZ).Ns ⇑s (λ_=>none):=#[jZ,#v[],_,d,rfl,(λe j=>ii j q0o),λ_=>rfl];have k:=I.laid (a:=⇑s) (o:=.own<|⇑s+1) (h':=s.heap.push jZ) (t':=s.toks) (λb u q=>ce _ q) (gZ _) #[_,d];refine k.laid (a:=⇑s+1) (o:=.ins C ⇑s []) (t':=s.toks) (λb u q=>ce _ q) (qL<|jK _ _) ?_;have f:⇑s≠⇑s+1:=ij<|jE _;refine⟨by rw[ve f,vh],jj _,f,h,λ_=>none,(sW i).at λo q=>ce _ q,λ_=>True.intro,λy l=>ii rfl l⟩
def T8(d:iP e f a (eval e a)=eval e a)
 (h:hX (hZ b w) A (eval e a) (λo c=>hX (hZ b w) A (getAttr o f true) Q E c) E s):hX (hZ b w) A (eval (.Attribute e f pos) a) Q E s :=
  Attribute_any_ h (by rw[arm_eval_Attribute,d])
def Xx(K:gW)(d:TE)(f:Str):TE:=λe H Q=>d e H λx b=>∃a C g c v,x=.ref a/\b a=↑(.ins C g c)/\Bc K C/\v9 K C f/\c.lookup f=↑v/\Q v b
def NR(K:gW)(g h:TE)(f:Str):TS:=λD b H=>h b H λy i=>g b i λx d=>∃a C e c,x=.ref a/\d a=↑(.ins C e c)/\Bc K C/\v9 K C f/\c.length<1000 /\
 D.nx b (upd d a<|.ins C e<|An f y c)
def ZH(X:Cx)(c:Operator)(d:V->V->Hp->VK->Prop):Prop :=
 ∀(a:List (gV×Obj)) (s:hR) (b:St) (H:Hp) (x y:V) (u v:cr) (Q:VK),Inv X a b H s->RelV x u->RelV y v->d x y H Q->hX 28 X.A (inplaceOp c u v) (EP X a b Q) X.xe s
def xh(g:PE X e i)(j:iP e f X.env (eval e X.env)=eval e X.env):PE X (.Attribute e f pos) (Xx X.K i f):=by intro b s k H Q I h;refine T8 j<|vU (g b s k H _ I h) λu z m=>e2a3 m λx H1 o p d=>e5a6 d λa C A fs v r t c n l q=>?_;subst r;obtain rfl:u=iq a:=p;exact Kz o t c n l λB D w y=>#[v,H1,w,y,q]
def CJ(j:PE X o k)(m:PE X value p)(r:kd value (some<|.Attribute o f d) pos.line X.env=pure false):PS X (.Assign [.Attribute o f d] value pos) (NR X.K k p f):=by intro b s g H D I h;refine rO (vU (m b s g H _ I h) λu t i=>e2a3 i λy H1 v w q=>vU (j b t g H1 _ v q) λz L i=>e2a3 i λx H2 A B e=>e4a6 e λa C M fs E F c n l G=>?_) r;subst E;obtain rfl:z=iq a:=B;exact KA A F c n l w λN J=>#[g,_,J,G]
inductive zK(K:gW)(H:Hp):V->cr->Prop where
 | wP:zK K H .wP (.type "NoneType")
 | bl (x:Bool):zK K H (.bl x) (.type "bool")
 | int (i:Int):zK K H (.int i) (.type "int")
 | str (x:Str):zK K H (.str x) (.type "str")
 | W8 (x:UInt64):zK K H (.W8 x) (.type "float")
 | lst {a:gV} {xs:List V} (e:H a=↑(.lst xs)):zK K H (.ref a) (.type "list")
 | Km {a:gV} {o:Obj} {xs:List V} (e:H a=↑(.Km o<|.lst xs)):zK K H (.ref a) (.type "list")
 | tup {a:gV} {xs:List V} (e:H a=↑(.tup xs)):zK K H (.ref a) (.type "tuple")
 | dK {a:gV} {xF:List (Key×V)} (e:H a=↑(.dK xF)):zK K H (.ref a) (.type "dict")
 | dT {a:gV} {xF:List (List Key×V)} (e:H a=↑(.dT xF)):zK K H (.ref a) (.type "dict")
 | ins {a C dx:gV} {fs:List (Str×V)} (e:H a=↑(.ins C dx fs)) (cl:Bc K C) (ha:iF K (.ref C) "__class__"=↑(some<|.builtin "object.__class__"))
   (hn:PySem.W.specialIn K (.builtin "object.__class__") "__get__"=↑(some<|.builtin "getset_descriptor.__get__")) (htk:PySem.W.takesIn K (.builtin "object.__class__")=↑true)
   (hm:lw K C (.type "object")=↑true):zK K H (.ref a) (.ref C)
def NS(I:Inv X r R H s)(d:RelV x u)(B:zK X.K H x t)(e:qZ X.K t c=↑b)(h:∀D,Q (.bool b) { s with toks:=D}) :
  hX 28 A (call (.builtin "isinstance") [u,c]) Q E s:=by
 cases B with
 |wP=>cases (show u=Value.none from d);exact jR PySem.W.kitx_none I.yZ True.intro e (λz=>nomatch z) h
 |bl y=>cases (show u=rC y from d);exact jR PySem.W.kitx_bool I.yZ True.intro e (λz=>nomatch z) h
 |int i=>obtain⟨t,q⟩:=(show ∃t,u=l8 i t from d);cases q;exact jR PySem.W.kitx_int I.yZ True.intro e (λz=>nomatch z) h
 |str y=>obtain⟨t,q⟩:=(show ∃t,u=Value.str y t from d);cases q;exact jR PySem.W.kitx_str I.yZ True.intro e (λz=>nomatch z) h
 |W8 y=>obtain⟨t,q⟩:=(show ∃t,u=sT y t from d);cases q;exact jR PySem.W.kitx_float I.yZ True.intro e (λz=>nomatch z) h
 | @lst a k f =>
  cases (show u=iq a from d);obtain⟨_,_,n,_,g⟩:=(show wp X.prog X.w H s.heap a (.lst k) from I.vW a _ f);exact jR tS I.yZ #[_,g,rfl] e (λz=>nomatch z) h
 | @Km a F k f =>
  cases (show u=iq a from d);obtain⟨_,_,_,n,_,g⟩:=(show wp X.prog X.w H s.heap a (.Km F<|.lst k) from I.vW a _ f);exact jR tS I.yZ ⟨_,g,rfl⟩ e (λz=>nomatch z) h
 | @tup a k f =>
  cases (show u=iq a from d);obtain⟨_,_,_,p⟩:=(show wp X.prog X.w H s.heap a (.tup k) from I.vW a _ f);refine e1a3 p λo g l _=>?_;exact jR PySem.W.kitx_tuple I.yZ #[o,g,l] e (λz=>nomatch z) h
 | @dK a j f =>
  cases (show u=iq a from d);obtain⟨_,_,S,_,p⟩:=(show wp X.prog X.w H s.heap a (.dK j) from I.vW a _ f);obtain⟨o,G,L,g,l,_⟩:=p;exact jR tT I.yZ #[o,g,l.1] e (λz=>nomatch z) h
 | @dT a j f =>
  cases (show u=iq a from d);obtain⟨_,_,k,_,o,G,L,g,l,_⟩:=(show wp X.prog X.w H s.heap a (.dT j) from I.vW a _ f);exact jR tT I.yZ #[o,g,l.1] e (λz=>nomatch z) h
 | @ins a C T fs f v M N m P =>
  cases (show u=iq a from d);refine e1a2 (BN I.vW f) λU O _=>?_;refine e1a2 O.look λY J _=>?_;exact jR (PySem.W.kitx_own (v.get _) v.hd M N m P) I.yZ J e (λz=>nomatch z) h
structure wI(k:Nat)(A:jF):Prop where
 hd:A.handled=none
 dp:A.depth+3*k+5<sX
 un:A.units+16*k+200<kT
def wI.mono{j k:Nat}(r:wI k A)(h:j<=k):wI j A:=#[r.hd,by have:=r.dp;lia,by have:=r.un;lia]
def wI.deeper{k:Nat}(r:wI (k+1) A)(a:Env):wI k (A.deeper a) :=
 #[r.hd,by have:=r.dp;show A.depth+1+3*k+5<_;lia,by have:=r.un;show A.units+3+16*k+200<_;lia]
def KC{A:jF}{C:gV}{a:List cr}{b:List (Str×cr)}:(A.under<|.builtin "type.__call__" #[.ref C::a,b]).depth=A.depth+1:=by
 first|rfl|simp[se,Code.weight,Code.isCreation,Code.isGuard,Code.isCaller,Code.frames,sM,guardIds]
def KD{A:jF}{C:gV}{a:List cr}{b:List (Str×cr)}:(A.under<|.builtin "type.__call__" #[.ref C::a,b]).units=A.units+1:=by
 first|rfl|simp[se,Code.cUnits,Code.frames,sM]
def wI.make{k:Nat}(r:wI (k+1) A)(C:gV)(a:List cr)(b:List (Str×cr)):wI k (A.under<|.builtin "type.__call__" #[.ref C::a,b]) :=
 #[r.hd,by have:=r.dp;rw[KC];lia,by have:=r.un;rw[KD];lia]
def wI.depth{k:Nat}(r:wI k A):A.depth<sX:=by have:=r.dp;lia
def wI.units{k:Nat}(r:wI k A):A.units+64<kT:=by have:=r.un;lia
def BC:TA:=λ_ H Q=>Q [] H
def Bj(b:TE)(c:TA):TA:=λa H Q=>b a H λx d=>c a d λe f=>Q (x::e) f
def vB:PA X [] BC:=λ_ _ _ _ H Q I h=>lH #[[],H,I,.nil,h]
def vn(g:PE X e i)(j:PA X b t)(k:gX (e::b) X.env=67::gX b X.env:=by rfl):PA X (e::b) (Bj i t):=by intro c a s f H Q I h;rw[k];refine kf<|vU (g a s f H _ I h) λu l d=>e2a3 d λx m n o p=>?_;exact vU (j c a l f m _ n p) λz A d=>e2a3 d λq r v w y=>#[x::q,r,v,.cons o w,y]
def a1S(t:TA):TE:=λc H Q=>t c H λa b=>a.length<=hJ/\∀p,b p=none->Q (.ref p) (upd b p<|.tup a)
def a1T(t:TA):TE:=λc H Q=>t c H λa b=>a.length<=hJ/\∀p,b p=none->Q (.ref p) (upd b p<|.lst a)
def PF{g}(h:PA X i t):PE X (.Tuple i g pos) (a1S t):=by intro a s j H Q I k;refine wpAny_Tuple_spliced<|vU (h pos a s j H _ I k) λl c m=>e2a4 m λn d f r z q=>#[by rw[<- r.length];exact z,?_];have o:d ⇑c=none:=f.vW.fresh<|gZ _;refine⟨.ref ⇑c,upd d ⇑c<|.tup n,f.laid (t':=c.toks) (λb u e=>ce _ e) (gZ _) ?_,rfl,q _ o⟩;exact#[z,l,r,#[_,ic _ rfl,rfl,_,rfl]]
def PH(h:PA X g t):PE X (.List g pos) (a1T t):=by intro a s i H Q I j;refine wpAny_List_spliced<|vU (h pos a s i H _ I j) λk c l=>e2a4 l λm d f r z q=>#[by rw[<- r.length];exact z,?_];have n:d ⇑c=none:=f.vW.fresh<|gZ _;refine⟨.ref ⇑c,upd d ⇑c<|.lst m,f.laid (t':=c.toks) (λb u e=>ce _ e) (gZ _) ?_,rfl,q _ n⟩;exact#[z,k,0,r,ic _ rfl]
abbrev Sp:=List V->Hp->VK->XK->Prop
abbrev PJ:=List Env->Hp->hR->XK->cr->hR->Prop
structure Jg(P:iJ)(w:jb)(K:gW)(mg:Str->Option cr)(base:iX)(A:jF)(outer:List Env)(s:hR)(H:Hp):Prop where
 frames:A.frames=↑outer
 mod:Mod K mg base
 bs:∀b o,base.get? b=↑o->s.heap.get? b=↑o/\H b=none
 IY:base.objs.size<=⇑s
 yT:s.heap.FunFrames base outer
 Ki:∀b∈zy outer,H b=none
 vW:yi P w H s.heap
 bare:nQ s.gens
def CE(a:List Env)(P:iJ)(w:jb)(H:Hp)(s:hR)(Q:VK)(u:cr)(b:hR):Prop :=
 ∃v c,b.os=s.os/\nQ b.gens/\Un (zy a) [] H c s.heap b.heap/\yi P w c b.heap/\RelV v u/\Q v c
def CR(c:PJ)(a:List Env)(P:iJ)(w:jb)(H:Hp)(s:hR)(Q:VK)(E:XK)(r:Result)(b:hR):Prop :=
 match r with
 | .ok (.ret u)=>CE a P w H s Q u b
 | .ok _=>False
 | .error e=>c a H s E e b
structure vR(P:iJ)(w:jb)(K:gW)(mg:Str->Option cr)(base:iX)(CX:PJ)(k:Nat)(f:gV)(fd:iQ)(ps:List Str)(sp:Sp):Prop where
 len:∀vs H Q E,sp vs H Q E->vs.length=ps.length
 run:∀(A:jF)(outer:List Env)(s:hR)(H:Hp)(args:Args)(us:List cr)(vs:List V)(Q:VK)(E:XK),wI k A->Jg P w K mg base A outer s H->sN s fd args (ps.zip us)->Vals vs us->sp vs H Q E ->
  mS (hZ P w) A (.call (.ref f) args) (CR CX outer P w H s Q E) s
def vR.mono{P:iJ}{w:jb}{K:gW}{c:Str->Option cr}{a:iX}{d:PJ}{j k:Nat}{f:gV}{e:iQ}{g:List Str}{i:Sp}(F:vR P w K c a d j f e g i)(h:j<=k) :
  vR P w K c a d k f e g i:=#[F.len,λA b s H args l m Q E n=>F.run A b s H args l m Q E<|n.mono h]
def vR.imp{P:iJ}{w:jb}{K:gW}{e:Str->Option cr}{a:iX}{g:PJ}{k:Nat}{f:gV}{i:iQ}{j:List Str}{l d:Sp}(F:vR P w K e a g k f i j l)
  (h:∀c H Q E,d c H Q E->l c H Q E):vR P w K e a g k f i j d :=
 #[λc H Q E q=>F.len c H Q E<|h _ _ _ _ q,λA b s H args m c Q E n o p r t=>F.run A b s H args m c Q E n o p r<|h _ _ _ _ t]
def Jg.make{P:iJ}{w:jb}{K:gW}{c:Str->Option cr}{b:iX}{A:jF}{a:List Env}{s:hR}{H:Hp}(e:Jg P w K c b A a s H)(C:gV)(d:List cr)(f:List (Str×cr)) :
  Jg P w K c b (A.under<|.builtin "type.__call__" #[.ref C::d,f]) a s H:=#[by first|exact e.frames|(simpa[se,Code.envs,sM,pushEnvs] using e.frames),e.mod,e.bs,e.IY,e.yT,e.Ki,e.vW,e.bare]
def Inv.Jh(I:Inv X a b H s):Jg X.prog X.w X.K X.mg X.base X.A X.stack s H :=
 #[I.ok.frames,I.ok.mod,I.bs,iK I.ok.IY I.sz,I.stack,I.Mz,I.vW,I.bare]
def Inv.after(I:Inv X a j H s)(h:CE X.stack X.prog X.w H s Q u i):EP X a j Q u i:=by obtain⟨v,k,l,c,m,e,r,q⟩:=h;obtain⟨n,g,d,t,f⟩:=i;obtain rfl:f=s.os:=l;exact#[v,k,I.call (h':=n) (g':=g) (d':=d) (t':=t) (ch:=[]) m e c<|λb z=>ii z q0o,r,q]
def ZI(b:Sp)(a:List V)(E:XK)(t:TA):TE:=λc H Q=>t c H λd e=>b (d++a) e Q E
def Gb(C:gV)(m:Str)(f:Sp)(b:List V)(E:XK)(g:TE)(t:TA):TE:=λc H Q=>g c H λx d=>∃a h e,x=.ref a/\d a=↑(.ins C h e)/\e.lookup m=none /\
 t c d λi j=>f (x::(i++b)) j Q E
def ZJ(C:gV)(d:Sp)(b:List V)(E:XK)(t:TA):TE:=λe H Q=>t e H λf c=>∀x a,c x=none->c a=none->a≠x ->
 d (.ref x::(f++b)) (upd (upd c a<|.own x) x<|.ins C a []) (λv g=>v=.wP/\Q (.ref x) g) E
def Binds(K:gW)(d:iQ)(b:List Str)(c:List cr):Prop :=
 ∀(s:hR)(a:List cr),K.In s.heap->(a++c).length=b.length->sN s d #[a,[]] (b.zip<|a++c)
def Binds.all{K:gW}{b:List Str}(h:∀a:List cr,a.length=b.length->sY d #[a,[]]=pure (b.zip a)):Binds K d b []:=λs a _ c=>by rw[ko]at c ⊢;exact .of_eq<|h a c
def Passes(c:PJ)(X:Cx)(E:XK):Prop:=∀(a:List (gV×Obj)) (d:St) (H:Hp) (s:hR) (e:cr) (b:hR),Inv X a d H s->c X.stack H s E e b->X.xe e b
def KG(F:vR X.prog X.w X.K X.mg X.base l k f m g n)(o:wI k X.A)(p:Binds X.K m g d)(q:Vals b d)(t:Passes l X E)
 (I:Inv X a i H s)(r:Vals vs us)(h:n (vs++b) H Q E):hX 28 X.A (call (.ref f) us) (EP X a i Q) X.xe s:=by
  have j:Vals (vs++b) (us++d):=r.append q
  have v:(us++d).length=g.length:=by rw[<- j.length];exact F.len _ _ _ _ h
  refine mX<|j7 (F.run X.A X.stack s H ⟨us,[]⟩ (us++d) (vs++b) Q E o I.Jh (p s us I.yZ v) j h) λr x c=>?_
  cases r with
  |error e=>exact t a i H s e x I c
  |ok y =>
    cases y with
    |ret u=>exact I.after c
    |next=>exact iL c
    |brk=>exact iL c
    |cont=>exact iL c
def T9(F:vR X.prog X.w X.K X.mg X.base j k f l m n)(o:wI k X.A)(u:Gl X x)(v:X.mg x=↑(.ref f))(y:jt X.K (.ref f)=true)(z:Binds X.K l m B)(C:Vals c B)(D:Passes j X E)
 (G:PA X (e::b) t) (d:(x==66)=false:=by decide) (J:gX (e::b) X.env=67::gX b X.env:=by rfl) (g:(jx pos<|gX b X.env).any (·.1)=false:=by rfl) :
    PE X (.Call (.Name x p) (e::b) [] pos) (ZI n c E t):=by
  intro a s L H Q I h
  refine kU<|zD I u v ?_ d
  refine pX (h₀:=X.base) I.ok.mod.BK y (vU (G pos a s L H _ I h) λN O M=>e2a3 M λP R i r q=>#[i.yZ,?_]) J g
  exact KG F o z C D i r q
def Ua{v:Sem Bool}(J:PE X o L)(c:Bc X.K C)(y:Meth X.K C m f)(F:vR X.prog X.w X.K X.mg X.base M k f N O P)(R:wI k X.A)(S:Binds X.K N O T)(hd:Vals i T)(U:Passes M X E)(Y:PA X (e::d) t)
  (j:gX (e::d) X.env=67::gX d X.env:=by rfl) (n:(jx pos<|gX d X.env).any (·.1)=false:=by rfl)
  (ht:eval (.Call (.Attribute o m apos) (e::d) [] pos) X.env=(do
   let z <- eval o X.env
   ng apos.atName
   let (f,first) <- k9 [z] (mY z m v)
   nV pos f first (jx pos (gX (e::d) X.env)) (ni pos (lh [] X.env))):=by rfl) :
  PE X (.Call (.Attribute o m apos) (e::d) [] pos) (Gb C m P i E L t):=by
 intro b s B H Q I h;refine oW (pl:=v) (vU (J b s B H _ I h) λu Z p=>e2a3 p λx H1 D rx g=>e3a4 g λa dx fs ex ea l q=>?_) ht;subst ex;obtain rfl:u=iq a:=rx;refine BB D ea c y l ?_;refine pX (first:=[.ref a]) (h₀:=X.base) I.ok.mod.BK y.kp (vU (Y pos b Z B H1 _ D q) λus s2 p=>e2a3 p λvs H2 G r q2=>#[G.yZ,?_]) j n
 exact KG (us:=.ref a::us) (vs:=.ref a::vs) F R S hd U G (.cons rfl r) q2
def PL(n:PE X o p)(c:Bc X.K C)(i:Meth X.K C m f)(F:vR X.prog X.w X.K X.mg X.base r k f t v y)(z:wI k X.A)(B:Binds X.K t v D)(hd:Vals e D)(G:Passes r X E)
 (ht:eval (.Call (.Attribute o m apos) [] [] pos) X.env=(do
 let j <- eval o X.env
 ng apos.atName
 let (f,first) <- k9 [j] (mY j m J)
 nV pos f first (jx pos (gX [] X.env)) (ni pos (lh [] X.env))):=by rfl) :
    PE X (.Call (.Attribute o m apos) [] [] pos) (Gb C m y e E p BC):=by
  intro b s L H Q I h
  refine oW (pl:=J) (vU (n b s L H _ I h) λu R M=>e2a3 M λx H1 g N d=>e3a4 d λa S fs O P l q=>?_) ht
  subst O
  obtain rfl:u=iq a:=N
  refine BB g P c i l ?_
  exact sO (first:=[.ref a]) g.yZ i.kp<|KG (us:=[.ref a]) (vs:=[.ref a]) F z B hd G g (.cons rfl .nil) q
structure Mk(K:gW)(C f:gV):Prop where
 makes:qK K C=true
 init:iF K (.ref C) "__init__"=↑(some<|.ref f)
 fn:oN K (.ref f)=true
 kp:jt K (.ref C)=true
def PM(M:Mk X.K C f)(F:vR X.prog X.w X.K X.mg X.base p k f q j t)(y:wI (k+1) X.A)(z:Binds X.K q j d)(B:Vals c d)
 (D:Passes p X E) (I:Inv X b l H s) (r:Vals m us)
 (h:∀x g,H x=none->H g=none->g≠x->t (.ref x::(m++c)) (upd (upd H g<|.own x) x<|.ins C g []) (λv G=>v=.wP/\Q (.ref x) G) E) :
    hX 28 X.A (call (.ref C) us) (EP X b l Q) X.xe s:=by
  have n:=h (⇑s+1) ⇑s (I.vW.fresh<|md _) (I.vW.fresh<|gZ _)<|ij<|jE _
  have i:=Inv.made (C:=C) I
  have o:Vals (V.ref (⇑s+1)::(m++c)) (iq (⇑s+1)::(us++d)):=.cons rfl<|r.append B
  have J:(iq (⇑s+1)::us++d).length=j.length:=by
    have e:=o.length
    rw[F.len _ _ _ _ n]at e
    exact e.symm
  refine mX (PD (f:=f) I.yZ M.makes M.init (beq_iff_eq.mp M.fn) (j7 (F.run _ X.stack _ _ #[iq (⇑s+1)::us,[]] (iq (⇑s+1)::(us++d)) _ _ E (y.make C us [])
    (i.Jh.make C us []) (z _ (iq (⇑s+1)::us) i.yZ J) o n) λr L a=>?_))
  cases r with
  |error e=>exact D b l _ _ e L i a
  |ok N =>
    cases N with
    |ret u =>
      refine e2a4 (i.after a) λv O P R S T=>?_
      subst S
      exact#[R,#[V.ref<|⇑s+1,O,P,rfl,T]]
    |next=>exact iL a
    |brk=>exact iL a
    |cont=>exact iL a
def PN(M:Mk X.K C f)(F:vR X.prog X.w X.K X.mg X.base d k f e g i)(j:wI (k+1) X.A)(l:Gl X x)(m:X.mg x=↑(.ref C))(n:Binds X.K e g o)(q:Vals a o)(r:Passes d X E)
 (b:(x==66)=false:=by decide):PE X (.Call (.Name x p) [] [] pos) (ZJ C i a E BC):=by
  intro c s t H Q I h
  refine kU<|zD I l m ?_ b
  exact sO I.yZ M.kp<|PM (us:=[]) M F j n q r I .nil h
def PK(X:Cx)(b:List pY)(t:TA):Prop :=
 ∀(c:Pos) (a:List (gV×Obj)) (s:hR) (d:St) (H:Hp) (Q:List V->Hp->Prop),Inv X a d H s->t d H Q->hX 28 X.A (evalAll ((ni c<|lh b X.env).map (·.2))) (AP X a d Q) X.xe s
structure vm(N P:List Str)(sc:my):Prop where
 kind:sc.kind=.function
 co:sc.isCoroutine=false
 gen:sc.isGenerator=false
 nd:N.Nodup
 pre:N.take P.length=P
 par:∀x∈P,sc.names.lookup x=some .local\/sc.names.lookup x=some .cell
 Xy:∀y∈sc.names,y.2≠.free
def Gc{b:Str->Option NameKind}:∀{a:List (Str×cr)} {m:Str->Option cr},(∀v,(x,v)∉a)->bindL b a m x=m x
 | [],_,_=>rfl
 | (n,v)::r,m,h=>by
  unfold bindL;rw[Gc λw c=>h w<|hI _ c];split
  ·have:x≠n:=by rintro rfl;exact h v gY
   simp[this]
  ·rfl
def Gd{b:Str->Option NameKind}:∀{a:List (Str×cr)} {m:Str->Option cr},(∀v,(x,v)∉a)->bindC b a m x=m x
 | [],_,_=>rfl
 | (n,v)::r,m,h=>by
  unfold bindC;rw[Gd λw c=>h w<|hI _ c];split
  ·rfl
  ·have:x≠n:=by rintro rfl;exact h v gY
   simp[this]
def NT{a:Str->Option NameKind}:∀{P:List Str} {b:List cr} {i:Nat} {m:Str->Option cr},P.Nodup->P[i]?=↑x->b[i]?=↑v->a x=some .local ->
  bindL a (P.zip b) m x=↑v:=by
 intro P
 induction P with
 |nil=>intro _ _ _ _ h;simp at h
 |cons p P g =>
  intro b i m e d c f
  cases b with
  |nil=>simp at c
  |cons w b =>
  cases i with
  |zero =>
   simp at d c;subst d;subst c;show bindL a ((p,w)::P.zip b) m p=_;unfold bindL;rw[Gc λv j=>(List.nodup_cons.mp e).1 (pq j).1,gU f];simp
  |succ i =>
   exact g (i:=i) (List.nodup_cons.mp e).2 (by simpa using d) (by simpa using c) f
def NU{a:Str->Option NameKind}:∀{P:List Str} {b:List cr} {i:Nat} {m:Str->Option cr},P.Nodup->P[i]?=↑x->b[i]?=↑v->a x≠some .local ->
  bindC a (P.zip b) m x=↑v:=by
 intro P
 induction P with
 |nil=>intro _ _ _ _ h;simp at h
 |cons p P g =>
  intro b i m e d c f
  cases b with
  |nil=>simp at c
  |cons w b =>
  cases i with
  |zero =>
   simp at d c;subst d;subst c;show bindC a ((p,w)::P.zip b) m p=_;unfold bindC;rw[Gd λv j=>(List.nodup_cons.mp e).1 (pq j).1,ci f];simp
  |succ i =>
   exact g (i:=i) (List.nodup_cons.mp e).2 (by simpa using d) (by simpa using c) f
noncomputable def start(N:List Str)(a:List V):St:=a.map some++lm (N.length-a.length) none
noncomputable def v6(CX:PJ)(P:iJ)(w:jb)(K:gW)(mg:Str->Option cr)(base:iX)(N:List Str)(qual:Str)(scope:my)(f:gV)(cd:cr)(A:jF)(outer:List Env)(s:hR)(H:Hp)(E:XK):Cx where
 prog:=P
 w:=w
 K:=K
 mg:=mg
 base:=base
 A:=A.deeper<|oV qual scope ⇑s f cd
 N:=N
 s₀:=s
 H₀:=H
 env:=oV qual scope ⇑s f cd
 outer:=outer
 stack:=oV qual scope ⇑s f cd::outer
 ex:=[]
 calm:=true
 fn:=λ_=>true
 pn:=[]
 xe:=λe s'=>hX (hZ P w) (A.deeper<|oV qual scope ⇑s f cd) (uF (oV qual scope ⇑s f cd) e) (λ_ Ub=>CX outer H s E e Ub) (λe' Ub=>CX outer H s E e' Ub) s'
def Ji{a:my}{n:Nat}(h:a.names.lookup x=some .cell):∃c,(cellsFrom n a.names []).lookup x=↑c:=by have q:=rW a.names n []<|.inl h;exact Option.isSome_iff_exists.mp q
def NW{K:gW}{A:jF}{o:List V}
 (S:vm N C d) (R:A.handled=none) (m:Jg P w K L base A j s H) (hl:o.length=C.length) (r:Vals o M)
 (x:InCallC s ⇑s (bindL (oV l d ⇑s f J).kindOf (C.zip M) λ_=>none) (cellsFrom (⇑s+1) d.names []) (bindC (oV l d ⇑s f J).kindOf (C.zip M) λ_=>none) T) :
    Inv (v6 U P w K L base N l d f J A j s H E) [] (start N o) H T:=by
  have X:C.length<=N.length:=by have:=congrArg oA S.pre;rw[mh]at this;lia
  obtain⟨G,tk,rfl,O⟩:=x.done
  have t:∀b:gV,b∉(v6 U P w K L base N l d f J A j s H E).ex:=λb z=>ii (show b∈([]:List gV) from z) q0o
  refine#[#[m.mod,S.kind,rfl,rfl,gZ _,λy z c G g=>?_,λy B=>?_,λy c _ h=>?_,λ_=>R,sP m.frames,.inr #[rfl,rfl],λb z=>ii z (t b),m.bs,m.IY,λb _ _=>t b,λb z=>ii z (t b),m.yT,m.Ki],
    rfl,m.bare,Un.kept O,#[_,x.toInCall.ns,λi y v G g h3=>?_],λy c h=>#[_,x.cell y c h],m.vW.fresh (gZ _),λy c h=>?_,λp D=>ii (show p∈([]:List (gV×Obj)) from D) q0o,m.vW.kept O,?_]
  · exact name_of_addr x.apart (ky G)<|ky g
  · have B : d.names.lookup y = some .cell \/ d.names.lookup y = some .free := B
    rcases B with B|B
    · exact Ji B
    · exact ii rfl<|S.Xy _<|ky B
  · exact mj<|x.above y c<|ky h
  · have I : i<o.length := by
      unfold start at g
      by_cases I:i<o.length
      · exact I
      · rw[j5<|by simpa using I]at g
        rw[sF]at g
        split at g<;>cases g
    have Y:o[i]?=↑v:=by
      unfold start at g
      rw[ml (by simpa using I),jO]at g
      cases e:o[i]? with
      |none=>rw[e]at g;cases g
      |some a=>rw[e]at g;cases g;rfl
    refine e1a2 (r.get Y) λu Q Z=>?_
    have D:C[i]?=↑y:=by
      rw[<- S.pre,sf q0a];exact G
    have F:C.Nodup:=by rw[<- S.pre];exact S.nd.sublist<|uG _ _
    refine#[u,Z,?_]
    rcases S.par y (jW D) with k|k
    · exact .inl #[k, NT F D Q k]
    · obtain⟨c, e⟩ := Ji (n := ⇑s+1) k
      refine .inr #[.inl k,c,e,?_]
      have q:=x.cell y c e
      rw[NU F D Q<|by show d.names.lookup y≠_;rw[k];decide]at q
      exact q
  · exact m.vW.fresh<|mj<|x.above y c<|ky h
  · unfold start
    show _=N.length
    rw[ig,hO,sZ]
    lia
def Jj{K:gW}{k:Nat}{Z:cr} 
 (lk:K.lookup f=some #[oc,od,.func<|jL name d h body a dV Z G pm an g ct,aa]) (L:jC K g d=true) (S:vm N M a)
 (B:∀i H Q E,sp i H Q E->i.length=M.length)
 (m:∀(A:jF)(c:List Env)(s:hR)(H:Hp)(i:List V)(Q:VK)(E:XK),wI k (A.deeper (oV d a ⇑s f g))->sp i H Q E ->
 ∃t,FF (v6 O P w K R base N d a f g A c s H E) body t/\t { nx:=λ_ l=>Q .wP l,rt:=Q} (start N i) H) :
    vR P w K R base O (k+1) f (jL name d h body a dV Z G pm an g ct) M sp:=by
  refine#[B,λA c s H args us i Q E T C hb r D=>?_]
  have hl:=B _ _ _ _ D
  have KX:K.In s.heap:=C.mod.BK.keeps λb o e=>(C.bs b o e).1
  have U:s.heap.NoLimit:=C.mod.nolimit.keeps λb o e=>(C.bs b o e).1
  have p:∀y∈M.zip us,a.names.lookup y.1=some .local\/(a.names.lookup y.1=some .cell/\((cellsFrom (⇑s+1) a.names []).lookup y.1).isSome=true):=λ⟨n,v⟩ hy=>by
    rcases S.par n (pq hy).1 with q|q
    · exact .inl q
    · exact .inr #[q, rW _ _ _<|.inl q]
  refine codeAny_call_function T.depth (KX _ _ lk) rfl S.co S.gen rfl (td KX L)<|hb _ _ _ _ ?_
  refine wpAny_newFunctionEnv_cells S.kind p λab he s1 x=>?_
  subst he
  refine#[U.keeps x.toInCall.keep,codeAny_func ?_]
  refine e1a2 (m A c s H i Q E (T.deeper _) D) λt ht hq=>?_
  have I:Inv (v6 O P w K R base N d a f g A c s H E) [] (start N i) H s1:=NW S T.hd C hl r x
  refine jm (ht [] s1 (start N i) H _ I hq) (λfl X z=>?_) λe X z=>z
  have F:∀{j:St} {l:Hp} {v:V} {u:cr},Inv (v6 O P w K R base N d a f g A c s H E) [] j l X->RelV v u->Q v l->CE c P w H s Q u X :=
    λ{j l v u} J Y q=>#[v,l,J.os,J.bare,J.base,J.vW,Y,q]
  cases fl with
  |ret u =>
    obtain⟨v,j,l,J,Y,q⟩:=z
    exact F J Y q
  |next =>
    refine e2a2 z λj l J q=>?_
    exact F (v:=V.wP) (u:=Value.none) J rfl q
  |brk =>
    refine e2a2 z λ_ _ _ q=>?_
    exact iL q
  |cont =>
    refine e2a2 z λ_ _ _ q=>?_
    exact iL q
section
variable{X:Cx}{x:Str}{p pos:Pos}{e:iT}{es:List iT}{t:TA}{id T:String}{r:List V->Hp->VK->Prop}
def tCB(r:List V->Hp->VK->Prop)(t:TA):TE:=λa H Q=>t a H λb c=>r b c Q
def wT(d:y8 X (.builtin id) r)(f:Gl X x)(g:X.mg x=none)(i:nc x=↑(.builtin id))(j:PA X (e::es) t)(k:x≠"__name__":=by decide)(b:(x==66)=false:=by decide)
 (he:gX (e::es) X.env=67::gX es X.env:=by rfl) (hpl:(jx pos<|gX es X.env).any (·.1)=false:=by rfl):PE X (.Call (.Name x p) (e::es) [] pos) (tCB r t):=by
  intro a s c H Q I h
  refine kU<|zF I f g i ?_ k b
  exact pS (vU (j pos a s c H _ I h) λl m n=>e2a3 n λo q u v w=>d a m c q o l Q u v w) he hpl
def xT(f:y8 X (.type T) r)(g:Gl X x)(i:X.mg x=none)(j:nc x=↑(.type T))(k:PA X (e::es) t)(l:x≠"__name__":=by decide)(b:(x==66)=false:=by decide)
 (he:gX (e::es) X.env=67::gX es X.env:=by rfl) (c:(jx pos<|gX es X.env).any (·.1)=false:=by rfl):PE X (.Call (.Name x p) (e::es) [] pos) (tCB r t):=by
  intro a s d H Q I h
  refine kU<|zF I g i j ?_ l b
  exact kh (vU (k pos a s d H _ I h) λm n o=>e2a3 o λq u v w y=>f a n d u q m Q v w y) he c
def KH(c:y8 X (.type T) r)(d:Gl X x)(f:X.mg x=none)(g:nc x=↑(.type T))(i:x≠"__name__":=by decide)(b:(x==66)=false:=by decide) :
  PE X (.Call (.Name x p) [] [] pos) (tCB r BC):=by
 intro a s j H Q I h;refine kU<|zF I d f g ?_ i b;exact PyProof.Rows.callWith_type0<|c a s j H [] [] Q I .nil h
end
end L2
namespace HT
open PySem PyProof.Rows
noncomputable def xq(n d:Nat):Option Int->Nat
 |none=>d
 |some v=>if v<0 then (v+(n:Int)).toNat else min v.toNat n
def Jk(n d:Nat):xq n d none=d:=rfl
def MF(n d k:Nat):xq n d ↑(k:Int)=min k n:=by show (if (k:Int)<0 then ((k:Int)+(n:Int)).toNat else min (k:Int).toNat n)=min k n;rw[ci q0a,lU]
def a1V(n d:Nat)(b:d<=n)(o:Option Int):xq n d o<=n:=by
 cases o with
 |none=>exact b
 |some v =>
  show (if v<0 then (v+(n:Int)).toNat else min v.toNat n)<=n;by_cases a:v<0
  ·rw[gU a];lia
  ·rw[ci a];exact Nat.min_le_right _ _
def MG(v:Int)(n d:Nat):(if v<0 then max (v+(n:Int)) 0 else min v (n:Int))=((xq n d ↑v:Nat):Int):=by
 show (if v<0 then max (v+(n:Int)) 0 else min v (n:Int))=(((if v<0 then (v+(n:Int)).toNat else min v.toNat n):Nat):Int);by_cases a:v<0
 ·simp only[gU a];lia
 ·simp only[ci a];lia
def KI(lo a:Option Int)(n:Nat):qr lo a 1 (n:Int)=(((xq n 0 lo:Nat):Int),((xq n n a:Nat):Int)):=by
 refine Prod.ext ?_ ?_
 ·cases lo with
  |none=>rfl
  |some v=>exact MG v n 0
 ·cases a with
  |none=>rfl
  |some v=>exact MG v n n
def KJ(i j:Nat):lG (i:Int) (j:Int) 1=j-i:=by unfold lG;split<;>lia
def Eg(p:qu v o)(h:Q o s):hX (hZ a w) A (Builtin.Slice.slicePartIndex v) Q E s:=by
 cases p with
 |none=>exact slicePart_none h
 |int i t=>exact slicePart_int h
def zo{lo:Option Int}{n:Nat}(g:s.heap.IsSliceOf sl d e .none)(i:qu d lo)(j:qu e c)
 (h:Q (((xq n 0 lo:Nat):Int),1,xq n n c-xq n 0 lo) s):hX (hZ f w) A (Builtin.Slice.sliceApplied (.ref sl)<|pure (n:Int)) Q E s:=by
  refine e1a3 (id g) λos a k b=>?_
  refine am<|am<|jo a b (x:=d) rfl<|am<|jo a b (x:=e) rfl<|am<|jo a b (x:=.none) rfl<|ap ?_
  refine am<|slicePart_none ?_
  rw[ci q0q]
  refine am<|Eg i<|am<|Eg j<|am<|ap ?_
  show hX _ _ (match qr lo c 1 (n:Int) with|(lo,c)=>pure (lo,(1:Int),lG lo c 1)) _ _ s
  rw[KI lo c n]
  show hX _ _ (pure (((xq n 0 lo:Nat):Int),(1:Int),lG ((xq n 0 lo:Nat):Int) ((xq n n c:Nat):Int) 1)) _ _ s
  rw[KJ]
  exact ap h
def PP(a:Array cr)(i k:Nat):((iA k).filterMap λ(m:Nat)=>a[((i:Int)+(m:Int)*1).toNat]?).toArray=((a.toList.drop i).take k).toArray:=by
 have e:(λ(m:Nat)=>a[((i:Int)+(m:Int)*1).toNat]?)=λm=>a[i+m]?:=by
  funext m
  have:((i:Int)+(m:Int)*1).toNat=i+m:=by lia
  rw[this]
 rw[e];have:=pick_run a i k;rw[uj]at this;have b:((λx=>a[x]?)∘λx=>i+x)=λm=>a[i+m]?:=rfl;rw[b]at this;rw[this]
def BO{t sl:gV}{items:Array cr}{vl vu:cr}{lo hi:Option Int}{Q:cr->hR->Prop}(ht:IsTup s.heap t items)(hs:s.heap.IsSliceOf sl vl vu .none)(pl:qu vl lo)(pu:qu vu hi)
  (hw:¬(xq items.size 0 lo=0/\xq items.size items.size hi=items.size))
  (h:Q (.ref ⇑s) { s with heap:=s.heap.push { cls:=.type "tuple",data:=.seq (102).toArray}})
  (hsz:items.size<=hJ):hX (hZ prog w) A (oz (.ref t)<|.ref sl) Q E s:=by
 have MH:sizeOk (.seq (102).toArray):=by show (102).toArray.size<=hJ;rw[ie,mh,m8,hW];omega
 refine e1a3 (id hs) λos hos hcs hds=>?_;have hTs:s.TypeIs (.ref sl) "slice":=#[os,hos,hcs];unfold oz
 try with_reducible refine iM ?_
 first|refine am (ap ?_)|skip
 refine am<|wpAny_sequenceKey ht.typeIs q0q ?_
 refine am (wpAny_callSpecial?_slot (name:=mn "__getitem__") ht.typeIs kN
  (jc kN ht.typeIs entry_tuple_getitem ?_ (args_tuple_getitem _ _)))
 show hX _ _ (qm (.ref t) >>= _) _ _ s;refine am<|tupleItemsOf_ ht ?_;refine am<|lj hTs ?_;rw[gU q0q];refine am<|zo hs pl pu ?_
 have hno:¬((((xq items.size 0 lo:Nat):Int)==0&&(1:Int)==1&&(xq items.size items.size hi-xq items.size 0 lo)==items.size)=true):=by intro q;rw[iU,iU]at q;have q1:((xq items.size 0 lo:Nat):Int)=0:=eq_of_beq q.1.1;have q2:xq items.size items.size hi-xq items.size 0 lo=items.size:=eq_of_beq q.2;exact hw #[q0d,q0d]
 show hX _ _ (if (((xq items.size 0 lo:Nat):Int)==0&&(1:Int)==1&&(xq items.size items.size hi-xq items.size 0 lo)==items.size)=true then _ else _) _ _ s;rw[ci hno,PP]
 first
  | exact am (m:=lN _)<|iV (ap #[_,rfl,ap h]) MH
  | exact am (m:=lN _)<|iV (am<|ap<|ap #[_,rfl,ap h]) MH
  | exact am<|am (m:=lN _)<|iV (ap<|ap #[_,rfl,ap h]) MH
  | exact am<|am (m:=lN _)<|iV (ap #[_,rfl,ap h]) MH
end HT
namespace L2
open PySem PySem.Spec PyProof.Rows
abbrev TO:=St->Hp->(Option Int->Hp->Prop)->Prop
def PO(X:Cx)(e:Option iT)(t:TO):Prop :=
 ∀(a:List (gV×Obj)) (s:hR) (b:St) (H:Hp) (Q:Option Int->Hp->Prop),Inv X a b H s->t b H Q ->
  hX 28 X.A (evalPart e X.env) (λu d=>∃o c,Inv X a b c d/\qu u o/\Q o c) X.xe s
def Uc:TO:=λ_ H Q=>Q none H
def ZK(t:TE):TO:=λa H Q=>t a H λx b=>∃i,x=.int i/\Q ↑i b
def intsAre_of{a:List Int}:∀{b:List cr},Vals (a.map V.int) b->lx b a:=by
 induction a with
 |nil=>intro b r;rw[o8]at r;cases r;exact .nil
 |cons n a c =>
  intro b r;rw[iC]at r
  cases r with
  |cons d f =>
   obtain⟨t,e⟩:=d;subst e;exact .cons n t<|c f
section
variable{X:Cx}{e:iT}{te:TE}{lo hi:Option iT}{tl th:TO}{pos p2:Pos}
def DH:PO X none Uc:=by intro a s b H Q I h;rw[t7];exact ap #[none,H,I,.none,h]
def DI(h:PE X e te):PO X ↑e (ZK te):=by intro a s b H Q I c;rw[evalPart_some];refine vU (h a s b H _ I c) λu l d=>e2a3 d λx f g j k=>?_;obtain⟨i,rfl,q⟩:=k;obtain⟨t,rfl⟩:=j;exact#[↑i,f,g,.int i t,q]
def WA(X:Cx)(r:V->Option Int->Option Int->Hp->VK->Prop):Prop :=
 ∀(a:List (gV×Obj)) (s:hR) (b:St) (H:Hp) (x:V) (v c d:cr) (lo hi:Option Int) (f:gV) (Q:VK),Inv X a b H s->RelV x v->s.heap.IsSliceOf f c d .none->qu c lo->qu d hi->r x lo hi H Q ->
  ∃T g,nN (.type T) "__getitem__"=pure (some<|.builtin g)/\s.TypeIs v T/\hX 28 X.A (oz v<|.ref f) (EP X a b Q) X.xe s
def WA.or(h:WA X r)(l:WA X m):WA X (λx lo hi H Q=>r x lo hi H Q\/m x lo hi H Q):=by
 intro a s b H x v c d lo hi f Q I g i j k q;rcases q with q|q
 ·exact h a s b H x v c d lo hi f Q I g i j k q
 ·exact l a s b H x v c d lo hi f Q I g i j k q
def tSl(r:V->Option Int->Option Int->Hp->VK->Prop)(te:TE)(tl th:TO):TE:=λa H Q=>te a H λx b=>tl a b λl c=>th a c λu d=>r x l u d Q
def Ao(k:WA X r)(m:PE X e te)(n:PO X lo tl)(o:PO X hi th):PE X (.Subscript e (.Slice lo hi none p2) pos) (tSl r te tl th):=by intro a s d H Q I h;refine tj<|vU (m a s d H _ I h) λv p f=>e2a3 f λx t w y z=>?_;refine wpAny_Slice<|vU (n a p d t _ w z) λg A f=>e2a3 f λl B C D E=>vU (o a A d B _ C E) λi c f=>e2a3 f λu j F G J=>?_;rw[t7];refine ap ?_;have L:Inv X a d j { c with heap:=c.heap.push { cls:=.type "slice",data:=.fields #v[g,i,.none]}}:=F.kept (t':=c.toks) λb P q=>ce _ q;obtain⟨T,R,M,N,O⟩:=k a { c with heap:=c.heap.push { cls:=.type "slice",data:=.fields #v[g,i,.none]}} d j x v g i l u ⇑c Q L y (ro ..) D G J;exact tail_any (ops:=[.ref ⇑c,v]) N M O (by with_unfolding_all rfl)
noncomputable def Eh(a:List V)(lo hi:Option Int):List V:=(a.drop<|HT.xq a.length 0 lo).take<|HT.xq a.length a.length hi-HT.xq a.length 0 lo
def Dn(a:List V)(lo hi:Option Int):(Eh a lo hi).length<=a.length:=by unfold Eh;rw[mh,m8];omega
def a1W(K:gW):V->Option Int->Option Int->Hp->VK->Prop:=λx lo hi H Q=>∃a b,x=.ref a/\zn K H a b /\
 ¬(HT.xq b.length 0 lo=0/\HT.xq b.length b.length hi=b.length)/\∀p,H p=none->Q (.ref p) (upd H p<|.tup<|Eh b lo hi)
def Xz:WA X (a1W X.K):=by
 intro g s u H x v w y lo hi z Q I k l m n h;obtain⟨a,d,rfl,p,t,q⟩:=h;cases k;refine e1a3 (I.tuple p) λf r i j=>?_;have c:f.toArray.size=d.length:=by rw[ie];exact r.length.symm
 refine#["tuple",_,PyProof.Rows.slot_tuple_getitem.lookup,i.typeIs,?_];refine HT.BO i l m n (by rw[c];exact t) ?_ (by rw[c];exact j);rw[c];refine#[.ref ⇑s,_,I.laid (t':=s.toks) (o:=.tup<|Eh d lo hi) (λb A q=>ce _ q) (gZ _) ?_,rfl,q _<|I.vW.fresh<|gZ _];exact#[iK (Dn d lo hi) j,_,(r.drop<|HT.xq d.length 0 lo).take<|HT.xq d.length d.length hi-HT.xq d.length 0 lo,IsTup.new _ _]
end
noncomputable def WB(n:Nat)(i:Int):Option Nat:=if 0<=i then (if i<n then some i.toNat else none) else if -(n:Int)<=i then some (i+n).toNat else none
noncomputable def FH{a:Type}(b:List a)(i:Int):Option a:=(WB b.length i).bind λj=>b[j]?
def MI{n:Nat}{i:Int}{j:Nat}(h:WB n i=↑j):seqIndex? i n=↑j/\j<n/\-(n:Int)<=i/\i<n:=by
 unfold WB at h;by_cases b:0<=i
 ·rw[gU b]at h;by_cases a:i<n
  ·rw[gU a]at h;have e:i.toNat=j:=iY h;exact#[by rw[seqIndex_of b a,e],q0a,q0a,a]
  ·rw[ci a]at h;cases h
 ·rw[ci b]at h;by_cases a:-(n:Int)<=i
  ·rw[gU a]at h;have e:(i+n).toNat=j:=iY h;exact#[by rw[uH q0a a,e],q0a,a,q0a]
  ·rw[ci a]at h;cases h
def MJ{α:Type}{xs:List α}{i:Int}{v:α}(h:FH xs i=↑v):∃j,seqIndex? i xs.length=↑j/\xs[j]?=↑v/\j<xs.length/\-(xs.length:Int)<=i/\i<xs.length:=by
 unfold FH at h
 cases e:WB xs.length i with
 |none=>rw[e]at h;cases h
 |some j =>
  rw[e]at h;obtain⟨h1,h2,h3,h4⟩:=MI e;exact#[j,h1,h,h2,h3,h4]
def MK{α:Type}{xs:List α}{j:Nat}{v:α}(h:xs[j]?=↑v):FH xs (j:Int)=↑v:=by
 have hj:j<xs.length:=(List.getElem?_eq_some_iff.mp h).1
 have e:WB xs.length (j:Int)=↑j:=by unfold WB;rw[gU q0a,gU q0a];simp
 unfold FH;rw[e];exact h
def ML(b:iT):Prop:=∀o i,sg b false o i=operate [o,i] (oz o i)
def IxR(X:Cx)(r:R2):Prop :=
 ∀(c a:iT) (b:List (gV×Obj)) (s:hR) (d:St) (H:Hp) (x y:V) (v u:cr) (Q:VK),Inv X b d H s->RelV x v->RelV y u->r x y H Q ->
  sg a false v u=operate [v,u] (oz v u)->hX 28 X.A (subscriptTail c a v u) (EP X b d Q) X.xe s
def MtR(X:Cx)(e:String)(r:V->List V->Hp->VK->Prop):Prop :=
 ∀(a:List (gV×Obj)) (s:hR) (b:St) (H:Hp) (x:V) (c:List V) (v:cr) (d:List cr) (Q:VK),Inv X a b H s->RelV x v->Vals c d->r x c H Q ->
  hX 28 X.A (call (.builtin e) (v::d)) (EP X a b Q) X.xe s
section
variable{X:Cx}
def yD(d:IxR X r)(e:PE X a f)(g:PE X b i)(j:ML b):PE X (.Subscript a b pos) (Zf r f i):=by intro c s k H Q I h;exact tj<|Xr e g I h λv u l x y m n o p q=>d a b c l k m x y v u Q n o p q<|j _ _
def a1Y(K:gW):R2:=λx y H Q=>∃p a i v,x=.ref p/\y=.int i/\wD K H p a/\FH a i=↑v/\Q v H
def a1Z(K:gW):R2:=λx y H Q=>∃p a i v,x=.ref p/\y=.int i/\zn K H p a/\FH a i=↑v/\Q v H
def w4:IxR X (a1Y X.K):=by
 intro value slice a s g H x y v u Q I n o h k;obtain⟨p,J,i,z,rfl,rfl,A,B,q⟩:=h;cases n;obtain⟨t,rfl⟩:=o;refine e1a3 (I.list A) λc r d L=>?_;obtain⟨j,b,C,M,D,E⟩:=MJ B;refine e1a2 (r.get C) λw l e=>?_;have F:=r.length;have N:=Ef;have fin:EP X a g Q w s:=#[z,H,I,e,q];by_cases m:0<=i
 ·have f:i.toNat=j:=by rw[seqIndex_of m E]at b;exact iY b
  exact item_listR d.isList m q0a (by rw[f];simpa using l) fin k
 ·have f:(i+(c.toArray.size:Int)).toNat=j:=by rw[uH q0a D]at b;rw[ie,<- F];exact iY b
  exact uI (x:=w) d.isList.typeIs slot_list_getitem.lookup
   (wpAny_getItem_list_neg (Q:=λr G=>r=w/\EP X a g Q r G) d.isList q0a (by rw[ie]<;>lia) q0a (by rw[f];simpa using l) #[rfl,fin]) k
def PQ:IxR X (a1Z X.K):=by
 intro value slice a s c H x y v u Q I e f h g;obtain⟨p,D,i,z,rfl,rfl,k,l,q⟩:=h;cases e;obtain⟨t,rfl⟩:=f;refine e1a3 (I.tuple k) λm r d E=>?_;obtain⟨j,n,o,F,G,J⟩:=MJ l;refine e1a2 (r.get o) λw A b=>?_;have B:=r.length;have L:=Ef;have fin:EP X a c Q w s:=#[z,H,I,b,q]
 exact uI (x:=w) d.typeIs slot_tuple_getitem.lookup
  (getItem_tuple (j:=j) (Q:=λr C=>r=w/\EP X a c Q r C) d q0a q0a (by rw[ie,<- B];exact n) (by simpa using A) #[rfl,fin]) g
def KL(a:List cr)(n j:Nat)(u:cr):Obj.mapSeq (·.setIfInBounds j u) 114={ cls:=.type "list",data:=.seq (a.set j u).toArray n}:=by simp[Obj.mapSeq]
def Inv.lst(I:Inv X b d H s)(h:H p=↑(.lst c)) :
  ∃(a:List cr)(n:Nat),Vals c a/\s.heap.get? p=some 114/\c.length<=hJ:=by
 obtain⟨z,a,n,r,e⟩:=I.vW p _ h;exact#[a,n,r,e,z]
def Inv.XA{c a:List cr}{n g:Nat}(I:Inv X d k H s)(h:H p=↑(.lst v))
 (l:s.heap.get? p=some { cls:=.type "list",data:=.seq c.toArray n}) (i:f { cls:=.type "list",data:=.seq c.toArray n}={ cls:=.type "list",data:=.seq a.toArray g}) (r:Vals j a) (m:j.length<=hJ) (t:Nat) :
    Inv X d k (upd H p<|.lst j) { s with heap:=s.heap.update p f,toks:=t}:=by
  have e:(s.heap.update p f).get? p=some { cls:=.type "list",data:=.seq a.toArray g}:=by
    rw[i8 f l (by rw[i]<;>rfl),i]
  refine I.write (x:=p) (e:=p) (by rw[h];trivial) (.inl rfl) (λb u o q=>(iN _ _<|Ne.symm o).trans q) #[_,e] ?_
  exact#[m,a,g,r,e]
def ZL:V->V->V->Hp->(Hp->Prop)->Prop:=λo i v H Q=>∃p a k j,o=.ref p/\i=.int k/\H p=↑(.lst a)/\WB a.length k=↑j/\Q (upd H p<|.lst<|a.set j v)
def set_list:Xj X ZL:=by
 intro a s y H o i v F G u Q I z A B h;obtain⟨p,C,k,j,rfl,rfl,g,D,q⟩:=h;cases z;obtain⟨t,rfl⟩:=A;obtain⟨b,n,r,d,E⟩:=I.lst g;obtain⟨c,J,l,m⟩:=MI D;have e:=r.length;have L:=Ef
 have w:Inv X a y (upd H p<|.lst<|C.set j v) { s with heap:=s.heap.update p (Obj.mapSeq (·.setIfInBounds j u))} :=
  I.XA g d (KL b n j u) (r.set B j) (by rw[mD];exact E) s.toks
 by_cases x:0<=k
 ·have f:k.toNat=j:=by rw[seqIndex_of x m]at c;exact iY c
  exact PySem.W.ki_setAt d x q0a (by rw[ie,<- e];exact m) (by rw[f];exact#[_,w,q])
 ·have f:(k+(b.toArray.size:Int)).toNat=j:=by rw[uH q0a l]at c;rw[ie,<- e];exact iY c
  exact PySem.W.ki_setBack d q0a (by rw[ie,<- e];exact l) q0a (by rw[f];exact#[_,w,q])
def GS(a b:Option Int)(n:Nat):(nW a b none n).1=((HT.xq n 0 a:Nat):Int)/\(nW a b none n).2.1=((HT.xq n n b:Nat):Int)/\(nW a b none n).2.2=1:=by
 refine#[?_,?_,rfl]
 ·cases a with
  |none=>simp[nW,HT.xq]
  |some i =>
   simp only[nW,HT.xq,qD,show (1:Int)>0 by decide,if_true];by_cases h:i<0
   ·simp only[h,if_true]<;>lia
   ·simp only[h,pK]<;>lia
 ·cases b with
  |none=>simp[nW,HT.xq]
  |some i =>
   simp only[nW,HT.xq,qD,show (1:Int)>0 by decide,if_true];by_cases h:i<0
   ·simp only[h,if_true]<;>lia
   ·simp only[h,pK]<;>lia
def FJ(a:List cr)(b c:Option Int):slicePick a.toArray b c none=((a.drop<|HT.xq a.length 0 b).take<|HT.xq a.length a.length c-HT.xq a.length 0 b).toArray:=by refine e0a3 (GS b c a.toArray.size) λd e f=>?_;unfold slicePick;rw[d,e,f];simp only[sliceRange_one,pick_run,ie]<;>rfl
def a10(K:gW):V->Option Int->Option Int->Hp->VK->Prop:=λx c d H Q=>∃a b,x=.ref a/\wD K H a b/\∀p,H p=none->Q (.ref p) (upd H p<|.lst<|Eh b c d)
def DJ:WA X (a10 X.K):=by intro g s u H x v w y e f z Q I j k l m h;obtain⟨a,c,rfl,n,q⟩:=h;cases j;refine e1a3 (I.list n) λp r i t=>?_;have d:=r.length;refine#["list",_,slot_list_getitem.lookup,i.isList.typeIs,?_];refine t9 i.isList k l m .none q0o ?_ (by rw[ie]<;>lia);rw[FJ,<- d];refine#[.ref ⇑s,_,I.laid (t':=s.toks) (o:=.lst<|Eh c e f) (λb A q=>ce _ q) (gZ _) ?_,rfl,q _<|I.vW.fresh<|gZ _];exact#[iK (Dn c e f) t,_,0,(r.drop<|HT.xq c.length 0 e).take<|HT.xq c.length c.length f-HT.xq c.length 0 e,ic _ rfl]
noncomputable def BP:V->Bool
 | .wP=>true
 | .bl _=>true
 | .int _=>true
 | .str _=>true
 |_=>false
noncomputable def TM:V->V->Bool
 | .wP,.wP=>true
 | .bl a,.bl b=>a==b
 | .bl a,.int b=>(if a then 1 else 0)==b
 | .int a,.bl b=>a==(if b then 1 else 0)
 | .int a,.int b=>a==b
 | .str a,.str b=>a==b
 |_,_=>false
def XD(e:RelV y u)(c:RelV x v)(g:BP y=true)(f:BP x=true):SeqAt.EqAt A s u v (TM y x):=by
 cases y with
 |wP =>
  cases e
  cases x with
  |wP=>cases c;exact SeqAt.EqAt.same _
  |bl b=>cases c;exact SeqAt.EqAt.none_bool b
  |int b=>obtain⟨t,rfl⟩:=c;exact SeqAt.EqAt.none_int b t
  |str b=>obtain⟨t,rfl⟩:=c;exact SeqAt.EqAt.none_str b t
  |_=>exact ii (show false=true from f) h8
 |bl a =>
  cases e
  cases x with
  |wP=>cases c;exact SeqAt.EqAt.bool_none a
  |bl b=>cases c;exact SeqAt.EqAt.bool_bool a b
  |int b=>obtain⟨t,rfl⟩:=c;exact SeqAt.EqAt.bool_int a b t
  |str b=>obtain⟨t,rfl⟩:=c;exact SeqAt.EqAt.bool_str a b t
  |_=>exact ii (show false=true from f) h8
 |int a =>
  obtain⟨d,rfl⟩:=e
  cases x with
  |wP=>cases c;exact SeqAt.EqAt.int_none a d
  |bl b=>cases c;exact SeqAt.EqAt.int_bool a d b
  |int b=>obtain⟨t,rfl⟩:=c;exact SeqAt.EqAt.int_int a d b t
  |str b=>obtain⟨t,rfl⟩:=c;exact r9 a d b t
  |_=>exact ii (show false=true from f) h8
 |str a =>
  obtain⟨d,rfl⟩:=e
  cases x with
  |wP=>cases c;exact SeqAt.EqAt.str_none a d
  |bl b=>cases c;exact SeqAt.EqAt.str_bool a d b
  |int b=>obtain⟨t,rfl⟩:=c;exact sd a d b t
  |str b=>obtain⟨t,rfl⟩:=c;exact SeqAt.EqAt.str_str a d b t
  |_=>exact ii (show false=true from f) h8
 |_=>exact ii (show false=true from g) h8
noncomputable def KN(x:V)(u:cr):Bool:=match u with
 | .none=>TM .wP x
 | .bool b=>TM (.bl b) x
 | .int i _=>TM (.int i) x
 | .str z _=>TM (.str z) x
 |_=>false
def PR(r:RelV y u)(f:BP y=true):KN x u=TM y x:=by
 cases y with
 |wP=>cases r;rfl
 |bl b=>cases r;rfl
 |int i=>obtain⟨t,rfl⟩:=r;rfl
 |str z=>obtain⟨t,rfl⟩:=r;rfl
 |_=>exact ii (show false=true from f) h8
def DL:∀{a:List V} {b:List cr},Vals a b->a.all BP=true->b.any (KN x)=a.any λy=>TM y x:=by
 intro _ _ z f
 induction z with
 |nil=>rfl
 |cons h t c =>
  rw[qo,iU]at f;rw[oH,oH,PR h f.1,c f.2]
def Ap(d:RelV x v)(e:BP x=true):∀{b:List V} {c:List cr},Vals b c->b.all BP=true->∀u∈c,SeqAt.EqAt A s u v (KN x u)
 |_,_,.nil,_=>λu a=>by cases a
 |y::b,u::c,.cons r t,f=>λg a=>by
  rw[qo,iU]at f;rcases List.mem_cons.mp a with rfl|a
  ·rw[PR r f.1];exact XD r d f.1 e
  ·exact Ap d e t f.2 g a
noncomputable def inV(x:V)(a:List V):Bool:=a.any λy=>TM y x
def rIn(K:gW)(b:Bool):R2:=λx y H Q=>∃p a,y=.ref p/\(wD K H p a\/zn K H p a)/\BP x=true/\a.all BP=true/\Q (.bl<|if b then !inV x a else inV x a) H
def Ge:Bb X (jG .In) (rIn X.K false):=by
 intro f s l H x y v u Q I g j h;obtain⟨p,m,rfl,b,i,c,q⟩:=h;cases j;rcases b with b|b
 ·refine e1a3 (I.list b) λa r d k=>?_;refine SeqAt.in_listAt (KN x) d.isList (λw e=>Ap g i r c w<|by simpa using e) #[.bl _,H,I,rfl,?_];rw[show a.toArray.any (KN x)=a.any (KN x) by simp,DL r c];exact q
 ·refine e1a3 (I.tuple b) λa r d k=>?_;refine SeqAt.in_tupleAt (KN x) d (λw e=>Ap g i r c w<|by simpa using e) #[.bl _,H,I,rfl,?_];rw[show a.toArray.any (KN x)=a.any (KN x) by simp,DL r c];exact q
def BQ:Bb X (jG .NotIn) (rIn X.K true):=by
 intro f s l H x y v u Q I g j h;obtain⟨p,m,rfl,b,i,c,q⟩:=h;cases j;rcases b with b|b
 ·refine e1a3 (I.list b) λa r d k=>?_;refine SeqAt.notIn_listAt (KN x) d.isList (λw e=>Ap g i r c w<|by simpa using e) #[.bl _,H,I,rfl,?_];rw[show a.toArray.any (KN x)=a.any (KN x) by simp,DL r c];exact q
 ·refine e1a3 (I.tuple b) λa r d k=>?_;refine SeqAt.notIn_tupleAt (KN x) d (λw e=>Ap g i r c w<|by simpa using e) #[.bl _,H,I,rfl,?_];rw[show a.toArray.any (KN x)=a.any (KN x) by simp,DL r c];exact q
def xG:y8 X (.builtin "len") (λg H Q=>∃p b,g=[.ref p]/\(wD X.K H p b\/zn X.K H p b)/\Q (.int b.length) H):=by
 intro i s l H g m Q I r h;obtain⟨p,b,rfl,c,q⟩:=h;obtain⟨u,rfl,j⟩:=vals1 r;cases j;have n:=Ef;rcases c with c|c
 ·refine e1a3 (I.list c) λd e f k=>?_;have a:=e.length;exact Calls.call_len_list f.isList (by simp only[ie]<;>lia) #[.int b.length,H,I.tok _,#[s.toks+1,by rw[ie,a]],q]
 ·refine e1a3 (I.tuple c) λd e f k=>?_;have a:=e.length;exact len_tuple f (by simp only[ie]<;>lia) #[.int b.length,H,I.tok _,#[s.toks+1,by rw[ie,a]],q]
def yH:y8 X (.type "list") (λB H Q=>∃p d,B=[.ref p]/\(wD X.K H p d\/zn X.K H p d)/\∀l,H l=none->Q (.ref l) (upd H l<|.lst d)):=by
 intro i s D H B F Q I r h;obtain⟨p,d,rfl,j,q⟩:=h;obtain⟨u,rfl,E⟩:=vals1 r;cases E
 have k:∀(a:List cr),Vals d a->d.length<=hJ->∀(c:iX)(f:Nat),(∀b C,s.heap.get? b=↑C->c.get? b=↑C) ->
   c.get? ⇑s=some { cls:=.type "list",dict:=none,data:=.seq a.toArray f,slots:=#v[]}->EP X i D Q (.ref ⇑s) { s with heap:=c}:=λa g m c f t e =>
  #[.ref ⇑s,_,I.laid (t':=s.toks) t (gZ _)<|show wp X.prog X.w _ c _ (.lst d) from#[m,a,f,g,e],rfl,q _<|I.vW.fresh<|gZ _]
 rcases j with j|j
 ·refine e1a3 (I.list j) λa g x m=>?_;have v:=g.length;obtain⟨o,y,z,n,A⟩:=x.isList;exact call_list_seq p (.inl rfl) y z A (λc f t e=>k a g m c f t e) (by simp only[ie]<;>lia)
 ·refine e1a3 (I.tuple j) λa g x m=>?_;have v:=g.length;obtain⟨o,y,z,n,A⟩:=x;exact call_list_seq p (.inr rfl) y z A (λc f t e=>k a g m c f t e) (by simp only[ie]<;>lia)
def FK:y8 X (.type "tuple") (λk H Q=>∃p d,k=[.ref p]/\((wD X.K H p d/\∀l,H l=none->Q (.ref l) (upd H l<|.tup d))\/(zn X.K H p d/\Q (.ref p) H))):=by
 intro a s m H k A Q I r h;obtain⟨p,d,rfl,h⟩:=h;obtain⟨u,rfl,x⟩:=vals1 r;cases x;rcases h with⟨g,q⟩|⟨g,q⟩
 ·refine e1a3 (I.list g) λc i j n=>?_;have t:=i.length;refine call_tuple_list j.isList (λf y=>?_) (by simp only[ie]<;>lia);have v:Inv X a m H { s with heap:=f}:=I.kept (t':=s.toks) y
  have z:Inv X a m (upd H f.objs.size<|.tup d) { s with heap:=f.push { cls:=.type "tuple",data:=.seq c.toArray}} :=
   v.laid (t':=s.toks) (λb o e=>ce _ e) (gZ _) (show wp X.prog X.w _ _ _ (.tup d) from#[n,c,i,IsTup.new _ _])
  exact#[.ref f.objs.size,_,z,rfl,q _<|v.vW.fresh<|gZ _]
 ·refine e1a3 (I.tuple g) λc i j n=>?_;exact call_tuple_same j #[.ref p,H,I,rfl,q]
def tyV(K:gW)(T:String)(x:V)(H:Hp):Prop:=match x with
 | .str _=>T="str"
 | .int _=>T="int"
 | .ref p=>(T="list"/\∃xs,wD K H p xs)\/(T="tuple"/\∃o,K.lookup p=↑o/\o.cls=.type "tuple"/\o.dict=none) \/
   (T="dict"/\((∃xF,H p=↑(.dK xF))\/∃xF,H p=↑(.dT xF)))\/(T="set"/\∃S n,H p=↑(.set S n))
 |_=>False
def PU(I:Inv X k y H s)(r:RelV x v)(f:tyV X.K T x H) :
  s.TypeIs v T/\∀a,v=.ref a->∃l,s.heap.get? a=↑l/\l.dict=none:=by
 cases x with
 |str z =>
  obtain⟨t,rfl⟩:=r;cases (show T="str" from f);exact#[typeIs_str s z t,λ_ e=>nomatch e]
 |int i =>
  obtain⟨t,rfl⟩:=r;cases (show T="int" from f);exact#[typeIs_int s i t,λ_ e=>nomatch e]
 |ref p =>
  cases r;rcases f with⟨rfl,A,q⟩|⟨rfl,o,b,u,g⟩|⟨rfl,b⟩|⟨rfl,S,n,b⟩
  ·refine e1a3 (I.list q) λw _ m _=>?_;refine#[m.isList.typeIs,λa e=>?_];cases e;refine e2a4 m λo n e c g _=>?_;exact#[o,e,g]
  ·refine#[#[o,I.yZ p o b,u],λa e=>?_];cases e;exact#[o,I.yZ _ o b,g]
  ·have z:∃o,s.heap.get? p=↑o/\o.ExactDict:=by
    rcases b with⟨h,b⟩|⟨h,b⟩
    ·obtain⟨_,_,_,_,o,_,_,e,d,_⟩:=I.vW p _ b;exact#[o,e,d]
    ·obtain⟨_,_,_,_,o,_,_,e,d,_⟩:=I.vW p _ b;exact#[o,e,d]
   refine e1a2 z λo e d=>?_;refine#[#[o,e,d.1],λa j=>?_];cases j;exact#[o,e,d.2.1]
  ·obtain⟨o,_,_,_,e,d,_⟩:=I.vW p _ b;refine#[#[o,e,d.1],λa j=>?_];cases j;exact#[o,e,d.2.1]
 |_=>exact iL f
def ZM(K:gW)(T:String)(r:V->List V->Hp->VK->Prop)(b:TE):TE:=λc H Q=>b c H λx a=>tyV K T x a/\r x [] a Q
def tBM(K:gW)(T:String)(r:V->List V->Hp->VK->Prop)(c:TE)(t:TA):TE:=λa H Q=>c a H λx b=>tyV K T x b/\t a b λd e=>r x d e Q
variable{o e:iT}{es:List iT}{to:TE}{t:TA}{name:Str}{apos cpos:Pos}{T id:String}{r:V->List V->Hp->VK->Prop}
def PV(k:PlainAttrs T)(d:Slot T name id)(f:typeOf (.builtin id)=pure (.type "method_descriptor"))(l:MtR X id r)(m:PE X o to)
 (b:iP o name X.env (eval o X.env)=eval o X.env:=by rfl)(c:(apos.endLine==cpos.line)=true:=by rfl):PE X (.Call (.Attribute o name apos) [] [] cpos) (ZM X.K T r to):=by
  intro a s g H Q I h
  refine wpAny_Call_method0_late b c<|vU (m a s g H _ I h) λv n p=>e2a4 p λx q i j u w=>?_
  obtain⟨y,z⟩:=PU i j u
  exact#[T,id,k,d,f,y,z,kB rfl<|PySem.evalArgs_none<|l a n g q x [] v [] Q i j .nil w]
def WC(p:PlainAttrs T)(f:Slot T name id)(i:typeOf (.builtin id)=pure (.type "method_descriptor"))(q:MtR X id r)(u:PE X o to)(w:PA X (e::es) t)
 (c:iP o name X.env (eval o X.env)=eval o X.env:=by rfl)
 (g:((jx cpos (gX (e::es) X.env)).all (λx=>!x.1)&&(ni cpos (lh [] X.env)).all (λx=>x.1.isSome)
&&decide ((e::es).length+([]:List pY).length+(if ([]:List pY).isEmpty then 0 else 1)<30))=true:=by rfl)
 (d:(apos.endLine==cpos.line)=true:=by rfl) (y:gX (e::es) X.env=67::gX es X.env:=by rfl) (b:(jx cpos<|gX es X.env).any (·.1)=false:=by rfl) :
    PE X (.Call (.Attribute o name apos) (e::es) [] cpos) (tBM X.K T r to t):=by
  intro a s j H Q I h
  refine uJ c g d rfl<|vU (u a s j H _ I h) λv z k=>e2a4 k λx A l m B C=>?_
  obtain⟨D,E⟩:=PU l m B
  refine#[T,id,p,f,i,D,E,?_]
  have n:=w cpos a z j A _ l C
  rw[y]at n ⊢
  refine kB (by show (false||(jx cpos<|gX es X.env).any (·.1))=false;rw[b]<;>rfl)<|jJ ?_
  exact vU n λF G k=>e2a3 k λJ L M N O=>q a G j L x J v F Q M m N O
end
def Zg(X:Cx)(e:String)(r:V->List V->Hp->VK->Prop):Prop :=
 ∀(a:List (gV×Obj)) (s:hR) (b:St) (H:Hp) (x:V) (c:List V) (v:cr) (d:List cr) (Q:VK),Inv X a b H s->RelV x v->Vals c d->r x c H Q ->
  hX 28 X.A (call (.builtin e) (v::d)) (EP X a b Q) X.xe s
def Vals.one:∀{x:V} {a:List cr},Vals [x] a->∃u,a=[u]/\RelV x u:=by intro _ _ z;cases z with|cons h t=>cases t;exact#[_,rfl,h]
def Vals.zero:∀{a:List cr},Vals [] a->a=[]
 |_,.nil=>rfl
def Vals.dropLast(h:Vals a b):Vals a.dropLast b.dropLast:=by
 induction h with
 |nil=>exact .nil
 |cons r t c =>
  cases t with
  |nil=>exact .nil
  |cons q d=>exact .cons r c
def Vals.eraseIdx:∀{a:List V} {b:List cr} (i:Nat),Vals a b->Vals (a.eraseIdx i) (b.eraseIdx i)
 |_,_,_,.nil=>.nil
 |_,_,0,.cons _ t=>t
 |_,_,i+1,.cons r t=>.cons r<|Vals.eraseIdx i t
def Vals.reverse(h:Vals a b):Vals a.reverse b.reverse:=by
 induction h with
 |nil=>exact .nil
 |cons r t c=>rw[oB,oB];exact Vals.append c<|.cons r .nil
def KO(l:List d):l.eraseIdx (l.length-1)=l.dropLast:=by
 induction l with
 |nil=>rfl
 |cons a r c =>
  cases r with
  |nil=>rfl
  |cons b r =>
   have e:(a::b::r).length-1=((b::r).length-1)+1:=by
    have f:(a::b::r).length=r.length+2:=rfl;have g:(b::r).length=r.length+1:=rfl
    lia
   rw[e,oQ,c]
   all_goals rfl
def Gg:∀(l:List a)(i:Nat),(l.eraseIdx i).length<=l.length
 | [],_=>gZ _
 |_::_,0=>md _
 |_::r,i+1=>Nat.succ_le_succ<|Gg r i
def Inv.XG{a its':List cr}{n:Nat}{d:Nat}(I:Inv X b g H s)(h:H l=↑(.lst p))
 (e:s.heap.get? l=some 114) (i:f a.toArray=its'.toArray) (j:Vals c its') (k:c.length<=hJ) :
    Inv X b g (upd H l<|.lst c) { s with heap:=s.heap.update l<|Obj.mapSeq f,toks:=d}:=by
  have q:=PySem.IsL.update e f
  rw[i]at q
  refine I.write (x:=l) (e:=l) (by rw[h];exact trivial) (.inl rfl) (λr u m o=>(iN s.heap (Obj.mapSeq f)<|Ne.symm m).trans o) #[_,q] ?_
  exact#[k,its',_,j,q]
def Inv.a13{t':Nat}(I:Inv X a d H s)(e:Vals c b)(f:c.length<=hJ) :
  Inv X a d (upd H ⇑s<|.lst c) { s with heap:=s.heap.push { cls:=.type "list",data:=.seq b.toArray},toks:=t'} :=
 I.laid (λ_ _ q=>ce _ q) (gZ _) #[f,b,0,e,ic _ rfl]
def Inv.fresh(I:Inv X a b H s):H ⇑s=none:=I.vW.fresh<|gZ _
def Inv.PX(I:Inv X c f H s)(d:H l=↑(.lst b)):b.length<=hJ/\∃(a:List cr)(n:Nat),Vals b a/\b.length=a.length/\s.heap.get? l=some 114:=by obtain⟨z,a,n,r,e⟩:=I.vW l _ d;exact#[z,a,n,r,r.length,e]
def MM:V->List V->Hp->VK->Prop:=λx b H Q=>∃l a y,x=.ref l/\b=[y]/\H l=↑(.lst a)/\a.length<hJ/\Q .wP (upd H l<|.lst<|a++[y])
def NX:Zg X "list.append" MM:=by
 intro b s i H x j v k Q I d f h;obtain⟨l,m,y,rfl,rfl,c,o,q⟩:=h;cases d;obtain⟨u,rfl,g⟩:=f.one;obtain⟨z,a,n,r,p,e⟩:=I.PX c;refine call_meets F.slot_list_append #[_,e,rfl] F.entry_list_append (F.args_list_append_2 _ _) (PySem.list_append l a.toArray n u<|by rw[ie];lia) #[e,?_];refine#[.wP,_,I.XG (its':=a++[u]) c e q0o (r.append<|.cons g .nil) ?_,rfl,q];rw[ig,iw]
 lia
def ZN:V->List V->Hp->VK->Prop:=λx b H Q=>∃l a y,x=.ref l/\b=[]/\H l=↑(.lst a)/\a[a.length-1]?=↑y/\Q y (upd H l<|.lst a.dropLast)
def PY:Zg X "list.pop" ZN:=by
 intro d s p H x t v w Q I g i h;obtain⟨l,A,y,rfl,rfl,f,j,q⟩:=h;cases g;have b:=i.zero;subst b;obtain⟨z,a,n,r,k,e⟩:=I.PX f;refine e1a2 (r.get j) λu m o=>?_
 have c:a.toArray[a.toArray.size-1]?=↑u:=by show a.toArray[a.length-1]?=↑u;rw[<- iR,<- k];exact m
 refine call_meets o5 #[_,e,rfl] F.entry_list_pop (F.args_list_pop_1 _) (MeetsSeq.list_pop_last l a.toArray n u c<|by rw[ie];omega) #[e,?_];refine#[y,_,I.XG (its':=a.dropLast) f e ?_ r.dropLast ?_,o,q]
 ·show a.toArray.eraseIdxIfInBounds (a.toArray.size-1)=a.dropLast.toArray;rw[ie,qM,KO]
 ·rw[List.length_dropLast];omega
def PZ:V->List V->Hp->VK->Prop:=λx b H Q=>∃l a i k y,x=.ref l/\b=[.int i]/\H l=↑(.lst a)/\-(2 ^ 63)<=i/\i<2 ^ 63/\seqIndex? i a.length=↑k/\a[k]?=↑y/\Q y (upd H l<|.lst<|a.eraseIdx k)
def P0:Zg X "list.pop" PZ:=by
 intro c s E H x G v J Q I f g h;obtain⟨l,j,i,k,y,rfl,rfl,d,m,o,p,A,q⟩:=h;cases f;obtain⟨u,rfl,B⟩:=g.one;obtain⟨t,rfl⟩:=B;obtain⟨z,a,n,r,C,e⟩:=I.PX d;refine e1a2 (r.get A) λw D b=>?_
 refine call_meets o5 #[_,e,rfl] F.entry_list_pop (F.args_list_pop_2 _ _)
  (MeetsSeq.list_pop_at l a.toArray n i t k w (fitsIndex_both m o) (by rw[ie,<- C];exact p) (by rw[<- iR];exact D)<|by rw[ie];lia) #[e,?_]
 refine#[y,_,I.XG (its':=a.eraseIdx k) d e ?_ (r.eraseIdx k) ?_,b,q]
 ·show a.toArray.eraseIdxIfInBounds k=(a.eraseIdx k).toArray;rw[qM]
 ·have:=Gg j k
  lia
def a14:R2:=λx y H Q=>∃l b a c,x=.ref l/\y=.ref b/\H l=↑(.lst a)/\H b=↑(.lst c)/\a.length+c.length<=hJ/\∀p,H p=none->Q (.ref p) (upd H p<|.lst<|a++c)
def XH:Bb X (mM .Add) a14:=by
 intro d s t H x y v u Q I f g h;obtain⟨l,b,w,A,rfl,rfl,i,j,B,q⟩:=h;cases f;cases g;obtain⟨z,c,n,r,C,e⟩:=I.PX i;obtain⟨D,a,E,k,m,o⟩:=I.PX j;refine PySem.P.add_list e o ?_ (by rw[ie,ie];lia);have p:c.toArray++a.toArray=(c++a).toArray:=by simp
 rw[p];exact#[.ref _,_,I.a13 (t':=s.toks) (r.append k) (by rw[ig];lia),rfl,q _ I.fresh]
section
variable{κ:Type}[DecidableEq κ]
noncomputable def yI(xF:List (κ×V))(k:κ):Option V:=(xF.find? λkv=>decide<|kv.1=k).map (·.2)
noncomputable def putK(xF:List (κ×V))(k:κ)(v:V):List (κ×V) :=
 if (xF.any λkv=>decide<|kv.1=k)=true then xF.map (λkv=>if kv.1=k then (kv.1,v) else kv) else xF++[(k,v)]
noncomputable def Aq(a:List (κ×V))(k:κ):List (κ×V):=a.filter λb=>decide<|b.1≠k
def zp{p:κ×V}{r:List (κ×V)}(e:p.1=k):yI (p::r) k=↑p.2:=by simp[yI,i9,e]
def zq{p:κ×V}{r:List (κ×V)}(e:¬p.1=k):yI (p::r) k=yI r k:=by simp[yI,i9,e]
def As(k:κ):∀a:List (κ×V),(a.any λb=>decide<|b.1=k)=(yI a k).isSome
 | []=>rfl
 |p::r=>by
  rw[oH];by_cases e:p.1=k
  ·simp only[zp e,decide_eq_true e,Bool.true_or,Option.isSome_some]
  ·rw[zq e,ik e,Bool.false_or];exact As k r
def Au(a:List (κ×V))(k:κ)(v:V):(putK a k v).length<=a.length+1:=by
 unfold putK;split
 ·rw[hO];lia
 ·rw[ig,iz,nJ];lia
def P1{a:List (κ×V)}(v:V)(h:yI a k=none):putK a k v=a++[(k,v)]:=by unfold putK;rw[As,h];exact ci q0q
def zB.yO(r:zB o u):o.isSome=u.isSome:=by
 cases o with
 |none=>cases u with
  |none=>rfl
  |some _=>exact(show False from r).elim
 |some _=>cases u with
  |none=>exact(show False from r).elim
  |some _=>rfl
def zB.getD(r:zB o u)(a:RelV d b):RelV (o.getD d) (u.getD b):=by
 cases o with
 |none=>cases u with
  |none=>exact a
  |some _=>exact(show False from r).elim
 |some _=>cases u with
  |none=>exact(show False from r).elim
  |some _=>exact r
def KV.val(r:KV a g)(k:κ):zB (yI a k) (qE g k):=by
 induction r with
 |nil=>exact True.intro
 | @cons p q l c h t i =>
  obtain⟨f,j⟩:=h;by_cases e:p.1=k
  ·have d:q.1=k:=f.symm.trans e;have b:qE (q::c) k=↑q.2:=by simp[qE,i9,d]
   rw[zp e,b];exact j
  ·have d:¬q.1=k:=λz=>e<|f.trans z;have b:qE (q::c) k=qE c k:=by simp[qE,i9,d]
   rw[zq e,b];exact i
def KV.any(r:KV a c)(k:κ):(a.any λb=>decide<|b.1=k)=c.any λb=>decide (b.1=k):=by
 induction r with
 |nil=>rfl
 |cons h t d=>rw[oH,oH,d,h.1]
def KV.XI(r:KV c d)(k:κ)(f:RelV y u) :
  KV (c.map λa=>if a.1=k then (a.1,y) else a) (d.map λa=>if a.1=k then (a.1,u) else a):=by
 induction r with
 |nil=>exact .nil
 | @cons p q j l h t g =>
  rw[iC,iC];refine .cons ?_ g;obtain⟨b,i⟩:=h;by_cases e:p.1=k
  ·rw[gU e,gU<|b.symm.trans e];exact#[b,f]
  ·rw[ci e,ci<|λz=>e<|b.trans z];exact#[b,i]
def KV.put(r:KV a b)(k:κ)(c:RelV y u):KV (putK a k y) (stored b k u):=by
 unfold putK stored;rw[r.any k];by_cases e:(b.any λd=>decide<|d.1=k)=true
 ·rw[gU e,gU e];exact r.XI k c
 ·rw[ci e,ci e];exact Paired.snoc r #[rfl,c]
def KV.drop(r:KV c g)(k:κ):KV (Aq c k) (without g k):=by
 unfold Aq without
 induction r with
 |nil=>exact .nil
 | @cons p q l m h t f =>
  obtain⟨d,i⟩:=h;rw[jk,jk];by_cases e:p.1=k
  ·have a:¬decide (p.1≠k)=true:=by simp[e]
   have b:¬decide (q.1≠k)=true:=by simp[d.symm.trans e]
   rw[ci a,ci b];exact f
  ·have j:¬q.1=k:=λz=>e<|d.trans z;have a:decide (p.1≠k)=true:=by simp[e]
   have b:decide (q.1≠k)=true:=by simp[j]
   rw[gU a,gU b];exact .cons #[d,i] f
def KV.length{xF:List (κ×V)}{vs:List (κ×cr)}(r:KV xF vs):xF.length=vs.length:=Paired.length r
def Jl(a:List (κ×V))(k:κ):(Aq a k).length<=a.length:=iI _ _
end
def Bk(r:RelV (kV k) u):(vO P w).is k u=true:=by
 cases k with
 |inl i=>obtain⟨t,e⟩:=(show ∃t,u=l8 i t from r);subst e;exact IT P w i t
 |inr x=>obtain⟨t,e⟩:=(show ∃t,u=Value.str x t from r);subst e;exact IU P w x t
def NY:∀{a:List Key} {c:List cr},Vals (a.map kV) c->ItemsAre (vO P w) a c:=by
 intro d
 induction d with
 |nil=>intro _ r;rw[o8]at r;cases r;exact .nil
 |cons k a b =>
  intro _ r;rw[iC]at r
  cases r with
  |cons h t=>exact .cons (Bk h)<|b t
abbrev KT(H:Hp):List (List Key×V)->List (List Key×gV×cr)->Prop:=Paired λp q=>p.1=q.1/\H q.2.1=↑(.tup<|p.1.map kV)/\RelV p.2 q.2.2
def KT.val(r:KT H a g)(k:List Key):zB (yI a k) ((tm g k).map (·.2)):=by
 induction r with
 |nil=>exact True.intro
 | @cons p q l c h t i =>
  refine e0a3 h λf _ j=>?_;by_cases e:p.1=k
  ·have d:q.1=k:=f.symm.trans e;have b:tm (q::c) k=↑q.2:=by simp[tm,i9,d]
   rw[zp e,b];exact j
  ·have d:¬q.1=k:=λz=>e<|f.trans z;have b:tm (q::c) k=tm c k:=by simp[tm,i9,d]
   rw[zq e,b];exact i
def KT.XI(r:KT H b f)(k:List Key)(g:RelV y u) :
  KT H (b.map λc=>if c.1=k then (c.1,y) else c) (f.map<|putAt k u):=by
 induction r with
 |nil=>exact .nil
 | @cons p q l m h t i =>
  rw[iC,iC];refine .cons ?_ i;refine e0a3 h λa d j=>?_;unfold putAt;by_cases e:p.1=k
  ·rw[gU e,gU<|a.symm.trans e];exact#[a,d,g]
  ·rw[ci e,ci<|λz=>e<|a.trans z];exact#[a,d,j]
def KT.put(r:KT H a c)(k:List Key)(f:H b=↑(.tup<|k.map kV))(d:RelV y u) :
  KT H (putK a k y) (storedH c k b u):=by
 have e:(a.any λg=>decide<|g.1=k)=(tm c k).isSome:=by rw[As,(r.val k).yO,iZ]
 unfold putK storedH;rw[e];by_cases q:(tm c k).isSome=true
 ·rw[gU q,gU q];exact r.XI k d
 ·rw[ci q,ci q];exact Paired.snoc r #[rfl,f,d]
def KT.keeps(r:KT H a d)(e:∀b c,H b=↑(.tup c)->f b=↑(.tup c)):KT f a d :=
 Paired.W9 r λ_ _ z=>#[z.1,e _ _ z.2.1,z.2.2]
def WD(b:yi P w H h)(e:Rd H a u):wp P w H h a u:=e.ok b
def BR(d:yi P w H h)(e:Rd H a (.dK b)):b.length<=hJ/\(a==lq)=false/\∃c,KV b c/\h.DictOf (vO P w) a c :=
 show wp P w H h a (.dK b) from WD d e
def MN(d:yi P w H h)(e:H a=↑(.dK b)):b.length<=hJ/\(a==lq)=false/\∃c,KV b c/\h.DictOf (vO P w) a c:=BR d<|.inl e
def BD{b:List Key}(d:yi P w H h)(e:H a=↑(.tup<|b.map kV)):(pF<|vO P w).is h b a:=by obtain⟨_,c,r,o,f,g,n,i⟩:=(show wp P w H h a (.tup<|b.map kV) from d a _ e);exact#[o,c.toArray,n,f,g,i,by simpa using NY r]
def Do(g:yi P w H h)(e:Rd H a (.dT b)):b.length<=hJ/\(a==lq)=false /\
  ∃d,KT H b d/\h.DictOfH (pF<|vO P w) a d:=by
 obtain⟨z,y,d,r,o,j,k,n,s,u,v,A⟩:=(show wp P w H h a (.dT b) from WD g e);refine#[z,y,d,r,o,j,k,n,s,u,v,λx c=>?_,A]
 have f:∀{l:List (List Key×V)} {m:List (List Key×gV×cr)},KT H l m->∀x∈m,(pF<|vO P w).is h x.1 x.2.1:=by
  intro l m q
  induction q with
  |nil=>intro x c;exact nomatch c
  | @cons p q C D i t B =>
   intro x c;rcases List.mem_cons.mp c with e|c
   ·subst e;exact BD g (by rw[<- i.1];exact i.2.1)
   ·exact B x c
 exact f r x c
def ZO(d:yi P w H h)(e:H a=↑(.dT b)):b.length<=hJ/\(a==lq)=false /\
  ∃c,KT H b c/\h.DictOfH (pF<|vO P w) a c:=Do d<|.inl e
def yz(H:Hp)(a:gV)(y:V)(r:Option V):Prop :=
 (∃xF k,Rd H a (.dK xF)/\y=kV k/\r=yI xF k)\/∃xF k b,Rd H a (.dT xF)/\y=.ref b/\H b=↑(.tup<|k.map kV)/\r=yI xF k
def GU(H:Hp)(a:gV)(y v:V)(H':Hp):Prop :=
 (∃xF k,H a=↑(.dK xF)/\y=kV k/\xF.length<hJ/\H'=upd H a (.dK<|putK xF k v)) \/
 ∃xF k b,H a=↑(.dT xF)/\y=.ref b/\H b=↑(.tup<|k.map kV)/\xF.length<hJ/\H'=upd H a (.dT<|putK xF k v)
def yz.k{H:Hp}{a:gV}{xF:List (Key×V)}{k:Key}(e:H a=↑(.dK xF)):yz H a (kV k) (yI xF k):=.inl #[xF,k,.inl e,rfl,rfl]
def GU.k{H:Hp}{a:gV}{xF:List (Key×V)}{k:Key}{v:V}(e:H a=↑(.dK xF))(hl:xF.length<hJ):GU H a (kV k) v (upd H a<|.dK<|putK xF k v):=.inl #[xF,k,e,rfl,hl,rfl]
def Inv.big(I:Inv X a b H s):lq<⇑s:=by have h:il<⇑s:=(I.mod.glob.keeps I.bk).lt;exact nX q0q h
def Gh(B:A.units+1<kT)(I:Inv X i C H s)(g:yz H a y ↑v)(t:RelV y u)(h:∀f x,Inv X i C H x->RelV v f->Q f x) :
  hX 28 A (oz (.ref a) u) Q E s:=by
 rcases g with⟨j,k,e,m,l⟩|⟨j,k,b,e,m,eb,l⟩
 ·subst m;obtain⟨z,D,F,c,n⟩:=BR I.vW e;obtain⟨f,q,d⟩:=zB.some_of (v:=v) (o:=qE F k) (by rw[l];exact c.val k);exact wpAny_getItem_of (Bk t) n.mapOf q<|h f _ (I.tok _) d
 ·subst m;cases (show u=iq b from t);obtain⟨z,D,G,c,n⟩:=Do I.vW e;obtain⟨f,q,d⟩:=zB.some_of (v:=v) (o:=(tm G k).map (·.2)) (by rw[l];exact c.val k);refine e1a2 (Option.map_eq_some_iff.mp q) λp J r=>?_;refine wpAny_getItem_heap (lO B) (BD I.vW eb) n J ?_;rw[r];exact h f _ (I.tok _) d
def a15(r:A.units+1<kT)(I:Inv X d t H s)(g:yz H a y o)(n:RelV y u)(h:∀p,Inv X d t H p->Q (.bool o.isSome) p) :
  hX 28 A (jG .In u<|.ref a) Q E s:=by
 rcases g with⟨f,k,e,i,l⟩|⟨f,k,b,e,i,eb,l⟩
 ·subst i;obtain⟨z,j,v,c,m⟩:=BR I.vW e;refine wpAny_in_of (Bk n) j m.mapOf ?_;rw[<- (c.val k).yO,<- l];exact h _<|I.tok _
 ·subst i;cases (show u=iq b from n);obtain⟨z,j,x,c,m⟩:=Do I.vW e;refine wpAny_in_heap (lO r) (BD I.vW eb) j m ?_;have q:=(c.val k).yO;rw[iZ]at q;rw[<- q,<- l];exact h _<|I.tok _
def Ud(r:A.units+1<kT)(I:Inv X d t H s)(g:yz H a y o)(n:RelV y u)(h:∀p,Inv X d t H p->Q (.bool<|!o.isSome) p) :
  hX 28 A (jG .NotIn u<|.ref a) Q E s:=by
 rcases g with⟨f,k,e,i,l⟩|⟨f,k,b,e,i,eb,l⟩
 ·subst i;obtain⟨z,j,v,c,m⟩:=BR I.vW e;refine wpAny_notIn_of (Bk n) j m.mapOf ?_;rw[<- (c.val k).yO,<- l];exact h _<|I.tok _
 ·subst i;cases (show u=iq b from n);obtain⟨z,j,x,c,m⟩:=Do I.vW e;refine wpAny_notIn_heap (lO r) (BD I.vW eb) j m ?_;have q:=(c.val k).yO;rw[iZ]at q;rw[<- q,<- l];exact h _<|I.tok _
def BS{h:Nat}(I:Inv X c i H s)(j:Zr (H a))(k:jg a s.heap d)(l:∃q,d.get? a=↑q)(f:wp X.prog X.w (upd H a g) d a g) :
  Inv X c i (upd H a g) { s with heap:=d,toks:=h} :=
 I.write (x:=a) (e:=a) j (.inl rfl) (λb q m z=>(k.2 b m).trans z) l f
def Ei{d:iX}{b:List (Key×V)}(z:b.length<=hJ)(f:(a==lq)=false)(c:KV b e)(g:d.DictOf (vO P w) a e) :
  wp P w h d a (.dK b):=#[z,f,e,c,g]
def Gi(M:A.units+1<kT)(I:Inv X j N H s)(g:GU H a y v O)(D:RelV y u)(F:RelV v r)(h:∀G,Inv X j N O G->Q () G) :
  hX 28 A (sL (.ref a) u r) Q E s:=by
 rcases g with⟨d,k,e,n,l,o⟩|⟨d,k,b,e,n,eb,l,o⟩
 ·subst n o;obtain⟨z,p,P,f,t⟩:=MN I.vW e;have x:P.length<=hJ:=by rw[<- f.length];exact z
  have B:(putK d k v).length<=hJ:=by have:=Au d k v;lia
  refine wpAny_setItem_pairs (hsz:=x) (Bk D) t λJ i C=>h _ ?_;have R:∃q,J.get? a=↑q:=e3a2 i λq _ _ m _=> #[q,m];exact BS I (by rw[e];exact True.intro) C R<|Ei B p (f.put k F) i
 ·subst n o;cases (show u=iq b from D);obtain⟨z,p,S,f,t⟩:=ZO I.vW e;have x:S.length<=hJ:=by rw[<- Paired.length f];exact z
  have B:(putK d k v).length<=hJ:=by have:=Au d k v;lia
  refine wpAny_setItem_heap (hsz:=x) (lO M) (BD I.vW eb) t λJ i C=>h _ ?_;obtain⟨q,T,U,m,W,Y,Z,_,h5⟩:=i;refine BS I (by rw[e];exact True.intro) C #[q,m] #[B,p,_,(f.put k eb F).keeps λc ys L=>?_,q,T,U,m,W,Y,Z,h5];rw[ve<|Zq L e<|λz=>nomatch z];exact L
def NZ(I:Inv X d j H s)(e:H a=↑(.dK b))(m:RelV (kV k) u)(l:(yI b k).isSome=true)(h:∀i,Inv X d j (upd H a<|.dK<|Aq b k) i->Q () i) :
  hX 28 A (delItem (.ref a) u) Q E s:=by
 obtain⟨z,n,o,c,g⟩:=MN I.vW e
 refine wpAny_delItem_slot g.typeIs q0q rq
  (oC rq g.typeIs PySem.F.entry_dict_delitem (PySem.F.args_dict_delitem_2 _ _) (meets_dict_delitem_pairs (vO X.prog X.w) a<|Bk m) ⟨o,g,by rw[<- c.length];exact z,by rw[<- (c.val k).yO];exact l,λp f r=>h _ ?_⟩)
 have t:∃q,p.get? a=↑q:=e3a2 f λq _ _ v _=> #[q,v];exact BS I (by rw[e];exact True.intro) r t<|Ei (iK (Jl b k) z) n (c.drop k) f
def ZP(I:Inv X d B H s)(e:H a=↑(.dK b))(j:RelV (kV k) u)(l:yI b k=↑v)(n:more=[]\/∃x,more=[x])
 (h:∀f p,Inv X d B (upd H a<|.dK<|Aq b k) p->RelV v f->Q f p):hX 28 A (call (.builtin "dict.pop") (.ref a::u::more)) Q E s:=by
  obtain⟨z,C,r,c,y⟩:=MN I.vW e
  obtain⟨f,D,m⟩:=zB.some_of (v:=v) (o:=qE r k) (by rw[<- l];exact c.val k)
  have G:(keyPart u).isSome=true:=by
    cases k with
    |inl i=>obtain⟨t,q⟩:=(show ∃t,u=l8 i t from j);subst q;rfl
    |inr x=>obtain⟨t,q⟩:=(show ∃t,u=Value.str x t from j);subst q;rfl
  have J:rX "dict.pop" #[.ref a::u::more,[]]:=by
    rcases n with q|⟨x,q⟩
    · subst q; exact PySem.F.args_dict_pop_2 _ _
    · subst q; exact PySem.F.args_dict_pop_3 _ _ _
  refine oC sh y.typeIs PySem.F.entry_dict_pop J (meets_dict_pop_there (vO X.prog X.w) a (Bk j) more n G)
    #[r,f,y,by rw[<- c.length];exact z,D,λL g M=>h f _ ?_ m]
  have N:∃q,L.get? a=↑q:=e3a2 g λq _ _ O _=> #[q,O]
  exact BS I (by rw[e];exact True.intro) M N<|Ei (iK (Jl b k) z) C (c.drop k) g
def ZQ(I:Inv X b g H s)(e:Rd H a (.dK d))(h:∀t f,Inv X b g H f->Q (.int d.length t) f):hX 28 A (call (.builtin "len") [.ref a]) Q E s:=by obtain⟨z,i,k,c,j⟩:=BR I.vW e;refine call_len_dict i j (by rw[<- c.length];rw[i7]at z;lia) ?_;rw[<- c.length];exact h _ _<|I.tok _
def P2(i:iT):Prop:=∀a b,sg i false a b=operate [a,b] (oz a b)
def Ue{m:String} 
 (n:nN (.type T) "__getitem__"=pure (some<|.builtin m)) (p:P2 slice)
 (h:hX (hZ a w) A (eval value g) (λo d=>hX (hZ a w) A (eval slice g) (λi b=>b.TypeIs o T/\hX (hZ a w) A (oz o i) Q E b) E d) E s) :
    hX (hZ a w) A (eval (.Subscript value slice pos) g) Q E s:=by
  refine tj<|jm h (λo d j=>jm j (λi b c=>?_) λ_ _ x=>x) λ_ _ x=>x
  obtain⟨l,c⟩:=c
  refine am ?_
  rw[getitemInPython_of_ne l.not_modules]
  refine am<|qe l n ?_
  have f:hX (hZ a w) A (sg slice false o i) (λr e=>hX (hZ a w) A (letTemporaryGo value o r >>= λ_=>pure r) Q E e) E b:=by
    rw[p o i]
    exact wpAny_operating<|jm c (λr e k=>am<|wpAny_letTemporaryGo<|ap k) λ_ _ x=>x
  first
    | exact ap<|am f
    | exact am<|ap<|am f
    | exact am f
def Jm(I:Inv X f h H s)(g:yz H a y o):s.TypeIs (.ref a) "dict":=by
 rcases g with⟨c,k,e,_,_⟩|⟨c,k,b,e,_,_,_⟩
 ·obtain⟨_,_,i,_,d⟩:=BR I.vW e;exact d.typeIs
 ·obtain⟨_,_,j,_,d⟩:=Do I.vW e;exact d.typeIs
def ZR(d e:TE):TE:=λb H Q=>d b H λx f=>e b f λy c=>∃a v,x=.ref a/\yz c a y ↑v/\Q v c
def a16(d e:TE):TE:=λb H Q=>d b H λy f=>e b f λx c=>∃a o,x=.ref a/\yz c a y o/\Q (.bl o.isSome) c
def Uf(d e:TE):TE:=λb H Q=>d b H λy f=>e b f λx c=>∃a o,x=.ref a/\yz c a y o/\Q (.bl<|!o.isSome) c
def ZS(d e f:TE):TS:=λD b H=>f b H λv g=>d b g λx h=>e b h λy i=>∃a c,x=.ref a/\GU i a y v c/\D.nx b c
def ZU(e f g:TE)(h:V->V->Hp->VK->Prop):TS:=λD b H=>e b H λx i=>f b i λy c=>∃a v,x=.ref a/\yz c a y ↑v /\
 g b c λj k=>h v j k λz l=>∃d,GU l a y z d/\D.nx b d
def P4(e f:TE):TS:=λD c H=>e c H λx g=>f c g λy d=>∃a b k,x=.ref a/\d a=↑(.dK b)/\y=kV k/\(yI b k).isSome=true/\D.nx c (upd d a<|.dK<|Aq b k)
def GV(k:X.A.units+1<kT)(l:PE X o m)(n:PE X i ty)(p:P2 i):PE X (.Subscript o i pos) (ZR m ty):=by intro b s f H Q I h;refine Ue PySem.F.slot_dict_getitem.lookup p<|vU (l b s f H _ I h) λu q c=>e2a3 c λx H1 r t w=>vU (n b q f H1 _ r w) λE G c=>e2a3 c λy H2 j z d=>e2a3 d λa v B g C=>?_;subst B;obtain rfl:u=iq a:=t;exact#[Jm j g,Gh k j g z λJ L D e=>#[v,H2,D,e,C]]
def P5(f:X.A.units+1<kT)(j:PE X i ty)(k:PE X o l):PC X .In i o (a16 ty l):=by intro b s e H Q I h;refine vU (j b s e H _ I h) λC m c=>e2a3 c λy H1 n p q=>vU (k b m e H1 _ n q) λu D c=>e2a3 c λx H2 r t d=>e2a3 d λa v w g z=>?_;subst w;obtain rfl:u=iq a:=t;exact a15 f r g p λE B=>#[.bl v.isSome,H2,B,rfl,z]
def CK(f:X.A.units+1<kT)(j:PE X i ty)(k:PE X o l):PC X .NotIn i o (Uf ty l):=by intro b s e H Q I h;refine vU (j b s e H _ I h) λC m c=>e2a3 c λy H1 n p q=>vU (k b m e H1 _ n q) λu D c=>e2a3 c λx H2 r t d=>e2a3 d λa v w g z=>?_;subst w;obtain rfl:u=iq a:=t;exact Ud f r g p λE B=>#[.bl<|!v.isSome,H2,B,rfl,z]
def GY(j:X.A.units+1<kT)(k:PE X o l)(m:PE X i ty)(n:PE X value p)(q:kd value (some<|.Subscript o i c) pos.line X.env=pure false) :
  PS X (.Assign [.Subscript o i c] value pos) (ZS l ty p):=by
 intro b s e H D I h;refine wpAny_Assign_Subscript (vU (n b s e H _ I h) λr t d=>e2a3 d λv H1 w z B=>vU (k b t e H1 _ w B) λu C d=>e2a3 d λx H2 E F G=>vU (m b C e H2 _ E G) λP Q d=>e2a3 d λy H3 J L f=>e2a3 f λa H4 M g N=>?_) q;subst M;obtain rfl:u=iq a:=F;exact Gi j J g L z λR O=>#[e,H4,O,N]
def Ug(p:X.A.units+1<kT)(t:PE X o w)(B:PE X i ty)(C:PE X value E)(j:ZH X op F)
 (G:∀f d new,augStore i f d new=(do k9 [new,f,d] (sL f d new);release [new,f,d] [];pure .next)):PS X (.AugAssign (.Subscript o i q) op value pos) (ZU w ty E F):=by
  intro b s e H D I h
  refine sD (vU (t b s e H _ I h) λu J c=>e2a3 c λx H1 L M N=>vU (B b J e H1 _ L N) λd s2 c=>e2a3 c λy H2 O r k=>e2a3 k λa v P g Q=>?_) G
  subst P
  obtain rfl:u=iq a:=M
  refine Gh p O g r λR S T l=>vU (C b S e H2 _ T Q) λU W c=>e2a3 c λY H3 Z m q3=>vU (j b W e H3 v Y R U _ Z l m q3) λw3 s5 c=>e2a3 c λz H4 I5 rz n=>e1a2 n λH5 g5 q4=>?_
  exact Gi p I5 g5 r rz λs6 I6=>#[e,H5,I6,q4]
def GZ(j:PE X o m)(n:PE X i ty):PS X (.Delete [.Subscript o i g] pos) (P4 m ty):=by intro b s d H D I h;refine wpAny_Delete<|wpAny_deleteEach_cons<|wpAny_delete_Subscript<|vU (j b s d H _ I h) λu p f=>e2a3 f λx H1 q r t=>vU (n b p d H1 _ q t) λF G f=>e2a3 f λy H2 v w c=>e3a5 c λa z k A e B l C=>?_;subst A B;obtain rfl:u=iq a:=r;exact NZ v e w l λJ E=>wpAny_deleteEach_nil #[d,_,E,C]
def Jn(h:iX)(a:lq<h.objs.size):wp P w H (h.push 129) h.objs.size (.dK []) :=
 #[jj _,beq_eq_false_iff_ne.mpr<|Ne.symm<|ij a,[],.nil,sQ h]
def Ej:TE:=λ_ H Q=>∀p,H p=none->Q (.ref p) (upd H p<|.dK [])
def BU:PE X (.Dict [] [] pos) Ej:=λb s c H Q I h =>
 wpAny_Dict_empty #[.ref ⇑s,_,I.laid (a:=⇑s) (o:=.dK []) (t':=s.toks) (λ_ _ q=>ce _ q) (gZ _)<|Jn s.heap I.big,rfl,h _<|I.vW.fresh<|gZ _]
def KP:List (TE×TE)->St->Hp->(List (V×V)->Hp->Prop)->Prop
 | [],_,H,Q=>Q [] H
 | (tk,tv)::r,σ,H,Q=>tk σ H λx H1=>tv σ H1 λy H2=>KP r σ H2 λps H3=>Q ((x,y)::ps) H3
abbrev VV:List (V×V)->List (cr×cr)->Prop:=Paired λp q=>RelV p.1 q.1/\RelV p.2 q.2
def PPs(X:Cx)(d:Pos)(c:List (Option iT))(a:List iT)(e:List (TE×TE)):Prop :=
 ∀(b:List (gV×Obj)) (s:hR) (f:St) (H:Hp) (Q:List (V×V)->Hp->Prop),Inv X b f H s->KP e f H Q ->
  hX 28 X.A (evalPairs<|pairTrees c a X.env d) (λi j=>∃g h,Inv X b f h j/\VV g i/\Q g h) X.xe s
def Uh:PPs X pos [] [] []:=λa s b H Q I h=>pairTrees_nil_walk #[[],H,I,.nil,h]
def P6(e:PE X k f)(g:PE X v i)(j:PPs X pos l m c) :
  PPs X pos (↑k::l) (v::m) ((f,i)::c):=λa s d H Q I h =>
 pairTrees_cons_walk (vU (e a s d H _ I h) λu n b=>e2a3 b λx H1 o p q=>vU (g a n d H1 _ o q) λD r b=>e2a3 b λy H2 t w z =>
  vU (j a r d H2 _ t z) λE F b=>e2a3 b λA H3 B rel C=>#[(x,y)::A,H3,B,.cons #[p,w] rel,C])
noncomputable def Ek(b a:List (Key×V)):List (Key×V):=a.foldl (λc d=>putK c d.1 d.2) b
def KV.merge:∀{a:List (Key×V)} {d:List (Key×cr)} {b:List (Key×V)} {c:List (Key×cr)},KV a d->KV b c->KV (Ek b a) (merged c d):=by
 intro a d b c r
 induction r generalizing b c with
 |nil=>intro q;exact q
 | @cons p q i j h t f =>
  intro g
  have e:KV (putK b p.1 p.2) (stored c q.1 q.2):=by have:=g.put p.1 h.2;rw[<- h.1];exact this
  exact f e
def Bl:∀(b a:List (Key×V)),(Ek a b).length<=a.length+b.length
 | [],a=>by show a.length<=a.length+0;lia
 |p::r,a=>by have c:=Bl r<|putK a p.1 p.2;have d:=Au a p.1 p.2;show (Ek (putK a p.1 p.2) r).length<=_;rw[iz];lia
def KQ:∀{d:List (Key×V)} {g:List (cr×cr)},VV (d.map λi=>(kV i.1,i.2)) g->∃e,Carries (vO P w) g e/\KV d e:=by
 intro j
 induction j with
 |nil=>intro _ r;rw[o8]at r;cases r;exact#[[],True.intro,.nil]
 |cons p d f =>
  intro _ r;rw[iC]at r
  cases r with
  | @cons a b as bs h t =>
   refine e1a2 (f t) λe c q=>?_;obtain⟨l,k⟩:=b;exact#[(p.1,k)::e,#[Bk h.1,rfl,c],.cons #[rfl,h.2] q]
def ZV(b:List (TE×TE)):TE:=λe H Q=>∀p,H p=none->KP b e (upd H p<|.dK []) λf c=>c p=↑(.dK [])/\∃a:List (Key×V),f=a.map (λd=>(kV d.1,d.2))/\a.length<=15/\Q (.ref p) (upd c p<|.dK<|Ek [] a)
def Ui(h:PPs X pos keys values i)(b:keys.all (·.isSome)=true)(n:keys.length=values.length)(p:keys≠[])
 (j:keys.length<=15):PE X (.Dict keys values pos) (ZV i):=by
  intro d s r H Q I q
  have t:=I.vW.fresh<|gZ ⇑s
  have u:=I.laid (a:=⇑s) (o:=.dK []) (h':=s.heap.push 129) (t':=s.toks) (λ_ _ q=>ce _ q) (gZ _)<|Jn s.heap I.big
  refine wpAny_Dict_walk (knd:=vO X.prog X.w) b n p j<|vU (h d _ r _ _ u<|q _ t) λR S v=>e2a4 v λT U m k e l=>e1a3 l λf x lk y=>?_
  subst x
  refine e1a2 (KQ (P:=X.prog) (w:=X.w) k) λA c B=>?_
  obtain⟨z,C,D,E,F⟩:=MN m.vW e
  cases E
  refine#[A,c,F,λG g J=>#[.ref ⇑s,_,?_,rfl,y]]
  have L:(Ek [] f).length<=hJ:=by
    have M:=Bl f []
    rw[nJ]at M
    rw[i7];lia
  have N:∃q,G.get? ⇑s=↑q:=e3a2 g λq _ _ O _=> #[q,O]
  exact BS m (by rw[e];exact True.intro) J N<|Ei L C (B.merge .nil) g
structure M1(X:Cx)(o:iT)(m:Str)(apos:Pos)(e:iT)(cpos:Pos):Prop where
 base:iP o m X.env (eval o X.env)=eval o X.env
 few:((jx cpos (gX [e] X.env)).all (λx=>!x.1)&&(ni cpos (lh [] X.env)).all (λx=>x.1.isSome)
  && decide (([e]:List iT).length+([]:List pY).length+(if ([]:List pY).isEmpty then 0 else 1)<30))=true
 line:(apos.endLine==cpos.line)=true
 trees:jx cpos (gX [e] X.env)=[67]
structure M2(X:Cx)(o:iT)(m:Str)(apos:Pos)(e f:iT)(cpos:Pos):Prop where
 base:iP o m X.env (eval o X.env)=eval o X.env
 few:((jx cpos (gX [e,f] X.env)).all (λx=>!x.1)&&(ni cpos (lh [] X.env)).all (λx=>x.1.isSome)
  && decide (([e,f]:List iT).length+([]:List pY).length+(if ([]:List pY).isEmpty then 0 else 1)<30))=true
 line:(apos.endLine==cpos.line)=true
 trees:jx cpos (gX [e,f] X.env)=[67,(false,eval f X.env)]
def IsD(H:Hp)(a:gV):Prop:=(∃b,Rd H a<|.dK b)\/∃b,Rd H a<|.dT b
def KR(I:Inv X k l H s)(d:IsD H a) :
  s.TypeIs (.ref a) "dict"/\(∀b,iq a=.ref b->∃c,s.heap.get? b=↑c/\c.dict=none)/\(a==lq)=false:=by
 rcases d with⟨g,e⟩|⟨g,e⟩
 ·obtain⟨_,h,m,_,f⟩:=BR I.vW e;refine#[f.typeIs,λb q=>?_,h];cases q;obtain⟨c,_,_,i,j,_⟩:=f;exact#[c,i,j.2.1]
 ·obtain⟨_,h,n,_,f⟩:=Do I.vW e;refine#[f.typeIs,λb q=>?_,h];cases q;obtain⟨c,_,_,i,j,_⟩:=f;exact#[c,i,j.2.1]
def XJ(r:A.units+1<kT)(I:Inv X d t H s)(g:yz H a y o)(n:RelV y u)(h:∀p q,Inv X d t H q->RelV (o.getD .wP) p->Q p q) :
  hX 28 A (call (.builtin "dict.get") [.ref a,u]) Q E s:=by
 rcases g with⟨i,k,e,j,l⟩|⟨i,k,b,e,j,eb,l⟩
 ·subst j;obtain⟨z,m,x,c,f⟩:=BR I.vW e;refine oC kI f.typeIs mI (rP _ _) (meets_dict_get (vO X.prog X.w) a (Bk n) m) #[_,f.mapOf,h _ _ (I.tok _) ?_];rw[l];exact(c.val k).getD rfl
 ·subst j;cases (show u=iq b from n);obtain⟨z,m,v,c,f⟩:=Do I.vW e;refine oC kI f.typeIs mI (rP _ _) (meetsH_dict_get (pF<|vO X.prog X.w) a b m) #[lO r,k,v,BD I.vW eb,f,h _ _ (I.tok _) ?_];rw[l];exact(c.val k).getD rfl
def XM(x:A.units+1<kT)(I:Inv X f B H s)(g:yz H a y o)(p:RelV y u)(q:RelV d r)(h:∀t v,Inv X f B H v->RelV (o.getD d) t->Q t v) :
  hX 28 A (call (.builtin "dict.get") [.ref a,u,r]) Q E s:=by
 rcases g with⟨j,k,e,m,l⟩|⟨j,k,b,e,m,eb,l⟩
 ·subst m;obtain⟨z,n,D,c,i⟩:=BR I.vW e;refine oC kI i.typeIs mI (rQ _ _ _) (meets_dict_get_default (vO X.prog X.w) a (Bk p) n r) #[_,i.mapOf,h _ _ (I.tok _) ?_];rw[l];exact(c.val k).getD q
 ·subst m;cases (show u=iq b from p);obtain⟨z,n,C,c,i⟩:=Do I.vW e;refine oC kI i.typeIs mI (rQ _ _ _) (meetsH_dict_get_default (pF<|vO X.prog X.w) a b n r) #[lO x,k,C,BD I.vW eb,i,h _ _ (I.tok _) ?_];rw[l];exact(c.val k).getD q
def XQ(e f:TE):TE:=λb H Q=>e b H λx c=>∃a,x=.ref a/\IsD c a/\f b c λy d=>∃o,yz d a y o/\Q (o.getD .wP) d
def XU(e f g:TE):TE:=λb H Q=>e b H λx c=>∃a,x=.ref a/\IsD c a/\f b c λy h=>g b h λz d=>∃o,yz d a y o/\Q (o.getD z) d
def XW(f g:TE):TE:=λc H Q=>f c H λx d=>∃a,x=.ref a/\IsD d a/\g c d λy e=>∃b k v,e a=↑(.dK b)/\y=kV k/\yI b k=↑v/\Q v (upd e a<|.dK<|Aq b k)
def P7(p:X.A.units+1<kT)(q:PE X o r)(t:PE X e ty)(m:M1 X o "get" apos e c):PE X (.Call (.Attribute o "get" apos) [e] [] c) (XQ r ty):=by intro b s l H Q I h;refine rE m.base m.few m.line oE kI si<|vU (q b s l H _ I h) λu v f=>e2a3 f λx H1 n w i=>e1a3 i λa z d B=>?_;subst z;obtain rfl:u=iq a:=w;refine e0a3 (KR n d) λC D _=>?_;refine#[C,D,?_];rw[m.trees];refine kB rfl<|jJ<|kf<|vU (t b v l H1 _ n B) λM N f=>e2a3 f λy H2 E G j=>e1a2 j λO g J=>lH ?_;exact XJ p E g G λP R L k=>#[_,H2,L,k,J]
def P8(q:X.A.units+1<kT)(r:PE X o t)(v:PE X e ty)(w:PE X f B)(m:M2 X o "get" apos e f c):PE X (.Call (.Attribute o "get" apos) [e,f] [] c) (XU t ty B):=by
 intro b s j H Q I h;refine rE m.base m.few m.line oE kI si<|vU (r b s j H _ I h) λu C i=>e2a3 i λx H1 p D k=>e1a3 k λa E d G=>?_;subst E;obtain rfl:u=iq a:=D;refine e0a3 (KR p d) λJ L _=>?_;refine#[J,L,?_];rw[m.trees]
 refine kB rfl (jJ (kf (vU (v b C j H1 _ p G) λW M i=>e2a3 i λy H2 N O P =>
  kf (vU (w b M j H2 _ N P) λY Z i=>e2a3 i λz H3 R S l=>e1a2 l λov g T=>lH ?_))))
 exact XM q R g O S λw' s4 U n=>#[_,H3,U,n,T]
def P9(q:PE X o r)(t:PE X e ty)(m:M1 X o "pop" apos e c):PE X (.Call (.Attribute o "pop" apos) [e] [] c) (XW r ty):=by intro b s n H Q I h;refine rE m.base m.few m.line oE sh PySem.F.type_dict_pop<|vU (q b s n H _ I h) λu w g=>e2a3 g λx H1 p z i=>e1a3 i λa A d B=>?_;subst A;obtain rfl:u=iq a:=z;refine e0a3 (KR p d) λC D _=>?_;refine#[C,D,?_];rw[m.trees];refine kB rfl<|jJ<|kf<|vU (t b w n H1 _ p B) λP R g=>e2a3 g λy H2 E G f=>e3a4 f λJ k v L M l N=>lH ?_;subst M;exact ZP E L G l (.inl rfl) λS T O j=>#[v,_,O,j,N]
end L2
namespace Att
open PySem PySem.W PySem.Calls PyProof.Rows
def DD:∀(c:List Int)(d:List cr),WellAll P h d (c.map WData.int)->lx d c:=by
 intro c
 induction c with
 |nil =>
  intro d w;rw[o8]at w;cases w;exact .nil
 |cons n c e =>
  intro d w;rw[iC]at w
  cases w with
  |cons a b =>
   cases a;exact .cons _ _<|e _ b
def N0{l:qO}{n:Nat}(o:l.most=↑n) 
 (b:l.row.toRowW.claim.pre args=true) (j:WellAll P h vals args) :
    ∃a m c,vals=[iq a]/\args=[WData.list<|c.map WData.int]/\h.get? a=some { cls:=.type "list",data:=.seq m.toArray}/\lx m c/\c.length<=n:=by
  have k:WShape.hasAll [] args [.list .int]=true:=(pre_splitW b).1
  have p:l.pre.holds [] { args:=args}=true:=(pre_splitW b).2
  obtain⟨d,r,rfl,s,t⟩:=hasAllW_cons k
  obtain rfl:=hasAllW_nil t
  obtain⟨y,rfl,u⟩:=hasW_list s
  obtain⟨c,rfl⟩:=items_int u
  have e:c.length<=n:=by
    have g:(WTm.not<|.lt (.lit<|.int (n:Int))<|.len<|.arg 0).holds [] { args:=[.list<|c.map .int]}=true:=by
      have g:=(holds_andW p).1
      rw[o]at g
      exact g
    have i:=condW_of g<|w_not<|w_lt w_lit<|w_len_list<|w_arg rfl
    rw[hO]at i
    refine q7 λq=>?_
    first
      | (rw[decide_eq_true z]at i;exact ii i q0q)
      | (simp at i;omega)
  cases j with
  |cons v w =>
    cases w
    cases v with
    |list x f=>exact#[_,_,c,rfl,rfl,x,DD c _ f,e]
def N3(l:qO)(args:List WData):l.row.toRowW.claim.post args (.bool true) args=true :=
 postW_of (r:=l.row.toRowW) (X:=(true==true))
  (show WShape.has [] (.bool true) .bool=true by first|rfl|decide|simp[WShape.has,WShape.arms,WShape.armsAll])
  (show (WTm.eq .res<|.lit<|.bool true).value [] { args:=args,res:=some<|.bool true,after:=args}=some (.bool<|true==true) from w_eq_bool (w_res rfl) w_lit) rfl
def Jo{l:qO}{n:Nat}{XP:(Str->Option cr)->iX->Prop}{d:DefRec}
 (E:l.most=↑n) (x:d.params.defaults=[])
 (call:∀(w:jb)(c b:hR)(s y:Str->Option cr)(j:gV)(o:Obj)(pm t e:cr)(a:gV)(i:List cr)(u:List Int),
 Ground q g [] XP w c s y b.heap->F w b.heap ->
 b.heap.get? j=↑o->o.data=.func (docDef d.name d.params d.body d.scope pm t e)->b.heap.CodeRec t d.name->s d.name=↑(.ref j) ->
 b.heap.get? a=some { cls:=.type "list",data:=.seq i.toArray}->lx i u->u.length<=n->b.gens=#v[] ->
 mS (hZ l.prog w) rF (.call (.ref j) #[[.ref a],[]]) (λr v=>r=.ok (.ret (.bool true))/\OldK b.heap v.heap/\v.os=b.os/\nQ v.gens) b) :
    uW q g XP F l.row.toRowW d [] (λf i=>uc f i):=by
  intro w c b s y G Y j o pm t e H kV I hd z C A J args vals as k D L B M
  obtain rfl:H=.none:=Dflts.none C x
  obtain rfl:kV=.none:=Dflts.noKw C
  obtain⟨a,i,u,rfl,rfl,m,h,p⟩:=N0 E k B
  refine enter_call<|j7 (call w c b s y j o pm t e a i u G Y I (fd_plain hd) z A m h p J) λr v N=>?_
  obtain⟨rfl,O,P,Q⟩:=N
  exact#[.inl #[.bool true,.bool true,[],rfl,λ_=>rfl,.bool true,N3 l _,λ_=>#[iG,λ_ R=>(nomatch R)]],O,P,Q]
end Att
namespace L2
open PySem PySem.Spec PyProof.Rows
def Gj:∀{a:List cr} {b:List Int},lx a b->Vals (b.map V.int) a:=by
 intro _ _ z
 induction z with
 |nil=>exact .nil
 |cons n t h c=>exact .cons #[t,rfl] c
noncomputable def wm(s:iB):Arguments:=match s with
 | .FunctionDef _ a _ _ _ _ _ _ _ _=>a
 |_=>{ posonlyargs:=[],args:=[],vararg:=none,kwonlyargs:=[],kw_defaults:=[],kwarg:=none,defaults:=[]}
noncomputable def vP(s:iB):List iB:=match s with
 | .FunctionDef _ _ b _ _ _ _ _ _ _=>b
 |_=>[]
noncomputable def vd(s:iB):my:=match s with
 | .FunctionDef _ _ _ _ _ _ sc _ _ _=>sc
 |_=>{ kind:=.function,names:=[],isGenerator:=false,isCoroutine:=false}
abbrev Qa:PJ:=λ_ _ _ _ _ _=>False
abbrev E0:XK:=λ_ _ _=>False
structure y9(K:gW)(x qual:Str)(st:iB)(f:gV)(fd:iQ):Prop where
 ex:∃(oc:cr)(od:Option gV)(kV doc pm:cr)(an:Option gV)(TN ct:cr) (N4:Array (Option cr)),
  fd=jL x qual (wm st) (vP st) (vd st) .none kV doc pm an TN ct/\K.lookup f=some #[oc,od,.func fd,N4]/\jC K TN qual=true
 kp:jt K (.ref f)=true
section
variable{P:iJ}{w:jb}{K:gW}{mg:Str->Option cr}{base:iX}
def y9.ok{g:iB}{k:Nat}(F:y9 K x c g f o)(S:vm N m (vd g))(i:∀d H Q E,n d H Q E->d.length=m.length)
 (e:∀(b:cr)(A:jF)(a:List Env)(s:hR)(H:Hp)(d:List V)(Q:VK)(E:XK),wI k (A.deeper (oV c (vd g) ⇑s f b))->n d H Q E ->
 ∃t,FF (v6 Qa P w K mg base N c (vd g) f b A a s H E).nox (vP g) t/\t { nx:=λ_ p=>Q .wP p,rt:=Q} (start N d) H):vR P w K mg base Qa (k+1) f o m n:=by
  obtain⟨y,z,B,r,C,D,b,G,u,rfl,lk,j⟩:=F.ex
  refine Jj lk j S i λA a s H d Q E v l=>?_
  refine e1a2 (e b A a s H d Q E v l) λt h q=>?_
  exact#[t,h.nox,q]
def y9.binds{d:iB}{ps:List Str}(F:y9 K x c d f l)
 (h:∀(e a g:cr)(i:Option gV)(b j:cr)(k:List cr),k.length=ps.length->sY (jL x c (wm d) (vP d) (vd d) .none e a g i b j) #[k,[]]=pure (ps.zip k)):Binds K l ps []:=by
  obtain⟨o,p,e,a,g,i,b,j,m,rfl,lk,n⟩:=F.ex
  exact .all<|h e a g i b j
def El{st:iB}{e:cr}(l:K.lookup f=some #[j,m,.func<|jL x a (wm st) (vP st) (vd st) .none e d pm h b i,g])
 (c:jC K b a=true)(k:jt K (.ref f)=true):y9 K x a st f (jL x a (wm st) (vP st) (vd st) .none e d pm h b i):=#[#[j,m,e,d,pm,h,b,i,g,rfl,l,c],k]
end
def N5{n:Nat}(h:n<=1000):n<hJ:=jM h q0q
def pv(i:Nat)(b:X.N[i]?=↑x:=by rfl)(c:Vis X.env.scope x:=by first|exact kH rfl|exact uS (kH rfl)|exact uS<|uS rfl)(d:(x==66)=false:=by decide)
 (a:(x==("__classdict__":Str))=false:=by decide):PE X 97 (vQ i):=Ko b c d a
def N6:y8 X (.builtin "len") (λc H Q=>∃a b,c=[V.ref a]/\H a=↑(.dK b)/\Q (.int b.length) H):=by intro d s i H c j Q I r h;obtain⟨a,b,rfl,e,q⟩:=h;obtain⟨u,rfl,f⟩:=vals1 r;cases f;exact ZQ I (.inl e) λt k g=>#[.int b.length,H,g,#[t,rfl],q]
def a17{A B:Prop}(h:A):if true=true then A else B:=by rw[gU rfl];exact h
def Uj{c A B:Prop}[Decidable c](a:c->A)(b:¬c->B):if c then A else B:=by
 by_cases h:c
 ·rw[gU h];exact a h
 ·rw[ci h];exact b h
def DE(H a:Hp):Prop:=∀b o,H b=↑o->a b=↑o
def DE.trans{d e:Hp}(a:DE H d)(b:DE d e):DE H e:=λc o h=>b c o<|a c o h
def DE.free(e:DE H a)(h:a l=Option.none):H l=Option.none:=by
 cases q:H l with
 |none=>rfl
 |some o =>
  rw[e l o q]at h;cases h
def DE.seq{K:gW}(e:DE H b)(h:wD K H a c):wD K b a c:=by
 rcases h with(h|⟨o,h⟩)|h
 ·exact .inl<|.inl<|e _ _ h
 ·exact .inl<|.inr #[o,e _ _ h]
 ·exact .inr h
end L2
namespace SX
open PySem
def Ah(a:Array Nat):Prop:=a.toList.Pairwise (· < ·)
def DM(r:Ah c){i j a b:Nat}(d:c.toList[i]?=↑a)(e:c.toList[j]?=↑b)(h:i<j):a<b:=by obtain⟨f,g⟩:=List.getElem?_eq_some_iff.mp d;obtain⟨k,l⟩:=List.getElem?_eq_some_iff.mp e;have:=List.pairwise_iff_getElem.mp r i j f k h;rw[g,l]at this;exact this
def Uk(f:Array Nat)(j:Nat)(r:Ah f):∀(b d c:Nat),d<=c->c<=f.size->c-d<=b ->
  (∀i a,i<d->f.toList[i]?=↑a->a<j)->(∀i a,c<=i->f.toList[i]?=↑a->j<=a) ->
  nj f j b d c<=f.size/\(∀i a,i<nj f j b d c->f.toList[i]?=↑a->a<j) /\
   (∀i a,nj f j b d c<=i->f.toList[i]?=↑a->j<=a):=by
 intro b
 induction b with
 |zero =>
  intro d c t k u l m;have e:d=c:=by omega
  subst e;exact#[k,l,m]
 |succ b s =>
  intro d c t k u l m;unfold nj;by_cases h:d<c
  ·rw[gU h];have n:(d+c) / 2<f.size:=by omega
   have g:f.toList[(d+c) / 2]?=↑(f.getD ((d+c) / 2) j):=by rw[iR,lJ];rw[jA n];rfl
   by_cases o:f.getD ((d+c) / 2) j<j
   ·rw[gU o];refine s _ _ q0d k q0d (λi a p e=>?_) m;by_cases q:i=(d+c) / 2
    ·subst q;rw[g]at e;cases e;exact o
    ·have:=DM r e g q0d;omega
   ·rw[ci o];refine s _ _ q0d q0d q0d l<|λi a p e=>?_;by_cases q:i=(d+c) / 2
    ·subst q;rw[g]at e;cases e;omega
    ·have:=DM r g e q0d;omega
  ·rw[ci h];have e:d=c:=by omega
   subst e;exact#[k,l,m]
def zL(r:Ah b)(j:Nat):im b j<=b.size/\(∀i a,i<im b j->b.toList[i]?=↑a->a<j) /\
  (∀i a,im b j<=i->b.toList[i]?=↑a->j<=a):=by
 refine Uk b j r b.size 0 b.size (jj _) (gZ _) q0a (λi a h=>by lia)<|λi a h e=>?_;have:=(List.getElem?_eq_some_iff.mp e).1;rw[hW]at this
 lia
def below_at(r:Ah b){i j:Nat}(h:b.toList[i]?=↑j):im b j=i:=by
 obtain⟨f,c,d⟩:=zL r j;rcases uT (im b j) i with q|q|q
 ·cases e:b.toList[im b j]? with
  |none =>
   have:=List.getElem?_eq_none_iff.mp e;have:=(List.getElem?_eq_some_iff.mp h).1
   lia
  |some a =>
   have:=DM r e h q;have:=d _ a (gZ _) e
   lia
 ·exact q
 ·have:=c i j q h
  lia
def KS(r:Ah b){i j:Nat}(h:b.toList[i]?=↑j):im b (j+1)=i+1:=by
 obtain⟨f,c,d⟩:=zL r<|j+1;rcases uT (im b<|j+1) (i+1) with q|q|q
 ·have:=d i j q0a h
  lia
 ·exact q
 ·cases e:b.toList[i+1]? with
  |none =>
   have:=List.getElem?_eq_none_iff.mp e;rw[hW]at this
   lia
  |some a =>
   have:=DM r h e q0a;have:=c (i+1) a q e
   lia
def KU(r:Ah b):im b 0=0:=by
 obtain⟨f,d,g⟩:=zL r 0
 cases e:im b 0 with
 |zero=>rfl
 |succ k =>
  cases c:b.toList[0]? with
  |none =>
   have:=List.getElem?_eq_none_iff.mp c;rw[hW]at this
   lia
  |some a =>
   have:=d 0 a q0a c
   lia
def toList_erase(a:Array b)(p:Nat):(jh a p).toList=a.toList.take p++a.toList.drop (p+1):=by unfold jh;rw[pZ,nq,nq];simp[jB]
def Em(a:Array b)(p:Nat)(x:b):(js a p x).toList=a.toList.take p++x::a.toList.drop p:=by unfold js;rw[pZ,qv,nq,nq];simp[jB]
def KW(r:Ah a)(p:Nat):Ah (jh a p):=by
 unfold Ah;rw[toList_erase];refine List.Pairwise.sublist ?_ r
 conv=>rhs;rw[<- tq p a.toList]
 exact List.Sublist.append (List.Sublist.refl _)<|List.drop_sublist_drop_left _<|md p
def Qb(r:Ah c){j:Nat}(f:j∉c.toList):Ah (js c (im c j) j):=by
 obtain⟨t,g,h⟩:=zL r j;unfold Ah;rw[Em];have k:(c.toList.take (im c j)++c.toList.drop (im c j)).Pairwise (· < ·):=by rw[tq];exact r
 obtain⟨l,m,n⟩:=List.pairwise_append.mp k
 have o:∀a∈c.toList.take (im c j),a<j:=λa d=>by
  obtain⟨i,e⟩:=lY d;rw[uk]at e;split at e
  ·exact g i a (by assumption) e
  ·cases e
 have p:∀a∈c.toList.drop (im c j),j<a:=λa d=>by
  obtain⟨i,e⟩:=lY d;rw[ul]at e;have:=h _ a (oX _ i) e;have:j≠a:=λq=>f (by rw[q];exact List.mem_of_mem_drop d)
  lia
 refine List.pairwise_append.mpr #[l,List.pairwise_cons.mpr #[p,m],λa d b s=>?_];rcases List.mem_cons.mp s with q|q
 ·rw[q];exact o a d
 ·exact n a d b q
def N7{t:jS}(r:Ah t.place){j:Nat}(h:∀i,t.slot j≠.live i):j∉t.place.toList:=λa=>by obtain⟨i,e⟩:=lY a;have b:=below_at r e;refine h (im t.place j) ?_;unfold rr;rw[gU];rw[b,<- iR,e];simp
def KY{t:jS}{h:Int}:∀(b:Nat)(p:lK),(∀d,p.dummy=↑d->∀i,t.slot d≠.live i) ->
  ∀j c,jT t o h b p=↑(.empty j c)->∀i,t.slot (c.getD j)≠.live i:=by
 intro b
 induction b with
 |zero=>intro p _ j c e;cases e
 |succ b f =>
  intro p g j c e;unfold jT at e
  cases q:t.slot p.j with
  |empty =>
   rw[q]at e;injection e with e;injection e with l m;subst l m
   cases n:p.dummy with
   |none=>intro i z;rw[qD,q]at z;cases z
   |some d=>exact g d n
  |dummy =>
   rw[q]at e;refine f _ (λd a i z=>?_) j c e
   have:d=p.j:=by
    unfold lV at a;split at a
    ·injection a with a;exact a.symm
    ·injection a with a;exact a.symm
   rw[this,q]at z;cases z
  |live k =>
   rw[q]at e;dsimp only at e;split at e
   ·cases e
   ·refine f _ (λd a=>?_) j c e
    have:p.dummy=↑d:=by unfold lV at a;split at a<;>exact a
    exact g d this
set_option tactic.hygienic true in
def Jq{t:jS}{h:Int}{j:Nat}{b:Bool}(r:Ah t.place)(e:t.freeSlot h=↑(j,b)):j∉t.place.toList:=by
 refine N7 r ?_;unfold qf qU at e;split at e
 ·rename_i a c f
  injection e with e;injection e with g i;subst g;exact KY _ _ (λd q=>by cases q) a c f
 ·cases e
def CL{c k l:Nat}{d i:Bool}(e:n9 c k l d i m=↑(t,n)) :
  Ah t.place/\t.led=d/\t.plain=i/\t.mask=c/\t.dummies=#v[]/\t.place.size=n.size:=by
 unfold n9 at e
 cases q:qg c m with
 |none=>rw[q]at e;cases e
 |some j =>
  rw[q]at e;injection e with e;injection e with o p;subst o p;refine#[?_,rfl,rfl,rfl,rfl,q0o];unfold Ah;rw[um];rw[List.pairwise_filterMap];refine pr ?_ sR;intro a b f x r y s
  have g:x=a:=by revert r;cases (j.getD a none)<;>simp;intro z;exact z.symm
  have h:y=b:=by revert s;cases (j.getD b none)<;>simp;intro z;exact z.symm
  subst g h;exact f
noncomputable def Pe(m i:Nat):Nat:=(i*5+1)%(m+1)
noncomputable def Qc(m:Nat):Nat->Nat->Nat
 | 0,i=>i
 |n+1,i=>Qc m n<|Pe m i
noncomputable def orb(m:Nat):Nat->Nat->List Nat
 | 0,_=>[]
 |n+1,i=>i::orb m n (Pe m i)
def G0(m a b i:Nat):Qc m (a+b) i=Qc m b (Qc m a i):=by
 induction a generalizing i with
 |zero=>rw[tz];rfl
 |succ a c=>rw[Nat.succ_add];exact c _
def Ul(m:Nat):∀(n i k:Nat),k∈orb m n i->∃a,a<n/\Qc m a i=k:=by
 intro n
 induction n with
 |zero=>intro i k h;cases h
 |succ n b =>
  intro i k h;rcases List.mem_cons.mp h with q|q
  ·exact#[0,q0a,q.symm]
  ·obtain⟨a,c,e⟩:=b _ _ q;exact#[a+1,q0a,e]
noncomputable def G4(m:Nat):Bool:=Qc m (m+1) 0==0&&(iA<|m+1).all λk=>(orb m (m+1) 0).contains k
def Gk{m:Nat}(h:G4 m=true):∀i k,i<=m->k<=m->∃n,n<=m/\Qc m n i=k:=by
 obtain⟨d,j⟩:=Bool.and_eq_true_iff.mp h;have d:Qc m (m+1) 0=0:=by simpa using d
 have c:∀k,k<=m->∃a,a<m+1/\Qc m a 0=k:=λk e=>by have:=List.all_eq_true.mp j k<|List.mem_range.mpr q0d;exact Ul m _ _ _ (by simpa using this)
 intro i k l e;obtain⟨a,p,f⟩:=c i l;obtain⟨b,q,g⟩:=c k e;by_cases o:a<=b
 ·refine#[b-a,q0d,?_];rw[<- f,<- G0,show a+(b-a)=b by omega,g]
 ·refine#[m+1-a+b,q0d,?_];rw[<- f,<- G0,show a+(m+1-a+b)=(m+1)+b by omega,G0,d,g]
def Gm{m i:Nat}(h:i<=m):jr m i<=m/\i<=jr m i:=by unfold jr;split<;>lia
set_option tactic.hygienic true in
def Um{m:Nat}:∀(a i p:Nat),i<=m->∀j,jp m c a i p=↑j->j<=m/\c.getD j ↑0=none:=by
 intro a
 induction a with
 |zero=>intro i p _ j e;cases e
 |succ a d =>
  intro i p f j e;unfold jp at e;split at e
  ·rename_i k b
   injection e with e;subst e;have g:=List.find?_some b;have h:=List.mem_range.mp<|List.mem_of_find?_eq_some b;have:=Gm f;refine#[q0d,?_];simpa[Option.isNone_iff_eq_none] using g
  ·dsimp only at e;refine d _ _ ?_ j e;have:=ol (i*5+1+p / 32)<|nY m;exact kq this
set_option tactic.hygienic true in
def KZ{m:Nat}{b:Array (Option Nat)}{k:Nat}(d:b.getD k ↑0=none):∀(n a i:Nat),i<=m->n<a->Qc m n i=k->∃j,jp m b a i 0=↑j:=by
 intro n
 induction n with
 |zero =>
  intro a i c g e;obtain⟨a,rfl⟩:∃f,a=f+1:=#[a-1,q0a];have e:i=k:=e;subst e;unfold jp;split
  ·exact#[_,rfl]
  ·rename_i q
   have:=List.find?_eq_none.mp q 0<|List.mem_range.mpr (by have:=(Gm c).2;lia);rw[Nat.add_zero,d]at this;exact ii rfl this
 |succ n h =>
  intro a i c g e;obtain⟨a,rfl⟩:∃f,a=f+1:=#[a-1,q0a];unfold jp;split
  ·exact#[_,rfl]
  ·dsimp only
   have l:kA m i 0=(Pe m i,0):=by unfold kA Pe;simp
   rw[l];exact h a (Pe m i) (kq<|ol _<|nY m) q0a e
def N8{m:Nat}{h:Array (Option Nat)}(l:G4 m=true){k:Nat}(d:k<=m)(o:h.getD k ↑0=none):∀(c a i p:Nat),i<=m->p<32 ^ c->c+m+1<=a->∃j,jp m h a i p=↑j:=by
 intro c
 induction c with
 |zero =>
  intro a i p g b q;have:p=0:=by rw[Nat.pow_zero]at b;lia
  subst this;obtain⟨n,s,e⟩:=Gk l i k g d;exact KZ o n a i g q0a e
 |succ c r =>
  intro a i p g b q;obtain⟨a,rfl⟩:∃f,a=f+1:=#[a-1,q0a];unfold jp;split
  ·exact#[_,rfl]
  ·dsimp only;refine r a _ (p / 32) (kq<|ol _<|nY m) ?_ q0a;rw[Nat.pow_succ]at b;exact ud (by rw[Nat.mul_comm];exact b)
def Qd(x:Nat):∀(l:List (Option Nat)) (j:Nat),l[j]?=↑none->((l.set j<|↑x).filterMap id).Perm (x::l.filterMap id):=by
 intro l
 induction l with
 |nil=>intro j h;simp at h
 |cons a l b =>
  intro j h
  cases j with
  |zero =>
   have:a=none:=by simpa using h
   subst this;simp
  |succ j =>
   have c:l[j]?=↑none:=by simpa using h
   cases a with
   |none=>simpa using b j c
   |some y =>
    have:=b j c;exact(oY y this).trans<|List.Perm.swap x y _
def has_none:∀(l:List (Option Nat)),(l.filterMap id).length<l.length->∃j:Nat,l[j]?=↑none:=by
 intro l
 induction l with
 |nil=>intro h;simp at h
 |cons a l b =>
  intro h
  cases a with
  |none=>exact#[0,rfl]
  |some y =>
   obtain⟨j,e⟩:=b (by simpa using h);exact#[j+1,by simpa using e]
def MO(h:Int):ju h<32 ^ 13:=by
 have a:(h%(2 ^ 64:Int)).toNat<2 ^ 64:=by lia
 exact iu a q0q
def Qe{m:Nat}(w:G4 m=true):∀(c:List Int) (a:Array (Option Nat)) (k:Nat),a.size=m+1->(a.toList.filterMap id).Perm (iA k)->k+c.length<=m ->
  ∃b,(c.foldl (init:=↑(a,k)) λi h=>do
   let (owner,k) <- i
   let j <- jp m owner (kX m) (ju h%(m+1)) (ju h)
   pure (owner.setIfInBounds j ↑k,k+1))=↑(b,k+c.length)/\b.size=m+1/\(b.toList.filterMap id).Perm (iA (k+c.length)):=by
 intro c
 induction c with
 |nil=>intro a k d g r;exact#[a,rfl,d,g]
 |cons h c x =>
  intro a k d g r
  have e:(a.toList.filterMap id).length<a.toList.length:=by
   rw[g.length_eq,lP,hW,d]
   lia
  obtain⟨s,t⟩:=has_none _ e
  have l:s<m+1:=by have:=(List.getElem?_eq_some_iff.mp t).1;rw[hW,d]at this;exact this
  have n:a.getD s ↑0=none:=by rw[lJ,<- iR,t];rfl
  have u:ju h%(m+1)<=m:=kq<|ol _<|nY m;obtain⟨j,v⟩:=N8 w (kq l) n 13 (kX m) (ju h%(m+1)) (ju h) u (MO h) (by unfold kX;lia);obtain⟨y,f⟩:=Um _ _ _ u j v
  have o:a.toList[j]?=↑none:=by
   rw[lJ]at f;rw[iR]
   cases q:a[j]? with
   |none=>rw[q]at f;cases f
   |some z=>rw[q]at f;have p:z=none:=f;rw[p]
  obtain⟨b,A,B,C⟩:=x (a.setIfInBounds j ↑k) (k+1) (by rw[Array.size_setIfInBounds];exact d) (by
   rw[Array.toList_setIfInBounds];refine(Qd k _ _ o).trans<|(oY k g).trans ?_;rw[List.range_succ]
   exact(m6 (l₁:=[k]) (l₂:=iA k))) (by simp at r;lia)
  refine#[b,?_,B,?_]
  ·rw[mE]
   have:(do
     let (owner,k) <- some (a,k)
     let j <- jp m owner (kX m) (ju h%(m+1)) (ju h)
     pure (owner.setIfInBounds j ↑k,k+1))=↑(a.setIfInBounds j (some k),k+1):=by
    show (jp m a (kX m) (ju h%(m+1))<|ju h).bind _=_;rw[v];rfl
   rw[this,A];simp only[iz];congr 2
   lia
  ·rw[iz,show k+(c.length+1)=k+1+c.length by lia];exact C
def N9(l:List (Option Nat)):(iA l.length).map (λj=>l.getD j none)=l:=by
 apply qF;intro i;by_cases h:i<l.length
 ·simp[jy,h]
 ·rw[List.getElem?_eq_none_iff.mpr (by simpa using q7 h),List.getElem?_eq_none_iff.mpr<|q7 h]
def CM{m fg mv:Nat}{led pl:Bool}{hs:Array Int}(c:G4 m=true)(d:hs.size<=m):∃t b,n9 m fg mv led pl hs=↑(t,b)/\b.toList.Perm (iA hs.size):=by
 obtain⟨a,e,s,p⟩:=Qe c hs.toList (Array.replicate (m+1) none) 0 q0o q0o (by simpa using d)
 have f:qg m hs=↑a:=by unfold qg;rw[<- Array.foldl_toList];exact congrArg (tU Prod.fst) e
 refine#[_,_,by unfold n9;rw[f];rfl,?_];rw[um]
 have q:(iA<|m+1).filterMap (λj=>tU (λx:Nat×Nat=>x.2)<|tU (λx=>(j,x))<|a.getD j none)=a.toList.filterMap id:=by
  conv=>rhs;rw[<- N9 a.toList]
  rw[uj,hW,s];congr 1
  funext j
  simp only[uK,id,Option.map_map];rw[lJ,jy,iR];cases (a[j]?.getD none)<;>rfl
 refine List.Perm.trans (tV q) ?_;simpa using p
def picked{es:Array (Int×cr)}{a:Array Nat}(h:a.toList.Perm (iA es.size)):(a.filterMap (es[·]?)).toList.Perm es.toList:=by
 rw[Array.toList_filterMap];refine(List.Perm.filterMap _ h).trans<|tV ?_;apply qF;intro i
 have:(iA es.size).filterMap (λx=>es[x]?)=es.toList:=by
  have e:(iA es.size).filterMap (λx=>es[x]?)=(iA es.toList.length).filterMap (λx=>es.toList[x]?):=by simp
  rw[e];exact List.filterMap_getElem?_range_length es.toList
 rw[this]
def a19:G4 7=true:=by decide +kernel
def ZW:G4 15=true:=by decide +kernel
def ZX:G4 31=true:=by decide +kernel
def ZY:G4 63=true:=by decide +kernel
def XX:G4 127=true:=by decide +kernel
def XY:G4 255=true:=by decide +kernel
def XZ:G4 511=true:=by decide +kernel
def TQ(t:jS)(h:Int)(a:Nat)(p:lK):Prop:=∃j d,jT t (λ_=>h+1) h a p=↑(.empty j d)
noncomputable def begin_(m i a:Nat)(b:Option Nat):lK:={ j:=i,more:=jr m i-i,i:=i,perturb:=a,dummy:=b}
def MP{h:Int}:∀(k a:Nat)(p:lK),p.more=k->(∀b,TQ t h a<|begin_ t.mask (kA t.mask p.i p.perturb).1 (kA t.mask p.i p.perturb).2 b)->TQ t h (a+k+1) p:=by
 intro k
 induction k with
 |zero =>
  intro a p g d
  have c:∀b,t.advance { p with dummy:=b}=begin_ t.mask (kA t.mask p.i p.perturb).1 (kA t.mask p.i p.perturb).2 b:=λb=>by unfold lV;rw[ci<|by show ¬p.more>0;lia];rfl
  unfold TQ jT
  cases q:t.slot p.j with
  |empty=>exact#[_,_,rfl]
  |dummy=>dsimp only;rw[c];exact d _
  |live i =>
   dsimp only;rw[ci<|by simp;lia];have:=c p.dummy;have e:({ p with dummy:=p.dummy}:lK)=p:=rfl;rw[e]at this;rw[this];exact d _
 |succ k l =>
  intro a p g d
  have f:∀b,TQ t h (a+k+1) (t.advance { p with dummy:=b}):=λb=>by
   have e:t.advance { p with dummy:=b}={ p with j:=p.j+1,more:=p.more-1,dummy:=b}:=by unfold lV;rw[gU<|by show p.more>0;lia]
   rw[e];exact l a _ (by show p.more-1=k;lia) d
  unfold TQ jT
  cases q:t.slot p.j with
  |empty=>exact#[_,_,rfl]
  |dummy=>exact f _
  |live i =>
   dsimp only;rw[ci<|by simp;lia];exact f p.dummy
def Uo{t:jS}{h:Int}{p:lK}(e:t.slot p.j=.empty)(a:Nat):TQ t h (a+1) p:=by unfold TQ jT;rw[e];exact#[_,_,rfl]
def MQ(m i:Nat):jr m i-i<=9:=by unfold jr;split<;>lia
def a2a{t:jS}{h:Int}{k:Nat}(d:t.slot k=.empty):∀(n i a:Nat),Qc t.mask n i=k->10*(n+1)<=a->∀c,TQ t h a (begin_ t.mask i 0 c):=by
 intro n
 induction n with
 |zero =>
  intro i a e g c;obtain⟨f,rfl⟩:∃f,a=f+1:=#[a-1,q0a];subst e;exact Uo d f
 |succ n j =>
  intro i a e g c;have m:=MQ t.mask i
  have z:=MP (t:=t) (h:=h) (jr t.mask i-i) (a-(jr t.mask i-i)-1) (begin_ t.mask i 0 c) rfl (λb=>by
   have l:kA t.mask i 0=(Pe t.mask i,0):=by unfold kA Pe;simp
   show TQ t h _ (begin_ t.mask (kA t.mask i 0).1 (kA t.mask i 0).2 b);rw[l]
   exact j (Pe t.mask i) _ e q0a b)
  rw[show a-(jr t.mask i-i)-1+(jr t.mask i-i)+1=a by lia]at z;exact z
def a2b{t:jS}{h:Int}{k:Nat}(m:G4 t.mask=true)(g:k<=t.mask)(o:t.slot k=.empty):∀(c i b a:Nat),i<=t.mask->b<32 ^ c->10*(c+t.mask+1)<=a->∀d,TQ t h a (begin_ t.mask i b d):=by
 intro c
 induction c with
 |zero =>
  intro i b a l f p d;have:b=0:=by rw[Nat.pow_zero]at f;lia
  subst this;obtain⟨n,r,e⟩:=Gk m i k l g;exact a2a o n i a e q0a d
 |succ c q =>
  intro i b a l f p d;have s:=MQ t.mask i
  have z:=MP (t:=t) (h:=h) (jr t.mask i-i) (a-(jr t.mask i-i)-1) (begin_ t.mask i b d) rfl (λj=>by
   refine q _ _ _ (kq<|ol _<|nY _) ?_ q0a j;rw[Nat.pow_succ]at f
   exact ud (by rw[Nat.mul_comm];exact f))
  rw[show a-(jr t.mask i-i)-1+(jr t.mask i-i)+1=a by lia]at z;exact z
def zr[DecidableEq d]:∀(l m:List d),l.Nodup->(∀x∈l,x∈m)->l.length<=m.length:=by
 intro l
 induction l with
 |nil=>intro m _ _;exact jj _
 |cons x r e =>
  intro m f b;obtain⟨g,h⟩:=List.nodup_cons.mp f;have a:=b x gY;have i:=e (m.erase x) h λy c=>(List.mem_erase_of_ne<|λ(z:y=x)=>g<|by rw[<- z];exact c).mpr<|b y<|hI _ c;rw[List.length_erase_of_mem a]at i;have:0<m.length:=List.length_pos_of_mem a;rw[iz];omega
def Jr(l:List Nat)(m:Nat)(h:l.length<=m):∃j,j<=m/\j∉l:=by
 refine nO λb=>?_;have a:∀j,j<=m->j∈l:=λj c=>nO λq=>b #[j,c,q];have:=zr (iA<|m+1) l List.nodup_range λx d=>a x<|kq<|List.mem_range.mp d;rw[lP]at this
 lia
def K3{t:jS}{n:Nat}(e:t.fits n=true):∃j,j<=t.mask/\t.slot j=.empty:=by
 have c:t.place.size+t.dummies.size<=t.mask:=by simp only[uL,iU,iW]at e;exact e.2
 obtain⟨j,f,d⟩:=Jr (t.place.toList++t.dummies.toList) t.mask (by simpa using c);refine#[j,f,?_];rw[kW,qa]at d
 have b:∀(a:Array Nat),j∉a.toList->(a[im a j]?==↑j)=false:=λa g=>by
  cases q:a[im a j]? with
  |none=>rfl
  |some x =>
   have h:x∈a.toList:=by rw[<- iR]at q;exact jW q
   have:x≠j:=λz=>g<|z▸h;simp[this]
 unfold rr;dsimp only;rw[b _ d.1];unfold kR;rw[b _ d.2];rfl
def FL{t:jS}{n:Nat}(c:G4 t.mask=true)(f:t.fits n=true)(h:Int):∃j b,t.freeSlot h=↑(j,b):=by obtain⟨k,a,g⟩:=K3 f;obtain⟨j,d,e⟩:=a2b (h:=h) c a g 13 (ju h%(t.mask+1)) (ju h) (10*kX t.mask) (kq<|ol _<|nY _) (MO h) (by unfold kX;lia) none;refine⟨d.getD j,d.isSome,?_⟩;unfold qf qU SetTable.probeStart;have l:jT t (λ_=>h+1) h (10*kX t.mask) { j:=ju h%(t.mask+1),more:=jr t.mask (ju h%(t.mask+1))-ju h%(t.mask+1),i:=ju h%(t.mask+1),perturb:=ju h,dummy:=none}=↑(.empty j d):=e;rw[l]
def Js{t:jS}{h:Int}:∀(b:Nat)(p:lK),(∀d,p.dummy=↑d->kR t.dummies d=true) ->
  ∀j d,jT t l h b p=↑(.empty j<|some d)->kR t.dummies d=true:=by
 intro b
 induction b with
 |zero=>intro p _ j d e;cases e
 |succ b f =>
  intro p g j d e;unfold jT at e
  cases q:t.slot p.j with
  |empty =>
   rw[q]at e;injection e with e;injection e with m i;exact g d i
  |dummy =>
   rw[q]at e;refine f _ (λc a=>?_) j d e
   have:c=p.j:=by
    unfold lV at a;split at a
    ·injection a with a;exact a.symm
    ·injection a with a;exact a.symm
   rw[this];unfold rr at q;dsimp only at q;split at q
   ·cases q
   ·split at q
    ·assumption
    ·cases q
  |live k =>
   rw[q]at e;dsimp only at e;split at e
   ·cases e
   ·refine f _ (λc a=>?_) j d e
    have:p.dummy=↑c:=by unfold lV at a;split at a<;>exact a
    exact g c this
set_option tactic.hygienic true in
def Eo{t:jS}{h:Int}{j:Nat}(e:t.freeSlot h=↑(j,true)):kR t.dummies j=true:=by
 unfold qf qU at e;split at e
 ·rename_i a b c
  injection e with e;injection e with f g
  cases b with
  |none=>cases g
  |some d =>
   subst f;exact Js _ _ (λd q=>by cases q) a d c
 ·cases e
def Qf{j:Nat}(h:kR a j=true):im a j<a.size:=by
 unfold kR at h;have b:a[im a j]?=↑j:=by simpa using h
 exact(Array.getElem?_eq_some_iff.mp b).1
def BE(a:Array b)(p:Nat)(h:p<a.size):(jh a p).size=a.size-1:=by
 rw[<- hW,toList_erase,ig,mh,m8,hW]
 lia
def zt(a:Array b)(p:Nat)(x:b):(js a p x).size=a.size+1:=by rw[<- hW,Em,ig,iz,mh,m8,hW];omega
def yj{t:jS}{n:Nat}:t.fits n=true↔t.place.size=n/\t.place.size+t.dummies.size<=t.mask:=by unfold uL lv;simp
def Good(m:Nat):Prop:=m=7\/m=15\/m=31\/m=63\/m=127\/m=255\/m=511
def Good.G4{m:Nat}(h:Good m):G4 m=true:=by
 rcases h with q|q|q|q|q|q|q<;>rw[q]
 ·exact a19
 ·exact ZW
 ·exact ZX
 ·exact ZY
 ·exact XX
 ·exact XY
 ·exact XZ
def Ep{n:Nat}(h:n<=511):Good (i4 n-1)/\n<i4 n:=by
 have q:((iA 512).all λn=>[8,16,32,64,128,256,512].contains (i4 n)&&decide (n<i4 n))=true:=by decide +kernel
 have q:=List.all_eq_true.mp q n<|List.mem_range.mpr q0a;obtain⟨q1,q2⟩:=Bool.and_eq_true_iff.mp q;refine#[?_,by simpa using q2];have q1:i4 n=8\/i4 n=16\/i4 n=32\/i4 n=64\/i4 n=128\/i4 n=256\/i4 n=512:=by simpa using q1
 rcases q1 with e|e|e|e|e|e|e<;>rw[e]<;>unfold Good<;>decide
structure ZZ(t:jS)(n:Nat):Prop where
 fits:t.fits n=true
 rise:Ah t.place
 plain:t.plain=true
 good:Good t.mask
 room:t.fill*5<t.mask*3
set_option tactic.hygienic true in
def Up{t:jS}{c:Array (Int×cr)}{h:Int}{x:cr}(k:ZZ t c.size)(q:c.size<=126) :
  ∃d g,layNew t c h x=(js c (im t.place ((t.freeSlot h).getD (0,false)).1) (h,x),d,g,false)/\d.led=t.led/\d.plain=true/\d.fits (c.size+1)=true/\Ah d.place/\Good d.mask/\(g=true->d.fill*5<d.mask*3):=by
 obtain⟨j,b,e⟩:=FL k.good.G4 k.fits h;obtain⟨n,r⟩:=yj.mp k.fits;have f:=k.room;unfold lv at f
 have l:(88).size<=t.dummies.size/\(b=true->(88).size+1<=t.dummies.size):=by
  split
  ·rename_i i
   rw[BE _ _<|Qf i];have:=Qf i;exact⟨q0a,λ_=>by lia⟩
  ·rename_i i
   refine#[gZ _,λm=>?_];subst m;exact ii (Eo e) i
 have a:(t.put j).1.fits (c.size+1)=true:=by
  refine yj.mpr #[?_,?_]
  ·show (js t.place (im t.place j) j).size=_;rw[zt,n]
  ·show (js t.place (im t.place j) j).size+(88).size<=t.mask;rw[zt]
   lia
 refine#[(t.put j).1,b,?_,rfl,k.plain,a,Qb k.rise<|Jq k.rise e,k.good,λm=>?_]
 ·unfold layNew;rw[e];dsimp only;have o:(t.put j).2=im t.place j:=rfl;have p:(js c (im t.place j) (h,x)).size=c.size+1:=zt _ _ _;rw[o,p];unfold SetTable.orStandIn;rw[gU a,a];rfl
 ·have:=l.2 m;show ((js t.place (im t.place j) j).size+(88).size)*5<t.mask*3;rw[zt]
  lia
def Oa{t:jS}{es:Array (Int×cr)}(v:1<=es.size)(h:es.size<=127)(m:t.plain=true):∃a c,tD t es (mG es.size)=(a,c,false)/\a.toList.Perm es.toList/\ZZ c a.size/\c.led=t.led:=by
 have o:mG es.size=es.size*4:=by unfold mG;rw[ci q0a]
 obtain⟨j,w⟩:=Ep (n:=es.size*4) q0a;obtain⟨c,f,e,p⟩:=CM (fg:=t.finger) (mv:=t.movedTo<|i4 (es.size*4)-1) (led:=t.led) (pl:=t.plain) (hs:=es.map (·.1)) j.G4 (by rw[mO];lia);obtain⟨q,r,s,g,k,i⟩:=CL e;rw[mO]at p;have l:=picked p;have u:(f.filterMap (es[·]?)).size=es.size:=by rw[<- hW,l.length_eq,hW]
 have b:f.size=es.size:=by rw[<- hW,p.length_eq,lP]
 have d:c.fits (f.filterMap (es[·]?)).size=true:=by
  refine yj.mpr #[by rw[i,u,b],?_];rw[i,k,b,g];show es.size+0<=_
  lia
 refine#[f.filterMap (es[·]?),c,?_,l,#[d,q,s.trans m,by rw[g];exact j,?_],r]
 ·unfold tD;rw[o];unfold SetTable.relaid;rw[e];dsimp only;rw[gU];rw[d,Bool.and_true];exact List.isPerm_iff.mpr p
 ·unfold lv;rw[i,k,b,g];show (es.size+0)*5<_
  lia
open PyProof.Rows
def za(e:Int×cr)(k:Int):Prop:=e.1=nP k/\∃t,e.2=l8 k t
noncomputable abbrev xH(a:Array (Int×cr))(b:Nat)(t:jS):Obj:={ cls:=.type "set",dict:=none,data:=.set a b t,slots:=#v[]}
structure WE(w:jb)(es:Array (Int×cr))(t:jS)(ks:List Int):Prop where
 ent:Paired za es.toList ks
 nd:ks.Nodup
 small:es.size<=127
 tab:ZZ t es.size
 led:w.params.followText "set-order"=true\/t.led=true
def zM{n:Nat}(h:n<=127):n<scanBound:=by have e:scanBound=4096:=rfl;rw[e];lia
def yU{n:Nat}(h:n<=127):n<=hJ:=fits_of_scanBound<|zM h
def wc(w:jb)(a:gV)(c:List Int)(h:iX):Prop:=∃b d t,h.get? a=↑(xH b d t)/\WE w b t c
def yk{k n:Type}{F:k->n->Prop}{l o:List k}(p:l.Perm o):∀{m:List n},Paired F l m->∃e,m.Perm e/\Paired F o e:=by
 induction p with
 |nil=>intro m h;exact#[m,.refl _,h]
 |cons x _ q =>
  intro m h
  cases h with
  |cons a b =>
   refine e1a2 (q b) λe f g=>?_;exact#[_,.cons _ f,.cons a g]
 |swap x y l =>
  intro m h
  cases h with
  |cons a b =>
   cases b with
   |cons c d=>exact#[_,.swap _ _ _,.cons c<|.cons a d]
 |trans _ _ i j =>
  intro m h;refine e1a2 (i h) λu f g=>?_;refine e1a2 (j g) λr s t=>?_;exact#[r,f.trans s,t]
def G6:∀{g:List (Int×cr)} {h:List Int},Paired za g h->∀k,(k∈h↔∃e∈g,m9 k e.2=true):=by
 intro o p l
 induction l with
 |nil=>intro k;simp
 | @cons e j _ _ m r b =>
  intro k;have n:=b k;obtain⟨_,t,c⟩:=m
  have i:m9 k e.2=true↔k=j:=by rw[c];simp[m9];exact eq_comm
  rw[iD,n];constructor
  ·rintro(z|⟨d,f,a⟩)
   ·exact#[e,gY,i.mpr z]
   ·exact#[d,hI _ f,a]
  ·rintro⟨d,f,a⟩;rcases List.mem_cons.mp f with z|z
   ·rw[z]at a;exact .inl<|i.mp a
   ·exact .inr #[d,z,a]
def CN{a:iJ}{w:jb}:∀{d:List (Int×cr)} {g:List Int},Paired za d g->ElemsOf (kM a w) d:=by
 intro l m h
 induction h with
 |nil=>exact λe b=>by cases b
 | @cons x j _ _ i r c =>
  intro e b;rcases List.mem_cons.mp b with z|z
  ·subst z;obtain⟨k,t,f⟩:=i;refine#[#[j,?_,k],?_]
   ·rw[f];exact qb _ _ _ _
   ·rw[f];rfl
  ·exact c e z
def MR(h:Paired za a b):a.length=b.length:=Paired.length h
def WE.size{w:jb}{a:Array (Int×cr)}{t:jS}{b:List Int}(h:WE w a t b):a.size=b.length:=by rw[<- hW];exact MR h.ent
def wc.nodup(x:wc w a b h):b.Nodup:=by refine e3a2 x λc d t e k=>?_;exact k.nd
def wc.of{b:iJ}{w:jb}{a:gV}{c:List Int}{h:iX}(x:wc w a c h):h.SetOf (kM b w) a (λk=>decide<|k∈c) c.length:=by refine e3a2 x λd f t e k=>?_;exact#[_,d,f,t,e,#[rfl,rfl,rfl],rfl,CN k.ent,λj=>by rw[iW];exact G6 k.ent j,zM k.small,k.tab.fits,k.size]
def wc.keep{b:iX}(x:wc w a c h)(k:∀o,h.get? a=↑o->b.get? a=↑o):wc w a c b:=by refine e3a2 x λd f t e r=>?_;exact#[d,f,t,k _ e,r]
def wc.lt(x:wc w a b h):a<h.objs.size:=by refine e3a2 x λc d t e r=>?_;exact hV e
def wc.typeIs{w:jb}{a:gV}{b:List Int}{s:hR}(x:wc w a b s.heap):s.TypeIs (.ref a) "set":=by refine e3a2 x λc d t e r=>?_;exact#[_,e,rfl]
def Uq{h:iX}{a:gV}{f b:Array (Int×cr)}{d:Nat}{t c:jS}(e:h.get? a=↑(xH f d t)):(h.update a<|Obj.putSet b c).get? a=↑(xH b (d+1) c):=by have z:=i8 (Obj.putSet b c) e (by rw[putSet_of b c rfl];rfl);rw[putSet_of b c rfl]at z;exact z
def AW{i b:Array (Int×cr)}{d:Nat}{t f:jS}{Q:Unit->hR->Prop}(e:s.heap.get? a=↑(xH i d t))(j:b.size<=hJ)
  (h:∀c,jg a s.heap c->c.get? a=↑(xH b (d+1) f)->Q () { s with heap:=c}):hX (hZ g w) A (tE a b f) Q E s :=
 wpAny_storeSet_of e rfl (h _ (oR ..)<|Uq e) j
set_option tactic.hygienic true in
def WF{k:Int}{u:Tok}{Q:Bool->hR->Prop}(S:wc w a i s.heap)(room:i.length+1<=127)
  (h:∀l C,jg a s.heap l->wc w a C l->C.Perm (if k∈i then i else k::i)->Q (!decide (k∈i)) { s with heap:=l}) :
  hX (hZ b w) A (setAddHashed a (.int k u)<|nP k) Q E s:=by
 refine e3a2 S λm ep t e K=>?_;have el:ElemsOf (kM b w) m.toList:=CN K.ent;have hk:(kM b w).is k (.int k u)=true:=qb _ _ _ _;have D:(kM b w).hash k=nP k:=rfl;refine iM<|am<|jq e rfl K.tab.fits ?_;dsimp only;rw[byScan_of (knd:=kM b w) rfl (zM K.small) el,gU rfl];refine am<|am<|mz<|am ?_;rw[<- D];refine wpAny_setScan_of (knd:=kM b w) hk e rfl K.tab.fits el ?_;have F:=G6 K.ent k
 cases hr:sj (λe=>(kM b w).is k e.2) m.toList with
 |some j =>
  refine e1a2 (List.findIdx?_eq_some_iff_getElem.mp hr) λhj hp _=>?_;have G:k∈i:=F.mpr #[_,uU hj,hp];have z:=h s.heap i (mr a s.heap) #[m,ep,t,e,K] (by rw[gU G]);rw[decide_eq_true G]at z;exact ap<|ap z
 |none =>
  have f:k∉i:=λq=>by refine e1a2 (F.mp q) λx hx P=>?_;have:=List.findIdx?_eq_none_iff.mp hr x hx;rw[show (kM b w).is k x.2=true from P]at this;cases this
  have R:m.size<=126:=by rw[K.size];lia
  obtain⟨o,H,le,ll,I,lf,lr,lg,ld⟩:=Up (h:=nP k) (x:=.int k u) K.tab R;have J:=layNew_perm t m (nP k)<|.int k u;rw[D];rw[le]at J ⊢;generalize js m (im t.place ((t.freeSlot<|nP k).getD (0,false)).1) (nP k,l8 k u)=c at J ⊢;rw[qv]at J;have p1:Paired za ((nP k,l8 k u)::m.toList) (k::i):=.cons ⟨rfl,u,rfl⟩ K.ent;refine e1a2 (yk (J.trans m6).symm p1) λT pk pe=>?_;have U:c.size=m.size+1:=by rw[<- hW,J.length_eq];simp
  rw[<- U]at lf;have p:c.size<=127:=by lia
  have W:T.Nodup:=pk.nodup_iff.mp<|List.nodup_cons.mpr #[f,K.nd];have g:c.size<=hJ:=yU p
  -- ab the end wants,for any uo of X entries
  have L:∀(l:iX) (d:Array (Int×cr)) (v:Nat) (B:jS),jg a s.heap l->l.get? a=↑(xH d v B)->d.toList.Perm c.toList->ZZ B d.size->B.led=t.led->Q true { s with heap:=l}:=by
   intro l d v B sb Y pp f2 l2;refine e1a2 (yk pp.symm pe) λZ q1 q2=>?_;have hs:d.size=c.size:=by rw[<- hW,pp.length_eq,hW]
   have z:=h l Z sb #[d,v,B,Y,q2,q1.nodup_iff.mp W,by rw[hs];exact p,f2,by rw[l2];exact K.led] (by rw[ci f];exact q1.symm.trans pk.symm);rw[ik f]at z;exact z
  refine am<|ap ?_
  have n:hX (hZ b w) A (do
    tE a c o
    if (!H&&o.tooFull)=true then do
      (match (tD o c<|mG c.size).2.2 with|true=>rule "set.scan.the-table-gave-way" |false=>pure ())
      tE a (tD o c<|mG c.size).1 (tD o c<|mG c.size).2.1
      pure ↑true
     else pure ↑true) (λr M=>hX (hZ b w) A (match r with|some y=>pure y|none=>setAddHashedIn a (.int k u) (nP k) 99999) Q E M) E s:=by
   refine am<|AW e g λh1 N o1=>?_;split
   ·refine e2a4 (Oa (t:=o) (es:=c) q0a p I) λd B re rp rt rl=>?_;rw[re];refine am<|ap<|am<|AW (s:={ s with heap:=h1}) o1 ?_ λh2 aa Y=>ap<|ap<|L h2 _ _ _ (N.trans aa) Y rp rt<|rl.trans ll;have:d.size=c.size:=by rw[<- hW,rp.length_eq,hW]
    rw[this];exact g
   ·rename_i O
    refine ap<|ap<|L h1 _ _ _ N o1 (.refl _) #[lf,lr,I,lg,?_] ll
    cases H with
    |true=>exact ld rfl
    |false =>
     have:o.tooFull=false:=by simpa using O
     unfold SetTable.tooFull at this;simpa using this
  split
  ·rw[hashByValue_scannable 8 rfl];exact am<|ap n
  ·exact am<|ap n
def WG{k:Int}(S:wc w a c s.heap)(room:c.length+1<=127)
 (h:∀d b f,jg a s.heap d->wc w a b d->b.Perm (if k∈c then c else k::c)->s.toks<=f->Q (!decide (k∈c)) { s with heap:=d,toks:=f}) :
    hX (hZ e w) A (setAdd a<|.int k u) Q E s:=by
  refine iM<|am<|(kM e w).pyHash (k:=k) (qb _ _ _ _) ?_
  exact WF (s:=99) S room λd b g i p=>h d b _ g i p<|md _
def Qg{a:Array (Int×cr)}{k:Int}:∀{b:List Int},Paired za a.toList b->b.Nodup->∀{j:Nat},sj (λe=>(kM prog w).is k e.2) a.toList=↑j->b[j]?=↑k:=by
 intro b P _ j f;refine e1a2 (List.findIdx?_eq_some_iff_getElem.mp f) λg h _=>?_
 have:∀{a:List (Int×cr)} {b:List Int},Paired za a b->∀(j:Nat)(e:Int×cr),a[j]?=↑e->∃d,b[j]?=↑d/\za e d:=by
  intro a b P
  induction P with
  |nil=>intro j e z;simp at z
  |cons x _ i =>
   intro j e z
   cases j with
   |zero =>
    have l:=iY z;subst l;exact#[_,rfl,x]
   |succ j=>exact i j e (by simpa using z)
 obtain⟨d,m,_,u,n⟩:=this P j a.toList[j] (by simp[g]);have c:m9 k a.toList[j].2=true:=h;rw[n]at c;have:d=k:=by simpa[m9] using c
 rw[<- this];exact m
def zN:∀{l:List b} {m:List c},Paired F l m->∀i,Paired F (l.take i++l.drop (i+1)) (m.take i++m.drop (i+1)):=by
 intro _ _ z
 induction z with
 |nil=>intro i;simpa using Paired.nil
 |cons x r a =>
  intro i
  cases i with
  |zero=>simpa using r
  |succ i=>simpa using Paired.cons x (a i)
def xU{k:Int}:∀{ks:List Int} {j:Nat},ks[j]?=↑k->ks.Perm (k::(ks.take j++ks.drop (j+1)))
 | [],j,e=>by simp at e
 |x::r,0,e=>by
  have:x=k:=by simpa using e
  subst this;simp
 |x::r,j+1,e=>by have:=xU (ks:=r) (j:=j) (by simpa using e);simpa using(oY x this).trans (List.Perm.swap k x _)
def Gn{k:Int}{Q:Bool->hR->Prop}(S:wc w a c s.heap)
 (h:∀p g,jg a s.heap p->wc w a g p->(if k∈c then c.Perm (k::g) else g=c)->Q (decide<|k∈c) { s with heap:=p}) :
    hX (hZ b w) A (setDiscardHashed a (.int k u)<|nP k) Q E s:=by
  refine e3a2 S λd J t e K=>?_
  have F:ElemsOf (kM b w) d.toList:=CN K.ent
  have L:(kM b w).is k (.int k u)=true:=qb _ _ _ _
  refine am<|am<|jq e rfl K.tab.fits ?_
  dsimp only
  rw[byScan_of (knd:=kM b w) rfl (zM K.small) F,gU rfl]
  refine am<|mz<|am ?_
  rw[show nP k=(kM b w).hash k from rfl]
  refine wpAny_setScan_of (knd:=kM b w) L e rfl K.tab.fits F ?_
  have r:=G6 K.ent k
  cases v:sj (λe=>(kM b w).is k e.2) d.toList with
  |none =>
    have f:k∉c:=λq=>by
      refine e1a2 (r.mp q) λx M y=>?_
      have:=List.findIdx?_eq_none_iff.mp v x M
      rw[show (kM b w).is k x.2=true from y]at this
      cases this
    have z:=h s.heap c (mr a s.heap) #[d,J,t,e,K] (by rw[ci f])
    rw[ik f]at z
    exact ap<|ap z
  |some j =>
    dsimp only
    have i:=Qg (prog:=b) (w:=w) K.ent K.nd v
    have n:k∈c:=jW i
    have B:j<d.size:=by
      have:=(List.findIdx?_eq_some_iff_getElem.mp v).1
      rwa [hW]at this
    rw[tz]
    refine ap<|am<|jq e rfl K.tab.fits ?_
    have G:=yj.mp K.tab.fits
    have C:t.place[j]?=↑t.place[j]!:=by
      rw[jA q0a,getElem!_pos]
    have H:t.drop j={ t with place:=jh t.place j,dummies:=js t.dummies (im t.dummies t.place[j]!) t.place[j]!}:=by
      unfold SetTable.drop
      rw[C]
    have o:(jh d j).size=d.size-1:=BE _ _ B
    have l:(jh t.place j).size=d.size-1:=by rw[BE _ _ q0a];lia
    have I:WE w (jh d j) (t.drop j) (c.take j++c.drop (j+1)):=by
      refine#[by rw[toList_erase];exact zN K.ent j,?_,by rw[o];have:=K.small;lia,?_,?_]
      · have := (xU i).nodup_iff.mp K.nd
        exact(List.nodup_cons.mp this).2
      · have m := K.tab.room
        unfold lv at m
        rw[H]
        refine#[yj.mpr #[?_,?_],KW K.tab.rise j,K.tab.plain,K.tab.good,?_]
        · show (jh t.place j).size = _
          rw[l,o]
        · show (jh t.place j).size+(js t.dummies _ _).size <= t.mask
          rw[l,zt]
          lia
        · show ((jh t.place j).size+(js t.dummies _ _).size)*5<t.mask*3
          rw[l,zt]
          lia
      · rw[H]; exact K.led
    refine am<|AW e (yU I.small) λN D O=>?_
    refine am<|wpAny_point ?_
    have z:=h N _ D #[_,_,_,O,I] (by rw[gU n];exact xU i)
    rw[decide_eq_true n]at z
    exact ap z
def Er:∀(l:List a)(i:Nat)(x:a),l[i]?=↑x->(x::l.eraseIdx i).Perm l
 | [],i,x,e=>by simp at e
 |y::r,0,x,e=>by
  have:y=x:=by simpa using e
  subst this;simp
 |y::r,i+1,x,e=>by have:=Er r i x (by simpa using e);rw[oQ];exact(List.Perm.swap y x _).trans<|oY y this
set_option tactic.hygienic true in
def Ur(c:Nat->Nat):∀(a k:Nat)(left:List d)(b:Array d),left.length<=a->(rG c a k left b).toList.Perm (b.toList++left):=by
 intro a
 induction a with
 |zero =>
  intro k left b h;have:left=[]:=List.length_eq_zero_iff.mp q0a;subst this;simp[rG]
 |succ a f =>
  intro k left b h;unfold rG;split
  ·rename_i x e
   have g:=(List.getElem?_eq_some_iff.mp e).1;refine(f _ _ _<|by rw[List.length_eraseIdx];split<;>lia).trans ?_;rw[qv,lQ];refine oO _ ?_;exact Er _ _ _ e
  ·rename_i e
   cases left with
   |nil=>simp
   |cons y r =>
    have:=List.getElem?_eq_none_iff.mp e;have i:=ol (c k) (show 0<(y::r).length by simp)
    lia
def CO(b:Nat->Nat)(a:Array c):(uq b a).toList.Perm a.toList:=by unfold uq;have:=Ur b a.size 0 a.toList #v[] q0o;simpa using this
set_option tactic.hygienic true in
def X0(S:wc w a f s.heap)(h:∀(c:Array (Int×cr)) (b:List Int),Paired za c.toList b->b.Perm f->Q c s):hX (hZ g w) A (setWalk a) Q E s:=by
 refine e3a2 S λd k t e K=>?_;refine am<|jq e rfl K.tab.fits<|am<|am<|jP<|ap ?_;split
 ·refine am<|jP<|ap ?_;obtain⟨b,p,q⟩:=yk (CO _ d).symm K.ent;exact h _ b q p.symm
 ·rename_i i
  rw[ci<|by show ¬((!t.plain&&decide (d.size>1))=true);rw[K.tab.plain];simp]
  have j:t.led=true:=by
   rcases K.led with z|z
   ·exact ii z i
   ·exact z
  refine am<|show hX _ A (if (!t.led&&decide (d.size>1))=true then lM "set:maker-not-led" else pure ()) _ _ _ from ?_;rw[j,ci q0o];exact ap<|ap<|h d f K.ent<|.refl _
def Qh(S:wc w a i s.heap)(h:∀(b:Array (Int×cr)) (c:List Int),Paired za b.toList c->c.Perm i->Q b s) :
  hX (hZ d w) A (setWalkUnseen a f g) Q E s:=by
 refine e3a2 (id S) λk l t e K=>?_;refine am<|jq e rfl K.tab.fits<|am<|am<|jP<|ap ?_
 rw[gU (by
  rcases K.led with z|z
  ·have j:(hZ d w).w.params.followText "set-order"=true:=z;rw[j];simp
  ·rw[z,K.tab.plain];simp)]
 exact X0 S h
def DN{b:Nat}{n:Nat}(e:s.heap.get? a=↑(xH d b t))(k:t.fits d.size=true)(h:Q b s):hX (hZ c w) A (setEpoch a) Q E s :=
 wpAny_setEpoch_of e rfl k h
def WH{es:Array (Int×cr)}{b:Array Nat}{Q:Array (Int×cr)×jS->hR->Prop}(p:b.toList.Perm (iA es.size))(h:Q (b.filterMap (es[·]?),d) s) :
  hX (hZ c w) A (do
   let some (t,order):=↑(d,b)|lM "internal:set-table-without-room"
   let a:=order.filterMap (es[·]?)
   if a.size != es.size then lM "internal:set-table-lost-an-element"
   pure (a,t)) Q E s:=by
 have e:(b.filterMap (es[·]?)).size=es.size:=by rw[<- hW,(picked p).length_eq,hW]
 dsimp only;rw[ci<|by rw[e];simp];exact ap h
def Dr(w:jb)(r:gV)(h:iX):Prop:=∃b a,h.get? r=↑(xH #v[] b<|kE 0 0 a)/\(w.params.followText "set-order"=true\/a=true)
def CP(a:Bool):ZZ (kE 0 0 a) 0:=#[rfl,iG,rfl,.inl rfl,by show 0*5<7*3;decide]
def Dr.set(x:Dr w r h):wc w r [] h:=by refine e2a2 x λb a e l=>?_;exact#[#v[],b,_,e,.nil,mU,q0q,CP a,l]
set_option tactic.hygienic true in
def Us{m:Sem Unit}{Q:Unit->hR->Prop}(F:Dr w r s.heap)(S:wc w a X s.heap)(ne:r≠a)
 (h:∀Y l,jg r s.heap Y->wc w r l Y->l.Perm X->Q () { s with heap:=Y}):hX (hZ I w) A (setMerge r a m) Q E s:=by
  refine e2a2 (id F) λZ c P lr=>?_
  refine e3a2 (id S) λb ep t e K=>?_
  unfold setMerge
  rw[ci<|by simpa using ne]
  refine am<|jq e rfl K.tab.fits ?_
  dsimp only
  by_cases R:b.isEmpty=true
  · rw[gU R]
    have aa:b=#v[]:=by simpa using R
    subst aa
    have:X=[]:=by
      have:=K.ent
      cases this
      rfl
    subst this
    exact ap<|h s.heap [] (mr _ _) F.set<|.refl _
  · rw[ci R]
    have af:1<=b.size:=by
      have:b.size≠0:=λz=>R (by simpa using Array.size_eq_zero_iff.mp z)
      lia
    have T:=K.small
    -- the room
    have go:∀(o:iX)(J:Nat)(d:jS),jg r s.heap o->o.get? r=↑(xH #v[] J d)->d.place=#v[]->d.dummies=#v[]->d.plain=true->d.led=c->Good d.mask->b.size*5<d.mask*3 ->
        hX (hZ I w) A (setState r >>= λx=>match x with
          | (_,_,k)=>match k.road t with
            | .slotForSlot=>tE r b { t with finger:=k.finger,led:=k.led&&t.led,moves:=k.moves,plain:=k.plain&&t.plain}
            | .clean=>do
              let (b,t) <- (do
                let some (t,order):=(n9 k.mask k.finger k.moves (led:=k.led&&t.led) (plain:=k.plain&&t.plain) (b.map (·.1)))|lM "internal:set-table-without-room"
                let L:=order.filterMap (b[·]?)
                if L.size != b.size then lM "internal:set-table-lost-an-element"
                pure (L,t))
              tE r b t
            | .oneByOne=>do
              for (h,x) in <- setWalkUnseen a [r] ↑r do
                let _ <- k9 [x] (setAddHashed r x h)
                m
                if (<- setState a).2.1 != ep then lM "set.changed-during-merge") Q E { s with heap:=o}:=by
      intro o J d sb o1 p1 d1 M l1 C rm
      have f1:d.fits (#v[]:Array (Int×cr)).size=true:=yj.mpr #[by rw[p1];rfl,by rw[p1,d1];exact jj _]
      refine am<|jq (s:={ s with heap:=o}) o1 rfl f1 ?_
      dsimp only
      have u:w.params.followText "set-order"=true\/(d.led&&t.led)=true:=by
        rcases lr with z|z
        · exact .inl z
        · rcases K.led with y|y
          · exact .inl y
          · exact .inr (by rw[l1, z, y]; rfl)
      have v:d.road t=.slotForSlot\/d.road t=.clean:=by
        unfold uM lv
        rw[p1,d1]
        simp only[ie,nJ,Nat.add_zero,rH,lA,pK]
        split
        · exact .inl rfl
        · exact .inr rfl
      have ab:d.road t=.slotForSlot->t.dummies.isEmpty=true:=λz=>by
        unfold uM at z
        split at z
        · cases z
        · split at z
          · rename_i q
            exact(Bool.and_eq_true_iff.mp q).2
          · cases z
      have up:∀f,jg r o f->jg r s.heap f:=λf q=>sb.trans q
      rcases v with z|z
      · have hd := ab z
        rw[z]
        refine AW (s:={ s with heap:=o}) o1 (yU T) λf g D=>?_
        refine h f X (up f g) #[b,_,_,D,K.ent,K.nd,T,#[K.tab.fits,K.tab.rise,?_,K.tab.good,K.tab.room],u]<|.refl _
        rw[M,K.tab.plain];rfl
      · rw[z]
        have i:b.size<=d.mask:=by lia
        obtain⟨t2,B,N,p⟩:=CM (fg:=d.finger) (mv:=d.moves) (led:=d.led&&t.led) (pl:=d.plain&&t.plain) (hs:=b.map (·.1)) C.G4 (by rw[mO];exact i)
        refine e0a6 (CL N) λr1 r2 r3 G U O=>?_
        rw[N]
        rw[mO]at p
        have W:=picked p
        have H:(B.filterMap (b[·]?)).size=b.size:=by rw[<- hW,W.length_eq,hW]
        have j:B.size=b.size:=by rw[<- hW,p.length_eq,lP]
        refine am<|WH p ?_
        refine AW (s:={ s with heap:=o}) o1 (by rw[H];exact yU T) λf g D=>?_
        refine e1a2 (yk W.symm K.ent) λl q1 q2=>?_
        refine h f l (up f g) #[_,_,_,D,q2,q1.nodup_iff.mp K.nd,by rw[H];exact T,#[yj.mpr #[by rw[O,H,j],?_],r1,?_,by rw[G];exact C,?_],by rw[r2];exact u] q1.symm
        · rw[O, U, j, G]; exact i
        · rw[r3, M, K.tab.plain]; rfl
        · unfold lv
          rw[O,U,j,G]
          exact rm
    refine am<|am<|jq P rfl (CP c).fits ?_
    by_cases hr:b.size*5>=7*3
    · have e1 : (kE 0 0 c).roomFor b.size = some (b.size*2) := by
        unfold tW lv kE
        rw[gU<|by simpa using hr]
        simp
      rw[e1]
      obtain⟨C,g2⟩:=Ep (n:=b.size*2) q0a
      obtain⟨t2,B,N,p⟩:=CM (fg:=0) (mv:=(kE 0 0 c).movedTo<|i4 (b.size*2)-1) (led:=c) (pl:=true) (hs:=(#v[]:Array (Int×cr)).map (·.1)) C.G4 (by rw[mO];exact jj _)
      refine e0a6 (CL N) λr1 r2 r3 G U O=>?_
      have ae:(kE 0 0 c).relaid ((#v[]:Array (Int×cr)).map (·.1)) (b.size*2)=↑(t2,B):=N
      refine am<|jq P rfl (CP c).fits ?_
      dsimp only
      rw[ci (by
        have:i4 (b.size*2)<=512:=by rcases C with q|q|q|q|q|q|q<;>lia
        have e3:(512:Nat)<=hJ:=by rw[i7];decide
        lia),ae]
      rw[mO]at p
      have W:=picked (es:=#v[]) p
      have H:(B.filterMap ((#v[]:Array (Int×cr))[·]?)).size=0:=by rw[<- hW,W.length_eq];rfl
      have j:B.size=0:=by rw[<- hW,p.length_eq];rfl
      refine am<|WH (es:=#v[]) p ?_
      refine AW P (by rw[H];exact jj _) λf g D=>?_
      have o3:B.filterMap ((#v[]:Array (Int×cr))[·]?)=#v[]:=Array.size_eq_zero_iff.mp H
      rw[o3]at D
      refine go f _ t2 g D (Array.size_eq_zero_iff.mp<|by rw[O,j]) U r3 r2 (by rw[G];exact C) (by rw[G];lia)
    · have e1 : (kE 0 0 c).roomFor b.size = none := by
        unfold tW lv kE
        rw[ci<|by simpa using hr]
      rw[e1]
      refine ap ?_
      exact go s.heap Z (kE 0 0 c) (mr _ _) P rfl rfl rfl rfl (.inl rfl) (by show b.size*5<7*3;lia)
def Ob:tF uo "set.__xor__"=↑Builtin.«frozenset.__xor__» :=
 tG (id':="frozenset.__xor__") (by kernel_rfl) (by first|rfl|decide +kernel|(unfold rs;simp +decide [qt])) q0s (by kernel_rfl)
def Qi(h:∀a,Dr w ⇑s a->(∀c o,s.heap.get? c=↑o->a.get? c=↑o)->Q (.ref ⇑s) 103):hX (hZ b w) A (newSet<|.type "set") Q E s:=by
 refine am<|am<|jP<|ap ?_;refine am<|wpAny_alloc<|ap<|h _ ⟨0,_,ic _ rfl,?_⟩ λc o e=>ce _ e
 cases q:w.params.followText "set-order" with
 |true=>exact .inl rfl
 |false=>exact .inr (by show (!(w.params.followText "set-order"))=true;rw[q];rfl)
def BV(S:wc w a c s.heap)(h:Q true s):hX (hZ b w) A (Builtin.Frozenset.isAnySet<|.ref a) Q E s:=by refine am<|mF S.typeIs qc<|ap ?_;exact h
def Oc{m:String}{Q:cr->hR->Prop}(S:wc w a j s.heap)
  (h:∀f b,wc w ⇑s b f->b.Perm j->(∀c o,s.heap.get? c=↑o->f.get? c=↑o)->Q (.ref ⇑s) { s with heap:=f}) :
  hX (hZ k w) A (Builtin.Frozenset.newFrom m (.type "set")<|.ref a) Q E s:=by
 refine am<|Qi λd r l=>?_;have g:wc w a j d:=S.keep λo e=>l a o e;have u:⇑s≠a:=jv S.lt;refine am<|ap<|am<|iM ?_;refine am<|BV (s:={ s with heap:=d}) g ?_;rw[gU rfl];refine am<|ap ?_;have i:=g;refine e3a2 i λz B t e K=>?_;refine am<|DN (n:=0) (s:={ s with heap:=d}) e K.tab.fits ?_;refine Us (s:={ s with heap:=d}) r g u λv b x y p=>?_;exact ap<|h v b y p λc o q=>x.extBut c o (ij<|hV q)<|l c o q
set_option tactic.hygienic true in
def Z0{Q:cr->hR->Prop}(Sa:wc w a ka s.heap)(Sb:wc w b kb s.heap)(hl:ka.length+kb.length<=126)
  (h:∀h' ks,wc w ⇑s ks h'->(∀k,k∈ks↔((k∈kb/\k∉ka)\/(k∉kb/\k∈ka)))->(∀c o,s.heap.get? c=↑o->h'.get? c=↑o)->Q (.ref ⇑s) { s with heap:=h'}) :
  hX (hZ prog w) A (mM .BitXor (.ref a)<|.ref b) Q E s:=by
 refine wpAny_binaryOp_same (op:=.BitXor) (T:="set") Sa.typeIs Sb.typeIs F.fills_set_xor F.slot_set_xor ?_;refine jc F.slot_set_xor Sa.typeIs Ob ?_<|F.args_set_xor_2 _ _;refine am<|am<|ap<|ap ?_;dsimp only;rw[ci h8];refine am<|am<|BV Sa<|BV Sb ?_;rw[ci q0o];refine am<|ap<|am ?_
 wp_delta
 refine am<|am<|mF Sa.typeIs qc<|ap ?_;rw[gU rfl];refine am<|Oc Sb λh1 Ut S1 p1 k1=>?_;have Sa1:wc w a ka h1:=Sa.keep λo e=>k1 a o e;have ne:⇑s≠a:=jv Sa.lt;refine am<|ap<|am<|iM ?_;unfold Builtin.Frozenset.symmetricDifferenceUpdate;rw[ci<|by simpa using Ne.symm ne];dsimp only;refine am<|lj (s:={ s with heap:=h1}) (wc.typeIs (s:={ s with heap:=h1}) Sa1) ?_;rw[ci q0q];refine am<|BV (s:={ s with heap:=h1}) Sa1 ?_;rw[gU rfl];refine am<|ap<|am<|ap ?_;have a2c:=Sa1;refine e3a2 a2c λes ep t e K=>?_;refine am<|DN (n:=0) (s:={ s with heap:=h1}) e K.tab.fits ?_;refine iM<|am<|Qh (s:={ s with heap:=h1}) Sa1 λes' Z1 P' p'=>?_;have nd':Z1.Nodup:=p'.nodup_iff.mpr Sa.nodup;have a3D:=p'.length_eq;have a3E:=p1.length_eq
 refine am (wpAny_forIn_array' _ (λrest _ s2=>∃dn kr h2 k2,Z1=dn++kr/\Paired za rest kr/\s2={ s with heap:=h2}/\jg ⇑s h1 h2/\wc w ⇑s k2 h2/\k2.length<=Ut.length+dn.length /\
   ∀k,k∈k2↔((k∈Ut/\k∉dn)\/(k∉Ut/\k∈dn))) _ ?turn ?fin es' _ #[[],Z1,h1,Ut,rfl,P',rfl,mr _ _,S1,gZ _,λk=>by simp])
 case fin =>
  rintro _ s2 ⟨dn,kr,h2,k2,e0,P,rfl,sb,S2,_,m⟩;cases P;rw[ko]at e0;subst e0;refine ap<|ap<|ap ⟨_,rfl,q0o,?_⟩;refine h h2 k2 S2 (λk=>?_) λc o q=>sb.extBut c o (ij<|hV q)<|k1 c o q;rw[m k,p1.mem_iff,p'.mem_iff]
 case turn =>
  rintro x rest _ s2 ⟨dn,kr,h2,k2,e0,P,rfl,sb,S2,l2,m⟩
  cases P with
  |cons hx hr =>
   rename_i k kr
   obtain⟨hx1,u,hx2⟩:=hx;rw[hx1,hx2];have nd2:=nd';rw[e0]at nd2
   have hkd:k∉dn:=λq=>by have:=(List.nodup_append.mp nd2).2.2 k q k gY;exact this rfl
   have a3I:dn.length+(kr.length+1)=Z1.length:=by rw[e0,ig,iz]
   have ea:∀h3,jg ⇑s h2 h3->h3.get? a=↑(xH es ep t):=λh3 q=>q.extBut a _ (Ne.symm ne)<|sb.extBut a _ (Ne.symm ne) e
   have WI:∀(R:ForInStep PUnit->hR->Prop) h3 k3,jg ⇑s h2 h3->wc w ⇑s k3 h3->k3.length<=k2.length+1->(∀j,j∈k3↔((j∈k2/\j≠k)\/(j∉k2/\j=k))) ->
     (∀s':hR,(∃dn kr h2 k2,Z1=dn++kr/\Paired za rest kr/\s'={ s with heap:=h2}/\jg ⇑s h1 h2/\wc w ⇑s k2 h2/\k2.length<=Ut.length+dn.length/\∀k,k∈k2↔((k∈Ut/\k∉dn)\/(k∉Ut/\k∈dn)))->R (.yield #[]) s') ->
     hX (hZ prog w) A.in1 (Builtin.Frozenset.unchanged (toString "frozenset."++toString "__xor__") a ep >>= λ_=>pure<|m7 PUnit.unit) R E { s with heap:=h3}:=by
    intro R h3 k3 Z2 S3 l3 m3 fin;refine am<|am<|DN (n:=0) (s:={ s with heap:=h3}) (ea h3 Z2) K.tab.fits ?_;rw[ci q0o];refine ap<|ap<|fin _ ⟨dn++[k],kr,h3,k3,by rw[e0];simp,hr,rfl,sb.trans Z2,S3,by rw[ig];simp;lia,λj=>?_⟩;rw[m3 j,m j,kW,kJ];by_cases q2:j=k
    ·subst q2;by_cases q1:j∈Ut<;>simp[q1,hkd]
    ·by_cases q1:j∈Ut<;>by_cases q3:j∈dn<;>simp[q1,q2,q3]
   refine am<|iM<|am ?_;refine Gn (s:={ s with heap:=h2}) S2 λh3 k3 Z2 S3 p3=>?_;by_cases Zh:k∈k2
   ·rw[decide_eq_true Zh,ci q0o];rw[gU Zh]at p3;have nd3:=p3.nodup_iff.mp S2.nodup;refine ap<|WI _ h3 k3 Z2 S3 (by have:=p3.length_eq;rw[iz]at this;lia) (λj=>?_) λ_ z=>z;have q:=p3.mem_iff (a:=j);rw[iD]at q;rw[q];have hk1:=(List.nodup_cons.mp nd3).1;by_cases q2:j=k
    ·subst q2;simp[hk1]
    ·simp[q2]
   ·rw[ik Zh,gU q0o];rw[ci Zh]at p3;subst p3;refine am<|WF (s:={ s with heap:=h3}) S3 q0a λh4 k4 sb4 S4 p4=>?_;rw[ci Zh]at p4;refine ap<|WI _ h4 k4 (Z2.trans sb4) S4 (by have:=p4.length_eq;rw[iz]at this;lia) (λj=>?_) λ_ z=>z;rw[p4.mem_iff,iD];by_cases q2:j=k
    ·subst q2;simp[Zh]
    ·simp[q2]
section
variable{prog:iJ}{w:jb}{A:jF}{R:Result->hR->Prop}{I:gV}{fp wr:List gV}{G:Array pH->Array pH->Prop}{n:Nat}{P:Nat->cr->Prop}{St:Nat->hR->Prop}
set_option tactic.hygienic true in
def X1(W:WalksS prog w A.in1 I fp wr G n P St)(r:gV)(O:r∉fp)(a:Nat->Int)(g:∀i v,P i v->∃t,v=.int (a i) t)(hb:n<=126) :
  ∀(m i:Nat)(s:hR)(b:List Int),i+m=n->St i s->wc w r b s.heap->(∀k,k∈b↔∃j,j<i/\a j=k)->b.length<=i ->
   (∀h l,Moved (r::wr) G s h->wc w r l h.heap->(∀k,k∈l↔∃j,j<n/\a j=k)->R (.ok<|.ret .none) h) ->
   mS (hZ prog w) A (.builtin "set.update.loop" #[[.ref r,.ref I],[]]) R s:=by
 have Q:r∉wr:=λq=>O<|W.sub _ q;have x:∀c∈wr,c∈r::wr:=λc B=>hI _ B;intro m
 induction m with
 |zero =>
  intro i s b X H S d Y f;obtain rfl:i=n:=by lia
  refine jX tX ?_;rw[jI pw _];refine am<|W.done s _ _ H λh C=>?_;exact ap<|f h b (C.mono x) (S.keep λo e=>C.heap r o Q e) d
 |succ m Z =>
  intro i s b X H S d Y f;refine jX tX ?_;rw[jI pw _];refine am<|W.item i s _ _ q0a H λv T hP J C=>?_;obtain⟨u,rfl⟩:=g i v hP;have S1:wc w r b T.heap:=S.keep λo e=>C.heap r o Q e;refine am<|iM<|WG S1 q0a λh2 D tk U S2 p E=>?_
  have l2:D.length<=i+1:=by
   have:=p.length_eq;split at this
   ·lia
   ·rw[iz]at this;lia
  refine ap #[lu pw _,Z (i+1) _ D q0a (W.frame _ T _ _ J E λc B o e=>?_) S2 (λk=>?_) l2 λs3 L M S3 m3=>?_]
  ·rw[U.2 c (λz:c=r=>O<|by rw[<- z];exact B)];exact e
  ·rw[p.mem_iff]
   have q:(k∈if a i∈b then b else a i::b)↔(k=a i\/k∈b):=by
    split
    ·rename_i z
     constructor
     ·exact .inr
     ·rintro(y|y)
      ·rw[y];exact z
      ·exact y
    ·exact iD
   rw[q,d k];constructor
   ·rintro(z|⟨j,hj,e⟩)
    ·exact#[i,q0a,z.symm]
    ·exact#[j,q0a,e]
   ·rintro⟨j,hj,e⟩;by_cases N:j=i
    ·subst N;exact .inl e.symm
    ·exact .inr #[j,q0a,e]
  ·refine f s3 L (Moved.trans W.gtrans ((C.mono x).then_heap E λc o B e=>?_) M) S3 m3;rw[U.2 c (λz:c=r=>B<|by rw[z];exact gY)];exact e
end
def Od(x:cr)(h:∀a,Dr w ⇑s a->(∀c o,s.heap.get? c=↑o->a.get? c=↑o)->Q (.ref ⇑s) 103) :
  mS (hZ b w) A (.call (.builtin "set.__new__") #[[.type "set",x],[]]) (wants Q E) s:=by
 refine mV ?_;refine am<|mZ (F.newCall_set_1 x)<|ap #[lu pT _,jX F.entry_set_new ?_];rw[jI pT _];unfold Builtin.«set.__new__» pL;have g:=qc;obtain⟨i,j,k,l,m⟩:=s;dsimp only;generalize d:newSet=n
 wp_walk
 subst d;refine Qi λa e f=>?_;exact ap<|h a e f
def K4(hh:A.handled=none)(hl:s.heap.IsList l b)(hi:lx b.toList x)(hb:b.size<=126)
 (h:∀f G g,wc w ⇑s g f->(∀k,k∈g↔k∈x)->(∀c o,s.heap.get? c=↑o->f.get? c=↑o)->Q (.ref ⇑s) { s with heap:=f,toks:=G}) :
    hX (hZ aa w) A (call (.type "set") [.ref l]) Q E s:=by
  obtain⟨c0,tl,ab⟩:=F.called_set.mro
  have J:=F.called_set.made
  have ae:=F.called_set.sub
  refine mX<|mV ?_
  refine ap #[oa _ q0s,jX F.entry_type_call ?_]
  rw[tY (uV "set" [.ref l] []) rfl]
  have ag:=F.called_set.notType
  have ah:=F.called_set.canCreate
  have ai:=F.typeCall_set_1<|.ref l
  repeat (any_goals (first|assumption|wp_step))
  refine j7 (Od (.ref l) (E:=E) (Q:=λy z=>y=.ref ⇑s/\∃a,z=103/\Dr w ⇑s a/\∀c o,s.heap.get? c=↑o->a.get? c=↑o) λa H u=>#[rfl,a,rfl,H,u]) λr1 s1 m=>?_
  cases r1 with
  |error e=>exact m
  |ok f1 =>
    cases f1 with
    |ret y =>
      obtain⟨rfl,a,rfl,H,u⟩:=m
      have L:wc w ⇑s [] a:=H.set
      have hT:mu 103 (.ref ⇑s) "set":=wc.typeIs (s:=103) L
      have aj:=F.called_set.init.lookup
      have ak:=F.called_set.init.bind<|.ref ⇑s
      repeat (any_goals (first|assumption|wp_step))
      refine j7 (nZ (R:=wants (λr B=>r=.none/\∃f G g,B={ s with heap:=f,toks:=G}/\wc w ⇑s g f/\(∀k,k∈g↔k∈x)/\∀c o,s.heap.get? c=↑o->f.get? c=↑o) E) F.called_set.init.plain F.entry_set_init<|check_set_init_1 hT ?_) λr2 s2 n=>?_
      · obtain⟨M, p, N, nl, O⟩ := id hl
        have q:a.IsList l b:=#[M,u l M p,N,nl,O]
        have al:mu 103 (.ref l) "list":=q.typeIs
        have q1:=F.sub_list_set
        have q2:=F.sub_list_frozenset
        have q3:(kj "list" == kj "dict")=false:=by decide
        refine e2a2 (id H) λan af e1 l1=>?_
        unfold Builtin.«set.__init__» noKeywords Builtin.Frozenset.updateFrom
        generalize P:pyIter=PI
        wp_walk
        subst P
        refine wpAny_pyIter_list q<|am<|tH ?_
        have S:l<a.objs.size:=hV<|u l M p
        have T:⇑s<a.objs.size:=L.lt
        have U:A.in1.in1.in1.handled=none:=by simp[hh]
        have nr:⇑s∉[a.objs.size,l]:=by
          simp only[iD,jl,mB,qa]
          exact#[ij T,jv<|hV p]
        have C:∀(i:Nat)(v:cr),b[i]?=↑v->∃t,v=.int ((λi=>x.getD i 0) i) t:=λi v hv=>rc hi i v (by rw[iR];exact hv)
        have d:∀c o,a.get? c=↑o->(a.push { cls:=.type "list_iterator",data:=.fields #v[.ref l,.int 0 0]}).get? c=↑o:=λc o e=>ce _ e
        have D:=rf hi
        rw[hW]at D
        refine X1 ((Walks.list U _ l (ij S) b).toS) ⇑s nr (λi=>x.getD i 0) C hb b.size 0 _ [] q0a #[#[_,ic _ rfl,rfl,rfl],q.push _] (L.keep λo e=>d _ o e) (λk=>by simp) (jj _) λs2 W I S2 m2=>?_
        obtain⟨h2,g2,d2,X,Y⟩:=s2
        have eg:g2=s.gens:=I.gens
        have ed:d2=s.drawn:=I.drawn
        have eo:Y=s.os:=I.os
        subst eg ed eo
        refine ap<|ap ⟨rfl,h2,X,W,rfl,S2,λk=>?_,λc o e=>?_⟩
        · rw[m2 k]
          constructor
          · rintro⟨j, Z, e⟩
            rw[<- e]
            have:j<x.length:=by lia
            simp[jy,this]
          · intro hk
            obtain⟨j,Z⟩:=lY hk
            refine#[j,by have:=(List.getElem?_eq_some_iff.mp Z).1;lia,?_]
            simp[jy,Z]
        · refine I.heap c o ?_ (d c o<|u c o e)
          simp only[iD,jl,mB,qa]
          exact#[ij<|hV e,ij<|hV<|u c o e]
      · cases r2 with
        |error e=>exact n
        |ok f2 =>
          cases f2 with
          |ret r =>
            obtain⟨rfl,f,G,g,rfl,S',m',k'⟩:=n
            repeat (any_goals (first|assumption|wp_step))
            exact h _ _ g S' m' k'
          |_=>exact n.elim
    |_=>exact m.elim
def xm:Slot "set_iterator" "__next__" "set_iterator.__next__" :=
 .of (owner:="set_iterator") (n:="__next__") (by rw[om,mf];kernel_rfl) q0s q0s q0s (by first|exact .inl q0s|exact .inr q0s) (by rw[tJ];kernel_rfl)
def Qj:Manifest.owners.lookup (String.ofList ['r','o','t','a','r','e','t','i','_','t','e','s'].reverse)=↑Manifest.sig_set_iterator:=by kernel_rfl
def BX(a:cr):rX "set_iterator.__next__" #[[a],[]]:=by unfold rX;rw[signature?_of (id:="set_iterator.__next__") (n:=['_','_','t','x','e','n','_','_']) (o:=['r','o','t','a','r','e','t','i','_','t','e','s']) (by kernel_rfl) Qj];kernel_rfl
def Bm:tF uo "set_iterator.__next__"=↑Builtin.«set_iterator.__next__»:=entryFor_of_tree (by kernel_rfl)
def BY:Slot "set_iterator" "__iter__" "set_iterator.__iter__" :=
 .of (owner:="set_iterator") (n:="__iter__") (by rw[om,mf];kernel_rfl) q0s q0s q0s (by first|exact .inl q0s|exact .inr q0s) (by rw[tJ];kernel_rfl)
def G7(a:cr):rX "set_iterator.__iter__" #[[a],[]]:=by unfold rX;rw[signature?_of (id:="set_iterator.__iter__") (n:=['_','_','r','e','t','i','_','_']) (o:=['r','o','t','a','r','e','t','i','_','t','e','s']) (by kernel_rfl) Qj];kernel_rfl
def FM:tF uo "set_iterator.__iter__"=↑Builtin.«dict_keyiterator.__iter__» :=
 tG (id':="dict_keyiterator.__iter__") (by kernel_rfl) (by first|rfl|decide +kernel|(unfold rs;simp +decide [qt])) q0s (by kernel_rfl)
def Es:tF uo "set.__iter__"=↑Builtin.«frozenset.__iter__» :=
 tG (id':="frozenset.__iter__") (by kernel_rfl) (by first|rfl|decide +kernel|(unfold rs;simp +decide [qt])) q0s (by kernel_rfl)
noncomputable abbrev Z3(b i n c:Nat)(a:gV):Obj:={ cls:=.type "set_iterator",dict:=none,data:=.fields #v[l9 b,l9 i,.ref a,l9 n,l9 c],slots:=#v[]}
noncomputable def K5(w:jb)(a:gV)(b:Array (Int×cr))(c:Nat):Array (Int×cr):=if w.params.followText "set-order"=true then uq (w.params.setOrder a c) b else b
def CQ(w:jb)(a:gV)(b:Array (Int×cr))(c:Nat):(K5 w a b c).toList.Perm b.toList:=by
 unfold K5;split
 ·exact CO _ b
 ·exact .refl _
def SIt(w:jb)(e a:gV)(c:Array (Int×cr))(d:Nat)(t:jS)(i:Nat)(h:iX):Prop :=
 ∃b,(w.params.followText "set-order"=false->im t.place b=i)/\h.get? e=↑(Z3 b i c.size d a)/\h.get? a=↑(xH c d t)
def Ju(e:s.heap.get? b=some { cls:=cls,dict:=none,data:=.fields c,slots:=#v[]})(h:Q c s):hX (hZ a w) A (fieldsOf<|.ref b) Q E s:=by exact am<|qX e<|ap h
set_option tactic.hygienic true in
def Oe{c i:Nat}(e:s.heap.get? a=↑(xH g k t))(K:WE w g t p)(n:w.params.followText "set-order"=false->im t.place c=i)
 (d:(K5 w a g k)[i]?=↑x)(h:∀l,(w.params.followText "set-order"=false->im t.place l=i+1)->Q ↑(x.2,l) s):hX (hZ f w) A (setNext a c i k) Q E s:=by
  have q:=yj.mp K.tab.fits
  refine am<|jq e rfl K.tab.fits<|am<|am<|jP<|ap ?_
  dsimp only
  unfold K5 at d
  split
  · rename_i j
    have b:w.params.followText "set-order"=true:=j
    rw[gU b]at d
    rw[ci q0o]
    refine am<|am<|jq e rfl K.tab.fits<|am<|am<|jP<|ap ?_
    rw[gU j]
    refine am<|jP<|ap<|ap ?_
    rw[show (hZ f w).w=w from rfl,d]
    exact h c λz=>by rw[b]at z;cases z
  · rename_i j
    have b:w.params.followText "set-order"=false:=Bool.eq_false_iff.mpr j
    rw[ci<|by rw[b];simp]at d
    rw[ci<|by show ¬((!t.plain&&decide (g.size>1))=true);rw[K.tab.plain];simp]
    have o:t.led=true:=by
      rcases K.led with z|z
      · rw[b]at z; cases z
      · exact z
    refine am<|show hX _ A (if (!t.led&&!g.isEmpty)=true then lM "set:maker-not-led" else pure ()) _ _ _ from ?_
    rw[o,ci q0o]
    have r:=(Array.getElem?_eq_some_iff.mp d).1
    rw[n b,d]
    have m:t.place[i]?=↑t.place[i]!:=by rw[jA q0a,getElem!_pos]
    rw[m]
    refine ap<|ap<|h _ λ_=>?_
    exact KS K.tab.rise (by rw[iR];exact m)
set_option tactic.hygienic true in
def Of{c:Nat}(e:s.heap.get? a=↑(xH b i t))(K:WE w b t l)(j:w.params.followText "set-order"=false->im t.place c=b.size)(h:Q none s):hX (hZ d w) A (setNext a c b.size i) Q E s:=by
 refine am<|jq e rfl K.tab.fits<|am<|am<|jP<|ap ?_;dsimp only;split
 ·rename_i g
  rw[ci q0o];refine am<|am<|jq e rfl K.tab.fits<|am<|am<|jP<|ap ?_;rw[gU g];refine am<|jP<|ap<|ap ?_
  have:(uq ((hZ d w).w.params.setOrder a i) b)[b.size]?=none:=by rw[Array.getElem?_eq_none_iff,<- hW,(CO _ b).length_eq,hW];exact gZ _
  rw[this];exact h
 ·rename_i g
  have f:w.params.followText "set-order"=false:=Bool.eq_false_iff.mpr g;rw[ci<|by show ¬((!t.plain&&decide (b.size>1))=true);rw[K.tab.plain];simp]
  have k:t.led=true:=by
   rcases K.led with z|z
   ·rw[f]at z;cases z
   ·exact z
  refine am<|show hX _ A (if (!t.led&&!b.isEmpty)=true then lM "set:maker-not-led" else pure ()) _ _ _ from ?_;rw[k,ci q0o,j f];rw[show b[b.size]?=none from by simp];exact ap<|ap h
def Og(hh:A.handled=none)(K:WE w es t ks)(ne:a≠it):Walks prog w A it [it,a] [it] es.size (λi v=>∃x,(K5 w a es ep)[i]?=↑x/\v=x.2) (SIt w it a es ep t) where
 sub:=λb hb=>by simp at hb;simp[hb]
 frame:=λi h h' z9=>e1a3 z9 λsl z e1 e2 k=>#[sl,z,k it q0o _ e1,k a q0o _ e2]
 item:=by
  rintro i s Q E hi ⟨sl,z,e1,e2⟩ hQ;have hT:s.TypeIs (.ref it) "set_iterator":=#[_,e1,rfl];refine am<|pA<|wpAny_callSpecial?_slot (name:=mn "__next__") hT xm<|jc xm hT Bm ?_<|BX _;refine am<|ap<|am<|Ju e1 ?_;refine am<|qN e2 rfl K.tab.fits ?_;rw[ci q0o]
  obtain⟨x,hx⟩:∃x,(K5 w a es ep)[i]?=some x:=by
   have hl:i<(K5 w a es ep).size:=by rw[<- hW,(CQ w a es ep).length_eq,hW];exact hi
   exact#[_,jA hl]
  refine am<|Oe e2 K z hx λsl' z'=>?_;refine am<|j0 e1 q0o λh1 o1 sb1=>am<|j0 (s:={ s with heap:=h1}) o1 q0o λh2 o2 sb2=>ap #[_,rfl,ap ?_];have sb:=sb1.trans sb2;exact hQ _ h2 _ #[x,hx,rfl] #[sl',z',o2,sb.extBut a _ ne e2] λb o hb q=>sb.extBut b o (by simpa using hb) q
 done:=by
  rintro s Q E ⟨sl,z,e1,e2⟩ hQ;have hT:s.TypeIs (.ref it) "set_iterator":=#[_,e1,rfl];refine am<|pA<|wpAny_callSpecial?_slot (name:=mn "__next__") hT xm<|jc xm hT Bm ?_<|BX _;refine am<|ap<|am<|Ju e1 ?_;refine am<|qN e2 rfl K.tab.fits ?_;rw[ci q0o];refine am<|Of e2 K z ?_;refine am<|j0 e1 q0o λh1 o1 sb1=>am ?_;refine am<|iV ?_ (by size_fits);refine am (m:=qw _ _)<|mZ (a:=Value.none) (by first|rfl|(simp only[qw];rfl))<|iV ?_ (by size_fits)
  refine wpAny_raiseNew_none hh<|am<|mF (T:="StopIteration") (b:=true) ⟨_,ic _ rfl,rfl⟩ isSubtype_stop<|ap ?_;exact hQ _ _ λb o hb q=>ce _<|ce _<|sb1.extBut b o (by simpa using hb) q
 self:=by rintro i s Q E ⟨sl,z,e1,e2⟩ hQ;have hT:s.TypeIs (.ref it) "set_iterator":=#[_,e1,rfl];refine wpAny_pyIter_slot hT BY<|jc BY hT FM ?_<|G7 _;exact ap #[_,rfl,"set_iterator",_,hT,xm.lookup,hQ]
def X2(e:s.heap.get? a=↑(xH f i t))(K:WE w f t j)
 (h:∀d,SIt w ⇑s a f i t 0 d->(∀c o,s.heap.get? c=↑o->d.get? c=↑o)->d.objs.size=⇑s+1->Q (.ref ⇑s) { s with heap:=d}):hX (hZ b w) A (pyIter<|.ref a) Q E s:=by
  have g:s.TypeIs (.ref a) "set":=#[_,e,rfl]
  refine wpAny_pyIter_slot g F.slot_set_iter<|jc F.slot_set_iter g Es ?_<|F.args_set_iter_1 _
  refine am<|am<|ap<|ap<|am<|am<|qN e rfl K.tab.fits<|ap ?_
  refine am<|am<|jq e rfl K.tab.fits<|am<|am<|jP<|ap<|ap ?_
  rw[ci<|by show ¬((!(hZ b w).w.params.followText "set-order"&&(!t.plain&&decide (f.size>1)))=true);rw[K.tab.plain];simp]
  refine am<|ap<|am<|DN (n:=0) e K.tab.fits ?_
  refine am<|iV ?_ (by size_fits)
  refine ap #[_,rfl,"set_iterator",_,#[_,ic _ rfl,rfl],xm.lookup,?_]
  exact h _ #[0,λ_=>KU K.tab.rise,ic _ rfl,ce _ e] (λc o q=>ce _ q)<|jK _ _
def G8:nN (.type "set") "__len__"=pure (some<|.builtin "set.__len__"):=by rw[om,mf];kernel_rfl
def Uu(P:Paired za a b):∀(j:Nat)(e:Int×cr),a[j]?=↑e->∃k,b[j]?=↑k/\za e k:=by
 induction P with
 |nil=>intro j e z;simp at z
 |cons x _ c =>
  intro j e z
  cases j with
  |zero =>
   have d:=iY z;subst d;exact#[_,rfl,x]
  |succ j=>exact c j e (by simpa using z)
def Av:∀{a:List cr} {b:List Int},a.length=b.length->(∀(i:Nat)(v:cr),a[i]?=↑v->∃k u,b[i]?=↑k/\v=l8 k u)->lx a b
 | [],[],_,_=>.nil
 | [],_::_,h,_=>by simp at h
 |_::_,[],h,_=>by simp at h
 |v::a,n::b,h,k=>by
  refine e2a2 (k 0 v rfl) λc u d f=>?_;have:n=c:=by simpa using d
  subst this;subst f
  exact .cons _ _ (Av (by simpa using h) λi g e=>by
   refine e2a2 (k (i+1) g<|by simpa using e) λj l m o=>?_
   exact#[j,l,by simpa using m,o])
def Oh(hh:A.handled=none)(S:wc w a ks s.heap)
 (h:∀M tk Z G,lx Z G->G.Perm ks->(∀c o,s.heap.get? c=↑o->M.get? c=↑o)->⇑s<=M.objs.size->Q Z { s with heap:=M,toks:=tk}):hX (hZ r w) A (collect<|.ref a) Q E s:=by
  refine e3a2 (id S) λH I t e K=>?_
  have d:a<⇑s:=hV e
  refine am<|tH<|jX ur ?_
  rw[jI ut _]
  refine am (m:=newList [])<|iV<|ap #[lu oS _,jX F.entry_list_iadd ?_]
  rw[jI oS _]
  have l:∀c o,s.heap.get? c=↑o->(s.heap.push 58).get? c=↑o:=λc o q=>ce _ q
  have oL:(s.heap.push 58).get? ⇑s=some 58:=ic _ rfl
  have f:(s.heap.push 58).objs.size=⇑s+1:=jK _ _
  generalize s.heap.push 58=n at l oL f ⊢
  show hX _ A.in1 (qp (.ref ⇑s) (.ref a)<|.ref ⇑s) _ _ { s with heap:=n}
  have hT:mu { s with heap:=n} (.ref a) "set":=#[_,l a _ e,rfl]
  refine am<|lj hT ?_
  have n1:lW (.ref ⇑s) (.ref a)=false:=by simp[lW,jv d]
  have n2:(kj "set" == kj "list")=false:=by decide
  have n3:(kj "set" == kj "tuple")=false:=by decide
  simp only[n1,n2,n3,sk,lA,pK]
  refine am<|X2 (s:={ s with heap:=n}) (l a _ e) K λp I2 N ae=>?_
  have j:mu { s with heap:=p} (.ref a) "set":=#[_,N a _<|l a _ e,rfl]
  refine am<|iM ?_
  refine am<|qe j G8 ?_
  generalize BZ:("set.__len__":String)=O
  dsimp only
  rw[show splitId O=some ("set","__len__") from by subst BZ;decide +kernel]
  subst BZ
  refine am<|mF (b:=true) j qc ?_
  rw[ci q0o]
  rw[gU q0s]
  refine am<|lj j<|ap ?_
  rw[gU q0s]
  refine am<|mz<|am ?_
  have y:=N _ _ oL
  have P:A.in1.handled=none:=by simp[hh]
  have ne:a≠n.objs.size:=ij<|nX d (by rw[f];exact jE _)
  have W:=(Og (prog:=r) (A:=A.in1) (ep:=I) P K ne).toS
  refine am<|qh y rfl ?_
  have B:=i8 (Obj.mapSeq (·.push Value.none)) y rfl
  refine qh B rfl ?_
  have C:=i8 (Obj.mapSeq (·.pop)) B rfl
  have J:∀c o,c≠⇑s->p.get? c=↑o->((p.update ⇑s (Obj.mapSeq (·.push Value.none))).update ⇑s (Obj.mapSeq (·.pop))).get? c=↑o :=
    λc o hc q=>(iN _ _<|Ne.symm hc).trans<|(iN _ _<|Ne.symm hc).trans q
  have R:((p.update ⇑s (Obj.mapSeq (·.push Value.none))).update ⇑s (Obj.mapSeq (·.pop))).objs.size=p.objs.size:=by rw[oT,oT]
  have T:⇑s∉[n.objs.size,a]:=by
    simp only[iD,jl,mB,qa]
    exact#[by rw[f];exact ij<|jE _,jv d]
  generalize (p.update ⇑s (Obj.mapSeq (·.push Value.none))).update ⇑s (Obj.mapSeq (·.pop))=h4 at C J R ⊢
  refine e1a3 I2 λsl z i1 i2=>?_
  have I4:SIt w n.objs.size a H I t 0 h4:=#[sl,z,J _ _ (by rw[f];exact jv<|jE _) i1,J _ _ (ij d) i2]
  refine ap #[lu qx _,codeAny_extend_loopS W (yU K.small) _ T _ H.size 0 _ _ _ rfl (jj _) I4 C (ItemsOf.nil _) λs5 U c5 L D g=>?_]
  refine am<|qX D<|ap ?_
  obtain⟨h5,g5,d5,X,Y⟩:=s5
  have eg:g5=s.gens:=L.gens
  have ed:d5=s.drawn:=L.drawn
  have eo:Y=s.os:=L.os
  subst eg ed eo
  -- aa ab
  refine e1a2 (yk (CQ w a H I).symm K.ent) λG pp pe=>?_
  have k5:∀c o,s.heap.get? c=↑o->h5.get? c=↑o:=λc o q=>L.heap c o (by
    simp only[iD,jl,mB,qa]
    exact#[ij (hV q),ij (hV (l c o q))]) (J c o (ij (hV q)) (N c o (l c o q)))
  refine h h5 X U.toList G (Av ?_ λi v hv=>?_) pp.symm k5<|mj<|hV D
  · rw[hW, g.1, <- MR pe, hW, <- hW, <- hW, (CQ w a H I).length_eq]
  · obtain⟨x, hx, rfl⟩ := g.2 i v (by rw[<- iR]; exact hv)
    obtain⟨k,hk,_,u,hu⟩:=Uu pe i x (by rw[iR];exact hx)
    exact#[k,u,hk,hu]
def CS 
 (C:∀(u:List cr->hR->Prop),(∀b e a d,lx a d->d.Perm x->(∀c o,s.heap.get? c=↑o->b.get? c=↑o)->⇑s<=b.objs.size->u a { s with heap:=b,toks:=e})->hX (hZ f w) A.in1 (collect v) u E s)
 (k:x.length<64) (h:∀b e r a d,⇑s<=r->lx a d->d.Perm x->d.Pairwise (·<=·)->(∃n,b.get? r=some 114)->(∀c o,s.heap.get? c=↑o->b.get? c=↑o)->Q (.ref r) { s with heap:=b,toks:=e}) :
    hX (hZ f w) A (call (.builtin "sorted") [v]) Q E s:=by
  refine rR kind_sorted plain_sorted entry_sorted (args_sorted1 _) ?_
  refine am (m:=checkCount "sorted" 1 1 _)<|ap ?_
  refine am<|C _ λl e a d y z B D=>?_
  have g:a.length<64:=by rw[rf y,z.length_eq];exact k
  refine am<|ue ?_
  have p:(l.push<|mJ "list" a.toArray 0).get? l.objs.size=↑(mJ "list" a.toArray 0):=ic _ rfl
  refine am<|iM<|jc slot_list_sort ⟨_,p,rfl⟩ entry_list_sort (list_sort_tree p y g λi t F G H=>#[_,rfl,?_])<|args_list_sort _
  obtain⟨I,J⟩:=sortedHeap_at (out:=i) p
  refine ap #[_,rfl,h _ e l.objs.size i.toList t D F (G.trans z) H #[I,by simpa using J] λc o q=>?_]
  have j:=hV<|B c o q
  rw[sortedHeap_old (ij j)<|by rw[tK];exact oJ j]
  exact ce _<|B c o q
def G9(j:A.handled=none)(S:wc w a f s.heap)(b:f.length<64)
 (h:∀d l r g e,⇑s<=r->lx g e->e.Perm f->e.Pairwise (·<=·)->(∃n,d.get? r=some { cls:=.type "list",data:=.seq g.toArray n})->(∀c o,s.heap.get? c=↑o->d.get? c=↑o)->Q (.ref r) { s with heap:=d,toks:=l}) :
    hX (hZ i w) A (call (.builtin "sorted") [.ref a]) Q E s :=
  CS (λ_ k=>Oh (by simp[j]) S k) b h
def FN{a:List cr}(p:s.heap.IsList l a.toArray)(b:lx a i)(d:i.length<64)
 (h:∀f t r j g,⇑s<=r->lx j g->g.Perm i->g.Pairwise (·<=·)->(∃n,f.get? r=some { cls:=.type "list",data:=.seq j.toArray n})->(∀c o,s.heap.get? c=↑o->f.get? c=↑o)->Q (.ref r) { s with heap:=f,toks:=t}) :
    hX (hZ m w) A (call (.builtin "sorted") [.ref l]) Q E s :=
  CS (λ_ k=>collect_list p (k _ s.toks _ _ b (.refl _) (λc o q=>(iN _ _ (jv (hV q))).trans (ce _ q)) (by rw[oT,tK];exact md _)) (by
    have:=rf b
    have e:(64:Nat)<=hJ:=by rw[i7];decide
    lia)) d h
end SX
namespace L2
open PySem PySem.Spec PyProof.Rows SX
def AX{a:List Int}(h:Vals (a.map V.int) b):lx b a:=intsAre_of h
def Uv(h:lx a b):Vals (b.map V.int) a:=Gj h
noncomputable def xC(w:jb)(p:gV)(a:List Int):HO:=.ext<|wc w p a
def zO(I:Inv X a c H s)(h:H p=↑(xC X.w p b)):wc X.w p b s.heap:=(I.vW p _ h).1
def Hc(x:wc w p a h):wp P w H h p (xC w p a) :=
 #[x,(e3a2 x λ_ _ _ e _=> #[_,e]),λ_ _ q k=>q.keep k]
def Jv(i:X.calm=true):y8 X (.type "set") (λe H Q=>∃(a:gV)(c:List Int),e=[.ref a]/\wD X.K H a (c.map V.int)/\c.length<=126/\∀(p:gV)(b:List Int),H p=none->b.Nodup->b.length<=c.length->(∀k,k∈b↔k∈c)->Q (.ref p) (upd H p<|xC X.w p b)):=by intro f s z H e A Q I r h;obtain⟨a,c,rfl,j,B,q⟩:=h;obtain⟨u,rfl,l⟩:=vals1 r;cases l;refine e1a3 (I.list j) λn g o C=>?_;have t:=AX g;have d:=g.length;rw[hO]at d;refine K4 (I.ok.hd i) o.isList (by simpa using t) (by rw[ie];lia) λD v b S m k=>?_;refine#[.ref ⇑s,_,I.laid (t':=v) k (gZ _)<|Hc S,rfl,q _ b (I.vW.fresh<|gZ _) S.nodup (zr _ _ S.nodup λx y=>(m x).mp y) m]
def Uw:Bb X (mM .BitXor) (λx y H Q=>∃(a b:gV)(c d:List Int),x=.ref a/\y=.ref b/\H a=↑(xC X.w a c)/\H b=↑(xC X.w b d)/\c.length+d.length<=126 /\
  ∀(p:gV)(e:List Int),H p=none->e.Nodup->(∀k,k∈e↔((k∈d/\k∉c)\/(k∉d/\k∈c)))->Q (.ref p) (upd H p (xC X.w p e))):=by
 intro f s o H x y v u Q I g i h;obtain⟨a,b,c,d,rfl,rfl,j,l,n,q⟩:=h;cases g;cases i;refine Z0 (zO I j) (zO I l) n λr e S m k=>?_;exact#[.ref ⇑s,_,I.laid (t':=s.toks) k (gZ _)<|Hc S,rfl,q _ e (I.vW.fresh<|gZ _) S.nodup m]
def BF{g:List Int}(I:Inv X b k H s)(l:g.length<64)(q:∀(p:gV)(a:List Int),H p=none->a.Perm g->a.Pairwise (·<=·)->Q (.ref p) (upd H p<|.lst<|a.map V.int)) :
  ∀(d:iX)(h:Nat)(r:gV)(f:List cr)(a:List Int),⇑s<=r->lx f a->a.Perm g->a.Pairwise (·<=·)->(∃n,d.get? r=some { cls:=.type "list",data:=.seq f.toArray n})->(∀c o,s.heap.get? c=↑o->d.get? c=↑o)->EP X b k Q (.ref r) { s with heap:=d,toks:=h}:=by
 intro d h r f a i m j t u v;obtain⟨n,e⟩:=u;have w:(64:Nat)<=hJ:=by rw[i7];decide
 exact#[.ref r,_,I.laid (t':=h) (o:=.lst<|a.map V.int) v i #[by rw[hO,j.length_eq];lia,f,n,Uv m,e],rfl,q r a (I.vW.fresh i) j t]
def B2(g:X.calm=true):y8 X (.builtin "sorted") (λe H Q=>∃(a:gV)(c:List Int),e=[.ref a]/\H a=↑(xC X.w a c)/\c.length<64/\∀(p:gV)(d:List Int),H p=none->d.Perm c->d.Pairwise (·<=·)->Q (.ref p) (upd H p<|.lst<|d.map V.int)):=by intro f s k H e l Q I r h;obtain⟨a,c,rfl,i,b,q⟩:=h;obtain⟨u,rfl,j⟩:=vals1 r;cases j;exact G9 (I.ok.hd g) (zO I i) b<|BF I b q
def Hd:y8 X (.builtin "sorted") (λe H Q=>∃(a:gV)(c:List Int),e=[.ref a]/\wD X.K H a (c.map V.int)/\c.length<64/\∀(p:gV)(d:List Int),H p=none->d.Perm c->d.Pairwise (·<=·)->Q (.ref p) (upd H p<|.lst<|d.map V.int)):=by intro f s m H e n Q I r h;obtain⟨a,c,rfl,g,b,q⟩:=h;obtain⟨u,rfl,i⟩:=vals1 r;cases i;refine e1a3 (I.list g) λj k l o=>?_;exact FN l.isList (AX k) b<|BF I b q
def Go(X:Cx)(H:Hp)(x:V)(d:PyData):Prop:=∀(a:List (gV×Obj)) (b:St) (s:hR) (u:cr),Inv X a b H s->RelV x u->∃c,Reads s.heap u d c
def Go.int(i:Int):Go X H (.int i) (.int i):=λ_ _ _ _ _ r=>by obtain⟨t,rfl⟩:=r;exact#[_,Reads.int i t]
def Gp(I:Inv X a e H s):∀{c:List V} {d:List cr} {b:List PyData},Vals c d->Paired (Go X H) c b->∃f,ReadsAll s.heap d b f:=by
 intro _ _ b z
 induction z generalizing b with
 |nil=>intro w;cases w;exact#[_,.nil]
 |cons r t g=>intro w;cases w with|cons q p =>
  obtain⟨j,h⟩:=q a e s _ I r;obtain⟨k,i⟩:=g p;exact#[_,.cons h i]
def Go.lst(h:wD X.K H a c)(p:Paired (Go X H) c d):Go X H (.ref a) (.list d):=λb m s u I r=>by
 cases r;refine e1a3 (I.list h) λe f g _=>?_;obtain⟨q,i⟩:=Gp I f p;obtain⟨o,j,k,n,l⟩:=g.isList;exact#[_,Reads.list j k l<|by simpa using i]
def Z4(X:Cx)(a:Bool):R2:=λx y H Q=>∃d e,Go X H x d/\Go X H y e/\sG d=true/\sG e=true/\pM d e=true/\Q (.bl<|if a then !PySem.Spec.same d e else lp d e) H
def X3(c:X.A.units+64<kT):Bb X (jG .Eq) (Z4 X false):=by intro a s b H x y v u Q I f g h;obtain⟨d,e,i,j,k,l,m,q⟩:=h;obtain⟨p,n⟩:=i a b s v I f;obtain⟨r,o⟩:=j a b s u I g;exact eq_dataH_same n o k l c m #[.bl _,H,I,rfl,q]
def Qk(c:X.A.units+64<kT):Bb X (jG .NotEq) (Z4 X true):=by intro a s b H x y v u Q I f g h;obtain⟨d,e,i,j,k,l,m,q⟩:=h;obtain⟨p,n⟩:=i a b s v I f;obtain⟨r,o⟩:=j a b s u I g;exact ne_dataH_same n o k l c m #[.bl _,H,I,rfl,q]
def Jw:y8 X (.builtin "isinstance") (λa H Q=>∃(x:V)(T:String)(t:cr)(b:Bool),a=[x,.ty T]/\zK X.K H x t/\qZ X.K t (.type T)=↑b/\Q (.bl b) H):=by intro c s j H a k Q I r h;obtain⟨x,T,t,b,rfl,d,e,q⟩:=h;obtain⟨u,v,rfl,f,g⟩:=vals2 r;cases g;exact NS I f d e λi=>#[.bl b,H,I.tok i,rfl,q]
def Z5:V->V->Hp->VK->Prop:=λo i H Q=>∃(p:gV)(a:List V)(k:Int)(v:V),o=.ref p/\i=.int k/\H p=↑(.lst a)/\0<=k/\a[k.toNat]?=↑v/\Q v H
def Ql:Zx X Z5:=by intro a s w H o i x y Q I c d h;obtain⟨p,z,k,v,rfl,rfl,e,f,b,q⟩:=h;cases c;obtain⟨t,rfl⟩:=d;refine e1a3 (I.list<|wD.of (K:=X.K) e) λg r j A=>?_;refine e1a2 (r.get b) λu l m=>?_;have B:=Ef;have n:=(List.getElem?_eq_some_iff.mp b).1;exact wpAny_getItem_list j.isList f q0a (by simpa using l) #[v,H,I,m,q]
noncomputable abbrev FD(X:Cx)(a:my)(d:List (Str×gV))(e:List Str)(b:hR)(c:Hp)(C:gV)(f:List gV)(g:List (gV×Obj)):Cx :=
 { X with N:=e,s₀:=b,H₀:=c,env:=tL a d C X.env,outer:=X.stack,stack:=X.stack,ex:=f,fn:=λ_=>false,pn:=g,xe:=λ_ _=>False}
structure zj(X:Cx)(scope:my)(cl:List (Str×gV))(T Fr:List Str)(idx:List Nat):Prop where
 kind:scope.kind=.function
 Z6:oP scope X.env=pure cl
 BG:∀y∈scope.names,y.2≠.cell
 names:∀y∈scope.names,y.2=.local->scope.names.lookup y.1=some .local
 sub:∀x c,cl.lookup x=↑c->X.env.cells.lookup x=↑c
 frl:∀y∈scope.names,y.2=.free->∃c,cl.lookup y.1=↑c
 fr:∀(j:Nat)(x:Str),Fr[j]?=↑x->∃i c,idx[j]?=↑i/\X.N[i]?=↑x/\(X.env.kindOf x=some .cell\/X.env.kindOf x=some .free)/\cl.lookup x=↑c/\((o9 scope X.env).names.lookup x=some .cell\/(o9 scope X.env).names.lookup x=some .free)
 len:idx.length=Fr.length
noncomputable def xI(T:List Str)(a:List Nat)(b:St):St:=T.map (λ_=>none)++a.map λi=>b[i]?.join
def lookup_mem{β:Type}:∀{l:List (Str×β)} {x:Str} {v:β},l.lookup x=↑v->(x,v)∈l:=by
 intro l
 induction l with
 |nil=>intro _ _ h;cases h
 |cons p r ih =>
  intro x v h;obtain⟨y,z⟩:=p;rw[iO]at h
  cases q:x==y with
  |true =>
   rw[q]at h;cases h;rw[eq_of_beq q];exact gY
  |false =>
   rw[q]at h;exact hI _<|ih h
def zj.has{l:List Str}(B:zj X a m T l idx)(h:(o9 a X.env).names.lookup x=some .cell\/(o9 a X.env).names.lookup x=some .free):∃c,m.lookup x=↑c:=by
 have d:∃k,(x,k)∈(o9 a X.env).names/\(k=.cell\/k=.free):=by
  rcases h with h|h
  ·exact#[_,lookup_mem h,.inl rfl]
  ·exact#[_,lookup_mem h,.inr rfl]
 obtain⟨k,d,o⟩:=d;obtain⟨⟨n,f⟩,i,e⟩:=List.mem_map.mp d;dsimp only at e
 have:n=x/\f=.free:=by
  by_cases b:(f==NameKind.free&&X.env.scope.kind==ScopeKind.function&&X.env.kindOf n==↑NameKind.cell)=true
  ·rw[gU b]at e;have g:n=x:=congrArg Prod.fst e;simp only[iU,beq_iff_eq]at b;exact#[g,b.1.1]
  ·rw[ci b]at e;have g:n=x:=congrArg Prod.fst e;have j:f=k:=congrArg Prod.snd e;rcases o with q|q
   ·exact ii (j.trans q)<|B.BG _ i
   ·exact#[g,j.trans q]
 obtain⟨rfl,rfl⟩:=this;exact B.frl _ i rfl
def yi.WJ(x:yi P w H h)(f:H a=none)(d:wp P w (upd H a o) h a o):yi P w (upd H a o) h:=λb u e=>by
 by_cases g:b=a
 ·subst g;rw[vh]at e;cases e;exact d
 ·rw[ve g]at e;exact(x b u e).DB (λ_ _ _ q=>q) (λc q=>by rw[ve<|vq q f];exact q) λc i q=>by rw[ve<|vq q f];exact q
section
variable{X:Cx}{elt iter tg:iT}{scope:my}{cl:List (Str×gV)}{T Fr:List Str}{idx:List Nat}{wi:TI}{g:TG}{tt:TT}{te:TE}{pos:Pos}{ifs:List iT}
def X4(X:Cx)(ifs:List iT)(tt:TT):Prop:=∀(a:List (gV×Obj)) (s:hR) (b:St) (H:Hp) (Q:Bool->Hp->Prop),Inv X a b H s->tt b H Q ->
 hX 28 X.A (forIn ifs true λc r=>if r=true then do let ok <- qW c X.env (eval c X.env);pure (m7 ok) else pure (m7 r)) (TP X a b Q) X.xe s
def Ux:X4 X [] (λ_ H Q=>Q true H):=λ_ _ _ H _ I h=>sH #[H,I,h]
def Uy(h:PT X c b):X4 X [c] b:=λa s d H Q I q=>wpAny_tests_one<|h a s d H Q I q
def Qm(u:Nat->hR->Prop)
 (y:∀n s,u n s->hX (hZ a w) A (pyNext H) (λr b=>match r with
 |none=>R (.ok .next) b
 |some v=>hX (hZ a w) A (sE target H v) (λ_ f=>hX (hZ a w) A (sV target e v) (λ_ i =>
 hX (hZ a w) A (forIn ifs true λc r=>if r=true then do let z <- qW c e (eval c e);pure (m7 z) else pure (m7 r)) (λz d =>
 if z=true then hX (hZ a w) A (eval elt e) (λx j=>hX (hZ a w) A (call (.builtin "list.append") [G,x]) (λ_ k=>∃m,m<n/\u m k) (λ_ _=>False) j) (λ_ _=>False) d
 else ∃m,m<n/\u m d) (λ_ _=>False) i) (λ_ _=>False) f) (λ_ _=>False) b) (λ_ _=>False) s)
 (n:Nat) (h:u n s):mS (hZ a w) A (.compLoop (.ListComp elt [#[target,iter,ifs,0]] scope pos) 0 H G e) R s:=by
  refine codeAny_loop rfl u (λn s J=>?_) n h
  refine wpAny_noted ?_
  rw[compTurn_list]
  have l:∀{I:Type} {t:Sem I} {Q:I->hR->Prop} {E:cr->hR->Prop} {s:hR},hX (hZ a w) A t Q (λ_ _=>False) s->hX (hZ a w) A t Q E s:=λh=>jm h (λ_ _ q=>q) λ_ _ q=>q.elim
  refine am<|nS<|am<|l<|vU (y n s J) λr b o=>?_
  cases r with
  |none=>exact l<|ap o
  |some v =>
    refine am<|l<|vU o λ_ f B=>am<|l<|vU B λ_ i C=>am<|l<|vU C λz d p=>?_
    cases z with
    |false=>exact l<|ap #[rfl,p]
    |true=>exact am<|am<|l<|vU p λx j D=>am<|l<|vU D λ_ k F=>ap<|ap #[rfl,F]
end
structure X5(X:Cx)(c P:gV):Prop where
 code:X.env.code=.ref c
 hd:rg X.base c P
 blt:∃bm ob,X.mg "__builtins__"=↑(.ref bm)/\bm≠oM/\X.base.get? bm=↑ob/\ob.cls=.type "module"/\ob.dict=↑oM/\ob.data=.plain
def TabAt(H:Hp)(P:gV):Prop:=∃a,H P=↑(.FC a)/\uu a.toList
def B3{a b:Int}:∀(l:List cr),uu l->uu (l++[.int a 0,.int b 0,c])
 | [],_=>trivial
 | .int _ _::.int _ _::_::r,h=>B3 r h
noncomputable def zP(a b:List Int):Bool:=(a.zip b).all λp=>decide<|p.1<p.2
def Uz(a b:List Int):(iA<|min a.length b.length).all (λj=>decide<|a.getD j 0<b.getD j 0)=zP a b:=by
 unfold zP;rw[lF,oU,oU];constructor
 ·intro h p f;obtain⟨j,c⟩:=lY f;obtain⟨d,e⟩:=List.getElem?_zip_eq_some.mp c;have l:=(List.getElem?_eq_some_iff.mp d).1;have m:=(List.getElem?_eq_some_iff.mp e).1;have:=h j<|List.mem_range.mpr q0a;rw[jy,jy,d,e]at this;exact this
 ·intro h j c;have c:=List.mem_range.mp c;have g:a[j]?=↑(a.getD j 0):=by rw[jy,jD q0a];rfl
  have i:b[j]?=↑(b.getD j 0):=by rw[jy,jD q0a];rfl
  have k:(a.zip b)[j]?=↑(a.getD j 0,b.getD j 0):=List.getElem?_zip_eq_some.mpr #[g,i];exact h _<|jW k
def K6(S:Hp->gV->List V->Prop)(P:gV)(g:TA):TE:=λh H Q=>g h H λi c=>∃(a b:gV)(e f:List Int),i=[.ref a,.ref b]/\S c a (e.map V.int)/\S c b (f.map V.int)/\TabAt c P /\
 ∀d,(∀b o,b≠P->c b=↑o->d b=↑o)->(∀b,b≠P->c b=none->d b=none)->TabAt d P->Q (.bl<|zP e f) d
abbrev Z7(K:gW)(P:gV)(a:TA):TE:=K6 (wD K) P a
abbrev X6(K:gW)(P:gV)(a:TA):TE:=K6 (zn K) P a
structure Qn(X:Cx)(S:Hp->gV->List V->Prop)(P:gV):Prop where
 go:∀{pins:List (gV×Obj)} {σ:St} {H1:Hp} {s1:hR} {a b:gV} {us vs:List V} {ps:Array cr},Inv X pins σ H1 s1->X.A.handled=none->S H1 a us->S H1 b vs->H1 P=↑(.FC ps) ->
  ∃ia ib:List cr,Vals us ia/\Vals vs ib/\a<⇑s1/\b<⇑s1/\a≠P/\b≠P/\∀(Q:cr->hR->Prop)(E:cr->hR->Prop),
   (∀h2 St Mid,(∀A':jF,A'.handled=none->WalksU X.prog X.w A' (⇑s1+4) [⇑s1+4,⇑s1+2,⇑s1+3,⇑s1,⇑s1+1,a,b] [⇑s1+4,⇑s1+3,⇑s1,⇑s1+1] (min ia.toArray.size ib.toArray.size) (λi vals=>∃x y,ia.toArray[i]?=↑x/\ib.toArray[i]?=↑y/\vals=#v[x,y]) St Mid) ->
    St 0 h2->h2.objs.size=⇑s1+5->(∀c o,s1.heap.get? c=↑o->h2.get? c=↑o)->Q (.ref (⇑s1+4)) { s1 with heap:=h2})->hX 28 X.A (call (.type "zip") [.ref a,.ref b]) Q E s1
def Inv.tabled{s':hR}(I:Inv X d l H s)(h:H P=↑(.FC j))(m:s'.os=s.os)(p:nQ s'.gens)
 (k:∀b o,b≠P->s.heap.get? b=↑o->s'.heap.get? b=↑o)(e:s'.heap.get? P=some { cls:=.none,data:=.fields (j++more)}):Inv X d l (upd H P<|.FC<|j++more) s':=by
  have i:∀b,H b=none->b≠P:=λb n z=>by rw[z,h]at n;cases n
  have g:∀b u,H b=↑u->(∀q,u≠.FC q)->b≠P:=λb u n f z=>by rw[z,h]at n;cases n;exact f _ rfl
  refine I.Wr (ch:=[]) m #[λb o q n _ _=>k b o (i b n) q,λb o q n _ _=>#[o.slots,k b o (i b n) q],λb o q n _=>by rw[ve<|i b n];exact n,λb o q _=>?_,λb r q=>by rw[ve<|g b _ q<|λ_ z=>nomatch z];exact q,λb o u q=>by rw[ve<|g b _ q<|λ_ z=>nomatch z];exact q,λb w q=>?_] (λb u q=>?_) p λb a=>by cases a
  · by_cases a : b = P
    · rw[a]; exact#[_, e]
    · exact#[o, k b o a q]
  · by_cases a : b = P
    · subst a
      rw[h]at q
      cases q
      exact#[more,vh]
    · exact#[#v[], by rw[ve a, q]; simp]
  · by_cases a : b = P
    · subst a
      rw[vh]at q
      cases q
      exact e
    · rw[ve a]at q
      refine(I.vW b u q).DB (λc v t z=>k c v ?_ z) (λc z=>by rw[ve<|g c _ z<|λ_ y=>nomatch y];exact z) λc r z=>by rw[ve<|g c _ z<|λ_ y=>nomatch y];exact z
      rcases t with y|y
      · rw[y]; exact a
      · exact g c _ y<|λ_ x => nomatch x
def Qo{s:hR}{a:Env}{i j:Int}(d:a.scope.kind=.function)(g:a.kindOf b=some .local)(k:a.kindOf c=some .local)(e:s.heap.Ns a.locals m)
 (l:m b=↑(.int i t))(n:m c=↑(.int j u))(o:(b==66)=false)(p:(c==66)=false)(h:Q (.bool<|decide<|i<j) s):hX (hZ f w) A (eval (.Compare (.Name b q) [.Lt] [.Name c r] v) a) Q E s:=by
  refine sU (pV (k8 d g e l<|pV (k8 d k e n<|lt_int h) p) o)<|v0 _
def Jx(Z:Qn X S P)(aC:X.calm=true)(G:X5 X c P)(ae:X.A.depth<sX)(aD:Gl X "all")(aj:X.mg "all"=none)(aE:Gl X "zip")(aF:X.mg "zip"=none)(af:PA X [e1,e2] ta)
 (hk:n.kind=.function) (aG:n.isCoroutine=false) (ag:oP n X.env=pure []) (ah:∀y∈n.names,y.2≠.cell) (h0:n.names.lookup (".0":Str)=↑NameKind.local) (ao:n.names.lookup xa=some .local) (aq:n.names.lookup xb=some .local) (aH:xa≠xb)
 (da:(xa==66)=false) (db:(xb==66)=false)
 (aI:gX [e1,e2] X.env=(false,eval e1 X.env)::gX [e2] X.env:=by rfl) (aJ:(jx p3<|gX [e2] X.env).any (·.1)=false:=by rfl) :
    PE X (.Call (.Name "all" p1) [.GeneratorExp (.Compare (.Name xa q1) [.Lt] [.Name xb q2] q3) [#[.Tuple [.Name xa pa,.Name xb pb] kt pt,.Call (.Name "zip" p2) [e1,e2] [] p3,[],0]] n E] [] p4) (K6 S P ta):=by
  intro p s σ H Q I h
  have hh:X.A.handled=none:=I.ok.hd aC
  refine kU<|zF I aD aj boot_all<|pS ?_ rfl rfl
  refine kf<|wpAny_GeneratorExp_walksQTD hh aG ag ah h0 ao aq aH hk ae (kU<|zF I aE aF boot_zip<|kh (vU (af p3 p s σ H _ I h) λus m z9=>e2a3 z9 λvs H1 I1 r1 q1=>?_) aI aJ)<|λ_=>rfl
  obtain⟨a,b,ns,ms,rfl,ha,f,⟨U,hP,tr⟩,q⟩:=q1
  obtain⟨ua,ub,rfl,ra,rb⟩:=vals2 r1
  cases ra
  cases rb
  obtain⟨ia,ib,va,vb,aK,aL,aP,bP,aM⟩:=Z.go I1 hh ha f hP
  have B:m.heap.get? P=↑(rh U):=I1.vW P _ hP
  have ar:P<⇑m:=hV B
  refine aM _ _ λh2 St au W av aN k2=>?_
  refine(W X.A hh).self 0 { m with heap:=h2} _ _ av ?_
  have I2:Inv X p σ H1 { m with heap:=h2}:=I1.kept (t':=m.toks) k2
  refine#[I2.nolimit,?_]
  have aw:rg h2 c P:=G.hd.keeps λb o e=>I2.bk b o e
  have ax:=aw.code (k2 P _ B) tr
  have aO:=aw.tab<|k2 P _ B
  obtain⟨bm,ob,b1,b2,b3,b4,b5,b6⟩:=G.blt
  -- an the J: the uo is U++l,all else is kept
  have Y:∀(J:cr)(D:iX)(R:Nat)(l:Array cr),(∀b o,b≠P->h2.get? b=↑o->D.get? b=↑o)->h2.objs.size<=D.objs.size->D.get? P=some { cls:=.none,data:=.fields (U++l)}->uu (U++l).toList ->
      hX 28 X.A (builtinsFor X.env.globals X.env.builtins) (λbi d=>∃I fp wr r Pt L au pz F,iq (⇑m+4)=.ref I/\(∀A':jF,A'.handled=none->WalksU X.prog X.w A' I fp wr r Pt L au)/\(∀i M,Pt i M->∃va vb,M=#v[va,vb])/\L 0 d.heap/\(∀b∈fp,b<⇑d)/\d.heap.NoLimit/\rJ∉wr /\
          (∀N:iX,(∀b o,d.heap.get? b=↑o->N.get? b=↑o) ->
            QuietGenTD X.prog X.w (genEnv n [] ⇑d J bi X.env) xa xb [] (.Compare (.Name xa q1) [.Lt] [.Name xb q2] q3) (iA ⇑d) wr Pt pz F N (X.A.depth+1) (X.A.units+8)) /\
          (∀a C R gs,gs.bare=true->⇑d<a->C.objs.size=a+1->(∀b o,d.heap.get? b=↑o->C.get? b=↑o) ->
            WalksS X.prog X.w X.A.in4 a (a::⇑d::iA ⇑d) (⇑d::wr) (GenOnlyQ d.gens.size) (passing pz r 0).length
              (λj y=>∃i,(passing pz r 0)[j]?=↑i/\F i y) (GenAt X.prog X.w X.A.in4 a d.gens.size ⇑d (iA ⇑d) wr pz r F) ->
            GenAt X.prog X.w X.A.in4 a d.gens.size ⇑d (iA ⇑d) wr pz r F 0 { d with gens:=d.gens.push gs,toks:=R,heap:=C} ->
            hX 28 X.A (uD []) (λus ak=>hX 28 X.A (call (.builtin "all") (.ref a::us)) (EP X p σ Q) X.xe ak) X.xe { d with gens:=d.gens.push gs,toks:=R,heap:=C})) X.xe { m with heap:=D,toks:=R}:=by
    intro J D R l k3 aQ e3 aR
    have I3:Inv X p σ (upd H1 P<|.FC<|U++l) { m with heap:=D,toks:=R}:=Inv.tabled (s:={ m with heap:=h2}) (s':={ m with heap:=D,toks:=R}) I2 hP rfl I2.bare k3 e3
    have ay:=I3.bk
    refine wpAny_builtinsFor (by rw[I3.ok.glob];exact I3.mod.glob.keeps ay) b1 b2 (ay _ _ b3) b4 b5 b6 ?_
    have nz:∀k,⇑m+k≠P:=λk=>jv<|iu ar<|oX _ _
    have aS:rJ<⇑m:=by obtain⟨mc,hn,_⟩:=I1.nolimit;exact hn.lt
    have aa:=va.length
    have ab:=vb.length
    rw[hO]at aa ab
    have aT:∀(i:Nat)(x:cr),ia.toArray[i]?=↑x->∃t,x=.int (ns.getD i 0) t:=λi x hx=>rc (AX va) i x (by simpa using hx)
    have aU:∀(i:Nat)(x:cr),ib.toArray[i]?=↑x->∃t,x=.int (ms.getD i 0) t:=λi x hx=>rc (AX vb) i x (by simpa using hx)
    have u:∀k,k<5->⇑m+k<D.objs.size:=λk hk=>iu (Nat.add_lt_add_left hk _)<|iK (qL aN.symm) aQ
    refine#[_,_,_,_,_,_,_,(λ_=>true),(λi y=>y=.bool (decide<|ns.getD i 0<ms.getD i 0)),rfl,W,λi M z9=>e2a3 z9 λx y _ _ e=>#[x,y,e],(W X.A hh).frame _ _ _ av λb f o e=>k3 b o ?_ e,λb f=>?_,I3.nolimit,?_,λN a1=>?_,λg h5 aV gs gb g1 g2 k5 WS GA=>?_]
    · simp only[iD, jl, mB]at f
      rcases f with z|z|z|z|z|z|z<;>rw[z]
      · exact nz 4
      · exact nz 2
      · exact nz 3
      · exact nz 0
      · exact nz 1
      · exact aP
      · exact bP
    · simp only[iD, jl, mB]at f
      rcases f with z|z|z|z|z|z|z<;>rw[z]
      · exact u 4 q0q
      · exact u 2 q0q
      · exact u 3 q0q
      · exact u 0 q0q
      · exact u 1 q0q
      · exact nX aK<|u 0 q0q
      · exact nX aL<|u 0 q0q
    · intro f
      simp only[iD,jl,mB]at f
      have T:∀k,rJ≠⇑m+k:=λk=>ij<|iu aS<|oX _ _
      rcases f with z|z|z|z
      · exact T 4 z
      · exact T 3 z
      · exact T 0 z
      · exact T 1 z
    · refine#[λA' E' i az aA s2 m2 _ _ _ _ _ _ _ _ => sH #[rfl, s2.heap, s2.toks, rfl, λ_ _ e => e], λA' E' i az aA s2 m2 hA _ _ aW _ hn aj aX _ => ?_]
      obtain⟨x,y,hx,hy,e⟩:=aW
      obtain⟨ex,ey⟩:az=x/\aA=y:=by simpa using congrArg sC e
      subst ex ey
      obtain⟨t1,rfl⟩:=aT i _ hx
      obtain⟨t2,rfl⟩:=aU i _ hy
      exact Qo hk ao aq hn aj aX da db #[rfl,s2.heap,s2.toks,rfl,λ_ _ e=>e]
    · have ai : passing (λ_ => true) (min ia.toArray.size ib.toArray.size) 0 = iA (min ia.toArray.size ib.toArray.size) := by
        unfold passing
        simp
      rw[ai]at WS
      have W1:=WS.in4_1
      refine lH<|call_all_walkS<|W1.self 0 _ _ _ GA ⟨g,_,_,_,_,_,_,(λj=>decide<|ns.getD j 0<ms.getD j 0),rfl,W1,GA,λj v s7 Q' E' hv hq=>?_,λs7 mv=>?_⟩
      · obtain⟨i, hi, rfl⟩ := hv
        have:i=j:=by
          obtain⟨hl,he⟩:=List.getElem?_eq_some_iff.mp hi
          rw[List.getElem_range]at he
          exact he.symm
        subst this
        exact kC hq
      · have k7 : ∀b o, b<D.objs.size -> (∀k, b ≠ ⇑m+k) -> D.get? b = some o -> s7.heap.get? b = some o := λb o f hn e => mv.heap b o (by
          simp only[iD,jl,mB,qa]
          exact#[ij f,hn 4,hn 3,hn 0,hn 1]) (k5 b o e)
        have O:∀b,b<⇑m->∀k,b≠⇑m+k:=λb f k=>ij<|iu f<|oX _ _
        have e7:s7.heap.get? P=some { cls:=.none,data:=.fields (U++l)}:=k7 P _ (hV e3) (O P ar) e3
        have I7:Inv X p σ (upd H1 P<|.FC<|U++l) s7:=Inv.tabled I1 hP mv.os (AllBare.movedS (s:={ m with heap:=h5,gens:=m.gens.push gs,toks:=aV}) (I1.bare.push gb) mv) (λb o f e=>k7 b o (hV<|k3 b o f<|k2 b o e) (O b<|hV e)<|k3 b o f<|k2 b o e) e7
        refine#[.bl _,_,I7,rfl,?_]
        have al:(iA (iA<|min ia.toArray.size ib.toArray.size).length).all (λj=>decide<|ns.getD j 0<ms.getD j 0)=zP ns ms:=by
          rw[lP,ie,ie,<- aa,<- ab]
          exact Uz ns ms
        rw[al]
        exact q _ (λb o f e=>by rw[ve f];exact e) (λb f e=>by rw[ve f];exact e) #[_,vh,aR]
  cases aB:codeAmong E U.toList with
  |none =>
    refine wpAny_genexprCodeX G.code ax aO aB λc' D R hx aY aZ _ _ a0 _=>?_
    refine Y (.ref c') D R #v[l9 E.line,l9 E.col,.ref c'] (λb o f e=>hx b o f e) (iK aY<|mj aZ) a0.2 ?_
    rw[pZ]
    exact B3 _ tr
  |some cv =>
    refine wpAny_genexprCode_hit G.code ax aB ?_
    have:=Y cv h2 m.toks #v[] (λb o _ e=>e) (gZ _) (by simpa using k2 P _ B) (by simpa using tr)
    exact this
def a2f:Qn X (wD X.K) P:=#[λ{v M H1 j a b N O A} m R B C D=>by
 refine e1a3 (m.list B) λx F d S=>?_;refine e1a3 (m.list C) λy G f T=>?_;have i:j.heap.get? P=↑(rh A):=m.vW P _ D
 have h:∀(l:gV)(g:Array cr),j.heap.IsList l g->l≠P:=λl g n=>e1a3 n λo e c _ z=>by rw[z,i]at e;cases e;cases c
 have k:∀(l:gV)(g:Array cr),j.heap.IsList l g->l<⇑j:=λl g n=>e1a2 n λo e _=>hV e;refine#[x,y,F,G,k _ _ d.isList,k _ _ f.isList,h _ _ d.isList,h _ _ f.isList,λQ E H=>call_zip_2 d.isList f.isList λI J p q r s t u=>?_]
 exact H I _ _ (λU L=>(WalksT.zip2 (prog:=X.prog) (w:=X.w) L _ _ _ _ _ _ _ (zipApart_new (k _ _ d.isList) (k _ _ f.isList)) x.toArray y.toArray).toU) #[J,p,#[_,_,q],r,s,d.isList.at λo e=>u _ o e,f.isList.at λo e=>u _ o e] t u]
def Oi{K:gW}{k:Nat}{f:hR}{C:List cr} 
 (KX:K.In f.heap) (I:f.heap.Ns il U) (hb:f.heap.Ns oM mb) (ab:∀x:Str,x≠"__name__"->mb x=nc x) (J:f.heap.NoLimit) (hg:f.gens=#v[])
 (D:f.heap.get? a=some { cls:=.type "list",data:=.seq C.toArray}) (hi:lx C X) (hl:X.length<=hJ) (hr:wI k rF)
 (hT:f.heap.TableAt c tab #v[]) (ae:K.lookup tab=none)
 (F:∀base:iX,K.In base->base.Ns il U->(∀b o,f.heap.get? b=↑o->o.cls≠.type "list"->o.cls≠.none->base.get? b=↑o)->vR P w K U base CX k fa fd [x] sp) (E:∀(s:hR)(u:cr),sN s fd #[[u],[]] [(x,u)])
 (af:∀H:Hp,wD K H a (X.map V.int)->H tab=↑(.FC #v[])->sp [.ref a] H (λv _=>v=.bl true) λ_ _ _=>False)
 (ag:∀H e j,CX [] H f (λ_ _ _=>False) e j->False) :
    mS (hZ P w) rF (.call (.ref fa) #[[.ref a],[]]) (λr j=>r=.ok (.ret<|.bool true)/\OldK f.heap j.heap/\j.os=f.os/\nQ j.gens) f:=by
  have rv:=Gj hi
  have L:=hi.length
  have l:f.heap.get? tab=some { cls:=.none,data:=.fields #v[]}:=hT.2
  have nat:a≠tab:=λz=>by rw[z,l]at D;cases D
  -- from an abstract ah in aa nothing ai the Y and the uo aj be M
  have core:∀H:Hp,(∀b,H b=none\/(b=a/\∃o xs,H b=↑(.Km o<|.lst xs))\/(b=tab/\H b=↑(.FC #v[])))->wD K H a (X.map V.int)->H tab=↑(.FC #v[])->yi P w H f.heap->(H a≠none->K.lookup a=none) ->
      mS (hZ P w) rF (.call (.ref fa) #[[.ref a],[]]) (λr j=>r=.ok (.ret<|.bool true)/\OldK f.heap j.heap/\j.os=f.os/\nQ j.gens) f:=by
    intro H Z hS N O hK
    have freeOf:∀{b:gV} {o:Obj},f.heap.get? b=↑o->o.cls≠.type "list"->o.cls≠.none->H b=none:=λ{b o} e c1 c2=>by
      rcases Z b with z|⟨z,_⟩|⟨z,_⟩
      · exact z
      · rw[z, D]at e; cases e; exact ii rfl c1
      · rw[z, l]at e; cases e; exact ii rfl c2
    have y:∀{b:gV} {m:Str->Option cr},f.heap.Ns b m->(IV f.heap H).Ns b m:=λ{b m} z9=>e3a3 z9 λo es ep e d r=>by
      refine#[o,es,ep,Ea e ?_,d,r]
      rcases Z b with z|⟨z,_⟩|⟨z,_⟩
      · exact z
      · rw[z, D]at e; cases e; have d' : Data.seq C.toArray _ = Data.dict es ep := d; cases d'
      · rw[z, l]at e; cases e; have d' : tR #v[] = Data.dict es ep := d; cases d'
    have Q:K.In (IV f.heap H):=λb o e=>Ea (KX b o e) (by
      rcases Z b with z|⟨z,_,_,z2⟩|⟨z,_⟩
      · exact z
      · rw[z]at e z2; rw[hK<|by rw[z2]; simp]at e; cases e
      · rw[z, ae]at e; cases e)
    have hM:Mod K U (IV f.heap H):=#[Q,y I,#[mb,y hb,ab],e1a2 J λmc h1 h2=> #[mc,y h1,h2]]
    have e0:Jg P w K U (IV f.heap H) rF [] f H:=#[rfl,hM,λb o e=>TY e,qL<|NJ _ _,trivial,λb hb=>ii (show b∈([]:List gV) from hb) q0o,O,.of_eq hg]
    refine j7 ((F _ Q (y I) λb o e c1 c2=>Ea e<|freeOf e c1 c2).run rF [] f H ⟨[.ref a],[]⟩ [.ref a] [.ref a] _ _ hr e0 (E f<|.ref a) (.cons rfl .nil)<|af H hS N) λr j h=>?_
    cases r with
    |error e=>exact(ag H e j h).elim
    |ok fl =>
      cases fl with
      |next=>exact iL h
      |brk=>exact iL h
      |cont=>exact iL h
      |ret u =>
        obtain⟨v,H',os,R,un,B,r',q⟩:=h
        have q':v=.bl true:=q
        subst q'
        obtain rfl:u=rC true:=r'
        have G:∀b o,f.heap.get? b=↑o->H b=none->j.heap.get? b=↑o:=λb o e n=>un.keep b o e n (by intro z;exact ii (show b∈([]:List gV) from z) q0o) q0o
        obtain⟨more,hm⟩:=un.Bw tab _ N
        have S:j.heap.get? tab=some { cls:=.none,data:=.fields (#v[]++more)}:=B tab _ hm
        have p:∀b o,f.heap.get? b=↑o->b≠tab->j.heap.get? b=↑o:=λb o e n=>by
          rcases Z b with z|⟨_,ob,xs,z⟩|⟨z,_⟩
          · exact G b o e z
          · have z2 := un.Bv b ob _ z
            obtain⟨e1,_⟩:=O b _ z
            obtain⟨e2,_⟩:=B b _ z2
            rw[e]at e1;cases e1
            exact e2
          · exact ii z n
        refine#[rfl,#[λb o e=>?_,λb o e=>?_],os,R]
        · by_cases t : b = tab
          · subst t
            rw[l]at e
            cases e
            exact .inr<|.inl #[hT.isCodeTable,rfl,#v[],more,rfl,S]
          · exact .inl<|p b o e t
        · by_cases t : b = tab
          · rw[t]; exact#[_, S]
          · exact#[o, p b o e t]
  have T:∀H:Hp,wp P w H f.heap tab (.FC #v[]):=λH=>l
  cases hk:K.lookup a with
  |some o =>
    have e:=KX a o hk
    rw[D]at e
    cases e
    refine core (λb=>if b=tab then some (.FC #v[]) else none) (λb=>?_) (.inr #[_,C.toArray,_,hk,rfl,rfl,rfl,by rw[ie,L];exact hl,by simpa using rv]) (gU rfl) (λb u z=>?_) λz=>ii (ci nat) z
    · by_cases g : b = tab
      · exact .inr<|.inr #[g, gU g]
      · exact .inl<|ci g
    · by_cases g : b = tab
      · have A := (gU g).symm.trans z
        cases A
        rw[g]
        exact T _
      · have A := (ci g).symm.trans z
        cases A
  |none =>
    refine core (λb=>if b=tab then some (.FC #v[]) else if b=a then some (.Km { cls:=.type "list",data:=.seq C.toArray} (.lst<|X.map V.int)) else none) (λb=>?_) (.inl<|.inr ⟨{ cls:=.type "list",data:=.seq C.toArray},(ci nat).trans<|gU rfl⟩) (gU rfl) (λb u z=>?_) λ_=>hk
    · by_cases g : b = tab
      · exact .inr<|.inr #[g, gU g]
      · by_cases i : b = a
        · exact .inr<|.inl #[i, _, _, (ci g).trans<|gU i]
        · exact .inl<|(ci g).trans<|ci i
    · by_cases g : b = tab
      · have A := (gU g).symm.trans z
        cases A
        rw[g]
        exact T _
      · by_cases i : b = a
        · have A := ((ci g).trans<|gU i).symm.trans z
          cases A
          subst i
          exact#[D,by rw[hO];exact hl,C,_,rv,D]
        · have A := ((ci g).trans<|ci i).symm.trans z
          cases A
structure Jy(mg:Str->Option cr)(base:iX)(c tab:gV):Prop where
 hd:rg base c tab
 blt:∃bm ob,mg "__builtins__"=↑(.ref bm)/\bm≠oM/\base.get? bm=↑ob/\ob.cls=.type "module"/\ob.dict=↑oM/\ob.data=.plain
def Qp{l:qO}{n k:Nat}{p:List Str}{XP:(Str->Option cr)->iX->Prop}{YP:jb->iX->Prop}{d:DefRec}{K:Params->gW}{sp:jb->gW->gV->Sp} 
 (hn:l.most=↑n) (L:n<=hJ) (M:d.params.defaults=[]) (hr:wI k rF)
 (hY:∀(w:jb)(h:iX),YP w h->(K w.params).In h) (z:(recsOf q).find? (λe=>e.name==tx)=↑dx)
 (F:∀(w:jb)(r:Str->Option cr)(I:gV)(h:iX),(K w.params).In h->h.Ns il r->r d.name=↑(.ref I) ->
 ∃(c j:gV)(N:iQ),oo (K w.params) tx=↑(c,j)/\(K w.params).lookup j=none/\(∀(s:hR)(u:cr),sN s N #[[u],[]] [(x,u)]) /\
 ∀i:iX,(K w.params).In i->i.Ns il r->Jy r i c j->vR l.prog w (K w.params) r i CX k I N [x] (sp w (K w.params) j))
 (O:∀(w:jb)(K:gW)(H:Hp)(a j:gV)(J:List Int),J.length<=n->wD K H a (J.map V.int)->H j=↑(.FC #v[])->sp w K j [.ref a] H (λv _=>v=.bl true) λ_ _ _=>False)
 (P:∀(H:Hp)(s:hR)(e:cr)(Q:hR),CX [] H s (λ_ _ _=>False) e Q->False) :
    uW q p XP YP l.row.toRowW d [] (λf vs=>uc f vs):=by
  refine Att.Jo hn M λw ab A r mb I o pm cd ae a vs J G Y ho hd af R B t m hg=>?_
  have S:=hY w _ Y
  obtain⟨c,j,N,ht,U,hb,hF⟩:=F w r I _ S G.T.g R
  obtain⟨C,hP⟩:=PySem.W.tab_of G.T S z ht
  obtain⟨bm,ob,b1,b2,b3,X,b5,b6⟩:=G.T.bmain
  refine Oi S G.T.g G.T.b G.T.builtins G.T.nolimit hg B t (iK m L) hr (C.tab hP) U (λi kb nb bk=>hF i kb nb #[?_,bm,ob,b1,b2,bk _ _ b3 (by rw[X];simp) (by rw[X];simp),X,b5,b6]) hb (λH hS hH=>O w _ H a j J m hS hH) λH e Q=>P H A e Q
  obtain⟨o,Z,D,tf,y,tg,aa,E,tt,e1,r1,r2⟩:=C
  exact#[o,Z,D,tf,y,tg,aa,E,tt,bk _ _ e1 (by rw[r1];simp) (by rw[r1];simp),r1,r2]
end L2
namespace SX
open PySem PyProof.Rows
def a2g{k:Int}(S:wc w a c s.heap)(h:Q (.bool<|decide<|k∈c) 99):hX (hZ b w) A (jG .In (.int k u)<|.ref a) Q E s :=
 wpAny_inSet_of (knd:=kM b w) (k:=k) (qb _ _ _ _) rfl S.of h
def X7{k:Int}(S:wc w a d s.heap)(room:d.length+1<=127)
 (h:∀c b e,jg a s.heap c->wc w a b c->b.Perm (if k∈d then d else k::d)->Q .none { s with heap:=c,toks:=e}) :
    hX (hZ f w) A (call (.builtin "set.add") [.ref a,.int k u]) Q E s:=by
  refine jc F.slot_set_add S.typeIs F.entry_set_add ?_<|F.args_set_add_2 _ _
  show hX _ _ (pN "add" #[[.ref a,.int k u],[]] >>= _) _ _ _
  refine am<|am<|ap<|ap<|am ?_
  refine WG S room λc b e g i p _=>ap #[_,rfl,h c b e g i p]
def UA{k:Int}(S:wc w a e s.heap)
 (h:∀c b f,jg a s.heap c->wc w a b c->(if k∈e then e.Perm (k::b) else b=e)->Q .none { s with heap:=c,toks:=f}) :
    hX (hZ d w) A (call (.builtin "set.discard") [.ref a,.int k u]) Q E s:=by
  refine jc F.slot_set_discard S.typeIs F.entry_set_discard ?_<|F.args_set_discard_2 _ _
  show hX _ _ (pN "discard" #[[.ref a,.int k u],[]] >>= _) _ _ _
  refine am<|am<|ap<|ap<|am ?_
  unfold Builtin.Frozenset.withSetAsKey setDiscard
  refine wpAny_tryCatch ?_
  refine iM<|am<|(kM d w).pyHash (k:=k) (qb _ _ _ _) ?_
  exact Gn (s:=99) S λc b g i p=>ap #[_,rfl,h c b _ g i p]
def K8(h:∀a,Dr w ⇑s a->(∀c o,s.heap.get? c=↑o->a.get? c=↑o)->Q (.ref ⇑s) 103) :
  mS (hZ b w) A (.call (.builtin "set.__new__") #[[.type "set"],[]]) (wants Q E) s:=by
 refine mV<|am<|mZ F.newCall_set_0<|ap #[lu pT _,jX F.entry_set_new ?_];rw[jI pT _];unfold Builtin.«set.__new__» pL;have g:=qc;obtain⟨i,j,k,l,m⟩:=s;dsimp only;generalize d:newSet=n
 wp_walk
 subst d;refine Qi λa e f=>?_;exact ap<|h a e f
def Jz(h:∀k,wc w ⇑s [] k->(∀c o,s.heap.get? c=↑o->k.get? c=↑o)->Q (.ref ⇑s) { s with heap:=k}):hX (hZ n w) A (call (.type "set") []) Q E s:=by
 obtain⟨I,J,p⟩:=F.called_set.mro;have l:=F.called_set.made;have q:=F.called_set.sub;refine mX<|mV<|ap #[oa _ q0s,jX F.entry_type_call ?_];rw[tY (uV "set" [] []) rfl];have v:=F.called_set.notType;have x:=F.called_set.canCreate;have y:=F.typeCall_set_0
 repeat (any_goals (first|assumption|wp_step))
 refine j7 (K8 (E:=E) (Q:=λf g=>f=.ref ⇑s/\∃a,g=103/\Dr w ⇑s a/\∀c o,s.heap.get? c=↑o->a.get? c=↑o) λa j m=>#[rfl,a,rfl,j,m]) λz L b=>?_
 cases z with
 |error e=>exact b
 |ok f1 =>
  cases f1 with
  |ret f =>
   obtain⟨rfl,a,rfl,j,m⟩:=b;have t:wc w ⇑s [] a:=j.set;have B:mu 103 (.ref ⇑s) "set":=wc.typeIs (s:=103) t;have C:=F.called_set.init.lookup;have D:=F.called_set.init.bind<|.ref ⇑s
   repeat (any_goals (first|assumption|wp_step))
   refine j7 (nZ (R:=wants (λr i=>r=.none/\i=103) E) F.called_set.init.plain F.entry_set_init<|check_set_init B ?_) λG M d=>?_
   ·obtain⟨H,u,N,O⟩:=id j;unfold Builtin.«set.__init__» noKeywords
    wp_walk
    exact#[rfl,rfl]
   ·cases G with
    |error e=>exact d
    |ok f2 =>
     cases f2 with
     |ret r =>
      obtain⟨rfl,rfl⟩:=d
      repeat (any_goals (first|assumption|wp_step))
      exact h _ t m
     |_=>exact d.elim
  |_=>exact b.elim
end SX
namespace L2
open PySem PySem.Spec PyProof.Rows SX
section
variable{X:Cx}
def Oj:y8 X (.type "set") (λa H Q=>a=[]/\∀p:gV,H p=none->Q (.ref p) (upd H p<|xC X.w p [])):=by intro b s c H a d Q I r h;obtain⟨rfl,q⟩:=h;cases r;exact Jz λe S k=>#[.ref ⇑s,_,I.laid (t':=s.toks) k (gZ _)<|Hc S,rfl,q _<|I.vW.fresh<|gZ _]
def a2h(w:jb):R2:=λx y H Q=>∃(k:Int)(a:gV)(b:List Int),x=.int k/\y=.ref a/\H a=↑(xC w a b)/\Q (.bl<|decide<|k∈b) H
def X8:Bb X (jG .In) (a2h X.w):=by intro b s f H x y v u Q I c d h;obtain⟨k,a,g,rfl,rfl,e,q⟩:=h;obtain⟨t,rfl⟩:=c;cases d;exact a2g (zO I e) #[.bl _,H,I.tok _,rfl,q]
def Inv.sset{f:Nat}(I:Inv X c h H s)(i:H a=↑(xC X.w a k))(j:jg a s.heap g)(S:wc X.w a d g) :
  Inv X c h (upd H a<|xC X.w a d) { s with heap:=g,toks:=f} :=
 I.write (t':=f) (by rw[i];trivial) (.inl rfl) (λb u n e=>j.extBut b u n e) (e3a2 S λ_ _ _ e _=> #[_,e]) (Hc S)
def UB:Zg X "set.add" (λx d H Q=>∃(a:gV)(c:List Int)(k:Int),x=.ref a/\d=[.int k]/\H a=↑(xC X.w a c)/\c.length+1<=127/\∀b:List Int,b.Nodup->b.Perm (if k∈c then c else k::c)->Q .wP (upd H a<|xC X.w a b)):=by intro e s m H x d v n Q I g i h;obtain⟨a,c,k,rfl,rfl,f,j,q⟩:=h;cases g;obtain⟨u,rfl,t,rfl⟩:=i.one;exact X7 (zO I f) j λo b r l S p=>#[.wP,_,I.sset f l S,rfl,q b S.nodup p]
def Qq:Zg X "set.discard" (λx d H Q=>∃(a:gV)(c:List Int)(k:Int),x=.ref a/\d=[.int k]/\H a=↑(xC X.w a c)/\∀b:List Int,b.Nodup->(if k∈c then c.Perm (k::b) else b=c)->Q .wP (upd H a<|xC X.w a b)):=by intro e s l H x d v m Q I g i h;obtain⟨a,c,k,rfl,rfl,f,q⟩:=h;cases g;obtain⟨u,rfl,t,rfl⟩:=i.one;exact UA (zO I f) λn b o j S p=>#[.wP,_,I.sset f j S,rfl,q b S.nodup p]
def X9(w:jb)(r:V->List V->Hp->VK->Prop)(d:TE)(t:TA):TE:=λb H Q=>d b H λx c=>(∃(a:gV)(e:List Int),x=.ref a/\c a=↑(xC w a e))/\t b c λf g=>r x f g Q
variable{o e:iT}{es:List iT}{to:TE}{t:TA}{name:Str}{apos cpos:Pos}{id:String}{r:V->List V->Hp->VK->Prop}
def Qr(i:Slot "set" name id)(k:typeOf (.builtin id)=pure (.type "method_descriptor"))(q:Zg X id r)(u:PE X o to)(y:PA X (e::es) t)
 (f:iP o name X.env (eval o X.env)=eval o X.env:=by rfl)
 (j:((jx cpos<|gX (e::es) X.env).all (λx=>!x.1)&&(ni cpos<|lh [] X.env).all (λx=>x.1.isSome)&&decide ((e::es).length+([]:List pY).length+(if ([]:List pY).isEmpty then 0 else 1)<30))=true:=by rfl)
 (g:(apos.endLine==cpos.line)=true:=by rfl) (z:gX (e::es) X.env=67::gX es X.env:=by rfl) (d:(jx cpos<|gX es X.env).any (·.1)=false:=by rfl) :
    PE X (.Call (.Attribute o name apos) (e::es) [] cpos) (X9 X.w r to t):=by
  intro c s l H Q I h
  refine uJ f j g rfl<|vU (u c s l H _ I h) λv A m=>e2a4 m λx B n C D E=>?_
  obtain⟨a,W,rfl,G⟩:=D
  cases C
  have S:=zO n G
  refine#["set",id,F.plainAttrs_set,i,k,S.typeIs,λb J=>?_,?_]
  · cases J
    refine e3a2 S λ_ _ _ L _=>?_
    exact#[_,L,rfl]
  have p:=y cpos c A l B _ n E
  rw[z]at p ⊢
  refine kB (by show (false||(jx cpos<|gX es X.env).any (·.1))=false;rw[d]<;>rfl)<|jJ ?_
  exact vU p λM N m=>e2a3 m λO P R T U=>q c N l P (.ref a) O (.ref a) M Q R rfl T U
end
def DK(e:gV)(d:Option gV)(h:iX):Prop:=∃o,h.get? e=↑o/\o.dict=d
def UC(o:Obj)(f:Array cr->Array cr):(o.mapFields f).dict=o.dict:=by obtain⟨c,d,a,b⟩:=o;cases a<;>rfl
section
variable{M:Model}{A:jF}{E:cr->hR->Prop}{s:hR}{base:iX}{env:Env}{outer:List Env}{L e:gV}{oe:Obj}{vs:Array cr}{a0 cls:cr}{d:Option gV}
def WK{c:Bool}(m:A.frames=↑(env::outer))(k:s.heap.FunFrames base (env::outer))(I:env.frame=↑L)(n:s.heap.get? e=↑oe)(p:base.StaysIn s.heap)(r:base.get? e=none)(g:oe.data=.fields vs)(i:1<vs.size)(J:vs[0]?=↑a0)
 (h:∀t,Heap.NotedW base (env::outer) e oe.cls a0 (l9 L) s.heap t->DK e oe.dict t->Q () { s with heap:=t}) :
    hX M A (do setField (.ref e) 1 (<- EntryCells.newEntry head (<- frameOf env) .none (l9 L) .none (<- entryPlaceOf L c))) Q E s:=by
  have N:e∉(env::outer).filterMap (·.frame):=λz=>by
    obtain⟨_,o,w,O⟩:=k.mem z
    rw[n]at w;cases w;exact O _ g
  refine am<|wpAny_frameOf_fun m k I λa l=>am<|wpAny_entryPlaceOf λx j=>?_
  have B:a.get? e=↑oe:=(l.2.1 e N).trans n
  have C:base.StaysIn a:=λb o q=>(l.2.1 b λz=>by rw[(k.mem z).1]at q;cases q).trans<|p b o q
  refine am<|iV ?_<|j.sizeOk5 _ _ _ _ _
  have P:∃f:Array cr,(([head,.ref L,.none,l9 L,.none]++(if x.isEmpty then lm 6 Value.none else x)).toArray=f)/\f[3]?=↑(l9 L):=#[_,rfl,by first|(simp;done)|(rcases j with rfl|⟨_,_,_,_,_,_,_,rfl⟩<;>simp)]
  obtain⟨f,R,S⟩:=P
  rw[R]
  have u:=ce (h:=a) { cls:=.type "traceback",dict:=none,data:=.fields f} B
  have D:a.objs.size≠e:=jv<|hV B
  refine nw u g i<|h _ ?_ ?_
  · have F := Obj.data_mapFields g (·.setIfInBounds 1 (iq a.objs.size))
    have T:=i8 (Obj.mapFields (·.setIfInBounds 1 (iq a.objs.size))) u<|Obj.isFreed_of_fields F
    have U:=(iN (a.push { cls:=.type "traceback",dict:=none,data:=.fields f}) (Obj.mapFields (·.setIfInBounds 1 (iq a.objs.size)))<|Ne.symm D).trans<|ic a rfl
    have v:∀b o,b≠e->a.get? b=↑o->((a.push { cls:=.type "traceback",dict:=none,data:=.fields f}).update e (Obj.mapFields (·.setIfInBounds 1 (iq a.objs.size)))).get? b=↑o:=λb o z q =>
      (iN _ _<|Ne.symm z).trans (ce _ q)
    have G:∀b o,s.heap.get? b=↑o->(∀vs,o.data≠.fields vs)->b≠e:=λb o q z y=>by rw[y,n]at q;cases q;exact z _ g
    refine#[λb o q=>v b o (λz=>by rw[z,r]at q;cases q)<|C b o q,k.of_keeps λb o q z=>?_,?_,λb o q z=>?_]
    · obtain⟨H, y⟩ := l.2.2 b o q
      exact#[_,v b _ (G b o q z) y,rfl]
    · exact#[_, _, a.objs.size, _, _, T, #[Obj.cls_mapFields _ _, by rw[Array.getElem?_setIfInBounds_ne q0q]; exact J], F, by simp[i], C.fresh, D, U, rfl, S]
    · obtain⟨H, y⟩ := l.2.2 b o q
      exact#[H,v b _ (G b o q z) y]
  · exact#[_, i8 _ u<|Obj.isFreed_of_fields<|Obj.data_mapFields g _, UC _ _]
def UD(c:A.frames=↑(env::outer))(l:s.heap.FunFrames base (env::outer))(g:env.frame=↑L)(i:s.heap.get? e=↑oe)(f:base.StaysIn s.heap)(b:base.get? e=none)(j:oe.data=.fields vs)(k:vs[1]?=some .none)(m:vs[0]?=↑a0)
 (h:∀a,Heap.HeldW base (env::outer) e oe.cls a0 L a->s.heap.UpToSlots a->DK e oe.dict a->Q () 103):hX M A (uv (.ref e) env) Q E s:=by
  unfold uv
  simp only[g]
  refine am<|jo i j k ?_
  rw[ci q0q]
  exact WK c l g i f b j (Array.getElem?_eq_some_iff.mp k).1 m λa n=>e0a4 n λo p q r y=>h a #[o,b,p,q] r y
def UE(h:A.frames=↑(env::outer))(p:env.frame=↑L)(i:mi base (env::outer) e cls a0 s.heap)(x:DK e d s.heap)
 (B:∀f,Heap.HeldW base (env::outer) e cls a0 L f->s.heap.UpToSlots f->DK e d f->Q () { s with heap:=f}):hX M A (uv (.ref e) env) Q E s:=by
  obtain⟨j,g,C,oe,vs,T,N,O,k,⟨rfl,D⟩,r,t,l,m,n,c,u⟩:=i
  obtain⟨P,v,rfl⟩:=x
  rw[k]at v;cases v
  unfold uv
  simp only[p]
  refine am<|jo k r t ?_
  rw[gU<|show (iq T != Value.none)=true from by simp]
  refine am<|jo n c u ?_
  rw[ci<|show ¬((Value.none==l9 L)=true) from by simp[l9]]
  refine am<|nw n c (Array.getElem?_eq_some_iff.mp u).1 ?_
  have a:∀b,b≠T->(s.heap.update T (Obj.mapFields (·.setIfInBounds 3 Value.none))).get? b=s.heap.get? b:=λb z=>iN _ _<|Ne.symm z
  have w:∀b o,s.heap.get? b=↑o->(∀vs,o.data≠.fields vs)->b≠T:=λb o q z y=>by rw[y,n]at q;cases q;exact z _ c
  refine WK h (C.of_keeps λb o q z=>#[o,(a b<|w b o q z).trans q,rfl]) p ((a e<|Ne.symm m).trans k) (λb o q=>(a b λz=>by rw[z,l]at q;cases q).trans<|j b o q) g r (Array.getElem?_eq_some_iff.mp t).1 D
    λf F=>e0a4 F λG H I J y=>B f #[G,g,H,I] (λb o q z=>J b o ((a b<|w b o q z).trans q) z) y
def Z8(n:base.StaysIn s.heap)(p:base.get? e=none)(C:s.heap.FunFrames base l)(D:s.heap.TracedAtW base e cls a0 H)(F:DK e d s.heap)
 (h:∀m,mi base l e cls a0 m->s.heap.UpToSlots m->DK e d m->Q () { s with heap:=m}):hX M A (setFlight (.ref e) none) Q E s:=by
  obtain⟨oe,vs,T,I,J,r,g,u,v,i,j,t,a,G⟩:=D
  obtain⟨N,w,rfl⟩:=F
  rw[r]at w;cases w
  have k:=(Array.getElem?_eq_some_iff.mp G).1
  have c:∀b,b≠T->(s.heap.update T (Obj.mapFields (·.setIfInBounds 3 ((none:Option gV).elim Value.none λf=>l9 f)))).get? b=s.heap.get? b:=λb z=>iN _ _<|Ne.symm z
  have x:∀b o,s.heap.get? b=↑o->(∀vs,o.data≠.fields vs)->b≠T:=λb o q z y=>by rw[y,t]at q;cases q;exact z _ a
  have B:=(c e<|Ne.symm j).trans r
  refine am<|jo r u v ?_
  rw[gU<|show (iq T != Value.none)=true from by simp]
  refine nw t a k<|h _ ⟨λb o q=>(c b λz=>by rw[z,i]at q;cases q).trans<|n b o q,p,C.of_keeps λb o q z=>#[o,(c b<|x b o q z).trans q,rfl],?_⟩ (λb o q z=>#[o.slots,(c b<|x b o q z).trans q]) #[_,B,rfl]
  exact#[oe,vs,T,_,_,B,g,u,v,i,j,i8 _ t<|Obj.isFreed_of_fields<|Obj.data_mapFields a _,Obj.data_mapFields a _,by simp[k]]
def Bo(b:A.frames=↑(env::outer))(k:s.heap.FunFrames base (env::outer))(l:env.frame=↑L)(m:s.heap.get? e=↑oe)(c:base.StaysIn s.heap)(f:base.get? e=none)(n:oe.data=.fields vs)(o:vs[1]?=some .none)(p:vs[0]?=↑a0)
 (h:∀a,mi base outer e oe.cls a0 a->s.heap.UpToSlots a->DK e oe.dict a->Q () 103):hX M A (uF env<|.ref e) Q E s:=by
  refine am<|UD b k l m c f n o p λq g=>e0a4 g λr t u v w x=>Z8 (s:={ s with heap:=q}) r t u v x λy g=>e0a4 g λz B ⟨_,_,C⟩ D i j=>?_
  exact h y #[z,B,C,D] (w.trans i) j
def Qs(b:A.frames=↑(env::outer))(j:env.frame=↑L)(c:mi base (env::outer) e cls a0 s.heap)(k:DK e d s.heap)
 (l:∀a,mi base outer e cls a0 a->s.heap.UpToSlots a->DK e d a->Q () 103):hX M A (uF env<|.ref e) Q E s:=by
  refine am<|UE b j c k λm f=>e0a4 f λn o p q r g=>Z8 (s:={ s with heap:=m}) n o p q g λt f=>e0a4 f λu v ⟨_,_,w⟩ x h i=>?_
  exact l t #[u,v,w,x] (r.trans h) i
end
class GX where
 g:gV->Option gV->Hp->Prop
variable[GX]
structure Et(P:iJ)(w:jb)(outer:List Env)(H:Hp)(s:hR)(H':Hp)(C x:gV)(s':hR):Prop where
 os:s'.os=s.os
 bare:nQ s'.gens
 un:Un (zy outer) [] H H' s.heap s'.heap
 vW:yi P w H' s'.heap
 dct:∃d,DK x d s'.heap/\GX.g C d H'
 fly:∃(B:iX)(a0:cr),mi B outer x (.ref C) a0 s'.heap/\∀b o,s'.heap.get? b=↑o->(H' b≠none\/∃o0,s.heap.get? b=↑o0)->b∉zy outer->B.get? b=↑o
def vX(P:iJ)(w:jb):PJ:=λa H s E e c=>∃(C x:gV)(b:Hp),e=.ref x/\Et P w a H s b C x c/\E (.ref C) ↑x b
def AY(x:yi P w H h)(e:H a=↑o):∃u,h.get? a=↑u:=by
 have d:∀o:HO,wp P w H h a o->∃u,h.get? a=↑u:=by
  intro o q
  cases o with
  |lst i=>obtain⟨_,_,_,_,z⟩:=q;exact#[_,z]
  |tup i=>obtain⟨_,_,_,c,z,_⟩:=q;exact#[_,z]
  |dK g=>obtain⟨_,_,_,_,c,_,_,z,_⟩:=q;exact#[_,z]
  |dT g=>obtain⟨_,_,_,_,c,_,_,z,_⟩:=q;exact#[_,z]
  |set S n=>obtain⟨c,_,_,_,z,_⟩:=q;exact#[_,z]
  |ins C j fs=>obtain⟨_,_,_,z,_⟩:=q;exact#[_,z]
  |own b=>exact q
  |xd fs=>obtain⟨k,⟨c,_,_,z,_⟩,_⟩:=q;exact#[_,z]
  |yY lo l=>obtain⟨_,_,_,z⟩:=q;exact#[_,z]
  |Km c u=>exact#[_,q.1]
  |FC m=>exact#[_,q]
  |met f y=>exact#[_,q]
  |ext p=>exact q.2.1
 exact d o<|x a o e
section
variable{P:iJ}{w:jb}{l:List Env}{H H':Hp}{s s2:hR}{B h':iX}
def Qt(u:Un (zy l) [] H H' s.heap s2.heap)(m:yi P w H' s2.heap)(g:∀b o,s2.heap.get? b=↑o->(H' b≠none\/∃D,s.heap.get? b=↑D)->b∉zy l->B.get? b=↑o)
 (i:∀b∈zy l,H' b=none/\∃o,s2.heap.get? b=↑o/\∀E,o.data≠.fields E)(p:B.StaysIn h')(F:s2.heap.UpToSlots h'):Un (zy l) [] H H' s.heap h'/\yi P w H' h':=by
  have d:∀b o,s2.heap.get? b=↑o->b∈zy l->∃r,h'.get? b=some { o with slots:=r}:=λb o e G=>by
    obtain⟨_,t,C,n⟩:=i b G
    rw[e]at C
    cases C
    exact F b o e n
  refine#[#[λb o e n f h=>?_,λb o e n f h=>?_,λb o e n h=>u.free b o e n h,λb o e h=>?_,u.BL,u.Bv,u.Bw],λa o e=>?_]
  · exact p b o<|g b o (u.keep b o e n f h) (.inr #[o, e]) f
  · obtain⟨r, k⟩ := u.slot b o e n f h
    obtain⟨x,y⟩:=d b _ k f
    exact#[x,y]
  · obtain⟨t, k⟩ := u.there b o e h
    by_cases f:b∈zy l
    · obtain⟨r, y⟩ := d b _ k f
      exact#[_,y]
    · exact#[_, p b t<|g b t k (.inr #[o, e]) f]
  · have I : ∀c, H' c ≠ none -> c ∉ zy l := λc A f => A (i c f).1
    refine(m a o e).DB (λc v A q=>?_) (λ_ q=>q) λ_ _ q=>q
    have j:H' c≠none:=by
      rcases A with z|z
      · rw[z, e]; simp
      · rw[z]; simp
    exact p c v<|g c v q (.inl j)<|I c j
end
section
variable{X:Cx}{pins:List (gV×Obj)}{σ:St}{H1 H':Hp}{s1 s2:hR}{C x:gV}{B h':iX}{a0:cr}
def ym(I:Inv X pins σ H1 s1)(a:X.stack=X.env::X.outer):X.env.frame=↑X.env.locals:=by
 rcases I.ok.CG with z|z
 ·rw[a]at z;have:=congrArg oA z;simp at this
 ·exact z.2
def Ol(I:Inv X pins σ H1 s1)(a:X.stack=X.env::X.outer):zy X.stack=X.env.locals::zy X.outer:=by rw[a];unfold zy;rw[kZ,ym I a]
def K9(I:Inv X pins σ H1 s1)(D:X.stack=X.env::X.outer)(hex:X.ex=[])(os:s2.os=s1.os)(m:nQ s2.gens)(u:Un (zy X.stack) [] H1 H' s1.heap s2.heap)(p:yi X.prog X.w H' s2.heap)
 (r:∀b o,s2.heap.get? b=↑o->(H' b≠none\/∃k,s1.heap.get? b=↑k)->b∉zy X.stack->B.get? b=↑o) (Z9:∀b∈zy X.stack,H' b=none/\∃o,s2.heap.get? b=↑o/\∀R,o.data≠.fields R)
 (up:s2.heap.UpToSlots h')(E:mi B X.outer x (.ref C) a0 h')(F:∃d,DK x d h'/\GX.g C d H'):Et X.prog X.w X.outer X.H₀ X.s₀ H' C x { s2 with heap:=h'}:=by
  obtain⟨i,s⟩:=Qt u p r Z9 E.1 up
  have t:=Ol I D
  have base:Un (zy X.outer) [] X.H₀ H1 X.s₀.heap s1.heap:=by have:=I.base;rw[hex]at this;exact this
  have L:∀b:gV,b∉([]:List gV):=λb z=>by cases z
  have old:∀b o,X.s₀.heap.get? b=↑o->b≠X.env.locals:=λb o e z=>by
    have S:=hV e
    have M:=I.ok.above
    rw[<- z]at M
    exact ii (iu S M)<|j4 _
  have y:∀b o,X.s₀.heap.get? b=↑o->b∉zy X.outer->b∉zy X.stack:=λb o e n z=>by
    rw[t]at z
    rcases List.mem_cons.mp z with q|q
    · exact old b o e q
    · exact n q
  refine#[os.trans I.os,m,#[λb o e n j a=>?_,λb o e n j a=>?_,λb o e n a=>?_,λb o e a=>?_,λb N e=>?_,λb o v e=>?_,λb T e=>?_],s,F,B,a0,E,λb o e A j=>?_]
  · exact i.keep b o (base.keep b o e n j a) (base.free b o e n a) (y b o e j) a
  · obtain⟨sl, c⟩ := base.slot b o e n j a
    obtain⟨G,f⟩:=i.slot b _ c (base.free b o e n a) (by rw[t];exact hI _ j) a
    exact#[G,f]
  · obtain⟨l, c⟩ := base.there b o e a
    exact i.free b l c (base.free b o e n a) a
  · obtain⟨l, c⟩ := base.there b o e a
    exact i.there b l c a
  · exact i.BL b N<|base.BL b N e
  · exact i.Bv b o v<|base.Bv b o v e
  · obtain⟨U, c⟩ := base.Bw b T e
    obtain⟨W,f⟩:=i.Bw b _ c
    exact#[U++W,by rw[f,qj]]
  · have fin : ∀h, s2.heap.get? b = some h -> (H' b ≠ none \/ ∃k, s1.heap.get? b = some k) -> b ∉ zy X.stack -> B.get? b = some o := λh f H J => by
      have q:=r b h f H J
      have O:=E.1 b h q
      have Y:h'.get? b=↑o:=e
      rw[Y]at O
      cases O
      exact q
    rcases A with A|⟨k,P⟩
    · obtain⟨Q, Z⟩ : ∃Q, H' b = some Q := by
        cases z:H' b with
        |none=>exact ii z A
        |some v=>exact#[v,rfl]
      obtain⟨h,f⟩:=AY p Z
      exact fin h f (.inl A) λz=>A (Z9 b z).1
    · obtain⟨l, c⟩ := base.there b k P (L b)
      obtain⟨h,f⟩:=u.there b l c<|L b
      exact fin h f (.inr #[l,c])<|y b k P j
def Et.Z9(F:Et P w l H s H' C x s2)(c:∀b∈zy l,H b=none/\∃o,s.heap.get? b=↑o):∀b∈zy l,H' b=none/\∃o,s2.heap.get? b=↑o/\∀d,o.data≠.fields d:=λb a=>by refine e2a2 F.fly λB a0 f _=>?_;obtain⟨n,o,e⟩:=c b a;exact#[F.un.free b o e n q0o,(f.2.2.1.mem a).2]
def Inv.frn(I:Inv X pins σ H1 s1):∀b∈zy X.stack,H1 b=none/\∃o,s1.heap.get? b=↑o:=λb a=>by have c:=I.Jh;exact#[c.Ki b a,e1a2 ((c.yT.mem a).2) λo e _=> #[o,e]]
def Qu(I:Inv X pins σ H1 s1)(a:X.stack=X.env::X.outer)(b:X.ex=[])(F:Et X.prog X.w X.stack H1 s1 H' C x s2) :
  hX 28 X.A (uF X.env<|.ref x) (λ_ c=>Et X.prog X.w X.outer X.H₀ X.s₀ H' C x c) E s2:=by
 have i:=F.Z9 I.frn;refine e2a2 F.fly λB a0 h e=>?_;rw[a]at h;refine e1a2 F.dct λd j k=>?_;refine Qs (by rw[I.ok.frames,a]) (ym I a) h j λh' f l g=>?_;exact K9 I a b F.os F.bare F.un F.vW e i l f #[d,g,k]
end
section
variable{P:iJ}{w:jb}{K:gW}{mg:Str->Option cr}{base:iX}{N:List Str}{qual:Str}{scope:my}{f:gV}{cd:cr}{A:jF}{outer:List Env}{s:hR}{H:Hp}{E:XK}
def Bp:Passes (vX P w) 23 E:=by intro a i j k e l I h;obtain⟨C,x,b,rfl,F,c⟩:=h;exact jm (Qu I rfl rfl F) (λ_ d g=>#[C,x,b,rfl,g,c]) λ_ _ z=>z
def xV:rV (hZ P w) (23).A (23).env (23).xe:=PassesOwn.leaving
end
variable[L2.GX]
set_option tactic.hygienic true in
def UF{K:gW}{C:gV}(Z:K.In h)(y:jz K C d b=true) :
  ∃j N t q u c v e w f x z A B E F k,h.get? C=↑(jN t q C N u j c v e w f x z A B E F b)/\h.Ns N k/\k "__init__"=none/\sS h d j:=by
 unfold jz at y;split at y
 ·rename_i G H l a
  split at y
  ·rename_i D I m n o p g r J L
   simp only[iU,beq_iff_eq,uN]at y;obtain⟨⟨⟨⟨⟨M,O⟩,P⟩,Q⟩,s⟩,R⟩:=y;subst M;subst O;obtain⟨S,T,u3,U,X,Y,u7,u8,u9,i,aa⟩:=H;subst J;subst P
   have e3:l=#v[m,n,o,p,some<|.builtin g,r]:=by obtain⟨li⟩:=l;exact congrArg Array.mk L
   rw[e3]at a;exact#[I,U,S,X,T,Y,u7,u8,u9,i,G,m,n,o,p,r,_,Z _ _ a,.of_isNs<|qd Z s,PySem.W.nsMap_none_of_in Z s R,tM Z Q]
  ·cases y
 ·cases y
def Qv(C:gV)(E:XK)(a:TA):TS:=λ_ b H=>a b H λc d=>c.length<=hJ/\∀x:gV,E (.ref C) ↑x d
section
variable{P:iJ}{w:jb}{K:gW}{mg:Str->Option cr}{base:iX}{N:List Str}{qual:Str}{scope:my}{f:gV}{cd:cr}{A:jF}{outer:List Env}{s:hR}{H:Hp}{E:XK}
def Eu{C:gV}(hg:Gl 23 x)(hm:mg x=↑(.ref C))(O:jz K C v i=true)
 (Y:kO B i n v) (g0:∀H',GX.g C none H') (ha:PA 23 (y::p) ta) (F:(x==66)=false:=by decide)
 (r:gX (y::p) (23).env=(false,eval y (23).env)::gX p (23).env:=by rfl)
 (G:(jx d<|gX p (23).env).any (·.1)=false:=by rfl) :
    PS 23 (.Raise (some<|.Call (.Name x np) (y::p) [] d) none pos) (Qv C E ta):=by
  intro k s1 σ H1 D I h
  obtain⟨bm,N',nm,q,bs,l,sn,J,ab,L,dd,k0,k1,k2,k3,k5,mN,hC,hN,M,T⟩:=UF I.mod.BK O
  have Z:=ha d k s1 σ H1 _ I h
  refine wpAny_Raise_call_subT (prog:=P) (w:=w) (C:=C) (nm:=nm) (q:=q) (N:=N') (bs:=bs) (bm:=bm) (hdct:=l) (sn:=sn) (sub:=J) (ab:=ab) (col:=L) (dd:=dd) (k0:=k0) (k1:=k1) (k2:=k2) (k3:=k3) (k5:=k5)
    Y (mN:=mN) (T.hasType Y.hasBase) (I.ok.hd rfl) (by rw[r];exact(Bool.false_or _).trans G) M (zD I hg hm #[rfl,?_] F)
  rw[r]at Z ⊢
  refine jJ<|jm Z (λus u q2=>?_) λ_ _ z=>z
  refine e2a4 q2 λvs H2 c r2 hl hE=>?_
  refine#[rfl,by show us.length<=hJ;rw[<- r2.length];exact hl,c.bk _ _ hC,hN.keeps c.bk,T.keeps c.bk,λh' e a=>?_]
  have m:(23).stack=(23).env::(23).outer:=rfl
  have fu:=c.Jh.yT
  refine e1a3 a.there λt R _ _=>?_
  have S:(mq u.heap<|zy (23).stack).get? e=none:=by
    cases q:(mq u.heap<|zy (23).stack).get? e with
    |none=>rfl
    |some o=>have z:=nM _ q;rw[a.new]at z;cases z
  refine jm (Bo (base:=mq u.heap (zy (23).stack)) (a0:=.ref t) c.ok.frames
    ((rY fu λU r b j=>List.mem_filterMap.mpr #[U,r,j]).of_keeps λb o j _=>#[o,a.keeps b o j,rfl]) (ym c m) R (λb o z=>a.keeps b o (nM _ z)) S rfl rfl rfl (Q:=λ_ X=>vX P w outer H s E (.ref e) X) λaa fl up dk=>?_) (λ_ _ z=>z) λ_ _ z=>z
  refine#[C,e,H2,rfl,?_,hE e]
  refine K9 (s2:=u) c m rfl rfl c.bare Un.refl c.vW (λb o z _ nf=>pG _ z nf) (λb j=>?_) ((qy a.keeps).trans up) fl #[_,dk,g0 _]
  exact#[(c.frn b j).1,(fu.mem j).2]
end
noncomputable abbrev hand(X:Cx)(x:gV):Cx:={ X with A:=X.A.mark<|some<|.ref x,calm:=false,xe:=λ_ _=>False}
def Inv.a2j(I:Inv { X with pn:=X.pn++a} b c H s):Inv X a c H s :=
 #[55,I.os,I.bare,I.base,I.loc,I.cell,I.free,I.yC,λp d=>I.pin p<|ji _ d,I.vW,I.len]
def Inv.Qw(I:Inv X a b H s):Inv (hand X x) a b H s :=
 #[#[I.ok.mod,I.ok.kind,I.ok.glob,I.ok.blt,I.ok.above,I.ok.inj,I.ok.has,I.ok.Pd,(λz=>by cases z),I.ok.frames,I.ok.CG,I.ok.T0,I.ok.bs,I.ok.IY,I.ok.DC,I.ok.Eb,I.ok.yT,I.ok.Ki],I.os,I.bare,I.base,I.loc,I.cell,I.free,I.yC,I.pin,I.vW,I.len]
def Inv.He(b:X.calm=true->X.A.handled=none)(I:Inv (hand X x) a c H s):Inv X a c H s :=
 #[#[I.ok.mod,I.ok.kind,I.ok.glob,I.ok.blt,I.ok.above,I.ok.inj,I.ok.has,I.ok.Pd,b,I.ok.frames,I.ok.CG,I.ok.T0,I.ok.bs,I.ok.IY,I.ok.DC,I.ok.Eb,I.ok.yT,I.ok.Ki],I.os,I.bare,I.base,I.loc,I.cell,I.free,I.yC,I.pin,I.vW,I.len]
end L2
namespace SX
open PySem PyProof.Rows
def JA:nN (.type "dict") "__len__"=pure (some<|.builtin "dict.__len__"):=by rw[om,mf];kernel_rfl
section
variable{prog:iJ}{w:jb}{K:Type}[DecidableEq K]{knd:KeyKind prog w K}{A:jF}{E:cr->hR->Prop}{s:hR}{a:gV}{ks:List Int}{xF:List (K×cr)}{ep:Nat}
def Om(hh:A.handled=none)(G:(a==lq)=false)(D:s.heap.DictAt knd a xF ep)(hl:xF.length<=hJ)(R:xF.length=ks.length)
 (hk:∀(i:Nat)(k:K)(x:cr)(v:cr),xF[i]?=↑(k,x)->knd.is k v=true->∃j u,ks[i]?=↑j/\v=.int j u)
 (h:∀S tk vs,lx vs ks->(∀c o,s.heap.get? c=↑o->S.get? c=↑o)->⇑s<=S.objs.size->Q vs { s with heap:=S,toks:=tk}):hX (hZ prog w) A (collect<|.ref a) Q E s:=by
  have f:a<⇑s:=D.lt_size
  obtain⟨o0,ai,H,l,aj,ak⟩:=id D
  refine am<|tH<|jX ur ?_
  rw[jI ut _]
  refine am (m:=newList [])<|iV<|ap #[lu oS _,jX F.entry_list_iadd ?_]
  rw[jI oS _]
  have z:∀c o,s.heap.get? c=↑o->(s.heap.push 58).get? c=↑o:=λc o q=>ce _ q
  have oL:(s.heap.push 58).get? ⇑s=some 58:=ic _ rfl
  have g:(s.heap.push 58).objs.size=⇑s+1:=jK _ _
  generalize s.heap.push 58=d at z oL g ⊢
  have D1:d.DictAt knd a xF ep:=D.at' λo q=>z a o q
  show hX _ A.in1 (qp (.ref ⇑s) (.ref a)<|.ref ⇑s) _ _ { s with heap:=d}
  have hT:mu { s with heap:=d} (.ref a) "dict":=#[_,z a _ H,l.1]
  refine am<|lj hT ?_
  have n1:lW (.ref ⇑s) (.ref a)=false:=by simp[lW,jv f]
  have n2:(kj "dict" == kj "list")=false:=by decide
  have n3:(kj "dict" == kj "tuple")=false:=by decide
  simp only[n1,n2,n3,sk,lA,pK]
  refine am<|wpAny_pyIter_dict (s:={ s with heap:=d}) G D1 ?_
  have I:∀c o,d.get? c=↑o->(d.push 76).get? c=↑o:=λc o q=>ce _ q
  have i2:(d.push 76).get? d.objs.size=some 76:=ic _ rfl
  generalize d.push 76=T at I i2 ⊢
  have p:mu { s with heap:=T} (.ref a) "dict":=#[_,I a _<|z a _ H,l.1]
  refine am<|iM ?_
  refine am<|qe p JA ?_
  generalize BZ:("dict.__len__":String)=U
  dsimp only
  rw[show splitId U=some ("dict","__len__") from by subst BZ;decide +kernel]
  subst BZ
  refine am<|mF (b:=true) p F.sub_dict_dict ?_
  rw[ci q0o]
  rw[gU q0s]
  refine am<|lj p<|ap ?_
  have X:A.in1.handled=none:=by simp[hh]
  have ne:a≠d.objs.size:=ij<|nX f (by rw[g];exact jE _)
  have W:=(Walks.dictKeys (knd:=knd) (A:=A.in1) X d.objs.size a ne xF ep).toS
  have Y:⇑s∉[d.objs.size,a]:=by
    simp only[iD,jl,mB,qa]
    exact#[by rw[g];exact ij<|jE _,jv f]
  have t:=I _ _ oL
  -- the ah,B al J Z of it
  have L:∀(C:iX)(M:Nat),C.get? ⇑s=some { cls:=.type "list",data:=.seq ([]:List cr).toArray M}->(∀c o,c≠⇑s->T.get? c=↑o->C.get? c=↑o) ->
      mS (hZ prog w) A (.builtin "list.extend.loop" #[[.ref ⇑s,.ref d.objs.size,.ref ⇑s],[]]) (λr s'=>match r with
        | .ok (.ret v)=>hX (hZ prog w) A (match v with
          | .ref a=>do
            let o <- load a
            match o.data with
              | .seq xs aa=>pure xs.toList
              |x=>lM "internal:collect"
          |x=>lM "internal:collect") Q E s'
        | .ok _=>False
        | .error e=>E e s') { s with heap:=C}:=by
    intro C M y k4
    have I4:C.IsKeyIter d.objs.size a 0 xF.length ep/\C.DictAt knd a xF ep:=#[#[_,k4 _ _ (by rw[g];exact jv<|jE _) i2,rfl,rfl],D1.at' λo q=>k4 _ _ (ij f)<|I _ _ q]
    refine codeAny_extend_loopS W hl _ Y _ xF.length 0 _ _ _ rfl (jj _) I4 y (ItemsOf.nil _) λs5 ab c5 P N n=>?_
    refine am<|qX N<|ap ?_
    obtain⟨h5,g5,d5,ae,af⟩:=s5
    have eg:g5=s.gens:=P.gens
    have ed:d5=s.drawn:=P.drawn
    have eo:af=s.os:=P.os
    subst eg ed eo
    refine h h5 ae ab.toList (Av ?_ λi v hv=>?_) (λc o q=>P.heap c o (by
      simp only[iD,jl,mB,qa]
      exact#[ij (hV q),ij (hV (z c o q))]) (k4 c o (ij (hV q)) (I c o (z c o q)))) (mj (hV N))
    · rw[hW, n.1, R]
    · obtain⟨k, x, hx, ag⟩ := n.2 i v (by rw[<- iR]; exact hv)
      exact hk i k x v hx ag
  first
    | (rw[ci q0s];exact ap ⟨lu qx _,L T 0 t λ_ _ _ q=>q⟩)
    | (rw[gU q0s]
       refine am<|mz<|am ?_
       refine am<|qh t rfl ?_
       have O:=i8 (Obj.mapSeq (·.push Value.none)) t rfl
       refine qh O rfl ?_
       have y:=i8 (Obj.mapSeq (·.pop)) O rfl
       refine ap #[lu qx _,L _ _ y λc o hc q=>(iN _ _ (Ne.symm hc)).trans ((iN _ _ (Ne.symm hc)).trans q)])
end
end SX
namespace L2
open PySem PySem.Spec PyProof.Rows SX
def UG{k:Int}(h:Aj (.inl k) v=true):∃u,v=.int k u:=by
 rcases wx h with⟨i,t,e,rfl⟩|⟨x,t,e,_⟩
 ·cases e;exact#[t,rfl]
 ·cases e
def Ya:∀{b:List (Key×V)} {c:List (Key×cr)} (_:KV b c) (i:Nat) {k:Key} {x:cr},c[i]?=↑(k,x)->∃y,b[i]?=↑(k,y):=by
 intro _ _ z
 induction z with
 |nil=>intro i _ _ h;cases h
 |cons a t d =>
  intro i k x h
  cases i with
  |zero=>cases h;exact#[_,congrArg some<|Prod.ext a.1 rfl]
  |succ i=>exact e1a1 (d i<|by simpa using h) λy q=>#[y,by simpa using q]
def Hf(J:X.calm=true):y8 X (.builtin "sorted") (λC H Q=>∃(a:gV) (b:List (Key×V)) (c:List Int),C=[.ref a]/\H a=↑(.dK b)/\b.map (·.1)=c.map iE/\c.length<64/\∀(p:gV)(t:List Int),H p=none->t.Perm c->t.Pairwise (·<=·)->Q (.ref p) (upd H p<|.lst<|t.map V.int)):=by
 intro E s σ H C us Q I r h;obtain⟨a,b,c,rfl,L,f,g,q⟩:=h;obtain⟨u,rfl,M⟩:=vals1 r;cases M;obtain⟨hz,l,F,G,N⟩:=I.vW a _ L;obtain⟨o,O,P,R,z,m,d⟩:=N;have D:s.heap.DictAt (vO X.prog X.w) a F P:=#[o,O,R,z,m,d];have S:b.length=F.length:=Paired.length G;have T:b.length=c.length:=by have:=congrArg oA f;simpa using this
 refine CS (λQ' k=>Om (by simp[I.ok.hd J]) l D q0a q0a (λi U x v W A=>?_) λY Z B hi k1 sz=>k Y Z B c hi (.refl _) k1 sz) g<|BF I g q;obtain⟨y,hy⟩:=Ya G i W;have n:(b.map (·.1))[i]?=↑U:=by rw[jO,hy];rfl
 rw[f,jO]at n
 cases e:c[i]? with
 |none=>rw[e]at n;cases n
 |some j =>
  rw[e]at n;cases n;obtain⟨u,hu⟩:=UG A;exact#[j,u,rfl,hu]
end L2
namespace WL
open PySem L2
abbrev Wf(A τ PO:Type):=A->101->85->Prop
abbrev Rg:=gV->Prop
structure Ext(G R:Rg)(H:Hp)(R':Rg)(H':Hp):Prop where
 keep:∀b o,¬G b->H b=↑o->H' b=↑o
 new:∀a,R' a->R a\/H a=none
def Ext.wide(e:Ext G R H c d)(s:∀a,G a->R a):Ext R R H c d:=#[λb o n h=>e.keep b o (λg=>n<|s b g) h,e.new]
def Ext.not(e:Ext G R H b c)(n:¬R a)(h:H a=↑o):¬b a:=λz=>by
 rcases e.new a z with q|q
 ·exact n q
 ·rw[h]at q;cases q
class Rep(α:Type) where
 rp:Rg->Hp->α->V->Prop
 st:∀{R:Rg} {H:Hp} {R':Rg} {H':Hp} {x:α} {v:V},rp R H x v->Ext R R H R' H'->rp R' H' x v
open Rep (rp)
instance:Rep Int:=#[λ_ _ i v=>v=.int i,λh _=>h]
instance:Rep Bool:=#[λ_ _ i v=>v=.bl i,λh _=>h]
instance:Rep Unit:=#[λ_ _ _ v=>v=.wP,λh _=>h]
instance{α:Type}[Rep α]:Rep (Option α):=#[λR H x v=>match x with|none=>v=.wP|some y=>v≠.wP/\rp R H y v,λ{R H R' H' x v} h e=>by
 cases x with
 |none=>exact h
 |some y=>exact#[h.1,Rep.st h.2 e]]
def wz{α:Type}[Rep α]{R R':Rg}{H H':Hp}(e:Ext R R H R' H'):∀{xs:List α} {vs:List V},Paired (rp R H) xs vs->Paired (rp R' H') xs vs:=by
 intro _ _ z
 induction z with
 |nil=>exact .nil
 |cons h t ih=>exact .cons (Rep.st h e) ih
instance{α:Type}[Rep α]:Rep (List α):=#[λR H xs v=>∃a vs,v=.ref a/\¬R a/\H a=↑(.lst vs)/\Paired (rp R H) xs vs,λ{R H R' H' x v} h e=>by
 refine e2a4 h λa vs h1 h2 h3 h4=>?_
 exact#[a,vs,h1,e.not h2 h3,e.keep a _ h2 h3,wz e h4]]
instance{α β:Type}[Rep α][Rep β]:Rep (α×β):=#[λR H x v=>∃a u w,v=.ref a/\¬R a/\H a=↑(.tup [u,w])/\rp R H x.1 u/\rp R H x.2 w,λ{R H R' H' x v} h e=>by
 obtain⟨a,u,w,h1,h2,h3,h4,h5⟩:=h
 exact#[a,u,w,h1,e.not h2 h3,e.keep a _ h2 h3,Rep.st h4 e,Rep.st h5 e]]
structure Tp(α:Type) where
 l:List α
instance{α:Type}[Rep α]:Rep (Tp α):=#[λR H xs v=>∃a vs,v=.ref a/\¬R a/\H a=↑(.tup vs)/\Paired (rp R H) xs.l vs,λ{R H R' H' x v} h e=>by
 refine e2a4 h λa vs h1 h2 h3 h4=>?_
 exact#[a,vs,h1,e.not h2 h3,e.keep a _ h2 h3,wz e h4]]
class Ow(τ:Type) where
 sl:Rg->Rg->Hp->τ->Option V->Prop
 st:∀{F G R:Rg} {H:Hp} {R':Rg} {H':Hp} {x:τ} {v:Option V},sl F R H x v->Ext G R H R' H'->(∀a,G a->R a)->(∀a,F a->¬G a)->sl F R' H' x v
 fq:∀{F F' R:Rg} {H:Hp} {x:τ} {v:Option V},sl F R H x v->(∀a,F a↔F' a)->sl F' R H x v
open Ow (sl)
structure Un where
instance:Ow Un:=#[λF _ _ _ _=>∀a,¬F a,λh _ _ _=>h,λh e a z=>h a ((e a).mpr z)]
noncomputable instance a25{α:Type}[Rep α]:Ow α:=#[λF R H x v=>(∀a,¬F a)/\∃u,v=↑u/\rp R H x u,λh e s _=>#[h.1,e1a2 h.2 λu h1 h2=> #[u,h1,Rep.st h2<|e.wide s]],λh e=>#[λa z=>h.1 a<|(e a).mpr z,h.2]]
structure OL(α:Type) where
 l:List α
instance{α:Type}[Rep α]:Ow (OL α):=#[λF R H x v=>∃a vs,v=↑(.ref a)/\(∀b,F b↔b=a)/\H a=↑(.lst vs)/\Paired (rp R H) x.l vs,
 λh e s n=>by
  refine e2a4 h λa vs h1 h2 h3 h4=>?_
  exact#[a,vs,h1,h2,e.keep a _ (n a<|(h2 a).mpr rfl) h3,wz (e.wide s) h4],
 λh e=>by
  refine e2a4 h λa vs h1 h2 h3 h4=>?_
  exact#[a,vs,h1,λb=>(e b).symm.trans (h2 b),h3,h4]]
class Sls(D:Type) where
 rel:Rg->Rg->Hp->D->St->Prop
 st:∀{F G R:Rg} {H:Hp} {R':Rg} {H':Hp} {d:D} {σ:St},rel F R H d σ->Ext G R H R' H'->(∀a,G a->R a)->(∀a,F a->¬G a)->rel F R' H' d σ
 fq:∀{F F' R:Rg} {H:Hp} {d:D} {σ:St},rel F R H d σ->(∀a,F a↔F' a)->rel F' R H d σ
open Sls (rel)
instance:Sls Unit:=#[λF _ _ _ σ=>σ=[]/\∀a,¬F a,λh _ _ _=>h,λh e=>#[h.1,λa z=>h.2 a ((e a).mpr z)]]
structure DF(F F1 F2:Rg):Prop where
 all:∀a,F a↔F1 a\/F2 a
 yE:∀a,F1 a->F2 a->False
instance{τ D:Type}[Ow τ][Sls D]:Sls (τ×D):=#[λF R H d σ=>∃v σ' F1 F2,σ=v::σ'/\DF F F1 F2/\sl F1 R H d.1 v/\rel F2 R H d.2 σ',
 λh e s n=>by
  refine e4a4 h λv σ' F1 F2 h1 h2 h3 h4=>?_
  exact#[v,σ',F1,F2,h1,h2,Ow.st h3 e s<|λa z=>n a<|(h2.all a).mpr<|.inl z,Sls.st h4 e s<|λa z=>n a<|(h2.all a).mpr<|.inr z],
 λh e=>by
  refine e4a4 h λv σ' F1 F2 h1 h2 h3 h4=>?_
  exact#[v,σ',F1,F2,h1,#[λa=>(e a).symm.trans (h2.all a),h2.yE],h3,h4]]
class At(i:Nat)(B:Type)[Sls B](τ:outParam Type)[Ow τ](B':outParam Type)[Sls B'] where
 get:B->τ
 hole:B->B'
 take:∀{F R:Rg} {H:Hp} {b:B} {σ:St},rel F R H b σ->∃v F1 F2,σ[i]?=↑v/\DF F F1 F2/\sl F1 R H (get b) v/\rel F2 R H (hole b) σ
class Pt(i:Nat)(B':Type)[Sls B'](τ:Type)[Ow τ](B:outParam Type)[Sls B] where
 put:B'->τ->B
 back:∀{F F1 F2 R:Rg} {H:Hp} {b:B'} {x:τ} {v:Option V} {σ:St},rel F2 R H b σ->DF F F1 F2->sl F1 R H x v->rel F R H (put b x) (σ.set i v)
def set_same:∀{l:List b} {i:Nat} {v:b},l[i]?=↑v->l.set i v=l
 | [],_,_,h=>by simp at h
 |_::_,0,_,h=>by simp at h;subst h;rfl
 |a::r,i+1,v,h=>by show a::r.set i v=a::r;rw[set_same<|by simpa using h]
def Pt.same{i:Nat}{B' τ B:Type}[Sls B'][Ow τ][Sls B][A:Pt i B' τ B]{F F1 F2 R:Rg}{H:Hp}{b:B'}{x:τ}{v:Option V}{σ:St}(h:rel F2 R H b σ)(e:σ[i]?=↑v)(t:DF F F1 F2)(s:sl F1 R H x v):rel F R H (A.put b x) σ:=by have:=A.back h t s;rw[set_same e]at this;exact this
noncomputable instance at0{τ D:Type}[Ow τ][Sls D]:At 0 (τ×D) τ (Un×D) where
 get b:=b.1
 hole b:=(#[],b.2)
 take:=λh=>by refine e4a4 h λv σ' F1 F2 h1 h2 h3 h4=>?_;exact#[v,F1,F2,by rw[h1];rfl,h2,h3,v,σ',λ_=>False,F2,h1,#[λa=>#[.inr,λz=>z.elim (λq=>q.elim) id],λ_ z _=>z],λ_ z=>z,h4]
noncomputable instance pt0{τ D:Type}[Ow τ][Sls D]:Pt 0 (Un×D) τ (τ×D) where
 put b x:=(x,b.2)
 back:=λ{F F1 F2 R H b x v σ} h t s=>by refine e4a4 h λv' σ' G1 G2 h1 h2 h3 h4=>?_;have e2:∀a,G2 a↔F2 a:=λa=>#[λz=>(h2.all a).mpr<|.inr z,λz=>((h2.all a).mp z).elim (λq=>ii q<|h3 a) id];exact#[_,σ',F1,F2,by rw[h1];rfl,t,s,Sls.fq h4 e2]
noncomputable instance atS{i:Nat}{ρ τ D D':Type}[Ow ρ][Ow τ][Sls D][Sls D'][A:At i D τ D']:At (i+1) (ρ×D) τ (ρ×D') where
 get b:=A.get b.2
 hole b:=(b.1,A.hole b.2)
 take:=λh=>by
  refine e4a4 h λv σ' F1 F2 h1 h2 h3 h4=>?_;refine e3a4 (A.take h4) λu G1 G2 k1 k2 k3 k4=>?_;refine#[u,G1,λa=>F1 a\/G2 a,by rw[h1];simpa using k1,#[λa=>?_,λa z q=>?_],k3,v,σ',F1,G2,h1,#[λa=>Iff.rfl,λa z q=>h2.yE a z<|(k2.all a).mpr<|.inr q],h3,k4]
  ·rw[h2.all,k2.all];exact#[λz=>z.elim (λq=>.inr<|.inl q) λz=>z.elim .inl λq=>.inr<|.inr q,λz=>z.elim (λq=>.inr<|.inl q) λz=>z.elim .inl λq=>.inr<|.inr q]
  ·rcases q with q|q
   ·exact h2.yE a q<|(k2.all a).mpr<|.inl z
   ·exact k2.yE a z q
noncomputable instance ptS{i:Nat}{ρ τ D D':Type}[Ow ρ][Ow τ][Sls D][Sls D'][A:Pt i D' τ D]:Pt (i+1) (ρ×D') τ (ρ×D) where
 put b x:=(b.1,A.put b.2 x)
 back:=λ{F F1 F2 R H b x v σ} h t s=>by
  refine e4a4 h λv' σ' G1 G2 h1 h2 h3 h4=>?_;have t':DF (λa=>F1 a\/G2 a) F1 G2:=#[λa=>Iff.rfl,λa z q=>t.yE a z<|(h2.all a).mpr<|.inr q];refine⟨v',σ'.set i v,G1,λa=>F1 a\/G2 a,by rw[h1];rfl,#[λa=>?_,λa z q=>?_],h3,A.back h4 t' s⟩
  ·rw[t.all,h2.all];exact#[λz=>z.elim (λq=>.inr<|.inl q) λz=>z.elim .inl λq=>.inr<|.inr q,λz=>z.elim (λq=>.inr<|.inl q) λz=>z.elim .inl λq=>.inr<|.inr q]
  ·rcases q with q|q
   ·exact t.yE a q<|(h2.all a).mpr<|.inl z
   ·exact h2.yE a z q
class Fg(D:Type)[Sls D](D':Type)[Sls D'] where
 fg:D->D'
 le:∀{F R:Rg} {H:Hp} {d:D} {σ:St},rel F R H d σ->∃F',(∀a,F' a->F a)/\rel F' R H (fg d) σ
noncomputable instance fgId{D:Type}[Sls D]:Fg D D:=#[id,λh=>#[_,λ_ z=>z,h]]
def two_le{F d e b c:Rg}(t:DF F d e)(f:∀a,b a->d a)(g:∀a,c a->e a):DF (λa=>b a\/c a) b c:=#[λ_=>Iff.rfl,λa x y=>t.yE a (f a x)<|g a y]
instance(priority:=low) fgUn {τ D D':Type}[Ow τ][Sls D][Sls D'][A:Fg D D']:Fg (τ×D) (Un×D'):=#[λd=>(#[],A.fg d.2),λh=>by
 obtain⟨v,σ',F1,F2,h1,h2,h3,h4⟩:=h;obtain⟨F',k1,k2⟩:=A.le h4
 exact#[_,λa z=>(h2.all a).mpr (.inr (k1 a (z.elim (λq=>q.elim) id))),v,σ',λ_=>False,F',h1,#[λa=>Iff.rfl,λ_ z _=>z],λ_ z=>z,k2]]
noncomputable instance fgCons{τ D D':Type}[Ow τ][Sls D][Sls D'][A:Fg D D']:Fg (τ×D) (τ×D'):=#[λd=>(d.1,A.fg d.2),λh=>by
 refine e4a4 h λv σ' F1 F2 h1 h2 h3 h4=>?_;refine e1a2 (A.le h4) λF' k1 k2=>?_
 exact#[_,λa z=>(h2.all a).mpr (z.elim .inl λq=>.inr (k1 a q)),v,σ',F1,F',h1,two_le h2 (λ_ z=>z) k1,h3,k2]]
class Pj(D:Type)[Sls D](P:Type)[Sls P](n:outParam Nat) where
 pj:D->P
 le:∀{F R:Rg} {H:Hp} {d:D} {σ:St},rel F R H d σ->∃F',(∀a,F' a->F a)/\rel F' R H (pj d) (σ.take n)
noncomputable instance pjNil{D:Type}[Sls D]:Pj D Unit 0:=#[λ_=>(),λh=>#[λ_=>False,λ_ z=>z.elim,rfl,λ_ z=>z]]
instance(priority:=low) pjUn {τ D P:Type}{n:Nat}[Ow τ][Sls D][Sls P][A:Pj D P n]:Pj (τ×D) (Un×P) (n+1):=#[λd=>(#[],A.pj d.2),λh=>by
 obtain⟨v,σ',F1,F2,h1,h2,h3,h4⟩:=h;obtain⟨F',k1,k2⟩:=A.le h4
 exact#[_,λa z=>(h2.all a).mpr (.inr (k1 a (z.elim (λq=>q.elim) id))),v,σ'.take n,λ_=>False,F',by rw[h1];rfl,#[λa=>Iff.rfl,λ_ z _=>z],λ_ z=>z,k2]]
noncomputable instance pjCons{τ D P:Type}{n:Nat}[Ow τ][Sls D][Sls P][A:Pj D P n]:Pj (τ×D) (τ×P) (n+1):=#[λd=>(d.1,A.pj d.2),λh=>by
 refine e4a4 h λv σ' F1 F2 h1 h2 h3 h4=>?_;refine e1a2 (A.le h4) λF' k1 k2=>?_
 exact#[_,λa z=>(h2.all a).mpr (z.elim .inl λq=>.inr (k1 a q)),v,σ'.take n,F1,F',by rw[h1];rfl,two_le h2 (λ_ z=>z) k1,h3,k2]]
class Sel(is:List Nat)(D:Type)[Sls D](S:outParam Type)[Sls S](D0:outParam Type)[Sls D0] where
 sel:D->S
 rest:D->D0
 mrg:D0->S->D
 cut:∀{F R:Rg} {H:Hp} {d:D} {σ:St},rel F R H d σ->∃F1 F2,DF F F1 F2/\rel F1 R H (sel d) (is.map λi=>σ[i]?.join)/\rel F2 R H (rest d) σ/\∀i∈is,i<σ.length
 join:∀{F F1 F2 R:Rg} {H:Hp} {d:D0} {s:S} {σ:St},DF F F1 F2->rel F1 R H s (is.map λi=>σ[i]?.join)->rel F2 R H d σ->(∀i∈is,i<σ.length)->rel F R H (mrg d s) σ
noncomputable instance selNil{D:Type}[Sls D]:Sel [] D Unit D where
 sel _:=()
 rest d:=d
 mrg d _:=d
 cut:=λ{F R H d σ} h=>#[λ_=>False,F,#[λa=>#[.inr,λz=>z.elim (λq=>q.elim) id],λ_ z _=>z],#[rfl,λ_ z=>z],h,λ_ z=>by cases z]
 join:=λ{F F1 F2 R H d s σ} t h1 h2 _=>Sls.fq h2 λa=>#[λz=>(t.all a).mpr<|.inr z,λz=>((t.all a).mp z).elim (λq=>ii q<|h1.2 a) id]
noncomputable instance selCons{i:Nat}{is:List Nat}{D τ D1 S D0:Type}[Sls D][Ow τ][Sls D1][Sls S][Sls D0][A:At i D τ D1][P:Pt i D1 τ D][B:Sel is D1 S D0]:Sel (i::is) D (τ×S) D0 where
 sel d:=(A.get d,B.sel<|A.hole d)
 rest d:=B.rest<|A.hole d
 mrg d s:=P.put (B.mrg d s.2) s.1
 cut:=λ{F R H d σ} h=>by
  refine e3a4 (A.take h) λv F1 F2 h1 h2 h3 h4=>?_;refine e2a4 (B.cut h4) λG1 G2 k1 k2 k3 k4=>?_;have hv:σ[i]?.join=v:=by rw[h1];rfl
  refine#[λa=>F1 a\/G1 a,G2,#[λa=>?_,λa z q=>?_],#[v,_,F1,G1,by rw[iC,hv],#[λ_=>Iff.rfl,λa z q=>h2.yE a z<|(k1.all a).mpr<|.inl q],h3,k2],k3,λj hj=>?_]
  ·rw[h2.all,k1.all];exact#[λz=>z.elim (λq=>.inl<|.inl q) λz=>z.elim (λq=>.inl<|.inr q) .inr,λz=>z.elim (λz=>z.elim .inl λq=>.inr<|.inl q) λq=>.inr<|.inr q]
  ·rcases z with z|z
   ·exact h2.yE a z<|(k1.all a).mpr<|.inr q
   ·exact k1.yE a z q
  ·rcases List.mem_cons.mp hj with e|e
   ·rw[e];exact(List.getElem?_eq_some_iff.mp h1).1
   ·exact k4 j e
 join:=λ{F F1 F2 R H d s σ} t h1 h2 hl=>by
  refine e4a4 h1 λv σ' G1 G2 k1 k2 k3 k4=>?_;rw[iC]at k1;injection k1 with e1 e2;subst e2;have hi:i<σ.length:=hl i gY
  have ev:σ[i]?=↑v:=by rw[jD hi]at e1 ⊢;exact congrArg some e1
  have t2:DF (λa=>G2 a\/F2 a) G2 F2:=#[λ_=>Iff.rfl,λa z q=>t.yE a ((k2.all a).mpr<|.inr z) q];refine Pt.same (B.join t2 k4 h2 λj hj=>hl j<|hI _ hj) ev ⟨λa=>?_,λa z q=>?_⟩ k3
  ·rw[t.all,k2.all];exact#[λz=>z.elim (λz=>z.elim .inl λq=>.inr<|.inl q) λq=>.inr<|.inr q,λz=>z.elim (λq=>.inl<|.inl q) λz=>z.elim (λq=>.inl<|.inr q) .inr]
  ·rcases q with q|q
   ·exact k2.yE a z q
   ·exact t.yE a ((k2.all a).mpr<|.inl z) q
structure wq(T:gV){D:Type}[Sls D](F R:Rg)(H:Hp)(d:D)(σ:St):Prop where
 rel:rel F R H d σ
 sub:∀a,F a->R a
 xD:∀a,R a->H a≠none
 tab:TabAt H T
 v4:R T
 vS:¬F T
def zu(t:TabAt H T):H T≠none:=by refine e1a2 t λa e _=>?_;rw[e];simp
structure Ch(T:gV)(F R:Rg)(H:Hp)(F' R':Rg)(H':Hp):Prop where
 keep:∀b o,¬F b->b≠T->H b=↑o->H' b=↑o
 Aw:∀a,R' a->R a\/H a=none
 yJ:∀a,F' a->F a\/H a=none
 left:∀a,R a->¬F a->R' a
def Ch.refl(T:gV)(F R:Rg)(H:Hp):Ch T F R H F R H:=#[λ_ _ _ _ h=>h,λ_ h=>.inl h,λ_ h=>.inl h,λ_ h _=>h]
def Ch.trans{T:gV}{D:Type}[Sls D]{d:D}{u:St}{F R k l m p:Rg}{H j r:Hp}(s:wq T F R H d u)(v:TabAt j T)(a:Ch T F R H k l j)(b:Ch T k l j m p r):Ch T F R H m p r:=by
 have g:∀c,¬F c->H c≠none->¬k c:=λc n h z=>by
  rcases a.yJ c z with q|q
  ·exact n q
  ·exact h q
 have f:∀c,j c=none->¬(F c)->H c=none:=λc h n=>by
  cases e:H c with
  |none=>rfl
  |some o =>
   have w:c≠T:=λz=>by rw[z]at h;exact zu v h
   rw[a.keep c o n w e]at h;cases h
 refine#[λc o n t h=>b.keep c o (g c n<|by rw[h];simp) t<|a.keep c o n t h,λc h=>?_,λc h=>?_,λc h n=>b.left c (a.left c h n)<|g c n<|s.xD c h]
 ·rcases b.Aw c h with q|q
  ·exact a.Aw c q
  ·by_cases i:F c
   ·exact .inl<|s.sub c i
   ·exact .inr<|f c q i
 ·rcases b.yJ c h with q|q
  ·exact a.yJ c q
  ·by_cases i:F c
   ·exact .inl i
   ·exact .inr<|f c q i
def Ch.ext(c:Ch T F R H f d e):Ext (λa=>F a\/a=T) R H d e:=#[λb o n h=>c.keep b o (λz=>n<|.inl z) (λz=>n<|.inr z) h,c.Aw]
def wq.val{T:gV}{D:Type}[Sls D]{d:D}{σ:St}{F R F' R':Rg}{H H':Hp}(s:wq T F R H d σ)(c:Ch T F R H F' R' H'){α:Type}[Rep α]{x:α}{v:V}(h:rp R H x v):rp R' H' x v :=
 Rep.st h (c.ext.wide λa z=>z.elim (s.sub a) λq=>by rw[q];exact s.v4)
def wq.new{T:gV}{D:Type}[Sls D]{d:D}{c:St}{F R:Rg}{H:Hp}(s:wq T F R H d c){p:gV}(o:HO)(f:H p=none):wq T F R (upd H p o) d c/\Ch T F R H F R (upd H p o)/\¬R p:=by
 have g:¬R p:=λz=>s.xD p z f;have k:∀b u,H b=↑u->upd H p o b=↑u:=λb u e=>by rw[ve<|vq e f];exact e
 refine#[#[Sls.st s.rel (G:=λ_=>False) #[λb u _ e=>k b u e,λa h=>.inl h] (λ_ z=>z.elim)<|λ_ _ z=>z,s.sub,λa z=>?_,?_,s.v4,s.vS],#[λb u _ _ e=>k b u e,λa h=>.inl h,λa h=>.inl h,λa h _=>h],g]
 ·cases e:H a with
  |none=>exact ii e<|s.xD a z
  |some u=>rw[k a u e];simp
 ·refine e1a2 s.tab λi e t=>?_;exact#[i,k _ _ e,t]
def EW(X:Cx)(E:XK)(T:gV)(e:iT){D α:Type}[Sls D][Rep α](w:Wf D α D):Prop :=
 ∃t,PE X e t/\∀(d:D)(F R:Rg)(σ:St)(H:Hp)(Kn:α->D->Prop)(Ke:gV->D->Prop)(Q:VK),wq T F R H d σ->w d Kn Ke ->
  (∀x d' v F' R' H',Kn x d'->Ch T F R H F' R' H'->wq T F' R' H' d' σ->rp R' H' x v->Q v H') ->
  (∀C y d' F' R' H',Ke C d'->Ch T F R H F' R' H'->wq T F' R' H' d' σ->E (.ref C) ↑y H')->t σ H Q
@[reducible] def cK{D K a:Type}(w:D->a->72->Prop)(g:K->a):D->K->72->Prop:=λd b c=>w d (g b) c
@[reducible] def cB{D a K b:Type}(w:Wf D a D)(v:D->b->72->Prop)(g:a->K->b):D->K->72->Prop:=λd e c=>w d (λx f=>v f (g x e) c) c
@[reducible] def cA{D:Type}(w v:Wf D Bool D):D->(Bool->D->Prop)->72->Prop:=λd a b=>w d (λx c=>if x=true then v c a b else a false c) b
@[reducible] def cO{D:Type}(w v:Wf D Bool D):D->(Bool->D->Prop)->72->Prop:=λd a b=>w d (λx c=>if x=true then a true c else v c a b) b
@[reducible] def cC{D e P B g a:Type}(w:D->(P->B->g->Prop)->72->Prop)(f:Wf P e a)(m:B->g->a->D):D->(e->D->Prop)->72->Prop:=λd i h=>w d (λp b l=>f p (λx c=>i x<|m b l c) λC c=>h C<|m b l c) h
@[reducible] def cM{D e g P B h a:Type}(w:D->(P->B->h->Prop)->72->Prop)(f:Wf (g×P) e a)(t:B->g)(m:B->h->a->D):D->(e->D->Prop)->72->Prop:=λd j i=>w d (λp b l=>f (t b,p) (λx c=>j x<|m b l c) λC c=>i C<|m b l c) i
@[reducible] def cN{D i e P B g a:Type}(w:D->(P->B->g->Prop)->72->Prop)(f:Wf (e×P) i a)(t:B->e)(m:B->g->a->D):D->(D->Prop)->72->Prop:=λd j h=>w d (λp b l=>f (t b,p) (λ_ c=>j<|m b l c) λC c=>h C<|m b l c) h
@[reducible] def cS{D a b c e:Type}(w:D->e->72->Prop)(j:D->b)(g:(a->Prop)->c->e):D->(a->Prop)->c->(gV->b->Prop)->Prop:=λd f h i=>w d (g f h) λC k=>i C<|j k
@[reducible] def cG{D a D' b c:Type}(w:D->(a->Prop)->b->c->Prop)(g:a->D'):D->(D'->Prop)->b->c->Prop:=λd e f h=>w d (λi=>e<|g i) f h
@[reducible] def cI{D e a f:Type}(w:Wf D Bool D)(u v:D->(e->Prop)->f->(gV->a->Prop)->Prop)(j:D->a):D->(e->Prop)->f->(gV->a->Prop)->Prop:=λd g h c=>w d (λb i=>if b=true then u i g h c else v i g h c) λC k=>c C<|j k
@[reducible] def cW{D c a e:Type}(w:Wf D Bool D)(v:D->(c->Prop)->e->(gV->a->Prop)->Prop)(g:c->D)(j:D->a):D->(D->Prop)->e->(gV->a->Prop)->Prop:=λd k l f=>∃W:Nat->D->Prop,(∃m,W m d)/\∀m d,W m d->w d (λb h=>if b=true then v h (λn=>∃i,i<m/\W i (g n)) l f else k h) λC o=>f C<|j o
@[reducible] def cT{D a b:Type}(w:D->(D->Prop)->72->Prop)(v:D->(D->Prop)->b->(gV->a->Prop)->Prop)(e:List gV):D->(D->Prop)->b->(gV->a->Prop)->Prop:=λd c f g=>w d c λC h=>C∈e/\v h c f g
structure Nw(T:gV){τ:Type}[Ow τ](F1 F2 R:Rg)(H:Hp)(x:τ)(v:V):Prop where
 is:sl F1 R H x ↑v
 sub:∀a,F1 a->R a
 yE:∀a,F1 a->F2 a->False
 tab:¬F1 T
def EO(X:Cx)(E:XK)(T:gV)(e:iT){D h:Type}[Sls D][Ow h](w:Wf D h D):Prop :=
 ∃t,PE X e t/\∀(d:D)(F R:Rg)(g:St)(H:Hp)(j:h->D->Prop)(k:gV->D->Prop)(Q:VK),wq T F R H d g->w d j k ->
  (∀x f v l i c b,j x f->Ch T F R H (λa=>l a\/i a) c b->wq T i c b f g->Nw T l i c b x v->Q v b) ->
  (∀C y f m c b,k C f->Ch T F R H m c b->wq T m c b f g->E (.ref C) ↑y b)->t g H Q
def TW(X:Cx)(E:XK)(T:gV)(e:iT){D:Type}[Sls D](w:Wf D Bool D):Prop :=
 ∃t,PT X e t/\∀(d:D)(F R:Rg)(g:St)(H:Hp)(h:Bool->D->Prop)(i:gV->D->Prop)(Q:Bool->Hp->Prop),wq T F R H d g->w d h i ->
  (∀x b c f a,h x b->Ch T F R H c f a->wq T c f a b g->Q x a) ->
  119->t g H Q
section
variable{D:Type}[Sls D]
def Yb{F R F1 F2 R':Rg}{H H':Hp}{d d':D}{σ:St}{α:Type}[Rep α]{x:OL α}{v:V}(s:wq T F R H d σ)(c:Ch T F R H (λa=>F1 a\/F2 a) R' H')(s':wq T F2 R' H' d' σ)(n:Nw T F1 F2 R' H' x v) :
  ∃Kj,Ch T F R H F2 Kj H'/\wq T F2 Kj H' d' σ/\rp Kj H' x.l v:=by
 have ex:Ext (λ_=>False) R' H' (λa=>R' a/\¬F1 a) H':=#[λ_ _ _ h=>h,λa h=>.inl h.1];refine#[λa=>R' a/\¬F1 a,#[c.keep,λa h=>c.Aw a h.1,λa h=>c.yJ a<|.inr h,λa h k=>#[c.left a h k,λz=>?_]],#[Sls.st s'.rel ex (λ_ z=>z.elim)<|λ_ _ z=>z,λa h=>#[s'.sub a h,λz=>n.yE a z h],λa h=>s'.xD a h.1,s'.tab,#[s'.v4,n.tab],s'.vS],?_]
 ·rcases c.yJ a (.inl z) with q|q
  ·exact k q
  ·exact s.xD a h q
 ·refine e2a4 n.is λa vs h1 h2 h3 h4=>?_;cases h1;exact#[a,vs,rfl,λz=>z.2<|(h2 a).mpr rfl,h3,wz (ex.wide λ_ z=>z.elim) h4]
def vN{α:Type}[Rep α]{w:Wf D (OL α) D}(h:EO X E T e w):EW X E T e (cK w λKn x d'=>Kn x.l d'):=by refine e1a2 h λt h1 h2=>?_;refine#[t,h1,λd F R σ H Kn Ke Q s hw kn ke=>h2 d F R σ H _ Ke Q s hw (λx d' v F1 F2 R' H' q c s' n=>?_) ke];refine e1a3 (Yb s c s' n) λKj c2 s2 r=>?_;exact kn x.l d' v F2 Kj H' q c2 s2 r
def xW{F R:Rg}{H:Hp}{d:D}{σ:St}{α:Type}[Rep α]{xs:List α}{vs:List V}{p:gV}(s:wq T F R H d σ)(hp:H p=none)(h:Paired (rp R H) xs vs) :
  ∃R',Ch T F R H (λa=>a=p\/F a) R' (upd H p<|.lst vs)/\wq T F R' (upd H p<|.lst vs) d σ/\Nw T (λa=>a=p) F R' (upd H p<|.lst vs) (OL.mk xs) (.ref p):=by
 refine e0a3 (s.new (.lst vs) hp) λs1 c1 n1=>?_;have nF:¬F p:=λz=>n1<|s.sub p z;have ex:Ext (λ_=>False) R H (λa=>R a\/a=p) (upd H p<|.lst vs):=⟨λb o _ h=>by rw[ve<|vq h hp];exact h,λa h=>h.elim .inl λq=>.inr<|by rw[q];exact hp⟩;refine⟨λa=>R a\/a=p,#[c1.keep,ex.new,λa h=>h.elim (λq=>.inr<|by rw[q];exact hp) .inl,λa h _=>.inl h],#[Sls.st s.rel ex (λ_ z=>z.elim)<|λ_ _ z=>z,λa h=>.inl<|s.sub a h,λa h=>?_,s1.tab,.inl s.v4,s.vS],#[#[p,vs,rfl,λb=>Iff.rfl,vh,wz (ex.wide λ_ z=>z.elim) h],λa h=>.inr h,λa h k=>nF (by rw[<- h];exact k),λh=>n1<|by rw[<- h];exact s.v4]⟩;rcases h with h|h
 ·exact s1.xD a h
 ·rw[h,vh];simp
def UH{i:Nat}{τ D':Type}[Ow τ][Sls D'][A:At i D τ D']{F R:Rg}{H:Hp}{d:D}{σ:St}(s:wq T F R H d σ):∃v F1 F2,σ[i]?=↑v/\DF F F1 F2/\sl F1 R H (A.get d) v/\rel F2 R H (A.hole d) σ:=A.take s.rel
def ss[Rep a][Sls c](i:Nat)[A:At i D a c](e:PE X 97 (vQ i):=by exact pv _):EW X E T 97 (λ(d:D)(b:a->D->Prop) _=>b (A.get d) d):=by refine#[_,e,λd F R k H b l Q s f g _=>?_];obtain⟨v,m,n,h,o,⟨_,u,rfl,j⟩,_⟩:=A.take s.rel;exact#[u,h,g _ d u F R H f 61 s j]
def vi{n:Int}{k:Nat}:EW X E T (.Constant (.int n) k pos) (λ(d:D)(a:Int->D->Prop) _=>a n d) :=
 #[_,vH,λd F R e H a f Q s b c _=>c n d _ F R H b 61 s rfl]
def xP{b:Bool}{k:Nat}:EW X E T (.Constant (.bool b) k pos) (λ(d:D)(a:Bool->D->Prop) _=>a b d) :=
 #[_,Zs,λd F R f H a g Q s c e _=>e b d _ F R H c 61 s rfl]
def La{k:Nat}:EW X E T (.Constant .none k pos) (λ(d:D)(a:Unit->D->Prop) _=>a () d) :=
 #[_,Kq,λd F R e H a f Q s b c _=>c () d _ F R H b 61 s rfl]
def Qx{α β γ:Type}[Rep α][Rep β][Rep γ]{wa:Wf D α D}{wb:Wf D β D}{c:α->β->Prop}{g:α->β->γ}
 (ha:EW X E T a wa) (hb:EW X E T b wb) (he:∀ta tb,PE X a ta->PE X b tb->PE X e (Zf r ta tb))
 (hr:∀{R:Rg} {H:Hp} {x:α} {y:β} {u v:V} {Q:VK},rp R H x u->rp R H y v->c x y->(∀z,rp R H (g x y) z->Q z H)->r u v H Q) :
    EW X E T e (cB wa wb λx Kn y d2=>c x y/\Kn (g x y) d2):=by
  refine e1a2 ha λta a1 a2=>?_
  refine e1a2 hb λtb b1 b2=>?_
  refine#[_,he ta tb a1 b1,λd F R σ H Kn Ke Q s hw kn ke=>?_]
  refine a2 d F R σ H _ Ke _ s hw (λx d1 u F1 R1 H1 q1 c1 s1 r1=>?_) ke
  refine b2 d1 F1 R1 σ H1 _ Ke _ s1 q1 (λy d2 v F2 R2 H2 q2 c2 s2 r2=>?_) λC y d' F' R' H' k c s'=>ke C y d' F' R' H' k (Ch.trans s s1.tab c1 c) s'
  exact hr (s1.val c2 r1) r2 q2.1 λz rz=>kn _ d2 z F2 R2 H2 q2.2 (Ch.trans s s1.tab c1 c2) s2 rz
def Yc{α γ:Type}[Rep α][Rep γ]{r:V->Hp->VK->Prop}{wa:Wf D α D}{c:α->Prop}{g:α->γ}
 (ha:EW X E T a wa) (he:∀ta,PE X a ta->PE X e (tUn r ta)) (hr:∀{R:Rg} {H:Hp} {x:α} {u:V} {Q:VK},rp R H x u->c x->(∀z,rp R H (g x) z->Q z H)->r u H Q) :
    EW X E T e (cK wa λKn x d1=>c x/\Kn (g x) d1):=by
  refine e1a2 ha λta a1 a2=>?_
  refine#[_,he ta a1,λd F R σ H Kn Ke Q s hw kn ke=>?_]
  refine a2 d F R σ H _ Ke _ s hw (λx d1 u F1 R1 H1 q1 c1 s1 r1=>?_) ke
  exact hr r1 q1.1 λz rz=>kn _ d1 z F1 R1 H1 q1.2 c1 s1 rz
def Qy{c:Int->Int->Prop}{g:Int->Int->Int}{f h:Wf D Int D}(l:Bb X (mM op) (rI c λi j=>.int<|g i j))(m:EW X E T a f)(n:EW X E T b h) :
  EW X E T (.BinOp a op b pos) (cB f h λx o y p=>c x y/\o (g x y) p) :=
 Qx (γ:=Int) m n (λr s d e=>xg l d e) λd e q k=>#[_,_,d,e,q,k _ rfl]
def zb{g:Int->Int->Int}{wa wb:Wf D Int D}(ho:Bb X (mM op) (TL λi j=>.int<|g i j))(ha:EW X E T a wa)(hb:EW X E T b wb) :
  EW X E T (.BinOp a op b pos) (cB wa wb λx Kn y d2=>Kn (g x y) d2):=by
 have h:=Qx (c:=λ_ _=>True) (γ:=Int) (g:=g) (e:=.BinOp a op b pos) ha hb (λta tb h1 h2=>xg ho h1 h2) λh1 h2 _ k=>#[_,_,h1,h2,k _ rfl];simp only[true_and]at h;exact h
class JB(α:Type)[Rep α][DecidableEq α] where
 sc:∀{R:Rg} {H:Hp} {x y:α} {u v:V},rp R H x u->rp R H y v->Xu u v=true/\decide (u=v)=decide (x=y)
instance:JB Int:=#[λ{R H x y u v} h1 h2=>by
 subst h1;subst h2;refine#[rfl,?_];by_cases e:x=y
 ·rw[e];simp
 ·rw[ik e,ik (λz=>e (by cases z;rfl))]]
instance:JB Bool:=#[λ{R H x y u v} h1 h2=>by
 subst h1;subst h2;refine#[rfl,?_]
 cases x<;>cases y<;>rfl]
def MS{α:Type}[Rep α]{x:Option α}(h:rp R H x u):decide (u=.wP)=x.isNone:=by
 cases x with
 |none=>have h:u=.wP:=h;rw[h];rfl
 |some y=>exact ik h.1
end
variable[L2.GX]
section
variable{D:Type}[Sls D]
def vv{b:Type}[Rep b]{w:Wf D b D}(h:EO X E T e w):EW X E T e w:=by refine e1a2 h λt f g=>?_;refine#[t,f,λd F R i H B j Q s k l m=>g d F R i H _ j Q s k (λx o v C p r y q c z n=>?_) m];obtain⟨G,u,e,A⟩:=n.is;cases e;exact l x o v p r y q #[c.keep,c.Aw,λa h=>c.yJ a<|.inr h,c.left] z A
def vC{b:Type}[Rep b]{w:Wf D b D}(h:EW X E T e w):EO X E T e w:=by refine e1a2 h λt f g=>?_;refine#[t,f,λd F R i H A j Q s k l m=>g d F R i H _ j Q s k (λx n v o p u q c y r=>?_) m];exact l x n v (λ_=>False) o p u q #[c.keep,c.Aw,λa h=>c.yJ a<|h.elim (λz=>z.elim) id,c.left] y #[#[λ_ z=>z,v,rfl,r],λ_ z=>z.elim,λ_ z=>z.elim,λz=>z]
end
class Hs(τ:Type)[Ow τ]:Prop where
 has:∀{F R:Rg} {H:Hp} {x:τ} {v:Option V},sl F R H x v->∃u,v=↑u
instance{α:Type}[Rep α]:Hs (OL α):=#[λz9=>e2a2 z9 λa _ h _=>#[_,h]]
instance{α:Type}[Rep α]:Hs α:=#[λz9=>e0a2 z9 λ_ z39=>e1a2 z39 λu h _=>#[u,h]]
structure Std(T:gV)(F R:Rg)(H:Hp):Prop where
 sub:∀a,F a->R a
 xD:∀a,R a->H a≠none
 tab:TabAt H T
 v4:R T
 vS:¬F T
def wq.IP{T:gV}{D:Type}[Sls D]{F R:Rg}{H:Hp}{d:D}{a:St}(s:wq T F R H d a):Std T F R H:=#[s.sub,s.xD,s.tab,s.v4,s.vS]
def Std.stt{T:gV}{D:Type}[Sls D]{F R:Rg}{H:Hp}{d:D}{a:St}(s:Std T F R H)(h:rel F R H d a):wq T F R H d a:=#[h,s.sub,s.xD,s.tab,s.v4,s.vS]
section
variable{D:Type}[Sls D]
def two_nil(F:Rg):DF F (λ_=>False) F:=#[λ_=>#[.inr,λz=>z.elim (λq=>q.elim) id],λ_ z _=>z]
def two_eq(t:DF F b c)(n:∀a,¬b a):∀a,c a↔F a:=λa=>#[λz=>(t.all a).mpr<|.inr z,λz=>((t.all a).mp z).elim (λq=>ii q<|n a) id]
end
def yK(T:gV){P d f:Type}[Sls P][Sls d][Ow f](w:Wf P f d):Sp:=λg H Q E=>∃(F R:Rg)(p:P)(i:f->d->Prop)(j:gV->d->Prop),wq T F R H p (g.map some)/\w p i j /\
 (∀x e v k h c b,i x e->Ch T F R H (λa=>k a\/h a) c b->wq T h c b e (g.map some)->Nw T k h c b x v->Q v b) /\
 (∀C y e l c b,j C e->Ch T F R H l c b->wq T l c b e (g.map some)->E (.ref C) ↑y b)
def Ag(c:List Nat)(b a:St):Prop:=a.length=b.length/\∀i∈c,a[i]?=b[i]?
def Ag.refl(b:List Nat)(a:St):Ag b a a:=#[rfl,λ_ _=>rfl]
def Ag.trans(a:Ag e f c)(b:Ag e c d):Ag e f d:=#[b.1.trans a.1,λi h=>(b.2 i h).trans<|a.2 i h]
def Ag.set{i:Nat}(h:i∉a):Ag a b (b.set i v):=#[mD,λj c=>nC λe=>h<|by rw[e];exact c]
structure TR(P:Type)[Sls P](ms:List Nat)(n:Nat):Prop where
 dp:∀{F R:Rg} {H:Hp} {p:P} {σ σ':St},Ag ms σ σ'->rel F R H p (σ'.take n)->rel F R H p (σ.take n)
class Dp(P:Type)[Sls P](n:outParam Nat)(l:outParam (List Nat)):Prop where
 dp:TR P l n
instance dp0:Dp Unit 0 []:=#[#[λ{F R H p σ σ'} _ h=>#[rfl,h.2]]]
instance(priority:=high) dpU {P:Type}{n:Nat}{l:List Nat}[Sls P][A:Dp P n l]:Dp (Un×P) (n+1) (l.map (· + 1)):=#[#[λ{F R H p σ σ'} a r=>by
 refine e4a4 r λv σ1 F1 F2 h1 h2 h3 h4=>?_
 cases σ' with
 |nil=>cases h1
 |cons v' r' =>
  cases σ with
  |nil=>have:=a.1;simp at this
  |cons u r =>
   injection h1 with e1 e2;subst e2;refine#[u,r.take n,F1,F2,rfl,h2,h3,A.dp.dp (σ':=r') #[by have:=a.1;simpa using this,λi hi=>?_] h4];have:=a.2 (i+1)<|List.mem_map.mpr #[i,hi,rfl]
   simpa using this]]
instance dpO{τ P:Type}{n:Nat}{l:List Nat}[Ow τ][Sls P][A:Dp P n l]:Dp (τ×P) (n+1) (0::l.map (· + 1)):=#[#[λ{F R H p σ σ'} a r=>by
 refine e4a4 r λv σ1 F1 F2 h1 h2 h3 h4=>?_
 cases σ' with
 |nil=>cases h1
 |cons v' r' =>
  cases σ with
  |nil=>have:=a.1;simp at this
  |cons u r =>
   injection h1 with e1 e2;subst e2
   have e0:v'=u:=by have:=a.2 0 gY;simpa using this
   subst e0;subst e1;refine#[v',r.take n,F1,F2,rfl,h2,h3,A.dp.dp (σ':=r') #[by have:=a.1;simpa using this,λi hi=>?_] h4];have:=a.2 (i+1)<|hI _<|List.mem_map.mpr #[i,hi,rfl]
   simpa using this]]
def vI[Sls P]{n:Nat}[A:Dp P n l](h:∀i∈l,i∈b):TR P b n:=#[λa r=>A.dp.dp #[a.1,λi c=>a.2 i<|h i c] r]
def WM(E:XK)(T:gV)(u:List Nat)(n:Nat)(t:TS){D j f k:Type}[Sls D][Sls j][Sls f][Ow k](w:D->(j->Prop)->(k->f->Prop)->(gV->f->Prop)->Prop):Prop :=
 ∀(d:D)(F R:Rg)(g:St)(H:Hp)(o:j->Prop)(p:k->f->Prop)(q:gV->f->Prop)(l:Ends),wq T F R H d g->w d o p q ->
  (∀r h c b e,o r->Ch T F R H h c b->wq T h c b r e->Ag u g e->l.nx e b) ->
  (∀x i v s m c b,p x i->Ch T F R H (λa=>s a\/m a) c b->wq T m c b i (g.take n)->Nw T s m c b x v->l.rt v b) ->
  (∀C y i h c b,q C i->Ch T F R H h c b->wq T h c b i (g.take n)->E (.ref C) ↑y b)->t l g H
def S1(X:Cx)(E:XK)(T:gV)(d:List Nat)(n:Nat)(e:iB){D b a c:Type}[Sls D][Sls b][Sls a][Ow c](w:D->(b->Prop)->(c->a->Prop)->(gV->a->Prop)->Prop):Prop:=∃t,PS X e t/\WM E T d n t w
def SW(X:Cx)(E:XK)(T:gV)(e:List Nat)(n:Nat)(a:List iB){D c b d:Type}[Sls D][Sls c][Sls b][Ow d](w:D->(c->Prop)->(d->b->Prop)->(gV->b->Prop)->Prop):Prop:=∃t,FF X a t/\WM E T e n t w
section
variable{D D' D1 PO τ:Type}[Sls D][Sls D'][Sls D1][Sls PO][Ow τ]
def vG:SW X E T f n [] (λ(d:D)(a:D->Prop)(_:τ->PO->Prop) _=>a d) :=
 #[_,zH,λd F R b H a g h i s c e _ _=>e d F R H b c 61 s<|Ag.refl _ _]
def Qz:SW X E T e n a (λ(d:D)(b:D'->Prop)(_:τ->PO->Prop) _=>False) :=
 #[_,NL,λd F R f H b g h i s c j _ _=>c.elim]
def a2k{t:TS}[A:Fg D1 D']{w:D->(D1->Prop)->101->85->Prop}(f:WM E T g n t w):WM E T g n t (cG (D':=D') w A.fg):=by refine λd F R i H x j k l s m o p r=>f d F R i H _ j k l s m (λy z u v e q c b a=>?_) p r;refine e1a2 (A.le b.rel) λG g1 g2=>?_;exact o _ G u v e q #[c.keep,c.Aw,λa h=>c.yJ a<|g1 a h,c.left] ⟨g2,λa h=>b.sub a<|g1 a h,b.xD,b.tab,b.v4,λh=>b.vS<|g1 _ h⟩ a
def JC{a:List iB}[A:Fg D1 D']{w:D->(D1->Prop)->101->85->Prop}(h:SW X E T b n a w):SW X E T b n a (cG (D':=D') w A.fg) :=
 e1a2 h λt c d=> #[t,c,a2k d]
def WN{A:D->(D1->Prop)->101->85->Prop}{B:D1->(D'->Prop)->101->85->Prop}(G:TR PO k n)(L:WM E T k n M A)(N:WM E T k n O B) :
  WM E T k n (Kt M O) (λd l b e=>A d (λo=>B o l b e) b e):=by
 refine λd F R P H l b e Q s S U I J=>L d F R P H _ b e _ s S (λo W X Y p q r j t=>?_) I J;refine N o W X p Y l b e Q j q (λZ u f h w i c a g=>U Z u f h w i (Ch.trans s j.tab r c) a<|t.trans g) (λx z v M1 M2 f h i c a m=>?_) λC y z u f h i c a=>?_
 ·exact I x z v M1 M2 f h i (Ch.trans s j.tab r c) #[G.dp t a.rel,a.sub,a.xD,a.tab,a.v4,a.vS] m
 ·exact J C y z u f h i (Ch.trans s j.tab r c) #[G.dp t a.rel,a.sub,a.xD,a.tab,a.v4,a.vS]
def DO{c:iB}{a:List iB}{w1:D->(D1->Prop)->101->85->Prop}{w2:D1->(D'->Prop)->101->85->Prop}(g:TR PO b n)(h:S1 X E T b n c w1)(i:SW X E T b n a w2) :
  SW X E T b n (c::a) (λd j e f=>w1 d (λk=>w2 k j e f) e f) :=
 e1a2 h λq l m=> e1a2 i λr o p=> #[_,wA l o,WN g m p]
def vf{a:iB}{b:D->(D'->Prop)->101->85->Prop}(c:S1 X E T d n a b):SW X E T d n [a] b :=
 e1a2 c λg e f=> #[_,ye e,f]
def wR[A:Pj D PO n](s:wq T c e f d g):∃G,(∀a,G a->c a)/\wq T G e f (A.pj d) (g.take n):=by refine e1a2 (A.le s.rel) λG b i=>?_;exact#[G,b,i,λa h=>s.sub a<|b a h,s.xD,s.tab,s.v4,λh=>s.vS<|b _ h]
def Ch.less(c:Ch T F R H b d e)(g:∀a,G a->b a):Ch T F R H G d e:=#[c.keep,c.Aw,λa h=>c.yJ a<|g a h,c.left]
def vw[A:Pj D PO n](h:EO X E T e p):S1 X E T M n (.Return ↑e pos) (cS p A.pj λ(_:D'->Prop)(o:τ->PO->Prop) x f=>o x<|A.pj f):=by
 refine e1a2 h λt r u=>?_;refine#[_,CH r,λd F R w H N o O P s B Q I J=>u d F R w H _ _ _ s B (λx f v L S g i q c j m=>?_) λC y f U g i q c j=>?_]
 ·refine e1a2 (wR (PO:=PO) j) λG b l=>?_;exact I x _ v L G g i q (c.less λa h=>h.elim .inl λz=>.inr<|b a z) l ⟨m.is,m.sub,λa h k=>m.yE a h<|b a k,m.tab⟩
 ·refine e1a2 (wR (PO:=PO) j) λG b l=>?_;exact J C y _ G g i q (c.less b) l
def wj{i:Type}[Rep i][A:Pj D PO n]{j:Wf D i D}(h:EW X E T e j)(p:kd e none pos.line X.env=pure false:=by rfl) :
  S1 X E T M n (.Expr e pos) (cS j A.pj λ(k:D->Prop)(r:τ->PO->Prop) _ a=>k a):=by
 refine e1a2 h λt u w=>?_;refine#[_,BM u p,λd F R l H k r N O s z B P I=>w d F R l H _ _ _ s z (λx a v o b f q c g m=>B a o b f l q c g<|Ag.refl _ _) λC y a o b f q c g=>?_];refine e1a2 (wR (PO:=PO) g) λG J L=>?_;exact I C y _ G b f q (c.less J) L
def vJ{a b:List iB}[A:Pj D PO n]{B:Wf D Bool D}{I J:D->(D'->Prop)->101->85->Prop}(hc:TW X E T c B)(ha:SW X E T L n a I)(hb:SW X E T L n b J) :
  S1 X E T L n (.If c a b pos) (cI B I J A.pj):=by
 refine e1a2 hc λtc c1 c2=>?_;refine e1a2 ha λta a1 a2=>?_;refine e1a2 hb λtb b1 b2=>?_;refine#[_,MA c1 a1 b1,λd F R t H M N O P s hw Q S u=>c2 d F R t H _ _ _ s hw (λx U W Y Z q c k=>?_) λC y r l e f q c h=>?_]
 ·cases x with
  |true=>exact a2 U W Y t Z M N O P k q (λr l e f o i j h g=>Q r l e f o i (Ch.trans s k.tab c j) h g) (λx p v w z e f i j h m=>S x p v w z e f i (Ch.trans s k.tab c j) h m) λC y p l e f i j h=>u C y p l e f i (Ch.trans s k.tab c j) h
  |false=>exact b2 U W Y t Z M N O P k q (λr l e f o i j h g=>Q r l e f o i (Ch.trans s k.tab c j) h g) (λx p v w z e f i j h m=>S x p v w z e f i (Ch.trans s k.tab c j) h m) λC y p l e f i j h=>u C y p l e f i (Ch.trans s k.tab c j) h
 ·refine e1a2 (wR (PO:=PO) h) λG g1 g2=>?_;exact u C y _ G e f q (c.less g1) g2
def Gr{i:Nat}[Ow c][Ow e][Sls f][Sls j][A:At i D c f][U:Pt i f e j](s:wq T g R H d k)(m:Nw T F1 g R H x v) :
  ∃G,(∀a,G a->F1 a\/g a)/\wq T G R H (U.put (A.hole d) x) (k.set i<|↑v):=by
 refine e3a4 (A.take s.rel) λo p l r b t n=>?_;refine#[λa=>F1 a\/l a,λa h=>h.elim .inl λz=>.inr<|(b.all a).mpr<|.inr z,U.back n ⟨λ_=>Iff.rfl,λa z q=>m.yE a z<|(b.all a).mpr<|.inr q⟩ m.is,λa h=>h.elim (m.sub a) λz=>s.sub a<|(b.all a).mpr<|.inr z,s.xD,s.tab,s.v4,λh=>h.elim m.tab λz=>s.vS<|(b.all T).mpr<|.inr z]
def vy(i:Nat)[Ow b][Ow f][Sls r][Sls u][A:At i D b r][U:Pt i r f u][J:Pj D PO n](z:X.N.Nodup)(h:EO X E T e B)(I:X.N[i]?=↑x:=by rfl)(hx:Loc X.env.scope x:=by exact kH rfl)(L:i∉M:=by decide)
 (O:kd e (some<|.Name x a) pos.line X.env=pure false:=by rfl) (P:X.fn x=true\/X.env.scope.names.lookup x=some .local:=by first|exact .inl rfl|exact .inr rfl) :
    S1 X E T M n (.Assign [.Name x a] e pos) (cS B J.pj λ(w:u->Prop)(Q:τ->PO->Prop) x g=>w<|U.put (A.hole g) x):=by
  refine e1a2 h λt S W=>?_
  refine#[_,Al z I hx S O P,λd F R Y H w Q Ke En s Z kn kr ke=>W d F R Y H _ _ _ s Z (λx g v F1 F2 j k q c l m=>?_) λC y g F' j k q c l=>?_]
  · refine e1a2 (Gr (i := i) l m) λG o p => ?_
    exact kn _ G j k _ q (c.less o) p<|Ag.set L
  · refine e1a2 (wR (PO := PO) l) λG o p => ?_
    exact ke C y _ G j k q (c.less o) p
end
class Ent(P:Type)[Sls P](k:Nat)(D:outParam Type)[Sls D] where
 ent:P->D
 ok:∀{F R:Rg} {H:Hp} {p:P} {σ:St},rel F R H p σ->rel F R H (ent p) (σ++lm k none)
noncomputable instance ent0:Ent Unit 0 Unit:=#[id,λh=>by obtain⟨rfl,h⟩:=h;exact#[rfl,h]]
noncomputable instance entS{k:Nat}{D:Type}[Sls D][A:Ent Unit k D]:Ent Unit (k+1) (Un×D):=#[λp=>(#[],A.ent p),λ{F R H p σ} h=>by
 obtain⟨rfl,h⟩:=h
 exact#[none,lm k none,λ_=>False,F,by rw[nK];rfl,two_nil F,λ_ z=>z,by simpa using A.ok (σ:=[]) (p:=p) (F:=F) (R:=R) (H:=H) #[rfl,h]]]
noncomputable instance entC{k:Nat}{τ P D:Type}[Ow τ][Sls P][Sls D][A:Ent P k D]:Ent (τ×P) k (τ×D):=#[λp=>(p.1,A.ent p.2),λ{F R H p σ} h=>by
 obtain⟨v,σ',F1,F2,rfl,h2,h3,h4⟩:=h
 exact#[v,σ'++lm k none,F1,F2,rfl,h2,h3,A.ok h4]]
class Ln(P:Type)[Sls P](n:outParam Nat):Prop where
 ln:∀{F R:Rg} {H:Hp} {p:P} {σ:St},rel F R H p σ->σ.length=n
instance ln0:Ln Unit 0:=#[λh=>by rw[h.1];rfl]
instance lnS{τ P:Type}{n:Nat}[Ow τ][Sls P][A:Ln P n]:Ln (τ×P) (n+1):=#[λh=>by
 obtain⟨v,σ',F1,F2,rfl,_,_,h4⟩:=h
 rw[iz,A.ln h4]]
def wJ{r:iB}{N M:List Str}{k j n:Nat}{ms:List Nat}{A PO τ D D':Type}[Sls A][Sls PO][Ow τ][Sls D][Sls D'][L:Ln A n][J:Ent A j D]{O:D->(D'->Prop)->101->85->Prop}
 (F:y9 K x d r f fd) (S:vm N M (vd r)) (hn:M.length=n) (hj:N.length-n=j)
 (i:∀(b:cr)(A:jF)(a:List Env)(s:hR)(H:Hp)(E:XK),wI k (A.deeper<|oV d (vd r) ⇑s f b)->SW (v6 (vX P w) P w K mg base N d (vd r) f b A a s H E) E T ms n (vP r) O) :
    vR P w K mg base (vX P w) (k+1) f fd M (yK T λ(p:A)(U:τ->PO->Prop) l=>O (J.ent p) (λ_=>False) U l):=by
  have e:∀{g:List V} {H:Hp} {Q:VK} {E:XK},yK T (λ(p:A)(U:τ->PO->Prop) l=>O (J.ent p) (λ_=>False) U l) g H Q E->g.length=n:=λh=>by
    obtain⟨F,R,p,Kn,l,s,_⟩:=h
    have:=L.ln s.rel
    rwa [hO]at this
  obtain⟨oc,od,kV,aa,pm,an,b,ct,ab,rfl,lk,W⟩:=F.ex
  refine Jj lk W S (λg H Q E h=>(e h).trans hn.symm) λAr a s H g Q E hr u=>?_
  refine e1a2 (i b Ar a s H E hr) λt h1 h2=>?_
  refine#[t,h1,?_]
  have X:=e u
  obtain⟨F,R,p,Kn,l,o,hw,kn,ke⟩:=u
  have B:start N g=g.map some++lm j none:=by unfold L2.start;rw[X,hj]
  have G:(start N g).take n=g.map some:=by rw[B,nE (by rw[hO,X];exact gZ _),jB<|by rw[hO,X];exact gZ _]
  refine h2 (J.ent p) F R _ H _ Kn l _ #[by rw[B];exact J.ok o.rel,o.sub,o.xD,o.tab,o.v4,o.vS] hw (λ_ _ _ _ _ z=>z.elim) (λx Y v F1 F2 Z H' q c I m=>?_) λC y Y F' Z H' q c I=>?_
  · rw[G]at I
    exact kn x Y v F1 F2 Z H' q c I m
  · rw[G]at I
    exact ke C y Y F' Z H' q c I
def WO{o:iB}{N J:List Str}{k j n:Nat}{ms:List Nat}{A PO τ D D':Type}[Sls A][Sls PO][Ow τ][Sls D][Sls D'][L:Ln A n][I:Ent A j D]{M:D->(D'->Prop)->101->85->Prop}
 (F:y9 K x b o f O) (S:vm N J (vd o)) (hn:J.length=n) (hj:N.length-n=j)
 (g:∀(A:jF)(a:List Env)(s:hR)(H:Hp)(E:XK),wI k (A.deeper<|oV b (vd o) ⇑s f O.code)->SW (v6 (vX P w) P w K mg base N b (vd o) f O.code A a s H E) E T ms n (vP o) M) :
    vR P w K mg base (vX P w) (k+1) f O J (yK T λ(p:A)(U:τ->PO->Prop) i=>M (I.ent p) (λ_=>False) U i):=by
  have d:∀{e:List V} {H:Hp} {Q:VK} {E:XK},yK T (λ(p:A)(U:τ->PO->Prop) i=>M (I.ent p) (λ_=>False) U i) e H Q E->e.length=n:=λh=>by
    obtain⟨F,R,p,Kn,i,s,_⟩:=h
    have:=L.ln s.rel
    rwa [hO]at this
  obtain⟨oc,od,kV,aa,pm,an,ab,ct,ae,rfl,lk,W⟩:=F.ex
  refine Jj lk W S (λe H Q E h=>(d h).trans hn.symm) λAr a s H e Q E hr r=>?_
  refine e1a2 (g Ar a s H E hr) λt h1 h2=>?_
  refine#[t,h1,?_]
  have X:=d r
  obtain⟨F,R,p,Kn,i,l,hw,kn,ke⟩:=r
  have u:start N e=e.map some++lm j none:=by unfold L2.start;rw[X,hj]
  have B:(start N e).take n=e.map some:=by rw[u,nE (by rw[hO,X];exact gZ _),jB<|by rw[hO,X];exact gZ _]
  refine h2 (I.ent p) F R _ H _ Kn i _ #[by rw[u];exact I.ok l.rel,l.sub,l.xD,l.tab,l.v4,l.vS] hw (λ_ _ _ _ _ z=>z.elim) (λx Y v F1 F2 Z H' q c G m=>?_) λC y Y F' Z H' q c G=>?_
  · rw[B]at G
    exact kn x Y v F1 F2 Z H' q c G m
  · rw[B]at G
    exact ke C y Y F' Z H' q c G
def Ev{O:iB}{N ps:List Str}{k j n:Nat}{ms:List Nat}{A PO D D':Type}[Sls A][Sls PO][Sls D][Sls D'][L:Ln A n][En:Ent A j D][J:Pj D' PO n](dp:TR PO ms n){w0:D->(D'->Prop)->(Unit->PO->Prop)->85->Prop}
 (F:y9 K x e O f fd) (S:vm N ps (vd O)) (hn:ps.length=n) (hj:N.length-n=j)
 (o:∀(d:cr)(A:jF)(b:List Env)(s:hR)(H:Hp)(E:XK),wI k (A.deeper<|oV e (vd O) ⇑s f d)->SW (v6 (vX P w) P w K mg base N e (vd O) f d A b s H E) E T ms n (vP O) w0) :
    vR P w K mg base (vX P w) (k+1) f fd ps (yK T λ(p:A)(U:Unit->PO->Prop) B=>w0 (En.ent p) (λd'=>U ()<|J.pj d') U B):=by
  have i:∀{l:List V} {H:Hp} {Q:VK} {E:XK},yK T (λ(p:A)(U:Unit->PO->Prop) B=>w0 (En.ent p) (λd'=>U ()<|J.pj d') U B) l H Q E->l.length=n:=λh=>by
    obtain⟨F,R,p,Kn,B,s,_⟩:=h
    have:=L.ln s.rel
    rwa [hO]at this
  obtain⟨oc,od,kV,ab,pm,an,d,ct,ae,rfl,lk,aa⟩:=F.ex
  refine Jj lk aa S (λl H Q E h=>(i h).trans hn.symm) λAr b s H l Q E hr W=>?_
  refine e1a2 (o d Ar b s H E hr) λt h1 h2=>?_
  refine#[t,h1,?_]
  have hl:=i W
  obtain⟨F,R,p,Kn,B,I,hw,kn,ke⟩:=W
  have X:start N l=l.map some++lm j none:=by unfold L2.start;rw[hl,hj]
  have r:(start N l).take n=l.map some:=by rw[X,nE (by rw[hO,hl];exact gZ _),jB<|by rw[hO,hl];exact gZ _]
  refine h2 (En.ent p) F R _ H _ Kn B _ #[by rw[X];exact En.ok I.rel,I.sub,I.xD,I.tab,I.v4,I.vS] hw (λd' F' Y Z af q c u g=>?_) (λx p' v F1 F2 Y Z q c u m=>?_) λC y p' F' Y Z q c u=>?_
  · refine e1a2 (wR (PO := PO) u) λG g1 M => ?_
    have g3:=dp.dp g M.rel
    rw[r]at g3
    exact kn () _ .wP (λ_=>False) G Y Z q (c.less λa h=>h.elim (λz=>z.elim)<|g1 a) ⟨g3,M.sub,M.xD,M.tab,M.v4,M.vS⟩ ⟨⟨λ_ z=>z,.wP,rfl,rfl⟩,λ_ z=>z.elim,λ_ z=>z.elim,λz=>z⟩
  · rw[r]at u
    exact kn x p' v F1 F2 Y Z q c u m
  · rw[r]at u
    exact ke C y p' F' Y Z q c u
end WL
namespace WL
open PySem L2
open Rep (rp)
open Ow (sl)
open Sls (rel)
class Dat(α:Type)[Rep α][DecidableEq α] where
 dat:α->PyData
 dp:Nat
 rd:∀{X:Cx} {R:Rg} {H:Hp} {x:α} {v:V},rp R H x v->Go X H v (dat x)
 lay:∀x,(dat x).canLay0=true
 dep:∀x,(dat x).depth<=dp
 nm:∀x y,pM (dat x) (dat y)=true
 sm:∀x y,lp (dat x) (dat y)=decide (x=y)
instance:Dat Int where
 dat:=.int
 dp:=0
 rd h:=by have h:_=_:=h;subst h;exact Go.int _
 lay _:=by simp[pE]
 dep _:=by simp[sr]
 nm _ _:=by simp[pM]
 sm x y:=by rw[lp];by_cases h:x=y<;>simp[h]
section
variable{α β:Type}[Rep α][DecidableEq α][Dat α][Rep β][DecidableEq β][Dat β]
def B4{X:Cx}{R:Rg}{H:Hp}:∀{xs:List α} {vs:List V},Paired (rp R H) xs vs->Paired (Go X H) vs (xs.map Dat.dat):=by
 intro _ _ z
 induction z with
 |nil=>exact .nil
 |cons h t ih=>exact .cons (Dat.rd h) ih
def MT:∀a:List α,oq (a.map Dat.dat)=true
 | []=>by simp[oq]
 |x::a=>by simp only[iC,oq,Dat.lay x,MT a,qq]
def MU:∀a:List α,oZ (a.map Dat.dat)<=Dat.dp α
 | []=>by simp[oZ]
 |x::a=>by
  have b:=MU a;have c:=Dat.dep x;simp only[iC,oZ]
  lia
def QA:∀a b:List α,mP (a.map Dat.dat) (b.map Dat.dat)=true
 | [],[]=>by simp[mP]
 | [],_::_=>by simp[mP]
 |_::_,[]=>by simp[mP]
 |x::a,y::b=>by simp only[iC,mP,Dat.nm x y,QA a b,qq]
def QB:∀xs ys:List α,kY (xs.map Dat.dat) (ys.map Dat.dat)=decide (xs=ys)
 | [],[]=>by simp[kY]
 | [],_::_=>by simp[kY]
 |_::_,[]=>by simp[kY]
 |x::xs,y::ys=>by simp only[iC,kY,Dat.sm x y,QB xs ys];by_cases h:x=y<;>simp[h]
instance:Dat (List α) where
 dat xs:=.list<|xs.map Dat.dat
 dp:=Dat.dp α+1
 rd h:=by obtain⟨a,vs,rfl,_,h3,h4⟩:=h;exact Go.lst (wD.of h3)<|B4 h4
 lay xs:=by simp only[pE];exact MT xs
 dep xs:=by simp only[sr];have:=MU xs;omega
 nm xs ys:=by simp only[pM];exact QA xs ys
 sm xs ys:=by simp only[lp];exact QB xs ys
def Go.tup{X:Cx}(h:zn X.K H a c)(p:Paired (Go X H) c d):Go X H (.ref a) (.tuple d):=λb m s u I r=>by
 cases r;refine e1a3 (I.tuple h) λe f g _=>?_;obtain⟨q,i⟩:=Gp I f p;obtain⟨o,j,k,n,l⟩:=g;exact#[_,Reads.tuple j k l<|by simpa using i]
instance:Dat (α×β) where
 dat x:=.tuple [Dat.dat x.1,Dat.dat x.2]
 dp:=max (Dat.dp α) (Dat.dp β)+1
 rd h:=by obtain⟨a,u,w,rfl,_,h3,h4,h5⟩:=h;exact Go.tup (zn.of h3)<|.cons (Dat.rd h4)<|.cons (Dat.rd h5) .nil
 lay x:=by simp only[pE,oq,Dat.lay,qq]
 dep x:=by have h1:=Dat.dep x.1;have h2:=Dat.dep x.2;simp only[sr,oZ];omega
 nm x y:=by simp only[pM,mP,Dat.nm,qq]
 sm x y:=by simp only[lp,kY,Dat.sm];obtain⟨a,b⟩:=x;obtain⟨c,d⟩:=y;by_cases h1:a=c<;>by_cases h2:b=d<;>simp[h1,h2]
end
def RdL{α:Type}[Rep α]{D:Type}[Sls D](T:gV)(F R:Rg)(H:Hp)(σ:St)(g:D->List α)(v:V):Prop :=
 ∀(d'':D)(WP Kj:Rg)(QC:Hp),Ch T F R H WP Kj QC->wq T WP Kj QC d'' σ->∃a vs,v=.ref a/\QC a=↑(.lst vs)/\Paired (rp Kj QC) (g d'') vs
def ER(X:Cx)(E:XK)(T:gV)(e:iT){D i:Type}[Sls D][Rep i](w:Wf D (D->List i) D):Prop :=
 ∃t,PE X e t/\∀(d:D)(F R:Rg)(f:St)(H:Hp) (j:(D->List i)->D->Prop) (k:gV->D->Prop) (Q:VK),wq T F R H d f->w d j k ->
  (∀g h v b c a,j g h->Ch T F R H b c a->wq T b c a h f->RdL T b c a f g v->Q v a) ->
  (∀C y h b c a,k C h->Ch T F R H b c a->wq T b c a h f->E (.ref C) ↑y a)->t f H Q
section
variable{D:Type}[Sls D]{α β γ:Type}[Rep α][Rep β][Rep γ]
def vY(h:EW X E T e w):ER X E T e (cK w λ(f:(D->List α)->D->Prop) x b=>f (λ_=>x) b):=by refine e1a2 h λt i j=>?_;refine#[t,i,λd F R k H f l Q s m n o=>j d F R k H _ l Q s m (λx b v p u y q c g r=>n _ b v p u y q c g λz A B C G I=>?_) o];refine e2a4 (g.val G r) λa J L O M N=>?_;exact#[a,J,L,M,N]
def v7(i:Nat)[Sls h][A:At i D (OL α) h](j:PE X 97 (vQ i):=by exact pv _):ER X E T 97 (λ(d:D) (e:(D->List α)->D->Prop) _=>e (λd=>(A.get d).l) d):=by refine#[_,j,λd F R w H e y Q s k m _=>?_];obtain⟨v,z,B,f,C,⟨a,G,rfl,I⟩,_⟩:=A.take s.rel;refine#[_,f,m _ d _ F R H k 61 s λn o p q J b=>?_];obtain⟨L,M,N,g,O,⟨P,c,r,S,t,u⟩,_⟩:=A.take b.rel;rw[f]at g;cases g;cases r;exact#[_,c,rfl,t,u]
def Yd{wa:Wf D (D->List α) D}{wb:Wf D β D}{c:List α->β->γ->Prop}
 (ha:ER X E T a wa) (hb:EW X E T b wb) (he:∀ta tb,PE X a ta->PE X b tb->PE X e (Zf r ta tb))
 (hr:∀{R:Rg} {H:Hp} {xs:List α} {y:β} {z:γ} {p:gV} {us:List V} {v:V} {Q:VK},H p=↑(.lst us)->Paired (rp R H) xs us->rp R H y v->c xs y z->(∀w,rp R H z w->Q w H)->r (.ref p) v H Q) :
    EW X E T e (cB wa wb λg Kn y d2=>∃z,c (g d2) y z/\Kn z d2):=by
  refine e1a2 ha λta a1 a2=>?_
  refine e1a2 hb λtb b1 b2=>?_
  refine#[_,he ta tb a1 b1,λd F R σ H Kn Ke Q s hw kn ke=>?_]
  refine a2 d F R σ H _ Ke _ s hw (λg d1 u F1 R1 H1 q1 c1 s1 r1=>?_) ke
  refine b2 d1 F1 R1 σ H1 _ Ke _ s1 q1 (λy d2 v F2 R2 H2 q2 c2 s2 r2=>?_) λC y d' F' R' H' k c s'=>ke C y d' F' R' H' k (Ch.trans s s1.tab c1 c) s'
  refine e1a2 q2 λz z1 z2=>?_
  obtain⟨p,us,rfl,h1,h2⟩:=r1 d2 F2 R2 H2 c2 s2
  exact hr h1 h2 r2 z1 λw rw=>kn _ d2 w F2 R2 H2 z2 (Ch.trans s s1.tab c1 c2) s2 rw
def xi{R:Rg}{H:Hp}:∀{xs:List α} {vs:List V} {i:Nat} {x:α},Paired (rp R H) xs vs->xs[i]?=↑x->∃v,vs[i]?=↑v/\rp R H x v:=by
 intro _ _ i x z
 induction z generalizing i with
 |nil=>intro e;simp at e
 |cons r t ih =>
  intro e
  cases i with
  |zero=>simp at e;subst e;exact#[_,rfl,r]
  |succ i=>exact e1a2 (ih<|by simpa using e) λu h1 h2=>#[u,by simpa using h1,h2]
def AZ{xs:List α}{vs:List V}{i:Int}(h:Paired (rp R H) xs vs)(e:FH xs i=↑x):∃v,FH vs i=↑v/\rp R H x v:=by
 unfold FH at e ⊢;rw[<- Paired.length h]
 cases q:WB xs.length i with
 |none=>rw[q]at e;cases e
 |some j =>
  rw[q]at e;exact xi h e
def wU{j:Wf D (D->List α) D}{l:Wf D Int D}(q:ER X E T a j)(s:EW X E T b l)(t:ML b:=by intro _ _;rfl) :
  EW X E T (.Subscript a b pos) (λ(d:D)(u:α->D->Prop) m=>j d (λg A=>l A (λi n=>∃x,FH (g n) i=↑x/\u x n) m) m) :=
 Yd (c:=λo i x=>FH o i=↑x) q s (λF G f h=>yD w4 f h t) λ{R H o y z p I v Q} f h B C k=>by subst B;refine e1a2 (AZ h C) λw e r=>?_;exact#[_,_,_,_,rfl,rfl,wD.of f,e,k _ r]
def BH{k:Nat}{c:Wf D (α×β) D}(f:EW X E T a c):EW X E T (.Subscript a (.Constant (.int 0) k p) pos) (cK c λ(e:α->D->Prop) x b=>e x.1 b):=by refine e1a2 f λI g h=>?_;refine#[_,yD PQ g vH<|λ_ _=>rfl,λd F R i H e j Q s l m n=>h d F R i H _ j _ s l (λx b u o r t y z A B=>?_) n];obtain⟨q,v,w,rfl,_,C,G,J⟩:=B;exact#[_,_,_,v,rfl,rfl,zn.of C,rfl,m _ b v o r t y z A G]
def Ax{k:Nat}{c:Wf D (α×β) D}(f:EW X E T a c):EW X E T (.Subscript a (.Constant (.int 1) k p) pos) (cK c λ(e:β->D->Prop) x b=>e x.2 b):=by refine e1a2 f λI g h=>?_;refine#[_,yD PQ g vH<|λ_ _=>rfl,λd F R i H e j Q s l m n=>h d F R i H _ j _ s l (λx b u o r t y z A B=>?_) n];obtain⟨q,v,w,rfl,_,C,J,G⟩:=B;exact#[_,_,_,w,rfl,rfl,zn.of C,rfl,m _ b w o r t y z A G]
def yF(e:EW X E T a f):EW X E T a (cK f λ(c:α->D->Prop) x b=>∃y,x=↑y/\c y b):=by refine e1a2 e λz g h=>?_;refine#[_,g,λd F R i H c j Q s k l m=>h d F R i H _ j _ s k (λx b u n o p r t v w=>?_) m];obtain⟨y,rfl,q⟩:=r;exact l y b u n o p q t v w.2
class NV(α:Type)[Rep α]:Prop where
 nv:∀{R:Rg} {H:Hp} {x:α} {v:V},rp R H x v->v≠.wP
instance:NV Int:=#[λh z=>by have h:_=_:=h;rw[h]at z;cases z]
instance:NV (α×β):=#[λh z=>by obtain⟨a,u,w,e,_⟩:=h;rw[e]at z;cases z]
def zQ[NV α](f:EW X E T a g):EW X E T a (cK g λ(c:Option α->D->Prop) x b=>c ↑x b):=by refine e1a2 f λw h i=>?_;exact#[_,h,λd F R j H c k Q s l m n=>i d F R j H _ k _ s l (λx b u o p q r t v e=>m ↑x b u o p q r t v #[NV.nv e,e]) n]
def UI{k:Nat}:EW X E T (.Constant .none k pos) (λ(d:D)(a:Option α->D->Prop) _=>a none d) :=
 #[_,Kq,λd F R e H a f Q s b c _=>c none d _ F R H b 61 s rfl]
def xj{a:iT}{p:Pos}{wa:Wf D (D->List α) D}(hg:Gl X "len")(hm:X.mg "len"=none)(ha:ER X E T a wa)(hs:gX [a] X.env=79::gX [] X.env:=by rfl) :
  EW X E T (.Call (.Name "len" p) [a] [] pos) (cK wa λ(Kn:Int->D->Prop) g d1=>Kn ((g d1).length:Int) d1):=by
 refine e1a2 ha λta a1 a2=>?_;refine#[_,wT xG hg hm mQ (vn a1 vB hs) (he:=hs),λd F R σ H Kn Ke Q s hw kn ke=>a2 d F R σ H _ Ke _ s hw (λg d1 u F1 R1 H1 q1 c1 s1 r1=>?_) ke];obtain⟨q,us,rfl,h1,h2⟩:=r1 d1 F1 R1 H1 61 s1;refine#[_,_,rfl,.inl<|wD.of h1,kn _ d1 _ F1 R1 H1 q1 c1 s1 ?_];show V.int _=V.int _;rw[Paired.length h2]
end
def AL(X:Cx)(E:XK)(T:gV)(es:List iT){D α:Type}[Sls D][Rep α](w:Wf D (List α) D):Prop :=
 ∃t,PA X es t/\∀(d:D)(F R:Rg)(σ:St)(H:Hp)(Kn:List α->D->Prop)(Ke:gV->D->Prop)(Q:List V->Hp->Prop),wq T F R H d σ->w d Kn Ke ->
  (∀x d' vs F' R' H',Kn x d'->Ch T F R H F' R' H'->wq T F' R' H' d' σ->Paired (rp R' H') x vs->vs.length=es.length->Q vs H') ->
  (∀C y d' F' R' H',Ke C d'->Ch T F R H F' R' H'->wq T F' R' H' d' σ->E (.ref C) ↑y H')->t σ H Q
def wq.vals{T:gV}{D:Type}[Sls D]{d:D}{σ:St}{F R F' R':Rg}{H H':Hp}(s:wq T F R H d σ)(c:Ch T F R H F' R' H'){α:Type}[Rep α]{x:List α}{v:List V}(h:Paired (rp R H) x v):Paired (rp R' H') x v :=
 wz (c.ext.wide λa z=>z.elim (s.sub a) λq=>by rw[q];exact s.v4) h
section
variable{D:Type}[Sls D]{α β γ:Type}[Rep α][Rep β][Rep γ]
def vD:AL X E T [] (λ(d:D)(a:List α->D->Prop) _=>a [] d) :=
 #[_,vB,λd F R e H a f Q s b c _=>c [] d [] F R H b 61 s .nil rfl]
def vk{a:List iT}{g:Wf D α D}{h:Wf D (List α) D}(q:EW X E T e g)(r:AL X E T a h)(t:gX (e::a) X.env=67::gX a X.env:=by rfl) :
  AL X E T (e::a) (cB g h λx i j f=>i (x::j) f):=by
 refine e1a2 q λta v w=>?_;refine e1a2 r λtr z A=>?_;refine#[_,vn v z t,λd F R l H i m Q s B G n=>?_];refine w d F R l H _ m _ s B (λx I u J L M N o b O=>?_) n;refine A I J L l M _ m _ b N (λj f P S U W Y p Z r2 l2=>?_) λC y d' F' R' H' k c s'=>n C y d' F' R' H' k (Ch.trans s b.tab o c) s';exact G _ f (u::P) S U W Y (Ch.trans s b.tab o p) Z (.cons (b.val p O) r2) (by rw[iz,iz,l2])
def vE(h:AL X E T a w)(f:a.length<=hJ:=by decide):EO X E T (.List a pos) (cK w λ(b:OL α->D->Prop) c g=>b #[c] g):=by refine e1a2 h λt i j=>?_;refine#[_,PH i,λd F R k H b l Q s m n o=>j d F R k H _ l _ s m (λc q I r J L u v e x y=>#[by rw[y];exact f,λp z=>?_]) o];refine e1a3 (xW e z x) λA B C G=>?_;exact n _ q _ _ r A _ u (Ch.trans s e.tab v B) C G
def w6{q}(r:EW X E T a t)(w:EW X E T b z)
 (A:gX [a,b] X.env=79::gX [b] X.env:=by rfl) (B:gX [b] X.env=(false,eval b X.env)::gX [] X.env:=by rfl) :
    EW X E T (.Tuple [a,b] q pos) (cB t z λx (i:α×β->D->Prop) y g=>i (x,y) g):=by
  refine e1a2 r λta G I=>?_
  refine e1a2 w λtb J L=>?_
  refine#[_,PF<|vn G (vn J vB B) A,λd F R j H i l Q s M N m=>?_]
  refine I d F R j H _ l _ s M (λx O u P S U W n e Y=>?_) m
  refine L O P S j U _ l _ e W (λy g v Z R2 H2 q2 o f r2=>#[(by show 2<=hJ;decide),λp hp=>?_]) λC y d' F' R' H' k c s'=>m C y d' F' R' H' k (Ch.trans s e.tab n c) s'
  refine e0a3 (f.new (.tup [u,v]) hp) λs3 h n3=>?_
  exact N _ g _ Z R2 _ q2 (Ch.trans s e.tab n<|Ch.trans e f.tab o h) s3 #[p,u,v,rfl,n3,vh,f.val h<|e.val o Y,f.val h r2]
def yg{R:Rg}{H:Hp}:∀{xs ys:List α} {us vs:List V},Paired (rp R H) xs us->Paired (rp R H) ys vs->Paired (rp R H) (xs++ys) (us++vs):=by
 intro _ _ _ _ z s
 induction z with
 |nil=>exact s
 |cons h t ih=>exact .cons h ih
def CT(I:ER X E T a J)(L:ER X E T b M) :
  EO X E T (.BinOp a .Add b pos) (cB J M λg (l:OL α->D->Prop) k e=>(g e).length+(k e).length<=hJ/\l #[g e++k e] e):=by
 refine e1a2 I λta N O=>?_;refine e1a2 L λtb P S=>?_;refine#[_,xg XH N P,λd F R m H l n Q s U W o=>?_];refine O d F R m H _ n _ s U (λg Y u Z R1 H1 q1 t f r1=>?_) o;refine S Y Z R1 m H1 _ n _ f q1 (λk e v i w x z A h r2=>?_) λC y d' F' j H' k c s'=>o C y d' F' j H' k (Ch.trans s f.tab t c) s';obtain⟨p,us,rfl,h1,B⟩:=r1 e i w x A h;obtain⟨q,vs,rfl,k1,G⟩:=r2 e i w x 61 h;refine#[p,q,us,vs,rfl,rfl,h1,k1,by rw[<- Paired.length B,<- Paired.length G];exact z.1,λr hr=>?_];refine e1a3 (xW h hr<|yg B G) λj c3 s3 n3=>?_;exact W _ e _ _ i j _ z.2 (Ch.trans s f.tab t<|Ch.trans f h.tab A c3) s3 n3
def DP(i:Gl X "list")(j:X.mg "list"=none)(k:ER X E T a m)(e:gX [a] X.env=79::gX [] X.env:=by rfl) :
  EO X E T (.Call (.Name "list" p) [a] [] pos) (cK m λ(f:OL α->D->Prop) g b=>f #[g b] b):=by
 refine e1a2 k λP n o=>?_;refine#[_,xT yH i j ki (vn n vB e) (he:=e),λd F R r H f t Q s v w x=>o d F R r H _ t _ s v (λg b u h y z A B c C=>?_) x];obtain⟨q,S,rfl,G,I⟩:=C b h y z 61 c;refine#[_,_,rfl,.inl<|wD.of G,λl J=>?_];refine e1a3 (xW c J I) λL M N O=>?_;exact w _ b _ _ h L _ A (Ch.trans s c.tab B M) N O
noncomputable def ins(x:Int):List Int->List Int
 | []=>[x]
 |y::r=>if x<=y then x::y::r else y::ins x r
noncomputable def BI:List Int->List Int
 | []=>[]
 |x::r=>ins x<|BI r
def Ay(x:Int):∀r:List Int,(ins x r).Perm (x::r)
 | []=>o4 _
 |y::r=>by
  unfold ins;split
  ·exact o4 _
  ·exact((Ay x r).cons y).trans<|List.Perm.swap x y r
def wO:∀r:List Int,(BI r).Perm r
 | []=>o4 _
 |x::r=>(Ay x<|BI r).trans<|(wO r).cons x
set_option tactic.hygienic true in
def Hg(x:Int):∀r:List Int,r.Pairwise (·<=·)->(ins x r).Pairwise (·<=·)
 | [],_=>jH _ _
 |y::r,h=>by
  unfold ins;have b:=List.pairwise_cons.mp h;split
  ·rename_i a
   refine List.pairwise_cons.mpr #[λz c=>?_,h];rcases List.mem_cons.mp c with e|e
   ·rw[e];exact a
   ·exact Int.le_trans a<|b.1 z e
  ·rename_i a
   refine List.pairwise_cons.mpr #[λz c=>?_,Hg x r b.2];rcases List.mem_cons.mp ((Ay x r).mem_iff.mp c) with e|e
   ·rw[e];lia
   ·exact b.1 z e
def A1:∀r:List Int,(BI r).Pairwise (·<=·)
 | []=>iG
 |x::r=>Hg x _<|A1 r
def zv:∀{a b:List Int},a.Perm b->a.Pairwise (·<=·)->b.Pairwise (·<=·)->a=b
 | [],b,p,_,_=>(List.Perm.nil_eq p)
 |x::a,[],p,_,_=>ii p.length_eq q0o
 |x::a,y::b,p,c,d=>by
  have e:x=y:=by
   have f:x∈y::b:=p.mem_iff.mp gY;have g:y∈x::a:=p.mem_iff.mpr gY;rcases List.mem_cons.mp f with q|q
   ·exact q
   ·rcases List.mem_cons.mp g with z|z
    ·exact z.symm
    ·have:=(List.pairwise_cons.mp d).1 x q;have:=(List.pairwise_cons.mp c).1 y z
     lia
  subst e;rw[zv p.cons_inv (List.pairwise_cons.mp c).2 (List.pairwise_cons.mp d).2]
def Ew{a:List Int}(p:a.Perm b)(h:a.Pairwise (·<=·)):a=BI b:=zv (p.trans (wO b).symm) h<|A1 b
def paired_ints{R:Rg}{H:Hp}:∀{xs:List Int} {vs:List V},Paired (rp R H) xs vs->vs=xs.map V.int:=by
 intro _ _ z
 induction z with
 |nil=>rfl
 |cons h t ih=>rw[show _=V.int _ from h,ih];rfl
def yo{R:Rg}{H:Hp}:∀xs:List Int,Paired (rp R H) xs (xs.map V.int)
 | []=>.nil
 |x::r=>.cons (rfl:rp R H x (V.int x))<|yo r
def CU{a:iT}{p:Pos}{wa:Wf D (D->List Int) D}(hg:Gl X "sorted")(hm:X.mg "sorted"=none)(ha:ER X E T a wa)(hs:gX [a] X.env=79::gX [] X.env:=by rfl) :
  EO X E T (.Call (.Name "sorted" p) [a] [] pos) (cK wa λ(Kn:OL Int->D->Prop) g d1=>(g d1).length<64/\Kn #[BI<|g d1] d1):=by
 refine e1a2 ha λta a1 a2=>?_;refine#[_,wT Hd hg hm kK (vn a1 vB hs) (he:=hs),λd F R σ H Kn Ke Q s hw kn ke=>a2 d F R σ H _ Ke _ s hw (λg d1 u F1 R1 H1 q1 c1 s1 r1=>?_) ke];obtain⟨q,us,rfl,h1,h2⟩:=r1 d1 F1 R1 H1 61 s1;refine#[_,g d1,rfl,wD.of (by rw[h1,paired_ints h2]),q1.1,λl ns hl pn sn=>?_];rw[Ew pn sn];refine e1a3 (xW s1 hl<|yo (R:=R1) (H:=H1)<|BI<|g d1) λR' c3 s3 n3=>?_;exact kn _ d1 _ _ F1 R' _ q1.2 (Ch.trans s s1.tab c1 c3) s3 n3
noncomputable def FO{α:Type}(a:List α)(b c:Option Int):List α:=(a.drop<|HT.xq a.length 0 b).take<|HT.xq a.length a.length c-HT.xq a.length 0 b
def JD{R:Rg}{H:Hp}:∀{xs:List α} {vs:List V} (n:Nat),Paired (rp R H) xs vs->Paired (rp R H) (xs.drop n) (vs.drop n):=by
 intro _ _ n z
 induction z generalizing n with
 |nil=>cases n<;>exact .nil
 |cons h t ih=>cases n with
  |zero=>exact .cons h t
  |succ k=>exact ih k
def Ds{R:Rg}{H:Hp}:∀{xs:List α} {vs:List V} (n:Nat),Paired (rp R H) xs vs->Paired (rp R H) (xs.take n) (vs.take n)
 |_,_,0,_=>.nil
 |_,_,_+1,.nil=>.nil
 |_,_,n+1,.cons r t=>.cons r<|Ds n t
def Ex{R:Rg}{H:Hp}{xs:List α}{vs:List V}(h:Paired (rp R H) xs vs)(lo hi:Option Int):Paired (rp R H) (FO xs lo hi) (Eh vs lo hi):=by unfold FO Eh;rw[<- Paired.length h];exact Ds _<|JD _ h
def OW(X:Cx)(E:XK)(T:gV)(e:Option iT){D:Type}[Sls D](w:Wf D (Option Int) D):Prop :=
 ∃t,PO X e t/\∀(d:D)(F R:Rg)(g:St)(H:Hp)(h:Option Int->D->Prop)(i:gV->D->Prop)(Q:Option Int->Hp->Prop),wq T F R H d g->w d h i ->
  (∀x b c f a,h x b->Ch T F R H c f a->wq T c f a b g->Q x a) ->
  119->t g H Q
def Hh:OW X E T none (λ(d:D) a _=>a none d):=#[_,DH,λd F R e H a f Q s b c _=>c none d F R H b 61 s]
def Hi{e:iT}{w:Wf D Int D}(h:EW X E T e w):OW X E T ↑e (cK w λa i b=>a ↑i b):=by refine e1a2 h λt c f=>?_;exact#[_,DI c,λd F R g H a j Q s k l m=>f d F R g H _ j _ s k (λx n u o p H1 q r v y=>#[x,y,l _ n o p H1 q r v]) m]
def JE{G:Option iT}(M:ER X E T a N)(O:OW X E T G P)(S:OW X E T U W) :
  EO X E T (.Subscript a (.Slice G U none p2) pos) (λ(d:D)(I:OL α->D->Prop) b=>N d (λg m=>P m (λl n=>W n (λh f=>I #[FO (g f) l h] f) b) b) b):=by
 refine e1a2 M λta Y Z=>?_;refine e1a2 O λtl l1 l2=>?_;refine e1a2 S λth h1 h2=>?_;refine#[_,Ao DJ Y l1 h1,λd F R o H I b Q s hw kn r=>?_];refine Z d F R o H _ b _ s hw (λg m u F1 R1 H1 q1 t e r1=>?_) r;refine l2 m F1 R1 o H1 _ b _ e q1 (λl n F2 R2 H2 q2 v i=>?_) λC y w x j z k c A=>r C y w x j z k (Ch.trans s e.tab t c) A;refine h2 n F2 R2 o H2 _ b _ i q2 (λh f J R3 H3 q3 L B=>?_) λC y w x j z k c A=>r C y w x j z k (Ch.trans s e.tab t<|Ch.trans e i.tab v c) A;obtain⟨q,us,rfl,k1,k2⟩:=r1 f J R3 H3 (Ch.trans e i.tab v L) B;refine⟨q,us,rfl,wD.of k1,λp hp=>?_⟩;refine e1a3 (xW B hp<|Ex k2 l h) λj c4 s4 n4=>?_;exact kn _ f _ _ J j _ q3 (Ch.trans s e.tab t<|Ch.trans e i.tab v<|Ch.trans i B.tab L c4) s4 n4
def Cm(X:Cx)(op:qT)(g:α->β->Bool):Prop:=∃r,Bb X (jG op) r/\∀{R:Rg} {H:Hp} {x:α} {y:β} {u v:V} {Q:VK},rp R H x u->rp R H y v->Q (.bl<|g x y) H->r u v H Q
def CmL(X:Cx)(op:qT)(g:List α->List β->Bool):Prop:=∃r,Bb X (jG op) r/\∀{R:Rg} {H:Hp} {x:List α} {y:List β} {p q:gV} {us vs:List V} {Q:VK},H p=↑(.lst us)->Paired (rp R H) x us->H q=↑(.lst vs)->Paired (rp R H) y vs->Q (.bl<|g x y) H->r (.ref p) (.ref q) H Q
def CmI(X:Cx)(op:qT)(g:α->List β->Bool):Prop:=∃r,Bb X (jG op) r/\∀{R:Rg} {H:Hp} {x:α} {y:List β} {q:gV} {u:V} {vs:List V} {Q:VK},rp R H x u->H q=↑(.lst vs)->Paired (rp R H) y vs->Q (.bl<|g x y) H->r u (.ref q) H Q
def Ye(a:Bb X (jG op) (TL λi j=>.bl<|g i j)):Cm X op g:=⟨_,a,λb c k=>#[_,_,b,c,k]⟩
def QD:Cm X .Lt (λi j:Int=>decide<|i<j):=Ye Wx
def WQ:Cm X .Gt (λi j:Int=>decide<|j<i):=Ye Wz
def QE:Cm X .GtE (λi j:Int=>decide<|j<=i):=Ye ZD
def Af[DecidableEq α][JB α]:Cm X .Eq (λx y:α=>decide<|x=y):=⟨_,ZB,λa b k=>#[(JB.sc a b).1,by rw[(JB.sc a b).2];exact k]⟩
def Dt[DecidableEq α][JB α]:Cm X .NotEq (λx y:α=>!decide (x=y)):=#[_,ZC,λa b k=>#[(JB.sc a b).1,by rw[(JB.sc a b).2];exact k]]
def Yf:Cm X .Is (λ(x:Option α)(_:Unit)=>x.isNone):=#[_,Xv,λa b k=>#[b,by rw[MS a];exact k]]
def MV:Cm X .IsNot (λ(x:Option α)(_:Unit)=>!x.isNone):=#[_,T6,λa b k=>#[b,by rw[MS a];exact k]]
def xX[DecidableEq α][Dat α](a:Dat.dp α<=64)(x:α):sG (Dat.dat x)=true:=by show (pE (Dat.dat x)&&decide ((Dat.dat x).depth<=64))=true;rw[iU];exact#[Dat.lay x,decide_eq_true<|iK (Dat.dep x) a]
def Yg[DecidableEq α][Dat α](b:X.A.units+64<kT)(a:Dat.dp α<=64:=by decide):Cm X .NotEq (λx y:α=>!decide (x=y)):=#[_,Qk b,λ{R H x y u v Q} c d k=>#[_,_,Dat.rd c,Dat.rd d,xX a x,xX a y,Dat.nm x y,by rw[Dat.sm];exact k]]
def Hj[DecidableEq α][Dat α](b:X.A.units+64<kT)(a:Dat.dp (List α)<=64:=by decide):CmL X .Eq (λx y:List α=>decide (x=y)):=#[_,X3 b,λ{R H x y p q g h Q} c d e f k=>#[_,_,Go.lst (wD.of c) (B4 d),Go.lst (wD.of e) (B4 f),xX a x,xX a y,Dat.nm x y,by
 have:=Dat.sm x y
 rw[show lp (.list (x.map Dat.dat)) (.list (y.map Dat.dat))=decide (x=y) from this];exact k]]
def CV[DecidableEq α][Dat α](b:X.A.units+64<kT)(a:Dat.dp (List α)<=64:=by decide):CmL X .NotEq (λx y:List α=>!decide (x=y)):=#[_,Qk b,λ{R H x y p q g h Q} c d e f k=>#[_,_,Go.lst (wD.of c) (B4 d),Go.lst (wD.of e) (B4 f),xX a x,xX a y,Dat.nm x y,by
 have:=Dat.sm x y
 rw[show lp (.list (x.map Dat.dat)) (.list (y.map Dat.dat))=decide (x=y) from this];exact k]]
def B5(k:Int)(a:List Int):inV (.int k) (a.map V.int)=decide (k∈a):=by
 unfold inV;rw[List.any_map,lF,uX,iW];constructor
 ·rintro⟨y,b,e⟩;have:y=k:=by simpa[TM] using e
  rw[<- this];exact b
 ·intro h;exact#[k,h,by simp[TM]]
def A4(a:List Int):(a.map V.int).all BP=true:=by rw[List.all_map,oU];intro x _;rfl
def MW:CmI X .In (λ(x:Int)(ys:List Int)=>decide (x∈ys)):=#[_,Ge,λ{R H x y q u vs Q} h1 h2 h3 k=>by
 subst h1;refine#[q,vs,rfl,.inl<|wD.of h2,rfl,by rw[paired_ints h3];exact A4 y,?_];rw[paired_ints h3,B5]
 exact k]
def Ey:CmI X .NotIn (λ(x:Int)(ys:List Int)=>!decide (x∈ys)):=#[_,BQ,λ{R H x y q u vs Q} h1 h2 h3 k=>by
 subst h1;refine#[q,vs,rfl,.inl<|wD.of h2,rfl,by rw[paired_ints h3];exact A4 y,?_];rw[paired_ints h3,B5]
 exact k]
def tw_cm{a b:iT}{op:qT}{g:α->β->Bool}{wa:Wf D α D}{wb:Wf D β D}(C:Cm X op g)(ha:EW X E T a wa)(hb:EW X E T b wb)(hm:jd op b=false:=by exact v0 _) :
  TW X E T 118 (cB wa wb λx Kn y d2=>Kn (g x y) d2):=by
 refine e1a2 C λr o1 o2=>?_;refine e1a2 ha λta a1 a2=>?_;refine e1a2 hb λtb b1 b2=>?_;refine#[_,yf o1 a1 b1 hm,λd F R σ H Kn Ke Q s hw kn ke=>?_];refine a2 d F R σ H _ Ke _ s hw (λx d1 u F1 R1 H1 q1 c1 s1 r1=>?_) ke;refine b2 d1 F1 R1 σ H1 _ Ke _ s1 q1 (λy d2 v F2 R2 H2 q2 c2 s2 r2=>?_) λC y d' F' R' H' k c s'=>ke C y d' F' R' H' k (Ch.trans s s1.tab c1 c) s';exact o2 (s1.val c2 r1) r2 #[_,rfl,kn _ d2 F2 R2 H2 q2 (Ch.trans s s1.tab c1 c2) s2]
def a0a{a b:iT}{op:qT}{g:α->β->Bool}{h:Wf D α D}{i:Wf D β D}(C:Cm X op g)(q:EW X E T a h)(t:EW X E T b i)(w:jd op b=false:=by exact v0 _) :
  EW X E T 118 (cB h i λx (j:Bool->D->Prop) y f=>j (g x y) f):=by
 obtain⟨r,z,A⟩:=C;obtain⟨ta,B,G⟩:=q;obtain⟨tb,I,J⟩:=t;refine#[_,GR z B I w,λd F R l H j m Q s L M n=>?_];refine G d F R l H _ m _ s L (λx N u O P H1 S o e U=>?_) n;refine J N O P l H1 _ m _ e S (λy f v W R2 H2 Y p Z r2=>?_) λC y d' F' R' H' k c s'=>n C y d' F' R' H' k (Ch.trans s e.tab o c) s';exact A (e.val p U) r2<|M _ f _ W R2 H2 Y (Ch.trans s e.tab o p) Z rfl
def tw_cmL{a b:iT}{op:qT}{g:List α->List β->Bool}{wa:Wf D (D->List α) D}{wb:Wf D (D->List β) D}(C:CmL X op g)(ha:ER X E T a wa)(hb:ER X E T b wb)(hm:jd op b=false:=by exact v0 _) :
  TW X E T 118 (cB wa wb λx Kn y d2=>Kn (g (x d2)<|y d2) d2):=by
 refine e1a2 C λr o1 o2=>?_;refine e1a2 ha λta a1 a2=>?_;refine e1a2 hb λtb b1 b2=>?_;refine#[_,yf o1 a1 b1 hm,λd F R σ H Kn Ke Q s hw kn ke=>?_];refine a2 d F R σ H _ Ke _ s hw (λx d1 u F1 R1 H1 q1 c1 s1 r1=>?_) ke;refine b2 d1 F1 R1 σ H1 _ Ke _ s1 q1 (λy d2 v F2 R2 H2 q2 c2 s2 r2=>?_) λC y d' F' R' H' k c s'=>ke C y d' F' R' H' k (Ch.trans s s1.tab c1 c) s';obtain⟨p,us,rfl,h1,h2⟩:=r1 d2 F2 R2 H2 c2 s2;obtain⟨q,vs,rfl,k1,k2⟩:=r2 d2 F2 R2 H2 61 s2;exact o2 h1 h2 k1 k2 #[_,rfl,kn _ d2 F2 R2 H2 q2 (Ch.trans s s1.tab c1 c2) s2]
def QF{a b:iT}{op:qT}{g:List α->List β->Bool}{wa:Wf D (D->List α) D}{wb:Wf D (D->List β) D}(C:CmL X op g)(ha:ER X E T a wa)(hb:ER X E T b wb)(hm:jd op b=false:=by exact v0 _) :
  EW X E T 118 (cB wa wb λx (Kn:Bool->D->Prop) y d2=>Kn (g (x d2)<|y d2) d2):=by
 refine e1a2 C λr o1 o2=>?_;refine e1a2 ha λta a1 a2=>?_;refine e1a2 hb λtb b1 b2=>?_;refine#[_,GR o1 a1 b1 hm,λd F R σ H Kn Ke Q s hw kn ke=>?_];refine a2 d F R σ H _ Ke _ s hw (λx d1 u F1 R1 H1 q1 c1 s1 r1=>?_) ke;refine b2 d1 F1 R1 σ H1 _ Ke _ s1 q1 (λy d2 v F2 R2 H2 q2 c2 s2 r2=>?_) λC y d' F' R' H' k c s'=>ke C y d' F' R' H' k (Ch.trans s s1.tab c1 c) s';obtain⟨p,us,rfl,h1,h2⟩:=r1 d2 F2 R2 H2 c2 s2;obtain⟨q,vs,rfl,k1,k2⟩:=r2 d2 F2 R2 H2 61 s2;exact o2 h1 h2 k1 k2<|kn _ d2 _ F2 R2 H2 q2 (Ch.trans s s1.tab c1 c2) s2 rfl
def tw_cmI{a b:iT}{op:qT}{g:α->List β->Bool}{wa:Wf D α D}{wb:Wf D (D->List β) D}(C:CmI X op g)(ha:EW X E T a wa)(hb:ER X E T b wb)(hm:jd op b=false:=by exact v0 _) :
  TW X E T 118 (cB wa wb λx Kn y d2=>Kn (g x<|y d2) d2):=by
 refine e1a2 C λr o1 o2=>?_;refine e1a2 ha λta a1 a2=>?_;refine e1a2 hb λtb b1 b2=>?_;refine#[_,yf o1 a1 b1 hm,λd F R σ H Kn Ke Q s hw kn ke=>?_];refine a2 d F R σ H _ Ke _ s hw (λx d1 u F1 R1 H1 q1 c1 s1 r1=>?_) ke;refine b2 d1 F1 R1 σ H1 _ Ke _ s1 q1 (λy d2 v F2 R2 H2 q2 c2 s2 r2=>?_) λC y d' F' R' H' k c s'=>ke C y d' F' R' H' k (Ch.trans s s1.tab c1 c) s';obtain⟨q,vs,rfl,k1,k2⟩:=r2 d2 F2 R2 H2 61 s2;exact o2 (s1.val c2 r1) k1 k2 #[_,rfl,kn _ d2 F2 R2 H2 q2 (Ch.trans s s1.tab c1 c2) s2]
def Yh{a b:iT}{op:qT}{g:α->List β->Bool}{h:Wf D α D}{i:Wf D (D->List β) D}(C:CmI X op g)(z:EW X E T a h)(A:ER X E T b i)(B:jd op b=false) :
  EW X E T 118 (cB h i λx (j:Bool->D->Prop) y e=>j (g x<|y e) e):=by
 obtain⟨r,G,I⟩:=C;obtain⟨ta,J,L⟩:=z;obtain⟨tb,M,N⟩:=A;refine#[_,GR G J M B,λd F R l H j m Q s O P n=>?_];refine L d F R l H _ m _ s O (λx S u U W H1 Y o f Z=>?_) n;refine N S U W l H1 _ m _ f Y (λy e v p R2 H2 q2 t w r2=>?_) λC y d' F' R' H' k c s'=>n C y d' F' R' H' k (Ch.trans s f.tab o c) s';obtain⟨q,vs,rfl,k1,k2⟩:=r2 e p R2 H2 61 w;exact I (f.val t Z) k1 k2<|P _ e _ p R2 H2 q2 (Ch.trans s f.tab o t) w rfl
def tw_val{w:Wf D Bool D}(h:EW X E T e w)(b:∀a,qW e X.env a=(do let v <- a;ng e.pos;k9 [v] (uE v)):=by intro _;rfl):TW X E T e w:=by refine e1a2 h λt c f=>?_;exact#[_,Xa c b,λd F R g H A i Q s j k l=>f d F R g H _ i _ s j (λx m u n o p q r y z=>#[x,z,k _ m n o p q r y]) l]
def tw_not{w:Wf D Bool D}(h:TW X E T e w):TW X E T (.UnaryOp .Not e pos) (cK w λc b a=>c (!b) a):=by refine e1a2 h λt f g=>?_;exact#[_,Xd f,λd F R i H c j Q s k l m=>g d F R i H _ j _ s k (λx a n o p q r u=>l _ a n o p q r u) m]
def WW(X:Cx)(E:XK)(T:gV)(e:iT){D:Type}[Sls D](w:Wf D Bool D):Prop :=
 ∃t,PW X e t/\∀(d:D)(F R:Rg)(g:St)(H:Hp)(h:Bool->D->Prop)(i:gV->D->Prop)(Q:Bool->Hp->Prop),wq T F R H d g->w d h i ->
  (∀x b c f a,h x b->Ch T F R H c f a->wq T c f a b g->Q x a) ->
  119->t g H Q
def tw_w{w:Wf D Bool D}(h:WW X E T e w):TW X E T e w:=e1a2 h λt a b=> #[t,a.pt,b]
def Hk{w:Wf D Bool D}(h:TW X E T a w):WW X E T (.BoolOp .And [a] pos) w:=e1a2 h λt b c=> #[_,T2 b,c]
def Az{w:Wf D Bool D}(h:TW X E T a w):WW X E T (.BoolOp .Or [a] pos) w:=e1a2 h λt b c=> #[_,Pn b,c]
def Ld{e:List iT}{h i:Wf D Bool D}(u:TW X E T a h)(v:WW X E T (.BoolOp .And (b::e) pos) i):WW X E T (.BoolOp .And (a::b::e) pos) (cA h i):=by
 refine e1a2 u λta w z=>?_;refine e1a2 v λtb A B=>?_;refine#[_,Xb w A,λd F R j H Kn l Q s G m n=>?_];refine z d F R j H _ l _ s G (λx o p q r t g f=>?_) n
 cases x with
 |true=>exact B o p q j r _ l _ f t (λy I J L M N O P=>m _ I J L M N (Ch.trans s f.tab g O) P) λC y S U W Y k c Z=>n C y S U W Y k (Ch.trans s f.tab g c) Z
 |false=>exact m _ o p q r t g f
def Bq{e:List iT}{h i:Wf D Bool D}(u:TW X E T a h)(v:WW X E T (.BoolOp .Or (b::e) pos) i):WW X E T (.BoolOp .Or (a::b::e) pos) (cO h i):=by
 refine e1a2 u λta w z=>?_;refine e1a2 v λtb A B=>?_;refine#[_,Ws w A,λd F R j H Kn l Q s G m n=>?_];refine z d F R j H _ l _ s G (λx o p q r t g f=>?_) n
 cases x with
 |false=>exact B o p q j r _ l _ f t (λy I J L M N O P=>m _ I J L M N (Ch.trans s f.tab g O) P) λC y S U W Y k c Z=>n C y S U W Y k (Ch.trans s f.tab g c) Z
 |true=>exact m _ o p q r t g f
def A5{op}{w:Wf D Bool D}(h:EW X E T a w):EW X E T (.BoolOp op [a] pos) w:=e1a2 h λt b c=> #[_,Xe b,c]
def CW{a b:iT}{rest:List iT}{g h:Wf D Bool D}(r:EW X E T a g)(t:EW X E T (.BoolOp .And (b::rest) pos) h):EW X E T (.BoolOp .And (a::b::rest) pos) (cA g h):=by
 refine e1a2 r λta w z=>?_;refine e1a2 t λtb A B=>?_;refine#[_,Xf w A,λd F R i H Kn j Q s G l m=>?_];refine z d F R i H _ j _ s G (λx n u o p H1 q f e I=>#[x,I,?_]) m
 cases x with
 |true=>exact B n o p i H1 _ j _ e q (λy J v L R2 H2 M N O P=>l _ J v L R2 H2 M (Ch.trans s e.tab f N) O P) λC y S U W Y k c Z=>m C y S U W Y k (Ch.trans s e.tab f c) Z
 |false=>exact l _ n _ o p H1 q f e rfl
def a0b{a b:iT}{rest:List iT}{g h:Wf D Bool D}(r:EW X E T a g)(t:EW X E T (.BoolOp .Or (b::rest) pos) h):EW X E T (.BoolOp .Or (a::b::rest) pos) (cO g h):=by
 refine e1a2 r λta w z=>?_;refine e1a2 t λtb A B=>?_;refine#[_,Zv w A,λd F R i H Kn j Q s G l m=>?_];refine z d F R i H _ j _ s G (λx n u o p H1 q f e I=>#[x,I,?_]) m
 cases x with
 |false=>exact B n o p i H1 _ j _ e q (λy J v L R2 H2 M N O P=>l _ J v L R2 H2 M (Ch.trans s e.tab f N) O P) λC y S U W Y k c Z=>m C y S U W Y k (Ch.trans s e.tab f c) Z
 |true=>exact l _ n _ o p H1 q f e rfl
def Yi(h:EW X E T a w):EW X E T (.UnaryOp .Not a pos) (cK w λ(e:Bool->D->Prop) b c=>e (!b) c):=by refine e1a2 h λt f g=>?_;exact#[_,Xg f,λd F R i H e j Q s k l m=>g d F R i H _ j _ s k (λx c u n o p q r v y=>#[x,y,l _ c _ n o p q r v rfl]) m]
end
variable[L2.GX]
class UJ(τ:Type)[Ow τ]:Prop where
 fr:∀{F R L:Rg} {H:Hp} {x:τ} {v:Option V},sl F R H x v->(∀a,L a->∃us,H a=↑(.lst us))->sl F (λa=>R a\/L a) H x v
class Le(α:Type)[Rep α]:Prop where
 no:∀{R L:Rg} {H:Hp} {x:α} {v:V},rp R H x v->(∀a,L a->∃us,H a=↑(.lst us))->rp (λa=>R a\/L a) H x v
instance:Le Int:=#[λh _=>h]
instance:Le Bool:=#[λh _=>h]
instance{α β:Type}[Rep α][Rep β][Le α][Le β]:Le (α×β):=#[λ{R L H x v} h k=>by
 obtain⟨a,u,w,h1,h2,h3,h4,h5⟩:=h
 exact#[a,u,w,h1,λz=>z.elim h2 λq=>(by obtain⟨us,e⟩:=k a q;rw[h3]at e;cases e),h3,Le.no h4 k,Le.no h5 k]]
def MX{α:Type}[Rep α][Le α]{R L:Rg}{H:Hp}(k:∀a,L a->∃us,H a=↑(.lst us)):∀{xs:List α} {vs:List V},Paired (rp R H) xs vs->Paired (rp (λa=>R a\/L a) H) xs vs:=by
 intro _ _ z
 induction z with
 |nil=>exact .nil
 |cons h t ih=>exact .cons (Le.no h k) ih
instance{α:Type}[Rep α][Le α]:Le (Tp α):=#[λ{R L H x v} h k=>by
 refine e2a4 h λa vs h1 h2 h3 h4=>?_
 exact#[a,vs,h1,λz=>z.elim h2 λq=>(by obtain⟨us,e⟩:=k a q;rw[h3]at e;cases e),h3,MX k h4]]
instance{α:Type}[Rep α][Le α]:UJ α:=#[λ{F R L H x v} h k=>by
 obtain⟨h1,u,e,h2⟩:=h
 exact#[h1,u,e,Le.no h2 k]]
instance{α:Type}[Rep α][Le α]:UJ (OL α):=#[λ{F R L H x v} h k=>by
 refine e2a4 h λa vs h1 h2 h3 h4=>?_
 exact#[a,vs,h1,h2,h3,MX k h4]]
instance:UJ Un:=#[λh _=>h]
class Zi(P:Type)[Sls P]:Prop where
 fr:∀{F R L:Rg} {H:Hp} {x:P} {v:St},rel F R H x v->(∀a,L a->∃us,H a=↑(.lst us))->rel F (λa=>R a\/L a) H x v
instance:Zi Unit:=#[λh _=>h]
instance{τ P:Type}[Ow τ][Sls P][UJ τ][Zi P]:Zi (τ×P):=#[λh k=>by
 refine e4a4 h λv σ' F1 F2 h1 h2 h3 h4=>?_
 exact#[v,σ',F1,F2,h1,h2,UJ.fr h3 k,Zi.fr h4 k]]
class Yj(P:Type)[Sls P]:Prop where
 ls:∀{F R:Rg} {H:Hp} {x:P} {v:St},rel F R H x v->∀a,F a->∃us,H a=↑(.lst us)
instance:Yj Unit:=#[λh a z=>ii z (h.2 a)]
instance{α P:Type}[Rep α][Sls P][Yj P]:Yj (OL α×P):=#[λ{F R H x v} h a z=>by
 obtain⟨v,σ',F1,F2,h1,h2,⟨b,vs,k1,k2,k3,k4⟩,h4⟩:=h;rcases(h2.all a).mp z with q|q
 ·rw[(k2 a).mp q];exact#[vs,k3]
 ·exact Yj.ls h4 a q]
abbrev Wo(R L:Rg):Rg:=λa=>R a/\¬L a
def CY(R L:Rg)(H:Hp):Ext (λ_=>False) R H (Wo R L) H:=#[λ_ _ _ h=>h,λa h=>.inl h.1]
def UK(h:∀a,L a->b a):Ext (λ_=>False) (Wo R L) H (Wo R b) H:=#[λ_ _ _ h=>h,λa z=>.inl #[z.1,λq=>z.2<|h a q]]
def Sls.wk{D:Type}[Sls D]{F R R':Rg}{H:Hp}{d:D}{σ:St}(h:rel F R H d σ)(e:Ext (λ_=>False) R H R' H):rel F R' H d σ:=Sls.st h e (λ_ z=>z.elim)<|λ_ _ z=>z
def Ow.wk{τ:Type}[Ow τ]{F R R':Rg}{H:Hp}{d:τ}{σ:Option V}(h:sl F R H d σ)(e:Ext (λ_=>False) R H R' H):sl F R' H d σ:=Ow.st h e (λ_ z=>z.elim)<|λ_ _ z=>z
class Lb(Lc τ PO:Type)[Sls Lc][Ow τ][Sls PO]:Prop where
 fr:∀{F R L R0:Rg} {H:Hp} {x:τ} {v:Option V} {l:Lc} {us:St},rel L R0 H l us->sl F R H x v->sl F (λa=>R a\/L a) H x v
 fs:∀{F R L R0:Rg} {H:Hp} {x:PO} {v:St} {l:Lc} {us:St},rel L R0 H l us->rel F R H x v->rel F (λa=>R a\/L a) H x v
instance{Lc τ PO:Type}[Sls Lc][Ow τ][Sls PO][UJ τ][Zi PO][Yj Lc]:Lb Lc τ PO:=#[λh k=>UJ.fr k (Yj.ls h),λh k=>Zi.fr k (Yj.ls h)]
def QG{R L:Rg}{H:Hp}(h:∀a,¬L a):Ext (λ_=>False) R H (λa=>R a\/L a) H:=#[λ_ _ _ h=>h,λa z=>z.elim .inl λq=>ii q<|h a]
instance(priority:=high){τ PO:Type}[Ow τ][Sls PO]:Lb Unit τ PO:=#[λh k=>Ow.wk k (QG h.2),λh k=>Sls.wk k (QG h.2)]
structure Ez(F F1 F2 F3:Rg):Prop where
 all:∀a,F a↔F1 a\/F2 a\/F3 a
 IQ:∀a,F1 a->F2 a->False
 Kk:∀a,F1 a->F3 a->False
 Kl:∀a,F2 a->F3 a->False
def Lf(X:Cx)(E:XK)(T:gV)(M:List iT){D P n B j:Type}[Sls D][Sls P][Sls n][Sls B][Sls j](k:B->j->n->D)(w:D->(P->B->j->Prop)->72->Prop):Prop :=
 ∃t,PA X M t/\∀(d:D)(F R:Rg)(g:St)(H:Hp)(o:P->B->j->Prop)(q:gV->D->Prop)(Q:List V->Hp->Prop),wq T F R H d g->w d o q ->
  (∀p b l m r s u L h f a,o p b l->Ch T F R H h f a->Std T h f a->Ez h s u L->rel s (Wo f L) a p (m.map some)->rel u f a b g->rel L f a l r ->
   (∀v x z A G i c e I,rel z c e I (m.map some)->rel A c e v g->rel G c e x r->Ez i z A G->rel i c e (k v x I) g)->Q m a) ->
  (∀C y J h f a,q C J->Ch T F R H h f a->wq T h f a J g->E (.ref C) ↑y a)->t g H Q
section
variable{D:Type}[Sls D]
def vg:Lf X E T [] (λ(b:D)(_:Unit)(_:Unit)=>b) (λ(d:D)(c:Unit->D->Unit->Prop) _=>c () d ()):=by refine#[_,vB,λd F R m H c n Q s e f _=>?_];exact f () d () [] [] (λ_=>False) F (λ_=>False) F R H e 61 s.IP #[λa=>#[λz=>.inr<|.inl z,λz=>z.elim (λq=>q.elim) λz=>z.elim id λq=>q.elim],λ_ z=>z.elim,λ_ z=>z.elim,λ_ _ z=>z] #[rfl,λ_ z=>z] s.rel #[rfl,λ_ z=>z] λo p r u v g h i w j k l t=>Sls.fq k λa=>#[λz=>(t.all a).mpr<|.inr<|.inl z,λz=>((t.all a).mp z).elim (λq=>ii q<|j.2 a) λz=>z.elim id λq=>ii q<|l.2 a]
def vj{g:List iT}{m P n B a:Type}[Rep m][Sls P][Sls n][Sls B][Sls a]{f:B->a->n->D}{A:Wf D m D}{G:D->(P->B->a->Prop)->72->Prop}
 (W:EW X E T e A) (Y:Lf X E T g f G) (Z:gX (e::g) X.env=67::gX g X.env:=by rfl) :
    Lf X E T (e::g) (λ(b:B)(l:a)(p:Un×n)=>f b l p.2) (cB A G λx (I:m×P->B->a->Prop) p b l=>I (x,p) b l):=by
  refine e1a2 W λta a1 a2=>?_
  refine e1a2 Y λtr b1 b2=>?_
  refine#[_,vn a1 b1 Z,λd F R J H I M Q s hw kn N=>?_]
  refine a2 d F R J H _ M _ s hw (λx d1 u F1 R1 H1 q1 O h r1=>?_) N
  refine b2 d1 F1 R1 J H1 _ M _ h q1 (λp b l S us o G2 L q i j q2 U s2 t2 h1 h2 hl k=>?_) λC y d' q i j k c s'=>N C y d' q i j k (Ch.trans s h.tab O c) s'
  refine kn (x,p) b l (u::S) us o G2 L q i j q2 (Ch.trans s h.tab O U) s2 t2 #[↑u,S.map some,λ_=>False,o,rfl,two_nil o,#[λ_ z=>z,u,rfl,Rep.st (h.val U r1)<|(CY i L j).wide λ_ z=>z.elim],h1] h2 hl λb' l' L1 L2 L3 r v w p' h3 h4 h5 t=>?_
  refine e4a4 h3 λv' aa M1 M2 z1 z2 z3 z4=>?_
  injection z1 with _ z5
  subst z5
  exact k b' l' L1 L2 L3 r v w p'.2 (Sls.fq z4<|two_eq z2 z3) h4 h5 t
def vM{o:List iT}(i:Nat){c O P w B g h:Type}[Ow c][Hs c][Sls O][Sls P][Sls w][Sls B][Sls g][Sls h]{j:B->h->w->D}{S:D->(P->B->h->Prop)->72->Prop}
 [A0:At i D c O] [A:At i B c g] [U:Pt i g c B] (hr:Lf X E T o j S) (he:PE X 97 (vQ i):=by exact pv _) (hs:gX (.Name x pos::o) X.env=(false,eval 97 X.env)::gX o X.env:=by rfl) :
    Lf X E T (.Name x pos::o) (λ(b:g)(l:h)(p:c×w)=>j (U.put b p.1) l p.2) (cK S λ(W:c×P->g->h->Prop) p b l=>W (A.get b,p) (A.hole b) l):=by
  refine e1a2 hr λtr b1 b2=>?_
  refine#[_,vn he b1 hs,λd F R σ H W Ke Q s hw kn ke=>?_]
  refine e3a4 (A0.take s.rel) λv _ _ y _ C _=>?_
  obtain⟨u,rfl⟩:=Hs.has C
  refine#[u,y,b2 d F R σ H _ Ke _ s hw (λp b l Y us Z G2 L F' R' H' q2 c2 s2 e h1 h2 hl k=>?_) ke]
  refine e3a4 (A.take h2) λv' G M2 z1 r z3 z4=>?_
  rw[y]at z1
  cases z1
  have m1:∀a,G a->G2 a:=λa m=>(r.all a).mpr<|.inl m
  have m2:∀a,M2 a->G2 a:=λa m=>(r.all a).mpr<|.inr m
  refine kn (A.get b,p) (A.hole b) l (u::Y) us (λa=>G a\/Z a) M2 L F' R' H' q2 c2 s2 #[λa=>?_,λa m n=>?_,λa m n=>?_,λa m n=>e.Kl a (m2 a m) n] #[↑u,Y.map some,G,Z,rfl,#[λ_=>Iff.rfl,λa m n=>e.IQ a n<|m1 a m],Ow.wk z3<|CY R' L H',h1] z4 hl λb' l' L1 L2 L3 I J M p' h3 h4 h5 t=>?_
  · rw[e.all, r.all]
    exact#[λz=>z.elim (λq=>.inl<|.inr q) λz=>z.elim 121 λq=>.inr<|.inr q,λz=>z.elim (λz=>z.elim (λq=>.inr<|.inl<|.inl q) .inl) λz=>z.elim (λq=>.inr<|.inl<|.inr q) λq=>.inr<|.inr q]
  · rcases m with m|m
    · exact r.yE a m n
    · exact e.IQ a m<|m2 a n
  · rcases m with m|m
    · exact e.Kl a (m1 a m) n
    · exact e.Kk a m n
  · refine e4a4 h3 λv' aa N N2 y1 f y3 y4 => ?_
    injection y1 with y5 y6
    subst y5;subst y6
    have tt:DF (λa=>N a\/L2 a) N L2:=#[λ_=>Iff.rfl,λa m n=>t.IQ a ((f.all a).mpr<|.inl m) n]
    refine k _ l' N2 (λa=>N a\/L2 a) L3 I J M p'.2 y4 (Pt.same (A:=U) h4 y tt y3) h5 #[λa=>?_,λa m n=>?_,λa m n=>t.Kk a ((f.all a).mpr<|.inr m) n,λa m n=>?_]
    · rw[t.all, f.all]
      exact#[λz=>z.elim (λz=>z.elim (λq=>.inr<|.inl<|.inl q) .inl) λz=>z.elim (λq=>.inr<|.inl<|.inr q) λq=>.inr<|.inr q,λz=>z.elim (λq=>.inl<|.inr q) λz=>z.elim 121 λq=>.inr<|.inr q]
    · rcases n with n|n
      · exact f.yE a n m
      · exact t.IQ a ((f.all a).mpr<|.inr m) n
    · rcases m with m|m
      · exact t.Kk a ((f.all a).mpr<|.inl m) n
      · exact t.Kl a m n
def vK{u:List iT}(i:Nat){e S P y B h j:Type}[Rep e][Sls S][Sls P][Sls y][Sls B][Sls h][Sls j]{o:B->j->y->D}{W:D->(P->B->j->Prop)->72->Prop}
 [A0:At i D (OL e) S] [A:At i B (OL e) h] [U:Pt i h (OL e) B] (hr:Lf X E T u o W) (he:PE X 97 (vQ i):=by exact pv _) (hs:gX (.Name x pos::u) X.env=(false,eval 97 X.env)::gX u X.env:=by rfl) :
    Lf X E T (.Name x pos::u) (λ(b:h)(l:OL e×j)(p:Un×y)=>o (U.put b l.1) l.2 p.2) (cK W λ(Y:List e×P->h->OL e×j->Prop) p b l=>Y ((A.get b).l,p) (A.hole b) (A.get b,l)):=by
  refine e1a2 hr λtr b1 b2=>?_
  refine#[_,vn he b1 hs,λd F R σ H Y Ke Q s hw kn ke=>?_]
  obtain⟨v,_,_,C,_,⟨r,_,rfl,_⟩,_⟩:=A0.take s.rel
  refine#[_,C,b2 d F R σ H _ Ke _ s hw (λp b l Z us G G2 L F' R' H' q2 c2 s2 f h1 h2 hl k=>?_) ke]
  refine e3a4 (A.take h2) λv' I M2 z1 w z3 z4=>?_
  rw[C]at z1
  cases z1
  refine e2a4 (id z3) λa ws e1 e2 e3 e4=>?_
  cases e1
  have m1:∀a,I a->G2 a:=λa m=>(w.all a).mpr<|.inl m
  have m2:∀a,M2 a->G2 a:=λa m=>(w.all a).mpr<|.inr m
  refine kn ((A.get b).l,p) (A.hole b) (A.get b,l) (.ref r::Z) (↑(.ref r)::us) G M2 (λc=>I c\/L c) F' R' H' q2 c2 s2 #[λa=>?_,λa m n=>f.IQ a m<|m2 a n,λa m n=>?_,λa m n=>?_] #[some<|.ref r,Z.map some,λ_=>False,G,rfl,two_nil G,#[λ_ z=>z,_,rfl,r,ws,rfl,λz=>z.2<|.inl<|(e2 r).mpr rfl,e3,wz ((CY R' _ H').wide λ_ z=>z.elim) e4],Sls.wk h1<|UK λ_ z=>.inr z] z4 #[_,us,I,L,rfl,#[λ_=>Iff.rfl,λa m n=>f.Kl a (m1 a m) n],z3,hl] λb' l' L1 L2 L3 J M N p' h3 h4 h5 t=>?_
  · rw[f.all, w.all]
    exact#[λz=>z.elim .inl λz=>z.elim (λz=>z.elim (λq=>.inr<|.inr<|.inl q) λq=>.inr<|.inl q) λq=>.inr<|.inr<|.inr q,λz=>z.elim .inl λz=>z.elim (λq=>.inr<|.inl<|.inr q) λz=>z.elim (λq=>.inr<|.inl<|.inl q) λq=>.inr<|.inr q]
  · rcases n with n|n
    · exact f.IQ a m<|m1 a n
    · exact f.Kk a m n
  · rcases n with n|n
    · exact w.yE a n m
    · exact f.Kl a (m2 a m) n
  · refine e4a4 h3 λv' aa N1 N2 y1 y2 y3 y4 => ?_
    injection y1 with _ y6
    subst y6
    refine e4a4 h5 λv2 ab O K2 x1 g x3 x4=>?_
    injection x1 with x5 x6
    subst x5;subst x6
    have tt:DF (λa=>O a\/L2 a) O L2:=#[λ_=>Iff.rfl,λa m n=>t.Kl a n<|(g.all a).mpr<|.inl m]
    refine k _ l'.2 L1 (λa=>O a\/L2 a) K2 J M N p'.2 (Sls.fq y4<|two_eq y2 y3) (Pt.same (A:=U) h4 C tt x3) x4 ⟨λa=>?_,λa m n=>?_,λa m n=>t.Kk a m<|(g.all a).mpr<|.inr n,λa m n=>?_⟩
    · rw[t.all, g.all]
      exact#[λz=>z.elim .inl λz=>z.elim (λq=>.inr<|.inl<|.inr q) λz=>z.elim (λq=>.inr<|.inl<|.inl q) λq=>.inr<|.inr q,λz=>z.elim .inl λz=>z.elim (λz=>z.elim (λq=>.inr<|.inr<|.inl q) λq=>.inr<|.inl q) λq=>.inr<|.inr<|.inr q]
    · rcases n with n|n
      · exact t.Kk a m<|(g.all a).mpr<|.inl n
      · exact t.IQ a m n
    · rcases m with m|m
      · exact g.yE a m n
      · exact t.Kl a m<|(g.all a).mpr<|.inr n
def EA{P J B Lc M:Type}[Sls P][Sls J][Sls B][Sls Lc][Ow M][Lb Lc M J]{mrg:B->Lc->J->D}{wf:Wf P M J}{F R F1 F2 L:Rg}{H:Hp}{b:B}{l:Lc}{p:P}{σ:St}{vs:List V}{us:St}{Kn:M->D->Prop}{Ke:gV->D->Prop}{Q:VK}
  (s:Std T F R H) (t:Ez F F1 F2 L) (hp:rel F1 (Wo R L) H p (vs.map some)) (hb:rel F2 R H b σ) (hl:rel L R H l us) (km:∀b' l' G1 G2 G3 W u w r,rel G1 u w r (vs.map some)->rel G2 u w b' σ->rel G3 u w l' us->Ez W G1 G2 G3->rel W u w (mrg b' l' r) σ)
  (hw:wf p (λx r=>Kn x<|mrg b l r) (λC r=>Ke C<|mrg b l r))
  (kn:∀x X v M1 N i d,Kn x X->Ch T F R H (λa=>M1 a\/N a) i d->wq T N i d X σ->Nw T M1 N i d x v->Q v d)
  (ke:∀C y X Y i d,Ke C X->Ch T F R H Y i d->wq T Y i d X σ->E (.ref C) ↑y d):yK T wf vs H Q E:=by
 have O:∀a,F1 a->F a:=λa h=>(t.all a).mpr<|.inl h;have S:∀a,F2 a->F a:=λa h=>(t.all a).mpr<|.inr<|.inl h;have k:∀a,L a->F a:=λa h=>(t.all a).mpr<|.inr<|.inr h;have s1:wq T F1 (Wo R L) H p (vs.map some):=⟨hp,λa h=>#[s.sub a<|O a h,λz=>t.Kk a h z],λa h=>s.xD a h.1,s.tab,#[s.v4,λz=>s.vS<|k T z],λh=>s.vS<|O T h⟩
 -- the region aa it: Z the ab left and Z ah ag
 have ex:∀{G i:Rg} {d:Hp},Ch T F1 (Wo R L) H G i d->Ext (λa=>F1 a\/a=T) R H (λa=>i a\/L a) d:=λc=>#[λb o n h=>c.keep b o (λz=>n<|.inl z) (λz=>n<|.inr z) h,λa h=>h.elim (λz=>(c.Aw a z).elim (λq=>.inl q.1) .inr) λz=>.inl<|s.sub a<|k a z];have gs:∀a,(F1 a\/a=T)->R a:=λa h=>h.elim (λz=>s.sub a<|O a z) λq=>by rw[q];exact s.v4
 have fr:∀{G i:Rg} {d:Hp},Ch T F1 (Wo R L) H G i d->rel F2 (λa=>i a\/L a) d b σ:=λc=>Sls.st hb (ex c) gs λa h z=>z.elim (λq=>t.IQ a q h) λq=>s.vS (by rw[<- q];exact S a h);have A:∀{G i:Rg} {d:Hp},Ch T F1 (Wo R L) H G i d->rel L (λa=>i a\/L a) d l us:=λc=>Sls.st hl (ex c) gs λa h z=>z.elim (λq=>t.Kk a q h) λq=>s.vS (by rw[<- q];exact k a h)
 have nF:∀{G i:Rg} {d:Hp},Ch T F1 (Wo R L) H G i d->∀a,G a->F2 a\/L a->False:=λc a g f=>by
  rcases c.yJ a g with q|q
  ·exact f.elim (t.IQ a q)<|t.Kk a q
  ·exact s.xD a (s.sub a<|f.elim (S a)<|k a) q
 have nR:∀{G i:Rg} {d:Hp},Ch T F1 (Wo R L) H G i d->∀a,L a->¬i a:=λc a h z=>by
  rcases c.Aw a z with q|q
  ·exact q.2 h
  ·exact s.xD a (s.sub a<|k a h) q
 have ch:∀{G i:Rg} {d:Hp},Ch T F1 (Wo R L) H G i d->Ch T F R H (λa=>G a\/F2 a\/L a) (λa=>i a\/L a) d:=λc=>#[λb o n m h=>c.keep b o (λz=>n<|O b z) m h,(ex c).new,λa h=>h.elim (λq=>(c.yJ a q).elim (λz=>.inl<|O a z) .inr) λq=>.inl<|q.elim (S a)<|k a,λa h n=>.inl<|c.left a ⟨h,λz=>n<|k a z⟩ λz=>n<|O a z];have ae:∀{G i:Rg} {d:Hp},Ch T F1 (Wo R L) H G i d->∀a,F2 a->i a:=λc a f=>c.left a #[s.sub a<|S a f,λz=>t.Kl a f z] λz=>t.IQ a z f
 have af:∀{G i:Rg} {d:Hp},Ch T F1 (Wo R L) H G i d->(∀a,i a->d a≠none)->∀a,i a\/L a->d a≠none:=λc h a z=>z.elim (h a) λq=>by
  cases e:H a with
  |none=>exact ii e<|s.xD a<|s.sub a<|k a q
  |some o=>rw[c.keep a o (λz=>t.Kk a z q) (λz=>s.vS<|by rw[<- z];exact k a q) e];simp
 refine#[F1,Wo R L,p,_,_,s1,hw,λx r v M1 N i d q c j n=>?_,λC y r Y i d q c j=>?_]
 ·have U:=nF c;have kl:=A c;have I:=ch c;refine kn x _ v M1 (λa=>N a\/F2 a\/L a) (λa=>i a\/L a) d q #[I.keep,I.Aw,λa h=>I.yJ a<|h.elim (λz=>.inl<|.inl z) λz=>z.elim (λq=>.inl<|.inr q) .inr,I.left] ⟨km b l N F2 L _ _ d r (Lb.fs M kl j.rel) (fr c) (A c) ⟨λ_=>Iff.rfl,λa m f=>U a (.inr m)<|.inl f,λa m f=>U a (.inr m)<|.inr f,t.Kl⟩,λa h=>h.elim (λz=>.inl<|j.sub a z) λz=>z.elim (λq=>.inl<|ae c a q) .inr,af c j.xD,j.tab,.inl j.v4,λh=>h.elim j.vS λz=>z.elim (λq=>s.vS<|S T q) λq=>s.vS<|k T q⟩ ⟨Lb.fr J kl n.is,λa m=>.inl<|n.sub a m,λa m z=>z.elim (n.yE a m) λz=>U a (.inl m) z,n.tab⟩
 ·have U:=nF c;have kl:=A c;exact ke C y _ (λa=>Y a\/F2 a\/L a) (λa=>i a\/L a) d q (ch c) #[km b l Y F2 L _ _ d r (Lb.fs M kl j.rel) (fr c) (A c) #[λ_=>Iff.rfl,λa m f=>U a m<|.inl f,λa m f=>U a m<|.inr f,t.Kl],λa h=>h.elim (λz=>.inl<|j.sub a z) λz=>z.elim (λq=>.inl<|ae c a q) .inr,af c j.xD,j.tab,.inl j.v4,λh=>h.elim j.vS λz=>z.elim (λq=>s.vS<|S T q) λq=>s.vS<|k T q]
def QH{P j B o:Type}[Sls P][Sls j][Sls B][Ow o]{mrg:B->j->D}{wf:Wf P o j}{F R F1 F2:Rg}{H:Hp}{b:B}{p:P}{σ:St}{r:List V}{Kn:o->D->Prop}{Ke:gV->D->Prop}{Q:VK}
  (s:Std T F R H) (t:DF F F1 F2) (I:rel F1 R H p (r.map some)) (J:rel F2 R H b σ) (M:∀k m n e c d f,rel m c d f (r.map some)->rel n c d k σ->DF e m n->rel e c d (mrg k f) σ)
  (hw:wf p (λx f=>Kn x<|mrg b f) (λC f=>Ke C<|mrg b f))
  (N:∀x i v w u h g,Kn x i->Ch T F R H (λa=>w a\/u a) h g->wq T u h g i σ->Nw T w u h g x v->Q v g)
  (O:∀C y i A h g,Ke C i->Ch T F R H A h g->wq T A h g i σ->E (.ref C) ↑y g):yK T wf r H Q E :=
 EA (Lc:=Unit) (L:=λ_=>False) (l:=()) (us:=[]) (mrg:=λb _ p=>mrg b p) s #[λa=>(t.all a).trans #[λz=>z.elim .inl λq=>.inr<|.inl q,λz=>z.elim .inl λq=>q.elim .inr iL],t.yE,λ_ _ z=>z,λ_ _ z=>z] (Sls.wk I<|CY _ _ _) J ⟨rfl,λ_ z=>z⟩
  (λk _ m n X e c d f S U W G=>M k m n e c d f S U #[λa=>(G.all a).trans #[λz=>z.elim .inl λq=>q.elim .inr λq=>ii q<|W.2 a,λz=>z.elim .inl λq=>.inr<|.inl q],G.IQ]) hw N O
def B6{P i B o r:Type}[Sls P][Sls i][Sls B][Sls o][Ow r][Lb o r i]{j:B->o->i->D}{S:Wf P r i}{U:D->(P->B->o->Prop)->72->Prop}{k:Nat}{Y:List Str}{m:List iT}
 (F:vR X.prog X.w X.K X.mg X.base 122 k f fd Y (yK T S)) (hr:wI k X.A) (hg:Gl X x) (hm:X.mg x=↑(.ref f)) (hk:jt X.K (.ref f)=true) (hb:Binds X.K fd Y []) (hx:Passes 122 X E)
 (ha:Lf X E T (e::m) j U) (u:(x==66)=false:=by decide) (he:gX (e::m) X.env=67::gX m X.env:=by rfl) (z:(jx pos<|gX m X.env).any (·.1)=false:=by rfl) :
    EO X E T (.Call (.Name x p) (e::m) [] pos) (cC U S j):=by
  refine e1a2 ha λt a1 a2=>?_
  refine#[_,T9 F hr hg hm hk hb .nil hx a1 u he z,λd F' R σ H Kn Ke Q s hw kn Z=>?_]
  refine a2 d F' R σ H _ Ke _ s hw (λp b l vs us F1 F2 L G R' H' q c I tw h1 h2 h3 km=>?_) Z
  rw[ko]
  exact EA I tw h1 h2 h3 km q (λx J v M1 M2 a g M N h n=>kn x J v M1 M2 a g M (Ch.trans s I.tab c N) h n) λC y J O a g M N h=>Z C y J O a g M (Ch.trans s I.tab c N) h
class Obj(τ:Type)[Ow τ](K:gW)(C:gV)(m:Str):Prop where
 ob:∀{F R:Rg} {H:Hp} {x:τ} {v:V},sl F R H x ↑v->∃a dx fs,v=.ref a/\H a=↑(.ins C dx fs)/\fs.lookup m=none
end
section
variable{D PO τ:Type}[Sls D][Sls PO][Ow τ]{α:Type}[Rep α]
def zR{F:Rg}:Ext (λc=>c=a) R H R (upd H a o):=#[λb u n h=>by rw[ve n];exact h,λ_ h=>.inl h]
def B7{i:Nat}{D0:Type}[Sls D0][A:At i D (OL α) D0][U:Pt i D0 (OL α) D]{F R:Rg}{H:Hp}{d:D}{σ:St}(s:wq T F R H d σ):∃a vs,σ[i]?=↑(some<|.ref a)/\H a=↑(.lst vs)/\Paired (rp R H) (A.get d).l vs /\
  ∀(ys:List α)(us:List V),Paired (rp R H) ys us->Ch T F R H F R (upd H a<|.lst us)/\wq T F R (upd H a<|.lst us) (U.put (A.hole d) #[ys]) σ:=by
 obtain⟨v,F1,F2,h1,h2,⟨a,vs,rfl,h4,h5,h6⟩,h7⟩:=A.take s.rel;have aF:F a:=(h2.all a).mpr<|.inl<|(h4 a).mpr rfl;have aT:a≠T:=λz=>s.vS (by rw[<- z];exact aF);refine#[a,vs,h1,h5,h6,λys us hp=>?_];have ex:=zR (F:=F) (R:=R) (H:=H) (a:=a) (o:=.lst us);have gs:∀c,c=a->R c:=λc z=>by rw[z];exact s.sub a aF
 have k:∀b u,b≠a->H b=↑u->upd H a (.lst us) b=↑u:=λb u z e=>by rw[ve z];exact e
 refine#[#[λb o n _ e=>k b o (λz=>n<|by rw[z];exact aF) e,λ_ h=>.inl h,λ_ h=>.inl h,λ_ h _=>h],Pt.same (A:=U) (Sls.st h7 ex gs λc z q=>h2.yE c ((h4 c).mpr q) z) h1 h2 #[a,us,rfl,h4,vh,wz (ex.wide gs) hp],s.sub,λc z=>?_,?_,s.v4,s.vS]
 ·by_cases e:c=a
  ·rw[e,vh];simp
  ·rw[ve e];exact s.xD c z
 ·refine e1a2 s.tab λps e t=>?_;exact#[ps,k _ _ (λz=>aT z.symm) e,t]
def wF{x:Str}{e:iT}(i:Nat){p1 p2 p3:Pos}{D0:Type}[Sls D0][A:At i D (OL α) D0][U:Pt i D0 (OL α) D][J:Pj D PO n]{we:Wf D α D}(h:EW X E T e we)
  (hb:∀{t:TA},PA X [e] t->PS X (.Expr (.Call (.Attribute (.Name x p1) "append" p2) [e] [] p3) pos) (Jc<|tBM X.K "list" MM (vQ i) t):=by exact λh=>BM<|WC mC PySem.F.slot_list_append PySem.F.type_list_append NX (pv _) h) (hs:gX [e] X.env=67::gX [] X.env:=by rfl) :
  S1 X E T ms n (.Expr (.Call (.Attribute (.Name x p1) "append" p2) [e] [] p3) pos) (cS we J.pj λ(Kn:D->Prop)(Kr:τ->PO->Prop) y d'=>(A.get d').l.length<hJ/\Kn (U.put (A.hole d') #[(A.get d').l++[y]])):=by
 refine e1a2 h λt h1 h2=>?_;refine#[_,hb<|vn h1 vB hs,λd F R σ H Kn Kr Ke En s hw kn kr ke=>?_];refine e2a4 (B7 (i:=i) s) λa vs g1 g2 g3 _=>?_;refine#[_,g1,.inl #[rfl,vs,wD.of g2],h2 d F R σ H _ _ _ s hw (λy d' v F' R' H' q c s' r=>?_) λC y d' F' R' H' q c s'=>?_]
 ·refine e2a4 (B7 (i:=i) s') λa' UL k1 k2 k3 k4=>?_;rw[g1]at k1;cases k1;obtain⟨c2,s2⟩:=k4 _ _<|yg k3<|.cons r .nil;exact#[a,UL,v,rfl,rfl,k2,by rw[<- Paired.length k3];exact q.1,kn _ F' R' _ σ q.2 (Ch.trans s s'.tab c c2) s2<|Ag.refl _ _]
 ·refine e1a2 (wR (PO:=PO) s') λG g1 g2=>?_;exact ke C y _ G R' H' q (c.less g1) g2
end
def GW(X:Cx)(T:gV)(ms:List Nat)(tg:iT){D D1 α:Type}[Sls D][Sls D1][Rep α](g:D->α->D1):Prop :=
 ∃t,PG X tg t/\∀(d:D)(F R:Rg)(σ:St)(H:Hp)(x:α)(v:V)(Q:St->Hp->Prop),wq T F R H d σ->rp R H x v->(∀F' σ',(∀a,F' a->F a)->wq T F' R H (g d x) σ'->Ag ms σ σ'->Q σ' H)->t v σ H Q
section
variable{D:Type}[Sls D]{α β:Type}[Rep α][Rep β]
def Lg{i:Nat}{τ0 D0 D1:Type}[Ow τ0][Sls D0][Sls D1][A:At i D τ0 D0][U:Pt i D0 α D1]{F R:Rg}{H:Hp}{d:D}{σ:St}{x:α}{v:V}(s:wq T F R H d σ)(r:rp R H x v) :
  ∃F',(∀a,F' a->F a)/\wq T F' R H (U.put (A.hole d) x) (σ.set i<|↑v):=by
 have m:Nw T (λ_=>False) F R H x v:=#[#[λ_ z=>z,v,rfl,r],λ_ z=>z.elim,λ_ z=>z.elim,λz=>z];refine e1a2 (Gr (i:=i) s m) λG g1 g2=>?_;exact#[G,λa h=>(g1 a h).elim (λz=>z.elim) id,g2]
def vF{x:Str}(i:Nat){τ0 D0 D1:Type}[Ow τ0][Sls D0][Sls D1][A:At i D τ0 D0][U:Pt i D0 α D1](hp:PG X 97 (Dl i))(hm:i∉ms:=by decide):GW X T ms 97 (λ(d:D)(x:α)=>U.put (A.hole d) x) :=
 #[_,hp,λd F R σ H x v Q s r k=>by
  refine e1a2 (Lg (i:=i) s r) λF' f1 f2=>?_
  exact k F' _ f1 f2 (Ag.set hm)]
def A6(i j:Nat)[Ow b][Ow c][Sls e][Sls f][Sls g][Sls m][A:At i D b e][U:Pt i e α f][n:At j f c g][o:Pt j g β m](p:PG X q (Xl X.K 2<|F8 (Dl i)<|F8 (Dl j) Xk))(t:i∉l)(y:j∉l) :
  GW X T l q (λ(d:D)(x:α×β)=>o.put (n.hole<|U.put (A.hole d) x.1) x.2) :=
 #[_,p,λd F R M H x v Q s r k=>by
  obtain⟨a,u,w,rfl,_,z,B,C⟩:=r;refine e1a2 (Lg (i:=i) s B) λN E G=>?_;refine e1a2 (Lg (i:=j) G C) λI J L=>?_
  exact#[a,[u,w],rfl,zn.of z,rfl,u,[w],rfl,w,[],rfl,rfl,k I _ (λa h=>E a (J a h)) L ((Ag.set t).trans (Ag.set y))]]
end
structure Zj{α:Type}[Rep α](J:It)(xs:List α)(Ps:Rg->Hp->Prop):Prop where
 go:∀{R:Rg} {H:Hp} {i:Nat},Ps R H->i<xs.length->J.go i H
 IN:∀{R:Rg} {H:Hp} {i:Nat} {v:V} {H':Hp},Ps R H->(∀a,R a->H a≠none)->i<xs.length->J.IN i H v H'->(H'=H\/∃p o,H p=none/\H'=upd H p o)/\∃x,xs[i]?=↑x/\rp R H' x v
 stop:∀{R:Rg} {H:Hp},Ps R H->J.stop xs.length H
def IW(X:Cx)(E:XK)(T:gV)(O:List Nat)(P e:iT){D B o:Type}[Sls D][Sls B][Rep o](k:B->List o->D)(w:D->(List o->B->Prop)->72->Prop):Prop :=
 ∃t,PI X P e t/\∀(d:D)(F R:Rg)(l:St)(H:Hp)(s:List o->B->Prop)(u:gV->D->Prop)(v:It->Hp->Prop),wq T F R H d l->w d s u ->
  (∀p b J m j q x f c,s p b->Ch T F R H j f c->Std T j f c->DF j q x->rel x f c b l->Zj J p m->m f c ->
   (∀{G r z:Rg} {A I:Hp},m r A->(∀a,G a->r a)->(∀a,q a->¬G a)->Ext G r A z I->m z I) ->
   (∀L M n g h i,m g h->rel M g h L i->Ag O l i->DF n q M->rel n g h (k L p) i)->v J c) ->
  (∀C y N j f c,u C N->Ch T F R H j f c->wq T j f c N l->E (.ref C) ↑y c)->t l H v
section
variable{D:Type}[Sls D]{α β:Type}[Rep α][Rep β]
def B8{K:gW}{xs:List α}{vs:List V}:Zj (Ze K a) xs (λR H=>H a=↑(.lst vs)/\Paired (rp R H) xs vs) where
 go:=λ{R H i} p h=>by refine e1a2 (xi (i:=i) (x:=xs[i]) p.2<|by simp[h]) λv e _=>?_;exact#[vs,v,wD.of p.1,e]
 IN:=λ{R H i v H'} p _ hi y=>by obtain⟨e,y⟩:=y;subst e;have y':=y vs<|wD.of p.1;refine e1a2 (xi (i:=i) (x:=xs[i]) p.2<|by simp[hi]) λu e r=>?_;rw[y']at e;cases e;exact#[.inl rfl,_,by simp[hi],r]
 stop:=λ{R H} p=>#[vs,wD.of p.1,by rw[Paired.length p.2];exact gZ _]
def wn{w:Wf D (List α) D}(h:EW X E T e w):IW X E T is tg e (λ(b:D)(_:List α)=>b) w:=by refine e1a2 h λt h1 h2=>?_;refine#[_,GP h1,λd F R σ H Kn Ke Rk s hw kn ke=>h2 d F R σ H _ _ _ s hw (λxs d' v F' R' H' q c s' r=>?_) ke];obtain⟨a,vs,rfl,r1,r2,r3⟩:=r;refine#[a,rfl,#[vs,wD.of r2],kn xs d' _ (λR H=>(H a=↑(.lst vs)/\Paired (rp R H) xs vs)/\¬R a) F' (λ_=>False) F' R' H' q c s'.IP (two_nil F') s'.rel #[λp=>B8.go p.1,λp=>B8.IN p.1,λp=>B8.stop p.1] #[#[r2,r3],r1] (λp gs nf ex=>?_) λb' G2 WP Kj QC σ' p h g t=>Sls.fq h<|two_eq t λ_ z=>z];have na:¬_:=λz=>p.2<|gs a z;exact#[#[ex.keep a _ na p.1.1,wz (ex.wide gs) p.1.2],ex.not p.2 p.1.1]
def EB{x:Str}(i:Nat){B:Type}[Sls B][A:At i D (OL α) B][U:Pt i B (OL α) D](hn:PE X 97 (vQ i))(hi:i∈is):IW X E T is tg 97 (λ(b:B)(xs:List α)=>U.put b #[xs]) (λ(d:D)(Kn:List α->B->Prop) _=>Kn (A.get d).l<|A.hole d):=by refine⟨_,GP hn,λd F R σ H Kn Ke Rk s hw kn ke=>?_⟩;obtain⟨v,F1,F2,h1,h2,⟨a,vs,rfl,h4,h5,h6⟩,h7⟩:=A.take s.rel;refine#[_,h1,a,rfl,#[vs,wD.of h5],kn _ _ _ (λR H=>H a=↑(.lst vs)/\Paired (rp R H) (A.get d).l vs) F F1 F2 R H hw 61 s.IP h2 h7 B8 #[h5,h6] (λp gs nf ex=>#[ex.keep a _ (nf a<|(h4 a).mpr rfl) p.1,wz (ex.wide gs) p.2]) λb' G2 WP Kj QC σ' p h g t=>?_];exact Pt.same (A:=U) h (by rw[g.2 i hi];exact h1) t #[a,vs,rfl,h4,p.1,p.2]
noncomputable def yY(a b:Int):List Int:=(iA (b-a).toNat).map λ(i:Nat)=>a+(i:Int)
def w8(a b:Int):(yY a b).length=(b-a).toNat:=by unfold yY;rw[hO,lP]
def UM{a b:Int}{i:Nat}(h:i<(b-a).toNat):(yY a b)[i]?=↑(a+(i:Int)):=by unfold yY;rw[jO,uf h];rfl
def Gu{lo hi:Int}:Zj (Xp lo (hi-lo).toNat) (yY lo hi) (λ_ _=>True) where
 go:=λ{R H i} _ h=>by rw[w8]at h;exact h
 IN:=λ{R H i v H'} _ _ hi y=>by obtain⟨e,y⟩:=y;subst e y;rw[w8]at hi;exact#[.inl rfl,_,UM hi,rfl]
 stop:=λ{R H} _=>by rw[w8];exact gZ _
def xE(m:Gl X "range")(n:X.mg "range"=none)(o:EW X E T a u)(w:gX [a] X.env=79::gX [] X.env:=by rfl)(e:gX [a] X.env=[79]:=by rfl) :
  IW X E T is P (.Call (.Name "range" p) [a] [] pos) (λ(b:D)(_:List Int)=>b) (cK u λk j f=>(-(2 ^ 62)<=j/\j<2 ^ 62)/\k (yY 0 j) f):=by
 refine e1a2 o λt x y=>?_;refine#[_,NN m n (vn x vB w) e,λd F R A H k Q S s B C G=>y d F R A H _ _ _ s B (λj f v i I J q c l r=>?_) G];subst r;refine#[j,rfl,q.1.1,q.1.2,?_];have:=C (yY 0 j) f (Xp 0 (j-0).toNat) (λ_ _=>True) i (λ_=>False) i I J q.2 c l.IP (two_nil i) l.rel Gu trivial (λ_ _ _ _=>trivial) λU W L M N O p h g t=>Sls.fq h<|two_eq t λ_ z=>z;rw[Int.sub_zero]at this;exact this
def Gv(hg:Gl X "range")(hm:X.mg "range"=none)(L:EW X E T a M)(N:EW X E T b O)(m:∀{A:TA},PA X [a,b] A->PI X P (.Call (.Name "range" p) [a,b] [] pos) (Wv A))
 (Q:gX [a,b] X.env=79::gX [b] X.env:=by rfl) (n:gX [b] X.env=(false,eval b X.env)::gX [] X.env:=by rfl) :
    IW X E T is P (.Call (.Name "range" p) [a,b] [] pos) (λ(b:D)(_:List Int)=>b) (cB M O λi B j e=>(-(2 ^ 62)<=i/\i<2 ^ 62/\-(2 ^ 62)<=j/\j<2 ^ 62)/\B (yY i j) e):=by
  obtain⟨t,S,U⟩:=L
  obtain⟨tb,W,Y⟩:=N
  refine#[_,m<|vn S (vn W vB n) Q,λd F R G H B Ke Rk s Z kn I=>U d F R G H _ _ _ s Z (λi d1 u F1 R1 H1 q1 J o r1=>?_) I]
  refine Y d1 F1 R1 G H1 _ _ _ o q1 (λj e v f w x q c l r=>?_) λC y e f w x k c l=>I C y e f w x k (Ch.trans s o.tab J c) l
  subst r;subst r1
  exact#[i,j,rfl,q.1,kn (yY i j) e (Xp i (j-i).toNat) (λ_ _=>True) f (λ_=>False) f w x q.2 (Ch.trans s o.tab J c) l.IP (two_nil f) l.rel Gu trivial (λ_ _ _ _=>trivial) λb' G2 aa ab ae af p h g t=>Sls.fq h<|two_eq t λ_ z=>z]
end
def Hl{α B PO τ:Type}(b:α->B->(B->Prop)->101->85->Prop):List α->B->(B->Prop)->101->85->Prop
 | [],d,Kn,_,_=>Kn d
 |x::xs,d,Kn,Kr,Ke=>b x d (λd'=>Hl b xs d' Kn Kr Ke) Kr Ke
section
variable{D B D1 D2 PO τ α:Type}[Sls D][Sls B][Sls D1][Sls D2][Sls PO][Ow τ][Rep α]
def Ch.big(c:Ch T F R H d e f)(g:∀a,F a->G a):Ch T G R H d e f:=#[λb o n m h=>c.keep b o (λz=>n<|g b z) m h,c.Aw,λa h=>(c.yJ a h).elim (λz=>.inl<|g a z) .inr,λa h n=>c.left a h λz=>n<|g a z]
def Ch.QI(t:DF F F1 d)(c:Ch T d R H e f g):Ch T F R H (λa=>F1 a\/e a) f g:=#[λb o n m h=>c.keep b o (λz=>n<|(t.all b).mpr<|.inr z) m h,c.Aw,λa h=>h.elim (λz=>.inl<|(t.all a).mpr<|.inl z) λz=>(c.yJ a z).elim (λz=>.inl<|(t.all a).mpr<|.inr z) .inr,λa h n=>c.left a h λz=>n<|(t.all a).mpr<|.inr z]
def Ch.trans'{j:Rg}{i k:Hp}(s:Std T F R H)(m:TabAt i T)(a:Ch T F R H l p i)(b:Ch T l p i r j k):Ch T F R H r j k:=by
 have f:∀c,¬F c->H c≠none->¬l c:=λc n h z=>by
  rcases a.yJ c z with q|q
  ·exact n q
  ·exact h q
 have d:∀c,i c=none->¬(F c)->H c=none:=λc h n=>by
  cases e:H c with
  |none=>rfl
  |some o =>
   have u:c≠T:=λz=>by rw[z]at h;exact zu m h
   rw[a.keep c o n u e]at h;cases h
 refine#[λc o n t h=>b.keep c o (f c n<|by rw[h];simp) t<|a.keep c o n t h,λc h=>?_,λc h=>?_,λc h n=>b.left c (a.left c h n)<|f c n<|s.xD c h]
 ·rcases b.Aw c h with q|q
  ·exact a.Aw c q
  ·by_cases g:F c
   ·exact .inl<|s.sub c g
   ·exact .inr<|d c q g
 ·rcases b.yJ c h with q|q
  ·exact a.yJ c q
  ·by_cases g:F c
   ·exact .inl g
   ·exact .inr<|d c q g
def drop_cons{α:Type}{a:List α}{i:Nat}{x:α}(h:a[i]?=↑x):a.drop i=x::a.drop (i+1):=by have b:=(List.getElem?_eq_some_iff.mp h);rw[ot b.1,b.2]
def Ag.sub(a:Ag c d b)(h:∀i∈e,i∈c):Ag e d b:=#[a.1,λi f=>a.2 i<|h i f]
@[reducible] def cF{D B D1 D2 α τ PO:Type}(w:D->(List α->B->Prop)->72->Prop)(v:D1->(D2->Prop)->101->85->Prop)(g:B->α->D1)(k:B->List α->D)(f:D2->B)(j:D->PO):D->(D->Prop)->101->85->Prop:=λd i c a=>w d (λh b=>Hl (λx b e c a=>v (g b x) (λl=>e<|f l) c a) h b (λm=>i<|k m h) c a) λC n=>a C<|j n
def wv{I:B->List α->D}{wi:D->(List α->B->Prop)->72->Prop}{g:B->α->D1}{wb:D1->(D2->Prop)->101->85->Prop}[Gf:Fg D2 B][J:Pj D PO n](dp:TR PO ms n)(hp:rV 28 X.A X.env X.xe)(hc:X.calm=true)
 (hi:IW X E T is tg iter I wi) (hg:GW X T mb tg g) (hb:SW X E T mb n body wb) (h1:∀i∈ms,i∈mb) (h2:∀i∈is,i∈mb) (hs:∀x,kD iter X.env x=pure x:=by intro _;rfl) :
    S1 X E T ms n (.For tg iter body [] pos) (cF wi wb g I Gf.fg J.pj):=by
  refine e1a2 hi λti i1 i2=>?_
  refine e1a2 hg λaq g1 g2=>?_
  refine e1a2 hb λtb Q b2=>?_
  refine#[_,Pw hp hc i1 g1 Q hs,λd F R σ H Kn Kr Ke En s hw kn kr ke=>?_]
  refine i2 d F R σ H _ _ _ s hw (λS b Jt Ps F' U F2 R' H' q c s' tw hr ip ps pk pb=>?_) λC y d' F' R' H' q c s'=>?_
  · -- the an
    refine#[λi m l N=>m=S.length-i/\i<=S.length/\∃Q G r j,Ch T F' R' H' G j N/\Std T G j N/\DF G U r/\rel r j N Q l/\Ps j N/\Ag mb σ l/\Hl (λx b aa Kr Ke=>wb (g b x) (λd2=>aa (Gf.fg d2)) Kr Ke) (S.drop i) Q (λb'=>Kn (I b' S)) Kr Ke,
      #[_,rfl,jj _,b,F',F2,R',Ch.refl _ _ _ _,s',tw,hr,ps,Ag.refl _ _,q],?_]
    rintro i m l N ⟨rfl,hi,Q,G,r,j,c1,O,W,r1,p1,a1,w1⟩
    have cc:=Ch.trans s s'.tab c c1
    by_cases ab:i<S.length
    · refine .inr #[ip.go p1 ab, λae L => ∃b2 G2 ag R2, Ch T F' R' H' G2 R2 L /\ Std T G2 R2 L /\ DF G2 U ag /\ rel ag R2 L b2 ae /\ Ps R2 L /\ Ag mb σ ae /\ Hl (λx b aa Kr Ke => wb (g b x) (λd2 => aa<|Gf.fg d2) Kr Ke) (S.drop<|i+1) b2 (λb' => Kn<|I b' S) Kr Ke, λae L p => #[S.length-(i+1), by omega, rfl, ab, p], λx L y => ?_]
      obtain⟨hH,x',ex,rx⟩:=ip.IN p1 O.xD ab y
      -- the ao af the Y step
      have ai:Ch T G j N G j L/\Std T G j L/\rel r j L Q l/\Ps j L:=by
        rcases hH with e|⟨p,o,hp,e⟩
        · subst e; exact#[Ch.refl _ _ _ _, O, r1, p1]
        · subst e
          have k:∀b u,N b=↑u->upd N p o b=↑u:=λb u e=>by rw[ve<|vq e hp];exact e
          have ex:Ext (λ_=>False) j N j (upd N p o):=#[λb u _ e=>k b u e,λa h=>.inl h]
          refine#[#[λb u _ _ e=>k b u e,λa h=>.inl h,λa h=>.inl h,λa h _=>h],#[O.sub,λa z=>?_,?_,O.v4,O.vS],Sls.st r1 ex (λ_ z=>z.elim)<|λ_ _ z=>z,pk p1 (λ_ z=>z.elim) (λ_ _ z=>z) ex]
          · cases e : N a with
            |none=>exact ii e<|O.xD a z
            |some u=>rw[k a u e];simp
          · refine e1a2 O.tab λqs e t => ?_
            exact#[qs,k _ _ e,t]
      obtain⟨c2,M,r2,p2⟩:=ai
      have P:∀a,r a->G a:=λa h=>(W.all a).mpr<|.inr h
      have S2:wq T r j L Q l:=#[r2,λa h=>M.sub a<|P a h,M.xD,M.tab,M.v4,λh=>M.vS<|P T h]
      rw[drop_cons ex]at w1
      refine g2 Q r j l L x' x _ S2 rx λF3 aj f3 S3 a3=>?_
      have ah:=Ch.trans' s' O.tab c1 c2
      have Z:=Ch.trans s s'.tab c ah
      have t3:∀a,U a->F3 a->False:=λa h k=>W.yE a h<|f3 a k
      refine b2 _ F3 j aj L _ Kr Ke _ S3 w1 (λd2 F4 R4 H4 ar q4 c4 f a4=>?_) (λx p' v M1 M2 R4 H4 q4 c4 f n4=>?_) λC y p' F4 R4 H4 q4 c4 f=>?_
      · refine e1a2 (Gf.le f.rel) λF5 f5 r5 => ?_
        have t4:∀a,U a->F4 a->False:=λa h k=>by
          rcases c4.yJ a k with z|z
          · exact t3 a h z
          · exact M.xD a (M.sub a<|(W.all a).mpr<|.inl h) z
        have ak:Ch T G j L (λa=>U a\/F5 a) R4 H4:=(Ch.QI (F1:=U) (F:=λa=>U a\/F3 a) #[λ_=>Iff.rfl,t3]<|c4.less f5).big λa h=>h.elim (λz=>(W.all a).mpr<|.inl z) λz=>P a<|f3 a z
        have al:∀a,U a->R4 a:=λa h=>c4.left a (M.sub a<|(W.all a).mpr<|.inl h) λz=>t3 a h z
        refine#[Gf.fg d2,λa=>U a\/F5 a,F5,R4,Ch.trans' s' M.tab ah ak,#[λa h=>h.elim (al a) λz=>f.sub a<|f5 a z,f.xD,f.tab,f.v4,λh=>h.elim (λz=>M.vS<|(W.all T).mpr<|.inl z) λz=>f.vS<|f5 T z],⟨λ_=>Iff.rfl,λa h k=>t4 a h<|f5 a k⟩,r5,?_,(a1.trans a3).trans a4,q4]
        exact pk p2 (G:=λa=>F3 a\/a=T) (λa h=>h.elim (S3.sub a) λz=>by rw[z];exact M.v4) (λa h z=>z.elim (t3 a h) λz=>M.vS<|(W.all T).mpr<|.inl<|by rw[<- z];exact h) c4.ext
      · refine kr x p' v M1 M2 R4 H4 q4 (Ch.trans s M.tab Z<|c4.big λa h => P a<|f3 a h) #[dp.dp ((a1.trans a3).sub h1) f.rel, f.sub, f.xD, f.tab, f.v4, f.vS] n4
      · exact ke C y p' F4 R4 H4 q4 (Ch.trans s M.tab Z<|c4.big λa h => P a<|f3 a h) #[dp.dp ((a1.trans a3).sub h1) f.rel, f.sub, f.xD, f.tab, f.v4, f.vS]
    · have e : i = S.length := by omega
      subst e
      rw[uY]at w1
      exact .inl #[ip.stop p1,kn _ G j N l w1 cc #[pb Q r G j N l p1 r1 (a1.sub h2) W,O.sub,O.xD,O.tab,O.v4,O.vS]<|a1.sub h1]
  · refine e1a2 (wR (PO := PO) s') λG g1 g2 => ?_
    exact ke C y _ G R' H' q (c.less g1) g2
end
end WL
namespace L2
open PySem PySem.Spec PyProof.Rows
section
variable{X:Cx}{elt iter tg:iT}{scope:my}{cl:List (Str×gV)}{T Fr:List Str}{idx:List Nat}{wi:TI}{pos:Pos}{ifs:List iT}
def Du{pins:List (gV×Obj)}{σ:St}{s2:hR}{H2:Hp}{J:It}{fp:List gV}{it:gV}{tn:Nat->iX->Prop}{E:cr->hR->Prop}{RR:cr->gV->Result->hR->Prop}{P:List V->Hp->Prop}(hcm:X.calm=true)
  (B:zj X scope cl T Fr idx) 
  (I2:Inv X pins σ H2 s2) (Tn:Turn X.prog X.w X.K tg J fp it tn) (st2:tn 0 s2.heap) (f2:∀b∈fp,By X pins H2 b)
  (hb:∀s₀ H₀ C ex pn,∃(g:TG)(tt:TT)(te:TE),(PG (FD X scope cl (T++Fr) s₀ H₀ C ex pn) tg g/\X4 (FD X scope cl (T++Fr) s₀ H₀ C ex pn) ifs tt/\PE (FD X scope cl (T++Fr) s₀ H₀ C ex pn) elt te)/\∃W:Nat->Nat->List V->St->Hp->Prop,(∃m,W 0 m [] (xI T idx σ) H2)/\∀i m ys σ' H,W i m ys σ' H->(J.stop i H/\P ys H)\/(J.go i H/\ys.length<hJ/\∀x H',J.IN i H x H'->g x σ' H' λYk H2=>tt Yk H2 λb H3=>if b=true then te Yk H3 λy H4=>∃m',m'<m/\W (i+1) m' (ys++[y]) Yk H4 else ∃m',m'<m/\W (i+1) m' ys Yk H3))
  (hRR:∀(D C:gV)(s':hR)(H':Hp)(ys:List V),H' D=none->P ys H'->Inv X pins σ (upd H' D<|.lst ys) s'->(∃m,s'.heap.Ns C m)->(upd H' D<|.lst ys) C=none->C≠X.env.locals->X.s₀.heap.objs.size<=C->(∀x c,X.env.cells.lookup x=↑c->c≠C)->(∀p∈X.pn++pins,p.1≠C)->RR (.ref D) C (.ok .next) s') :
  hX 28 X.A (newList []) (λacc a2l=>hX 28 X.A (newFunctionEnv scope X.env.globals cl [] X.env.qual none .none ↑X.env) (λcenv a2m =>
   mS 28 X.A (.compStart 112 0 (.ref it) acc { cenv with scope:=o9 scope X.env}) (RR acc cenv.locals) a2m) E a2l) E s2:=by
 refine iV<|wpAny_newFunctionEnv B.BG (by intro y hy;simp at hy) (λh4 ns4 sb4=>?_) B.kind;have hk3:∀b o,s2.heap.get? b=↑o->(s2.heap.push 81).get? b=↑o:=λb o e=>ce _ e;have oD3:(s2.heap.push 81).get? ⇑s2=some 81:=ic _ rfl;have sz3:(s2.heap.push 81).objs.size=⇑s2+1:=jK _ _;generalize s2.heap.push 81=h3 at ns4 sb4 hk3 oD3 sz3 ⊢;have I3:Inv X pins σ H2 { s2 with heap:=h3}:=I2.kept (t':=s2.toks) hk3;have QJ:H2 ⇑s2=none:=I2.vW.fresh<|gZ _;have Yl:∀b o,h3.get? b=some o->h4.get? b=some o:=λb o e=>sb4.extBut b o (ij<|hV e)<|ce _ e;have QK:H2 h3.objs.size=none:=I3.vW.fresh<|gZ _;have a0d:⇑s2≠h3.objs.size:=by rw[sz3];exact ij<|jE _
 -- facts about D,C,fp in X
 have fD:By X pins H2 ⇑s2:=I2.GO (gZ _) QJ;have fC:By X pins H2 h3.objs.size:=I3.GO (gZ _) QK
 have JF:∀b∈⇑s2::fp,By X pins H2 b/\b≠h3.objs.size:=λb zw=>by
  rcases List.mem_cons.mp zw with e|e
  ·subst e;exact#[fD,a0d]
  ·refine#[f2 b e,?_];obtain⟨o,ho,_⟩:=Tn.obj 0 _ st2 b e;exact ij<|hV<|hk3 b o ho
 -- the a1n context
 generalize Hm:FD X scope cl (T++Fr) { s2 with heap:=h3} H2 h3.objs.size (⇑s2::fp) (X.pn++pins)=X';obtain⟨g,tt,te,⟨hG,hT,hE⟩,W,w0,turn⟩:=hb { s2 with heap:=h3} H2 h3.objs.size (⇑s2::fp) (X.pn++pins);rw[Hm]at hG hT hE
 have ok':X'.Ok:=by
  subst Hm
  exact {
   mod:=I3.ok.mod
   kind:=B.kind
   glob:=I3.ok.glob
   blt:=I3.ok.blt
   above:=gZ _
   inj:=λx y c e1 e2=>I3.ok.inj x y c (B.sub x c e1)<|B.sub y c e2
   has:=λx h=>B.has h
   Pd:=λx c h=>by cases h
   hd:=I3.ok.hd
   frames:=I3.ok.frames
   CG:=.inl rfl
   T0:=λb zw=>#[(JF b zw).2,λx c e=>(JF b zw).1.2.2.2.2.1 x c<|B.sub x c e]
   bs:=λb o e=>I3.bs b o e
   IY:=iK I3.ok.IY I3.sz
   DC:=λb o e zw=>by
    rcases(JF b zw).1.2.2.2.1 with z|z
    ·exact I3.ok.DC b o e z
    ·exact ii (iu (hV e)<|iK I3.ok.IY z)<|j4 _
   Eb:=λb zw hf=>by
    rcases List.mem_cons.mp (I3.Ec b hf) with z|z
    ·exact(JF b zw).1.2.1 z
    ·exact(JF b zw).1.2.2.1 z
   yT:=I3.stack
   Ki:=λb zw=>I3.Mz b zw}
 have xA:X'.A=X.A:=by subst Hm;rfl
 have xp:X'.prog=X.prog:=by subst Hm;rfl
 have xw:X'.w=X.w:=by subst Hm;rfl
 have xK:X'.K=X.K:=by subst Hm;rfl
 have xc:X'.calm=true:=by subst Hm;exact hcm
 have xe:X'.env=tL scope cl h3.objs.size X.env:=by subst Hm;rfl
 have I4:Inv X' [] (xI T idx σ) H2 { s2 with heap:=h4}:=by
  have hN:X'.N=T++Fr:=by subst Hm;rfl
  refine#[ok',by subst Hm;rfl,I3.bare,by subst Hm;exact Un.kept Yl,?_,?_,by subst Hm;exact QK,?_,?_,?_,?_]
  ·obtain⟨m,hn,hl⟩:=I3.loc;refine#[_,by rw[xe];exact ns4,λi x v e1 e2 e3=>?_];rw[hN]at e1;unfold xI at e2;by_cases hi:i<T.length
   ·rw[ml (by rw[hO];exact hi),jO,jD hi]at e2;cases e2
   ·rw[j5 q0a]at e1;rw[j5 (by rw[hO];lia),hO,jO]at e2;obtain⟨i0,c,q1,q2,q3,q4,q5⟩:=B.fr _ x e1;rw[q1]at e2;have e2':(σ[i0]?).join=↑v:=iY e2
    have a2n:σ[i0]?=↑(some v):=by
     cases z:σ[i0]? with
     |none=>rw[z]at e2';cases e2'
     |some y=>rw[z]at e2';have:y=↑v:=e2';rw[this]
    obtain⟨u,r,l⟩:=hl i0 x v q2 a2n (by
     rcases q3 with z|z
     ·exact .inr<|.inl z
     ·exact .inr (.inr z))
    refine#[u,r,?_];rcases l with⟨k,_⟩|⟨k,c',e,z⟩
    ·rcases q3 with y|y<;>(rw[y]at k;cases k)
    ·have:=B.sub x c q4;rw[e]at this;cases this;refine .inr #[by rw[xe];exact q5,_,by rw[xe];exact q4,?_];obtain⟨o,ho,hd⟩:=z;exact#[o,Yl _ _ ho,hd]
  ·intro x c e;rw[xe]at e;obtain⟨v,o,ho,hd⟩:=I3.cell x c<|B.sub x c e;exact#[v,o,Yl _ _ ho,hd]
  ·intro x c e;rw[xe]at e;exact I3.yC x c<|B.sub x c e
  ·intro p hp;have hp':p∈X.pn++pins:=by subst Hm;simpa using hp
   obtain⟨a1,a2,a3,a4,a5⟩:=I3.pin p hp';refine#[Yl _ _ a1,a2,?_,?_,a5]
   ·rw[xe];exact ij<|hV a1
   ·subst Hm;intro hf;rcases List.mem_cons.mp (I3.Ec _ hf) with z|z
    ·exact a3 z
    ·exact a4 z
  ·subst Hm;exact I3.vW.kept Yl
  ·rw[hN];unfold xI;rw[ig,ig,hO,hO,B.len]
 have oD4:=Yl _ _ oD3;have st4:tn 0 h4:=Tn.keep _ _ _ st2 λb _ o e=>Yl b o<|hk3 b o e
 -- a2p stays true of the Ym objects and of D
 have a0e:∀{H':Hp} {pins':List (gV×Obj)},(∀p∈pins',p.1∉⇑s2::fp)->(∀b∈⇑s2::fp,H' b=none)->∀b∈⇑s2::fp,By X' pins' H' b:=by
  intro H' pins' hp hn b zw;subst Hm;obtain⟨⟨z1,z2,z3,z4,z5,z6⟩,z7⟩:=JF b zw;refine#[hn b zw,z7,?_,.inl zw,λx c e=>z5 x c<|B.sub x c e,λp hp'=>?_]
  ·intro hf;rcases List.mem_cons.mp (I3.Ec b hf) with z|z
   ·exact z2 z
   ·exact z3 z
  ·rcases List.mem_append.mp hp' with q|q
   ·exact z6 p q
   ·intro e;exact hp p q (by rw[e];exact zw)
 -- the end
 have fin:∀(s5:hR)(Pf:St)(H5:Hp)(ys:List V)(Ai:List cr)(nD:Nat),Inv X' [] Pf H5 s5->(∀b∈⇑s2::fp,H5 b=none)->s5.heap.get? ⇑s2=some 73->Vals ys Ai->ys.length<=hJ->P ys H5->RR (.ref ⇑s2) h3.objs.size (.ok .next) s5:=by
  intro s5 Pf H5 ys Ai nD I5 n5 oD5 v5 l5 q5;have D5:=n5 _ gY;have Yn:Un (zy X.stack) (⇑s2::fp) H2 H5 h3 s5.heap:=by have z:=I5.base;subst Hm;exact z
  have C5:H5 h3.objs.size=none:=by have z:=I5.free;rw[xe]at z;exact z
  have a2q:yi X.prog X.w (upd H5 ⇑s2<|.lst ys) s5.heap:=yi.WJ (by have z:=I5.vW;rw[xp,xw]at z;exact z) D5 #[l5,Ai,nD,v5,oD5]
  have u5:Un (zy X.stack) (⇑s2::fp) H2 (upd H5 ⇑s2<|.lst ys) h3 s5.heap:=by have nD':∀b u,H2 b=some u->b≠⇑s2:=λb u e=>vq e QJ;exact#[Yn.keep,Yn.slot,λb o e n hx=>by rw[ve<|λz=>hx<|by rw[z];exact gY];exact Yn.free b o e n hx,Yn.there,λb xs e=>by rw[ve<|nD' b _ e];exact Yn.BL b xs e,λb o u e=>by rw[ve<|nD' b _ e];exact Yn.Bv b o u e,λb ps e=>by rw[ve<|nD' b _ e];exact Yn.Bw b ps e]
  have os5:s5.os=s2.os:=by have z:=I5.os;subst Hm;exact z
  have IX:Inv X pins σ (upd H5 ⇑s2<|.lst ys) s5:=Inv.Wr (s:={ s2 with heap:=h3}) I3 os5 u5 a2q I5.bare λb zw=>by obtain⟨⟨z1,z2,z3,z4,z5,z6⟩,z7⟩:=JF b zw;exact#[z4,z2,z5,z6]
  obtain⟨m5,ns5,_⟩:=I5.loc;rw[xe]at ns5;refine hRR ⇑s2 h3.objs.size s5 H5 ys D5 q5 IX #[m5,ns5] (by rw[ve<|Ne.symm a0d];exact C5) fC.2.1 (iK I3.sz<|gZ _) fC.2.2.2.2.1 fC.2.2.2.2.2
 obtain⟨m0,w0⟩:=w0
 have loop:mS 28 X.A (.compLoop 112 0 (.ref it) (.ref ⇑s2)<|tL scope cl h3.objs.size X.env) (RR (.ref ⇑s2) h3.objs.size) { s2 with heap:=h4}:=by
  refine Qm (λn s5=>∃i ys Ai nD Pf H5,Inv X' [] Pf H5 s5/\tn i s5.heap/\(∀b∈⇑s2::fp,H5 b=none)/\s5.heap.get? ⇑s2=some 73/\Vals ys Ai/\ys.length<=hJ/\W i n ys Pf H5) ?_ m0
   #[0,[],[],0,xI T idx σ,H2,I4,st4,λb zw=>(JF b zw).1.1,oD4,.nil,jj _,w0]
  rintro n s5 ⟨i,ys,Ai,nD,Pf,H5,I5,Pe,n5,oD5,v5,l5,w5⟩;have f5:=a0e (pins':=[]) (λp hp=>by cases hp) n5;rcases turn i n ys Pf H5 w5 with⟨stop,q⟩|⟨go,ll,step⟩
  ·have z:=Tn.done X' xp xw xK xc i [] s5 Pf H5 (λ_ _=>False) I5 (λb zw=>f5 b<|hI _ zw) Pe stop;rw[xA]at z
   -- D is not touched by the end
   have z2:=Tn.done X' xp xw xK xc i [(⇑s2,73)] s5 Pf H5 (λ_ _=>False) (I5.zC λp hp=>by
    obtain rfl:=List.mem_singleton.mp hp;have Yo:=f5 _ gY
    exact#[oD5,Yo.1,Yo.2.1,Yo.2.2.1,λv z=>nomatch z]) (λb zw=>by
     obtain⟨a1,a2,a3,a4,a5,a6⟩:=f5 b<|hI _ zw;refine⟨a1,a2,a3,a4,a5,λp hp=>?_⟩;rcases List.mem_append.mp hp with y|y
     ·exact a6 p<|ji _ y
     ·obtain rfl:=List.mem_singleton.mp y;intro e;obtain⟨o,ho,_⟩:=Tn.obj 0 _ st2 b zw
      exact j4 _ (iu (hV ho) (qL (show ⇑s2=b from e)))) Pe stop
   rw[xA]at z2;refine vU z2 λr s6 z9=>e0a2 z9 λhr I6=>?_;subst hr;have p6:=I6.pin _<|iv _<|List.mem_singleton.mpr rfl;exact fin s6 Pf H5 ys Ai nD (I6.zC λp hp=>by cases hp) n5 p6.1 v5 l5 q
  ·have Yo:=f5 _ gY
   have I5p:=I5.zC (pins':=[(⇑s2,73)]) λp hp=>by obtain rfl:=List.mem_singleton.mp hp;exact#[oD5,Yo.1,Yo.2.1,Yo.2.2.1,λv z=>nomatch z]
   have fpD:∀b∈fp,b≠⇑s2:=λb zw=>by obtain⟨o,ho,_⟩:=Tn.obj 0 _ st2 b zw;exact ij<|hV ho
   have fpP:∀{H':Hp},(∀b∈fp,H' b=none)->∀b∈fp,By X' [(⇑s2,73)] H' b:=by
    intro H' hn b zw;obtain⟨a1,a2,a3,a4,a5,a6⟩:=f5 b<|hI _ zw;refine⟨hn b zw,a2,a3,a4,a5,λp hp=>?_⟩;rcases List.mem_append.mp hp with y|y
    ·exact a6 p<|ji _ y
    ·obtain rfl:=List.mem_singleton.mp y;exact Ne.symm<|fpD b zw
   have z:=Tn.item X' xp xw xK xc i _ s5 Pf H5 (λ_ _=>False) I5p (fpP λb zw=>n5 b<|hI _ zw) Pe go;rw[xA]at z;refine vU z λr s6 z9=>e1a2 z9 λu hr h6=>?_;subst hr;refine vU h6 λ_ s7 z9=>e2a5 z9 λx H7 I7 r7 y7 st7 n7=>?_;have I7':=I7.pinned (fpP n7)<|Tn.obj _ _ st7;have xx:X'.xe=λ_ _=>False:=by subst Hm;rfl
   have zG:=hG _ s7 Pf H7 x u _ I7' r7<|step x H7 y7;rw[xp,xw,xA,xe,xx]at zG;refine vU zG λ_ s8 z9=>e2a2 z9 λYp H8 I8 q8=>?_;have zT:=hT _ s8 Yp H8 _ I8 q8;rw[xp,xw,xA,xe,xx]at zT;refine vU zT λok s9 z9=>e1a2 z9 λH9 I9 q9=>?_
   -- a2p holds behind the turn
   have behind:∀{H':Hp} {s':hR},Inv X' ([(⇑s2,73)]++Ed fp s7.heap) Yp H' s'->s'.heap.get? ⇑s2=some 73/\tn (i+1) s'.heap/\∀b∈⇑s2::fp,H' b=none:=by
    intro H' s' I';have pD:=I'.pin _<|iv _<|ji _<|List.mem_singleton.mpr rfl;refine⟨pD.1,Tn.keep _ _ _ st7 λb zw o e=>(I'.pin (b,o)<|iv _<|iv _<|xS zw e).1,λb zw=>?_⟩;rcases List.mem_cons.mp zw with e|e
    ·rw[e];exact pD.2.1
    ·obtain⟨o,e',_⟩:=Tn.obj _ _ st7 b e;exact(I'.pin (b,o)<|iv _<|iv _<|xS e e').2.1
   cases ok with
   |false =>
    rw[ci h8]at q9 ⊢;obtain⟨m',hm,w'⟩:=q9;obtain⟨b1,b2,b3⟩:=behind I9;exact#[m',hm,i+1,ys,Ai,nD,Yp,H9,I9.zC (λp hp=>by cases hp),b2,b3,b1,v5,l5,w']
   |true =>
    rw[gU rfl]at q9 ⊢;have zE:=hE _ s9 Yp H9 _ I9 q9;rw[xp,xw,xA,xe,xx]at zE;refine vU zE λy s10 z9=>e2a3 z9 λyv H10 I10 r10 z69=>e1a2 z69 λm' hm w'=>?_;obtain⟨b1,b2,b3⟩:=behind I10;have hlen:=v5.length;refine wpAny_list_append_plain (items:=Ai.toArray) #[nD,b1] (λh11 a2u a0g=>?_) (by rw[ie];lia);obtain⟨nD',o11⟩:=a2u;have a2v:Inv X' [] Yp H10 s10:=I10.zC λp hp=>by cases hp
    obtain⟨a1,a2,a3,a4,a5,a6⟩:=a0e (pins':=[]) (λp hp=>by cases hp) b3 _ gY;have I11:Inv X' [] Yp H10 { s10 with heap:=h11}:=a2v.turned (t':=s10.toks) (λb o zw e=>(a0g.2 b zw).trans e) a1 a2 a4 a5 a6;refine#[m',hm,i+1,ys++[yv],Ai++[y],nD',Yp,H10,I11,Tn.keep _ _ _ b2 λb zw o e=>(a0g.2 b<|fpD b zw).trans e,b3,by simpa using o11,v5.append<|.cons r10 .nil,by rw[ig,iw];lia,w']
 exact codeAny_compStart_list loop<|Tn.self _ 0 _ _ _ st4 loop
def Yq(X:Cx)(elt tg:iT)(ifs:List iT)(scope:my)(cl:List (Str×gV))(T Fr:List Str)(idx:List Nat)(wi:TI):TE:=λl H Q=>wi l H λJ s=>∀a c C j k,∃(g:TG)(n:TT)(o:TE),(PG (FD X scope cl (T++Fr) a c C j k) tg g/\X4 (FD X scope cl (T++Fr) a c C j k) ifs n/\PE (FD X scope cl (T++Fr) a c C j k) elt o)/\∃W:Nat->Nat->List V->St->Hp->Prop,(∃m,W 0 m [] (xI T idx l) s)/\∀i m e f H,W i m e f H ->
 (J.stop i H/\∀p,H p=none->Q (.ref p) (upd H p<|.lst e))\/(J.go i H/\e.length<hJ/\∀x q,J.IN i H x q->g x f q λd t=>n d t λb r=>if b=true then o d r λy u=>∃h,h<m/\W (i+1) h (e++[y]) d u else ∃h,h<m/\W (i+1) h e d r)
def QL(c:X.calm=true)(k:PI X tg iter wi)(B:zj X scope cl T Fr idx) 
 (l:∀x,kD iter X.env x=pure x:=by intro _;rfl):PE X 112 (Yq X elt tg ifs scope cl T Fr idx wi):=by
  intro a s i H Q I h
  rw[eval_ListComp]
  refine pB (use:=none) rfl l B.Z6 B.kind B.names<|vU (k a s i H _ I h) λv Y n=>vU n λr Z t=>?_
  obtain⟨it,fp,tn,J,H2,e,u,y,d,z,E⟩:=t
  subst e
  refine Du (RR:=λf C=>compPost 28 X.A X.xe none (EP X a i Q) f C) (P:=λj H=>∀p,H p=none->Q (.ref p) (upd H p<|.lst j)) c B u y d z E ?_
  intro D C F H' j G q L ⟨m,M⟩ N O R S U
  exact#[m,M,λh' W=>#[.ref D,_,L.turned (t':=F.toks) (λb o g e=>(W.2 b g).trans e) N O (.inr R) S U,rfl,q D G]]
def UN(X:Cx)(elt tg:iT)(ifs:List iT)(scope:my)(cl:List (Str×gV))(T Fr:List Str)(idx:List Nat)(wi:TI)(j:Nat):TS:=λD k H=>wi k H λJ t=>∀a c C l n,∃(g:TG)(o:TT)(q:TE),(PG (FD X scope cl (T++Fr) a c C l n) tg g/\X4 (FD X scope cl (T++Fr) a c C l n) ifs o/\PE (FD X scope cl (T++Fr) a c C l n) elt q)/\∃W:Nat->Nat->List V->St->Hp->Prop,(∃m,W 0 m [] (xI T idx k) t)/\∀i m e f H,W i m e f H ->
 (J.stop i H/\∀p,H p=none->D.nx (k.set j<|some<|.ref p) (upd H p<|.lst e))\/(J.go i H/\e.length<hJ/\∀x r,J.IN i H x r->g x f r λd u=>o d u λb s=>if b=true then q d s λy v=>∃h,h<m/\W (i+1) h (e++[y]) d v else ∃h,h<m/\W (i+1) h e d s)
set_option tactic.hygienic true in
def QM{j:Nat}{d:Pos}(O:X.N.Nodup)(R:X.N[j]?=↑y)(u:X.env.scope.names.lookup y=some .local)(g:kd 112 (some<|.Name y py) d.line X.env=pure true)
 (i:X.calm=true) (S:PI X tg iter wi) (B:zj X scope cl T Fr idx) 
 (U:∀x,kD iter X.env x=pure x:=by intro _;rfl):PS X (.Assign [.Name y py] 112 d) (UN X elt tg ifs scope cl T Fr idx wi j):=by
  intro c s E H D I h
  rw[exec_Assign_Name_used _ _ _ _ g]
  refine am<|nS<|am ?_
  refine am<|vU (pB (use:=some<|sV (.Name y py) X.env) (Q:=λ_ f=>SP X c D .next f) rfl U B.Z6 B.kind B.names<|vU (S c s E H _ I h) λv s1 W=>vU W λY s2 Z=>?_) λ_ f hq=>ap<|ap hq
  obtain⟨it,fp,tn,J,H2,e,I2,Tn,k,f2,hb⟩:=Z
  subst e
  refine Du (RR:=λl C=>compPost 28 X.A X.xe (some<|sV (.Name y py) X.env) (λ_ f=>SP X c D .next f) l C) (P:=λF H=>∀p,H p=none->D.nx (E.set j<|some<|.ref p) (upd H p<|.lst F)) i B I2 Tn k f2 hb ?_
  intro G C f H' F hD q IX ⟨m,ns⟩ hC L c2 M c4
  refine wpAny_assign_Name<|F7 IX O R (.inl u) (v:=.ref G) rfl (λs3 I3 z9=>e1a2 z9 λa n ha=>?_)<|.inr u
  have r:C≠a:=by
    rcases ha with z|z
    · rw[z]; exact L
    · exact Ne.symm<|M _ _ z
  exact#[m,ns.sameBut n r,λh' sb=>#[_,_,I3.turned (t':=s3.toks) (λb o t e=>(sb.2 b t).trans e) hC L (.inr c2) M c4,q G hD]]
end
end L2
namespace WL
variable[L2.GX]
open PySem L2
open Rep (rp)
open Ow (sl)
open Sls (rel)
class Pre(k:Nat)(S:Type)[Sls S](Db:outParam Type)[Sls Db] where
 pre:S->Db
 suf:Db->S
 ok:∀{F R:Rg} {H:Hp} {s:S} {σ:St} (τ:St),τ.length=k->rel F R H s σ->rel F R H (pre s) (τ++σ)
 un:∀{F R:Rg} {H:Hp} {d:Db} {σ:St},rel F R H d σ->rel F R H (suf d) (σ.drop k)
 eta:∀d,pre (suf d)=d
 a0h:∀s,suf (pre s)=s
noncomputable instance pre0{S:Type}[Sls S]:Pre 0 S S:=#[id,id,λτ h r=>by rw[List.length_eq_zero_iff.mp h];exact r,λr=>r,λ_=>rfl,λ_=>rfl]
noncomputable instance preS{k:Nat}{S Db:Type}[Sls S][Sls Db][A:Pre k S Db]:Pre (k+1) S (Un×Db):=#[λs=>(#[],A.pre s),λd=>A.suf d.2,λ{F R H s σ} τ h r=>by
  cases τ with
  |nil=>cases h
  |cons v τ'=>exact#[v,τ'++σ,λ_=>False,F,rfl,two_nil F,λ_ z=>z,A.ok τ' (by simpa using h) r],
 λ{F R H d σ} r=>by
  obtain⟨v,σ',F1,F2,rfl,h2,h3,h4⟩:=r
  exact A.un<|Sls.fq h4<|two_eq h2 h3,
 λd=>by
  obtain⟨⟨⟩,d⟩:=d
  rw[A.eta],
 λs=>A.a0h s]
def B9{α γ S:Type}(b:α->S->(Option γ->S->Prop)->Prop):List α->S->(List γ->S->Prop)->Prop
 | [],s,K=>K [] s
 |x::xs,s,K=>b x s λo s'=>B9 b xs s' λys Ub=>K (o.toList++ys) Ub
def TWs(X:Cx)(T:gV)(a:List iT){D:Type}[Sls D](w:Wf D Bool D):Prop :=
 ∃t,X4 X a t/\∀(d:D)(F R:Rg)(b:St)(H:Hp)(e:Bool->D->Prop)(Q:Bool->Hp->Prop),wq T F R H d b->w d e (λ_ _=>False) ->
  (∀x f g h c,e x f->Ch T F R H g h c->wq T g h c f b->Q x c)->t b H Q
abbrev XF:XK:=λ_ _ _=>False
def tws_nil[Sls D]:TWs X T [] (λ(d:D) a _=>a true d):=#[_,Ux,λd F R e H a Q s b c=>c true d F R H b 61 s]
def tws_one{D:Type}[Sls D]{w:Wf D Bool D}(h:TW X XF T c w):TWs X T [c] w:=e1a2 h λt a b=> #[t,Uy a,λd F R e H f Q s g i=>b d F R e H f _ Q s g i λ_ _ _ _ _ _ z=>z.elim]
section
variable{D B S B0 Db D1 PO τ α γ:Type}[Sls D][Sls B][Sls S][Sls B0][Sls Db][Sls D1][Sls PO][Ow τ][Rep α][Rep γ]
abbrev stepC(P:Pre k S Db)(a:Fg D1 Db)(g:Db->α->D1)(c:Wf D1 Bool D1)(d:Wf D1 γ D1):α->S->(Option γ->S->Prop)->Prop :=
 λx s K=>c (g (P.pre s) x) (λt b=>if t=true then d b (λy e=>K ↑y<|P.suf<|a.fg e) (λ_ _=>False) else K none (P.suf<|a.fg b)) λ_ _=>False
def Gw[P:Pre k S Db][Gf:Fg D1 Db]{g:Db->α->D1}{wt:Wf D1 Bool D1}{we:Wf D1 γ D1}{J:It}{Ps:Rg->Hp->Prop}{L:List α}{F1 Fs Z:Rg}{Q:Hp}{σ:St}{s0:S}{K:List γ->S->Prop}{ag:List V->Hp->Prop}
  (hk:R.length=k) (ao:∀i,k<=i->i<k+idx.length->i∈mb)
  (hG:∀d f C I M,GW (FD X n cl (R++Fr) d f C I M) T mb tg g) (hT:∀d f C I M,TWs (FD X n cl (R++Fr) d f C I M) T aq wt) (hE:∀d f C I M,EW (FD X n cl (R++Fr) d f C I M) XF T ar we)
  (hz:L.length<=hJ) (ip:Zj J L Ps) (ps:Ps Z Q) (pk:∀{G Ra Rb:Rg} {Ha Hb:Hp},Ps Ra Ha->(∀a,G a->Ra a)->(∀a,F1 a->¬G a)->Ext G Ra Ha Rb Hb->Ps Rb Hb)
  (s':Std T Fs Z Q) (U:∀a,F1 a->Z a/\¬Fs a/\a≠T) (au:rel Fs Z Q s0 (idx.map λi=>σ[i]?.join)) (hw:B9 (stepC P Gf g wt we) L s0 K)
  (av:∀E N F l r O,K E N->Ch T Fs Z Q F l r->Std T F l r->rel F l r N (idx.map λi=>σ[i]?.join)->Ps l r->Paired (rp l r) E O->ag O r) :
  ∀d f C I M,∃(g:TG)(tt:TT)(te:TE),(PG (FD X n cl (R++Fr) d f C I M) tg g/\X4 (FD X n cl (R++Fr) d f C I M) aq tt/\PE (FD X n cl (R++Fr) d f C I M) ar te)/\∃W:Nat->Nat->List V->St->Hp->Prop,(∃m,W 0 m [] (xI R idx σ) Q)/\∀i m O ah H,W i m O ah H ->
   (J.stop i H/\ag O H)\/(J.go i H/\O.length<hJ/\∀x Q,J.IN i H x Q->g x ah Q λs Y=>tt s Y λb H3=>if b=true then te s H3 λy H4=>∃m',m'<m/\W (i+1) m' (O++[y]) s H4 else ∃m',m'<m/\W (i+1) m' O s H3):=by
 intro d f C I M;refine e1a2 (hG d f C I M) λaw g1 g2=>?_;refine e1a2 (hT d f C I M) λtt t1 t2=>?_;refine e1a2 (hE d f C I M) λte e1 e2=>?_;have aE:(xI R idx σ).length=k+idx.length:=by unfold xI;rw[ig,hO,hO,hk]
 have aa:∀{w:St},Ag mb (xI R idx σ) w->w.drop k=idx.map λi=>σ[i]?.join:=λ{w} a=>by
  apply qF;intro j;rw[ul];by_cases hj:j<idx.length
  ·rw[a.2 (k+j)<|ao _ q0a q0a];unfold xI;rw[j5 (by rw[hO,hk];lia),hO,hk,Nat.add_sub_cancel_left]
  ·rw[kP (by have:=a.1;lia),kP<|by rw[hO];lia]
 refine#[aw,tt,te,#[g1,t1,e1],λi m O w r=>m=L.length-i/\i<=L.length/\∃N F l E,Ch T Fs Z Q F l r/\Std T F l r/\rel F l r (P.pre N) w/\Ps l r/\Ag mb (xI R idx σ) w/\Paired (rp l r) E O/\E.length<=i/\B9 (stepC P Gf g wt we) (L.drop i) N (λws s'=>K (E++ws) s'),
  #[_,rfl,jj _,s0,Fs,Z,[],Ch.refl _ _ _ _,s',P.ok _ (by rw[hO,hk]) au,ps,Ag.refl _ _,.nil,jj _,by simpa using hw],?_]
 rintro i m O w r ⟨rfl,hi,N,F,l,E,c1,A,r1,p1,a1,pz,lz,w1⟩;have aG:=Paired.length pz;by_cases ab:i<L.length
 ·refine .inr #[ip.go p1 ab,q0a,λx Y y=>?_];obtain⟨hH,x',ax,rx⟩:=ip.IN p1 A.xD ab y;have ay:∀{G l:Rg} {r:Hp},Ch T Fs Z Q G l r->∀a,F1 a->l a/\¬G a:=λc a h=>#[c.left a (U a h).1 (U a h).2.1,λz=>(c.yJ a z).elim (U a h).2.1 λq=>s'.xD a (U a h).1 q]
  have az:Ch T F l r F l Y/\Std T F l Y/\rel F l Y (P.pre N) w/\Ps l Y/\Paired (rp l Y) E O:=by
   rcases hH with e|⟨p,o,hp,e⟩
   ·subst e;exact#[Ch.refl _ _ _ _,A,r1,p1,pz]
   ·subst e;have kk:∀b u,r b=↑u->upd r p o b=↑u:=λb u e=>by rw[ve<|vq e hp];exact e
    have I:Ext (λ_=>False) l r l (upd r p o):=#[λb u _ e=>kk b u e,λa h=>.inl h];refine#[#[λb u _ _ e=>kk b u e,λa h=>.inl h,λa h=>.inl h,λa h _=>h],#[A.sub,λa z=>?_,?_,A.v4,A.vS],Sls.st r1 I (λ_ z=>z.elim)<|λ_ _ z=>z,pk p1 (λ_ z=>z.elim) (λ_ _ z=>z) I,wz (I.wide λ_ z=>z.elim) pz]
    ·cases e:r a with
     |none=>exact ii e<|A.xD a z
     |some u=>rw[kk a u e];simp
    ·refine e1a2 A.tab λqs e t=>?_;exact#[qs,kk _ _ e,t]
  obtain⟨c2,S2,r2,p2,ai⟩:=az;have aA:=Ch.trans' s' A.tab c1 c2;rw[drop_cons ax]at w1;refine g2 (P.pre N) F l w Y x' x _ (S2.stt r2) rx λF3 s f3 S3 a3=>?_;have c3:Ch T Fs Z Q F3 l Y:=aA.less f3
  -- aH the block aF on af an item
  have on:∀{d2:D1} {F5 R5:Rg} {H5:Hp} {o:Option γ} {ae:List V},B9 (stepC P Gf g wt we) (L.drop<|i+1) (P.suf<|Gf.fg d2) (λws s'=>K (E++(o.toList++ws)) s')->Ch T F3 l Y F5 R5 H5->wq T F5 R5 H5 d2 s->Paired (rp R5 H5) (E++o.toList) ae->(E++o.toList).length<=i+1 ->
    ∃m',m'<L.length-i/\m'=L.length-(i+1)/\i+1<=L.length/\∃N F l E,Ch T Fs Z Q F l H5/\Std T F l H5/\rel F l H5 (P.pre N) s/\Ps l H5/\Ag mb (xI R idx σ) s/\Paired (rp l H5) E ae/\E.length<=i+1/\B9 (stepC P Gf g wt we) (L.drop<|i+1) N (λws s'=>K (E++ws) s'):=λ{d2 F5 R5 H5 o ae} hw c5 S5 aB aC=>by
   refine e1a2 (Gf.le S5.rel) λF6 f6 r6=>?_;have aD:=Ch.trans' s' S2.tab c3 c5;refine#[L.length-(i+1),q0a,rfl,ab,P.suf<|Gf.fg d2,F6,R5,E++o.toList,aD.less f6,⟨λa h=>S5.sub a<|f6 a h,S5.xD,S5.tab,S5.v4,λh=>S5.vS<|f6 T h⟩,by rw[P.eta];exact r6,?_,a1.trans a3,aB,aC,?_]
   ·refine pk p2 (G:=λa=>F3 a\/a=T) (λa h=>h.elim (S3.sub a) λz=>by rw[z];exact S2.v4) (λa h z=>?_) c5.ext;rcases z with z|z
    ·exact(ay c3 a h).2 z
    ·exact(U a h).2.2 z
   ·simp only[lQ];exact hw
  refine t2 _ F3 l s Y _ _ S3 w1 λb d1 F4 R4 H4 q4 c4 S4=>?_
  cases b with
  |false =>
   rw[ci h8];exact on (o:=none) q4 c4 S4 (by simpa using S3.vals c4 ai) (by simp;lia)
  |true =>
   rw[gU rfl];refine e2 _ F4 R4 s H4 _ _ _ S4 q4 (λy d2 v F5 R5 H5 q5 c5 S5 r5=>?_) λ_ _ _ _ _ _ z=>z.elim;have aj:=Ch.trans S3 S4.tab c4 c5;exact on (o:=↑y) q5 aj S5 (yg (S3.vals aj ai)<|.cons r5 .nil) (by simp;lia)
 ·have e:i=L.length:=by lia
  subst e;rw[uY]at w1;have ak:K (E++[]) N:=w1;rw[ko]at ak;have al:=P.un r1;rw[aa a1,P.a0h]at al;refine .inl #[ip.stop p1,av E N F l r O ak c1 A al p1 pz]
def EC[Se:Sel idx B S B0]{back:B->List α->D}{xs:List α}{Ps:Rg->Hp->Prop}(s':Std T F' R' H')(tw:DF F' F1 F2)(hr:rel F2 R' H' b σ)
 (pb:∀b' G2 WP Kj QC σ',Ps Kj QC->rel G2 Kj QC b' σ'->Ag is σ σ'->DF WP F1 G2->rel WP Kj QC (back b' xs) σ') :
    ∃Fs,Std T Fs R' H'/\(∀a,F1 a->R' a/\¬Fs a/\a≠T)/\rel Fs R' H' (Se.sel b) (idx.map λi=>σ[i]?.join) /\
      ∀{s1:S} {Gs R1:Rg} {H1:Hp},Ch T Fs R' H' Gs R1 H1->Std T Gs R1 H1->rel Gs R1 H1 s1 (idx.map λi=>σ[i]?.join)->Ps R1 H1->∃G,Ch T F' R' H' G R1 H1/\wq T G R1 H1 (back (Se.mrg (Se.rest b) s1) xs) σ:=by
  refine e2a4 (Se.cut hr) λFs F0 t0 h1 h2 hl=>?_
  have iS:∀a,Fs a->F' a:=λa h=>(tw.all a).mpr<|.inr<|(t0.all a).mpr<|.inl h
  have i0:∀a,F0 a->F' a:=λa h=>(tw.all a).mpr<|.inr<|(t0.all a).mpr<|.inr h
  have i1:∀a,F1 a->F' a:=λa h=>(tw.all a).mpr<|.inl h
  have d1S:∀a,F1 a->Fs a->False:=λa h k=>tw.yE a h<|(t0.all a).mpr<|.inl k
  have d10:∀a,F1 a->F0 a->False:=λa h k=>tw.yE a h<|(t0.all a).mpr<|.inr k
  refine#[Fs,#[λa h=>s'.sub a<|iS a h,s'.xD,s'.tab,s'.v4,λh=>s'.vS<|iS T h],λa h=>#[s'.sub a<|i1 a h,d1S a h,λz=>s'.vS<|by rw[<- z];exact i1 a h],h1,λ{s1 Gs R1 H1} c S1 r1 p1=>?_]
  have f0:rel F0 R1 H1 (Se.rest b) σ:=Sls.st h2 c.ext (λa h=>h.elim (λz=>s'.sub a<|iS a z) λz=>by rw[z];exact s'.v4) λa h z=>z.elim (λq=>t0.yE a q h) λq=>s'.vS (by rw[<- q];exact i0 a h)
  have nG:∀a,Gs a->F1 a\/F0 a->False:=λa g f=>by
    rcases c.yJ a g with q|q
    · exact f.elim (λz => d1S a z q) λz => t0.yE a q z
    · exact s'.xD a (s'.sub a<|f.elim (i1 a)<|i0 a) q
  have out:∀a,F1 a\/F0 a->R1 a:=λa f=>c.left a (s'.sub a<|f.elim (i1 a)<|i0 a) λz=>f.elim (λq=>d1S a q z) λq=>t0.yE a z q
  refine#[λa=>F1 a\/Gs a\/F0 a,#[λb o n m h=>c.keep b o (λz=>n<|iS b z) m h,c.Aw,λa h=>h.elim (λz=>.inl<|i1 a z) λz=>z.elim (λq=>(c.yJ a q).elim (λz=>.inl<|iS a z) .inr) λq=>.inl<|i0 a q,λa h n=>c.left a h λz=>n<|iS a z],pb _ (λa=>Gs a\/F0 a) _ R1 H1 σ p1 (Se.join #[λ_=>Iff.rfl,λa m f=>nG a m<|.inr f] r1 f0 hl) (Ag.refl _ _) ⟨λ_=>Iff.rfl,λa h z=>z.elim (λq=>nG a q<|.inl h) λq=>d10 a h q⟩,λa h=>h.elim (λz=>out a<|.inl z) λz=>z.elim (S1.sub a) λq=>out a<|.inr q,S1.xD,S1.tab,S1.v4,λh=>h.elim (λz=>s'.vS<|i1 T z) λz=>z.elim S1.vS λq=>s'.vS<|i0 T q]
def xy[P:Pre k S Db][N:Fg D1 Db][m:Sel idx B S B0]{h:B->List α->D}{v:D->(List α->B->Prop)->72->Prop}{g:Db->α->D1}{w:Wf D1 Bool D1}{y:Wf D1 γ D1}
 (o:X.calm=true) (O:IW X E T is z iter h v) (U:zj X a cl Ts Fr idx) (W:Ts.length=k) (r:∀i,k<=i->i<k+idx.length->i∈mb)
 (Y:∀e f C j l,GW (FD X a cl (Ts++Fr) e f C j l) T mb z g) (Z:∀e f C j l,TWs (FD X a cl (Ts++Fr) e f C j l) T t w) (hE:∀e f C j l,EW (FD X a cl (Ts++Fr) e f C j l) XF T u y)
 (hs:∀x,kD iter X.env x=pure x:=by intro _;rfl) :
    EO X E T (.ListComp u [#[z,iter,t,0]] a pos) (cK v λ(A:OL γ->D->Prop) n b=>n.length<=hJ/\B9 (stepC P N g w y) n (m.sel b) λI J=>A #[I]<|h (m.mrg (m.rest b) J) n):=by
  refine e1a2 O λti i1 i2=>?_
  refine#[_,QL o i1 U hs,λd F R σ H A Ke Q s hw kn ke=>?_]
  refine i2 d F R σ H _ _ _ s hw (λn b Jt Ps F' F1 F2 R' H' q c L tw hr ip ps pk pb=>?_) ke
  refine e1a4 (EC (idx:=idx) (Se:=m) L tw hr pb) λFs S0 n0 r0 on=>?_
  refine Gw W r Y Z hE q.1 ip ps pk S0 n0 r0 q.2 λzs J Gs R1 H1 I kz c1 S1 r1 p1 pz p hp=>?_
  refine e1a2 (on c1 S1 r1 p1) λG c2 M=>?_
  refine e1a3 (xW M hp pz) λR2 c3 S3 n3=>?_
  exact kn _ _ _ _ G R2 _ kz (Ch.trans s M.tab (Ch.trans s L.tab c c2) c3) S3 n3
def zS[P:Pre k S Db][Gf:Fg D1 Db][v:Sel idx B S B0](j:Nat){m I J:Type}[Ow m][Sls I][Sls J][A:At j D m I][U:Pt j I (OL γ) J][Jp:Pj D PO n]{h:Pos}{l:B->List α->D}{W:D->(List α->B->Prop)->72->Prop}{g:Db->α->D1}{Y:Wf D1 Bool D1}{Z:Wf D1 γ D1}
 (hN:X.N.Nodup) (hj:X.N[j]?=↑y) (hy:X.env.scope.names.lookup y=some .local) (L:kd (.ListComp o [#[M,iter,r,0]] a pos) (some<|.Name y py) h.line X.env=pure true) (hm:j∉ms)
 (O:X.calm=true) (hi:IW X E T is M iter l W) (Bs:zj X a cl Ts Fr idx) (hk:Ts.length=k) (Q:∀i,k<=i->i<k+idx.length->i∈mb)
 (hG:∀e f C t u,GW (FD X a cl (Ts++Fr) e f C t u) T mb M g) (hT:∀e f C t u,TWs (FD X a cl (Ts++Fr) e f C t u) T r Y) (hE:∀e f C t u,EW (FD X a cl (Ts++Fr) e f C t u) XF T o Z)
 (hs:∀x,kD iter X.env x=pure x:=by intro _;rfl) :
    S1 X E T ms n (.Assign [.Name y py] (.ListComp o [#[M,iter,r,0]] a pos) h) (cS W Jp.pj λ(Kn:J->Prop)(Kr:τ->PO->Prop) w b=>w.length<=hJ/\B9 (stepC P Gf g Y Z) w (v.sel b) λys s1=>Kn<|U.put (A.hole<|l (v.mrg (v.rest b) s1) w) #[ys]):=by
  refine e1a2 hi λti i1 i2=>?_
  refine#[_,QM hN hj hy L O i1 Bs hs,λd F R σ H Kn Kr Ke En s hw kn kr ke=>?_]
  refine i2 d F R σ H _ _ _ s hw (λw b Jt Ps F' F1 F2 R' H' q c z tw hr ip ps pk pb=>?_) λC y d' F' R' H' q c z=>?_
  · refine e1a4 (EC (idx := idx) (Se := v) z tw hr pb) λFs S0 n0 r0 on => ?_
    refine Gw hk Q hG hT hE q.1 ip ps pk S0 n0 r0 q.2 λzs s1 Gs R1 H1 ys kz c1 S1 r1 p1 pz p hp=>?_
    refine e1a2 (on c1 S1 r1 p1) λG c2 S2=>?_
    refine e1a3 (xW S2 hp pz) λR2 c3 S3 n3=>?_
    refine e1a2 (Gr (i:=j) S3 n3) λG2 g2 S4=>?_
    exact kn _ G2 R2 _ _ kz ((Ch.trans s S2.tab (Ch.trans s z.tab c c2) c3).less g2) S4<|Ag.set hm
  · refine e1a2 (wR (PO := PO) z) λG g1 g2 => ?_
    exact ke C y _ G R' H' q (c.less g1) g2
end
def Kp(g:gV)(H a:Hp):Prop:=∀b o,b≠g->H b=↑o->a b=↑o
def Kp.refl(g:gV)(H:Hp):Kp g H H:=λ_ _ _ h=>h
def Kp.trans{d e:Hp}(a:Kp g H d)(b:Kp g d e):Kp g H e:=λc o n h=>b c o n<|a c o n h
def Kp.at:Kp g H (upd H g o):=λb u n e=>by rw[ve n];exact e
def AA(h:H p=none):DE H (upd H p o):=λb u e=>by rw[ve<|vq e h];exact e
noncomputable def FP(q:gV)(i z s:Int):List V:=[.ref q,.int i,.int z,.int s]
structure Dv(H:Hp)(g q:gV)(ns:List Int)(i z s:Int):Prop where
 ob:H g=↑(.lst<|FP q i z s)
 sc:H q=↑(.lst<|ns.map V.int)
 i0:0<=i
 ne:q≠g
def Dv.put{i z s:Int}(B:Dv H g q b i z s){a z':Int}(h:0<=a):Dv (upd H g<|.lst<|FP q a z' s) g q b a z' s:=#[vh,by rw[ve B.ne];exact B.sc,h,B.ne]
def Yr(q:gV)(i z s:Int):FH (FP q i z s) 0=↑(.ref q):=rfl
def QN(q:gV)(i z s:Int):FH (FP q i z s) 1=↑(.int i):=rfl
def QO(q:gV)(i z s:Int):FH (FP q i z s) 2=↑(.int z):=rfl
def a2x(q:gV)(i z s:Int):FH (FP q i z s) 3=↑(.int s):=rfl
def a0j(x:Int):-(2 ^ 64)<x%2147483647/\x%2147483647<2 ^ 64:=by lia
def UO{ns:List Int}{i:Int}(b:0<=i)(c:i<(ns.length:Int)):∃n,FH (ns.map V.int) i=↑(.int n):=by
 have a:i.toNat<ns.length:=by omega
 have e:(ns.map V.int)[i.toNat]?=↑(.int ns[i.toNat]):=by rw[jO,jD a];rfl
 have:=MK e;rw[show ((i.toNat:Nat):Int)=i by omega]at this;exact#[_,this]
structure Bg where
instance:Ow Bg:=#[λF _ H _ v=>∃g q ns i z s,v=↑(.ref g)/\(∀b,F b↔b=g\/b=q)/\Dv H g q ns i z s,
 λ{F G R H R' H' x v} h e s n=>by
  obtain⟨g,q,ns,i,z,s',h1,h2,h3⟩:=h
  exact#[g,q,ns,i,z,s',h1,h2,#[e.keep g _ (n g<|(h2 g).mpr<|.inl rfl) h3.ob,e.keep q _ (n q<|(h2 q).mpr<|.inr rfl) h3.sc,h3.i0,h3.ne]],
 λh e=>by
  obtain⟨g,q,ns,i,z,s',h1,h2,h3⟩:=h
  exact#[g,q,ns,i,z,s',h1,λb=>(e b).symm.trans (h2 b),h3]]
instance:Hs Bg:=#[λz9=>e6a2 z9 λ_ _ _ _ _ _ h _=>#[_,h]]
instance:UJ Bg:=#[λh _=>h]
def QP:Sp:=λd H Q _=>∃(g q:gV)(c:List Int)(i z s a:Int),d=[.ref g,.int a]/\Dv H g q c i z s/\0<a/\a<1073741824 /\
 ∀b e f r,Kp g H b->Dv b g q c e f s->0<=r->r<a->Q (.int r) b
abbrev WR:Bg×Int×Unit->(Int->Bg×Un×Unit->Prop)->(gV->Bg×Un×Unit->Prop)->Prop:=λp a _=>0<p.2.1/\p.2.1<1073741824/\∀r,0<=r->r<p.2.1->a r 94
def WT{K:gW}{k:Nat}(F:vR P w K b base Qa k f c d g):vR P w K b base (vX P w) k f c d g :=
 #[F.len,λA a s H args i j Q E l m n o p=>j7 (F.run A a s H args i j Q E l m n o p) λr t h=>by
  cases r with
  |error e=>exact iL h
  |ok q =>
   cases q with
   |ret u=>exact h
   |next=>exact iL h
   |brk=>exact iL h
   |cont=>exact iL h]
def a2y:∀{c:List V},List.map some c=[↑a,↑b]->c=[a,b]:=by
 intro c e
 cases c with
 |nil=>cases e
 |cons p r=>cases r with
  |nil=>cases e
  |cons q s=>cases s with
   |nil=>cases e;rfl
   |cons _ _=>cases e
def Ys{K:gW}{k:Nat}(F:vR P w K I base Qa k f J c QP):vR P w K I base (vX P w) k f J c (yK T WR):=by
 refine(WT F).imp λL H Q E h=>?_;obtain⟨m,R,p,Kn,Ke,s,⟨M,N,O⟩,S,_⟩:=h;obtain⟨v1,U,X,Y,Z,v,⟨g,q,x,i,z,y,rfl,A,hb⟩,d⟩:=s.rel;obtain⟨v2,aa,F3,F4,e2,t2,⟨n3,u,rfl,r2⟩,e3,n4⟩:=d;subst r2;subst e2 e3
 have ev:L=[.ref g,.int p.2.1]:=by exact a2y Z
 subst ev;have B:m g:=(v.all g).mpr<|.inl<|(A g).mpr<|.inl rfl;have gT:g≠T:=λe=>s.vS (by rw[<- e];exact B);refine#[g,q,x,i,z,y,p.2.1,rfl,hb,M,N,λC i' z' r j D r0 d=>?_]
 have l:∀a,R a->C a≠none:=λa h=>by
  by_cases e:a=g
  ·rw[e,D.ob];simp
  ·cases G:H a with
   |none=>exact ii G<|s.xD a h
   |some o=>rw[j a o e G];simp
 refine S r 94 _ (λ_=>False) m R C (O r r0 d) #[λb o n _ h=>j b o (λe=>n<|by rw[e];exact B) h,λ_ h=>.inl h,λa h=>h.elim (λz=>z.elim) .inl,λ_ h _=>h]
  #[#[_,_,X,Y,rfl,v,#[g,q,x,i',z',y,rfl,A,D],_,_,F3,F4,rfl,t2,n3,rfl,n4],s.sub,l,?_,s.v4,s.vS] #[#[λ_ z=>z,_,rfl,rfl],λ_ z=>z.elim,λ_ z=>z.elim,λz=>z]
 refine e1a2 s.tab λc e t=>?_;exact#[c,j T _ (λe=>gT e.symm) e,t]
structure Fn(K:gW)(mg:Str->Option cr)(x:Str)(st:iB)(ps:List Str)(f:gV)(fd:iQ):Prop where
 fn:y9 K x x st f fd
 at_:mg x=↑(.ref f)
 bd:Binds K fd ps []
def BZ{g:Prop}(h:∀G:Prop,(g->G)->G):g:=h g id
def a2z{a b c d:Type}{P:a×b×c×d->Prop}(h:∀e f g i,P (e,f,g,i)):∀x,P x:=λx=>h x.1 x.2.1 x.2.2.1 x.2.2.2
def a35{a b c d e f:Type}{P:a×b×c×d×e×f->Prop}(h:∀g i j k l m,P (g,i,j,k,l,m)):∀x,P x:=λx=>h x.1 x.2.1 x.2.2.1 x.2.2.2.1 x.2.2.2.2.1 x.2.2.2.2.2
def a2A{a b c d e:Type}{P:a×b×c×d×e->Prop}(h:∀f g i j k,P (f,g,i,j,k)):∀x,P x:=λx=>h x.1 x.2.1 x.2.2.1 x.2.2.2.1 x.2.2.2.2
def a0k{a b c d e f g:Type}{P:a×b×c×d×e×f×g->Prop}(h:∀i j k l m n o,P (i,j,k,l,m,n,o)):∀x,P x:=λx=>h x.1 x.2.1 x.2.2.1 x.2.2.2.1 x.2.2.2.2.1 x.2.2.2.2.2.1 x.2.2.2.2.2.2
def a0l{a b c d e f g i:Type}{P:a×b×c×d×e×f×g×i->Prop}(h:∀j k l m n o p q,P (j,k,l,m,n,o,p,q)):∀x,P x:=λx=>h x.1 x.2.1 x.2.2.1 x.2.2.2.1 x.2.2.2.2.1 x.2.2.2.2.2.1 x.2.2.2.2.2.2.1 x.2.2.2.2.2.2.2
def FQ{a b c d e f g i j:Type}{P:a×b×c×d×e×f×g×i×j->Prop}(h:∀k l m n o p q r s,P (k,l,m,n,o,p,q,r,s)):∀x,P x:=λx=>h x.1 x.2.1 x.2.2.1 x.2.2.2.1 x.2.2.2.2.1 x.2.2.2.2.2.1 x.2.2.2.2.2.2.1 x.2.2.2.2.2.2.2.1 x.2.2.2.2.2.2.2.2
def QQ{b c d e f g i j k l a:Type}{P:b×c×d×e×f×g×i×j×k×l×a->Prop}(h:∀n o p q r s t u v w m,P (n,o,p,q,r,s,t,u,v,w,m)):∀x,P x:=λx=>h x.1 x.2.1 x.2.2.1 x.2.2.2.1 x.2.2.2.2.1 x.2.2.2.2.2.1 x.2.2.2.2.2.2.1 x.2.2.2.2.2.2.2.1 x.2.2.2.2.2.2.2.2.1 x.2.2.2.2.2.2.2.2.2.1 x.2.2.2.2.2.2.2.2.2.2
def vo{K:gW}{d:Str->Option cr}{k:Nat}{e:List Str}{A c g:Type}[Sls A][Sls c][Ow g]{i j:Wf A g c}(F:vR P w K d base (vX P w) k f l e (yK T i))(h:∀p a b,j p a b->i p a b):vR P w K d base (vX P w) k f l e (yK T j) :=
 F.imp λo H Q E m=>e5a3 m λF R p a b s n r=>#[F,R,p,a,b,s,h p a b n,r]
def a3g:Passes (vX P w) X XF:=λa b H s e c I h=>by obtain⟨_,_,_,_,_,z⟩:=h;exact z.elim
def lkc{β:Type}{n x:Str}{c c':β}{r:List (Str×β)}(h:kG x ((n,c)::r)=↑c'):(x=n/\c'=c)\/kG x r=↑c':=by
 rw[iO]at h
 cases q:x==n with
 |true=>rw[q]at h;exact .inl #[eq_of_beq q,(iY h).symm]
 |false=>rw[q]at h;exact .inr h
def fc{b:Type}{p:b->Prop}{a:b}{l:List b}(h:p a)(t:∀y∈l,p y):∀y∈a::l,p y:=λy c=>by
 rcases List.mem_cons.mp c with e|e
 ·rw[e];exact h
 ·exact t y e
def wS{k m:Nat}(h:a=(iA m).map (k + ·)):∀i,k<=i->i<k+m->i∈a:=λi b c=>by rw[h];exact List.mem_map.mpr #[i-k,List.mem_range.mpr q0d,q0d]
def a36{a:Type}{p:a->Prop}:∀y∈([]:List a),p y:=λ_ h=>by cases h
section
variable{D PO τ:Type}[Sls D][Sls PO][Ow τ]{α:Type}[Rep α]
def Lh(d:EW X E T a f):EW X E T (.UnaryOp .USub a pos) (cK f λ(i:Int->D->Prop) x j=>i (-x) j):=by have h:=Yc (c:=λ_=>True) (γ:=Int) (g:=λx:Int=>-x) (e:=.UnaryOp .USub a pos) d (λl b=>Ww Py b) λb _ k=>#[_,b,k _ rfl];simp only[true_and]at h;exact h
def zc(i:Nat)[Sls l][Sls g][Hs τ][A:At i D τ g][J:Pj g PO n](m:PE X (.Name x p) (vQ i)):S1 X E T I n (.Return (some<|.Name x p) pos) (λ(d:D)(_:l->Prop)(j:τ->PO->Prop) _=>j (A.get d)<|J.pj<|A.hole d):=by refine⟨_,CH m,λd F R L H M j N O s q P r Q=>?_⟩;refine e3a4 (A.take s.rel) λv t w y c k B=>?_;obtain⟨u,rfl⟩:=Hs.has k;have f:∀a,w a->F a:=λa h=>(c.all a).mpr<|.inr h;refine e1a2 (J.le B) λG e C=>?_;exact#[u,y,r _ _ u t G R H q #[λb o _ _ h=>h,λ_ h=>.inl h,λa h=>.inl<|h.elim (λz=>(c.all a).mpr<|.inl z) λz=>f a<|e a z,λ_ h _=>h] #[C,λa h=>s.sub a<|f a<|e a h,s.xD,s.tab,s.v4,λh=>s.vS<|f T<|e T h] ⟨k,λa h=>s.sub a<|(c.all a).mpr<|.inl h,λa h z=>c.yE a h<|e a z,λh=>s.vS<|(c.all T).mpr<|.inl h⟩]
def UP{N:List iT}{i P PO B A:Type}[Ow i][Sls P][Sls PO][Sls B][Sls A]{G:B->A->PO->D}{we:Wf D i D}{wr:D->(P->B->A->Prop)->72->Prop}
 (ha:EO X E T e we) (hr:Lf X E T N G wr) (hs:gX (e::N) X.env=67::gX N X.env:=by rfl) :
    Lf X E T (e::N) (λ(b:B)(l:A)(p:Un×PO)=>G b l p.2) (cB we wr λx (Kn:i×P->B->A->Prop) p b l=>Kn (x,p) b l):=by
  refine e1a2 ha λta a1 a2=>?_
  refine e1a2 hr λtr b1 b2=>?_
  refine#[_,vn a1 b1 hs,λd F R σ H Kn Ke Q s hw kn ke=>?_]
  refine a2 d F R σ H _ Ke _ s hw (λx d1 u j F1 R1 H1 q1 c1 v g=>?_) ke
  have I:Ch T F R H F1 R1 H1:=c1.less λ_ z=>.inr z
  refine b2 d1 F1 R1 σ H1 _ Ke _ v q1 (λp b l vs us U G2 L o w J q2 O M r h1 h2 hl k=>?_) λC y d' o w J k c s'=>ke C y d' o w J k (Ch.trans s v.tab I c) s'
  -- the new W QI
  have Y:∀a,j a->o a->False:=λa m f=>by
    rcases O.yJ a f with q|q
    · exact g.yE a m q
    · exact v.xD a (g.sub a m) q
  have mT:∀a,j a->a≠T:=λa m z=>g.tab (by rw[<- z];exact m)
  have mx:sl j w J x ↑u:=Ow.st g.is O.ext (λa h=>h.elim (v.sub a) λq=>by rw[q];exact v.v4) λa m z=>z.elim (g.yE a m)<|mT a m
  have mR:∀a,j a->w a:=λa m=>O.left a (g.sub a m) λz=>g.yE a m z
  have g1:∀a,U a->o a:=λa h=>(r.all a).mpr<|.inl h
  have g2:∀a,G2 a->o a:=λa h=>(r.all a).mpr<|.inr<|.inl h
  have g3:∀a,L a->o a:=λa h=>(r.all a).mpr<|.inr<|.inr h
  have S:=Ch.trans s v.tab I O
  refine kn (x,p) b l (u::vs) us (λa=>j a\/U a) G2 L (λa=>j a\/o a) w J q2 #[S.keep,S.Aw,λa h=>h.elim (λz=>c1.yJ a<|.inl z)<|S.yJ a,S.left] ⟨λa h=>h.elim (mR a)<|M.sub a,M.xD,M.tab,M.v4,λh=>h.elim g.tab M.vS⟩
    #[λa=>?_,λa m n=>m.elim (λz=>Y a z<|g2 a n) λz=>r.IQ a z n,λa m n=>m.elim (λz=>Y a z<|g3 a n) λz=>r.Kk a z n,r.Kl] #[↑u,vs.map some,j,U,rfl,#[λ_=>Iff.rfl,λa m n=>Y a m<|g1 a n],Ow.wk mx<|CY w L J,h1] h2 hl λb' l' L1 L2 L3 Z aa ab p' h3 h4 h5 t=>?_
  · rw[r.all]
    exact#[λz=>z.elim (λq=>.inl<|.inl q) λz=>z.elim (λq=>.inl<|.inr q) .inr,λz=>z.elim (λz=>z.elim .inl λq=>.inr<|.inl q) λz=>.inr<|.inr z]
  · refine e4a4 h3 λv' ae N1 N2 z1 z2 z3 z4 => ?_
    injection z1 with _ z5
    subst z5
    exact k b' l' L1 L2 L3 Z aa ab p'.2 (Sls.fq z4<|two_eq z2 z3) h4 h5 t
class Yt(α:Type)[Rep α](ty:String)(b:outParam Bool):Prop where
 ist:∀{K:gW} {R:Rg} {H:Hp} {x:α} {v:V},rp R H x v->∃t,zK K H v t/\qZ K t (.type ty)=↑b
instance:Yt Int "int" true:=#[λ{K R H x v} h=>by
 subst h
 exact#[_,zK.int x,by rfl]]
instance:Yt Int "bool" false:=#[λ{K R H x v} h=>by
 subst h
 exact#[_,zK.int x,by rfl]]
instance:Yt (List α) "list" true:=#[λ{K R H x v} h=>by
 obtain⟨a,vs,rfl,_,h3,_⟩:=h
 exact#[_,zK.lst h3,by rfl]]
def yP{b:Bool}[Yt α ty b]{h:Wf D α D}(k:Gl X "isinstance")(l:X.mg "isinstance"=none)(c:PE X (.Name x q) (tC<|.ty ty))(m:EW X E T a h)
 (i:gX [a,.Name x q] X.env=79::gX [.Name x q] X.env:=by rfl) (e:gX [.Name x q] X.env=(false,eval (.Name x q) X.env)::gX [] X.env:=by rfl) (f:(jx pos<|gX [.Name x q] X.env).any (·.1)=false:=by rfl) :
    EW X E T (.Call (.Name "isinstance" p) [a,.Name x q] [] pos) (cK h λ(j:Bool->D->Prop) _ g=>j b g):=by
  refine e1a2 m λP n o=>?_
  refine#[_,wT Jw k l PyProof.Rows.boot_isinstance (vn n (vn c vB e) i) (he:=i) (hpl:=f),λd F R r H j v Q s w z A=>o d F R r H _ v _ s w (λy g u B C G I J L M=>?_) A]
  refine e1a2 (Yt.ist (ty:=ty) (K:=X.K) M) λt N O=>?_
  exact#[u,ty,t,b,rfl,N,O,z _ g _ B C G I J L rfl]
end
end WL
namespace ZT
open PySem PySem.Spec PyProof.Rows
def ED{i:Nat}(a:s.heap.IsTupleIter b t i)(h:s.heap.IsTuple t j)(k:j[i]?=↑x)
 (l:∀e,e.IsTupleIter b t (i+1)->jg b s.heap e->Q x { s with heap:=e}):hX (hZ g w) A (jw<|.ref b) Q E s:=by
  obtain⟨o,d,n,c⟩:=id a;obtain⟨p,q,_,m,r⟩:=h;unfold jw
  refine am<|wpAny_callSpecial?_slot (name:=mn "__next__") a.typeIs mo<|jc mo a.typeIs su ?_<|rZ _
  show hX _ _ (uw (.ref b) 0 >>= _) _ _ s;refine am<|jo d c (x:=.ref t) rfl ?_
  show hX _ _ (uw (.ref b) 1 >>= _) _ _ s;refine am<|jo d c (x:=.int i 0) rfl ?_
  show hX _ _ (seqItems? (.ref t) >>= _) _ _ s;refine am<|lE q r ?_;simp only[lU,k]
  have f:Heap.IsTupleIter (s.heap.update b λu=>u.mapFields (·.setIfInBounds 1 (l9<|(i:Int)+1))) b t (i+1):=#[_,i8 _ d<|Obj.isFreed_of_fields<|Obj.data_mapFields c _,(Obj.cls_mapFields ..).trans n,by rw[Obj.data_mapFields c];simp[l9]]
  exact am<|nw d c q0o<|ap #[x,rfl,ap<|l _ f<|oR ..]
def MY{i:Nat}(h:A.handled=none)(b:s.heap.IsTupleIter c t i)(k:s.heap.IsTuple t l)(n:l[i]?=none)
 (q:∀d e,Heap.ExtBut c s.heap d->(∃o,d.get? e=↑o/\o.cls=.type "StopIteration")->E (.ref e) { s with heap:=d}):hX (hZ j w) A (jw<|.ref c) Q E s:=by
  obtain⟨o,f,v,g⟩:=id b;obtain⟨p,r,_,m,u⟩:=k;unfold jw
  refine am<|wpAny_callSpecial?_slot (name:=mn "__next__") b.typeIs mo<|jc mo b.typeIs su ?_<|rZ _
  show hX _ _ (uw (.ref c) 0 >>= _) _ _ s;refine am<|jo f g (x:=.ref t) rfl ?_
  show hX _ _ (uw (.ref c) 1 >>= _) _ _ s;refine am<|jo f g (x:=.int i 0) rfl ?_
  show hX _ _ (seqItems? (.ref t) >>= _) _ _ s;refine am<|lE r u ?_;simp only[lU,n]
  refine am<|mz<|am<|nw f g q0o ?_;show hX _ _ (newExc (.type "StopIteration") [] >>= _) _ _ _
  refine am ?_;simp only[newExc,newTuple];refine am<|iV ?_ (by size_fits)
  refine am (m:=qw _ _)<|mZ (a:=Value.none) (by first|rfl|(simp only[qw];rfl))<|iV ?_ (by size_fits)
  simp only[raiseNew];refine am<|wpAny_handled ?_;first|rw[show A.in1.handled=none from h]|rw[h]
  exact am<|ap<|wpAny_throw<|q _ _ (((oR ..).extBut.push _).push _) #[_,ic _ rfl,rfl]
abbrev ZSt(h:iX)(z c d e g i j:gV)(f:cr)(k:Nat)(l m:Array cr):Prop :=
 sv h z c d f/\qz h c (.ref e) (.ref g)/\(∃a b,qz h d a b)/\h.IsTupleIter e i k/\h.IsTupleIter g j k/\h.IsTuple i l/\h.IsTuple j m
def UQ{g d:gV}{k:Nat}{Q:cr->hR->Prop}(D:ZipApart z g d l m H I)(st:ZSt s.heap z g d l m H I .none k xs ys)(hx:xs[k]?=↑x)(hy:ys[k]?=↑y)
 (hQ:∀h,sv h z g d (l9 ⇑s)->qz h d x y->h.IsTupleIter l H (k+1)->h.IsTupleIter m I (k+1)->qz h ⇑s x y ->
 (∀c o,c≠z->c≠d->c≠l->c≠m->s.heap.get? c=↑o->h.get? c=↑o)->Q (.ref ⇑s) { s with heap:=h}) :
    hX (hZ W w) A (Builtin.«zip.__next__» #[[.ref z],[]]) (λJ s'=>∃v,J=.done (.ret v)/\Q v s') E s:=by
  obtain⟨q,L,⟨a,b,M⟩,h1,h2,N,O⟩:=st
  show hX _ _ (uw (.ref z) 2 >>= _) _ _ _;refine am<|jo q rfl (x:=.bool false) rfl ?_
  show hX _ _ (uw (.ref z) 3 >>= _) _ _ _;refine am<|jo q rfl (x:=.ref g) rfl<|am<|lE L rfl ?_
  show hX _ _ (kg (.ref z) >>= _) _ _ _;refine am ?_;unfold kg
  refine am<|jo q rfl (x:=.none) rfl<|ap ?_;simp only[if_true]
  refine am<|mz<|am<|jo q rfl (x:=.ref d) rfl<|am<|j0 q q0o λg1 P i=>?_
  replace P:sv g1 z g d .ellipsis:=P;refine am ?_;simp only[uZ,List.zipIdx_nil,List.forIn_cons,List.forIn_nil]
  refine am<|am<|pC ?_;show hX _ _ (jw (.ref l) >>= _) _ _ _
  refine am<|ED (h1.extBut i.extBut D.i1z) (N.extBut i.extBut D.l1z) hx λg2 a2 n=>ap ?_
  have X:qz g2 d a b:=n.extBut _ _ D.TOi1<|i.extBut _ _ D.TOz M
  refine am<|lE X rfl<|am<|qA X λg3 R p=>am<|sw<|ap ?_
  replace R:qz g3 d x b:=R
  refine am<|am<|pC ?_;show hX _ _ (jw (.ref m) >>= _) _ _ _
  refine am<|ED (((h2.extBut i.extBut D.i2z).extBut n.extBut D.i12.symm).extBut p.extBut D.TOi2.symm) (((O.extBut i.extBut D.l2z).extBut n.extBut D.l2i1).extBut p.extBut D.l2TO) hy λg4 a4 r=>ap ?_
  have Y:qz g4 d x b:=r.extBut _ _ D.TOi2 R
  refine am<|lE Y rfl<|am<|qA Y λf u t=>am<|sw<|ap<|ap ?_
  replace u:qz f d x y:=u
  refine am<|lE u rfl<|am<|wpAny_newTuple ?_
  have Z:f.objs.size=⇑s:=by rw[t.1,r.1,p.1,n.1,i.1]
  have z5:sv f z g d .ellipsis:=t.extBut _ _ D.TOz.symm<|r.extBut _ _ D.i2z.symm<|p.extBut _ _ D.TOz.symm<|n.extBut _ _ D.i1z.symm P
  have k5:∀c o,c≠z->c≠d->c≠l->c≠m->s.heap.get? c=↑o->f.get? c=↑o:=λc o j B S T e=>t.extBut _ _ B<|r.extBut _ _ T<|p.extBut _ _ B<|n.extBut _ _ S<|i.extBut _ _ j e
  have q1:f.IsTupleIter l H (k+1):=((a2.extBut p.extBut D.TOi1.symm).extBut r.extBut D.i12).extBut t.extBut D.TOi1.symm
  have q2:f.IsTupleIter m I (k+1):=a4.extBut t.extBut D.TOi2.symm
  have lz:z<f.objs.size:=hV z5
  show hX _ _ (og (.ref z) (.ref f.objs.size) >>= _) _ _ _;refine am ?_;unfold og
  have z6:sv (f.push { cls:=.type "tuple",data:=.seq #v[x,y]}) z g d .ellipsis:=ce _ z5
  refine am<|j0 z6 q0o λg7 U e7=>?_;replace U:sv g7 z g d (l9 f.objs.size):=U
  refine j0 U q0o λC F e8=>?_;replace F:sv C z g d (l9 f.objs.size):=F
  have G:∀c o,c≠z->f.get? c=↑o->C.get? c=↑o:=λc o j e=>e8.extBut _ _ j<|e7.extBut _ _ j<|ce _ e
  have t8:qz C f.objs.size x y:=e8.extBut _ _ (jv lz)<|e7.extBut _ _ (jv lz)<|ic _ rfl
  rw[Z]at F t8;refine ap #[_,rfl,?_];show Q (.ref f.objs.size) _;rw[Z]
  exact hQ C F (G _ _ D.TOz u) (q1.at λo e=>G _ o D.i1z e) (q2.at λo e=>G _ o D.i2z e) t8 λc o j B S T e=>G c o j<|k5 c o j B S T e
def Yu{l f:gV}{k:Nat}(O:A.handled=none)(D:ZipApart z l f v y l1 l2)(st:ZSt s.heap z l f v y l1 l2 .none k P R)(m:P[k]?=none\/R[k]?=none)
 (S:∀B e,(∀c o,c≠z->c≠f->c≠v->c≠y->s.heap.get? c=↑o->B.get? c=↑o)->(∃o,B.get? e=↑o/\o.cls=.type "StopIteration")->E (.ref e) { s with heap:=B}) :
    hX (hZ T w) A (Builtin.«zip.__next__» #[[.ref z],[]]) Q E s:=by
  obtain⟨n,C,⟨a,b,F⟩,U,h2,p,G⟩:=st
  show hX _ _ (uw (.ref z) 2 >>= _) _ _ _;refine am<|jo n rfl (x:=.bool false) rfl ?_
  show hX _ _ (uw (.ref z) 3 >>= _) _ _ _;refine am<|jo n rfl (x:=.ref l) rfl<|am<|lE C rfl ?_
  show hX _ _ (kg (.ref z) >>= _) _ _ _;refine am ?_;unfold kg
  refine am<|jo n rfl (x:=.none) rfl<|ap ?_;simp only[if_true]
  refine am<|mz<|am<|jo n rfl (x:=.ref f) rfl<|am<|j0 n q0o λg1 u d=>?_
  replace u:sv g1 z l f .ellipsis:=u;refine am ?_;simp only[uZ,List.zipIdx_nil,List.forIn_cons,List.forIn_nil]
  refine am<|am<|pC ?_;show hX _ _ (jw (.ref v) >>= _) _ _ _
  cases H:P[k]? with
  |none =>
    refine am<|MY O (U.extBut d.extBut D.i1z) (p.extBut d.extBut D.l1z) H λI e g J=>?_;obtain⟨L,i,r⟩:=J
    have W:sv I z l f .ellipsis:=g _ _ D.i1z.symm u
    have M:e≠z:=λq=>by subst q;rw[W]at i;cases i;simp at r
    exact j0 W q0o λX _ j=>S X e (λc o t _ N _ q=>j.extBut _ _ t<|g _ _ N<|d.extBut _ _ t q) #[L,j.extBut _ _ M i,r]
  |some x =>
    have hy:R[k]?=none:=by rcases m with h|h;rw[H]at h;cases h;exact h
    refine am<|ED (U.extBut d.extBut D.i1z) (p.extBut d.extBut D.l1z) H λI a2 g=>ap ?_
    have Y:qz I f a b:=g.extBut _ _ D.TOi1<|d.extBut _ _ D.TOz F
    refine am<|lE Y rfl<|am<|qA Y λX p3 j=>am<|sw<|ap ?_
    refine am<|am<|pC ?_;show hX _ _ (jw (.ref y) >>= _) _ _ _
    refine am<|MY O (((h2.extBut d.extBut D.i2z).extBut g.extBut D.i12.symm).extBut j.extBut D.TOi2.symm) (((G.extBut d.extBut D.l2z).extBut g.extBut D.l2i1).extBut j.extBut D.l2TO) hy λg4 e Z J=>?_
    obtain⟨L,i,r⟩:=J
    have z4:sv g4 z l f .ellipsis:=Z _ _ D.i2z.symm<|j.extBut _ _ D.TOz.symm<|g.extBut _ _ D.i1z.symm u
    have M:e≠z:=λq=>by subst q;rw[z4]at i;cases i;simp at r
    exact j0 z4 q0o λg5 _ e5=>S g5 e (λc o t c2 N c4 q=>e5.extBut _ _ t<|Z _ _ c4<|j.extBut _ _ c2<|g.extBut _ _ N<|d.extBut _ _ t q) #[L,e5.extBut _ _ M i,r]
noncomputable abbrev tI(l:gV):Obj:={ cls:=.type "tuple_iterator",data:=.fields #v[.ref l,.int 0 0]}
noncomputable abbrev H1(h:iX)(a:gV):iX:=h.push<|tI a
noncomputable abbrev H2(h:iX)(a b:gV):iX:=(H1 h a).push<|tI b
noncomputable abbrev H3(h:iX)(a b:gV):iX:=(H2 h a b).push { cls:=.type "tuple",data:=.seq #v[.ref h.objs.size,.ref (H1 h a).objs.size]}
noncomputable abbrev H4(h:iX)(a b:gV):iX:=(H3 h a b).push { cls:=.type "tuple",data:=.seq #v[.none,.none]}
noncomputable abbrev H5(h:iX)(a b:gV):iX:=(H4 h a b).push { cls:=.type "zip",data:=.fields #v[.none,.bool false,.bool false,.ref (H2 h a b).objs.size,.ref (H3 h a b).objs.size]}
def made(a b:gV)(c e:Array cr):Meets (Builtin.«zip.__new__» #[[.type "zip",.ref a,.ref b],[]]) (λ_ R s=>s.heap.IsTuple a c/\s.heap.IsTuple b e/\R (.ok<|.ret<|.ref (H4 s.heap a b).objs.size) { s with heap:=H5 s.heap a b}) :=
 .of_wp λf w A R s h=>by
  obtain⟨i,g,d,j,k⟩:=s;obtain⟨m,n,h⟩:=h;have l:=sub_zip;have o:qG (Shared.heap #[i,g,d,j,k]) a c:=m;have p:qG (Shared.heap #[i.push<|tI a,g,d,j,k]) b e:=Heap.IsTuple.push n _
  wp_walk using qY o,qY p
  exact#[_,rfl,h]
def QR(n:s.heap.IsTuple a p)(q:s.heap.IsTuple b r)
 (h:∀d,ZSt d (⇑s+4) (⇑s+2) (⇑s+3) ⇑s (⇑s+1) a b .none 0 p r->d.objs.size=⇑s+5->(∀c o,s.heap.get? c=↑o->d.get? c=↑o)->Q (.ref<|⇑s+4) { s with heap:=d}) :
    hX (hZ t w) A (call (.type "zip") [.ref a,.ref b]) Q E s:=by
  refine callType_new F.called_zip q0q (F.typeCall_zip_2 _ _) (F.newCall_zip_2 _ _) (λf=>F.args_object_init_3 f _ _) F.entry_zip_new (made a b p r) #[n,q,?_]
  have g:(H1 s.heap a).objs.size=⇑s+1:=jK ..
  have i:(H2 s.heap a b).objs.size=⇑s+2:=by rw[jK,g]
  have j:(H3 s.heap a b).objs.size=⇑s+3:=by rw[jK,i]
  have k:(H4 s.heap a b).objs.size=⇑s+4:=by rw[jK,j]
  have z:(H5 s.heap a b).objs.size=⇑s+5:=by rw[jK,k]
  have l:(H5 s.heap a b).get? (H4 s.heap a b).objs.size=↑_:=ic _ rfl
  have u:(H5 s.heap a b).get? (H3 s.heap a b).objs.size=↑_:=ce _<|ic _ rfl
  have v:(H5 s.heap a b).get? (H2 s.heap a b).objs.size=↑_:=ce _<|ce _<|ic _ rfl
  have y:(H5 s.heap a b).get? (H1 s.heap a).objs.size=↑_:=ce _<|ce _<|ce _<|ic _ rfl
  have B:(H5 s.heap a b).get? ⇑s=↑_:=ce _<|ce _<|ce _<|ce _<|ic _ rfl
  have m:∀c o,s.heap.get? c=↑o->(H5 s.heap a b).get? c=↑o:=λc o x=>ce _<|ce _<|ce _<|ce _<|ce _ x
  rw[i,j,k]at l;rw[g,i]at v;rw[j]at u;rw[g]at y;rw[k]
  exact#[#[_,l,rfl],h _ #[l,v,#[_,_,u],#[_,B,rfl,rfl],#[_,y,rfl,rfl],n.at λo e=>m _ o e,q.at λo e=>m _ o e] z m]
def walk(hh:A.handled=none)(z TI TO i1 i2 l1 l2:gV)(D:ZipApart z TI TO i1 i2 l1 l2)(xs ys:Array cr):WalksT prog w A z [z,TI,TO,i1,i2,l1,l2] [z,TO,i1,i2] (min xs.size ys.size)
   (λi vals=>∃x y,xs[i]?=↑x/\ys[i]?=↑y/\vals=#v[x,y]) (λi h=>ZSt h z TI TO i1 i2 l1 l2 .none i xs ys)
   (λi T h=>ZSt h z TI TO i1 i2 l1 l2 (l9 T) (i+1) xs ys/\T≠z/\T≠TO/\T≠i1/\T≠i2) where
 sub:=λc hc=>by simp only[iD,jl,mB]at hc ⊢;rcases hc with q|q|q|q<;>simp[q]
 frame:=λi h h' st k=>by obtain⟨hz,hTI,⟨a,b,hTO⟩,h1,h2,hl1,hl2⟩:=st;exact#[k z q0o _ hz,k TI q0o _ hTI,#[a,b,k TO q0o _ hTO],h1.at λo e=>k i1 q0o o e,h2.at λo e=>k i2 q0o o e,hl1.at λo e=>k l1 q0o o e,hl2.at λo e=>k l2 q0o o e]
 item:=λi s Q E hi st hQ=>by have ix:i<xs.size:=iu hi<|Nat.min_le_left ..;have iy:i<ys.size:=iu hi<|Nat.min_le_right ..;have hT:s.TypeIs (.ref z) "zip":=⟨_,st.1,rfl⟩;unfold pyNext;refine am<|pA<|wpAny_callSpecial?_slot (name:=mn "__next__") hT pU<|jc pU hT F.entry_zip_next (UQ D st (jA ix) (jA iy) λh' a1 a2 a3 a4 a5 k=>ap ?_)<|F.args_zip_next_1 _;obtain⟨hz,hTI,⟨a,b,hTO⟩,h1,h2,hl1,hl2⟩:=st;have lt:∀{c o},s.heap.get? c=some o->⇑s≠c:=λe=>jv<|hV e;refine hQ ⇑s #v[xs[i],ys[i]] h' s.toks ⟨_,_,jA ix,jA iy,rfl⟩ (gZ _) ⟨_,a5,rfl,_,rfl⟩ ⟨⟨a1,k _ _ D.TIz D.TITO D.TIi1 D.TIi2 hTI,⟨_,_,a2⟩,a3,a4,hl1.at λo e=>k _ o D.l1z D.l1TO D.l1i1 D.l1i2 e,hl2.at λo e=>k _ o D.l2z D.l2TO D.l2i1 D.l2i2 e⟩,lt hz,lt hTO,by obtain⟨_,e,_⟩:=h1;exact lt e,by obtain⟨_,e,_⟩:=h2;exact lt e⟩ ?_;exact λc o hc e=>k c o 123 123 123 123 e
 go:=λelts k pos i T s Q E hm hQ=>by obtain⟨⟨hz,hTI,⟨a,b,hTO⟩,h1,h2,hl1,hl2⟩,_⟩:=hm;refine wpAny_letOwnedTupleGo_zip hz λh' hz' e=>hQ h' #[hz',e.extBut _ _ D.TIz hTI,#[a,b,e.extBut _ _ D.TOz hTO],h1.extBut e.extBut D.i1z,h2.extBut e.extBut D.i2z,hl1.extBut e.extBut D.l1z,hl2.extBut e.extBut D.l2z] λc o hc q=>e.extBut _ _ 123 q
 apart:=λi T h hm hT=>by obtain⟨_,t1,t2,t3,t4⟩:=hm;simp only[iD,jl,mB]at hT;rcases hT with q|q|q|q;exact t1 q;exact t2 q;exact t3 q;exact t4 q
 done:=λs Q E st hQ=>by
  have a2C:xs[min xs.size ys.size]?=none\/ys[min xs.size ys.size]?=none:=by
   rcases Nat.le_total xs.size ys.size with h|h
   ·rw[Nat.min_eq_left h];exact .inl<|sI<|gZ _
   ·rw[Nat.min_eq_right h];exact .inr<|sI<|gZ _
  have hT:s.TypeIs (.ref z) "zip":=#[_,st.1,rfl];unfold pyNext;refine am<|pA<|wpAny_callSpecial?_slot (name:=mn "__next__") hT pU<|jc pU hT F.entry_zip_next (Yu hh D st a2C λh' e k he=>?_)<|F.args_zip_next_1 _;obtain⟨o,ho,hc⟩:=he;exact am<|mF (T:="StopIteration") (b:=true) ⟨o,ho,hc⟩ isSubtype_stop<|ap<|hQ _ s.toks λc o hc e=>k c o 123 123 123 123 e
 self:=λi s Q E st hQ=>wpAny_pyIter_zip st.1 hQ
end ZT
namespace L2
open PySem PySem.Spec PyProof.Rows
def a2D:Qn X (zn X.K) P:=#[λ{v J H1 g a b L M x} m N y A B=>by
 obtain⟨n,C,p,O⟩:=m.tuple y;obtain⟨q,D,r,R⟩:=m.tuple A;have h:g.heap.get? P=↑(rh x):=m.vW P _ B;have i:qG g.heap a n.toArray:=p;have j:qG g.heap b q.toArray:=r
 have f:∀(l:gV)(d:Array cr),g.heap.IsTuple l d->l≠P:=λl d s=>e1a3 s λo e c _ z=>by rw[z,h]at e;cases e;cases c
 have k:∀(l:gV)(d:Array cr),g.heap.IsTuple l d->l<⇑g:=λl d s=>e1a2 s λo e _=>hV e;refine#[n,q,C,D,k _ _ i,k _ _ j,f _ _ i,f _ _ j,λQ E F=>ZT.QR i j λG t u H=>?_]
 exact F G _ _ (λS I=>(ZT.walk (prog:=X.prog) (w:=X.w) I _ _ _ _ _ _ _ (zipApart_new (k _ _ i) (k _ _ j)) n.toArray q.toArray).toU) t u H]
end L2
namespace HT
variable[L2.GX]
open PySem PySem.Spec PyProof.Rows
def Be{a:Option Int}(b:IsTup s.heap t items)(i:s.heap.IsSliceOf sl k l .none)(m:qu k a)(n:qu l c)
 (hw:xq items.size 0 a=0/\xq items.size items.size c=items.size)(h:Q (.ref t) s):hX (hZ j w) A (oz (.ref t)<|.ref sl) Q E s:=by
  refine e1a3 (id i) λo d e p=>?_
  have f:s.TypeIs (.ref sl) "slice":=#[o,d,e]
  unfold oz
  try with_reducible refine iM ?_
  first|refine am (ap ?_)|skip
  refine am<|wpAny_sequenceKey b.typeIs q0q ?_
  refine am (wpAny_callSpecial?_slot (name:=mn "__getitem__") b.typeIs kN
    (jc kN b.typeIs entry_tuple_getitem ?_ (args_tuple_getitem _ _)))
  show hX _ _ (qm (.ref t) >>= _) _ _ s
  refine am<|tupleItemsOf_ b ?_
  refine am<|lj f ?_
  rw[gU q0q]
  refine am<|zo i m n ?_
  have g:(((xq items.size 0 a:Nat):Int)==0&&(1:Int)==1&&(xq items.size items.size c-xq items.size 0 a)==items.size)=true:=by
    rw[hw.1,hw.2]
    simp
  show hX _ _ (if (((xq items.size 0 a:Nat):Int)==0&&(1:Int)==1&&(xq items.size items.size c-xq items.size 0 a)==items.size)=true then _ else _) _ _ s
  rw[gU g]
  refine am<|am<|lj b.typeIs<|ap ?_
  rw[gU q0q]
  first
    | exact am<|mz<|ap #[_,rfl,ap h]
    | exact am<|mz<|am<|ap<|ap #[_,rfl,ap h]
    | exact am<|am<|mz<|ap<|ap #[_,rfl,ap h]
end HT
namespace L2
variable[L2.GX]
open PySem PySem.Spec PyProof.Rows
def a0r(K:gW):V->Option Int->Option Int->Hp->VK->Prop:=λx c d H Q=>∃a b,x=.ref a/\zn K H a b/\(HT.xq b.length 0 c=0/\HT.xq b.length b.length d=b.length)/\Q (.ref a) H
def UR:WA X (a0r X.K):=by
 intro d s n H x v o p t u w Q I f g i j h;obtain⟨a,k,rfl,l,m,q⟩:=h;cases f;refine e1a3 (I.tuple l) λc r e y=>?_;have b:c.toArray.size=k.length:=by rw[ie];exact r.length.symm
 refine#["tuple",_,PyProof.Rows.slot_tuple_getitem.lookup,e.typeIs,?_];exact HT.Be e g i j (by rw[b];exact m) #[.ref a,H,I,rfl,q]
end L2
namespace WL
variable[L2.GX]
open PySem L2
open Rep (rp)
open Ow (sl)
open Sls (rel)
section
variable{D:Type}[Sls D]
def wq.QS{F R:Rg}{H c:Hp}{d:D}{f:St}(s:wq T F R H d f)(k:∀b o,b≠T->H b=↑o->c b=↑o)(t:TabAt c T):Ch T F R H F R c/\wq T F R c d f:=by
 refine#[#[λb o _ n h=>k b o n h,λ_ h=>.inl h,λ_ h=>.inl h,λ_ h _=>h],Sls.st s.rel (G:=λa=>a=T) #[λb o n h=>k b o n h,λ_ h=>.inl h] (λa h=>by rw[h];exact s.v4)<|λa h z=>s.vS (by rw[<- z];exact h),s.sub,λa h=>?_,t,s.v4,s.vS];by_cases e:a=T
 ·rw[e];exact zu t
 ·cases q:H a with
  |none=>exact ii q<|s.xD a h
  |some o=>rw[k a o e q];simp
def EE{x:Tp Int}(h:rp R H x v):∃a,v=.ref a/\H a=↑(.tup<|x.l.map V.int):=by refine e2a4 h λa vs e _ h3 h4=>?_;exact#[a,e,by rw[h3,paired_ints h4]]
def EF{x:List Int}(h:rp R H x v):∃a,v=.ref a/\H a=↑(.lst<|x.map V.int):=by refine e2a4 h λa vs e _ h3 h4=>?_;exact#[a,e,by rw[h3,paired_ints h4]]
def QT(A:EW X E T h B)(G:EW X E T f I)(J:∀{i:TA},PA X [h,f] i->PE X e (Z7 X.K T i))
 (L:gX [h,f] X.env=(false,eval h X.env)::gX [f] X.env:=by rfl) (j:gX [f] X.env=(false,eval f X.env)::gX [] X.env:=by rfl) :
    EW X E T e (cB B I λM (o:Bool->D->Prop) N l=>o (zP M N) l):=by
  refine e1a2 A λi O P=>?_
  refine e1a2 G λtb S U=>?_
  refine#[_,J<|vn O (vn S vB j) L,λd F R p H o q Q s W Y r=>?_]
  refine P d F R p H _ q _ s W (λx Z u F1 R1 H1 q1 w g r1=>?_) r
  refine U Z F1 R1 p H1 _ q _ g q1 (λy l v F2 R2 H2 q2 z m r2=>?_) λC y d' F' R' n k c s'=>r C y d' F' R' n k (Ch.trans s g.tab w c) s'
  obtain⟨a,rfl,ha⟩:=EF<|g.val z r1
  obtain⟨b,rfl,hb⟩:=EF r2
  refine#[a,b,x,y,rfl,wD.of ha,wD.of hb,m.tab,λn k _ t=>?_]
  obtain⟨c3,s3⟩:=m.QS k t
  exact Y _ l _ F2 R2 n q2 (Ch.trans s g.tab w<|Ch.trans g m.tab z c3) s3 rfl
def QU{p q:Wf D (Tp Int) D}(I:EW X E T h p)(J:EW X E T f q)(L:∀{i:TA},PA X [h,f] i->PE X e (X6 X.K T i))
 (M:gX [h,f] X.env=(false,eval h X.env)::gX [f] X.env:=by rfl) (j:gX [f] X.env=(false,eval f X.env)::gX [] X.env:=by rfl) :
    EW X E T e (cB p q λN (r:Bool->D->Prop) O m=>r (zP N.l O.l) m):=by
  refine e1a2 I λi P S=>?_
  refine e1a2 J λtb U W=>?_
  refine#[_,L<|vn P (vn U vB j) M,λd F R w H r z Q s Y Z A=>?_]
  refine S d F R w H _ z _ s Y (λx d1 u F1 R1 H1 q1 B g r1=>?_) A
  refine W d1 F1 R1 w H1 _ z _ g q1 (λy m v F2 R2 H2 q2 G n r2=>?_) λC y d' F' R' o k c s'=>A C y d' F' R' o k (Ch.trans s g.tab B c) s'
  obtain⟨a,rfl,ha⟩:=EE<|g.val G r1
  obtain⟨b,rfl,hb⟩:=EE r2
  refine#[a,b,x.l,y.l,rfl,zn.of ha,zn.of hb,n.tab,λo k _ t=>?_]
  obtain⟨c3,s3⟩:=n.QS k t
  exact Z _ m _ F2 R2 o q2 (Ch.trans s g.tab B<|Ch.trans g n.tab G c3) s3 rfl
def On{N O:Option iT}{P:Wf D (Tp Int) D}{S U:Wf D (Option Int) D}(ha:EW X E T a P)(hl:OW X E T N S)(hh:OW X E T O U) :
  EW X E T (.Subscript a (.Slice N O none p2) pos) (λ(d:D)(W:Tp Int->D->Prop) f=>P d (λg r=>S r (λl t=>U t (λh n=>W #[FO g.l l h] n) f) f) f):=by
 refine e1a2 ha λta a1 a2=>?_;refine e1a2 hl λtl l1 l2=>?_;refine e1a2 hh λth h1 h2=>?_;refine#[_,Ao (Xz.or UR) a1 l1 h1,λd F R v H W f Q s j Y w=>?_];refine a2 d F R v H _ f _ s j (λg r u F1 R1 H1 q1 x i r1=>?_) w;refine l2 r F1 R1 v H1 _ f _ i q1 (λl t F2 R2 H2 q2 Z z=>?_) λC y A B G I k c J=>w C y A B G I k (Ch.trans s i.tab x c) J;refine h2 t F2 R2 v H2 _ f _ z q2 (λh n F3 R3 H3 q3 c3 o=>?_) λC y A B G I k c J=>w C y A B G I k (Ch.trans s i.tab x<|Ch.trans i z.tab Z c) J;have m:=Ch.trans i z.tab Z c3;have r3:=i.val m r1;obtain⟨q,b,rfl,k1,L,M⟩:=id r3;have cc:=Ch.trans s i.tab x m;have le:=Paired.length M;by_cases j:HT.xq b.length 0 l=0/\HT.xq b.length b.length h=b.length
 ·refine .inr #[q,b,rfl,zn.of L,j,?_];refine Y _ n _ F3 R3 H3 q3 cc o #[q,b,rfl,k1,L,?_]
  have e:FO g.l l h=g.l:=by unfold FO;rw[le,j.1,j.2,List.drop_zero,Nat.sub_zero,<- le,u4]
  rw[e];exact M
 ·refine .inl #[q,b,rfl,zn.of L,j,λp hp=>?_];refine e0a3 (o.new (.tup<|Eh b l h) hp) λs4 c4 n4=>?_;exact Y _ n _ F3 R3 _ q3 (Ch.trans s o.tab cc c4) s4 #[p,_,rfl,n4,vh,o.vals c4<|Ex M l h]
end
structure SI(w:jb) where
 l:List Int
instance(w:jb):Ow (SI w):=#[λF _ H x v=>∃a ks,v=↑(.ref a)/\(∀b,F b↔b=a)/\H a=↑(xC w a ks)/\ks.Nodup/\(∀k,k∈ks↔k∈x.l)/\x.l.Pairwise (· < ·),
 λh e s n=>by
  refine e2a4 h λa ks h1 h2 h3 h4=>?_
  exact#[a,ks,h1,h2,e.keep a _ (n a<|(h2 a).mpr rfl) h3,h4],
 λh e=>by
  refine e2a4 h λa ks h1 h2 h3 h4=>?_
  exact#[a,ks,h1,λb=>(e b).symm.trans (h2 b),h3,h4]]
noncomputable def FR(k:Int)(l:List Int):List Int:=if k∈l then l else ins k l
noncomputable def Li(k:Int)(l:List Int):List Int:=l.filter λx=>decide<|x≠k
def wC{a b:List Int}(c:a.Nodup)(d:b.Nodup)(h:∀k,k∈a↔k∈b):a.Perm b:=(List.perm_ext_iff_of_nodup c d).mpr h
def vr{l:List Int}(h:l.Pairwise (· < ·)):l.Nodup:=h.imp λq=>Int.ne_of_lt q
def MZ{l:List Int}(h:l.Pairwise (· < ·)):l.Pairwise (·<=·):=h.imp λq=>Int.le_of_lt q
def QV{l:List Int}(h:l.Pairwise (·<=·))(n:l.Nodup):l.Pairwise (· < ·):=List.Pairwise.imp₂ (λa b (q:a<=b) (n:a≠b)=>by lia) h n
def yL{k:Int}:k∈BI l↔k∈l:=(wO l).mem_iff
def EG{a:List Int}(n:a.Nodup)(h:∀k,k∈a↔k∈l)(r:l.Pairwise (· < ·)):BI a=l:=zv ((wO a).trans<|wC n (vr r) h) (A1 a)<|MZ r
set_option tactic.hygienic true in
def Ca{k x:Int}:x∈FR k l↔x=k\/x∈l:=by
 unfold FR;split
 ·rename_i h
  exact#[.inr,λz=>z.elim (λe=>by rw[e];exact h) id]
 ·rw[(Ay k l).mem_iff,iD]
set_option tactic.hygienic true in
def DQ{k:Int}{l:List Int}(r:l.Pairwise (· < ·)):(FR k l).Pairwise (· < ·):=by
 unfold FR;split
 ·exact r
 ·rename_i h
  exact QV (Hg k l<|MZ r)<|(Ay k l).nodup_iff.mpr<|List.nodup_cons.mpr #[h,vr r]
def AB{k x:Int}:x∈Li k l↔x∈l/\x≠k:=by unfold Li;rw[ja];simp
section
variable{D PO τ:Type}[Sls D][Sls PO][Ow τ]{α:Type}[Rep α]
def US(j:X.w=w)(l:Gl X "set")(m:X.mg "set"=none):EO X E T (.Call (.Name "set" p) [] [] pos) (λ(d:D)(e:SI w->D->Prop) _=>e #[[]] d):=by
 subst j;refine#[_,KH Oj l m ou,λd F R v H e x Q s n r y=>#[rfl,λp c=>?_]];refine e0a3 (s.new (xC X.w p []) c) λf t g=>?_;have u:¬F p:=λz=>g<|s.sub p z;have i:Ext (λ_=>False) R H (λa=>R a\/a=p) (upd H p<|xC X.w p []):=⟨λb o _ h=>by rw[ve<|vq h c];exact h,λa h=>h.elim .inl λq=>.inr<|by rw[q];exact c⟩;refine r ⟨[]⟩ d _ (λa=>a=p) F (λa=>R a\/a=p) _ n #[t.keep,i.new,λa h=>h.elim (λq=>.inr<|by rw[q];exact c) .inl,λa h _=>.inl h] #[Sls.st s.rel i (λ_ z=>z.elim)<|λ_ _ z=>z,λa h=>.inl<|s.sub a h,λa h=>?_,f.tab,.inl s.v4,s.vS] #[#[p,[],rfl,λb=>Iff.rfl,vh,mU,λ_=>Iff.rfl,iG],λa h=>.inr h,λa h k=>u (by rw[<- h];exact k),λh=>g<|by rw[<- h];exact s.v4];rcases h with h|h
 ·exact f.xD a h
 ·rw[h,vh];simp
def tw_inS(i:Nat)(j:X.w=w)[Sls m][A:At i D (SI w) m](n:EW X E T a o)(q:PE X (.Name x p) (vQ i))(r:jd .In (.Name x p)=false) :
  TW X E T (.Compare a [.In] [.Name x p] pos) (cK o λf k c=>f (decide<|k∈(A.get c).l) c):=by
 subst j;refine e1a2 n λY t y=>?_;refine#[_,yf X8 t q r,λd F R z H f B Q s C G I=>y d F R z H _ B _ s C (λk c u J L M N O g P=>?_) I];obtain⟨v,Z,G2,S,h2,⟨b,h,rfl,g2,U,g4,W,g6⟩,_⟩:=A.take g.rel;refine#[_,S,k,b,h,P,rfl,U,_,rfl,?_];have e:decide (k∈h)=decide (k∈(A.get c).l):=by simp only[W]
 rw[e];exact G _ c J L M N O g
def DR{i:Nat}[Sls x][A:At i D (SI w) x][U:Pt i x (SI w) D](s:wq T F R H d y):∃a g,y[i]?=↑(some<|.ref a)/\H a=↑(xC w a g)/\g.Nodup/\(∀k,k∈g↔k∈(A.get d).l)/\(A.get d).l.Pairwise (· < ·) /\
  ∀(j f:List Int),f.Nodup->(∀k,k∈f↔k∈j)->j.Pairwise (· < ·)->Ch T F R H F R (upd H a<|xC w a f)/\wq T F R (upd H a<|xC w a f) (U.put (A.hole d) #[j]) y:=by
 obtain⟨v,W,X,B,m,⟨a,g,rfl,p,C,E,G,I⟩,J⟩:=A.take s.rel;have r:F a:=(m.all a).mpr<|.inl<|(p a).mpr rfl;have L:a≠T:=λz=>s.vS (by rw[<- z];exact r);refine#[a,g,B,C,E,G,I,λj f M N O=>?_];have P:=zR (F:=F) (R:=R) (H:=H) (a:=a) (o:=xC w a f);have Q:∀c,c=a->R c:=λc z=>by rw[z];exact s.sub a r
 have k:∀b u,b≠a->H b=↑u->upd H a (xC w a f) b=↑u:=λb u z e=>by rw[ve z];exact e
 refine#[#[λb o n _ e=>k b o (λz=>n<|by rw[z];exact r) e,λ_ h=>.inl h,λ_ h=>.inl h,λ_ h _=>h],Pt.same (A:=U) (Sls.st J P Q λc z q=>m.yE c ((p c).mpr q) z) B m #[a,f,rfl,p,vh,M,N,O],s.sub,λc z=>?_,?_,s.v4,s.vS]
 ·by_cases e:c=a
  ·rw[e,vh];simp
  ·rw[ve e];exact s.xD c z
 ·refine e1a2 s.tab λS e t=>?_;exact#[S,k _ _ (λz=>L z.symm) e,t]
set_option tactic.hygienic true in
def UT(i:Nat)(S:X.w=w)[Sls B][A:At i D (SI w) B][U:Pt i B (SI w) D][J:Pj D PO n](h:EW X E T e W)
 (Y:∀{t:TA},PA X [e] t->PS X (.Expr (.Call (.Attribute (.Name x Z) "add" p2) [e] [] p3) pos) (Jc<|X9 X.w (λx vs H Q=>∃(a:gV)(f:List Int)(k:Int),x=.ref a/\vs=[.int k]/\H a=↑(xC X.w a f)/\f.length+1<=127/\∀b:List Int,b.Nodup->b.Perm (if k∈f then f else k::f)->Q .wP (upd H a<|xC X.w a b)) (vQ i) t)) (hs:gX [e] X.env=67::gX [] X.env:=by rfl) :
    S1 X E T ms n (.Expr (.Call (.Attribute (.Name x Z) "add" p2) [e] [] p3) pos) (cS W J.pj λ(I:D->Prop)(Kr:τ->PO->Prop) y g=>(A.get g).l.length<127/\I (U.put (A.hole g) #[FR y (A.get g).l])):=by
  subst S
  refine e1a2 h λt h1 h2=>?_
  refine#[_,Y<|vn h1 vB hs,λd F R L H I Kr Ke En s hw kn kr ke=>?_]
  refine e2a4 (DR (i:=i) s) λa f j p g3 _=>?_
  refine#[_,j,#[a,f,rfl,p],h2 d F R L H _ _ _ s hw (λy g v M u N q c m r=>?_) λC y g M u N q c m=>?_]
  · obtain⟨a', b, O, k2, k3, o, P, k6⟩ := DR (i := i) m
    rw[j]at O
    cases O
    subst r
    have aa:b.length=(A.get g).l.length:=(wC k3 (vr P) o).length_eq
    refine#[a,b,y,rfl,rfl,k2,by have:=q.1;lia,λus nu pu=>?_]
    obtain⟨c2,s2⟩:=k6 (FR y (A.get g).l) us nu (λk=>by
      rw[pu.mem_iff,Ca]
      split
      · rename_i hy
        rw[o]
        exact#[.inr,λz=>z.elim (λe=>by rw[e];exact(o y).mp hy) id]
      · rw[iD, o]) (DQ P)
    exact kn _ M u _ L q.2 (Ch.trans s m.tab c c2) s2<|Ag.refl _ _
  · refine e1a2 (wR (PO := PO) m) λG j p => ?_
    exact ke C y _ G u N q (c.less j) p
set_option tactic.hygienic true in
def UU(i:Nat)(W:X.w=w)[Sls B][A:At i D (SI w) B][U:Pt i B (SI w) D][J:Pj D PO n](h:EW X E T e Y)
 (Z:∀{t:TA},PA X [e] t->PS X (.Expr (.Call (.Attribute (.Name x p1) "discard" p2) [e] [] p3) pos) (Jc<|X9 X.w (λx vs H Q=>∃(a:gV)(f:List Int)(k:Int),x=.ref a/\vs=[.int k]/\H a=↑(xC X.w a f)/\∀b:List Int,b.Nodup->(if k∈f then f.Perm (k::b) else b=f)->Q .wP (upd H a<|xC X.w a b)) (vQ i) t)) (hs:gX [e] X.env=67::gX [] X.env:=by rfl) :
    S1 X E T ms n (.Expr (.Call (.Attribute (.Name x p1) "discard" p2) [e] [] p3) pos) (cS Y J.pj λ(I:D->Prop)(Kr:τ->PO->Prop) y g=>I<|U.put (A.hole g) #[Li y (A.get g).l]):=by
  subst W
  refine e1a2 h λt h1 h2=>?_
  refine#[_,Z<|vn h1 vB hs,λd F R L H I Kr Ke En s hw kn kr ke=>?_]
  refine e2a4 (DR (i:=i) s) λa f j p g3 _=>?_
  refine#[_,j,#[a,f,rfl,p],h2 d F R L H _ _ _ s hw (λy g v M u N q c m r=>?_) λC y g M u N q c m=>?_]
  · obtain⟨a', b, O, k2, k3, k4, k5, k6⟩ := DR (i := i) m
    rw[j]at O
    cases O
    subst r
    refine#[a,b,y,rfl,rfl,k2,λP nu o=>?_]
    obtain⟨c2,s2⟩:=k6 (Li y (A.get g).l) P nu (λk=>by
      rw[AB,<- k4]
      split at o
      · rename_i S
        have nk:y∉P:=(List.nodup_cons.mp<|o.nodup_iff.mp k3).1
        rw[o.mem_iff,iD]
        exact#[λz=>#[.inr z,λe=>nk<|by rw[<- e];exact z],λz=>z.1.elim (λe=>ii e z.2) id]
      · rename_i S
        rw[o]
        exact#[λz=>#[z,λe=>S (by rw[<- e];exact z)],λz=>z.1]) (jQ _ k5)
    exact kn _ M u _ L q (Ch.trans s m.tab c c2) s2<|Ag.refl _ _
  · refine e1a2 (wR (PO := PO) m) λG j p => ?_
    exact ke C y _ G u N q (c.less j) p
def Lj(i:Nat)(j:X.w=w)[Sls k][A:At i D (SI w) k](m:X.calm=true)(n:Gl X "sorted")(o:X.mg "sorted"=none)(q:PE X (.Name x r) (vQ i)) :
  EO X E T (.Call (.Name "sorted" p) [.Name x r] [] pos) (λ(d:D)(b:OL Int->D->Prop) _=>(A.get d).l.length<64/\b #[(A.get d).l] d):=by
 subst j;refine#[_,wT (B2 m) n o kK<|vn q vB,λd F R N H b O Q s c t P=>?_];obtain⟨v,S,U,u,W,⟨a,e,rfl,Y,y,f,g,h⟩,Z⟩:=A.take s.rel;have z:e.length=(A.get d).l.length:=(wC f (vr h) g).length_eq;refine#[_,u,a,e,rfl,y,by have:=c.1;omega,λl ns B C G=>?_];rw[Ew C G,EG f g h];refine e1a3 (xW s B<|yo (R:=R) (H:=H) (A.get d).l) λI J L M=>?_;exact t _ d _ _ F I _ c.2 J L M
def Hn{K:gW}{xs:List α}{vs:List V}:Zj (Itt K a) xs (λR H=>H a=↑(.tup vs)/\Paired (rp R H) xs vs) where
 go:=λ{R H i} p h=>by refine e1a2 (xi (i:=i) (x:=xs[i]) p.2<|by simp[h]) λv e _=>?_;exact#[vs,v,zn.of p.1,e]
 IN:=λ{R H i v H'} p _ hi y=>by obtain⟨e,y⟩:=y;subst e;have y':=y vs<|zn.of p.1;refine e1a2 (xi (i:=i) (x:=xs[i]) p.2<|by simp[hi]) λu e r=>?_;rw[y']at e;cases e;exact#[.inl rfl,_,by simp[hi],r]
 stop:=λ{R H} p=>#[vs,zn.of p.1,by rw[Paired.length p.2];exact gZ _]
def QW{w:Wf D (Tp α) D}(h:EW X E T e w):IW X E T is tg e (λ(b:D)(_:List α)=>b) (cK w λKn x d'=>Kn x.l d'):=by refine e1a2 h λt h1 h2=>?_;refine#[_,Xq h1,λd F R σ H Kn Ke Rk s hw kn ke=>h2 d F R σ H _ _ _ s hw (λxs d' v F' R' H' q c s' r=>?_) ke];obtain⟨a,vs,rfl,r1,r2,r3⟩:=r;refine#[a,rfl,#[vs,zn.of r2],kn xs.l d' _ (λR H=>(H a=↑(.tup vs)/\Paired (rp R H) xs.l vs)/\¬R a) F' (λ_=>False) F' R' H' q c s'.IP (two_nil F') s'.rel #[λp=>Hn.go p.1,λp=>Hn.IN p.1,λp=>Hn.stop p.1] #[#[r2,r3],r1] (λp gs nf ex=>?_) λb' G2 WP Kj QC σ' p h g t=>Sls.fq h<|two_eq t λ_ z=>z];have na:¬_:=λz=>p.2<|gs a z;exact#[#[ex.keep a _ na p.1.1,wz (ex.wide gs) p.1.2],ex.not p.2 p.1.1]
def EH{a:iB}{C:gV}[Sls c][J:Pj D PO n](e:PS X a (Qv C E<|Bj (tC x) BC)):S1 X E T j n a (λ(d:D)(_:c->Prop)(_:τ->PO->Prop) b=>b C<|J.pj d):=by refine⟨_,e,λd F R k H l m b o s f p q g=>#[(by show 1<=hJ;decide),λy=>?_]⟩;refine e1a2 (wR (PO:=PO) s) λG h i=>?_;exact g C y _ G R H f ((61).less h) i
end
def wX(l:List Int):Prop:=l.Pairwise (· < ·)
noncomputable def asc(a:List Int):Bool:=zP a<|a.drop 1
def a0s(b:List c):FO b ↑1 none=b.drop 1:=by
 unfold FO;rw[HT.Jk,show ↑(1:Int)=some ((1:Nat):Int) from rfl,HT.MF]
 cases b with
 |nil=>rfl
 |cons a r =>
  rw[show min 1 (a::r).length=1 by simp,jB];rw[m8];exact gZ _
def QX{a b:Int}:asc (a::b::r)=(decide (a<b)&&asc (b::r)):=rfl
def zd:∀(c:List Int),asc c=true↔wX c
 | []=>#[λ_=>iG,λ_=>rfl]
 | [a]=>#[λ_=>jH _ _,λ_=>rfl]
 |a::b::r=>by
  rw[QX,iU,iW,zd (b::r)];constructor
  ·rintro⟨d,f⟩;refine List.pairwise_cons.mpr #[λx g=>?_,f];rcases List.mem_cons.mp g with e|e
   ·rw[e];exact d
   ·exact Int.lt_trans d<|(List.pairwise_cons.mp f).1 x e
  ·intro h;exact#[(List.pairwise_cons.mp h).1 b gY,(List.pairwise_cons.mp h).2]
def Ho(a:wX b)(c:wX d)(h:∀k,k∈b↔k∈d):b=d:=zv (wC (vr a) (vr c) h) (MZ a)<|MZ c
noncomputable def Lk(l:List Int)(k:Int):List Int:=if k∈l then Li k l else FR k l
def M0{k:Int}(h:wX l):wX (Lk l k):=by
 unfold Lk;split
 ·exact jQ _ h
 ·exact DQ h
set_option tactic.hygienic true in
def UV{k x:Int}:x∈Lk l k↔((x∈l)↔¬x=k):=by
 unfold Lk;split
 ·rename_i h
  rw[AB];constructor
  ·intro⟨a,b⟩;exact#[λ_=>b,λ_=>a]
  ·intro z;by_cases e:x=k
   ·rw[e]at z;exact ii (z.mp h) q0o
   ·exact#[z.mpr e,e]
 ·rename_i h
  rw[Ca];constructor
  ·rintro(a|a)
   ·subst a;exact#[λz=>ii z h,λz=>ii rfl z]
   ·exact#[λ_ e=>h (by rw[<- e];exact a),λ_=>a]
  ·intro z;by_cases e:x=k
   ·exact .inl e
   ·exact .inr<|z.mpr e
noncomputable def xr(l r:List Int):List Int:=r.foldl Lk l
def wY:∀{r l:List Int},wX l->wX (xr l r)
 | [],_,h=>h
 |_::r,_,h=>wY (r:=r)<|M0 h
def zk:∀{r l:List Int} {x:Int},r.Nodup->(x∈xr l r↔((x∈l)↔¬x∈r))
 | [],l,x,_=>by simp[xr]
 |k::r,l,x,h=>by
  have a:=List.nodup_cons.mp h;show x∈xr (Lk l k) r↔_;rw[zk a.2,UV,iD];by_cases e:x=k
  ·subst e;simp[a.1]
  ·simp[e]
def EI{r:List Int}{x:Int}(a:r.Nodup)(h:x∈xr l r):x∈l\/x∈r:=by
 rw[zk a]at h;by_cases q:x∈r
 ·exact .inr q
 ·exact .inl<|h.mpr q
noncomputable def Pg(a:List (List Int)):List Int:=a.foldl xr []
def Cb:∀{rows:List (List Int)} {l:List Int},wX l->wX (rows.foldl xr l)
 | [],_,h=>h
 |_::r,_,h=>Cb (rows:=r)<|wY h
def UW(a:List (List Int)):wX (Pg a):=Cb iG
def wE{l U:List Int}(h:wX l)(s:∀x∈l,x∈U):l.length<=U.length:=SX.zr _ _ (vr h) s
noncomputable def jn(a b:List Int):List Int:=BI<|a.filter (λk=>!decide (k∈b))++b.filter λk=>!decide (k∈a)
def Hq{k:Int}:k∈jn a b↔(k∈a/\k∉b)\/(k∈b/\k∉a):=by unfold jn;rw[yL,kW,ja,ja];simp
def Hr(c:wX d)(f:wX g):wX (jn d g):=by refine QV (A1 _)<|(wO _).nodup_iff.mpr<|List.nodup_append.mpr ⟨jQ _<|vr c,jQ _<|vr f,λa h b i e=>?_⟩;subst e;have j:=(List.mem_filter.mp h).1;have k:=(List.mem_filter.mp i).2;simp[j]at k
def QY(e:wX c)(f:wX d):jn c d=xr c d:=Ho (Hr e f) (wY e) λk=>by rw[Hq,zk<|vr f];by_cases a:k∈c<;>by_cases b:k∈d<;>simp[a,b]
def wd:∀{a:List k} {K:List g->S->Prop},(∀x∈a,∀K:Option g->S->Prop,K (f x) s->b x s K)->K (a.filterMap f) s->B9 b a s K:=by
 intro i
 induction i with
 |nil=>intro _ _ h;exact h
 |cons x a c =>
  intro K d h;refine d x gY _<|c (λy j=>d y<|hI _ j) ?_
  have e:(x::a).filterMap f=(f x).toList++a.filterMap f:=by rw[kZ];cases f x<;>rfl
  rw[e]at h;exact h
def filterMap_filter(p:b->Bool):∀a:List b,a.filterMap (λx=>if p x=true then some x else none)=a.filter p
 | []=>rfl
 |x::a=>by rw[kZ,jk,filterMap_filter p a];cases p x<;>rfl
def vL(I:List j->B->Prop):∀(a:List j) {s:B},I a s->(∀x r s,(∃p,a=p++x::r)->I (x::r) s->∀K:B->Prop,(∀c,I r c->K c)->b x s K k l)->(∀s,I [] s->m s)->Hl b a s m k l:=by
 intro d
 induction d with
 |nil=>intro s h _ f;exact f s h
 |cons x a g=>intro s h i f;exact i x a s #[[],rfl] h _ λc n=>g n (λy r o d=>e1a1 d λp e q=>i y r o #[x::p,by rw[e];rfl] q) f
def wl{n:Nat}(h:n<=1000):n<=hJ:=mj<|N5 h
structure Bd(C:gV)(fl:Bool) where
 rk:List (Int×Int)
 bd:List 90
 up:Int
 ht:List (Int×Int)
 th:List (Int×Int)
noncomputable def lk{a:Type}(l:List (Int×a))(k:Int):Option a:=(l.find? λe=>decide<|e.1=k).map (·.2)
noncomputable def BK(l:List (Int×Int)):List (Key×V):=l.map λe=>(iE e.1,V.int e.2)
def Cc(R:Rg)(H:Hp):List 90->List (Key×V)->Prop:=Paired λe u=>u.1=iE e.1/\rp R H (Tp.mk e.2) u.2
noncomputable def yV(a b c d:gV)(e:Int)(f:Bool):List (Str×V):=("ranks",.ref a)::("borders",.ref b)::("upcoming",.int e)::(if f=true then [("head_by_tail",.ref c),("tail_by_head",.ref d)] else [])
noncomputable def adr(p dx d1 d2 d3 d4:gV)(fl:Bool):List gV:=p::dx::d1::d2::(if fl=true then [d3,d4] else [])
structure EJ(C:gV)(fl:Bool)(R:Rg)(H:Hp)(x:Bd C fl)(p dx d1 d2 d3 d4:gV)(us:List (Key×V)):Prop where
 nd:(adr p dx d1 d2 d3 d4 fl).Nodup
 ob:H p=↑(.ins C dx<|yV d1 d2 d3 d4 x.up fl)
 ow:H dx=↑(.own p)
 rk:H d1=↑(.dK<|BK x.rk)
 bd:H d2=↑(.dK us)
 tu:Cc R H x.bd us
 ht:fl=true->H d3=↑(.dK<|BK x.ht)
 th:fl=true->H d4=↑(.dK<|BK x.th)
def DS{R R':Rg}{H H':Hp}(e:Ext R R H R' H'):∀{l:List 90} {us:List (Key×V)},Cc R H l us->Cc R' H' l us:=by
 intro _ _ z
 induction z with
 |nil=>exact .nil
 |cons h t ih=>exact .cons #[h.1,Rep.st h.2 e] ih
def EJ.st{C:gV}{fl:Bool}{G R R':Rg}{H H':Hp}{x:Bd C fl}{p dx d1 d2 d3 d4:gV}{us:List (Key×V)}(b:EJ C fl R H x p dx d1 d2 d3 d4 us)(e:Ext G R H R' H')(s:∀a,G a->R a)(n:∀a,a∈adr p dx d1 d2 d3 d4 fl->¬G a):EJ C fl R' H' x p dx d1 d2 d3 d4 us :=
 #[b.nd,e.keep _ _ (n _<|by simp[adr]) b.ob,e.keep _ _ (n _<|by simp[adr]) b.ow,e.keep _ _ (n _<|by simp[adr]) b.rk,e.keep _ _ (n _<|by simp[adr]) b.bd,DS (e.wide s) b.tu,λh=>e.keep _ _ (n _<|by simp[adr,h])<|b.ht h,λh=>e.keep _ _ (n _<|by simp[adr,h])<|b.th h]
instance(C:gV)(fl:Bool):Ow (Bd C fl):=#[λF R H x v=>∃p dx d1 d2 d3 d4 us,v=↑(.ref p)/\(∀b,F b↔b∈adr p dx d1 d2 d3 d4 fl)/\EJ C fl R H x p dx d1 d2 d3 d4 us,
 λh e s n=>by
  obtain⟨p,dx,d1,d2,d3,d4,us,h1,h2,h3⟩:=h
  exact#[p,dx,d1,d2,d3,d4,us,h1,h2,h3.st e s λa z=>n a<|(h2 a).mpr z],
 λh e=>by
  obtain⟨p,dx,d1,d2,d3,d4,us,h1,h2,h3⟩:=h
  exact#[p,dx,d1,d2,d3,d4,us,h1,λb=>(e b).symm.trans (h2 b),h3]]
instance(C:gV)(fl:Bool):Hs (Bd C fl):=#[λz9=>e7a2 z9 λ_ _ _ _ _ _ _ h _=>#[_,h]]
def JG{R L:Rg}{H:Hp}(k:∀a,L a->∃b,H a=↑(.lst b)):∀{l:List 90} {b:List (Key×V)},Cc R H l b->Cc (λa=>R a\/L a) H l b
 |_,_,.nil=>.nil
 |_,_,.cons h t=>.cons #[h.1,Le.no h.2 k]<|JG k t
instance(C:gV)(fl:Bool):UJ (Bd C fl):=#[λ{F R L H x v} h k=>by
 obtain⟨p,dx,d1,d2,d3,d4,us,h1,h2,b⟩:=h
 exact#[p,dx,d1,d2,d3,d4,us,h1,h2,b.nd,b.ob,b.ow,b.rk,b.bd,JG k b.tu,b.ht,b.th]]
structure A7(K:gW)(C:gV):Prop where
 cl:Bc K C
 nR:v9 K C "ranks"
 nB:v9 K C "borders"
 nU:v9 K C "upcoming"
structure Ph(K:gW)(C:gV):Prop where
 nH:v9 K C "head_by_tail"
 nT:v9 K C "tail_by_head"
def yM(k:Int):∀l:List (Int×Int),yI (BK l) (iE k)=(lk l k).map V.int
 | []=>rfl
 |e::l=>by
  by_cases h:e.1=k
  ·show yI ((iE e.1,V.int e.2)::BK l) _=_;rw[zp<|by rw[h]];unfold lk;rw[i9,decide_eq_true h];rfl
  ·show yI ((iE e.1,V.int e.2)::BK l) _=_;rw[zq (by intro z;exact h<|n6 z),yM k l];unfold lk;rw[i9,ik h]
def EK{R:Rg}{H:Hp}{k:Int}:∀{l:List 90} {us:List (Key×V)},Cc R H l us->(∀b,lk l k=↑b->∃v,yI us (iE k)=↑v/\rp R H (Tp.mk b) v)/\(lk l k=none->yI us (iE k)=none):=by
 intro z0 z1 z9
 induction z9 with
 |nil=>exact#[(λb h=>by cases h),λ_=>rfl]
 | @cons e u l us h t Yv =>
  obtain⟨i1,i2⟩:=Yv;by_cases q:e.1=k
  ·have e1:lk (e::l) k=↑e.2:=by unfold lk;rw[i9,decide_eq_true q];rfl
   rw[e1];refine#[λb hb=>?_,(λz=>by cases z)];cases hb;exact#[u.2,zp (by rw[h.1,q]),h.2]
  ·have e1:lk (e::l) k=lk l k:=by unfold lk;rw[i9,ik q]
   rw[e1,zq<|by rw[h.1];intro z;exact q<|n6 z];exact#[i1,i2]
noncomputable def pk{a:Type}(l:List (Int×a))(k:Int)(v:a):List (Int×a):=if (lk l k).isSome then l.map (λe=>if e.1=k then (e.1,v) else e) else l++[(k,v)]
noncomputable def dk{a:Type}(l:List (Int×a))(k:Int):List (Int×a):=l.filter λe=>decide<|e.1≠k
def UX(l:List (Int×Int))(k v:Int):putK (BK l) (iE k) (V.int v)=BK (pk l k v):=by
 unfold putK pk;rw[As,yM,iZ]
 cases (lk l k).isSome with
 |true =>
  rw[gU rfl,gU rfl];unfold BK;rw[kF,kF];refine mw λe _=>?_;show (if (iE e.1:Key)=iE k then _ else _)=(λe:Int×Int=>((iE e.1:Key),V.int e.2)) (if e.1=k then (e.1,v) else e);by_cases h:e.1=k
  ·rw[gU (by rw[h]),gU h]
  ·rw[ci<|λz=>h<|n6 z,ci h]
 |false =>
  rw[ci h8,ci h8];unfold BK;rw[ku];rfl
def JH(l:List (Int×Int))(k:Int):Aq (BK l) (iE k)=BK (dk l k):=by
 unfold Aq dk BK;rw[rA];congr 1;refine oF λe _=>?_;by_cases h:e.1=k
 ·simp[h]
 ·simp[h]
def JI{R:Rg}{H:Hp}{k:Int}{b:List Int}{v:V}(h:rp R H (Tp.mk b) v):∀{l:List 90} {us:List (Key×V)},Cc R H l us->Cc R H (l++[(k,b)]) (us++[(iE k,v)])
 |_,_,.nil=>.cons #[rfl,h] .nil
 |_,_,.cons q t=>.cons q<|JI h t
def QZ{R:Rg}{H:Hp}{l:List 90}{us:List (Key×V)}{k:Int}{b:List Int}{v:V}(t:Cc R H l us)(hn:lk l k=none)(h:rp R H (Tp.mk b) v):Cc R H (pk l k b) (putK us (iE k) v):=by unfold pk;rw[hn,P1 _<|(EK t).2 hn];exact JI h t
def Oo{R:Rg}{H:Hp}{k:Int}:∀{l:List 90} {us:List (Key×V)},Cc R H l us->Cc R H (dk l k) (Aq us<|iE k):=by
 intro z0 z1 z9
 induction z9 with
 |nil=>exact .nil
 | @cons e u l us h t Yv =>
  have ih:=Yv;unfold dk Aq at ih ⊢;rw[jk,jk];by_cases q:e.1=k
  ·rw[ci (by simpa using q),ci<|by rw[h.1];simpa using q];exact ih
  ·rw[gU (by simpa using q),gU<|by rw[h.1];simpa using q];exact .cons h ih
inductive ID where
 | rk|ht|th
noncomputable abbrev ID.nm:ID->Str
 | .rk=>"ranks" | .ht=>"head_by_tail" | .th=>"tail_by_head"
noncomputable abbrev ID.get{C:gV}{a:Bool}:ID->Bd C a->List (Int×Int)
 | .rk,x=>x.rk|.ht,x=>x.ht|.th,x=>x.th
noncomputable abbrev ID.set{C:gV}{a:Bool}:ID->Bd C a->List (Int×Int)->Bd C a
 | .rk,x,l=>{ x with rk:=l}|.ht,x,l=>{ x with ht:=l}|.th,x,l=>{ x with th:=l}
def ID.ok:ID->Bool->Prop
 | .rk,_=>True|.ht,fl=>fl=true|.th,fl=>fl=true
def nd4(h:(a::b::c::d::r).Nodup):(a≠b/\a≠c/\a≠d/\∀x∈r,a≠x)/\(b≠c/\b≠d/\∀x∈r,b≠x)/\(c≠d/\∀x∈r,c≠x)/\(∀x∈r,d≠x)/\r.Nodup:=by have g:=List.nodup_cons.mp h;have i:=List.nodup_cons.mp g.2;have j:=List.nodup_cons.mp i.2;have k:=List.nodup_cons.mp j.2;simp only[iD,qa]at g i j;exact#[#[g.1.1,g.1.2.1,g.1.2.2.1,λx f e=>g.1.2.2.2<|by rw[e];exact f],⟨i.1.1,i.1.2.1,λx f e=>i.1.2.2<|by rw[e];exact f⟩,⟨j.1.1,λx f e=>j.1.2<|by rw[e];exact f⟩,λx f e=>k.1 (by rw[e];exact f),k.2]
def AC(b:EJ C k R H x p s l m g i t)(q:ID)(u:q.ok k):∃d,(yV l m g i x.up k).lookup q.nm=↑(.ref d)/\H d=↑(.dK<|BK<|q.get x)/\d∈adr p s l m g i k /\
  ∀j,R d->EJ C k R (upd H d<|.dK<|BK j) (q.set x j) p s l m g i t:=by
 have f:=nd4 b.nd;have n:∀d j,R d->Cc R (upd H d<|.dK<|BK j) x.bd t:=λd j h=>DS ((zR (F:=R) (R:=R) (H:=H) (a:=d) (o:=.dK<|BK j)).wide λc z=>by rw[z];exact h) b.tu
 cases q with
 |rk =>
  refine#[l,rfl,b.rk,by simp[adr],λj h=>#[b.nd,by rw[ve f.1.2.1];exact b.ob,by rw[ve f.2.1.1];exact b.ow,vh,by rw[ve f.2.2.1.1.symm];exact b.bd,n _ _ h,λz=>?_,λz=>?_]]
  ·rw[ve (f.2.2.1.2 g<|by rw[gU z];simp).symm];exact b.ht z
  ·rw[ve (f.2.2.1.2 i<|by rw[gU z];simp).symm];exact b.th z
 |ht =>
  have z:k=true:=u;subst z;have r:=List.nodup_cons.mp f.2.2.2.2;refine#[g,rfl,b.ht rfl,by simp[adr],λj h=>#[b.nd,by rw[ve<|f.1.2.2.2 g q0o];exact b.ob,by rw[ve<|f.2.1.2.2 g q0o];exact b.ow,by rw[ve<|f.2.2.1.2 g q0o];exact b.rk,by rw[ve<|f.2.2.2.1 g q0o];exact b.bd,n _ _ h,λ_=>vh,λ_=>?_]];rw[ve<|λe=>r.1<|by rw[<- e];simp];exact b.th rfl
 |th =>
  have z:k=true:=u;subst z;have r:=List.nodup_cons.mp f.2.2.2.2;refine#[i,rfl,b.th rfl,by simp[adr],λj h=>#[b.nd,by rw[ve<|f.1.2.2.2 i q0o];exact b.ob,by rw[ve<|f.2.1.2.2 i q0o];exact b.ow,by rw[ve<|f.2.2.1.2 i q0o];exact b.rk,by rw[ve<|f.2.2.2.1 i q0o];exact b.bd,n _ _ h,λ_=>?_,λ_=>vh]];rw[ve<|λe=>r.1<|by rw[e];simp];exact b.ht rfl
section
variable{D PO τ:Type}[Sls D][Sls PO][Ow τ]
def wN{i:Nat}[Sls J][A:At i D (Bd C r) J](s:wq T F R H d L):∃p f g j l m B,L[i]?=↑(some<|.ref p)/\EJ C r R H (A.get d) p f g j l m B/\(∀a∈adr p f g j l m r,R a) /\
  ∀{U:Pt i J (Bd C r) D} {a:gV} {o:HO} {E:Bd C r} {w:List (Key×V)},a∈adr p f g j l m r->EJ C r R (upd H a o) E p f g j l m w->Ch T F R H F R (upd H a o)/\wq T F R (upd H a o) (U.put (A.hole d) E) L:=by
 obtain⟨v,X,Y,M,G,⟨p,f,g,j,l,m,B,rfl,I,N⟩,O⟩:=A.take s.rel;have x:∀a∈adr p f g j l m r,F a:=λa h=>(G.all a).mpr<|.inl<|(I a).mpr h;refine⟨p,f,g,j,l,m,B,M,N,λa h=>s.sub a<|x a h,λ{U a o E w} y P=>?_⟩;have Q:=zR (F:=F) (R:=R) (H:=H) (a:=a) (o:=o);have S:∀c,c=a->R c:=λc z=>by rw[z];exact s.sub a<|x a y
 have k:∀b u,b≠a->H b=↑u->upd H a o b=↑u:=λb u z e=>by rw[ve z];exact e
 refine#[#[λb o n _ e=>k b o (λz=>n<|by rw[z];exact x a y) e,λ_ h=>.inl h,λ_ h=>.inl h,λ_ h _=>h],Pt.same (A:=U) (Sls.st O Q S λc z q=>G.yE c ((I c).mpr<|by rw[q];exact y) z) M G ⟨p,f,g,j,l,m,w,rfl,I,P⟩,s.sub,λc z=>?_,?_,s.v4,s.vS]
 ·by_cases e:c=a
  ·rw[e,vh];simp
  ·rw[ve e];exact s.xD c z
 ·refine e1a2 s.tab λW e t=>?_;exact#[W,k _ _ (λz=>s.vS<|by rw[z];exact x a y) e,t]
def Ll(q:ID)(b:Bool)(i:Nat)[Sls U][A:At i D (Bd C W) U](Y:q.ok W)(Z:Bc X.K C)(nf:v9 X.K C q.nm)(G:X.A.units+1<kT)(hk:EW X E T a wk)(I:PE X (.Name x l) (vQ i))(J:iP (.Name x l) q.nm X.env (eval (.Name x l) X.env)=eval (.Name x l) X.env:=by rfl)
 (L:jd (if b then .NotIn else .In) (.Attribute (.Name x l) q.nm p2)=false:=by with_unfolding_all rfl):EW X E T (.Compare a [if b then .NotIn else .In] [.Attribute (.Name x l) q.nm p2] pos) (cK wk λ(n:Bool->D->Prop) k c=>n (if b then !(lk (q.get<|A.get c) k).isSome else (lk (q.get<|A.get c) k).isSome) c):=by
  refine e1a2 hk λta M N=>?_
  have O:∀{c:D} {h j:Rg} {e:Hp} {f:St} {k:Int} {Q:VK},wq T h j e c f->Q (.bl<|if b then !(lk (q.get<|A.get c) k).isSome else (lk (q.get<|A.get c) k).isSome) e->Xx X.K (vQ i) q.nm f e λy P=>∃a o,y=.ref a/\yz P a (.int k) o/\Q (.bl<|if b then !o.isSome else o.isSome) P:=λ{c h j e f k Q} g m=>by
    obtain⟨p,dx,e1,e2,e3,e4,us,g1,S,_,_⟩:=wN (i:=i) g
    refine e1a4 (AC S q Y) λd l1 l2 _ _=>?_
    refine#[_,g1,p,C,dx,_,_,rfl,S.ob,Z,nf,l1,d,_,rfl,yz.k (k:=iE k) l2,?_]
    rw[yM,iZ]
    exact m
  cases b with
  |false=>exact#[_,Pm (P5 G M (xh I J)) L,λd F R f H n r Q s t m v=>N d F R f H _ r _ s t (λk c u h j e w z g B=>by
      subst B
      exact O g (m _ c _ h j e w z g rfl)) v]
  |true=>exact#[_,Pm (CK G M (xh I J)) L,λd F R f H n r Q s t m v=>N d F R f H _ r _ s t (λk c u h j e w z g B=>by
      subst B
      exact O g (m _ c _ h j e w z g rfl)) v]
def tw_dIn(q:ID)(b:Bool)(i:Nat)[Sls W][A:At i D (Bd C Y) W](Z:q.ok Y)(cl:Bc X.K C)(nf:v9 X.K C q.nm)(I:X.A.units+1<kT)(hk:EW X E T a wk)(J:PE X (.Name x m) (vQ i))(L:iP (.Name x m) q.nm X.env (eval (.Name x m) X.env)=eval (.Name x m) X.env:=by rfl)
 (M:jd (if b then .NotIn else .In) (.Attribute (.Name x m) q.nm p2)=false:=by with_unfolding_all rfl):TW X E T (.Compare a [if b then .NotIn else .In] [.Attribute (.Name x m) q.nm p2] pos) (cK wk λ(r:Bool->D->Prop) k e=>r (if b then !(lk (q.get<|A.get e) k).isSome else (lk (q.get<|A.get e) k).isSome) e):=by
  refine e1a2 hk λta N O=>?_
  have P:∀{e:D} {j l:Rg} {f:Hp} {g:St} {k:Int} {Q:VK},wq T j l f e g->Q (.bl<|if b then !(lk (q.get<|A.get e) k).isSome else (lk (q.get<|A.get e) k).isSome) f->Xx X.K (vQ i) q.nm g f λy S=>∃a o,y=.ref a/\yz S a (.int k) o/\Q (.bl<|if b then !o.isSome else o.isSome) S:=λ{e j l f g k Q} h n=>by
    obtain⟨p,dx,e1,e2,e3,e4,us,g1,U,_,_⟩:=wN (i:=i) h
    refine e1a4 (AC U q Z) λd l1 l2 _ _=>?_
    refine#[_,g1,p,C,dx,_,_,rfl,U.ob,cl,nf,l1,d,_,rfl,yz.k (k:=iE k) l2,?_]
    rw[yM,iZ]
    exact n
  cases b with
  |false=>exact#[_,Ks (P5 I N (xh J L)) M,λd F R g H r t Q s v n w=>O d F R g H _ t _ s v (λk e u j l f z B h G=>by
      subst G
      exact P (Q:=λy H=>∃c,y=.bl c/\Q c H) h #[_,rfl,n _ e j l f z B h]) w]
  |true=>exact#[_,Ks (CK I N (xh J L)) M,λd F R g H r t Q s v n w=>O d F R g H _ t _ s v (λk e u j l f z B h G=>by
      subst G
      exact P (Q:=λy H=>∃c,y=.bl c/\Q c H) h #[_,rfl,n _ e j l f z B h]) w]
def EV(X:Cx)(T:gV)(e:iT){D α:Type}[Sls D][Rep α](f:D->α):Prop :=
 ∃t,PE X e t/\∀(d:D)(F R:Rg)(σ:St)(H:Hp)(Q:VK),wq T F R H d σ->(∀v,rp R H (f d) v->Q v H)->t σ H Q
def ww[Rep a][Sls b](i:Nat)[A:At i D a b](c:PE X (.Name y pos) (vQ i)):EV X T (.Name y pos) (λ(d:D)=>A.get d):=by refine#[_,c,λd F R h H Q s e=>?_];obtain⟨v,j,k,f,l,⟨_,u,rfl,g⟩,_⟩:=A.take s.rel;exact#[u,f,e u g]
def Q0{m:Int}{k:Nat}:EV X T (.Constant (.int m) k pos) (λ(_:D)=>m):=#[_,vH,λd F R b H Q s a=>a _ rfl]
def DT(q:ID)(i:Nat)[Sls h][A:At i D (Bd C j) h](l:q.ok j)(m:Bc X.K C)(n:v9 X.K C q.nm)(o:X.A.units+1<kT)(t:PE X (.Name x b) (vQ i))(u:EV X T a f)(w:iP (.Name x b) q.nm X.env (eval (.Name x b) X.env)=eval (.Name x b) X.env:=by rfl)(B:P2 a:=by intro _ _;rfl) :
  EW X E T (.Subscript (.Attribute (.Name x b) q.nm Y) a pos) (λ(d:D)(c:Int->D->Prop) _=>∃v,lk 83 (f d)=↑v/\c v d):=by
 refine e1a2 u λZ G I=>?_;refine#[_,GV o (xh t w) G B,λd F R J H c Ke Q s L M ke=>?_];obtain⟨p,N,e1,e2,e3,e4,us,O,e,_,_⟩:=wN (i:=i) s;refine e1a4 (AC e q l) λy P S _ _=>?_;refine#[_,O,p,C,N,_,_,rfl,e.ob,m,n,P,I d F R J H _ s λv r=>?_];subst r;refine e1a2 L λz U W=>?_;have g:=yz.k (k:=iE<|f d) S;rw[yM,U]at g;exact#[y,_,rfl,g,M z d _ F R H W 61 s rfl]
def A8(i:Nat)[Sls h][A:At i D (Bd C U) h](j:Bc X.K C)(l:v9 X.K C "borders")(m:X.A.units+1<kT)(n:PE X (.Name x b) (vQ i))(o:EV X T a f)(q:iP (.Name x b) "borders" X.env (eval (.Name x b) X.env)=eval (.Name x b) X.env:=by rfl)(t:P2 a:=by intro _ _;rfl) :
  EW X E T (.Subscript (.Attribute (.Name x b) "borders" W) a pos) (λ(d:D)(e:Tp Int->D->Prop) _=>∃v,lk (A.get d).bd (f d)=↑v/\e #[v] d):=by
 refine e1a2 o λY u y=>?_;refine#[_,GV m (xh n q) u t,λd F R B H e Z Q s G I ke=>?_];obtain⟨p,J,e1,L,e3,e4,us,M,c,_,_⟩:=wN (i:=i) s;refine#[_,M,p,C,J,_,_,rfl,c.ob,j,l,rfl,y d F R B H _ s λv r=>?_];subst r;refine e1a2 G λz N O=>?_;refine e1a2 ((EK c.tu).1 z N) λw P S=>?_;have g:=yz.k (k:=iE<|f d) c.bd;rw[P]at g;exact#[L,w,rfl,g,I #[z] d _ F R H O 61 s S]
def UY(q:ID)(i:Nat)[Sls g][A:At i D (Bd C h) g](j:q.ok h)(k:Bc X.K C)(l:v9 X.K C q.nm)(m:Gl X "len")(n:X.mg "len"=none)(o:PE X (.Name x a) (vQ i))(r:iP (.Name x a) q.nm X.env (eval (.Name x a) X.env)=eval (.Name x a) X.env:=by rfl)
 (b:gX [.Attribute (.Name x a) q.nm c] X.env=(false,eval (.Attribute (.Name x a) q.nm c) X.env)::gX [] X.env:=by rfl) :
    EW X E T (.Call (.Name "len" G) [.Attribute (.Name x a) q.nm c] [] pos) (λ(d:D)(e:Int->D->Prop) _=>e ((83).length:Int) d):=by
  refine#[_,wT N6 m n mQ (vn (xh o r) vB b) (he:=b),λd F R I H e J Q s t u L=>?_]
  obtain⟨p,v,M,N,O,P,S,w,f,_,_⟩:=wN (i:=i) s
  refine e1a4 (AC f q j) λy z B _ _=>?_
  refine#[_,w,p,C,v,_,_,rfl,f.ob,k,l,z,y,_,rfl,B,u _ d _ F R H t 61 s ?_]
  show V.int _=V.int _
  unfold BK
  rw[hO]
def EL(q:ID)(i:Nat)[Sls h][A:At i D (Bd C j) h](k:q.ok j)(m:Bc X.K C)(n:v9 X.K C q.nm)(o:X.calm=true)(r:Gl X "sorted")(t:X.mg "sorted"=none)(u:PE X (.Name x a) (vQ i))(v:iP (.Name x a) q.nm X.env (eval (.Name x a) X.env)=eval (.Name x a) X.env:=by rfl)
 (b:gX [.Attribute (.Name x a) q.nm c] X.env=(false,eval (.Attribute (.Name x a) q.nm c) X.env)::gX [] X.env:=by rfl) :
    EO X E T (.Call (.Name "sorted" U) [.Attribute (.Name x a) q.nm c] [] pos) (λ(d:D)(e:OL Int->D->Prop) _=>(83).length<64/\e #[BI ((83).map (·.1))] d):=by
  refine#[_,wT (Hf o) r t kK (vn (xh u v) vB b) (he:=b),λd F R W H e Y Q s f w Z=>?_]
  obtain⟨p,z,e1,e2,e3,e4,us,B,g,_,_⟩:=wN (i:=i) s
  refine e1a4 (AC g q k) λy G I _ _=>?_
  refine#[_,B,p,C,z,_,_,rfl,g.ob,m,n,G,y,_,(83).map (·.1),rfl,I,?_,by rw[hO];exact f.1,λl ns J L M=>?_]
  · unfold BK
    rw[kF,kF]
    rfl
  · rw[Ew L M]
    refine e1a3 (xW s J (yo (R:=R) (H:=H) (BI ((83).map (·.1))))) λN O P S=>?_
    exact w _ d _ _ F N _ f.2 O P S
def WU(i:Nat)[Sls c][A:At i D (Bd C o) c](e:Bc X.K C)(f:v9 X.K C "upcoming")(g:PE X (.Name x a) (vQ i))(h:iP (.Name x a) "upcoming" X.env (eval (.Name x a) X.env)=eval (.Name x a) X.env:=by rfl) :
  EW X E T (.Attribute (.Name x a) "upcoming" pos) (λ(d:D)(b:Int->D->Prop) _=>b (A.get d).up d):=by
 refine#[_,xh g h,λd F R q H b r Q s j k t=>?_];obtain⟨p,l,u,v,w,y,z,m,n,_,_⟩:=wN (i:=i) s;exact#[_,m,p,C,l,_,_,rfl,n.ob,e,f,rfl,k _ d _ F R H j 61 s rfl]
def Ht(q:ID)(i:Nat)[Sls o][A:At i D (Bd C t) o][U:Pt i o (Bd C t) D][J:Pj D PO n](N:q.ok t)(O:Bc X.K C)(P:v9 X.K C q.nm)(Q:X.A.units+1<kT)(S:PE X (.Name x g) (vQ i))(W:EV X T a f)(Y:EW X E T e Z)(hb:iP (.Name x g) q.nm X.env (eval (.Name x g) X.env)=eval (.Name x g) X.env:=by rfl)
 (hs:kd e (some<|.Subscript (.Attribute (.Name x g) q.nm p2) a p3) pos.line X.env=pure false:=by rfl) :
    S1 X E T ms n (.Assign [.Subscript (.Attribute (.Name x g) q.nm p2) a p3] e pos) (cS Z J.pj λ(z:D->Prop)(Kr:τ->PO->Prop) v b=>(q.get<|A.get b).length<hJ/\z (U.put (A.hole b)<|q.set (A.get b)<|pk (q.get<|A.get b) (f b) v)):=by
  refine e1a2 W λta a1 a2=>?_
  refine e1a2 Y λte b1 b2=>?_
  refine#[_,GY Q (xh S hb) a1 b1 hs,λd F R j H z Kr Ke En s hw kn kr ke=>b2 d F R j H _ _ _ s hw (λv b u B I H1 L c1 l r1=>?_) λC y d' F' R' H' q c s'=>?_]
  · obtain⟨p, dx, e1, e2, e3, e4, us, m, h, g3, g4⟩ := wN (i := i) l
    refine e1a4 (AC h q N) λy l1 l2 M l4=>?_
    subst r1
    refine#[_,m,p,C,dx,_,_,rfl,h.ob,O,P,l1,a2 b B I j H1 _ l λw r=>?_]
    subst r
    obtain⟨c2,s2⟩:=g4 (U:=U) M<|l4 (pk (q.get<|A.get b) (f b) v)<|g3 y M
    refine#[y,_,rfl,GU.k (k:=iE<|f b) l2 (by unfold BK;rw[hO];exact L.1),?_]
    rw[UX]
    exact kn _ B I _ j L.2 (Ch.trans s l.tab c1 c2) s2<|Ag.refl _ _
  · refine e1a2 (wR (PO := PO) s') λG m h => ?_
    exact ke C y _ G R' H' q (c.less m) h
def EM(b:EJ C i R H y p j k f g h n)(m:R f)(t:Cc R H l d):EJ C i R (upd H f<|.dK d) { y with bd:=l} p j k f g h d:=by have e:=nd4 b.nd;exact⟨b.nd,by rw[ve e.1.2.2.1];exact b.ob,by rw[ve e.2.1.2.1];exact b.ow,by rw[ve e.2.2.1.1];exact b.rk,vh,DS ((zR (F:=R) (R:=R) (H:=H) (a:=f) (o:=.dK d)).wide λc z=>by rw[z];exact m) t,λz=>by rw[ve (e.2.2.2.1 g<|by rw[gU z];simp).symm];exact b.ht z,λz=>by rw[ve (e.2.2.2.1 h<|by rw[gU z];simp).symm];exact b.th z⟩
def UZ(i:Nat){o:Type}[Sls o][A:At i D (Bd C L) o][U:Pt i o (Bd C L) D][J:Pj D PO n]{f:D->Int}{M:Wf D (Tp Int) D}(W:Bc X.K C)(Y:v9 X.K C "borders")(Z:X.A.units+1<kT)(hn:PE X (.Name x j) (vQ i))(hk:EV X T a f)(he:EW X E T e M)(hb:iP (.Name x j) "borders" X.env (eval (.Name x j) X.env)=eval (.Name x j) X.env:=by rfl)
 (hs:kd e (some<|.Subscript (.Attribute (.Name x j) "borders" p2) a p3) pos.line X.env=pure false:=by rfl) :
    S1 X E T ms n (.Assign [.Subscript (.Attribute (.Name x j) "borders" p2) a p3] e pos) (cS M J.pj λ(N:D->Prop)(Kr:τ->PO->Prop) v g=>(A.get g).bd.length<hJ/\lk (A.get g).bd (f g)=none/\N (U.put (A.hole g) { A.get g with bd:=pk (A.get g).bd (f g) v.l})):=by
  refine e1a2 hk λta a1 a2=>?_
  refine e1a2 he λte b1 b2=>?_
  refine#[_,GY Z (xh hn hb) a1 b1 hs,λd F R t H N Kr Ke En s hw kn kr ke=>b2 d F R t H _ _ _ s hw (λv g u O P H1 z c1 B r1=>?_) λC y d' F' R' H' q c s'=>?_]
  · obtain⟨p, Q, e1, m, e3, e4, us, I, h, g3, g4⟩ := wN (i := i) B
    have S:m∈adr p Q e1 m e3 e4 L:=by simp[adr]
    refine#[_,I,p,C,Q,_,_,rfl,h.ob,W,Y,rfl,a2 g O P t H1 _ B λw r=>?_]
    subst r
    obtain⟨c2,s2⟩:=g4 (U:=U) S<|EM h (g3 m S)<|QZ (b:=v.l) h.tu z.2.1 r1
    exact#[m,_,rfl,GU.k (k:=iE<|f g) h.bd (by rw[<- Paired.length h.tu];exact z.1),kn _ O P _ t z.2.2 (Ch.trans s B.tab c1 c2) s2<|Ag.refl _ _]
  · refine e1a2 (wR (PO := PO) s') λG I h => ?_
    exact ke C y _ G R' H' q (c.less I) h
def a0t(i:Nat)[Sls w][A:At i D (Bd C f) w][U:Pt i w (Bd C f) D][J:Pj D PO n](P:Bc X.K C)(Q:v9 X.K C "upcoming")(S:PE X (.Name x B) (vQ i))(W:EW X E T e Y)(Z:kd e (some<|.Attribute (.Name x B) "upcoming" p2) pos.line X.env=pure false:=by rfl) :
  S1 X E T ms n (.Assign [.Attribute (.Name x B) "upcoming" p2] e pos) (cS Y J.pj λ(I:D->Prop)(Kr:τ->PO->Prop) v j=>I<|U.put (A.hole j) { A.get j with up:=v}):=by
 refine e1a2 W λte b1 b2=>?_;refine#[_,CJ S b1 Z,λd F R L H I Kr Ke En s hw kn kr ke=>b2 d F R L H _ _ _ s hw (λv j u F1 o M q1 c1 N r1=>?_) λC y d' F' R' H' q c s'=>?_]
 ·obtain⟨p,r,k,l,g,h,us,t,b,g3,g4⟩:=wN (i:=i) N;subst r1;have O:p∈adr p r k l g h f:=by simp[adr]
  have m:=nd4 b.nd;have eq:An "upcoming" (V.int v) (yV k l g h (A.get j).up f)=yV k l g h v f:=rfl;have nb:EJ C f o (upd M p<|.ins C r<|yV k l g h v f) { A.get j with up:=v} p r k l g h us:=⟨b.nd,vh,by rw[ve m.1.1.symm];exact b.ow,by rw[ve m.1.2.1.symm];exact b.rk,by rw[ve m.1.2.2.1.symm];exact b.bd,DS ((zR (F:=o) (R:=o) (H:=M) (a:=p)).wide λc z=>by rw[z];exact g3 p O) b.tu,λz=>by rw[ve (m.1.2.2.2 g<|by rw[gU z];simp).symm];exact b.ht z,λz=>by rw[ve (m.1.2.2.2 h<|by rw[gU z];simp).symm];exact b.th z⟩;obtain⟨c2,s2⟩:=g4 (U:=U) O nb;refine#[_,t,p,C,r,_,rfl,b.ob,P,Q,?_,?_]
  ·unfold yV;split<;>(simp only[iz,nJ];decide)
  ·rw[eq];exact kn _ F1 o _ L q1 (Ch.trans s N.tab c1 c2) s2<|Ag.refl _ _
 ·refine e1a2 (wR (PO:=PO) s') λG t b=>?_;exact ke C y _ G R' H' q (c.less t) b
def M3(q:ID)(i:Nat)[Sls c][A:At i D (Bd C e) c][U:Pt i c (Bd C e) D][J:Pj D PO n](u:q.ok e)(v:Bc X.K C)(z:v9 X.K C q.nm)(B:PE X (.Name x b) (vQ i))(G:EV X T a f)(I:∀{g h:TE},PE X (.Attribute (.Name x b) q.nm j) g->PE X a h->PS X (.Delete [.Subscript (.Attribute (.Name x b) q.nm j) a L] pos) (P4 g h))(M:iP (.Name x b) q.nm X.env (eval (.Name x b) X.env)=eval (.Name x b) X.env:=by rfl) :
  S1 X E T ms n (.Delete [.Subscript (.Attribute (.Name x b) q.nm j) a L] pos) (λ(d:D)(k:D->Prop)(N:τ->PO->Prop)(O:gV->PO->Prop)=>(lk 83<|f d).isSome=true/\k (U.put (A.hole d)<|q.set (A.get d)<|dk 83<|f d)):=by
 refine e1a2 G λta P Q=>?_;refine#[_,I (xh B M) P,λd F R l H k N O En s m S kr ke=>?_];obtain⟨p,W,e1,e2,e3,e4,us,Y,o,Z,g4⟩:=wN (i:=i) s;refine e1a4 (AC o q u) λy l1 l2 t l4=>?_;refine#[_,Y,p,C,W,_,_,rfl,o.ob,v,z,l1,Q d F R l H _ s λw r=>?_];subst r;obtain⟨c2,s2⟩:=g4 (U:=U) t<|l4 (dk 83<|f d)<|Z y t;refine#[y,_,iE<|f d,rfl,l2,rfl,by rw[yM,iZ];exact m.1,?_];rw[JH];exact S _ F R _ l m.2 c2 s2<|Ag.refl _ _
def U0(i:Nat)[Sls h][A:At i D (Bd C j) h][U:Pt i h (Bd C j) D][J:Pj D PO n](I:Bc X.K C)(L:v9 X.K C "borders")(M:PE X (.Name x c) (vQ i))(N:EV X T a f)(O:∀{l m:TE},PE X (.Attribute (.Name x c) "borders" o) l->PE X a m->PS X (.Delete [.Subscript (.Attribute (.Name x c) "borders" o) a P] pos) (P4 l m))(Q:iP (.Name x c) "borders" X.env (eval (.Name x c) X.env)=eval (.Name x c) X.env:=by rfl) :
  S1 X E T ms n (.Delete [.Subscript (.Attribute (.Name x c) "borders" o) a P] pos) (λ(d:D)(q:D->Prop)(S:τ->PO->Prop)(W:gV->PO->Prop)=>(lk (A.get d).bd<|f d).isSome=true/\q (U.put (A.hole d) { A.get d with bd:=dk (A.get d).bd (f d)})):=by
 refine e1a2 N λta Y Z=>?_;refine#[_,O (xh M Q) Y,λd F R t H q S W En s u kn kr ke=>?_];obtain⟨p,y,e1,g,e3,e4,us,g1,e,g3,g4⟩:=wN (i:=i) s;have B:g∈adr p y e1 g e3 e4 j:=by simp[adr]
 refine#[_,g1,p,C,y,_,_,rfl,e.ob,I,L,rfl,Z d F R t H _ s λw r=>?_];subst r;obtain⟨c2,s2⟩:=g4 (U:=U) B<|EM e (g3 g B)<|Oo (k:=f d) e.tu;refine#[g,us,iE<|f d,rfl,e.bd,rfl,?_,kn _ F R _ t u.2 c2 s2<|Ag.refl _ _]
 cases z:lk (A.get d).bd (f d) with
 |none =>
  have G:=u.1;rw[z]at G;cases G
 |some b =>
  refine e1a2 ((EK e.tu).1 b z) λv v1 _=>?_;rw[v1];rfl
end
section
variable{D PO τ:Type}[Sls D][Sls PO][Ow τ]{α:Type}[Rep α]
def JJ(i:Nat){D1 P O B B1 S:Type}[Sls D1][Sls P][Sls O][Sls B][Sls B1][Sls S][Lb S τ<|Bd C J×O]{I:B->S->O->D}{wr:D->(P->B->S->Prop)->72->Prop}
 {wf:Wf (Bd C J×P) τ (Bd C J×O)} [A0:At i D (Bd C J) D1] [A:At i B (Bd C J) B1] [U:Pt i B1 (Bd C J) B] (hl:∀a b c d u,(yV a b c d u J).lookup m=none)
 (b2:∀(d:D)(F R:Rg)(k:St)(H:Hp)(W:P->B->S->Prop)(M:gV->D->Prop)(Q:List V->Hp->Prop),wq T F R H d k->wr d W M ->
 (∀p b l vs us F1 X L w j e,W p b l->Ch T F R H w j e->Std T w j e->Ez w F1 X L->rel F1 (Wo j L) e p (vs.map some)->rel X j e b k->rel L j e l us ->
 (∀b' l' G1 G2 G3 o f h G,rel G1 f h G (vs.map some)->rel G2 f h b' k->rel G3 f h l' us->Ez o G1 G2 G3->rel o f h (I b' l' G) k)->Q vs e) ->
 (∀C y r w j e,M C r->Ch T F R H w j e->wq T w j e r k->E (.ref C) ↑y e)->tr k H Q)
 (d:D) (F R:Rg) (k:St) (H:Hp) (W:τ->D->Prop) (M:gV->D->Prop) (Q:VK) (s:wq T F R H d k) (hw:wr d (λp b l=>wf (A.get b,p) (λy G=>W y<|I (U.put (A.hole b) G.1) l G.2)<|λC G=>M C<|I (U.put (A.hole b) G.1) l G.2) M)
 (kn:∀x r v F1 X j e,W x r->Ch T F R H (λa=>F1 a\/X a) j e->wq T X j e r k->Nw T F1 X j e x v->Q v e)
 (ke:∀C y r w j e,M C r->Ch T F R H w j e->wq T w j e r k->E (.ref C) ↑y e):Gb C m (yK T wf) [] E (vQ i) tr k H Q:=by
  obtain⟨v,_,_,hv,_,⟨a,dx,d1,d2,d3,d4,aa,rfl,_,g⟩,_⟩:=A0.take s.rel
  refine#[_,hv,a,dx,_,rfl,g.ob,hl _ _ _ _ _,b2 d F R k H _ M _ s hw (λp b l vs us G1 G2 L w j e q2 c2 s2 Y h1 h2 h3 km=>?_) ke]
  rw[ko]
  refine e3a4 (A.take h2) λv' M1 M2 z1 z2 z3 z4=>?_
  rw[hv]at z1
  cases z1
  have m1:∀a,M1 a->G2 a:=λa m=>(z2.all a).mpr<|.inl m
  have m2:∀a,M2 a->G2 a:=λa m=>(z2.all a).mpr<|.inr m
  refine EA (F:=w) (F1:=λa=>M1 a\/G1 a) (F2:=M2) (L:=L) (mrg:=λ(b:B1)(l:S)(p:Bd C J×O)=>I (U.put b p.1) l p.2) (wf:=wf) (p:=(A.get b,p)) (b:=A.hole b) (l:=l) (us:=us) (σ:=k) (Kn:=W) (Ke:=M) s2 #[λa=>?_,λa m n=>?_,λa m n=>?_,λa m n=>Y.Kl a (m2 a m) n] #[some<|.ref a,vs.map some,M1,G1,rfl,⟨λ_=>Iff.rfl,λa m n=>Y.IQ a n<|m1 a m⟩,Ow.wk z3<|CY j L e,h1] z4 h3 (λb' l' L1 L2 L3 o f h G h3 h4 h5 t=>?_) q2 (λx r v M1 M2 f h q' c' N n=>kn x r v M1 M2 f h q' (Ch.trans s s2.tab c2 c') N n) λC y r o f h q' c' N=>ke C y r o f h q' (Ch.trans s s2.tab c2 c') N
  · rw[Y.all, z2.all]
    exact#[λz=>z.elim (λq=>.inl<|.inr q) λz=>z.elim 121 λq=>.inr<|.inr q,λz=>z.elim (λz=>z.elim (λq=>.inr<|.inl<|.inl q) .inl) λz=>z.elim (λq=>.inr<|.inl<|.inr q) λq=>.inr<|.inr q]
  · rcases m with m|m
    · exact z2.yE a m n
    · exact Y.IQ a m<|m2 a n
  · rcases m with m|m
    · exact Y.Kl a (m1 a m) n
    · exact Y.Kk a m n
  · refine e4a4 h3 λv' ab N1 N2 y1 Z y3 y4 => ?_
    injection y1 with y5 y6
    subst y5;subst y6
    have tt:DF (λa=>N1 a\/L2 a) N1 L2:=#[λ_=>Iff.rfl,λa m n=>t.IQ a ((Z.all a).mpr<|.inl m) n]
    refine km _ l' N2 (λa=>N1 a\/L2 a) L3 o f h G.2 y4 (Pt.same (A:=U) h4 hv tt y3) h5 #[λa=>?_,λa m n=>?_,λa m n=>t.Kk a ((Z.all a).mpr<|.inr m) n,λa m n=>?_]
    · rw[t.all, Z.all]
      exact#[λz=>z.elim (λz=>z.elim (λq=>.inr<|.inl<|.inl q) .inl) λz=>z.elim (λq=>.inr<|.inl<|.inr q) λq=>.inr<|.inr q,λz=>z.elim (λq=>.inl<|.inr q) λz=>z.elim 121 λq=>.inr<|.inr q]
    · rcases n with n|n
      · exact Z.yE a n m
      · exact t.IQ a ((Z.all a).mpr<|.inr m) n
    · rcases m with m|m
      · exact t.Kk a ((Z.all a).mpr<|.inl m) n
      · exact t.Kl a m n
def Q1{n:List iT}(i:Nat){s P h B q o:Type}[Sls s][Sls P][Sls h][Sls B][Sls q][Sls o][Lb o τ<|Bd C g×h]{j:B->o->h->D}{v:D->(P->B->o->Prop)->72->Prop}
 {r:Wf (Bd C g×P) τ (Bd C g×h)} [N:At i D (Bd C g) s] [A:At i B (Bd C g) q] [U:Pt i q (Bd C g) B] {k:Nat} {y:List Str}
 (F:vR X.prog X.w X.K X.mg X.base 122 k f G y (yK T r)) (O:wI k X.A) (Q:Bc X.K C) (R:Meth X.K C m f) (S:Binds X.K G y []) (W:Passes 122 X E) (Y:PE X (.Name x z) (vQ i))
 (H:∀a b c d u,(yV a b c d u g).lookup m=none)
 (I:∀{t:TA},PA X (e::n) t->PE X (.Call (.Attribute (.Name x z) m apos) (e::n) [] pos) (Gb C m (yK T r) [] E (vQ i) t)) (J:Lf X E T (e::n) j v) :
    EO X E T (.Call (.Attribute (.Name x z) m apos) (e::n) [] pos) (cM v r A.get λb l p=>j (U.put (A.hole b) p.1) l p.2):=by
  refine e1a2 J λZ L M=>?_
  exact#[_,I L,JJ i H M]
def Q2(i:Nat){h:Type}[Sls h]
 {j:Wf (Bd C e×Unit) τ (Bd C e×Unit)} [A:At i D (Bd C e) h] [U:Pt i h (Bd C e) D] {k:Nat} {B:List Str}
 (F:vR X.prog X.w X.K X.mg X.base 122 k f N B (yK T j)) (hr:wI k X.A) (cl:Bc X.K C) (hm:Meth X.K C m f) (hb:Binds X.K N B []) (hx:Passes 122 X E) (hn:PE X (.Name x G) (vQ i))
 (O:∀a b c d u,(yV a b c d u e).lookup m=none)
 (P:PE X (.Call (.Attribute (.Name x G) m apos) [] [] pos) (Gb C m (yK T j) [] E (vQ i) BC)) :
    EO X E T (.Call (.Attribute (.Name x G) m apos) [] [] pos) (λ(d:D)(o:τ->D->Prop) r=>j (A.get d,()) (λy l=>o y<|U.put (A.hole d) l.1)<|λC l=>r C<|U.put (A.hole d) l.1):=by
  refine#[_,P,λd F R S H o r Q s W Y Z=>?_]
  refine e3a4 (A.take s.rel) λv I M2 J z2 L z4=>?_
  obtain⟨a,dx,d1,d2,d3,d4,aa,rfl,_,g⟩:=id L
  refine#[_,J,a,dx,_,rfl,g.ob,O _ _ _ _ _,?_]
  refine QH (F:=F) (F1:=I) (F2:=M2) (mrg:=λ(b:h)(p:Bd C e×Unit)=>U.put b p.1) (wf:=j) (p:=(A.get d,())) (b:=A.hole d) (σ:=S) (Kn:=o) (Ke:=r) s.IP z2 #[some<|.ref a,[],I,λ_=>False,rfl,#[λ_=>#[.inl,λz=>z.elim id λq=>q.elim],λ_ _ z=>z],L,rfl,λ_ z=>z] z4 (λb' G1 G2 ab ae af l h1 h2 t=>?_) W Y Z
  refine e4a4 h1 λv' ag N1 N2 y1 M y3 y4=>?_
  injection y1 with y5 y6
  subst y5
  refine Pt.same (A:=U) h2 J #[λa=>?_,λa m n=>t.yE a ((M.all a).mpr<|.inl m) n] y3
  rw[t.all,M.all]
  exact#[λz=>z.elim (λz=>z.elim .inl λq=>ii q<|y4.2 a) .inr,λz=>z.elim (λq=>.inl<|.inl q) .inr]
def tw_trueO{wa:Wf D (OL α) D}(ha:EO X E T a wa)(he:∀whole,qW a X.env whole=(do let v <- whole;ng a.pos;k9 [v] (uE v)):=by intro _;rfl):TW X E T a (cK wa λKn xs d1=>Kn (!xs.l.isEmpty) d1):=by
 refine e1a2 ha λta a1 a2=>?_;refine#[_,Je a1 he,λd F R σ H Kn Ke Q s hw kn ke=>a2 d F R σ H _ Ke _ s hw (λxs d1 u F1 F2 R1 H1 q1 c1 s1 n1=>?_) ke];refine e2a4 n1.is λb vs e _ h3 h4=>?_;cases e;refine#[!vs.isEmpty,.inl #[vs,wD.of h3,rfl],?_];obtain⟨l⟩:=xs
 have:vs.isEmpty=l.isEmpty:=by
  cases h4<;>rfl
 rw[this];exact kn _ d1 F2 R1 H1 q1 (c1.less λ_ z=>.inr z) s1
def Q3{c:Wf D (Tp α) D}(h:Gl X "list")(i:X.mg "list"=none)(j:EW X E T a c)(e:gX [a] X.env=79::gX [] X.env:=by rfl) :
  EO X E T (.Call (.Name "list" p) [a] [] pos) (cK c λ(f:OL α->D->Prop) t b=>f #[t.l] b):=by
 refine e1a2 j λN k m=>?_;refine#[_,xT yH h i ki (vn k vB e) (he:=e),λd F R n H f o Q s r v w=>m d F R n H _ o _ s r (λt b u x O P y z g A=>?_) w];obtain⟨q,S,rfl,_,B,C⟩:=A;refine#[_,_,rfl,.inr<|zn.of B,λl G=>?_];refine e1a3 (xW g G C) λI J L M=>?_;exact v _ b _ _ x I _ y (Ch.trans s g.tab z J) L M
def U1(m:Gl X "tuple")(n:X.mg "tuple"=none)(o:ER X E T a r)(e:gX [a] X.env=79::gX [] X.env:=by rfl) :
  EW X E T (.Call (.Name "tuple" p) [a] [] pos) (cK r λ(f:Tp α->D->Prop) g b=>f #[g b] b):=by
 refine e1a2 o λP t v=>?_;refine#[_,xT FK m n qP (vn t vB e) (he:=e),λd F R w H f x Q s y z A=>v d F R w H _ x _ s y (λg b u h i B C G c I=>?_) A];obtain⟨q,j,rfl,J,L⟩:=I b h i B 61 c;refine#[_,_,rfl,.inl #[wD.of J,λl M=>?_]];refine e0a3 (c.new (.tup j) M) λN k O=>?_;exact z _ b _ h i _ C (Ch.trans s c.tab G k) N #[l,j,rfl,O,vh,c.vals k L]
def ints_of{R:Rg}{H:Hp}:∀{xs:List Int} {vs:List V},Paired (rp R H) xs vs->vs=xs.map V.int:=by
 intro _ _ z
 induction z with
 |nil=>rfl
 |cons h t ih=>rw[show _=V.int _ from h,ih];rfl
def tw_inT{a b:iT}{wa:Wf D Int D}{wb:Wf D (Tp Int) D}(ha:EW X E T a wa)(hb:EW X E T b wb)(hm:jd .In b=false) :
  TW X E T (.Compare a [.In] [b] pos) (cB wa wb λk Kn t d2=>Kn (decide<|k∈t.l) d2):=by
 refine e1a2 ha λta a1 a2=>?_;refine e1a2 hb λtb b1 b2=>?_;refine#[_,yf Ge a1 b1 hm,λd F R σ H Kn Ke Q s hw kn ke=>a2 d F R σ H _ Ke _ s hw (λk d1 u F1 R1 H1 q1 c1 s1 r1=>?_) ke];refine b2 d1 F1 R1 σ H1 _ Ke _ s1 q1 (λt d2 v F2 R2 H2 q2 c2 s2 r2=>?_) λC y d' F' R' H' k c s'=>ke C y d' F' R' H' k (Ch.trans s s1.tab c1 c) s';subst r1;obtain⟨l⟩:=t;obtain⟨q,us,rfl,_,h1,h2⟩:=r2;have e:=ints_of (xs:=l) h2;subst e;refine#[q,_,rfl,.inr<|zn.of h1,rfl,A4 _,_,rfl,?_];rw[ci h8,B5];exact kn _ d2 F2 R2 H2 q2 (Ch.trans s s1.tab c1 c2) s2
def EN{c:iT}{body:List iB}{mb:List Nat}{D2:Type}[Sls D2]{U:Wf D Bool D}{Y:D->(D2->Prop)->101->85->Prop}[Z:Fg D2 D][J:Pj D PO n](I:TR PO ms n)(hp:rV 28 X.A X.env X.xe)
  (hc:TW X E T c U) (hb:SW X E T mb n body Y) (z:∀i∈ms,i∈mb) :
  S1 X E T ms n (.While c body [] pos) (cW U Y Z.fg J.pj):=by
 refine e1a2 hc λtc c1 c2=>?_;refine e1a2 hb λtb b1 b2=>?_;refine#[_,Pr hp c1 b1,λd F R σ H Kn Kr Ke En s hw kn kr ke=>?_];obtain⟨W,⟨m0,w0⟩,r⟩:=hw;refine#[λm e H1=>∃k G l,Ch T F R H G l H1/\wq T G l H1 k e/\Ag mb σ e/\W m k,#[m0,d,F,R,Ch.refl _ _ _ _,s,Ag.refl _ _,w0],?_];rintro m e H1 ⟨k,G,l,k1,L,g1,w1⟩;refine c2 k G l e H1 _ _ _ L (r m k w1) (λb d2 G2 R2 H2 q2 k2 t=>?_) λC y d' F' R' u q c s'=>?_
 ·have j:=Ch.trans s L.tab k1 k2
  cases b with
  |false=>exact kn d2 G2 R2 H2 e q2 j t<|g1.sub z
  |true =>
   refine#[λo u=>∃B,B<m/\∃k G l,Ch T F R H G l u/\wq T G l u k o/\Ag mb σ o/\W B k,λo u h=>h,?_];refine b2 d2 G2 R2 e H2 _ Kr Ke _ t q2 (λd3 G3 R3 H3 aa q3 k3 p g3=>?_) (λx M v M1 M2 N H4 O P f n4=>?_) λC y M F4 N H4 O P f=>?_
   ·refine e1a2 q3 λB hm w3=>?_;refine e1a2 (Z.le p.rel) λG5 Q r5=>?_;exact#[B,hm,_,G5,R3,(Ch.trans s t.tab j k3).less Q,#[r5,λa h=>p.sub a<|Q a h,p.xD,p.tab,p.v4,λh=>p.vS<|Q T h],g1.trans g3,w3]
   ·exact kr x M v M1 M2 N H4 O (Ch.trans s t.tab j P) #[I.dp (g1.sub z) f.rel,f.sub,f.xD,f.tab,f.v4,f.vS] n4
   ·exact ke C y M F4 N H4 O (Ch.trans s t.tab j P) #[I.dp (g1.sub z) f.rel,f.sub,f.xD,f.tab,f.v4,f.vS]
 ·refine e1a2 (wR (PO:=PO) s') λG' S g=>?_;exact ke C y _ G' R' u q ((Ch.trans s L.tab k1 c).less S) #[I.dp (g1.sub z) g.rel,g.sub,g.xD,g.tab,g.v4,g.vS]
end
open PyProof.Rows hiding K
noncomputable def Ite(K:gW)(a:gV):It :=
 #[λi H=>∃b x,wD K H a b/\b[i]?=↑x,λi H v c=>∃p x,v=.ref p/\H p=none/\c=upd H p (.tup [.int i,x])/\∀b,wD K H a b->b[i]?=↑x,λi H=>∃b,wD K H a b/\b.length<=i]
def U4{t':Nat}{xs:List V}{nh:Nat}(I:Inv X d y H s)(i:By X d H e)(j:By X d H l)(x:⇑s<=a)(k:∀b o,b≠e->b≠l->s.heap.get? b=↑o->h'.get? b=↑o)(A:xs.length<=hJ)(r:Vals xs us)(B:IsTup h' a us.toArray) :
  Inv X d y (upd H a<|.tup xs) { s with heap:=h',toks:=t'}:=by
 have C:=I.vW.fresh x;have f:∀b u,H b=↑u->b≠e/\b≠l:=λb u q=>#[λz=>(by rw[z,i.1]at q;cases q),λz=>(by rw[z,j.1]at q;cases q)];have t:∀b o,b∉[e,l]->s.heap.get? b=↑o->h'.get? b=↑o:=λb o h q=>k b o (λz=>h<|by simp[z]) (λz=>h<|by simp[z]) q;have p:∀{b u},H b=some u->upd H a (.tup xs) b=some u:=λ{b u} q=>by rw[ve<|vq q C];exact q
 refine I.step (g':=s.gens) (d':=s.drawn) (ch:=[e,l]) (λb h=>?_) (λb o _ _ g q _=>t b o g q) (λb o _ _ g q _=>#[o.slots,t b o g q]) (λb o g q n=>?_)
  (λb o g q=>#[o,t b o g q]) (λ_ _ q=>p q) (λ_ _ _ q=>p q) (λb J q=>#[#v[],by rw[p q];simp]) (λm D=>?_) (λb u q=>?_) I.bare
 ·rcases List.mem_cons.mp h with z|z
  ·subst z;exact#[i.2.2.2.1,i.2.1,i.2.2.2.2.1,i.2.2.2.2.2]
  ·have z:b=l:=by simpa using z
   subst z;exact#[j.2.2.2.1,j.2.1,j.2.2.2.2.1,j.2.2.2.2.2]
 ·rw[ve<|λz=>ii (hV q)<|by rw[z];exact Nat.not_lt.mpr x];exact n
 ·refine e3a2 D λo E F G r=>?_;exact#[o,E,F,k _ o (Ne.symm i.2.1) (Ne.symm j.2.1) G,r]
 ·by_cases h:b=a
  ·subst h;rw[vh]at q;cases q;exact#[A,us,r,B]
  ·rw[ve h]at q;refine(I.vW b u q).DB (λc v g w=>?_) (λc w=>p w) λc L w=>p w;rcases g with z|z
   ·rw[z]at w ⊢;exact k b v (f b u q).1 (f b u q).2 w
   ·exact k c v (f c _ z).1 (f c _ z).2 w
def Op{K:gW}{x1}(a e it:gV)(hne:e≠it):Turn P w K (.Tuple els x1 tp) (Ite K a) [e,it] e (λi h=>(∃old,IsEnum h e it i old)/\h.IsListIter it a i) where
 mem:=by simp
 obj:=λi h st b hb=>by
  obtain⟨⟨old,h1⟩,⟨o,h2,c,d⟩⟩:=st;rcases List.mem_cons.mp hb with z|z
  ·subst z
   exact#[_,h1,λv z=>by
    have z':tR _=Data.cell v:=z
    cases z']
  ·have z:b=it:=by simpa using z
   subst z;exact#[o,h2,λv z=>by rw[d]at z;cases z]
 keep:=λi h h' st k=>#[e1a1 st.1 λold h1=> #[old,k e q0o _ h1],st.2.at λo q=>k it q0o o q]
 item:=by
  intro X hP hw hK hc i pins s σ H E I hf st hg;subst hP hw hK;refine e2a2 hg λxs x hq hx=>?_;refine e1a3 (I.list hq) λAi rv p hz=>?_;refine e1a2 (rv.get hx) λu hu ru=>?_;obtain⟨⟨old,h1⟩,h2⟩:=st;have fe:=hf e q0o;have fi:=hf it q0o;refine wpAny_pyNext_enum_item h1 h2 p.isList (x:=u) (by simpa using hu) hne λh' a1 a2 a3 a4 a5=>#[_,rfl,wpAny_letOwnedTupleGo_enum a1 λh2' b1 b2=>?_];have hel:e<⇑s:=hV h1;have t2:h2'.get? ⇑s=some { cls:=.type "tuple",data:=.seq #v[.int i s.toks,u]}:=b2.extBut _ _ (jv hel) a3;refine#[.ref ⇑s,upd H ⇑s<|.tup [.int i,x],U4 (s:=s) (h':=h2') (t':=s.toks+1) (xs:=[.int i,x]) (us:=[.int i s.toks,u]) (nh:=0) I fe fi (gZ _) (λb o n1 n2 q=>b2.extBut b o n1<|a5 b o n1 n2 q) (by show 2<=hJ;decide) (.cons ⟨_,rfl⟩<|.cons ru .nil) ⟨_,t2,rfl,_,rfl⟩,rfl,⟨_,x,rfl,I.vW.fresh<|gZ _,rfl,λys hy=>by rw[I.Jb hy hq];exact hx⟩,#[#[_,b1],a2.extBut b2.extBut<|Ne.symm hne],λb hb=>?_];rw[ve]
  ·exact(hf b hb).1
  ·refine e1a2 h2 λo ho _=>?_;rcases List.mem_cons.mp hb with z|z
   ·rw[z];exact ij hel
   ·have z:b=it:=by simpa using z
    rw[z];exact ij<|hV ho
 done:=by intro X hP hw hK hc i pins s σ H E I hf st hg;subst hP hw hK;refine e1a2 hg λxs hq hx=>?_;refine e1a3 (I.list hq) λAi rv p hz=>?_;obtain⟨⟨old,h1⟩,h2⟩:=st;refine e0a6 (hf it q0o) λf0 f1 f2 f3 f4 f5=>?_;have hl:=rv.length;exact wpAny_pyNext_enum_end (I.ok.hd hc) h1 h2 p.isList (by simp;lia) λh' eb=>93
 self:=λ_ _ _ _ _ st h=>wpAny_pyIter_enum st.1.choose_spec h
section
variable{D:Type}[Sls D]{α:Type}[Rep α]
def a0u(K:gW)(c:TA):TI:=λd H R=>c d H λe b=>∃a,e=[.ref a]/\(∃f,wD K b a f)/\R (Ite K a) b
def U5{i}(j:Gl X "enumerate")(k:X.mg "enumerate"=none)(l:PA X [a] m)(n:gX [a] X.env=[79]:=by rfl):PI X (.Tuple o i G) (.Call (.Name "enumerate" p) [a] [] pos) (a0u X.K m):=by
 intro d s t H R I h;refine PyProof.Rows.Call_<|zF I j k PyProof.Rows.boot_enumerate<|kh (vU (l pos d s t H _ I h) λJ c u=>e2a3 u λL v f w x=>?_) n rfl;obtain⟨a,e,⟨M,y⟩,q⟩:=x;subst e
 cases w with
 |cons r A =>
  cases A;cases r;refine e1a3 (f.list y) λB N p O=>?_;refine call_enumerate_list p.isList λP g C Q E=>?_;refine wpAny_pyIter_enum g ?_;refine#[⇑c+1,[⇑c+1,⇑c],_,_,v,rfl,f.kept (t':=c.toks) E,Op a _ _<|jv<|jE _,⟨⟨_,g⟩,C⟩,λb F=>?_,q]
  have e:⇑c<=b:=by
   rcases List.mem_cons.mp F with z|z
   ·rw[z];exact md _
   ·have z:b=⇑c:=by simpa using z
    rw[z];exact gZ _
  exact f.GO e<|f.vW.fresh e
noncomputable def Oq:Nat->List α->List (Int×α)
 |_,[]=>[]
 |k,x::r=>((k:Int),x)::Oq (k+1) r
def DU:∀(k:Nat)(a:List α),(Oq k a).length=a.length
 |_,[]=>rfl
 |k,x::r=>by show (Oq (k+1) r).length+1=r.length+1;rw[DU (k+1) r]
def M4:∀(k:Nat)(a:List α)(i:Nat),(Oq k a)[i]?=(a[i]?).map λx=>(((k+i:Nat):Int),x)
 |_,[],_=>by simp[Oq]
 |k,x::r,0=>by simp[Oq]
 |k,x::r,i+1=>by
  show (((k:Int),x)::Oq (k+1) r)[i+1]?=_;rw[sJ,sJ,M4 (k+1) r i];congr 1
  funext y
  rw[show k+1+i=k+(i+1) by lia]
def EQ{K:gW}{xs:List α}{vs:List V}:Zj (Ite K a) (Oq 0 xs) (λR H=>H a=↑(.lst vs)/\Paired (rp R H) xs vs) where
 go:=λ{R H i} p h=>by rw[DU]at h;obtain⟨v,e,_⟩:=xi (i:=i) (x:=xs[i]) p.2 (by simp[h]);exact#[vs,v,wD.of p.1,e]
 IN:=λ{R H i v H'} p xD hi y=>by rw[DU]at hi;obtain⟨q,w,e,hq,e',y⟩:=y;subst e e';have y':=y vs<|wD.of p.1;obtain⟨u,e,r⟩:=xi (i:=i) (x:=xs[i]) p.2 (by simp[hi]);rw[y']at e;cases e;have ex:Ext R R H R (upd H q<|.tup [.int i,w]):=⟨λb o _ z=>by rw[ve<|vq z hq];exact z,λ_ z=>.inl z⟩;refine#[.inr #[q,_,hq,rfl],((i:Int),xs[i]),?_,q,.int i,w,rfl,λz=>xD q z hq,vh,rfl,Rep.st r ex];rw[M4,jD hi,tz];rfl
 stop:=λ{R H} p=>#[vs,wD.of p.1,by rw[DU,Paired.length p.2];exact gZ _]
def U6{i:List iT}{A}{w:Wf D (List α) D}(B:Gl X "enumerate")(C:X.mg "enumerate"=none)(h:EW X E T e w)(G:gX [e] X.env=67::gX [] X.env:=by rfl)(j:gX [e] X.env=[67]:=by rfl) :
  IW X E T is (.Tuple i A tp) (.Call (.Name "enumerate" p) [e] [] pos) (λ(b:D) (_:List (Int×α))=>b) (cK w λo f k=>o (Oq 0 f) k):=by
 refine e1a2 h λt I J=>?_;refine#[_,U5 B C (vn I vB G) j,λd F R L H o Ke Rk s M N O=>J d F R L H _ _ _ s M (λf k v l P Q q c u r=>?_) O];obtain⟨a,m,rfl,S,x,U⟩:=r;refine#[a,rfl,#[m,wD.of x],N (Oq 0 f) k _ (λR H=>(H a=↑(.lst m)/\Paired (rp R H) f m)/\¬R a) l (λ_=>False) l P Q q c u.IP (two_nil l) u.rel #[λp=>EQ.go p.1,λp=>EQ.IN p.1,λp=>EQ.stop p.1] #[#[x,U],S] (λp y nf n=>?_) λb' G2 W Y Z aa p h g t=>Sls.fq h<|two_eq t λ_ z=>z];have na:¬_:=λz=>p.2<|y a z;exact#[#[n.keep a _ na p.1.1,wz (n.wide y) p.1.2],n.not p.2 p.1.1]
end
def Hu(C:gV):Sp:=λf H Q E=>∃p e,f=[.ref p]/\H p=↑(.ins C e []) /\
 ∀c d a,H c=none->H d=none->c≠d->a p=↑(.ins C e<|yV c d 0 0 0 false)->a c=↑(.dK [])->a d=↑(.dK [])->(∀b o,b≠p->H b=↑o->a b=↑o)->Q .wP a
def U7{C:gV}{m:iB}{k:Nat}(F:y9 K "__init__" i m f D)(S:vm ["self"] ["self"] (vd m))(g:A7 K C)
 (j:∀(d:cr)(A:jF)(a:List Env)(s:hR)(H:Hp)(E:XK),FF (v6 (vX P w) P w K G base ["self"] i (vd m) f d A a s H E) (vP m)<|Kt (NR K (vQ 0) Ej "ranks")<|Kt (NR K (vQ 0) Ej "borders")<|NR K (vQ 0) (tC<|.int 0) "upcoming") :
    vR P w K G base (vX P w) (k+1) f D ["self"] (Hu C):=by
  obtain⟨T,U,W,I,X,Y,d,J,L,rfl,lk,t⟩:=F.ex
  refine Jj lk t S (λM H Q E N=>e2a2 N λp l e _=>by rw[e];rfl) λO a s H M Q E Z u=>#[_,j d O a s H E,?_]
  obtain⟨p,l,rfl,B,k⟩:=u
  intro h v
  have n:p≠h:=vq B v
  have R:upd H h (.dK []) p=↑(.ins C l []):=by rw[ve n];exact B
  refine#[_,rfl,p,C,l,[],rfl,R,g.cl,g.nR,q0q,?_]
  intro q c
  have r:p≠q:=λz=>by rw[<- z,vh]at c;cases c
  rw[ve r.symm]at c
  have x:q≠h:=λz=>by rw[z,vh]at c;cases c
  rw[ve x]at c
  refine#[_,rfl,p,C,l,[("ranks",.ref h)],rfl,?_,g.cl,g.nB,(by show 1<1000;decide),?_]
  · rw[ve r, vh]
    rfl
  refine#[_,rfl,p,C,l,[("ranks",.ref h),("borders",.ref q)],rfl,?_,g.cl,g.nU,(by show 2<1000;decide),?_]
  · rw[vh]
    rfl
  refine k h q _ v c x.symm ?_ ?_ ?_ λb o y j=>?_
  · rw[vh]
    rfl
  · rw[ve n.symm, ve n.symm, ve x.symm, ve n.symm, vh]
  · rw[ve r.symm, ve r.symm, vh]
  · rw[ve y, ve y, ve<|vq j c, ve y, ve<|vq j v]
    exact j
structure Mf(K:gW)(C:gV)(m qual:Str)(st:iB)(ps:List Str)(f:gV)(fd:iQ):Prop where
 fn:y9 K m qual st f fd
 me:Meth K C m f
 bd:Binds K fd ps []
structure Xc(K:gW)(mg:Str->Option cr)(x:Str)(C:gV):Prop where
 ex:∃(DG:List cr)(B newId yA:String),mg x=↑(.ref C)/\jz K C DG newId=true/\kO B newId yA DG
 g0:∀H',GX.g C none H'
def Cd{k:Nat}(r:wI k A):A.units+1<kT:=jM (Nat.add_le_add_left q0q _) r.units
noncomputable def a2G(s:iB):List iB:=match s with
 | .ClassDef _ _ _ body _ _ _ _ _ _ _=>body
 |_=>[]
noncomputable def Bf(s:iB)(i:Nat):iB:=(a2G s).getD i<|.Pass #[0,0,0,0]
section
variable{D D' PO τ:Type}[Sls D][Sls D'][Sls PO][Ow τ]
def Ce{k:Nat}{C:gV}[J:Pj D PO n](r:Gl 87 x)(h:Xc K e x C)(l:(x==66)=false:=by decide)
 (q:gX [.Constant (.str m) k mp] (87).env=(false,eval (.Constant (.str m) k mp) (87).env)::gX [] (87).env:=by rfl)
 (o:(jx i<|gX [] (87).env).any (·.1)=false:=by rfl) :
    S1 87 E T z n (.Raise (some<|.Call (.Name x np) [.Constant (.str m) k mp] [] i) none pos) (λ(d:D)(_:D'->Prop)(_:τ->PO->Prop) t=>t C<|J.pj d):=by
  obtain⟨u,B,p,j,v,O,y⟩:=h.ex
  exact EH<|Eu r v O y h.g0 (vn GN vB q) l q o
end
section
variable{D:Type}[Sls D]
def Q4{i:Int}(b:Gl X x)(c:X.mg x=↑(.int i t))(e:(x==66)=false:=by decide):EW X E T 97 (λ(d:D)(a:Int->D->Prop) _=>a i d) :=
 #[_,T1 (v:=.int i) b c #[t,rfl] e,λd F R h H a j Q s f g _=>g i d _ F R H f 61 s rfl]
end
noncomputable def Sf(f:Int->List Int)(x:Int):List Int->Bool
 | []=>false
 |c::l=>xor (decide<|x∈f c)<|Sf f x l
def Hv{x:Int}{a:List Int}(p:a.Perm b):Sf f x a=Sf f x b:=by
 induction p with
 |nil=>rfl
 |cons c _ e=>show xor _ _=xor _ _;rw[e]
 |swap c d l=>show xor _ (xor _ _)=xor _ (xor _ _);rw[<- lZ,<- lZ,Bool.xor_comm<|decide<|x∈f d]
 |trans _ _ g h=>exact g.trans h
def Yw{x k:Int}(h:wX l):Sf f x (Lk l k)=xor (decide<|x∈f k) (Sf f x l):=by
 by_cases q:k∈l
 ·have e:Lk l k=Li k l:=gU q
  have p:l.Perm (k::Li k l):=by
   refine wC (vr h) (List.nodup_cons.mpr #[λz=>(AB.mp z).2 rfl,vr<|jQ _ h]) λy=>?_;rw[iD,AB];by_cases z:y=k
   ·rw[z];simp[q]
   ·simp[z]
  rw[e,Hv p];show _=xor _ (xor _ _);rw[<- lZ,Bool.xor_self,oh]
 ·have e:Lk l k=FR k l:=ci q
  have p:(FR k l).Perm (k::l):=by refine wC (vr<|DQ h) (List.nodup_cons.mpr ⟨q,vr h⟩) λy=>?_;rw[iD,Ca]
  rw[e,Hv p];rfl
def Q5{x:Int}:∀{b a:List Int},wX a->Sf f x (xr a b)=xor (Sf f x a) (Sf f x b)
 | [],a,_=>by show Sf f x a=xor _ false;rw[oi]
 |k::b,a,h=>by show Sf f x (xr (Lk a k) b)=xor (Sf f x a) (xor (decide<|x∈f k)<|Sf f x b);rw[Q5<|M0 h,Yw h,<- lZ,Bool.xor_comm<|Sf f x a]
def Q6{x:Int}:∀{l:List Int} {a:List Int},(∀c∈l,(f c).Nodup)->decide (x∈(l.map f).foldl xr a)=xor (decide<|x∈a) (Sf f x l):=by
 intro d
 induction d with
 |nil=>intro a _;show decide (x∈a)=xor _ false;rw[oi]
 |cons c l b =>
  intro a h;show decide (x∈(l.map f).foldl xr (xr a<|f c))=xor _ (xor _ _);rw[b<|λy g=>h y<|hI _ g,<- lZ];congr 1;have e:=zk (l:=a) (x:=x)<|h c gY;by_cases p:x∈a<;>by_cases q:x∈f c<;>simp[p,q,e]
noncomputable def wg(f:Int->List Int)(l:List Int):List Int:=Pg<|l.map f
def wV{x:Int}(h:∀c∈l,(f c).Nodup):decide (x∈wg f l)=Sf f x l:=by unfold wg Pg;rw[Q6 h];rw[ik q0o,oh]
def vZ(f:Int->List Int)(l:List Int):wX (wg f l):=UW _
def AD(c:wX a)(d:wX b)(h:∀x,decide (x∈a)=decide (x∈b)):a=b:=Ho c d λk=>by have:=h k;by_cases p:k∈a<;>by_cases q:k∈b<;>simp[p,q]at this ⊢
def ES{x:Int}(h:∀c∈l,(f c).Nodup)(a:x∈wg f l):∃c∈l,x∈f c:=by
 have e:=wV (x:=x) h;rw[decide_eq_true a]at e;clear a
 induction l with
 |nil=>cases e
 |cons c l b =>
  by_cases q:x∈f c
  ·exact#[c,gY,q]
  ·have e:true=xor (decide<|x∈f c) (Sf f x l):=e;rw[ik q,oh]at e;obtain⟨d,g,i⟩:=b (λy j=>h y<|hI _ j) e;exact#[d,hI _ g,i]
def Cf(h:wX a)(i:wX b)(d:∀c∈a,(f c).Nodup)(g:∀c∈b,(f c).Nodup):wg f (xr a b)=xr (wg f a) (wg f b) :=
 AD (vZ _ _) (wY<|vZ _ _) λx=>by rw[wV λc j=>(EI (vr i) j).elim (d c)<|g c,Q5 h,<- wV d,<- wV g];have e:=zk (l:=wg f a) (x:=x)<|vr<|vZ f b;by_cases p:x∈wg f a<;>by_cases q:x∈wg f b<;>simp[p,q,e]
def M5{x:Int}:∀{l a:List Int},wX a->(∀c∈l,wX (f c)/\Sf f x (f c)=false)->Sf f x ((l.map f).foldl xr a)=Sf f x a
 | [],_,_,_=>rfl
 |c::l,a,b,h=>by show Sf f x ((l.map f).foldl xr<|xr a<|f c)=_;rw[M5 (wY b) λy d=>h y<|hI _ d,Q5 b,(h c gY).2,oi]
def Ot(h:∀c∈l,wX (f c)/\(∀d∈f c,(f d).Nodup)/\wg f (f c)=[]):wg f (wg f l)=[] :=
 AD (vZ _ _) iG λx=>by
  rw[wV,ik q0o]
  ·exact M5 (x:=x) (l:=l) iG λc a=>#[(h c a).1,by rw[<- wV (h c a).2.1,(h c a).2.2];rfl]
  ·intro d b;obtain⟨c,a,b⟩:=ES (λc a=>vr (h c a).1) b;exact(h c a).2.1 d b
def xY(h:∀c∈l,f c=g c):wg f l=wg g l:=by unfold wg;rw[mw h]
structure JK(K:gW) where
def Q7(K:gW)(R:Rg)(H:Hp)(a:gV)(c:List Int):Prop :=
 (¬R a/\Rd H a (.lst<|c.map V.int))\/∃(o:qQ)(b:Array cr)(n:Nat),K.lookup a=↑o/\o.cls=.type "list"/\o.dict=none/\o.data=.seq b n/\b.size<=hJ/\Vals (c.map V.int) b.toList
def Q7.sq{K:gW}(h:Q7 K R H a b):wD K H a (b.map V.int):=h.elim (λz=>.inl z.2) .inr
instance(K:gW):Rep (JK K):=#[λR H _ v=>∃a ns,v=.ref a/\Q7 K R H a ns,λ{R H R' H' x v} h e=>by
 refine e2a2 h λa ns h1 h2=>?_;refine#[a,ns,h1,?_];rcases h2 with⟨n,r⟩|r
 ·rcases r with r|⟨o,r⟩
  ·exact .inl #[e.not n r,.inl<|e.keep a _ n r]
  ·exact .inl #[e.not n r,.inr #[o,e.keep a _ n r]]
 ·exact .inr r]
def WV(K:gW):Sp:=λd H Q _=>∃(a:gV)(e:List Int),d=[.ref a]/\wD K H a (e.map V.int)/\∀b g q c s,DE H b->Dv b g q c 0 0 s->H g=none->H q=none->Q (.ref g) b
def Q8(K:gW):Wf (JK K×Unit) Bg (Un×Unit):=λ_ a _=>a #[] (#[],())
def WX(K:gW):Wf (JK K×Unit) Bool (Un×Unit):=λ_ a _=>a true (#[],())
def a0v(F:vR P w K y base Qa k f A C (WV K)):vR P w K y base (vX P w) k f A C (yK T<|Q8 K) :=
 (WT F).imp λD H Q E G=>e5a4 G λF R p Kn Ke s I J _=>by
  obtain⟨v,L,F1,F2,d,h2,⟨n1,u,e,a,M,N,O⟩,S⟩:=s.rel;subst e N
  match D,d with
  | [],d=>cases d
  |x::r,d =>
   injection d with U W;cases U
   have X:r=[]:=by have:=S.1;rw[<- W]at this;exact List.map_eq_nil_iff.mp this
   subst X;refine#[a,M,rfl,O.sq,λn g q j Y i B l m=>?_];have Z:Ext (λ_=>False) R H (λc=>R c\/c=g\/c=q) n:=#[λb o _ h=>i b o h,λc h=>h.elim .inl λz=>.inr<|z.elim (λz=>by rw[z];exact l) λz=>by rw[z];exact m];refine J #[] (#[],()) (.ref g) (λc=>c=g\/c=q) (λ_=>False) (λc=>R c\/c=g\/c=q) n I #[λb o _ _ h=>i b o h,Z.new,λc h=>h.elim (λz=>.inr<|z.elim (λz=>by rw[z];exact l) λz=>by rw[z];exact m) λz=>z.elim,λc h _=>.inl h] #[#[some<|.ref a,[],λ_=>False,λ_=>False,rfl,#[λ_=>#[λz=>z.elim,λz=>z.elim id id],λ_ z _=>z],λ_ z=>z,rfl,λ_ z=>z],λ_ z=>z.elim,λc h=>?_,?_,.inl s.v4,λz=>z] #[#[g,q,j,0,0,Y,rfl,λ_=>Iff.rfl,B],λc h=>.inr h,λ_ _ z=>z,λz=>?_]
   ·rcases h with h|h|h
    ·cases e:H c with
     |none=>exact ii e<|s.xD c h
     |some o=>rw[i c o e];simp
    ·rw[h,B.ob];simp
    ·rw[h,B.sc];simp
   ·refine e1a2 s.tab λqs e t=>?_;exact#[qs,i _ _ e,t]
   ·have:=zu s.tab;rcases z with z|z
    ·rw[z]at this;exact this l
    ·rw[z]at this;exact this m
def M6(K:gW)(b:gV):Sp:=λc H Q _=>∃(a:gV)(d:List Int),c=[.ref a]/\wD K H a (d.map V.int)/\TabAt H b/\∀e,Q (.bl true) e
def a0w(F:vR P w K g base (vX P w) k f i j (yK T<|WX K)):vR P w K g base (vX P w) k f i j (M6 K T) :=
 F.imp λB H Q E l=>e2a4 l λa m e p b s=>by
  subst e;refine#[λ_=>False,λc=>c=T,(#[],()),λx _=>x=true,λ_ _=>False,#[#[some<|.ref a,[],λ_=>False,λ_=>False,rfl,#[λ_=>#[λz=>z.elim,λz=>z.elim id id],λ_ z _=>z],#[λ_ z=>z,_,rfl,a,m,rfl,?_],rfl,λ_ z=>z],λ_ z=>z.elim,λc h=>by rw[h];exact zu b,b,rfl,λz=>z],rfl,λx t v D G A d q c I n=>?_,λC y t J A d q=>q.elim]
  ·rcases p with r|r
   ·refine .inl #[λz=>?_,r];refine e1a2 b λL e _=>?_;rcases r with r|⟨o,r⟩
    ·rw[z,e]at r;cases r
    ·rw[z,e]at r;cases r
   ·exact .inr r
  ·obtain⟨_,u,e,r⟩:=n.is;cases e;rw[r,q];exact s d
def a0x(F:vR P w K d base (vX P w) k f g i c)(h:∀b H Q E,c b H Q E->c b H Q XF):vR P w K d base Qa k f g i c :=
 #[F.len,λA a s H args j b Q E l m n o p=>j7 (F.run A a s H args j b Q XF l m n o (h _ _ _ _ p)) λr t z=>by
  cases r with
  |error e =>
   obtain⟨_,_,_,_,_,z⟩:=z;exact z.elim
  |ok q =>
   cases q with
   |ret u=>exact z
   |next=>exact iL z
   |brk=>exact iL z
   |cont=>exact iL z]
structure Fk(P:iJ)(w:jb)(K:gW)(mg:Str->Option cr)(base:iX)(T:gV)(x:Str)(ps:List Str){A PO τ:Type}[Sls A][Sls PO][Ow τ](wf:Wf A τ PO)(k:Nat) where
 f:gV
 fd:iQ
 ok:vR P w K mg base (vX P w) k f fd ps (yK T wf)
 at_:mg x=↑(.ref f)
 kp:jt K (.ref f)=true
 bd:Binds K fd ps []
structure Fm(P:iJ)(w:jb)(K:gW)(mg:Str->Option cr)(base:iX)(T C:gV)(m:Str)(ps:List Str){A PO τ:Type}[Sls A][Sls PO][Ow τ](wf:Wf A τ PO)(k:Nat) where
 f:gV
 fd:iQ
 ok:vR P w K mg base (vX P w) k f fd ps (yK T wf)
 me:Meth K C m f
 bd:Binds K fd ps []
section
variable{P:iJ}{w:jb}{K:gW}{mg:Str->Option cr}{base:iX}{T C f:gV}{fd:iQ}{x:Str}{ps:List Str}{A PO τ:Type}[Sls A][Sls PO][Ow τ]{wf:Wf A τ PO}{j k:Nat}
noncomputable def Fk.up(h:Fk P w K mg base T x ps wf j)(l:j<=k:=by decide):Fk P w K mg base T x ps wf k:=#[h.f,h.fd,h.ok.mono l,h.at_,h.kp,h.bd]
noncomputable def Fm.up(h:Fm P w K mg base T C x ps wf j)(l:j<=k:=by decide):Fm P w K mg base T C x ps wf k:=#[h.f,h.fd,h.ok.mono l,h.me,h.bd]
end
section
variable{D:Type}[Sls D]
def vA{P c B g i:Type}[Sls P][Sls c][Sls B][Sls g][Ow i][Lb g i c]{a:B->g->c->D}{o:Wf P i c}{q:D->(P->B->g->Prop)->72->Prop}{k:Nat}{s:List Str}{f:List iT}
 (h:Fk X.prog X.w X.K X.mg X.base T x s o k) (t:Lf X E T (e::f) a q) (u:wI k X.A:=by assumption) (v:Gl X x:=by exact rfl) (y:Passes 122 X E:=by exact Bp) (j:(x==66)=false:=by decide) (z:gX (e::f) X.env=67::gX f X.env:=by rfl) (m:(jx pos<|gX f X.env).any (·.1)=false:=by rfl) :
    EO X E T (.Call (.Name x p) (e::f) [] pos) (λ(d:D)(F:i->D->Prop) r=>q d (λp b l=>o p (λx n=>F x<|a b l n)<|λC n=>r C<|a b l n) r):=B6 h.ok u v h.at_ h.kp h.bd y t j z m
variable{τ:Type}[Ow τ]
def wy{g:List iT}(i:Nat){z P o B s r:Type}[Sls z][Sls P][Sls o][Sls B][Sls s][Sls r][Lb r τ<|Bd C j×o]{n:B->r->o->D}{F:D->(P->B->r->Prop)->72->Prop}
 {G:Wf (Bd C j×P) τ (Bd C j×o)} [A0:At i D (Bd C j) z] [A:At i B (Bd C j) s] [U:Pt i s (Bd C j) B] {k:Nat} {N:List Str} {O:Sem Bool}
 (h:Fm X.prog X.w X.K X.mg X.base T C m N G k) (Q:Lf X E T (e::g) n F) (H:wI k X.A:=by assumption) (I:Bc X.K C:=by exact A7.cl<|by assumption) (hx:Passes 122 X E:=by exact Bp) (J:PE X (.Name x v) (vQ i):=by exact pv _) (R:∀a b c d u,(yV a b c d u j).lookup m=none:=by intros;rfl)
 (S:gX (e::g) X.env=67::gX g X.env:=by rfl) (W:(jx pos<|gX g X.env).any (·.1)=false:=by rfl)
 (Y:eval (.Call (.Attribute (.Name x v) m apos) (e::g) [] pos) X.env=(do
 let L <- eval (.Name x v) X.env
 ng apos.atName
 let (f,first) <- k9 [L] (mY L m O)
 nV pos f first (jx pos (gX (e::g) X.env)) (ni pos (lh [] X.env))):=by rfl) :
    EO X E T (.Call (.Attribute (.Name x v) m apos) (e::g) [] pos) (λ(d:D)(Z:τ->D->Prop) M=>F d (λp b l=>G (A.get b,p) (λy q=>Z y<|n (U.put (A.hole b) q.1) l q.2)<|λC q=>M C<|n (U.put (A.hole b) q.1) l q.2) M) :=
  Q1 i h.ok H I h.me h.bd hx J R (λt=>Ua J I h.me h.ok H h.bd .nil hx t S W Y) Q
def Dw(i:Nat){g:Type}[Sls g]{n:Wf (Bd C e×Unit) τ (Bd C e×Unit)}[A:At i D (Bd C e) g][U:Pt i g (Bd C e) D]{k:Nat}{t:List Str}{v:Sem Bool}
 (h:Fm X.prog X.w X.K X.mg X.base T C m t n k) (o:wI k X.A:=by assumption) (p:Bc X.K C:=by exact A7.cl<|by assumption) (q:Passes 122 X E:=by exact Bp) (r:PE X (.Name x j) (vQ i):=by exact pv _) (z:∀a b c d u,(yV a b c d u e).lookup m=none:=by intros;rfl)
 (B:eval (.Call (.Attribute (.Name x j) m apos) [] [] pos) X.env=(do
 let s <- eval (.Name x j) X.env
 ng apos.atName
 let (f,first) <- k9 [s] (mY s m v)
 nV pos f first (jx pos (gX [] X.env)) (ni pos (lh [] X.env))):=by rfl) :
    EO X E T (.Call (.Attribute (.Name x j) m apos) [] [] pos) (λ(d:D)(F:τ->D->Prop) G=>n (A.get d,()) (λy l=>F y<|U.put (A.hole d) l.1)<|λC l=>G C<|U.put (A.hole d) l.1) :=
  Q2 i h.ok o p h.me h.bd q r z (PL r p h.me h.ok o h.bd .nil q B)
end
end WL
namespace WL
open PySem L2
open Rep (rp)
open Ow (sl)
open Sls (rel)
section
structure Dq(K:gW)(x:Str)(st:iB):Prop where
 ex:∃f fd,io K il x=↑(some<|.ref f)/\y9 K x x st f fd
structure Mq(K:gW)(C:gV)(m q:Str)(st:iB):Prop where
 ex:∃f fd,Meth K C m f/\y9 K m q st f fd
def a0y{b:iB}{e:cr}(a:io K il x=↑(some<|.ref f))(l:K.lookup f=some #[i,j,.func<|jL x x (wm b) (vP b) (vd b) .none e g pm m d n,h])
 (c:jC K d x=true)(k:jt K (.ref f)=true):Dq K x b:=#[_,_,a,El l c k]
def a0z{b:iB}{e:cr}(a:iF K (.ref C) x=↑(some<|.ref f))(i:oN K (.ref f)=true)(l:K.lookup f=some #[j,m,.func<|jL x q (wm b) (vP b) (vd b) .none e g pm n d o,h])
 (c:jC K d q=true)(k:jt K (.ref f)=true):Mq K C x q b:=#[_,_,#[a,i,k],El l c k]
noncomputable def Dq.f{x:Str}{a:iB}(q:Dq K x a):gV:=q.ex.choose
noncomputable def Dq.d{x:Str}{a:iB}(q:Dq K x a):iQ:=q.ex.choose_spec.choose
noncomputable def Mq.f{x q:Str}{a:iB}(m:Mq K C x q a):gV:=m.ex.choose
noncomputable def Mq.d{x q:Str}{a:iB}(m:Mq K C x q a):iQ:=m.ex.choose_spec.choose
def Dq.fn{a:iB}(q:Dq K x a)(X:K.In h)(G:h.Ns il j)(c:List Str)
 (b:∀(k e l:cr)(m:Option gV)(g n:cr)(i:List cr),i.length=c.length->sY (jL x x (wm a) (vP a) (vd a) .none k e l m g n) #[i,[]]=pure (c.zip i)):Fn K j x a c q.f q.d :=
  have h:=q.ex.choose_spec.choose_spec;#[h.2,jf X G h.1,h.2.binds b]
def Mq.fn{a:iB}(m:Mq K C x q a)(c:List Str)
 (b:∀(j e k:cr)(l:Option gV)(g n:cr)(i:List cr),i.length=c.length->sY (jL x q (wm a) (vP a) (vd a) .none j e k l g n) #[i,[]]=pure (c.zip i)):Mf K C x q a c m.f m.d :=
  have h:=m.ex.choose_spec.choose_spec;#[h.2,h.1,h.2.binds b]
variable[L2.GX]
noncomputable def Fn.fk{x:Str}{h:iB}{a:List Str}{f:gV}{b:iQ}{A c d:Type}[Sls A][Sls c][Ow d]{e:Wf A d c}{k:Nat}(N:Fn K g x h a f b)(o:vR P w K g base (vX P w) k f b a (yK T e)):Fk P w K g base T x a e k:=#[f,b,o,N.at_,N.fn.kp,N.bd]
noncomputable def Mf.fm{x q:Str}{g:iB}{a:List Str}{f:gV}{b:iQ}{A c d:Type}[Sls A][Sls c][Ow d]{e:Wf A d c}{k:Nat}(N:Mf K C x q g a f b)(o:vR P w K h base (vX P w) k f b a (yK T e)):Fm P w K h base T C x a e k:=#[f,b,o,N.me,N.bd]
end
variable[L2.GX]
def DV{X:Cx}{E:XK}{T:gV}{f:List Nat}{n:Nat}{D g PO j:Type}[Sls D][Sls g][Sls PO][Ow j]{a:List iB}{w w':D->(g->Prop)->(j->PO->Prop)->85->Prop}(h:SW X E T f n a w)(i:∀d b c e,w' d b c e->w d b c e):SW X E T f n a w' :=
 let ⟨t,k,l⟩:=h
 #[t,k,λd F R m H b c e o s p=>l d F R m H b c e o s<|i d b c e p]
end WL
namespace WL
open PySem L2
open Rep (rp)
open Ow (sl)
open Sls (rel)
structure Cq where
 P:iJ
 w:jb
 K:gW
 mg:Str->Option cr
 base:iX
 T:gV
structure Bz(K:gW):Prop where
 all:io K il "all"=↑none
 zip:io K il "zip"=↑none
 set:io K il "set"=↑none
 sorted:io K il "sorted"=↑none
 len:io K il "len"=↑none
 list:io K il "list"=↑none
 isinstance:io K il "isinstance"=↑none
 int:io K il "int"=↑none
 bool:io K il "bool"=↑none
 range:io K il "range"=↑none
 enumerate:io K il "enumerate"=↑none
 tuple:io K il "tuple"=↑none
 min:io K il "min"=↑none
 max:io K il "max"=↑none
 str:io K il "str"=↑none
structure Bn(mg:Str->Option cr):Prop where
 all:mg "all"=none
 zip:mg "zip"=none
 set:mg "set"=none
 sorted:mg "sorted"=none
 len:mg "len"=none
 list:mg "list"=none
 isinstance:mg "isinstance"=none
 int:mg "int"=none
 bool:mg "bool"=none
 range:mg "range"=none
 enumerate:mg "enumerate"=none
 tuple:mg "tuple"=none
 min:mg "min"=none
 max:mg "max"=none
 str:mg "str"=none
def Bz.bn{K:gW}(X:K.In h)(G:h.Ns il a)(z:Bz K):Bn a :=
 let f:=λ{x:Str} (e:io K il x=some none)=>tN X G e
 #[f z.all,f z.zip,f z.set,f z.sorted,f z.len,f z.list,f z.isinstance,f z.int,f z.bool,f z.range,f z.enumerate,f z.tuple,f z.min,f z.max,f z.str]
variable[L2.GX]
abbrev xt(q:Cq)(x:Str)(c:List Str){A a b:Type}[Sls A][Sls a][Ow b](d:Wf A b a)(k:Nat):=Fk q.P q.w q.K q.mg q.base q.T x c d k
abbrev zm(q:Cq)(C:gV)(x:Str)(c:List Str){A a b:Type}[Sls A][Sls a][Ow b](d:Wf A b a)(k:Nat):=Fm q.P q.w q.K q.mg q.base q.T C x c d k
abbrev Gq(q:Cq)(k:Nat)(f:gV)(c:iQ)(d:List Str){A a b:Type}[Sls A][Sls a][Ow b](e:Wf A b a):Prop:=vR q.P q.w q.K q.mg q.base (vX q.P q.w) k f c d<|yK q.T e
abbrev CZ(q:Cq)(x:Str)(a:iB)(f:gV)(b:iQ):Prop:=y9 q.K x x a f b
@[reducible] def wSq{D c e a b:Type}(h:D->(e->Prop)->(b->a->Prop)->(gV->a->Prop)->Prop)(i:e->(c->Prop)->(b->a->Prop)->(gV->a->Prop)->Prop):D->(c->Prop)->(b->a->Prop)->(gV->a->Prop)->Prop:=λd j f g=>h d (λk=>i k j f g) f g
def vt{c:List Nat}{n:Nat}{D h d b e:Type}[Sls D][Sls h][Sls d][Sls b][Ow e]{i:iB}{a:List iB}{f:D->(d->Prop)->(e->b->Prop)->(gV->b->Prop)->Prop}{g:d->(h->Prop)->(e->b->Prop)->(gV->b->Prop)->Prop}(j:S1 X E T c n i f)(k:SW X E T c n a g)(l:TR b c n:=by exact vI q0q) :
  SW X E T c n (i::a) (wSq f g):=DO (w1:=f) (w2:=g) l j k
end WL
namespace L2
variable[L2.GX]
open PySem PySem.Spec PyProof.Rows
structure Q9(N P:List Str)(sc:my)(cl:List (Str×gV)):Prop where
 kind:sc.kind=.function
 co:sc.isCoroutine=false
 gen:sc.isGenerator=false
 nd:N.Nodup
 pre:N.take P.length=P
 par:∀x∈P,sc.names.lookup x=some .local
 BG:∀y∈sc.names,y.2≠.cell
 has:∀x,sc.names.lookup x=some .free->∃c,cl.lookup x=↑c
 inj:∀x y c,cl.lookup x=↑c->cl.lookup y=↑c->x=y
noncomputable def Lm(CX:PJ)(P:iJ)(w:jb)(K:gW)(mg:Str->Option cr)(base:iX)(N:List Str)(qual:Str)(scope:my)(f:gV)(cd:cr)(cl:List (Str×gV))(A:jF)(outer:List Env)(s:hR)(H:Hp)(E:XK):Cx where
 prog:=P
 w:=w
 K:=K
 mg:=mg
 base:=base
 A:=A.deeper<|je qual scope ⇑s f cd cl
 N:=N
 s₀:=s
 H₀:=H
 env:=je qual scope ⇑s f cd cl
 outer:=outer
 stack:=je qual scope ⇑s f cd cl::outer
 ex:=[]
 calm:=true
 fn:=λ_=>false
 pn:=[]
 xe:=λe s'=>hX (hZ P w) (A.deeper<|je qual scope ⇑s f cd cl) (uF (je qual scope ⇑s f cd cl) e) (λ_ Ub=>CX outer H s E e Ub) (λe' Ub=>CX outer H s E e' Ub) s'
section
variable{P:iJ}{w:jb}{K:gW}{mg:Str->Option cr}{base:iX}{N ps:List Str}{qual:Str}{scope:my}{f:gV}{cd:cr}{cl:List (Str×gV)}{A:jF}{outer:List Env}{s:hR}{H:Hp}{E:XK}
def Rc:Passes (vX P w) (Lm (vX P w) P w K mg base N qual scope f cd cl A outer s H E) E:=by intro a i j k e l I h;obtain⟨C,x,b,rfl,F,c⟩:=h;exact jm (Qu I rfl rfl F) (λ_ d g=>#[C,x,b,rfl,g,c]) λ_ _ z=>z
def Re:∀{l:List (Str×d)},(l.map (·.1)).Nodup->(x,u)∈l->l.lookup x=↑u:=by
 intro l
 induction l with
 |nil=>intro _ h;cases h
 |cons p l b =>
  intro a h;rw[iC,List.nodup_cons]at a;obtain⟨y,v⟩:=p;rcases List.mem_cons.mp h with z|z
  ·cases z;rw[iO,pO]
  ·have c:(x==y)=false:=beq_eq_false_iff_ne.mpr λe=>a.1 (by rw[<- e];exact List.mem_map.mpr #[_,z,rfl]);rw[iO,c];exact b a.2 z
def JL:∀(ps:List b)(a:List c),((ps.zip a).map (·.1)).Sublist ps
 | [],_=>by simp
 |_::_,[]=>by simp
 |p::ps,u::a=>by rw[List.zip_cons_cons,iC];exact(JL ps a).cons₂ p
def U8{ps:List Str}{i:Nat}(b:ps.Nodup)(c:ps[i]?=↑x)(d:a[i]?=↑u):(ps.zip a).reverse.lookup x=↑u:=by
 refine Re ?_ ?_
 ·rw[List.map_reverse];refine List.pairwise_reverse.mpr<|pr Ne.symm ?_;exact b.sublist<|JL ps a
 ·rw[List.mem_reverse];refine List.mem_iff_getElem?.mpr #[i,?_];rw[List.getElem?_zip_eq_some];exact#[c,d]
def Lo{j:iX}{D:Nat}{k:List V}(S:Q9 N ps scope cl)(C:∀x c,cl.lookup x=↑c->∃v,base.IsCell c v)(F:A.handled=none)(g:Jg P w K mg base A outer s H)(R:k.length=ps.length)(r:Vals k G)
 (I:j.Ns ⇑s (λx=>(ps.zip G).reverse.lookup x))(t:∀b o,s.heap.get? b=↑o->j.get? b=↑o):Inv (Lm J P w K mg base N qual scope f cd cl A outer s H E) [] (start N k) H { s with heap:=j,toks:=D}:=by
  have L:ps.length<=N.length:=by have:=congrArg oA S.pre;rw[mh]at this;lia
  have l:∀b:gV,b∉(Lm J P w K mg base N qual scope f cd cl A outer s H E).ex:=λb z=>ii (show b∈([]:List gV) from z) q0o
  refine#[#[g.mod,S.kind,rfl,rfl,gZ _,λy z c j d=>S.inj y z c j d,λy m=>?_,λy c z _=>(by cases z),λ_=>F,sP g.frames,.inr #[rfl,rfl],λb z=>ii z (l b),g.bs,g.IY,λb _ _=>l b,λb z=>ii z (l b),g.yT,g.Ki],
    rfl,g.bare,Un.kept t,#[_,I,λi y v j d T=>?_],λy c h=>?_,g.vW.fresh (gZ _),λy c h=>?_,λp n=>ii (show p∈([]:List (gV×Obj)) from n) q0o,g.vW.kept t,?_]
  · have m : scope.names.lookup y = some .cell \/ scope.names.lookup y = some .free := m
    rcases m with m|m
    · exact ii rfl<|S.BG _<|ky m
    · exact S.has y m
  · have q : i<k.length := by
      unfold start at d
      by_cases q:i<k.length
      · exact q
      · rw[j5<|by simpa using q]at d
        rw[sF]at d
        split at d<;>cases d
    have M:k[i]?=↑v:=by
      unfold start at d
      rw[ml (by simpa using q),jO]at d
      cases e:k[i]? with
      |none=>rw[e]at d;cases d
      |some a=>rw[e]at d;cases d;rfl
    refine e1a2 (r.get M) λu O Q=>?_
    have n:ps[i]?=↑y:=by rw[<- S.pre,sf q0a];exact j
    have B:ps.Nodup:=by rw[<- S.pre];exact S.nd.sublist<|uG _ _
    exact#[u,Q,.inl #[S.par y<|jW n,U8 B n O]]
  · obtain⟨v, z⟩ := C y c h
    exact#[v,z.keeps λb o e=>t b o (g.bs b o e).1]
  · refine e2a2 (C y c h) λv o z _ => ?_
    exact(g.bs c o z).2
  · unfold start
    show _=N.length
    rw[ig,hO,sZ]
    lia
end
def PEA(X:Cx)(c:List iB)(e:iT)(t:TE):Prop :=
 ∀(a:List (gV×Obj)) (s:hR) (b:St) (H:Hp) (Q:VK),Inv X a b H s->t b H Q->ug 28 X.A (.func c X.env) (eval e X.env) (EP X a b Q) X.xe s
def PSA(X:Cx)(c:List iB)(d:iB)(t:TS):Prop :=
 ∀(a:List (gV×Obj)) (s:hR) (b:St) (H:Hp) (D:Ends),Inv X a b H s->t D b H->ug 28 X.A (.func c X.env) (exec d X.env) (SP X a D) X.xe s
def Rf(X:Cx)(c:List iB)(d:List iB)(t:TS):Prop :=
 ∀(a:List (gV×Obj)) (s:hR) (b:St) (H:Hp) (D:Ends),Inv X a b H s->t D b H->ug 28 X.A (.func c X.env) (execs d X.env) (SP X a D) X.xe s
section
variable{fb:List iB}{pos:Pos}
def Rh{b:iB}(h:PS X b t):PSA X fb b t:=λa s c H D I q=>wpAt_of_wpAny<|h a s c H D I q
def DW{b:List iB}(h:FF X b t):Rf X fb b t:=λa s c H D I q=>wpAt_of_wpAny<|h a s c H D I q
def yQ{e:iB}{a:List iB}(g:PSA X fb e h)(i:Rf X fb a j):Rf X fb (e::a) (Kt h j):=λb s k H D I q=>by
 refine ks_wpAt_execs_cons<|rK (g b s k H _ I q) (λf l c=>?_) λ_ _ z=>z
 cases f with
 |next=>obtain⟨d,m,J,n⟩:=c;exact i b l d m D J n
 |brk=>exact c
 |cont=>exact c
 |ret u=>exact c
def U9(h:PEA X fb e t):PSA X fb (.Return ↑e pos) (Xh t):=λa s b H D I q =>
 ks_wpAt_Return_some (rK (h a s b H _ I q) (λu g c=>e2a3 c λv d J r f=>#[v,b,d,J,r,f]) λ_ _ z=>z)
def ET(h:PEA X fb e t)(c:kd e none pos.line X.env=pure false:=by rfl):PSA X fb (.Expr e pos) (Jc t):=λa s b H D I q =>
 ks_wpAt_Expr_any (rK (h a s b H _ I q) (λu i d=>e2a3 d λv f J r g=>#[b,f,J,g]) λ_ _ z=>z) I.quiet c
end
structure Lq(P:iJ)(K:gW)(C f zA cc:gV)(x0:Str):Prop where
 fn:∃(oc:cr)(od:Option gV)(fd:iQ) (N4:Array (Option cr)) (ar:Arg),K.lookup f=some #[oc,od,.func fd,N4]/\(fd.params.posonlyargs++fd.params.args).head?=↑ar/\ar.arg=x0
 code:∃(oc:cr)(od:Option gV)(vs:Array cr) (N4:Array (Option cr)) (file:Str) (tf:Tok),K.lookup zA=some #[oc,od,.fields vs,N4]/\vs[2]?=↑(.str file tf)/\((P.main.file:Str)==file)=true
 cell:∃(oc:cr)(od:Option gV) (N4:Array (Option cr)),K.lookup cc=some #[oc,od,.cell<|some<|.ref C,N4]
 cls:∃cd,m4 K C=↑cd
 sub:lw K C (.ref C)=↑true
 opq:io K rJ "thirdparty.any"=↑none
 top:(P.main.scope.names.lookup ("super":Str)).isSome=false
def a0A(C:gV)(c:Sp)(E:XK)(t:TA):TE:=λb H Q=>∃a d e,b[0]?=↑(some<|.ref a)/\H a=some (.ins C d e)/\t b H λf g=>c (.ref a::f) g Q E
def Ri(K:gW)(h:gV)(c:Pos)(f:List iT)(d:Env):Prop:=∀{M:Model} {B:jF} {Q e:cr->hR->Prop} {g:hR} {q a:gV},
 hX M B (uD<|jx c<|gX f d) (λi b=>rL K q h (.ref a) b.heap/\hX M B (call (.ref q) i) Q e b) e g->hX M B (nV c (.ref q) [] (jx c<|gX f d) []) Q e g
def Ou(d e b c:Pos)(m:Str)(f:List iT):Prop:=∀a:Env,∃h:Sem Bool,eval (.Call (.Attribute (.Call (.Name "super" d) [] [] e) m b) f [] c) a=(do
 let g <- iP (.Call (.Name "super" d) [] [] e) m a (eval (.Call (.Name "super" d) [] [] e) a)
 ng b.atName
 let (i,first) <- k9 [g] (mY g m h)
 nV c i first (jx c (gX f a)) [])
def cw_nil{K:gW}(b:mK K f2=true):Ri K f2 pos [] c:=λ{M B Q e f q a} h=>by refine pP (P:=rL K q f2<|.ref a) rfl (ux b) ?_;refine am<|jm h (λg i d=>?_) λ_ _ x=>x;refine iM ?_;exact am<|ap<|am<|ap<|ap d
def cw_cons{K:gW}(f:mK K f2=true)(g:gX (e::d) b=(false,eval e b)::gX d b:=by rfl)(c:(jx pos<|gX d b).any (·.1)=false:=by rfl):Ri K f2 pos (e::d) b:=λ{M B Q i j q a} h=>by rw[g]at h ⊢;exact pP (P:=rL K q f2<|.ref a) (by show ((false||(jx pos<|gX d b).any (·.1))||false)=false;rw[c];rfl) (ux f)<|jJ h
section
variable{P:iJ}{w:jb}{K:gW}{mg:Str->Option cr}{base:iX}{N ps:List Str}{qual:Str}{scope:my}{f zA cc:gV}{A:jF}{outer:List Env}{s:hR}{H:Hp}{E E0:XK}{C f2:gV}{x0 m:Str}{k:Nat}{fd2:iQ}{sp:Sp}{fb:List iB}{p0 p1 apos pos:Pos}{es:List iT}{ta:TA}
set_option tactic.hygienic true in
def Hw(S:Lq P K C f zA cc x0)(ab:N[0]?=↑x0)(M:scope.names.lookup ("super":Str)=some .globalImplicit)(R:scope.names.lookup 109=some .free)(x:scope.names.lookup x0=some .local)(ae:mg "super"=none)
 (hm:j9 K C C m=↑(some<|.ref f2)) (ht:ph K (.ref f2)=↑(.type "function")) (aq:mK K f2=true) (F:vR P w K mg base (vX P w) k f2 fd2 ps sp) (T:Binds K fd2 ps [])
 (hr:wI k (A.deeper<|je qual scope ⇑s f (.ref zA) [75])) (ha:PA 91 es ta)
 (af:Ri K f2 pos es (je qual scope ⇑s f (.ref zA) [75])) (y:Ou p0 p1 apos pos m es) (U:(m==109)=false:=by decide) :
    PEA 91 fb (.Call (.Attribute 84 m apos) es [] pos) (a0A C sp E ta):=by
  intro l i σ H1 Q I h
  obtain⟨a,dx,fs,h0,ea,h⟩:=h
  have X:=I.yZ
  obtain⟨oc,od,fd,au,ar,lf,hp,rfl⟩:=S.fn
  obtain⟨av,aw,ax,al,file,tf,lc,ag,B⟩:=S.code
  obtain⟨an,ao,aa,D⟩:=S.cell
  obtain⟨cd,j⟩:=S.cls
  obtain⟨mA,O,_,_,_,_⟩:=BN I.vW ea
  refine e1a2 I.loc λmL hn hl=>?_
  refine e1a2 (hl 0 ar.arg (.ref a) ab h0<|.inl x) λu ru lk=>?_
  obtain rfl:u=iq a:=ru
  have ah:mL ar.arg=↑(.ref a):=by
    rcases lk with⟨_,q⟩|⟨q,_⟩
    · exact q
    · have q : scope.names.lookup ar.arg = some .cell \/ scope.names.lookup ar.arg = some .free := q
      rw[x]at q
      rcases q with q|q<;>cases q
  obtain⟨oD,G,J⟩:∃oD,i.heap.get? C=some oD/\oD.data=.cls cd:=by
    unfold m4 at j
    split at j
    · rename_i c d ay sl ho
      cases j
      exact#[_,X _ _ ho,rfl]
    · cases j
  refine e1a2 I.mod.blt λmb ai aj=>?_
  have ne:a≠C:=λz=>by
    have:=O.obj
    rw[z,G]at this
    cases this
    cases J
  obtain⟨pl,y⟩:=y<|je qual scope ⇑s f (.ref zA) [75]
  refine ks_wpAt_MethodCall (pl:=pl) (ks_wpAt_super_base (env:=je qual scope ⇑s f (.ref zA) [75]) M R U rfl (X _ _ lf) rfl hp rfl (X _ _ lc) rfl ag B S.top ?_) y
  refine rj I.ok.kind M<|oy (env:=je qual scope ⇑s f (.ref zA) [75]) (I.mod.glob.keeps I.bk) ae (ai.keeps I.bk) ((aj _ q0s).trans rfl) #[rfl,?_]
  refine qI I.ok.kind R rfl #[_,X _ _ D,rfl] ?_
  refine k8 I.ok.kind x hn ah ?_
  refine ks_wpAny_isType_cls (h:=i.heap) (g:=i.gens) (d:=i.drawn) (t:=i.toks) (os:=i.os) G J #[rfl,?_]
  refine ks_wpAny_call_super (h:=i.heap) (g:=i.gens) (d:=i.drawn) (t:=i.toks) (os:=i.os) G J O.obj rfl (λc e=>by cases e) (pQ X S.sub) λn e k'=>?_
  have L:Inv _ l σ H1 #[n,i.gens,i.drawn,i.toks,i.os]:=I.kept (t':=i.toks) k'
  unfold j9 at hm
  rw[j]at hm
  obtain⟨of,ak,Y⟩:∃of,n.get? f2=some of/\of.cls=.type "function":=by
    have p:(K.lookup f2).map (·.cls)=↑(.type "function"):=ht
    cases z:K.lookup f2 with
    |none=>rw[z]at p;cases p
    |some of=>rw[z]at p;exact#[of,L.yZ _ _ z,iY p]
  refine ks_wpAny_getMethod_super e (sK L.yZ S.opq) (l₀:=cd.mro) (λA Q E s k q=>am<|(pJ L.yZ j) A _ E s k<|ap q) rfl L.yZ hm ak Y ne U ?_
  have I2:Inv _ l σ H1 #[n.push { cls:=.type "method",data:=.fields #v[.ref f2,.ref a]},i.gens,i.drawn,i.toks+1,i.os]:=L.kept (t':=i.toks+1) λb o z=>ce _ z
  have fr:H1 n.objs.size=none:=L.vW.fresh<|gZ _
  have gq:(n.push { cls:=.type "method",data:=.fields #v[.ref f2,.ref a]}).get? n.objs.size=↑(mH (.ref f2)<|.ref a):=oG rfl rfl
  have I3:=I2.pinned (fp:=[n.objs.size]) (λb T=>by rw[List.mem_singleton.mp T];exact L.GO (gZ _) fr) λb T=>by rw[List.mem_singleton.mp T];exact#[_,gq,λv z=>by cases z]
  refine af (a:=a)<|vU (ha pos _ _ σ H1 _ I3 h) λZ s2 z9=>e2a3 z9 λvs H2 I4 r q2=>?_
  have g2:s2.heap.get? n.objs.size=↑(mH (.ref f2)<|.ref a):=(I4.pin (n.objs.size,mH (.ref f2)<|.ref a)<|iv _<|iv _<|xS gY gq).1
  refine#[#[g2,I4.yZ],?_]
  have I5:=I4.Am
  have r2:Vals (.ref a::vs) (.ref a::Z):=.cons rfl r
  have hl:(iq a::Z).length=ps.length:=by rw[<- r2.length];exact F.len _ _ _ _ q2
  refine mX<|ks_codeAny_call_bound g2<|j7 (F.run _ _ s2 H2 ⟨.ref a::Z,[]⟩ (.ref a::Z) (.ref a::vs) Q E hr I5.Jh (by simpa using T s2 (.ref a::Z) I5.yZ (by simpa using hl)) r2 q2) λr s' hq=>?_
  cases r with
  |error e=>exact Rc l σ H2 s2 e s' I5 hq
  |ok fl =>
    cases fl with
    |ret u=>exact I5.after hq
    |next=>exact iL hq
    |brk=>exact iL hq
    |cont=>exact iL hq
def Hx{O:cr}(lk:K.lookup f=some #[oc,od,.func<|kS name qual g a scope i dV O F pm an d ct,aa])(R:jC K d qual=true)
 (S:Q9 N ps scope i) (hc:∀x c,i.lookup x=↑c->∃o v,K.lookup c=↑o/\o.data=.cell v) (G:∀j H Q E,sp j H Q E->j.length=ps.length)
 (z:∀(A:jF)(outer:List Env)(s:hR)(H:Hp)(j:List V)(Q:VK)(E:XK),wI k (A.deeper (je qual scope ⇑s f d i))->sp j H Q E ->
 ∃t,Rf (Lm (vX P w) P w K mg base N qual scope f d i A outer s H E) a a t/\t { nx:=λ_ p=>Q .wP p,rt:=Q} (start N j) H) :
    vR P w K mg base (vX P w) (k+1) f (kS name qual g a scope i dV O F pm an d ct) ps sp:=by
  refine#[G,λA outer s H args us j Q E T B hb r L=>?_]
  have hl:=G _ _ _ _ L
  have KX:K.In s.heap:=B.mod.BK.keeps λb o e=>(B.bs b o e).1
  have U:s.heap.NoLimit:=B.mod.nolimit.keeps λb o e=>(B.bs b o e).1
  have l:∀x c,i.lookup x=↑c->∃v,base.IsCell c v:=λx c h=>by
    refine e2a2 (hc x c h) λo v q1 q2=>?_
    exact#[v,o,B.mod.BK _ _ q1,q2]
  refine ks_codeAny_call_defAt (fd:=kS name qual g a scope i dV O F pm an d ct) (body:=a) (binds:=ps.zip us) T.depth (KX _ _ lk) rfl U (td KX R) rfl hb S.BG (λy hy=>S.par y.1 (pq hy).1) (λh1 X Y=>?_) S.co S.gen S.kind
  refine e1a2 (z A outer s H j Q E (T.deeper _) L) λt ht hq=>?_
  have I:Inv (Lm (vX P w) P w K mg base N qual scope f d i A outer s H E) [] (start N j) H { s with heap:=h1,toks:=s.toks+(ps.zip us).length}:=Lo S l T.hd B hl r X Y
  refine rK (ht [] _ (start N j) H _ I hq) (λfl Z D=>?_) λe Z D=>D
  have M:∀{n:St} {p:Hp} {v:V} {u:cr},Inv (Lm (vX P w) P w K mg base N qual scope f d i A outer s H E) [] n p Z->RelV v u->Q v p->CE outer P w H s Q u Z :=
    λ{n p v u} J rv q=>#[v,p,J.os,J.bare,J.base,J.vW,rv,q]
  cases fl with
  |ret u =>
    obtain⟨v,n,p,J,rv,q⟩:=D
    exact M J rv q
  |next =>
    refine e2a2 D λn p J q=>?_
    exact M (v:=V.wP) (u:=Value.none) J rfl q
  |brk =>
    refine e2a2 D λ_ _ _ q=>?_
    exact iL q
  |cont =>
    refine e2a2 D λ_ _ _ q=>?_
    exact iL q
end
end L2
namespace WL
variable[L2.GX]
open PySem L2
open Rep (rp)
open Ow (sl)
open Sls (rel)
structure xQ(N P:List Str)(sc:my):Prop where
 kind:sc.kind=.function
 co:sc.isCoroutine=false
 gen:sc.isGenerator=false
 nd:N.Nodup
 pre:N.take P.length=P
 par:∀x∈P,sc.names.lookup x=some .local
 BG:∀y∈sc.names,y.2≠.cell
 fr:∀y∈sc.names,y.2=.free->y.1="__class__"
 ks:sc.names.lookup ("super":Str)=some .globalImplicit
 kc:sc.names.lookup 109=some .free
def xQ.x{N P:List Str}{sc:my}(S:xQ N P sc)(cc:gV):Q9 N P sc [75] :=
 #[S.kind,S.co,S.gen,S.nd,S.pre,S.par,S.BG,λx h=>#[cc,by have e:x="__class__":=S.fr _ (ky h) rfl;rw[e];rfl],λx y c h1 h2=>by
  have q:∀{z:Str},([(109,cc)]:List (Str×gV)).lookup z=↑c->z="__class__":=λ{z} h=>by
   by_cases e:(z==109)=true
   ·exact eq_of_beq e
   ·rw[iO,Bool.eq_false_iff.mpr e]at h;cases h
  rw[q h1,q h2]]
structure Cg(P:iJ)(K:gW)(C:gV)(x qual:Str)(st:iB)(f:gV)(fd:iQ):Prop where
 ex:∃(oc:cr)(od:Option gV)(kV doc pm:cr)(an:Option gV)(zA cc:gV)(ct:cr) (N4:Array (Option cr)),
  fd=kS x qual (wm st) (vP st) (vd st) [75] .none kV doc pm an (.ref zA) ct/\K.lookup f=some #[oc,od,.func fd,N4]/\jC K (.ref zA) qual=true/\Lq P K C f zA cc "self"
 kp:jt K (.ref f)=true
structure Sm(K:gW)(C:gV)(m:Str)(f2:gV):Prop where
 find:j9 K C C m=↑(some<|.ref f2)
 ty:ph K (.ref f2)=↑(.type "function")
 fn:mK K f2=true
structure Fs(P:iJ)(w:jb)(K:gW)(mg:Str->Option cr)(base:iX)(C:gV)(m:Str)(ps:List Str)(sp:Sp)(k:Nat):Prop where
 ex:∃f2 fd2,Sm K C m f2/\vR P w K mg base (vX P w) k f2 fd2 ps sp/\Binds K fd2 ps []/\mg "super"=none
def Va{B b i:Type}[Sls B][Sls b][Ow i]{k:Bool}{l:Wf (Bd C k×B) i b}{c:List V}(h:yK T l c H Q E):∃a d m r,c=.ref a::r/\H a=↑(.ins C d m):=by
 obtain⟨F,R,p,o,q,s,_⟩:=h;obtain⟨v,n,t,u,e,_,⟨a,d,w,x,y,z,A,j,_,g⟩,_⟩:=s.rel;subst j
 cases c with
 |nil=>cases e
 |cons v r=>injection e with f j;injection f with f;subst f;exact#[a,d,_,r,rfl,g.ob]
def yp{o:iB}{d:List Str}{k:Nat}{B t X:Type}[Sls B][Sls t][Ow X]{fl:Bool}{u:Wf (Bd C fl×B) X t}{p:List iT} 
 (F:Cg P K C x l o f fd) (S:xQ d d (vd o)) (v:vP o=[.Return (some<|.Call (.Attribute 84 m apos) p [] pos) p2]) (Y:d[0]?=↑("self":Str)) (z:Ou p0 p1 apos pos m p) (G:Fs P w K Z base C m d (yK T u) k)
 (ha:∀(g n:gV)(A:jF)(b:List Env)(s:hR)(H:Hp)(E:XK),PA (Lm (vX P w) P w K Z base d l (vd o) f (.ref g) [("__class__",n)] A b s H E) p ta)
 (I:∀(a:gV)(r:List V)(H:Hp)(Q:List V->Hp->Prop),r.length+1=d.length->Q r H->ta ((V.ref a::r).map some) H Q) (J:∀(q:gV)(L:Env),mK K q=true->Ri K q pos p L) (N:(m==109)=false:=by decide) :
    vR P w K Z base (vX P w) (k+1) f fd d (yK T u):=by
  obtain⟨oc,od,kV,aa,pm,an,g,n,ct,ab,rfl,lk,O,D⟩:=F.ex
  refine e2a4 G.ex λq ae M G hb R=>?_
  obtain⟨o1,o2,o3,i⟩:=D.cell
  refine Hx lk O (S.x n) (λy c h=>?_) G.len λA b s H vs Q E hr j=>?_
  · have e : c = n := by
      by_cases e:(y==109)=true
      · rw[iO, e]at h; cases h; rfl
      · rw[iO, Bool.eq_false_iff.mpr e]at h; cases h
    subst e
    exact#[_,_,i,rfl]
  · have hl := G.len _ _ _ _ j
    obtain⟨a,dx,fs,r,rfl,ea⟩:=Va j
    have U:start d (V.ref a::r)=(V.ref a::r).map some:=by unfold L2.start;rw[hl,qR];simp
    refine#[Kt (Xh<|a0A C (yK T u) E ta) Wt,?_,?_]
    · rw[v]
      exact yQ (U9<|Hw D Y S.ks S.kc (S.par _<|jW Y) R M.find M.ty M.fn G hb hr (ha g n A b s H E) (J q _ M.fn) z N)<|DW zH
    · rw[U]
      exact#[a,dx,fs,rfl,ea,I a r H _ hl j]
class Fu(D:Type)[Sls D]:Prop where
 fu:∀{F R:Rg} {H:Hp} {d:D} {σ:St},rel F R H d σ->∃vs:List V,σ=vs.map some
instance:Fu Unit:=#[λh=>#[[],h.1]]
instance{τ D:Type}[Ow τ][Sls D][Hs τ][Fu D]:Fu (τ×D):=#[λh=>by
 obtain⟨v,σ',F1,F2,rfl,_,h3,h4⟩:=h;obtain⟨u,rfl⟩:=Hs.has h3;obtain⟨vs,rfl⟩:=Fu.fu h4
 exact#[u::vs,rfl]]
def SWA(X:Cx)(e:List iB)(E:XK)(T:gV)(f:List Nat)(n:Nat)(a:List iB){D c b d:Type}[Sls D][Sls c][Sls b][Ow d](w:D->(c->Prop)->(d->b->Prop)->(gV->b->Prop)->Prop):Prop:=∃t,Rf X e a t/\WM E T f n t w
def WY{g:List iB}{c:List Nat}{n:Nat}{D h e b f:Type}[Sls D][Sls h][Sls e][Sls b][Ow f]{i:iB}{a:List iB}{j:D->(e->Prop)->(f->b->Prop)->(gV->b->Prop)->Prop}{k:e->(h->Prop)->(f->b->Prop)->(gV->b->Prop)->Prop}(o:S1 X E T c n i j)(p:SWA X g E T c n a k)(q:TR b c n:=by exact vI q0q) :
  SWA X g E T c n (i::a) (λd r l m=>j d (λs=>k s r l m) l m) :=
 e1a2 o λx t u=> e1a2 p λy v w=> #[_,yQ (Rh t) v,WN q u w]
def Vb{o:iB}{A:jF}{b:List Env}{s:hR}{fb:List iB}{ms:List Nat}{n k:Nat}{l:List Str}{B t:Type}[Sls B][Sls t]{fl:Bool}{wf:Wf (Bd C fl×B) Unit t}{u:List iT}{p2:Pos}[Fu B][L:Ln B n]
 (D:Lq P K C f j z "self") (S:xQ l l (vd o)) (h0:l[0]?=↑("self":Str)) (J:Ou p0 p1 apos pos m u) (G:Fs P w K mg base C m l (yK T wf) k) (hr:wI k (A.deeper<|je i (vd o) ⇑s f (.ref j) [("__class__",z)]))
 (ha:PA (Lm (vX P w) P w K mg base l i (vd o) f (.ref j) [("__class__",z)] A b s H E) u ta)
 (N:∀(a:gV)(r:List V)(H:Hp)(Q:List V->Hp->Prop),r.length=n->Q r H->ta ((V.ref a::r).map some) H Q) (O:∀(I:gV)(U:Env),mK K I=true->Ri K I pos u U) (X:(m==109)=false:=by decide) (Y:kd (.Call (.Attribute 84 m apos) u [] pos) none p2.line (je i (vd o) ⇑s f (.ref j) [("__class__",z)])=pure false:=by rfl) :
    SWA (Lm (vX P w) P w K mg base l i (vd o) f (.ref j) [("__class__",z)] A b s H E) fb E T ms (n+1) [.Expr (.Call (.Attribute 84 m apos) u [] pos) p2] (λ(d:Bd C fl×B)(Z:t->Prop)(_:Unit->t->Prop) Ke=>wf d (λ_ p=>Z p) Ke):=by
  refine e2a4 G.ex λI ab M G hb aa=>?_
  refine#[_,yQ (ET (Hw D h0 S.ks S.kc (S.par _<|jW h0) aa M.find M.ty M.fn G hb hr ha (O I _ M.fn) J X) Y)<|DW zH,λd F R σ H1 Z Kr Ke En s1 hw kn kr ke=>?_]
  refine e4a4 (id s1.rel) λv ae F1 F2 e t2 h3 h4=>?_
  obtain⟨a,dx,d1,d2,d3,d4,us,rfl,_,g⟩:=id h3
  obtain⟨r,rfl⟩:=Fu.fu h4
  have hl:=L.ln h4
  rw[hO]at hl
  subst e
  refine#[a,dx,_,rfl,g.ob,N a r H1 _ hl #[F,R,d,λ_ p=>Z p,Ke,s1,hw,λx p' v M1 M2 R' H' q c s' n'=>?_,λC y p' F' R' H' q c s'=>?_]]
  · exact kn p' M2 R' H' _ q (c.less λa h => .inr h) s'<|Ag.refl _ _
  · exact ke C y p' F' R' H' q c (by rw[jB<|by simp[hl]]; exact s')
def a0C{J:iB}{M:List Str}{k n:Nat}{ms:List Nat}{A PO:Type}[Sls A][Sls PO][L:Ln A n](dp:TR PO ms n){w0:A->(PO->Prop)->(Unit->PO->Prop)->85->Prop}
 (F:Cg P K C x j J f fd) (S:xQ M M (vd J)) (hn:M.length=n)
 (r:∀(i u:gV)(A:jF)(b:List Env)(s:hR)(H:Hp)(E:XK),Lq P K C f i u "self"->wI k (A.deeper<|je j (vd J) ⇑s f (.ref i) [("__class__",u)])->SWA (Lm (vX P w) P w K mg base M j (vd J) f (.ref i) [("__class__",u)] A b s H E) (vP J) E T ms n (vP J) w0) :
    vR P w K mg base (vX P w) (k+1) f fd M (yK T λ(p:A)(X:Unit->PO->Prop) N=>w0 p (λY=>X () Y) X N):=by
  have l:∀{o:List V} {H:Hp} {Q:VK} {E:XK},yK T (λ(p:A)(X:Unit->PO->Prop) N=>w0 p (λY=>X () Y) X N) o H Q E->o.length=n:=λh=>by
    obtain⟨F,R,p,Kn,N,s,_⟩:=h
    have:=L.ln s.rel
    rwa [hO]at this
  obtain⟨oc,od,kV,ae,pm,an,i,u,ct,af,rfl,lk,aa,D⟩:=F.ex
  obtain⟨o1,o2,o3,B⟩:=D.cell
  refine Hx lk aa (S.x u) (λy c h=>?_) (λo H Q E h=>(l h).trans hn.symm) λAr b s H o Q E hr Z=>?_
  · have e : c = u := by
      by_cases e:(y==109)=true
      · rw[iO, e]at h; cases h; rfl
      · rw[iO, Bool.eq_false_iff.mpr e]at h; cases h
    subst e
    exact#[_,_,B,rfl]
  refine e1a2 (r i u Ar b s H E D hr) λt h1 h2=>?_
  refine#[t,h1,?_]
  have hl:=l Z
  obtain⟨F,R,p,Kn,N,s0,hw,kn,ke⟩:=Z
  have ab:start M o=o.map some:=by unfold L2.start;rw[hl,hn,qR];simp
  rw[ab]
  have G:(o.map some).take n=o.map some:=jB (by rw[hO,hl];exact gZ _)
  refine h2 p F R _ H _ Kn N _ s0 hw (λY F' O U I q c d g=>?_) (λx p' v F1 F2 O U q c d m=>?_) λC y p' F' O U q c d=>?_
  · have e' : I.take n = I := jB (by rw[g.1, hO, hl]; exact gZ _)
    have g3:=dp.dp g (show rel F' O U Y (I.take n) by rw[e'];exact d.rel)
    rw[G]at g3
    exact kn () _ .wP (λ_=>False) F' O U q (c.less λa h=>h.elim (λz=>z.elim) id) #[g3,d.sub,d.xD,d.tab,d.v4,d.vS] #[#[λ_ z=>z,.wP,rfl,rfl],λ_ z=>z.elim,λ_ z=>z.elim,λz=>z]
  · rw[G]at d
    exact kn x p' v F1 F2 O U q c d m
  · rw[G]at d
    exact ke C y p' F' O U q c d
def DX(C:gV):Sp:=λi H Q E=>∃p h,i=[.ref p]/\H p=↑(.ins C h []) /\
 ∀c d e f g,(∀a,a=c\/a=d\/a=e\/a=f->H a=none)->[c,d,e,f].Nodup->g p=↑(.ins C h<|yV c d e f 0 true)->(∀a,a=c\/a=d\/a=e\/a=f->g a=↑(.dK []))->(∀b o,b≠p->H b=↑o->g b=↑o)->Q .wP g
def Rj{C:gV}{J:iB}{k:Nat}{p3 p4:Pos}{i:List iB}(F:Cg P K C "__init__" q J f fd)(S:xQ ["self"] ["self"] (vd J))(ct:A7 K C)(cf:Ph K C)(T:Ou p0 p1 apos pos "__init__" [])
 (U:vP J=.Expr (.Call (.Attribute 84 "__init__" apos) [] [] pos) p2::i) (G:Fs P w K mg base C "__init__" ["self"] (Hu C) k)
 (W:∀X,kd (.Call (.Attribute 84 "__init__" apos) [] [] pos) none p2.line X=pure false)
 (Y:∀(j r:gV)(A:jF)(d:List Env)(s:hR)(H:Hp)(E:XK),FF (Lm (vX P w) P w K mg base ["self"] q (vd J) f (.ref j) [("__class__",r)] A d s H E) i<|Kt (NR K (vQ 0) Ej "head_by_tail")<|NR K (vQ 0) Ej "tail_by_head") :
    vR P w K mg base (vX P w) (k+1) f fd ["self"] (DX C):=by
  obtain⟨oc,od,kV,af,pm,an,j,r,ag,ah,rfl,lk,Z,D⟩:=F.ex
  refine e2a4 G.ex λf2 ai M G hB aa=>?_
  obtain⟨o1,o2,o3,l⟩:=D.cell
  refine Hx lk Z (S.x r) (λy c h=>?_) (λvs H Q E z9=>e2a2 z9 λp t e _=>by rw[e];rfl) λAr d s H vs Q E hr ab=>?_
  · have e : c = r := by
      by_cases e:(y==109)=true
      · rw[iO, e]at h; cases h; rfl
      · rw[iO, Bool.eq_false_iff.mpr e]at h; cases h
    subst e
    exact#[_,_,l,rfl]
  refine#[_,by rw[U];exact yQ (ET (Hw D rfl S.ks S.kc (S.par _ gY) aa M.find M.ty M.fn G hB hr vB (cw_nil M.fn) T)<|W _)<|DW<|Y j r Ar d s H E,?_]
  obtain⟨p,t,rfl,m,k⟩:=ab
  refine#[p,t,[],rfl,m,p,t,rfl,m,λL N H1 h1 h2 ae g1 g2 g3 g4=>?_]
  intro u v
  have O:p≠u:=vq g1 v
  have q2:L≠u:=vq g2 v
  have q3:N≠u:=vq g3 v
  refine#[_,rfl,p,C,t,_,rfl,(by rw[ve O];exact g1),ct.cl,cf.nH,(by show 3<1000;decide),?_]
  intro B g
  have R:p≠B:=λz=>by rw[<- z,vh]at g;cases g
  rw[ve R.symm]at g
  have r2:B≠u:=λz=>by rw[z,vh]at g;cases g
  rw[ve r2]at g
  have r3:L≠B:=vq g2 g
  have r4:N≠B:=vq g3 g
  refine#[_,rfl,p,C,t,_,rfl,(by rw[ve R,vh]),ct.cl,cf.nT,(by show 4<1000;decide),?_]
  have I:∀{b:gV} {o:HO},H b=↑o->b≠p->H1 b=↑o:=λh n=>g4 _ _ n h
  have z:∀{a:gV},a≠p->H1 a=none->H a=none:=λ{a} n h=>by
    cases e:H a with
    |none=>rfl
    |some o=>rw[I e n]at h;cases h
  refine k L N u B _ (λa ha=>?_) ?_ ?_ (λa ha=>?_) λb o nb Y=>?_
  · rcases ha with e|e|e|e <;> rw[e]
    · exact h1
    · exact h2
    · exact z O.symm v
    · exact z R.symm g
  · simp only[List.nodup_cons, iD, jl, mB, qa, mU, and_true, not_false_eq_true]
    exact#[#[ae,q2,r3],#[q3,r4],r2.symm]
  · rw[vh]; rfl
  · have pd : p ≠ L := λe => by rw[e, h1]at m; cases m
    have pe:p≠N:=λe=>by rw[e,h2]at m;cases m
    rcases ha with e|e|e|e<;>rw[e]
    · rw[ve pd.symm, ve r3, ve pd.symm, ve q2]; exact g2
    · rw[ve pe.symm, ve r4, ve pe.symm, ve q3]; exact g3
    · rw[ve O.symm, ve r2.symm, ve O.symm, vh]
    · rw[ve R.symm, vh]
  · have e := I Y nb
    rw[ve nb,ve<|vq e g,ve nb,ve<|vq e v]
    exact e
section
variable{D:Type}[Sls D]
def Rl{k:Nat}(M:Mk X.K C f)(F:vR X.prog X.w X.K X.mg X.base 122 k f fd ["self"] (DX C))(hr:wI (k+1) X.A)(hg:Gl X x)(hm:X.mg x=↑(.ref C))(hb:Binds X.K fd ["self"] [])(hx:Passes 122 X E)(J:(x==66)=false:=by decide) :
  EO X E T (.Call (.Name x p) [] [] pos) (λ(d:D)(O:Bd C true->D->Prop) _=>O #[[],[],0,[],[]] d):=by
 refine#[_,PN M F hr hg hm hb .nil hx J,λd F' R σ H O Ke Q s hw kn _=>?_];intro y c L n m;refine#[y,c,rfl,vh,λg i j l r hn nd P v S=>#[rfl,?_]]
 have N:∀a,a=g\/a=i\/a=j\/a=l->a≠y/\a≠c/\H a=none:=λa ha=>by
  have h:=hn a ha;have U:a≠y:=λz=>by rw[z,vh]at h;cases h
  rw[ve U]at h;have W:a≠c:=λz=>by rw[z,vh]at h;cases h
  rw[ve W]at h;exact#[U,W,h]
 have B:∀a,a∈adr y c g i j l true->a=y\/a=c\/a=g\/a=i\/a=j\/a=l:=λa h=>by simpa[adr] using h
 have G:∀a,a∈adr y c g i j l true->H a=none:=λa h=>(B a h).elim (λz=>by rw[z];exact L) λh=>h.elim (λz=>by rw[z];exact n) λh=>(N a h).2.2;have I:∀b o,H b=↑o->r b=↑o:=λb o q=>S b o (vq q L) (by rw[ve<|vq q L,ve<|vq q n];exact q);have Y:r c=some (.own y):=S c _ m (by rw[ve m,vh]);have hl:∀a,a∈adr y c g i j l true->r a≠none:=λa h=>(B a h).elim (λz=>by rw[z,P];simp) λh=>h.elim (λz=>by rw[z,Y];simp) λh=>by rw[v a h];simp
 have Z:Ext (λ_=>False) R H (λa=>R a\/a∈adr y c g i j l true) r:=#[λb o _ h=>I b o h,λa h=>h.elim .inl λq=>.inr<|G a q]
 refine kn _ d (.ref y) (λa=>a∈adr y c g i j l true) F' (λa=>R a\/a∈adr y c g i j l true) r hw #[λb o _ _ h=>I b o h,Z.new,λa h=>h.elim (λq=>.inr<|G a q) .inl,λa h _=>.inl h]
  #[Sls.st s.rel Z (λ_ z=>z.elim)<|λ_ _ z=>z,λa h=>.inl<|s.sub a h,λa h=>h.elim (λz=>?_)<|hl a,?_,.inl s.v4,s.vS] ⟨⟨y,c,g,i,j,l,[],rfl,λ_=>Iff.rfl,#[?_,P,Y,v _<|.inl rfl,v _<|.inr<|.inl rfl,.nil,λ_=>v _<|.inr<|.inr<|.inl rfl,λ_=>v _<|.inr<|.inr<|.inr rfl]⟩,λa h=>.inr h,λa h z=>s.xD a (s.sub a z)<|G a h,λh=>zu s.tab<|G T h⟩
 ·cases e:H a with
  |none=>exact ii e<|s.xD a z
  |some u=>rw[I a u e];simp
 ·refine e1a2 s.tab λps e t=>?_;exact#[ps,I _ _ e,t]
 ·show [y,c,g,i,j,l].Nodup;refine List.nodup_cons.mpr #[λh=>?_,List.nodup_cons.mpr #[λh=>?_,nd]]
  ·rcases List.mem_cons.mp h with z|z
   ·exact m z.symm
   ·exact(N y<|by simpa using z).1 rfl
  ·exact(N c<|by simpa using h).2.1 rfl
end
end WL
namespace WL
open PySem L2
open Rep (rp)
open Ow (sl)
open Sls (rel)
open Rep (rp)
open Ow (sl)
open Sls (rel)
instance:Yt Bool "bool" true:=#[λ{K R H x v} h=>by
 have h:v=V.bl x:=h;subst h
 exact#[_,zK.bl x,by rfl]]
instance{α β:Type}[Rep α][Rep β]:Yt (α×β) "tuple" true:=#[λ{K R H x v} h=>by
 obtain⟨a,u,w,rfl,_,h3,_⟩:=h
 exact#[_,zK.tup h3,by rfl]]
section
variable{X:Cx}{E:XK}{T:gV}{D α β:Type}[Sls D][Rep α][Rep β]{pos:Pos}
def Vc{a:iT}{p:Pos}{c:Wf D (α×β) D}(g:Gl X "len")(h:X.mg "len"=none)(i:EW X E T a c)(e:gX [a] X.env=79::gX [] X.env:=by rfl) :
  EW X E T (.Call (.Name "len" p) [a] [] pos) (cK c λ(f:Int->D->Prop) _ b=>f 2 b):=by
 refine e1a2 i λI j k=>?_;refine#[_,wT xG g h mQ (vn j vB e) (he:=e),λd F R l H f m Q s n o r=>k d F R l H _ m _ s n (λx b u t y H1 z A B C=>?_) r];obtain⟨q,v,w,rfl,_,G,J,L⟩:=C;exact#[_,_,rfl,.inr<|zn.of G,o _ b _ t y H1 z A B rfl]
end
variable[L2.GX]
section
variable{X:Cx}{scope:my}{T:List Str}{i j:Nat}{x y:Str}{c d:gV}
def Zk(a:scope.kind=.function/\oP scope X.env=pure []:=by exact#[rfl,rfl])
 (b:(∀z∈scope.names,z.2≠.cell)/\(∀z∈scope.names,z.2=.local->scope.names.lookup z.1=some .local)/\∀z∈scope.names,z.2≠.free:=by refine#[?_,?_,?_]<;>decide +kernel):zj X scope [] T [] [] :=
  #[a.1,a.2,b.1,b.2.1,(λ_ _ h=>by cases h),λz f e=>ii e<|b.2.2 z f,(λj z h=>by cases h),rfl]
def TU(a:scope.kind=.function/\oP scope X.env=pure [(x,c)]/\X.env.cells.lookup x=↑c/\X.N[i]?=↑x/\X.env.kindOf x=some .cell/\(o9 scope X.env).names.lookup x=some .cell:=by exact#[rfl,rfl,rfl,rfl,rfl,rfl])
 (b:(∀z∈scope.names,z.2≠.cell)/\(∀z∈scope.names,z.2=.local->scope.names.lookup z.1=some .local)/\∀z∈scope.names,z.2=.free->z.1=x:=by refine#[?_,?_,?_]<;>decide +kernel):zj X scope [(x,c)] T [x] [i] :=
  have f:∀{z:Str},z=x->kG z [(x,c)]=↑c:=λ{z} e=>by rw[e,iO,pO]
  #[a.1,a.2.1,b.1,b.2.1,(λz e h=>(lkc h).elim (λq=>by rw[q.1,q.2];exact a.2.2.1) λq=>by cases q),λz g e=>#[c,f (b.2.2 z g e)],(λk z h=>by
    cases k with
    |zero=>cases h;exact#[i,c,rfl,a.2.2.2.1,.inl a.2.2.2.2.1,f rfl,.inl a.2.2.2.2.2]
    |succ k=>cases h),rfl]
def bs2(a:scope.kind=.function/\oP scope X.env=pure [(y,d),(x,c)]/\X.env.cells.lookup x=↑c/\X.env.cells.lookup y=↑d/\X.N[i]?=↑x/\X.N[j]?=↑y/\X.env.kindOf x=some .cell/\X.env.kindOf y=some .cell/\(o9 scope X.env).names.lookup x=some .cell/\(o9 scope X.env).names.lookup y=some .cell:=by exact#[rfl,rfl,rfl,rfl,rfl,rfl,rfl,rfl,rfl,rfl])
 (b:(∀z∈scope.names,z.2≠.cell)/\(∀z∈scope.names,z.2=.local->scope.names.lookup z.1=some .local)/\(∀z∈scope.names,z.2=.free->z.1=x\/z.1=y)/\¬x=y:=by refine#[?_,?_,?_,?_]<;>decide +kernel):zj X scope [(y,d),(x,c)] T [x,y] [i,j] :=
  have f:∀{z:Str},z=y->kG z [(y,d),(x,c)]=↑d:=λ{z} e=>by rw[e,iO,pO]
  have g:∀{z:Str},z=x->kG z [(y,d),(x,c)]=↑c:=λ{z} e=>by rw[e,iO,beq_eq_false_iff_ne.mpr b.2.2.2,iO,pO]
  #[a.1,a.2.1,b.1,b.2.1,(λz e h=>(lkc h).elim (λq=>by rw[q.1,q.2];exact a.2.2.2.1) λh=>(lkc h).elim (λq=>by rw[q.1,q.2];exact a.2.2.1) λq=>by cases q),λz l e=>(b.2.2.1 z l e).elim (λq=>#[c,g q]) λq=>#[d,f q],(λk z h=>by
    cases k with
    |zero=>cases h;exact#[i,c,rfl,a.2.2.2.2.1,.inl a.2.2.2.2.2.2.1,g rfl,.inl a.2.2.2.2.2.2.2.2.1]
    |succ k=>cases k with
      |zero=>cases h;exact#[j,d,rfl,a.2.2.2.2.2.1,.inl a.2.2.2.2.2.2.2.1,f rfl,.inl a.2.2.2.2.2.2.2.2.2]
      |succ k=>cases h),rfl]
end
structure Dc(α:Type) where
 l:List (Int×α)
def PK{α:Type}[Rep α](R:Rg)(H:Hp):List (Int×α)->List (Key×V)->Prop:=Paired λe u=>u.1=iE e.1/\rp R H e.2 u.2
section
variable{α:Type}[Rep α]
def Rm(e:Ext R R H b c):∀{l:List (Int×α)} {a:List (Key×V)},PK R H l a->PK b c l a:=by
 intro _ _ z
 induction z with
 |nil=>exact .nil
 |cons h t d=>exact .cons #[h.1,Rep.st h.2 e] d
def Lr{k:Int}:∀{l:List (Int×α)} {us:List (Key×V)},PK R H l us->(∀b,lk l k=↑b->∃v,yI us (iE k)=↑v/\rp R H b v)/\(lk l k=none->yI us (iE k)=none):=by
 intro z0 z1 z9
 induction z9 with
 |nil=>exact#[(λb h=>by cases h),λ_=>rfl]
 | @cons e u l us h t Yv =>
  have i:=Yv;by_cases q:e.1=k
  ·have e1:lk (e::l) k=↑e.2:=by unfold lk;rw[i9,decide_eq_true q];rfl
   rw[e1];refine#[λb hb=>?_,(λz=>by cases z)];cases hb;exact#[u.2,zp (by rw[h.1,q]),h.2]
  ·have e1:lk (e::l) k=lk l k:=by unfold lk;rw[i9,ik q]
   rw[e1,zq<|by rw[h.1];intro z;exact q<|n6 z];exact i
def M7{k:Int}{l:List (Int×α)}{us:List (Key×V)}(h:PK R H l us):(yI us<|iE k).isSome=(lk l k).isSome:=by
 have i:=Lr (k:=k) h
 cases e:lk l k with
 |none=>rw[i.2 e];rfl
 |some b=>obtain⟨v,hv,_⟩:=i.1 b e;rw[hv];rfl
def Ls:∀{l:List (Int×α)} {a:List (Key×V)},PK R H l a->a.length=l.length
 |_,_,.nil=>rfl
 |_,_,.cons _ t=>by rw[iz,iz,Ls t]
def Rn{k:Int}{x:α}{v:V}(r:rp R H x v):∀{l:List (Int×α)} {us:List (Key×V)},PK R H l us->PK R H (l++[(k,x)]) (us++[(iE k,v)])
 |_,_,.nil=>.cons #[rfl,r] .nil
 |_,_,.cons h t=>.cons h<|Rn r t
def Yx{k:Int}{x:α}{v:V}(r:rp R H x v):∀{l:List (Int×α)} {us:List (Key×V)},PK R H l us->PK R H (l.map λe=>if e.1=k then (e.1,x) else e) (us.map λkv=>if kv.1=iE k then (kv.1,v) else kv):=by
 intro z0 z1 z9
 induction z9 with
 |nil=>exact .nil
 | @cons e u l us h t Yv =>
  refine .cons ?_<|Yv;dsimp only;by_cases q:e.1=k
  ·rw[gU q,gU<|by rw[h.1,q]];exact#[h.1,r]
  ·rw[ci q,ci<|by rw[h.1];intro z;exact q<|n6 z];exact h
def Ro{k:Int}(r:rp R H x v){l:List (Int×α)}{us:List (Key×V)}(h:PK R H l us):PK R H (pk l k x) (putK us (iE k) v):=by
 unfold putK pk;rw[As,M7 h]
 cases (lk l k).isSome with
 |true=>rw[gU rfl,gU rfl];exact Yx r h
 |false=>rw[ci h8,ci h8];exact Rn r h
end
instance{α:Type}[Rep α]:Ow (Dc α):=#[λF R H x v=>∃a us,v=↑(.ref a)/\(∀b,F b↔b=a)/\H a=↑(.dK us)/\PK R H x.l us,
 λh e s n=>by
  refine e2a4 h λa us h1 h2 h3 h4=>?_
  exact#[a,us,h1,h2,e.keep a _ (n a<|(h2 a).mpr rfl) h3,Rm (e.wide s) h4],
 λh e=>by
  refine e2a4 h λa us h1 h2 h3 h4=>?_
  exact#[a,us,h1,λb=>(e b).symm.trans (h2 b),h3,h4]]
instance{α:Type}[Rep α]:Hs (Dc α):=#[λz9=>e2a2 z9 λ_ _ h _=>#[_,h]]
section
variable{D PO τ:Type}[Sls D][Sls PO][Ow τ]{α:Type}[Rep α]
def DY{i:Nat}[Sls c][A:At i D (Dc α) c](s:wq T F R H d e):∃a b,e[i]?=↑(some<|.ref a)/\H a=↑(.dK b)/\PK R H (A.get d).l b:=by obtain⟨v,j,k,f,m,⟨a,b,rfl,n,g,h⟩,o⟩:=A.take s.rel;exact#[a,b,f,g,h]
def Rp{i:Nat}[Sls w][A:At i D (Dc α) w][U:Pt i w (Dc α) D](s:wq T F R H d x):∃a g,x[i]?=↑(some<|.ref a)/\H a=↑(.dK g)/\PK R H (A.get d).l g /\
  ∀(j:List (Int×α)) (f:List (Key×V)),PK R H j f->Ch T F R H F R (upd H a<|.dK f)/\wq T F R (upd H a<|.dK f) (U.put (A.hole d) #[j]) x:=by
 obtain⟨v,N,O,y,m,⟨a,g,rfl,p,E,G⟩,I⟩:=A.take s.rel;have r:F a:=(m.all a).mpr<|.inl<|(p a).mpr rfl;have J:a≠T:=λz=>s.vS (by rw[<- z];exact r);refine#[a,g,y,E,G,λj f L=>?_];have B:=zR (F:=F) (R:=R) (H:=H) (a:=a) (o:=.dK f);have C:∀c,c=a->R c:=λc z=>by rw[z];exact s.sub a r
 have k:∀b u,b≠a->H b=↑u->upd H a (.dK f) b=↑u:=λb u z e=>by rw[ve z];exact e
 refine#[#[λb o n _ e=>k b o (λz=>n<|by rw[z];exact r) e,λ_ h=>.inl h,λ_ h=>.inl h,λ_ h _=>h],Pt.same (A:=U) (Sls.st I B C λc z q=>m.yE c ((p c).mpr q) z) y m #[a,f,rfl,p,vh,Rm (B.wide C) L],s.sub,λc z=>?_,?_,s.v4,s.vS]
 ·by_cases e:c=a
  ·rw[e,vh];simp
  ·rw[ve e];exact s.xD c z
 ·refine e1a2 s.tab λM e t=>?_;exact#[M,k _ _ (λz=>J z.symm) e,t]
def EU{a:iT}(i:Nat){D0:Type}[Sls D0][A:At i D (Dc α) D0]{wk:Wf D Int D}(hu:X.A.units+1<kT)(hn:PE X (.Name x p1) (vQ i))(hk:EW X E T a wk)(hs:P2 a:=by intro _ _;rfl) :
  EW X E T (.Subscript (.Name x p1) a pos) (cK wk λ(Kn:α->D->Prop) k d1=>∃v,lk (A.get d1).l k=↑v/\Kn v d1):=by
 refine e1a2 hk λta a1 a2=>?_;refine#[_,GV hu hn a1 hs,λd F R σ H Kn Ke Q s hw kn ke=>?_];obtain⟨y0,us0,h1,_,_⟩:=DY (i:=i) s;refine#[_,h1,a2 d F R σ H _ Ke _ s hw (λk d1 u F1 R1 H1 q1 c1 s1 r1=>?_) ke];subst r1;obtain⟨y,us,g1,g2,g3⟩:=DY (i:=i) s1;rw[h1]at g1;cases g1;refine e1a2 q1 λz z1 z2=>?_;refine e1a2 ((Lr g3).1 z z1) λv v1 v2=>?_;have g:=yz.k (k:=iE k) g2;rw[v1]at g;exact#[_,v,rfl,g,kn z d1 v F1 R1 H1 z2 c1 s1 v2]
def Rq(i:Nat){B:Type}[Sls B][A:At i D (Dc α) B][U:Pt i B (Dc α) D][J:Pj D PO n]{M:Wf D Int D}{N:Wf D α D}(hu:X.A.units+1<kT)(hn:PE X (.Name x O) (vQ i))(hk:EW X E T a M)(he:EW X E T e N)
 (hs:kd e (some<|.Subscript (.Name x O) a p3) pos.line X.env=pure false:=by rfl) :
    S1 X E T ms n (.Assign [.Subscript (.Name x O) a p3] e pos) (λ(d:D)(P:D->Prop)(Kr:τ->PO->Prop) j=>N d (λv I=>M I (λk r=>(A.get r).l.length<hJ/\P (U.put (A.hole r) #[pk (A.get r).l k v])) λC f=>j C<|J.pj f) λC f=>j C<|J.pj f):=by
  refine e1a2 hk λta a1 a2=>?_
  refine e1a2 he λte b1 b2=>?_
  have Q:∀{F R g h:Rg} {H b:Hp} {C y:gV} {f:D} {m:St} {j:gV->PO->Prop},(∀C y S g h b,j C S->Ch T F R H g h b->wq T g h b S (m.take n)->E (.ref C) ↑y b)->j C (J.pj f)->Ch T F R H g h b->wq T g h b f m->E (.ref C) ↑y b:=λt q c p=>by
    refine e1a2 (wR (PO:=PO) p) λG z L=>?_
    exact t _ _ _ G _ _ q (c.less z) L
  refine#[_,GY hu hn a1 b1 hs,λd F R m H P Kr j En s hw kn kr t=>b2 d F R m H _ _ _ s hw (λv I u F1 R1 H1 q1 W o r1=>?_) λC y f g h b q c p=>Q t q c p]
  obtain⟨y0,aa,Y,_,_⟩:=DY (i:=i) o
  refine#[_,Y,a2 I F1 R1 m H1 _ _ _ o q1 (λk r w F2 R2 H2 Z c2 s2 r2=>?_) λC y f g h b q c p=>Q t q (Ch.trans s o.tab W c) p]
  subst r2
  refine e2a4 (Rp (i:=i) s2) λy us z L g3 g4=>?_
  rw[Y]at z
  cases z
  obtain⟨c3,s3⟩:=g4 _ _<|Ro (k:=k) (o.val c2 r1) g3
  exact#[_,_,rfl,GU.k (k:=iE k) L (by rw[Ls g3];exact Z.1),kn _ F2 R2 _ m Z.2 (Ch.trans s o.tab W<|Ch.trans o s2.tab c2 c3) s3<|Ag.refl _ _]
end
section
variable{D PO τ:Type}[Sls D][Sls PO][Ow τ]{α β:Type}[Rep α][Rep β]
def Gx{i:Nat}[Sls c][A:At i D (List Int) c](s:wq T F R H d e):∃a,e[i]?=↑(some<|.ref a)/\H a=↑(.lst<|(A.get d).map V.int):=by obtain⟨v,h,j,f,_,⟨_,u,rfl,a,k,rfl,_,b,g⟩,_⟩:=A.take s.rel;rw[paired_ints g]at b;exact#[a,f,b]
def Vd(i j:Nat)[Sls D1][Sls D2][A:At i D (List Int) D1][B:At j D (List Int) D2](u:X.calm=true)(v:Gl X "sorted")(C:X.mg "sorted"=none)(L:Gl X "set")(M:X.mg "set"=none)(hn:PE X (.Name x c) (vQ i))(G:PE X (.Name y e) (vQ j))
 (f:gX [.Name x c] X.env=(false,eval (.Name x c) X.env)::gX [] X.env:=by rfl) (g:gX [.Name y e] X.env=(false,eval (.Name y e) X.env)::gX [] X.env:=by rfl)
 (h:gX [.BinOp (.Call (.Name "set" N) [.Name x c] [] O) .BitXor (.Call (.Name "set" P) [.Name y e] [] S) W] X.env=(false,eval (.BinOp (.Call (.Name "set" N) [.Name x c] [] O) .BitXor (.Call (.Name "set" P) [.Name y e] [] S) W) X.env)::gX [] X.env:=by rfl) :
    EO X E T (.Call (.Name "sorted" q1) [.BinOp (.Call (.Name "set" N) [.Name x c] [] O) .BitXor (.Call (.Name "set" P) [.Name y e] [] S) W] [] pos)
      (λ(d:D)(Y:OL Int->D->Prop) _=>(wX (A.get d)/\wX (B.get d)/\∃U:List Int,U.length<64/\(∀k∈A.get d,k∈U)/\∀k∈B.get d,k∈U)/\Y #[xr (A.get d)<|B.get d] d):=by
  refine#[_,wT (B2 u) v C kK (vn (xg Uw (xT (Jv u) L M ou (vn hn vB f) (he:=f))<|xT (Jv u) L M ou (vn G vB g) (he:=g)) vB h) (he:=h),λd F R σ H Y Ke Q s hw kn ke=>?_]
  obtain⟨⟨Z,rb,U,hU,ua,ub⟩,o⟩:=hw
  have la:=wE Z ua
  have lb:=wE rb ub
  refine e1a2 (Gx (i:=i) s) λa a1 a2=>?_
  refine#[_,a1,a,A.get d,rfl,wD.of a2,q0a,λp ka hp aa ab ma=>?_]
  refine e0a3 (s.new (xC X.w p ka) hp) λt c1 _=>?_
  refine e1a2 (Gx (i:=j) t) λb b1 b2=>?_
  refine#[_,b1,b,B.get d,rfl,wD.of b2,q0a,λq kb hq ae af mb=>?_]
  refine e0a3 (t.new (xC X.w q kb) hq) λI c2 _=>?_
  have J:p≠q:=vq vh hq
  refine#[p,q,ka,kb,rfl,rfl,by rw[ve J];exact vh,vh,q0a,λr m hr n mc=>?_]
  refine e0a3 (I.new (xC X.w r m) hr) λs3 c3 _=>?_
  have mm:∀k,k∈m↔k∈xr (A.get d) (B.get d):=λk=>by
    rw[mc,zk<|vr rb,ma,mb]
    by_cases h1:k∈A.get d<;>by_cases h2:k∈B.get d<;>simp[h1,h2]
  have lc:m.length<64:=by
    have:=SX.zr m U n λk o=>by
      rw[mc,ma,mb]at o
      exact o.elim (λz=>ub k z.1) λz=>ua k z.2
    lia
  refine#[r,m,rfl,vh,lc,λl ns hl pn sn=>?_]
  rw[Ew pn sn,EG n mm<|wY Z]
  refine e1a3 (xW s3 hl<|yo (R:=R)<|xr (A.get d)<|B.get d) λR' c4 s4 n4=>?_
  exact kn _ d _ _ F R' _ o (Ch.trans s t.tab c1<|Ch.trans t I.tab c2<|Ch.trans I s3.tab c3 c4) s4 n4
end
structure T3(α β γ:Type) where
 a:α
 b:β
 c:γ
instance{α β γ:Type}[Ow α][Ow β][Ow γ]:Ow (T3 α β γ):=#[λF R H x v=>∃p u1 u2 u3 F1 F2 F3,v=↑(.ref p)/\¬R p/\H p=↑(.tup [u1,u2,u3])/\Ez F F1 F2 F3/\sl F1 R H x.a ↑u1/\sl F2 R H x.b ↑u2/\sl F3 R H x.c ↑u3,
 λh e s n=>by
  obtain⟨p,u1,u2,u3,F1,F2,F3,h1,h2,h3,t,g1,g2,g3⟩:=h
  exact#[p,u1,u2,u3,F1,F2,F3,h1,(e.wide s).not h2 h3,e.keep p _ (λz=>h2<|s p z) h3,t,Ow.st g1 e s λa z=>n a<|(t.all a).mpr<|.inl z,Ow.st g2 e s λa z=>n a<|(t.all a).mpr<|.inr<|.inl z,Ow.st g3 e s λa z=>n a<|(t.all a).mpr<|.inr<|.inr z],
 λh e=>by
  obtain⟨p,u1,u2,u3,F1,F2,F3,h1,h2,h3,t,g⟩:=h
  exact#[p,u1,u2,u3,F1,F2,F3,h1,h2,h3,#[λa=>(e a).symm.trans (t.all a),t.IQ,t.Kk,t.Kl],g]]
section
variable{D PO τ:Type}[Sls D][Sls PO][Ow τ]{α β γ:Type}[Ow α][Ow β][Ow γ]
def Ve{x1}(i j k:Nat)[Sls D'][Sls P][Sls Q][Sls S][Hs α][Hs β][Hs γ][g:At i D α P][l:At j P β Q][t:At k Q γ S][J:Pj S PO n](u:PE X (.Name x v) (vQ i))(w:PE X (.Name y m) (vQ j))(A:PE X (.Name z e) (vQ k))
 (h1:gX [.Name x v,.Name y m,.Name z e] X.env=(false,eval (.Name x v) X.env)::gX [.Name y m,.Name z e] X.env:=by rfl) (h2:gX [.Name y m,.Name z e] X.env=(false,eval (.Name y m) X.env)::gX [.Name z e] X.env:=by rfl) (h3:gX [.Name z e] X.env=(false,eval (.Name z e) X.env)::gX [] X.env:=by rfl) :
    S1 X E T ms n (.Return (some<|.Tuple [.Name x v,.Name y m,.Name z e] x1 p4) pos) (λ(d:D)(_:D'->Prop)(U:T3 α β γ->PO->Prop) _=>U #[g.get d,l.get<|g.hole d,t.get<|l.hole<|g.hole d]<|J.pj<|t.hole<|l.hole<|g.hole d):=by
  refine#[_,CH<|PF<|vn u (vn w (vn A vB h3) h2) h1,λd F R σ H Kn U Ke En s hw kn kr ke=>?_]
  refine e3a4 (g.take s.rel) λ_ G1 G2 W b g1 r1=>?_
  obtain⟨B,rfl⟩:=Hs.has g1
  refine e3a4 (l.take r1) λ_ _ _ Y _ g2 r2=>?_
  obtain⟨C,rfl⟩:=Hs.has g2
  refine e3a4 (t.take r2) λ_ _ _ Z _ g3 _=>?_
  obtain⟨I,rfl⟩:=Hs.has g3
  refine#[B,W,C,Y,I,Z,(by show 3<=hJ;decide),λp hp=>?_]
  refine e0a3 (s.new (.tup [B,C,I]) hp) λL c1 n1=>?_
  refine e3a4 (g.take L.rel) λv1 o E1 b1 b k1 q1=>?_
  refine e3a4 (l.take q1) λv2 q E2 b2 c k2 q2=>?_
  refine e3a4 (t.take q2) λv3 r E3 b3 f k3 q3=>?_
  rw[W]at b1
  rw[Y]at b2
  rw[Z]at b3
  cases b1
  cases b2
  cases b3
  refine e1a2 (J.le q3) λG l1 l2=>?_
  have i1:∀a,o a->F a:=λa h=>(b.all a).mpr<|.inl h
  have i2:∀a,q a->F a:=λa h=>(b.all a).mpr<|.inr<|(c.all a).mpr<|.inl h
  have i3:∀a,r a->F a:=λa h=>(b.all a).mpr<|.inr<|(c.all a).mpr<|.inr<|(f.all a).mpr<|.inl h
  have M:∀a,G a->F a:=λa h=>(b.all a).mpr<|.inr<|(c.all a).mpr<|.inr<|(f.all a).mpr<|.inr<|l1 a h
  have dG:∀a,o a\/q a\/r a->¬G a:=λa h z=>by
    have N:=l1 a z
    rcases h with h|h|h
    · exact b.yE a h<|(c.all a).mpr<|.inr<|(f.all a).mpr<|.inr N
    · exact c.yE a h<|(f.all a).mpr<|.inr N
    · exact f.yE a h N
  have O:∀a,o a\/q a\/r a->F a:=λa h=>h.elim (i1 a) λh=>h.elim (i2 a)<|i3 a
  exact kr _ _ (.ref p) (λa=>o a\/q a\/r a) G R _ hw #[c1.keep,λ_ h=>.inl h,λa h=>.inl<|h.elim (O a)<|M a,λ_ h _=>h] #[l2,λa h=>s.sub a<|M a h,L.xD,L.tab,s.v4,λh=>s.vS<|M T h]
    #[#[p,B,C,I,o,q,r,rfl,n1,vh,#[λ_=>Iff.rfl,λa h k=>b.yE a h<|(c.all a).mpr<|.inl k,λa h k=>b.yE a h<|(c.all a).mpr<|.inr<|(f.all a).mpr<|.inl k,λa h k=>c.yE a h<|(f.all a).mpr<|.inl k],k1,k2,k3],λa h=>s.sub a<|O a h,λa h z=>dG a h z,λh=>s.vS<|O T h]
def Vf(i j k:Nat){σ1 Yk σ3 D0 D1 D2 D3 D4 D5:Type}[Ow σ1][Ow Yk][Ow σ3][Sls D0][Sls D1][Sls D2][Sls D3][Sls D4][Sls D5][A:At i D σ1 D0][U:Pt i D0 α D1][A2:At j D1 Yk D2][U2:Pt j D2 β D3][A3:At k D3 σ3 D4][U3:Pt k D4 γ D5][J:Pj D PO n]{we:Wf D (T3 α β γ) D}
 (hp:PG X tg (Xl X.K 3<|F8 (Dl i)<|F8 (Dl j)<|F8 (Dl k) Xk)) (hi:i∉ms) (hj:j∉ms) (hk:k∉ms) (he:EO X E T e we)
 (hb:∀{te:TE} {t:TG},PE X e te->PG X tg t->PS X (.Assign [tg] e pos) (Xm te t):=by intro te t h1 h2;exact Ku h1 h2) :
    S1 X E T ms n (.Assign [tg] e pos) (cS we J.pj λ(Kn:D5->Prop)(Kr:τ->PO->Prop) x d1=>Kn<|U3.put (A3.hole<|U2.put (A2.hole<|U.put (A.hole d1) x.a) x.b) x.c):=by
  refine e1a2 he λt h1 h2=>?_
  refine#[_,hb h1 hp,λd F R σ H Kn Kr Ke En s hw kn kr ke=>h2 d F R σ H _ _ _ s hw (λx d1 v F1 F2 R1 H1 q1 c1 s1 m1=>?_) λC y d' F' R' H' q c s'=>?_]
  · obtain⟨p, u1, u2, u3, G1, G2, G3, e1, e2, e3, t3, g1, g2, g3⟩ := m1.is
    cases e1
    have j1:∀a,G1 a->F1 a:=λa h=>(t3.all a).mpr<|.inl h
    have j2:∀a,G2 a->F1 a:=λa h=>(t3.all a).mpr<|.inr<|.inl h
    have j3:∀a,G3 a->F1 a:=λa h=>(t3.all a).mpr<|.inr<|.inr h
    refine e1a2 (Gr (i:=i) s1 (x:=x.a) (v:=u1) (F1:=G1) #[g1,λa h=>m1.sub a<|j1 a h,λa h z=>m1.yE a (j1 a h) z,λh=>m1.tab<|j1 T h]) λL1 k1 f1=>?_
    refine e1a2 (Gr (i:=j) f1 (x:=x.b) (v:=u2) (F1:=G2) #[g2,λa h=>m1.sub a<|j2 a h,λa h z=>(k1 a z).elim (λq=>t3.IQ a q h)<|m1.yE a<|j2 a h,λh=>m1.tab<|j2 T h]) λL2 k2 f2=>?_
    refine e1a2 (Gr (i:=k) f2 (x:=x.c) (v:=u3) (F1:=G3) #[g3,λa h=>m1.sub a<|j3 a h,λa h z=>(k2 a z).elim (λq=>t3.Kl a q h) λz=>(k1 a z).elim (λq=>t3.Kk a q h)<|m1.yE a<|j3 a h,λh=>m1.tab<|j3 T h]) λL3 k3 f3=>?_
    exact#[p,[u1,u2,u3],rfl,zn.of e3,rfl,u1,[u2,u3],rfl,u2,[u3],rfl,u3,[],rfl,rfl,kn _ L3 R1 H1 _ q1 (c1.less λa h=>(k3 a h).elim (λq=>.inl<|j3 a q) λh=>(k2 a h).elim (λq=>.inl<|j2 a q) λh=>(k1 a h).elim (λq=>.inl<|j1 a q) .inr) f3<|((Ag.set hi).trans<|Ag.set hj).trans<|Ag.set hk]
  · refine e1a2 (wR (PO := PO) s') λG g1 g2 => ?_
    exact ke C y _ G R' H' q (c.less g1) g2
end
end WL
namespace L2
variable[L2.GX]
open PySem PySem.Spec PyProof.Rows
noncomputable abbrev xZ(X:Cx)(a:List (gV×Obj))(h:XK)(i:St->Prop):Cx :=
 { X with pn:=a,xe:=λe j=>∃(b:List (gV×Obj)) (c:St) (d:Hp) (f:hR) (C x:gV) (g:Hp),e=.ref x/\Inv { X with pn:=a} b c d f/\i c/\Et X.prog X.w X.stack d f g C x j/\h (.ref C) ↑x g}
def Inv.Yy(I:Inv X a b H s):Inv (xZ X (X.pn++a) d e) [] b H s :=
 #[55,I.os,I.bare,I.base,I.loc,I.cell,I.free,I.yC,λp c=>I.pin p (by simpa using c),I.vW,I.len]
def Inv.Hy(I:Inv (xZ X (X.pn++a) e f) b c H s):Inv X a c H s :=
 #[55,I.os,I.bare,I.base,I.loc,I.cell,I.free,I.yC,λp d=>I.pin p<|ji _ d,I.vW,I.len]
def Inv.a0D(I:Inv (xZ X b d e) a c H s):Inv { X with pn:=b} a c H s :=
 #[55,I.os,I.bare,I.base,I.loc,I.cell,I.free,I.yC,I.pin,I.vW,I.len]
def Lu(c:PJ)(X:Cx)(E:XK)(d:St):Prop:=∀(a:List (gV×Obj)) (H:Hp) (s:hR) (e:cr) (b:hR),Inv X a d H s->c X.stack H s E e b->X.xe e b
def a0E(h:c b):Lu 122 (xZ X d f c) f b:=by intro a g i e m I j;obtain⟨C,x,k,rfl,F,l⟩:=j;exact#[a,b,g,i,C,x,k,rfl,I.a0D,h,F,l]
def Vg(F:vR X.prog X.w X.K X.mg X.base l k f m g n)(o:wI k X.A)(p:Binds X.K m g d)(q:Vals b d)(t:Lu l X E i)
 (I:Inv X a i H s)(r:Vals vs us)(h:n (vs++b) H Q E):hX 28 X.A (call (.ref f) us) (EP X a i Q) X.xe s:=by
  have j:Vals (vs++b) (us++d):=r.append q
  have v:(us++d).length=g.length:=by rw[<- j.length];exact F.len _ _ _ _ h
  refine mX<|j7 (F.run X.A X.stack s H ⟨us,[]⟩ (us++d) (vs++b) Q E o I.Jh (p s us I.yZ v) j h) λr x c=>?_
  cases r with
  |error e=>exact t a H s e x I c
  |ok y =>
    cases y with
    |ret u=>exact I.after c
    |next=>exact iL c
    |brk=>exact iL c
    |cont=>exact iL c
def Rr(c:PJ)(X:Cx)(C:gV)(m:Str)(d:Sp)(a:List V)(E:XK)(e:TE)(t:TA):TE:=λb H Q=>Lu c X E b/\Gb C m d a E e t b H Q
def Rs(G:PE X o J)(c:Bc X.K C)(v:Meth X.K C m f)(F:vR X.prog X.w X.K X.mg X.base CX k f L M N)(O:wI k X.A)(P:Binds X.K L M R)(hd:Vals i R)(S:PA X (e::d) t)
 (j:gX (e::d) X.env=67::gX d X.env:=by rfl) (n:(jx pos<|gX d X.env).any (·.1)=false:=by rfl)
 (ht:eval (.Call (.Attribute o m apos) (e::d) [] pos) X.env=(do
 let y <- eval o X.env
 ng apos.atName
 let (f,first) <- k9 [y] (mY y m T)
 nV pos f first (jx pos (gX (e::d) X.env)) (ni pos (lh [] X.env))):=by rfl) :
    PE X (.Call (.Attribute o m apos) (e::d) [] pos) (Rr CX X C m N i E J t):=by
  intro b s z H Q I h
  obtain⟨U,h⟩:=h
  refine oW (pl:=T) (vU (G b s z H _ I h) λu Y p=>e2a3 p λx H1 B Z g=>e3a4 g λa dx fs ex ea l q=>?_) ht
  subst ex
  obtain rfl:u=iq a:=Z
  refine BB B ea c v l ?_
  refine pX (first:=[.ref a]) (h₀:=X.base) I.ok.mod.BK v.kp (vU (S pos b Y z H1 _ B q) λus s2 p=>e2a3 p λvs H2 D r q2=>#[D.yZ,?_]) j n
  exact Vg (us:=.ref a::us) (vs:=.ref a::vs) F O P hd U D (.cons rfl r) q2
def a2I(o:Option (List V))(h h':iX):Prop:=match o with
 |none=>h'=h
 |some xs=>∃Ai:List cr,Vals xs Ai/\xs.length<=hJ/\h'=h.push { cls:=.type "tuple",data:=.seq Ai.toArray}
def Lay(o:Option (List V))(H H':Hp):Prop:=match o with
 |none=>H'=H
 |some xs=>∃p,H p=none/\H'=upd H p (.tup xs)
def ClO(X:Cx)(d:iT)(e:List gV)(o:Option (List V)):Prop:=∀(x C:gV) (a:List (gV×Obj)) (s:hR) (f:St) (H:Hp) (Q:Bool->hR->Prop) (E:cr->hR->Prop),C∈e->Inv (hand X x) a f H s->(∃b,s.heap.get? x=↑b/\b.cls=.ref C) ->
 (∀c,a2I o s.heap c->Q true { s with heap:=c}) ->
 hX 28 (X.A.mark<|some<|.ref x) (eval d X.env) (λv g=>hX 28 (X.A.mark<|some<|.ref x) (excMatches (.ref x) v) Q E g) E s
def Yz{r:Nat}(e:Gl X f)(g:X.mg f=↑(.ref c))(h:Gl X i)(j:X.mg i=↑(.ref d))(l:lR X.K (.ref c) [.ref c,.ref d]=↑true)(m:lR X.K (.ref d) [.ref c,.ref d]=↑true)
 (t:(f==66)=false:=by decide) (u:(i==66)=false:=by decide) :
    ClO X (.Tuple [.Name f D,.Name i F] r pos) [c,d] (some [.ref c,.ref d]):=by
  intro x n p s G H Q E v I ⟨J,y,A⟩ k
  have B:jY 28 s.heap (typeOf<|.ref x) (.ref n):=A▸(r8 y).andThen .now
  refine wpAny_Tuple_spliced ?_
  refine kf<|zD (X:=hand X x) I e g (kf<|zD (X:=hand X x) I h j (lH ?_) u) t
  refine#[by show 2<=hJ;decide,?_]
  have q:∀b o,s.heap.get? b=↑o->(s.heap.push { cls:=.type "tuple",data:=.seq [iq c,iq d].toArray}).get? b=↑o:=λb o z=>ce _ z
  have C:lR X.K (.ref n) [.ref c,.ref d]=↑true:=by
    rcases List.mem_cons.mp v with z|z
    · rw[z]; exact l
    · rw[List.mem_singleton.mp z]; exact m
  refine(PySem.W.exm_tup2 (λa o z=>q a o<|I.yZ a o z) (B.keeps q) (ic _ rfl) C).here ?_
  exact k _ #[[.ref c,.ref d],.cons rfl<|.cons rfl .nil,(by show 2<=hJ;decide),rfl]
def Inv.adopt(I:Inv X a j H s)(f:By X a H p)(c:wp X.prog X.w (upd H p o) s.heap p o):Inv X a j (upd H p o) s:=by
 refine e0a6 f λi k r l n q=>?_;have d:∀b u,H b=↑u->b≠p:=λb u e z=>by rw[z,i]at e;cases e
 have J:=I.step (h':=s.heap) (g':=s.gens) (d':=s.drawn) (t':=s.toks) (ch:=[p]) (H':=upd H p o) (λb g=>by rw[List.mem_singleton.mp g];exact#[l,k,n,q]) (λb o _ _ _ e _=>e) (λb o _ _ _ e _=>#[o.slots,e])
  (λb _ g _ e=>by rw[ve λz=>g<|by rw[z];exact List.mem_singleton.mpr rfl];exact e) (λb o _ e=>#[o,e]) (λb t e=>by rw[ve<|d b _ e];exact e) (λb o u e=>by rw[ve<|d b _ e];exact e) (λb v e=>#[#v[],by rw[ve<|d b _ e,e];simp]) (λm h=>h) (I.vW.WJ i c) I.bare
 exact J
def a0F(i:XK->(St->Prop)->List (gV×Obj)->TS)(j:List gV)(o:Option (List V))(k:gV->TS):TS:=λD d H=>∃e:XK,(∀c f b,e c f b->∃C∈j,c=.ref C)/\(∀g,i e (λh=>h=d) g D d H)/\∀(c:cr)(f:Option gV)(b a:Hp),e c f b->Lay o b a->∀x,k x D d a
def Vh(E:X.stack=X.env::X.outer)(Y:ClO X ty Cs o)
 (hb:∀U Φ N,FF (xZ X N U Φ) body<|tb U Φ N) (hs:∀x,FF (hand X x) (b0::i)<|th x) :
    PS X (.Try body [.ExceptHandler ↑ty none (b0::i) hp] [] [] tp) (a0F tb Cs o th):=by
  intro d s σ H D I h
  refine e1a3 h λU Z hB hH=>?_
  refine wpAny_Try_except<|jm (hb U _ (X.pn++d) [] s σ H D I.Yy<|hB _) (λO g q=>?_)<|λe g q=>?_
  · cases O with
    |next=>obtain⟨a,c,J,z⟩:=q;exact oj #[a,c,J.Hy,z]
    |brk=>obtain⟨a,c,J,z⟩:=q;exact#[a,c,J.Hy,z]
    |cont=>obtain⟨a,c,J,z⟩:=q;exact#[a,c,J.Hy,z]
    |ret u=>obtain⟨v,a,c,J,r,z⟩:=q;exact#[v,a,c,J.Hy,r,z]
  · obtain⟨aa, k, H1, s0, C', x, c, rfl, J, ab, F, hE⟩ := q
    subst ab
    refine e1a2 (Z _ _ _ hE) λC hC hc=>?_
    cases hc
    have nf:=F.Z9 J.frn
    refine e2a2 F.fly λB a0 O ae=>?_
    have af:mi B (X.env::X.outer) x (.ref C') a0 g.heap:=by rw[<- E];exact O
    have ag:X.A.frames=↑(X.env::X.outer):=by rw[<- E];exact J.ok.frames
    have ah:X.env.frame=↑X.env.locals:=ym I E
    refine wpAny_looks_onW ag ah af λh4 P ai=>wpAny_landsW P λl m aj=>?_
    have j:g.heap.UpToSlots l:=ai.trans aj
    have G:∀(n:iX)(Q:Nat),B.StaysIn n->g.heap.UpToSlots n->Inv X d k c { g with heap:=n,toks:=Q}:=λn Q st up=>by
      obtain⟨u6,ak⟩:=Qt F.un F.vW ae nf st up
      have J6:=J.call (h':=n) (g':=g.gens) (d':=g.drawn) (t':=Q) (ch:=[]) u6 ak F.bare<|λb z=>ii z q0o
      have e6:{ s0 with heap:=n,gens:=g.gens,drawn:=g.drawn,toks:=Q}={ g with heap:=n,toks:=Q}:=by
        have:=F.os
        obtain⟨_,_,_,_,an⟩:=g
        obtain⟨_,_,_,_,ao⟩:=s0
        rw[this]
      rw[<- e6]
      exact J6.a2j
    have I5:=G l g.toks m.1 j
    have R:∀(S:Hp)(t:iX),Lay o c S->Inv X d k S { g with heap:=t}->hX 28 (X.A.mark<|some<|.ref x) (execs (b0::i) X.env) (λf T=>SP X d D f T) (λ_ _=>False) { g with heap:=t}:=λS t hY I7=>by
      refine jm (hs x d _ k S D I7.Qw<|hH _ _ c S hE hY x) (λO s7 q=>?_) λ_ _ z=>z.elim
      cases O with
      |next=>obtain⟨a,c,J,z⟩:=q;exact#[a,c,J.He I.ok.hd,z]
      |brk=>obtain⟨a,c,J,z⟩:=q;exact#[a,c,J.He I.ok.hd,z]
      |cont=>obtain⟨a,c,J,z⟩:=q;exact#[a,c,J.He I.ok.hd,z]
      |ret u=>obtain⟨v,a,c,J,r,z⟩:=q;exact#[v,a,c,J.He I.ok.hd,r,z]
    refine wpAny_handleBy_cons (codeAny_handlers_test<|Y x C' d { g with heap:=l} k c _ _ hC I5.Qw m.there λn hL=>?_) (by intro q;cases q)
    refine codeAny_handlers_suite ?_
    cases o with
    |none =>
      subst hL
      refine lands_againW (s:={ g with heap:=n}) m λt L y=>?_
      exact jm (R c t rfl<|G t g.toks L.1<|j.trans y) (λ_ _ z=>z) λ_ _ z=>z.elim
    |some xs =>
      obtain⟨M,r,hz,rfl⟩:=hL
      have kp:∀b o,l.get? b=↑o->(l.push { cls:=.type "tuple",data:=.seq M.toArray}).get? b=↑o:=λb o z=>ce _ z
      have al:=PySem.W.flying_keeps m kp
      refine lands_againW (s:={ g with heap:=l.push { cls:=.type "tuple",data:=.seq M.toArray}}) al λt L y=>?_
      have I7:=G t g.toks L.1<|(j.trans<|qy kp).trans y
      have n5:c l.objs.size=none:=I5.vW.fresh<|gZ _
      obtain⟨sl,e7⟩:=y l.objs.size _ (ic _ rfl) (λvs z=>by cases z)
      have I8:=I7.adopt (p:=l.objs.size) (o:=.tup xs) (I5.GO (gZ _) n5) #[hz,M,r,_,e7,rfl,_,rfl]
      exact jm (R _ t #[_,n5,rfl] I8) (λ_ _ z=>z) λ_ _ z=>z.elim
end L2
namespace WL
variable[L2.GX]
open PySem L2
open Rep (rp)
open Ow (sl)
open Sls (rel)
def BW(X:Cx)(T:gV)(c:List iB){D:Type}[Sls D](w:D->(D->Prop)->72->Prop):Prop:=∀i j h,∃t,FF (xZ X h i j) c t/\∀(d:D)(F R:Rg)(b:St)(H:Hp)(k:D->Prop)(l:gV->D->Prop)(m:Ends),j b->wq T F R H d b->w d k l ->
 (∀e f g a,k e->Ch T F R H f g a->wq T f g a e b->m.nx b a)->(∀C y e f g a,l C e->Ch T F R H f g a->wq T f g a e b->i (.ref C) ↑y a)->t m b H
section
variable{D PO τ τ1:Type}[Sls D][Sls PO][Ow τ][Ow τ1]
def Vi{h:Pos}{n:List iT}(i:Nat){J P o B E y:Type}[Sls J][Sls P][Sls o][Sls B][Sls E][Sls y][Lb y τ1<|Bd C k×o]{r:B->y->o->D}{L:D->(P->B->y->Prop)->72->Prop}
 {M:Wf (Bd C k×P) τ1 (Bd C k×o)} [A0:At i D (Bd C k) J] [A:At i B (Bd C k) E] [U:Pt i E (Bd C k) B]
 (O:∀a b c d u,(yV a b c d u k).lookup m=none) (Q:∀g j f,Lf (xZ X f g j) g T (e::n) r L)
 (S:∀(g:XK)(j:St->Prop) (f:List (gV×qQ)) {t:TA},PA (xZ X f g j) (e::n) t->PE (xZ X f g j) (.Call (.Attribute (.Name x N) m apos) (e::n) [] pos) (Rr 122 (xZ X f g j) C m (yK T M) [] g (vQ i) t))
 (W:kd (.Call (.Attribute (.Name x N) m apos) (e::n) [] pos) none h.line X.env=pure false:=by rfl) :
    BW X T [.Expr (.Call (.Attribute (.Name x N) m apos) (e::n) [] pos) h] (cN L M A.get λb l p=>r (U.put (A.hole b) p.1) l p.2):=by
  intro g j f
  refine e1a2 (Q g j f) λtr Y Z=>?_
  refine#[_,ye<|BM (S g j f Y) W,λd G R σ H Kn Ke En F s hw kn ke=>#[a0E F,?_]]
  refine JJ i O Z d G R σ H (λ_ I=>Kn I) Ke _ s hw (λx I v F1 F2 R' H' q c s' m=>?_) ke
  exact kn I F2 R' H' q (c.less λa z=>.inr z) s'
def a0H{j:Pos}{n:List iT}(i:Nat){H P v B G z:Type}[Sls H][Sls P][Sls v][Sls B][Sls G][Sls z][Lb z τ1<|Bd C q×v]{r:B->z->v->D}{I:D->(P->B->z->Prop)->72->Prop}
 {J:Wf (Bd C q×P) τ1 (Bd C q×v)} [A0:At i D (Bd C q) H] [A:At i B (Bd C q) G] [U:Pt i G (Bd C q) B] {k:Nat} {N:List Str} {O:Sem Bool}
 (h:Fm X.prog X.w X.K X.mg X.base T C m N J k) (Q:wI k X.A) (R:Bc X.K C) (S:∀(o:XK)(s:St->Prop) (g:List (gV×qQ)),PE (xZ X g o s) (.Name x F)<|vQ i) (W:∀(o:XK)(s:St->Prop) (g:List (gV×qQ)),Lf (xZ X g o s) o T (e::n) r I) (Y:∀a b c d u,(yV a b c d u q).lookup m=none:=by intros;rfl)
 (Z:gX (e::n) X.env=67::gX n X.env:=by rfl) (h2:(jx pos<|gX n X.env).any (·.1)=false:=by rfl)
 (h3:eval (.Call (.Attribute (.Name x F) m apos) (e::n) [] pos) X.env=(do
 let L <- eval (.Name x F) X.env
 ng apos.atName
 let (f,first) <- k9 [L] (mY L m O)
 nV pos f first (jx pos (gX (e::n) X.env)) (ni pos (lh [] X.env))):=by rfl)
 (hs:kd (.Call (.Attribute (.Name x F) m apos) (e::n) [] pos) none j.line X.env=pure false:=by rfl) :
    BW X T [.Expr (.Call (.Attribute (.Name x F) m apos) (e::n) [] pos) j] (λ(d:D) Kn M=>I d (λp b l=>J (A.get b,p) (λ_ y=>Kn<|r (U.put (A.hole b) y.1) l y.2)<|λC y=>M C<|r (U.put (A.hole b) y.1) l y.2) M) :=
  Vi i Y W (λo s g {t} b1=>Rs (X:=xZ X g o s) (CX:=vX X.prog X.w) (E:=o) (S o s g) R h.me h.ok Q h.bd .nil b1 Z h2 h3) hs
def Vj{j a:List iB}{z:List gV}{o:Option (List V)}{wb:D->(D->Prop)->72->Prop}{A:D->(D->Prop)->101->85->Prop}(B:X.stack=X.env::X.outer)(G:ClO X ty z o)
 (I:BW X T j wb) (w:∀k,SW (hand X k) E T ms n (b0::a) A) :
    S1 X E T ms n (.Try j [.ExceptHandler ↑ty none (b0::a) hp] [] [] tp) (cT wb A z):=by
  refine#[_,Vh (tb:=λJ L b=>(I J L b).choose) (th:=λk=>(w k).choose) B G (λJ L b=>(I J L b).choose_spec.1)<|λk=>(w k).choose_spec.1,λd F R r H Kn Kr Ke M s hw kn kr ke=>?_]
  refine#[λc _ l=>∃C i f h,c=.ref C/\C∈z/\A i Kn Kr Ke/\Ch T F R H f h l/\wq T f h l i r,?_,λb=>?_,?_]
  · rintro c ox l ⟨C, i, f, h, e, m, _⟩
    exact#[C,m,e]
  · exact(I _ _ b).choose_spec.2 d F R r H _ _ M rfl s hw (λi f h l q c N => kn i f h l r q c N<|Ag.refl _ _) λC y i f h l q c N => #[C, i, f, h, rfl, q.1, q.2, c, N]
  · rintro c ox l aa ⟨C, i, f, h, e, m, O, t, st⟩ hL k
    have go:∀{u:Hp},Ch T F R H f h u->wq T f h u i r->(w k).choose M r u:=λ{u} t st=>(w k).choose_spec.2 i f h r u Kn Kr Ke M st O (λd1 F1 R1 H1 P q c s1 g=>kn d1 F1 R1 H1 P q (Ch.trans s st.tab t c) s1 g) (λx Q v M1 M2 S U W Y Z n4=>kr x Q v M1 M2 S U W (Ch.trans s st.tab t Y) Z n4) λC y Q F4 S U W Y Z=>ke C y Q F4 S U W (Ch.trans s st.tab t Y) Z
    cases o with
    |none =>
      rw[hL]
      exact go t st
    |some xs =>
      obtain⟨p,hp,rfl⟩:=hL
      refine e0a3 (st.new (.tup xs) hp) λs3 c3 _=>?_
      exact go (Ch.trans s st.tab t c3) s3
end
structure a0I(q:Cq)(C1 C2:gV)(y1 y2:Str):Prop where
 m1:q.mg y1=↑(.ref C1)
 m2:q.mg y2=↑(.ref C2)
 x1:lR q.K (.ref C1) [.ref C1,.ref C2]=↑true
 x2:lR q.K (.ref C2) [.ref C1,.ref C2]=↑true
end WL
namespace L2
variable[L2.GX]
open PySem PySem.Spec PyProof.Rows
def AE:Slot "wrapper_descriptor" "__get__" "wrapper_descriptor.__get__":=.of (owner:="wrapper_descriptor") (n:="__get__") (by rw[om,mf];kernel_rfl) q0s q0s q0s
 (.inl<|by kernel_rfl) (by rw[tJ];kernel_rfl)
def Hz:tF uo "wrapper_descriptor.__get__"=↑Builtin.«wrapper_descriptor.__get__»:=entryFor_of_tree (by kernel_rfl)
def JM(a b c:cr):rX "wrapper_descriptor.__get__" #[[a,b,c],[]]:=by unfold rX;kernel_rfl
def zU:typeOf (.builtin "ValueError.__init__")=pure (.type "wrapper_descriptor"):=by kernel_rfl
noncomputable def a0J(obj cls:cr)(name:Str):Sem Unit:=do
  rule "descr.get.wrong-instance"
  raiseError "TypeError" s!"descriptor '{name.toString}' for '{← typeName cls}' objects doesn't apply to a '{← typeNameOf obj}' object"
def Ov(x C:gV):Builtin.«wrapper_descriptor.__get__» #[[.builtin "ValueError.__init__",.ref x,.ref C],[]]=((isInstance (.ref x) (.type "ValueError") >>= λb=>if (!b)=true then a0J (.ref x) (.type "ValueError") "__init__" else pure ()) >>= λ_=>newFields "method-wrapper" [.builtin "ValueError.__init__",.ref x] >>= ret):=by kernel_rfl
section
variable{prog:iJ}{w:jb}{A:jF}{E:cr->hR->Prop}{h:iX}{g:Array pH}{d:Drawn}{t:Nat}{os:OsState}{so D x C:gV}{ox:Obj}{l0 l:List cr}{K:gW}
def EX(c:h.get? x=↑ox)(b:ox.cls=.ref C)(a:jY (hZ prog w) h (isSubtype (.ref C)<|.type "ValueError") true)
 (e:R (.ok<|.ret<|.ref h.objs.size) #[h.push 111,g,d,t,os]) :
    mS (hZ prog w) A (.call (.builtin "wrapper_descriptor.__get__") #[[.builtin "ValueError.__init__",.ref x,.ref C],[]]) R #[h,g,d,t,os]:=by
  have f:(#[h,g,d,t,os]:hR).TypeIs (.builtin "ValueError.__init__") "wrapper_descriptor":=by first|exact kH zU|exact zU
  refine nZ AE.plain Hz<|AE.check _ _ _ _ _ _ _ _ f (JM _ _ _) ?_
  rw[Ov]
  refine am<|am ?_
  refine am<|wpAny_typeOf_ref c ?_
  rw[b]
  refine PySem.W.Looks.at a ?_
  exact ap<|am<|iV<|ap e
def JN(a:h.get? so=↑(pR D x C))(c:jY (hZ prog w) h (opaqueClassAbove<|.ref C) none)(j:jY (hZ prog w) h (mroOf<|.ref C) l0)(k:(l0.dropWhile (· != .ref D)).drop 1=l)(X:K.In h)
 (m:uy K "__init__" l=↑125) (n:h.get? x=↑ox) (e:ox.cls=.ref C) (b:jY (hZ prog w) h (isSubtype (.ref C)<|.type "ValueError") true) (f:x≠C)
 (o:Q (.done<|.ret<|.ref h.objs.size) #[h.push 111,g,d,t,os]) :
    hX (hZ prog w) A (Builtin.«super.__getattribute__» #[[.ref so,.str "__init__" y],[]]) Q E #[h,g,d,t,os]:=by
  have lk:=AE.lookup
  have p:(iq x==iq C)=false:=by simp[f]
  have q:(("__init__":Str)==109)=false:=by decide
  have r:(#v[.ref D,.ref x,.ref C]:Array cr)[0]?=↑(.ref D):=rfl
  have s:(#v[.ref D,.ref x,.ref C]:Array cr)[1]?=↑(.ref x):=rfl
  have u:(#v[.ref D,.ref x,.ref C]:Array cr)[2]?=↑(.ref C):=rfl
  have i:(pR D x C).data=.fields #v[.ref D,.ref x,.ref C]:=rfl
  have v:=zU
  repeat (first|(with_reducible refine jo a i r ?_)|(with_reducible refine jo a i s ?_)|(with_reducible refine jo a i u ?_)|(with_reducible refine ks_wpAny_notOpaque c ?_)|(with_reducible refine PySem.W.Looks.at j ?_;rw[k])|(refine ks_forIn_along X (λ_ _=>rfl) rfl ?_ m)|(with_reducible refine mZ v ?_)|(simp only[q,p,sk,lA,pK])|wp_step|dsimp only)
  exact EX n e b<|am<|ap<|ap<|ap o
end
section
variable{prog:iJ}{w:jb}{A:jF}{E:cr->hR->Prop}{h:iX}{g:Array pH}{d:Drawn}{t:Nat}{os:OsState}
variable{nm q:Str}{C N:gV}{bs bm DG:List cr}{hdct:Bool}{sn:List Str}{sub:List cr}{ab:Bool}{col:Option Bool}{dd:Option gV}{k0 k1 k2 k3 k5:Option cr}{B newId yA:String}
def Bh(F:kO B newId yA DG)(T:sS h DG bm){a:List cr} 
 (i:h.get? C=↑82) (u:h.Ns N v) (y:v "__init__"=↑(.ref n))
 (k:h.get? n=↑z) (l:z.cls=.type "function")
 (D:∀p e,rS h p e (.ref C) a ->
 hX (hZ prog w) A (call (.ref n) (.ref e::a)) (λr s=>r=.none/\Q (.done (.ret (.ref e))) s) E #[p,g,d,t,os]) (hrest:a.length<=hJ:=by size_fits) :
    hX (hZ prog w) A (Builtin.«type.__call__» #[.ref C::a,[]]) Q E #[h,g,d,t,os]:=by
  repeat (first|with_reducible refine jU i ?_|with_reducible refine wpAny_madeBy_exc i ?_|wp_step)
  refine codeAny_call_builtin_code (oa _ F.quiet)<|wpAny_check_new_subT F T i ?_
  refine codeAny_exc_new_subT F T i ?_ hrest
  have j:∀b o,h.get? b=↑o->((h.push { cls:=.type "tuple",data:=.seq a.toArray}).push 113).get? b=↑o:=λb o e=>ce _<|ce _ e
  have c:=j _ _ i
  have f:((h.push { cls:=.type "tuple",data:=.seq a.toArray}).push
      113).get? (h.objs.size+1)=some
      113:=by heap_get
  have m:(iq C::bm).contains (.ref C)=true:=by simp
  repeat (first|with_reducible refine jU f ?_|(with_reducible refine qS c ?_;rw[m])|wp_step)
  refine wpAny_typeLookup_tail c (u.keeps j) (T.keeps j) F.mroIs F.init.lookup ?_
  rw[y]
  refine iM<|am ?_
  refine am<|lj (T:="function") #[_,j _ _ k,l] ?_
  rw[gU q0q]
  refine ap<|am<|jm (D _ (h.objs.size+1) ⟨j,nA<|md _,h.objs.size,f,nA<|gZ _,ce _<|oG rfl rfl⟩) (λr s G=>?_) λ_ _ x=>x
  obtain⟨rfl,H⟩:=G
  wp_walk
  exact H
def EY(F:kO B newId yA DG)(T:sS h DG bm){a:List cr} 
 (c:h.get? C=↑82) (k:h.Ns N l) (m:l "__init__"=↑(.ref j))
 (f:h.get? j=↑n) (i:n.cls=.type "function")
 (o:∀b e,rS h b e (.ref C) a ->
 hX (hZ prog w) (A.under (.builtin "type.__call__" #[.ref C::a,[]])) (call (.ref j) (.ref e::a)) (λr p=>r=.none/\Q (.ref e) p) E #[b,g,d,t,os]) (hrest:a.length<=hJ:=by size_fits) :
    hX (hZ prog w) A (call (.ref C) a) Q E #[h,g,d,t,os]:=by
  have u:=tc_lookup
  have v:=tc_bind<|.ref C
  refine mX<|mV ?_
  repeat (any_goals (first|assumption|with_reducible refine jU c ?_|wp_step))
  refine#[rfl,?_]
  exact codeAny_call_builtin_at (oa _ q0s) entry_typeCall<|wpAny_check_type_call_sub c<|Bh (hrest:=hrest) F T c k m f i λb e s=>o b e s
end
noncomputable def AF(x:gV):Obj:=111
section
variable{prog:iJ}{w:jb}{A:jF}{E:cr->hR->Prop}{h:iX}{g:Array pH}{d:Drawn}{t:Nat}{os:OsState}{so D x C:gV}{ox:Obj}{l0 l:List cr}{K:gW}
def BJ(a:h.get? so=↑(pR D x C))(f:jY (hZ prog w) h (opaqueClassAbove<|.ref C) none)(n:jY (hZ prog w) h (mroOf<|.ref C) l0)(o:(l0.dropWhile (· != .ref D)).drop 1=l)(X:K.In h)
 (p:uy K "__init__" l=↑125) (q:h.get? x=↑ox) (i:ox.cls=.ref C) (b:jY (hZ prog w) h (isSubtype (.ref C)<|.type "ValueError") true) (j:x≠C)
 (r:Q (.ref h.objs.size,[]) #[h.push<|AF x,g,d,t+1,os]):hX (hZ prog w) A (mY (.ref so) "__init__" y) Q E #[h,g,d,t,os]:=by
  have c:=F.ks_slot_super_ga.lookup
  have e:=F.ks_canon_super_ga
  have k:∀s,(#[h,g,d,s,os]:hR).TypeIs (.ref so) "super":=λ_=>#[_,a,rfl]
  refine am<|qe (k _) c ?_
  show hX _ _ (if (Manifest.canonical "super.__getattribute__" != "object.__getattribute__")=true then _ else _) _ _ _
  rw[gU e]
  refine am<|am<|wpAny_mkText<|iM<|am<|lj (k _)<|am<|mZ c ?_
  refine am<|mZ (show (if onTheHeap (.type "super") then nN (.type "super") "__getattr__" else pure none)=pure none from rfl) ?_
  refine am<|pA<|iM ?_
  refine am<|mZ (F.ks_slot_super_ga.bind _) ?_
  refine jm (Q:=λv m=>v=.ref h.objs.size/\m=#[h.push<|AF x,g,d,t+1,os]) (E:=λ_ _=>False)
    (jc F.ks_slot_super_ga (k _) F.ks_entry_super_ga (JN a f n o X p q i b j #[_,rfl,rfl,rfl])<|F.ks_gaArgs_super _ _) (λv m u=>?_) λ_ _ z=>z.elim
  obtain⟨rfl,rfl⟩:=u
  exact ap<|ap r
def Rt(h:iX)(e:h.get? q=↑(AF x)):∃k,(k=Keeper.frame\/k=Keeper.machine\/k=Keeper.boundFrame)/\jY M h (keeperOf<|.ref q) k :=
 #[.machine,.inr<|.inl rfl,(r8 (part:=none) e).andThen .now]
variable{nm q:Str}{N:gV}{bs bm DG:List cr}{hdct:Bool}{sn:List Str}{sub:List cr}{ab:Bool}{col:Option Bool}{dd:Option gV}{k0 k1 k2 k3 k5:Option cr}{newId:String}
def C0(F:kO "ValueError" newId "ValueError.__init__" DG){c:List cr} 
 (f:h.get? C=↑82) (i:h.get? x=↑ox) (e:ox.cls=.ref C) (j:Q () #[h,g,d,t,os]) :
    hX M A (checkBoundCall "ValueError.__init__" #[.ref x::c,[]]) Q E #[h,g,d,t,os]:=by
  simp only[checkBoundCall,F.initKind,F.initRow]
  rw[gU q0q]
  repeat (first|(with_reducible refine jU i ?_;rw[e])|with_reducible refine jU f ?_|wp_step)
  refine pC ?_
  rw[show ∀(a b:String)(n:Nat),Bind.check #[.positional,"*","ValueError",.self,[#["args",.varPos,false]]] a b n (List.map (λx=>x.fst) ({ pos:=iq x::c}:Args).kw)=pure () from
    λa b n=>check_star_args _ _ _ _ _ _]
  exact ap j
def Vk(F:kO "ValueError" newId "ValueError.__init__" DG){a:List cr}(o:h.get? C=↑82)(e:h.get? p=↑(AF x))(j:h.get? x=↑ox)(f:ox.cls=.ref C)(k:ox.data=.fields m)(n:m[0]?=↑(.ref s))
 (r:Q .none #[(h.push { cls:=.type "tuple",data:=.seq a.toArray}).update x (Obj.mapFields (·.setIfInBounds 0 (.ref h.objs.size))),g,d,t,os]) (c:a.length<=hJ:=by size_fits) :
    hX (hZ prog w) A (call (.ref p) a) Q E #[h,g,d,t,os]:=by
  refine mX<|mV ?_
  refine am<|qX e ?_
  refine am<|C0 F o j f<|ap #[lu F.init.plain _,jX F.initEntry ?_]
  rw[jI F.init.plain]
  unfold Builtin.«BaseException.__init__»
  dsimp only
  rw[ci q0o]
  have i:0<m.size:=(Array.getElem?_eq_some_iff.mp n).1
  have b:=ce (h:=h) { cls:=.type "tuple",data:=.seq a.toArray} j
  refine am<|iV (am<|am<|jo b k n<|am<|nw b k i ?_) (by show a.toArray.size<=hJ;rw[ie];exact c)
  exact sw<|ap r
end
open Builtin Builtin.ObjectAttr
section
variable{prog:iJ}{w:jb}{A:jF}{E:cr->hR->Prop}{h:iX}{g:Array pH}{d:Drawn}{t:Nat}{os:OsState}{x C N:gV}{o:Obj}{v:cr}{name:Str}
variable{nm q:Str}{bs bm DG:List cr}{sn:List Str}{sub:List cr}{ab:Bool}{col:Option Bool}{dd:Option gV}{k0 k1 k2 k3 k5:Option cr}{B newId sa owner:String}
def Ox(e:StoreFacts B DG sa owner)(f:bm.contains (.type owner)=true)
 (l:h.get? C=↑(jN nm q C N bs bm true sn sub ab col dd k0 k1 k2 k3 k5 newId)) (m:h.get? x=↑o) (n:o.cls=.ref C) (j:Q () #[h,g,d,t,os]) :
    hX M A (checkBuiltinCall sa #[[.ref x,a,v],[]]) Q E #[h,g,d,t,os]:=by
  have i:(iq C::bm).contains (.type owner)=true:=by rw[uz,f,Bool.or_true]
  have k:=e.args (.ref x) a v
  simp only[checkBuiltinCall,e.kind,e.split]
  refine am ?_
  repeat (first|(with_reducible refine jU m ?_;rw[n])|(with_reducible refine qS l ?_;rw[i])|wp_step)
  cases b:Manifest.signature? sa with
  |none=>exact ap j
  |some c =>
    simp only[rX,b]at k
    have p:Bind.checkArgs sa c #[[.ref x,a,v],[]]=pure ():=k
    show hX M A (Bind.checkArgs sa c #[[.ref x,a,v],[]]) Q E _
    rw[p];exact ap j
set_option tactic.hygienic true in
def Lv(m:tO (.ref x) "__setattr__" bm=pure ())
 (P:h.get? C=↑(jN nm q C N bs bm true sn sub ab col dd k0 k1 k2 k3 k5 newId)) (L2:jY (hZ prog w) h (nN (.ref C) name) none)
 (l:h.get? x=↑o) (R:o.cls=.ref C) (n:∀c,o.data≠.cls c) (p:o.dict=none)
 (S:∀i r s,h.get? s=none->(∀b u,b≠x->h.get? b=↑u->i.get? b=↑u)->i.get? x=some { cls:=o.cls,dict:=↑s,data:=o.data,slots:=o.slots}->i.Ns1 s (λy=>if y=name then some v else none)->Q (.done<|.ret .none) #[i,g,d,r,os]) :
    hX (hZ prog w) A (Builtin.«object.__setattr__» #[[.ref x,.str name Z,v],[]]) Q E #[h,g,d,t,os]:=by
  repeat (first|rw[refuse_eq]|(rw[refuseLoop_ref,m])|(with_reducible refine jU l ?_;rw[R])|with_reducible refine wpAny_mroOf_exc P ?_|(with_reducible refine PySem.W.Looks.at L2 ?_)|wp_step)
  rw[p,ci<|by simp[typeHasDict]]
  split
  · rename_i f
    cases f
  split
  · rename_i c f
    exact ii f<|n c
  · have a : (h.push { cls := .type "dict", data := .dict #v[] }).get? x = some o := ce _ l
    have j:x≠h.objs.size:=ij<|hV l
    refine am<|wpAny_alloc' ?_
    refine am<|wpAny_update' a ?_
    refine ap ?_
    have z:((h.push 129).update x λo=>{ cls:=o.cls,dict:=↑h.objs.size,data:=o.data,slots:=o.slots}).get? h.objs.size
       =some 129 :=
      (qi _ _ _ _ j.symm).trans (oG rfl rfl)
    have D:((h.push 129).update x λo=>{ cls:=o.cls,dict:=↑h.objs.size,data:=o.data,slots:=o.slots}).Ns h.objs.size (λ_=>none) :=
      #[_,#v[],_,z,rfl,λe T=>ii T q0o,λ_=>rfl]
    refine am<|ap<|am<|wpAny_nsSet1 (sW D) λi k M=>?_
    obtain⟨oD,U,X,F,G,H⟩:=k.count<|Within.cons name v Within.nil
    refine am<|wpAny_lookBehind F (by rw[G];exact pastItsLine_dict<|iK H<|by rw[iz,nJ,i7];lia) ?_
    wp_walk
    refine S i _ h.objs.size (nA<|gZ _) (λb u I O=>?_) ?_ k
    · exact(M.2 b<|ij<|hV O).trans<|(qi _ _ _ _ I).trans<|ce _ O
    · refine(M.2 x j).trans (i8 _ a ?_)
      have J:=(Heap.get?_some_iff.mp l).2
      obtain⟨oc,od,L,Y⟩:=o
      cases L<;>first|rfl|exact J
def JO(i:StoreFacts B DG sa owner)(j:bm.contains (.type owner)=true)(k:tO (.ref x) "__setattr__" bm=pure ())
 (r:h.get? C=↑(jN nm q C N bs bm true sn sub ab col dd k0 k1 k2 k3 k5 newId)) (u:jY (hZ prog w) h (nN (.ref C) "__setattr__") (some<|.builtin sa)) (L2:jY (hZ prog w) h (nN (.ref C) name) none)
 (l:h.get? x=↑o) (m:o.cls=.ref C) (n:∀c,o.data≠.cls c) (p:o.dict=none)
 (z:∀e a f,h.get? f=none->(∀b s,b≠x->h.get? b=↑s->e.get? b=↑s)->e.get? x=some { cls:=o.cls,dict:=↑f,data:=o.data,slots:=o.slots}->e.Ns1 f (λy=>if y=name then some v else none)->Q () #[e,g,d,a,os]) :
    hX (hZ prog w) A (setAttr (.ref x) name v) Q E #[h,g,d,t,os]:=by
  have I:=i.slot.bind<|.ref x
  repeat (any_goals (first|assumption|(with_reducible refine jU l ?_;rw[m])|(with_reducible refine PySem.W.Looks.at u ?_)|wp_step))
  refine nZ i.slot.plain i.entry<|Ox i j r l m<|Lv k r L2 l m n p λe a f D F G H=>?_
  repeat (any_goals (first|assumption|wp_step))
  exact z e a f D F G H
end
def ExI(C x:gV)(d:Option gV)(h:iX):Prop:=∃(a:gV),h.get? x=some { cls:=.ref C,dict:=d,data:=.fields #v[.ref a,.none,.none,.none,.bool false,.none]}
noncomputable def DZ(C x:gV)(d:Option gV):HO:=.ext<|ExI C x d
def HA{C:gV}(I:Inv X a c H s)(h:H x=↑(DZ C x b)):ExI C x b s.heap:=(I.vW x _ h).1
def Lw{C:gV}(q:ExI C x b h):wp P w H h x (DZ C x b) :=
 #[q,e1a1 q λ_ e=> #[_,e],λf g a=>e1a1 a λc d k=>#[c,k _ d]]
def cw_mw(i:gX (e::f) b=(false,eval e b)::gX f b)(c:(jx pos<|gX f b).any (·.1)=false)
 (h:hX M B (uD<|jx pos<|gX (e::f) b) (λj d=>d.heap.get? q=↑(AF a)/\hX M B (call (.ref q) j) Q g d) g k):hX M B (nV pos (.ref q) [] (jx pos<|gX (e::f) b) []) Q g k:=by
  rw[i]at h ⊢
  exact pP (P:=λh=>h.get? q=↑(AF a)) (by show ((false||(jx pos<|gX f b).any (·.1))||false)=false;rw[c];rfl) Rt<|jJ h
def a0L(C:gV)(t:TA):TE:=λb H Q=>∃a,b[0]?=↑(some<|.ref a)/\H a=some (DZ C a none)/\t b H λd c=>d.length<=hJ/\c a=↑(DZ C a none)/\Q .wP c
section
variable{P:iJ}{w:jb}{K:gW}{mg:Str->Option cr}{base:iX}{N:List Str}{qual:Str}{scope:my}{f zA cc:gV}{A:jF}{outer:List Env}{s:hR}{H:Hp}{E:XK}{C:gV}{x0:Str}{fb:List iB}{p0 p1 apos pos:Pos}{es:List iT}{e0:iT}{ta:TA}
variable{nm q:Str}{Ns:gV}{bs bm:List cr}{hdct:Bool}{sn:List Str}{sub:List cr}{ab:Bool}{col:Option Bool}{dd:Option gV}{k0 k1 k2 k3 k5:Option cr}
set_option tactic.hygienic true in
def Ru(S:Lq P K C f zA cc x0)(ae:N[0]?=↑x0)(U:scope.names.lookup ("super":Str)=some .globalImplicit)(X:scope.names.lookup 109=some .free)(B:scope.names.lookup x0=some .local)(af:mg "super"=none)
 (lC:K.lookup C=↑(jN nm q C Ns bs bm hdct sn sub ab col dd k0 k1 k2 k3 k5 "ValueError.__new__")) (hm:j9 K C C "__init__"=↑125) (ag:lw K C (.type "ValueError")=↑true)
 (ha:PA 91 (e0::es) ta)
 (he:gX (e0::es) (je qual scope ⇑s f (.ref zA) [75])=(false,eval e0<|je qual scope ⇑s f (.ref zA) [75])::gX es (je qual scope ⇑s f (.ref zA) [75]))
 (l:(jx pos<|gX es<|je qual scope ⇑s f (.ref zA) [75]).any (·.1)=false) (D:Ou p0 p1 apos pos "__init__" (e0::es)) :
    PEA 91 fb (.Call (.Attribute 84 "__init__" apos) (e0::es) [] pos) (a0L C ta):=by
  intro n i σ H1 Q I h
  refine e1a3 h λa h0 ea h=>?_
  have Y:=I.yZ
  obtain⟨oc,od,fd,au,Z,lf,hp,rfl⟩:=S.fn
  obtain⟨av,aw,ax,an,file,tf,lc,ah,G⟩:=S.code
  obtain⟨ao,aq,aa,L⟩:=S.cell
  obtain⟨cd,j⟩:=S.cls
  obtain⟨t0,O⟩:=HA I ea
  refine e1a2 I.loc λmL hn hl=>?_
  refine e1a2 (hl 0 Z.arg (.ref a) ae h0<|.inl B) λu ru lk=>?_
  obtain rfl:u=iq a:=ru
  have ai:mL Z.arg=↑(.ref a):=by
    rcases lk with⟨_,q⟩|⟨q,_⟩
    · exact q
    · have q : scope.names.lookup Z.arg = some .cell \/ scope.names.lookup Z.arg = some .free := q
      rw[B]at q
      rcases q with q|q<;>cases q
  obtain⟨oD,M,R⟩:∃oD,i.heap.get? C=some oD/\oD.data=.cls cd:=by
    unfold m4 at j
    split at j
    · rename_i c d ay sl ho
      cases j
      exact#[_,Y _ _ ho,rfl]
    · cases j
  refine e1a2 I.mod.blt λmb aj ak=>?_
  have ne:a≠C:=λz=>by
    rw[z,M]at O
    cases O
    cases R
  obtain⟨pl,D⟩:=D<|je qual scope ⇑s f (.ref zA) [75]
  refine ks_wpAt_MethodCall (pl:=pl) (ks_wpAt_super_base (env:=je qual scope ⇑s f (.ref zA) [75]) U X q0q rfl (Y _ _ lf) rfl hp rfl (Y _ _ lc) rfl ah G S.top ?_) D
  refine rj I.ok.kind U<|oy (env:=je qual scope ⇑s f (.ref zA) [75]) (I.mod.glob.keeps I.bk) af (aj.keeps I.bk) ((ak _ q0s).trans rfl) #[rfl,?_]
  refine qI I.ok.kind X rfl #[_,Y _ _ L,rfl] ?_
  refine k8 I.ok.kind B hn ai ?_
  refine ks_wpAny_isType_cls (h:=i.heap) (g:=i.gens) (d:=i.drawn) (t:=i.toks) (os:=i.os) M R #[rfl,?_]
  refine ks_wpAny_call_super (h:=i.heap) (g:=i.gens) (d:=i.drawn) (t:=i.toks) (os:=i.os) M R O rfl (λc e=>by cases e) (pQ Y S.sub) λp e k'=>?_
  have T:Inv _ n σ H1 #[p,i.gens,i.drawn,i.toks,i.os]:=I.kept (t':=i.toks) k'
  unfold j9 at hm
  rw[j]at hm
  refine BJ e (sK T.yZ S.opq) (l0:=cd.mro) (λA Q E s k q=>am<|(pJ T.yZ j) A _ E s k<|ap q) rfl T.yZ hm (k' _ _ O) rfl (pQ T.yZ ag) ne ?_
  have I2:Inv _ n σ H1 #[p.push<|AF a,i.gens,i.drawn,i.toks+1,i.os]:=T.kept (t':=i.toks+1) λb o z=>ce _ z
  have fr:H1 p.objs.size=none:=T.vW.fresh<|gZ _
  have gq:(p.push<|AF a).get? p.objs.size=↑(AF a):=oG rfl rfl
  have I3:=I2.pinned (fp:=[p.objs.size]) (λb y=>by rw[List.mem_singleton.mp y];exact T.GO (gZ _) fr) λb y=>by rw[List.mem_singleton.mp y];exact#[_,gq,λv z=>by cases z]
  refine cw_mw (a:=a) he l<|vU (ha pos _ _ σ H1 _ I3 h) λus s2 z9=>e2a5 z9 λvs H2 I4 r q1 q2 q3=>?_
  have g2:s2.heap.get? p.objs.size=↑(AF a):=(I4.pin (p.objs.size,AF a)<|iv _<|iv _<|xS gY gq).1
  refine#[g2,?_]
  have I5:=I4.Am
  obtain⟨t1,O1⟩:=HA I5 q2
  have al:=I5.yZ
  obtain⟨m,g5,d5,t5,az⟩:=s2
  refine Vk iH (al _ _ lC) g2 O1 rfl rfl rfl ?_ (by show us.length<=_;rw[<- r.length];exact q1)
  have hu:upd H2 a (DZ C a none)=H2:=by
    funext b
    by_cases y:b=a
    · rw[y, vh, q2]
    · rw[ve y]
  have O2:=i8 (f:=Obj.mapFields (·.setIfInBounds 0 (.ref m.objs.size))) (ce { cls:=.type "tuple",data:=.seq us.toArray} O1) rfl
  have J:=I5.write (x:=a) (e:=a) (o:=DZ C a none) (t':=t5) (h':=(m.push { cls:=.type "tuple",data:=.seq us.toArray}).update a (Obj.mapFields (·.setIfInBounds 0 (.ref m.objs.size)))) (by rw[q2];trivial) (.inl rfl)
    (λb u y z=>by rw[qi _ _ _ _ y];exact ce _ z) #[_,O2] (Lw #[m.objs.size,O2])
  rw[hu]at J
  exact#[.wP,H2,J,rfl,q3]
end
def yi.a2K{s:iX}{C:gV}(k:yi P w H h)(t:H a=↑(DZ C a none))(n:h.get? l=none)(x:∀b o,b≠a->h.get? b=↑o->s.get? b=↑o)(q:ExI C a d s)(D:s.Ns1 l (λz=>if z=f then some u else none))(r:RelV y u) :
  yi P w (upd (upd H l<|.xd [(f,y)]) a<|DZ C a d) s/\∀A,Un A [] H (upd (upd H l<|.xd [(f,y)]) a<|DZ C a d) h s:=by
 have E:∀b v,H b=↑v->b≠l:=λb v z e=>by obtain⟨o,i⟩:=AY k z;rw[e,n]at i;cases i
 have j:∀b v,H b=↑v->(∀B,v≠.ext B)->upd (upd H l<|.xd [(f,y)]) a (DZ C a d) b=some v:=λb v z e=>by rw[ve λi=>by rw[i,t]at z;cases z;exact e _ rfl,ve<|E b v z];exact z
 refine#[λb o z=>?_,λA=>#[λb o z e _ _=>x b o (λi=>by rw[i,t]at e;cases e) z,λb o z e _ _=>#[o.slots,x b o (λi=>by rw[i,t]at e;cases e) z],λb o z e _=>?_,λb o z _=>?_,λb B z=>j b _ z (λ_ e=>by cases e),λb o v z=>j b _ z (λ_ e=>by cases e),λb I z=>#[#v[],by rw[j b _ z<|λ_ e=>by cases e];simp]]]
 ·by_cases e:b=a
  ·subst e;rw[vh]at z;cases z;exact Lw q
  ·rw[ve e]at z;by_cases i:b=l
   ·subst i;rw[vh]at z;cases z;refine#[_,D,λg=>?_];by_cases m:g=f
    ·rw[m,List.lookup_cons_self,gU rfl];exact r
    ·rw[iO,beq_false_of_ne m,ci m];exact True.intro
   ·rw[ve i]at z;refine(k b o z).DB (λc v p y=>x c v (λm=>?_) y) (λc y=>j c _ y λ_ e=>by cases e) λc J y=>j c _ y λ_ e=>by cases e
    rcases p with p|p
    ·exact e<|p▸m
    ·rw[m,t]at p;cases p
 ·have F:b≠a:=λi=>by rw[i,t]at e;cases e
  have G:b≠l:=λi=>by rw[i,n]at z;cases z
  rw[ve F,ve G];exact e
 ·by_cases e:b=a
  ·obtain⟨_,q⟩:=q;rw[e];exact#[_,q]
  ·exact#[_,x b o e z]
def a0M(C:gV)(f:Str)(e g:TE):TS:=λD c H=>g c H λy h=>e c h λx d=>∃a,x=.ref a/\d a=↑(DZ C a none)/\∀b,d b=none->b≠a->D.nx c (upd (upd d b<|.xd [(f,y)]) a<|DZ C a<|↑b)
def Vl(L:PE X o M)(N:PE X value P)(Q:kd value (some<|.Attribute o f e) pos.line X.env=pure false)
 (R:X.K.lookup C=↑(jN nm q C Ns bs B true sn sub ab S dd k0 E G k3 k5 l)) (m:B.contains (.type "object")=true) (n:∀x:gV,tO (.ref x) "__setattr__" B=pure ())
 (T:iF X.K (.ref C) "__setattr__"=↑108)(U:iF X.K (.ref C) f=↑none):PS X (.Assign [.Attribute o f e] value pos) (a0M C f M P):=by
  intro b s p H D I h
  refine rO (vU (N b s p H _ I h) λu Y r=>e2a3 r λy H1 Z ry q=>vU (L b Y p H1 _ Z q) λov s2 r=>e2a3 r λx H2 i rx v=>e1a3 v λa ex J q2=>?_) Q
  subst ex
  obtain rfl:ov=iq a:=rx
  obtain⟨t0,O⟩:=HA i J
  have w:=i.yZ
  obtain⟨hp,g,d,t,os⟩:=s2
  refine JO PySem.F.store_ValueError m (n a) (w _ _ R) (pi w T) (pi w U) O rfl (λc z=>by cases z) rfl λh' A j k z2 z3 z4=>?_
  have n1:H2 j=none:=by
    cases z:H2 j with
    |none=>rfl
    |some o=>obtain⟨u,q⟩:=AY i.vW z;rw[k]at q;cases q
  have na:j≠a:=λz=>by rw[z,O]at k;cases k
  obtain⟨E,G⟩:=yi.a2K (d:=↑j) i.vW J k z2 #[t0,z3] z4 ry
  exact#[p,_,i.un (h':=h') (t':=A) (G _) E,q2 j n1 na]
def JP(b:bm.contains (.type "BaseException")=true)(k:A.handled=none)
 (h:hX M A x (λv a=>∃e t i,v=.ref e/\a.heap.get? C=↑82 /\
 a.heap.get? e=some { cls:=.ref C,dict:=i,data:=.fields #v[.ref t,.none,.none,.none,.bool false,.none]}/\E (.ref e) a) E s) :
    hX M A (raiseStmt l ↑x none) Q E s:=by
  have f:(iq C::bm).contains (.type "BaseException")=true:=by rw[uz,b,Bool.or_true]
  unfold raiseStmt
  refine am<|jm h (λv a c=>?_) λ_ _ x=>x
  obtain⟨e,t,i,rfl,j,m,n⟩:=c
  obtain⟨o,g,d,p,r⟩:=a
  repeat (first|with_reducible refine jU m ?_|with_reducible refine jU j ?_|(with_reducible refine qS j ?_;rw[f])|wp_step)
  exact wpAny_raiseNew_none k n
def JQ(F:kO B c y H) 
 (n:bm.contains (.type "BaseException")=true) (Y:A.handled=none) (k:(jx l<|gX args o).any (·.1)=false)
 (h:hX (hZ prog w) A (eval (.Name x np) o) (λf m=>f=.ref C/\hX (hZ prog w) A (evalArgs (.ref C) true (jx l (gX args o)) [])
 (λa b=>a.kw=[]/\a.pos.length<=hJ/\b.heap.get? C=↑(jN nm q C N bs bm hdct sn sub ab col dd k0 k1 k2 k3 k5 c)/\(∃I,b.heap.Ns N I/\I "__init__"=↑(.ref fI))/\(∃J,b.heap.get? fI=↑J/\J.cls=.type "function")/\sS b.heap H bm /\
 ∀D e,rS b.heap D e (.ref C) a.pos->hX (hZ prog w) (A.under (.builtin "type.__call__" #[.ref C::a.pos,[]])) (call (.ref fI) (.ref e::a.pos)) (λr G=>r=.none/\G.heap.get? C=↑(jN nm q C N bs bm hdct sn sub ab col dd k0 k1 k2 k3 k5 c) /\
 (∃t L,G.heap.get? e=some { cls:=.ref C,dict:=L,data:=.fields #v[.ref t,.none,.none,.none,.bool false,.none]})/\E (.ref e) G) E { b with heap:=D}) E m) E s) :
    hX (hZ prog w) A (exec (.Raise (some<|.Call (.Name x np) args [] l) none pos) o) Q E s:=by
  rw[arm_exec_Raise]
  refine am<|nS<|JP (C:=C) (nm:=nm) (q:=q) (N:=N) (bs:=bs) (bm:=bm) (hdct:=hdct) (sn:=sn) (sub:=sub) (ab:=ab) (col:=col) (dd:=dd) (k0:=k0) (k1:=k1) (k2:=k2) (k3:=k3) (k5:=k5) (newId:=c) n Y<|am<|jm (wpAny_Call_ofName<|jm h (λf m i=>?_) λ_ _ x=>x) (λv S p=>am<|nS<|ap p) λ_ _ x=>x
  obtain⟨rfl,i⟩:=i
  unfold nV
  refine am<|iM<|jm i (λa b j=>am<|nS ?_) λ_ _ x=>x
  obtain⟨U,M⟩:=a
  obtain⟨O,u,W,⟨I,Z,hi⟩,⟨J,P,R⟩,T,j⟩:=j
  obtain rfl:M=[]:=O
  obtain⟨hp,g,d,tk,os⟩:=b
  simp only[k]
  refine am<|wpAny_keeperOf_exc W ?_
  refine am<|EY (hrest:=u) F T W Z hi P R λD e hm=>jm (j D e hm) (λr G X=>#[X.1,?_]) λ_ _ z=>z
  obtain⟨_,c1,⟨t,L,c2⟩,c3⟩:=X
  exact am<|iM<|wpAny_point<|ap #[e,t,L,rfl,c1,c2,c3]
noncomputable def Ci(H:Hp)(x:gV):Hp:=λb=>if b=x then none else H b
def zV:Ci H x x=none:=gU rfl
def yq(h:b≠x):Ci H x b=H b:=ci h
section
variable{P:iJ}{w:jb}{H H3 H4:Hp}{h h' h4:iX}{x C:gV}{c:Option gV}
def yi.Rv(k:yi P w H h)(e:H x=↑(DZ C x c)):yi P w (Ci H x) h:=λa o z=>by
 have g:a≠x:=λq=>by rw[q,zV]at z;cases z
 rw[yq g]at z
 have d:∀b u,H b=↑u->(∀f,u≠.ext f)->Ci H x b=↑u:=λb u q n=>by rw[yq λy=>by rw[y,e]at q;cases q;exact n _ rfl];exact q
 exact(k a o z).DB (λ_ _ _ q=>q) (λb q=>d b _ q λf y=>by cases y) λb i q=>d b _ q λf y=>by cases y
def yi.HB(k:yi P w H h)(e:h.get? x=none):H x=none:=by
 cases z:H x with
 |none=>rfl
 |some o=>obtain⟨u,q⟩:=AY k z;rw[e]at q;cases q
def yi.M8(k:yi P w H h)(e:h.get? x=none)(f:∀b o,h.get? b=↑o->h'.get? b=↑o)(n:ExI C x c h'):yi P w (upd H x<|DZ C x c) h':=λa o z=>by
 by_cases q:a=x
 ·subst q;rw[vh]at z;cases z;exact Lw n
 ·rw[ve q]at z;have d:∀b u,H b=↑u->upd H x (DZ C x c) b=↑u:=λb u y=>by rw[ve λg=>by rw[g,k.HB e]at y;cases y];exact y
  exact(k a o z).DB (λ_ _ _ y=>f _ _ y) (λb y=>d b _ y) λb i y=>d b _ y
def Un.M8(k:yi P w H h)(e:h.get? x=none)(d:∀b o,h.get? b=↑o->h'.get? b=↑o):Un fs [] H (upd H x<|DZ C x c) h h':=by
 have a:∀b u,H b=↑u->upd H x (DZ C x c) b=↑u:=λb u y=>by rw[ve λf=>by rw[f,k.HB e]at y;cases y];exact y
 refine#[λb o z _ _ _=>d b o z,λb o z _ _ _=>#[o.slots,d b o z],λb o z n _=>?_,λb o z _=>#[o,d b o z],λb g z=>a b _ z,λb o u z=>a b _ z,λb i z=>#[#v[],by rw[a b _ z];simp]];rw[ve λy=>by rw[y,e]at z;cases z];exact n
def Un.Rv(u:Un fs [] H H4 h h4)(e:h.get? x=none)(d:H x=none):Un fs [] H (Ci H4 x) h h4:=by
 have a:∀b v,H b=↑v->b≠x:=λb v y z=>by rw[z,d]at y;cases y
 refine#[u.keep,u.slot,λb o z n f=>?_,u.there,λb g z=>?_,λb o v z=>?_,λb i z=>?_]
 ·rw[yq λy=>by rw[y,e]at z;cases z];exact u.free b o z n f
 ·rw[yq<|a b _ z];exact u.BL b g z
 ·rw[yq<|a b _ z];exact u.Bv b o v z
 ·rw[yq<|a b _ z];exact u.Bw b i z
end
def Vm(C:gV)(f:Sp)(a:List V)(E:XK)(h:TA):TS:=λ_ i H=>h i H λc e=>c.length<=hJ/\∀x:gV,e x=none ->
 f (.ref x::c++a) (upd e x<|DZ C x none) (λv b=>v=.wP/\∃d,b x=↑(DZ C x d)/\GX.g C d (Ci b x)/\E (.ref C) ↑x (Ci b x)) λ_ _ _=>False
section
variable{P:iJ}{w:jb}{K:gW}{mg:Str->Option cr}{base:iX}{N:List Str}{qual:Str}{scope:my}{f:gV}{cd:cr}{A:jF}{outer:List Env}{s:hR}{H:Hp}{E:XK}
variable{nm q:Str}{Ns:gV}{bs bm DG:List cr}{hdct:Bool}{sn:List Str}{sub:List cr}{ab:Bool}{col:Option Bool}{dd:Option gV}{k0 k1 k2 k3 k5:Option cr}{B newId yA:String}
def Oy{C:gV}{k:Nat}(hg:Gl 23 x)(hm:mg x=↑(.ref C))
 (lC:K.lookup C=↑(jN nm q C Ns bs bm hdct sn sub ab col dd k0 k1 k2 k3 k5 newId)) (aa:∀h:iX,K.In h->∃mN,h.Ns Ns mN/\mN "__init__"=↑(.ref fI)) (hT:∀h:iX,K.In h->sS h DG bm) (lI:K.lookup fI=↑oI) (ae:oI.cls=.type "function")
 (FB:kO B newId yA DG) (n:bm.contains (.type "BaseException")=true) (FI:vR P w K mg base (vX P w) k fI fd ps sp) (j:Binds K fd ps U) (af:Vals p U) (hr:wI (k+1) (23).A)
 (ha:PA 23 args ta) (ag:(x==66)=false)
 (ah:(jx cpos<|gX args (23).env).any (·.1)=false)
 (ai:∀(Q:Args->hR->Prop)(E':cr->hR->Prop)(s9:hR),hX (hZ P w) (23).A (uD<|jx cpos<|gX args (23).env) (λX y=>Q #[X,[]] y) E' s9->hX (hZ P w) (23).A (evalArgs (.ref C) true (jx cpos<|gX args (23).env) []) Q E' s9) :
    PS 23 (.Raise (some<|.Call (.Name x np) args [] cpos) none pos) (Vm C sp p E ta):=by
  intro a s1 σ H1 D I h
  have hA:=ha cpos a s1 σ H1 _ I h
  refine JQ (prog:=P) (w:=w) (C:=C) (nm:=nm) (q:=q) (N:=Ns) (bs:=bs) (bm:=bm) (hdct:=hdct) (sn:=sn) (sub:=sub) (ab:=ab) (col:=col) (dd:=dd) (k0:=k0) (k1:=k1) (k2:=k2) (k3:=k3) (k5:=k5) (fI:=fI)
    FB n (I.ok.hd rfl) ah (zD I hg hm #[rfl,?_] ag)
  refine ai _ _ _<|jm hA (λl G q2=>?_) λ_ _ z=>z
  refine e2a4 q2 λX H2 F r2 hl M=>?_
  have Y:=F.yZ
  refine#[rfl,by show l.length<=hJ;rw[<- r2.length];exact hl,Y _ _ lC,aa _ Y,#[oI,Y _ _ lI,ae],hT _ Y,λZ e made=>?_]
  refine e1a3 made.there λt aj _ _=>?_
  have n2:H2 e=none:=F.vW.HB made.new
  have I3:Inv 23 a σ (upd H2 e<|DZ C e none) { G with heap:=Z,toks:=G.toks}:=F.un (Un.M8 F.vW made.new made.keeps)<|F.vW.M8 made.new made.keeps #[t,aj]
  have r3:Vals (.ref e::X++p) (.ref e::l++U):=.cons rfl<|Vals.append r2 af
  have ak:(iq e::l++U).length=ps.length:=by rw[<- r3.length];exact FI.len _ _ _ _<|M e n2
  refine mX<|j7 (FI.run _ _ { G with heap:=Z} _ ⟨.ref e::l,[]⟩ (.ref e::l++U) (.ref e::X++p) _ _ (hr.make C l []) (I3.Jh.make C l []) (j { G with heap:=Z} (.ref e::l) I3.yZ ak) r3 (M e n2)) λr y O=>?_
  cases r with
  |error e'=>obtain⟨_,_,_,_,_,z⟩:=O;exact z.elim
  |ok fl =>
    cases fl with
    |next=>exact iL O
    |brk=>exact iL O
    |cont=>exact iL O
    |ret u =>
      obtain⟨v,H4,R,i,S,m,rv,rfl,c,e4,gd,hE⟩:=id O
      have T:(23).stack=(23).env::(23).outer:=rfl
      have J:Inv 23 a σ H4 y:=by
        obtain⟨hh,g,d,tt,al⟩:=y
        obtain rfl:al=G.os:=R
        exact Inv.call (s:={ G with heap:=Z}) (h':=hh) (g':=g) (d':=d) (t':=tt) (ch:=[]) I3 S m i<|λb z=>ii z q0o
      obtain⟨t4,O4⟩:=HA J e4
      refine#[rv,J.yZ _ _ lC,#[t4,c,O4],?_]
      have fu:=J.Jh.yT
      have an:(mq y.heap (e::zy (23).stack)).get? e=none:=sA _ gY
      refine jm (Bo (base:=mq y.heap (e::zy (23).stack)) (a0:=.ref t4) J.ok.frames
        (rY fu λao he b j=>hI _<|List.mem_filterMap.mpr ⟨ao,he,j⟩) (ym J T) O4 (λb o z=>nM _ z) an rfl rfl rfl
        (Q:=λ_ aq=>vX P w outer H s E (.ref e) aq) λar fl up dk=>?_) (λ_ _ z=>z) λ_ _ z=>z
      refine#[C,e,Ci H4 e,rfl,?_,hE]
      refine K9 (s2:=y) F T rfl R i (Un.Rv ((Un.M8 F.vW made.new made.keeps).trans S) made.new n2) (m.Rv e4) (λb o z L nf=>pG _ z λj=>?_) (λb j=>?_) up fl #[_,dk,gd]
      · rcases List.mem_cons.mp j with rfl|j
        · rcases L with L|⟨o0, L⟩
          · exact L zV
          · rw[made.new]at L; cases L
        · exact nf j
      · have z := J.frn b j
        refine#[?_,(fu.mem j).2]
        by_cases q:b=e
        · rw[q, zV]
        · rw[yq q]; exact z.1
end
def YA(K:gW)(C:gV)(c:Str):Sp:=λd H Q _=>∃x l b,d=[.ref x,.ref l]/\H x=↑(DZ C x none)/\(wD K H l b\/zn K H l b)/\∀p a,H p=none->H a=none->a≠x->a≠p->Q .wP (upd (upd (upd H p<|.lst b) a<|.xd [(c,.ref p)]) x<|DZ C x<|↑a)
section
variable{P:iJ}{w:jb}{K:gW}{mg:Str->Option cr}{base:iX}{qual name:Str}{scope:my}{f zA cc:gV}{C:gV}{k:Nat}{p0 p1 p2 p3 p4 p5 p6 p7 p8 p9 apos pos:Pos}{r fl tx:Str}{j:Nat}
variable{nm q:Str}{Ns:gV}{bs bm:List cr}{sn:List Str}{sub:List cr}{ab:Bool}{col:Option Bool}{dd:Option gV}{k0 k1 k2 k3 k5:Option cr}{params:Arguments}{dV kV doc pm ct oc:cr}{an od:Option gV}{N4:Array (Option cr)}{body:List iB}
def Vn(lk:K.lookup f=some #[oc,od,.func<|kS name qual params body scope [75] dV kV doc pm an (.ref zA) ct,N4])(g:jC K (.ref zA) qual=true)
 (m:body=[.Expr (.Call (.Attribute 84 "__init__" apos) [.Constant (.str tx) j p3] [] pos) p2,.Assign [.Attribute (.Name "self" p4) fl p5] (.Call (.Name "list" p6) [.Name r p7] [] p8) p9])
 (S:WL.xQ ["self",r] ["self",r] scope) (D:Lq P K C f zA cc "self") (n:Ou p0 p1 apos pos "__init__" [.Constant (.str tx) j p3]) (o:mg "super"=none) (t:mg "list"=none) (u:scope.names.lookup ("list":Str)=some .globalImplicit)
 (M:K.lookup C=↑(jN nm q C Ns bs bm true sn sub ab col dd k0 k1 k2 k3 k5 "ValueError.__new__")) (U:j9 K C C "__init__"=↑125) (v:lw K C (.type "ValueError")=↑true)
 (B:bm.contains (.type "object")=true) (F:∀x:gV,tO (.ref x) "__setattr__" bm=pure ()) (X:iF K (.ref C) "__setattr__"=↑108) (Y:iF K (.ref C) fl=↑none)
 (G:(r==66)=false) (I:(r==("__classdict__":Str))=false) :
    vR P w K mg base (vX P w) (k+1) f (kS name qual params body scope [75] dV kV doc pm an (.ref zA) ct) ["self",r] (YA K C fl):=by
  obtain⟨o1,o2,o3,a⟩:=D.cell
  refine Hx lk g (S.x cc) (λy c h=>?_) (λZ H Q E h=>?_) λA J s H Z Q E hr L=>?_
  · have e : c = cc := by
      by_cases e:(y==109)=true
      · rw[iO, e]at h; cases h; rfl
      · rw[iO, Bool.eq_false_iff.mpr e]at h; cases h
    subst e
    exact#[_,_,a,rfl]
  · obtain⟨x, l, N, rfl, _⟩ := h; rfl
  · obtain⟨x, l, N, rfl, b, hl, hq⟩ := L
    rw[m]
    refine#[_,yQ (ET (Ru D rfl S.ks S.kc (S.par _ gY) o M U v (vn GN vB) rfl rfl n)) (yQ (Rh (Vl (Ko (i:=0) rfl (.inl (S.par _ gY)))
      (xT yH u t ki (vn (Ko (i:=1) rfl (.inl (S.par _ (hI _ gY))) G I) vB)) rfl M B F X Y)) (DW zH)),?_]
    have st:start ["self",r] [V.ref x,V.ref l]=[some<|.ref x,some<|.ref l]:=rfl
    rw[st]
    refine#[x,rfl,b,?_,b,?_]
    · show (1 : Nat) <= hJ
      rw[i7];lia
    · refine#[.ref l, rfl, l, N, rfl, hl, λp O => #[.ref x, rfl, x, rfl, ?_, λR d n2 => ?_]]
      · rw[ve λz => by rw[z, O]at b; cases b]
        exact b
      · have T : R ≠ p := λz => by rw[z, vh]at d; cases d
        rw[ve T]at d
        exact hq p R O d n2 T
end
end L2
namespace WL
variable[L2.GX]
open PySem L2
open Rep (rp)
open Ow (sl)
open Sls (rel)
structure XcI(P:iJ)(w:jb)(K:gW)(mg:Str->Option cr)(base:iX)(k:Nat)(x:Str)(C:gV)(fl:Str):Prop where
 ex:∃(fI Ns:gV)(fd:iQ)(oI:qQ)(nm q:Str)(bs bm DG:List cr)(hdct:Bool)(sn:List Str)(sub:List cr)(ab:Bool)(col:Option Bool)(dd:Option gV)(k0 k1 k2 k3 k5:Option cr)(B newId yA:String)(ps:List Str),
  mg x=↑(.ref C)/\K.lookup C=↑(jN nm q C Ns bs bm hdct sn sub ab col dd k0 k1 k2 k3 k5 newId)/\(∀h:iX,K.In h->∃mN,h.Ns Ns mN/\mN "__init__"=↑(.ref fI))/\(∀h:iX,K.In h->sS h DG bm)/\K.lookup fI=↑oI/\oI.cls=.type "function" /\
  kO B newId yA DG/\bm.contains (.type "BaseException")=true/\vR P w K mg base (vX P w) k fI fd ps (YA K C fl)/\Binds K fd ps []
 go:∀dx p xs H,H dx=↑(.xd [(fl,.ref p)])->H p=↑(.lst xs)->GX.g C ↑dx H
section
variable{D D' D1 PO τ α:Type}[Sls D][Sls D'][Sls D1][Sls PO][Ow τ][Rep α]
def YB{x r L:Str}{i:Nat}{y j M:Pos}{C:gV}[J:Pj D PO n][At i D (OL α) D1](hg:Gl 78 x)(h:XcI P w K l base k x C L)(hr:wI (k+1) (78).A)
  (hv:PE 78 (.Name r M) (vQ i)) (W:(x==66)=false:=by decide)
  (X:gX [.Name r M] (78).env=(false,eval (.Name r M) (78).env)::gX [] (78).env:=by rfl) :
  S1 78 E T ms n (.Raise (some<|.Call (.Name x y) [.Name r M] [] j) none Y) (λ(d:D)(_:D'->Prop)(_:τ->PO->Prop) Ke=>Ke C<|J.pj d):=by
 obtain⟨fI,Ns,fd,oI,nm,q,bs,bm,af,ae,sn,ag,ab,ah,dd,k0,k1,k2,k3,k5,B,Z,O,ps,a1,a2,a3,a4,a5,a6,a7,a8,a9,aa⟩:=h.ex;refine#[_,Oy (np:=y) (pos:=Y) (cpos:=j) hg a1 a2 a3 a4 a5 a6 a7 a8 a9 aa .nil hr (vn hv vB X) W (by rw[X];rfl) λQ E' s9 z=>by rw[X]at z ⊢;exact jJ z,λd F R σ H Kn Kr Ke En s hw kn kr ke=>?_];obtain⟨v,F1,F2,e1,_,⟨a,I,rfl,_,ha,_⟩,_⟩:=UH (i:=i) (τ:=OL α) s;refine#[.ref a,e1,(by show 1<=hJ;decide),λx hx=>#[x,a,I,rfl,vh,.inl ?_,λp m S hd nx y=>#[rfl,↑m,vh,?_]]]
 ·have ne:a≠x:=λz=>by rw[z,hx]at ha;cases ha
  exact .inl<|Rd.of (by rw[ve ne];exact ha)
 ·have px:p≠x:=λz=>by rw[z,vh]at S;cases S
  rw[ve px]at S;rw[ve nx]at hd
  have q:Ci (upd (upd (upd (upd H x<|DZ C x none) p<|.lst I) m<|.xd [(L,.ref p)]) x<|DZ C x<|↑m) x=upd (upd H p<|.lst I) m (.xd [(L,.ref p)]):=by
   funext b
   by_cases U:b=x
   ·rw[U,zV,ve<|Ne.symm nx,ve<|Ne.symm px,hx]
   ·rw[yq U,ve U];by_cases o:b=m
    ·rw[o,vh,vh]
    ·rw[ve o,ve o];by_cases t:b=p
     ·rw[t,vh,vh]
     ·rw[ve t,ve U,ve t]
  rw[q];refine#[h.go m p I _ vh (by rw[ve<|Ne.symm y];exact vh),?_];refine e0a3 (s.new (.lst I) S) λs2 c2 _=>?_;obtain⟨s3,c3,_⟩:=s2.new (p:=m) (.xd [(L,.ref p)]) (by rw[ve y];exact hd);refine e1a2 (wR (PO:=PO) s3) λG g1 g2=>?_;exact ke C x _ G R _ hw ((Ch.trans s s2.tab c2 c3).less g1) g2
end
end WL
namespace SX
open PySem PySem.W PyProof.Rows
def AG(p:Array Nat)(k:Nat):p.getD k 0=(p[k]?).getD 0:=by simp
def C3{p:Array Nat}{i j:Nat}(h:j<=p.size)(k:Nat):(rM p i j).getD k 0=if i<=k/\k<j then p.getD (i+j-1-k) 0 else p.getD k 0:=by rw[AG,rM,getElem?_mirror_all h k,AG,AG];split<;>rfl
def Lx{p:Array Nat}{k d:Nat}(h:k<p.size)(a:d<=k)(i:Nat):(bubble p k d).getD i 0=if i=k-d then p.getD k 0 else if k-d<i/\i<=k then p.getD (i-1) 0 else p.getD i 0:=by
 rw[AG,getElem?_bubble h d a i,AG,AG,AG];split
 ·rfl
 ·split<;>rfl
structure a2M(lt:Nat->Nat->Bool):Prop where
 ir:∀a,lt a a=false
 tr:∀a b c,lt b a=false->lt c b=false->lt c a=false
 as:∀a b,lt a b=true->lt b a=false
section
variable{lt:Nat->Nat->Bool}{cmp:Nat->Nat->(Bool->hR->Prop)->hR->Prop}{N:Nat}{s:hR}
def HC(lt:Nat->Nat->Bool)(p:Array Nat)(k:Nat):Prop:=∀i j,i<=j->j<k->lt (p.getD j 0) (p.getD i 0)=false
def FS(lt:Nat->Nat->Bool)(p:Array Nat)(k:Nat):Prop:=∀i j,i<=j->j<k->lt (p.getD i 0) (p.getD j 0)=false
def IR(N:Nat)(p:Array Nat):Prop:=∀k,p.getD k 0<N
def IR.rev{i j:Nat}(b:IR N p)(h:j<=p.size):IR N (rM p i j):=λk=>by rw[C3 h];split<;>exact b _
def IR.bub{k d:Nat}(b:IR N p)(h:k<p.size)(c:d<=k):IR N (bubble p k d):=λi=>by
 rw[Lx h c];by_cases q:i=k-d
 ·rw[gU q];exact b _
 ·rw[ci q];by_cases a:k-d<i/\i<=k
  ·rw[gU a];exact b _
  ·rw[ci a];exact b _
def Cj{i j:Nat}:(rM p i j).Perm p:=mirror_perm _ _ _ _
variable(L:a2M lt)(hc:∀i j (C:Bool->hR->Prop),i<N->j<N->C (lt i j) s->cmp i j C s)
include L hc
def M9(b:IR N p):∀(f n:Nat) {Q:Nat->hR->Prop},1<=n->HC lt p n->(∀m,n<=m->m<=n+f->HC lt p m->(m<n+f->lt (p.getD m 0) (p.getD (m-1) 0)=true)->Q m s)->l6 cmp (kas_asc p f n) Q s:=by
 intro g
 induction g with
 |zero=>intro n Q h a k;exact k n (gZ _) (gZ _) a<|λz=>ii z<|j4 _
 |succ f c =>
  intro n Q h a k;refine hc _ _ _ (b _) (b _) ?_
  cases e:lt (p.getD n 0) (p.getD (n-1) 0) with
  |true=>exact k n (gZ _) q0a a λ_=>e
  |false =>
   refine c (n+1) q0a (λi j d t=>?_) λm u v l o=>k m q0a q0a l λz=>o q0a;by_cases q:j=n
   ·subst q;by_cases r:i=j
    ·rw[r];exact L.ir _
    ·exact L.tr _ _ _ (a i (j-1) q0a q0a) e
   ·exact a i j d q0a
omit hc in
set_option tactic.hygienic true in
def Vo{p:Array Nat}{n q:Nat}(m:q+1<=n)(d:n<=p.size)(f:FS lt p n)(c:∀k,n-(q+1)<=k->k<n->lt (p.getD (n-1) 0) (p.getD k 0)=false)(k:Nat) :
  lt ((rM p (n-(q+1)) n).getD k 0) (p.getD k 0)=false/\lt (p.getD k 0) ((rM p (n-(q+1)) n).getD k 0)=false:=by
 rw[C3 d];split
 ·rename_i h
  have e:∀a b,n-(q+1)<=a->a<n->n-(q+1)<=b->b<n->lt (p.getD a 0) (p.getD b 0)=false:=λa b o r g l =>
   L.tr _ (p.getD (n-1) 0) _ (c b g l) (f a (n-1) q0d q0d)
  exact#[e _ _ q0d q0d h.1 h.2,e _ _ h.1 h.2 q0d q0d]
 ·exact#[L.ir _,L.ir _]
omit hc in
def Na{p:Array Nat}{n q m:Nat}(c:q+1<=n)(d:n<=p.size)(f:FS lt p n)(a:∀k,n-(q+1)<=k->k<n->lt (p.getD (n-1) 0) (p.getD k 0)=false)(g:FS lt p m):FS lt (rM p (n-(q+1)) n) m:=λi j b h=>by have e:=Vo L c d f a;exact L.tr _ _ _ (L.tr _ _ _ (e j).2<|g i j b h) (e i).1
omit hc in
def EZ{n:Nat}(d:1<=n)(b:FS lt p n)(h:lt (p.getD (n-1) 0) (p.getD n 0)=false):FS lt p (n+1):=λi j a e=>by
 by_cases q:j=n
 ·subst q;by_cases c:i=j
  ·rw[c];exact L.ir _
  ·exact L.tr _ _ _ h<|b i (j-1) q0a q0a
 ·exact b i j a q0a
def Rx:∀(f:Nat)(p:Array Nat)(n q:Nat) {Q:Array Nat×Nat×Nat->hR->Prop},IR N p->q+1<=n->n+f<=p.size->FS lt p n->(∀k,n-(q+1)<=k->k<n->lt (p.getD (n-1) 0) (p.getD k 0)=false) ->
  (∀a m d,a.Perm p->a.size=p.size->IR N a->d+1<=m->n<=m->m<=n+f->FS lt a m->(∀k,m-(d+1)<=k->k<m->lt (a.getD (m-1) 0) (a.getD k 0)=false)->Q (a,m,d) s)->l6 cmp (kas_desc f p n q) Q s:=by
 intro F
 induction F with
 |zero=>intro p n q Q b w G h c k;exact k p n q (.refl _) rfl b w (gZ _) (gZ _) h c
 |succ f g =>
  intro p n q Q b w G h c k;refine hc _ _ _ (b _) (b _) ?_
  cases e:lt (p.getD n 0) (p.getD (n-1) 0) with
  |true =>
   have y:=EZ L q0a h<|L.as _ _ e
   have A:∀{x:Array Nat},∀k,n+1-(0+1)<=k->k<n+1->lt (x.getD (n+1-1) 0) (x.getD k 0)=false:=λ{x} k H I=>by
    have:k=n+1-1:=by lia
    rw[this];exact L.ir _
   split
   ·refine g _ (n+1) 0 (b.rev q0a) q0a (by rw[ny];lia) (Na L w q0a h c y) A λa m d l o r t B D u v=>k a m d (l.trans Cj) (o.trans<|ny _ _) r t q0a q0a u v
   ·exact g p (n+1) 0 b q0a q0a y A λa m d l o r t B D u v=>k a m d l o r t q0a q0a u v
  |false =>
   refine hc _ _ _ (b _) (b _) ?_
   cases J:lt (p.getD (n-1) 0) (p.getD n 0) with
   |true=>exact k p n q (.refl _) rfl b w (gZ _) q0a h c
   |false =>
    refine g p (n+1) (q+1) b q0a q0a (EZ L q0a h J) (λE H I=>?_) λa m d l o r t B D u v=>k a m d l o r t q0a q0a u v;have M:n+1-1=n:=by lia
    rw[M];by_cases z:E=n
    ·rw[z];exact L.ir _
    ·exact L.tr _ _ _ (c E q0a q0a) e
def JR{n a:Nat}(b:IR N p)(e:1<=n)(o:n<=a)(q:a<=p.size)(f:FS lt p n)
 (k:∀m c,c.Perm p->c.size=p.size->IR N c->1<=m->m<=a->HC lt c m->Q (m,c) s):l6 cmp (kas_tail3 n a p) Q s:=by
  unfold kas_tail3
  rw[nL]
  have d:n<=p.size:=by omega
  refine M9 L hc (b.rev d) _ n e (λi j g h=>?_) λm r t l _=>k m _ Cj (ny _ _) (b.rev d) q0d q0d l
  rw[C3 d,C3 d,gU #[jj _,h],gU #[jj _,q0d]]
  exact f _ _ q0d q0d
def Ry{n a:Nat}(b:IR N p)(A:1<=n)(B:n+1<=a)(D:a<=p.size)(w:FS lt p (n+1))
 (k:∀m d,d.Perm p->d.size=p.size->IR N d->1<=m->m<=a->HC lt d m->Q (m,d) s):l6 cmp (kas_descPart n a p) Q s:=by
  unfold kas_descPart
  rw[nL]
  refine Rx L hc _ p (n+1) 0 b q0a q0a w (λx E F=>?_) λd m G t u v y H I e z=>?_
  · have : x = n+1-1 := by lia
    rw[this];exact L.ir _
  · dsimp only
    split
    · exact JR L hc (v.rev q0a) q0a q0a (by rw[ny]; lia) (Na L y q0a e z e) λf c g h l o q r => k f c ((g.trans Cj).trans t) ((h.trans<|ny _ _).trans u) l o q r
    · exact JR L hc v q0a q0a q0a e λf c g h l o q r => k f c (g.trans t) (h.trans u) l o q r
set_option tactic.hygienic true in
def Oz{d:Nat}(b:IR N p)(P:1<=d)(B:d<=p.size)
 (k:∀m f,f.Perm p->f.size=p.size->IR N f->1<=m->m<=d->HC lt f m->Q (m,f) s):l6 cmp (kas_count d p) Q s:=by
  unfold kas_count
  rw[nL]
  refine M9 L hc b _ 1 (gZ _) (λi j g v=>?_) λn w R o D=>?_
  · have r : i = 0 := by lia
    have h:j=0:=by lia
    rw[r,h];exact L.ir _
  · by_cases e : n = d
    · rw[gU<|by rw[e]; simp]
      exact k n p (.refl _) rfl b w q0a o
    · rw[ci<|by simp[e]]
      have x:=D q0a
      split
      · rename_i S
        refine hc _ _ _ (b _) (b _) ?_
        cases h:lt (p.getD 0 0) (p.getD (n-1) 0) with
        |true=>exact k n p (.refl _) rfl b w q0a o
        |false =>
          have t:n<=p.size:=by lia
          refine Ry L hc (b.rev t) q0a q0a (by rw[ny];lia) (λi j g v=>?_) λE u y F G H I J=>k E u (y.trans Cj) (F.trans<|ny _ _) G H I J
          have l:∀a c,a<n->c<n->lt (p.getD a 0) (p.getD c 0)=false:=λa c M y=>L.tr _ _ _ (L.tr _ _ _ (o c (n-1) q0a q0a) h)<|o 0 a (jj _) M
          rw[C3 t i,C3 t j]
          by_cases q:j<n
          · rw[gU #[jj _, by lia], gU #[jj _, q]]
            exact l _ _ q0a q0a
          · have O : j = n := by lia
            rw[ci (c:=0<=j/\j<n) λz=>q z.2]
            by_cases A:i<n
            · rw[gU #[jj _, A], O]
              exact L.tr _ _ _ (L.as _ _ x)<|l _ _ q0a q0a
            · rw[ci λz => A z.2, show i = j by lia]
              exact L.ir _
      · refine Ry L hc b q0a q0a B (EZ L q0a (λi j g v => ?_)<|L.as _ _ x) k
        have r:i=0:=by lia
        have h:j=0:=by lia
        rw[r,h];exact L.ir _
def OA{k:Nat}(b:IR N p)(q:HC lt p k):∀(f l r:Nat) {Q:Nat->hR->Prop},r-l<=f->l<=r->r<=k->(∀i,i<l->lt (p.getD k 0) (p.getD i 0)=false)->(∀i,r<=i->i<k->lt (p.getD k 0) (p.getD i 0)=true) ->
  (∀h,h<=k->(∀i,i<h->lt (p.getD k 0) (p.getD i 0)=false)->(∀i,h<=i->i<k->lt (p.getD k 0) (p.getD i 0)=true)->Q h s)->l6 cmp (uA p k f l r) Q s:=by
 intro t
 induction t with
 |zero=>intro l r Q u o a m n d;exact d l q0d m λi z=>n i q0d
 |succ f g =>
  intro l r Q u o a m n d;show l6 cmp (if l>=r then KasT.ret l else KasT.ask (p.getD k 0) (p.getD ((l+r) / 2) 0) λc=>if c=true then uA p k f l ((l+r) / 2) else uA p k f ((l+r) / 2+1) r) Q s;split
  ·exact d l q0d m λi z=>n i q0d
  ·refine hc _ _ _ (b _) (b _) ?_
   cases e:lt (p.getD k 0) (p.getD ((l+r) / 2) 0) with
   |true =>
    refine g l ((l+r) / 2) q0d q0d q0d m (λi v w=>?_) d
    cases x:lt (p.getD k 0) (p.getD i 0) with
    |true=>rfl
    |false=>rw[L.tr _ _ _ (q ((l+r) / 2) i v w) x]at e;cases e
   |false =>
    refine g ((l+r) / 2+1) r q0d q0d a (λi z=>?_) n d;exact L.tr _ _ _ (q i ((l+r) / 2) q0d q0d) e
def Vp:∀(f:Nat)(p:Array Nat)(k:Nat) {Q:Array Nat->hR->Prop},IR N p->k+f<=p.size->HC lt p k->(∀d,d.Perm p->HC lt d (k+f)->Q d s)->l6 cmp (kas_bin f p k) Q s:=by
 intro t
 induction t with
 |zero=>intro p k Q b u c g;exact g p (.refl _) c
 |succ f h =>
  intro p k Q b u c g;show l6 cmp ((uA p k k 0 k).bind λl=>kas_bin f (bubble p k<|k-l)<|k+1) Q s;rw[nL];refine OA L hc b c k 0 k q0a q0a (gZ _) (λi z=>ii z q0a) (λi D v=>ii v q0a) λl E w x=>?_;have a:k<p.size:=by lia
  have m:k-l<=k:=by lia
  have y:k-(k-l)=l:=by lia
  refine h _ (k+1) (b.bub a m) (by rw[bubble_size];lia) (λi j n F=>?_) λd A B=>g d (A.trans<|bubble_perm _ _ _) (by rw[show k+(f+1)=k+1+f by lia];exact B);rw[Lx a m,Lx a m,y];by_cases o:j=l
  ·rw[gU o];by_cases e:i=l
   ·rw[gU e];exact L.ir _
   ·rw[ci e,ci q0a];exact w i q0a
  ·rw[ci o];by_cases q:l<j/\j<=k
   ·rw[gU q];by_cases e:i=l
    ·rw[gU e];exact L.as _ _<|x (j-1) q0a q0a
    ·rw[ci e];by_cases r:l<i/\i<=k
     ·rw[gU r];exact c _ _ q0a q0a
     ·rw[ci r];exact c _ _ q0a q0a
   ·rw[ci q,ci q0a,ci q0a];exact c _ _ n q0a
set_option tactic.hygienic true in
def Rz{n:Nat}(p:1<=n)(u:n<=N)(d:∀a,a.Perm (iA n).toArray->HC lt a n->Q a s):l6 cmp (kas_sort n) Q s:=by
 unfold kas_sort;rw[nL];have e:(iA n).toArray.size=n:=by simp
 have b:IR N (iA n).toArray:=λk=>by
  rw[AG];simp only[List.getElem?_toArray,List.getElem?_range'];by_cases h:k<n
  ·simp[uf h];lia
  ·simp[kP (l:=iA n)<|by simpa using h];lia
 refine Oz L hc b p (by rw[e];exact gZ _) λm a f q r v w g=>?_;split
 ·rename_i h
  refine Vp L hc _ a (max m 1) r (by rw[q,e];lia) (by rw[show max m 1=m by lia];exact g) λc t o=>d c (t.trans f) (by rw[show max m 1+(n-max m 1)=n by lia]at o;exact o)
 ·exact d a f (by rw[show n=m by lia];exact g)
end
open PySem.Spec
noncomputable def IS(p q:Int×Int):Bool:=decide (p.1<q.1)||(p.1==q.1&&decide (p.2<q.2))
def E4:IS p q=false↔q.1<p.1\/(q.1=p.1/\q.2<=p.2):=by unfold IS;simp only[Bool.or_eq_false_iff,Bool.and_eq_false_iff,decide_eq_false_iff_not,beq_eq_false_iff_ne];omega
def a0N:IS p q=true↔p.1<q.1\/(p.1=q.1/\p.2<q.2):=by unfold IS;simp only[Bool.or_eq_true,iU,iW,beq_iff_eq]
def xJ(h:iX)(v:cr)(p:Int×Int):Prop:=∃x o t u n,v=.ref x/\h.get? x=↑o/\o.cls=.type "tuple"/\o.data=.seq #v[.int p.1 t,.int p.2 u] n
def Vq{x y:cr}{p q:Int×Int}{Q:Bool->hR->Prop}(hx:xJ s.heap x p)(hy:xJ s.heap y q)(h:Q (IS p q) s):hX (hZ prog w) A (keyLt' (tuples' true) x y) Q E s:=by
 obtain⟨a,o,t,u,n,rfl,h1,h2,h3⟩:=hx;obtain⟨b,o',t',u',n',rfl,k1,k2,k3⟩:=hy;refine PySem.W.kat_lt h1 h3 k1 k3<|uh<|rT<|uO (λe=>uB<|uh<|rT<|uO (λe2=>uB<|PySem.W.kat_nil ?_) λe2=>uP<|PySem.W.kat_one _ _<|wpAny_lt_int ?_) λe=>uP<|oneLt_int ?_
 ·have e1:=eq_of_beq e;have e2:=eq_of_beq e2;have:IS p q=false:=E4.mpr<|.inr #[e1.symm,Int.le_of_eq e2.symm];rw[this]at h;exact h
 ·have e1:=eq_of_beq e;have:IS p q=decide (p.2<q.2):=by unfold IS;rw[e1];simp
  rw[this]at h;exact h
 ·have:IS p q=decide (p.1<q.1):=by unfold IS;rw[e];simp
  rw[this]at h;exact h
def xJ.keep{h a:iX}(k:∀b o,h.get? b=↑o->o.cls=.type "tuple"->a.get? b=↑o)(z:xJ h v p):xJ a v p:=by obtain⟨x,o,t,u,n,e,d,c,f⟩:=z;exact#[x,o,t,u,n,e,k x o d c,c,f]
def E5{h a:iX}(k:∀b o,h.get? b=↑o->o.cls=.type "tuple"->a.get? b=↑o):∀{c:List cr} {d:List (Int×Int)},Paired (xJ h) c d->Paired (xJ a) c d:=by
 intro _ _ z
 induction z with
 |nil=>exact .nil
 |cons h t e=>exact .cons (h.keep k) e
def E6:∀{d:List cr} {e:List (Int×Int)},Paired (xJ h) d e->∃c,PySem.W.KatTups h d c/\c.length=d.length/\∀v∈c,∃i t,v=l8 i t
 |_,_,.nil=>#[[],PySem.W.KatTups.nil,rfl,λ_ z=>ii z jl]
 |_,_,.cons a b=>by
  refine e1a3 (E6 b) λc f g j=>?_;obtain⟨x,o,t,u,n,rfl,k,l,m⟩:=a;refine#[_::c,#[#[x,o,_,n,rfl,k,l,m,rfl],f],by simp[g],λv p=>?_];rcases List.mem_cons.mp p with z|z
  ·exact#[_,_,z]
  ·exact j v z
def Gy:∀{c:List cr} {d:List (Int×Int)},Paired (xJ h) c d->∀i,i<c.length->xJ h (c.getD i .none) (d.getD i (0,0)):=by
 intro _ _ z
 induction z with
 |nil=>intro i z;exact ii z<|Nat.not_lt_zero _
 |cons a b e =>
  intro i z
  cases i with
  |zero=>exact a
  |succ i=>simpa using e i (by simpa using z)
def Ly{d:List cr}{n:Nat}(D:s.heap.get? a=↑(mJ "list" d.toArray n))(hp:Paired (xJ s.heap) d m)(I:d.length<64)
 (h:∀J:List Nat,J.Perm (iA d.length)->(J.map λi=>m.getD i (0,0)).Pairwise (λx y=>IS y x=false)->P (.done<|.ret .none) { s with heap:=sortedHeap s.heap a d (J.map λi=>d.getD i .none).toArray}):hX (hZ U w) A (Builtin.«list.sort» #[[.ref a],[]]) P E s:=by
  rw[list_sort_plain]
  have sl:(64:Nat)<=hJ:=by rw[i7];decide
  have hz:d.length<=hJ:=by lia
  refine am<|listItems_at D rfl<|am<|ui D rfl ?_ (hsz:=by simpa using hz)
  obtain⟨L,X⟩:∃L,(s.heap.update a<|Obj.mapSeq λ_=>#v[]).get? a=some (mJ "list" #v[] L):=#[_,get?_update_seq D _]
  refine am<|seqEpoch_at X rfl<|am<|wpAny_newTuple<|am<|ue<|iM ?_
  have F:(((s.heap.update a<|Obj.mapSeq λ_=>#v[]).push<|mJ "tuple" d.toArray 0).push<|mJ "list" #v[] 0).get? a=↑(mJ "list" #v[] L):=ce _<|ce _ X
  have g:Paired (xJ<|((s.heap.update a<|Obj.mapSeq λ_=>#v[]).push<|mJ "tuple" d.toArray 0).push<|mJ "list" #v[] 0) d m:=E5 (λb o z c=>ce _<|ce _<|(iN _ _ (λq=>by rw[<- q,D]at z;cases z;have c:kj "list"=kj "tuple":=c;injection c with c;exact ii c q0q)).trans z) hp
  have sz:d.toArray.size=d.length:=by simp
  by_cases Y:d.length<2
  · rw[gU q0a, gU q0a]
    refine am<|ap<|am<|ap ?_
    refine am<|seqEpoch_at F rfl<|am<|ui F rfl ?_ (hsz2:=by simp[SortSt.mk',arrOf];lia)
    have key:=h (iA d.length) (.refl _) (by
      rcases d with _|⟨v,_|⟨v2,r⟩⟩
      · simp
      · simp
      · simp at Y; lia)
    have e:((iA d.length).map λi=>d.getD i .none).toArray=Array.map (λx=>x.snd) (d.toArray.zip d.toArray):=by
      rcases d with _|⟨v,_|⟨v2,r⟩⟩
      · simp
      · simp
      · simp at Y; lia
    rw[e]at key
    simp only[rH,lA,pK]
    exact ap key
  rw[ci q0a,ci q0a]
  refine e1a3 (E6 g) λfs f1 f2 f3=>?_
  refine am<|PySem.W.kat_kind (T:=.type "int") f1 q0a (λv hv=>?_) q0q ?_
  · obtain⟨i, t, rfl⟩ := f3 v hv
    exact PySem.W.Looks.now
  refine am (jm (PySem.W.kat_run (ks:=d) (vs:=d) (κ:=tuples' true) rfl q0a I (Q:=λf u=>∃p:Array Nat,p.size=d.length/\arrOf f=Array.map (PySem.W.kas_item (d.toArray.zip d.toArray)) p/\failedOf f=none/\u={ s with heap:=((s.heap.update a (Obj.mapSeq λ_=>#v[])).push (mJ "tuple" d.toArray 0)).push (mJ "list" #v[] 0)}/\p.toList.Perm (iA d.length)/\(p.toList.map λi=>m.getD i (0,0)).Pairwise (λx y=>IS y x=false))
    (G:=λp u=>u={ s with heap:=((s.heap.update a (Obj.mapSeq λ_=>#v[])).push (mJ "tuple" d.toArray 0)).push (mJ "list" #v[] 0)}/\p.toList.Perm (iA d.length)/\(p.toList.map λi=>m.getD i (0,0)).Pairwise (λx y=>IS y x=false)) (λp f u M O R q4=>#[p,M,O,R,q4]) ?_) ?_ λ_ _ z=>z)
  rotate_left
  · rintro⟨⟨⟩, f⟩ u ⟨p, M, O, R, rfl, g1, g2⟩
    have Z:=PySem.W.kat_snds (vs:=d) (ks:=d) rfl O
    refine am<|seqEpoch_at F rfl<|am<|ui F rfl ?_ (hsz2:=by rw[Z];simp[M];lia)
    rw[R]
    simp only[rH,lA,pK]
    rw[Z]
    exact ap<|h _ g1 g2
  · refine Rz (N := d.length) (lt := λi j => IS (m.getD i (0, 0))<|m.getD j (0, 0)) ⟨λa => ?_, λa b c z1 z2 => ?_, λa b z => ?_⟩ (λi j C H B k => ?_) q0a (gZ _) λl c1 c2 => #[rfl, ?_, ?_]
    · exact E4.mpr<|.inr #[rfl, oK _]
    · have z1 := E4.mp z1
      have z2:=E4.mp z2
      exact E4.mpr q0a
    · have z := a0N.mp z
      exact E4.mpr q0a
    · exact Vq (Gy g i H) (Gy g j B) k
    · have := c1.toList
      simpa using this
    · rw[List.pairwise_iff_getElem]
      intro i j H B S
      have hl:l.size=d.length:=by have:=c1.size_eq;simpa using this
      have q:=c2 i j (mj S) (by simpa[hl] using B)
      have gi:l.getD i 0=l.toList[i]'(by simpa using H):=by
        have:i<l.size:=by simpa using H
        simp[Array.getD,this]
      have gj:l.getD j 0=l.toList[j]'(by simpa using B):=by
        have:j<l.size:=by simpa using B
        simp[Array.getD,this]
      rw[vc,vc,<- gi,<- gj]
      exact q
def HD{a:List cr}(u:s.heap.IsList l a.toArray)(v:Paired (xJ s.heap) a B)(f:a.length<64)
 (h:∀j C r (d:List Nat),⇑s<=r->d.Perm (iA a.length)->(d.map λi=>B.getD i (0,0)).Pairwise (λx y=>IS y x=false)->(∃n,j.get? r=some { cls:=.type "list",data:=.seq (d.map λi=>a.getD i .none).toArray n})->(∀c o,s.heap.get? c=↑o->j.get? c=↑o)->Q (.ref r) { s with heap:=j,toks:=C}) :
    hX (hZ t w) A (call (.builtin "sorted") [.ref l]) Q E s:=by
  refine rR kind_sorted plain_sorted entry_sorted (args_sorted1 _) ?_
  have sl:(64:Nat)<=hJ:=by rw[i7];decide
  refine am (m:=checkCount "sorted" 1 1 _)<|ap<|am<|collect_list u ?_ q0d
  have e:∀c o,s.heap.get? c=↑o->(124).get? c=↑o:=λc o q=>(iN _ _<|jv<|hV q).trans<|ce _ q
  have sz:⇑s<=(124).objs.size:=by rw[oT,tK];exact md _
  generalize 124=k at e sz ⊢
  refine am<|ue ?_
  have p:(k.push<|mJ "list" a.toArray 0).get? k.objs.size=↑(mJ "list" a.toArray 0):=ic _ rfl
  refine am<|iM<|jc slot_list_sort ⟨_,p,rfl⟩ entry_list_sort (Ly p (E5 (λb o z _=>ce _<|e b o z) v) f λd D F=>#[_,rfl,?_])<|args_list_sort _
  obtain⟨G,H⟩:=sortedHeap_at (out:=(d.map λi=>a.getD i .none).toArray) p
  refine ap #[_,rfl,h _ s.toks k.objs.size d sz D F #[G,by simpa using H] λc o g=>?_]
  have lt:=hV<|e c o g
  rw[sortedHeap_old (ij lt)<|by rw[tK];exact oJ lt]
  exact ce _<|e c o g
end SX
namespace L2
open PySem PySem.Spec PyProof.Rows SX
def range_getD(l:List a)(d:a):(iA l.length).map (λi=>l.getD i d)=l:=by refine List.ext_getElem q0o λi c b=>?_;simp[List.getD,b]
def Gz(h:Paired R c k):∀{b:List Nat},(∀i∈b,i<c.length)->Paired R (b.map λi=>c.getD i d) (b.map λi=>k.getD i e):=by
 have g:∀i,i<c.length->R (c.getD i d) (k.getD i e):=by
  induction h with
  |nil=>exact λi z=>ii z<|Nat.not_lt_zero _
  |cons a _ f =>
   intro i z
   cases i with
   |zero=>exact a
   |succ i=>simpa using f i (by simpa using z)
 intro b
 induction b with
 |nil=>exact λ_=>.nil
 |cons i r f=>exact λz=>.cons (g i<|z i gY)<|f λj l=>z j<|hI _ l
def pairs_at(I:Inv X g B H s):∀{i:List V} {d:List cr} {f:List (Int×Int)},Vals i d->Paired (λ(v:V)(p:Int×Int)=>∃t,v=.ref t/\H t=↑(.tup [.int p.1,.int p.2])) i f->Paired (xJ s.heap) d f:=by
 intro _ _ f z
 induction z generalizing f with
 |nil=>intro w;cases w;exact .nil
 |cons r C j=>intro w;cases w with|cons q k =>
  refine e1a2 q λt e h=>?_;subst e;obtain rfl:=r;obtain⟨d,l,⟨o,m,u,n,x⟩,_⟩:=I.tuple<|zn.of h
  cases l with|cons a b =>
  cases b with|cons b c =>
  cases c;obtain⟨y,rfl⟩:=a;obtain⟨A,rfl⟩:=b;exact .cons #[t,o,y,A,n,rfl,m,u,x]<|j k
def HE:y8 X (.builtin "sorted") (λm H Q=>∃(a:gV)(c:List V) (j:List (Int×Int)),m=[.ref a]/\wD X.K H a c/\Paired (λ(v:V)(p:Int×Int)=>∃t,v=.ref t/\H t=↑(.tup [.int p.1,.int p.2])) c j/\c.length<64 /\
  ∀(l:gV)(b:List Nat),H l=none->b.Perm (iA c.length)->(b.map λi=>j.getD i (0,0)).Pairwise (λx y=>IS y x=false)->Q (.ref l) (upd H l (.lst (b.map λi=>c.getD i .wP)))):=by
 intro w s R H m c Q I r h;obtain⟨a,f,j,rfl,A,B,C,q⟩:=h;obtain⟨u,rfl,D⟩:=vals1 r;cases D;refine e1a3 (I.list A) λd k E S=>?_;have F:f.length=d.length:=k.length;refine HD E.isList (pairs_at I k B) q0d λT G r b z g J L M=>?_;obtain⟨n,e⟩:=L;rw[<- F]at g;have N:∀i∈b,i<f.length:=λi O=>by simpa using g.subset O
 have P:b.length=f.length:=by simpa using g.length_eq
 exact#[.ref r,_,I.laid (t':=G) (o:=.lst<|b.map λi=>f.getD i .wP) M z #[by rw[hO,P];omega,b.map λi=>d.getD i .none,n,Gz k N,e],rfl,q r b (I.vW.fresh z) g J]
end L2
namespace WL
variable[L2.GX]
open PySem L2 SX
open Rep (rp)
open Ow (sl)
open Sls (rel)
section
variable{D:Type}[Sls D]
def OB:∀{a:List d} {b:List V},Paired R a b->Paired (λv x=>R x v) b a:=by
 intro _ _ z
 induction z with
 |nil=>exact .nil
 |cons h t c=>exact .cons h c
def JS{a b:Type}{R S:a->b->Prop}(h:∀x y,R x y->S x y):∀{c:List a} {d:List b},Paired R c d->Paired S c d:=λz=>L2.Paired.W9 z h
def Lz(B:Gl X "sorted")(C:X.mg "sorted"=none)(G:ER X E T a I)(k:gX [a] X.env=79::gX [] X.env:=by rfl) :
  EO X E T (.Call (.Name "sorted" p) [a] [] pos) (cK I λ(m:OL (Int×Int)->D->Prop) g b=>(g b).length<64/\∀c,c.Perm (g b)->c.Pairwise (λx y=>IS y x=false)->m #[c] b):=by
 refine e1a2 G λta J L=>?_;refine#[_,wT HE B C kK (vn J vB k) (he:=k),λd F R M H m N Q s O P S=>L d F R M H _ N _ s O (λg b u n U W o Y f Z=>?_) S];obtain⟨q,r,rfl,h1,h⟩:=Z b n U W 61 f;have A:(g b).length=r.length:=h.length;refine#[_,r,g b,rfl,wD.of h1,JS (λv x z=>?_)<|OB h,by rw[<- A];exact o.1,λl ix hl j sn=>?_]
 ·obtain⟨t,u,w,rfl,_,e,e1,e2⟩:=z;exact#[t,rfl,by rw[e,e1,e2]]
 ·rw[<- A]at j;have lt:∀i∈ix,i<(g b).length:=λi hi=>by simpa using j.subset hi
  refine e1a3 (xW f hl<|Gz (d:=(0,0)) (e:=V.wP) h lt) λR' c3 s3 n3=>?_;exact P _ b _ _ n R' _ (o.2 _ (by have:=j.map<|λi=>(g b).getD i (0,0);rwa [range_getD]at this) sn) (Ch.trans s f.tab Y c3) s3 n3
def tw_trueR{f:Type}[Rep f]{h:Wf D (D->List f) D}(p:ER X E T a h)(r:∀b,qW a X.env b=(do let v <- b;ng a.pos;k9 [v] (uE v)):=by intro _;rfl):TW X E T a (cK h λi g c=>i (!(g c).isEmpty) c):=by
 refine e1a2 p λL t w=>?_;refine#[_,Je t r,λd F R x H i y Q s z A B=>w d F R x H _ y _ s z (λg c u j k m C G n I=>?_) B];obtain⟨q,e,rfl,J,o⟩:=I c j k m 61 n;refine#[!e.isEmpty,.inl #[e,wD.of J,rfl],?_]
 have:e.isEmpty=(g c).isEmpty:=by generalize g c=l at o;cases o<;>rfl
 rw[this];exact A _ c j k m C G n
end
section
variable{D PO τ:Type}[Sls D][Sls PO][Ow τ]{α:Type}[Rep α]
def RA(q:ID)(i:Nat)[Sls j][A:At i D (Bd C l) j](n:q.ok l)(o:Bc X.K C)(t:v9 X.K C q.nm)(u:X.A.units+1<kT)(w:PE X (.Name x b) (vQ i))(B:EV X T a f)(m:M1 X (.Attribute (.Name x b) q.nm G) "get" apos a pos:=by exact#[rfl,rfl,rfl,rfl])(I:iP (.Name x b) q.nm X.env (eval (.Name x b) X.env)=eval (.Name x b) X.env:=by rfl) :
  EW X E T (.Call (.Attribute (.Attribute (.Name x b) q.nm G) "get" apos) [a] [] pos) (λ(d:D)(c:Option Int->D->Prop) _=>c (lk 83<|f d) d):=by
 refine e1a2 B λW J L=>?_;refine#[_,P7 u (xh w I) J m,λd F R M H c Y Q s N O Z=>?_];obtain⟨p,P,e1,e2,e3,e4,us,S,e,_,_⟩:=wN (i:=i) s;refine e1a4 (AC e q n) λy U h _ _=>?_;refine#[_,S,p,C,P,_,_,rfl,e.ob,o,t,U,y,rfl,.inl #[_,.inl h],L d F R M H _ s λv r=>?_];subst r;have g:=yz.k (k:=iE<|f d) h;rw[yM]at g;refine#[_,g,O _ d _ F R H N 61 s ?_]
 cases lk 83 (f d) with
 |none=>exact rfl
 |some z=>exact#[(λz=>by cases z),rfl]
def RB(q:ID)(i:Nat)[Sls n][A:At i D (Bd C o) n](t:q.ok o)(u:Bc X.K C)(w:v9 X.K C q.nm)(B:X.A.units+1<kT)(G:PE X (.Name x c) (vQ i))(I:EV X T a f)(J:EV X T b g)(m:M2 X (.Attribute (.Name x c) q.nm L) "get" apos a b pos:=by exact#[rfl,rfl,rfl,rfl])(M:iP (.Name x c) q.nm X.env (eval (.Name x c) X.env)=eval (.Name x c) X.env:=by rfl) :
  EW X E T (.Call (.Attribute (.Attribute (.Name x c) q.nm L) "get" apos) [a,b] [] pos) (λ(d:D)(e:Int->D->Prop) _=>e ((lk 83<|f d).getD<|g d) d):=by
 refine e1a2 I λta N O=>?_;refine e1a2 J λtb P S=>?_;refine#[_,P8 B (xh G M) N P m,λd F R h H e Ke Q s U W ke=>?_];obtain⟨p,Y,e1,e2,e3,e4,us,Z,j,_,_⟩:=wN (i:=i) s;refine e1a4 (AC j q t) λy l1 l _ _=>?_;refine#[_,Z,p,C,Y,_,_,rfl,j.ob,u,w,l1,y,rfl,.inl #[_,.inl l],O d F R h H _ s λv r=>S d F R h H _ s λv' r'=>?_];subst r r';have g:=yz.k (k:=iE<|f d) l;rw[yM]at g;refine#[_,g,W _ d _ F R H U 61 s ?_]
 cases lk 83 (f d) with
 |none=>exact rfl
 |some z=>exact rfl
def Vs(q:ID)(i:Nat)[Sls e][A:At i D (Bd C g) e][U:Pt i e (Bd C g) D](n:q.ok g)(o:Bc X.K C)(t:v9 X.K C q.nm)(u:PE X (.Name x b) (vQ i))(w:EV X T a f)(m:M1 X (.Attribute (.Name x b) q.nm B) "pop" apos a pos:=by exact#[rfl,rfl,rfl,rfl])(G:iP (.Name x b) q.nm X.env (eval (.Name x b) X.env)=eval (.Name x b) X.env:=by rfl) :
  EW X E T (.Call (.Attribute (.Attribute (.Name x b) q.nm B) "pop" apos) [a] [] pos) (λ(d:D)(h:Int->D->Prop) _=>∃v,lk 83 (f d)=↑v/\h v (U.put (A.hole d)<|q.set (A.get d)<|dk 83<|f d)):=by
 refine e1a2 w λta I J=>?_;refine#[_,P9 (xh u G) I m,λd F R L H h Ke Q s M N ke=>?_];obtain⟨p,O,e1,e2,e3,e4,us,P,j,S,W⟩:=wN (i:=i) s;refine e1a4 (AC j q n) λy Y k l Z=>?_;refine#[_,P,p,C,O,_,_,rfl,j.ob,o,t,Y,y,rfl,.inl #[_,.inl k],J d F R L H _ s λv r=>?_];subst r;refine e1a2 M λz h1 h2=>?_;refine#[_,iE<|f d,V.int z,k,rfl,(by rw[yM,h1];rfl),?_];rw[JH];obtain⟨c,s'⟩:=W (U:=U) l<|Z (dk 83<|f d)<|S _ l;exact N z _ _ F R _ h2 c s' rfl
def JT{R:Rg}{H:Hp}{y:α}:∀{xs:List α} {vs:List V},Paired (rp R H) (xs++[y]) vs->∃us u,vs=us++[u]/\Paired (rp R H) xs us/\rp R H y u:=by
 intro xs
 induction xs with
 |nil=>intro _ z;cases z with|cons h t=>cases t;exact#[[],_,rfl,.nil,h]
 |cons a xs ih =>
  intro _ z
  cases z with|cons h t =>
  obtain⟨us,u,rfl,h1,h2⟩:=ih t;exact#[_::us,u,rfl,.cons h h1,h2]
def Nb(i:Nat){D0:Type}[Sls D0][A:At i D (OL α) D0][U:Pt i D0 (OL α) D](hn:PE X (.Name x p1) (vQ i))(hb:PE X (.Call (.Attribute (.Name x p1) "pop" apos) [] [] pos) (ZM X.K "list" ZN<|vQ i)) :
  EW X E T (.Call (.Attribute (.Name x p1) "pop" apos) [] [] pos) (λ(d:D)(Kn:α->D->Prop) _=>∃ys y,(A.get d).l=ys++[y]/\Kn y (U.put (A.hole d) #[ys])):=by
 refine#[_,hb,λd F R σ H Kn Ke Q s hw kn ke=>?_];refine e2a4 (B7 (i:=i) s) λa vs g1 g2 g3 g4=>?_;refine e2a2 hw λys y e hk=>?_;rw[e]at g3;obtain⟨us,u,rfl,h1,h2⟩:=JT g3;obtain⟨c2,s2⟩:=g4 _ _ h1;refine#[_,g1,.inl #[rfl,_,wD.of g2],a,_,u,rfl,rfl,g2,q0o,?_];rw[List.dropLast_concat];exact kn y _ u F R _ hk c2 s2<|s.val c2 h2
def zN{R:Rg}{H:Hp}:∀{xs:List α} {vs:List V} (k:Nat),Paired (rp R H) xs vs->Paired (rp R H) (xs.eraseIdx k) (vs.eraseIdx k):=by
 intro _ _ k z
 induction z generalizing k with
 |nil=>exact .nil
 |cons h t ih=>cases k with
  |zero=>exact t
  |succ k=>exact .cons h<|ih k
def OC{a:iT}(i:Nat){D0:Type}[Sls D0][A:At i D (OL α) D0][U:Pt i D0 (OL α) D]{we:Wf D Int D}(hn:PE X (.Name x p1) (vQ i))(h:EW X E T a we)
  (hb:∀{t:TA},PA X [a] t->PE X (.Call (.Attribute (.Name x p1) "pop" apos) [a] [] pos) (tBM X.K "list" PZ (vQ i) t)) (hs:gX [a] X.env=79::gX [] X.env:=by rfl) :
  EW X E T (.Call (.Attribute (.Name x p1) "pop" apos) [a] [] pos) (cK we λ(Kn:α->D->Prop) k d'=>0<=k/\∃y,(A.get d').l[k.toNat]?=↑y/\(A.get d').l.length<1000/\Kn y (U.put (A.hole d') #[(A.get d').l.eraseIdx k.toNat])):=by
 refine e1a2 h λt h1 h2=>?_;refine#[_,hb<|vn h1 vB hs,λd F R σ H Kn Ke Q s hw kn ke=>?_];refine e2a4 (B7 (i:=i) s) λa0 vs0 g1 g2 g3 _=>?_;refine#[_,g1,.inl #[rfl,vs0,wD.of g2],h2 d F R σ H _ _ _ s hw (λk d' v F' R' H' q c s' r=>?_) ke];subst r;refine e2a4 (B7 (i:=i) s') λa' UL k1 k2 k3 k4=>?_;rw[g1]at k1;cases k1;obtain⟨q0,y,e,ql,hk⟩:=q;refine e1a2 (xi k3 e) λu hu ru=>?_;have lt:=(List.getElem?_eq_some_iff.mp hu).1;have ll:=Paired.length k3;obtain⟨c2,s2⟩:=k4 _ _<|zN k.toNat k3;refine#[a0,UL,k,k.toNat,u,rfl,rfl,k2,q0a,q0a,?_,hu,kn y _ u F' R' _ hk (Ch.trans s s'.tab c c2) s2<|s'.val c2 ru];have e0:(if k<0 then k+(UL.length:Int) else k)=k:=ci q0a;show (if (decide (0<=(if k<0 then k+(UL.length:Int) else k))&&decide ((if k<0 then k+(UL.length:Int) else k)<(UL.length:Int)))=true then some (if k<0 then k+(UL.length:Int) else k).toNat else none)=_;rw[e0];have:(decide (0<=k)&&decide (k<(UL.length:Int)))=true:=by simp;lia
 exact gU this
end
end WL
namespace L2
open PySem PySem.Spec PyProof.Rows SX
def YC(f:TE)(c:Int):TE:=λg H Q=>f g H λv d=>∃(a:gV) (b:List (Key×V)) (e:List Int),v=.ref a/\d a=↑(.dK b)/\b.map (·.1)=e.map iE/\∀p,d p=none->Q (.ref p) (upd d p<|.dK<|e.map λk=>(iE k,V.int c))
def stored_new:∀{l:List (Key×cr)},k∉l.map (·.1)->stored l k y=l++[(k,y)]
 |l,h=>by unfold stored;rw[ci];simp only[uX,iW,not_exists,not_and];exact λe a z=>h<|List.mem_map.mpr #[e,a,z]
def JU:∀{l:List k} {c:List m},Paired R c (l++[v])->∃b d,c=b++[d]/\Paired R b l/\R d v:=by
 intro e
 induction e with
 |nil=>intro _ z;cases z with|cons h t=>cases t;exact#[[],_,rfl,.nil,h]
 |cons a e f =>
  intro _ z
  cases z with|cons h t =>
  obtain⟨g,u,rfl,i,j⟩:=f t;exact#[_::g,u,rfl,.cons h i,j]
def AZ:∀{l:List c} {m:List d},l.length=m.length->(∀(j:Nat)(k:c)(v:d),l[j]?=↑k->m[j]?=↑v->R k v)->Paired R l m
 | [],[],_,_=>.nil
 | [],_::_,h,_=>by cases h
 |_::_,[],h,_=>by cases h
 |a::l,b::m,h,f=>.cons (f 0 a b rfl rfl)<|AZ (nI h) λj k v e g=>f (j+1) k v e g
def JV{c:Int}:∀{a:List Int} {r:List (Key×cr)},r.map (·.1)=a.map iE->(∀e∈r,∃t,e.2=.int c t)->KV (a.map λk=>(iE k,V.int c)) r
 | [],[],_,_=>.nil
 | [],_::_,h,_=>by cases h
 |_::_,[],h,_=>by cases h
 |k::a,e::r,h,f=>by rw[iC,iC]at h;injection h with b d;obtain⟨t,g⟩:=f e gY;exact .cons #[b.symm,t,g]<|JV d λi j=>f i<|hI _ j
def LA{P:iJ}{w:jb}(g:∀v k,i v k->Aj k v=true)(h:StoredAll i j l r):∀{a:List Key},Paired (λk v=>Aj k v=true) a l->a.Nodup->r.map (·.1)=a/\∀e∈r,∃v,j v e.2:=by
 induction h with
 |nil=>intro a c _;cases c;exact#[rfl,λ_ z=>by cases z]
 | @snoc l r v k y _ m n o =>
  intro a c p;obtain⟨q,d,rfl,s,t⟩:=JU c;have u:k=d:=(vO P w).inj v k d (g v k m) t;subst u;have b:=List.nodup_append.mp p;obtain⟨f,x⟩:=o s b.1;have A:k∉r.map (·.1):=λz=>by rw[f]at z;exact b.2.2 k z k q0o rfl
  rw[stored_new A,ku,f];refine#[rfl,λe B=>?_];rcases List.mem_append.mp B with z|z
  ·exact x e z
  ·rw[List.mem_singleton.mp z];exact#[v,n]
def RC(af:X.calm=true)(hi:PE X iter ti)(E:oP d X.env=pure [])(F:∀y∈d.names,y.2≠.cell)(f:d.kind=.function)(p:∀y∈d.names,y.2=.local->d.names.lookup y.1=some .local)(hx:d.names.lookup x=some .local)(hd:(x==66)=false:=by decide)
 (hs:∀x,kD iter X.env x=pure x:=by intro _;rfl):PE X (.DictComp (.Name x q1) (.Constant (.int c) j q2) [#[.Name x px,iter,[],0]] d pos) (YC ti c):=by
  intro u s σ H Q I h
  have hh:X.A.handled=none:=I.ok.hd af
  rw[arm_eval_DictComp]
  refine pB (use:=none) rfl hs E f p<|vU (hi u s σ H _ I h) λv l z9=>e2a3 z9 λx1 H1 I1 r1 N=>e3a4 N λa r O e1 ha G q=>?_
  subst e1
  obtain rfl:v=iq a:=r1
  obtain⟨hz,S,m,kv,wh⟩:=I1.vW a _ ha
  obtain⟨B,D⟩:=wh.dictAt
  have alt:a<⇑l:=D.lt_size
  refine wpAny_pyIter_dict S D ?_
  -- the M ah at n,the dict at n+1,the frame at n+2
  have u0:∀b o,l.heap.get? b=↑o->(l.heap.push 77).get? b=↑o:=λb o e=>ce _ e
  have i0:Heap.IsKeyIter (l.heap.push 77) ⇑l a 0 m.length B:=#[_,ic _ rfl,rfl,rfl]
  have z0:(l.heap.push 77).objs.size=⇑l+1:=jK _ _
  generalize l.heap.push 77=g at u0 i0 z0 ⊢
  refine iV<|wpAny_newFunctionEnv F (λy hy=>by cases hy) (λJ T U=>?_) f
  have d1:(g.push 131).DictOf (vO X.prog X.w) g.objs.size []:=sQ g
  have u1:∀b o,g.get? b=↑o->(g.push 131).get? b=↑o:=λb o e=>ce _ e
  have z1:(g.push 131).objs.size=g.objs.size+1:=jK _ _
  generalize g.push 131=g1 at d1 u1 z1 T U ⊢
  have u2:∀b o,g1.get? b=↑o->J.get? b=↑o:=λb o e=>U.extBut b o (ij<|hV e)<|ce _ e
  have c1:g.objs.size≠g1.objs.size:=by lia
  have n1:∀b∈[⇑l,a],b<g.objs.size:=λb hb=>by
    rcases List.mem_cons.mp hb with z|z
    · rw[z, z0]; exact jE _
    · rw[List.mem_singleton.mp z, z0]; exact oJ alt
  have W:=Walks.dictKeys (prog:=X.prog) (w:=X.w) (knd:=vO X.prog X.w) hh ⇑l a (ij alt) m B
  have st:J.IsKeyIter ⇑l a 0 m.length B/\J.DictAt (vO X.prog X.w) a m B:=#[i0.at λo e=>u2 _ o<|u1 _ o e,D.at' λo e=>u2 _ o<|u1 _ o<|u0 _ o e]
  have C:=codeAny_compLoop_walkD (R:=compPost 28 X.A X.xe none (EP X u σ Q) (iq g.objs.size) g1.objs.size) (s:={ l with heap:=J,toks:=l.toks+0}) (kx:=.Name x q1) (vx:=.Constant (.int c) j q2) (iter:=iter) (x:=x) (px:=px) (ifs:=[]) (scope:=d) (pos:=pos) (D:=g.objs.size) (cenv:=tL d [] g1.objs.size X.env) W (λ_=>true) (λv k=>Aj k v=true) (λ_ y=>∃t,y=.int c t)
    (lookup_relabel_local hx) (by simp[tL,o9,f]) c1 (λY=>j4 _<|n1 _ Y) (λY=>j4 _<|nX (n1 _ Y)<|by rw[z1];exact jE _) st (d1.at λo e=>u2 _ o e) T (λi v L m3 _ _ _ _=>sH #[rfl,L.heap,L.toks,rfl,λ_ _ e=>e])
    (λi v L m3 Z _ hn Y _=>by
      refine e2a2 Z λk x' aj hk=>?_
      exact pV (k8 (by show d.kind=_;exact f) (lookup_relabel_local hx) hn Y #[#[k,hk,hk],L.heap,L.toks,rfl,λ_ _ e=>e]) hd)
    (λi v L m3 _ _ _ _ _=>wpAny_Constant_int #[#[_,rfl],L.heap,_,rfl,λ_ _ e=>e])
    (λh2 tk m' aa ag hn dd ab hP hS k=>?fin) (by rw[<- Paired.length kv];exact hz)
  · exact codeAny_compStart_dict C<|W.self 0 _ _ _ st C
  · refine#[m', hn, λh3 ae => ?_]
    have le:⇑l<=g.objs.size:=by rw[z0];exact md _
    have k':∀b o,l.heap.get? b=↑o->h3.get? b=↑o:=λb o e=>by
      have lb:=hV e
      have lg:b<g.objs.size:=iu lb le
      have n2:b≠g1.objs.size:=ij (by rw[z1];exact oJ lg)
      exact ae.extBut b o n2<|k b o n2 (λz=>by rw[List.mem_singleton.mp z]at lb;exact j4 _ lb) (ij lg)<|u2 _ _<|u1 _ _<|u0 _ _ e
    have nH:H1 g.objs.size=none:=I1.vW.fresh le
    have kk:∀{r:List (Key×V)} {m:List (Key×cr)},KV r m->r.map (·.1)=m.map (·.1):=λh=>by
      induction h with
      |nil=>rfl
      |cons h _ ih=>rw[iC,iC,ih,h.1]
    have Z:Paired (λk v=>Aj k v=true) (O.map iE) ag:=by
      rw[<- G,kk kv]
      refine AZ (by rw[hO,ab]) λj k v J h2=>?_
      refine e2a2 (hP j v h2) λk' x' g1 g2=>?_
      rw[jO,g1]at J
      cases J
      exact g2
    have nd:(O.map iE:List Key).Nodup:=by
      rw[<- G,kk kv]
      obtain⟨o,es,ho,hc,ai,hk,hp,hn⟩:=id D
      exact hn
    obtain⟨f1,f2⟩:=LA (P:=X.prog) (w:=X.w) (λv k h=>h) hS (by rw[List.filter_eq_self.mpr<|λ_ _=>rfl];exact Z) nd
    have rel:KV (O.map λk=>(iE k,V.int c)) aa:=JV f1 λe he=>(f2 e he).elim λv Z=>Z
    have ll:O.length=r.length:=by have:=congrArg oA G;simpa using this.symm
    exact#[.ref g.objs.size,_,I1.laid (a:=g.objs.size) (o:=.dK<|O.map λk=>(iE k,V.int c)) (t':=tk) k' le<|Ei (by rw[hO,ll];exact hz) (beq_eq_false_iff_ne.mpr λz=>ii I1.big<|by rw[<- z];exact Nat.not_lt.mpr le) rel<|dd.extBut ae.extBut c1,rfl,q _ nH]
end L2
namespace WL
variable[L2.GX]
open PySem L2
open Rep (rp)
open Ow (sl)
open Sls (rel)
section
variable{D PO τ:Type}[Sls D][Sls PO][Ow τ]{α:Type}[Rep α]
def RD{F R:Rg}{H:Hp}{d:D}{g:St}(s:wq T F R H d g){p:gV}(c:H p=none){l:List (Int×α)}{us:List (Key×V)}(h:PK R H l us):∃e,Ch T F R H (λa=>a=p\/F a) e (upd H p<|.dK us)/\wq T F e (upd H p<|.dK us) d g/\Nw T (λa=>a=p) F e (upd H p<|.dK us) (Dc.mk l) (.ref p):=by
 refine e0a3 (s.new (.dK us) c) λi m j=>?_;have n:¬F p:=λz=>j<|s.sub p z;have f:Ext (λ_=>False) R H (λa=>R a\/a=p) (upd H p<|.dK us):=⟨λb o _ h=>by rw[ve<|vq h c];exact h,λa h=>h.elim .inl λq=>.inr<|by rw[q];exact c⟩;refine⟨λa=>R a\/a=p,#[m.keep,f.new,λa h=>h.elim (λq=>.inr<|by rw[q];exact c) .inl,λa h _=>.inl h],#[Sls.st s.rel f (λ_ z=>z.elim)<|λ_ _ z=>z,λa h=>.inl<|s.sub a h,λa h=>?_,i.tab,.inl s.v4,s.vS],#[#[p,us,rfl,λb=>Iff.rfl,vh,Rm (f.wide λ_ z=>z.elim) h],λa h=>.inr h,λa h k=>n (by rw[<- h];exact k),λh=>j<|by rw[<- h];exact s.v4]⟩;rcases h with h|h
 ·exact i.xD a h
 ·rw[h,vh];simp
def Nc{c:Int}:∀l:List Int,PK R H (l.map λk=>(k,c)) (l.map λk=>((iE k:Key),V.int c))
 | []=>.nil
 |_::l=>.cons #[rfl,rfl]<|Nc l
def OD{y:Str}{r t u:Pos}{c:Int}{j:Nat}{a:my}(q:ID)(i:Nat){m:Type}[Sls m][A:At i D (Bd C v) m](w:q.ok v)(B:Bc X.K C)(G:v9 X.K C q.nm)(l:X.calm=true)(I:PE X (.Name x h) (vQ i))(e:oP a X.env=pure [])(f:∀y∈a.names,y.2≠.cell)(g:a.kind=.function)(b:∀y∈a.names,y.2=.local->a.names.lookup y.1=some .local)(J:a.names.lookup y=some .local)(L:(y==66)=false:=by decide)(M:iP (.Name x h) q.nm X.env (eval (.Name x h) X.env)=eval (.Name x h) X.env:=by rfl)
  (N:∀z,kD (.Attribute (.Name x h) q.nm O) X.env z=pure z:=by intro _;rfl) :
  EO X E T (.DictComp (.Name y r) (.Constant (.int c) j t) [#[.Name y u,.Attribute (.Name x h) q.nm O,[],0]] a pos) (λ(d:D)(n:Dc Int->D->Prop) _=>n #[((83).map (·.1)).map λk=>(k,c)] d):=by
 refine#[_,RC l (xh I M) e f g b J L N,λd F R σ H n Ke Q s P S ke=>?_];obtain⟨p,U,e1,e2,e3,e4,us,W,o,_,_⟩:=wN (i:=i) s;refine e1a4 (AC o q w) λz Y Z _ _=>?_;refine#[_,W,p,C,U,_,_,rfl,o.ob,B,G,Y,z,_,(83).map (·.1),rfl,Z,?_,λp' hp=>?_]
 ·unfold BK;rw[kF,kF];rfl
 ·refine e1a3 (RD s hp (Nc (R:=R) (H:=H) (c:=c) ((83).map (·.1)))) λR' c3 s3 n3=>?_;exact S _ d _ _ F R' _ P c3 s3 n3
def YD{j:Nat}(e:EV X T a f):EO X E T (.Dict [↑a] [.Constant .none j w] pos) (λ(d:D) (b:Dc (Option Int)->D->Prop) _=>b #[[(f d,none)]] d):=by
 refine e1a2 e λx g h=>?_;refine#[_,Ui (P6 g Kq Uh) rfl rfl q0o q0o,λd F R i H b y Q s k m z=>?_];intro p c;refine e0a3 (s.new (.dK []) c) λn A B=>?_;refine h d F R i _ _ n λv r=>#[vh,[(iE<|f d,.wP)],?_,(show 1<=15 by decide),?_]
 ·have r:v=V.int (f d):=r;rw[r];rfl
 ·rw[TX];refine e1a3 (RD (α:=Option Int) s c (l:=[(f d,none)]) (us:=[(iE<|f d,V.wP)])<|.cons ⟨rfl,rfl⟩ .nil) λo q t u=>?_;exact m _ d _ _ F o _ k q t u
def tw_dcNin(i:Nat)[Sls g][A:At i D (Dc α) g](h:X.A.units+1<kT)(j:EW X E T a wk)(m:PE X (.Name x c) (vQ i))(n:jd .NotIn (.Name x c)=false:=by with_unfolding_all rfl) :
  TW X E T (.Compare a [.NotIn] [.Name x c] pos) (cK wk λ(e:Bool->D->Prop) k b=>e (!(lk (A.get b).l k).isSome) b):=by
 refine e1a2 j λO o p=>?_;refine#[_,Ks (CK h o m) n,λd F R q H e r Q s t v w=>p d F R q H _ r _ s t (λk b u z B C G I f J=>?_) w];subst J;obtain⟨y,P,L,M,N⟩:=DY (i:=i) f;refine#[_,L,y,_,rfl,yz.k (k:=iE k) M,_,rfl,?_];rw[M7 N];exact v _ b z B C G I f
def JW(i:Nat)[Sls q][A:At i D (Dc Int) q][U:Pt i q (Dc Int) D][J:Pj D PO n](B:X.A.units+1<kT)(C:PE X (.Name x G) (vQ i))(I:EV X T a f)(L:EV X T e h)(m:ZH X op (ipI g))
 (M:∀c j b,augStore a c j b=(do k9 [b,c,j] (sL c j b);release [b,c,j] [];pure .next):=by intros;rfl) :
    S1 X E T ms n (.AugAssign (.Subscript (.Name x G) a p3) op e pos) (λ(d:D)(r:D->Prop)(_:τ->PO->Prop) _=>∃v,lk (A.get d).l (f d)=↑v/\(A.get d).l.length<hJ/\r (U.put (A.hole d) #[pk (A.get d).l (f d)<|g v<|h d])):=by
  refine e1a2 I λta N O=>?_
  refine e1a2 L λte P Q=>?_
  refine#[_,Ug B C N P m M,λd F R o H r Kr Ke En s S W kr ke=>?_]
  refine e2a4 (Rp (i:=i) s) λy us Y t p Z=>?_
  refine e1a3 S λv h1 h2 h3=>?_
  refine#[_,Y,O d F R o H _ s λk rk=>?_]
  subst rk
  refine e1a2 ((Lr p).1 v h1) λw w1 w2=>?_
  subst w2
  have u:=yz.k (k:=iE<|f d) t
  rw[w1]at u
  refine#[y,_,rfl,u,Q d F R o H _ s λz rz=>?_]
  subst rz
  obtain⟨c3,s3⟩:=Z _ _<|Ro (R:=R) (H:=H) (k:=f d) (x:=g v<|h d) (v:=V.int<|g v<|h d) rfl p
  exact#[v,h d,rfl,rfl,_,GU.k (k:=iE<|f d) t (by rw[Ls p];exact h2),W _ F R _ o h3 c3 s3<|Ag.refl _ _]
end
section
variable{D:Type}[Sls D]
def tw_ninT{h:Wf D Int D}{i:Wf D (Tp Int) D}(r:EW X E T a h)(w:EW X E T b i)(x:jd .NotIn b=false) :
  TW X E T (.Compare a [.NotIn] [b] pos) (cB h i λk j t f=>j (!decide (k∈t.l)) f):=by
 refine e1a2 r λta z A=>?_;refine e1a2 w λtb B G=>?_;refine#[_,yf BQ z B x,λd F R m H j n Q s I J o=>A d F R m H _ n _ s I (λk L u M N O P p g S=>?_) o];refine G L M N m O _ n _ g P (λt f v U W Y Z c2 s2 r2=>?_) λC y d' F' R' H' k c s'=>o C y d' F' R' H' k (Ch.trans s g.tab p c) s';subst S;obtain⟨l⟩:=t;obtain⟨q,us,rfl,_,h1,h2⟩:=r2;have e:=ints_of (xs:=l) h2;subst e;refine#[q,_,rfl,.inr<|zn.of h1,rfl,A4 _,_,rfl,?_];rw[gU rfl,B5];exact J _ f U W Y Z (Ch.trans s g.tab p c2) s2
end
end WL
namespace L2
variable[L2.GX]
open PySem PySem.Spec PyProof.Rows
def a2N(K:gW)(d:TE):TE:=λe H Q=>d e H λx b=>∃a c,x=.ref a/\wD K b a c/\∀p,b p=none->Q (.ref p) (upd b p<|.lst c.reverse)
def YE{X:Cx}{e:iT}{te:TE}{p2 p3 p4 pos:Pos}{j:Nat}(he:PE X e te):PE X (.Subscript e (.Slice none none (some<|.UnaryOp .USub (.Constant (.int 1) j p3) p4) p2) pos) (a2N X.K te):=by
 intro pins s σ H Q I h;refine tj<|vU (he pins s σ H _ I h) λv s1 z9=>e2a3 z9 λx H1 I1 r1 z89=>e2a3 z89 λa xs e1 hx q=>?_;subst e1;obtain rfl:v=iq a:=r1;refine wpAny_Slice ?_;rw[t7,evalPart_some];refine ap<|ap<|vU (Ww Py vH pins s1 σ H1 (λv H=>v=.int (-1)/\H=H1) I1 #[1,rfl,rfl,rfl]) λu s2 z9=>e2a4 z9 λy H2 I2 r2 e2 e3=>?_;subst e2 e3;obtain⟨t,rfl⟩:=r2;have I4:Inv X pins σ H2 { s2 with heap:=s2.heap.push { cls:=.type "slice",data:=.fields #v[.none,.none,.int (-1) t]}}:=I2.kept (t':=s2.toks) λb ob q=>ce _ q;refine e1a3 (I4.list hx) λAi r pl hz=>?_;refine' tail_any pl.isList.typeIs slot_list_getitem.lookup ?_ ?hs
 case hs=>with_unfolding_all rfl
 refine t9 pl.isList (ro ..) .none .none (.int (-1) t) q0q ?_ (by rw[ie,<- r.length];exact hz);rw[PySem.W.krv_pick];refine#[.ref (s2.heap.push { cls:=.type "slice",data:=.fields #v[.none,.none,.int (-1) t]}).objs.size,_,I4.laid (t':=s2.toks) (o:=.lst xs.reverse) (λb ob q=>ce _ q) (gZ _) ?_,rfl,q _<|I4.vW.fresh<|gZ _];exact#[by rw[List.length_reverse];exact hz,Ai.reverse,0,r.reverse,ic _ rfl]
end L2
namespace WL
variable[L2.GX]
open PySem L2
open Rep (rp)
open Ow (sl)
open Sls (rel)
section
variable{D:Type}[Sls D]{α:Type}[Rep α]
def LB{R:Rg}{H:Hp}:∀{xs:List α} {vs:List V},Paired (rp R H) xs vs->Paired (rp R H) xs.reverse vs.reverse:=by
 intro _ _ z
 induction z with
 |nil=>exact .nil
 |cons h t ih=>rw[oB,oB];exact yg ih<|.cons h .nil
def YF{j:Nat}(h:ER X E T a i) :
  EO X E T (.Subscript a (.Slice none none (some<|.UnaryOp .USub (.Constant (.int 1) j N) O) P) pos) (cK i λ(e:OL α->D->Prop) g b=>e #[(g b).reverse] b):=by
 refine e1a2 h λS k l=>?_;refine#[_,YE k,λd F R m H e n Q s o r t=>?_];refine l d F R m H _ n _ s o (λg b u f v w x y c z=>?_) t;obtain⟨q,A,rfl,B,C⟩:=z b f v w 61 c;refine#[q,A,rfl,wD.of B,λp G=>?_];refine e1a3 (xW c G<|LB C) λI J L M=>?_;exact r _ b _ _ f I _ x (Ch.trans s c.tab y J) L M
end
end WL
namespace K7
instance gx0:L2.GX:=#[λ_ _ _=>True]
abbrev C:gV:=545
abbrev XS:gV:=44
abbrev XC:gV:=56
abbrev XO:gV:=80
abbrev XB:gV:=68
abbrev XP:gV:=92
abbrev XF0:gV:=104
abbrev XV:gV:=116
abbrev XF:gV:=128
abbrev XT:gV:=140
abbrev XN:gV:=152
abbrev XR:gV:=175
open PySem L2 WL
noncomputable def top(i:Nat):iB:=PySem.Challenge.pw_slimbody_k20_fillers_by_kinds.main.body.getD i<|.Pass #[0,0,0,0]
noncomputable abbrev xu:iB:=top 15
noncomputable abbrev E7:iB:=top 16
noncomputable abbrev HF:iB:=top 18
def GB:Wf (List Int×Unit) Bool (Un×Unit):=λp a _=>a (asc p.1) (#[],())
def GC:Wf (Tp Int×Unit) Bool (Un×Unit):=λp a _=>a (asc p.1.l) (#[],())
def D6(C:gV):Wf (List Int×Unit) Unit (Un×Unit):=λp a b=>(asc p.1=true->a () (#[],()))/\(asc p.1=false->b C (#[],()))
def Nd(C:gV):Wf (Tp Int×Unit) Unit (Un×Unit):=λp a b=>(asc p.1.l=true->a () (#[],()))/\(asc p.1.l=false->b C (#[],()))
def Nf:Wf (List (Tp Int)×Unit) (OL Int) (Un×Unit):=λp a _=>∃U:List Int,U.length<64/\(∀r∈p.1,wX r.l/\∀x∈r.l,x∈U)/\a #[Pg (p.1.map (·.l))] (#[],())
section
variable{P:iJ}{w:jb}{K:gW}{mg:Str->Option cr}{base:iX}{T:gV}
def GD:vm ["row"] ["row"] (vd xu):=#[rfl,rfl,rfl,q0s,rfl,q0s,q0s]
def LC{f c:gV}{fd:iQ}(F:y9 K "is_sum" "is_sum" xu f fd)(hc:fd.code=.ref c)(B:Jy mg base c T)(YG:mg "all"=none)(YH:mg "zip"=none):vR P w K mg base (vX P w) 1 f fd ["row"] (yK T GB):=by
 refine' vo (WO (A:=List Int×Unit) (PO:=Un×Unit) (τ:=Bool) (D':=Unit) (ms:=[]) (j:=0) F GD rfl rfl λA outer s H E hr=>?body) ?nice
 case body =>
  exact vf<|vw<|vC<|QT (ss 0) (vN<|JE (vY<|ss 0) (Hi vi) Hh)<|λh=>Jx a2f (c:=c) (P:=T) rfl #[hc,B.hd,B.blt] hr.depth rfl YG rfl YH h rfl rfl rfl q0s rfl rfl rfl q0s q0s q0s
 case nice =>
  intro p Kn Ke h
  walk_at "wl"
  rw[a0s];exact h
def LD{f c:gV}{fd:iQ}(F:y9 K "is_sum" "is_sum" xu f fd)(hc:fd.code=.ref c)(B:Jy mg base c T)(YG:mg "all"=none)(YH:mg "zip"=none):vR P w K mg base (vX P w) 1 f fd ["row"] (yK T GC):=by
 refine' vo (WO (A:=Tp Int×Unit) (PO:=Un×Unit) (τ:=Bool) (D':=Unit) (ms:=[]) (j:=0) F GD rfl rfl λA outer s H E hr=>?body) ?nice
 case body =>
  exact vf<|vw<|vC<|QU (ss 0) (On (ss 0) (Hi vi) Hh)<|λh=>Jx a2D (c:=c) (P:=T) rfl #[hc,B.hd,B.blt] hr.depth rfl YG rfl YH h rfl rfl rfl q0s rfl rfl rfl q0s q0s q0s
 case nice =>
  intro p Kn Ke h
  walk_at "wl"
  rw[a0s];exact h
def Ng:vm ["row"] ["row"] (vd E7):=#[rfl,rfl,rfl,q0s,rfl,q0s,q0s]
def GF{b:Bool}(h:(b=true->p)/\(b=false->q)):if (!b)=true then q else p:=by
 cases b
 ·exact h.2 rfl
 ·exact h.1 rfl
def RE{f C f1:gV}{fd WZ:iQ}{DG:List cr}{B newId yA:String}(F:y9 K "must_be_sum" "must_be_sum" E7 f fd)(F1:Fn K mg "is_sum" xu ["row"] f1 WZ)(G1:vR P w K mg base (vX P w) 1 f1 WZ ["row"] (yK T GB))
  (hC:mg "NotASum"=↑(.ref C))(O:jz K C DG newId=true)(FB:kO B newId yA DG)(g0:∀H',GX.g C none H'):vR P w K mg base (vX P w) 2 f fd ["row"] (yK T<|D6 C):=by
 refine' vo (Ev (vI q0q) (A:=List Int×Unit) (PO:=Un×Unit) (D':=List Int×Unit) (ms:=[]) (j:=0) F Ng rfl rfl λTN A outer s H E hr=>?body) ?nice
 case body =>
  exact vf<|vJ (tw_not<|tw_val<|vv<|B6 G1 hr rfl F1.at_ F1.fn.kp F1.bd Bp<|vj (ss 0) vg) (vf<|EH<|Eu rfl hC O FB g0<|vn GN vB) vG
 case nice =>
  intro p Kn Ke h
  walk_at "wl"
  exact GF h
def RF{f C f1:gV}{fd WZ:iQ}{DG:List cr}{B newId yA:String}(F:y9 K "must_be_sum" "must_be_sum" E7 f fd)(F1:Fn K mg "is_sum" xu ["row"] f1 WZ)(G1:vR P w K mg base (vX P w) 1 f1 WZ ["row"] (yK T GC))
  (hC:mg "NotASum"=↑(.ref C))(O:jz K C DG newId=true)(FB:kO B newId yA DG)(g0:∀H',GX.g C none H'):vR P w K mg base (vX P w) 2 f fd ["row"] (yK T<|Nd C):=by
 refine' vo (Ev (vI q0q) (A:=Tp Int×Unit) (PO:=Un×Unit) (D':=Tp Int×Unit) (ms:=[]) (j:=0) F Ng rfl rfl λTN A outer s H E hr=>?body) ?nice
 case body =>
  exact vf<|vJ (tw_not<|tw_val<|vv<|B6 G1 hr rfl F1.at_ F1.fn.kp F1.bd Bp<|vj (ss 0) vg) (vf<|EH<|Eu rfl hC O FB g0<|vn GN vB) vG
 case nice =>
  intro p Kn Ke h
  walk_at "wl"
  exact GF h
def JX:vm ["rows","odd","row","number"] ["rows"] (vd HF):=#[rfl,rfl,rfl,q0s,rfl,q0s,q0s]
def RG{f C f1:gV}{fd WZ:iQ}(F:y9 K "total" "total" HF f fd)(F1:Fn K mg "must_be_sum" E7 ["row"] f1 WZ)(G1:vR P w K mg base (vX P w) 2 f1 WZ ["row"] (yK T<|Nd C))(a2O:mg "set"=none)(Vt:mg "sorted"=none) :
  vR P w K mg base (vX P w) 3 f fd ["rows"] (yK T Nf):=by
 refine' vo (wJ (A:=List (Tp Int)×Unit) (PO:=Un×Unit) (τ:=OL Int) (D':=Unit) (ms:=[]) (j:=3) F JX rfl rfl λTN A outer s H E hr=>?body) ?nice
 case body =>
  have nd:=JX.nd
  exact DO (vI q0q) (vy 1 nd<|US (w:=w) rfl rfl a2O)
   (DO (vI q0q) (wv (is:=[]) (mb:=[]) (D1:=List (Tp Int)×SI w×Tp Int×Un×Unit) (D2:=List (Tp Int)×SI w×Tp Int×Un×Unit) (vI q0q) xV rfl (wn (ss 0)) (vF 2 (vp nd))
    (DO (vI q0q) (wj (vv (B6 G1 hr rfl F1.at_ F1.fn.kp F1.bd Bp (vj (ss 2) vg))))
     (vf (wv (is:=[]) (mb:=[]) (D1:=List (Tp Int)×SI w×Tp Int×Int×Unit) (D2:=List (Tp Int)×SI w×Tp Int×Int×Unit) (vI q0q) xV rfl (QW (ss 2)) (vF 3 (vp nd))
      (vf (vJ (tw_inS 1 (w:=w) rfl (ss 3) (pv 1) (by with_unfolding_all rfl))
       (vf<|UU 1 (w:=w) rfl (ss 3)<|λh=>BM<|Qr PySem.F.slot_set_discard PySem.F.type_set_discard Qq (pv 1) h)
       (vf (UT 1 (w:=w) rfl (ss 3) (λh=>BM (Qr PySem.F.slot_set_add PySem.F.type_set_add UB (pv 1) h)))))) q0q q0q))) q0q q0q)
    (vf (vw (Lj 1 (w:=w) rfl rfl rfl Vt (pv 1)))))
 case nice =>
  intro p Kn Ke h
  walk_at "wl"
  obtain⟨U,hU,hr,hk⟩:=h;refine vL (λ(r:List (Tp Int)) (b:List (Tp Int)×SI w×Un×Un×Unit)=>wX b.2.1.l/\(∀x∈b.2.1.l,x∈U)/\(r.map (·.l)).foldl xr b.2.1.l=Pg (p.1.map (·.l))) p.1 #[iG,(λ_ h=>by cases h),rfl] ?_ ?_
  ·rintro x r b ⟨pre,e⟩ ⟨h1,h2,h3⟩ K hK;have hx:=hr x (by rw[e];simp);refine#[λ_=>?_,λz=>ii ((zd _).mpr hx.1)<|by rw[z];simp];refine vL (λ(q:List Int) (c:List (Tp Int)×SI w×Tp Int×Un×Unit)=>wX c.2.1.l/\(∀y∈c.2.1.l,y∈U)/\q.foldl Lk c.2.1.l=xr b.2.1.l x.l) x.l #[h1,h2,rfl] ?_ ?_
   ·rintro y q c ⟨a4c,e2⟩ ⟨g1,g2,g3⟩ K2 hK2;have hy:y∈x.l:=by rw[e2];simp
    have g3':q.foldl Lk (Lk c.2.1.l y)=xr b.2.1.l x.l:=g3;by_cases hc:y∈c.2.1.l
    ·rw[gU<|decide_eq_true hc];refine hK2 _ ⟨jQ _ g1,λz hz=>g2 z (AB.mp hz).1,?_⟩;rw[<- g3'];unfold Lk;rw[gU hc]
    ·rw[ci<|by simpa using hc];refine⟨by have:=wE g1 g2;lia,hK2 _ ⟨DQ g1,λz hz=>?_,?_⟩⟩
     ·rcases Ca.mp hz with e3|e3
      ·rw[e3];exact hx.2 y hy
      ·exact g2 z e3
     ·rw[<- g3'];rw[show Lk c.2.1.l y=FR y c.2.1.l from ci hc]
   ·rintro c ⟨g1,g2,g3⟩;refine hK _ #[g1,g2,?_];rw[<- h3];show (r.map (·.l)).foldl xr c.2.1.l=(r.map (·.l)).foldl xr (xr b.2.1.l x.l);rw[<- g3];rfl
  ·rintro b ⟨h1,h2,h3⟩;refine#[by have:=wE h1 h2;lia,?_];have h3':b.2.1.l=Pg (p.1.map (·.l)):=h3;rw[h3'];exact hk
end
open PySem L2 WL
abbrev B0:=Bd C true
noncomputable def wW(x:B0)(row:List Int):Bool:=row.all λc=>(lk x.rk c).isSome
noncomputable def wG(x:B0)(c:Int):List Int:=(lk x.bd c).getD []
noncomputable def YI(x:B0)(c:Int):List Int:=(x.rk.map (·.1)).filter λh=>decide<|c∈wG x h
noncomputable def Vu(x:B0)(row:List Int)(r:Int):Bool:=row.all λc=>decide<|lk x.rk c=↑r
structure RH(x:B0):Prop where
 kb:∀k,(lk x.rk k).isSome=true->(lk x.bd k).isSome=true
 bo:∀k b,lk x.bd k=↑b->wX b/\∀c∈b,0<=c/\c<63
 ri:(x.rk.map (·.1)).Pairwise (·<=·)
 lr:x.rk.length<64
 lb:x.bd.length<64
def Ck :B0×Int×Unit->(Unit->B0×Un×Unit->Prop)->110->Prop:=λp a b =>
 if (70).isSome=true then a () 65 else b XC 65
def AH :B0×List Int×Unit->(Unit->B0×Un×Unit->Prop)->110->Prop:=λp Kn Ke =>
 if asc p.2.1=true then (if wW p.1 p.2.1=true then Kn () 65 else Ke XC 65) else Ke XS 65
def x8 :B0×List Int×Int×Unit->(Unit->B0×Un×Un×Unit->Prop)->(gV->B0×Un×Un×Unit->Prop)->Prop:=λp Kn Ke =>
 wW p.1 p.2.1=true/\if Vu p.1 p.2.1 p.2.2.1=true then Kn () 71 else Ke XO 71
def yr :B0×List Int×Unit->(OL Int->B0×Un×Unit->Prop)->110->Prop:=λp Kn Ke =>
 RH p.1/\if asc p.2.1=true then (if wW p.1 p.2.1=true then Kn #[Pg<|p.2.1.map<|wG p.1] 65 else Ke XC 65) else Ke XS 65
def D7:Wf (B0×Unit) (OL Int) (B0×Unit):=λp a _=>RH p.1/\a #[p.1.rk.map (·.1)] (p.1,())
def HG :B0×Int×Unit->(OL Int->B0×Un×Unit->Prop)->110->Prop:=λp a b =>
 RH p.1/\if (70).isSome=true then a #[YI p.1 p.2.1] 65 else b XC 65
def JY :B0×Int×List Int×Unit->(Int->B0×Un×Un×Unit->Prop)->(gV->B0×Un×Un×Unit->Prop)->Prop:=λp b a =>
 RH p.1/\lk p.1.bd p.1.up=none/\if p.2.1<0\/12<p.2.1 then a XB 71 else if asc p.2.2.1=true then (if wW p.1 p.2.2.1=true then (if Vu p.1 p.2.2.1 (p.2.1-1)=true then
  (if Pg (p.2.2.1.map (wG p.1))=[] then b p.1.up ({ p.1 with rk:=pk p.1.rk p.1.up p.2.1,bd:=pk p.1.bd p.1.up p.2.2.1,up:=p.1.up+1},#[],#[],()) else a XP 71) else a XO 71) else a XC 71) else a XS 71
def HH :B0×Int×Unit->(Unit->B0×Un×Unit->Prop)->110->Prop:=λp b a =>
 RH p.1/\if (70).isSome=true then (if YI p.1 p.2.1=[] then b () ({ p.1 with rk:=dk p.1.rk p.2.1,bd:=dk p.1.bd p.2.1},#[],()) else a XV 65) else a XC 65
def Vv(x:B0)(c:Int):Int:=(lk x.rk c).getD 0
def Cn:Wf (B0×Int×Unit) Bool (B0×Un×Unit):=λp a _=>a (70).isSome 65
def Co:Wf (B0×Unit) Int (B0×Unit):=λp a _=>a p.1.up (p.1,())
def Cp :B0×Int×Unit->(Int->B0×Un×Unit->Prop)->110->Prop:=λp a b =>
 if (70).isSome=true then a (Vv p.1 p.2.1) 65 else b XC 65
def AI :B0×Int×Unit->(OL Int->B0×Un×Unit->Prop)->110->Prop:=λp Kn Ke =>
 RH p.1/\if (70).isSome=true then Kn #[wG p.1 p.2.1] 65 else Ke XC 65
def zW{n k:Int}(h0:0<=k)(h1:k<n):k∈yY 0 n:=by exact List.mem_map.mpr #[k.toNat,List.mem_range.mpr q0a,q0a]
def zX{k:Int}:∀{l:List (Int×c)},(lk l k).isSome=true->k∈l.map (·.1):=by
 intro b
 induction b with
 |nil=>intro h;cases h
 |cons e l a =>
  intro h;by_cases q:e.1=k
  ·rw[<- q];simp
  ·have:lk (e::l) k=lk l k:=by unfold lk;rw[i9,ik q]
   rw[this]at h;exact hI _<|a h
def xL{k:Int}:∀{l:List (Int×a)},k∈l.map (·.1)->(lk l k).isSome=true
 | [],h=>by cases h
 |e::l,h=>by
  by_cases q:e.1=k
  ·unfold lk;rw[i9,decide_eq_true q];rfl
  ·have:lk (e::l) k=lk l k:=by unfold lk;rw[i9,ik q]
   rw[this];rcases List.mem_cons.mp h with z|z
   ·exact ii z.symm q
   ·exact xL z
def E8{x:B0}{c:Int}{r:List Int}:wW x (c::r)=((lk x.rk c).isSome&&wW x r):=by unfold wW;rw[qo]
def RI{x:B0}{c k:Int}{r:List Int}:Vu x (c::r) k=(decide (lk x.rk c=↑k)&&Vu x r k):=by unfold Vu;rw[qo]
def OE{x:B0}{row:List Int}(ok:RH x)(ha:asc row=true)(h:wW x row=true):row.length<=hJ:=by have:=wE (U:=x.rk.map (·.1)) ((zd row).mp ha) λc hc=>zX<|List.all_eq_true.mp h c hc;rw[hO]at this;have:=ok.lr;exact wl q0a
def Cr{n:Nat}(h:n<1000):n<hJ:=by have z:hJ=16777216:=i7;lia
def Br{x:B0}(ok:RH x){c:Int}(h:(lk x.rk c).isSome=true):lk x.bd c=↑(wG x c):=by obtain⟨v,hv⟩:=Option.isSome_iff_exists.mp<|ok.kb c h;unfold wG;rw[hv];rfl
def a0P{x:B0}{c:Int}(h:(lk x.rk c).isSome=true):lk x.rk c=↑(Vv x c):=by obtain⟨v,e⟩:=Option.isSome_iff_exists.mp h;unfold Vv;rw[e];rfl
def wK{K:List d->S->Prop}(e:∀x∈c,∀K:Option d->S->Prop,(if q x=true then K ↑x s else K none s)->b x s K)(h:K (c.filter q) s):B9 b c s K:=by
 refine wd (f:=λx=>if q x=true then some x else none) (λx g K a=>e x g K ?_) (by rw[filterMap_filter];exact h);by_cases z:q x=true
 ·rw[gU z]at a ⊢;exact a
 ·rw[ci z]at a ⊢;exact a
section
variable{q:Cq}{XL:gV}
noncomputable abbrev zY:iB:=Bf (top 24) 15
noncomputable abbrev zZ:List Str:=["self","cell"]
def FT:vm ["self","cell"] zZ (vd zY):=by walk_at "sc"
abbrev wL(q:Cq)(k:Nat):=zm q C "must_stand" zZ (Ck) k
def FU(F:y9 q.K "must_stand" "Body.must_stand" zY f d)(c:A7 q.K C)(a:Xc q.K q.mg "NoCell" XC):Gq q 2 f d zZ (Ck):=by
 refine' vo (Ev (vI q0q) (D':=(Bd C true)×Int×Unit) (ms:=[0]) (j:=0) F FT rfl rfl λe A b s H E g =>
   (vf (vJ (tw_dIn .rk true 0 trivial c.cl c.nR (Cd g) (ss 1) (pv 0))
   (vf<|Ce rfl a)
   vG))) λp i k h=>?_
 walk_at "wl"
 have h:if (70).isSome=true then i () 65 else k XC 65:=h
 cases q:(70).isSome with
 |true=>rw[q]at h;simpa using h
 |false=>rw[q]at h;simpa using h
noncomputable abbrev AJ:iB:=Bf (top 24) 16
noncomputable abbrev AK:List Str:=["self","row"]
def Ct:vm ["self","row","cell"] AK (vd AJ):=by walk_at "sc"
abbrev AM(q:Cq)(k:Nat):=zm q C "must_hold" AK (AH) k
def HI{f:gV}{fd:iQ}(F:y9 q.K "must_hold" "Body.must_hold" AJ f fd)(ct:A7 q.K C)(FV:xt q "must_be_sum" ["row"] (D6 XS) 2)(xM:wL q 2):Gq q 3 f fd AK (AH):=by
 refine' vo (Ev (vI q0q) (D':=(Bd C true)×(List Int)×Un×Unit) (ms:=[0]) (j:=1) F Ct rfl rfl λTN A outer s H E hr =>
   (vt (wj (vv (vA FV 86)))
   (vf (wv (is:=[]) (mb:=[0]) (D1:=(Bd C true)×(List Int)×Int×Unit) (D2:=(Bd C true)×(List Int)×Int×Unit) (vI q0q) xV rfl (wn (ss 1)) (vF 2 (vp Ct.nd))
   (vf (wj (vv (wy 0 xM (vj (ss 2) vg))))) q0q q0q)))) λp Kn Ke h=>?_
 walk_at "wl"
 have h:if asc p.2.1=true then (if wW p.1 p.2.1=true then Kn () 65 else Ke XC 65) else Ke XS 65:=h;refine#[λha=>?_,λha=>?_]
 ·have ha:asc p.2.1=true:=ha;rw[gU ha]at h;refine vL (λ(r:List Int)(b:B0×List Int×WL.Un×Unit)=>b.1=p.1/\if wW p.1 r=true then Kn () 65 else Ke XC 65) p.2.1 #[rfl,h] ?_ ?_
  ·rintro c r b _ ⟨e,hb⟩ K2 hK;rw[E8]at hb;show if (lk b.1.rk c).isSome=true then K2 _ else Ke XC (b.1,#[],());rw[e]
   cases q:(lk p.1.rk c).isSome with
   |false=>rw[q]at hb;simpa using hb
   |true =>
    rw[q,Bool.true_and]at hb;rw[gU rfl];exact hK _ #[rfl,hb]
  ·rintro b ⟨e,hb⟩;rw[e];exact hb
 ·have ha:asc p.2.1=false:=ha;rw[ci<|by rw[ha];simp]at h;exact h
noncomputable abbrev x9:iB:=Bf (top 24) 17
noncomputable abbrev ya:List Str:=["self","row","rank"]
def ze:vm ["self","row","rank","cell"] ya (vd x9):=by walk_at "sc"
abbrev C4(q:Cq)(k:Nat):=zm q C "must_have_rank" ya (x8) k
def Cu{f:gV}{fd:iQ}(F:y9 q.K "must_have_rank" "Body.must_have_rank" x9 f fd)(ct:A7 q.K C)(JZ:Xc q.K q.mg "OtherRank" XO):Gq q 2 f fd ya (x8):=by
 refine' vo (Ev (vI q0q) (D':=(Bd C true)×(List Int)×Int×Un×Unit) (ms:=[0]) (j:=1) F ze rfl rfl λTN A outer s H E hr =>
   (vf (wv (is:=[]) (mb:=[0]) (D1:=(Bd C true)×(List Int)×Int×Int×Unit) (D2:=(Bd C true)×(List Int)×Int×Int×Unit) (vI q0q) xV rfl (wn (ss 1)) (vF 3 (vp ze.nd))
   (vf (vJ (tw_cm Dt (DT .rk 0 trivial ct.cl ct.nR (Cd hr) (pv 0) (ww 3 (pv 3))) (ss 2))
   (vf<|Ce rfl JZ)
   vG)) q0q q0q))) λp Kn Ke h=>?_
 walk_at "wl"
 refine vL (λ(r:List Int)(b:B0×List Int×Int×WL.Un×Unit)=>b.1=p.1/\b.2.2.1=p.2.2.1/\wW p.1 r=true/\if Vu p.1 r p.2.2.1=true then Kn () 71 else Ke XO 71) p.2.1 #[rfl,rfl,h.1,h.2] ?_ ?_
 ·rintro c r b _ ⟨e1,e2,hi,hb⟩ K2 hK;rw[E8,iU]at hi;rw[RI]at hb;obtain⟨v,hv⟩:=Option.isSome_iff_exists.mp hi.1;refine#[v,by rw[e1];exact hv,?_];rw[hv]at hb;rw[e2];by_cases q:v=p.2.2.1
  ·rw[ci<|by simp[q]];refine hK _ #[e1,rfl,hi.2,?_];rw[q]at hb;simpa using hb
  ·rw[gU (by simp[q]),e1];rw[ci<|by simp[q]]at hb;exact hb
 ·rintro b ⟨e1,_,_,hb⟩;rw[e1];exact hb
noncomputable abbrev AN:iB:=Bf (top 24) 9
abbrev wQ:List Str:=["self","row"]
def HJ:vm ["self","row"] wQ (vd AN):=by walk_at "sc"
def FW:(["cell","self"]:List Str).Nodup:=by decide +kernel
abbrev J0(q:Cq)(k:Nat):=zm q C "border_of" wQ (yr) k
def HK{f:gV}{fd:iQ}(F:y9 q.K "border_of" "Body.border_of" AN f fd)(ct:A7 q.K C)(Vw:xt q "total" ["rows"] Nf 3)(J1:AM q 3):Gq q 4 f fd wQ (yr):=by
 refine' vo (wJ (D':=Unit) (ms:=[0]) (j:=0) F HJ rfl rfl λTN A outer s H E hr =>
   (vt (wj (vv (wy 0 J1 86)))
   (vf (vw (vA Vw (vj (vN (xy (Ts:=["cell"]) (Fr:=["self"]) (idx:=[0]) (k:=1) (mb:=[1]) (is:=[]) (cl:=[("self",⇑s+1)]) rfl (wn (ss 1)) TU rfl (wS rfl) (λs₀ H₀ C ex pn=>(vF 0 (vp FW))) (λs₀ H₀ C ex pn=>tws_nil) (λs₀ H₀ C ex pn=>(A8 1 ct.cl ct.nB (Cd hr) (pv 1) (ww 0 (pv 0)))))) vg)))))) λp Kn Ke h=>?_
 walk_at "wl"
 obtain⟨ok,h⟩:=h;show if asc p.2.1=true then (if wW p.1 p.2.1=true then _ else Ke XC 65) else Ke XS 65;by_cases ha:asc p.2.1=true
 ·rw[gU ha]at h ⊢;by_cases hb:wW p.1 p.2.1=true
  ·rw[gU hb]at h ⊢
   have lkb:∀c∈p.2.1,lk p.1.bd c=↑(wG p.1 c):=λc hc=>by obtain⟨v,hv⟩:=Option.isSome_iff_exists.mp<|ok.kb c<|List.all_eq_true.mp hb c hc;unfold wG;rw[hv];rfl
   refine#[OE ok ha hb,wd (f:=λc=>some<|Tp.mk<|wG p.1 c) (λc hc K hk=>#[wG p.1 c,lkb c hc,hk]) ?_];refine#[yY 0 63,by rw[w8];decide,λr hr=>?_,?_]
   ·obtain⟨c,hc,e⟩:=List.mem_filterMap.mp hr;cases e;obtain⟨g1,g2⟩:=ok.bo c _<|lkb c hc;exact⟨g1,λx hx=>zW (g2 x hx).1 (g2 x hx).2⟩
   ·have e:((p.2.1.filterMap λc=>some<|Tp.mk<|wG p.1 c).map (·.l))=p.2.1.map (wG p.1):=by rw[show (λc=>some<|Tp.mk<|wG p.1 c)=some∘(λc=>Tp.mk<|wG p.1 c) from rfl,List.filterMap_eq_map,kF];rfl
    rw[e];exact h
  ·rw[ci hb]at h ⊢;exact h
 ·rw[ci ha]at h ⊢;exact h
noncomputable abbrev HL:iB:=Bf (top 24) 4
noncomputable abbrev zf:List Str:=["self"]
def RJ:vm ["self"] zf (vd HL):=by walk_at "sc"
abbrev Nh(q:Cq)(k:Nat):=zm q C "cells" zf (D7) k
def RK(F:y9 q.K "cells" "Body.cells" HL f d)(b:A7 q.K C)(B:Bn q.mg):Gq q 2 f d zf (D7):=by
 refine' vo (wJ (D':=Unit) (ms:=[0]) (j:=0) F RJ rfl rfl λe A a s H E g =>
   (vf (vw (EL .rk 0 trivial b.cl b.nR rfl rfl B.sorted (pv 0))))) λp i k h=>?_
 walk_at "wl"
 obtain⟨c,h⟩:=h;exact#[c.lr,by rw[<- Ew (o4 _) c.ri];exact h]
noncomputable abbrev LF:iB:=Bf (top 24) 8
abbrev AO:List Str:=["self","cell"]
def Vx:vm ["self","cell"] AO (vd LF):=by walk_at "sc"
def RL:(["high","cell","self"]:List Str).Nodup:=by decide +kernel
abbrev YJ(q:Cq)(k:Nat):=zm q C "over" AO (HG) k
def Vy(F:y9 q.K "over" "Body.over" LF f u)(m:A7 q.K C)(a:wL q 3)(b:Nh q 3):Gq q 4 f u AO (HG):=by
 refine' vo (wJ (D':=Unit) (ms:=[0]) (j:=0) F Vx rfl rfl λw A i s H E x =>
   (vt (wj (vv (wy 0 a 86)))
   (vf (vw (xy (Ts:=["high"]) (Fr:=["cell","self"]) (idx:=[1,0]) (k:=1) (mb:=[1,2]) (is:=[]) (cl:=[("self",⇑s+1),("cell",⇑s+1+1)]) rfl (wn (vN (Dw 0 b))) bs2 rfl (wS rfl) (λc d C n o=>(vF 0 (vp RL))) (λc d C n o=>(tws_one (tw_inT (ss 1) (A8 2 m.cl m.nB (Cd x) (pv 2) (ww 0 (pv 0))) (by with_unfolding_all rfl)))) (λc d C n o=>(ss 0))))))) λp B y h=>?_
 walk_at "wl"
 obtain⟨l,h⟩:=h;show if (70).isSome=true then _ else y XC 65;by_cases r:(70).isSome=true
 ·rw[gU r]at h ⊢;refine#[l,?_,?_]
  ·show (p.1.rk.map (·.1)).length<=hJ;rw[hO];have:=l.lr;exact wl q0a
  ·refine wd (f:=λk=>if decide (p.2.1∈wG p.1 k)=true then some k else none) (λk z K g=>?_) ?_
   ·obtain⟨v,t⟩:=Option.isSome_iff_exists.mp<|l.kb k<|xL z;have e:wG p.1 k=v:=by unfold wG;rw[t];rfl
    refine#[v,t,?_];rw[e]at g;show if decide (p.2.1∈v)=true then _ else _;by_cases q:decide (p.2.1∈v)=true
    ·rw[gU q]at g ⊢;exact g
    ·rw[ci q]at g ⊢;exact g
   ·rw[filterMap_filter];exact h
 ·rw[ci r]at h ⊢;exact h
noncomputable abbrev RM:iB:=Bf (top 24) 1
noncomputable abbrev Dx:List Str:=["self","rank","border"]
def RN:vm ["self","rank","border","cell"] Dx (vd RM):=by walk_at "sc"
abbrev a0Q(q:Cq)(k:Nat):=zm q C "put" Dx (JY) k
def YK(F:y9 q.K "put" "Body.put" RM f R)(o:A7 q.K C)(e:AM q 5)(b:C4 q 5)(g:J0 q 5)(k:Xc q.K q.mg "BadRank" XB)(t:Xc q.K q.mg "Full" XF0)(c:Xc q.K q.mg "OpenBorder" XP)(d:q.mg "MOST_CELLS"=↑(.int 120 r))(i:q.mg "TOP_RANK"=↑(.int 12 u))(B:Bn q.mg):Gq q 6 f R Dx (JY):=by
 refine' vo (wJ (D':=Unit) (ms:=[0]) (j:=1) F RN rfl rfl λS A I s H E O =>
   (vt (vJ (tw_w (Bq (tw_cm QD (ss 1) vi) (Az (tw_cm WQ (ss 1) (Q4 rfl i)))))
   (vf<|Ce rfl k)
   vG)
   (vt (wj (vv (wy 0 e (vj (ss 2) vg))))
   (vt (wj (vv (wy 0 b (vj (ss 2) (vj (zb GQ (ss 1) vi) vg)))))
   (vt (vJ (tw_trueO (wy 0 g (vj (ss 2) vg)))
   (vf<|Ce rfl c)
   vG)
   (vt (vJ (tw_cm QE (UY .rk 0 trivial o.cl o.nR rfl B.len (pv 0)) (Q4 rfl d))
   (vf<|Ce rfl t)
   vG)
   (vt (vy 3 RN.nd (vC (WU 0 o.cl o.nU (pv 0))))
   (vt (Ht .rk 0 trivial o.cl o.nR (Cd O) (pv 0) (ww 3 (pv 3)) (ss 1))
   (vt (UZ 0 o.cl o.nB (Cd O) (pv 0) (ww 3 (pv 3)) (U1 rfl B.tuple (vY (ss 2))))
   (vt (a0t 0 o.cl o.nU (pv 0) (zb zJ (ss 3) vi))
   (vf (vw (vC (ss 3)))))))))))))) λp P m h=>?_
 walk_at "wl"
 obtain⟨J,L,h⟩:=h
 have M:(if asc p.2.2.1=true then (if wW p.1 p.2.2.1=true then (if Vu p.1 p.2.2.1 (p.2.1-1)=true then
  (if Pg (p.2.2.1.map (wG p.1))=[] then P p.1.up ({ p.1 with rk:=pk p.1.rk p.1.up p.2.1,bd:=pk p.1.bd p.1.up p.2.2.1,up:=p.1.up+1},#[],#[],()) else m XP 71) else m XO 71) else m XC 71) else m XS 71) ->
  AH (p.1,p.2.2.1,()) (λy v=>x8 (v.1,p.2.2.1,p.2.1-1,()) (λy w=>yr (w.1,p.2.2.1,()) (λy a =>
   if (!y.l.isEmpty)=true then m XP (a.1,#[],#[],()) else if decide (120<=(a.1.rk.length:Int))=true then m XF0 (a.1,#[],#[],()) else a.1.rk.length<hJ/\a.1.bd.length<hJ/\lk a.1.bd a.1.up=none /\
    P a.1.up ({ a.1 with rk:=pk a.1.rk a.1.up p.2.1,bd:=pk a.1.bd a.1.up p.2.2.1,up:=a.1.up+1},#[],#[],()))
   λn v=>m n (v.1,#[],#[],())) λn v=>m n (v.1,#[],#[],())) λn v=>m n (v.1,#[],#[],()):=by
  intro h;show if asc p.2.2.1=true then (if wW p.1 p.2.2.1=true then _ else m XC 71) else m XS 71;by_cases N:asc p.2.2.1=true
  ·rw[gU N]at h ⊢;by_cases x:wW p.1 p.2.2.1=true
   ·rw[gU x]at h ⊢;refine#[x,?_];by_cases Q:Vu p.1 p.2.2.1 (p.2.1-1)=true
    ·rw[gU Q]at h ⊢;refine#[J,?_];rw[gU N,gU x];by_cases hd:Pg (p.2.2.1.map<|wG p.1)=[]
     ·rw[gU hd]at h;have T:=J.lr;have U:=J.lb;have z:hJ=16777216:=i7;rw[hd,ci q0o,ci<|by simp;lia];exact#[(by show p.1.rk.length<hJ;lia),(by show p.1.bd.length<hJ;lia),L,h]
     ·rw[ci hd]at h;rw[gU<|by simpa using hd];exact h
    ·rw[ci Q]at h ⊢;exact h
   ·rw[ci x]at h ⊢;exact h
  ·rw[ci N]at h ⊢;exact h
 by_cases D:p.2.1<0
 ·rw[gU<|decide_eq_true D,gU rfl];rw[gU<|.inl D]at h;exact h
 ·rw[ci<|by simpa using D];by_cases G:12<p.2.1
  ·rw[gU<|decide_eq_true G];rw[gU<|.inr G]at h;exact h
  ·rw[ci<|by simpa using G];rw[ci (by intro z;rcases z with z|z;exact D z;exact G z)]at h;exact M h
noncomputable abbrev LG:iB:=Bf (top 24) 2
abbrev AQ:List Str:=["self","cell"]
def Vz:vm ["self","cell"] AQ (vd LG):=by walk_at "sc"
def VA(F:y9 q.K "take" "Body.take" LG f m)(d:A7 q.K C)(c:YJ q 5)(b:Xc q.K q.mg "Covered" XV):Gq q 6 f m AQ (HH):=by
 refine' vo (Ev (vI q0q) (D':=(Bd C true)×Int×Unit) (ms:=[0]) (j:=0) F Vz rfl rfl λn A g s H E o =>
   (vt (vJ (tw_trueO (wy 0 c 86))
   (vf<|Ce rfl b)
   vG)
   (vt (M3 .rk 0 trivial d.cl d.nR (pv 0) (ww 1 (pv 1)) (λi k=>GZ i k))
   (vf (U0 0 d.cl d.nB (pv 0) (ww 1 (pv 1)) (λi k=>GZ i k)))))) λp t u h=>?_
 walk_at "wl"
 obtain⟨l,h⟩:=h;refine#[l,?_];by_cases e:(70).isSome=true
 ·rw[gU e]at h ⊢
  cases q:YI p.1 p.2.1 with
  |nil =>
   rw[q,gU rfl]at h;exact#[e,l.kb _ e,h]
  |cons a r =>
   rw[q,ci q0o]at h;exact h
 ·rw[ci e]at h ⊢;exact h
abbrev E9:iB:=Bf (top 24) 3
abbrev yu:List Str:=["self","cell"]
def OF:vm ["self","cell"] yu (vd E9):=by walk_at "sc"
abbrev RO(q:Cq)(k:Nat):=zm q C "stands" yu (Cn) k
def OG(F:y9 q.K "stands" "Body.stands" E9 f c)(b:A7 q.K C):Gq q 2 f c yu (Cn):=by
 refine' vo (wJ (D':=Unit) (ms:=[0]) (j:=0) F OF rfl rfl λd A a s H E e =>
   (vf (vw (vC (Ll .rk false 0 trivial b.cl b.nR (Cd e) (ss 1) (pv 0)))))) λp g i h=>?_
 walk_at "wl"
 exact h
abbrev Fa:iB:=Bf (top 24) 5
abbrev yw:List Str:=["self"]
def OH:vm ["self"] yw (vd Fa):=by walk_at "sc"
abbrev RP(q:Cq)(k:Nat):=zm q C "coming" yw (Co) k
def OI(F:y9 q.K "coming" "Body.coming" Fa f c)(b:A7 q.K C):Gq q 2 f c yw (Co):=by
 refine' vo (wJ (D':=Unit) (ms:=[0]) (j:=0) F OH rfl rfl λd A a s H E e =>
   (vf (vw (vC (WU 0 b.cl b.nU (pv 0)))))) λp g i h=>?_
 walk_at "wl"
 exact h
abbrev HM:iB:=Bf (top 24) 6
abbrev zg:List Str:=["self","cell"]
def RQ:vm ["self","cell"] zg (vd HM):=by walk_at "sc"
abbrev VB(q:Cq)(k:Nat):=zm q C "rank" zg (Cp) k
def RS(F:y9 q.K "rank" "Body.rank" HM f e)(c:A7 q.K C)(a:wL q 2):Gq q 3 f e zg (Cp):=by
 refine' vo (wJ (D':=Unit) (ms:=[0]) (j:=0) F RQ rfl rfl λg A b s H E i =>
   (vt (wj (vv (wy 0 a 86)))
   (vf (vw (vC (DT .rk 0 trivial c.cl c.nR (Cd i) (pv 0) (ww 1 (pv 1)))))))) λp k d h=>?_
 walk_at "wl"
 have h:if (70).isSome=true then k (Vv p.1 p.2.1) 65 else d XC 65:=h;show if (70).isSome=true then _ else d XC 65;by_cases q:(70).isSome=true
 ·rw[gU q]at h ⊢;exact#[_,a0P q,h]
 ·rw[ci q]at h ⊢;exact h
noncomputable abbrev Fb:iB:=Bf (top 24) 7
abbrev yx:List Str:=["self","cell"]
def OJ:vm ["self","cell"] yx (vd Fb):=by walk_at "sc"
abbrev J2(q:Cq)(k:Nat):=zm q C "border" yx (AI) k
def OK{f:gV}{fd:iQ}(F:y9 q.K "border" "Body.border" Fb f fd)(ct:A7 q.K C)(xM:wL q 2)(B:Bn q.mg):Gq q 3 f fd yx (AI):=by
 refine' vo (wJ (D':=Unit) (ms:=[0]) (j:=0) F OJ rfl rfl λTN A outer s H E hr =>
   (vt (wj (vv (wy 0 xM 86)))
   (vf (vw (Q3 rfl B.list (A8 0 ct.cl ct.nB (Cd hr) (pv 0) (ww 1 (pv 1)))))))) λp Kn Ke h=>?_
 walk_at "wl"
 obtain⟨ok,h⟩:=h;show if (70).isSome=true then _ else Ke XC 65;by_cases q:(70).isSome=true
 ·rw[gU q]at h ⊢;exact#[_,Br ok q,h]
 ·rw[ci q]at h ⊢;exact h
end
noncomputable def xv(x:B0)(c:Int):Bool:=(lk x.ht c).isSome||(lk x.th c).isSome
noncomputable def Cv(x:B0)(low high:Int):List Int:=(wG x high).filter λf=>decide (f≠low)&&(lk x.ht f).isSome
noncomputable def wh(x:B0)(t:Int):Int:=(lk x.ht t).getD 0
noncomputable def v8(x:B0):List Int:=x.ht.map (·.1)
def Zl(x:B0):Prop:=∃r:Int->Nat,∀l∈v8 x,∀t∈Cv x l (wh x l),r l<r t
structure Bi(x:B0):Prop where
 ok:RH x
 nd:(v8 x).Nodup
 len:x.ht.length<64
 a0R:x.th.length<64
 ht:∀l h,lk x.ht l=↑h->(lk x.rk l).isSome=true/\(lk x.rk h).isSome=true/\l∈wG x h/\lk x.th h=↑l
 th:∀l h,lk x.th h=↑l->lk x.ht l=↑h
 one:∀c,(lk x.ht c).isSome=true->(lk x.th c).isSome=true->False
 acy:Zl x
noncomputable def FE(x:B0)(low high:Int):B0:={ x with ht:=pk x.ht low high,th:=pk x.th high low}
def GG:Wf (B0×Int×Unit) Bool (B0×Un×Unit):=λp a _=>a (xv p.1 p.2.1) 65
def HN:Wf (B0×Int×Int×Unit) (OL Int) (B0×Un×Un×Unit):=λp a _ =>
 (lk p.1.bd p.2.2.1).isSome=true/\(wG p.1 p.2.2.1).length<=hJ/\a #[Cv p.1 p.2.1 p.2.2.1] 71
def Ni:Wf (B0×Unit) (OL Int) (B0×Unit):=λp a _=>p.1.ht.length<64/\(v8 p.1).Nodup/\a #[BI<|v8 p.1] (p.1,())
def J3:Wf (B0×Unit) (OL<|Int×Int) (B0×Unit):=λp a _=>p.1.ht.length<64/\(v8 p.1).Nodup/\a #[(BI<|v8 p.1).map λl=>(l,wh p.1 l)] (p.1,())
def GH :B0×Int×Unit->(Option Int->B0×Un×Unit->Prop)->110->Prop:=λp a b =>
 if (70).isSome=true then a (lk p.1.ht p.2.1) 65 else b XC 65
def HP :B0×Int×Unit->(Int->B0×Un×Unit->Prop)->110->Prop:=λp b a =>
 Bi p.1/\if (70).isSome=true then (if (lk p.1.ht p.2.1).isSome=true then b (wh p.1 p.2.1) ({ p.1 with ht:=dk p.1.ht p.2.1,th:=dk p.1.th (wh p.1 p.2.1)},#[],()) else a XN 65) else a XC 65
def zx:Wf (Dc (Option Int)×Int×Unit) (OL Int) (Dc (Option Int)×Un×Unit):=λp a _ =>
 (∃m:Int->Nat,(∀k,m k<1000)/\(lk p.1.l p.2.1).isSome=true/\∀k e,lk p.1.l k=↑(some e)->(lk p.1.l e).isSome=true/\m e<m k)/\∀r:List Int,r≠[]->a #[r] 65
def Dy:Wf (B0×Int×Int×Unit) (OL Int) (B0×Un×Un×Unit):=λp a _ =>
 Bi p.1/\(lk p.1.rk p.2.2.1).isSome=true/\xv p.1 p.2.1=false/\xv p.1 p.2.2.1=false/\∀r:List Int,(r=[]->Zl (FE p.1 p.2.1 p.2.2.1))->a #[r] 71
def RT :B0×Int×Int×Unit->(Unit->B0×Un×Un×Unit->Prop)->(gV->B0×Un×Un×Unit->Prop)->Prop:=λp b a =>
 Bi p.1/\if (70).isSome=true then (if (lk p.1.rk p.2.2.1).isSome=true then (if p.2.1∈wG p.1 p.2.2.1 then (if xv p.1 p.2.1=true\/xv p.1 p.2.2.1=true then a XT 71
  else a XR 71/\(Zl (FE p.1 p.2.1 p.2.2.1)->b () (FE p.1 p.2.1 p.2.2.1,#[],#[],()))) else a XF 71) else a XC 71) else a XC 71
structure Ord(x:B0)(o:List Int):Prop where
 pm:o.Perm (v8 x)
 up:o.Pairwise λa b=>a∉Cv x b (wh x b)
def Nj:Wf (B0×Unit) (OL Int) (B0×Unit):=λp a _=>Bi p.1/\∀o,Ord p.1 o->a #[o] (p.1,())
noncomputable def C6(x:B0)(s:List Int×List Int)(t:Int):List Int×List Int:=if t∈s.1 then (xr s.1<|wG x<|wh x t,s.2++[wh x t]) else s
def xz{j:Int}:lk (e::l) j=if e.1=j then some e.2 else lk l j:=by
 by_cases q:e.1=j
 ·rw[gU q];unfold lk;rw[i9,decide_eq_true q];rfl
 ·rw[ci q];unfold lk;rw[i9,ik q]
def LH{k j:Int}:∀{l:List (Int×c)},lk l k=none->lk (l++[(k,v)]) j=if j=k then some v else lk l j:=by
 intro b
 induction b with
 |nil =>
  intro _;rw[nK,xz];by_cases q:j=k
  ·rw[gU q,gU q.symm]
  ·rw[ci q,ci<|λz=>q z.symm]
 |cons e l a =>
  intro h;rw[xz]at h;by_cases z:e.1=k
  ·rw[gU z]at h;cases h
  ·rw[ci z]at h;rw[List.cons_append,xz,xz,a h];by_cases q:e.1=j
   ·rw[gU q,gU q,ci<|λw=>z<|q.trans w]
   ·rw[ci q,ci q]
def z8{k:Int}(h:lk l k=none):pk l k v=l++[(k,v)]:=by unfold pk;rw[h];rfl
def Cw{k j:Int}:∀{l:List (Int×d)},lk (dk l k) j=if j=k then none else lk l j:=by
 intro c
 induction c with
 |nil=>unfold dk;rw[List.filter_nil];split<;>rfl
 |cons e l a =>
  have b:=a;unfold dk at b ⊢;rw[jk];by_cases z:e.1=k
  ·rw[ci (by simpa using z),b,xz];by_cases q:j=k
   ·rw[gU q,gU q]
   ·rw[ci q,ci q,ci<|λw=>q<|w.symm.trans z]
  ·rw[gU (by simpa using z),xz,xz,b];by_cases q:e.1=j
   ·rw[gU q,gU q,ci<|λw=>z<|q.trans w]
   ·rw[ci q,ci q]
def YL{k j:Int}:∀{l:List (Int×c)},lk (l.map λe=>if e.1=k then (e.1,v) else e) j=if j=k then (if (lk l k).isSome=true then some v else none) else lk l j:=by
 intro b
 induction b with
 |nil=>simp[lk]
 |cons e l a =>
  rw[iC,xz,a,xz,xz];by_cases z:e.1=k
  ·rw[gU z,gU z];by_cases q:j=k
   ·subst q;simp[z]
   ·have:¬e.1=j:=λw=>q<|w.symm.trans z;simp[q,this]
  ·rw[ci z,ci z];by_cases q:e.1=j
   ·have:¬j=k:=λw=>z<|q.trans w;simp[q,this]
   ·simp[q]
def yG{k j:Int}:lk (pk l k v) j=if j=k then some v else lk l j:=by
 unfold pk
 cases q:(lk l k).isSome with
 |true=>rw[gU rfl,YL,q];simp
 |false =>
  rw[ci q0o,LH<|by simpa using q]
def Nk{a:Type}{l:List (Int×a)}{k:Int}(h:k∉l.map (·.1)):lk l k=none:=by
 cases e:lk l k with
 |none=>rfl
 |some v=>exact ii (zX<|by rw[e];rfl) h
def AR{a:Type}{k:Int}{l:List (Int×a)}:(lk l k).isSome=true↔k∈l.map (·.1):=#[zX,xL]
def Nl{c t:Int}:∀{l:List Int},t∈l->lk (l.map λk=>(k,c)) t=↑c
 |a::l,h=>by
  rw[iC,xz];by_cases q:a=t
  ·rw[gU q]
  ·rw[ci q];exact Nl<|(List.mem_cons.mp h).elim (λz=>ii z.symm q) id
def Dz{b:Type}{p q:b->Bool}(h:∀t,q t=true->p t=true):∀{l:List b},(l.filter q).length<=(l.filter p).length
 | []=>gZ _
 |a::l=>by
  have:=Dz h (l:=l);rw[jk,jk];by_cases z:q a=true
  ·rw[gU z,gU<|h a z];simpa using this
  ·rw[ci z];split<;>simp<;>lia
def filter_lt{b:Type}{p q:b->Bool}(h:∀t,q t=true->p t=true){x:b}(c:p x=true)(d:q x=false):∀{l:List b},x∈l->(l.filter q).length+1<=(l.filter p).length
 |a::l,m=>by
  rw[jk,jk];rcases List.mem_cons.mp m with z|z
  ·subst z;rw[d,c,ci q0o,gU rfl];have:=Dz h (l:=l);simp;lia
  ·have:=filter_lt h c d z;by_cases w:q a=true
   ·rw[gU w,gU<|h a w];simp;lia
   ·rw[ci w];split<;>simp<;>lia
def RU{r:Int->Nat}{t:Int}:∀{l:List Int},t∈l->r t<=(l.map r).sum
 |a::l,h=>by
  rw[iC,List.sum_cons];rcases List.mem_cons.mp h with z|z
  ·rw[z];lia
  ·have:=RU (r:=r) z;lia
section
variable{x:B0}
def wM{l:Int}(h:l∈v8 x):lk x.ht l=↑(wh x l):=by obtain⟨v,e⟩:=Option.isSome_iff_exists.mp<|xL h;unfold wh;rw[e];rfl
def xB{l h t:Int}:t∈Cv x l h↔t∈wG x h/\t≠l/\t∈v8 x:=by unfold Cv v8;rw[ja,iU,iW,AR]
def Bi.IP(a:Bi x){l:Int}(h:l∈v8 x):(lk x.rk<|wh x l).isSome=true:=(a.ht l _<|wM h).2.1
def Bi.bl(a:Bi x){c:Int}(h:(lk x.rk c).isSome=true):(wG x c).length<=hJ:=by
 have:=(a.ok.bo c _<|Br a.ok h);have:=wE (U:=yY 0 63) this.1 λk b=>zW (this.2 k b).1 (this.2 k b).2;have e:(yY 0 63).length=63:=by decide
 exact wl q0a
def VC{low high:Int}{V:List Int}(v:Bi x)(o:low∉v8 x)(f:low∈V)(D:∀k∈V,k≠low->k∈v8 x)
 (p:∀k∈V,(k≠low->low∉wG x (wh x k))/\∀t∈Cv x k (if k=low then high else wh x k),t∈V):Zl (FE x low high):=by
  obtain⟨r,u⟩:=v.acy
  have c:∀{t:Int},t∈v8 (FE x low high)↔t=low\/t∈v8 x:=λ{t}=>by
    show t∈(pk x.ht low high).map (·.1)↔_
    rw[<- AR,yG]
    by_cases q:t=low
    · simp[q]
    · rw[ci q, AR]; simp[q, v8]
  have y:∀l,wh (FE x low high) l=if l=low then high else wh x l:=λl=>by
    unfold wh FE
    rw[yG]
    split<;>rfl
  have A:∀{l h t:Int},t∈Cv (FE x low high) l h↔t∈wG x h/\t≠l/\(t=low\/t∈v8 x):=λ{l h t}=>by
    rw[xB,c];exact Iff.rfl
  refine#[λt=>if t∈V then (if t=low then ((v8 x).map r).sum+1 else ((v8 x).map r).sum+2+r t) else r t,λl g t a=>?_]
  rw[y]at a
  have a:=A.mp a
  have i:∀k,k∈v8 x->r k<=((v8 x).map r).sum:=λk B=>RU B
  dsimp only
  by_cases b:l=low
  · subst b
    rw[gU rfl]at a
    rw[gU f,gU rfl]
    have C:t∈v8 x:=a.2.2.elim (λz=>ii z a.2.1) id
    have e:t∈V:=(p l f).2 t (by rw[gU rfl];exact xB.mpr #[a.1,a.2.1,C])
    rw[gU e,ci a.2.1]
    lia
  · rw[ci b]at a
    have j:l∈v8 x:=(c.mp g).elim (λz=>ii z b) id
    by_cases m:l∈V
    · rw[gU m, ci b]
      have d:=p l m
      rw[ci b]at d
      rcases a.2.2 with z|z
      · rw[z]at a; exact ii a.1<|d.1 b
      · have s : t ∈ Cv x l (wh x l) := xB.mpr #[a.1, a.2.1, z]
        have:=u l j t s
        have n:t≠low:=λw=>o<|w▸z
        rw[gU<|d.2 t s,ci n]
        lia
    · rw[ci m]
      have:=i l j
      rcases a.2.2 with z|z
      · subst z
        rw[gU f,gU rfl]
        lia
      · have s : t ∈ Cv x l (wh x l) := xB.mpr #[a.1, a.2.1, z]
        have:=u l j t s
        have n:t≠low:=λw=>o<|w▸z
        by_cases e:t∈V
        · rw[gU e, ci n]; lia
        · rw[ci e]; lia
noncomputable def Pk(x:B0)(e:List (Int×Option Int)):Nat:=((v8 x).filter λt=>!(lk e t).isSome).length
structure Rw(x:B0)(low:Int)(e:List (Int×Option Int))(ws:List Int)(D:Int->List (Int×Option Int)->Prop):Prop where
 lo:(lk e low).isSome=true
 tl:∀k,(lk e k).isSome=true->k≠low->k∈v8 x
 wk:∀k∈ws,(lk e k).isSome=true
 dn:∀k,(lk e k).isSome=true->k∉ws->D k e
 ch:∃mm:Int->Nat,(∀k,mm k<=e.length)/\∀k t,lk e k=↑(some t)->(lk e t).isSome=true/\mm t<mm k
 sz:e.length+Pk x e<=64
def Rw.add{low:Int}{a t0:Int}(R:Rw x low e p D)(m:a∈v8 x)(d:lk e a=none)(i:(lk e t0).isSome=true)(b:∀k,(lk e k).isSome=true->D k e->D k (pk e a<|↑t0)) :
  Rw x low (pk e a<|↑t0) (p++[a]) D/\Pk x (pk e a<|↑t0)+1<=Pk x e:=by
 have r:Pk x (pk e a<|↑t0)+1<=Pk x e:=by
  refine filter_lt (x:=a) (λt h=>?_) (by rw[d];rfl) (by rw[yG,gU rfl];rfl) m;rw[yG]at h;by_cases q:t=a
  ·rw[gU q]at h;simp at h
  ·rw[ci q]at h;exact h
 have f:∀k,(lk e k).isSome=true->(lk (pk e a<|some t0) k).isSome=true:=λk h=>by
  rw[yG];split
  ·rfl
  ·exact h
 have j:∀k,k≠a->lk (pk e a<|some t0) k=lk e k:=λk h=>by rw[yG,ci h]
 have c:(pk e a<|↑t0).length=e.length+1:=by rw[z8 d];simp
 refine#[#[f _ R.lo,λk h n=>?_,λk h=>?_,λk h n=>?_,?_,by rw[c];have:=R.sz;lia],r]
 ·by_cases q:k=a
  ·rw[q];exact m
  ·rw[j k q]at h;exact R.tl k h n
 ·rcases List.mem_append.mp h with z|z
  ·exact f _<|R.wk k z
  ·rw[List.mem_singleton.mp z,yG,gU rfl];rfl
 ·have q:k≠a:=λz=>n (by rw[z];simp);rw[j k q]at h;exact b k h<|R.dn k h λz=>n<|ji _ z
 ·obtain⟨s,o,u⟩:=R.ch;refine#[λk=>if k=a then e.length+1 else s k,λk=>?_,λk t h=>?_]
  ·rw[c];dsimp only;split
   ·exact gZ _
   ·have:=o k;lia
  ·by_cases q:k=a
   ·rw[q,yG,gU rfl]at h;injection h with h;injection h with h;subst h;have l:t0≠a:=λz=>by rw[z,d]at i;cases i
    refine#[f _ i,?_];dsimp only;rw[gU q,ci l];have:=o t0;lia
   ·rw[j k q]at h;have g:=u k t h;have l:t≠a:=λz=>by rw[z,d]at g;cases g.1
    refine#[f _ g.1,?_];dsimp only;rw[ci q,ci l];exact g.2
def Nm(x:B0)(low high:Int)(k:Int)(e:List (Int×Option Int)):Prop:=(k≠low->low∉wG x (wh x k))/\∀t∈Cv x k (if k=low then high else wh x k),(lk e t).isSome=true
def RV{low high:Int}(b:Bi x):Rw x low [(low,none)] [low] (Nm x low high):=by
 have a:∀k,(lk ([(low,none)]:List (Int×Option Int)) k).isSome=true->k=low:=λk h=>by have:=zX h;simpa using this
 refine#[xL q0o,λk h n=>ii (a k h) n,λk h=>xL (by simpa using h),λk h n=>ii (a k h) (by simpa using n),#[λ_=>0,λ_=>jj _,λk t h=>?_],?_]
 ·rw[xz]at h;by_cases q:low=k
  ·rw[gU q]at h;cases h
  ·rw[ci q]at h;cases h
 ·have:=b.len;have g:Pk x [(low,none)]<=(v8 x).length:=iI _ _;have e:(v8 x).length=x.ht.length:=hO _;simp only[iw]
  lia
def a2Q{low:Int}(a:Bi x):2*Pk x [(low,none)]+[low].length<=200:=by
 have:=a.len;have g:Pk x [(low,none)]<=(v8 x).length:=iI _ _;have e:(v8 x).length=x.ht.length:=hO _;simp only[iw]
 lia
noncomputable def LI(x:B0)(a:List Int):List Int:=(v8 x).filter λt=>decide<|t∉a
noncomputable def cnt(x:B0)(a:List Int)(t:Int):Int:=((115).length:Int)
def zh{t:Int}:t∈LI x a↔t∈v8 x/\t∉a:=by unfold LI;rw[ja,iW]
def cnt_cons{l t:Int}:cnt x (l::a) t=cnt x a t+if t∈Cv x l (wh x l) then 1 else 0:=by
 unfold cnt;rw[jk];by_cases q:t∈Cv x l (wh x l)
 ·rw[gU<|decide_eq_true q,gU q];simp
 ·rw[ci (by simpa using q),ci q];simp
def J4{a:List Int}{t:Int}(h:a.Perm b):cnt x a t=cnt x b t:=by unfold cnt;rw[(h.filter _).length_eq]
def YM{t:Int}:0<=cnt x a t:=by unfold cnt;lia
def RX{t:Int}(h:cnt x a t=0):∀l∈a,t∉Cv x l (wh x l):=λl b q=>by unfold cnt at h;have:115=[]:=List.length_eq_zero_iff.mp q0a;have m:l∈115:=List.mem_filter.mpr #[b,decide_eq_true q];rw[this]at m;cases m
def Nn{t:Int}(h:cnt x a t≠0):∃l∈a,t∈Cv x l (wh x l):=by
 unfold cnt at h
 cases e:115 with
 |nil=>rw[e]at h;exact ii rfl h
 |cons l r =>
  have m:l∈115:=by rw[e];exact gY
  have:=List.mem_filter.mp m;exact#[l,this.1,jV this.2]
def LJ{a b:List Int}(h:a.Nodup)(c:b.Nodup)(s:∀k∈a,k∈b):a.length<=b.length:=by
 have p:a.Perm (b.filter λk=>decide<|k∈a):=wC h (c.filter _) λk=>by rw[ja,iW];exact#[λz=>#[s k z,z],λz=>z.2]
 rw[p.length_eq];exact iI _ _
def No{a:Type}{l:List (Int×a)}{k:Int}{v:a}(h:(lk l k).isSome=true):(pk l k v).map (·.1)=l.map (·.1):=by unfold pk;rw[gU h,kF];refine mw λe _=>?_;dsimp only[uK];split<;>rfl
structure Kh(x:B0)(u:List (Int×Int))(ready told r2:List Int):Prop where
 ks:u.map (·.1)=v8 x
 nd:(told++ready).Nodup
 st:∀t∈told++ready,t∈v8 x
 ct:∀t∈v8 x,lk u t=↑(cnt x (LI x told) t+if t∈r2 then 1 else 0)
 rd:∀t∈v8 x,t∉told->(t∈ready↔cnt x (LI x told) t+(if t∈r2 then 1 else 0)=0)
 bk:∀a∈told,∀l∈v8 x,l∉told->a∉Cv x l (wh x l)
 od:told.Pairwise λa b=>a∉Cv x b (wh x b)
def VD{y:Int}(b:Bi x)(c:y∈v8 x)(d:y∉a):(LI x a).Perm (y::LI x (a++[y])):=by
 refine wC (b.nd.filter _) (List.nodup_cons.mpr #[λz=>(zh.mp z).2 q0o,b.nd.filter _]) λk=>?_;rw[zh,iD,zh,kW,kJ];by_cases q:k=y
 ·subst q;exact#[λ_=>.inl rfl,λ_=>#[c,d]]
 ·simp[q]
def Kh.pop{y:Int}(n:Bi x)(K:Kh x u (f++[y]) c []):Kh x u f (c++[y]) (Cv x y<|wh x y):=by
 have g:y∈v8 x:=K.st y q0o;have o:=List.nodup_append.mp K.nd;have h:y∉c:=λz=>o.2.2 y z y q0o rfl;have q:=VD n g h;have j:∀t,cnt x (LI x c) t=cnt x (LI x<|c++[y]) t+if t∈Cv x y (wh x y) then 1 else 0:=λt=>by rw[J4 q,cnt_cons]
 have r:cnt x (LI x c) y=0:=by have:=(K.rd y g h).mp q0o;simpa using this
 refine#[K.ks,?_,λt d=>K.st t (by simp only[kW,kJ]at d ⊢;rcases d with(z|z)|z<;>simp[z]),λt d=>?_,λt d e=>?_,λa i l k e=>?_,?_]
 ·have p:(c++[y]++f).Perm (c++(f++[y])):=by rw[lQ];exact oO c m6
  exact(p.nodup_iff).mpr K.nd
 ·rw[K.ct t d,j t];simp
 ·have s:t∉c:=λz=>e<|ji _ z;have v:t≠y:=λz=>e (by rw[z];simp);have:=K.rd t d s;rw[j t]at this;rw[kW,kJ]at this;simpa[v] using this
 ·have m:l∉c:=λz=>e<|ji _ z;rcases List.mem_append.mp i with z|z
  ·exact K.bk a z l k m
  ·rw[List.mem_singleton.mp z];exact RX r l<|zh.mpr #[k,m]
 ·rw[List.pairwise_append];refine#[K.od,jH _ _,λa i b w=>?_];rw[List.mem_singleton.mp w];exact K.bk a i y g h
def Kh.step{b v:Int}(K:Kh x u ready c (b::e))(f:b∈v8 x)(i:b∉c)(j:b∉e)(k:lk u b=↑v) :
  Kh x (pk u b<|v-1) (if v-1=0 then ready++[b] else ready) c e:=by
 have g:=K.ct b f;rw[k,gU gY]at g;injection g with g
 have l:b∉ready:=λz=>by
  have:=(K.rd b f i).mp z;rw[gU gY]at this;have:=YM (x:=x) (a:=LI x c) (t:=b)
  lia
 have d:∀t,t≠b->(if t∈b::e then (1:Int) else 0)=if t∈e then 1 else 0:=λt q=>by simp[q]
 refine#[(No<|by rw[k];rfl).trans K.ks,?_,λt h=>?_,λt h=>?_,λt h m=>?_,K.bk,K.od]
 ·split
  ·have p:(c++(ready++[b])).Perm (b::(c++ready)):=by rw[<- lQ];exact m6
   refine(p.nodup_iff).mpr<|List.nodup_cons.mpr ⟨λz=>?_,K.nd⟩;rcases List.mem_append.mp z with z|z
   ·exact i z
   ·exact l z
  ·exact K.nd
 ·by_cases q:t=b
  ·rw[q];exact f
  ·refine K.st t ?_;rcases List.mem_append.mp h with z|z
   ·exact ji _ z
   ·by_cases w:v-1=0
    ·rw[gU w]at z;rcases List.mem_append.mp z with z|z
     ·exact iv _ z
     ·exact ii (List.mem_singleton.mp z) q
    ·rw[ci w]at z;exact iv _ z
 ·rw[yG];by_cases q:t=b
  ·rw[gU q,q,ci j];congr 1;lia
  ·rw[ci q,K.ct t h,d t q]
 ·by_cases q:t=b
  ·rw[q,ci j];by_cases w:v-1=0
   ·rw[gU w];exact#[λ_=>by lia,λ_=>by simp]
   ·rw[ci w];exact#[λz=>ii z l,λz=>ii q0a w]
  ·have:=K.rd t h m;rw[d t q]at this;rw[<- this];by_cases w:v-1=0
   ·rw[gU w];simp[q]
   ·rw[ci w]
def Kh.done(f:Bi x)(K:Kh x u [] a []):Ord x a:=by
 obtain⟨r,g⟩:=f.acy
 have c:∀n t,r t<=n->t∈v8 x->t∈a:=by
  intro n
  induction n with
  |zero =>
   intro t i d;by_cases q:t∈a
   ·exact q
   ·have:cnt x (LI x a) t≠0:=λz=>by have:=(K.rd t d q).mpr (by simpa using z);cases this
    obtain⟨l,b,e⟩:=Nn this;have:=g l (zh.mp b).1 t e
    lia
  |succ n j =>
   intro t i d;by_cases q:t∈a
   ·exact q
   ·have:cnt x (LI x a) t≠0:=λz=>by have:=(K.rd t d q).mpr (by simpa using z);cases this
    obtain⟨l,b,e⟩:=Nn this;have:=g l (zh.mp b).1 t e;exact ii (j l q0a (zh.mp b).1) (zh.mp b).2
 have h:=K.nd;rw[ko]at h;exact#[wC h f.nd λk=>#[λz=>K.st k (by simpa using z),λz=>c _ k (gZ _) z],K.od]
def Kh.len(b:Bi x)(K:Kh x u ready a d):ready.length<=63/\a.length<=63/\u.length<=63:=by
 have e:(v8 x).length=x.ht.length:=hO _;have:=b.len;have c:=LJ K.nd b.nd K.st;rw[ig]at c;have f:u.length=(v8 x).length:=by rw[<- K.ks,hO]
 lia
def RY(a:Bi x){l h:Int}(b:(lk x.rk h).isSome=true):(Cv x l h).Nodup:=by exact(vr (a.ok.bo h _<|Br a.ok b).1).filter _
end
section
variable{q:Cq}{XL:gV}
noncomputable abbrev C7:iB:=Bf (top 26) 22
noncomputable abbrev C8:List Str:=["self","cell"]
def LK:vm ["self","cell"] C8 (vd C7):=by walk_at "sc"
abbrev GI(q:Cq)(k:Nat):=zm q C "is_tied" C8 (GG) k
def LL(F:y9 q.K "is_tied" "Field.is_tied" C7 f g)(b:A7 q.K C)(c:Ph q.K C):Gq q 2 f g C8 (GG):=by
 refine' vo (wJ (D':=Unit) (ms:=[0]) (j:=0) F LK rfl rfl λi A a s H E d =>
   (vf (vw (vC (a0b (Ll .ht false 0 rfl b.cl c.nH (Cd d) (ss 1) (pv 0)) (A5 (Ll .th false 0 rfl b.cl c.nT (Cd d) (ss 1) (pv 0)))))))) λp k l h=>?_
 walk_at "wl"
 have h:k ((lk p.1.ht p.2.1).isSome||(lk p.1.th p.2.1).isSome) 65:=h;rw[ci h8,ci h8];by_cases e:(lk p.1.ht p.2.1).isSome=true
 ·rw[gU e];rw[e]at h;exact h
 ·rw[ci e];rw[Bool.eq_false_iff.mpr e]at h;exact h
noncomputable abbrev HQ:iB:=Bf (top 26) 24
noncomputable abbrev HR:List Str:=["self","low","high"]
def RZ:vm ["self","low","high"] HR (vd HQ):=by walk_at "sc"
def OM:(["face","low","self"]:List Str).Nodup:=by decide +kernel
abbrev Np(q:Cq)(k:Nat):=zm q C "steps" HR (HN) k
def R6(F:y9 q.K "steps" "Field.steps" HQ f t)(d:A7 q.K C)(u:Ph q.K C):Gq q 2 f t HR (HN):=by
 refine' vo (wJ (D':=Unit) (ms:=[0]) (j:=0) F RZ rfl rfl λw A g s H E l =>
   (vf (vw (xy (Ts:=["face"]) (Fr:=["low","self"]) (idx:=[1,0]) (k:=1) (mb:=[1,2]) (is:=[]) (cl:=[("self",⇑s+1),("low",⇑s+1+1)]) rfl (QW (A8 0 d.cl d.nB (Cd l) (pv 0) (ww 2 (pv 2)))) bs2 rfl (wS rfl) (λa b C m n=>(vF 0 (vp OM))) (λa b C m n=>(tws_one (tw_w (Ld (tw_cm Dt (ss 0) (ss 1)) (Hk (tw_dIn .ht false 2 rfl d.cl u.nH (Cd l) (ss 0) (pv 2))))))) (λa b C m n=>(ss 0)))))) λp x G h=>?_
 walk_at "wl"
 refine BZ λB i=>?_;obtain⟨D,o,h⟩:=h;obtain⟨v,r⟩:=Option.isSome_iff_exists.mp D;have e:wG p.1 p.2.2.1=v:=by unfold wG;rw[r];rfl
 refine i ?_;rw[e]at o;refine#[v,r,o,?_];refine wK (q:=λf=>decide (f≠p.2.1)&&(lk p.1.ht f).isSome) (λf I K c=>?_) ?_
 ·show if (!decide (f=p.2.1))=true then (if (if false=true then _ else (lk p.1.ht f).isSome)=true then K ↑f _ else K none _) else (if false=true then K ↑f _ else K none _);rw[ci h8,ci h8];by_cases z:f=p.2.1
  ·rw[ci<|by simp[z]];rw[ci<|by simp[z]]at c;exact c
  ·rw[gU<|by simp[z]];by_cases y:(lk p.1.ht f).isSome=true
   ·rw[gU y];rw[gU<|by simp[z,y]]at c;exact c
   ·rw[ci y];rw[ci<|by simp[z,y]]at c;exact c
 ·have h:x #[Cv p.1 p.2.1 p.2.2.1] 71:=h;unfold Cv at h;rw[e]at h;exact h
noncomputable abbrev HS:iB:=Bf (top 26) 17
noncomputable abbrev HU:List Str:=["self"]
def R7:vm ["self"] HU (vd HS):=by walk_at "sc"
abbrev Nq(q:Cq)(k:Nat):=zm q C "tails" HU (Ni) k
def R8(F:y9 q.K "tails" "Field.tails" HS f b)(c:A7 q.K C)(d:Ph q.K C)(B:Bn q.mg):Gq q 2 f b HU (Ni):=by
 refine' vo (wJ (D':=Unit) (ms:=[0]) (j:=0) F R7 rfl rfl λe A a s H E k =>
   (vf (vw (EL .ht 0 rfl c.cl d.nH rfl rfl B.sorted (pv 0))))) λp l m h=>?_
 walk_at "wl"
 obtain⟨g,n,i⟩:=h;exact#[g,i]
noncomputable abbrev Fc:iB:=Bf (top 26) 20
abbrev Fd:List Str:=["self"]
def ON:vm ["self"] Fd (vd Fc):=by walk_at "sc"
def LM:(["low","self"]:List Str).Nodup:=by decide +kernel
abbrev J5(q:Cq)(k:Nat):=zm q C "arrows" Fd (J3) k
def OO(F:y9 q.K "arrows" "Field.arrows" Fc f i)(m:A7 q.K C)(n:Ph q.K C)(a:Nq q 2):Gq q 3 f i Fd (J3):=by
 refine' vo (wJ (D':=Unit) (ms:=[0]) (j:=0) F ON rfl rfl λo A d s H E r =>
   (vf (vw (xy (Ts:=["low"]) (Fr:=["self"]) (idx:=[0]) (k:=1) (mb:=[1]) (is:=[]) (cl:=[("self",⇑s+1)]) rfl (wn (vN (Dw 0 a))) TU rfl (wS rfl) (λb c C e g=>(vF 0 (vp LM))) (λb c C e g=>tws_nil) (λb c C e g=>(w6 (ss 0) (DT .ht 1 rfl m.cl n.nH (Cd r) (pv 1) (ww 0 (pv 0))))))))) λp z B h=>?_
 walk_at "wl"
 obtain⟨t,u,v⟩:=h;refine#[t,u,?_,?_]
 ·show (BI<|v8 p.1).length<=hJ;rw[(wO _).length_eq];exact wl (by show (p.1.ht.map (·.1)).length<=1000;rw[hO];lia)
 ·refine wd (f:=λl=>↑(l,wh p.1 l)) (λl w K y=>?_) ?_
  ·exact#[_,wM (x:=p.1)<|yL.mp w,y]
  ·rw[pc];exact v
noncomputable abbrev C9:iB:=Bf (top 26) 15
abbrev Dd:List Str:=["self","cell"]
def LN:vm ["self","cell"] Dd (vd C9):=by walk_at "sc"
abbrev OP(q:Cq)(k:Nat):=zm q C "head_of" Dd (GH) k
def LO(F:y9 q.K "head_of" "Field.head_of" C9 f c)(d:A7 q.K C)(e:Ph q.K C)(a:wL q 2):Gq q 3 f c Dd (GH):=by
 refine' vo (wJ (D':=Unit) (ms:=[0]) (j:=0) F LN rfl rfl λg A b s H E i =>
   (vt (wj (vv (wy 0 a 86)))
   (vf (vw (vC (RA .ht 0 rfl d.cl e.nH (Cd i) (pv 0) (ww 1 (pv 1)))))))) λp k l h=>?_
 walk_at "wl"
 exact h
noncomputable abbrev HV:iB:=Bf (top 26) 14
noncomputable abbrev HW:List Str:=["self","low"]
def J7:vm ["self","low","high"] HW (vd HV):=by walk_at "sc"
abbrev VE(q:Cq)(k:Nat):=zm q C "untie" HW (HP) k
def R9(F:y9 q.K "untie" "Field.untie" HV f k)(c:A7 q.K C)(d:Ph q.K C)(a:wL q 2)(b:Xc q.K q.mg "NotTied" XN):Gq q 3 f k HW (HP):=by
 refine' vo (wJ (D':=Unit) (ms:=[0]) (j:=1) F J7 rfl rfl λl A g s H E m =>
   (vt (wj (vv (wy 0 a 86)))
   (vt (vJ (tw_dIn .ht true 0 rfl c.cl d.nH (Cd m) (ss 1) (pv 0))
   (vf<|Ce rfl b)
   vG)
   (vt (vy 2 J7.nd (vC (Vs .ht 0 rfl c.cl d.nH (pv 0) (ww 1 (pv 1)))))
   (vt (M3 .th 0 rfl c.cl d.nT (pv 0) (ww 2 (pv 2)) (λn o=>GZ n o))
   (vf (vw (vC (ss 2))))))))) λp u r h=>?_
 walk_at "wl"
 obtain⟨t,h⟩:=h;show if (70).isSome=true then _ else r XC 65;by_cases i:(70).isSome=true
 ·rw[gU i]at h ⊢;dsimp only;rw[gU rfl];by_cases q:(lk p.1.ht p.2.1).isSome=true
  ·rw[gU q]at h;rw[ci<|by simp[q]];have e:=wM (x:=p.1)<|zX q;exact#[_,e,by rw[(t.ht _ _ e).2.2.2];rfl,h]
  ·rw[ci q]at h;rw[gU<|by simp[q]];exact h
 ·rw[ci i]at h ⊢;exact h
noncomputable abbrev yb:iB:=top 27
noncomputable abbrev yc:List Str:=["earlier","last"]
def w9:vm ["earlier","last","row","tail"] yc (vd yb):=by walk_at "sc"
abbrev De(q:Cq)(k:Nat):=xt q "row_from_first" yc zx k
def Cy(F:CZ q "row_from_first" yb f o):Gq q 2 f o yc zx:=by
 refine' vo (wJ (D':=Unit) (ms:=[0]) (j:=2) F w9 rfl rfl λr A b s H E t =>
   (vt (vy 2 w9.nd 105)
   (vt (vy 3 w9.nd (vC (zQ (ss 1))))
   (vt (EN (mb:=[0]) (D2:=(Dc (Option Int))×Int×(OL Int)×(Option Int)×Unit) (vI q0q) xV (tw_cm MV (ss 3) La)
   (vt (wF 2 (yF (ss 3)))
   (vf (vy 3 w9.nd (vC (EU 0 (Cd t) (pv 0) (yF (ss 3))))))) q0q)
   (vf (vw (YF (v7 2)))))))) λp D G h=>?_
 walk_at "wl"
 refine BZ λu c=>?_;obtain⟨⟨a,w,x,y⟩,h⟩:=h;refine c ?_;refine#[λm d=>d.1=p.1/\(match d.2.2.2.1 with|none=>d.2.2.1.l≠[]|some k=>(lk p.1.l k).isSome=true/\d.2.2.1.l.length+a k<1000)/\(match d.2.2.2.1 with|none=>0|some k=>a k+1)<=m,#[a p.2.1+1,rfl,#[x,by have:=w p.2.1;simpa using this],gZ _],?_];intro m;refine a2A λI J B C L=>?_;rintro⟨rfl,i,M⟩
 cases C with
 |none =>
  rw[ci q0o];exact h _ (by simpa using i)
 |some k =>
  rw[gU q0o];obtain⟨v,n⟩:=Option.isSome_iff_exists.mp i.1;have z:hJ=16777216:=i7;refine#[k,rfl,by show B.l.length<hJ;lia,k,rfl,v,n,?_]
  cases v with
  |none=>exact#[0,q0a,rfl,q0o,gZ _]
  |some e =>
   have g:=y k e n;exact#[a e+1,q0a,rfl,#[g.1,by simp;lia],gZ _]
noncomputable abbrev AS:iB:=Bf (top 26) 25
noncomputable abbrev AT:List Str:=["self","low","high"]
def xn:vm ["self","low","high","earlier","waiting","tail","head","later"] AT (vd AS):=by walk_at "sc"
abbrev J8(q:Cq)(k:Nat):=zm q C "ring_with" AT (Dy) k
def HX(F:y9 q.K "ring_with" "Field.ring_with" AS f fd)(ct:A7 q.K C)(cf:Ph q.K C)(a:De q 3)(D:Np q 3):Gq q 4 f fd AT (Dy):=by
 refine' vo (wJ (D':=Unit) (ms:=[0]) (j:=5) F xn rfl rfl λag A aa s H E P =>
   (vt (vy 3 xn.nd (YD (ww 1 (pv 1))))
   (vt (vy 4 xn.nd (vE (vk (ss 1) vD)))
   (vt (EN (mb:=[0]) (D2:=(Bd C true)×Int×Int×(Dc (Option Int))×(OL Int)×Int×Int×Un×Unit) (vI q0q) xV (tw_trueR (v7 4))
   (vt (vy 5 xn.nd (vC (Nb 4 (pv 4) (PV mC o5 o6 PY (pv 4)))))
   (vt (vy 6 xn.nd (vC (RB .ht 0 rfl ct.cl cf.nH (Cd P) (pv 0) (ww 5 (pv 5)) (ww 2 (pv 2)))))
   (vt (vJ (tw_w (Ld (tw_cm Dt (ss 5) (ss 1)) (Hk (tw_inT (ss 1) (A8 0 ct.cl ct.nB (Cd P) (pv 0) (ww 6 (pv 6))) (by with_unfolding_all rfl)))))
   (vf<|vw<|vA a<|vM 3<|vj (ss 5) vg)
   vG)
   (vf (wv (is:=[]) (mb:=[0]) (D1:=(Bd C true)×Int×Int×(Dc (Option Int))×(OL Int)×Int×Int×Int×Unit) (D2:=(Bd C true)×Int×Int×(Dc (Option Int))×(OL Int)×Int×Int×Int×Unit) (vI q0q) xV rfl (wn (vN (wy 0 D (vj (ss 5) (vj (ss 6) vg))))) (vF 7 (vp xn.nd))
   (vf (vJ (tw_dcNin 3 (Cd P) (ss 7) (pv 3))
   (vt (Rq 3 (Cd P) (pv 3) (ss 7) (zQ (ss 5)))
   (vf (wF 4 (ss 7))))
   vG)) q0q q0q))))) q0q)
   (vf (vw 105)))))) λp Kn Ke h=>?_
 walk_at "wl"
 refine BZ λah ab=>?_;obtain⟨L,hh,t1,t2,h⟩:=h;refine ab ?_
 have G:p.2.1∉v8 p.1:=λz=>by have:=xL z;unfold xv at t1;rw[this]at t1;cases t1
 have n0:lk p.1.ht p.2.1=none:=Nk G;refine#[λm d=>d.1=p.1/\d.2.1=p.2.1/\d.2.2.1=p.2.2.1/\Rw p.1 p.2.1 d.2.2.2.1.l d.2.2.2.2.1.l (Nm p.1 p.2.1 p.2.2.1)/\2*Pk p.1 d.2.2.2.1.l+d.2.2.2.2.1.l.length<=m/\m<=200,#[_,rfl,rfl,rfl,RV L,gZ _,a2Q L],?_];intro m;refine FQ λd1 d2 d3 d4 d5 d6 d7 d8 d9=>?_;rintro⟨rfl,rfl,rfl,i,i5,i6⟩;rcases tP d5.l with e|⟨ys,y,e⟩
 ·rw[ci<|by rw[e];simp];refine h [] λ_=>?_;rw[e]at i;exact VC (V:=d4.l.map (·.1)) L G (AR.mp i.lo) (λk o n=>i.tl k (AR.mpr o) n) λk o=>#[(i.dn k (AR.mpr o) q0o).1,λt c=>AR.mp<|(i.dn k (AR.mpr o) q0o).2 t c]
 ·rw[gU<|by rw[e];simp];rw[tQ]at e;refine#[ys,y,e,?_];have W:(lk d4.l y).isSome=true:=i.wk y (by rw[e];simp)
  have hd:(lk p.1.ht y).getD p.2.2.1=if y=p.2.1 then p.2.2.1 else wh p.1 y:=by
   by_cases q:y=p.2.1
   ·rw[gU q,q,n0];rfl
   ·rw[ci q,wM<|i.tl y W q];rfl
  have M:(lk p.1.rk<|if y=p.2.1 then p.2.2.1 else wh p.1 y).isSome=true:=by
   by_cases q:y=p.2.1
   ·rw[gU q];exact hh
   ·rw[ci q];exact L.IP<|i.tl y W q
  rw[hd]
  have I:(y≠p.2.1->p.2.1∉wG p.1 (wh p.1 y))->HN (p.1,y,(if y=p.2.1 then p.2.2.1 else wh p.1 y),()) (λae p'=>Hl (λx (b:B0×Int×Int×Dc (Option Int)×OL Int×Int×Int×WL.Un×Unit) R Kr Ke =>
    if (!(lk b.2.2.2.1.l x).isSome)=true then b.2.2.2.1.l.length<hJ/\b.2.2.2.2.1.l.length<hJ/\R (b.1,b.2.1,b.2.2.1,#[pk b.2.2.2.1.l x<|↑b.2.2.2.2.2.1],#[b.2.2.2.2.1.l++[x]],b.2.2.2.2.2.1,b.2.2.2.2.2.2.1,#[],b.2.2.2.2.2.2.2.2)
    else R (b.1,b.2.1,b.2.2.1,b.2.2.2.1,b.2.2.2.2.1,b.2.2.2.2.2.1,b.2.2.2.2.2.2.1,#[],b.2.2.2.2.2.2.2.2)) ae.l (p'.1,p.2.1,p.2.2.1,d4,#[ys],y,(if y=p.2.1 then p.2.2.1 else wh p.1 y),d8,d9)
    (λN=>∃m',m'<m/\N.1=p.1/\N.2.1=p.2.1/\N.2.2.1=p.2.2.1/\Rw p.1 p.2.1 N.2.2.2.1.l N.2.2.2.2.1.l (Nm p.1 p.2.1 p.2.2.1)/\2*Pk p.1 N.2.2.2.1.l+N.2.2.2.2.1.l.length<=m'/\m'<=200) Kn Ke) (λaf p'=>Ke af (p'.1,#[],#[],())):=by
   intro hy;refine#[by rw[Br L.ok M];rfl,L.bl M,?_]
   refine vL (λ(r:List Int) (b:B0×Int×Int×Dc (Option Int)×OL Int×Int×Int×WL.Un×Unit)=>b.1=p.1/\b.2.1=p.2.1/\b.2.2.1=p.2.2.1/\b.2.2.2.2.2.1=y/\(lk b.2.2.2.1.l y).isSome=true/\(∀t∈r,t∈v8 p.1) /\
    Rw p.1 p.2.1 b.2.2.2.1.l b.2.2.2.2.1.l (λk e=>if k=y then (∀t∈Cv p.1 y (if y=p.2.1 then p.2.2.1 else wh p.1 y),(lk e t).isSome=true\/t∈r) else Nm p.1 p.2.1 p.2.2.1 k e)/\2*Pk p.1 b.2.2.2.1.l+b.2.2.2.2.1.l.length+1<=m) _ ?_ ?_ ?_
   ·refine#[rfl,rfl,rfl,rfl,W,λt c=>(xB.mp c).2.2,#[i.lo,i.tl,λk o=>i.wk k (by rw[e];exact ji _ o),λk o O=>?_,i.ch,i.sz],?_]
    ·dsimp only;by_cases q:k=y
     ·rw[gU q];exact λt c=>.inr c
     ·rw[ci q];exact i.dn k o (by rw[e];intro z;rcases List.mem_append.mp z with z|z;exact O z;exact q<|List.mem_singleton.mp z)
    ·rw[e,ig]at i5;simp only[iw]at i5
     lia
   ·intro S r;refine FQ λb1 b2 b3 X b5 J b7 b8 b9=>?_;rintro _ ⟨rfl,rfl,rfl,rfl,Y,j6,u,j8⟩ K hK;have T:∀t∈r,t∈v8 p.1:=λt c=>j6 t (hI _ c)
    cases q:lk X.l S with
    |none =>
     rw[gU q0o];have z:hJ=16777216:=i7;have s1:=u.sz;have nn:∀(k:Int) (e':List (Int×Option Int)),(∀t,(lk e' t).isSome=true->(lk (pk e' S<|some J) t).isSome=true):=λk e' t c=>by rw[yG];split;rfl;exact c
     obtain⟨Q,u2⟩:=u.add (t0:=J) (j6 S gY) q Y λk o U=>by
      by_cases B:k=J
      ·rw[gU B]at U ⊢;exact λt c=>(U t c).imp (nn k _ t) id
      ·rw[ci B]at U ⊢;exact#[U.1,λt c=>nn k _ t<|U.2 t c]
     refine#[by show X.l.length<hJ;lia,by show b5.l.length<hJ;lia,hK _ #[rfl,rfl,rfl,rfl,nn 0 _ _ Y,T,?_,?_]]
     ·refine#[Q.lo,Q.tl,Q.wk,λk o O=>?_,Q.ch,Q.sz];have g:=Q.dn k o O;by_cases B:k=J
      ·rw[gU B]at g ⊢;intro t c;rcases g t c with w|w
       ·exact .inl w
       ·rcases List.mem_cons.mp w with w|w
        ·left;rw[w,yG,gU rfl];rfl
        ·exact .inr w
      ·rw[ci B]at g ⊢;exact g
     ·show 2*Pk p.1 (pk X.l S<|↑J)+(b5.l++[S]).length+1<=m;rw[ig];simp only[iw]
      lia
    |some v =>
     rw[ci q0o];refine hK _ #[rfl,rfl,rfl,rfl,Y,T,#[u.lo,u.tl,u.wk,λk o O=>?_,u.ch,u.sz],j8];have g:=u.dn k o O;by_cases B:k=J
     ·rw[gU B]at g ⊢;intro t c;rcases g t c with w|w
      ·exact .inl w
      ·rcases List.mem_cons.mp w with w|w
       ·left;rw[w,q];rfl
       ·exact .inr w
     ·rw[ci B]at g ⊢;exact g
   ·refine FQ λb1 b2 b3 X b5 J b7 b8 b9=>?_;rintro⟨rfl,rfl,rfl,rfl,Y,_,u,j8⟩;refine#[m-1,q0a,rfl,rfl,rfl,#[u.lo,u.tl,u.wk,λk o O=>?_,u.ch,u.sz],by dsimp only at j8 ⊢;lia,q0a];have g:=u.dn k o O;by_cases B:k=J
    ·rw[gU B]at g;subst B;exact#[hy,λt c=>(g t c).elim id λw=>ii w q0o]
    ·rw[ci B]at g;exact g
  by_cases q:y=p.2.1
  ·rw[ci (by simp[q]),ci h8];exact I λz=>ii q z
  ·rw[gU<|by simp[q]];refine#[_,Br L.ok M,?_];by_cases Z:p.2.1∈wG p.1 (if y=p.2.1 then p.2.2.1 else wh p.1 y)
   ·rw[gU<|decide_eq_true Z];obtain⟨mm,m1,m2⟩:=i.ch;refine⟨⟨mm,λk=>by have:=m1 k;have:=i.sz;lia,W,m2⟩,λr P=>h r λz=>ii z P⟩
   ·rw[ci<|by simpa using Z];exact I λ_=>by rw[ci q]at Z;exact Z
noncomputable abbrev Sc:iB:=Bf (top 26) 13
abbrev Sd:List Str:=["self","low","high"]
def Sg:vm ["self","low","high","ring"] Sd (vd Sc):=by walk_at "sc"
abbrev a0S(q:Cq)(k:Nat):=zm q C "tie" Sd (RT) k
def YN(F:y9 q.K "tie" "Field.tie" Sc f D)(o:A7 q.K C)(x:Ph q.K C)(b:wL q 4)(d:GI q 4)(e:J8 q 4)(g:Xc q.K q.mg "NotFace" XF)(k:Xc q.K q.mg "Tied" XT)(c:XcI q.P q.w q.K q.mg q.base 3 "RingOfArrows" XR "ring"):Gq q 5 f D Sd (RT):=by
 refine' vo (Ev (vI q0q) (D':=(Bd C true)×Int×Int×(OL Int)×Unit) (ms:=[0]) (j:=1) F Sg rfl rfl λG A v s H E l =>
   (vt (wj (vv (wy 0 b 86)))
   (vt (wj (vv (wy 0 b (vj (ss 2) vg))))
   (vt (vJ (tw_ninT (ss 1) (A8 0 o.cl o.nB (Cd l) (pv 0) (ww 2 (pv 2))) (by with_unfolding_all rfl))
   (vf<|Ce rfl g)
   vG)
   (vt (vJ (tw_w (Bq (tw_val (vv (wy 0 d 86))) (Az (tw_val (vv (wy 0 d (vj (ss 2) vg)))))))
   (vf<|Ce rfl k)
   vG)
   (vt (vy 3 Sg.nd (wy 0 e (vj (ss 1) (vj (ss 2) vg))))
   (vt (vJ (tw_trueR (v7 3))
   (vf<|YB (i:=3) (α:=Int) rfl c l<|pv 3)
   vG)
   (vt (Ht .ht 0 rfl o.cl x.nH (Cd l) (pv 0) (ww 1 (pv 1)) (ss 2))
   (vf (Ht .th 0 rfl o.cl x.nT (Cd l) (pv 0) (ww 2 (pv 2)) (ss 1))))))))))) λp I y h=>?_
 walk_at "wl"
 obtain⟨t,h⟩:=h;show if (70).isSome=true then _ else y XC 71;by_cases B:(70).isSome=true
 ·rw[gU B]at h ⊢;show if (lk p.1.rk p.2.2.1).isSome=true then _ else y XC 71;by_cases ht:(lk p.1.rk p.2.2.1).isSome=true
  ·rw[gU ht]at h ⊢;refine#[_,Br t.ok ht,?_];by_cases u:p.2.1∈wG p.1 p.2.2.1
   ·rw[gU u]at h;rw[ci<|by simp[u]];show if xv p.1 p.2.1=true then _ else _;by_cases m:xv p.1 p.2.1=true
    ·rw[gU<|.inl m]at h;rw[gU m,gU rfl];exact h
    ·rw[ci m];show if xv p.1 p.2.2.1=true then _ else _;by_cases n:xv p.1 p.2.2.1=true
     ·rw[gU<|.inr n]at h;rw[gU n];exact h
     ·rw[ci<|λz=>z.elim m n]at h;rw[ci n];refine#[t,ht,by simpa using m,by simpa using n,λr l=>?_]
      cases r with
      |nil =>
       rw[ci q0o];have z:hJ=16777216:=i7;exact#[(by show p.1.ht.length<hJ;have:=t.len;lia),(by show p.1.th.length<hJ;have:=t.a0R;lia),h.2<|l rfl]
      |cons a r =>
       rw[gU q0o];exact h.1
   ·rw[ci u]at h;rw[gU<|by simp[u]];exact h
  ·rw[ci ht]at h ⊢;exact h
 ·rw[ci B]at h ⊢;exact h
noncomputable abbrev HY:iB:=Bf (top 26) 21
noncomputable abbrev HZ:List Str:=["self"]
def xN:vm ["self","tail","unmet","low","high","later","ready","told"] HZ (vd HY):=by walk_at "sc"
def OQ:(["tail","unmet"]:List Str).Nodup:=by decide +kernel
abbrev VF(q:Cq)(k:Nat):=zm q C "order" HZ (Nj) k
def Sh(F:y9 q.K "order" "Field.order" HY f fd)(ct:A7 q.K C)(cf:Ph q.K C)(u:J5 q 3)(n:Np q 3)(v:Nq q 3):Gq q 4 f fd HZ (Nj):=by
 refine' vo (wJ (D':=Unit) (ms:=[0]) (j:=7) F xN rfl rfl λab A aa s H E U =>
   (vt (vy 2 xN.nd (OD .ht 0 rfl ct.cl cf.nH rfl (pv 0) rfl q0s rfl q0s rfl) (hx:=uS rfl))
   (vt (wv (is:=[]) (mb:=[0]) (D1:=(Bd C true)×Un×(Dc Int)×Int×Int×Un×Un×Un×Unit) (D2:=(Bd C true)×Un×(Dc Int)×Int×Int×Un×Un×Un×Unit) (vI q0q) xV rfl (wn (vN (Dw 0 u))) (A6 3 4 (Bx rfl (wB (vp (i:=3) xN.nd) (wB (vp (i:=4) xN.nd) zI))) q0q q0q)
   (vf (wv (is:=[]) (mb:=[0]) (D1:=(Bd C true)×Un×(Dc Int)×Int×Int×Int×Un×Un×Unit) (D2:=(Bd C true)×Un×(Dc Int)×Int×Int×Int×Un×Un×Unit) (vI q0q) xV rfl (wn (vN (wy 0 n (vj (ss 3) (vj (ss 4) vg))))) (vF 5 (vp xN.nd))
   (vf (JW 2 (Cd U) (pv 2) (ww 5 (pv 5)) Q0 Pq)) q0q q0q)) q0q q0q)
   (vt (zS (Ts:=["tail"]) (Fr:=["unmet"]) (idx:=[2]) (k:=1) (mb:=[1]) (is:=[]) (cl:=[("unmet",⇑s+1)]) 6 xN.nd rfl rfl rfl q0q rfl (wn (vN (Dw 0 v))) TU rfl (wS rfl) (λJ L C ex pn=>(vF 0 (vp OQ))) (λJ L C ex pn=>(tws_one (tw_cm Af (EU 1 (Cd U) (pv 1) (ss 0)) vi))) (λJ L C ex pn=>(ss 0)))
   (vt (vy 7 xN.nd 105)
   (vt (EN (mb:=[0]) (D2:=(Bd C true)×Int×(Dc Int)×Un×Un×Un×(OL Int)×(OL Int)×Unit) (vI q0q) xV (tw_trueR (v7 6))
   (vt (vy 1 xN.nd (vC (Nb 6 (pv 6) (PV mC o5 o6 PY (pv 6)))))
   (vt (wF 7 (ss 1))
   (vf (wv (is:=[]) (mb:=[0]) (D1:=(Bd C true)×Int×(Dc Int)×Un×Un×Int×(OL Int)×(OL Int)×Unit) (D2:=(Bd C true)×Int×(Dc Int)×Un×Un×Int×(OL Int)×(OL Int)×Unit) (vI q0q) xV rfl (wn (vN (wy 0 n (vj (ss 1) (vj (DT .ht 0 rfl ct.cl cf.nH (Cd U) (pv 0) (ww 1 (pv 1))) vg))))) (vF 5 (vp xN.nd))
   (vt (JW 2 (Cd U) (pv 2) (ww 5 (pv 5)) Q0 Xn)
   (vf (vJ (tw_cm Af (EU 2 (Cd U) (pv 2) (ss 5)) vi)
   (vf<|wF 6<|ss 5)
   vG))) q0q q0q)))) q0q)
   (vf (zc 7 (pv 7))))))))) λp Kn Ke h=>?_
 walk_at "wl"
 obtain⟨g,h⟩:=h;have sl:hJ=16777216:=i7;have W:(v8 p.1).length<=63:=by have e:(v8 p.1).length=p.1.ht.length:=hO _;have:=g.len;lia
 have N:(BI<|v8 p.1).Nodup:=(wO _).nodup_iff.mpr g.nd;refine⟨g.len,g.nd,?_⟩;refine vL (λ(r:List (Int×Int)) (b:B0×WL.Un×Dc Int×WL.Un×WL.Un×WL.Un×WL.Un×WL.Un×Unit)=>b.1=p.1/\b.2.2.1.l.map (·.1)=v8 p.1/\(∀e∈r,e.1∈v8 p.1/\e.2=wh p.1 e.1)/\∀t∈v8 p.1,lk b.2.2.1.l t=↑(cnt p.1 (BI<|v8 p.1) t-cnt p.1 (r.map (·.1)) t)) _ ?_ ?_ ?_
 ·refine#[rfl,?_,λe he=>?_,λt c=>?_]
  ·show ((List.map (λx=>x.1) p.1.ht).map λk=>(k,(0:Int))).map (·.1)=v8 p.1;rw[kF];exact List.map_id' _
  ·obtain⟨l,hl,rfl⟩:=List.mem_map.mp he;exact#[yL.mp hl,rfl]
  ·have e:((BI<|v8 p.1).map λl=>(l,wh p.1 l)).map (·.1)=BI (v8 p.1):=by rw[kF];exact List.map_id' _
   rw[e,Int.sub_self];exact Nl c
 ·rintro⟨l,hd⟩ r;refine FQ λb1 b2 b3 b4 b5 b6 b7 b8 b9=>?_;rintro _ ⟨rfl,j2,j3,R⟩ K hK;have l1:l∈v8 p.1/\hd=wh p.1 l:=j3 (l,hd) gY;have hl:=l1.1;have e2:=l1.2;subst e2;have o:=g.IP hl;refine#[by rw[Br g.ok o];rfl,g.bl o,?_];refine vL (λ(B:List Int)(b:B0×WL.Un×Dc Int×Int×Int×WL.Un×WL.Un×WL.Un×Unit)=>b.1=p.1/\b.2.2.1.l.map (·.1)=v8 p.1/\B.Nodup/\(∀t∈B,t∈v8 p.1)/\∀t∈v8 p.1,lk b.2.2.1.l t=↑(cnt p.1 (BI<|v8 p.1) t-cnt p.1 (r.map (·.1)) t-if t∈B then 1 else 0)) _ ?_ ?_ ?_
  ·refine#[rfl,j2,RY g o,λt c=>(xB.mp c).2.2,λt c=>?_];rw[R t c,iC,cnt_cons,<- Int.sub_sub]
  ·intro G B;refine FQ λc1 c2 O c4 c5 c6 c7 c8 c9=>?_;rintro _ ⟨rfl,D,k3,X,k5⟩ K2 I;have T:=List.nodup_cons.mp k3;have e0:=k5 G<|X G gY;have cl:O.l.length<=63:=by rw[<- hO (f:=(·.1)) (as:=O.l),D];exact W
   refine#[_,e0,by show O.l.length<hJ;lia,I _ #[rfl,(No<|by rw[e0];rfl).trans D,T.2,λt c=>X t<|hI _ c,λt c=>?_]];rw[yG];by_cases q:t=G
   ·rw[gU q,q,gU gY,ci T.1];congr 1;lia
   ·rw[ci q,k5 t c];simp[q]
  ·refine FQ λc1 c2 O c4 c5 c6 c7 c8 c9=>?_;rintro⟨rfl,D,_,_,k5⟩;refine hK _ #[rfl,D,λe he=>j3 e<|hI _ he,λt c=>?_];rw[k5 t c];simp
 ·refine FQ λb1 b2 b3 b4 b5 b6 b7 b8 b9=>?_;rintro⟨rfl,j2,_,R⟩
  have R:∀t∈v8 p.1,lk b3.l t=↑(cnt p.1 (v8 p.1) t):=λt c=>by rw[R t c,o8,J4<|wO<|v8 p.1];unfold cnt;simp
  refine#[g.len,g.nd,?_];refine#[by rw[(wO _).length_eq];lia,?_];refine wK (q:=λt=>decide<|cnt p.1 (v8 p.1) t=0) (λt c K hK=>#[_,R t<|yL.mp c,hK]) ?_
  have P:Kh p.1 b3.l ((BI<|v8 p.1).filter λt=>decide<|cnt p.1 (v8 p.1) t=0) [] []:=by
   have u0:LI p.1 []=v8 p.1:=by unfold LI;simp
   refine#[j2,by rw[nK];exact N.filter _,λt c=>?_,λt c=>?_,λt c _=>?_,λa ha=>ii ha q0o,iG]
   ·rw[nK,ja]at c;exact yL.mp c.1
   ·rw[u0,R t c];simp
   ·rw[u0,ja,yL,iW];simp[c]
  refine#[λm d=>d.1=p.1/\Kh p.1 d.2.2.1.l d.2.2.2.2.2.2.1.l d.2.2.2.2.2.2.2.1.l []/\64<=m+d.2.2.2.2.2.2.2.1.l.length,#[64,rfl,P,q0o],?_];intro m;refine FQ λd1 d2 d3 d4 d5 d6 d7 Q d9=>?_;rintro⟨rfl,M,i2⟩;rcases tP d7.l with e|⟨ys,y,e⟩
  ·rw[ci<|by rw[e];simp];rw[e]at M;exact h _<|M.done g
  ·rw[gU<|by rw[e];simp];rw[tQ]at e;rw[e]at M;have yt:y∈v8 p.1:=M.st y q0o;have o:=g.IP yt;have ln:=M.len g;refine⟨ys,y,e,by show Q.l.length<hJ;lia,_,wM yt,by rw[Br g.ok o];rfl,g.bl o,?_⟩;have K0:=M.pop g;refine vL (λ(B:List Int)(b:B0×Int×Dc Int×WL.Un×WL.Un×WL.Un×OL Int×OL Int×Unit)=>b.1=p.1/\b.2.2.2.2.2.2.2.1.l=Q.l++[y]/\Kh p.1 b.2.2.1.l b.2.2.2.2.2.2.1.l (Q.l++[y]) B/\B.Nodup/\∀t∈B,t∈v8 p.1/\t∉Q.l++[y]) _ ?_ ?_ ?_
   ·refine#[rfl,rfl,K0,RY g o,λt c=>#[(xB.mp c).2.2,λz=>?_]];rcases List.mem_append.mp z with z|z
    ·have yn:y∉Q.l:=λw=>(List.nodup_append.mp M.nd).2.2 y w y q0o rfl;exact M.bk t z y yt yn c
    ·exact(xB.mp c).2.1<|List.mem_singleton.mp z
   ·intro G B;refine FQ λc1 c2 O c4 c5 c6 c7 c8 c9=>?_;rintro _ ⟨rfl,Y,D,k3,X⟩ K2 I;have T:=List.nodup_cons.mp k3;have x1:=X G gY;have hv:=D.ct G x1.1;have S:=D.step x1.1 x1.2 T.1 hv;have ae:=D.len g;refine#[_,hv,by show O.l.length<hJ;lia,_,by rw[yG,gU rfl],?_];have Z:∀t∈B,t∈v8 p.1/\t∉Q.l++[y]:=λt c=>X t<|hI _ c;by_cases w:(cnt p.1 (LI p.1<|Q.l++[y]) G+if G∈G::B then 1 else 0)-1=0
    ·rw[gU<|decide_eq_true w];rw[gU w]at S;exact#[by show c7.l.length<hJ;lia,I _ #[rfl,Y,S,T.2,Z]]
    ·rw[ci<|by simpa using w];rw[ci w]at S;exact I _ #[rfl,Y,S,T.2,Z]
   ·refine FQ λc1 c2 O c4 c5 c6 c7 c8 c9=>?_;rintro⟨rfl,Y,D,_,_⟩;exact#[m-1,q0a,rfl,by rw[Y];exact D,by rw[Y,ig,iw];lia]
end
structure Pl(l:List Int):Prop where
 ri:wX l
 lt:∀c∈l,0<=c/\c<63
def Pl.xr(d:Pl a)(e:Pl b):Pl (xr a b):=#[wY d.ri,λc f=>(EI (vr e.ri) f).elim (d.lt c)<|e.lt c]
def Pl.mem(b:Pl a):∀k∈a,k∈yY 0 63:=λk c=>zW (b.lt k c).1 (b.lt k c).2
def Nr:Wf (List Int×List Int×Unit) (OL Int) 130:=λp a _=>Pl p.1/\Pl p.2.1/\a #[xr p.1 p.2.1] 94
def J9(h:wX row)(k:a () (#[],())):D6 XS (row,()) a b:=#[λ_=>k,λz=>by
 rw[(zd row).mpr h]at z
 cases z]
section
variable{x:B0}
def Bi.Zm(a:Bi x){c:Int}(h:(lk x.rk c).isSome=true):Pl (wG x c):=#[(a.ok.bo c _<|Br a.ok h).1,(a.ok.bo c _<|Br a.ok h).2]
def YO{t h:Int}(d:t∈f h):∀{T:List Int},T.Nodup->(∀a∈T,a≠h->t∉f a)->Sf f t T=decide (h∈T):=by
 intro e
 induction e with
 |nil=>intro _ _;exact rfl
 |cons c T b =>
  intro n k;have n:=List.nodup_cons.mp n;show xor (decide<|t∈f c) (Sf f t T)=_;rw[b n.2 λa m=>k a<|hI _ m];by_cases q:c=h
  ·subst q;simp[d,n.1]
  ·have:=k c gY q;simp[this,Ne.symm q]
def Si(g:Bi x):∀{q T acc:List Int},q.Nodup->(∀t∈q,t∈v8 x)->(q.Pairwise λa b=>a∉Cv x b (wh x b))->wX T->(∀h∈T,∃t∈q,wh x t=h)->(q.foldl (C6 x) (wg (wG x) T,acc)).2.Perm (acc++T):=by
 intro M
 induction M with
 |nil =>
  intro T acc _ _ _ _ n
  cases T with
  |nil=>simp
  |cons h r=>obtain⟨t,z,_⟩:=n h gY;cases z
 |cons t q p =>
  intro T acc B C s o n;have B:=List.nodup_cons.mp B;have s:=List.pairwise_cons.mp s;have E:=C t gY;have F:=(g.ht t _<|wM E).2.2.1
  have N:∀a∈v8 x,∀b∈v8 x,wh x a=wh x b->a=b:=λa O b F e=>by have D:=(g.ht a _<|wM O).2.2.2;have P:=(g.ht b _<|wM F).2.2.2;rw[e,P]at D;injection D with D;exact D.symm
  have I:∀c∈T,(wG x c).Nodup:=λc u=>by obtain⟨d,m,e⟩:=n c u;rw[<- e];exact vr (g.Zm<|g.IP<|C d m).ri
  have v:t∈wg (wG x) T↔wh x t∈T:=by
   have:=wV (f:=wG x) (x:=t) (l:=T) I;rw[YO F (vr o) λQ m R z=>?_]at this
   ·exact decide_eq_decide.mp this
   ·obtain⟨d,y,e⟩:=n Q m;have J:d≠t:=λw=>R (by rw[<- e,w]);have S:d∈q:=(List.mem_cons.mp y).elim (λw=>ii w J) id;refine s.1 d S<|xB.mpr #[?_,Ne.symm J,E];rw[e];exact z
  rw[mE];unfold C6;by_cases A:wh x t∈T
  ·rw[gU<|v.mpr A];have U:wX [wh x t]:=jH _ _;have G:=g.Zm (g.IP E)
   have W:wg (wG x) [wh x t]=wG x (wh x t):=AD (vZ _ _) G.ri λk=>by rw[wV<|λc u=>by rw[List.mem_singleton.mp u];exact vr G.ri];show xor (decide<|k∈wG x (wh x t)) false=_;rw[oi]
   have L:=Cf (f:=wG x) o U I (λc u=>by rw[List.mem_singleton.mp u];exact vr G.ri);rw[W]at L;rw[<- L]
   have i:∀k,k∈xr T [wh x t]↔k∈T/\k≠wh x t:=λk=>by
    rw[zk q0o,kJ];by_cases z:k=wh x t
    ·subst z;simp[A]
    ·simp[z]
   have X:=p (T:=xr T [wh x t]) (acc:=acc++[wh x t]) B.2 (λk H=>C k<|hI _ H) s.2 (wY o) λh j=>by have j:=(i h).mp j;obtain⟨d,y,e⟩:=n h j.1;refine#[d,(List.mem_cons.mp y).elim (λw=>ii (by rw[<- e,w]) j.2) id,e]
   refine X.trans ?_;rw[lQ];refine oO acc<|wC (List.nodup_cons.mpr ⟨λz=>((i _).mp z).2 rfl,vr<|wY o⟩) (vr o) λk=>?_;show k∈wh x t::xr T [wh x t]↔_;rw[iD,i];by_cases z:k=wh x t
   ·subst z;simp[A]
   ·simp[z]
  ·rw[ci λz=>A<|v.mp z]
   exact p B.2 (λk H=>C k<|hI _ H) s.2 o λh j=>by obtain⟨d,y,e⟩:=n h j;exact#[d,(List.mem_cons.mp y).elim (λw=>ii j<|by rw[<- e,w];exact A) id,e]
def GJ(h:∀c∈row,c∉v8 x):∀{o:List Int},(∀t∈o,t∈v8 x)->o.foldl (C6 x) (row,a)=(row,a)
 | [],_=>rfl
 |t::o,k=>by
  rw[mE];have:C6 x (row,a) t=(row,a):=by unfold C6;rw[ci λz=>h t z<|k t gY]
  rw[this];exact GJ h λt b=>k t<|hI _ b
end
def Fe :B0×List Int×Unit->(OL Int->B0×WL.Un×Unit->Prop)->(gV->B0×WL.Un×Unit->Prop)->Prop:=λp a b =>
 Bi p.1/\Pl p.2.1/\if wW p.1 p.2.1=true then (∀o,Ord p.1 o->a #[BI (o.foldl (C6 p.1) (p.2.1,[])).2] 65) else b XC 65
def H0 :B0×Int×Unit->(Unit->B0×WL.Un×Unit->Prop)->(gV->B0×WL.Un×Unit->Prop)->Prop:=λp a b=>xv p.1 p.2.1=false/\HH p a b
abbrev VG(q:Cq)(k:Nat):=zm q C "take" AQ (H0) k
section
variable{x:B0}
def xR{x:Int}(c:wX b):decide (x∈xr a b)=xor (decide<|x∈a) (decide<|x∈b):=by have e:=zk (l:=a) (x:=x)<|vr c;by_cases p:x∈a<;>by_cases q:x∈b<;>simp[p,q,e]
def YQ(f:wX a)(d:wX b)(h:xr a b=[]):a=b:=AD f d λx=>by have e:=xR (a:=a) (x:=x) d;rw[h]at e;generalize decide (x∈a)=p at e ⊢;generalize decide (x∈b)=q at e ⊢;cases p<;>cases q<;>simp at e<;>rfl
structure Fl(x:B0)(row h:List Int):Prop where
 ri:wX h
 hs:∀k∈h,∃t∈v8 x,wh x t=k
 nt:∀t∈v8 x,t∉xr row (wg (wG x) h)
 od:∃o,Ord x o
def Cz(ok:Bi x){h:List Int}(a:∀k∈h,∃t∈v8 x,wh x t=k):∀c∈h,(wG x c).Nodup:=λc b=>by obtain⟨t,m,e⟩:=a c b;rw[<- e];exact vr (ok.Zm<|ok.IP m).ri
def Nt(d:Bi x)(f:∃o,Ord x o)(g:wX h)(i:∀k∈h,∃t∈v8 x,wh x t=k)(j:∀t∈v8 x,t∉wg (wG x) h):h=[]:=by
 obtain⟨o,a⟩:=f
 have p:=Si d (q:=o) (T:=h) (acc:=[]) (a.pm.nodup_iff.mpr d.nd) (λt b=>a.pm.mem_iff.mp b) a.up g λk l=>by obtain⟨t,m,e⟩:=i k l;exact#[t,a.pm.mem_iff.mpr m,e]
 rw[GJ (λc n z=>j c z n) λt b=>a.pm.mem_iff.mp b]at p;exact(List.nil_perm.mp p).trans rfl
def Sj(c:wX b)(d:∀k∈a,∃t∈v8 x,wh x t=k)(e:∀k∈b,∃t∈v8 x,wh x t=k):∀k∈xr a b,∃t∈v8 x,wh x t=k:=λk f=>(EI (vr c) f).elim (d k)<|e k
def Fl.add(d:Bi x)(k:wX c)(f:Fl x e h)(g:Fl x c i):Fl x (xr e c) (xr h i):=#[wY f.ri,Sj g.ri f.hs g.hs,λt j=>by
 have a:=ik<|f.nt t j;have b:=ik<|g.nt t j;rw[xR<|vZ _ _]at a b;refine lS ?_;rw[xR<|vZ _ _,Cf f.ri g.ri (Cz d f.hs)<|Cz d g.hs,xR k,xR<|vZ _ _];revert a b;generalize decide (t∈e)=p;generalize decide (t∈c)=q;generalize decide (t∈wg (wG x) h)=l;generalize decide (t∈wg (wG x) i)=m
 cases p<;>cases q<;>cases l<;>cases m<;>simp,f.od]
def Fl.uni(c:Bi x)(f:Fl x r d)(g:Fl x r e):d=e:=by refine YQ f.ri g.ri<|Nt c f.od (wY f.ri) (Sj g.ri f.hs g.hs) λt h=>lS ?_;have a:=ik<|f.nt t h;have b:=ik<|g.nt t h;rw[xR<|vZ _ _]at a b;rw[Cf f.ri g.ri (Cz c f.hs)<|Cz c g.hs,xR<|vZ _ _];revert a b;generalize decide (t∈r)=p;generalize decide (t∈wg (wG x) d)=i;generalize decide (t∈wg (wG x) e)=j;cases p<;>cases i<;>cases j<;>simp
def VH(l:Bi x):∀{q R acc:List Int},q.Nodup->(∀t∈q,t∈v8 x)->(q.Pairwise λa b=>a∉Cv x b (wh x b)) ->
  ∃d,(q.foldl (C6 x) (R,acc)).2=acc++d/\d.Nodup/\(∀k∈d,∃t∈q,wh x t=k)/\∀t∈q,xor (decide<|t∈R) (Sf (wG x) t d)=false:=by
 intro q
 induction q with
 |nil=>exact λ_ _ _=>#[[],(ko _).symm,mU,(λk z=>by cases z),λt z=>by cases z]
 |cons t q C =>
  intro R acc g D m;have g:=List.nodup_cons.mp g;have m:=List.pairwise_cons.mp m;have n:=D t gY;have f:∀s∈q,s∈v8 x:=λs d=>D s<|hI _ d;have F:=(l.ht t _<|wM n).2.2.1;have G:=(l.Zm<|l.IP n).ri
  have E:∀{d:List Int},(∀k∈d,∃s∈q,wh x s=k)->Sf (wG x) t d=false:=λ{d} h=>by
   induction d with
   |nil=>rfl
   |cons k d r =>
    show xor (decide<|t∈wG x k) (Sf (wG x) t d)=false;rw[r λj H=>h j<|hI _ H,oi];obtain⟨s,c,e⟩:=h k gY;refine ik λz=>m.1 s c<|xB.mpr ⟨by rw[e];exact z,λw=>g.1 (by rw[w];exact c),n⟩
  by_cases o:t∈R
  ·have u:C6 x (R,acc) t=(xr R<|wG x<|wh x t,acc++[wh x t]):=gU o;rw[mE,u];obtain⟨d,v,y,i,A⟩:=C (R:=xr R<|wG x<|wh x t) (acc:=acc++[wh x t]) g.2 f m.2;refine⟨wh x t::d,by rw[v,lQ];rfl,List.nodup_cons.mpr ⟨λz=>?_,y⟩,λk B=>?_,λs c=>?_⟩
   ·obtain⟨s,c,e⟩:=i _ z;have I:=(l.ht t _<|wM n).2.2.2;have p:=(l.ht s _<|wM<|f s c).2.2.2;rw[e,I]at p;injection p with p;exact g.1 (by rw[p];exact c)
   ·rcases List.mem_cons.mp B with z|z
    ·exact#[t,gY,z.symm]
    ·obtain⟨s,c,e⟩:=i k z;exact#[s,hI _ c,e]
   ·show xor (decide<|s∈R) (xor (decide<|s∈wG x (wh x t))<|Sf (wG x) s d)=false;rcases List.mem_cons.mp c with z|z
    ·rw[z,E i,decide_eq_true o,decide_eq_true F];rfl
    ·have:=A s z;rw[xR G,lZ]at this;exact this
  ·have u:C6 x (R,acc) t=(R,acc):=ci o;rw[mE,u];obtain⟨d,v,y,i,A⟩:=C (R:=R) (acc:=acc) g.2 f m.2;refine#[d,v,y,λk B=>?_,λs c=>?_]
   ·obtain⟨s,c,e⟩:=i k B;exact#[s,hI _ c,e]
   ·rcases List.mem_cons.mp c with z|z
    ·rw[z,E i,ik o];rfl
    ·exact A s z
def YR(b:Bi x)(a:Ord x o):Fl x row (BI (o.foldl (C6 x) (row,[])).2):=by
 obtain⟨c,g,h,i,j⟩:=VH b (q:=o) (R:=row) (acc:=[]) (a.pm.nodup_iff.mpr b.nd) (λt d=>a.pm.mem_iff.mp d) a.up;rw[g,nK]
 have f:∀k∈BI c,∃t∈v8 x,wh x t=k:=λk l=>by obtain⟨t,m,e⟩:=i k<|yL.mp l;exact#[t,a.pm.mem_iff.mp m,e]
 refine#[QV (A1 _)<|(wO c).nodup_iff.mpr h,f,λt d=>lS ?_,o,a];rw[xR<|vZ _ _,wV<|Cz b f,Hv<|wO c];exact j t<|a.pm.mem_iff.mpr d
end
section
variable{q:Cq}{XL:gV}
noncomputable abbrev Ia:iB:=top 17
noncomputable abbrev Ib:List Str:=["one","other"]
def Sk:vm ["one","other"] Ib (vd Ia):=by walk_at "sc"
abbrev VI(q:Cq)(k:Nat):=xt q "added" Ib Nr k
def Sl(F:CZ q "added" Ia f e)(a:xt q "must_be_sum" ["row"] (D6 XS) 2)(B:Bn q.mg):Gq q 3 f e Ib Nr:=by
 refine' vo (wJ (D':=Unit) (ms:=[]) (j:=0) F Sk rfl rfl λg A b s H E k =>
   (vt (wj (vv (vA a (vj (ss 0) vg))))
   (vt (wj (vv (vA a 86)))
   (vf (vw (Vd 0 1 rfl rfl B.sorted rfl B.set (pv 0) (pv 1))))))) λp l m h=>?_
 walk_at "wl"
 obtain⟨c,d,i⟩:=h;exact J9 c.ri<|J9 d.ri #[#[c.ri,d.ri,yY 0 63,by rw[w8];decide,c.mem,d.mem],i]
noncomputable abbrev Ff:iB:=top 20
noncomputable abbrev Fh:List Str:=["field","row"]
def yR:vm ["field","row","rest","heads","tail","head"] Fh (vd Ff):=by walk_at "sc"
abbrev Sn(q:Cq)(k:Nat):=xt q "filled" Fh (Fe) k
def OR(F:CZ q "filled" Ff f Q)(ct:A7 q.K C)(g:VI q 4)(a:AM q 4)(i:VF q 4)(c:OP q 4)(d:J2 q 4)(B:Bn q.mg):Gq q 5 f Q Fh (Fe):=by
 refine' vo (wJ (D':=Unit) (ms:=[0]) (j:=4) F yR rfl rfl λR A y s H E hr =>
   (vt (wj (vv (wy 0 a 86)))
   (vt (vy 2 yR.nd (DP rfl B.list (vY (ss 1))))
   (vt (vy 3 yR.nd 105)
   (vt (wv (is:=[]) (mb:=[0]) (D1:=(Bd C true)×(List Int)×(OL Int)×(OL Int)×Int×Un×Unit) (D2:=(Bd C true)×(List Int)×(OL Int)×(OL Int)×Int×Un×Unit) (vI q0q) xV rfl (wn (vN (Dw 0 i))) (vF 4 (vp yR.nd))
   (vf (vJ (tw_cmI MW (ss 4) (v7 2) (by with_unfolding_all rfl))
   (JC (D':=(Bd C true)×(List Int)×(OL Int)×(OL Int)×Int×Un×Unit) (vt (vy 5 yR.nd (wy 0 c (vj (ss 4) vg)))
   (vt (wF 3 (yF (ss 5)))
   (vf (vy 2 yR.nd (vA g (vK 2 (vj (vN (wy 0 d (vj (yF (ss 5)) vg))) vg))))))))
   vG)) q0q q0q)
   (vf (vw (CU rfl B.sorted (v7 3))))))))) λp Kn L h=>?_
 walk_at "wl"
 obtain⟨n,M,h⟩:=h;show if asc p.2.1=true then (if wW p.1 p.2.1=true then _ else L XC 65) else L XS 65;rw[gU<|(zd p.2.1).mpr M.ri];by_cases N:wW p.1 p.2.1=true
 ·rw[gU N]at h ⊢;refine#[n,λo z=>?_]
  have S:o.length<=63:=by rw[z.pm.length_eq];have e:(v8 p.1).length=p.1.ht.length:=hO _;have:=n.len;lia
  refine vL (λ(r:List Int)(b:B0×List Int×OL Int×OL Int×WL.Un×WL.Un×Unit)=>b.1=p.1/\Pl b.2.2.1.l/\(∀t∈r,t∈v8 p.1)/\b.2.2.2.1.l.length+r.length<=63/\r.foldl (C6 p.1) (b.2.2.1.l,b.2.2.2.1.l)=o.foldl (C6 p.1) (p.2.1,[])) _ #[rfl,M,λt D=>z.pm.mem_iff.mp D,by simpa using S,rfl] ?_ ?_
  ·intro t r;refine a0k λT U O v W X Y=>?_;rintro _ ⟨rfl,w,G,I,m⟩ K P;have x:=G t gY;have u:∀t∈r,t∈v8 p.1:=λt D=>G t<|hI _ D;rw[iz]at I;rw[mE]at m;unfold C6 at m;by_cases q:t∈O.l
   ·rw[gU<|decide_eq_true q];rw[gU q]at m;have J:=n.IP x;have Z:(lk p.1.rk t).isSome=true:=(n.ht t _<|wM x).1;have sl:hJ=16777216:=i7;show if (lk p.1.rk t).isSome=true then _ else _;rw[gU Z];refine#[_,wM x,by show v.l.length<hJ;lia,_,wM x,n.ok,?_];rw[gU J];refine#[w,n.Zm J,P _ #[rfl,w.xr<|n.Zm J,u,?_,m]];rw[ig,iw];lia
   ·rw[ci<|by simpa using q];rw[ci q]at m;exact P _ #[rfl,w,u,by show v.l.length+r.length<=63;lia,m]
  ·refine a0k λT U O v W X Y=>?_;rintro⟨rfl,w,G,I,m⟩;have k:=h o z;rw[<- m]at k;exact#[by show v.l.length<64;simp at I;lia,k]
 ·rw[ci N]at h ⊢;exact h
end
noncomputable abbrev LP:iB:=top 30
abbrev yW:=WR
abbrev RW:=Option<|Int×List Int
noncomputable def rowAt(a:List RW)(k:Int):RW:=if 0<=k then (a[k.toNat]?).join else none
noncomputable def eb(a:List RW)(k:Int):List Int:=((rowAt a k).map (·.2)).getD []
structure Vr(rows:List RW):Prop where
 ok:∀k r e,rowAt rows k=↑(r,e)->0<=r/\r<=12/\wX e/\(∀c∈e,c<k/\∃e',rowAt rows c=↑(r-1,e'))/\wg (eb rows) e=[]
 ln:rows.length<=60
 sm:∀k r e,rowAt rows k=↑(r,e)->∀c∈e,c<35
def Lp(a:List RW)(q:Int×List Int):Prop:=wX q.2/\(∀c∈q.2,∃e,rowAt a c=↑(q.1,e))/\wg (eb a) q.2=[]
noncomputable def CA(a:List RW):List Int:=(yY 0 a.length).filter λk=>(rowAt a k).isSome
noncomputable def CG:List RW:=[↑(0,[]),↑(0,[]),↑(0,[]),↑(0,[]),↑(1,[0,1]),↑(1,[0,2]),↑(1,[0,3]),↑(1,[1,2]),↑(1,[1,3]),↑(1,[2,3]),↑(2,[4,5,7]),↑(2,[4,6,8]),↑(2,[5,6,9]),↑(2,[7,8,9]),↑(3,[10,11,12,13])]
def Ic:Wf (Bg×Unit) Int (Bg×Unit):=λp a _=>∀r,0<=r->r<=12->a r (#[],())
def Ie:Wf (List Int×List Int×Unit) (OL Int) 130:=λp a _=>(p.1.length<=1000/\p.2.1.length<=1000/\(p.1.filter λk=>!decide (k∈p.2.1)).length+(p.2.1.filter λk=>!decide (k∈p.1)).length<64)/\a #[jn p.1 p.2.1] 94
def LQ:Wf (List RW×Unit) (OL Int) (WL.Un×Unit):=λp a _=>p.1.length<1000/\a #[CA p.1] (#[],())
def LR:Wf (Bg×List Int×Unit) (OL Int) (Bg×WL.Un×Unit):=λp a _=>p.2.1.length<60/\∀l,wX l->(∀x∈l,x∈p.2.1)->a #[l] 94
def LS:Wf (List RW×List Int×Unit) (OL Int) 130:=λp a _=>Vr p.1/\(∀c∈p.2.1,(rowAt p.1 c).isSome=true)/\a #[wg (eb p.1) p.2.1] 94
def Ig:Wf (Int×Unit) Bool (WL.Un×Unit):=λp a _=>a true (#[],())
def So:Wf (List Int×Unit) Bool (WL.Un×Unit):=λp a _=>a true (#[],())
def LU:Wf (List Int×List Int×Unit) Bool 130:=λp a _=>a (decide<|p.1=p.2.1) 94
def Nu:Wf (Int×Unit) (OL RW) (WL.Un×Unit):=λp a _=>0<=p.1/\a #[CG.take p.1.toNat] (#[],())
def A9:Wf (OL RW×OL 90×Int×Bg×Unit) (OL Int) (OL RW×OL 90×WL.Un×Bg×Unit):=λp a _ =>
 Vr p.1.l/\p.1.l.length<=34/\p.2.1.l.length<=100/\(∀q∈p.2.1.l,Lp p.1.l q)/\0<=p.2.2.1/\p.2.2.1<=12 /\
 ∀e q,Vr (p.1.l++[↑(p.2.2.1,e)])->(∀u∈p.2.1.l++q,Lp (p.1.l++[↑(p.2.2.1,e)]) u)->q.length<=1->a #[e] (p.1,#[p.2.1.l++q],#[],#[],())
def Sq:Wf (Bg×Int×Unit) (OL RW) (Bg×WL.Un×Unit):=λp b _=>(0<=p.2.1/\p.2.1<=20)/\∀a,Vr a->a.length<=35->b #[a] 94
structure yh(x:B0)(rows:List RW):Prop where
 up:x.up=rows.length
 rk:∀k,lk x.rk k=(107).map (·.1)
 bd:∀k,lk x.bd k=(107).map (·.2)
 ks:x.rk.map (·.1)=CA rows
 lb:x.bd.length<=rows.length
def Sr :B0×List RW×Unit->(B0->WL.Un×WL.Un×Unit->Prop)->(gV->WL.Un×WL.Un×Unit->Prop)->Prop:=λp a _=>p.1=#[[],[],0,[],[]]/\Vr p.2.1/\∀x:B0,yh x p.2.1->x.ht=[]->x.th=[]->a x 94
def Ih:Wf (Bool×Bool×Unit) Bool 130:=λp a _=>a (decide<|p.1=p.2.1) 94
def CB :B0×List RW×Unit->(Bool->B0×WL.Un×Unit->Prop)->(gV->B0×WL.Un×Unit->Prop)->Prop:=λp a _=>yh p.1 p.2.1/\Vr p.2.1/\a true 65
def yB{b:Type}{l:List b}{i:Int}(c:0<=i)(d:i<(l.length:Int)):∃x,FH l i=↑x/\l[i.toNat]?=↑x/\x∈l:=by
 have a:i.toNat<l.length:=by lia
 have e:l[i.toNat]?=↑l[i.toNat]:=jD a;have:=MK e;rw[show ((i.toNat:Nat):Int)=i by lia]at this;exact#[_,this,e,uU a]
def Ii{n k:Int}(h:k∈yY 0 n):0<=k/\k<n:=by
 unfold yY at h;obtain⟨i,a,e⟩:=List.mem_map.mp h;have:=List.mem_range.mp a
 lia
def vz{k:Int}(h:rowAt rows k=↑y):0<=k/\k<(rows.length:Int)/\rows[k.toNat]?=↑(some y)/\FH rows k=↑(some y):=by
 unfold rowAt at h;by_cases a:0<=k
 ·rw[gU a]at h
  cases e:rows[k.toNat]? with
  |none=>rw[e]at h;cases h
  |some z =>
   rw[e]at h;have h:z=↑y:=h;subst h;have f:=(List.getElem?_eq_some_iff.mp e).1;have b:k<(rows.length:Int):=by omega
   obtain⟨x,d,c,_⟩:=yB a b;rw[e]at c;cases c;exact#[a,b,rfl,d]
 ·rw[ci a]at h;cases h
def Fi{k:Int}(a:0<=k)(e:rows[k.toNat]?=↑z):rowAt rows k=z:=by unfold rowAt;rw[gU a,e];rfl
def Vr.Ss(v:Vr rows){k:Int}(h:rowAt rows k=↑y):wX y.2/\∀x∈y.2,x∈yY 0 35:=by obtain⟨_,_,b,c,_⟩:=v.ok k y.1 y.2 h;refine#[b,λx a=>?_];obtain⟨_,f,d⟩:=c x a;obtain⟨e,g,_⟩:=vz d;exact zW e<|v.sm k y.1 y.2 h x a
def yX{k:Int}(h:rowAt rows k=↑y):eb rows k=y.2:=by unfold eb;rw[h];rfl
def YS(a:List b){n:Int}(h:0<=n):FO a none ↑n=a.take n.toNat:=by unfold FO;rw[show ↑n=some ((n.toNat:Nat):Int) by rw[show ((n.toNat:Nat):Int)=n by lia],HT.MF,HT.Jk];simp
def wZ{n:Int}(a:0<n)(b:n<1073741824)(h:∀r,0<=r->r<n->c r 94):yW (g,n,()) c d:=#[a,b,h]
def wo:rowAt (rows++[z]) (rows.length:Int)=z:=by refine Fi q0a ?_;rw[lU,j5<|gZ _,qR];rfl
def wH{a:List RW}{k:Int}(h:k≠(a.length:Int)):rowAt (a++[z]) k=rowAt a k:=by
 unfold rowAt;by_cases b:0<=k
 ·rw[gU b,gU b];by_cases c:k.toNat<a.length
  ·rw[ml c]
  ·rw[kP (by rw[ig,iw];lia),kP q0a]
 ·rw[ci b,ci b]
def Ij{a:List RW}{k:Int}(h:k≠(a.length:Int)):eb (a++[z]) k=eb a k:=by unfold eb;rw[wH h]
def yy{k:Int}(h:rowAt rows k=↑y):k≠(rows.length:Int):=λz=>by
 have:=(vz h).2.1
 lia
def Ik(v:Vr rows)(p:rows.length<=35)(m:∀r e,z=↑(r,e)->0<=r/\r<=12/\wX e/\(∀c∈e,∃g,rowAt rows c=↑(r-1,g))/\wg (eb rows) e=[]):Vr (rows++[z]):=by
 refine#[λk r e h=>?_,by rw[ig,iw];lia,λk r e h c n=>?_]
 rotate_left
 ·by_cases q:k=(rows.length:Int)
  ·rw[q,wo]at h;obtain⟨g,i⟩:=(m r e h).2.2.2.1 c n;have:=(vz i).2.1
   lia
  ·rw[wH q]at h;exact v.sm k r e h c n
 have j:∀{k r e},0<=r/\r<=12/\wX e/\(∀c∈e,c<k/\∃g,rowAt rows c=↑(r-1,g))/\wg (eb rows) e=[]->0<=r/\r<=12/\wX e/\(∀c∈e,c<k/\∃g,rowAt (rows++[z]) c=↑(r-1,g))/\wg (eb<|rows++[z]) e=[]:=λ{k r e} ⟨a,b,c,d,f⟩=>by
  refine#[a,b,c,λx l=>?_,?_]
  ·obtain⟨o,g,i⟩:=d x l;exact#[o,g,by rw[wH<|yy i];exact i]
  ·rw[<- f];refine xY λx l=>?_;obtain⟨_,g,i⟩:=d x l;exact Ij<|yy i
 by_cases q:k=(rows.length:Int)
 ·rw[q,wo]at h;obtain⟨a,b,c,d,f⟩:=m r e h;refine j #[a,b,c,λx l=>?_,f];obtain⟨g,i⟩:=d x l;exact#[by have:=(vz i).2.1;lia,g,i]
 ·rw[wH q]at h;exact j<|v.ok k r e h
def Fj(h:Lp rows u):Lp (rows++[z]) u:=by
 obtain⟨a,b,c⟩:=h;refine#[a,λx d=>?_,?_]
 ·obtain⟨e,q⟩:=b x d;exact#[e,by rw[wH<|yy q];exact q]
 ·rw[<- c];refine xY λx d=>?_;obtain⟨e,q⟩:=b x d;exact Ij<|yy q
def Su{r:Int}:Lp (rows++[↑(r,[])]) (r,[(rows.length:Int)]):=by
 refine#[jH _ _,λx a=>#[[],?_],?_]
 ·rw[List.mem_singleton.mp a,wo]
 ·show xr [] (eb (rows++[↑(r,[])]) (rows.length:Int))=[];rw[yX (y:=(r,[])) wo];rfl
def VJ(h:wX e):xr e e=[]:=Ho (wY h) iG λk=>by rw[zk<|vr h];by_cases q:k∈e<;>simp[q]
def OS{c:Int}:wg f (l++[c])=xr (wg f l) (f c):=by unfold wg Pg;rw[ku,List.foldl_append];rfl
def OT{r:Int}(v:Vr rows)(p:wX l)(h:∀c∈l,∃e,rowAt rows c=↑(r,e)) :
  (∀c∈wg (eb rows) l,∃n,rowAt rows c=↑(r-1,n))/\wg (eb rows) (wg (eb rows) l)=[]/\Lp (rows++[↑(r,wg (eb rows) l)]) (r,l++[(rows.length:Int)]):=by
 have m:∀c∈l,wX (eb rows c)/\(∀d∈eb rows c,∃n,rowAt rows d=↑(r-1,n))/\wg (eb rows) (eb rows c)=[]:=λc i=>by obtain⟨e,j⟩:=h c i;obtain⟨_,_,a,b,f⟩:=v.ok c r e j;rw[yX j];exact#[a,λd k=>(b d k).2,f]
 have s:∀{d q},rowAt rows d=↑q->(eb rows d).Nodup:=λ{d q} k=>by rw[yX k];exact vr (v.Ss k).1
 refine#[λc i=>?_,Ot λc i=>#[(m c i).1,λd k=>?_,(m c i).2.2],?_,λx o=>?_,?_]
 ·obtain⟨d,k,o⟩:=ES (λc i=>vr (m c i).1) i;exact(m d k).2.1 c o
 ·obtain⟨n,q⟩:=(m c i).2.1 d k;exact s q
 ·refine List.pairwise_append.mpr #[p,jH _ _,λa t b u=>?_];obtain⟨e,j⟩:=h a t;rw[List.mem_singleton.mp u];exact(vz j).2.1
 ·rcases List.mem_append.mp o with z|z
  ·obtain⟨e,j⟩:=h x z;exact#[e,by rw[wH<|yy j];exact j]
  ·rw[List.mem_singleton.mp z];exact#[_,wo]
 ·show wg _ (l++[(rows.length:Int)])=[];rw[OS,yX (y:=(r,wg (eb rows) l)) wo,xY (g:=eb rows) λc i=>?_]
  ·exact VJ<|vZ _ _
  ·obtain⟨e,j⟩:=h c i;exact Ij<|yy j
def Lp.sub{a:List RW}(c:a.length<=35)(h:Lp a u):∀x∈u.2,x∈yY 0 35:=λx b=>by obtain⟨e,q⟩:=h.2.1 x b;have:=vz q;exact zW q0a q0a
def xo{k:Int}:k∈CA rows↔(107).isSome=true:=by unfold CA;rw[ja];refine#[λh=>h.2,λh=>#[?_,h]];obtain⟨y,a⟩:=Option.isSome_iff_exists.mp h;have:=vz a;exact zW this.1 this.2.1
def xO(a:List RW):(CA a).length<=a.length:=by
 have:=iI (λk=>(rowAt a k).isSome)<|yY 0 a.length;rw[w8]at this;unfold CA
 lia
def Nv(c:List RW):wX (CA c):=by
 refine jQ _ ?_;unfold yY;rw[List.pairwise_map];refine pr ?_<|sR;intro a b h
 lia
def Sv(n:Nat):yY 0 ((n+1:Nat):Int)=yY 0 (n:Int)++[(n:Int)]:=by unfold yY;rw[show (((n+1:Nat):Int)-0).toNat=n+1 by lia,show ((n:Int)-0).toNat=n by lia,List.range_succ,ku];simp
def VL:CA (rows++[z])=CA rows++if z.isSome=true then [(rows.length:Int)] else []:=by
 unfold CA;rw[ig,iw,Sv,uC];congr 1
 ·refine oF λk a=>?_;rw[wH (by have:=Ii a;lia)]
 ·rw[jk,wo];rfl
def Sw:CA (rows++[↑y])=CA rows++[(rows.length:Int)]:=VL
def GK{a:List RW}{k:Int}(h:(a.length:Int)<=k):rowAt a k=none:=by
 cases e:rowAt a k with
 |none=>rfl
 |some y=>have:=(vz e).2.1;omega
def Df{a:List RW}{j k:Int}(c:0<=j):rowAt (a.set j.toNat none) k=if k=j then none else rowAt a k:=by
 by_cases q:k=j
 ·rw[gU q,q];unfold rowAt;rw[gU c];by_cases d:j.toNat<a.length
  ·rw[o7 d];rfl
  ·rw[kP<|by rw[mD];lia];rfl
 ·rw[ci q];unfold rowAt;by_cases b:0<=k
  ·rw[gU b,gU b,nC q0a]
  ·rw[ci b,ci b]
def Sy{a:List RW}{j:Int}(b:0<=j):CA (a.set j.toNat none)=(CA a).filter λk=>!decide (k=j):=by unfold CA;rw[mD,List.filter_filter];refine oF λk _=>?_;rw[Df b];by_cases q:k=j<;>simp[q]
section
variable{x:B0}{rows:List RW}
def yh.lr(c:yh x rows):x.rk.length<=rows.length:=by have:=congrArg oA c.ks;rw[hO]at this;rw[this];exact xO rows
def yh.okb(c:yh x rows)(v:Vr rows):RH x:=by
 have l:=v.ln;have g:=c.lr;have i:=c.lb;refine#[λk h=>?_,λk b h=>?_,by rw[c.ks];exact(Nv rows).imp Int.le_of_lt,q0a,q0a]
 ·rw[c.rk,iZ]at h;rw[c.bd,iZ];exact h
 ·rw[c.bd]at h
  cases e:rowAt rows k with
  |none=>rw[e]at h;cases h
  |some y =>
   rw[e]at h;cases h;obtain⟨_,_,a,b,_⟩:=v.ok k y.1 y.2 e;refine#[a,λd f=>?_];obtain⟨j,q⟩:=(b d f).2;have:=vz q;exact#[this.1,by have:=v.sm k y.1 y.2 e d f;lia]
def yh.wG(c:yh x rows)(k:Int):wG x k=eb rows k:=by unfold K7.wG eb;rw[c.bd]
def yh.put(c:yh x rows){r:Int}:yh ({ x with rk:=pk x.rk x.up r,bd:=pk x.bd x.up e,up:=x.up+1}:B0) (rows++[↑(r,e)]):=by
 have n:rowAt rows x.up=none:=GK (by rw[c.up];exact oK _);have a:lk x.rk x.up=none:=by rw[c.rk,n];rfl
 have b:lk x.bd x.up=none:=by rw[c.bd,n];rfl
 have d:=c.lr;have f:=c.lb;refine#[?_,λk=>?_,λk=>?_,?_,?_]
 ·show x.up+1=_;rw[c.up,ig,iw]
  lia
 ·show lk (pk x.rk x.up r) k=_;rw[z8 a,LH a];by_cases q:k=x.up
  ·rw[gU q,q,c.up,wo];rfl
  ·rw[ci q,wH (by rw[<- c.up];exact q),c.rk]
 ·show lk (pk x.bd x.up e) k=_;rw[z8 b,LH b];by_cases q:k=x.up
  ·rw[gU q,q,c.up,wo];rfl
  ·rw[ci q,wH (by rw[<- c.up];exact q),c.bd]
 ·show (pk x.rk x.up r).map (·.1)=_;rw[z8 a,ku,c.ks,Sw,<- c.up];rfl
 ·show (pk x.bd x.up e).length<=_;rw[z8 b,ig,ig,iw,iw]
  lia
def yh.take(c:yh x rows){j:Int}(a:0<=j):yh ({ x with rk:=dk x.rk j,bd:=dk x.bd j}:B0) (rows.set j.toNat none):=by
 have d:=c.lr;have b:=c.lb;refine#[by rw[mD];exact c.up,λk=>?_,λk=>?_,?_,?_]
 ·show lk (dk x.rk j) k=_;rw[Cw,Df a,c.rk];split<;>rfl
 ·show lk (dk x.bd j) k=_;rw[Cw,Df a,c.bd];split<;>rfl
 ·show (dk x.rk j).map (·.1)=_;rw[Sy a,<- c.ks];unfold dk;rw[rA];congr 1;refine oF λe _=>?_;by_cases q:e.1=j<;>simp[q]
 ·rw[mD];exact iK (iI _ _) b
def yh.wW(c:yh x rows)(h:∀k∈row,(107).isSome=true):wW x row=true:=List.all_eq_true.mpr λk a=>by rw[c.rk,iZ];exact h k a
def Sz{r:Int}(c:yh x rows)(v:Vr rows)(l:0<=r)(m:r<=12)(i:wX e)(g:∀d∈e,∃b,rowAt rows d=↑(r-1,b))(j:wg (eb rows) e=[])
 (k:∀a:B0,yh a (rows++[↑(r,e)])->a.ht=x.ht->a.th=x.th->h x.up (a,#[],#[],())):JY (x,r,e,()) h o:=by
  have n:rowAt rows x.up=none:=GK (by rw[c.up];exact oK _)
  refine#[c.okb v,(by show lk x.bd x.up=none;rw[c.bd,n];rfl),?_]
  show if r<0\/12<r then _ else if asc e=true then (if K7.wW x e=true then (if Vu x e (r-1)=true then (if Pg (e.map<|K7.wG x)=[] then h x.up _ else _) else _) else _) else _
  rw[ci q0a,gU<|(zd e).mpr i,gU (c.wW λd f=>by obtain⟨b,q⟩:=g d f;rw[q];rfl),gU,gU]
  · exact k _ c.put rfl rfl
  · rw[mw λd _ => c.wG d]
    exact j
  · refine List.all_eq_true.mpr λd f => decide_eq_true ?_
    obtain⟨b,q⟩:=g d f
    rw[c.rk,q]
    rfl
def Nx(c:yh x rows){j h:Int}:h∈YI x j↔(rowAt rows h).isSome=true/\j∈eb rows h:=by
 unfold YI;rw[ja,iW,c.wG];constructor
 ·rintro⟨a,b⟩;have:=xL a;rw[c.rk,iZ]at this;exact#[this,b]
 ·rintro⟨a,b⟩;exact#[zX (by rw[c.rk,iZ];exact a),b]
def VM(c:yh x rows){j:Int}:YI x j=[]↔∀h,j∉eb rows h:=by
 rw[List.eq_nil_iff_forall_not_mem];constructor
 ·intro z h a;refine z h ((Nx c).mpr #[?_,a])
  cases e:rowAt rows h with
  |none=>unfold eb at a;rw[e]at a;cases a
  |some y=>rfl
 ·intro z h a;exact z h ((Nx c).mp a).2
def VN{j:Int}(c:yh x rows)(v:Vr rows)(b:(rowAt rows j).isSome=true)(e:∀h,j∉eb rows h)(f:xv x j=false)
 (k:∀a:B0,yh a (rows.set j.toNat none)->a.ht=x.ht->a.th=x.th->d () (a,#[],())):H0 (x,j,()) d i:=by
  refine#[f,c.okb v,?_]
  show if (lk x.rk j).isSome=true then (if YI x j=[] then d () _ else _) else _
  rw[gU (by rw[c.rk,iZ];exact b),gU<|(VM c).mpr e]
  obtain⟨y,g⟩:=Option.isSome_iff_exists.mp b
  exact k _ (c.take (vz g).1) rfl rfl
end
def yd{a:List RW}{n:Nat}{j:Int}:rowAt (a.take n) j=if j<(n:Int) then rowAt a j else none:=by
 unfold rowAt;by_cases b:0<=j
 ·rw[gU b,gU b,uk];by_cases c:j<(n:Int)
  ·rw[gU c,gU q0d]
  ·rw[ci c,ci q0d];rfl
 ·rw[ci b,ci b];split<;>rfl
def VO(v:Vr rows)(n:Nat):Vr (rows.take n):=by
 refine#[λk r e h=>?_,iK (List.length_take_le' _ _) v.ln,λk r e h=>?_]
 rotate_left
 ·rw[yd]at h;split at h
  ·exact v.sm k r e h
  ·cases h
 rw[yd]at h;by_cases q:k<(n:Int)
 ·rw[gU q]at h;obtain⟨a,b,c,d,f⟩:=v.ok k r e h;refine#[a,b,c,λx g=>#[(d x g).1,?_],?_]
  ·obtain⟨l,i,j⟩:=d x g;exact#[i,by rw[yd,gU q0a];exact j]
  ·rw[<- f];refine xY λx g=>?_;have:=(d x g).1;unfold eb;rw[yd,gU q0a]
 ·rw[ci q]at h;cases h
noncomputable def LpB(a:List RW)(u:Int×List Int):Bool:=asc u.2&&u.2.all (λc=>decide ((rowAt a c).map (·.1)=↑u.1))&&decide (wg (eb a) u.2=[])
def Ny{c r:Int}(h:(rowAt rows c).map (·.1)=↑r):∃e,rowAt rows c=↑(r,e):=by
 cases e:rowAt rows c with
 |none=>rw[e]at h;cases h
 |some y=>rw[e]at h;cases h;exact#[y.2,rfl]
def SA(h:LpB rows u=true):Lp rows u:=by unfold LpB at h;rw[iU,iU]at h;exact#[(zd _).mp h.1.1,λc a=>Ny<|jV<|List.all_eq_true.mp h.1.2 c a,jV h.2]
noncomputable def VrB(rows:List RW):Bool:=decide (rows.length<=27)&&(iA rows.length).all λk=>match rowAt rows (k:Int) with
 |none=>true
 |some (r,e)=>decide (0<=r)&&decide (r<=12)&&asc e&&e.all (λc=>decide (c<(k:Int))&&decide ((rowAt rows c).map (·.1)=↑(r-1)))&&decide (wg (eb rows) e=[])
def SE(h:VrB rows=true):Vr rows:=by
 unfold VrB at h;rw[iU]at h;have f:=jV h.1
 suffices g:∀k r e,rowAt rows k=↑(r,e)->0<=r/\r<=12/\wX e/\(∀c∈e,c<k/\∃d,rowAt rows c=↑(r-1,d))/\wg (eb rows) e=[] from#[g,q0d,λk r e a c b=>by
  have:=((g k r e a).2.2.2.1 c b).1;have:=vz a
  omega]
 intro k r e a;have q:=vz a;have z:=List.all_eq_true.mp h.2 k.toNat<|List.mem_range.mpr q0d;rw[show ((k.toNat:Nat):Int)=k by omega,a]at z;simp only[iU,iW,oU]at z;exact⟨z.1.1.1.1,z.1.1.1.2,(zd _).mp z.1.1.2,λc b=>#[(z.1.2 c b).1,Ny (z.1.2 c b).2],z.2⟩
noncomputable def Zn(n:Nat):List 90:=(yY 0 n).filterMap λk=>if decide (k<4)=true then some (0,[k]) else none
noncomputable def lp1:List 90:=[(1,[4,5,7]),(1,[4,6,8]),(1,[5,6,9])]
noncomputable def chk(m:Nat):Bool:=VrB (CG.take m)&&(Zn (CG.take m).length).all (LpB<|CG.take m)&&decide ((Zn (CG.take m).length).length<=4)&&decide ((CG.take m).length<=15)&&(decide ((CG.take m).length<=9)||lp1.all (LpB<|CG.take m))
def VP:(iA 16).all chk=true:=by decide +kernel
def LV(c:wX a)(d:wX b)(f:∀k∈a,k∈yY 0 35)(g:∀k∈b,k∈yY 0 35):a.length<=1000/\b.length<=1000/\(a.filter λk=>!decide (k∈b)).length+(b.filter λk=>!decide (k∈a)).length<64:=by
 have i:=wE c f;have j:=wE d g;have h:=SX.zr ((a.filter λk=>!decide (k∈b))++b.filter λk=>!decide (k∈a)) (yY 0 35) (List.nodup_append.mpr #[(vr c).filter _,(vr d).filter _,λx l y m e=>?_]) λk n=>?_
 ·rw[ig]at h;rw[w8]at i j h
  lia
 ·have q:=(List.mem_filter.mp l).2;rw[e]at q;simp[(List.mem_filter.mp m).1]at q
 ·rcases List.mem_append.mp n with z|z
  ·exact f k (List.mem_filter.mp z).1
  ·exact g k (List.mem_filter.mp z).1
def VQ{a b:List Int}(h:a.length+b.length<64):a.length<=1000/\b.length<=1000/\(a.filter λk=>!decide (k∈b)).length+(b.filter λk=>!decide (k∈a)).length<64:=by
 have c:=iI (λk=>!decide (k∈b)) a;have d:=iI (λk=>!decide (k∈a)) b
 lia
def CC(e:a=b)(k:c true 94):LU (a,b,()) c d:=by show c (decide<|a=b) _;rw[decide_eq_true e];exact k
def SF{a b:Bool}(e:a=b)(k:c true 94):Ih (a,b,()) c d:=by show c (decide<|a=b) _;rw[decide_eq_true e];exact k
def yh.a0V(c:yh x rows)(k:Int):(lk x.rk k).isSome=decide (k∈CA rows):=by
 rw[c.rk,iZ];by_cases q:(107).isSome=true
 ·rw[q,decide_eq_true<|xo.mpr q]
 ·rw[ik<|λz=>q<|xo.mp z];simpa using q
def yh.Vv(c:yh x rows){k:Int}(h:rowAt rows k=↑y):Vv x k=y.1:=by unfold K7.Vv;rw[c.rk,h];rfl
def Nz{k:Int}{y:Int×List Int}{a:Int->B0×WL.Un×Unit->Prop}{b:gV->B0×WL.Un×Unit->Prop}(c:yh x rows)(h:rowAt rows k=↑y)(g:a y.1 (x,#[],())):Cp (x,k,()) a b:=by show if (lk x.rk k).isSome=true then a (K7.Vv x k) _ else _;rw[gU (by rw[c.rk,h];rfl),c.Vv h];exact g
def OU{k:Int}{y:Int×List Int}{a:OL Int->B0×WL.Un×Unit->Prop}{b:gV->B0×WL.Un×Unit->Prop}(c:yh x rows)(v:Vr rows)(h:rowAt rows k=↑y)(g:a #[y.2] (x,#[],())):AI (x,k,()) a b:=by refine#[c.okb v,?_];show if (lk x.rk k).isSome=true then a #[K7.wG x k] _ else _;rw[gU (by rw[c.rk,h];rfl),c.wG,yX h];exact g
def Fo{n:Int}(k:b true (#[],())):Ig (n,()) b c:=k
/-! ### a -/
def a0W(v:Vr rows)(n:rows.length<=59):Vr (rows++[↑(0,[])]):=by
 refine#[λk r e h=>?_,by rw[ig,iw];lia,λk r e h c j=>?_]
 ·by_cases q:k=(rows.length:Int)
  ·rw[q,wo]at h;cases h;exact#[oK 0,q0q,iG,(λ_ z=>by cases z),rfl]
  ·rw[wH q]at h;obtain⟨a,b,c,d,f⟩:=v.ok k r e h;refine#[a,b,c,λx i=>?_,?_]
   ·obtain⟨m,l,g⟩:=d x i;exact#[m,l,by rw[wH<|yy g];exact g]
   ·rw[<- f];refine xY λx i=>?_;obtain⟨_,l,g⟩:=d x i;exact Ij<|yy g
 ·by_cases q:k=(rows.length:Int)
  ·rw[q,wo]at h;cases h;cases j
  ·rw[wH q]at h;exact v.sm k r e h c j
def VR:yh (#[[],[],0,[],[]]:B0) []:=by
 have n:∀k,rowAt [] k=none:=λk=>by unfold rowAt;split<;>rfl
 exact#[rfl,(λk=>by rw[n];rfl),(λk=>by rw[n];rfl),rfl,gZ _]
structure Arr(x:B0)(a:List (Int×Int)):Prop where
 ok:Bi x
 nt:(x.th.map (·.1)).Nodup
 pm:(a.map (·.1)).Perm (v8 x)
 hd:∀e∈a,wh x e.1=e.2
def SG :B0×List RW×Bg×Int×Unit->(OL (Int×Int)->B0×WL.Un×Bg×WL.Un×Unit->Prop)->(gV->B0×WL.Un×Bg×WL.Un×Unit->Prop)->Prop:=λp b _ =>
 yh p.1 p.2.1/\Vr p.2.1/\p.2.1.length<=35/\p.1.ht=[]/\p.1.th=[]/\(0<=p.2.2.2.1/\p.2.2.2.1<=1000)/\∀x a,yh x p.2.1->Arr x a->(a.map (·.1)).Pairwise (·<=·)->b #[a] (x,#[],#[],#[],())
def NA :Bg×Int×Unit->(T3 (B0) (OL RW) (OL<|Int×Int)->Bg×WL.Un×Unit->Prop)->(gV->Bg×WL.Un×Unit->Prop)->Prop:=λp c _ =>
 (0<=p.2.1/\p.2.1<=20)/\∀x b a,yh x b->Vr b->b.length<=35->Arr x a->(a.map (·.1)).Pairwise (·<=·)->c #[x,#[b],#[a]] 94
def Il:Wf (List (Int×Int)×Unit) (OL Int) (WL.Un×Unit):=λp a _=>p.1.length<64/\a #[BI (p.1.map (·.2))] (#[],())
noncomputable def W0(b:List RW)(a:List (Int×Int)):List Int:=(CA b).filter λk=>!decide (k∈a.map (·.1)++BI (a.map (·.2)))
def Fp:Wf (List (Int×Int)×Unit) (OL Int) (WL.Un×Unit):=λp a _=>p.1.length<64/\a #[p.1.map (·.1)] (#[],())
def YT:Wf (List RW×List (Int×Int)×Unit) (OL Int) 130:=λp a _=>p.1.length<1000/\p.2.1.length<64/\a #[W0 p.1 p.2.1] 94
def w_sum:Wf (List Int×Unit) Bool (WL.Un×Unit):=λp a _=>wX p.1/\p.1.length<=1000/\a true (#[],())
def Fq:Wf (List Int×List Int×Unit) (OL Int) 130:=λp a _=>p.1.length<=1000/\a #[p.1.filter λk=>decide<|k∈p.2.1] 94
def YU(h:wX l){k:Int}(p:1<=k)(c:k<l.length):∃a b,FH l (k-1)=↑a/\FH l k=↑b/\a<b:=by obtain⟨a,d,e,_⟩:=yB (l:=l) (i:=k-1) q0a q0a;obtain⟨b,f,g,_⟩:=yB (l:=l) (i:=k) q0a c;obtain⟨j,m⟩:=List.getElem?_eq_some_iff.mp e;obtain⟨n,o⟩:=List.getElem?_eq_some_iff.mp g;refine#[a,b,d,f,?_];rw[<- m,<- o];exact(List.pairwise_iff_getElem.mp h) _ _ j n q0a
def YV(k:a true (#[],())):So (l,()) a b:=k
def SH{n k:Int}(h:k∈yY 1 n):1<=k/\k<n:=by unfold yY at h;obtain⟨i,a,e⟩:=List.mem_map.mp h;have:=List.mem_range.mp a;omega
def NB:Wf (List (Int×Int)×List (Int×Int)×Unit) Bool 130:=λp a _=>p.1=p.2.1/\p.1.length<64/\a true 94
def SJ :B0×List RW×List (Int×Int)×Unit->(Bool->B0×WL.Un×WL.Un×Unit->Prop)->(gV->B0×WL.Un×WL.Un×Unit->Prop)->Prop:=λp Kn _ =>
 (yh p.1 p.2.1/\Vr p.2.1/\p.2.1.length<=35/\Arr p.1 p.2.2.1/\(p.2.2.1.map (·.1)).Pairwise (·<=·))/\Kn true 71
def Arr.eq{x:B0}{a:List (Int×Int)}(A:Arr x a)(s:(a.map (·.1)).Pairwise (·<=·)):(BI<|v8 x).map (λl=>(l,wh x l))=a:=by rw[zv ((wO _).trans A.pm.symm) (A1 _) s,kF];exact(mw λy hy=>by show (y.1,wh x y.1)=y;rw[A.hd y hy]).trans<|List.map_id _
def YW{l:List (Int×Int)}(h:l.Pairwise (λx y=>SX.IS y x=false)):(l.map (·.1)).Pairwise (·<=·):=List.pairwise_map.mpr (h.imp λ{p q} z=>by rcases SX.E4.mp z with z|z<;>omega)
def w_head:Wf (List (Int×Int)×Int×Unit) Int 130:=λp a _=>(∃e∈p.1,e.1=p.2.1)/\∀e∈p.1,e.1=p.2.1->a e.2 94
def xU:∀{l:List b} {i:Nat},l[i]?=↑y->(y::l.eraseIdx i).Perm l
 | [],i,h=>by simp at h
 |a::l,0,h=>by
  have h:a=y:=by simpa using h
  rw[h];exact .refl _
 |a::l,i+1,h=>by rw[oQ];exact(List.Perm.swap a y _).trans<|(xU<|by simpa using h).cons a
def D8{a:Type}{l:List (Int×a)}{k:Int}:(dk l k).map (·.1)=(l.map (·.1)).filter λj=>decide (j≠k):=by unfold dk;rw[rA];rfl
section
variable{x:B0}{rows:List RW}{a:List (Int×Int)}
def Bi.a0X(b:Bi x){l:Int}(n:l∈v8 x):Bi ({ x with ht:=dk x.ht l,th:=dk x.th (wh x l)}:B0):=by
 have o:∀{t:Int},t∈v8 ({ x with ht:=dk x.ht l,th:=dk x.th (wh x l)}:B0)↔t∈v8 x/\t≠l:=λ{t}=>by show t∈(dk x.ht l).map (·.1)↔_;rw[D8,ja,iW];exact Iff.rfl
 refine#[#[b.ok.kb,b.ok.bo,b.ok.ri,b.ok.lr,b.ok.lb],?_,?_,?_,λd f e=>?_,λd f e=>?_,λc h i=>?_,?_]
 ·show ((dk x.ht l).map (·.1)).Nodup;rw[D8];exact b.nd.filter _
 ·exact jM (iI _ _) b.len
 ·exact jM (iI _ _) b.a0R
 ·have e:lk (dk x.ht l) d=↑f:=e;rw[Cw]at e;by_cases q:d=l
  ·rw[gU q]at e;cases e
  ·rw[ci q]at e;have g:=b.ht d f e;refine#[g.1,g.2.1,g.2.2.1,?_];show lk (dk x.th<|wh x l) f=some d;rw[Cw,ci λz=>?_]
   ·exact g.2.2.2
   ·have:=(b.ht l _<|wM n).2.2.2;rw[<- z,g.2.2.2]at this;injection this with this;exact q this
 ·have e:lk (dk x.th<|wh x l) f=↑d:=e;rw[Cw]at e;by_cases q:f=wh x l
  ·rw[gU q]at e;cases e
  ·rw[ci q]at e;have g:=b.th d f e;show lk (dk x.ht l) d=↑f;rw[Cw,ci λz=>?_]
   ·exact g
   ·rw[z,wM n]at g;injection g with g;exact q g.symm
 ·have h:(lk (dk x.ht l) c).isSome=true:=h;have i:(lk (dk x.th<|wh x l) c).isSome=true:=i;rw[Cw]at h i;refine b.one c ?_ ?_
  ·by_cases q:c=l
   ·rw[gU q]at h;cases h
   ·rw[ci q]at h;exact h
  ·by_cases q:c=wh x l
   ·rw[gU q]at i;cases i
   ·rw[ci q]at i;exact i
 ·obtain⟨r,p⟩:=b.acy;refine#[r,λk m t j=>?_];have m:=o.mp m
  have s:wh ({ x with ht:=dk x.ht l,th:=dk x.th (wh x l)}:B0) k=wh x k:=by unfold wh;show (lk (dk x.ht l) k).getD 0=_;rw[Cw,ci m.2]
  rw[s]at j;have j:=xB.mp j;exact p k m.1 t<|xB.mpr #[j.1,j.2.1,(o.mp j.2.2).1]
def Bi.FE(d:Bi x){low high:Int}(w:(lk x.rk low).isSome=true)(y:(lk x.rk high).isSome=true)(f:low∈wG x high)(A:xv x low=false)(B:xv x high=false)(C:low≠high)(ac:Zl (FE x low high))(D:x.ht.length+1<64)(E:x.th.length+1<64):Bi (FE x low high):=by
 have p:=Bool.or_eq_false_iff.mp A;have r:=Bool.or_eq_false_iff.mp B;have o:lk x.ht low=none:=by simpa using p.1
 have F:lk x.th low=none:=by simpa using p.2
 have G:lk x.ht high=none:=by simpa using r.1
 have s:lk x.th high=none:=by simpa using r.2
 have t:(K7.FE x low high).ht=x.ht++[(low,high)]:=z8 o;have H:(K7.FE x low high).th=x.th++[(high,low)]:=z8 s;have j:∀k,lk (K7.FE x low high).ht k=if k=low then some high else lk x.ht k:=λk=>yG;have l:∀k,lk (K7.FE x low high).th k=if k=high then some low else lk x.th k:=λk=>yG;refine#[#[d.ok.kb,d.ok.bo,d.ok.ri,d.ok.lr,d.ok.lb],?_,by rw[t];simpa using D,by rw[H];simpa using E,λm n e=>?_,λm n e=>?_,λc h i=>?_,ac]
 ·show ((K7.FE x low high).ht.map (·.1)).Nodup;rw[t,ku];refine List.nodup_append.mpr #[d.nd,q0o,λa u b f z=>?_];have f:b=low:=by simpa using f
  rw[z,f]at u;have:=xL u;rw[o]at this;cases this
 ·rw[j]at e;by_cases q:m=low
  ·rw[gU q]at e;injection e with e;subst e;subst q;exact#[w,y,f,by rw[l,gU rfl]]
  ·rw[ci q]at e;have g:=d.ht m n e;refine#[g.1,g.2.1,g.2.2.1,?_];rw[l,ci λz=>?_]
   ·exact g.2.2.2
   ·rw[z,s]at g;cases g.2.2.2
 ·rw[l]at e;by_cases q:n=high
  ·rw[gU q]at e;injection e with e;subst e;subst q;rw[j,gU rfl]
  ·rw[ci q]at e;have g:=d.th m n e;rw[j,ci λz=>?_]
   ·exact g
   ·rw[z,o]at g;cases g
 ·rw[j]at h;rw[l]at i;by_cases q:c=low
  ·rw[ci λz=>C<|q.symm.trans z,q,F]at i;cases i
  ·rw[ci q]at h;by_cases v:c=high
   ·rw[v,G]at h;cases h
   ·rw[ci v]at i;exact d.one c h i
def yh.same(c:yh x rows){y:B0}(b:y.rk=x.rk)(d:y.bd=x.bd)(e:y.up=x.up):yh y rows:=by obtain⟨f,g,h,i,j⟩:=c;exact#[e.trans f,by rw[b];exact g,by rw[d];exact h,by rw[b];exact i,by rw[d];exact j]
def Arr.mem(A:Arr x a)(h:e∈a):e.1∈v8 x:=A.pm.mem_iff.mp<|List.mem_map.mpr #[e,h,rfl]
def Arr.pop(A:Arr x a){i:Nat}(h:a[i]?=↑y):Arr ({ x with ht:=dk x.ht y.1,th:=dk x.th (wh x y.1)}:B0) (a.eraseIdx i):=by
 have b:(y::a.eraseIdx i).Perm a:=xU h;have g:y∈a:=b.mem_iff.mp gY;have j:=A.mem g
 have d:(y.1::(a.eraseIdx i).map (·.1)).Perm (v8 x):=by
  have:=(b.map (λe:Int×Int=>e.1)).trans A.pm
  rwa [iC]at this
 have c:=List.nodup_cons.mp<|d.nodup_iff.mpr A.ok.nd;refine⟨A.ok.a0X j,?_,?_,λe f=>?_⟩
 ·show ((dk x.th<|wh x y.1).map (·.1)).Nodup;rw[D8];exact A.nt.filter _
 ·show ((a.eraseIdx i).map (·.1)).Perm ((dk x.ht y.1).map (·.1));rw[D8];refine wC c.2 (A.ok.nd.filter _) λk=>?_;rw[ja,iW];have:=d.mem_iff (a:=k);rw[iD]at this;constructor
  ·exact λz=>#[this.mp<|.inr z,λw=>c.1<|w▸z]
  ·exact λz=>(this.mpr z.1).elim (λw=>ii w z.2) id
 ·have l:e∈a:=b.mem_iff.mp<|hI _ f;have m:e.1≠y.1:=λz=>c.1<|z▸List.mem_map.mpr #[e,f,rfl];show (lk (dk x.ht y.1) e.1).getD 0=e.2;rw[Cw,ci m];exact A.hd e l
def Arr.OV(A:Arr x a)(c:yh x rows)(v:rows.length<=35):x.ht.length<=35/\x.th.length<=35/\a.length<=35:=by
 have ln:=c.lr;have rn:(x.rk.map (·.1)).Nodup:=by rw[c.ks];exact vr<|Nv rows
 have h1:(v8 x).length<=(x.rk.map (·.1)).length:=LJ A.ok.nd rn λk hk=>zX (A.ok.ht k _<|wM hk).1
 have h2:(x.th.map (·.1)).length<=(x.rk.map (·.1)).length:=LJ A.nt rn λk hk=>by obtain⟨l,e⟩:=Option.isSome_iff_exists.mp<|xL hk;exact zX (A.ok.ht l k<|A.ok.th l k e).2.1
 have h3:=A.pm.length_eq;have e:(v8 x).length=x.ht.length:=hO _;rw[hO]at h1 h2 h3;rw[hO]at h2
 lia
def Arr.add(A:Arr x a)(c:yh x rows)(v:rows.length<=35){low high:Int}(k:(lk x.rk low).isSome=true)(l:(lk x.rk high).isSome=true)(d:low∈wG x high)(f:xv x low=false)(g:xv x high=false)(m:low≠high)(ac:Zl (FE x low high)):Arr (FE x low high) (a++[(low,high)]):=by
 have q:=A.OV c v;have h:lk x.ht low=none:=by simpa using(Bool.or_eq_false_iff.mp f).1
 have i:lk x.th high=none:=by simpa using(Bool.or_eq_false_iff.mp g).2
 have n:(K7.FE x low high).ht=x.ht++[(low,high)]:=z8 h;have o:(K7.FE x low high).th=x.th++[(high,low)]:=z8 i;refine#[A.ok.FE k l d f g m ac q0a q0a,?_,?_,λe p=>?_]
 ·rw[o,ku];refine List.nodup_append.mpr #[A.nt,q0o,λa j b d z=>?_];have d:b=high:=by simpa using d
  rw[z,d]at j;have:=xL j;rw[i]at this;cases this
 ·show ((a++[(low,high)]).map (·.1)).Perm ((K7.FE x low high).ht.map (·.1));rw[n,ku,ku];exact A.pm.append_right _
 ·show (lk (pk x.ht low high) e.1).getD 0=e.2;rw[yG];rcases List.mem_append.mp p with z|z
  ·have:e.1≠low:=λw=>by have:=xL<|A.mem z;rw[w,h]at this;cases this
   rw[ci this];exact A.hd e z
  ·have z:e=(low,high):=by simpa using z
   rw[z,gU rfl];rfl
def SK(v:Vr rows){k:Int}(d:rowAt rows k=↑y):y.2.length<=95:=by
 have b:=v.ok k y.1 y.2 d
 have:=wE (U:=CA rows) b.2.2.1 λc e=>by obtain⟨_,g,f⟩:=b.2.2.2.1 c e;exact xo.mpr (by rw[f];rfl)
 have h:=xO rows;have i:=v.ln
 lia
def VS(i:RH x)(b:x.ht=[])(d:x.th=[]):Arr x []:=by
 have f:v8 x=[]:=by unfold v8;rw[b];rfl
 refine#[#[i,by rw[f];exact mU,by rw[b];decide,by rw[d];decide,λl h e=>?_,λl h e=>?_,λc e=>?_,λ_=>0,λl g=>?_],by rw[d];exact mU,by rw[f];exact .refl _,λe j=>by cases j]
 ·rw[b]at e;cases e
 ·rw[d]at e;cases e
 ·rw[b]at e;cases e
 ·rw[f]at g;cases g
def SM{i:Nat}(A:Arr x a)(c:yh x rows)(h:a[i]?=↑y)(k:∀v (b:B0),yh b rows->Arr b (a.eraseIdx i)->d v (b,#[],())):HP (x,y.1,()) d g:=by have f:=A.mem<|jW h;have e:=wM f;refine#[A.ok,?_];show if (lk x.rk y.1).isSome=true then (if (lk x.ht y.1).isSome=true then d (wh x y.1) _ else _) else _;rw[gU (A.ok.ht _ _ e).1,gU<|by rw[e];rfl];exact k _ _ (c.same rfl rfl rfl)<|A.pop h
def YX{low high:Int}(A:Arr x a)(c:yh x rows)(v:Vr rows)(l:rows.length<=35)(b:rowAt rows high=↑y)(f:low∈y.2)
 (g:∀D∈[XT,XR],d D (x,#[],#[],()))(k:∀e:B0,yh e rows->Arr e (a++[(low,high)])->m () (e,#[],#[],())):RT (x,low,high,()) m d:=by
  have n:=v.ok high y.1 y.2 b
  obtain⟨o,u,p⟩:=n.2.2.2.1 low f
  have h:(lk x.rk low).isSome=true:=by rw[c.rk,p];rfl
  have i:(lk x.rk high).isSome=true:=by rw[c.rk,b];rfl
  have j:low∈K7.wG x high:=by rw[c.wG,yX b];exact f
  refine#[A.ok,?_]
  show if (lk x.rk low).isSome=true then (if (lk x.rk high).isSome=true then (if low∈K7.wG x high then (if xv x low=true\/xv x high=true then d XT _ else d XR _/\_) else _) else _) else _
  rw[gU h,gU i,gU j]
  by_cases t:xv x low=true\/xv x high=true
  · rw[gU t]; exact g XT q0o
  · rw[ci t]
    have r:xv x low=false:=by cases q:xv x low with|true=>exact ii (.inl q) t|false=>rfl
    have s:xv x high=false:=by cases q:xv x high with|true=>exact ii (.inr q) t|false=>rfl
    exact#[g XR q0o,λac=>k _ (c.same rfl rfl rfl)<|A.add c l h i j r s (Int.ne_of_lt o) ac]
end
section
variable{q:Cq}{XL:gV}
noncomputable abbrev LW:iB:=top 32
noncomputable abbrev LX:List Str:=["_law_bag_here"]
def VT:vm ["_law_bag_here"] LX (vd LW):=by walk_at "sc"
abbrev YY(q:Cq)(k:Nat):=xt q "_law_rank" LX Ic k
def VU(F:CZ q "_law_rank" LW f i)(a:xt q "_law_pull" ["_law_bag_here","_law_many"] yW 1):Gq q 2 f i LX Ic:=by
 refine' vo (wJ (D':=Unit) (ms:=[0]) (j:=0) F VT rfl rfl λk A c s H E t =>
   (vt (vJ (tw_cm Af (vv (vA a (vM 0 (vj vi vg)))) vi)
   (vf<|vw<|vA a<|vM 0<|vj vi vg)
   vG)
   (vf (vw (vC (wU (vY (vN (vE (vk vi (vk vi (vk vi (vk vi (vk vi (vk vi 106))))))))) (vv (vA a (vM 0 (vj vi vg)))))))))) λp m u h=>?_
 walk_at "wl"
 have h:∀r,0<=r->r<=12->m r (#[],()):=h;refine wZ q0q q0q λr v w=>?_
 try dsimp only
 by_cases q:r=11
 ·rw[gU<|decide_eq_true q];refine wZ q0q q0q λs d b=>h s d ?_;have b:s<13:=b
  lia
 ·rw[ci<|by simpa using q];refine wZ q0q q0q λs d b=>?_;refine BZ λn e=>?_;have b:s<8:=b;obtain⟨x,o,_,g⟩:=yB (l:=[(0:Int),0,1,1,1,2,2,3]) d (by simpa using b);refine e ?_;refine#[x,o,h x ?_ ?_]
  ·simp at g;lia
  ·simp at g;lia
noncomputable abbrev LY:iB:=top 33
noncomputable abbrev LZ:List Str:=["_law_one","_law_other"]
def NC:vm ["_law_one","_law_other","_law_left"] LZ (vd LY):=by walk_at "sc"
def SN:(["_law_x","_law_other"]:List Str).Nodup:=by decide +kernel
def SO:(["_law_x","_law_one"]:List Str).Nodup:=by decide +kernel
abbrev Im(q:Cq)(k:Nat):=xt q "_law_join" LZ Ie k
def VW(F:CZ q "_law_join" LY f l)(B:Bn q.mg):Gq q 2 f l LZ Ie:=by
 refine' vo (wJ (D':=Unit) (ms:=[]) (j:=1) F NC rfl rfl λm A e s H E r =>
   (vt (zS (Ts:=["_law_x"]) (Fr:=["_law_other"]) (idx:=[1]) (k:=1) (mb:=[1]) (is:=[]) (cl:=[("_law_other",⇑s+1+1)]) 2 NC.nd rfl rfl rfl q0q rfl (wn (ss 0)) TU rfl (wS rfl) (λa b C c d=>(vF 0 (vp SN))) (λa b C c d=>(tws_one (tw_cmI Ey (ss 0) (vY (ss 1)) (by with_unfolding_all rfl)))) (λa b C c d=>(ss 0)))
   (vf (vw (CU rfl B.sorted (vY (vN (CT (v7 2) (vY (vN (xy (Ts:=["_law_x"]) (Fr:=["_law_one"]) (idx:=[0]) (k:=1) (mb:=[1]) (is:=[]) (cl:=[("_law_one",⇑s+1)]) rfl (wn (ss 1)) TU rfl (wS rfl) (λa b C c d=>(vF 0 (vp SO))) (λa b C c d=>(tws_one (tw_cmI Ey (ss 0) (vY (ss 1)) (by with_unfolding_all rfl)))) (λa b C c d=>(ss 0))))))))))))) λp t u h=>?_
 walk_at "wl"
 refine BZ λn g=>?_;obtain⟨⟨v,w,x⟩,o⟩:=h;refine g ?_;refine#[wl q0d,wK (q:=λk=>!decide (k∈p.2.1)) (λk _ K i=>i) ?_];refine#[wl (show p.2.1.length<=1000 by omega),wK (q:=λk=>!decide (k∈p.1)) (λk _ K i=>i) ?_];have y:=iI (λk=>!decide (k∈p.2.1)) p.1;have z:=iI (λk=>!decide (k∈p.1)) p.2.1;refine#[wl ?_,?_,o]
 ·show (p.1.filter λk=>!decide (k∈p.2.1)).length+(p.2.1.filter λk=>!decide (k∈p.1)).length<=1000;omega
 ·rw[ig];show (p.1.filter λk=>!decide (k∈p.2.1)).length+(p.2.1.filter λk=>!decide (k∈p.1)).length<64;omega
noncomputable abbrev L0:iB:=top 34
noncomputable abbrev L4:List Str:=["_law_rows_here"]
def VX:vm ["_law_rows_here"] L4 (vd L0):=by walk_at "sc"
def SQ:(["_law_k","_law_rows_here"]:List Str).Nodup:=by decide +kernel
abbrev Io(q:Cq)(k:Nat):=xt q "_law_here" L4 LQ k
def VY(F:CZ q "_law_here" L0 f o)(B:Bn q.mg):Gq q 2 f o L4 LQ:=by
 refine' vo (wJ (D':=Unit) (ms:=[]) (j:=0) F VX rfl rfl λr A c s H E D =>
   (vf (vw (xy (Ts:=["_law_k"]) (Fr:=["_law_rows_here"]) (idx:=[0]) (k:=1) (mb:=[1]) (is:=[]) (cl:=[("_law_rows_here",⇑s+1)]) rfl (xE rfl B.range (xj rfl B.len (vY (ss 0)))) TU rfl (wS rfl) (λa b C i m=>(vF 0 (vp SQ))) (λa b C i m=>(tws_one (tw_cm MV (wU (vY (ss 1)) (ss 0)) La))) (λa b C i m=>(ss 0)))))) λp G I h=>?_
 walk_at "wl"
 obtain⟨J,t⟩:=h;refine#[#[q0a,q0a],?_,wK (q:=λk=>(rowAt p.1 k).isSome) (λk d K e=>?_) t]
 ·rw[w8];exact wl q0a
 ·obtain⟨n,u⟩:=Ii d;refine BZ λv g=>?_;obtain⟨x,w,z,_⟩:=yB (l:=p.1) n u;refine g ?_;rw[Fi n z]at e;refine#[x,w,?_]
  cases x with
  |none=>exact e
  |some y=>exact e
noncomputable abbrev L5:iB:=top 35
noncomputable abbrev L6:List Str:=["_law_bag_here","_law_row_here"]
def Ba:vm ["_law_bag_here","_law_row_here","_law_found","_law_count","_law_k"] L6 (vd L5):=by walk_at "sc"
abbrev SR(q:Cq)(k:Nat):=xt q "_law_some" L6 LR k
def VZ(F:CZ q "_law_some" L5 f P)(a:xt q "_law_pull" ["_law_bag_here","_law_many"] yW 2)(d:Im q 2)(B:Bn q.mg):Gq q 3 f P L6 LR:=by
 refine' vo (wJ (D':=Unit) (ms:=[0]) (j:=3) F Ba rfl rfl λQ A v s H E R =>
   (vt (vy 2 Ba.nd 105)
   (vt (vJ (tw_cmL (Hj R.units) (vY (ss 1)) (vY (vN 105)))
   (vf<|zc 2<|pv 2)
   vG)
   (vt (vy 3 Ba.nd (vA a (vM 0 (vj vi vg))))
   (vt (vJ (tw_cm Af (ss 3) vi)
   (vf<|vy 3 Ba.nd<|vC<|Qy BA (vv<|vA a<|vM 0<|vj vi vg)<|xj rfl B.len<|vY<|ss 1)
   vG)
   (vt (wv (is:=[]) (mb:=[0]) (D1:=Bg×(List Int)×(OL Int)×Int×Int×Unit) (D2:=Bg×(List Int)×(OL Int)×Int×Int×Unit) (vI q0q) xV rfl (xE rfl B.range (ss 3)) (vF 4 (vp Ba.nd))
   (vf (vy 2 Ba.nd (vA d (vK 2 (vj (vN (vE (vk (wU (vY (ss 1)) (vv (vA a (vM 0 (vj (xj rfl B.len (vY (ss 1))) vg))))) vD))) vg))))) q0q q0q)
   (vf (zc 2 (pv 2))))))))) λp L o h=>?_
 walk_at "wl"
 obtain⟨hl,M⟩:=h;by_cases w:p.2.1=[]
 ·rw[gU<|decide_eq_true w];exact M [] iG λ_ z=>by cases z
 rw[ci<|by simpa using w]
 have D:0<(p.2.1.length:Int):=by
  have:=List.length_pos_iff.mpr w
  lia
 have g:∀(n c:Int),Hl (λ(x:Int)(b:Bg×List Int×OL Int×Int×WL.Un×Unit) G (Kr:OL Int->Bg×WL.Un×Unit->Prop) o=>yW (b.1,(b.2.1.length:Int),()) (λx t=>∃k,FH b.2.1 x=↑k/\Ie (b.2.2.1.l,[k],()) (λx m=>G (t.1,b.2.1,x,b.2.2.2.1,#[],b.2.2.2.2.2)) λC m=>o C (t.1,#[],())) λC t=>o C (t.1,#[],()))
   (yY 0 n) (#[],p.2.1,#[[]],c,#[],p.2.2) (λN=>L N.2.2.1 (N.1,#[],())) L o:=by
  intro n c;refine vL (λ(r:List Int)(b:Bg×List Int×OL Int×Int×WL.Un×Unit)=>b.2.1=p.2.1/\wX b.2.2.1.l/\∀x∈b.2.2.1.l,x∈p.2.1) (yY 0 n) #[rfl,iG,(λ_ z=>by cases z)] ?_ ?_
  ·rintro x r b _ ⟨e,i,g2⟩ K S;rw[e];refine wZ D q0a λr O u=>?_;refine BZ λT I=>?_;obtain⟨y,U,_,W⟩:=yB (l:=p.2.1) O u;have X:=wE i g2;refine I ?_;refine#[y,U,VQ (show b.2.2.1.l.length+1<64 by lia),S _ #[rfl,Hr i<|jH _ _,λz Y=>?_]];rcases Hq.mp Y with⟨J,_⟩|⟨J,_⟩
   ·exact g2 z J
   ·rw[List.mem_singleton.mp J];exact W
  ·rintro b ⟨_,i,g2⟩;exact M _ i g2
 refine wZ q0q q0q λr O u=>?_
 try dsimp only
 have u:r<7:=u;by_cases q:r=6
 ·rw[gU<|decide_eq_true q];refine wZ q0q q0q λs Z i=>?_;have i:s<3:=i
  have b1:s*(p.2.1.length:Int)<=2*60:=by
   have:s*(p.2.1.length:Int)<=2*(p.2.1.length:Int):=Int.mul_le_mul_of_nonneg_right q0a q0a
   lia
  have b0:0<=s*(p.2.1.length:Int):=Int.mul_nonneg Z q0a;exact#[.inl #[q0a,q0a],#[q0a,q0a],g _ _]
 ·rw[ci<|by simpa using q];exact#[#[q0a,q0a],g _ _]
noncomputable abbrev L7:iB:=top 36
noncomputable abbrev L8:List Str:=["_law_rows_here","_law_row_here"]
def D9:vm ["_law_rows_here","_law_row_here","_law_found","_law_cell"] L8 (vd L7):=by walk_at "sc"
abbrev YZ(q:Cq)(k:Nat):=xt q "_law_edge" L8 LS k
def V0(F:CZ q "_law_edge" L7 f t)(a:Im q 2):Gq q 3 f t L8 LS:=by
 refine' vo (wJ (D':=Unit) (ms:=[]) (j:=2) F D9 rfl rfl λu A i s H E O =>
   (vt (vy 2 D9.nd 105)
   (vt (wv (is:=[]) (mb:=[]) (D1:=(List RW)×(List Int)×(OL Int)×Int×Unit) (D2:=(List RW)×(List Int)×(OL Int)×Int×Unit) (vI q0q) xV rfl (wn (ss 1)) (vF 3 (vp D9.nd))
   (vf (vy 2 D9.nd (vA a (vK 2 (vj (Ax (yF (wU (vY (ss 0)) (ss 3)))) vg))))) q0q q0q)
   (vf (zc 2 (pv 2)))))) λp w P h=>?_
 walk_at "wl"
 obtain⟨v,B,C⟩:=h;refine vL (λ(r:List Int)(b:List RW×List Int×OL Int×WL.Un×Unit)=>b.1=p.1/\(∀c∈r,(rowAt p.1 c).isSome=true)/\wX b.2.2.1.l/\(∀x∈b.2.2.1.l,x∈yY 0 35)/\(r.map<|eb p.1).foldl xr b.2.2.1.l=wg (eb p.1) p.2.1) p.2.1 ⟨rfl,B,iG,(λ_ z=>by cases z),rfl⟩ ?_ ?_
 ·rintro c r b _ ⟨e,o,g1,g2,d⟩ K D;refine BZ λG k=>?_;obtain⟨y,m⟩:=Option.isSome_iff_exists.mp<|o c gY;obtain⟨_,_,_,I⟩:=vz m;obtain⟨g,n⟩:=v.Ss m;refine k ?_;rw[e];have J:=wE g1 g2;have L:=wE g n;rw[w8]at J L;refine⟨_,I,y,rfl,LV g1 g g2 n,D _ ⟨rfl,λc M=>o c<|hI _ M,Hr g1 g,λx N=>?_,?_⟩⟩
  ·rcases Hq.mp N with⟨z,_⟩|⟨z,_⟩
   ·exact g2 x z
   ·exact n x z
  ·rw[<- d];show (r.map<|eb p.1).foldl xr (jn b.2.2.1.l y.2)=(r.map<|eb p.1).foldl xr (xr b.2.2.1.l<|eb p.1 c);rw[QY g1 g,yX m]
 ·rintro b ⟨_,_,_,_,d⟩;have d:b.2.2.1.l=wg (eb p.1) p.2.1:=d;show w b.2.2.1 _;rw[show b.2.2.1=OL.mk b.2.2.1.l from rfl,d];exact C
noncomputable abbrev Ip:iB:=top 44
noncomputable abbrev Iq:List Str:=["_law_found"]
def SS:vm ["_law_found"] Iq (vd Ip):=by walk_at "sc"
abbrev Ir(q:Cq)(k:Nat):=xt q "_law_whole" Iq Ig k
def SU(F:CZ q "_law_whole" Ip f b)(B:Bn q.mg):Gq q 2 f b Iq Ig:=by
 refine' vo (wJ (D':=Unit) (ms:=[]) (j:=0) F SS rfl rfl λc A a s H E d =>
   (vf (vw (vC (CW (yP (ty:="int") rfl B.isinstance (AV (v:=.ty "int") rfl B.int PyProof.Rows.boot_int rfl) (ss 0)) (A5 (Yi (yP (ty:="bool") rfl B.isinstance (AV (v:=.ty "bool") rfl B.bool qV rfl) (ss 0))))))))) λp e g h=>?_
 walk_at "wl"
 exact h
noncomputable abbrev s_row:iB:=top 45
abbrev SV:List Str:=["_law_found"]
def SY:vm ["_law_found","_law_one"] SV (vd s_row):=by walk_at "sc"
abbrev W2(q:Cq)(k:Nat):=xt q "_law_row" SV So k
def Y0(F:CZ q "_law_row" s_row f d)(a:Ir q 2)(B:Bn q.mg):Gq q 3 f d SV So:=by
 refine' vo (wJ (D':=Unit) (ms:=[]) (j:=1) F SY rfl rfl λe A c s H E i =>
   (vt (vJ (tw_not (tw_val (yP (ty:="list") rfl B.isinstance (AV (v:=.ty "list") rfl B.list ki rfl) (ss 0))))
   117
   vG)
   (vt (wv (is:=[]) (mb:=[]) (D1:=(List Int)×Int×Unit) (D2:=(List Int)×Int×Unit) (vI q0q) xV rfl (wn (ss 0)) (vF 1 (vp SY.nd))
   (vf (vJ (tw_not (tw_val (vv (vA a 86))))
   117
   vG)) q0q q0q)
   (vf (vw (vC xP)))))) λp k l h=>?_
 walk_at "wl"
 rw[ci q0q];exact vL (λ(r:List Int)(b:List Int×WL.Un×Unit)=>True) p.1 trivial (λx r b _ _ K g=>g _ trivial) λ_ _=>h
noncomputable abbrev s_same:iB:=top 46
noncomputable abbrev L9:List Str:=["_law_found","_law_due"]
def V1:vm ["_law_found","_law_due"] L9 (vd s_same):=by walk_at "sc"
abbrev S6(q:Cq)(k:Nat):=xt q "_law_same" L9 LU k
def V2(F:CZ q "_law_same" s_same f c)(a:W2 q 3):Gq q 4 f c L9 LU:=by
 refine' vo (wJ (D':=Unit) (ms:=[]) (j:=0) F V1 rfl rfl λd A b s H E e =>
   (vf (vw (vC (CW (vv (vA a (vj (ss 0) vg))) (A5 (QF (Hj e.units) (vY (ss 0)) (vY (ss 1)) (v0 _)))))))) λp g i h=>?_
 walk_at "wl"
 exact h
noncomputable abbrev Iu:iB:=top 31
noncomputable abbrev Iv:List Str:=["_law_many"]
def AU:vm ["_law_many","_law_pairs_here","_law_threes","_law_rows_here"] Iv (vd Iu):=by walk_at "sc"
def OX:(["_law_k"]:List Str).Nodup:=by decide +kernel
def OY:(["_law_pair"]:List Str).Nodup:=by decide +kernel
def OZ:(["_law_three"]:List Str).Nodup:=by decide +kernel
abbrev V3(q:Cq)(k:Nat):=xt q "_law_stock" Iv Nu k
def S7(F:CZ q "_law_stock" Iu f i)(B:Bn q.mg):Gq q 2 f i Iv Nu:=by
 refine' vo (wJ (D':=Unit) (ms:=[]) (j:=3) F AU rfl rfl λl A g s H E o =>
   (vt (vy 1 AU.nd (vE (vk (vN (vE 106)) (vk (vN (vE 106)) (vk (vN (vE 106)) (vk (vN (vE 106)) (vk (vN (vE 106)) (vk (vN (vE 106)) vD))))))))
   (vt (vy 2 AU.nd (vE (vk (vN (vE (vk vi 106))) (vk (vN (vE (vk vi 106))) (vk (vN (vE (vk vi 106))) (vk (vN (vE (vk vi 106))) vD))))))
   (vt (vy 3 AU.nd (CT (vY (vN (xy (Ts:=["_law_k"]) (Fr:=[]) (idx:=[]) (k:=1) (mb:=[]) (is:=[]) (cl:=[]) rfl (xE rfl B.range vi) Zk rfl (wS rfl) (λa b C c d=>(vF 0 (vp OX))) (λa b C c d=>tws_nil) (λa b C c d=>(zQ (w6 vi (vN 105))))))) (vY (vN (xy (Ts:=["_law_pair"]) (Fr:=[]) (idx:=[]) (k:=1) (mb:=[]) (is:=[1]) (cl:=[]) rfl (EB 1 (pv 1) q0q) Zk rfl (wS rfl) (λa b C c d=>(vF 0 (vp OY))) (λa b C c d=>tws_nil) (λa b C c d=>(zQ (w6 vi (ss 0)))))))))
   (vt (vy 3 AU.nd (CT (vY (vN (CT (v7 3) (vY (vN (xy (Ts:=["_law_three"]) (Fr:=[]) (idx:=[]) (k:=1) (mb:=[]) (is:=[2]) (cl:=[]) rfl (EB 2 (pv 2) q0q) Zk rfl (wS rfl) (λa b C c d=>(vF 0 (vp OZ))) (λa b C c d=>tws_nil) (λa b C c d=>(zQ (w6 vi (ss 0)))))))))) (vY (vN (vE (vk (zQ (w6 vi (vN (vE (vk vi (vk vi 106)))))) vD))))))
   (vf (vw (JE (v7 3) Hh (Hi (ss 0)))))))))) λp r t h=>?_
 walk_at "wl"
 obtain⟨m,n⟩:=h;refine#[q0q,(by rw[w8];exact wl q0q),wd (f:=λ_=>some<|some (0,[])) (λx _ K e=>e) ?_];refine#[wl q0q,wd (f:=λx=>some<|some (1,x)) (λx _ K e=>e) ?_];refine#[wl q0q,wl q0q,wd (f:=λx=>some<|some (2,x)) (λx _ K e=>e) ?_];refine#[wl q0q,wl q0q,?_];rw[YS _ m];exact n
noncomputable abbrev Dg:iB:=top 37
noncomputable abbrev Dh:List Str:=["_law_rows_here","_law_loops","_law_rank_here","_law_bag_here"]
def xk:vm ["_law_rows_here","_law_loops","_law_rank_here","_law_bag_here","_law_number","_law_edge_here","_law_beneath","_law_k","_law_kin","_law_chosen"] Dh (vd Dg):=by walk_at "sc"
def DA:(["_law_at","_law_one","_law_rank_here"]:List Str).Nodup:=by decide +kernel
def Ka:(["_law_k","_law_rank_here","_law_rows_here"]:List Str).Nodup:=by decide +kernel
abbrev O0(q:Cq)(k:Nat):=xt q "_law_edge_by" Dh A9 k
def Ma(F:CZ q "_law_edge_by" Dg f fd)(a:xt q "_law_pull" ["_law_bag_here","_law_many"] yW 3)(I:Im q 3)(J:Io q 3)(L:SR q 3)(M:YZ q 3)(B:Bn q.mg):Gq q 4 f fd Dh A9:=by
 refine' vo (wJ (D':=Unit) (ms:=[0,1,3]) (j:=6) F xk rfl rfl λae A aa s H E hr =>
   (vt (vy 4 xk.nd (vC (xj rfl B.len (v7 0))))
   (vt (vy 5 xk.nd 105)
   (vt (vJ (tw_cm Af (ss 2) vi)
   (vt (wF 1 (w6 vi (vN (vE (vk (ss 4) vD)))))
   (vf (zc 5 (pv 5))))
   vG)
   (vt (vJ (tw_cm QD (vv (vA a (vM 3 (vj vi vg)))) vi)
   (vt (zS (Ts:=["_law_at","_law_one"]) (Fr:=["_law_rank_here"]) (idx:=[2]) (k:=2) (mb:=[2]) (is:=[1]) (cl:=[("_law_rank_here",⇑s+1+1)]) 6 xk.nd rfl rfl rfl q0q rfl (EB 1 (pv 1) q0q) TU rfl (wS rfl) (λd g C U W=>(A6 0 1 (Bx rfl (wB (vp (i:=0) DA) (wB (vp (i:=1) DA) zI))) q0q q0q)) (λd g C U W=>(tws_one (tw_cm Af (ss 0) (zb GQ (ss 2) vi)))) (λd g C U W=>(ss 1)))
   (vt (wv (is:=[]) (mb:=[0,1,3]) (D1:=(OL RW)×(OL (Int×(List Int)))×Int×Bg×Int×(OL Int)×(OL (List Int))×Int×Un×Un×Unit) (D2:=(OL RW)×(OL (Int×(List Int)))×Int×Bg×Int×(OL Int)×(OL (List Int))×Int×Un×Un×Unit) (vI q0q) xV rfl (xE rfl B.range (wU (vY (vN (vE (vk vi (vk vi (vk vi (vk vi (vk vi (vk vi 106))))))))) (vv (vA a (vM 3 (vj vi vg)))))) (vF 7 (vp xk.nd))
   (vf (vJ (tw_cmL (CV hr.units) (v7 6) (vY (vN (vE (α:=(List Int)) vD))))
   (vf<|vy 5 xk.nd<|vA I<|vK 5<|vj (wU (v7 6)<|vv<|vA a<|vM 3<|vj (xj rfl B.len<|v7 6) vg) vg)
   vG)) q0q q0q)
   (vt (vJ (tw_cmL (Hj hr.units) (v7 5) (vY (vN 105)))
   (vf<|wF 1<|w6 (ss 2)<|vN<|vE<|vk (ss 4) vD)
   vG)
   (vf (zc 5 (pv 5))))))
   vG)
   (vt (zS (Ts:=["_law_k"]) (Fr:=["_law_rank_here","_law_rows_here"]) (idx:=[2,0]) (k:=1) (mb:=[1,2]) (is:=[]) (cl:=[("_law_rows_here",⇑s+1),("_law_rank_here",⇑s+1+1)]) 8 xk.nd rfl rfl rfl q0q rfl (wn (vN (vA J (vK 0 vg)))) bs2 rfl (wS rfl) (λd g C U W=>(vF 0 (vp Ka))) (λd g C U W=>(tws_one (tw_cm Af (BH (yF (wU (v7 2) (ss 0)))) (ss 1)))) (λd g C U W=>(ss 0)))
   (vt (vy 9 xk.nd (vA L (vM 3 (vK 8 vg))))
   (vt (wF 1 (w6 (ss 2) (vN (CT (v7 9) (vY (vN (vE (vk (ss 4) vD))))))))
   (vf (vw (vA M (vK 0 (vK 9 vg))))))))))))) λp Kn Ke h=>?_
 walk_at "wl"
 refine BZ λX D=>?_;obtain⟨v,hn,hq,Y,r0,r1,hk⟩:=h;refine D ?_;by_cases h0:p.2.2.1=0
 ·rw[gU<|decide_eq_true h0];refine⟨Cr q0a,?_⟩;refine hk [] [(0,[(p.1.l.length:Int)])] (Ik v q0a λr e z=>?_) (λu N=>?_) q0o
  ·cases z;exact#[r0,r1,iG,(λ_ z=>by cases z),rfl]
  ·rcases List.mem_append.mp N with z|z
   ·exact Fj<|Y u z
   ·rw[List.mem_singleton.mp z];have:=Su (rows:=p.1.l) (r:=p.2.2.1);rw[h0]at this ⊢;exact this
 ·rw[ci<|by simpa using h0];refine wZ q0q q0q λx g0 g1=>?_
  try dsimp only
  by_cases hx:x<3
  ·rw[gU<|decide_eq_true hx];refine⟨wl q0a,wd (f:=λu:Int×List Int=>if decide (u.1=p.2.2.1-1)=true then some u.2 else none) (λu _ K o=>?_) ?_⟩
   ·show if decide (u.1=p.2.2.1-1)=true then K ↑u.2 _ else K none _;by_cases z:decide (u.1=p.2.2.1-1)=true
    ·rw[gU z]at o ⊢;exact o
    ·rw[ci z]at o ⊢;exact o
   ·have ly:(p.2.1.l.filterMap λu:Int×List Int=>if decide (u.1=p.2.2.1-1)=true then some u.2 else none).length<=100:=iK (List.length_filterMap_le _ _) hq
    have Z:∀z∈(p.2.1.l.filterMap λu:Int×List Int=>if decide (u.1=p.2.2.1-1)=true then some u.2 else none),Lp p.1.l (p.2.2.1-1,z):=λz hz=>by
     obtain⟨u,N,e⟩:=List.mem_filterMap.mp hz;by_cases q:decide (u.1=p.2.2.1-1)=true
     ·rw[gU q]at e;cases e;rw[<- jV q];exact Y u N
     ·rw[ci q]at e;cases e
    generalize (p.2.1.l.filterMap λu:Int×List Int=>if decide (u.1=p.2.2.1-1)=true then some u.2 else none)=ys at ly Z;refine wZ q0q q0q λs g2 g3=>?_;refine BZ λX D=>?_;obtain⟨m,m1,_,m3⟩:=yB (l:=[(2:Int),2,2,2,0,1,3,4]) g2 (by simpa using g3);refine D ?_;refine#[m,m1,#[by simp at m3;lia,by simp at m3;lia],?_];refine vL (λ(r:List Int) (b:OL RW×OL 90×Int×Bg×Int×OL Int×OL (List Int)×WL.Un×WL.Un×WL.Un×Unit)=>b.1=p.1/\b.2.1=p.2.1/\b.2.2.1=p.2.2.1/\b.2.2.2.2.1=(p.1.l.length:Int)/\b.2.2.2.2.2.2.1.l=ys/\Lp p.1.l (p.2.2.1-1,b.2.2.2.2.2.1.l)) (yY 0 m) #[rfl,rfl,rfl,rfl,rfl,iG,(λ_ z=>by cases z),rfl] ?_ ?_
    ·intro y r;refine a0l λb1 b2 b3 b4 b5 O b7 b8=>?_;rintro _ ⟨Q,R,S,T,e5,n⟩ K o;dsimp only at Q R S T e5 n ⊢;subst e5;by_cases q:b7.l=[]
     ·rw[ci<|by simp[q]];exact o _ #[Q,R,S,T,rfl,n]
     ·rw[gU<|by simp[q]];have:=List.length_pos_iff.mpr q;refine wZ q0a q0a λt t0 t1=>?_;refine BZ λX D=>?_;obtain⟨z,z1,_,z3⟩:=yB (l:=b7.l) t0 t1;have G:=Z z z3;have s1:=wE n.1<|n.sub q0a;have s2:=wE G.1<|G.sub q0a;refine D ?_;rw[w8]at s1 s2;have s1:O.l.length<=35:=s1;have s2:z.length<=35:=s2;refine⟨z,z1,LV n.1 G.1 (n.sub q0a)<|G.sub q0a,o _ ⟨Q,R,S,T,rfl,?_⟩⟩;show Lp p.1.l (p.2.2.1-1,jn O.l z);have nn:∀c,(∃e,rowAt p.1.l c=some (p.2.2.1-1,e))->(eb p.1.l c).Nodup:=λc ⟨e,he⟩=>by rw[yX he];exact vr (v.Ss he).1
      refine#[Hr n.1 G.1,λc P=>?_,?_]
      ·rcases Hq.mp P with⟨w,_⟩|⟨w,_⟩
       ·exact n.2.1 c w
       ·exact G.2.1 c w
      ·show wg (eb p.1.l) (jn O.l z)=[];rw[QY n.1 G.1,Cf n.1 G.1 (λc P=>nn c<|n.2.1 c P)<|λc P=>nn c<|G.2.1 c P,show wg (eb p.1.l) O.l=[] from n.2.2,show wg (eb p.1.l) z=[] from G.2.2];rfl
    ·refine a0l λb1 b2 b3 b4 b5 O b7 b8=>?_;rintro⟨Q,R,S,T,e5,n⟩;dsimp only at Q R S T e5 n ⊢;subst Q R S T
     have va:Vr (p.1.l++[↑(p.2.2.1,O.l)]):=Ik v q0a λr e z=>by
      cases z;exact#[r0,r1,n.1,n.2.1,n.2.2]
     by_cases q:O.l=[]
     ·rw[gU<|decide_eq_true q];refine⟨Cr q0a,hk O.l [(p.2.2.1,[(p.1.l.length:Int)])] va (λu N=>?_) q0o⟩;rcases List.mem_append.mp N with z|z
      ·exact Fj<|Y u z
      ·rw[List.mem_singleton.mp z,q];exact Su
     ·rw[ci<|by simpa using q];have:=hk O.l [] va (λu N=>Fj<|Y u<|by simpa using N) q0o;rw[ko]at this;exact this
  ·rw[ci<|by simpa using hx];refine⟨(show p.1.l.length<1000 by lia),wl (by have:=xO p.1.l;show (CA p.1.l).length<=1000;lia),wK (q:=λk=>decide ((rowAt p.1.l k).map (·.1)=↑p.2.2.1)) (λk ab K o=>?_) ?_⟩
   ·obtain⟨y,Z⟩:=Option.isSome_iff_exists.mp<|xo.mp ab;refine#[_,(vz Z).2.2.2,y,rfl,?_];rw[Z]at o;show if decide (y.1=p.2.2.1)=true then _ else _;by_cases z:y.1=p.2.2.1
    ·rw[gU<|by simp[z]]at o ⊢;exact o
    ·rw[ci<|by simpa using z]at o ⊢;exact o
   ·have hs:=iI (λk=>decide ((rowAt p.1.l k).map (·.1)=↑p.2.2.1))<|CA p.1.l;have af:=xO p.1.l;refine⟨(show ((CA p.1.l).filter _).length<60 by lia),λl l1 l2=>?_⟩
    have hl:∀c∈l,∃e,rowAt p.1.l c=↑(p.2.2.1,e):=λc P=>by
     have:=(List.mem_filter.mp<|l2 c P).2
     cases e:rowAt p.1.l c with
     |none=>rw[e]at this;simp at this
     |some y =>
      rw[e]at this;have this:y.1=p.2.2.1:=by simpa using this
      exact#[y.2,by rw[<- this]]
    obtain⟨c1,c2,c3⟩:=OT v l1 hl;have ll:l.length<=((CA p.1.l).filter λk=>decide ((rowAt p.1.l k).map (·.1)=↑p.2.2.1)).length:=wE l1 l2;refine#[wl (show l.length+1<=1000 by lia),Cr q0a,v,λc P=>?_,?_]
    ·obtain⟨e,he⟩:=hl c P;show (rowAt p.1.l c).isSome=true;rw[he];rfl
    ·refine hk _ [(p.2.2.1,l++[(p.1.l.length:Int)])] (Ik v q0a λr e z=>?_) (λu N=>?_) q0o
     ·cases z;exact#[r0,r1,vZ _ _,c1,c2]
     ·rcases List.mem_append.mp N with z|z
      ·exact Fj<|Y u z
      ·rw[List.mem_singleton.mp z];exact c3
noncomputable abbrev Mb:iB:=top 38
noncomputable abbrev Mc:List Str:=["_law_bag_here","_law_most"]
def Aa:vm ["_law_bag_here","_law_most","_law_rows_here","_law_k","_law_loops","_law_rank_here"] Mc (vd Mb):=by walk_at "sc"
def S8:(["_law_k"]:List Str).Nodup:=by decide +kernel
abbrev Y1(q:Cq)(k:Nat):=xt q "_law_rows" Mc Sq k
def V4(F:CZ q "_law_rows" Mb f fd)(i:xt q "_law_pull" ["_law_bag_here","_law_many"] yW 4)(G:V3 q 4)(L:YY q 4)(w:O0 q 4)(B:Bn q.mg):Gq q 5 f fd Mc Sq:=by
 refine' vo (wJ (D':=Unit) (ms:=[0]) (j:=4) F Aa rfl rfl λaa A X s H E hr =>
   (vt (vy 2 Aa.nd (vE (α:=RW) vD))
   (vt (vJ (tw_cm Af (vv (vA i (vM 0 (vj vi vg)))) vi)
   (vf<|vy 2 Aa.nd<|vA G<|vj (vv<|vA i<|vM 0<|vj vi vg) vg)
   vG)
   (vt (zS (Ts:=["_law_k"]) (Fr:=[]) (idx:=[]) (k:=1) (mb:=[]) (is:=[]) (cl:=[]) 4 Aa.nd rfl rfl rfl q0q rfl (xE rfl B.range (xj rfl B.len (v7 2))) Zk rfl (wS rfl) (λM N C ex pn=>(vF 0 (vp S8))) (λM N C ex pn=>(tws_one (tw_cm QD (ss 0) vi))) (λM N C ex pn=>(w6 vi (vN (vE (vk (ss 0) vD))))))
   (vt (vJ (tw_cm WQ (xj rfl B.len (v7 2)) vi)
   (vf<|vy 4 Aa.nd<|CT (v7 4)<|vY<|vN<|vE<|vk (w6 vi<|vN<|vE<|vk vi<|vk vi<|vk vi vD)<|vk (w6 vi<|vN<|vE<|vk vi<|vk vi<|vk vi vD)<|vk (w6 vi<|vN<|vE<|vk vi<|vk vi<|vk vi vD) vD)
   vG)
   (vt (wv (is:=[]) (mb:=[0]) (D1:=Bg×Int×(OL RW)×Int×(OL (Int×(List Int)))×Un×Unit) (D2:=Bg×Int×(OL RW)×Int×(OL (Int×(List Int)))×Un×Unit) (vI q0q) xV rfl (xE rfl B.range (vv (vA i (vM 0 (vj (zb zJ (ss 1) vi) vg))))) (vF 3 (vp Aa.nd))
   (vf (vJ (tw_cm Af (vv (vA i (vM 0 (vj vi vg)))) vi)
   (vf<|wF 2 UI)
   (JC (D':=Bg×Int×(OL RW)×Int×(OL (Int×(List Int)))×Un×Unit) (vt (vy 5 Aa.nd (vA L (vM 0 vg)))
   (vf (wF 2 (zQ (w6 (ss 5) (vN (vA w (vM 2 (vM 4 (vj (ss 5) (vM 0 vg)))))))))))))) q0q q0q)
   (vf (zc 2 (pv 2))))))))) λp W I h=>?_
 walk_at "wl"
 obtain⟨hm,hk⟩:=h
 have S:∀(a:List RW) (o:List 90) (n:Int),n<=20->Vr a->a.length<=15->(∀u∈o,Lp a u)->o.length<=20 ->
   Hl (λ(x:Int) (b:Bg×Int×OL RW×WL.Un×OL 90×WL.Un×Unit) J (Kr:OL RW->Bg×WL.Un×Unit->Prop) I =>
    yW (b.1,9,()) (λx d=>if decide (x=8)=true then b.2.2.1.l.length<hJ/\J (d.1,b.2.1,#[b.2.2.1.l++[none]],#[],b.2.2.2.2.1,b.2.2.2.2.2.1,b.2.2.2.2.2.2) else
     Ic (d.1,()) (λx d=>A9 (b.2.2.1,b.2.2.2.2.1,x,d.1,()) (λO d=>d.1.l.length<hJ/\J (d.2.2.2.1,b.2.1,#[d.1.l++[↑(x,O.l)]],#[],d.2.1,#[],b.2.2.2.2.2.2)) λC d=>I C (d.2.2.2.1,#[],())) λC d=>I C (d.1,#[],())) λC d=>I C (d.1,#[],()))
   (yY 0 n) (#[],p.2.1,#[a],#[],#[o],#[],p.2.2) (λT=>W T.2.2.1 (T.1,#[],())) W I:=by
  intro a o n hn v hl Y ab;refine vL (λ(r:List Int) (b:Bg×Int×OL RW×WL.Un×OL 90×WL.Un×Unit)=>Vr b.2.2.1.l/\(∀u∈b.2.2.2.2.1.l,Lp b.2.2.1.l u)/\b.2.2.1.l.length+r.length<=35/\b.2.2.2.2.1.l.length+r.length<=100) (yY 0 n) #[v,Y,(by rw[w8];show a.length+_<=35;lia),(by rw[w8];show o.length+_<=100;lia)] ?_ ?_
  ·rintro y r b _ ⟨R,g2,g3,g4⟩ K D;rw[iz]at g3 g4;refine wZ q0q q0q λs s0 s1=>?_;dsimp only;by_cases q:s=8
   ·rw[gU<|decide_eq_true q];refine⟨Cr q0a,D _ ⟨Ik R q0a (λr e z=>by cases z),λu P=>Fj<|g2 u P,?_,?_⟩⟩
    ·show (b.2.2.1.l++[none]).length+r.length<=35;rw[ig,iw]
     lia
    ·show b.2.2.2.2.1.l.length+r.length<=100
     lia
   ·rw[ci<|by simpa using q];intro t t0 t1;refine⟨R,(show b.2.2.1.l.length<=34 by lia),(show b.2.2.2.2.1.l.length<=100 by lia),g2,t0,t1,λe u v1 v2 v3=>#[Cr (show b.2.2.1.l.length<1000 by lia),D _ #[v1,v2,?_,?_]]⟩
    ·show (b.2.2.1.l++[↑(t,e)]).length+r.length<=35;rw[ig,iw]
     lia
    ·show (b.2.2.2.2.1.l++u).length+r.length<=100;rw[ig]
     lia
  ·rintro b ⟨R,_,g3,_⟩;exact hk _ R q0a
 have Q:∀(a:List RW) (U:List 90),Vr a->a.length<=15->(∀u∈U,Lp a u)->U.length<=20->∀g:Bg,yW (g,p.2.1+1,()) (λx d=>(-2 ^ 62<=x/\x<2 ^ 62)/\Hl (λ(x:Int) (b:Bg×Int×OL RW×WL.Un×OL 90×WL.Un×Unit) J (Kr:OL RW->Bg×WL.Un×Unit->Prop) I =>
    yW (b.1,9,()) (λx d=>if decide (x=8)=true then b.2.2.1.l.length<hJ/\J (d.1,b.2.1,#[b.2.2.1.l++[none]],#[],b.2.2.2.2.1,b.2.2.2.2.2.1,b.2.2.2.2.2.2) else
     Ic (d.1,()) (λx d=>A9 (b.2.2.1,b.2.2.2.2.1,x,d.1,()) (λO d=>d.1.l.length<hJ/\J (d.2.2.2.1,b.2.1,#[d.1.l++[↑(x,O.l)]],#[],d.2.1,#[],b.2.2.2.2.2.2)) λC d=>I C (d.2.2.2.1,#[],())) λC d=>I C (d.1,#[],())) λC d=>I C (d.1,#[],()))
   (yY 0 x) (d.1,p.2.1,#[a],#[],#[U],#[],p.2.2) (λT=>W T.2.2.1 (T.1,#[],())) W I) (λC d=>I C (d.1,#[],())):=by
  intro a U v l1 Y l2 g;exact wZ q0a q0a λr g0 R=>#[#[q0a,q0a],S a U r q0a v l1 Y l2]
 refine wZ q0q q0q λx g0 R=>?_;dsimp only;by_cases hx:x=1
 ·rw[gU<|decide_eq_true hx];refine wZ q0q q0q λm m0 m1=>#[m0,?_];dsimp only;have c:=List.all_eq_true.mp VP m.toNat<|List.mem_range.mpr q0a;unfold chk at c;simp only[iU,Bool.or_eq_true,iW]at c;refine BZ λae Z=>?_;obtain⟨⟨⟨⟨c1,c2⟩,c3⟩,c4⟩,c5⟩:=c;have v:=SE c1;refine Z ?_;refine#[#[q0a,q0a],(by rw[w8];exact wl q0a),wd (f:=λk:Int=>if decide (k<4)=true then some (0,[k]) else none) (λk _ K D=>?_) ?_]
  ·show if decide (k<4)=true then K ↑(0,[k]) _ else K none _;by_cases z:decide (k<4)=true
   ·rw[gU z]at D ⊢;exact D
   ·rw[ci z]at D ⊢;exact D
  ·have l0:∀u∈Zn (CG.take m.toNat).length,Lp (CG.take m.toNat) u:=λu P=>SA<|List.all_eq_true.mp c2 u P;by_cases h9:9<((CG.take m.toNat).length:Int)
   ·rw[gU<|decide_eq_true h9];have c5:lp1.all (LpB<|CG.take m.toNat)=true:=c5.elim (λz=>ii z q0a) id;refine#[wl (show (Zn (CG.take m.toNat).length).length+3<=1000 by lia),Q _ (Zn (CG.take m.toNat).length++lp1) v c4 (λu P=>?_) ?_ _]
    ·rcases List.mem_append.mp P with z|z
     ·exact l0 u z
     ·exact SA<|List.all_eq_true.mp c5 u z
    ·rw[ig];show _+3<=20
     lia
   ·rw[ci<|by simpa using h9];exact Q _ (Zn (CG.take m.toNat).length) v c4 l0 q0a _
 ·rw[ci<|by simpa using hx];refine⟨⟨q0q,q0q⟩,wl q0q,wd (f:=λk:Int=>if decide (k<4)=true then some (0,[k]) else none) (λk _ K D=>?_) ?_⟩
  ·show if decide (k<4)=true then K ↑(0,[k]) _ else K none _;by_cases z:decide (k<4)=true
   ·rw[gU z]at D ⊢;exact D
   ·rw[ci z]at D ⊢;exact D
  ·exact Q [] [] (SE rfl) q0q (λu P=>by cases P) q0q _
noncomputable abbrev Md:iB:=top 39
noncomputable abbrev Me:List Str:=["_law_body","_law_rows_here"]
def Iw:vm ["_law_body","_law_rows_here","_law_number","_law_row_here"] Me (vd Md):=by walk_at "sc"
abbrev Y2(q:Cq)(k:Nat):=xt q "_law_fill" Me (Sr) k
set_option tactic.hygienic true in
def V5(F:CZ q "_law_fill" Md f W)(ct:A7 q.K C)(a:a0Q q 8)(g:VG q 8)(B:Bn q.mg):Gq q 9 f W Me (Sr):=by
 refine' vo (wJ (D':=Unit) (ms:=[]) (j:=2) F Iw rfl rfl λX A D s H E hr =>
   (vt (wv (is:=[]) (mb:=[]) (D1:=(Bd C true)×(List RW)×Int×RW×Unit) (D2:=(Bd C true)×(List RW)×Int×RW×Unit) (vI q0q) xV rfl (U6 rfl B.enumerate (ss 1)) (A6 2 3 (Bx rfl (wB (vp (i:=2) Iw.nd) (wB (vp (i:=3) Iw.nd) zI))) q0q q0q)
   (vf (vJ (tw_cm Yf (ss 3) La)
   (vt (wj (vv (wy 0 a (vj vi (vj (vN 105) vg)))))
   (vf (wj (vv (wy 0 g (vj (ss 2) vg))))))
   (vf (wj (vv (wy 0 a (vj (BH (yF (ss 3))) (vj (vN (DP rfl B.list (vY (Ax (yF (ss 3)))))) vg)))))))) q0q q0q)
   (vf (zc 0 (pv 0))))) λp Kn Ke h=>?_
 walk_at "wl"
 obtain⟨Y,v,Z⟩:=h;refine vL (λ(r:List (Int×RW)) (b:B0×List RW×WL.Un×WL.Un×Unit)=>∃k,r=Oq k (p.2.1.drop k)/\k<=p.2.1.length/\yh b.1 (p.2.1.take k)/\b.1.ht=[]/\b.1.th=[]) (Oq 0 p.2.1) #[0,rfl,jj _,?_] ?_ ?_
 ·show yh p.1 []/\p.1.ht=[]/\p.1.th=[];rw[Y];exact#[VR,rfl,rfl]
 ·rintro x r b _ ⟨k,e,O,c,m,n⟩ K hK
  have l:k<p.2.1.length:=by
   rcases Nat.lt_or_ge k p.2.1.length with z|z
   ·exact z
   ·rw[List.drop_of_length_le z]at e;cases e
  rw[ot l]at e;have e1:x=((k:Int),p.2.1[k]):=by cases e;rfl
  have e2:r=Oq (k+1) (p.2.1.drop<|k+1):=by cases e;rfl
  have tk:p.2.1.take (k+1)=p.2.1.take k++[p.2.1[k]]:=(List.take_append_getElem l).symm;have G:(p.2.1.take k).length=k:=List.length_take_of_le O;have I:=VO v k;have next:∀o:B0,yh o (p.2.1.take k++[p.2.1[k]])->o.ht=[]->o.th=[]->K (o,b.2.1,#[],#[],b.2.2.2.2):=λo h m1 m2=>hK _ #[k+1,e2,l,by rw[tk];exact h,m1,m2]
  have P:rowAt p.2.1 (k:Int)=p.2.1[k]:=Fi q0a (by rw[lU];exact jD l);have ln:=v.ln;subst e1;dsimp only
  cases z:p.2.1[k] with
  |none =>
   rw[gU<|show (none:RW).isNone=true from rfl];rw[z]at next
   refine Sz c I (oK 0) q0q iG (λ_ q=>by cases q) rfl λQ J u w=>?_;have R:Vr (p.2.1.take k++[↑(0,[])]):=a0W I q0a;refine VN J R (by have:=wo (rows:=p.2.1.take k) (z:=↑(0,[]));rw[G]at this;rw[this];rfl) (λh t=>?_) (by unfold xv;rw[u,w,m,n];rfl) λx2 S g3 g4=>next x2 ?_ (g3.trans<|u.trans m)<|g4.trans<|w.trans n
   ·cases q:rowAt (p.2.1.take k++[↑(0,[])]) h with
    |none=>unfold eb at t;rw[q]at t;cases t
    |some y =>
     rw[yX q]at t;have T:=((R.ok h y.1 y.2 q).2.2.2.1 _ t).1;have L:=(vz q).2.1;rw[ig,iw,G]at L
     lia
   ·rw[lU,List.set_append_right _ _ q0a,G,qR]at S;exact S
  |some y =>
   rw[ci q0o];rw[z]at next P
   refine BZ λaa M=>?_;obtain⟨T,L,a3,U,a5⟩:=v.ok k y.1 y.2 P;refine M ?_;refine#[y,rfl,y,rfl,Sz c I T L a3 (λd N=>?_) ?_ λQ J u w=>next Q J (u.trans m)<|w.trans n]
   ·obtain⟨q1,e',q2⟩:=U d N;exact#[e',by rw[yd,gU q1];exact q2]
   ·rw[<- a5];refine xY λd N=>?_;unfold eb;rw[yd,gU (U d N).1]
 ·rintro b ⟨k,e,O,c,m,n⟩
  have:k=p.2.1.length:=by
   rcases Nat.lt_or_ge k p.2.1.length with z|z
   ·rw[ot z]at e;cases e
   ·lia
  rw[this,u4]at c;exact Z _ c m n
noncomputable abbrev Mg:iB:=top 40
noncomputable abbrev Mh:List Str:=["_law_field","_law_rows_here","_law_bag_here","_law_tries"]
def zi:vm ["_law_field","_law_rows_here","_law_bag_here","_law_tries","_law_arrows","_law_k","_law_highs","_law_gone","_law_high","_law_low"] Mh (vd Mg):=by walk_at "sc"
def S9:(["_law_k","_law_rows_here"]:List Str).Nodup:=by decide +kernel
abbrev Y3(q:Cq)(k:Nat):=xt q "_law_ties" Mh (SG) k
def V6(F:CZ q "_law_ties" Mg f fd)(ct:A7 q.K C)(u:Io q 6)(g:xt q "_law_pull" ["_law_bag_here","_law_many"] yW 6)(n:VE q 6)(O:a0S q 6)(a:a0I q XT XR "Tied" "RingOfArrows")(B:Bn q.mg):Gq q 7 f fd Mh (SG):=by
  refine' vo (wJ (D':=Unit) (ms:=[0,2]) (j:=6) F zi rfl rfl λaf A Z s H E W =>
      (vt (vy 4 zi.nd (vE (α:=(Int×Int)) vD))
      (vt (zS (Ts:=["_law_k"]) (Fr:=["_law_rows_here"]) (idx:=[1]) (k:=1) (mb:=[1]) (is:=[]) (cl:=[("_law_rows_here",⇑s+1)]) 6 zi.nd rfl rfl rfl q0q rfl (wn (vN (vA u 86))) TU rfl (wS rfl) (λJ L C ex pn=>(vF 0 (vp (i:=0) S9 rfl (kH rfl)) q0q)) (λJ L C ex pn=>(tws_one (tw_cmL (CV W.units) (vY (Ax (yF (wU (vY (ss 1)) (ss 0))))) (vY (vN 105)) (v0 _)))) (λJ L C ex pn=>(ss 0)))
      (vt (wv (is:=[]) (mb:=[0,2]) (D1:=(Bd C true)×(List 57)×Bg×Int×96×Int×(OL Int)×Un×Un×Un×Unit) (D2:=(Bd C true)×(List 57)×Bg×Int×96×Int×(OL Int)×Un×Un×Un×Unit) (vI q0q) xV rfl (xE rfl B.range (ss 3)) (vF 5 (vp (i:=5) zi.nd rfl (kH rfl)) q0q)
      (vf (vJ (tw_w (Ld (tw_cmL (CV W.units) (v7 4) (vY (vN (vE (α:=(Int×Int)) vD))) (v0 _)) (Hk (tw_cm Af (vv (vA g (vM 2 (vj vi vg)))) vi (v0 _)))))
      (JC (D':=(Bd C true)×(List 57)×Bg×Int×96×Int×(OL Int)×Un×Un×Un×Unit) (vt (vy 7 zi.nd (vC (OC 4 (pv 4) (vv (vA g (vM 2 (vj (xj rfl B.len (v7 4)) vg)))) (λh=>WC mC o5 o6 P0 (pv 4) h))))
      (vf (wj (vv (wy 0 n (vj (BH (ss 7)) vg)))))))
      (DV (w':=λ(d:(Bd C true)×(List 57)×Bg×Int×96×Int×(OL Int)×Un×Un×Un×Unit) (Kn:(Bd C true)×(List 57)×Bg×Int×96×Int×(OL Int)×Un×Un×Un×Unit->Prop) _ _=>(yh d.1 d.2.1/\Vr d.2.1/\d.2.1.length<=35/\Arr d.1 d.2.2.2.2.1.l/\d.2.2.2.2.2.2.1.l=(CA d.2.1).filter (λk=>!decide (eb d.2.1 k=[])))/\∀M:(Bd C true)×(List 57)×Bg×Int×96×Int×(OL Int)×Un×Un×Un×Unit,(M.2.1=d.2.1/\M.2.2.2.2.2.2.1=d.2.2.2.2.2.2.1/\yh M.1 d.2.1/\Arr M.1 M.2.2.2.2.1.l)->Kn M) (vf (vJ (tw_cmL (CV W.units) (v7 6) (vY (vN 105)) (v0 _))
      (JC (D':=(Bd C true)×(List 57)×Bg×Int×96×Int×(OL Int)×Un×Un×Un×Unit) (vt (vy 8 zi.nd (vC (wU (v7 6) (vv (vA g (vM 2 (vj (xj rfl B.len (v7 6)) vg)))))))
      (vt (vy 9 zi.nd (vC (wU (vY (Ax (yF (wU (vY (ss 1)) (ss 8))))) (vv (vA g (vM 2 (vj (xj rfl B.len (vY (Ax (yF (wU (vY (ss 1)) (ss 8)))))) vg)))))))
      (vt (Vj rfl (Yz rfl a.m1 rfl a.m2 a.x1 a.x2) (a0H 0 O W ct.cl (λE1 Φ aa=>(pv 0)) (λE1 Φ aa=>(vj (ss 9) (vj (ss 8) vg)))) (λx' =>
      (vf (vy 8 zi.nd (vC (Lh vi))))))
      (vf (vJ (tw_cm QE (ss 8) vi (v0 _))
      (vf<|wF 4<|w6 (ss 9)<|ss 8)
      vG))))))
      vG)) (by
   refine QQ λQ R b3 b4 P b6 S b8 b9 T U=>?_
   intro Kn Kr Ke h
   walk_at "wl"
   refine BZ λx m=>?_
   obtain⟨⟨c,v,N,A,o⟩,t⟩:=h
   refine m ?_
   dsimp only at c v N A o t ⊢
   have sl:hJ=16777216:=i7
   have al:=A.OV c N
   by_cases q:S.l=[]
   · rw[ci<|by simp[q]]
     exact t _ #[rfl,rfl,c,A]
   · rw[gU<|by simp[q]]
     have l7:S.l.length<=35:=by rw[o];have:=iI (λk=>!decide (eb R k=[]))<|CA R;have:=xO R;omega
     have p7:0<S.l.length:=List.length_pos_iff.mpr q
     refine wZ q0d q0d λi X i1=>?_
     refine BZ λx m=>?_
     obtain⟨hg,a1,a2,Y⟩:=yB X i1
     refine m ?_
     rw[o,ja]at Y
     obtain⟨y,G⟩:=Option.isSome_iff_exists.mp<|xo.mp Y.1
     have yn:y.2≠[]:=λz=>by have:=Y.2;rw[yX G,z]at this;simp at this
     have yl:y.2.length<=95:=by
         exact SK v G
     have py:0<y.2.length:=List.length_pos_iff.mpr yn
     refine#[hg,a1,_,(vz G).2.2.2,y,rfl,_,(vz G).2.2.2,y,rfl,wZ q0d q0d λi' ab ae=>?_]
     refine BZ λx m=>?_
     obtain⟨lo,l1,l2,l3⟩:=yB ab ae
     refine m ?_
     refine#[lo,l1,YX A c v N G l3 (λD hD=>#[hD,?_]) λx' c' A'=>?_]
     · rw[ci<|λz => ii (jV z) q0d]
       exact t _ #[rfl,rfl,c,A]
     · rw[gU<|decide_eq_true (vz G).1]
       exact#[by show P.l.length<hJ;omega,t _ #[rfl,rfl,c',A']])))) q0q q0q)
      (vf (vw (Lz rfl B.sorted (v7 4)))))))) λp Kn Ke h=>?_
  walk_at "wl"
  refine BZ λx m=>?_
  obtain⟨c0,v,N,n1,n2,tr,h⟩:=h
  have sl:hJ=16777216:=i7
  refine m ?_
  refine#[by show p.2.1.length<1000;omega,by show (CA p.2.1).length<=hJ;have:=xO p.2.1;omega,?_]
  refine wK (q:=λk=>!decide (eb p.2.1 k=[])) (λk hk K t=>?_) ?_
  · obtain⟨y, G⟩ := Option.isSome_iff_exists.mp (xo.mp hk)
    refine#[_,(vz G).2.2.2,y,rfl,?_]
    rw[yX G]at t
    exact t
  dsimp only
  refine#[q0d,?_]
  refine vL (λ(_:List Int) (b:B0×List RW×Bg×Int×OL (Int×Int)×WL.Un×OL Int×WL.Un×WL.Un×WL.Un×Unit)=>b.2.1=p.2.1/\b.2.2.2.2.2.2.1.l=(CA p.2.1).filter (λk=>!decide (eb p.2.1 k=[]))/\yh b.1 p.2.1/\Arr b.1 b.2.2.2.2.1.l) _ #[rfl,rfl,c0,VS (c0.okb v) n1 n2] ?_ ?_
  · intro k r
    refine QQ λQ R b3 b4 P b6 S b8 b9 T U=>?_
    rintro _ ⟨rfl,o,c,A⟩ K t
    dsimp only at o c A ⊢
    have al:=A.OV c N
    by_cases e5:P.l=[]
    · rw[ci (by simp[e5]), ci h8]
      exact#[#[c,v,N,A,o],λM I=>t _ #[I.1,by rw[I.2.1];exact o,I.2.2.1,I.2.2.2]]
    · rw[gU<|by simp[e5]]
      refine wZ q0q q0q λz z0 z1=>?_
      by_cases e8:z=8
      · rw[gU<|decide_eq_true e8]
        have p5:0<P.l.length:=List.length_pos_iff.mpr e5
        refine wZ q0d q0d λi X i1=>?_
        refine BZ λx m=>?_
        obtain⟨y,a1,a2,Y⟩:=yB X i1
        refine m ?_
        exact#[X,y,a2,q0d,SM A c a2 λw x' c' A'=>t _ #[rfl,o,c',A']]
      · rw[ci<|by simpa using e8]
        exact#[#[c,v,N,A,o],λM I=>t _ #[I.1,by rw[I.2.1];exact o,I.2.2.1,I.2.2.2]]
  · refine QQ λQ R b3 b4 P b6 S b8 b9 T U => ?_
    rintro⟨rfl,o,c,A⟩
    have c:yh Q p.2.1:=c
    have A:Arr Q P.l:=A
    have al:=A.OV c N
    refine#[by show P.l.length<64;omega,λps hp so=>h Q ps c #[A.ok,A.nt,(hp.map _).trans A.pm,λe he=>A.hd e<|hp.mem_iff.mp he]<|YW so]
noncomputable abbrev Ix:iB:=top 41
abbrev Iy:List Str:=["_law_bag_here","_law_most"]
def CD:vm ["_law_bag_here","_law_most","_law_rows_here","_law_field","_law_arrows"] Iy (vd Ix):=by walk_at "sc"
abbrev V7(q:Cq)(k:Nat):=xt q "_law_house" Iy (NA) k
def Ta(F:CZ q "_law_house" Ix f D)(e:Mk q.K C g)(i:vR q.P q.w q.K q.mg q.base (vX q.P q.w) 8 g b ["self"] (DX C))(k:Binds q.K b ["self"] [])(d:q.mg "Field"=↑(.ref C))(l:Y1 q 9)(m:Y2 q 9)(o:Y3 q 9)(r:xt q "_law_pull" ["_law_bag_here","_law_many"] yW 9)(B:Bn q.mg):Gq q 10 f D Iy (NA):=by
 refine' vo (wJ (D':=Unit) (ms:=[0]) (j:=3) F CD rfl rfl λG A u s H E I =>
   (vt (vy 2 CD.nd (vA l (vM 0 86)))
   (vt (vy 3 CD.nd (vA m (UP (Rl e i I rfl d k Bp) (vK 2 vg))))
   (vt (vy 4 CD.nd (vA o (vM 3 (vK 2 (vM 0 (vj (vv (vA r (vM 0 (vj (zb zJ (Qy BA vi (xj rfl B.len (v7 2))) vi) vg)))) vg))))))
   (vf (Ve 3 2 4 (pv 3) (pv 2) (pv 4))))))) λp R S h=>?_
 walk_at "wl"
 obtain⟨J,h⟩:=h;refine#[J,λt v y=>?_];refine#[rfl,v,λx c L M=>?_];dsimp only;refine#[.inl q0q,wZ (n:=2*(t.length:Int)+1) q0d q0d λz T U=>?_];exact#[c,v,y,L,M,by show 0<=z/\z<=1000;omega,λN a O A Q=>h N t a O v y A Q]
noncomputable abbrev Ft:iB:=top 42
noncomputable abbrev Fv:List Str:=["_law_arrows"]
def O3:vm ["_law_arrows"] Fv (vd Ft):=by walk_at "sc"
def Fw:(["_law_low","_law_high"]:List Str).Nodup:=by decide +kernel
abbrev Tb(q:Cq)(k:Nat):=xt q "_law_tails" Fv Fp k
def O5(F:CZ q "_law_tails" Ft f l):Gq q 2 f l Fv Fp:=by
 refine' vo (wJ (D':=Unit) (ms:=[]) (j:=0) F O3 rfl rfl λm A c s H E o =>
   (vf (vw (xy (Ts:=["_law_low","_law_high"]) (Fr:=[]) (idx:=[]) (k:=2) (mb:=[]) (is:=[]) (cl:=[]) rfl (wn (ss 0)) Zk rfl (wS rfl) (λa b C d g=>(A6 0 1 (Bx rfl (wB (vp (i:=0) Fw) (wB (vp (i:=1) Fw) zI))) q0q q0q)) (λa b C d g=>tws_nil) (λa b C d g=>(ss 0)))))) λp r t h=>?_
 walk_at "wl"
 obtain⟨u,h⟩:=h;have v:hJ=16777216:=i7;refine#[q0a,?_];refine wd (f:=λ(e:Int×Int)=>↑e.1) (λe w K n=>n) ?_;rw[pc];exact h
abbrev Mi:iB:=top 43
abbrev Mj:List Str:=["_law_arrows","_law_tail"]
def Iz:vm ["_law_arrows","_law_tail","_law_low","_law_high"] Mj (vd Mi):=by walk_at "sc"
abbrev Y4(q:Cq)(k:Nat):=xt q "_law_head" Mj w_head k
def V8(F:CZ q "_law_head" Mi f k):Gq q 2 f k Mj w_head:=by
 refine' vo (wJ (D':=Unit) (ms:=[]) (j:=2) F Iz rfl rfl λl A a s H E x =>
   (vt (wv (is:=[]) (mb:=[]) (D1:=(List (Int×Int))×Int×Int×Int×Unit) (D2:=(List (Int×Int))×Int×Int×Int×Unit) (vI q0q) xV rfl (wn (ss 0)) (A6 2 3 (Bx rfl (wB (vp (i:=2) Iz.nd rfl (kH rfl)) (wB (vp (i:=3) Iz.nd rfl (kH rfl)) zI))) q0q q0q)
   (vf (vJ (tw_cm Af (ss 2) (ss 1) (v0 _))
   (vf<|vw<|vC<|ss 3)
   vG)) q0q q0q)
   (vf (vw (vC (Lh vi)))))) λp y B h=>?_
 walk_at "wl"
 obtain⟨m,n⟩:=h;refine vL (λ(r:List (Int×Int)) (b:List (Int×Int)×Int×WL.Un×WL.Un×Unit)=>b.2.1=p.2.1/\(∀e∈r,e∈p.1)/\∃e∈r,e.1=p.2.1) p.1 #[rfl,λ_ z=>z,m] ?_ ?_
 ·rintro e r b _ ⟨o,c,t⟩ K u;rw[o];by_cases q:e.1=p.2.1
  ·rw[gU<|decide_eq_true q];exact n e (c e gY) q
  ·rw[ci<|by simpa using q];refine u _ ⟨rfl,λd v=>c d<|hI _ v,?_⟩;obtain⟨d,w,g⟩:=t;rcases List.mem_cons.mp w with z|z
   ·exact ii (z▸g) q
   ·exact#[d,z,g]
 ·rintro b ⟨_,_,e,z,_⟩;cases z
noncomputable abbrev IA:iB:=top 49
abbrev IB:List Str:=["_law_arrows"]
def Tc:vm ["_law_arrows"] IB (vd IA):=by walk_at "sc"
def GL:(["_law_low","_law_high"]:List Str).Nodup:=by decide +kernel
abbrev V9(q:Cq)(k:Nat):=xt q "_law_heads" IB Il k
def Td(F:CZ q "_law_heads" IA f l)(B:Bn q.mg):Gq q 2 f l IB Il:=by
 refine' vo (wJ (D':=Unit) (ms:=[]) (j:=0) F Tc rfl rfl λm A c s H E r =>
   (vf (vw (CU rfl B.sorted (vY (vN (xy (Ts:=["_law_low","_law_high"]) (Fr:=[]) (idx:=[]) (k:=2) (mb:=[]) (is:=[]) (cl:=[]) rfl (wn (ss 0)) Zk rfl (wS rfl) (λa b C d g=>(A6 0 1 (Bx rfl (wB (vp (i:=0) GL) (wB (vp (i:=1) GL) zI))) q0q q0q)) (λa b C d g=>tws_nil) (λa b C d g=>(ss 1))))))))) λp t u h=>?_
 walk_at "wl"
 obtain⟨n,h⟩:=h;have v:hJ=16777216:=i7;refine#[q0a,?_];refine wd (f:=λ(e:Int×Int)=>↑e.2) (λe w K o=>o) ?_;rw[pc];exact#[by rw[hO];exact n,h]
noncomputable abbrev Te:iB:=top 47
abbrev Tf:List Str:=["_law_found"]
def Tg:vm ["_law_found","_law_k"] Tf (vd Te):=by walk_at "sc"
abbrev a0Y(q:Cq)(k:Nat):=xt q "_law_sum" Tf w_sum k
def Y5(F:CZ q "_law_sum" Te f o)(c:W2 q 3)(B:Bn q.mg):Gq q 4 f o Tf w_sum:=by
 refine' vo (wJ (D':=Unit) (ms:=[]) (j:=1) F Tg rfl rfl λt A d s H E m =>
   (vt (vJ (tw_not (tw_val (vv (vA c (vj (ss 0) vg)))))
   117
   vG)
   (vt (wv (is:=[]) (mb:=[]) (D1:=(List Int)×Int×Unit) (D2:=(List Int)×Int×Unit) (vI q0q) xV rfl (Gv rfl B.range vi (xj rfl B.len (vY (ss 0))) (λh=>F9 rfl B.range h)) (vF 1 (vp (i:=1) Tg.nd rfl (kH rfl)) q0q)
   (vf (vJ (tw_cm QE (wU (vY (ss 0)) (zb GQ (ss 1) vi)) (wU (vY (ss 0)) (ss 1)) (v0 _))
   117
   vG)) q0q q0q)
   (vf (vw (vC xP)))))) λp C D h=>?_
 walk_at "wl"
 obtain⟨m,G,e⟩:=h;refine YV ?_;rw[ci q0q];refine#[#[q0q,q0q,q0d,q0d],?_];refine vL (λ(r:List Int)(b:List Int×WL.Un×Unit)=>b.1=p.1/\∀k∈r,1<=k/\k<p.1.length) (yY 1 p.1.length) #[rfl,λk e=>SH e] ?_ ?_
 ·rintro k r ⟨I,J⟩ _ ⟨n,g⟩ K u;dsimp only at n ⊢;subst n;refine BZ λv l=>?_;obtain⟨a,b,w,x,y⟩:=YU m (g k gY).1 (g k gY).2;refine l ?_;refine#[a,w,b,x,?_];rw[ci<|by simpa using y];exact u _ ⟨rfl,λj z=>g j<|hI _ z⟩
 ·exact λ_ _=>e
noncomputable abbrev Fx:iB:=top 48
noncomputable abbrev Fy:List Str:=["_law_row_here","_law_keep"]
def O6:vm ["_law_row_here","_law_keep"] Fy (vd Fx):=by walk_at "sc"
def Ml:(["_law_x","_law_keep"]:List Str).Nodup:=by decide +kernel
abbrev Th(q:Cq)(k:Nat):=xt q "_law_parted" Fy Fq k
def O7(F:CZ q "_law_parted" Fx f g):Gq q 2 f g Fy Fq:=by
 refine' vo (wJ (D':=Unit) (ms:=[]) (j:=0) F O6 rfl rfl λi A c s H E o =>
   (vf (vw (xy (Ts:=["_law_x"]) (Fr:=["_law_keep"]) (idx:=[1]) (k:=1) (mb:=[1]) (is:=[]) (cl:=[("_law_keep",⇑s+1)]) rfl (wn (ss 0)) TU rfl (wS rfl) (λa b C d e=>(vF 0 (vp Ml))) (λa b C d e=>(tws_one (tw_cmI MW (ss 0) (vY (ss 1)) (by with_unfolding_all rfl)))) (λa b C d e=>(ss 0)))))) λp r t h=>?_
 walk_at "wl"
 obtain⟨l,m⟩:=h;exact#[wl l,wK (q:=λk=>decide<|k∈p.2.1) (λk _ K n=>n) m]
abbrev IC:iB:=top 50
abbrev IE:List Str:=["_law_found","_law_due"]
def Ti:vm ["_law_found","_law_due"] IE (vd IC):=by walk_at "sc"
abbrev Wa(q:Cq)(k:Nat):=xt q "_law_truth" IE Ih k
def Tj(F:CZ q "_law_truth" IC f b)(B:Bn q.mg):Gq q 2 f b IE Ih:=by
 refine' vo (wJ (D':=Unit) (ms:=[]) (j:=0) F Ti rfl rfl λc A a s H E d =>
   (vf (vw (vC (CW (yP (ty:="bool") rfl B.isinstance (AV (v:=.ty "bool") rfl B.bool qV rfl) (ss 0)) (A5 (a0a Af (ss 0) (ss 1) (v0 _)))))))) λp e g h=>?_
 walk_at "wl"
 rw[gU rfl];exact h
abbrev Ab:iB:=top 51
abbrev Ac:List Str:=["_law_body","_law_rows_here"]
def zl:vm ["_law_body","_law_rows_here","_law_cell"] Ac (vd Ab):=by walk_at "sc"
abbrev IF(q:Cq)(k:Nat):=xt q "_law_cells_kept" Ac (CB) k
def FX(F:CZ q "_law_cells_kept" Ab f O)(L:A7 q.K C)(e:S6 q 6)(a:Io q 6)(n:Wa q 6)(o:Ir q 6)(t:Nh q 6)(g:RP q 6)(l:RO q 6)(d:VB q 6)(m:J2 q 6)(B:Bn q.mg):Gq q 7 f O Ac (CB):=by
 refine' vo (wJ (D':=Unit) (ms:=[0]) (j:=1) F zl rfl rfl λP A z s H E M =>
   (vt (vJ (tw_w (Bq (tw_not (tw_val (vv (vA e (vj (vN (Dw 0 t M L.cl Bp (pv 0))) (vj (vN (vA a 86)) vg)))))) (Az (tw_cm Dt (vv (Dw 0 g M L.cl Bp (pv 0))) (xj rfl B.len (vY (ss 1))) (v0 _)))))
   117
   vG)
   (vt (wv (is:=[]) (mb:=[0]) (D1:=(Bd C true)×(List 57)×Int×Unit) (D2:=(Bd C true)×(List 57)×Int×Unit) (vI q0q) xV rfl (Gv rfl B.range (Lh vi) (zb zJ (xj rfl B.len (vY (ss 1))) vi) (λh=>F9 rfl B.range h)) (vF 2 (vp (i:=2) zl.nd rfl (kH rfl)) q0q)
   (vf (vJ (tw_not (tw_val (vv (vA n (vj (vv (wy 0 l (vj (ss 2) vg))) (vj (Yh MW (ss 2) (vY (vN (vA a 86))) (by with_unfolding_all rfl)) vg))))))
   117
   vG)) q0q q0q)
   (vt (wv (is:=[]) (mb:=[0]) (D1:=(Bd C true)×(List 57)×Int×Unit) (D2:=(Bd C true)×(List 57)×Int×Unit) (vI q0q) xV rfl (wn (vN (vA a 86))) (vF 2 (vp (i:=2) zl.nd rfl (kH rfl)) q0q)
   (vt (vJ (tw_w (Bq (tw_cm Dt (vv (wy 0 d (vj (ss 2) vg))) (BH (yF (wU (vY (ss 1)) (ss 2)))) (v0 _)) (Az (tw_not (tw_val (vv (vA o (vj (vv (wy 0 d (vj (ss 2) vg))) vg))))))))
   117
   vG)
   (vf (vJ (tw_not (tw_val (vv (vA e (vj (vN (wy 0 m (vj (ss 2) vg))) (vj (Ax (yF (wU (vY (ss 1)) (ss 2)))) vg))))))
   117
   vG))) q0q q0q)
   (vf (vw (vC xP))))))) λp S T h=>?_
 walk_at "wl"
 obtain⟨c,v,h⟩:=h;have U:=v.ln;refine#[c.okb v,(show p.2.1.length<1000 by omega),CC c.ks ?_];rw[ci q0q];show if (!decide (p.1.up=(p.2.1.length:Int)))=true then _ else _;rw[ci<|by simp[c.up]];refine⟨⟨q0q,q0q,q0d,q0d⟩,?_⟩;refine vL (λ(r:List Int)(b:B0×List RW×WL.Un×Unit)=>b.1=p.1/\b.2.1=p.2.1) _ #[rfl,rfl] ?_ ?_
 ·rintro k r ⟨D,G,I⟩ _ ⟨u,w⟩ K J;dsimp only at u w ⊢;subst u w;refine#[(show p.2.1.length<1000 by omega),SF (c.a0V k) ?_];rw[ci q0q];exact J _ #[rfl,rfl]
 ·rintro⟨D,G,I⟩ ⟨u,w⟩;dsimp only at u w ⊢;subst u w;refine#[(show p.2.1.length<1000 by omega),?_];refine vL (λ(r:List Int)(b:B0×List RW×WL.Un×Unit)=>b.1=p.1/\b.2.1=p.2.1/\∀k∈r,(rowAt p.2.1 k).isSome=true) _ #[rfl,rfl,λk Q=>xo.mp Q] ?_ ?_
  ·rintro k r ⟨D,G,I⟩ _ ⟨u,w,N⟩ K J;dsimp only at u w ⊢;subst u w;obtain⟨y,x⟩:=Option.isSome_iff_exists.mp<|N k gY;refine Nz c x ⟨_,(vz x).2.2.2,y,rfl,?_⟩;rw[ci q0o];refine Nz c x<|Fo ?_;rw[ci q0q];refine OU c v x ⟨_,(vz x).2.2.2,y,rfl,CC rfl ?_⟩;rw[ci q0q];exact J _ ⟨rfl,rfl,λj R=>N j<|hI _ R⟩
  ·rintro⟨D,G,I⟩ ⟨u,w,_⟩;dsimp only at u w ⊢;subst u w;exact h
abbrev IG:iB:=top 52
abbrev IH:List Str:=["_law_found","_law_due"]
def Kc:vm ["_law_found","_law_due","_law_k"] IH (vd IG):=by walk_at "sc"
abbrev Wb(q:Cq)(k:Nat):=xt q "_law_pairs" IH NB k
def Tk(F:CZ q "_law_pairs" IG f o)(a:Ir q 3)(B:Bn q.mg):Gq q 4 f o IH NB:=by
 refine' vo (wJ (D':=Unit) (ms:=[]) (j:=1) F Kc rfl rfl λt A d s H E u =>
   (vt (vJ (tw_w (Bq (tw_not (tw_val (yP (ty:="list") rfl B.isinstance (AV (v:=.ty "list") rfl B.list ki rfl) (ss 0)))) (Az (tw_cm Dt (xj rfl B.len (vY (ss 0))) (xj rfl B.len (vY (ss 1))) (v0 _)))))
   117
   vG)
   (vt (wv (is:=[]) (mb:=[]) (D1:=(List (Int×Int))×(List (Int×Int))×Int×Unit) (D2:=(List (Int×Int))×(List (Int×Int))×Int×Unit) (vI q0q) xV rfl (xE rfl B.range (xj rfl B.len (vY (ss 1)))) (vF 2 (vp (i:=2) Kc.nd rfl (kH rfl)) q0q)
   (vt (vJ (tw_w (Bq (tw_not (tw_val (yP (ty:="tuple") rfl B.isinstance (AV (v:=.ty "tuple") rfl B.tuple qP rfl) (wU (vY (ss 0)) (ss 2))))) (Az (tw_cm Dt (Vc rfl B.len (wU (vY (ss 0)) (ss 2))) vi (v0 _)))))
   117
   vG)
   (vf (vJ (tw_w (Bq (tw_not (tw_val (vv (vA a (vj (BH (wU (vY (ss 0)) (ss 2))) vg))))) (Bq (tw_not (tw_val (vv (vA a (vj (Ax (wU (vY (ss 0)) (ss 2))) vg))))) (Az (tw_cm (Yg u.units) (wU (vY (ss 0)) (ss 2)) (wU (vY (ss 1)) (ss 2)) (v0 _))))))
   117
   vG))) q0q q0q)
   (vf (vw (vC xP)))))) λp C D h=>?_
 walk_at "wl"
 obtain⟨e,n,k⟩:=h;rw[e]at n ⊢;refine rB (ci q0q)<|rB (ci q0o) ⟨⟨q0d,q0d⟩,?_⟩;refine vL (λ(r:List Int) (b:List (Int×Int)×List (Int×Int)×WL.Un×Unit)=>b.1=p.2.1/\b.2.1=p.2.1/\∀j∈r,0<=j/\j<(p.2.1.length:Int)) _ #[rfl,rfl,λj w=>Ii w] ?_ λ_ _=>k;intro j r;refine a2z λG I J L=>?_;rintro _ ⟨l,m,g⟩ K x;dsimp only at l m ⊢;subst l m;obtain⟨y,c,_⟩:=yB (g j gY).1 (g j gY).2;exact#[y,c,rB (ci q0q) #[y,c,rB (ci q0q) #[y,c,Fo<|rB (ci q0q) ⟨y,c,Fo<|rB (ci q0q) ⟨y,c,y,c,rB (ci q0o)<|x _ ⟨rfl,rfl,λi z=>g i<|hI _ z⟩⟩⟩]]]
abbrev Mm:iB:=top 53
abbrev Mn:List Str:=["_law_field","_law_rows_here","_law_arrows"]
def Wc:vm ["_law_field","_law_rows_here","_law_arrows"] Mn (vd Mm):=by walk_at "sc"
abbrev Y6(q:Cq)(k:Nat):=xt q "_law_kept" Mn (SJ) k
def Wd{f:gV}{fd:iQ}(F:CZ q "_law_kept" Mm f fd)(ct:A7 q.K C)(II:IF q 7)(We:Wb q 7)(Tl:J5 q 7):Gq q 8 f fd Mn (SJ):=by
 refine' vo (wJ (D':=Unit) (ms:=[0]) (j:=0) F Wc rfl rfl λTN A outer s H E hr =>
   (vf (vw (vC (CW (vv (vA II (vM 0 86))) (A5 (vv (vA We (vj (vN (Dw 0 Tl hr ct.cl Bp (pv 0))) (vj (ss 2) vg)))))))))) λp Kn Ke h=>?_
 walk_at "wl"
 refine BZ λj0z j0y=>?_;obtain⟨⟨c,v,ln,A,so⟩,k⟩:=h;have al:=A.OV c ln;refine j0y ?_;refine#[c,v,rB (gU rfl) #[by show p.1.ht.length<64;omega,A.ok.nd,A.eq so,?_,k]];show ((BI<|v8 p.1).map λl=>(l,wh p.1 l)).length<64;rw[A.eq so];omega
end
noncomputable abbrev To:iB:=top 29
def Y7{K:gW}{p:JK K×Unit}{a:Bg->WL.Un×Unit->Prop}{b:gV->WL.Un×Unit->Prop}(k:a #[] (#[],())):Q8 K p a b:=k
section
variable{x:B0}{rows:List RW}{a:List (Int×Int)}
def Arr.tail(A:Arr x a){k:Int}:k∈a.map (·.1)↔k∈v8 x:=A.pm.mem_iff
def Arr.hdm(A:Arr x a){k:Int}(h:∃t∈v8 x,wh x t=k):k∈a.map (·.2):=by obtain⟨t,m,e⟩:=h;obtain⟨b,c,q⟩:=List.mem_map.mp<|A.tail.mpr m;refine List.mem_map.mpr #[b,c,?_];rw[<- e,<- q];exact(A.hd b c).symm
def Arr.hdt(A:Arr x a){k:Int}(h:k∈a.map (·.2)):∃t∈v8 x,wh x t=k:=by obtain⟨e,b,rfl⟩:=List.mem_map.mp h;exact#[e.1,A.mem b,A.hd e b]
def ND(A:Arr x a){k:Int}:k∈W0 rows a↔(107).isSome=true/\k∉v8 x/\k∉a.map (·.2):=by unfold W0;rw[ja,xo,uN,decide_eq_false_iff_not,kW,yL,A.tail,qa]
def a1u:(W0 rows a).length<=rows.length:=iK (iI _ _)<|xO rows
def Y8(A:Arr x a){k:Int}(h:k∈W0 rows a):xv x k=false:=by
 have h:=(ND A).mp h;unfold xv;rw[Nk h.2.1]
 cases e:lk x.th k with
 |none=>rfl
 |some l =>
  have b:=A.ok.th l k e;exact ii (A.hdm #[l,zX (by rw[b];rfl),by unfold wh;rw[b];rfl]) h.2.2
def Zo(A:Arr x a){k:Int}(h:k∈a.map (·.2)):k∉v8 x:=λz=>by obtain⟨t,m,e⟩:=A.hdt h;refine A.ok.one k (xL z) ?_;rw[<- e,(A.ok.ht t _<|wM m).2.2.2];rfl
def Kd(A:Arr x a)(c:yh x rows){k:Int}(h:k∈a.map (·.2)):(107).isSome=true:=by obtain⟨t,m,e⟩:=A.hdt h;have:=A.ok.IP m;rw[e,c.rk,iZ]at this;exact this
def a0Z(v:Vr rows)(e:∀k∈g,(107).isSome=true){d:Int}(f:d∈wg (eb rows) g):(rowAt rows d).isSome=true:=by obtain⟨c,m,q⟩:=ES (λc m=>by obtain⟨y,b⟩:=Option.isSome_iff_exists.mp<|e c m;rw[yX b];exact vr (v.Ss b).1) f;obtain⟨y,b⟩:=Option.isSome_iff_exists.mp<|e c m;rw[yX b]at q;obtain⟨_,i,h⟩:=(v.ok c y.1 y.2 b).2.2.2.1 d q;rw[h];rfl
def a2V(v:Vr rows)(b:∀k∈g,(107).isSome=true):(wg (eb rows) g).length<=rows.length:=iK (wE (vZ _ _) λd c=>xo.mpr<|a0Z v b c)<|xO rows
def Tq(c:rows.length<=35){k:Int}(h:(107).isSome=true):k∈yY 0 35:=by obtain⟨y,b⟩:=Option.isSome_iff_exists.mp h;have:=vz b;exact zW this.1 (by have:=this.2.1;omega)
end
def Zp{l k:List Int}(h:∀c∈l,c∉k):(l.filter λc=>decide<|c∈k)=[]:=List.filter_eq_nil_iff.mpr λc a z=>h c a<|jV z
def O8{l k:List Int}(h:∀c∈l,c∈k):(l.filter λc=>decide<|c∈k)=l:=List.filter_eq_self.mpr λc a=>decide_eq_true<|h c a
section
variable{x:B0}{rows:List RW}{a:List (Int×Int)}{l g:List Int}{Kb:Bool->WL.Un×Unit->Prop}{K1:OL Int->WL.Un×Unit->Prop}{K2:OL Int->WL.Un×WL.Un×Unit->Prop}{E1:gV->WL.Un×Unit->Prop}{E2:gV->WL.Un×WL.Un×Unit->Prop}
def O9{c:Bool}{P Q:Prop}(h:c=false)(k:Q):if c=true then P else Q:=by rw[ci<|by rw[h];decide];exact k
def a2W:(!decide (([]:List Int)=[]))=false:=rfl
def a3q:(!decide (l=l))=false:=by rw[decide_eq_true rfl];rfl
def Y9(h:wX l)(n:l.length<=35)(k:Kb true (#[],())):w_sum (l,()) Kb E1:=#[h,iK n q0q,k]
def Wg(n:l.length<=35)(e:(l.filter λc=>decide<|c∈g)=r)(k:K2 #[r] 94):Fq (l,g,()) K2 E2:=#[iK n q0q,by rw[<- e]at k;exact k]
def Kf(n:rows.length<=35)(k:K1 #[CA rows] (#[],())):LQ (rows,()) K1 E1:=#[jM n q0q,k]
def a00(v:Vr rows)(h:∀c∈l,(rowAt rows c).isSome=true)(k:K2 #[wg (eb rows) l] 94):LS (rows,l,()) K2 E2:=#[v,h,k]
def a1v(n:rows.length<=35)(m:a.length<=35)(k:K2 #[W0 rows a] 94):YT (rows,a,()) K2 E2:=#[jM n q0q,jM m q0q,k]
def Tr(m:a.length<=35)(k:K1 #[a.map (·.1)] (#[],())):Fp (a,()) K1 E1:=#[jM m q0q,k]
def Tt(m:a.length<=35)(k:K1 #[BI (a.map (·.2))] (#[],())):Il (a,()) K1 E1:=#[jM m q0q,k]
def Tu{b:Bg}{K2:OL Int->Bg×WL.Un×Unit->Prop}{E2:gV->Bg×WL.Un×Unit->Prop}(n:l.length<=35)(k:∀m,wX m->(∀x∈m,x∈l)->K2 #[m] 94):LR (b,l,()) K2 E2:=#[jM n q0q,k]
def Wh(n:rows.length<=35)(c:wX l)(d:wX g)(e:∀k∈l,(107).isSome=true)(f:∀k∈g,(107).isSome=true)(k:K2 #[xr l g] 94):Ie (l,g,()) K2 E2 :=
 #[LV c d (λk b=>Tq n<|e k b)<|λk b=>Tq n<|f k b,by rw[<- QY c d]at k;exact k]
def a1w(m:a.length<=35):(BI (a.map (·.2))).length<=35:=by rw[(wO _).length_eq,hO];exact m
def Arr.len(A:Arr x a)(c:yh x rows)(n:rows.length<=35):a.length<=35:=by have:=A.OV c n;lia
def a2X(A:Arr x a){k:Int}(h:(107).isSome=true):(!xv x k)=decide (k∈W0 rows a):=by
 by_cases q:k∈W0 rows a
 ·rw[Y8 A q,decide_eq_true q];rfl
 ·rw[ik q]
  cases e:xv x k with
  |true=>rfl
  |false =>
   refine ii ((ND A).mpr #[h,λz=>?_,λz=>?_]) q
   ·unfold xv at e;rw[xL z]at e;cases e
   ·obtain⟨t,m,b⟩:=A.hdt z;unfold xv at e;rw[<- b,(A.ok.ht t _<|wM m).2.2.2]at e;simp at e
def NE:wX []:=iG
def yN{k:Int}:wX [k]:=jH _ _
def Fl.st(A:Arr x a)(c:yh x rows)(f:Fl x l h):∀k∈h,(107).isSome=true:=λk b=>Kd A c<|A.hdm<|f.hs k b
def Za(e:rows.length<=35)(b:wX l)(s:∀k∈l,(107).isSome=true):Pl l:=#[b,λk c=>by
 obtain⟨y,d⟩:=Option.isSome_iff_exists.mp<|s k c;have:=vz d
 exact#[this.1,by have:=this.2.1;omega]]
def Fz(A:Arr x a)(c:yh x rows)(b:rows.length<=35)(d:wX l)(s:∀k∈l,(107).isSome=true)(k:∀h,Fl x l h->e #[h] (x,#[],())):Fe (x,l,()) e i:=by refine#[A.ok,Za b d s,?_];show if wW x l=true then _ else _;rw[gU<|c.wW s];exact λo f=>k _<|YR A.ok f
def a01(b:wX g)(c:wX h)(d:wX l):xr (xr l g) h=xr l (xr g h):=AD (wY<|wY d) (wY d) λk=>by rw[xR c,xR b,xR<|wY b,xR c,lZ]
def Fl.cg(f:Fl x l h)(e:∀t∈v8 x,(t∈g↔t∈l)):Fl x g h:=#[f.ri,f.hs,λt d=>by
 have:=ik<|f.nt t d;refine lS ?_;rw[xR<|vZ _ _]at this ⊢;rw[show decide (t∈g)=decide (t∈l) by rw[decide_eq_decide];exact e t d]
 exact this,f.od]
structure Tv(x:B0)(rows:List RW)(a:List (Int×Int))(l:List Int):Prop where
 A:Arr x a
 c:yh x rows
 v:Vr rows
 ln:rows.length<=35
 so:(a.map (·.1)).Pairwise (·<=·)
 ri:wX l
 st:∀k∈l,(107).isSome=true
def Fl.tail(A:Arr x a){c:Int}(d:c∈v8 x)(f:Fl x ((wG x<|wh x c).filter λk=>decide<|k≠c) g):Fl x [c] (xr [wh x c] g):=by
 have b:∀k∈[wh x c],∃t∈v8 x,wh x t=k:=λk h=>#[c,d,(List.mem_singleton.mp h).symm];refine#[wY yN,Sj f.ri b f.hs,λt m=>lS ?_,f.od];have:=ik<|f.nt t m;rw[xR<|vZ _ _]at this;rw[xR<|vZ _ _,Cf yN f.ri (Cz A.ok b)<|Cz A.ok f.hs,xR<|vZ _ _,wV<|Cz A.ok b];show xor (decide<|t∈[c]) (xor (xor (decide<|t∈wG x (wh x c)) false) _)=false;have i:=(A.ok.ht c _<|wM d).2.2.1;rw[show decide (t∈(wG x<|wh x c).filter λk=>decide<|k≠c)=(decide (t∈wG x (wh x c))&&!decide (t=c)) by rw[lF];simp[ja]]at this;rw[show decide (t∈[c])=decide (t=c) by rw[decide_eq_decide];exact kJ];by_cases e:t=c
 ·subst e;rw[decide_eq_true i]at this ⊢;revert this;generalize decide (t∈wg (wG x) g)=p;simp
 ·rw[ik e]at this ⊢;revert this;generalize decide (t∈wg (wG x) g)=p;generalize decide (t∈wG x (wh x c))=q;cases p<;>cases q<;>simp
def Fl.face(A:Arr x a){k c:Int}(n:k∉p)(f:Fl x (p.filter λk=>decide<|k≠c) g)(e:k≠c)(b:Fl x [k] h):Fl x ((p++[k]).filter λk=>decide<|k≠c) (xr g h):=(f.add A.ok yN b).cg λt _=>by
 rw[zk<|vr yN,ja,ja,kW,kJ];simp only[iW];by_cases q:t=k
 ·subst q;simp[n,e]
 ·simp[q]
def Wi{c:Int}:(p++[c]).filter (λk=>decide<|k≠c)=p.filter λk=>decide (k≠c):=by rw[uC];simp
set_option tactic.hygienic true in
def Fl.rank(s:Tv x rows a l)(f:Fl x l h){k:Int}(B:k∈h)(I:rowAt rows k=↑y):∃c∈l,∃z,rowAt rows c=↑z/\y.1=z.1+1:=by
 refine nO λJ=>?_
 have L:∀{d:Int},d∈h->∀{t:Int},t∈wG x d->∃z w,rowAt rows d=↑z/\rowAt rows t=↑w/\z.1=w.1+1:=λ{d} j {t} n=>by obtain⟨z,C⟩:=Option.isSome_iff_exists.mp<|f.st s.A s.c d j;rw[s.c.wG,yX C]at n;obtain⟨_,e,q⟩:=(s.v.ok d z.1 z.2 C).2.2.2.1 t n;exact#[z,_,C,q,q0d]
 let q:Int->Bool:=λd=>decide ((rowAt rows d).map (·.1)=↑y.1)
 have F:=Cz s.A.ok f.hs;have e:h.filter q=[]:=Nt s.A.ok f.od (jQ _ f.ri) (λk B=>f.hs k (List.mem_filter.mp B).1) λt n=>lS ?_
 ·have:k∈h.filter q:=List.mem_filter.mpr #[B,decide_eq_true<|by rw[I];rfl];rw[e]at this;cases this
 ·rw[wV λc M=>F c (List.mem_filter.mp M).1];have b:=ik<|f.nt t n;rw[xR<|vZ _ _,wV F]at b
  have N:∀g:List Int,(∀d∈g,d∈h)->Sf (wG x) t (g.filter q)=if (∃w,rowAt rows t=↑w/\y.1=w.1+1) then Sf (wG x) t g else false:=λg=>by
   induction g with
   |nil=>intro _;split<;>rfl
   |cons d g i =>
    intro G;have i:=i λd j=>G d<|hI _ j;by_cases m:t∈wG x d
    ·obtain⟨z,w,p,r,O⟩:=L (G d gY) m;by_cases u:z.1=y.1
     ·have D:∃w,rowAt rows t=↑w/\y.1=w.1+1:=#[w,r,q0d];rw[gU D]at i ⊢;rw[jk,gU<|show q d=true from decide_eq_true<|by rw[p];exact congrArg some u];show xor _ (Sf (wG x) t<|g.filter q)=xor _ (Sf (wG x) t g);rw[i]
     ·have D:¬∃w,rowAt rows t=↑w/\y.1=w.1+1:=λ⟨P,H,Q⟩=>u (by rw[r]at H;cases H;omega);rw[ci D]at i ⊢;rw[jk,ci (show ¬q d=true from λz=>by have z:=jV z;rw[p]at z;exact u<|iY z)];exact i
    ·have o:∀E,Sf (wG x) t (d::E)=Sf (wG x) t E:=λE=>by show xor (decide<|t∈wG x d) _=_;rw[ik m,oh]
     rw[o,jk];split
     ·rw[o];exact i
     ·exact i
  rw[N h λd j=>j];split
  ·rename_i w
   obtain⟨w,p,r⟩:=w;rw[ik λz=>J #[t,z,w,p,r],oh]at b;exact b
  ·rfl
def Tv.len(s:Tv x rows a l)(f:Fl x m h):h.length<=35:=by have:=wE f.ri λk b=>xo.mpr<|f.st s.A s.c k b;have:=xO rows;have:=s.ln;omega
def Tv.ll(s:Tv x rows a l):l.length<=35:=by have:=wE s.ri λk b=>xo.mpr<|s.st k b;have:=xO rows;have:=s.ln;omega
def Tv.hd(s:Tv x rows a l)(f:Fl x m h):∀k∈h,k∈BI (a.map (·.2)):=λk b=>yL.mpr<|s.A.hdm<|f.hs k b
def W3{u w:List Int}(e:u=w):(!decide (u=w))=false:=by rw[decide_eq_true e];rfl
def Fl.none(A:Arr x a)(b:∀t∈v8 x,t∉l)(f:Fl x l h):h=[]:=f.uni A.ok #[NE,λk z=>(jl z).elim,λt c z=>b t c<|show t∈l from z,f.od]
end
section
variable{q:Cq}{XL:gV}
noncomputable abbrev CF:iB:=top 54
def xl:vm ["_law_script","_law_bag_here","_law_field","_law_rows_here","_law_arrows","_law_row_here","_law_cell","_law_due","_law_head_here","_law_face","_law_handed","_law_found","_law_ranks","_law_kept_here"] ["_law_script"] (vd CF):=by walk_at "sc"
def Wj:(["_law_cell","_law_rows_here"]:List Str).Nodup:=by decide +kernel
def Zb{f:gV}{fd:iQ}(F:CZ q "law" CF f fd)(ae:xt q "_law_bag" ["_law_script"] (Q8 q.K) 10)(N:V7 q 10)(T:SR q 10)(G:Io q 10)(L:Tb q 10)(U:Y4 q 10)(W:Im q 10)(m:Sn q 10)(I:S6 q 10)(af:a0Y q 10)(M:Th q 10)(O:V9 q 10)(X:Y6 q 10)(B:Bn q.mg):Gq q 11 f fd ["_law_script"] (WX q.K):=by
  refine' vo (wJ (D':=Unit) (ms:=[]) (j:=13) F xl rfl rfl λak A ai s H E hr =>
      (vt (vy 1 xl.nd (vA ae (vj (ss 0) vg)))
      (vt (Vf 2 3 4 (Bx rfl (wB (vp (i:=2) xl.nd rfl (kH rfl)) (wB (vp (i:=3) xl.nd rfl (uS rfl)) (wB (vp (i:=4) xl.nd rfl (kH rfl)) zI)))) q0q q0q q0q (vA N (vM 1 (vj vi vg))))
      (vt (vy 5 xl.nd (vA T (vM 1 (vj (vN (vA G (vK 3 vg))) vg))))
      (vt (wv (is:=[]) (mb:=[]) (D1:=(JK q.K)×Bg×(Bd C true)×(OL 57)×96×(OL Int)×Int×Un×Un×Un×Un×Un×Un×Un×Unit) (D2:=(JK q.K)×Bg×(Bd C true)×(OL 57)×96×(OL Int)×Int×(OL Int)×Un×Un×Un×Un×Un×Un×Unit) (vI q0q) xV rfl (wn (vN (vA G (vK 3 vg)))) (vF 6 (vp (i:=6) xl.nd rfl (kH rfl)) q0q)
      (vt (vy 7 xl.nd 105)
      (vt (vJ (tw_cmI MW (ss 6) (vY (vN (vA L (vK 4 vg)))) (by with_unfolding_all rfl))
      (JC (D':=(JK q.K)×Bg×(Bd C true)×(OL 57)×96×(OL Int)×Int×(OL Int)×Un×Un×Un×Un×Un×Un×Unit) (vt (vy 8 xl.nd (vA U (vK 4 (vj (ss 6) vg))))
      (vt (vy 7 xl.nd (vE (vk (ss 8) vD)))
      (vf (wv (is:=[]) (mb:=[]) (D1:=(JK q.K)×Bg×(Bd C true)×(OL 57)×96×(OL Int)×Int×(OL Int)×Int×Int×Un×Un×Un×Un×Unit) (D2:=(JK q.K)×Bg×(Bd C true)×(OL 57)×96×(OL Int)×Int×(OL Int)×Int×Int×Un×Un×Un×Un×Unit) (vI q0q) xV rfl (wn (Ax (yF (wU (v7 3) (ss 8))))) (vF 9 (vp (i:=9) xl.nd rfl (kH rfl)) q0q)
      (vf (vJ (tw_cm Dt (ss 9) (ss 6) (v0 _))
      (vf<|vy 7 xl.nd<|vA W<|vK 7<|vj (vN<|vA m<|vM 2<|vj (vN<|vE<|vk (ss 9) vD) vg) vg)
      vG)) q0q q0q)))))
      vG)
      (vf (vJ (tw_not (tw_val (vv (vA I (vj (vN (vA m (vM 2 (vj (vN (vE (vk (ss 6) vD))) vg)))) (vK 7 vg))))))
      117
      vG)))) q0q q0q)
      (DV (w':=λ(d:(JK q.K)×Bg×(Bd C true)×(OL 57)×96×(OL Int)×Un×Un×Un×Un×Un×Un×Un×Un×Unit) (_:Unit->Prop) (Kr:Bool->Un×Unit->Prop) (_:gV->Un×Unit->Prop)=>Tv d.2.2.1 d.2.2.2.1.l d.2.2.2.2.1.l d.2.2.2.2.2.1.l/\Kr true (#[],())) (vt (vy 10 xl.nd (DP rfl B.list (v7 5)))
      (vt (vy 11 xl.nd (vA m (vM 2 (vK 10 vg))))
      (vt (vJ (tw_w (Bq (tw_not (tw_val (vv (vA af (vK 11 vg))))) (Bq (tw_cmL (CV hr.units) (v7 10) (v7 5) (v0 _)) (Az (tw_cmL (CV hr.units) (vY (vN (vA M (vK 11 (vj (vN (vA O (vK 4 vg))) vg))))) (v7 11) (v0 _))))))
      117
      vG)
      (DV (w':=λ(d:(JK q.K)×Bg×(Bd C true)×(OL 57)×96×(OL Int)×Un×Un×Un×Un×(OL Int)×(OL Int)×Un×Un×Unit) (_:Unit->Prop) (Kr:Bool->Un×Unit->Prop) (_:gV->Un×Unit->Prop)=>(Tv d.2.2.1 d.2.2.2.1.l d.2.2.2.2.1.l d.2.2.2.2.2.2.2.2.2.2.1.l/\d.2.2.2.2.2.2.2.2.2.2.1.l=d.2.2.2.2.2.1.l/\Fl d.2.2.1 d.2.2.2.2.2.2.2.2.2.2.1.l d.2.2.2.2.2.2.2.2.2.2.2.1.l)/\Kr true (#[],())) (vt (zS (Ts:=["_law_cell"]) (Fr:=["_law_rows_here"]) (idx:=[3]) (k:=1) (mb:=[1]) (is:=[5]) (cl:=[("_law_rows_here",⇑s+1)]) 12 xl.nd rfl rfl rfl q0q rfl (EB 5 (pv 5) q0q) TU rfl (wS rfl) (λaa ab C ex pn=>(vF 0 (vp (i:=0) Wj rfl (kH rfl)) q0q)) (λaa ab C ex pn=>tws_nil) (λaa ab C ex pn=>(zb zJ (BH (yF (wU (v7 1) (ss 0)))) vi)))
      (vt (wv (is:=[11]) (mb:=[11]) (D1:=(JK q.K)×Bg×(Bd C true)×(OL 57)×96×(OL Int)×Un×Un×Int×Un×(OL Int)×Un×(OL Int)×Un×Unit) (D2:=(JK q.K)×Bg×(Bd C true)×(OL 57)×96×(OL Int)×Un×Un×Int×Un×(OL Int)×Un×(OL Int)×Un×Unit) (vI q0q) xV rfl (EB 11 (pv 11) q0q) (vF 8 (vp (i:=8) xl.nd rfl (kH rfl)) q0q)
      (vf (vJ (tw_cmI Ey (BH (yF (wU (v7 3) (ss 8)))) (v7 12) (by with_unfolding_all rfl))
      117
      vG)) q0q q0q)
      (DV (w':=λ(d:(JK q.K)×Bg×(Bd C true)×(OL 57)×96×(OL Int)×Un×Un×Un×Un×(OL Int)×(OL Int)×(OL Int)×Un×Unit) (_:Unit->Prop) (Kr:Bool->Un×Unit->Prop) (_:gV->Un×Unit->Prop)=>(Tv d.2.2.1 d.2.2.2.1.l d.2.2.2.2.1.l d.2.2.2.2.2.2.2.2.2.2.1.l/\d.2.2.2.2.2.2.2.2.2.2.1.l=d.2.2.2.2.2.1.l/\Fl d.2.2.1 d.2.2.2.2.2.2.2.2.2.2.1.l d.2.2.2.2.2.2.2.2.2.2.2.1.l)/\Kr true (#[],())) (vt (vy 13 xl.nd (DP rfl B.list (v7 11)))
      (vt (wF 11 vi)
      (vf (vw (vC (CW (vv (vA I (vj (vN (vA m (vM 2 (vK 10 vg)))) (vK 13 vg)))) (CW (QF (Hj hr.units) (v7 10) (v7 5) (v0 _)) (A5 (vv (vA X (vM 2 (vK 3 (vK 4 vg))))))))))))) (by
   intro d Kn Kr Ke h
   walk_at "wl"
   refine BZ λag P=>?_
   obtain⟨⟨s,eh,f⟩,k⟩:=h
   have sl:hJ=16777216:=i7
   have:=s.len f
   refine P ?_
   refine#[q0d,Fz s.A s.c s.ln s.ri s.st λg J=>CC (J.uni s.A.ok f) ?_]
   rw[gU rfl,gU<|decide_eq_true eh]
   exact#[#[s.c,s.v,s.ln,s.A,s.so],k]
)))) (by
   intro d Kn Kr Ke h
   walk_at "wl"
   refine BZ λag P=>?_
   obtain⟨⟨s,eh,f⟩,k⟩:=h
   have sl:hJ=16777216:=i7
   have ll:=s.ll
   refine P ?_
   rw[eh]at ll
   refine#[q0d,wd (f:=λc=>↑(((rowAt d.2.2.2.1.l c).map (·.1)).getD 0+1)) (λc hc K Y=>?_) ?_]
   · obtain⟨y, Q⟩ := Option.isSome_iff_exists.mp (s.st c<|by rw[eh]; exact hc)
     rw[Q]at Y
     exact#[_,(vz Q).2.2.2,y,rfl,Y]
   · refine vL (λ(r : List Int) (b : JK q.K × Bg × B0 × OL RW × OL (Int × Int) × OL Int × WL.Un × WL.Un × WL.Un × WL.Un × OL Int × WL.Un × OL Int × WL.Un × Unit) => (b.2.2.1 = d.2.2.1 /\ b.2.2.2.1.l = d.2.2.2.1.l /\ b.2.2.2.2.1.l = d.2.2.2.2.1.l /\ b.2.2.2.2.2.1.l = d.2.2.2.2.2.1.l /\ b.2.2.2.2.2.2.2.2.2.2.1.l = d.2.2.2.2.2.2.2.2.2.2.1.l /\ b.2.2.2.2.2.2.2.2.2.2.2.2.1.l = d.2.2.2.2.2.1.l.filterMap λc => some (((rowAt d.2.2.2.1.l c).map (·.1)).getD 0+1)) /\ ∀c ∈ r, c ∈ d.2.2.2.2.2.2.2.2.2.2.2.1.l) _ #[#[rfl, rfl, rfl, rfl, rfl, rfl], λ_ z => z] ?_ ?_
     · rintro c r b _ ⟨⟨e1, R, Z, e4, e5, e6⟩, e7⟩ K Y
       obtain⟨y,Q⟩:=Option.isSome_iff_exists.mp<|f.st s.A s.c c<|e7 c gY
       refine#[_,by rw[R];exact(vz Q).2.2.2,y,rfl,O9 ?_<|Y _ ⟨⟨e1,R,Z,e4,e5,e6⟩,λz hz=>e7 z<|hI _ hz⟩]
       refine BZ λag P=>?_
       obtain⟨u,hu,z,hz,e⟩:=f.rank s (e7 c gY) Q
       refine P ?_
       rw[e6,decide_eq_true];rfl
       refine List.mem_filterMap.mpr #[u,by rw[<- eh];exact hu,?_]
       rw[hz,e];rfl
     · rintro b ⟨⟨e1, R, Z, e4, e5, _⟩, _⟩
       rw[e1,R,Z,e4,e5]
       exact#[#[s,eh,f],k]
))))) (by
   intro d Kn Kr Ke h
   walk_at "wl"
   obtain⟨s,k⟩:=h
   exact Fz s.A s.c s.ln s.ri s.st λg f=>Y9 f.ri (s.len f) (O9 rfl<|O9 (W3 rfl)<|Tt (s.A.len s.c s.ln)<|Wg (s.len f) (O8<|s.hd f)<|O9 (W3 rfl) #[#[s,rfl,f],k])
))))))) λp Kn Ke h=>?_
  walk_at "wl"
  have h:Kn true (#[],()):=h
  refine Y7 #[#[q0q,q0q],λx D a c v ln A so=>?_]
  refine Kf ln<|Tu (iK (xO D) ln) λl r1 s1=>Kf ln ?_
  have s:Tv x D a l:=#[A,c,v,ln,so,r1,λk hk=>xo.mp<|s1 k hk]
  refine vL (λ(r:List Int) (b:JK q.K×Bg×B0×OL RW×OL (Int×Int)×OL Int×WL.Un×WL.Un×WL.Un×WL.Un×WL.Un×WL.Un×WL.Un×WL.Un×Unit)=>b.2.2.1=x/\b.2.2.2.1.l=D/\b.2.2.2.2.1.l=a/\b.2.2.2.2.2.1.l=l/\∀k∈r,k∈CA D) (CA D) #[rfl,rfl,rfl,rfl,λ_ z=>z] ?_ ?_
  · rintro t r b _ ⟨e1, R, Z, e4, e5⟩ K Y
    have ts:=xo.mp<|e5 t gY
    have Y:=λS h1 h2 h3 h4=>Y S #[h1,h2,h3,h4,λz hz=>e5 z<|hI _ hz]
    rw[e1,R,Z]
    refine Tr (A.len c ln) ?_
    by_cases q1:t∈v8 x
    · rw[gU<|decide_eq_true<|A.tail.mpr q1]
      obtain⟨e0,m0,n0⟩:=List.mem_map.mp<|A.tail.mpr q1
      refine#[#[e0,m0,n0],λe he n=>?_]
      have eh:e.2=wh x t:=by rw[<- A.hd e he,n]
      rw[eh]
      obtain⟨y,Q⟩:=Option.isSome_iff_exists.mp<|Kd A c<|A.hdm #[t,q1,rfl]
      have aj:wG x (wh x t)=y.2:=by rw[c.wG,yX Q]
      have ry:wX y.2:=(v.Ss Q).1
      have sy:∀k∈y.2,(rowAt D k).isSome=true:=λk hk=>by
        obtain⟨_,e',q⟩:=(v.ok _ y.1 y.2 Q).2.2.2.1 k hk
        rw[q];rfl
      refine#[_,(vz Q).2.2.2,y,rfl,?_]
      refine vL (λ(r:List Int) (S:JK q.K×Bg×B0×OL RW×OL (Int×Int)×OL Int×Int×OL Int×Int×WL.Un×WL.Un×WL.Un×WL.Un×WL.Un×Unit)=>(S.2.2.1=x/\S.2.2.2.1.l=D/\S.2.2.2.2.1.l=a/\S.2.2.2.2.2.1.l=l/\S.2.2.2.2.2.2.1=t)/\∃p g,p++r=y.2/\S.2.2.2.2.2.2.2.1.l=xr [wh x t] g/\(∀k∈g,(rowAt D k).isSome=true)/\((∃o,Ord x o)->Fl x (p.filter λk=>decide<|k≠t) g)) y.2 ⟨⟨rfl,R,Z,e4,rfl⟩,[],[],rfl,rfl,(λk z=>by cases z),λod=>#[NE,(λk z=>by cases z),(λt ht z=>by cases z),od]⟩ ?_ ?_
      · rintro k r S _ ⟨⟨g1, g2, g3, g4, g5⟩, p, g, g6, g7, g8, g9⟩ K' ah
        have kr:k∉p:=by
          have:=vr ry
          rw[<- g6]at this
          exact λz=>(List.nodup_append.mp this).2.2 k z k gY rfl
        have ks:=sy k (by rw[<- g6];simp)
        rw[g1,g5]
        by_cases z:k=t
        · rw[ci<|by simp[z]]
          exact ah _ #[#[rfl,g2,g3,g4,rfl],p++[k],g,by rw[<- g6];simp,g7,g8,λod=>by rw[z,Wi];exact g9 od]
        · rw[gU<|by simp[z]]
          refine Fz A c ln yN (λj hj=>by rw[List.mem_singleton.mp hj];exact ks) λg' J=>?_
          have gl:=g9 J.od
          rw[g7]
          refine Wh ln (wY yN) J.ri (λj hj=>(EI (vr gl.ri) hj).elim (λw=>by rw[List.mem_singleton.mp w,Q];rfl)<|g8 j) (J.st A c)<|ah _ ⟨⟨rfl,g2,g3,g4,rfl⟩,p++[k],xr g g',by rw[<- g6];simp,a01 gl.ri J.ri yN,λj hj=>(EI (vr J.ri) hj).elim (g8 j)<|J.st A c j,λod=>Fl.face A kr (g9 od) z J⟩
      · rintro S ⟨⟨g1, g2, g3, g4, g5⟩, p, g, g6, g7, g8, g9⟩
        rw[g1,g5,g7]
        refine Fz A c ln yN (λj hj=>by rw[List.mem_singleton.mp hj];exact ts) λg' J=>CC ?_<|O9 rfl<|Y _ rfl g2 g3 g4
        refine J.uni A.ok<|Fl.tail A q1 ?_
        rw[aj,<- g6,ko]
        exact g9 J.od
    · rw[ci λz => q1<|A.tail.mp<|jV z]
      exact Fz A c ln yN (λj hj=>by rw[List.mem_singleton.mp hj];exact ts) λg' J=>CC (J.none A λt' h' z=>q1<|by rw[<- List.mem_singleton.mp z];exact h')<|O9 rfl<|Y _ rfl R Z e4
  · rintro b ⟨e1, R, Z, e4, _⟩
    rw[e1,R,Z,e4]
    exact#[s,h]
end
section
variable{P:iJ}{w:jb}{K:gW}{mg:Str->Option cr}{base:iX}
def Tw:vm ["_law_bag_here","_law_many","_law_seed","_law_mixed","_law_drawn"] ["_law_bag_here","_law_many"] (vd LP):=#[rfl,rfl,rfl,q0s,rfl,q0s,q0s]
def Wk(F:y9 K "_law_pull" "_law_pull" LP f I)(c:mg "len"=none):vR P w K mg base Qa 1 f I ["_law_bag_here","_law_many"] WL.QP:=by
 refine F.ok Tw (λJ H Q E h=>?_)<|λL A p s H J Q E N h=>?_
 ·obtain⟨g,q,m,i,z,s,e,rfl,_⟩:=h;rfl
 ·obtain⟨g,q,m,i,z,j,e,rfl,B,d,v,k⟩:=h;have l:=Tw.nd
  refine#[_,wA (MA (yf Wy 74 vH (v0 _))
    (wA (T4 (pv 0) vH Ql vH Pq set_list)
    (wA (Al (i:=2) l rfl (kH rfl) 74)
    (wA (MA (yf Wy 74 (wT xG (by rfl) c mQ (vn 74 vB)) (v0 _))
     (ye (Al (i:=2) l rfl (kH rfl) (yD w4 74 (xg GQ 74 vH) (λ_ _=>rfl)))) zH)
    (wA (MA (Ws (yf Wz 74 (wT xG (by rfl) c mQ (vn 74 vB)) (v0 _)) (Pn (yf Wx (pv 2) (xg Xt vH vH) (v0 _)))).pt
     (wA (Al (i:=3) l rfl (kH rfl) (xg CI (xg zJ (xg zJ (xg BA (pv 2) vH) (xg BA 74 vH)) vH) vH))
     (wA (Al (i:=3) l rfl (kH rfl) (xg CI (xg BA (pv 3) (pv 3)) vH))
     (ye (CH (xg CI (xg MB (xg CI (xg BA (xg zJ (pv 3) 74) vH) vH) vH) (pv 1)))))) zH)
    (ye (Ku (pv 2) (Pp (pv 0) vH set_list))))))) zH)
   (wA (Al (i:=4) l rfl (kH rfl) (xg CI 74 (pv 1)))
   (wA (Ku (xg MB 74 (pv 1)) (Pp (pv 0) vH set_list))
   (ye (CH (pv 4))))),?_]
  refine#[_,rfl,g,_,_,_,rfl,rfl,wD.of B.ob,QO _ _ _ _,_,_,rfl,rfl,_,rfl,?_];refine Uj (λ_=>?_)<|λ_=>?_
  ·-- r[1] += 1;x=r[3]
   refine#[_,rfl,g,_,_,_,rfl,rfl,B.ob,q0q,rfl,_,_,rfl,rfl,g,_,_,1,rfl,rfl,B.ob,rfl,?_];have a:Dv (upd H g<|.lst<|FP q (i+1) z j) g q m (i+1) z j:=B.put (by have:=B.i0;lia);refine⟨_,rfl,g,_,_,_,rfl,rfl,wD.of a.ob,a2x _ _ _ _,?_⟩;refine⟨_,rfl,g,_,_,_,rfl,rfl,wD.of a.ob,QN _ _ _ _,_,rfl,g,_,_,_,rfl,rfl,wD.of a.ob,Yr _ _ _ _,q,_,rfl,.inl<|wD.of a.sc,_,_,rfl,rfl,_,rfl,?_⟩;have b:=a;refine' cutG (α:=Int) (G:=_) (λy=>Uj (λC=>?_)<|λC=>?_) ?_
   rotate_left
   ·have t:i+1<=((m.map V.int).length:Int):=jV C;rw[hO]at t;obtain⟨n,M⟩:=UO (ns:=m) (i:=i+1-1) (by have:=B.i0;lia) q0a;refine#[_,rfl,g,_,_,_,rfl,rfl,wD.of a.ob,Yr _ _ _ _,_,rfl,g,_,_,_,rfl,rfl,wD.of a.ob,QN _ _ _ _,_,_,rfl,rfl,q,_,_,_,rfl,rfl,wD.of a.sc,M,?_];exact y n
   ·exact y j
   ·intro n;refine#[_,rfl,g,_,_,_,rfl,rfl,wD.of a.ob,QN _ _ _ _,_,rfl,g,_,_,_,rfl,rfl,wD.of a.ob,Yr _ _ _ _,q,_,rfl,.inl<|wD.of a.sc,_,_,rfl,rfl,_,rfl,?_];refine' cutP (G:=_) (λD=>Uj (λ_=>a17 D)<|λ_=>?_) ?_
    ·refine#[_,rfl,_,_,rfl,rfl,#[q0q,q0q,q0q],_,_,rfl,rfl,_,rfl,?_];refine Uj (λ_=>D)<|λ_=>?_;refine#[_,rfl,_,rfl,g,_,_,2,rfl,rfl,a.ob,rfl,?_];have b:=a.put (z':=n) a.i0;have u:=(Kp.at (g:=g) (H:=H) (o:=.lst<|FP q (i+1) z j)).trans<|Kp.at (o:=.lst<|FP q (i+1) n j);refine#[_,rfl,g,_,_,_,rfl,rfl,wD.of b.ob,QO _ _ _ _,_,rfl,_,_,rfl,rfl,d,?_];refine#[_,rfl,g,_,_,_,rfl,rfl,wD.of b.ob,QO _ _ _ _,_,rfl,_,_,rfl,rfl,#[d,v],_,rfl,g,_,_,2,rfl,rfl,b.ob,rfl,?_];exact#[_,rfl,k _ _ _ _ (u.trans Kp.at) (b.put b.i0) (rN _ q0a)<|qC _ d]
    ·refine#[_,rfl,_,_,rfl,rfl,.inr #[q0q,q0q],_,rfl,g,_,_,_,rfl,rfl,wD.of a.ob,QN _ _ _ _,_,_,rfl,rfl,.inr #[q0q,q0q],_,_,rfl,rfl,_,_,rfl,rfl,_,_,rfl,rfl,(by show (0:Int)<2147483647;decide),?_];refine#[_,rfl,_,rfl,_,_,rfl,rfl,.inl<|a0j _,_,_,rfl,rfl,(by show (0:Int)<2147483629;decide),?_];refine#[_,rfl,_,rfl,g,_,_,_,rfl,rfl,wD.of a.ob,QN _ _ _ _,_,_,rfl,rfl,_,_,rfl,rfl,.inr #[q0q,q0q],_,_,rfl,rfl,(by show (0:Int)<998244353;decide),_,_,rfl,rfl,#[q0q,q0q],_,rfl,_,_,rfl,rfl,d,?_];exact k _ _ _ _ Kp.at a (rN _ q0a)<|qC _ d
  ·have b:=B;have u:=Kp.refl g H;refine#[_,rfl,g,_,_,_,rfl,rfl,wD.of b.ob,QO _ _ _ _,_,rfl,_,_,rfl,rfl,d,?_];refine#[_,rfl,g,_,_,_,rfl,rfl,wD.of b.ob,QO _ _ _ _,_,rfl,_,_,rfl,rfl,#[d,v],_,rfl,g,_,_,2,rfl,rfl,b.ob,rfl,?_];exact#[_,rfl,k _ _ _ _ (u.trans Kp.at) (b.put b.i0) (rN _ q0a)<|qC _ d]
def NF:vm ["_law_script","_law_salt","_law_one"] ["_law_script"] (vd To):=#[rfl,rfl,rfl,q0s,rfl,q0s,q0s]
def a2Y(a:List Int)(b c:Option Int):∃d:List Int,Eh (a.map V.int) b c=d.map V.int:=by unfold Eh;exact#[_,by rw[<- List.map_drop,<- List.map_take]]
def Zc(F:y9 K "_law_bag" "_law_bag" To f U)(m:mg "len"=none)(g:mg "list"=none):vR P w K mg base Qa 1 f U ["_law_script"] (WL.WV K):=by
 refine F.ok NF (λX H Q E h=>?_)<|λY A B s H X Q E hr h=>?_
 ·obtain⟨a,N,rfl,_⟩:=h;rfl
 ·obtain⟨a,N,rfl,C,k⟩:=h
  refine#[_,wA (Al (i:=1) NF.nd rfl (kH rfl) (wT xG (by rfl) m mQ (vn (Ao DJ (pv 0) DH (DI vH)) vB)))
   (wA (Pw PassesOwn.never rfl (GP (Ao DJ (pv 0) DH (DI vH))) (vp (i:=2) NF.nd)
    (ye (Al (i:=1) NF.nd rfl (kH rfl) (xg CI (xg zJ (xg BA (pv 1) vH) (pv 2)) vH))))
   (ye (CH (PH (vn (xT yH rfl g ki (vn (Ao DJ (pv 0) DH (DI vH)) vB)) (vn vH (vn vH (vn (pv 1) vB)))))))),?_]
  obtain⟨b,j⟩:=a2Y N none<|some 63;refine⟨_,rfl,63,rfl,a,_,rfl,C,λp Z=>?_⟩;rw[j];have O:DE H (upd H p<|.lst<|b.map V.int):=AA Z;refine⟨p,_,rfl,.inl<|wD.of vh,?_⟩;refine⟨_,rfl,63,rfl,a,_,rfl,O.seq C,λn D=>?_⟩;rw[j];have s2:DE (upd H p<|.lst<|b.map V.int) (upd (upd H p<|.lst<|b.map V.int) n<|.lst<|b.map V.int):=AA D;have c:=O.trans s2;generalize G:upd (upd H p<|.lst<|b.map V.int) n (.lst<|b.map V.int)=H2 at c;have q:H2 n=↑(.lst<|b.map V.int):=by rw[<- G];exact vh
  refine#[n,rfl,#[_,wD.of q],Px (K:=K) (a:=n) (xs:=b.map V.int) (λi u x=>x=H2/\∃(r:Int)(v:Option V),u=[some<|.ref a,some<|.int r,v]) ⟨rfl,_,none,rfl⟩ (λi u x _ z9=>e0a2 z9 λe _=>by rw[e];exact wD.of q) ?_ ?_]
  ·rintro i y u x d ⟨rfl,r,v,rfl⟩
   obtain⟨z,rfl⟩:∃z,y=V.int z:=by
    rw[jO]at d
    cases e:b[i]? with
    |none=>rw[e]at d;cases d
    |some z=>rw[e]at d;exact#[z,(iY d).symm]
   exact#[_,rfl,_,_,rfl,rfl,.inr #[q0q,q0q],_,rfl,_,_,rfl,rfl,_,_,rfl,rfl,(by show (0:Int)<1000003;decide),rfl,_,_,rfl]
  ·rintro u x ⟨rfl,r,v,rfl⟩;refine#[_,rfl,63,rfl,a,_,rfl,c.seq C,λp3 I=>?_];rw[j];refine#[p3,_,rfl,.inl<|wD.of vh,λJ t=>#[_,rfl,(by decide:4<=hJ),λR l=>?_]];have L:=AA (o:=.lst<|b.map V.int) I;have S:=AA (o:=.lst<|b.map V.int) t;have T:=AA (o:=.lst<|FP J 0 0 r) l;have M:J≠R:=vq vh l;refine k _ R J b r (((c.trans L).trans S).trans T) #[vh,T _ _ vh,oK _,M] ?_ ?_
   ·exact(((c.trans L).trans S).free l)
   ·exact((c.trans L).free t)
end
section
variable{q:Cq}{XL:gV}
noncomputable abbrev Mo:iB:=Bf (top 26) 1
def Wl:xQ Dx Dx (vd Mo):=by walk_at "ss"
noncomputable abbrev FA:iB:=Bf (top 26) 4
def Pa:xQ zf zf (vd FA):=by walk_at "ss"
noncomputable abbrev IJ:iB:=Bf (top 26) 8
def Tx:xQ AO AO (vd IJ):=by walk_at "ss"
noncomputable abbrev Ad:iB:=Bf (top 26) 9
def FY:xQ wQ wQ (vd Ad):=by walk_at "ss"
noncomputable abbrev Di:iB:=Bf (top 26) 7
def Mp:xQ yx yx (vd Di):=by walk_at "ss"
abbrev Dj:iB:=Bf (top 26) 5
def Mr:xQ yw yw (vd Dj):=by walk_at "ss"
abbrev Dk:iB:=Bf (top 26) 3
def Ms:xQ yu yu (vd Dk):=by walk_at "ss"
abbrev IK:iB:=Bf (top 26) 6
def Tz:xQ zg zg (vd IK):=by walk_at "ss"
noncomputable abbrev IL:iB:=Bf (top 26) 2
def Kg:xQ AQ AQ (vd IL):=by walk_at "ss"
def Wm{f:gV}{fd:iQ}{k:Nat}(F:Cg q.P q.K C "put" "Field.put" Mo f fd)(G:Fs q.P q.w q.K q.mg q.base C "put" Dx (yK q.T<|JY) k):Gq q (k+1) f fd Dx (JY) :=
 yp (m:="put") (ta:=(Bj (vQ 1)<|Bj (vQ 2) BC)) F Wl rfl rfl (λ_=>#[_,rfl]) G (λzA cc A outer s H E=>(vn (pv 1)<|vn (pv 2) vB)) (λa r H Q hl h=>by obtain⟨u1,u2,rfl⟩:=lx2 r<|nI hl;exact⟨u1,rfl,u2,rfl,h⟩) (λf2 env h=>cw_cons h)
def Pb{f:gV}{fd:iQ}{k:Nat}(F:Cg q.P q.K C "cells" "Field.cells" FA f fd)(G:Fs q.P q.w q.K q.mg q.base C "cells" zf (yK q.T<|D7) k):Gq q (k+1) f fd zf (D7) :=
 yp (m:="cells") (ta:=BC) F Pa rfl rfl (λ_=>#[_,rfl]) G (λzA cc A outer s H E=>vB) (λa r H Q hl h=>by obtain rfl:=lx0 r<|nI hl;exact h) (λf2 env h=>cw_nil h)
def TB{f:gV}{fd:iQ}{k:Nat}(F:Cg q.P q.K C "over" "Field.over" IJ f fd)(G:Fs q.P q.w q.K q.mg q.base C "over" AO (yK q.T<|HG) k):Gq q (k+1) f fd AO (HG) :=
 yp (m:="over") (ta:=(Bj (vQ 1) BC)) F Tx rfl rfl (λ_=>#[_,rfl]) G (λzA cc A outer s H E=>(vn (pv 1) vB)) (λa r H Q hl h=>by obtain⟨u1,rfl⟩:=lx1 r<|nI hl;exact⟨u1,rfl,h⟩) (λf2 env h=>cw_cons h)
def FZ{f:gV}{fd:iQ}{k:Nat}(F:Cg q.P q.K C "border_of" "Field.border_of" Ad f fd)(G:Fs q.P q.w q.K q.mg q.base C "border_of" wQ (yK q.T<|yr) k):Gq q (k+1) f fd wQ (yr) :=
 yp (m:="border_of") (ta:=(Bj (vQ 1) BC)) F FY rfl rfl (λ_=>#[_,rfl]) G (λzA cc A outer s H E=>(vn (pv 1) vB)) (λa r H Q hl h=>by obtain⟨u1,rfl⟩:=lx1 r<|nI hl;exact⟨u1,rfl,h⟩) (λf2 env h=>cw_cons h)
def Mt{f:gV}{fd:iQ}{k:Nat}(F:Cg q.P q.K C "border" "Field.border" Di f fd)(G:Fs q.P q.w q.K q.mg q.base C "border" yx (yK q.T<|AI) k):Gq q (k+1) f fd yx (AI) :=
 yp (m:="border") (ta:=(Bj (vQ 1) BC)) F Mp rfl rfl (λ_=>#[_,rfl]) G (λzA cc A outer s H E=>(vn (pv 1) vB)) (λa r H Q hl h=>by obtain⟨u1,rfl⟩:=lx1 r<|nI hl;exact⟨u1,rfl,h⟩) (λf2 env h=>cw_cons h)
def Mu{k:Nat}(F:Cg q.P q.K C "coming" "Field.coming" Dj f c)(G:Fs q.P q.w q.K q.mg q.base C "coming" yw (yK q.T<|Co) k):Gq q (k+1) f c yw (Co) :=
 yp (m:="coming") (ta:=BC) F Mr rfl rfl (λ_=>#[_,rfl]) G (λd i A b s H E=>vB) (λa r H Q e h=>by
  match r,e with
  | [],_=>exact h) (λj g h=>cw_nil h)
def Mv{k:Nat}(F:Cg q.P q.K C "stands" "Field.stands" Dk f c)(G:Fs q.P q.w q.K q.mg q.base C "stands" yu (yK q.T<|Cn) k):Gq q (k+1) f c yu (Cn) :=
 yp (m:="stands") (ta:=(Bj (vQ 1) BC)) F Ms rfl rfl (λ_=>#[_,rfl]) G (λd j A b s H E=>(vn (pv 1) vB)) (λa r H Q e h=>by
  match r,e with
  | [g],_=>exact#[g,rfl,h]) (λl i h=>cw_cons h)
def TC{k:Nat}(F:Cg q.P q.K C "rank" "Field.rank" IK f c)(G:Fs q.P q.w q.K q.mg q.base C "rank" zg (yK q.T<|Cp) k):Gq q (k+1) f c zg (Cp) :=
 yp (m:="rank") (ta:=(Bj (vQ 1) BC)) F Tz rfl rfl (λ_=>#[_,rfl]) G (λd j A b s H E=>(vn (pv 1) vB)) (λa r H Q e h=>by
  match r,e with
  | [g],_=>exact#[g,rfl,h]) (λl i h=>cw_cons h)
def TF{f:gV}{fd:iQ}(F:Cg q.P q.K C "take" "Field.take" IL f fd)(ct:A7 q.K C)(xM:wL q 7)(Pc:GI q 7)(G:Fs q.P q.w q.K q.mg q.base C "take" AQ (yK q.T<|HH) 7):Gq q 8 f fd AQ (H0):=by
 refine' vo (a0C (A:=B0×Int×Unit) (PO:=B0×WL.Un×Unit) (ms:=[0]) (vI q0q) F Kg rfl λzA cc A outer s H E D hr =>
  WY (wj<|vv<|wy 0 xM 86 (hx:=Rc))
   (WY (vJ (tw_val (vv (wy 0 Pc 86 (hx:=Rc)))) Qz vG)
    (Vb (m:="take") (ta:=Bj (vQ 1) BC) D Kg rfl (λ_=>#[_,rfl]) G hr (vn (pv 1) vB) (λa r H Q hl h=>by obtain⟨u,rfl⟩:=lx1 r hl;exact#[u,rfl,h]) (λf2 env h=>cw_cons h)))) λp Kn Ke h=>?_
 walk_at "wl"
 obtain⟨t,ok,h⟩:=h;show if (70).isSome=true then (if xv p.1 p.2.1=true then False else HH (p.1,p.2) (λx p=>Kn () p) Ke) else Ke XC 65;by_cases hs:(70).isSome=true
 ·rw[gU hs,ci<|by simp[t]];exact#[ok,h]
 ·rw[ci hs]at h ⊢;exact h
noncomputable abbrev IM:iB:=Bf (top 26) 0
def TH:xQ ["self"] ["self"] (vd IM):=by walk_at "ss"
def TJ{k:Nat}(F:Cg q.P q.K C "__init__" "Field.__init__" IM f b)(c:A7 q.K C)(d:Ph q.K C)(G:Fs q.P q.w q.K q.mg q.base C "__init__" ["self"] (Hu C) k):vR q.P q.w q.K q.mg q.base (vX q.P q.w) (k+1) f b ["self"] (DX C) :=
 Rj (p3:=#[0,0,0,0]) (p4:=#[0,0,0,0]) F TH c d (λ_=>#[_,rfl]) rfl G (λ_=>rfl) λe g A a s H E=>wA (CJ (pv 0) BU rfl)<|ye<|CJ (pv 0) BU rfl
end
abbrev NG:List cr:=[.type "ValueError",.type "Exception",.type "BaseException",.type "object"]
abbrev Ae:iB:=Bf (top 13) 0
abbrev Mw:iB:=Bf (top 24) 0
def Wn:vm ["self"] ["self"] (vd Mw):=#[rfl,rfl,rfl,q0s,rfl,q0s,q0s]
def TK:xQ ["self","ring"] ["self","ring"] (vd Ae):=#[rfl,rfl,rfl,q0s,rfl,q0s,q0s,q0s,rfl,rfl]
def Wp{K:gW}(F:y9 K "__init__" "Body.__init__" Mw f fd)(ct:A7 K C):vR P w K mg base (vX P w) 1 f fd ["self"] (Hu C) :=
 U7 F Wn ct λb A a s H E=>wA (CJ (pv 0) BU rfl)<|wA (CJ (pv 0) BU rfl)<|ye<|CJ (pv 0) vH rfl
section
variable{P:iJ}{K:gW} 
structure Mx(P:iJ)(K:gW)(C:gV)(m q:Str)(st:iB):Prop where
 ex:∃f fd,Meth K C m f/\∃(oc:cr)(od:Option gV)(kV doc pm:cr)(an:Option gV)(zA cc:gV)(ct:cr) (N4:Array (Option cr)) (ocD:cr) (odD:Option gV) (vsD:Array cr) (slD:Array (Option cr)) (file:Str) (tf:Tok) (occ:cr) (odc:Option gV) (slc:Array (Option cr)),
  fd=kS m q (wm st) (vP st) (vd st) [75] .none kV doc pm an (.ref zA) ct/\K.lookup f=some #[oc,od,.func fd,N4]/\jC K (.ref zA) q=true/\jt K (.ref f)=true/\K.lookup zA=some #[ocD,odD,.fields vsD,slD]/\vsD[2]?=↑(.str file tf)/\((P.main.file:Str)==file)=true/\K.lookup cc=some #[occ,odc,.cell<|some<|.ref C,slc]
def a02{st:iB}{g:cr}(a:iF K (.ref C) m=↑(some<|.ref f))(i:oN K (.ref f)=true)
 (l:K.lookup f=some #[z,od,.func<|kS m q (wm st) (vP st) (vd st) [("__class__",h)] .none g j pm A (.ref b) ct,n])(c:jC K (.ref b) q=true)(k:jt K (.ref f)=true)(o:K.lookup b=some #[p,r,.fields d,s])(t:d[2]?=↑(.str file B))(u:((P.main.file:Str)==file)=true)(v:K.lookup h=some #[w,x,.cell<|some<|.ref C,y]):Mx P K C m q st :=
  #[_,_,#[a,i,k],_,_,_,_,_,_,_,_,_,_,_,_,_,_,_,_,_,_,_,rfl,l,c,k,o,t,u,v]
structure Sx(K:gW)(C:gV)(m q:Str)(st:iB):Prop where
 ex:∃f fd,Sm K C m f/\y9 K m q st f fd
def a03{st:iB}{d:cr}(a:j9 K C C m=↑(some<|.ref f))(ty:ph K (.ref f)=↑(.type "function"))(fn:mK K f=true)
 (l:K.lookup f=some #[h,od,.func<|jL m q (wm st) (vP st) (vd st) .none d e pm i b ct,g])(c:jC K b q=true)(k:jt K (.ref f)=true):Sx K C m q st:=#[_,_,#[a,ty,fn],El l c k]
def Mx.fx{st:iB}(M:Mx P K C m q st)(cl:∃s,m4 K C=↑s)(sub:lw K C (.ref C)=↑true)(g:io K rJ "thirdparty.any"=↑none)(top:(P.main.scope.names.lookup ("super":Str)).isSome=false)(h:((wm st).posonlyargs++(wm st).args).head?=↑p)(hs:p.arg="self")(ps:List Str)
 (b:∀(i d j:cr)(n:Option gV)(e o:gV)(ct:cr)(us:List cr),us.length=ps.length->sY (kS m q (wm st) (vP st) (vd st) [("__class__",o)] .none i d j n (.ref e) ct) #[us,[]]=pure (ps.zip us)):∃f fd,Meth K C m f/\Cg P K C m q st f fd/\Binds K fd ps []:=by
  obtain⟨f,fd,t,H,I,i,d,j,n,e,o,ct,u,v,w,x,y,r,J,z,A,B,rfl,l,c,k,D,E,F,G⟩:=M.ex
  exact#[f,_,t,#[#[_,_,_,_,_,_,_,_,_,_,rfl,l,c,#[#[_,_,_,_,p,l,h,hs],#[_,_,_,_,_,_,D,E,F],#[_,_,_,G],cl,sub,g,top]],k],.all<|b i d j n e o ct]
end
set_option tactic.hygienic true in
def Wq{K:gW}(X:K.In h)(e:uQ K N=true)(q:io K N x=↑(some v)):h.nsMap N x=↑v:=by
 obtain⟨o,k,l,b,f,_,g⟩:=Heap.Ns.of_isNs<|qd X e;unfold io at q;split at q
 ·rename_i c d i m n z
  have a:=X _ _ z;rw[b]at a;cases a;cases f;split at q
  ·rename_i p j
   cases q;rw[<- g];unfold nsFind findBy;rw[<- tZ,j];rfl
  ·split at q<;>cases q
 ·cases q
def all_mk{l:qO}{K:gW}{fG:Nat}{fp:List cr}{fH:Bool}(X:K.In h)(G:h.Ns il mg)(fJ:mg "law"=↑(.ref fa))
 (a1:io K il "is_sum"=↑(some<|.ref f1))
 (l1:K.lookup f1=some #[gh,gi,.func<|jL "is_sum" "is_sum" (wm xu) (vP xu) (vd xu) .none gj gk gl gm (.ref c) gn,gp])
 (c1:jC K (.ref c) "is_sum"=true)
 (k1:jt K (.ref f1)=true)
 (lc:K.lookup c=some #[gq,gr,.fields fK,gs])
 (ev:fK[11]?=↑(.ref cV))
 (fM:K.lookup cV=none)
 (aL:io K il "law"=↑(some<|.ref fL))
 (lL:K.lookup fL=some #[gu,gv,.func<|jL "law" "law" (wm CF) (vP CF) (vd CF) .none fN fO fP fQ fz fR,gw])
 (cL:jC K fz "law"=true)
 (kL:jt K (.ref fL)=true)
 (M:Dq K "must_be_sum" E7)
 (cX:Dq K "total" HF)
 (u:Dq K "row_from_first" yb)
 (cY:Dq K "added" Ia)
 (b9:Dq K "filled" Ff)
 (eL:Dq K "_law_bag" To)
 (dV:Dq K "_law_pull" LP)
 (dW:Dq K "_law_rank" LW)
 (dX:Dq K "_law_join" LY)
 (dY:Dq K "_law_here" L0)
 (dZ:Dq K "_law_some" L5)
 (d0:Dq K "_law_edge" L7)
 (cZ:Dq K "_law_whole" Ip)
 (eM:Dq K "_law_row" s_row)
 (d1:Dq K "_law_same" s_same)
 (c0:Dq K "_law_stock" Iu)
 (bc:Dq K "_law_edge_by" Dg)
 (d2:Dq K "_law_rows" Mb)
 (d3:Dq K "_law_fill" Md)
 (d4:Dq K "_law_ties" Mg)
 (c2:Dq K "_law_house" Ix)
 (ca:Dq K "_law_tails" Ft)
 (d5:Dq K "_law_head" Mi)
 (c3:Dq K "_law_heads" IA)
 (eN:Dq K "_law_sum" Te)
 (cb:Dq K "_law_parted" Fx)
 (c4:Dq K "_law_truth" IC)
 (ae:Dq K "_law_cells_kept" Ab)
 (c5:Dq K "_law_pairs" IG)
 (d6:Dq K "_law_kept" Mm)
 (aC:io K il "Field"=↑(some<|.ref C))
 (af:Mq K C "must_stand" "Body.must_stand" zY)
 (aG:Mq K C "must_hold" "Body.must_hold" AJ)
 (y:Mq K C "must_have_rank" "Body.must_have_rank" x9)
 (be:Mq K C "is_tied" "Field.is_tied" C7)
 (c6:Mq K C "steps" "Field.steps" HQ)
 (c7:Mq K C "tails" "Field.tails" HS)
 (cd:Mq K C "arrows" "Field.arrows" Fc)
 (bf:Mq K C "head_of" "Field.head_of" C9)
 (c8:Mq K C "untie" "Field.untie" HV)
 (aH:Mq K C "ring_with" "Field.ring_with" AS)
 (eO:Mq K C "tie" "Field.tie" Sc)
 (c9:Mq K C "order" "Field.order" HY)
 (eP:Mx l.prog K C "put" "Field.put" Mo)
 (eQ:Sx K C "put" "Body.put" RM)
 (da:Mx l.prog K C "cells" "Field.cells" FA)
 (db:Sx K C "cells" "Body.cells" HL)
 (d7:Mx l.prog K C "over" "Field.over" IJ)
 (d8:Sx K C "over" "Body.over" LF)
 (aI:Mx l.prog K C "border_of" "Field.border_of" Ad)
 (aJ:Sx K C "border_of" "Body.border_of" AN)
 (cj:Mx l.prog K C "border" "Field.border" Di)
 (ck:Sx K C "border" "Body.border" Fb)
 (cm:Mx l.prog K C "coming" "Field.coming" Dj)
 (cn:Sx K C "coming" "Body.coming" Fa)
 (cp:Mx l.prog K C "stands" "Field.stands" Dk)
 (cq:Sx K C "stands" "Body.stands" E9)
 (d9:Mx l.prog K C "rank" "Field.rank" IK)
 (ea:Sx K C "rank" "Body.rank" HM)
 (ec:Mx l.prog K C "take" "Field.take" IL)
 (ed:Sx K C "take" "Body.take" LG)
 (aO:Mx l.prog K C "__init__" "Field.__init__" IM)
 (aP:Sx K C "__init__" "Body.__init__" Mw)
 (pg:mW K C Str.empty=true)
 (hd:n8 K C=true)
 (po:qk K C=true)
 (sa:iF K (.ref C) "__setattr__"=↑108)
 (mk:qK K C=true)
 (kc:jt K (.ref C)=true)
 (nR:iF K (.ref C) "ranks"=↑none)
 (nB:iF K (.ref C) "borders"=↑none)
 (nU:iF K (.ref C) "upcoming"=↑none)
 (nH:iF K (.ref C) "head_by_tail"=↑none)
 (nT:iF K (.ref C) "tail_by_head"=↑none)
 (cR:m4 K C=↑gx)
 (cU:lw K C (.ref C)=↑true)
 (N:io K rJ "thirdparty.any"=↑none)
 (O:(l.prog.main.scope.names.lookup ("super":Str)).isSome=false)
 (bg:io K il "NotASum"=↑(some<|.ref XS))
 (bh:jz K XS NG "ValueError.__new__"=true)
 (cs:io K il "NoCell"=↑(some<|.ref XC))
 (cu:jz K XC NG "ValueError.__new__"=true)
 (aK:io K il "OtherRank"=↑(some<|.ref XO))
 (aM:jz K XO NG "ValueError.__new__"=true)
 (bi:io K il "BadRank"=↑(some<|.ref XB))
 (bj:jz K XB NG "ValueError.__new__"=true)
 (ag:io K il "OpenBorder"=↑(some<|.ref XP))
 (ah:jz K XP NG "ValueError.__new__"=true)
 (ee:io K il "Full"=↑(some<|.ref XF0))
 (ef:jz K XF0 NG "ValueError.__new__"=true)
 (bm:io K il "Covered"=↑(some<|.ref XV))
 (bp:jz K XV NG "ValueError.__new__"=true)
 (bq:io K il "NotFace"=↑(some<|.ref XF))
 (br:jz K XF NG "ValueError.__new__"=true)
 (bU:io K il "Tied"=↑(some<|.ref XT))
 (eg:jz K XT NG "ValueError.__new__"=true)
 (bt:io K il "NotTied"=↑(some<|.ref XN))
 (bu:jz K XN NG "ValueError.__new__"=true)
 (ai:io K il "MOST_CELLS"=↑(some<|.int 120 dJ))
 (aQ:io K il "TOP_RANK"=↑(some<|.int 12 ey))
 (fA:io K il "RingOfArrows"=↑(some<|.ref XR))
 (gy:io K il "BodyError"=↑(some<|.ref XE))
 (lB:K.lookup XR=↑(jN gz qB XR eZ gA (.ref XE::NG) true gB fp fH gc gC gD gE gF gG gH "ValueError.__new__"))
 (fS:io K eZ "__init__"=↑(some<|.ref fI))
 (fB:uQ K eZ=true)
 (fT:PySem.W.tailIn K NG (.ref XE::NG)=true)
 (lI:K.lookup fI=some #[.type "function",gI,.func<|kS "__init__" "RingOfArrows.__init__" (wm Ae) (vP Ae) (vd Ae) [75] (.ref TD) fU fV fW fX (.ref e0) fY,gJ])
 (cI:jC K (.ref e0) "RingOfArrows.__init__"=true)
 (lD:K.lookup e0=some #[gK,gL,.fields fZ,gM])
 (fD:fZ[2]?=↑(.str eR gN))
 (pD:((l.prog.main.file:Str)==eR)=true)
 (f0:K.lookup cc=some #[gd,gf,.cell<|some<|.ref XR,gg])
 (f3:m4 K XR=↑gO)
 (f4:lw K XR (.ref XR)=↑true)
 (f5:j9 K XR XR "__init__"=↑125)
 (f6:lw K XR (.type "ValueError")=↑true)
 (sB:iF K (.ref XR) "__setattr__"=↑108)
 (f7:iF K (.ref XR) "ring"=↑none)
 (lT:K.lookup TD=some #[gP,gQ,.seq #v[dT] fG,gR])
 (f8:lR K (.ref XT) [.ref XT,.ref XR]=↑true)
 (f9:lR K (.ref XR) [.ref XT,.ref XR]=↑true)
 (ga:io K il "super"=↑none)
 (zz:Bz K) :
    ∃(c cV:gV)(fd:iQ),oo K "is_sum"=↑(c,cV)/\K.lookup cV=none/\(∀(s:hR)(v:cr),sN s fd #[[v],[]] [("_law_script",v)])/\∀base:iX,K.In base->base.Ns il mg->Jy mg base c cV->vR l.prog w K mg base Qa 11 fa fd ["_law_script"] (M6 K cV):=by
  have e:=fJ.symm.trans<|jf X G aL
  cases e
  have ht:oo K "is_sum"=↑(c,cV):=by
    unfold oo
    rw[a1]
    dsimp only
    rw[l1]
    dsimp only[jL]
    rw[lc]
    dsimp only
    rw[ev]
  have j:=El (st:=xu) l1 c1 k1
  have aw:Fn K mg "is_sum" xu ["row"] f1 _:=#[j,jf X G a1,j.binds (ps:=["row"])<|λ_ _ _ _ _ _=>us1 λ_=>rfl]
  have eS:=El (st:=CF) lL cL kL
  have b:=M.fn X G ["row"]<|λ_ _ _ _ _ _=>us1 λ_=>rfl
  have aT:=cX.fn X G ["rows"]<|λ_ _ _ _ _ _=>us1 λ_=>rfl
  have d:=u.fn X G ["earlier","last"]<|λ_ _ _ _ _ _=>us2 λ_ _=>rfl
  have aU:=cY.fn X G ["one","other"]<|λ_ _ _ _ _ _=>us2 λ_ _=>rfl
  have ax:=b9.fn X G ["field","row"]<|λ_ _ _ _ _ _=>us2 λ_ _=>rfl
  have dP:=eL.fn X G ["_law_script"]<|λ_ _ _ _ _ _=>us1 λ_=>rfl
  have bV:=dV.fn X G ["_law_bag_here","_law_many"]<|λ_ _ _ _ _ _=>us2 λ_ _=>rfl
  have bW:=dW.fn X G ["_law_bag_here"]<|λ_ _ _ _ _ _=>us1 λ_=>rfl
  have bX:=dX.fn X G ["_law_one","_law_other"]<|λ_ _ _ _ _ _=>us2 λ_ _=>rfl
  have bY:=dY.fn X G ["_law_rows_here"]<|λ_ _ _ _ _ _=>us1 λ_=>rfl
  have bZ:=dZ.fn X G ["_law_bag_here","_law_row_here"]<|λ_ _ _ _ _ _=>us2 λ_ _=>rfl
  have b0:=d0.fn X G ["_law_rows_here","_law_row_here"]<|λ_ _ _ _ _ _=>us2 λ_ _=>rfl
  have aV:=cZ.fn X G ["_law_found"]<|λ_ _ _ _ _ _=>us1 λ_=>rfl
  have dQ:=eM.fn X G ["_law_found"]<|λ_ _ _ _ _ _=>us1 λ_=>rfl
  have b1:=d1.fn X G ["_law_found","_law_due"]<|λ_ _ _ _ _ _=>us2 λ_ _=>rfl
  have aW:=c0.fn X G ["_law_many"]<|λ_ _ _ _ _ _=>us1 λ_=>rfl
  have Q:=bc.fn X G ["_law_rows_here","_law_loops","_law_rank_here","_law_bag_here"]<|λ_ _ _ _ _ _=>us4 λ_ _ _ _=>rfl
  have b2:=d2.fn X G ["_law_bag_here","_law_most"]<|λ_ _ _ _ _ _=>us2 λ_ _=>rfl
  have b3:=d3.fn X G ["_law_body","_law_rows_here"]<|λ_ _ _ _ _ _=>us2 λ_ _=>rfl
  have b4:=d4.fn X G ["_law_field","_law_rows_here","_law_bag_here","_law_tries"]<|λ_ _ _ _ _ _=>us4 λ_ _ _ _=>rfl
  have aX:=c2.fn X G ["_law_bag_here","_law_most"]<|λ_ _ _ _ _ _=>us2 λ_ _=>rfl
  have ay:=ca.fn X G ["_law_arrows"]<|λ_ _ _ _ _ _=>us1 λ_=>rfl
  have b5:=d5.fn X G ["_law_arrows","_law_tail"]<|λ_ _ _ _ _ _=>us2 λ_ _=>rfl
  have aY:=c3.fn X G ["_law_arrows"]<|λ_ _ _ _ _ _=>us1 λ_=>rfl
  have dR:=eN.fn X G ["_law_found"]<|λ_ _ _ _ _ _=>us1 λ_=>rfl
  have az:=cb.fn X G ["_law_row_here","_law_keep"]<|λ_ _ _ _ _ _=>us2 λ_ _=>rfl
  have aZ:=c4.fn X G ["_law_found","_law_due"]<|λ_ _ _ _ _ _=>us2 λ_ _=>rfl
  have n:=ae.fn X G ["_law_body","_law_rows_here"]<|λ_ _ _ _ _ _=>us2 λ_ _=>rfl
  have a0:=c5.fn X G ["_law_found","_law_due"]<|λ_ _ _ _ _ _=>us2 λ_ _=>rfl
  have b6:=d6.fn X G ["_law_field","_law_rows_here","_law_arrows"]<|λ_ _ _ _ _ _=>us3 λ_ _ _=>rfl
  have o:=af.fn ["self","cell"]<|λ_ _ _ _ _ _=>us2 λ_ _=>rfl
  have A:=aG.fn ["self","row"]<|λ_ _ _ _ _ _=>us2 λ_ _=>rfl
  have f:=y.fn ["self","row","rank"]<|λ_ _ _ _ _ _=>us3 λ_ _ _=>rfl
  have R:=be.fn ["self","cell"]<|λ_ _ _ _ _ _=>us2 λ_ _=>rfl
  have a2:=c6.fn ["self","low","high"]<|λ_ _ _ _ _ _=>us3 λ_ _ _=>rfl
  have a3:=c7.fn ["self"]<|λ_ _ _ _ _ _=>us1 λ_=>rfl
  have aA:=cd.fn ["self"]<|λ_ _ _ _ _ _=>us1 λ_=>rfl
  have S:=bf.fn ["self","cell"]<|λ_ _ _ _ _ _=>us2 λ_ _=>rfl
  have a4:=c8.fn ["self","low"]<|λ_ _ _ _ _ _=>us2 λ_ _=>rfl
  have D:=aH.fn ["self","low","high"]<|λ_ _ _ _ _ _=>us3 λ_ _ _=>rfl
  have dS:=eO.fn ["self","low","high"]<|λ_ _ _ _ _ _=>us3 λ_ _ _=>rfl
  have a5:=c9.fn ["self"]<|λ_ _ _ _ _ _=>us1 λ_=>rfl
  obtain⟨ft,fv,eh,ei,ej⟩:=eP.fx #[_,cR] cU N O rfl rfl Dx<|λ_ _ _ _ _ _ _=>us3 λ_ _ _=>rfl
  obtain⟨fw,fy,ek,b7⟩:=eQ.ex
  obtain⟨eV,eW,cv,cw,cx⟩:=da.fx #[_,cR] cU N O rfl rfl zf<|λ_ _ _ _ _ _ _=>us1 λ_=>rfl
  obtain⟨eX,eY,cy,aB⟩:=db.ex
  obtain⟨e1,e2,dc,dd,de⟩:=d7.fx #[_,cR] cU N O rfl rfl AO<|λ_ _ _ _ _ _ _=>us2 λ_ _=>rfl
  obtain⟨e3,e4,df,a6⟩:=d8.ex
  obtain⟨dL,dM,aj,ak,al⟩:=aI.fx #[_,cR] cU N O rfl rfl wQ<|λ_ _ _ _ _ _ _=>us2 λ_ _=>rfl
  obtain⟨dN,dO,an,p⟩:=aJ.ex
  obtain⟨ez,eA,bv,bA,bB⟩:=cj.fx #[_,cR] cU N O rfl rfl yx<|λ_ _ _ _ _ _ _=>us2 λ_ _=>rfl
  obtain⟨eB,eC,bC,T⟩:=ck.ex
  obtain⟨eD,eE,bD,bE,bF⟩:=cm.fx #[_,cR] cU N O rfl rfl yw<|λ_ _ _ _ _ _ _=>us1 λ_=>rfl
  obtain⟨eF,eG,bG,U⟩:=cn.ex
  obtain⟨eH,eI,bH,bI,bJ⟩:=cp.fx #[_,cR] cU N O rfl rfl yu<|λ_ _ _ _ _ _ _=>us2 λ_ _=>rfl
  obtain⟨eJ,eK,bK,Y⟩:=cq.ex
  obtain⟨e5,e6,dg,dh,di⟩:=d9.fx #[_,cR] cU N O rfl rfl zg<|λ_ _ _ _ _ _ _=>us2 λ_ _=>rfl
  obtain⟨e7,e8,dj,a7⟩:=ea.ex
  obtain⟨e9,fb,dm,dq,dr⟩:=ec.fx #[_,cR] cU N O rfl rfl AQ<|λ_ _ _ _ _ _ _=>us2 λ_ _=>rfl
  obtain⟨fe,ff,ds,a8⟩:=ed.ex
  obtain⟨fh,fi,a9,dt,du⟩:=aO.fx #[_,cR] cU N O rfl rfl ["self"]<|λ_ _ _ _ _ _ _=>us1 λ_=>rfl
  obtain⟨fj,fo,dv,ba⟩:=aP.ex
  have B:=zz.bn X G
  have bT:=tN X G ga
  have ao:=jf X G ai
  have aR:=jf X G aQ
  have bL:Xc K mg "NotASum" XS:=#[#[_,_,_,_,jf X G bg,bh,iH],λ_=>trivial]
  have cz:Xc K mg "NoCell" XC:=#[#[_,_,_,_,jf X G cs,cu,iH],λ_=>trivial]
  have aN:Xc K mg "OtherRank" XO:=#[#[_,_,_,_,jf X G aK,aM,iH],λ_=>trivial]
  have bM:Xc K mg "BadRank" XB:=#[#[_,_,_,_,jf X G bi,bj,iH],λ_=>trivial]
  have aq:Xc K mg "OpenBorder" XP:=#[#[_,_,_,_,jf X G ag,ah,iH],λ_=>trivial]
  have el:Xc K mg "Full" XF0:=#[#[_,_,_,_,jf X G ee,ef,iH],λ_=>trivial]
  have bN:Xc K mg "Covered" XV:=#[#[_,_,_,_,jf X G bm,bp,iH],λ_=>trivial]
  have bO:Xc K mg "NotFace" XF:=#[#[_,_,_,_,jf X G bq,br,iH],λ_=>trivial]
  have em:Xc K mg "Tied" XT:=#[#[_,_,_,_,jf X G bU,eg,iH],λ_=>trivial]
  have bP:Xc K mg "NotTied" XN:=#[#[_,_,_,_,jf X G bt,bu,iH],λ_=>trivial]
  have E:A7 K C:=#[#[pg,hd,po,sa],nR,nB,nU]
  have cf:Ph K C:=#[nH,nT]
  have dw:=jf X G aC
  refine#[c,cV,jL "law" "law" (wm CF) (vP CF) (vd CF) .none fN fO fP fQ fz fR,ht,fM,λs v=>.of_eq rfl,λbase _ _ Bt=>?_]
  let q:Cq:=#[l.prog,w,K,mg,base,cV]
  have SD:L2.Lq l.prog K XR fI e0 cc "self":=#[#[_,_,_,_,_,lI,rfl,rfl],#[_,_,_,_,_,_,lD,fD,pD],#[_,_,_,f0],#[_,f3],f4,N,O]
  have cD:vR l.prog w K mg base (vX l.prog w) 3 fI _ ["self","ring"] (YA K XR "ring"):=Vn (P:=l.prog) (w:=w) (mg:=mg) (base:=base) (k:=2) (r:="ring") (fl:="ring") lI cI rfl TK SD (λ_=>#[_,rfl]) bT B.list rfl lB f5 f6 rfl (λx=>by rw[PySem.refuseLoop_ref];exact PySem.F.store_ValueError.passes _) sB f7 q0q q0q
  have gb:∀h:iX,K.In h->∃mN,h.Ns eZ mN/\mN "__init__"=↑(.ref fI):=λh Z=>#[_,.of_isNs<|qd Z fB,Wq Z fB fS]
  have hB:Binds K (kS "__init__" "RingOfArrows.__init__" (wm Ae) (vP Ae) (vd Ae) [75] (.ref TD) fU fV fW fX (.ref e0) fY) ["self","ring"] []:=λs us Z hl=>by
    have hl:us.length=2:=by simpa using hl
    obtain⟨u1,u2,rfl⟩:=lx2 us hl
    exact PySem.W.binds_K Z rfl lT rfl rfl rfl
  have J:XcI l.prog w K mg base 3 "RingOfArrows" XR "ring":=#[#[fI,eZ,_,_,_,_,_,_,NG,_,_,_,_,_,_,_,_,_,_,_,_,_,_,_,jf X G fA,lB,gb,λh Z=>tM Z fT,lI,rfl,iH,rfl,cD,hB],λ_ _ _ _ _ _=>trivial]
  have i:a0I q XT XR "Tied" "RingOfArrows":=#[jf X G bU,jf X G fA,f8,f9]
  obtain⟨bx,gS,bz,bw,fC,fE,fF⟩:=bL.ex
  have dx:=RE b.fn aw (LC (P:=l.prog) (w:=w) j rfl Bt B.all B.zip) fC fE fF λ_=>trivial
  have dy:=RF b.fn aw (LD (P:=l.prog) (w:=w) j rfl Bt B.all B.zip) fC fE fF λ_=>trivial
  have en:=TJ (q:=q) dt E cf #[#[_,_,dv,Wp (P:=l.prog) (w:=w) (mg:=mg) (base:=base) ba E,ba.binds<|λ_ _ _ _ _ _=>us1 λ_=>rfl,bT]]
  have bb:xt q _ _ _ _:=b.fk dx
  have dz:xt q _ _ _ _:=aT.fk<|RG aT.fn b dy B.set B.sorted
  have a:zm q C _ _ _ _:=o.fm<|FU (q:=q) o.fn E cz
  have g:zm q C _ _ _ _:=A.fm<|HI (q:=q) A.fn E (bb.up q0q)<|a.up q0q
  have t:zm q C _ _ _ _:=f.fm<|Cu (q:=q) f.fn E aN
  have ar:zm q C _ _ _ _:=#[_,_,FZ (q:=q) ak #[#[_,_,an,(HK (q:=q) p E (dz.up q0q)<|g.up q0q),p.binds<|λ_ _ _ _ _ _=>us2 λ_ _=>rfl,bT]],aj,al]
  have aD:zm q C _ _ _ _:=#[_,_,Pb (q:=q) cw #[#[_,_,cy,(RK (q:=q) aB E B),aB.binds<|λ_ _ _ _ _ _=>us1 λ_=>rfl,bT]],cv,cx]
  have dA:zm q C _ _ _ _:=#[_,_,TB (q:=q) dd #[#[_,_,df,(Vy (q:=q) a6 E (a.up q0q)<|aD.up q0q),a6.binds<|λ_ _ _ _ _ _=>us2 λ_ _=>rfl,bT]],dc,de]
  have eo:zm q C _ _ _ _:=#[_,_,Wm (q:=q) ei #[#[_,_,ek,(YK (q:=q) b7 E (g.up q0q) (t.up q0q) (ar.up q0q) bM el aq ao aR B),b7.binds<|λ_ _ _ _ _ _=>us3 λ_ _ _=>rfl,bT]],eh,ej]
  have aa:zm q C _ _ _ _:=#[_,_,Mt (q:=q) bA #[#[_,_,bC,(OK (q:=q) T E (a.up q0q) B),T.binds<|λ_ _ _ _ _ _=>us2 λ_ _=>rfl,bT]],bv,bB]
  have bQ:zm q C _ _ _ _:=#[_,_,Mu (q:=q) bE #[#[_,_,bG,(OI (q:=q) U E),U.binds<|λ_ _ _ _ _ _=>us1 λ_=>rfl,bT]],bD,bF]
  have bR:zm q C _ _ _ _:=#[_,_,Mv (q:=q) bI #[#[_,_,bK,(OG (q:=q) Y E),Y.binds<|λ_ _ _ _ _ _=>us2 λ_ _=>rfl,bT]],bH,bJ]
  have dB:zm q C _ _ _ _:=#[_,_,TC (q:=q) dh #[#[_,_,dj,(RS (q:=q) a7 E<|a.up q0q),a7.binds<|λ_ _ _ _ _ _=>us2 λ_ _=>rfl,bT]],dg,di]
  have I:zm q C _ _ _ _:=R.fm<|LL (q:=q) R.fn E cf
  have dC:zm q C _ _ _ _:=#[_,_,TF (q:=q) dq E (a.up q0q) (I.up q0q) #[#[_,_,ds,((VA (q:=q) a8 E (dA.up q0q) bN)).mono q0q,a8.binds<|λ_ _ _ _ _ _=>us2 λ_ _=>rfl,bT]],dm,dr]
  have aE:zm q C _ _ _ _:=a2.fm<|R6 (q:=q) a2.fn E cf
  have aF:zm q C _ _ _ _:=a3.fm<|R8 (q:=q) a3.fn E cf B
  have ab:zm q C _ _ _ _:=aA.fm<|OO (q:=q) aA.fn E cf<|aF.up q0q
  have aS:zm q C _ _ _ _:=S.fm<|LO (q:=q) S.fn E cf<|a.up q0q
  have cE:zm q C _ _ _ _:=a4.fm<|R9 (q:=q) a4.fn E cf (a.up q0q) bP
  have H:xt q _ _ _ _:=d.fk<|Cy (q:=q) d.fn
  have au:zm q C _ _ _ _:=D.fm<|HX (q:=q) D.fn E cf (H.up q0q)<|aE.up q0q
  have ep:zm q C _ _ _ _:=dS.fm<|YN (q:=q) dS.fn E cf (a.up q0q) (I.up q0q) (au.up q0q) bO em J
  have cH:zm q C _ _ _ _:=a5.fm<|Sh (q:=q) a5.fn E cf (ab.up q0q) (aE.up q0q)<|aF.up q0q
  have dD:xt q _ _ _ _:=aU.fk<|Sl (q:=q) aU.fn (bb.up q0q) B
  have cJ:xt q _ _ _ _:=ax.fk<|OR (q:=q) ax.fn E (dD.up q0q) (g.up q0q) (cH.up q0q) (aS.up q0q) (aa.up q0q) B
  have eT:xt q _ _ _ _:=dP.fk<|a0v<|Zc dP.fn B.len B.list
  have m:xt q _ _ _ _:=bV.fk<|Ys<|Wk bV.fn B.len
  have er:xt q _ _ _ _:=bW.fk<|VU (q:=q) bW.fn<|m.up q0q
  have L:xt q _ _ _ _:=bX.fk<|VW (q:=q) bX.fn B
  have k_here:xt q _ _ _ _:=bY.fk<|VY (q:=q) bY.fn B
  have b8:xt q _ _ _ _:=bZ.fk<|VZ (q:=q) bZ.fn (m.up q0q) (L.up q0q) B
  have es:xt q _ _ _ _:=b0.fk<|V0 (q:=q) b0.fn<|L.up q0q
  have k_whole:xt q _ _ _ _:=aV.fk<|SU (q:=q) aV.fn B
  have dU:xt q _ _ _ _:=dQ.fk<|Y0 (q:=q) dQ.fn (k_whole.up q0q) B
  have k_same:xt q _ _ _ _:=b1.fk<|V2 (q:=q) b1.fn<|dU.up q0q
  have dE:xt q _ _ _ _:=aW.fk<|S7 (q:=q) aW.fn B
  have bS:xt q _ _ _ _:=Q.fk<|Ma (q:=q) Q.fn (m.up q0q) (L.up q0q) (k_here.up q0q) (b8.up q0q) (es.up q0q) B
  have et:xt q _ _ _ _:=b2.fk<|V4 (q:=q) b2.fn (m.up q0q) (dE.up q0q) (er.up q0q) (bS.up q0q) B
  have k_fill:xt q _ _ _ _:=b3.fk<|V5 (q:=q) b3.fn E (eo.up q0q) (dC.up q0q) B
  have eu:xt q _ _ _ _:=b4.fk<|V6 (q:=q) b4.fn E (k_here.up q0q) (m.up q0q) (cE.up q0q) (ep.up q0q) i B
  have dF:xt q _ _ _ _:=aX.fk<|Ta (q:=q) aX.fn #[mk,a9.at_,a9.fn,kc] (en.mono q0q) du dw (et.up q0q) (k_fill.up q0q) (eu.up q0q) (m.up q0q) B
  have cP:xt q _ _ _ _:=ay.fk<|O5 (q:=q) ay.fn
  have k_head:xt q _ _ _ _:=b5.fk<|V8 (q:=q) b5.fn
  have dG:xt q _ _ _ _:=aY.fk<|Td (q:=q) aY.fn B
  have eU:xt q _ _ _ _:=dR.fk<|Y5 (q:=q) dR.fn (dU.up q0q) B
  have cQ:xt q _ _ _ _:=az.fk<|O7 (q:=q) az.fn
  have dH:xt q _ _ _ _:=aZ.fk<|Tj (q:=q) aZ.fn B
  have av:xt q _ _ _ _:=n.fk<|FX (q:=q) n.fn E (k_same.up q0q) (k_here.up q0q) (dH.up q0q) (k_whole.up q0q) (aD.up q0q) (bQ.up q0q) (bR.up q0q) (dB.up q0q) (aa.up q0q) B
  have dI:xt q _ _ _ _:=a0.fk<|Tk (q:=q) a0.fn (k_whole.up q0q) B
  have ew:xt q _ _ _ _:=b6.fk<|Wd (q:=q) b6.fn E (av.up q0q) (dI.up q0q)<|ab.up q0q
  exact a0x (a0w<|Zb (q:=q) eS (eT.up q0q) (dF.up q0q) (b8.up q0q) (k_here.up q0q) (cP.up q0q) (k_head.up q0q) (L.up q0q) (cJ.up q0q) (k_same.up q0q) (eU.up q0q) (cQ.up q0q) (dG.up q0q) (ew.up q0q) B) λ_ _ _ _ z=>z
def walk{l:qO}{q:iJ}{loose:List Str}{XP:(Str->Option cr)->iX->Prop}{YP:jb->iX->Prop}{d:DefRec}{K:Params->gW}{dx:DefRec}(hn:l.most=↑63)(hdf:d.params.defaults=[])
  (hY:∀(w:jb)(h:iX),YP w h->(K w.params).In h) (a2Z:(PyProof.Rows.recsOf q).find? (λe=>e.name==("is_sum":Str))=↑dx)
  (F:∀(w:jb)(mg:Str->Option cr)(fa:gV)(h:iX),(K w.params).In h->h.Ns il mg->mg d.name=↑(.ref fa) ->
   ∃(c tab:gV)(fd:iQ),oo (K w.params) "is_sum"=↑(c,tab)/\(K w.params).lookup tab=none/\(∀(s:hR)(u:cr),sN s fd #[[u],[]] [("_law_script",u)]) /\
    ∀base:iX,(K w.params).In base->base.Ns il mg->Jy mg base c tab->vR l.prog w (K w.params) mg base Qa 11 fa fd ["_law_script"] (M6 (K w.params) tab)) :
  uW q loose XP YP l.row.toRowW d [] (λf vs=>uc f vs) :=
 L2.Qp (n:=63) (k:=11) (x:="_law_script") (tx:="is_sum") (CX:=Qa) (sp:=λ_ K tab=>M6 K tab) hn q0q hdf #[rfl,q0q,q0q] hY a2Z F (λ_ K H a tab ns _ hS hH=>#[a,ns,rfl,hS,#[#v[],hH,trivial],λ_=>rfl]) λ_ _ _ _ z=>z
end K7
open WL
open K7
set_option tactic.hygienic true
set_option hygiene true
namespace PySem.W.Fast
def tw18059955547016167332:=0
def tw6426106303362162951:=0
def tw18101481675772791517:=0
def tw2689227011356315550:=0
def tw6683110280771891532:=0
def tw8750039266071416552:=0
def tw13538970739279326905:=0
def tw6305698354693739901:=0
def tw5645046630432542061:=0
def tw17736462570475963416:=0
def tw4981816269860117981:=0
def tw15575265969710848171:=0
def tw13014782873393516640:=0
def tw10126322516580469833:=0
def tw6598140927835955363:=0
def tw12852368946611033640:=0
def tw2047857489718309708:=0
def tw18111696385488324718:=0
def tw14166740773388176100:=0
def tw7153357120144527203:=0
def tw8868023870012664222:=0
def tw5658505235598635041:=0
def tw4521986132098262941:=0
def tw9212189279147153544:=0
def tw12967043251377961317:=0
def tw9307292055716398397:=0
def tw3217014129272388234:=0
def tw13192586868728969208:=0
def tw6756665667570701769:=0
def tw2272004996386410127:=0
def tw1310705115889561725:=0
def tw5352766818650068370:=0
def tw15318235712698550969:=0
def tw9375532268360876200:=0
def tw3112275700232169927:=0
def tw372837886462507758:=0
def tw14636521634335185190:=0
def tw11504665681334739968:=0
def tw15475789298919781410:=0
def tw1831371638655502030:=0
def tw13186387791797588044:=0
def tw4398036402248550931:=0
def tw3332925435536056903:=0
def tw7160269384100627636:=0
def tw7069443945492331950:=0
def tw15538210180720897214:=0
def tw1905000503583465858:=0
def tw3675118228023051486:=0
def tw5873105124624698001:=0
def tw4963083263623045995:=0
def tw5672081725820677217:=0
def tw11255103943065075797:=0
def tw4533862905981379379:=0
def tw17680141883769889772:=0
def tw13421855076732719085:=0
def tw12450077172197054860:=0
def tw4282145980424100156:=0
def tw1771173950303544726:=0
def tw5175737557348340555:=0
def tw12730408389254844176:=0
def tw17090899179921316029:=0
def tw15158576829464682983:=0
def tw7744908596636084734:=0
def tw224759875379344317:=0
def tw7126760570676252747:=0
def tw12356498009624521254:=0
def tw12042925559629588152:=0
def tw17191564346009116641:=0
def tw5594448990528865492:=0
def tw6628329989560410141:=0
def tw7769066256941651797:=0
def tw2826554142662394080:=0
def tw6235736381875145686:=0
def tw18280705591839633100:=0
def tw1304849054134580996:=0
def tw1991669481316936031:=0
def tw15042878765868308027:=0
def tw1169825111303682474:=0
def tw5507116797706621510:=0
def tw14680447101526004015:=0
def tw18107228272561999580:=0
def tw5918464755000823101:=0
def tw14597733041124459316:=0
def tw16017853865208471354:=0
def tw5145316137279361150:=0
def tw7931093274917973647:=0
def tw1320501146925772935:=0
def tw3948383207057925194:=0
def tw12420062378621192733:=0
def tw3450352774845695145:=0
def tw3138988287641366652:=0
def tw6537976093829361618:=0
def tw15240184114580414847:=0
def tw1025844872865731702:=0
def tw7167161378672285383:=0
def tw16558901292627034842:=0
def tw6015377939530310574:=0
def tw466542985839319965:=0
def tw17548236270810724582:=0
def tw4930241624372446111:=0
def tw15000098137996588925:=0
def tw11216496682314208238:=0
def tw11951463567815923834:=0
def tw11404733156403732005:=0
def tw9253515589799078765:=0
def tw4239115480221279524:=0
def tw11612578497324458581:=0
def tw3231862672917296458:=0
def tw3268591055544068899:=0
def tw17089605866507069452:=0
def tw9007586197227536907:=0
def tw4370916491340066639:=0
def tw7360830639677819287:=0
def tw11020253533560475831:=0
def tw13163587464392576957:=0
def tw7179984855505197990:=0
def tw9167958009501105469:=0
def tw4481023969731230942:=0
def tw14368727802133434262:=0
def tw12776044595360581335:=0
def tw4103362227553720473:=0
def tw4054760044456624200:=0
def tw10459712422089620228:=0
def tw14273542435118731779:=0
def tw659287685332764079:=0
def tw1896306745463569244:=0
def tw6059300001954110655:=0
def tw8048740545839266536:=0
def tw15405480343113535180:=0
def tw15812183861633667175:=0
def tw15197167574159303323:=0
def tw1861736243276746205:=0
def tw11148913099376088335:=0
def tw11828882187653653416:=0
def tw4465280423839603908:=0
def tw5962701371176438650:=0
def tw3553466541126750276:=0
def tw17775600470211047733:=0
def tw5552296997951902651:=0
def tw4279550983093553917:=0
def tw1263898185959223570:=0
def tw1364204147686862633:=0
def tw8725822496760290692:=0
def tw16796653385246798931:=0
def tw16851606516294266072:=0
def tw8402816265206675249:=0
def tw9152911169888541709:=0
def tw12734059914830943567:=0
def tw17504981932529976934:=0
def tw14483503654251495197:=0
def tw8466690924173606570:=0
def tw4672345876317066283:=0
def tw441057971471410547:=0
def tw5087894134717000977:=0
def tw8468540410728685052:=0
def tw644247530031247720:=0
def tw15471631060770240125:=0
def tw11689198018209793570:=0
def tw10594988105276755616:=0
def tw18254708670175675950:=0
def tw6745080592381813912:=0
def tw3440787226265812262:=0
def tw3917805910472324110:=0
def tw11741661449622748925:=0
def tw8249897735593300751:=0
def tw10638459257125349649:=0
def tw7552436461542990503:=0
def tw14254096132029572440:=0
def tw13747088731840595821:=0
def tw16025963887646570659:=0
def tw8542555720619702826:=0
def tw723787631678082578:=0
def tw18433098934242532824:=0
def tw16463887299105388226:=0
def tw11084669217558137638:=0
def tw15925340212924200298:=0
def tw10587885075679382865:=0
def tw2792148276397512854:=0
def tw8035266659370269506:=0
def tw7460732290910379610:=0
def tw3753927407920476618:=0
def tw6804923912817007249:=0
def tw6480156292604053644:=0
def tw9616398191847871545:=0
def tw3764891338397334141:=0
def tw17678579006479021057:=0
def tw17225044310023960123:=0
def tw1522374929626125818:=0
def tw7598101488106282228:=0
def tw15398691842565494592:=0
def tw2140618873721552902:=0
def tw3272909533989063156:=0
def tw4991894990504557468:=0
def tw2529848686128999864:=0
def tw6660946314612199428:=0
def tw17139876125995178313:=0
def tw3341423880492405776:=0
def tw3780292201837914716:=0
def tw18113590319570204700:=0
def tw16299200603199059159:=0
def tw12612431247356251070:=0
def tw14457907880288819340:=0
def tw4867319714066579463:=0
def tw1254723065058464052:=0
def tw11845976043839006038:=0
def tw7778335428701133926:=0
def tw5563178389359355202:=0
def tw8223804980594929837:=0
def tw5844866271854943894:=0
def tw3949539609246777802:=0
def tw2757254561456548515:=0
def tw12779422280561312054:=0
def tw11408437195520445244:=0
def tw17396968833092643198:=0
def tw4360675211750540528:=0
def tw15215252433913510832:=0
def tw14768153716892173210:=0
def tw9460104661579106916:=0
def tw5077620194417240310:=0
def tw8975792872664185654:=0
def tw9893498928574698781:=0
def tw8056408964269609400:=0
def tw15579346973123460970:=0
def tw14450806849674152279:=0
def tw13596626007792443853:=0
def tw11351791244087513044:=0
def tw4588646153543740029:=0
def tw1090173391079311725:=0
def tw8280465067220220637:=0
def tw14851747484461460123:=0
def tw8846766817966818013:=0
def tw17221504946405057928:=0
def tw13944296268983572907:=0
def tw825272092806566177:=0
def tw2810034360831586733:=0
def tw10897119871637353915:=0
def tw7585318555974540465:=0
def tw808222001022314691:=0
def tw5290861150038791295:=0
def tw14659431881668913506:=0
def tw579320221960445459:=0
def tw668089315208006846:=0
def tw4026578607298661348:=0
def tw6399908841317700394:=0
def tw1905599476179642396:=0
def tw1611157915030566973:=0
def tw4484054243030508032:=0
def tw197213577966121974:=0
def tw16260748296349717043:=0
def tw5454531750216233309:=0
def tw16602791426920762640:=0
def tw7290410609565197489:=0
def tw251124501667721714:=0
def tw13291862565329437083:=0
def tw6244011913136222659:=0
def tw823302860465567185:=0
def tw8396610319074766183:=0
def tw7426368698844089749:=0
def tw2910618583748912425:=0
def tw7066190139255379859:=0
def tw6484659938308380499:=0
def tw3611130419322450622:=0
def tw16603639107022874257:=0
def tw12149686978840820197:=0
def tw17434255287303735932:=0
def tw12047709983794989979:=0
def tw17782684542618157562:=0
def tw9656776256831066051:=0
def tw10755580311472194351:=0
def tw11696316619936420119:=0
def tw5221758320083611015:=0
def tw8079002227189355925:=0
def tw309855911598510947:=0
def tw11788600107016683887:=0
def tw8256167245069476280:=0
def tw14340405281806954440:=0
def tw13066556355869715135:=0
def tw11622418907602239993:=0
def tw15564107474100013677:=0
def tw14566219533619629947:=0
def tw4081502412728450891:=0
def tw16371475413054801706:=0
def tw17278788997806720818:=0
def tw2875709971528871665:=0
def tw16971223815612207717:=0
def tw956599839429094160:=0
def tw9542894932970439870:=0
def tw939434267841628925:=0
def tw5597834085286431970:=0
def tw2902016809562074742:=0
def tw16685968778060244545:=0
def tw1056056820867372124:=0
def tw15201230644766353104:=0
def tw13600347759862986009:=0
def tw18002944626588516689:=0
def tw4022243992412260574:=0
def tw18069571896446291024:=0
def tw7311545399110787694:=0
def tw14913333015758472065:=0
def tw12357229131485425948:=0
def tw1048310962600412467:=0
def tw9956924496383111217:=0
def tw768664516276244682:=0
def tw3777266394625138232:=0
def tw270147909337401945:=0
def tw2551810875608338429:=0
def tw2282467226528916360:=0
def tw17188686013663114330:=0
def tw16053049312019100163:=0
def tw15108060064926550369:=0
def tw14751332365562125589:=0
def tw13416146877977005929:=0
def tw1176899618558261753:=0
def tw10890484353758397769:=0
def tw9784542708879989118:=0
def tw11857081919788523636:=0
def tw9680342319418144452:=0
def tw9168093256957577814:=0
def tw9027626810769671618:=0
def tw5324930941380658261:=0
def tw2652801712461163080:=0
def tw1971821612487034888:=0
def tw18047232741711050632:=0
def tw16942089503059160945:=0
def tw16400253696057264345:=0
def tw14974741470643873074:=0
def tw1468100598180795488:=0
def tw12445709425444579436:=0
def tw11787917938169113836:=0
def tw10109033436431307138:=0
def tw3899710483547712387:=0
def tw7290139689628175701:=0
def tw402143515065707864:=0
def tw1470514972096658257:=0
def tw9713674270253070180:=0
def tw8673900362262357818:=0
def tw16811485599850131592:=0
def tw13082802769364070909:=0
def tw1107747122863997372:=0
def tw10799755896564754159:=0
def tw14875939348586548389:=0
def tw1325343724334658632:=0
def tw12989592443008968715:=0
def tw2618547398218951834:=0
def tw1825971892605648896:=0
def tw8798912065362830175:=0
def tw8759818272896199755:=0
def tw7826835424006822939:=0
def tw7521611803987710904:=0
def tw710236411170136160:=0
def tw3938408529001644392:=0
def tw2958114993550319960:=0
def tw2593109404084821262:=0
def tw1804361309554969055:=0
def tw17868711051492039754:=0
def tw1580243010235384079:=0
def tw15794217283685482703:=0
def tw14578751694669963978:=0
def tw1353945007787175586:=0
def tw12466648827181696687:=0
def tw12259739270544552096:=0
def tw11340781388841985859:=0
def tw10076677458298648890:=0
def tw9340909367091601743:=0
def tw8680419739107591090:=0
def tw8044667374443630361:=0
def tw7560273030151703899:=0
def tw6802433222710550199:=0
def tw460684446304443464:=0
def tw4400181879172346098:=0
def tw4077441050691569038:=0
def tw1796145999589718934:=0
def tw16389891216741717359:=0
def tw15472537209511648314:=0
def tw14134606007921688731:=0
def tw13308198902599875826:=0
def tw12894518198026078506:=0
def tw12602608684753612244:=0
def tw12520634776257549861:=0
def tw12250784863358682385:=0
def tw11866394111468186737:=0
def tw1045024213992330510:=0
def tw9566641500548058277:=0
def tw5540567334182571537:=0
def tw16492085534498187795:=0
def tw16915422193182293490:=0
def tw12893582989045261857:=0
def tw18198212751893332542:=0
def tw11656616725939921458:=0
def tw8972791106615025313:=0
def tw8684842654691621670:=0
def tw7925237468286114073:=0
def tw7714235418903076642:=0
def tw7565001850056903298:=0
def tw4226396670033374563:=0
def tw3390996289217864245:=0
def tw17441325545991825699:=0
def tw15112753662024269171:=0
def tw11363606159859967859:=0
def tw10950868553276567996:=0
def tw9853691881654245422:=0
def tw3991685440487106324:=0
def tw1914058125208520571:=0
def tw16705911830107854010:=0
def tw15875694257619771773:=0
def tw15708579348277930417:=0
def tw15251632177369450982:=0
def tw12606333603596674201:=0
def tw12104353145763142338:=0
def tw11515235811263725859:=0
def tw11317914823853869233:=0
def tw16372126257436107444:=0
def tw8920458027021044076:=0
def tw16131919682937984605:=0
def tw716036581081198667:=0
def tw12912745943267229035:=0
def tw9182420299354779333:=0
def tw7793351970180198148:=0
def tw15215874209366980920:=0
def tw14105127270537253955:=0
def tw1151527729429694461:=0
def tw10090269780039347065:=0
end PySem.W.Fast
open PySem PySem.W PyProof.Rows
set_option maxHeartbeats 0 in
theorem PySem.Challenge.cw_slimbody_k20_fillers_by_kinds_holds : PySem.Challenge.rw_slimbody_k20_fillers_by_kinds.Holds := by
  w_on; o_law; k_head; (case hw => w_witness2)
  k_fill
  refine K7.walk (l := PySem.Challenge.rw_slimbody_k20_fillers_by_kinds) rfl rfl (fun w h Y => PySem.W.kIn_of Y) (by rfl) ?j0a
  case j0a =>
    intro w mg fa h KX G hmg
    refine' K7.all_mk KX G hmg ?_ ?_ ?_ ?_ ?_ ?_ ?_ ?_ ?_ ?_ ?_ ?_ ?_ ?_ ?_ ?_ ?_ ?_ ?_ ?_ ?_ ?_ ?_ ?_ ?_ ?_ ?_ ?_ ?_ ?_ ?_ ?_ ?_ ?_ ?_ ?_ ?_ ?_ ?_ ?_ ?_ ?_ ?_ ?_ ?_ ?_ ?_ ?_ ?_ ?_ ?_ ?_ ?_ ?_ ?_ ?_ ?_ ?_ ?_ ?_ ?_ ?_ ?_ ?_ ?_ ?_ ?_ ?_ ?_ ?_ ?_ ?_ ?_ ?_ ?_ ?_ ?_ ?_ ?_ ?_ ?_ ?_ ?_ ?_ ?_ ?_ ?_ ?_ ?_ ?_ ?_ ?_ ?_ ?_ ?_ ?_ ?_ ?_ ?_ ?_ ?_ ?_ ?_ ?_ ?_ ?_ ?_ ?_ ?_ ?_ ?_ ?_ ?_ ?_ ?_ ?_ ?_ ?_ ?_ ?_ ?_ ?_ ?_ ?_ ?_ ?_ ?_ ?_ ?_ ?_ ?_ ?_ ?_ ?_
    all_goals try first | k_is | k_exc | exact a0y (by k_is) (by k_is) (by k_is) (by k_is) | exact a0z (by k_is) (by k_is) (by k_is) (by k_is) (by k_is) | exact a02 (by k_is) (by k_is) (by k_is) (by k_is) (by k_is) (by k_is) (by rfl) (by rfl) (by k_is) | exact a03 (by rfl) (by k_is) (by k_is) (by k_is) (by k_is) (by k_is) | rfl | kernel_rfl
    constructor <;> k_is
