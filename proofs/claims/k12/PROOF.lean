import PyProof.Rows.All
import Wide.All
import OpenK.AllK
import Wide.FinOn
import Lean
import PyProof.EqAt
import PyProof.EqKinds
import PyProof.TupleCall
import PyProof.Rows.SetFrom
import PyProof.Rows.SortWalkRead
import PyProof.Rows.EqDataRows
import PyProof.CompFree
import PyProof.ZipIter
import PyProof.Rows.ZipGen
import PyProof.GenCompD
import PyProof.CodeObjX
import KE.KNest
import PyProof.DictWalks
import PyProof.AutoListH
import PyProof.WalksMore
import PyProof.Draws
import PyProof.EnumFor
import PyProof.EnumMake
import PyProof.EnumStmt
import PyProof.Rows.EnumRows
import KE.KSuper
import PyProof.P3In
import KE.KTryMore
import PyProof.WalkInts
import PyProof.ExcClass2
import PyProof.ExcInit
import PyProof.InstStore
import PyProof.ExcBaseAll.ValueError
import PyProof.InstStoreFacts
import KE.KSortTup
import PyProof.Rows.SortShellK
import PyProof.DictCompW
import KE.KRevSl
import PySem.Challenge.RW_slimbody_k12_tyings_refused
set_option Elab.async false
set_option linter.all false
set_option tactic.hygienic false
set_option compiler.extract_closed false
set_option hygiene false
set_option genSizeOf false
set_option genInjectivity false
set_option maxRecDepth 100000
local macro_rules|`(#[$a,*])=>`(⟨$a,*⟩)
local macro_rules|`(#v[$a,*])=>`(List.toArray [$a,*])
local macro_rules|`(↑$a)=>`(some $a)
local macro_rules|`(⇑$a)=>`(($a).heap.objs.size)
set_option maxHeartbeats 4000000
local macro_rules|`(18)=>`((BQ (wh P w) P w K mg base N qual scope f (.ref ya) [("__class__",cc)] A outer s H E))|`(19)=>`((wC (wh P w) P w K mg base N qual scope f cd A outer s H E))|`(54)=>`((ik X.prog X.w))|`(55)=>`((Option (Int×(List Int))))|`(57)=>`((p.1,#[],#[],()))|`(58)=>`(#[I.ok.mod,I.ok.kind,I.ok.glob,I.ok.blt,I.ok.above,I.ok.inj,I.ok.has,I.ok.PQ,I.ok.hd,I.ok.frames,I.ok.Ge,I.ok.Um,I.ok.bs,I.ok.Jx,I.ok.Eh,I.ok.EN,I.ok.zd,I.ok.KO])|`(61)=>`((Ch.refl _ _ _ _))|`(65)=>`({ cls:=.type "list",data:=.seq ([]:List hR).toArray})|`(66)=>`(("__debug__":Str))|`(67)=>`((p.1,#[],()))|`(70)=>`((lk p.1.rk p.2.1))|`(71)=>`((false,eval e X.env))|`(72)=>`((hO->D->Prop))|`(73)=>`({ cls:=.type "list",dict:=none,data:=.seq AV.toArray nD})|`(74)=>`((zb xu (pv 0) v4 (λ_ _=>rfl)))|`(75)=>`({ cls:=.type "dict_keyiterator",data:=.fields #v[.ref a,.int 0 0,.int x9.length 0,.int ep 0]})|`(76)=>`({ cls:=.type "dict_keyiterator",data:=.fields #v[.ref a,.int 0 0,.int m.length 0,.int B 0]})|`(77)=>`((wC (wh P w) P w K l base N g c f u A e s H E))|`(78)=>`((false,eval a X.env))|`(79)=>`((vG (vz 1) vD))|`(81)=>`({ cls:=.type "list",dict:=none,data:=.seq ([]:List hR).toArray})|`(82)=>`((lk p.1.rk p.2.2.1))|`(83)=>`((jT nm q C N bs bm hdct sn sub ab col dd k0 k1 k2 k3 k5 newId))|`(84)=>`((q.get<|A.get d))|`(85)=>`(("__class__",cc))|`(86)=>`((.Call (.Name "super" p0) [] [] p1))|`(87)=>`((hO->PO->Prop))|`(88)=>`((wC (wh P w) P w K e base N c a f g A b s H E))|`(90)=>`((if kZ t.dummies j=true then jr t.dummies (iB t.dummies j) else t.dummies))|`(91)=>`((.Call (.Attribute (.Name x z) m apos) (e::n) [] pos))|`(93)=>`(#[rfl,I.turned (t':=s.toks) (λb o hb e=>eb b o hb e) f0 f1 f3 f4 f5])|`(94)=>`((.Name x pos))|`(96)=>`({ cls:=.type "range",data:=.fields #v[.int a t,.int c u,.int 1 v]})|`(97)=>`({ s with toks:=s.toks+1})|`(98)=>`((hO->B0×Un×Unit->Prop))|`(99)=>`((τ->PO->Prop))|`(101)=>`(((items.toList.drop<|xL items.size 0 lo).take<|xL items.size items.size hi-xL items.size 0 lo))|`(102)=>`({ s with heap:=a})|`(103)=>`((vW (α:=Int) vV))|`(105)=>`((vH vE (vH vE vV)))|`(106)=>`((some<|.builtin "object.__setattr__"))|`(107)=>`(("__class__":Str))|`(108)=>`({ cls:=.type "method-wrapper",data:=.fields #v[.builtin "ValueError.__init__",.ref x]})|`(109)=>`((.ListComp elt [#[tg,iter,ifs,0]] scope pos))|`(110)=>`({ cls:=.ref C,data:=.fields #v[.ref h.objs.size,.none,.none,.none,.bool false,.none]})|`(111)=>`((#[],#[],()))|`(112)=>`({ cls:=.type "list",data:=.seq a.toArray n})|`(113)=>`((a.filter λl=>decide<|t∈DJ x l (xJ x l)))|`(114)=>`((wh X.prog X.w))|`(115)=>`((Int×List Int))|`(117)=>`((.Compare a [op] [b] pos))|`(118)=>`((vG (vz 2) vD))|`(119)=>`((rowAt rows k))|`(121)=>`((λ_ z=>z.elim))|`(122)=>`((∀C y b c f a,i C b->Ch T F R H c f a->wG T c f a b g->E (.ref C) ↑y a))|`(123)=>`((λz=>z.elim (λq=>.inl<|.inl q) λq=>.inr<|.inl q))|`(124)=>`((λx=>hc<|by simp[x]))|`(125)=>`(((s.heap.push<|mQ "list" #v[] 0).update ⇑s<|Obj.mapSeq λx=>x++a.toArray))|`(129)=>`((some<|.builtin "ValueError.__init__"))|`(130)=>`((xf rfl B.len (v7 (vz 1))))|`(131)=>`({ cls:=.type "dict",data:=.dict #v[]})|`(132)=>`({ cls:=.type "dict",dict:=none,data:=.dict #v[]})|`(133)=>`(#[rfl,rfl,rfl,q0s,rfl,q0s,q0s])|`(134)=>`((λ_ _=>False))|`(135)=>`((Ch.trans s s1.tab c1 c2))|`(136)=>`((vC<|vP<|vS zt))|`(137)=>`((λz=>nomatch z))|`(138)=>`((Gg X n cl (R++Fr) d f C I M))|`(139)=>`((∀z∈scope.names,z.2=.local->scope.names.lookup z.1=some .local))|`(141)=>`((Ch.trans s s1.tab c1 c))|`(142)=>`((λz=>z.elim (λq=>.inr<|.inl<|.inl q) .inl))|`(143)=>`({ x with ht:=dk x.ht l,th:=dk x.th (xJ x l)})|`(144)=>`((.Call (.Attribute o m apos) (e::d) [] pos))|`(145)=>`(#[h,g,d,t,os])|`(146)=>`((λ_=>#[_,rfl]))|`(147)=>`((WL.Un×WL.Un×Unit))|`(148)=>`((jT nm q C N bs bm true sn sub ab col dd k0 k1 k2 k3 k5 newId))|`(149)=>`((K w.params))|`(150)=>`({ cls:=.type "tuple",data:=.seq a.toArray})|`(151)=>`((∀x b c f a,h x b->Ch T F R H c f a->wG T c f a b g->Q x a))|`(153)=>`((∀x c,X.env.cells.lookup x=↑c->c≠b))|`(154)=>`((BQ (wh P w) P w K mg base N qual scope f d i A outer s H E))|`(155)=>`({ s with heap:=d})|`(156)=>`((.builtin "sorted"))|`(157)=>`((λq=>.inl<|.inr q))|`(158)=>`((λq=>.inr<|.inl<|.inr q))|`(159)=>`((λw e=>A5 g i r c w<|by simpa using e))|`(160)=>`((if ([]:List qe).isEmpty then 0 else 1))|`(161)=>`((.Name x p1))|`(162)=>`((if y=p.2.1 then p.2.2.1 else xJ p.1 y))|`(163)=>`((if k<0 then k+(U6.length:Int) else k))|`(164)=>`((K7.EK x low high))|`(165)=>`((d.2.2.2.2.2.2.2.2.2.2.1=("done":Str)))|`(166)=>`((p.getD (n-1) 0))|`(167)=>`((.Call (.Attribute (.Name x N) m apos) (e::n) [] pos))
noncomputable section
local macro_rules | `(tactic| walk_at "sc") => `(tactic| exact #[rfl, rfl, rfl, by decide +kernel, rfl, by decide +kernel, by decide +kernel])
local macro_rules | `(tactic| walk_at "ss") => `(tactic| exact #[rfl, rfl, rfl, by decide +kernel, rfl, by decide +kernel, by decide +kernel, by decide +kernel, rfl, rfl])
local macro_rules | `(tactic| walk_at "wl") => `(tactic| dsimp +instances only [At.get, At.hole, Pt.put, Ent.ent, Pj.pj, Fg.fg, Sel.sel, Sel.rest, Sel.mrg, Pre.pre, Pre.suf, at0, atS, pt0, ptS, ent0, entS, entC, pjNil, pjUn, pjCons, fgId, fgUn, fgCons, selNil, selCons, pre0, preS, stepC, id, ID.get, ID.set, wSq, cK, cB, cA, cO, cC, cM, cN, cS, cG, cI, cW, cT, cF])
def e0a2 {p0:Prop}{p1:Prop}{G:Prop}(h:p0/\p1)(k:p0->p1->G):G:=by obtain ⟨h0,h1⟩:=h;exact k h0 h1
def e0a3 {p0:Prop}{p1:Prop}{p2:Prop}{G:Prop}(h:p0/\p1/\p2)(k:p0->p1->p2->G):G:=by obtain ⟨h0,h1,h2⟩:=h;exact k h0 h1 h2
def e0a4 {p0:Prop}{p1:Prop}{p2:Prop}{p3:Prop}{G:Prop}(h:p0/\p1/\p2/\p3)(k:p0->p1->p2->p3->G):G:=by obtain ⟨h0,h1,h2,h3⟩:=h;exact k h0 h1 h2 h3
def e0a6 {p0:Prop}{p1:Prop}{p2:Prop}{p3:Prop}{p4:Prop}{p5:Prop}{G:Prop}(h:p0/\p1/\p2/\p3/\p4/\p5)(k:p0->p1->p2->p3->p4->p5->G):G:=by obtain ⟨h0,h1,h2,h3,h4,h5⟩:=h;exact k h0 h1 h2 h3 h4 h5
def e1a1 {wz:Sort _}{p0:wz->Prop}{G:Prop}(h:∃ x0:wz,p0 x0)(k:∀ x0:wz,p0 x0->G):G:=by obtain ⟨x0,h0⟩:=h;exact k x0 h0
def e1a2 {wz:Sort _}{p0:wz->Prop}{p1:wz->Prop}{G:Prop}(h:∃ x0:wz,p0 x0/\p1 x0)(k:∀ x0:wz,p0 x0->p1 x0->G):G:=by obtain ⟨x0,h0,h1⟩:=h;exact k x0 h0 h1
def e1a3 {wz:Sort _}{p0:wz->Prop}{p1:wz->Prop}{p2:wz->Prop}{G:Prop}(h:∃ x0:wz,p0 x0/\p1 x0/\p2 x0)(k:∀ x0:wz,p0 x0->p1 x0->p2 x0->G):G:=by obtain ⟨x0,h0,h1,h2⟩:=h;exact k x0 h0 h1 h2
def e1a4 {wz:Sort _}{p0:wz->Prop}{p1:wz->Prop}{p2:wz->Prop}{p3:wz->Prop}{G:Prop}(h:∃ x0:wz,p0 x0/\p1 x0/\p2 x0/\p3 x0)(k:∀ x0:wz,p0 x0->p1 x0->p2 x0->p3 x0->G):G:=by obtain ⟨x0,h0,h1,h2,h3⟩:=h;exact k x0 h0 h1 h2 h3
def e2a2 {wz:Sort _}{wM:Sort _}{p0:wz->wM->Prop}{p1:wz->wM->Prop}{G:Prop}(h:∃ x0:wz,∃ x1:wM,p0 x0 x1/\p1 x0 x1)(k:∀ x0:wz,∀ x1:wM,p0 x0 x1->p1 x0 x1->G):G:=by obtain ⟨x0,x1,h0,h1⟩:=h;exact k x0 x1 h0 h1
def e2a3 {wz:Sort _}{wM:Sort _}{p0:wz->wM->Prop}{p1:wz->wM->Prop}{p2:wz->wM->Prop}{G:Prop}(h:∃ x0:wz,∃ x1:wM,p0 x0 x1/\p1 x0 x1/\p2 x0 x1)(k:∀ x0:wz,∀ x1:wM,p0 x0 x1->p1 x0 x1->p2 x0 x1->G):G:=by obtain ⟨x0,x1,h0,h1,h2⟩:=h;exact k x0 x1 h0 h1 h2
def e2a4 {wz:Sort _}{wM:Sort _}{p0:wz->wM->Prop}{p1:wz->wM->Prop}{p2:wz->wM->Prop}{p3:wz->wM->Prop}{G:Prop}(h:∃ x0:wz,∃ x1:wM,p0 x0 x1/\p1 x0 x1/\p2 x0 x1/\p3 x0 x1)(k:∀ x0:wz,∀ x1:wM,p0 x0 x1->p1 x0 x1->p2 x0 x1->p3 x0 x1->G):G:=by obtain ⟨x0,x1,h0,h1,h2,h3⟩:=h;exact k x0 x1 h0 h1 h2 h3
def e2a5 {wz:Sort _}{wM:Sort _}{p0:wz->wM->Prop}{p1:wz->wM->Prop}{p2:wz->wM->Prop}{p3:wz->wM->Prop}{p4:wz->wM->Prop}{G:Prop}(h:∃ x0:wz,∃ x1:wM,p0 x0 x1/\p1 x0 x1/\p2 x0 x1/\p3 x0 x1/\p4 x0 x1)(k:∀ x0:wz,∀ x1:wM,p0 x0 x1->p1 x0 x1->p2 x0 x1->p3 x0 x1->p4 x0 x1->G):G:=by obtain ⟨x0,x1,h0,h1,h2,h3,h4⟩:=h;exact k x0 x1 h0 h1 h2 h3 h4
def e3a2 {wz:Sort _}{wM:Sort _}{xy:Sort _}{p0:wz->wM->xy->Prop}{p1:wz->wM->xy->Prop}{G:Prop}(h:∃ x0:wz,∃ x1:wM,∃ x2:xy,p0 x0 x1 x2/\p1 x0 x1 x2)(k:∀ x0:wz,∀ x1:wM,∀ x2:xy,p0 x0 x1 x2->p1 x0 x1 x2->G):G:=by obtain ⟨x0,x1,x2,h0,h1⟩:=h;exact k x0 x1 x2 h0 h1
def e3a3 {wz:Sort _}{wM:Sort _}{xy:Sort _}{p0:wz->wM->xy->Prop}{p1:wz->wM->xy->Prop}{p2:wz->wM->xy->Prop}{G:Prop}(h:∃ x0:wz,∃ x1:wM,∃ x2:xy,p0 x0 x1 x2/\p1 x0 x1 x2/\p2 x0 x1 x2)(k:∀ x0:wz,∀ x1:wM,∀ x2:xy,p0 x0 x1 x2->p1 x0 x1 x2->p2 x0 x1 x2->G):G:=by obtain ⟨x0,x1,x2,h0,h1,h2⟩:=h;exact k x0 x1 x2 h0 h1 h2
def e3a4 {wz:Sort _}{wM:Sort _}{xy:Sort _}{p0:wz->wM->xy->Prop}{p1:wz->wM->xy->Prop}{p2:wz->wM->xy->Prop}{p3:wz->wM->xy->Prop}{G:Prop}(h:∃ x0:wz,∃ x1:wM,∃ x2:xy,p0 x0 x1 x2/\p1 x0 x1 x2/\p2 x0 x1 x2/\p3 x0 x1 x2)(k:∀ x0:wz,∀ x1:wM,∀ x2:xy,p0 x0 x1 x2->p1 x0 x1 x2->p2 x0 x1 x2->p3 x0 x1 x2->G):G:=by obtain ⟨x0,x1,x2,h0,h1,h2,h3⟩:=h;exact k x0 x1 x2 h0 h1 h2 h3
def e3a5 {wz:Sort _}{wM:Sort _}{xy:Sort _}{p0:wz->wM->xy->Prop}{p1:wz->wM->xy->Prop}{p2:wz->wM->xy->Prop}{p3:wz->wM->xy->Prop}{p4:wz->wM->xy->Prop}{G:Prop}(h:∃ x0:wz,∃ x1:wM,∃ x2:xy,p0 x0 x1 x2/\p1 x0 x1 x2/\p2 x0 x1 x2/\p3 x0 x1 x2/\p4 x0 x1 x2)(k:∀ x0:wz,∀ x1:wM,∀ x2:xy,p0 x0 x1 x2->p1 x0 x1 x2->p2 x0 x1 x2->p3 x0 x1 x2->p4 x0 x1 x2->G):G:=by obtain ⟨x0,x1,x2,h0,h1,h2,h3,h4⟩:=h;exact k x0 x1 x2 h0 h1 h2 h3 h4
def e4a4 {wz:Sort _}{wM:Sort _}{xy:Sort _}{zo:Sort _}{p0:wz->wM->xy->zo->Prop}{p1:wz->wM->xy->zo->Prop}{p2:wz->wM->xy->zo->Prop}{p3:wz->wM->xy->zo->Prop}{G:Prop}(h:∃ x0:wz,∃ x1:wM,∃ x2:xy,∃ x3:zo,p0 x0 x1 x2 x3/\p1 x0 x1 x2 x3/\p2 x0 x1 x2 x3/\p3 x0 x1 x2 x3)(k:∀ x0:wz,∀ x1:wM,∀ x2:xy,∀ x3:zo,p0 x0 x1 x2 x3->p1 x0 x1 x2 x3->p2 x0 x1 x2 x3->p3 x0 x1 x2 x3->G):G:=by obtain ⟨x0,x1,x2,x3,h0,h1,h2,h3⟩:=h;exact k x0 x1 x2 x3 h0 h1 h2 h3
def e4a6 {wz:Sort _}{wM:Sort _}{xy:Sort _}{zo:Sort _}{p0:wz->wM->xy->zo->Prop}{p1:wz->wM->xy->zo->Prop}{p2:wz->wM->xy->zo->Prop}{p3:wz->wM->xy->zo->Prop}{p4:wz->wM->xy->zo->Prop}{p5:wz->wM->xy->zo->Prop}{G:Prop}(h:∃ x0:wz,∃ x1:wM,∃ x2:xy,∃ x3:zo,p0 x0 x1 x2 x3/\p1 x0 x1 x2 x3/\p2 x0 x1 x2 x3/\p3 x0 x1 x2 x3/\p4 x0 x1 x2 x3/\p5 x0 x1 x2 x3)(k:∀ x0:wz,∀ x1:wM,∀ x2:xy,∀ x3:zo,p0 x0 x1 x2 x3->p1 x0 x1 x2 x3->p2 x0 x1 x2 x3->p3 x0 x1 x2 x3->p4 x0 x1 x2 x3->p5 x0 x1 x2 x3->G):G:=by obtain ⟨x0,x1,x2,x3,h0,h1,h2,h3,h4,h5⟩:=h;exact k x0 x1 x2 x3 h0 h1 h2 h3 h4 h5
def e5a3 {wz:Sort _}{wM:Sort _}{xy:Sort _}{zo:Sort _}{B9:Sort _}{p0:wz->wM->xy->zo->B9->Prop}{p1:wz->wM->xy->zo->B9->Prop}{p2:wz->wM->xy->zo->B9->Prop}{G:Prop}(h:∃ x0:wz,∃ x1:wM,∃ x2:xy,∃ x3:zo,∃ x4:B9,p0 x0 x1 x2 x3 x4/\p1 x0 x1 x2 x3 x4/\p2 x0 x1 x2 x3 x4)(k:∀ x0:wz,∀ x1:wM,∀ x2:xy,∀ x3:zo,∀ x4:B9,p0 x0 x1 x2 x3 x4->p1 x0 x1 x2 x3 x4->p2 x0 x1 x2 x3 x4->G):G:=by obtain ⟨x0,x1,x2,x3,x4,h0,h1,h2⟩:=h;exact k x0 x1 x2 x3 x4 h0 h1 h2
def e5a4 {wz:Sort _}{wM:Sort _}{xy:Sort _}{zo:Sort _}{B9:Sort _}{p0:wz->wM->xy->zo->B9->Prop}{p1:wz->wM->xy->zo->B9->Prop}{p2:wz->wM->xy->zo->B9->Prop}{p3:wz->wM->xy->zo->B9->Prop}{G:Prop}(h:∃ x0:wz,∃ x1:wM,∃ x2:xy,∃ x3:zo,∃ x4:B9,p0 x0 x1 x2 x3 x4/\p1 x0 x1 x2 x3 x4/\p2 x0 x1 x2 x3 x4/\p3 x0 x1 x2 x3 x4)(k:∀ x0:wz,∀ x1:wM,∀ x2:xy,∀ x3:zo,∀ x4:B9,p0 x0 x1 x2 x3 x4->p1 x0 x1 x2 x3 x4->p2 x0 x1 x2 x3 x4->p3 x0 x1 x2 x3 x4->G):G:=by obtain ⟨x0,x1,x2,x3,x4,h0,h1,h2,h3⟩:=h;exact k x0 x1 x2 x3 x4 h0 h1 h2 h3
def e5a6 {wz:Sort _}{wM:Sort _}{xy:Sort _}{zo:Sort _}{B9:Sort _}{p0:wz->wM->xy->zo->B9->Prop}{p1:wz->wM->xy->zo->B9->Prop}{p2:wz->wM->xy->zo->B9->Prop}{p3:wz->wM->xy->zo->B9->Prop}{p4:wz->wM->xy->zo->B9->Prop}{p5:wz->wM->xy->zo->B9->Prop}{G:Prop}(h:∃ x0:wz,∃ x1:wM,∃ x2:xy,∃ x3:zo,∃ x4:B9,p0 x0 x1 x2 x3 x4/\p1 x0 x1 x2 x3 x4/\p2 x0 x1 x2 x3 x4/\p3 x0 x1 x2 x3 x4/\p4 x0 x1 x2 x3 x4/\p5 x0 x1 x2 x3 x4)(k:∀ x0:wz,∀ x1:wM,∀ x2:xy,∀ x3:zo,∀ x4:B9,p0 x0 x1 x2 x3 x4->p1 x0 x1 x2 x3 x4->p2 x0 x1 x2 x3 x4->p3 x0 x1 x2 x3 x4->p4 x0 x1 x2 x3 x4->p5 x0 x1 x2 x3 x4->G):G:=by obtain ⟨x0,x1,x2,x3,x4,h0,h1,h2,h3,h4,h5⟩:=h;exact k x0 x1 x2 x3 x4 h0 h1 h2 h3 h4 h5
def e6a2 {wz:Sort _}{wM:Sort _}{xy:Sort _}{zo:Sort _}{B9:Sort _}{Uh:Sort _}{p0:wz->wM->xy->zo->B9->Uh->Prop}{p1:wz->wM->xy->zo->B9->Uh->Prop}{G:Prop}(h:∃ x0:wz,∃ x1:wM,∃ x2:xy,∃ x3:zo,∃ x4:B9,∃ x5:Uh,p0 x0 x1 x2 x3 x4 x5/\p1 x0 x1 x2 x3 x4 x5)(k:∀ x0:wz,∀ x1:wM,∀ x2:xy,∀ x3:zo,∀ x4:B9,∀ x5:Uh,p0 x0 x1 x2 x3 x4 x5->p1 x0 x1 x2 x3 x4 x5->G):G:=by obtain ⟨x0,x1,x2,x3,x4,x5,h0,h1⟩:=h;exact k x0 x1 x2 x3 x4 x5 h0 h1
def e7a2 {wz:Sort _}{wM:Sort _}{xy:Sort _}{zo:Sort _}{B9:Sort _}{Uh:Sort _}{α6:Sort _}{p0:wz->wM->xy->zo->B9->Uh->α6->Prop}{p1:wz->wM->xy->zo->B9->Uh->α6->Prop}{G:Prop}(h:∃ x0:wz,∃ x1:wM,∃ x2:xy,∃ x3:zo,∃ x4:B9,∃ x5:Uh,∃ x6:α6,p0 x0 x1 x2 x3 x4 x5 x6/\p1 x0 x1 x2 x3 x4 x5 x6)(k:∀ x0:wz,∀ x1:wM,∀ x2:xy,∀ x3:zo,∀ x4:B9,∀ x5:Uh,∀ x6:α6,p0 x0 x1 x2 x3 x4 x5 x6->p1 x0 x1 x2 x3 x4 x5 x6->G):G:=by obtain ⟨x0,x1,x2,x3,x4,x5,x6,h0,h1⟩:=h;exact k x0 x1 x2 x3 x4 x5 x6 h0 h1
def us0 {α:Type}{P:List α->Prop}(h:P [])(us:List α)(e:us.length=0):P us:=by
 cases us with
 |nil=>exact h
 |cons=>cases e
def us1 {α:Type}{P:List α->Prop}(h:∀ a,P [a])(us:List α)(e:us.length=1):P us:=by
 cases us with
 |nil=>cases e
 |cons a t=>exact us0 (P:=fun t=>P (a :: t)) (h a) t (Nat.succ.inj e)
def us2 {α:Type}{P:List α->Prop}(h:∀ a b,P [a,b])(us:List α)(e:us.length=2):P us:=by
 cases us with
 |nil=>cases e
 |cons a t=>exact us1 (P:=fun t=>P (a :: t)) (h a) t (Nat.succ.inj e)
def us3 {α:Type}{P:List α->Prop}(h:∀ a b c,P [a,b,c])(us:List α)(e:us.length=3):P us:=by
 cases us with
 |nil=>cases e
 |cons a t=>exact us2 (P:=fun t=>P (a :: t)) (h a) t (Nat.succ.inj e)
def us4 {α:Type}{P:List α->Prop}(h:∀ a b c d,P [a,b,c,d])(us:List α)(e:us.length=4):P us:=by
 cases us with
 |nil=>cases e
 |cons a t=>exact us3 (P:=fun t=>P (a :: t)) (h a) t (Nat.succ.inj e)
def cutG {α:Sort _}{G:α->Prop}{P:Prop}(k:(∀ a,G a)->P)(h:∀ a,G a):P:=k h
def cutP {G P:Prop}(k:G->P)(h:G):P:=k h
def lx0 {α:Type}(us:List α)(e:us.length=0):us=[]:=us0 (P:=fun us=>us=[]) rfl us e
def lx1 {α:Type}(us:List α)(e:us.length=1):∃ a,us=[a]:=us1 (P:=fun us=>∃ a,us=[a]) (fun a=>#[a,rfl]) us e
def lx2 {α:Type}(us:List α)(e:us.length=2):∃ a b,us=[a,b]:=us2 (P:=fun us=>∃ a b,us=[a,b]) (fun a b=>#[a,b,rfl]) us e
open PySem renaming wpAny_bind->am,wpAny_pure->ap,Addr->hO,Value->hR,starEach->hV,sizeLine->hZ,Shared->h9,wpAny->ii,model->ik,mainGlobals->iA,Stmt->iK,Program->iT,wpAny_holding->iX,FuncData->iY,attributeBase->i7,Expr->i8,wpAny_mono->jb,Heap->jd,wpAny_newObj_type->je,World->ji,wpAny_call_entry->jl,behindInMarks->jm,sizeLine_eq->jt,wpAny_field->ju,wpAny_setState_of->jw,backTo->jz,compareOp->jH,Around->jL,excClassObj->jT,wpAny_askSetting->jV,SetTable->jZ,wpAny_loadPart_at->j5,codeAny_builtin->j9,wpAny_setField_rec->kf,swapsWith->kg,codeAny_mono->ko,ExcBaseFacts->kE,cLine->kI,mem_of_lookup->kJ,wpAny_truthy_bool->kN,foldedSetIterable->kO,intKind->kU,wpAny_Call_Name_kw->lj,wpAny_loadName_local->lv,holding->lw,keywordEach->lx,wpAny_typeOf->lA,sysModules->lG,plainId_quiet->lJ,wpAny_seqItems->lQ,unsupported->lX,tupleKind_room_in1->lZ,Scope->mi,wpAny_passesOwn->mj,rawInt->mq,builtinLookup_eq_fast->mu,wpAny_rule->mG,codeAny->mI,wpAny_isInstance->mK,binaryOp->mV,boot_len->mY,wpAny_execs_nil->m4,codeAny_of_tree->m6,wpAny_call->m8,getMethod->nc,wpAny_of_eq->ng,bootBuiltins->nC,standAt->nE,backToKw->nI,wpAny_setField->nL,typeLookup->nY,hashInt->n6,wpAny_standAt->n9,callWith->oa,sliceBounds->og,codeAny_call_builtin->oi,typeLookup_type->oB,getItem->oH,call_meetsIn->oM,builtinsNs->oV,closureFor->oX,relabel->pq,wpAny_attempt->pG,wpAny_comprehension_free->pH,wpAny_onRaise->pI,tupleKind->pL,GenState->pM,wpAny_Name->qb,assignEach->qc,Keyword->qe,intKind_is->qg,sub_set_self->qh,wpAny_specialOf->qj,wpAny_updateSeq->qo,IsPart->qC,firstArgMember->qF,IsPair->qH,wpAny_updateSeq_pair->qI,valueAt->qM,wpAny_loadName_free->qQ,wpAny_setEntries_of->qV,Obj->qY,wpAny_isSubtype_exc->q7,CmpOp->rc,isTrue->rj,wpAny_load->ro,wpAny_pyIter_tuple->rq,wpAny_Call_method->rM,callerA->rN,cStatics->rQ,ks_wpAt_mono->rR,plainObj_wpAny_Assign_Attribute->rW,wpAny_eqBool_int->sf,PassesOwn->sg,argsOk->si,subscripted->sw,IsZip->sG,wpAny_letGo->sH,Within->sK,wpAny_AugAssign_SubscriptAny->sN,letOwnedTupleGo->sO,wpAny_tests_nil->sR,setItem->sV,BindsTo->sX,OwnTail->tm,wpAny_Compare1->tD,assign->tE,recursionLimit->tG,bindArgs->tH,atKey->tM,relayAll->tP,storeSet->tQ,entryFor->tR,entryFor_alias->tS,wpAny_runValue->tT,isSubtype_type->tU,compEnvC->tW,refuseLoop->t6,evalPart_none->ul,wpAny_getItem_list_slice->um,call->uo,wpAny_newList->ur,wpAt->uu,table->uC,pickOrder->uD,TriplesOk->uG,noteFrame->uH,field->uI,spliced->uP,truthy->uQ,leaving->uR,seqIndex_neg->uT,typeOf->uV,wpAny_Call_method_late->uW,codeAny_handlers_suite->vc,wpAny_isTrue_Compare1->vi,weight_type_call_type->vm,wpAny_Raise_call_subT->vp,codeAny_handlers_test->vv
open PySem.Heap renaming get?_push_of_some->ci,lt_size->ie,get?_push_size->iq,get?_update_other->iZ,get?_update_self->jj,SameBut->jq,size_push->jR,FlyingW->lO,get?_none_of_le->nO,get?_push_at->oQ,size_update->o6,get?_update_ne->qr,IsTuple->qO,MadeExcOf->se
open PySem.W renaming Frag->hJ,nsIn->iC,findIn->iL,mg_of->iP,exmOne->iU,envX->jo,keepIn->jA,excIn->jE,codeIn->jM,fnOf->jS,Looks->jW,kia_one->jY,emptyDict->kd,ks_superIn->kq,hideAll->kC,instObj->kY,fnX->k8,mroIn->lh,of_hideAll->lH,exmAny->l9,methodObj->mO,fnIn->mS,plainGet->m7,clsIn->ni,kas_rev_size->nM,hideAll_get->nN,kitOne->nX,hasDictIn->ol,tabIn->oC,isFn->oW,funFrames_hide->oY,methodCall_KW->o9,lookIn->pw,typeIn->pA,looks_findIn->pB,plainGet_of->pN,looks_clsIn->pO,callWith_of->pU,looks_mroIn->pV,ks_superObj->pX,callWith_K->qd,isNs_of_in->qi,plainOver->qu,takerIn->qR,makesIn->qS,OpenLaw->qW,CodeHd->rB,tabObj->rC,ks_loadName_global->rD,MethP->rS,kas_rev->rT,cellsFrom_some->sh,hideAll_none->sL,looks_opaque->sU,callWith_K0->sY,codeRec_of->tK,tail_of_in->tX,mg_none_of->tZ,specialIn->t9,kitx_list->uc,kitx_dict->ud,handedIn->uk,kat_cons->uv,takesIn->ux,keeps_M->uJ,exm_one->uK,alongIn->uL,kas_place->uN,kat_yes->uO,kat_go->ve,kat_no->vf,nsOkIn->vh,WalkO->vn
open Nat renaming le_refl->hW,ne_of_lt->iz,lt_of_lt_of_le->iE,le_trans->i9,zero_le->js,ne_of_gt->jD,lt_succ_self->jP,lt_irrefl->kh,le_of_lt_succ->kG,le_succ->mr,le_of_lt->my,succ_pos->m9,lt_trans->oh,lt_of_le_of_lt->oz,mod_lt->oA,lt_succ_of_lt->oS,le_add_right->pc,le_of_eq->qT,sub_self->qZ,le_of_not_lt->rr,zero_add->tO,div_lt_of_lt_mul->uq,lt_trichotomy->vj
open List renaming length_map->h8,mem_cons_self->ic,mem_cons_of_mem->ij,size_toArray->iu,length_append->iw,mem_append_right->iF,range->iG,length_cons->iH,length_singleton->iI,map_cons->iN,mem_cons->iO,length_filter_le->iR,lookup_cons->i4,mem_append_left->jg,find?_cons->jk,not_mem_nil->jB,getD_eq_getElem?_getD->jG,take_of_length_le->jK,filter_cons->jN,getElem?_eq_getElem->jO,getElem?_map->jU,mem_filter->j4,mem_of_getElem?->j7,getElem?_append_right->ki,pairwise_singleton->kF,map_append->kH,lookup->kR,getElem?_eq_none->kX,length_set->lm,filterMap_cons->lu,replicate->lE,map_map->lP,append_nil->lR,length_range->l6,filter_congr->l8,getElem?_of_mem->ml,length_take->mw,getElem?_append_left->mz,map_congr_left->mF,mem_append->mJ,getElem?_set_self->mZ,perm_append_comm->nj,length_drop->nw,all_eq_true->ny,getElem?_set_ne->nP,take_append_of_le_length->nQ,length_nil->nS,nodup_nil->oo,mem_singleton->oq,drop_eq_getElem_cons->oE,length->oJ,reverse_cons->oK,append_assoc->oO,any_cons->oR,eraseIdx_cons_succ->oZ,any_eq_true->o8,filterMap_eq_map'->pr,of_mem_zip->pC,filter_map->pJ,all_cons->qw,map_nil->qK,ext_getElem?->qN,eraseIdxIfInBounds_toArray->qU,getElem?_take_of_lt->sv,findIdx?->sC,getElem?_replicate->sP,getElem?_cons_succ->sT,pairwise_lt_range->tj,any_map->tq,length_replicate->tJ,take_append_drop->tN,getElem?_range->ut,filterMap_map->uy,getElem?_take->uz,getElem?_drop->uA,map_filterMap->uB,contains_cons->uM,take_sublist->uS,getElem_mem->vk,drop_length->vq,zipIdx_cons->vr,take_length->vt,getElem_map->vw,cons_ne_nil->vy
open Array renaming length_toList->ig,getElem?_toList->ja,getElem?_eq_getElem->jJ,getD_eq_getD_getElem?->lV,size_map->mW,toList_extract->nK,toList_append->qf,append_assoc->qt,toList_push->qD,toList->sM,getElem?_eq_none->sS,find?_toList->uj
open Bool renaming false_ne_true->im,and_eq_true->jc,eq_iff_iff->k9,false_eq_true->lN,xor_assoc->oy,and_self->qy,false_xor->r9,xor_false->sd,false_or->sx,or_false->sD,or_true->ts,not_eq_true'->u4
open PySem.SetTable renaming below->iB,sizeAbove->jh,eraseAt->jr,runEnd->jx,insertAt->jy,bits->jC,leap->kK,fresh->kP,has->kZ,turns->lp,fill->lK,Probe->lW,advance->mf,grown->mM,laid->om,freeSlot->qk,layClean->qm,probe->rg,slot->rG,roomFor->ug,fits->uY,road->uZ
open PySem.Value renaming ref->iD,type->kD,int->mo,isInt->nA,bool->rK,float->tz
open Option renaming isSome_map->iJ,getD_none->qL,map->ue
open Sum renaming inl->iM,inr->qP
open PySem.F renaming excBase_ValueError->iQ,slot_dict_get->kS,slot_tuple_iterator_next->mC,entry_dict_get->mP,plainAttrs_dict->oN,plainAttrs_list->oP,plain_list_iadd->o5,plain_set_new->pZ,slot_zip_next->qa,plain_extend_loop->qG,slot_dict_delitem->rF,args_dict_get_2->rX,args_dict_get_3->rY,args_tuple_iterator_next_1->sj,slot_dict_pop->sy,type_dict_get->sA,entry_tuple_iterator_next->sF,slot_list_pop->sI,type_list_pop->sJ,entry_proto_collect->uE,plain_proto_collect->uF
open False renaming elim->iV
open List.Pairwise renaming nil->iW,filter->kj,imp->pE,sublist->rf
open Option.some renaming inj->jp
open PySem.SetTable.layClean renaming free->jv
open PySem.Builtin.SmallTypes renaming nextOf->jF,ownedTupleIsFree->ky,ownedTupleHandOut->ou
open PySem.Calls renaming evalArgs_plain->jI,spliced_cons->ku,callWith_builtin->kM,spliced_nil->lU,loadGlobal_builtin->oG,Name_function_global->rL,call_function_entry->r8
open PySem.Around renaming under_plainId->jQ,under->su,frames_deeper->sZ,under_plain->ui
open Or renaming inl->jX
open PySem.SetTable.probe renaming go->j0
open PyProof.Rows renaming callWith_type1->kA,boot_list->kB,boot_sorted->kT,slot_tuple_getitem->kW,IntsAre->lM,seqObj->mQ,AllBare->n8,boot_set->oF,envOfC->o7,callWith_builtin1->pY,boot_isinstance->qp,boot_tuple->qX,boot_bool->rh,Subscript_->tL,size_push'->tV,listUpdate_at->uw,subscriptTail_builtinR->uU,lands_againW->vd
open PySem.Spec renaming sameAll->lq,same->lF
open PySem.Builtin.Slice renaming slicePlaces->lS,sliceAdjust->qz
open PySem.Builtin.Tuple renaming tupleExact->lY,tupleItemsOf->qv
open Int renaming toNat_natCast->md,le_refl->oT,emod_lt_of_pos->qJ,emod_nonneg->rV,ne_of_lt->tY,lt_of_le_of_lt->vg
open PySem.Builtin.List renaming listSameRef->mh,listExtendWith->qx
open PySem.W.KasT renaming kasWp->mn,kasWp_bind->nW
open PySem.Str renaming ofString->mB
open PySem.Heap.SameBut renaming refl->mD,update->o4
open PySem.Shared renaming TypeIs->mE
open PySem.PyData renaming canLayAll0->mU,depthAll->ph,canLay0->pK,eqv->qq,depth->sE
open PySem.SeqAt renaming noMixAll->mX,noMix->pR,shaped->sQ
open ForInStep renaming yield->nq
open PySem.SetTable.below renaming go->nJ
open PySem.Heap.UpToSlots renaming of_keeps->nV
open Classical renaming byContradiction->nZ
open Sum.inl renaming inj->oj
open PySem.Code renaming quiet_builtin->ot,isFrame->sW
open Nat.succ renaming inj->oU
open List.Perm renaming cons->pf,refl->pi,append_left->rZ,of_eq->uf
open PyProof.Rows.F renaming plain_set_update_loop->pF,entry_set_update_loop->uh
open PySem.Builtin.Frozenset renaming newClass->pQ,oneOther->pS
open PySem.W.Looks renaming ld->pW
open String renaming splitOnAux->qA,splitOn->rH
open PyProof.Rows.IntsAre renaming int_at->rs,length->rA
open PySem.Heap.IsSliceOf renaming new->rE
open Eq renaming mpr->rJ
open PySem.pickOrder renaming go->rO
open PySem.SeqAt.EqAt renaming int_str->sk,str_int->sr
open PySem.Heap.DictOf renaming new->td
open PySem.Heap.Ns1 renaming of_empty->tF
open PySem.Data renaming fields->t7
open Function renaming comp->uX
abbrev cr:=@if_neg
abbrev hI:=@if_pos
abbrev io:=@decide_eq_false
abbrev iv:=@absurd
abbrev jf:=@decide_eq_true_eq
abbrev kQ:=@of_decide_eq_true
abbrev mH:=@or_false
abbrev pP:=@if_false
abbrev pT:=@beq_self_eq_true
abbrev qE:=@not_or
abbrev rP:=@bne_self_eq_false
def q0q{p:Prop}(h:p:=by decide):p:=h
def q0d{p:Prop}(h:p:=by omega):p:=h
def q0o{p:Prop}(h:p:=by simp):p:=h
def q0s{p:Prop}(h:p:=by decide +kernel):p:=h
def q0a{p:Prop}(h:p:=by lia):p:=h
namespace L2
open PySem PySem.Spec PyProof.Rows
abbrev Key:=Sum Int Str
noncomputable def AW:Key->hR->Bool
 | .inl k,v=>nA k v
 | .inr x,v=>Value.isStrOf x v
noncomputable def a2k(w:ji):Key->Int
 | .inl k=>n6 k
 | .inr x=>hashStr w x
def wQ:∀{k:Key} {v:hR},AW k v=true->(∃i t,k=iM i/\v=mo i t)\/(∃x t,k=qP x/\v=Value.str x t)
 | .inl i,v,h=>by
  obtain⟨t,e⟩:=Value.isInt_shape (k:=i) (v:=v) h;exact .inl #[i,t,rfl,e]
 | .inr x,v,h=>by obtain⟨t,e⟩:=Value.isStrOf_shape (x:=x) (v:=v) h;exact .inr #[x,t,rfl,e]
def Oc(i:Int)(t:Tok):AW (.inl i) (.int i t)=true:=by simp[AW,nA]
def Od(x:Str)(t:Tok):AW (.inr x) (.str x t)=true:=by simp[AW,Value.isStrOf]
def XJ(a b:Int):decide ((iM a:Key)=iM b)=(a==b):=by
 by_cases e:a=b
 ·subst e;simp
 ·have h:¬(iM a:Key)=iM b:=λq=>e<|oj q;rw[io h];exact(beq_eq_false_iff_ne.mpr e).symm
def XM(a b:Str):decide ((qP a:Key)=qP b)=decide (a=b):=by
 by_cases e:a=b
 ·subst e;simp
 ·have h:¬(qP a:Key)=qP b:=λq=>e<|Sum.inr.inj q;rw[io h,io e]
def XQ(a:Int)(b:Str):decide ((iM a:Key)=qP b)=false:=io<|λq=>nomatch q
def XU(a:Str)(b:Int):decide ((qP a:Key)=iM b)=false:=io<|λq=>nomatch q
noncomputable def wl(prog:iT)(w:ji):PySem.KeyKind prog w Key where
 is:=AW
 hash:=a2k w
 inj:=λv a b ha hb=>by
  rcases wQ ha with⟨i,t,rfl,rfl⟩|⟨x,t,rfl,rfl⟩
  ·rcases wQ hb with⟨j,u,rfl,e⟩|⟨y,u,rfl,e⟩
   ·injection e with e1 _;rw[e1]
   ·exact nomatch e
  ·rcases wQ hb with⟨j,u,rfl,e⟩|⟨y,u,rfl,e⟩
   ·exact nomatch e
   ·injection e with e1 _;rw[e1]
 byValue:=λk v h=>by rcases wQ h with⟨i,t,rfl,rfl⟩|⟨x,t,rfl,rfl⟩<;>rfl
 pyHash:=λhv h=>by
  rcases wQ hv with⟨i,t,rfl,rfl⟩|⟨x,t,rfl,rfl⟩
  ·exact wpAny_pyHash_int h
  ·exact wpAny_pyHash_str h
 eqBool:=λhu hv h=>by
  rcases wQ hu with⟨i,t,rfl,rfl⟩|⟨x,t,rfl,rfl⟩
  ·rcases wQ hv with⟨j,u,rfl,rfl⟩|⟨y,u,rfl,rfl⟩
   ·rw[XJ]at h;exact sf h
   ·rw[XQ]at h;exact sk i t y u _ _ _ _ h
  ·rcases wQ hv with⟨j,u,rfl,rfl⟩|⟨y,u,rfl,rfl⟩
   ·rw[XU]at h;exact sr x t j u _ _ _ _ h
   ·rw[XM]at h;exact wpAny_eqBool_str h
 «strs»:=λk x t v h=>by
  rcases wQ h with⟨i,u,rfl,e⟩|⟨y,u,rfl,e⟩
  ·exact nomatch e
  ·injection e with e1 _;subst e1;cases v<;>rfl
def Ju(a:iT)(w:ji)(i:Int)(t:Tok):(wl a w).is (.inl i) (.int i t)=true:=Oc i t
def Jv(a:iT)(w:ji)(x:Str)(t:Tok):(wl a w).is (.inr x) (.str x t)=true:=Od x t
set_option genInjectivity true in
inductive V where
 | xj|bl (b:Bool)|int (i:Int)|str (x:Str)|MW (b:Array UInt8)|Ui (b:UInt64)|ref (a:hO)|ty (n:String)
 deriving DecidableEq
def RelV:V->hR->Prop
 | .xj,u=>u=Value.none
 | .bl b,u=>u=rK b
 | .int i,u=>∃t,u=mo i t
 | .str x,u=>∃t,u=Value.str x t
 | .MW b,u=>∃t,u=Value.bytes b t
 | .Ui b,u=>∃t,u=tz b t
 | .ref a,u=>u=iD a
 | .ty n,u=>u=kD n
abbrev Vals:List V->List hR->Prop:=Paired RelV
def Vals.length{xs:List V}{us:List hR}(r:Vals xs us):xs.length=us.length:=Paired.length r
def Vals.get:∀{a:List V} {b:List hR} {i:Nat} {x:V},Vals a b->a[i]?=↑x->∃u,b[i]?=↑u/\RelV x u:=by
 intro _ _ i x z
 induction z generalizing i with
 |nil=>intro e;simp at e
 |cons r t c =>
  intro e
  cases i with
  |zero=>simp at e;subst e;exact#[_,rfl,r]
  |succ i=>exact e1a2 (c<|by simpa using e) λu d f=>#[u,by simpa using d,f]
def Vals.set(r:RelV x u):∀{a:List V} {b:List hR} (i:Nat),Vals a b->Vals (a.set i x) (b.set i u)
 |_,_,_,.nil=>.nil
 |_,_,0,.cons _ t=>.cons r t
 |_,_,i+1,.cons q t=>.cons q<|Vals.set r i t
def Vals.append:∀{a b:List V} {c d:List hR},Vals a c->Vals b d->Vals (a++b) (c++d):=by
 intro _ _ _ _ z s
 induction z with
 |nil=>exact s
 |cons h t e=>exact .cons h e
def Vals.take:∀{a:List V} {b:List hR} (n:Nat),Vals a b->Vals (a.take n) (b.take n)
 |_,_,0,_=>.nil
 |_,_,_+1,.nil=>.nil
 |_,_,n+1,.cons r t=>.cons r<|Vals.take n t
def Vals.drop:∀{a:List V} {b:List hR} (n:Nat),Vals a b->Vals (a.drop n) (b.drop n)
 |_,_,0,r=>r
 |_,_,_+1,.nil=>.nil
 |_,_,n+1,.cons _ t=>Vals.drop n t
def Ak:Option V->Option hR->Prop
 |some v,some u=>RelV v u
 |none,none=>True
 |_,_=>False
def KV{a:Type}:List (a×V)->List (a×hR)->Prop:=Paired λ(p:a×V)(q:a×hR)=>p.1=q.1/\RelV p.2 q.2
noncomputable def kV:Key->V
 | .inl i=>.int i
 | .inr x=>.str x
inductive HO where
 | lst (xs:List V)
 | tup (xs:List V)
 | dK (x9:List (Key×V))|dT (x9:List (List Key×V))
 | set (S:Int->Bool) (n:Nat)
 | ins (C dx:hO) (fs:List (Str×V))
 | own (x:hO)
 | xd (fs:List (Str×V))
 | met (f x:hO)
 | Aj (lo hi:Int)
 | KW (o:Obj) (u:HO)
 | Gd (ps:Array hR)
 | ext (φ:jd->Prop)
abbrev Hp:=hO->Option HO
noncomputable def upd(H:Hp)(a:hO)(o:HO):Hp:=λb=>if b=a then some o else H b
def vF:upd H a o a=↑o:=by unfold upd;rw[hI rfl]
def vB(h:b≠a):upd H a o b=H b:=by unfold upd;rw[cr h]
def Uj:upd (upd H a o) a u=upd H a u:=by funext b;unfold upd;split<;>rfl
def Z6{H:Hp}{a b:hO}{o u:HO}(h:H a=↑o)(c:H b=↑u)(d:o≠u):a≠b:=by intro e;subst e;rw[h]at c;exact d<|jp c
def vM{H:Hp}{a b:hO}{o:HO}(h:H a=↑o)(c:H b=none):a≠b:=by intro e;subst e;rw[h]at c;cases c
section
variable(P:iT)(w:ji)
def wJ(H:Hp)(h:jd)(a:hO):HO->Prop
 | .lst xs=>xs.length<=hZ/\∃(AV:List hR)(n:Nat),Vals xs AV/\h.get? a=some { cls:=.type "list",data:=.seq AV.toArray n}
 | .tup xs=>xs.length<=hZ/\∃AV:List hR,Vals xs AV/\IsTup h a AV.toArray
 | .dK x9=>x9.length<=hZ/\(a==lG)=false/\∃vs,KV x9 vs/\h.DictOf (wl P w) a vs
 | .dT x9=>x9.length<=hZ/\(a==lG)=false/\∃xs:List (List Key×hO×hR),
   Paired (λ(p:List Key×V)(q:List Key×hO×hR)=>p.1=q.1/\H q.2.1=↑(.tup<|p.1.map kV)/\RelV p.2 q.2.2) x9 xs /\
   ∃o es ep,h.get? a=↑o/\o.ExactDict/\o.data=.dict es ep/\es.toList=xs.map (entryOfKey<|pL<|wl P w)/\(xs.map (·.1)).Nodup
 | .set S n=>h.SetOf (kU P w) a S n
 | .ins C dx fs=>H dx=↑(.own a)/\fs.length<=1000/\dx≠a/\h.get? a=↑(kY C dx) /\
   ∃mA,h.Ns1 dx mA/\(∀f,Ak (fs.lookup f)<|mA f)/\sK mA (fs.map (·.1))
 | .own _=>∃o,h.get? a=↑o
 | .xd fs=>∃mA,h.Ns1 a mA/\∀f,Ak (fs.lookup f)<|mA f
 | .Aj lo hi=>∃t u v,h.get? a=some { cls:=.type "range",data:=.fields #v[.int lo t,.int hi u,.int 1 v]}
 | .KW o u=>h.get? a=↑o/\wJ H h a u
 | .Gd ps=>h.get? a=some { cls:=.none,data:=.fields ps}
 | .met f x=>h.get? a=↑(mO (.ref f)<|.ref x)
 | .ext φ=>φ h/\(∃o,h.get? a=↑o)/\∀h1 h2:jd,φ h1->(∀o,h1.get? a=↑o->h2.get? a=↑o)->φ h2
def yG(H:Hp)(h:jd):Prop:=∀a o,H a=↑o->wJ P w H h a o
end
def wJ.lt(x:wJ P w H h a o):a<h.objs.size:=by
 cases o with
 |lst c=>obtain⟨_,_,_,_,e⟩:=x;exact ie e
 |tup c=>obtain⟨_,_,_,p⟩:=x;exact p.lt
 |dK b=>obtain⟨_,_,_,_,o,_,_,e,_⟩:=x;exact ie e
 |dT b=>obtain⟨_,_,_,_,o,_,_,e,_⟩:=x;exact ie e
 |set S n=>obtain⟨o,_,_,_,e,_⟩:=x;exact ie e
 |ins C d fs=>obtain⟨_,_,_,e,_⟩:=x;exact ie e
 |own y=>obtain⟨_,e⟩:=x;exact ie e
 |xd fs=>obtain⟨_,⟨_,_,_,e,_⟩,_⟩:=x;exact ie e
 |Aj lo g=>obtain⟨_,_,_,e⟩:=x;exact ie e
 |KW i u=>obtain⟨e,_⟩:=x;exact ie e
 |Gd j=>exact ie<|show h.get? a=some _ from x
 |met f y=>exact ie<|show h.get? a=some _ from x
 |ext k=>obtain⟨_,⟨_,e⟩,_⟩:=x;exact ie e
def Paired.XW:∀{c:List g} {d:List i},Paired F c d->(∀a b,F a b->G a b)->Paired G c d:=by
 intro _ _ z f
 induction z with
 |nil=>exact .nil
 |cons h t e=>exact .cons (f _ _ h) e
def wJ.CA(x:wJ P w H h a o)(k:∀b u,(b=a\/H b=↑(.own a))->h.get? b=↑u->F.get? b=↑u)
 (G:∀b,H b=↑(.own a)->D b=↑(.own a))(I:∀b m,H b=↑(.tup m)->D b=↑(.tup m)):wJ P w D F a o:=by
  induction o with
  |lst m=>obtain⟨z,l,n,r,e⟩:=x;exact#[z,l,n,r,k _ _ (.inl rfl) e]
  |tup m=>obtain⟨z,l,r,g,e,c⟩:=x;exact#[z,l,r,g,k _ _ (.inl rfl) e,c]
  |dK s=>obtain⟨z,y,J,r,g,i,j,e,c⟩:=x;exact#[z,y,J,r,g,i,j,k _ _ (.inl rfl) e,c]
  |dT s =>
    obtain⟨z,y,m,r,g,i,j,e,c⟩:=x
    exact#[z,y,m,Paired.XW r λp q z=>#[z.1,I _ _ z.2.1,z.2.2],g,i,j,k _ _ (.inl rfl) e,c]
  |set S n=>obtain⟨g,i,j,t,e,c⟩:=x;exact#[g,i,j,t,k _ _ (.inl rfl) e,c]
  |ins C Q fs =>
    obtain⟨d,z,L,e,A,⟨B,i,j,M,c⟩,r⟩:=x
    exact#[G _ d,z,L,k _ _ (.inl rfl) e,A,#[B,i,j,k _ _ (.inr d) M,c],r]
  |own y=>obtain⟨g,e⟩:=x;exact#[g,k _ _ (.inl rfl) e]
  |xd fs=>obtain⟨A,⟨B,i,j,e,c⟩,r⟩:=x;exact#[A,#[B,i,j,k _ _ (.inl rfl) e,c],r]
  |Aj lo R=>obtain⟨t,u,v,e⟩:=x;exact#[t,u,v,k _ _ (.inl rfl) e]
  |KW g u N=>obtain⟨e,q⟩:=x;exact#[k _ _ (.inl rfl) e,N q]
  |Gd O =>
    have e:h.get? a=some { cls:=.none,data:=.fields O}:=x
    exact k a _ (.inl rfl) e
  |met f y =>
    have e:h.get? a=↑(mO (.ref f)<|.ref y):=x
    exact k a _ (.inl rfl) e
  |ext T=>obtain⟨p,⟨o,e⟩,E⟩:=x;exact#[E _ _ p λo q=>k _ _ (.inl rfl) q,#[o,k _ _ (.inl rfl) e],E]
def yG.lt(x:yG P w H h)(e:H a=↑o):a<h.objs.size:=(x a o e).lt
def yG.fresh(x:yG P w H h)(e:h.objs.size<=a):H a=none:=by
 cases q:H a with
 |none=>rfl
 |some u=>exact iv (iE (x.lt q) e)<|kh _
def yG.kept(x:yG P w H h)(k:∀b u,h.get? b=↑u->c.get? b=↑u):yG P w H c:=λa o e =>
 (x a o e).CA (λb u _ q=>k b u q) (λ_ q=>q) λ_ _ q=>q
def yG.laid(x:yG P w H h)(k:∀b u,h.get? b=↑u->h'.get? b=↑u)(i:h.objs.size<=a)(d:wJ P w (upd H a o) h' a o):yG P w (upd H a o) h':=λb u e=>by
 have f:=x.fresh i;by_cases g:b=a
 ·subst g;rw[vF]at e;cases e;exact d
 ·rw[vB g]at e;exact(x b u e).CA (λc v _ q=>k c v q) (λc q=>by rw[vB<|vM q f];exact q) λc j q=>by rw[vB<|vM q f];exact q
def Rd(H:Hp)(a:hO)(u:HO):Prop:=H a=↑u\/∃o,H a=↑(.KW o u)
def Rd.of(h:H a=↑u):Rd H a u:=.inl h
def Rd.ok(r:Rd H a u)(x:yG P w H h):wJ P w H h a u:=by
 rcases r with r|⟨o,r⟩
 ·exact x a u r
 ·obtain⟨_,q⟩:=x a _ r;exact q
def Z7:Option HO->Prop
 |some (.lst _)=>True
 |some (.dK _)=>True
 |some (.dT _)=>True
 |some (.set _ _)=>True
 |some (.ins _ _ _)=>True
 |some (.ext _)=>True
 |_=>False
def yG.write(t:yG P w H h)(g:Z7 (H x))(o:e=x\/H e=↑(.own x))(k:∀b u,b≠e->h.get? b=↑u->h'.get? b=↑u)(m:∃u,h'.get? e=↑u)
 (n:wJ P w (upd H x p) h' x p):yG P w (upd H x p) h':=λb u q=>by
  have d:∀c y,H c=↑(.own y)->c≠x:=λc y r z=>by subst z;rw[r]at g;exact g
  have f:∀c i,H c=↑(.tup i)->c≠x:=λc i r z=>by subst z;rw[r]at g;exact g
  by_cases j:b=x
  · subst j; rw[vF]at q; cases q; exact n
  · rw[vB j]at q
    by_cases a:b=e
    · have s : H b = some (.own x) := by
        rcases o with z|z
        · exact iv (a.trans z) j
        · rw[a]; exact z
      rw[q]at s;cases s
      obtain⟨v,A⟩:=m
      exact#[v,by rw[a];exact A]
    · refine(t b u q).CA (λc v l r => k c v ?_ r) (λc r => by rw[vB<|d c b r]; exact r) λc i r => by rw[vB<|f c i r]; exact r
      rcases l with rfl|l
      · exact a
      · rintro rfl
        rcases o with z|z
        · exact d c b l z
        · rw[l]at z; cases z; exact j rfl
structure Un(fs ex:List hO)(H H':Hp)(h h':jd):Prop where
 keep:∀b o,h.get? b=↑o->H b=none->b∉fs->b∉ex->h'.get? b=↑o
 slot:∀b o,h.get? b=↑o->H b=none->b∈fs->b∉ex->∃sl,h'.get? b=some { o with slots:=sl}
 free:∀b o,h.get? b=↑o->H b=none->b∉ex->H' b=none
 there:∀b o,h.get? b=↑o->b∉ex->∃o',h'.get? b=↑o'
 CC:∀b xs,H b=↑(.tup xs)->H' b=↑(.tup xs)
 Ca:∀b o u,H b=↑(.KW o u)->H' b=↑(.KW o u)
 Cb:∀b ps,H b=↑(.Gd ps)->∃more,H' b=↑(.Gd<|ps++more)
def Un.any(u:Un fs e H H1 h f)(q:h.get? b=↑a)(n:H b=none)(c:b∉e):∃g,f.get? b=some { a with slots:=g}:=by
 by_cases d:b∈fs
 ·exact u.slot b a q n d c
 ·exact#[a.slots,u.keep b a q n d c]
def Un.trans(a:Un fs ex H H1 h h1)(b:Un fs ex H1 H2 h1 h2):Un fs ex H H2 h h2 where
 keep:=λc ob q n hc hx=>b.keep c ob (a.keep c ob q n hc hx) (a.free c ob q n hx) hc hx
 slot:=λc ob q n hc hx=>by obtain⟨sl,e1⟩:=a.slot c ob q n hc hx;obtain⟨sl',e2⟩:=b.slot c _ e1 (a.free c ob q n hx) hc hx;exact#[sl',e2]
 free:=λc ob q n hx=>by obtain⟨o',e1⟩:=a.there c ob q hx;exact b.free c o' e1 (a.free c ob q n hx) hx
 there:=λc ob q hx=>by obtain⟨o',e1⟩:=a.there c ob q hx;exact b.there c o' e1 hx
 CC:=λc xs q=>b.CC c xs<|a.CC c xs q
 Ca:=λc ob xs q=>b.Ca c ob xs<|a.Ca c ob xs q
 Cb:=λc ps q=>by obtain⟨m1,e1⟩:=a.Cb c ps q;obtain⟨m2,e2⟩:=b.Cb c _ e1;exact#[m1++m2,by rw[e2,qt]]
def Un.kept(k:∀b u,h.get? b=↑u->c.get? b=↑u):Un fs d H H h c :=
 #[λb a q _ _ _=>k b a q,λb a q _ _ _=>#[a.slots,k b a q],λ_ _ _ n _=>n,λb a q _=>#[a,k b a q],λ_ _ q=>q,λ_ _ _ q=>q,λ_ e q=>#[#v[],by rw[q];simp]]
def Un.refl:Un fs a H H h h:=Un.kept λ_ _ q=>q
def Un.laid(k:∀b u,h.get? b=↑u->h'.get? b=↑u)(hp:h.objs.size<=a)(hn:H a=none):Un fs ex H (upd H a o) h h' where
 keep:=λb u q _ _ _=>k b u q
 slot:=λb u q _ _ _=>#[u.slots,k b u q]
 free:=λb u q n _=>by rw[vB<|iz<|iE (ie q) hp];exact n
 there:=λb u q _=>#[u,k b u q]
 CC:=λb xs q=>by rw[vB<|vM q hn];exact q
 Ca:=λb u xs q=>by rw[vB<|vM q hn];exact q
 Cb:=λb ps q=>#[#v[],by rw[vB<|vM q hn,q];simp]
def Un.write(c:Z7 (H x))(j:e=x\/H e=↑(.own x))(k:∀b u,b≠e->h.get? b=↑u->h'.get? b=↑u)(d:∃u,h'.get? e=↑u):Un fs p H (upd H x o) h h':=by
 have g:∀b,H b=none->b≠x:=λb n z=>by subst z;rw[n]at c;exact c
 have i:∀b,H b=none->b≠e:=λb n z=>by
  subst z;rcases j with r|r
  ·exact g b n r
  ·rw[n]at r;cases r
 have f:∀b u,H b=↑u->¬Z7 ↑u->b≠x:=λb u q l z=>by subst z;rw[q]at c;exact l c
 refine#[λb u q n _ _=>k b u (i b n) q,λb u q n _ _=>#[u.slots,k b u (i b n) q],λb u q n _=>by rw[vB (g b n)];exact n,λb u q _=>?_,
  λb m q=>by rw[vB (f b _ q λz=>z)];exact q,λb u m q=>by rw[vB (f b _ q λz=>z)];exact q,λb s q=>#[#v[],by rw[vB (f b _ q λz=>z),q];simp]]
 by_cases a:b=e
 ·subst a;exact d
 ·exact#[u,k b u a q]
noncomputable def trk(h:jd)(H:Hp):List hO:=(iG h.objs.size).filter λa=>(H a).isSome
noncomputable def Jw(h:jd)(H:Hp):jd:=kC h<|trk h H
def Oe(h:jd)(H:Hp):(Jw h H).objs.size=h.objs.size:=PySem.W.hideAll_size _ _
def EM{h:jd}(e:h.get? b=↑o)(n:H b=none):(Jw h H).get? b=↑o :=
 nN _ e λa=>by have q:(H b).isSome=true:=(List.mem_filter.mp a).2;rw[n]at q;simp at q
def Uk(e:(Jw h H).get? b=↑o):h.get? b=↑o/\H b=none:=by
 have a:h.get? b=↑o:=lH (trk h H) e;refine#[a,?_]
 cases q:H b with
 |none=>rfl
 |some x =>
  have c:b∈trk h H:=List.mem_filter.mpr #[List.mem_range.mpr<|ie a,by simp[q]];have z:(Jw h H).get? b=none:=sL (trk h H) c;rw[z]at e;cases e
noncomputable def Ul(g h:jd)(L:hO):List (hO×Obj):=(iG h.objs.size).filterMap λa=>if a=L\/(g.get? a).isSome=true then none else (h.get? a).map λo=>(a,o)
noncomputable def rest(g h:jd)(L d:hO):List (hO×Obj):=(Ul g h L).filter λp=>decide<|p.1≠d
structure Mod(K:hJ)(mg:Str->Option hR)(base:jd):Prop where
 Cc:K.In base
 glob:base.Ns iA mg
 blt:∃mb,base.Ns oV mb/\∀x:Str,x≠"__name__"->mb x=nC x
 nolimit:base.NoLimit
structure Cx where
 prog:iT
 w:ji
 K:hJ
 mg:Str->Option hR
 base:jd
 A:jL
 N:List Str
 s₀:h9
 H₀:Hp
 env:Env
 outer:List Env
 stack:List Env
 ex:List hO
 fn:Str->Bool
 calm:Bool
 pn:List (hO×Obj)
 xe:hR->h9->Prop
noncomputable def zM(l:List Env):List hO:=l.filterMap (·.frame)
noncomputable abbrev Cx.fs(X:Cx):List hO:=zM X.outer
def Vis(a:mi)(x:Str):Prop:=a.names.lookup x=some .local\/a.names.lookup x=some .cell\/a.names.lookup x=some .free
def Loc(a:mi)(x:Str):Prop:=a.names.lookup x=some .local\/a.names.lookup x=some .cell
def Look(a:Env)(h:jd)(m:Str->Option hR)(x:Str)(u:hR):Prop :=
 (a.kindOf x=some .local/\m x=↑u)\/((a.kindOf x=some .cell\/a.kindOf x=some .free)/\∃c,a.cells.lookup x=↑c/\h.IsCell c ↑u)
structure Cx.Ok(X:Cx):Prop where
 mod:Mod X.K X.mg X.base
 kind:X.env.scope.kind=.function
 glob:X.env.globals=iA
 blt:X.env.builtins=oV
 above:X.s₀.heap.objs.size<=X.env.locals
 inj:∀x y c,X.env.cells.lookup x=↑c->X.env.cells.lookup y=↑c->x=y
 has:∀x,(X.env.kindOf x=some .cell\/X.env.kindOf x=some .free)->∃c,X.env.cells.lookup x=↑c
 PQ:∀x c,X.fn x=true->X.env.cells.lookup x=↑c->X.s₀.heap.objs.size<=c
 hd:X.calm=true->X.A.handled=none
 frames:X.A.frames=↑X.stack
 Ge:X.stack=X.outer\/(X.stack=X.env::X.outer/\X.env.frame=↑X.env.locals)
 Um:∀b∈X.ex,b≠X.env.locals/\∀x c,X.env.cells.lookup x=↑c->c≠b
 bs:∀b o,X.base.get? b=↑o->X.s₀.heap.get? b=↑o/\X.H₀ b=none
 Jx:X.base.objs.size<=X.s₀.heap.objs.size
 Eh:∀b o,X.base.get? b=↑o->b∉X.ex
 EN:∀b∈X.ex,b∉X.fs
 zd:X.s₀.heap.FunFrames X.base X.outer
 KO:∀b∈X.fs,X.H₀ b=none
structure Inv(X:Cx)(pins:List (hO×Obj))(σ:List (Option V))(H:Hp)(s:h9):Prop where
 ok:X.Ok
 os:s.os=X.s₀.os
 bare:n8 s.gens
 base:Un X.fs X.ex X.H₀ H X.s₀.heap s.heap
 loc:∃m,s.heap.Ns X.env.locals m/\∀(i:Nat)(x:Str)(v:V),X.N[i]?=↑x->σ[i]?=↑(some v)->Vis X.env.scope x->∃u,RelV v u/\Look X.env s.heap m x u
 cell:∀x c,X.env.cells.lookup x=↑c->∃v,s.heap.IsCell c v
 free:H X.env.locals=none
 za:∀x c,X.env.cells.lookup x=↑c->H c=none
 pin:∀p∈X.pn++pins,s.heap.get? p.1=↑p.2/\H p.1=none/\p.1≠X.env.locals/\p.1∉X.fs/\∀v,p.2.data≠.cell v
 wy:yG X.prog X.w H s.heap
 len:σ.length=X.N.length
section
variable{X:Cx}{pins:List (hO×Obj)}{σ:List (Option V)}{H H':Hp}{s:h9}
def Cx.Ok.a2n(a:X.Ok)(e:X.base.get? b=↑o):b∉X.fs:=λc=>by have:=(a.zd.mem c).1;rw[e]at this;cases this
def Inv.bs(I:Inv X pins σ H s):∀b o,X.base.get? b=↑o->s.heap.get? b=↑o/\H b=none:=λb o e =>
 #[I.base.keep b o (I.ok.bs b o e).1 (I.ok.bs b o e).2 (I.ok.a2n e)<|I.ok.Eh b o e,I.base.free b o (I.ok.bs b o e).1 (I.ok.bs b o e).2<|I.ok.Eh b o e]
def Inv.bk(I:Inv X pins σ H s):∀b o,X.base.get? b=↑o->s.heap.get? b=↑o:=λb o e=>(I.bs b o e).1
def Inv.mod(I:Inv X pins σ H s):Mod X.K X.mg X.base:=I.ok.mod
def Inv.zp(I:Inv X pins σ H s):X.K.In s.heap:=I.ok.mod.Cc.keeps I.bk
def Inv.nolimit(I:Inv X pins σ H s):s.heap.NoLimit:=I.ok.mod.nolimit.keeps I.bk
def Inv.lt(I:Inv X pins σ H s):X.env.locals<⇑s:=e1a2 I.loc λ_ a _=> a.lt
def Inv.sz(I:Inv X pins σ H s):X.s₀.heap.objs.size<=⇑s:=i9 I.ok.above<|my I.lt
def Inv.a2o(I:Inv X pins σ H s)(h:⇑s<=a):a∉X.fs:=λb=>by obtain⟨_,o,c,_⟩:=I.ok.zd.mem b;exact iv (iE (ie c)<|i9 I.sz h)<|kh _
def Inv.cne(I:Inv X pins σ H s):∀x c,X.env.cells.lookup x=↑c->c≠X.env.locals:=λx c e z=>by refine e2a2 (I.cell x c e) λv o d f=>?_;obtain⟨m,⟨g,h,i,a,b,_⟩,_⟩:=I.loc;rw[z,a]at d;cases d;rw[b]at f;cases f
def Inv.zd(I:Inv X pins σ H s):s.heap.FunFrames X.base X.outer:=by
 have a:∀(l:List Env),(∀b∈zM l,b∈X.fs)->X.s₀.heap.FunFrames X.base l->s.heap.FunFrames X.base l:=by
  intro l
  induction l with
  |nil=>intro _ _;trivial
  |cons h r i =>
   intro g j;obtain⟨k,⟨L,o,c,m,n,p⟩,q⟩:=j;have d:L∈X.fs:=g L (by unfold zM;rw[lu,c];exact ic);obtain⟨t,e⟩:=I.base.slot L o n (I.ok.KO L d) d λz=>I.ok.EN L z d;exact#[k,#[L,_,c,m,e,p],i (λb f=>g b<|by unfold zM;rw[lu,c];exact ij _ f) q]
 exact a X.outer (λ_ f=>f) I.ok.zd
def Inv.stack(I:Inv X pins σ H s):s.heap.FunFrames X.base X.stack:=by
 rcases I.ok.Ge with e|⟨e,a⟩
 ·rw[e];exact I.zd
 ·rw[e];refine e1a2 I.loc λm b _=>?_;refine .cons (by rw[I.ok.kind];decide) a b ?_ I.zd;exact nO<|i9 I.ok.Jx I.ok.above
def Inv.EQ(I:Inv X pins σ H s):∀b∈zM X.stack,b∈X.env.locals::X.fs:=λb a=>by
 rcases I.ok.Ge with e|⟨e,c⟩
 ·rw[e]at a;exact ij _ a
 ·rw[e]at a;unfold zM at a;rw[lu,c]at a;exact a
def Inv.MX(I:Inv X pins σ H s):∀b∈zM X.stack,H b=none:=λb a=>by
 rcases List.mem_cons.mp (I.EQ b a) with e|a
 ·rw[e];exact I.free
 ·obtain⟨_,o,c,_⟩:=I.ok.zd.mem a;exact I.base.free b o c (I.ok.KO b a) λz=>I.ok.EN b z a
def Inv.step{g':Array pM}{t':Nat}{ch:List hO}(I:Inv X pins σ H s)
 (g:∀b∈ch,(b∈X.ex\/X.s₀.heap.objs.size<=b)/\b≠X.env.locals/\153/\∀p∈X.pn++pins,p.1≠b)
 (h:∀b o,b≠X.env.locals->b∉X.fs->b∉ch->s.heap.get? b=↑o->H b=none->h'.get? b=↑o)
 (B:∀b o,b≠X.env.locals->b∈X.fs->b∉ch->s.heap.get? b=↑o->H b=none->∃R,h'.get? b=some { o with slots:=R}) (f:∀b o,b∉ch->s.heap.get? b=↑o->H b=none->H' b=none)
 (D:∀b o,b∉ch->s.heap.get? b=↑o->∃G,h'.get? b=↑G)
 (J:∀b C,H b=↑(.tup C)->H' b=↑(.tup C)) (L:∀b o u,H b=↑(.KW o u)->H' b=↑(.KW o u)) (M:∀b Q,H b=↑(.Gd Q)->∃N,H' b=↑(.Gd<|Q++N))
 (ns:∀m,s.heap.Ns X.env.locals m->h'.Ns X.env.locals m) (S:yG X.prog X.w H' h') (hg:n8 g') :
    Inv X pins σ H' { s with heap:=h',gens:=g',drawn:=d',toks:=t'}:=by
  have O:∀b o,X.s₀.heap.get? b=↑o->b≠X.env.locals:=λb o e=>iz<|iE (ie e) I.ok.above
  have y:∀b o,X.s₀.heap.get? b=↑o->b∉X.ex->b∉ch:=λb o e a E=>by
    rcases(g b E).1 with z|z
    · exact a z
    · exact iv (iE (ie e) z)<|kh _
  have j:∀x c,X.env.cells.lookup x=↑c->∀v,s.heap.IsCell c v->h'.IsCell c v:=λx c e v z9=>e1a2 z9 λo F T=>by
    have t:c∉ch:=λz=>(g c z).2.2.1 x c e rfl
    by_cases W:c∈X.fs
    · obtain⟨R, q⟩ := B c o (I.cne x c e) W t F (I.za x c e)
      exact#[_,q,T]
    · exact#[o, h c o (I.cne x c e) W t F<|I.za x c e, T]
  refine#[I.ok,I.os,hg,#[λb o e n E a=>?_,λb o e n E a=>?_,λb o e n a=>?_,λb o e a=>?_,λb C e=>J b C<|I.base.CC b C e,λb o C e=>L b o C<|I.base.Ca b o C e,λb Q e=>?_],?_,λx c e=>?_,?_,λx c e=>?_,λp Y=>?_,S,I.len]
  · exact h b o (O b o e) E (y b o e a) (I.base.keep b o e n E a)<|I.base.free b o e n a
  · obtain⟨R, A⟩ := I.base.slot b o e n E a
    obtain⟨U,P⟩:=B b _ (O b o e) E (y b o e a) A<|I.base.free b o e n a
    exact#[U,P]
  · obtain⟨G, A⟩ := I.base.there b o e a
    exact f b G (y b o e a) A<|I.base.free b o e n a
  · obtain⟨G, A⟩ := I.base.there b o e a
    exact D b G (y b o e a) A
  · obtain⟨m1, A⟩ := I.base.Cb b Q e
    obtain⟨m2,P⟩:=M b _ A
    exact#[m1++m2,by rw[P,qt]]
  · refine e1a2 I.loc λm hn hl => ?_
    refine#[m,ns m hn,λi x v A P e3=>?_]
    refine e1a2 (hl i x v A P e3) λu r l=>?_
    refine#[u,r,?_]
    rcases l with l|⟨k,c,e,z⟩
    · exact .inl l
    · exact .inr #[k, c, e, j x c e _ z]
  · obtain⟨v, z⟩ := I.cell x c e
    exact#[v,j x c e v z]
  · obtain⟨m, ⟨o, _, _, F, _⟩, _⟩ := I.loc
    exact f _ o (λz=>(g _ z).2.1 rfl) F I.free
  · refine e2a2 (I.cell x c e) λv o F T => ?_
    exact f c o (λz=>(g c z).2.2.1 x c e rfl) F<|I.za x c e
  · obtain⟨e, n, Z, nf, d⟩ := I.pin p Y
    have t:p.1∉ch:=λz=>(g p.1 z).2.2.2 p Y rfl
    exact#[h p.1 p.2 Z nf t e n,f p.1 p.2 t e n,Z,nf,d]
def Inv.un{t':Nat}(I:Inv X pins σ H s)(u:Un X.fs [] H H' s.heap h')(c:yG X.prog X.w H' h'):Inv X pins σ H' { s with heap:=h',toks:=t'}:=by
 obtain⟨m,⟨o,l,p,h,r⟩,_⟩:=id I.loc;obtain⟨q,i⟩:=u.any h I.free q0o
 exact I.step (g':=s.gens) (d':=s.drawn) (ch:=[]) (λ_ z=>nomatch z) (λb o _ d _ e n=>u.keep b o e n d q0o) (λb o _ d _ e n=>u.slot b o e n d q0o) (λb o _ e n=>u.free b o e n q0o) (λb o _ e=>u.there b o e q0o) u.CC u.Ca u.Cb (λt j=>by
  refine e3a2 j λv f g a k=>?_;rw[h]at a;cases a
  exact#[_,f,g,i,k]) c I.bare
def Inv.call{g':Array pM}{t':Nat}{ch:List hO}(I:Inv X pins σ H s)(u:Un (zM X.stack) ch H H' s.heap h')(g:yG X.prog X.w H' h')(l:n8 g')
 (d:∀b∈ch,(b∈X.ex\/X.s₀.heap.objs.size<=b)/\b≠X.env.locals/\153/\∀p∈X.pn++pins,p.1≠b) :
    Inv X pins σ H' { s with heap:=h',gens:=g',drawn:=d',toks:=t'}:=by
  obtain⟨m,⟨o,y,A,k,r⟩,_⟩:=id I.loc
  obtain⟨B,h⟩:=u.any k I.free λz=>(d _ z).2.1 rfl
  exact I.step (ch:=ch) d (λb o h q a e n=>u.keep b o e n (λz=>(List.mem_cons.mp (I.EQ b z)).elim h q) a) (λb o _ _ a e n=>u.any e n a) (λb o a e n=>u.free b o e n a) (λb o a e=>u.there b o e a) u.CC u.Ca u.Cb (λC t=>by
    refine e3a2 t λD i j f v=>?_
    rw[k]at f;cases f
    exact#[_,i,j,h,v]) g l
def Inv.turned{t':Nat}(I:Inv X pins σ H s)(k:∀b o,b≠a->s.heap.get? b=↑o->h.get? b=↑o)(i:H a=none)(g:a≠X.env.locals)
 (j:a∈X.ex\/X.s₀.heap.objs.size<=a)(l:∀x c,X.env.cells.lookup x=↑c->c≠a)(t:∀p∈X.pn++pins,p.1≠a):Inv X pins σ H { s with heap:=h,toks:=t'}:=by
  have f:∀b u,H b=↑u->b≠a:=λb u e z=>by rw[z,i]at e;cases e
  refine I.step (g':=s.gens) (d':=s.drawn) (ch:=[a]) (λb w=>?_) (λb o _ _ d e _=>k b o (λz=>d<|by simp[z]) e) (λb o _ _ d e _=>#[o.slots,k b o (λz=>d<|by simp[z]) e]) (λ_ _ _ _ n=>n)
    (λb o d e=>#[o,k b o (λz=>d<|by simp[z]) e]) (λ_ _ e=>e) (λ_ _ _ e=>e) (λb D e=>#[#v[],by rw[e];simp]) (λm y=>?_) (λb u e=>?_) I.bare
  · have e : b = a := by simpa using w
    subst e
    exact#[j,g,l,t]
  · refine e3a2 y λo A B C r => ?_
    exact#[o,A,B,k _ o (Ne.symm g) C,r]
  · refine(I.wy b u e).CA (λc v d q => k c v ?_ q) (λ_ q => q) λ_ _ q => q
    rcases d with z|z
    · rw[z]; exact f b u e
    · exact f c _ z
def Inv.tok(I:Inv X pins σ H s)(t:Nat):Inv X pins σ H { s with toks:=t}:=I.un (h':=s.heap) (t':=t) Un.refl I.wy
def Inv.kept{t':Nat}(I:Inv X pins σ H s)(k:∀b u,s.heap.get? b=↑u->a.get? b=↑u):Inv X pins σ H { s with heap:=a,toks:=t'}:=I.un (Un.kept k)<|I.wy.kept k
def Inv.laid{t':Nat}(I:Inv X pins σ H s)(k:∀b u,s.heap.get? b=↑u->h'.get? b=↑u)(c:⇑s<=a)(d:wJ X.prog X.w (upd H a o) h' a o) :
  Inv X pins σ (upd H a o) { s with heap:=h',toks:=t'}:=I.un (Un.laid k c<|I.wy.fresh c)<|I.wy.laid k c d
def Inv.write{t':Nat}(I:Inv X pins σ H s)(d:Z7 (H x))(f:e=x\/H e=↑(.own x))(k:∀b u,b≠e->s.heap.get? b=↑u->h'.get? b=↑u)(a:∃u,h'.get? e=↑u)
 (c:wJ X.prog X.w (upd H x o) h' x o):Inv X pins σ (upd H x o) { s with heap:=h',toks:=t'}:=I.un (Un.write d f k a)<|I.wy.write d f k a c
def Inv.Al(I:Inv X pins σ H s)(h:∀p∈pins',s.heap.get? p.1=↑p.2/\H p.1=none/\p.1≠X.env.locals/\p.1∉X.fs/\∀v,p.2.data≠.cell v):Inv X pins' σ H s :=
 #[I.ok,I.os,I.bare,I.base,I.loc,I.cell,I.free,I.za,λp a=>(List.mem_append.mp a).elim (λz=>I.pin p<|jg _ z)<|h p,I.wy,I.len]
def Jy{N:List Str}(c:N.Nodup){i j:Nat}(a:N[i]?=↑x)(b:N[j]?=↑x):i=j:=by obtain⟨f,d⟩:=List.getElem?_eq_some_iff.mp a;obtain⟨g,e⟩:=List.getElem?_eq_some_iff.mp b;exact(List.getElem_inj c).mp<|d.trans e.symm
def GH{E:hR->h9->Prop}{i:Nat}{Q:Unit->h9->Prop}(I:Inv X pins σ H s)(hN:X.N.Nodup)(S:X.N[i]?=↑x)(B:Loc X.env.scope x)(r:RelV v u)
 (h:∀s',Inv X pins (σ.set i<|↑v) H s'->(∃a,jq a s.heap s'.heap/\(a=X.env.locals\/X.env.cells.lookup x=↑a))->Q () s')(hf:X.fn x=true\/X.env.scope.names.lookup x=some .local:=by first|exact .inl rfl|exact .inr rfl|assumption):ii M A (storeName X.env x u) Q E s:=by
  refine e1a2 (id I.loc) λm hn hl=>?_
  have T:(X.env.scope.kind==.class||(X.env.scope.kind==.module&&X.env.locals != X.env.globals))=false:=by rw[I.ok.kind];rfl
  have F:i<σ.length:=by rw[I.len];exact(List.getElem?_eq_some_iff.mp S).1
  have J:=I.cne
  have g:∀{a:hO} {R:jd},(∃o,s.heap.get? a=↑o/\H a=none)->jq a s.heap R->yG X.prog X.w H R:=λ{a R} ha f b ob e=>by
    refine e1a2 ha λ_ _ C=>?_
    refine(I.wy b ob e).CA (λc w' t q=>(f.2 c ?_).trans q) (λ_ q=>q) λ_ _ q=>q
    rintro rfl
    rcases t with rfl|t
    · rw[C]at e; cases e
    · rw[C]at t; cases t
  rcases B with G|G
  · refine wpAny_storeName_local G hn (λR aa f => ?_) T
    refine e3a2 (id hn) λoL _ _ ab _=>?_
    refine h _ #[I.ok,I.os,I.bare,#[λb o e n L B=>?_,λb o e n L B=>?_,I.base.free,λb o e B=>?_,I.base.CC,I.base.Ca,I.base.Cb],#[_,aa,λj y v' l D e3=>?_],λy c e=>?_,I.free,I.za,λp hp=>?_,g #[oL,ab,I.free] f,by simpa using I.len] #[_,f,.inl rfl]
    · exact(f.2 b<|iz<|iE (ie e) I.ok.above).trans<|I.base.keep b o e n L B
    · obtain⟨sl, l⟩ := I.base.slot b o e n L B
      exact#[sl,(f.2 b<|iz<|iE (ie e) I.ok.above).trans l]
    · obtain⟨o', l⟩ := I.base.there b o e B
      exact#[o',(f.2 b<|iz<|iE (ie e) I.ok.above).trans l]
    · by_cases O : j = i
      · subst O
        rw[S]at l;cases l
        rw[mZ F]at D
        cases D
        exact#[u,r,.inl #[G,q0o]]
      · rw[nP<|Ne.symm O]at D
        refine e1a2 (hl j y v' l D e3) λu' r' q=>?_
        refine#[u',r',?_]
        rcases q with⟨k,e⟩|⟨k,c,e,z⟩
        · refine .inl #[k, ?_]
          have:y≠x:=λe=>O<|Jy hN l<|e▸S
          simp[this,e]
        · exact .inr #[k, c, e, z.sameBut f<|J y c e]
    · obtain⟨w', z⟩ := I.cell y c e
      exact#[w',z.sameBut f<|J y c e]
    · obtain⟨e, n, ne, nf, d⟩ := I.pin p hp
      exact#[(f.2 p.1 ne).trans e,n,ne,nf,d]
  · have P : X.fn x = true := by
      rcases hf with z|z
      · exact z
      · rw[z]at G; cases G
    obtain⟨c,t⟩:=I.ok.has x<|.inl G
    obtain⟨w',z⟩:=I.cell x c t
    refine wpAny_storeName_cell I.ok.kind G t z<|λR U f=>?_
    refine e1a2 (id z) λoc W Y=>?_
    refine h { s with heap:=R} #[I.ok,I.os,I.bare,#[λb o e n L B=>?_,λb o e n L B=>?_,I.base.free,λb o e B=>?_,I.base.CC,I.base.Ca,I.base.Cb],#[m,hn.sameBut f<|Ne.symm<|J x c t,λj y v' l D e3=>?_],λy c' e=>?_,I.free,I.za,λp hp=>?_,g #[oc,W,I.za x c t] f,by simpa using I.len] #[c,f,.inr t]
    · exact(f.2 b<|iz<|iE (ie e)<|I.ok.PQ x c P t).trans<|I.base.keep b o e n L B
    · obtain⟨sl, l⟩ := I.base.slot b o e n L B
      exact#[sl,(f.2 b<|iz<|iE (ie e)<|I.ok.PQ x c P t).trans l]
    · obtain⟨o', l⟩ := I.base.there b o e B
      exact#[o',(f.2 b<|iz<|iE (ie e)<|I.ok.PQ x c P t).trans l]
    · by_cases O : j = i
      · subst O
        rw[S]at l;cases l
        rw[mZ F]at D
        cases D
        exact#[u,r,.inr #[.inl G,c,t,U]]
      · rw[nP<|Ne.symm O]at D
        refine e1a2 (hl j y v' l D e3) λu' r' q=>?_
        refine#[u',r',?_]
        rcases q with q|⟨k,c',e,z'⟩
        · exact .inl q
        · refine .inr #[k, c', e, z'.sameBut f ?_]
          rintro rfl
          exact O<|Jy hN l<|I.ok.inj _ _ _ e t▸S
    · by_cases Z : c' = c
      · subst Z; exact#[_, U]
      · obtain⟨w2, z2⟩ := I.cell y c' e
        exact#[w2,z2.sameBut f Z]
    · obtain⟨e, n, ne, nf, d⟩ := I.pin p hp
      refine#[(f.2 p.1 ?_).trans e,n,ne,nf,d]
      intro q
      rw[q,W]at e
      have q':oc=p.2:=jp e
      exact d w' (by rw[<- q'];exact Y)
def Jz{i:Nat}(I:Inv X pins σ H s)(b:X.N.Nodup)(c:X.N[i]?=↑x)(d:Loc X.env.scope x)(r:RelV v u)
 (h:∀a,Inv X pins (σ.set i<|↑v) H a->Q () a)(e:X.fn x=true\/X.env.scope.names.lookup x=some .local:=by first|exact .inl rfl|exact .inr rfl|assumption):ii M A (storeName X.env x u) Q E s :=
  GH I b c d r (λa f _=>h a f) e
def Inv.WP{a:h9}(I:Inv X pins σ H s)(g:a.os=s.os)(u:Un (zM X.stack) ch H H' s.heap a.heap)(d:yG X.prog X.w H' a.heap)(h:n8 a.gens)
 (f:∀b∈ch,(b∈X.ex\/X.s₀.heap.objs.size<=b)/\b≠X.env.locals/\153/\∀p∈X.pn++pins,p.1≠b):Inv X pins σ H' a:=by
  obtain⟨m,i,j,k,l⟩:=a
  have e:l=s.os:=g
  subst e
  exact I.call (g':=i) (t':=k) (d':=j) u d h f
end
abbrev XK:=hR->Option hO->Hp->Prop
abbrev St:=List<|Option V
abbrev VK:=V->Hp->Prop
abbrev TE:=St->Hp->VK->Prop
abbrev TT:=St->Hp->(Bool->Hp->Prop)->Prop
abbrev TA:=St->Hp->(List V->Hp->Prop)->Prop
structure Ends where
 nx:St->Hp->Prop
 rt:VK
 bk:St->Hp->Prop:=λ_ _=>False
 ct:St->Hp->Prop:=λ_ _=>False
abbrev TS:=Ends->St->Hp->Prop
def EP(X:Cx)(a:List (hO×Obj))(c:St)(Q:VK)(u:hR)(d:h9):Prop:=∃v b,Inv X a c b d/\RelV v u/\Q v b
def TP(X:Cx)(a:List (hO×Obj))(d:St)(Q:Bool->Hp->Prop)(b:Bool)(e:h9):Prop:=∃c,Inv X a d c e/\Q b c
def AP(X:Cx)(a:List (hO×Obj))(d:St)(Q:List V->Hp->Prop)(e:List hR)(f:h9):Prop:=∃b c,Inv X a d c f/\Vals b e/\Q b c
def SP(X:Cx)(b:List (hO×Obj))(D:Ends)(f:Flow)(d:h9):Prop :=
 match f with
 | .next=>∃a c,Inv X b a c d/\D.nx a c
 | .brk=>∃a c,Inv X b a c d/\D.bk a c
 | .cont=>∃a c,Inv X b a c d/\D.ct a c
 | .ret u=>∃v a c,Inv X b a c d/\RelV v u/\D.rt v c
def PE(X:Cx)(e:i8)(t:TE):Prop :=
 ∀(a:List (hO×Obj)) (s:h9) (b:St) (H:Hp) (Q:VK),Inv X a b H s->t b H Q->ii 54 X.A (eval e X.env) (EP X a b Q) X.xe s
def PT(X:Cx)(e:i8)(t:TT):Prop :=
 ∀(a:List (hO×Obj)) (s:h9) (b:St) (H:Hp) (Q:Bool->Hp->Prop),Inv X a b H s->t b H Q->ii 54 X.A (rj e X.env<|eval e X.env) (TP X a b Q) X.xe s
def PW(X:Cx)(e:i8)(t:TT):Prop :=
 ∀(b:Sem hR) (a:List (hO×Obj)) (s:h9) (c:St) (H:Hp) (Q:Bool->Hp->Prop),Inv X a c H s->t c H Q->ii 54 X.A (rj e X.env b) (TP X a c Q) X.xe s
def PW.pt(h:PW X e t):PT X e t:=h _
def PA(X:Cx)(d:List i8)(t:TA):Prop :=
 ∀(b:Pos) (a:List (hO×Obj)) (s:h9) (c:St) (H:Hp) (Q:List V->Hp->Prop),Inv X a c H s->t c H Q->ii 54 X.A (uP<|jz b<|hV d X.env) (AP X a c Q) X.xe s
def PS(X:Cx)(c:iK)(t:TS):Prop :=
 ∀(a:List (hO×Obj)) (s:h9) (b:St) (H:Hp) (D:Ends),Inv X a b H s->t D b H->ii 54 X.A (exec c X.env) (SP X a D) X.xe s
def ES(X:Cx)(c:List iK)(t:TS):Prop :=
 ∀(a:List (hO×Obj)) (s:h9) (b:St) (H:Hp) (D:Ends),Inv X a b H s->t D b H->ii 54 X.A (execs c X.env) (SP X a D) X.xe s
def ww{b:Type}{t:Sem b}{Q c:b->h9->Prop}{M:Model}{A:jL}{E:hR->h9->Prop}{s:h9}(h:ii M A t Q E s)(d:∀a s,Q a s->c a s):ii M A t c E s:=jb h d λ_ _ x=>x
section
variable{X:Cx}
def v9(i:Nat):TE:=λa H Q=>∃v,a[i]?=↑(some v)/\Q v H
def tC(v:V):TE:=λ_ H Q=>Q v H
def KY{i:Nat}(n:X.N[i]?=↑x)(o:Vis X.env.scope x)(g:(x==66)=false:=by decide)(j:(x==("__classdict__":Str))=false:=by decide):PE X 94 (v9 i):=by
 intro f s p H Q I h;refine e1a2 h λv e h=>?_;refine e1a2 I.loc λm q t=>?_;refine e1a2 (t i x v n e o) λu r l=>?_;have b:EP X f p Q u s:=#[v,H,I,r,h];rcases l with⟨d,w⟩|⟨d,c,k,a⟩
 ·exact qb (lv I.ok.kind d q w b) g
 ·rcases d with d|d
  ·exact qb (wpAny_loadName_cell I.ok.kind d k a b) g
  ·exact qb (qQ I.ok.kind d k a b j) g
def v4{i j pos}:PE X (.Constant (.int i) j pos) (tC<|.int i):=λ_ _ _ H _ I h=>wpAny_Constant_int #[.int i,H,I.tok _,#[_,rfl],h]
def Z8{b j pos}:PE X (.Constant (.bool b) j pos) (tC<|.bl b):=λ_ _ _ H _ I h=>Constant_bool #[.bl b,H,I,rfl,h]
def KZ{j pos}:PE X (.Constant .none j pos) (tC .xj):=λ_ _ _ H _ I h=>Constant_none #[.xj,H,I,rfl,h]
def Cd{x j pos}:PE X (.Constant (.str x) j pos) (tC<|.str x):=λ_ _ _ H _ I h=>Calls.Constant_str #[.str x,H,I.tok _,#[_,rfl],h]
def Gl(X:Cx)(x:Str):Prop:=X.env.kindOf x=some .globalImplicit
def ze(I:Inv X a e H s)(b:Gl X x)(c:X.mg x=↑u)(h:Q u s)
 (d:(x==66)=false:=by decide):ii 54 X.A (eval 94 X.env) Q E s :=
  rL I.ok.kind b (Calls.loadGlobal_global (by rw[I.ok.glob];exact I.mod.glob.keeps I.bk) c h) d
def Am(I:Inv X a j H s)(b:Gl X x)(c:X.mg x=none)(d:nC x=↑u)(h:Q u s)
 (e:x≠"__name__":=by decide)(f:(x==66)=false:=by decide):ii 54 X.A (eval 94 X.env) Q E s:=by
  refine e1a2 I.mod.blt λk g i=>?_
  exact rL I.ok.kind b (oG (by rw[I.ok.glob];exact I.mod.glob.keeps I.bk) c (by rw[I.ok.blt];exact g.keeps I.bk) ((i x e).trans d) h) f
def MY(a:Gl X x)(b:X.mg x=↑u)(r:RelV v u)(c:(x==66)=false:=by decide):PE X 94 (tC v) :=
 λ_ _ _ H _ I h=>ze I a b #[v,H,I,r,h] c
def BG(a:Gl X x)(b:X.mg x=none)(c:nC x=↑u)(r:RelV v u)(d:x≠"__name__":=by decide)(e:(x==66)=false:=by decide):PE X 94 (tC v) :=
 λ_ _ _ H _ I h=>Am I a b c #[v,H,I,r,h] d e
variable{a b:i8}{ta tb:TE}{pos:Pos}
def PC(X:Cx)(g:rc)(a b:i8)(t:TE):Prop :=
 ∀(c:List (hO×Obj)) (s:h9) (f:St) (H:Hp) (Q:VK),Inv X c f H s->t f H Q ->
  ii 54 X.A (eval a X.env) (λv d=>ii 54 X.A (eval b X.env) (λu e=>ii 54 X.A (jH g v u) (EP X c f Q) X.xe e) X.xe d) X.xe s
def JA(b:i8)(h:op≠.In)(c:op≠.NotIn):jm op b=false:=by
 have d:(op==CmpOp.In)=false:=by cases op<;>first|rfl|exact iv rfl h
 have e:(op==CmpOp.NotIn)=false:=by cases op<;>first|rfl|exact iv rfl c
 cases b<;>simp[jm,d,e]
def tB(t:TE):TT:=λd H Q=>t d H λx e=>∃c,x=.bl c/\Q c e
def P4(h:PC X op a b t)(d:jm op b=false:=by first|exact JA _ q0q q0q|rfl):PE X 117 t:=λc s e H Q I f=>tD (h c s e H Q I f) d
def K0{f:rc}{t:TE}(h:PC X f a b t)(g:jm f b=false:=by first|exact JA _ q0q q0q|rfl):PT X (.Compare a [f] [b] pos) (tB t):=by intro e s i H Q I j;refine vi (ww (h e s i H _ I j) λv r g=>ww g λu w k=>ww k λc y l=>e2a3 l λx m n o p=>?_) g;obtain⟨d,rfl,q⟩:=p;cases o;exact kN #[m,n,q]
def XX{e:i8}{t:TE}(h:PE X e t)(g:∀c,rj e X.env c=(do let v <- c;nE e.pos;lw [v] (uQ v)):=by intro _;rfl):PT X e (tB t):=by intro f s i H Q I j;refine isTrue_plain (ww (h f s i H _ I j) λv p k=>e2a3 k λx l m n o=>?_)<|g _;obtain⟨d,rfl,q⟩:=o;cases n;exact kN #[l,m,q]
variable{tA tB':TT}{rest:List i8}
def a2q(t u:TT):TT:=λd H Q=>t d H λc e=>if c=true then u d e Q else Q false e
def tOr(t u:TT):TT:=λd H Q=>t d H λc e=>if c=true then Q true e else u d e Q
def a2r(t:TT):TT:=λd H Q=>t d H λc e=>Q (!c) e
def Uo(f:PT X a tA):PW X (.BoolOp .And [a] pos) tA:=by
 intro i d s g H Q I h;refine isTrue_and<|ww (f d s g H Q I h) λc j e=>?_
 cases c with
 |true=>exact isTrue_and_nil e
 |false=>exact e
def P5(f:PT X a tA):PW X (.BoolOp .Or [a] pos) tA:=by
 intro i d s g H Q I h;refine isTrue_or<|ww (f d s g H Q I h) λc j e=>?_
 cases c with
 |false=>exact isTrue_or_nil e
 |true=>exact e
def XY(j:PT X a tA)(k:PW X (.BoolOp .And (b::rest) pos) tB'):PW X (.BoolOp .And (a::b::rest) pos) (a2q tA tB'):=by
 intro l d s e H Q I h;refine isTrue_and<|ww (j d s e H _ I h) λc m n=>e1a2 n λf g i=>?_
 cases c with
 |true=>exact k l d m e f Q g i
 |false=>exact#[f,g,i]
def WQ(j:PT X a tA)(k:PW X (.BoolOp .Or (b::rest) pos) tB'):PW X (.BoolOp .Or (a::b::rest) pos) (tOr tA tB'):=by
 intro l d s e H Q I h;refine isTrue_or<|ww (j d s e H _ I h) λc m n=>e1a2 n λf g i=>?_
 cases c with
 |true=>exact#[f,g,i]
 |false=>exact k l d m e f Q g i
def XZ(e:PT X a tA):PT X (.UnaryOp .Not a pos) (a2r tA):=by intro d s f H Q I h;exact isTrue_not<|e d s f H (λc g=>Q (!c) g) I h
def Z9(ta tb:TE):TE:=λd H Q=>ta d H λx e=>∃c,x=.bl c/\if c=true then tb d e Q else Q (.bl false) e
def a2s(ta tb:TE):TE:=λd H Q=>ta d H λx e=>∃c,x=.bl c/\if c=true then Q (.bl true) e else tb d e Q
def a0a(ta:TE):TE:=λd H Q=>ta d H λx e=>∃c,x=.bl c/\Q (.bl<|!c) e
def X0{op}(h:PE X a t):PE X (.BoolOp op [a] pos) t:=λc s d H Q I e=>BoolOp_one<|h c s d H Q I e
def X1(j:PE X a ta)(k:PE X (.BoolOp .And (b::rest) pos) tb):PE X (.BoolOp .And (a::b::rest) pos) (Z9 ta tb):=by
 intro d s f H Q I h;refine BoolOp_and<|ww (j d s f H _ I h) λv l m=>e2a3 m λx g i n e=>?_;obtain⟨c,rfl,e⟩:=e;cases n;refine kN ?_
 cases c with
 |true=>exact k d l f g Q i e
 |false=>exact#[.bl false,g,i,rfl,e]
def a0b(j:PE X a ta)(k:PE X (.BoolOp .Or (b::rest) pos) tb):PE X (.BoolOp .Or (a::b::rest) pos) (a2s ta tb):=by
 intro d s f H Q I h;refine BoolOp_or<|ww (j d s f H _ I h) λv l m=>e2a3 m λx g i n e=>?_;obtain⟨c,rfl,e⟩:=e;cases n;refine kN ?_
 cases c with
 |false=>exact k d l f g Q i e
 |true=>exact#[.bl true,g,i,rfl,e]
def X2(f:PE X a ta):PE X (.UnaryOp .Not a pos) (a0a ta):=by intro d s g H Q I h;refine UnaryOp_<|ww (f d s g H _ I h) λv m i=>e2a3 i λx j k l e=>?_;obtain⟨c,rfl,e⟩:=e;cases l;exact not_of<|kN #[.bl<|!c,j,k,rfl,e]
end
def wR(K:hJ)(H:Hp)(a:hO)(c:List V):Prop :=
 Rd H a (.lst c) \/
  ∃(o:Obj)(b:Array hR)(n:Nat),K.lookup a=↑o/\o.cls=.type "list"/\o.dict=none/\o.data=.seq b n/\b.size<=hZ/\Vals c b.toList
def zX(K:hJ)(H:Hp)(a:hO)(c:List V):Prop :=
 Rd H a (.tup c) \/
  ∃(o:Obj)(b:Array hR)(n:Nat),K.lookup a=↑o/\o.cls=.type "tuple"/\o.data=.seq b n/\b.size<=hZ/\Vals c b.toList
noncomputable def a2t:hR->Option V
 | .none=>some .xj
 | .bool b=>some<|.bl b
 | .int i _=>some<|.int i
 | .str x _=>some<|.str x
 | .bytes b _=>some<|.MW b
 | .float b _=>some<|.Ui b
 | .ref a=>some<|.ref a
 | .type n=>some<|.ty n
 |_=>none
def RelV.abs(r:RelV x u):a2t u=↑x:=by
 cases x with
 |xj=>cases r;rfl
 |bl _=>cases r;rfl
 |int _=>obtain⟨t,rfl⟩:=r;rfl
 |str _=>obtain⟨t,rfl⟩:=r;rfl
 |MW _=>obtain⟨t,rfl⟩:=r;rfl
 |Ui _=>obtain⟨t,rfl⟩:=r;rfl
 |ref _=>cases r;rfl
 |ty _=>cases r;rfl
def RelV.inj(r:RelV x u)(q:RelV y u):x=y:=jp<|r.abs.symm.trans q.abs
def Vals.inj:∀{d c:List V} {e:List hR},Vals d e->Vals c e->d=c:=by
 intro _ c _ z
 induction z generalizing c with
 |nil=>intro q;cases q;rfl
 |cons h t f=>intro q;cases q with|cons a b=>rw[h.inj a,f b]
def wR.of{K:hJ}(h:H a=↑(.lst b)):wR K H a b:=.inl<|.inl h
def zX.of{K:hJ}(h:H a=↑(.tup b)):zX K H a b:=.inl<|.inl h
def Inv.list(I:Inv X c j H s)(h:wR X.K H a d):∃b:List hR,Vals d b/\PlainL s.heap a b.toArray/\d.length<=hZ:=by
 rcases h with h|⟨o,b,n,f,g,hd,i,k,r⟩
 ·obtain⟨z,b,n,r,e⟩:=h.ok I.wy;exact#[b,r,#[_,n,e,rfl,rfl,rfl],z]
 ·refine#[b.toList,r,#[o,n,I.zp a o f,g,hd,by simpa using i],?_];have e:=r.length;simp only[ig]at e
  lia
def Inv.tuple(I:Inv X c j H s)(h:zX X.K H a d):∃b:List hR,Vals d b/\IsTup s.heap a b.toArray/\d.length<=hZ:=by
 rcases h with h|⟨o,b,n,f,g,i,k,r⟩
 ·obtain⟨z,b,r,p⟩:=h.ok I.wy;exact#[b,r,p,z]
 ·refine#[b.toList,r,#[o,I.zp a o f,g,n,by simpa using i],?_];have e:=r.length;simp only[ig]at e
  lia
def Inv.JB(I:Inv X f q H s)(h:wR X.K H a j)(k:wR X.K H a l):j=l:=by
 obtain⟨c,r,⟨o,n,e,_,_,d⟩,_⟩:=I.list h;obtain⟨b,m,⟨t,u,g,_,_,i⟩,_⟩:=I.list k;rw[e]at g;cases g;rw[d]at i;injection i with p _;have:c=b:=by simpa using congrArg sM p
 subst this;exact r.inj m
def Inv.Of(I:Inv X f q H s)(h:zX X.K H a j)(k:zX X.K H a l):j=l:=by
 obtain⟨c,r,⟨o,e,_,n,d⟩,_⟩:=I.tuple h;obtain⟨b,m,⟨t,g,_,u,i⟩,_⟩:=I.tuple k;rw[e]at g;cases g;rw[d]at i;injection i with p _;have:c=b:=by simpa using congrArg sM p
 subst this;exact r.inj m
noncomputable abbrev Cx.Gh(X:Cx)(E:hR->h9->Prop):Cx:={ X with xe:=E}
noncomputable abbrev Cx.nox(X:Cx):Cx:=X.Gh λ_ _=>False
def Cx.Ok.Gh{X:Cx}(a:X.Ok)(E:hR->h9->Prop):(X.Gh E).Ok :=
 #[a.mod,a.kind,a.glob,a.blt,a.above,a.inj,a.has,a.PQ,a.hd,a.frames,a.Ge,a.Um,a.bs,a.Jx,a.Eh,a.EN,a.zd,a.KO]
def Cx.Ok.AX{X:Cx}{E:hR->h9->Prop}(a:(X.Gh E).Ok):X.Ok :=
 #[a.mod,a.kind,a.glob,a.blt,a.above,a.inj,a.has,a.PQ,a.hd,a.frames,a.Ge,a.Um,a.bs,a.Jx,a.Eh,a.EN,a.zd,a.KO]
def Inv.Gh(I:Inv X a b H s)(E:hR->h9->Prop):Inv (X.Gh E) a b H s:=#[I.ok.Gh E,I.os,I.bare,I.base,I.loc,I.cell,I.free,I.za,I.pin,I.wy,I.len]
def Inv.AX(I:Inv (X.Gh E) a b H s):Inv X a b H s:=#[I.ok.AX,I.os,I.bare,I.base,I.loc,I.cell,I.free,I.za,I.pin,I.wy,I.len]
def SP.AX(h:SP (X.Gh E) c D f d):SP X c D f d:=by
 cases f with
 |next=>obtain⟨a,b,I,q⟩:=h;exact#[a,b,I.AX,q]
 |brk=>obtain⟨a,b,I,q⟩:=h;exact#[a,b,I.AX,q]
 |cont=>obtain⟨a,b,I,q⟩:=h;exact#[a,b,I.AX,q]
 |ret u=>obtain⟨v,a,b,I,r,q⟩:=h;exact#[v,a,b,I.AX,r,q]
def ES.nox{b:List iK}(h:ES X.nox b t):ES X b t:=λa s c H D I d =>
 jb (h a s c H D (I.Gh _) d) (λ_ _ q=>q.AX) λ_ _ z=>iV z
section
variable{X:Cx}{st:iK}{rest:List iK}{t u:TS}
def WR:TS:=λD a H=>D.nx a H
def K3(t u:TS):TS:=λD a H=>t { D with nx:=u D} a H
def An:ES X [] WR:=λ_ _ a H _ I h=>m4 #[a,H,I,h]
def wK(c:PS X st t)(d:ES X rest u):ES X (st::rest) (K3 t u):=by
 intro a s e H D I h;refine wpAny_execs_cons<|ww (c a s e H { D with nx:=u D} I h) λf g q=>?_
 cases f with
 |next =>
  refine e2a2 q λb i j q=>?_;exact d a g b i D j q
 |ret v=>exact q
 |brk=>exact q
 |cont=>exact q
def xS(b:PS X st t):ES X [st] t:=by
 intro a s c H D I h;refine wpAny_execs_cons<|ww (b a s c H D I h) λf d q=>?_
 cases f with
 |next=>exact m4 q
 |ret v=>exact q
 |brk=>exact q
 |cont=>exact q
def Inv.quiet(I:Inv X a b H s):interactive X.env=false:=by simp[interactive,I.ok.kind]
def GI(b:TE):TS:=λD a H=>b a H λ_ c=>D.nx a c
def CD(c:PE X e d)(f:kg e none pos.line X.env=pure false:=by rfl):PS X (.Expr e pos) (GI d):=by intro a s b H D I h;exact wpAny_Expr_any (ww (c a s b H _ I h) λv l g=>e2a3 g λx i j m k=>#[b,i,j,k]) I.quiet f
def Up(a:TE):TS:=λD b H=>a b H D.rt
def Ce(c:PE X e d):PS X (.Return ↑e pos) (Up d):=by intro a s b H D I h;exact wpAny_Return_some<|ww (c a s b H _ I h) λv l f=>e2a3 f λx g i j k=>#[x,b,g,i,j,k]
def a2u(c:TT)(t u:TS):TS:=λD a H=>c a H λb d=>if b=true then t D a d else u D a d
def MZ{c:i8}{a b:List iK}{g:TT}(m:PT X c g)(n:ES X a t)(o:ES X b u):PS X (.If c a b pos) (a2u g t u):=by
 intro e s f H D I h;refine wpAny_If<|ww (m e s f H _ I h) λd i p=>e1a2 p λj k l=>?_
 cases d with
 |true=>exact n e i f j D k l
 |false=>exact o e i f j D k l
def X3:TS:=λ_ _ _=>False
def Og:ES X a X3:=λ_ _ _ _ _ _ h=>h.elim
end
abbrev TG:=V->St->Hp->(St->Hp->Prop)->Prop
abbrev ZR:=List V->St->Hp->(St->Hp->Prop)->Prop
def PG(X:Cx)(a:i8)(t:TG):Prop :=
 ∀(b:List (hO×Obj)) (s:h9) (d:St) (H:Hp) (v:V) (u:hR) (Q:St->Hp->Prop),Inv X b d H s->RelV v u->t v d H Q ->
  ii 54 X.A (tE a X.env u) (λ_ f=>∃c e,Inv X b c e f/\Q c e) X.xe s
def PGs(X:Cx)(g:List i8)(t:ZR):Prop :=
 ∀(a:List (hO×Obj)) (s:h9) (c:St) (H:Hp) (d:List V) (e:List hR) (Q:St->Hp->Prop),Inv X a c H s->Vals d e->t d c H Q ->
  ii 54 X.A (assignInOrder ((qc g X.env).map (·.2)) e) (λ_ h=>∃b f,Inv X a b f h/\Q b f) X.xe s
abbrev P6:=V->V->V->Hp->(Hp->Prop)->Prop
def X4(X:Cx)(t:P6):Prop :=
 ∀(a:List (hO×Obj)) (s:h9) (b:St) (H:Hp) (o i v:V) (c d u:hR) (Q:Hp->Prop),Inv X a b H s->RelV o c->RelV i d->RelV v u->t o i v H Q ->
  ii 54 X.A (sV c d u) (λ_ f=>∃e,Inv X a b e f/\Q e) X.xe s
abbrev TIp:=V->V->Hp->VK->Prop
def PIp(X:Cx)(c:Operator)(t:TIp):Prop :=
 ∀(a:List (hO×Obj)) (s:h9) (b:St) (H:Hp) (x y:V) (v u:hR) (Q:VK),Inv X a b H s->RelV x v->RelV y u->t x y H Q ->
  ii 54 X.A (inplaceOp c v u) (EP X a b Q) X.xe s
def CF(i:Nat):TG:=λv a H Q=>Q (a.set i<|↑v) H
def vO{i:Nat}(b:X.N.Nodup)(c:X.N[i]?=↑x:=by rfl)(d:Loc X.env.scope x:=by exact jX rfl)(e:X.fn x=true\/X.env.scope.names.lookup x=some .local:=by first|exact .inl rfl|exact .inr rfl|assumption):PG X 94 (CF i):=by intro a s g H v u Q I r h;exact wpAny_assign_Name<|Jz I b c d r (λj f=>#[_,H,f,h]) e
def X5:ZR:=λa b H Q=>a=[]/\Q b H
def GJ(t:TG)(u:ZR):ZR:=λb c H Q=>∃v r,b=v::r/\t v c H λa d=>u r a d Q
def Ao:PGs X [] X5:=by intro a s b H c d Q I r h;obtain⟨e,h⟩:=h;subst e;cases r;exact assignInOrder_nil #[b,H,I,h]
def wU{e:i8}{b:List i8}{t:TG}{u:ZR}(d:PG X e t)(f:PGs X b u)
  (g:(qc (e::b) X.env).map (·.2)=tE e X.env::(qc b X.env).map (·.2):=by rfl):PGs X (e::b) (GJ t u):=by
 intro a s i H q w Q I r h;obtain⟨v,x,j,h⟩:=h;subst j
 cases r with
 |cons r k =>
  rw[g];refine assignInOrder_cons<|ww (d a s i H _ _ _ I r h) λ_ l m=>e2a2 m λc n o p=>?_;exact f a l c n _ _ Q o k p
def X6(K:hJ)(n:Nat)(t:ZR):TG:=λv c H Q=>∃a b,v=.ref a/\zX K H a b/\b.length=n/\t b c H Q
def Cf{k:Nat}{n:Nat}(l:X.calm=true)(h:PGs X d t)
 (m:(qc d X.env).length=n:=by rfl)(f:(qc d X.env).findIdx? (·.1)=none:=by rfl):PG X (.Tuple d k pos) (X6 X.K n t):=by
  intro c s i H v u Q I r g
  obtain⟨a,p,q,w,x,g⟩:=g
  subst q
  cases r
  obtain⟨y,j,z,D⟩:=I.tuple w
  refine assign_Tuple_tuple (I.ok.hd l) z (by simp[m,<- x,j.length]) f λA B=>?_
  have C:Inv X c i H { s with heap:=A}:=I.kept (t':=s.toks) λb o e=>B b o (iz<|ie e) e
  exact h c _ i H p _ Q C (by simpa using j) g
def a0c(b c:TE)(t:P6):TG:=λv a H Q=>b a H λo d=>c a d λi e=>t o i v e λf=>Q a f
def K4{o i:i8}{f g:TE}{t:P6}(j:PE X o f)(k:PE X i g)(l:X4 X t)
  (m:∀v,tE (.Subscript o i pos) X.env v=(do
   let b <- lw [v] (eval o X.env)
   let c <- lw [v,b] (eval i X.env)
   nE pos
   lw [v,b,c] (sV b c v)
   release [v,b,c] []):=by intro _;rfl):PG X (.Subscript o i pos) (a0c f g t):=by
 intro a s e H v u Q I r h;rw[m];refine am<|iX<|ww (j a s e H _ I h) λb n d=>e2a3 d λx p q w z=>?_;refine am<|iX<|ww (k a n e p _ q z) λc A d=>e2a3 d λy B C D E=>?_;refine am<|n9<|am<|iX<|ww (l a A e B x y v b c u _ C w D r E) λ_ L d=>e1a2 d λF G J=>?_;exact wpAny_release #[e,F,G,J]
def Oh(b:TE)(g:TG):TS:=λD a H=>b a H λx c=>g x a c D.nx
def ET{b e:i8}{c:TE}{g:TG}(f:PE X e c)(i:PG X b g)(j:swapsWithSole [b] e pos.line X.env=pure false:=by rfl)(hw:swappedStores [b] e X.env=pure none:=by rfl)
  (k:(qc [b] X.env).map (·.2)=[tE b X.env]:=by rfl):PS X (.Assign [b] e pos) (Oh c g):=by
 intro a s d H D I h;refine wpAny_Assign_stores (ww (f a s d H _ I h) λv l m=>e2a3 m λx n o p r=>?_) j hw;rw[k];exact ww (i a l d n x v _ o p r) λ_ t q=>q
def zN{i:Nat}{x:Str}{e:i8}{c:TE}{a:Pos}(d:X.N.Nodup)(f:X.N[i]?=↑x)(g:Loc X.env.scope x)(j:PE X e c)(k:kg e (some<|.Name x a) pos.line X.env=pure false:=by rfl)(l:X.fn x=true\/X.env.scope.names.lookup x=some .local:=by first|exact .inl rfl|exact .inr rfl|assumption) :
  PS X (.Assign [.Name x a] e pos) (Oh c<|CF i):=by
 intro b s m H D I h;refine wpAny_Assign_Name (ww (j b s m H _ I h) λv u n=>e2a3 n λy o p q r=>?_) k;exact Jz p d f g q (λw t=>#[_,o,t,r]) l
def a0d(e f g:TE)(a:V->V->Hp->VK->Prop)(d:TIp)(b:P6):TS:=λD c H=>e c H λo h=>f c h λi j=>a o i j λx k=>g c k λy l=>d x y l λz m=>b o i z m λn=>D.nx c n
def a0e(X:Cx)(t:V->V->Hp->VK->Prop):Prop :=
 ∀(a:List (hO×Obj)) (s:h9) (b:St) (H:Hp) (o i:V) (c d:hR) (Q:VK),Inv X a b H s->RelV o c->RelV i d->t o i H Q ->
  ii 54 X.A (oH c d) (EP X a b Q) X.xe s
def Uq{o i e:i8}{p q r:TE}{d:V->V->Hp->VK->Prop}{l:TIp}{f:P6}{t:Operator}{m:Pos}(z:PE X o p)(A:PE X i q)(B:a0e X d)(C:PE X e r)(E:PIp X t l)(F:X4 X f)
  (G:∀g j b,augStore i g j b=(do lw [b,g,j] (sV g j b);release [b,g,j] [];pure .next):=by intros;rfl):PS X (.AugAssign (.Subscript o i m) t e pos) (a0d p q r d l f):=by
 intro a s k H D I h;refine sN (ww (z a s k H _ I h) λg J c=>e2a3 c λu L M w N=>?_) G;refine ww (A a J k L _ M N) λj O c=>e2a3 c λx P Q y R=>?_;refine ww (B a O k P u x g j _ Q w y R) λn S c=>e2a3 c λT U W Y Z=>?_;refine ww (C a S k U _ W Z) λv s4 c=>e2a3 c λx4 H4 I4 r4 q4=>?_;refine ww (E a s4 k H4 T x4 n v _ I4 Y r4 q4) λb s5 c=>e2a3 c λx5 H5 I5 r5 q5=>?_;exact ww (F a s5 k H5 u x x5 g j b _ I5 w y r5 q5) λ_ s6 c=>e1a2 c λH6 I6 q6=>#[k,H6,I6,q6]
def ipI(f:Int->Int->Int):TIp:=λx y H Q=>∃i j,x=.int i/\y=.int j/\Q (.int<|f i j) H
def X7:PIp X .Add (ipI λi j=>i+j):=by intro a s f H x y v u Q I b c h;obtain⟨i,j,d,e,q⟩:=h;subst d;subst e;obtain⟨t,rfl⟩:=b;obtain⟨g,rfl⟩:=c;exact iadd_int #[.int _,H,I.tok _,#[_,rfl],q]
def a2x:PIp X .Sub (ipI λi j=>i-j):=by intro a s f H x y v u Q I b c h;obtain⟨i,j,d,e,q⟩:=h;subst d;subst e;obtain⟨t,rfl⟩:=b;obtain⟨g,rfl⟩:=c;exact isub_int #[.int _,H,I.tok _,#[_,rfl],q]
def X8(c:TT)(h:TS):TS:=λD a H=>∃W:Nat->St->Hp->Prop,(∃m,W m a H)/\∀m a H,W m a H ->
 c a H λb e=>if b=true then ∃N:St->Hp->Prop,(∀d f,N d f->∃g,g<m/\W g d f)/\h { D with nx:=N,ct:=N,bk:=D.nx} a e else D.nx a e
def P7{c:i8}{g:List iK}{u:TT}{x:TS}(y:sg 54 X.A X.env X.xe)(F:PT X c u)(G:ES X g x):PS X (.While c g [] pos) (X8 u x):=by
 intro a s J H D I h;obtain⟨W,⟨L,M⟩,i⟩:=h;refine wpAny_While<|codeAny_whileLoop (λn O=>∃j z,Inv X a j z O/\W n j z) ?_ L #[J,H,I,M];rintro n P ⟨e,H1,Q,R⟩;refine mj y<|ww (F a P e H1 _ Q<|i n e H1 R) λb S T=>e1a2 T λB C l=>?_
 cases b with
 |true =>
  refine e1a2 l λN E l=>?_;rw[hI rfl];refine mj y<|ww (G a S e B _ C l) λf U m=>?_
  cases f with
  |next =>
   refine e2a2 m λd k o p=>?_;refine e1a2 (E d k p) λq r t=>?_;exact#[q,r,d,k,o,t]
  |cont =>
   refine e2a2 m λd k o p=>?_;refine e1a2 (E d k p) λq r t=>?_;exact#[q,r,d,k,o,t]
  |brk=>exact m
  |ret v=>exact m
 |false =>
  rw[cr im];exact m4 #[e,B,C,l]
structure It where
 go:Nat->Hp->Prop
 Jo:Nat->Hp->V->Hp->Prop
 stop:Nat->Hp->Prop
def Cg(X:Cx)(a:List (hO×Obj))(H:Hp)(b:hO):Prop :=
 H b=none/\b≠X.env.locals/\b∉X.fs/\(b∈X.ex\/X.s₀.heap.objs.size<=b)/\153/\∀p∈X.pn++a,p.1≠b
def Inv.Ht(I:Inv X a i H s)(d:⇑s<=b)(f:g b=none):Cg X a g b:=by
 refine#[f,jD<|iE I.lt d,I.a2o d,.inr<|i9 I.sz d,λx c e z=>?_,λp h z=>?_]
 ·obtain⟨v,q⟩:=I.cell x c e;exact iv (iE q.lt<|by rw[z];exact d)<|kh _
 ·exact iv (iE (ie (I.pin p h).1)<|by rw[z];exact d)<|kh _
structure Turn(P:iT)(w:ji)(K:hJ)(tg:i8)(J:It)(fp:List hO)(it:hO)(tn:Nat->jd->Prop):Prop where
 mem:it∈fp
 obj:∀i h,tn i h->∀b∈fp,∃o,h.get? b=↑o/\∀v,o.data≠.cell v
 keep:∀i h h',tn i h->(∀b∈fp,∀o,h.get? b=↑o->h'.get? b=↑o)->tn i h'
 item:∀(X:Cx),X.prog=P->X.w=w->X.K=K->X.calm=true->∀(i:Nat) (pins:List (hO×Obj)) (s:h9) (σ:St) (H:Hp) (E:hR->h9->Prop),Inv X pins σ H s->(∀b∈fp,Cg X pins H b)->tn i s.heap->J.go i H ->
  ii (ik P w) X.A (pyNext (.ref it)) (λr s1=>∃u,r=↑u /\
   ii (ik P w) X.A (sO tg (.ref it) u) (λ_ s2=>∃x H',Inv X pins σ H' s2/\RelV x u/\J.Jo i H x H'/\tn (i+1) s2.heap/\∀b∈fp,H' b=none) E s1) E s
 done:∀(X:Cx),X.prog=P->X.w=w->X.K=K->X.calm=true->∀(i:Nat) (pins:List (hO×Obj)) (s:h9) (σ:St) (H:Hp) (E:hR->h9->Prop),Inv X pins σ H s->(∀b∈fp,Cg X pins H b)->tn i s.heap->J.stop i H ->
  ii (ik P w) X.A (pyNext<|.ref it) (λr s1=>r=none/\Inv X pins σ H s1) E s
 self:∀(A:jL)(i:Nat)(s:h9)(Q:hR->h9->Prop)(E:hR->h9->Prop),tn i s.heap->Q (.ref it) s->ii (ik P w) A (pyIter<|.ref it) Q E s
abbrev TI:=St->Hp->(It->Hp->Prop)->Prop
def PIE(X:Cx)(a:List (hO×Obj))(i:St)(j:i8)(R:It->Hp->Prop)(c:hR)(e:h9):Prop :=
 ∃(f:hO)(g:List hO)(h:Nat->jd->Prop)(J:It)(d:Hp),c=.ref f/\Inv X a i d e/\Turn X.prog X.w X.K j J g f h/\h 0 e.heap/\(∀b∈g,Cg X a d b)/\R J d
def PI(X:Cx)(d b:i8)(e:TI):Prop :=
 ∀(a:List (hO×Obj)) (s:h9) (c:St) (H:Hp) (R:It->Hp->Prop),Inv X a c H s->e c H R ->
  ii 54 X.A (eval b X.env) (λv f=>ii 54 X.A (pyIter v) (PIE X a c d R) X.xe f) X.xe s
def P8{s:h9}(b:s.heap.get? c=↑o)(d:o.cls=.type n)(e:o.data=.fields f)
 (g:["enumerate","zip","dict_itemiterator","dict_reverseitemiterator","odict_iterator","itertools.zip_longest","itertools.pairwise"].contains n=false)(a:Q () s):ii M A (sO i (.ref c) u) Q E s:=by
  cases i<;>first
    | exact ap a
    | (cases u<;>first
        | exact ap a
        | (refine am (ro b ?_)
           rw[d,e]
           show ii M A (if (["enumerate","zip","dict_itemiterator","dict_reverseitemiterator","odict_iterator","itertools.zip_longest","itertools.pairwise"].contains n&&f[0]?==↑(mq _))=true then _ else _) Q E s
           rw[cr<|by intro h;rw[g,Bool.false_and]at h;cases h]
           exact ap a))
noncomputable def ZS(K:hJ)(a:hO):It :=
 #[λi H=>∃b x,wR K H a b/\b[i]?=↑x,λi H x c=>c=H/\∀b,wR K H a b->b[i]?=↑x,λi H=>∃b,wR K H a b/\b.length<=i]
noncomputable def Itt(K:hJ)(a:hO):It :=
 #[λi H=>∃b x,zX K H a b/\b[i]?=↑x,λi H x c=>c=H/\∀b,zX K H a b->b[i]?=↑x,λi H=>∃b,zX K H a b/\b.length<=i]
noncomputable def X9(a:Int)(n:Nat):It:=#[λi _=>i<n,λi H x b=>b=H/\x=.int (a+i),λi _=>n<=i]
def Oi{P:iT}{w:ji}{K:hJ}{tg:i8}(a it:hO):Turn P w K tg (ZS K a) [it] it (λi h=>h.IsListIter it a i) where
 mem:=by simp
 obj:=λi h st b hb=>by
  have e:b=it:=by simpa using hb
  subst e;refine e1a3 st λo e c d=>?_;exact#[o,e,λv z=>by rw[d]at z;cases z]
 keep:=λi h h' st k=>st.at λo e=>k it q0o o e
 item:=by intro X hP hw hK hc i pins s σ H E I hf st hg;subst hP hw hK;refine e2a2 hg λxs x hq hx=>?_;refine e1a3 (I.list hq) λAV rv p hz=>?_;refine e1a2 (rv.get hx) λu hu ru=>?_;refine e0a6 (hf it q0o) λf0 f1 f2 f3 f4 f5=>?_;refine wpAny_pyNext_list_item st p.isList (x:=u) (by simpa using hu) λh' WT sb=>?_;have I1:Inv X pins σ H { s with heap:=h'}:=I.turned (t':=s.toks) (λb o hb e=>(sb.2 b hb).trans e) f0 f1 f3 f4 f5;refine e1a3 (id WT) λo e c d=>?_;exact#[u,rfl,P8 (s:={ s with heap:=h'}) e c d q0q #[x,H,I1,ru,#[rfl,λys hy=>by rw[I.JB hy hq];exact hx],WT,λb hb=>(hf b hb).1]]
 done:=by intro X hP hw hK hc i pins s σ H E I hf st hg;subst hP hw hK;refine e1a2 hg λxs hq hx=>?_;refine e1a3 (I.list hq) λAV rv p hz=>?_;refine e0a6 (hf it q0o) λf0 f1 f2 f3 f4 f5=>?_;have hl:=rv.length;exact wpAny_pyNext_list_end (I.ok.hd hc) st p.isList (by simp;lia) λh' eb=>93
 self:=λ_ _ _ _ _ st h=>wpAny_pyIter_listiter st h
def K5{P:iT}{w:ji}{K:hJ}{tg:i8}(a it:hO):Turn P w K tg (Itt K a) [it] it (λi h=>h.IsTupleIter it a i) where
 mem:=by simp
 obj:=λi h st b hb=>by
  have e:b=it:=by simpa using hb
  subst e;refine e1a3 st λo e c d=>?_;exact#[o,e,λv z=>by rw[d]at z;cases z]
 keep:=λi h h' st k=>st.at λo e=>k it q0o o e
 item:=by intro X hP hw hK hc i pins s σ H E I hf st hg;subst hP hw hK;refine e2a2 hg λxs x hq hx=>?_;refine e1a3 (I.tuple hq) λAV rv p hz=>?_;refine e1a2 (rv.get hx) λu hu ru=>?_;refine e0a6 (hf it q0o) λf0 f1 f2 f3 f4 f5=>?_;refine wpAny_pyNext_tuple_item st (show s.heap.IsTuple a AV.toArray from p) (x:=u) (by simpa using hu) λh' WT sb=>?_;have I1:Inv X pins σ H { s with heap:=h'}:=I.turned (t':=s.toks) (λb o hb e=>(sb.2 b hb).trans e) f0 f1 f3 f4 f5;refine e1a3 (id WT) λo e c d=>?_;exact#[u,rfl,P8 (s:={ s with heap:=h'}) e c d q0q #[x,H,I1,ru,#[rfl,λys hy=>by rw[I.Of hy hq];exact hx],WT,λb hb=>(hf b hb).1]]
 done:=by intro X hP hw hK hc i pins s σ H E I hf st hg;subst hP hw hK;refine e1a2 hg λxs hq hx=>?_;refine e1a3 (I.tuple hq) λAV rv p hz=>?_;refine e0a6 (hf it q0o) λf0 f1 f2 f3 f4 f5=>?_;have hl:=rv.length;exact wpAny_pyNext_tuple_end (I.ok.hd hc) st (show s.heap.IsTuple a AV.toArray from p) (by simp;lia) λh' eb=>93
 self:=λ_ _ _ _ _ st h=>wpAny_pyIter_tupleiter st h
def K6{P:iT}{w:ji}{K:hJ}{tg:i8}(it:hO)(lo:Int)(n:Nat):Turn P w K tg (X9 lo n) [it] it (λi h=>IsRangeIter h it (lo+(i:Nat)*1) ((n:Int)-(i:Nat)) 1) where
 mem:=by simp
 obj:=λi h st b hb=>by
  have e:b=it:=by simpa using hb
  subst e
  exact#[_,st,λv z=>by
   have z':t7 _=Data.cell v:=z
   cases z']
 keep:=λi h h' st k=>k it q0o _ st
 item:=by intro X hP hw hK hc i pins s σ H E I hf st hg;subst hP hw hK;refine e0a6 (hf it q0o) λf0 f1 f2 f3 f4 f5=>?_;have W:=Walks.range (prog:=X.prog) (w:=X.w) (I.ok.hd hc) it lo 1 n;refine W.item i s _ _ hg st λv h' tk hv WT kk=>?_;obtain⟨t,rfl⟩:=hv;have I1:Inv X pins σ H { s with heap:=h',toks:=tk}:=I.turned (λb o hb e=>kk b o (by simpa using hb) e) f0 f1 f3 f4 f5;refine#[_,rfl,P8 (s:={ s with heap:=h',toks:=tk}) (n:="range_iterator") WT rfl rfl q0q #[.int<|lo+i,H,I1,⟨t,?_⟩,⟨rfl,rfl⟩,WT,λb hb=>(hf b hb).1]];rw[Int.mul_one]
 done:=by intro X hP hw hK hc i pins s σ H E I hf st hg;refine e0a6 (hf it q0o) λf0 f1 f2 f3 f4 f5=>?_;exact wpAny_pyNext_range_end (I.ok.hd hc) st (by have:n<=i:=hg;lia) λh' eb=>93
 self:=λ_ _ _ _ _ st h=>wpAny_pyIter_rangeiter st h
def a0f(K:hJ)(c:TE):TI:=λd H R=>c d H λx b=>∃a,x=.ref a/\(∃e,wR K b a e)/\R (ZS K a) b
def a2z(K:hJ)(c:TE):TI:=λd H R=>c d H λx b=>∃a,x=.ref a/\(∃e,zX K b a e)/\R (Itt K a) b
def Hu{l:i8}{g:TE}(i:PE X l g):PI X y l (a0f X.K g):=by
 intro c s j H R I h;refine ww (i c s j H _ I h) λv d k=>e2a3 k λx m f n r=>?_;obtain⟨a,e,⟨z,t⟩,q⟩:=r;subst e;cases n;refine e1a3 (f.list t) λu A p B=>?_;refine wpAny_pyIter_list p.isList ?_;refine#[⇑d,[⇑d],_,_,m,rfl,f.kept (t':=d.toks) λb o e=>ci _ e,Oi a _,#[_,iq _ rfl,rfl,rfl],λb w=>?_,q];have e:b=⇑d:=by simpa using w
 subst e;exact f.Ht (hW _)<|f.wy.fresh<|hW _
def Ya{l:i8}{i:TE}(j:PE X l i):PI X y l (a2z X.K i):=by
 intro c s k H R I h;refine ww (j c s k H _ I h) λv d m=>e2a3 m λx n f r t=>?_;obtain⟨a,e,⟨z,u⟩,q⟩:=t;subst e;cases r;refine e1a3 (f.tuple u) λg A p B=>?_;refine rq (show d.heap.IsTuple a g.toArray from p) ?_;refine#[⇑d,[⇑d],_,_,n,rfl,f.kept (t':=d.toks) λb o e=>ci _ e,K5 a _,#[_,iq _ rfl,rfl,rfl],λb w=>?_,q];have e:b=⇑d:=by simpa using w
 subst e;exact f.Ht (hW _)<|f.wy.fresh<|hW _
def JC{a c:Int}{f:Nat}(I:Inv X d h H s)(i:-(2 ^ 62)<=a)(j:a<2 ^ 62)(k:-(2 ^ 62)<=c)(l:c<2 ^ 62)
 (q:R (X9 a (c-a).toNat) H):ii 54 X.A (pyIter<|.ref ⇑s) (PIE X d h r R) E { s with heap:=s.heap.push 96,toks:=f}:=by
  refine wpAny_pyIter_range (IsRange.new ..) (small_one i j k l) ?_
  have g:Inv X d h H { s with heap:=s.heap.push 96,toks:=f}:=I.kept λb o e=>ci _ e
  refine#[(s.heap.push 96).objs.size,[(s.heap.push 96).objs.size],_,_,H,rfl,
    g.kept (t':=f) λb o e=>ci _ e,K6 _ a (c-a).toNat,?_,λb m=>?_,q]
  · have n : a+((0 : Nat) : Int)*1 = a := by simp
    have p:(((c-a).toNat:Nat):Int)-((0:Nat):Int)=Builtin.Range.rangeSize a c 1:=by rw[rangeSize_one];split<;>lia
    rw[n,p]
    exact iq _ rfl
  · have e : b = (s.heap.push { cls := .type "range", data := .fields #v[.int a t, .int c u, .int 1 v] }).objs.size := by simpa using m
    subst e
    exact g.Ht (hW _)<|g.wy.fresh<|hW _
def a0g(a:TA):TI:=λb H R=>a b H λc d=>∃j:Int,c=[.int j]/\-(2 ^ 62)<=j/\j<2 ^ 62/\R (X9 0 j.toNat) d
def WU(a:TA):TI:=λb H R=>a b H λc d=>∃i j:Int,c=[.int i,.int j]/\(-(2 ^ 62)<=i/\i<2 ^ 62/\-(2 ^ 62)<=j/\j<2 ^ 62)/\R (X9 i (j-i).toNat) d
def Oj{a:i8}{f:TA}{p b:Pos}(g:Gl X "range")(i:X.mg "range"=none)(k:PA X [a] f)(l:hV [a] X.env=[78]:=by rfl):PI X x (.Call (.Name "range" p) [a] [] b) (a0g f):=by
 intro c s m H R I h;refine Call_<|Am I g i boot_range<|kA (ww (k b c s m H _ I h) λy z n=>e2a3 n λA B o u d=>?_) l rfl;obtain⟨j,e,d,v,q⟩:=d;subst e
 cases u with
 |cons r w =>
  cases w;obtain⟨t,rfl⟩:=r;exact call_range_1<|JC o q0a q0a d v (by simpa using q)
def Ol{a b:i8}{l:TA}{p c:Pos}(m:Gl X "range")(n:X.mg "range"=none)(o:PA X [a,b] l)(u:hV [a,b] X.env=[78,(false,eval b X.env)]:=by rfl)(d:hV [b] X.env=[(false,eval b X.env)]:=by rfl) :
  PI X C (.Call (.Name "range" p) [a,b] [] c) (WU l):=by
 intro f s v H R I h;refine Call_<|Am I m n boot_range<|kA (ww (o c f s v H _ I h) λD E ⟨F,H1,w,x,g⟩=>?_) (by rw[u,d]) (by rw[d];rfl);obtain⟨i,j,e,⟨g,y,z,A⟩,q⟩:=g;subst e
 cases x with
 |cons r k =>
  cases k with
  |cons B k =>
   cases k;obtain⟨t,rfl⟩:=r;obtain⟨G,rfl⟩:=B;exact call_range_2<|JC w g y z A q
def a2A(f:TI)(g:TG)(h:TS):TS:=λD a H=>f a H λJ j=>∃W:Nat->Nat->St->Hp->Prop,(∃m,W 0 m a j)/\∀i m a H,W i m a H ->
 (J.stop i H/\D.nx a H)\/(J.go i H/\∃N:St->Hp->Prop,(∀b c,N b c->∃e,e<m/\W (i+1) e b c)/\∀x c,J.Jo i H x c->g x a c λd k=>h { D with nx:=N,ct:=N,bk:=D.nx} d k)
noncomputable def EU(a:List hO)(h:jd):List (hO×Obj):=a.filterMap λb=>(h.get? b).map λo=>(b,o)
def yj{h:jd}(a:b∈fp)(e:h.get? b=↑o):(b,o)∈EU fp h:=List.mem_filterMap.mpr #[b,a,by rw[e];rfl]
def Om(a:p∈EU fp h):p.1∈fp/\h.get? p.1=↑p.2:=by
 refine e1a2 (List.mem_filterMap.mp a) λb c e=>?_
 cases q:h.get? b with
 |none=>rw[q]at e;cases e
 |some o =>
  rw[q]at e;have d:(b,o)=p:=jp e;subst d;exact#[c,q]
def Inv.pinned(I:Inv X a g H s)(h:∀b∈fp,Cg X a H b)(i:∀b∈fp,∃o,s.heap.get? b=↑o/\∀v,o.data≠.cell v):Inv X (a++EU fp s.heap) g H s :=
 I.Al λp j=>(List.mem_append.mp j).elim (λz=>I.pin p<|iF _ z) λz=>by obtain⟨c,e⟩:=Om z;obtain⟨k,l,m,_⟩:=h p.1 c;refine e1a2 (i p.1 c) λo f d=>?_;rw[e]at f;cases f;exact#[e,k,l,m,d]
def Inv.AY(I:Inv X (a++d) b H s):Inv X a b H s:=I.Al λp c=>I.pin p<|iF _<|jg _ c
def P9{j:i8}{C:List iK}{wi:TI}{g:TG}{tb:TS}{Y:Pos}(M:sg 54 X.A X.env X.xe)(hc:X.calm=true)(hi:PI X tg j wi)(hg:PG X tg g)(k:ES X C tb)
  (hs:∀x,kO j X.env x=pure x:=by intro _;rfl):PS X (.For tg j C [] Y) (a2A wi g tb):=by
 intro a s σ H D I h;refine wpAny_For (ww (hi a s σ H _ I h) λv s1 h1=>ww h1 λai s2 h2=>?_) hs;obtain⟨it,O,tn,J,H2,e,I2,T,Z,f2,W,⟨m0,w0⟩,P⟩:=h2;subst e
 -- ag aa true of the E Q through the ah
 have l:∀{B:Hp},(∀b∈O,B b=none)->∀b∈O,Cg X a B b:=λhn b k=>#[hn b k,(f2 b k).2];refine codeAny_forLoop_any (λn s'=>∃i p B,Inv X a p B s'/\tn i s'.heap/\(∀b∈O,B b=none)/\W i n p B) ?_ m0 #[0,σ,H2,I2,Z,λb k=>(f2 b k).1,w0];rintro n s3 ⟨i,q,H3,I3,R,S,w3⟩;rcases P i n q H3 w3 with⟨stop,qn⟩|⟨go,N,hN,step⟩
 ·refine mj M<|ww (T.done X rfl rfl rfl hc i a s3 q H3 X.xe I3 (l S) R stop) λr s4 G=>e0a2 G λhr I4=>?_;subst hr;exact m4 #[q,H3,I4,qn]
 ·refine mj M<|ww (T.item X rfl rfl rfl hc i a s3 q H3 X.xe I3 (l S) R go) λr s4 G=>e1a2 G λu hr h4=>?_;subst hr;refine mj M<|ww h4 λ_ s5 G=>e2a5 G λx H5 I5 r5 y5 L ab=>?_;have ae:=I5.pinned (l ab)<|T.obj _ _ L;refine mj M<|ww (hg _ s5 q H5 x u _ ae r5<|step x H5 y5) λ_ s6 G=>e2a2 G λaf H6 I6 q6=>?_;refine mj M (ww (k _ s6 af H6 _ I6 q6) λf s7 F=>?_)
  have t:∀{c:St} {y:Hp},Inv X (a++EU O s5.heap) c y s7->N c y->∃m,m<n/\∃i p B,Inv X a p B s7/\tn i s7.heap/\(∀b∈O,B b=none)/\W i m p B:=λ{c y} z U=>by refine e1a2 (hN c y U) λm' hm w7=>?_;refine#[m',hm,i+1,c,y,z.AY,T.keep _ _ _ L λb k o e=>(z.pin (b,o)<|iF _<|iF _<|yj k e).1,λb k=>?_,w7];refine e1a2 (T.obj _ _ L b k) λo e d=>?_;exact(z.pin (b,o)<|iF _<|iF _<|yj k e).2.1
  cases f with
  |next=>obtain⟨c,y,z,U⟩:=F;exact t z U
  |cont=>obtain⟨c,y,z,U⟩:=F;exact t z U
  |brk=>obtain⟨c,y,z,F⟩:=F;exact#[c,y,z.AY,F]
  |ret v=>obtain⟨x7,c,y,z,r7,F⟩:=F;exact#[x7,c,y,z.AY,r7,F]
def Qa{K:hJ}{a:hO}{xs:List V}{g:TG}{l:TS}{D:Ends}{b:St}{H:Hp}(c:Nat->St->Hp->Prop)(o:c 0 b H)(r:∀i b H,i<=xs.length->c i b H->wR K H a xs)
  (s:∀i x b H,xs[i]?=↑x->c i b H->g x b H λd k=>l { D with nx:=c<|i+1,ct:=c<|i+1,bk:=D.nx} d k) (t:∀b H,c xs.length b H->D.nx b H) :
  ∃W:Nat->Nat->St->Hp->Prop,(∃m,W 0 m b H)/\∀i m b H,W i m b H ->
   ((ZS K a).stop i H/\D.nx b H)\/((ZS K a).go i H/\∃N:St->Hp->Prop,(∀f h,N f h->∃n,n<m/\W (i+1) n f h)/\∀x h,(ZS K a).Jo i H x h->g x b h λd k=>l { D with nx:=N,ct:=N,bk:=D.nx} d k):=by
 refine#[λi m b H=>m=xs.length-i/\i<=xs.length/\c i b H,#[xs.length,q0o,js _,o],?_];rintro i m b H ⟨rfl,u,p⟩;have q:=r i b H u p;by_cases j:i<xs.length
 ·refine .inr #[#[xs,xs[i],q,by simp[j]],c<|i+1,λf h v=>#[xs.length-(i+1),q0d,rfl,j,v],λx h y=>?_];obtain⟨e,y⟩:=y;subst e;exact s i x b _ (y xs q) p
 ·have e:i=xs.length:=by omega
  subst e;exact .inl #[#[xs,q,hW _],t b H p]
abbrev R2:=V->V->Hp->VK->Prop
def AZ(X:Cx)(f:hR->hR->Sem hR)(r:R2):Prop :=
 ∀(a:List (hO×Obj)) (s:h9) (b:St) (H:Hp) (x y:V) (v u:hR) (Q:VK),Inv X a b H s->RelV x v->RelV y u->r x y H Q ->
  ii 54 X.A (f v u) (EP X a b Q) X.xe s
def UnR(X:Cx)(f:hR->Sem hR)(r:V->Hp->VK->Prop):Prop :=
 ∀(a:List (hO×Obj)) (s:h9) (b:St) (H:Hp) (x:V) (v:hR) (Q:VK),Inv X a b H s->RelV x v->r x H Q ->
  ii 54 X.A (f v) (EP X a b Q) X.xe s
def zq(X:Cx)(f:hR)(r:List V->Hp->VK->Prop):Prop :=
 ∀(a:List (hO×Obj)) (s:h9) (b:St) (H:Hp) (c:List V) (d:List hR) (Q:VK),Inv X a b H s->Vals c d->r c H Q ->
  ii 54 X.A (call f d) (EP X a b Q) X.xe s
def a2C(X:Cx)(r:V->Hp->(Bool->Hp->Prop)->Prop):Prop :=
 ∀(a:List (hO×Obj)) (s:h9) (b:St) (H:Hp) (x:V) (v:hR) (Q:Bool->Hp->Prop),Inv X a b H s->RelV x v->r x H Q ->
  ii 54 X.A (uQ v) (TP X a b Q) X.xe s
def ZU(r:R2)(b c:TE):TE:=λa H Q=>b a H λx d=>c a d λy e=>r x y e Q
def tUn(r:V->Hp->VK->Prop)(a:TE):TE:=λb H Q=>a b H λx c=>r x c Q
def rI(C:Int->Int->Prop)(g:Int->Int->V):R2:=λx y H Q=>∃i j,x=.int i/\y=.int j/\C i j/\Q (g i j) H
def Ud(g:Int->Int->V):R2:=λx y H Q=>∃i j,x=.int i/\y=.int j/\Q (g i j) H
def rU(g:Int->V):V->Hp->VK->Prop:=λx H Q=>∃i,x=.int i/\Q (g i) H
def Yb(m:PE X a n)(o:PE X b p){c:List (hO×Obj)}{s:h9}{d:St}{H:Hp}{R:V->V->Hp->Prop}(I:Inv X c d H s)
  (h:n d H λx k=>p d k λy e=>R x y e) {Q:hR->h9->Prop} {f:hR->hR->Sem hR}
  (q:∀v u j x y e,Inv X c d e j->RelV x v->RelV y u->R x y e->ii 54 X.A (f v u) Q X.xe j) :
  ii 54 X.A (eval a X.env) (λv g=>ii 54 X.A (eval b X.env) (λu i=>ii 54 X.A (f v u) Q X.xe i) X.xe g) X.xe s:=by
 refine ww (m c s d H _ I h) λv r l=>e2a3 l λx k t z B=>?_;refine ww (o c r d k _ t B) λu j l=>e2a3 l λy e C D E=>?_;exact q v u j x y e C z D E
def xz(d:AZ X (mV op) r)(e:PE X a f)(g:PE X b i):PE X (.BinOp a op b pos) (ZU r f i):=by intro c s j H Q I h;exact wpAny_BinOp<|Yb e g I h λv u k x y l m n o q=>d c k j l x y v u Q m n o q
def WV{c:UnaryOp}{r:V->Hp->VK->Prop}(e:UnR X (unaryOp c) r)(f:PE X a g):PE X (.UnaryOp c a pos) (tUn r g):=by intro b s d H Q I h;exact UnaryOp_<|ww (f b s d H _ I h) λv i j=>e2a3 j λx k l m n=>e b i d k x v Q l m n
def opI{f:hR->hR->Sem hR}{C:Int->Int->Prop}{g:Int->Int->Int}
 (a:∀(i j:Int)(t u:Tok)(s:h9)(Q:hR->h9->Prop)(E:hR->h9->Prop),C i j->Q (.int (g i j) s.toks) 97->ii 54 X.A (f (.int i t)<|.int j u) Q E s) :
    AZ X f (rI C λi j=>.int<|g i j):=by
  intro b s l H x y v u Q I c d h
  obtain⟨i,j,rfl,rfl,e,q⟩:=h
  obtain⟨t,rfl⟩:=c
  obtain⟨k,rfl⟩:=d
  exact a i j t k s _ _ e #[.int<|g i j,H,I.tok _,#[_,rfl],q]
def a0h{f:hR->hR->Sem hR}{g:Int->Int->Int}
 (a:∀(i j:Int)(t u:Tok)(s:h9)(Q:hR->h9->Prop)(E:hR->h9->Prop),Q (.int (g i j) s.toks) 97->ii 54 X.A (f (.int i t)<|.int j u) Q E s) :
    AZ X f (Ud λi j=>.int<|g i j):=by
  intro b s k H x y v u Q I c d h
  obtain⟨i,j,rfl,rfl,q⟩:=h
  obtain⟨t,rfl⟩:=c
  obtain⟨e,rfl⟩:=d
  exact a i j t e s _ _ #[.int<|g i j,H,I.tok _,#[_,rfl],q]
def Ur{f:hR->hR->Sem hR}{g:Int->Int->Bool}
 (a:∀(i j:Int)(t u:Tok)(s:h9)(Q:hR->h9->Prop)(E:hR->h9->Prop),Q (.bool<|g i j) s->ii 54 X.A (f (.int i t)<|.int j u) Q E s) :
    AZ X f (Ud λi j=>.bl<|g i j):=by
  intro b s k H x y v u Q I c d h
  obtain⟨i,j,rfl,rfl,q⟩:=h
  obtain⟨t,rfl⟩:=c
  obtain⟨e,rfl⟩:=d
  exact a i j t e s _ _ #[.bl<|g i j,H,I,rfl,q]
def a2D(i j:Int):Prop:=0<j/\j<1073741824
def a2E(i j:Int):Prop:=0<=j/\j<=1000000/\i.natAbs<2 ^ 64
def Yc(i j:Int):Prop:=(-(2 ^ 64)<i/\i<2 ^ 64)\/(-(2 ^ 64)<j/\j<2 ^ 64)
def Yc.ok{i j:Int}(h:Yc i j):IntMulOk i j:=by
 rcases h with⟨a,b⟩|⟨a,b⟩
 ·exact .of_left<|intBits_le_64 a b
 ·exact .of_right<|intBits_le_64 a b
def zO:AZ X (mV .Add) (Ud λi j=>.int<|i+j):=a0h λ_ _ _ _ _ _ _ q=>add_int q
def EX:AZ X (mV .Sub) (Ud λi j=>.int<|i-j):=a0h λ_ _ _ _ _ _ _ q=>sub_int q
def Ci:AZ X (mV .Mult) (rI Yc λi j=>.int<|i*j):=opI λ_ _ _ _ _ _ _ a q=>mul_int q a.ok
def M0:AZ X (mV .FloorDiv) (rI a2D λi j=>.int<|i / j):=opI λi j _ _ _ _ _ a q=>by have b:(0:Int)<j:=a.1;have c:j<1073741824:=a.2;exact floordiv_int q0d (by rw[Int.fdiv_eq_ediv_of_nonneg i q0d];exact q)<|.inl<|PyProof.noPylong_small q0d
def Dt:AZ X (mV .Mod) (rI (λ_ j=>0<j) λi j=>.int<|i%j):=opI λi j _ _ _ _ _ a q=>by exact mod_int' q0a (by rw[Int.fmod_eq_emod_of_nonneg i q0a];exact q)
def Yd:AZ X (mV .Pow) (rI a2E λi j=>.int<|i ^ j.toNat):=opI λ_ _ _ _ _ _ _ a q=>pow_int_small a.1 a.2.1 a.2.2 q
def unI{f:hR->Sem hR}{g:Int->Int}
 (a:∀(i:Int)(t:Tok)(s:h9)(Q:hR->h9->Prop)(E:hR->h9->Prop),Q (.int (g i) s.toks) 97->ii 54 X.A (f<|.int i t) Q E s) :
    UnR X f (rU λi=>.int<|g i):=by
  intro b s d H x v Q I c h
  obtain⟨i,rfl,q⟩:=h
  obtain⟨t,rfl⟩:=c
  exact a i t s _ _ #[.int<|g i,H,I.tok _,#[_,rfl],q]
def Qb:UnR X (unaryOp .USub) (rU λi=>.int (-i)):=unI λ_ _ _ _ _ q=>neg_int q
noncomputable def Ye:V->V->Bool
 | .xj,.xj=>true|.xj,.int _=>true|.int _,.xj=>true|.xj,.bl _=>true|.bl _,.xj=>true|.xj,.str _=>true|.str _,.xj=>true
 | .int _,.int _=>true|.bl _,.bl _=>true|.str _,.str _=>true|.MW _,.MW _=>true
 | .int _,.str _=>true|.str _,.int _=>true|.bl _,.str _=>true|.str _,.bl _=>true
 |_,_=>false
def rEq:R2:=λx y H Q=>Ye x y=true/\Q (.bl<|decide<|x=y) H
def rNe:R2:=λx y H Q=>Ye x y=true/\Q (.bl<|!decide (x=y)) H
def M3{i j:Int}:decide (V.int i=V.int j)=(i==j):=by rw[k9];simp
def Qc{i j:Bool}:decide (V.bl i=V.bl j)=(i==j):=by rw[k9];simp
def M4:decide (V.str i=V.str j)=(i==j):=by rw[k9];simp
def M5:decide (V.MW i=V.MW j)=(i.toList==j.toList):=by rw[k9];cases i;cases j;simp
def wq{k b:Bool}(I:Inv X a c H s)(q:Q (.bl k) H)(e:k=b):EP X a c Q (.bool b) s:=by subst e;exact#[.bl k,H,I,rfl,q]
def a0i:AZ X (jH .Eq) rEq:=by
 intro e s f H x y v u Q I d a h;obtain⟨c,q⟩:=h
 cases x with
 |xj =>
  cases d
  cases y with
  |xj=>cases a;exact PySem.EqNone.eq_none_none<|wq I q q0o
  |bl j=>cases a;exact PySem.EqNone.eq_none_bool<|wq I q q0o
  |int j=>obtain⟨b,rfl⟩:=a;exact PySem.EqNone.eq_none_int<|wq I q q0o
  |str j=>obtain⟨b,rfl⟩:=a;exact PySem.EqNone.eq_none_str<|wq I q q0o
  |_=>exact iv (show false=true from c) im
 |bl i =>
  cases d
  cases y with
  |xj=>cases a;exact PySem.EqNone.eq_bool_none<|wq I q q0o
  |bl j=>cases a;exact eq_bool<|wq I q Qc
  |str j=>obtain⟨b,rfl⟩:=a;exact PySem.EqMixed.eq_bool_str<|wq I q q0o
  |_=>exact iv (show false=true from c) im
 |int i =>
  obtain⟨t,rfl⟩:=d
  cases y with
  |xj=>cases a;exact PySem.EqNone.eq_int_none<|wq I q q0o
  |int j=>obtain⟨b,rfl⟩:=a;exact eq_int<|wq I q M3
  |str j=>obtain⟨b,rfl⟩:=a;exact PySem.EqMixed.eq_int_str<|wq I q q0o
  |_=>exact iv (show false=true from c) im
 |str i =>
  obtain⟨t,rfl⟩:=d
  cases y with
  |xj=>cases a;exact PySem.EqNone.eq_str_none<|wq I q q0o
  |bl j=>cases a;exact PySem.EqMixed.eq_str_bool<|wq I q q0o
  |int j=>obtain⟨b,rfl⟩:=a;exact PySem.EqMixed.eq_str_int<|wq I q q0o
  |str j=>obtain⟨b,rfl⟩:=a;exact eq_str<|wq I q M4
  |_=>exact iv (show false=true from c) im
 |MW i =>
  obtain⟨t,rfl⟩:=d
  cases y with
  |MW j=>obtain⟨b,rfl⟩:=a;exact PySem.W.eq_bytes<|wq I q M5
  |_=>exact iv (show false=true from c) im
 |_=>cases y<;>exact iv (show false=true from c) im
def a0j:AZ X (jH .NotEq) rNe:=by
 intro e s f H x y v u Q I d a h;obtain⟨c,q⟩:=h
 cases x with
 |xj =>
  cases d
  cases y with
  |xj=>cases a;exact PySem.EqNone.ne_none_none<|wq I q q0o
  |bl j=>cases a;exact PySem.EqNone.ne_none_bool<|wq I q q0o
  |int j=>obtain⟨b,rfl⟩:=a;exact PySem.EqNone.ne_none_int<|wq I q q0o
  |str j=>obtain⟨b,rfl⟩:=a;exact PySem.EqNone.ne_none_str<|wq I q q0o
  |_=>exact iv (show false=true from c) im
 |bl i =>
  cases d
  cases y with
  |xj=>cases a;exact PySem.EqNone.ne_bool_none<|wq I q q0o
  |bl j=>cases a;exact ne_bool<|wq I q<|congrArg not Qc
  |str j=>obtain⟨b,rfl⟩:=a;exact PySem.EqMixed.ne_bool_str<|wq I q q0o
  |_=>exact iv (show false=true from c) im
 |int i =>
  obtain⟨t,rfl⟩:=d
  cases y with
  |xj=>cases a;exact PySem.EqNone.ne_int_none<|wq I q q0o
  |int j=>obtain⟨b,rfl⟩:=a;exact ne_int<|wq I q<|congrArg not M3
  |str j=>obtain⟨b,rfl⟩:=a;exact PySem.EqMixed.ne_int_str<|wq I q q0o
  |_=>exact iv (show false=true from c) im
 |str i =>
  obtain⟨t,rfl⟩:=d
  cases y with
  |xj=>cases a;exact PySem.EqNone.ne_str_none<|wq I q q0o
  |bl j=>cases a;exact PySem.EqMixed.ne_str_bool<|wq I q q0o
  |int j=>obtain⟨b,rfl⟩:=a;exact PySem.EqMixed.ne_str_int<|wq I q q0o
  |str j=>obtain⟨b,rfl⟩:=a;exact ne_str<|wq I q<|congrArg not M4
  |_=>exact iv (show false=true from c) im
 |MW i =>
  obtain⟨t,rfl⟩:=d
  cases y with
  |MW j=>obtain⟨b,rfl⟩:=a;exact PySem.W.ne_bytes<|wq I q<|congrArg not M5
  |_=>exact iv (show false=true from c) im
 |_=>cases y<;>exact iv (show false=true from c) im
def WX:AZ X (jH .Lt) (Ud λi j=>.bl<|decide<|i<j):=Ur λ_ _ _ _ _ _ _ q=>lt_int q
def WY:AZ X (jH .LtE) (Ud λi j=>.bl<|decide<|i<=j):=Ur λ_ _ _ _ _ _ _ q=>le_int q
def WZ:AZ X (jH .Gt) (Ud λi j=>.bl<|decide<|j<i):=Ur λ_ _ _ _ _ _ _ q=>gt_int q
def a0k:AZ X (jH .GtE) (Ud λi j=>.bl<|decide<|j<=i):=Ur λ_ _ _ _ _ _ _ q=>ge_int q
def Qd:AZ X (jH .Is) (λx y H Q=>y=.xj/\Q (.bl<|decide<|x=.xj) H):=by
 intro a s d H x y v u Q I b c h;obtain⟨rfl,q⟩:=h;cases c;refine is_none_gen<|wq I q ?_
 cases x<;>first
  | (cases b;rfl)
  | (obtain⟨t,rfl⟩:=b;rfl)
def M6:AZ X (jH .IsNot) (λx y H Q=>y=.xj/\Q (.bl<|!decide (x=.xj)) H):=by
 intro a s d H x y v u Q I b c h;obtain⟨rfl,q⟩:=h;cases c;refine isnot_none_gen<|wq I q ?_
 cases x<;>first
  | (cases b;rfl)
  | (obtain⟨t,rfl⟩:=b;rfl)
def vX(b:i8)(h:op≠.In:=by decide)(a:op≠.NotIn:=by decide):jm op b=false:=by
 have c:(op==CmpOp.In)=false:=by cases op<;>first|rfl|exact iv rfl h
 have d:(op==CmpOp.NotIn)=false:=by cases op<;>first|rfl|exact iv rfl a
 cases b<;>simp[jm,c,d]
def Hv(d:AZ X (jH op) r)(e:PE X a f)(g:PE X b i)(j:jm op b=false):PE X 117 (ZU r f i):=by intro c s k H Q I h;exact tD (Yb e g I h λv u l x y m n o p q=>d c l k m x y v u Q n o p q) j
def a0l(t:TE):TT:=λa H Q=>t a H λx b=>∃k,x=.bl k/\Q k b
def yC{g:rc}{r:R2}(l:AZ X (jH g) r)(m:PE X a n)(o:PE X b p)(q:jm g b=false):PT X (.Compare a [g] [b] pos) (a0l<|ZU r n p):=by
 intro d s i H Q I h
 refine vi (ww (m d s i H _ I h) λv t f=>e2a3 f λx w A B C=>ww (o d t i w _ A C) λu D f=>e2a3 f λy E F G J =>
  ww (l d D i E x y v u _ F B G J) λc P f=>e2a3 f λz L M N j=>e1a2 j λk e O=>?_) q
 subst e;cases N;exact kN #[L,M,O]
def a0m(K:hJ)(x:V)(H:Hp)(k:Bool):Prop :=
 match x with
 | .xj=>k=false
 | .bl b=>k=b
 | .int i=>k=(i != 0)
 | .str y=>y.length<=hZ/\k=((y.length:Int) != 0)
 | .MW y=>y.size<=hZ/\k=((y.size:Int) != 0)
 | .ref p=>(∃a,wR K H p a/\k=!a.isEmpty)\/(∃a,zX K H p a/\k=!a.isEmpty)\/∃c,H p=↑(.dK c)/\k=!c.isEmpty
 |_=>False
def K8(r:KV a b):(!b.isEmpty)=!a.isEmpty:=by
 cases r<;>rfl
def EY(r:Vals b a):(!a.toArray.isEmpty)=!b.isEmpty:=by
 cases r<;>simp
def EZ:(hZ:Nat)<2 ^ 63:=by rw[jt];decide
def Yf:a2C X (λx H Q=>∃k,a0m X.K x H k/\Q k H):=by
 intro u s C H x v Q I g h;refine e1a2 h λk e q=>?_;have D:hZ=16777216:=jt
 cases x with
 |xj =>
  cases g;have a:k=false:=e;subst a;exact truthy_none #[H,I,q]
 |bl b =>
  cases g;have a:k=b:=e;subst a;exact kN #[H,I,q]
 |int i =>
  obtain⟨t,rfl⟩:=g;have a:k=(i != 0):=e;subst a;exact PySem.P.truthy_int #[H,I,q]
 |str y =>
  obtain⟨t,rfl⟩:=g;obtain⟨A,a⟩:y.length<=hZ/\k=((y.length:Int) != 0):=e;subst a;exact PySem.P.truthy_str q0a #[H,I.tok _,q]
 |MW y =>
  obtain⟨t,rfl⟩:=g;obtain⟨A,a⟩:y.size<=hZ/\k=((y.size:Int) != 0):=e;subst a;exact PySem.W.truthy_bytes q0a #[H,I.tok _,q]
 |ref p =>
  cases g;have a:(∃f,wR X.K H p f/\k=!f.isEmpty)\/(∃f,zX X.K H p f/\k=!f.isEmpty)\/∃c,H p=↑(.dK c)/\k=!c.isEmpty:=e;rcases a with⟨f,j,a⟩|⟨f,j,a⟩|⟨c,j,a⟩
  ·subst a;refine e1a3 (I.list j) λn r o z=>?_;have d:=r.length;exact wpAny_truthy_list o.isList (by simp only[iu];lia) #[H,I.tok _,by rw[EY r];exact q]
  ·subst a;refine e1a3 (I.tuple j) λn r o z=>?_;have d:=r.length;exact truthy_tuple o (by simp only[iu];lia) #[H,I.tok _,by rw[EY r];exact q]
  ·subst a;obtain⟨z,B,l,r,m⟩:c.length<=hZ/\(p==lG)=false/\∃l,KV c l/\s.heap.DictOf (wl X.prog X.w) p l:=I.wy p _ j;have d:c.length=l.length:=Paired.length r;exact wpAny_truthy_dict B m q0a #[H,I.tok _,by rw[K8 r];exact q]
 |_=>exact(show False from e).elim
def JD(f:PE X a g)(i:∀b,rj a X.env b=(do let v <- b;nE a.pos;lw [v] (uQ v))) :
  PT X a (λd H Q=>g d H λx e=>∃k,a0m X.K x e k/\Q k e):=by
 intro c s d H Q I h;exact isTrue_plain (ww (f c s d H _ I h) λv j l=>e2a3 l λx m n o p=>Yf c j d m x v Q n o p)<|i _
def vals1(r:Vals [x] a):∃u,a=[u]/\RelV x u:=by
 cases r with
 |cons b c=>cases c;exact#[_,rfl,b]
def vals2(r:Vals [x,y] b):∃u a,b=[u,a]/\RelV x u/\RelV y a:=by
 cases r with
 |cons c d =>
  cases d with
  |cons e f=>cases f;exact#[_,_,rfl,c,e]
structure K9(h:jd)(x dx C:hO)(mA:Str->Option hR):Prop where
 obj:h.get? x=↑(kY C dx)
 ns:h.Ns1 dx mA
 ne:dx≠x
set_option tactic.hygienic true in
def On{h:jd}{c:hO}{d:Str->Option hR}(n:h.Ns1 c d):∃f,h.get? c=↑f/\∀name,pw name f=↑(d name):=by
 obtain⟨o,g,r,i,j,k,_,l⟩:=n;refine#[o,i,λname=>?_];have e:=l name;unfold nsFind findBy at e;rw[<- uj]at e;unfold pw;rw[j];dsimp only;split
 ·rename_i y q
  rw[q]at e;exact congrArg some e
 ·rename_i q
  rw[q]at e
  have a:g.toList.any (·.refKey)=false:=by rw[List.any_eq_false];intro y m;obtain⟨z,t,b⟩:=k y<|Array.mem_toList_iff.mp m;simp[DictEntry.refKey,b]
  have p:¬g.toList.any (·.refKey)=true:=by rw[a];exact im
  rw[cr p];exact congrArg some e
def K9.look{C:hO}(I:K9 h x b C c):∃a,PySem.W.InstAt h x (kY C b) C ↑a/\∀name,pw name a=↑(c name) :=
 e1a2 (On I.ns) λa d e =>
 #[a,#[I.obj,rfl,rfl,d],e]
section
variable{prog:iT}{w:ji}{A:jL}{E:hR->h9->Prop}{s:h9}{K:hJ}{x dx C f:hO}{mA:Str->Option hR}{name:Str}{v:hR}
def get_map{a:Bool}(X:K.In s.heap)(I:K9 s.heap x dx C mA)(c:m7 K C name=true)(d:ol K C=true)
 (e:iL K (.ref C) name=↑none) (g:mA name=↑v) (b:uk v=true) (h:Q v 97) :
    ii (ik prog w) A (getAttr (.ref x) name a) Q E s:=by
  refine e1a2 I.look λj J i=>?_
  exact PySem.W.get_value X J (pN c).1 (PySem.W.findObj_own d e rfl<|by rw[i,g]) b h
def Qe(X:K.In s.heap)(I:K9 s.heap x dx C mA)(a:m7 K C name=true)
 (b:iL K (.ref C) name=↑(some<|.ref f)) (c:oW K (.ref f)=true) (d:mA name=none) (h:Q (.ref f,[.ref x]) s) :
    ii (ik prog w) A (nc (.ref x) name i) Q E s:=by
  refine e1a2 I.look λe J g=>?_
  exact PySem.W.method_fn X J (pN a).1 (pN a).2 b (beq_iff_eq.mp c) (by show (pw name e).map (·.isSome)=↑false;rw[g,d];rfl) h
def Us(X:K.In s.heap)(I:K9 s.heap x dx C mA)
 (l:iL K (.ref C) "__setattr__"=↑106) (m:qu K C=true) (n:qR K C name=↑none) (o:ol K C=true)
 (hw:sK mA p) (q:p.length<=hZ)
 (h:∀e,K9 e x dx C (λy=>if y=name then some v else mA y)->jq dx s.heap e->Q () { s with heap:=e,toks:=s.toks+2}) :
    ii (ik prog w) A (setAttr (.ref x) name v) Q E s:=by
  refine e1a2 I.look λD J F=>?_
  refine PySem.W.set_plain X J l<|PySem.W.osa_open (s:=97) (r:=none) X J m n λb=>?_
  refine e1a2 (PySem.W.any_some o) λG t g=>?_
  have u:s.heap.get? x=some #[.ref C,↑dx,.plain,#v[]]:=I.obj
  refine am<|ap<|am<|am<|wpAny_loadPart u<|am<|PySem.W.Looks.here (s:=97) (pO X t) ?_
  rw[g]
  refine ap (a:=↑dx)<|am<|ap<|am ?_
  refine wpAny_nsSet1 (s:=97) I.ns λe c d=>?_
  obtain⟨H,z,B,i,j,k⟩:=c.count<|PySem.Within.cons name v hw
  refine am<|wpAny_lookBehind i (by rw[j];exact pastItsLine_dict<|i9 k<|by rw[iH];lia) ?_
  exact ap<|h _ #[(d.2 _<|Ne.symm I.ne).trans I.obj,c,I.ne] d
def Qf(X:K.In s.heap)(c:qS K C=true)
 (e:iL K (.ref C) "__init__"=↑(some<|.ref f)) (i:pA K (.ref f)=↑(.type "function"))
 (h:mI (ik prog w) (A.under (.builtin "type.__call__" #[.ref C::a,b])) (.call (.ref f) #[.ref (⇑s+1)::a,b]) (PySem.W.InitBack (⇑s+1) R)
 { s with heap:=(s.heap.push kd).push (kY C ⇑s)}) :
    mI (ik prog w) A (.call (.ref C) #[a,b]) R s:=by
  obtain⟨j,g,d,t,k⟩:=s
  exact PySem.W.make_core (PySem.W.makes_of X c) (pB X e) (λself=>PySem.W.bind_fn X self i) (.inl rfl) h
end
noncomputable def A1(f:Str)(v:V):List (Str×V)->List (Str×V)
 | []=>[(f,v)]
 | (g,x)::r=>if g=f then (g,v)::r else (g,x)::A1 f v r
def JE(f g:Str)(v:V):∀d:List (Str×V),(A1 f v d).lookup g=if g=f then some v else d.lookup g:=by
 intro i
 induction i with
 |nil =>
  show kR g [(f,v)]=_;by_cases h:g=f
  ·have a:(g==f)=true:=beq_iff_eq.mpr h;simp only[kR,a,hI h]
  ·have a:(g==f)=false:=beq_eq_false_iff_ne.mpr h;simp only[kR,a,cr h]
 |cons j r c =>
  obtain⟨k,x⟩:=j;have l:=c;rw[show A1 f v ((k,x)::r)=(if k=f then (k,v)::r else (k,x)::A1 f v r) from rfl];by_cases b:k=f
  ·rw[hI b];by_cases h:g=k
   ·have a:(g==k)=true:=beq_iff_eq.mpr h;simp only[kR,a,hI<|h.trans b]
   ·have a:(g==k)=false:=beq_eq_false_iff_ne.mpr h;simp only[kR,a,cr (λe:g=f=>h<|e.trans b.symm)]
  ·rw[cr b];by_cases h:g=k
   ·have a:(g==k)=true:=beq_iff_eq.mpr h;simp only[kR,a,cr (λe:g=f=>b<|h.symm.trans e)]
   ·have a:(g==k)=false:=beq_eq_false_iff_ne.mpr h;simp only[kR,a];exact l
def GK(f:Str)(v:V):∀a:List (Str×V),f∈(A1 f v a).map (·.1)/\∀g,g∈a.map (·.1)->g∈(A1 f v a).map (·.1):=by
 intro d
 induction d with
 |nil=>exact#[by simp[A1],λg h=>by simp at h]
 |cons i r b =>
  obtain⟨k,x⟩:=i;obtain⟨j,l⟩:=b;rw[show A1 f v ((k,x)::r)=(if k=f then (k,v)::r else (k,x)::A1 f v r) from rfl];by_cases c:k=f
  ·rw[hI c];subst c;exact#[q0o,λg h=>by simpa using h]
  ·rw[cr c];refine#[?_,λg h=>?_]
   ·rw[iN];exact ij _ j
   ·rw[iN]at h ⊢;rcases List.mem_cons.mp h with e|e
    ·exact List.mem_cons.mpr<|.inl e
    ·exact ij _<|l g e
def DY(f:Str)(v:V):∀a:List (Str×V),(A1 f v a).length<=a.length+1
 | []=>by simp[A1]
 | (k,x)::r=>by
  have c:=DY f v r;rw[show A1 f v ((k,x)::r)=(if k=f then (k,v)::r else (k,x)::A1 f v r) from rfl];by_cases b:k=f
  ·rw[hI b,iH,iH];lia
  ·rw[cr b,iH,iH];lia
def Ak.some_of(r:Ak ↑v o):∃u,o=↑u/\RelV v u:=by
 cases o with
 |none=>exact(show False from r).elim
 |some u=>exact#[u,rfl,r]
def Ak.none_of(r:Ak none o):o=none:=by
 cases o with
 |none=>rfl
 |some u=>exact(show False from r).elim
def Oo(r:RelV v u):uk u=true:=by
 cases v with
 |xj=>cases (show u=Value.none from r);rfl
 |bl b=>cases (show u=rK b from r);rfl
 |int i=>obtain⟨t,e⟩:=(show ∃t,u=mo i t from r);cases e;rfl
 |str x=>obtain⟨t,e⟩:=(show ∃t,u=Value.str x t from r);cases e;rfl
 |MW b=>obtain⟨t,e⟩:=(show ∃t,u=Value.bytes b t from r);cases e;rfl
 |Ui b=>obtain⟨t,e⟩:=(show ∃t,u=tz b t from r);cases e;rfl
 |ref a=>cases (show u=iD a from r);rfl
 |ty n=>cases (show u=kD n from r);rfl
def CG(c:yG P w H h)(e:H a=↑(.ins C g fs)):∃b,K9 h a g C b/\(∀f,Ak (fs.lookup f)<|b f)/\sK b (fs.map (·.1))/\fs.length<=1000/\H g=↑(.own a):=by obtain⟨d,z,i,j,b,n,r,q⟩:=(show wJ P w H h a (.ins C g fs) from c a _ e);exact#[b,#[j,n,i],r,q,z,d]
structure BH(K:hJ)(C:hO):Prop where
 pg:m7 K C Str.empty=true
 hd:ol K C=true
 po:qu K C=true
 sa:iL K (.ref C) "__setattr__"=↑106
def BH.get{K:hJ}{C:hO}(c:BH K C)(f:Str):m7 K C f=true:=c.pg
def wD(K:hJ)(C:hO)(f:Str):Prop:=iL K (.ref C) f=↑none
def wD.a0n{K:hJ}{C:hO}{f:Str}(n:wD K C f):qR K C f=↑none:=by unfold qR;rw[show iL K (.ref C) f=some none from n];rfl
structure Meth(K:hJ)(C:hO)(m:Str)(f:hO):Prop where
 at_:iL K (.ref C) m=↑(some<|.ref f)
 fn:oW K (.ref f)=true
 kp:jA K (.ref f)=true
def La{b:Bool}(I:Inv X d j H s)(e:H a=↑(.ins C p fs))(c:BH X.K C)(n:wD X.K C f)(l:fs.lookup f=↑v)
 (h:∀u g,Inv X d j H g->RelV v u->Q u g):ii 54 A (getAttr (.ref a) f b) Q E s:=by
  obtain⟨k,O,r,_,_,_⟩:=CG I.wy e
  obtain⟨u,m,i⟩:=Ak.some_of (v:=v) (o:=k f) (by rw[<- l];exact r f)
  exact get_map I.zp O (c.get f) c.hd n m (Oo i)<|h u _ (I.tok _) i
def Cj(I:Inv X b i H s)(e:H a=↑(.ins C j fs))(c:BH X.K C)(k:Meth X.K C m g)(l:fs.lookup m=none)
 (h:Q (.ref g,[.ref a]) s):ii 54 A (nc (.ref a) m n) Q E s:=by
  obtain⟨d,O,r,_,_,_⟩:=CG I.wy e
  have f:d m=none:=Ak.none_of (by rw[<- l];exact r m)
  exact Qe I.zp O (c.get m) k.at_ k.fn f h
def Ld(I:Inv X d t H s)(e:H a=↑(.ins C i fs))(c:BH X.K C)(n:wD X.K C f)(N:fs.length<1000)(v:RelV y u)
 (h:∀k,Inv X d t (upd H a<|.ins C i<|A1 f y fs) k->Q () k):ii 54 A (setAttr (.ref a) f u) Q E s:=by
  obtain⟨l,O,r,m,_,p⟩:=CG I.wy e
  have B:(fs.map (·.1)).length<=hZ:=by rw[h8,jt];lia
  refine Us I.zp O c.sa c.po n.a0n c.hd m B λD j F=>h _ ?_
  have G:∃o,D.get? i=↑o:=e3a2 j.ns λo _ _ J _=> #[o,J]
  refine I.write (x:=a) (e:=i) (by rw[e];exact True.intro) (.inr p) (λb q L z=>(F.2 b L).trans z) G ?_
  refine#[by rw[vB O.ne];exact p,?_,O.ne,j.obj,_,j.ns,λg=>?_,λg M=>?_]
  · have := DY f y fs; lia
  · show Ak ((A1 f y fs).lookup g) (if g = f then some u else l g)
    rw[JE]
    by_cases q:g=f
    · rw[hI q, hI q]; exact v
    · rw[cr q, cr q]; exact r g
  · by_cases q : g = f
    · rw[q]; exact(GK f y fs).1
    · refine(GK f y fs).2 g (m g λz => M ?_)
      show (if g=f then some u else l g)=none
      rw[cr q];exact z
def Inv.made(I:Inv X c g H s):Inv X c g (upd (upd H ⇑s<|.own<|⇑s+1) (⇑s+1)<|.ins C ⇑s [])
  { s with heap:=(s.heap.push kd).push (kY C ⇑s)}:=by
 have d:(s.heap.push kd).get? ⇑s=↑kd:=iq s.heap rfl
 have h:((s.heap.push kd).push<|kY C ⇑s).get? (⇑s+1)=↑(kY C ⇑s):=by
  have:=iq (s.heap.push kd) (o:=kY C ⇑s) rfl
  rwa [jR]at this
 have i:(s.heap.push kd).Ns ⇑s (λ_=>none):=#[kd,#v[],_,d,rfl,(λe j=>iv j q0o),λ_=>rfl];have k:=I.laid (a:=⇑s) (o:=.own<|⇑s+1) (h':=s.heap.push kd) (t':=s.toks) (λb u q=>ci _ q) (hW _) #[_,d];refine k.laid (a:=⇑s+1) (o:=.ins C ⇑s []) (t':=s.toks) (λb u q=>ci _ q) (qT<|jR _ _) ?_;have f:⇑s≠⇑s+1:=iz<|jP _;refine⟨by rw[vB f,vF],js _,f,h,λ_=>none,(tF i).at λo q=>ci _ q,λ_=>True.intro,λy l=>iv rfl l⟩
def Ut(d:i7 e f a (eval e a)=eval e a)
 (h:ii (ik b w) A (eval e a) (λo c=>ii (ik b w) A (getAttr o f true) Q E c) E s):ii (ik b w) A (eval (.Attribute e f pos) a) Q E s :=
  Attribute_any_ h (by rw[arm_eval_Attribute,d])
def Yg(K:hJ)(d:TE)(f:Str):TE:=λe H Q=>d e H λx b=>∃a C g c v,x=.ref a/\b a=↑(.ins C g c)/\BH K C/\wD K C f/\c.lookup f=↑v/\Q v b
def Op(K:hJ)(g h:TE)(f:Str):TS:=λD b H=>h b H λy i=>g b i λx d=>∃a C e c,x=.ref a/\d a=↑(.ins C e c)/\BH K C/\wD K C f/\c.length<1000 /\
 D.nx b (upd d a<|.ins C e<|A1 f y c)
def a0o(X:Cx)(c:Operator)(d:V->V->Hp->VK->Prop):Prop :=
 ∀(a:List (hO×Obj)) (s:h9) (b:St) (H:Hp) (x y:V) (u v:hR) (Q:VK),Inv X a b H s->RelV x u->RelV y v->d x y H Q->ii 54 X.A (inplaceOp c u v) (EP X a b Q) X.xe s
def xB(g:PE X e i)(j:i7 e f X.env (eval e X.env)=eval e X.env):PE X (.Attribute e f pos) (Yg X.K i f):=by intro b s k H Q I h;refine Ut j<|ww (g b s k H _ I h) λu z m=>e2a3 m λx H1 o p d=>e5a6 d λa C A fs v r t c n l q=>?_;subst r;obtain rfl:u=iD a:=p;exact La o t c n l λB D w y=>#[v,H1,w,y,q]
def Du(j:PE X o k)(m:PE X value p)(r:kg value (some<|.Attribute o f d) pos.line X.env=pure false):PS X (.Assign [.Attribute o f d] value pos) (Op X.K k p f):=by intro b s g H D I h;refine rW (ww (m b s g H _ I h) λu t i=>e2a3 i λy H1 v w q=>ww (j b t g H1 _ v q) λz L i=>e2a3 i λx H2 A B e=>e4a6 e λa C M fs E F c n l G=>?_) r;subst E;obtain rfl:z=iD a:=B;exact Ld A F c n l w λN J=>#[g,_,J,G]
inductive zP(K:hJ)(H:Hp):V->hR->Prop where
 | xj:zP K H .xj (.type "NoneType")
 | bl (x:Bool):zP K H (.bl x) (.type "bool")
 | int (i:Int):zP K H (.int i) (.type "int")
 | str (x:Str):zP K H (.str x) (.type "str")
 | Ui (x:UInt64):zP K H (.Ui x) (.type "float")
 | lst {a:hO} {xs:List V} (e:H a=↑(.lst xs)):zP K H (.ref a) (.type "list")
 | KW {a:hO} {o:Obj} {xs:List V} (e:H a=↑(.KW o<|.lst xs)):zP K H (.ref a) (.type "list")
 | tup {a:hO} {xs:List V} (e:H a=↑(.tup xs)):zP K H (.ref a) (.type "tuple")
 | dK {a:hO} {x9:List (Key×V)} (e:H a=↑(.dK x9)):zP K H (.ref a) (.type "dict")
 | dT {a:hO} {x9:List (List Key×V)} (e:H a=↑(.dT x9)):zP K H (.ref a) (.type "dict")
 | ins {a C dx:hO} {fs:List (Str×V)} (e:H a=↑(.ins C dx fs)) (cl:BH K C) (ha:iL K (.ref C) "__class__"=↑(some<|.builtin "object.__class__"))
   (hn:t9 K (.builtin "object.__class__") "__get__"=↑(some<|.builtin "getset_descriptor.__get__")) (htk:ux K (.builtin "object.__class__")=↑true)
   (hm:lh K C (.type "object")=↑true):zP K H (.ref a) (.ref C)
def GL(I:Inv X r R H s)(d:RelV x u)(B:zP X.K H x t)(e:nX X.K t c=↑b)(h:∀D,Q (.bool b) { s with toks:=D}) :
  ii 54 A (call (.builtin "isinstance") [u,c]) Q E s:=by
 cases B with
 |xj=>cases (show u=Value.none from d);exact jY PySem.W.kitx_none I.zp True.intro e 137 h
 |bl y=>cases (show u=rK y from d);exact jY PySem.W.kitx_bool I.zp True.intro e 137 h
 |int i=>obtain⟨t,q⟩:=(show ∃t,u=mo i t from d);cases q;exact jY PySem.W.kitx_int I.zp True.intro e 137 h
 |str y=>obtain⟨t,q⟩:=(show ∃t,u=Value.str y t from d);cases q;exact jY PySem.W.kitx_str I.zp True.intro e 137 h
 |Ui y=>obtain⟨t,q⟩:=(show ∃t,u=tz y t from d);cases q;exact jY PySem.W.kitx_float I.zp True.intro e 137 h
 | @lst a k f =>
  cases (show u=iD a from d);obtain⟨_,_,n,_,g⟩:=(show wJ X.prog X.w H s.heap a (.lst k) from I.wy a _ f);exact jY uc I.zp #[_,g,rfl] e 137 h
 | @KW a F k f =>
  cases (show u=iD a from d);obtain⟨_,_,_,n,_,g⟩:=(show wJ X.prog X.w H s.heap a (.KW F<|.lst k) from I.wy a _ f);exact jY uc I.zp ⟨_,g,rfl⟩ e 137 h
 | @tup a k f =>
  cases (show u=iD a from d);obtain⟨_,_,_,p⟩:=(show wJ X.prog X.w H s.heap a (.tup k) from I.wy a _ f);refine e1a3 p λo g l _=>?_;exact jY PySem.W.kitx_tuple I.zp #[o,g,l] e 137 h
 | @dK a j f =>
  cases (show u=iD a from d);obtain⟨_,_,S,_,p⟩:=(show wJ X.prog X.w H s.heap a (.dK j) from I.wy a _ f);obtain⟨o,G,L,g,l,_⟩:=p;exact jY ud I.zp #[o,g,l.1] e 137 h
 | @dT a j f =>
  cases (show u=iD a from d);obtain⟨_,_,k,_,o,G,L,g,l,_⟩:=(show wJ X.prog X.w H s.heap a (.dT j) from I.wy a _ f);exact jY ud I.zp #[o,g,l.1] e 137 h
 | @ins a C T fs f v M N m P =>
  cases (show u=iD a from d);refine e1a2 (CG I.wy f) λU O _=>?_;refine e1a2 O.look λY J _=>?_;exact jY (PySem.W.kitx_own (v.get _) v.hd M N m P) I.zp J e 137 h
structure wZ(k:Nat)(A:jL):Prop where
 hd:A.handled=none
 dp:A.depth+3*k+5<tG
 un:A.units+16*k+200<kI
def wZ.mono{j k:Nat}(r:wZ k A)(h:j<=k):wZ j A:=#[r.hd,by have:=r.dp;lia,by have:=r.un;lia]
def wZ.deeper{k:Nat}(r:wZ (k+1) A)(a:Env):wZ k (A.deeper a) :=
 #[r.hd,by have:=r.dp;show A.depth+1+3*k+5<_;lia,by have:=r.un;show A.units+3+16*k+200<_;lia]
def Le{A:jL}{C:hO}{a:List hR}{b:List (Str×hR)}:(A.under<|.builtin "type.__call__" #[.ref C::a,b]).depth=A.depth+1:=by
 first|rfl|simp[su,Code.weight,Code.isCreation,Code.isGuard,Code.isCaller,Code.frames,sW,guardIds]
def Lf{A:jL}{C:hO}{a:List hR}{b:List (Str×hR)}:(A.under<|.builtin "type.__call__" #[.ref C::a,b]).units=A.units+1:=by
 first|rfl|simp[su,Code.cUnits,Code.frames,sW]
def wZ.make{k:Nat}(r:wZ (k+1) A)(C:hO)(a:List hR)(b:List (Str×hR)):wZ k (A.under<|.builtin "type.__call__" #[.ref C::a,b]) :=
 #[r.hd,by have:=r.dp;rw[Le];lia,by have:=r.un;rw[Lf];lia]
def wZ.depth{k:Nat}(r:wZ k A):A.depth<tG:=by have:=r.dp;lia
def wZ.units{k:Nat}(r:wZ k A):A.units+64<kI:=by have:=r.un;lia
def Cn:TA:=λ_ H Q=>Q [] H
def B3(b:TE)(c:TA):TA:=λa H Q=>b a H λx d=>c a d λe f=>Q (x::e) f
def vU:PA X [] Cn:=λ_ _ _ _ H Q I h=>lU #[[],H,I,.nil,h]
def vI(g:PE X e i)(j:PA X b t)(k:hV (e::b) X.env=71::hV b X.env:=by rfl):PA X (e::b) (B3 i t):=by intro c a s f H Q I h;rw[k];refine ku<|ww (g a s f H _ I h) λu l d=>e2a3 d λx m n o p=>?_;exact ww (j c a l f m _ n p) λz A d=>e2a3 d λq r v w y=>#[x::q,r,v,.cons o w,y]
def a2F(t:TA):TE:=λc H Q=>t c H λa b=>a.length<=hZ/\∀p,b p=none->Q (.ref p) (upd b p<|.tup a)
def a2G(t:TA):TE:=λc H Q=>t c H λa b=>a.length<=hZ/\∀p,b p=none->Q (.ref p) (upd b p<|.lst a)
def Qg{g}(h:PA X i t):PE X (.Tuple i g pos) (a2F t):=by intro a s j H Q I k;refine wpAny_Tuple_spliced<|ww (h pos a s j H _ I k) λl c m=>e2a4 m λn d f r z q=>#[by rw[<- r.length];exact z,?_];have o:d ⇑c=none:=f.wy.fresh<|hW _;refine⟨.ref ⇑c,upd d ⇑c<|.tup n,f.laid (t':=c.toks) (λb u e=>ci _ e) (hW _) ?_,rfl,q _ o⟩;exact#[z,l,r,#[_,iq _ rfl,rfl,_,rfl]]
def Qh(h:PA X g t):PE X (.List g pos) (a2G t):=by intro a s i H Q I j;refine wpAny_List_spliced<|ww (h pos a s i H _ I j) λk c l=>e2a4 l λm d f r z q=>#[by rw[<- r.length];exact z,?_];have n:d ⇑c=none:=f.wy.fresh<|hW _;refine⟨.ref ⇑c,upd d ⇑c<|.lst m,f.laid (t':=c.toks) (λb u e=>ci _ e) (hW _) ?_,rfl,q _ n⟩;exact#[z,k,0,r,iq _ rfl]
abbrev Sp:=List V->Hp->VK->XK->Prop
abbrev Qi:=List Env->Hp->h9->XK->hR->h9->Prop
structure JF(P:iT)(w:ji)(K:hJ)(mg:Str->Option hR)(base:jd)(A:jL)(outer:List Env)(s:h9)(H:Hp):Prop where
 frames:A.frames=↑outer
 mod:Mod K mg base
 bs:∀b o,base.get? b=↑o->s.heap.get? b=↑o/\H b=none
 Jx:base.objs.size<=⇑s
 zd:s.heap.FunFrames base outer
 KO:∀b∈zM outer,H b=none
 wy:yG P w H s.heap
 bare:n8 s.gens
def CE(a:List Env)(P:iT)(w:ji)(H:Hp)(s:h9)(Q:VK)(u:hR)(b:h9):Prop :=
 ∃v c,b.os=s.os/\n8 b.gens/\Un (zM a) [] H c s.heap b.heap/\yG P w c b.heap/\RelV v u/\Q v c
def CR(c:Qi)(a:List Env)(P:iT)(w:ji)(H:Hp)(s:h9)(Q:VK)(E:XK)(r:Result)(b:h9):Prop :=
 match r with
 | .ok (.ret u)=>CE a P w H s Q u b
 | .ok _=>False
 | .error e=>c a H s E e b
structure wn(P:iT)(w:ji)(K:hJ)(mg:Str->Option hR)(base:jd)(CX:Qi)(k:Nat)(f:hO)(fd:iY)(ps:List Str)(sp:Sp):Prop where
 len:∀vs H Q E,sp vs H Q E->vs.length=ps.length
 run:∀(A:jL)(outer:List Env)(s:h9)(H:Hp)(args:Args)(us:List hR)(vs:List V)(Q:VK)(E:XK),wZ k A->JF P w K mg base A outer s H->sX s fd args (ps.zip us)->Vals vs us->sp vs H Q E ->
  mI (ik P w) A (.call (.ref f) args) (CR CX outer P w H s Q E) s
def wn.mono{P:iT}{w:ji}{K:hJ}{c:Str->Option hR}{a:jd}{d:Qi}{j k:Nat}{f:hO}{e:iY}{g:List Str}{i:Sp}(F:wn P w K c a d j f e g i)(h:j<=k) :
  wn P w K c a d k f e g i:=#[F.len,λA b s H args l m Q E n=>F.run A b s H args l m Q E<|n.mono h]
def wn.imp{P:iT}{w:ji}{K:hJ}{e:Str->Option hR}{a:jd}{g:Qi}{k:Nat}{f:hO}{i:iY}{j:List Str}{l d:Sp}(F:wn P w K e a g k f i j l)
  (h:∀c H Q E,d c H Q E->l c H Q E):wn P w K e a g k f i j d :=
 #[λc H Q E q=>F.len c H Q E<|h _ _ _ _ q,λA b s H args m c Q E n o p r t=>F.run A b s H args m c Q E n o p r<|h _ _ _ _ t]
def JF.make{P:iT}{w:ji}{K:hJ}{c:Str->Option hR}{b:jd}{A:jL}{a:List Env}{s:h9}{H:Hp}(e:JF P w K c b A a s H)(C:hO)(d:List hR)(f:List (Str×hR)) :
  JF P w K c b (A.under<|.builtin "type.__call__" #[.ref C::d,f]) a s H:=#[by first|exact e.frames|(simpa[su,Code.envs,sW,pushEnvs] using e.frames),e.mod,e.bs,e.Jx,e.zd,e.KO,e.wy,e.bare]
def Inv.Hw(I:Inv X a b H s):JF X.prog X.w X.K X.mg X.base X.A X.stack s H :=
 #[I.ok.frames,I.ok.mod,I.bs,i9 I.ok.Jx I.sz,I.stack,I.MX,I.wy,I.bare]
def Inv.after(I:Inv X a j H s)(h:CE X.stack X.prog X.w H s Q u i):EP X a j Q u i:=by obtain⟨v,k,l,c,m,e,r,q⟩:=h;obtain⟨n,g,d,t,f⟩:=i;obtain rfl:f=s.os:=l;exact#[v,k,I.call (h':=n) (g':=g) (d':=d) (t':=t) (ch:=[]) m e c<|λb z=>iv z q0o,r,q]
def a0p(b:Sp)(a:List V)(E:XK)(t:TA):TE:=λc H Q=>t c H λd e=>b (d++a) e Q E
def GN(C:hO)(m:Str)(f:Sp)(b:List V)(E:XK)(g:TE)(t:TA):TE:=λc H Q=>g c H λx d=>∃a h e,x=.ref a/\d a=↑(.ins C h e)/\e.lookup m=none /\
 t c d λi j=>f (x::(i++b)) j Q E
def a0q(C:hO)(d:Sp)(b:List V)(E:XK)(t:TA):TE:=λe H Q=>t e H λf c=>∀x a,c x=none->c a=none->a≠x ->
 d (.ref x::(f++b)) (upd (upd c a<|.own x) x<|.ins C a []) (λv g=>v=.xj/\Q (.ref x) g) E
def Binds(K:hJ)(d:iY)(b:List Str)(c:List hR):Prop :=
 ∀(s:h9)(a:List hR),K.In s.heap->(a++c).length=b.length->sX s d #[a,[]] (b.zip<|a++c)
def Binds.all{K:hJ}{b:List Str}(h:∀a:List hR,a.length=b.length->tH d #[a,[]]=pure (b.zip a)):Binds K d b []:=λs a _ c=>by rw[lR]at c ⊢;exact .of_eq<|h a c
def Passes(c:Qi)(X:Cx)(E:XK):Prop:=∀(a:List (hO×Obj)) (d:St) (H:Hp) (s:h9) (e:hR) (b:h9),Inv X a d H s->c X.stack H s E e b->X.xe e b
def Lg(F:wn X.prog X.w X.K X.mg X.base l k f m g n)(o:wZ k X.A)(p:Binds X.K m g d)(q:Vals b d)(t:Passes l X E)
 (I:Inv X a i H s)(r:Vals vs us)(h:n (vs++b) H Q E):ii 54 X.A (call (.ref f) us) (EP X a i Q) X.xe s:=by
  have j:Vals (vs++b) (us++d):=r.append q
  have v:(us++d).length=g.length:=by rw[<- j.length];exact F.len _ _ _ _ h
  refine m8<|ko (F.run X.A X.stack s H ⟨us,[]⟩ (us++d) (vs++b) Q E o I.Hw (p s us I.zp v) j h) λr x c=>?_
  cases r with
  |error e=>exact t a i H s e x I c
  |ok y =>
    cases y with
    |ret u=>exact I.after c
    |next=>exact iV c
    |brk=>exact iV c
    |cont=>exact iV c
def Uu(F:wn X.prog X.w X.K X.mg X.base j k f l m n)(o:wZ k X.A)(u:Gl X x)(v:X.mg x=↑(.ref f))(y:jA X.K (.ref f)=true)(z:Binds X.K l m B)(C:Vals c B)(D:Passes j X E)
 (G:PA X (e::b) t) (d:(x==66)=false:=by decide) (J:hV (e::b) X.env=71::hV b X.env:=by rfl) (g:(jz pos<|hV b X.env).any (·.1)=false:=by rfl) :
    PE X (.Call (.Name x p) (e::b) [] pos) (a0p n c E t):=by
  intro a s L H Q I h
  refine lj<|ze I u v ?_ d
  refine qd (h₀:=X.base) I.ok.mod.Cc y (ww (G pos a s L H _ I h) λN O M=>e2a3 M λP R i r q=>#[i.zp,?_]) J g
  exact Lg F o z C D i r q
def Uv{v:Sem Bool}(J:PE X o L)(c:BH X.K C)(y:Meth X.K C m f)(F:wn X.prog X.w X.K X.mg X.base M k f N O P)(R:wZ k X.A)(S:Binds X.K N O T)(hd:Vals i T)(U:Passes M X E)(Y:PA X (e::d) t)
  (j:hV (e::d) X.env=71::hV d X.env:=by rfl) (n:(jz pos<|hV d X.env).any (·.1)=false:=by rfl)
  (ht:eval 144 X.env=(do
   let z <- eval o X.env
   nE apos.atName
   let (f,first) <- lw [z] (nc z m v)
   oa pos f first (jz pos (hV (e::d) X.env)) (nI pos (lx [] X.env))):=by rfl) :
  PE X 144 (GN C m P i E L t):=by
 intro b s B H Q I h;refine o9 (pl:=v) (ww (J b s B H _ I h) λu Z p=>e2a3 p λx H1 D rx g=>e3a4 g λa dx fs ex ea l q=>?_) ht;subst ex;obtain rfl:u=iD a:=rx;refine Cj D ea c y l ?_;refine qd (first:=[.ref a]) (h₀:=X.base) I.ok.mod.Cc y.kp (ww (Y pos b Z B H1 _ D q) λus s2 p=>e2a3 p λvs H2 G r q2=>#[G.zp,?_]) j n
 exact Lg (us:=.ref a::us) (vs:=.ref a::vs) F R S hd U G (.cons rfl r) q2
def Qj(n:PE X o p)(c:BH X.K C)(i:Meth X.K C m f)(F:wn X.prog X.w X.K X.mg X.base r k f t v y)(z:wZ k X.A)(B:Binds X.K t v D)(hd:Vals e D)(G:Passes r X E)
 (ht:eval (.Call (.Attribute o m apos) [] [] pos) X.env=(do
 let j <- eval o X.env
 nE apos.atName
 let (f,first) <- lw [j] (nc j m J)
 oa pos f first (jz pos (hV [] X.env)) (nI pos (lx [] X.env))):=by rfl) :
    PE X (.Call (.Attribute o m apos) [] [] pos) (GN C m y e E p Cn):=by
  intro b s L H Q I h
  refine o9 (pl:=J) (ww (n b s L H _ I h) λu R M=>e2a3 M λx H1 g N d=>e3a4 d λa S fs O P l q=>?_) ht
  subst O
  obtain rfl:u=iD a:=N
  refine Cj g P c i l ?_
  exact sY (first:=[.ref a]) g.zp i.kp<|Lg (us:=[.ref a]) (vs:=[.ref a]) F z B hd G g (.cons rfl .nil) q
structure Mk(K:hJ)(C f:hO):Prop where
 makes:qS K C=true
 init:iL K (.ref C) "__init__"=↑(some<|.ref f)
 fn:oW K (.ref f)=true
 kp:jA K (.ref C)=true
def Qk(M:Mk X.K C f)(F:wn X.prog X.w X.K X.mg X.base p k f q j t)(y:wZ (k+1) X.A)(z:Binds X.K q j d)(B:Vals c d)
 (D:Passes p X E) (I:Inv X b l H s) (r:Vals m us)
 (h:∀x g,H x=none->H g=none->g≠x->t (.ref x::(m++c)) (upd (upd H g<|.own x) x<|.ins C g []) (λv G=>v=.xj/\Q (.ref x) G) E) :
    ii 54 X.A (call (.ref C) us) (EP X b l Q) X.xe s:=by
  have n:=h (⇑s+1) ⇑s (I.wy.fresh<|mr _) (I.wy.fresh<|hW _)<|iz<|jP _
  have i:=Inv.made (C:=C) I
  have o:Vals (V.ref (⇑s+1)::(m++c)) (iD (⇑s+1)::(us++d)):=.cons rfl<|r.append B
  have J:(iD (⇑s+1)::us++d).length=j.length:=by
    have e:=o.length
    rw[F.len _ _ _ _ n]at e
    exact e.symm
  refine m8 (Qf (f:=f) I.zp M.makes M.init (beq_iff_eq.mp M.fn) (ko (F.run _ X.stack _ _ #[iD (⇑s+1)::us,[]] (iD (⇑s+1)::(us++d)) _ _ E (y.make C us [])
    (i.Hw.make C us []) (z _ (iD (⇑s+1)::us) i.zp J) o n) λr L a=>?_))
  cases r with
  |error e=>exact D b l _ _ e L i a
  |ok N =>
    cases N with
    |ret u =>
      refine e2a4 (i.after a) λv O P R S T=>?_
      subst S
      exact#[R,#[V.ref<|⇑s+1,O,P,rfl,T]]
    |next=>exact iV a
    |brk=>exact iV a
    |cont=>exact iV a
def Ql(M:Mk X.K C f)(F:wn X.prog X.w X.K X.mg X.base d k f e g i)(j:wZ (k+1) X.A)(l:Gl X x)(m:X.mg x=↑(.ref C))(n:Binds X.K e g o)(q:Vals a o)(r:Passes d X E)
 (b:(x==66)=false:=by decide):PE X (.Call (.Name x p) [] [] pos) (a0q C i a E Cn):=by
  intro c s t H Q I h
  refine lj<|ze I l m ?_ b
  exact sY I.zp M.kp<|Qk (us:=[]) M F j n q r I .nil h
def PK(X:Cx)(b:List qe)(t:TA):Prop :=
 ∀(c:Pos) (a:List (hO×Obj)) (s:h9) (d:St) (H:Hp) (Q:List V->Hp->Prop),Inv X a d H s->t d H Q->ii 54 X.A (evalAll ((nI c<|lx b X.env).map (·.2))) (AP X a d Q) X.xe s
structure vJ(N P:List Str)(sc:mi):Prop where
 kind:sc.kind=.function
 co:sc.isCoroutine=false
 gen:sc.isGenerator=false
 nd:N.Nodup
 pre:N.take P.length=P
 par:∀x∈P,sc.names.lookup x=some .local\/sc.names.lookup x=some .cell
 Yh:∀y∈sc.names,y.2≠.free
def GO{b:Str->Option NameKind}:∀{a:List (Str×hR)} {m:Str->Option hR},(∀v,(x,v)∉a)->bindL b a m x=m x
 | [],_,_=>rfl
 | (n,v)::r,m,h=>by
  unfold bindL;rw[GO λw c=>h w<|ij _ c];split
  ·have:x≠n:=by rintro rfl;exact h v ic
   simp[this]
  ·rfl
def GP{b:Str->Option NameKind}:∀{a:List (Str×hR)} {m:Str->Option hR},(∀v,(x,v)∉a)->bindC b a m x=m x
 | [],_,_=>rfl
 | (n,v)::r,m,h=>by
  unfold bindC;rw[GP λw c=>h w<|ij _ c];split
  ·rfl
  ·have:x≠n:=by rintro rfl;exact h v ic
   simp[this]
def Oq{a:Str->Option NameKind}:∀{P:List Str} {b:List hR} {i:Nat} {m:Str->Option hR},P.Nodup->P[i]?=↑x->b[i]?=↑v->a x=some .local ->
  bindL a (P.zip b) m x=↑v:=by
 intro P
 induction P with
 |nil=>intro _ _ _ _ h;simp at h
 |cons p P g =>
  intro b i m e d c f
  cases b with
  |nil=>simp at c
  |cons w b =>
  cases i with
  |zero =>
   simp at d c;subst d;subst c;show bindL a ((p,w)::P.zip b) m p=_;unfold bindL;rw[GO λv j=>(List.nodup_cons.mp e).1 (pC j).1,hI f];simp
  |succ i =>
   exact g (i:=i) (List.nodup_cons.mp e).2 (by simpa using d) (by simpa using c) f
def Ot{a:Str->Option NameKind}:∀{P:List Str} {b:List hR} {i:Nat} {m:Str->Option hR},P.Nodup->P[i]?=↑x->b[i]?=↑v->a x≠some .local ->
  bindC a (P.zip b) m x=↑v:=by
 intro P
 induction P with
 |nil=>intro _ _ _ _ h;simp at h
 |cons p P g =>
  intro b i m e d c f
  cases b with
  |nil=>simp at c
  |cons w b =>
  cases i with
  |zero =>
   simp at d c;subst d;subst c;show bindC a ((p,w)::P.zip b) m p=_;unfold bindC;rw[GP λv j=>(List.nodup_cons.mp e).1 (pC j).1,cr f];simp
  |succ i =>
   exact g (i:=i) (List.nodup_cons.mp e).2 (by simpa using d) (by simpa using c) f
noncomputable def start(N:List Str)(a:List V):St:=a.map some++lE (N.length-a.length) none
noncomputable def wC(CX:Qi)(P:iT)(w:ji)(K:hJ)(mg:Str->Option hR)(base:jd)(N:List Str)(qual:Str)(scope:mi)(f:hO)(cd:hR)(A:jL)(outer:List Env)(s:h9)(H:Hp)(E:XK):Cx where
 prog:=P
 w:=w
 K:=K
 mg:=mg
 base:=base
 A:=A.deeper<|o7 qual scope ⇑s f cd
 N:=N
 s₀:=s
 H₀:=H
 env:=o7 qual scope ⇑s f cd
 outer:=outer
 stack:=o7 qual scope ⇑s f cd::outer
 ex:=[]
 calm:=true
 fn:=λ_=>true
 pn:=[]
 xe:=λe s'=>ii (ik P w) (A.deeper<|o7 qual scope ⇑s f cd) (uR (o7 qual scope ⇑s f cd) e) (λ_ Uw=>CX outer H s E e Uw) (λe' Uw=>CX outer H s E e' Uw) s'
def JG{a:mi}{n:Nat}(h:a.names.lookup x=some .cell):∃c,(cellsFrom n a.names []).lookup x=↑c:=by have q:=sh a.names n []<|.inl h;exact Option.isSome_iff_exists.mp q
def Ou{K:hJ}{A:jL}{o:List V}
 (S:vJ N C d) (R:A.handled=none) (m:JF P w K L base A j s H) (hl:o.length=C.length) (r:Vals o M)
 (x:InCallC s ⇑s (bindL (o7 l d ⇑s f J).kindOf (C.zip M) λ_=>none) (cellsFrom (⇑s+1) d.names []) (bindC (o7 l d ⇑s f J).kindOf (C.zip M) λ_=>none) T) :
    Inv (wC U P w K L base N l d f J A j s H E) [] (start N o) H T:=by
  have X:C.length<=N.length:=by have:=congrArg oJ S.pre;rw[mw]at this;lia
  obtain⟨G,tk,rfl,O⟩:=x.done
  have t:∀b:hO,b∉(wC U P w K L base N l d f J A j s H E).ex:=λb z=>iv (show b∈([]:List hO) from z) q0o
  refine#[#[m.mod,S.kind,rfl,rfl,hW _,λy z c G g=>?_,λy B=>?_,λy c _ h=>?_,λ_=>R,sZ m.frames,.inr #[rfl,rfl],λb z=>iv z (t b),m.bs,m.Jx,λb _ _=>t b,λb z=>iv z (t b),m.zd,m.KO],
    rfl,m.bare,Un.kept O,#[_,x.toInCall.ns,λi y v G g h3=>?_],λy c h=>#[_,x.cell y c h],m.wy.fresh (hW _),λy c h=>?_,λp D=>iv (show p∈([]:List (hO×Obj)) from D) q0o,m.wy.kept O,?_]
  · exact name_of_addr x.apart (kJ G)<|kJ g
  · have B : d.names.lookup y = some .cell \/ d.names.lookup y = some .free := B
    rcases B with B|B
    · exact JG B
    · exact iv rfl<|S.Yh _<|kJ B
  · exact my<|x.above y c<|kJ h
  · have I : i<o.length := by
      unfold start at g
      by_cases I:i<o.length
      · exact I
      · rw[ki<|by simpa using I]at g
        rw[sP]at g
        split at g<;>cases g
    have Y:o[i]?=↑v:=by
      unfold start at g
      rw[mz (by simpa using I),jU]at g
      cases e:o[i]? with
      |none=>rw[e]at g;cases g
      |some a=>rw[e]at g;cases g;rfl
    refine e1a2 (r.get Y) λu Q Z=>?_
    have D:C[i]?=↑y:=by
      rw[<- S.pre,sv q0a];exact G
    have F:C.Nodup:=by rw[<- S.pre];exact S.nd.sublist<|uS _ _
    refine#[u,Z,?_]
    rcases S.par y (j7 D) with k|k
    · exact .inl #[k, Oq F D Q k]
    · obtain⟨c, e⟩ := JG (n := ⇑s+1) k
      refine .inr #[.inl k,c,e,?_]
      have q:=x.cell y c e
      rw[Ot F D Q<|by show d.names.lookup y≠_;rw[k];decide]at q
      exact q
  · exact m.wy.fresh<|my<|x.above y c<|kJ h
  · unfold start
    show _=N.length
    rw[iw,h8,tJ]
    lia
def JH{K:hJ}{k:Nat}{Z:hR} 
 (lk:K.lookup f=some #[oc,od,.func<|jS name d h body a dV Z G pm an g ct,aa]) (L:jM K g d=true) (S:vJ N M a)
 (B:∀i H Q E,sp i H Q E->i.length=M.length)
 (m:∀(A:jL)(c:List Env)(s:h9)(H:Hp)(i:List V)(Q:VK)(E:XK),wZ k (A.deeper (o7 d a ⇑s f g))->sp i H Q E ->
 ∃t,ES (wC O P w K R base N d a f g A c s H E) body t/\t { nx:=λ_ l=>Q .xj l,rt:=Q} (start N i) H) :
    wn P w K R base O (k+1) f (jS name d h body a dV Z G pm an g ct) M sp:=by
  refine#[B,λA c s H args us i Q E T C hb r D=>?_]
  have hl:=B _ _ _ _ D
  have KX:K.In s.heap:=C.mod.Cc.keeps λb o e=>(C.bs b o e).1
  have U:s.heap.NoLimit:=C.mod.nolimit.keeps λb o e=>(C.bs b o e).1
  have p:∀y∈M.zip us,a.names.lookup y.1=some .local\/(a.names.lookup y.1=some .cell/\((cellsFrom (⇑s+1) a.names []).lookup y.1).isSome=true):=λ⟨n,v⟩ hy=>by
    rcases S.par n (pC hy).1 with q|q
    · exact .inl q
    · exact .inr #[q, sh _ _ _<|.inl q]
  refine codeAny_call_function T.depth (KX _ _ lk) rfl S.co S.gen rfl (tK KX L)<|hb _ _ _ _ ?_
  refine wpAny_newFunctionEnv_cells S.kind p λab he s1 x=>?_
  subst he
  refine#[U.keeps x.toInCall.keep,codeAny_func ?_]
  refine e1a2 (m A c s H i Q E (T.deeper _) D) λt ht hq=>?_
  have I:Inv (wC O P w K R base N d a f g A c s H E) [] (start N i) H s1:=Ou S T.hd C hl r x
  refine jb (ht [] s1 (start N i) H _ I hq) (λfl X z=>?_) λe X z=>z
  have F:∀{j:St} {l:Hp} {v:V} {u:hR},Inv (wC O P w K R base N d a f g A c s H E) [] j l X->RelV v u->Q v l->CE c P w H s Q u X :=
    λ{j l v u} J Y q=>#[v,l,J.os,J.bare,J.base,J.wy,Y,q]
  cases fl with
  |ret u =>
    obtain⟨v,j,l,J,Y,q⟩:=z
    exact F J Y q
  |next =>
    refine e2a2 z λj l J q=>?_
    exact F (v:=V.xj) (u:=Value.none) J rfl q
  |brk =>
    refine e2a2 z λ_ _ _ q=>?_
    exact iV q
  |cont =>
    refine e2a2 z λ_ _ _ q=>?_
    exact iV q
section
variable{X:Cx}{x:Str}{p pos:Pos}{e:i8}{es:List i8}{t:TA}{id T:String}{r:List V->Hp->VK->Prop}
def tCB(r:List V->Hp->VK->Prop)(t:TA):TE:=λa H Q=>t a H λb c=>r b c Q
def xk(d:zq X (.builtin id) r)(f:Gl X x)(g:X.mg x=none)(i:nC x=↑(.builtin id))(j:PA X (e::es) t)(k:x≠"__name__":=by decide)(b:(x==66)=false:=by decide)
 (he:hV (e::es) X.env=71::hV es X.env:=by rfl) (hpl:(jz pos<|hV es X.env).any (·.1)=false:=by rfl):PE X (.Call (.Name x p) (e::es) [] pos) (tCB r t):=by
  intro a s c H Q I h
  refine lj<|Am I f g i ?_ k b
  exact pY (ww (j pos a s c H _ I h) λl m n=>e2a3 n λo q u v w=>d a m c q o l Q u v w) he hpl
def yk(f:zq X (.type T) r)(g:Gl X x)(i:X.mg x=none)(j:nC x=↑(.type T))(k:PA X (e::es) t)(l:x≠"__name__":=by decide)(b:(x==66)=false:=by decide)
 (he:hV (e::es) X.env=71::hV es X.env:=by rfl) (c:(jz pos<|hV es X.env).any (·.1)=false:=by rfl):PE X (.Call (.Name x p) (e::es) [] pos) (tCB r t):=by
  intro a s d H Q I h
  refine lj<|Am I g i j ?_ l b
  exact kA (ww (k pos a s d H _ I h) λm n o=>e2a3 o λq u v w y=>f a n d u q m Q v w y) he c
def Lh(c:zq X (.type T) r)(d:Gl X x)(f:X.mg x=none)(g:nC x=↑(.type T))(i:x≠"__name__":=by decide)(b:(x==66)=false:=by decide) :
  PE X (.Call (.Name x p) [] [] pos) (tCB r Cn):=by
 intro a s j H Q I h;refine lj<|Am I d f g ?_ i b;exact PyProof.Rows.callWith_type0<|c a s j H [] [] Q I .nil h
end
end L2
namespace HT
open PySem PyProof.Rows
noncomputable def xL(n d:Nat):Option Int->Nat
 |none=>d
 |some v=>if v<0 then (v+(n:Int)).toNat else min v.toNat n
def JI(n d:Nat):xL n d none=d:=rfl
def M7(n d k:Nat):xL n d ↑(k:Int)=min k n:=by show (if (k:Int)<0 then ((k:Int)+(n:Int)).toNat else min (k:Int).toNat n)=min k n;rw[cr q0a,md]
def a2I(n d:Nat)(b:d<=n)(o:Option Int):xL n d o<=n:=by
 cases o with
 |none=>exact b
 |some v =>
  show (if v<0 then (v+(n:Int)).toNat else min v.toNat n)<=n;by_cases a:v<0
  ·rw[hI a];lia
  ·rw[cr a];exact Nat.min_le_right _ _
def M8(v:Int)(n d:Nat):(if v<0 then max (v+(n:Int)) 0 else min v (n:Int))=((xL n d ↑v:Nat):Int):=by
 show (if v<0 then max (v+(n:Int)) 0 else min v (n:Int))=(((if v<0 then (v+(n:Int)).toNat else min v.toNat n):Nat):Int);by_cases a:v<0
 ·simp only[hI a];lia
 ·simp only[cr a];lia
def Li(lo a:Option Int)(n:Nat):qz lo a 1 (n:Int)=(((xL n 0 lo:Nat):Int),((xL n n a:Nat):Int)):=by
 refine Prod.ext ?_ ?_
 ·cases lo with
  |none=>rfl
  |some v=>exact M8 v n 0
 ·cases a with
  |none=>rfl
  |some v=>exact M8 v n n
def Lj(i j:Nat):lS (i:Int) (j:Int) 1=j-i:=by unfold lS;split<;>lia
def E4(p:qC v o)(h:Q o s):ii (ik a w) A (Builtin.Slice.slicePartIndex v) Q E s:=by
 cases p with
 |none=>exact slicePart_none h
 |int i t=>exact slicePart_int h
def zY{lo:Option Int}{n:Nat}(g:s.heap.IsSliceOf sl d e .none)(i:qC d lo)(j:qC e c)
 (h:Q (((xL n 0 lo:Nat):Int),1,xL n n c-xL n 0 lo) s):ii (ik f w) A (Builtin.Slice.sliceApplied (.ref sl)<|pure (n:Int)) Q E s:=by
  refine e1a3 (id g) λos a k b=>?_
  refine am<|am<|ju a b (x:=d) rfl<|am<|ju a b (x:=e) rfl<|am<|ju a b (x:=.none) rfl<|ap ?_
  refine am<|slicePart_none ?_
  rw[cr q0q]
  refine am<|E4 i<|am<|E4 j<|am<|ap ?_
  show ii _ _ (match qz lo c 1 (n:Int) with|(lo,c)=>pure (lo,(1:Int),lS lo c 1)) _ _ s
  rw[Li lo c n]
  show ii _ _ (pure (((xL n 0 lo:Nat):Int),(1:Int),lS ((xL n 0 lo:Nat):Int) ((xL n n c:Nat):Int) 1)) _ _ s
  rw[Lj]
  exact ap h
def Qm(a:Array hR)(i k:Nat):((iG k).filterMap λ(m:Nat)=>a[((i:Int)+(m:Int)*1).toNat]?).toArray=((a.toList.drop i).take k).toArray:=by
 have e:(λ(m:Nat)=>a[((i:Int)+(m:Int)*1).toNat]?)=λm=>a[i+m]?:=by
  funext m
  have:((i:Int)+(m:Int)*1).toNat=i+m:=by lia
  rw[this]
 rw[e];have:=pick_run a i k;rw[uy]at this;have b:((λx=>a[x]?)∘λx=>i+x)=λm=>a[i+m]?:=rfl;rw[b]at this;rw[this]
def CH{t sl:hO}{items:Array hR}{vl vu:hR}{lo hi:Option Int}{Q:hR->h9->Prop}(ht:IsTup s.heap t items)(hs:s.heap.IsSliceOf sl vl vu .none)(pl:qC vl lo)(pu:qC vu hi)
  (hw:¬(xL items.size 0 lo=0/\xL items.size items.size hi=items.size))
  (h:Q (.ref ⇑s) { s with heap:=s.heap.push { cls:=.type "tuple",data:=.seq (101).toArray}})
  (hsz:items.size<=hZ):ii (ik prog w) A (oH (.ref t)<|.ref sl) Q E s:=by
 have M9:sizeOk (.seq (101).toArray):=by show (101).toArray.size<=hZ;rw[iu,mw,nw,ig];omega
 refine e1a3 (id hs) λos hos hcs hds=>?_;have hTs:s.TypeIs (.ref sl) "slice":=#[os,hos,hcs];unfold oH
 try with_reducible refine iX ?_
 first|refine am (ap ?_)|skip
 refine am<|wpAny_sequenceKey ht.typeIs q0q ?_
 refine am (wpAny_callSpecial?_slot (name:=mB "__getitem__") ht.typeIs kW
  (jl kW ht.typeIs entry_tuple_getitem ?_ (args_tuple_getitem _ _)))
 show ii _ _ (qv (.ref t) >>= _) _ _ s;refine am<|tupleItemsOf_ ht ?_;refine am<|lA hTs ?_;rw[hI q0q];refine am<|zY hs pl pu ?_
 have hno:¬((((xL items.size 0 lo:Nat):Int)==0&&(1:Int)==1&&(xL items.size items.size hi-xL items.size 0 lo)==items.size)=true):=by intro q;rw[jc,jc]at q;have q1:((xL items.size 0 lo:Nat):Int)=0:=eq_of_beq q.1.1;have q2:xL items.size items.size hi-xL items.size 0 lo=items.size:=eq_of_beq q.2;exact hw #[q0d,q0d]
 show ii _ _ (if (((xL items.size 0 lo:Nat):Int)==0&&(1:Int)==1&&(xL items.size items.size hi-xL items.size 0 lo)==items.size)=true then _ else _) _ _ s;rw[cr hno,Qm]
 first
  | exact am (m:=lY _)<|je (ap #[_,rfl,ap h]) M9
  | exact am (m:=lY _)<|je (am<|ap<|ap #[_,rfl,ap h]) M9
  | exact am<|am (m:=lY _)<|je (ap<|ap #[_,rfl,ap h]) M9
  | exact am<|am (m:=lY _)<|je (ap #[_,rfl,ap h]) M9
end HT
namespace L2
open PySem PySem.Spec PyProof.Rows
abbrev TO:=St->Hp->(Option Int->Hp->Prop)->Prop
def PO(X:Cx)(e:Option i8)(t:TO):Prop :=
 ∀(a:List (hO×Obj)) (s:h9) (b:St) (H:Hp) (Q:Option Int->Hp->Prop),Inv X a b H s->t b H Q ->
  ii 54 X.A (evalPart e X.env) (λu d=>∃o c,Inv X a b c d/\qC u o/\Q o c) X.xe s
def Ux:TO:=λ_ H Q=>Q none H
def a0r(t:TE):TO:=λa H Q=>t a H λx b=>∃i,x=.int i/\Q ↑i b
def intsAre_of{a:List Int}:∀{b:List hR},Vals (a.map V.int) b->lM b a:=by
 induction a with
 |nil=>intro b r;rw[qK]at r;cases r;exact .nil
 |cons n a c =>
  intro b r;rw[iN]at r
  cases r with
  |cons d f =>
   obtain⟨t,e⟩:=d;subst e;exact .cons n t<|c f
section
variable{X:Cx}{e:i8}{te:TE}{lo hi:Option i8}{tl th:TO}{pos p2:Pos}
def Er:PO X none Ux:=by intro a s b H Q I h;rw[ul];exact ap #[none,H,I,.none,h]
def Es(h:PE X e te):PO X ↑e (a0r te):=by intro a s b H Q I c;rw[evalPart_some];refine ww (h a s b H _ I c) λu l d=>e2a3 d λx f g j k=>?_;obtain⟨i,rfl,q⟩:=k;obtain⟨t,rfl⟩:=j;exact#[↑i,f,g,.int i t,q]
def W0(X:Cx)(r:V->Option Int->Option Int->Hp->VK->Prop):Prop :=
 ∀(a:List (hO×Obj)) (s:h9) (b:St) (H:Hp) (x:V) (v c d:hR) (lo hi:Option Int) (f:hO) (Q:VK),Inv X a b H s->RelV x v->s.heap.IsSliceOf f c d .none->qC c lo->qC d hi->r x lo hi H Q ->
  ∃T g,nY (.type T) "__getitem__"=pure (some<|.builtin g)/\s.TypeIs v T/\ii 54 X.A (oH v<|.ref f) (EP X a b Q) X.xe s
def W0.or(h:W0 X r)(l:W0 X m):W0 X (λx lo hi H Q=>r x lo hi H Q\/m x lo hi H Q):=by
 intro a s b H x v c d lo hi f Q I g i j k q;rcases q with q|q
 ·exact h a s b H x v c d lo hi f Q I g i j k q
 ·exact l a s b H x v c d lo hi f Q I g i j k q
def tSl(r:V->Option Int->Option Int->Hp->VK->Prop)(te:TE)(tl th:TO):TE:=λa H Q=>te a H λx b=>tl a b λl c=>th a c λu d=>r x l u d Q
def A4(k:W0 X r)(m:PE X e te)(n:PO X lo tl)(o:PO X hi th):PE X (.Subscript e (.Slice lo hi none p2) pos) (tSl r te tl th):=by intro a s d H Q I h;refine tL<|ww (m a s d H _ I h) λv p f=>e2a3 f λx t w y z=>?_;refine wpAny_Slice<|ww (n a p d t _ w z) λg A f=>e2a3 f λl B C D E=>ww (o a A d B _ C E) λi c f=>e2a3 f λu j F G J=>?_;rw[ul];refine ap ?_;have L:Inv X a d j { c with heap:=c.heap.push { cls:=.type "slice",data:=.fields #v[g,i,.none]}}:=F.kept (t':=c.toks) λb P q=>ci _ q;obtain⟨T,R,M,N,O⟩:=k a { c with heap:=c.heap.push { cls:=.type "slice",data:=.fields #v[g,i,.none]}} d j x v g i l u ⇑c Q L y (rE ..) D G J;exact tail_any (ops:=[.ref ⇑c,v]) N M O (by with_unfolding_all rfl)
noncomputable def E5(a:List V)(lo hi:Option Int):List V:=(a.drop<|HT.xL a.length 0 lo).take<|HT.xL a.length a.length hi-HT.xL a.length 0 lo
def DZ(a:List V)(lo hi:Option Int):(E5 a lo hi).length<=a.length:=by unfold E5;rw[mw,nw];omega
def a2J(K:hJ):V->Option Int->Option Int->Hp->VK->Prop:=λx lo hi H Q=>∃a b,x=.ref a/\zX K H a b /\
 ¬(HT.xL b.length 0 lo=0/\HT.xL b.length b.length hi=b.length)/\∀p,H p=none->Q (.ref p) (upd H p<|.tup<|E5 b lo hi)
def Yi:W0 X (a2J X.K):=by
 intro g s u H x v w y lo hi z Q I k l m n h;obtain⟨a,d,rfl,p,t,q⟩:=h;cases k;refine e1a3 (I.tuple p) λf r i j=>?_;have c:f.toArray.size=d.length:=by rw[iu];exact r.length.symm
 refine#["tuple",_,PyProof.Rows.slot_tuple_getitem.lookup,i.typeIs,?_];refine HT.CH i l m n (by rw[c];exact t) ?_ (by rw[c];exact j);rw[c];refine#[.ref ⇑s,_,I.laid (t':=s.toks) (o:=.tup<|E5 d lo hi) (λb A q=>ci _ q) (hW _) ?_,rfl,q _<|I.wy.fresh<|hW _];exact#[i9 (DZ d lo hi) j,_,(r.drop<|HT.xL d.length 0 lo).take<|HT.xL d.length d.length hi-HT.xL d.length 0 lo,IsTup.new _ _]
end
noncomputable def Qn(n:Nat)(i:Int):Option Nat:=if 0<=i then (if i<n then some i.toNat else none) else if -(n:Int)<=i then some (i+n).toNat else none
noncomputable def Gi{a:Type}(b:List a)(i:Int):Option a:=(Qn b.length i).bind λj=>b[j]?
def Na{n:Nat}{i:Int}{j:Nat}(h:Qn n i=↑j):seqIndex? i n=↑j/\j<n/\-(n:Int)<=i/\i<n:=by
 unfold Qn at h;by_cases b:0<=i
 ·rw[hI b]at h;by_cases a:i<n
  ·rw[hI a]at h;have e:i.toNat=j:=jp h;exact#[by rw[seqIndex_of b a,e],q0a,q0a,a]
  ·rw[cr a]at h;cases h
 ·rw[cr b]at h;by_cases a:-(n:Int)<=i
  ·rw[hI a]at h;have e:(i+n).toNat=j:=jp h;exact#[by rw[uT q0a a,e],q0a,a,q0a]
  ·rw[cr a]at h;cases h
def Nb{α:Type}{xs:List α}{i:Int}{v:α}(h:Gi xs i=↑v):∃j,seqIndex? i xs.length=↑j/\xs[j]?=↑v/\j<xs.length/\-(xs.length:Int)<=i/\i<xs.length:=by
 unfold Gi at h
 cases e:Qn xs.length i with
 |none=>rw[e]at h;cases h
 |some j =>
  rw[e]at h;obtain⟨h1,h2,h3,h4⟩:=Na e;exact#[j,h1,h,h2,h3,h4]
def Nc{α:Type}{xs:List α}{j:Nat}{v:α}(h:xs[j]?=↑v):Gi xs (j:Int)=↑v:=by
 have hj:j<xs.length:=(List.getElem?_eq_some_iff.mp h).1
 have e:Qn xs.length (j:Int)=↑j:=by unfold Qn;rw[hI q0a,hI q0a];simp
 unfold Gi;rw[e];exact h
def Nd(b:i8):Prop:=∀o i,sw b false o i=operate [o,i] (oH o i)
def IxR(X:Cx)(r:R2):Prop :=
 ∀(c a:i8) (b:List (hO×Obj)) (s:h9) (d:St) (H:Hp) (x y:V) (v u:hR) (Q:VK),Inv X b d H s->RelV x v->RelV y u->r x y H Q ->
  sw a false v u=operate [v,u] (oH v u)->ii 54 X.A (subscriptTail c a v u) (EP X b d Q) X.xe s
def MtR(X:Cx)(e:String)(r:V->List V->Hp->VK->Prop):Prop :=
 ∀(a:List (hO×Obj)) (s:h9) (b:St) (H:Hp) (x:V) (c:List V) (v:hR) (d:List hR) (Q:VK),Inv X a b H s->RelV x v->Vals c d->r x c H Q ->
  ii 54 X.A (call (.builtin e) (v::d)) (EP X a b Q) X.xe s
section
variable{X:Cx}
def zb(d:IxR X r)(e:PE X a f)(g:PE X b i)(j:Nd b):PE X (.Subscript a b pos) (ZU r f i):=by intro c s k H Q I h;exact tL<|Yb e g I h λv u l x y m n o p q=>d a b c l k m x y v u Q n o p q<|j _ _
def a2L(K:hJ):R2:=λx y H Q=>∃p a i v,x=.ref p/\y=.int i/\wR K H p a/\Gi a i=↑v/\Q v H
def a2M(K:hJ):R2:=λx y H Q=>∃p a i v,x=.ref p/\y=.int i/\zX K H p a/\Gi a i=↑v/\Q v H
def xu:IxR X (a2L X.K):=by
 intro value slice a s g H x y v u Q I n o h k;obtain⟨p,J,i,z,rfl,rfl,A,B,q⟩:=h;cases n;obtain⟨t,rfl⟩:=o;refine e1a3 (I.list A) λc r d L=>?_;obtain⟨j,b,C,M,D,E⟩:=Nb B;refine e1a2 (r.get C) λw l e=>?_;have F:=r.length;have N:=EZ;have fin:EP X a g Q w s:=#[z,H,I,e,q];by_cases m:0<=i
 ·have f:i.toNat=j:=by rw[seqIndex_of m E]at b;exact jp b
  exact item_listR d.isList m q0a (by rw[f];simpa using l) fin k
 ·have f:(i+(c.toArray.size:Int)).toNat=j:=by rw[uT q0a D]at b;rw[iu,<- F];exact jp b
  exact uU (x:=w) d.isList.typeIs slot_list_getitem.lookup
   (wpAny_getItem_list_neg (Q:=λr G=>r=w/\EP X a g Q r G) d.isList q0a (by rw[iu]<;>lia) q0a (by rw[f];simpa using l) #[rfl,fin]) k
def Qo:IxR X (a2M X.K):=by
 intro value slice a s c H x y v u Q I e f h g;obtain⟨p,D,i,z,rfl,rfl,k,l,q⟩:=h;cases e;obtain⟨t,rfl⟩:=f;refine e1a3 (I.tuple k) λm r d E=>?_;obtain⟨j,n,o,F,G,J⟩:=Nb l;refine e1a2 (r.get o) λw A b=>?_;have B:=r.length;have L:=EZ;have fin:EP X a c Q w s:=#[z,H,I,b,q]
 exact uU (x:=w) d.typeIs slot_tuple_getitem.lookup
  (getItem_tuple (j:=j) (Q:=λr C=>r=w/\EP X a c Q r C) d q0a q0a (by rw[iu,<- B];exact n) (by simpa using A) #[rfl,fin]) g
def Lk(a:List hR)(n j:Nat)(u:hR):Obj.mapSeq (·.setIfInBounds j u) 112={ cls:=.type "list",data:=.seq (a.set j u).toArray n}:=by simp[Obj.mapSeq]
def Inv.lst(I:Inv X b d H s)(h:H p=↑(.lst c)) :
  ∃(a:List hR)(n:Nat),Vals c a/\s.heap.get? p=some 112/\c.length<=hZ:=by
 obtain⟨z,a,n,r,e⟩:=I.wy p _ h;exact#[a,n,r,e,z]
def Inv.Yj{c a:List hR}{n g:Nat}(I:Inv X d k H s)(h:H p=↑(.lst v))
 (l:s.heap.get? p=some { cls:=.type "list",data:=.seq c.toArray n}) (i:f { cls:=.type "list",data:=.seq c.toArray n}={ cls:=.type "list",data:=.seq a.toArray g}) (r:Vals j a) (m:j.length<=hZ) (t:Nat) :
    Inv X d k (upd H p<|.lst j) { s with heap:=s.heap.update p f,toks:=t}:=by
  have e:(s.heap.update p f).get? p=some { cls:=.type "list",data:=.seq a.toArray g}:=by
    rw[jj f l (by rw[i]<;>rfl),i]
  refine I.write (x:=p) (e:=p) (by rw[h];trivial) (.inl rfl) (λb u o q=>(iZ _ _<|Ne.symm o).trans q) #[_,e] ?_
  exact#[m,a,g,r,e]
def W2:V->V->V->Hp->(Hp->Prop)->Prop:=λo i v H Q=>∃p a k j,o=.ref p/\i=.int k/\H p=↑(.lst a)/\Qn a.length k=↑j/\Q (upd H p<|.lst<|a.set j v)
def set_list:X4 X W2:=by
 intro a s y H o i v F G u Q I z A B h;obtain⟨p,C,k,j,rfl,rfl,g,D,q⟩:=h;cases z;obtain⟨t,rfl⟩:=A;obtain⟨b,n,r,d,E⟩:=I.lst g;obtain⟨c,J,l,m⟩:=Na D;have e:=r.length;have L:=EZ
 have w:Inv X a y (upd H p<|.lst<|C.set j v) { s with heap:=s.heap.update p (Obj.mapSeq (·.setIfInBounds j u))} :=
  I.Yj g d (Lk b n j u) (r.set B j) (by rw[lm];exact E) s.toks
 by_cases x:0<=k
 ·have f:k.toNat=j:=by rw[seqIndex_of x m]at c;exact jp c
  exact PySem.W.ki_setAt d x q0a (by rw[iu,<- e];exact m) (by rw[f];exact#[_,w,q])
 ·have f:(k+(b.toArray.size:Int)).toNat=j:=by rw[uT q0a l]at c;rw[iu,<- e];exact jp c
  exact PySem.W.ki_setBack d q0a (by rw[iu,<- e];exact l) q0a (by rw[f];exact#[_,w,q])
def Hx(a b:Option Int)(n:Nat):(og a b none n).1=((HT.xL n 0 a:Nat):Int)/\(og a b none n).2.1=((HT.xL n n b:Nat):Int)/\(og a b none n).2.2=1:=by
 refine#[?_,?_,rfl]
 ·cases a with
  |none=>simp[og,HT.xL]
  |some i =>
   simp only[og,HT.xL,qL,show (1:Int)>0 by decide,if_true];by_cases h:i<0
   ·simp only[h,if_true]<;>lia
   ·simp only[h,pP]<;>lia
 ·cases b with
  |none=>simp[og,HT.xL]
  |some i =>
   simp only[og,HT.xL,qL,show (1:Int)>0 by decide,if_true];by_cases h:i<0
   ·simp only[h,if_true]<;>lia
   ·simp only[h,pP]<;>lia
def Gj(a:List hR)(b c:Option Int):slicePick a.toArray b c none=((a.drop<|HT.xL a.length 0 b).take<|HT.xL a.length a.length c-HT.xL a.length 0 b).toArray:=by refine e0a3 (Hx b c a.toArray.size) λd e f=>?_;unfold slicePick;rw[d,e,f];simp only[sliceRange_one,pick_run,iu]<;>rfl
def a2N(K:hJ):V->Option Int->Option Int->Hp->VK->Prop:=λx c d H Q=>∃a b,x=.ref a/\wR K H a b/\∀p,H p=none->Q (.ref p) (upd H p<|.lst<|E5 b c d)
def Et:W0 X (a2N X.K):=by intro g s u H x v w y e f z Q I j k l m h;obtain⟨a,c,rfl,n,q⟩:=h;cases j;refine e1a3 (I.list n) λp r i t=>?_;have d:=r.length;refine#["list",_,slot_list_getitem.lookup,i.isList.typeIs,?_];refine um i.isList k l m .none q0o ?_ (by rw[iu]<;>lia);rw[Gj,<- d];refine#[.ref ⇑s,_,I.laid (t':=s.toks) (o:=.lst<|E5 c e f) (λb A q=>ci _ q) (hW _) ?_,rfl,q _<|I.wy.fresh<|hW _];exact#[i9 (DZ c e f) t,_,0,(r.drop<|HT.xL c.length 0 e).take<|HT.xL c.length c.length f-HT.xL c.length 0 e,iq _ rfl]
noncomputable def CI:V->Bool
 | .xj=>true
 | .bl _=>true
 | .int _=>true
 | .str _=>true
 |_=>false
noncomputable def PR:V->V->Bool
 | .xj,.xj=>true
 | .bl a,.bl b=>a==b
 | .bl a,.int b=>(if a then 1 else 0)==b
 | .int a,.bl b=>a==(if b then 1 else 0)
 | .int a,.int b=>a==b
 | .str a,.str b=>a==b
 |_,_=>false
def Yk(e:RelV y u)(c:RelV x v)(g:CI y=true)(f:CI x=true):SeqAt.EqAt A s u v (PR y x):=by
 cases y with
 |xj =>
  cases e
  cases x with
  |xj=>cases c;exact SeqAt.EqAt.same _
  |bl b=>cases c;exact SeqAt.EqAt.none_bool b
  |int b=>obtain⟨t,rfl⟩:=c;exact SeqAt.EqAt.none_int b t
  |str b=>obtain⟨t,rfl⟩:=c;exact SeqAt.EqAt.none_str b t
  |_=>exact iv (show false=true from f) im
 |bl a =>
  cases e
  cases x with
  |xj=>cases c;exact SeqAt.EqAt.bool_none a
  |bl b=>cases c;exact SeqAt.EqAt.bool_bool a b
  |int b=>obtain⟨t,rfl⟩:=c;exact SeqAt.EqAt.bool_int a b t
  |str b=>obtain⟨t,rfl⟩:=c;exact SeqAt.EqAt.bool_str a b t
  |_=>exact iv (show false=true from f) im
 |int a =>
  obtain⟨d,rfl⟩:=e
  cases x with
  |xj=>cases c;exact SeqAt.EqAt.int_none a d
  |bl b=>cases c;exact SeqAt.EqAt.int_bool a d b
  |int b=>obtain⟨t,rfl⟩:=c;exact SeqAt.EqAt.int_int a d b t
  |str b=>obtain⟨t,rfl⟩:=c;exact sk a d b t
  |_=>exact iv (show false=true from f) im
 |str a =>
  obtain⟨d,rfl⟩:=e
  cases x with
  |xj=>cases c;exact SeqAt.EqAt.str_none a d
  |bl b=>cases c;exact SeqAt.EqAt.str_bool a d b
  |int b=>obtain⟨t,rfl⟩:=c;exact sr a d b t
  |str b=>obtain⟨t,rfl⟩:=c;exact SeqAt.EqAt.str_str a d b t
  |_=>exact iv (show false=true from f) im
 |_=>exact iv (show false=true from g) im
noncomputable def Ll(x:V)(u:hR):Bool:=match u with
 | .none=>PR .xj x
 | .bool b=>PR (.bl b) x
 | .int i _=>PR (.int i) x
 | .str z _=>PR (.str z) x
 |_=>false
def Qp(r:RelV y u)(f:CI y=true):Ll x u=PR y x:=by
 cases y with
 |xj=>cases r;rfl
 |bl b=>cases r;rfl
 |int i=>obtain⟨t,rfl⟩:=r;rfl
 |str z=>obtain⟨t,rfl⟩:=r;rfl
 |_=>exact iv (show false=true from f) im
def Eu:∀{a:List V} {b:List hR},Vals a b->a.all CI=true->b.any (Ll x)=a.any λy=>PR y x:=by
 intro _ _ z f
 induction z with
 |nil=>rfl
 |cons h t c =>
  rw[qw,jc]at f;rw[oR,oR,Qp h f.1,c f.2]
def A5(d:RelV x v)(e:CI x=true):∀{b:List V} {c:List hR},Vals b c->b.all CI=true->∀u∈c,SeqAt.EqAt A s u v (Ll x u)
 |_,_,.nil,_=>λu a=>by cases a
 |y::b,u::c,.cons r t,f=>λg a=>by
  rw[qw,jc]at f;rcases List.mem_cons.mp a with rfl|a
  ·rw[Qp r f.1];exact Yk r d f.1 e
  ·exact A5 d e t f.2 g a
noncomputable def ZV(x:V)(a:List V):Bool:=a.any λy=>PR y x
def rIn(K:hJ)(b:Bool):R2:=λx y H Q=>∃p a,y=.ref p/\(wR K H p a\/zX K H p a)/\CI x=true/\a.all CI=true/\Q (.bl<|if b then !ZV x a else ZV x a) H
def GQ:AZ X (jH .In) (rIn X.K false):=by
 intro f s l H x y v u Q I g j h;obtain⟨p,m,rfl,b,i,c,q⟩:=h;cases j;rcases b with b|b
 ·refine e1a3 (I.list b) λa r d k=>?_;refine SeqAt.in_listAt (Ll x) d.isList 159 #[.bl _,H,I,rfl,?_];rw[show a.toArray.any (Ll x)=a.any (Ll x) by simp,Eu r c];exact q
 ·refine e1a3 (I.tuple b) λa r d k=>?_;refine SeqAt.in_tupleAt (Ll x) d 159 #[.bl _,H,I,rfl,?_];rw[show a.toArray.any (Ll x)=a.any (Ll x) by simp,Eu r c];exact q
def Ap:AZ X (jH .NotIn) (rIn X.K true):=by
 intro f s l H x y v u Q I g j h;obtain⟨p,m,rfl,b,i,c,q⟩:=h;cases j;rcases b with b|b
 ·refine e1a3 (I.list b) λa r d k=>?_;refine SeqAt.notIn_listAt (Ll x) d.isList 159 #[.bl _,H,I,rfl,?_];rw[show a.toArray.any (Ll x)=a.any (Ll x) by simp,Eu r c];exact q
 ·refine e1a3 (I.tuple b) λa r d k=>?_;refine SeqAt.notIn_tupleAt (Ll x) d 159 #[.bl _,H,I,rfl,?_];rw[show a.toArray.any (Ll x)=a.any (Ll x) by simp,Eu r c];exact q
def yb:zq X (.builtin "len") (λg H Q=>∃p b,g=[.ref p]/\(wR X.K H p b\/zX X.K H p b)/\Q (.int b.length) H):=by
 intro i s l H g m Q I r h;obtain⟨p,b,rfl,c,q⟩:=h;obtain⟨u,rfl,j⟩:=vals1 r;cases j;have n:=EZ;rcases c with c|c
 ·refine e1a3 (I.list c) λd e f k=>?_;have a:=e.length;exact Calls.call_len_list f.isList (by simp only[iu]<;>lia) #[.int b.length,H,I.tok _,#[s.toks+1,by rw[iu,a]],q]
 ·refine e1a3 (I.tuple c) λd e f k=>?_;have a:=e.length;exact len_tuple f (by simp only[iu]<;>lia) #[.int b.length,H,I.tok _,#[s.toks+1,by rw[iu,a]],q]
def zf:zq X (.type "list") (λB H Q=>∃p d,B=[.ref p]/\(wR X.K H p d\/zX X.K H p d)/\∀l,H l=none->Q (.ref l) (upd H l<|.lst d)):=by
 intro i s D H B F Q I r h;obtain⟨p,d,rfl,j,q⟩:=h;obtain⟨u,rfl,E⟩:=vals1 r;cases E
 have k:∀(a:List hR),Vals d a->d.length<=hZ->∀(c:jd)(f:Nat),(∀b C,s.heap.get? b=↑C->c.get? b=↑C) ->
   c.get? ⇑s=some { cls:=.type "list",dict:=none,data:=.seq a.toArray f,slots:=#v[]}->EP X i D Q (.ref ⇑s) { s with heap:=c}:=λa g m c f t e =>
  #[.ref ⇑s,_,I.laid (t':=s.toks) t (hW _)<|show wJ X.prog X.w _ c _ (.lst d) from#[m,a,f,g,e],rfl,q _<|I.wy.fresh<|hW _]
 rcases j with j|j
 ·refine e1a3 (I.list j) λa g x m=>?_;have v:=g.length;obtain⟨o,y,z,n,A⟩:=x.isList;exact call_list_seq p (.inl rfl) y z A (λc f t e=>k a g m c f t e) (by simp only[iu]<;>lia)
 ·refine e1a3 (I.tuple j) λa g x m=>?_;have v:=g.length;obtain⟨o,y,z,n,A⟩:=x;exact call_list_seq p (.inr rfl) y z A (λc f t e=>k a g m c f t e) (by simp only[iu]<;>lia)
def Gk:zq X (.type "tuple") (λk H Q=>∃p d,k=[.ref p]/\((wR X.K H p d/\∀l,H l=none->Q (.ref l) (upd H l<|.tup d))\/(zX X.K H p d/\Q (.ref p) H))):=by
 intro a s m H k A Q I r h;obtain⟨p,d,rfl,h⟩:=h;obtain⟨u,rfl,x⟩:=vals1 r;cases x;rcases h with⟨g,q⟩|⟨g,q⟩
 ·refine e1a3 (I.list g) λc i j n=>?_;have t:=i.length;refine call_tuple_list j.isList (λf y=>?_) (by simp only[iu]<;>lia);have v:Inv X a m H { s with heap:=f}:=I.kept (t':=s.toks) y
  have z:Inv X a m (upd H f.objs.size<|.tup d) { s with heap:=f.push { cls:=.type "tuple",data:=.seq c.toArray}} :=
   v.laid (t':=s.toks) (λb o e=>ci _ e) (hW _) (show wJ X.prog X.w _ _ _ (.tup d) from#[n,c,i,IsTup.new _ _])
  exact#[.ref f.objs.size,_,z,rfl,q _<|v.wy.fresh<|hW _]
 ·refine e1a3 (I.tuple g) λc i j n=>?_;exact call_tuple_same j #[.ref p,H,I,rfl,q]
def tyV(K:hJ)(T:String)(x:V)(H:Hp):Prop:=match x with
 | .str _=>T="str"
 | .int _=>T="int"
 | .ref p=>(T="list"/\∃xs,wR K H p xs)\/(T="tuple"/\∃o,K.lookup p=↑o/\o.cls=.type "tuple"/\o.dict=none) \/
   (T="dict"/\((∃x9,H p=↑(.dK x9))\/∃x9,H p=↑(.dT x9)))\/(T="set"/\∃S n,H p=↑(.set S n))
 |_=>False
def Qq(I:Inv X k y H s)(r:RelV x v)(f:tyV X.K T x H) :
  s.TypeIs v T/\∀a,v=.ref a->∃l,s.heap.get? a=↑l/\l.dict=none:=by
 cases x with
 |str z =>
  obtain⟨t,rfl⟩:=r;cases (show T="str" from f);exact#[typeIs_str s z t,λ_ e=>nomatch e]
 |int i =>
  obtain⟨t,rfl⟩:=r;cases (show T="int" from f);exact#[typeIs_int s i t,λ_ e=>nomatch e]
 |ref p =>
  cases r;rcases f with⟨rfl,A,q⟩|⟨rfl,o,b,u,g⟩|⟨rfl,b⟩|⟨rfl,S,n,b⟩
  ·refine e1a3 (I.list q) λw _ m _=>?_;refine#[m.isList.typeIs,λa e=>?_];cases e;refine e2a4 m λo n e c g _=>?_;exact#[o,e,g]
  ·refine#[#[o,I.zp p o b,u],λa e=>?_];cases e;exact#[o,I.zp _ o b,g]
  ·have z:∃o,s.heap.get? p=↑o/\o.ExactDict:=by
    rcases b with⟨h,b⟩|⟨h,b⟩
    ·obtain⟨_,_,_,_,o,_,_,e,d,_⟩:=I.wy p _ b;exact#[o,e,d]
    ·obtain⟨_,_,_,_,o,_,_,e,d,_⟩:=I.wy p _ b;exact#[o,e,d]
   refine e1a2 z λo e d=>?_;refine#[#[o,e,d.1],λa j=>?_];cases j;exact#[o,e,d.2.1]
  ·obtain⟨o,_,_,_,e,d,_⟩:=I.wy p _ b;refine#[#[o,e,d.1],λa j=>?_];cases j;exact#[o,e,d.2.1]
 |_=>exact iV f
def a0s(K:hJ)(T:String)(r:V->List V->Hp->VK->Prop)(b:TE):TE:=λc H Q=>b c H λx a=>tyV K T x a/\r x [] a Q
def tBM(K:hJ)(T:String)(r:V->List V->Hp->VK->Prop)(c:TE)(t:TA):TE:=λa H Q=>c a H λx b=>tyV K T x b/\t a b λd e=>r x d e Q
variable{o e:i8}{es:List i8}{to:TE}{t:TA}{name:Str}{apos cpos:Pos}{T id:String}{r:V->List V->Hp->VK->Prop}
def Yl(k:PlainAttrs T)(d:Slot T name id)(f:uV (.builtin id)=pure (.type "method_descriptor"))(l:MtR X id r)(m:PE X o to)
 (b:i7 o name X.env (eval o X.env)=eval o X.env:=by rfl)(c:(apos.endLine==cpos.line)=true:=by rfl):PE X (.Call (.Attribute o name apos) [] [] cpos) (a0s X.K T r to):=by
  intro a s g H Q I h
  refine wpAny_Call_method0_late b c<|ww (m a s g H _ I h) λv n p=>e2a4 p λx q i j u w=>?_
  obtain⟨y,z⟩:=Qq i j u
  exact#[T,id,k,d,f,y,z,kM rfl<|PySem.evalArgs_none<|l a n g q x [] v [] Q i j .nil w]
def W3(p:PlainAttrs T)(f:Slot T name id)(i:uV (.builtin id)=pure (.type "method_descriptor"))(q:MtR X id r)(u:PE X o to)(w:PA X (e::es) t)
 (c:i7 o name X.env (eval o X.env)=eval o X.env:=by rfl)
 (g:((jz cpos (hV (e::es) X.env)).all (λx=>!x.1)&&(nI cpos (lx [] X.env)).all (λx=>x.1.isSome)
&&decide ((e::es).length+([]:List qe).length+160<30))=true:=by rfl)
 (d:(apos.endLine==cpos.line)=true:=by rfl) (y:hV (e::es) X.env=71::hV es X.env:=by rfl) (b:(jz cpos<|hV es X.env).any (·.1)=false:=by rfl) :
    PE X (.Call (.Attribute o name apos) (e::es) [] cpos) (tBM X.K T r to t):=by
  intro a s j H Q I h
  refine uW c g d rfl<|ww (u a s j H _ I h) λv z k=>e2a4 k λx A l m B C=>?_
  obtain⟨D,E⟩:=Qq l m B
  refine#[T,id,p,f,i,D,E,?_]
  have n:=w cpos a z j A _ l C
  rw[y]at n ⊢
  refine kM (by show (false||(jz cpos<|hV es X.env).any (·.1))=false;rw[b]<;>rfl)<|jI ?_
  exact ww n λF G k=>e2a3 k λJ L M N O=>q a G j L x J v F Q M m N O
end
def ZW(X:Cx)(e:String)(r:V->List V->Hp->VK->Prop):Prop :=
 ∀(a:List (hO×Obj)) (s:h9) (b:St) (H:Hp) (x:V) (c:List V) (v:hR) (d:List hR) (Q:VK),Inv X a b H s->RelV x v->Vals c d->r x c H Q ->
  ii 54 X.A (call (.builtin e) (v::d)) (EP X a b Q) X.xe s
def Vals.one:∀{x:V} {a:List hR},Vals [x] a->∃u,a=[u]/\RelV x u:=by intro _ _ z;cases z with|cons h t=>cases t;exact#[_,rfl,h]
def Vals.zero:∀{a:List hR},Vals [] a->a=[]
 |_,.nil=>rfl
def Vals.dropLast(h:Vals a b):Vals a.dropLast b.dropLast:=by
 induction h with
 |nil=>exact .nil
 |cons r t c =>
  cases t with
  |nil=>exact .nil
  |cons q d=>exact .cons r c
def Vals.eraseIdx:∀{a:List V} {b:List hR} (i:Nat),Vals a b->Vals (a.eraseIdx i) (b.eraseIdx i)
 |_,_,_,.nil=>.nil
 |_,_,0,.cons _ t=>t
 |_,_,i+1,.cons r t=>.cons r<|Vals.eraseIdx i t
def Vals.reverse(h:Vals a b):Vals a.reverse b.reverse:=by
 induction h with
 |nil=>exact .nil
 |cons r t c=>rw[oK,oK];exact Vals.append c<|.cons r .nil
def Lm(l:List d):l.eraseIdx (l.length-1)=l.dropLast:=by
 induction l with
 |nil=>rfl
 |cons a r c =>
  cases r with
  |nil=>rfl
  |cons b r =>
   have e:(a::b::r).length-1=((b::r).length-1)+1:=by
    have f:(a::b::r).length=r.length+2:=rfl;have g:(b::r).length=r.length+1:=rfl
    lia
   rw[e,oZ,c]
   all_goals rfl
def GR:∀(l:List a)(i:Nat),(l.eraseIdx i).length<=l.length
 | [],_=>hW _
 |_::_,0=>mr _
 |_::r,i+1=>Nat.succ_le_succ<|GR r i
def Inv.Ym{a its':List hR}{n:Nat}{d:Nat}(I:Inv X b g H s)(h:H l=↑(.lst p))
 (e:s.heap.get? l=some 112) (i:f a.toArray=its'.toArray) (j:Vals c its') (k:c.length<=hZ) :
    Inv X b g (upd H l<|.lst c) { s with heap:=s.heap.update l<|Obj.mapSeq f,toks:=d}:=by
  have q:=PySem.IsL.update e f
  rw[i]at q
  refine I.write (x:=l) (e:=l) (by rw[h];exact trivial) (.inl rfl) (λr u m o=>(iZ s.heap (Obj.mapSeq f)<|Ne.symm m).trans o) #[_,q] ?_
  exact#[k,its',_,j,q]
def Inv.a2P{t':Nat}(I:Inv X a d H s)(e:Vals c b)(f:c.length<=hZ) :
  Inv X a d (upd H ⇑s<|.lst c) { s with heap:=s.heap.push { cls:=.type "list",data:=.seq b.toArray},toks:=t'} :=
 I.laid (λ_ _ q=>ci _ q) (hW _) #[f,b,0,e,iq _ rfl]
def Inv.fresh(I:Inv X a b H s):H ⇑s=none:=I.wy.fresh<|hW _
def Inv.Qr(I:Inv X c f H s)(d:H l=↑(.lst b)):b.length<=hZ/\∃(a:List hR)(n:Nat),Vals b a/\b.length=a.length/\s.heap.get? l=some 112:=by obtain⟨z,a,n,r,e⟩:=I.wy l _ d;exact#[z,a,n,r,r.length,e]
def Hy:V->List V->Hp->VK->Prop:=λx b H Q=>∃l a y,x=.ref l/\b=[y]/\H l=↑(.lst a)/\a.length<hZ/\Q .xj (upd H l<|.lst<|a++[y])
def Ov:ZW X "list.append" Hy:=by
 intro b s i H x j v k Q I d f h;obtain⟨l,m,y,rfl,rfl,c,o,q⟩:=h;cases d;obtain⟨u,rfl,g⟩:=f.one;obtain⟨z,a,n,r,p,e⟩:=I.Qr c;refine call_meets F.slot_list_append #[_,e,rfl] F.entry_list_append (F.args_list_append_2 _ _) (PySem.list_append l a.toArray n u<|by rw[iu];lia) #[e,?_];refine#[.xj,_,I.Ym (its':=a++[u]) c e q0o (r.append<|.cons g .nil) ?_,rfl,q];rw[iw,iI]
 lia
def a0t:V->List V->Hp->VK->Prop:=λx b H Q=>∃l a y,x=.ref l/\b=[]/\H l=↑(.lst a)/\a[a.length-1]?=↑y/\Q y (upd H l<|.lst a.dropLast)
def Yn:ZW X "list.pop" a0t:=by
 intro d s p H x t v w Q I g i h;obtain⟨l,A,y,rfl,rfl,f,j,q⟩:=h;cases g;have b:=i.zero;subst b;obtain⟨z,a,n,r,k,e⟩:=I.Qr f;refine e1a2 (r.get j) λu m o=>?_
 have c:a.toArray[a.toArray.size-1]?=↑u:=by show a.toArray[a.length-1]?=↑u;rw[<- ja,<- k];exact m
 refine call_meets sI #[_,e,rfl] F.entry_list_pop (F.args_list_pop_1 _) (MeetsSeq.list_pop_last l a.toArray n u c<|by rw[iu];omega) #[e,?_];refine#[y,_,I.Ym (its':=a.dropLast) f e ?_ r.dropLast ?_,o,q]
 ·show a.toArray.eraseIdxIfInBounds (a.toArray.size-1)=a.dropLast.toArray;rw[iu,qU,Lm]
 ·rw[List.length_dropLast];omega
def Qs:V->List V->Hp->VK->Prop:=λx b H Q=>∃l a i k y,x=.ref l/\b=[.int i]/\H l=↑(.lst a)/\-(2 ^ 63)<=i/\i<2 ^ 63/\seqIndex? i a.length=↑k/\a[k]?=↑y/\Q y (upd H l<|.lst<|a.eraseIdx k)
def Qt:ZW X "list.pop" Qs:=by
 intro c s E H x G v J Q I f g h;obtain⟨l,j,i,k,y,rfl,rfl,d,m,o,p,A,q⟩:=h;cases f;obtain⟨u,rfl,B⟩:=g.one;obtain⟨t,rfl⟩:=B;obtain⟨z,a,n,r,C,e⟩:=I.Qr d;refine e1a2 (r.get A) λw D b=>?_
 refine call_meets sI #[_,e,rfl] F.entry_list_pop (F.args_list_pop_2 _ _)
  (MeetsSeq.list_pop_at l a.toArray n i t k w (fitsIndex_both m o) (by rw[iu,<- C];exact p) (by rw[<- ja];exact D)<|by rw[iu];lia) #[e,?_]
 refine#[y,_,I.Ym (its':=a.eraseIdx k) d e ?_ (r.eraseIdx k) ?_,b,q]
 ·show a.toArray.eraseIdxIfInBounds k=(a.eraseIdx k).toArray;rw[qU]
 ·have:=GR j k
  lia
def a2Q:R2:=λx y H Q=>∃l b a c,x=.ref l/\y=.ref b/\H l=↑(.lst a)/\H b=↑(.lst c)/\a.length+c.length<=hZ/\∀p,H p=none->Q (.ref p) (upd H p<|.lst<|a++c)
def Yo:AZ X (mV .Add) a2Q:=by
 intro d s t H x y v u Q I f g h;obtain⟨l,b,w,A,rfl,rfl,i,j,B,q⟩:=h;cases f;cases g;obtain⟨z,c,n,r,C,e⟩:=I.Qr i;obtain⟨D,a,E,k,m,o⟩:=I.Qr j;refine PySem.P.add_list e o ?_ (by rw[iu,iu];lia);have p:c.toArray++a.toArray=(c++a).toArray:=by simp
 rw[p];exact#[.ref _,_,I.a2P (t':=s.toks) (r.append k) (by rw[iw];lia),rfl,q _ I.fresh]
section
variable{κ:Type}[DecidableEq κ]
noncomputable def zg(x9:List (κ×V))(k:κ):Option V:=(x9.find? λkv=>decide<|kv.1=k).map (·.2)
noncomputable def putK(x9:List (κ×V))(k:κ)(v:V):List (κ×V) :=
 if (x9.any λkv=>decide<|kv.1=k)=true then x9.map (λkv=>if kv.1=k then (kv.1,v) else kv) else x9++[(k,v)]
noncomputable def A6(a:List (κ×V))(k:κ):List (κ×V):=a.filter λb=>decide<|b.1≠k
def zZ{p:κ×V}{r:List (κ×V)}(e:p.1=k):zg (p::r) k=↑p.2:=by simp[zg,jk,e]
def z8{p:κ×V}{r:List (κ×V)}(e:¬p.1=k):zg (p::r) k=zg r k:=by simp[zg,jk,e]
def A7(k:κ):∀a:List (κ×V),(a.any λb=>decide<|b.1=k)=(zg a k).isSome
 | []=>rfl
 |p::r=>by
  rw[oR];by_cases e:p.1=k
  ·simp only[zZ e,decide_eq_true e,Bool.true_or,Option.isSome_some]
  ·rw[z8 e,io e,sx];exact A7 k r
def A8(a:List (κ×V))(k:κ)(v:V):(putK a k v).length<=a.length+1:=by
 unfold putK;split
 ·rw[h8];lia
 ·rw[iw,iH,nS];lia
def Qu{a:List (κ×V)}(v:V)(h:zg a k=none):putK a k v=a++[(k,v)]:=by unfold putK;rw[A7,h];exact cr q0q
def Ak.zl(r:Ak o u):o.isSome=u.isSome:=by
 cases o with
 |none=>cases u with
  |none=>rfl
  |some _=>exact(show False from r).elim
 |some _=>cases u with
  |none=>exact(show False from r).elim
  |some _=>rfl
def Ak.getD(r:Ak o u)(a:RelV d b):RelV (o.getD d) (u.getD b):=by
 cases o with
 |none=>cases u with
  |none=>exact a
  |some _=>exact(show False from r).elim
 |some _=>cases u with
  |none=>exact(show False from r).elim
  |some _=>exact r
def KV.val(r:KV a g)(k:κ):Ak (zg a k) (qM g k):=by
 induction r with
 |nil=>exact True.intro
 | @cons p q l c h t i =>
  obtain⟨f,j⟩:=h;by_cases e:p.1=k
  ·have d:q.1=k:=f.symm.trans e;have b:qM (q::c) k=↑q.2:=by simp[qM,jk,d]
   rw[zZ e,b];exact j
  ·have d:¬q.1=k:=λz=>e<|f.trans z;have b:qM (q::c) k=qM c k:=by simp[qM,jk,d]
   rw[z8 e,b];exact i
def KV.any(r:KV a c)(k:κ):(a.any λb=>decide<|b.1=k)=c.any λb=>decide (b.1=k):=by
 induction r with
 |nil=>rfl
 |cons h t d=>rw[oR,oR,d,h.1]
def KV.Yp(r:KV c d)(k:κ)(f:RelV y u) :
  KV (c.map λa=>if a.1=k then (a.1,y) else a) (d.map λa=>if a.1=k then (a.1,u) else a):=by
 induction r with
 |nil=>exact .nil
 | @cons p q j l h t g =>
  rw[iN,iN];refine .cons ?_ g;obtain⟨b,i⟩:=h;by_cases e:p.1=k
  ·rw[hI e,hI<|b.symm.trans e];exact#[b,f]
  ·rw[cr e,cr<|λz=>e<|b.trans z];exact#[b,i]
def KV.put(r:KV a b)(k:κ)(c:RelV y u):KV (putK a k y) (stored b k u):=by
 unfold putK stored;rw[r.any k];by_cases e:(b.any λd=>decide<|d.1=k)=true
 ·rw[hI e,hI e];exact r.Yp k c
 ·rw[cr e,cr e];exact Paired.snoc r #[rfl,c]
def KV.drop(r:KV c g)(k:κ):KV (A6 c k) (without g k):=by
 unfold A6 without
 induction r with
 |nil=>exact .nil
 | @cons p q l m h t f =>
  obtain⟨d,i⟩:=h;rw[jN,jN];by_cases e:p.1=k
  ·have a:¬decide (p.1≠k)=true:=by simp[e]
   have b:¬decide (q.1≠k)=true:=by simp[d.symm.trans e]
   rw[cr a,cr b];exact f
  ·have j:¬q.1=k:=λz=>e<|d.trans z;have a:decide (p.1≠k)=true:=by simp[e]
   have b:decide (q.1≠k)=true:=by simp[j]
   rw[hI a,hI b];exact .cons #[d,i] f
def KV.length{x9:List (κ×V)}{vs:List (κ×hR)}(r:KV x9 vs):x9.length=vs.length:=Paired.length r
def JJ(a:List (κ×V))(k:κ):(A6 a k).length<=a.length:=iR _ _
end
def B4(r:RelV (kV k) u):(wl P w).is k u=true:=by
 cases k with
 |inl i=>obtain⟨t,e⟩:=(show ∃t,u=mo i t from r);subst e;exact Ju P w i t
 |inr x=>obtain⟨t,e⟩:=(show ∃t,u=Value.str x t from r);subst e;exact Jv P w x t
def Ox:∀{a:List Key} {c:List hR},Vals (a.map kV) c->ItemsAre (wl P w) a c:=by
 intro d
 induction d with
 |nil=>intro _ r;rw[qK]at r;cases r;exact .nil
 |cons k a b =>
  intro _ r;rw[iN]at r
  cases r with
  |cons h t=>exact .cons (B4 h)<|b t
abbrev KT(H:Hp):List (List Key×V)->List (List Key×hO×hR)->Prop:=Paired λp q=>p.1=q.1/\H q.2.1=↑(.tup<|p.1.map kV)/\RelV p.2 q.2.2
def KT.val(r:KT H a g)(k:List Key):Ak (zg a k) ((tM g k).map (·.2)):=by
 induction r with
 |nil=>exact True.intro
 | @cons p q l c h t i =>
  refine e0a3 h λf _ j=>?_;by_cases e:p.1=k
  ·have d:q.1=k:=f.symm.trans e;have b:tM (q::c) k=↑q.2:=by simp[tM,jk,d]
   rw[zZ e,b];exact j
  ·have d:¬q.1=k:=λz=>e<|f.trans z;have b:tM (q::c) k=tM c k:=by simp[tM,jk,d]
   rw[z8 e,b];exact i
def KT.Yp(r:KT H b f)(k:List Key)(g:RelV y u) :
  KT H (b.map λc=>if c.1=k then (c.1,y) else c) (f.map<|putAt k u):=by
 induction r with
 |nil=>exact .nil
 | @cons p q l m h t i =>
  rw[iN,iN];refine .cons ?_ i;refine e0a3 h λa d j=>?_;unfold putAt;by_cases e:p.1=k
  ·rw[hI e,hI<|a.symm.trans e];exact#[a,d,g]
  ·rw[cr e,cr<|λz=>e<|a.trans z];exact#[a,d,j]
def KT.put(r:KT H a c)(k:List Key)(f:H b=↑(.tup<|k.map kV))(d:RelV y u) :
  KT H (putK a k y) (storedH c k b u):=by
 have e:(a.any λg=>decide<|g.1=k)=(tM c k).isSome:=by rw[A7,(r.val k).zl,iJ]
 unfold putK storedH;rw[e];by_cases q:(tM c k).isSome=true
 ·rw[hI q,hI q];exact r.Yp k d
 ·rw[cr q,cr q];exact Paired.snoc r #[rfl,f,d]
def KT.keeps(r:KT H a d)(e:∀b c,H b=↑(.tup c)->f b=↑(.tup c)):KT f a d :=
 Paired.XW r λ_ _ z=>#[z.1,e _ _ z.2.1,z.2.2]
def W4(b:yG P w H h)(e:Rd H a u):wJ P w H h a u:=e.ok b
def CJ(d:yG P w H h)(e:Rd H a (.dK b)):b.length<=hZ/\(a==lG)=false/\∃c,KV b c/\h.DictOf (wl P w) a c :=
 show wJ P w H h a (.dK b) from W4 d e
def Nf(d:yG P w H h)(e:H a=↑(.dK b)):b.length<=hZ/\(a==lG)=false/\∃c,KV b c/\h.DictOf (wl P w) a c:=CJ d<|.inl e
def Co{b:List Key}(d:yG P w H h)(e:H a=↑(.tup<|b.map kV)):(pL<|wl P w).is h b a:=by obtain⟨_,c,r,o,f,g,n,i⟩:=(show wJ P w H h a (.tup<|b.map kV) from d a _ e);exact#[o,c.toArray,n,f,g,i,by simpa using Ox r]
def D6(g:yG P w H h)(e:Rd H a (.dT b)):b.length<=hZ/\(a==lG)=false /\
  ∃d,KT H b d/\h.DictOfH (pL<|wl P w) a d:=by
 obtain⟨z,y,d,r,o,j,k,n,s,u,v,A⟩:=(show wJ P w H h a (.dT b) from W4 g e);refine#[z,y,d,r,o,j,k,n,s,u,v,λx c=>?_,A]
 have f:∀{l:List (List Key×V)} {m:List (List Key×hO×hR)},KT H l m->∀x∈m,(pL<|wl P w).is h x.1 x.2.1:=by
  intro l m q
  induction q with
  |nil=>intro x c;exact nomatch c
  | @cons p q C D i t B =>
   intro x c;rcases List.mem_cons.mp c with e|c
   ·subst e;exact Co g (by rw[<- i.1];exact i.2.1)
   ·exact B x c
 exact f r x c
def a0u(d:yG P w H h)(e:H a=↑(.dT b)):b.length<=hZ/\(a==lG)=false /\
  ∃c,KT H b c/\h.DictOfH (pL<|wl P w) a c:=D6 d<|.inl e
def yW(H:Hp)(a:hO)(y:V)(r:Option V):Prop :=
 (∃x9 k,Rd H a (.dK x9)/\y=kV k/\r=zg x9 k)\/∃x9 k b,Rd H a (.dT x9)/\y=.ref b/\H b=↑(.tup<|k.map kV)/\r=zg x9 k
def Hz(H:Hp)(a:hO)(y v:V)(H':Hp):Prop :=
 (∃x9 k,H a=↑(.dK x9)/\y=kV k/\x9.length<hZ/\H'=upd H a (.dK<|putK x9 k v)) \/
 ∃x9 k b,H a=↑(.dT x9)/\y=.ref b/\H b=↑(.tup<|k.map kV)/\x9.length<hZ/\H'=upd H a (.dT<|putK x9 k v)
def yW.k{H:Hp}{a:hO}{x9:List (Key×V)}{k:Key}(e:H a=↑(.dK x9)):yW H a (kV k) (zg x9 k):=.inl #[x9,k,.inl e,rfl,rfl]
def Hz.k{H:Hp}{a:hO}{x9:List (Key×V)}{k:Key}{v:V}(e:H a=↑(.dK x9))(hl:x9.length<hZ):Hz H a (kV k) v (upd H a<|.dK<|putK x9 k v):=.inl #[x9,k,e,rfl,hl,rfl]
def Inv.big(I:Inv X a b H s):lG<⇑s:=by have h:iA<⇑s:=(I.mod.glob.keeps I.bk).lt;exact oh q0q h
def GS(B:A.units+1<kI)(I:Inv X i C H s)(g:yW H a y ↑v)(t:RelV y u)(h:∀f x,Inv X i C H x->RelV v f->Q f x) :
  ii 54 A (oH (.ref a) u) Q E s:=by
 rcases g with⟨j,k,e,m,l⟩|⟨j,k,b,e,m,eb,l⟩
 ·subst m;obtain⟨z,D,F,c,n⟩:=CJ I.wy e;obtain⟨f,q,d⟩:=Ak.some_of (v:=v) (o:=qM F k) (by rw[l];exact c.val k);exact wpAny_getItem_of (B4 t) n.mapOf q<|h f _ (I.tok _) d
 ·subst m;cases (show u=iD b from t);obtain⟨z,D,G,c,n⟩:=D6 I.wy e;obtain⟨f,q,d⟩:=Ak.some_of (v:=v) (o:=(tM G k).map (·.2)) (by rw[l];exact c.val k);refine e1a2 (Option.map_eq_some_iff.mp q) λp J r=>?_;refine wpAny_getItem_heap (lZ B) (Co I.wy eb) n J ?_;rw[r];exact h f _ (I.tok _) d
def a2R(r:A.units+1<kI)(I:Inv X d t H s)(g:yW H a y o)(n:RelV y u)(h:∀p,Inv X d t H p->Q (.bool o.isSome) p) :
  ii 54 A (jH .In u<|.ref a) Q E s:=by
 rcases g with⟨f,k,e,i,l⟩|⟨f,k,b,e,i,eb,l⟩
 ·subst i;obtain⟨z,j,v,c,m⟩:=CJ I.wy e;refine wpAny_in_of (B4 n) j m.mapOf ?_;rw[<- (c.val k).zl,<- l];exact h _<|I.tok _
 ·subst i;cases (show u=iD b from n);obtain⟨z,j,x,c,m⟩:=D6 I.wy e;refine wpAny_in_heap (lZ r) (Co I.wy eb) j m ?_;have q:=(c.val k).zl;rw[iJ]at q;rw[<- q,<- l];exact h _<|I.tok _
def Uy(r:A.units+1<kI)(I:Inv X d t H s)(g:yW H a y o)(n:RelV y u)(h:∀p,Inv X d t H p->Q (.bool<|!o.isSome) p) :
  ii 54 A (jH .NotIn u<|.ref a) Q E s:=by
 rcases g with⟨f,k,e,i,l⟩|⟨f,k,b,e,i,eb,l⟩
 ·subst i;obtain⟨z,j,v,c,m⟩:=CJ I.wy e;refine wpAny_notIn_of (B4 n) j m.mapOf ?_;rw[<- (c.val k).zl,<- l];exact h _<|I.tok _
 ·subst i;cases (show u=iD b from n);obtain⟨z,j,x,c,m⟩:=D6 I.wy e;refine wpAny_notIn_heap (lZ r) (Co I.wy eb) j m ?_;have q:=(c.val k).zl;rw[iJ]at q;rw[<- q,<- l];exact h _<|I.tok _
def CK{h:Nat}(I:Inv X c i H s)(j:Z7 (H a))(k:jq a s.heap d)(l:∃q,d.get? a=↑q)(f:wJ X.prog X.w (upd H a g) d a g) :
  Inv X c i (upd H a g) { s with heap:=d,toks:=h} :=
 I.write (x:=a) (e:=a) j (.inl rfl) (λb q m z=>(k.2 b m).trans z) l f
def E6{d:jd}{b:List (Key×V)}(z:b.length<=hZ)(f:(a==lG)=false)(c:KV b e)(g:d.DictOf (wl P w) a e) :
  wJ P w h d a (.dK b):=#[z,f,e,c,g]
def GU(M:A.units+1<kI)(I:Inv X j N H s)(g:Hz H a y v O)(D:RelV y u)(F:RelV v r)(h:∀G,Inv X j N O G->Q () G) :
  ii 54 A (sV (.ref a) u r) Q E s:=by
 rcases g with⟨d,k,e,n,l,o⟩|⟨d,k,b,e,n,eb,l,o⟩
 ·subst n o;obtain⟨z,p,P,f,t⟩:=Nf I.wy e;have x:P.length<=hZ:=by rw[<- f.length];exact z
  have B:(putK d k v).length<=hZ:=by have:=A8 d k v;lia
  refine wpAny_setItem_pairs (hsz:=x) (B4 D) t λJ i C=>h _ ?_;have R:∃q,J.get? a=↑q:=e3a2 i λq _ _ m _=> #[q,m];exact CK I (by rw[e];exact True.intro) C R<|E6 B p (f.put k F) i
 ·subst n o;cases (show u=iD b from D);obtain⟨z,p,S,f,t⟩:=a0u I.wy e;have x:S.length<=hZ:=by rw[<- Paired.length f];exact z
  have B:(putK d k v).length<=hZ:=by have:=A8 d k v;lia
  refine wpAny_setItem_heap (hsz:=x) (lZ M) (Co I.wy eb) t λJ i C=>h _ ?_;obtain⟨q,T,U,m,W,Y,Z,_,h5⟩:=i;refine CK I (by rw[e];exact True.intro) C #[q,m] #[B,p,_,(f.put k eb F).keeps λc ys L=>?_,q,T,U,m,W,Y,Z,h5];rw[vB<|Z6 L e<|λz=>nomatch z];exact L
def Oy(I:Inv X d j H s)(e:H a=↑(.dK b))(m:RelV (kV k) u)(l:(zg b k).isSome=true)(h:∀i,Inv X d j (upd H a<|.dK<|A6 b k) i->Q () i) :
  ii 54 A (delItem (.ref a) u) Q E s:=by
 obtain⟨z,n,o,c,g⟩:=Nf I.wy e
 refine wpAny_delItem_slot g.typeIs q0q rF
  (oM rF g.typeIs PySem.F.entry_dict_delitem (PySem.F.args_dict_delitem_2 _ _) (meets_dict_delitem_pairs (wl X.prog X.w) a<|B4 m) ⟨o,g,by rw[<- c.length];exact z,by rw[<- (c.val k).zl];exact l,λp f r=>h _ ?_⟩)
 have t:∃q,p.get? a=↑q:=e3a2 f λq _ _ v _=> #[q,v];exact CK I (by rw[e];exact True.intro) r t<|E6 (i9 (JJ b k) z) n (c.drop k) f
def a0v(I:Inv X d B H s)(e:H a=↑(.dK b))(j:RelV (kV k) u)(l:zg b k=↑v)(n:more=[]\/∃x,more=[x])
 (h:∀f p,Inv X d B (upd H a<|.dK<|A6 b k) p->RelV v f->Q f p):ii 54 A (call (.builtin "dict.pop") (.ref a::u::more)) Q E s:=by
  obtain⟨z,C,r,c,y⟩:=Nf I.wy e
  obtain⟨f,D,m⟩:=Ak.some_of (v:=v) (o:=qM r k) (by rw[<- l];exact c.val k)
  have G:(keyPart u).isSome=true:=by
    cases k with
    |inl i=>obtain⟨t,q⟩:=(show ∃t,u=mo i t from j);subst q;rfl
    |inr x=>obtain⟨t,q⟩:=(show ∃t,u=Value.str x t from j);subst q;rfl
  have J:si "dict.pop" #[.ref a::u::more,[]]:=by
    rcases n with q|⟨x,q⟩
    · subst q; exact PySem.F.args_dict_pop_2 _ _
    · subst q; exact PySem.F.args_dict_pop_3 _ _ _
  refine oM sy y.typeIs PySem.F.entry_dict_pop J (meets_dict_pop_there (wl X.prog X.w) a (B4 j) more n G)
    #[r,f,y,by rw[<- c.length];exact z,D,λL g M=>h f _ ?_ m]
  have N:∃q,L.get? a=↑q:=e3a2 g λq _ _ O _=> #[q,O]
  exact CK I (by rw[e];exact True.intro) M N<|E6 (i9 (JJ b k) z) C (c.drop k) g
def a0w(I:Inv X b g H s)(e:Rd H a (.dK d))(h:∀t f,Inv X b g H f->Q (.int d.length t) f):ii 54 A (call (.builtin "len") [.ref a]) Q E s:=by obtain⟨z,i,k,c,j⟩:=CJ I.wy e;refine call_len_dict i j (by rw[<- c.length];rw[jt]at z;lia) ?_;rw[<- c.length];exact h _ _<|I.tok _
def Qv(i:i8):Prop:=∀a b,sw i false a b=operate [a,b] (oH a b)
def Uz{m:String} 
 (n:nY (.type T) "__getitem__"=pure (some<|.builtin m)) (p:Qv slice)
 (h:ii (ik a w) A (eval value g) (λo d=>ii (ik a w) A (eval slice g) (λi b=>b.TypeIs o T/\ii (ik a w) A (oH o i) Q E b) E d) E s) :
    ii (ik a w) A (eval (.Subscript value slice pos) g) Q E s:=by
  refine tL<|jb h (λo d j=>jb j (λi b c=>?_) λ_ _ x=>x) λ_ _ x=>x
  obtain⟨l,c⟩:=c
  refine am ?_
  rw[getitemInPython_of_ne l.not_modules]
  refine am<|qj l n ?_
  have f:ii (ik a w) A (sw slice false o i) (λr e=>ii (ik a w) A (letTemporaryGo value o r >>= λ_=>pure r) Q E e) E b:=by
    rw[p o i]
    exact wpAny_operating<|jb c (λr e k=>am<|wpAny_letTemporaryGo<|ap k) λ_ _ x=>x
  first
    | exact ap<|am f
    | exact am<|ap<|am f
    | exact am f
def JK(I:Inv X f h H s)(g:yW H a y o):s.TypeIs (.ref a) "dict":=by
 rcases g with⟨c,k,e,_,_⟩|⟨c,k,b,e,_,_,_⟩
 ·obtain⟨_,_,i,_,d⟩:=CJ I.wy e;exact d.typeIs
 ·obtain⟨_,_,j,_,d⟩:=D6 I.wy e;exact d.typeIs
def a0x(d e:TE):TE:=λb H Q=>d b H λx f=>e b f λy c=>∃a v,x=.ref a/\yW c a y ↑v/\Q v c
def a2S(d e:TE):TE:=λb H Q=>d b H λy f=>e b f λx c=>∃a o,x=.ref a/\yW c a y o/\Q (.bl o.isSome) c
def UA(d e:TE):TE:=λb H Q=>d b H λy f=>e b f λx c=>∃a o,x=.ref a/\yW c a y o/\Q (.bl<|!o.isSome) c
def a0y(d e f:TE):TS:=λD b H=>f b H λv g=>d b g λx h=>e b h λy i=>∃a c,x=.ref a/\Hz i a y v c/\D.nx b c
def a0z(e f g:TE)(h:V->V->Hp->VK->Prop):TS:=λD b H=>e b H λx i=>f b i λy c=>∃a v,x=.ref a/\yW c a y ↑v /\
 g b c λj k=>h v j k λz l=>∃d,Hz l a y z d/\D.nx b d
def Qw(e f:TE):TS:=λD c H=>e c H λx g=>f c g λy d=>∃a b k,x=.ref a/\d a=↑(.dK b)/\y=kV k/\(zg b k).isSome=true/\D.nx c (upd d a<|.dK<|A6 b k)
def HA(k:X.A.units+1<kI)(l:PE X o m)(n:PE X i ty)(p:Qv i):PE X (.Subscript o i pos) (a0x m ty):=by intro b s f H Q I h;refine Uz PySem.F.slot_dict_getitem.lookup p<|ww (l b s f H _ I h) λu q c=>e2a3 c λx H1 r t w=>ww (n b q f H1 _ r w) λE G c=>e2a3 c λy H2 j z d=>e2a3 d λa v B g C=>?_;subst B;obtain rfl:u=iD a:=t;exact#[JK j g,GS k j g z λJ L D e=>#[v,H2,D,e,C]]
def Qx(f:X.A.units+1<kI)(j:PE X i ty)(k:PE X o l):PC X .In i o (a2S ty l):=by intro b s e H Q I h;refine ww (j b s e H _ I h) λC m c=>e2a3 c λy H1 n p q=>ww (k b m e H1 _ n q) λu D c=>e2a3 c λx H2 r t d=>e2a3 d λa v w g z=>?_;subst w;obtain rfl:u=iD a:=t;exact a2R f r g p λE B=>#[.bl v.isSome,H2,B,rfl,z]
def Dv(f:X.A.units+1<kI)(j:PE X i ty)(k:PE X o l):PC X .NotIn i o (UA ty l):=by intro b s e H Q I h;refine ww (j b s e H _ I h) λC m c=>e2a3 c λy H1 n p q=>ww (k b m e H1 _ n q) λu D c=>e2a3 c λx H2 r t d=>e2a3 d λa v w g z=>?_;subst w;obtain rfl:u=iD a:=t;exact Uy f r g p λE B=>#[.bl<|!v.isSome,H2,B,rfl,z]
def HB(j:X.A.units+1<kI)(k:PE X o l)(m:PE X i ty)(n:PE X value p)(q:kg value (some<|.Subscript o i c) pos.line X.env=pure false) :
  PS X (.Assign [.Subscript o i c] value pos) (a0y l ty p):=by
 intro b s e H D I h;refine wpAny_Assign_Subscript (ww (n b s e H _ I h) λr t d=>e2a3 d λv H1 w z B=>ww (k b t e H1 _ w B) λu C d=>e2a3 d λx H2 E F G=>ww (m b C e H2 _ E G) λP Q d=>e2a3 d λy H3 J L f=>e2a3 f λa H4 M g N=>?_) q;subst M;obtain rfl:u=iD a:=F;exact GU j J g L z λR O=>#[e,H4,O,N]
def UB(p:X.A.units+1<kI)(t:PE X o w)(B:PE X i ty)(C:PE X value E)(j:a0o X op F)
 (G:∀f d new,augStore i f d new=(do lw [new,f,d] (sV f d new);release [new,f,d] [];pure .next)):PS X (.AugAssign (.Subscript o i q) op value pos) (a0z w ty E F):=by
  intro b s e H D I h
  refine sN (ww (t b s e H _ I h) λu J c=>e2a3 c λx H1 L M N=>ww (B b J e H1 _ L N) λd s2 c=>e2a3 c λy H2 O r k=>e2a3 k λa v P g Q=>?_) G
  subst P
  obtain rfl:u=iD a:=M
  refine GS p O g r λR S T l=>ww (C b S e H2 _ T Q) λU W c=>e2a3 c λY H3 Z m q3=>ww (j b W e H3 v Y R U _ Z l m q3) λw3 s5 c=>e2a3 c λz H4 I5 rz n=>e1a2 n λH5 g5 q4=>?_
  exact GU p I5 g5 r rz λs6 I6=>#[e,H5,I6,q4]
def HC(j:PE X o m)(n:PE X i ty):PS X (.Delete [.Subscript o i g] pos) (Qw m ty):=by intro b s d H D I h;refine wpAny_Delete<|wpAny_deleteEach_cons<|wpAny_delete_Subscript<|ww (j b s d H _ I h) λu p f=>e2a3 f λx H1 q r t=>ww (n b p d H1 _ q t) λF G f=>e2a3 f λy H2 v w c=>e3a5 c λa z k A e B l C=>?_;subst A B;obtain rfl:u=iD a:=r;exact Oy v e w l λJ E=>wpAny_deleteEach_nil #[d,_,E,C]
def JL(h:jd)(a:lG<h.objs.size):wJ P w H (h.push 131) h.objs.size (.dK []) :=
 #[js _,beq_eq_false_iff_ne.mpr<|Ne.symm<|iz a,[],.nil,td h]
def E7:TE:=λ_ H Q=>∀p,H p=none->Q (.ref p) (upd H p<|.dK [])
def A9:PE X (.Dict [] [] pos) E7:=λb s c H Q I h =>
 wpAny_Dict_empty #[.ref ⇑s,_,I.laid (a:=⇑s) (o:=.dK []) (t':=s.toks) (λ_ _ q=>ci _ q) (hW _)<|JL s.heap I.big,rfl,h _<|I.wy.fresh<|hW _]
def Lo:List (TE×TE)->St->Hp->(List (V×V)->Hp->Prop)->Prop
 | [],_,H,Q=>Q [] H
 | (tk,tv)::r,σ,H,Q=>tk σ H λx H1=>tv σ H1 λy H2=>Lo r σ H2 λps H3=>Q ((x,y)::ps) H3
abbrev VV:List (V×V)->List (hR×hR)->Prop:=Paired λp q=>RelV p.1 q.1/\RelV p.2 q.2
def PPs(X:Cx)(d:Pos)(c:List (Option i8))(a:List i8)(e:List (TE×TE)):Prop :=
 ∀(b:List (hO×Obj)) (s:h9) (f:St) (H:Hp) (Q:List (V×V)->Hp->Prop),Inv X b f H s->Lo e f H Q ->
  ii 54 X.A (evalPairs<|pairTrees c a X.env d) (λi j=>∃g h,Inv X b f h j/\VV g i/\Q g h) X.xe s
def UC:PPs X pos [] [] []:=λa s b H Q I h=>pairTrees_nil_walk #[[],H,I,.nil,h]
def Qy(e:PE X k f)(g:PE X v i)(j:PPs X pos l m c) :
  PPs X pos (↑k::l) (v::m) ((f,i)::c):=λa s d H Q I h =>
 pairTrees_cons_walk (ww (e a s d H _ I h) λu n b=>e2a3 b λx H1 o p q=>ww (g a n d H1 _ o q) λD r b=>e2a3 b λy H2 t w z =>
  ww (j a r d H2 _ t z) λE F b=>e2a3 b λA H3 B rel C=>#[(x,y)::A,H3,B,.cons #[p,w] rel,C])
noncomputable def E8(b a:List (Key×V)):List (Key×V):=a.foldl (λc d=>putK c d.1 d.2) b
def KV.merge:∀{a:List (Key×V)} {d:List (Key×hR)} {b:List (Key×V)} {c:List (Key×hR)},KV a d->KV b c->KV (E8 b a) (merged c d):=by
 intro a d b c r
 induction r generalizing b c with
 |nil=>intro q;exact q
 | @cons p q i j h t f =>
  intro g
  have e:KV (putK b p.1 p.2) (stored c q.1 q.2):=by have:=g.put p.1 h.2;rw[<- h.1];exact this
  exact f e
def B5:∀(b a:List (Key×V)),(E8 a b).length<=a.length+b.length
 | [],a=>by show a.length<=a.length+0;lia
 |p::r,a=>by have c:=B5 r<|putK a p.1 p.2;have d:=A8 a p.1 p.2;show (E8 (putK a p.1 p.2) r).length<=_;rw[iH];lia
def Lq:∀{d:List (Key×V)} {g:List (hR×hR)},VV (d.map λi=>(kV i.1,i.2)) g->∃e,Carries (wl P w) g e/\KV d e:=by
 intro j
 induction j with
 |nil=>intro _ r;rw[qK]at r;cases r;exact#[[],True.intro,.nil]
 |cons p d f =>
  intro _ r;rw[iN]at r
  cases r with
  | @cons a b as bs h t =>
   refine e1a2 (f t) λe c q=>?_;obtain⟨l,k⟩:=b;exact#[(p.1,k)::e,#[B4 h.1,rfl,c],.cons #[rfl,h.2] q]
def a0A(b:List (TE×TE)):TE:=λe H Q=>∀p,H p=none->Lo b e (upd H p<|.dK []) λf c=>c p=↑(.dK [])/\∃a:List (Key×V),f=a.map (λd=>(kV d.1,d.2))/\a.length<=15/\Q (.ref p) (upd c p<|.dK<|E8 [] a)
def UD(h:PPs X pos keys values i)(b:keys.all (·.isSome)=true)(n:keys.length=values.length)(p:keys≠[])
 (j:keys.length<=15):PE X (.Dict keys values pos) (a0A i):=by
  intro d s r H Q I q
  have t:=I.wy.fresh<|hW ⇑s
  have u:=I.laid (a:=⇑s) (o:=.dK []) (h':=s.heap.push 131) (t':=s.toks) (λ_ _ q=>ci _ q) (hW _)<|JL s.heap I.big
  refine wpAny_Dict_walk (knd:=wl X.prog X.w) b n p j<|ww (h d _ r _ _ u<|q _ t) λR S v=>e2a4 v λT U m k e l=>e1a3 l λf x lk y=>?_
  subst x
  refine e1a2 (Lq (P:=X.prog) (w:=X.w) k) λA c B=>?_
  obtain⟨z,C,D,E,F⟩:=Nf m.wy e
  cases E
  refine#[A,c,F,λG g J=>#[.ref ⇑s,_,?_,rfl,y]]
  have L:(E8 [] f).length<=hZ:=by
    have M:=B5 f []
    rw[nS]at M
    rw[jt];lia
  have N:∃q,G.get? ⇑s=↑q:=e3a2 g λq _ _ O _=> #[q,O]
  exact CK m (by rw[e];exact True.intro) J N<|E6 L C (B.merge .nil) g
structure M1(X:Cx)(o:i8)(m:Str)(apos:Pos)(e:i8)(cpos:Pos):Prop where
 base:i7 o m X.env (eval o X.env)=eval o X.env
 few:((jz cpos (hV [e] X.env)).all (λx=>!x.1)&&(nI cpos (lx [] X.env)).all (λx=>x.1.isSome)
  && decide (([e]:List i8).length+([]:List qe).length+160<30))=true
 line:(apos.endLine==cpos.line)=true
 trees:jz cpos (hV [e] X.env)=[71]
structure M2(X:Cx)(o:i8)(m:Str)(apos:Pos)(e f:i8)(cpos:Pos):Prop where
 base:i7 o m X.env (eval o X.env)=eval o X.env
 few:((jz cpos (hV [e,f] X.env)).all (λx=>!x.1)&&(nI cpos (lx [] X.env)).all (λx=>x.1.isSome)
  && decide (([e,f]:List i8).length+([]:List qe).length+160<30))=true
 line:(apos.endLine==cpos.line)=true
 trees:jz cpos (hV [e,f] X.env)=[71,(false,eval f X.env)]
def IsD(H:Hp)(a:hO):Prop:=(∃b,Rd H a<|.dK b)\/∃b,Rd H a<|.dT b
def Lr(I:Inv X k l H s)(d:IsD H a) :
  s.TypeIs (.ref a) "dict"/\(∀b,iD a=.ref b->∃c,s.heap.get? b=↑c/\c.dict=none)/\(a==lG)=false:=by
 rcases d with⟨g,e⟩|⟨g,e⟩
 ·obtain⟨_,h,m,_,f⟩:=CJ I.wy e;refine#[f.typeIs,λb q=>?_,h];cases q;obtain⟨c,_,_,i,j,_⟩:=f;exact#[c,i,j.2.1]
 ·obtain⟨_,h,n,_,f⟩:=D6 I.wy e;refine#[f.typeIs,λb q=>?_,h];cases q;obtain⟨c,_,_,i,j,_⟩:=f;exact#[c,i,j.2.1]
def Yq(r:A.units+1<kI)(I:Inv X d t H s)(g:yW H a y o)(n:RelV y u)(h:∀p q,Inv X d t H q->RelV (o.getD .xj) p->Q p q) :
  ii 54 A (call (.builtin "dict.get") [.ref a,u]) Q E s:=by
 rcases g with⟨i,k,e,j,l⟩|⟨i,k,b,e,j,eb,l⟩
 ·subst j;obtain⟨z,m,x,c,f⟩:=CJ I.wy e;refine oM kS f.typeIs mP (rX _ _) (meets_dict_get (wl X.prog X.w) a (B4 n) m) #[_,f.mapOf,h _ _ (I.tok _) ?_];rw[l];exact(c.val k).getD rfl
 ·subst j;cases (show u=iD b from n);obtain⟨z,m,v,c,f⟩:=D6 I.wy e;refine oM kS f.typeIs mP (rX _ _) (meetsH_dict_get (pL<|wl X.prog X.w) a b m) #[lZ r,k,v,Co I.wy eb,f,h _ _ (I.tok _) ?_];rw[l];exact(c.val k).getD rfl
def Yr(x:A.units+1<kI)(I:Inv X f B H s)(g:yW H a y o)(p:RelV y u)(q:RelV d r)(h:∀t v,Inv X f B H v->RelV (o.getD d) t->Q t v) :
  ii 54 A (call (.builtin "dict.get") [.ref a,u,r]) Q E s:=by
 rcases g with⟨j,k,e,m,l⟩|⟨j,k,b,e,m,eb,l⟩
 ·subst m;obtain⟨z,n,D,c,i⟩:=CJ I.wy e;refine oM kS i.typeIs mP (rY _ _ _) (meets_dict_get_default (wl X.prog X.w) a (B4 p) n r) #[_,i.mapOf,h _ _ (I.tok _) ?_];rw[l];exact(c.val k).getD q
 ·subst m;cases (show u=iD b from p);obtain⟨z,n,C,c,i⟩:=D6 I.wy e;refine oM kS i.typeIs mP (rY _ _ _) (meetsH_dict_get_default (pL<|wl X.prog X.w) a b n r) #[lZ x,k,C,Co I.wy eb,i,h _ _ (I.tok _) ?_];rw[l];exact(c.val k).getD q
def Ys(e f:TE):TE:=λb H Q=>e b H λx c=>∃a,x=.ref a/\IsD c a/\f b c λy d=>∃o,yW d a y o/\Q (o.getD .xj) d
def Yt(e f g:TE):TE:=λb H Q=>e b H λx c=>∃a,x=.ref a/\IsD c a/\f b c λy h=>g b h λz d=>∃o,yW d a y o/\Q (o.getD z) d
def Yu(f g:TE):TE:=λc H Q=>f c H λx d=>∃a,x=.ref a/\IsD d a/\g c d λy e=>∃b k v,e a=↑(.dK b)/\y=kV k/\zg b k=↑v/\Q v (upd e a<|.dK<|A6 b k)
def Qz(p:X.A.units+1<kI)(q:PE X o r)(t:PE X e ty)(m:M1 X o "get" apos e c):PE X (.Call (.Attribute o "get" apos) [e] [] c) (Ys r ty):=by intro b s l H Q I h;refine rM m.base m.few m.line oN kS sA<|ww (q b s l H _ I h) λu v f=>e2a3 f λx H1 n w i=>e1a3 i λa z d B=>?_;subst z;obtain rfl:u=iD a:=w;refine e0a3 (Lr n d) λC D _=>?_;refine#[C,D,?_];rw[m.trees];refine kM rfl<|jI<|ku<|ww (t b v l H1 _ n B) λM N f=>e2a3 f λy H2 E G j=>e1a2 j λO g J=>lU ?_;exact Yq p E g G λP R L k=>#[_,H2,L,k,J]
def QA(q:X.A.units+1<kI)(r:PE X o t)(v:PE X e ty)(w:PE X f B)(m:M2 X o "get" apos e f c):PE X (.Call (.Attribute o "get" apos) [e,f] [] c) (Yt t ty B):=by
 intro b s j H Q I h;refine rM m.base m.few m.line oN kS sA<|ww (r b s j H _ I h) λu C i=>e2a3 i λx H1 p D k=>e1a3 k λa E d G=>?_;subst E;obtain rfl:u=iD a:=D;refine e0a3 (Lr p d) λJ L _=>?_;refine#[J,L,?_];rw[m.trees]
 refine kM rfl (jI (ku (ww (v b C j H1 _ p G) λW M i=>e2a3 i λy H2 N O P =>
  ku (ww (w b M j H2 _ N P) λY Z i=>e2a3 i λz H3 R S l=>e1a2 l λov g T=>lU ?_))))
 exact Yr q R g O S λw' s4 U n=>#[_,H3,U,n,T]
def QB(q:PE X o r)(t:PE X e ty)(m:M1 X o "pop" apos e c):PE X (.Call (.Attribute o "pop" apos) [e] [] c) (Yu r ty):=by intro b s n H Q I h;refine rM m.base m.few m.line oN sy PySem.F.type_dict_pop<|ww (q b s n H _ I h) λu w g=>e2a3 g λx H1 p z i=>e1a3 i λa A d B=>?_;subst A;obtain rfl:u=iD a:=z;refine e0a3 (Lr p d) λC D _=>?_;refine#[C,D,?_];rw[m.trees];refine kM rfl<|jI<|ku<|ww (t b w n H1 _ p B) λP R g=>e2a3 g λy H2 E G f=>e3a4 f λJ k v L M l N=>lU ?_;subst M;exact a0v E L G l (.inl rfl) λS T O j=>#[v,_,O,j,N]
end L2
namespace Att
open PySem PySem.W PySem.Calls PyProof.Rows
def Ei:∀(c:List Int)(d:List hR),WellAll P h d (c.map WData.int)->lM d c:=by
 intro c
 induction c with
 |nil =>
  intro d w;rw[qK]at w;cases w;exact .nil
 |cons n c e =>
  intro d w;rw[iN]at w
  cases w with
  |cons a b =>
   cases a;exact .cons _ _<|e _ b
def Oz{l:qW}{n:Nat}(o:l.most=↑n) 
 (b:l.row.toRowW.claim.pre args=true) (j:WellAll P h vals args) :
    ∃a m c,vals=[iD a]/\args=[WData.list<|c.map WData.int]/\h.get? a=some { cls:=.type "list",data:=.seq m.toArray}/\lM m c/\c.length<=n:=by
  have k:WShape.hasAll [] args [.list .int]=true:=(pre_splitW b).1
  have p:l.pre.holds [] { args:=args}=true:=(pre_splitW b).2
  obtain⟨d,r,rfl,s,t⟩:=hasAllW_cons k
  obtain rfl:=hasAllW_nil t
  obtain⟨y,rfl,u⟩:=hasW_list s
  obtain⟨c,rfl⟩:=items_int u
  have e:c.length<=n:=by
    have g:(WTm.not<|.lt (.lit<|.int (n:Int))<|.len<|.arg 0).holds [] { args:=[.list<|c.map .int]}=true:=by
      have g:=(holds_andW p).1
      rw[o]at g
      exact g
    have i:=condW_of g<|w_not<|w_lt w_lit<|w_len_list<|w_arg rfl
    rw[h8]at i
    refine rr λq=>?_
    first
      | (rw[decide_eq_true z]at i;exact iv i q0q)
      | (simp at i;omega)
  cases j with
  |cons v w =>
    cases w
    cases v with
    |list x f=>exact#[_,_,c,rfl,rfl,x,Ei c _ f,e]
def OA(l:qW)(args:List WData):l.row.toRowW.claim.post args (.bool true) args=true :=
 postW_of (r:=l.row.toRowW) (X:=(true==true))
  (show WShape.has [] (.bool true) .bool=true by first|rfl|decide|simp[WShape.has,WShape.arms,WShape.armsAll])
  (show (WTm.eq .res<|.lit<|.bool true).value [] { args:=args,res:=some<|.bool true,after:=args}=some (.bool<|true==true) from w_eq_bool (w_res rfl) w_lit) rfl
def JM{l:qW}{n:Nat}{XP:(Str->Option hR)->jd->Prop}{d:DefRec}
 (E:l.most=↑n) (x:d.params.defaults=[])
 (call:∀(w:ji)(c b:h9)(s y:Str->Option hR)(j:hO)(o:Obj)(pm t e:hR)(a:hO)(i:List hR)(u:List Int),
 Ground q g [] XP w c s y b.heap->F w b.heap ->
 b.heap.get? j=↑o->o.data=.func (docDef d.name d.params d.body d.scope pm t e)->b.heap.CodeRec t d.name->s d.name=↑(.ref j) ->
 b.heap.get? a=some { cls:=.type "list",data:=.seq i.toArray}->lM i u->u.length<=n->b.gens=#v[] ->
 mI (ik l.prog w) rN (.call (.ref j) #[[.ref a],[]]) (λr v=>r=.ok (.ret (.bool true))/\OldK b.heap v.heap/\v.os=b.os/\n8 v.gens) b) :
    vn q g XP F l.row.toRowW d [] (λf i=>uo f i):=by
  intro w c b s y G Y j o pm t e H kV I hd z C A J args vals as k D L B M
  obtain rfl:H=.none:=Dflts.none C x
  obtain rfl:kV=.none:=Dflts.noKw C
  obtain⟨a,i,u,rfl,rfl,m,h,p⟩:=Oz E k B
  refine enter_call<|ko (call w c b s y j o pm t e a i u G Y I (fd_plain hd) z A m h p J) λr v N=>?_
  obtain⟨rfl,O,P,Q⟩:=N
  exact#[.inl #[.bool true,.bool true,[],rfl,λ_=>rfl,.bool true,OA l _,λ_=>#[iW,λ_ R=>(nomatch R)]],O,P,Q]
end Att
namespace L2
open PySem PySem.Spec PyProof.Rows
def GV:∀{a:List hR} {b:List Int},lM a b->Vals (b.map V.int) a:=by
 intro _ _ z
 induction z with
 |nil=>exact .nil
 |cons n t h c=>exact .cons #[t,rfl] c
noncomputable def wH(s:iK):Arguments:=match s with
 | .FunctionDef _ a _ _ _ _ _ _ _ _=>a
 |_=>{ posonlyargs:=[],args:=[],vararg:=none,kwonlyargs:=[],kw_defaults:=[],kwarg:=none,defaults:=[]}
noncomputable def wm(s:iK):List iK:=match s with
 | .FunctionDef _ _ b _ _ _ _ _ _ _=>b
 |_=>[]
noncomputable def vA(s:iK):mi:=match s with
 | .FunctionDef _ _ _ _ _ _ sc _ _ _=>sc
 |_=>{ kind:=.function,names:=[],isGenerator:=false,isCoroutine:=false}
abbrev QC:Qi:=λ_ _ _ _ _ _=>False
abbrev E0:XK:=λ_ _ _=>False
structure zA(K:hJ)(x qual:Str)(st:iK)(f:hO)(fd:iY):Prop where
 ex:∃(oc:hR)(od:Option hO)(kV doc pm:hR)(an:Option hO)(PU ct:hR) (OB:Array (Option hR)),
  fd=jS x qual (wH st) (wm st) (vA st) .none kV doc pm an PU ct/\K.lookup f=some #[oc,od,.func fd,OB]/\jM K PU qual=true
 kp:jA K (.ref f)=true
section
variable{P:iT}{w:ji}{K:hJ}{mg:Str->Option hR}{base:jd}
def zA.ok{g:iK}{k:Nat}(F:zA K x c g f o)(S:vJ N m (vA g))(i:∀d H Q E,n d H Q E->d.length=m.length)
 (e:∀(b:hR)(A:jL)(a:List Env)(s:h9)(H:Hp)(d:List V)(Q:VK)(E:XK),wZ k (A.deeper (o7 c (vA g) ⇑s f b))->n d H Q E ->
 ∃t,ES (wC QC P w K mg base N c (vA g) f b A a s H E).nox (wm g) t/\t { nx:=λ_ p=>Q .xj p,rt:=Q} (start N d) H):wn P w K mg base QC (k+1) f o m n:=by
  obtain⟨y,z,B,r,C,D,b,G,u,rfl,lk,j⟩:=F.ex
  refine JH lk j S i λA a s H d Q E v l=>?_
  refine e1a2 (e b A a s H d Q E v l) λt h q=>?_
  exact#[t,h.nox,q]
def zA.binds{d:iK}{ps:List Str}(F:zA K x c d f l)
 (h:∀(e a g:hR)(i:Option hO)(b j:hR)(k:List hR),k.length=ps.length->tH (jS x c (wH d) (wm d) (vA d) .none e a g i b j) #[k,[]]=pure (ps.zip k)):Binds K l ps []:=by
  obtain⟨o,p,e,a,g,i,b,j,m,rfl,lk,n⟩:=F.ex
  exact .all<|h e a g i b j
def E9{st:iK}{e:hR}(l:K.lookup f=some #[j,m,.func<|jS x a (wH st) (wm st) (vA st) .none e d pm h b i,g])
 (c:jM K b a=true)(k:jA K (.ref f)=true):zA K x a st f (jS x a (wH st) (wm st) (vA st) .none e d pm h b i):=#[#[j,m,e,d,pm,h,b,i,g,rfl,l,c],k]
end
def OC{n:Nat}(h:n<=1000):n<hZ:=oz h q0q
def pv(i:Nat)(b:X.N[i]?=↑x:=by rfl)(c:Vis X.env.scope x:=by first|exact jX rfl|exact Or.inr (jX rfl)|exact Or.inr<|Or.inr rfl)(d:(x==66)=false:=by decide)
 (a:(x==("__classdict__":Str))=false:=by decide):PE X 94 (v9 i):=KY b c d a
def OD:zq X (.builtin "len") (λc H Q=>∃a b,c=[V.ref a]/\H a=↑(.dK b)/\Q (.int b.length) H):=by intro d s i H c j Q I r h;obtain⟨a,b,rfl,e,q⟩:=h;obtain⟨u,rfl,f⟩:=vals1 r;cases f;exact a0w I (.inl e) λt k g=>#[.int b.length,H,g,#[t,rfl],q]
def a2T{A B:Prop}(h:A):if true=true then A else B:=by rw[hI rfl];exact h
def UE{c A B:Prop}[Decidable c](a:c->A)(b:¬c->B):if c then A else B:=by
 by_cases h:c
 ·rw[hI h];exact a h
 ·rw[cr h];exact b h
def Ej(H a:Hp):Prop:=∀b o,H b=↑o->a b=↑o
def Ej.trans{d e:Hp}(a:Ej H d)(b:Ej d e):Ej H e:=λc o h=>b c o<|a c o h
def Ej.free(e:Ej H a)(h:a l=Option.none):H l=Option.none:=by
 cases q:H l with
 |none=>rfl
 |some o =>
  rw[e l o q]at h;cases h
def Ej.seq{K:hJ}(e:Ej H b)(h:wR K H a c):wR K b a c:=by
 rcases h with(h|⟨o,h⟩)|h
 ·exact .inl<|.inl<|e _ _ h
 ·exact .inl<|.inr #[o,e _ _ h]
 ·exact .inr h
end L2
namespace SX
open PySem
def AT(a:Array Nat):Prop:=a.toList.Pairwise (· < ·)
def Ev(r:AT c){i j a b:Nat}(d:c.toList[i]?=↑a)(e:c.toList[j]?=↑b)(h:i<j):a<b:=by obtain⟨f,g⟩:=List.getElem?_eq_some_iff.mp d;obtain⟨k,l⟩:=List.getElem?_eq_some_iff.mp e;have:=List.pairwise_iff_getElem.mp r i j f k h;rw[g,l]at this;exact this
def UF(f:Array Nat)(j:Nat)(r:AT f):∀(b d c:Nat),d<=c->c<=f.size->c-d<=b ->
  (∀i a,i<d->f.toList[i]?=↑a->a<j)->(∀i a,c<=i->f.toList[i]?=↑a->j<=a) ->
  nJ f j b d c<=f.size/\(∀i a,i<nJ f j b d c->f.toList[i]?=↑a->a<j) /\
   (∀i a,nJ f j b d c<=i->f.toList[i]?=↑a->j<=a):=by
 intro b
 induction b with
 |zero =>
  intro d c t k u l m;have e:d=c:=by omega
  subst e;exact#[k,l,m]
 |succ b s =>
  intro d c t k u l m;unfold nJ;by_cases h:d<c
  ·rw[hI h];have n:(d+c) / 2<f.size:=by omega
   have g:f.toList[(d+c) / 2]?=↑(f.getD ((d+c) / 2) j):=by rw[ja,lV];rw[jJ n];rfl
   by_cases o:f.getD ((d+c) / 2) j<j
   ·rw[hI o];refine s _ _ q0d k q0d (λi a p e=>?_) m;by_cases q:i=(d+c) / 2
    ·subst q;rw[g]at e;cases e;exact o
    ·have:=Ev r e g q0d;omega
   ·rw[cr o];refine s _ _ q0d q0d q0d l<|λi a p e=>?_;by_cases q:i=(d+c) / 2
    ·subst q;rw[g]at e;cases e;omega
    ·have:=Ev r g e q0d;omega
  ·rw[cr h];have e:d=c:=by omega
   subst e;exact#[k,l,m]
def Aq(r:AT b)(j:Nat):iB b j<=b.size/\(∀i a,i<iB b j->b.toList[i]?=↑a->a<j) /\
  (∀i a,iB b j<=i->b.toList[i]?=↑a->j<=a):=by
 refine UF b j r b.size 0 b.size (js _) (hW _) q0a (λi a h=>by lia)<|λi a h e=>?_;have:=(List.getElem?_eq_some_iff.mp e).1;rw[ig]at this
 lia
def below_at(r:AT b){i j:Nat}(h:b.toList[i]?=↑j):iB b j=i:=by
 obtain⟨f,c,d⟩:=Aq r j;rcases vj (iB b j) i with q|q|q
 ·cases e:b.toList[iB b j]? with
  |none =>
   have:=List.getElem?_eq_none_iff.mp e;have:=(List.getElem?_eq_some_iff.mp h).1
   lia
  |some a =>
   have:=Ev r e h q;have:=d _ a (hW _) e
   lia
 ·exact q
 ·have:=c i j q h
  lia
def Ls(r:AT b){i j:Nat}(h:b.toList[i]?=↑j):iB b (j+1)=i+1:=by
 obtain⟨f,c,d⟩:=Aq r<|j+1;rcases vj (iB b<|j+1) (i+1) with q|q|q
 ·have:=d i j q0a h
  lia
 ·exact q
 ·cases e:b.toList[i+1]? with
  |none =>
   have:=List.getElem?_eq_none_iff.mp e;rw[ig]at this
   lia
  |some a =>
   have:=Ev r h e q0a;have:=c (i+1) a q e
   lia
def Lu(r:AT b):iB b 0=0:=by
 obtain⟨f,d,g⟩:=Aq r 0
 cases e:iB b 0 with
 |zero=>rfl
 |succ k =>
  cases c:b.toList[0]? with
  |none =>
   have:=List.getElem?_eq_none_iff.mp c;rw[ig]at this
   lia
  |some a =>
   have:=d 0 a q0a c
   lia
def toList_erase(a:Array b)(p:Nat):(jr a p).toList=a.toList.take p++a.toList.drop (p+1):=by unfold jr;rw[qf,nK,nK];simp[jK]
def Fa(a:Array b)(p:Nat)(x:b):(jy a p x).toList=a.toList.take p++x::a.toList.drop p:=by unfold jy;rw[qf,qD,nK,nK];simp[jK]
def Lv(r:AT a)(p:Nat):AT (jr a p):=by
 unfold AT;rw[toList_erase];refine rf ?_ r
 conv=>rhs;rw[<- tN p a.toList]
 exact List.Sublist.append (List.Sublist.refl _)<|List.drop_sublist_drop_left _<|mr p
def QD(r:AT c){j:Nat}(f:j∉c.toList):AT (jy c (iB c j) j):=by
 obtain⟨t,g,h⟩:=Aq r j;unfold AT;rw[Fa];have k:(c.toList.take (iB c j)++c.toList.drop (iB c j)).Pairwise (· < ·):=by rw[tN];exact r
 obtain⟨l,m,n⟩:=List.pairwise_append.mp k
 have o:∀a∈c.toList.take (iB c j),a<j:=λa d=>by
  obtain⟨i,e⟩:=ml d;rw[uz]at e;split at e
  ·exact g i a (by assumption) e
  ·cases e
 have p:∀a∈c.toList.drop (iB c j),j<a:=λa d=>by
  obtain⟨i,e⟩:=ml d;rw[uA]at e;have:=h _ a (pc _ i) e;have:j≠a:=λq=>f (by rw[q];exact List.mem_of_mem_drop d)
  lia
 refine List.pairwise_append.mpr #[l,List.pairwise_cons.mpr #[p,m],λa d b s=>?_];rcases List.mem_cons.mp s with q|q
 ·rw[q];exact o a d
 ·exact n a d b q
def OE{t:jZ}(r:AT t.place){j:Nat}(h:∀i,t.slot j≠.live i):j∉t.place.toList:=λa=>by obtain⟨i,e⟩:=ml a;have b:=below_at r e;refine h (iB t.place j) ?_;unfold rG;rw[hI];rw[b,<- ja,e];simp
def Lw{t:jZ}{h:Int}:∀(b:Nat)(p:lW),(∀d,p.dummy=↑d->∀i,t.slot d≠.live i) ->
  ∀j c,j0 t o h b p=↑(.empty j c)->∀i,t.slot (c.getD j)≠.live i:=by
 intro b
 induction b with
 |zero=>intro p _ j c e;cases e
 |succ b f =>
  intro p g j c e;unfold j0 at e
  cases q:t.slot p.j with
  |empty =>
   rw[q]at e;injection e with e;injection e with l m;subst l m
   cases n:p.dummy with
   |none=>intro i z;rw[qL,q]at z;cases z
   |some d=>exact g d n
  |dummy =>
   rw[q]at e;refine f _ (λd a i z=>?_) j c e
   have:d=p.j:=by
    unfold mf at a;split at a
    ·injection a with a;exact a.symm
    ·injection a with a;exact a.symm
   rw[this,q]at z;cases z
  |live k =>
   rw[q]at e;dsimp only at e;split at e
   ·cases e
   ·refine f _ (λd a=>?_) j c e
    have:p.dummy=↑d:=by unfold mf at a;split at a<;>exact a
    exact g d this
set_option tactic.hygienic true in
def JN{t:jZ}{h:Int}{j:Nat}{b:Bool}(r:AT t.place)(e:t.freeSlot h=↑(j,b)):j∉t.place.toList:=by
 refine OE r ?_;unfold qk rg at e;split at e
 ·rename_i a c f
  injection e with e;injection e with g i;subst g;exact Lw _ _ (λd q=>by cases q) a c f
 ·cases e
def Dw{c k l:Nat}{d i:Bool}(e:om c k l d i m=↑(t,n)) :
  AT t.place/\t.led=d/\t.plain=i/\t.mask=c/\t.dummies=#v[]/\t.place.size=n.size:=by
 unfold om at e
 cases q:qm c m with
 |none=>rw[q]at e;cases e
 |some j =>
  rw[q]at e;injection e with e;injection e with o p;subst o p;refine#[?_,rfl,rfl,rfl,rfl,q0o];unfold AT;rw[uB];rw[List.pairwise_filterMap];refine pE ?_ tj;intro a b f x r y s
  have g:x=a:=by revert r;cases (j.getD a none)<;>simp;intro z;exact z.symm
  have h:y=b:=by revert s;cases (j.getD b none)<;>simp;intro z;exact z.symm
  subst g h;exact f
noncomputable def PV(m i:Nat):Nat:=(i*5+1)%(m+1)
noncomputable def QE(m:Nat):Nat->Nat->Nat
 | 0,i=>i
 |n+1,i=>QE m n<|PV m i
noncomputable def orb(m:Nat):Nat->Nat->List Nat
 | 0,_=>[]
 |n+1,i=>i::orb m n (PV m i)
def HE(m a b i:Nat):QE m (a+b) i=QE m b (QE m a i):=by
 induction a generalizing i with
 |zero=>rw[tO];rfl
 |succ a c=>rw[Nat.succ_add];exact c _
def UG(m:Nat):∀(n i k:Nat),k∈orb m n i->∃a,a<n/\QE m a i=k:=by
 intro n
 induction n with
 |zero=>intro i k h;cases h
 |succ n b =>
  intro i k h;rcases List.mem_cons.mp h with q|q
  ·exact#[0,q0a,q.symm]
  ·obtain⟨a,c,e⟩:=b _ _ q;exact#[a+1,q0a,e]
noncomputable def HF(m:Nat):Bool:=QE m (m+1) 0==0&&(iG<|m+1).all λk=>(orb m (m+1) 0).contains k
def GY{m:Nat}(h:HF m=true):∀i k,i<=m->k<=m->∃n,n<=m/\QE m n i=k:=by
 obtain⟨d,j⟩:=Bool.and_eq_true_iff.mp h;have d:QE m (m+1) 0=0:=by simpa using d
 have c:∀k,k<=m->∃a,a<m+1/\QE m a 0=k:=λk e=>by have:=List.all_eq_true.mp j k<|List.mem_range.mpr q0d;exact UG m _ _ _ (by simpa using this)
 intro i k l e;obtain⟨a,p,f⟩:=c i l;obtain⟨b,q,g⟩:=c k e;by_cases o:a<=b
 ·refine#[b-a,q0d,?_];rw[<- f,<- HE,show a+(b-a)=b by omega,g]
 ·refine#[m+1-a+b,q0d,?_];rw[<- f,<- HE,show a+(m+1-a+b)=(m+1)+b by omega,HE,d,g]
def GZ{m i:Nat}(h:i<=m):jx m i<=m/\i<=jx m i:=by unfold jx;split<;>lia
set_option tactic.hygienic true in
def UH{m:Nat}:∀(a i p:Nat),i<=m->∀j,jv m c a i p=↑j->j<=m/\c.getD j ↑0=none:=by
 intro a
 induction a with
 |zero=>intro i p _ j e;cases e
 |succ a d =>
  intro i p f j e;unfold jv at e;split at e
  ·rename_i k b
   injection e with e;subst e;have g:=List.find?_some b;have h:=List.mem_range.mp<|List.mem_of_find?_eq_some b;have:=GZ f;refine#[q0d,?_];simpa[Option.isNone_iff_eq_none] using g
  ·dsimp only at e;refine d _ _ ?_ j e;have:=oA (i*5+1+p / 32)<|m9 m;exact kG this
set_option tactic.hygienic true in
def Lx{m:Nat}{b:Array (Option Nat)}{k:Nat}(d:b.getD k ↑0=none):∀(n a i:Nat),i<=m->n<a->QE m n i=k->∃j,jv m b a i 0=↑j:=by
 intro n
 induction n with
 |zero =>
  intro a i c g e;obtain⟨a,rfl⟩:∃f,a=f+1:=#[a-1,q0a];have e:i=k:=e;subst e;unfold jv;split
  ·exact#[_,rfl]
  ·rename_i q
   have:=List.find?_eq_none.mp q 0<|List.mem_range.mpr (by have:=(GZ c).2;lia);rw[Nat.add_zero,d]at this;exact iv rfl this
 |succ n h =>
  intro a i c g e;obtain⟨a,rfl⟩:∃f,a=f+1:=#[a-1,q0a];unfold jv;split
  ·exact#[_,rfl]
  ·dsimp only
   have l:kK m i 0=(PV m i,0):=by unfold kK PV;simp
   rw[l];exact h a (PV m i) (kG<|oA _<|m9 m) q0a e
def OF{m:Nat}{h:Array (Option Nat)}(l:HF m=true){k:Nat}(d:k<=m)(o:h.getD k ↑0=none):∀(c a i p:Nat),i<=m->p<32 ^ c->c+m+1<=a->∃j,jv m h a i p=↑j:=by
 intro c
 induction c with
 |zero =>
  intro a i p g b q;have:p=0:=by rw[Nat.pow_zero]at b;lia
  subst this;obtain⟨n,s,e⟩:=GY l i k g d;exact Lx o n a i g q0a e
 |succ c r =>
  intro a i p g b q;obtain⟨a,rfl⟩:∃f,a=f+1:=#[a-1,q0a];unfold jv;split
  ·exact#[_,rfl]
  ·dsimp only;refine r a _ (p / 32) (kG<|oA _<|m9 m) ?_ q0a;rw[Nat.pow_succ]at b;exact uq (by rw[Nat.mul_comm];exact b)
def QF(x:Nat):∀(l:List (Option Nat)) (j:Nat),l[j]?=↑none->((l.set j<|↑x).filterMap id).Perm (x::l.filterMap id):=by
 intro l
 induction l with
 |nil=>intro j h;simp at h
 |cons a l b =>
  intro j h
  cases j with
  |zero =>
   have:a=none:=by simpa using h
   subst this;simp
  |succ j =>
   have c:l[j]?=↑none:=by simpa using h
   cases a with
   |none=>simpa using b j c
   |some y =>
    have:=b j c;exact(pf y this).trans<|List.Perm.swap x y _
def has_none:∀(l:List (Option Nat)),(l.filterMap id).length<l.length->∃j:Nat,l[j]?=↑none:=by
 intro l
 induction l with
 |nil=>intro h;simp at h
 |cons a l b =>
  intro h
  cases a with
  |none=>exact#[0,rfl]
  |some y =>
   obtain⟨j,e⟩:=b (by simpa using h);exact#[j+1,by simpa using e]
def Ng(h:Int):jC h<32 ^ 13:=by
 have a:(h%(2 ^ 64:Int)).toNat<2 ^ 64:=by lia
 exact iE a q0q
def QG{m:Nat}(w:HF m=true):∀(c:List Int) (a:Array (Option Nat)) (k:Nat),a.size=m+1->(a.toList.filterMap id).Perm (iG k)->k+c.length<=m ->
  ∃b,(c.foldl (init:=↑(a,k)) λi h=>do
   let (owner,k) <- i
   let j <- jv m owner (lp m) (jC h%(m+1)) (jC h)
   pure (owner.setIfInBounds j ↑k,k+1))=↑(b,k+c.length)/\b.size=m+1/\(b.toList.filterMap id).Perm (iG (k+c.length)):=by
 intro c
 induction c with
 |nil=>intro a k d g r;exact#[a,rfl,d,g]
 |cons h c x =>
  intro a k d g r
  have e:(a.toList.filterMap id).length<a.toList.length:=by
   rw[g.length_eq,l6,ig,d]
   lia
  obtain⟨s,t⟩:=has_none _ e
  have l:s<m+1:=by have:=(List.getElem?_eq_some_iff.mp t).1;rw[ig,d]at this;exact this
  have n:a.getD s ↑0=none:=by rw[lV,<- ja,t];rfl
  have u:jC h%(m+1)<=m:=kG<|oA _<|m9 m;obtain⟨j,v⟩:=OF w (kG l) n 13 (lp m) (jC h%(m+1)) (jC h) u (Ng h) (by unfold lp;lia);obtain⟨y,f⟩:=UH _ _ _ u j v
  have o:a.toList[j]?=↑none:=by
   rw[lV]at f;rw[ja]
   cases q:a[j]? with
   |none=>rw[q]at f;cases f
   |some z=>rw[q]at f;have p:z=none:=f;rw[p]
  obtain⟨b,A,B,C⟩:=x (a.setIfInBounds j ↑k) (k+1) (by rw[Array.size_setIfInBounds];exact d) (by
   rw[Array.toList_setIfInBounds];refine(QF k _ _ o).trans<|(pf k g).trans ?_;rw[List.range_succ]
   exact(nj (l₁:=[k]) (l₂:=iG k))) (by simp at r;lia)
  refine#[b,?_,B,?_]
  ·rw[List.foldl_cons]
   have:(do
     let (owner,k) <- some (a,k)
     let j <- jv m owner (lp m) (jC h%(m+1)) (jC h)
     pure (owner.setIfInBounds j ↑k,k+1))=↑(a.setIfInBounds j (some k),k+1):=by
    show (jv m a (lp m) (jC h%(m+1))<|jC h).bind _=_;rw[v];rfl
   rw[this,A];simp only[iH];congr 2
   lia
  ·rw[iH,show k+(c.length+1)=k+1+c.length by lia];exact C
def OG(l:List (Option Nat)):(iG l.length).map (λj=>l.getD j none)=l:=by
 apply qN;intro i;by_cases h:i<l.length
 ·simp[jG,h]
 ·rw[List.getElem?_eq_none_iff.mpr (by simpa using rr h),List.getElem?_eq_none_iff.mpr<|rr h]
def Dx{m fg mv:Nat}{led pl:Bool}{hs:Array Int}(c:HF m=true)(d:hs.size<=m):∃t b,om m fg mv led pl hs=↑(t,b)/\b.toList.Perm (iG hs.size):=by
 obtain⟨a,e,s,p⟩:=QG c hs.toList (Array.replicate (m+1) none) 0 q0o q0o (by simpa using d)
 have f:qm m hs=↑a:=by unfold qm;rw[<- Array.foldl_toList];exact congrArg (ue Prod.fst) e
 refine#[_,_,by unfold om;rw[f];rfl,?_];rw[uB]
 have q:(iG<|m+1).filterMap (λj=>ue (λx:Nat×Nat=>x.2)<|ue (λx=>(j,x))<|a.getD j none)=a.toList.filterMap id:=by
  conv=>rhs;rw[<- OG a.toList]
  rw[uy,ig,s];congr 1
  funext j
  simp only[uX,id,Option.map_map];rw[lV,jG,ja];cases (a[j]?.getD none)<;>rfl
 refine List.Perm.trans (uf q) ?_;simpa using p
def picked{es:Array (Int×hR)}{a:Array Nat}(h:a.toList.Perm (iG es.size)):(a.filterMap (es[·]?)).toList.Perm es.toList:=by
 rw[Array.toList_filterMap];refine(List.Perm.filterMap _ h).trans<|uf ?_;apply qN;intro i
 have:(iG es.size).filterMap (λx=>es[x]?)=es.toList:=by
  have e:(iG es.size).filterMap (λx=>es[x]?)=(iG es.toList.length).filterMap (λx=>es.toList[x]?):=by simp
  rw[e];exact List.filterMap_getElem?_range_length es.toList
 rw[this]
def a2V:HF 7=true:=by decide +kernel
def a0B:HF 15=true:=by decide +kernel
def a0C:HF 31=true:=by decide +kernel
def a0D:HF 63=true:=by decide +kernel
def Yv:HF 127=true:=by decide +kernel
def Yw:HF 255=true:=by decide +kernel
def Yx:HF 511=true:=by decide +kernel
def Ue(t:jZ)(h:Int)(a:Nat)(p:lW):Prop:=∃j d,j0 t (λ_=>h+1) h a p=↑(.empty j d)
noncomputable def begin_(m i a:Nat)(b:Option Nat):lW:={ j:=i,more:=jx m i-i,i:=i,perturb:=a,dummy:=b}
def Nh{h:Int}:∀(k a:Nat)(p:lW),p.more=k->(∀b,Ue t h a<|begin_ t.mask (kK t.mask p.i p.perturb).1 (kK t.mask p.i p.perturb).2 b)->Ue t h (a+k+1) p:=by
 intro k
 induction k with
 |zero =>
  intro a p g d
  have c:∀b,t.advance { p with dummy:=b}=begin_ t.mask (kK t.mask p.i p.perturb).1 (kK t.mask p.i p.perturb).2 b:=λb=>by unfold mf;rw[cr<|by show ¬p.more>0;lia];rfl
  unfold Ue j0
  cases q:t.slot p.j with
  |empty=>exact#[_,_,rfl]
  |dummy=>dsimp only;rw[c];exact d _
  |live i =>
   dsimp only;rw[cr<|by simp;lia];have:=c p.dummy;have e:({ p with dummy:=p.dummy}:lW)=p:=rfl;rw[e]at this;rw[this];exact d _
 |succ k l =>
  intro a p g d
  have f:∀b,Ue t h (a+k+1) (t.advance { p with dummy:=b}):=λb=>by
   have e:t.advance { p with dummy:=b}={ p with j:=p.j+1,more:=p.more-1,dummy:=b}:=by unfold mf;rw[hI<|by show p.more>0;lia]
   rw[e];exact l a _ (by show p.more-1=k;lia) d
  unfold Ue j0
  cases q:t.slot p.j with
  |empty=>exact#[_,_,rfl]
  |dummy=>exact f _
  |live i =>
   dsimp only;rw[cr<|by simp;lia];exact f p.dummy
def UI{t:jZ}{h:Int}{p:lW}(e:t.slot p.j=.empty)(a:Nat):Ue t h (a+1) p:=by unfold Ue j0;rw[e];exact#[_,_,rfl]
def Ni(m i:Nat):jx m i-i<=9:=by unfold jx;split<;>lia
def a2W{t:jZ}{h:Int}{k:Nat}(d:t.slot k=.empty):∀(n i a:Nat),QE t.mask n i=k->10*(n+1)<=a->∀c,Ue t h a (begin_ t.mask i 0 c):=by
 intro n
 induction n with
 |zero =>
  intro i a e g c;obtain⟨f,rfl⟩:∃f,a=f+1:=#[a-1,q0a];subst e;exact UI d f
 |succ n j =>
  intro i a e g c;have m:=Ni t.mask i
  have z:=Nh (t:=t) (h:=h) (jx t.mask i-i) (a-(jx t.mask i-i)-1) (begin_ t.mask i 0 c) rfl (λb=>by
   have l:kK t.mask i 0=(PV t.mask i,0):=by unfold kK PV;simp
   show Ue t h _ (begin_ t.mask (kK t.mask i 0).1 (kK t.mask i 0).2 b);rw[l]
   exact j (PV t.mask i) _ e q0a b)
  rw[show a-(jx t.mask i-i)-1+(jx t.mask i-i)+1=a by lia]at z;exact z
def a2X{t:jZ}{h:Int}{k:Nat}(m:HF t.mask=true)(g:k<=t.mask)(o:t.slot k=.empty):∀(c i b a:Nat),i<=t.mask->b<32 ^ c->10*(c+t.mask+1)<=a->∀d,Ue t h a (begin_ t.mask i b d):=by
 intro c
 induction c with
 |zero =>
  intro i b a l f p d;have:b=0:=by rw[Nat.pow_zero]at f;lia
  subst this;obtain⟨n,r,e⟩:=GY m i k l g;exact a2W o n i a e q0a d
 |succ c q =>
  intro i b a l f p d;have s:=Ni t.mask i
  have z:=Nh (t:=t) (h:=h) (jx t.mask i-i) (a-(jx t.mask i-i)-1) (begin_ t.mask i b d) rfl (λj=>by
   refine q _ _ _ (kG<|oA _<|m9 _) ?_ q0a j;rw[Nat.pow_succ]at f
   exact uq (by rw[Nat.mul_comm];exact f))
  rw[show a-(jx t.mask i-i)-1+(jx t.mask i-i)+1=a by lia]at z;exact z
def Aa[DecidableEq d]:∀(l m:List d),l.Nodup->(∀x∈l,x∈m)->l.length<=m.length:=by
 intro l
 induction l with
 |nil=>intro m _ _;exact js _
 |cons x r e =>
  intro m f b;obtain⟨g,h⟩:=List.nodup_cons.mp f;have a:=b x ic;have i:=e (m.erase x) h λy c=>(List.mem_erase_of_ne<|λ(z:y=x)=>g<|by rw[<- z];exact c).mpr<|b y<|ij _ c;rw[List.length_erase_of_mem a]at i;have:0<m.length:=List.length_pos_of_mem a;rw[iH];omega
def JO(l:List Nat)(m:Nat)(h:l.length<=m):∃j,j<=m/\j∉l:=by
 refine nZ λb=>?_;have a:∀j,j<=m->j∈l:=λj c=>nZ λq=>b #[j,c,q];have:=Aa (iG<|m+1) l List.nodup_range λx d=>a x<|kG<|List.mem_range.mp d;rw[l6]at this
 lia
def Ly{t:jZ}{n:Nat}(e:t.fits n=true):∃j,j<=t.mask/\t.slot j=.empty:=by
 have c:t.place.size+t.dummies.size<=t.mask:=by simp only[uY,jc,jf]at e;exact e.2
 obtain⟨j,f,d⟩:=JO (t.place.toList++t.dummies.toList) t.mask (by simpa using c);refine#[j,f,?_];rw[mJ,qE]at d
 have b:∀(a:Array Nat),j∉a.toList->(a[iB a j]?==↑j)=false:=λa g=>by
  cases q:a[iB a j]? with
  |none=>rfl
  |some x =>
   have h:x∈a.toList:=by rw[<- ja]at q;exact j7 q
   have:x≠j:=λz=>g<|z▸h;simp[this]
 unfold rG;dsimp only;rw[b _ d.1];unfold kZ;rw[b _ d.2];rfl
def Gm{t:jZ}{n:Nat}(c:HF t.mask=true)(f:t.fits n=true)(h:Int):∃j b,t.freeSlot h=↑(j,b):=by obtain⟨k,a,g⟩:=Ly f;obtain⟨j,d,e⟩:=a2X (h:=h) c a g 13 (jC h%(t.mask+1)) (jC h) (10*lp t.mask) (kG<|oA _<|m9 _) (Ng h) (by unfold lp;lia) none;refine⟨d.getD j,d.isSome,?_⟩;unfold qk rg SetTable.probeStart;have l:j0 t (λ_=>h+1) h (10*lp t.mask) { j:=jC h%(t.mask+1),more:=jx t.mask (jC h%(t.mask+1))-jC h%(t.mask+1),i:=jC h%(t.mask+1),perturb:=jC h,dummy:=none}=↑(.empty j d):=e;rw[l]
def JP{t:jZ}{h:Int}:∀(b:Nat)(p:lW),(∀d,p.dummy=↑d->kZ t.dummies d=true) ->
  ∀j d,j0 t l h b p=↑(.empty j<|some d)->kZ t.dummies d=true:=by
 intro b
 induction b with
 |zero=>intro p _ j d e;cases e
 |succ b f =>
  intro p g j d e;unfold j0 at e
  cases q:t.slot p.j with
  |empty =>
   rw[q]at e;injection e with e;injection e with m i;exact g d i
  |dummy =>
   rw[q]at e;refine f _ (λc a=>?_) j d e
   have:c=p.j:=by
    unfold mf at a;split at a
    ·injection a with a;exact a.symm
    ·injection a with a;exact a.symm
   rw[this];unfold rG at q;dsimp only at q;split at q
   ·cases q
   ·split at q
    ·assumption
    ·cases q
  |live k =>
   rw[q]at e;dsimp only at e;split at e
   ·cases e
   ·refine f _ (λc a=>?_) j d e
    have:p.dummy=↑c:=by unfold mf at a;split at a<;>exact a
    exact g c this
set_option tactic.hygienic true in
def Fb{t:jZ}{h:Int}{j:Nat}(e:t.freeSlot h=↑(j,true)):kZ t.dummies j=true:=by
 unfold qk rg at e;split at e
 ·rename_i a b c
  injection e with e;injection e with f g
  cases b with
  |none=>cases g
  |some d =>
   subst f;exact JP _ _ (λd q=>by cases q) a d c
 ·cases e
def QH{j:Nat}(h:kZ a j=true):iB a j<a.size:=by
 unfold kZ at h;have b:a[iB a j]?=↑j:=by simpa using h
 exact(Array.getElem?_eq_some_iff.mp b).1
def Cp(a:Array b)(p:Nat)(h:p<a.size):(jr a p).size=a.size-1:=by
 rw[<- ig,toList_erase,iw,mw,nw,ig]
 lia
def Ab(a:Array b)(p:Nat)(x:b):(jy a p x).size=a.size+1:=by rw[<- ig,Fa,iw,iH,mw,nw,ig];omega
def yH{t:jZ}{n:Nat}:t.fits n=true↔t.place.size=n/\t.place.size+t.dummies.size<=t.mask:=by unfold uY lK;simp
def Good(m:Nat):Prop:=m=7\/m=15\/m=31\/m=63\/m=127\/m=255\/m=511
def Good.HF{m:Nat}(h:Good m):HF m=true:=by
 rcases h with q|q|q|q|q|q|q<;>rw[q]
 ·exact a2V
 ·exact a0B
 ·exact a0C
 ·exact a0D
 ·exact Yv
 ·exact Yw
 ·exact Yx
def Fc{n:Nat}(h:n<=511):Good (jh n-1)/\n<jh n:=by
 have q:((iG 512).all λn=>[8,16,32,64,128,256,512].contains (jh n)&&decide (n<jh n))=true:=by decide +kernel
 have q:=List.all_eq_true.mp q n<|List.mem_range.mpr q0a;obtain⟨q1,q2⟩:=Bool.and_eq_true_iff.mp q;refine#[?_,by simpa using q2];have q1:jh n=8\/jh n=16\/jh n=32\/jh n=64\/jh n=128\/jh n=256\/jh n=512:=by simpa using q1
 rcases q1 with e|e|e|e|e|e|e<;>rw[e]<;>unfold Good<;>decide
structure TOk(t:jZ)(n:Nat):Prop where
 fits:t.fits n=true
 rise:AT t.place
 plain:t.plain=true
 good:Good t.mask
 room:t.fill*5<t.mask*3
set_option tactic.hygienic true in
def UJ{t:jZ}{c:Array (Int×hR)}{h:Int}{x:hR}(k:TOk t c.size)(q:c.size<=126) :
  ∃d g,layNew t c h x=(jy c (iB t.place ((t.freeSlot h).getD (0,false)).1) (h,x),d,g,false)/\d.led=t.led/\d.plain=true/\d.fits (c.size+1)=true/\AT d.place/\Good d.mask/\(g=true->d.fill*5<d.mask*3):=by
 obtain⟨j,b,e⟩:=Gm k.good.HF k.fits h;obtain⟨n,r⟩:=yH.mp k.fits;have f:=k.room;unfold lK at f
 have l:(90).size<=t.dummies.size/\(b=true->(90).size+1<=t.dummies.size):=by
  split
  ·rename_i i
   rw[Cp _ _<|QH i];have:=QH i;exact⟨q0a,λ_=>by lia⟩
  ·rename_i i
   refine#[hW _,λm=>?_];subst m;exact iv (Fb e) i
 have a:(t.put j).1.fits (c.size+1)=true:=by
  refine yH.mpr #[?_,?_]
  ·show (jy t.place (iB t.place j) j).size=_;rw[Ab,n]
  ·show (jy t.place (iB t.place j) j).size+(90).size<=t.mask;rw[Ab]
   lia
 refine#[(t.put j).1,b,?_,rfl,k.plain,a,QD k.rise<|JN k.rise e,k.good,λm=>?_]
 ·unfold layNew;rw[e];dsimp only;have o:(t.put j).2=iB t.place j:=rfl;have p:(jy c (iB t.place j) (h,x)).size=c.size+1:=Ab _ _ _;rw[o,p];unfold SetTable.orStandIn;rw[hI a,a];rfl
 ·have:=l.2 m;show ((jy t.place (iB t.place j) j).size+(90).size)*5<t.mask*3;rw[Ab]
  lia
def OH{t:jZ}{es:Array (Int×hR)}(v:1<=es.size)(h:es.size<=127)(m:t.plain=true):∃a c,tP t es (mM es.size)=(a,c,false)/\a.toList.Perm es.toList/\TOk c a.size/\c.led=t.led:=by
 have o:mM es.size=es.size*4:=by unfold mM;rw[cr q0a]
 obtain⟨j,w⟩:=Fc (n:=es.size*4) q0a;obtain⟨c,f,e,p⟩:=Dx (fg:=t.finger) (mv:=t.movedTo<|jh (es.size*4)-1) (led:=t.led) (pl:=t.plain) (hs:=es.map (·.1)) j.HF (by rw[mW];lia);obtain⟨q,r,s,g,k,i⟩:=Dw e;rw[mW]at p;have l:=picked p;have u:(f.filterMap (es[·]?)).size=es.size:=by rw[<- ig,l.length_eq,ig]
 have b:f.size=es.size:=by rw[<- ig,p.length_eq,l6]
 have d:c.fits (f.filterMap (es[·]?)).size=true:=by
  refine yH.mpr #[by rw[i,u,b],?_];rw[i,k,b,g];show es.size+0<=_
  lia
 refine#[f.filterMap (es[·]?),c,?_,l,#[d,q,s.trans m,by rw[g];exact j,?_],r]
 ·unfold tP;rw[o];unfold SetTable.relaid;rw[e];dsimp only;rw[hI];rw[d,Bool.and_true];exact List.isPerm_iff.mpr p
 ·unfold lK;rw[i,k,b,g];show (es.size+0)*5<_
  lia
open PyProof.Rows
def zB(e:Int×hR)(k:Int):Prop:=e.1=n6 k/\∃t,e.2=mo k t
noncomputable abbrev yc(a:Array (Int×hR))(b:Nat)(t:jZ):Obj:={ cls:=.type "set",dict:=none,data:=.set a b t,slots:=#v[]}
structure W5(w:ji)(es:Array (Int×hR))(t:jZ)(ks:List Int):Prop where
 ent:Paired zB es.toList ks
 nd:ks.Nodup
 small:es.size<=127
 tab:TOk t es.size
 led:w.params.followText "set-order"=true\/t.led=true
def As{n:Nat}(h:n<=127):n<scanBound:=by have e:scanBound=4096:=rfl;rw[e];lia
def zr{n:Nat}(h:n<=127):n<=hZ:=fits_of_scanBound<|As h
def wE(w:ji)(a:hO)(c:List Int)(h:jd):Prop:=∃b d t,h.get? a=↑(yc b d t)/\W5 w b t c
def yI{k n:Type}{F:k->n->Prop}{l o:List k}(p:l.Perm o):∀{m:List n},Paired F l m->∃e,m.Perm e/\Paired F o e:=by
 induction p with
 |nil=>intro m h;exact#[m,.refl _,h]
 |cons x _ q =>
  intro m h
  cases h with
  |cons a b =>
   refine e1a2 (q b) λe f g=>?_;exact#[_,.cons _ f,.cons a g]
 |swap x y l =>
  intro m h
  cases h with
  |cons a b =>
   cases b with
   |cons c d=>exact#[_,.swap _ _ _,.cons c<|.cons a d]
 |trans _ _ i j =>
  intro m h;refine e1a2 (i h) λu f g=>?_;refine e1a2 (j g) λr s t=>?_;exact#[r,f.trans s,t]
def HG:∀{g:List (Int×hR)} {h:List Int},Paired zB g h->∀k,(k∈h↔∃e∈g,nA k e.2=true):=by
 intro o p l
 induction l with
 |nil=>intro k;simp
 | @cons e j _ _ m r b =>
  intro k;have n:=b k;obtain⟨_,t,c⟩:=m
  have i:nA k e.2=true↔k=j:=by rw[c];simp[nA];exact eq_comm
  rw[iO,n];constructor
  ·rintro(z|⟨d,f,a⟩)
   ·exact#[e,ic,i.mpr z]
   ·exact#[d,ij _ f,a]
  ·rintro⟨d,f,a⟩;rcases List.mem_cons.mp f with z|z
   ·rw[z]at a;exact .inl<|i.mp a
   ·exact .inr #[d,z,a]
def Dy{a:iT}{w:ji}:∀{d:List (Int×hR)} {g:List Int},Paired zB d g->ElemsOf (kU a w) d:=by
 intro l m h
 induction h with
 |nil=>exact λe b=>by cases b
 | @cons x j _ _ i r c =>
  intro e b;rcases List.mem_cons.mp b with z|z
  ·subst z;obtain⟨k,t,f⟩:=i;refine#[#[j,?_,k],?_]
   ·rw[f];exact qg _ _ _ _
   ·rw[f];rfl
  ·exact c e z
def Nj(h:Paired zB a b):a.length=b.length:=Paired.length h
def W5.size{w:ji}{a:Array (Int×hR)}{t:jZ}{b:List Int}(h:W5 w a t b):a.size=b.length:=by rw[<- ig];exact Nj h.ent
def wE.nodup(x:wE w a b h):b.Nodup:=by refine e3a2 x λc d t e k=>?_;exact k.nd
def wE.of{b:iT}{w:ji}{a:hO}{c:List Int}{h:jd}(x:wE w a c h):h.SetOf (kU b w) a (λk=>decide<|k∈c) c.length:=by refine e3a2 x λd f t e k=>?_;exact#[_,d,f,t,e,#[rfl,rfl,rfl],rfl,Dy k.ent,λj=>by rw[jf];exact HG k.ent j,As k.small,k.tab.fits,k.size]
def wE.keep{b:jd}(x:wE w a c h)(k:∀o,h.get? a=↑o->b.get? a=↑o):wE w a c b:=by refine e3a2 x λd f t e r=>?_;exact#[d,f,t,k _ e,r]
def wE.lt(x:wE w a b h):a<h.objs.size:=by refine e3a2 x λc d t e r=>?_;exact ie e
def wE.typeIs{w:ji}{a:hO}{b:List Int}{s:h9}(x:wE w a b s.heap):s.TypeIs (.ref a) "set":=by refine e3a2 x λc d t e r=>?_;exact#[_,e,rfl]
def UK{h:jd}{a:hO}{f b:Array (Int×hR)}{d:Nat}{t c:jZ}(e:h.get? a=↑(yc f d t)):(h.update a<|Obj.putSet b c).get? a=↑(yc b (d+1) c):=by have z:=jj (Obj.putSet b c) e (by rw[putSet_of b c rfl];rfl);rw[putSet_of b c rfl]at z;exact z
def BI{i b:Array (Int×hR)}{d:Nat}{t f:jZ}{Q:Unit->h9->Prop}(e:s.heap.get? a=↑(yc i d t))(j:b.size<=hZ)
  (h:∀c,jq a s.heap c->c.get? a=↑(yc b (d+1) f)->Q () { s with heap:=c}):ii (ik g w) A (tQ a b f) Q E s :=
 wpAny_storeSet_of e rfl (h _ (o4 ..)<|UK e) j
set_option tactic.hygienic true in
def W6{k:Int}{u:Tok}{Q:Bool->h9->Prop}(S:wE w a i s.heap)(room:i.length+1<=127)
  (h:∀l C,jq a s.heap l->wE w a C l->C.Perm (if k∈i then i else k::i)->Q (!decide (k∈i)) { s with heap:=l}) :
  ii (ik b w) A (setAddHashed a (.int k u)<|n6 k) Q E s:=by
 refine e3a2 S λm ep t e K=>?_;have el:ElemsOf (kU b w) m.toList:=Dy K.ent;have hk:(kU b w).is k (.int k u)=true:=qg _ _ _ _;have D:(kU b w).hash k=n6 k:=rfl;refine iX<|am<|jw e rfl K.tab.fits ?_;dsimp only;rw[byScan_of (knd:=kU b w) rfl (As K.small) el,hI rfl];refine am<|am<|mG<|am ?_;rw[<- D];refine wpAny_setScan_of (knd:=kU b w) hk e rfl K.tab.fits el ?_;have F:=HG K.ent k
 cases hr:sC (λe=>(kU b w).is k e.2) m.toList with
 |some j =>
  refine e1a2 (List.findIdx?_eq_some_iff_getElem.mp hr) λhj hp _=>?_;have G:k∈i:=F.mpr #[_,vk hj,hp];have z:=h s.heap i (mD a s.heap) #[m,ep,t,e,K] (by rw[hI G]);rw[decide_eq_true G]at z;exact ap<|ap z
 |none =>
  have f:k∉i:=λq=>by refine e1a2 (F.mp q) λx hx P=>?_;have:=List.findIdx?_eq_none_iff.mp hr x hx;rw[show (kU b w).is k x.2=true from P]at this;cases this
  have R:m.size<=126:=by rw[K.size];lia
  obtain⟨o,H,le,ll,I,lf,lr,lg,ld⟩:=UJ (h:=n6 k) (x:=.int k u) K.tab R;have J:=layNew_perm t m (n6 k)<|.int k u;rw[D];rw[le]at J ⊢;generalize jy m (iB t.place ((t.freeSlot<|n6 k).getD (0,false)).1) (n6 k,mo k u)=c at J ⊢;rw[qD]at J;have p1:Paired zB ((n6 k,mo k u)::m.toList) (k::i):=.cons ⟨rfl,u,rfl⟩ K.ent;refine e1a2 (yI (J.trans nj).symm p1) λT pk pe=>?_;have U:c.size=m.size+1:=by rw[<- ig,J.length_eq];simp
  rw[<- U]at lf;have p:c.size<=127:=by lia
  have W:T.Nodup:=pk.nodup_iff.mp<|List.nodup_cons.mpr #[f,K.nd];have g:c.size<=hZ:=zr p
  -- ab the end wants,for any uC of X entries
  have L:∀(l:jd) (d:Array (Int×hR)) (v:Nat) (B:jZ),jq a s.heap l->l.get? a=↑(yc d v B)->d.toList.Perm c.toList->TOk B d.size->B.led=t.led->Q true { s with heap:=l}:=by
   intro l d v B sb Y pp f2 l2;refine e1a2 (yI pp.symm pe) λZ q1 q2=>?_;have hs:d.size=c.size:=by rw[<- ig,pp.length_eq,ig]
   have z:=h l Z sb #[d,v,B,Y,q2,q1.nodup_iff.mp W,by rw[hs];exact p,f2,by rw[l2];exact K.led] (by rw[cr f];exact q1.symm.trans pk.symm);rw[io f]at z;exact z
  refine am<|ap ?_
  have n:ii (ik b w) A (do
    tQ a c o
    if (!H&&o.tooFull)=true then do
      (match (tP o c<|mM c.size).2.2 with|true=>rule "set.scan.the-table-gave-way" |false=>pure ())
      tQ a (tP o c<|mM c.size).1 (tP o c<|mM c.size).2.1
      pure ↑true
     else pure ↑true) (λr M=>ii (ik b w) A (match r with|some y=>pure y|none=>setAddHashedIn a (.int k u) (n6 k) 99999) Q E M) E s:=by
   refine am<|BI e g λh1 N o1=>?_;split
   ·refine e2a4 (OH (t:=o) (es:=c) q0a p I) λd B re rp rt rl=>?_;rw[re];refine am<|ap<|am<|BI (s:={ s with heap:=h1}) o1 ?_ λh2 aa Y=>ap<|ap<|L h2 _ _ _ (N.trans aa) Y rp rt<|rl.trans ll;have:d.size=c.size:=by rw[<- ig,rp.length_eq,ig]
    rw[this];exact g
   ·rename_i O
    refine ap<|ap<|L h1 _ _ _ N o1 (.refl _) #[lf,lr,I,lg,?_] ll
    cases H with
    |true=>exact ld rfl
    |false =>
     have:o.tooFull=false:=by simpa using O
     unfold SetTable.tooFull at this;simpa using this
  split
  ·rw[hashByValue_scannable 8 rfl];exact am<|ap n
  ·exact am<|ap n
def W7{k:Int}(S:wE w a c s.heap)(room:c.length+1<=127)
 (h:∀d b f,jq a s.heap d->wE w a b d->b.Perm (if k∈c then c else k::c)->s.toks<=f->Q (!decide (k∈c)) { s with heap:=d,toks:=f}) :
    ii (ik e w) A (setAdd a<|.int k u) Q E s:=by
  refine iX<|am<|(kU e w).pyHash (k:=k) (qg _ _ _ _) ?_
  exact W6 (s:=97) S room λd b g i p=>h d b _ g i p<|mr _
def QI{a:Array (Int×hR)}{k:Int}:∀{b:List Int},Paired zB a.toList b->b.Nodup->∀{j:Nat},sC (λe=>(kU prog w).is k e.2) a.toList=↑j->b[j]?=↑k:=by
 intro b P _ j f;refine e1a2 (List.findIdx?_eq_some_iff_getElem.mp f) λg h _=>?_
 have:∀{a:List (Int×hR)} {b:List Int},Paired zB a b->∀(j:Nat)(e:Int×hR),a[j]?=↑e->∃d,b[j]?=↑d/\zB e d:=by
  intro a b P
  induction P with
  |nil=>intro j e z;simp at z
  |cons x _ i =>
   intro j e z
   cases j with
   |zero =>
    have l:=jp z;subst l;exact#[_,rfl,x]
   |succ j=>exact i j e (by simpa using z)
 obtain⟨d,m,_,u,n⟩:=this P j a.toList[j] (by simp[g]);have c:nA k a.toList[j].2=true:=h;rw[n]at c;have:d=k:=by simpa[nA] using c
 rw[<- this];exact m
def Au:∀{l:List b} {m:List c},Paired F l m->∀i,Paired F (l.take i++l.drop (i+1)) (m.take i++m.drop (i+1)):=by
 intro _ _ z
 induction z with
 |nil=>intro i;simpa using Paired.nil
 |cons x r a =>
  intro i
  cases i with
  |zero=>simpa using r
  |succ i=>simpa using Paired.cons x (a i)
def ym{k:Int}:∀{ks:List Int} {j:Nat},ks[j]?=↑k->ks.Perm (k::(ks.take j++ks.drop (j+1)))
 | [],j,e=>by simp at e
 |x::r,0,e=>by
  have:x=k:=by simpa using e
  subst this;simp
 |x::r,j+1,e=>by have:=ym (ks:=r) (j:=j) (by simpa using e);simpa using(pf x this).trans (List.Perm.swap k x _)
def G0{k:Int}{Q:Bool->h9->Prop}(S:wE w a c s.heap)
 (h:∀p g,jq a s.heap p->wE w a g p->(if k∈c then c.Perm (k::g) else g=c)->Q (decide<|k∈c) { s with heap:=p}) :
    ii (ik b w) A (setDiscardHashed a (.int k u)<|n6 k) Q E s:=by
  refine e3a2 S λd J t e K=>?_
  have F:ElemsOf (kU b w) d.toList:=Dy K.ent
  have L:(kU b w).is k (.int k u)=true:=qg _ _ _ _
  refine am<|am<|jw e rfl K.tab.fits ?_
  dsimp only
  rw[byScan_of (knd:=kU b w) rfl (As K.small) F,hI rfl]
  refine am<|mG<|am ?_
  rw[show n6 k=(kU b w).hash k from rfl]
  refine wpAny_setScan_of (knd:=kU b w) L e rfl K.tab.fits F ?_
  have r:=HG K.ent k
  cases v:sC (λe=>(kU b w).is k e.2) d.toList with
  |none =>
    have f:k∉c:=λq=>by
      refine e1a2 (r.mp q) λx M y=>?_
      have:=List.findIdx?_eq_none_iff.mp v x M
      rw[show (kU b w).is k x.2=true from y]at this
      cases this
    have z:=h s.heap c (mD a s.heap) #[d,J,t,e,K] (by rw[cr f])
    rw[io f]at z
    exact ap<|ap z
  |some j =>
    dsimp only
    have i:=QI (prog:=b) (w:=w) K.ent K.nd v
    have n:k∈c:=j7 i
    have B:j<d.size:=by
      have:=(List.findIdx?_eq_some_iff_getElem.mp v).1
      rwa [ig]at this
    rw[tO]
    refine ap<|am<|jw e rfl K.tab.fits ?_
    have G:=yH.mp K.tab.fits
    have C:t.place[j]?=↑t.place[j]!:=by
      rw[jJ q0a,getElem!_pos]
    have H:t.drop j={ t with place:=jr t.place j,dummies:=jy t.dummies (iB t.dummies t.place[j]!) t.place[j]!}:=by
      unfold SetTable.drop
      rw[C]
    have o:(jr d j).size=d.size-1:=Cp _ _ B
    have l:(jr t.place j).size=d.size-1:=by rw[Cp _ _ q0a];lia
    have I:W5 w (jr d j) (t.drop j) (c.take j++c.drop (j+1)):=by
      refine#[by rw[toList_erase];exact Au K.ent j,?_,by rw[o];have:=K.small;lia,?_,?_]
      · have := (ym i).nodup_iff.mp K.nd
        exact(List.nodup_cons.mp this).2
      · have m := K.tab.room
        unfold lK at m
        rw[H]
        refine#[yH.mpr #[?_,?_],Lv K.tab.rise j,K.tab.plain,K.tab.good,?_]
        · show (jr t.place j).size = _
          rw[l,o]
        · show (jr t.place j).size+(jy t.dummies _ _).size <= t.mask
          rw[l,Ab]
          lia
        · show ((jr t.place j).size+(jy t.dummies _ _).size)*5<t.mask*3
          rw[l,Ab]
          lia
      · rw[H]; exact K.led
    refine am<|BI e (zr I.small) λN D O=>?_
    refine am<|wpAny_point ?_
    have z:=h N _ D #[_,_,_,O,I] (by rw[hI n];exact ym i)
    rw[decide_eq_true n]at z
    exact ap z
def Fd:∀(l:List a)(i:Nat)(x:a),l[i]?=↑x->(x::l.eraseIdx i).Perm l
 | [],i,x,e=>by simp at e
 |y::r,0,x,e=>by
  have:y=x:=by simpa using e
  subst this;simp
 |y::r,i+1,x,e=>by have:=Fd r i x (by simpa using e);rw[oZ];exact(List.Perm.swap y x _).trans<|pf y this
set_option tactic.hygienic true in
def UL(c:Nat->Nat):∀(a k:Nat)(left:List d)(b:Array d),left.length<=a->(rO c a k left b).toList.Perm (b.toList++left):=by
 intro a
 induction a with
 |zero =>
  intro k left b h;have:left=[]:=List.length_eq_zero_iff.mp q0a;subst this;simp[rO]
 |succ a f =>
  intro k left b h;unfold rO;split
  ·rename_i x e
   have g:=(List.getElem?_eq_some_iff.mp e).1;refine(f _ _ _<|by rw[List.length_eraseIdx];split<;>lia).trans ?_;rw[qD,oO];refine rZ _ ?_;exact Fd _ _ _ e
  ·rename_i e
   cases left with
   |nil=>simp
   |cons y r =>
    have:=List.getElem?_eq_none_iff.mp e;have i:=oA (c k) (show 0<(y::r).length by simp)
    lia
def Dz(b:Nat->Nat)(a:Array c):(uD b a).toList.Perm a.toList:=by unfold uD;have:=UL b a.size 0 a.toList #v[] q0o;simpa using this
set_option tactic.hygienic true in
def Yy(S:wE w a f s.heap)(h:∀(c:Array (Int×hR)) (b:List Int),Paired zB c.toList b->b.Perm f->Q c s):ii (ik g w) A (setWalk a) Q E s:=by
 refine e3a2 S λd k t e K=>?_;refine am<|jw e rfl K.tab.fits<|am<|am<|jV<|ap ?_;split
 ·refine am<|jV<|ap ?_;obtain⟨b,p,q⟩:=yI (Dz _ d).symm K.ent;exact h _ b q p.symm
 ·rename_i i
  rw[cr<|by show ¬((!t.plain&&decide (d.size>1))=true);rw[K.tab.plain];simp]
  have j:t.led=true:=by
   rcases K.led with z|z
   ·exact iv z i
   ·exact z
  refine am<|show ii _ A (if (!t.led&&decide (d.size>1))=true then lX "set:maker-not-led" else pure ()) _ _ _ from ?_;rw[j,cr q0o];exact ap<|ap<|h d f K.ent<|.refl _
def QJ(S:wE w a i s.heap)(h:∀(b:Array (Int×hR)) (c:List Int),Paired zB b.toList c->c.Perm i->Q b s) :
  ii (ik d w) A (setWalkUnseen a f g) Q E s:=by
 refine e3a2 (id S) λk l t e K=>?_;refine am<|jw e rfl K.tab.fits<|am<|am<|jV<|ap ?_
 rw[hI (by
  rcases K.led with z|z
  ·have j:(ik d w).w.params.followText "set-order"=true:=z;rw[j];simp
  ·rw[z,K.tab.plain];simp)]
 exact Yy S h
def Ew{b:Nat}{n:Nat}(e:s.heap.get? a=↑(yc d b t))(k:t.fits d.size=true)(h:Q b s):ii (ik c w) A (setEpoch a) Q E s :=
 wpAny_setEpoch_of e rfl k h
def W8{es:Array (Int×hR)}{b:Array Nat}{Q:Array (Int×hR)×jZ->h9->Prop}(p:b.toList.Perm (iG es.size))(h:Q (b.filterMap (es[·]?),d) s) :
  ii (ik c w) A (do
   let some (t,order):=↑(d,b)|lX "internal:set-table-without-room"
   let a:=order.filterMap (es[·]?)
   if a.size != es.size then lX "internal:set-table-lost-an-element"
   pure (a,t)) Q E s:=by
 have e:(b.filterMap (es[·]?)).size=es.size:=by rw[<- ig,(picked p).length_eq,ig]
 dsimp only;rw[cr<|by rw[e];simp];exact ap h
def D7(w:ji)(r:hO)(h:jd):Prop:=∃b a,h.get? r=↑(yc #v[] b<|kP 0 0 a)/\(w.params.followText "set-order"=true\/a=true)
def DA(a:Bool):TOk (kP 0 0 a) 0:=#[rfl,iW,rfl,.inl rfl,by show 0*5<7*3;decide]
def D7.set(x:D7 w r h):wE w r [] h:=by refine e2a2 x λb a e l=>?_;exact#[#v[],b,_,e,.nil,oo,q0q,DA a,l]
set_option tactic.hygienic true in
def UM{m:Sem Unit}{Q:Unit->h9->Prop}(F:D7 w r s.heap)(S:wE w a X s.heap)(ne:r≠a)
 (h:∀Y l,jq r s.heap Y->wE w r l Y->l.Perm X->Q () { s with heap:=Y}):ii (ik I w) A (setMerge r a m) Q E s:=by
  refine e2a2 (id F) λZ c P lr=>?_
  refine e3a2 (id S) λb ep t e K=>?_
  unfold setMerge
  rw[cr<|by simpa using ne]
  refine am<|jw e rfl K.tab.fits ?_
  dsimp only
  by_cases R:b.isEmpty=true
  · rw[hI R]
    have aa:b=#v[]:=by simpa using R
    subst aa
    have:X=[]:=by
      have:=K.ent
      cases this
      rfl
    subst this
    exact ap<|h s.heap [] (mD _ _) F.set<|.refl _
  · rw[cr R]
    have af:1<=b.size:=by
      have:b.size≠0:=λz=>R (by simpa using Array.size_eq_zero_iff.mp z)
      lia
    have T:=K.small
    -- the room
    have go:∀(o:jd)(J:Nat)(d:jZ),jq r s.heap o->o.get? r=↑(yc #v[] J d)->d.place=#v[]->d.dummies=#v[]->d.plain=true->d.led=c->Good d.mask->b.size*5<d.mask*3 ->
        ii (ik I w) A (setState r >>= λx=>match x with
          | (_,_,k)=>match k.road t with
            | .slotForSlot=>tQ r b { t with finger:=k.finger,led:=k.led&&t.led,moves:=k.moves,plain:=k.plain&&t.plain}
            | .clean=>do
              let (b,t) <- (do
                let some (t,order):=(om k.mask k.finger k.moves (led:=k.led&&t.led) (plain:=k.plain&&t.plain) (b.map (·.1)))|lX "internal:set-table-without-room"
                let L:=order.filterMap (b[·]?)
                if L.size != b.size then lX "internal:set-table-lost-an-element"
                pure (L,t))
              tQ r b t
            | .oneByOne=>do
              for (h,x) in <- setWalkUnseen a [r] ↑r do
                let _ <- lw [x] (setAddHashed r x h)
                m
                if (<- setState a).2.1 != ep then lX "set.changed-during-merge") Q E { s with heap:=o}:=by
      intro o J d sb o1 p1 d1 M l1 C rm
      have f1:d.fits (#v[]:Array (Int×hR)).size=true:=yH.mpr #[by rw[p1];rfl,by rw[p1,d1];exact js _]
      refine am<|jw (s:={ s with heap:=o}) o1 rfl f1 ?_
      dsimp only
      have u:w.params.followText "set-order"=true\/(d.led&&t.led)=true:=by
        rcases lr with z|z
        · exact .inl z
        · rcases K.led with y|y
          · exact .inl y
          · exact .inr (by rw[l1, z, y]; rfl)
      have v:d.road t=.slotForSlot\/d.road t=.clean:=by
        unfold uZ lK
        rw[p1,d1]
        simp only[iu,nS,Nat.add_zero,rP,lN,pP]
        split
        · exact .inl rfl
        · exact .inr rfl
      have ab:d.road t=.slotForSlot->t.dummies.isEmpty=true:=λz=>by
        unfold uZ at z
        split at z
        · cases z
        · split at z
          · rename_i q
            exact(Bool.and_eq_true_iff.mp q).2
          · cases z
      have up:∀f,jq r o f->jq r s.heap f:=λf q=>sb.trans q
      rcases v with z|z
      · have hd := ab z
        rw[z]
        refine BI (s:={ s with heap:=o}) o1 (zr T) λf g D=>?_
        refine h f X (up f g) #[b,_,_,D,K.ent,K.nd,T,#[K.tab.fits,K.tab.rise,?_,K.tab.good,K.tab.room],u]<|.refl _
        rw[M,K.tab.plain];rfl
      · rw[z]
        have i:b.size<=d.mask:=by lia
        obtain⟨t2,B,N,p⟩:=Dx (fg:=d.finger) (mv:=d.moves) (led:=d.led&&t.led) (pl:=d.plain&&t.plain) (hs:=b.map (·.1)) C.HF (by rw[mW];exact i)
        refine e0a6 (Dw N) λr1 r2 r3 G U O=>?_
        rw[N]
        rw[mW]at p
        have W:=picked p
        have H:(B.filterMap (b[·]?)).size=b.size:=by rw[<- ig,W.length_eq,ig]
        have j:B.size=b.size:=by rw[<- ig,p.length_eq,l6]
        refine am<|W8 p ?_
        refine BI (s:={ s with heap:=o}) o1 (by rw[H];exact zr T) λf g D=>?_
        refine e1a2 (yI W.symm K.ent) λl q1 q2=>?_
        refine h f l (up f g) #[_,_,_,D,q2,q1.nodup_iff.mp K.nd,by rw[H];exact T,#[yH.mpr #[by rw[O,H,j],?_],r1,?_,by rw[G];exact C,?_],by rw[r2];exact u] q1.symm
        · rw[O, U, j, G]; exact i
        · rw[r3, M, K.tab.plain]; rfl
        · unfold lK
          rw[O,U,j,G]
          exact rm
    refine am<|am<|jw P rfl (DA c).fits ?_
    by_cases hr:b.size*5>=7*3
    · have e1 : (kP 0 0 c).roomFor b.size = some (b.size*2) := by
        unfold ug lK kP
        rw[hI<|by simpa using hr]
        simp
      rw[e1]
      obtain⟨C,g2⟩:=Fc (n:=b.size*2) q0a
      obtain⟨t2,B,N,p⟩:=Dx (fg:=0) (mv:=(kP 0 0 c).movedTo<|jh (b.size*2)-1) (led:=c) (pl:=true) (hs:=(#v[]:Array (Int×hR)).map (·.1)) C.HF (by rw[mW];exact js _)
      refine e0a6 (Dw N) λr1 r2 r3 G U O=>?_
      have ae:(kP 0 0 c).relaid ((#v[]:Array (Int×hR)).map (·.1)) (b.size*2)=↑(t2,B):=N
      refine am<|jw P rfl (DA c).fits ?_
      dsimp only
      rw[cr (by
        have:jh (b.size*2)<=512:=by rcases C with q|q|q|q|q|q|q<;>lia
        have e3:(512:Nat)<=hZ:=by rw[jt];decide
        lia),ae]
      rw[mW]at p
      have W:=picked (es:=#v[]) p
      have H:(B.filterMap ((#v[]:Array (Int×hR))[·]?)).size=0:=by rw[<- ig,W.length_eq];rfl
      have j:B.size=0:=by rw[<- ig,p.length_eq];rfl
      refine am<|W8 (es:=#v[]) p ?_
      refine BI P (by rw[H];exact js _) λf g D=>?_
      have o3:B.filterMap ((#v[]:Array (Int×hR))[·]?)=#v[]:=Array.size_eq_zero_iff.mp H
      rw[o3]at D
      refine go f _ t2 g D (Array.size_eq_zero_iff.mp<|by rw[O,j]) U r3 r2 (by rw[G];exact C) (by rw[G];lia)
    · have e1 : (kP 0 0 c).roomFor b.size = none := by
        unfold ug lK kP
        rw[cr<|by simpa using hr]
      rw[e1]
      refine ap ?_
      exact go s.heap Z (kP 0 0 c) (mD _ _) P rfl rfl rfl rfl (.inl rfl) (by show b.size*5<7*3;lia)
def OI:tR uC "set.__xor__"=↑Builtin.«frozenset.__xor__» :=
 tS (id':="frozenset.__xor__") (by kernel_rfl) (by first|rfl|decide +kernel|(unfold rH;simp +decide [qA])) q0s (by kernel_rfl)
def QK(h:∀a,D7 w ⇑s a->(∀c o,s.heap.get? c=↑o->a.get? c=↑o)->Q (.ref ⇑s) 102):ii (ik b w) A (newSet<|.type "set") Q E s:=by
 refine am<|am<|jV<|ap ?_;refine am<|wpAny_alloc<|ap<|h _ ⟨0,_,iq _ rfl,?_⟩ λc o e=>ci _ e
 cases q:w.params.followText "set-order" with
 |true=>exact .inl rfl
 |false=>exact .inr (by show (!(w.params.followText "set-order"))=true;rw[q];rfl)
def CL(S:wE w a c s.heap)(h:Q true s):ii (ik b w) A (Builtin.Frozenset.isAnySet<|.ref a) Q E s:=by refine am<|mK S.typeIs qh<|ap ?_;exact h
def OJ{m:String}{Q:hR->h9->Prop}(S:wE w a j s.heap)
  (h:∀f b,wE w ⇑s b f->b.Perm j->(∀c o,s.heap.get? c=↑o->f.get? c=↑o)->Q (.ref ⇑s) { s with heap:=f}) :
  ii (ik k w) A (Builtin.Frozenset.newFrom m (.type "set")<|.ref a) Q E s:=by
 refine am<|QK λd r l=>?_;have g:wE w a j d:=S.keep λo e=>l a o e;have u:⇑s≠a:=jD S.lt;refine am<|ap<|am<|iX ?_;refine am<|CL (s:=155) g ?_;rw[hI rfl];refine am<|ap ?_;have i:=g;refine e3a2 i λz B t e K=>?_;refine am<|Ew (n:=0) (s:=155) e K.tab.fits ?_;refine UM (s:=155) r g u λv b x y p=>?_;exact ap<|h v b y p λc o q=>x.extBut c o (iz<|ie q)<|l c o q
set_option tactic.hygienic true in
def a0F{Q:hR->h9->Prop}(Sa:wE w a ka s.heap)(Sb:wE w b kb s.heap)(hl:ka.length+kb.length<=126)
  (h:∀h' ks,wE w ⇑s ks h'->(∀k,k∈ks↔((k∈kb/\k∉ka)\/(k∉kb/\k∈ka)))->(∀c o,s.heap.get? c=↑o->h'.get? c=↑o)->Q (.ref ⇑s) { s with heap:=h'}) :
  ii (ik prog w) A (mV .BitXor (.ref a)<|.ref b) Q E s:=by
 refine wpAny_binaryOp_same (op:=.BitXor) (T:="set") Sa.typeIs Sb.typeIs F.fills_set_xor F.slot_set_xor ?_;refine jl F.slot_set_xor Sa.typeIs OI ?_<|F.args_set_xor_2 _ _;refine am<|am<|ap<|ap ?_;dsimp only;rw[cr im];refine am<|am<|CL Sa<|CL Sb ?_;rw[cr q0o];refine am<|ap<|am ?_
 wp_delta
 refine am<|am<|mK Sa.typeIs qh<|ap ?_;rw[hI rfl];refine am<|OJ Sb λh1 UN S1 p1 k1=>?_;have Sa1:wE w a ka h1:=Sa.keep λo e=>k1 a o e;have ne:⇑s≠a:=jD Sa.lt;refine am<|ap<|am<|iX ?_;unfold Builtin.Frozenset.symmetricDifferenceUpdate;rw[cr<|by simpa using Ne.symm ne];dsimp only;refine am<|lA (s:={ s with heap:=h1}) (wE.typeIs (s:={ s with heap:=h1}) Sa1) ?_;rw[cr q0q];refine am<|CL (s:={ s with heap:=h1}) Sa1 ?_;rw[hI rfl];refine am<|ap<|am<|ap ?_;have a2Y:=Sa1;refine e3a2 a2Y λes ep t e K=>?_;refine am<|Ew (n:=0) (s:={ s with heap:=h1}) e K.tab.fits ?_;refine iX<|am<|QJ (s:={ s with heap:=h1}) Sa1 λes' ks' P' p'=>?_;have nd':ks'.Nodup:=p'.nodup_iff.mpr Sa.nodup;have a4s:=p'.length_eq;have a4t:=p1.length_eq
 refine am (wpAny_forIn_array' _ (λrest _ s2=>∃dn kr h2 k2,ks'=dn++kr/\Paired zB rest kr/\s2={ s with heap:=h2}/\jq ⇑s h1 h2/\wE w ⇑s k2 h2/\k2.length<=UN.length+dn.length /\
   ∀k,k∈k2↔((k∈UN/\k∉dn)\/(k∉UN/\k∈dn))) _ ?turn ?fin es' _ #[[],ks',h1,UN,rfl,P',rfl,mD _ _,S1,hW _,λk=>by simp])
 case fin =>
  rintro _ s2 ⟨dn,kr,h2,k2,e0,P,rfl,sb,S2,_,m⟩;cases P;rw[lR]at e0;subst e0;refine ap<|ap<|ap ⟨_,rfl,q0o,?_⟩;refine h h2 k2 S2 (λk=>?_) λc o q=>sb.extBut c o (iz<|ie q)<|k1 c o q;rw[m k,p1.mem_iff,p'.mem_iff]
 case turn =>
  rintro x rest _ s2 ⟨dn,kr,h2,k2,e0,P,rfl,sb,S2,l2,m⟩
  cases P with
  |cons hx hr =>
   rename_i k kr
   obtain⟨hx1,u,hx2⟩:=hx;rw[hx1,hx2];have nd2:=nd';rw[e0]at nd2
   have hkd:k∉dn:=λq=>by have:=(List.nodup_append.mp nd2).2.2 k q k ic;exact this rfl
   have a4x:dn.length+(kr.length+1)=ks'.length:=by rw[e0,iw,iH]
   have ea:∀h3,jq ⇑s h2 h3->h3.get? a=↑(yc es ep t):=λh3 q=>q.extBut a _ (Ne.symm ne)<|sb.extBut a _ (Ne.symm ne) e
   have W9:∀(R:ForInStep PUnit->h9->Prop) h3 k3,jq ⇑s h2 h3->wE w ⇑s k3 h3->k3.length<=k2.length+1->(∀j,j∈k3↔((j∈k2/\j≠k)\/(j∉k2/\j=k))) ->
     (∀s':h9,(∃dn kr h2 k2,ks'=dn++kr/\Paired zB rest kr/\s'={ s with heap:=h2}/\jq ⇑s h1 h2/\wE w ⇑s k2 h2/\k2.length<=UN.length+dn.length/\∀k,k∈k2↔((k∈UN/\k∉dn)\/(k∉UN/\k∈dn)))->R (.yield #[]) s') ->
     ii (ik prog w) A.in1 (Builtin.Frozenset.unchanged (toString "frozenset."++toString "__xor__") a ep >>= λ_=>pure<|nq PUnit.unit) R E { s with heap:=h3}:=by
    intro R h3 k3 sb3 S3 l3 m3 fin;refine am<|am<|Ew (n:=0) (s:={ s with heap:=h3}) (ea h3 sb3) K.tab.fits ?_;rw[cr q0o];refine ap<|ap<|fin _ ⟨dn++[k],kr,h3,k3,by rw[e0];simp,hr,rfl,sb.trans sb3,S3,by rw[iw];simp;lia,λj=>?_⟩;rw[m3 j,m j,mJ,oq];by_cases q2:j=k
    ·subst q2;by_cases q1:j∈UN<;>simp[q1,hkd]
    ·by_cases q1:j∈UN<;>by_cases q3:j∈dn<;>simp[q1,q2,q3]
   refine am<|iX<|am ?_;refine G0 (s:={ s with heap:=h2}) S2 λh3 k3 sb3 S3 p3=>?_;by_cases ZX:k∈k2
   ·rw[decide_eq_true ZX,cr q0o];rw[hI ZX]at p3;have nd3:=p3.nodup_iff.mp S2.nodup;refine ap<|W9 _ h3 k3 sb3 S3 (by have:=p3.length_eq;rw[iH]at this;lia) (λj=>?_) λ_ z=>z;have q:=p3.mem_iff (a:=j);rw[iO]at q;rw[q];have hk1:=(List.nodup_cons.mp nd3).1;by_cases q2:j=k
    ·subst q2;simp[hk1]
    ·simp[q2]
   ·rw[io ZX,hI q0o];rw[cr ZX]at p3;subst p3;refine am<|W6 (s:={ s with heap:=h3}) S3 q0a λh4 k4 sb4 S4 p4=>?_;rw[cr ZX]at p4;refine ap<|W9 _ h4 k4 (sb3.trans sb4) S4 (by have:=p4.length_eq;rw[iH]at this;lia) (λj=>?_) λ_ z=>z;rw[p4.mem_iff,iO];by_cases q2:j=k
    ·subst q2;simp[ZX]
    ·simp[q2]
section
variable{prog:iT}{w:ji}{A:jL}{R:Result->h9->Prop}{I:hO}{fp wr:List hO}{G:Array pM->Array pM->Prop}{n:Nat}{P:Nat->hR->Prop}{St:Nat->h9->Prop}
set_option tactic.hygienic true in
def Yz(W:WalksS prog w A.in1 I fp wr G n P St)(r:hO)(O:r∉fp)(a:Nat->Int)(g:∀i v,P i v->∃t,v=.int (a i) t)(hb:n<=126) :
  ∀(m i:Nat)(s:h9)(b:List Int),i+m=n->St i s->wE w r b s.heap->(∀k,k∈b↔∃j,j<i/\a j=k)->b.length<=i ->
   (∀h l,Moved (r::wr) G s h->wE w r l h.heap->(∀k,k∈l↔∃j,j<n/\a j=k)->R (.ok<|.ret .none) h) ->
   mI (ik prog w) A (.builtin "set.update.loop" #[[.ref r,.ref I],[]]) R s:=by
 have Q:r∉wr:=λq=>O<|W.sub _ q;have x:∀c∈wr,c∈r::wr:=λc B=>ij _ B;intro m
 induction m with
 |zero =>
  intro i s b X H S d Y f;obtain rfl:i=n:=by lia
  refine j9 uh ?_;rw[jQ pF _];refine am<|W.done s _ _ H λh C=>?_;exact ap<|f h b (C.mono x) (S.keep λo e=>C.heap r o Q e) d
 |succ m Z =>
  intro i s b X H S d Y f;refine j9 uh ?_;rw[jQ pF _];refine am<|W.item i s _ _ q0a H λv T hP J C=>?_;obtain⟨u,rfl⟩:=g i v hP;have S1:wE w r b T.heap:=S.keep λo e=>C.heap r o Q e;refine am<|iX<|W7 S1 q0a λh2 D tk U S2 p E=>?_
  have l2:D.length<=i+1:=by
   have:=p.length_eq;split at this
   ·lia
   ·rw[iH]at this;lia
  refine ap #[lJ pF _,Z (i+1) _ D q0a (W.frame _ T _ _ J E λc B o e=>?_) S2 (λk=>?_) l2 λs3 L M S3 m3=>?_]
  ·rw[U.2 c (λz:c=r=>O<|by rw[<- z];exact B)];exact e
  ·rw[p.mem_iff]
   have q:(k∈if a i∈b then b else a i::b)↔(k=a i\/k∈b):=by
    split
    ·rename_i z
     constructor
     ·exact .inr
     ·rintro(y|y)
      ·rw[y];exact z
      ·exact y
    ·exact iO
   rw[q,d k];constructor
   ·rintro(z|⟨j,hj,e⟩)
    ·exact#[i,q0a,z.symm]
    ·exact#[j,q0a,e]
   ·rintro⟨j,hj,e⟩;by_cases N:j=i
    ·subst N;exact .inl e.symm
    ·exact .inr #[j,q0a,e]
  ·refine f s3 L (Moved.trans W.gtrans ((C.mono x).then_heap E λc o B e=>?_) M) S3 m3;rw[U.2 c (λz:c=r=>B<|by rw[z];exact ic)];exact e
end
def OK(x:hR)(h:∀a,D7 w ⇑s a->(∀c o,s.heap.get? c=↑o->a.get? c=↑o)->Q (.ref ⇑s) 102) :
  mI (ik b w) A (.call (.builtin "set.__new__") #[[.type "set",x],[]]) (wants Q E) s:=by
 refine m6 ?_;refine am<|ng (F.newCall_set_1 x)<|ap #[lJ pZ _,j9 F.entry_set_new ?_];rw[jQ pZ _];unfold Builtin.«set.__new__» pQ;have g:=qh;obtain⟨i,j,k,l,m⟩:=s;dsimp only;generalize d:newSet=n
 wp_walk
 subst d;refine QK λa e f=>?_;exact ap<|h a e f
def Lz(hh:A.handled=none)(hl:s.heap.IsList l b)(hi:lM b.toList x)(hb:b.size<=126)
 (h:∀f G g,wE w ⇑s g f->(∀k,k∈g↔k∈x)->(∀c o,s.heap.get? c=↑o->f.get? c=↑o)->Q (.ref ⇑s) { s with heap:=f,toks:=G}) :
    ii (ik aa w) A (call (.type "set") [.ref l]) Q E s:=by
  obtain⟨c0,tl,ab⟩:=F.called_set.mro
  have J:=F.called_set.made
  have ae:=F.called_set.sub
  refine m8<|m6 ?_
  refine ap #[ot _ q0s,j9 F.entry_type_call ?_]
  rw[ui (vm "set" [.ref l] []) rfl]
  have ag:=F.called_set.notType
  have ah:=F.called_set.canCreate
  have ai:=F.typeCall_set_1<|.ref l
  repeat (any_goals (first|assumption|wp_step))
  refine ko (OK (.ref l) (E:=E) (Q:=λy z=>y=.ref ⇑s/\∃a,z=102/\D7 w ⇑s a/\∀c o,s.heap.get? c=↑o->a.get? c=↑o) λa H u=>#[rfl,a,rfl,H,u]) λr1 s1 m=>?_
  cases r1 with
  |error e=>exact m
  |ok f1 =>
    cases f1 with
    |ret y =>
      obtain⟨rfl,a,rfl,H,u⟩:=m
      have L:wE w ⇑s [] a:=H.set
      have hT:mE 102 (.ref ⇑s) "set":=wE.typeIs (s:=102) L
      have aj:=F.called_set.init.lookup
      have ak:=F.called_set.init.bind<|.ref ⇑s
      repeat (any_goals (first|assumption|wp_step))
      refine ko (oi (R:=wants (λr B=>r=.none/\∃f G g,B={ s with heap:=f,toks:=G}/\wE w ⇑s g f/\(∀k,k∈g↔k∈x)/\∀c o,s.heap.get? c=↑o->f.get? c=↑o) E) F.called_set.init.plain F.entry_set_init<|check_set_init_1 hT ?_) λr2 s2 n=>?_
      · obtain⟨M, p, N, nl, O⟩ := id hl
        have q:a.IsList l b:=#[M,u l M p,N,nl,O]
        have al:mE 102 (.ref l) "list":=q.typeIs
        have q1:=F.sub_list_set
        have q2:=F.sub_list_frozenset
        have q3:(kD "list" == kD "dict")=false:=by decide
        refine e2a2 (id H) λan af e1 l1=>?_
        unfold Builtin.«set.__init__» noKeywords Builtin.Frozenset.updateFrom
        generalize P:pyIter=PI
        wp_walk
        subst P
        refine wpAny_pyIter_list q<|am<|tT ?_
        have S:l<a.objs.size:=ie<|u l M p
        have T:⇑s<a.objs.size:=L.lt
        have U:A.in1.in1.in1.handled=none:=by simp[hh]
        have nr:⇑s∉[a.objs.size,l]:=by
          simp only[iO,jB,mH,qE]
          exact#[iz T,jD<|ie p]
        have C:∀(i:Nat)(v:hR),b[i]?=↑v->∃t,v=.int ((λi=>x.getD i 0) i) t:=λi v hv=>rs hi i v (by rw[ja];exact hv)
        have d:∀c o,a.get? c=↑o->(a.push { cls:=.type "list_iterator",data:=.fields #v[.ref l,.int 0 0]}).get? c=↑o:=λc o e=>ci _ e
        have D:=rA hi
        rw[ig]at D
        refine Yz ((Walks.list U _ l (iz S) b).toS) ⇑s nr (λi=>x.getD i 0) C hb b.size 0 _ [] q0a #[#[_,iq _ rfl,rfl,rfl],q.push _] (L.keep λo e=>d _ o e) (λk=>by simp) (js _) λs2 W I S2 m2=>?_
        obtain⟨h2,g2,d2,X,Y⟩:=s2
        have eg:g2=s.gens:=I.gens
        have ed:d2=s.drawn:=I.drawn
        have eo:Y=s.os:=I.os
        subst eg ed eo
        refine ap<|ap ⟨rfl,h2,X,W,rfl,S2,λk=>?_,λc o e=>?_⟩
        · rw[m2 k]
          constructor
          · rintro⟨j, Z, e⟩
            rw[<- e]
            have:j<x.length:=by lia
            simp[jG,this]
          · intro hk
            obtain⟨j,Z⟩:=ml hk
            refine#[j,by have:=(List.getElem?_eq_some_iff.mp Z).1;lia,?_]
            simp[jG,Z]
        · refine I.heap c o ?_ (d c o<|u c o e)
          simp only[iO,jB,mH,qE]
          exact#[iz<|ie e,iz<|ie<|u c o e]
      · cases r2 with
        |error e=>exact n
        |ok f2 =>
          cases f2 with
          |ret r =>
            obtain⟨rfl,f,G,g,rfl,S',m',k'⟩:=n
            repeat (any_goals (first|assumption|wp_step))
            exact h _ _ g S' m' k'
          |_=>exact n.elim
    |_=>exact m.elim
def xF:Slot "set_iterator" "__next__" "set_iterator.__next__" :=
 .of (owner:="set_iterator") (n:="__next__") (by rw[oB,mu];kernel_rfl) q0s q0s q0s (by first|exact .inl q0s|exact .inr q0s) (by rw[tU];kernel_rfl)
def QL:Manifest.owners.lookup (String.ofList ['r','o','t','a','r','e','t','i','_','t','e','s'].reverse)=↑Manifest.sig_set_iterator:=by kernel_rfl
def CM(a:hR):si "set_iterator.__next__" #[[a],[]]:=by unfold si;rw[signature?_of (id:="set_iterator.__next__") (n:=['_','_','t','x','e','n','_','_']) (o:=['r','o','t','a','r','e','t','i','_','t','e','s']) (by kernel_rfl) QL];kernel_rfl
def B6:tR uC "set_iterator.__next__"=↑Builtin.«set_iterator.__next__»:=entryFor_of_tree (by kernel_rfl)
def CN:Slot "set_iterator" "__iter__" "set_iterator.__iter__" :=
 .of (owner:="set_iterator") (n:="__iter__") (by rw[oB,mu];kernel_rfl) q0s q0s q0s (by first|exact .inl q0s|exact .inr q0s) (by rw[tU];kernel_rfl)
def HH(a:hR):si "set_iterator.__iter__" #[[a],[]]:=by unfold si;rw[signature?_of (id:="set_iterator.__iter__") (n:=['_','_','r','e','t','i','_','_']) (o:=['r','o','t','a','r','e','t','i','_','t','e','s']) (by kernel_rfl) QL];kernel_rfl
def Gn:tR uC "set_iterator.__iter__"=↑Builtin.«dict_keyiterator.__iter__» :=
 tS (id':="dict_keyiterator.__iter__") (by kernel_rfl) (by first|rfl|decide +kernel|(unfold rH;simp +decide [qA])) q0s (by kernel_rfl)
def Fe:tR uC "set.__iter__"=↑Builtin.«frozenset.__iter__» :=
 tS (id':="frozenset.__iter__") (by kernel_rfl) (by first|rfl|decide +kernel|(unfold rH;simp +decide [qA])) q0s (by kernel_rfl)
noncomputable abbrev a0I(b i n c:Nat)(a:hO):Obj:={ cls:=.type "set_iterator",dict:=none,data:=.fields #v[mq b,mq i,.ref a,mq n,mq c],slots:=#v[]}
noncomputable def LA(w:ji)(a:hO)(b:Array (Int×hR))(c:Nat):Array (Int×hR):=if w.params.followText "set-order"=true then uD (w.params.setOrder a c) b else b
def DB(w:ji)(a:hO)(b:Array (Int×hR))(c:Nat):(LA w a b c).toList.Perm b.toList:=by
 unfold LA;split
 ·exact Dz _ b
 ·exact .refl _
def SIt(w:ji)(e a:hO)(c:Array (Int×hR))(d:Nat)(t:jZ)(i:Nat)(h:jd):Prop :=
 ∃b,(w.params.followText "set-order"=false->iB t.place b=i)/\h.get? e=↑(a0I b i c.size d a)/\h.get? a=↑(yc c d t)
def JQ(e:s.heap.get? b=some { cls:=cls,dict:=none,data:=.fields c,slots:=#v[]})(h:Q c s):ii (ik a w) A (fieldsOf<|.ref b) Q E s:=by exact am<|ro e<|ap h
set_option tactic.hygienic true in
def OM{c i:Nat}(e:s.heap.get? a=↑(yc g k t))(K:W5 w g t p)(n:w.params.followText "set-order"=false->iB t.place c=i)
 (d:(LA w a g k)[i]?=↑x)(h:∀l,(w.params.followText "set-order"=false->iB t.place l=i+1)->Q ↑(x.2,l) s):ii (ik f w) A (setNext a c i k) Q E s:=by
  have q:=yH.mp K.tab.fits
  refine am<|jw e rfl K.tab.fits<|am<|am<|jV<|ap ?_
  dsimp only
  unfold LA at d
  split
  · rename_i j
    have b:w.params.followText "set-order"=true:=j
    rw[hI b]at d
    rw[cr q0o]
    refine am<|am<|jw e rfl K.tab.fits<|am<|am<|jV<|ap ?_
    rw[hI j]
    refine am<|jV<|ap<|ap ?_
    rw[show (ik f w).w=w from rfl,d]
    exact h c λz=>by rw[b]at z;cases z
  · rename_i j
    have b:w.params.followText "set-order"=false:=Bool.eq_false_iff.mpr j
    rw[cr<|by rw[b];simp]at d
    rw[cr<|by show ¬((!t.plain&&decide (g.size>1))=true);rw[K.tab.plain];simp]
    have o:t.led=true:=by
      rcases K.led with z|z
      · rw[b]at z; cases z
      · exact z
    refine am<|show ii _ A (if (!t.led&&!g.isEmpty)=true then lX "set:maker-not-led" else pure ()) _ _ _ from ?_
    rw[o,cr q0o]
    have r:=(Array.getElem?_eq_some_iff.mp d).1
    rw[n b,d]
    have m:t.place[i]?=↑t.place[i]!:=by rw[jJ q0a,getElem!_pos]
    rw[m]
    refine ap<|ap<|h _ λ_=>?_
    exact Ls K.tab.rise (by rw[ja];exact m)
set_option tactic.hygienic true in
def ON{c:Nat}(e:s.heap.get? a=↑(yc b i t))(K:W5 w b t l)(j:w.params.followText "set-order"=false->iB t.place c=b.size)(h:Q none s):ii (ik d w) A (setNext a c b.size i) Q E s:=by
 refine am<|jw e rfl K.tab.fits<|am<|am<|jV<|ap ?_;dsimp only;split
 ·rename_i g
  rw[cr q0o];refine am<|am<|jw e rfl K.tab.fits<|am<|am<|jV<|ap ?_;rw[hI g];refine am<|jV<|ap<|ap ?_
  have:(uD ((ik d w).w.params.setOrder a i) b)[b.size]?=none:=by rw[Array.getElem?_eq_none_iff,<- ig,(Dz _ b).length_eq,ig];exact hW _
  rw[this];exact h
 ·rename_i g
  have f:w.params.followText "set-order"=false:=Bool.eq_false_iff.mpr g;rw[cr<|by show ¬((!t.plain&&decide (b.size>1))=true);rw[K.tab.plain];simp]
  have k:t.led=true:=by
   rcases K.led with z|z
   ·rw[f]at z;cases z
   ·exact z
  refine am<|show ii _ A (if (!t.led&&!b.isEmpty)=true then lX "set:maker-not-led" else pure ()) _ _ _ from ?_;rw[k,cr q0o,j f];rw[show b[b.size]?=none from by simp];exact ap<|ap h
def OO(hh:A.handled=none)(K:W5 w es t ks)(ne:a≠it):Walks prog w A it [it,a] [it] es.size (λi v=>∃x,(LA w a es ep)[i]?=↑x/\v=x.2) (SIt w it a es ep t) where
 sub:=λb hb=>by simp at hb;simp[hb]
 frame:=λi h h' z9=>e1a3 z9 λsl z e1 e2 k=>#[sl,z,k it q0o _ e1,k a q0o _ e2]
 item:=by
  rintro i s Q E hi ⟨sl,z,e1,e2⟩ hQ;have hT:s.TypeIs (.ref it) "set_iterator":=#[_,e1,rfl];refine am<|pG<|wpAny_callSpecial?_slot (name:=mB "__next__") hT xF<|jl xF hT B6 ?_<|CM _;refine am<|ap<|am<|JQ e1 ?_;refine am<|qV e2 rfl K.tab.fits ?_;rw[cr q0o]
  obtain⟨x,hx⟩:∃x,(LA w a es ep)[i]?=some x:=by
   have hl:i<(LA w a es ep).size:=by rw[<- ig,(DB w a es ep).length_eq,ig];exact hi
   exact#[_,jJ hl]
  refine am<|OM e2 K z hx λsl' z'=>?_;refine am<|kf e1 q0o λh1 o1 sb1=>am<|kf (s:={ s with heap:=h1}) o1 q0o λh2 o2 sb2=>ap #[_,rfl,ap ?_];have sb:=sb1.trans sb2;exact hQ _ h2 _ #[x,hx,rfl] #[sl',z',o2,sb.extBut a _ ne e2] λb o hb q=>sb.extBut b o (by simpa using hb) q
 done:=by
  rintro s Q E ⟨sl,z,e1,e2⟩ hQ;have hT:s.TypeIs (.ref it) "set_iterator":=#[_,e1,rfl];refine am<|pG<|wpAny_callSpecial?_slot (name:=mB "__next__") hT xF<|jl xF hT B6 ?_<|CM _;refine am<|ap<|am<|JQ e1 ?_;refine am<|qV e2 rfl K.tab.fits ?_;rw[cr q0o];refine am<|ON e2 K z ?_;refine am<|kf e1 q0o λh1 o1 sb1=>am ?_;refine am<|je ?_ (by size_fits);refine am (m:=qF _ _)<|ng (a:=Value.none) (by first|rfl|(simp only[qF];rfl))<|je ?_ (by size_fits)
  refine wpAny_raiseNew_none hh<|am<|mK (T:="StopIteration") (b:=true) ⟨_,iq _ rfl,rfl⟩ isSubtype_stop<|ap ?_;exact hQ _ _ λb o hb q=>ci _<|ci _<|sb1.extBut b o (by simpa using hb) q
 self:=by rintro i s Q E ⟨sl,z,e1,e2⟩ hQ;have hT:s.TypeIs (.ref it) "set_iterator":=#[_,e1,rfl];refine wpAny_pyIter_slot hT CN<|jl CN hT Gn ?_<|HH _;exact ap #[_,rfl,"set_iterator",_,hT,xF.lookup,hQ]
def YA(e:s.heap.get? a=↑(yc f i t))(K:W5 w f t j)
 (h:∀d,SIt w ⇑s a f i t 0 d->(∀c o,s.heap.get? c=↑o->d.get? c=↑o)->d.objs.size=⇑s+1->Q (.ref ⇑s) 155):ii (ik b w) A (pyIter<|.ref a) Q E s:=by
  have g:s.TypeIs (.ref a) "set":=#[_,e,rfl]
  refine wpAny_pyIter_slot g F.slot_set_iter<|jl F.slot_set_iter g Fe ?_<|F.args_set_iter_1 _
  refine am<|am<|ap<|ap<|am<|am<|qV e rfl K.tab.fits<|ap ?_
  refine am<|am<|jw e rfl K.tab.fits<|am<|am<|jV<|ap<|ap ?_
  rw[cr<|by show ¬((!(ik b w).w.params.followText "set-order"&&(!t.plain&&decide (f.size>1)))=true);rw[K.tab.plain];simp]
  refine am<|ap<|am<|Ew (n:=0) e K.tab.fits ?_
  refine am<|je ?_ (by size_fits)
  refine ap #[_,rfl,"set_iterator",_,#[_,iq _ rfl,rfl],xF.lookup,?_]
  exact h _ #[0,λ_=>Lu K.tab.rise,iq _ rfl,ci _ e] (λc o q=>ci _ q)<|jR _ _
def HI:nY (.type "set") "__len__"=pure (some<|.builtin "set.__len__"):=by rw[oB,mu];kernel_rfl
def UO(P:Paired zB a b):∀(j:Nat)(e:Int×hR),a[j]?=↑e->∃k,b[j]?=↑k/\zB e k:=by
 induction P with
 |nil=>intro j e z;simp at z
 |cons x _ c =>
  intro j e z
  cases j with
  |zero =>
   have d:=jp z;subst d;exact#[_,rfl,x]
  |succ j=>exact c j e (by simpa using z)
def Ba:∀{a:List hR} {b:List Int},a.length=b.length->(∀(i:Nat)(v:hR),a[i]?=↑v->∃k u,b[i]?=↑k/\v=mo k u)->lM a b
 | [],[],_,_=>.nil
 | [],_::_,h,_=>by simp at h
 |_::_,[],h,_=>by simp at h
 |v::a,n::b,h,k=>by
  refine e2a2 (k 0 v rfl) λc u d f=>?_;have:n=c:=by simpa using d
  subst this;subst f
  exact .cons _ _ (Ba (by simpa using h) λi g e=>by
   refine e2a2 (k (i+1) g<|by simpa using e) λj l m o=>?_
   exact#[j,l,by simpa using m,o])
def OP(hh:A.handled=none)(S:wE w a ks s.heap)
 (h:∀M tk Z G,lM Z G->G.Perm ks->(∀c o,s.heap.get? c=↑o->M.get? c=↑o)->⇑s<=M.objs.size->Q Z { s with heap:=M,toks:=tk}):ii (ik r w) A (collect<|.ref a) Q E s:=by
  refine e3a2 (id S) λH I t e K=>?_
  have d:a<⇑s:=ie e
  refine am<|tT<|j9 uE ?_
  rw[jQ uF _]
  refine am (m:=newList [])<|je<|ap #[lJ o5 _,j9 F.entry_list_iadd ?_]
  rw[jQ o5 _]
  have l:∀c o,s.heap.get? c=↑o->(s.heap.push 65).get? c=↑o:=λc o q=>ci _ q
  have oL:(s.heap.push 65).get? ⇑s=some 65:=iq _ rfl
  have f:(s.heap.push 65).objs.size=⇑s+1:=jR _ _
  generalize s.heap.push 65=n at l oL f ⊢
  show ii _ A.in1 (qx (.ref ⇑s) (.ref a)<|.ref ⇑s) _ _ { s with heap:=n}
  have hT:mE { s with heap:=n} (.ref a) "set":=#[_,l a _ e,rfl]
  refine am<|lA hT ?_
  have n1:mh (.ref ⇑s) (.ref a)=false:=by simp[mh,jD d]
  have n2:(kD "set" == kD "list")=false:=by decide
  have n3:(kD "set" == kD "tuple")=false:=by decide
  simp only[n1,n2,n3,sD,lN,pP]
  refine am<|YA (s:={ s with heap:=n}) (l a _ e) K λp I2 N ae=>?_
  have j:mE { s with heap:=p} (.ref a) "set":=#[_,N a _<|l a _ e,rfl]
  refine am<|iX ?_
  refine am<|qj j HI ?_
  generalize BV:("set.__len__":String)=O
  dsimp only
  rw[show splitId O=some ("set","__len__") from by subst BV;decide +kernel]
  subst BV
  refine am<|mK (b:=true) j qh ?_
  rw[cr q0o]
  rw[hI q0s]
  refine am<|lA j<|ap ?_
  rw[hI q0s]
  refine am<|mG<|am ?_
  have y:=N _ _ oL
  have P:A.in1.handled=none:=by simp[hh]
  have ne:a≠n.objs.size:=iz<|oh d (by rw[f];exact jP _)
  have W:=(OO (prog:=r) (A:=A.in1) (ep:=I) P K ne).toS
  refine am<|qo y rfl ?_
  have B:=jj (Obj.mapSeq (·.push Value.none)) y rfl
  refine qo B rfl ?_
  have C:=jj (Obj.mapSeq (·.pop)) B rfl
  have J:∀c o,c≠⇑s->p.get? c=↑o->((p.update ⇑s (Obj.mapSeq (·.push Value.none))).update ⇑s (Obj.mapSeq (·.pop))).get? c=↑o :=
    λc o hc q=>(iZ _ _<|Ne.symm hc).trans<|(iZ _ _<|Ne.symm hc).trans q
  have R:((p.update ⇑s (Obj.mapSeq (·.push Value.none))).update ⇑s (Obj.mapSeq (·.pop))).objs.size=p.objs.size:=by rw[o6,o6]
  have T:⇑s∉[n.objs.size,a]:=by
    simp only[iO,jB,mH,qE]
    exact#[by rw[f];exact iz<|jP _,jD d]
  generalize (p.update ⇑s (Obj.mapSeq (·.push Value.none))).update ⇑s (Obj.mapSeq (·.pop))=h4 at C J R ⊢
  refine e1a3 I2 λsl z i1 i2=>?_
  have I4:SIt w n.objs.size a H I t 0 h4:=#[sl,z,J _ _ (by rw[f];exact jD<|jP _) i1,J _ _ (iz d) i2]
  refine ap #[lJ qG _,codeAny_extend_loopS W (zr K.small) _ T _ H.size 0 _ _ _ rfl (js _) I4 C (ItemsOf.nil _) λs5 U c5 L D g=>?_]
  refine am<|ro D<|ap ?_
  obtain⟨h5,g5,d5,X,Y⟩:=s5
  have eg:g5=s.gens:=L.gens
  have ed:d5=s.drawn:=L.drawn
  have eo:Y=s.os:=L.os
  subst eg ed eo
  -- aa ab
  refine e1a2 (yI (DB w a H I).symm K.ent) λG pp pe=>?_
  have k5:∀c o,s.heap.get? c=↑o->h5.get? c=↑o:=λc o q=>L.heap c o (by
    simp only[iO,jB,mH,qE]
    exact#[iz (ie q),iz (ie (l c o q))]) (J c o (iz (ie q)) (N c o (l c o q)))
  refine h h5 X U.toList G (Ba ?_ λi v hv=>?_) pp.symm k5<|my<|ie D
  · rw[ig, g.1, <- Nj pe, ig, <- ig, <- ig, (DB w a H I).length_eq]
  · obtain⟨x, hx, rfl⟩ := g.2 i v (by rw[<- ja]; exact hv)
    obtain⟨k,hk,_,u,hu⟩:=UO pe i x (by rw[ja];exact hx)
    exact#[k,u,hk,hu]
def DC 
 (C:∀(u:List hR->h9->Prop),(∀b e a d,lM a d->d.Perm x->(∀c o,s.heap.get? c=↑o->b.get? c=↑o)->⇑s<=b.objs.size->u a { s with heap:=b,toks:=e})->ii (ik f w) A.in1 (collect v) u E s)
 (k:x.length<64) (h:∀b e r a d,⇑s<=r->lM a d->d.Perm x->d.Pairwise (·<=·)->(∃n,b.get? r=some 112)->(∀c o,s.heap.get? c=↑o->b.get? c=↑o)->Q (.ref r) { s with heap:=b,toks:=e}) :
    ii (ik f w) A (call 156 [v]) Q E s:=by
  refine r8 kind_sorted plain_sorted entry_sorted (args_sorted1 _) ?_
  refine am (m:=checkCount "sorted" 1 1 _)<|ap ?_
  refine am<|C _ λl e a d y z B D=>?_
  have g:a.length<64:=by rw[rA y,z.length_eq];exact k
  refine am<|ur ?_
  have p:(l.push<|mQ "list" a.toArray 0).get? l.objs.size=↑(mQ "list" a.toArray 0):=iq _ rfl
  refine am<|iX<|jl slot_list_sort ⟨_,p,rfl⟩ entry_list_sort (list_sort_tree p y g λi t F G H=>#[_,rfl,?_])<|args_list_sort _
  obtain⟨I,J⟩:=sortedHeap_at (out:=i) p
  refine ap #[_,rfl,h _ e l.objs.size i.toList t D F (G.trans z) H #[I,by simpa using J] λc o q=>?_]
  have j:=ie<|B c o q
  rw[sortedHeap_old (iz j)<|by rw[tV];exact oS j]
  exact ci _<|B c o q
def HJ(j:A.handled=none)(S:wE w a f s.heap)(b:f.length<64)
 (h:∀d l r g e,⇑s<=r->lM g e->e.Perm f->e.Pairwise (·<=·)->(∃n,d.get? r=some { cls:=.type "list",data:=.seq g.toArray n})->(∀c o,s.heap.get? c=↑o->d.get? c=↑o)->Q (.ref r) { s with heap:=d,toks:=l}) :
    ii (ik i w) A (call 156 [.ref a]) Q E s :=
  DC (λ_ k=>OP (by simp[j]) S k) b h
def Go{a:List hR}(p:s.heap.IsList l a.toArray)(b:lM a i)(d:i.length<64)
 (h:∀f t r j g,⇑s<=r->lM j g->g.Perm i->g.Pairwise (·<=·)->(∃n,f.get? r=some { cls:=.type "list",data:=.seq j.toArray n})->(∀c o,s.heap.get? c=↑o->f.get? c=↑o)->Q (.ref r) { s with heap:=f,toks:=t}) :
    ii (ik m w) A (call 156 [.ref l]) Q E s :=
  DC (λ_ k=>collect_list p (k _ s.toks _ _ b (.refl _) (λc o q=>(iZ _ _ (jD (ie q))).trans (ci _ q)) (by rw[o6,tV];exact mr _)) (by
    have:=rA b
    have e:(64:Nat)<=hZ:=by rw[jt];decide
    lia)) d h
end SX
namespace L2
open PySem PySem.Spec PyProof.Rows SX
def BJ{a:List Int}(h:Vals (a.map V.int) b):lM b a:=intsAre_of h
def UP(h:lM a b):Vals (b.map V.int) a:=GV h
noncomputable def xV(w:ji)(p:hO)(a:List Int):HO:=.ext<|wE w p a
def Av(I:Inv X a c H s)(h:H p=↑(xV X.w p b)):wE X.w p b s.heap:=(I.wy p _ h).1
def HK(x:wE w p a h):wJ P w H h p (xV w p a) :=
 #[x,(e3a2 x λ_ _ _ e _=> #[_,e]),λ_ _ q k=>q.keep k]
def JR(i:X.calm=true):zq X (.type "set") (λe H Q=>∃(a:hO)(c:List Int),e=[.ref a]/\wR X.K H a (c.map V.int)/\c.length<=126/\∀(p:hO)(b:List Int),H p=none->b.Nodup->b.length<=c.length->(∀k,k∈b↔k∈c)->Q (.ref p) (upd H p<|xV X.w p b)):=by intro f s z H e A Q I r h;obtain⟨a,c,rfl,j,B,q⟩:=h;obtain⟨u,rfl,l⟩:=vals1 r;cases l;refine e1a3 (I.list j) λn g o C=>?_;have t:=BJ g;have d:=g.length;rw[h8]at d;refine Lz (I.ok.hd i) o.isList (by simpa using t) (by rw[iu];lia) λD v b S m k=>?_;refine#[.ref ⇑s,_,I.laid (t':=v) k (hW _)<|HK S,rfl,q _ b (I.wy.fresh<|hW _) S.nodup (Aa _ _ S.nodup λx y=>(m x).mp y) m]
def UQ:AZ X (mV .BitXor) (λx y H Q=>∃(a b:hO)(c d:List Int),x=.ref a/\y=.ref b/\H a=↑(xV X.w a c)/\H b=↑(xV X.w b d)/\c.length+d.length<=126 /\
  ∀(p:hO)(e:List Int),H p=none->e.Nodup->(∀k,k∈e↔((k∈d/\k∉c)\/(k∉d/\k∈c)))->Q (.ref p) (upd H p (xV X.w p e))):=by
 intro f s o H x y v u Q I g i h;obtain⟨a,b,c,d,rfl,rfl,j,l,n,q⟩:=h;cases g;cases i;refine a0F (Av I j) (Av I l) n λr e S m k=>?_;exact#[.ref ⇑s,_,I.laid (t':=s.toks) k (hW _)<|HK S,rfl,q _ e (I.wy.fresh<|hW _) S.nodup m]
def Cr{g:List Int}(I:Inv X b k H s)(l:g.length<64)(q:∀(p:hO)(a:List Int),H p=none->a.Perm g->a.Pairwise (·<=·)->Q (.ref p) (upd H p<|.lst<|a.map V.int)) :
  ∀(d:jd)(h:Nat)(r:hO)(f:List hR)(a:List Int),⇑s<=r->lM f a->a.Perm g->a.Pairwise (·<=·)->(∃n,d.get? r=some { cls:=.type "list",data:=.seq f.toArray n})->(∀c o,s.heap.get? c=↑o->d.get? c=↑o)->EP X b k Q (.ref r) { s with heap:=d,toks:=h}:=by
 intro d h r f a i m j t u v;obtain⟨n,e⟩:=u;have w:(64:Nat)<=hZ:=by rw[jt];decide
 exact#[.ref r,_,I.laid (t':=h) (o:=.lst<|a.map V.int) v i #[by rw[h8,j.length_eq];lia,f,n,UP m,e],rfl,q r a (I.wy.fresh i) j t]
def CO(g:X.calm=true):zq X 156 (λe H Q=>∃(a:hO)(c:List Int),e=[.ref a]/\H a=↑(xV X.w a c)/\c.length<64/\∀(p:hO)(d:List Int),H p=none->d.Perm c->d.Pairwise (·<=·)->Q (.ref p) (upd H p<|.lst<|d.map V.int)):=by intro f s k H e l Q I r h;obtain⟨a,c,rfl,i,b,q⟩:=h;obtain⟨u,rfl,j⟩:=vals1 r;cases j;exact HJ (I.ok.hd g) (Av I i) b<|Cr I b q
def HL:zq X 156 (λe H Q=>∃(a:hO)(c:List Int),e=[.ref a]/\wR X.K H a (c.map V.int)/\c.length<64/\∀(p:hO)(d:List Int),H p=none->d.Perm c->d.Pairwise (·<=·)->Q (.ref p) (upd H p<|.lst<|d.map V.int)):=by intro f s m H e n Q I r h;obtain⟨a,c,rfl,g,b,q⟩:=h;obtain⟨u,rfl,i⟩:=vals1 r;cases i;refine e1a3 (I.list g) λj k l o=>?_;exact Go l.isList (BJ k) b<|Cr I b q
def Ex(X:Cx)(H:Hp)(x:V)(d:PyData):Prop:=∀(a:List (hO×Obj)) (b:St) (s:h9) (u:hR),Inv X a b H s->RelV x u->∃c,Reads s.heap u d c
def Ex.int(i:Int):Ex X H (.int i) (.int i):=λ_ _ _ _ _ r=>by obtain⟨t,rfl⟩:=r;exact#[_,Reads.int i t]
def G4(I:Inv X a e H s):∀{c:List V} {d:List hR} {b:List PyData},Vals c d->Paired (Ex X H) c b->∃f,ReadsAll s.heap d b f:=by
 intro _ _ b z
 induction z generalizing b with
 |nil=>intro w;cases w;exact#[_,.nil]
 |cons r t g=>intro w;cases w with|cons q p =>
  obtain⟨j,h⟩:=q a e s _ I r;obtain⟨k,i⟩:=g p;exact#[_,.cons h i]
def Ex.lst(h:wR X.K H a c)(p:Paired (Ex X H) c d):Ex X H (.ref a) (.list d):=λb m s u I r=>by
 cases r;refine e1a3 (I.list h) λe f g _=>?_;obtain⟨q,i⟩:=G4 I f p;obtain⟨o,j,k,n,l⟩:=g.isList;exact#[_,Reads.list j k l<|by simpa using i]
def a0J(X:Cx)(a:Bool):R2:=λx y H Q=>∃d e,Ex X H x d/\Ex X H y e/\sQ d=true/\sQ e=true/\pR d e=true/\Q (.bl<|if a then !PySem.Spec.same d e else lF d e) H
def YB(c:X.A.units+64<kI):AZ X (jH .Eq) (a0J X false):=by intro a s b H x y v u Q I f g h;obtain⟨d,e,i,j,k,l,m,q⟩:=h;obtain⟨p,n⟩:=i a b s v I f;obtain⟨r,o⟩:=j a b s u I g;exact eq_dataH_same n o k l c m #[.bl _,H,I,rfl,q]
def QM(c:X.A.units+64<kI):AZ X (jH .NotEq) (a0J X true):=by intro a s b H x y v u Q I f g h;obtain⟨d,e,i,j,k,l,m,q⟩:=h;obtain⟨p,n⟩:=i a b s v I f;obtain⟨r,o⟩:=j a b s u I g;exact ne_dataH_same n o k l c m #[.bl _,H,I,rfl,q]
def JS:zq X (.builtin "isinstance") (λa H Q=>∃(x:V)(T:String)(t:hR)(b:Bool),a=[x,.ty T]/\zP X.K H x t/\nX X.K t (.type T)=↑b/\Q (.bl b) H):=by intro c s j H a k Q I r h;obtain⟨x,T,t,b,rfl,d,e,q⟩:=h;obtain⟨u,v,rfl,f,g⟩:=vals2 r;cases g;exact GL I f d e λi=>#[.bl b,H,I.tok i,rfl,q]
def a0K:V->V->Hp->VK->Prop:=λo i H Q=>∃(p:hO)(a:List V)(k:Int)(v:V),o=.ref p/\i=.int k/\H p=↑(.lst a)/\0<=k/\a[k.toNat]?=↑v/\Q v H
def QN:a0e X a0K:=by intro a s w H o i x y Q I c d h;obtain⟨p,z,k,v,rfl,rfl,e,f,b,q⟩:=h;cases c;obtain⟨t,rfl⟩:=d;refine e1a3 (I.list<|wR.of (K:=X.K) e) λg r j A=>?_;refine e1a2 (r.get b) λu l m=>?_;have B:=EZ;have n:=(List.getElem?_eq_some_iff.mp b).1;exact wpAny_getItem_list j.isList f q0a (by simpa using l) #[v,H,I,m,q]
noncomputable abbrev Gg(X:Cx)(a:mi)(d:List (Str×hO))(e:List Str)(b:h9)(c:Hp)(C:hO)(f:List hO)(g:List (hO×Obj)):Cx :=
 { X with N:=e,s₀:=b,H₀:=c,env:=tW a d C X.env,outer:=X.stack,stack:=X.stack,ex:=f,fn:=λ_=>false,pn:=g,xe:=λ_ _=>False}
structure zQ(X:Cx)(scope:mi)(cl:List (Str×hO))(T Fr:List Str)(idx:List Nat):Prop where
 kind:scope.kind=.function
 a0L:oX scope X.env=pure cl
 Ct:∀y∈scope.names,y.2≠.cell
 names:∀y∈scope.names,y.2=.local->scope.names.lookup y.1=some .local
 sub:∀x c,cl.lookup x=↑c->X.env.cells.lookup x=↑c
 frl:∀y∈scope.names,y.2=.free->∃c,cl.lookup y.1=↑c
 fr:∀(j:Nat)(x:Str),Fr[j]?=↑x->∃i c,idx[j]?=↑i/\X.N[i]?=↑x/\(X.env.kindOf x=some .cell\/X.env.kindOf x=some .free)/\cl.lookup x=↑c/\((pq scope X.env).names.lookup x=some .cell\/(pq scope X.env).names.lookup x=some .free)
 len:idx.length=Fr.length
noncomputable def yd(T:List Str)(a:List Nat)(b:St):St:=T.map (λ_=>none)++a.map λi=>b[i]?.join
def lookup_mem{β:Type}:∀{l:List (Str×β)} {x:Str} {v:β},l.lookup x=↑v->(x,v)∈l:=by
 intro l
 induction l with
 |nil=>intro _ _ h;cases h
 |cons p r ih =>
  intro x v h;obtain⟨y,z⟩:=p;rw[i4]at h
  cases q:x==y with
  |true =>
   rw[q]at h;cases h;rw[eq_of_beq q];exact ic
  |false =>
   rw[q]at h;exact ij _<|ih h
def zQ.has{l:List Str}(B:zQ X a m T l idx)(h:(pq a X.env).names.lookup x=some .cell\/(pq a X.env).names.lookup x=some .free):∃c,m.lookup x=↑c:=by
 have d:∃k,(x,k)∈(pq a X.env).names/\(k=.cell\/k=.free):=by
  rcases h with h|h
  ·exact#[_,lookup_mem h,.inl rfl]
  ·exact#[_,lookup_mem h,.inr rfl]
 obtain⟨k,d,o⟩:=d;obtain⟨⟨n,f⟩,i,e⟩:=List.mem_map.mp d;dsimp only at e
 have:n=x/\f=.free:=by
  by_cases b:(f==NameKind.free&&X.env.scope.kind==ScopeKind.function&&X.env.kindOf n==↑NameKind.cell)=true
  ·rw[hI b]at e;have g:n=x:=congrArg Prod.fst e;simp only[jc,beq_iff_eq]at b;exact#[g,b.1.1]
  ·rw[cr b]at e;have g:n=x:=congrArg Prod.fst e;have j:f=k:=congrArg Prod.snd e;rcases o with q|q
   ·exact iv (j.trans q)<|B.Ct _ i
   ·exact#[g,j.trans q]
 obtain⟨rfl,rfl⟩:=this;exact B.frl _ i rfl
def yG.Xa(x:yG P w H h)(f:H a=none)(d:wJ P w (upd H a o) h a o):yG P w (upd H a o) h:=λb u e=>by
 by_cases g:b=a
 ·subst g;rw[vF]at e;cases e;exact d
 ·rw[vB g]at e;exact(x b u e).CA (λ_ _ _ q=>q) (λc q=>by rw[vB<|vM q f];exact q) λc i q=>by rw[vB<|vM q f];exact q
section
variable{X:Cx}{elt iter tg:i8}{scope:mi}{cl:List (Str×hO)}{T Fr:List Str}{idx:List Nat}{wi:TI}{g:TG}{tt:TT}{te:TE}{pos:Pos}{ifs:List i8}
def YC(X:Cx)(ifs:List i8)(tt:TT):Prop:=∀(a:List (hO×Obj)) (s:h9) (b:St) (H:Hp) (Q:Bool->Hp->Prop),Inv X a b H s->tt b H Q ->
 ii 54 X.A (forIn ifs true λc r=>if r=true then do let ok <- rj c X.env (eval c X.env);pure (nq ok) else pure (nq r)) (TP X a b Q) X.xe s
def UR:YC X [] (λ_ H Q=>Q true H):=λ_ _ _ H _ I h=>sR #[H,I,h]
def US(h:PT X c b):YC X [c] b:=λa s d H Q I q=>wpAny_tests_one<|h a s d H Q I q
def QO(u:Nat->h9->Prop)
 (y:∀n s,u n s->ii (ik a w) A (pyNext H) (λr b=>match r with
 |none=>R (.ok .next) b
 |some v=>ii (ik a w) A (sO target H v) (λ_ f=>ii (ik a w) A (tE target e v) (λ_ i =>
 ii (ik a w) A (forIn ifs true λc r=>if r=true then do let z <- rj c e (eval c e);pure (nq z) else pure (nq r)) (λz d =>
 if z=true then ii (ik a w) A (eval elt e) (λx j=>ii (ik a w) A (call (.builtin "list.append") [G,x]) (λ_ k=>∃m,m<n/\u m k) 134 j) 134 d
 else ∃m,m<n/\u m d) 134 i) 134 f) 134 b) 134 s)
 (n:Nat) (h:u n s):mI (ik a w) A (.compLoop (.ListComp elt [#[target,iter,ifs,0]] scope pos) 0 H G e) R s:=by
  refine codeAny_loop rfl u (λn s J=>?_) n h
  refine wpAny_noted ?_
  rw[compTurn_list]
  have l:∀{I:Type} {t:Sem I} {Q:I->h9->Prop} {E:hR->h9->Prop} {s:h9},ii (ik a w) A t Q 134 s->ii (ik a w) A t Q E s:=λh=>jb h (λ_ _ q=>q) λ_ _ q=>q.elim
  refine am<|n9<|am<|l<|ww (y n s J) λr b o=>?_
  cases r with
  |none=>exact l<|ap o
  |some v =>
    refine am<|l<|ww o λ_ f B=>am<|l<|ww B λ_ i C=>am<|l<|ww C λz d p=>?_
    cases z with
    |false=>exact l<|ap #[rfl,p]
    |true=>exact am<|am<|l<|ww p λx j D=>am<|l<|ww D λ_ k F=>ap<|ap #[rfl,F]
end
structure YD(X:Cx)(c P:hO):Prop where
 code:X.env.code=.ref c
 hd:rB X.base c P
 blt:∃bm ob,X.mg "__builtins__"=↑(.ref bm)/\bm≠oV/\X.base.get? bm=↑ob/\ob.cls=.type "module"/\ob.dict=↑oV/\ob.data=.plain
def TabAt(H:Hp)(P:hO):Prop:=∃a,H P=↑(.Gd a)/\uG a.toList
def CP{a b:Int}:∀(l:List hR),uG l->uG (l++[.int a 0,.int b 0,c])
 | [],_=>trivial
 | .int _ _::.int _ _::_::r,h=>CP r h
noncomputable def Aw(a b:List Int):Bool:=(a.zip b).all λp=>decide<|p.1<p.2
def UT(a b:List Int):(iG<|min a.length b.length).all (λj=>decide<|a.getD j 0<b.getD j 0)=Aw a b:=by
 unfold Aw;rw[k9,ny,ny];constructor
 ·intro h p f;obtain⟨j,c⟩:=ml f;obtain⟨d,e⟩:=List.getElem?_zip_eq_some.mp c;have l:=(List.getElem?_eq_some_iff.mp d).1;have m:=(List.getElem?_eq_some_iff.mp e).1;have:=h j<|List.mem_range.mpr q0a;rw[jG,jG,d,e]at this;exact this
 ·intro h j c;have c:=List.mem_range.mp c;have g:a[j]?=↑(a.getD j 0):=by rw[jG,jO q0a];rfl
  have i:b[j]?=↑(b.getD j 0):=by rw[jG,jO q0a];rfl
  have k:(a.zip b)[j]?=↑(a.getD j 0,b.getD j 0):=List.getElem?_zip_eq_some.mpr #[g,i];exact h _<|j7 k
def LB(S:Hp->hO->List V->Prop)(P:hO)(g:TA):TE:=λh H Q=>g h H λi c=>∃(a b:hO)(e f:List Int),i=[.ref a,.ref b]/\S c a (e.map V.int)/\S c b (f.map V.int)/\TabAt c P /\
 ∀d,(∀b o,b≠P->c b=↑o->d b=↑o)->(∀b,b≠P->c b=none->d b=none)->TabAt d P->Q (.bl<|Aw e f) d
abbrev a0M(K:hJ)(P:hO)(a:TA):TE:=LB (wR K) P a
abbrev YE(K:hJ)(P:hO)(a:TA):TE:=LB (zX K) P a
structure QP(X:Cx)(S:Hp->hO->List V->Prop)(P:hO):Prop where
 go:∀{pins:List (hO×Obj)} {σ:St} {H1:Hp} {s1:h9} {a b:hO} {us vs:List V} {ps:Array hR},Inv X pins σ H1 s1->X.A.handled=none->S H1 a us->S H1 b vs->H1 P=↑(.Gd ps) ->
  ∃ia ib:List hR,Vals us ia/\Vals vs ib/\a<⇑s1/\b<⇑s1/\a≠P/\b≠P/\∀(Q:hR->h9->Prop)(E:hR->h9->Prop),
   (∀h2 St Mid,(∀A':jL,A'.handled=none->WalksU X.prog X.w A' (⇑s1+4) [⇑s1+4,⇑s1+2,⇑s1+3,⇑s1,⇑s1+1,a,b] [⇑s1+4,⇑s1+3,⇑s1,⇑s1+1] (min ia.toArray.size ib.toArray.size) (λi vals=>∃x y,ia.toArray[i]?=↑x/\ib.toArray[i]?=↑y/\vals=#v[x,y]) St Mid) ->
    St 0 h2->h2.objs.size=⇑s1+5->(∀c o,s1.heap.get? c=↑o->h2.get? c=↑o)->Q (.ref (⇑s1+4)) { s1 with heap:=h2})->ii 54 X.A (call (.type "zip") [.ref a,.ref b]) Q E s1
def Inv.tabled{s':h9}(I:Inv X d l H s)(h:H P=↑(.Gd j))(m:s'.os=s.os)(p:n8 s'.gens)
 (k:∀b o,b≠P->s.heap.get? b=↑o->s'.heap.get? b=↑o)(e:s'.heap.get? P=some { cls:=.none,data:=.fields (j++more)}):Inv X d l (upd H P<|.Gd<|j++more) s':=by
  have i:∀b,H b=none->b≠P:=λb n z=>by rw[z,h]at n;cases n
  have g:∀b u,H b=↑u->(∀q,u≠.Gd q)->b≠P:=λb u n f z=>by rw[z,h]at n;cases n;exact f _ rfl
  refine I.WP (ch:=[]) m #[λb o q n _ _=>k b o (i b n) q,λb o q n _ _=>#[o.slots,k b o (i b n) q],λb o q n _=>by rw[vB<|i b n];exact n,λb o q _=>?_,λb r q=>by rw[vB<|g b _ q<|λ_ z=>nomatch z];exact q,λb o u q=>by rw[vB<|g b _ q<|λ_ z=>nomatch z];exact q,λb w q=>?_] (λb u q=>?_) p λb a=>by cases a
  · by_cases a : b = P
    · rw[a]; exact#[_, e]
    · exact#[o, k b o a q]
  · by_cases a : b = P
    · subst a
      rw[h]at q
      cases q
      exact#[more,vF]
    · exact#[#v[], by rw[vB a, q]; simp]
  · by_cases a : b = P
    · subst a
      rw[vF]at q
      cases q
      exact e
    · rw[vB a]at q
      refine(I.wy b u q).CA (λc v t z=>k c v ?_ z) (λc z=>by rw[vB<|g c _ z<|λ_ y=>nomatch y];exact z) λc r z=>by rw[vB<|g c _ z<|λ_ y=>nomatch y];exact z
      rcases t with y|y
      · rw[y]; exact a
      · exact g c _ y<|λ_ x => nomatch x
def QQ{s:h9}{a:Env}{i j:Int}(d:a.scope.kind=.function)(g:a.kindOf b=some .local)(k:a.kindOf c=some .local)(e:s.heap.Ns a.locals m)
 (l:m b=↑(.int i t))(n:m c=↑(.int j u))(o:(b==66)=false)(p:(c==66)=false)(h:Q (.bool<|decide<|i<j) s):ii (ik f w) A (eval (.Compare (.Name b q) [.Lt] [.Name c r] v) a) Q E s:=by
  refine tD (qb (lv d g e l<|qb (lv d k e n<|lt_int h) p) o)<|vX _
def JT(Z:QP X S P)(aC:X.calm=true)(G:YD X c P)(ae:X.A.depth<tG)(aD:Gl X "all")(aj:X.mg "all"=none)(aE:Gl X "zip")(aF:X.mg "zip"=none)(af:PA X [e1,e2] ta)
 (hk:n.kind=.function) (aG:n.isCoroutine=false) (ag:oX n X.env=pure []) (ah:∀y∈n.names,y.2≠.cell) (h0:n.names.lookup (".0":Str)=↑NameKind.local) (ao:n.names.lookup xa=some .local) (aq:n.names.lookup xb=some .local) (aH:xa≠xb)
 (da:(xa==66)=false) (db:(xb==66)=false)
 (aI:hV [e1,e2] X.env=(false,eval e1 X.env)::hV [e2] X.env:=by rfl) (aJ:(jz p3<|hV [e2] X.env).any (·.1)=false:=by rfl) :
    PE X (.Call (.Name "all" p1) [.GeneratorExp (.Compare (.Name xa q1) [.Lt] [.Name xb q2] q3) [#[.Tuple [.Name xa pa,.Name xb pb] kt pt,.Call (.Name "zip" p2) [e1,e2] [] p3,[],0]] n E] [] p4) (LB S P ta):=by
  intro p s σ H Q I h
  have hh:X.A.handled=none:=I.ok.hd aC
  refine lj<|Am I aD aj boot_all<|pY ?_ rfl rfl
  refine ku<|wpAny_GeneratorExp_walksQTD hh aG ag ah h0 ao aq aH hk ae (lj<|Am I aE aF boot_zip<|kA (ww (af p3 p s σ H _ I h) λus m z9=>e2a3 z9 λvs H1 I1 r1 q1=>?_) aI aJ)<|λ_=>rfl
  obtain⟨a,b,ns,ms,rfl,ha,f,⟨U,hP,tr⟩,q⟩:=q1
  obtain⟨ua,ub,rfl,ra,rb⟩:=vals2 r1
  cases ra
  cases rb
  obtain⟨ia,ib,va,vb,aK,aL,aP,bP,aM⟩:=Z.go I1 hh ha f hP
  have B:m.heap.get? P=↑(rC U):=I1.wy P _ hP
  have ar:P<⇑m:=ie B
  refine aM _ _ λh2 St au W av aN k2=>?_
  refine(W X.A hh).self 0 { m with heap:=h2} _ _ av ?_
  have I2:Inv X p σ H1 { m with heap:=h2}:=I1.kept (t':=m.toks) k2
  refine#[I2.nolimit,?_]
  have aw:rB h2 c P:=G.hd.keeps λb o e=>I2.bk b o e
  have ax:=aw.code (k2 P _ B) tr
  have aO:=aw.tab<|k2 P _ B
  obtain⟨bm,ob,b1,b2,b3,b4,b5,b6⟩:=G.blt
  -- an the J: the uC is U++l,all else is kept
  have Y:∀(J:hR)(D:jd)(R:Nat)(l:Array hR),(∀b o,b≠P->h2.get? b=↑o->D.get? b=↑o)->h2.objs.size<=D.objs.size->D.get? P=some { cls:=.none,data:=.fields (U++l)}->uG (U++l).toList ->
      ii 54 X.A (builtinsFor X.env.globals X.env.builtins) (λbi d=>∃I fp wr r Pt L au pz F,iD (⇑m+4)=.ref I/\(∀A':jL,A'.handled=none->WalksU X.prog X.w A' I fp wr r Pt L au)/\(∀i M,Pt i M->∃va vb,M=#v[va,vb])/\L 0 d.heap/\(∀b∈fp,b<⇑d)/\d.heap.NoLimit/\rQ∉wr /\
          (∀N:jd,(∀b o,d.heap.get? b=↑o->N.get? b=↑o) ->
            QuietGenTD X.prog X.w (genEnv n [] ⇑d J bi X.env) xa xb [] (.Compare (.Name xa q1) [.Lt] [.Name xb q2] q3) (iG ⇑d) wr Pt pz F N (X.A.depth+1) (X.A.units+8)) /\
          (∀a C R gs,gs.bare=true->⇑d<a->C.objs.size=a+1->(∀b o,d.heap.get? b=↑o->C.get? b=↑o) ->
            WalksS X.prog X.w X.A.in4 a (a::⇑d::iG ⇑d) (⇑d::wr) (GenOnlyQ d.gens.size) (passing pz r 0).length
              (λj y=>∃i,(passing pz r 0)[j]?=↑i/\F i y) (GenAt X.prog X.w X.A.in4 a d.gens.size ⇑d (iG ⇑d) wr pz r F) ->
            GenAt X.prog X.w X.A.in4 a d.gens.size ⇑d (iG ⇑d) wr pz r F 0 { d with gens:=d.gens.push gs,toks:=R,heap:=C} ->
            ii 54 X.A (uP []) (λus ak=>ii 54 X.A (call (.builtin "all") (.ref a::us)) (EP X p σ Q) X.xe ak) X.xe { d with gens:=d.gens.push gs,toks:=R,heap:=C})) X.xe { m with heap:=D,toks:=R}:=by
    intro J D R l k3 aQ e3 aR
    have I3:Inv X p σ (upd H1 P<|.Gd<|U++l) { m with heap:=D,toks:=R}:=Inv.tabled (s:={ m with heap:=h2}) (s':={ m with heap:=D,toks:=R}) I2 hP rfl I2.bare k3 e3
    have ay:=I3.bk
    refine wpAny_builtinsFor (by rw[I3.ok.glob];exact I3.mod.glob.keeps ay) b1 b2 (ay _ _ b3) b4 b5 b6 ?_
    have nz:∀k,⇑m+k≠P:=λk=>jD<|iE ar<|pc _ _
    have aS:rQ<⇑m:=by obtain⟨mc,hn,_⟩:=I1.nolimit;exact hn.lt
    have aa:=va.length
    have ab:=vb.length
    rw[h8]at aa ab
    have aT:∀(i:Nat)(x:hR),ia.toArray[i]?=↑x->∃t,x=.int (ns.getD i 0) t:=λi x hx=>rs (BJ va) i x (by simpa using hx)
    have aU:∀(i:Nat)(x:hR),ib.toArray[i]?=↑x->∃t,x=.int (ms.getD i 0) t:=λi x hx=>rs (BJ vb) i x (by simpa using hx)
    have u:∀k,k<5->⇑m+k<D.objs.size:=λk hk=>iE (Nat.add_lt_add_left hk _)<|i9 (qT aN.symm) aQ
    refine#[_,_,_,_,_,_,_,(λ_=>true),(λi y=>y=.bool (decide<|ns.getD i 0<ms.getD i 0)),rfl,W,λi M z9=>e2a3 z9 λx y _ _ e=>#[x,y,e],(W X.A hh).frame _ _ _ av λb f o e=>k3 b o ?_ e,λb f=>?_,I3.nolimit,?_,λN a1=>?_,λg h5 aV gs gb g1 g2 k5 WS GA=>?_]
    · simp only[iO, jB, mH]at f
      rcases f with z|z|z|z|z|z|z<;>rw[z]
      · exact nz 4
      · exact nz 2
      · exact nz 3
      · exact nz 0
      · exact nz 1
      · exact aP
      · exact bP
    · simp only[iO, jB, mH]at f
      rcases f with z|z|z|z|z|z|z<;>rw[z]
      · exact u 4 q0q
      · exact u 2 q0q
      · exact u 3 q0q
      · exact u 0 q0q
      · exact u 1 q0q
      · exact oh aK<|u 0 q0q
      · exact oh aL<|u 0 q0q
    · intro f
      simp only[iO,jB,mH]at f
      have T:∀k,rQ≠⇑m+k:=λk=>iz<|iE aS<|pc _ _
      rcases f with z|z|z|z
      · exact T 4 z
      · exact T 3 z
      · exact T 0 z
      · exact T 1 z
    · refine#[λA' E' i az aA s2 m2 _ _ _ _ _ _ _ _ => sR #[rfl, s2.heap, s2.toks, rfl, λ_ _ e => e], λA' E' i az aA s2 m2 hA _ _ aW _ hn aj aX _ => ?_]
      obtain⟨x,y,hx,hy,e⟩:=aW
      obtain⟨ex,ey⟩:az=x/\aA=y:=by simpa using congrArg sM e
      subst ex ey
      obtain⟨t1,rfl⟩:=aT i _ hx
      obtain⟨t2,rfl⟩:=aU i _ hy
      exact QQ hk ao aq hn aj aX da db #[rfl,s2.heap,s2.toks,rfl,λ_ _ e=>e]
    · have ai : passing (λ_ => true) (min ia.toArray.size ib.toArray.size) 0 = iG (min ia.toArray.size ib.toArray.size) := by
        unfold passing
        simp
      rw[ai]at WS
      have W1:=WS.in4_1
      refine lU<|call_all_walkS<|W1.self 0 _ _ _ GA ⟨g,_,_,_,_,_,_,(λj=>decide<|ns.getD j 0<ms.getD j 0),rfl,W1,GA,λj v s7 Q' E' hv hq=>?_,λs7 mv=>?_⟩
      · obtain⟨i, hi, rfl⟩ := hv
        have:i=j:=by
          obtain⟨hl,he⟩:=List.getElem?_eq_some_iff.mp hi
          rw[List.getElem_range]at he
          exact he.symm
        subst this
        exact kN hq
      · have k7 : ∀b o, b<D.objs.size -> (∀k, b ≠ ⇑m+k) -> D.get? b = some o -> s7.heap.get? b = some o := λb o f hn e => mv.heap b o (by
          simp only[iO,jB,mH,qE]
          exact#[iz f,hn 4,hn 3,hn 0,hn 1]) (k5 b o e)
        have O:∀b,b<⇑m->∀k,b≠⇑m+k:=λb f k=>iz<|iE f<|pc _ _
        have e7:s7.heap.get? P=some { cls:=.none,data:=.fields (U++l)}:=k7 P _ (ie e3) (O P ar) e3
        have I7:Inv X p σ (upd H1 P<|.Gd<|U++l) s7:=Inv.tabled I1 hP mv.os (AllBare.movedS (s:={ m with heap:=h5,gens:=m.gens.push gs,toks:=aV}) (I1.bare.push gb) mv) (λb o f e=>k7 b o (ie<|k3 b o f<|k2 b o e) (O b<|ie e)<|k3 b o f<|k2 b o e) e7
        refine#[.bl _,_,I7,rfl,?_]
        have al:(iG (iG<|min ia.toArray.size ib.toArray.size).length).all (λj=>decide<|ns.getD j 0<ms.getD j 0)=Aw ns ms:=by
          rw[l6,iu,iu,<- aa,<- ab]
          exact UT ns ms
        rw[al]
        exact q _ (λb o f e=>by rw[vB f];exact e) (λb f e=>by rw[vB f];exact e) #[_,vF,aR]
  cases aB:codeAmong E U.toList with
  |none =>
    refine wpAny_genexprCodeX G.code ax aO aB λc' D R hx aY aZ _ _ a0 _=>?_
    refine Y (.ref c') D R #v[mq E.line,mq E.col,.ref c'] (λb o f e=>hx b o f e) (i9 aY<|my aZ) a0.2 ?_
    rw[qf]
    exact CP _ tr
  |some cv =>
    refine wpAny_genexprCode_hit G.code ax aB ?_
    have:=Y cv h2 m.toks #v[] (λb o _ e=>e) (hW _) (by simpa using k2 P _ B) (by simpa using tr)
    exact this
def a21:QP X (wR X.K) P:=#[λ{v M H1 j a b N O A} m R B C D=>by
 refine e1a3 (m.list B) λx F d S=>?_;refine e1a3 (m.list C) λy G f T=>?_;have i:j.heap.get? P=↑(rC A):=m.wy P _ D
 have h:∀(l:hO)(g:Array hR),j.heap.IsList l g->l≠P:=λl g n=>e1a3 n λo e c _ z=>by rw[z,i]at e;cases e;cases c
 have k:∀(l:hO)(g:Array hR),j.heap.IsList l g->l<⇑j:=λl g n=>e1a2 n λo e _=>ie e;refine#[x,y,F,G,k _ _ d.isList,k _ _ f.isList,h _ _ d.isList,h _ _ f.isList,λQ E H=>call_zip_2 d.isList f.isList λI J p q r s t u=>?_]
 exact H I _ _ (λU L=>(WalksT.zip2 (prog:=X.prog) (w:=X.w) L _ _ _ _ _ _ _ (zipApart_new (k _ _ d.isList) (k _ _ f.isList)) x.toArray y.toArray).toU) #[J,p,#[_,_,q],r,s,d.isList.at λo e=>u _ o e,f.isList.at λo e=>u _ o e] t u]
def OQ{K:hJ}{k:Nat}{f:h9}{C:List hR} 
 (KX:K.In f.heap) (I:f.heap.Ns iA U) (hb:f.heap.Ns oV mb) (ab:∀x:Str,x≠"__name__"->mb x=nC x) (J:f.heap.NoLimit) (hg:f.gens=#v[])
 (D:f.heap.get? a=some { cls:=.type "list",data:=.seq C.toArray}) (hi:lM C X) (hl:X.length<=hZ) (hr:wZ k rN)
 (hT:f.heap.TableAt c tab #v[]) (ae:K.lookup tab=none)
 (F:∀base:jd,K.In base->base.Ns iA U->(∀b o,f.heap.get? b=↑o->o.cls≠.type "list"->o.cls≠.none->base.get? b=↑o)->wn P w K U base CX k fa fd [x] sp) (E:∀(s:h9)(u:hR),sX s fd #[[u],[]] [(x,u)])
 (af:∀H:Hp,wR K H a (X.map V.int)->H tab=↑(.Gd #v[])->sp [.ref a] H (λv _=>v=.bl true) λ_ _ _=>False)
 (ag:∀H e j,CX [] H f (λ_ _ _=>False) e j->False) :
    mI (ik P w) rN (.call (.ref fa) #[[.ref a],[]]) (λr j=>r=.ok (.ret<|.bool true)/\OldK f.heap j.heap/\j.os=f.os/\n8 j.gens) f:=by
  have rv:=GV hi
  have L:=hi.length
  have l:f.heap.get? tab=some { cls:=.none,data:=.fields #v[]}:=hT.2
  have nat:a≠tab:=λz=>by rw[z,l]at D;cases D
  -- from an abstract ah in aa nothing ai the Y and the uC aj be M
  have core:∀H:Hp,(∀b,H b=none\/(b=a/\∃o xs,H b=↑(.KW o<|.lst xs))\/(b=tab/\H b=↑(.Gd #v[])))->wR K H a (X.map V.int)->H tab=↑(.Gd #v[])->yG P w H f.heap->(H a≠none->K.lookup a=none) ->
      mI (ik P w) rN (.call (.ref fa) #[[.ref a],[]]) (λr j=>r=.ok (.ret<|.bool true)/\OldK f.heap j.heap/\j.os=f.os/\n8 j.gens) f:=by
    intro H Z hS N O hK
    have freeOf:∀{b:hO} {o:Obj},f.heap.get? b=↑o->o.cls≠.type "list"->o.cls≠.none->H b=none:=λ{b o} e c1 c2=>by
      rcases Z b with z|⟨z,_⟩|⟨z,_⟩
      · exact z
      · rw[z, D]at e; cases e; exact iv rfl c1
      · rw[z, l]at e; cases e; exact iv rfl c2
    have y:∀{b:hO} {m:Str->Option hR},f.heap.Ns b m->(Jw f.heap H).Ns b m:=λ{b m} z9=>e3a3 z9 λo es ep e d r=>by
      refine#[o,es,ep,EM e ?_,d,r]
      rcases Z b with z|⟨z,_⟩|⟨z,_⟩
      · exact z
      · rw[z, D]at e; cases e; have d' : Data.seq C.toArray _ = Data.dict es ep := d; cases d'
      · rw[z, l]at e; cases e; have d' : t7 #v[] = Data.dict es ep := d; cases d'
    have Q:K.In (Jw f.heap H):=λb o e=>EM (KX b o e) (by
      rcases Z b with z|⟨z,_,_,z2⟩|⟨z,_⟩
      · exact z
      · rw[z]at e z2; rw[hK<|by rw[z2]; simp]at e; cases e
      · rw[z, ae]at e; cases e)
    have hM:Mod K U (Jw f.heap H):=#[Q,y I,#[mb,y hb,ab],e1a2 J λmc h1 h2=> #[mc,y h1,h2]]
    have e0:JF P w K U (Jw f.heap H) rN [] f H:=#[rfl,hM,λb o e=>Uk e,qT<|Oe _ _,trivial,λb hb=>iv (show b∈([]:List hO) from hb) q0o,O,.of_eq hg]
    refine ko ((F _ Q (y I) λb o e c1 c2=>EM e<|freeOf e c1 c2).run rN [] f H ⟨[.ref a],[]⟩ [.ref a] [.ref a] _ _ hr e0 (E f<|.ref a) (.cons rfl .nil)<|af H hS N) λr j h=>?_
    cases r with
    |error e=>exact(ag H e j h).elim
    |ok fl =>
      cases fl with
      |next=>exact iV h
      |brk=>exact iV h
      |cont=>exact iV h
      |ret u =>
        obtain⟨v,H',os,R,un,B,r',q⟩:=h
        have q':v=.bl true:=q
        subst q'
        obtain rfl:u=rK true:=r'
        have G:∀b o,f.heap.get? b=↑o->H b=none->j.heap.get? b=↑o:=λb o e n=>un.keep b o e n (by intro z;exact iv (show b∈([]:List hO) from z) q0o) q0o
        obtain⟨more,hm⟩:=un.Cb tab _ N
        have S:j.heap.get? tab=some { cls:=.none,data:=.fields (#v[]++more)}:=B tab _ hm
        have p:∀b o,f.heap.get? b=↑o->b≠tab->j.heap.get? b=↑o:=λb o e n=>by
          rcases Z b with z|⟨_,ob,xs,z⟩|⟨z,_⟩
          · exact G b o e z
          · have z2 := un.Ca b ob _ z
            obtain⟨e1,_⟩:=O b _ z
            obtain⟨e2,_⟩:=B b _ z2
            rw[e]at e1;cases e1
            exact e2
          · exact iv z n
        refine#[rfl,#[λb o e=>?_,λb o e=>?_],os,R]
        · by_cases t : b = tab
          · subst t
            rw[l]at e
            cases e
            exact .inr<|.inl #[hT.isCodeTable,rfl,#v[],more,rfl,S]
          · exact .inl<|p b o e t
        · by_cases t : b = tab
          · rw[t]; exact#[_, S]
          · exact#[o, p b o e t]
  have T:∀H:Hp,wJ P w H f.heap tab (.Gd #v[]):=λH=>l
  cases hk:K.lookup a with
  |some o =>
    have e:=KX a o hk
    rw[D]at e
    cases e
    refine core (λb=>if b=tab then some (.Gd #v[]) else none) (λb=>?_) (.inr #[_,C.toArray,_,hk,rfl,rfl,rfl,by rw[iu,L];exact hl,by simpa using rv]) (hI rfl) (λb u z=>?_) λz=>iv (cr nat) z
    · by_cases g : b = tab
      · exact .inr<|.inr #[g, hI g]
      · exact .inl<|cr g
    · by_cases g : b = tab
      · have A := (hI g).symm.trans z
        cases A
        rw[g]
        exact T _
      · have A := (cr g).symm.trans z
        cases A
  |none =>
    refine core (λb=>if b=tab then some (.Gd #v[]) else if b=a then some (.KW { cls:=.type "list",data:=.seq C.toArray} (.lst<|X.map V.int)) else none) (λb=>?_) (.inl<|.inr ⟨{ cls:=.type "list",data:=.seq C.toArray},(cr nat).trans<|hI rfl⟩) (hI rfl) (λb u z=>?_) λ_=>hk
    · by_cases g : b = tab
      · exact .inr<|.inr #[g, hI g]
      · by_cases i : b = a
        · exact .inr<|.inl #[i, _, _, (cr g).trans<|hI i]
        · exact .inl<|(cr g).trans<|cr i
    · by_cases g : b = tab
      · have A := (hI g).symm.trans z
        cases A
        rw[g]
        exact T _
      · by_cases i : b = a
        · have A := ((cr g).trans<|hI i).symm.trans z
          cases A
          subst i
          exact#[D,by rw[h8];exact hl,C,_,rv,D]
        · have A := ((cr g).trans<|cr i).symm.trans z
          cases A
structure JU(mg:Str->Option hR)(base:jd)(c tab:hO):Prop where
 hd:rB base c tab
 blt:∃bm ob,mg "__builtins__"=↑(.ref bm)/\bm≠oV/\base.get? bm=↑ob/\ob.cls=.type "module"/\ob.dict=↑oV/\ob.data=.plain
def QR{l:qW}{n k:Nat}{p:List Str}{XP:(Str->Option hR)->jd->Prop}{YP:ji->jd->Prop}{d:DefRec}{K:Params->hJ}{sp:ji->hJ->hO->Sp} 
 (hn:l.most=↑n) (L:n<=hZ) (M:d.params.defaults=[]) (hr:wZ k rN)
 (hY:∀(w:ji)(h:jd),YP w h->(149).In h) (z:(recsOf q).find? (λe=>e.name==tx)=↑dx)
 (F:∀(w:ji)(r:Str->Option hR)(I:hO)(h:jd),(149).In h->h.Ns iA r->r d.name=↑(.ref I) ->
 ∃(c j:hO)(N:iY),oC 149 tx=↑(c,j)/\(149).lookup j=none/\(∀(s:h9)(u:hR),sX s N #[[u],[]] [(x,u)]) /\
 ∀i:jd,(149).In i->i.Ns iA r->JU r i c j->wn l.prog w 149 r i CX k I N [x] (sp w 149 j))
 (O:∀(w:ji)(K:hJ)(H:Hp)(a j:hO)(J:List Int),J.length<=n->wR K H a (J.map V.int)->H j=↑(.Gd #v[])->sp w K j [.ref a] H (λv _=>v=.bl true) λ_ _ _=>False)
 (P:∀(H:Hp)(s:h9)(e:hR)(Q:h9),CX [] H s (λ_ _ _=>False) e Q->False) :
    vn q p XP YP l.row.toRowW d [] (λf vs=>uo f vs):=by
  refine Att.JM hn M λw ab A r mb I o pm cd ae a vs J G Y ho hd af R B t m hg=>?_
  have S:=hY w _ Y
  obtain⟨c,j,N,ht,U,hb,hF⟩:=F w r I _ S G.T.g R
  obtain⟨C,hP⟩:=PySem.W.tab_of G.T S z ht
  obtain⟨bm,ob,b1,b2,b3,X,b5,b6⟩:=G.T.bmain
  refine OQ S G.T.g G.T.b G.T.builtins G.T.nolimit hg B t (i9 m L) hr (C.tab hP) U (λi kb nb bk=>hF i kb nb #[?_,bm,ob,b1,b2,bk _ _ b3 (by rw[X];simp) (by rw[X];simp),X,b5,b6]) hb (λH hS hH=>O w _ H a j J m hS hH) λH e Q=>P H A e Q
  obtain⟨o,Z,D,tf,y,tg,aa,E,tt,e1,r1,r2⟩:=C
  exact#[o,Z,D,tf,y,tg,aa,E,tt,bk _ _ e1 (by rw[r1];simp) (by rw[r1];simp),r1,r2]
end L2
namespace SX
open PySem PyProof.Rows
def a22{k:Int}(S:wE w a c s.heap)(h:Q (.bool<|decide<|k∈c) 97):ii (ik b w) A (jH .In (.int k u)<|.ref a) Q E s :=
 wpAny_inSet_of (knd:=kU b w) (k:=k) (qg _ _ _ _) rfl S.of h
def YF{k:Int}(S:wE w a d s.heap)(room:d.length+1<=127)
 (h:∀c b e,jq a s.heap c->wE w a b c->b.Perm (if k∈d then d else k::d)->Q .none { s with heap:=c,toks:=e}) :
    ii (ik f w) A (call (.builtin "set.add") [.ref a,.int k u]) Q E s:=by
  refine jl F.slot_set_add S.typeIs F.entry_set_add ?_<|F.args_set_add_2 _ _
  show ii _ _ (pS "add" #[[.ref a,.int k u],[]] >>= _) _ _ _
  refine am<|am<|ap<|ap<|am ?_
  refine W7 S room λc b e g i p _=>ap #[_,rfl,h c b e g i p]
def UU{k:Int}(S:wE w a e s.heap)
 (h:∀c b f,jq a s.heap c->wE w a b c->(if k∈e then e.Perm (k::b) else b=e)->Q .none { s with heap:=c,toks:=f}) :
    ii (ik d w) A (call (.builtin "set.discard") [.ref a,.int k u]) Q E s:=by
  refine jl F.slot_set_discard S.typeIs F.entry_set_discard ?_<|F.args_set_discard_2 _ _
  show ii _ _ (pS "discard" #[[.ref a,.int k u],[]] >>= _) _ _ _
  refine am<|am<|ap<|ap<|am ?_
  unfold Builtin.Frozenset.withSetAsKey setDiscard
  refine wpAny_tryCatch ?_
  refine iX<|am<|(kU d w).pyHash (k:=k) (qg _ _ _ _) ?_
  exact G0 (s:=97) S λc b g i p=>ap #[_,rfl,h c b _ g i p]
def LC(h:∀a,D7 w ⇑s a->(∀c o,s.heap.get? c=↑o->a.get? c=↑o)->Q (.ref ⇑s) 102) :
  mI (ik b w) A (.call (.builtin "set.__new__") #[[.type "set"],[]]) (wants Q E) s:=by
 refine m6<|am<|ng F.newCall_set_0<|ap #[lJ pZ _,j9 F.entry_set_new ?_];rw[jQ pZ _];unfold Builtin.«set.__new__» pQ;have g:=qh;obtain⟨i,j,k,l,m⟩:=s;dsimp only;generalize d:newSet=n
 wp_walk
 subst d;refine QK λa e f=>?_;exact ap<|h a e f
def JV(h:∀k,wE w ⇑s [] k->(∀c o,s.heap.get? c=↑o->k.get? c=↑o)->Q (.ref ⇑s) { s with heap:=k}):ii (ik n w) A (call (.type "set") []) Q E s:=by
 obtain⟨I,J,p⟩:=F.called_set.mro;have l:=F.called_set.made;have q:=F.called_set.sub;refine m8<|m6<|ap #[ot _ q0s,j9 F.entry_type_call ?_];rw[ui (vm "set" [] []) rfl];have v:=F.called_set.notType;have x:=F.called_set.canCreate;have y:=F.typeCall_set_0
 repeat (any_goals (first|assumption|wp_step))
 refine ko (LC (E:=E) (Q:=λf g=>f=.ref ⇑s/\∃a,g=102/\D7 w ⇑s a/\∀c o,s.heap.get? c=↑o->a.get? c=↑o) λa j m=>#[rfl,a,rfl,j,m]) λz L b=>?_
 cases z with
 |error e=>exact b
 |ok f1 =>
  cases f1 with
  |ret f =>
   obtain⟨rfl,a,rfl,j,m⟩:=b;have t:wE w ⇑s [] a:=j.set;have B:mE 102 (.ref ⇑s) "set":=wE.typeIs (s:=102) t;have C:=F.called_set.init.lookup;have D:=F.called_set.init.bind<|.ref ⇑s
   repeat (any_goals (first|assumption|wp_step))
   refine ko (oi (R:=wants (λr i=>r=.none/\i=102) E) F.called_set.init.plain F.entry_set_init<|check_set_init B ?_) λG M d=>?_
   ·obtain⟨H,u,N,O⟩:=id j;unfold Builtin.«set.__init__» noKeywords
    wp_walk
    exact#[rfl,rfl]
   ·cases G with
    |error e=>exact d
    |ok f2 =>
     cases f2 with
     |ret r =>
      obtain⟨rfl,rfl⟩:=d
      repeat (any_goals (first|assumption|wp_step))
      exact h _ t m
     |_=>exact d.elim
  |_=>exact b.elim
end SX
namespace L2
open PySem PySem.Spec PyProof.Rows SX
section
variable{X:Cx}
def OR:zq X (.type "set") (λa H Q=>a=[]/\∀p:hO,H p=none->Q (.ref p) (upd H p<|xV X.w p [])):=by intro b s c H a d Q I r h;obtain⟨rfl,q⟩:=h;cases r;exact JV λe S k=>#[.ref ⇑s,_,I.laid (t':=s.toks) k (hW _)<|HK S,rfl,q _<|I.wy.fresh<|hW _]
def a23(w:ji):R2:=λx y H Q=>∃(k:Int)(a:hO)(b:List Int),x=.int k/\y=.ref a/\H a=↑(xV w a b)/\Q (.bl<|decide<|k∈b) H
def YG:AZ X (jH .In) (a23 X.w):=by intro b s f H x y v u Q I c d h;obtain⟨k,a,g,rfl,rfl,e,q⟩:=h;obtain⟨t,rfl⟩:=c;cases d;exact a22 (Av I e) #[.bl _,H,I.tok _,rfl,q]
def Inv.sset{f:Nat}(I:Inv X c h H s)(i:H a=↑(xV X.w a k))(j:jq a s.heap g)(S:wE X.w a d g) :
  Inv X c h (upd H a<|xV X.w a d) { s with heap:=g,toks:=f} :=
 I.write (t':=f) (by rw[i];trivial) (.inl rfl) (λb u n e=>j.extBut b u n e) (e3a2 S λ_ _ _ e _=> #[_,e]) (HK S)
def UV:ZW X "set.add" (λx d H Q=>∃(a:hO)(c:List Int)(k:Int),x=.ref a/\d=[.int k]/\H a=↑(xV X.w a c)/\c.length+1<=127/\∀b:List Int,b.Nodup->b.Perm (if k∈c then c else k::c)->Q .xj (upd H a<|xV X.w a b)):=by intro e s m H x d v n Q I g i h;obtain⟨a,c,k,rfl,rfl,f,j,q⟩:=h;cases g;obtain⟨u,rfl,t,rfl⟩:=i.one;exact YF (Av I f) j λo b r l S p=>#[.xj,_,I.sset f l S,rfl,q b S.nodup p]
def QS:ZW X "set.discard" (λx d H Q=>∃(a:hO)(c:List Int)(k:Int),x=.ref a/\d=[.int k]/\H a=↑(xV X.w a c)/\∀b:List Int,b.Nodup->(if k∈c then c.Perm (k::b) else b=c)->Q .xj (upd H a<|xV X.w a b)):=by intro e s l H x d v m Q I g i h;obtain⟨a,c,k,rfl,rfl,f,q⟩:=h;cases g;obtain⟨u,rfl,t,rfl⟩:=i.one;exact UU (Av I f) λn b o j S p=>#[.xj,_,I.sset f j S,rfl,q b S.nodup p]
def YH(w:ji)(r:V->List V->Hp->VK->Prop)(d:TE)(t:TA):TE:=λb H Q=>d b H λx c=>(∃(a:hO)(e:List Int),x=.ref a/\c a=↑(xV w a e))/\t b c λf g=>r x f g Q
variable{o e:i8}{es:List i8}{to:TE}{t:TA}{name:Str}{apos cpos:Pos}{id:String}{r:V->List V->Hp->VK->Prop}
def QT(i:Slot "set" name id)(k:uV (.builtin id)=pure (.type "method_descriptor"))(q:ZW X id r)(u:PE X o to)(y:PA X (e::es) t)
 (f:i7 o name X.env (eval o X.env)=eval o X.env:=by rfl)
 (j:((jz cpos<|hV (e::es) X.env).all (λx=>!x.1)&&(nI cpos<|lx [] X.env).all (λx=>x.1.isSome)&&decide ((e::es).length+([]:List qe).length+160<30))=true:=by rfl)
 (g:(apos.endLine==cpos.line)=true:=by rfl) (z:hV (e::es) X.env=71::hV es X.env:=by rfl) (d:(jz cpos<|hV es X.env).any (·.1)=false:=by rfl) :
    PE X (.Call (.Attribute o name apos) (e::es) [] cpos) (YH X.w r to t):=by
  intro c s l H Q I h
  refine uW f j g rfl<|ww (u c s l H _ I h) λv A m=>e2a4 m λx B n C D E=>?_
  obtain⟨a,W,rfl,G⟩:=D
  cases C
  have S:=Av n G
  refine#["set",id,F.plainAttrs_set,i,k,S.typeIs,λb J=>?_,?_]
  · cases J
    refine e3a2 S λ_ _ _ L _=>?_
    exact#[_,L,rfl]
  have p:=y cpos c A l B _ n E
  rw[z]at p ⊢
  refine kM (by show (false||(jz cpos<|hV es X.env).any (·.1))=false;rw[d]<;>rfl)<|jI ?_
  exact ww p λM N m=>e2a3 m λO P R T U=>q c N l P (.ref a) O (.ref a) M Q R rfl T U
end
def DK(e:hO)(d:Option hO)(h:jd):Prop:=∃o,h.get? e=↑o/\o.dict=d
def UW(o:Obj)(f:Array hR->Array hR):(o.mapFields f).dict=o.dict:=by obtain⟨c,d,a,b⟩:=o;cases a<;>rfl
section
variable{M:Model}{A:jL}{E:hR->h9->Prop}{s:h9}{base:jd}{env:Env}{outer:List Env}{L e:hO}{oe:Obj}{vs:Array hR}{a0 cls:hR}{d:Option hO}
def Xb{c:Bool}(m:A.frames=↑(env::outer))(k:s.heap.FunFrames base (env::outer))(I:env.frame=↑L)(n:s.heap.get? e=↑oe)(p:base.StaysIn s.heap)(r:base.get? e=none)(g:oe.data=.fields vs)(i:1<vs.size)(J:vs[0]?=↑a0)
 (h:∀t,Heap.NotedW base (env::outer) e oe.cls a0 (mq L) s.heap t->DK e oe.dict t->Q () { s with heap:=t}) :
    ii M A (do setField (.ref e) 1 (<- EntryCells.newEntry head (<- frameOf env) .none (mq L) .none (<- entryPlaceOf L c))) Q E s:=by
  have N:e∉(env::outer).filterMap (·.frame):=λz=>by
    obtain⟨_,o,w,O⟩:=k.mem z
    rw[n]at w;cases w;exact O _ g
  refine am<|wpAny_frameOf_fun m k I λa l=>am<|wpAny_entryPlaceOf λx j=>?_
  have B:a.get? e=↑oe:=(l.2.1 e N).trans n
  have C:base.StaysIn a:=λb o q=>(l.2.1 b λz=>by rw[(k.mem z).1]at q;cases q).trans<|p b o q
  refine am<|je ?_<|j.sizeOk5 _ _ _ _ _
  have P:∃f:Array hR,(([head,.ref L,.none,mq L,.none]++(if x.isEmpty then lE 6 Value.none else x)).toArray=f)/\f[3]?=↑(mq L):=#[_,rfl,by first|(simp;done)|(rcases j with rfl|⟨_,_,_,_,_,_,_,rfl⟩<;>simp)]
  obtain⟨f,R,S⟩:=P
  rw[R]
  have u:=ci (h:=a) { cls:=.type "traceback",dict:=none,data:=.fields f} B
  have D:a.objs.size≠e:=jD<|ie B
  refine nL u g i<|h _ ?_ ?_
  · have F := Obj.data_mapFields g (·.setIfInBounds 1 (iD a.objs.size))
    have T:=jj (Obj.mapFields (·.setIfInBounds 1 (iD a.objs.size))) u<|Obj.isFreed_of_fields F
    have U:=(iZ (a.push { cls:=.type "traceback",dict:=none,data:=.fields f}) (Obj.mapFields (·.setIfInBounds 1 (iD a.objs.size)))<|Ne.symm D).trans<|iq a rfl
    have v:∀b o,b≠e->a.get? b=↑o->((a.push { cls:=.type "traceback",dict:=none,data:=.fields f}).update e (Obj.mapFields (·.setIfInBounds 1 (iD a.objs.size)))).get? b=↑o:=λb o z q =>
      (iZ _ _<|Ne.symm z).trans (ci _ q)
    have G:∀b o,s.heap.get? b=↑o->(∀vs,o.data≠.fields vs)->b≠e:=λb o q z y=>by rw[y,n]at q;cases q;exact z _ g
    refine#[λb o q=>v b o (λz=>by rw[z,r]at q;cases q)<|C b o q,k.of_keeps λb o q z=>?_,?_,λb o q z=>?_]
    · obtain⟨H, y⟩ := l.2.2 b o q
      exact#[_,v b _ (G b o q z) y,rfl]
    · exact#[_, _, a.objs.size, _, _, T, #[Obj.cls_mapFields _ _, by rw[Array.getElem?_setIfInBounds_ne q0q]; exact J], F, by simp[i], C.fresh, D, U, rfl, S]
    · obtain⟨H, y⟩ := l.2.2 b o q
      exact#[H,v b _ (G b o q z) y]
  · exact#[_, jj _ u<|Obj.isFreed_of_fields<|Obj.data_mapFields g _, UW _ _]
def UX(c:A.frames=↑(env::outer))(l:s.heap.FunFrames base (env::outer))(g:env.frame=↑L)(i:s.heap.get? e=↑oe)(f:base.StaysIn s.heap)(b:base.get? e=none)(j:oe.data=.fields vs)(k:vs[1]?=some .none)(m:vs[0]?=↑a0)
 (h:∀a,Heap.HeldW base (env::outer) e oe.cls a0 L a->s.heap.UpToSlots a->DK e oe.dict a->Q () 102):ii M A (uH (.ref e) env) Q E s:=by
  unfold uH
  simp only[g]
  refine am<|ju i j k ?_
  rw[cr q0q]
  exact Xb c l g i f b j (Array.getElem?_eq_some_iff.mp k).1 m λa n=>e0a4 n λo p q r y=>h a #[o,b,p,q] r y
def UY(h:A.frames=↑(env::outer))(p:env.frame=↑L)(i:lO base (env::outer) e cls a0 s.heap)(x:DK e d s.heap)
 (B:∀f,Heap.HeldW base (env::outer) e cls a0 L f->s.heap.UpToSlots f->DK e d f->Q () { s with heap:=f}):ii M A (uH (.ref e) env) Q E s:=by
  obtain⟨j,g,C,oe,vs,T,N,O,k,⟨rfl,D⟩,r,t,l,m,n,c,u⟩:=i
  obtain⟨P,v,rfl⟩:=x
  rw[k]at v;cases v
  unfold uH
  simp only[p]
  refine am<|ju k r t ?_
  rw[hI<|show (iD T != Value.none)=true from by simp]
  refine am<|ju n c u ?_
  rw[cr<|show ¬((Value.none==mq L)=true) from by simp[mq]]
  refine am<|nL n c (Array.getElem?_eq_some_iff.mp u).1 ?_
  have a:∀b,b≠T->(s.heap.update T (Obj.mapFields (·.setIfInBounds 3 Value.none))).get? b=s.heap.get? b:=λb z=>iZ _ _<|Ne.symm z
  have w:∀b o,s.heap.get? b=↑o->(∀vs,o.data≠.fields vs)->b≠T:=λb o q z y=>by rw[y,n]at q;cases q;exact z _ c
  refine Xb h (C.of_keeps λb o q z=>#[o,(a b<|w b o q z).trans q,rfl]) p ((a e<|Ne.symm m).trans k) (λb o q=>(a b λz=>by rw[z,l]at q;cases q).trans<|j b o q) g r (Array.getElem?_eq_some_iff.mp t).1 D
    λf F=>e0a4 F λG H I J y=>B f #[G,g,H,I] (λb o q z=>J b o ((a b<|w b o q z).trans q) z) y
def a0N(n:base.StaysIn s.heap)(p:base.get? e=none)(C:s.heap.FunFrames base l)(D:s.heap.TracedAtW base e cls a0 H)(F:DK e d s.heap)
 (h:∀m,lO base l e cls a0 m->s.heap.UpToSlots m->DK e d m->Q () { s with heap:=m}):ii M A (setFlight (.ref e) none) Q E s:=by
  obtain⟨oe,vs,T,I,J,r,g,u,v,i,j,t,a,G⟩:=D
  obtain⟨N,w,rfl⟩:=F
  rw[r]at w;cases w
  have k:=(Array.getElem?_eq_some_iff.mp G).1
  have c:∀b,b≠T->(s.heap.update T (Obj.mapFields (·.setIfInBounds 3 ((none:Option hO).elim Value.none λf=>mq f)))).get? b=s.heap.get? b:=λb z=>iZ _ _<|Ne.symm z
  have x:∀b o,s.heap.get? b=↑o->(∀vs,o.data≠.fields vs)->b≠T:=λb o q z y=>by rw[y,t]at q;cases q;exact z _ a
  have B:=(c e<|Ne.symm j).trans r
  refine am<|ju r u v ?_
  rw[hI<|show (iD T != Value.none)=true from by simp]
  refine nL t a k<|h _ ⟨λb o q=>(c b λz=>by rw[z,i]at q;cases q).trans<|n b o q,p,C.of_keeps λb o q z=>#[o,(c b<|x b o q z).trans q,rfl],?_⟩ (λb o q z=>#[o.slots,(c b<|x b o q z).trans q]) #[_,B,rfl]
  exact#[oe,vs,T,_,_,B,g,u,v,i,j,jj _ t<|Obj.isFreed_of_fields<|Obj.data_mapFields a _,Obj.data_mapFields a _,by simp[k]]
def zR(b:A.frames=↑(env::outer))(k:s.heap.FunFrames base (env::outer))(l:env.frame=↑L)(m:s.heap.get? e=↑oe)(c:base.StaysIn s.heap)(f:base.get? e=none)(n:oe.data=.fields vs)(o:vs[1]?=some .none)(p:vs[0]?=↑a0)
 (h:∀a,lO base outer e oe.cls a0 a->s.heap.UpToSlots a->DK e oe.dict a->Q () 102):ii M A (uR env<|.ref e) Q E s:=by
  refine am<|UX b k l m c f n o p λq g=>e0a4 g λr t u v w x=>a0N (s:={ s with heap:=q}) r t u v x λy g=>e0a4 g λz B ⟨_,_,C⟩ D i j=>?_
  exact h y #[z,B,C,D] (w.trans i) j
def QU(b:A.frames=↑(env::outer))(j:env.frame=↑L)(c:lO base (env::outer) e cls a0 s.heap)(k:DK e d s.heap)
 (l:∀a,lO base outer e cls a0 a->s.heap.UpToSlots a->DK e d a->Q () 102):ii M A (uR env<|.ref e) Q E s:=by
  refine am<|UY b j c k λm f=>e0a4 f λn o p q r g=>a0N (s:={ s with heap:=m}) n o p q g λt f=>e0a4 f λu v ⟨_,_,w⟩ x h i=>?_
  exact l t #[u,v,w,x] (r.trans h) i
end
class GX where
 g:hO->Option hO->Hp->Prop
variable[GX]
structure Ff(P:iT)(w:ji)(outer:List Env)(H:Hp)(s:h9)(H':Hp)(C x:hO)(s':h9):Prop where
 os:s'.os=s.os
 bare:n8 s'.gens
 un:Un (zM outer) [] H H' s.heap s'.heap
 wy:yG P w H' s'.heap
 dct:∃d,DK x d s'.heap/\GX.g C d H'
 fly:∃(B:jd)(a0:hR),lO B outer x (.ref C) a0 s'.heap/\∀b o,s'.heap.get? b=↑o->(H' b≠none\/∃o0,s.heap.get? b=↑o0)->b∉zM outer->B.get? b=↑o
def wh(P:iT)(w:ji):Qi:=λa H s E e c=>∃(C x:hO)(b:Hp),e=.ref x/\Ff P w a H s b C x c/\E (.ref C) ↑x b
def BK(x:yG P w H h)(e:H a=↑o):∃u,h.get? a=↑u:=by
 have d:∀o:HO,wJ P w H h a o->∃u,h.get? a=↑u:=by
  intro o q
  cases o with
  |lst i=>obtain⟨_,_,_,_,z⟩:=q;exact#[_,z]
  |tup i=>obtain⟨_,_,_,c,z,_⟩:=q;exact#[_,z]
  |dK g=>obtain⟨_,_,_,_,c,_,_,z,_⟩:=q;exact#[_,z]
  |dT g=>obtain⟨_,_,_,_,c,_,_,z,_⟩:=q;exact#[_,z]
  |set S n=>obtain⟨c,_,_,_,z,_⟩:=q;exact#[_,z]
  |ins C j fs=>obtain⟨_,_,_,z,_⟩:=q;exact#[_,z]
  |own b=>exact q
  |xd fs=>obtain⟨k,⟨c,_,_,z,_⟩,_⟩:=q;exact#[_,z]
  |Aj lo l=>obtain⟨_,_,_,z⟩:=q;exact#[_,z]
  |KW c u=>exact#[_,q.1]
  |Gd m=>exact#[_,q]
  |met f y=>exact#[_,q]
  |ext p=>exact q.2.1
 exact d o<|x a o e
section
variable{P:iT}{w:ji}{l:List Env}{H H':Hp}{s s2:h9}{B h':jd}
def LD(u:Un (zM l) [] H H' s.heap s2.heap)(m:yG P w H' s2.heap)(g:∀b o,s2.heap.get? b=↑o->(H' b≠none\/∃D,s.heap.get? b=↑D)->b∉zM l->B.get? b=↑o)
 (i:∀b∈zM l,H' b=none/\∃o,s2.heap.get? b=↑o/\∀E,o.data≠.fields E)(p:B.StaysIn h')(F:s2.heap.UpToSlots h'):Un (zM l) [] H H' s.heap h'/\yG P w H' h':=by
  have d:∀b o,s2.heap.get? b=↑o->b∈zM l->∃r,h'.get? b=some { o with slots:=r}:=λb o e G=>by
    obtain⟨_,t,C,n⟩:=i b G
    rw[e]at C
    cases C
    exact F b o e n
  refine#[#[λb o e n f h=>?_,λb o e n f h=>?_,λb o e n h=>u.free b o e n h,λb o e h=>?_,u.CC,u.Ca,u.Cb],λa o e=>?_]
  · exact p b o<|g b o (u.keep b o e n f h) (.inr #[o, e]) f
  · obtain⟨r, k⟩ := u.slot b o e n f h
    obtain⟨x,y⟩:=d b _ k f
    exact#[x,y]
  · obtain⟨t, k⟩ := u.there b o e h
    by_cases f:b∈zM l
    · obtain⟨r, y⟩ := d b _ k f
      exact#[_,y]
    · exact#[_, p b t<|g b t k (.inr #[o, e]) f]
  · have I : ∀c, H' c ≠ none -> c ∉ zM l := λc A f => A (i c f).1
    refine(m a o e).CA (λc v A q=>?_) (λ_ q=>q) λ_ _ q=>q
    have j:H' c≠none:=by
      rcases A with z|z
      · rw[z, e]; simp
      · rw[z]; simp
    exact p c v<|g c v q (.inl j)<|I c j
end
section
variable{X:Cx}{pins:List (hO×Obj)}{σ:St}{H1 H':Hp}{s1 s2:h9}{C x:hO}{B h':jd}{a0:hR}
def xC(I:Inv X pins σ H1 s1)(a:X.stack=X.env::X.outer):X.env.frame=↑X.env.locals:=by
 rcases I.ok.Ge with z|z
 ·rw[a]at z;have:=congrArg oJ z;simp at this
 ·exact z.2
def OS(I:Inv X pins σ H1 s1)(a:X.stack=X.env::X.outer):zM X.stack=X.env.locals::zM X.outer:=by rw[a];unfold zM;rw[lu,xC I a]
def HM(I:Inv X pins σ H1 s1)(D:X.stack=X.env::X.outer)(hex:X.ex=[])(os:s2.os=s1.os)(m:n8 s2.gens)(u:Un (zM X.stack) [] H1 H' s1.heap s2.heap)(p:yG X.prog X.w H' s2.heap)
 (r:∀b o,s2.heap.get? b=↑o->(H' b≠none\/∃k,s1.heap.get? b=↑k)->b∉zM X.stack->B.get? b=↑o) (ZY:∀b∈zM X.stack,H' b=none/\∃o,s2.heap.get? b=↑o/\∀R,o.data≠.fields R)
 (up:s2.heap.UpToSlots h')(E:lO B X.outer x (.ref C) a0 h')(F:∃d,DK x d h'/\GX.g C d H'):Ff X.prog X.w X.outer X.H₀ X.s₀ H' C x { s2 with heap:=h'}:=by
  obtain⟨i,s⟩:=LD u p r ZY E.1 up
  have t:=OS I D
  have base:Un (zM X.outer) [] X.H₀ H1 X.s₀.heap s1.heap:=by have:=I.base;rw[hex]at this;exact this
  have L:∀b:hO,b∉([]:List hO):=λb z=>by cases z
  have old:∀b o,X.s₀.heap.get? b=↑o->b≠X.env.locals:=λb o e z=>by
    have S:=ie e
    have M:=I.ok.above
    rw[<- z]at M
    exact iv (iE S M)<|kh _
  have y:∀b o,X.s₀.heap.get? b=↑o->b∉zM X.outer->b∉zM X.stack:=λb o e n z=>by
    rw[t]at z
    rcases List.mem_cons.mp z with q|q
    · exact old b o e q
    · exact n q
  refine#[os.trans I.os,m,#[λb o e n j a=>?_,λb o e n j a=>?_,λb o e n a=>?_,λb o e a=>?_,λb N e=>?_,λb o v e=>?_,λb T e=>?_],s,F,B,a0,E,λb o e A j=>?_]
  · exact i.keep b o (base.keep b o e n j a) (base.free b o e n a) (y b o e j) a
  · obtain⟨sl, c⟩ := base.slot b o e n j a
    obtain⟨G,f⟩:=i.slot b _ c (base.free b o e n a) (by rw[t];exact ij _ j) a
    exact#[G,f]
  · obtain⟨l, c⟩ := base.there b o e a
    exact i.free b l c (base.free b o e n a) a
  · obtain⟨l, c⟩ := base.there b o e a
    exact i.there b l c a
  · exact i.CC b N<|base.CC b N e
  · exact i.Ca b o v<|base.Ca b o v e
  · obtain⟨U, c⟩ := base.Cb b T e
    obtain⟨W,f⟩:=i.Cb b _ c
    exact#[U++W,by rw[f,qt]]
  · have fin : ∀h, s2.heap.get? b = some h -> (H' b ≠ none \/ ∃k, s1.heap.get? b = some k) -> b ∉ zM X.stack -> B.get? b = some o := λh f H J => by
      have q:=r b h f H J
      have O:=E.1 b h q
      have Y:h'.get? b=↑o:=e
      rw[Y]at O
      cases O
      exact q
    rcases A with A|⟨k,P⟩
    · obtain⟨Q, Z⟩ : ∃Q, H' b = some Q := by
        cases z:H' b with
        |none=>exact iv z A
        |some v=>exact#[v,rfl]
      obtain⟨h,f⟩:=BK p Z
      exact fin h f (.inl A) λz=>A (ZY b z).1
    · obtain⟨l, c⟩ := base.there b k P (L b)
      obtain⟨h,f⟩:=u.there b l c<|L b
      exact fin h f (.inr #[l,c])<|y b k P j
def Ff.ZY(F:Ff P w l H s H' C x s2)(c:∀b∈zM l,H b=none/\∃o,s.heap.get? b=↑o):∀b∈zM l,H' b=none/\∃o,s2.heap.get? b=↑o/\∀d,o.data≠.fields d:=λb a=>by refine e2a2 F.fly λB a0 f _=>?_;obtain⟨n,o,e⟩:=c b a;exact#[F.un.free b o e n q0o,(f.2.2.1.mem a).2]
def Inv.ZZ(I:Inv X pins σ H1 s1):∀b∈zM X.stack,H1 b=none/\∃o,s1.heap.get? b=↑o:=λb a=>by have c:=I.Hw;exact#[c.KO b a,e1a2 ((c.zd.mem a).2) λo e _=> #[o,e]]
def QV(I:Inv X pins σ H1 s1)(a:X.stack=X.env::X.outer)(b:X.ex=[])(F:Ff X.prog X.w X.stack H1 s1 H' C x s2) :
  ii 54 X.A (uR X.env<|.ref x) (λ_ c=>Ff X.prog X.w X.outer X.H₀ X.s₀ H' C x c) E s2:=by
 have i:=F.ZY I.ZZ;refine e2a2 F.fly λB a0 h e=>?_;rw[a]at h;refine e1a2 F.dct λd j k=>?_;refine QU (by rw[I.ok.frames,a]) (xC I a) h j λh' f l g=>?_;exact HM I a b F.os F.bare F.un F.wy e i l f #[d,g,k]
end
section
variable{P:iT}{w:ji}{K:hJ}{mg:Str->Option hR}{base:jd}{N:List Str}{qual:Str}{scope:mi}{f:hO}{cd:hR}{A:jL}{outer:List Env}{s:h9}{H:Hp}{E:XK}
def Bb:Passes (wh P w) 19 E:=by intro a i j k e l I h;obtain⟨C,x,b,rfl,F,c⟩:=h;exact jb (QV I rfl rfl F) (λ_ d g=>#[C,x,b,rfl,g,c]) λ_ _ z=>z
def Bc:sg (ik P w) (19).A (19).env (19).xe:=PassesOwn.leaving
end
variable[L2.GX]
set_option tactic.hygienic true in
def Nk{K:hJ}{C:hO}(Z:K.In h)(y:jE K C d b=true) :
  ∃j N t q u c v e w f x z A B E F k,h.get? C=↑(jT t q C N u j c v e w f x z A B E F b)/\h.Ns N k/\k "__init__"=none/\tm h d j:=by
 unfold jE at y;split at y
 ·rename_i G H l a
  split at y
  ·rename_i D I m n o p g r J L
   simp only[jc,beq_iff_eq,u4]at y;obtain⟨⟨⟨⟨⟨M,O⟩,P⟩,Q⟩,s⟩,R⟩:=y;subst M;subst O;obtain⟨S,T,u3,U,X,Y,u7,u8,u9,i,aa⟩:=H;subst J;subst P
   have e3:l=#v[m,n,o,p,some<|.builtin g,r]:=by obtain⟨li⟩:=l;exact congrArg Array.mk L
   rw[e3]at a;exact#[I,U,S,X,T,Y,u7,u8,u9,i,G,m,n,o,p,r,_,Z _ _ a,.of_isNs<|qi Z s,PySem.W.nsMap_none_of_in Z s R,tX Z Q]
  ·cases y
 ·cases y
def LF(C:hO)(E:XK)(a:TA):TS:=λ_ b H=>a b H λc d=>c.length<=hZ/\∀x:hO,E (.ref C) ↑x d
section
variable{P:iT}{w:ji}{K:hJ}{mg:Str->Option hR}{base:jd}{N:List Str}{qual:Str}{scope:mi}{f:hO}{cd:hR}{A:jL}{outer:List Env}{s:h9}{H:Hp}{E:XK}
def Fh{C:hO}(hg:Gl 19 x)(hm:mg x=↑(.ref C))(O:jE K C v i=true)
 (Y:kE B i n v) (g0:∀H',GX.g C none H') (ha:PA 19 (y::p) ta) (F:(x==66)=false:=by decide)
 (r:hV (y::p) (19).env=(false,eval y (19).env)::hV p (19).env:=by rfl)
 (G:(jz d<|hV p (19).env).any (·.1)=false:=by rfl) :
    PS 19 (.Raise (some<|.Call (.Name x np) (y::p) [] d) none pos) (LF C E ta):=by
  intro k s1 σ H1 D I h
  obtain⟨bm,N',nm,q,bs,l,sn,J,ab,L,dd,k0,k1,k2,k3,k5,mN,hC,hN,M,T⟩:=Nk I.mod.Cc O
  have Z:=ha d k s1 σ H1 _ I h
  refine vp (prog:=P) (w:=w) (C:=C) (nm:=nm) (q:=q) (N:=N') (bs:=bs) (bm:=bm) (hdct:=l) (sn:=sn) (sub:=J) (ab:=ab) (col:=L) (dd:=dd) (k0:=k0) (k1:=k1) (k2:=k2) (k3:=k3) (k5:=k5)
    Y (mN:=mN) (T.hasType Y.hasBase) (I.ok.hd rfl) (by rw[r];exact(sx _).trans G) M (ze I hg hm #[rfl,?_] F)
  rw[r]at Z ⊢
  refine jI<|jb Z (λus u q2=>?_) λ_ _ z=>z
  refine e2a4 q2 λvs H2 c r2 hl hE=>?_
  refine#[rfl,by show us.length<=hZ;rw[<- r2.length];exact hl,c.bk _ _ hC,hN.keeps c.bk,T.keeps c.bk,λh' e a=>?_]
  have m:(19).stack=(19).env::(19).outer:=rfl
  have fu:=c.Hw.zd
  refine e1a3 a.there λt R _ _=>?_
  have S:(kC u.heap<|zM (19).stack).get? e=none:=by
    cases q:(kC u.heap<|zM (19).stack).get? e with
    |none=>rfl
    |some o=>have z:=lH _ q;rw[a.new]at z;cases z
  refine jb (zR (base:=kC u.heap (zM (19).stack)) (a0:=.ref t) c.ok.frames
    ((oY fu λU r b j=>List.mem_filterMap.mpr #[U,r,j]).of_keeps λb o j _=>#[o,a.keeps b o j,rfl]) (xC c m) R (λb o z=>a.keeps b o (lH _ z)) S rfl rfl rfl (Q:=λ_ X=>wh P w outer H s E (.ref e) X) λaa fl up dk=>?_) (λ_ _ z=>z) λ_ _ z=>z
  refine#[C,e,H2,rfl,?_,hE e]
  refine HM (s2:=u) c m rfl rfl c.bare Un.refl c.wy (λb o z _ nf=>nN _ z nf) (λb j=>?_) ((nV a.keeps).trans up) fl #[_,dk,g0 _]
  exact#[(c.ZZ b j).1,(fu.mem j).2]
end
noncomputable abbrev hand(X:Cx)(x:hO):Cx:={ X with A:=X.A.mark<|some<|.ref x,calm:=false,xe:=λ_ _=>False}
def Inv.a0O(I:Inv { X with pn:=X.pn++a} b c H s):Inv X a c H s :=
 #[58,I.os,I.bare,I.base,I.loc,I.cell,I.free,I.za,λp d=>I.pin p<|jg _ d,I.wy,I.len]
def Inv.HN(I:Inv X a b H s):Inv (hand X x) a b H s :=
 #[#[I.ok.mod,I.ok.kind,I.ok.glob,I.ok.blt,I.ok.above,I.ok.inj,I.ok.has,I.ok.PQ,(λz=>by cases z),I.ok.frames,I.ok.Ge,I.ok.Um,I.ok.bs,I.ok.Jx,I.ok.Eh,I.ok.EN,I.ok.zd,I.ok.KO],I.os,I.bare,I.base,I.loc,I.cell,I.free,I.za,I.pin,I.wy,I.len]
def Inv.Be(b:X.calm=true->X.A.handled=none)(I:Inv (hand X x) a c H s):Inv X a c H s :=
 #[#[I.ok.mod,I.ok.kind,I.ok.glob,I.ok.blt,I.ok.above,I.ok.inj,I.ok.has,I.ok.PQ,b,I.ok.frames,I.ok.Ge,I.ok.Um,I.ok.bs,I.ok.Jx,I.ok.Eh,I.ok.EN,I.ok.zd,I.ok.KO],I.os,I.bare,I.base,I.loc,I.cell,I.free,I.za,I.pin,I.wy,I.len]
end L2
namespace SX
open PySem PyProof.Rows
def JW:nY (.type "dict") "__len__"=pure (some<|.builtin "dict.__len__"):=by rw[oB,mu];kernel_rfl
section
variable{prog:iT}{w:ji}{K:Type}[DecidableEq K]{knd:KeyKind prog w K}{A:jL}{E:hR->h9->Prop}{s:h9}{a:hO}{ks:List Int}{x9:List (K×hR)}{ep:Nat}
def OT(hh:A.handled=none)(G:(a==lG)=false)(D:s.heap.DictAt knd a x9 ep)(hl:x9.length<=hZ)(R:x9.length=ks.length)
 (hk:∀(i:Nat)(k:K)(x:hR)(v:hR),x9[i]?=↑(k,x)->knd.is k v=true->∃j u,ks[i]?=↑j/\v=.int j u)
 (h:∀S tk vs,lM vs ks->(∀c o,s.heap.get? c=↑o->S.get? c=↑o)->⇑s<=S.objs.size->Q vs { s with heap:=S,toks:=tk}):ii (ik prog w) A (collect<|.ref a) Q E s:=by
  have f:a<⇑s:=D.lt_size
  obtain⟨o0,ai,H,l,aj,ak⟩:=id D
  refine am<|tT<|j9 uE ?_
  rw[jQ uF _]
  refine am (m:=newList [])<|je<|ap #[lJ o5 _,j9 F.entry_list_iadd ?_]
  rw[jQ o5 _]
  have z:∀c o,s.heap.get? c=↑o->(s.heap.push 65).get? c=↑o:=λc o q=>ci _ q
  have oL:(s.heap.push 65).get? ⇑s=some 65:=iq _ rfl
  have g:(s.heap.push 65).objs.size=⇑s+1:=jR _ _
  generalize s.heap.push 65=d at z oL g ⊢
  have D1:d.DictAt knd a x9 ep:=D.at' λo q=>z a o q
  show ii _ A.in1 (qx (.ref ⇑s) (.ref a)<|.ref ⇑s) _ _ 155
  have hT:mE 155 (.ref a) "dict":=#[_,z a _ H,l.1]
  refine am<|lA hT ?_
  have n1:mh (.ref ⇑s) (.ref a)=false:=by simp[mh,jD f]
  have n2:(kD "dict" == kD "list")=false:=by decide
  have n3:(kD "dict" == kD "tuple")=false:=by decide
  simp only[n1,n2,n3,sD,lN,pP]
  refine am<|wpAny_pyIter_dict (s:=155) G D1 ?_
  have I:∀c o,d.get? c=↑o->(d.push 75).get? c=↑o:=λc o q=>ci _ q
  have i2:(d.push 75).get? d.objs.size=some 75:=iq _ rfl
  generalize d.push 75=T at I i2 ⊢
  have p:mE { s with heap:=T} (.ref a) "dict":=#[_,I a _<|z a _ H,l.1]
  refine am<|iX ?_
  refine am<|qj p JW ?_
  generalize BV:("dict.__len__":String)=U
  dsimp only
  rw[show splitId U=some ("dict","__len__") from by subst BV;decide +kernel]
  subst BV
  refine am<|mK (b:=true) p F.sub_dict_dict ?_
  rw[cr q0o]
  rw[hI q0s]
  refine am<|lA p<|ap ?_
  have X:A.in1.handled=none:=by simp[hh]
  have ne:a≠d.objs.size:=iz<|oh f (by rw[g];exact jP _)
  have W:=(Walks.dictKeys (knd:=knd) (A:=A.in1) X d.objs.size a ne x9 ep).toS
  have Y:⇑s∉[d.objs.size,a]:=by
    simp only[iO,jB,mH,qE]
    exact#[by rw[g];exact iz<|jP _,jD f]
  have t:=I _ _ oL
  -- the ah,B al J Z of it
  have L:∀(C:jd)(M:Nat),C.get? ⇑s=some { cls:=.type "list",data:=.seq ([]:List hR).toArray M}->(∀c o,c≠⇑s->T.get? c=↑o->C.get? c=↑o) ->
      mI (ik prog w) A (.builtin "list.extend.loop" #[[.ref ⇑s,.ref d.objs.size,.ref ⇑s],[]]) (λr s'=>match r with
        | .ok (.ret v)=>ii (ik prog w) A (match v with
          | .ref a=>do
            let o <- load a
            match o.data with
              | .seq xs aa=>pure xs.toList
              |x=>lX "internal:collect"
          |x=>lX "internal:collect") Q E s'
        | .ok _=>False
        | .error e=>E e s') { s with heap:=C}:=by
    intro C M y k4
    have I4:C.IsKeyIter d.objs.size a 0 x9.length ep/\C.DictAt knd a x9 ep:=#[#[_,k4 _ _ (by rw[g];exact jD<|jP _) i2,rfl,rfl],D1.at' λo q=>k4 _ _ (iz f)<|I _ _ q]
    refine codeAny_extend_loopS W hl _ Y _ x9.length 0 _ _ _ rfl (js _) I4 y (ItemsOf.nil _) λs5 ab c5 P N n=>?_
    refine am<|ro N<|ap ?_
    obtain⟨h5,g5,d5,ae,af⟩:=s5
    have eg:g5=s.gens:=P.gens
    have ed:d5=s.drawn:=P.drawn
    have eo:af=s.os:=P.os
    subst eg ed eo
    refine h h5 ae ab.toList (Ba ?_ λi v hv=>?_) (λc o q=>P.heap c o (by
      simp only[iO,jB,mH,qE]
      exact#[iz (ie q),iz (ie (z c o q))]) (k4 c o (iz (ie q)) (I c o (z c o q)))) (my (ie N))
    · rw[ig, n.1, R]
    · obtain⟨k, x, hx, ag⟩ := n.2 i v (by rw[<- ja]; exact hv)
      exact hk i k x v hx ag
  first
    | (rw[cr q0s];exact ap ⟨lJ qG _,L T 0 t λ_ _ _ q=>q⟩)
    | (rw[hI q0s]
       refine am<|mG<|am ?_
       refine am<|qo t rfl ?_
       have O:=jj (Obj.mapSeq (·.push Value.none)) t rfl
       refine qo O rfl ?_
       have y:=jj (Obj.mapSeq (·.pop)) O rfl
       refine ap #[lJ qG _,L _ _ y λc o hc q=>(iZ _ _ (Ne.symm hc)).trans ((iZ _ _ (Ne.symm hc)).trans q)])
end
end SX
namespace L2
open PySem PySem.Spec PyProof.Rows SX
def UZ{k:Int}(h:AW (.inl k) v=true):∃u,v=.int k u:=by
 rcases wQ h with⟨i,t,e,rfl⟩|⟨x,t,e,_⟩
 ·cases e;exact#[t,rfl]
 ·cases e
def YI:∀{b:List (Key×V)} {c:List (Key×hR)} (_:KV b c) (i:Nat) {k:Key} {x:hR},c[i]?=↑(k,x)->∃y,b[i]?=↑(k,y):=by
 intro _ _ z
 induction z with
 |nil=>intro i _ _ h;cases h
 |cons a t d =>
  intro i k x h
  cases i with
  |zero=>cases h;exact#[_,congrArg some<|Prod.ext a.1 rfl]
  |succ i=>exact e1a1 (d i<|by simpa using h) λy q=>#[y,by simpa using q]
def HP(J:X.calm=true):zq X 156 (λC H Q=>∃(a:hO) (b:List (Key×V)) (c:List Int),C=[.ref a]/\H a=↑(.dK b)/\b.map (·.1)=c.map iM/\c.length<64/\∀(p:hO)(t:List Int),H p=none->t.Perm c->t.Pairwise (·<=·)->Q (.ref p) (upd H p<|.lst<|t.map V.int)):=by
 intro E s σ H C us Q I r h;obtain⟨a,b,c,rfl,L,f,g,q⟩:=h;obtain⟨u,rfl,M⟩:=vals1 r;cases M;obtain⟨hz,l,F,G,N⟩:=I.wy a _ L;obtain⟨o,O,P,R,z,m,d⟩:=N;have D:s.heap.DictAt (wl X.prog X.w) a F P:=#[o,O,R,z,m,d];have S:b.length=F.length:=Paired.length G;have T:b.length=c.length:=by have:=congrArg oJ f;simpa using this
 refine DC (λQ' k=>OT (by simp[I.ok.hd J]) l D q0a q0a (λi U x v W A=>?_) λY Z B hi k1 sz=>k Y Z B c hi (.refl _) k1 sz) g<|Cr I g q;obtain⟨y,hy⟩:=YI G i W;have n:(b.map (·.1))[i]?=↑U:=by rw[jU,hy];rfl
 rw[f,jU]at n
 cases e:c[i]? with
 |none=>rw[e]at n;cases n
 |some j =>
  rw[e]at n;cases n;obtain⟨u,hu⟩:=UZ A;exact#[j,u,rfl,hu]
end L2
namespace WL
open PySem L2
abbrev Wf(A τ PO:Type):=A->99->87->Prop
abbrev Rg:=hO->Prop
structure Ext(G R:Rg)(H:Hp)(R':Rg)(H':Hp):Prop where
 keep:∀b o,¬G b->H b=↑o->H' b=↑o
 new:∀a,R' a->R a\/H a=none
def Ext.wide(e:Ext G R H c d)(s:∀a,G a->R a):Ext R R H c d:=#[λb o n h=>e.keep b o (λg=>n<|s b g) h,e.new]
def Ext.not(e:Ext G R H b c)(n:¬R a)(h:H a=↑o):¬b a:=λz=>by
 rcases e.new a z with q|q
 ·exact n q
 ·rw[h]at q;cases q
class Rep(α:Type) where
 rp:Rg->Hp->α->V->Prop
 st:∀{R:Rg} {H:Hp} {R':Rg} {H':Hp} {x:α} {v:V},rp R H x v->Ext R R H R' H'->rp R' H' x v
open Rep (rp)
instance:Rep Int:=#[λ_ _ i v=>v=.int i,λh _=>h]
instance:Rep Bool:=#[λ_ _ i v=>v=.bl i,λh _=>h]
instance:Rep Unit:=#[λ_ _ _ v=>v=.xj,λh _=>h]
instance{α:Type}[Rep α]:Rep (Option α):=#[λR H x v=>match x with|none=>v=.xj|some y=>v≠.xj/\rp R H y v,λ{R H R' H' x v} h e=>by
 cases x with
 |none=>exact h
 |some y=>exact#[h.1,Rep.st h.2 e]]
def wT{α:Type}[Rep α]{R R':Rg}{H H':Hp}(e:Ext R R H R' H'):∀{xs:List α} {vs:List V},Paired (rp R H) xs vs->Paired (rp R' H') xs vs:=by
 intro _ _ z
 induction z with
 |nil=>exact .nil
 |cons h t ih=>exact .cons (Rep.st h e) ih
instance{α:Type}[Rep α]:Rep (List α):=#[λR H xs v=>∃a vs,v=.ref a/\¬R a/\H a=↑(.lst vs)/\Paired (rp R H) xs vs,λ{R H R' H' x v} h e=>by
 refine e2a4 h λa vs h1 h2 h3 h4=>?_
 exact#[a,vs,h1,e.not h2 h3,e.keep a _ h2 h3,wT e h4]]
instance{α β:Type}[Rep α][Rep β]:Rep (α×β):=#[λR H x v=>∃a u w,v=.ref a/\¬R a/\H a=↑(.tup [u,w])/\rp R H x.1 u/\rp R H x.2 w,λ{R H R' H' x v} h e=>by
 obtain⟨a,u,w,h1,h2,h3,h4,h5⟩:=h
 exact#[a,u,w,h1,e.not h2 h3,e.keep a _ h2 h3,Rep.st h4 e,Rep.st h5 e]]
structure Tp(α:Type) where
 l:List α
instance{α:Type}[Rep α]:Rep (Tp α):=#[λR H xs v=>∃a vs,v=.ref a/\¬R a/\H a=↑(.tup vs)/\Paired (rp R H) xs.l vs,λ{R H R' H' x v} h e=>by
 refine e2a4 h λa vs h1 h2 h3 h4=>?_
 exact#[a,vs,h1,e.not h2 h3,e.keep a _ h2 h3,wT e h4]]
class Ow(τ:Type) where
 sl:Rg->Rg->Hp->τ->Option V->Prop
 st:∀{F G R:Rg} {H:Hp} {R':Rg} {H':Hp} {x:τ} {v:Option V},sl F R H x v->Ext G R H R' H'->(∀a,G a->R a)->(∀a,F a->¬G a)->sl F R' H' x v
 fq:∀{F F' R:Rg} {H:Hp} {x:τ} {v:Option V},sl F R H x v->(∀a,F a↔F' a)->sl F' R H x v
open Ow (sl)
structure Un where
instance:Ow Un:=#[λF _ _ _ _=>∀a,¬F a,λh _ _ _=>h,λh e a z=>h a ((e a).mpr z)]
noncomputable instance a3S{α:Type}[Rep α]:Ow α:=#[λF R H x v=>(∀a,¬F a)/\∃u,v=↑u/\rp R H x u,λh e s _=>#[h.1,e1a2 h.2 λu h1 h2=> #[u,h1,Rep.st h2<|e.wide s]],λh e=>#[λa z=>h.1 a<|(e a).mpr z,h.2]]
structure OL(α:Type) where
 l:List α
instance{α:Type}[Rep α]:Ow (OL α):=#[λF R H x v=>∃a vs,v=↑(.ref a)/\(∀b,F b↔b=a)/\H a=↑(.lst vs)/\Paired (rp R H) x.l vs,
 λh e s n=>by
  refine e2a4 h λa vs h1 h2 h3 h4=>?_
  exact#[a,vs,h1,h2,e.keep a _ (n a<|(h2 a).mpr rfl) h3,wT (e.wide s) h4],
 λh e=>by
  refine e2a4 h λa vs h1 h2 h3 h4=>?_
  exact#[a,vs,h1,λb=>(e b).symm.trans (h2 b),h3,h4]]
class Sls(D:Type) where
 rel:Rg->Rg->Hp->D->St->Prop
 st:∀{F G R:Rg} {H:Hp} {R':Rg} {H':Hp} {d:D} {σ:St},rel F R H d σ->Ext G R H R' H'->(∀a,G a->R a)->(∀a,F a->¬G a)->rel F R' H' d σ
 fq:∀{F F' R:Rg} {H:Hp} {d:D} {σ:St},rel F R H d σ->(∀a,F a↔F' a)->rel F' R H d σ
open Sls (rel)
instance:Sls Unit:=#[λF _ _ _ σ=>σ=[]/\∀a,¬F a,λh _ _ _=>h,λh e=>#[h.1,λa z=>h.2 a ((e a).mpr z)]]
structure Ek(F F1 F2:Rg):Prop where
 all:∀a,F a↔F1 a\/F2 a
 yU:∀a,F1 a->F2 a->False
instance{τ D:Type}[Ow τ][Sls D]:Sls (τ×D):=#[λF R H d σ=>∃v σ' F1 F2,σ=v::σ'/\Ek F F1 F2/\sl F1 R H d.1 v/\rel F2 R H d.2 σ',
 λh e s n=>by
  refine e4a4 h λv σ' F1 F2 h1 h2 h3 h4=>?_
  exact#[v,σ',F1,F2,h1,h2,Ow.st h3 e s<|λa z=>n a<|(h2.all a).mpr<|.inl z,Sls.st h4 e s<|λa z=>n a<|(h2.all a).mpr<|.inr z],
 λh e=>by
  refine e4a4 h λv σ' F1 F2 h1 h2 h3 h4=>?_
  exact#[v,σ',F1,F2,h1,#[λa=>(e a).symm.trans (h2.all a),h2.yU],h3,h4]]
class At(i:Nat)(B:Type)[Sls B](τ:outParam Type)[Ow τ](B':outParam Type)[Sls B'] where
 get:B->τ
 hole:B->B'
 take:∀{F R:Rg} {H:Hp} {b:B} {σ:St},rel F R H b σ->∃v F1 F2,σ[i]?=↑v/\Ek F F1 F2/\sl F1 R H (get b) v/\rel F2 R H (hole b) σ
class Pt(i:Nat)(B':Type)[Sls B'](τ:Type)[Ow τ](B:outParam Type)[Sls B] where
 put:B'->τ->B
 back:∀{F F1 F2 R:Rg} {H:Hp} {b:B'} {x:τ} {v:Option V} {σ:St},rel F2 R H b σ->Ek F F1 F2->sl F1 R H x v->rel F R H (put b x) (σ.set i v)
def set_same:∀{l:List b} {i:Nat} {v:b},l[i]?=↑v->l.set i v=l
 | [],_,_,h=>by simp at h
 |_::_,0,_,h=>by simp at h;subst h;rfl
 |a::r,i+1,v,h=>by show a::r.set i v=a::r;rw[set_same<|by simpa using h]
def Pt.same{i:Nat}{B' τ B:Type}[Sls B'][Ow τ][Sls B][A:Pt i B' τ B]{F F1 F2 R:Rg}{H:Hp}{b:B'}{x:τ}{v:Option V}{σ:St}(h:rel F2 R H b σ)(e:σ[i]?=↑v)(t:Ek F F1 F2)(s:sl F1 R H x v):rel F R H (A.put b x) σ:=by have:=A.back h t s;rw[set_same e]at this;exact this
noncomputable instance at0{τ D:Type}[Ow τ][Sls D]:At 0 (τ×D) τ (Un×D) where
 get b:=b.1
 hole b:=(#[],b.2)
 take:=λh=>by refine e4a4 h λv σ' F1 F2 h1 h2 h3 h4=>?_;exact#[v,F1,F2,by rw[h1];rfl,h2,h3,v,σ',λ_=>False,F2,h1,#[λa=>#[.inr,λz=>z.elim (λq=>q.elim) id],λ_ z _=>z],λ_ z=>z,h4]
noncomputable instance pt0{τ D:Type}[Ow τ][Sls D]:Pt 0 (Un×D) τ (τ×D) where
 put b x:=(x,b.2)
 back:=λ{F F1 F2 R H b x v σ} h t s=>by refine e4a4 h λv' σ' G1 G2 h1 h2 h3 h4=>?_;have e2:∀a,G2 a↔F2 a:=λa=>#[λz=>(h2.all a).mpr<|.inr z,λz=>((h2.all a).mp z).elim (λq=>iv q<|h3 a) id];exact#[_,σ',F1,F2,by rw[h1];rfl,t,s,Sls.fq h4 e2]
noncomputable instance atS{i:Nat}{ρ τ D D':Type}[Ow ρ][Ow τ][Sls D][Sls D'][A:At i D τ D']:At (i+1) (ρ×D) τ (ρ×D') where
 get b:=A.get b.2
 hole b:=(b.1,A.hole b.2)
 take:=λh=>by
  refine e4a4 h λv σ' F1 F2 h1 h2 h3 h4=>?_;refine e3a4 (A.take h4) λu G1 G2 k1 k2 k3 k4=>?_;refine#[u,G1,λa=>F1 a\/G2 a,by rw[h1];simpa using k1,#[λa=>?_,λa z q=>?_],k3,v,σ',F1,G2,h1,#[λa=>Iff.rfl,λa z q=>h2.yU a z<|(k2.all a).mpr<|.inr q],h3,k4]
  ·rw[h2.all,k2.all];exact#[λz=>z.elim (λq=>.inr<|.inl q) λz=>z.elim .inl λq=>.inr<|.inr q,λz=>z.elim (λq=>.inr<|.inl q) λz=>z.elim .inl λq=>.inr<|.inr q]
  ·rcases q with q|q
   ·exact h2.yU a q<|(k2.all a).mpr<|.inl z
   ·exact k2.yU a z q
noncomputable instance ptS{i:Nat}{ρ τ D D':Type}[Ow ρ][Ow τ][Sls D][Sls D'][A:Pt i D' τ D]:Pt (i+1) (ρ×D') τ (ρ×D) where
 put b x:=(b.1,A.put b.2 x)
 back:=λ{F F1 F2 R H b x v σ} h t s=>by
  refine e4a4 h λv' σ' G1 G2 h1 h2 h3 h4=>?_;have t':Ek (λa=>F1 a\/G2 a) F1 G2:=#[λa=>Iff.rfl,λa z q=>t.yU a z<|(h2.all a).mpr<|.inr q];refine⟨v',σ'.set i v,G1,λa=>F1 a\/G2 a,by rw[h1];rfl,#[λa=>?_,λa z q=>?_],h3,A.back h4 t' s⟩
  ·rw[t.all,h2.all];exact#[λz=>z.elim (λq=>.inr<|.inl q) λz=>z.elim .inl λq=>.inr<|.inr q,λz=>z.elim (λq=>.inr<|.inl q) λz=>z.elim .inl λq=>.inr<|.inr q]
  ·rcases q with q|q
   ·exact t.yU a q<|(h2.all a).mpr<|.inl z
   ·exact h2.yU a z q
class Fg(D:Type)[Sls D](D':Type)[Sls D'] where
 fg:D->D'
 le:∀{F R:Rg} {H:Hp} {d:D} {σ:St},rel F R H d σ->∃F',(∀a,F' a->F a)/\rel F' R H (fg d) σ
noncomputable instance fgId{D:Type}[Sls D]:Fg D D:=#[id,λh=>#[_,λ_ z=>z,h]]
def two_le{F d e b c:Rg}(t:Ek F d e)(f:∀a,b a->d a)(g:∀a,c a->e a):Ek (λa=>b a\/c a) b c:=#[λ_=>Iff.rfl,λa x y=>t.yU a (f a x)<|g a y]
instance(priority:=low) fgUn {τ D D':Type}[Ow τ][Sls D][Sls D'][A:Fg D D']:Fg (τ×D) (Un×D'):=#[λd=>(#[],A.fg d.2),λh=>by
 obtain⟨v,σ',F1,F2,h1,h2,h3,h4⟩:=h;obtain⟨F',k1,k2⟩:=A.le h4
 exact#[_,λa z=>(h2.all a).mpr (.inr (k1 a (z.elim (λq=>q.elim) id))),v,σ',λ_=>False,F',h1,#[λa=>Iff.rfl,λ_ z _=>z],λ_ z=>z,k2]]
noncomputable instance fgCons{τ D D':Type}[Ow τ][Sls D][Sls D'][A:Fg D D']:Fg (τ×D) (τ×D'):=#[λd=>(d.1,A.fg d.2),λh=>by
 refine e4a4 h λv σ' F1 F2 h1 h2 h3 h4=>?_;refine e1a2 (A.le h4) λF' k1 k2=>?_
 exact#[_,λa z=>(h2.all a).mpr (z.elim .inl λq=>.inr (k1 a q)),v,σ',F1,F',h1,two_le h2 (λ_ z=>z) k1,h3,k2]]
class Pj(D:Type)[Sls D](P:Type)[Sls P](n:outParam Nat) where
 pj:D->P
 le:∀{F R:Rg} {H:Hp} {d:D} {σ:St},rel F R H d σ->∃F',(∀a,F' a->F a)/\rel F' R H (pj d) (σ.take n)
noncomputable instance pjNil{D:Type}[Sls D]:Pj D Unit 0:=#[λ_=>(),λh=>#[λ_=>False,λ_ z=>z.elim,rfl,λ_ z=>z]]
instance(priority:=low) pjUn {τ D P:Type}{n:Nat}[Ow τ][Sls D][Sls P][A:Pj D P n]:Pj (τ×D) (Un×P) (n+1):=#[λd=>(#[],A.pj d.2),λh=>by
 obtain⟨v,σ',F1,F2,h1,h2,h3,h4⟩:=h;obtain⟨F',k1,k2⟩:=A.le h4
 exact#[_,λa z=>(h2.all a).mpr (.inr (k1 a (z.elim (λq=>q.elim) id))),v,σ'.take n,λ_=>False,F',by rw[h1];rfl,#[λa=>Iff.rfl,λ_ z _=>z],λ_ z=>z,k2]]
noncomputable instance pjCons{τ D P:Type}{n:Nat}[Ow τ][Sls D][Sls P][A:Pj D P n]:Pj (τ×D) (τ×P) (n+1):=#[λd=>(d.1,A.pj d.2),λh=>by
 refine e4a4 h λv σ' F1 F2 h1 h2 h3 h4=>?_;refine e1a2 (A.le h4) λF' k1 k2=>?_
 exact#[_,λa z=>(h2.all a).mpr (z.elim .inl λq=>.inr (k1 a q)),v,σ'.take n,F1,F',by rw[h1];rfl,two_le h2 (λ_ z=>z) k1,h3,k2]]
class Sel(is:List Nat)(D:Type)[Sls D](S:outParam Type)[Sls S](D0:outParam Type)[Sls D0] where
 sel:D->S
 rest:D->D0
 mrg:D0->S->D
 cut:∀{F R:Rg} {H:Hp} {d:D} {σ:St},rel F R H d σ->∃F1 F2,Ek F F1 F2/\rel F1 R H (sel d) (is.map λi=>σ[i]?.join)/\rel F2 R H (rest d) σ/\∀i∈is,i<σ.length
 join:∀{F F1 F2 R:Rg} {H:Hp} {d:D0} {s:S} {σ:St},Ek F F1 F2->rel F1 R H s (is.map λi=>σ[i]?.join)->rel F2 R H d σ->(∀i∈is,i<σ.length)->rel F R H (mrg d s) σ
noncomputable instance selNil{D:Type}[Sls D]:Sel [] D Unit D where
 sel _:=()
 rest d:=d
 mrg d _:=d
 cut:=λ{F R H d σ} h=>#[λ_=>False,F,#[λa=>#[.inr,λz=>z.elim (λq=>q.elim) id],λ_ z _=>z],#[rfl,λ_ z=>z],h,λ_ z=>by cases z]
 join:=λ{F F1 F2 R H d s σ} t h1 h2 _=>Sls.fq h2 λa=>#[λz=>(t.all a).mpr<|.inr z,λz=>((t.all a).mp z).elim (λq=>iv q<|h1.2 a) id]
noncomputable instance selCons{i:Nat}{is:List Nat}{D τ D1 S D0:Type}[Sls D][Ow τ][Sls D1][Sls S][Sls D0][A:At i D τ D1][P:Pt i D1 τ D][B:Sel is D1 S D0]:Sel (i::is) D (τ×S) D0 where
 sel d:=(A.get d,B.sel<|A.hole d)
 rest d:=B.rest<|A.hole d
 mrg d s:=P.put (B.mrg d s.2) s.1
 cut:=λ{F R H d σ} h=>by
  refine e3a4 (A.take h) λv F1 F2 h1 h2 h3 h4=>?_;refine e2a4 (B.cut h4) λG1 G2 k1 k2 k3 k4=>?_;have hv:σ[i]?.join=v:=by rw[h1];rfl
  refine#[λa=>F1 a\/G1 a,G2,#[λa=>?_,λa z q=>?_],#[v,_,F1,G1,by rw[iN,hv],#[λ_=>Iff.rfl,λa z q=>h2.yU a z<|(k1.all a).mpr<|.inl q],h3,k2],k3,λj hj=>?_]
  ·rw[h2.all,k1.all];exact#[λz=>z.elim (λq=>.inl<|.inl q) λz=>z.elim 157 .inr,λz=>z.elim (λz=>z.elim .inl λq=>.inr<|.inl q) λq=>.inr<|.inr q]
  ·rcases z with z|z
   ·exact h2.yU a z<|(k1.all a).mpr<|.inr q
   ·exact k1.yU a z q
  ·rcases List.mem_cons.mp hj with e|e
   ·rw[e];exact(List.getElem?_eq_some_iff.mp h1).1
   ·exact k4 j e
 join:=λ{F F1 F2 R H d s σ} t h1 h2 hl=>by
  refine e4a4 h1 λv σ' G1 G2 k1 k2 k3 k4=>?_;rw[iN]at k1;injection k1 with e1 e2;subst e2;have hi:i<σ.length:=hl i ic
  have ev:σ[i]?=↑v:=by rw[jO hi]at e1 ⊢;exact congrArg some e1
  have t2:Ek (λa=>G2 a\/F2 a) G2 F2:=#[λ_=>Iff.rfl,λa z q=>t.yU a ((k2.all a).mpr<|.inr z) q];refine Pt.same (B.join t2 k4 h2 λj hj=>hl j<|ij _ hj) ev ⟨λa=>?_,λa z q=>?_⟩ k3
  ·rw[t.all,k2.all];exact#[λz=>z.elim (λz=>z.elim .inl λq=>.inr<|.inl q) λq=>.inr<|.inr q,λz=>z.elim (λq=>.inl<|.inl q) λz=>z.elim 157 .inr]
  ·rcases q with q|q
   ·exact k2.yU a z q
   ·exact t.yU a ((k2.all a).mpr<|.inl z) q
structure wG(T:hO){D:Type}[Sls D](F R:Rg)(H:Hp)(d:D)(σ:St):Prop where
 rel:rel F R H d σ
 sub:∀a,F a->R a
 xP:∀a,R a->H a≠none
 tab:TabAt H T
 wx:R T
 wd:¬F T
def Ac(t:TabAt H T):H T≠none:=by refine e1a2 t λa e _=>?_;rw[e];simp
structure Ch(T:hO)(F R:Rg)(H:Hp)(F' R':Rg)(H':Hp):Prop where
 keep:∀b o,¬F b->b≠T->H b=↑o->H' b=↑o
 AU:∀a,R' a->R a\/H a=none
 yo:∀a,F' a->F a\/H a=none
 left:∀a,R a->¬F a->R' a
def Ch.refl(T:hO)(F R:Rg)(H:Hp):Ch T F R H F R H:=#[λ_ _ _ _ h=>h,λ_ h=>.inl h,λ_ h=>.inl h,λ_ h _=>h]
def Ch.trans{T:hO}{D:Type}[Sls D]{d:D}{u:St}{F R k l m p:Rg}{H j r:Hp}(s:wG T F R H d u)(v:TabAt j T)(a:Ch T F R H k l j)(b:Ch T k l j m p r):Ch T F R H m p r:=by
 have g:∀c,¬F c->H c≠none->¬k c:=λc n h z=>by
  rcases a.yo c z with q|q
  ·exact n q
  ·exact h q
 have f:∀c,j c=none->¬(F c)->H c=none:=λc h n=>by
  cases e:H c with
  |none=>rfl
  |some o =>
   have w:c≠T:=λz=>by rw[z]at h;exact Ac v h
   rw[a.keep c o n w e]at h;cases h
 refine#[λc o n t h=>b.keep c o (g c n<|by rw[h];simp) t<|a.keep c o n t h,λc h=>?_,λc h=>?_,λc h n=>b.left c (a.left c h n)<|g c n<|s.xP c h]
 ·rcases b.AU c h with q|q
  ·exact a.AU c q
  ·by_cases i:F c
   ·exact .inl<|s.sub c i
   ·exact .inr<|f c q i
 ·rcases b.yo c h with q|q
  ·exact a.yo c q
  ·by_cases i:F c
   ·exact .inl i
   ·exact .inr<|f c q i
def Ch.ext(c:Ch T F R H f d e):Ext (λa=>F a\/a=T) R H d e:=#[λb o n h=>c.keep b o (λz=>n<|.inl z) (λz=>n<|.inr z) h,c.AU]
def wG.val{T:hO}{D:Type}[Sls D]{d:D}{σ:St}{F R F' R':Rg}{H H':Hp}(s:wG T F R H d σ)(c:Ch T F R H F' R' H'){α:Type}[Rep α]{x:α}{v:V}(h:rp R H x v):rp R' H' x v :=
 Rep.st h (c.ext.wide λa z=>z.elim (s.sub a) λq=>by rw[q];exact s.wx)
def wG.new{T:hO}{D:Type}[Sls D]{d:D}{c:St}{F R:Rg}{H:Hp}(s:wG T F R H d c){p:hO}(o:HO)(f:H p=none):wG T F R (upd H p o) d c/\Ch T F R H F R (upd H p o)/\¬R p:=by
 have g:¬R p:=λz=>s.xP p z f;have k:∀b u,H b=↑u->upd H p o b=↑u:=λb u e=>by rw[vB<|vM e f];exact e
 refine#[#[Sls.st s.rel (G:=λ_=>False) #[λb u _ e=>k b u e,λa h=>.inl h] 121<|λ_ _ z=>z,s.sub,λa z=>?_,?_,s.wx,s.wd],#[λb u _ _ e=>k b u e,λa h=>.inl h,λa h=>.inl h,λa h _=>h],g]
 ·cases e:H a with
  |none=>exact iv e<|s.xP a z
  |some u=>rw[k a u e];simp
 ·refine e1a2 s.tab λi e t=>?_;exact#[i,k _ _ e,t]
def EW(X:Cx)(E:XK)(T:hO)(e:i8){D α:Type}[Sls D][Rep α](w:Wf D α D):Prop :=
 ∃t,PE X e t/\∀(d:D)(F R:Rg)(σ:St)(H:Hp)(Kn:α->D->Prop)(Ke:hO->D->Prop)(Q:VK),wG T F R H d σ->w d Kn Ke ->
  (∀x d' v F' R' H',Kn x d'->Ch T F R H F' R' H'->wG T F' R' H' d' σ->rp R' H' x v->Q v H') ->
  (∀C y d' F' R' H',Ke C d'->Ch T F R H F' R' H'->wG T F' R' H' d' σ->E (.ref C) ↑y H')->t σ H Q
@[reducible] def cK{D K a:Type}(w:D->a->72->Prop)(g:K->a):D->K->72->Prop:=λd b c=>w d (g b) c
@[reducible] def cB{D a K b:Type}(w:Wf D a D)(v:D->b->72->Prop)(g:a->K->b):D->K->72->Prop:=λd e c=>w d (λx f=>v f (g x e) c) c
@[reducible] def cA{D:Type}(w v:Wf D Bool D):D->(Bool->D->Prop)->72->Prop:=λd a b=>w d (λx c=>if x=true then v c a b else a false c) b
@[reducible] def cO{D:Type}(w v:Wf D Bool D):D->(Bool->D->Prop)->72->Prop:=λd a b=>w d (λx c=>if x=true then a true c else v c a b) b
@[reducible] def cC{D e P B g a:Type}(w:D->(P->B->g->Prop)->72->Prop)(f:Wf P e a)(m:B->g->a->D):D->(e->D->Prop)->72->Prop:=λd i h=>w d (λp b l=>f p (λx c=>i x<|m b l c) λC c=>h C<|m b l c) h
@[reducible] def cM{D e g P B h a:Type}(w:D->(P->B->h->Prop)->72->Prop)(f:Wf (g×P) e a)(t:B->g)(m:B->h->a->D):D->(e->D->Prop)->72->Prop:=λd j i=>w d (λp b l=>f (t b,p) (λx c=>j x<|m b l c) λC c=>i C<|m b l c) i
@[reducible] def cN{D i e P B g a:Type}(w:D->(P->B->g->Prop)->72->Prop)(f:Wf (e×P) i a)(t:B->e)(m:B->g->a->D):D->(D->Prop)->72->Prop:=λd j h=>w d (λp b l=>f (t b,p) (λ_ c=>j<|m b l c) λC c=>h C<|m b l c) h
@[reducible] def cS{D a b c e:Type}(w:D->e->72->Prop)(j:D->b)(g:(a->Prop)->c->e):D->(a->Prop)->c->(hO->b->Prop)->Prop:=λd f h i=>w d (g f h) λC k=>i C<|j k
@[reducible] def cG{D a D' b c:Type}(w:D->(a->Prop)->b->c->Prop)(g:a->D'):D->(D'->Prop)->b->c->Prop:=λd e f h=>w d (λi=>e<|g i) f h
@[reducible] def cI{D e a f:Type}(w:Wf D Bool D)(u v:D->(e->Prop)->f->(hO->a->Prop)->Prop)(j:D->a):D->(e->Prop)->f->(hO->a->Prop)->Prop:=λd g h c=>w d (λb i=>if b=true then u i g h c else v i g h c) λC k=>c C<|j k
@[reducible] def cW{D c a e:Type}(w:Wf D Bool D)(v:D->(c->Prop)->e->(hO->a->Prop)->Prop)(g:c->D)(j:D->a):D->(D->Prop)->e->(hO->a->Prop)->Prop:=λd k l f=>∃W:Nat->D->Prop,(∃m,W m d)/\∀m d,W m d->w d (λb h=>if b=true then v h (λn=>∃i,i<m/\W i (g n)) l f else k h) λC o=>f C<|j o
@[reducible] def cT{D a b:Type}(w:D->(D->Prop)->72->Prop)(v:D->(D->Prop)->b->(hO->a->Prop)->Prop)(e:List hO):D->(D->Prop)->b->(hO->a->Prop)->Prop:=λd c f g=>w d c λC h=>C∈e/\v h c f g
structure Nw(T:hO){τ:Type}[Ow τ](F1 F2 R:Rg)(H:Hp)(x:τ)(v:V):Prop where
 is:sl F1 R H x ↑v
 sub:∀a,F1 a->R a
 yU:∀a,F1 a->F2 a->False
 tab:¬F1 T
def EO(X:Cx)(E:XK)(T:hO)(e:i8){D h:Type}[Sls D][Ow h](w:Wf D h D):Prop :=
 ∃t,PE X e t/\∀(d:D)(F R:Rg)(g:St)(H:Hp)(j:h->D->Prop)(k:hO->D->Prop)(Q:VK),wG T F R H d g->w d j k ->
  (∀x f v l i c b,j x f->Ch T F R H (λa=>l a\/i a) c b->wG T i c b f g->Nw T l i c b x v->Q v b) ->
  (∀C y f m c b,k C f->Ch T F R H m c b->wG T m c b f g->E (.ref C) ↑y b)->t g H Q
def TW(X:Cx)(E:XK)(T:hO)(e:i8){D:Type}[Sls D](w:Wf D Bool D):Prop :=
 ∃t,PT X e t/\∀(d:D)(F R:Rg)(g:St)(H:Hp)(h:Bool->D->Prop)(i:hO->D->Prop)(Q:Bool->Hp->Prop),wG T F R H d g->w d h i ->
  151 ->
  122->t g H Q
section
variable{D:Type}[Sls D]
def YJ{F R F1 F2 R':Rg}{H H':Hp}{d d':D}{σ:St}{α:Type}[Rep α]{x:OL α}{v:V}(s:wG T F R H d σ)(c:Ch T F R H (λa=>F1 a\/F2 a) R' H')(s':wG T F2 R' H' d' σ)(n:Nw T F1 F2 R' H' x v) :
  ∃KP,Ch T F R H F2 KP H'/\wG T F2 KP H' d' σ/\rp KP H' x.l v:=by
 have ex:Ext (λ_=>False) R' H' (λa=>R' a/\¬F1 a) H':=#[λ_ _ _ h=>h,λa h=>.inl h.1];refine#[λa=>R' a/\¬F1 a,#[c.keep,λa h=>c.AU a h.1,λa h=>c.yo a<|.inr h,λa h k=>#[c.left a h k,λz=>?_]],#[Sls.st s'.rel ex 121<|λ_ _ z=>z,λa h=>#[s'.sub a h,λz=>n.yU a z h],λa h=>s'.xP a h.1,s'.tab,#[s'.wx,n.tab],s'.wd],?_]
 ·rcases c.yo a (.inl z) with q|q
  ·exact k q
  ·exact s.xP a h q
 ·refine e2a4 n.is λa vs h1 h2 h3 h4=>?_;cases h1;exact#[a,vs,rfl,λz=>z.2<|(h2 a).mpr rfl,h3,wT (ex.wide λ_ z=>z.elim) h4]
def wg{α:Type}[Rep α]{w:Wf D (OL α) D}(h:EO X E T e w):EW X E T e (cK w λKn x d'=>Kn x.l d'):=by refine e1a2 h λt h1 h2=>?_;refine#[t,h1,λd F R σ H Kn Ke Q s hw kn ke=>h2 d F R σ H _ Ke Q s hw (λx d' v F1 F2 R' H' q c s' n=>?_) ke];refine e1a3 (YJ s c s' n) λKP c2 s2 r=>?_;exact kn x.l d' v F2 KP H' q c2 s2 r
def yp{F R:Rg}{H:Hp}{d:D}{σ:St}{α:Type}[Rep α]{xs:List α}{vs:List V}{p:hO}(s:wG T F R H d σ)(hp:H p=none)(h:Paired (rp R H) xs vs) :
  ∃R',Ch T F R H (λa=>a=p\/F a) R' (upd H p<|.lst vs)/\wG T F R' (upd H p<|.lst vs) d σ/\Nw T (λa=>a=p) F R' (upd H p<|.lst vs) (OL.mk xs) (.ref p):=by
 refine e0a3 (s.new (.lst vs) hp) λs1 c1 n1=>?_;have nF:¬F p:=λz=>n1<|s.sub p z;have ex:Ext (λ_=>False) R H (λa=>R a\/a=p) (upd H p<|.lst vs):=⟨λb o _ h=>by rw[vB<|vM h hp];exact h,λa h=>h.elim .inl λq=>.inr<|by rw[q];exact hp⟩;refine⟨λa=>R a\/a=p,#[c1.keep,ex.new,λa h=>h.elim (λq=>.inr<|by rw[q];exact hp) .inl,λa h _=>.inl h],#[Sls.st s.rel ex 121<|λ_ _ z=>z,λa h=>.inl<|s.sub a h,λa h=>?_,s1.tab,.inl s.wx,s.wd],#[#[p,vs,rfl,λb=>Iff.rfl,vF,wT (ex.wide λ_ z=>z.elim) h],λa h=>.inr h,λa h k=>nF (by rw[<- h];exact k),λh=>n1<|by rw[<- h];exact s.wx]⟩;rcases h with h|h
 ·exact s1.xP a h
 ·rw[h,vF];simp
def U0{i:Nat}{τ D':Type}[Ow τ][Sls D'][A:At i D τ D']{F R:Rg}{H:Hp}{d:D}{σ:St}(s:wG T F R H d σ):∃v F1 F2,σ[i]?=↑v/\Ek F F1 F2/\sl F1 R H (A.get d) v/\rel F2 R H (A.hole d) σ:=A.take s.rel
def vz[Rep a][Sls c](i:Nat)[A:At i D a c](e:PE X 94 (v9 i):=by exact pv _):EW X E T 94 (λ(d:D)(b:a->D->Prop) _=>b (A.get d) d):=by refine#[_,e,λd F R k H b l Q s f g _=>?_];obtain⟨v,m,n,h,o,⟨_,u,rfl,j⟩,_⟩:=A.take s.rel;exact#[u,h,g _ d u F R H f 61 s j]
def vE{n:Int}{k:Nat}:EW X E T (.Constant (.int n) k pos) (λ(d:D)(a:Int->D->Prop) _=>a n d) :=
 #[_,v4,λd F R e H a f Q s b c _=>c n d _ F R H b 61 s rfl]
def zt{b:Bool}{k:Nat}:EW X E T (.Constant (.bool b) k pos) (λ(d:D)(a:Bool->D->Prop) _=>a b d) :=
 #[_,Z8,λd F R f H a g Q s c e _=>e b d _ F R H c 61 s rfl]
def HQ{k:Nat}:EW X E T (.Constant .none k pos) (λ(d:D)(a:Unit->D->Prop) _=>a () d) :=
 #[_,KZ,λd F R e H a f Q s b c _=>c () d _ F R H b 61 s rfl]
def QW{α β γ:Type}[Rep α][Rep β][Rep γ]{wa:Wf D α D}{wb:Wf D β D}{c:α->β->Prop}{g:α->β->γ}
 (ha:EW X E T a wa) (hb:EW X E T b wb) (he:∀ta tb,PE X a ta->PE X b tb->PE X e (ZU r ta tb))
 (hr:∀{R:Rg} {H:Hp} {x:α} {y:β} {u v:V} {Q:VK},rp R H x u->rp R H y v->c x y->(∀z,rp R H (g x y) z->Q z H)->r u v H Q) :
    EW X E T e (cB wa wb λx Kn y d2=>c x y/\Kn (g x y) d2):=by
  refine e1a2 ha λta a1 a2=>?_
  refine e1a2 hb λtb b1 b2=>?_
  refine#[_,he ta tb a1 b1,λd F R σ H Kn Ke Q s hw kn ke=>?_]
  refine a2 d F R σ H _ Ke _ s hw (λx d1 u F1 R1 H1 q1 c1 s1 r1=>?_) ke
  refine b2 d1 F1 R1 σ H1 _ Ke _ s1 q1 (λy d2 v F2 R2 H2 q2 c2 s2 r2=>?_) λC y d' F' R' H' k c s'=>ke C y d' F' R' H' k 141 s'
  exact hr (s1.val c2 r1) r2 q2.1 λz rz=>kn _ d2 z F2 R2 H2 q2.2 135 s2 rz
def YK{α γ:Type}[Rep α][Rep γ]{r:V->Hp->VK->Prop}{wa:Wf D α D}{c:α->Prop}{g:α->γ}
 (ha:EW X E T a wa) (he:∀ta,PE X a ta->PE X e (tUn r ta)) (hr:∀{R:Rg} {H:Hp} {x:α} {u:V} {Q:VK},rp R H x u->c x->(∀z,rp R H (g x) z->Q z H)->r u H Q) :
    EW X E T e (cK wa λKn x d1=>c x/\Kn (g x) d1):=by
  refine e1a2 ha λta a1 a2=>?_
  refine#[_,he ta a1,λd F R σ H Kn Ke Q s hw kn ke=>?_]
  refine a2 d F R σ H _ Ke _ s hw (λx d1 u F1 R1 H1 q1 c1 s1 r1=>?_) ke
  exact hr r1 q1.1 λz rz=>kn _ d1 z F1 R1 H1 q1.2 c1 s1 rz
def QX{c:Int->Int->Prop}{g:Int->Int->Int}{f h:Wf D Int D}(l:AZ X (mV op) (rI c λi j=>.int<|g i j))(m:EW X E T a f)(n:EW X E T b h) :
  EW X E T (.BinOp a op b pos) (cB f h λx o y p=>c x y/\o (g x y) p) :=
 QW (γ:=Int) m n (λr s d e=>xz l d e) λd e q k=>#[_,_,d,e,q,k _ rfl]
def yD{g:Int->Int->Int}{wa wb:Wf D Int D}(ho:AZ X (mV op) (Ud λi j=>.int<|g i j))(ha:EW X E T a wa)(hb:EW X E T b wb) :
  EW X E T (.BinOp a op b pos) (cB wa wb λx Kn y d2=>Kn (g x y) d2):=by
 have h:=QW (c:=λ_ _=>True) (γ:=Int) (g:=g) (e:=.BinOp a op b pos) ha hb (λta tb h1 h2=>xz ho h1 h2) λh1 h2 _ k=>#[_,_,h1,h2,k _ rfl];simp only[true_and]at h;exact h
class HR(α:Type)[Rep α][DecidableEq α] where
 sc:∀{R:Rg} {H:Hp} {x y:α} {u v:V},rp R H x u->rp R H y v->Ye u v=true/\decide (u=v)=decide (x=y)
instance:HR Int:=#[λ{R H x y u v} h1 h2=>by
 subst h1;subst h2;refine#[rfl,?_];by_cases e:x=y
 ·rw[e];simp
 ·rw[io e,io (λz=>e (by cases z;rfl))]]
instance:HR Bool:=#[λ{R H x y u v} h1 h2=>by
 subst h1;subst h2;refine#[rfl,?_]
 cases x<;>cases y<;>rfl]
def Nl{α:Type}[Rep α]{x:Option α}(h:rp R H x u):decide (u=.xj)=x.isNone:=by
 cases x with
 |none=>have h:u=.xj:=h;rw[h];rfl
 |some y=>exact io h.1
end
variable[L2.GX]
section
variable{D:Type}[Sls D]
def vK{b:Type}[Rep b]{w:Wf D b D}(h:EO X E T e w):EW X E T e w:=by refine e1a2 h λt f g=>?_;refine#[t,f,λd F R i H B j Q s k l m=>g d F R i H _ j Q s k (λx o v C p r y q c z n=>?_) m];obtain⟨G,u,e,A⟩:=n.is;cases e;exact l x o v p r y q #[c.keep,c.AU,λa h=>c.yo a<|.inr h,c.left] z A
def vS{b:Type}[Rep b]{w:Wf D b D}(h:EW X E T e w):EO X E T e w:=by refine e1a2 h λt f g=>?_;refine#[t,f,λd F R i H A j Q s k l m=>g d F R i H _ j Q s k (λx n v o p u q c y r=>?_) m];exact l x n v (λ_=>False) o p u q #[c.keep,c.AU,λa h=>c.yo a<|h.elim (λz=>z.elim) id,c.left] y #[#[λ_ z=>z,v,rfl,r],λ_ z=>z.elim,λ_ z=>z.elim,λz=>z]
end
class Hs(τ:Type)[Ow τ]:Prop where
 has:∀{F R:Rg} {H:Hp} {x:τ} {v:Option V},sl F R H x v->∃u,v=↑u
instance{α:Type}[Rep α]:Hs (OL α):=#[λz9=>e2a2 z9 λa _ h _=>#[_,h]]
instance{α:Type}[Rep α]:Hs α:=#[λz9=>e0a2 z9 λ_ z39=>e1a2 z39 λu h _=>#[u,h]]
structure Std(T:hO)(F R:Rg)(H:Hp):Prop where
 sub:∀a,F a->R a
 xP:∀a,R a->H a≠none
 tab:TabAt H T
 wx:R T
 wd:¬F T
def wG.Uf{T:hO}{D:Type}[Sls D]{F R:Rg}{H:Hp}{d:D}{a:St}(s:wG T F R H d a):Std T F R H:=#[s.sub,s.xP,s.tab,s.wx,s.wd]
def Std.stt{T:hO}{D:Type}[Sls D]{F R:Rg}{H:Hp}{d:D}{a:St}(s:Std T F R H)(h:rel F R H d a):wG T F R H d a:=#[h,s.sub,s.xP,s.tab,s.wx,s.wd]
section
variable{D:Type}[Sls D]
def two_nil(F:Rg):Ek F (λ_=>False) F:=#[λ_=>#[.inr,λz=>z.elim (λq=>q.elim) id],λ_ z _=>z]
def two_eq(t:Ek F b c)(n:∀a,¬b a):∀a,c a↔F a:=λa=>#[λz=>(t.all a).mpr<|.inr z,λz=>((t.all a).mp z).elim (λq=>iv q<|n a) id]
end
def zh(T:hO){P d f:Type}[Sls P][Sls d][Ow f](w:Wf P f d):Sp:=λg H Q E=>∃(F R:Rg)(p:P)(i:f->d->Prop)(j:hO->d->Prop),wG T F R H p (g.map some)/\w p i j /\
 (∀x e v k h c b,i x e->Ch T F R H (λa=>k a\/h a) c b->wG T h c b e (g.map some)->Nw T k h c b x v->Q v b) /\
 (∀C y e l c b,j C e->Ch T F R H l c b->wG T l c b e (g.map some)->E (.ref C) ↑y b)
def Ag(c:List Nat)(b a:St):Prop:=a.length=b.length/\∀i∈c,a[i]?=b[i]?
def Ag.refl(b:List Nat)(a:St):Ag b a a:=#[rfl,λ_ _=>rfl]
def Ag.trans(a:Ag e f c)(b:Ag e c d):Ag e f d:=#[b.1.trans a.1,λi h=>(b.2 i h).trans<|a.2 i h]
def Ag.set{i:Nat}(h:i∉a):Ag a b (b.set i v):=#[lm,λj c=>nP λe=>h<|by rw[e];exact c]
structure QY(P:Type)[Sls P](ms:List Nat)(n:Nat):Prop where
 dp:∀{F R:Rg} {H:Hp} {p:P} {σ σ':St},Ag ms σ σ'->rel F R H p (σ'.take n)->rel F R H p (σ.take n)
class Dp(P:Type)[Sls P](n:outParam Nat)(l:outParam (List Nat)):Prop where
 dp:QY P l n
instance dp0:Dp Unit 0 []:=#[#[λ{F R H p σ σ'} _ h=>#[rfl,h.2]]]
instance(priority:=high) dpU {P:Type}{n:Nat}{l:List Nat}[Sls P][A:Dp P n l]:Dp (Un×P) (n+1) (l.map (· + 1)):=#[#[λ{F R H p σ σ'} a r=>by
 refine e4a4 r λv σ1 F1 F2 h1 h2 h3 h4=>?_
 cases σ' with
 |nil=>cases h1
 |cons v' r' =>
  cases σ with
  |nil=>have:=a.1;simp at this
  |cons u r =>
   injection h1 with e1 e2;subst e2;refine#[u,r.take n,F1,F2,rfl,h2,h3,A.dp.dp (σ':=r') #[by have:=a.1;simpa using this,λi hi=>?_] h4];have:=a.2 (i+1)<|List.mem_map.mpr #[i,hi,rfl]
   simpa using this]]
instance dpO{τ P:Type}{n:Nat}{l:List Nat}[Ow τ][Sls P][A:Dp P n l]:Dp (τ×P) (n+1) (0::l.map (· + 1)):=#[#[λ{F R H p σ σ'} a r=>by
 refine e4a4 r λv σ1 F1 F2 h1 h2 h3 h4=>?_
 cases σ' with
 |nil=>cases h1
 |cons v' r' =>
  cases σ with
  |nil=>have:=a.1;simp at this
  |cons u r =>
   injection h1 with e1 e2;subst e2
   have e0:v'=u:=by have:=a.2 0 ic;simpa using this
   subst e0;subst e1;refine#[v',r.take n,F1,F2,rfl,h2,h3,A.dp.dp (σ':=r') #[by have:=a.1;simpa using this,λi hi=>?_] h4];have:=a.2 (i+1)<|ij _<|List.mem_map.mpr #[i,hi,rfl]
   simpa using this]]
def wu[Sls P]{n:Nat}[A:Dp P n l](h:∀i∈l,i∈b):QY P b n:=#[λa r=>A.dp.dp #[a.1,λi c=>a.2 i<|h i c] r]
def Xd(E:XK)(T:hO)(u:List Nat)(n:Nat)(t:TS){D j f k:Type}[Sls D][Sls j][Sls f][Ow k](w:D->(j->Prop)->(k->f->Prop)->(hO->f->Prop)->Prop):Prop :=
 ∀(d:D)(F R:Rg)(g:St)(H:Hp)(o:j->Prop)(p:k->f->Prop)(q:hO->f->Prop)(l:Ends),wG T F R H d g->w d o p q ->
  (∀r h c b e,o r->Ch T F R H h c b->wG T h c b r e->Ag u g e->l.nx e b) ->
  (∀x i v s m c b,p x i->Ch T F R H (λa=>s a\/m a) c b->wG T m c b i (g.take n)->Nw T s m c b x v->l.rt v b) ->
  (∀C y i h c b,q C i->Ch T F R H h c b->wG T h c b i (g.take n)->E (.ref C) ↑y b)->t l g H
def S1(X:Cx)(E:XK)(T:hO)(d:List Nat)(n:Nat)(e:iK){D b a c:Type}[Sls D][Sls b][Sls a][Ow c](w:D->(b->Prop)->(c->a->Prop)->(hO->a->Prop)->Prop):Prop:=∃t,PS X e t/\Xd E T d n t w
def SW(X:Cx)(E:XK)(T:hO)(e:List Nat)(n:Nat)(a:List iK){D c b d:Type}[Sls D][Sls c][Sls b][Ow d](w:D->(c->Prop)->(d->b->Prop)->(hO->b->Prop)->Prop):Prop:=∃t,ES X a t/\Xd E T e n t w
section
variable{D D' D1 PO τ:Type}[Sls D][Sls D'][Sls D1][Sls PO][Ow τ]
def vY:SW X E T f n [] (λ(d:D)(a:D->Prop)(_:τ->PO->Prop) _=>a d) :=
 #[_,An,λd F R b H a g h i s c e _ _=>e d F R H b c 61 s<|Ag.refl _ _]
def a0P:SW X E T e n a (λ(d:D)(b:D'->Prop)(_:τ->PO->Prop) _=>False) :=
 #[_,Og,λd F R f H b g h i s c j _ _=>c.elim]
def a24{t:TS}[A:Fg D1 D']{w:D->(D1->Prop)->99->87->Prop}(f:Xd E T g n t w):Xd E T g n t (cG (D':=D') w A.fg):=by refine λd F R i H x j k l s m o p r=>f d F R i H _ j k l s m (λy z u v e q c b a=>?_) p r;refine e1a2 (A.le b.rel) λG g1 g2=>?_;exact o _ G u v e q #[c.keep,c.AU,λa h=>c.yo a<|g1 a h,c.left] ⟨g2,λa h=>b.sub a<|g1 a h,b.xP,b.tab,b.wx,λh=>b.wd<|g1 _ h⟩ a
def QZ{a:List iK}[A:Fg D1 D']{w:D->(D1->Prop)->99->87->Prop}(h:SW X E T b n a w):SW X E T b n a (cG (D':=D') w A.fg) :=
 e1a2 h λt c d=> #[t,c,a24 d]
def Xe{A:D->(D1->Prop)->99->87->Prop}{B:D1->(D'->Prop)->99->87->Prop}(G:QY PO k n)(L:Xd E T k n M A)(N:Xd E T k n O B) :
  Xd E T k n (K3 M O) (λd l b e=>A d (λo=>B o l b e) b e):=by
 refine λd F R P H l b e Q s S U I J=>L d F R P H _ b e _ s S (λo W X Y p q r j t=>?_) I J;refine N o W X p Y l b e Q j q (λZ u f h w i c a g=>U Z u f h w i (Ch.trans s j.tab r c) a<|t.trans g) (λx z v M1 M2 f h i c a m=>?_) λC y z u f h i c a=>?_
 ·exact I x z v M1 M2 f h i (Ch.trans s j.tab r c) #[G.dp t a.rel,a.sub,a.xP,a.tab,a.wx,a.wd] m
 ·exact J C y z u f h i (Ch.trans s j.tab r c) #[G.dp t a.rel,a.sub,a.xP,a.tab,a.wx,a.wd]
def Ey{c:iK}{a:List iK}{w1:D->(D1->Prop)->99->87->Prop}{w2:D1->(D'->Prop)->99->87->Prop}(g:QY PO b n)(h:S1 X E T b n c w1)(i:SW X E T b n a w2) :
  SW X E T b n (c::a) (λd j e f=>w1 d (λk=>w2 k j e f) e f) :=
 e1a2 h λq l m=> e1a2 i λr o p=> #[_,wK l o,Xe g m p]
def vC{a:iK}{b:D->(D'->Prop)->99->87->Prop}(c:S1 X E T d n a b):SW X E T d n [a] b :=
 e1a2 c λg e f=> #[_,xS e,f]
def wN[A:Pj D PO n](s:wG T c e f d g):∃G,(∀a,G a->c a)/\wG T G e f (A.pj d) (g.take n):=by refine e1a2 (A.le s.rel) λG b i=>?_;exact#[G,b,i,λa h=>s.sub a<|b a h,s.xP,s.tab,s.wx,λh=>s.wd<|b _ h]
def Ch.less(c:Ch T F R H b d e)(g:∀a,G a->b a):Ch T F R H G d e:=#[c.keep,c.AU,λa h=>c.yo a<|g a h,c.left]
def vP[A:Pj D PO n](h:EO X E T e p):S1 X E T M n (.Return ↑e pos) (cS p A.pj λ(_:D'->Prop)(o:τ->PO->Prop) x f=>o x<|A.pj f):=by
 refine e1a2 h λt r u=>?_;refine#[_,Ce r,λd F R w H N o O P s B Q I J=>u d F R w H _ _ _ s B (λx f v L S g i q c j m=>?_) λC y f U g i q c j=>?_]
 ·refine e1a2 (wN (PO:=PO) j) λG b l=>?_;exact I x _ v L G g i q (c.less λa h=>h.elim .inl λz=>.inr<|b a z) l ⟨m.is,m.sub,λa h k=>m.yU a h<|b a k,m.tab⟩
 ·refine e1a2 (wN (PO:=PO) j) λG b l=>?_;exact J C y _ G g i q (c.less b) l
def wA{i:Type}[Rep i][A:Pj D PO n]{j:Wf D i D}(h:EW X E T e j)(p:kg e none pos.line X.env=pure false:=by rfl) :
  S1 X E T M n (.Expr e pos) (cS j A.pj λ(k:D->Prop)(r:τ->PO->Prop) _ a=>k a):=by
 refine e1a2 h λt u w=>?_;refine#[_,CD u p,λd F R l H k r N O s z B P I=>w d F R l H _ _ _ s z (λx a v o b f q c g m=>B a o b f l q c g<|Ag.refl _ _) λC y a o b f q c g=>?_];refine e1a2 (wN (PO:=PO) g) λG J L=>?_;exact I C y _ G b f q (c.less J) L
def vZ{a b:List iK}[A:Pj D PO n]{B:Wf D Bool D}{I J:D->(D'->Prop)->99->87->Prop}(hc:TW X E T c B)(ha:SW X E T L n a I)(hb:SW X E T L n b J) :
  S1 X E T L n (.If c a b pos) (cI B I J A.pj):=by
 refine e1a2 hc λtc c1 c2=>?_;refine e1a2 ha λta a1 a2=>?_;refine e1a2 hb λtb b1 b2=>?_;refine#[_,MZ c1 a1 b1,λd F R t H M N O P s hw Q S u=>c2 d F R t H _ _ _ s hw (λx U W Y Z q c k=>?_) λC y r l e f q c h=>?_]
 ·cases x with
  |true=>exact a2 U W Y t Z M N O P k q (λr l e f o i j h g=>Q r l e f o i (Ch.trans s k.tab c j) h g) (λx p v w z e f i j h m=>S x p v w z e f i (Ch.trans s k.tab c j) h m) λC y p l e f i j h=>u C y p l e f i (Ch.trans s k.tab c j) h
  |false=>exact b2 U W Y t Z M N O P k q (λr l e f o i j h g=>Q r l e f o i (Ch.trans s k.tab c j) h g) (λx p v w z e f i j h m=>S x p v w z e f i (Ch.trans s k.tab c j) h m) λC y p l e f i j h=>u C y p l e f i (Ch.trans s k.tab c j) h
 ·refine e1a2 (wN (PO:=PO) h) λG g1 g2=>?_;exact u C y _ G e f q (c.less g1) g2
def Fi{i:Nat}[Ow c][Ow e][Sls f][Sls j][A:At i D c f][U:Pt i f e j](s:wG T g R H d k)(m:Nw T F1 g R H x v) :
  ∃G,(∀a,G a->F1 a\/g a)/\wG T G R H (U.put (A.hole d) x) (k.set i<|↑v):=by
 refine e3a4 (A.take s.rel) λo p l r b t n=>?_;refine#[λa=>F1 a\/l a,λa h=>h.elim .inl λz=>.inr<|(b.all a).mpr<|.inr z,U.back n ⟨λ_=>Iff.rfl,λa z q=>m.yU a z<|(b.all a).mpr<|.inr q⟩ m.is,λa h=>h.elim (m.sub a) λz=>s.sub a<|(b.all a).mpr<|.inr z,s.xP,s.tab,s.wx,λh=>h.elim m.tab λz=>s.wd<|(b.all T).mpr<|.inr z]
def vQ(i:Nat)[Ow b][Ow f][Sls r][Sls u][A:At i D b r][U:Pt i r f u][J:Pj D PO n](z:X.N.Nodup)(h:EO X E T e B)(I:X.N[i]?=↑x:=by rfl)(hx:Loc X.env.scope x:=by exact jX rfl)(L:i∉M:=by decide)
 (O:kg e (some<|.Name x a) pos.line X.env=pure false:=by rfl) (P:X.fn x=true\/X.env.scope.names.lookup x=some .local:=by first|exact .inl rfl|exact .inr rfl) :
    S1 X E T M n (.Assign [.Name x a] e pos) (cS B J.pj λ(w:u->Prop)(Q:τ->PO->Prop) x g=>w<|U.put (A.hole g) x):=by
  refine e1a2 h λt S W=>?_
  refine#[_,zN z I hx S O P,λd F R Y H w Q Ke En s Z kn kr ke=>W d F R Y H _ _ _ s Z (λx g v F1 F2 j k q c l m=>?_) λC y g F' j k q c l=>?_]
  · refine e1a2 (Fi (i := i) l m) λG o p => ?_
    exact kn _ G j k _ q (c.less o) p<|Ag.set L
  · refine e1a2 (wN (PO := PO) l) λG o p => ?_
    exact ke C y _ G j k q (c.less o) p
end
class Ent(P:Type)[Sls P](k:Nat)(D:outParam Type)[Sls D] where
 ent:P->D
 ok:∀{F R:Rg} {H:Hp} {p:P} {σ:St},rel F R H p σ->rel F R H (ent p) (σ++lE k none)
noncomputable instance ent0:Ent Unit 0 Unit:=#[id,λh=>by obtain⟨rfl,h⟩:=h;exact#[rfl,h]]
noncomputable instance entS{k:Nat}{D:Type}[Sls D][A:Ent Unit k D]:Ent Unit (k+1) (Un×D):=#[λp=>(#[],A.ent p),λ{F R H p σ} h=>by
 obtain⟨rfl,h⟩:=h
 exact#[none,lE k none,λ_=>False,F,by rw[List.nil_append];rfl,two_nil F,λ_ z=>z,by simpa using A.ok (σ:=[]) (p:=p) (F:=F) (R:=R) (H:=H) #[rfl,h]]]
noncomputable instance entC{k:Nat}{τ P D:Type}[Ow τ][Sls P][Sls D][A:Ent P k D]:Ent (τ×P) k (τ×D):=#[λp=>(p.1,A.ent p.2),λ{F R H p σ} h=>by
 obtain⟨v,σ',F1,F2,rfl,h2,h3,h4⟩:=h
 exact#[v,σ'++lE k none,F1,F2,rfl,h2,h3,A.ok h4]]
class Ln(P:Type)[Sls P](n:outParam Nat):Prop where
 ln:∀{F R:Rg} {H:Hp} {p:P} {σ:St},rel F R H p σ->σ.length=n
instance ln0:Ln Unit 0:=#[λh=>by rw[h.1];rfl]
instance lnS{τ P:Type}{n:Nat}[Ow τ][Sls P][A:Ln P n]:Ln (τ×P) (n+1):=#[λh=>by
 obtain⟨v,σ',F1,F2,rfl,_,_,h4⟩:=h
 rw[iH,A.ln h4]]
def w4{r:iK}{N M:List Str}{k j n:Nat}{ms:List Nat}{A PO τ D D':Type}[Sls A][Sls PO][Ow τ][Sls D][Sls D'][L:Ln A n][J:Ent A j D]{O:D->(D'->Prop)->99->87->Prop}
 (F:zA K x d r f fd) (S:vJ N M (vA r)) (hn:M.length=n) (hj:N.length-n=j)
 (i:∀(b:hR)(A:jL)(a:List Env)(s:h9)(H:Hp)(E:XK),wZ k (A.deeper<|o7 d (vA r) ⇑s f b)->SW (wC (wh P w) P w K mg base N d (vA r) f b A a s H E) E T ms n (wm r) O) :
    wn P w K mg base (wh P w) (k+1) f fd M (zh T λ(p:A)(U:τ->PO->Prop) l=>O (J.ent p) (λ_=>False) U l):=by
  have e:∀{g:List V} {H:Hp} {Q:VK} {E:XK},zh T (λ(p:A)(U:τ->PO->Prop) l=>O (J.ent p) (λ_=>False) U l) g H Q E->g.length=n:=λh=>by
    obtain⟨F,R,p,Kn,l,s,_⟩:=h
    have:=L.ln s.rel
    rwa [h8]at this
  obtain⟨oc,od,kV,aa,pm,an,b,ct,ab,rfl,lk,W⟩:=F.ex
  refine JH lk W S (λg H Q E h=>(e h).trans hn.symm) λAr a s H g Q E hr u=>?_
  refine e1a2 (i b Ar a s H E hr) λt h1 h2=>?_
  refine#[t,h1,?_]
  have X:=e u
  obtain⟨F,R,p,Kn,l,o,hw,kn,ke⟩:=u
  have B:start N g=g.map some++lE j none:=by unfold L2.start;rw[X,hj]
  have G:(start N g).take n=g.map some:=by rw[B,nQ (by rw[h8,X];exact hW _),jK<|by rw[h8,X];exact hW _]
  refine h2 (J.ent p) F R _ H _ Kn l _ #[by rw[B];exact J.ok o.rel,o.sub,o.xP,o.tab,o.wx,o.wd] hw (λ_ _ _ _ _ z=>z.elim) (λx Y v F1 F2 Z H' q c I m=>?_) λC y Y F' Z H' q c I=>?_
  · rw[G]at I
    exact kn x Y v F1 F2 Z H' q c I m
  · rw[G]at I
    exact ke C y Y F' Z H' q c I
def Xf{o:iK}{N J:List Str}{k j n:Nat}{ms:List Nat}{A PO τ D D':Type}[Sls A][Sls PO][Ow τ][Sls D][Sls D'][L:Ln A n][I:Ent A j D]{M:D->(D'->Prop)->99->87->Prop}
 (F:zA K x b o f O) (S:vJ N J (vA o)) (hn:J.length=n) (hj:N.length-n=j)
 (g:∀(A:jL)(a:List Env)(s:h9)(H:Hp)(E:XK),wZ k (A.deeper<|o7 b (vA o) ⇑s f O.code)->SW (wC (wh P w) P w K mg base N b (vA o) f O.code A a s H E) E T ms n (wm o) M) :
    wn P w K mg base (wh P w) (k+1) f O J (zh T λ(p:A)(U:τ->PO->Prop) i=>M (I.ent p) (λ_=>False) U i):=by
  have d:∀{e:List V} {H:Hp} {Q:VK} {E:XK},zh T (λ(p:A)(U:τ->PO->Prop) i=>M (I.ent p) (λ_=>False) U i) e H Q E->e.length=n:=λh=>by
    obtain⟨F,R,p,Kn,i,s,_⟩:=h
    have:=L.ln s.rel
    rwa [h8]at this
  obtain⟨oc,od,kV,aa,pm,an,ab,ct,ae,rfl,lk,W⟩:=F.ex
  refine JH lk W S (λe H Q E h=>(d h).trans hn.symm) λAr a s H e Q E hr r=>?_
  refine e1a2 (g Ar a s H E hr) λt h1 h2=>?_
  refine#[t,h1,?_]
  have X:=d r
  obtain⟨F,R,p,Kn,i,l,hw,kn,ke⟩:=r
  have u:start N e=e.map some++lE j none:=by unfold L2.start;rw[X,hj]
  have B:(start N e).take n=e.map some:=by rw[u,nQ (by rw[h8,X];exact hW _),jK<|by rw[h8,X];exact hW _]
  refine h2 (I.ent p) F R _ H _ Kn i _ #[by rw[u];exact I.ok l.rel,l.sub,l.xP,l.tab,l.wx,l.wd] hw (λ_ _ _ _ _ z=>z.elim) (λx Y v F1 F2 Z H' q c G m=>?_) λC y Y F' Z H' q c G=>?_
  · rw[B]at G
    exact kn x Y v F1 F2 Z H' q c G m
  · rw[B]at G
    exact ke C y Y F' Z H' q c G
def Fj{O:iK}{N ps:List Str}{k j n:Nat}{ms:List Nat}{A PO D D':Type}[Sls A][Sls PO][Sls D][Sls D'][L:Ln A n][En:Ent A j D][J:Pj D' PO n](dp:QY PO ms n){w0:D->(D'->Prop)->(Unit->PO->Prop)->87->Prop}
 (F:zA K x e O f fd) (S:vJ N ps (vA O)) (hn:ps.length=n) (hj:N.length-n=j)
 (o:∀(d:hR)(A:jL)(b:List Env)(s:h9)(H:Hp)(E:XK),wZ k (A.deeper<|o7 e (vA O) ⇑s f d)->SW (wC (wh P w) P w K mg base N e (vA O) f d A b s H E) E T ms n (wm O) w0) :
    wn P w K mg base (wh P w) (k+1) f fd ps (zh T λ(p:A)(U:Unit->PO->Prop) B=>w0 (En.ent p) (λd'=>U ()<|J.pj d') U B):=by
  have i:∀{l:List V} {H:Hp} {Q:VK} {E:XK},zh T (λ(p:A)(U:Unit->PO->Prop) B=>w0 (En.ent p) (λd'=>U ()<|J.pj d') U B) l H Q E->l.length=n:=λh=>by
    obtain⟨F,R,p,Kn,B,s,_⟩:=h
    have:=L.ln s.rel
    rwa [h8]at this
  obtain⟨oc,od,kV,ab,pm,an,d,ct,ae,rfl,lk,aa⟩:=F.ex
  refine JH lk aa S (λl H Q E h=>(i h).trans hn.symm) λAr b s H l Q E hr W=>?_
  refine e1a2 (o d Ar b s H E hr) λt h1 h2=>?_
  refine#[t,h1,?_]
  have hl:=i W
  obtain⟨F,R,p,Kn,B,I,hw,kn,ke⟩:=W
  have X:start N l=l.map some++lE j none:=by unfold L2.start;rw[hl,hj]
  have r:(start N l).take n=l.map some:=by rw[X,nQ (by rw[h8,hl];exact hW _),jK<|by rw[h8,hl];exact hW _]
  refine h2 (En.ent p) F R _ H _ Kn B _ #[by rw[X];exact En.ok I.rel,I.sub,I.xP,I.tab,I.wx,I.wd] hw (λd' F' Y Z af q c u g=>?_) (λx p' v F1 F2 Y Z q c u m=>?_) λC y p' F' Y Z q c u=>?_
  · refine e1a2 (wN (PO := PO) u) λG g1 M => ?_
    have g3:=dp.dp g M.rel
    rw[r]at g3
    exact kn () _ .xj (λ_=>False) G Y Z q (c.less λa h=>h.elim (λz=>z.elim)<|g1 a) ⟨g3,M.sub,M.xP,M.tab,M.wx,M.wd⟩ ⟨⟨λ_ z=>z,.xj,rfl,rfl⟩,λ_ z=>z.elim,λ_ z=>z.elim,λz=>z⟩
  · rw[r]at u
    exact kn x p' v F1 F2 Y Z q c u m
  · rw[r]at u
    exact ke C y p' F' Y Z q c u
end WL
namespace WL
open PySem L2
open Rep (rp)
open Ow (sl)
open Sls (rel)
class Dat(α:Type)[Rep α][DecidableEq α] where
 dat:α->PyData
 dp:Nat
 rd:∀{X:Cx} {R:Rg} {H:Hp} {x:α} {v:V},rp R H x v->Ex X H v (dat x)
 lay:∀x,(dat x).canLay0=true
 dep:∀x,(dat x).depth<=dp
 nm:∀x y,pR (dat x) (dat y)=true
 sm:∀x y,lF (dat x) (dat y)=decide (x=y)
instance:Dat Int where
 dat:=.int
 dp:=0
 rd h:=by have h:_=_:=h;subst h;exact Ex.int _
 lay _:=by simp[pK]
 dep _:=by simp[sE]
 nm _ _:=by simp[pR]
 sm x y:=by rw[lF];by_cases h:x=y<;>simp[h]
section
variable{α β:Type}[Rep α][DecidableEq α][Dat α][Rep β][DecidableEq β][Dat β]
def Ax{X:Cx}{R:Rg}{H:Hp}:∀{xs:List α} {vs:List V},Paired (rp R H) xs vs->Paired (Ex X H) vs (xs.map Dat.dat):=by
 intro _ _ z
 induction z with
 |nil=>exact .nil
 |cons h t ih=>exact .cons (Dat.rd h) ih
def Ez:∀a:List α,mU (a.map Dat.dat)=true
 | []=>by simp[mU]
 |x::a=>by simp only[iN,mU,Dat.lay x,Ez a,qy]
def Nm:∀a:List α,ph (a.map Dat.dat)<=Dat.dp α
 | []=>by simp[ph]
 |x::a=>by
  have b:=Nm a;have c:=Dat.dep x;simp only[iN,ph]
  lia
def Q0:∀a b:List α,mX (a.map Dat.dat) (b.map Dat.dat)=true
 | [],[]=>by simp[mX]
 | [],_::_=>by simp[mX]
 |_::_,[]=>by simp[mX]
 |x::a,y::b=>by simp only[iN,mX,Dat.nm x y,Q0 a b,qy]
def Q1:∀xs ys:List α,lq (xs.map Dat.dat) (ys.map Dat.dat)=decide (xs=ys)
 | [],[]=>by simp[lq]
 | [],_::_=>by simp[lq]
 |_::_,[]=>by simp[lq]
 |x::xs,y::ys=>by simp only[iN,lq,Dat.sm x y,Q1 xs ys];by_cases h:x=y<;>simp[h]
instance:Dat (List α) where
 dat xs:=.list<|xs.map Dat.dat
 dp:=Dat.dp α+1
 rd h:=by obtain⟨a,vs,rfl,_,h3,h4⟩:=h;exact Ex.lst (wR.of h3)<|Ax h4
 lay xs:=by simp only[pK];exact Ez xs
 dep xs:=by simp only[sE];have:=Nm xs;omega
 nm xs ys:=by simp only[pR];exact Q0 xs ys
 sm xs ys:=by simp only[lF];exact Q1 xs ys
def Ex.tup{X:Cx}(h:zX X.K H a c)(p:Paired (Ex X H) c d):Ex X H (.ref a) (.tuple d):=λb m s u I r=>by
 cases r;refine e1a3 (I.tuple h) λe f g _=>?_;obtain⟨q,i⟩:=G4 I f p;obtain⟨o,j,k,n,l⟩:=g;exact#[_,Reads.tuple j k l<|by simpa using i]
instance:Dat (α×β) where
 dat x:=.tuple [Dat.dat x.1,Dat.dat x.2]
 dp:=max (Dat.dp α) (Dat.dp β)+1
 rd h:=by obtain⟨a,u,w,rfl,_,h3,h4,h5⟩:=h;exact Ex.tup (zX.of h3)<|.cons (Dat.rd h4)<|.cons (Dat.rd h5) .nil
 lay x:=by simp only[pK,mU,Dat.lay,qy]
 dep x:=by have h1:=Dat.dep x.1;have h2:=Dat.dep x.2;simp only[sE,ph];omega
 nm x y:=by simp only[pR,mX,Dat.nm,qy]
 sm x y:=by simp only[lF,lq,Dat.sm];obtain⟨a,b⟩:=x;obtain⟨c,d⟩:=y;by_cases h1:a=c<;>by_cases h2:b=d<;>simp[h1,h2]
end
def RdL{α:Type}[Rep α]{D:Type}[Sls D](T:hO)(F R:Rg)(H:Hp)(σ:St)(g:D->List α)(v:V):Prop :=
 ∀(d'':D)(Xg KP:Rg)(Q2:Hp),Ch T F R H Xg KP Q2->wG T Xg KP Q2 d'' σ->∃a vs,v=.ref a/\Q2 a=↑(.lst vs)/\Paired (rp KP Q2) (g d'') vs
def ER(X:Cx)(E:XK)(T:hO)(e:i8){D i:Type}[Sls D][Rep i](w:Wf D (D->List i) D):Prop :=
 ∃t,PE X e t/\∀(d:D)(F R:Rg)(f:St)(H:Hp) (j:(D->List i)->D->Prop) (k:hO->D->Prop) (Q:VK),wG T F R H d f->w d j k ->
  (∀g h v b c a,j g h->Ch T F R H b c a->wG T b c a h f->RdL T b c a f g v->Q v a) ->
  (∀C y h b c a,k C h->Ch T F R H b c a->wG T b c a h f->E (.ref C) ↑y a)->t f H Q
section
variable{D:Type}[Sls D]{α β γ:Type}[Rep α][Rep β][Rep γ]
def v7(h:EW X E T e w):ER X E T e (cK w λ(f:(D->List α)->D->Prop) x b=>f (λ_=>x) b):=by refine e1a2 h λt i j=>?_;refine#[t,i,λd F R k H f l Q s m n o=>j d F R k H _ l Q s m (λx b v p u y q c g r=>n _ b v p u y q c g λz A B C G I=>?_) o];refine e2a4 (g.val G r) λa J L O M N=>?_;exact#[a,J,L,M,N]
def wS(i:Nat)[Sls h][A:At i D (OL α) h](j:PE X 94 (v9 i):=by exact pv _):ER X E T 94 (λ(d:D) (e:(D->List α)->D->Prop) _=>e (λd=>(A.get d).l) d):=by refine#[_,j,λd F R w H e y Q s k m _=>?_];obtain⟨v,z,B,f,C,⟨a,G,rfl,I⟩,_⟩:=A.take s.rel;refine#[_,f,m _ d _ F R H k 61 s λn o p q J b=>?_];obtain⟨L,M,N,g,O,⟨P,c,r,S,t,u⟩,_⟩:=A.take b.rel;rw[f]at g;cases g;cases r;exact#[_,c,rfl,t,u]
def YL{wa:Wf D (D->List α) D}{wb:Wf D β D}{c:List α->β->γ->Prop}
 (ha:ER X E T a wa) (hb:EW X E T b wb) (he:∀ta tb,PE X a ta->PE X b tb->PE X e (ZU r ta tb))
 (hr:∀{R:Rg} {H:Hp} {xs:List α} {y:β} {z:γ} {p:hO} {us:List V} {v:V} {Q:VK},H p=↑(.lst us)->Paired (rp R H) xs us->rp R H y v->c xs y z->(∀w,rp R H z w->Q w H)->r (.ref p) v H Q) :
    EW X E T e (cB wa wb λg Kn y d2=>∃z,c (g d2) y z/\Kn z d2):=by
  refine e1a2 ha λta a1 a2=>?_
  refine e1a2 hb λtb b1 b2=>?_
  refine#[_,he ta tb a1 b1,λd F R σ H Kn Ke Q s hw kn ke=>?_]
  refine a2 d F R σ H _ Ke _ s hw (λg d1 u F1 R1 H1 q1 c1 s1 r1=>?_) ke
  refine b2 d1 F1 R1 σ H1 _ Ke _ s1 q1 (λy d2 v F2 R2 H2 q2 c2 s2 r2=>?_) λC y d' F' R' H' k c s'=>ke C y d' F' R' H' k 141 s'
  refine e1a2 q2 λz z1 z2=>?_
  obtain⟨p,us,rfl,h1,h2⟩:=r1 d2 F2 R2 H2 c2 s2
  exact hr h1 h2 r2 z1 λw rw=>kn _ d2 w F2 R2 H2 z2 135 s2 rw
def xD{R:Rg}{H:Hp}:∀{xs:List α} {vs:List V} {i:Nat} {x:α},Paired (rp R H) xs vs->xs[i]?=↑x->∃v,vs[i]?=↑v/\rp R H x v:=by
 intro _ _ i x z
 induction z generalizing i with
 |nil=>intro e;simp at e
 |cons r t ih =>
  intro e
  cases i with
  |zero=>simp at e;subst e;exact#[_,rfl,r]
  |succ i=>exact e1a2 (ih<|by simpa using e) λu h1 h2=>#[u,by simpa using h1,h2]
def BL{xs:List α}{vs:List V}{i:Int}(h:Paired (rp R H) xs vs)(e:Gi xs i=↑x):∃v,Gi vs i=↑v/\rp R H x v:=by
 unfold Gi at e ⊢;rw[<- Paired.length h]
 cases q:Qn xs.length i with
 |none=>rw[q]at e;cases e
 |some j =>
  rw[q]at e;exact xD h e
def w6{j:Wf D (D->List α) D}{l:Wf D Int D}(q:ER X E T a j)(s:EW X E T b l)(t:Nd b:=by intro _ _;rfl) :
  EW X E T (.Subscript a b pos) (λ(d:D)(u:α->D->Prop) m=>j d (λg A=>l A (λi n=>∃x,Gi (g n) i=↑x/\u x n) m) m) :=
 YL (c:=λo i x=>Gi o i=↑x) q s (λF G f h=>zb xu f h t) λ{R H o y z p I v Q} f h B C k=>by subst B;refine e1a2 (BL h C) λw e r=>?_;exact#[_,_,_,_,rfl,rfl,wR.of f,e,k _ r]
def DD{k:Nat}{c:Wf D (α×β) D}(f:EW X E T a c):EW X E T (.Subscript a (.Constant (.int 0) k p) pos) (cK c λ(e:α->D->Prop) x b=>e x.1 b):=by refine e1a2 f λI g h=>?_;refine#[_,zb Qo g v4<|λ_ _=>rfl,λd F R i H e j Q s l m n=>h d F R i H _ j _ s l (λx b u o r t y z A B=>?_) n];obtain⟨q,v,w,rfl,_,C,G,J⟩:=B;exact#[_,_,_,v,rfl,rfl,zX.of C,rfl,m _ b v o r t y z A G]
def yX{k:Nat}{c:Wf D (α×β) D}(f:EW X E T a c):EW X E T (.Subscript a (.Constant (.int 1) k p) pos) (cK c λ(e:β->D->Prop) x b=>e x.2 b):=by refine e1a2 f λI g h=>?_;refine#[_,zb Qo g v4<|λ_ _=>rfl,λd F R i H e j Q s l m n=>h d F R i H _ j _ s l (λx b u o r t y z A B=>?_) n];obtain⟨q,v,w,rfl,_,C,J,G⟩:=B;exact#[_,_,_,w,rfl,rfl,zX.of C,rfl,m _ b w o r t y z A G]
def zc(e:EW X E T a f):EW X E T a (cK f λ(c:α->D->Prop) x b=>∃y,x=↑y/\c y b):=by refine e1a2 e λz g h=>?_;refine#[_,g,λd F R i H c j Q s k l m=>h d F R i H _ j _ s k (λx b u n o p r t v w=>?_) m];obtain⟨y,rfl,q⟩:=r;exact l y b u n o p q t v w.2
class NV(α:Type)[Rep α]:Prop where
 nv:∀{R:Rg} {H:Hp} {x:α} {v:V},rp R H x v->v≠.xj
instance:NV Int:=#[λh z=>by have h:_=_:=h;rw[h]at z;cases z]
instance:NV (α×β):=#[λh z=>by obtain⟨a,u,w,e,_⟩:=h;rw[e]at z;cases z]
def Ay[NV α](f:EW X E T a g):EW X E T a (cK g λ(c:Option α->D->Prop) x b=>c ↑x b):=by refine e1a2 f λw h i=>?_;exact#[_,h,λd F R j H c k Q s l m n=>i d F R j H _ k _ s l (λx b u o p q r t v e=>m ↑x b u o p q r t v #[NV.nv e,e]) n]
def Nn{k:Nat}:EW X E T (.Constant .none k pos) (λ(d:D)(a:Option α->D->Prop) _=>a none d) :=
 #[_,KZ,λd F R e H a f Q s b c _=>c none d _ F R H b 61 s rfl]
def xf{a:i8}{p:Pos}{wa:Wf D (D->List α) D}(hg:Gl X "len")(hm:X.mg "len"=none)(ha:ER X E T a wa)(hs:hV [a] X.env=78::hV [] X.env:=by rfl) :
  EW X E T (.Call (.Name "len" p) [a] [] pos) (cK wa λ(Kn:Int->D->Prop) g d1=>Kn ((g d1).length:Int) d1):=by
 refine e1a2 ha λta a1 a2=>?_;refine#[_,xk yb hg hm mY (vI a1 vU hs) (he:=hs),λd F R σ H Kn Ke Q s hw kn ke=>a2 d F R σ H _ Ke _ s hw (λg d1 u F1 R1 H1 q1 c1 s1 r1=>?_) ke];obtain⟨q,us,rfl,h1,h2⟩:=r1 d1 F1 R1 H1 61 s1;refine#[_,_,rfl,.inl<|wR.of h1,kn _ d1 _ F1 R1 H1 q1 c1 s1 ?_];show V.int _=V.int _;rw[Paired.length h2]
end
def AL(X:Cx)(E:XK)(T:hO)(es:List i8){D α:Type}[Sls D][Rep α](w:Wf D (List α) D):Prop :=
 ∃t,PA X es t/\∀(d:D)(F R:Rg)(σ:St)(H:Hp)(Kn:List α->D->Prop)(Ke:hO->D->Prop)(Q:List V->Hp->Prop),wG T F R H d σ->w d Kn Ke ->
  (∀x d' vs F' R' H',Kn x d'->Ch T F R H F' R' H'->wG T F' R' H' d' σ->Paired (rp R' H') x vs->vs.length=es.length->Q vs H') ->
  (∀C y d' F' R' H',Ke C d'->Ch T F R H F' R' H'->wG T F' R' H' d' σ->E (.ref C) ↑y H')->t σ H Q
def wG.vals{T:hO}{D:Type}[Sls D]{d:D}{σ:St}{F R F' R':Rg}{H H':Hp}(s:wG T F R H d σ)(c:Ch T F R H F' R' H'){α:Type}[Rep α]{x:List α}{v:List V}(h:Paired (rp R H) x v):Paired (rp R' H') x v :=
 wT (c.ext.wide λa z=>z.elim (s.sub a) λq=>by rw[q];exact s.wx) h
section
variable{D:Type}[Sls D]{α β γ:Type}[Rep α][Rep β][Rep γ]
def vV:AL X E T [] (λ(d:D)(a:List α->D->Prop) _=>a [] d) :=
 #[_,vU,λd F R e H a f Q s b c _=>c [] d [] F R H b 61 s .nil rfl]
def vH{a:List i8}{g:Wf D α D}{h:Wf D (List α) D}(q:EW X E T e g)(r:AL X E T a h)(t:hV (e::a) X.env=71::hV a X.env:=by rfl) :
  AL X E T (e::a) (cB g h λx i j f=>i (x::j) f):=by
 refine e1a2 q λta v w=>?_;refine e1a2 r λtr z A=>?_;refine#[_,vI v z t,λd F R l H i m Q s B G n=>?_];refine w d F R l H _ m _ s B (λx I u J L M N o b O=>?_) n;refine A I J L l M _ m _ b N (λj f P S U W Y p Z r2 l2=>?_) λC y d' F' R' H' k c s'=>n C y d' F' R' H' k (Ch.trans s b.tab o c) s';exact G _ f (u::P) S U W Y (Ch.trans s b.tab o p) Z (.cons (b.val p O) r2) (by rw[iH,iH,l2])
def vW(h:AL X E T a w)(f:a.length<=hZ:=by decide):EO X E T (.List a pos) (cK w λ(b:OL α->D->Prop) c g=>b #[c] g):=by refine e1a2 h λt i j=>?_;refine#[_,Qh i,λd F R k H b l Q s m n o=>j d F R k H _ l _ s m (λc q I r J L u v e x y=>#[by rw[y];exact f,λp z=>?_]) o];refine e1a3 (yp e z x) λA B C G=>?_;exact n _ q _ _ r A _ u (Ch.trans s e.tab v B) C G
def w8{q}(r:EW X E T a t)(w:EW X E T b z)
 (A:hV [a,b] X.env=78::hV [b] X.env:=by rfl) (B:hV [b] X.env=(false,eval b X.env)::hV [] X.env:=by rfl) :
    EW X E T (.Tuple [a,b] q pos) (cB t z λx (i:α×β->D->Prop) y g=>i (x,y) g):=by
  refine e1a2 r λta G I=>?_
  refine e1a2 w λtb J L=>?_
  refine#[_,Qg<|vI G (vI J vU B) A,λd F R j H i l Q s M N m=>?_]
  refine I d F R j H _ l _ s M (λx O u P S U W n e Y=>?_) m
  refine L O P S j U _ l _ e W (λy g v Z R2 H2 q2 o f r2=>#[(by show 2<=hZ;decide),λp hp=>?_]) λC y d' F' R' H' k c s'=>m C y d' F' R' H' k (Ch.trans s e.tab n c) s'
  refine e0a3 (f.new (.tup [u,v]) hp) λs3 h n3=>?_
  exact N _ g _ Z R2 _ q2 (Ch.trans s e.tab n<|Ch.trans e f.tab o h) s3 #[p,u,v,rfl,n3,vF,f.val h<|e.val o Y,f.val h r2]
def yE{R:Rg}{H:Hp}:∀{xs ys:List α} {us vs:List V},Paired (rp R H) xs us->Paired (rp R H) ys vs->Paired (rp R H) (xs++ys) (us++vs):=by
 intro _ _ _ _ z s
 induction z with
 |nil=>exact s
 |cons h t ih=>exact .cons h ih
def Az(I:ER X E T a J)(L:ER X E T b M) :
  EO X E T (.BinOp a .Add b pos) (cB J M λg (l:OL α->D->Prop) k e=>(g e).length+(k e).length<=hZ/\l #[g e++k e] e):=by
 refine e1a2 I λta N O=>?_;refine e1a2 L λtb P S=>?_;refine#[_,xz Yo N P,λd F R m H l n Q s U W o=>?_];refine O d F R m H _ n _ s U (λg Y u Z R1 H1 q1 t f r1=>?_) o;refine S Y Z R1 m H1 _ n _ f q1 (λk e v i w x z A h r2=>?_) λC y d' F' j H' k c s'=>o C y d' F' j H' k (Ch.trans s f.tab t c) s';obtain⟨p,us,rfl,h1,B⟩:=r1 e i w x A h;obtain⟨q,vs,rfl,k1,G⟩:=r2 e i w x 61 h;refine#[p,q,us,vs,rfl,rfl,h1,k1,by rw[<- Paired.length B,<- Paired.length G];exact z.1,λr hr=>?_];refine e1a3 (yp h hr<|yE B G) λj c3 s3 n3=>?_;exact W _ e _ _ i j _ z.2 (Ch.trans s f.tab t<|Ch.trans f h.tab A c3) s3 n3
def U1(i:Gl X "list")(j:X.mg "list"=none)(k:ER X E T a m)(e:hV [a] X.env=78::hV [] X.env:=by rfl) :
  EO X E T (.Call (.Name "list" p) [a] [] pos) (cK m λ(f:OL α->D->Prop) g b=>f #[g b] b):=by
 refine e1a2 k λP n o=>?_;refine#[_,yk zf i j kB (vI n vU e) (he:=e),λd F R r H f t Q s v w x=>o d F R r H _ t _ s v (λg b u h y z A B c C=>?_) x];obtain⟨q,S,rfl,G,I⟩:=C b h y z 61 c;refine#[_,_,rfl,.inl<|wR.of G,λl J=>?_];refine e1a3 (yp c J I) λL M N O=>?_;exact w _ b _ _ h L _ A (Ch.trans s c.tab B M) N O
noncomputable def ins(x:Int):List Int->List Int
 | []=>[x]
 |y::r=>if x<=y then x::y::r else y::ins x r
noncomputable def El:List Int->List Int
 | []=>[]
 |x::r=>ins x<|El r
def Bf(x:Int):∀r:List Int,(ins x r).Perm (x::r)
 | []=>pi _
 |y::r=>by
  unfold ins;split
  ·exact pi _
  ·exact((Bf x r).cons y).trans<|List.Perm.swap x y r
def yJ:∀r:List Int,(El r).Perm r
 | []=>pi _
 |x::r=>(Bf x<|El r).trans<|(yJ r).cons x
set_option tactic.hygienic true in
def HS(x:Int):∀r:List Int,r.Pairwise (·<=·)->(ins x r).Pairwise (·<=·)
 | [],_=>kF _ _
 |y::r,h=>by
  unfold ins;have b:=List.pairwise_cons.mp h;split
  ·rename_i a
   refine List.pairwise_cons.mpr #[λz c=>?_,h];rcases List.mem_cons.mp c with e|e
   ·rw[e];exact a
   ·exact Int.le_trans a<|b.1 z e
  ·rename_i a
   refine List.pairwise_cons.mpr #[λz c=>?_,HS x r b.2];rcases List.mem_cons.mp ((Bf x r).mem_iff.mp c) with e|e
   ·rw[e];lia
   ·exact b.1 z e
def CQ:∀r:List Int,(El r).Pairwise (·<=·)
 | []=>iW
 |x::r=>HS x _<|CQ r
def Ad:∀{a b:List Int},a.Perm b->a.Pairwise (·<=·)->b.Pairwise (·<=·)->a=b
 | [],b,p,_,_=>(List.Perm.nil_eq p)
 |x::a,[],p,_,_=>iv p.length_eq q0o
 |x::a,y::b,p,c,d=>by
  have e:x=y:=by
   have f:x∈y::b:=p.mem_iff.mp ic;have g:y∈x::a:=p.mem_iff.mpr ic;rcases List.mem_cons.mp f with q|q
   ·exact q
   ·rcases List.mem_cons.mp g with z|z
    ·exact z.symm
    ·have:=(List.pairwise_cons.mp d).1 x q;have:=(List.pairwise_cons.mp c).1 y z
     lia
  subst e;rw[Ad p.cons_inv (List.pairwise_cons.mp c).2 (List.pairwise_cons.mp d).2]
def Fl{a:List Int}(p:a.Perm b)(h:a.Pairwise (·<=·)):a=El b:=Ad (p.trans (yJ b).symm) h<|CQ b
def paired_ints{R:Rg}{H:Hp}:∀{xs:List Int} {vs:List V},Paired (rp R H) xs vs->vs=xs.map V.int:=by
 intro _ _ z
 induction z with
 |nil=>rfl
 |cons h t ih=>rw[show _=V.int _ from h,ih];rfl
def yK{R:Rg}{H:Hp}:∀xs:List Int,Paired (rp R H) xs (xs.map V.int)
 | []=>.nil
 |x::r=>.cons (rfl:rp R H x (V.int x))<|yK r
def G6{a:i8}{p:Pos}{wa:Wf D (D->List Int) D}(hg:Gl X "sorted")(hm:X.mg "sorted"=none)(ha:ER X E T a wa)(hs:hV [a] X.env=78::hV [] X.env:=by rfl) :
  EO X E T (.Call (.Name "sorted" p) [a] [] pos) (cK wa λ(Kn:OL Int->D->Prop) g d1=>(g d1).length<64/\Kn #[El<|g d1] d1):=by
 refine e1a2 ha λta a1 a2=>?_;refine#[_,xk HL hg hm kT (vI a1 vU hs) (he:=hs),λd F R σ H Kn Ke Q s hw kn ke=>a2 d F R σ H _ Ke _ s hw (λg d1 u F1 R1 H1 q1 c1 s1 r1=>?_) ke];obtain⟨q,us,rfl,h1,h2⟩:=r1 d1 F1 R1 H1 61 s1;refine#[_,g d1,rfl,wR.of (by rw[h1,paired_ints h2]),q1.1,λl ns hl pn sn=>?_];rw[Fl pn sn];refine e1a3 (yp s1 hl<|yK (R:=R1) (H:=H1)<|El<|g d1) λR' c3 s3 n3=>?_;exact kn _ d1 _ _ F1 R' _ q1.2 (Ch.trans s s1.tab c1 c3) s3 n3
noncomputable def Gp{α:Type}(a:List α)(b c:Option Int):List α:=(a.drop<|HT.xL a.length 0 b).take<|HT.xL a.length a.length c-HT.xL a.length 0 b
def JX{R:Rg}{H:Hp}:∀{xs:List α} {vs:List V} (n:Nat),Paired (rp R H) xs vs->Paired (rp R H) (xs.drop n) (vs.drop n):=by
 intro _ _ n z
 induction z generalizing n with
 |nil=>cases n<;>exact .nil
 |cons h t ih=>cases n with
  |zero=>exact .cons h t
  |succ k=>exact ih k
def D8{R:Rg}{H:Hp}:∀{xs:List α} {vs:List V} (n:Nat),Paired (rp R H) xs vs->Paired (rp R H) (xs.take n) (vs.take n)
 |_,_,0,_=>.nil
 |_,_,_+1,.nil=>.nil
 |_,_,n+1,.cons r t=>.cons r<|D8 n t
def Fo{R:Rg}{H:Hp}{xs:List α}{vs:List V}(h:Paired (rp R H) xs vs)(lo hi:Option Int):Paired (rp R H) (Gp xs lo hi) (E5 vs lo hi):=by unfold Gp E5;rw[<- Paired.length h];exact D8 _<|JX _ h
def OW(X:Cx)(E:XK)(T:hO)(e:Option i8){D:Type}[Sls D](w:Wf D (Option Int) D):Prop :=
 ∃t,PO X e t/\∀(d:D)(F R:Rg)(g:St)(H:Hp)(h:Option Int->D->Prop)(i:hO->D->Prop)(Q:Option Int->Hp->Prop),wG T F R H d g->w d h i ->
  151 ->
  122->t g H Q
def HU:OW X E T none (λ(d:D) a _=>a none d):=#[_,Er,λd F R e H a f Q s b c _=>c none d F R H b 61 s]
def HV{e:i8}{w:Wf D Int D}(h:EW X E T e w):OW X E T ↑e (cK w λa i b=>a ↑i b):=by refine e1a2 h λt c f=>?_;exact#[_,Es c,λd F R g H a j Q s k l m=>f d F R g H _ j _ s k (λx n u o p H1 q r v y=>#[x,y,l _ n o p H1 q r v]) m]
def JY{G:Option i8}(M:ER X E T a N)(O:OW X E T G P)(S:OW X E T U W) :
  EO X E T (.Subscript a (.Slice G U none p2) pos) (λ(d:D)(I:OL α->D->Prop) b=>N d (λg m=>P m (λl n=>W n (λh f=>I #[Gp (g f) l h] f) b) b) b):=by
 refine e1a2 M λta Y Z=>?_;refine e1a2 O λtl l1 l2=>?_;refine e1a2 S λth h1 h2=>?_;refine#[_,A4 Et Y l1 h1,λd F R o H I b Q s hw kn r=>?_];refine Z d F R o H _ b _ s hw (λg m u F1 R1 H1 q1 t e r1=>?_) r;refine l2 m F1 R1 o H1 _ b _ e q1 (λl n F2 R2 H2 q2 v i=>?_) λC y w x j z k c A=>r C y w x j z k (Ch.trans s e.tab t c) A;refine h2 n F2 R2 o H2 _ b _ i q2 (λh f J R3 H3 q3 L B=>?_) λC y w x j z k c A=>r C y w x j z k (Ch.trans s e.tab t<|Ch.trans e i.tab v c) A;obtain⟨q,us,rfl,k1,k2⟩:=r1 f J R3 H3 (Ch.trans e i.tab v L) B;refine⟨q,us,rfl,wR.of k1,λp hp=>?_⟩;refine e1a3 (yp B hp<|Fo k2 l h) λj c4 s4 n4=>?_;exact kn _ f _ _ J j _ q3 (Ch.trans s e.tab t<|Ch.trans e i.tab v<|Ch.trans i B.tab L c4) s4 n4
def Cm(X:Cx)(op:rc)(g:α->β->Bool):Prop:=∃r,AZ X (jH op) r/\∀{R:Rg} {H:Hp} {x:α} {y:β} {u v:V} {Q:VK},rp R H x u->rp R H y v->Q (.bl<|g x y) H->r u v H Q
def CmL(X:Cx)(op:rc)(g:List α->List β->Bool):Prop:=∃r,AZ X (jH op) r/\∀{R:Rg} {H:Hp} {x:List α} {y:List β} {p q:hO} {us vs:List V} {Q:VK},H p=↑(.lst us)->Paired (rp R H) x us->H q=↑(.lst vs)->Paired (rp R H) y vs->Q (.bl<|g x y) H->r (.ref p) (.ref q) H Q
def YM(X:Cx)(op:rc)(g:α->List β->Bool):Prop:=∃r,AZ X (jH op) r/\∀{R:Rg} {H:Hp} {x:α} {y:List β} {q:hO} {u:V} {vs:List V} {Q:VK},rp R H x u->H q=↑(.lst vs)->Paired (rp R H) y vs->Q (.bl<|g x y) H->r u (.ref q) H Q
def YN(a:AZ X (jH op) (Ud λi j=>.bl<|g i j)):Cm X op g:=⟨_,a,λb c k=>#[_,_,b,c,k]⟩
def Q3:Cm X .Lt (λi j:Int=>decide<|i<j):=YN WX
def Q4:Cm X .Gt (λi j:Int=>decide<|j<i):=YN WZ
def Xi:Cm X .GtE (λi j:Int=>decide<|j<=i):=YN a0k
def xI[DecidableEq α][HR α]:Cm X .Eq (λx y:α=>decide<|x=y):=⟨_,a0i,λa b k=>#[(HR.sc a b).1,by rw[(HR.sc a b).2];exact k]⟩
def CS[DecidableEq α][HR α]:Cm X .NotEq (λx y:α=>!decide (x=y)):=#[_,a0j,λa b k=>#[(HR.sc a b).1,by rw[(HR.sc a b).2];exact k]]
def YO:Cm X .Is (λ(x:Option α)(_:Unit)=>x.isNone):=#[_,Qd,λa b k=>#[b,by rw[Nl a];exact k]]
def No:Cm X .IsNot (λ(x:Option α)(_:Unit)=>!x.isNone):=#[_,M6,λa b k=>#[b,by rw[Nl a];exact k]]
def yq[DecidableEq α][Dat α](a:Dat.dp α<=64)(x:α):sQ (Dat.dat x)=true:=by show (pK (Dat.dat x)&&decide ((Dat.dat x).depth<=64))=true;rw[jc];exact#[Dat.lay x,decide_eq_true<|i9 (Dat.dep x) a]
def YQ[DecidableEq α][Dat α](b:X.A.units+64<kI)(a:Dat.dp α<=64:=by decide):Cm X .NotEq (λx y:α=>!decide (x=y)):=#[_,QM b,λ{R H x y u v Q} c d k=>#[_,_,Dat.rd c,Dat.rd d,yq a x,yq a y,Dat.nm x y,by rw[Dat.sm];exact k]]
def LG[DecidableEq α][Dat α](b:X.A.units+64<kI)(a:Dat.dp (List α)<=64:=by decide):CmL X .Eq (λx y:List α=>decide (x=y)):=#[_,YB b,λ{R H x y p q g h Q} c d e f k=>#[_,_,Ex.lst (wR.of c) (Ax d),Ex.lst (wR.of e) (Ax f),yq a x,yq a y,Dat.nm x y,by
 have:=Dat.sm x y
 rw[show lF (.list (x.map Dat.dat)) (.list (y.map Dat.dat))=decide (x=y) from this];exact k]]
def Bh[DecidableEq α][Dat α](b:X.A.units+64<kI)(a:Dat.dp (List α)<=64:=by decide):CmL X .NotEq (λx y:List α=>!decide (x=y)):=#[_,QM b,λ{R H x y p q g h Q} c d e f k=>#[_,_,Ex.lst (wR.of c) (Ax d),Ex.lst (wR.of e) (Ax f),yq a x,yq a y,Dat.nm x y,by
 have:=Dat.sm x y
 rw[show lF (.list (x.map Dat.dat)) (.list (y.map Dat.dat))=decide (x=y) from this];exact k]]
def CT(k:Int)(a:List Int):ZV (.int k) (a.map V.int)=decide (k∈a):=by
 unfold ZV;rw[tq,k9,o8,jf];constructor
 ·rintro⟨y,b,e⟩;have:y=k:=by simpa[PR] using e
  rw[<- this];exact b
 ·intro h;exact#[k,h,by simp[PR]]
def BM(a:List Int):(a.map V.int).all CI=true:=by rw[List.all_map,ny];intro x _;rfl
def JZ:YM X .In (λ(x:Int)(ys:List Int)=>decide (x∈ys)):=#[_,GQ,λ{R H x y q u vs Q} h1 h2 h3 k=>by
 subst h1;refine#[q,vs,rfl,.inl<|wR.of h2,rfl,by rw[paired_ints h3];exact BM y,?_];rw[paired_ints h3,CT]
 exact k]
def zu:YM X .NotIn (λ(x:Int)(ys:List Int)=>!decide (x∈ys)):=#[_,Ap,λ{R H x y q u vs Q} h1 h2 h3 k=>by
 subst h1;refine#[q,vs,rfl,.inl<|wR.of h2,rfl,by rw[paired_ints h3];exact BM y,?_];rw[paired_ints h3,CT]
 exact k]
def tw_cm{a b:i8}{op:rc}{g:α->β->Bool}{wa:Wf D α D}{wb:Wf D β D}(C:Cm X op g)(ha:EW X E T a wa)(hb:EW X E T b wb)(hm:jm op b=false:=by exact vX _) :
  TW X E T 117 (cB wa wb λx Kn y d2=>Kn (g x y) d2):=by
 refine e1a2 C λr o1 o2=>?_;refine e1a2 ha λta a1 a2=>?_;refine e1a2 hb λtb b1 b2=>?_;refine#[_,yC o1 a1 b1 hm,λd F R σ H Kn Ke Q s hw kn ke=>?_];refine a2 d F R σ H _ Ke _ s hw (λx d1 u F1 R1 H1 q1 c1 s1 r1=>?_) ke;refine b2 d1 F1 R1 σ H1 _ Ke _ s1 q1 (λy d2 v F2 R2 H2 q2 c2 s2 r2=>?_) λC y d' F' R' H' k c s'=>ke C y d' F' R' H' k 141 s';exact o2 (s1.val c2 r1) r2 #[_,rfl,kn _ d2 F2 R2 H2 q2 135 s2]
def a0Q{a b:i8}{op:rc}{g:α->β->Bool}{h:Wf D α D}{i:Wf D β D}(C:Cm X op g)(q:EW X E T a h)(t:EW X E T b i)(w:jm op b=false:=by exact vX _) :
  EW X E T 117 (cB h i λx (j:Bool->D->Prop) y f=>j (g x y) f):=by
 obtain⟨r,z,A⟩:=C;obtain⟨ta,B,G⟩:=q;obtain⟨tb,I,J⟩:=t;refine#[_,Hv z B I w,λd F R l H j m Q s L M n=>?_];refine G d F R l H _ m _ s L (λx N u O P H1 S o e U=>?_) n;refine J N O P l H1 _ m _ e S (λy f v W R2 H2 Y p Z r2=>?_) λC y d' F' R' H' k c s'=>n C y d' F' R' H' k (Ch.trans s e.tab o c) s';exact A (e.val p U) r2<|M _ f _ W R2 H2 Y (Ch.trans s e.tab o p) Z rfl
def tw_cmL{a b:i8}{op:rc}{g:List α->List β->Bool}{wa:Wf D (D->List α) D}{wb:Wf D (D->List β) D}(C:CmL X op g)(ha:ER X E T a wa)(hb:ER X E T b wb)(hm:jm op b=false:=by exact vX _) :
  TW X E T 117 (cB wa wb λx Kn y d2=>Kn (g (x d2)<|y d2) d2):=by
 refine e1a2 C λr o1 o2=>?_;refine e1a2 ha λta a1 a2=>?_;refine e1a2 hb λtb b1 b2=>?_;refine#[_,yC o1 a1 b1 hm,λd F R σ H Kn Ke Q s hw kn ke=>?_];refine a2 d F R σ H _ Ke _ s hw (λx d1 u F1 R1 H1 q1 c1 s1 r1=>?_) ke;refine b2 d1 F1 R1 σ H1 _ Ke _ s1 q1 (λy d2 v F2 R2 H2 q2 c2 s2 r2=>?_) λC y d' F' R' H' k c s'=>ke C y d' F' R' H' k 141 s';obtain⟨p,us,rfl,h1,h2⟩:=r1 d2 F2 R2 H2 c2 s2;obtain⟨q,vs,rfl,k1,k2⟩:=r2 d2 F2 R2 H2 61 s2;exact o2 h1 h2 k1 k2 #[_,rfl,kn _ d2 F2 R2 H2 q2 135 s2]
def YR{a b:i8}{op:rc}{g:List α->List β->Bool}{wa:Wf D (D->List α) D}{wb:Wf D (D->List β) D}(C:CmL X op g)(ha:ER X E T a wa)(hb:ER X E T b wb)(hm:jm op b=false:=by exact vX _) :
  EW X E T 117 (cB wa wb λx (Kn:Bool->D->Prop) y d2=>Kn (g (x d2)<|y d2) d2):=by
 refine e1a2 C λr o1 o2=>?_;refine e1a2 ha λta a1 a2=>?_;refine e1a2 hb λtb b1 b2=>?_;refine#[_,Hv o1 a1 b1 hm,λd F R σ H Kn Ke Q s hw kn ke=>?_];refine a2 d F R σ H _ Ke _ s hw (λx d1 u F1 R1 H1 q1 c1 s1 r1=>?_) ke;refine b2 d1 F1 R1 σ H1 _ Ke _ s1 q1 (λy d2 v F2 R2 H2 q2 c2 s2 r2=>?_) λC y d' F' R' H' k c s'=>ke C y d' F' R' H' k 141 s';obtain⟨p,us,rfl,h1,h2⟩:=r1 d2 F2 R2 H2 c2 s2;obtain⟨q,vs,rfl,k1,k2⟩:=r2 d2 F2 R2 H2 61 s2;exact o2 h1 h2 k1 k2<|kn _ d2 _ F2 R2 H2 q2 135 s2 rfl
def tw_cmI{a b:i8}{op:rc}{g:α->List β->Bool}{wa:Wf D α D}{wb:Wf D (D->List β) D}(C:YM X op g)(ha:EW X E T a wa)(hb:ER X E T b wb)(hm:jm op b=false:=by exact vX _) :
  TW X E T 117 (cB wa wb λx Kn y d2=>Kn (g x<|y d2) d2):=by
 refine e1a2 C λr o1 o2=>?_;refine e1a2 ha λta a1 a2=>?_;refine e1a2 hb λtb b1 b2=>?_;refine#[_,yC o1 a1 b1 hm,λd F R σ H Kn Ke Q s hw kn ke=>?_];refine a2 d F R σ H _ Ke _ s hw (λx d1 u F1 R1 H1 q1 c1 s1 r1=>?_) ke;refine b2 d1 F1 R1 σ H1 _ Ke _ s1 q1 (λy d2 v F2 R2 H2 q2 c2 s2 r2=>?_) λC y d' F' R' H' k c s'=>ke C y d' F' R' H' k 141 s';obtain⟨q,vs,rfl,k1,k2⟩:=r2 d2 F2 R2 H2 61 s2;exact o2 (s1.val c2 r1) k1 k2 #[_,rfl,kn _ d2 F2 R2 H2 q2 135 s2]
def YS{a b:i8}{op:rc}{g:α->List β->Bool}{h:Wf D α D}{i:Wf D (D->List β) D}(C:YM X op g)(z:EW X E T a h)(A:ER X E T b i)(B:jm op b=false) :
  EW X E T 117 (cB h i λx (j:Bool->D->Prop) y e=>j (g x<|y e) e):=by
 obtain⟨r,G,I⟩:=C;obtain⟨ta,J,L⟩:=z;obtain⟨tb,M,N⟩:=A;refine#[_,Hv G J M B,λd F R l H j m Q s O P n=>?_];refine L d F R l H _ m _ s O (λx S u U W H1 Y o f Z=>?_) n;refine N S U W l H1 _ m _ f Y (λy e v p R2 H2 q2 t w r2=>?_) λC y d' F' R' H' k c s'=>n C y d' F' R' H' k (Ch.trans s f.tab o c) s';obtain⟨q,vs,rfl,k1,k2⟩:=r2 e p R2 H2 61 w;exact I (f.val t Z) k1 k2<|P _ e _ p R2 H2 q2 (Ch.trans s f.tab o t) w rfl
def tw_val{w:Wf D Bool D}(h:EW X E T e w)(b:∀a,rj e X.env a=(do let v <- a;nE e.pos;lw [v] (uQ v)):=by intro _;rfl):TW X E T e w:=by refine e1a2 h λt c f=>?_;exact#[_,XX c b,λd F R g H A i Q s j k l=>f d F R g H _ i _ s j (λx m u n o p q r y z=>#[x,z,k _ m n o p q r y]) l]
def tw_not{w:Wf D Bool D}(h:TW X E T e w):TW X E T (.UnaryOp .Not e pos) (cK w λc b a=>c (!b) a):=by refine e1a2 h λt f g=>?_;exact#[_,XZ f,λd F R i H c j Q s k l m=>g d F R i H _ j _ s k (λx a n o p q r u=>l _ a n o p q r u) m]
def WW(X:Cx)(E:XK)(T:hO)(e:i8){D:Type}[Sls D](w:Wf D Bool D):Prop :=
 ∃t,PW X e t/\∀(d:D)(F R:Rg)(g:St)(H:Hp)(h:Bool->D->Prop)(i:hO->D->Prop)(Q:Bool->Hp->Prop),wG T F R H d g->w d h i ->
  151 ->
  122->t g H Q
def tw_w{w:Wf D Bool D}(h:WW X E T e w):TW X E T e w:=e1a2 h λt a b=> #[t,a.pt,b]
def yF{w:Wf D Bool D}(h:TW X E T a w):WW X E T (.BoolOp .And [a] pos) w:=e1a2 h λt b c=> #[_,Uo b,c]
def AA{w:Wf D Bool D}(h:TW X E T a w):WW X E T (.BoolOp .Or [a] pos) w:=e1a2 h λt b c=> #[_,P5 b,c]
def zS{e:List i8}{h i:Wf D Bool D}(u:TW X E T a h)(v:WW X E T (.BoolOp .And (b::e) pos) i):WW X E T (.BoolOp .And (a::b::e) pos) (cA h i):=by
 refine e1a2 u λta w z=>?_;refine e1a2 v λtb A B=>?_;refine#[_,XY w A,λd F R j H Kn l Q s G m n=>?_];refine z d F R j H _ l _ s G (λx o p q r t g f=>?_) n
 cases x with
 |true=>exact B o p q j r _ l _ f t (λy I J L M N O P=>m _ I J L M N (Ch.trans s f.tab g O) P) λC y S U W Y k c Z=>n C y S U W Y k (Ch.trans s f.tab g c) Z
 |false=>exact m _ o p q r t g f
def B7{e:List i8}{h i:Wf D Bool D}(u:TW X E T a h)(v:WW X E T (.BoolOp .Or (b::e) pos) i):WW X E T (.BoolOp .Or (a::b::e) pos) (cO h i):=by
 refine e1a2 u λta w z=>?_;refine e1a2 v λtb A B=>?_;refine#[_,WQ w A,λd F R j H Kn l Q s G m n=>?_];refine z d F R j H _ l _ s G (λx o p q r t g f=>?_) n
 cases x with
 |false=>exact B o p q j r _ l _ f t (λy I J L M N O P=>m _ I J L M N (Ch.trans s f.tab g O) P) λC y S U W Y k c Z=>n C y S U W Y k (Ch.trans s f.tab g c) Z
 |true=>exact m _ o p q r t g f
def CU{op}{w:Wf D Bool D}(h:EW X E T a w):EW X E T (.BoolOp op [a] pos) w:=e1a2 h λt b c=> #[_,X0 b,c]
def HW{a b:i8}{rest:List i8}{g h:Wf D Bool D}(r:EW X E T a g)(t:EW X E T (.BoolOp .And (b::rest) pos) h):EW X E T (.BoolOp .And (a::b::rest) pos) (cA g h):=by
 refine e1a2 r λta w z=>?_;refine e1a2 t λtb A B=>?_;refine#[_,X1 w A,λd F R i H Kn j Q s G l m=>?_];refine z d F R i H _ j _ s G (λx n u o p H1 q f e I=>#[x,I,?_]) m
 cases x with
 |true=>exact B n o p i H1 _ j _ e q (λy J v L R2 H2 M N O P=>l _ J v L R2 H2 M (Ch.trans s e.tab f N) O P) λC y S U W Y k c Z=>m C y S U W Y k (Ch.trans s e.tab f c) Z
 |false=>exact l _ n _ o p H1 q f e rfl
def a0R{a b:i8}{rest:List i8}{g h:Wf D Bool D}(r:EW X E T a g)(t:EW X E T (.BoolOp .Or (b::rest) pos) h):EW X E T (.BoolOp .Or (a::b::rest) pos) (cO g h):=by
 refine e1a2 r λta w z=>?_;refine e1a2 t λtb A B=>?_;refine#[_,a0b w A,λd F R i H Kn j Q s G l m=>?_];refine z d F R i H _ j _ s G (λx n u o p H1 q f e I=>#[x,I,?_]) m
 cases x with
 |false=>exact B n o p i H1 _ j _ e q (λy J v L R2 H2 M N O P=>l _ J v L R2 H2 M (Ch.trans s e.tab f N) O P) λC y S U W Y k c Z=>m C y S U W Y k (Ch.trans s e.tab f c) Z
 |true=>exact l _ n _ o p H1 q f e rfl
def YT(h:EW X E T a w):EW X E T (.UnaryOp .Not a pos) (cK w λ(e:Bool->D->Prop) b c=>e (!b) c):=by refine e1a2 h λt f g=>?_;exact#[_,X2 f,λd F R i H e j Q s k l m=>g d F R i H _ j _ s k (λx c u n o p q r v y=>#[x,y,l _ c _ n o p q r v rfl]) m]
end
variable[L2.GX]
class U4(τ:Type)[Ow τ]:Prop where
 fr:∀{F R L:Rg} {H:Hp} {x:τ} {v:Option V},sl F R H x v->(∀a,L a->∃us,H a=↑(.lst us))->sl F (λa=>R a\/L a) H x v
class KQ(α:Type)[Rep α]:Prop where
 no:∀{R L:Rg} {H:Hp} {x:α} {v:V},rp R H x v->(∀a,L a->∃us,H a=↑(.lst us))->rp (λa=>R a\/L a) H x v
instance:KQ Int:=#[λh _=>h]
instance:KQ Bool:=#[λh _=>h]
instance{α β:Type}[Rep α][Rep β][KQ α][KQ β]:KQ (α×β):=#[λ{R L H x v} h k=>by
 obtain⟨a,u,w,h1,h2,h3,h4,h5⟩:=h
 exact#[a,u,w,h1,λz=>z.elim h2 λq=>(by obtain⟨us,e⟩:=k a q;rw[h3]at e;cases e),h3,KQ.no h4 k,KQ.no h5 k]]
def Np{α:Type}[Rep α][KQ α]{R L:Rg}{H:Hp}(k:∀a,L a->∃us,H a=↑(.lst us)):∀{xs:List α} {vs:List V},Paired (rp R H) xs vs->Paired (rp (λa=>R a\/L a) H) xs vs:=by
 intro _ _ z
 induction z with
 |nil=>exact .nil
 |cons h t ih=>exact .cons (KQ.no h k) ih
instance{α:Type}[Rep α][KQ α]:KQ (Tp α):=#[λ{R L H x v} h k=>by
 refine e2a4 h λa vs h1 h2 h3 h4=>?_
 exact#[a,vs,h1,λz=>z.elim h2 λq=>(by obtain⟨us,e⟩:=k a q;rw[h3]at e;cases e),h3,Np k h4]]
instance{α:Type}[Rep α][KQ α]:U4 α:=#[λ{F R L H x v} h k=>by
 obtain⟨h1,u,e,h2⟩:=h
 exact#[h1,u,e,KQ.no h2 k]]
instance{α:Type}[Rep α][KQ α]:U4 (OL α):=#[λ{F R L H x v} h k=>by
 refine e2a4 h λa vs h1 h2 h3 h4=>?_
 exact#[a,vs,h1,h2,h3,Np k h4]]
instance:U4 Un:=#[λh _=>h]
class Z0(P:Type)[Sls P]:Prop where
 fr:∀{F R L:Rg} {H:Hp} {x:P} {v:St},rel F R H x v->(∀a,L a->∃us,H a=↑(.lst us))->rel F (λa=>R a\/L a) H x v
instance:Z0 Unit:=#[λh _=>h]
instance{τ P:Type}[Ow τ][Sls P][U4 τ][Z0 P]:Z0 (τ×P):=#[λh k=>by
 refine e4a4 h λv σ' F1 F2 h1 h2 h3 h4=>?_
 exact#[v,σ',F1,F2,h1,h2,U4.fr h3 k,Z0.fr h4 k]]
class YU(P:Type)[Sls P]:Prop where
 ls:∀{F R:Rg} {H:Hp} {x:P} {v:St},rel F R H x v->∀a,F a->∃us,H a=↑(.lst us)
instance:YU Unit:=#[λh a z=>iv z (h.2 a)]
instance{α P:Type}[Rep α][Sls P][YU P]:YU (OL α×P):=#[λ{F R H x v} h a z=>by
 obtain⟨v,σ',F1,F2,h1,h2,⟨b,vs,k1,k2,k3,k4⟩,h4⟩:=h;rcases(h2.all a).mp z with q|q
 ·rw[(k2 a).mp q];exact#[vs,k3]
 ·exact YU.ls h4 a q]
abbrev Wo(R L:Rg):Rg:=λa=>R a/\¬L a
def DE(R L:Rg)(H:Hp):Ext (λ_=>False) R H (Wo R L) H:=#[λ_ _ _ h=>h,λa h=>.inl h.1]
def U5(h:∀a,L a->b a):Ext (λ_=>False) (Wo R L) H (Wo R b) H:=#[λ_ _ _ h=>h,λa z=>.inl #[z.1,λq=>z.2<|h a q]]
def Sls.wk{D:Type}[Sls D]{F R R':Rg}{H:Hp}{d:D}{σ:St}(h:rel F R H d σ)(e:Ext (λ_=>False) R H R' H):rel F R' H d σ:=Sls.st h e 121<|λ_ _ z=>z
def Ow.wk{τ:Type}[Ow τ]{F R R':Rg}{H:Hp}{d:τ}{σ:Option V}(h:sl F R H d σ)(e:Ext (λ_=>False) R H R' H):sl F R' H d σ:=Ow.st h e 121<|λ_ _ z=>z
class Lb(Lc τ PO:Type)[Sls Lc][Ow τ][Sls PO]:Prop where
 fr:∀{F R L R0:Rg} {H:Hp} {x:τ} {v:Option V} {l:Lc} {us:St},rel L R0 H l us->sl F R H x v->sl F (λa=>R a\/L a) H x v
 fs:∀{F R L R0:Rg} {H:Hp} {x:PO} {v:St} {l:Lc} {us:St},rel L R0 H l us->rel F R H x v->rel F (λa=>R a\/L a) H x v
instance{Lc τ PO:Type}[Sls Lc][Ow τ][Sls PO][U4 τ][Z0 PO][YU Lc]:Lb Lc τ PO:=#[λh k=>U4.fr k (YU.ls h),λh k=>Z0.fr k (YU.ls h)]
def Q5{R L:Rg}{H:Hp}(h:∀a,¬L a):Ext (λ_=>False) R H (λa=>R a\/L a) H:=#[λ_ _ _ h=>h,λa z=>z.elim .inl λq=>iv q<|h a]
instance(priority:=high){τ PO:Type}[Ow τ][Sls PO]:Lb Unit τ PO:=#[λh k=>Ow.wk k (Q5 h.2),λh k=>Sls.wk k (Q5 h.2)]
structure Fp(F F1 F2 F3:Rg):Prop where
 all:∀a,F a↔F1 a\/F2 a\/F3 a
 Jq:∀a,F1 a->F2 a->False
 KR:∀a,F1 a->F3 a->False
 KU:∀a,F2 a->F3 a->False
def LH(X:Cx)(E:XK)(T:hO)(M:List i8){D P n B j:Type}[Sls D][Sls P][Sls n][Sls B][Sls j](k:B->j->n->D)(w:D->(P->B->j->Prop)->72->Prop):Prop :=
 ∃t,PA X M t/\∀(d:D)(F R:Rg)(g:St)(H:Hp)(o:P->B->j->Prop)(q:hO->D->Prop)(Q:List V->Hp->Prop),wG T F R H d g->w d o q ->
  (∀p b l m r s u L h f a,o p b l->Ch T F R H h f a->Std T h f a->Fp h s u L->rel s (Wo f L) a p (m.map some)->rel u f a b g->rel L f a l r ->
   (∀v x z A G i c e I,rel z c e I (m.map some)->rel A c e v g->rel G c e x r->Fp i z A G->rel i c e (k v x I) g)->Q m a) ->
  (∀C y J h f a,q C J->Ch T F R H h f a->wG T h f a J g->E (.ref C) ↑y a)->t g H Q
section
variable{D:Type}[Sls D]
def vD:LH X E T [] (λ(b:D)(_:Unit)(_:Unit)=>b) (λ(d:D)(c:Unit->D->Unit->Prop) _=>c () d ()):=by refine#[_,vU,λd F R m H c n Q s e f _=>?_];exact f () d () [] [] (λ_=>False) F (λ_=>False) F R H e 61 s.Uf #[λa=>#[λz=>.inr<|.inl z,λz=>z.elim (λq=>q.elim) λz=>z.elim id λq=>q.elim],λ_ z=>z.elim,λ_ z=>z.elim,λ_ _ z=>z] #[rfl,λ_ z=>z] s.rel #[rfl,λ_ z=>z] λo p r u v g h i w j k l t=>Sls.fq k λa=>#[λz=>(t.all a).mpr<|.inr<|.inl z,λz=>((t.all a).mp z).elim (λq=>iv q<|j.2 a) λz=>z.elim id λq=>iv q<|l.2 a]
def vG{g:List i8}{m P n B a:Type}[Rep m][Sls P][Sls n][Sls B][Sls a]{f:B->a->n->D}{A:Wf D m D}{G:D->(P->B->a->Prop)->72->Prop}
 (W:EW X E T e A) (Y:LH X E T g f G) (Z:hV (e::g) X.env=71::hV g X.env:=by rfl) :
    LH X E T (e::g) (λ(b:B)(l:a)(p:Un×n)=>f b l p.2) (cB A G λx (I:m×P->B->a->Prop) p b l=>I (x,p) b l):=by
  refine e1a2 W λta a1 a2=>?_
  refine e1a2 Y λtr b1 b2=>?_
  refine#[_,vI a1 b1 Z,λd F R J H I M Q s hw kn N=>?_]
  refine a2 d F R J H _ M _ s hw (λx d1 u F1 R1 H1 q1 O h r1=>?_) N
  refine b2 d1 F1 R1 J H1 _ M _ h q1 (λp b l S us o G2 L q i j q2 U s2 t2 h1 h2 hl k=>?_) λC y d' q i j k c s'=>N C y d' q i j k (Ch.trans s h.tab O c) s'
  refine kn (x,p) b l (u::S) us o G2 L q i j q2 (Ch.trans s h.tab O U) s2 t2 #[↑u,S.map some,λ_=>False,o,rfl,two_nil o,#[λ_ z=>z,u,rfl,Rep.st (h.val U r1)<|(DE i L j).wide λ_ z=>z.elim],h1] h2 hl λb' l' L1 L2 L3 r v w p' h3 h4 h5 t=>?_
  refine e4a4 h3 λv' aa M1 M2 z1 z2 z3 z4=>?_
  injection z1 with _ z5
  subst z5
  exact k b' l' L1 L2 L3 r v w p'.2 (Sls.fq z4<|two_eq z2 z3) h4 h5 t
def v0{o:List i8}(i:Nat){c O P w B g h:Type}[Ow c][Hs c][Sls O][Sls P][Sls w][Sls B][Sls g][Sls h]{j:B->h->w->D}{S:D->(P->B->h->Prop)->72->Prop}
 [A0:At i D c O] [A:At i B c g] [U:Pt i g c B] (hr:LH X E T o j S) (he:PE X 94 (v9 i):=by exact pv _) (hs:hV (.Name x pos::o) X.env=(false,eval 94 X.env)::hV o X.env:=by rfl) :
    LH X E T (.Name x pos::o) (λ(b:g)(l:h)(p:c×w)=>j (U.put b p.1) l p.2) (cK S λ(W:c×P->g->h->Prop) p b l=>W (A.get b,p) (A.hole b) l):=by
  refine e1a2 hr λtr b1 b2=>?_
  refine#[_,vI he b1 hs,λd F R σ H W Ke Q s hw kn ke=>?_]
  refine e3a4 (A0.take s.rel) λv _ _ y _ C _=>?_
  obtain⟨u,rfl⟩:=Hs.has C
  refine#[u,y,b2 d F R σ H _ Ke _ s hw (λp b l Y us Z G2 L F' R' H' q2 c2 s2 e h1 h2 hl k=>?_) ke]
  refine e3a4 (A.take h2) λv' G M2 z1 r z3 z4=>?_
  rw[y]at z1
  cases z1
  have m1:∀a,G a->G2 a:=λa m=>(r.all a).mpr<|.inl m
  have m2:∀a,M2 a->G2 a:=λa m=>(r.all a).mpr<|.inr m
  refine kn (A.get b,p) (A.hole b) l (u::Y) us (λa=>G a\/Z a) M2 L F' R' H' q2 c2 s2 #[λa=>?_,λa m n=>?_,λa m n=>?_,λa m n=>e.KU a (m2 a m) n] #[↑u,Y.map some,G,Z,rfl,#[λ_=>Iff.rfl,λa m n=>e.Jq a n<|m1 a m],Ow.wk z3<|DE R' L H',h1] z4 hl λb' l' L1 L2 L3 I J M p' h3 h4 h5 t=>?_
  · rw[e.all, r.all]
    exact#[λz=>z.elim 157 λz=>z.elim 123 λq=>.inr<|.inr q,λz=>z.elim 142 λz=>z.elim 158 λq=>.inr<|.inr q]
  · rcases m with m|m
    · exact r.yU a m n
    · exact e.Jq a m<|m2 a n
  · rcases m with m|m
    · exact e.KU a (m1 a m) n
    · exact e.KR a m n
  · refine e4a4 h3 λv' aa N N2 y1 f y3 y4 => ?_
    injection y1 with y5 y6
    subst y5;subst y6
    have tt:Ek (λa=>N a\/L2 a) N L2:=#[λ_=>Iff.rfl,λa m n=>t.Jq a ((f.all a).mpr<|.inl m) n]
    refine k _ l' N2 (λa=>N a\/L2 a) L3 I J M p'.2 y4 (Pt.same (A:=U) h4 y tt y3) h5 #[λa=>?_,λa m n=>?_,λa m n=>t.KR a ((f.all a).mpr<|.inr m) n,λa m n=>?_]
    · rw[t.all, f.all]
      exact#[λz=>z.elim 142 λz=>z.elim 158 λq=>.inr<|.inr q,λz=>z.elim 157 λz=>z.elim 123 λq=>.inr<|.inr q]
    · rcases n with n|n
      · exact f.yU a n m
      · exact t.Jq a ((f.all a).mpr<|.inr m) n
    · rcases m with m|m
      · exact t.KR a ((f.all a).mpr<|.inl m) n
      · exact t.KU a m n
def wp{u:List i8}(i:Nat){e S P y B h j:Type}[Rep e][Sls S][Sls P][Sls y][Sls B][Sls h][Sls j]{o:B->j->y->D}{W:D->(P->B->j->Prop)->72->Prop}
 [A0:At i D (OL e) S] [A:At i B (OL e) h] [U:Pt i h (OL e) B] (hr:LH X E T u o W) (he:PE X 94 (v9 i):=by exact pv _) (hs:hV (.Name x pos::u) X.env=(false,eval 94 X.env)::hV u X.env:=by rfl) :
    LH X E T (.Name x pos::u) (λ(b:h)(l:OL e×j)(p:Un×y)=>o (U.put b l.1) l.2 p.2) (cK W λ(Y:List e×P->h->OL e×j->Prop) p b l=>Y ((A.get b).l,p) (A.hole b) (A.get b,l)):=by
  refine e1a2 hr λtr b1 b2=>?_
  refine#[_,vI he b1 hs,λd F R σ H Y Ke Q s hw kn ke=>?_]
  obtain⟨v,_,_,C,_,⟨r,_,rfl,_⟩,_⟩:=A0.take s.rel
  refine#[_,C,b2 d F R σ H _ Ke _ s hw (λp b l Z us G G2 L F' R' H' q2 c2 s2 f h1 h2 hl k=>?_) ke]
  refine e3a4 (A.take h2) λv' I M2 z1 w z3 z4=>?_
  rw[C]at z1
  cases z1
  refine e2a4 (id z3) λa ws e1 e2 e3 e4=>?_
  cases e1
  have m1:∀a,I a->G2 a:=λa m=>(w.all a).mpr<|.inl m
  have m2:∀a,M2 a->G2 a:=λa m=>(w.all a).mpr<|.inr m
  refine kn ((A.get b).l,p) (A.hole b) (A.get b,l) (.ref r::Z) (↑(.ref r)::us) G M2 (λc=>I c\/L c) F' R' H' q2 c2 s2 #[λa=>?_,λa m n=>f.Jq a m<|m2 a n,λa m n=>?_,λa m n=>?_] #[some<|.ref r,Z.map some,λ_=>False,G,rfl,two_nil G,#[λ_ z=>z,_,rfl,r,ws,rfl,λz=>z.2<|.inl<|(e2 r).mpr rfl,e3,wT ((DE R' _ H').wide λ_ z=>z.elim) e4],Sls.wk h1<|U5 λ_ z=>.inr z] z4 #[_,us,I,L,rfl,#[λ_=>Iff.rfl,λa m n=>f.KU a (m1 a m) n],z3,hl] λb' l' L1 L2 L3 J M N p' h3 h4 h5 t=>?_
  · rw[f.all, w.all]
    exact#[λz=>z.elim .inl λz=>z.elim (λz=>z.elim (λq=>.inr<|.inr<|.inl q) λq=>.inr<|.inl q) λq=>.inr<|.inr<|.inr q,λz=>z.elim .inl λz=>z.elim 158 λz=>z.elim (λq=>.inr<|.inl<|.inl q) λq=>.inr<|.inr q]
  · rcases n with n|n
    · exact f.Jq a m<|m1 a n
    · exact f.KR a m n
  · rcases n with n|n
    · exact w.yU a n m
    · exact f.KU a (m2 a m) n
  · refine e4a4 h3 λv' aa N1 N2 y1 y2 y3 y4 => ?_
    injection y1 with _ y6
    subst y6
    refine e4a4 h5 λv2 ab O K2 x1 g x3 x4=>?_
    injection x1 with x5 x6
    subst x5;subst x6
    have tt:Ek (λa=>O a\/L2 a) O L2:=#[λ_=>Iff.rfl,λa m n=>t.KU a n<|(g.all a).mpr<|.inl m]
    refine k _ l'.2 L1 (λa=>O a\/L2 a) K2 J M N p'.2 (Sls.fq y4<|two_eq y2 y3) (Pt.same (A:=U) h4 C tt x3) x4 ⟨λa=>?_,λa m n=>?_,λa m n=>t.KR a m<|(g.all a).mpr<|.inr n,λa m n=>?_⟩
    · rw[t.all, g.all]
      exact#[λz=>z.elim .inl λz=>z.elim 158 λz=>z.elim (λq=>.inr<|.inl<|.inl q) λq=>.inr<|.inr q,λz=>z.elim .inl λz=>z.elim (λz=>z.elim (λq=>.inr<|.inr<|.inl q) λq=>.inr<|.inl q) λq=>.inr<|.inr<|.inr q]
    · rcases n with n|n
      · exact t.KR a m<|(g.all a).mpr<|.inl n
      · exact t.Jq a m n
    · rcases m with m|m
      · exact g.yU a m n
      · exact t.KU a m<|(g.all a).mpr<|.inr n
def Fq{P J B Lc M:Type}[Sls P][Sls J][Sls B][Sls Lc][Ow M][Lb Lc M J]{mrg:B->Lc->J->D}{wf:Wf P M J}{F R F1 F2 L:Rg}{H:Hp}{b:B}{l:Lc}{p:P}{σ:St}{vs:List V}{us:St}{Kn:M->D->Prop}{Ke:hO->D->Prop}{Q:VK}
  (s:Std T F R H) (t:Fp F F1 F2 L) (hp:rel F1 (Wo R L) H p (vs.map some)) (hb:rel F2 R H b σ) (hl:rel L R H l us) (km:∀b' l' G1 G2 G3 W u w r,rel G1 u w r (vs.map some)->rel G2 u w b' σ->rel G3 u w l' us->Fp W G1 G2 G3->rel W u w (mrg b' l' r) σ)
  (hw:wf p (λx r=>Kn x<|mrg b l r) (λC r=>Ke C<|mrg b l r))
  (kn:∀x X v M1 N i d,Kn x X->Ch T F R H (λa=>M1 a\/N a) i d->wG T N i d X σ->Nw T M1 N i d x v->Q v d)
  (ke:∀C y X Y i d,Ke C X->Ch T F R H Y i d->wG T Y i d X σ->E (.ref C) ↑y d):zh T wf vs H Q E:=by
 have O:∀a,F1 a->F a:=λa h=>(t.all a).mpr<|.inl h;have S:∀a,F2 a->F a:=λa h=>(t.all a).mpr<|.inr<|.inl h;have k:∀a,L a->F a:=λa h=>(t.all a).mpr<|.inr<|.inr h;have s1:wG T F1 (Wo R L) H p (vs.map some):=⟨hp,λa h=>#[s.sub a<|O a h,λz=>t.KR a h z],λa h=>s.xP a h.1,s.tab,#[s.wx,λz=>s.wd<|k T z],λh=>s.wd<|O T h⟩
 -- the region aa it: Z the ab left and Z ah ag
 have ex:∀{G i:Rg} {d:Hp},Ch T F1 (Wo R L) H G i d->Ext (λa=>F1 a\/a=T) R H (λa=>i a\/L a) d:=λc=>#[λb o n h=>c.keep b o (λz=>n<|.inl z) (λz=>n<|.inr z) h,λa h=>h.elim (λz=>(c.AU a z).elim (λq=>.inl q.1) .inr) λz=>.inl<|s.sub a<|k a z];have gs:∀a,(F1 a\/a=T)->R a:=λa h=>h.elim (λz=>s.sub a<|O a z) λq=>by rw[q];exact s.wx
 have fr:∀{G i:Rg} {d:Hp},Ch T F1 (Wo R L) H G i d->rel F2 (λa=>i a\/L a) d b σ:=λc=>Sls.st hb (ex c) gs λa h z=>z.elim (λq=>t.Jq a q h) λq=>s.wd (by rw[<- q];exact S a h);have A:∀{G i:Rg} {d:Hp},Ch T F1 (Wo R L) H G i d->rel L (λa=>i a\/L a) d l us:=λc=>Sls.st hl (ex c) gs λa h z=>z.elim (λq=>t.KR a q h) λq=>s.wd (by rw[<- q];exact k a h)
 have nF:∀{G i:Rg} {d:Hp},Ch T F1 (Wo R L) H G i d->∀a,G a->F2 a\/L a->False:=λc a g f=>by
  rcases c.yo a g with q|q
  ·exact f.elim (t.Jq a q)<|t.KR a q
  ·exact s.xP a (s.sub a<|f.elim (S a)<|k a) q
 have nR:∀{G i:Rg} {d:Hp},Ch T F1 (Wo R L) H G i d->∀a,L a->¬i a:=λc a h z=>by
  rcases c.AU a z with q|q
  ·exact q.2 h
  ·exact s.xP a (s.sub a<|k a h) q
 have ch:∀{G i:Rg} {d:Hp},Ch T F1 (Wo R L) H G i d->Ch T F R H (λa=>G a\/F2 a\/L a) (λa=>i a\/L a) d:=λc=>#[λb o n m h=>c.keep b o (λz=>n<|O b z) m h,(ex c).new,λa h=>h.elim (λq=>(c.yo a q).elim (λz=>.inl<|O a z) .inr) λq=>.inl<|q.elim (S a)<|k a,λa h n=>.inl<|c.left a ⟨h,λz=>n<|k a z⟩ λz=>n<|O a z];have ae:∀{G i:Rg} {d:Hp},Ch T F1 (Wo R L) H G i d->∀a,F2 a->i a:=λc a f=>c.left a #[s.sub a<|S a f,λz=>t.KU a f z] λz=>t.Jq a z f
 have af:∀{G i:Rg} {d:Hp},Ch T F1 (Wo R L) H G i d->(∀a,i a->d a≠none)->∀a,i a\/L a->d a≠none:=λc h a z=>z.elim (h a) λq=>by
  cases e:H a with
  |none=>exact iv e<|s.xP a<|s.sub a<|k a q
  |some o=>rw[c.keep a o (λz=>t.KR a z q) (λz=>s.wd<|by rw[<- z];exact k a q) e];simp
 refine#[F1,Wo R L,p,_,_,s1,hw,λx r v M1 N i d q c j n=>?_,λC y r Y i d q c j=>?_]
 ·have U:=nF c;have kl:=A c;have I:=ch c;refine kn x _ v M1 (λa=>N a\/F2 a\/L a) (λa=>i a\/L a) d q #[I.keep,I.AU,λa h=>I.yo a<|h.elim (λz=>.inl<|.inl z) λz=>z.elim 157 .inr,I.left] ⟨km b l N F2 L _ _ d r (Lb.fs M kl j.rel) (fr c) (A c) ⟨λ_=>Iff.rfl,λa m f=>U a (.inr m)<|.inl f,λa m f=>U a (.inr m)<|.inr f,t.KU⟩,λa h=>h.elim (λz=>.inl<|j.sub a z) λz=>z.elim (λq=>.inl<|ae c a q) .inr,af c j.xP,j.tab,.inl j.wx,λh=>h.elim j.wd λz=>z.elim (λq=>s.wd<|S T q) λq=>s.wd<|k T q⟩ ⟨Lb.fr J kl n.is,λa m=>.inl<|n.sub a m,λa m z=>z.elim (n.yU a m) λz=>U a (.inl m) z,n.tab⟩
 ·have U:=nF c;have kl:=A c;exact ke C y _ (λa=>Y a\/F2 a\/L a) (λa=>i a\/L a) d q (ch c) #[km b l Y F2 L _ _ d r (Lb.fs M kl j.rel) (fr c) (A c) #[λ_=>Iff.rfl,λa m f=>U a m<|.inl f,λa m f=>U a m<|.inr f,t.KU],λa h=>h.elim (λz=>.inl<|j.sub a z) λz=>z.elim (λq=>.inl<|ae c a q) .inr,af c j.xP,j.tab,.inl j.wx,λh=>h.elim j.wd λz=>z.elim (λq=>s.wd<|S T q) λq=>s.wd<|k T q]
def Q6{P j B o:Type}[Sls P][Sls j][Sls B][Ow o]{mrg:B->j->D}{wf:Wf P o j}{F R F1 F2:Rg}{H:Hp}{b:B}{p:P}{σ:St}{r:List V}{Kn:o->D->Prop}{Ke:hO->D->Prop}{Q:VK}
  (s:Std T F R H) (t:Ek F F1 F2) (I:rel F1 R H p (r.map some)) (J:rel F2 R H b σ) (M:∀k m n e c d f,rel m c d f (r.map some)->rel n c d k σ->Ek e m n->rel e c d (mrg k f) σ)
  (hw:wf p (λx f=>Kn x<|mrg b f) (λC f=>Ke C<|mrg b f))
  (N:∀x i v w u h g,Kn x i->Ch T F R H (λa=>w a\/u a) h g->wG T u h g i σ->Nw T w u h g x v->Q v g)
  (O:∀C y i A h g,Ke C i->Ch T F R H A h g->wG T A h g i σ->E (.ref C) ↑y g):zh T wf r H Q E :=
 Fq (Lc:=Unit) (L:=λ_=>False) (l:=()) (us:=[]) (mrg:=λb _ p=>mrg b p) s #[λa=>(t.all a).trans #[λz=>z.elim .inl λq=>.inr<|.inl q,λz=>z.elim .inl λq=>q.elim .inr iV],t.yU,λ_ _ z=>z,λ_ _ z=>z] (Sls.wk I<|DE _ _ _) J ⟨rfl,λ_ z=>z⟩
  (λk _ m n X e c d f S U W G=>M k m n e c d f S U #[λa=>(G.all a).trans #[λz=>z.elim .inl λq=>q.elim .inr λq=>iv q<|W.2 a,λz=>z.elim .inl λq=>.inr<|.inl q],G.Jq]) hw N O
def CV{P i B o r:Type}[Sls P][Sls i][Sls B][Sls o][Ow r][Lb o r i]{j:B->o->i->D}{S:Wf P r i}{U:D->(P->B->o->Prop)->72->Prop}{k:Nat}{Y:List Str}{m:List i8}
 (F:wn X.prog X.w X.K X.mg X.base 114 k f fd Y (zh T S)) (hr:wZ k X.A) (hg:Gl X x) (hm:X.mg x=↑(.ref f)) (hk:jA X.K (.ref f)=true) (hb:Binds X.K fd Y []) (hx:Passes 114 X E)
 (ha:LH X E T (e::m) j U) (u:(x==66)=false:=by decide) (he:hV (e::m) X.env=71::hV m X.env:=by rfl) (z:(jz pos<|hV m X.env).any (·.1)=false:=by rfl) :
    EO X E T (.Call (.Name x p) (e::m) [] pos) (cC U S j):=by
  refine e1a2 ha λt a1 a2=>?_
  refine#[_,Uu F hr hg hm hk hb .nil hx a1 u he z,λd F' R σ H Kn Ke Q s hw kn Z=>?_]
  refine a2 d F' R σ H _ Ke _ s hw (λp b l vs us F1 F2 L G R' H' q c I tw h1 h2 h3 km=>?_) Z
  rw[lR]
  exact Fq I tw h1 h2 h3 km q (λx J v M1 M2 a g M N h n=>kn x J v M1 M2 a g M (Ch.trans s I.tab c N) h n) λC y J O a g M N h=>Z C y J O a g M (Ch.trans s I.tab c N) h
class Obj(τ:Type)[Ow τ](K:hJ)(C:hO)(m:Str):Prop where
 ob:∀{F R:Rg} {H:Hp} {x:τ} {v:V},sl F R H x ↑v->∃a dx fs,v=.ref a/\H a=↑(.ins C dx fs)/\fs.lookup m=none
end
section
variable{D PO τ:Type}[Sls D][Sls PO][Ow τ]{α:Type}[Rep α]
def zC{F:Rg}:Ext (λc=>c=a) R H R (upd H a o):=#[λb u n h=>by rw[vB n];exact h,λ_ h=>.inl h]
def AB{i:Nat}{D0:Type}[Sls D0][A:At i D (OL α) D0][U:Pt i D0 (OL α) D]{F R:Rg}{H:Hp}{d:D}{σ:St}(s:wG T F R H d σ):∃a vs,σ[i]?=↑(some<|.ref a)/\H a=↑(.lst vs)/\Paired (rp R H) (A.get d).l vs /\
  ∀(ys:List α)(us:List V),Paired (rp R H) ys us->Ch T F R H F R (upd H a<|.lst us)/\wG T F R (upd H a<|.lst us) (U.put (A.hole d) #[ys]) σ:=by
 obtain⟨v,F1,F2,h1,h2,⟨a,vs,rfl,h4,h5,h6⟩,h7⟩:=A.take s.rel;have aF:F a:=(h2.all a).mpr<|.inl<|(h4 a).mpr rfl;have aT:a≠T:=λz=>s.wd (by rw[<- z];exact aF);refine#[a,vs,h1,h5,h6,λys us hp=>?_];have ex:=zC (F:=F) (R:=R) (H:=H) (a:=a) (o:=.lst us);have gs:∀c,c=a->R c:=λc z=>by rw[z];exact s.sub a aF
 have k:∀b u,b≠a->H b=↑u->upd H a (.lst us) b=↑u:=λb u z e=>by rw[vB z];exact e
 refine#[#[λb o n _ e=>k b o (λz=>n<|by rw[z];exact aF) e,λ_ h=>.inl h,λ_ h=>.inl h,λ_ h _=>h],Pt.same (A:=U) (Sls.st h7 ex gs λc z q=>h2.yU c ((h4 c).mpr q) z) h1 h2 #[a,us,rfl,h4,vF,wT (ex.wide gs) hp],s.sub,λc z=>?_,?_,s.wx,s.wd]
 ·by_cases e:c=a
  ·rw[e,vF];simp
  ·rw[vB e];exact s.xP c z
 ·refine e1a2 s.tab λps e t=>?_;exact#[ps,k _ _ (λz=>aT z.symm) e,t]
def xY{x:Str}{e:i8}(i:Nat){p1 p2 p3:Pos}{D0:Type}[Sls D0][A:At i D (OL α) D0][U:Pt i D0 (OL α) D][J:Pj D PO n]{we:Wf D α D}(h:EW X E T e we)
  (hb:∀{t:TA},PA X [e] t->PS X (.Expr (.Call (.Attribute 161 "append" p2) [e] [] p3) pos) (GI<|tBM X.K "list" Hy (v9 i) t):=by exact λh=>CD<|W3 oP PySem.F.slot_list_append PySem.F.type_list_append Ov (pv _) h) (hs:hV [e] X.env=71::hV [] X.env:=by rfl) :
  S1 X E T ms n (.Expr (.Call (.Attribute 161 "append" p2) [e] [] p3) pos) (cS we J.pj λ(Kn:D->Prop)(Kr:τ->PO->Prop) y d'=>(A.get d').l.length<hZ/\Kn (U.put (A.hole d') #[(A.get d').l++[y]])):=by
 refine e1a2 h λt h1 h2=>?_;refine#[_,hb<|vI h1 vU hs,λd F R σ H Kn Kr Ke En s hw kn kr ke=>?_];refine e2a4 (AB (i:=i) s) λa vs g1 g2 g3 _=>?_;refine#[_,g1,.inl #[rfl,vs,wR.of g2],h2 d F R σ H _ _ _ s hw (λy d' v F' R' H' q c s' r=>?_) λC y d' F' R' H' q c s'=>?_]
 ·refine e2a4 (AB (i:=i) s') λa' U6 k1 k2 k3 k4=>?_;rw[g1]at k1;cases k1;obtain⟨c2,s2⟩:=k4 _ _<|yE k3<|.cons r .nil;exact#[a,U6,v,rfl,rfl,k2,by rw[<- Paired.length k3];exact q.1,kn _ F' R' _ σ q.2 (Ch.trans s s'.tab c c2) s2<|Ag.refl _ _]
 ·refine e1a2 (wN (PO:=PO) s') λG g1 g2=>?_;exact ke C y _ G R' H' q (c.less g1) g2
end
def GW(X:Cx)(T:hO)(ms:List Nat)(tg:i8){D D1 α:Type}[Sls D][Sls D1][Rep α](g:D->α->D1):Prop :=
 ∃t,PG X tg t/\∀(d:D)(F R:Rg)(σ:St)(H:Hp)(x:α)(v:V)(Q:St->Hp->Prop),wG T F R H d σ->rp R H x v->(∀F' σ',(∀a,F' a->F a)->wG T F' R H (g d x) σ'->Ag ms σ σ'->Q σ' H)->t v σ H Q
section
variable{D:Type}[Sls D]{α β:Type}[Rep α][Rep β]
def LI{i:Nat}{τ0 D0 D1:Type}[Ow τ0][Sls D0][Sls D1][A:At i D τ0 D0][U:Pt i D0 α D1]{F R:Rg}{H:Hp}{d:D}{σ:St}{x:α}{v:V}(s:wG T F R H d σ)(r:rp R H x v) :
  ∃F',(∀a,F' a->F a)/\wG T F' R H (U.put (A.hole d) x) (σ.set i<|↑v):=by
 have m:Nw T (λ_=>False) F R H x v:=#[#[λ_ z=>z,v,rfl,r],λ_ z=>z.elim,λ_ z=>z.elim,λz=>z];refine e1a2 (Fi (i:=i) s m) λG g1 g2=>?_;exact#[G,λa h=>(g1 a h).elim (λz=>z.elim) id,g2]
def v8{x:Str}(i:Nat){τ0 D0 D1:Type}[Ow τ0][Sls D0][Sls D1][A:At i D τ0 D0][U:Pt i D0 α D1](hp:PG X 94 (CF i))(hm:i∉ms:=by decide):GW X T ms 94 (λ(d:D)(x:α)=>U.put (A.hole d) x) :=
 #[_,hp,λd F R σ H x v Q s r k=>by
  refine e1a2 (LI (i:=i) s r) λF' f1 f2=>?_
  exact k F' _ f1 f2 (Ag.set hm)]
def BN(i j:Nat)[Ow b][Ow c][Sls e][Sls f][Sls g][Sls m][A:At i D b e][U:Pt i e α f][n:At j f c g][o:Pt j g β m](p:PG X q (X6 X.K 2<|GJ (CF i)<|GJ (CF j) X5))(t:i∉l)(y:j∉l) :
  GW X T l q (λ(d:D)(x:α×β)=>o.put (n.hole<|U.put (A.hole d) x.1) x.2) :=
 #[_,p,λd F R M H x v Q s r k=>by
  obtain⟨a,u,w,rfl,_,z,B,C⟩:=r;refine e1a2 (LI (i:=i) s B) λN E G=>?_;refine e1a2 (LI (i:=j) G C) λI J L=>?_
  exact#[a,[u,w],rfl,zX.of z,rfl,u,[w],rfl,w,[],rfl,rfl,k I _ (λa h=>E a (J a h)) L ((Ag.set t).trans (Ag.set y))]]
end
structure Z1{α:Type}[Rep α](J:It)(xs:List α)(Ps:Rg->Hp->Prop):Prop where
 go:∀{R:Rg} {H:Hp} {i:Nat},Ps R H->i<xs.length->J.go i H
 Jo:∀{R:Rg} {H:Hp} {i:Nat} {v:V} {H':Hp},Ps R H->(∀a,R a->H a≠none)->i<xs.length->J.Jo i H v H'->(H'=H\/∃p o,H p=none/\H'=upd H p o)/\∃x,xs[i]?=↑x/\rp R H' x v
 stop:∀{R:Rg} {H:Hp},Ps R H->J.stop xs.length H
def IW(X:Cx)(E:XK)(T:hO)(O:List Nat)(P e:i8){D B o:Type}[Sls D][Sls B][Rep o](k:B->List o->D)(w:D->(List o->B->Prop)->72->Prop):Prop :=
 ∃t,PI X P e t/\∀(d:D)(F R:Rg)(l:St)(H:Hp)(s:List o->B->Prop)(u:hO->D->Prop)(v:It->Hp->Prop),wG T F R H d l->w d s u ->
  (∀p b J m j q x f c,s p b->Ch T F R H j f c->Std T j f c->Ek j q x->rel x f c b l->Z1 J p m->m f c ->
   (∀{G r z:Rg} {A I:Hp},m r A->(∀a,G a->r a)->(∀a,q a->¬G a)->Ext G r A z I->m z I) ->
   (∀L M n g h i,m g h->rel M g h L i->Ag O l i->Ek n q M->rel n g h (k L p) i)->v J c) ->
  (∀C y N j f c,u C N->Ch T F R H j f c->wG T j f c N l->E (.ref C) ↑y c)->t l H v
section
variable{D:Type}[Sls D]{α β:Type}[Rep α][Rep β]
def CW{K:hJ}{xs:List α}{vs:List V}:Z1 (ZS K a) xs (λR H=>H a=↑(.lst vs)/\Paired (rp R H) xs vs) where
 go:=λ{R H i} p h=>by refine e1a2 (xD (i:=i) (x:=xs[i]) p.2<|by simp[h]) λv e _=>?_;exact#[vs,v,wR.of p.1,e]
 Jo:=λ{R H i v H'} p _ hi y=>by obtain⟨e,y⟩:=y;subst e;have y':=y vs<|wR.of p.1;refine e1a2 (xD (i:=i) (x:=xs[i]) p.2<|by simp[hi]) λu e r=>?_;rw[y']at e;cases e;exact#[.inl rfl,_,by simp[hi],r]
 stop:=λ{R H} p=>#[vs,wR.of p.1,by rw[Paired.length p.2];exact hW _]
def xq{w:Wf D (List α) D}(h:EW X E T e w):IW X E T is tg e (λ(b:D)(_:List α)=>b) w:=by refine e1a2 h λt h1 h2=>?_;refine#[_,Hu h1,λd F R σ H Kn Ke Rk s hw kn ke=>h2 d F R σ H _ _ _ s hw (λxs d' v F' R' H' q c s' r=>?_) ke];obtain⟨a,vs,rfl,r1,r2,r3⟩:=r;refine#[a,rfl,#[vs,wR.of r2],kn xs d' _ (λR H=>(H a=↑(.lst vs)/\Paired (rp R H) xs vs)/\¬R a) F' (λ_=>False) F' R' H' q c s'.Uf (two_nil F') s'.rel #[λp=>CW.go p.1,λp=>CW.Jo p.1,λp=>CW.stop p.1] #[#[r2,r3],r1] (λp gs nf ex=>?_) λb' G2 Xg KP Q2 σ' p h g t=>Sls.fq h<|two_eq t λ_ z=>z];have na:¬_:=λz=>p.2<|gs a z;exact#[#[ex.keep a _ na p.1.1,wT (ex.wide gs) p.1.2],ex.not p.2 p.1.1]
def HX{x:Str}(i:Nat){B:Type}[Sls B][A:At i D (OL α) B][U:Pt i B (OL α) D](hn:PE X 94 (v9 i))(hi:i∈is):IW X E T is tg 94 (λ(b:B)(xs:List α)=>U.put b #[xs]) (λ(d:D)(Kn:List α->B->Prop) _=>Kn (A.get d).l<|A.hole d):=by refine⟨_,Hu hn,λd F R σ H Kn Ke Rk s hw kn ke=>?_⟩;obtain⟨v,F1,F2,h1,h2,⟨a,vs,rfl,h4,h5,h6⟩,h7⟩:=A.take s.rel;refine#[_,h1,a,rfl,#[vs,wR.of h5],kn _ _ _ (λR H=>H a=↑(.lst vs)/\Paired (rp R H) (A.get d).l vs) F F1 F2 R H hw 61 s.Uf h2 h7 CW #[h5,h6] (λp gs nf ex=>#[ex.keep a _ (nf a<|(h4 a).mpr rfl) p.1,wT (ex.wide gs) p.2]) λb' G2 Xg KP Q2 σ' p h g t=>?_];exact Pt.same (A:=U) h (by rw[g.2 i hi];exact h1) t #[a,vs,rfl,h4,p.1,p.2]
noncomputable def Aj(a b:Int):List Int:=(iG (b-a).toNat).map λ(i:Nat)=>a+(i:Int)
def xG(a b:Int):(Aj a b).length=(b-a).toNat:=by unfold Aj;rw[h8,l6]
def U7{a b:Int}{i:Nat}(h:i<(b-a).toNat):(Aj a b)[i]?=↑(a+(i:Int)):=by unfold Aj;rw[jU,ut h];rfl
def G7{lo hi:Int}:Z1 (X9 lo (hi-lo).toNat) (Aj lo hi) (λ_ _=>True) where
 go:=λ{R H i} _ h=>by rw[xG]at h;exact h
 Jo:=λ{R H i v H'} _ _ hi y=>by obtain⟨e,y⟩:=y;subst e y;rw[xG]at hi;exact#[.inl rfl,_,U7 hi,rfl]
 stop:=λ{R H} _=>by rw[xG];exact hW _
def xZ(m:Gl X "range")(n:X.mg "range"=none)(o:EW X E T a u)(w:hV [a] X.env=78::hV [] X.env:=by rfl)(e:hV [a] X.env=[78]:=by rfl) :
  IW X E T is P (.Call (.Name "range" p) [a] [] pos) (λ(b:D)(_:List Int)=>b) (cK u λk j f=>(-(2 ^ 62)<=j/\j<2 ^ 62)/\k (Aj 0 j) f):=by
 refine e1a2 o λt x y=>?_;refine#[_,Oj m n (vI x vU w) e,λd F R A H k Q S s B C G=>y d F R A H _ _ _ s B (λj f v i I J q c l r=>?_) G];subst r;refine#[j,rfl,q.1.1,q.1.2,?_];have:=C (Aj 0 j) f (X9 0 (j-0).toNat) (λ_ _=>True) i (λ_=>False) i I J q.2 c l.Uf (two_nil i) l.rel G7 trivial (λ_ _ _ _=>trivial) λU W L M N O p h g t=>Sls.fq h<|two_eq t λ_ z=>z;rw[Int.sub_zero]at this;exact this
def OU(hg:Gl X "range")(hm:X.mg "range"=none)(L:EW X E T a M)(N:EW X E T b O)(m:∀{A:TA},PA X [a,b] A->PI X P (.Call (.Name "range" p) [a,b] [] pos) (WU A))
 (Q:hV [a,b] X.env=78::hV [b] X.env:=by rfl) (n:hV [b] X.env=(false,eval b X.env)::hV [] X.env:=by rfl) :
    IW X E T is P (.Call (.Name "range" p) [a,b] [] pos) (λ(b:D)(_:List Int)=>b) (cB M O λi B j e=>(-(2 ^ 62)<=i/\i<2 ^ 62/\-(2 ^ 62)<=j/\j<2 ^ 62)/\B (Aj i j) e):=by
  obtain⟨t,S,U⟩:=L
  obtain⟨tb,W,Y⟩:=N
  refine#[_,m<|vI S (vI W vU n) Q,λd F R G H B Ke Rk s Z kn I=>U d F R G H _ _ _ s Z (λi d1 u F1 R1 H1 q1 J o r1=>?_) I]
  refine Y d1 F1 R1 G H1 _ _ _ o q1 (λj e v f w x q c l r=>?_) λC y e f w x k c l=>I C y e f w x k (Ch.trans s o.tab J c) l
  subst r;subst r1
  exact#[i,j,rfl,q.1,kn (Aj i j) e (X9 i (j-i).toNat) (λ_ _=>True) f (λ_=>False) f w x q.2 (Ch.trans s o.tab J c) l.Uf (two_nil f) l.rel G7 trivial (λ_ _ _ _=>trivial) λb' G2 aa ab ae af p h g t=>Sls.fq h<|two_eq t λ_ z=>z]
end
def LJ{α B PO τ:Type}(b:α->B->(B->Prop)->99->87->Prop):List α->B->(B->Prop)->99->87->Prop
 | [],d,Kn,_,_=>Kn d
 |x::xs,d,Kn,Kr,Ke=>b x d (λd'=>LJ b xs d' Kn Kr Ke) Kr Ke
section
variable{D B D1 D2 PO τ α:Type}[Sls D][Sls B][Sls D1][Sls D2][Sls PO][Ow τ][Rep α]
def Ch.big(c:Ch T F R H d e f)(g:∀a,F a->G a):Ch T G R H d e f:=#[λb o n m h=>c.keep b o (λz=>n<|g b z) m h,c.AU,λa h=>(c.yo a h).elim (λz=>.inl<|g a z) .inr,λa h n=>c.left a h λz=>n<|g a z]
def Ch.Q7(t:Ek F F1 d)(c:Ch T d R H e f g):Ch T F R H (λa=>F1 a\/e a) f g:=#[λb o n m h=>c.keep b o (λz=>n<|(t.all b).mpr<|.inr z) m h,c.AU,λa h=>h.elim (λz=>.inl<|(t.all a).mpr<|.inl z) λz=>(c.yo a z).elim (λz=>.inl<|(t.all a).mpr<|.inr z) .inr,λa h n=>c.left a h λz=>n<|(t.all a).mpr<|.inr z]
def Ch.trans'{j:Rg}{i k:Hp}(s:Std T F R H)(m:TabAt i T)(a:Ch T F R H l p i)(b:Ch T l p i r j k):Ch T F R H r j k:=by
 have f:∀c,¬F c->H c≠none->¬l c:=λc n h z=>by
  rcases a.yo c z with q|q
  ·exact n q
  ·exact h q
 have d:∀c,i c=none->¬(F c)->H c=none:=λc h n=>by
  cases e:H c with
  |none=>rfl
  |some o =>
   have u:c≠T:=λz=>by rw[z]at h;exact Ac m h
   rw[a.keep c o n u e]at h;cases h
 refine#[λc o n t h=>b.keep c o (f c n<|by rw[h];simp) t<|a.keep c o n t h,λc h=>?_,λc h=>?_,λc h n=>b.left c (a.left c h n)<|f c n<|s.xP c h]
 ·rcases b.AU c h with q|q
  ·exact a.AU c q
  ·by_cases g:F c
   ·exact .inl<|s.sub c g
   ·exact .inr<|d c q g
 ·rcases b.yo c h with q|q
  ·exact a.yo c q
  ·by_cases g:F c
   ·exact .inl g
   ·exact .inr<|d c q g
def drop_cons{α:Type}{a:List α}{i:Nat}{x:α}(h:a[i]?=↑x):a.drop i=x::a.drop (i+1):=by have b:=(List.getElem?_eq_some_iff.mp h);rw[oE b.1,b.2]
def Ag.sub(a:Ag c d b)(h:∀i∈e,i∈c):Ag e d b:=#[a.1,λi f=>a.2 i<|h i f]
@[reducible] def cF{D B D1 D2 α τ PO:Type}(w:D->(List α->B->Prop)->72->Prop)(v:D1->(D2->Prop)->99->87->Prop)(g:B->α->D1)(k:B->List α->D)(f:D2->B)(j:D->PO):D->(D->Prop)->99->87->Prop:=λd i c a=>w d (λh b=>LJ (λx b e c a=>v (g b x) (λl=>e<|f l) c a) h b (λm=>i<|k m h) c a) λC n=>a C<|j n
def xW{I:B->List α->D}{wi:D->(List α->B->Prop)->72->Prop}{g:B->α->D1}{wb:D1->(D2->Prop)->99->87->Prop}[Gf:Fg D2 B][J:Pj D PO n](dp:QY PO ms n)(hp:sg 54 X.A X.env X.xe)(hc:X.calm=true)
 (hi:IW X E T is tg iter I wi) (hg:GW X T mb tg g) (hb:SW X E T mb n body wb) (h1:∀i∈ms,i∈mb) (h2:∀i∈is,i∈mb) (hs:∀x,kO iter X.env x=pure x:=by intro _;rfl) :
    S1 X E T ms n (.For tg iter body [] pos) (cF wi wb g I Gf.fg J.pj):=by
  refine e1a2 hi λti i1 i2=>?_
  refine e1a2 hg λaq g1 g2=>?_
  refine e1a2 hb λtb Q b2=>?_
  refine#[_,P9 hp hc i1 g1 Q hs,λd F R σ H Kn Kr Ke En s hw kn kr ke=>?_]
  refine i2 d F R σ H _ _ _ s hw (λS b Jt Ps F' U F2 R' H' q c s' tw hr ip ps pk pb=>?_) λC y d' F' R' H' q c s'=>?_
  · -- the an
    refine#[λi m l N=>m=S.length-i/\i<=S.length/\∃Q G r j,Ch T F' R' H' G j N/\Std T G j N/\Ek G U r/\rel r j N Q l/\Ps j N/\Ag mb σ l/\LJ (λx b aa Kr Ke=>wb (g b x) (λd2=>aa (Gf.fg d2)) Kr Ke) (S.drop i) Q (λb'=>Kn (I b' S)) Kr Ke,
      #[_,rfl,js _,b,F',F2,R',Ch.refl _ _ _ _,s',tw,hr,ps,Ag.refl _ _,q],?_]
    rintro i m l N ⟨rfl,hi,Q,G,r,j,c1,O,W,r1,p1,a1,w1⟩
    have cc:=Ch.trans s s'.tab c c1
    by_cases ab:i<S.length
    · refine .inr #[ip.go p1 ab, λae L => ∃b2 G2 ag R2, Ch T F' R' H' G2 R2 L /\ Std T G2 R2 L /\ Ek G2 U ag /\ rel ag R2 L b2 ae /\ Ps R2 L /\ Ag mb σ ae /\ LJ (λx b aa Kr Ke => wb (g b x) (λd2 => aa<|Gf.fg d2) Kr Ke) (S.drop<|i+1) b2 (λb' => Kn<|I b' S) Kr Ke, λae L p => #[S.length-(i+1), by omega, rfl, ab, p], λx L y => ?_]
      obtain⟨hH,x',ex,rx⟩:=ip.Jo p1 O.xP ab y
      -- the ao af the Y step
      have ai:Ch T G j N G j L/\Std T G j L/\rel r j L Q l/\Ps j L:=by
        rcases hH with e|⟨p,o,hp,e⟩
        · subst e; exact#[Ch.refl _ _ _ _, O, r1, p1]
        · subst e
          have k:∀b u,N b=↑u->upd N p o b=↑u:=λb u e=>by rw[vB<|vM e hp];exact e
          have ex:Ext (λ_=>False) j N j (upd N p o):=#[λb u _ e=>k b u e,λa h=>.inl h]
          refine#[#[λb u _ _ e=>k b u e,λa h=>.inl h,λa h=>.inl h,λa h _=>h],#[O.sub,λa z=>?_,?_,O.wx,O.wd],Sls.st r1 ex 121<|λ_ _ z=>z,pk p1 121 (λ_ _ z=>z) ex]
          · cases e : N a with
            |none=>exact iv e<|O.xP a z
            |some u=>rw[k a u e];simp
          · refine e1a2 O.tab λqs e t => ?_
            exact#[qs,k _ _ e,t]
      obtain⟨c2,M,r2,p2⟩:=ai
      have P:∀a,r a->G a:=λa h=>(W.all a).mpr<|.inr h
      have S2:wG T r j L Q l:=#[r2,λa h=>M.sub a<|P a h,M.xP,M.tab,M.wx,λh=>M.wd<|P T h]
      rw[drop_cons ex]at w1
      refine g2 Q r j l L x' x _ S2 rx λF3 aj f3 S3 a3=>?_
      have ah:=Ch.trans' s' O.tab c1 c2
      have Z:=Ch.trans s s'.tab c ah
      have t3:∀a,U a->F3 a->False:=λa h k=>W.yU a h<|f3 a k
      refine b2 _ F3 j aj L _ Kr Ke _ S3 w1 (λd2 F4 R4 H4 ar q4 c4 f a4=>?_) (λx p' v M1 M2 R4 H4 q4 c4 f n4=>?_) λC y p' F4 R4 H4 q4 c4 f=>?_
      · refine e1a2 (Gf.le f.rel) λF5 f5 r5 => ?_
        have t4:∀a,U a->F4 a->False:=λa h k=>by
          rcases c4.yo a k with z|z
          · exact t3 a h z
          · exact M.xP a (M.sub a<|(W.all a).mpr<|.inl h) z
        have ak:Ch T G j L (λa=>U a\/F5 a) R4 H4:=(Ch.Q7 (F1:=U) (F:=λa=>U a\/F3 a) #[λ_=>Iff.rfl,t3]<|c4.less f5).big λa h=>h.elim (λz=>(W.all a).mpr<|.inl z) λz=>P a<|f3 a z
        have al:∀a,U a->R4 a:=λa h=>c4.left a (M.sub a<|(W.all a).mpr<|.inl h) λz=>t3 a h z
        refine#[Gf.fg d2,λa=>U a\/F5 a,F5,R4,Ch.trans' s' M.tab ah ak,#[λa h=>h.elim (al a) λz=>f.sub a<|f5 a z,f.xP,f.tab,f.wx,λh=>h.elim (λz=>M.wd<|(W.all T).mpr<|.inl z) λz=>f.wd<|f5 T z],⟨λ_=>Iff.rfl,λa h k=>t4 a h<|f5 a k⟩,r5,?_,(a1.trans a3).trans a4,q4]
        exact pk p2 (G:=λa=>F3 a\/a=T) (λa h=>h.elim (S3.sub a) λz=>by rw[z];exact M.wx) (λa h z=>z.elim (t3 a h) λz=>M.wd<|(W.all T).mpr<|.inl<|by rw[<- z];exact h) c4.ext
      · refine kr x p' v M1 M2 R4 H4 q4 (Ch.trans s M.tab Z<|c4.big λa h => P a<|f3 a h) #[dp.dp ((a1.trans a3).sub h1) f.rel, f.sub, f.xP, f.tab, f.wx, f.wd] n4
      · exact ke C y p' F4 R4 H4 q4 (Ch.trans s M.tab Z<|c4.big λa h => P a<|f3 a h) #[dp.dp ((a1.trans a3).sub h1) f.rel, f.sub, f.xP, f.tab, f.wx, f.wd]
    · have e : i = S.length := by omega
      subst e
      rw[vq]at w1
      exact .inl #[ip.stop p1,kn _ G j N l w1 cc #[pb Q r G j N l p1 r1 (a1.sub h2) W,O.sub,O.xP,O.tab,O.wx,O.wd]<|a1.sub h1]
  · refine e1a2 (wN (PO := PO) s') λG g1 g2 => ?_
    exact ke C y _ G R' H' q (c.less g1) g2
end
end WL
namespace L2
open PySem PySem.Spec PyProof.Rows
section
variable{X:Cx}{elt iter tg:i8}{scope:mi}{cl:List (Str×hO)}{T Fr:List Str}{idx:List Nat}{wi:TI}{pos:Pos}{ifs:List i8}
def D9{pins:List (hO×Obj)}{σ:St}{s2:h9}{H2:Hp}{J:It}{fp:List hO}{it:hO}{tn:Nat->jd->Prop}{E:hR->h9->Prop}{RR:hR->hO->Result->h9->Prop}{P:List V->Hp->Prop}(hcm:X.calm=true)
  (B:zQ X scope cl T Fr idx) 
  (I2:Inv X pins σ H2 s2) (Tn:Turn X.prog X.w X.K tg J fp it tn) (st2:tn 0 s2.heap) (f2:∀b∈fp,Cg X pins H2 b)
  (hb:∀s₀ H₀ C ex pn,∃(g:TG)(tt:TT)(te:TE),(PG (Gg X scope cl (T++Fr) s₀ H₀ C ex pn) tg g/\YC (Gg X scope cl (T++Fr) s₀ H₀ C ex pn) ifs tt/\PE (Gg X scope cl (T++Fr) s₀ H₀ C ex pn) elt te)/\∃W:Nat->Nat->List V->St->Hp->Prop,(∃m,W 0 m [] (yd T idx σ) H2)/\∀i m ys σ' H,W i m ys σ' H->(J.stop i H/\P ys H)\/(J.go i H/\ys.length<hZ/\∀x H',J.Jo i H x H'->g x σ' H' λYV H2=>tt YV H2 λb H3=>if b=true then te YV H3 λy H4=>∃m',m'<m/\W (i+1) m' (ys++[y]) YV H4 else ∃m',m'<m/\W (i+1) m' ys YV H3))
  (hRR:∀(D C:hO)(s':h9)(H':Hp)(ys:List V),H' D=none->P ys H'->Inv X pins σ (upd H' D<|.lst ys) s'->(∃m,s'.heap.Ns C m)->(upd H' D<|.lst ys) C=none->C≠X.env.locals->X.s₀.heap.objs.size<=C->(∀x c,X.env.cells.lookup x=↑c->c≠C)->(∀p∈X.pn++pins,p.1≠C)->RR (.ref D) C (.ok .next) s') :
  ii 54 X.A (newList []) (λacc a25=>ii 54 X.A (newFunctionEnv scope X.env.globals cl [] X.env.qual none .none ↑X.env) (λcenv a26 =>
   mI 54 X.A (.compStart 109 0 (.ref it) acc { cenv with scope:=pq scope X.env}) (RR acc cenv.locals) a26) E a25) E s2:=by
 refine je<|wpAny_newFunctionEnv B.Ct (by intro y hy;simp at hy) (λh4 ns4 sb4=>?_) B.kind;have hk3:∀b o,s2.heap.get? b=↑o->(s2.heap.push 81).get? b=↑o:=λb o e=>ci _ e;have oD3:(s2.heap.push 81).get? ⇑s2=some 81:=iq _ rfl;have sz3:(s2.heap.push 81).objs.size=⇑s2+1:=jR _ _;generalize s2.heap.push 81=h3 at ns4 sb4 hk3 oD3 sz3 ⊢;have I3:Inv X pins σ H2 { s2 with heap:=h3}:=I2.kept (t':=s2.toks) hk3;have Q8:H2 ⇑s2=none:=I2.wy.fresh<|hW _;have YW:∀b o,h3.get? b=some o->h4.get? b=some o:=λb o e=>sb4.extBut b o (iz<|ie e)<|ci _ e;have Q9:H2 h3.objs.size=none:=I3.wy.fresh<|hW _;have a0T:⇑s2≠h3.objs.size:=by rw[sz3];exact iz<|jP _
 -- facts about D,C,fp in X
 have fD:Cg X pins H2 ⇑s2:=I2.Ht (hW _) Q8;have fC:Cg X pins H2 h3.objs.size:=I3.Ht (hW _) Q9
 have J0:∀b∈⇑s2::fp,Cg X pins H2 b/\b≠h3.objs.size:=λb Ae=>by
  rcases List.mem_cons.mp Ae with e|e
  ·subst e;exact#[fD,a0T]
  ·refine#[f2 b e,?_];obtain⟨o,ho,_⟩:=Tn.obj 0 _ st2 b e;exact iz<|ie<|hk3 b o ho
 -- the a14 context
 generalize HY:Gg X scope cl (T++Fr) { s2 with heap:=h3} H2 h3.objs.size (⇑s2::fp) (X.pn++pins)=X';obtain⟨g,tt,te,⟨hG,hT,hE⟩,W,w0,turn⟩:=hb { s2 with heap:=h3} H2 h3.objs.size (⇑s2::fp) (X.pn++pins);rw[HY]at hG hT hE
 have ok':X'.Ok:=by
  subst HY
  exact {
   mod:=I3.ok.mod
   kind:=B.kind
   glob:=I3.ok.glob
   blt:=I3.ok.blt
   above:=hW _
   inj:=λx y c e1 e2=>I3.ok.inj x y c (B.sub x c e1)<|B.sub y c e2
   has:=λx h=>B.has h
   PQ:=λx c h=>by cases h
   hd:=I3.ok.hd
   frames:=I3.ok.frames
   Ge:=.inl rfl
   Um:=λb Ae=>#[(J0 b Ae).2,λx c e=>(J0 b Ae).1.2.2.2.2.1 x c<|B.sub x c e]
   bs:=λb o e=>I3.bs b o e
   Jx:=i9 I3.ok.Jx I3.sz
   Eh:=λb o e Ae=>by
    rcases(J0 b Ae).1.2.2.2.1 with z|z
    ·exact I3.ok.Eh b o e z
    ·exact iv (iE (ie e)<|i9 I3.ok.Jx z)<|kh _
   EN:=λb Ae hf=>by
    rcases List.mem_cons.mp (I3.EQ b hf) with z|z
    ·exact(J0 b Ae).1.2.1 z
    ·exact(J0 b Ae).1.2.2.1 z
   zd:=I3.stack
   KO:=λb Ae=>I3.MX b Ae}
 have xA:X'.A=X.A:=by subst HY;rfl
 have xp:X'.prog=X.prog:=by subst HY;rfl
 have xw:X'.w=X.w:=by subst HY;rfl
 have xK:X'.K=X.K:=by subst HY;rfl
 have xc:X'.calm=true:=by subst HY;exact hcm
 have xe:X'.env=tW scope cl h3.objs.size X.env:=by subst HY;rfl
 have I4:Inv X' [] (yd T idx σ) H2 { s2 with heap:=h4}:=by
  have hN:X'.N=T++Fr:=by subst HY;rfl
  refine#[ok',by subst HY;rfl,I3.bare,by subst HY;exact Un.kept YW,?_,?_,by subst HY;exact Q9,?_,?_,?_,?_]
  ·obtain⟨m,hn,hl⟩:=I3.loc;refine#[_,by rw[xe];exact ns4,λi x v e1 e2 e3=>?_];rw[hN]at e1;unfold yd at e2;by_cases hi:i<T.length
   ·rw[mz (by rw[h8];exact hi),jU,jO hi]at e2;cases e2
   ·rw[ki q0a]at e1;rw[ki (by rw[h8];lia),h8,jU]at e2;obtain⟨i0,c,q1,q2,q3,q4,q5⟩:=B.fr _ x e1;rw[q1]at e2;have e2':(σ[i0]?).join=↑v:=jp e2
    have a27:σ[i0]?=↑(some v):=by
     cases z:σ[i0]? with
     |none=>rw[z]at e2';cases e2'
     |some y=>rw[z]at e2';have:y=↑v:=e2';rw[this]
    obtain⟨u,r,l⟩:=hl i0 x v q2 a27 (by
     rcases q3 with z|z
     ·exact .inr<|.inl z
     ·exact .inr (.inr z))
    refine#[u,r,?_];rcases l with⟨k,_⟩|⟨k,c',e,z⟩
    ·rcases q3 with y|y<;>(rw[y]at k;cases k)
    ·have:=B.sub x c q4;rw[e]at this;cases this;refine .inr #[by rw[xe];exact q5,_,by rw[xe];exact q4,?_];obtain⟨o,ho,hd⟩:=z;exact#[o,YW _ _ ho,hd]
  ·intro x c e;rw[xe]at e;obtain⟨v,o,ho,hd⟩:=I3.cell x c<|B.sub x c e;exact#[v,o,YW _ _ ho,hd]
  ·intro x c e;rw[xe]at e;exact I3.za x c<|B.sub x c e
  ·intro p hp;have hp':p∈X.pn++pins:=by subst HY;simpa using hp
   obtain⟨a1,a2,a3,a4,a5⟩:=I3.pin p hp';refine#[YW _ _ a1,a2,?_,?_,a5]
   ·rw[xe];exact iz<|ie a1
   ·subst HY;intro hf;rcases List.mem_cons.mp (I3.EQ _ hf) with z|z
    ·exact a3 z
    ·exact a4 z
  ·subst HY;exact I3.wy.kept YW
  ·rw[hN];unfold yd;rw[iw,iw,h8,h8,B.len]
 have oD4:=YW _ _ oD3;have st4:tn 0 h4:=Tn.keep _ _ _ st2 λb _ o e=>YW b o<|hk3 b o e
 -- a29 stays true of the YX objects and of D
 have a0U:∀{H':Hp} {pins':List (hO×Obj)},(∀p∈pins',p.1∉⇑s2::fp)->(∀b∈⇑s2::fp,H' b=none)->∀b∈⇑s2::fp,Cg X' pins' H' b:=by
  intro H' pins' hp hn b Ae;subst HY;obtain⟨⟨z1,z2,z3,z4,z5,z6⟩,z7⟩:=J0 b Ae;refine#[hn b Ae,z7,?_,.inl Ae,λx c e=>z5 x c<|B.sub x c e,λp hp'=>?_]
  ·intro hf;rcases List.mem_cons.mp (I3.EQ b hf) with z|z
   ·exact z2 z
   ·exact z3 z
  ·rcases List.mem_append.mp hp' with q|q
   ·exact z6 p q
   ·intro e;exact hp p q (by rw[e];exact Ae)
 -- the end
 have fin:∀(s5:h9)(PX:St)(H5:Hp)(ys:List V)(AV:List hR)(nD:Nat),Inv X' [] PX H5 s5->(∀b∈⇑s2::fp,H5 b=none)->s5.heap.get? ⇑s2=some 73->Vals ys AV->ys.length<=hZ->P ys H5->RR (.ref ⇑s2) h3.objs.size (.ok .next) s5:=by
  intro s5 PX H5 ys AV nD I5 n5 oD5 v5 l5 q5;have D5:=n5 _ ic;have YY:Un (zM X.stack) (⇑s2::fp) H2 H5 h3 s5.heap:=by have z:=I5.base;subst HY;exact z
  have C5:H5 h3.objs.size=none:=by have z:=I5.free;rw[xe]at z;exact z
  have a3a:yG X.prog X.w (upd H5 ⇑s2<|.lst ys) s5.heap:=yG.Xa (by have z:=I5.wy;rw[xp,xw]at z;exact z) D5 #[l5,AV,nD,v5,oD5]
  have u5:Un (zM X.stack) (⇑s2::fp) H2 (upd H5 ⇑s2<|.lst ys) h3 s5.heap:=by have nD':∀b u,H2 b=some u->b≠⇑s2:=λb u e=>vM e Q8;exact#[YY.keep,YY.slot,λb o e n hx=>by rw[vB<|λz=>hx<|by rw[z];exact ic];exact YY.free b o e n hx,YY.there,λb xs e=>by rw[vB<|nD' b _ e];exact YY.CC b xs e,λb o u e=>by rw[vB<|nD' b _ e];exact YY.Ca b o u e,λb ps e=>by rw[vB<|nD' b _ e];exact YY.Cb b ps e]
  have os5:s5.os=s2.os:=by have z:=I5.os;subst HY;exact z
  have IX:Inv X pins σ (upd H5 ⇑s2<|.lst ys) s5:=Inv.WP (s:={ s2 with heap:=h3}) I3 os5 u5 a3a I5.bare λb Ae=>by obtain⟨⟨z1,z2,z3,z4,z5,z6⟩,z7⟩:=J0 b Ae;exact#[z4,z2,z5,z6]
  obtain⟨m5,ns5,_⟩:=I5.loc;rw[xe]at ns5;refine hRR ⇑s2 h3.objs.size s5 H5 ys D5 q5 IX #[m5,ns5] (by rw[vB<|Ne.symm a0T];exact C5) fC.2.1 (i9 I3.sz<|hW _) fC.2.2.2.2.1 fC.2.2.2.2.2
 obtain⟨m0,w0⟩:=w0
 have loop:mI 54 X.A (.compLoop 109 0 (.ref it) (.ref ⇑s2)<|tW scope cl h3.objs.size X.env) (RR (.ref ⇑s2) h3.objs.size) { s2 with heap:=h4}:=by
  refine QO (λn s5=>∃i ys AV nD PX H5,Inv X' [] PX H5 s5/\tn i s5.heap/\(∀b∈⇑s2::fp,H5 b=none)/\s5.heap.get? ⇑s2=some 73/\Vals ys AV/\ys.length<=hZ/\W i n ys PX H5) ?_ m0
   #[0,[],[],0,yd T idx σ,H2,I4,st4,λb Ae=>(J0 b Ae).1.1,oD4,.nil,js _,w0]
  rintro n s5 ⟨i,ys,AV,nD,PX,H5,I5,PV,n5,oD5,v5,l5,w5⟩;have f5:=a0U (pins':=[]) (λp hp=>by cases hp) n5;rcases turn i n ys PX H5 w5 with⟨stop,q⟩|⟨go,ll,step⟩
  ·have z:=Tn.done X' xp xw xK xc i [] s5 PX H5 134 I5 (λb Ae=>f5 b<|ij _ Ae) PV stop;rw[xA]at z
   -- D is not touched by the end
   have z2:=Tn.done X' xp xw xK xc i [(⇑s2,73)] s5 PX H5 134 (I5.Al λp hp=>by
    obtain rfl:=List.mem_singleton.mp hp;have YZ:=f5 _ ic
    exact#[oD5,YZ.1,YZ.2.1,YZ.2.2.1,λv z=>nomatch z]) (λb Ae=>by
     obtain⟨a1,a2,a3,a4,a5,a6⟩:=f5 b<|ij _ Ae;refine⟨a1,a2,a3,a4,a5,λp hp=>?_⟩;rcases List.mem_append.mp hp with y|y
     ·exact a6 p<|jg _ y
     ·obtain rfl:=List.mem_singleton.mp y;intro e;obtain⟨o,ho,_⟩:=Tn.obj 0 _ st2 b Ae
      exact kh _ (iE (ie ho) (qT (show ⇑s2=b from e)))) PV stop
   rw[xA]at z2;refine ww z2 λr s6 z9=>e0a2 z9 λhr I6=>?_;subst hr;have p6:=I6.pin _<|iF _<|List.mem_singleton.mpr rfl;exact fin s6 PX H5 ys AV nD (I6.Al λp hp=>by cases hp) n5 p6.1 v5 l5 q
  ·have YZ:=f5 _ ic
   have I5p:=I5.Al (pins':=[(⇑s2,73)]) λp hp=>by obtain rfl:=List.mem_singleton.mp hp;exact#[oD5,YZ.1,YZ.2.1,YZ.2.2.1,λv z=>nomatch z]
   have fpD:∀b∈fp,b≠⇑s2:=λb Ae=>by obtain⟨o,ho,_⟩:=Tn.obj 0 _ st2 b Ae;exact iz<|ie ho
   have fpP:∀{H':Hp},(∀b∈fp,H' b=none)->∀b∈fp,Cg X' [(⇑s2,73)] H' b:=by
    intro H' hn b Ae;obtain⟨a1,a2,a3,a4,a5,a6⟩:=f5 b<|ij _ Ae;refine⟨hn b Ae,a2,a3,a4,a5,λp hp=>?_⟩;rcases List.mem_append.mp hp with y|y
    ·exact a6 p<|jg _ y
    ·obtain rfl:=List.mem_singleton.mp y;exact Ne.symm<|fpD b Ae
   have z:=Tn.item X' xp xw xK xc i _ s5 PX H5 134 I5p (fpP λb Ae=>n5 b<|ij _ Ae) PV go;rw[xA]at z;refine ww z λr s6 z9=>e1a2 z9 λu hr h6=>?_;subst hr;refine ww h6 λ_ s7 z9=>e2a5 z9 λx H7 I7 r7 y7 st7 n7=>?_;have I7':=I7.pinned (fpP n7)<|Tn.obj _ _ st7;have xx:X'.xe=λ_ _=>False:=by subst HY;rfl
   have zG:=hG _ s7 PX H7 x u _ I7' r7<|step x H7 y7;rw[xp,xw,xA,xe,xx]at zG;refine ww zG λ_ s8 z9=>e2a2 z9 λY0 H8 I8 q8=>?_;have zT:=hT _ s8 Y0 H8 _ I8 q8;rw[xp,xw,xA,xe,xx]at zT;refine ww zT λok s9 z9=>e1a2 z9 λH9 I9 q9=>?_
   -- a29 holds behind the turn
   have behind:∀{H':Hp} {s':h9},Inv X' ([(⇑s2,73)]++EU fp s7.heap) Y0 H' s'->s'.heap.get? ⇑s2=some 73/\tn (i+1) s'.heap/\∀b∈⇑s2::fp,H' b=none:=by
    intro H' s' I';have pD:=I'.pin _<|iF _<|jg _<|List.mem_singleton.mpr rfl;refine⟨pD.1,Tn.keep _ _ _ st7 λb Ae o e=>(I'.pin (b,o)<|iF _<|iF _<|yj Ae e).1,λb Ae=>?_⟩;rcases List.mem_cons.mp Ae with e|e
    ·rw[e];exact pD.2.1
    ·obtain⟨o,e',_⟩:=Tn.obj _ _ st7 b e;exact(I'.pin (b,o)<|iF _<|iF _<|yj e e').2.1
   cases ok with
   |false =>
    rw[cr im]at q9 ⊢;obtain⟨m',hm,w'⟩:=q9;obtain⟨b1,b2,b3⟩:=behind I9;exact#[m',hm,i+1,ys,AV,nD,Y0,H9,I9.Al (λp hp=>by cases hp),b2,b3,b1,v5,l5,w']
   |true =>
    rw[hI rfl]at q9 ⊢;have zE:=hE _ s9 Y0 H9 _ I9 q9;rw[xp,xw,xA,xe,xx]at zE;refine ww zE λy s10 z9=>e2a3 z9 λyv H10 I10 r10 z69=>e1a2 z69 λm' hm w'=>?_;obtain⟨b1,b2,b3⟩:=behind I10;have hlen:=v5.length;refine wpAny_list_append_plain (items:=AV.toArray) #[nD,b1] (λh11 a3e a0W=>?_) (by rw[iu];lia);obtain⟨nD',o11⟩:=a3e;have a3f:Inv X' [] Y0 H10 s10:=I10.Al λp hp=>by cases hp
    obtain⟨a1,a2,a3,a4,a5,a6⟩:=a0U (pins':=[]) (λp hp=>by cases hp) b3 _ ic;have I11:Inv X' [] Y0 H10 { s10 with heap:=h11}:=a3f.turned (t':=s10.toks) (λb o Ae e=>(a0W.2 b Ae).trans e) a1 a2 a4 a5 a6;refine#[m',hm,i+1,ys++[yv],AV++[y],nD',Y0,H10,I11,Tn.keep _ _ _ b2 λb Ae o e=>(a0W.2 b<|fpD b Ae).trans e,b3,by simpa using o11,v5.append<|.cons r10 .nil,by rw[iw,iI];lia,w']
 exact codeAny_compStart_list loop<|Tn.self _ 0 _ _ _ st4 loop
def Y1(X:Cx)(elt tg:i8)(ifs:List i8)(scope:mi)(cl:List (Str×hO))(T Fr:List Str)(idx:List Nat)(wi:TI):TE:=λl H Q=>wi l H λJ s=>∀a c C j k,∃(g:TG)(n:TT)(o:TE),(PG (Gg X scope cl (T++Fr) a c C j k) tg g/\YC (Gg X scope cl (T++Fr) a c C j k) ifs n/\PE (Gg X scope cl (T++Fr) a c C j k) elt o)/\∃W:Nat->Nat->List V->St->Hp->Prop,(∃m,W 0 m [] (yd T idx l) s)/\∀i m e f H,W i m e f H ->
 (J.stop i H/\∀p,H p=none->Q (.ref p) (upd H p<|.lst e))\/(J.go i H/\e.length<hZ/\∀x q,J.Jo i H x q->g x f q λd t=>n d t λb r=>if b=true then o d r λy u=>∃h,h<m/\W (i+1) h (e++[y]) d u else ∃h,h<m/\W (i+1) h e d r)
def Rc(c:X.calm=true)(k:PI X tg iter wi)(B:zQ X scope cl T Fr idx) 
 (l:∀x,kO iter X.env x=pure x:=by intro _;rfl):PE X 109 (Y1 X elt tg ifs scope cl T Fr idx wi):=by
  intro a s i H Q I h
  rw[eval_ListComp]
  refine pH (use:=none) rfl l B.a0L B.kind B.names<|ww (k a s i H _ I h) λv Y n=>ww n λr Z t=>?_
  obtain⟨it,fp,tn,J,H2,e,u,y,d,z,E⟩:=t
  subst e
  refine D9 (RR:=λf C=>compPost 54 X.A X.xe none (EP X a i Q) f C) (P:=λj H=>∀p,H p=none->Q (.ref p) (upd H p<|.lst j)) c B u y d z E ?_
  intro D C F H' j G q L ⟨m,M⟩ N O R S U
  exact#[m,M,λh' W=>#[.ref D,_,L.turned (t':=F.toks) (λb o g e=>(W.2 b g).trans e) N O (.inr R) S U,rfl,q D G]]
def U8(X:Cx)(elt tg:i8)(ifs:List i8)(scope:mi)(cl:List (Str×hO))(T Fr:List Str)(idx:List Nat)(wi:TI)(j:Nat):TS:=λD k H=>wi k H λJ t=>∀a c C l n,∃(g:TG)(o:TT)(q:TE),(PG (Gg X scope cl (T++Fr) a c C l n) tg g/\YC (Gg X scope cl (T++Fr) a c C l n) ifs o/\PE (Gg X scope cl (T++Fr) a c C l n) elt q)/\∃W:Nat->Nat->List V->St->Hp->Prop,(∃m,W 0 m [] (yd T idx k) t)/\∀i m e f H,W i m e f H ->
 (J.stop i H/\∀p,H p=none->D.nx (k.set j<|some<|.ref p) (upd H p<|.lst e))\/(J.go i H/\e.length<hZ/\∀x r,J.Jo i H x r->g x f r λd u=>o d u λb s=>if b=true then q d s λy v=>∃h,h<m/\W (i+1) h (e++[y]) d v else ∃h,h<m/\W (i+1) h e d s)
set_option tactic.hygienic true in
def Re{j:Nat}{d:Pos}(O:X.N.Nodup)(R:X.N[j]?=↑y)(u:X.env.scope.names.lookup y=some .local)(g:kg 109 (some<|.Name y py) d.line X.env=pure true)
 (i:X.calm=true) (S:PI X tg iter wi) (B:zQ X scope cl T Fr idx) 
 (U:∀x,kO iter X.env x=pure x:=by intro _;rfl):PS X (.Assign [.Name y py] 109 d) (U8 X elt tg ifs scope cl T Fr idx wi j):=by
  intro c s E H D I h
  rw[exec_Assign_Name_used _ _ _ _ g]
  refine am<|n9<|am ?_
  refine am<|ww (pH (use:=some<|tE (.Name y py) X.env) (Q:=λ_ f=>SP X c D .next f) rfl U B.a0L B.kind B.names<|ww (S c s E H _ I h) λv s1 W=>ww W λY s2 Z=>?_) λ_ f hq=>ap<|ap hq
  obtain⟨it,fp,tn,J,H2,e,I2,Tn,k,f2,hb⟩:=Z
  subst e
  refine D9 (RR:=λl C=>compPost 54 X.A X.xe (some<|tE (.Name y py) X.env) (λ_ f=>SP X c D .next f) l C) (P:=λF H=>∀p,H p=none->D.nx (E.set j<|some<|.ref p) (upd H p<|.lst F)) i B I2 Tn k f2 hb ?_
  intro G C f H' F hD q IX ⟨m,ns⟩ hC L c2 M c4
  refine wpAny_assign_Name<|GH IX O R (.inl u) (v:=.ref G) rfl (λs3 I3 z9=>e1a2 z9 λa n ha=>?_)<|.inr u
  have r:C≠a:=by
    rcases ha with z|z
    · rw[z]; exact L
    · exact Ne.symm<|M _ _ z
  exact#[m,ns.sameBut n r,λh' sb=>#[_,_,I3.turned (t':=s3.toks) (λb o t e=>(sb.2 b t).trans e) hC L (.inr c2) M c4,q G hD]]
end
end L2
namespace WL
variable[L2.GX]
open PySem L2
open Rep (rp)
open Ow (sl)
open Sls (rel)
class Pre(k:Nat)(S:Type)[Sls S](Db:outParam Type)[Sls Db] where
 pre:S->Db
 suf:Db->S
 ok:∀{F R:Rg} {H:Hp} {s:S} {σ:St} (τ:St),τ.length=k->rel F R H s σ->rel F R H (pre s) (τ++σ)
 un:∀{F R:Rg} {H:Hp} {d:Db} {σ:St},rel F R H d σ->rel F R H (suf d) (σ.drop k)
 eta:∀d,pre (suf d)=d
 a0X:∀s,suf (pre s)=s
noncomputable instance pre0{S:Type}[Sls S]:Pre 0 S S:=#[id,id,λτ h r=>by rw[List.length_eq_zero_iff.mp h];exact r,λr=>r,λ_=>rfl,λ_=>rfl]
noncomputable instance preS{k:Nat}{S Db:Type}[Sls S][Sls Db][A:Pre k S Db]:Pre (k+1) S (Un×Db):=#[λs=>(#[],A.pre s),λd=>A.suf d.2,λ{F R H s σ} τ h r=>by
  cases τ with
  |nil=>cases h
  |cons v τ'=>exact#[v,τ'++σ,λ_=>False,F,rfl,two_nil F,λ_ z=>z,A.ok τ' (by simpa using h) r],
 λ{F R H d σ} r=>by
  obtain⟨v,σ',F1,F2,rfl,h2,h3,h4⟩:=r
  exact A.un<|Sls.fq h4<|two_eq h2 h3,
 λd=>by
  obtain⟨⟨⟩,d⟩:=d
  rw[A.eta],
 λs=>A.a0X s]
def CY{α γ S:Type}(b:α->S->(Option γ->S->Prop)->Prop):List α->S->(List γ->S->Prop)->Prop
 | [],s,K=>K [] s
 |x::xs,s,K=>b x s λo s'=>CY b xs s' λys Uw=>K (o.toList++ys) Uw
def TWs(X:Cx)(T:hO)(a:List i8){D:Type}[Sls D](w:Wf D Bool D):Prop :=
 ∃t,YC X a t/\∀(d:D)(F R:Rg)(b:St)(H:Hp)(e:Bool->D->Prop)(Q:Bool->Hp->Prop),wG T F R H d b->w d e 134 ->
  (∀x f g h c,e x f->Ch T F R H g h c->wG T g h c f b->Q x c)->t b H Q
abbrev XF:XK:=λ_ _ _=>False
def tws_nil[Sls D]:TWs X T [] (λ(d:D) a _=>a true d):=#[_,UR,λd F R e H a Q s b c=>c true d F R H b 61 s]
def tws_one{D:Type}[Sls D]{w:Wf D Bool D}(h:TW X XF T c w):TWs X T [c] w:=e1a2 h λt a b=> #[t,US a,λd F R e H f Q s g i=>b d F R e H f _ Q s g i λ_ _ _ _ _ _ z=>z.elim]
section
variable{D B S B0 Db D1 PO τ α γ:Type}[Sls D][Sls B][Sls S][Sls B0][Sls Db][Sls D1][Sls PO][Ow τ][Rep α][Rep γ]
abbrev stepC(P:Pre k S Db)(a:Fg D1 Db)(g:Db->α->D1)(c:Wf D1 Bool D1)(d:Wf D1 γ D1):α->S->(Option γ->S->Prop)->Prop :=
 λx s K=>c (g (P.pre s) x) (λt b=>if t=true then d b (λy e=>K ↑y<|P.suf<|a.fg e) 134 else K none (P.suf<|a.fg b)) λ_ _=>False
def G8[P:Pre k S Db][Gf:Fg D1 Db]{g:Db->α->D1}{wt:Wf D1 Bool D1}{we:Wf D1 γ D1}{J:It}{Ps:Rg->Hp->Prop}{L:List α}{F1 Fs Z:Rg}{Q:Hp}{σ:St}{s0:S}{K:List γ->S->Prop}{ag:List V->Hp->Prop}
  (hk:R.length=k) (ao:∀i,k<=i->i<k+idx.length->i∈mb)
  (hG:∀d f C I M,GW 138 T mb tg g) (hT:∀d f C I M,TWs 138 T aq wt) (hE:∀d f C I M,EW 138 XF T ar we)
  (hz:L.length<=hZ) (ip:Z1 J L Ps) (ps:Ps Z Q) (pk:∀{G Ra Rb:Rg} {Ha Hb:Hp},Ps Ra Ha->(∀a,G a->Ra a)->(∀a,F1 a->¬G a)->Ext G Ra Ha Rb Hb->Ps Rb Hb)
  (s':Std T Fs Z Q) (U:∀a,F1 a->Z a/\¬Fs a/\a≠T) (au:rel Fs Z Q s0 (idx.map λi=>σ[i]?.join)) (hw:CY (stepC P Gf g wt we) L s0 K)
  (av:∀E N F l r O,K E N->Ch T Fs Z Q F l r->Std T F l r->rel F l r N (idx.map λi=>σ[i]?.join)->Ps l r->Paired (rp l r) E O->ag O r) :
  ∀d f C I M,∃(g:TG)(tt:TT)(te:TE),(PG 138 tg g/\YC 138 aq tt/\PE 138 ar te)/\∃W:Nat->Nat->List V->St->Hp->Prop,(∃m,W 0 m [] (yd R idx σ) Q)/\∀i m O ah H,W i m O ah H ->
   (J.stop i H/\ag O H)\/(J.go i H/\O.length<hZ/\∀x Q,J.Jo i H x Q->g x ah Q λs Y=>tt s Y λb H3=>if b=true then te s H3 λy H4=>∃m',m'<m/\W (i+1) m' (O++[y]) s H4 else ∃m',m'<m/\W (i+1) m' O s H3):=by
 intro d f C I M;refine e1a2 (hG d f C I M) λaw g1 g2=>?_;refine e1a2 (hT d f C I M) λtt t1 t2=>?_;refine e1a2 (hE d f C I M) λte e1 e2=>?_;have aE:(yd R idx σ).length=k+idx.length:=by unfold yd;rw[iw,h8,h8,hk]
 have aa:∀{w:St},Ag mb (yd R idx σ) w->w.drop k=idx.map λi=>σ[i]?.join:=λ{w} a=>by
  apply qN;intro j;rw[uA];by_cases hj:j<idx.length
  ·rw[a.2 (k+j)<|ao _ q0a q0a];unfold yd;rw[ki (by rw[h8,hk];lia),h8,hk,Nat.add_sub_cancel_left]
  ·rw[kX (by have:=a.1;lia),kX<|by rw[h8];lia]
 refine#[aw,tt,te,#[g1,t1,e1],λi m O w r=>m=L.length-i/\i<=L.length/\∃N F l E,Ch T Fs Z Q F l r/\Std T F l r/\rel F l r (P.pre N) w/\Ps l r/\Ag mb (yd R idx σ) w/\Paired (rp l r) E O/\E.length<=i/\CY (stepC P Gf g wt we) (L.drop i) N (λws s'=>K (E++ws) s'),
  #[_,rfl,js _,s0,Fs,Z,[],Ch.refl _ _ _ _,s',P.ok _ (by rw[h8,hk]) au,ps,Ag.refl _ _,.nil,js _,by simpa using hw],?_]
 rintro i m O w r ⟨rfl,hi,N,F,l,E,c1,A,r1,p1,a1,pz,lz,w1⟩;have aG:=Paired.length pz;by_cases ab:i<L.length
 ·refine .inr #[ip.go p1 ab,q0a,λx Y y=>?_];obtain⟨hH,x',ax,rx⟩:=ip.Jo p1 A.xP ab y;have ay:∀{G l:Rg} {r:Hp},Ch T Fs Z Q G l r->∀a,F1 a->l a/\¬G a:=λc a h=>#[c.left a (U a h).1 (U a h).2.1,λz=>(c.yo a z).elim (U a h).2.1 λq=>s'.xP a (U a h).1 q]
  have az:Ch T F l r F l Y/\Std T F l Y/\rel F l Y (P.pre N) w/\Ps l Y/\Paired (rp l Y) E O:=by
   rcases hH with e|⟨p,o,hp,e⟩
   ·subst e;exact#[Ch.refl _ _ _ _,A,r1,p1,pz]
   ·subst e;have kk:∀b u,r b=↑u->upd r p o b=↑u:=λb u e=>by rw[vB<|vM e hp];exact e
    have I:Ext (λ_=>False) l r l (upd r p o):=#[λb u _ e=>kk b u e,λa h=>.inl h];refine#[#[λb u _ _ e=>kk b u e,λa h=>.inl h,λa h=>.inl h,λa h _=>h],#[A.sub,λa z=>?_,?_,A.wx,A.wd],Sls.st r1 I 121<|λ_ _ z=>z,pk p1 121 (λ_ _ z=>z) I,wT (I.wide λ_ z=>z.elim) pz]
    ·cases e:r a with
     |none=>exact iv e<|A.xP a z
     |some u=>rw[kk a u e];simp
    ·refine e1a2 A.tab λqs e t=>?_;exact#[qs,kk _ _ e,t]
  obtain⟨c2,S2,r2,p2,ai⟩:=az;have aA:=Ch.trans' s' A.tab c1 c2;rw[drop_cons ax]at w1;refine g2 (P.pre N) F l w Y x' x _ (S2.stt r2) rx λF3 s f3 S3 a3=>?_;have c3:Ch T Fs Z Q F3 l Y:=aA.less f3
  -- aH the block aF on af an item
  have on:∀{d2:D1} {F5 R5:Rg} {H5:Hp} {o:Option γ} {ae:List V},CY (stepC P Gf g wt we) (L.drop<|i+1) (P.suf<|Gf.fg d2) (λws s'=>K (E++(o.toList++ws)) s')->Ch T F3 l Y F5 R5 H5->wG T F5 R5 H5 d2 s->Paired (rp R5 H5) (E++o.toList) ae->(E++o.toList).length<=i+1 ->
    ∃m',m'<L.length-i/\m'=L.length-(i+1)/\i+1<=L.length/\∃N F l E,Ch T Fs Z Q F l H5/\Std T F l H5/\rel F l H5 (P.pre N) s/\Ps l H5/\Ag mb (yd R idx σ) s/\Paired (rp l H5) E ae/\E.length<=i+1/\CY (stepC P Gf g wt we) (L.drop<|i+1) N (λws s'=>K (E++ws) s'):=λ{d2 F5 R5 H5 o ae} hw c5 S5 aB aC=>by
   refine e1a2 (Gf.le S5.rel) λF6 f6 r6=>?_;have aD:=Ch.trans' s' S2.tab c3 c5;refine#[L.length-(i+1),q0a,rfl,ab,P.suf<|Gf.fg d2,F6,R5,E++o.toList,aD.less f6,⟨λa h=>S5.sub a<|f6 a h,S5.xP,S5.tab,S5.wx,λh=>S5.wd<|f6 T h⟩,by rw[P.eta];exact r6,?_,a1.trans a3,aB,aC,?_]
   ·refine pk p2 (G:=λa=>F3 a\/a=T) (λa h=>h.elim (S3.sub a) λz=>by rw[z];exact S2.wx) (λa h z=>?_) c5.ext;rcases z with z|z
    ·exact(ay c3 a h).2 z
    ·exact(U a h).2.2 z
   ·simp only[oO];exact hw
  refine t2 _ F3 l s Y _ _ S3 w1 λb d1 F4 R4 H4 q4 c4 S4=>?_
  cases b with
  |false =>
   rw[cr im];exact on (o:=none) q4 c4 S4 (by simpa using S3.vals c4 ai) (by simp;lia)
  |true =>
   rw[hI rfl];refine e2 _ F4 R4 s H4 _ _ _ S4 q4 (λy d2 v F5 R5 H5 q5 c5 S5 r5=>?_) λ_ _ _ _ _ _ z=>z.elim;have aj:=Ch.trans S3 S4.tab c4 c5;exact on (o:=↑y) q5 aj S5 (yE (S3.vals aj ai)<|.cons r5 .nil) (by simp;lia)
 ·have e:i=L.length:=by lia
  subst e;rw[vq]at w1;have ak:K (E++[]) N:=w1;rw[lR]at ak;have al:=P.un r1;rw[aa a1,P.a0X]at al;refine .inl #[ip.stop p1,av E N F l r O ak c1 A al p1 pz]
def Ft[Se:Sel idx B S B0]{back:B->List α->D}{xs:List α}{Ps:Rg->Hp->Prop}(s':Std T F' R' H')(tw:Ek F' F1 F2)(hr:rel F2 R' H' b σ)
 (pb:∀b' G2 Xg KP Q2 σ',Ps KP Q2->rel G2 KP Q2 b' σ'->Ag is σ σ'->Ek Xg F1 G2->rel Xg KP Q2 (back b' xs) σ') :
    ∃Fs,Std T Fs R' H'/\(∀a,F1 a->R' a/\¬Fs a/\a≠T)/\rel Fs R' H' (Se.sel b) (idx.map λi=>σ[i]?.join) /\
      ∀{s1:S} {Gs R1:Rg} {H1:Hp},Ch T Fs R' H' Gs R1 H1->Std T Gs R1 H1->rel Gs R1 H1 s1 (idx.map λi=>σ[i]?.join)->Ps R1 H1->∃G,Ch T F' R' H' G R1 H1/\wG T G R1 H1 (back (Se.mrg (Se.rest b) s1) xs) σ:=by
  refine e2a4 (Se.cut hr) λFs F0 t0 h1 h2 hl=>?_
  have iS:∀a,Fs a->F' a:=λa h=>(tw.all a).mpr<|.inr<|(t0.all a).mpr<|.inl h
  have i0:∀a,F0 a->F' a:=λa h=>(tw.all a).mpr<|.inr<|(t0.all a).mpr<|.inr h
  have i1:∀a,F1 a->F' a:=λa h=>(tw.all a).mpr<|.inl h
  have d1S:∀a,F1 a->Fs a->False:=λa h k=>tw.yU a h<|(t0.all a).mpr<|.inl k
  have d10:∀a,F1 a->F0 a->False:=λa h k=>tw.yU a h<|(t0.all a).mpr<|.inr k
  refine#[Fs,#[λa h=>s'.sub a<|iS a h,s'.xP,s'.tab,s'.wx,λh=>s'.wd<|iS T h],λa h=>#[s'.sub a<|i1 a h,d1S a h,λz=>s'.wd<|by rw[<- z];exact i1 a h],h1,λ{s1 Gs R1 H1} c S1 r1 p1=>?_]
  have f0:rel F0 R1 H1 (Se.rest b) σ:=Sls.st h2 c.ext (λa h=>h.elim (λz=>s'.sub a<|iS a z) λz=>by rw[z];exact s'.wx) λa h z=>z.elim (λq=>t0.yU a q h) λq=>s'.wd (by rw[<- q];exact i0 a h)
  have nG:∀a,Gs a->F1 a\/F0 a->False:=λa g f=>by
    rcases c.yo a g with q|q
    · exact f.elim (λz => d1S a z q) λz => t0.yU a q z
    · exact s'.xP a (s'.sub a<|f.elim (i1 a)<|i0 a) q
  have out:∀a,F1 a\/F0 a->R1 a:=λa f=>c.left a (s'.sub a<|f.elim (i1 a)<|i0 a) λz=>f.elim (λq=>d1S a q z) λq=>t0.yU a z q
  refine#[λa=>F1 a\/Gs a\/F0 a,#[λb o n m h=>c.keep b o (λz=>n<|iS b z) m h,c.AU,λa h=>h.elim (λz=>.inl<|i1 a z) λz=>z.elim (λq=>(c.yo a q).elim (λz=>.inl<|iS a z) .inr) λq=>.inl<|i0 a q,λa h n=>c.left a h λz=>n<|iS a z],pb _ (λa=>Gs a\/F0 a) _ R1 H1 σ p1 (Se.join #[λ_=>Iff.rfl,λa m f=>nG a m<|.inr f] r1 f0 hl) (Ag.refl _ _) ⟨λ_=>Iff.rfl,λa h z=>z.elim (λq=>nG a q<|.inl h) λq=>d10 a h q⟩,λa h=>h.elim (λz=>out a<|.inl z) λz=>z.elim (S1.sub a) λq=>out a<|.inr q,S1.xP,S1.tab,S1.wx,λh=>h.elim (λz=>s'.wd<|i1 T z) λz=>z.elim S1.wd λq=>s'.wd<|i0 T q]
def xT[P:Pre k S Db][N:Fg D1 Db][m:Sel idx B S B0]{h:B->List α->D}{v:D->(List α->B->Prop)->72->Prop}{g:Db->α->D1}{w:Wf D1 Bool D1}{y:Wf D1 γ D1}
 (o:X.calm=true) (O:IW X E T is z iter h v) (U:zQ X a cl Ts Fr idx) (W:Ts.length=k) (r:∀i,k<=i->i<k+idx.length->i∈mb)
 (Y:∀e f C j l,GW (Gg X a cl (Ts++Fr) e f C j l) T mb z g) (Z:∀e f C j l,TWs (Gg X a cl (Ts++Fr) e f C j l) T t w) (hE:∀e f C j l,EW (Gg X a cl (Ts++Fr) e f C j l) XF T u y)
 (hs:∀x,kO iter X.env x=pure x:=by intro _;rfl) :
    EO X E T (.ListComp u [#[z,iter,t,0]] a pos) (cK v λ(A:OL γ->D->Prop) n b=>n.length<=hZ/\CY (stepC P N g w y) n (m.sel b) λI J=>A #[I]<|h (m.mrg (m.rest b) J) n):=by
  refine e1a2 O λti i1 i2=>?_
  refine#[_,Rc o i1 U hs,λd F R σ H A Ke Q s hw kn ke=>?_]
  refine i2 d F R σ H _ _ _ s hw (λn b Jt Ps F' F1 F2 R' H' q c L tw hr ip ps pk pb=>?_) ke
  refine e1a4 (Ft (idx:=idx) (Se:=m) L tw hr pb) λFs S0 n0 r0 on=>?_
  refine G8 W r Y Z hE q.1 ip ps pk S0 n0 r0 q.2 λzs J Gs R1 H1 I kz c1 S1 r1 p1 pz p hp=>?_
  refine e1a2 (on c1 S1 r1 p1) λG c2 M=>?_
  refine e1a3 (yp M hp pz) λR2 c3 S3 n3=>?_
  exact kn _ _ _ _ G R2 _ kz (Ch.trans s M.tab (Ch.trans s L.tab c c2) c3) S3 n3
def AC[P:Pre k S Db][Gf:Fg D1 Db][v:Sel idx B S B0](j:Nat){m I J:Type}[Ow m][Sls I][Sls J][A:At j D m I][U:Pt j I (OL γ) J][Jp:Pj D PO n]{h:Pos}{l:B->List α->D}{W:D->(List α->B->Prop)->72->Prop}{g:Db->α->D1}{Y:Wf D1 Bool D1}{Z:Wf D1 γ D1}
 (hN:X.N.Nodup) (hj:X.N[j]?=↑y) (hy:X.env.scope.names.lookup y=some .local) (L:kg (.ListComp o [#[M,iter,r,0]] a pos) (some<|.Name y py) h.line X.env=pure true) (hm:j∉ms)
 (O:X.calm=true) (hi:IW X E T is M iter l W) (Bs:zQ X a cl Ts Fr idx) (hk:Ts.length=k) (Q:∀i,k<=i->i<k+idx.length->i∈mb)
 (hG:∀e f C t u,GW (Gg X a cl (Ts++Fr) e f C t u) T mb M g) (hT:∀e f C t u,TWs (Gg X a cl (Ts++Fr) e f C t u) T r Y) (hE:∀e f C t u,EW (Gg X a cl (Ts++Fr) e f C t u) XF T o Z)
 (hs:∀x,kO iter X.env x=pure x:=by intro _;rfl) :
    S1 X E T ms n (.Assign [.Name y py] (.ListComp o [#[M,iter,r,0]] a pos) h) (cS W Jp.pj λ(Kn:J->Prop)(Kr:τ->PO->Prop) w b=>w.length<=hZ/\CY (stepC P Gf g Y Z) w (v.sel b) λys s1=>Kn<|U.put (A.hole<|l (v.mrg (v.rest b) s1) w) #[ys]):=by
  refine e1a2 hi λti i1 i2=>?_
  refine#[_,Re hN hj hy L O i1 Bs hs,λd F R σ H Kn Kr Ke En s hw kn kr ke=>?_]
  refine i2 d F R σ H _ _ _ s hw (λw b Jt Ps F' F1 F2 R' H' q c z tw hr ip ps pk pb=>?_) λC y d' F' R' H' q c z=>?_
  · refine e1a4 (Ft (idx := idx) (Se := v) z tw hr pb) λFs S0 n0 r0 on => ?_
    refine G8 hk Q hG hT hE q.1 ip ps pk S0 n0 r0 q.2 λzs s1 Gs R1 H1 ys kz c1 S1 r1 p1 pz p hp=>?_
    refine e1a2 (on c1 S1 r1 p1) λG c2 S2=>?_
    refine e1a3 (yp S2 hp pz) λR2 c3 S3 n3=>?_
    refine e1a2 (Fi (i:=j) S3 n3) λG2 g2 S4=>?_
    exact kn _ G2 R2 _ _ kz ((Ch.trans s S2.tab (Ch.trans s z.tab c c2) c3).less g2) S4<|Ag.set hm
  · refine e1a2 (wN (PO := PO) z) λG g1 g2 => ?_
    exact ke C y _ G R' H' q (c.less g1) g2
end
def Kp(g:hO)(H a:Hp):Prop:=∀b o,b≠g->H b=↑o->a b=↑o
def Kp.refl(g:hO)(H:Hp):Kp g H H:=λ_ _ _ h=>h
def Kp.trans{d e:Hp}(a:Kp g H d)(b:Kp g d e):Kp g H e:=λc o n h=>b c o n<|a c o n h
def Kp.at:Kp g H (upd H g o):=λb u n e=>by rw[vB n];exact e
def Bi(h:H p=none):Ej H (upd H p o):=λb u e=>by rw[vB<|vM e h];exact e
noncomputable def Gr(q:hO)(i z s:Int):List V:=[.ref q,.int i,.int z,.int s]
structure Ea(H:Hp)(g q:hO)(ns:List Int)(i z s:Int):Prop where
 ob:H g=↑(.lst<|Gr q i z s)
 sc:H q=↑(.lst<|ns.map V.int)
 i0:0<=i
 ne:q≠g
def Ea.put{i z s:Int}(B:Ea H g q b i z s){a z':Int}(h:0<=a):Ea (upd H g<|.lst<|Gr q a z' s) g q b a z' s:=#[vF,by rw[vB B.ne];exact B.sc,h,B.ne]
def Y2(q:hO)(i z s:Int):Gi (Gr q i z s) 0=↑(.ref q):=rfl
def Rf(q:hO)(i z s:Int):Gi (Gr q i z s) 1=↑(.int i):=rfl
def Rh(q:hO)(i z s:Int):Gi (Gr q i z s) 2=↑(.int z):=rfl
def a3h(q:hO)(i z s:Int):Gi (Gr q i z s) 3=↑(.int s):=rfl
def a0Z(x:Int):-(2 ^ 64)<x%2147483647/\x%2147483647<2 ^ 64:=by lia
def U9{ns:List Int}{i:Int}(b:0<=i)(c:i<(ns.length:Int)):∃n,Gi (ns.map V.int) i=↑(.int n):=by
 have a:i.toNat<ns.length:=by omega
 have e:(ns.map V.int)[i.toNat]?=↑(.int ns[i.toNat]):=by rw[jU,jO a];rfl
 have:=Nc e;rw[show ((i.toNat:Nat):Int)=i by omega]at this;exact#[_,this]
structure Bg where
instance:Ow Bg:=#[λF _ H _ v=>∃g q ns i z s,v=↑(.ref g)/\(∀b,F b↔b=g\/b=q)/\Ea H g q ns i z s,
 λ{F G R H R' H' x v} h e s n=>by
  obtain⟨g,q,ns,i,z,s',h1,h2,h3⟩:=h
  exact#[g,q,ns,i,z,s',h1,h2,#[e.keep g _ (n g<|(h2 g).mpr<|.inl rfl) h3.ob,e.keep q _ (n q<|(h2 q).mpr<|.inr rfl) h3.sc,h3.i0,h3.ne]],
 λh e=>by
  obtain⟨g,q,ns,i,z,s',h1,h2,h3⟩:=h
  exact#[g,q,ns,i,z,s',h1,λb=>(e b).symm.trans (h2 b),h3]]
instance:Hs Bg:=#[λz9=>e6a2 z9 λ_ _ _ _ _ _ h _=>#[_,h]]
instance:U4 Bg:=#[λh _=>h]
def Ri:Sp:=λd H Q _=>∃(g q:hO)(c:List Int)(i z s a:Int),d=[.ref g,.int a]/\Ea H g q c i z s/\0<a/\a<1073741824 /\
 ∀b e f r,Kp g H b->Ea b g q c e f s->0<=r->r<a->Q (.int r) b
abbrev Xj:Bg×Int×Unit->(Int->Bg×Un×Unit->Prop)->(hO->Bg×Un×Unit->Prop)->Prop:=λp a _=>0<p.2.1/\p.2.1<1073741824/\∀r,0<=r->r<p.2.1->a r 111
def Xk{K:hJ}{k:Nat}(F:wn P w K b base QC k f c d g):wn P w K b base (wh P w) k f c d g :=
 #[F.len,λA a s H args i j Q E l m n o p=>ko (F.run A a s H args i j Q E l m n o p) λr t h=>by
  cases r with
  |error e=>exact iV h
  |ok q =>
   cases q with
   |ret u=>exact h
   |next=>exact iV h
   |brk=>exact iV h
   |cont=>exact iV h]
def a3i:∀{c:List V},List.map some c=[↑a,↑b]->c=[a,b]:=by
 intro c e
 cases c with
 |nil=>cases e
 |cons p r=>cases r with
  |nil=>cases e
  |cons q s=>cases s with
   |nil=>cases e;rfl
   |cons _ _=>cases e
def Y3{K:hJ}{k:Nat}(F:wn P w K I base QC k f J c Ri):wn P w K I base (wh P w) k f J c (zh T Xj):=by
 refine(Xk F).imp λL H Q E h=>?_;obtain⟨m,R,p,Kn,Ke,s,⟨M,N,O⟩,S,_⟩:=h;obtain⟨v1,U,X,Y,Z,v,⟨g,q,x,i,z,y,rfl,A,hb⟩,d⟩:=s.rel;obtain⟨v2,aa,F3,F4,e2,t2,⟨n3,u,rfl,r2⟩,e3,n4⟩:=d;subst r2;subst e2 e3
 have ev:L=[.ref g,.int p.2.1]:=by exact a3i Z
 subst ev;have B:m g:=(v.all g).mpr<|.inl<|(A g).mpr<|.inl rfl;have gT:g≠T:=λe=>s.wd (by rw[<- e];exact B);refine#[g,q,x,i,z,y,p.2.1,rfl,hb,M,N,λC i' z' r j D r0 d=>?_]
 have l:∀a,R a->C a≠none:=λa h=>by
  by_cases e:a=g
  ·rw[e,D.ob];simp
  ·cases G:H a with
   |none=>exact iv G<|s.xP a h
   |some o=>rw[j a o e G];simp
 refine S r 111 _ (λ_=>False) m R C (O r r0 d) #[λb o n _ h=>j b o (λe=>n<|by rw[e];exact B) h,λ_ h=>.inl h,λa h=>h.elim (λz=>z.elim) .inl,λ_ h _=>h]
  #[#[_,_,X,Y,rfl,v,#[g,q,x,i',z',y,rfl,A,D],_,_,F3,F4,rfl,t2,n3,rfl,n4],s.sub,l,?_,s.wx,s.wd] #[#[λ_ z=>z,_,rfl,rfl],λ_ z=>z.elim,λ_ z=>z.elim,λz=>z]
 refine e1a2 s.tab λc e t=>?_;exact#[c,j T _ (λe=>gT e.symm) e,t]
structure Fn(K:hJ)(mg:Str->Option hR)(x:Str)(st:iK)(ps:List Str)(f:hO)(fd:iY):Prop where
 fn:zA K x x st f fd
 at_:mg x=↑(.ref f)
 bd:Binds K fd ps []
def BV{g:Prop}(h:∀G:Prop,(g->G)->G):g:=h g id
def a3j{a b c d:Type}{P:a×b×c×d->Prop}(h:∀e f g i,P (e,f,g,i)):∀x,P x:=λx=>h x.1 x.2.1 x.2.2.1 x.2.2.2
def a4U{a b c d e f:Type}{P:a×b×c×d×e×f->Prop}(h:∀g i j k l m,P (g,i,j,k,l,m)):∀x,P x:=λx=>h x.1 x.2.1 x.2.2.1 x.2.2.2.1 x.2.2.2.2.1 x.2.2.2.2.2
def a3k{a b c d e:Type}{P:a×b×c×d×e->Prop}(h:∀f g i j k,P (f,g,i,j,k)):∀x,P x:=λx=>h x.1 x.2.1 x.2.2.1 x.2.2.2.1 x.2.2.2.2
def a4V{a b c d e f g:Type}{P:a×b×c×d×e×f×g->Prop}(h:∀i j k l m n o,P (i,j,k,l,m,n,o)):∀x,P x:=λx=>h x.1 x.2.1 x.2.2.1 x.2.2.2.1 x.2.2.2.2.1 x.2.2.2.2.2.1 x.2.2.2.2.2.2
def a00{a b c d e f g i:Type}{P:a×b×c×d×e×f×g×i->Prop}(h:∀j k l m n o p q,P (j,k,l,m,n,o,p,q)):∀x,P x:=λx=>h x.1 x.2.1 x.2.2.1 x.2.2.2.1 x.2.2.2.2.1 x.2.2.2.2.2.1 x.2.2.2.2.2.2.1 x.2.2.2.2.2.2.2
def Y4{a b c d e f g i j:Type}{P:a×b×c×d×e×f×g×i×j->Prop}(h:∀k l m n o p q r s,P (k,l,m,n,o,p,q,r,s)):∀x,P x:=λx=>h x.1 x.2.1 x.2.2.1 x.2.2.2.1 x.2.2.2.2.1 x.2.2.2.2.2.1 x.2.2.2.2.2.2.1 x.2.2.2.2.2.2.2.1 x.2.2.2.2.2.2.2.2
def Xl{b c d e f g i j k l a:Type}{P:b×c×d×e×f×g×i×j×k×l×a->Prop}(h:∀n o p q r s t u v w m,P (n,o,p,q,r,s,t,u,v,w,m)):∀x,P x:=λx=>h x.1 x.2.1 x.2.2.1 x.2.2.2.1 x.2.2.2.2.1 x.2.2.2.2.2.1 x.2.2.2.2.2.2.1 x.2.2.2.2.2.2.2.1 x.2.2.2.2.2.2.2.2.1 x.2.2.2.2.2.2.2.2.2.1 x.2.2.2.2.2.2.2.2.2.2
def vL{K:hJ}{d:Str->Option hR}{k:Nat}{e:List Str}{A c g:Type}[Sls A][Sls c][Ow g]{i j:Wf A g c}(F:wn P w K d base (wh P w) k f l e (zh T i))(h:∀p a b,j p a b->i p a b):wn P w K d base (wh P w) k f l e (zh T j) :=
 F.imp λo H Q E m=>e5a3 m λF R p a b s n r=>#[F,R,p,a,b,s,h p a b n,r]
def a33:Passes (wh P w) X XF:=λa b H s e c I h=>by obtain⟨_,_,_,_,_,z⟩:=h;exact z.elim
def lkc{β:Type}{n x:Str}{c c':β}{r:List (Str×β)}(h:kR x ((n,c)::r)=↑c'):(x=n/\c'=c)\/kR x r=↑c':=by
 rw[i4]at h
 cases q:x==n with
 |true=>rw[q]at h;exact .inl #[eq_of_beq q,(jp h).symm]
 |false=>rw[q]at h;exact .inr h
def fc{b:Type}{p:b->Prop}{a:b}{l:List b}(h:p a)(t:∀y∈l,p y):∀y∈a::l,p y:=λy c=>by
 rcases List.mem_cons.mp c with e|e
 ·rw[e];exact h
 ·exact t y e
def xn{k m:Nat}(h:a=(iG m).map (k + ·)):∀i,k<=i->i<k+m->i∈a:=λi b c=>by rw[h];exact List.mem_map.mpr #[i-k,List.mem_range.mpr q0d,q0d]
def Gu{a:Type}{p:a->Prop}:∀y∈([]:List a),p y:=λ_ h=>by cases h
section
variable{D PO τ:Type}[Sls D][Sls PO][Ow τ]{α:Type}[Rep α]
def Rj(d:EW X E T a f):EW X E T (.UnaryOp .USub a pos) (cK f λ(i:Int->D->Prop) x j=>i (-x) j):=by have h:=YK (c:=λ_=>True) (γ:=Int) (g:=λx:Int=>-x) (e:=.UnaryOp .USub a pos) d (λl b=>WV Qb b) λb _ k=>#[_,b,k _ rfl];simp only[true_and]at h;exact h
def AD(i:Nat)[Sls l][Sls g][Hs τ][A:At i D τ g][J:Pj g PO n](m:PE X (.Name x p) (v9 i)):S1 X E T I n (.Return (some<|.Name x p) pos) (λ(d:D)(_:l->Prop)(j:τ->PO->Prop) _=>j (A.get d)<|J.pj<|A.hole d):=by refine⟨_,Ce m,λd F R L H M j N O s q P r Q=>?_⟩;refine e3a4 (A.take s.rel) λv t w y c k B=>?_;obtain⟨u,rfl⟩:=Hs.has k;have f:∀a,w a->F a:=λa h=>(c.all a).mpr<|.inr h;refine e1a2 (J.le B) λG e C=>?_;exact#[u,y,r _ _ u t G R H q #[λb o _ _ h=>h,λ_ h=>.inl h,λa h=>.inl<|h.elim (λz=>(c.all a).mpr<|.inl z) λz=>f a<|e a z,λ_ h _=>h] #[C,λa h=>s.sub a<|f a<|e a h,s.xP,s.tab,s.wx,λh=>s.wd<|f T<|e T h] ⟨k,λa h=>s.sub a<|(c.all a).mpr<|.inl h,λa h z=>c.yU a h<|e a z,λh=>s.wd<|(c.all T).mpr<|.inl h⟩]
def Va{N:List i8}{i P PO B A:Type}[Ow i][Sls P][Sls PO][Sls B][Sls A]{G:B->A->PO->D}{we:Wf D i D}{wr:D->(P->B->A->Prop)->72->Prop}
 (ha:EO X E T e we) (hr:LH X E T N G wr) (hs:hV (e::N) X.env=71::hV N X.env:=by rfl) :
    LH X E T (e::N) (λ(b:B)(l:A)(p:Un×PO)=>G b l p.2) (cB we wr λx (Kn:i×P->B->A->Prop) p b l=>Kn (x,p) b l):=by
  refine e1a2 ha λta a1 a2=>?_
  refine e1a2 hr λtr b1 b2=>?_
  refine#[_,vI a1 b1 hs,λd F R σ H Kn Ke Q s hw kn ke=>?_]
  refine a2 d F R σ H _ Ke _ s hw (λx d1 u j F1 R1 H1 q1 c1 v g=>?_) ke
  have I:Ch T F R H F1 R1 H1:=c1.less λ_ z=>.inr z
  refine b2 d1 F1 R1 σ H1 _ Ke _ v q1 (λp b l vs us U G2 L o w J q2 O M r h1 h2 hl k=>?_) λC y d' o w J k c s'=>ke C y d' o w J k (Ch.trans s v.tab I c) s'
  -- the new W Q7
  have Y:∀a,j a->o a->False:=λa m f=>by
    rcases O.yo a f with q|q
    · exact g.yU a m q
    · exact v.xP a (g.sub a m) q
  have mT:∀a,j a->a≠T:=λa m z=>g.tab (by rw[<- z];exact m)
  have mx:sl j w J x ↑u:=Ow.st g.is O.ext (λa h=>h.elim (v.sub a) λq=>by rw[q];exact v.wx) λa m z=>z.elim (g.yU a m)<|mT a m
  have mR:∀a,j a->w a:=λa m=>O.left a (g.sub a m) λz=>g.yU a m z
  have g1:∀a,U a->o a:=λa h=>(r.all a).mpr<|.inl h
  have g2:∀a,G2 a->o a:=λa h=>(r.all a).mpr<|.inr<|.inl h
  have g3:∀a,L a->o a:=λa h=>(r.all a).mpr<|.inr<|.inr h
  have S:=Ch.trans s v.tab I O
  refine kn (x,p) b l (u::vs) us (λa=>j a\/U a) G2 L (λa=>j a\/o a) w J q2 #[S.keep,S.AU,λa h=>h.elim (λz=>c1.yo a<|.inl z)<|S.yo a,S.left] ⟨λa h=>h.elim (mR a)<|M.sub a,M.xP,M.tab,M.wx,λh=>h.elim g.tab M.wd⟩
    #[λa=>?_,λa m n=>m.elim (λz=>Y a z<|g2 a n) λz=>r.Jq a z n,λa m n=>m.elim (λz=>Y a z<|g3 a n) λz=>r.KR a z n,r.KU] #[↑u,vs.map some,j,U,rfl,#[λ_=>Iff.rfl,λa m n=>Y a m<|g1 a n],Ow.wk mx<|DE w L J,h1] h2 hl λb' l' L1 L2 L3 Z aa ab p' h3 h4 h5 t=>?_
  · rw[r.all]
    exact#[λz=>z.elim (λq=>.inl<|.inl q) λz=>z.elim 157 .inr,λz=>z.elim (λz=>z.elim .inl λq=>.inr<|.inl q) λz=>.inr<|.inr z]
  · refine e4a4 h3 λv' ae N1 N2 z1 z2 z3 z4 => ?_
    injection z1 with _ z5
    subst z5
    exact k b' l' L1 L2 L3 Z aa ab p'.2 (Sls.fq z4<|two_eq z2 z3) h4 h5 t
class Y5(α:Type)[Rep α](ty:String)(b:outParam Bool):Prop where
 ist:∀{K:hJ} {R:Rg} {H:Hp} {x:α} {v:V},rp R H x v->∃t,zP K H v t/\nX K t (.type ty)=↑b
instance:Y5 Int "int" true:=#[λ{K R H x v} h=>by
 subst h
 exact#[_,zP.int x,by rfl]]
instance:Y5 Int "bool" false:=#[λ{K R H x v} h=>by
 subst h
 exact#[_,zP.int x,by rfl]]
instance:Y5 (List α) "list" true:=#[λ{K R H x v} h=>by
 obtain⟨a,vs,rfl,_,h3,_⟩:=h
 exact#[_,zP.lst h3,by rfl]]
def zm{b:Bool}[Y5 α ty b]{h:Wf D α D}(k:Gl X "isinstance")(l:X.mg "isinstance"=none)(c:PE X (.Name x q) (tC<|.ty ty))(m:EW X E T a h)
 (i:hV [a,.Name x q] X.env=78::hV [.Name x q] X.env:=by rfl) (e:hV [.Name x q] X.env=(false,eval (.Name x q) X.env)::hV [] X.env:=by rfl) (f:(jz pos<|hV [.Name x q] X.env).any (·.1)=false:=by rfl) :
    EW X E T (.Call (.Name "isinstance" p) [a,.Name x q] [] pos) (cK h λ(j:Bool->D->Prop) _ g=>j b g):=by
  refine e1a2 m λP n o=>?_
  refine#[_,xk JS k l qp (vI n (vI c vU e) i) (he:=i) (hpl:=f),λd F R r H j v Q s w z A=>o d F R r H _ v _ s w (λy g u B C G I J L M=>?_) A]
  refine e1a2 (Y5.ist (ty:=ty) (K:=X.K) M) λt N O=>?_
  exact#[u,ty,t,b,rfl,N,O,z _ g _ B C G I J L rfl]
end
end WL
namespace ZT
open PySem PySem.Spec PyProof.Rows
def Fv{i:Nat}(a:s.heap.IsTupleIter b t i)(h:s.heap.IsTuple t j)(k:j[i]?=↑x)
 (l:∀e,e.IsTupleIter b t (i+1)->jq b s.heap e->Q x { s with heap:=e}):ii (ik g w) A (jF<|.ref b) Q E s:=by
  obtain⟨o,d,n,c⟩:=id a;obtain⟨p,q,_,m,r⟩:=h;unfold jF
  refine am<|wpAny_callSpecial?_slot (name:=mB "__next__") a.typeIs mC<|jl mC a.typeIs sF ?_<|sj _
  show ii _ _ (uI (.ref b) 0 >>= _) _ _ s;refine am<|ju d c (x:=.ref t) rfl ?_
  show ii _ _ (uI (.ref b) 1 >>= _) _ _ s;refine am<|ju d c (x:=.int i 0) rfl ?_
  show ii _ _ (seqItems? (.ref t) >>= _) _ _ s;refine am<|lQ q r ?_;simp only[md,k]
  have f:Heap.IsTupleIter (s.heap.update b λu=>u.mapFields (·.setIfInBounds 1 (mq<|(i:Int)+1))) b t (i+1):=#[_,jj _ d<|Obj.isFreed_of_fields<|Obj.data_mapFields c _,(Obj.cls_mapFields ..).trans n,by rw[Obj.data_mapFields c];simp[mq]]
  exact am<|nL d c q0o<|ap #[x,rfl,ap<|l _ f<|o4 ..]
def Nq{i:Nat}(h:A.handled=none)(b:s.heap.IsTupleIter c t i)(k:s.heap.IsTuple t l)(n:l[i]?=none)
 (q:∀d e,Heap.ExtBut c s.heap d->(∃o,d.get? e=↑o/\o.cls=.type "StopIteration")->E (.ref e) 155):ii (ik j w) A (jF<|.ref c) Q E s:=by
  obtain⟨o,f,v,g⟩:=id b;obtain⟨p,r,_,m,u⟩:=k;unfold jF
  refine am<|wpAny_callSpecial?_slot (name:=mB "__next__") b.typeIs mC<|jl mC b.typeIs sF ?_<|sj _
  show ii _ _ (uI (.ref c) 0 >>= _) _ _ s;refine am<|ju f g (x:=.ref t) rfl ?_
  show ii _ _ (uI (.ref c) 1 >>= _) _ _ s;refine am<|ju f g (x:=.int i 0) rfl ?_
  show ii _ _ (seqItems? (.ref t) >>= _) _ _ s;refine am<|lQ r u ?_;simp only[md,n]
  refine am<|mG<|am<|nL f g q0o ?_;show ii _ _ (newExc (.type "StopIteration") [] >>= _) _ _ _
  refine am ?_;simp only[newExc,newTuple];refine am<|je ?_ (by size_fits)
  refine am (m:=qF _ _)<|ng (a:=Value.none) (by first|rfl|(simp only[qF];rfl))<|je ?_ (by size_fits)
  simp only[raiseNew];refine am<|wpAny_handled ?_;first|rw[show A.in1.handled=none from h]|rw[h]
  exact am<|ap<|wpAny_throw<|q _ _ (((o4 ..).extBut.push _).push _) #[_,iq _ rfl,rfl]
abbrev ZSt(h:jd)(z c d e g i j:hO)(f:hR)(k:Nat)(l m:Array hR):Prop :=
 sG h z c d f/\qH h c (.ref e) (.ref g)/\(∃a b,qH h d a b)/\h.IsTupleIter e i k/\h.IsTupleIter g j k/\h.IsTuple i l/\h.IsTuple j m
def Vb{g d:hO}{k:Nat}{Q:hR->h9->Prop}(D:ZipApart z g d l m H I)(st:ZSt s.heap z g d l m H I .none k xs ys)(hx:xs[k]?=↑x)(hy:ys[k]?=↑y)
 (hQ:∀h,sG h z g d (mq ⇑s)->qH h d x y->h.IsTupleIter l H (k+1)->h.IsTupleIter m I (k+1)->qH h ⇑s x y ->
 (∀c o,c≠z->c≠d->c≠l->c≠m->s.heap.get? c=↑o->h.get? c=↑o)->Q (.ref ⇑s) { s with heap:=h}) :
    ii (ik W w) A (Builtin.«zip.__next__» #[[.ref z],[]]) (λJ s'=>∃v,J=.done (.ret v)/\Q v s') E s:=by
  obtain⟨q,L,⟨a,b,M⟩,h1,h2,N,O⟩:=st
  show ii _ _ (uI (.ref z) 2 >>= _) _ _ _;refine am<|ju q rfl (x:=.bool false) rfl ?_
  show ii _ _ (uI (.ref z) 3 >>= _) _ _ _;refine am<|ju q rfl (x:=.ref g) rfl<|am<|lQ L rfl ?_
  show ii _ _ (ky (.ref z) >>= _) _ _ _;refine am ?_;unfold ky
  refine am<|ju q rfl (x:=.none) rfl<|ap ?_;simp only[if_true]
  refine am<|mG<|am<|ju q rfl (x:=.ref d) rfl<|am<|kf q q0o λg1 P i=>?_
  replace P:sG g1 z g d .ellipsis:=P;refine am ?_;simp only[vr,List.zipIdx_nil,List.forIn_cons,List.forIn_nil]
  refine am<|am<|pI ?_;show ii _ _ (jF (.ref l) >>= _) _ _ _
  refine am<|Fv (h1.extBut i.extBut D.i1z) (N.extBut i.extBut D.l1z) hx λg2 a2 n=>ap ?_
  have X:qH g2 d a b:=n.extBut _ _ D.TOi1<|i.extBut _ _ D.TOz M
  refine am<|lQ X rfl<|am<|qI X λg3 R p=>am<|sH<|ap ?_
  replace R:qH g3 d x b:=R
  refine am<|am<|pI ?_;show ii _ _ (jF (.ref m) >>= _) _ _ _
  refine am<|Fv (((h2.extBut i.extBut D.i2z).extBut n.extBut D.i12.symm).extBut p.extBut D.TOi2.symm) (((O.extBut i.extBut D.l2z).extBut n.extBut D.l2i1).extBut p.extBut D.l2TO) hy λg4 a4 r=>ap ?_
  have Y:qH g4 d x b:=r.extBut _ _ D.TOi2 R
  refine am<|lQ Y rfl<|am<|qI Y λf u t=>am<|sH<|ap<|ap ?_
  replace u:qH f d x y:=u
  refine am<|lQ u rfl<|am<|wpAny_newTuple ?_
  have Z:f.objs.size=⇑s:=by rw[t.1,r.1,p.1,n.1,i.1]
  have z5:sG f z g d .ellipsis:=t.extBut _ _ D.TOz.symm<|r.extBut _ _ D.i2z.symm<|p.extBut _ _ D.TOz.symm<|n.extBut _ _ D.i1z.symm P
  have k5:∀c o,c≠z->c≠d->c≠l->c≠m->s.heap.get? c=↑o->f.get? c=↑o:=λc o j B S T e=>t.extBut _ _ B<|r.extBut _ _ T<|p.extBut _ _ B<|n.extBut _ _ S<|i.extBut _ _ j e
  have q1:f.IsTupleIter l H (k+1):=((a2.extBut p.extBut D.TOi1.symm).extBut r.extBut D.i12).extBut t.extBut D.TOi1.symm
  have q2:f.IsTupleIter m I (k+1):=a4.extBut t.extBut D.TOi2.symm
  have lz:z<f.objs.size:=ie z5
  show ii _ _ (ou (.ref z) (.ref f.objs.size) >>= _) _ _ _;refine am ?_;unfold ou
  have z6:sG (f.push { cls:=.type "tuple",data:=.seq #v[x,y]}) z g d .ellipsis:=ci _ z5
  refine am<|kf z6 q0o λg7 U e7=>?_;replace U:sG g7 z g d (mq f.objs.size):=U
  refine kf U q0o λC F e8=>?_;replace F:sG C z g d (mq f.objs.size):=F
  have G:∀c o,c≠z->f.get? c=↑o->C.get? c=↑o:=λc o j e=>e8.extBut _ _ j<|e7.extBut _ _ j<|ci _ e
  have t8:qH C f.objs.size x y:=e8.extBut _ _ (jD lz)<|e7.extBut _ _ (jD lz)<|iq _ rfl
  rw[Z]at F t8;refine ap #[_,rfl,?_];show Q (.ref f.objs.size) _;rw[Z]
  exact hQ C F (G _ _ D.TOz u) (q1.at λo e=>G _ o D.i1z e) (q2.at λo e=>G _ o D.i2z e) t8 λc o j B S T e=>G c o j<|k5 c o j B S T e
def Y6{l f:hO}{k:Nat}(O:A.handled=none)(D:ZipApart z l f v y l1 l2)(st:ZSt s.heap z l f v y l1 l2 .none k P R)(m:P[k]?=none\/R[k]?=none)
 (S:∀B e,(∀c o,c≠z->c≠f->c≠v->c≠y->s.heap.get? c=↑o->B.get? c=↑o)->(∃o,B.get? e=↑o/\o.cls=.type "StopIteration")->E (.ref e) { s with heap:=B}) :
    ii (ik T w) A (Builtin.«zip.__next__» #[[.ref z],[]]) Q E s:=by
  obtain⟨n,C,⟨a,b,F⟩,U,h2,p,G⟩:=st
  show ii _ _ (uI (.ref z) 2 >>= _) _ _ _;refine am<|ju n rfl (x:=.bool false) rfl ?_
  show ii _ _ (uI (.ref z) 3 >>= _) _ _ _;refine am<|ju n rfl (x:=.ref l) rfl<|am<|lQ C rfl ?_
  show ii _ _ (ky (.ref z) >>= _) _ _ _;refine am ?_;unfold ky
  refine am<|ju n rfl (x:=.none) rfl<|ap ?_;simp only[if_true]
  refine am<|mG<|am<|ju n rfl (x:=.ref f) rfl<|am<|kf n q0o λg1 u d=>?_
  replace u:sG g1 z l f .ellipsis:=u;refine am ?_;simp only[vr,List.zipIdx_nil,List.forIn_cons,List.forIn_nil]
  refine am<|am<|pI ?_;show ii _ _ (jF (.ref v) >>= _) _ _ _
  cases H:P[k]? with
  |none =>
    refine am<|Nq O (U.extBut d.extBut D.i1z) (p.extBut d.extBut D.l1z) H λI e g J=>?_;obtain⟨L,i,r⟩:=J
    have W:sG I z l f .ellipsis:=g _ _ D.i1z.symm u
    have M:e≠z:=λq=>by subst q;rw[W]at i;cases i;simp at r
    exact kf W q0o λX _ j=>S X e (λc o t _ N _ q=>j.extBut _ _ t<|g _ _ N<|d.extBut _ _ t q) #[L,j.extBut _ _ M i,r]
  |some x =>
    have hy:R[k]?=none:=by rcases m with h|h;rw[H]at h;cases h;exact h
    refine am<|Fv (U.extBut d.extBut D.i1z) (p.extBut d.extBut D.l1z) H λI a2 g=>ap ?_
    have Y:qH I f a b:=g.extBut _ _ D.TOi1<|d.extBut _ _ D.TOz F
    refine am<|lQ Y rfl<|am<|qI Y λX p3 j=>am<|sH<|ap ?_
    refine am<|am<|pI ?_;show ii _ _ (jF (.ref y) >>= _) _ _ _
    refine am<|Nq O (((h2.extBut d.extBut D.i2z).extBut g.extBut D.i12.symm).extBut j.extBut D.TOi2.symm) (((G.extBut d.extBut D.l2z).extBut g.extBut D.l2i1).extBut j.extBut D.l2TO) hy λg4 e Z J=>?_
    obtain⟨L,i,r⟩:=J
    have z4:sG g4 z l f .ellipsis:=Z _ _ D.i2z.symm<|j.extBut _ _ D.TOz.symm<|g.extBut _ _ D.i1z.symm u
    have M:e≠z:=λq=>by subst q;rw[z4]at i;cases i;simp at r
    exact kf z4 q0o λg5 _ e5=>S g5 e (λc o t c2 N c4 q=>e5.extBut _ _ t<|Z _ _ c4<|j.extBut _ _ c2<|g.extBut _ _ N<|d.extBut _ _ t q) #[L,e5.extBut _ _ M i,r]
noncomputable abbrev tI(l:hO):Obj:={ cls:=.type "tuple_iterator",data:=.fields #v[.ref l,.int 0 0]}
noncomputable abbrev H1(h:jd)(a:hO):jd:=h.push<|tI a
noncomputable abbrev H2(h:jd)(a b:hO):jd:=(H1 h a).push<|tI b
noncomputable abbrev H3(h:jd)(a b:hO):jd:=(H2 h a b).push { cls:=.type "tuple",data:=.seq #v[.ref h.objs.size,.ref (H1 h a).objs.size]}
noncomputable abbrev H4(h:jd)(a b:hO):jd:=(H3 h a b).push { cls:=.type "tuple",data:=.seq #v[.none,.none]}
noncomputable abbrev H5(h:jd)(a b:hO):jd:=(H4 h a b).push { cls:=.type "zip",data:=.fields #v[.none,.bool false,.bool false,.ref (H2 h a b).objs.size,.ref (H3 h a b).objs.size]}
def made(a b:hO)(c e:Array hR):Meets (Builtin.«zip.__new__» #[[.type "zip",.ref a,.ref b],[]]) (λ_ R s=>s.heap.IsTuple a c/\s.heap.IsTuple b e/\R (.ok<|.ret<|.ref (H4 s.heap a b).objs.size) { s with heap:=H5 s.heap a b}) :=
 .of_wp λf w A R s h=>by
  obtain⟨i,g,d,j,k⟩:=s;obtain⟨m,n,h⟩:=h;have l:=sub_zip;have o:qO (Shared.heap #[i,g,d,j,k]) a c:=m;have p:qO (Shared.heap #[i.push<|tI a,g,d,j,k]) b e:=Heap.IsTuple.push n _
  wp_walk using rq o,rq p
  exact#[_,rfl,h]
def Rl(n:s.heap.IsTuple a p)(q:s.heap.IsTuple b r)
 (h:∀d,ZSt d (⇑s+4) (⇑s+2) (⇑s+3) ⇑s (⇑s+1) a b .none 0 p r->d.objs.size=⇑s+5->(∀c o,s.heap.get? c=↑o->d.get? c=↑o)->Q (.ref<|⇑s+4) 155) :
    ii (ik t w) A (call (.type "zip") [.ref a,.ref b]) Q E s:=by
  refine callType_new F.called_zip q0q (F.typeCall_zip_2 _ _) (F.newCall_zip_2 _ _) (λf=>F.args_object_init_3 f _ _) F.entry_zip_new (made a b p r) #[n,q,?_]
  have g:(H1 s.heap a).objs.size=⇑s+1:=jR ..
  have i:(H2 s.heap a b).objs.size=⇑s+2:=by rw[jR,g]
  have j:(H3 s.heap a b).objs.size=⇑s+3:=by rw[jR,i]
  have k:(H4 s.heap a b).objs.size=⇑s+4:=by rw[jR,j]
  have z:(H5 s.heap a b).objs.size=⇑s+5:=by rw[jR,k]
  have l:(H5 s.heap a b).get? (H4 s.heap a b).objs.size=↑_:=iq _ rfl
  have u:(H5 s.heap a b).get? (H3 s.heap a b).objs.size=↑_:=ci _<|iq _ rfl
  have v:(H5 s.heap a b).get? (H2 s.heap a b).objs.size=↑_:=ci _<|ci _<|iq _ rfl
  have y:(H5 s.heap a b).get? (H1 s.heap a).objs.size=↑_:=ci _<|ci _<|ci _<|iq _ rfl
  have B:(H5 s.heap a b).get? ⇑s=↑_:=ci _<|ci _<|ci _<|ci _<|iq _ rfl
  have m:∀c o,s.heap.get? c=↑o->(H5 s.heap a b).get? c=↑o:=λc o x=>ci _<|ci _<|ci _<|ci _<|ci _ x
  rw[i,j,k]at l;rw[g,i]at v;rw[j]at u;rw[g]at y;rw[k]
  exact#[#[_,l,rfl],h _ #[l,v,#[_,_,u],#[_,B,rfl,rfl],#[_,y,rfl,rfl],n.at λo e=>m _ o e,q.at λo e=>m _ o e] z m]
def walk(hh:A.handled=none)(z TI TO i1 i2 l1 l2:hO)(D:ZipApart z TI TO i1 i2 l1 l2)(xs ys:Array hR):WalksT prog w A z [z,TI,TO,i1,i2,l1,l2] [z,TO,i1,i2] (min xs.size ys.size)
   (λi vals=>∃x y,xs[i]?=↑x/\ys[i]?=↑y/\vals=#v[x,y]) (λi h=>ZSt h z TI TO i1 i2 l1 l2 .none i xs ys)
   (λi T h=>ZSt h z TI TO i1 i2 l1 l2 (mq T) (i+1) xs ys/\T≠z/\T≠TO/\T≠i1/\T≠i2) where
 sub:=λc hc=>by simp only[iO,jB,mH]at hc ⊢;rcases hc with q|q|q|q<;>simp[q]
 frame:=λi h h' st k=>by obtain⟨hz,hTI,⟨a,b,hTO⟩,h1,h2,hl1,hl2⟩:=st;exact#[k z q0o _ hz,k TI q0o _ hTI,#[a,b,k TO q0o _ hTO],h1.at λo e=>k i1 q0o o e,h2.at λo e=>k i2 q0o o e,hl1.at λo e=>k l1 q0o o e,hl2.at λo e=>k l2 q0o o e]
 item:=λi s Q E hi st hQ=>by have ix:i<xs.size:=iE hi<|Nat.min_le_left ..;have iy:i<ys.size:=iE hi<|Nat.min_le_right ..;have hT:s.TypeIs (.ref z) "zip":=⟨_,st.1,rfl⟩;unfold pyNext;refine am<|pG<|wpAny_callSpecial?_slot (name:=mB "__next__") hT qa<|jl qa hT F.entry_zip_next (Vb D st (jJ ix) (jJ iy) λh' a1 a2 a3 a4 a5 k=>ap ?_)<|F.args_zip_next_1 _;obtain⟨hz,hTI,⟨a,b,hTO⟩,h1,h2,hl1,hl2⟩:=st;have lt:∀{c o},s.heap.get? c=some o->⇑s≠c:=λe=>jD<|ie e;refine hQ ⇑s #v[xs[i],ys[i]] h' s.toks ⟨_,_,jJ ix,jJ iy,rfl⟩ (hW _) ⟨_,a5,rfl,_,rfl⟩ ⟨⟨a1,k _ _ D.TIz D.TITO D.TIi1 D.TIi2 hTI,⟨_,_,a2⟩,a3,a4,hl1.at λo e=>k _ o D.l1z D.l1TO D.l1i1 D.l1i2 e,hl2.at λo e=>k _ o D.l2z D.l2TO D.l2i1 D.l2i2 e⟩,lt hz,lt hTO,by obtain⟨_,e,_⟩:=h1;exact lt e,by obtain⟨_,e,_⟩:=h2;exact lt e⟩ ?_;exact λc o hc e=>k c o 124 124 124 124 e
 go:=λelts k pos i T s Q E hm hQ=>by obtain⟨⟨hz,hTI,⟨a,b,hTO⟩,h1,h2,hl1,hl2⟩,_⟩:=hm;refine wpAny_letOwnedTupleGo_zip hz λh' hz' e=>hQ h' #[hz',e.extBut _ _ D.TIz hTI,#[a,b,e.extBut _ _ D.TOz hTO],h1.extBut e.extBut D.i1z,h2.extBut e.extBut D.i2z,hl1.extBut e.extBut D.l1z,hl2.extBut e.extBut D.l2z] λc o hc q=>e.extBut _ _ 124 q
 apart:=λi T h hm hT=>by obtain⟨_,t1,t2,t3,t4⟩:=hm;simp only[iO,jB,mH]at hT;rcases hT with q|q|q|q;exact t1 q;exact t2 q;exact t3 q;exact t4 q
 done:=λs Q E st hQ=>by
  have a3m:xs[min xs.size ys.size]?=none\/ys[min xs.size ys.size]?=none:=by
   rcases Nat.le_total xs.size ys.size with h|h
   ·rw[Nat.min_eq_left h];exact .inl<|sS<|hW _
   ·rw[Nat.min_eq_right h];exact .inr<|sS<|hW _
  have hT:s.TypeIs (.ref z) "zip":=#[_,st.1,rfl];unfold pyNext;refine am<|pG<|wpAny_callSpecial?_slot (name:=mB "__next__") hT qa<|jl qa hT F.entry_zip_next (Y6 hh D st a3m λh' e k he=>?_)<|F.args_zip_next_1 _;obtain⟨o,ho,hc⟩:=he;exact am<|mK (T:="StopIteration") (b:=true) ⟨o,ho,hc⟩ isSubtype_stop<|ap<|hQ _ s.toks λc o hc e=>k c o 124 124 124 124 e
 self:=λi s Q E st hQ=>wpAny_pyIter_zip st.1 hQ
end ZT
namespace L2
open PySem PySem.Spec PyProof.Rows
def a3n:QP X (zX X.K) P:=#[λ{v J H1 g a b L M x} m N y A B=>by
 obtain⟨n,C,p,O⟩:=m.tuple y;obtain⟨q,D,r,R⟩:=m.tuple A;have h:g.heap.get? P=↑(rC x):=m.wy P _ B;have i:qO g.heap a n.toArray:=p;have j:qO g.heap b q.toArray:=r
 have f:∀(l:hO)(d:Array hR),g.heap.IsTuple l d->l≠P:=λl d s=>e1a3 s λo e c _ z=>by rw[z,h]at e;cases e;cases c
 have k:∀(l:hO)(d:Array hR),g.heap.IsTuple l d->l<⇑g:=λl d s=>e1a2 s λo e _=>ie e;refine#[n,q,C,D,k _ _ i,k _ _ j,f _ _ i,f _ _ j,λQ E F=>ZT.Rl i j λG t u H=>?_]
 exact F G _ _ (λS I=>(ZT.walk (prog:=X.prog) (w:=X.w) I _ _ _ _ _ _ _ (zipApart_new (k _ _ i) (k _ _ j)) n.toArray q.toArray).toU) t u H]
end L2
namespace HT
variable[L2.GX]
open PySem PySem.Spec PyProof.Rows
def BX{a:Option Int}(b:IsTup s.heap t items)(i:s.heap.IsSliceOf sl k l .none)(m:qC k a)(n:qC l c)
 (hw:xL items.size 0 a=0/\xL items.size items.size c=items.size)(h:Q (.ref t) s):ii (ik j w) A (oH (.ref t)<|.ref sl) Q E s:=by
  refine e1a3 (id i) λo d e p=>?_
  have f:s.TypeIs (.ref sl) "slice":=#[o,d,e]
  unfold oH
  try with_reducible refine iX ?_
  first|refine am (ap ?_)|skip
  refine am<|wpAny_sequenceKey b.typeIs q0q ?_
  refine am (wpAny_callSpecial?_slot (name:=mB "__getitem__") b.typeIs kW
    (jl kW b.typeIs entry_tuple_getitem ?_ (args_tuple_getitem _ _)))
  show ii _ _ (qv (.ref t) >>= _) _ _ s
  refine am<|tupleItemsOf_ b ?_
  refine am<|lA f ?_
  rw[hI q0q]
  refine am<|zY i m n ?_
  have g:(((xL items.size 0 a:Nat):Int)==0&&(1:Int)==1&&(xL items.size items.size c-xL items.size 0 a)==items.size)=true:=by
    rw[hw.1,hw.2]
    simp
  show ii _ _ (if (((xL items.size 0 a:Nat):Int)==0&&(1:Int)==1&&(xL items.size items.size c-xL items.size 0 a)==items.size)=true then _ else _) _ _ s
  rw[hI g]
  refine am<|am<|lA b.typeIs<|ap ?_
  rw[hI q0q]
  first
    | exact am<|mG<|ap #[_,rfl,ap h]
    | exact am<|mG<|am<|ap<|ap #[_,rfl,ap h]
    | exact am<|am<|mG<|ap<|ap #[_,rfl,ap h]
end HT
namespace L2
variable[L2.GX]
open PySem PySem.Spec PyProof.Rows
def a06(K:hJ):V->Option Int->Option Int->Hp->VK->Prop:=λx c d H Q=>∃a b,x=.ref a/\zX K H a b/\(HT.xL b.length 0 c=0/\HT.xL b.length b.length d=b.length)/\Q (.ref a) H
def Vc:W0 X (a06 X.K):=by
 intro d s n H x v o p t u w Q I f g i j h;obtain⟨a,k,rfl,l,m,q⟩:=h;cases f;refine e1a3 (I.tuple l) λc r e y=>?_;have b:c.toArray.size=k.length:=by rw[iu];exact r.length.symm
 refine#["tuple",_,PyProof.Rows.slot_tuple_getitem.lookup,e.typeIs,?_];exact HT.BX e g i j (by rw[b];exact m) #[.ref a,H,I,rfl,q]
end L2
namespace WL
variable[L2.GX]
open PySem L2
open Rep (rp)
open Ow (sl)
open Sls (rel)
section
variable{D:Type}[Sls D]
def wG.Rm{F R:Rg}{H c:Hp}{d:D}{f:St}(s:wG T F R H d f)(k:∀b o,b≠T->H b=↑o->c b=↑o)(t:TabAt c T):Ch T F R H F R c/\wG T F R c d f:=by
 refine#[#[λb o _ n h=>k b o n h,λ_ h=>.inl h,λ_ h=>.inl h,λ_ h _=>h],Sls.st s.rel (G:=λa=>a=T) #[λb o n h=>k b o n h,λ_ h=>.inl h] (λa h=>by rw[h];exact s.wx)<|λa h z=>s.wd (by rw[<- z];exact h),s.sub,λa h=>?_,t,s.wx,s.wd];by_cases e:a=T
 ·rw[e];exact Ac t
 ·cases q:H a with
  |none=>exact iv q<|s.xP a h
  |some o=>rw[k a o e q];simp
def Fw{x:Tp Int}(h:rp R H x v):∃a,v=.ref a/\H a=↑(.tup<|x.l.map V.int):=by refine e2a4 h λa vs e _ h3 h4=>?_;exact#[a,e,by rw[h3,paired_ints h4]]
def Fx{x:List Int}(h:rp R H x v):∃a,v=.ref a/\H a=↑(.lst<|x.map V.int):=by refine e2a4 h λa vs e _ h3 h4=>?_;exact#[a,e,by rw[h3,paired_ints h4]]
def Rn(A:EW X E T h B)(G:EW X E T f I)(J:∀{i:TA},PA X [h,f] i->PE X e (a0M X.K T i))
 (L:hV [h,f] X.env=(false,eval h X.env)::hV [f] X.env:=by rfl) (j:hV [f] X.env=(false,eval f X.env)::hV [] X.env:=by rfl) :
    EW X E T e (cB B I λM (o:Bool->D->Prop) N l=>o (Aw M N) l):=by
  refine e1a2 A λi O P=>?_
  refine e1a2 G λtb S U=>?_
  refine#[_,J<|vI O (vI S vU j) L,λd F R p H o q Q s W Y r=>?_]
  refine P d F R p H _ q _ s W (λx Z u F1 R1 H1 q1 w g r1=>?_) r
  refine U Z F1 R1 p H1 _ q _ g q1 (λy l v F2 R2 H2 q2 z m r2=>?_) λC y d' F' R' n k c s'=>r C y d' F' R' n k (Ch.trans s g.tab w c) s'
  obtain⟨a,rfl,ha⟩:=Fx<|g.val z r1
  obtain⟨b,rfl,hb⟩:=Fx r2
  refine#[a,b,x,y,rfl,wR.of ha,wR.of hb,m.tab,λn k _ t=>?_]
  obtain⟨c3,s3⟩:=m.Rm k t
  exact Y _ l _ F2 R2 n q2 (Ch.trans s g.tab w<|Ch.trans g m.tab z c3) s3 rfl
def Ro{p q:Wf D (Tp Int) D}(I:EW X E T h p)(J:EW X E T f q)(L:∀{i:TA},PA X [h,f] i->PE X e (YE X.K T i))
 (M:hV [h,f] X.env=(false,eval h X.env)::hV [f] X.env:=by rfl) (j:hV [f] X.env=(false,eval f X.env)::hV [] X.env:=by rfl) :
    EW X E T e (cB p q λN (r:Bool->D->Prop) O m=>r (Aw N.l O.l) m):=by
  refine e1a2 I λi P S=>?_
  refine e1a2 J λtb U W=>?_
  refine#[_,L<|vI P (vI U vU j) M,λd F R w H r z Q s Y Z A=>?_]
  refine S d F R w H _ z _ s Y (λx d1 u F1 R1 H1 q1 B g r1=>?_) A
  refine W d1 F1 R1 w H1 _ z _ g q1 (λy m v F2 R2 H2 q2 G n r2=>?_) λC y d' F' R' o k c s'=>A C y d' F' R' o k (Ch.trans s g.tab B c) s'
  obtain⟨a,rfl,ha⟩:=Fw<|g.val G r1
  obtain⟨b,rfl,hb⟩:=Fw r2
  refine#[a,b,x.l,y.l,rfl,zX.of ha,zX.of hb,n.tab,λo k _ t=>?_]
  obtain⟨c3,s3⟩:=n.Rm k t
  exact Z _ m _ F2 R2 o q2 (Ch.trans s g.tab B<|Ch.trans g n.tab G c3) s3 rfl
def OV{N O:Option i8}{P:Wf D (Tp Int) D}{S U:Wf D (Option Int) D}(ha:EW X E T a P)(hl:OW X E T N S)(hh:OW X E T O U) :
  EW X E T (.Subscript a (.Slice N O none p2) pos) (λ(d:D)(W:Tp Int->D->Prop) f=>P d (λg r=>S r (λl t=>U t (λh n=>W #[Gp g.l l h] n) f) f) f):=by
 refine e1a2 ha λta a1 a2=>?_;refine e1a2 hl λtl l1 l2=>?_;refine e1a2 hh λth h1 h2=>?_;refine#[_,A4 (Yi.or Vc) a1 l1 h1,λd F R v H W f Q s j Y w=>?_];refine a2 d F R v H _ f _ s j (λg r u F1 R1 H1 q1 x i r1=>?_) w;refine l2 r F1 R1 v H1 _ f _ i q1 (λl t F2 R2 H2 q2 Z z=>?_) λC y A B G I k c J=>w C y A B G I k (Ch.trans s i.tab x c) J;refine h2 t F2 R2 v H2 _ f _ z q2 (λh n F3 R3 H3 q3 c3 o=>?_) λC y A B G I k c J=>w C y A B G I k (Ch.trans s i.tab x<|Ch.trans i z.tab Z c) J;have m:=Ch.trans i z.tab Z c3;have r3:=i.val m r1;obtain⟨q,b,rfl,k1,L,M⟩:=id r3;have cc:=Ch.trans s i.tab x m;have le:=Paired.length M;by_cases j:HT.xL b.length 0 l=0/\HT.xL b.length b.length h=b.length
 ·refine .inr #[q,b,rfl,zX.of L,j,?_];refine Y _ n _ F3 R3 H3 q3 cc o #[q,b,rfl,k1,L,?_]
  have e:Gp g.l l h=g.l:=by unfold Gp;rw[le,j.1,j.2,List.drop_zero,Nat.sub_zero,<- le,vt]
  rw[e];exact M
 ·refine .inl #[q,b,rfl,zX.of L,j,λp hp=>?_];refine e0a3 (o.new (.tup<|E5 b l h) hp) λs4 c4 n4=>?_;exact Y _ n _ F3 R3 _ q3 (Ch.trans s o.tab cc c4) s4 #[p,_,rfl,n4,vF,o.vals c4<|Fo M l h]
end
structure SI(w:ji) where
 l:List Int
instance(w:ji):Ow (SI w):=#[λF _ H x v=>∃a ks,v=↑(.ref a)/\(∀b,F b↔b=a)/\H a=↑(xV w a ks)/\ks.Nodup/\(∀k,k∈ks↔k∈x.l)/\x.l.Pairwise (· < ·),
 λh e s n=>by
  refine e2a4 h λa ks h1 h2 h3 h4=>?_
  exact#[a,ks,h1,h2,e.keep a _ (n a<|(h2 a).mpr rfl) h3,h4],
 λh e=>by
  refine e2a4 h λa ks h1 h2 h3 h4=>?_
  exact#[a,ks,h1,λb=>(e b).symm.trans (h2 b),h3,h4]]
noncomputable def Gv(k:Int)(l:List Int):List Int:=if k∈l then l else ins k l
noncomputable def LK(k:Int)(l:List Int):List Int:=l.filter λx=>decide<|x≠k
def xg{a b:List Int}(c:a.Nodup)(d:b.Nodup)(h:∀k,k∈a↔k∈b):a.Perm b:=(List.perm_ext_iff_of_nodup c d).mpr h
def v6{l:List Int}(h:l.Pairwise (· < ·)):l.Nodup:=h.imp λq=>tY q
def Nr{l:List Int}(h:l.Pairwise (· < ·)):l.Pairwise (·<=·):=h.imp λq=>Int.le_of_lt q
def Xm{l:List Int}(h:l.Pairwise (·<=·))(n:l.Nodup):l.Pairwise (· < ·):=List.Pairwise.imp₂ (λa b (q:a<=b) (n:a≠b)=>by lia) h n
def CZ{k:Int}:k∈El l↔k∈l:=(yJ l).mem_iff
def Fy{a:List Int}(n:a.Nodup)(h:∀k,k∈a↔k∈l)(r:l.Pairwise (· < ·)):El a=l:=Ad ((yJ a).trans<|xg n (v6 r) h) (CQ a)<|Nr r
set_option tactic.hygienic true in
def C0{k x:Int}:x∈Gv k l↔x=k\/x∈l:=by
 unfold Gv;split
 ·rename_i h
  exact#[.inr,λz=>z.elim (λe=>by rw[e];exact h) id]
 ·rw[(Bf k l).mem_iff,iO]
set_option tactic.hygienic true in
def EA{k:Int}{l:List Int}(r:l.Pairwise (· < ·)):(Gv k l).Pairwise (· < ·):=by
 unfold Gv;split
 ·exact r
 ·rename_i h
  exact Xm (HS k l<|Nr r)<|(Bf k l).nodup_iff.mpr<|List.nodup_cons.mpr #[h,v6 r]
def Bj{k x:Int}:x∈LK k l↔x∈l/\x≠k:=by unfold LK;rw[j4];simp
section
variable{D PO τ:Type}[Sls D][Sls PO][Ow τ]{α:Type}[Rep α]
def Vd(j:X.w=w)(l:Gl X "set")(m:X.mg "set"=none):EO X E T (.Call (.Name "set" p) [] [] pos) (λ(d:D)(e:SI w->D->Prop) _=>e #[[]] d):=by
 subst j;refine#[_,Lh OR l m oF,λd F R v H e x Q s n r y=>#[rfl,λp c=>?_]];refine e0a3 (s.new (xV X.w p []) c) λf t g=>?_;have u:¬F p:=λz=>g<|s.sub p z;have i:Ext (λ_=>False) R H (λa=>R a\/a=p) (upd H p<|xV X.w p []):=⟨λb o _ h=>by rw[vB<|vM h c];exact h,λa h=>h.elim .inl λq=>.inr<|by rw[q];exact c⟩;refine r ⟨[]⟩ d _ (λa=>a=p) F (λa=>R a\/a=p) _ n #[t.keep,i.new,λa h=>h.elim (λq=>.inr<|by rw[q];exact c) .inl,λa h _=>.inl h] #[Sls.st s.rel i 121<|λ_ _ z=>z,λa h=>.inl<|s.sub a h,λa h=>?_,f.tab,.inl s.wx,s.wd] #[#[p,[],rfl,λb=>Iff.rfl,vF,oo,λ_=>Iff.rfl,iW],λa h=>.inr h,λa h k=>u (by rw[<- h];exact k),λh=>g<|by rw[<- h];exact s.wx];rcases h with h|h
 ·exact f.xP a h
 ·rw[h,vF];simp
def tw_inS(i:Nat)(j:X.w=w)[Sls m][A:At i D (SI w) m](n:EW X E T a o)(q:PE X (.Name x p) (v9 i))(r:jm .In (.Name x p)=false) :
  TW X E T (.Compare a [.In] [.Name x p] pos) (cK o λf k c=>f (decide<|k∈(A.get c).l) c):=by
 subst j;refine e1a2 n λY t y=>?_;refine#[_,yC YG t q r,λd F R z H f B Q s C G I=>y d F R z H _ B _ s C (λk c u J L M N O g P=>?_) I];obtain⟨v,Z,G2,S,h2,⟨b,h,rfl,g2,U,g4,W,g6⟩,_⟩:=A.take g.rel;refine#[_,S,k,b,h,P,rfl,U,_,rfl,?_];have e:decide (k∈h)=decide (k∈(A.get c).l):=by simp only[W]
 rw[e];exact G _ c J L M N O g
def EB{i:Nat}[Sls x][A:At i D (SI w) x][U:Pt i x (SI w) D](s:wG T F R H d y):∃a g,y[i]?=↑(some<|.ref a)/\H a=↑(xV w a g)/\g.Nodup/\(∀k,k∈g↔k∈(A.get d).l)/\(A.get d).l.Pairwise (· < ·) /\
  ∀(j f:List Int),f.Nodup->(∀k,k∈f↔k∈j)->j.Pairwise (· < ·)->Ch T F R H F R (upd H a<|xV w a f)/\wG T F R (upd H a<|xV w a f) (U.put (A.hole d) #[j]) y:=by
 obtain⟨v,W,X,B,m,⟨a,g,rfl,p,C,E,G,I⟩,J⟩:=A.take s.rel;have r:F a:=(m.all a).mpr<|.inl<|(p a).mpr rfl;have L:a≠T:=λz=>s.wd (by rw[<- z];exact r);refine#[a,g,B,C,E,G,I,λj f M N O=>?_];have P:=zC (F:=F) (R:=R) (H:=H) (a:=a) (o:=xV w a f);have Q:∀c,c=a->R c:=λc z=>by rw[z];exact s.sub a r
 have k:∀b u,b≠a->H b=↑u->upd H a (xV w a f) b=↑u:=λb u z e=>by rw[vB z];exact e
 refine#[#[λb o n _ e=>k b o (λz=>n<|by rw[z];exact r) e,λ_ h=>.inl h,λ_ h=>.inl h,λ_ h _=>h],Pt.same (A:=U) (Sls.st J P Q λc z q=>m.yU c ((p c).mpr q) z) B m #[a,f,rfl,p,vF,M,N,O],s.sub,λc z=>?_,?_,s.wx,s.wd]
 ·by_cases e:c=a
  ·rw[e,vF];simp
  ·rw[vB e];exact s.xP c z
 ·refine e1a2 s.tab λS e t=>?_;exact#[S,k _ _ (λz=>L z.symm) e,t]
set_option tactic.hygienic true in
def Ve(i:Nat)(S:X.w=w)[Sls B][A:At i D (SI w) B][U:Pt i B (SI w) D][J:Pj D PO n](h:EW X E T e W)
 (Y:∀{t:TA},PA X [e] t->PS X (.Expr (.Call (.Attribute (.Name x Z) "add" p2) [e] [] p3) pos) (GI<|YH X.w (λx vs H Q=>∃(a:hO)(f:List Int)(k:Int),x=.ref a/\vs=[.int k]/\H a=↑(xV X.w a f)/\f.length+1<=127/\∀b:List Int,b.Nodup->b.Perm (if k∈f then f else k::f)->Q .xj (upd H a<|xV X.w a b)) (v9 i) t)) (hs:hV [e] X.env=71::hV [] X.env:=by rfl) :
    S1 X E T ms n (.Expr (.Call (.Attribute (.Name x Z) "add" p2) [e] [] p3) pos) (cS W J.pj λ(I:D->Prop)(Kr:τ->PO->Prop) y g=>(A.get g).l.length<127/\I (U.put (A.hole g) #[Gv y (A.get g).l])):=by
  subst S
  refine e1a2 h λt h1 h2=>?_
  refine#[_,Y<|vI h1 vU hs,λd F R L H I Kr Ke En s hw kn kr ke=>?_]
  refine e2a4 (EB (i:=i) s) λa f j p g3 _=>?_
  refine#[_,j,#[a,f,rfl,p],h2 d F R L H _ _ _ s hw (λy g v M u N q c m r=>?_) λC y g M u N q c m=>?_]
  · obtain⟨a', b, O, k2, k3, o, P, k6⟩ := EB (i := i) m
    rw[j]at O
    cases O
    subst r
    have aa:b.length=(A.get g).l.length:=(xg k3 (v6 P) o).length_eq
    refine#[a,b,y,rfl,rfl,k2,by have:=q.1;lia,λus nu pu=>?_]
    obtain⟨c2,s2⟩:=k6 (Gv y (A.get g).l) us nu (λk=>by
      rw[pu.mem_iff,C0]
      split
      · rename_i hy
        rw[o]
        exact#[.inr,λz=>z.elim (λe=>by rw[e];exact(o y).mp hy) id]
      · rw[iO, o]) (EA P)
    exact kn _ M u _ L q.2 (Ch.trans s m.tab c c2) s2<|Ag.refl _ _
  · refine e1a2 (wN (PO := PO) m) λG j p => ?_
    exact ke C y _ G u N q (c.less j) p
set_option tactic.hygienic true in
def Vf(i:Nat)(W:X.w=w)[Sls B][A:At i D (SI w) B][U:Pt i B (SI w) D][J:Pj D PO n](h:EW X E T e Y)
 (Z:∀{t:TA},PA X [e] t->PS X (.Expr (.Call (.Attribute 161 "discard" p2) [e] [] p3) pos) (GI<|YH X.w (λx vs H Q=>∃(a:hO)(f:List Int)(k:Int),x=.ref a/\vs=[.int k]/\H a=↑(xV X.w a f)/\∀b:List Int,b.Nodup->(if k∈f then f.Perm (k::b) else b=f)->Q .xj (upd H a<|xV X.w a b)) (v9 i) t)) (hs:hV [e] X.env=71::hV [] X.env:=by rfl) :
    S1 X E T ms n (.Expr (.Call (.Attribute 161 "discard" p2) [e] [] p3) pos) (cS Y J.pj λ(I:D->Prop)(Kr:τ->PO->Prop) y g=>I<|U.put (A.hole g) #[LK y (A.get g).l]):=by
  subst W
  refine e1a2 h λt h1 h2=>?_
  refine#[_,Z<|vI h1 vU hs,λd F R L H I Kr Ke En s hw kn kr ke=>?_]
  refine e2a4 (EB (i:=i) s) λa f j p g3 _=>?_
  refine#[_,j,#[a,f,rfl,p],h2 d F R L H _ _ _ s hw (λy g v M u N q c m r=>?_) λC y g M u N q c m=>?_]
  · obtain⟨a', b, O, k2, k3, k4, k5, k6⟩ := EB (i := i) m
    rw[j]at O
    cases O
    subst r
    refine#[a,b,y,rfl,rfl,k2,λP nu o=>?_]
    obtain⟨c2,s2⟩:=k6 (LK y (A.get g).l) P nu (λk=>by
      rw[Bj,<- k4]
      split at o
      · rename_i S
        have nk:y∉P:=(List.nodup_cons.mp<|o.nodup_iff.mp k3).1
        rw[o.mem_iff,iO]
        exact#[λz=>#[.inr z,λe=>nk<|by rw[<- e];exact z],λz=>z.1.elim (λe=>iv e z.2) id]
      · rename_i S
        rw[o]
        exact#[λz=>#[z,λe=>S (by rw[<- e];exact z)],λz=>z.1]) (kj _ k5)
    exact kn _ M u _ L q (Ch.trans s m.tab c c2) s2<|Ag.refl _ _
  · refine e1a2 (wN (PO := PO) m) λG j p => ?_
    exact ke C y _ G u N q (c.less j) p
def LL(i:Nat)(j:X.w=w)[Sls k][A:At i D (SI w) k](m:X.calm=true)(n:Gl X "sorted")(o:X.mg "sorted"=none)(q:PE X (.Name x r) (v9 i)) :
  EO X E T (.Call (.Name "sorted" p) [.Name x r] [] pos) (λ(d:D)(b:OL Int->D->Prop) _=>(A.get d).l.length<64/\b #[(A.get d).l] d):=by
 subst j;refine#[_,xk (CO m) n o kT<|vI q vU,λd F R N H b O Q s c t P=>?_];obtain⟨v,S,U,u,W,⟨a,e,rfl,Y,y,f,g,h⟩,Z⟩:=A.take s.rel;have z:e.length=(A.get d).l.length:=(xg f (v6 h) g).length_eq;refine#[_,u,a,e,rfl,y,by have:=c.1;omega,λl ns B C G=>?_];rw[Fl C G,Fy f g h];refine e1a3 (yp s B<|yK (R:=R) (H:=H) (A.get d).l) λI J L M=>?_;exact t _ d _ _ F I _ c.2 J L M
def HZ{K:hJ}{xs:List α}{vs:List V}:Z1 (Itt K a) xs (λR H=>H a=↑(.tup vs)/\Paired (rp R H) xs vs) where
 go:=λ{R H i} p h=>by refine e1a2 (xD (i:=i) (x:=xs[i]) p.2<|by simp[h]) λv e _=>?_;exact#[vs,v,zX.of p.1,e]
 Jo:=λ{R H i v H'} p _ hi y=>by obtain⟨e,y⟩:=y;subst e;have y':=y vs<|zX.of p.1;refine e1a2 (xD (i:=i) (x:=xs[i]) p.2<|by simp[hi]) λu e r=>?_;rw[y']at e;cases e;exact#[.inl rfl,_,by simp[hi],r]
 stop:=λ{R H} p=>#[vs,zX.of p.1,by rw[Paired.length p.2];exact hW _]
def Rp{w:Wf D (Tp α) D}(h:EW X E T e w):IW X E T is tg e (λ(b:D)(_:List α)=>b) (cK w λKn x d'=>Kn x.l d'):=by refine e1a2 h λt h1 h2=>?_;refine#[_,Ya h1,λd F R σ H Kn Ke Rk s hw kn ke=>h2 d F R σ H _ _ _ s hw (λxs d' v F' R' H' q c s' r=>?_) ke];obtain⟨a,vs,rfl,r1,r2,r3⟩:=r;refine#[a,rfl,#[vs,zX.of r2],kn xs.l d' _ (λR H=>(H a=↑(.tup vs)/\Paired (rp R H) xs.l vs)/\¬R a) F' (λ_=>False) F' R' H' q c s'.Uf (two_nil F') s'.rel #[λp=>HZ.go p.1,λp=>HZ.Jo p.1,λp=>HZ.stop p.1] #[#[r2,r3],r1] (λp gs nf ex=>?_) λb' G2 Xg KP Q2 σ' p h g t=>Sls.fq h<|two_eq t λ_ z=>z];have na:¬_:=λz=>p.2<|gs a z;exact#[#[ex.keep a _ na p.1.1,wT (ex.wide gs) p.1.2],ex.not p.2 p.1.1]
def C3{a:iK}{C:hO}[Sls c][J:Pj D PO n](e:PS X a (LF C E<|B3 (tC x) Cn)):S1 X E T j n a (λ(d:D)(_:c->Prop)(_:τ->PO->Prop) b=>b C<|J.pj d):=by refine⟨_,e,λd F R k H l m b o s f p q g=>#[(by show 1<=hZ;decide),λy=>?_]⟩;refine e1a2 (wN (PO:=PO) s) λG h i=>?_;exact g C y _ G R H f ((61).less h) i
end
def yV(l:List Int):Prop:=l.Pairwise (· < ·)
noncomputable def asc(a:List Int):Bool:=Aw a<|a.drop 1
def a07(b:List c):Gp b ↑1 none=b.drop 1:=by
 unfold Gp;rw[HT.JI,show ↑(1:Int)=some ((1:Nat):Int) from rfl,HT.M7]
 cases b with
 |nil=>rfl
 |cons a r =>
  rw[show min 1 (a::r).length=1 by simp,jK];rw[nw];exact hW _
def Rq{a b:Int}:asc (a::b::r)=(decide (a<b)&&asc (b::r)):=rfl
def BO:∀(c:List Int),asc c=true↔yV c
 | []=>#[λ_=>iW,λ_=>rfl]
 | [a]=>#[λ_=>kF _ _,λ_=>rfl]
 |a::b::r=>by
  rw[Rq,jc,jf,BO (b::r)];constructor
  ·rintro⟨d,f⟩;refine List.pairwise_cons.mpr #[λx g=>?_,f];rcases List.mem_cons.mp g with e|e
   ·rw[e];exact d
   ·exact Int.lt_trans d<|(List.pairwise_cons.mp f).1 x e
  ·intro h;exact#[(List.pairwise_cons.mp h).1 b ic,(List.pairwise_cons.mp h).2]
def H0(a:yV b)(c:yV d)(h:∀k,k∈b↔k∈d):b=d:=Ad (xg (v6 a) (v6 c) h) (Nr a)<|Nr c
noncomputable def LM(l:List Int)(k:Int):List Int:=if k∈l then LK k l else Gv k l
def Nt{k:Int}(h:yV l):yV (LM l k):=by
 unfold LM;split
 ·exact kj _ h
 ·exact EA h
set_option tactic.hygienic true in
def Vg{k x:Int}:x∈LM l k↔((x∈l)↔¬x=k):=by
 unfold LM;split
 ·rename_i h
  rw[Bj];constructor
  ·intro⟨a,b⟩;exact#[λ_=>b,λ_=>a]
  ·intro z;by_cases e:x=k
   ·rw[e]at z;exact iv (z.mp h) q0o
   ·exact#[z.mpr e,e]
 ·rename_i h
  rw[C0];constructor
  ·rintro(a|a)
   ·subst a;exact#[λz=>iv z h,λz=>iv rfl z]
   ·exact#[λ_ e=>h (by rw[<- e];exact a),λ_=>a]
  ·intro z;by_cases e:x=k
   ·exact .inl e
   ·exact .inr<|z.mpr e
noncomputable def xr(l r:List Int):List Int:=r.foldl LM l
def Bk:∀{r l:List Int},yV l->yV (xr l r)
 | [],_,h=>h
 |_::r,_,h=>Bk (r:=r)<|Nt h
def Cu:∀{r l:List Int} {x:Int},r.Nodup->(x∈xr l r↔((x∈l)↔¬x∈r))
 | [],l,x,_=>by simp[xr]
 |k::r,l,x,h=>by
  have a:=List.nodup_cons.mp h;show x∈xr (LM l k) r↔_;rw[Cu a.2,Vg,iO];by_cases e:x=k
  ·subst e;simp[a.1]
  ·simp[e]
def Rr{r:List Int}{x:Int}(a:r.Nodup)(h:x∈xr l r):x∈l\/x∈r:=by
 rw[Cu a]at h;by_cases q:x∈r
 ·exact .inr q
 ·exact .inl<|h.mpr q
noncomputable def PY(a:List (List Int)):List Int:=a.foldl xr []
def C4:∀{rows:List (List Int)} {l:List Int},yV l->yV (rows.foldl xr l)
 | [],_,h=>h
 |_::r,_,h=>C4 (rows:=r)<|Bk h
def Vh(a:List (List Int)):yV (PY a):=C4 iW
def xo{l U:List Int}(h:yV l)(s:∀x∈l,x∈U):l.length<=U.length:=SX.Aa _ _ (v6 h) s
noncomputable def jn(a b:List Int):List Int:=El<|a.filter (λk=>!decide (k∈b))++b.filter λk=>!decide (k∈a)
def Ia{k:Int}:k∈jn a b↔(k∈a/\k∉b)\/(k∈b/\k∉a):=by unfold jn;rw[CZ,mJ,j4,j4];simp
def Ib(c:yV d)(f:yV g):yV (jn d g):=by refine Xm (CQ _)<|(yJ _).nodup_iff.mpr<|List.nodup_append.mpr ⟨kj _<|v6 c,kj _<|v6 f,λa h b i e=>?_⟩;subst e;have j:=(List.mem_filter.mp h).1;have k:=(List.mem_filter.mp i).2;simp[j]at k
def Xn(e:yV c)(f:yV d):jn c d=xr c d:=H0 (Ib e f) (Bk e) λk=>by rw[Ia,Cu<|v6 f];by_cases a:k∈c<;>by_cases b:k∈d<;>simp[a,b]
def wV:∀{a:List k} {K:List g->S->Prop},(∀x∈a,∀K:Option g->S->Prop,K (f x) s->b x s K)->K (a.filterMap f) s->CY b a s K:=by
 intro i
 induction i with
 |nil=>intro _ _ h;exact h
 |cons x a c =>
  intro K d h;refine d x ic _<|c (λy j=>d y<|ij _ j) ?_
  have e:(x::a).filterMap f=(f x).toList++a.filterMap f:=by rw[lu];cases f x<;>rfl
  rw[e]at h;exact h
def filterMap_filter(p:b->Bool):∀a:List b,a.filterMap (λx=>if p x=true then some x else none)=a.filter p
 | []=>rfl
 |x::a=>by rw[lu,jN,filterMap_filter p a];cases p x<;>rfl
def wW(I:List j->B->Prop):∀(a:List j) {s:B},I a s->(∀x r s,(∃p,a=p++x::r)->I (x::r) s->∀K:B->Prop,(∀c,I r c->K c)->b x s K k l)->(∀s,I [] s->m s)->LJ b a s m k l:=by
 intro d
 induction d with
 |nil=>intro s h _ f;exact f s h
 |cons x a g=>intro s h i f;exact i x a s #[[],rfl] h _ λc n=>g n (λy r o d=>e1a1 d λp e q=>i y r o #[x::p,by rw[e];rfl] q) f
def wB{n:Nat}(h:n<=1000):n<=hZ:=my<|OC h
structure Bd(C:hO)(fl:Bool) where
 rk:List (Int×Int)
 bd:List 115
 up:Int
 ht:List (Int×Int)
 th:List (Int×Int)
noncomputable def lk{a:Type}(l:List (Int×a))(k:Int):Option a:=(l.find? λe=>decide<|e.1=k).map (·.2)
noncomputable def Cc(l:List (Int×Int)):List (Key×V):=l.map λe=>(iM e.1,V.int e.2)
def C6(R:Rg)(H:Hp):List 115->List (Key×V)->Prop:=Paired λe u=>u.1=iM e.1/\rp R H (Tp.mk e.2) u.2
noncomputable def zv(a b c d:hO)(e:Int)(f:Bool):List (Str×V):=("ranks",.ref a)::("borders",.ref b)::("upcoming",.int e)::(if f=true then [("head_by_tail",.ref c),("tail_by_head",.ref d)] else [])
noncomputable def adr(p dx d1 d2 d3 d4:hO)(fl:Bool):List hO:=p::dx::d1::d2::(if fl=true then [d3,d4] else [])
structure Fz(C:hO)(fl:Bool)(R:Rg)(H:Hp)(x:Bd C fl)(p dx d1 d2 d3 d4:hO)(us:List (Key×V)):Prop where
 nd:(adr p dx d1 d2 d3 d4 fl).Nodup
 ob:H p=↑(.ins C dx<|zv d1 d2 d3 d4 x.up fl)
 ow:H dx=↑(.own p)
 rk:H d1=↑(.dK<|Cc x.rk)
 bd:H d2=↑(.dK us)
 tu:C6 R H x.bd us
 ht:fl=true->H d3=↑(.dK<|Cc x.ht)
 th:fl=true->H d4=↑(.dK<|Cc x.th)
def EC{R R':Rg}{H H':Hp}(e:Ext R R H R' H'):∀{l:List 115} {us:List (Key×V)},C6 R H l us->C6 R' H' l us:=by
 intro _ _ z
 induction z with
 |nil=>exact .nil
 |cons h t ih=>exact .cons #[h.1,Rep.st h.2 e] ih
def Fz.st{C:hO}{fl:Bool}{G R R':Rg}{H H':Hp}{x:Bd C fl}{p dx d1 d2 d3 d4:hO}{us:List (Key×V)}(b:Fz C fl R H x p dx d1 d2 d3 d4 us)(e:Ext G R H R' H')(s:∀a,G a->R a)(n:∀a,a∈adr p dx d1 d2 d3 d4 fl->¬G a):Fz C fl R' H' x p dx d1 d2 d3 d4 us :=
 #[b.nd,e.keep _ _ (n _<|by simp[adr]) b.ob,e.keep _ _ (n _<|by simp[adr]) b.ow,e.keep _ _ (n _<|by simp[adr]) b.rk,e.keep _ _ (n _<|by simp[adr]) b.bd,EC (e.wide s) b.tu,λh=>e.keep _ _ (n _<|by simp[adr,h])<|b.ht h,λh=>e.keep _ _ (n _<|by simp[adr,h])<|b.th h]
instance(C:hO)(fl:Bool):Ow (Bd C fl):=#[λF R H x v=>∃p dx d1 d2 d3 d4 us,v=↑(.ref p)/\(∀b,F b↔b∈adr p dx d1 d2 d3 d4 fl)/\Fz C fl R H x p dx d1 d2 d3 d4 us,
 λh e s n=>by
  obtain⟨p,dx,d1,d2,d3,d4,us,h1,h2,h3⟩:=h
  exact#[p,dx,d1,d2,d3,d4,us,h1,h2,h3.st e s λa z=>n a<|(h2 a).mpr z],
 λh e=>by
  obtain⟨p,dx,d1,d2,d3,d4,us,h1,h2,h3⟩:=h
  exact#[p,dx,d1,d2,d3,d4,us,h1,λb=>(e b).symm.trans (h2 b),h3]]
instance(C:hO)(fl:Bool):Hs (Bd C fl):=#[λz9=>e7a2 z9 λ_ _ _ _ _ _ _ h _=>#[_,h]]
def J1{R L:Rg}{H:Hp}(k:∀a,L a->∃b,H a=↑(.lst b)):∀{l:List 115} {b:List (Key×V)},C6 R H l b->C6 (λa=>R a\/L a) H l b
 |_,_,.nil=>.nil
 |_,_,.cons h t=>.cons #[h.1,KQ.no h.2 k]<|J1 k t
instance(C:hO)(fl:Bool):U4 (Bd C fl):=#[λ{F R L H x v} h k=>by
 obtain⟨p,dx,d1,d2,d3,d4,us,h1,h2,b⟩:=h
 exact#[p,dx,d1,d2,d3,d4,us,h1,h2,b.nd,b.ob,b.ow,b.rk,b.bd,J1 k b.tu,b.ht,b.th]]
structure Bl(K:hJ)(C:hO):Prop where
 cl:BH K C
 nR:wD K C "ranks"
 nB:wD K C "borders"
 nU:wD K C "upcoming"
structure PZ(K:hJ)(C:hO):Prop where
 nH:wD K C "head_by_tail"
 nT:wD K C "tail_by_head"
def zi(k:Int):∀l:List (Int×Int),zg (Cc l) (iM k)=(lk l k).map V.int
 | []=>rfl
 |e::l=>by
  by_cases h:e.1=k
  ·show zg ((iM e.1,V.int e.2)::Cc l) _=_;rw[zZ<|by rw[h]];unfold lk;rw[jk,decide_eq_true h];rfl
  ·show zg ((iM e.1,V.int e.2)::Cc l) _=_;rw[z8 (by intro z;exact h<|oj z),zi k l];unfold lk;rw[jk,io h]
def FA{R:Rg}{H:Hp}{k:Int}:∀{l:List 115} {us:List (Key×V)},C6 R H l us->(∀b,lk l k=↑b->∃v,zg us (iM k)=↑v/\rp R H (Tp.mk b) v)/\(lk l k=none->zg us (iM k)=none):=by
 intro z0 z1 z9
 induction z9 with
 |nil=>exact#[(λb h=>by cases h),λ_=>rfl]
 | @cons e u l us h t Y7 =>
  obtain⟨i1,i2⟩:=Y7;by_cases q:e.1=k
  ·have e1:lk (e::l) k=↑e.2:=by unfold lk;rw[jk,decide_eq_true q];rfl
   rw[e1];refine#[λb hb=>?_,(λz=>by cases z)];cases hb;exact#[u.2,zZ (by rw[h.1,q]),h.2]
  ·have e1:lk (e::l) k=lk l k:=by unfold lk;rw[jk,io q]
   rw[e1,z8<|by rw[h.1];intro z;exact q<|oj z];exact#[i1,i2]
noncomputable def pk{a:Type}(l:List (Int×a))(k:Int)(v:a):List (Int×a):=if (lk l k).isSome then l.map (λe=>if e.1=k then (e.1,v) else e) else l++[(k,v)]
noncomputable def dk{a:Type}(l:List (Int×a))(k:Int):List (Int×a):=l.filter λe=>decide<|e.1≠k
def Vi(l:List (Int×Int))(k v:Int):putK (Cc l) (iM k) (V.int v)=Cc (pk l k v):=by
 unfold putK pk;rw[A7,zi,iJ]
 cases (lk l k).isSome with
 |true =>
  rw[hI rfl,hI rfl];unfold Cc;rw[lP,lP];refine mF λe _=>?_;show (if (iM e.1:Key)=iM k then _ else _)=(λe:Int×Int=>((iM e.1:Key),V.int e.2)) (if e.1=k then (e.1,v) else e);by_cases h:e.1=k
  ·rw[hI (by rw[h]),hI h]
  ·rw[cr<|λz=>h<|oj z,cr h]
 |false =>
  rw[cr im,cr im];unfold Cc;rw[kH];rfl
def J2(l:List (Int×Int))(k:Int):A6 (Cc l) (iM k)=Cc (dk l k):=by
 unfold A6 dk Cc;rw[pJ];congr 1;refine l8 λe _=>?_;by_cases h:e.1=k
 ·simp[h]
 ·simp[h]
def J3{R:Rg}{H:Hp}{k:Int}{b:List Int}{v:V}(h:rp R H (Tp.mk b) v):∀{l:List 115} {us:List (Key×V)},C6 R H l us->C6 R H (l++[(k,b)]) (us++[(iM k,v)])
 |_,_,.nil=>.cons #[rfl,h] .nil
 |_,_,.cons q t=>.cons q<|J3 h t
def Rs{R:Rg}{H:Hp}{l:List 115}{us:List (Key×V)}{k:Int}{b:List Int}{v:V}(t:C6 R H l us)(hn:lk l k=none)(h:rp R H (Tp.mk b) v):C6 R H (pk l k b) (putK us (iM k) v):=by unfold pk;rw[hn,Qu _<|(FA t).2 hn];exact J3 h t
def OX{R:Rg}{H:Hp}{k:Int}:∀{l:List 115} {us:List (Key×V)},C6 R H l us->C6 R H (dk l k) (A6 us<|iM k):=by
 intro z0 z1 z9
 induction z9 with
 |nil=>exact .nil
 | @cons e u l us h t Y7 =>
  have ih:=Y7;unfold dk A6 at ih ⊢;rw[jN,jN];by_cases q:e.1=k
  ·rw[cr (by simpa using q),cr<|by rw[h.1];simpa using q];exact ih
  ·rw[hI (by simpa using q),hI<|by rw[h.1];simpa using q];exact .cons h ih
inductive ID where
 | rk|ht|th
noncomputable abbrev ID.nm:ID->Str
 | .rk=>"ranks" | .ht=>"head_by_tail" | .th=>"tail_by_head"
noncomputable abbrev ID.get{C:hO}{a:Bool}:ID->Bd C a->List (Int×Int)
 | .rk,x=>x.rk|.ht,x=>x.ht|.th,x=>x.th
noncomputable abbrev ID.set{C:hO}{a:Bool}:ID->Bd C a->List (Int×Int)->Bd C a
 | .rk,x,l=>{ x with rk:=l}|.ht,x,l=>{ x with ht:=l}|.th,x,l=>{ x with th:=l}
def ID.ok:ID->Bool->Prop
 | .rk,_=>True|.ht,fl=>fl=true|.th,fl=>fl=true
def nd4(h:(a::b::c::d::r).Nodup):(a≠b/\a≠c/\a≠d/\∀x∈r,a≠x)/\(b≠c/\b≠d/\∀x∈r,b≠x)/\(c≠d/\∀x∈r,c≠x)/\(∀x∈r,d≠x)/\r.Nodup:=by have g:=List.nodup_cons.mp h;have i:=List.nodup_cons.mp g.2;have j:=List.nodup_cons.mp i.2;have k:=List.nodup_cons.mp j.2;simp only[iO,qE]at g i j;exact#[#[g.1.1,g.1.2.1,g.1.2.2.1,λx f e=>g.1.2.2.2<|by rw[e];exact f],⟨i.1.1,i.1.2.1,λx f e=>i.1.2.2<|by rw[e];exact f⟩,⟨j.1.1,λx f e=>j.1.2<|by rw[e];exact f⟩,λx f e=>k.1 (by rw[e];exact f),k.2]
def Bm(b:Fz C k R H x p s l m g i t)(q:ID)(u:q.ok k):∃d,(zv l m g i x.up k).lookup q.nm=↑(.ref d)/\H d=↑(.dK<|Cc<|q.get x)/\d∈adr p s l m g i k /\
  ∀j,R d->Fz C k R (upd H d<|.dK<|Cc j) (q.set x j) p s l m g i t:=by
 have f:=nd4 b.nd;have n:∀d j,R d->C6 R (upd H d<|.dK<|Cc j) x.bd t:=λd j h=>EC ((zC (F:=R) (R:=R) (H:=H) (a:=d) (o:=.dK<|Cc j)).wide λc z=>by rw[z];exact h) b.tu
 cases q with
 |rk =>
  refine#[l,rfl,b.rk,by simp[adr],λj h=>#[b.nd,by rw[vB f.1.2.1];exact b.ob,by rw[vB f.2.1.1];exact b.ow,vF,by rw[vB f.2.2.1.1.symm];exact b.bd,n _ _ h,λz=>?_,λz=>?_]]
  ·rw[vB (f.2.2.1.2 g<|by rw[hI z];simp).symm];exact b.ht z
  ·rw[vB (f.2.2.1.2 i<|by rw[hI z];simp).symm];exact b.th z
 |ht =>
  have z:k=true:=u;subst z;have r:=List.nodup_cons.mp f.2.2.2.2;refine#[g,rfl,b.ht rfl,by simp[adr],λj h=>#[b.nd,by rw[vB<|f.1.2.2.2 g q0o];exact b.ob,by rw[vB<|f.2.1.2.2 g q0o];exact b.ow,by rw[vB<|f.2.2.1.2 g q0o];exact b.rk,by rw[vB<|f.2.2.2.1 g q0o];exact b.bd,n _ _ h,λ_=>vF,λ_=>?_]];rw[vB<|λe=>r.1<|by rw[<- e];simp];exact b.th rfl
 |th =>
  have z:k=true:=u;subst z;have r:=List.nodup_cons.mp f.2.2.2.2;refine#[i,rfl,b.th rfl,by simp[adr],λj h=>#[b.nd,by rw[vB<|f.1.2.2.2 i q0o];exact b.ob,by rw[vB<|f.2.1.2.2 i q0o];exact b.ow,by rw[vB<|f.2.2.1.2 i q0o];exact b.rk,by rw[vB<|f.2.2.2.1 i q0o];exact b.bd,n _ _ h,λ_=>?_,λ_=>vF]];rw[vB<|λe=>r.1<|by rw[e];simp];exact b.ht rfl
section
variable{D PO τ:Type}[Sls D][Sls PO][Ow τ]
def xh{i:Nat}[Sls J][A:At i D (Bd C r) J](s:wG T F R H d L):∃p f g j l m B,L[i]?=↑(some<|.ref p)/\Fz C r R H (A.get d) p f g j l m B/\(∀a∈adr p f g j l m r,R a) /\
  ∀{U:Pt i J (Bd C r) D} {a:hO} {o:HO} {E:Bd C r} {w:List (Key×V)},a∈adr p f g j l m r->Fz C r R (upd H a o) E p f g j l m w->Ch T F R H F R (upd H a o)/\wG T F R (upd H a o) (U.put (A.hole d) E) L:=by
 obtain⟨v,X,Y,M,G,⟨p,f,g,j,l,m,B,rfl,I,N⟩,O⟩:=A.take s.rel;have x:∀a∈adr p f g j l m r,F a:=λa h=>(G.all a).mpr<|.inl<|(I a).mpr h;refine⟨p,f,g,j,l,m,B,M,N,λa h=>s.sub a<|x a h,λ{U a o E w} y P=>?_⟩;have Q:=zC (F:=F) (R:=R) (H:=H) (a:=a) (o:=o);have S:∀c,c=a->R c:=λc z=>by rw[z];exact s.sub a<|x a y
 have k:∀b u,b≠a->H b=↑u->upd H a o b=↑u:=λb u z e=>by rw[vB z];exact e
 refine#[#[λb o n _ e=>k b o (λz=>n<|by rw[z];exact x a y) e,λ_ h=>.inl h,λ_ h=>.inl h,λ_ h _=>h],Pt.same (A:=U) (Sls.st O Q S λc z q=>G.yU c ((I c).mpr<|by rw[q];exact y) z) M G ⟨p,f,g,j,l,m,w,rfl,I,P⟩,s.sub,λc z=>?_,?_,s.wx,s.wd]
 ·by_cases e:c=a
  ·rw[e,vF];simp
  ·rw[vB e];exact s.xP c z
 ·refine e1a2 s.tab λW e t=>?_;exact#[W,k _ _ (λz=>s.wd<|by rw[z];exact x a y) e,t]
def LN(q:ID)(b:Bool)(i:Nat)[Sls U][A:At i D (Bd C W) U](Y:q.ok W)(Z:BH X.K C)(nf:wD X.K C q.nm)(G:X.A.units+1<kI)(hk:EW X E T a wk)(I:PE X (.Name x l) (v9 i))(J:i7 (.Name x l) q.nm X.env (eval (.Name x l) X.env)=eval (.Name x l) X.env:=by rfl)
 (L:jm (if b then .NotIn else .In) (.Attribute (.Name x l) q.nm p2)=false:=by with_unfolding_all rfl):EW X E T (.Compare a [if b then .NotIn else .In] [.Attribute (.Name x l) q.nm p2] pos) (cK wk λ(n:Bool->D->Prop) k c=>n (if b then !(lk (q.get<|A.get c) k).isSome else (lk (q.get<|A.get c) k).isSome) c):=by
  refine e1a2 hk λta M N=>?_
  have O:∀{c:D} {h j:Rg} {e:Hp} {f:St} {k:Int} {Q:VK},wG T h j e c f->Q (.bl<|if b then !(lk (q.get<|A.get c) k).isSome else (lk (q.get<|A.get c) k).isSome) e->Yg X.K (v9 i) q.nm f e λy P=>∃a o,y=.ref a/\yW P a (.int k) o/\Q (.bl<|if b then !o.isSome else o.isSome) P:=λ{c h j e f k Q} g m=>by
    obtain⟨p,dx,e1,e2,e3,e4,us,g1,S,_,_⟩:=xh (i:=i) g
    refine e1a4 (Bm S q Y) λd l1 l2 _ _=>?_
    refine#[_,g1,p,C,dx,_,_,rfl,S.ob,Z,nf,l1,d,_,rfl,yW.k (k:=iM k) l2,?_]
    rw[zi,iJ]
    exact m
  cases b with
  |false=>exact#[_,P4 (Qx G M (xB I J)) L,λd F R f H n r Q s t m v=>N d F R f H _ r _ s t (λk c u h j e w z g B=>by
      subst B
      exact O g (m _ c _ h j e w z g rfl)) v]
  |true=>exact#[_,P4 (Dv G M (xB I J)) L,λd F R f H n r Q s t m v=>N d F R f H _ r _ s t (λk c u h j e w z g B=>by
      subst B
      exact O g (m _ c _ h j e w z g rfl)) v]
def tw_dIn(q:ID)(b:Bool)(i:Nat)[Sls W][A:At i D (Bd C Y) W](Z:q.ok Y)(cl:BH X.K C)(nf:wD X.K C q.nm)(I:X.A.units+1<kI)(hk:EW X E T a wk)(J:PE X (.Name x m) (v9 i))(L:i7 (.Name x m) q.nm X.env (eval (.Name x m) X.env)=eval (.Name x m) X.env:=by rfl)
 (M:jm (if b then .NotIn else .In) (.Attribute (.Name x m) q.nm p2)=false:=by with_unfolding_all rfl):TW X E T (.Compare a [if b then .NotIn else .In] [.Attribute (.Name x m) q.nm p2] pos) (cK wk λ(r:Bool->D->Prop) k e=>r (if b then !(lk (q.get<|A.get e) k).isSome else (lk (q.get<|A.get e) k).isSome) e):=by
  refine e1a2 hk λta N O=>?_
  have P:∀{e:D} {j l:Rg} {f:Hp} {g:St} {k:Int} {Q:VK},wG T j l f e g->Q (.bl<|if b then !(lk (q.get<|A.get e) k).isSome else (lk (q.get<|A.get e) k).isSome) f->Yg X.K (v9 i) q.nm g f λy S=>∃a o,y=.ref a/\yW S a (.int k) o/\Q (.bl<|if b then !o.isSome else o.isSome) S:=λ{e j l f g k Q} h n=>by
    obtain⟨p,dx,e1,e2,e3,e4,us,g1,U,_,_⟩:=xh (i:=i) h
    refine e1a4 (Bm U q Z) λd l1 l2 _ _=>?_
    refine#[_,g1,p,C,dx,_,_,rfl,U.ob,cl,nf,l1,d,_,rfl,yW.k (k:=iM k) l2,?_]
    rw[zi,iJ]
    exact n
  cases b with
  |false=>exact#[_,K0 (Qx I N (xB J L)) M,λd F R g H r t Q s v n w=>O d F R g H _ t _ s v (λk e u j l f z B h G=>by
      subst G
      exact P (Q:=λy H=>∃c,y=.bl c/\Q c H) h #[_,rfl,n _ e j l f z B h]) w]
  |true=>exact#[_,K0 (Dv I N (xB J L)) M,λd F R g H r t Q s v n w=>O d F R g H _ t _ s v (λk e u j l f z B h G=>by
      subst G
      exact P (Q:=λy H=>∃c,y=.bl c/\Q c H) h #[_,rfl,n _ e j l f z B h]) w]
def EV(X:Cx)(T:hO)(e:i8){D α:Type}[Sls D][Rep α](f:D->α):Prop :=
 ∃t,PE X e t/\∀(d:D)(F R:Rg)(σ:St)(H:Hp)(Q:VK),wG T F R H d σ->(∀v,rp R H (f d) v->Q v H)->t σ H Q
def wX[Rep a][Sls b](i:Nat)[A:At i D a b](c:PE X (.Name y pos) (v9 i)):EV X T (.Name y pos) (λ(d:D)=>A.get d):=by refine#[_,c,λd F R h H Q s e=>?_];obtain⟨v,j,k,f,l,⟨_,u,rfl,g⟩,_⟩:=A.take s.rel;exact#[u,f,e u g]
def a3p{m:Int}{k:Nat}:EV X T (.Constant (.int m) k pos) (λ(_:D)=>m):=#[_,v4,λd F R b H Q s a=>a _ rfl]
def Ic(q:ID)(i:Nat)[Sls h][A:At i D (Bd C j) h](l:q.ok j)(m:BH X.K C)(n:wD X.K C q.nm)(o:X.A.units+1<kI)(t:PE X (.Name x b) (v9 i))(u:EV X T a f)(w:i7 (.Name x b) q.nm X.env (eval (.Name x b) X.env)=eval (.Name x b) X.env:=by rfl)(B:Qv a:=by intro _ _;rfl) :
  EW X E T (.Subscript (.Attribute (.Name x b) q.nm Y) a pos) (λ(d:D)(c:Int->D->Prop) _=>∃v,lk 84 (f d)=↑v/\c v d):=by
 refine e1a2 u λZ G I=>?_;refine#[_,HA o (xB t w) G B,λd F R J H c Ke Q s L M ke=>?_];obtain⟨p,N,e1,e2,e3,e4,us,O,e,_,_⟩:=xh (i:=i) s;refine e1a4 (Bm e q l) λy P S _ _=>?_;refine#[_,O,p,C,N,_,_,rfl,e.ob,m,n,P,I d F R J H _ s λv r=>?_];subst r;refine e1a2 L λz U W=>?_;have g:=yW.k (k:=iM<|f d) S;rw[zi,U]at g;exact#[y,_,rfl,g,M z d _ F R H W 61 s rfl]
def BP(i:Nat)[Sls h][A:At i D (Bd C U) h](j:BH X.K C)(l:wD X.K C "borders")(m:X.A.units+1<kI)(n:PE X (.Name x b) (v9 i))(o:EV X T a f)(q:i7 (.Name x b) "borders" X.env (eval (.Name x b) X.env)=eval (.Name x b) X.env:=by rfl)(t:Qv a:=by intro _ _;rfl) :
  EW X E T (.Subscript (.Attribute (.Name x b) "borders" W) a pos) (λ(d:D)(e:Tp Int->D->Prop) _=>∃v,lk (A.get d).bd (f d)=↑v/\e #[v] d):=by
 refine e1a2 o λY u y=>?_;refine#[_,HA m (xB n q) u t,λd F R B H e Z Q s G I ke=>?_];obtain⟨p,J,e1,L,e3,e4,us,M,c,_,_⟩:=xh (i:=i) s;refine#[_,M,p,C,J,_,_,rfl,c.ob,j,l,rfl,y d F R B H _ s λv r=>?_];subst r;refine e1a2 G λz N O=>?_;refine e1a2 ((FA c.tu).1 z N) λw P S=>?_;have g:=yW.k (k:=iM<|f d) c.bd;rw[P]at g;exact#[L,w,rfl,g,I #[z] d _ F R H O 61 s S]
def Vj(q:ID)(i:Nat)[Sls g][A:At i D (Bd C h) g](j:q.ok h)(k:BH X.K C)(l:wD X.K C q.nm)(m:Gl X "len")(n:X.mg "len"=none)(o:PE X (.Name x a) (v9 i))(r:i7 (.Name x a) q.nm X.env (eval (.Name x a) X.env)=eval (.Name x a) X.env:=by rfl)
 (b:hV [.Attribute (.Name x a) q.nm c] X.env=(false,eval (.Attribute (.Name x a) q.nm c) X.env)::hV [] X.env:=by rfl) :
    EW X E T (.Call (.Name "len" G) [.Attribute (.Name x a) q.nm c] [] pos) (λ(d:D)(e:Int->D->Prop) _=>e ((84).length:Int) d):=by
  refine#[_,xk OD m n mY (vI (xB o r) vU b) (he:=b),λd F R I H e J Q s t u L=>?_]
  obtain⟨p,v,M,N,O,P,S,w,f,_,_⟩:=xh (i:=i) s
  refine e1a4 (Bm f q j) λy z B _ _=>?_
  refine#[_,w,p,C,v,_,_,rfl,f.ob,k,l,z,y,_,rfl,B,u _ d _ F R H t 61 s ?_]
  show V.int _=V.int _
  unfold Cc
  rw[h8]
def FC(q:ID)(i:Nat)[Sls h][A:At i D (Bd C j) h](k:q.ok j)(m:BH X.K C)(n:wD X.K C q.nm)(o:X.calm=true)(r:Gl X "sorted")(t:X.mg "sorted"=none)(u:PE X (.Name x a) (v9 i))(v:i7 (.Name x a) q.nm X.env (eval (.Name x a) X.env)=eval (.Name x a) X.env:=by rfl)
 (b:hV [.Attribute (.Name x a) q.nm c] X.env=(false,eval (.Attribute (.Name x a) q.nm c) X.env)::hV [] X.env:=by rfl) :
    EO X E T (.Call (.Name "sorted" U) [.Attribute (.Name x a) q.nm c] [] pos) (λ(d:D)(e:OL Int->D->Prop) _=>(84).length<64/\e #[El ((84).map (·.1))] d):=by
  refine#[_,xk (HP o) r t kT (vI (xB u v) vU b) (he:=b),λd F R W H e Y Q s f w Z=>?_]
  obtain⟨p,z,e1,e2,e3,e4,us,B,g,_,_⟩:=xh (i:=i) s
  refine e1a4 (Bm g q k) λy G I _ _=>?_
  refine#[_,B,p,C,z,_,_,rfl,g.ob,m,n,G,y,_,(84).map (·.1),rfl,I,?_,by rw[h8];exact f.1,λl ns J L M=>?_]
  · unfold Cc
    rw[lP,lP]
    rfl
  · rw[Fl L M]
    refine e1a3 (yp s J (yK (R:=R) (H:=H) (El ((84).map (·.1))))) λN O P S=>?_
    exact w _ d _ _ F N _ f.2 O P S
def Xo(i:Nat)[Sls c][A:At i D (Bd C o) c](e:BH X.K C)(f:wD X.K C "upcoming")(g:PE X (.Name x a) (v9 i))(h:i7 (.Name x a) "upcoming" X.env (eval (.Name x a) X.env)=eval (.Name x a) X.env:=by rfl) :
  EW X E T (.Attribute (.Name x a) "upcoming" pos) (λ(d:D)(b:Int->D->Prop) _=>b (A.get d).up d):=by
 refine#[_,xB g h,λd F R q H b r Q s j k t=>?_];obtain⟨p,l,u,v,w,y,z,m,n,_,_⟩:=xh (i:=i) s;exact#[_,m,p,C,l,_,_,rfl,n.ob,e,f,rfl,k _ d _ F R H j 61 s rfl]
def Ie(q:ID)(i:Nat)[Sls o][A:At i D (Bd C t) o][U:Pt i o (Bd C t) D][J:Pj D PO n](N:q.ok t)(O:BH X.K C)(P:wD X.K C q.nm)(Q:X.A.units+1<kI)(S:PE X (.Name x g) (v9 i))(W:EV X T a f)(Y:EW X E T e Z)(hb:i7 (.Name x g) q.nm X.env (eval (.Name x g) X.env)=eval (.Name x g) X.env:=by rfl)
 (hs:kg e (some<|.Subscript (.Attribute (.Name x g) q.nm p2) a p3) pos.line X.env=pure false:=by rfl) :
    S1 X E T ms n (.Assign [.Subscript (.Attribute (.Name x g) q.nm p2) a p3] e pos) (cS Z J.pj λ(z:D->Prop)(Kr:τ->PO->Prop) v b=>(q.get<|A.get b).length<hZ/\z (U.put (A.hole b)<|q.set (A.get b)<|pk (q.get<|A.get b) (f b) v)):=by
  refine e1a2 W λta a1 a2=>?_
  refine e1a2 Y λte b1 b2=>?_
  refine#[_,HB Q (xB S hb) a1 b1 hs,λd F R j H z Kr Ke En s hw kn kr ke=>b2 d F R j H _ _ _ s hw (λv b u B I H1 L c1 l r1=>?_) λC y d' F' R' H' q c s'=>?_]
  · obtain⟨p, dx, e1, e2, e3, e4, us, m, h, g3, g4⟩ := xh (i := i) l
    refine e1a4 (Bm h q N) λy l1 l2 M l4=>?_
    subst r1
    refine#[_,m,p,C,dx,_,_,rfl,h.ob,O,P,l1,a2 b B I j H1 _ l λw r=>?_]
    subst r
    obtain⟨c2,s2⟩:=g4 (U:=U) M<|l4 (pk (q.get<|A.get b) (f b) v)<|g3 y M
    refine#[y,_,rfl,Hz.k (k:=iM<|f b) l2 (by unfold Cc;rw[h8];exact L.1),?_]
    rw[Vi]
    exact kn _ B I _ j L.2 (Ch.trans s l.tab c1 c2) s2<|Ag.refl _ _
  · refine e1a2 (wN (PO := PO) s') λG m h => ?_
    exact ke C y _ G R' H' q (c.less m) h
def FD(b:Fz C i R H y p j k f g h n)(m:R f)(t:C6 R H l d):Fz C i R (upd H f<|.dK d) { y with bd:=l} p j k f g h d:=by have e:=nd4 b.nd;exact⟨b.nd,by rw[vB e.1.2.2.1];exact b.ob,by rw[vB e.2.1.2.1];exact b.ow,by rw[vB e.2.2.1.1];exact b.rk,vF,EC ((zC (F:=R) (R:=R) (H:=H) (a:=f) (o:=.dK d)).wide λc z=>by rw[z];exact m) t,λz=>by rw[vB (e.2.2.2.1 g<|by rw[hI z];simp).symm];exact b.ht z,λz=>by rw[vB (e.2.2.2.1 h<|by rw[hI z];simp).symm];exact b.th z⟩
def Vk(i:Nat){o:Type}[Sls o][A:At i D (Bd C L) o][U:Pt i o (Bd C L) D][J:Pj D PO n]{f:D->Int}{M:Wf D (Tp Int) D}(W:BH X.K C)(Y:wD X.K C "borders")(Z:X.A.units+1<kI)(hn:PE X (.Name x j) (v9 i))(hk:EV X T a f)(he:EW X E T e M)(hb:i7 (.Name x j) "borders" X.env (eval (.Name x j) X.env)=eval (.Name x j) X.env:=by rfl)
 (hs:kg e (some<|.Subscript (.Attribute (.Name x j) "borders" p2) a p3) pos.line X.env=pure false:=by rfl) :
    S1 X E T ms n (.Assign [.Subscript (.Attribute (.Name x j) "borders" p2) a p3] e pos) (cS M J.pj λ(N:D->Prop)(Kr:τ->PO->Prop) v g=>(A.get g).bd.length<hZ/\lk (A.get g).bd (f g)=none/\N (U.put (A.hole g) { A.get g with bd:=pk (A.get g).bd (f g) v.l})):=by
  refine e1a2 hk λta a1 a2=>?_
  refine e1a2 he λte b1 b2=>?_
  refine#[_,HB Z (xB hn hb) a1 b1 hs,λd F R t H N Kr Ke En s hw kn kr ke=>b2 d F R t H _ _ _ s hw (λv g u O P H1 z c1 B r1=>?_) λC y d' F' R' H' q c s'=>?_]
  · obtain⟨p, Q, e1, m, e3, e4, us, I, h, g3, g4⟩ := xh (i := i) B
    have S:m∈adr p Q e1 m e3 e4 L:=by simp[adr]
    refine#[_,I,p,C,Q,_,_,rfl,h.ob,W,Y,rfl,a2 g O P t H1 _ B λw r=>?_]
    subst r
    obtain⟨c2,s2⟩:=g4 (U:=U) S<|FD h (g3 m S)<|Rs (b:=v.l) h.tu z.2.1 r1
    exact#[m,_,rfl,Hz.k (k:=iM<|f g) h.bd (by rw[<- Paired.length h.tu];exact z.1),kn _ O P _ t z.2.2 (Ch.trans s B.tab c1 c2) s2<|Ag.refl _ _]
  · refine e1a2 (wN (PO := PO) s') λG I h => ?_
    exact ke C y _ G R' H' q (c.less I) h
def a08(i:Nat)[Sls w][A:At i D (Bd C f) w][U:Pt i w (Bd C f) D][J:Pj D PO n](P:BH X.K C)(Q:wD X.K C "upcoming")(S:PE X (.Name x B) (v9 i))(W:EW X E T e Y)(Z:kg e (some<|.Attribute (.Name x B) "upcoming" p2) pos.line X.env=pure false:=by rfl) :
  S1 X E T ms n (.Assign [.Attribute (.Name x B) "upcoming" p2] e pos) (cS Y J.pj λ(I:D->Prop)(Kr:τ->PO->Prop) v j=>I<|U.put (A.hole j) { A.get j with up:=v}):=by
 refine e1a2 W λte b1 b2=>?_;refine#[_,Du S b1 Z,λd F R L H I Kr Ke En s hw kn kr ke=>b2 d F R L H _ _ _ s hw (λv j u F1 o M q1 c1 N r1=>?_) λC y d' F' R' H' q c s'=>?_]
 ·obtain⟨p,r,k,l,g,h,us,t,b,g3,g4⟩:=xh (i:=i) N;subst r1;have O:p∈adr p r k l g h f:=by simp[adr]
  have m:=nd4 b.nd;have eq:A1 "upcoming" (V.int v) (zv k l g h (A.get j).up f)=zv k l g h v f:=rfl;have nb:Fz C f o (upd M p<|.ins C r<|zv k l g h v f) { A.get j with up:=v} p r k l g h us:=⟨b.nd,vF,by rw[vB m.1.1.symm];exact b.ow,by rw[vB m.1.2.1.symm];exact b.rk,by rw[vB m.1.2.2.1.symm];exact b.bd,EC ((zC (F:=o) (R:=o) (H:=M) (a:=p)).wide λc z=>by rw[z];exact g3 p O) b.tu,λz=>by rw[vB (m.1.2.2.2 g<|by rw[hI z];simp).symm];exact b.ht z,λz=>by rw[vB (m.1.2.2.2 h<|by rw[hI z];simp).symm];exact b.th z⟩;obtain⟨c2,s2⟩:=g4 (U:=U) O nb;refine#[_,t,p,C,r,_,rfl,b.ob,P,Q,?_,?_]
  ·unfold zv;split<;>(simp only[iH,nS];decide)
  ·rw[eq];exact kn _ F1 o _ L q1 (Ch.trans s N.tab c1 c2) s2<|Ag.refl _ _
 ·refine e1a2 (wN (PO:=PO) s') λG t b=>?_;exact ke C y _ G R' H' q (c.less t) b
def Nu(q:ID)(i:Nat)[Sls c][A:At i D (Bd C e) c][U:Pt i c (Bd C e) D][J:Pj D PO n](u:q.ok e)(v:BH X.K C)(z:wD X.K C q.nm)(B:PE X (.Name x b) (v9 i))(G:EV X T a f)(I:∀{g h:TE},PE X (.Attribute (.Name x b) q.nm j) g->PE X a h->PS X (.Delete [.Subscript (.Attribute (.Name x b) q.nm j) a L] pos) (Qw g h))(M:i7 (.Name x b) q.nm X.env (eval (.Name x b) X.env)=eval (.Name x b) X.env:=by rfl) :
  S1 X E T ms n (.Delete [.Subscript (.Attribute (.Name x b) q.nm j) a L] pos) (λ(d:D)(k:D->Prop)(N:τ->PO->Prop)(O:hO->PO->Prop)=>(lk 84<|f d).isSome=true/\k (U.put (A.hole d)<|q.set (A.get d)<|dk 84<|f d)):=by
 refine e1a2 G λta P Q=>?_;refine#[_,I (xB B M) P,λd F R l H k N O En s m S kr ke=>?_];obtain⟨p,W,e1,e2,e3,e4,us,Y,o,Z,g4⟩:=xh (i:=i) s;refine e1a4 (Bm o q u) λy l1 l2 t l4=>?_;refine#[_,Y,p,C,W,_,_,rfl,o.ob,v,z,l1,Q d F R l H _ s λw r=>?_];subst r;obtain⟨c2,s2⟩:=g4 (U:=U) t<|l4 (dk 84<|f d)<|Z y t;refine#[y,_,iM<|f d,rfl,l2,rfl,by rw[zi,iJ];exact m.1,?_];rw[J2];exact S _ F R _ l m.2 c2 s2<|Ag.refl _ _
def Vl(i:Nat)[Sls h][A:At i D (Bd C j) h][U:Pt i h (Bd C j) D][J:Pj D PO n](I:BH X.K C)(L:wD X.K C "borders")(M:PE X (.Name x c) (v9 i))(N:EV X T a f)(O:∀{l m:TE},PE X (.Attribute (.Name x c) "borders" o) l->PE X a m->PS X (.Delete [.Subscript (.Attribute (.Name x c) "borders" o) a P] pos) (Qw l m))(Q:i7 (.Name x c) "borders" X.env (eval (.Name x c) X.env)=eval (.Name x c) X.env:=by rfl) :
  S1 X E T ms n (.Delete [.Subscript (.Attribute (.Name x c) "borders" o) a P] pos) (λ(d:D)(q:D->Prop)(S:τ->PO->Prop)(W:hO->PO->Prop)=>(lk (A.get d).bd<|f d).isSome=true/\q (U.put (A.hole d) { A.get d with bd:=dk (A.get d).bd (f d)})):=by
 refine e1a2 N λta Y Z=>?_;refine#[_,O (xB M Q) Y,λd F R t H q S W En s u kn kr ke=>?_];obtain⟨p,y,e1,g,e3,e4,us,g1,e,g3,g4⟩:=xh (i:=i) s;have B:g∈adr p y e1 g e3 e4 j:=by simp[adr]
 refine#[_,g1,p,C,y,_,_,rfl,e.ob,I,L,rfl,Z d F R t H _ s λw r=>?_];subst r;obtain⟨c2,s2⟩:=g4 (U:=U) B<|FD e (g3 g B)<|OX (k:=f d) e.tu;refine#[g,us,iM<|f d,rfl,e.bd,rfl,?_,kn _ F R _ t u.2 c2 s2<|Ag.refl _ _]
 cases z:lk (A.get d).bd (f d) with
 |none =>
  have G:=u.1;rw[z]at G;cases G
 |some b =>
  refine e1a2 ((FA e.tu).1 b z) λv v1 _=>?_;rw[v1];rfl
end
section
variable{D PO τ:Type}[Sls D][Sls PO][Ow τ]{α:Type}[Rep α]
def J4(i:Nat){D1 P O B B1 S:Type}[Sls D1][Sls P][Sls O][Sls B][Sls B1][Sls S][Lb S τ<|Bd C J×O]{I:B->S->O->D}{wr:D->(P->B->S->Prop)->72->Prop}
 {wf:Wf (Bd C J×P) τ (Bd C J×O)} [A0:At i D (Bd C J) D1] [A:At i B (Bd C J) B1] [U:Pt i B1 (Bd C J) B] (hl:∀a b c d u,(zv a b c d u J).lookup m=none)
 (b2:∀(d:D)(F R:Rg)(k:St)(H:Hp)(W:P->B->S->Prop)(M:hO->D->Prop)(Q:List V->Hp->Prop),wG T F R H d k->wr d W M ->
 (∀p b l vs us F1 X L w j e,W p b l->Ch T F R H w j e->Std T w j e->Fp w F1 X L->rel F1 (Wo j L) e p (vs.map some)->rel X j e b k->rel L j e l us ->
 (∀b' l' G1 G2 G3 o f h G,rel G1 f h G (vs.map some)->rel G2 f h b' k->rel G3 f h l' us->Fp o G1 G2 G3->rel o f h (I b' l' G) k)->Q vs e) ->
 (∀C y r w j e,M C r->Ch T F R H w j e->wG T w j e r k->E (.ref C) ↑y e)->tr k H Q)
 (d:D) (F R:Rg) (k:St) (H:Hp) (W:τ->D->Prop) (M:hO->D->Prop) (Q:VK) (s:wG T F R H d k) (hw:wr d (λp b l=>wf (A.get b,p) (λy G=>W y<|I (U.put (A.hole b) G.1) l G.2)<|λC G=>M C<|I (U.put (A.hole b) G.1) l G.2) M)
 (kn:∀x r v F1 X j e,W x r->Ch T F R H (λa=>F1 a\/X a) j e->wG T X j e r k->Nw T F1 X j e x v->Q v e)
 (ke:∀C y r w j e,M C r->Ch T F R H w j e->wG T w j e r k->E (.ref C) ↑y e):GN C m (zh T wf) [] E (v9 i) tr k H Q:=by
  obtain⟨v,_,_,hv,_,⟨a,dx,d1,d2,d3,d4,aa,rfl,_,g⟩,_⟩:=A0.take s.rel
  refine#[_,hv,a,dx,_,rfl,g.ob,hl _ _ _ _ _,b2 d F R k H _ M _ s hw (λp b l vs us G1 G2 L w j e q2 c2 s2 Y h1 h2 h3 km=>?_) ke]
  rw[lR]
  refine e3a4 (A.take h2) λv' M1 M2 z1 z2 z3 z4=>?_
  rw[hv]at z1
  cases z1
  have m1:∀a,M1 a->G2 a:=λa m=>(z2.all a).mpr<|.inl m
  have m2:∀a,M2 a->G2 a:=λa m=>(z2.all a).mpr<|.inr m
  refine Fq (F:=w) (F1:=λa=>M1 a\/G1 a) (F2:=M2) (L:=L) (mrg:=λ(b:B1)(l:S)(p:Bd C J×O)=>I (U.put b p.1) l p.2) (wf:=wf) (p:=(A.get b,p)) (b:=A.hole b) (l:=l) (us:=us) (σ:=k) (Kn:=W) (Ke:=M) s2 #[λa=>?_,λa m n=>?_,λa m n=>?_,λa m n=>Y.KU a (m2 a m) n] #[some<|.ref a,vs.map some,M1,G1,rfl,⟨λ_=>Iff.rfl,λa m n=>Y.Jq a n<|m1 a m⟩,Ow.wk z3<|DE j L e,h1] z4 h3 (λb' l' L1 L2 L3 o f h G h3 h4 h5 t=>?_) q2 (λx r v M1 M2 f h q' c' N n=>kn x r v M1 M2 f h q' (Ch.trans s s2.tab c2 c') N n) λC y r o f h q' c' N=>ke C y r o f h q' (Ch.trans s s2.tab c2 c') N
  · rw[Y.all, z2.all]
    exact#[λz=>z.elim 157 λz=>z.elim 123 λq=>.inr<|.inr q,λz=>z.elim 142 λz=>z.elim 158 λq=>.inr<|.inr q]
  · rcases m with m|m
    · exact z2.yU a m n
    · exact Y.Jq a m<|m2 a n
  · rcases m with m|m
    · exact Y.KU a (m1 a m) n
    · exact Y.KR a m n
  · refine e4a4 h3 λv' ab N1 N2 y1 Z y3 y4 => ?_
    injection y1 with y5 y6
    subst y5;subst y6
    have tt:Ek (λa=>N1 a\/L2 a) N1 L2:=#[λ_=>Iff.rfl,λa m n=>t.Jq a ((Z.all a).mpr<|.inl m) n]
    refine km _ l' N2 (λa=>N1 a\/L2 a) L3 o f h G.2 y4 (Pt.same (A:=U) h4 hv tt y3) h5 #[λa=>?_,λa m n=>?_,λa m n=>t.KR a ((Z.all a).mpr<|.inr m) n,λa m n=>?_]
    · rw[t.all, Z.all]
      exact#[λz=>z.elim 142 λz=>z.elim 158 λq=>.inr<|.inr q,λz=>z.elim 157 λz=>z.elim 123 λq=>.inr<|.inr q]
    · rcases n with n|n
      · exact Z.yU a n m
      · exact t.Jq a ((Z.all a).mpr<|.inr m) n
    · rcases m with m|m
      · exact t.KR a ((Z.all a).mpr<|.inl m) n
      · exact t.KU a m n
def Rt{n:List i8}(i:Nat){s P h B q o:Type}[Sls s][Sls P][Sls h][Sls B][Sls q][Sls o][Lb o τ<|Bd C g×h]{j:B->o->h->D}{v:D->(P->B->o->Prop)->72->Prop}
 {r:Wf (Bd C g×P) τ (Bd C g×h)} [N:At i D (Bd C g) s] [A:At i B (Bd C g) q] [U:Pt i q (Bd C g) B] {k:Nat} {y:List Str}
 (F:wn X.prog X.w X.K X.mg X.base 114 k f G y (zh T r)) (O:wZ k X.A) (Q:BH X.K C) (R:Meth X.K C m f) (S:Binds X.K G y []) (W:Passes 114 X E) (Y:PE X (.Name x z) (v9 i))
 (H:∀a b c d u,(zv a b c d u g).lookup m=none)
 (I:∀{t:TA},PA X (e::n) t->PE X 91 (GN C m (zh T r) [] E (v9 i) t)) (J:LH X E T (e::n) j v) :
    EO X E T 91 (cM v r A.get λb l p=>j (U.put (A.hole b) p.1) l p.2):=by
  refine e1a2 J λZ L M=>?_
  exact#[_,I L,J4 i H M]
def Ru(i:Nat){h:Type}[Sls h]
 {j:Wf (Bd C e×Unit) τ (Bd C e×Unit)} [A:At i D (Bd C e) h] [U:Pt i h (Bd C e) D] {k:Nat} {B:List Str}
 (F:wn X.prog X.w X.K X.mg X.base 114 k f N B (zh T j)) (hr:wZ k X.A) (cl:BH X.K C) (hm:Meth X.K C m f) (hb:Binds X.K N B []) (hx:Passes 114 X E) (hn:PE X (.Name x G) (v9 i))
 (O:∀a b c d u,(zv a b c d u e).lookup m=none)
 (P:PE X (.Call (.Attribute (.Name x G) m apos) [] [] pos) (GN C m (zh T j) [] E (v9 i) Cn)) :
    EO X E T (.Call (.Attribute (.Name x G) m apos) [] [] pos) (λ(d:D)(o:τ->D->Prop) r=>j (A.get d,()) (λy l=>o y<|U.put (A.hole d) l.1)<|λC l=>r C<|U.put (A.hole d) l.1):=by
  refine#[_,P,λd F R S H o r Q s W Y Z=>?_]
  refine e3a4 (A.take s.rel) λv I M2 J z2 L z4=>?_
  obtain⟨a,dx,d1,d2,d3,d4,aa,rfl,_,g⟩:=id L
  refine#[_,J,a,dx,_,rfl,g.ob,O _ _ _ _ _,?_]
  refine Q6 (F:=F) (F1:=I) (F2:=M2) (mrg:=λ(b:h)(p:Bd C e×Unit)=>U.put b p.1) (wf:=j) (p:=(A.get d,())) (b:=A.hole d) (σ:=S) (Kn:=o) (Ke:=r) s.Uf z2 #[some<|.ref a,[],I,λ_=>False,rfl,#[λ_=>#[.inl,λz=>z.elim id λq=>q.elim],λ_ _ z=>z],L,rfl,λ_ z=>z] z4 (λb' G1 G2 ab ae af l h1 h2 t=>?_) W Y Z
  refine e4a4 h1 λv' ag N1 N2 y1 M y3 y4=>?_
  injection y1 with y5 y6
  subst y5
  refine Pt.same (A:=U) h2 J #[λa=>?_,λa m n=>t.yU a ((M.all a).mpr<|.inl m) n] y3
  rw[t.all,M.all]
  exact#[λz=>z.elim (λz=>z.elim .inl λq=>iv q<|y4.2 a) .inr,λz=>z.elim (λq=>.inl<|.inl q) .inr]
def tw_trueO{wa:Wf D (OL α) D}(ha:EO X E T a wa)(he:∀whole,rj a X.env whole=(do let v <- whole;nE a.pos;lw [v] (uQ v)):=by intro _;rfl):TW X E T a (cK wa λKn xs d1=>Kn (!xs.l.isEmpty) d1):=by
 refine e1a2 ha λta a1 a2=>?_;refine#[_,JD a1 he,λd F R σ H Kn Ke Q s hw kn ke=>a2 d F R σ H _ Ke _ s hw (λxs d1 u F1 F2 R1 H1 q1 c1 s1 n1=>?_) ke];refine e2a4 n1.is λb vs e _ h3 h4=>?_;cases e;refine#[!vs.isEmpty,.inl #[vs,wR.of h3,rfl],?_];obtain⟨l⟩:=xs
 have:vs.isEmpty=l.isEmpty:=by
  cases h4<;>rfl
 rw[this];exact kn _ d1 F2 R1 H1 q1 (c1.less λ_ z=>.inr z) s1
def Rv{c:Wf D (Tp α) D}(h:Gl X "list")(i:X.mg "list"=none)(j:EW X E T a c)(e:hV [a] X.env=78::hV [] X.env:=by rfl) :
  EO X E T (.Call (.Name "list" p) [a] [] pos) (cK c λ(f:OL α->D->Prop) t b=>f #[t.l] b):=by
 refine e1a2 j λN k m=>?_;refine#[_,yk zf h i kB (vI k vU e) (he:=e),λd F R n H f o Q s r v w=>m d F R n H _ o _ s r (λt b u x O P y z g A=>?_) w];obtain⟨q,S,rfl,_,B,C⟩:=A;refine#[_,_,rfl,.inr<|zX.of B,λl G=>?_];refine e1a3 (yp g G C) λI J L M=>?_;exact v _ b _ _ x I _ y (Ch.trans s g.tab z J) L M
def Vm(m:Gl X "tuple")(n:X.mg "tuple"=none)(o:ER X E T a r)(e:hV [a] X.env=78::hV [] X.env:=by rfl) :
  EW X E T (.Call (.Name "tuple" p) [a] [] pos) (cK r λ(f:Tp α->D->Prop) g b=>f #[g b] b):=by
 refine e1a2 o λP t v=>?_;refine#[_,yk Gk m n qX (vI t vU e) (he:=e),λd F R w H f x Q s y z A=>v d F R w H _ x _ s y (λg b u h i B C G c I=>?_) A];obtain⟨q,j,rfl,J,L⟩:=I b h i B 61 c;refine#[_,_,rfl,.inl #[wR.of J,λl M=>?_]];refine e0a3 (c.new (.tup j) M) λN k O=>?_;exact z _ b _ h i _ C (Ch.trans s c.tab G k) N #[l,j,rfl,O,vF,c.vals k L]
def ints_of{R:Rg}{H:Hp}:∀{xs:List Int} {vs:List V},Paired (rp R H) xs vs->vs=xs.map V.int:=by
 intro _ _ z
 induction z with
 |nil=>rfl
 |cons h t ih=>rw[show _=V.int _ from h,ih];rfl
def tw_inT{a b:i8}{wa:Wf D Int D}{wb:Wf D (Tp Int) D}(ha:EW X E T a wa)(hb:EW X E T b wb)(hm:jm .In b=false) :
  TW X E T (.Compare a [.In] [b] pos) (cB wa wb λk Kn t d2=>Kn (decide<|k∈t.l) d2):=by
 refine e1a2 ha λta a1 a2=>?_;refine e1a2 hb λtb b1 b2=>?_;refine#[_,yC GQ a1 b1 hm,λd F R σ H Kn Ke Q s hw kn ke=>a2 d F R σ H _ Ke _ s hw (λk d1 u F1 R1 H1 q1 c1 s1 r1=>?_) ke];refine b2 d1 F1 R1 σ H1 _ Ke _ s1 q1 (λt d2 v F2 R2 H2 q2 c2 s2 r2=>?_) λC y d' F' R' H' k c s'=>ke C y d' F' R' H' k 141 s';subst r1;obtain⟨l⟩:=t;obtain⟨q,us,rfl,_,h1,h2⟩:=r2;have e:=ints_of (xs:=l) h2;subst e;refine#[q,_,rfl,.inr<|zX.of h1,rfl,BM _,_,rfl,?_];rw[cr im,CT];exact kn _ d2 F2 R2 H2 q2 135 s2
def J5{c:i8}{body:List iK}{mb:List Nat}{D2:Type}[Sls D2]{U:Wf D Bool D}{Y:D->(D2->Prop)->99->87->Prop}[Z:Fg D2 D][J:Pj D PO n](I:QY PO ms n)(hp:sg 54 X.A X.env X.xe)
  (hc:TW X E T c U) (hb:SW X E T mb n body Y) (z:∀i∈ms,i∈mb) :
  S1 X E T ms n (.While c body [] pos) (cW U Y Z.fg J.pj):=by
 refine e1a2 hc λtc c1 c2=>?_;refine e1a2 hb λtb b1 b2=>?_;refine#[_,P7 hp c1 b1,λd F R σ H Kn Kr Ke En s hw kn kr ke=>?_];obtain⟨W,⟨m0,w0⟩,r⟩:=hw;refine#[λm e H1=>∃k G l,Ch T F R H G l H1/\wG T G l H1 k e/\Ag mb σ e/\W m k,#[m0,d,F,R,Ch.refl _ _ _ _,s,Ag.refl _ _,w0],?_];rintro m e H1 ⟨k,G,l,k1,L,g1,w1⟩;refine c2 k G l e H1 _ _ _ L (r m k w1) (λb d2 G2 R2 H2 q2 k2 t=>?_) λC y d' F' R' u q c s'=>?_
 ·have j:=Ch.trans s L.tab k1 k2
  cases b with
  |false=>exact kn d2 G2 R2 H2 e q2 j t<|g1.sub z
  |true =>
   refine#[λo u=>∃B,B<m/\∃k G l,Ch T F R H G l u/\wG T G l u k o/\Ag mb σ o/\W B k,λo u h=>h,?_];refine b2 d2 G2 R2 e H2 _ Kr Ke _ t q2 (λd3 G3 R3 H3 aa q3 k3 p g3=>?_) (λx M v M1 M2 N H4 O P f n4=>?_) λC y M F4 N H4 O P f=>?_
   ·refine e1a2 q3 λB hm w3=>?_;refine e1a2 (Z.le p.rel) λG5 Q r5=>?_;exact#[B,hm,_,G5,R3,(Ch.trans s t.tab j k3).less Q,#[r5,λa h=>p.sub a<|Q a h,p.xP,p.tab,p.wx,λh=>p.wd<|Q T h],g1.trans g3,w3]
   ·exact kr x M v M1 M2 N H4 O (Ch.trans s t.tab j P) #[I.dp (g1.sub z) f.rel,f.sub,f.xP,f.tab,f.wx,f.wd] n4
   ·exact ke C y M F4 N H4 O (Ch.trans s t.tab j P) #[I.dp (g1.sub z) f.rel,f.sub,f.xP,f.tab,f.wx,f.wd]
 ·refine e1a2 (wN (PO:=PO) s') λG' S g=>?_;exact ke C y _ G' R' u q ((Ch.trans s L.tab k1 c).less S) #[I.dp (g1.sub z) g.rel,g.sub,g.xP,g.tab,g.wx,g.wd]
end
open PyProof.Rows hiding K
noncomputable def Ite(K:hJ)(a:hO):It :=
 #[λi H=>∃b x,wR K H a b/\b[i]?=↑x,λi H v c=>∃p x,v=.ref p/\H p=none/\c=upd H p (.tup [.int i,x])/\∀b,wR K H a b->b[i]?=↑x,λi H=>∃b,wR K H a b/\b.length<=i]
def Vn{t':Nat}{xs:List V}{nh:Nat}(I:Inv X d y H s)(i:Cg X d H e)(j:Cg X d H l)(x:⇑s<=a)(k:∀b o,b≠e->b≠l->s.heap.get? b=↑o->h'.get? b=↑o)(A:xs.length<=hZ)(r:Vals xs us)(B:IsTup h' a us.toArray) :
  Inv X d y (upd H a<|.tup xs) { s with heap:=h',toks:=t'}:=by
 have C:=I.wy.fresh x;have f:∀b u,H b=↑u->b≠e/\b≠l:=λb u q=>#[λz=>(by rw[z,i.1]at q;cases q),λz=>(by rw[z,j.1]at q;cases q)];have t:∀b o,b∉[e,l]->s.heap.get? b=↑o->h'.get? b=↑o:=λb o h q=>k b o (λz=>h<|by simp[z]) (λz=>h<|by simp[z]) q;have p:∀{b u},H b=some u->upd H a (.tup xs) b=some u:=λ{b u} q=>by rw[vB<|vM q C];exact q
 refine I.step (g':=s.gens) (d':=s.drawn) (ch:=[e,l]) (λb h=>?_) (λb o _ _ g q _=>t b o g q) (λb o _ _ g q _=>#[o.slots,t b o g q]) (λb o g q n=>?_)
  (λb o g q=>#[o,t b o g q]) (λ_ _ q=>p q) (λ_ _ _ q=>p q) (λb J q=>#[#v[],by rw[p q];simp]) (λm D=>?_) (λb u q=>?_) I.bare
 ·rcases List.mem_cons.mp h with z|z
  ·subst z;exact#[i.2.2.2.1,i.2.1,i.2.2.2.2.1,i.2.2.2.2.2]
  ·have z:b=l:=by simpa using z
   subst z;exact#[j.2.2.2.1,j.2.1,j.2.2.2.2.1,j.2.2.2.2.2]
 ·rw[vB<|λz=>iv (ie q)<|by rw[z];exact Nat.not_lt.mpr x];exact n
 ·refine e3a2 D λo E F G r=>?_;exact#[o,E,F,k _ o (Ne.symm i.2.1) (Ne.symm j.2.1) G,r]
 ·by_cases h:b=a
  ·subst h;rw[vF]at q;cases q;exact#[A,us,r,B]
  ·rw[vB h]at q;refine(I.wy b u q).CA (λc v g w=>?_) (λc w=>p w) λc L w=>p w;rcases g with z|z
   ·rw[z]at w ⊢;exact k b v (f b u q).1 (f b u q).2 w
   ·exact k c v (f c _ z).1 (f c _ z).2 w
def OY{K:hJ}{x1}(a e it:hO)(hne:e≠it):Turn P w K (.Tuple els x1 tp) (Ite K a) [e,it] e (λi h=>(∃old,IsEnum h e it i old)/\h.IsListIter it a i) where
 mem:=by simp
 obj:=λi h st b hb=>by
  obtain⟨⟨old,h1⟩,⟨o,h2,c,d⟩⟩:=st;rcases List.mem_cons.mp hb with z|z
  ·subst z
   exact#[_,h1,λv z=>by
    have z':t7 _=Data.cell v:=z
    cases z']
  ·have z:b=it:=by simpa using z
   subst z;exact#[o,h2,λv z=>by rw[d]at z;cases z]
 keep:=λi h h' st k=>#[e1a1 st.1 λold h1=> #[old,k e q0o _ h1],st.2.at λo q=>k it q0o o q]
 item:=by
  intro X hP hw hK hc i pins s σ H E I hf st hg;subst hP hw hK;refine e2a2 hg λxs x hq hx=>?_;refine e1a3 (I.list hq) λAV rv p hz=>?_;refine e1a2 (rv.get hx) λu hu ru=>?_;obtain⟨⟨old,h1⟩,h2⟩:=st;have fe:=hf e q0o;have fi:=hf it q0o;refine wpAny_pyNext_enum_item h1 h2 p.isList (x:=u) (by simpa using hu) hne λh' a1 a2 a3 a4 a5=>#[_,rfl,wpAny_letOwnedTupleGo_enum a1 λh2' b1 b2=>?_];have hel:e<⇑s:=ie h1;have t2:h2'.get? ⇑s=some { cls:=.type "tuple",data:=.seq #v[.int i s.toks,u]}:=b2.extBut _ _ (jD hel) a3;refine#[.ref ⇑s,upd H ⇑s<|.tup [.int i,x],Vn (s:=s) (h':=h2') (t':=s.toks+1) (xs:=[.int i,x]) (us:=[.int i s.toks,u]) (nh:=0) I fe fi (hW _) (λb o n1 n2 q=>b2.extBut b o n1<|a5 b o n1 n2 q) (by show 2<=hZ;decide) (.cons ⟨_,rfl⟩<|.cons ru .nil) ⟨_,t2,rfl,_,rfl⟩,rfl,⟨_,x,rfl,I.wy.fresh<|hW _,rfl,λys hy=>by rw[I.JB hy hq];exact hx⟩,#[#[_,b1],a2.extBut b2.extBut<|Ne.symm hne],λb hb=>?_];rw[vB]
  ·exact(hf b hb).1
  ·refine e1a2 h2 λo ho _=>?_;rcases List.mem_cons.mp hb with z|z
   ·rw[z];exact iz hel
   ·have z:b=it:=by simpa using z
    rw[z];exact iz<|ie ho
 done:=by intro X hP hw hK hc i pins s σ H E I hf st hg;subst hP hw hK;refine e1a2 hg λxs hq hx=>?_;refine e1a3 (I.list hq) λAV rv p hz=>?_;obtain⟨⟨old,h1⟩,h2⟩:=st;refine e0a6 (hf it q0o) λf0 f1 f2 f3 f4 f5=>?_;have hl:=rv.length;exact wpAny_pyNext_enum_end (I.ok.hd hc) h1 h2 p.isList (by simp;lia) λh' eb=>93
 self:=λ_ _ _ _ _ st h=>wpAny_pyIter_enum st.1.choose_spec h
section
variable{D:Type}[Sls D]{α:Type}[Rep α]
def a09(K:hJ)(c:TA):TI:=λd H R=>c d H λe b=>∃a,e=[.ref a]/\(∃f,wR K b a f)/\R (Ite K a) b
def Vo{i}(j:Gl X "enumerate")(k:X.mg "enumerate"=none)(l:PA X [a] m)(n:hV [a] X.env=[78]:=by rfl):PI X (.Tuple o i G) (.Call (.Name "enumerate" p) [a] [] pos) (a09 X.K m):=by
 intro d s t H R I h;refine PyProof.Rows.Call_<|Am I j k PyProof.Rows.boot_enumerate<|kA (ww (l pos d s t H _ I h) λJ c u=>e2a3 u λL v f w x=>?_) n rfl;obtain⟨a,e,⟨M,y⟩,q⟩:=x;subst e
 cases w with
 |cons r A =>
  cases A;cases r;refine e1a3 (f.list y) λB N p O=>?_;refine call_enumerate_list p.isList λP g C Q E=>?_;refine wpAny_pyIter_enum g ?_;refine#[⇑c+1,[⇑c+1,⇑c],_,_,v,rfl,f.kept (t':=c.toks) E,OY a _ _<|jD<|jP _,⟨⟨_,g⟩,C⟩,λb F=>?_,q]
  have e:⇑c<=b:=by
   rcases List.mem_cons.mp F with z|z
   ·rw[z];exact mr _
   ·have z:b=⇑c:=by simpa using z
    rw[z];exact hW _
  exact f.Ht e<|f.wy.fresh e
noncomputable def OZ:Nat->List α->List (Int×α)
 |_,[]=>[]
 |k,x::r=>((k:Int),x)::OZ (k+1) r
def ED:∀(k:Nat)(a:List α),(OZ k a).length=a.length
 |_,[]=>rfl
 |k,x::r=>by show (OZ (k+1) r).length+1=r.length+1;rw[ED (k+1) r]
def Nv:∀(k:Nat)(a:List α)(i:Nat),(OZ k a)[i]?=(a[i]?).map λx=>(((k+i:Nat):Int),x)
 |_,[],_=>by simp[OZ]
 |k,x::r,0=>by simp[OZ]
 |k,x::r,i+1=>by
  show (((k:Int),x)::OZ (k+1) r)[i+1]?=_;rw[sT,sT,Nv (k+1) r i];congr 1
  funext y
  rw[show k+1+i=k+(i+1) by lia]
def FE{K:hJ}{xs:List α}{vs:List V}:Z1 (Ite K a) (OZ 0 xs) (λR H=>H a=↑(.lst vs)/\Paired (rp R H) xs vs) where
 go:=λ{R H i} p h=>by rw[ED]at h;obtain⟨v,e,_⟩:=xD (i:=i) (x:=xs[i]) p.2 (by simp[h]);exact#[vs,v,wR.of p.1,e]
 Jo:=λ{R H i v H'} p xP hi y=>by rw[ED]at hi;obtain⟨q,w,e,hq,e',y⟩:=y;subst e e';have y':=y vs<|wR.of p.1;obtain⟨u,e,r⟩:=xD (i:=i) (x:=xs[i]) p.2 (by simp[hi]);rw[y']at e;cases e;have ex:Ext R R H R (upd H q<|.tup [.int i,w]):=⟨λb o _ z=>by rw[vB<|vM z hq];exact z,λ_ z=>.inl z⟩;refine#[.inr #[q,_,hq,rfl],((i:Int),xs[i]),?_,q,.int i,w,rfl,λz=>xP q z hq,vF,rfl,Rep.st r ex];rw[Nv,jO hi,tO];rfl
 stop:=λ{R H} p=>#[vs,wR.of p.1,by rw[ED,Paired.length p.2];exact hW _]
def Vp{i:List i8}{A}{w:Wf D (List α) D}(B:Gl X "enumerate")(C:X.mg "enumerate"=none)(h:EW X E T e w)(G:hV [e] X.env=71::hV [] X.env:=by rfl)(j:hV [e] X.env=[71]:=by rfl) :
  IW X E T is (.Tuple i A tp) (.Call (.Name "enumerate" p) [e] [] pos) (λ(b:D) (_:List (Int×α))=>b) (cK w λo f k=>o (OZ 0 f) k):=by
 refine e1a2 h λt I J=>?_;refine#[_,Vo B C (vI I vU G) j,λd F R L H o Ke Rk s M N O=>J d F R L H _ _ _ s M (λf k v l P Q q c u r=>?_) O];obtain⟨a,m,rfl,S,x,U⟩:=r;refine#[a,rfl,#[m,wR.of x],N (OZ 0 f) k _ (λR H=>(H a=↑(.lst m)/\Paired (rp R H) f m)/\¬R a) l (λ_=>False) l P Q q c u.Uf (two_nil l) u.rel #[λp=>FE.go p.1,λp=>FE.Jo p.1,λp=>FE.stop p.1] #[#[x,U],S] (λp y nf n=>?_) λb' G2 W Y Z aa p h g t=>Sls.fq h<|two_eq t λ_ z=>z];have na:¬_:=λz=>p.2<|y a z;exact#[#[n.keep a _ na p.1.1,wT (n.wide y) p.1.2],n.not p.2 p.1.1]
end
def Ig(C:hO):Sp:=λf H Q E=>∃p e,f=[.ref p]/\H p=↑(.ins C e []) /\
 ∀c d a,H c=none->H d=none->c≠d->a p=↑(.ins C e<|zv c d 0 0 0 false)->a c=↑(.dK [])->a d=↑(.dK [])->(∀b o,b≠p->H b=↑o->a b=↑o)->Q .xj a
def Vq{C:hO}{m:iK}{k:Nat}(F:zA K "__init__" i m f D)(S:vJ ["self"] ["self"] (vA m))(g:Bl K C)
 (j:∀(d:hR)(A:jL)(a:List Env)(s:h9)(H:Hp)(E:XK),ES (wC (wh P w) P w K G base ["self"] i (vA m) f d A a s H E) (wm m)<|K3 (Op K (v9 0) E7 "ranks")<|K3 (Op K (v9 0) E7 "borders")<|Op K (v9 0) (tC<|.int 0) "upcoming") :
    wn P w K G base (wh P w) (k+1) f D ["self"] (Ig C):=by
  obtain⟨T,U,W,I,X,Y,d,J,L,rfl,lk,t⟩:=F.ex
  refine JH lk t S (λM H Q E N=>e2a2 N λp l e _=>by rw[e];rfl) λO a s H M Q E Z u=>#[_,j d O a s H E,?_]
  obtain⟨p,l,rfl,B,k⟩:=u
  intro h v
  have n:p≠h:=vM B v
  have R:upd H h (.dK []) p=↑(.ins C l []):=by rw[vB n];exact B
  refine#[_,rfl,p,C,l,[],rfl,R,g.cl,g.nR,q0q,?_]
  intro q c
  have r:p≠q:=λz=>by rw[<- z,vF]at c;cases c
  rw[vB r.symm]at c
  have x:q≠h:=λz=>by rw[z,vF]at c;cases c
  rw[vB x]at c
  refine#[_,rfl,p,C,l,[("ranks",.ref h)],rfl,?_,g.cl,g.nB,(by show 1<1000;decide),?_]
  · rw[vB r, vF]
    rfl
  refine#[_,rfl,p,C,l,[("ranks",.ref h),("borders",.ref q)],rfl,?_,g.cl,g.nU,(by show 2<1000;decide),?_]
  · rw[vF]
    rfl
  refine k h q _ v c x.symm ?_ ?_ ?_ λb o y j=>?_
  · rw[vF]
    rfl
  · rw[vB n.symm, vB n.symm, vB x.symm, vB n.symm, vF]
  · rw[vB r.symm, vB r.symm, vF]
  · rw[vB y, vB y, vB<|vM j c, vB y, vB<|vM j v]
    exact j
structure Mf(K:hJ)(C:hO)(m qual:Str)(st:iK)(ps:List Str)(f:hO)(fd:iY):Prop where
 fn:zA K m qual st f fd
 me:Meth K C m f
 bd:Binds K fd ps []
structure Xc(K:hJ)(mg:Str->Option hR)(x:Str)(C:hO):Prop where
 ex:∃(Em:List hR)(B newId yY:String),mg x=↑(.ref C)/\jE K C Em newId=true/\kE B newId yY Em
 g0:∀H',GX.g C none H'
def Eo{k:Nat}(r:wZ k A):A.units+1<kI:=oz (Nat.add_le_add_left q0q _) r.units
noncomputable def a3r(s:iK):List iK:=match s with
 | .ClassDef _ _ _ body _ _ _ _ _ _ _=>body
 |_=>[]
noncomputable def BY(s:iK)(i:Nat):iK:=(a3r s).getD i<|.Pass #[0,0,0,0]
section
variable{D D' PO τ:Type}[Sls D][Sls D'][Sls PO][Ow τ]
def C7{k:Nat}{C:hO}[J:Pj D PO n](r:Gl 88 x)(h:Xc K e x C)(l:(x==66)=false:=by decide)
 (q:hV [.Constant (.str m) k mp] (88).env=(false,eval (.Constant (.str m) k mp) (88).env)::hV [] (88).env:=by rfl)
 (o:(jz i<|hV [] (88).env).any (·.1)=false:=by rfl) :
    S1 88 E T z n (.Raise (some<|.Call (.Name x np) [.Constant (.str m) k mp] [] i) none pos) (λ(d:D)(_:D'->Prop)(_:τ->PO->Prop) t=>t C<|J.pj d):=by
  obtain⟨u,B,p,j,v,O,y⟩:=h.ex
  exact C3<|Fh r v O y h.g0 (vI Cd vU q) l q o
end
section
variable{D:Type}[Sls D]
def Rx{i:Int}(b:Gl X x)(c:X.mg x=↑(.int i t))(e:(x==66)=false:=by decide):EW X E T 94 (λ(d:D)(a:Int->D->Prop) _=>a i d) :=
 #[_,MY (v:=.int i) b c #[t,rfl] e,λd F R h H a j Q s f g _=>g i d _ F R H f 61 s rfl]
end
end WL
namespace L2
variable[L2.GX]
open PySem PySem.Spec PyProof.Rows
structure Ry(N P:List Str)(sc:mi)(cl:List (Str×hO)):Prop where
 kind:sc.kind=.function
 co:sc.isCoroutine=false
 gen:sc.isGenerator=false
 nd:N.Nodup
 pre:N.take P.length=P
 par:∀x∈P,sc.names.lookup x=some .local
 Ct:∀y∈sc.names,y.2≠.cell
 has:∀x,sc.names.lookup x=some .free->∃c,cl.lookup x=↑c
 inj:∀x y c,cl.lookup x=↑c->cl.lookup y=↑c->x=y
noncomputable def BQ(CX:Qi)(P:iT)(w:ji)(K:hJ)(mg:Str->Option hR)(base:jd)(N:List Str)(qual:Str)(scope:mi)(f:hO)(cd:hR)(cl:List (Str×hO))(A:jL)(outer:List Env)(s:h9)(H:Hp)(E:XK):Cx where
 prog:=P
 w:=w
 K:=K
 mg:=mg
 base:=base
 A:=A.deeper<|jo qual scope ⇑s f cd cl
 N:=N
 s₀:=s
 H₀:=H
 env:=jo qual scope ⇑s f cd cl
 outer:=outer
 stack:=jo qual scope ⇑s f cd cl::outer
 ex:=[]
 calm:=true
 fn:=λ_=>false
 pn:=[]
 xe:=λe s'=>ii (ik P w) (A.deeper<|jo qual scope ⇑s f cd cl) (uR (jo qual scope ⇑s f cd cl) e) (λ_ Uw=>CX outer H s E e Uw) (λe' Uw=>CX outer H s E e' Uw) s'
section
variable{P:iT}{w:ji}{K:hJ}{mg:Str->Option hR}{base:jd}{N ps:List Str}{qual:Str}{scope:mi}{f:hO}{cd:hR}{cl:List (Str×hO)}{A:jL}{outer:List Env}{s:h9}{H:Hp}{E:XK}
def Rz:Passes (wh P w) (BQ (wh P w) P w K mg base N qual scope f cd cl A outer s H E) E:=by intro a i j k e l I h;obtain⟨C,x,b,rfl,F,c⟩:=h;exact jb (QV I rfl rfl F) (λ_ d g=>#[C,x,b,rfl,g,c]) λ_ _ z=>z
def RA:∀{l:List (Str×d)},(l.map (·.1)).Nodup->(x,u)∈l->l.lookup x=↑u:=by
 intro l
 induction l with
 |nil=>intro _ h;cases h
 |cons p l b =>
  intro a h;rw[iN,List.nodup_cons]at a;obtain⟨y,v⟩:=p;rcases List.mem_cons.mp h with z|z
  ·cases z;rw[i4,pT]
  ·have c:(x==y)=false:=beq_eq_false_iff_ne.mpr λe=>a.1 (by rw[<- e];exact List.mem_map.mpr #[_,z,rfl]);rw[i4,c];exact b a.2 z
def J7:∀(ps:List b)(a:List c),((ps.zip a).map (·.1)).Sublist ps
 | [],_=>by simp
 |_::_,[]=>by simp
 |p::ps,u::a=>by rw[List.zip_cons_cons,iN];exact(J7 ps a).cons₂ p
def Vs{ps:List Str}{i:Nat}(b:ps.Nodup)(c:ps[i]?=↑x)(d:a[i]?=↑u):(ps.zip a).reverse.lookup x=↑u:=by
 refine RA ?_ ?_
 ·rw[List.map_reverse];refine List.pairwise_reverse.mpr<|pE Ne.symm ?_;exact b.sublist<|J7 ps a
 ·rw[List.mem_reverse];refine List.mem_iff_getElem?.mpr #[i,?_];rw[List.getElem?_zip_eq_some];exact#[c,d]
def LO{j:jd}{D:Nat}{k:List V}(S:Ry N ps scope cl)(C:∀x c,cl.lookup x=↑c->∃v,base.IsCell c v)(F:A.handled=none)(g:JF P w K mg base A outer s H)(R:k.length=ps.length)(r:Vals k G)
 (I:j.Ns ⇑s (λx=>(ps.zip G).reverse.lookup x))(t:∀b o,s.heap.get? b=↑o->j.get? b=↑o):Inv (BQ J P w K mg base N qual scope f cd cl A outer s H E) [] (start N k) H { s with heap:=j,toks:=D}:=by
  have L:ps.length<=N.length:=by have:=congrArg oJ S.pre;rw[mw]at this;lia
  have l:∀b:hO,b∉(BQ J P w K mg base N qual scope f cd cl A outer s H E).ex:=λb z=>iv (show b∈([]:List hO) from z) q0o
  refine#[#[g.mod,S.kind,rfl,rfl,hW _,λy z c j d=>S.inj y z c j d,λy m=>?_,λy c z _=>(by cases z),λ_=>F,sZ g.frames,.inr #[rfl,rfl],λb z=>iv z (l b),g.bs,g.Jx,λb _ _=>l b,λb z=>iv z (l b),g.zd,g.KO],
    rfl,g.bare,Un.kept t,#[_,I,λi y v j d T=>?_],λy c h=>?_,g.wy.fresh (hW _),λy c h=>?_,λp n=>iv (show p∈([]:List (hO×Obj)) from n) q0o,g.wy.kept t,?_]
  · have m : scope.names.lookup y = some .cell \/ scope.names.lookup y = some .free := m
    rcases m with m|m
    · exact iv rfl<|S.Ct _<|kJ m
    · exact S.has y m
  · have q : i<k.length := by
      unfold start at d
      by_cases q:i<k.length
      · exact q
      · rw[ki<|by simpa using q]at d
        rw[sP]at d
        split at d<;>cases d
    have M:k[i]?=↑v:=by
      unfold start at d
      rw[mz (by simpa using q),jU]at d
      cases e:k[i]? with
      |none=>rw[e]at d;cases d
      |some a=>rw[e]at d;cases d;rfl
    refine e1a2 (r.get M) λu O Q=>?_
    have n:ps[i]?=↑y:=by rw[<- S.pre,sv q0a];exact j
    have B:ps.Nodup:=by rw[<- S.pre];exact S.nd.sublist<|uS _ _
    exact#[u,Q,.inl #[S.par y<|j7 n,Vs B n O]]
  · obtain⟨v, z⟩ := C y c h
    exact#[v,z.keeps λb o e=>t b o (g.bs b o e).1]
  · refine e2a2 (C y c h) λv o z _ => ?_
    exact(g.bs c o z).2
  · unfold start
    show _=N.length
    rw[iw,h8,tJ]
    lia
end
def PEA(X:Cx)(c:List iK)(e:i8)(t:TE):Prop :=
 ∀(a:List (hO×Obj)) (s:h9) (b:St) (H:Hp) (Q:VK),Inv X a b H s->t b H Q->uu 54 X.A (.func c X.env) (eval e X.env) (EP X a b Q) X.xe s
def PSA(X:Cx)(c:List iK)(d:iK)(t:TS):Prop :=
 ∀(a:List (hO×Obj)) (s:h9) (b:St) (H:Hp) (D:Ends),Inv X a b H s->t D b H->uu 54 X.A (.func c X.env) (exec d X.env) (SP X a D) X.xe s
def RB(X:Cx)(c:List iK)(d:List iK)(t:TS):Prop :=
 ∀(a:List (hO×Obj)) (s:h9) (b:St) (H:Hp) (D:Ends),Inv X a b H s->t D b H->uu 54 X.A (.func c X.env) (execs d X.env) (SP X a D) X.xe s
section
variable{fb:List iK}{pos:Pos}
def RC{b:iK}(h:PS X b t):PSA X fb b t:=λa s c H D I q=>wpAt_of_wpAny<|h a s c H D I q
def EE{b:List iK}(h:ES X b t):RB X fb b t:=λa s c H D I q=>wpAt_of_wpAny<|h a s c H D I q
def zn{e:iK}{a:List iK}(g:PSA X fb e h)(i:RB X fb a j):RB X fb (e::a) (K3 h j):=λb s k H D I q=>by
 refine ks_wpAt_execs_cons<|rR (g b s k H _ I q) (λf l c=>?_) λ_ _ z=>z
 cases f with
 |next=>obtain⟨d,m,J,n⟩:=c;exact i b l d m D J n
 |brk=>exact c
 |cont=>exact c
 |ret u=>exact c
def Vt(h:PEA X fb e t):PSA X fb (.Return ↑e pos) (Up t):=λa s b H D I q =>
 ks_wpAt_Return_some (rR (h a s b H _ I q) (λu g c=>e2a3 c λv d J r f=>#[v,b,d,J,r,f]) λ_ _ z=>z)
def FF(h:PEA X fb e t)(c:kg e none pos.line X.env=pure false:=by rfl):PSA X fb (.Expr e pos) (GI t):=λa s b H D I q =>
 ks_wpAt_Expr_any (rR (h a s b H _ I q) (λu i d=>e2a3 d λv f J r g=>#[b,f,J,g]) λ_ _ z=>z) I.quiet c
end
structure LP(P:iT)(K:hJ)(C f ya cc:hO)(x0:Str):Prop where
 fn:∃(oc:hR)(od:Option hO)(fd:iY) (OB:Array (Option hR)) (ar:Arg),K.lookup f=some #[oc,od,.func fd,OB]/\(fd.params.posonlyargs++fd.params.args).head?=↑ar/\ar.arg=x0
 code:∃(oc:hR)(od:Option hO)(vs:Array hR) (OB:Array (Option hR)) (file:Str) (tf:Tok),K.lookup ya=some #[oc,od,.fields vs,OB]/\vs[2]?=↑(.str file tf)/\((P.main.file:Str)==file)=true
 cell:∃(oc:hR)(od:Option hO) (OB:Array (Option hR)),K.lookup cc=some #[oc,od,.cell<|some<|.ref C,OB]
 cls:∃cd,ni K C=↑cd
 sub:lh K C (.ref C)=↑true
 opq:iC K rQ "thirdparty.any"=↑none
 top:(P.main.scope.names.lookup ("super":Str)).isSome=false
def a1a(C:hO)(c:Sp)(E:XK)(t:TA):TE:=λb H Q=>∃a d e,b[0]?=↑(some<|.ref a)/\H a=some (.ins C d e)/\t b H λf g=>c (.ref a::f) g Q E
def RD(K:hJ)(h:hO)(c:Pos)(f:List i8)(d:Env):Prop:=∀{M:Model} {B:jL} {Q e:hR->h9->Prop} {g:h9} {q a:hO},
 ii M B (uP<|jz c<|hV f d) (λi b=>rS K q h (.ref a) b.heap/\ii M B (call (.ref q) i) Q e b) e g->ii M B (oa c (.ref q) [] (jz c<|hV f d) []) Q e g
def O0(d e b c:Pos)(m:Str)(f:List i8):Prop:=∀a:Env,∃h:Sem Bool,eval (.Call (.Attribute (.Call (.Name "super" d) [] [] e) m b) f [] c) a=(do
 let g <- i7 (.Call (.Name "super" d) [] [] e) m a (eval (.Call (.Name "super" d) [] [] e) a)
 nE b.atName
 let (i,first) <- lw [g] (nc g m h)
 oa c i first (jz c (hV f a)) [])
def cw_nil{K:hJ}(b:mS K f2=true):RD K f2 pos [] c:=λ{M B Q e f q a} h=>by refine pU (P:=rS K q f2<|.ref a) rfl (uJ b) ?_;refine am<|jb h (λg i d=>?_) λ_ _ x=>x;refine iX ?_;exact am<|ap<|am<|ap<|ap d
def cw_cons{K:hJ}(f:mS K f2=true)(g:hV (e::d) b=(false,eval e b)::hV d b:=by rfl)(c:(jz pos<|hV d b).any (·.1)=false:=by rfl):RD K f2 pos (e::d) b:=λ{M B Q i j q a} h=>by rw[g]at h ⊢;exact pU (P:=rS K q f2<|.ref a) (by show ((false||(jz pos<|hV d b).any (·.1))||false)=false;rw[c];rfl) (uJ f)<|jI h
section
variable{P:iT}{w:ji}{K:hJ}{mg:Str->Option hR}{base:jd}{N ps:List Str}{qual:Str}{scope:mi}{f ya cc:hO}{A:jL}{outer:List Env}{s:h9}{H:Hp}{E E0:XK}{C f2:hO}{x0 m:Str}{k:Nat}{fd2:iY}{sp:Sp}{fb:List iK}{p0 p1 apos pos:Pos}{es:List i8}{ta:TA}
set_option tactic.hygienic true in
def Ih(S:LP P K C f ya cc x0)(ab:N[0]?=↑x0)(M:scope.names.lookup ("super":Str)=some .globalImplicit)(R:scope.names.lookup 107=some .free)(x:scope.names.lookup x0=some .local)(ae:mg "super"=none)
 (hm:kq K C C m=↑(some<|.ref f2)) (ht:pA K (.ref f2)=↑(.type "function")) (aq:mS K f2=true) (F:wn P w K mg base (wh P w) k f2 fd2 ps sp) (T:Binds K fd2 ps [])
 (hr:wZ k (A.deeper<|jo qual scope ⇑s f (.ref ya) [85])) (ha:PA 18 es ta)
 (af:RD K f2 pos es (jo qual scope ⇑s f (.ref ya) [85])) (y:O0 p0 p1 apos pos m es) (U:(m==107)=false:=by decide) :
    PEA 18 fb (.Call (.Attribute 86 m apos) es [] pos) (a1a C sp E ta):=by
  intro l i σ H1 Q I h
  obtain⟨a,dx,fs,h0,ea,h⟩:=h
  have X:=I.zp
  obtain⟨oc,od,fd,au,ar,lf,hp,rfl⟩:=S.fn
  obtain⟨av,aw,ax,al,file,tf,lc,ag,B⟩:=S.code
  obtain⟨an,ao,aa,D⟩:=S.cell
  obtain⟨cd,j⟩:=S.cls
  obtain⟨mA,O,_,_,_,_⟩:=CG I.wy ea
  refine e1a2 I.loc λmL hn hl=>?_
  refine e1a2 (hl 0 ar.arg (.ref a) ab h0<|.inl x) λu ru lk=>?_
  obtain rfl:u=iD a:=ru
  have ah:mL ar.arg=↑(.ref a):=by
    rcases lk with⟨_,q⟩|⟨q,_⟩
    · exact q
    · have q : scope.names.lookup ar.arg = some .cell \/ scope.names.lookup ar.arg = some .free := q
      rw[x]at q
      rcases q with q|q<;>cases q
  obtain⟨oD,G,J⟩:∃oD,i.heap.get? C=some oD/\oD.data=.cls cd:=by
    unfold ni at j
    split at j
    · rename_i c d ay sl ho
      cases j
      exact#[_,X _ _ ho,rfl]
    · cases j
  refine e1a2 I.mod.blt λmb ai aj=>?_
  have ne:a≠C:=λz=>by
    have:=O.obj
    rw[z,G]at this
    cases this
    cases J
  obtain⟨pl,y⟩:=y<|jo qual scope ⇑s f (.ref ya) [85]
  refine ks_wpAt_MethodCall (pl:=pl) (ks_wpAt_super_base (env:=jo qual scope ⇑s f (.ref ya) [85]) M R U rfl (X _ _ lf) rfl hp rfl (X _ _ lc) rfl ag B S.top ?_) y
  refine rD I.ok.kind M<|oG (env:=jo qual scope ⇑s f (.ref ya) [85]) (I.mod.glob.keeps I.bk) ae (ai.keeps I.bk) ((aj _ q0s).trans rfl) #[rfl,?_]
  refine qQ I.ok.kind R rfl #[_,X _ _ D,rfl] ?_
  refine lv I.ok.kind x hn ah ?_
  refine ks_wpAny_isType_cls (h:=i.heap) (g:=i.gens) (d:=i.drawn) (t:=i.toks) (os:=i.os) G J #[rfl,?_]
  refine ks_wpAny_call_super (h:=i.heap) (g:=i.gens) (d:=i.drawn) (t:=i.toks) (os:=i.os) G J O.obj rfl (λc e=>by cases e) (pV X S.sub) λn e k'=>?_
  have L:Inv _ l σ H1 #[n,i.gens,i.drawn,i.toks,i.os]:=I.kept (t':=i.toks) k'
  unfold kq at hm
  rw[j]at hm
  obtain⟨of,ak,Y⟩:∃of,n.get? f2=some of/\of.cls=.type "function":=by
    have p:(K.lookup f2).map (·.cls)=↑(.type "function"):=ht
    cases z:K.lookup f2 with
    |none=>rw[z]at p;cases p
    |some of=>rw[z]at p;exact#[of,L.zp _ _ z,jp p]
  refine ks_wpAny_getMethod_super e (sU L.zp S.opq) (l₀:=cd.mro) (λA Q E s k q=>am<|(pO L.zp j) A _ E s k<|ap q) rfl L.zp hm ak Y ne U ?_
  have I2:Inv _ l σ H1 #[n.push { cls:=.type "method",data:=.fields #v[.ref f2,.ref a]},i.gens,i.drawn,i.toks+1,i.os]:=L.kept (t':=i.toks+1) λb o z=>ci _ z
  have fr:H1 n.objs.size=none:=L.wy.fresh<|hW _
  have gq:(n.push { cls:=.type "method",data:=.fields #v[.ref f2,.ref a]}).get? n.objs.size=↑(mO (.ref f2)<|.ref a):=oQ rfl rfl
  have I3:=I2.pinned (fp:=[n.objs.size]) (λb T=>by rw[List.mem_singleton.mp T];exact L.Ht (hW _) fr) λb T=>by rw[List.mem_singleton.mp T];exact#[_,gq,λv z=>by cases z]
  refine af (a:=a)<|ww (ha pos _ _ σ H1 _ I3 h) λZ s2 z9=>e2a3 z9 λvs H2 I4 r q2=>?_
  have g2:s2.heap.get? n.objs.size=↑(mO (.ref f2)<|.ref a):=(I4.pin (n.objs.size,mO (.ref f2)<|.ref a)<|iF _<|iF _<|yj ic gq).1
  refine#[#[g2,I4.zp],?_]
  have I5:=I4.AY
  have r2:Vals (.ref a::vs) (.ref a::Z):=.cons rfl r
  have hl:(iD a::Z).length=ps.length:=by rw[<- r2.length];exact F.len _ _ _ _ q2
  refine m8<|ks_codeAny_call_bound g2<|ko (F.run _ _ s2 H2 ⟨.ref a::Z,[]⟩ (.ref a::Z) (.ref a::vs) Q E hr I5.Hw (by simpa using T s2 (.ref a::Z) I5.zp (by simpa using hl)) r2 q2) λr s' hq=>?_
  cases r with
  |error e=>exact Rz l σ H2 s2 e s' I5 hq
  |ok fl =>
    cases fl with
    |ret u=>exact I5.after hq
    |next=>exact iV hq
    |brk=>exact iV hq
    |cont=>exact iV hq
def Ii{O:hR}(lk:K.lookup f=some #[oc,od,.func<|k8 name qual g a scope i dV O F pm an d ct,aa])(R:jM K d qual=true)
 (S:Ry N ps scope i) (hc:∀x c,i.lookup x=↑c->∃o v,K.lookup c=↑o/\o.data=.cell v) (G:∀j H Q E,sp j H Q E->j.length=ps.length)
 (z:∀(A:jL)(outer:List Env)(s:h9)(H:Hp)(j:List V)(Q:VK)(E:XK),wZ k (A.deeper (jo qual scope ⇑s f d i))->sp j H Q E ->
 ∃t,RB 154 a a t/\t { nx:=λ_ p=>Q .xj p,rt:=Q} (start N j) H) :
    wn P w K mg base (wh P w) (k+1) f (k8 name qual g a scope i dV O F pm an d ct) ps sp:=by
  refine#[G,λA outer s H args us j Q E T B hb r L=>?_]
  have hl:=G _ _ _ _ L
  have KX:K.In s.heap:=B.mod.Cc.keeps λb o e=>(B.bs b o e).1
  have U:s.heap.NoLimit:=B.mod.nolimit.keeps λb o e=>(B.bs b o e).1
  have l:∀x c,i.lookup x=↑c->∃v,base.IsCell c v:=λx c h=>by
    refine e2a2 (hc x c h) λo v q1 q2=>?_
    exact#[v,o,B.mod.Cc _ _ q1,q2]
  refine ks_codeAny_call_defAt (fd:=k8 name qual g a scope i dV O F pm an d ct) (body:=a) (binds:=ps.zip us) T.depth (KX _ _ lk) rfl U (tK KX R) rfl hb S.Ct (λy hy=>S.par y.1 (pC hy).1) (λh1 X Y=>?_) S.co S.gen S.kind
  refine e1a2 (z A outer s H j Q E (T.deeper _) L) λt ht hq=>?_
  have I:Inv 154 [] (start N j) H { s with heap:=h1,toks:=s.toks+(ps.zip us).length}:=LO S l T.hd B hl r X Y
  refine rR (ht [] _ (start N j) H _ I hq) (λfl Z D=>?_) λe Z D=>D
  have M:∀{n:St} {p:Hp} {v:V} {u:hR},Inv 154 [] n p Z->RelV v u->Q v p->CE outer P w H s Q u Z :=
    λ{n p v u} J rv q=>#[v,p,J.os,J.bare,J.base,J.wy,rv,q]
  cases fl with
  |ret u =>
    obtain⟨v,n,p,J,rv,q⟩:=D
    exact M J rv q
  |next =>
    refine e2a2 D λn p J q=>?_
    exact M (v:=V.xj) (u:=Value.none) J rfl q
  |brk =>
    refine e2a2 D λ_ _ _ q=>?_
    exact iV q
  |cont =>
    refine e2a2 D λ_ _ _ q=>?_
    exact iV q
end
section
variable{P:iT}{w:ji}{K:hJ}{mg:Str->Option hR}{base:jd}{N:List Str}{qual:Str}{scope:mi}{f ya cc:hO}{A:jL}{outer:List Env}{s:h9}{H:Hp}{E:XK}
def O3{C:hO}(hg:Gl 18 x)(hm:mg x=↑(.ref C))(O:jE K C v i=true)
 (Y:kE B i n v) (g0:∀H',GX.g C none H') (ha:PA 18 (y::p) ta) (F:(x==66)=false:=by decide)
 (r:hV (y::p) (18).env=(false,eval y (18).env)::hV p (18).env:=by rfl)
 (G:(jz d<|hV p (18).env).any (·.1)=false:=by rfl) :
    PS 18 (.Raise (some<|.Call (.Name x np) (y::p) [] d) none pos) (LF C E ta):=by
  intro k s1 σ H1 D I h
  obtain⟨bm,N',nm,q,bs,l,sn,J,ab,L,dd,k0,k1,k2,k3,k5,mN,hC,hN,M,T⟩:=Nk I.mod.Cc O
  have Z:=ha d k s1 σ H1 _ I h
  refine vp (prog:=P) (w:=w) (C:=C) (nm:=nm) (q:=q) (N:=N') (bs:=bs) (bm:=bm) (hdct:=l) (sn:=sn) (sub:=J) (ab:=ab) (col:=L) (dd:=dd) (k0:=k0) (k1:=k1) (k2:=k2) (k3:=k3) (k5:=k5)
    Y (mN:=mN) (T.hasType Y.hasBase) (I.ok.hd rfl) (by rw[r];exact(sx _).trans G) M (ze I hg hm #[rfl,?_] F)
  rw[r]at Z ⊢
  refine jI<|jb Z (λus u q2=>?_) λ_ _ z=>z
  refine e2a4 q2 λvs H2 c r2 hl hE=>?_
  refine#[rfl,by show us.length<=hZ;rw[<- r2.length];exact hl,c.bk _ _ hC,hN.keeps c.bk,T.keeps c.bk,λh' e a=>?_]
  have m:(18).stack=(18).env::(18).outer:=rfl
  have fu:=c.Hw.zd
  refine e1a3 a.there λt R _ _=>?_
  have S:(kC u.heap<|zM (18).stack).get? e=none:=by
    cases q:(kC u.heap<|zM (18).stack).get? e with
    |none=>rfl
    |some o=>have z:=lH _ q;rw[a.new]at z;cases z
  refine jb (zR (base:=kC u.heap (zM (18).stack)) (a0:=.ref t) c.ok.frames
    ((oY fu λU r b j=>List.mem_filterMap.mpr #[U,r,j]).of_keeps λb o j _=>#[o,a.keeps b o j,rfl]) (xC c m) R (λb o z=>a.keeps b o (lH _ z)) S rfl rfl rfl (Q:=λ_ X=>wh P w outer H s E (.ref e) X) λaa fl up dk=>?_) (λ_ _ z=>z) λ_ _ z=>z
  refine#[C,e,H2,rfl,?_,hE e]
  refine HM (s2:=u) c m rfl rfl c.bare Un.refl c.wy (λb o z _ nf=>nN _ z nf) (λb j=>?_) ((nV a.keeps).trans up) fl #[_,dk,g0 _]
  exact#[(c.ZZ b j).1,(fu.mem j).2]
end
end L2
namespace WL
open PySem L2
open Rep (rp)
open Ow (sl)
open Sls (rel)
variable[L2.GX]
section
variable{P:iT}{w:ji}{K:hJ}{mg:Str->Option hR}{base:jd}{N:List Str}{qual:Str}{scope:mi}{f ya cc:hO}{A:jL}{outer:List Env}{s:h9}{H:Hp}{E:XK}{T:hO}{ms:List Nat}{n:Nat}{pos:Pos}
variable{D D' PO τ:Type}[Sls D][Sls D'][Sls PO][Ow τ]
def Y8{k:Nat}{C:hO}[J:Pj D PO n](h:Xc K mg x C)(j:Gl 18 x:=by rfl)(c:(x==66)=false:=by decide)
 (i:hV [.Constant (.str m) k mp] (18).env=(false,eval (.Constant (.str m) k mp) (18).env)::hV [] (18).env:=by rfl)
 (e:(jz a<|hV [] (18).env).any (·.1)=false:=by rfl) :
    S1 18 E T ms n (.Raise (some<|.Call (.Name x np) [.Constant (.str m) k mp] [] a) none pos) (λ(d:D)(_:D'->Prop)(_:τ->PO->Prop) l=>l C<|J.pj d):=by
  obtain⟨o,B,g,b,p,O,q⟩:=h.ex
  exact C3<|O3 j p O q h.g0 (vI Cd vU i) c i e
end
noncomputable def Sf(f:Int->List Int)(x:Int):List Int->Bool
 | []=>false
 |c::l=>xor (decide<|x∈f c)<|Sf f x l
def Nx{x:Int}{a:List Int}(p:a.Perm b):Sf f x a=Sf f x b:=by
 induction p with
 |nil=>rfl
 |cons c _ e=>show xor _ _=xor _ _;rw[e]
 |swap c d l=>show xor _ (xor _ _)=xor _ (xor _ _);rw[<- oy,<- oy,Bool.xor_comm<|decide<|x∈f d]
 |trans _ _ g h=>exact g.trans h
def Y9{x k:Int}(h:yV l):Sf f x (LM l k)=xor (decide<|x∈f k) (Sf f x l):=by
 by_cases q:k∈l
 ·have e:LM l k=LK k l:=hI q
  have p:l.Perm (k::LK k l):=by
   refine xg (v6 h) (List.nodup_cons.mpr #[λz=>(Bj.mp z).2 rfl,v6<|kj _ h]) λy=>?_;rw[iO,Bj];by_cases z:y=k
   ·rw[z];simp[q]
   ·simp[z]
  rw[e,Nx p];show _=xor _ (xor _ _);rw[<- oy,Bool.xor_self,r9]
 ·have e:LM l k=Gv k l:=cr q
  have p:(Gv k l).Perm (k::l):=by refine xg (v6<|EA h) (List.nodup_cons.mpr ⟨q,v6 h⟩) λy=>?_;rw[iO,C0]
  rw[e,Nx p];rfl
def RE{x:Int}:∀{b a:List Int},yV a->Sf f x (xr a b)=xor (Sf f x a) (Sf f x b)
 | [],a,_=>by show Sf f x a=xor _ false;rw[sd]
 |k::b,a,h=>by show Sf f x (xr (LM a k) b)=xor (Sf f x a) (xor (decide<|x∈f k)<|Sf f x b);rw[RE<|Nt h,Y9 h,<- oy,Bool.xor_comm<|Sf f x a]
def RF{x:Int}:∀{l:List Int} {a:List Int},(∀c∈l,(f c).Nodup)->decide (x∈(l.map f).foldl xr a)=xor (decide<|x∈a) (Sf f x l):=by
 intro d
 induction d with
 |nil=>intro a _;show decide (x∈a)=xor _ false;rw[sd]
 |cons c l b =>
  intro a h;show decide (x∈(l.map f).foldl xr (xr a<|f c))=xor _ (xor _ _);rw[b<|λy g=>h y<|ij _ g,<- oy];congr 1;have e:=Cu (l:=a) (x:=x)<|h c ic;by_cases p:x∈a<;>by_cases q:x∈f c<;>simp[p,q,e]
noncomputable def xl(f:Int->List Int)(l:List Int):List Int:=PY<|l.map f
def Af{x:Int}(h:∀c∈l,(f c).Nodup):decide (x∈xl f l)=Sf f x l:=by unfold xl PY;rw[RF h];rw[io q0o,r9]
def Ah(f:Int->List Int)(l:List Int):yV (xl f l):=Vh _
def J8(c:yV a)(d:yV b)(h:∀x,decide (x∈a)=decide (x∈b)):a=b:=H0 c d λk=>by have:=h k;by_cases p:k∈a<;>by_cases q:k∈b<;>simp[p,q]at this ⊢
def J9{x:Int}(h:∀c∈l,(f c).Nodup)(a:x∈xl f l):∃c∈l,x∈f c:=by
 have e:=Af (x:=x) h;rw[decide_eq_true a]at e;clear a
 induction l with
 |nil=>cases e
 |cons c l b =>
  by_cases q:x∈f c
  ·exact#[c,ic,q]
  ·have e:true=xor (decide<|x∈f c) (Sf f x l):=e;rw[io q,r9]at e;obtain⟨d,g,i⟩:=b (λy j=>h y<|ij _ j) e;exact#[d,ij _ g,i]
def Vu(h:yV a)(i:yV b)(d:∀c∈a,(f c).Nodup)(g:∀c∈b,(f c).Nodup):xl f (xr a b)=xr (xl f a) (xl f b) :=
 J8 (Ah _ _) (Bk<|Ah _ _) λx=>by rw[Af λc j=>(Rr (v6 i) j).elim (d c)<|g c,RE h,<- Af d,<- Af g];have e:=Cu (l:=xl f a) (x:=x)<|v6<|Ah f b;by_cases p:x∈xl f a<;>by_cases q:x∈xl f b<;>simp[p,q,e]
def Ny{x:Int}:∀{l a:List Int},yV a->(∀c∈l,yV (f c)/\Sf f x (f c)=false)->Sf f x ((l.map f).foldl xr a)=Sf f x a
 | [],_,_,_=>rfl
 |c::l,a,b,h=>by show Sf f x ((l.map f).foldl xr<|xr a<|f c)=_;rw[Ny (Bk b) λy d=>h y<|ij _ d,RE b,(h c ic).2,sd]
def O5(h:∀c∈l,yV (f c)/\(∀d∈f c,(f d).Nodup)/\xl f (f c)=[]):xl f (xl f l)=[] :=
 J8 (Ah _ _) iW λx=>by
  rw[Af,io q0o]
  ·exact Ny (x:=x) (l:=l) iW λc a=>#[(h c a).1,by rw[<- Af (h c a).2.1,(h c a).2.2];rfl]
  ·intro d b;obtain⟨c,a,b⟩:=J9 (λc a=>v6 (h c a).1) b;exact(h c a).2.1 d b
def xX(h:∀c∈l,f c=g c):xl f l=xl g l:=by unfold xl;rw[mF h]
structure Z2(K:hJ) where
def RG(K:hJ)(R:Rg)(H:Hp)(a:hO)(c:List Int):Prop :=
 (¬R a/\Rd H a (.lst<|c.map V.int))\/∃(o:qY)(b:Array hR)(n:Nat),K.lookup a=↑o/\o.cls=.type "list"/\o.dict=none/\o.data=.seq b n/\b.size<=hZ/\Vals (c.map V.int) b.toList
def RG.sq{K:hJ}(h:RG K R H a b):wR K H a (b.map V.int):=h.elim (λz=>.inl z.2) .inr
instance(K:hJ):Rep (Z2 K):=#[λR H _ v=>∃a ns,v=.ref a/\RG K R H a ns,λ{R H R' H' x v} h e=>by
 refine e2a2 h λa ns h1 h2=>?_;refine#[a,ns,h1,?_];rcases h2 with⟨n,r⟩|r
 ·rcases r with r|⟨o,r⟩
  ·exact .inl #[e.not n r,.inl<|e.keep a _ n r]
  ·exact .inl #[e.not n r,.inr #[o,e.keep a _ n r]]
 ·exact .inr r]
def Xp(K:hJ):Sp:=λd H Q _=>∃(a:hO)(e:List Int),d=[.ref a]/\wR K H a (e.map V.int)/\∀b g q c s,Ej H b->Ea b g q c 0 0 s->H g=none->H q=none->Q (.ref g) b
def RH(K:hJ):Wf (Z2 K×Unit) Bg (Un×Unit):=λ_ a _=>a #[] (#[],())
def Xq(K:hJ):Wf (Z2 K×Unit) Bool (Un×Unit):=λ_ a _=>a true (#[],())
def a1c(F:wn P w K y base QC k f A C (Xp K)):wn P w K y base (wh P w) k f A C (zh T<|RH K) :=
 (Xk F).imp λD H Q E G=>e5a4 G λF R p Kn Ke s I J _=>by
  obtain⟨v,L,F1,F2,d,h2,⟨n1,u,e,a,M,N,O⟩,S⟩:=s.rel;subst e N
  match D,d with
  | [],d=>cases d
  |x::r,d =>
   injection d with U W;cases U
   have X:r=[]:=by have:=S.1;rw[<- W]at this;exact List.map_eq_nil_iff.mp this
   subst X;refine#[a,M,rfl,O.sq,λn g q j Y i B l m=>?_];have Z:Ext (λ_=>False) R H (λc=>R c\/c=g\/c=q) n:=#[λb o _ h=>i b o h,λc h=>h.elim .inl λz=>.inr<|z.elim (λz=>by rw[z];exact l) λz=>by rw[z];exact m];refine J #[] (#[],()) (.ref g) (λc=>c=g\/c=q) (λ_=>False) (λc=>R c\/c=g\/c=q) n I #[λb o _ _ h=>i b o h,Z.new,λc h=>h.elim (λz=>.inr<|z.elim (λz=>by rw[z];exact l) λz=>by rw[z];exact m) λz=>z.elim,λc h _=>.inl h] #[#[some<|.ref a,[],λ_=>False,λ_=>False,rfl,#[λ_=>#[λz=>z.elim,λz=>z.elim id id],λ_ z _=>z],λ_ z=>z,rfl,λ_ z=>z],λ_ z=>z.elim,λc h=>?_,?_,.inl s.wx,λz=>z] #[#[g,q,j,0,0,Y,rfl,λ_=>Iff.rfl,B],λc h=>.inr h,λ_ _ z=>z,λz=>?_]
   ·rcases h with h|h|h
    ·cases e:H c with
     |none=>exact iv e<|s.xP c h
     |some o=>rw[i c o e];simp
    ·rw[h,B.ob];simp
    ·rw[h,B.sc];simp
   ·refine e1a2 s.tab λqs e t=>?_;exact#[qs,i _ _ e,t]
   ·have:=Ac s.tab;rcases z with z|z
    ·rw[z]at this;exact this l
    ·rw[z]at this;exact this m
def Nz(K:hJ)(b:hO):Sp:=λc H Q _=>∃(a:hO)(d:List Int),c=[.ref a]/\wR K H a (d.map V.int)/\TabAt H b/\∀e,Q (.bl true) e
def a1d(F:wn P w K g base (wh P w) k f i j (zh T<|Xq K)):wn P w K g base (wh P w) k f i j (Nz K T) :=
 F.imp λB H Q E l=>e2a4 l λa m e p b s=>by
  subst e;refine#[λ_=>False,λc=>c=T,(#[],()),λx _=>x=true,λ_ _=>False,#[#[some<|.ref a,[],λ_=>False,λ_=>False,rfl,#[λ_=>#[λz=>z.elim,λz=>z.elim id id],λ_ z _=>z],#[λ_ z=>z,_,rfl,a,m,rfl,?_],rfl,λ_ z=>z],λ_ z=>z.elim,λc h=>by rw[h];exact Ac b,b,rfl,λz=>z],rfl,λx t v D G A d q c I n=>?_,λC y t J A d q=>q.elim]
  ·rcases p with r|r
   ·refine .inl #[λz=>?_,r];refine e1a2 b λL e _=>?_;rcases r with r|⟨o,r⟩
    ·rw[z,e]at r;cases r
    ·rw[z,e]at r;cases r
   ·exact .inr r
  ·obtain⟨_,u,e,r⟩:=n.is;cases e;rw[r,q];exact s d
def a1e(F:wn P w K d base (wh P w) k f g i c)(h:∀b H Q E,c b H Q E->c b H Q XF):wn P w K d base QC k f g i c :=
 #[F.len,λA a s H args j b Q E l m n o p=>ko (F.run A a s H args j b Q XF l m n o (h _ _ _ _ p)) λr t z=>by
  cases r with
  |error e =>
   obtain⟨_,_,_,_,_,z⟩:=z;exact z.elim
  |ok q =>
   cases q with
   |ret u=>exact z
   |next=>exact iV z
   |brk=>exact iV z
   |cont=>exact iV z]
structure Fk(P:iT)(w:ji)(K:hJ)(mg:Str->Option hR)(base:jd)(T:hO)(x:Str)(ps:List Str){A PO τ:Type}[Sls A][Sls PO][Ow τ](wf:Wf A τ PO)(k:Nat) where
 f:hO
 fd:iY
 ok:wn P w K mg base (wh P w) k f fd ps (zh T wf)
 at_:mg x=↑(.ref f)
 kp:jA K (.ref f)=true
 bd:Binds K fd ps []
structure Fm(P:iT)(w:ji)(K:hJ)(mg:Str->Option hR)(base:jd)(T C:hO)(m:Str)(ps:List Str){A PO τ:Type}[Sls A][Sls PO][Ow τ](wf:Wf A τ PO)(k:Nat) where
 f:hO
 fd:iY
 ok:wn P w K mg base (wh P w) k f fd ps (zh T wf)
 me:Meth K C m f
 bd:Binds K fd ps []
section
variable{P:iT}{w:ji}{K:hJ}{mg:Str->Option hR}{base:jd}{T C f:hO}{fd:iY}{x:Str}{ps:List Str}{A PO τ:Type}[Sls A][Sls PO][Ow τ]{wf:Wf A τ PO}{j k:Nat}
noncomputable def Fk.up(h:Fk P w K mg base T x ps wf j)(l:j<=k:=by decide):Fk P w K mg base T x ps wf k:=#[h.f,h.fd,h.ok.mono l,h.at_,h.kp,h.bd]
noncomputable def Fm.up(h:Fm P w K mg base T C x ps wf j)(l:j<=k:=by decide):Fm P w K mg base T C x ps wf k:=#[h.f,h.fd,h.ok.mono l,h.me,h.bd]
end
section
variable{D:Type}[Sls D]
def vT{P a B d f:Type}[Sls P][Sls a][Sls B][Sls d][Ow f][Lb d f a]{b:B->d->a->D}{j:Wf P f a}{l:D->(P->B->d->Prop)->72->Prop}{k:Nat}{m:List Str}{c:List i8}
 (h:Fk X.prog X.w X.K X.mg X.base T x m j k) (n:LH X E T (e::c) b l) (o:wZ k X.A:=by assumption) (q:Gl X x:=by exact rfl) (r:Passes 114 X E:=by exact Bb) (g:(x==66)=false:=by decide) (s:hV (e::c) X.env=71::hV c X.env:=by rfl) (i:(jz pos<|hV c X.env).any (·.1)=false:=by rfl) :
    EO X E T (.Call (.Name x p) (e::c) [] pos) (cC l j b):=CV h.ok o q h.at_ h.kp h.bd r n g s i
variable{τ:Type}[Ow τ]
def wL{g:List i8}(i:Nat){v P n B r q:Type}[Sls v][Sls P][Sls n][Sls B][Sls r][Sls q][Lb q τ<|Bd C j×n]{o:B->q->n->D}{y:D->(P->B->q->Prop)->72->Prop}
 {z:Wf (Bd C j×P) τ (Bd C j×n)} [S:At i D (Bd C j) v] [A:At i B (Bd C j) r] [U:Pt i r (Bd C j) B] {k:Nat} {J:List Str} {L:Sem Bool}
 (h:Fm X.prog X.w X.K X.mg X.base T C m J z k) (M:LH X E T (e::g) o y) (F:wZ k X.A:=by assumption) (G:BH X.K C:=by exact Bl.cl<|by assumption) (hx:Passes 114 X E:=by exact Bb) (H:PE X (.Name x s) (v9 i):=by exact pv _) (N:∀a b c d u,(zv a b c d u j).lookup m=none:=by intros;rfl)
 (O:hV (e::g) X.env=71::hV g X.env:=by rfl) (Q:(jz pos<|hV g X.env).any (·.1)=false:=by rfl)
 (R:eval (.Call (.Attribute (.Name x s) m apos) (e::g) [] pos) X.env=(do
 let I <- eval (.Name x s) X.env
 nE apos.atName
 let (f,first) <- lw [I] (nc I m L)
 oa pos f first (jz pos (hV (e::g) X.env)) (nI pos (lx [] X.env))):=by rfl) :
    EO X E T (.Call (.Attribute (.Name x s) m apos) (e::g) [] pos) (cM y z A.get λb l p=>o (U.put (A.hole b) p.1) l p.2) :=
  Rt i h.ok F G h.me h.bd hx H N (λt=>Uv H G h.me h.ok F h.bd .nil hx t O Q R) M
def Ka(i:Nat){g:Type}[Sls g]{n:Wf (Bd C e×Unit) τ (Bd C e×Unit)}[A:At i D (Bd C e) g][U:Pt i g (Bd C e) D]{k:Nat}{t:List Str}{v:Sem Bool}
 (h:Fm X.prog X.w X.K X.mg X.base T C m t n k) (o:wZ k X.A:=by assumption) (p:BH X.K C:=by exact Bl.cl<|by assumption) (q:Passes 114 X E:=by exact Bb) (r:PE X (.Name x j) (v9 i):=by exact pv _) (z:∀a b c d u,(zv a b c d u e).lookup m=none:=by intros;rfl)
 (B:eval (.Call (.Attribute (.Name x j) m apos) [] [] pos) X.env=(do
 let s <- eval (.Name x j) X.env
 nE apos.atName
 let (f,first) <- lw [s] (nc s m v)
 oa pos f first (jz pos (hV [] X.env)) (nI pos (lx [] X.env))):=by rfl) :
    EO X E T (.Call (.Attribute (.Name x j) m apos) [] [] pos) (λ(d:D)(F:τ->D->Prop) G=>n (A.get d,()) (λy l=>F y<|U.put (A.hole d) l.1)<|λC l=>G C<|U.put (A.hole d) l.1) :=
  Ru i h.ok o p h.me h.bd q r z (Qj r p h.me h.ok o h.bd .nil q B)
end
end WL
namespace WL
open PySem L2
open Rep (rp)
open Ow (sl)
open Sls (rel)
section
structure Dq(K:hJ)(x:Str)(st:iK):Prop where
 ex:∃f fd,iC K iA x=↑(some<|.ref f)/\zA K x x st f fd
structure Mq(K:hJ)(C:hO)(m q:Str)(st:iK):Prop where
 ex:∃f fd,Meth K C m f/\zA K m q st f fd
def a1f{b:iK}{e:hR}(a:iC K iA x=↑(some<|.ref f))(l:K.lookup f=some #[i,j,.func<|jS x x (wH b) (wm b) (vA b) .none e g pm m d n,h])
 (c:jM K d x=true)(k:jA K (.ref f)=true):Dq K x b:=#[_,_,a,E9 l c k]
def a1g{b:iK}{e:hR}(a:iL K (.ref C) x=↑(some<|.ref f))(i:oW K (.ref f)=true)(l:K.lookup f=some #[j,m,.func<|jS x q (wH b) (wm b) (vA b) .none e g pm n d o,h])
 (c:jM K d q=true)(k:jA K (.ref f)=true):Mq K C x q b:=#[_,_,#[a,i,k],E9 l c k]
noncomputable def Dq.f{x:Str}{a:iK}(q:Dq K x a):hO:=q.ex.choose
noncomputable def Dq.d{x:Str}{a:iK}(q:Dq K x a):iY:=q.ex.choose_spec.choose
noncomputable def Mq.f{x q:Str}{a:iK}(m:Mq K C x q a):hO:=m.ex.choose
noncomputable def Mq.d{x q:Str}{a:iK}(m:Mq K C x q a):iY:=m.ex.choose_spec.choose
def Dq.fn{a:iK}(q:Dq K x a)(X:K.In h)(G:h.Ns iA j)(c:List Str)
 (b:∀(k e l:hR)(m:Option hO)(g n:hR)(i:List hR),i.length=c.length->tH (jS x x (wH a) (wm a) (vA a) .none k e l m g n) #[i,[]]=pure (c.zip i)):Fn K j x a c q.f q.d :=
  have h:=q.ex.choose_spec.choose_spec;#[h.2,iP X G h.1,h.2.binds b]
def Mq.fn{a:iK}(m:Mq K C x q a)(c:List Str)
 (b:∀(j e k:hR)(l:Option hO)(g n:hR)(i:List hR),i.length=c.length->tH (jS x q (wH a) (wm a) (vA a) .none j e k l g n) #[i,[]]=pure (c.zip i)):Mf K C x q a c m.f m.d :=
  have h:=m.ex.choose_spec.choose_spec;#[h.2,h.1,h.2.binds b]
variable[L2.GX]
noncomputable def Fn.fk{x:Str}{h:iK}{a:List Str}{f:hO}{b:iY}{A c d:Type}[Sls A][Sls c][Ow d]{e:Wf A d c}{k:Nat}(N:Fn K g x h a f b)(o:wn P w K g base (wh P w) k f b a (zh T e)):Fk P w K g base T x a e k:=#[f,b,o,N.at_,N.fn.kp,N.bd]
noncomputable def Mf.fm{x q:Str}{g:iK}{a:List Str}{f:hO}{b:iY}{A c d:Type}[Sls A][Sls c][Ow d]{e:Wf A d c}{k:Nat}(N:Mf K C x q g a f b)(o:wn P w K h base (wh P w) k f b a (zh T e)):Fm P w K h base T C x a e k:=#[f,b,o,N.me,N.bd]
end
variable[L2.GX]
def EF{X:Cx}{E:XK}{T:hO}{f:List Nat}{n:Nat}{D g PO j:Type}[Sls D][Sls g][Sls PO][Ow j]{a:List iK}{w w':D->(g->Prop)->(j->PO->Prop)->87->Prop}(h:SW X E T f n a w)(i:∀d b c e,w' d b c e->w d b c e):SW X E T f n a w' :=
 let ⟨t,k,l⟩:=h
 #[t,k,λd F R m H b c e o s p=>l d F R m H b c e o s<|i d b c e p]
end WL
namespace WL
open PySem L2
open Rep (rp)
open Ow (sl)
open Sls (rel)
structure Cq where
 P:iT
 w:ji
 K:hJ
 mg:Str->Option hR
 base:jd
 T:hO
structure Bz(K:hJ):Prop where
 all:iC K iA "all"=↑none
 zip:iC K iA "zip"=↑none
 set:iC K iA "set"=↑none
 sorted:iC K iA "sorted"=↑none
 len:iC K iA "len"=↑none
 list:iC K iA "list"=↑none
 isinstance:iC K iA "isinstance"=↑none
 int:iC K iA "int"=↑none
 bool:iC K iA "bool"=↑none
 range:iC K iA "range"=↑none
 enumerate:iC K iA "enumerate"=↑none
 tuple:iC K iA "tuple"=↑none
 min:iC K iA "min"=↑none
 max:iC K iA "max"=↑none
 str:iC K iA "str"=↑none
structure Bn(mg:Str->Option hR):Prop where
 all:mg "all"=none
 zip:mg "zip"=none
 set:mg "set"=none
 sorted:mg "sorted"=none
 len:mg "len"=none
 list:mg "list"=none
 isinstance:mg "isinstance"=none
 int:mg "int"=none
 bool:mg "bool"=none
 range:mg "range"=none
 enumerate:mg "enumerate"=none
 tuple:mg "tuple"=none
 min:mg "min"=none
 max:mg "max"=none
 str:mg "str"=none
def Bz.bn{K:hJ}(X:K.In h)(G:h.Ns iA a)(z:Bz K):Bn a :=
 let f:=λ{x:Str} (e:iC K iA x=some none)=>tZ X G e
 #[f z.all,f z.zip,f z.set,f z.sorted,f z.len,f z.list,f z.isinstance,f z.int,f z.bool,f z.range,f z.enumerate,f z.tuple,f z.min,f z.max,f z.str]
variable[L2.GX]
abbrev xM(q:Cq)(x:Str)(c:List Str){A a b:Type}[Sls A][Sls a][Ow b](d:Wf A b a)(k:Nat):=Fk q.P q.w q.K q.mg q.base q.T x c d k
abbrev zW(q:Cq)(C:hO)(x:Str)(c:List Str){A a b:Type}[Sls A][Sls a][Ow b](d:Wf A b a)(k:Nat):=Fm q.P q.w q.K q.mg q.base q.T C x c d k
abbrev Gq(q:Cq)(k:Nat)(f:hO)(c:iY)(d:List Str){A a b:Type}[Sls A][Sls a][Ow b](e:Wf A b a):Prop:=wn q.P q.w q.K q.mg q.base (wh q.P q.w) k f c d<|zh q.T e
abbrev DF(q:Cq)(x:Str)(a:iK)(f:hO)(b:iY):Prop:=zA q.K x x a f b
@[reducible] def wSq{D c e a b:Type}(h:D->(e->Prop)->(b->a->Prop)->(hO->a->Prop)->Prop)(i:e->(c->Prop)->(b->a->Prop)->(hO->a->Prop)->Prop):D->(c->Prop)->(b->a->Prop)->(hO->a->Prop)->Prop:=λd j f g=>h d (λk=>i k j f g) f g
def vN{c:List Nat}{n:Nat}{D h d b e:Type}[Sls D][Sls h][Sls d][Sls b][Ow e]{i:iK}{a:List iK}{f:D->(d->Prop)->(e->b->Prop)->(hO->b->Prop)->Prop}{g:d->(h->Prop)->(e->b->Prop)->(hO->b->Prop)->Prop}(j:S1 X E T c n i f)(k:SW X E T c n a g)(l:QY b c n:=by exact wu q0q) :
  SW X E T c n (i::a) (wSq f g):=Ey (w1:=f) (w2:=g) l j k
variable[L2.GX]
structure yi(N P:List Str)(sc:mi):Prop where
 kind:sc.kind=.function
 co:sc.isCoroutine=false
 gen:sc.isGenerator=false
 nd:N.Nodup
 pre:N.take P.length=P
 par:∀x∈P,sc.names.lookup x=some .local
 Ct:∀y∈sc.names,y.2≠.cell
 fr:∀y∈sc.names,y.2=.free->y.1="__class__"
 ks:sc.names.lookup ("super":Str)=some .globalImplicit
 kc:sc.names.lookup 107=some .free
def yi.x{N P:List Str}{sc:mi}(S:yi N P sc)(cc:hO):Ry N P sc [85] :=
 #[S.kind,S.co,S.gen,S.nd,S.pre,S.par,S.Ct,λx h=>#[cc,by have e:x="__class__":=S.fr _ (kJ h) rfl;rw[e];rfl],λx y c h1 h2=>by
  have q:∀{z:Str},([(107,cc)]:List (Str×hO)).lookup z=↑c->z="__class__":=λ{z} h=>by
   by_cases e:(z==107)=true
   ·exact eq_of_beq e
   ·rw[i4,Bool.eq_false_iff.mpr e]at h;cases h
  rw[q h1,q h2]]
structure C8(P:iT)(K:hJ)(C:hO)(x qual:Str)(st:iK)(f:hO)(fd:iY):Prop where
 ex:∃(oc:hR)(od:Option hO)(kV doc pm:hR)(an:Option hO)(ya cc:hO)(ct:hR) (OB:Array (Option hR)),
  fd=k8 x qual (wH st) (wm st) (vA st) [85] .none kV doc pm an (.ref ya) ct/\K.lookup f=some #[oc,od,.func fd,OB]/\jM K (.ref ya) qual=true/\LP P K C f ya cc "self"
 kp:jA K (.ref f)=true
structure Sm(K:hJ)(C:hO)(m:Str)(f2:hO):Prop where
 find:kq K C C m=↑(some<|.ref f2)
 ty:pA K (.ref f2)=↑(.type "function")
 fn:mS K f2=true
structure Fs(P:iT)(w:ji)(K:hJ)(mg:Str->Option hR)(base:jd)(C:hO)(m:Str)(ps:List Str)(sp:Sp)(k:Nat):Prop where
 ex:∃f2 fd2,Sm K C m f2/\wn P w K mg base (wh P w) k f2 fd2 ps sp/\Binds K fd2 ps []/\mg "super"=none
def Vv{B b i:Type}[Sls B][Sls b][Ow i]{k:Bool}{l:Wf (Bd C k×B) i b}{c:List V}(h:zh T l c H Q E):∃a d m r,c=.ref a::r/\H a=↑(.ins C d m):=by
 obtain⟨F,R,p,o,q,s,_⟩:=h;obtain⟨v,n,t,u,e,_,⟨a,d,w,x,y,z,A,j,_,g⟩,_⟩:=s.rel;subst j
 cases c with
 |nil=>cases e
 |cons v r=>injection e with f j;injection f with f;subst f;exact#[a,d,_,r,rfl,g.ob]
def yL{o:iK}{d:List Str}{k:Nat}{B t X:Type}[Sls B][Sls t][Ow X]{fl:Bool}{u:Wf (Bd C fl×B) X t}{p:List i8} 
 (F:C8 P K C x l o f fd) (S:yi d d (vA o)) (v:wm o=[.Return (some<|.Call (.Attribute 86 m apos) p [] pos) p2]) (Y:d[0]?=↑("self":Str)) (z:O0 p0 p1 apos pos m p) (G:Fs P w K Z base C m d (zh T u) k)
 (ha:∀(g n:hO)(A:jL)(b:List Env)(s:h9)(H:Hp)(E:XK),PA (BQ (wh P w) P w K Z base d l (vA o) f (.ref g) [("__class__",n)] A b s H E) p ta)
 (I:∀(a:hO)(r:List V)(H:Hp)(Q:List V->Hp->Prop),r.length+1=d.length->Q r H->ta ((V.ref a::r).map some) H Q) (J:∀(q:hO)(L:Env),mS K q=true->RD K q pos p L) (N:(m==107)=false:=by decide) :
    wn P w K Z base (wh P w) (k+1) f fd d (zh T u):=by
  obtain⟨oc,od,kV,aa,pm,an,g,n,ct,ab,rfl,lk,O,D⟩:=F.ex
  refine e2a4 G.ex λq ae M G hb R=>?_
  obtain⟨o1,o2,o3,i⟩:=D.cell
  refine Ii lk O (S.x n) (λy c h=>?_) G.len λA b s H vs Q E hr j=>?_
  · have e : c = n := by
      by_cases e:(y==107)=true
      · rw[i4, e]at h; cases h; rfl
      · rw[i4, Bool.eq_false_iff.mpr e]at h; cases h
    subst e
    exact#[_,_,i,rfl]
  · have hl := G.len _ _ _ _ j
    obtain⟨a,dx,fs,r,rfl,ea⟩:=Vv j
    have U:start d (V.ref a::r)=(V.ref a::r).map some:=by unfold L2.start;rw[hl,qZ];simp
    refine#[K3 (Up<|a1a C (zh T u) E ta) WR,?_,?_]
    · rw[v]
      exact zn (Vt<|Ih D Y S.ks S.kc (S.par _<|j7 Y) R M.find M.ty M.fn G hb hr (ha g n A b s H E) (J q _ M.fn) z N)<|EE An
    · rw[U]
      exact#[a,dx,fs,rfl,ea,I a r H _ hl j]
class Fu(D:Type)[Sls D]:Prop where
 fu:∀{F R:Rg} {H:Hp} {d:D} {σ:St},rel F R H d σ->∃vs:List V,σ=vs.map some
instance:Fu Unit:=#[λh=>#[[],h.1]]
instance{τ D:Type}[Ow τ][Sls D][Hs τ][Fu D]:Fu (τ×D):=#[λh=>by
 obtain⟨v,σ',F1,F2,rfl,_,h3,h4⟩:=h;obtain⟨u,rfl⟩:=Hs.has h3;obtain⟨vs,rfl⟩:=Fu.fu h4
 exact#[u::vs,rfl]]
def SWA(X:Cx)(e:List iK)(E:XK)(T:hO)(f:List Nat)(n:Nat)(a:List iK){D c b d:Type}[Sls D][Sls c][Sls b][Ow d](w:D->(c->Prop)->(d->b->Prop)->(hO->b->Prop)->Prop):Prop:=∃t,RB X e a t/\Xd E T f n t w
def Xr{g:List iK}{c:List Nat}{n:Nat}{D h e b f:Type}[Sls D][Sls h][Sls e][Sls b][Ow f]{i:iK}{a:List iK}{j:D->(e->Prop)->(f->b->Prop)->(hO->b->Prop)->Prop}{k:e->(h->Prop)->(f->b->Prop)->(hO->b->Prop)->Prop}(o:S1 X E T c n i j)(p:SWA X g E T c n a k)(q:QY b c n:=by exact wu q0q) :
  SWA X g E T c n (i::a) (λd r l m=>j d (λs=>k s r l m) l m) :=
 e1a2 o λx t u=> e1a2 p λy v w=> #[_,zn (RC t) v,Xe q u w]
def Vw{o:iK}{A:jL}{b:List Env}{s:h9}{fb:List iK}{ms:List Nat}{n k:Nat}{l:List Str}{B t:Type}[Sls B][Sls t]{fl:Bool}{wf:Wf (Bd C fl×B) Unit t}{u:List i8}{p2:Pos}[Fu B][L:Ln B n]
 (D:LP P K C f j z "self") (S:yi l l (vA o)) (h0:l[0]?=↑("self":Str)) (J:O0 p0 p1 apos pos m u) (G:Fs P w K mg base C m l (zh T wf) k) (hr:wZ k (A.deeper<|jo i (vA o) ⇑s f (.ref j) [("__class__",z)]))
 (ha:PA (BQ (wh P w) P w K mg base l i (vA o) f (.ref j) [("__class__",z)] A b s H E) u ta)
 (N:∀(a:hO)(r:List V)(H:Hp)(Q:List V->Hp->Prop),r.length=n->Q r H->ta ((V.ref a::r).map some) H Q) (O:∀(I:hO)(U:Env),mS K I=true->RD K I pos u U) (X:(m==107)=false:=by decide) (Y:kg (.Call (.Attribute 86 m apos) u [] pos) none p2.line (jo i (vA o) ⇑s f (.ref j) [("__class__",z)])=pure false:=by rfl) :
    SWA (BQ (wh P w) P w K mg base l i (vA o) f (.ref j) [("__class__",z)] A b s H E) fb E T ms (n+1) [.Expr (.Call (.Attribute 86 m apos) u [] pos) p2] (λ(d:Bd C fl×B)(Z:t->Prop)(_:Unit->t->Prop) Ke=>wf d (λ_ p=>Z p) Ke):=by
  refine e2a4 G.ex λI ab M G hb aa=>?_
  refine#[_,zn (FF (Ih D h0 S.ks S.kc (S.par _<|j7 h0) aa M.find M.ty M.fn G hb hr ha (O I _ M.fn) J X) Y)<|EE An,λd F R σ H1 Z Kr Ke En s1 hw kn kr ke=>?_]
  refine e4a4 (id s1.rel) λv ae F1 F2 e t2 h3 h4=>?_
  obtain⟨a,dx,d1,d2,d3,d4,us,rfl,_,g⟩:=id h3
  obtain⟨r,rfl⟩:=Fu.fu h4
  have hl:=L.ln h4
  rw[h8]at hl
  subst e
  refine#[a,dx,_,rfl,g.ob,N a r H1 _ hl #[F,R,d,λ_ p=>Z p,Ke,s1,hw,λx p' v M1 M2 R' H' q c s' n'=>?_,λC y p' F' R' H' q c s'=>?_]]
  · exact kn p' M2 R' H' _ q (c.less λa h => .inr h) s'<|Ag.refl _ _
  · exact ke C y p' F' R' H' q c (by rw[jK<|by simp[hl]]; exact s')
def a1h{J:iK}{M:List Str}{k n:Nat}{ms:List Nat}{A PO:Type}[Sls A][Sls PO][L:Ln A n](dp:QY PO ms n){w0:A->(PO->Prop)->(Unit->PO->Prop)->87->Prop}
 (F:C8 P K C x j J f fd) (S:yi M M (vA J)) (hn:M.length=n)
 (r:∀(i u:hO)(A:jL)(b:List Env)(s:h9)(H:Hp)(E:XK),LP P K C f i u "self"->wZ k (A.deeper<|jo j (vA J) ⇑s f (.ref i) [("__class__",u)])->SWA (BQ (wh P w) P w K mg base M j (vA J) f (.ref i) [("__class__",u)] A b s H E) (wm J) E T ms n (wm J) w0) :
    wn P w K mg base (wh P w) (k+1) f fd M (zh T λ(p:A)(X:Unit->PO->Prop) N=>w0 p (λY=>X () Y) X N):=by
  have l:∀{o:List V} {H:Hp} {Q:VK} {E:XK},zh T (λ(p:A)(X:Unit->PO->Prop) N=>w0 p (λY=>X () Y) X N) o H Q E->o.length=n:=λh=>by
    obtain⟨F,R,p,Kn,N,s,_⟩:=h
    have:=L.ln s.rel
    rwa [h8]at this
  obtain⟨oc,od,kV,ae,pm,an,i,u,ct,af,rfl,lk,aa,D⟩:=F.ex
  obtain⟨o1,o2,o3,B⟩:=D.cell
  refine Ii lk aa (S.x u) (λy c h=>?_) (λo H Q E h=>(l h).trans hn.symm) λAr b s H o Q E hr Z=>?_
  · have e : c = u := by
      by_cases e:(y==107)=true
      · rw[i4, e]at h; cases h; rfl
      · rw[i4, Bool.eq_false_iff.mpr e]at h; cases h
    subst e
    exact#[_,_,B,rfl]
  refine e1a2 (r i u Ar b s H E D hr) λt h1 h2=>?_
  refine#[t,h1,?_]
  have hl:=l Z
  obtain⟨F,R,p,Kn,N,s0,hw,kn,ke⟩:=Z
  have ab:start M o=o.map some:=by unfold L2.start;rw[hl,hn,qZ];simp
  rw[ab]
  have G:(o.map some).take n=o.map some:=jK (by rw[h8,hl];exact hW _)
  refine h2 p F R _ H _ Kn N _ s0 hw (λY F' O U I q c d g=>?_) (λx p' v F1 F2 O U q c d m=>?_) λC y p' F' O U q c d=>?_
  · have e' : I.take n = I := jK (by rw[g.1, h8, hl]; exact hW _)
    have g3:=dp.dp g (show rel F' O U Y (I.take n) by rw[e'];exact d.rel)
    rw[G]at g3
    exact kn () _ .xj (λ_=>False) F' O U q (c.less λa h=>h.elim (λz=>z.elim) id) #[g3,d.sub,d.xP,d.tab,d.wx,d.wd] #[#[λ_ z=>z,.xj,rfl,rfl],λ_ z=>z.elim,λ_ z=>z.elim,λz=>z]
  · rw[G]at d
    exact kn x p' v F1 F2 O U q c d m
  · rw[G]at d
    exact ke C y p' F' O U q c d
def EG(C:hO):Sp:=λi H Q E=>∃p h,i=[.ref p]/\H p=↑(.ins C h []) /\
 ∀c d e f g,(∀a,a=c\/a=d\/a=e\/a=f->H a=none)->[c,d,e,f].Nodup->g p=↑(.ins C h<|zv c d e f 0 true)->(∀a,a=c\/a=d\/a=e\/a=f->g a=↑(.dK []))->(∀b o,b≠p->H b=↑o->g b=↑o)->Q .xj g
def RI{C:hO}{J:iK}{k:Nat}{p3 p4:Pos}{i:List iK}(F:C8 P K C "__init__" q J f fd)(S:yi ["self"] ["self"] (vA J))(ct:Bl K C)(cf:PZ K C)(T:O0 p0 p1 apos pos "__init__" [])
 (U:wm J=.Expr (.Call (.Attribute 86 "__init__" apos) [] [] pos) p2::i) (G:Fs P w K mg base C "__init__" ["self"] (Ig C) k)
 (W:∀X,kg (.Call (.Attribute 86 "__init__" apos) [] [] pos) none p2.line X=pure false)
 (Y:∀(j r:hO)(A:jL)(d:List Env)(s:h9)(H:Hp)(E:XK),ES (BQ (wh P w) P w K mg base ["self"] q (vA J) f (.ref j) [("__class__",r)] A d s H E) i<|K3 (Op K (v9 0) E7 "head_by_tail")<|Op K (v9 0) E7 "tail_by_head") :
    wn P w K mg base (wh P w) (k+1) f fd ["self"] (EG C):=by
  obtain⟨oc,od,kV,af,pm,an,j,r,ag,ah,rfl,lk,Z,D⟩:=F.ex
  refine e2a4 G.ex λf2 ai M G hB aa=>?_
  obtain⟨o1,o2,o3,l⟩:=D.cell
  refine Ii lk Z (S.x r) (λy c h=>?_) (λvs H Q E z9=>e2a2 z9 λp t e _=>by rw[e];rfl) λAr d s H vs Q E hr ab=>?_
  · have e : c = r := by
      by_cases e:(y==107)=true
      · rw[i4, e]at h; cases h; rfl
      · rw[i4, Bool.eq_false_iff.mpr e]at h; cases h
    subst e
    exact#[_,_,l,rfl]
  refine#[_,by rw[U];exact zn (FF (Ih D rfl S.ks S.kc (S.par _ ic) aa M.find M.ty M.fn G hB hr vU (cw_nil M.fn) T)<|W _)<|EE<|Y j r Ar d s H E,?_]
  obtain⟨p,t,rfl,m,k⟩:=ab
  refine#[p,t,[],rfl,m,p,t,rfl,m,λL N H1 h1 h2 ae g1 g2 g3 g4=>?_]
  intro u v
  have O:p≠u:=vM g1 v
  have q2:L≠u:=vM g2 v
  have q3:N≠u:=vM g3 v
  refine#[_,rfl,p,C,t,_,rfl,(by rw[vB O];exact g1),ct.cl,cf.nH,(by show 3<1000;decide),?_]
  intro B g
  have R:p≠B:=λz=>by rw[<- z,vF]at g;cases g
  rw[vB R.symm]at g
  have r2:B≠u:=λz=>by rw[z,vF]at g;cases g
  rw[vB r2]at g
  have r3:L≠B:=vM g2 g
  have r4:N≠B:=vM g3 g
  refine#[_,rfl,p,C,t,_,rfl,(by rw[vB R,vF]),ct.cl,cf.nT,(by show 4<1000;decide),?_]
  have I:∀{b:hO} {o:HO},H b=↑o->b≠p->H1 b=↑o:=λh n=>g4 _ _ n h
  have z:∀{a:hO},a≠p->H1 a=none->H a=none:=λ{a} n h=>by
    cases e:H a with
    |none=>rfl
    |some o=>rw[I e n]at h;cases h
  refine k L N u B _ (λa ha=>?_) ?_ ?_ (λa ha=>?_) λb o nb Y=>?_
  · rcases ha with e|e|e|e <;> rw[e]
    · exact h1
    · exact h2
    · exact z O.symm v
    · exact z R.symm g
  · simp only[List.nodup_cons, iO, jB, mH, qE, oo, and_true, not_false_eq_true]
    exact#[#[ae,q2,r3],#[q3,r4],r2.symm]
  · rw[vF]; rfl
  · have pd : p ≠ L := λe => by rw[e, h1]at m; cases m
    have pe:p≠N:=λe=>by rw[e,h2]at m;cases m
    rcases ha with e|e|e|e<;>rw[e]
    · rw[vB pd.symm, vB r3, vB pd.symm, vB q2]; exact g2
    · rw[vB pe.symm, vB r4, vB pe.symm, vB q3]; exact g3
    · rw[vB O.symm, vB r2.symm, vB O.symm, vF]
    · rw[vB R.symm, vF]
  · have e := I Y nb
    rw[vB nb,vB<|vM e g,vB nb,vB<|vM e v]
    exact e
section
variable{D:Type}[Sls D]
def RJ{k:Nat}(M:Mk X.K C f)(F:wn X.prog X.w X.K X.mg X.base 114 k f fd ["self"] (EG C))(hr:wZ (k+1) X.A)(hg:Gl X x)(hm:X.mg x=↑(.ref C))(hb:Binds X.K fd ["self"] [])(hx:Passes 114 X E)(J:(x==66)=false:=by decide) :
  EO X E T (.Call (.Name x p) [] [] pos) (λ(d:D)(O:Bd C true->D->Prop) _=>O #[[],[],0,[],[]] d):=by
 refine#[_,Ql M F hr hg hm hb .nil hx J,λd F' R σ H O Ke Q s hw kn _=>?_];intro y c L n m;refine#[y,c,rfl,vF,λg i j l r hn nd P v S=>#[rfl,?_]]
 have N:∀a,a=g\/a=i\/a=j\/a=l->a≠y/\a≠c/\H a=none:=λa ha=>by
  have h:=hn a ha;have U:a≠y:=λz=>by rw[z,vF]at h;cases h
  rw[vB U]at h;have W:a≠c:=λz=>by rw[z,vF]at h;cases h
  rw[vB W]at h;exact#[U,W,h]
 have B:∀a,a∈adr y c g i j l true->a=y\/a=c\/a=g\/a=i\/a=j\/a=l:=λa h=>by simpa[adr] using h
 have G:∀a,a∈adr y c g i j l true->H a=none:=λa h=>(B a h).elim (λz=>by rw[z];exact L) λh=>h.elim (λz=>by rw[z];exact n) λh=>(N a h).2.2;have I:∀b o,H b=↑o->r b=↑o:=λb o q=>S b o (vM q L) (by rw[vB<|vM q L,vB<|vM q n];exact q);have Y:r c=some (.own y):=S c _ m (by rw[vB m,vF]);have hl:∀a,a∈adr y c g i j l true->r a≠none:=λa h=>(B a h).elim (λz=>by rw[z,P];simp) λh=>h.elim (λz=>by rw[z,Y];simp) λh=>by rw[v a h];simp
 have Z:Ext (λ_=>False) R H (λa=>R a\/a∈adr y c g i j l true) r:=#[λb o _ h=>I b o h,λa h=>h.elim .inl λq=>.inr<|G a q]
 refine kn _ d (.ref y) (λa=>a∈adr y c g i j l true) F' (λa=>R a\/a∈adr y c g i j l true) r hw #[λb o _ _ h=>I b o h,Z.new,λa h=>h.elim (λq=>.inr<|G a q) .inl,λa h _=>.inl h]
  #[Sls.st s.rel Z 121<|λ_ _ z=>z,λa h=>.inl<|s.sub a h,λa h=>h.elim (λz=>?_)<|hl a,?_,.inl s.wx,s.wd] ⟨⟨y,c,g,i,j,l,[],rfl,λ_=>Iff.rfl,#[?_,P,Y,v _<|.inl rfl,v _<|.inr<|.inl rfl,.nil,λ_=>v _<|.inr<|.inr<|.inl rfl,λ_=>v _<|.inr<|.inr<|.inr rfl]⟩,λa h=>.inr h,λa h z=>s.xP a (s.sub a z)<|G a h,λh=>Ac s.tab<|G T h⟩
 ·cases e:H a with
  |none=>exact iv e<|s.xP a z
  |some u=>rw[I a u e];simp
 ·refine e1a2 s.tab λps e t=>?_;exact#[ps,I _ _ e,t]
 ·show [y,c,g,i,j,l].Nodup;refine List.nodup_cons.mpr #[λh=>?_,List.nodup_cons.mpr #[λh=>?_,nd]]
  ·rcases List.mem_cons.mp h with z|z
   ·exact m z.symm
   ·exact(N y<|by simpa using z).1 rfl
  ·exact(N c<|by simpa using h).2.1 rfl
end
section
variable{X:Cx}{scope:mi}{T:List Str}{i j:Nat}{x y:Str}{c d:hO}
def Z3(a:scope.kind=.function/\oX scope X.env=pure []:=by exact#[rfl,rfl])
 (b:(∀z∈scope.names,z.2≠.cell)/\139/\∀z∈scope.names,z.2≠.free:=by refine#[?_,?_,?_]<;>decide +kernel):zQ X scope [] T [] [] :=
  #[a.1,a.2,b.1,b.2.1,(λ_ _ h=>by cases h),λz f e=>iv e<|b.2.2 z f,(λj z h=>by cases h),rfl]
def Vx(a:scope.kind=.function/\oX scope X.env=pure [(x,c)]/\X.env.cells.lookup x=↑c/\X.N[i]?=↑x/\X.env.kindOf x=some .cell/\(pq scope X.env).names.lookup x=some .cell:=by exact#[rfl,rfl,rfl,rfl,rfl,rfl])
 (b:(∀z∈scope.names,z.2≠.cell)/\139/\∀z∈scope.names,z.2=.free->z.1=x:=by refine#[?_,?_,?_]<;>decide +kernel):zQ X scope [(x,c)] T [x] [i] :=
  have f:∀{z:Str},z=x->kR z [(x,c)]=↑c:=λ{z} e=>by rw[e,i4,pT]
  #[a.1,a.2.1,b.1,b.2.1,(λz e h=>(lkc h).elim (λq=>by rw[q.1,q.2];exact a.2.2.1) λq=>by cases q),λz g e=>#[c,f (b.2.2 z g e)],(λk z h=>by
    cases k with
    |zero=>cases h;exact#[i,c,rfl,a.2.2.2.1,.inl a.2.2.2.2.1,f rfl,.inl a.2.2.2.2.2]
    |succ k=>cases h),rfl]
def bs2(a:scope.kind=.function/\oX scope X.env=pure [(y,d),(x,c)]/\X.env.cells.lookup x=↑c/\X.env.cells.lookup y=↑d/\X.N[i]?=↑x/\X.N[j]?=↑y/\X.env.kindOf x=some .cell/\X.env.kindOf y=some .cell/\(pq scope X.env).names.lookup x=some .cell/\(pq scope X.env).names.lookup y=some .cell:=by exact#[rfl,rfl,rfl,rfl,rfl,rfl,rfl,rfl,rfl,rfl])
 (b:(∀z∈scope.names,z.2≠.cell)/\139/\(∀z∈scope.names,z.2=.free->z.1=x\/z.1=y)/\¬x=y:=by refine#[?_,?_,?_,?_]<;>decide +kernel):zQ X scope [(y,d),(x,c)] T [x,y] [i,j] :=
  have f:∀{z:Str},z=y->kR z [(y,d),(x,c)]=↑d:=λ{z} e=>by rw[e,i4,pT]
  have g:∀{z:Str},z=x->kR z [(y,d),(x,c)]=↑c:=λ{z} e=>by rw[e,i4,beq_eq_false_iff_ne.mpr b.2.2.2,i4,pT]
  #[a.1,a.2.1,b.1,b.2.1,(λz e h=>(lkc h).elim (λq=>by rw[q.1,q.2];exact a.2.2.2.1) λh=>(lkc h).elim (λq=>by rw[q.1,q.2];exact a.2.2.1) λq=>by cases q),λz l e=>(b.2.2.1 z l e).elim (λq=>#[c,g q]) λq=>#[d,f q],(λk z h=>by
    cases k with
    |zero=>cases h;exact#[i,c,rfl,a.2.2.2.2.1,.inl a.2.2.2.2.2.2.1,g rfl,.inl a.2.2.2.2.2.2.2.2.1]
    |succ k=>cases k with
      |zero=>cases h;exact#[j,d,rfl,a.2.2.2.2.2.1,.inl a.2.2.2.2.2.2.2.1,f rfl,.inl a.2.2.2.2.2.2.2.2.2]
      |succ k=>cases h),rfl]
end
end WL
namespace L2
open PySem PySem.Spec PyProof.Rows
def a1i(X:Cx)(b:Bool):R2:=λx y H Q=>∃d a,Ex X H x d/\Ex X H y (.list a)/\mU a=true/\d.canLay0=true/\d.depth<=62/\Q (.bl<|if b then !(a.any λe=>qq e d) else a.any λe=>qq e d) H
def Za(m:X.A.units+64<kI):AZ X (jH .In) (a1i X false):=by intro a s b H x y v u Q I c e h;obtain⟨d,n,f,g,i,j,o,q⟩:=h;obtain⟨p,k⟩:=f a b s v I c;obtain⟨r,l⟩:=g a b s u I e;exact SeqAt.in_list_reads l k i j q0d #[.bl _,H,I,rfl,q]
def Vy(m:X.A.units+64<kI):AZ X (jH .NotIn) (a1i X true):=by intro a s b H x y v u Q I c e h;obtain⟨d,n,f,g,i,j,o,q⟩:=h;obtain⟨p,k⟩:=f a b s v I c;obtain⟨r,l⟩:=g a b s u I e;exact SeqAt.notIn_list_reads l k i j q0d #[.bl _,H,I,rfl,q]
def Ij:zq X (.builtin "isinstance") (λa H Q=>∃(x:V)(c:hO)(t:hR)(b:Bool),a=[x,.ref c]/\zP X.K H x t/\nX X.K t (.ref c)=↑b/\Q (.bl b) H):=by intro d s k H a l Q I r h;obtain⟨x,c,t,b,rfl,f,e,q⟩:=h;obtain⟨u,v,rfl,g,i⟩:=vals2 r;cases i;exact GL I g f e λj=>#[.bl b,H,I.tok j,rfl,q]
end L2
namespace WL
variable[L2.GX]
open PySem L2
open Rep (rp)
open Ow (sl)
open Sls (rel)
def NA[Rep a][DecidableEq a][Dat a](x:a)(b:List a):((b.map Dat.dat).any λe=>qq e<|Dat.dat x)=decide (x∈b):=by
 rw[tq,k9,o8,jf];have e:∀y:a,qq (Dat.dat y) (Dat.dat x)=decide (y=x):=λy=>by rw[<- SeqAt.same_eq_eqv _ _ (Dat.nm y x),Dat.sm]
 constructor
 ·rintro⟨y,c,h⟩;rw[show ((λe=>qq e<|Dat.dat x)∘Dat.dat) y=decide (y=x) from e y]at h;exact kQ h▸c
 ·exact λh=>#[x,h,(e x).trans<|decide_eq_true rfl]
def a3s[Rep a][DecidableEq a][Dat a](b:X.A.units+64<kI)(c:Dat.dp a<=62:=by decide):YM X .In (λ(x:a)(d:List a)=>decide (x∈d)):=#[_,Za b,λ{R H x y q u h Q} e f g k =>
 #[_,_,Dat.rd e,Ex.lst (wR.of f) (Ax g),Ez y,Dat.lay x,i9 (Dat.dep x) c,by rw[cr im,NA];exact k]]
def a2b[Rep a][DecidableEq a][Dat a](b:X.A.units+64<kI)(c:Dat.dp a<=62:=by decide):YM X .NotIn (λ(x:a)(d:List a)=>!decide (x∈d)):=#[_,Vy b,λ{R H x y q u h Q} e f g k =>
 #[_,_,Dat.rd e,Ex.lst (wR.of f) (Ax g),Ez y,Dat.lay x,i9 (Dat.dep x) c,by rw[hI rfl,NA];exact k]]
def a2c:Cm X .IsNot (λ(_:Unit)(_:Unit)=>false):=#[_,M6,λ{R H x y u v Q} a b k=>#[b,by
 have a:u=.xj:=a
 subst a;exact k]]
def a2d{D PO τ:Type}[Sls D][Sls PO][Ow τ]{p:Type}[Rep p]{o e:i8}{p2 p3:Pos}[J:Pj D PO n]{wo:Wf D (OL p) D}{we:Wf D p D}(ho:EO X E T o wo)(h:EW X E T e we)
  (hb:∀{L:TE} {t:TA},PE X o L->PA X [e] t->PS X (.Expr (.Call (.Attribute o "append" p2) [e] [] p3) pos) (GI<|tBM X.K "list" Hy L t)) (hs:hV [e] X.env=71::hV [] X.env:=by rfl) :
  S1 X E T ms n (.Expr (.Call (.Attribute o "append" p2) [e] [] p3) pos) (cS (cB wo we λxs (x:D->Prop) (_:p) M=>xs.l.length<hZ/\x M) J.pj λ(x:D->Prop)(_:τ->PO->Prop)=>x):=by
 refine e1a2 ho λL o1 o2=>?_;refine e1a2 h λt h1 h2=>?_;refine#[_,hb o1<|vI h1 vU hs,λd F R N H x Kr Ke En s hw kn kr ke=>?_];refine o2 d F R N H _ _ _ s hw (λxs d1 v F1 O R1 H1 q1 c1 P A=>?_) λC y M F' Q S q c U=>?_
 ·obtain⟨a,j,e,hF,W,hp⟩:=A.is;cases e;have f:F1 a:=(hF a).mpr rfl;have g:¬O a:=A.yU a f;have aT:a≠T:=λz=>A.tab (by rw[<- z];exact f);have m:Ch T F R H O R1 H1:=c1.less λ_ z=>.inr z;refine#[.inl #[rfl,j,wR.of W],h2 d1 O R1 N H1 _ _ _ P q1 (λy d2 v Y Z H3 q B i r=>?_) λC y M F' Q S q c U=>?_]
  ·have h3:H3 a=↑(.lst j):=B.keep a _ g aT W;have aR:Z a:=B.left a (A.sub a f) g;have aa:¬Y a:=λz=>(B.yo a z).elim g λq=>by rw[W]at q;cases q
   have I:=Ch.trans s P.tab m B;have ex:=zC (F:=Y) (R:=Z) (H:=H3) (a:=a) (o:=.lst<|j++[v]);have k:∀b u,b≠a->H3 b=some u->upd H3 a (.lst<|j++[v]) b=some u:=λb u z e=>by rw[vB z];exact e
   refine#[a,j,v,rfl,rfl,h3,by rw[<- Paired.length hp];exact q.1,kn d2 Y Z _ N q.2 #[λb o nb nt e=>k b o (λz=>?_)<|I.keep b o nb nt e,I.AU,I.yo,I.left] ⟨Sls.st i.rel ex (λc z=>by rw[z];exact aR) λc z q=>aa (by rw[<- q];exact z),i.sub,λc z=>?_,?_,i.wx,i.wd⟩<|Ag.refl _ _]
   ·subst z;rcases c1.yo b (.inl f) with w|w
    ·exact nb w
    ·rw[e]at w;cases w
   ·by_cases e:c=a
    ·rw[e,vF];simp
    ·rw[vB e];exact i.xP c z
   ·refine e1a2 i.tab λps e t=>?_;exact#[ps,k _ _ (λz=>aT z.symm) e,t]
  ·refine e1a2 (wN (PO:=PO) U) λG g1 g2=>?_;exact ke C y _ G Q S q (Ch.less (Ch.trans s P.tab m c) g1) g2
 ·refine e1a2 (wN (PO:=PO) U) λG g1 g2=>?_;exact ke C y _ G Q S q (c.less g1) g2
section
variable{D PO τ:Type}[Sls D][Sls PO][Ow τ]{α:Type}[Rep α]
def FG(r:rp R H x v):∀{a:List α} {b:List V} (j:Nat),Paired (rp R H) a b->Paired (rp R H) (a.set j x) (b.set j v)
 |_,_,_,.nil=>.nil
 |_,_,0,.cons _ t=>.cons r t
 |_,_,j+1,.cons q t=>.cons q<|FG r j t
def Vz(i:Nat)[Sls Q][A:At i D (OL α) Q][U:Pt i Q (OL α) D][J:Pj D PO n](hn:PE X (.Name x S) (v9 i))(h:EW X E T e we)(hk:EW X E T k wk)
 (hb:∀{W M:TE},PE X e W->PE X k M->PS X (.Assign [.Subscript (.Name x S) k p2] e pos) (Oh W<|a0c (v9 i) M W2)) :
    S1 X E T ms n (.Assign [.Subscript (.Name x S) k p2] e pos) (cS (cB we wk λy (w:D->Prop) j z=>∃m,Qn (A.get z).l.length j=↑m/\w (U.put (A.hole z) #[(A.get z).l.set m y])) J.pj λ(w:D->Prop)(_:τ->PO->Prop)=>w):=by
  obtain⟨t,h1,h2⟩:=h
  obtain⟨M,i1,i2⟩:=hk
  have Y:∀{F R f g:Rg} {H b:Hp} {C y:hO} {B:D} {o:St} {N:hO->PO->Prop},(∀C y Z f g b,N C Z->Ch T F R H f g b->wG T f g b Z (o.take n)->E (.ref C) ↑y b)->N C (J.pj B)->Ch T F R H f g b->wG T f g b B o->E (.ref C) ↑y b:=λI q c r=>by
    obtain⟨G,L,g2⟩:=wN (PO:=PO) r
    exact I _ _ _ G _ _ q (c.less L) g2
  refine#[_,hb h1 i1,λd F R o H w Kr N En s hw kn kr I=>?_]
  refine h2 d F R o H _ _ _ s hw (λy d1 v F1 R1 H1 q1 c1 p r1=>?_) λC y B f g b q c r=>Y I q c r
  obtain⟨a,vs,L,g2,g3,_⟩:=AB (i:=i) p
  refine#[_,L,i2 d1 F1 R1 o H1 _ _ _ p q1 (λj z u F2 R2 H2 q2 c2 s2 O=>?_) λC y B f g b q c r=>Y I q (Ch.trans s p.tab c1 c) r]
  obtain⟨m,m1,m2⟩:=q2
  obtain⟨a',P,k1,k2,k3,k4⟩:=AB (i:=i) s2
  rw[L]at k1
  cases k1
  obtain⟨c3,s3⟩:=k4 _ _<|FG (p.val c2 r1) m k3
  have O:u=V.int j:=O
  subst O
  exact#[a,P,j,m,rfl,rfl,k2,by rw[<- Paired.length k3];exact m1,kn _ F2 R2 _ o m2 (Ch.trans s p.tab c1<|Ch.trans p s2.tab c2 c3) s3<|Ag.refl _ _]
end
structure Isf(K:hJ)(mg:Str->Option hR)(C CB:hO):Prop where
 at_:mg "Body"=↑(.ref CB)
 cl:BH K C
 ha:iL K (.ref C) "__class__"=↑(some<|.builtin "object.__class__")
 hn:t9 K (.builtin "object.__class__") "__get__"=↑(some<|.builtin "getset_descriptor.__get__")
 ht:ux K (.builtin "object.__class__")=↑true
 hm:lh K C (.type "object")=↑true
 kt:nX K (.ref C) (.ref CB)=↑true
section
variable{D:Type}[Sls D]{α:Type}[Rep α]
def a3t{C:hO}{k:Bool}(i:Nat)[Sls l][A:At i D (Bd C k) l](m:Gl X "isinstance")(n:X.mg "isinstance"=none)(o:Gl X "Body")(F:Isf X.K X.mg C g)(r:PE X (.Name x c) (v9 i):=by exact pv _)
 (h:hV [.Name x c,.Name "Body" q] X.env=(false,eval (.Name x c) X.env)::hV [.Name "Body" q] X.env:=by rfl) (e:hV [.Name "Body" q] X.env=(false,eval (.Name "Body" q) X.env)::hV [] X.env:=by rfl) (f:(jz pos<|hV [.Name "Body" q] X.env).any (·.1)=false:=by rfl) :
    EW X E T (.Call (.Name "isinstance" p) [.Name x c,.Name "Body" q] [] pos) (λ(d:D)(j:Bool->D->Prop) _=>j true d):=by
  refine#[_,xk Ij m n qp (vI r (vI (MY (v:=.ref g) o F.at_ rfl) vU e) h) (he:=h) (hpl:=f),λd t R z H j B Q s u w G=>?_]
  obtain⟨v,I,J,y,L,⟨a,M,N,O,P,S,U,rfl,_,b⟩,_⟩:=A.take s.rel
  exact#[_,y,.ref a,g,.ref C,true,rfl,zP.ins b.ob F.cl F.ha F.hn F.ht F.hm,F.kt,w true d _ t R H u 61 s rfl]
end
variable{X:Cx}{E:XK}{T:hO}{ms:List Nat}{n:Nat}{pos:Pos}
variable{D PO τ:Type}[Sls D][Sls PO][Ow τ]
def a2e(i j:Nat)[Ow f][Ow c][Hs c][Sls p][Sls q][Sls r][A:At j D c p][t:At i p f q][U:Pt i q c r](J:X.N.Nodup)(L:PE X (.Name y w) (v9 j))(M:X.N[i]?=↑x:=by rfl)(O:Loc X.env.scope x:=by exact jX rfl)(P:i∉ms:=by decide)
 (Q:kg (.Name y w) (some<|.Name x e) pos.line X.env=pure false:=by rfl) (S:X.fn x=true\/X.env.scope.names.lookup x=some .local:=by first|exact .inl rfl|exact .inr rfl) :
    S1 X E T ms n (.Assign [.Name x e] (.Name y w) pos) (λ(d:D)(B:r->Prop)(_:τ->PO->Prop) _=>B<|U.put (t.hole<|A.hole d)<|A.get d):=by
  refine#[_,zN J M O L Q S,λd F R W H B Kr Ke En s Y Z kr ke=>?_]
  obtain⟨v,C,g,g1,k,I,g4⟩:=A.take s.rel
  obtain⟨u,rfl⟩:=Hs.has I
  have l:∀a,g a->F a:=λa h=>(k.all a).mpr<|.inr h
  have m:∀a,C a->F a:=λa h=>(k.all a).mpr<|.inl h
  have s':wG T g R H (A.hole d) W:=#[g4,λa h=>s.sub a<|l a h,s.xP,s.tab,s.wx,λh=>s.wd<|l T h]
  obtain⟨G,k1,k2⟩:=Fi (i:=i) (A:=t) (U:=U) s' (#[I,λa h=>s.sub a<|m a h,λa h z=>k.yU a h z,λh=>s.wd<|m T h]:Nw T C g R H (A.get d) u)
  exact#[u,g1,Z _ G R H _ Y #[λb o _ _ h=>h,λ_ h=>.inl h,λa h=>.inl<|(k1 a h).elim (m a)<|l a,λ_ h _=>h] k2<|Ag.set P]
structure Dc(α:Type) where
 l:List (Int×α)
def PK{α:Type}[Rep α](R:Rg)(H:Hp):List (Int×α)->List (Key×V)->Prop:=Paired λe u=>u.1=iM e.1/\rp R H e.2 u.2
section
variable{α:Type}[Rep α]
def RK(e:Ext R R H b c):∀{l:List (Int×α)} {a:List (Key×V)},PK R H l a->PK b c l a:=by
 intro _ _ z
 induction z with
 |nil=>exact .nil
 |cons h t d=>exact .cons #[h.1,Rep.st h.2 e] d
def LQ{k:Int}:∀{l:List (Int×α)} {us:List (Key×V)},PK R H l us->(∀b,lk l k=↑b->∃v,zg us (iM k)=↑v/\rp R H b v)/\(lk l k=none->zg us (iM k)=none):=by
 intro z0 z1 z9
 induction z9 with
 |nil=>exact#[(λb h=>by cases h),λ_=>rfl]
 | @cons e u l us h t Y7 =>
  have i:=Y7;by_cases q:e.1=k
  ·have e1:lk (e::l) k=↑e.2:=by unfold lk;rw[jk,decide_eq_true q];rfl
   rw[e1];refine#[λb hb=>?_,(λz=>by cases z)];cases hb;exact#[u.2,zZ (by rw[h.1,q]),h.2]
  ·have e1:lk (e::l) k=lk l k:=by unfold lk;rw[jk,io q]
   rw[e1,z8<|by rw[h.1];intro z;exact q<|oj z];exact i
def NB{k:Int}{l:List (Int×α)}{us:List (Key×V)}(h:PK R H l us):(zg us<|iM k).isSome=(lk l k).isSome:=by
 have i:=LQ (k:=k) h
 cases e:lk l k with
 |none=>rw[i.2 e];rfl
 |some b=>obtain⟨v,hv,_⟩:=i.1 b e;rw[hv];rfl
def LR:∀{l:List (Int×α)} {a:List (Key×V)},PK R H l a->a.length=l.length
 |_,_,.nil=>rfl
 |_,_,.cons _ t=>by rw[iH,iH,LR t]
def RL{k:Int}{x:α}{v:V}(r:rp R H x v):∀{l:List (Int×α)} {us:List (Key×V)},PK R H l us->PK R H (l++[(k,x)]) (us++[(iM k,v)])
 |_,_,.nil=>.cons #[rfl,r] .nil
 |_,_,.cons h t=>.cons h<|RL r t
def Zb{k:Int}{x:α}{v:V}(r:rp R H x v):∀{l:List (Int×α)} {us:List (Key×V)},PK R H l us->PK R H (l.map λe=>if e.1=k then (e.1,x) else e) (us.map λkv=>if kv.1=iM k then (kv.1,v) else kv):=by
 intro z0 z1 z9
 induction z9 with
 |nil=>exact .nil
 | @cons e u l us h t Y7 =>
  refine .cons ?_<|Y7;dsimp only;by_cases q:e.1=k
  ·rw[hI q,hI<|by rw[h.1,q]];exact#[h.1,r]
  ·rw[cr q,cr<|by rw[h.1];intro z;exact q<|oj z];exact h
def RM{k:Int}(r:rp R H x v){l:List (Int×α)}{us:List (Key×V)}(h:PK R H l us):PK R H (pk l k x) (putK us (iM k) v):=by
 unfold putK pk;rw[A7,NB h]
 cases (lk l k).isSome with
 |true=>rw[hI rfl,hI rfl];exact Zb r h
 |false=>rw[cr im,cr im];exact RL r h
end
instance{α:Type}[Rep α]:Ow (Dc α):=#[λF R H x v=>∃a us,v=↑(.ref a)/\(∀b,F b↔b=a)/\H a=↑(.dK us)/\PK R H x.l us,
 λh e s n=>by
  refine e2a4 h λa us h1 h2 h3 h4=>?_
  exact#[a,us,h1,h2,e.keep a _ (n a<|(h2 a).mpr rfl) h3,RK (e.wide s) h4],
 λh e=>by
  refine e2a4 h λa us h1 h2 h3 h4=>?_
  exact#[a,us,h1,λb=>(e b).symm.trans (h2 b),h3,h4]]
instance{α:Type}[Rep α]:Hs (Dc α):=#[λz9=>e2a2 z9 λ_ _ h _=>#[_,h]]
section
variable{D PO τ:Type}[Sls D][Sls PO][Ow τ]{α:Type}[Rep α]
def EH{i:Nat}[Sls c][A:At i D (Dc α) c](s:wG T F R H d e):∃a b,e[i]?=↑(some<|.ref a)/\H a=↑(.dK b)/\PK R H (A.get d).l b:=by obtain⟨v,j,k,f,m,⟨a,b,rfl,n,g,h⟩,o⟩:=A.take s.rel;exact#[a,b,f,g,h]
def RN{i:Nat}[Sls w][A:At i D (Dc α) w][U:Pt i w (Dc α) D](s:wG T F R H d x):∃a g,x[i]?=↑(some<|.ref a)/\H a=↑(.dK g)/\PK R H (A.get d).l g /\
  ∀(j:List (Int×α)) (f:List (Key×V)),PK R H j f->Ch T F R H F R (upd H a<|.dK f)/\wG T F R (upd H a<|.dK f) (U.put (A.hole d) #[j]) x:=by
 obtain⟨v,N,O,y,m,⟨a,g,rfl,p,E,G⟩,I⟩:=A.take s.rel;have r:F a:=(m.all a).mpr<|.inl<|(p a).mpr rfl;have J:a≠T:=λz=>s.wd (by rw[<- z];exact r);refine#[a,g,y,E,G,λj f L=>?_];have B:=zC (F:=F) (R:=R) (H:=H) (a:=a) (o:=.dK f);have C:∀c,c=a->R c:=λc z=>by rw[z];exact s.sub a r
 have k:∀b u,b≠a->H b=↑u->upd H a (.dK f) b=↑u:=λb u z e=>by rw[vB z];exact e
 refine#[#[λb o n _ e=>k b o (λz=>n<|by rw[z];exact r) e,λ_ h=>.inl h,λ_ h=>.inl h,λ_ h _=>h],Pt.same (A:=U) (Sls.st I B C λc z q=>m.yU c ((p c).mpr q) z) y m #[a,f,rfl,p,vF,RK (B.wide C) L],s.sub,λc z=>?_,?_,s.wx,s.wd]
 ·by_cases e:c=a
  ·rw[e,vF];simp
  ·rw[vB e];exact s.xP c z
 ·refine e1a2 s.tab λM e t=>?_;exact#[M,k _ _ (λz=>J z.symm) e,t]
def RO{a:i8}(i:Nat){D0:Type}[Sls D0][A:At i D (Dc α) D0]{wk:Wf D Int D}(hu:X.A.units+1<kI)(hn:PE X 161 (v9 i))(hk:EW X E T a wk)(hs:Qv a:=by intro _ _;rfl) :
  EW X E T (.Subscript 161 a pos) (cK wk λ(Kn:α->D->Prop) k d1=>∃v,lk (A.get d1).l k=↑v/\Kn v d1):=by
 refine e1a2 hk λta a1 a2=>?_;refine#[_,HA hu hn a1 hs,λd F R σ H Kn Ke Q s hw kn ke=>?_];obtain⟨y0,us0,h1,_,_⟩:=EH (i:=i) s;refine#[_,h1,a2 d F R σ H _ Ke _ s hw (λk d1 u F1 R1 H1 q1 c1 s1 r1=>?_) ke];subst r1;obtain⟨y,us,g1,g2,g3⟩:=EH (i:=i) s1;rw[h1]at g1;cases g1;refine e1a2 q1 λz z1 z2=>?_;refine e1a2 ((LQ g3).1 z z1) λv v1 v2=>?_;have g:=yW.k (k:=iM k) g2;rw[v1]at g;exact#[_,v,rfl,g,kn z d1 v F1 R1 H1 z2 c1 s1 v2]
def RP(i:Nat){B:Type}[Sls B][A:At i D (Dc α) B][U:Pt i B (Dc α) D][J:Pj D PO n]{M:Wf D Int D}{N:Wf D α D}(hu:X.A.units+1<kI)(hn:PE X (.Name x O) (v9 i))(hk:EW X E T a M)(he:EW X E T e N)
 (hs:kg e (some<|.Subscript (.Name x O) a p3) pos.line X.env=pure false:=by rfl) :
    S1 X E T ms n (.Assign [.Subscript (.Name x O) a p3] e pos) (λ(d:D)(P:D->Prop)(Kr:τ->PO->Prop) j=>N d (λv I=>M I (λk r=>(A.get r).l.length<hZ/\P (U.put (A.hole r) #[pk (A.get r).l k v])) λC f=>j C<|J.pj f) λC f=>j C<|J.pj f):=by
  refine e1a2 hk λta a1 a2=>?_
  refine e1a2 he λte b1 b2=>?_
  have Q:∀{F R g h:Rg} {H b:Hp} {C y:hO} {f:D} {m:St} {j:hO->PO->Prop},(∀C y S g h b,j C S->Ch T F R H g h b->wG T g h b S (m.take n)->E (.ref C) ↑y b)->j C (J.pj f)->Ch T F R H g h b->wG T g h b f m->E (.ref C) ↑y b:=λt q c p=>by
    refine e1a2 (wN (PO:=PO) p) λG z L=>?_
    exact t _ _ _ G _ _ q (c.less z) L
  refine#[_,HB hu hn a1 b1 hs,λd F R m H P Kr j En s hw kn kr t=>b2 d F R m H _ _ _ s hw (λv I u F1 R1 H1 q1 W o r1=>?_) λC y f g h b q c p=>Q t q c p]
  obtain⟨y0,aa,Y,_,_⟩:=EH (i:=i) o
  refine#[_,Y,a2 I F1 R1 m H1 _ _ _ o q1 (λk r w F2 R2 H2 Z c2 s2 r2=>?_) λC y f g h b q c p=>Q t q (Ch.trans s o.tab W c) p]
  subst r2
  refine e2a4 (RN (i:=i) s2) λy us z L g3 g4=>?_
  rw[Y]at z
  cases z
  obtain⟨c3,s3⟩:=g4 _ _<|RM (k:=k) (o.val c2 r1) g3
  exact#[_,_,rfl,Hz.k (k:=iM k) L (by rw[LR g3];exact Z.1),kn _ F2 R2 _ m Z.2 (Ch.trans s o.tab W<|Ch.trans o s2.tab c2 c3) s3<|Ag.refl _ _]
end
instance:Rep Str:=#[λ_ _ i v=>v=.str i,λh _=>h]
instance:HR Str:=#[λ{R H x y u v} h1 h2=>by
 have h1:u=V.str x:=h1;have h2:v=V.str y:=h2;subst h1;subst h2;refine#[rfl,?_];by_cases e:x=y
 ·rw[e];simp
 ·rw[io e,io (λz=>e (by cases z;rfl))]]
def xN[Sls D]{k:Nat}:EW X E T (.Constant (.str x) k pos) (λ(d:D)(a:Str->D->Prop) _=>a x d) :=
 #[_,Cd,λd F R e H a f Q s b c _=>c x d _ F R H b 61 s rfl]
def a38[Sls D][Rep l]:EO X E T (.Dict [] [] pos) (λ(d:D)(e:Dc l->D->Prop) _=>e #[[]] d):=by
 refine#[_,A9,λd F R v H e w Q s m n x p c=>?_];obtain⟨f,r,g⟩:=s.new (.dK []) c;have t:¬F p:=λz=>g<|s.sub p z;have i:Ext (λ_=>False) R H (λa=>R a\/a=p) (upd H p<|.dK []):=⟨λb o _ h=>by rw[vB<|vM h c];exact h,λa h=>h.elim .inl λq=>.inr<|by rw[q];exact c⟩;refine n _ d _ (λa=>a=p) F (λa=>R a\/a=p) _ m #[r.keep,i.new,λa h=>h.elim (λq=>.inr<|by rw[q];exact c) .inl,λa h _=>.inl h] #[Sls.st s.rel i 121<|λ_ _ z=>z,λa h=>.inl<|s.sub a h,λa h=>?_,f.tab,.inl s.wx,s.wd] #[#[p,[],rfl,λb=>Iff.rfl,vF,.nil],λa h=>.inr h,λa h k=>t (by rw[<- h];exact k),λh=>g<|by rw[<- h];exact s.wx];rcases h with h|h
 ·exact f.xP a h
 ·rw[h,vF];simp
def Zc[Sls D][Rep Z](hc:TW X E T c wc)(ha:EW X E T a wa)(hb:EW X E T b wb) :
  EW X E T (.IfExp c a b pos) (λ(d:D)(o:Z->D->Prop) j=>wc d (λx m=>if x=true then wa m o j else wb m o j) j):=by
 obtain⟨tc,c1,c2⟩:=hc;obtain⟨ta,a1,a2⟩:=ha;obtain⟨tb,b1,b2⟩:=hb;refine#[λe H Q=>tc e H λz i=>(z=true->ta e i Q)/\(z=false->tb e i Q),λf s e H Q I h=>wpAny_IfExp<|ww (c1 f s e H _ I h) λz g q=>?_,λd F R e H o j Q s hw S p=>?_]
 ·obtain⟨i,U,l⟩:=q
  cases z with
  |true=>exact a1 f g e i Q U<|l.1 rfl
  |false=>exact b1 f g e i Q U<|l.2 rfl
 refine c2 d F R e H _ j _ s hw (λx m W Y i l n g=>#[λz=>?_,λz=>?_]) p
 ·exact a2 m W Y e i _ j _ g (by rw[hI z]at l;exact l) (λy r v t u w A B G J=>S _ r v t u w A (Ch.trans s g.tab n B) G J) λC y L M N O k c P=>p C y L M N O k (Ch.trans s g.tab n c) P
 ·exact b2 m W Y e i _ j _ g (by rw[cr<|by rw[z];exact im]at l;exact l) (λy r v t u w A B G J=>S _ r v t u w A (Ch.trans s g.tab n B) G J) λC y L M N O k c P=>p C y L M N O k (Ch.trans s g.tab n c) P
def Zd:Cm X .Is (λ(_:Unit)(_:Unit)=>true):=#[_,Qd,λ{R H x y u v Q} a b k=>#[b,by have a:u=.xj:=a;rw[decide_eq_true a];exact k]]
def RQ{X:Cx}{E:XK}{T:hO}{m:List Nat}{n:Nat}{pos:Pos}{D PO o:Type}[Sls D][Sls PO][Ow o]{b:Type}[Rep b]{a e:i8}{f:Type}[Sls f][J:Pj D PO n]{g:D->b->f}{p:Wf D b D}(I:GW X T m a g)(L:EW X E T e p)
  (M:∀{h:TE} {t:TG},PE X e h->PG X a t->PS X (.Assign [a] e pos) (Oh h t):=by intro h t i j;exact ET i j) :
  S1 X E T m n (.Assign [a] e pos) (λ(d:D)(r:f->Prop)(N:o->PO->Prop) u=>p d (λx k=>r<|g k x) λC w=>u C<|J.pj w):=by
 obtain⟨t,i,j⟩:=L;obtain⟨tt,g1,g2⟩:=I;refine#[_,M i g1,λd F R z H r N u En s O P kr Q=>j d F R z H _ _ _ s O (λx k v S A H1 U W Y Z=>?_) λC y w B R' H' q c s'=>?_]
 ·exact g2 k S A z H1 x v _ Y Z λB l f1 s2 ag=>P _ B A H1 l U (W.less f1) s2 ag
 ·obtain⟨G,g1,g2⟩:=wN (PO:=PO) s';exact Q C y _ G R' H' q (c.less g1) g2
instance:KQ Str:=#[λh _=>h]
def Eb:∀{a:List Str} {b:List V},Paired (rp R H) a b->b=a.map V.str:=by
 intro _ _ z
 induction z with
 |nil=>rfl
 |cons h t c=>rw[show _=V.str _ from h,c];rfl
def RS(k:Str)(a:List Str):ZV (.str k) (a.map V.str)=decide (k∈a):=by
 unfold ZV;rw[tq,k9,o8,jf];constructor
 ·rintro⟨y,b,e⟩;have:y=k:=by simpa[PR] using e
  rw[<- this];exact b
 ·intro h;exact#[k,h,by simp[PR]]
def O6:YM X .NotIn (λ(x:Str)(c:List Str)=>!decide (x∈c)):=#[_,Ap,λ{R H x y q u d Q} a e b k=>by
 have a:u=V.str x:=a;subst a;refine#[q,d,rfl,.inl<|wR.of e,rfl,by rw[Eb b,List.all_map,ny];exact λ_ _=>rfl,?_];rw[Eb b,RS]
 exact k]
section
variable{D PO τ:Type}[Sls D][Sls PO][Ow τ]{α β:Type}[Rep α][Rep β]
def G9{i:Nat}[Sls c][A:At i D (List Int) c](s:wG T F R H d e):∃a,e[i]?=↑(some<|.ref a)/\H a=↑(.lst<|(A.get d).map V.int):=by obtain⟨v,h,j,f,_,⟨_,u,rfl,a,k,rfl,_,b,g⟩,_⟩:=A.take s.rel;rw[paired_ints g]at b;exact#[a,f,b]
def a2f(i j:Nat)[Sls D1][Sls D2][A:At i D (List Int) D1][B:At j D (List Int) D2](u:X.calm=true)(v:Gl X "sorted")(C:X.mg "sorted"=none)(L:Gl X "set")(M:X.mg "set"=none)(hn:PE X (.Name x c) (v9 i))(G:PE X (.Name y e) (v9 j))
 (f:hV [.Name x c] X.env=(false,eval (.Name x c) X.env)::hV [] X.env:=by rfl) (g:hV [.Name y e] X.env=(false,eval (.Name y e) X.env)::hV [] X.env:=by rfl)
 (h:hV [.BinOp (.Call (.Name "set" N) [.Name x c] [] O) .BitXor (.Call (.Name "set" P) [.Name y e] [] S) W] X.env=(false,eval (.BinOp (.Call (.Name "set" N) [.Name x c] [] O) .BitXor (.Call (.Name "set" P) [.Name y e] [] S) W) X.env)::hV [] X.env:=by rfl) :
    EO X E T (.Call (.Name "sorted" q1) [.BinOp (.Call (.Name "set" N) [.Name x c] [] O) .BitXor (.Call (.Name "set" P) [.Name y e] [] S) W] [] pos)
      (λ(d:D)(Y:OL Int->D->Prop) _=>(yV (A.get d)/\yV (B.get d)/\∃U:List Int,U.length<64/\(∀k∈A.get d,k∈U)/\∀k∈B.get d,k∈U)/\Y #[xr (A.get d)<|B.get d] d):=by
  refine#[_,xk (CO u) v C kT (vI (xz UQ (yk (JR u) L M oF (vI hn vU f) (he:=f))<|yk (JR u) L M oF (vI G vU g) (he:=g)) vU h) (he:=h),λd F R σ H Y Ke Q s hw kn ke=>?_]
  obtain⟨⟨Z,rb,U,hU,ua,ub⟩,o⟩:=hw
  have la:=xo Z ua
  have lb:=xo rb ub
  refine e1a2 (G9 (i:=i) s) λa a1 a2=>?_
  refine#[_,a1,a,A.get d,rfl,wR.of a2,q0a,λp ka hp aa ab ma=>?_]
  refine e0a3 (s.new (xV X.w p ka) hp) λt c1 _=>?_
  refine e1a2 (G9 (i:=j) t) λb b1 b2=>?_
  refine#[_,b1,b,B.get d,rfl,wR.of b2,q0a,λq kb hq ae af mb=>?_]
  refine e0a3 (t.new (xV X.w q kb) hq) λI c2 _=>?_
  have J:p≠q:=vM vF hq
  refine#[p,q,ka,kb,rfl,rfl,by rw[vB J];exact vF,vF,q0a,λr m hr n mc=>?_]
  refine e0a3 (I.new (xV X.w r m) hr) λs3 c3 _=>?_
  have mm:∀k,k∈m↔k∈xr (A.get d) (B.get d):=λk=>by
    rw[mc,Cu<|v6 rb,ma,mb]
    by_cases h1:k∈A.get d<;>by_cases h2:k∈B.get d<;>simp[h1,h2]
  have lc:m.length<64:=by
    have:=SX.Aa m U n λk o=>by
      rw[mc,ma,mb]at o
      exact o.elim (λz=>ub k z.1) λz=>ua k z.2
    lia
  refine#[r,m,rfl,vF,lc,λl ns hl pn sn=>?_]
  rw[Fl pn sn,Fy n mm<|Bk Z]
  refine e1a3 (yp s3 hl<|yK (R:=R)<|xr (A.get d)<|B.get d) λR' c4 s4 n4=>?_
  exact kn _ d _ _ F R' _ o (Ch.trans s t.tab c1<|Ch.trans t I.tab c2<|Ch.trans I s3.tab c3 c4) s4 n4
end
end WL
namespace L2
variable[L2.GX]
open PySem PySem.Spec PyProof.Rows
noncomputable abbrev ye(X:Cx)(a:List (hO×Obj))(h:XK)(i:St->Prop):Cx :=
 { X with pn:=a,xe:=λe j=>∃(b:List (hO×Obj)) (c:St) (d:Hp) (f:h9) (C x:hO) (g:Hp),e=.ref x/\Inv { X with pn:=a} b c d f/\i c/\Ff X.prog X.w X.stack d f g C x j/\h (.ref C) ↑x g}
def Inv.RT(I:Inv X a b H s):Inv (ye X (X.pn++a) d e) [] b H s :=
 #[58,I.os,I.bare,I.base,I.loc,I.cell,I.free,I.za,λp c=>I.pin p (by simpa using c),I.wy,I.len]
def Inv.Bo(I:Inv (ye X (X.pn++a) e f) b c H s):Inv X a c H s :=
 #[58,I.os,I.bare,I.base,I.loc,I.cell,I.free,I.za,λp d=>I.pin p<|jg _ d,I.wy,I.len]
def Inv.Xs(I:Inv (ye X b d e) a c H s):Inv { X with pn:=b} a c H s :=
 #[58,I.os,I.bare,I.base,I.loc,I.cell,I.free,I.za,I.pin,I.wy,I.len]
def LS(c:Qi)(X:Cx)(E:XK)(d:St):Prop:=∀(a:List (hO×Obj)) (H:Hp) (s:h9) (e:hR) (b:h9),Inv X a d H s->c X.stack H s E e b->X.xe e b
def a1j(h:c b):LS 114 (ye X d f c) f b:=by intro a g i e m I j;obtain⟨C,x,k,rfl,F,l⟩:=j;exact#[a,b,g,i,C,x,k,rfl,I.Xs,h,F,l]
def VA(F:wn X.prog X.w X.K X.mg X.base l k f m g n)(o:wZ k X.A)(p:Binds X.K m g d)(q:Vals b d)(t:LS l X E i)
 (I:Inv X a i H s)(r:Vals vs us)(h:n (vs++b) H Q E):ii 54 X.A (call (.ref f) us) (EP X a i Q) X.xe s:=by
  have j:Vals (vs++b) (us++d):=r.append q
  have v:(us++d).length=g.length:=by rw[<- j.length];exact F.len _ _ _ _ h
  refine m8<|ko (F.run X.A X.stack s H ⟨us,[]⟩ (us++d) (vs++b) Q E o I.Hw (p s us I.zp v) j h) λr x c=>?_
  cases r with
  |error e=>exact t a H s e x I c
  |ok y =>
    cases y with
    |ret u=>exact I.after c
    |next=>exact iV c
    |brk=>exact iV c
    |cont=>exact iV c
def RU(c:Qi)(X:Cx)(C:hO)(m:Str)(d:Sp)(a:List V)(E:XK)(e:TE)(t:TA):TE:=λb H Q=>LS c X E b/\GN C m d a E e t b H Q
def RV(G:PE X o J)(c:BH X.K C)(v:Meth X.K C m f)(F:wn X.prog X.w X.K X.mg X.base CX k f L M N)(O:wZ k X.A)(P:Binds X.K L M R)(hd:Vals i R)(S:PA X (e::d) t)
 (j:hV (e::d) X.env=71::hV d X.env:=by rfl) (n:(jz pos<|hV d X.env).any (·.1)=false:=by rfl)
 (ht:eval 144 X.env=(do
 let y <- eval o X.env
 nE apos.atName
 let (f,first) <- lw [y] (nc y m T)
 oa pos f first (jz pos (hV (e::d) X.env)) (nI pos (lx [] X.env))):=by rfl) :
    PE X 144 (RU CX X C m N i E J t):=by
  intro b s z H Q I h
  obtain⟨U,h⟩:=h
  refine o9 (pl:=T) (ww (G b s z H _ I h) λu Y p=>e2a3 p λx H1 B Z g=>e3a4 g λa dx fs ex ea l q=>?_) ht
  subst ex
  obtain rfl:u=iD a:=Z
  refine Cj B ea c v l ?_
  refine qd (first:=[.ref a]) (h₀:=X.base) I.ok.mod.Cc v.kp (ww (S pos b Y z H1 _ B q) λus s2 p=>e2a3 p λvs H2 D r q2=>#[D.zp,?_]) j n
  exact VA (us:=.ref a::us) (vs:=.ref a::vs) F O P hd U D (.cons rfl r) q2
def a3u(o:Option (List V))(h h':jd):Prop:=match o with
 |none=>h'=h
 |some xs=>∃AV:List hR,Vals xs AV/\xs.length<=hZ/\h'=h.push { cls:=.type "tuple",data:=.seq AV.toArray}
def Lay(o:Option (List V))(H H':Hp):Prop:=match o with
 |none=>H'=H
 |some xs=>∃p,H p=none/\H'=upd H p (.tup xs)
def ClO(X:Cx)(d:i8)(e:List hO)(o:Option (List V)):Prop:=∀(x C:hO) (a:List (hO×Obj)) (s:h9) (f:St) (H:Hp) (Q:Bool->h9->Prop) (E:hR->h9->Prop),C∈e->Inv (hand X x) a f H s->(∃b,s.heap.get? x=↑b/\b.cls=.ref C) ->
 (∀c,a3u o s.heap c->Q true { s with heap:=c}) ->
 ii 54 (X.A.mark<|some<|.ref x) (eval d X.env) (λv g=>ii 54 (X.A.mark<|some<|.ref x) (excMatches (.ref x) v) Q E g) E s
def Ze{r:Nat}(e:Gl X f)(g:X.mg f=↑(.ref c))(h:Gl X i)(j:X.mg i=↑(.ref d))(l:l9 X.K (.ref c) [.ref c,.ref d]=↑true)(m:l9 X.K (.ref d) [.ref c,.ref d]=↑true)
 (t:(f==66)=false:=by decide) (u:(i==66)=false:=by decide) :
    ClO X (.Tuple [.Name f D,.Name i F] r pos) [c,d] (some [.ref c,.ref d]):=by
  intro x n p s G H Q E v I ⟨J,y,A⟩ k
  have B:jW 54 s.heap (uV<|.ref x) (.ref n):=A▸(pW y).andThen .now
  refine wpAny_Tuple_spliced ?_
  refine ku<|ze (X:=hand X x) I e g (ku<|ze (X:=hand X x) I h j (lU ?_) u) t
  refine#[by show 2<=hZ;decide,?_]
  have q:∀b o,s.heap.get? b=↑o->(s.heap.push { cls:=.type "tuple",data:=.seq [iD c,iD d].toArray}).get? b=↑o:=λb o z=>ci _ z
  have C:l9 X.K (.ref n) [.ref c,.ref d]=↑true:=by
    rcases List.mem_cons.mp v with z|z
    · rw[z]; exact l
    · rw[List.mem_singleton.mp z]; exact m
  refine(PySem.W.exm_tup2 (λa o z=>q a o<|I.zp a o z) (B.keeps q) (iq _ rfl) C).here ?_
  exact k _ #[[.ref c,.ref d],.cons rfl<|.cons rfl .nil,(by show 2<=hZ;decide),rfl]
def Inv.adopt(I:Inv X a j H s)(f:Cg X a H p)(c:wJ X.prog X.w (upd H p o) s.heap p o):Inv X a j (upd H p o) s:=by
 refine e0a6 f λi k r l n q=>?_;have d:∀b u,H b=↑u->b≠p:=λb u e z=>by rw[z,i]at e;cases e
 have J:=I.step (h':=s.heap) (g':=s.gens) (d':=s.drawn) (t':=s.toks) (ch:=[p]) (H':=upd H p o) (λb g=>by rw[List.mem_singleton.mp g];exact#[l,k,n,q]) (λb o _ _ _ e _=>e) (λb o _ _ _ e _=>#[o.slots,e])
  (λb _ g _ e=>by rw[vB λz=>g<|by rw[z];exact List.mem_singleton.mpr rfl];exact e) (λb o _ e=>#[o,e]) (λb t e=>by rw[vB<|d b _ e];exact e) (λb o u e=>by rw[vB<|d b _ e];exact e) (λb v e=>#[#v[],by rw[vB<|d b _ e,e];simp]) (λm h=>h) (I.wy.Xa i c) I.bare
 exact J
def a1k(i:XK->(St->Prop)->List (hO×Obj)->TS)(j:List hO)(o:Option (List V))(k:hO->TS):TS:=λD d H=>∃e:XK,(∀c f b,e c f b->∃C∈j,c=.ref C)/\(∀g,i e (λh=>h=d) g D d H)/\∀(c:hR)(f:Option hO)(b a:Hp),e c f b->Lay o b a->∀x,k x D d a
def VB(E:X.stack=X.env::X.outer)(Y:ClO X ty Cs o)
 (hb:∀U Φ N,ES (ye X N U Φ) body<|tb U Φ N) (hs:∀x,ES (hand X x) (b0::i)<|th x) :
    PS X (.Try body [.ExceptHandler ↑ty none (b0::i) hp] [] [] tp) (a1k tb Cs o th):=by
  intro d s σ H D I h
  refine e1a3 h λU Z hB hH=>?_
  refine wpAny_Try_except<|jb (hb U _ (X.pn++d) [] s σ H D I.RT<|hB _) (λO g q=>?_)<|λe g q=>?_
  · cases O with
    |next=>obtain⟨a,c,J,z⟩:=q;exact m4 #[a,c,J.Bo,z]
    |brk=>obtain⟨a,c,J,z⟩:=q;exact#[a,c,J.Bo,z]
    |cont=>obtain⟨a,c,J,z⟩:=q;exact#[a,c,J.Bo,z]
    |ret u=>obtain⟨v,a,c,J,r,z⟩:=q;exact#[v,a,c,J.Bo,r,z]
  · obtain⟨aa, k, H1, s0, C', x, c, rfl, J, ab, F, hE⟩ := q
    subst ab
    refine e1a2 (Z _ _ _ hE) λC hC hc=>?_
    cases hc
    have nf:=F.ZY J.ZZ
    refine e2a2 F.fly λB a0 O ae=>?_
    have af:lO B (X.env::X.outer) x (.ref C') a0 g.heap:=by rw[<- E];exact O
    have ag:X.A.frames=↑(X.env::X.outer):=by rw[<- E];exact J.ok.frames
    have ah:X.env.frame=↑X.env.locals:=xC I E
    refine wpAny_looks_onW ag ah af λh4 P ai=>wpAny_landsW P λl m aj=>?_
    have j:g.heap.UpToSlots l:=ai.trans aj
    have G:∀(n:jd)(Q:Nat),B.StaysIn n->g.heap.UpToSlots n->Inv X d k c { g with heap:=n,toks:=Q}:=λn Q st up=>by
      obtain⟨u6,ak⟩:=LD F.un F.wy ae nf st up
      have J6:=J.call (h':=n) (g':=g.gens) (d':=g.drawn) (t':=Q) (ch:=[]) u6 ak F.bare<|λb z=>iv z q0o
      have e6:{ s0 with heap:=n,gens:=g.gens,drawn:=g.drawn,toks:=Q}={ g with heap:=n,toks:=Q}:=by
        have:=F.os
        obtain⟨_,_,_,_,an⟩:=g
        obtain⟨_,_,_,_,ao⟩:=s0
        rw[this]
      rw[<- e6]
      exact J6.a0O
    have I5:=G l g.toks m.1 j
    have R:∀(S:Hp)(t:jd),Lay o c S->Inv X d k S { g with heap:=t}->ii 54 (X.A.mark<|some<|.ref x) (execs (b0::i) X.env) (λf T=>SP X d D f T) 134 { g with heap:=t}:=λS t hY I7=>by
      refine jb (hs x d _ k S D I7.HN<|hH _ _ c S hE hY x) (λO s7 q=>?_) λ_ _ z=>z.elim
      cases O with
      |next=>obtain⟨a,c,J,z⟩:=q;exact#[a,c,J.Be I.ok.hd,z]
      |brk=>obtain⟨a,c,J,z⟩:=q;exact#[a,c,J.Be I.ok.hd,z]
      |cont=>obtain⟨a,c,J,z⟩:=q;exact#[a,c,J.Be I.ok.hd,z]
      |ret u=>obtain⟨v,a,c,J,r,z⟩:=q;exact#[v,a,c,J.Be I.ok.hd,r,z]
    refine wpAny_handleBy_cons (vv<|Y x C' d { g with heap:=l} k c _ _ hC I5.HN m.there λn hL=>?_) (by intro q;cases q)
    refine vc ?_
    cases o with
    |none =>
      subst hL
      refine vd (s:={ g with heap:=n}) m λt L y=>?_
      exact jb (R c t rfl<|G t g.toks L.1<|j.trans y) (λ_ _ z=>z) λ_ _ z=>z.elim
    |some xs =>
      obtain⟨M,r,hz,rfl⟩:=hL
      have kp:∀b o,l.get? b=↑o->(l.push { cls:=.type "tuple",data:=.seq M.toArray}).get? b=↑o:=λb o z=>ci _ z
      have al:=PySem.W.flying_keeps m kp
      refine vd (s:={ g with heap:=l.push { cls:=.type "tuple",data:=.seq M.toArray}}) al λt L y=>?_
      have I7:=G t g.toks L.1<|(j.trans<|nV kp).trans y
      have n5:c l.objs.size=none:=I5.wy.fresh<|hW _
      obtain⟨sl,e7⟩:=y l.objs.size _ (iq _ rfl) (λvs z=>by cases z)
      have I8:=I7.adopt (p:=l.objs.size) (o:=.tup xs) (I5.Ht (hW _) n5) #[hz,M,r,_,e7,rfl,_,rfl]
      exact jb (R _ t #[_,n5,rfl] I8) (λ_ _ z=>z) λ_ _ z=>z.elim
open SX
abbrev yM(K:hJ)(C a:hO):Prop:=iU K (.ref C) (.ref a)=↑false
abbrev RX(X:Cx)(a:List (hO×Obj))(b:XK):Cx:=ye X a b λ_=>True
def Kc{X:Cx}:Passes 114 (RX X b c) c:=by intro a d f g e k I h;obtain⟨C,x,i,rfl,F,j⟩:=h;exact#[a,d,f,g,C,x,i,rfl,I.Xs,trivial,F,j]
structure HD where
 y:Str
 np:Pos
 hp:Pos
 C:hO
 b:iK
 ss:List iK
 th:TS
def HD.stx(h:HD):ExceptHandler:=.ExceptHandler (some<|.Name h.y h.np) none (h.b::h.ss) h.hp
structure HdO(X:Cx)(h:HD):Prop where
 gl:Gl X h.y
 mg:X.mg h.y=↑(.ref h.C)
 ex:iU X.K (.ref h.C) (.ref h.C)=↑true
 ps:∀x,ES (hand X x) (h.b::h.ss) h.th
 db:(h.y==66)=false
def a1l(i:XK->List (hO×Obj)->TS)(g:List HD)(n:Nat):TS:=λD j H=>∃d:XK,(∀c e b,d c e b->∃h∈g,c=.ref h.C)/\(∀f,i d f D j H)/\∀(a:St)(e:Option hO)(b:Hp),a.length=n->∀h∈g,d (.ref h.C) e b->h.th D a b
section
variable{X:Cx}
def NC(I:Inv (hand X x) n J H s)(d:s.heap.get? x=↑v)(i:v.cls=.ref k) :
  ∀j:List HD,(∀h∈j,HdO X h)->(j.Pairwise λa b=>yM X.K b.C a.C)->(∀h∈j,h.C=k->mI 54 (X.A.mark<|some<|.ref x) (.handlers (.ref x) [.ExceptHandler none none (h.b::h.ss) h.hp] X.env) (λr c=>match r with|.ok f=>Q f c|.error e=>cameBackBy 54 X.A X.env E e c) s) ->
   (∃h∈j,h.C=k)->ii 54 X.A (handleBy (.ref x) X.env<|j.map HD.stx) Q E s
 | [],_,_,_,⟨_,z,_⟩=>by cases z
 |h::t,ok,B,fin,⟨g,D,l⟩=>by
  have o:=ok h ic;have p:jW 54 s.heap (uV<|.ref x) (.ref k):=i▸(pW d).andThen .now;show ii _ _ (handleBy (.ref x) X.env (.ExceptHandler (some<|.Name h.y h.np) none (h.b::h.ss) h.hp::t.map HD.stx)) _ _ _;refine wpAny_handleBy_cons (vv<|ze I o.gl o.mg ?_ o.db) (by intro q;cases q);by_cases e:h.C=k
  ·have f:=fin h ic e;subst e;exact(uK (λa o z=>I.zp a o z) p o.ex).here f
  ·have gt:g∈t:=(List.mem_cons.mp D).resolve_left λw=>e<|w▸l;obtain⟨F,G⟩:=List.pairwise_cons.mp B;have u:=F g gt;rw[l]at u;exact(uK (λa o z=>I.zp a o z) p u).here<|NC I d i t (λa m=>ok a<|ij _ m) G (λa m=>fin a<|ij _ m) #[g,gt,l]
def VC(l:List HD)(O:l≠[])(m:X.stack=X.env::X.outer)(ok:∀h∈l,HdO X h)(ns:l.Pairwise λa b=>yM X.K b.C a.C)
 (hb:∀L p,ES (RX X p L) body<|tb L p):PS X (.Try body (l.map HD.stx) [] [] tp) (a1l tb l X.N.length):=by
  intro i s σ H D I h
  obtain⟨L,P,hB,hH⟩:=h
  obtain⟨Q,R,rfl⟩:∃Q R,l=Q::R:=by
    cases l with
    |nil=>exact iv rfl O
    |cons a b=>exact#[a,b,rfl]
  refine wpAny_Try_except<|jb (hb L (X.pn++i) [] s σ H D I.RT<|hB _) (λt f q=>?_)<|λe f q=>?_
  · cases t with
    |next=>obtain⟨c,d,J,z⟩:=q;exact m4 #[c,d,J.Bo,z]
    |brk=>obtain⟨c,d,J,z⟩:=q;exact#[c,d,J.Bo,z]
    |cont=>obtain⟨c,d,J,z⟩:=q;exact#[c,d,J.Bo,z]
    |ret u=>obtain⟨v,c,d,J,r,z⟩:=q;exact#[v,c,d,J.Bo,r,z]
  · obtain⟨S, n, H1, s0, C', x, d, rfl, J, _, F, hE⟩ := q
    have nf:=F.ZY J.ZZ
    obtain⟨B,a0,t,T⟩:=F.fly
    have U:lO B (X.env::X.outer) x (.ref C') a0 f.heap:=by rw[<- m];exact t
    have W:X.A.frames=↑(X.env::X.outer):=by rw[<- m];exact J.ok.frames
    have Y:X.env.frame=↑X.env.locals:=xC I m
    refine wpAny_looks_onW W Y U λh4 w Z=>wpAny_landsW w λM o aa=>?_
    have k:f.heap.UpToSlots M:=Z.trans aa
    have y:∀(j:jd)(E:Nat),B.StaysIn j->f.heap.UpToSlots j->Inv X i n d { f with heap:=j,toks:=E}:=λj E st up=>by
      obtain⟨u6,ab⟩:=LD F.un F.wy T nf st up
      have J6:=J.call (h':=j) (g':=f.gens) (d':=f.drawn) (t':=E) (ch:=[]) u6 ab F.bare<|λb z=>iv z q0o
      have e6:{ s0 with heap:=j,gens:=f.gens,drawn:=f.drawn,toks:=E}={ f with heap:=j,toks:=E}:=by
        have:=F.os
        obtain⟨_,_,_,_,ah⟩:=f
        obtain⟨_,_,_,_,ai⟩:=s0
        dsimp only at this ⊢
        rw[this]
      rw[<- e6]
      exact J6.a0O
    have I5:=(y M f.toks o.1 k).HN (x:=x)
    obtain⟨ob,ae,G⟩:=o.there
    obtain⟨g,hg,hc⟩:=P _ _ _ hE
    have hc:g.C=C':=by cases hc;rfl
    refine NC (s:={ f with heap:=M}) I5 ae G (Q::R) ok ns (λh hm e=>?_) #[g,hg,hc]
    refine vc<|vd (s:={ f with heap:=M}) o λj af ag=>?_
    have I6:=(y j f.toks af.1<|k.trans ag).HN (x:=x)
    refine jb ((ok h hm).ps x i _ n d D I6<|hH n _ d I5.len h hm<|by rw[e];exact hE) (λt s7 q=>?_) λ_ _ z=>z.elim
    cases t with
    |next=>obtain⟨c,d,J,z⟩:=q;exact#[c,d,J.Be I.ok.hd,z]
    |brk=>obtain⟨c,d,J,z⟩:=q;exact#[c,d,J.Be I.ok.hd,z]
    |cont=>obtain⟨c,d,J,z⟩:=q;exact#[c,d,J.Be I.ok.hd,z]
    |ret u=>obtain⟨v,c,d,J,r,z⟩:=q;exact#[v,c,d,J.Be I.ok.hd,r,z]
end
end L2
namespace WL
variable[L2.GX]
open PySem L2
open Rep (rp)
open Ow (sl)
open Sls (rel)
structure KS where
 y:Str
 C:hO
 s:Str
 np:Pos
 hp:Pos
 q:Pos
 r:Pos
 z:Pos
 k:Nat
def KS.hd(x:Str)(i:Nat)(c:KS):HD:=#[c.y,c.np,c.hp,c.C,.Assign [.Name x c.q] (.Constant (.str c.s) c.k c.r) c.z,[],Oh (tC<|.str c.s)<|CF i]
structure Xh(K:hJ)(mg:Str->Option hR)(y:Str)(C:hO):Prop where
 m:mg y=↑(.ref C)
 x:iU K (.ref C) (.ref C)=↑true
def RY{K:hJ}:∀{d:List KS},(∀c∈d,iU K (.ref c.C) (.ref c.C)=↑true)->(d.Pairwise λa b=>yM K b.C a.C)->∀a∈d,∀b∈d,a.C=b.C->a=b
 | [],_,_,_,h,_,_,_=>by cases h
 |c::t,k,j,a,f,b,l,e=>by
  have g:∀{a b:KS},a∈c::t->yM K b.C a.C->a.C≠b.C:=λ{a b} f n z=>by have h:iU K (.ref b.C) (.ref a.C)=↑false:=n;rw[<- z,k a f]at h;cases h
  obtain⟨i,m⟩:=List.pairwise_cons.mp j;rcases List.mem_cons.mp f with x|x<;>rcases List.mem_cons.mp l with y|y
  ·rw[x,y]
  ·exact iv (x▸e)<|g ic<|i b y
  ·exact iv (y▸e).symm<|g ic<|i a x
  ·exact RY (λc o=>k c<|ij _ o) m a x b y e
section
variable{X:Cx}{E:XK}{T:hO}{ms:List Nat}{n:Nat}{D D' D1 D0 PO:Type}[Sls D][Sls D'][Sls D1][Sls D0][Sls PO]
def ND(p:List KS)(i:Nat)[A:At i D1 Str D0][J:Pj D1 PO n] 
 (I:p≠[]) (dp:QY PO ms n) (L:X.stack=X.env::X.outer) (hX:∀c∈p,Xh X.K X.mg c.y c.C/\Gl X c.y/\(c.y==66)=false) (ns:p.Pairwise λa b=>yM X.K b.C a.C) (hN:X.N.Nodup) (hi:X.N[i]?=↑x) (hx:Loc X.env.scope x) (hf:X.fn x=true\/X.env.scope.names.lookup x=some .local) (hn:PE X 161 (v9 i))
 (M:∀w f,SW (RX X f w) w T ms n body wb) :
    SW X E T ms n [.Try body ((p.map<|KS.hd x i).map HD.stx) [] [] tp,.Return (some<|.Name x p1) pos]
      (λ(d:D)(_:D'->Prop)(r:Str->PO->Prop) _=>wb d (λO=>r (A.get O)<|J.pj O) r λC g=>∃c∈p,C=c.C/\r c.s g):=by
  have il:i<X.N.length:=(List.getElem?_eq_some_iff.mp hi).1
  have ok:∀h∈p.map (KS.hd x i),HdO X h:=λh P=>by
    obtain⟨c,t,rfl⟩:=List.mem_map.mp P
    obtain⟨x1,x2,x3⟩:=hX c t
    exact#[x2,x1.m,x1.x,λx'=>xS<|zN (X:=hand X x') hN hi hx Cd rfl hf,x3]
  refine#[_,wK (VC (tb:=λw f=>(M w f).choose) (p.map<|KS.hd x i) (λz=>I<|List.map_eq_nil_iff.mp z) L ok (List.pairwise_map.mpr ns)<|λw f=>(M w f).choose_spec.1)<|xS<|Ce hn,λd F R Q H Kn r Ke En s hw kn S ke=>?_]
  have U:∀{o:St} {j:Hp} {k l:Rg} {g:PO} {c:Str},o.length=X.N.length->r c g->Ch T F R H k l j->wG T k l j g (Q.take n)->Up (v9 i) En (o.set i<|some<|.str c) j:=λ{o j k l g c} W Y Z st =>
    #[.str c,mZ (by rw[W];exact il),S c g (.str c) (λ_=>False) k l j Y (Z.less λa h=>h.elim (λz=>z.elim) id) st #[#[λ_ z=>z,_,rfl,rfl],λ_ z=>z.elim,λ_ z=>z.elim,λz=>z]]
  refine#[λc _ j=>∃C g k l,c=.ref C/\(∃c∈p,C=c.C/\r c.s g)/\Ch T F R H k l j/\wG T k l j g (Q.take n),?_,λf=>?_,λo ox j W h P=>?_]
  · rintro c ox j ⟨C, g, k, l, rfl, ⟨c, t, e, _⟩, _⟩
    exact#[_,List.mem_map.mpr #[c,t,rfl],by rw[e];rfl]
  · refine(M _ f).choose_spec.2 d F R Q H _ r _ _ s hw (λO F1 R1 H1 ab q c1 s1 g1 => ?_) S λC y g k l j q c s' => #[C, g, k, l, rfl, q, c, s']
    obtain⟨v,G1,G2,t1,t2,⟨_,u,rfl,t3⟩,_⟩:=A.take s1.rel
    obtain⟨G,j1,B⟩:=wN (PO:=PO) s1
    exact#[u,t1,S _ _ u (λ_=>False) G R1 H1 q (c1.less λa h=>h.elim (λz=>z.elim)<|j1 a) ⟨dp.dp g1 B.rel,B.sub,B.xP,B.tab,B.wx,B.wd⟩ ⟨⟨λ_ z=>z,u,rfl,t3⟩,λ_ z=>z.elim,λ_ z=>z.elim,λz=>z⟩]
  · obtain⟨c, t, rfl⟩ := List.mem_map.mp P
    rintro⟨C,g,k,l,e,⟨c',aa,e',Y⟩,Z,st⟩
    have ec:c.C=c'.C:=by cases e;exact e'
    have:=RY (λc t=>(hX c t).1.x) ns c t c' aa ec
    subst this
    exact U W Y Z st
end
end WL
namespace WL
open PySem L2
open Rep (rp)
open Ow (sl)
open Sls (rel)
open Rep (rp)
open Ow (sl)
open Sls (rel)
instance:Y5 Bool "bool" true:=#[λ{K R H x v} h=>by
 have h:v=V.bl x:=h;subst h
 exact#[_,zP.bl x,by rfl]]
instance{α β:Type}[Rep α][Rep β]:Y5 (α×β) "tuple" true:=#[λ{K R H x v} h=>by
 obtain⟨a,u,w,rfl,_,h3,_⟩:=h
 exact#[_,zP.tup h3,by rfl]]
section
variable{X:Cx}{E:XK}{T:hO}{D α β:Type}[Sls D][Rep α][Rep β]{pos:Pos}
def VD{a:i8}{p:Pos}{c:Wf D (α×β) D}(g:Gl X "len")(h:X.mg "len"=none)(i:EW X E T a c)(e:hV [a] X.env=78::hV [] X.env:=by rfl) :
  EW X E T (.Call (.Name "len" p) [a] [] pos) (cK c λ(f:Int->D->Prop) _ b=>f 2 b):=by
 refine e1a2 i λI j k=>?_;refine#[_,xk yb g h mY (vI j vU e) (he:=e),λd F R l H f m Q s n o r=>k d F R l H _ m _ s n (λx b u t y H1 z A B C=>?_) r];obtain⟨q,v,w,rfl,_,G,J,L⟩:=C;exact#[_,_,rfl,.inr<|zX.of G,o _ b _ t y H1 z A B rfl]
end
variable[L2.GX]
structure T3(α β γ:Type) where
 a:α
 b:β
 c:γ
instance{α β γ:Type}[Ow α][Ow β][Ow γ]:Ow (T3 α β γ):=#[λF R H x v=>∃p u1 u2 u3 F1 F2 F3,v=↑(.ref p)/\¬R p/\H p=↑(.tup [u1,u2,u3])/\Fp F F1 F2 F3/\sl F1 R H x.a ↑u1/\sl F2 R H x.b ↑u2/\sl F3 R H x.c ↑u3,
 λh e s n=>by
  obtain⟨p,u1,u2,u3,F1,F2,F3,h1,h2,h3,t,g1,g2,g3⟩:=h
  exact#[p,u1,u2,u3,F1,F2,F3,h1,(e.wide s).not h2 h3,e.keep p _ (λz=>h2<|s p z) h3,t,Ow.st g1 e s λa z=>n a<|(t.all a).mpr<|.inl z,Ow.st g2 e s λa z=>n a<|(t.all a).mpr<|.inr<|.inl z,Ow.st g3 e s λa z=>n a<|(t.all a).mpr<|.inr<|.inr z],
 λh e=>by
  obtain⟨p,u1,u2,u3,F1,F2,F3,h1,h2,h3,t,g⟩:=h
  exact#[p,u1,u2,u3,F1,F2,F3,h1,h2,h3,#[λa=>(e a).symm.trans (t.all a),t.Jq,t.KR,t.KU],g]]
section
variable{D PO τ:Type}[Sls D][Sls PO][Ow τ]{α β γ:Type}[Ow α][Ow β][Ow γ]
def VE{x1}(i j k:Nat)[Sls D'][Sls P][Sls Q][Sls S][Hs α][Hs β][Hs γ][g:At i D α P][l:At j P β Q][t:At k Q γ S][J:Pj S PO n](u:PE X (.Name x v) (v9 i))(w:PE X (.Name y m) (v9 j))(A:PE X (.Name z e) (v9 k))
 (h1:hV [.Name x v,.Name y m,.Name z e] X.env=(false,eval (.Name x v) X.env)::hV [.Name y m,.Name z e] X.env:=by rfl) (h2:hV [.Name y m,.Name z e] X.env=(false,eval (.Name y m) X.env)::hV [.Name z e] X.env:=by rfl) (h3:hV [.Name z e] X.env=(false,eval (.Name z e) X.env)::hV [] X.env:=by rfl) :
    S1 X E T ms n (.Return (some<|.Tuple [.Name x v,.Name y m,.Name z e] x1 p4) pos) (λ(d:D)(_:D'->Prop)(U:T3 α β γ->PO->Prop) _=>U #[g.get d,l.get<|g.hole d,t.get<|l.hole<|g.hole d]<|J.pj<|t.hole<|l.hole<|g.hole d):=by
  refine#[_,Ce<|Qg<|vI u (vI w (vI A vU h3) h2) h1,λd F R σ H Kn U Ke En s hw kn kr ke=>?_]
  refine e3a4 (g.take s.rel) λ_ G1 G2 W b g1 r1=>?_
  obtain⟨B,rfl⟩:=Hs.has g1
  refine e3a4 (l.take r1) λ_ _ _ Y _ g2 r2=>?_
  obtain⟨C,rfl⟩:=Hs.has g2
  refine e3a4 (t.take r2) λ_ _ _ Z _ g3 _=>?_
  obtain⟨I,rfl⟩:=Hs.has g3
  refine#[B,W,C,Y,I,Z,(by show 3<=hZ;decide),λp hp=>?_]
  refine e0a3 (s.new (.tup [B,C,I]) hp) λL c1 n1=>?_
  refine e3a4 (g.take L.rel) λv1 o E1 b1 b k1 q1=>?_
  refine e3a4 (l.take q1) λv2 q E2 b2 c k2 q2=>?_
  refine e3a4 (t.take q2) λv3 r E3 b3 f k3 q3=>?_
  rw[W]at b1
  rw[Y]at b2
  rw[Z]at b3
  cases b1
  cases b2
  cases b3
  refine e1a2 (J.le q3) λG l1 l2=>?_
  have i1:∀a,o a->F a:=λa h=>(b.all a).mpr<|.inl h
  have i2:∀a,q a->F a:=λa h=>(b.all a).mpr<|.inr<|(c.all a).mpr<|.inl h
  have i3:∀a,r a->F a:=λa h=>(b.all a).mpr<|.inr<|(c.all a).mpr<|.inr<|(f.all a).mpr<|.inl h
  have M:∀a,G a->F a:=λa h=>(b.all a).mpr<|.inr<|(c.all a).mpr<|.inr<|(f.all a).mpr<|.inr<|l1 a h
  have dG:∀a,o a\/q a\/r a->¬G a:=λa h z=>by
    have N:=l1 a z
    rcases h with h|h|h
    · exact b.yU a h<|(c.all a).mpr<|.inr<|(f.all a).mpr<|.inr N
    · exact c.yU a h<|(f.all a).mpr<|.inr N
    · exact f.yU a h N
  have O:∀a,o a\/q a\/r a->F a:=λa h=>h.elim (i1 a) λh=>h.elim (i2 a)<|i3 a
  exact kr _ _ (.ref p) (λa=>o a\/q a\/r a) G R _ hw #[c1.keep,λ_ h=>.inl h,λa h=>.inl<|h.elim (O a)<|M a,λ_ h _=>h] #[l2,λa h=>s.sub a<|M a h,L.xP,L.tab,s.wx,λh=>s.wd<|M T h]
    #[#[p,B,C,I,o,q,r,rfl,n1,vF,#[λ_=>Iff.rfl,λa h k=>b.yU a h<|(c.all a).mpr<|.inl k,λa h k=>b.yU a h<|(c.all a).mpr<|.inr<|(f.all a).mpr<|.inl k,λa h k=>c.yU a h<|(f.all a).mpr<|.inl k],k1,k2,k3],λa h=>s.sub a<|O a h,λa h z=>dG a h z,λh=>s.wd<|O T h]
def VF(i j k:Nat){σ1 YV σ3 D0 D1 D2 D3 D4 D5:Type}[Ow σ1][Ow YV][Ow σ3][Sls D0][Sls D1][Sls D2][Sls D3][Sls D4][Sls D5][A:At i D σ1 D0][U:Pt i D0 α D1][A2:At j D1 YV D2][U2:Pt j D2 β D3][A3:At k D3 σ3 D4][U3:Pt k D4 γ D5][J:Pj D PO n]{we:Wf D (T3 α β γ) D}
 (hp:PG X tg (X6 X.K 3<|GJ (CF i)<|GJ (CF j)<|GJ (CF k) X5)) (hi:i∉ms) (hj:j∉ms) (hk:k∉ms) (he:EO X E T e we)
 (hb:∀{te:TE} {t:TG},PE X e te->PG X tg t->PS X (.Assign [tg] e pos) (Oh te t):=by intro te t h1 h2;exact ET h1 h2) :
    S1 X E T ms n (.Assign [tg] e pos) (cS we J.pj λ(Kn:D5->Prop)(Kr:τ->PO->Prop) x d1=>Kn<|U3.put (A3.hole<|U2.put (A2.hole<|U.put (A.hole d1) x.a) x.b) x.c):=by
  refine e1a2 he λt h1 h2=>?_
  refine#[_,hb h1 hp,λd F R σ H Kn Kr Ke En s hw kn kr ke=>h2 d F R σ H _ _ _ s hw (λx d1 v F1 F2 R1 H1 q1 c1 s1 m1=>?_) λC y d' F' R' H' q c s'=>?_]
  · obtain⟨p, u1, u2, u3, G1, G2, G3, e1, e2, e3, t3, g1, g2, g3⟩ := m1.is
    cases e1
    have j1:∀a,G1 a->F1 a:=λa h=>(t3.all a).mpr<|.inl h
    have j2:∀a,G2 a->F1 a:=λa h=>(t3.all a).mpr<|.inr<|.inl h
    have j3:∀a,G3 a->F1 a:=λa h=>(t3.all a).mpr<|.inr<|.inr h
    refine e1a2 (Fi (i:=i) s1 (x:=x.a) (v:=u1) (F1:=G1) #[g1,λa h=>m1.sub a<|j1 a h,λa h z=>m1.yU a (j1 a h) z,λh=>m1.tab<|j1 T h]) λL1 k1 f1=>?_
    refine e1a2 (Fi (i:=j) f1 (x:=x.b) (v:=u2) (F1:=G2) #[g2,λa h=>m1.sub a<|j2 a h,λa h z=>(k1 a z).elim (λq=>t3.Jq a q h)<|m1.yU a<|j2 a h,λh=>m1.tab<|j2 T h]) λL2 k2 f2=>?_
    refine e1a2 (Fi (i:=k) f2 (x:=x.c) (v:=u3) (F1:=G3) #[g3,λa h=>m1.sub a<|j3 a h,λa h z=>(k2 a z).elim (λq=>t3.KU a q h) λz=>(k1 a z).elim (λq=>t3.KR a q h)<|m1.yU a<|j3 a h,λh=>m1.tab<|j3 T h]) λL3 k3 f3=>?_
    exact#[p,[u1,u2,u3],rfl,zX.of e3,rfl,u1,[u2,u3],rfl,u2,[u3],rfl,u3,[],rfl,rfl,kn _ L3 R1 H1 _ q1 (c1.less λa h=>(k3 a h).elim (λq=>.inl<|j3 a q) λh=>(k2 a h).elim (λq=>.inl<|j2 a q) λh=>(k1 a h).elim (λq=>.inl<|j1 a q) .inr) f3<|((Ag.set hi).trans<|Ag.set hj).trans<|Ag.set hk]
  · refine e1a2 (wN (PO := PO) s') λG g1 g2 => ?_
    exact ke C y _ G R' H' q (c.less g1) g2
end
def BW(X:Cx)(T:hO)(c:List iK){D:Type}[Sls D](w:D->(D->Prop)->72->Prop):Prop:=∀i j h,∃t,ES (ye X h i j) c t/\∀(d:D)(F R:Rg)(b:St)(H:Hp)(k:D->Prop)(l:hO->D->Prop)(m:Ends),j b->wG T F R H d b->w d k l ->
 (∀e f g a,k e->Ch T F R H f g a->wG T f g a e b->m.nx b a)->(∀C y e f g a,l C e->Ch T F R H f g a->wG T f g a e b->i (.ref C) ↑y a)->t m b H
section
variable{D PO τ τ1:Type}[Sls D][Sls PO][Ow τ][Ow τ1]
def VG{h:Pos}{n:List i8}(i:Nat){J P o B E y:Type}[Sls J][Sls P][Sls o][Sls B][Sls E][Sls y][Lb y τ1<|Bd C k×o]{r:B->y->o->D}{L:D->(P->B->y->Prop)->72->Prop}
 {M:Wf (Bd C k×P) τ1 (Bd C k×o)} [A0:At i D (Bd C k) J] [A:At i B (Bd C k) E] [U:Pt i E (Bd C k) B]
 (O:∀a b c d u,(zv a b c d u k).lookup m=none) (Q:∀g j f,LH (ye X f g j) g T (e::n) r L)
 (S:∀(g:XK)(j:St->Prop) (f:List (hO×qY)) {t:TA},PA (ye X f g j) (e::n) t->PE (ye X f g j) 167 (RU 114 (ye X f g j) C m (zh T M) [] g (v9 i) t))
 (W:kg 167 none h.line X.env=pure false:=by rfl) :
    BW X T [.Expr 167 h] (cN L M A.get λb l p=>r (U.put (A.hole b) p.1) l p.2):=by
  intro g j f
  refine e1a2 (Q g j f) λtr Y Z=>?_
  refine#[_,xS<|CD (S g j f Y) W,λd G R σ H Kn Ke En F s hw kn ke=>#[a1j F,?_]]
  refine J4 i O Z d G R σ H (λ_ I=>Kn I) Ke _ s hw (λx I v F1 F2 R' H' q c s' m=>?_) ke
  exact kn I F2 R' H' q (c.less λa z=>.inr z) s'
def a1n{j:Pos}{n:List i8}(i:Nat){G P s B F y:Type}[Sls G][Sls P][Sls s][Sls B][Sls F][Sls y][Lb y τ1<|Bd C q×s]{v:B->y->s->D}{H:D->(P->B->y->Prop)->72->Prop}
 {I:Wf (Bd C q×P) τ1 (Bd C q×s)} [A0:At i D (Bd C q) G] [A:At i B (Bd C q) F] [U:Pt i F (Bd C q) B] {k:Nat} {L:List Str} {M:Sem Bool}
 (h:Fm X.prog X.w X.K X.mg X.base T C m L I k) (N:wZ k X.A) (O:BH X.K C) (Q:∀(o:XK)(r:St->Prop) (g:List (hO×qY)),PE (ye X g o r) (.Name x z)<|v9 i) (R:∀(o:XK)(r:St->Prop) (g:List (hO×qY)),LH (ye X g o r) o T (e::n) v H) (S:∀a b c d u,(zv a b c d u q).lookup m=none:=by intros;rfl)
 (W:hV (e::n) X.env=71::hV n X.env:=by rfl) (Y:(jz pos<|hV n X.env).any (·.1)=false:=by rfl)
 (Z:eval 91 X.env=(do
 let J <- eval (.Name x z) X.env
 nE apos.atName
 let (f,first) <- lw [J] (nc J m M)
 oa pos f first (jz pos (hV (e::n) X.env)) (nI pos (lx [] X.env))):=by rfl)
 (hs:kg 91 none j.line X.env=pure false:=by rfl) :
    BW X T [.Expr 91 j] (cN H I A.get λb l p=>v (U.put (A.hole b) p.1) l p.2) :=
  VG i S R (λo r g {t} b1=>RV (X:=ye X g o r) (CX:=wh X.prog X.w) (E:=o) (Q o r g) O h.me h.ok N h.bd .nil b1 W Y Z) hs
def VH{j a:List iK}{z:List hO}{o:Option (List V)}{wb:D->(D->Prop)->72->Prop}{A:D->(D->Prop)->99->87->Prop}(B:X.stack=X.env::X.outer)(G:ClO X ty z o)
 (I:BW X T j wb) (w:∀k,SW (hand X k) E T ms n (b0::a) A) :
    S1 X E T ms n (.Try j [.ExceptHandler ↑ty none (b0::a) hp] [] [] tp) (cT wb A z):=by
  refine#[_,VB (tb:=λJ L b=>(I J L b).choose) (th:=λk=>(w k).choose) B G (λJ L b=>(I J L b).choose_spec.1)<|λk=>(w k).choose_spec.1,λd F R r H Kn Kr Ke M s hw kn kr ke=>?_]
  refine#[λc _ l=>∃C i f h,c=.ref C/\C∈z/\A i Kn Kr Ke/\Ch T F R H f h l/\wG T f h l i r,?_,λb=>?_,?_]
  · rintro c ox l ⟨C, i, f, h, e, m, _⟩
    exact#[C,m,e]
  · exact(I _ _ b).choose_spec.2 d F R r H _ _ M rfl s hw (λi f h l q c N => kn i f h l r q c N<|Ag.refl _ _) λC y i f h l q c N => #[C, i, f, h, rfl, q.1, q.2, c, N]
  · rintro c ox l aa ⟨C, i, f, h, e, m, O, t, st⟩ hL k
    have go:∀{u:Hp},Ch T F R H f h u->wG T f h u i r->(w k).choose M r u:=λ{u} t st=>(w k).choose_spec.2 i f h r u Kn Kr Ke M st O (λd1 F1 R1 H1 P q c s1 g=>kn d1 F1 R1 H1 P q (Ch.trans s st.tab t c) s1 g) (λx Q v M1 M2 S U W Y Z n4=>kr x Q v M1 M2 S U W (Ch.trans s st.tab t Y) Z n4) λC y Q F4 S U W Y Z=>ke C y Q F4 S U W (Ch.trans s st.tab t Y) Z
    cases o with
    |none =>
      rw[hL]
      exact go t st
    |some xs =>
      obtain⟨p,hp,rfl⟩:=hL
      refine e0a3 (st.new (.tup xs) hp) λs3 c3 _=>?_
      exact go (Ch.trans s st.tab t c3) s3
end
structure a1o(q:Cq)(C1 C2:hO)(y1 y2:Str):Prop where
 m1:q.mg y1=↑(.ref C1)
 m2:q.mg y2=↑(.ref C2)
 x1:l9 q.K (.ref C1) [.ref C1,.ref C2]=↑true
 x2:l9 q.K (.ref C2) [.ref C1,.ref C2]=↑true
end WL
namespace L2
variable[L2.GX]
open PySem PySem.Spec PyProof.Rows
def Bp:Slot "wrapper_descriptor" "__get__" "wrapper_descriptor.__get__":=.of (owner:="wrapper_descriptor") (n:="__get__") (by rw[oB,mu];kernel_rfl) q0s q0s q0s
 (.inl<|by kernel_rfl) (by rw[tU];kernel_rfl)
def Ik:tR uC "wrapper_descriptor.__get__"=↑Builtin.«wrapper_descriptor.__get__»:=entryFor_of_tree (by kernel_rfl)
def Kd(a b c:hR):si "wrapper_descriptor.__get__" #[[a,b,c],[]]:=by unfold si;kernel_rfl
def AE:uV (.builtin "ValueError.__init__")=pure (.type "wrapper_descriptor"):=by kernel_rfl
noncomputable def a1p(obj cls:hR)(name:Str):Sem Unit:=do
  rule "descr.get.wrong-instance"
  raiseError "TypeError" s!"descriptor '{name.toString}' for '{← typeName cls}' objects doesn't apply to a '{← typeNameOf obj}' object"
def O7(x C:hO):Builtin.«wrapper_descriptor.__get__» #[[.builtin "ValueError.__init__",.ref x,.ref C],[]]=((isInstance (.ref x) (.type "ValueError") >>= λb=>if (!b)=true then a1p (.ref x) (.type "ValueError") "__init__" else pure ()) >>= λ_=>newFields "method-wrapper" [.builtin "ValueError.__init__",.ref x] >>= ret):=by kernel_rfl
section
variable{prog:iT}{w:ji}{A:jL}{E:hR->h9->Prop}{h:jd}{g:Array pM}{d:Drawn}{t:Nat}{os:OsState}{so D x C:hO}{ox:Obj}{l0 l:List hR}{K:hJ}
def FH(c:h.get? x=↑ox)(b:ox.cls=.ref C)(a:jW (ik prog w) h (isSubtype (.ref C)<|.type "ValueError") true)
 (e:R (.ok<|.ret<|.ref h.objs.size) #[h.push 108,g,d,t,os]) :
    mI (ik prog w) A (.call (.builtin "wrapper_descriptor.__get__") #[[.builtin "ValueError.__init__",.ref x,.ref C],[]]) R 145:=by
  have f:(145:h9).TypeIs (.builtin "ValueError.__init__") "wrapper_descriptor":=by first|exact jX AE|exact AE
  refine oi Bp.plain Ik<|Bp.check _ _ _ _ _ _ _ _ f (Kd _ _ _) ?_
  rw[O7]
  refine am<|am ?_
  refine am<|wpAny_typeOf_ref c ?_
  rw[b]
  refine PySem.W.Looks.at a ?_
  exact ap<|am<|je<|ap e
def Kf(a:h.get? so=↑(pX D x C))(c:jW (ik prog w) h (opaqueClassAbove<|.ref C) none)(j:jW (ik prog w) h (mroOf<|.ref C) l0)(k:(l0.dropWhile (· != .ref D)).drop 1=l)(X:K.In h)
 (m:uL K "__init__" l=↑129) (n:h.get? x=↑ox) (e:ox.cls=.ref C) (b:jW (ik prog w) h (isSubtype (.ref C)<|.type "ValueError") true) (f:x≠C)
 (o:Q (.done<|.ret<|.ref h.objs.size) #[h.push 108,g,d,t,os]) :
    ii (ik prog w) A (Builtin.«super.__getattribute__» #[[.ref so,.str "__init__" y],[]]) Q E 145:=by
  have lk:=Bp.lookup
  have p:(iD x==iD C)=false:=by simp[f]
  have q:(("__init__":Str)==107)=false:=by decide
  have r:(#v[.ref D,.ref x,.ref C]:Array hR)[0]?=↑(.ref D):=rfl
  have s:(#v[.ref D,.ref x,.ref C]:Array hR)[1]?=↑(.ref x):=rfl
  have u:(#v[.ref D,.ref x,.ref C]:Array hR)[2]?=↑(.ref C):=rfl
  have i:(pX D x C).data=.fields #v[.ref D,.ref x,.ref C]:=rfl
  have v:=AE
  repeat (first|(with_reducible refine ju a i r ?_)|(with_reducible refine ju a i s ?_)|(with_reducible refine ju a i u ?_)|(with_reducible refine ks_wpAny_notOpaque c ?_)|(with_reducible refine PySem.W.Looks.at j ?_;rw[k])|(refine ks_forIn_along X (λ_ _=>rfl) rfl ?_ m)|(with_reducible refine ng v ?_)|(simp only[q,p,sD,lN,pP])|wp_step|dsimp only)
  exact FH n e b<|am<|ap<|ap<|ap o
end
section
variable{prog:iT}{w:ji}{A:jL}{E:hR->h9->Prop}{h:jd}{g:Array pM}{d:Drawn}{t:Nat}{os:OsState}
variable{nm q:Str}{C N:hO}{bs bm Em:List hR}{hdct:Bool}{sn:List Str}{sub:List hR}{ab:Bool}{col:Option Bool}{dd:Option hO}{k0 k1 k2 k3 k5:Option hR}{B newId yY:String}
def BZ(F:kE B newId yY Em)(T:tm h Em bm){a:List hR} 
 (i:h.get? C=↑83) (u:h.Ns N v) (y:v "__init__"=↑(.ref n))
 (k:h.get? n=↑z) (l:z.cls=.type "function")
 (D:∀p e,se h p e (.ref C) a ->
 ii (ik prog w) A (call (.ref n) (.ref e::a)) (λr s=>r=.none/\Q (.done (.ret (.ref e))) s) E #[p,g,d,t,os]) (hrest:a.length<=hZ:=by size_fits) :
    ii (ik prog w) A (Builtin.«type.__call__» #[.ref C::a,[]]) Q E 145:=by
  repeat (first|with_reducible refine j5 i ?_|with_reducible refine wpAny_madeBy_exc i ?_|wp_step)
  refine codeAny_call_builtin_code (ot _ F.quiet)<|wpAny_check_new_subT F T i ?_
  refine codeAny_exc_new_subT F T i ?_ hrest
  have j:∀b o,h.get? b=↑o->((h.push 150).push 110).get? b=↑o:=λb o e=>ci _<|ci _ e
  have c:=j _ _ i
  have f:((h.push 150).push
      110).get? (h.objs.size+1)=some
      110:=by heap_get
  have m:(iD C::bm).contains (.ref C)=true:=by simp
  repeat (first|with_reducible refine j5 f ?_|(with_reducible refine q7 c ?_;rw[m])|wp_step)
  refine wpAny_typeLookup_tail c (u.keeps j) (T.keeps j) F.mroIs F.init.lookup ?_
  rw[y]
  refine iX<|am ?_
  refine am<|lA (T:="function") #[_,j _ _ k,l] ?_
  rw[hI q0q]
  refine ap<|am<|jb (D _ (h.objs.size+1) ⟨j,nO<|mr _,h.objs.size,f,nO<|hW _,ci _<|oQ rfl rfl⟩) (λr s G=>?_) λ_ _ x=>x
  obtain⟨rfl,H⟩:=G
  wp_walk
  exact H
def FJ(F:kE B newId yY Em)(T:tm h Em bm){a:List hR} 
 (c:h.get? C=↑83) (k:h.Ns N l) (m:l "__init__"=↑(.ref j))
 (f:h.get? j=↑n) (i:n.cls=.type "function")
 (o:∀b e,se h b e (.ref C) a ->
 ii (ik prog w) (A.under (.builtin "type.__call__" #[.ref C::a,[]])) (call (.ref j) (.ref e::a)) (λr p=>r=.none/\Q (.ref e) p) E #[b,g,d,t,os]) (hrest:a.length<=hZ:=by size_fits) :
    ii (ik prog w) A (call (.ref C) a) Q E 145:=by
  have u:=tc_lookup
  have v:=tc_bind<|.ref C
  refine m8<|m6 ?_
  repeat (any_goals (first|assumption|with_reducible refine j5 c ?_|wp_step))
  refine#[rfl,?_]
  exact codeAny_call_builtin_at (ot _ q0s) entry_typeCall<|wpAny_check_type_call_sub c<|BZ (hrest:=hrest) F T c k m f i λb e s=>o b e s
end
noncomputable def Bq(x:hO):Obj:=108
section
variable{prog:iT}{w:ji}{A:jL}{E:hR->h9->Prop}{h:jd}{g:Array pM}{d:Drawn}{t:Nat}{os:OsState}{so D x C:hO}{ox:Obj}{l0 l:List hR}{K:hJ}
def Cv(a:h.get? so=↑(pX D x C))(f:jW (ik prog w) h (opaqueClassAbove<|.ref C) none)(n:jW (ik prog w) h (mroOf<|.ref C) l0)(o:(l0.dropWhile (· != .ref D)).drop 1=l)(X:K.In h)
 (p:uL K "__init__" l=↑129) (q:h.get? x=↑ox) (i:ox.cls=.ref C) (b:jW (ik prog w) h (isSubtype (.ref C)<|.type "ValueError") true) (j:x≠C)
 (r:Q (.ref h.objs.size,[]) #[h.push<|Bq x,g,d,t+1,os]):ii (ik prog w) A (nc (.ref so) "__init__" y) Q E 145:=by
  have c:=F.ks_slot_super_ga.lookup
  have e:=F.ks_canon_super_ga
  have k:∀s,(#[h,g,d,s,os]:h9).TypeIs (.ref so) "super":=λ_=>#[_,a,rfl]
  refine am<|qj (k _) c ?_
  show ii _ _ (if (Manifest.canonical "super.__getattribute__" != "object.__getattribute__")=true then _ else _) _ _ _
  rw[hI e]
  refine am<|am<|wpAny_mkText<|iX<|am<|lA (k _)<|am<|ng c ?_
  refine am<|ng (show (if onTheHeap (.type "super") then nY (.type "super") "__getattr__" else pure none)=pure none from rfl) ?_
  refine am<|pG<|iX ?_
  refine am<|ng (F.ks_slot_super_ga.bind _) ?_
  refine jb (Q:=λv m=>v=.ref h.objs.size/\m=#[h.push<|Bq x,g,d,t+1,os]) (E:=λ_ _=>False)
    (jl F.ks_slot_super_ga (k _) F.ks_entry_super_ga (Kf a f n o X p q i b j #[_,rfl,rfl,rfl])<|F.ks_gaArgs_super _ _) (λv m u=>?_) λ_ _ z=>z.elim
  obtain⟨rfl,rfl⟩:=u
  exact ap<|ap r
def RZ(h:jd)(e:h.get? q=↑(Bq x)):∃k,(k=Keeper.frame\/k=Keeper.machine\/k=Keeper.boundFrame)/\jW M h (keeperOf<|.ref q) k :=
 #[.machine,.inr<|.inl rfl,(pW (part:=none) e).andThen .now]
variable{nm q:Str}{N:hO}{bs bm Em:List hR}{hdct:Bool}{sn:List Str}{sub:List hR}{ab:Bool}{col:Option Bool}{dd:Option hO}{k0 k1 k2 k3 k5:Option hR}{newId:String}
def DG(F:kE "ValueError" newId "ValueError.__init__" Em){c:List hR} 
 (f:h.get? C=↑83) (i:h.get? x=↑ox) (e:ox.cls=.ref C) (j:Q () 145) :
    ii M A (checkBoundCall "ValueError.__init__" #[.ref x::c,[]]) Q E 145:=by
  simp only[checkBoundCall,F.initKind,F.initRow]
  rw[hI q0q]
  repeat (first|(with_reducible refine j5 i ?_;rw[e])|with_reducible refine j5 f ?_|wp_step)
  refine pI ?_
  rw[show ∀(a b:String)(n:Nat),Bind.check #[.positional,"*","ValueError",.self,[#["args",.varPos,false]]] a b n (List.map (λx=>x.fst) ({ pos:=iD x::c}:Args).kw)=pure () from
    λa b n=>check_star_args _ _ _ _ _ _]
  exact ap j
def VI(F:kE "ValueError" newId "ValueError.__init__" Em){a:List hR}(o:h.get? C=↑83)(e:h.get? p=↑(Bq x))(j:h.get? x=↑ox)(f:ox.cls=.ref C)(k:ox.data=.fields m)(n:m[0]?=↑(.ref s))
 (r:Q .none #[(h.push 150).update x (Obj.mapFields (·.setIfInBounds 0 (.ref h.objs.size))),g,d,t,os]) (c:a.length<=hZ:=by size_fits) :
    ii (ik prog w) A (call (.ref p) a) Q E 145:=by
  refine m8<|m6 ?_
  refine am<|ro e ?_
  refine am<|DG F o j f<|ap #[lJ F.init.plain _,j9 F.initEntry ?_]
  rw[jQ F.init.plain]
  unfold Builtin.«BaseException.__init__»
  dsimp only
  rw[cr q0o]
  have i:0<m.size:=(Array.getElem?_eq_some_iff.mp n).1
  have b:=ci (h:=h) 150 j
  refine am<|je (am<|am<|ju b k n<|am<|nL b k i ?_) (by show a.toArray.size<=hZ;rw[iu];exact c)
  exact sH<|ap r
end
open Builtin Builtin.ObjectAttr
section
variable{prog:iT}{w:ji}{A:jL}{E:hR->h9->Prop}{h:jd}{g:Array pM}{d:Drawn}{t:Nat}{os:OsState}{x C N:hO}{o:Obj}{v:hR}{name:Str}
variable{nm q:Str}{bs bm Em:List hR}{sn:List Str}{sub:List hR}{ab:Bool}{col:Option Bool}{dd:Option hO}{k0 k1 k2 k3 k5:Option hR}{B newId sa owner:String}
def O8(e:StoreFacts B Em sa owner)(f:bm.contains (.type owner)=true)
 (l:h.get? C=↑148) (m:h.get? x=↑o) (n:o.cls=.ref C) (j:Q () 145) :
    ii M A (checkBuiltinCall sa #[[.ref x,a,v],[]]) Q E 145:=by
  have i:(iD C::bm).contains (.type owner)=true:=by rw[uM,f,ts]
  have k:=e.args (.ref x) a v
  simp only[checkBuiltinCall,e.kind,e.split]
  refine am ?_
  repeat (first|(with_reducible refine j5 m ?_;rw[n])|(with_reducible refine q7 l ?_;rw[i])|wp_step)
  cases b:Manifest.signature? sa with
  |none=>exact ap j
  |some c =>
    simp only[si,b]at k
    have p:Bind.checkArgs sa c #[[.ref x,a,v],[]]=pure ():=k
    show ii M A (Bind.checkArgs sa c #[[.ref x,a,v],[]]) Q E _
    rw[p];exact ap j
set_option tactic.hygienic true in
def LU(m:t6 (.ref x) "__setattr__" bm=pure ())
 (P:h.get? C=↑148) (L2:jW (ik prog w) h (nY (.ref C) name) none)
 (l:h.get? x=↑o) (R:o.cls=.ref C) (n:∀c,o.data≠.cls c) (p:o.dict=none)
 (S:∀i r s,h.get? s=none->(∀b u,b≠x->h.get? b=↑u->i.get? b=↑u)->i.get? x=some { cls:=o.cls,dict:=↑s,data:=o.data,slots:=o.slots}->i.Ns1 s (λy=>if y=name then some v else none)->Q (.done<|.ret .none) #[i,g,d,r,os]) :
    ii (ik prog w) A (Builtin.«object.__setattr__» #[[.ref x,.str name Z,v],[]]) Q E 145:=by
  repeat (first|rw[refuse_eq]|(rw[refuseLoop_ref,m])|(with_reducible refine j5 l ?_;rw[R])|with_reducible refine wpAny_mroOf_exc P ?_|(with_reducible refine PySem.W.Looks.at L2 ?_)|wp_step)
  rw[p,cr<|by simp[typeHasDict]]
  split
  · rename_i f
    cases f
  split
  · rename_i c f
    exact iv f<|n c
  · have a : (h.push { cls := .type "dict", data := .dict #v[] }).get? x = some o := ci _ l
    have j:x≠h.objs.size:=iz<|ie l
    refine am<|wpAny_alloc' ?_
    refine am<|wpAny_update' a ?_
    refine ap ?_
    have z:((h.push 131).update x λo=>{ cls:=o.cls,dict:=↑h.objs.size,data:=o.data,slots:=o.slots}).get? h.objs.size
       =some 131 :=
      (qr _ _ _ _ j.symm).trans (oQ rfl rfl)
    have D:((h.push 131).update x λo=>{ cls:=o.cls,dict:=↑h.objs.size,data:=o.data,slots:=o.slots}).Ns h.objs.size (λ_=>none) :=
      #[_,#v[],_,z,rfl,λe T=>iv T q0o,λ_=>rfl]
    refine am<|ap<|am<|wpAny_nsSet1 (tF D) λi k M=>?_
    obtain⟨oD,U,X,F,G,H⟩:=k.count<|Within.cons name v Within.nil
    refine am<|wpAny_lookBehind F (by rw[G];exact pastItsLine_dict<|i9 H<|by rw[iH,nS,jt];lia) ?_
    wp_walk
    refine S i _ h.objs.size (nO<|hW _) (λb u I O=>?_) ?_ k
    · exact(M.2 b<|iz<|ie O).trans<|(qr _ _ _ _ I).trans<|ci _ O
    · refine(M.2 x j).trans (jj _ a ?_)
      have J:=(Heap.get?_some_iff.mp l).2
      obtain⟨oc,od,L,Y⟩:=o
      cases L<;>first|rfl|exact J
def Kg(i:StoreFacts B Em sa owner)(j:bm.contains (.type owner)=true)(k:t6 (.ref x) "__setattr__" bm=pure ())
 (r:h.get? C=↑148) (u:jW (ik prog w) h (nY (.ref C) "__setattr__") (some<|.builtin sa)) (L2:jW (ik prog w) h (nY (.ref C) name) none)
 (l:h.get? x=↑o) (m:o.cls=.ref C) (n:∀c,o.data≠.cls c) (p:o.dict=none)
 (z:∀e a f,h.get? f=none->(∀b s,b≠x->h.get? b=↑s->e.get? b=↑s)->e.get? x=some { cls:=o.cls,dict:=↑f,data:=o.data,slots:=o.slots}->e.Ns1 f (λy=>if y=name then some v else none)->Q () #[e,g,d,a,os]) :
    ii (ik prog w) A (setAttr (.ref x) name v) Q E 145:=by
  have I:=i.slot.bind<|.ref x
  repeat (any_goals (first|assumption|(with_reducible refine j5 l ?_;rw[m])|(with_reducible refine PySem.W.Looks.at u ?_)|wp_step))
  refine oi i.slot.plain i.entry<|O8 i j r l m<|LU k r L2 l m n p λe a f D F G H=>?_
  repeat (any_goals (first|assumption|wp_step))
  exact z e a f D F G H
end
def ExI(C x:hO)(d:Option hO)(h:jd):Prop:=∃(a:hO),h.get? x=some { cls:=.ref C,dict:=d,data:=.fields #v[.ref a,.none,.none,.none,.bool false,.none]}
noncomputable def EI(C x:hO)(d:Option hO):HO:=.ext<|ExI C x d
def Il{C:hO}(I:Inv X a c H s)(h:H x=↑(EI C x b)):ExI C x b s.heap:=(I.wy x _ h).1
def LV{C:hO}(q:ExI C x b h):wJ P w H h x (EI C x b) :=
 #[q,e1a1 q λ_ e=> #[_,e],λf g a=>e1a1 a λc d k=>#[c,k _ d]]
def cw_mw(i:hV (e::f) b=(false,eval e b)::hV f b)(c:(jz pos<|hV f b).any (·.1)=false)
 (h:ii M B (uP<|jz pos<|hV (e::f) b) (λj d=>d.heap.get? q=↑(Bq a)/\ii M B (call (.ref q) j) Q g d) g k):ii M B (oa pos (.ref q) [] (jz pos<|hV (e::f) b) []) Q g k:=by
  rw[i]at h ⊢
  exact pU (P:=λh=>h.get? q=↑(Bq a)) (by show ((false||(jz pos<|hV f b).any (·.1))||false)=false;rw[c];rfl) RZ<|jI h
def a1r(C:hO)(t:TA):TE:=λb H Q=>∃a,b[0]?=↑(some<|.ref a)/\H a=some (EI C a none)/\t b H λd c=>d.length<=hZ/\c a=↑(EI C a none)/\Q .xj c
section
variable{P:iT}{w:ji}{K:hJ}{mg:Str->Option hR}{base:jd}{N:List Str}{qual:Str}{scope:mi}{f ya cc:hO}{A:jL}{outer:List Env}{s:h9}{H:Hp}{E:XK}{C:hO}{x0:Str}{fb:List iK}{p0 p1 apos pos:Pos}{es:List i8}{e0:i8}{ta:TA}
variable{nm q:Str}{Ns:hO}{bs bm:List hR}{hdct:Bool}{sn:List Str}{sub:List hR}{ab:Bool}{col:Option Bool}{dd:Option hO}{k0 k1 k2 k3 k5:Option hR}
set_option tactic.hygienic true in
def R6(S:LP P K C f ya cc x0)(ae:N[0]?=↑x0)(U:scope.names.lookup ("super":Str)=some .globalImplicit)(X:scope.names.lookup 107=some .free)(B:scope.names.lookup x0=some .local)(af:mg "super"=none)
 (lC:K.lookup C=↑(jT nm q C Ns bs bm hdct sn sub ab col dd k0 k1 k2 k3 k5 "ValueError.__new__")) (hm:kq K C C "__init__"=↑129) (ag:lh K C (.type "ValueError")=↑true)
 (ha:PA 18 (e0::es) ta)
 (he:hV (e0::es) (jo qual scope ⇑s f (.ref ya) [85])=(false,eval e0<|jo qual scope ⇑s f (.ref ya) [85])::hV es (jo qual scope ⇑s f (.ref ya) [85]))
 (l:(jz pos<|hV es<|jo qual scope ⇑s f (.ref ya) [85]).any (·.1)=false) (D:O0 p0 p1 apos pos "__init__" (e0::es)) :
    PEA 18 fb (.Call (.Attribute 86 "__init__" apos) (e0::es) [] pos) (a1r C ta):=by
  intro n i σ H1 Q I h
  refine e1a3 h λa h0 ea h=>?_
  have Y:=I.zp
  obtain⟨oc,od,fd,au,Z,lf,hp,rfl⟩:=S.fn
  obtain⟨av,aw,ax,an,file,tf,lc,ah,G⟩:=S.code
  obtain⟨ao,aq,aa,L⟩:=S.cell
  obtain⟨cd,j⟩:=S.cls
  obtain⟨t0,O⟩:=Il I ea
  refine e1a2 I.loc λmL hn hl=>?_
  refine e1a2 (hl 0 Z.arg (.ref a) ae h0<|.inl B) λu ru lk=>?_
  obtain rfl:u=iD a:=ru
  have ai:mL Z.arg=↑(.ref a):=by
    rcases lk with⟨_,q⟩|⟨q,_⟩
    · exact q
    · have q : scope.names.lookup Z.arg = some .cell \/ scope.names.lookup Z.arg = some .free := q
      rw[B]at q
      rcases q with q|q<;>cases q
  obtain⟨oD,M,R⟩:∃oD,i.heap.get? C=some oD/\oD.data=.cls cd:=by
    unfold ni at j
    split at j
    · rename_i c d ay sl ho
      cases j
      exact#[_,Y _ _ ho,rfl]
    · cases j
  refine e1a2 I.mod.blt λmb aj ak=>?_
  have ne:a≠C:=λz=>by
    rw[z,M]at O
    cases O
    cases R
  obtain⟨pl,D⟩:=D<|jo qual scope ⇑s f (.ref ya) [85]
  refine ks_wpAt_MethodCall (pl:=pl) (ks_wpAt_super_base (env:=jo qual scope ⇑s f (.ref ya) [85]) U X q0q rfl (Y _ _ lf) rfl hp rfl (Y _ _ lc) rfl ah G S.top ?_) D
  refine rD I.ok.kind U<|oG (env:=jo qual scope ⇑s f (.ref ya) [85]) (I.mod.glob.keeps I.bk) af (aj.keeps I.bk) ((ak _ q0s).trans rfl) #[rfl,?_]
  refine qQ I.ok.kind X rfl #[_,Y _ _ L,rfl] ?_
  refine lv I.ok.kind B hn ai ?_
  refine ks_wpAny_isType_cls (h:=i.heap) (g:=i.gens) (d:=i.drawn) (t:=i.toks) (os:=i.os) M R #[rfl,?_]
  refine ks_wpAny_call_super (h:=i.heap) (g:=i.gens) (d:=i.drawn) (t:=i.toks) (os:=i.os) M R O rfl (λc e=>by cases e) (pV Y S.sub) λp e k'=>?_
  have T:Inv _ n σ H1 #[p,i.gens,i.drawn,i.toks,i.os]:=I.kept (t':=i.toks) k'
  unfold kq at hm
  rw[j]at hm
  refine Cv e (sU T.zp S.opq) (l0:=cd.mro) (λA Q E s k q=>am<|(pO T.zp j) A _ E s k<|ap q) rfl T.zp hm (k' _ _ O) rfl (pV T.zp ag) ne ?_
  have I2:Inv _ n σ H1 #[p.push<|Bq a,i.gens,i.drawn,i.toks+1,i.os]:=T.kept (t':=i.toks+1) λb o z=>ci _ z
  have fr:H1 p.objs.size=none:=T.wy.fresh<|hW _
  have gq:(p.push<|Bq a).get? p.objs.size=↑(Bq a):=oQ rfl rfl
  have I3:=I2.pinned (fp:=[p.objs.size]) (λb y=>by rw[List.mem_singleton.mp y];exact T.Ht (hW _) fr) λb y=>by rw[List.mem_singleton.mp y];exact#[_,gq,λv z=>by cases z]
  refine cw_mw (a:=a) he l<|ww (ha pos _ _ σ H1 _ I3 h) λus s2 z9=>e2a5 z9 λvs H2 I4 r q1 q2 q3=>?_
  have g2:s2.heap.get? p.objs.size=↑(Bq a):=(I4.pin (p.objs.size,Bq a)<|iF _<|iF _<|yj ic gq).1
  refine#[g2,?_]
  have I5:=I4.AY
  obtain⟨t1,O1⟩:=Il I5 q2
  have al:=I5.zp
  obtain⟨m,g5,d5,t5,az⟩:=s2
  refine VI iQ (al _ _ lC) g2 O1 rfl rfl rfl ?_ (by show us.length<=_;rw[<- r.length];exact q1)
  have hu:upd H2 a (EI C a none)=H2:=by
    funext b
    by_cases y:b=a
    · rw[y, vF, q2]
    · rw[vB y]
  have O2:=jj (f:=Obj.mapFields (·.setIfInBounds 0 (.ref m.objs.size))) (ci { cls:=.type "tuple",data:=.seq us.toArray} O1) rfl
  have J:=I5.write (x:=a) (e:=a) (o:=EI C a none) (t':=t5) (h':=(m.push { cls:=.type "tuple",data:=.seq us.toArray}).update a (Obj.mapFields (·.setIfInBounds 0 (.ref m.objs.size)))) (by rw[q2];trivial) (.inl rfl)
    (λb u y z=>by rw[qr _ _ _ _ y];exact ci _ z) #[_,O2] (LV #[m.objs.size,O2])
  rw[hu]at J
  exact#[.xj,H2,J,rfl,q3]
end
def yG.a3x{s:jd}{C:hO}(k:yG P w H h)(t:H a=↑(EI C a none))(n:h.get? l=none)(x:∀b o,b≠a->h.get? b=↑o->s.get? b=↑o)(q:ExI C a d s)(D:s.Ns1 l (λz=>if z=f then some u else none))(r:RelV y u) :
  yG P w (upd (upd H l<|.xd [(f,y)]) a<|EI C a d) s/\∀A,Un A [] H (upd (upd H l<|.xd [(f,y)]) a<|EI C a d) h s:=by
 have E:∀b v,H b=↑v->b≠l:=λb v z e=>by obtain⟨o,i⟩:=BK k z;rw[e,n]at i;cases i
 have j:∀b v,H b=↑v->(∀B,v≠.ext B)->upd (upd H l<|.xd [(f,y)]) a (EI C a d) b=some v:=λb v z e=>by rw[vB λi=>by rw[i,t]at z;cases z;exact e _ rfl,vB<|E b v z];exact z
 refine#[λb o z=>?_,λA=>#[λb o z e _ _=>x b o (λi=>by rw[i,t]at e;cases e) z,λb o z e _ _=>#[o.slots,x b o (λi=>by rw[i,t]at e;cases e) z],λb o z e _=>?_,λb o z _=>?_,λb B z=>j b _ z (λ_ e=>by cases e),λb o v z=>j b _ z (λ_ e=>by cases e),λb I z=>#[#v[],by rw[j b _ z<|λ_ e=>by cases e];simp]]]
 ·by_cases e:b=a
  ·subst e;rw[vF]at z;cases z;exact LV q
  ·rw[vB e]at z;by_cases i:b=l
   ·subst i;rw[vF]at z;cases z;refine#[_,D,λg=>?_];by_cases m:g=f
    ·rw[m,List.lookup_cons_self,hI rfl];exact r
    ·rw[i4,beq_false_of_ne m,cr m];exact True.intro
   ·rw[vB i]at z;refine(k b o z).CA (λc v p y=>x c v (λm=>?_) y) (λc y=>j c _ y λ_ e=>by cases e) λc J y=>j c _ y λ_ e=>by cases e
    rcases p with p|p
    ·exact e<|p▸m
    ·rw[m,t]at p;cases p
 ·have F:b≠a:=λi=>by rw[i,t]at e;cases e
  have G:b≠l:=λi=>by rw[i,n]at z;cases z
  rw[vB F,vB G];exact e
 ·by_cases e:b=a
  ·obtain⟨_,q⟩:=q;rw[e];exact#[_,q]
  ·exact#[_,x b o e z]
def a1s(C:hO)(f:Str)(e g:TE):TS:=λD c H=>g c H λy h=>e c h λx d=>∃a,x=.ref a/\d a=↑(EI C a none)/\∀b,d b=none->b≠a->D.nx c (upd (upd d b<|.xd [(f,y)]) a<|EI C a<|↑b)
def VJ(L:PE X o M)(N:PE X value P)(Q:kg value (some<|.Attribute o f e) pos.line X.env=pure false)
 (R:X.K.lookup C=↑(jT nm q C Ns bs B true sn sub ab S dd k0 E G k3 k5 l)) (m:B.contains (.type "object")=true) (n:∀x:hO,t6 (.ref x) "__setattr__" B=pure ())
 (T:iL X.K (.ref C) "__setattr__"=↑106)(U:iL X.K (.ref C) f=↑none):PS X (.Assign [.Attribute o f e] value pos) (a1s C f M P):=by
  intro b s p H D I h
  refine rW (ww (N b s p H _ I h) λu Y r=>e2a3 r λy H1 Z ry q=>ww (L b Y p H1 _ Z q) λov s2 r=>e2a3 r λx H2 i rx v=>e1a3 v λa ex J q2=>?_) Q
  subst ex
  obtain rfl:ov=iD a:=rx
  obtain⟨t0,O⟩:=Il i J
  have w:=i.zp
  obtain⟨hp,g,d,t,os⟩:=s2
  refine Kg PySem.F.store_ValueError m (n a) (w _ _ R) (pB w T) (pB w U) O rfl (λc z=>by cases z) rfl λh' A j k z2 z3 z4=>?_
  have n1:H2 j=none:=by
    cases z:H2 j with
    |none=>rfl
    |some o=>obtain⟨u,q⟩:=BK i.wy z;rw[k]at q;cases q
  have na:j≠a:=λz=>by rw[z,O]at k;cases k
  obtain⟨E,G⟩:=yG.a3x (d:=↑j) i.wy J k z2 #[t0,z3] z4 ry
  exact#[p,_,i.un (h':=h') (t':=A) (G _) E,q2 j n1 na]
def Ki(b:bm.contains (.type "BaseException")=true)(k:A.handled=none)
 (h:ii M A x (λv a=>∃e t i,v=.ref e/\a.heap.get? C=↑83 /\
 a.heap.get? e=some { cls:=.ref C,dict:=i,data:=.fields #v[.ref t,.none,.none,.none,.bool false,.none]}/\E (.ref e) a) E s) :
    ii M A (raiseStmt l ↑x none) Q E s:=by
  have f:(iD C::bm).contains (.type "BaseException")=true:=by rw[uM,b,ts]
  unfold raiseStmt
  refine am<|jb h (λv a c=>?_) λ_ _ x=>x
  obtain⟨e,t,i,rfl,j,m,n⟩:=c
  obtain⟨o,g,d,p,r⟩:=a
  repeat (first|with_reducible refine j5 m ?_|with_reducible refine j5 j ?_|(with_reducible refine q7 j ?_;rw[f])|wp_step)
  exact wpAny_raiseNew_none k n
def Kj(F:kE B c y H) 
 (n:bm.contains (.type "BaseException")=true) (Y:A.handled=none) (k:(jz l<|hV args o).any (·.1)=false)
 (h:ii (ik prog w) A (eval (.Name x np) o) (λf m=>f=.ref C/\ii (ik prog w) A (evalArgs (.ref C) true (jz l (hV args o)) [])
 (λa b=>a.kw=[]/\a.pos.length<=hZ/\b.heap.get? C=↑(jT nm q C N bs bm hdct sn sub ab col dd k0 k1 k2 k3 k5 c)/\(∃I,b.heap.Ns N I/\I "__init__"=↑(.ref fI))/\(∃J,b.heap.get? fI=↑J/\J.cls=.type "function")/\tm b.heap H bm /\
 ∀D e,se b.heap D e (.ref C) a.pos->ii (ik prog w) (A.under (.builtin "type.__call__" #[.ref C::a.pos,[]])) (call (.ref fI) (.ref e::a.pos)) (λr G=>r=.none/\G.heap.get? C=↑(jT nm q C N bs bm hdct sn sub ab col dd k0 k1 k2 k3 k5 c) /\
 (∃t L,G.heap.get? e=some { cls:=.ref C,dict:=L,data:=.fields #v[.ref t,.none,.none,.none,.bool false,.none]})/\E (.ref e) G) E { b with heap:=D}) E m) E s) :
    ii (ik prog w) A (exec (.Raise (some<|.Call (.Name x np) args [] l) none pos) o) Q E s:=by
  rw[arm_exec_Raise]
  refine am<|n9<|Ki (C:=C) (nm:=nm) (q:=q) (N:=N) (bs:=bs) (bm:=bm) (hdct:=hdct) (sn:=sn) (sub:=sub) (ab:=ab) (col:=col) (dd:=dd) (k0:=k0) (k1:=k1) (k2:=k2) (k3:=k3) (k5:=k5) (newId:=c) n Y<|am<|jb (wpAny_Call_ofName<|jb h (λf m i=>?_) λ_ _ x=>x) (λv S p=>am<|n9<|ap p) λ_ _ x=>x
  obtain⟨rfl,i⟩:=i
  unfold oa
  refine am<|iX<|jb i (λa b j=>am<|n9 ?_) λ_ _ x=>x
  obtain⟨U,M⟩:=a
  obtain⟨O,u,W,⟨I,Z,hi⟩,⟨J,P,R⟩,T,j⟩:=j
  obtain rfl:M=[]:=O
  obtain⟨hp,g,d,tk,os⟩:=b
  simp only[k]
  refine am<|wpAny_keeperOf_exc W ?_
  refine am<|FJ (hrest:=u) F T W Z hi P R λD e hm=>jb (j D e hm) (λr G X=>#[X.1,?_]) λ_ _ z=>z
  obtain⟨_,c1,⟨t,L,c2⟩,c3⟩:=X
  exact am<|iX<|wpAny_point<|ap #[e,t,L,rfl,c1,c2,c3]
noncomputable def C9(H:Hp)(x:hO):Hp:=λb=>if b=x then none else H b
def AF:C9 H x x=none:=hI rfl
def yN(h:b≠x):C9 H x b=H b:=cr h
section
variable{P:iT}{w:ji}{H H3 H4:Hp}{h h' h4:jd}{x C:hO}{c:Option hO}
def yG.R7(k:yG P w H h)(e:H x=↑(EI C x c)):yG P w (C9 H x) h:=λa o z=>by
 have g:a≠x:=λq=>by rw[q,AF]at z;cases z
 rw[yN g]at z
 have d:∀b u,H b=↑u->(∀f,u≠.ext f)->C9 H x b=↑u:=λb u q n=>by rw[yN λy=>by rw[y,e]at q;cases q;exact n _ rfl];exact q
 exact(k a o z).CA (λ_ _ _ q=>q) (λb q=>d b _ q λf y=>by cases y) λb i q=>d b _ q λf y=>by cases y
def yG.Im(k:yG P w H h)(e:h.get? x=none):H x=none:=by
 cases z:H x with
 |none=>rfl
 |some o=>obtain⟨u,q⟩:=BK k z;rw[e]at q;cases q
def yG.NE(k:yG P w H h)(e:h.get? x=none)(f:∀b o,h.get? b=↑o->h'.get? b=↑o)(n:ExI C x c h'):yG P w (upd H x<|EI C x c) h':=λa o z=>by
 by_cases q:a=x
 ·subst q;rw[vF]at z;cases z;exact LV n
 ·rw[vB q]at z;have d:∀b u,H b=↑u->upd H x (EI C x c) b=↑u:=λb u y=>by rw[vB λg=>by rw[g,k.Im e]at y;cases y];exact y
  exact(k a o z).CA (λ_ _ _ y=>f _ _ y) (λb y=>d b _ y) λb i y=>d b _ y
def Un.NE(k:yG P w H h)(e:h.get? x=none)(d:∀b o,h.get? b=↑o->h'.get? b=↑o):Un fs [] H (upd H x<|EI C x c) h h':=by
 have a:∀b u,H b=↑u->upd H x (EI C x c) b=↑u:=λb u y=>by rw[vB λf=>by rw[f,k.Im e]at y;cases y];exact y
 refine#[λb o z _ _ _=>d b o z,λb o z _ _ _=>#[o.slots,d b o z],λb o z n _=>?_,λb o z _=>#[o,d b o z],λb g z=>a b _ z,λb o u z=>a b _ z,λb i z=>#[#v[],by rw[a b _ z];simp]];rw[vB λy=>by rw[y,e]at z;cases z];exact n
def Un.R7(u:Un fs [] H H4 h h4)(e:h.get? x=none)(d:H x=none):Un fs [] H (C9 H4 x) h h4:=by
 have a:∀b v,H b=↑v->b≠x:=λb v y z=>by rw[z,d]at y;cases y
 refine#[u.keep,u.slot,λb o z n f=>?_,u.there,λb g z=>?_,λb o v z=>?_,λb i z=>?_]
 ·rw[yN λy=>by rw[y,e]at z;cases z];exact u.free b o z n f
 ·rw[yN<|a b _ z];exact u.CC b g z
 ·rw[yN<|a b _ z];exact u.Ca b o v z
 ·rw[yN<|a b _ z];exact u.Cb b i z
end
def VL(C:hO)(f:Sp)(a:List V)(E:XK)(h:TA):TS:=λ_ i H=>h i H λc e=>c.length<=hZ/\∀x:hO,e x=none ->
 f (.ref x::c++a) (upd e x<|EI C x none) (λv b=>v=.xj/\∃d,b x=↑(EI C x d)/\GX.g C d (C9 b x)/\E (.ref C) ↑x (C9 b x)) λ_ _ _=>False
section
variable{P:iT}{w:ji}{K:hJ}{mg:Str->Option hR}{base:jd}{N:List Str}{qual:Str}{scope:mi}{f:hO}{cd:hR}{A:jL}{outer:List Env}{s:h9}{H:Hp}{E:XK}
variable{nm q:Str}{Ns:hO}{bs bm Em:List hR}{hdct:Bool}{sn:List Str}{sub:List hR}{ab:Bool}{col:Option Bool}{dd:Option hO}{k0 k1 k2 k3 k5:Option hR}{B newId yY:String}
def O9{C:hO}{k:Nat}(hg:Gl 19 x)(hm:mg x=↑(.ref C))
 (lC:K.lookup C=↑(jT nm q C Ns bs bm hdct sn sub ab col dd k0 k1 k2 k3 k5 newId)) (aa:∀h:jd,K.In h->∃mN,h.Ns Ns mN/\mN "__init__"=↑(.ref fI)) (hT:∀h:jd,K.In h->tm h Em bm) (lI:K.lookup fI=↑oI) (ae:oI.cls=.type "function")
 (FB:kE B newId yY Em) (n:bm.contains (.type "BaseException")=true) (FI:wn P w K mg base (wh P w) k fI fd ps sp) (j:Binds K fd ps U) (af:Vals p U) (hr:wZ (k+1) (19).A)
 (ha:PA 19 args ta) (ag:(x==66)=false)
 (ah:(jz cpos<|hV args (19).env).any (·.1)=false)
 (ai:∀(Q:Args->h9->Prop)(E':hR->h9->Prop)(s9:h9),ii (ik P w) (19).A (uP<|jz cpos<|hV args (19).env) (λX y=>Q #[X,[]] y) E' s9->ii (ik P w) (19).A (evalArgs (.ref C) true (jz cpos<|hV args (19).env) []) Q E' s9) :
    PS 19 (.Raise (some<|.Call (.Name x np) args [] cpos) none pos) (VL C sp p E ta):=by
  intro a s1 σ H1 D I h
  have hA:=ha cpos a s1 σ H1 _ I h
  refine Kj (prog:=P) (w:=w) (C:=C) (nm:=nm) (q:=q) (N:=Ns) (bs:=bs) (bm:=bm) (hdct:=hdct) (sn:=sn) (sub:=sub) (ab:=ab) (col:=col) (dd:=dd) (k0:=k0) (k1:=k1) (k2:=k2) (k3:=k3) (k5:=k5) (fI:=fI)
    FB n (I.ok.hd rfl) ah (ze I hg hm #[rfl,?_] ag)
  refine ai _ _ _<|jb hA (λl G q2=>?_) λ_ _ z=>z
  refine e2a4 q2 λX H2 F r2 hl M=>?_
  have Y:=F.zp
  refine#[rfl,by show l.length<=hZ;rw[<- r2.length];exact hl,Y _ _ lC,aa _ Y,#[oI,Y _ _ lI,ae],hT _ Y,λZ e made=>?_]
  refine e1a3 made.there λt aj _ _=>?_
  have n2:H2 e=none:=F.wy.Im made.new
  have I3:Inv 19 a σ (upd H2 e<|EI C e none) { G with heap:=Z,toks:=G.toks}:=F.un (Un.NE F.wy made.new made.keeps)<|F.wy.NE made.new made.keeps #[t,aj]
  have r3:Vals (.ref e::X++p) (.ref e::l++U):=.cons rfl<|Vals.append r2 af
  have ak:(iD e::l++U).length=ps.length:=by rw[<- r3.length];exact FI.len _ _ _ _<|M e n2
  refine m8<|ko (FI.run _ _ { G with heap:=Z} _ ⟨.ref e::l,[]⟩ (.ref e::l++U) (.ref e::X++p) _ _ (hr.make C l []) (I3.Hw.make C l []) (j { G with heap:=Z} (.ref e::l) I3.zp ak) r3 (M e n2)) λr y O=>?_
  cases r with
  |error e'=>obtain⟨_,_,_,_,_,z⟩:=O;exact z.elim
  |ok fl =>
    cases fl with
    |next=>exact iV O
    |brk=>exact iV O
    |cont=>exact iV O
    |ret u =>
      obtain⟨v,H4,R,i,S,m,rv,rfl,c,e4,gd,hE⟩:=id O
      have T:(19).stack=(19).env::(19).outer:=rfl
      have J:Inv 19 a σ H4 y:=by
        obtain⟨hh,g,d,tt,al⟩:=y
        obtain rfl:al=G.os:=R
        exact Inv.call (s:={ G with heap:=Z}) (h':=hh) (g':=g) (d':=d) (t':=tt) (ch:=[]) I3 S m i<|λb z=>iv z q0o
      obtain⟨t4,O4⟩:=Il J e4
      refine#[rv,J.zp _ _ lC,#[t4,c,O4],?_]
      have fu:=J.Hw.zd
      have an:(kC y.heap (e::zM (19).stack)).get? e=none:=sL _ ic
      refine jb (zR (base:=kC y.heap (e::zM (19).stack)) (a0:=.ref t4) J.ok.frames
        (oY fu λao he b j=>ij _<|List.mem_filterMap.mpr ⟨ao,he,j⟩) (xC J T) O4 (λb o z=>lH _ z) an rfl rfl rfl
        (Q:=λ_ aq=>wh P w outer H s E (.ref e) aq) λar fl up dk=>?_) (λ_ _ z=>z) λ_ _ z=>z
      refine#[C,e,C9 H4 e,rfl,?_,hE]
      refine HM (s2:=y) F T rfl R i (Un.R7 ((Un.NE F.wy made.new made.keeps).trans S) made.new n2) (m.R7 e4) (λb o z L nf=>nN _ z λj=>?_) (λb j=>?_) up fl #[_,dk,gd]
      · rcases List.mem_cons.mp j with rfl|j
        · rcases L with L|⟨o0, L⟩
          · exact L AF
          · rw[made.new]at L; cases L
        · exact nf j
      · have z := J.ZZ b j
        refine#[?_,(fu.mem j).2]
        by_cases q:b=e
        · rw[q, AF]
        · rw[yN q]; exact z.1
end
def Zf(K:hJ)(C:hO)(c:Str):Sp:=λd H Q _=>∃x l b,d=[.ref x,.ref l]/\H x=↑(EI C x none)/\(wR K H l b\/zX K H l b)/\∀p a,H p=none->H a=none->a≠x->a≠p->Q .xj (upd (upd (upd H p<|.lst b) a<|.xd [(c,.ref p)]) x<|EI C x<|↑a)
section
variable{P:iT}{w:ji}{K:hJ}{mg:Str->Option hR}{base:jd}{qual name:Str}{scope:mi}{f ya cc:hO}{C:hO}{k:Nat}{p0 p1 p2 p3 p4 p5 p6 p7 p8 p9 apos pos:Pos}{r fl tx:Str}{j:Nat}
variable{nm q:Str}{Ns:hO}{bs bm:List hR}{sn:List Str}{sub:List hR}{ab:Bool}{col:Option Bool}{dd:Option hO}{k0 k1 k2 k3 k5:Option hR}{params:Arguments}{dV kV doc pm ct oc:hR}{an od:Option hO}{OB:Array (Option hR)}{body:List iK}
def VM(lk:K.lookup f=some #[oc,od,.func<|k8 name qual params body scope [85] dV kV doc pm an (.ref ya) ct,OB])(g:jM K (.ref ya) qual=true)
 (m:body=[.Expr (.Call (.Attribute 86 "__init__" apos) [.Constant (.str tx) j p3] [] pos) p2,.Assign [.Attribute (.Name "self" p4) fl p5] (.Call (.Name "list" p6) [.Name r p7] [] p8) p9])
 (S:WL.yi ["self",r] ["self",r] scope) (D:LP P K C f ya cc "self") (n:O0 p0 p1 apos pos "__init__" [.Constant (.str tx) j p3]) (o:mg "super"=none) (t:mg "list"=none) (u:scope.names.lookup ("list":Str)=some .globalImplicit)
 (M:K.lookup C=↑(jT nm q C Ns bs bm true sn sub ab col dd k0 k1 k2 k3 k5 "ValueError.__new__")) (U:kq K C C "__init__"=↑129) (v:lh K C (.type "ValueError")=↑true)
 (B:bm.contains (.type "object")=true) (F:∀x:hO,t6 (.ref x) "__setattr__" bm=pure ()) (X:iL K (.ref C) "__setattr__"=↑106) (Y:iL K (.ref C) fl=↑none)
 (G:(r==66)=false) (I:(r==("__classdict__":Str))=false) :
    wn P w K mg base (wh P w) (k+1) f (k8 name qual params body scope [85] dV kV doc pm an (.ref ya) ct) ["self",r] (Zf K C fl):=by
  obtain⟨o1,o2,o3,a⟩:=D.cell
  refine Ii lk g (S.x cc) (λy c h=>?_) (λZ H Q E h=>?_) λA J s H Z Q E hr L=>?_
  · have e : c = cc := by
      by_cases e:(y==107)=true
      · rw[i4, e]at h; cases h; rfl
      · rw[i4, Bool.eq_false_iff.mpr e]at h; cases h
    subst e
    exact#[_,_,a,rfl]
  · obtain⟨x, l, N, rfl, _⟩ := h; rfl
  · obtain⟨x, l, N, rfl, b, hl, hq⟩ := L
    rw[m]
    refine#[_,zn (FF (R6 D rfl S.ks S.kc (S.par _ ic) o M U v (vI Cd vU) rfl rfl n)) (zn (RC (VJ (KY (i:=0) rfl (.inl (S.par _ ic)))
      (yk zf u t kB (vI (KY (i:=1) rfl (.inl (S.par _ (ij _ ic))) G I) vU)) rfl M B F X Y)) (EE An)),?_]
    have st:start ["self",r] [V.ref x,V.ref l]=[some<|.ref x,some<|.ref l]:=rfl
    rw[st]
    refine#[x,rfl,b,?_,b,?_]
    · show (1 : Nat) <= hZ
      rw[jt];lia
    · refine#[.ref l, rfl, l, N, rfl, hl, λp O => #[.ref x, rfl, x, rfl, ?_, λR d n2 => ?_]]
      · rw[vB λz => by rw[z, O]at b; cases b]
        exact b
      · have T : R ≠ p := λz => by rw[z, vF]at d; cases d
        rw[vB T]at d
        exact hq p R O d n2 T
end
end L2
namespace WL
variable[L2.GX]
open PySem L2
open Rep (rp)
open Ow (sl)
open Sls (rel)
structure XcI(P:iT)(w:ji)(K:hJ)(mg:Str->Option hR)(base:jd)(k:Nat)(x:Str)(C:hO)(fl:Str):Prop where
 ex:∃(fI Ns:hO)(fd:iY)(oI:qY)(nm q:Str)(bs bm Em:List hR)(hdct:Bool)(sn:List Str)(sub:List hR)(ab:Bool)(col:Option Bool)(dd:Option hO)(k0 k1 k2 k3 k5:Option hR)(B newId yY:String)(ps:List Str),
  mg x=↑(.ref C)/\K.lookup C=↑(jT nm q C Ns bs bm hdct sn sub ab col dd k0 k1 k2 k3 k5 newId)/\(∀h:jd,K.In h->∃mN,h.Ns Ns mN/\mN "__init__"=↑(.ref fI))/\(∀h:jd,K.In h->tm h Em bm)/\K.lookup fI=↑oI/\oI.cls=.type "function" /\
  kE B newId yY Em/\bm.contains (.type "BaseException")=true/\wn P w K mg base (wh P w) k fI fd ps (Zf K C fl)/\Binds K fd ps []
 go:∀dx p xs H,H dx=↑(.xd [(fl,.ref p)])->H p=↑(.lst xs)->GX.g C ↑dx H
section
variable{D D' D1 PO τ α:Type}[Sls D][Sls D'][Sls D1][Sls PO][Ow τ][Rep α]
def Zg{x r L:Str}{i:Nat}{y j M:Pos}{C:hO}[J:Pj D PO n][At i D (OL α) D1](hg:Gl 77 x)(h:XcI P w K l base k x C L)(hr:wZ (k+1) (77).A)
  (hv:PE 77 (.Name r M) (v9 i)) (W:(x==66)=false:=by decide)
  (X:hV [.Name r M] (77).env=(false,eval (.Name r M) (77).env)::hV [] (77).env:=by rfl) :
  S1 77 E T ms n (.Raise (some<|.Call (.Name x y) [.Name r M] [] j) none Y) (λ(d:D)(_:D'->Prop)(_:τ->PO->Prop) Ke=>Ke C<|J.pj d):=by
 obtain⟨fI,Ns,fd,oI,nm,q,bs,bm,af,ae,sn,ag,ab,ah,dd,k0,k1,k2,k3,k5,B,Z,O,ps,a1,a2,a3,a4,a5,a6,a7,a8,a9,aa⟩:=h.ex;refine#[_,O9 (np:=y) (pos:=Y) (cpos:=j) hg a1 a2 a3 a4 a5 a6 a7 a8 a9 aa .nil hr (vI hv vU X) W (by rw[X];rfl) λQ E' s9 z=>by rw[X]at z ⊢;exact jI z,λd F R σ H Kn Kr Ke En s hw kn kr ke=>?_];obtain⟨v,F1,F2,e1,_,⟨a,I,rfl,_,ha,_⟩,_⟩:=U0 (i:=i) (τ:=OL α) s;refine#[.ref a,e1,(by show 1<=hZ;decide),λx hx=>#[x,a,I,rfl,vF,.inl ?_,λp m S hd nx y=>#[rfl,↑m,vF,?_]]]
 ·have ne:a≠x:=λz=>by rw[z,hx]at ha;cases ha
  exact .inl<|Rd.of (by rw[vB ne];exact ha)
 ·have px:p≠x:=λz=>by rw[z,vF]at S;cases S
  rw[vB px]at S;rw[vB nx]at hd
  have q:C9 (upd (upd (upd (upd H x<|EI C x none) p<|.lst I) m<|.xd [(L,.ref p)]) x<|EI C x<|↑m) x=upd (upd H p<|.lst I) m (.xd [(L,.ref p)]):=by
   funext b
   by_cases U:b=x
   ·rw[U,AF,vB<|Ne.symm nx,vB<|Ne.symm px,hx]
   ·rw[yN U,vB U];by_cases o:b=m
    ·rw[o,vF,vF]
    ·rw[vB o,vB o];by_cases t:b=p
     ·rw[t,vF,vF]
     ·rw[vB t,vB U,vB t]
  rw[q];refine#[h.go m p I _ vF (by rw[vB<|Ne.symm y];exact vF),?_];refine e0a3 (s.new (.lst I) S) λs2 c2 _=>?_;obtain⟨s3,c3,_⟩:=s2.new (p:=m) (.xd [(L,.ref p)]) (by rw[vB y];exact hd);refine e1a2 (wN (PO:=PO) s3) λG g1 g2=>?_;exact ke C x _ G R _ hw ((Ch.trans s s2.tab c2 c3).less g1) g2
end
end WL
namespace SX
open PySem PySem.W PyProof.Rows
def Br(p:Array Nat)(k:Nat):p.getD k 0=(p[k]?).getD 0:=by simp
def DH{p:Array Nat}{i j:Nat}(h:j<=p.size)(k:Nat):(rT p i j).getD k 0=if i<=k/\k<j then p.getD (i+j-1-k) 0 else p.getD k 0:=by rw[Br,rT,getElem?_mirror_all h k,Br,Br];split<;>rfl
def LW{p:Array Nat}{k d:Nat}(h:k<p.size)(a:d<=k)(i:Nat):(bubble p k d).getD i 0=if i=k-d then p.getD k 0 else if k-d<i/\i<=k then p.getD (i-1) 0 else p.getD i 0:=by
 rw[Br,getElem?_bubble h d a i,Br,Br,Br];split
 ·rfl
 ·split<;>rfl
structure a3z(lt:Nat->Nat->Bool):Prop where
 ir:∀a,lt a a=false
 tr:∀a b c,lt b a=false->lt c b=false->lt c a=false
 as:∀a b,lt a b=true->lt b a=false
section
variable{lt:Nat->Nat->Bool}{cmp:Nat->Nat->(Bool->h9->Prop)->h9->Prop}{N:Nat}{s:h9}
def Io(lt:Nat->Nat->Bool)(p:Array Nat)(k:Nat):Prop:=∀i j,i<=j->j<k->lt (p.getD j 0) (p.getD i 0)=false
def Gw(lt:Nat->Nat->Bool)(p:Array Nat)(k:Nat):Prop:=∀i j,i<=j->j<k->lt (p.getD i 0) (p.getD j 0)=false
def Jr(N:Nat)(p:Array Nat):Prop:=∀k,p.getD k 0<N
def Jr.rev{i j:Nat}(b:Jr N p)(h:j<=p.size):Jr N (rT p i j):=λk=>by rw[DH h];split<;>exact b _
def Jr.bub{k d:Nat}(b:Jr N p)(h:k<p.size)(c:d<=k):Jr N (bubble p k d):=λi=>by
 rw[LW h c];by_cases q:i=k-d
 ·rw[hI q];exact b _
 ·rw[cr q];by_cases a:k-d<i/\i<=k
  ·rw[hI a];exact b _
  ·rw[cr a];exact b _
def Dd{i j:Nat}:(rT p i j).Perm p:=mirror_perm _ _ _ _
variable(L:a3z lt)(hc:∀i j (C:Bool->h9->Prop),i<N->j<N->C (lt i j) s->cmp i j C s)
include L hc
def NF(b:Jr N p):∀(f n:Nat) {Q:Nat->h9->Prop},1<=n->Io lt p n->(∀m,n<=m->m<=n+f->Io lt p m->(m<n+f->lt (p.getD m 0) (p.getD (m-1) 0)=true)->Q m s)->mn cmp (kas_asc p f n) Q s:=by
 intro g
 induction g with
 |zero=>intro n Q h a k;exact k n (hW _) (hW _) a<|λz=>iv z<|kh _
 |succ f c =>
  intro n Q h a k;refine hc _ _ _ (b _) (b _) ?_
  cases e:lt (p.getD n 0) 166 with
  |true=>exact k n (hW _) q0a a λ_=>e
  |false =>
   refine c (n+1) q0a (λi j d t=>?_) λm u v l o=>k m q0a q0a l λz=>o q0a;by_cases q:j=n
   ·subst q;by_cases r:i=j
    ·rw[r];exact L.ir _
    ·exact L.tr _ _ _ (a i (j-1) q0a q0a) e
   ·exact a i j d q0a
omit hc in
set_option tactic.hygienic true in
def VN{p:Array Nat}{n q:Nat}(m:q+1<=n)(d:n<=p.size)(f:Gw lt p n)(c:∀k,n-(q+1)<=k->k<n->lt 166 (p.getD k 0)=false)(k:Nat) :
  lt ((rT p (n-(q+1)) n).getD k 0) (p.getD k 0)=false/\lt (p.getD k 0) ((rT p (n-(q+1)) n).getD k 0)=false:=by
 rw[DH d];split
 ·rename_i h
  have e:∀a b,n-(q+1)<=a->a<n->n-(q+1)<=b->b<n->lt (p.getD a 0) (p.getD b 0)=false:=λa b o r g l =>
   L.tr _ 166 _ (c b g l) (f a (n-1) q0d q0d)
  exact#[e _ _ q0d q0d h.1 h.2,e _ _ h.1 h.2 q0d q0d]
 ·exact#[L.ir _,L.ir _]
omit hc in
def NG{p:Array Nat}{n q m:Nat}(c:q+1<=n)(d:n<=p.size)(f:Gw lt p n)(a:∀k,n-(q+1)<=k->k<n->lt 166 (p.getD k 0)=false)(g:Gw lt p m):Gw lt (rT p (n-(q+1)) n) m:=λi j b h=>by have e:=VN L c d f a;exact L.tr _ _ _ (L.tr _ _ _ (e j).2<|g i j b h) (e i).1
omit hc in
def FK{n:Nat}(d:1<=n)(b:Gw lt p n)(h:lt 166 (p.getD n 0)=false):Gw lt p (n+1):=λi j a e=>by
 by_cases q:j=n
 ·subst q;by_cases c:i=j
  ·rw[c];exact L.ir _
  ·exact L.tr _ _ _ h<|b i (j-1) q0a q0a
 ·exact b i j a q0a
def R8:∀(f:Nat)(p:Array Nat)(n q:Nat) {Q:Array Nat×Nat×Nat->h9->Prop},Jr N p->q+1<=n->n+f<=p.size->Gw lt p n->(∀k,n-(q+1)<=k->k<n->lt 166 (p.getD k 0)=false) ->
  (∀a m d,a.Perm p->a.size=p.size->Jr N a->d+1<=m->n<=m->m<=n+f->Gw lt a m->(∀k,m-(d+1)<=k->k<m->lt (a.getD (m-1) 0) (a.getD k 0)=false)->Q (a,m,d) s)->mn cmp (kas_desc f p n q) Q s:=by
 intro F
 induction F with
 |zero=>intro p n q Q b w G h c k;exact k p n q (.refl _) rfl b w (hW _) (hW _) h c
 |succ f g =>
  intro p n q Q b w G h c k;refine hc _ _ _ (b _) (b _) ?_
  cases e:lt (p.getD n 0) 166 with
  |true =>
   have y:=FK L q0a h<|L.as _ _ e
   have A:∀{x:Array Nat},∀k,n+1-(0+1)<=k->k<n+1->lt (x.getD (n+1-1) 0) (x.getD k 0)=false:=λ{x} k H I=>by
    have:k=n+1-1:=by lia
    rw[this];exact L.ir _
   split
   ·refine g _ (n+1) 0 (b.rev q0a) q0a (by rw[nM];lia) (NG L w q0a h c y) A λa m d l o r t B D u v=>k a m d (l.trans Dd) (o.trans<|nM _ _) r t q0a q0a u v
   ·exact g p (n+1) 0 b q0a q0a y A λa m d l o r t B D u v=>k a m d l o r t q0a q0a u v
  |false =>
   refine hc _ _ _ (b _) (b _) ?_
   cases J:lt 166 (p.getD n 0) with
   |true=>exact k p n q (.refl _) rfl b w (hW _) q0a h c
   |false =>
    refine g p (n+1) (q+1) b q0a q0a (FK L q0a h J) (λE H I=>?_) λa m d l o r t B D u v=>k a m d l o r t q0a q0a u v;have M:n+1-1=n:=by lia
    rw[M];by_cases z:E=n
    ·rw[z];exact L.ir _
    ·exact L.tr _ _ _ (c E q0a q0a) e
def Kk{n a:Nat}(b:Jr N p)(e:1<=n)(o:n<=a)(q:a<=p.size)(f:Gw lt p n)
 (k:∀m c,c.Perm p->c.size=p.size->Jr N c->1<=m->m<=a->Io lt c m->Q (m,c) s):mn cmp (kas_tail3 n a p) Q s:=by
  unfold kas_tail3
  rw[nW]
  have d:n<=p.size:=by omega
  refine NF L hc (b.rev d) _ n e (λi j g h=>?_) λm r t l _=>k m _ Dd (nM _ _) (b.rev d) q0d q0d l
  rw[DH d,DH d,hI #[js _,h],hI #[js _,q0d]]
  exact f _ _ q0d q0d
def R9{n a:Nat}(b:Jr N p)(A:1<=n)(B:n+1<=a)(D:a<=p.size)(w:Gw lt p (n+1))
 (k:∀m d,d.Perm p->d.size=p.size->Jr N d->1<=m->m<=a->Io lt d m->Q (m,d) s):mn cmp (kas_descPart n a p) Q s:=by
  unfold kas_descPart
  rw[nW]
  refine R8 L hc _ p (n+1) 0 b q0a q0a w (λx E F=>?_) λd m G t u v y H I e z=>?_
  · have : x = n+1-1 := by lia
    rw[this];exact L.ir _
  · dsimp only
    split
    · exact Kk L hc (v.rev q0a) q0a q0a (by rw[nM]; lia) (NG L y q0a e z e) λf c g h l o q r => k f c ((g.trans Dd).trans t) ((h.trans<|nM _ _).trans u) l o q r
    · exact Kk L hc v q0a q0a q0a e λf c g h l o q r => k f c (g.trans t) (h.trans u) l o q r
set_option tactic.hygienic true in
def Pa{d:Nat}(b:Jr N p)(P:1<=d)(B:d<=p.size)
 (k:∀m f,f.Perm p->f.size=p.size->Jr N f->1<=m->m<=d->Io lt f m->Q (m,f) s):mn cmp (kas_count d p) Q s:=by
  unfold kas_count
  rw[nW]
  refine NF L hc b _ 1 (hW _) (λi j g v=>?_) λn w R o D=>?_
  · have r : i = 0 := by lia
    have h:j=0:=by lia
    rw[r,h];exact L.ir _
  · by_cases e : n = d
    · rw[hI<|by rw[e]; simp]
      exact k n p (.refl _) rfl b w q0a o
    · rw[cr<|by simp[e]]
      have x:=D q0a
      split
      · rename_i S
        refine hc _ _ _ (b _) (b _) ?_
        cases h:lt (p.getD 0 0) 166 with
        |true=>exact k n p (.refl _) rfl b w q0a o
        |false =>
          have t:n<=p.size:=by lia
          refine R9 L hc (b.rev t) q0a q0a (by rw[nM];lia) (λi j g v=>?_) λE u y F G H I J=>k E u (y.trans Dd) (F.trans<|nM _ _) G H I J
          have l:∀a c,a<n->c<n->lt (p.getD a 0) (p.getD c 0)=false:=λa c M y=>L.tr _ _ _ (L.tr _ _ _ (o c (n-1) q0a q0a) h)<|o 0 a (js _) M
          rw[DH t i,DH t j]
          by_cases q:j<n
          · rw[hI #[js _, by lia], hI #[js _, q]]
            exact l _ _ q0a q0a
          · have O : j = n := by lia
            rw[cr (c:=0<=j/\j<n) λz=>q z.2]
            by_cases A:i<n
            · rw[hI #[js _, A], O]
              exact L.tr _ _ _ (L.as _ _ x)<|l _ _ q0a q0a
            · rw[cr λz => A z.2, show i = j by lia]
              exact L.ir _
      · refine R9 L hc b q0a q0a B (FK L q0a (λi j g v => ?_)<|L.as _ _ x) k
        have r:i=0:=by lia
        have h:j=0:=by lia
        rw[r,h];exact L.ir _
def Pb{k:Nat}(b:Jr N p)(q:Io lt p k):∀(f l r:Nat) {Q:Nat->h9->Prop},r-l<=f->l<=r->r<=k->(∀i,i<l->lt (p.getD k 0) (p.getD i 0)=false)->(∀i,r<=i->i<k->lt (p.getD k 0) (p.getD i 0)=true) ->
  (∀h,h<=k->(∀i,i<h->lt (p.getD k 0) (p.getD i 0)=false)->(∀i,h<=i->i<k->lt (p.getD k 0) (p.getD i 0)=true)->Q h s)->mn cmp (uN p k f l r) Q s:=by
 intro t
 induction t with
 |zero=>intro l r Q u o a m n d;exact d l q0d m λi z=>n i q0d
 |succ f g =>
  intro l r Q u o a m n d;show mn cmp (if l>=r then KasT.ret l else KasT.ask (p.getD k 0) (p.getD ((l+r) / 2) 0) λc=>if c=true then uN p k f l ((l+r) / 2) else uN p k f ((l+r) / 2+1) r) Q s;split
  ·exact d l q0d m λi z=>n i q0d
  ·refine hc _ _ _ (b _) (b _) ?_
   cases e:lt (p.getD k 0) (p.getD ((l+r) / 2) 0) with
   |true =>
    refine g l ((l+r) / 2) q0d q0d q0d m (λi v w=>?_) d
    cases x:lt (p.getD k 0) (p.getD i 0) with
    |true=>rfl
    |false=>rw[L.tr _ _ _ (q ((l+r) / 2) i v w) x]at e;cases e
   |false =>
    refine g ((l+r) / 2+1) r q0d q0d a (λi z=>?_) n d;exact L.tr _ _ _ (q i ((l+r) / 2) q0d q0d) e
def VO:∀(f:Nat)(p:Array Nat)(k:Nat) {Q:Array Nat->h9->Prop},Jr N p->k+f<=p.size->Io lt p k->(∀d,d.Perm p->Io lt d (k+f)->Q d s)->mn cmp (kas_bin f p k) Q s:=by
 intro t
 induction t with
 |zero=>intro p k Q b u c g;exact g p (.refl _) c
 |succ f h =>
  intro p k Q b u c g;show mn cmp ((uN p k k 0 k).bind λl=>kas_bin f (bubble p k<|k-l)<|k+1) Q s;rw[nW];refine Pb L hc b c k 0 k q0a q0a (hW _) (λi z=>iv z q0a) (λi D v=>iv v q0a) λl E w x=>?_;have a:k<p.size:=by lia
  have m:k-l<=k:=by lia
  have y:k-(k-l)=l:=by lia
  refine h _ (k+1) (b.bub a m) (by rw[bubble_size];lia) (λi j n F=>?_) λd A B=>g d (A.trans<|bubble_perm _ _ _) (by rw[show k+(f+1)=k+1+f by lia];exact B);rw[LW a m,LW a m,y];by_cases o:j=l
  ·rw[hI o];by_cases e:i=l
   ·rw[hI e];exact L.ir _
   ·rw[cr e,cr q0a];exact w i q0a
  ·rw[cr o];by_cases q:l<j/\j<=k
   ·rw[hI q];by_cases e:i=l
    ·rw[hI e];exact L.as _ _<|x (j-1) q0a q0a
    ·rw[cr e];by_cases r:l<i/\i<=k
     ·rw[hI r];exact c _ _ q0a q0a
     ·rw[cr r];exact c _ _ q0a q0a
   ·rw[cr q,cr q0a,cr q0a];exact c _ _ n q0a
set_option tactic.hygienic true in
def Sc{n:Nat}(p:1<=n)(u:n<=N)(d:∀a,a.Perm (iG n).toArray->Io lt a n->Q a s):mn cmp (kas_sort n) Q s:=by
 unfold kas_sort;rw[nW];have e:(iG n).toArray.size=n:=by simp
 have b:Jr N (iG n).toArray:=λk=>by
  rw[Br];simp only[List.getElem?_toArray,List.getElem?_range'];by_cases h:k<n
  ·simp[ut h];lia
  ·simp[kX (l:=iG n)<|by simpa using h];lia
 refine Pa L hc b p (by rw[e];exact hW _) λm a f q r v w g=>?_;split
 ·rename_i h
  refine VO L hc _ a (max m 1) r (by rw[q,e];lia) (by rw[show max m 1=m by lia];exact g) λc t o=>d c (t.trans f) (by rw[show max m 1+(n-max m 1)=n by lia]at o;exact o)
 ·exact d a f (by rw[show n=m by lia];exact g)
end
open PySem.Spec
noncomputable def Js(p q:Int×Int):Bool:=decide (p.1<q.1)||(p.1==q.1&&decide (p.2<q.2))
def FL:Js p q=false↔q.1<p.1\/(q.1=p.1/\q.2<=p.2):=by unfold Js;simp only[Bool.or_eq_false_iff,Bool.and_eq_false_iff,decide_eq_false_iff_not,beq_eq_false_iff_ne];omega
def a1t:Js p q=true↔p.1<q.1\/(p.1=q.1/\p.2<q.2):=by unfold Js;simp only[Bool.or_eq_true,jc,jf,beq_iff_eq]
def yf(h:jd)(v:hR)(p:Int×Int):Prop:=∃x o t u n,v=.ref x/\h.get? x=↑o/\o.cls=.type "tuple"/\o.data=.seq #v[.int p.1 t,.int p.2 u] n
def VP{x y:hR}{p q:Int×Int}{Q:Bool->h9->Prop}(hx:yf s.heap x p)(hy:yf s.heap y q)(h:Q (Js p q) s):ii (ik prog w) A (keyLt' (tuples' true) x y) Q E s:=by
 obtain⟨a,o,t,u,n,rfl,h1,h2,h3⟩:=hx;obtain⟨b,o',t',u',n',rfl,k1,k2,k3⟩:=hy;refine PySem.W.kat_lt h1 h3 k1 k3<|uv<|sf<|ve (λe=>uO<|uv<|sf<|ve (λe2=>uO<|PySem.W.kat_nil ?_) λe2=>vf<|PySem.W.kat_one _ _<|wpAny_lt_int ?_) λe=>vf<|oneLt_int ?_
 ·have e1:=eq_of_beq e;have e2:=eq_of_beq e2;have:Js p q=false:=FL.mpr<|.inr #[e1.symm,Int.le_of_eq e2.symm];rw[this]at h;exact h
 ·have e1:=eq_of_beq e;have:Js p q=decide (p.2<q.2):=by unfold Js;rw[e1];simp
  rw[this]at h;exact h
 ·have:Js p q=decide (p.1<q.1):=by unfold Js;rw[e];simp
  rw[this]at h;exact h
def yf.keep{h a:jd}(k:∀b o,h.get? b=↑o->o.cls=.type "tuple"->a.get? b=↑o)(z:yf h v p):yf a v p:=by obtain⟨x,o,t,u,n,e,d,c,f⟩:=z;exact#[x,o,t,u,n,e,k x o d c,c,f]
def FM{h a:jd}(k:∀b o,h.get? b=↑o->o.cls=.type "tuple"->a.get? b=↑o):∀{c:List hR} {d:List (Int×Int)},Paired (yf h) c d->Paired (yf a) c d:=by
 intro _ _ z
 induction z with
 |nil=>exact .nil
 |cons h t e=>exact .cons (h.keep k) e
def FN:∀{d:List hR} {e:List (Int×Int)},Paired (yf h) d e->∃c,PySem.W.KatTups h d c/\c.length=d.length/\∀v∈c,∃i t,v=mo i t
 |_,_,.nil=>#[[],PySem.W.KatTups.nil,rfl,λ_ z=>iv z jB]
 |_,_,.cons a b=>by
  refine e1a3 (FN b) λc f g j=>?_;obtain⟨x,o,t,u,n,rfl,k,l,m⟩:=a;refine#[_::c,#[#[x,o,_,n,rfl,k,l,m,rfl],f],by simp[g],λv p=>?_];rcases List.mem_cons.mp p with z|z
  ·exact#[_,_,z]
  ·exact j v z
def Hc:∀{c:List hR} {d:List (Int×Int)},Paired (yf h) c d->∀i,i<c.length->yf h (c.getD i .none) (d.getD i (0,0)):=by
 intro _ _ z
 induction z with
 |nil=>intro i z;exact iv z<|Nat.not_lt_zero _
 |cons a b e =>
  intro i z
  cases i with
  |zero=>exact a
  |succ i=>simpa using e i (by simpa using z)
def LX{d:List hR}{n:Nat}(D:s.heap.get? a=↑(mQ "list" d.toArray n))(hp:Paired (yf s.heap) d m)(I:d.length<64)
 (h:∀J:List Nat,J.Perm (iG d.length)->(J.map λi=>m.getD i (0,0)).Pairwise (λx y=>Js y x=false)->P (.done<|.ret .none) { s with heap:=sortedHeap s.heap a d (J.map λi=>d.getD i .none).toArray}):ii (ik U w) A (Builtin.«list.sort» #[[.ref a],[]]) P E s:=by
  rw[list_sort_plain]
  have sl:(64:Nat)<=hZ:=by rw[jt];decide
  have hz:d.length<=hZ:=by lia
  refine am<|listItems_at D rfl<|am<|uw D rfl ?_ (hsz:=by simpa using hz)
  obtain⟨L,X⟩:∃L,(s.heap.update a<|Obj.mapSeq λ_=>#v[]).get? a=some (mQ "list" #v[] L):=#[_,get?_update_seq D _]
  refine am<|seqEpoch_at X rfl<|am<|wpAny_newTuple<|am<|ur<|iX ?_
  have F:(((s.heap.update a<|Obj.mapSeq λ_=>#v[]).push<|mQ "tuple" d.toArray 0).push<|mQ "list" #v[] 0).get? a=↑(mQ "list" #v[] L):=ci _<|ci _ X
  have g:Paired (yf<|((s.heap.update a<|Obj.mapSeq λ_=>#v[]).push<|mQ "tuple" d.toArray 0).push<|mQ "list" #v[] 0) d m:=FM (λb o z c=>ci _<|ci _<|(iZ _ _ (λq=>by rw[<- q,D]at z;cases z;have c:kD "list"=kD "tuple":=c;injection c with c;exact iv c q0q)).trans z) hp
  have sz:d.toArray.size=d.length:=by simp
  by_cases Y:d.length<2
  · rw[hI q0a, hI q0a]
    refine am<|ap<|am<|ap ?_
    refine am<|seqEpoch_at F rfl<|am<|uw F rfl ?_ (hsz2:=by simp[SortSt.mk',arrOf];lia)
    have key:=h (iG d.length) (.refl _) (by
      rcases d with _|⟨v,_|⟨v2,r⟩⟩
      · simp
      · simp
      · simp at Y; lia)
    have e:((iG d.length).map λi=>d.getD i .none).toArray=Array.map (λx=>x.snd) (d.toArray.zip d.toArray):=by
      rcases d with _|⟨v,_|⟨v2,r⟩⟩
      · simp
      · simp
      · simp at Y; lia
    rw[e]at key
    simp only[rP,lN,pP]
    exact ap key
  rw[cr q0a,cr q0a]
  refine e1a3 (FN g) λfs f1 f2 f3=>?_
  refine am<|PySem.W.kat_kind (T:=.type "int") f1 q0a (λv hv=>?_) q0q ?_
  · obtain⟨i, t, rfl⟩ := f3 v hv
    exact PySem.W.Looks.now
  refine am (jb (PySem.W.kat_run (ks:=d) (vs:=d) (κ:=tuples' true) rfl q0a I (Q:=λf u=>∃p:Array Nat,p.size=d.length/\arrOf f=Array.map (PySem.W.kas_item (d.toArray.zip d.toArray)) p/\failedOf f=none/\u={ s with heap:=((s.heap.update a (Obj.mapSeq λ_=>#v[])).push (mQ "tuple" d.toArray 0)).push (mQ "list" #v[] 0)}/\p.toList.Perm (iG d.length)/\(p.toList.map λi=>m.getD i (0,0)).Pairwise (λx y=>Js y x=false))
    (G:=λp u=>u={ s with heap:=((s.heap.update a (Obj.mapSeq λ_=>#v[])).push (mQ "tuple" d.toArray 0)).push (mQ "list" #v[] 0)}/\p.toList.Perm (iG d.length)/\(p.toList.map λi=>m.getD i (0,0)).Pairwise (λx y=>Js y x=false)) (λp f u M O R q4=>#[p,M,O,R,q4]) ?_) ?_ λ_ _ z=>z)
  rotate_left
  · rintro⟨⟨⟩, f⟩ u ⟨p, M, O, R, rfl, g1, g2⟩
    have Z:=PySem.W.kat_snds (vs:=d) (ks:=d) rfl O
    refine am<|seqEpoch_at F rfl<|am<|uw F rfl ?_ (hsz2:=by rw[Z];simp[M];lia)
    rw[R]
    simp only[rP,lN,pP]
    rw[Z]
    exact ap<|h _ g1 g2
  · refine Sc (N := d.length) (lt := λi j => Js (m.getD i (0, 0))<|m.getD j (0, 0)) ⟨λa => ?_, λa b c z1 z2 => ?_, λa b z => ?_⟩ (λi j C H B k => ?_) q0a (hW _) λl c1 c2 => #[rfl, ?_, ?_]
    · exact FL.mpr<|.inr #[rfl, oT _]
    · have z1 := FL.mp z1
      have z2:=FL.mp z2
      exact FL.mpr q0a
    · have z := a1t.mp z
      exact FL.mpr q0a
    · exact VP (Hc g i H) (Hc g j B) k
    · have := c1.toList
      simpa using this
    · rw[List.pairwise_iff_getElem]
      intro i j H B S
      have hl:l.size=d.length:=by have:=c1.size_eq;simpa using this
      have q:=c2 i j (my S) (by simpa[hl] using B)
      have gi:l.getD i 0=l.toList[i]'(by simpa using H):=by
        have:i<l.size:=by simpa using H
        simp[Array.getD,this]
      have gj:l.getD j 0=l.toList[j]'(by simpa using B):=by
        have:j<l.size:=by simpa using B
        simp[Array.getD,this]
      rw[vw,vw,<- gi,<- gj]
      exact q
def Ip{a:List hR}(u:s.heap.IsList l a.toArray)(v:Paired (yf s.heap) a B)(f:a.length<64)
 (h:∀j C r (d:List Nat),⇑s<=r->d.Perm (iG a.length)->(d.map λi=>B.getD i (0,0)).Pairwise (λx y=>Js y x=false)->(∃n,j.get? r=some { cls:=.type "list",data:=.seq (d.map λi=>a.getD i .none).toArray n})->(∀c o,s.heap.get? c=↑o->j.get? c=↑o)->Q (.ref r) { s with heap:=j,toks:=C}) :
    ii (ik t w) A (call 156 [.ref l]) Q E s:=by
  refine r8 kind_sorted plain_sorted entry_sorted (args_sorted1 _) ?_
  have sl:(64:Nat)<=hZ:=by rw[jt];decide
  refine am (m:=checkCount "sorted" 1 1 _)<|ap<|am<|collect_list u ?_ q0d
  have e:∀c o,s.heap.get? c=↑o->(125).get? c=↑o:=λc o q=>(iZ _ _<|jD<|ie q).trans<|ci _ q
  have sz:⇑s<=(125).objs.size:=by rw[o6,tV];exact mr _
  generalize 125=k at e sz ⊢
  refine am<|ur ?_
  have p:(k.push<|mQ "list" a.toArray 0).get? k.objs.size=↑(mQ "list" a.toArray 0):=iq _ rfl
  refine am<|iX<|jl slot_list_sort ⟨_,p,rfl⟩ entry_list_sort (LX p (FM (λb o z _=>ci _<|e b o z) v) f λd D F=>#[_,rfl,?_])<|args_list_sort _
  obtain⟨G,H⟩:=sortedHeap_at (out:=(d.map λi=>a.getD i .none).toArray) p
  refine ap #[_,rfl,h _ s.toks k.objs.size d sz D F #[G,by simpa using H] λc o g=>?_]
  have lt:=ie<|e c o g
  rw[sortedHeap_old (iz lt)<|by rw[tV];exact oS lt]
  exact ci _<|e c o g
end SX
namespace L2
open PySem PySem.Spec PyProof.Rows SX
def range_getD(l:List a)(d:a):(iG l.length).map (λi=>l.getD i d)=l:=by refine List.ext_getElem q0o λi c b=>?_;simp[List.getD,b]
def Hd(h:Paired R c k):∀{b:List Nat},(∀i∈b,i<c.length)->Paired R (b.map λi=>c.getD i d) (b.map λi=>k.getD i e):=by
 have g:∀i,i<c.length->R (c.getD i d) (k.getD i e):=by
  induction h with
  |nil=>exact λi z=>iv z<|Nat.not_lt_zero _
  |cons a _ f =>
   intro i z
   cases i with
   |zero=>exact a
   |succ i=>simpa using f i (by simpa using z)
 intro b
 induction b with
 |nil=>exact λ_=>.nil
 |cons i r f=>exact λz=>.cons (g i<|z i ic)<|f λj l=>z j<|ij _ l
def pairs_at(I:Inv X g B H s):∀{i:List V} {d:List hR} {f:List (Int×Int)},Vals i d->Paired (λ(v:V)(p:Int×Int)=>∃t,v=.ref t/\H t=↑(.tup [.int p.1,.int p.2])) i f->Paired (yf s.heap) d f:=by
 intro _ _ f z
 induction z generalizing f with
 |nil=>intro w;cases w;exact .nil
 |cons r C j=>intro w;cases w with|cons q k =>
  refine e1a2 q λt e h=>?_;subst e;obtain rfl:=r;obtain⟨d,l,⟨o,m,u,n,x⟩,_⟩:=I.tuple<|zX.of h
  cases l with|cons a b =>
  cases b with|cons b c =>
  cases c;obtain⟨y,rfl⟩:=a;obtain⟨A,rfl⟩:=b;exact .cons #[t,o,y,A,n,rfl,m,u,x]<|j k
def Iq:zq X 156 (λm H Q=>∃(a:hO)(c:List V) (j:List (Int×Int)),m=[.ref a]/\wR X.K H a c/\Paired (λ(v:V)(p:Int×Int)=>∃t,v=.ref t/\H t=↑(.tup [.int p.1,.int p.2])) c j/\c.length<64 /\
  ∀(l:hO)(b:List Nat),H l=none->b.Perm (iG c.length)->(b.map λi=>j.getD i (0,0)).Pairwise (λx y=>Js y x=false)->Q (.ref l) (upd H l (.lst (b.map λi=>c.getD i .xj)))):=by
 intro w s R H m c Q I r h;obtain⟨a,f,j,rfl,A,B,C,q⟩:=h;obtain⟨u,rfl,D⟩:=vals1 r;cases D;refine e1a3 (I.list A) λd k E S=>?_;have F:f.length=d.length:=k.length;refine Ip E.isList (pairs_at I k B) q0d λT G r b z g J L M=>?_;obtain⟨n,e⟩:=L;rw[<- F]at g;have N:∀i∈b,i<f.length:=λi O=>by simpa using g.subset O
 have P:b.length=f.length:=by simpa using g.length_eq
 exact#[.ref r,_,I.laid (t':=G) (o:=.lst<|b.map λi=>f.getD i .xj) M z #[by rw[h8,P];omega,b.map λi=>d.getD i .none,n,Hd k N,e],rfl,q r b (I.wy.fresh z) g J]
end L2
namespace WL
variable[L2.GX]
open PySem L2 SX
open Rep (rp)
open Ow (sl)
open Sls (rel)
section
variable{D:Type}[Sls D]
def Pc:∀{a:List d} {b:List V},Paired R a b->Paired (λv x=>R x v) b a:=by
 intro _ _ z
 induction z with
 |nil=>exact .nil
 |cons h t c=>exact .cons h c
def Kl{a b:Type}{R S:a->b->Prop}(h:∀x y,R x y->S x y):∀{c:List a} {d:List b},Paired R c d->Paired S c d:=λz=>L2.Paired.XW z h
def FO(B:Gl X "sorted")(C:X.mg "sorted"=none)(G:ER X E T a I)(k:hV [a] X.env=78::hV [] X.env:=by rfl) :
  EO X E T (.Call (.Name "sorted" p) [a] [] pos) (cK I λ(m:OL (Int×Int)->D->Prop) g b=>(g b).length<64/\∀c,c.Perm (g b)->c.Pairwise (λx y=>Js y x=false)->m #[c] b):=by
 refine e1a2 G λta J L=>?_;refine#[_,xk Iq B C kT (vI J vU k) (he:=k),λd F R M H m N Q s O P S=>L d F R M H _ N _ s O (λg b u n U W o Y f Z=>?_) S];obtain⟨q,r,rfl,h1,h⟩:=Z b n U W 61 f;have A:(g b).length=r.length:=h.length;refine#[_,r,g b,rfl,wR.of h1,Kl (λv x z=>?_)<|Pc h,by rw[<- A];exact o.1,λl ix hl j sn=>?_]
 ·obtain⟨t,u,w,rfl,_,e,e1,e2⟩:=z;exact#[t,rfl,by rw[e,e1,e2]]
 ·rw[<- A]at j;have lt:∀i∈ix,i<(g b).length:=λi hi=>by simpa using j.subset hi
  refine e1a3 (yp f hl<|Hd (d:=(0,0)) (e:=V.xj) h lt) λR' c3 s3 n3=>?_;exact P _ b _ _ n R' _ (o.2 _ (by have:=j.map<|λi=>(g b).getD i (0,0);rwa [range_getD]at this) sn) (Ch.trans s f.tab Y c3) s3 n3
def tw_trueR{f:Type}[Rep f]{h:Wf D (D->List f) D}(p:ER X E T a h)(r:∀b,rj a X.env b=(do let v <- b;nE a.pos;lw [v] (uQ v)):=by intro _;rfl):TW X E T a (cK h λi g c=>i (!(g c).isEmpty) c):=by
 refine e1a2 p λL t w=>?_;refine#[_,JD t r,λd F R x H i y Q s z A B=>w d F R x H _ y _ s z (λg c u j k m C G n I=>?_) B];obtain⟨q,e,rfl,J,o⟩:=I c j k m 61 n;refine#[!e.isEmpty,.inl #[e,wR.of J,rfl],?_]
 have:e.isEmpty=(g c).isEmpty:=by generalize g c=l at o;cases o<;>rfl
 rw[this];exact A _ c j k m C G n
end
section
variable{D PO τ:Type}[Sls D][Sls PO][Ow τ]{α:Type}[Rep α]
def Km(q:ID)(i:Nat)[Sls j][A:At i D (Bd C l) j](n:q.ok l)(o:BH X.K C)(t:wD X.K C q.nm)(u:X.A.units+1<kI)(w:PE X (.Name x b) (v9 i))(B:EV X T a f)(m:M1 X (.Attribute (.Name x b) q.nm G) "get" apos a pos:=by exact#[rfl,rfl,rfl,rfl])(I:i7 (.Name x b) q.nm X.env (eval (.Name x b) X.env)=eval (.Name x b) X.env:=by rfl) :
  EW X E T (.Call (.Attribute (.Attribute (.Name x b) q.nm G) "get" apos) [a] [] pos) (λ(d:D)(c:Option Int->D->Prop) _=>c (lk 84<|f d) d):=by
 refine e1a2 B λW J L=>?_;refine#[_,Qz u (xB w I) J m,λd F R M H c Y Q s N O Z=>?_];obtain⟨p,P,e1,e2,e3,e4,us,S,e,_,_⟩:=xh (i:=i) s;refine e1a4 (Bm e q n) λy U h _ _=>?_;refine#[_,S,p,C,P,_,_,rfl,e.ob,o,t,U,y,rfl,.inl #[_,.inl h],L d F R M H _ s λv r=>?_];subst r;have g:=yW.k (k:=iM<|f d) h;rw[zi]at g;refine#[_,g,O _ d _ F R H N 61 s ?_]
 cases lk 84 (f d) with
 |none=>exact rfl
 |some z=>exact#[(λz=>by cases z),rfl]
def Sd(q:ID)(i:Nat)[Sls n][A:At i D (Bd C o) n](t:q.ok o)(u:BH X.K C)(w:wD X.K C q.nm)(B:X.A.units+1<kI)(G:PE X (.Name x c) (v9 i))(I:EV X T a f)(J:EV X T b g)(m:M2 X (.Attribute (.Name x c) q.nm L) "get" apos a b pos:=by exact#[rfl,rfl,rfl,rfl])(M:i7 (.Name x c) q.nm X.env (eval (.Name x c) X.env)=eval (.Name x c) X.env:=by rfl) :
  EW X E T (.Call (.Attribute (.Attribute (.Name x c) q.nm L) "get" apos) [a,b] [] pos) (λ(d:D)(e:Int->D->Prop) _=>e ((lk 84<|f d).getD<|g d) d):=by
 refine e1a2 I λta N O=>?_;refine e1a2 J λtb P S=>?_;refine#[_,QA B (xB G M) N P m,λd F R h H e Ke Q s U W ke=>?_];obtain⟨p,Y,e1,e2,e3,e4,us,Z,j,_,_⟩:=xh (i:=i) s;refine e1a4 (Bm j q t) λy l1 l _ _=>?_;refine#[_,Z,p,C,Y,_,_,rfl,j.ob,u,w,l1,y,rfl,.inl #[_,.inl l],O d F R h H _ s λv r=>S d F R h H _ s λv' r'=>?_];subst r r';have g:=yW.k (k:=iM<|f d) l;rw[zi]at g;refine#[_,g,W _ d _ F R H U 61 s ?_]
 cases lk 84 (f d) with
 |none=>exact rfl
 |some z=>exact rfl
def VQ(q:ID)(i:Nat)[Sls e][A:At i D (Bd C g) e][U:Pt i e (Bd C g) D](n:q.ok g)(o:BH X.K C)(t:wD X.K C q.nm)(u:PE X (.Name x b) (v9 i))(w:EV X T a f)(m:M1 X (.Attribute (.Name x b) q.nm B) "pop" apos a pos:=by exact#[rfl,rfl,rfl,rfl])(G:i7 (.Name x b) q.nm X.env (eval (.Name x b) X.env)=eval (.Name x b) X.env:=by rfl) :
  EW X E T (.Call (.Attribute (.Attribute (.Name x b) q.nm B) "pop" apos) [a] [] pos) (λ(d:D)(h:Int->D->Prop) _=>∃v,lk 84 (f d)=↑v/\h v (U.put (A.hole d)<|q.set (A.get d)<|dk 84<|f d)):=by
 refine e1a2 w λta I J=>?_;refine#[_,QB (xB u G) I m,λd F R L H h Ke Q s M N ke=>?_];obtain⟨p,O,e1,e2,e3,e4,us,P,j,S,W⟩:=xh (i:=i) s;refine e1a4 (Bm j q n) λy Y k l Z=>?_;refine#[_,P,p,C,O,_,_,rfl,j.ob,o,t,Y,y,rfl,.inl #[_,.inl k],J d F R L H _ s λv r=>?_];subst r;refine e1a2 M λz h1 h2=>?_;refine#[_,iM<|f d,V.int z,k,rfl,(by rw[zi,h1];rfl),?_];rw[J2];obtain⟨c,s'⟩:=W (U:=U) l<|Z (dk 84<|f d)<|S _ l;exact N z _ _ F R _ h2 c s' rfl
def Ko{R:Rg}{H:Hp}{y:α}:∀{xs:List α} {vs:List V},Paired (rp R H) (xs++[y]) vs->∃us u,vs=us++[u]/\Paired (rp R H) xs us/\rp R H y u:=by
 intro xs
 induction xs with
 |nil=>intro _ z;cases z with|cons h t=>cases t;exact#[[],_,rfl,.nil,h]
 |cons a xs ih =>
  intro _ z
  cases z with|cons h t =>
  obtain⟨us,u,rfl,h1,h2⟩:=ih t;exact#[_::us,u,rfl,.cons h h1,h2]
def VR(i:Nat){D0:Type}[Sls D0][A:At i D (OL α) D0][U:Pt i D0 (OL α) D](hn:PE X 161 (v9 i))(hb:PE X (.Call (.Attribute 161 "pop" apos) [] [] pos) (a0s X.K "list" a0t<|v9 i)) :
  EW X E T (.Call (.Attribute 161 "pop" apos) [] [] pos) (λ(d:D)(Kn:α->D->Prop) _=>∃ys y,(A.get d).l=ys++[y]/\Kn y (U.put (A.hole d) #[ys])):=by
 refine#[_,hb,λd F R σ H Kn Ke Q s hw kn ke=>?_];refine e2a4 (AB (i:=i) s) λa vs g1 g2 g3 g4=>?_;refine e2a2 hw λys y e hk=>?_;rw[e]at g3;obtain⟨us,u,rfl,h1,h2⟩:=Ko g3;obtain⟨c2,s2⟩:=g4 _ _ h1;refine#[_,g1,.inl #[rfl,_,wR.of g2],a,_,u,rfl,rfl,g2,q0o,?_];rw[List.dropLast_concat];exact kn y _ u F R _ hk c2 s2<|s.val c2 h2
def Au{R:Rg}{H:Hp}:∀{xs:List α} {vs:List V} (k:Nat),Paired (rp R H) xs vs->Paired (rp R H) (xs.eraseIdx k) (vs.eraseIdx k):=by
 intro _ _ k z
 induction z generalizing k with
 |nil=>exact .nil
 |cons h t ih=>cases k with
  |zero=>exact t
  |succ k=>exact .cons h<|ih k
def Pd{a:i8}(i:Nat){D0:Type}[Sls D0][A:At i D (OL α) D0][U:Pt i D0 (OL α) D]{we:Wf D Int D}(hn:PE X 161 (v9 i))(h:EW X E T a we)
  (hb:∀{t:TA},PA X [a] t->PE X (.Call (.Attribute 161 "pop" apos) [a] [] pos) (tBM X.K "list" Qs (v9 i) t)) (hs:hV [a] X.env=78::hV [] X.env:=by rfl) :
  EW X E T (.Call (.Attribute 161 "pop" apos) [a] [] pos) (cK we λ(Kn:α->D->Prop) k d'=>0<=k/\∃y,(A.get d').l[k.toNat]?=↑y/\(A.get d').l.length<1000/\Kn y (U.put (A.hole d') #[(A.get d').l.eraseIdx k.toNat])):=by
 refine e1a2 h λt h1 h2=>?_;refine#[_,hb<|vI h1 vU hs,λd F R σ H Kn Ke Q s hw kn ke=>?_];refine e2a4 (AB (i:=i) s) λa0 vs0 g1 g2 g3 _=>?_;refine#[_,g1,.inl #[rfl,vs0,wR.of g2],h2 d F R σ H _ _ _ s hw (λk d' v F' R' H' q c s' r=>?_) ke];subst r;refine e2a4 (AB (i:=i) s') λa' U6 k1 k2 k3 k4=>?_;rw[g1]at k1;cases k1;obtain⟨q0,y,e,ql,hk⟩:=q;refine e1a2 (xD k3 e) λu hu ru=>?_;have lt:=(List.getElem?_eq_some_iff.mp hu).1;have ll:=Paired.length k3;obtain⟨c2,s2⟩:=k4 _ _<|Au k.toNat k3;refine#[a0,U6,k,k.toNat,u,rfl,rfl,k2,q0a,q0a,?_,hu,kn y _ u F' R' _ hk (Ch.trans s s'.tab c c2) s2<|s'.val c2 ru];have e0:163=k:=cr q0a;show (if (decide (0<=163)&&decide (163<(U6.length:Int)))=true then some (163).toNat else none)=_;rw[e0];have:(decide (0<=k)&&decide (k<(U6.length:Int)))=true:=by simp;lia
 exact hI this
end
end WL
namespace L2
open PySem PySem.Spec PyProof.Rows SX
def Zh(f:TE)(c:Int):TE:=λg H Q=>f g H λv d=>∃(a:hO) (b:List (Key×V)) (e:List Int),v=.ref a/\d a=↑(.dK b)/\b.map (·.1)=e.map iM/\∀p,d p=none->Q (.ref p) (upd d p<|.dK<|e.map λk=>(iM k,V.int c))
def stored_new:∀{l:List (Key×hR)},k∉l.map (·.1)->stored l k y=l++[(k,y)]
 |l,h=>by unfold stored;rw[cr];simp only[o8,jf,not_exists,not_and];exact λe a z=>h<|List.mem_map.mpr #[e,a,z]
def Kq:∀{l:List k} {c:List m},Paired R c (l++[v])->∃b d,c=b++[d]/\Paired R b l/\R d v:=by
 intro e
 induction e with
 |nil=>intro _ z;cases z with|cons h t=>cases t;exact#[[],_,rfl,.nil,h]
 |cons a e f =>
  intro _ z
  cases z with|cons h t =>
  obtain⟨g,u,rfl,i,j⟩:=f t;exact#[_::g,u,rfl,.cons h i,j]
def BL:∀{l:List c} {m:List d},l.length=m.length->(∀(j:Nat)(k:c)(v:d),l[j]?=↑k->m[j]?=↑v->R k v)->Paired R l m
 | [],[],_,_=>.nil
 | [],_::_,h,_=>by cases h
 |_::_,[],h,_=>by cases h
 |a::l,b::m,h,f=>.cons (f 0 a b rfl rfl)<|BL (oU h) λj k v e g=>f (j+1) k v e g
def Ks{c:Int}:∀{a:List Int} {r:List (Key×hR)},r.map (·.1)=a.map iM->(∀e∈r,∃t,e.2=.int c t)->KV (a.map λk=>(iM k,V.int c)) r
 | [],[],_,_=>.nil
 | [],_::_,h,_=>by cases h
 |_::_,[],h,_=>by cases h
 |k::a,e::r,h,f=>by rw[iN,iN]at h;injection h with b d;obtain⟨t,g⟩:=f e ic;exact .cons #[b.symm,t,g]<|Ks d λi j=>f i<|ij _ j
def LY{P:iT}{w:ji}(g:∀v k,i v k->AW k v=true)(h:StoredAll i j l r):∀{a:List Key},Paired (λk v=>AW k v=true) a l->a.Nodup->r.map (·.1)=a/\∀e∈r,∃v,j v e.2:=by
 induction h with
 |nil=>intro a c _;cases c;exact#[rfl,λ_ z=>by cases z]
 | @snoc l r v k y _ m n o =>
  intro a c p;obtain⟨q,d,rfl,s,t⟩:=Kq c;have u:k=d:=(wl P w).inj v k d (g v k m) t;subst u;have b:=List.nodup_append.mp p;obtain⟨f,x⟩:=o s b.1;have A:k∉r.map (·.1):=λz=>by rw[f]at z;exact b.2.2 k z k q0o rfl
  rw[stored_new A,kH,f];refine#[rfl,λe B=>?_];rcases List.mem_append.mp B with z|z
  ·exact x e z
  ·rw[List.mem_singleton.mp z];exact#[v,n]
def Sg(af:X.calm=true)(hi:PE X iter ti)(E:oX d X.env=pure [])(F:∀y∈d.names,y.2≠.cell)(f:d.kind=.function)(p:∀y∈d.names,y.2=.local->d.names.lookup y.1=some .local)(hx:d.names.lookup x=some .local)(hd:(x==66)=false:=by decide)
 (hs:∀x,kO iter X.env x=pure x:=by intro _;rfl):PE X (.DictComp (.Name x q1) (.Constant (.int c) j q2) [#[.Name x px,iter,[],0]] d pos) (Zh ti c):=by
  intro u s σ H Q I h
  have hh:X.A.handled=none:=I.ok.hd af
  rw[arm_eval_DictComp]
  refine pH (use:=none) rfl hs E f p<|ww (hi u s σ H _ I h) λv l z9=>e2a3 z9 λx1 H1 I1 r1 N=>e3a4 N λa r O e1 ha G q=>?_
  subst e1
  obtain rfl:v=iD a:=r1
  obtain⟨hz,S,m,kv,xJ⟩:=I1.wy a _ ha
  obtain⟨B,D⟩:=xJ.dictAt
  have alt:a<⇑l:=D.lt_size
  refine wpAny_pyIter_dict S D ?_
  -- the M ah at n,the dict at n+1,the frame at n+2
  have u0:∀b o,l.heap.get? b=↑o->(l.heap.push 76).get? b=↑o:=λb o e=>ci _ e
  have i0:Heap.IsKeyIter (l.heap.push 76) ⇑l a 0 m.length B:=#[_,iq _ rfl,rfl,rfl]
  have z0:(l.heap.push 76).objs.size=⇑l+1:=jR _ _
  generalize l.heap.push 76=g at u0 i0 z0 ⊢
  refine je<|wpAny_newFunctionEnv F (λy hy=>by cases hy) (λJ T U=>?_) f
  have d1:(g.push 132).DictOf (wl X.prog X.w) g.objs.size []:=td g
  have u1:∀b o,g.get? b=↑o->(g.push 132).get? b=↑o:=λb o e=>ci _ e
  have z1:(g.push 132).objs.size=g.objs.size+1:=jR _ _
  generalize g.push 132=g1 at d1 u1 z1 T U ⊢
  have u2:∀b o,g1.get? b=↑o->J.get? b=↑o:=λb o e=>U.extBut b o (iz<|ie e)<|ci _ e
  have c1:g.objs.size≠g1.objs.size:=by lia
  have n1:∀b∈[⇑l,a],b<g.objs.size:=λb hb=>by
    rcases List.mem_cons.mp hb with z|z
    · rw[z, z0]; exact jP _
    · rw[List.mem_singleton.mp z, z0]; exact oS alt
  have W:=Walks.dictKeys (prog:=X.prog) (w:=X.w) (knd:=wl X.prog X.w) hh ⇑l a (iz alt) m B
  have st:J.IsKeyIter ⇑l a 0 m.length B/\J.DictAt (wl X.prog X.w) a m B:=#[i0.at λo e=>u2 _ o<|u1 _ o e,D.at' λo e=>u2 _ o<|u1 _ o<|u0 _ o e]
  have C:=codeAny_compLoop_walkD (R:=compPost 54 X.A X.xe none (EP X u σ Q) (iD g.objs.size) g1.objs.size) (s:={ l with heap:=J,toks:=l.toks+0}) (kx:=.Name x q1) (vx:=.Constant (.int c) j q2) (iter:=iter) (x:=x) (px:=px) (ifs:=[]) (scope:=d) (pos:=pos) (D:=g.objs.size) (cenv:=tW d [] g1.objs.size X.env) W (λ_=>true) (λv k=>AW k v=true) (λ_ y=>∃t,y=.int c t)
    (lookup_relabel_local hx) (by simp[tW,pq,f]) c1 (λY=>kh _<|n1 _ Y) (λY=>kh _<|oh (n1 _ Y)<|by rw[z1];exact jP _) st (d1.at λo e=>u2 _ o e) T (λi v L m3 _ _ _ _=>sR #[rfl,L.heap,L.toks,rfl,λ_ _ e=>e])
    (λi v L m3 Z _ hn Y _=>by
      refine e2a2 Z λk x' aj hk=>?_
      exact qb (lv (by show d.kind=_;exact f) (lookup_relabel_local hx) hn Y #[#[k,hk,hk],L.heap,L.toks,rfl,λ_ _ e=>e]) hd)
    (λi v L m3 _ _ _ _ _=>wpAny_Constant_int #[#[_,rfl],L.heap,_,rfl,λ_ _ e=>e])
    (λh2 tk m' aa ag hn dd ab hP hS k=>?fin) (by rw[<- Paired.length kv];exact hz)
  · exact codeAny_compStart_dict C<|W.self 0 _ _ _ st C
  · refine#[m', hn, λh3 ae => ?_]
    have le:⇑l<=g.objs.size:=by rw[z0];exact mr _
    have k':∀b o,l.heap.get? b=↑o->h3.get? b=↑o:=λb o e=>by
      have lb:=ie e
      have lg:b<g.objs.size:=iE lb le
      have n2:b≠g1.objs.size:=iz (by rw[z1];exact oS lg)
      exact ae.extBut b o n2<|k b o n2 (λz=>by rw[List.mem_singleton.mp z]at lb;exact kh _ lb) (iz lg)<|u2 _ _<|u1 _ _<|u0 _ _ e
    have nH:H1 g.objs.size=none:=I1.wy.fresh le
    have kk:∀{r:List (Key×V)} {m:List (Key×hR)},KV r m->r.map (·.1)=m.map (·.1):=λh=>by
      induction h with
      |nil=>rfl
      |cons h _ ih=>rw[iN,iN,ih,h.1]
    have Z:Paired (λk v=>AW k v=true) (O.map iM) ag:=by
      rw[<- G,kk kv]
      refine BL (by rw[h8,ab]) λj k v J h2=>?_
      refine e2a2 (hP j v h2) λk' x' g1 g2=>?_
      rw[jU,g1]at J
      cases J
      exact g2
    have nd:(O.map iM:List Key).Nodup:=by
      rw[<- G,kk kv]
      obtain⟨o,es,ho,hc,ai,hk,hp,hn⟩:=id D
      exact hn
    obtain⟨f1,f2⟩:=LY (P:=X.prog) (w:=X.w) (λv k h=>h) hS (by rw[List.filter_eq_self.mpr<|λ_ _=>rfl];exact Z) nd
    have rel:KV (O.map λk=>(iM k,V.int c)) aa:=Ks f1 λe he=>(f2 e he).elim λv Z=>Z
    have ll:O.length=r.length:=by have:=congrArg oJ G;simpa using this.symm
    exact#[.ref g.objs.size,_,I1.laid (a:=g.objs.size) (o:=.dK<|O.map λk=>(iM k,V.int c)) (t':=tk) k' le<|E6 (by rw[h8,ll];exact hz) (beq_eq_false_iff_ne.mpr λz=>iv I1.big<|by rw[<- z];exact Nat.not_lt.mpr le) rel<|dd.extBut ae.extBut c1,rfl,q _ nH]
end L2
namespace WL
variable[L2.GX]
open PySem L2
open Rep (rp)
open Ow (sl)
open Sls (rel)
section
variable{D PO τ:Type}[Sls D][Sls PO][Ow τ]{α:Type}[Rep α]
def Sh{F R:Rg}{H:Hp}{d:D}{g:St}(s:wG T F R H d g){p:hO}(c:H p=none){l:List (Int×α)}{us:List (Key×V)}(h:PK R H l us):∃e,Ch T F R H (λa=>a=p\/F a) e (upd H p<|.dK us)/\wG T F e (upd H p<|.dK us) d g/\Nw T (λa=>a=p) F e (upd H p<|.dK us) (Dc.mk l) (.ref p):=by
 refine e0a3 (s.new (.dK us) c) λi m j=>?_;have n:¬F p:=λz=>j<|s.sub p z;have f:Ext (λ_=>False) R H (λa=>R a\/a=p) (upd H p<|.dK us):=⟨λb o _ h=>by rw[vB<|vM h c];exact h,λa h=>h.elim .inl λq=>.inr<|by rw[q];exact c⟩;refine⟨λa=>R a\/a=p,#[m.keep,f.new,λa h=>h.elim (λq=>.inr<|by rw[q];exact c) .inl,λa h _=>.inl h],#[Sls.st s.rel f 121<|λ_ _ z=>z,λa h=>.inl<|s.sub a h,λa h=>?_,i.tab,.inl s.wx,s.wd],#[#[p,us,rfl,λb=>Iff.rfl,vF,RK (f.wide λ_ z=>z.elim) h],λa h=>.inr h,λa h k=>n (by rw[<- h];exact k),λh=>j<|by rw[<- h];exact s.wx]⟩;rcases h with h|h
 ·exact i.xP a h
 ·rw[h,vF];simp
def NH{c:Int}:∀l:List Int,PK R H (l.map λk=>(k,c)) (l.map λk=>((iM k:Key),V.int c))
 | []=>.nil
 |_::l=>.cons #[rfl,rfl]<|NH l
def Z4{y:Str}{r t u:Pos}{c:Int}{j:Nat}{a:mi}(q:ID)(i:Nat){m:Type}[Sls m][A:At i D (Bd C v) m](w:q.ok v)(B:BH X.K C)(G:wD X.K C q.nm)(l:X.calm=true)(I:PE X (.Name x h) (v9 i))(e:oX a X.env=pure [])(f:∀y∈a.names,y.2≠.cell)(g:a.kind=.function)(b:∀y∈a.names,y.2=.local->a.names.lookup y.1=some .local)(J:a.names.lookup y=some .local)(L:(y==66)=false:=by decide)(M:i7 (.Name x h) q.nm X.env (eval (.Name x h) X.env)=eval (.Name x h) X.env:=by rfl)
  (N:∀z,kO (.Attribute (.Name x h) q.nm O) X.env z=pure z:=by intro _;rfl) :
  EO X E T (.DictComp (.Name y r) (.Constant (.int c) j t) [#[.Name y u,.Attribute (.Name x h) q.nm O,[],0]] a pos) (λ(d:D)(n:Dc Int->D->Prop) _=>n #[((84).map (·.1)).map λk=>(k,c)] d):=by
 refine#[_,Sg l (xB I M) e f g b J L N,λd F R σ H n Ke Q s P S ke=>?_];obtain⟨p,U,e1,e2,e3,e4,us,W,o,_,_⟩:=xh (i:=i) s;refine e1a4 (Bm o q w) λz Y Z _ _=>?_;refine#[_,W,p,C,U,_,_,rfl,o.ob,B,G,Y,z,_,(84).map (·.1),rfl,Z,?_,λp' hp=>?_]
 ·unfold Cc;rw[lP,lP];rfl
 ·refine e1a3 (Sh s hp (NH (R:=R) (H:=H) (c:=c) ((84).map (·.1)))) λR' c3 s3 n3=>?_;exact S _ d _ _ F R' _ P c3 s3 n3
def Zi{j:Nat}(e:EV X T a f):EO X E T (.Dict [↑a] [.Constant .none j w] pos) (λ(d:D) (b:Dc (Option Int)->D->Prop) _=>b #[[(f d,none)]] d):=by
 refine e1a2 e λx g h=>?_;refine#[_,UD (Qy g KZ UC) rfl rfl q0o q0o,λd F R i H b y Q s k m z=>?_];intro p c;refine e0a3 (s.new (.dK []) c) λn A B=>?_;refine h d F R i _ _ n λv r=>#[vF,[(iM<|f d,.xj)],?_,(show 1<=15 by decide),?_]
 ·have r:v=V.int (f d):=r;rw[r];rfl
 ·rw[Uj];refine e1a3 (Sh (α:=Option Int) s c (l:=[(f d,none)]) (us:=[(iM<|f d,V.xj)])<|.cons ⟨rfl,rfl⟩ .nil) λo q t u=>?_;exact m _ d _ _ F o _ k q t u
def tw_dcNin(i:Nat)[Sls g][A:At i D (Dc α) g](h:X.A.units+1<kI)(j:EW X E T a wk)(m:PE X (.Name x c) (v9 i))(n:jm .NotIn (.Name x c)=false:=by with_unfolding_all rfl) :
  TW X E T (.Compare a [.NotIn] [.Name x c] pos) (cK wk λ(e:Bool->D->Prop) k b=>e (!(lk (A.get b).l k).isSome) b):=by
 refine e1a2 j λO o p=>?_;refine#[_,K0 (Dv h o m) n,λd F R q H e r Q s t v w=>p d F R q H _ r _ s t (λk b u z B C G I f J=>?_) w];subst J;obtain⟨y,P,L,M,N⟩:=EH (i:=i) f;refine#[_,L,y,_,rfl,yW.k (k:=iM k) M,_,rfl,?_];rw[NB N];exact v _ b z B C G I f
def a1u(i:Nat)[Sls q][A:At i D (Dc Int) q][U:Pt i q (Dc Int) D][J:Pj D PO n](B:X.A.units+1<kI)(C:PE X (.Name x G) (v9 i))(I:EV X T a f)(L:EV X T e h)(m:a0o X op (ipI g))
 (M:∀c j b,augStore a c j b=(do lw [b,c,j] (sV c j b);release [b,c,j] [];pure .next):=by intros;rfl) :
    S1 X E T ms n (.AugAssign (.Subscript (.Name x G) a p3) op e pos) (λ(d:D)(r:D->Prop)(_:τ->PO->Prop) _=>∃v,lk (A.get d).l (f d)=↑v/\(A.get d).l.length<hZ/\r (U.put (A.hole d) #[pk (A.get d).l (f d)<|g v<|h d])):=by
  refine e1a2 I λta N O=>?_
  refine e1a2 L λte P Q=>?_
  refine#[_,UB B C N P m M,λd F R o H r Kr Ke En s S W kr ke=>?_]
  refine e2a4 (RN (i:=i) s) λy us Y t p Z=>?_
  refine e1a3 S λv h1 h2 h3=>?_
  refine#[_,Y,O d F R o H _ s λk rk=>?_]
  subst rk
  refine e1a2 ((LQ p).1 v h1) λw w1 w2=>?_
  subst w2
  have u:=yW.k (k:=iM<|f d) t
  rw[w1]at u
  refine#[y,_,rfl,u,Q d F R o H _ s λz rz=>?_]
  subst rz
  obtain⟨c3,s3⟩:=Z _ _<|RM (R:=R) (H:=H) (k:=f d) (x:=g v<|h d) (v:=V.int<|g v<|h d) rfl p
  exact#[v,h d,rfl,rfl,_,Hz.k (k:=iM<|f d) t (by rw[LR p];exact h2),W _ F R _ o h3 c3 s3<|Ag.refl _ _]
end
section
variable{D:Type}[Sls D]
def tw_ninT{h:Wf D Int D}{i:Wf D (Tp Int) D}(r:EW X E T a h)(w:EW X E T b i)(x:jm .NotIn b=false) :
  TW X E T (.Compare a [.NotIn] [b] pos) (cB h i λk j t f=>j (!decide (k∈t.l)) f):=by
 refine e1a2 r λta z A=>?_;refine e1a2 w λtb B G=>?_;refine#[_,yC Ap z B x,λd F R m H j n Q s I J o=>A d F R m H _ n _ s I (λk L u M N O P p g S=>?_) o];refine G L M N m O _ n _ g P (λt f v U W Y Z c2 s2 r2=>?_) λC y d' F' R' H' k c s'=>o C y d' F' R' H' k (Ch.trans s g.tab p c) s';subst S;obtain⟨l⟩:=t;obtain⟨q,us,rfl,_,h1,h2⟩:=r2;have e:=ints_of (xs:=l) h2;subst e;refine#[q,_,rfl,.inr<|zX.of h1,rfl,BM _,_,rfl,?_];rw[hI rfl,CT];exact J _ f U W Y Z (Ch.trans s g.tab p c2) s2
end
end WL
namespace L2
variable[L2.GX]
open PySem PySem.Spec PyProof.Rows
def a3A(K:hJ)(d:TE):TE:=λe H Q=>d e H λx b=>∃a c,x=.ref a/\wR K b a c/\∀p,b p=none->Q (.ref p) (upd b p<|.lst c.reverse)
def Zj{X:Cx}{e:i8}{te:TE}{p2 p3 p4 pos:Pos}{j:Nat}(he:PE X e te):PE X (.Subscript e (.Slice none none (some<|.UnaryOp .USub (.Constant (.int 1) j p3) p4) p2) pos) (a3A X.K te):=by
 intro pins s σ H Q I h;refine tL<|ww (he pins s σ H _ I h) λv s1 z9=>e2a3 z9 λx H1 I1 r1 z89=>e2a3 z89 λa xs e1 hx q=>?_;subst e1;obtain rfl:v=iD a:=r1;refine wpAny_Slice ?_;rw[ul,evalPart_some];refine ap<|ap<|ww (WV Qb v4 pins s1 σ H1 (λv H=>v=.int (-1)/\H=H1) I1 #[1,rfl,rfl,rfl]) λu s2 z9=>e2a4 z9 λy H2 I2 r2 e2 e3=>?_;subst e2 e3;obtain⟨t,rfl⟩:=r2;have I4:Inv X pins σ H2 { s2 with heap:=s2.heap.push { cls:=.type "slice",data:=.fields #v[.none,.none,.int (-1) t]}}:=I2.kept (t':=s2.toks) λb ob q=>ci _ q;refine e1a3 (I4.list hx) λAV r pl hz=>?_;refine' tail_any pl.isList.typeIs slot_list_getitem.lookup ?_ ?hs
 case hs=>with_unfolding_all rfl
 refine um pl.isList (rE ..) .none .none (.int (-1) t) q0q ?_ (by rw[iu,<- r.length];exact hz);rw[PySem.W.krv_pick];refine#[.ref (s2.heap.push { cls:=.type "slice",data:=.fields #v[.none,.none,.int (-1) t]}).objs.size,_,I4.laid (t':=s2.toks) (o:=.lst xs.reverse) (λb ob q=>ci _ q) (hW _) ?_,rfl,q _<|I4.wy.fresh<|hW _];exact#[by rw[List.length_reverse];exact hz,AV.reverse,0,r.reverse,iq _ rfl]
end L2
namespace WL
variable[L2.GX]
open PySem L2
open Rep (rp)
open Ow (sl)
open Sls (rel)
section
variable{D:Type}[Sls D]{α:Type}[Rep α]
def LZ{R:Rg}{H:Hp}:∀{xs:List α} {vs:List V},Paired (rp R H) xs vs->Paired (rp R H) xs.reverse vs.reverse:=by
 intro _ _ z
 induction z with
 |nil=>exact .nil
 |cons h t ih=>rw[oK,oK];exact yE ih<|.cons h .nil
def Zk{j:Nat}(h:ER X E T a i) :
  EO X E T (.Subscript a (.Slice none none (some<|.UnaryOp .USub (.Constant (.int 1) j N) O) P) pos) (cK i λ(e:OL α->D->Prop) g b=>e #[(g b).reverse] b):=by
 refine e1a2 h λS k l=>?_;refine#[_,Zj k,λd F R m H e n Q s o r t=>?_];refine l d F R m H _ n _ s o (λg b u f v w x y c z=>?_) t;obtain⟨q,A,rfl,B,C⟩:=z b f v w 61 c;refine#[q,A,rfl,wR.of B,λp G=>?_];refine e1a3 (yp c G<|LZ C) λI J L M=>?_;exact r _ b _ _ f I _ x (Ch.trans s c.tab y J) L M
end
end WL
namespace K7
instance gx0:L2.GX:=#[λ_ _ _=>True]
abbrev XS:hO:=44
abbrev XC:hO:=56
abbrev XB:hO:=68
abbrev XO:hO:=80
abbrev XP:hO:=92
abbrev XF0:hO:=104
abbrev XV:hO:=116
abbrev XF:hO:=128
abbrev XT:hO:=140
abbrev XN:hO:=152
abbrev XR:hO:=175
abbrev C:hO:=533
open PySem L2 WL
noncomputable def top(i:Nat):iK:=PySem.Challenge.pw_slimbody_k12_tyings_refused.main.body.getD i<|.Pass #[0,0,0,0]
noncomputable abbrev xQ:iK:=top 15
noncomputable abbrev FP:iK:=top 16
noncomputable abbrev Ir:iK:=top 17
def He:Wf (List Int×Unit) Bool (Un×Unit):=λp a _=>a (asc p.1) (#[],())
def Hf:Wf (Tp Int×Unit) Bool (Un×Unit):=λp a _=>a (asc p.1.l) (#[],())
def NI(C:hO):Wf (List Int×Unit) Unit (Un×Unit):=λp a b=>(asc p.1=true->a () (#[],()))/\(asc p.1=false->b C (#[],()))
def NJ(C:hO):Wf (Tp Int×Unit) Unit (Un×Unit):=λp a b=>(asc p.1.l=true->a () (#[],()))/\(asc p.1.l=false->b C (#[],()))
def NK:Wf (List (Tp Int)×Unit) (OL Int) (Un×Unit):=λp a _=>∃U:List Int,U.length<64/\(∀r∈p.1,yV r.l/\∀x∈r.l,x∈U)/\a #[PY (p.1.map (·.l))] (#[],())
section
variable{P:iT}{w:ji}{K:hJ}{mg:Str->Option hR}{base:jd}{T:hO}
def Hg:vJ ["row"] ["row"] (vA xQ):=133
def L0{f c:hO}{fd:iY}(F:zA K "is_sum" "is_sum" xQ f fd)(hc:fd.code=.ref c)(B:JU mg base c T)(Zl:mg "all"=none)(Zm:mg "zip"=none):wn P w K mg base (wh P w) 1 f fd ["row"] (zh T He):=by
 refine' vL (Xf (A:=List Int×Unit) (PO:=Un×Unit) (τ:=Bool) (D':=Unit) (ms:=[]) (j:=0) F Hg rfl rfl λA outer s H E hr=>?body) ?nice
 case body =>
  exact vC<|vP<|vS<|Rn (vz 0) (wg<|JY (v7<|vz 0) (HV vE) HU)<|λh=>JT a21 (c:=c) (P:=T) rfl #[hc,B.hd,B.blt] hr.depth rfl Zl rfl Zm h rfl rfl rfl q0s rfl rfl rfl q0s q0s q0s
 case nice =>
  intro p Kn Ke h
  walk_at "wl"
  rw[a07];exact h
def L4{f c:hO}{fd:iY}(F:zA K "is_sum" "is_sum" xQ f fd)(hc:fd.code=.ref c)(B:JU mg base c T)(Zl:mg "all"=none)(Zm:mg "zip"=none):wn P w K mg base (wh P w) 1 f fd ["row"] (zh T Hf):=by
 refine' vL (Xf (A:=Tp Int×Unit) (PO:=Un×Unit) (τ:=Bool) (D':=Unit) (ms:=[]) (j:=0) F Hg rfl rfl λA outer s H E hr=>?body) ?nice
 case body =>
  exact vC<|vP<|vS<|Ro (vz 0) (OV (vz 0) (HV vE) HU)<|λh=>JT a3n (c:=c) (P:=T) rfl #[hc,B.hd,B.blt] hr.depth rfl Zl rfl Zm h rfl rfl rfl q0s rfl rfl rfl q0s q0s q0s
 case nice =>
  intro p Kn Ke h
  walk_at "wl"
  rw[a07];exact h
def NL:vJ ["row"] ["row"] (vA FP):=133
def Hh{b:Bool}(h:(b=true->p)/\(b=false->q)):if (!b)=true then q else p:=by
 cases b
 ·exact h.2 rfl
 ·exact h.1 rfl
def Si{f C f1:hO}{fd Xt:iY}{Em:List hR}{B newId yY:String}(F:zA K "must_be_sum" "must_be_sum" FP f fd)(F1:Fn K mg "is_sum" xQ ["row"] f1 Xt)(G1:wn P w K mg base (wh P w) 1 f1 Xt ["row"] (zh T He))
  (hC:mg "NotASum"=↑(.ref C))(O:jE K C Em newId=true)(FB:kE B newId yY Em)(g0:∀H',GX.g C none H'):wn P w K mg base (wh P w) 2 f fd ["row"] (zh T<|NI C):=by
 refine' vL (Fj (wu q0q) (A:=List Int×Unit) (PO:=Un×Unit) (D':=List Int×Unit) (ms:=[]) (j:=0) F NL rfl rfl λPU A outer s H E hr=>?body) ?nice
 case body =>
  exact vC<|vZ (tw_not<|tw_val<|vK<|CV G1 hr rfl F1.at_ F1.fn.kp F1.bd Bb<|vG (vz 0) vD) (vC<|C3<|Fh rfl hC O FB g0<|vI Cd vU) vY
 case nice =>
  intro p Kn Ke h
  walk_at "wl"
  exact Hh h
def Sj{f C f1:hO}{fd Xt:iY}{Em:List hR}{B newId yY:String}(F:zA K "must_be_sum" "must_be_sum" FP f fd)(F1:Fn K mg "is_sum" xQ ["row"] f1 Xt)(G1:wn P w K mg base (wh P w) 1 f1 Xt ["row"] (zh T Hf))
  (hC:mg "NotASum"=↑(.ref C))(O:jE K C Em newId=true)(FB:kE B newId yY Em)(g0:∀H',GX.g C none H'):wn P w K mg base (wh P w) 2 f fd ["row"] (zh T<|NJ C):=by
 refine' vL (Fj (wu q0q) (A:=Tp Int×Unit) (PO:=Un×Unit) (D':=Tp Int×Unit) (ms:=[]) (j:=0) F NL rfl rfl λPU A outer s H E hr=>?body) ?nice
 case body =>
  exact vC<|vZ (tw_not<|tw_val<|vK<|CV G1 hr rfl F1.at_ F1.fn.kp F1.bd Bb<|vG (vz 0) vD) (vC<|C3<|Fh rfl hC O FB g0<|vI Cd vU) vY
 case nice =>
  intro p Kn Ke h
  walk_at "wl"
  exact Hh h
def Kt:vJ ["rows","odd","row","number"] ["rows"] (vA Ir):=133
def Sk{f C f1:hO}{fd Xt:iY}(F:zA K "total" "total" Ir f fd)(F1:Fn K mg "must_be_sum" FP ["row"] f1 Xt)(G1:wn P w K mg base (wh P w) 2 f1 Xt ["row"] (zh T<|NJ C))(a3B:mg "set"=none)(VS:mg "sorted"=none) :
  wn P w K mg base (wh P w) 3 f fd ["rows"] (zh T NK):=by
 refine' vL (w4 (A:=List (Tp Int)×Unit) (PO:=Un×Unit) (τ:=OL Int) (D':=Unit) (ms:=[]) (j:=3) F Kt rfl rfl λPU A outer s H E hr=>?body) ?nice
 case body =>
  have nd:=Kt.nd
  exact Ey (wu q0q) (vQ 1 nd<|Vd (w:=w) rfl rfl a3B)
   (Ey (wu q0q) (xW (is:=[]) (mb:=[]) (D1:=List (Tp Int)×SI w×Tp Int×Un×Unit) (D2:=List (Tp Int)×SI w×Tp Int×Un×Unit) (wu q0q) Bc rfl (xq (vz 0)) (v8 2 (vO nd))
    (Ey (wu q0q) (wA (vK (CV G1 hr rfl F1.at_ F1.fn.kp F1.bd Bb 118)))
     (vC (xW (is:=[]) (mb:=[]) (D1:=List (Tp Int)×SI w×Tp Int×Int×Unit) (D2:=List (Tp Int)×SI w×Tp Int×Int×Unit) (wu q0q) Bc rfl (Rp (vz 2)) (v8 3 (vO nd))
      (vC (vZ (tw_inS 1 (w:=w) rfl (vz 3) (pv 1) (by with_unfolding_all rfl))
       (vC<|Vf 1 (w:=w) rfl (vz 3)<|λh=>CD<|QT PySem.F.slot_set_discard PySem.F.type_set_discard QS (pv 1) h)
       (vC (Ve 1 (w:=w) rfl (vz 3) (λh=>CD (QT PySem.F.slot_set_add PySem.F.type_set_add UV (pv 1) h)))))) q0q q0q))) q0q q0q)
    (vC (vP (LL 1 (w:=w) rfl rfl rfl VS (pv 1)))))
 case nice =>
  intro p Kn Ke h
  walk_at "wl"
  obtain⟨U,hU,hr,hk⟩:=h;refine wW (λ(r:List (Tp Int)) (b:List (Tp Int)×SI w×Un×Un×Unit)=>yV b.2.1.l/\(∀x∈b.2.1.l,x∈U)/\(r.map (·.l)).foldl xr b.2.1.l=PY (p.1.map (·.l))) p.1 #[iW,(λ_ h=>by cases h),rfl] ?_ ?_
  ·rintro x r b ⟨pre,e⟩ ⟨h1,h2,h3⟩ K hK;have hx:=hr x (by rw[e];simp);refine#[λ_=>?_,λz=>iv ((BO _).mpr hx.1)<|by rw[z];simp];refine wW (λ(q:List Int) (c:List (Tp Int)×SI w×Tp Int×Un×Unit)=>yV c.2.1.l/\(∀y∈c.2.1.l,y∈U)/\q.foldl LM c.2.1.l=xr b.2.1.l x.l) x.l #[h1,h2,rfl] ?_ ?_
   ·rintro y q c ⟨a42,e2⟩ ⟨g1,g2,g3⟩ K2 hK2;have hy:y∈x.l:=by rw[e2];simp
    have g3':q.foldl LM (LM c.2.1.l y)=xr b.2.1.l x.l:=g3;by_cases hc:y∈c.2.1.l
    ·rw[hI<|decide_eq_true hc];refine hK2 _ ⟨kj _ g1,λz hz=>g2 z (Bj.mp hz).1,?_⟩;rw[<- g3'];unfold LM;rw[hI hc]
    ·rw[cr<|by simpa using hc];refine⟨by have:=xo g1 g2;lia,hK2 _ ⟨EA g1,λz hz=>?_,?_⟩⟩
     ·rcases C0.mp hz with e3|e3
      ·rw[e3];exact hx.2 y hy
      ·exact g2 z e3
     ·rw[<- g3'];rw[show LM c.2.1.l y=Gv y c.2.1.l from cr hc]
   ·rintro c ⟨g1,g2,g3⟩;refine hK _ #[g1,g2,?_];rw[<- h3];show (r.map (·.l)).foldl xr c.2.1.l=(r.map (·.l)).foldl xr (xr b.2.1.l x.l);rw[<- g3];rfl
  ·rintro b ⟨h1,h2,h3⟩;refine#[by have:=xo h1 h2;lia,?_];have h3':b.2.1.l=PY (p.1.map (·.l)):=h3;rw[h3'];exact hk
end
open PySem L2 WL
abbrev B0:=Bd C true
noncomputable def x8(x:B0)(row:List Int):Bool:=row.all λc=>(lk x.rk c).isSome
noncomputable def yg(x:B0)(c:Int):List Int:=(lk x.bd c).getD []
noncomputable def NM(x:B0)(c:Int):List Int:=(x.rk.map (·.1)).filter λh=>decide<|c∈yg x h
noncomputable def VT(x:B0)(row:List Int)(r:Int):Bool:=row.all λc=>decide<|lk x.rk c=↑r
structure Pe(x:B0):Prop where
 kb:∀k,(lk x.rk k).isSome=true->(lk x.bd k).isSome=true
 bo:∀k b,lk x.bd k=↑b->yV b/\∀c∈b,0<=c/\c<63
 ri:(x.rk.map (·.1)).Pairwise (·<=·)
 lr:x.rk.length<64
 lb:x.bd.length<64
def De :B0×Int×Unit->(Unit->B0×Un×Unit->Prop)->98->Prop:=λp a b =>
 if (70).isSome=true then a () 67 else b XC 67
def Bu :B0×List Int×Unit->(Unit->B0×Un×Unit->Prop)->98->Prop:=λp Kn Ke =>
 if asc p.2.1=true then (if x8 p.1 p.2.1=true then Kn () 67 else Ke XC 67) else Ke XS 67
def yr :B0×List Int×Int×Unit->(Unit->B0×Un×Un×Unit->Prop)->(hO->B0×Un×Un×Unit->Prop)->Prop:=λp Kn Ke =>
 x8 p.1 p.2.1=true/\if VT p.1 p.2.1 p.2.2.1=true then Kn () 57 else Ke XO 57
def yO :B0×List Int×Unit->(OL Int->B0×Un×Unit->Prop)->98->Prop:=λp Kn Ke =>
 Pe p.1/\if asc p.2.1=true then (if x8 p.1 p.2.1=true then Kn #[PY<|p.2.1.map<|yg p.1] 67 else Ke XC 67) else Ke XS 67
def EJ:Wf (B0×Unit) (OL Int) (B0×Unit):=λp a _=>Pe p.1/\a #[p.1.rk.map (·.1)] (p.1,())
def Iu :B0×Int×Unit->(OL Int->B0×Un×Unit->Prop)->98->Prop:=λp a b =>
 Pe p.1/\if (70).isSome=true then a #[NM p.1 p.2.1] 67 else b XC 67
def Ku :B0×Int×List Int×Unit->(Int->B0×Un×Un×Unit->Prop)->(hO->B0×Un×Un×Unit->Prop)->Prop:=λp b a =>
 Pe p.1/\lk p.1.bd p.1.up=none/\if p.2.1<0\/12<p.2.1 then a XB 57 else if asc p.2.2.1=true then (if x8 p.1 p.2.2.1=true then (if VT p.1 p.2.2.1 (p.2.1-1)=true then
  (if PY (p.2.2.1.map (yg p.1))=[] then b p.1.up ({ p.1 with rk:=pk p.1.rk p.1.up p.2.1,bd:=pk p.1.bd p.1.up p.2.2.1,up:=p.1.up+1},#[],#[],()) else a XP 57) else a XO 57) else a XC 57) else a XS 57
def FQ :B0×Int×Unit->(Unit->B0×Un×Unit->Prop)->98->Prop:=λp b a =>
 Pe p.1/\if (70).isSome=true then (if NM p.1 p.2.1=[] then b () ({ p.1 with rk:=dk p.1.rk p.2.1,bd:=dk p.1.bd p.2.1},#[],()) else a XV 67) else a XC 67
def VU(x:B0)(c:Int):Int:=(lk x.rk c).getD 0
def Df:Wf (B0×Int×Unit) Bool (B0×Un×Unit):=λp a _=>a (70).isSome 67
def Dg:Wf (B0×Unit) Int (B0×Unit):=λp a _=>a p.1.up (p.1,())
def Dh :B0×Int×Unit->(Int->B0×Un×Unit->Prop)->98->Prop:=λp a b =>
 if (70).isSome=true then a (VU p.1 p.2.1) 67 else b XC 67
def Bv :B0×Int×Unit->(OL Int->B0×Un×Unit->Prop)->98->Prop:=λp Kn Ke =>
 Pe p.1/\if (70).isSome=true then Kn #[yg p.1 p.2.1] 67 else Ke XC 67
def BR{n k:Int}(h0:0<=k)(h1:k<n):k∈Aj 0 n:=by exact List.mem_map.mpr #[k.toNat,List.mem_range.mpr q0a,q0a]
def Bw{k:Int}:∀{l:List (Int×c)},(lk l k).isSome=true->k∈l.map (·.1):=by
 intro b
 induction b with
 |nil=>intro h;cases h
 |cons e l a =>
  intro h;by_cases q:e.1=k
  ·rw[<- q];simp
  ·have:lk (e::l) k=lk l k:=by unfold lk;rw[jk,io q]
   rw[this]at h;exact ij _<|a h
def yZ{k:Int}:∀{l:List (Int×a)},k∈l.map (·.1)->(lk l k).isSome=true
 | [],h=>by cases h
 |e::l,h=>by
  by_cases q:e.1=k
  ·unfold lk;rw[jk,decide_eq_true q];rfl
  ·have:lk (e::l) k=lk l k:=by unfold lk;rw[jk,io q]
   rw[this];rcases List.mem_cons.mp h with z|z
   ·exact iv z.symm q
   ·exact yZ z
def FR{x:B0}{c:Int}{r:List Int}:x8 x (c::r)=((lk x.rk c).isSome&&x8 x r):=by unfold x8;rw[qw]
def Sl{x:B0}{c k:Int}{r:List Int}:VT x (c::r) k=(decide (lk x.rk c=↑k)&&VT x r k):=by unfold VT;rw[qw]
def Pf{x:B0}{row:List Int}(ok:Pe x)(ha:asc row=true)(h:x8 x row=true):row.length<=hZ:=by have:=xo (U:=x.rk.map (·.1)) ((BO row).mp ha) λc hc=>Bw<|List.all_eq_true.mp h c hc;rw[h8]at this;have:=ok.lr;exact wB q0a
def Di{n:Nat}(h:n<1000):n<hZ:=by have z:hZ=16777216:=jt;lia
def Hi{x:B0}(ok:Pe x){c:Int}(h:(lk x.rk c).isSome=true):lk x.bd c=↑(yg x c):=by obtain⟨v,hv⟩:=Option.isSome_iff_exists.mp<|ok.kb c h;unfold yg;rw[hv];rfl
def a1w{x:B0}{c:Int}(h:(lk x.rk c).isSome=true):lk x.rk c=↑(VU x c):=by obtain⟨v,e⟩:=Option.isSome_iff_exists.mp h;unfold VU;rw[e];rfl
def wO{K:List d->S->Prop}(e:∀x∈c,∀K:Option d->S->Prop,(if q x=true then K ↑x s else K none s)->b x s K)(h:K (c.filter q) s):CY b c s K:=by
 refine wV (f:=λx=>if q x=true then some x else none) (λx g K a=>e x g K ?_) (by rw[filterMap_filter];exact h);by_cases z:q x=true
 ·rw[hI z]at a ⊢;exact a
 ·rw[cr z]at a ⊢;exact a
section
variable{q:Cq}{XL:hO}
noncomputable abbrev AG:iK:=BY (top 21) 15
noncomputable abbrev AH:List Str:=["self","cell"]
def Gx:vJ ["self","cell"] AH (vA AG):=by walk_at "sc"
abbrev wP(q:Cq)(k:Nat):=zW q C "must_stand" AH (De) k
def Gy(F:zA q.K "must_stand" "Body.must_stand" AG f d)(c:Bl q.K C)(a:Xc q.K q.mg "NoCell" XC):Gq q 2 f d AH (De):=by
 refine' vL (Fj (wu q0q) (D':=(Bd C true)×Int×Unit) (ms:=[0]) (j:=0) F Gx rfl rfl λe A b s H E g =>
   (vC (vZ (tw_dIn .rk true 0 trivial c.cl c.nR (Eo g) (vz 1) (pv 0))
   (vC<|C7 rfl a)
   vY))) λp i k h=>?_
 walk_at "wl"
 have h:if (70).isSome=true then i () 67 else k XC 67:=h
 cases q:(70).isSome with
 |true=>rw[q]at h;simpa using h
 |false=>rw[q]at h;simpa using h
noncomputable abbrev Bx:iK:=BY (top 21) 16
noncomputable abbrev By:List Str:=["self","row"]
def Dj:vJ ["self","row","cell"] By (vA Bx):=by walk_at "sc"
abbrev Ec(q:Cq)(k:Nat):=zW q C "must_hold" By (Bu) k
def Iv{f:hO}{fd:iY}(F:zA q.K "must_hold" "Body.must_hold" Bx f fd)(ct:Bl q.K C)(Gz:xM q "must_be_sum" ["row"] (NI XS) 2)(yh:wP q 2):Gq q 3 f fd By (Bu):=by
 refine' vL (Fj (wu q0q) (D':=(Bd C true)×(List Int)×Un×Unit) (ms:=[0]) (j:=1) F Dj rfl rfl λPU A outer s H E hr =>
   (vN (wA (vK (vT Gz 79)))
   (vC (xW (is:=[]) (mb:=[0]) (D1:=(Bd C true)×(List Int)×Int×Unit) (D2:=(Bd C true)×(List Int)×Int×Unit) (wu q0q) Bc rfl (xq (vz 1)) (v8 2 (vO Dj.nd))
   (vC (wA (vK (wL 0 yh 118)))) q0q q0q)))) λp Kn Ke h=>?_
 walk_at "wl"
 have h:if asc p.2.1=true then (if x8 p.1 p.2.1=true then Kn () 67 else Ke XC 67) else Ke XS 67:=h;refine#[λha=>?_,λha=>?_]
 ·have ha:asc p.2.1=true:=ha;rw[hI ha]at h;refine wW (λ(r:List Int)(b:B0×List Int×WL.Un×Unit)=>b.1=p.1/\if x8 p.1 r=true then Kn () 67 else Ke XC 67) p.2.1 #[rfl,h] ?_ ?_
  ·rintro c r b _ ⟨e,hb⟩ K2 hK;rw[FR]at hb;show if (lk b.1.rk c).isSome=true then K2 _ else Ke XC (b.1,#[],());rw[e]
   cases q:(lk p.1.rk c).isSome with
   |false=>rw[q]at hb;simpa using hb
   |true =>
    rw[q,Bool.true_and]at hb;rw[hI rfl];exact hK _ #[rfl,hb]
  ·rintro b ⟨e,hb⟩;rw[e];exact hb
 ·have ha:asc p.2.1=false:=ha;rw[cr<|by rw[ha];simp]at h;exact h
noncomputable abbrev yu:iK:=BY (top 21) 17
noncomputable abbrev yw:List Str:=["self","row","rank"]
def zD:vJ ["self","row","rank","cell"] yw (vA yu):=by walk_at "sc"
abbrev DI(q:Cq)(k:Nat):=zW q C "must_have_rank" yw (yr) k
def Dk{f:hO}{fd:iY}(F:zA q.K "must_have_rank" "Body.must_have_rank" yu f fd)(ct:Bl q.K C)(Kv:Xc q.K q.mg "OtherRank" XO):Gq q 2 f fd yw (yr):=by
 refine' vL (Fj (wu q0q) (D':=(Bd C true)×(List Int)×Int×Un×Unit) (ms:=[0]) (j:=1) F zD rfl rfl λPU A outer s H E hr =>
   (vC (xW (is:=[]) (mb:=[0]) (D1:=(Bd C true)×(List Int)×Int×Int×Unit) (D2:=(Bd C true)×(List Int)×Int×Int×Unit) (wu q0q) Bc rfl (xq (vz 1)) (v8 3 (vO zD.nd))
   (vC (vZ (tw_cm CS (Ic .rk 0 trivial ct.cl ct.nR (Eo hr) (pv 0) (wX 3 (pv 3))) (vz 2))
   (vC<|C7 rfl Kv)
   vY)) q0q q0q))) λp Kn Ke h=>?_
 walk_at "wl"
 refine wW (λ(r:List Int)(b:B0×List Int×Int×WL.Un×Unit)=>b.1=p.1/\b.2.2.1=p.2.2.1/\x8 p.1 r=true/\if VT p.1 r p.2.2.1=true then Kn () 57 else Ke XO 57) p.2.1 #[rfl,rfl,h.1,h.2] ?_ ?_
 ·rintro c r b _ ⟨e1,e2,hi,hb⟩ K2 hK;rw[FR,jc]at hi;rw[Sl]at hb;obtain⟨v,hv⟩:=Option.isSome_iff_exists.mp hi.1;refine#[v,by rw[e1];exact hv,?_];rw[hv]at hb;rw[e2];by_cases q:v=p.2.2.1
  ·rw[cr<|by simp[q]];refine hK _ #[e1,rfl,hi.2,?_];rw[q]at hb;simpa using hb
  ·rw[hI (by simp[q]),e1];rw[cr<|by simp[q]]at hb;exact hb
 ·rintro b ⟨e1,_,_,hb⟩;rw[e1];exact hb
noncomputable abbrev BA:iK:=BY (top 21) 9
abbrev xm:List Str:=["self","row"]
def Iw:vJ ["self","row"] xm (vA BA):=by walk_at "sc"
def GB:(["cell","self"]:List Str).Nodup:=by decide +kernel
abbrev Kw(q:Cq)(k:Nat):=zW q C "border_of" xm (yO) k
def Ix{f:hO}{fd:iY}(F:zA q.K "border_of" "Body.border_of" BA f fd)(ct:Bl q.K C)(VW:xM q "total" ["rows"] NK 3)(Kx:Ec q 3):Gq q 4 f fd xm (yO):=by
 refine' vL (w4 (D':=Unit) (ms:=[0]) (j:=0) F Iw rfl rfl λPU A outer s H E hr =>
   (vN (wA (vK (wL 0 Kx 79)))
   (vC (vP (vT VW (vG (wg (xT (Ts:=["cell"]) (Fr:=["self"]) (idx:=[0]) (k:=1) (mb:=[1]) (is:=[]) (cl:=[("self",⇑s+1)]) rfl (xq (vz 1)) Vx rfl (xn rfl) (λs₀ H₀ C ex pn=>(v8 0 (vO GB))) (λs₀ H₀ C ex pn=>tws_nil) (λs₀ H₀ C ex pn=>(BP 1 ct.cl ct.nB (Eo hr) (pv 1) (wX 0 (pv 0)))))) vD)))))) λp Kn Ke h=>?_
 walk_at "wl"
 obtain⟨ok,h⟩:=h;show if asc p.2.1=true then (if x8 p.1 p.2.1=true then _ else Ke XC 67) else Ke XS 67;by_cases ha:asc p.2.1=true
 ·rw[hI ha]at h ⊢;by_cases hb:x8 p.1 p.2.1=true
  ·rw[hI hb]at h ⊢
   have lkb:∀c∈p.2.1,lk p.1.bd c=↑(yg p.1 c):=λc hc=>by obtain⟨v,hv⟩:=Option.isSome_iff_exists.mp<|ok.kb c<|List.all_eq_true.mp hb c hc;unfold yg;rw[hv];rfl
   refine#[Pf ok ha hb,wV (f:=λc=>some<|Tp.mk<|yg p.1 c) (λc hc K hk=>#[yg p.1 c,lkb c hc,hk]) ?_];refine#[Aj 0 63,by rw[xG];decide,λr hr=>?_,?_]
   ·obtain⟨c,hc,e⟩:=List.mem_filterMap.mp hr;cases e;obtain⟨g1,g2⟩:=ok.bo c _<|lkb c hc;exact⟨g1,λx hx=>BR (g2 x hx).1 (g2 x hx).2⟩
   ·have e:((p.2.1.filterMap λc=>some<|Tp.mk<|yg p.1 c).map (·.l))=p.2.1.map (yg p.1):=by rw[show (λc=>some<|Tp.mk<|yg p.1 c)=some∘(λc=>Tp.mk<|yg p.1 c) from rfl,List.filterMap_eq_map,lP];rfl
    rw[e];exact h
  ·rw[cr hb]at h ⊢;exact h
 ·rw[cr ha]at h ⊢;exact h
noncomputable abbrev Iy:iK:=BY (top 21) 4
noncomputable abbrev zF:List Str:=["self"]
def Sn:vJ ["self"] zF (vA Iy):=by walk_at "sc"
abbrev NN(q:Cq)(k:Nat):=zW q C "cells" zF (EJ) k
def So(F:zA q.K "cells" "Body.cells" Iy f d)(b:Bl q.K C)(B:Bn q.mg):Gq q 2 f d zF (EJ):=by
 refine' vL (w4 (D':=Unit) (ms:=[0]) (j:=0) F Sn rfl rfl λe A a s H E g =>
   (vC (vP (FC .rk 0 trivial b.cl b.nR rfl rfl B.sorted (pv 0))))) λp i k h=>?_
 walk_at "wl"
 obtain⟨c,h⟩:=h;exact#[c.lr,by rw[<- Fl (pi _) c.ri];exact h]
abbrev Iz:iK:=BY (top 21) 8
abbrev zH:List Str:=["self","cell"]
def Sq:vJ ["self","cell"] zH (vA Iz):=by walk_at "sc"
def Pg:(["high","cell","self"]:List Str).Nodup:=by decide +kernel
abbrev VX(q:Cq)(k:Nat):=zW q C "over" zH (Iu) k
def Sr(F:zA q.K "over" "Body.over" Iz f x)(l:Bl q.K C)(a:wP q 3)(b:NN q 3):Gq q 4 f x zH (Iu):=by
 refine' vL (w4 (D':=Unit) (ms:=[0]) (j:=0) F Sq rfl rfl λy A m s H E o =>
   (vN (wA (vK (wL 0 a 79)))
   (vC (vP (xT (Ts:=["high"]) (Fr:=["cell","self"]) (idx:=[1,0]) (k:=1) (mb:=[1,2]) (is:=[]) (cl:=[("self",⇑s+1),("cell",⇑s+1+1)]) rfl (xq (wg (Ka 0 b o l.cl Bb (pv 0)))) bs2 rfl (xn rfl) (λc d C r t=>(v8 0 (vO (i:=0) Pg rfl (jX rfl)) q0q)) (λc d C r t=>(tws_one (tw_inT (vz 1) (BP 2 l.cl l.nB (Eo o) (pv 2) (wX 0 (pv 0))) (by with_unfolding_all rfl)))) (λc d C r t=>(vz 0))))))) λp D z h=>?_
 walk_at "wl"
 obtain⟨n,h⟩:=h;show if (70).isSome=true then _ else z XC 67;by_cases u:(70).isSome=true
 ·rw[hI u]at h ⊢;refine#[n,?_,?_]
  ·show (p.1.rk.map (·.1)).length<=hZ;rw[h8];have:=n.lr;exact wB q0d
  ·refine wV (f:=λk=>if decide (p.2.1∈yg p.1 k)=true then some k else none) (λk B K g=>?_) ?_
   ·obtain⟨v,w⟩:=Option.isSome_iff_exists.mp<|n.kb k<|yZ B;have e:yg p.1 k=v:=by unfold yg;rw[w];rfl
    refine#[v,w,?_];rw[e]at g;show if decide (p.2.1∈v)=true then _ else _;by_cases q:decide (p.2.1∈v)=true
    ·rw[hI q]at g ⊢;exact g
    ·rw[cr q]at g ⊢;exact g
   ·rw[filterMap_filter];exact h
 ·rw[cr u]at h ⊢;exact h
noncomputable abbrev Ss:iK:=BY (top 21) 1
noncomputable abbrev Ed:List Str:=["self","rank","border"]
def Su:vJ ["self","rank","border","cell"] Ed (vA Ss):=by walk_at "sc"
abbrev a1x(q:Cq)(k:Nat):=zW q C "put" Ed (Ku) k
def Zn(F:zA q.K "put" "Body.put" Ss f R)(o:Bl q.K C)(e:Ec q 5)(b:DI q 5)(g:Kw q 5)(k:Xc q.K q.mg "BadRank" XB)(t:Xc q.K q.mg "Full" XF0)(c:Xc q.K q.mg "OpenBorder" XP)(d:q.mg "MOST_CELLS"=↑(.int 120 r))(i:q.mg "TOP_RANK"=↑(.int 12 u))(B:Bn q.mg):Gq q 6 f R Ed (Ku):=by
 refine' vL (w4 (D':=Unit) (ms:=[0]) (j:=1) F Su rfl rfl λS A I s H E O =>
   (vN (vZ (tw_w (B7 (tw_cm Q3 (vz 1) vE) (AA (tw_cm Q4 (vz 1) (Rx rfl i)))))
   (vC<|C7 rfl k)
   vY)
   (vN (wA (vK (wL 0 e 118)))
   (vN (wA (vK (wL 0 b (vG (vz 2) (vG (yD EX (vz 1) vE) vD)))))
   (vN (vZ (tw_trueO (wL 0 g 118))
   (vC<|C7 rfl c)
   vY)
   (vN (vZ (tw_cm Xi (Vj .rk 0 trivial o.cl o.nR rfl B.len (pv 0)) (Rx rfl d))
   (vC<|C7 rfl t)
   vY)
   (vN (vQ 3 Su.nd (vS (Xo 0 o.cl o.nU (pv 0))))
   (vN (Ie .rk 0 trivial o.cl o.nR (Eo O) (pv 0) (wX 3 (pv 3)) (vz 1))
   (vN (Vk 0 o.cl o.nB (Eo O) (pv 0) (wX 3 (pv 3)) (Vm rfl B.tuple (v7 (vz 2))))
   (vN (a08 0 o.cl o.nU (pv 0) (yD zO (vz 3) vE))
   (vC (vP (vS (vz 3)))))))))))))) λp P m h=>?_
 walk_at "wl"
 obtain⟨J,L,h⟩:=h
 have M:(if asc p.2.2.1=true then (if x8 p.1 p.2.2.1=true then (if VT p.1 p.2.2.1 (p.2.1-1)=true then
  (if PY (p.2.2.1.map (yg p.1))=[] then P p.1.up ({ p.1 with rk:=pk p.1.rk p.1.up p.2.1,bd:=pk p.1.bd p.1.up p.2.2.1,up:=p.1.up+1},#[],#[],()) else m XP 57) else m XO 57) else m XC 57) else m XS 57) ->
  Bu (p.1,p.2.2.1,()) (λy v=>yr (v.1,p.2.2.1,p.2.1-1,()) (λy w=>yO (w.1,p.2.2.1,()) (λy a =>
   if (!y.l.isEmpty)=true then m XP (a.1,#[],#[],()) else if decide (120<=(a.1.rk.length:Int))=true then m XF0 (a.1,#[],#[],()) else a.1.rk.length<hZ/\a.1.bd.length<hZ/\lk a.1.bd a.1.up=none /\
    P a.1.up ({ a.1 with rk:=pk a.1.rk a.1.up p.2.1,bd:=pk a.1.bd a.1.up p.2.2.1,up:=a.1.up+1},#[],#[],()))
   λn v=>m n (v.1,#[],#[],())) λn v=>m n (v.1,#[],#[],())) λn v=>m n (v.1,#[],#[],()):=by
  intro h;show if asc p.2.2.1=true then (if x8 p.1 p.2.2.1=true then _ else m XC 57) else m XS 57;by_cases N:asc p.2.2.1=true
  ·rw[hI N]at h ⊢;by_cases x:x8 p.1 p.2.2.1=true
   ·rw[hI x]at h ⊢;refine#[x,?_];by_cases Q:VT p.1 p.2.2.1 (p.2.1-1)=true
    ·rw[hI Q]at h ⊢;refine#[J,?_];rw[hI N,hI x];by_cases hd:PY (p.2.2.1.map<|yg p.1)=[]
     ·rw[hI hd]at h;have T:=J.lr;have U:=J.lb;have z:hZ=16777216:=jt;rw[hd,cr q0o,cr<|by simp;lia];exact#[(by show p.1.rk.length<hZ;lia),(by show p.1.bd.length<hZ;lia),L,h]
     ·rw[cr hd]at h;rw[hI<|by simpa using hd];exact h
    ·rw[cr Q]at h ⊢;exact h
   ·rw[cr x]at h ⊢;exact h
  ·rw[cr N]at h ⊢;exact h
 by_cases D:p.2.1<0
 ·rw[hI<|decide_eq_true D,hI rfl];rw[hI<|.inl D]at h;exact h
 ·rw[cr<|by simpa using D];by_cases G:12<p.2.1
  ·rw[hI<|decide_eq_true G];rw[hI<|.inr G]at h;exact h
  ·rw[cr<|by simpa using G];rw[cr (by intro z;rcases z with z|z;exact D z;exact G z)]at h;exact M h
noncomputable abbrev L5:iK:=BY (top 21) 2
abbrev BB:List Str:=["self","cell"]
def VY:vJ ["self","cell"] BB (vA L5):=by walk_at "sc"
def VZ(F:zA q.K "take" "Body.take" L5 f m)(d:Bl q.K C)(c:VX q 5)(b:Xc q.K q.mg "Covered" XV):Gq q 6 f m BB (FQ):=by
 refine' vL (Fj (wu q0q) (D':=(Bd C true)×Int×Unit) (ms:=[0]) (j:=0) F VY rfl rfl λn A g s H E t =>
   (vN (vZ (tw_trueO (wL 0 c 79))
   (vC<|C7 rfl b)
   vY)
   (vN (Nu .rk 0 trivial d.cl d.nR (pv 0) (wX 1 (pv 1)) (λi k=>HC i k))
   (vC (Vl 0 d.cl d.nB (pv 0) (wX 1 (pv 1)) (λi k=>HC i k)))))) λp u o h=>?_
 walk_at "wl"
 obtain⟨l,h⟩:=h;refine#[l,?_];show if (70).isSome=true then _ else o XC 67;by_cases e:(70).isSome=true
 ·rw[hI e]at h ⊢
  cases q:NM p.1 p.2.1 with
  |nil =>
   rw[q,hI rfl]at h;exact#[e,l.kb _ e,h]
  |cons a r =>
   rw[q,cr q0o]at h;exact h
 ·rw[cr e]at h ⊢;exact h
abbrev FS:iK:=BY (top 21) 3
abbrev yP:List Str:=["self","cell"]
def Ph:vJ ["self","cell"] yP (vA FS):=by walk_at "sc"
abbrev Sv(q:Cq)(k:Nat):=zW q C "stands" yP (Df) k
def Pk(F:zA q.K "stands" "Body.stands" FS f c)(b:Bl q.K C):Gq q 2 f c yP (Df):=by
 refine' vL (w4 (D':=Unit) (ms:=[0]) (j:=0) F Ph rfl rfl λd A a s H E e =>
   (vC (vP (vS (LN .rk false 0 trivial b.cl b.nR (Eo e) (vz 1) (pv 0)))))) λp g i h=>?_
 walk_at "wl"
 exact h
abbrev FT:iK:=BY (top 21) 5
abbrev yQ:List Str:=["self"]
def Pl:vJ ["self"] yQ (vA FT):=by walk_at "sc"
abbrev Sw(q:Cq)(k:Nat):=zW q C "coming" yQ (Dg) k
def Pm(F:zA q.K "coming" "Body.coming" FT f c)(b:Bl q.K C):Gq q 2 f c yQ (Dg):=by
 refine' vL (w4 (D':=Unit) (ms:=[0]) (j:=0) F Pl rfl rfl λd A a s H E e =>
   (vC (vP (vS (Xo 0 b.cl b.nU (pv 0)))))) λp g i h=>?_
 walk_at "wl"
 exact h
abbrev IA:iK:=BY (top 21) 6
abbrev zI:List Str:=["self","cell"]
def Sy:vJ ["self","cell"] zI (vA IA):=by walk_at "sc"
abbrev V0(q:Cq)(k:Nat):=zW q C "rank" zI (Dh) k
def Sz(F:zA q.K "rank" "Body.rank" IA f e)(c:Bl q.K C)(a:wP q 2):Gq q 3 f e zI (Dh):=by
 refine' vL (w4 (D':=Unit) (ms:=[0]) (j:=0) F Sy rfl rfl λg A b s H E i =>
   (vN (wA (vK (wL 0 a 79)))
   (vC (vP (vS (Ic .rk 0 trivial c.cl c.nR (Eo i) (pv 0) (wX 1 (pv 1)))))))) λp k d h=>?_
 walk_at "wl"
 have h:if (70).isSome=true then k (VU p.1 p.2.1) 67 else d XC 67:=h;show if (70).isSome=true then _ else d XC 67;by_cases q:(70).isSome=true
 ·rw[hI q]at h ⊢;exact#[_,a1w q,h]
 ·rw[cr q]at h ⊢;exact h
noncomputable abbrev FU:iK:=BY (top 21) 7
abbrev yR:List Str:=["self","cell"]
def Pn:vJ ["self","cell"] yR (vA FU):=by walk_at "sc"
abbrev SA(q:Cq)(k:Nat):=zW q C "border" yR (Bv) k
def Po{f:hO}{fd:iY}(F:zA q.K "border" "Body.border" FU f fd)(ct:Bl q.K C)(yh:wP q 2)(B:Bn q.mg):Gq q 3 f fd yR (Bv):=by
 refine' vL (w4 (D':=Unit) (ms:=[0]) (j:=0) F Pn rfl rfl λPU A outer s H E hr =>
   (vN (wA (vK (wL 0 yh 79)))
   (vC (vP (Rv rfl B.list (BP 0 ct.cl ct.nB (Eo hr) (pv 0) (wX 1 (pv 1)))))))) λp Kn Ke h=>?_
 walk_at "wl"
 obtain⟨ok,h⟩:=h;show if (70).isSome=true then _ else Ke XC 67;by_cases q:(70).isSome=true
 ·rw[hI q]at h ⊢;exact#[_,Hi ok q,h]
 ·rw[cr q]at h ⊢;exact h
end
noncomputable def wv(x:B0)(c:Int):Bool:=(lk x.ht c).isSome||(lk x.th c).isSome
noncomputable def DJ(x:B0)(low high:Int):List Int:=(yg x high).filter λf=>decide (f≠low)&&(lk x.ht f).isSome
noncomputable def xJ(x:B0)(t:Int):Int:=(lk x.ht t).getD 0
noncomputable def xR(x:B0):List Int:=x.ht.map (·.1)
def Zo(x:B0):Prop:=∃r:Int->Nat,∀l∈xR x,∀t∈DJ x l (xJ x l),r l<r t
structure Ep(x:B0):Prop where
 ok:Pe x
 nd:(xR x).Nodup
 len:x.ht.length<64
 Zp:x.th.length<64
 ht:∀l h,lk x.ht l=↑h->(lk x.rk l).isSome=true/\(lk x.rk h).isSome=true/\l∈yg x h/\lk x.th h=↑l
 th:∀l h,lk x.th h=↑l->lk x.ht l=↑h
 one:∀c,(lk x.ht c).isSome=true->(lk x.th c).isSome=true->False
 acy:Zo x
noncomputable def EK(x:B0)(low high:Int):B0:={ x with ht:=pk x.ht low high,th:=pk x.th high low}
def Hj:Wf (B0×Int×Unit) Bool (B0×Un×Unit):=λp a _=>a (wv p.1 p.2.1) 67
def IB:Wf (B0×Int×Int×Unit) (OL Int) (B0×Un×Un×Unit):=λp a _ =>
 (lk p.1.bd p.2.2.1).isSome=true/\(yg p.1 p.2.2.1).length<=hZ/\a #[DJ p.1 p.2.1 p.2.2.1] 57
def NO:Wf (B0×Unit) (OL Int) (B0×Unit):=λp a _=>p.1.ht.length<64/\(xR p.1).Nodup/\a #[El<|xR p.1] (p.1,())
def Ky:Wf (B0×Unit) (OL<|Int×Int) (B0×Unit):=λp a _=>p.1.ht.length<64/\(xR p.1).Nodup/\a #[(El<|xR p.1).map λl=>(l,xJ p.1 l)] (p.1,())
def Hk :B0×Int×Unit->(Option Int->B0×Un×Unit->Prop)->98->Prop:=λp a b =>
 if (70).isSome=true then a (lk p.1.ht p.2.1) 67 else b XC 67
def IC :B0×Int×Unit->(Int->B0×Un×Unit->Prop)->98->Prop:=λp b a =>
 Ep p.1/\if (70).isSome=true then (if (lk p.1.ht p.2.1).isSome=true then b (xJ p.1 p.2.1) ({ p.1 with ht:=dk p.1.ht p.2.1,th:=dk p.1.th (xJ p.1 p.2.1)},#[],()) else a XN 67) else a XC 67
def Ai:Wf (Dc (Option Int)×Int×Unit) (OL Int) (Dc (Option Int)×Un×Unit):=λp a _ =>
 (∃m:Int->Nat,(∀k,m k<1000)/\(lk p.1.l p.2.1).isSome=true/\∀k e,lk p.1.l k=↑(some e)->(lk p.1.l e).isSome=true/\m e<m k)/\∀r:List Int,r≠[]->a #[r] 67
def Ee:Wf (B0×Int×Int×Unit) (OL Int) (B0×Un×Un×Unit):=λp a _ =>
 Ep p.1/\(82).isSome=true/\wv p.1 p.2.1=false/\wv p.1 p.2.2.1=false/\∀r:List Int,(r=[]->Zo (EK p.1 p.2.1 p.2.2.1))->a #[r] 57
def SE :B0×Int×Int×Unit->(Unit->B0×Un×Un×Unit->Prop)->(hO->B0×Un×Un×Unit->Prop)->Prop:=λp b a =>
 Ep p.1/\if (70).isSome=true then (if (82).isSome=true then (if p.2.1∈yg p.1 p.2.2.1 then (if wv p.1 p.2.1=true\/wv p.1 p.2.2.1=true then a XT 57
  else a XR 57/\(Zo (EK p.1 p.2.1 p.2.2.1)->b () (EK p.1 p.2.1 p.2.2.1,#[],#[],()))) else a XF 57) else a XC 57) else a XC 57
structure Ord(x:B0)(o:List Int):Prop where
 pm:o.Perm (xR x)
 up:o.Pairwise λa b=>a∉DJ x b (xJ x b)
def a2h:Wf (B0×Unit) (OL Int) (B0×Unit):=λp a _=>Ep p.1/\∀o,Ord p.1 o->a #[o] (p.1,())
noncomputable def a44(x:B0)(s:List Int×List Int)(t:Int):List Int×List Int:=if t∈s.1 then (xr s.1<|yg x<|xJ x t,s.2++[xJ x t]) else s
def xU{j:Int}:lk (e::l) j=if e.1=j then some e.2 else lk l j:=by
 by_cases q:e.1=j
 ·rw[hI q];unfold lk;rw[jk,decide_eq_true q];rfl
 ·rw[cr q];unfold lk;rw[jk,io q]
def L6{k j:Int}:∀{l:List (Int×c)},lk l k=none->lk (l++[(k,v)]) j=if j=k then some v else lk l j:=by
 intro b
 induction b with
 |nil =>
  intro _;rw[List.nil_append,xU];by_cases q:j=k
  ·rw[hI q,hI q.symm]
  ·rw[cr q,cr<|λz=>q z.symm]
 |cons e l a =>
  intro h;rw[xU]at h;by_cases z:e.1=k
  ·rw[hI z]at h;cases h
  ·rw[cr z]at h;rw[List.cons_append,xU,xU,a h];by_cases q:e.1=j
   ·rw[hI q,hI q,cr<|λw=>z<|q.trans w]
   ·rw[cr q,cr q]
def AI{k:Int}(h:lk l k=none):pk l k v=l++[(k,v)]:=by unfold pk;rw[h];rfl
def B8{k j:Int}:∀{l:List (Int×d)},lk (dk l k) j=if j=k then none else lk l j:=by
 intro c
 induction c with
 |nil=>unfold dk;rw[List.filter_nil];split<;>rfl
 |cons e l a =>
  have b:=a;unfold dk at b ⊢;rw[jN];by_cases z:e.1=k
  ·rw[cr (by simpa using z),b,xU];by_cases q:j=k
   ·rw[hI q,hI q]
   ·rw[cr q,cr q,cr<|λw=>q<|w.symm.trans z]
  ·rw[hI (by simpa using z),xU,xU,b];by_cases q:e.1=j
   ·rw[hI q,hI q,cr<|λw=>z<|q.trans w]
   ·rw[cr q,cr q]
def Zq{k j:Int}:∀{l:List (Int×c)},lk (l.map λe=>if e.1=k then (e.1,v) else e) j=if j=k then (if (lk l k).isSome=true then some v else none) else lk l j:=by
 intro b
 induction b with
 |nil=>simp[lk]
 |cons e l a =>
  rw[iN,xU,a,xU,xU];by_cases z:e.1=k
  ·rw[hI z,hI z];by_cases q:j=k
   ·subst q;simp[z]
   ·have:¬e.1=j:=λw=>q<|w.symm.trans z;simp[q,this]
  ·rw[cr z,cr z];by_cases q:e.1=j
   ·have:¬j=k:=λw=>z<|q.trans w;simp[q,this]
   ·simp[q]
def zJ{k j:Int}:lk (pk l k v) j=if j=k then some v else lk l j:=by
 unfold pk
 cases q:(lk l k).isSome with
 |true=>rw[hI rfl,Zq,q];simp
 |false =>
  rw[cr q0o,L6<|by simpa using q]
def V1{a:Type}{l:List (Int×a)}{k:Int}(h:k∉l.map (·.1)):lk l k=none:=by
 cases e:lk l k with
 |none=>rfl
 |some v=>exact iv (Bw<|by rw[e];rfl) h
def y8{a:Type}{k:Int}{l:List (Int×a)}:(lk l k).isSome=true↔k∈l.map (·.1):=#[Bw,yZ]
def V2{c t:Int}:∀{l:List Int},t∈l->lk (l.map λk=>(k,c)) t=↑c
 |a::l,h=>by
  rw[iN,xU];by_cases q:a=t
  ·rw[hI q]
  ·rw[cr q];exact V2<|(List.mem_cons.mp h).elim (λz=>iv z.symm q) id
def Ef{b:Type}{p q:b->Bool}(h:∀t,q t=true->p t=true):∀{l:List b},(l.filter q).length<=(l.filter p).length
 | []=>hW _
 |a::l=>by
  have:=Ef h (l:=l);rw[jN,jN];by_cases z:q a=true
  ·rw[hI z,hI<|h a z];simpa using this
  ·rw[cr z];split<;>simp<;>lia
def filter_lt{b:Type}{p q:b->Bool}(h:∀t,q t=true->p t=true){x:b}(c:p x=true)(d:q x=false):∀{l:List b},x∈l->(l.filter q).length+1<=(l.filter p).length
 |a::l,m=>by
  rw[jN,jN];rcases List.mem_cons.mp m with z|z
  ·subst z;rw[d,c,cr q0o,hI rfl];have:=Ef h (l:=l);simp;lia
  ·have:=filter_lt h c d z;by_cases w:q a=true
   ·rw[hI w,hI<|h a w];simp;lia
   ·rw[cr w];split<;>simp<;>lia
def SF{r:Int->Nat}{t:Int}:∀{l:List Int},t∈l->r t<=(l.map r).sum
 |a::l,h=>by
  rw[iN,List.sum_cons];rcases List.mem_cons.mp h with z|z
  ·rw[z];lia
  ·have:=SF (r:=r) z;lia
section
variable{x:B0}
def zw{l:Int}(h:l∈xR x):lk x.ht l=↑(xJ x l):=by obtain⟨v,e⟩:=Option.isSome_iff_exists.mp<|yZ h;unfold xJ;rw[e];rfl
def zj{l h t:Int}:t∈DJ x l h↔t∈yg x h/\t≠l/\t∈xR x:=by unfold DJ xR;rw[j4,jc,jf,y8]
def Ep.Uf(a:Ep x){l:Int}(h:l∈xR x):(lk x.rk<|xJ x l).isSome=true:=(a.ht l _<|zw h).2.1
def Ep.bl(a:Ep x){c:Int}(h:(lk x.rk c).isSome=true):(yg x c).length<=hZ:=by
 have:=(a.ok.bo c _<|Hi a.ok h);have:=xo (U:=Aj 0 63) this.1 λk b=>BR (this.2 k b).1 (this.2 k b).2;have e:(Aj 0 63).length=63:=by decide
 exact wB q0a
def V3{low high:Int}{V:List Int}(v:Ep x)(o:low∉xR x)(f:low∈V)(D:∀k∈V,k≠low->k∈xR x)
 (p:∀k∈V,(k≠low->low∉yg x (xJ x k))/\∀t∈DJ x k (if k=low then high else xJ x k),t∈V):Zo (EK x low high):=by
  obtain⟨r,u⟩:=v.acy
  have c:∀{t:Int},t∈xR (EK x low high)↔t=low\/t∈xR x:=λ{t}=>by
    show t∈(pk x.ht low high).map (·.1)↔_
    rw[<- y8,zJ]
    by_cases q:t=low
    · simp[q]
    · rw[cr q, y8]; simp[q, xR]
  have y:∀l,xJ (EK x low high) l=if l=low then high else xJ x l:=λl=>by
    unfold xJ EK
    rw[zJ]
    split<;>rfl
  have A:∀{l h t:Int},t∈DJ (EK x low high) l h↔t∈yg x h/\t≠l/\(t=low\/t∈xR x):=λ{l h t}=>by
    rw[zj,c];exact Iff.rfl
  refine#[λt=>if t∈V then (if t=low then ((xR x).map r).sum+1 else ((xR x).map r).sum+2+r t) else r t,λl g t a=>?_]
  rw[y]at a
  have a:=A.mp a
  have i:∀k,k∈xR x->r k<=((xR x).map r).sum:=λk B=>SF B
  dsimp only
  by_cases b:l=low
  · subst b
    rw[hI rfl]at a
    rw[hI f,hI rfl]
    have C:t∈xR x:=a.2.2.elim (λz=>iv z a.2.1) id
    have e:t∈V:=(p l f).2 t (by rw[hI rfl];exact zj.mpr #[a.1,a.2.1,C])
    rw[hI e,cr a.2.1]
    lia
  · rw[cr b]at a
    have j:l∈xR x:=(c.mp g).elim (λz=>iv z b) id
    by_cases m:l∈V
    · rw[hI m, cr b]
      have d:=p l m
      rw[cr b]at d
      rcases a.2.2 with z|z
      · rw[z]at a; exact iv a.1<|d.1 b
      · have s : t ∈ DJ x l (xJ x l) := zj.mpr #[a.1, a.2.1, z]
        have:=u l j t s
        have n:t≠low:=λw=>o<|w▸z
        rw[hI<|d.2 t s,cr n]
        lia
    · rw[cr m]
      have:=i l j
      rcases a.2.2 with z|z
      · subst z
        rw[hI f,hI rfl]
        lia
      · have s : t ∈ DJ x l (xJ x l) := zj.mpr #[a.1, a.2.1, z]
        have:=u l j t s
        have n:t≠low:=λw=>o<|w▸z
        by_cases e:t∈V
        · rw[hI e, cr n]; lia
        · rw[cr e]; lia
noncomputable def P0(x:B0)(e:List (Int×Option Int)):Nat:=((xR x).filter λt=>!(lk e t).isSome).length
structure Rw(x:B0)(low:Int)(e:List (Int×Option Int))(ws:List Int)(D:Int->List (Int×Option Int)->Prop):Prop where
 lo:(lk e low).isSome=true
 tl:∀k,(lk e k).isSome=true->k≠low->k∈xR x
 wk:∀k∈ws,(lk e k).isSome=true
 dn:∀k,(lk e k).isSome=true->k∉ws->D k e
 ch:∃mm:Int->Nat,(∀k,mm k<=e.length)/\∀k t,lk e k=↑(some t)->(lk e t).isSome=true/\mm t<mm k
 sz:e.length+P0 x e<=64
def Rw.add{low:Int}{a t0:Int}(R:Rw x low e p D)(m:a∈xR x)(d:lk e a=none)(i:(lk e t0).isSome=true)(b:∀k,(lk e k).isSome=true->D k e->D k (pk e a<|↑t0)) :
  Rw x low (pk e a<|↑t0) (p++[a]) D/\P0 x (pk e a<|↑t0)+1<=P0 x e:=by
 have r:P0 x (pk e a<|↑t0)+1<=P0 x e:=by
  refine filter_lt (x:=a) (λt h=>?_) (by rw[d];rfl) (by rw[zJ,hI rfl];rfl) m;rw[zJ]at h;by_cases q:t=a
  ·rw[hI q]at h;simp at h
  ·rw[cr q]at h;exact h
 have f:∀k,(lk e k).isSome=true->(lk (pk e a<|some t0) k).isSome=true:=λk h=>by
  rw[zJ];split
  ·rfl
  ·exact h
 have j:∀k,k≠a->lk (pk e a<|some t0) k=lk e k:=λk h=>by rw[zJ,cr h]
 have c:(pk e a<|↑t0).length=e.length+1:=by rw[AI d];simp
 refine#[#[f _ R.lo,λk h n=>?_,λk h=>?_,λk h n=>?_,?_,by rw[c];have:=R.sz;lia],r]
 ·by_cases q:k=a
  ·rw[q];exact m
  ·rw[j k q]at h;exact R.tl k h n
 ·rcases List.mem_append.mp h with z|z
  ·exact f _<|R.wk k z
  ·rw[List.mem_singleton.mp z,zJ,hI rfl];rfl
 ·have q:k≠a:=λz=>n (by rw[z];simp);rw[j k q]at h;exact b k h<|R.dn k h λz=>n<|jg _ z
 ·obtain⟨s,o,u⟩:=R.ch;refine#[λk=>if k=a then e.length+1 else s k,λk=>?_,λk t h=>?_]
  ·rw[c];dsimp only;split
   ·exact hW _
   ·have:=o k;lia
  ·by_cases q:k=a
   ·rw[q,zJ,hI rfl]at h;injection h with h;injection h with h;subst h;have l:t0≠a:=λz=>by rw[z,d]at i;cases i
    refine#[f _ i,?_];dsimp only;rw[hI q,cr l];have:=o t0;lia
   ·rw[j k q]at h;have g:=u k t h;have l:t≠a:=λz=>by rw[z,d]at g;cases g.1
    refine#[f _ g.1,?_];dsimp only;rw[cr q,cr l];exact g.2
def NP(x:B0)(low high:Int)(k:Int)(e:List (Int×Option Int)):Prop:=(k≠low->low∉yg x (xJ x k))/\∀t∈DJ x k (if k=low then high else xJ x k),(lk e t).isSome=true
def SG{low high:Int}(b:Ep x):Rw x low [(low,none)] [low] (NP x low high):=by
 have a:∀k,(lk ([(low,none)]:List (Int×Option Int)) k).isSome=true->k=low:=λk h=>by have:=Bw h;simpa using this
 refine#[yZ q0o,λk h n=>iv (a k h) n,λk h=>yZ (by simpa using h),λk h n=>iv (a k h) (by simpa using n),#[λ_=>0,λ_=>js _,λk t h=>?_],?_]
 ·rw[xU]at h;by_cases q:low=k
  ·rw[hI q]at h;cases h
  ·rw[cr q]at h;cases h
 ·have:=b.len;have g:P0 x [(low,none)]<=(xR x).length:=iR _ _;have e:(xR x).length=x.ht.length:=h8 _;simp only[iI]
  lia
def a3C{low:Int}(a:Ep x):2*P0 x [(low,none)]+[low].length<=200:=by
 have:=a.len;have g:P0 x [(low,none)]<=(xR x).length:=iR _ _;have e:(xR x).length=x.ht.length:=h8 _;simp only[iI]
 lia
noncomputable def P1(x:B0)(a:List Int):List Int:=(xR x).filter λt=>decide<|t∉a
noncomputable def cnt(x:B0)(a:List Int)(t:Int):Int:=((113).length:Int)
def zK{t:Int}:t∈P1 x a↔t∈xR x/\t∉a:=by unfold P1;rw[j4,jf]
def cnt_cons{l t:Int}:cnt x (l::a) t=cnt x a t+if t∈DJ x l (xJ x l) then 1 else 0:=by
 unfold cnt;rw[jN];by_cases q:t∈DJ x l (xJ x l)
 ·rw[hI<|decide_eq_true q,hI q];simp
 ·rw[cr (by simpa using q),cr q];simp
def SH{a:List Int}{t:Int}(h:a.Perm b):cnt x a t=cnt x b t:=by unfold cnt;rw[(h.filter _).length_eq]
def Zr{t:Int}:0<=cnt x a t:=by unfold cnt;lia
def SJ{t:Int}(h:cnt x a t=0):∀l∈a,t∉DJ x l (xJ x l):=λl b q=>by unfold cnt at h;have:113=[]:=List.length_eq_zero_iff.mp q0a;have m:l∈113:=List.mem_filter.mpr #[b,decide_eq_true q];rw[this]at m;cases m
def NQ{t:Int}(h:cnt x a t≠0):∃l∈a,t∈DJ x l (xJ x l):=by
 unfold cnt at h
 cases e:113 with
 |nil=>rw[e]at h;exact iv rfl h
 |cons l r =>
  have m:l∈113:=by rw[e];exact ic
  have:=List.mem_filter.mp m;exact#[l,this.1,kQ this.2]
def L7{a b:List Int}(h:a.Nodup)(c:b.Nodup)(s:∀k∈a,k∈b):a.length<=b.length:=by
 have p:a.Perm (b.filter λk=>decide<|k∈a):=xg h (c.filter _) λk=>by rw[j4,jf];exact#[λz=>#[s k z,z],λz=>z.2]
 rw[p.length_eq];exact iR _ _
def V4{a:Type}{l:List (Int×a)}{k:Int}{v:a}(h:(lk l k).isSome=true):(pk l k v).map (·.1)=l.map (·.1):=by unfold pk;rw[hI h,lP];refine mF λe _=>?_;dsimp only[uX];split<;>rfl
structure Kh(x:B0)(u:List (Int×Int))(ready told r2:List Int):Prop where
 ks:u.map (·.1)=xR x
 nd:(told++ready).Nodup
 st:∀t∈told++ready,t∈xR x
 ct:∀t∈xR x,lk u t=↑(cnt x (P1 x told) t+if t∈r2 then 1 else 0)
 rd:∀t∈xR x,t∉told->(t∈ready↔cnt x (P1 x told) t+(if t∈r2 then 1 else 0)=0)
 bk:∀a∈told,∀l∈xR x,l∉told->a∉DJ x l (xJ x l)
 od:told.Pairwise λa b=>a∉DJ x b (xJ x b)
def V5{y:Int}(b:Ep x)(c:y∈xR x)(d:y∉a):(P1 x a).Perm (y::P1 x (a++[y])):=by
 refine xg (b.nd.filter _) (List.nodup_cons.mpr #[λz=>(zK.mp z).2 q0o,b.nd.filter _]) λk=>?_;rw[zK,iO,zK,mJ,oq];by_cases q:k=y
 ·subst q;exact#[λ_=>.inl rfl,λ_=>#[c,d]]
 ·simp[q]
def Kh.pop{y:Int}(n:Ep x)(K:Kh x u (f++[y]) c []):Kh x u f (c++[y]) (DJ x y<|xJ x y):=by
 have g:y∈xR x:=K.st y q0o;have o:=List.nodup_append.mp K.nd;have h:y∉c:=λz=>o.2.2 y z y q0o rfl;have q:=V5 n g h;have j:∀t,cnt x (P1 x c) t=cnt x (P1 x<|c++[y]) t+if t∈DJ x y (xJ x y) then 1 else 0:=λt=>by rw[SH q,cnt_cons]
 have r:cnt x (P1 x c) y=0:=by have:=(K.rd y g h).mp q0o;simpa using this
 refine#[K.ks,?_,λt d=>K.st t (by simp only[mJ,oq]at d ⊢;rcases d with(z|z)|z<;>simp[z]),λt d=>?_,λt d e=>?_,λa i l k e=>?_,?_]
 ·have p:(c++[y]++f).Perm (c++(f++[y])):=by rw[oO];exact rZ c nj
  exact(p.nodup_iff).mpr K.nd
 ·rw[K.ct t d,j t];simp
 ·have s:t∉c:=λz=>e<|jg _ z;have v:t≠y:=λz=>e (by rw[z];simp);have:=K.rd t d s;rw[j t]at this;rw[mJ,oq]at this;simpa[v] using this
 ·have m:l∉c:=λz=>e<|jg _ z;rcases List.mem_append.mp i with z|z
  ·exact K.bk a z l k m
  ·rw[List.mem_singleton.mp z];exact SJ r l<|zK.mpr #[k,m]
 ·rw[List.pairwise_append];refine#[K.od,kF _ _,λa i b w=>?_];rw[List.mem_singleton.mp w];exact K.bk a i y g h
def Kh.step{b v:Int}(K:Kh x u ready c (b::e))(f:b∈xR x)(i:b∉c)(j:b∉e)(k:lk u b=↑v) :
  Kh x (pk u b<|v-1) (if v-1=0 then ready++[b] else ready) c e:=by
 have g:=K.ct b f;rw[k,hI ic]at g;injection g with g
 have l:b∉ready:=λz=>by
  have:=(K.rd b f i).mp z;rw[hI ic]at this;have:=Zr (x:=x) (a:=P1 x c) (t:=b)
  lia
 have d:∀t,t≠b->(if t∈b::e then (1:Int) else 0)=if t∈e then 1 else 0:=λt q=>by simp[q]
 refine#[(V4<|by rw[k];rfl).trans K.ks,?_,λt h=>?_,λt h=>?_,λt h m=>?_,K.bk,K.od]
 ·split
  ·have p:(c++(ready++[b])).Perm (b::(c++ready)):=by rw[<- oO];exact nj
   refine(p.nodup_iff).mpr<|List.nodup_cons.mpr ⟨λz=>?_,K.nd⟩;rcases List.mem_append.mp z with z|z
   ·exact i z
   ·exact l z
  ·exact K.nd
 ·by_cases q:t=b
  ·rw[q];exact f
  ·refine K.st t ?_;rcases List.mem_append.mp h with z|z
   ·exact jg _ z
   ·by_cases w:v-1=0
    ·rw[hI w]at z;rcases List.mem_append.mp z with z|z
     ·exact iF _ z
     ·exact iv (List.mem_singleton.mp z) q
    ·rw[cr w]at z;exact iF _ z
 ·rw[zJ];by_cases q:t=b
  ·rw[hI q,q,cr j];congr 1;lia
  ·rw[cr q,K.ct t h,d t q]
 ·by_cases q:t=b
  ·rw[q,cr j];by_cases w:v-1=0
   ·rw[hI w];exact#[λ_=>by lia,λ_=>by simp]
   ·rw[cr w];exact#[λz=>iv z l,λz=>iv q0a w]
  ·have:=K.rd t h m;rw[d t q]at this;rw[<- this];by_cases w:v-1=0
   ·rw[hI w];simp[q]
   ·rw[cr w]
def Kh.done(f:Ep x)(K:Kh x u [] a []):Ord x a:=by
 obtain⟨r,g⟩:=f.acy
 have c:∀n t,r t<=n->t∈xR x->t∈a:=by
  intro n
  induction n with
  |zero =>
   intro t i d;by_cases q:t∈a
   ·exact q
   ·have:cnt x (P1 x a) t≠0:=λz=>by have:=(K.rd t d q).mpr (by simpa using z);cases this
    obtain⟨l,b,e⟩:=NQ this;have:=g l (zK.mp b).1 t e
    lia
  |succ n j =>
   intro t i d;by_cases q:t∈a
   ·exact q
   ·have:cnt x (P1 x a) t≠0:=λz=>by have:=(K.rd t d q).mpr (by simpa using z);cases this
    obtain⟨l,b,e⟩:=NQ this;have:=g l (zK.mp b).1 t e;exact iv (j l q0a (zK.mp b).1) (zK.mp b).2
 have h:=K.nd;rw[lR]at h;exact#[xg h f.nd λk=>#[λz=>K.st k (by simpa using z),λz=>c _ k (hW _) z],K.od]
def Kh.len(b:Ep x)(K:Kh x u ready a d):ready.length<=63/\a.length<=63/\u.length<=63:=by
 have e:(xR x).length=x.ht.length:=h8 _;have:=b.len;have c:=L7 K.nd b.nd K.st;rw[iw]at c;have f:u.length=(xR x).length:=by rw[<- K.ks,h8]
 lia
def a3D(a:Ep x){l h:Int}(b:(lk x.rk h).isSome=true):(DJ x l h).Nodup:=by exact(v6 (a.ok.bo h _<|Hi a.ok b).1).filter _
def a1y:Wf (B0×Unit) (OL Int) (B0×Unit):=λp a _=>p.1.th.length<64/\a #[El (p.1.th.map (·.1))] (p.1,())
def a2i:Wf (B0×Unit) (OL Int) (B0×Unit):=λp a _=>Pe p.1/\p.1.rk.length<=1000/\a #[(p.1.rk.map (·.1)).filter λc=>!wv p.1 c] (p.1,())
def Hl :B0×Int×Unit->(Option Int->B0×Un×Unit->Prop)->98->Prop:=λp a b =>
 if (70).isSome=true then a (lk p.1.th p.2.1) 67 else b XC 67
end
section
variable{q:Cq}{XL:hO}
noncomputable abbrev DL:iK:=BY (top 23) 22
noncomputable abbrev DM:List Str:=["self","cell"]
def L8:vJ ["self","cell"] DM (vA DL):=by walk_at "sc"
abbrev Hm(q:Cq)(k:Nat):=zW q C "is_tied" DM (Hj) k
def L9(F:zA q.K "is_tied" "Field.is_tied" DL f g)(b:Bl q.K C)(c:PZ q.K C):Gq q 2 f g DM (Hj):=by
 refine' vL (w4 (D':=Unit) (ms:=[0]) (j:=0) F L8 rfl rfl λi A a s H E d =>
   (vC (vP (vS (a0R (LN .ht false 0 rfl b.cl c.nH (Eo d) (vz 1) (pv 0)) (CU (LN .th false 0 rfl b.cl c.nT (Eo d) (vz 1) (pv 0)))))))) λp k l h=>?_
 walk_at "wl"
 have h:k ((lk p.1.ht p.2.1).isSome||(lk p.1.th p.2.1).isSome) 67:=h;rw[cr im,cr im];by_cases e:(lk p.1.ht p.2.1).isSome=true
 ·rw[hI e];rw[e]at h;exact h
 ·rw[cr e];rw[Bool.eq_false_iff.mpr e]at h;exact h
noncomputable abbrev IE:iK:=BY (top 23) 24
noncomputable abbrev IF:List Str:=["self","low","high"]
def SK:vJ ["self","low","high"] IF (vA IE):=by walk_at "sc"
def Pp:(["face","low","self"]:List Str).Nodup:=by decide +kernel
abbrev V6(q:Cq)(k:Nat):=zW q C "steps" IF (IB) k
def SM(F:zA q.K "steps" "Field.steps" IE f t)(d:Bl q.K C)(u:PZ q.K C):Gq q 2 f t IF (IB):=by
 refine' vL (w4 (D':=Unit) (ms:=[0]) (j:=0) F SK rfl rfl λw A g s H E l =>
   (vC (vP (xT (Ts:=["face"]) (Fr:=["low","self"]) (idx:=[1,0]) (k:=1) (mb:=[1,2]) (is:=[]) (cl:=[("self",⇑s+1),("low",⇑s+1+1)]) rfl (Rp (BP 0 d.cl d.nB (Eo l) (pv 0) (wX 2 (pv 2)))) bs2 rfl (xn rfl) (λa b C m n=>(v8 0 (vO Pp))) (λa b C m n=>(tws_one (tw_w (zS (tw_cm CS (vz 0) (vz 1)) (yF (tw_dIn .ht false 2 rfl d.cl u.nH (Eo l) (vz 0) (pv 2))))))) (λa b C m n=>(vz 0)))))) λp x G h=>?_
 walk_at "wl"
 refine BV λB i=>?_;obtain⟨D,o,h⟩:=h;obtain⟨v,r⟩:=Option.isSome_iff_exists.mp D;have e:yg p.1 p.2.2.1=v:=by unfold yg;rw[r];rfl
 refine i ?_;rw[e]at o;refine#[v,r,o,?_];refine wO (q:=λf=>decide (f≠p.2.1)&&(lk p.1.ht f).isSome) (λf I K c=>?_) ?_
 ·show if (!decide (f=p.2.1))=true then (if (if false=true then _ else (lk p.1.ht f).isSome)=true then K ↑f _ else K none _) else (if false=true then K ↑f _ else K none _);rw[cr im,cr im];by_cases z:f=p.2.1
  ·rw[cr<|by simp[z]];rw[cr<|by simp[z]]at c;exact c
  ·rw[hI<|by simp[z]];by_cases y:(lk p.1.ht f).isSome=true
   ·rw[hI y];rw[hI<|by simp[z,y]]at c;exact c
   ·rw[cr y];rw[cr<|by simp[z,y]]at c;exact c
 ·have h:x #[DJ p.1 p.2.1 p.2.2.1] 57:=h;unfold DJ at h;rw[e]at h;exact h
noncomputable abbrev IG:iK:=BY (top 23) 17
noncomputable abbrev IH:List Str:=["self"]
def SN:vJ ["self"] IH (vA IG):=by walk_at "sc"
abbrev V7(q:Cq)(k:Nat):=zW q C "tails" IH (NO) k
def SO(F:zA q.K "tails" "Field.tails" IG f b)(c:Bl q.K C)(d:PZ q.K C)(B:Bn q.mg):Gq q 2 f b IH (NO):=by
 refine' vL (w4 (D':=Unit) (ms:=[0]) (j:=0) F SN rfl rfl λe A a s H E k =>
   (vC (vP (FC .ht 0 rfl c.cl d.nH rfl rfl B.sorted (pv 0))))) λp l m h=>?_
 walk_at "wl"
 obtain⟨g,n,i⟩:=h;exact#[g,i]
noncomputable abbrev FV:iK:=BY (top 23) 20
abbrev FW:List Str:=["self"]
def Pq:vJ ["self"] FW (vA FV):=by walk_at "sc"
def Ma:(["low","self"]:List Str).Nodup:=by decide +kernel
abbrev SQ(q:Cq)(k:Nat):=zW q C "arrows" FW (Ky) k
def Pr(F:zA q.K "arrows" "Field.arrows" FV f i)(m:Bl q.K C)(n:PZ q.K C)(a:V7 q 2):Gq q 3 f i FW (Ky):=by
 refine' vL (w4 (D':=Unit) (ms:=[0]) (j:=0) F Pq rfl rfl λo A d s H E r =>
   (vC (vP (xT (Ts:=["low"]) (Fr:=["self"]) (idx:=[0]) (k:=1) (mb:=[1]) (is:=[]) (cl:=[("self",⇑s+1)]) rfl (xq (wg (Ka 0 a))) Vx rfl (xn rfl) (λb c C e g=>(v8 0 (vO Ma))) (λb c C e g=>tws_nil) (λb c C e g=>(w8 (vz 0) (Ic .ht 1 rfl m.cl n.nH (Eo r) (pv 1) (wX 0 (pv 0))))))))) λp z B h=>?_
 walk_at "wl"
 obtain⟨t,u,v⟩:=h;refine#[t,u,?_,?_]
 ·show (El<|xR p.1).length<=hZ;rw[(yJ _).length_eq];exact wB (by show (p.1.ht.map (·.1)).length<=1000;rw[h8];lia)
 ·refine wV (f:=λl=>↑(l,xJ p.1 l)) (λl w K y=>?_) ?_
  ·exact#[_,zw (x:=p.1)<|CZ.mp w,y]
  ·rw[pr];exact v
noncomputable abbrev DN:iK:=BY (top 23) 15
abbrev DO:List Str:=["self","cell"]
def Mb:vJ ["self","cell"] DO (vA DN):=by walk_at "sc"
abbrev Pu(q:Cq)(k:Nat):=zW q C "head_of" DO (Hk) k
def Mc(F:zA q.K "head_of" "Field.head_of" DN f c)(d:Bl q.K C)(e:PZ q.K C)(a:wP q 2):Gq q 3 f c DO (Hk):=by
 refine' vL (w4 (D':=Unit) (ms:=[0]) (j:=0) F Mb rfl rfl λg A b s H E i =>
   (vN (wA (vK (wL 0 a 79)))
   (vC (vP (vS (Km .ht 0 rfl d.cl e.nH (Eo i) (pv 0) (wX 1 (pv 1)))))))) λp k l h=>?_
 walk_at "wl"
 exact h
noncomputable abbrev II:iK:=BY (top 23) 14
noncomputable abbrev IJ:List Str:=["self","low"]
def Kz:vJ ["self","low","high"] IJ (vA II):=by walk_at "sc"
abbrev NR(q:Cq)(k:Nat):=zW q C "untie" IJ (IC) k
def SR(F:zA q.K "untie" "Field.untie" II f k)(c:Bl q.K C)(d:PZ q.K C)(a:wP q 2)(b:Xc q.K q.mg "NotTied" XN):Gq q 3 f k IJ (IC):=by
 refine' vL (w4 (D':=Unit) (ms:=[0]) (j:=1) F Kz rfl rfl λl A g s H E m =>
   (vN (wA (vK (wL 0 a 79)))
   (vN (vZ (tw_dIn .ht true 0 rfl c.cl d.nH (Eo m) (vz 1) (pv 0))
   (vC<|C7 rfl b)
   vY)
   (vN (vQ 2 Kz.nd (vS (VQ .ht 0 rfl c.cl d.nH (pv 0) (wX 1 (pv 1)))))
   (vN (Nu .th 0 rfl c.cl d.nT (pv 0) (wX 2 (pv 2)) (λn o=>HC n o))
   (vC (vP (vS (vz 2))))))))) λp u r h=>?_
 walk_at "wl"
 obtain⟨t,h⟩:=h;show if (70).isSome=true then _ else r XC 67;by_cases i:(70).isSome=true
 ·rw[hI i]at h ⊢;dsimp only;rw[hI rfl];by_cases q:(lk p.1.ht p.2.1).isSome=true
  ·rw[hI q]at h;rw[cr<|by simp[q]];have e:=zw (x:=p.1)<|Bw q;exact#[_,e,by rw[(t.ht _ _ e).2.2.2];rfl,h]
  ·rw[cr q]at h;rw[hI<|by simp[q]];exact h
 ·rw[cr i]at h ⊢;exact h
noncomputable abbrev yx:iK:=top 24
noncomputable abbrev yy:List Str:=["earlier","last"]
def xv:vJ ["earlier","last","row","tail"] yy (vA yx):=by walk_at "sc"
abbrev DP(q:Cq)(k:Nat):=xM q "row_from_first" yy Ai k
def Dl(F:DF q "row_from_first" yx f o):Gq q 2 f o yy Ai:=by
 refine' vL (w4 (D':=Unit) (ms:=[0]) (j:=2) F xv rfl rfl λr A b s H E t =>
   (vN (vQ 2 xv.nd 103)
   (vN (vQ 3 xv.nd (vS (Ay (vz 1))))
   (vN (J5 (mb:=[0]) (D2:=(Dc (Option Int))×Int×(OL Int)×(Option Int)×Unit) (wu q0q) Bc (tw_cm No (vz 3) HQ)
   (vN (xY 2 (zc (vz 3)))
   (vC (vQ 3 xv.nd (vS (RO 0 (Eo t) (pv 0) (zc (vz 3))))))) q0q)
   (vC (vP (Zk (wS 2)))))))) λp D G h=>?_
 walk_at "wl"
 refine BV λu c=>?_;obtain⟨⟨a,w,x,y⟩,h⟩:=h;refine c ?_;refine#[λm d=>d.1=p.1/\(match d.2.2.2.1 with|none=>d.2.2.1.l≠[]|some k=>(lk p.1.l k).isSome=true/\d.2.2.1.l.length+a k<1000)/\(match d.2.2.2.1 with|none=>0|some k=>a k+1)<=m,#[a p.2.1+1,rfl,#[x,by have:=w p.2.1;simpa using this],hW _],?_];intro m;refine a3k λI J B C L=>?_;rintro⟨rfl,i,M⟩
 cases C with
 |none =>
  rw[cr q0o];exact h _ (by simpa using i)
 |some k =>
  rw[hI q0o];obtain⟨v,n⟩:=Option.isSome_iff_exists.mp i.1;have z:hZ=16777216:=jt;refine#[k,rfl,by show B.l.length<hZ;lia,k,rfl,v,n,?_]
  cases v with
  |none=>exact#[0,q0a,rfl,q0o,hW _]
  |some e =>
   have g:=y k e n;exact#[a e+1,q0a,rfl,#[g.1,by simp;lia],hW _]
noncomputable abbrev BC:iK:=BY (top 23) 25
noncomputable abbrev BD:List Str:=["self","low","high"]
def xH:vJ ["self","low","high","earlier","waiting","tail","head","later"] BD (vA BC):=by walk_at "sc"
abbrev KA(q:Cq)(k:Nat):=zW q C "ring_with" BD (Ee) k
def IK(F:zA q.K "ring_with" "Field.ring_with" BC f fd)(ct:Bl q.K C)(cf:PZ q.K C)(a:DP q 3)(D:V6 q 3):Gq q 4 f fd BD (Ee):=by
 refine' vL (w4 (D':=Unit) (ms:=[0]) (j:=5) F xH rfl rfl λag A aa s H E P =>
   (vN (vQ 3 xH.nd (Zi (wX 1 (pv 1))))
   (vN (vQ 4 xH.nd (vW (vH (vz 1) vV)))
   (vN (J5 (mb:=[0]) (D2:=(Bd C true)×Int×Int×(Dc (Option Int))×(OL Int)×Int×Int×Un×Unit) (wu q0q) Bc (tw_trueR (wS 4))
   (vN (vQ 5 xH.nd (vS (VR 4 (pv 4) (Yl oP sI sJ Yn (pv 4)))))
   (vN (vQ 6 xH.nd (vS (Sd .ht 0 rfl ct.cl cf.nH (Eo P) (pv 0) (wX 5 (pv 5)) (wX 2 (pv 2)))))
   (vN (vZ (tw_w (zS (tw_cm CS (vz 5) (vz 1)) (yF (tw_inT (vz 1) (BP 0 ct.cl ct.nB (Eo P) (pv 0) (wX 6 (pv 6))) (by with_unfolding_all rfl)))))
   (vC<|vP<|vT a<|v0 3<|vG (vz 5) vD)
   vY)
   (vC (xW (is:=[]) (mb:=[0]) (D1:=(Bd C true)×Int×Int×(Dc (Option Int))×(OL Int)×Int×Int×Int×Unit) (D2:=(Bd C true)×Int×Int×(Dc (Option Int))×(OL Int)×Int×Int×Int×Unit) (wu q0q) Bc rfl (xq (wg (wL 0 D (vG (vz 5) (vG (vz 6) vD))))) (v8 7 (vO xH.nd))
   (vC (vZ (tw_dcNin 3 (Eo P) (vz 7) (pv 3))
   (vN (RP 3 (Eo P) (pv 3) (vz 7) (Ay (vz 5)))
   (vC (xY 4 (vz 7))))
   vY)) q0q q0q))))) q0q)
   (vC (vP 103)))))) λp Kn Ke h=>?_
 walk_at "wl"
 refine BV λah ab=>?_;obtain⟨L,hh,t1,t2,h⟩:=h;refine ab ?_
 have G:p.2.1∉xR p.1:=λz=>by have:=yZ z;unfold wv at t1;rw[this]at t1;cases t1
 have n0:lk p.1.ht p.2.1=none:=V1 G;refine#[λm d=>d.1=p.1/\d.2.1=p.2.1/\d.2.2.1=p.2.2.1/\Rw p.1 p.2.1 d.2.2.2.1.l d.2.2.2.2.1.l (NP p.1 p.2.1 p.2.2.1)/\2*P0 p.1 d.2.2.2.1.l+d.2.2.2.2.1.l.length<=m/\m<=200,#[_,rfl,rfl,rfl,SG L,hW _,a3C L],?_];intro m;refine Y4 λd1 d2 d3 d4 d5 d6 d7 d8 d9=>?_;rintro⟨rfl,rfl,rfl,i,i5,i6⟩;rcases List.eq_nil_or_concat d5.l with e|⟨ys,y,e⟩
 ·rw[cr<|by rw[e];simp];refine h [] λ_=>?_;rw[e]at i;exact V3 (V:=d4.l.map (·.1)) L G (y8.mp i.lo) (λk o n=>i.tl k (y8.mpr o) n) λk o=>#[(i.dn k (y8.mpr o) q0o).1,λt c=>y8.mp<|(i.dn k (y8.mpr o) q0o).2 t c]
 ·rw[hI<|by rw[e];simp];rw[List.concat_eq_append]at e;refine#[ys,y,e,?_];have W:(lk d4.l y).isSome=true:=i.wk y (by rw[e];simp)
  have hd:(lk p.1.ht y).getD p.2.2.1=if y=p.2.1 then p.2.2.1 else xJ p.1 y:=by
   by_cases q:y=p.2.1
   ·rw[hI q,q,n0];rfl
   ·rw[cr q,zw<|i.tl y W q];rfl
  have M:(lk p.1.rk<|if y=p.2.1 then p.2.2.1 else xJ p.1 y).isSome=true:=by
   by_cases q:y=p.2.1
   ·rw[hI q];exact hh
   ·rw[cr q];exact L.Uf<|i.tl y W q
  rw[hd]
  have I:(y≠p.2.1->p.2.1∉yg p.1 (xJ p.1 y))->IB (p.1,y,162,()) (λae p'=>LJ (λx (b:B0×Int×Int×Dc (Option Int)×OL Int×Int×Int×WL.Un×Unit) R Kr Ke =>
    if (!(lk b.2.2.2.1.l x).isSome)=true then b.2.2.2.1.l.length<hZ/\b.2.2.2.2.1.l.length<hZ/\R (b.1,b.2.1,b.2.2.1,#[pk b.2.2.2.1.l x<|↑b.2.2.2.2.2.1],#[b.2.2.2.2.1.l++[x]],b.2.2.2.2.2.1,b.2.2.2.2.2.2.1,#[],b.2.2.2.2.2.2.2.2)
    else R (b.1,b.2.1,b.2.2.1,b.2.2.2.1,b.2.2.2.2.1,b.2.2.2.2.2.1,b.2.2.2.2.2.2.1,#[],b.2.2.2.2.2.2.2.2)) ae.l (p'.1,p.2.1,p.2.2.1,d4,#[ys],y,162,d8,d9)
    (λN=>∃m',m'<m/\N.1=p.1/\N.2.1=p.2.1/\N.2.2.1=p.2.2.1/\Rw p.1 p.2.1 N.2.2.2.1.l N.2.2.2.2.1.l (NP p.1 p.2.1 p.2.2.1)/\2*P0 p.1 N.2.2.2.1.l+N.2.2.2.2.1.l.length<=m'/\m'<=200) Kn Ke) (λaf p'=>Ke af (p'.1,#[],#[],())):=by
   intro hy;refine#[by rw[Hi L.ok M];rfl,L.bl M,?_]
   refine wW (λ(r:List Int) (b:B0×Int×Int×Dc (Option Int)×OL Int×Int×Int×WL.Un×Unit)=>b.1=p.1/\b.2.1=p.2.1/\b.2.2.1=p.2.2.1/\b.2.2.2.2.2.1=y/\(lk b.2.2.2.1.l y).isSome=true/\(∀t∈r,t∈xR p.1) /\
    Rw p.1 p.2.1 b.2.2.2.1.l b.2.2.2.2.1.l (λk e=>if k=y then (∀t∈DJ p.1 y 162,(lk e t).isSome=true\/t∈r) else NP p.1 p.2.1 p.2.2.1 k e)/\2*P0 p.1 b.2.2.2.1.l+b.2.2.2.2.1.l.length+1<=m) _ ?_ ?_ ?_
   ·refine#[rfl,rfl,rfl,rfl,W,λt c=>(zj.mp c).2.2,#[i.lo,i.tl,λk o=>i.wk k (by rw[e];exact jg _ o),λk o O=>?_,i.ch,i.sz],?_]
    ·dsimp only;by_cases q:k=y
     ·rw[hI q];exact λt c=>.inr c
     ·rw[cr q];exact i.dn k o (by rw[e];intro z;rcases List.mem_append.mp z with z|z;exact O z;exact q<|List.mem_singleton.mp z)
    ·rw[e,iw]at i5;simp only[iI]at i5
     lia
   ·intro S r;refine Y4 λb1 b2 b3 X b5 J b7 b8 b9=>?_;rintro _ ⟨rfl,rfl,rfl,rfl,Y,j6,u,j8⟩ K hK;have T:∀t∈r,t∈xR p.1:=λt c=>j6 t (ij _ c)
    cases q:lk X.l S with
    |none =>
     rw[hI q0o];have z:hZ=16777216:=jt;have s1:=u.sz;have nn:∀(k:Int) (e':List (Int×Option Int)),(∀t,(lk e' t).isSome=true->(lk (pk e' S<|some J) t).isSome=true):=λk e' t c=>by rw[zJ];split;rfl;exact c
     obtain⟨Q,u2⟩:=u.add (t0:=J) (j6 S ic) q Y λk o U=>by
      by_cases B:k=J
      ·rw[hI B]at U ⊢;exact λt c=>(U t c).imp (nn k _ t) id
      ·rw[cr B]at U ⊢;exact#[U.1,λt c=>nn k _ t<|U.2 t c]
     refine#[by show X.l.length<hZ;lia,by show b5.l.length<hZ;lia,hK _ #[rfl,rfl,rfl,rfl,nn 0 _ _ Y,T,?_,?_]]
     ·refine#[Q.lo,Q.tl,Q.wk,λk o O=>?_,Q.ch,Q.sz];have g:=Q.dn k o O;by_cases B:k=J
      ·rw[hI B]at g ⊢;intro t c;rcases g t c with w|w
       ·exact .inl w
       ·rcases List.mem_cons.mp w with w|w
        ·left;rw[w,zJ,hI rfl];rfl
        ·exact .inr w
      ·rw[cr B]at g ⊢;exact g
     ·show 2*P0 p.1 (pk X.l S<|↑J)+(b5.l++[S]).length+1<=m;rw[iw];simp only[iI]
      lia
    |some v =>
     rw[cr q0o];refine hK _ #[rfl,rfl,rfl,rfl,Y,T,#[u.lo,u.tl,u.wk,λk o O=>?_,u.ch,u.sz],j8];have g:=u.dn k o O;by_cases B:k=J
     ·rw[hI B]at g ⊢;intro t c;rcases g t c with w|w
      ·exact .inl w
      ·rcases List.mem_cons.mp w with w|w
       ·left;rw[w,q];rfl
       ·exact .inr w
     ·rw[cr B]at g ⊢;exact g
   ·refine Y4 λb1 b2 b3 X b5 J b7 b8 b9=>?_;rintro⟨rfl,rfl,rfl,rfl,Y,_,u,j8⟩;refine#[m-1,q0a,rfl,rfl,rfl,#[u.lo,u.tl,u.wk,λk o O=>?_,u.ch,u.sz],by dsimp only at j8 ⊢;lia,q0a];have g:=u.dn k o O;by_cases B:k=J
    ·rw[hI B]at g;subst B;exact#[hy,λt c=>(g t c).elim id λw=>iv w q0o]
    ·rw[cr B]at g;exact g
  by_cases q:y=p.2.1
  ·rw[cr (by simp[q]),cr im];exact I λz=>iv q z
  ·rw[hI<|by simp[q]];refine#[_,Hi L.ok M,?_];by_cases Z:p.2.1∈yg p.1 162
   ·rw[hI<|decide_eq_true Z];obtain⟨mm,m1,m2⟩:=i.ch;refine⟨⟨mm,λk=>by have:=m1 k;have:=i.sz;lia,W,m2⟩,λr P=>h r λz=>iv z P⟩
   ·rw[cr<|by simpa using Z];exact I λ_=>by rw[cr q]at Z;exact Z
noncomputable abbrev SS:iK:=BY (top 23) 13
abbrev SU:List Str:=["self","low","high"]
def SV:vJ ["self","low","high","ring"] SU (vA SS):=by walk_at "sc"
abbrev Xu(q:Cq)(k:Nat):=zW q C "tie" SU (SE) k
def Zs(F:zA q.K "tie" "Field.tie" SS f D)(o:Bl q.K C)(x:PZ q.K C)(b:wP q 4)(d:Hm q 4)(e:KA q 4)(g:Xc q.K q.mg "NotFace" XF)(k:Xc q.K q.mg "Tied" XT)(c:XcI q.P q.w q.K q.mg q.base 3 "RingOfArrows" XR "ring"):Gq q 5 f D SU (SE):=by
 refine' vL (Fj (wu q0q) (D':=(Bd C true)×Int×Int×(OL Int)×Unit) (ms:=[0]) (j:=1) F SV rfl rfl λG A v s H E l =>
   (vN (wA (vK (wL 0 b 79)))
   (vN (wA (vK (wL 0 b 118)))
   (vN (vZ (tw_ninT (vz 1) (BP 0 o.cl o.nB (Eo l) (pv 0) (wX 2 (pv 2))) (by with_unfolding_all rfl))
   (vC<|C7 rfl g)
   vY)
   (vN (vZ (tw_w (B7 (tw_val (vK (wL 0 d 79))) (AA (tw_val (vK (wL 0 d 118))))))
   (vC<|C7 rfl k)
   vY)
   (vN (vQ 3 SV.nd (wL 0 e (vG (vz 1) 118)))
   (vN (vZ (tw_trueR (wS 3))
   (vC<|Zg (i:=3) (α:=Int) rfl c l<|pv 3)
   vY)
   (vN (Ie .ht 0 rfl o.cl x.nH (Eo l) (pv 0) (wX 1 (pv 1)) (vz 2))
   (vC (Ie .th 0 rfl o.cl x.nT (Eo l) (pv 0) (wX 2 (pv 2)) (vz 1))))))))))) λp I y h=>?_
 walk_at "wl"
 obtain⟨t,h⟩:=h;show if (70).isSome=true then _ else y XC 57;by_cases B:(70).isSome=true
 ·rw[hI B]at h ⊢;show if (82).isSome=true then _ else y XC 57;by_cases ht:(82).isSome=true
  ·rw[hI ht]at h ⊢;refine#[_,Hi t.ok ht,?_];by_cases u:p.2.1∈yg p.1 p.2.2.1
   ·rw[hI u]at h;rw[cr<|by simp[u]];show if wv p.1 p.2.1=true then _ else _;by_cases m:wv p.1 p.2.1=true
    ·rw[hI<|.inl m]at h;rw[hI m,hI rfl];exact h
    ·rw[cr m];show if wv p.1 p.2.2.1=true then _ else _;by_cases n:wv p.1 p.2.2.1=true
     ·rw[hI<|.inr n]at h;rw[hI n];exact h
     ·rw[cr<|λz=>z.elim m n]at h;rw[cr n];refine#[t,ht,by simpa using m,by simpa using n,λr l=>?_]
      cases r with
      |nil =>
       rw[cr q0o];have z:hZ=16777216:=jt;exact#[(by show p.1.ht.length<hZ;have:=t.len;lia),(by show p.1.th.length<hZ;have:=t.Zp;lia),h.2<|l rfl]
      |cons a r =>
       rw[hI q0o];exact h.1
   ·rw[cr u]at h;rw[hI<|by simp[u]];exact h
  ·rw[cr ht]at h ⊢;exact h
 ·rw[cr B]at h ⊢;exact h
abbrev DQ:iK:=BY (top 23) 16
abbrev DR:List Str:=["self","cell"]
def Md:vJ ["self","cell"] DR (vA DQ):=by walk_at "sc"
abbrev Pw(q:Cq)(k:Nat):=zW q C "tail_of" DR (Hl) k
def Me(F:zA q.K "tail_of" "Field.tail_of" DQ f c)(d:Bl q.K C)(e:PZ q.K C)(a:wP q 2):Gq q 3 f c DR (Hl):=by
 refine' vL (w4 (D':=Unit) (ms:=[0]) (j:=0) F Md rfl rfl λg A b s H E i =>
   (vN (wA (vK (wL 0 a 79)))
   (vC (vP (vS (Km .th 0 rfl d.cl e.nT (Eo i) (pv 0) (wX 1 (pv 1)))))))) λp k l h=>?_
 walk_at "wl"
 have h:if (70).isSome=true then k (lk p.1.th p.2.1) 67 else l XC 67:=h;exact h
end
structure Z5(l:List Int):Prop where
 ri:yV l
 lt:∀c∈l,0<=c/\c<63
def Z5.xr(d:Z5 a)(e:Z5 b):Z5 (xr a b):=#[Bk d.ri,λc f=>(Rr (v6 e.ri) f).elim (d.lt c)<|e.lt c]
def Z5.mem(b:Z5 a):∀k∈a,k∈Aj 0 63:=λk c=>BR (b.lt k c).1 (b.lt k c).2
section
variable{x:B0}
end
def IL :B0×Int×Unit->(Unit->B0×WL.Un×Unit->Prop)->(hO->B0×WL.Un×Unit->Prop)->Prop:=λp b a=>Pe p.1/\if (70).isSome=true then (if wv p.1 p.2.1=true then a XT 67 else FQ p b a) else a XC 67
abbrev NS(q:Cq)(k:Nat):=zW q C "take" BB (IL) k
section
variable{x:B0}
end
section
variable{q:Cq}{XL:hO}
end
noncomputable abbrev Mg:iK:=top 29
abbrev zx:=Xj
abbrev RW:=Option<|Int×List Int
noncomputable def rowAt(a:List RW)(k:Int):RW:=if 0<=k then (a[k.toNat]?).join else none
noncomputable def eb(rows:List RW)(k:Int):List Int:=((119).map (·.2)).getD []
structure Vr(rows:List RW):Prop where
 ok:∀k r e,rowAt rows k=↑(r,e)->0<=r/\r<=12/\yV e/\(∀c∈e,c<k/\∃e',rowAt rows c=↑(r-1,e'))/\xl (eb rows) e=[]
 ln:rows.length<=60
 sm:∀k r e,rowAt rows k=↑(r,e)->∀c∈e,c<35
def Lp(a:List RW)(q:Int×List Int):Prop:=yV q.2/\(∀c∈q.2,∃e,rowAt a c=↑(q.1,e))/\xl (eb a) q.2=[]
noncomputable def B2(rows:List RW):List Int:=(Aj 0 rows.length).filter λk=>(119).isSome
noncomputable def Ge:List RW:=[↑(0,[]),↑(0,[]),↑(0,[]),↑(0,[]),↑(1,[0,1]),↑(1,[0,2]),↑(1,[0,3]),↑(1,[1,2]),↑(1,[1,3]),↑(1,[2,3]),↑(2,[4,5,7]),↑(2,[4,6,8]),↑(2,[5,6,9]),↑(2,[7,8,9]),↑(3,[10,11,12,13])]
def SY:Wf (Bg×Unit) Int (Bg×Unit):=λp a _=>∀r,0<=r->r<=12->a r (#[],())
def Mh:Wf (List Int×List Int×Unit) (OL Int) 147:=λp a _=>(p.1.length<=1000/\p.2.1.length<=1000/\(p.1.filter λk=>!decide (k∈p.2.1)).length+(p.2.1.filter λk=>!decide (k∈p.1)).length<64)/\a #[jn p.1 p.2.1] 111
def S6:Wf (List RW×Unit) (OL Int) (WL.Un×Unit):=λp a _=>p.1.length<1000/\a #[B2 p.1] (#[],())
def S7:Wf (Bg×List Int×Unit) (OL Int) (Bg×WL.Un×Unit):=λp a _=>p.2.1.length<60/\∀l,yV l->(∀x∈l,x∈p.2.1)->a #[l] 111
def S8:Wf (List RW×List Int×Unit) (OL Int) 147:=λp a _=>Vr p.1/\(∀c∈p.2.1,(rowAt p.1 c).isSome=true)/\a #[xl (eb p.1) p.2.1] 111
def IM:Wf (Int×Unit) Bool (WL.Un×Unit):=λp a _=>a true (#[],())
def S9:Wf (List Int×Unit) Bool (WL.Un×Unit):=λp a _=>a true (#[],())
def Mi:Wf (List Int×List Int×Unit) Bool 147:=λp a _=>a (decide<|p.1=p.2.1) 111
def NT:Wf (Int×Unit) (OL RW) (WL.Un×Unit):=λp a _=>0<=p.1/\a #[Ge.take p.1.toNat] (#[],())
def Hn:Wf (OL RW×OL 115×Int×Bg×Unit) (OL Int) (OL RW×OL 115×WL.Un×Bg×Unit):=λp a _ =>
 Vr p.1.l/\p.1.l.length<=34/\p.2.1.l.length<=100/\(∀q∈p.2.1.l,Lp p.1.l q)/\0<=p.2.2.1/\p.2.2.1<=12 /\
 ∀e q,Vr (p.1.l++[↑(p.2.2.1,e)])->(∀u∈p.2.1.l++q,Lp (p.1.l++[↑(p.2.2.1,e)]) u)->q.length<=1->a #[e] (p.1,#[p.2.1.l++q],#[],#[],())
def Ta:Wf (Bg×Int×Unit) (OL RW) (Bg×WL.Un×Unit):=λp b _=>(0<=p.2.1/\p.2.1<=20)/\∀a,Vr a->a.length<=35->b #[a] 111
structure yz(x:B0)(rows:List RW):Prop where
 up:x.up=rows.length
 rk:∀k,lk x.rk k=(119).map (·.1)
 bd:∀k,lk x.bd k=(119).map (·.2)
 ks:x.rk.map (·.1)=B2 rows
 lb:x.bd.length<=rows.length
def Tb :B0×List RW×Unit->(B0->WL.Un×WL.Un×Unit->Prop)->(hO->WL.Un×WL.Un×Unit->Prop)->Prop:=λp a _=>p.1=#[[],[],0,[],[]]/\Vr p.2.1/\∀x:B0,yz x p.2.1->x.ht=[]->x.th=[]->a x 111
def IN:Wf (Bool×Bool×Unit) Bool 147:=λp a _=>a (decide<|p.1=p.2.1) 111
def Dm :B0×List RW×Unit->(Bool->B0×WL.Un×Unit->Prop)->(hO->B0×WL.Un×Unit->Prop)->Prop:=λp a _=>yz p.1 p.2.1/\Vr p.2.1/\a true 67
def Ug(a:List RW)(c:Int):List Int:=(B2 a).filter λk=>decide<|c∈eb a k
def NU:Wf (List RW×Int×Unit) (OL Int) 147:=λp a _=>p.1.length<1000/\a #[Ug p.1 p.2.1] 111
def xO{α:Type}{l:List α}{i:Int}(h0:0<=i)(h1:i<(l.length:Int)):∃x,Gi l i=↑x/\l[i.toNat]?=↑x/\x∈l:=by
 have hl:i.toNat<l.length:=by lia
 have e:l[i.toNat]?=↑l[i.toNat]:=jO hl;have:=Nc e;rw[show ((i.toNat:Nat):Int)=i by lia]at this;exact#[_,this,e,vk hl]
def IP{n k:Int}(h:k∈Aj 0 n):0<=k/\k<n:=by
 unfold Aj at h;obtain⟨i,a,e⟩:=List.mem_map.mp h;have:=List.mem_range.mp a
 lia
def vR{rows:List RW}{k:Int}{y:Int×List Int}(h:rowAt rows k=↑y):0<=k/\k<(rows.length:Int)/\rows[k.toNat]?=↑(some y)/\Gi rows k=↑(some y):=by
 unfold rowAt at h;by_cases h0:0<=k
 ·rw[hI h0]at h
  cases e:rows[k.toNat]? with
  |none=>rw[e]at h;cases h
  |some z =>
   rw[e]at h;have h:z=↑y:=h;subst h;have hl:=(List.getElem?_eq_some_iff.mp e).1;have h1:k<(rows.length:Int):=by omega
   obtain⟨x,a1,a2,_⟩:=xO h0 h1;rw[e]at a2;cases a2;exact#[h0,h1,rfl,a1]
 ·rw[cr h0]at h;cases h
def FX{k:Int}(a:0<=k)(e:rows[k.toNat]?=↑z):rowAt rows k=z:=by unfold rowAt;rw[hI a,e];rfl
def Vr.Zt(v:Vr rows){k:Int}(h:rowAt rows k=↑y):yV y.2/\∀x∈y.2,x∈Aj 0 35:=by obtain⟨_,_,b,c,_⟩:=v.ok k y.1 y.2 h;refine#[b,λx a=>?_];obtain⟨_,f,d⟩:=c x a;obtain⟨e,g,_⟩:=vR d;exact BR e<|v.sm k y.1 y.2 h x a
def yS{rows:List RW}{k:Int}{y:Int×List Int}(h:rowAt rows k=↑y):eb rows k=y.2:=by unfold eb;rw[h];rfl
def Zu(a:List b){n:Int}(h:0<=n):Gp a none ↑n=a.take n.toNat:=by unfold Gp;rw[show ↑n=some ((n.toNat:Nat):Int) by rw[show ((n.toNat:Nat):Int)=n by lia],HT.M7,HT.JI];simp
def wF{g:Bg}{n:Int}{Kn:Int->Bg×WL.Un×Unit->Prop}{Ke:hO->Bg×WL.Un×Unit->Prop}(h0:0<n)(h1:n<1073741824)(h:∀r,0<=r->r<n->Kn r 111):zx (g,n,()) Kn Ke:=#[h0,h1,h]
def wI:rowAt (rows++[z]) (rows.length:Int)=z:=by refine FX q0a ?_;rw[md,ki<|hW _,qZ];rfl
def wY{a:List RW}{k:Int}(h:k≠(a.length:Int)):rowAt (a++[z]) k=rowAt a k:=by
 unfold rowAt;by_cases b:0<=k
 ·rw[hI b,hI b];by_cases c:k.toNat<a.length
  ·rw[mz c]
  ·rw[kX (by rw[iw,iI];lia),kX q0a]
 ·rw[cr b,cr b]
def IQ{a:List RW}{k:Int}(h:k≠(a.length:Int)):eb (a++[z]) k=eb a k:=by unfold eb;rw[wY h]
def yT{k:Int}(h:rowAt rows k=↑y):k≠(rows.length:Int):=λz=>by
 have:=(vR h).2.1
 lia
def IR(v:Vr rows)(p:rows.length<=35)(m:∀r e,z=↑(r,e)->0<=r/\r<=12/\yV e/\(∀c∈e,∃g,rowAt rows c=↑(r-1,g))/\xl (eb rows) e=[]):Vr (rows++[z]):=by
 refine#[λk r e h=>?_,by rw[iw,iI];lia,λk r e h c n=>?_]
 rotate_left
 ·by_cases q:k=(rows.length:Int)
  ·rw[q,wI]at h;obtain⟨g,i⟩:=(m r e h).2.2.2.1 c n;have:=(vR i).2.1
   lia
  ·rw[wY q]at h;exact v.sm k r e h c n
 have j:∀{k r e},0<=r/\r<=12/\yV e/\(∀c∈e,c<k/\∃g,rowAt rows c=↑(r-1,g))/\xl (eb rows) e=[]->0<=r/\r<=12/\yV e/\(∀c∈e,c<k/\∃g,rowAt (rows++[z]) c=↑(r-1,g))/\xl (eb<|rows++[z]) e=[]:=λ{k r e} ⟨a,b,c,d,f⟩=>by
  refine#[a,b,c,λx l=>?_,?_]
  ·obtain⟨o,g,i⟩:=d x l;exact#[o,g,by rw[wY<|yT i];exact i]
  ·rw[<- f];refine xX λx l=>?_;obtain⟨_,g,i⟩:=d x l;exact IQ<|yT i
 by_cases q:k=(rows.length:Int)
 ·rw[q,wI]at h;obtain⟨a,b,c,d,f⟩:=m r e h;refine j #[a,b,c,λx l=>?_,f];obtain⟨g,i⟩:=d x l;exact#[by have:=(vR i).2.1;lia,g,i]
 ·rw[wY q]at h;exact j<|v.ok k r e h
def FY(h:Lp rows u):Lp (rows++[z]) u:=by
 obtain⟨a,b,c⟩:=h;refine#[a,λx d=>?_,?_]
 ·obtain⟨e,q⟩:=b x d;exact#[e,by rw[wY<|yT q];exact q]
 ·rw[<- c];refine xX λx d=>?_;obtain⟨e,q⟩:=b x d;exact IQ<|yT q
def Tc{r:Int}:Lp (rows++[↑(r,[])]) (r,[(rows.length:Int)]):=by
 refine#[kF _ _,λx a=>#[[],?_],?_]
 ·rw[List.mem_singleton.mp a,wI]
 ·show xr [] (eb (rows++[↑(r,[])]) (rows.length:Int))=[];rw[yS (y:=(r,[])) wI];rfl
def V8(h:yV e):xr e e=[]:=H0 (Bk h) iW λk=>by rw[Cu<|v6 h];by_cases q:k∈e<;>simp[q]
def Px{c:Int}:xl f (l++[c])=xr (xl f l) (f c):=by unfold xl PY;rw[kH,List.foldl_append];rfl
def Py{r:Int}(v:Vr rows)(p:yV l)(h:∀c∈l,∃e,rowAt rows c=↑(r,e)) :
  (∀c∈xl (eb rows) l,∃n,rowAt rows c=↑(r-1,n))/\xl (eb rows) (xl (eb rows) l)=[]/\Lp (rows++[↑(r,xl (eb rows) l)]) (r,l++[(rows.length:Int)]):=by
 have m:∀c∈l,yV (eb rows c)/\(∀d∈eb rows c,∃n,rowAt rows d=↑(r-1,n))/\xl (eb rows) (eb rows c)=[]:=λc i=>by obtain⟨e,j⟩:=h c i;obtain⟨_,_,a,b,f⟩:=v.ok c r e j;rw[yS j];exact#[a,λd k=>(b d k).2,f]
 have s:∀{d q},rowAt rows d=↑q->(eb rows d).Nodup:=λ{d q} k=>by rw[yS k];exact v6 (v.Zt k).1
 refine#[λc i=>?_,O5 λc i=>#[(m c i).1,λd k=>?_,(m c i).2.2],?_,λx o=>?_,?_]
 ·obtain⟨d,k,o⟩:=J9 (λc i=>v6 (m c i).1) i;exact(m d k).2.1 c o
 ·obtain⟨n,q⟩:=(m c i).2.1 d k;exact s q
 ·refine List.pairwise_append.mpr #[p,kF _ _,λa t b u=>?_];obtain⟨e,j⟩:=h a t;rw[List.mem_singleton.mp u];exact(vR j).2.1
 ·rcases List.mem_append.mp o with z|z
  ·obtain⟨e,j⟩:=h x z;exact#[e,by rw[wY<|yT j];exact j]
  ·rw[List.mem_singleton.mp z];exact#[_,wI]
 ·show xl _ (l++[(rows.length:Int)])=[];rw[Px,yS (y:=(r,xl (eb rows) l)) wI,xX (g:=eb rows) λc i=>?_]
  ·exact V8<|Ah _ _
  ·obtain⟨e,j⟩:=h c i;exact IQ<|yT j
def Lp.sub{a:List RW}(c:a.length<=35)(h:Lp a u):∀x∈u.2,x∈Aj 0 35:=λx b=>by obtain⟨e,q⟩:=h.2.1 x b;have:=vR q;exact BR q0a q0a
def w9{rows:List RW}{k:Int}:k∈B2 rows↔(119).isSome=true:=by unfold B2;rw[j4];refine#[λh=>h.2,λh=>#[?_,h]];obtain⟨y,hy⟩:=Option.isSome_iff_exists.mp h;have:=vR hy;exact BR this.1 this.2.1
def zk(rows:List RW):(B2 rows).length<=rows.length:=by
 have:=iR (λk=>(119).isSome)<|Aj 0 rows.length;rw[xG]at this;unfold B2
 lia
def NW(c:List RW):yV (B2 c):=by
 refine kj _ ?_;unfold Aj;rw[List.pairwise_map];refine pE ?_<|tj;intro a b h
 lia
def Td(n:Nat):Aj 0 ((n+1:Nat):Int)=Aj 0 (n:Int)++[(n:Int)]:=by unfold Aj;rw[show (((n+1:Nat):Int)-0).toNat=n+1 by lia,show ((n:Int)-0).toNat=n by lia,List.range_succ,kH];simp
def V9:B2 (rows++[z])=B2 rows++if z.isSome=true then [(rows.length:Int)] else []:=by
 unfold B2;rw[iw,iI,Td,List.filter_append];congr 1
 ·refine l8 λk a=>?_;rw[wY (by have:=IP a;lia)]
 ·rw[jN,wI];rfl
def Te:B2 (rows++[↑y])=B2 rows++[(rows.length:Int)]:=V9
def Ho{a:List RW}{k:Int}(h:(a.length:Int)<=k):rowAt a k=none:=by
 cases e:rowAt a k with
 |none=>rfl
 |some y=>have:=(vR e).2.1;omega
def yA{a:List RW}{j k:Int}(c:0<=j):rowAt (a.set j.toNat none) k=if k=j then none else rowAt a k:=by
 by_cases q:k=j
 ·rw[hI q,q];unfold rowAt;rw[hI c];by_cases d:j.toNat<a.length
  ·rw[mZ d];rfl
  ·rw[kX<|by rw[lm];lia];rfl
 ·rw[cr q];unfold rowAt;by_cases b:0<=k
  ·rw[hI b,hI b,nP q0a]
  ·rw[cr b,cr b]
def Tf{a:List RW}{j:Int}(b:0<=j):B2 (a.set j.toNat none)=(B2 a).filter λk=>!decide (k=j):=by unfold B2;rw[lm,List.filter_filter];refine l8 λk _=>?_;rw[yA b];by_cases q:k=j<;>simp[q]
section
variable{x:B0}{rows:List RW}
def yz.lr(c:yz x rows):x.rk.length<=rows.length:=by have:=congrArg oJ c.ks;rw[h8]at this;rw[this];exact zk rows
def yz.Zv(c:yz x rows)(v:Vr rows):Pe x:=by
 have l:=v.ln;have l1:=c.lr;have l2:=c.lb;refine#[λk h=>?_,λk b h=>?_,by rw[c.ks];exact(NW rows).imp Int.le_of_lt,q0a,q0a]
 ·rw[c.rk,iJ]at h;rw[c.bd,iJ];exact h
 ·rw[c.bd]at h
  cases e:rowAt rows k with
  |none=>rw[e]at h;cases h
  |some y =>
   rw[e]at h;cases h;obtain⟨_,_,a,b,_⟩:=v.ok k y.1 y.2 e;refine#[a,λd hd=>?_];obtain⟨e',q⟩:=(b d hd).2;have:=vR q;exact#[this.1,by have:=v.sm k y.1 y.2 e d hd;lia]
def yz.yg(c:yz x rows)(k:Int):yg x k=eb rows k:=by unfold K7.yg eb;rw[c.bd]
def yz.put(c:yz x rows){r:Int}:yz ({ x with rk:=pk x.rk x.up r,bd:=pk x.bd x.up e,up:=x.up+1}:B0) (rows++[↑(r,e)]):=by
 have n:rowAt rows x.up=none:=Ho (by rw[c.up];exact oT _);have a:lk x.rk x.up=none:=by rw[c.rk,n];rfl
 have b:lk x.bd x.up=none:=by rw[c.bd,n];rfl
 have d:=c.lr;have f:=c.lb;refine#[?_,λk=>?_,λk=>?_,?_,?_]
 ·show x.up+1=_;rw[c.up,iw,iI]
  lia
 ·show lk (pk x.rk x.up r) k=_;rw[AI a,L6 a];by_cases q:k=x.up
  ·rw[hI q,q,c.up,wI];rfl
  ·rw[cr q,wY (by rw[<- c.up];exact q),c.rk]
 ·show lk (pk x.bd x.up e) k=_;rw[AI b,L6 b];by_cases q:k=x.up
  ·rw[hI q,q,c.up,wI];rfl
  ·rw[cr q,wY (by rw[<- c.up];exact q),c.bd]
 ·show (pk x.rk x.up r).map (·.1)=_;rw[AI a,kH,c.ks,Te,<- c.up];rfl
 ·show (pk x.bd x.up e).length<=_;rw[AI b,iw,iw,iI,iI]
  lia
def yz.take(c:yz x rows){j:Int}(a:0<=j):yz ({ x with rk:=dk x.rk j,bd:=dk x.bd j}:B0) (rows.set j.toNat none):=by
 have d:=c.lr;have b:=c.lb;refine#[by rw[lm];exact c.up,λk=>?_,λk=>?_,?_,?_]
 ·show lk (dk x.rk j) k=_;rw[B8,yA a,c.rk];split<;>rfl
 ·show lk (dk x.bd j) k=_;rw[B8,yA a,c.bd];split<;>rfl
 ·show (dk x.rk j).map (·.1)=_;rw[Tf a,<- c.ks];unfold dk;rw[pJ];congr 1;refine l8 λe _=>?_;by_cases q:e.1=j<;>simp[q]
 ·rw[lm];exact i9 (iR _ _) b
def yz.x8(c:yz x rows)(h:∀k∈row,(119).isSome=true):x8 x row=true:=List.all_eq_true.mpr λk a=>by rw[c.rk,iJ];exact h k a
def Tg{r:Int}(c:yz x rows)(v:Vr rows)(l:0<=r)(m:r<=12)(i:yV e)(g:∀d∈e,∃b,rowAt rows d=↑(r-1,b))(j:xl (eb rows) e=[])
 (k:∀a:B0,yz a (rows++[↑(r,e)])->a.ht=x.ht->a.th=x.th->h x.up (a,#[],#[],())):Ku (x,r,e,()) h o:=by
  have n:rowAt rows x.up=none:=Ho (by rw[c.up];exact oT _)
  refine#[c.Zv v,(by show lk x.bd x.up=none;rw[c.bd,n];rfl),?_]
  show if r<0\/12<r then _ else if asc e=true then (if K7.x8 x e=true then (if VT x e (r-1)=true then (if PY (e.map<|K7.yg x)=[] then h x.up _ else _) else _) else _) else _
  rw[cr q0a,hI<|(BO e).mpr i,hI (c.x8 λd f=>by obtain⟨b,q⟩:=g d f;rw[q];rfl),hI,hI]
  · exact k _ c.put rfl rfl
  · rw[mF λd _ => c.yg d]
    exact j
  · refine List.all_eq_true.mpr λd f => decide_eq_true ?_
    obtain⟨b,q⟩:=g d f
    rw[c.rk,q]
    rfl
def NX(c:yz x rows){j h:Int}:h∈NM x j↔(rowAt rows h).isSome=true/\j∈eb rows h:=by
 unfold NM;rw[j4,jf,c.yg];constructor
 ·rintro⟨a,b⟩;have:=yZ a;rw[c.rk,iJ]at this;exact#[this,b]
 ·rintro⟨a,b⟩;exact#[Bw (by rw[c.rk,iJ];exact a),b]
def NY(c:yz x rows){j:Int}:NM x j=[]↔∀h,j∉eb rows h:=by
 rw[List.eq_nil_iff_forall_not_mem];constructor
 ·intro z h a;refine z h ((NX c).mpr #[?_,a])
  cases e:rowAt rows h with
  |none=>unfold eb at a;rw[e]at a;cases a
  |some y=>rfl
 ·intro z h a;exact z h ((NX c).mp a).2
def Wa{j:Int}(c:yz x rows)(v:Vr rows)(b:(rowAt rows j).isSome=true)(e:∀h,j∉eb rows h)(f:wv x j=false)
 (k:∀a:B0,yz a (rows.set j.toNat none)->a.ht=x.ht->a.th=x.th->d () (a,#[],())):IL (x,j,()) d g:=by
  refine#[c.Zv v,?_]
  show if (lk x.rk j).isSome=true then (if wv x j=true then _ else FQ (x,j,()) d g) else _
  rw[hI (by rw[c.rk,iJ];exact b),cr<|by rw[f];simp]
  refine#[c.Zv v,?_]
  show if (lk x.rk j).isSome=true then (if NM x j=[] then d () _ else _) else _
  rw[hI (by rw[c.rk,iJ];exact b),hI<|(NY c).mpr e]
  obtain⟨y,i⟩:=Option.isSome_iff_exists.mp b
  exact k _ (c.take (vR i).1) rfl rfl
end
def yB{a:List RW}{n:Nat}{j:Int}:rowAt (a.take n) j=if j<(n:Int) then rowAt a j else none:=by
 unfold rowAt;by_cases b:0<=j
 ·rw[hI b,hI b,uz];by_cases c:j<(n:Int)
  ·rw[hI c,hI q0d]
  ·rw[cr c,cr q0d];rfl
 ·rw[cr b,cr b];split<;>rfl
def Wb(v:Vr rows)(n:Nat):Vr (rows.take n):=by
 refine#[λk r e h=>?_,i9 (List.length_take_le' _ _) v.ln,λk r e h=>?_]
 rotate_left
 ·rw[yB]at h;split at h
  ·exact v.sm k r e h
  ·cases h
 rw[yB]at h;by_cases q:k<(n:Int)
 ·rw[hI q]at h;obtain⟨a,b,c,d,f⟩:=v.ok k r e h;refine#[a,b,c,λx g=>#[(d x g).1,?_],?_]
  ·obtain⟨l,i,j⟩:=d x g;exact#[i,by rw[yB,hI q0a];exact j]
  ·rw[<- f];refine xX λx g=>?_;have:=(d x g).1;unfold eb;rw[yB,hI q0a]
 ·rw[cr q]at h;cases h
noncomputable def LpB(a:List RW)(u:Int×List Int):Bool:=asc u.2&&u.2.all (λc=>decide ((rowAt a c).map (·.1)=↑u.1))&&decide (xl (eb a) u.2=[])
def NZ{c r:Int}(h:(rowAt rows c).map (·.1)=↑r):∃e,rowAt rows c=↑(r,e):=by
 cases e:rowAt rows c with
 |none=>rw[e]at h;cases h
 |some y=>rw[e]at h;cases h;exact#[y.2,rfl]
def Th(h:LpB rows u=true):Lp rows u:=by unfold LpB at h;rw[jc,jc]at h;exact#[(BO _).mp h.1.1,λc a=>NZ<|kQ<|List.all_eq_true.mp h.1.2 c a,kQ h.2]
noncomputable def VrB(rows:List RW):Bool:=decide (rows.length<=27)&&(iG rows.length).all λk=>match rowAt rows (k:Int) with
 |none=>true
 |some (r,e)=>decide (0<=r)&&decide (r<=12)&&asc e&&e.all (λc=>decide (c<(k:Int))&&decide ((rowAt rows c).map (·.1)=↑(r-1)))&&decide (xl (eb rows) e=[])
def Zw(h:VrB rows=true):Vr rows:=by
 unfold VrB at h;rw[jc]at h;have f:=kQ h.1
 suffices g:∀k r e,rowAt rows k=↑(r,e)->0<=r/\r<=12/\yV e/\(∀c∈e,c<k/\∃d,rowAt rows c=↑(r-1,d))/\xl (eb rows) e=[] from#[g,q0d,λk r e a c b=>by
  have:=((g k r e a).2.2.2.1 c b).1;have:=vR a
  omega]
 intro k r e a;have q:=vR a;have z:=List.all_eq_true.mp h.2 k.toNat<|List.mem_range.mpr q0d;rw[show ((k.toNat:Nat):Int)=k by omega,a]at z;simp only[jc,jf,ny]at z;exact⟨z.1.1.1.1,z.1.1.1.2,(BO _).mp z.1.1.2,λc b=>#[(z.1.2 c b).1,NZ (z.1.2 c b).2],z.2⟩
noncomputable def Zx(n:Nat):List 115:=(Aj 0 n).filterMap λk=>if decide (k<4)=true then some (0,[k]) else none
noncomputable def lp1:List 115:=[(1,[4,5,7]),(1,[4,6,8]),(1,[5,6,9])]
noncomputable def chk(m:Nat):Bool:=VrB (Ge.take m)&&(Zx (Ge.take m).length).all (LpB<|Ge.take m)&&decide ((Zx (Ge.take m).length).length<=4)&&decide ((Ge.take m).length<=15)&&(decide ((Ge.take m).length<=9)||lp1.all (LpB<|Ge.take m))
def Wc:(iG 16).all chk=true:=by decide +kernel
structure Ck(a:List RW):Prop where
 v:Vr a
 l:∀u∈Zx a.length,Lp a u
 n:a.length<=15
 k:(Zx a.length).length<=4
 m:9<a.length->∀u∈lp1,Lp a u
def Xv{m:Nat}(h:m<16):Ck (Ge.take m):=by have c:=List.all_eq_true.mp Wc m<|List.mem_range.mpr h;unfold chk at c;simp only[jc,Bool.or_eq_true,jf]at c;obtain⟨⟨⟨⟨b,d⟩,e⟩,f⟩,g⟩:=c;exact⟨Zw b,λu a=>Th<|List.all_eq_true.mp d u a,f,e,λz u a=>Th<|List.all_eq_true.mp (g.elim (λw=>iv w q0d) id) u a⟩
def Ti(c:yV a)(d:yV b)(f:∀k∈a,k∈Aj 0 35)(g:∀k∈b,k∈Aj 0 35):a.length<=1000/\b.length<=1000/\(a.filter λk=>!decide (k∈b)).length+(b.filter λk=>!decide (k∈a)).length<64:=by
 have i:=xo c f;have j:=xo d g;have h:=SX.Aa ((a.filter λk=>!decide (k∈b))++b.filter λk=>!decide (k∈a)) (Aj 0 35) (List.nodup_append.mpr #[(v6 c).filter _,(v6 d).filter _,λx l y m e=>?_]) λk n=>?_
 ·rw[iw]at h;rw[xG]at i j h
  lia
 ·have q:=(List.mem_filter.mp l).2;rw[e]at q;simp[(List.mem_filter.mp m).1]at q
 ·rcases List.mem_append.mp n with z|z
  ·exact f k (List.mem_filter.mp z).1
  ·exact g k (List.mem_filter.mp z).1
def Wd{a b:List Int}(h:a.length+b.length<64):a.length<=1000/\b.length<=1000/\(a.filter λk=>!decide (k∈b)).length+(b.filter λk=>!decide (k∈a)).length<64:=by
 have c:=iR (λk=>!decide (k∈b)) a;have d:=iR (λk=>!decide (k∈a)) b
 lia
def N0(e:a=b)(k:c true 111):Mi (a,b,()) c d:=by show c (decide<|a=b) _;rw[decide_eq_true e];exact k
def Tj{a b:Bool}(e:a=b)(k:c true 111):IN (a,b,()) c d:=by show c (decide<|a=b) _;rw[decide_eq_true e];exact k
def yz.a1z(c:yz x rows)(k:Int):(lk x.rk k).isSome=decide (k∈B2 rows):=by
 rw[c.rk,iJ];by_cases q:(119).isSome=true
 ·rw[q,decide_eq_true<|w9.mpr q]
 ·rw[io<|λz=>q<|w9.mp z];simpa using q
def yz.VU(c:yz x rows){k:Int}(h:rowAt rows k=↑y):VU x k=y.1:=by unfold K7.VU;rw[c.rk,h];rfl
def N3{k:Int}{y:Int×List Int}{a:Int->B0×WL.Un×Unit->Prop}{b:hO->B0×WL.Un×Unit->Prop}(c:yz x rows)(h:rowAt rows k=↑y)(g:a y.1 (x,#[],())):Dh (x,k,()) a b:=by show if (lk x.rk k).isSome=true then a (K7.VU x k) _ else _;rw[hI (by rw[c.rk,h];rfl),c.VU h];exact g
def Pz{k:Int}{y:Int×List Int}{a:OL Int->B0×WL.Un×Unit->Prop}{b:hO->B0×WL.Un×Unit->Prop}(c:yz x rows)(v:Vr rows)(h:rowAt rows k=↑y)(g:a #[y.2] (x,#[],())):Bv (x,k,()) a b:=by refine#[c.Zv v,?_];show if (lk x.rk k).isSome=true then a #[K7.yg x k] _ else _;rw[hI (by rw[c.rk,h];rfl),c.yg,yS h];exact g
def FZ{n:Int}(k:b true (#[],())):IM (n,()) b c:=k
/-! ### a -/
def a1A(v:Vr rows)(n:rows.length<=59):Vr (rows++[↑(0,[])]):=by
 refine#[λk r e h=>?_,by rw[iw,iI];lia,λk r e h c j=>?_]
 ·by_cases q:k=(rows.length:Int)
  ·rw[q,wI]at h;cases h;exact#[oT 0,q0q,iW,(λ_ z=>by cases z),rfl]
  ·rw[wY q]at h;obtain⟨a,b,c,d,f⟩:=v.ok k r e h;refine#[a,b,c,λx i=>?_,?_]
   ·obtain⟨m,l,g⟩:=d x i;exact#[m,l,by rw[wY<|yT g];exact g]
   ·rw[<- f];refine xX λx i=>?_;obtain⟨_,l,g⟩:=d x i;exact IQ<|yT g
 ·by_cases q:k=(rows.length:Int)
  ·rw[q,wI]at h;cases h;cases j
  ·rw[wY q]at h;exact v.sm k r e h c j
def We:yz (#[[],[],0,[],[]]:B0) []:=by
 have n:∀k,rowAt [] k=none:=λk=>by unfold rowAt;split<;>rfl
 exact#[rfl,(λk=>by rw[n];rfl),(λk=>by rw[n];rfl),rfl,hW _]
def yz.Ug(c:yz x rows)(j:Int):NM x j=Ug rows j:=by unfold NM K7.Ug;rw[c.ks];exact l8 λk _=>by rw[c.yg]
structure Arr(x:B0)(a:List (Int×Int)):Prop where
 ok:Ep x
 nt:(x.th.map (·.1)).Nodup
 pm:(a.map (·.1)).Perm (xR x)
 hd:∀e∈a,xJ x e.1=e.2
def Tk :B0×List RW×Bg×Int×Unit->(OL (Int×Int)->B0×WL.Un×Bg×WL.Un×Unit->Prop)->(hO->B0×WL.Un×Bg×WL.Un×Unit->Prop)->Prop:=λp Kn _ =>
 yz p.1 p.2.1/\Vr p.2.1/\p.2.1.length<=35/\p.1.ht=[]/\p.1.th=[]/\(0<=p.2.2.2.1/\p.2.2.2.1<=1000)/\∀x a,yz x p.2.1->Arr x a->(a.map (·.1)).Pairwise (·<=·)->Kn #[a] (x,#[],#[],#[],())
def N4 :Bg×Int×Unit->(T3 (B0) (OL RW) (OL<|Int×Int)->Bg×WL.Un×Unit->Prop)->(hO->Bg×WL.Un×Unit->Prop)->Prop:=λp c _ =>
 (0<=p.2.1/\p.2.1<=20)/\∀x b a,yz x b->Vr b->b.length<=35->Arr x a->(a.map (·.1)).Pairwise (·<=·)->c #[x,#[b],#[a]] 111
def N5:Wf (List (Int×Int)×Unit) (OL Int) (WL.Un×Unit):=λp a _=>p.1.length<64/\a #[El (p.1.map (·.2))] (#[],())
noncomputable def lns(b:List RW)(a:List (Int×Int)):List Int:=(B2 b).filter λk=>!decide (k∈a.map (·.1)++El (a.map (·.2)))
def KC:Wf (List (Int×Int)×Unit) (OL Int) (WL.Un×Unit):=λp a _=>p.1.length<64/\a #[p.1.map (·.1)] (#[],())
def a3F:Wf (List RW×List (Int×Int)×Unit) (OL Int) 147:=λp a _=>p.1.length<1000/\p.2.1.length<64/\a #[lns p.1 p.2.1] 111
def w_sum:Wf (List Int×Unit) Bool (WL.Un×Unit):=λp a _=>yV p.1/\p.1.length<=1000/\a true (#[],())
def a1B:Wf (List Int×List Int×Unit) (OL Int) 147:=λp a _=>p.1.length<=1000/\a #[p.1.filter λk=>decide<|k∈p.2.1] 111
def a3G(h:yV l){k:Int}(p:1<=k)(c:k<l.length):∃a b,Gi l (k-1)=↑a/\Gi l k=↑b/\a<b:=by obtain⟨a,d,e,_⟩:=xO (l:=l) (i:=k-1) q0a q0a;obtain⟨b,f,g,_⟩:=xO (l:=l) (i:=k) q0a c;obtain⟨j,m⟩:=List.getElem?_eq_some_iff.mp e;obtain⟨n,o⟩:=List.getElem?_eq_some_iff.mp g;refine#[a,b,d,f,?_];rw[<- m,<- o];exact(List.pairwise_iff_getElem.mp h) _ _ j n q0a
def a3H(k:a true (#[],())):S9 (l,()) a b:=k
def a1C{n k:Int}(h:k∈Aj 1 n):1<=k/\k<n:=by unfold Aj at h;obtain⟨i,a,e⟩:=List.mem_map.mp h;have:=List.mem_range.mp a;omega
def N6:Wf (List (Int×Int)×List (Int×Int)×Unit) Bool 147:=λp a _=>p.1=p.2.1/\p.1.length<64/\a true 111
def Tl :B0×List RW×List (Int×Int)×Unit->(Bool->B0×WL.Un×WL.Un×Unit->Prop)->(hO->B0×WL.Un×WL.Un×Unit->Prop)->Prop:=λp Kn _ =>
 (yz p.1 p.2.1/\Vr p.2.1/\p.2.1.length<=35/\Arr p.1 p.2.2.1/\(p.2.2.1.map (·.1)).Pairwise (·<=·))/\Kn true 57
def Arr.eq{x:B0}{a:List (Int×Int)}(A:Arr x a)(s:(a.map (·.1)).Pairwise (·<=·)):(El<|xR x).map (λl=>(l,xJ x l))=a:=by rw[Ad ((yJ _).trans A.pm.symm) (CQ _) s,lP];exact(mF λy hy=>by show (y.1,xJ x y.1)=y;rw[A.hd y hy]).trans<|List.map_id _
def To{l:List (Int×Int)}(h:l.Pairwise (λx y=>SX.Js y x=false)):(l.map (·.1)).Pairwise (·<=·):=List.pairwise_map.mpr (h.imp λ{p q} z=>by rcases SX.FL.mp z with z|z<;>omega)
def F7 :B0×Int×Int×Unit->(Str->B0×WL.Un×WL.Un×Unit->Prop)->(hO->B0×WL.Un×WL.Un×Unit->Prop)->Prop:=λp a _ =>
 Ep p.1/\if (70).isSome=true then (if (82).isSome=true then (if p.2.1∈yg p.1 p.2.2.1 then (if wv p.1 p.2.1=true\/wv p.1 p.2.2.1=true then a "Tied" 57
  else a "RingOfArrows" 57/\(Zo (EK p.1 p.2.1 p.2.2.1)->a "done" (EK p.1 p.2.1 p.2.2.1,#[],#[],()))) else a "NotFace" 57) else a "NoCell" 57) else a "NoCell" 57
def Dn :B0×Int×Int×Unit->(Str->B0×WL.Un×WL.Un×Unit->Prop)->(hO->B0×WL.Un×WL.Un×Unit->Prop)->Prop:=λp a _ =>
 Ep p.1/\if (82).isSome=true then
  (if p.2.1=0 then (if (lk p.1.ht p.2.2.1).isSome=true then a "done" (({ p.1 with ht:=dk p.1.ht p.2.2.1,th:=dk p.1.th (xJ p.1 p.2.2.1)}:B0),#[],#[],()) else a "NotTied" 57)
  else if p.2.1=1 then (if wv p.1 p.2.2.1=true then a "Tied" 57 else if NM p.1 p.2.2.1=[] then a "done" (({ p.1 with rk:=dk p.1.rk p.2.2.1,bd:=dk p.1.bd p.2.2.1}:B0),#[],#[],()) else a "Covered" 57)
  else a "done" 57) else a "NoCell" 57
def Mj(a:List (Int×Int)):List Int:=a.map (·.1)++El (a.map (·.2))
def Do(b:List RW)(a:List (Int×Int))(low high:Int):List Str :=
 if ¬((rowAt b low).isSome=true/\(rowAt b high).isSome=true) then ["NoCell"] else if low∉eb b high then ["NotFace"] else if low∈Mj a\/high∈Mj a then ["Tied"] else ["done","RingOfArrows"]
def Xw:Wf (List RW×List (Int×Int)×Int×Int×Unit) (OL Str) (WL.Un×WL.Un×WL.Un×WL.Un×Unit):=λp a _ =>
 (p.1.length<=35/\p.2.1.length<=35)/\a #[Do p.1 p.2.1 p.2.2.1 p.2.2.2.1] (#[],#[],#[],#[],())
def Xx:Wf (Bg×List RW×List (Int×Int)×Unit) (Int×Int) (Bg×WL.Un×WL.Un×Unit):=λp Kn _ =>
 (Vr p.2.1/\p.2.1.length<=35/\p.2.2.1.length<=35)/\∀l h,Kn (l,h) (#[],#[],#[],())
def Tq:(El l).length=l.length:=(yJ l).length_eq
def wj{c:Bool}{P Q:Prop}(h:c=false)(k:Q):if c=true then P else Q:=by rw[cr<|by rw[h];decide];exact k
def y9{c:Bool}{P Q:Prop}(h:c=true)(k:P):if c=true then P else Q:=by rw[hI h];exact k
def Tr{a:Type}{x:a}{l:List a}{d:Decidable (x∈l)}(h:x∈l):(!@decide (x∈l) d)=false:=by rw[Bool.not_eq_false',decide_eq_true_iff];exact h
def mmn{a:Type}{x:a}{l:List a}{d:Decidable (x∈l)}(h:x∉l):(!@decide (x∈l) d)=true:=by rw[u4,decide_eq_false_iff_not];exact h
def two_ok{c:Bool}{P:Int×Int->Bg×WL.Un×WL.Un×Unit->Prop}{l h:Int}{g:Bg}(k:∀l h,P (l,h) (#[],#[],#[],())):if c=true then P (h,l) (g,#[],#[],()) else P (l,h) (g,#[],#[],()):=by
 cases c
 ·exact k l h
 ·exact k h l
def N7{α:Type}[DecidableEq α]{l:List α}(h:(!decide (l=[]))=true):0<l.length:=by
 cases l with
 |nil=>simp at h
 |cons a l=>exact m9 _
def Wg{c:Prop}[Decidable c]{g:Bg}{n k:Int}{P:Int->Bg×WL.Un×Unit->Prop}{E:Bg×WL.Un×Unit->Prop}{P2 E2:Prop}{Ke:hO->Bg×WL.Un×Unit->Prop}(h0:0<n)(h1:n<1073741824)(hA:c->∀i p',P i p')(hE:∀p',E p')(he:E (g,#[],())->E2) :
  if c then zx (g,n,()) (λi p'=>if decide (i=k)=true then P i p' else E p') Ke else if false=true then P2 else E2:=by
 by_cases q:c
 ·rw[hI q];refine wF h0 h1 λz _ _=>?_;split
  ·exact hA q _ _
  ·exact hE _
 ·rw[cr q,cr im];exact he<|hE _
def ym:∀{l:List b} {i:Nat},l[i]?=↑y->(y::l.eraseIdx i).Perm l
 | [],i,h=>by simp at h
 |a::l,0,h=>by
  have h:a=y:=by simpa using h
  rw[h];exact .refl _
 |a::l,i+1,h=>by rw[oZ];exact(List.Perm.swap a y _).trans<|(ym<|by simpa using h).cons a
def BS{a:Type}{l:List (Int×a)}{k:Int}:(dk l k).map (·.1)=(l.map (·.1)).filter λj=>decide (j≠k):=by unfold dk;rw[pJ];rfl
section
variable{x:B0}{rows:List RW}{a:List (Int×Int)}
def Ep.Xy(b:Ep x){l:Int}(n:l∈xR x):Ep (143:B0):=by
 have o:∀{t:Int},t∈xR (143:B0)↔t∈xR x/\t≠l:=λ{t}=>by show t∈(dk x.ht l).map (·.1)↔_;rw[BS,j4,jf];exact Iff.rfl
 refine#[#[b.ok.kb,b.ok.bo,b.ok.ri,b.ok.lr,b.ok.lb],?_,?_,?_,λd f e=>?_,λd f e=>?_,λc h i=>?_,?_]
 ·show ((dk x.ht l).map (·.1)).Nodup;rw[BS];exact b.nd.filter _
 ·exact oz (iR _ _) b.len
 ·exact oz (iR _ _) b.Zp
 ·have e:lk (dk x.ht l) d=↑f:=e;rw[B8]at e;by_cases q:d=l
  ·rw[hI q]at e;cases e
  ·rw[cr q]at e;have g:=b.ht d f e;refine#[g.1,g.2.1,g.2.2.1,?_];show lk (dk x.th<|xJ x l) f=some d;rw[B8,cr λz=>?_]
   ·exact g.2.2.2
   ·have:=(b.ht l _<|zw n).2.2.2;rw[<- z,g.2.2.2]at this;injection this with this;exact q this
 ·have e:lk (dk x.th<|xJ x l) f=↑d:=e;rw[B8]at e;by_cases q:f=xJ x l
  ·rw[hI q]at e;cases e
  ·rw[cr q]at e;have g:=b.th d f e;show lk (dk x.ht l) d=↑f;rw[B8,cr λz=>?_]
   ·exact g
   ·rw[z,zw n]at g;injection g with g;exact q g.symm
 ·have h:(lk (dk x.ht l) c).isSome=true:=h;have i:(lk (dk x.th<|xJ x l) c).isSome=true:=i;rw[B8]at h i;refine b.one c ?_ ?_
  ·by_cases q:c=l
   ·rw[hI q]at h;cases h
   ·rw[cr q]at h;exact h
  ·by_cases q:c=xJ x l
   ·rw[hI q]at i;cases i
   ·rw[cr q]at i;exact i
 ·obtain⟨r,p⟩:=b.acy;refine#[r,λk m t j=>?_];have m:=o.mp m
  have s:xJ (143:B0) k=xJ x k:=by unfold xJ;show (lk (dk x.ht l) k).getD 0=_;rw[B8,cr m.2]
  rw[s]at j;have j:=zj.mp j;exact p k m.1 t<|zj.mpr #[j.1,j.2.1,(o.mp j.2.2).1]
def Ep.EK(d:Ep x){low high:Int}(w:(lk x.rk low).isSome=true)(y:(lk x.rk high).isSome=true)(f:low∈yg x high)(A:wv x low=false)(B:wv x high=false)(C:low≠high)(ac:Zo (EK x low high))(D:x.ht.length+1<64)(E:x.th.length+1<64):Ep (EK x low high):=by
 have p:=Bool.or_eq_false_iff.mp A;have r:=Bool.or_eq_false_iff.mp B;have o:lk x.ht low=none:=by simpa using p.1
 have F:lk x.th low=none:=by simpa using p.2
 have G:lk x.ht high=none:=by simpa using r.1
 have s:lk x.th high=none:=by simpa using r.2
 have t:(164).ht=x.ht++[(low,high)]:=AI o;have H:(164).th=x.th++[(high,low)]:=AI s;have j:∀k,lk (164).ht k=if k=low then some high else lk x.ht k:=λk=>zJ;have l:∀k,lk (164).th k=if k=high then some low else lk x.th k:=λk=>zJ;refine#[#[d.ok.kb,d.ok.bo,d.ok.ri,d.ok.lr,d.ok.lb],?_,by rw[t];simpa using D,by rw[H];simpa using E,λm n e=>?_,λm n e=>?_,λc h i=>?_,ac]
 ·show ((164).ht.map (·.1)).Nodup;rw[t,kH];refine List.nodup_append.mpr #[d.nd,q0o,λa u b f z=>?_];have f:b=low:=by simpa using f
  rw[z,f]at u;have:=yZ u;rw[o]at this;cases this
 ·rw[j]at e;by_cases q:m=low
  ·rw[hI q]at e;injection e with e;subst e;subst q;exact#[w,y,f,by rw[l,hI rfl]]
  ·rw[cr q]at e;have g:=d.ht m n e;refine#[g.1,g.2.1,g.2.2.1,?_];rw[l,cr λz=>?_]
   ·exact g.2.2.2
   ·rw[z,s]at g;cases g.2.2.2
 ·rw[l]at e;by_cases q:n=high
  ·rw[hI q]at e;injection e with e;subst e;subst q;rw[j,hI rfl]
  ·rw[cr q]at e;have g:=d.th m n e;rw[j,cr λz=>?_]
   ·exact g
   ·rw[z,o]at g;cases g
 ·rw[j]at h;rw[l]at i;by_cases q:c=low
  ·rw[cr λz=>C<|q.symm.trans z,q,F]at i;cases i
  ·rw[cr q]at h;by_cases v:c=high
   ·rw[v,G]at h;cases h
   ·rw[cr v]at i;exact d.one c h i
def yz.same(c:yz x rows){y:B0}(b:y.rk=x.rk)(d:y.bd=x.bd)(e:y.up=x.up):yz y rows:=by obtain⟨f,g,h,i,j⟩:=c;exact#[e.trans f,by rw[b];exact g,by rw[d];exact h,by rw[b];exact i,by rw[d];exact j]
def Arr.mem(A:Arr x a)(h:e∈a):e.1∈xR x:=A.pm.mem_iff.mp<|List.mem_map.mpr #[e,h,rfl]
def Arr.pop(A:Arr x a){i:Nat}(h:a[i]?=↑y):Arr ({ x with ht:=dk x.ht y.1,th:=dk x.th (xJ x y.1)}:B0) (a.eraseIdx i):=by
 have b:(y::a.eraseIdx i).Perm a:=ym h;have g:y∈a:=b.mem_iff.mp ic;have j:=A.mem g
 have d:(y.1::(a.eraseIdx i).map (·.1)).Perm (xR x):=by
  have:=(b.map (λe:Int×Int=>e.1)).trans A.pm
  rwa [iN]at this
 have c:=List.nodup_cons.mp<|d.nodup_iff.mpr A.ok.nd;refine⟨A.ok.Xy j,?_,?_,λe f=>?_⟩
 ·show ((dk x.th<|xJ x y.1).map (·.1)).Nodup;rw[BS];exact A.nt.filter _
 ·show ((a.eraseIdx i).map (·.1)).Perm ((dk x.ht y.1).map (·.1));rw[BS];refine xg c.2 (A.ok.nd.filter _) λk=>?_;rw[j4,jf];have:=d.mem_iff (a:=k);rw[iO]at this;constructor
  ·exact λz=>#[this.mp<|.inr z,λw=>c.1<|w▸z]
  ·exact λz=>(this.mpr z.1).elim (λw=>iv w z.2) id
 ·have l:e∈a:=b.mem_iff.mp<|ij _ f;have m:e.1≠y.1:=λz=>c.1<|z▸List.mem_map.mpr #[e,f,rfl];show (lk (dk x.ht y.1) e.1).getD 0=e.2;rw[B8,cr m];exact A.hd e l
def Arr.Ml(A:Arr x a)(c:yz x rows)(v:rows.length<=35):x.ht.length<=35/\x.th.length<=35/\a.length<=35:=by
 have ln:=c.lr;have rn:(x.rk.map (·.1)).Nodup:=by rw[c.ks];exact v6<|NW rows
 have h1:(xR x).length<=(x.rk.map (·.1)).length:=L7 A.ok.nd rn λk hk=>Bw (A.ok.ht k _<|zw hk).1
 have h2:(x.th.map (·.1)).length<=(x.rk.map (·.1)).length:=L7 A.nt rn λk hk=>by obtain⟨l,e⟩:=Option.isSome_iff_exists.mp<|yZ hk;exact Bw (A.ok.ht l k<|A.ok.th l k e).2.1
 have h3:=A.pm.length_eq;have e:(xR x).length=x.ht.length:=h8 _;rw[h8]at h1 h2 h3;rw[h8]at h2
 lia
def Arr.add(A:Arr x a)(c:yz x rows)(v:rows.length<=35){low high:Int}(k:(lk x.rk low).isSome=true)(l:(lk x.rk high).isSome=true)(d:low∈yg x high)(f:wv x low=false)(g:wv x high=false)(m:low≠high)(ac:Zo (EK x low high)):Arr (EK x low high) (a++[(low,high)]):=by
 have q:=A.Ml c v;have h:lk x.ht low=none:=by simpa using(Bool.or_eq_false_iff.mp f).1
 have i:lk x.th high=none:=by simpa using(Bool.or_eq_false_iff.mp g).2
 have n:(164).ht=x.ht++[(low,high)]:=AI h;have o:(164).th=x.th++[(high,low)]:=AI i;refine#[A.ok.EK k l d f g m ac q0a q0a,?_,?_,λe p=>?_]
 ·rw[o,kH];refine List.nodup_append.mpr #[A.nt,q0o,λa j b d z=>?_];have d:b=high:=by simpa using d
  rw[z,d]at j;have:=yZ j;rw[i]at this;cases this
 ·show ((a++[(low,high)]).map (·.1)).Perm ((164).ht.map (·.1));rw[n,kH,kH];exact A.pm.append_right _
 ·show (lk (pk x.ht low high) e.1).getD 0=e.2;rw[zJ];rcases List.mem_append.mp p with z|z
  ·have:e.1≠low:=λw=>by have:=yZ<|A.mem z;rw[w,h]at this;cases this
   rw[cr this];exact A.hd e z
  ·have z:e=(low,high):=by simpa using z
   rw[z,hI rfl];rfl
def KD(v:Vr rows){k:Int}{y:Int×List Int}(hy:rowAt rows k=↑y):y.2.length<=95:=by
 have vo:=v.ok k y.1 y.2 hy
 have:=xo (U:=B2 rows) vo.2.2.1 λc hc=>by obtain⟨_,e',r'⟩:=vo.2.2.2.1 c hc;exact w9.mpr (by rw[r'];rfl)
 have h1:=zk rows;have h2:=v.ln
 lia
def Wh(ok:Pe x)(n1:x.ht=[])(n2:x.th=[]):Arr x []:=by
 have t0:xR x=[]:=by unfold xR;rw[n1];rfl
 refine#[#[ok,by rw[t0];exact oo,by rw[n1];decide,by rw[n2];decide,λl h e=>?_,λl h e=>?_,λc e=>?_,λ_=>0,λl hl=>?_],by rw[n2];exact oo,by rw[t0];exact .refl _,λe he=>by cases he]
 ·rw[n1]at e;cases e
 ·rw[n2]at e;cases e
 ·rw[n1]at e;cases e
 ·rw[t0]at hl;cases hl
def Tt{i:Nat}{y:Int×Int}{Kn:Int->B0×WL.Un×Unit->Prop}{Ke:hO->B0×WL.Un×Unit->Prop}(A:Arr x a)(c:yz x rows)(h:a[i]?=↑y)(k:∀v (x':B0),yz x' rows->Arr x' (a.eraseIdx i)->Kn v (x',#[],())):IC (x,y.1,()) Kn Ke:=by have yt:=A.mem<|j7 h;have e:=zw yt;refine#[A.ok,?_];show if (lk x.rk y.1).isSome=true then (if (lk x.ht y.1).isSome=true then Kn (xJ x y.1) _ else _) else _;rw[hI (A.ok.ht _ _ e).1,hI<|by rw[e];rfl];exact k _ _ (c.same rfl rfl rfl)<|A.pop h
def Zy{low high:Int}{y:Int×List Int}{Kn:Unit->B0×WL.Un×WL.Un×Unit->Prop}{Ke:hO->B0×WL.Un×WL.Un×Unit->Prop}(A:Arr x a)(c:yz x rows)(v:Vr rows)(ln:rows.length<=35)(hy:rowAt rows high=↑y)(hl:low∈y.2)
  (ke:∀D∈[XT,XR],Ke D (x,#[],#[],()))(k:∀x':B0,yz x' rows->Arr x' (a++[(low,high)])->Kn () (x',#[],#[],())):SE (x,low,high,()) Kn Ke:=by
 have vo:=v.ok high y.1 y.2 hy;obtain⟨lt,e',r'⟩:=vo.2.2.2.1 low hl;have s1:(lk x.rk low).isSome=true:=by rw[c.rk,r'];rfl
 have s2:(lk x.rk high).isSome=true:=by rw[c.rk,hy];rfl
 have hb:low∈K7.yg x high:=by rw[c.yg,yS hy];exact hl
 refine#[A.ok,?_];show if (lk x.rk low).isSome=true then (if (lk x.rk high).isSome=true then (if low∈K7.yg x high then (if wv x low=true\/wv x high=true then Ke XT _ else Ke XR _/\_) else _) else _) else _;rw[hI s1,hI s2,hI hb];by_cases t:wv x low=true\/wv x high=true
 ·rw[hI t];exact ke XT q0o
 ·rw[cr t];have t1:wv x low=false:=by cases q:wv x low with|true=>exact iv (.inl q) t|false=>rfl
  have t2:wv x high=false:=by cases q:wv x high with|true=>exact iv (.inr q) t|false=>rfl
  exact#[ke XR q0o,λac=>k _ (c.same rfl rfl rfl)<|A.add c ln s1 s2 hb t1 t2 (tY lt) ac]
end
section
variable{q:Cq}{XL:hO}
noncomputable abbrev Mm:iK:=top 32
noncomputable abbrev Mn:List Str:=["_law_bag_here"]
def Wi:vJ ["_law_bag_here"] Mn (vA Mm):=by walk_at "sc"
abbrev Zz(q:Cq)(k:Nat):=xM q "_law_rank" Mn SY k
def Wj(F:DF q "_law_rank" Mm f i)(a:xM q "_law_pull" ["_law_bag_here","_law_many"] zx 1):Gq q 2 f i Mn SY:=by
 refine' vL (w4 (D':=Unit) (ms:=[0]) (j:=0) F Wi rfl rfl λk A c s H E t =>
   (vN (vZ (tw_cm xI (vK (vT a (v0 0 (vG vE vD)))) vE)
   (vC<|vP<|vT a<|v0 0<|vG vE vD)
   vY)
   (vC (vP (vS (w6 (v7 (wg (vW (vH vE (vH vE (vH vE (vH vE (vH vE (vH vE 105))))))))) (vK (vT a (v0 0 (vG vE vD)))))))))) λp m u h=>?_
 walk_at "wl"
 have h:∀r,0<=r->r<=12->m r (#[],()):=h;refine wF q0q q0q λr v w=>?_
 try dsimp only
 by_cases q:r=11
 ·rw[hI<|decide_eq_true q];refine wF q0q q0q λs d b=>h s d ?_;have b:s<13:=b
  lia
 ·rw[cr<|by simpa using q];refine wF q0q q0q λs d b=>?_;refine BV λn e=>?_;have b:s<8:=b;obtain⟨x,o,_,g⟩:=xO (l:=[(0:Int),0,1,1,1,2,2,3]) d (by simpa using b);refine e ?_;refine#[x,o,h x ?_ ?_]
  ·simp at g;lia
  ·simp at g;lia
noncomputable abbrev Mo:iK:=top 33
noncomputable abbrev Mp:List Str:=["_law_one","_law_other"]
def N8:vJ ["_law_one","_law_other","_law_left"] Mp (vA Mo):=by walk_at "sc"
def Tu:(["_law_x","_law_other"]:List Str).Nodup:=by decide +kernel
def Tv:(["_law_x","_law_one"]:List Str).Nodup:=by decide +kernel
abbrev Mr(q:Cq)(k:Nat):=xM q "_law_join" Mp Mh k
def Wk(F:DF q "_law_join" Mo f l)(B:Bn q.mg):Gq q 2 f l Mp Mh:=by
 refine' vL (w4 (D':=Unit) (ms:=[]) (j:=1) F N8 rfl rfl λm A e s H E r =>
   (vN (AC (Ts:=["_law_x"]) (Fr:=["_law_other"]) (idx:=[1]) (k:=1) (mb:=[1]) (is:=[]) (cl:=[("_law_other",⇑s+1+1)]) 2 N8.nd rfl rfl rfl q0q rfl (xq (vz 0)) Vx rfl (xn rfl) (λa b C c d=>(v8 0 (vO Tu))) (λa b C c d=>(tws_one (tw_cmI zu (vz 0) (v7 (vz 1)) (by with_unfolding_all rfl)))) (λa b C c d=>(vz 0)))
   (vC (vP (G6 rfl B.sorted (v7 (wg (Az (wS 2) (v7 (wg (xT (Ts:=["_law_x"]) (Fr:=["_law_one"]) (idx:=[0]) (k:=1) (mb:=[1]) (is:=[]) (cl:=[("_law_one",⇑s+1)]) rfl (xq (vz 1)) Vx rfl (xn rfl) (λa b C c d=>(v8 0 (vO Tv))) (λa b C c d=>(tws_one (tw_cmI zu (vz 0) (v7 (vz 1)) (by with_unfolding_all rfl)))) (λa b C c d=>(vz 0))))))))))))) λp t u h=>?_
 walk_at "wl"
 refine BV λn g=>?_;obtain⟨⟨v,w,x⟩,o⟩:=h;refine g ?_;refine#[wB q0d,wO (q:=λk=>!decide (k∈p.2.1)) (λk _ K i=>i) ?_];refine#[wB (show p.2.1.length<=1000 by omega),wO (q:=λk=>!decide (k∈p.1)) (λk _ K i=>i) ?_];have y:=iR (λk=>!decide (k∈p.2.1)) p.1;have z:=iR (λk=>!decide (k∈p.1)) p.2.1;refine#[wB ?_,?_,o]
 ·show (p.1.filter λk=>!decide (k∈p.2.1)).length+(p.2.1.filter λk=>!decide (k∈p.1)).length<=1000;omega
 ·rw[iw];show (p.1.filter λk=>!decide (k∈p.2.1)).length+(p.2.1.filter λk=>!decide (k∈p.1)).length<64;omega
noncomputable abbrev Ms:iK:=top 26
noncomputable abbrev Mt:List Str:=["_law_rows_here"]
def Wl:vJ ["_law_rows_here"] Mt (vA Ms):=by walk_at "sc"
def Tw:(["_law_k","_law_rows_here"]:List Str).Nodup:=by decide +kernel
abbrev Cw(q:Cq)(k:Nat):=xM q "_law_here" Mt S6 k
def Wm(F:DF q "_law_here" Ms f o)(B:Bn q.mg):Gq q 2 f o Mt S6:=by
 refine' vL (w4 (D':=Unit) (ms:=[]) (j:=0) F Wl rfl rfl λr A c s H E D =>
   (vC (vP (xT (Ts:=["_law_k"]) (Fr:=["_law_rows_here"]) (idx:=[0]) (k:=1) (mb:=[1]) (is:=[]) (cl:=[("_law_rows_here",⇑s+1)]) rfl (xZ rfl B.range (xf rfl B.len (v7 (vz 0)))) Vx rfl (xn rfl) (λa b C i m=>(v8 0 (vO Tw))) (λa b C i m=>(tws_one (tw_cm No (w6 (v7 (vz 1)) (vz 0)) HQ))) (λa b C i m=>(vz 0)))))) λp G I h=>?_
 walk_at "wl"
 obtain⟨J,t⟩:=h;refine#[#[q0a,q0a],?_,wO (q:=λk=>(rowAt p.1 k).isSome) (λk d K e=>?_) t]
 ·rw[xG];exact wB q0a
 ·obtain⟨n,u⟩:=IP d;refine BV λv g=>?_;obtain⟨x,w,z,_⟩:=xO (l:=p.1) n u;refine g ?_;rw[FX n z]at e;refine#[x,w,?_]
  cases x with
  |none=>exact e
  |some y=>exact e
noncomputable abbrev Mu:iK:=top 34
noncomputable abbrev Mv:List Str:=["_law_bag_here","_law_row_here"]
def BU:vJ ["_law_bag_here","_law_row_here","_law_found","_law_count","_law_k"] Mv (vA Mu):=by walk_at "sc"
abbrev ZA(q:Cq)(k:Nat):=xM q "_law_some" Mv S7 k
def Wn(F:DF q "_law_some" Mu f P)(a:xM q "_law_pull" ["_law_bag_here","_law_many"] zx 2)(d:Mr q 2)(B:Bn q.mg):Gq q 3 f P Mv S7:=by
 refine' vL (w4 (D':=Unit) (ms:=[0]) (j:=3) F BU rfl rfl λQ A v s H E R =>
   (vN (vQ 2 BU.nd 103)
   (vN (vZ (tw_cmL (LG R.units) (v7 (vz 1)) (v7 (wg 103)))
   (vC<|AD 2<|pv 2)
   vY)
   (vN (vQ 3 BU.nd (vT a (v0 0 (vG vE vD))))
   (vN (vZ (tw_cm xI (vz 3) vE)
   (vC<|vQ 3 BU.nd<|vS<|QX Ci (vK<|vT a<|v0 0<|vG vE vD)<|xf rfl B.len<|v7<|vz 1)
   vY)
   (vN (xW (is:=[]) (mb:=[0]) (D1:=Bg×(List Int)×(OL Int)×Int×Int×Unit) (D2:=Bg×(List Int)×(OL Int)×Int×Int×Unit) (wu q0q) Bc rfl (xZ rfl B.range (vz 3)) (v8 4 (vO BU.nd))
   (vC (vQ 2 BU.nd (vT d (wp 2 (vG (wg (vW (vH (w6 (v7 (vz 1)) (vK (vT a (v0 0 (vG 130 vD))))) vV))) vD))))) q0q q0q)
   (vC (AD 2 (pv 2))))))))) λp L o h=>?_
 walk_at "wl"
 obtain⟨hl,M⟩:=h;by_cases w:p.2.1=[]
 ·rw[hI<|decide_eq_true w];exact M [] iW λ_ z=>by cases z
 rw[cr<|by simpa using w]
 have D:0<(p.2.1.length:Int):=by
  have:=List.length_pos_iff.mpr w
  lia
 have g:∀(n c:Int),LJ (λ(x:Int)(b:Bg×List Int×OL Int×Int×WL.Un×Unit) G (Kr:OL Int->Bg×WL.Un×Unit->Prop) o=>zx (b.1,(b.2.1.length:Int),()) (λx t=>∃k,Gi b.2.1 x=↑k/\Mh (b.2.2.1.l,[k],()) (λx m=>G (t.1,b.2.1,x,b.2.2.2.1,#[],b.2.2.2.2.2)) λC m=>o C (t.1,#[],())) λC t=>o C (t.1,#[],()))
   (Aj 0 n) (#[],p.2.1,#[[]],c,#[],p.2.2) (λN=>L N.2.2.1 (N.1,#[],())) L o:=by
  intro n c;refine wW (λ(r:List Int)(b:Bg×List Int×OL Int×Int×WL.Un×Unit)=>b.2.1=p.2.1/\yV b.2.2.1.l/\∀x∈b.2.2.1.l,x∈p.2.1) (Aj 0 n) #[rfl,iW,(λ_ z=>by cases z)] ?_ ?_
  ·rintro x r b _ ⟨e,i,g2⟩ K S;rw[e];refine wF D q0a λr O u=>?_;refine BV λT I=>?_;obtain⟨y,U,_,W⟩:=xO (l:=p.2.1) O u;have X:=xo i g2;refine I ?_;refine#[y,U,Wd (show b.2.2.1.l.length+1<64 by lia),S _ #[rfl,Ib i<|kF _ _,λz Y=>?_]];rcases Ia.mp Y with⟨J,_⟩|⟨J,_⟩
   ·exact g2 z J
   ·rw[List.mem_singleton.mp J];exact W
  ·rintro b ⟨_,i,g2⟩;exact M _ i g2
 refine wF q0q q0q λr O u=>?_
 try dsimp only
 have u:r<7:=u;by_cases q:r=6
 ·rw[hI<|decide_eq_true q];refine wF q0q q0q λs Z i=>?_;have i:s<3:=i
  have b1:s*(p.2.1.length:Int)<=2*60:=by
   have:s*(p.2.1.length:Int)<=2*(p.2.1.length:Int):=Int.mul_le_mul_of_nonneg_right q0a q0a
   lia
  have b0:0<=s*(p.2.1.length:Int):=Int.mul_nonneg Z q0a;exact#[.inl #[q0a,q0a],#[q0a,q0a],g _ _]
 ·rw[cr<|by simpa using q];exact#[#[q0a,q0a],g _ _]
noncomputable abbrev Mw:iK:=top 35
noncomputable abbrev My:List Str:=["_law_rows_here","_law_row_here"]
def EL:vJ ["_law_rows_here","_law_row_here","_law_found","_law_cell"] My (vA Mw):=by walk_at "sc"
abbrev ZB(q:Cq)(k:Nat):=xM q "_law_edge" My S8 k
def Wp(F:DF q "_law_edge" Mw f t)(a:Mr q 2):Gq q 3 f t My S8:=by
 refine' vL (w4 (D':=Unit) (ms:=[]) (j:=2) F EL rfl rfl λu A i s H E O =>
   (vN (vQ 2 EL.nd 103)
   (vN (xW (is:=[]) (mb:=[]) (D1:=(List RW)×(List Int)×(OL Int)×Int×Unit) (D2:=(List RW)×(List Int)×(OL Int)×Int×Unit) (wu q0q) Bc rfl (xq (vz 1)) (v8 3 (vO EL.nd))
   (vC (vQ 2 EL.nd (vT a (wp 2 (vG (yX (zc (w6 (v7 (vz 0)) (vz 3)))) vD))))) q0q q0q)
   (vC (AD 2 (pv 2)))))) λp w P h=>?_
 walk_at "wl"
 obtain⟨v,B,C⟩:=h;refine wW (λ(r:List Int)(b:List RW×List Int×OL Int×WL.Un×Unit)=>b.1=p.1/\(∀c∈r,(rowAt p.1 c).isSome=true)/\yV b.2.2.1.l/\(∀x∈b.2.2.1.l,x∈Aj 0 35)/\(r.map<|eb p.1).foldl xr b.2.2.1.l=xl (eb p.1) p.2.1) p.2.1 ⟨rfl,B,iW,(λ_ z=>by cases z),rfl⟩ ?_ ?_
 ·rintro c r b _ ⟨e,o,g1,g2,d⟩ K D;refine BV λG k=>?_;obtain⟨y,m⟩:=Option.isSome_iff_exists.mp<|o c ic;obtain⟨_,_,_,I⟩:=vR m;obtain⟨g,n⟩:=v.Zt m;refine k ?_;rw[e];have J:=xo g1 g2;have L:=xo g n;rw[xG]at J L;refine⟨_,I,y,rfl,Ti g1 g g2 n,D _ ⟨rfl,λc M=>o c<|ij _ M,Ib g1 g,λx N=>?_,?_⟩⟩
  ·rcases Ia.mp N with⟨z,_⟩|⟨z,_⟩
   ·exact g2 x z
   ·exact n x z
  ·rw[<- d];show (r.map<|eb p.1).foldl xr (jn b.2.2.1.l y.2)=(r.map<|eb p.1).foldl xr (xr b.2.2.1.l<|eb p.1 c);rw[Xn g1 g,yS m]
 ·rintro b ⟨_,_,_,_,d⟩;have d:b.2.2.1.l=xl (eb p.1) p.2.1:=d;show w b.2.2.1 _;rw[show b.2.2.1=OL.mk b.2.2.1.l from rfl,d];exact C
noncomputable abbrev IS:iK:=top 41
noncomputable abbrev IT:List Str:=["_law_found"]
def Tx:vJ ["_law_found"] IT (vA IS):=by walk_at "sc"
abbrev IU(q:Cq)(k:Nat):=xM q "_law_whole" IT IM k
def Tz(F:DF q "_law_whole" IS f b)(B:Bn q.mg):Gq q 2 f b IT IM:=by
 refine' vL (w4 (D':=Unit) (ms:=[]) (j:=0) F Tx rfl rfl λc A a s H E d =>
   (vC (vP (vS (HW (zm (ty:="int") rfl B.isinstance (BG (v:=.ty "int") rfl B.int PyProof.Rows.boot_int rfl) (vz 0)) (CU (YT (zm (ty:="bool") rfl B.isinstance (BG (v:=.ty "bool") rfl B.bool rh rfl) (vz 0))))))))) λp e g h=>?_
 walk_at "wl"
 exact h
noncomputable abbrev s_row:iK:=top 42
abbrev TB:List Str:=["_law_found"]
def TC:vJ ["_law_found","_law_one"] TB (vA s_row):=by walk_at "sc"
abbrev a1E(q:Cq)(k:Nat):=xM q "_law_row" TB S9 k
def ZC(F:DF q "_law_row" s_row f d)(a:IU q 2)(B:Bn q.mg):Gq q 3 f d TB S9:=by
 refine' vL (w4 (D':=Unit) (ms:=[]) (j:=1) F TC rfl rfl λe A c s H E i =>
   (vN (vZ (tw_not (tw_val (zm (ty:="list") rfl B.isinstance (BG (v:=.ty "list") rfl B.list kB rfl) (vz 0))))
   136
   vY)
   (vN (xW (is:=[]) (mb:=[]) (D1:=(List Int)×Int×Unit) (D2:=(List Int)×Int×Unit) (wu q0q) Bc rfl (xq (vz 0)) (v8 1 (vO TC.nd))
   (vC (vZ (tw_not (tw_val (vK (vT a 79))))
   136
   vY)) q0q q0q)
   (vC (vP (vS zt)))))) λp k l h=>?_
 walk_at "wl"
 rw[cr q0q];exact wW (λ(r:List Int)(b:List Int×WL.Un×Unit)=>True) p.1 trivial (λx r b _ _ K g=>g _ trivial) λ_ _=>h
noncomputable abbrev s_same:iK:=top 43
noncomputable abbrev Mz:List Str:=["_law_found","_law_due_here"]
def Wq:vJ ["_law_found","_law_due_here"] Mz (vA s_same):=by walk_at "sc"
abbrev ZD(q:Cq)(k:Nat):=xM q "_law_same" Mz Mi k
def Wr(F:DF q "_law_same" s_same f c)(a:a1E q 3):Gq q 4 f c Mz Mi:=by
 refine' vL (w4 (D':=Unit) (ms:=[]) (j:=0) F Wq rfl rfl λd A b s H E e =>
   (vC (vP (vS (HW (vK (vT a (vG (vz 0) vD))) (CU (YR (LG e.units) (v7 (vz 0)) (v7 (vz 1)) (vX _)))))))) λp g i h=>?_
 walk_at "wl"
 exact h
noncomputable abbrev IV:iK:=top 31
noncomputable abbrev IY:List Str:=["_law_many"]
def BE:vJ ["_law_many","_law_pairs_here","_law_threes","_law_rows_here"] IY (vA IV):=by walk_at "sc"
def PB:(["_law_k"]:List Str).Nodup:=by decide +kernel
def PD:(["_law_pair"]:List Str).Nodup:=by decide +kernel
def PF:(["_law_three"]:List Str).Nodup:=by decide +kernel
abbrev Ws(q:Cq)(k:Nat):=xM q "_law_stock" IY NT k
def TF(F:DF q "_law_stock" IV f i)(B:Bn q.mg):Gq q 2 f i IY NT:=by
 refine' vL (w4 (D':=Unit) (ms:=[]) (j:=3) F BE rfl rfl λl A g s H E o =>
   (vN (vQ 1 BE.nd (vW (vH (wg (vW 105)) (vH (wg (vW 105)) (vH (wg (vW 105)) (vH (wg (vW 105)) (vH (wg (vW 105)) (vH (wg (vW 105)) vV))))))))
   (vN (vQ 2 BE.nd (vW (vH (wg (vW (vH vE 105))) (vH (wg (vW (vH vE 105))) (vH (wg (vW (vH vE 105))) (vH (wg (vW (vH vE 105))) vV))))))
   (vN (vQ 3 BE.nd (Az (v7 (wg (xT (Ts:=["_law_k"]) (Fr:=[]) (idx:=[]) (k:=1) (mb:=[]) (is:=[]) (cl:=[]) rfl (xZ rfl B.range vE) Z3 rfl (xn rfl) (λa b C c d=>(v8 0 (vO PB))) (λa b C c d=>tws_nil) (λa b C c d=>(Ay (w8 vE (wg 103))))))) (v7 (wg (xT (Ts:=["_law_pair"]) (Fr:=[]) (idx:=[]) (k:=1) (mb:=[]) (is:=[1]) (cl:=[]) rfl (HX 1 (pv 1) q0q) Z3 rfl (xn rfl) (λa b C c d=>(v8 0 (vO PD))) (λa b C c d=>tws_nil) (λa b C c d=>(Ay (w8 vE (vz 0)))))))))
   (vN (vQ 3 BE.nd (Az (v7 (wg (Az (wS 3) (v7 (wg (xT (Ts:=["_law_three"]) (Fr:=[]) (idx:=[]) (k:=1) (mb:=[]) (is:=[2]) (cl:=[]) rfl (HX 2 (pv 2) q0q) Z3 rfl (xn rfl) (λa b C c d=>(v8 0 (vO PF))) (λa b C c d=>tws_nil) (λa b C c d=>(Ay (w8 vE (vz 0)))))))))) (v7 (wg (vW (vH (Ay (w8 vE (wg (vW (vH vE (vH vE 105)))))) vV))))))
   (vC (vP (JY (wS 3) HU (HV (vz 0)))))))))) λp r t h=>?_
 walk_at "wl"
 obtain⟨m,n⟩:=h;refine#[q0q,(by rw[xG];exact wB q0q),wV (f:=λ_=>some<|some (0,[])) (λx _ K e=>e) ?_];refine#[wB q0q,wV (f:=λx=>some<|some (1,x)) (λx _ K e=>e) ?_];refine#[wB q0q,wB q0q,wV (f:=λx=>some<|some (2,x)) (λx _ K e=>e) ?_];refine#[wB q0q,wB q0q,?_];rw[Zu _ m];exact n
noncomputable abbrev DS:iK:=top 36
noncomputable abbrev DT:List Str:=["_law_rows_here","_law_loops","_law_rank_here","_law_bag_here"]
def xE:vJ ["_law_rows_here","_law_loops","_law_rank_here","_law_bag_here","_law_number","_law_edge_here","_law_beneath","_law_k","_law_kin","_law_chosen"] DT (vA DS):=by walk_at "sc"
def Eg:(["_law_at","_law_one","_law_rank_here"]:List Str).Nodup:=by decide +kernel
def KG:(["_law_k","_law_rank_here","_law_rows_here"]:List Str).Nodup:=by decide +kernel
abbrev PH(q:Cq)(k:Nat):=xM q "_law_edge_by" DT Hn k
def MA(F:DF q "_law_edge_by" DS f fd)(a:xM q "_law_pull" ["_law_bag_here","_law_many"] zx 3)(I:Mr q 3)(J:Cw q 3)(L:ZA q 3)(M:ZB q 3)(B:Bn q.mg):Gq q 4 f fd DT Hn:=by
 refine' vL (w4 (D':=Unit) (ms:=[0,1,3]) (j:=6) F xE rfl rfl λae A aa s H E hr =>
   (vN (vQ 4 xE.nd (vS (xf rfl B.len (wS 0))))
   (vN (vQ 5 xE.nd 103)
   (vN (vZ (tw_cm xI (vz 2) vE)
   (vN (xY 1 (w8 vE (wg (vW (vH (vz 4) vV)))))
   (vC (AD 5 (pv 5))))
   vY)
   (vN (vZ (tw_cm Q3 (vK (vT a (v0 3 (vG vE vD)))) vE)
   (vN (AC (Ts:=["_law_at","_law_one"]) (Fr:=["_law_rank_here"]) (idx:=[2]) (k:=2) (mb:=[2]) (is:=[1]) (cl:=[("_law_rank_here",⇑s+1+1)]) 6 xE.nd rfl rfl rfl q0q rfl (HX 1 (pv 1) q0q) Vx rfl (xn rfl) (λd g C U W=>(BN 0 1 (Cf rfl (wU (vO (i:=0) Eg) (wU (vO (i:=1) Eg) Ao))) q0q q0q)) (λd g C U W=>(tws_one (tw_cm xI (vz 0) (yD EX (vz 2) vE)))) (λd g C U W=>(vz 1)))
   (vN (xW (is:=[]) (mb:=[0,1,3]) (D1:=(OL RW)×(OL (Int×(List Int)))×Int×Bg×Int×(OL Int)×(OL (List Int))×Int×Un×Un×Unit) (D2:=(OL RW)×(OL (Int×(List Int)))×Int×Bg×Int×(OL Int)×(OL (List Int))×Int×Un×Un×Unit) (wu q0q) Bc rfl (xZ rfl B.range (w6 (v7 (wg (vW (vH vE (vH vE (vH vE (vH vE (vH vE (vH vE 105))))))))) (vK (vT a (v0 3 (vG vE vD)))))) (v8 7 (vO xE.nd))
   (vC (vZ (tw_cmL (Bh hr.units) (wS 6) (v7 (wg (vW (α:=(List Int)) vV))))
   (vC<|vQ 5 xE.nd<|vT I<|wp 5<|vG (w6 (wS 6)<|vK<|vT a<|v0 3<|vG (xf rfl B.len<|wS 6) vD) vD)
   vY)) q0q q0q)
   (vN (vZ (tw_cmL (LG hr.units) (wS 5) (v7 (wg 103)))
   (vC<|xY 1<|w8 (vz 2)<|wg<|vW<|vH (vz 4) vV)
   vY)
   (vC (AD 5 (pv 5))))))
   vY)
   (vN (AC (Ts:=["_law_k"]) (Fr:=["_law_rank_here","_law_rows_here"]) (idx:=[2,0]) (k:=1) (mb:=[1,2]) (is:=[]) (cl:=[("_law_rows_here",⇑s+1),("_law_rank_here",⇑s+1+1)]) 8 xE.nd rfl rfl rfl q0q rfl (xq (wg (vT J (wp 0 vD)))) bs2 rfl (xn rfl) (λd g C U W=>(v8 0 (vO KG))) (λd g C U W=>(tws_one (tw_cm xI (DD (zc (w6 (wS 2) (vz 0)))) (vz 1)))) (λd g C U W=>(vz 0)))
   (vN (vQ 9 xE.nd (vT L (v0 3 (wp 8 vD))))
   (vN (xY 1 (w8 (vz 2) (wg (Az (wS 9) (v7 (wg (vW (vH (vz 4) vV))))))))
   (vC (vP (vT M (wp 0 (wp 9 vD))))))))))))) λp Kn Ke h=>?_
 walk_at "wl"
 refine BV λX D=>?_;obtain⟨v,hn,hq,Y,r0,r1,hk⟩:=h;refine D ?_;by_cases h0:p.2.2.1=0
 ·rw[hI<|decide_eq_true h0];refine⟨Di q0a,?_⟩;refine hk [] [(0,[(p.1.l.length:Int)])] (IR v q0a λr e z=>?_) (λu N=>?_) q0o
  ·cases z;exact#[r0,r1,iW,(λ_ z=>by cases z),rfl]
  ·rcases List.mem_append.mp N with z|z
   ·exact FY<|Y u z
   ·rw[List.mem_singleton.mp z];have:=Tc (rows:=p.1.l) (r:=p.2.2.1);rw[h0]at this ⊢;exact this
 ·rw[cr<|by simpa using h0];refine wF q0q q0q λx g0 g1=>?_
  try dsimp only
  by_cases hx:x<3
  ·rw[hI<|decide_eq_true hx];refine⟨wB q0a,wV (f:=λu:Int×List Int=>if decide (u.1=p.2.2.1-1)=true then some u.2 else none) (λu _ K o=>?_) ?_⟩
   ·show if decide (u.1=p.2.2.1-1)=true then K ↑u.2 _ else K none _;by_cases z:decide (u.1=p.2.2.1-1)=true
    ·rw[hI z]at o ⊢;exact o
    ·rw[cr z]at o ⊢;exact o
   ·have ly:(p.2.1.l.filterMap λu:Int×List Int=>if decide (u.1=p.2.2.1-1)=true then some u.2 else none).length<=100:=i9 (List.length_filterMap_le _ _) hq
    have Z:∀z∈(p.2.1.l.filterMap λu:Int×List Int=>if decide (u.1=p.2.2.1-1)=true then some u.2 else none),Lp p.1.l (p.2.2.1-1,z):=λz hz=>by
     obtain⟨u,N,e⟩:=List.mem_filterMap.mp hz;by_cases q:decide (u.1=p.2.2.1-1)=true
     ·rw[hI q]at e;cases e;rw[<- kQ q];exact Y u N
     ·rw[cr q]at e;cases e
    generalize (p.2.1.l.filterMap λu:Int×List Int=>if decide (u.1=p.2.2.1-1)=true then some u.2 else none)=ys at ly Z;refine wF q0q q0q λs g2 g3=>?_;refine BV λX D=>?_;obtain⟨m,m1,_,m3⟩:=xO (l:=[(2:Int),2,2,2,0,1,3,4]) g2 (by simpa using g3);refine D ?_;refine#[m,m1,#[by simp at m3;lia,by simp at m3;lia],?_];refine wW (λ(r:List Int) (b:OL RW×OL 115×Int×Bg×Int×OL Int×OL (List Int)×WL.Un×WL.Un×WL.Un×Unit)=>b.1=p.1/\b.2.1=p.2.1/\b.2.2.1=p.2.2.1/\b.2.2.2.2.1=(p.1.l.length:Int)/\b.2.2.2.2.2.2.1.l=ys/\Lp p.1.l (p.2.2.1-1,b.2.2.2.2.2.1.l)) (Aj 0 m) #[rfl,rfl,rfl,rfl,rfl,iW,(λ_ z=>by cases z),rfl] ?_ ?_
    ·intro y r;refine a00 λb1 b2 b3 b4 b5 O b7 b8=>?_;rintro _ ⟨Q,R,S,T,e5,n⟩ K o;dsimp only at Q R S T e5 n ⊢;subst e5;by_cases q:b7.l=[]
     ·rw[cr<|by simp[q]];exact o _ #[Q,R,S,T,rfl,n]
     ·rw[hI<|by simp[q]];have:=List.length_pos_iff.mpr q;refine wF q0a q0a λt t0 t1=>?_;refine BV λX D=>?_;obtain⟨z,z1,_,z3⟩:=xO (l:=b7.l) t0 t1;have G:=Z z z3;have s1:=xo n.1<|n.sub q0a;have s2:=xo G.1<|G.sub q0a;refine D ?_;rw[xG]at s1 s2;have s1:O.l.length<=35:=s1;have s2:z.length<=35:=s2;refine⟨z,z1,Ti n.1 G.1 (n.sub q0a)<|G.sub q0a,o _ ⟨Q,R,S,T,rfl,?_⟩⟩;show Lp p.1.l (p.2.2.1-1,jn O.l z);have nn:∀c,(∃e,rowAt p.1.l c=some (p.2.2.1-1,e))->(eb p.1.l c).Nodup:=λc ⟨e,he⟩=>by rw[yS he];exact v6 (v.Zt he).1
      refine#[Ib n.1 G.1,λc P=>?_,?_]
      ·rcases Ia.mp P with⟨w,_⟩|⟨w,_⟩
       ·exact n.2.1 c w
       ·exact G.2.1 c w
      ·show xl (eb p.1.l) (jn O.l z)=[];rw[Xn n.1 G.1,Vu n.1 G.1 (λc P=>nn c<|n.2.1 c P)<|λc P=>nn c<|G.2.1 c P,show xl (eb p.1.l) O.l=[] from n.2.2,show xl (eb p.1.l) z=[] from G.2.2];rfl
    ·refine a00 λb1 b2 b3 b4 b5 O b7 b8=>?_;rintro⟨Q,R,S,T,e5,n⟩;dsimp only at Q R S T e5 n ⊢;subst Q R S T
     have va:Vr (p.1.l++[↑(p.2.2.1,O.l)]):=IR v q0a λr e z=>by
      cases z;exact#[r0,r1,n.1,n.2.1,n.2.2]
     by_cases q:O.l=[]
     ·rw[hI<|decide_eq_true q];refine⟨Di q0a,hk O.l [(p.2.2.1,[(p.1.l.length:Int)])] va (λu N=>?_) q0o⟩;rcases List.mem_append.mp N with z|z
      ·exact FY<|Y u z
      ·rw[List.mem_singleton.mp z,q];exact Tc
     ·rw[cr<|by simpa using q];have:=hk O.l [] va (λu N=>FY<|Y u<|by simpa using N) q0o;rw[lR]at this;exact this
  ·rw[cr<|by simpa using hx];refine⟨(show p.1.l.length<1000 by lia),wB (by have:=zk p.1.l;show (B2 p.1.l).length<=1000;lia),wO (q:=λk=>decide ((rowAt p.1.l k).map (·.1)=↑p.2.2.1)) (λk ab K o=>?_) ?_⟩
   ·obtain⟨y,Z⟩:=Option.isSome_iff_exists.mp<|w9.mp ab;refine#[_,(vR Z).2.2.2,y,rfl,?_];rw[Z]at o;show if decide (y.1=p.2.2.1)=true then _ else _;by_cases z:y.1=p.2.2.1
    ·rw[hI<|by simp[z]]at o ⊢;exact o
    ·rw[cr<|by simpa using z]at o ⊢;exact o
   ·have hs:=iR (λk=>decide ((rowAt p.1.l k).map (·.1)=↑p.2.2.1))<|B2 p.1.l;have af:=zk p.1.l;refine⟨(show ((B2 p.1.l).filter _).length<60 by lia),λl l1 l2=>?_⟩
    have hl:∀c∈l,∃e,rowAt p.1.l c=↑(p.2.2.1,e):=λc P=>by
     have:=(List.mem_filter.mp<|l2 c P).2
     cases e:rowAt p.1.l c with
     |none=>rw[e]at this;simp at this
     |some y =>
      rw[e]at this;have this:y.1=p.2.2.1:=by simpa using this
      exact#[y.2,by rw[<- this]]
    obtain⟨c1,c2,c3⟩:=Py v l1 hl;have ll:l.length<=((B2 p.1.l).filter λk=>decide ((rowAt p.1.l k).map (·.1)=↑p.2.2.1)).length:=xo l1 l2;refine#[wB (show l.length+1<=1000 by lia),Di q0a,v,λc P=>?_,?_]
    ·obtain⟨e,he⟩:=hl c P;show (rowAt p.1.l c).isSome=true;rw[he];rfl
    ·refine hk _ [(p.2.2.1,l++[(p.1.l.length:Int)])] (IR v q0a λr e z=>?_) (λu N=>?_) q0o
     ·cases z;exact#[r0,r1,Ah _ _,c1,c2]
     ·rcases List.mem_append.mp N with z|z
      ·exact FY<|Y u z
      ·rw[List.mem_singleton.mp z];exact c3
noncomputable abbrev MB:iK:=top 37
noncomputable abbrev MC:List Str:=["_law_bag_here","_law_most"]
def AJ:vJ ["_law_bag_here","_law_most","_law_rows_here","_law_k","_law_loops","_law_rank_here"] MC (vA MB):=by walk_at "sc"
def TH:(["_law_k"]:List Str).Nodup:=by decide +kernel
abbrev ZE(q:Cq)(k:Nat):=xM q "_law_rows" MC Ta k
def Wt(F:DF q "_law_rows" MB f fd)(a:xM q "_law_pull" ["_law_bag_here","_law_many"] zx 4)(o:Ws q 4)(w:Zz q 4)(g:PH q 4)(B:Bn q.mg):Gq q 5 f fd MC Ta:=by
  refine' vL (w4 (D':=Unit) (ms:=[0]) (j:=4) F AJ rfl rfl λaa A O s H E hr =>
      (vN (vQ 2 AJ.nd (vW (α:=55) vV))
      (vN (vZ (tw_cm xI (vK (vT a (v0 0 (vG vE vD)))) vE (vX _))
      (vC<|vQ 2 AJ.nd<|vT o<|vG (vK<|vT a<|v0 0<|vG vE vD) vD)
      vY)
      (EF (w':=λ(d:Bg×Int×(OL 55)×Un×Un×Un×Unit) (_:Unit->Prop) (M:(OL 55)->Bg×Un×Unit->Prop) (_:hO->Bg×Un×Unit->Prop)=>(Ck d.2.2.1.l/\(0<=d.2.1/\d.2.1<=20))/\∀c,Vr c->c.length<=35->M #[c] 111) (by exact(vN (AC (Ts:=["_law_k"]) (Fr:=[]) (idx:=[]) (k:=1) (mb:=[]) (is:=[]) (cl:=[]) 4 AJ.nd rfl rfl rfl q0q rfl (xZ rfl B.range (xf rfl B.len (wS 2))) Z3 rfl (xn rfl) (λD G C S T=>(v8 0 (vO (i:=0) TH rfl (jX rfl)) q0q)) (λD G C S T=>(tws_one (tw_cm Q3 (vz 0) vE (vX _)))) (λD G C S T=>(w8 vE (wg (vW (vH (vz 0) vV))))))
      (vN (vZ (tw_cm Q4 (xf rfl B.len (wS 2)) vE (vX _))
      (vC<|vQ 4 AJ.nd<|Az (wS 4)<|v7<|wg<|vW<|vH (w8 vE<|wg<|vW<|vH vE<|vH vE<|vH vE vV)<|vH (w8 vE<|wg<|vW<|vH vE<|vH vE<|vH vE vV)<|vH (w8 vE<|wg<|vW<|vH vE<|vH vE<|vH vE vV) vV)
      vY)
      (EF (w':=λ(d:Bg×Int×(OL 55)×Un×(OL (Int×(List Int)))×Un×Unit) (_:Unit->Prop) (M:(OL 55)->Bg×Un×Unit->Prop) (_:hO->Bg×Un×Unit->Prop)=>((Vr d.2.2.1.l/\d.2.2.1.l.length<=15/\(∀u∈d.2.2.2.2.1.l,Lp d.2.2.1.l u)/\d.2.2.2.2.1.l.length<=20)/\(0<=d.2.1/\d.2.1<=20))/\∀c,Vr c->c.length<=35->M #[c] 111) (by exact(vN (xW (is:=[]) (mb:=[0]) (D1:=Bg×Int×(OL 55)×Int×(OL (Int×(List Int)))×Un×Unit) (D2:=Bg×Int×(OL 55)×Int×(OL (Int×(List Int)))×Un×Unit) (wu q0q) Bc rfl (xZ rfl B.range (vK (vT a (v0 0 (vG (yD zO (vz 1) vE) vD))))) (v8 3 (vO (i:=3) AJ.nd rfl (jX rfl)) q0q)
      (vC (vZ (tw_cm xI (vK (vT a (v0 0 (vG vE vD)))) vE (vX _))
      (vC<|xY 2 Nn)
      (QZ (D':=Bg×Int×(OL 55)×Int×(OL (Int×(List Int)))×Un×Unit) (vN (vQ 5 AJ.nd (vT w (v0 0 vD)))
      (vC (xY 2 (Ay (w8 (vz 5) (wg (vT g (v0 2 (v0 4 (vG (vz 5) (v0 0 vD)))))))))))))) q0q q0q)
      (vC (AD 2 (pv 2))))) (by
   intro d U M W h
   walk_at "wl"
   refine BV λP I=>?_
   obtain⟨⟨⟨v,hl,hL,ab⟩,Q⟩,J⟩:=h
   refine I ?_
   refine wF q0d q0d λn n0 n1=>#[#[q0d,q0d],?_]
   refine wW (λ(r:List Int) (b:Bg×Int×OL RW×WL.Un×OL 115×WL.Un×Unit)=>Vr b.2.2.1.l/\(∀u∈b.2.2.2.2.1.l,Lp b.2.2.1.l u)/\b.2.2.1.l.length+r.length<=35/\b.2.2.2.2.1.l.length+r.length<=100) (Aj 0 n) #[v,hL,(by rw[xG];show d.2.2.1.l.length+_<=35;omega),(by rw[xG];show d.2.2.2.2.1.l.length+_<=100;omega)] ?_ ?_
   · rintro y r b _ ⟨N, g2, g3, g4⟩ K L
     rw[iH]at g3 g4
     refine wF q0q q0q λs s0 s1=>?_
     dsimp only
     by_cases q:s=8
     · rw[hI<|decide_eq_true q]
       refine#[Di q0d,L _ #[IR N q0d (λr e z=>by cases z),λu R=>FY<|g2 u R,?_,?_]]
       · show (b.2.2.1.l ++ [none]).length+r.length <= 35
         rw[iw,iI]
         omega
       · show b.2.2.2.2.1.l.length+r.length <= 100
         omega
     · rw[cr<|by simpa using q]
       intro t t0 t1
       refine#[N,(show b.2.2.1.l.length<=34 by omega),(show b.2.2.2.2.1.l.length<=100 by omega),g2,t0,t1,λe u v1 v2 v3=>#[Di (show b.2.2.1.l.length<1000 by omega),L _ #[v1,v2,?_,?_]]]
       · show (b.2.2.1.l ++ [↑(t, e)]).length+r.length <= 35
         rw[iw,iI]
         omega
       · show (b.2.2.2.2.1.l ++ u).length+r.length <= 100
         rw[iw]
         omega
   · rintro b ⟨N, _, g3, _⟩
     exact J _ N q0d
))))) (by
   intro d U M W h
   walk_at "wl"
   refine BV λP I=>?_
   obtain⟨⟨⟨v,X,Y,c3,c5⟩,Q⟩,J⟩:=h
   refine I ?_
   refine#[#[q0d,q0d],(by rw[xG];exact wB q0d),wV (f:=λk:Int=>if decide (k<4)=true then some (0,[k]) else none) (λk _ K L=>?_) ?_]
   · show if decide (k<4) = true then K ↑(0, [k]) _ else K none _
     by_cases z:decide (k<4)=true
     · rw[hI z]at L ⊢; exact L
     · rw[cr z]at L ⊢; exact L
   · by_cases Z : 9<(d.2.2.1.l.length : Int)
     · rw[hI<|decide_eq_true Z]
       refine#[wB (show (Zx d.2.2.1.l.length).length+3<=1000 by omega),#[#[v,Y,λu R=>(List.mem_append.mp R).elim (X u)<|c5 q0d u,?_],Q],J]
       rw[iw]
       show (Zx d.2.2.1.l.length).length+3<=20
       omega
     · rw[cr<|by simpa using Z]
       exact#[#[#[v,Y,X,(show (Zx d.2.2.1.l.length).length<=20 by omega)],Q],J]
))))) λp U W h=>?_
  walk_at "wl"
  obtain⟨hm,J⟩:=h
  refine wF q0q q0q λx g0 N=>?_
  dsimp only
  by_cases hx:x=1
  · rw[hI<|decide_eq_true hx]
    exact wF q0q q0q λm m0 m1=>#[m0,#[Xv q0d,hm],J]
  · rw[cr<|by simpa using hx]
    exact#[#[Xv (m:=0) q0q,hm],J]
noncomputable abbrev MD:iK:=top 38
noncomputable abbrev ME:List Str:=["_law_body","_law_rows_here"]
def IZ:vJ ["_law_body","_law_rows_here","_law_number","_law_row_here"] ME (vA MD):=by walk_at "sc"
abbrev ZF(q:Cq)(k:Nat):=xM q "_law_fill" ME (Tb) k
set_option tactic.hygienic true in
def Wu(F:DF q "_law_fill" MD f W)(ct:Bl q.K C)(a:a1x q 8)(g:NS q 8)(B:Bn q.mg):Gq q 9 f W ME (Tb):=by
 refine' vL (w4 (D':=Unit) (ms:=[]) (j:=2) F IZ rfl rfl λX A D s H E hr =>
   (vN (xW (is:=[]) (mb:=[]) (D1:=(Bd C true)×(List 55)×Int×55×Unit) (D2:=(Bd C true)×(List 55)×Int×55×Unit) (wu q0q) Bc rfl (Vp rfl B.enumerate (vz 1)) (BN 2 3 (Cf rfl (wU (vO (i:=2) IZ.nd rfl (jX rfl)) (wU (vO (i:=3) IZ.nd rfl (jX rfl)) Ao))) q0q q0q)
   (vC (vZ (tw_cm YO (vz 3) HQ (vX _))
   (vN (wA (vK (wL 0 a (vG vE (vG (wg 103) vD)))))
   (vC (wA (vK (wL 0 g 118)))))
   (vC (wA (vK (wL 0 a (vG (DD (zc (vz 3))) (vG (wg (U1 rfl B.list (v7 (yX (zc (vz 3)))))) vD)))))))) q0q q0q)
   (vC (AD 0 (pv 0))))) λp Kn Ke h=>?_
 walk_at "wl"
 obtain⟨Y,v,Z⟩:=h;refine wW (λ(r:List (Int×RW)) (b:B0×List RW×WL.Un×WL.Un×Unit)=>∃k,r=OZ k (p.2.1.drop k)/\k<=p.2.1.length/\yz b.1 (p.2.1.take k)/\b.1.ht=[]/\b.1.th=[]) (OZ 0 p.2.1) #[0,rfl,js _,?_] ?_ ?_
 ·show yz p.1 []/\p.1.ht=[]/\p.1.th=[];rw[Y];exact#[We,rfl,rfl]
 ·rintro x r b _ ⟨k,e,O,c,m,n⟩ K hK
  have l:k<p.2.1.length:=by
   rcases Nat.lt_or_ge k p.2.1.length with z|z
   ·exact z
   ·rw[List.drop_of_length_le z]at e;cases e
  rw[oE l]at e;have e1:x=((k:Int),p.2.1[k]):=by cases e;rfl
  have e2:r=OZ (k+1) (p.2.1.drop<|k+1):=by cases e;rfl
  have tk:p.2.1.take (k+1)=p.2.1.take k++[p.2.1[k]]:=(List.take_append_getElem l).symm;have G:(p.2.1.take k).length=k:=List.length_take_of_le O;have I:=Wb v k;have next:∀o:B0,yz o (p.2.1.take k++[p.2.1[k]])->o.ht=[]->o.th=[]->K (o,b.2.1,#[],#[],b.2.2.2.2):=λo h m1 m2=>hK _ #[k+1,e2,l,by rw[tk];exact h,m1,m2]
  have P:rowAt p.2.1 (k:Int)=p.2.1[k]:=FX q0d (by rw[md];exact jO l);have ln:=v.ln;subst e1;dsimp only
  cases z:p.2.1[k] with
  |none =>
   rw[hI<|show (none:RW).isNone=true from rfl];rw[z]at next
   refine Tg c I (oT 0) q0q iW (λ_ q=>by cases q) rfl λQ J u w=>?_;have R:Vr (p.2.1.take k++[↑(0,[])]):=a1A I q0d;refine Wa J R (by have:=wI (rows:=p.2.1.take k) (z:=↑(0,[]));rw[G]at this;rw[this];rfl) (λh t=>?_) (by unfold wv;rw[u,w,m,n];rfl) λx2 S g3 g4=>next x2 ?_ (g3.trans<|u.trans m)<|g4.trans<|w.trans n
   ·cases q:rowAt (p.2.1.take k++[↑(0,[])]) h with
    |none=>unfold eb at t;rw[q]at t;cases t
    |some y =>
     rw[yS q]at t;have T:=((R.ok h y.1 y.2 q).2.2.2.1 _ t).1;have L:=(vR q).2.1;rw[iw,iI,G]at L;omega
   ·rw[md,List.set_append_right _ _ q0d,G,qZ]at S;exact S
  |some y =>
   rw[cr q0o];rw[z]at next P
   refine BV λaa M=>?_;obtain⟨T,L,a3,U,a5⟩:=v.ok k y.1 y.2 P;refine M ?_;refine#[y,rfl,y,rfl,Tg c I T L a3 (λd N=>?_) ?_ λQ J u w=>next Q J (u.trans m)<|w.trans n]
   ·obtain⟨q1,e',q2⟩:=U d N;exact#[e',by rw[yB,hI q1];exact q2]
   ·rw[<- a5];refine xX λd N=>?_;unfold eb;rw[yB,hI (U d N).1]
 ·rintro b ⟨k,e,O,c,m,n⟩
  have:k=p.2.1.length:=by
   rcases Nat.lt_or_ge k p.2.1.length with z|z
   ·rw[oE z]at e;cases e
   ·omega
  rw[this,vt]at c;exact Z _ c m n
noncomputable abbrev MF:iK:=top 39
noncomputable abbrev MG:List Str:=["_law_field","_law_rows_here","_law_bag_here","_law_tries"]
def zL:vJ ["_law_field","_law_rows_here","_law_bag_here","_law_tries","_law_arrows","_law_k","_law_highs","_law_gone","_law_high","_law_low"] MG (vA MF):=by walk_at "sc"
def TJ:(["_law_k","_law_rows_here"]:List Str).Nodup:=by decide +kernel
abbrev ZG(q:Cq)(k:Nat):=xM q "_law_ties" MG (Tk) k
def Wv{f:hO}{fd:iY}(F:DF q "_law_ties" MF f fd)(ct:Bl q.K C)(MH:Cw q 6)(zy:xM q "_law_pull" ["_law_bag_here","_law_many"] zx 6)(Ww:NR q 6)(a1F:Xu q 6)(xi:a1o q XT XR "Tied" "RingOfArrows")(B:Bn q.mg):Gq q 7 f fd MG (Tk):=by
 refine' vL (w4 (D':=Unit) (ms:=[0,2]) (j:=6) F zL rfl rfl λPU A outer s H E hr =>
   (vN (vQ 4 zL.nd (vW (α:=(Int×Int)) vV))
   (vN (AC (Ts:=["_law_k"]) (Fr:=["_law_rows_here"]) (idx:=[1]) (k:=1) (mb:=[1]) (is:=[]) (cl:=[("_law_rows_here",⇑s+1)]) 6 zL.nd rfl rfl rfl q0q rfl (xq (wg (vT MH 79))) Vx rfl (xn rfl) (λs₀ H₀ C ex pn=>(v8 0 (vO (i:=0) TJ rfl (jX rfl)) q0q)) (λs₀ H₀ C ex pn=>(tws_one (tw_cmL (Bh hr.units) (v7 (yX (zc (w6 (v7 (vz 1)) (vz 0))))) (v7 (wg 103)) (vX _)))) (λs₀ H₀ C ex pn=>(vz 0)))
   (vN (xW (is:=[]) (mb:=[0,2]) (D1:=(Bd C true)×(List 55)×Bg×Int×(OL (Int×Int))×Int×(OL Int)×Un×Un×Un×Unit) (D2:=(Bd C true)×(List 55)×Bg×Int×(OL (Int×Int))×Int×(OL Int)×Un×Un×Un×Unit) (wu q0q) Bc rfl (xZ rfl B.range (vz 3)) (v8 5 (vO (i:=5) zL.nd rfl (jX rfl)) q0q)
   (vC (vZ (tw_w (zS (tw_cmL (Bh hr.units) (wS 4) (v7 (wg (vW (α:=(Int×Int)) vV))) (vX _)) (yF (tw_cm xI (vK (vT zy (v0 2 (vG vE vD)))) vE (vX _)))))
   (QZ (D':=(Bd C true)×(List 55)×Bg×Int×(OL (Int×Int))×Int×(OL Int)×Un×Un×Un×Unit) (vN (vQ 7 zL.nd (vS (Pd 4 (pv 4) (vK (vT zy (v0 2 (vG (xf rfl B.len (wS 4)) vD)))) (λh=>W3 oP sI sJ Qt (pv 4) h))))
   (vC (wA (vK (wL 0 Ww (vG (DD (vz 7)) vD)))))))
   (vC (vZ (tw_cmL (Bh hr.units) (wS 6) (v7 (wg 103)) (vX _))
   (QZ (D':=(Bd C true)×(List 55)×Bg×Int×(OL (Int×Int))×Int×(OL Int)×Un×Un×Un×Unit) (vN (vQ 8 zL.nd (vS (w6 (wS 6) (vK (vT zy (v0 2 (vG (xf rfl B.len (wS 6)) vD)))))))
   (vN (vQ 9 zL.nd (vS (w6 (v7 (yX (zc (w6 (v7 (vz 1)) (vz 8))))) (vK (vT zy (v0 2 (vG (xf rfl B.len (v7 (yX (zc (w6 (v7 (vz 1)) (vz 8)))))) vD)))))))
   (vN (VH rfl (Ze rfl xi.m1 rfl xi.m2 xi.x1 xi.x2) (a1n 0 a1F hr ct.cl (λE1 Φ pn'=>(pv 0)) (λE1 Φ pn'=>(vG (vz 9) (vG (vz 8) vD)))) (λx' =>
   (vC (vQ 8 zL.nd (vS (Rj vE))))))
   (vC (vZ (tw_cm Xi (vz 8) vE (vX _))
   (vC<|xY 4<|w8 (vz 9)<|vz 8)
   vY))))))
   vY)))) q0q q0q)
   (vC (vP (FO rfl B.sorted (wS 4)))))))) λp Kn Ke h=>?_
 walk_at "wl"
 refine BV λXz KH=>?_;obtain⟨c0,v,ln,n1,n2,tr,h⟩:=h;have sl:hZ=16777216:=jt;refine KH ?_;refine#[by show p.2.1.length<1000;omega,by show (B2 p.2.1).length<=hZ;have:=zk p.2.1;omega,?_];refine wO (q:=λk=>!decide (eb p.2.1 k=[])) (λk hk K hK=>?_) ?_
 ·obtain⟨y,hy⟩:=Option.isSome_iff_exists.mp<|w9.mp hk;refine#[_,(vR hy).2.2.2,y,rfl,?_];rw[yS hy]at hK;exact hK
 dsimp only;refine#[q0d,?_];refine wW (λ(_:List Int) (b:B0×List RW×Bg×Int×OL (Int×Int)×WL.Un×OL Int×WL.Un×WL.Un×WL.Un×Unit)=>b.2.1=p.2.1/\b.2.2.2.2.2.2.1.l=(B2 p.2.1).filter (λk=>!decide (eb p.2.1 k=[]))/\yz b.1 p.2.1/\Arr b.1 b.2.2.2.2.1.l) _ #[rfl,rfl,c0,Wh (c0.Zv v) n1 n2] ?_ ?_
 ·intro k r;refine Xl λb1 b2 b3 b4 b5 b6 b7 b8 b9 b10 b11=>?_;rintro _ ⟨rfl,j2,c,A⟩ K hK;dsimp only at j2 c A ⊢;have al:=A.Ml c ln;refine Wg q0q q0q (λe5 i p'=>?_) (λp'=>?_) id
  ·have p5:=N7 e5;refine wF q0d q0d λi i0 i1=>?_;refine BV λXz KH=>?_;obtain⟨y,a1,a2,a3⟩:=xO i0 i1;refine KH ?_;exact#[i0,y,a2,q0d,Tt A c a2 λw x' c' A'=>hK _ #[rfl,j2,c',A']]
  ·by_cases q:b7.l=[]
   ·rw[cr<|by simp[q]];exact hK _ #[rfl,j2,c,A]
   ·rw[hI<|by simp[q]];have l7:b7.l.length<=35:=by rw[j2];have:=iR (λk=>!decide (eb p.2.1 k=[]))<|B2 p.2.1;have:=zk p.2.1;omega
    have p7:0<b7.l.length:=List.length_pos_iff.mpr q;refine wF q0d q0d λi i0 i1=>?_;refine BV λXz KH=>?_;obtain⟨hg,a1,a2,a3⟩:=xO i0 i1;refine KH ?_;rw[j2,j4]at a3;obtain⟨y,hy⟩:=Option.isSome_iff_exists.mp<|w9.mp a3.1;have yn:=a3.2;rw[yS hy]at yn;have yl:=KD v hy;refine⟨hg,a1,_,(vR hy).2.2.2,y,rfl,_,(vR hy).2.2.2,y,rfl,wF (Int.natCast_pos.mpr<|N7 yn) q0d λi' i0' i1'=>?_⟩;refine BV λXz KH=>?_;obtain⟨lo,l1,l2,l3⟩:=xO i0' i1';refine KH ?_;refine#[lo,l1,Zy A c v ln hy l3 (λD hD=>#[hD,?_]) λx' c' A'=>?_]
    ·rw[cr<|λz=>iv (kQ z) q0d];exact hK _ #[rfl,j2,c,A]
    ·rw[hI<|decide_eq_true (vR hy).1];exact#[by show b5.l.length<hZ;omega,hK _ #[rfl,j2,c',A']]
 ·refine Xl λb1 b2 b3 b4 b5 b6 b7 b8 b9 b10 b11=>?_;rintro⟨rfl,j2,c,A⟩;have c:yz b1 p.2.1:=c;have A:Arr b1 b5.l:=A;have al:=A.Ml c ln;refine#[by show b5.l.length<64;omega,λps hp so=>h b1 ps c #[A.ok,A.nt,(hp.map _).trans A.pm,λe he=>A.hd e<|hp.mem_iff.mp he]<|To so]
noncomputable abbrev I0:iK:=top 40
abbrev Ja:List Str:=["_law_bag_here","_law_most"]
def Dr:vJ ["_law_bag_here","_law_most","_law_rows_here","_law_field","_law_arrows"] Ja (vA I0):=by walk_at "sc"
abbrev Wx(q:Cq)(k:Nat):=xM q "_law_house" Ja (N4) k
def TK(F:DF q "_law_house" I0 f D)(e:Mk q.K C g)(i:wn q.P q.w q.K q.mg q.base (wh q.P q.w) 8 g b ["self"] (EG C))(k:Binds q.K b ["self"] [])(d:q.mg "Field"=↑(.ref C))(l:ZE q 9)(m:ZF q 9)(o:ZG q 9)(r:xM q "_law_pull" ["_law_bag_here","_law_many"] zx 9)(B:Bn q.mg):Gq q 10 f D Ja (N4):=by
 refine' vL (w4 (D':=Unit) (ms:=[0]) (j:=3) F Dr rfl rfl λG A u s H E I =>
   (vN (vQ 2 Dr.nd (vT l (v0 0 79)))
   (vN (vQ 3 Dr.nd (vT m (Va (RJ e i I rfl d k Bb) (wp 2 vD))))
   (vN (vQ 4 Dr.nd (vT o (v0 3 (wp 2 (v0 0 (vG (vK (vT r (v0 0 (vG (yD zO (QX Ci vE (xf rfl B.len (wS 2))) vE) vD)))) vD))))))
   (vC (VE 3 2 4 (pv 3) (pv 2) (pv 4))))))) λp R S h=>?_
 walk_at "wl"
 obtain⟨J,h⟩:=h;refine#[J,λt v y=>?_];refine#[rfl,v,λx c L M=>?_];dsimp only;refine#[.inl q0q,wF (n:=2*(t.length:Int)+1) q0d q0d λz T U=>?_];exact#[c,v,y,L,M,by show 0<=z/\z<=1000;omega,λN a O A Q=>h N t a O v y A Q]
noncomputable abbrev F8:iK:=top 27
noncomputable abbrev F9:List Str:=["_law_arrows"]
def PJ:vJ ["_law_arrows"] F9 (vA F8):=by walk_at "sc"
def Ga:(["_law_low","_law_high"]:List Str).Nodup:=by decide +kernel
abbrev KI(q:Cq)(k:Nat):=xM q "_law_tails" F9 KC k
def PL(F:DF q "_law_tails" F8 f l):Gq q 2 f l F9 KC:=by
 refine' vL (w4 (D':=Unit) (ms:=[]) (j:=0) F PJ rfl rfl λm A c s H E o =>
   (vC (vP (xT (Ts:=["_law_low","_law_high"]) (Fr:=[]) (idx:=[]) (k:=2) (mb:=[]) (is:=[]) (cl:=[]) rfl (xq (vz 0)) Z3 rfl (xn rfl) (λa b C d g=>(BN 0 1 (Cf rfl (wU (vO (i:=0) Ga) (wU (vO (i:=1) Ga) Ao))) q0q q0q)) (λa b C d g=>tws_nil) (λa b C d g=>(vz 0)))))) λp r t h=>?_
 walk_at "wl"
 obtain⟨u,h⟩:=h;have v:hZ=16777216:=jt;refine#[q0a,?_];refine wV (f:=λ(e:Int×Int)=>↑e.1) (λe w K n=>n) ?_;rw[pr];exact h
noncomputable abbrev Jb:iK:=top 28
abbrev Jc:List Str:=["_law_arrows"]
def TL:vJ ["_law_arrows"] Jc (vA Jb):=by walk_at "sc"
def Hq:(["_law_low","_law_high"]:List Str).Nodup:=by decide +kernel
abbrev N9(q:Cq)(k:Nat):=xM q "_law_heads" Jc N5 k
def TM(F:DF q "_law_heads" Jb f l)(B:Bn q.mg):Gq q 2 f l Jc N5:=by
 refine' vL (w4 (D':=Unit) (ms:=[]) (j:=0) F TL rfl rfl λm A c s H E r =>
   (vC (vP (G6 rfl B.sorted (v7 (wg (xT (Ts:=["_law_low","_law_high"]) (Fr:=[]) (idx:=[]) (k:=2) (mb:=[]) (is:=[]) (cl:=[]) rfl (xq (vz 0)) Z3 rfl (xn rfl) (λa b C d g=>(BN 0 1 (Cf rfl (wU (vO (i:=0) Hq) (wU (vO (i:=1) Hq) Ao))) q0q q0q)) (λa b C d g=>tws_nil) (λa b C d g=>(vz 1))))))))) λp t u h=>?_
 walk_at "wl"
 obtain⟨n,h⟩:=h;have v:hZ=16777216:=jt;refine#[q0a,?_];refine wV (f:=λ(e:Int×Int)=>↑e.2) (λe w K o=>o) ?_;rw[pr];exact#[by rw[h8];exact n,h]
abbrev Cy:iK:=top 49
abbrev Cz:List Str:=["_law_field","_law_low","_law_high"]
def BF:vJ ["_law_field","_law_low","_law_high","_law_word"] Cz (vA Cy):=by walk_at "sc"
abbrev MI(q:Cq)(k:Nat):=xM q "_law_tie_told" Cz (F7) k
def KJ(F:DF q "_law_tie_told" Cy f w)(B:Bl q.K C)(n:Xu q 6)(l:Xh q.K q.mg "NoCell" XC)(k:Xh q.K q.mg "NotFace" XF)(g:Xh q.K q.mg "RingOfArrows" XR)(m:Xh q.K q.mg "Tied" XT)(d:yM q.K XF XC)(b:yM q.K XR XC)(a:yM q.K XR XF)(c:yM q.K XR XT)(i:yM q.K XT XC)(e:yM q.K XT XF):Gq q 7 f w Cz (F7):=by
 refine' vL (w4 (D':=Unit) (ms:=[0]) (j:=1) F BF rfl rfl λx A o s H E D =>
   (ND (D1:=(Bd C true)×Int×Int×Str×Unit) (D':=Unit) [#["NoCell",XC,"NoCell",_,_,_,_,_,_],#["NotFace",XF,"NotFace",_,_,_,_,_,_],#["Tied",XT,"Tied",_,_,_,_,_,_],#["RingOfArrows",XR,"RingOfArrows",_,_,_,_,_,_]] 3 (vy _ _) (wu q0q) rfl (fc #[l,rfl,rfl] (fc #[k,rfl,rfl] (fc #[m,rfl,rfl] (fc #[g,rfl,rfl] Gu)))) (.cons (fc d (fc i (fc b Gu))) (.cons (fc e (fc a Gu)) (.cons (fc c Gu) (.cons Gu .nil)))) BF.nd rfl (jX rfl) (by first|exact .inl rfl|exact .inr rfl) (pv 3) (λG y =>
   (vC (vQ 3 BF.nd (vS (Zc (tw_cm Zd (vK (wL 0 n (hx:=Kc) (vG (vz 1) 118))) HQ (vX _)) xN xN))))))) λp I J h=>?_
 walk_at "wl"
 obtain⟨z,h⟩:=h;refine#[z,?_];show if (70).isSome=true then (if (82).isSome=true then (if p.2.1∈yg p.1 p.2.2.1 then (if wv p.1 p.2.1=true\/wv p.1 p.2.2.1=true then _ else _/\(_->_)) else _) else _) else _;by_cases r:(70).isSome=true
 ·rw[hI r]at h ⊢;by_cases u:(82).isSome=true
  ·rw[hI u]at h ⊢;by_cases v:p.2.1∈yg p.1 p.2.2.1
   ·rw[hI v]at h ⊢;by_cases t:wv p.1 p.2.1=true\/wv p.1 p.2.2.1=true
    ·rw[hI t]at h ⊢;exact#[_,.tail _<|.tail _<|.head _,rfl,h]
    ·rw[cr t]at h ⊢;exact#[#[_,.tail _<|.tail _<|.tail _<|.head _,rfl,h.1],h.2]
   ·rw[cr v]at h ⊢;exact#[_,.tail _<|.head _,rfl,h]
  ·rw[cr u]at h ⊢;exact#[_,.head _,rfl,h]
 ·rw[cr r]at h ⊢;exact#[_,.head _,rfl,h]
abbrev AK:iK:=top 50
abbrev AM:List Str:=["_law_field","_law_way","_law_cell"]
def zU:vJ ["_law_field","_law_way","_law_cell","_law_word"] AM (vA AK):=by walk_at "sc"
abbrev Jd(q:Cq)(k:Nat):=xM q "_law_other_told" AM (Dn) k
def GC(F:DF q "_law_other_told" AK f G)(L:Bl q.K C)(r:NR q 8)(u:NS q 8)(i:Pu q 8)(k:Pw q 8)(l:Xh q.K q.mg "Covered" XV)(n:Xh q.K q.mg "NoCell" XC)(m:Xh q.K q.mg "NotTied" XN)(v:Xh q.K q.mg "Tied" XT)(b:yM q.K XV XC)(a:yM q.K XV XN)(d:yM q.K XV XT)(c:yM q.K XN XC)(g:yM q.K XT XC)(e:yM q.K XT XN):Gq q 9 f G AM (Dn):=by
 refine' vL (w4 (D':=Unit) (ms:=[0]) (j:=1) F zU rfl rfl λI A z s H E M =>
   (ND (D1:=(Bd C true)×Int×Int×Str×Unit) (D':=Unit) [#["NoCell",XC,"NoCell",_,_,_,_,_,_],#["NotTied",XN,"NotTied",_,_,_,_,_,_],#["Tied",XT,"Tied",_,_,_,_,_,_],#["Covered",XV,"Covered",_,_,_,_,_,_]] 3 (vy _ _) (wu q0q) rfl (fc #[n,rfl,rfl] (fc #[m,rfl,rfl] (fc #[v,rfl,rfl] (fc #[l,rfl,rfl] Gu)))) (.cons (fc c (fc g (fc b Gu))) (.cons (fc e (fc a Gu)) (.cons (fc d Gu) (.cons Gu .nil)))) zU.nd rfl (jX rfl) (by first|exact .inl rfl|exact .inr rfl) (pv 3) (λN J =>
   (vN (vZ (tw_cm xI (vz 1) vE (vX _))
   (vC<|wA<|vK<|wL 0 r (hx:=Kc)<|vG (vz 2) vD)
   (vC (vZ (tw_cm xI (vz 1) vE (vX _))
   (vC<|wA<|vK<|wL 0 u (hx:=Kc)<|vG (vz 2) vD)
   (vC (vZ (tw_cm xI (vz 1) vE (vX _))
   (vC<|wA<|vK<|wL 0 i (hx:=Kc)<|vG (vz 2) vD)
   (vC (wA (vK (wL 0 k (hx:=Kc) 118)))))))))
   (vC (vQ 3 zU.nd (vS xN))))))) λp D O h=>?_
 walk_at "wl"
 obtain⟨B,h⟩:=h;by_cases w:p.2.1=0
 ·rw[hI<|decide_eq_true w];refine#[B,?_];show if (82).isSome=true then (if (lk p.1.ht p.2.2.1).isSome=true then _ else _) else _;by_cases s:(82).isSome=true
  ·rw[hI s]at h ⊢;rw[hI w]at h;by_cases t:(lk p.1.ht p.2.2.1).isSome=true
   ·rw[hI t]at h ⊢;exact h
   ·rw[cr t]at h ⊢;exact#[_,.tail _<|.head _,rfl,h]
  ·rw[cr s]at h ⊢;exact#[_,.head _,rfl,h]
 ·rw[cr<|by simpa using w];by_cases x:p.2.1=1
  ·rw[hI<|decide_eq_true x];refine#[B.ok,?_];show if (82).isSome=true then (if wv p.1 p.2.2.1=true then _ else _) else _;by_cases s:(82).isSome=true
   ·rw[hI s]at h ⊢;rw[cr w,hI x]at h;by_cases t:wv p.1 p.2.2.1=true
    ·rw[hI t]at h ⊢;exact#[_,.tail _<|.tail _<|.head _,rfl,h]
    ·rw[cr t]at h ⊢;refine#[B.ok,?_];show if (82).isSome=true then (if NM p.1 p.2.2.1=[] then _ else _) else _;rw[hI s];by_cases o:NM p.1 p.2.2.1=[]
     ·rw[hI o]at h ⊢;exact h
     ·rw[cr o]at h ⊢;exact#[_,.tail _<|.tail _<|.tail _<|.head _,rfl,h]
   ·rw[cr s]at h ⊢;exact#[_,.head _,rfl,h]
  ·rw[cr<|by simpa using x]
   have y:if (82).isSome=true then D "done" 57 else D "NoCell" 57:=by rw[cr w,cr x]at h;exact h
   split
   all_goals
    show if (82).isSome=true then _ else _;by_cases s:(82).isSome=true
    ·rw[hI s]at y ⊢;exact y
    ·rw[cr s]at y ⊢;exact#[_,.head _,rfl,y]
abbrev TN:iK:=top 51
abbrev TQ:List Str:=["_law_rows_here","_law_arrows","_law_low","_law_high"]
def MJ:vJ ["_law_rows_here","_law_arrows","_law_low","_law_high","_law_here_here","_law_bound"] TQ (vA TN):=by walk_at "sc"
abbrev a1G(q:Cq)(k:Nat):=xM q "_law_due" TQ Xw k
def ZH(F:DF q "_law_due" TN f o)(c:Cw q 3)(a:KI q 3)(b:N9 q 3):Gq q 4 f o TQ Xw:=by
 refine' vL (w4 (D':=Unit) (ms:=[]) (j:=2) F MJ rfl rfl λr A k s H E u =>
   (vN (vQ 4 MJ.nd (vT c (vG (vz 0) vD)))
   (vN (vZ (tw_w (B7 (tw_cmI zu (vz 2) (wS 4) (by with_unfolding_all rfl)) (AA (tw_cmI zu (vz 3) (wS 4) (by with_unfolding_all rfl)))))
   (vC<|vP<|vW<|vH xN vV)
   vY)
   (vN (vZ (tw_cmI zu (vz 2) (v7 (yX (zc (w6 (v7 (vz 0)) (vz 3))))) (by with_unfolding_all rfl))
   (vC<|vP<|vW<|vH xN vV)
   vY)
   (vN (vQ 5 MJ.nd (Az (v7 (wg (vT a 79))) (v7 (wg (vT b 79)))))
   (vN (vZ (tw_w (B7 (tw_cmI JZ (vz 2) (wS 5) (by with_unfolding_all rfl)) (AA (tw_cmI JZ (vz 3) (wS 5) (by with_unfolding_all rfl)))))
   (vC<|vP<|vW<|vH xN vV)
   vY)
   (vC (vP (vW (vH xN (vH xN vV))))))))))) λp v w h=>?_
 walk_at "wl"
 refine BV λt l=>?_;obtain⟨⟨x,B⟩,h⟩:=h;have C:hZ=16777216:=jt;refine l ?_;refine#[by show p.1.length<1000;omega,?_];unfold Do at h;by_cases e:p.2.2.1∈B2 p.1
 ·refine wj (Tr e) ?_;by_cases d:p.2.2.2.1∈B2 p.1
  ·refine wj (Tr d) ?_;obtain⟨y,n⟩:=Option.isSome_iff_exists.mp<|w9.mp d;rw[cr<|λz=>z #[w9.mp e,w9.mp d],yS n]at h;refine#[_,(vR n).2.2.2,y,rfl,?_];by_cases m:p.2.2.1∈y.2
   ·refine wj (Tr m) ?_;rw[cr<|λz=>z m]at h;refine#[by show p.2.1.length<64;omega,by show p.2.1.length<64;omega,by rw[Tq,h8,h8];show p.2.1.length+p.2.1.length<=_;omega,?_];by_cases g:p.2.2.1∈Mj p.2.1
    ·refine y9 (decide_eq_true g)<|y9 rfl ?_;rw[hI<|.inl g]at h;exact h
    ·refine wj (io g) ?_;by_cases i:p.2.2.2.1∈Mj p.2.1
     ·refine y9 (decide_eq_true i) ?_;rw[hI<|.inr i]at h;exact h
     ·refine wj (io i) ?_;rw[cr λz=>z.elim g i]at h;exact h
   ·refine y9 (mmn m) ?_;rw[hI m]at h;exact h
  ·refine y9 (mmn d) ?_;rw[hI λz=>d<|w9.mpr z.2]at h;exact h
 ·refine y9 (mmn e)<|y9 rfl ?_;rw[hI λz=>e<|w9.mpr z.1]at h;exact h
abbrev TR:iK:=top 52
abbrev TU:List Str:=["_law_bag_here","_law_rows_here","_law_arrows"]
def AN:vJ ["_law_bag_here","_law_rows_here","_law_arrows","_law_way","_law_low","_law_high","_law_highs"] TU (vA TR):=by walk_at "sc"
def Wy:(["_law_k","_law_rows_here"]:List Str).Nodup:=by decide +kernel
abbrev a1H(q:Cq)(k:Nat):=xM q "_law_two" TU Xx k
def ZI{f:hO}{fd:iY}(F:DF q "_law_two" TR f fd)(zy:xM q "_law_pull" ["_law_bag_here","_law_many"] zx 3)(MH:Cw q 3)(B:Bn q.mg):Gq q 4 f fd TU Xx:=by
 refine' vL (w4 (D':=Unit) (ms:=[0]) (j:=4) F AN rfl rfl λPU A outer s H E hr =>
   (vN (vQ 3 AN.nd (vT zy (v0 0 (vG vE vD))))
   (vN (vQ 4 AN.nd (vS (yD EX (vK (vT zy (v0 0 (vG (yD zO 130 vE) vD)))) vE)))
   (vN (vQ 5 AN.nd (vS (yD EX (vK (vT zy (v0 0 (vG (yD zO 130 vE) vD)))) vE)))
   (vN (AC (Ts:=["_law_k"]) (Fr:=["_law_rows_here"]) (idx:=[1]) (k:=1) (mb:=[1]) (is:=[]) (cl:=[("_law_rows_here",⇑s+1)]) 6 AN.nd rfl rfl rfl q0q rfl (xq (wg (vT MH 79))) Vx rfl (xn rfl) (λs₀ H₀ C ex pn=>(v8 0 (vO (i:=0) Wy rfl (jX rfl)) q0q)) (λs₀ H₀ C ex pn=>(tws_one (tw_cmL (Bh hr.units) (v7 (yX (zc (w6 (v7 (vz 1)) (vz 0))))) (v7 (wg 103)) (vX _)))) (λs₀ H₀ C ex pn=>(vz 0)))
   (vN (vZ (tw_w (zS (tw_cm xI (vz 3) vE (vX _)) (yF (tw_cmL (Bh hr.units) (v7 (vz 2)) (v7 (wg (vW (α:=(Int×Int)) vV))) (vX _)))))
   (vC<|RQ (BN 4 5 (Cf rfl<|wU (vO (i:=4) AN.nd rfl<|jX rfl)<|wU (vO (i:=5) AN.nd rfl<|jX rfl) Ao) q0q q0q)<|w6 (v7<|vz 2)<|vK<|vT zy<|v0 0<|vG (xf rfl B.len<|v7<|vz 2) vD)
   vY)
   (vN (vZ (tw_w (zS (tw_cm Q4 (vz 3) vE (vX _)) (yF (tw_cmL (Bh hr.units) (wS 6) (v7 (wg 103)) (vX _)))))
   (vN (vQ 5 AN.nd (vS (w6 (wS 6) (vK (vT zy (v0 0 (vG (xf rfl B.len (wS 6)) vD)))))))
   (vC (vQ 4 AN.nd (vS (w6 (v7 (yX (zc (w6 (v7 (vz 1)) (vz 5))))) (vK (vT zy (v0 0 (vG (xf rfl B.len (v7 (yX (zc (w6 (v7 (vz 1)) (vz 5)))))) vD)))))))))
   vY)
   (vN (vZ (tw_cm xI (vz 3) vE (vX _))
   (vC<|vP<|vS<|w8 (vz 5)<|vz 4)
   vY)
   (vC (vP (vS (w8 (vz 4) (vz 5))))))))))))) λp Kn Ke h=>?_
 walk_at "wl"
 refine BV λXz KH=>?_;obtain⟨⟨v,l1,l2⟩,k⟩:=h;have sl:hZ=16777216:=jt;refine KH ?_;refine wF q0q q0q λw w0 w1=>wF q0d q0d λl l0 l1'=>wF q0d q0d λh h0 h1=>?_;have hl:=zk p.2.1;have ll:((B2 p.2.1).filter λk=>!decide (eb p.2.1 k=[])).length<=35:=i9 (iR _ _) q0d;refine#[by show p.2.1.length<1000;omega,by show (B2 p.2.1).length<=hZ;omega,wO (q:=λk=>!decide (eb p.2.1 k=[])) (λk hk K hK=>?_) ?_]
 ·obtain⟨y,hy⟩:=Option.isSome_iff_exists.mp<|w9.mp hk;refine#[_,(vR hy).2.2.2,y,rfl,?_];rw[yS hy]at hK;exact hK
 by_cases e1:w=1
 ·rw[hI<|decide_eq_true e1];by_cases q:p.2.2.1=[]
  ·refine wj (by simp[q])<|wj (io q0d)<|wj rfl ?_;exact two_ok k
  ·rw[hI<|by simp[q]];have:=List.length_pos_iff.mpr q;refine wF q0d q0d λi i0 i1=>?_;refine BV λXz KH=>?_;obtain⟨y,a1,a2,a3⟩:=xO i0 i1;refine KH ?_;refine#[y,a1,?_];refine wj (io q0d)<|wj rfl ?_;exact two_ok k
 ·refine wj (io e1)<|wj rfl ?_;by_cases e2:1<w
  ·refine y9 (decide_eq_true e2) ?_;by_cases q:(!decide ((B2 p.2.1).filter (λk=>!decide (eb p.2.1 k=[]))=[]))=true
   ·refine y9 q ?_;refine wF (Int.natCast_pos.mpr<|N7 q) (vg (Int.ofNat_le.mpr ll) q0q) λi i0 i1=>?_;refine BV λXz KH=>?_;obtain⟨hg,a1,a2,a3⟩:=xO i0 i1;obtain⟨g1,g2⟩:=List.mem_filter.mp a3;obtain⟨y,hy⟩:=Option.isSome_iff_exists.mp<|w9.mp g1;have yl:=KD v hy;refine KH ?_;rw[yS hy]at g2;refine⟨hg,a1,_,(vR hy).2.2.2,y,rfl,_,(vR hy).2.2.2,y,rfl,wF (Int.natCast_pos.mpr<|N7 g2) (vg (Int.ofNat_le.mpr yl) q0q) λi' i0' i1'=>?_⟩;refine BV λXz KH=>?_;obtain⟨lo,b1,b2,b3⟩:=xO i0' i1';refine KH ?_;refine#[lo,b1,?_];exact two_ok k
   ·refine wj (Bool.eq_false_iff.mpr q) ?_;exact two_ok k
  ·refine wj (io e2)<|wj rfl ?_;exact two_ok k
abbrev Je:iK:=top 44
abbrev Jf:List Str:=["_law_found","_law_due_here"]
def TV:vJ ["_law_found","_law_due_here"] Jf (vA Je):=by walk_at "sc"
abbrev Wz(q:Cq)(k:Nat):=xM q "_law_truth" Jf IN k
def TX(F:DF q "_law_truth" Je f b)(B:Bn q.mg):Gq q 2 f b Jf IN:=by
 refine' vL (w4 (D':=Unit) (ms:=[]) (j:=0) F TV rfl rfl λc A a s H E d =>
   (vC (vP (vS (HW (zm (ty:="bool") rfl B.isinstance (BG (v:=.ty "bool") rfl B.bool rh rfl) (vz 0)) (CU (a0Q xI (vz 0) (vz 1) (vX _)))))))) λp e g h=>?_
 walk_at "wl"
 rw[hI rfl];exact h
abbrev AO:iK:=top 45
abbrev AQ:List Str:=["_law_body","_law_rows_here"]
def zV:vJ ["_law_body","_law_rows_here","_law_cell"] AQ (vA AO):=by walk_at "sc"
abbrev Jg(q:Cq)(k:Nat):=xM q "_law_cells_kept" AQ (Dm) k
def GD(F:DF q "_law_cells_kept" AO f O)(L:Bl q.K C)(e:ZD q 6)(a:Cw q 6)(n:Wz q 6)(o:IU q 6)(t:NN q 6)(g:Sw q 6)(l:Sv q 6)(d:V0 q 6)(m:SA q 6)(B:Bn q.mg):Gq q 7 f O AQ (Dm):=by
 refine' vL (w4 (D':=Unit) (ms:=[0]) (j:=1) F zV rfl rfl λP A z s H E M =>
   (vN (vZ (tw_w (B7 (tw_not (tw_val (vK (vT e (vG (wg (Ka 0 t M L.cl Bb (pv 0))) (vG (wg (vT a 79)) vD)))))) (AA (tw_cm CS (vK (Ka 0 g M L.cl Bb (pv 0))) 130 (vX _)))))
   136
   vY)
   (vN (xW (is:=[]) (mb:=[0]) (D1:=(Bd C true)×(List 55)×Int×Unit) (D2:=(Bd C true)×(List 55)×Int×Unit) (wu q0q) Bc rfl (OU rfl B.range (Rj vE) (yD zO 130 vE) (λh=>Ol rfl B.range h)) (v8 2 (vO (i:=2) zV.nd rfl (jX rfl)) q0q)
   (vC (vZ (tw_not (tw_val (vK (vT n (vG (vK (wL 0 l 118)) (vG (YS JZ (vz 2) (v7 (wg (vT a 79))) (by with_unfolding_all rfl)) vD))))))
   136
   vY)) q0q q0q)
   (vN (xW (is:=[]) (mb:=[0]) (D1:=(Bd C true)×(List 55)×Int×Unit) (D2:=(Bd C true)×(List 55)×Int×Unit) (wu q0q) Bc rfl (xq (wg (vT a 79))) (v8 2 (vO (i:=2) zV.nd rfl (jX rfl)) q0q)
   (vN (vZ (tw_w (B7 (tw_cm CS (vK (wL 0 d 118)) (DD (zc (w6 (v7 (vz 1)) (vz 2)))) (vX _)) (AA (tw_not (tw_val (vK (vT o (vG (vK (wL 0 d 118)) vD))))))))
   136
   vY)
   (vC (vZ (tw_not (tw_val (vK (vT e (vG (wg (wL 0 m 118)) (vG (yX (zc (w6 (v7 (vz 1)) (vz 2)))) vD))))))
   136
   vY))) q0q q0q)
   (vC (vP (vS zt))))))) λp S T h=>?_
 walk_at "wl"
 obtain⟨c,v,h⟩:=h;have U:=v.ln;refine#[c.Zv v,(show p.2.1.length<1000 by omega),N0 c.ks ?_];rw[cr q0q];show if (!decide (p.1.up=(p.2.1.length:Int)))=true then _ else _;rw[cr<|by simp[c.up]];refine⟨⟨q0q,q0q,q0d,q0d⟩,?_⟩;refine wW (λ(r:List Int)(b:B0×List RW×WL.Un×Unit)=>b.1=p.1/\b.2.1=p.2.1) _ #[rfl,rfl] ?_ ?_
 ·rintro k r ⟨D,G,I⟩ _ ⟨u,w⟩ K J;dsimp only at u w ⊢;subst u w;refine#[(show p.2.1.length<1000 by omega),Tj (c.a1z k) ?_];rw[cr q0q];exact J _ #[rfl,rfl]
 ·rintro⟨D,G,I⟩ ⟨u,w⟩;dsimp only at u w ⊢;subst u w;refine#[(show p.2.1.length<1000 by omega),?_];refine wW (λ(r:List Int)(b:B0×List RW×WL.Un×Unit)=>b.1=p.1/\b.2.1=p.2.1/\∀k∈r,(rowAt p.2.1 k).isSome=true) _ #[rfl,rfl,λk Q=>w9.mp Q] ?_ ?_
  ·rintro k r ⟨D,G,I⟩ _ ⟨u,w,N⟩ K J;dsimp only at u w ⊢;subst u w;obtain⟨y,x⟩:=Option.isSome_iff_exists.mp<|N k ic;refine N3 c x ⟨_,(vR x).2.2.2,y,rfl,?_⟩;rw[cr q0o];refine N3 c x<|FZ ?_;rw[cr q0q];refine Pz c v x ⟨_,(vR x).2.2.2,y,rfl,N0 rfl ?_⟩;rw[cr q0q];exact J _ ⟨rfl,rfl,λj R=>N j<|ij _ R⟩
  ·rintro⟨D,G,I⟩ ⟨u,w,_⟩;dsimp only at u w ⊢;subst u w;exact h
abbrev Jh:iK:=top 46
abbrev Ji:List Str:=["_law_found","_law_due_here"]
def KL:vJ ["_law_found","_law_due_here","_law_k"] Ji (vA Jh):=by walk_at "sc"
abbrev WA(q:Cq)(k:Nat):=xM q "_law_pairs" Ji N6 k
def TY(F:DF q "_law_pairs" Jh f o)(a:IU q 3)(B:Bn q.mg):Gq q 4 f o Ji N6:=by
 refine' vL (w4 (D':=Unit) (ms:=[]) (j:=1) F KL rfl rfl λt A d s H E u =>
   (vN (vZ (tw_w (B7 (tw_not (tw_val (zm (ty:="list") rfl B.isinstance (BG (v:=.ty "list") rfl B.list kB rfl) (vz 0)))) (AA (tw_cm CS (xf rfl B.len (v7 (vz 0))) 130 (vX _)))))
   136
   vY)
   (vN (xW (is:=[]) (mb:=[]) (D1:=(List (Int×Int))×(List (Int×Int))×Int×Unit) (D2:=(List (Int×Int))×(List (Int×Int))×Int×Unit) (wu q0q) Bc rfl (xZ rfl B.range 130) (v8 2 (vO (i:=2) KL.nd rfl (jX rfl)) q0q)
   (vN (vZ (tw_w (B7 (tw_not (tw_val (zm (ty:="tuple") rfl B.isinstance (BG (v:=.ty "tuple") rfl B.tuple qX rfl) (w6 (v7 (vz 0)) (vz 2))))) (AA (tw_cm CS (VD rfl B.len (w6 (v7 (vz 0)) (vz 2))) vE (vX _)))))
   136
   vY)
   (vC (vZ (tw_w (B7 (tw_not (tw_val (vK (vT a (vG (DD (w6 (v7 (vz 0)) (vz 2))) vD))))) (B7 (tw_not (tw_val (vK (vT a (vG (yX (w6 (v7 (vz 0)) (vz 2))) vD))))) (AA (tw_cm (YQ u.units) (w6 (v7 (vz 0)) (vz 2)) (w6 (v7 (vz 1)) (vz 2)) (vX _))))))
   136
   vY))) q0q q0q)
   (vC (vP (vS zt)))))) λp C D h=>?_
 walk_at "wl"
 obtain⟨e,n,k⟩:=h;rw[e]at n ⊢;refine rJ (cr q0q)<|rJ (cr q0o) ⟨⟨q0d,q0d⟩,?_⟩;refine wW (λ(r:List Int) (b:List (Int×Int)×List (Int×Int)×WL.Un×Unit)=>b.1=p.2.1/\b.2.1=p.2.1/\∀j∈r,0<=j/\j<(p.2.1.length:Int)) _ #[rfl,rfl,λj w=>IP w] ?_ λ_ _=>k;intro j r;refine a3j λG I J L=>?_;rintro _ ⟨l,m,g⟩ K x;dsimp only at l m ⊢;subst l m;obtain⟨y,c,_⟩:=xO (g j ic).1 (g j ic).2;exact#[y,c,rJ (cr q0q) #[y,c,rJ (cr q0q) #[y,c,FZ<|rJ (cr q0q) ⟨y,c,FZ<|rJ (cr q0q) ⟨y,c,y,c,rJ (cr q0o)<|x _ ⟨rfl,rfl,λi z=>g i<|ij _ z⟩⟩⟩]]]
abbrev MK:iK:=top 47
abbrev ML:List Str:=["_law_field","_law_rows_here","_law_arrows"]
def WB:vJ ["_law_field","_law_rows_here","_law_arrows"] ML (vA MK):=by walk_at "sc"
abbrev ZJ(q:Cq)(k:Nat):=xM q "_law_kept" ML (Tl) k
def WC{f:hO}{fd:iY}(F:DF q "_law_kept" MK f fd)(ct:Bl q.K C)(Jj:Jg q 7)(WD:WA q 7)(TZ:SQ q 7):Gq q 8 f fd ML (Tl):=by
 refine' vL (w4 (D':=Unit) (ms:=[0]) (j:=0) F WB rfl rfl λPU A outer s H E hr =>
   (vC (vP (vS (HW (vK (vT Jj (v0 0 79))) (CU (vK (vT WD (vG (wg (Ka 0 TZ hr ct.cl Bb (pv 0))) 118))))))))) λp Kn Ke h=>?_
 walk_at "wl"
 refine BV λXz KH=>?_;obtain⟨⟨c,v,ln,A,so⟩,k⟩:=h;have al:=A.Ml c ln;refine KH ?_;refine#[c,v,rJ (hI rfl) #[by show p.1.ht.length<64;omega,A.ok.nd,A.eq so,?_,k]];show ((El<|xR p.1).map λl=>(l,xJ p.1 l)).length<64;rw[A.eq so];omega
noncomputable abbrev MM:iK:=top 48
abbrev MN:List Str:=["_law_rows_here","_law_cell"]
def WE:vJ ["_law_rows_here","_law_cell"] MN (vA MM):=by walk_at "sc"
def T0:(["_law_k","_law_cell","_law_rows_here"]:List Str).Nodup:=by decide +kernel
abbrev ZK(q:Cq)(k:Nat):=xM q "_law_over" MN NU k
def WF(F:DF q "_law_over" MM f n)(a:Cw q 2):Gq q 3 f n MN NU:=by
 refine' vL (w4 (D':=Unit) (ms:=[]) (j:=0) F WE rfl rfl λo A d s H E u =>
   (vC (vP (xT (Ts:=["_law_k"]) (Fr:=["_law_cell","_law_rows_here"]) (idx:=[1,0]) (k:=1) (mb:=[1,2]) (is:=[]) (cl:=[("_law_rows_here",⇑s+1),("_law_cell",⇑s+1+1)]) rfl (xq (wg (vT a (vG (vz 0) vD)))) bs2 rfl (xn rfl) (λb c C e g=>(v8 0 (vO (i:=0) T0 rfl (jX rfl)) q0q)) (λb c C e g=>(tws_one (tw_cmI JZ (vz 1) (v7 (yX (zc (w6 (v7 (vz 2)) (vz 0))))) (by with_unfolding_all rfl)))) (λb c C e g=>(vz 0)))))) λp v w h=>?_
 walk_at "wl"
 obtain⟨r,h⟩:=h;have x:=zk p.1;refine#[r,wB (show (B2 p.1).length<=1000 by omega),wO (q:=λk=>decide<|p.2.1∈eb p.1 k) (λk t K l=>?_) h];obtain⟨y,m⟩:=Option.isSome_iff_exists.mp<|w9.mp t;rw[yS m]at l;exact#[_,(vR m).2.2.2,y,rfl,l]
end
noncomputable abbrev T1:iK:=top 30
def ZL{K:hJ}{p:Z2 K×Unit}{a:Bg->WL.Un×Unit->Prop}{b:hO->WL.Un×Unit->Prop}(k:a #[] (#[],())):RH K p a b:=k
def Arr.perm(A:Arr x a)(p:a.Perm b):Arr x b:=#[A.ok,A.nt,(p.map _).symm.trans A.pm,λe c=>A.hd e<|p.mem_iff.mpr c]
def Arr.CA(A:Arr x a)(c:yz x rows)(m:yz d b)(D:Vr b)(f:d.ht=x.ht)(g:d.th=x.th)(p:∀k,wv x k=true->rowAt b k=rowAt rows k):Arr d a:=by
 have j:xR d=xR x:=by unfold xR;rw[f]
 have u:∀l,xJ d l=xJ x l:=λl=>by unfold xJ;rw[f]
 have E:∀{k},(lk x.ht k).isSome=true->wv x k=true:=λ{k} h=>by unfold wv;rw[h];rfl
 have i:∀{k},(lk x.th k).isSome=true->wv x k=true:=λ{k} h=>by unfold wv;rw[h,ts]
 have v:∀{k},wv x k=true->lk d.rk k=lk x.rk k:=λ{k} h=>by rw[m.rk,c.rk,p k h]
 have w:∀{k},wv x k=true->yg d k=yg x k:=λ{k} h=>by rw[m.yg,c.yg];unfold eb;rw[p k h]
 have n:∀{l},l∈xR x->wv x (xJ x l)=true:=λ{l} h=>i (by rw[(A.ok.ht _ _<|zw h).2.2.2];rfl);refine⟨⟨m.Zv D,by rw[j];exact A.ok.nd,by rw[f];exact A.ok.len,by rw[g];exact A.ok.Zp,λl h q=>?_,λl h q=>?_,λk y B=>?_,?_⟩,by rw[g];exact A.nt,by rw[j];exact A.pm,λe F=>by rw[u];exact A.hd e F⟩
 ·rw[f]at q;have z:=A.ok.ht l h q;have G:wv x l=true:=E (by rw[q];rfl);have C:wv x h=true:=i (by rw[z.2.2.2];rfl);rw[v G,v C,w C,g];exact z
 ·rw[g]at q;rw[f];exact A.ok.th l h q
 ·rw[f]at y;rw[g]at B;exact A.ok.one k y B
 ·obtain⟨r,H⟩:=A.ok.acy;refine#[r,λl o t I=>H l (by rw[<- j];exact o) t ?_];have s:=zj.mp I;rw[j]at o s;rw[u,w<|n o]at s;exact zj.mpr s
def a1I(A:Arr x a){k:Int}(h:wv x k=true):k∈a.map (·.1)++El (a.map (·.2)):=by
 unfold wv at h;rcases Bool.or_eq_true_iff.mp h with h|h
 ·exact jg _<|A.pm.mem_iff.mpr<|y8.mp h
 ·refine iF _<|CZ.mpr ?_;obtain⟨l,e⟩:=Option.isSome_iff_exists.mp h;have e:=A.ok.th l k e;have m:l∈xR x:=y8.mp (by rw[e];rfl);obtain⟨p,b,c⟩:=List.mem_map.mp<|A.pm.mem_iff.mpr m;refine List.mem_map.mpr #[p,b,?_];rw[<- A.hd p b,c];unfold xJ;rw[e];rfl
def a1J(A:Arr x a)(c:yz x rows){k:Int}(h:wv x k=true):(119).isSome=true:=by
 unfold wv at h
 have f:∀l h,lk x.ht l=↑h->(rowAt rows l).isSome=true/\(rowAt rows h).isSome=true:=λl h e=>by have z:=A.ok.ht l h e;rw[c.rk,c.rk,iJ,iJ]at z;exact#[z.1,z.2.1]
 rcases Bool.or_eq_true_iff.mp h with h|h
 ·obtain⟨l,e⟩:=Option.isSome_iff_exists.mp h;exact(f _ _ e).1
 ·obtain⟨l,e⟩:=Option.isSome_iff_exists.mp h;exact(f _ _<|A.ok.th l k e).2
def a4f{k:Int}(h:rowAt rows k=none):eb rows k=[]:=by unfold eb;rw[h];rfl
def a3K(A:Arr x a)(c:yz x rows){k:Int}(h:k∈a.map (·.1)++El (a.map (·.2))):(119).isSome=true:=by
 have f:∀e∈a,(rowAt rows e.1).isSome=true/\(rowAt rows e.2).isSome=true:=λe b=>by have z:=A.ok.ht e.1 _<|zw<|A.mem b;rw[A.hd e b,c.rk,c.rk,iJ,iJ]at z;exact#[z.1,z.2.1]
 rcases List.mem_append.mp h with h|h
 ·obtain⟨e,b,q⟩:=List.mem_map.mp h;rw[<- q];exact(f e b).1
 ·obtain⟨e,b,q⟩:=List.mem_map.mp<|CZ.mp h;rw[<- q];exact(f e b).2
def ZM{j:Int}(v:Vr rows)(b:0<=j)(f:∀h,j∉eb rows h):Vr (rows.set j.toNat none):=by
 have g:∀{k:Int} {y:Int×List Int},rowAt (rows.set j.toNat none) k=↑y->rowAt rows k=↑y:=λ{k y} h=>by
  rw[yA b]at h;by_cases q:k=j
  ·rw[hI q]at h;cases h
  ·rw[cr q]at h;exact h
 refine#[λk r e h=>?_,by rw[lm];exact v.ln,λk r e h=>v.sm k r e<|g h];obtain⟨i,l,m,n,o⟩:=v.ok k r e<|g h;have d:∀c∈e,c≠j:=λc a z=>f k (by rw[yS<|g h,<- z];exact a);refine⟨i,l,m,λc a=>?_,?_⟩
 ·rw[yA b,cr<|d c a];exact n c a
 ·rw[<- o];refine xX λc a=>?_;unfold eb;rw[yA b,cr<|d c a]
def WG{g:Int}(h:rowAt rows g=↑y):Qn rows.length g=↑g.toNat:=by have z:=vR h;unfold Qn;rw[hI z.1,hI z.2.1]
def Arr.Ui(A:Arr x a){l:Int}(b:l∈a.map (·.1)):Arr (143:B0) (a.filter λe=>!decide (e.1=l)):=by
 have c:l∈xR x:=A.pm.mem_iff.mp b;refine#[A.ok.Xy c,?_,?_,λe d=>?_]
 ·show ((dk x.th<|xJ x l).map (·.1)).Nodup;rw[BS];exact A.nt.filter _
 ·show ((a.filter λe=>!decide (e.1=l)).map (·.1)).Perm ((dk x.ht l).map (·.1));rw[BS];have:=(A.pm.filter λj=>decide<|j≠l);rw[pJ]at this
  have e:(a.filter λe=>!decide (e.1=l))=a.filter ((λj:Int=>decide<|j≠l)∘λe:Int×Int=>e.1):=l8 λe _=>by by_cases q:e.1=l<;>simp[q]
  rw[e];exact this
 ·have z:=List.mem_filter.mp d;have f:e.1≠l:=by simpa using z.2
  show (lk (dk x.ht l) e.1).getD 0=e.2;rw[B8,cr f];exact A.hd e z.1
def DU(A:Arr x a){k:Int}:wv x k=true↔k∈Mj a:=by
 refine#[a1I A,λh=>?_];unfold wv;rcases List.mem_append.mp h with h|h
 ·rw[y8.mpr<|A.pm.mem_iff.mp h];rfl
 ·obtain⟨e,b,q⟩:=List.mem_map.mp<|CZ.mp h;have z:=A.ok.ht e.1 _<|zw<|A.mem b;rw[A.hd e b,q]at z;rw[z.2.2.2];simp
def T2(A:Arr x a){k:Int}:(lk x.ht k).isSome=true↔k∈a.map (·.1):=y8.trans A.pm.mem_iff.symm
def Gb(b:List RW)(a:List (Int×Int))(w k:Int):Str :=
 if (rowAt b k).isSome=true then (if w=0/\k∉a.map (·.1) then "NotTied" else if w=1/\k∈Mj a then "Tied" else if w=1/\Ug b k≠[] then "Covered" else "done") else "NoCell"
def ZN{s t:Str}(h:s=t):(!decide (s=t))=false:=by rw[decide_eq_true h];rfl
def XA{s t u:Str}{b:Bool}(e:s=t)(n:decide (t=u)=b):decide (s=u)=b:=by rw[e];exact n
def XD(s:¬(119).isSome=true):Gb rows a w k="NoCell":=by unfold Gb;rw[cr s]
def XG(s:(119).isSome=true)(h:w=0)(t:k∉a.map (·.1)):Gb rows a w k="NotTied":=by unfold Gb;rw[hI s,hI #[h,t]]
def XH(s:(119).isSome=true)(h:w=1)(t:k∈Mj a):Gb rows a w k="Tied":=by unfold Gb;rw[hI s,cr (λz=>by omega),hI #[h,t]]
def XI(s:(119).isSome=true)(h:w=1)(t:k∉Mj a)(o:Ug rows k≠[]):Gb rows a w k="Covered":=by unfold Gb;rw[hI s,cr (λz=>by omega),cr<|λz=>t z.2,hI #[h,o]]
def Hr(s:(119).isSome=true)(c:w=0->k∈a.map (·.1))(b:w=1->k∉Mj a/\Ug rows k=[]):Gb rows a w k="done":=by unfold Gb;rw[hI s,cr<|λz=>z.2<|c z.1,cr<|λz=>(b z.1).1 z.2,cr<|λz=>z.2 (b z.1).2]
section
variable{x:B0}{rows:List RW}{a:List (Int×Int)}
end
section
variable{x:B0}{rows:List RW}{a:List (Int×Int)}{l g:List Int}{Kb:Bool->WL.Un×Unit->Prop}{K1:OL Int->WL.Un×Unit->Prop}{K2:OL Int->WL.Un×WL.Un×Unit->Prop}{E1:hO->WL.Un×Unit->Prop}{E2:hO->WL.Un×WL.Un×Unit->Prop}
end
section
variable{q:Cq}{XL:hO}
noncomputable abbrev Ds:iK:=top 53
def xt:vJ ["_law_script","_law_bag_here","_law_other","_law_field","_law_rows_here","_law_arrows","_law_low","_law_high","_law_told","_law_cell","_law_due_here","_law_bound"] ["_law_script"] (vA Ds):=by walk_at "sc"
def WH:(["_law_x","_law_cell"]:List Str).Nodup:=by decide +kernel
def ZO{f:hO}{fd:iY}(F:DF q "law" Ds f fd)(ae:xM q "_law_bag" ["_law_script"] (RH q.K) 10)(O:xM q "_law_pull" ["_law_bag_here","_law_many"] zx 10)(S:Wx q 10)(af:a1H q 10)(N:MI q 10)(ag:a1G q 10)(P:ZJ q 10)(M:KI q 10)(T:N9 q 10)(X:Cw q 10)(Y:ZK q 10)(J:Jd q 10)(B:Bn q.mg):Gq q 11 f fd ["_law_script"] (Xq q.K):=by
  refine' vL (w4 (D':=Unit) (ms:=[]) (j:=11) F xt rfl rfl λak A ai s H E hr =>
      (vN (vQ 1 xt.nd (vT ae (vG (vz 0) vD)))
      (vN (vQ 2 xt.nd (vT O (v0 1 (vG vE vD))))
      (vN (VF 3 4 5 (Cf rfl (wU (vO (i:=3) xt.nd rfl (jX rfl)) (wU (vO (i:=4) xt.nd rfl (jX rfl)) (wU (vO (i:=5) xt.nd rfl (jX rfl)) Ao)))) q0q q0q q0q (vT S (v0 1 (vG vE vD))))
      (vN (RQ (BN 6 7 (Cf rfl (wU (vO (i:=6) xt.nd rfl (jX rfl)) (wU (vO (i:=7) xt.nd rfl (jX rfl)) Ao))) q0q q0q) (vK (vT af (v0 1 (wp 4 (wp 5 vD))))))
      (vN (vQ 8 xt.nd (vT N (v0 3 (vG (vz 6) (vG (vz 7) vD)))))
      (vN (vZ (tw_cmI O6 (vz 8) (v7 (wg (vT ag (wp 4 (wp 5 (vG (vz 6) (vG (vz 7) vD))))))) (by with_unfolding_all rfl))
      136
      vY)
      (vN (vZ (tw_cm xI (vz 8) xN (vX _))
      (vC<|vQ 5 xt.nd<|FO rfl B.sorted<|v7<|wg<|Az (wS 5)<|v7<|wg<|vW<|vH (w8 (vz 6)<|vz 7) vV)
      vY)
      (EF (w':=λ(d:(Z2 q.K)×Bg×Int×(Bd C true)×(OL 55)×(OL (Int×Int))×Int×Int×Str×Un×Un×Un×Unit) (_:Unit->Prop) (Kr:Bool->Un×Unit->Prop) (_:hO->Un×Unit->Prop)=>(Arr d.2.2.2.1 d.2.2.2.2.2.1.l/\yz d.2.2.2.1 d.2.2.2.2.1.l/\Vr d.2.2.2.2.1.l/\d.2.2.2.2.1.l.length<=35/\(d.2.2.2.2.2.1.l.map (·.1)).Pairwise (·<=·))/\Kr true (#[],())) (by exact(vN (vZ (tw_not (tw_val (vK (vT P (v0 3 (wp 4 (wp 5 vD)))))))
      136
      vY)
      (vN (vQ 9 xt.nd (vS (w6 (v7 (wg (vW (vH (vz 6) (vH (vz 7) vV))))) (vK (vT O (v0 1 (vG vE vD)))))) (hx:=Or.inr rfl))
      (vN (vQ 10 xt.nd (vS xN))
      (vN (vQ 11 xt.nd (Az (v7 (wg (vT M (wp 5 vD)))) (v7 (wg (vT T (wp 5 vD))))))
      (vN (vZ (tw_cmI zu (vz 9) (v7 (wg (vT X (wp 4 vD)))) (by with_unfolding_all rfl))
      (vC<|vQ 10 xt.nd<|vS xN)
      (vC (vZ (tw_w (zS (tw_cm xI (vz 2) vE (vX _)) (yF (tw_cmI zu (vz 9) (v7 (wg (vT M (wp 5 vD)))) (by with_unfolding_all rfl)))))
      (vC<|vQ 10 xt.nd<|vS xN)
      (vC (vZ (tw_w (zS (tw_cm xI (vz 2) vE (vX _)) (yF (tw_cmI JZ (vz 9) (wS 11) (by with_unfolding_all rfl)))))
      (vC<|vQ 10 xt.nd<|vS xN)
      (vC (vZ (tw_w (zS (tw_cm xI (vz 2) vE (vX _)) (yF (tw_cmL (Bh hr.units) (v7 (wg (vT Y (wp 4 (vG (vz 9) vD))))) (v7 (wg 103)) (vX _)))))
      (vC<|vQ 10 xt.nd<|vS xN)
      vY)))))))
      (EF (w':=λ(d:(Z2 q.K)×Bg×Int×(Bd C true)×(OL 55)×(OL (Int×Int))×Int×Int×Str×Int×Str×(OL Int)×Unit) (_:Unit->Prop) (Kr:Bool->Un×Unit->Prop) (_:hO->Un×Unit->Prop)=>((Arr d.2.2.2.1 d.2.2.2.2.2.1.l/\yz d.2.2.2.1 d.2.2.2.2.1.l/\Vr d.2.2.2.2.1.l/\d.2.2.2.2.1.l.length<=35/\(d.2.2.2.2.2.1.l.map (·.1)).Pairwise (·<=·))/\d.2.2.2.2.2.2.2.2.2.2.1=Gb d.2.2.2.2.1.l d.2.2.2.2.2.1.l d.2.2.1 d.2.2.2.2.2.2.2.2.2.1)/\Kr true (#[],())) (by exact(vN (vZ (tw_cm CS (vK (vT J (v0 3 (vG (vz 2) (vG (vz 9) vD))))) (vz 10) (vX _))
      136
      vY)
      (vN (vZ (tw_w (zS (tw_cm xI (vz 10) xN (vX _)) (yF (tw_cm xI (vz 2) vE (vX _)))))
      (vC<|AC (Ts:=["_law_x"]) (Fr:=["_law_cell"]) (idx:=[9]) (k:=1) (mb:=[1]) (is:=[5]) (cl:=[("_law_cell",⇑s+1)]) 5 xt.nd rfl rfl rfl q0q rfl (HX 5 (pv 5) q0q) Vx rfl (xn rfl) (λaa ab C ex pn=>(v8 0 (vO (i:=0) WH rfl<|jX rfl) q0q)) (λaa ab C ex pn=>(tws_one<|tw_cm CS (DD<|vz 0) (vz 1)<|vX _))<|λaa ab C ex pn=>(vz 0))
      vY)
      (vN (vZ (tw_w (zS (tw_cm xI (vz 10) xN (vX _)) (yF (tw_cm xI (vz 2) vE (vX _)))))
      (vC<|Vz 4 (pv 4) Nn (vz 9)<|λh1 h2=>ET h1<|K4 (pv 4) h2 set_list)
      vY)
      (vC (vP (vT P (v0 3 (wp 4 (wp 5 vD)))))))))) (by
   intro d Kn Kr Ke h
   walk_at "wl"
   refine BV λah U=>?_
   obtain⟨⟨⟨A,c,v,r,I⟩,e⟩,k⟩:=h
   have Z:=A.Ml c r
   have rk:∀j,(lk d.2.2.2.1.rk j).isSome=true↔(rowAt d.2.2.2.2.1.l j).isSome=true:=λj=>by rw[c.rk,iJ]
   refine U ?_
   refine#[A.ok,?_]
   show if (lk d.2.2.2.1.rk d.2.2.2.2.2.2.2.2.2.1).isSome=true then (if d.2.2.1=0 then (if (lk d.2.2.2.1.ht d.2.2.2.2.2.2.2.2.2.1).isSome=true then _ else _) else if d.2.2.1=1 then (if wv d.2.2.2.1 d.2.2.2.2.2.2.2.2.2.1=true then _ else if NM d.2.2.2.1 d.2.2.2.2.2.2.2.2.2.1=[] then _ else _) else _) else _
   have an:∀{s:Str},d.2.2.2.2.2.2.2.2.2.2.1=s->decide (s=("done":Str))=false->decide 165=false:=λe n=>XA e n
   by_cases s:(lk d.2.2.2.1.rk d.2.2.2.2.2.2.2.2.2.1).isSome=true
   · have Q := (rk _).mp s
     rw[hI s]
     by_cases R:d.2.2.1=0
     · have L : ¬d.2.2.1 = 1 := by omega
       rw[hI R]
       by_cases t:(lk d.2.2.2.1.ht d.2.2.2.2.2.2.2.2.2.1).isSome=true
       · rw[hI t]
         have t':=(T2 A).mp t
         have e:=e.trans<|Hr Q (λ_=>t') λz=>iv z L
         have ok:decide 165=true:=XA e q0q
         exact wj (ZN e.symm)<|y9 ok<|y9 (decide_eq_true R) ⟨wB (show d.2.2.2.2.2.1.l.length<=1000 by omega),wO (q:=λz=>!decide (z.1=d.2.2.2.2.2.2.2.2.2.1)) (λ_ _ K hK=>hK)<|y9 ok<|wj (io L) #[#[c.same rfl rfl rfl,v,r,A.Ui t',rf (List.filter_sublist.map _) I],k]⟩
       · rw[cr t]
         have e:=e.trans<|XG Q R λz=>t<|(T2 A).mpr z
         have W:=XA (u:=("done":Str)) e (b:=false) q0q
         exact wj (ZN e.symm)<|wj W<|wj rfl<|wj W<|wj rfl #[#[c,v,r,A,I],k]
     · rw[cr R]
       by_cases L:d.2.2.1=1
       · rw[hI L]
         by_cases t:wv d.2.2.2.1 d.2.2.2.2.2.2.2.2.2.1=true
         · rw[hI t]
           have e:=e.trans<|XH Q L<|(DU A).mp t
           have W:=XA (u:=("done":Str)) e (b:=false) q0q
           exact wj (ZN e.symm)<|wj W<|wj rfl<|wj W<|wj rfl #[#[c,v,r,A,I],k]
         · rw[cr t]
           have t':d.2.2.2.2.2.2.2.2.2.1∉Mj d.2.2.2.2.2.1.l:=λz=>t<|(DU A).mpr z
           by_cases o:NM d.2.2.2.1 d.2.2.2.2.2.2.2.2.2.1=[]
           · rw[hI o]
             have e:=e.trans<|Hr Q (λz=>iv z R) λ_=>#[t',by rw[<- c.Ug];exact o]
             have ok:decide 165=true:=XA e q0q
             obtain⟨y,hy⟩:=Option.isSome_iff_exists.mp Q
             have g0:=(vR hy).1
             have v':=ZM v g0<|(NY c).mp o
             have c':=c.take g0
             refine wj (ZN e.symm)<|y9 ok<|wj (io R)<|y9 ok<|y9 (decide_eq_true L) ⟨_,WG hy,⟨c',v',by rw[lm];exact r,A.CA c c' v' rfl rfl λj hj=>?_,I⟩,k⟩
             rw[yA g0,cr λz=>t<|by rw[<- z];exact hj]
           · rw[cr o]
             have e:=e.trans<|XI Q L t' λz=>o (by rw[c.Ug];exact z)
             have W:=XA (u:=("done":Str)) e (b:=false) q0q
             exact wj (ZN e.symm)<|wj W<|wj rfl<|wj W<|wj rfl #[#[c,v,r,A,I],k]
       · rw[cr L]
         have e:=e.trans<|Hr Q (λz=>iv z R) λz=>iv z L
         have ok:decide 165=true:=XA e q0q
         exact wj (ZN e.symm)<|y9 ok<|wj (io R)<|y9 ok<|wj (io L) #[#[c,v,r,A,I],k]
   · rw[cr s]
     have e:=e.trans<|XD λz=>s<|(rk _).mpr z
     have W:=XA (u:=("done":Str)) e (b:=false) q0q
     exact wj (ZN e.symm) (wj W<|wj rfl<|wj W<|wj rfl #[#[c,v,r,A,I],k])
)))))))) (by
   intro d Kn Kr Ke h
   walk_at "wl"
   refine BV λah U=>?_
   obtain⟨⟨A,c,v,r,I⟩,k⟩:=h
   have Z:=A.Ml c r
   have hl:=zk d.2.2.2.2.1.l
   refine U ?_
   refine#[#[c,v,r,A,I],wj rfl<|wF q0q q0q λi i0 i1=>?_]
   refine BV λah U=>?_
   obtain⟨ce,a1,_,_⟩:=xO (l:=[d.2.2.2.2.2.2.1,d.2.2.2.2.2.2.2.1]) i0 (by exact i1)
   refine U ?_
   refine#[ce,a1,(show d.2.2.2.2.2.1.l.length<64 by omega),(show d.2.2.2.2.2.1.l.length<64 by omega),wB (show (d.2.2.2.2.2.1.l.map (·.1)).length+(El (d.2.2.2.2.2.1.l.map (·.2))).length<=1000 by rw[Tq,h8,h8];omega),(show d.2.2.2.2.1.l.length<1000 by omega),?_]
   have ao:∀{n:Int},d.2.2.1=n->n≠1->decide (d.2.2.1=1)=false:=λe n=>io (by rw[e];exact n)
   by_cases s:ce∈B2 d.2.2.2.2.1.l
   · have Q := w9.mp s
     refine wj (Tr s) ?_
     by_cases L:d.2.2.1=1
     · have n0 : d.2.2.1 ≠ 0 := by omega
       refine wj (io n0)<|wj rfl<|y9 (decide_eq_true L) ?_
       by_cases b:ce∈Mj d.2.2.2.2.2.1.l
       · exact y9 (decide_eq_true b) #[#[#[A, c, v, r, I], (XH Q L b).symm], k]
       · refine wj (io b) (y9 (decide_eq_true L) #[(show d.2.2.2.2.1.l.length<1000 by omega), ?_])
         by_cases o:Ug d.2.2.2.2.1.l ce=[]
         · exact wj (by rw[decide_eq_true o]; rfl) #[#[#[A, c, v, r, I], (Hr Q (λz => iv z n0) λ_ => #[b, o]).symm], k]
         · exact y9 (by rw[io o]; rfl) #[#[#[A, c, v, r, I], (XI Q L b o).symm], k]
     · have go : d.2.2.1 = 0 -> ce ∈ d.2.2.2.2.2.1.l.map (·.1) -> _ := λ_ t => (Hr (a := d.2.2.2.2.2.1.l) (w := d.2.2.1) Q (λ_ => t) λz => iv z L).symm
       by_cases R:d.2.2.1=0
       · refine y9 (decide_eq_true R) #[(show d.2.2.2.2.2.1.l.length<64 by omega), ?_]
         by_cases t:ce∈d.2.2.2.2.2.1.l.map (·.1)
         · exact wj (Tr t)<|wj (io L)<|wj rfl<|wj (io L)<|wj rfl #[#[#[A, c, v, r, I], go R t], k]
         · exact y9 (mmn t) #[#[#[A, c, v, r, I], (XG Q R t).symm], k]
       · exact wj (io R)<|wj rfl<|wj (io L)<|wj rfl<|wj (io L)<|wj rfl ⟨⟨⟨A, c, v, r, I⟩, (Hr Q (λz => iv z R) λz => iv z L).symm⟩, k⟩
   · exact y9 (mmn s) #[#[#[A, c, v, r, I], (XD λz => s<|w9.mpr z).symm], k]
)))))))))) λp Kn Ke h=>?_
  walk_at "wl"
  have h:Kn true (#[],()):=h
  refine ZL<|wF q0q q0q λo o0 o1=>#[#[q0q,q0q],λx g a c v r A I=>?_]
  have Z:=A.Ml c r
  have sl:hZ=16777216:=jt
  refine#[#[v,r,Z.2.2],λG D=>#[A.ok,?_]]
  have rk:∀k,(lk x.rk k).isSome=true↔(rowAt g k).isSome=true:=λk=>by rw[c.rk,iJ]
  show if (lk x.rk G).isSome=true then (if (lk x.rk D).isSome=true then (if G∈yg x D then (if wv x G=true\/wv x D=true then _ else _/\(_->_)) else _) else _) else _
  by_cases s1:(lk x.rk G).isSome=true
  · rw[hI s1]
    by_cases s2:(lk x.rk D).isSome=true
    · rw[hI s2]
      have e0:¬¬((rowAt g G).isSome=true/\(rowAt g D).isSome=true):=λz=>z #[(rk G).mp s1,(rk D).mp s2]
      by_cases hb:G∈yg x D
      · rw[hI hb]
        have e1:¬G∉eb g D:=λz=>z (by rw[<- c.yg];exact hb)
        by_cases t:wv x G=true\/wv x D=true
        · rw[hI t]
          have e2:G∈Mj a\/D∈Mj a:=t.imp (DU A).mp (DU A).mp
          exact#[#[r,Z.2.2],wj (Tr<|by show ("Tied":Str)∈Do g a G D;unfold Do;rw[cr e0,cr e1,hI e2];exact .head _)<|wj q0q #[#[A,c,v,r,I],h]]
        · rw[cr t]
          have e2:¬(G∈Mj a\/D∈Mj a):=λz=>t<|z.imp (DU A).mpr (DU A).mpr
          have t1:wv x G=false:=by cases q:wv x G with|true=>exact iv (.inl q) t|false=>rfl
          have t2:wv x D=false:=by cases q:wv x D with|true=>exact iv (.inr q) t|false=>rfl
          refine#[#[#[r,Z.2.2],wj (Tr<|by show ("RingOfArrows":Str)∈Do g a G D;unfold Do;rw[cr e0,cr e1,cr e2];exact .tail _<|.head _)<|wj q0q ⟨⟨A,c,v,r,I⟩,h⟩],λac=>#[#[r,Z.2.2],wj (Tr<|by show ("done":Str)∈Do g a G D;unfold Do;rw[cr e0,cr e1,cr e2];exact .head _)<|y9 q0q ⟨by show a.length+1<=hZ;omega,by show (a++[(G,D)]).length<64;rw[iw];simp only[iI];omega,λps hp aj=>#[#[?_,c.same rfl rfl rfl,v,r,To aj],h]⟩]]
          have m:G∈eb g D:=nZ e1
          obtain⟨y,hy⟩:=Option.isSome_iff_exists.mp<|(rk D).mp s2
          rw[yS hy]at m
          exact(A.add c r s1 s2 hb t1 t2 (tY ((v.ok D y.1 y.2 hy).2.2.2.1 G m).1) ac).perm hp.symm
      · rw[cr hb]
        have e1:G∉eb g D:=λz=>hb (by rw[c.yg];exact z)
        exact#[#[r,Z.2.2],wj (Tr<|by show ("NotFace":Str)∈Do g a G D;unfold Do;rw[cr e0,hI e1];exact .head _)<|wj q0q #[#[A,c,v,r,I],h]]
    · rw[cr s2]
      exact#[#[r,Z.2.2],wj (Tr<|by show ("NoCell":Str)∈Do g a G D;unfold Do;rw[hI λz=>s2<|(rk D).mpr z.2];exact .head _)<|wj q0q #[#[A,c,v,r,I],h]]
  · rw[cr s1]
    exact#[#[r,Z.2.2],wj (Tr<|by show ("NoCell":Str)∈Do g a G D;unfold Do;rw[hI λz=>s1<|(rk G).mpr z.1];exact .head _)<|wj q0q #[#[A,c,v,r,I],h]]
end
section
variable{P:iT}{w:ji}{K:hJ}{mg:Str->Option hR}{base:jd}
def T4:vJ ["_law_bag_here","_law_many","_law_seed","_law_mixed","_law_drawn"] ["_law_bag_here","_law_many"] (vA Mg):=133
def WI(F:zA K "_law_pull" "_law_pull" Mg f I)(c:mg "len"=none):wn P w K mg base QC 1 f I ["_law_bag_here","_law_many"] WL.Ri:=by
 refine F.ok T4 (λJ H Q E h=>?_)<|λL A p s H J Q E N h=>?_
 ·obtain⟨g,q,m,i,z,s,e,rfl,_⟩:=h;rfl
 ·obtain⟨g,q,m,i,z,j,e,rfl,B,d,v,k⟩:=h;have l:=T4.nd
  refine#[_,wK (MZ (yC WY 74 v4 (vX _))
    (wK (Uq (pv 0) v4 QN v4 X7 set_list)
    (wK (zN (i:=2) l rfl (jX rfl) 74)
    (wK (MZ (yC WY 74 (xk yb (by rfl) c mY (vI 74 vU)) (vX _))
     (xS (zN (i:=2) l rfl (jX rfl) (zb xu 74 (xz EX 74 v4) (λ_ _=>rfl)))) An)
    (wK (MZ (WQ (yC WZ 74 (xk yb (by rfl) c mY (vI 74 vU)) (vX _)) (P5 (yC WX (pv 2) (xz Yd v4 v4) (vX _)))).pt
     (wK (zN (i:=3) l rfl (jX rfl) (xz Dt (xz zO (xz zO (xz Ci (pv 2) v4) (xz Ci 74 v4)) v4) v4))
     (wK (zN (i:=3) l rfl (jX rfl) (xz Dt (xz Ci (pv 3) (pv 3)) v4))
     (xS (Ce (xz Dt (xz M0 (xz Dt (xz Ci (xz zO (pv 3) 74) v4) v4) v4) (pv 1)))))) An)
    (xS (ET (pv 2) (K4 (pv 0) v4 set_list))))))) An)
   (wK (zN (i:=4) l rfl (jX rfl) (xz Dt 74 (pv 1)))
   (wK (ET (xz M0 74 (pv 1)) (K4 (pv 0) v4 set_list))
   (xS (Ce (pv 4))))),?_]
  refine#[_,rfl,g,_,_,_,rfl,rfl,wR.of B.ob,Rh _ _ _ _,_,_,rfl,rfl,_,rfl,?_];refine UE (λ_=>?_)<|λ_=>?_
  ·-- r[1] += 1;x=r[3]
   refine#[_,rfl,g,_,_,_,rfl,rfl,B.ob,q0q,rfl,_,_,rfl,rfl,g,_,_,1,rfl,rfl,B.ob,rfl,?_];have a:Ea (upd H g<|.lst<|Gr q (i+1) z j) g q m (i+1) z j:=B.put (by have:=B.i0;lia);refine⟨_,rfl,g,_,_,_,rfl,rfl,wR.of a.ob,a3h _ _ _ _,?_⟩;refine⟨_,rfl,g,_,_,_,rfl,rfl,wR.of a.ob,Rf _ _ _ _,_,rfl,g,_,_,_,rfl,rfl,wR.of a.ob,Y2 _ _ _ _,q,_,rfl,.inl<|wR.of a.sc,_,_,rfl,rfl,_,rfl,?_⟩;have b:=a;refine' cutG (α:=Int) (G:=_) (λy=>UE (λC=>?_)<|λC=>?_) ?_
   rotate_left
   ·have t:i+1<=((m.map V.int).length:Int):=kQ C;rw[h8]at t;obtain⟨n,M⟩:=U9 (ns:=m) (i:=i+1-1) (by have:=B.i0;lia) q0a;refine#[_,rfl,g,_,_,_,rfl,rfl,wR.of a.ob,Y2 _ _ _ _,_,rfl,g,_,_,_,rfl,rfl,wR.of a.ob,Rf _ _ _ _,_,_,rfl,rfl,q,_,_,_,rfl,rfl,wR.of a.sc,M,?_];exact y n
   ·exact y j
   ·intro n;refine#[_,rfl,g,_,_,_,rfl,rfl,wR.of a.ob,Rf _ _ _ _,_,rfl,g,_,_,_,rfl,rfl,wR.of a.ob,Y2 _ _ _ _,q,_,rfl,.inl<|wR.of a.sc,_,_,rfl,rfl,_,rfl,?_];refine' cutP (G:=_) (λD=>UE (λ_=>a2T D)<|λ_=>?_) ?_
    ·refine#[_,rfl,_,_,rfl,rfl,#[q0q,q0q,q0q],_,_,rfl,rfl,_,rfl,?_];refine UE (λ_=>D)<|λ_=>?_;refine#[_,rfl,_,rfl,g,_,_,2,rfl,rfl,a.ob,rfl,?_];have b:=a.put (z':=n) a.i0;have u:=(Kp.at (g:=g) (H:=H) (o:=.lst<|Gr q (i+1) z j)).trans<|Kp.at (o:=.lst<|Gr q (i+1) n j);refine#[_,rfl,g,_,_,_,rfl,rfl,wR.of b.ob,Rh _ _ _ _,_,rfl,_,_,rfl,rfl,d,?_];refine#[_,rfl,g,_,_,_,rfl,rfl,wR.of b.ob,Rh _ _ _ _,_,rfl,_,_,rfl,rfl,#[d,v],_,rfl,g,_,_,2,rfl,rfl,b.ob,rfl,?_];exact#[_,rfl,k _ _ _ _ (u.trans Kp.at) (b.put b.i0) (rV _ q0a)<|qJ _ d]
    ·refine#[_,rfl,_,_,rfl,rfl,.inr #[q0q,q0q],_,rfl,g,_,_,_,rfl,rfl,wR.of a.ob,Rf _ _ _ _,_,_,rfl,rfl,.inr #[q0q,q0q],_,_,rfl,rfl,_,_,rfl,rfl,_,_,rfl,rfl,(by show (0:Int)<2147483647;decide),?_];refine#[_,rfl,_,rfl,_,_,rfl,rfl,.inl<|a0Z _,_,_,rfl,rfl,(by show (0:Int)<2147483629;decide),?_];refine#[_,rfl,_,rfl,g,_,_,_,rfl,rfl,wR.of a.ob,Rf _ _ _ _,_,_,rfl,rfl,_,_,rfl,rfl,.inr #[q0q,q0q],_,_,rfl,rfl,(by show (0:Int)<998244353;decide),_,_,rfl,rfl,#[q0q,q0q],_,rfl,_,_,rfl,rfl,d,?_];exact k _ _ _ _ Kp.at a (rV _ q0a)<|qJ _ d
  ·have b:=B;have u:=Kp.refl g H;refine#[_,rfl,g,_,_,_,rfl,rfl,wR.of b.ob,Rh _ _ _ _,_,rfl,_,_,rfl,rfl,d,?_];refine#[_,rfl,g,_,_,_,rfl,rfl,wR.of b.ob,Rh _ _ _ _,_,rfl,_,_,rfl,rfl,#[d,v],_,rfl,g,_,_,2,rfl,rfl,b.ob,rfl,?_];exact#[_,rfl,k _ _ _ _ (u.trans Kp.at) (b.put b.i0) (rV _ q0a)<|qJ _ d]
def Oa:vJ ["_law_script","_law_salt","_law_one"] ["_law_script"] (vA T1):=133
def a3L(a:List Int)(b c:Option Int):∃d:List Int,E5 (a.map V.int) b c=d.map V.int:=by unfold E5;exact#[_,by rw[<- List.map_drop,<- List.map_take]]
def ZP(F:zA K "_law_bag" "_law_bag" T1 f U)(m:mg "len"=none)(g:mg "list"=none):wn P w K mg base QC 1 f U ["_law_script"] (WL.Xp K):=by
 refine F.ok Oa (λX H Q E h=>?_)<|λY A B s H X Q E hr h=>?_
 ·obtain⟨a,N,rfl,_⟩:=h;rfl
 ·obtain⟨a,N,rfl,C,k⟩:=h
  refine#[_,wK (zN (i:=1) Oa.nd rfl (jX rfl) (xk yb (by rfl) m mY (vI (A4 Et (pv 0) Er (Es v4)) vU)))
   (wK (P9 PassesOwn.never rfl (Hu (A4 Et (pv 0) Er (Es v4))) (vO (i:=2) Oa.nd)
    (xS (zN (i:=1) Oa.nd rfl (jX rfl) (xz Dt (xz zO (xz Ci (pv 1) v4) (pv 2)) v4))))
   (xS (Ce (Qh (vI (yk zf rfl g kB (vI (A4 Et (pv 0) Er (Es v4)) vU)) (vI v4 (vI v4 (vI (pv 1) vU)))))))),?_]
  obtain⟨b,j⟩:=a3L N none<|some 63;refine⟨_,rfl,63,rfl,a,_,rfl,C,λp Z=>?_⟩;rw[j];have O:Ej H (upd H p<|.lst<|b.map V.int):=Bi Z;refine⟨p,_,rfl,.inl<|wR.of vF,?_⟩;refine⟨_,rfl,63,rfl,a,_,rfl,O.seq C,λn D=>?_⟩;rw[j];have s2:Ej (upd H p<|.lst<|b.map V.int) (upd (upd H p<|.lst<|b.map V.int) n<|.lst<|b.map V.int):=Bi D;have c:=O.trans s2;generalize G:upd (upd H p<|.lst<|b.map V.int) n (.lst<|b.map V.int)=H2 at c;have q:H2 n=↑(.lst<|b.map V.int):=by rw[<- G];exact vF
  refine#[n,rfl,#[_,wR.of q],Qa (K:=K) (a:=n) (xs:=b.map V.int) (λi u x=>x=H2/\∃(r:Int)(v:Option V),u=[some<|.ref a,some<|.int r,v]) ⟨rfl,_,none,rfl⟩ (λi u x _ z9=>e0a2 z9 λe _=>by rw[e];exact wR.of q) ?_ ?_]
  ·rintro i y u x d ⟨rfl,r,v,rfl⟩
   obtain⟨z,rfl⟩:∃z,y=V.int z:=by
    rw[jU]at d
    cases e:b[i]? with
    |none=>rw[e]at d;cases d
    |some z=>rw[e]at d;exact#[z,(jp d).symm]
   exact#[_,rfl,_,_,rfl,rfl,.inr #[q0q,q0q],_,rfl,_,_,rfl,rfl,_,_,rfl,rfl,(by show (0:Int)<1000003;decide),rfl,_,_,rfl]
  ·rintro u x ⟨rfl,r,v,rfl⟩;refine#[_,rfl,63,rfl,a,_,rfl,c.seq C,λp3 I=>?_];rw[j];refine#[p3,_,rfl,.inl<|wR.of vF,λJ t=>#[_,rfl,(by decide:4<=hZ),λR l=>?_]];have L:=Bi (o:=.lst<|b.map V.int) I;have S:=Bi (o:=.lst<|b.map V.int) t;have T:=Bi (o:=.lst<|Gr J 0 0 r) l;have M:J≠R:=vM vF l;refine k _ R J b r (((c.trans L).trans S).trans T) #[vF,T _ _ vF,oT _,M] ?_ ?_
   ·exact(((c.trans L).trans S).free l)
   ·exact((c.trans L).free t)
end
section
variable{q:Cq}{XL:hO}
noncomputable abbrev MO:iK:=BY (top 23) 1
def WJ:yi Ed Ed (vA MO):=by walk_at "ss"
noncomputable abbrev Gc:iK:=BY (top 23) 4
def PM:yi zF zF (vA Gc):=by walk_at "ss"
noncomputable abbrev Jk:iK:=BY (top 23) 8
def T5:yi zH zH (vA Jk):=by walk_at "ss"
noncomputable abbrev AR:iK:=BY (top 23) 9
def GF:yi xm xm (vA AR):=by walk_at "ss"
noncomputable abbrev DV:iK:=BY (top 23) 7
def MP:yi yR yR (vA DV):=by walk_at "ss"
abbrev DW:iK:=BY (top 23) 5
def MQ:yi yQ yQ (vA DW):=by walk_at "ss"
abbrev DX:iK:=BY (top 23) 3
def MR:yi yP yP (vA DX):=by walk_at "ss"
abbrev Jl:iK:=BY (top 23) 6
def T6:yi zI zI (vA Jl):=by walk_at "ss"
noncomputable abbrev Jm:iK:=BY (top 23) 2
def KN:yi BB BB (vA Jm):=by walk_at "ss"
def WK{f:hO}{fd:iY}{k:Nat}(F:C8 q.P q.K C "put" "Field.put" MO f fd)(G:Fs q.P q.w q.K q.mg q.base C "put" Ed (zh q.T<|Ku) k):Gq q (k+1) f fd Ed (Ku) :=
 yL (m:="put") (ta:=(B3 (v9 1)<|B3 (v9 2) Cn)) F WJ rfl rfl 146 G (λya cc A outer s H E=>(vI (pv 1)<|vI (pv 2) vU)) (λa r H Q hl h=>by obtain⟨u1,u2,rfl⟩:=lx2 r<|oU hl;exact⟨u1,rfl,u2,rfl,h⟩) (λf2 env h=>cw_cons h)
def PN{f:hO}{fd:iY}{k:Nat}(F:C8 q.P q.K C "cells" "Field.cells" Gc f fd)(G:Fs q.P q.w q.K q.mg q.base C "cells" zF (zh q.T<|EJ) k):Gq q (k+1) f fd zF (EJ) :=
 yL (m:="cells") (ta:=Cn) F PM rfl rfl 146 G (λya cc A outer s H E=>vU) (λa r H Q hl h=>by obtain rfl:=lx0 r<|oU hl;exact h) (λf2 env h=>cw_nil h)
def T7{f:hO}{fd:iY}{k:Nat}(F:C8 q.P q.K C "over" "Field.over" Jk f fd)(G:Fs q.P q.w q.K q.mg q.base C "over" zH (zh q.T<|Iu) k):Gq q (k+1) f fd zH (Iu) :=
 yL (m:="over") (ta:=(B3 (v9 1) Cn)) F T5 rfl rfl 146 G (λya cc A outer s H E=>(vI (pv 1) vU)) (λa r H Q hl h=>by
  match r,hl with
  | [u1],_=>exact#[u1,rfl,h]) (λf2 env h=>cw_cons h)
def GG{f:hO}{fd:iY}{k:Nat}(F:C8 q.P q.K C "border_of" "Field.border_of" AR f fd)(G:Fs q.P q.w q.K q.mg q.base C "border_of" xm (zh q.T<|yO) k):Gq q (k+1) f fd xm (yO) :=
 yL (m:="border_of") (ta:=(B3 (v9 1) Cn)) F GF rfl rfl 146 G (λya cc A outer s H E=>(vI (pv 1) vU)) (λa r H Q hl h=>by obtain⟨u1,rfl⟩:=lx1 r<|oU hl;exact⟨u1,rfl,h⟩) (λf2 env h=>cw_cons h)
def MS{f:hO}{fd:iY}{k:Nat}(F:C8 q.P q.K C "border" "Field.border" DV f fd)(G:Fs q.P q.w q.K q.mg q.base C "border" yR (zh q.T<|Bv) k):Gq q (k+1) f fd yR (Bv) :=
 yL (m:="border") (ta:=(B3 (v9 1) Cn)) F MP rfl rfl 146 G (λya cc A outer s H E=>(vI (pv 1) vU)) (λa r H Q hl h=>by obtain⟨u1,rfl⟩:=lx1 r<|oU hl;exact⟨u1,rfl,h⟩) (λf2 env h=>cw_cons h)
def MT{k:Nat}(F:C8 q.P q.K C "coming" "Field.coming" DW f c)(G:Fs q.P q.w q.K q.mg q.base C "coming" yQ (zh q.T<|Dg) k):Gq q (k+1) f c yQ (Dg) :=
 yL (m:="coming") (ta:=Cn) F MQ rfl rfl 146 G (λd i A b s H E=>vU) (λa r H Q e h=>by
  match r,e with
  | [],_=>exact h) (λj g h=>cw_nil h)
def MU{k:Nat}(F:C8 q.P q.K C "stands" "Field.stands" DX f c)(G:Fs q.P q.w q.K q.mg q.base C "stands" yP (zh q.T<|Df) k):Gq q (k+1) f c yP (Df) :=
 yL (m:="stands") (ta:=(B3 (v9 1) Cn)) F MR rfl rfl 146 G (λd j A b s H E=>(vI (pv 1) vU)) (λa r H Q e h=>by
  match r,e with
  | [g],_=>exact#[g,rfl,h]) (λl i h=>cw_cons h)
def T8{k:Nat}(F:C8 q.P q.K C "rank" "Field.rank" Jl f c)(G:Fs q.P q.w q.K q.mg q.base C "rank" zI (zh q.T<|Dh) k):Gq q (k+1) f c zI (Dh) :=
 yL (m:="rank") (ta:=(B3 (v9 1) Cn)) F T6 rfl rfl 146 G (λd j A b s H E=>(vI (pv 1) vU)) (λa r H Q e h=>by
  match r,e with
  | [g],_=>exact#[g,rfl,h]) (λl i h=>cw_cons h)
def T9{f:hO}{fd:iY}(F:C8 q.P q.K C "take" "Field.take" Jm f fd)(ct:Bl q.K C)(ZQ:Xc q.K q.mg "Tied" XT)(yh:wP q 7)(PP:Hm q 7)(G:Fs q.P q.w q.K q.mg q.base C "take" BB (zh q.T<|FQ) 7):Gq q 8 f fd BB (IL):=by
 refine' vL (a1h (A:=B0×Int×Unit) (PO:=B0×WL.Un×Unit) (ms:=[0]) (wu q0q) F KN rfl λya cc A outer s H E D hr =>
  Xr (wA<|vK<|wL 0 yh 79 (hx:=Rz))
   (Xr (vZ (tw_val (vK (wL 0 PP 79 (hx:=Rz)))) (vC (Y8 ZQ)) vY)
    (Vw (m:="take") (ta:=B3 (v9 1) Cn) D KN rfl 146 G hr (vI (pv 1) vU) (λa r H Q hl h=>by
     match r,hl with
     | [u],_=>exact#[u,rfl,h]) (λf2 env h=>cw_cons h)))) λp Kn Ke h=>?_
 walk_at "wl"
 obtain⟨ok,h⟩:=h;show if (70).isSome=true then (if wv p.1 p.2.1=true then Ke XT 67 else FQ (p.1,p.2) (λx p=>Kn () p) Ke) else Ke XC 67;exact h
noncomputable abbrev Jn:iK:=BY (top 23) 0
def Ua:yi ["self"] ["self"] (vA Jn):=by walk_at "ss"
def Ub{k:Nat}(F:C8 q.P q.K C "__init__" "Field.__init__" Jn f b)(c:Bl q.K C)(d:PZ q.K C)(G:Fs q.P q.w q.K q.mg q.base C "__init__" ["self"] (Ig C) k):wn q.P q.w q.K q.mg q.base (wh q.P q.w) (k+1) f b ["self"] (EG C) :=
 RI (p3:=#[0,0,0,0]) (p4:=#[0,0,0,0]) F Ua c d 146 rfl G (λ_=>rfl) λe g A a s H E=>wK (Du (pv 0) A9 rfl)<|xS<|Du (pv 0) A9 rfl
end
abbrev Ob:List hR:=[.type "ValueError",.type "Exception",.type "BaseException",.type "object"]
abbrev AS:iK:=BY (top 13) 0
abbrev MV:iK:=BY (top 21) 0
def WM:vJ ["self"] ["self"] (vA MV):=133
def Uc:yi ["self","ring"] ["self","ring"] (vA AS):=#[rfl,rfl,rfl,q0s,rfl,q0s,q0s,q0s,rfl,rfl]
def WN{K:hJ}(F:zA K "__init__" "Body.__init__" MV f fd)(ct:Bl K C):wn P w K mg base (wh P w) 1 f fd ["self"] (Ig C) :=
 Vq F WM ct λb A a s H E=>wK (Du (pv 0) A9 rfl)<|wK (Du (pv 0) A9 rfl)<|xS<|Du (pv 0) v4 rfl
section
variable{P:iT}{K:hJ} 
structure Mx(P:iT)(K:hJ)(C:hO)(m q:Str)(st:iK):Prop where
 ex:∃f fd,Meth K C m f/\∃(oc:hR)(od:Option hO)(kV doc pm:hR)(an:Option hO)(ya cc:hO)(ct:hR) (OB:Array (Option hR)) (ocD:hR) (odD:Option hO) (vsD:Array hR) (slD:Array (Option hR)) (file:Str) (tf:Tok) (occ:hR) (odc:Option hO) (slc:Array (Option hR)),
  fd=k8 m q (wH st) (wm st) (vA st) [85] .none kV doc pm an (.ref ya) ct/\K.lookup f=some #[oc,od,.func fd,OB]/\jM K (.ref ya) q=true/\jA K (.ref f)=true/\K.lookup ya=some #[ocD,odD,.fields vsD,slD]/\vsD[2]?=↑(.str file tf)/\((P.main.file:Str)==file)=true/\K.lookup cc=some #[occ,odc,.cell<|some<|.ref C,slc]
def a1K{st:iK}{g:hR}(a:iL K (.ref C) m=↑(some<|.ref f))(i:oW K (.ref f)=true)
 (l:K.lookup f=some #[z,od,.func<|k8 m q (wH st) (wm st) (vA st) [("__class__",h)] .none g j pm A (.ref b) ct,n])(c:jM K (.ref b) q=true)(k:jA K (.ref f)=true)(o:K.lookup b=some #[p,r,.fields d,s])(t:d[2]?=↑(.str file B))(u:((P.main.file:Str)==file)=true)(v:K.lookup h=some #[w,x,.cell<|some<|.ref C,y]):Mx P K C m q st :=
  #[_,_,#[a,i,k],_,_,_,_,_,_,_,_,_,_,_,_,_,_,_,_,_,_,_,rfl,l,c,k,o,t,u,v]
structure Sx(K:hJ)(C:hO)(m q:Str)(st:iK):Prop where
 ex:∃f fd,Sm K C m f/\zA K m q st f fd
def a1L{st:iK}{d:hR}(a:kq K C C m=↑(some<|.ref f))(ty:pA K (.ref f)=↑(.type "function"))(fn:mS K f=true)
 (l:K.lookup f=some #[h,od,.func<|jS m q (wH st) (wm st) (vA st) .none d e pm i b ct,g])(c:jM K b q=true)(k:jA K (.ref f)=true):Sx K C m q st:=#[_,_,#[a,ty,fn],E9 l c k]
def Mx.fx{st:iK}(M:Mx P K C m q st)(cl:∃s,ni K C=↑s)(sub:lh K C (.ref C)=↑true)(g:iC K rQ "thirdparty.any"=↑none)(top:(P.main.scope.names.lookup ("super":Str)).isSome=false)(h:((wH st).posonlyargs++(wH st).args).head?=↑p)(hs:p.arg="self")(ps:List Str)
 (b:∀(i d j:hR)(n:Option hO)(e o:hO)(ct:hR)(us:List hR),us.length=ps.length->tH (k8 m q (wH st) (wm st) (vA st) [("__class__",o)] .none i d j n (.ref e) ct) #[us,[]]=pure (ps.zip us)):∃f fd,Meth K C m f/\C8 P K C m q st f fd/\Binds K fd ps []:=by
  obtain⟨f,fd,t,H,I,i,d,j,n,e,o,ct,u,v,w,x,y,r,J,z,A,B,rfl,l,c,k,D,E,F,G⟩:=M.ex
  exact#[f,_,t,#[#[_,_,_,_,_,_,_,_,_,_,rfl,l,c,#[#[_,_,_,_,p,l,h,hs],#[_,_,_,_,_,_,D,E,F],#[_,_,_,G],cl,sub,g,top]],k],.all<|b i d j n e o ct]
end
set_option tactic.hygienic true in
def WO{K:hJ}(X:K.In h)(e:vh K N=true)(q:iC K N x=↑(some v)):h.nsMap N x=↑v:=by
 obtain⟨o,k,l,b,f,_,g⟩:=Heap.Ns.of_isNs<|qi X e;unfold iC at q;split at q
 ·rename_i c d i m n z
  have a:=X _ _ z;rw[b]at a;cases a;cases f;split at q
  ·rename_i p j
   cases q;rw[<- g];unfold nsFind findBy;rw[<- uj,j];rfl
  ·split at q<;>cases q
 ·cases q
def all_mk{l:qW}{K:hJ}{fY:Nat}{fM:List hR}{fZ:Bool}(X:K.In h)(G:h.Ns iA mg)(f0:mg "law"=↑(.ref fa))
 (a1:iC K iA "is_sum"=↑(some<|.ref f1))
 (l1:K.lookup f1=some #[gJ,gK,.func<|jS "is_sum" "is_sum" (wH xQ) (wm xQ) (vA xQ) .none gL gM gN gO (.ref c) gP,gQ])
 (c1:jM K (.ref c) "is_sum"=true)
 (k1:jA K (.ref f1)=true)
 (lc:K.lookup c=some #[gR,gS,.fields f3,gT])
 (ev:f3[11]?=↑(.ref c9))
 (f4:K.lookup c9=none)
 (aL:iC K iA "law"=↑(some<|.ref fL))
 (lL:K.lookup fL=some #[gU,gV,.func<|jS "law" "law" (wH Ds) (wm Ds) (vA Ds) .none f5 f6 f7 f8 fS f9,gW])
 (cL:jM K fS "law"=true)
 (kL:jA K (.ref fL)=true)
 (Q:Dq K "must_be_sum" FP)
 (da:Dq K "total" Ir)
 (A:Dq K "row_from_first" yx)
 (eV:Dq K "_law_bag" T1)
 (d5:Dq K "_law_pull" Mg)
 (d6:Dq K "_law_rank" Mm)
 (d7:Dq K "_law_join" Mo)
 (d8:Dq K "_law_here" Ms)
 (d9:Dq K "_law_some" Mu)
 (ea:Dq K "_law_edge" Mw)
 (dc:Dq K "_law_whole" IS)
 (eW:Dq K "_law_row" s_row)
 (ec:Dq K "_law_same" s_same)
 (dd:Dq K "_law_stock" IV)
 (bA:Dq K "_law_edge_by" DS)
 (ed:Dq K "_law_rows" MB)
 (ee:Dq K "_law_fill" MD)
 (ef:Dq K "_law_ties" MF)
 (de:Dq K "_law_house" I0)
 (cE:Dq K "_law_tails" F8)
 (df:Dq K "_law_heads" Jb)
 (aX:Dq K "_law_tie_told" Cy)
 (aj:Dq K "_law_other_told" AK)
 (eX:Dq K "_law_due" TN)
 (eY:Dq K "_law_two" TR)
 (dg:Dq K "_law_truth" Je)
 (ak:Dq K "_law_cells_kept" AO)
 (dh:Dq K "_law_pairs" Jh)
 (eg:Dq K "_law_kept" MK)
 (eh:Dq K "_law_over" MM)
 (aC:iC K iA "Field"=↑(some<|.ref C))
 (al:Mq K C "must_stand" "Body.must_stand" AG)
 (aO:Mq K C "must_hold" "Body.must_hold" Bx)
 (D:Mq K C "must_have_rank" "Body.must_have_rank" yu)
 (bB:Mq K C "is_tied" "Field.is_tied" DL)
 (di:Mq K C "steps" "Field.steps" IE)
 (dj:Mq K C "tails" "Field.tails" IG)
 (cH:Mq K C "arrows" "Field.arrows" FV)
 (bC:Mq K C "head_of" "Field.head_of" DN)
 (dm:Mq K C "untie" "Field.untie" II)
 (aP:Mq K C "ring_with" "Field.ring_with" BC)
 (eZ:Mq K C "tie" "Field.tie" SS)
 (bD:Mq K C "tail_of" "Field.tail_of" DQ)
 (e0:Mx l.prog K C "put" "Field.put" MO)
 (e1:Sx K C "put" "Body.put" Ss)
 (dq:Mx l.prog K C "cells" "Field.cells" Gc)
 (dr:Sx K C "cells" "Body.cells" Iy)
 (ei:Mx l.prog K C "over" "Field.over" Jk)
 (ej:Sx K C "over" "Body.over" Iz)
 (aQ:Mx l.prog K C "border_of" "Field.border_of" AR)
 (aR:Sx K C "border_of" "Body.border_of" BA)
 (cJ:Mx l.prog K C "border" "Field.border" DV)
 (cP:Sx K C "border" "Body.border" FU)
 (cQ:Mx l.prog K C "coming" "Field.coming" DW)
 (cR:Sx K C "coming" "Body.coming" FT)
 (cU:Mx l.prog K C "stands" "Field.stands" DX)
 (cV:Sx K C "stands" "Body.stands" FS)
 (ek:Mx l.prog K C "rank" "Field.rank" Jl)
 (el:Sx K C "rank" "Body.rank" IA)
 (em:Mx l.prog K C "take" "Field.take" Jm)
 (en:Sx K C "take" "Body.take" L5)
 (aY:Mx l.prog K C "__init__" "Field.__init__" Jn)
 (aZ:Sx K C "__init__" "Body.__init__" MV)
 (pg:m7 K C Str.empty=true)
 (hd:ol K C=true)
 (po:qu K C=true)
 (sa:iL K (.ref C) "__setattr__"=↑106)
 (mk:qS K C=true)
 (kc:jA K (.ref C)=true)
 (nR:iL K (.ref C) "ranks"=↑none)
 (nB:iL K (.ref C) "borders"=↑none)
 (nU:iL K (.ref C) "upcoming"=↑none)
 (nH:iL K (.ref C) "head_by_tail"=↑none)
 (nT:iL K (.ref C) "tail_by_head"=↑none)
 (c7:ni K C=↑gX)
 (c8:lh K C (.ref C)=↑true)
 (R:iC K rQ "thirdparty.any"=↑none)
 (S:(l.prog.main.scope.names.lookup ("super":Str)).isSome=false)
 (bE:iC K iA "NotASum"=↑(some<|.ref XS))
 (bF:jE K XS Ob "ValueError.__new__"=true)
 (aE:iC K iA "NoCell"=↑(some<|.ref XC))
 (cX:jE K XC Ob "ValueError.__new__"=true)
 (aS:iC K iA "OtherRank"=↑(some<|.ref XO))
 (aT:jE K XO Ob "ValueError.__new__"=true)
 (bG:iC K iA "BadRank"=↑(some<|.ref XB))
 (bH:jE K XB Ob "ValueError.__new__"=true)
 (an:iC K iA "OpenBorder"=↑(some<|.ref XP))
 (ao:jE K XP Ob "ValueError.__new__"=true)
 (eo:iC K iA "Full"=↑(some<|.ref XF0))
 (ep:jE K XF0 Ob "ValueError.__new__"=true)
 (T:iC K iA "Covered"=↑(some<|.ref XV))
 (bI:jE K XV Ob "ValueError.__new__"=true)
 (U:iC K iA "NotFace"=↑(some<|.ref XF))
 (bJ:jE K XF Ob "ValueError.__new__"=true)
 (aV:iC K iA "Tied"=↑(some<|.ref XT))
 (er:jE K XT Ob "ValueError.__new__"=true)
 (Y:iC K iA "NotTied"=↑(some<|.ref XN))
 (bK:jE K XN Ob "ValueError.__new__"=true)
 (aq:iC K iA "MOST_CELLS"=↑(some<|.int 120 dV))
 (a0:iC K iA "TOP_RANK"=↑(some<|.int 12 eI))
 (fK:iC K iA "RingOfArrows"=↑(some<|.ref XR))
 (gY:iC K iA "BodyError"=↑(some<|.ref XE))
 (lB:K.lookup XR=↑(jT gZ qB XR ff g4 (.ref XE::Ob) true g5 fM fZ gF g6 g7 g8 g9 hb hc "ValueError.__new__"))
 (ga:iC K ff "__init__"=↑(some<|.ref fI))
 (fT:vh K ff=true)
 (gb:PySem.W.tailIn K Ob (.ref XE::Ob)=true)
 (lI:K.lookup fI=some #[.type "function",he,.func<|k8 "__init__" "RingOfArrows.__init__" (wH AS) (wm AS) (vA AS) [85] (.ref TD) gc gd gf gg (.ref fh) gh,hf])
 (cI:jM K (.ref fh) "RingOfArrows.__init__"=true)
 (lD:K.lookup fh=some #[hg,hh,.fields gi,hi])
 (fD:gi[2]?=↑(.str e2 hj))
 (pD:((l.prog.main.file:Str)==e2)=true)
 (gj:K.lookup cc=some #[gG,gH,.cell<|some<|.ref XR,gI])
 (gk:ni K XR=↑hk)
 (gm:lh K XR (.ref XR)=↑true)
 (gn:kq K XR XR "__init__"=↑129)
 (gp:lh K XR (.type "ValueError")=↑true)
 (sB:iL K (.ref XR) "__setattr__"=↑106)
 (gq:iL K (.ref XR) "ring"=↑none)
 (lT:K.lookup TD=some #[ho,hq,.seq #v[dT] fY,hr])
 (gr:l9 K (.ref XT) [.ref XT,.ref XR]=↑true)
 (gs:l9 K (.ref XR) [.ref XT,.ref XR]=↑true)
 (a2:iU K (.ref XV) (.ref XV)=↑true)
 (bL:iU K (.ref XC) (.ref XC)=↑true)
 (a3:iU K (.ref XF) (.ref XF)=↑true)
 (a4:iU K (.ref XN) (.ref XN)=↑true)
 (J:iU K (.ref XR) (.ref XR)=↑true)
 (ds:iU K (.ref XT) (.ref XT)=↑true)
 (gu:iU K (.ref XV) (.ref XC)=↑false)
 (gv:iU K (.ref XV) (.ref XN)=↑false)
 (gw:iU K (.ref XV) (.ref XT)=↑false)
 (gx:iU K (.ref XF) (.ref XC)=↑false)
 (gy:iU K (.ref XN) (.ref XC)=↑false)
 (gz:iU K (.ref XR) (.ref XC)=↑false)
 (gA:iU K (.ref XR) (.ref XF)=↑false)
 (gB:iU K (.ref XR) (.ref XT)=↑false)
 (fU:iU K (.ref XT) (.ref XC)=↑false)
 (gC:iU K (.ref XT) (.ref XF)=↑false)
 (fN:iU K (.ref XT) (.ref XN)=↑false)
 (gD:iC K iA "super"=↑none)
 (zz:Bz K) :
    ∃(c c9:hO)(fd:iY),oC K "is_sum"=↑(c,c9)/\K.lookup c9=none/\(∀(s:h9)(v:hR),sX s fd #[[v],[]] [("_law_script",v)])/\∀base:jd,K.In base->base.Ns iA mg->JU mg base c c9->wn l.prog w K mg base QC 11 fa fd ["_law_script"] (Nz K c9):=by
  have e:=f0.symm.trans<|iP X G aL
  cases e
  have ht:oC K "is_sum"=↑(c,c9):=by
    unfold oC
    rw[a1]
    dsimp only
    rw[l1]
    dsimp only[jS]
    rw[lc]
    dsimp only
    rw[ev]
  have j:=E9 (st:=xQ) l1 c1 k1
  have aF:Fn K mg "is_sum" xQ ["row"] f1 _:=#[j,iP X G a1,j.binds (ps:=["row"])<|λ_ _ _ _ _ _=>us1 λ_=>rfl]
  have e3:=E9 (st:=Ds) lL cL kL
  have b:=Q.fn X G ["row"]<|λ_ _ _ _ _ _=>us1 λ_=>rfl
  have a9:=da.fn X G ["rows"]<|λ_ _ _ _ _ _=>us1 λ_=>rfl
  have d:=A.fn X G ["earlier","last"]<|λ_ _ _ _ _ _=>us2 λ_ _=>rfl
  have d0:=eV.fn X G ["_law_script"]<|λ_ _ _ _ _ _=>us1 λ_=>rfl
  have cd:=d5.fn X G ["_law_bag_here","_law_many"]<|λ_ _ _ _ _ _=>us2 λ_ _=>rfl
  have cg:=d6.fn X G ["_law_bag_here"]<|λ_ _ _ _ _ _=>us1 λ_=>rfl
  have cj:=d7.fn X G ["_law_one","_law_other"]<|λ_ _ _ _ _ _=>us2 λ_ _=>rfl
  have ck:=d8.fn X G ["_law_rows_here"]<|λ_ _ _ _ _ _=>us1 λ_=>rfl
  have cm:=d9.fn X G ["_law_bag_here","_law_row_here"]<|λ_ _ _ _ _ _=>us2 λ_ _=>rfl
  have cn:=ea.fn X G ["_law_rows_here","_law_row_here"]<|λ_ _ _ _ _ _=>us2 λ_ _=>rfl
  have ba:=dc.fn X G ["_law_found"]<|λ_ _ _ _ _ _=>us1 λ_=>rfl
  have d1:=eW.fn X G ["_law_found"]<|λ_ _ _ _ _ _=>us1 λ_=>rfl
  have cp:=ec.fn X G ["_law_found","_law_due_here"]<|λ_ _ _ _ _ _=>us2 λ_ _=>rfl
  have bb:=dd.fn X G ["_law_many"]<|λ_ _ _ _ _ _=>us1 λ_=>rfl
  have aa:=bA.fn X G ["_law_rows_here","_law_loops","_law_rank_here","_law_bag_here"]<|λ_ _ _ _ _ _=>us4 λ_ _ _ _=>rfl
  have cq:=ed.fn X G ["_law_bag_here","_law_most"]<|λ_ _ _ _ _ _=>us2 λ_ _=>rfl
  have cs:=ee.fn X G ["_law_body","_law_rows_here"]<|λ_ _ _ _ _ _=>us2 λ_ _=>rfl
  have cu:=ef.fn X G ["_law_field","_law_rows_here","_law_bag_here","_law_tries"]<|λ_ _ _ _ _ _=>us4 λ_ _ _ _=>rfl
  have bc:=de.fn X G ["_law_bag_here","_law_most"]<|λ_ _ _ _ _ _=>us2 λ_ _=>rfl
  have aG:=cE.fn X G ["_law_arrows"]<|λ_ _ _ _ _ _=>us1 λ_=>rfl
  have be:=df.fn X G ["_law_arrows"]<|λ_ _ _ _ _ _=>us1 λ_=>rfl
  have L:=aX.fn X G ["_law_field","_law_low","_law_high"]<|λ_ _ _ _ _ _=>us3 λ_ _ _=>rfl
  have m:=aj.fn X G ["_law_field","_law_way","_law_cell"]<|λ_ _ _ _ _ _=>us3 λ_ _ _=>rfl
  have d2:=eX.fn X G ["_law_rows_here","_law_arrows","_law_low","_law_high"]<|λ_ _ _ _ _ _=>us4 λ_ _ _ _=>rfl
  have d3:=eY.fn X G ["_law_bag_here","_law_rows_here","_law_arrows"]<|λ_ _ _ _ _ _=>us3 λ_ _ _=>rfl
  have bf:=dg.fn X G ["_law_found","_law_due_here"]<|λ_ _ _ _ _ _=>us2 λ_ _=>rfl
  have n:=ak.fn X G ["_law_body","_law_rows_here"]<|λ_ _ _ _ _ _=>us2 λ_ _=>rfl
  have bg:=dh.fn X G ["_law_found","_law_due_here"]<|λ_ _ _ _ _ _=>us2 λ_ _=>rfl
  have cv:=eg.fn X G ["_law_field","_law_rows_here","_law_arrows"]<|λ_ _ _ _ _ _=>us3 λ_ _ _=>rfl
  have cw:=eh.fn X G ["_law_rows_here","_law_cell"]<|λ_ _ _ _ _ _=>us2 λ_ _=>rfl
  have o:=al.fn ["self","cell"]<|λ_ _ _ _ _ _=>us2 λ_ _=>rfl
  have E:=aO.fn ["self","row"]<|λ_ _ _ _ _ _=>us2 λ_ _=>rfl
  have f:=D.fn ["self","row","rank"]<|λ_ _ _ _ _ _=>us3 λ_ _ _=>rfl
  have ab:=bB.fn ["self","cell"]<|λ_ _ _ _ _ _=>us2 λ_ _=>rfl
  have bh:=di.fn ["self","low","high"]<|λ_ _ _ _ _ _=>us3 λ_ _ _=>rfl
  have bi:=dj.fn ["self"]<|λ_ _ _ _ _ _=>us1 λ_=>rfl
  have aH:=cH.fn ["self"]<|λ_ _ _ _ _ _=>us1 λ_=>rfl
  have ae:=bC.fn ["self","cell"]<|λ_ _ _ _ _ _=>us2 λ_ _=>rfl
  have bj:=dm.fn ["self","low"]<|λ_ _ _ _ _ _=>us2 λ_ _=>rfl
  have H:=aP.fn ["self","low","high"]<|λ_ _ _ _ _ _=>us3 λ_ _ _=>rfl
  have d4:=eZ.fn ["self","low","high"]<|λ_ _ _ _ _ _=>us3 λ_ _ _=>rfl
  have af:=bD.fn ["self","cell"]<|λ_ _ _ _ _ _=>us2 λ_ _=>rfl
  obtain⟨fO,fP,es,et,eu⟩:=e0.fx #[_,c7] c8 R S rfl rfl Ed<|λ_ _ _ _ _ _ _=>us3 λ_ _ _=>rfl
  obtain⟨fQ,fR,ew,cx⟩:=e1.ex
  obtain⟨e8,e9,cY,cZ,c0⟩:=dq.fx #[_,c7] c8 R S rfl rfl zF<|λ_ _ _ _ _ _ _=>us1 λ_=>rfl
  obtain⟨fb,fe,c2,aI⟩:=dr.ex
  obtain⟨fi,fj,dt,du,dv⟩:=ei.fx #[_,c7] c8 R S rfl rfl zH<|λ_ _ _ _ _ _ _=>us2 λ_ _=>rfl
  obtain⟨fo,ft,dw,bm⟩:=ej.ex
  obtain⟨dW,dX,ar,au,av⟩:=aQ.fx #[_,c7] c8 R S rfl rfl xm<|λ_ _ _ _ _ _ _=>us2 λ_ _=>rfl
  obtain⟨dY,dZ,aw,p⟩:=aR.ex
  obtain⟨eJ,eK,bM,bN,bO⟩:=cJ.fx #[_,c7] c8 R S rfl rfl yR<|λ_ _ _ _ _ _ _=>us2 λ_ _=>rfl
  obtain⟨eL,eM,bP,ag⟩:=cP.ex
  obtain⟨eN,eO,bQ,bR,bS⟩:=cQ.fx #[_,c7] c8 R S rfl rfl yQ<|λ_ _ _ _ _ _ _=>us1 λ_=>rfl
  obtain⟨eP,eQ,bT,ah⟩:=cR.ex
  obtain⟨eR,eS,bU,bV,bW⟩:=cU.fx #[_,c7] c8 R S rfl rfl yP<|λ_ _ _ _ _ _ _=>us2 λ_ _=>rfl
  obtain⟨eT,eU,bX,ai⟩:=cV.ex
  obtain⟨fv,fw,dx,dy,dz⟩:=ek.fx #[_,c7] c8 R S rfl rfl zI<|λ_ _ _ _ _ _ _=>us2 λ_ _=>rfl
  obtain⟨fy,fz,dA,bp⟩:=el.ex
  obtain⟨fA,fB,dB,dC,dD⟩:=em.fx #[_,c7] c8 R S rfl rfl BB<|λ_ _ _ _ _ _ _=>us2 λ_ _=>rfl
  obtain⟨fC,fE,dE,bq⟩:=en.ex
  obtain⟨fF,fG,br,dF,dG⟩:=aY.fx #[_,c7] c8 R S rfl rfl ["self"]<|λ_ _ _ _ _ _ _=>us1 λ_=>rfl
  obtain⟨fH,fJ,dH,bt⟩:=aZ.ex
  have B:=zz.bn X G
  have cb:=tZ X G gD
  have ax:=iP X G aq
  have a5:=iP X G a0
  have bY:Xc K mg "NotASum" XS:=#[#[_,_,_,_,iP X G bE,bF,iQ],λ_=>trivial]
  have c3:Xc K mg "NoCell" XC:=#[#[_,_,_,_,iP X G aE,cX,iQ],λ_=>trivial]
  have aU:Xc K mg "OtherRank" XO:=#[#[_,_,_,_,iP X G aS,aT,iQ],λ_=>trivial]
  have bZ:Xc K mg "BadRank" XB:=#[#[_,_,_,_,iP X G bG,bH,iQ],λ_=>trivial]
  have ay:Xc K mg "OpenBorder" XP:=#[#[_,_,_,_,iP X G an,ao,iQ],λ_=>trivial]
  have ey:Xc K mg "Full" XF0:=#[#[_,_,_,_,iP X G eo,ep,iQ],λ_=>trivial]
  have b0:Xc K mg "Covered" XV:=#[#[_,_,_,_,iP X G T,bI,iQ],λ_=>trivial]
  have b1:Xc K mg "NotFace" XF:=#[#[_,_,_,_,iP X G U,bJ,iQ],λ_=>trivial]
  have cy:Xc K mg "Tied" XT:=#[#[_,_,_,_,iP X G aV,er,iQ],λ_=>trivial]
  have b2:Xc K mg "NotTied" XN:=#[#[_,_,_,_,iP X G Y,bK,iQ],λ_=>trivial]
  have y:Bl K C:=#[#[pg,hd,po,sa],nR,nB,nU]
  have cf:PZ K C:=#[nH,nT]
  have dI:=iP X G aC
  refine#[c,c9,jS "law" "law" (wH Ds) (wm Ds) (vA Ds) .none f5 f6 f7 f8 fS f9,ht,f4,λs v=>.of_eq rfl,λbase _ _ Bt=>?_]
  let q:Cq:=#[l.prog,w,K,mg,base,c9]
  have SD:L2.LP l.prog K XR fI fh cc "self":=#[#[_,_,_,_,_,lI,rfl,rfl],#[_,_,_,_,_,_,lD,fD,pD],#[_,_,_,gj],#[_,gk],gm,R,S]
  have c4:wn l.prog w K mg base (wh l.prog w) 3 fI _ ["self","ring"] (Zf K XR "ring"):=VM (P:=l.prog) (w:=w) (mg:=mg) (base:=base) (k:=2) (r:="ring") (fl:="ring") lI cI rfl Uc SD 146 cb B.list rfl lB gn gp rfl (λx=>by rw[PySem.refuseLoop_ref];exact PySem.F.store_ValueError.passes _) sB gq q0q q0q
  have gE:∀h:jd,K.In h->∃mN,h.Ns ff mN/\mN "__init__"=↑(.ref fI):=λh Z=>#[_,.of_isNs<|qi Z fT,WO Z fT ga]
  have hB:Binds K (k8 "__init__" "RingOfArrows.__init__" (wH AS) (wm AS) (vA AS) [85] (.ref TD) gc gd gf gg (.ref fh) gh) ["self","ring"] []:=λs us Z hl=>by
    have hl:us.length=2:=by simpa using hl
    obtain⟨u1,u2,rfl⟩:=lx2 us hl
    exact PySem.W.binds_K Z rfl lT rfl rfl rfl
  have N:XcI l.prog w K mg base 3 "RingOfArrows" XR "ring":=#[#[fI,ff,_,_,_,_,_,_,Ob,_,_,_,_,_,_,_,_,_,_,_,_,_,_,_,iP X G fK,lB,gE,λh Z=>tX Z gb,lI,rfl,iQ,rfl,c4,hB],λ_ _ _ _ _ _=>trivial]
  have i:a1o q XT XR "Tied" "RingOfArrows":=#[iP X G aV,iP X G fK,gr,gs]
  have b3:Xh K mg "Covered" XV:=#[iP X G T,a2]
  have aJ:Xh K mg "NoCell" XC:=#[iP X G aE,bL]
  have b4:Xh K mg "NotFace" XF:=#[iP X G U,a3]
  have b5:Xh K mg "NotTied" XN:=#[iP X G Y,a4]
  have O:Xh K mg "RingOfArrows" XR:=#[iP X G fK,J]
  have cz:Xh K mg "Tied" XT:=#[iP X G aV,ds]
  obtain⟨bx,hs,bz,bw,fV,fW,fX⟩:=bY.ex
  have dJ:=Si b.fn aF (L0 (P:=l.prog) (w:=w) j rfl Bt B.all B.zip) fV fW fX λ_=>trivial
  have dL:=Sj b.fn aF (L4 (P:=l.prog) (w:=w) j rfl Bt B.all B.zip) fV fW fX λ_=>trivial
  have ez:=Ub (q:=q) dF y cf #[#[_,_,dH,WN (P:=l.prog) (w:=w) (mg:=mg) (base:=base) bt y,bt.binds<|λ_ _ _ _ _ _=>us1 λ_=>rfl,cb]]
  have dM:xM q _ _ _ _:=b.fk dJ
  have dN:xM q _ _ _ _:=a9.fk<|Sk a9.fn b dL B.set B.sorted
  have a:zW q C _ _ _ _:=o.fm<|Gy (q:=q) o.fn y c3
  have t:zW q C _ _ _ _:=E.fm<|Iv (q:=q) E.fn y (dM.up q0q)<|a.up q0q
  have u:zW q C _ _ _ _:=f.fm<|Dk (q:=q) f.fn y aU
  have az:zW q C _ _ _ _:=#[_,_,GG (q:=q) au #[#[_,_,aw,(Ix (q:=q) p y (dN.up q0q)<|t.up q0q),p.binds<|λ_ _ _ _ _ _=>us2 λ_ _=>rfl,cb]],ar,av]
  have aK:zW q C _ _ _ _:=#[_,_,PN (q:=q) cZ #[#[_,_,c2,(So (q:=q) aI y B),aI.binds<|λ_ _ _ _ _ _=>us1 λ_=>rfl,cb]],cY,c0]
  have dO:zW q C _ _ _ _:=#[_,_,T7 (q:=q) du #[#[_,_,dw,(Sr (q:=q) bm y (a.up q0q)<|aK.up q0q),bm.binds<|λ_ _ _ _ _ _=>us2 λ_ _=>rfl,cb]],dt,dv]
  have eA:zW q C _ _ _ _:=#[_,_,WK (q:=q) et #[#[_,_,ew,(Zn (q:=q) cx y (t.up q0q) (u.up q0q) (az.up q0q) bZ ey ay ax a5 B),cx.binds<|λ_ _ _ _ _ _=>us3 λ_ _ _=>rfl,cb]],es,eu]
  have b6:zW q C _ _ _ _:=#[_,_,MS (q:=q) bN #[#[_,_,bP,(Po (q:=q) ag y (a.up q0q) B),ag.binds<|λ_ _ _ _ _ _=>us2 λ_ _=>rfl,cb]],bM,bO]
  have b7:zW q C _ _ _ _:=#[_,_,MT (q:=q) bR #[#[_,_,bT,(Pm (q:=q) ah y),ah.binds<|λ_ _ _ _ _ _=>us1 λ_=>rfl,cb]],bQ,bS]
  have b8:zW q C _ _ _ _:=#[_,_,MU (q:=q) bV #[#[_,_,bX,(Pk (q:=q) ai y),ai.binds<|λ_ _ _ _ _ _=>us2 λ_ _=>rfl,cb]],bU,bW]
  have dP:zW q C _ _ _ _:=#[_,_,T8 (q:=q) dy #[#[_,_,dA,(Sz (q:=q) bp y<|a.up q0q),bp.binds<|λ_ _ _ _ _ _=>us2 λ_ _=>rfl,cb]],dx,dz]
  have M:zW q C _ _ _ _:=ab.fm<|L9 (q:=q) ab.fn y cf
  have bu:zW q C _ _ _ _:=#[_,_,T9 (q:=q) dC y cy (a.up q0q) (M.up q0q) #[#[_,_,dE,((VZ (q:=q) bq y (dO.up q0q) b0)).mono q0q,bq.binds<|λ_ _ _ _ _ _=>us2 λ_ _=>rfl,cb]],dB,dD]
  have c5:zW q C _ _ _ _:=bh.fm<|SM (q:=q) bh.fn y cf
  have c6:zW q C _ _ _ _:=bi.fm<|SO (q:=q) bi.fn y cf B
  have b9:zW q C _ _ _ _:=aH.fm<|Pr (q:=q) aH.fn y cf<|c6.up q0q
  have a6:zW q C _ _ _ _:=ae.fm<|Mc (q:=q) ae.fn y cf<|a.up q0q
  have aM:zW q C _ _ _ _:=bj.fm<|SR (q:=q) bj.fn y cf (a.up q0q) b2
  have I:xM q _ _ _ _:=d.fk<|Dl (q:=q) d.fn
  have aA:zW q C _ _ _ _:=H.fm<|IK (q:=q) H.fn y cf (I.up q0q)<|c5.up q0q
  have cD:zW q C _ _ _ _:=d4.fm<|Zs (q:=q) d4.fn y cf (a.up q0q) (M.up q0q) (aA.up q0q) b1 cy N
  have a7:zW q C _ _ _ _:=af.fm<|Me (q:=q) af.fn y cf<|a.up q0q
  have e4:xM q _ _ _ _:=d0.fk<|a1c<|ZP d0.fn B.len B.list
  have g:xM q _ _ _ _:=cd.fk<|Y3<|WI cd.fn B.len
  have eB:xM q _ _ _ _:=cg.fk<|Wj (q:=q) cg.fn<|g.up q0q
  have aW:xM q _ _ _ _:=cj.fk<|Wk (q:=q) cj.fn B
  have k_here:xM q _ _ _ _:=ck.fk<|Wm (q:=q) ck.fn B
  have eC:xM q _ _ _ _:=cm.fk<|Wn (q:=q) cm.fn (g.up q0q) (aW.up q0q) B
  have eD:xM q _ _ _ _:=cn.fk<|Wp (q:=q) cn.fn<|aW.up q0q
  have k_whole:xM q _ _ _ _:=ba.fk<|Tz (q:=q) ba.fn B
  have e5:xM q _ _ _ _:=d1.fk<|ZC (q:=q) d1.fn (k_whole.up q0q) B
  have k_same:xM q _ _ _ _:=cp.fk<|Wr (q:=q) cp.fn<|e5.up q0q
  have dQ:xM q _ _ _ _:=bb.fk<|TF (q:=q) bb.fn B
  have ca:xM q _ _ _ _:=aa.fk<|MA (q:=q) aa.fn (g.up q0q) (aW.up q0q) (k_here.up q0q) (eC.up q0q) (eD.up q0q) B
  have eE:xM q _ _ _ _:=cq.fk<|Wt (q:=q) cq.fn (g.up q0q) (dQ.up q0q) (eB.up q0q) (ca.up q0q) B
  have k_fill:xM q _ _ _ _:=cs.fk<|Wu (q:=q) cs.fn y (eA.up q0q) (bu.up q0q) B
  have eF:xM q _ _ _ _:=cu.fk<|Wv (q:=q) cu.fn y (k_here.up q0q) (g.up q0q) (aM.up q0q) (cD.up q0q) i B
  have dR:xM q _ _ _ _:=bc.fk<|TK (q:=q) bc.fn #[mk,br.at_,br.fn,kc] (ez.mono q0q) dG dI (eE.up q0q) (k_fill.up q0q) (eF.up q0q) (g.up q0q) B
  have aN:xM q _ _ _ _:=aG.fk<|PL (q:=q) aG.fn
  have bv:xM q _ _ _ _:=be.fk<|TM (q:=q) be.fn B
  have a8:xM q _ _ _ _:=L.fk<|KJ (q:=q) L.fn y (cD.up q0q) aJ b4 O cz gx gz gA gB fU gC
  have aB:xM q _ _ _ _:=m.fk<|GC (q:=q) m.fn y (aM.up q0q) (bu.up q0q) (a6.up q0q) (a7.up q0q) b3 aJ b5 cz gu gv gw gy fU fN
  have e6:xM q _ _ _ _:=d2.fk<|ZH (q:=q) d2.fn (k_here.up q0q) (aN.up q0q)<|bv.up q0q
  have e7:xM q _ _ _ _:=d3.fk<|ZI (q:=q) d3.fn (g.up q0q) (k_here.up q0q) B
  have dS:xM q _ _ _ _:=bf.fk<|TX (q:=q) bf.fn B
  have aD:xM q _ _ _ _:=n.fk<|GD (q:=q) n.fn y (k_same.up q0q) (k_here.up q0q) (dS.up q0q) (k_whole.up q0q) (aK.up q0q) (b7.up q0q) (b8.up q0q) (dP.up q0q) (b6.up q0q) B
  have dU:xM q _ _ _ _:=bg.fk<|TY (q:=q) bg.fn (k_whole.up q0q) B
  have eG:xM q _ _ _ _:=cv.fk<|WC (q:=q) cv.fn y (aD.up q0q) (dU.up q0q)<|b9.up q0q
  have eH:xM q _ _ _ _:=cw.fk<|WF (q:=q) cw.fn<|k_here.up q0q
  exact a1e (a1d<|ZO (q:=q) e3 (e4.up q0q) (g.up q0q) (dR.up q0q) (e7.up q0q) (a8.up q0q) (e6.up q0q) (eG.up q0q) (aN.up q0q) (bv.up q0q) (k_here.up q0q) (eH.up q0q) (aB.up q0q) B) λ_ _ _ _ z=>z
def walk{l:qW}{q:iT}{loose:List Str}{XP:(Str->Option hR)->jd->Prop}{YP:ji->jd->Prop}{d:DefRec}{K:Params->hJ}{dx:DefRec}(hn:l.most=↑63)(hdf:d.params.defaults=[])
  (hY:∀(w:ji)(h:jd),YP w h->(149).In h) (a3M:(PyProof.Rows.recsOf q).find? (λe=>e.name==("is_sum":Str))=↑dx)
  (F:∀(w:ji)(mg:Str->Option hR)(fa:hO)(h:jd),(149).In h->h.Ns iA mg->mg d.name=↑(.ref fa) ->
   ∃(c tab:hO)(fd:iY),oC 149 "is_sum"=↑(c,tab)/\(149).lookup tab=none/\(∀(s:h9)(u:hR),sX s fd #[[u],[]] [("_law_script",u)]) /\
    ∀base:jd,(149).In base->base.Ns iA mg->JU mg base c tab->wn l.prog w 149 mg base QC 11 fa fd ["_law_script"] (Nz 149 tab)) :
  vn q loose XP YP l.row.toRowW d [] (λf vs=>uo f vs) :=
 L2.QR (n:=63) (k:=11) (x:="_law_script") (tx:="is_sum") (CX:=QC) (sp:=λ_ K tab=>Nz K tab) hn q0q hdf #[rfl,q0q,q0q] hY a3M F (λ_ K H a tab ns _ hS hH=>#[a,ns,rfl,hS,#[#v[],hH,trivial],λ_=>rfl]) λ_ _ _ _ z=>z
end K7
open WL
open K7
set_option tactic.hygienic true
set_option hygiene true
namespace PySem.W.Fast
def tw4660926214662784157:=0
def tw6282026850247429661:=0
def tw1377561099496279890:=0
def tw2507218659109362969:=0
def tw7661043355965384474:=0
def tw3352576085113484507:=0
def tw17333048094282232273:=0
def tw10610752649360399418:=0
def tw12816169011976206271:=0
def tw13809631994014114994:=0
def tw11313361885230067174:=0
def tw12609478835439796264:=0
def tw9917957196614842163:=0
def tw7330386317996373017:=0
def tw8074212656704108762:=0
def tw14346018725604287326:=0
def tw3456401622571922374:=0
def tw10625120739701206968:=0
def tw1523752682556251708:=0
def tw15626951428384184844:=0
def tw5798323508198321886:=0
def tw5125987398204790195:=0
def tw3293316571629397801:=0
def tw3069845815709476847:=0
def tw13803159842879307738:=0
def tw1154003496952986964:=0
def tw1303321238948338448:=0
def tw6609593386435695114:=0
def tw40099678654880669:=0
def tw2468540044386855828:=0
def tw10884034788210301475:=0
def tw9455911182626821147:=0
def tw429067638988570080:=0
def tw16502408439645623684:=0
def tw3113496657075340904:=0
def tw6890338640580810798:=0
def tw10959740384246561360:=0
def tw9029961946313373884:=0
def tw14786766265013268256:=0
def tw17101610238318691594:=0
def tw16098494180514705738:=0
def tw12856240106361030532:=0
def tw3596144575427323264:=0
def tw9879241196921406420:=0
def tw11662469792960639342:=0
def tw16289558533789253179:=0
def tw12942773586112438243:=0
def tw6795799822200906444:=0
def tw14619267984510211907:=0
def tw6161155924135717736:=0
def tw7564904019697944154:=0
def tw10481000259845766686:=0
def tw13667621181049951218:=0
def tw8827478407203992123:=0
def tw1587507763244896547:=0
def tw7717916688251981906:=0
def tw14752679704040293039:=0
def tw18179105720926828862:=0
def tw8888372170488222486:=0
def tw17250434428950325676:=0
def tw144096206148671024:=0
def tw2701147002326164110:=0
def tw2566104382354739332:=0
def tw6312068033025364897:=0
def tw677092532028658313:=0
def tw10938393363305953779:=0
def tw11320495069043801359:=0
def tw6771100113155943126:=0
def tw10706033955495504257:=0
def tw6974512124693217088:=0
def tw15196022795503406370:=0
def tw5552703657622886947:=0
def tw926510549119477000:=0
def tw4584737321105013692:=0
def tw6840465424947375054:=0
def tw15270840251500938189:=0
def tw14289663292189815231:=0
def tw4033083234278797178:=0
def tw3488857180386290969:=0
def tw8968601490989395966:=0
def tw2230035761566710013:=0
def tw7197557855624843720:=0
def tw13290401101341328589:=0
def tw10362041701025621548:=0
def tw12933648031308679612:=0
def tw684558375693026173:=0
def tw4974270998215518605:=0
def tw17981670845449397066:=0
def tw6138202059409643882:=0
def tw8837690461610597055:=0
def tw12683676394532262702:=0
def tw9995173358880940847:=0
def tw11267408920504293743:=0
def tw16981809073032668900:=0
def tw9940419735524890365:=0
def tw4486773717824914979:=0
def tw12550418312329628534:=0
def tw3145668990372763865:=0
def tw2209774811262697839:=0
def tw8680370619488798424:=0
def tw3455046384901224879:=0
def tw3247964278976209219:=0
def tw15144165009451846315:=0
def tw11466829237435819624:=0
def tw9460858307145044527:=0
def tw3343825917641804131:=0
def tw2691740921513886176:=0
def tw12267741829944031134:=0
def tw13671370516265596769:=0
def tw15925540590421278983:=0
def tw4137744032453329592:=0
def tw5921798750539832934:=0
def tw17198491921537913693:=0
def tw5218200358431428774:=0
def tw787961271829420036:=0
def tw14091964478100897464:=0
def tw7954235435247466285:=0
def tw13240569511761882760:=0
def tw15680184055778099374:=0
def tw8205808465562986307:=0
def tw14334762461164752383:=0
def tw6082536121572611238:=0
def tw14255629762372435794:=0
def tw8183390003436778401:=0
def tw9998549104339811295:=0
def tw12196364993237347686:=0
def tw5096476475574450668:=0
def tw3594071920806349647:=0
def tw12771830366271623030:=0
def tw17447933110059183432:=0
def tw14880350473123603490:=0
def tw18268018803149165788:=0
def tw5255983635625866781:=0
def tw18249240176936724754:=0
def tw14921602930316935680:=0
end PySem.W.Fast
open PySem PySem.W PyProof.Rows
set_option maxHeartbeats 0 in
theorem PySem.Challenge.cw_slimbody_k12_tyings_refused_holds : PySem.Challenge.rw_slimbody_k12_tyings_refused.Holds := by
  w_on; o_law; k_head; (case hw => w_witness2)
  k_fill
  refine K7.walk (l := PySem.Challenge.rw_slimbody_k12_tyings_refused) rfl rfl (fun w h Y => PySem.W.kIn_of Y) (by rfl) ?j0a
  case j0a =>
    intro w mg fa h KX G hmg
    refine' K7.all_mk KX G hmg ?_ ?_ ?_ ?_ ?_ ?_ ?_ ?_ ?_ ?_ ?_ ?_ ?_ ?_ ?_ ?_ ?_ ?_ ?_ ?_ ?_ ?_ ?_ ?_ ?_ ?_ ?_ ?_ ?_ ?_ ?_ ?_ ?_ ?_ ?_ ?_ ?_ ?_ ?_ ?_ ?_ ?_ ?_ ?_ ?_ ?_ ?_ ?_ ?_ ?_ ?_ ?_ ?_ ?_ ?_ ?_ ?_ ?_ ?_ ?_ ?_ ?_ ?_ ?_ ?_ ?_ ?_ ?_ ?_ ?_ ?_ ?_ ?_ ?_ ?_ ?_ ?_ ?_ ?_ ?_ ?_ ?_ ?_ ?_ ?_ ?_ ?_ ?_ ?_ ?_ ?_ ?_ ?_ ?_ ?_ ?_ ?_ ?_ ?_ ?_ ?_ ?_ ?_ ?_ ?_ ?_ ?_ ?_ ?_ ?_ ?_ ?_ ?_ ?_ ?_ ?_ ?_ ?_ ?_ ?_ ?_ ?_ ?_ ?_ ?_ ?_ ?_ ?_ ?_ ?_ ?_ ?_ ?_ ?_ ?_ ?_ ?_ ?_ ?_ ?_ ?_ ?_ ?_ ?_ ?_ ?_ ?_ ?_ ?_ ?_ ?_
    all_goals try first | k_is | k_exc | exact a1f (by k_is) (by k_is) (by k_is) (by k_is) | exact a1g (by k_is) (by k_is) (by k_is) (by k_is) (by k_is) | exact a1K (by k_is) (by k_is) (by k_is) (by k_is) (by k_is) (by k_is) (by rfl) (by rfl) (by k_is) | exact a1L (by rfl) (by k_is) (by k_is) (by k_is) (by k_is) (by k_is) | rfl | kernel_rfl
    constructor <;> k_is
