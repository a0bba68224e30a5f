import PyProof.Rows.All
import Wide.All
import OpenK.AllK
import Wide.FinOn
import Lean
import PyProof.EqAt
import PyProof.EqKinds
import PyProof.TupleCall
import PyProof.Rows.SetFrom
import PyProof.Rows.SortWalkRead
import PyProof.Rows.EqDataRows
import PyProof.CompFree
import PyProof.ZipIter
import PyProof.Rows.ZipGen
import PyProof.GenCompD
import PyProof.CodeObjX
import KE.KNest
import PyProof.DictWalks
import PyProof.AutoListH
import PyProof.WalksMore
import PyProof.Draws
import PyProof.EnumFor
import PyProof.EnumMake
import PyProof.EnumStmt
import PyProof.Rows.EnumRows
import KE.KSuper
import PyProof.P3In
import KE.KTryMore
import PyProof.WalkInts
import PyProof.ExcClass2
import PyProof.ExcInit
import PyProof.InstStore
import PyProof.ExcBaseAll.ValueError
import PyProof.InstStoreFacts
import KE.KSortTup
import PyProof.Rows.SortShellK
import PyProof.DictCompW
import KE.KRevSl
import PySem.Challenge.RW_slimbody_k15_whole_ring_or_arrow
set_option Elab.async false
set_option linter.all false
set_option tactic.hygienic false
set_option compiler.extract_closed false
set_option hygiene false
set_option genSizeOf false
set_option genInjectivity false
set_option maxRecDepth 100000
local macro_rules|`(#[$a,*])=>`(⟨$a,*⟩)
local macro_rules|`(#v[$a,*])=>`(List.toArray [$a,*])
local macro_rules|`(↑$a)=>`(some $a)
local macro_rules|`(⇑$a)=>`(($a).heap.objs.size)
set_option maxHeartbeats 4000000
local macro_rules|`(18)=>`((vO (vJ P w) P w K mg base N qual scope f cd A outer s H E))|`(19)=>`((gU X.prog X.w))|`(52)=>`(#[I.ok.mod,I.ok.kind,I.ok.glob,I.ok.blt,I.ok.above,I.ok.inj,I.ok.has,I.ok.Ov,I.ok.hd,I.ok.frames,I.ok.Cc,I.ok.SE,I.ok.bs,I.ok.Io,I.ok.C7,I.ok.DI,I.ok.yy,I.ok.JL])|`(53)=>`((Ch.refl _ _ _ _))|`(54)=>`({ cls:=.type "list",data:=.seq ([]:List cr).toArray})|`(55)=>`(("__debug__":Str))|`(57)=>`((false,eval e X.env))|`(58)=>`((ci->D->Prop))|`(61)=>`((lk p.1.rk p.2.1))|`(65)=>`((p.1,#[],()))|`(66)=>`((.Call (.Attribute (.Name x z) m apos) (e::n) [] pos))|`(67)=>`((p.1,#[],#[],()))|`(70)=>`({ cls:=.type "list",dict:=none,data:=.seq vh.toArray nD})|`(71)=>`((ym wI (pv 0) vr (λ_ _=>rfl)))|`(72)=>`(("__class__",cc))|`(73)=>`((Option (Int×(List Int))))|`(74)=>`({ cls:=.type "dict_keyiterator",data:=.fields #v[.ref a,.int 0 0,.int xh.length 0,.int ep 0]})|`(75)=>`({ cls:=.type "dict_keyiterator",data:=.fields #v[.ref a,.int 0 0,.int m.length 0,.int B 0]})|`(76)=>`((vO (vJ P w) P w K l base N g c f u A e s H E))|`(77)=>`((false,eval a X.env))|`(78)=>`({ cls:=.type "list",data:=.seq vh.toArray n})|`(79)=>`((ci->PO->Prop))|`(81)=>`({ cls:=.type "list",dict:=none,data:=.seq ([]:List cr).toArray})|`(82)=>`((jw nm q C N bs bm hdct sn sub ab col dd k0 k1 k2 k3 k5 newId))|`(83)=>`((q.get<|A.get d))|`(84)=>`((.Call (.Name "super" p0) [] [] p1))|`(85)=>`((vO (vJ P w) P w K e base N c a f g A b s H E))|`(86)=>`((if kB t.dummies j=true then iV t.dummies (hI t.dummies j) else t.dummies))|`(87)=>`((τ->PO->Prop))|`(88)=>`((uW (ss 1) uU))|`(90)=>`((Int×List Int))|`(91)=>`((KH (vJ P w) P w K mg base N qual scope f (.ref zk) [72] A outer s H E))|`(93)=>`((yS x low high))|`(94)=>`(#[rfl,I.turned (t':=s.toks) (λb o hb e=>eb b o hb e) f0 f1 f3 f4 f5])|`(96)=>`({ s with heap:=a})|`(97)=>`((.Name x pos))|`(98)=>`({ cls:=.type "range",data:=.fields #v[.int a t,.int c u,.int 1 v]})|`(99)=>`({ s with toks:=s.toks+1})|`(101)=>`(((items.toList.drop<|wV items.size 0 lo).take<|wV items.size items.size hi-wV items.size 0 lo))|`(102)=>`((uX uV (uX uV vm)))
noncomputable section
local macro_rules | `(tactic| walk_at "sc") => `(tactic| exact #[rfl, rfl, rfl, by decide +kernel, rfl, by decide +kernel, by decide +kernel])
local macro_rules | `(tactic| walk_at "ss") => `(tactic| exact #[rfl, rfl, rfl, by decide +kernel, rfl, by decide +kernel, by decide +kernel, by decide +kernel, rfl, rfl])
local macro_rules | `(tactic| walk_at "wl") => `(tactic| dsimp +instances only [At.get, At.hole, Pt.put, Ent.ent, Pj.pj, Fg.fg, Sel.sel, Sel.rest, Sel.mrg, Pre.pre, Pre.suf, at0, atS, pt0, ptS, ent0, entS, entC, pjNil, pjUn, pjCons, fgId, fgUn, fgCons, selNil, selCons, pre0, preS, stepC, id, ID.get, ID.set, wSq, cK, cB, cA, cO, cC, cM, cN, cS, cG, cI, cW, cT, cF])
def e0a2 {p0:Prop}{p1:Prop}{G:Prop}(h:p0/\p1)(k:p0->p1->G):G:=by obtain ⟨h0,h1⟩:=h;exact k h0 h1
def e0a3 {p0:Prop}{p1:Prop}{p2:Prop}{G:Prop}(h:p0/\p1/\p2)(k:p0->p1->p2->G):G:=by obtain ⟨h0,h1,h2⟩:=h;exact k h0 h1 h2
def e0a4 {p0:Prop}{p1:Prop}{p2:Prop}{p3:Prop}{G:Prop}(h:p0/\p1/\p2/\p3)(k:p0->p1->p2->p3->G):G:=by obtain ⟨h0,h1,h2,h3⟩:=h;exact k h0 h1 h2 h3
def e0a6 {p0:Prop}{p1:Prop}{p2:Prop}{p3:Prop}{p4:Prop}{p5:Prop}{G:Prop}(h:p0/\p1/\p2/\p3/\p4/\p5)(k:p0->p1->p2->p3->p4->p5->G):G:=by obtain ⟨h0,h1,h2,h3,h4,h5⟩:=h;exact k h0 h1 h2 h3 h4 h5
def e1a1 {vK:Sort _}{p0:vK->Prop}{G:Prop}(h:∃ x0:vK,p0 x0)(k:∀ x0:vK,p0 x0->G):G:=by obtain ⟨x0,h0⟩:=h;exact k x0 h0
def e1a2 {vK:Sort _}{p0:vK->Prop}{p1:vK->Prop}{G:Prop}(h:∃ x0:vK,p0 x0/\p1 x0)(k:∀ x0:vK,p0 x0->p1 x0->G):G:=by obtain ⟨x0,h0,h1⟩:=h;exact k x0 h0 h1
def e1a3 {vK:Sort _}{p0:vK->Prop}{p1:vK->Prop}{p2:vK->Prop}{G:Prop}(h:∃ x0:vK,p0 x0/\p1 x0/\p2 x0)(k:∀ x0:vK,p0 x0->p1 x0->p2 x0->G):G:=by obtain ⟨x0,h0,h1,h2⟩:=h;exact k x0 h0 h1 h2
def e1a4 {vK:Sort _}{p0:vK->Prop}{p1:vK->Prop}{p2:vK->Prop}{p3:vK->Prop}{G:Prop}(h:∃ x0:vK,p0 x0/\p1 x0/\p2 x0/\p3 x0)(k:∀ x0:vK,p0 x0->p1 x0->p2 x0->p3 x0->G):G:=by obtain ⟨x0,h0,h1,h2,h3⟩:=h;exact k x0 h0 h1 h2 h3
def e2a2 {vK:Sort _}{v0:Sort _}{p0:vK->v0->Prop}{p1:vK->v0->Prop}{G:Prop}(h:∃ x0:vK,∃ x1:v0,p0 x0 x1/\p1 x0 x1)(k:∀ x0:vK,∀ x1:v0,p0 x0 x1->p1 x0 x1->G):G:=by obtain ⟨x0,x1,h0,h1⟩:=h;exact k x0 x1 h0 h1
def e2a3 {vK:Sort _}{v0:Sort _}{p0:vK->v0->Prop}{p1:vK->v0->Prop}{p2:vK->v0->Prop}{G:Prop}(h:∃ x0:vK,∃ x1:v0,p0 x0 x1/\p1 x0 x1/\p2 x0 x1)(k:∀ x0:vK,∀ x1:v0,p0 x0 x1->p1 x0 x1->p2 x0 x1->G):G:=by obtain ⟨x0,x1,h0,h1,h2⟩:=h;exact k x0 x1 h0 h1 h2
def e2a4 {vK:Sort _}{v0:Sort _}{p0:vK->v0->Prop}{p1:vK->v0->Prop}{p2:vK->v0->Prop}{p3:vK->v0->Prop}{G:Prop}(h:∃ x0:vK,∃ x1:v0,p0 x0 x1/\p1 x0 x1/\p2 x0 x1/\p3 x0 x1)(k:∀ x0:vK,∀ x1:v0,p0 x0 x1->p1 x0 x1->p2 x0 x1->p3 x0 x1->G):G:=by obtain ⟨x0,x1,h0,h1,h2,h3⟩:=h;exact k x0 x1 h0 h1 h2 h3
def e2a5 {vK:Sort _}{v0:Sort _}{p0:vK->v0->Prop}{p1:vK->v0->Prop}{p2:vK->v0->Prop}{p3:vK->v0->Prop}{p4:vK->v0->Prop}{G:Prop}(h:∃ x0:vK,∃ x1:v0,p0 x0 x1/\p1 x0 x1/\p2 x0 x1/\p3 x0 x1/\p4 x0 x1)(k:∀ x0:vK,∀ x1:v0,p0 x0 x1->p1 x0 x1->p2 x0 x1->p3 x0 x1->p4 x0 x1->G):G:=by obtain ⟨x0,x1,h0,h1,h2,h3,h4⟩:=h;exact k x0 x1 h0 h1 h2 h3 h4
def e3a2 {vK:Sort _}{v0:Sort _}{wM:Sort _}{p0:vK->v0->wM->Prop}{p1:vK->v0->wM->Prop}{G:Prop}(h:∃ x0:vK,∃ x1:v0,∃ x2:wM,p0 x0 x1 x2/\p1 x0 x1 x2)(k:∀ x0:vK,∀ x1:v0,∀ x2:wM,p0 x0 x1 x2->p1 x0 x1 x2->G):G:=by obtain ⟨x0,x1,x2,h0,h1⟩:=h;exact k x0 x1 x2 h0 h1
def e3a3 {vK:Sort _}{v0:Sort _}{wM:Sort _}{p0:vK->v0->wM->Prop}{p1:vK->v0->wM->Prop}{p2:vK->v0->wM->Prop}{G:Prop}(h:∃ x0:vK,∃ x1:v0,∃ x2:wM,p0 x0 x1 x2/\p1 x0 x1 x2/\p2 x0 x1 x2)(k:∀ x0:vK,∀ x1:v0,∀ x2:wM,p0 x0 x1 x2->p1 x0 x1 x2->p2 x0 x1 x2->G):G:=by obtain ⟨x0,x1,x2,h0,h1,h2⟩:=h;exact k x0 x1 x2 h0 h1 h2
def e3a4 {vK:Sort _}{v0:Sort _}{wM:Sort _}{p0:vK->v0->wM->Prop}{p1:vK->v0->wM->Prop}{p2:vK->v0->wM->Prop}{p3:vK->v0->wM->Prop}{G:Prop}(h:∃ x0:vK,∃ x1:v0,∃ x2:wM,p0 x0 x1 x2/\p1 x0 x1 x2/\p2 x0 x1 x2/\p3 x0 x1 x2)(k:∀ x0:vK,∀ x1:v0,∀ x2:wM,p0 x0 x1 x2->p1 x0 x1 x2->p2 x0 x1 x2->p3 x0 x1 x2->G):G:=by obtain ⟨x0,x1,x2,h0,h1,h2,h3⟩:=h;exact k x0 x1 x2 h0 h1 h2 h3
def e3a5 {vK:Sort _}{v0:Sort _}{wM:Sort _}{p0:vK->v0->wM->Prop}{p1:vK->v0->wM->Prop}{p2:vK->v0->wM->Prop}{p3:vK->v0->wM->Prop}{p4:vK->v0->wM->Prop}{G:Prop}(h:∃ x0:vK,∃ x1:v0,∃ x2:wM,p0 x0 x1 x2/\p1 x0 x1 x2/\p2 x0 x1 x2/\p3 x0 x1 x2/\p4 x0 x1 x2)(k:∀ x0:vK,∀ x1:v0,∀ x2:wM,p0 x0 x1 x2->p1 x0 x1 x2->p2 x0 x1 x2->p3 x0 x1 x2->p4 x0 x1 x2->G):G:=by obtain ⟨x0,x1,x2,h0,h1,h2,h3,h4⟩:=h;exact k x0 x1 x2 h0 h1 h2 h3 h4
def e4a4 {vK:Sort _}{v0:Sort _}{wM:Sort _}{yx:Sort _}{p0:vK->v0->wM->yx->Prop}{p1:vK->v0->wM->yx->Prop}{p2:vK->v0->wM->yx->Prop}{p3:vK->v0->wM->yx->Prop}{G:Prop}(h:∃ x0:vK,∃ x1:v0,∃ x2:wM,∃ x3:yx,p0 x0 x1 x2 x3/\p1 x0 x1 x2 x3/\p2 x0 x1 x2 x3/\p3 x0 x1 x2 x3)(k:∀ x0:vK,∀ x1:v0,∀ x2:wM,∀ x3:yx,p0 x0 x1 x2 x3->p1 x0 x1 x2 x3->p2 x0 x1 x2 x3->p3 x0 x1 x2 x3->G):G:=by obtain ⟨x0,x1,x2,x3,h0,h1,h2,h3⟩:=h;exact k x0 x1 x2 x3 h0 h1 h2 h3
def e4a6 {vK:Sort _}{v0:Sort _}{wM:Sort _}{yx:Sort _}{p0:vK->v0->wM->yx->Prop}{p1:vK->v0->wM->yx->Prop}{p2:vK->v0->wM->yx->Prop}{p3:vK->v0->wM->yx->Prop}{p4:vK->v0->wM->yx->Prop}{p5:vK->v0->wM->yx->Prop}{G:Prop}(h:∃ x0:vK,∃ x1:v0,∃ x2:wM,∃ x3:yx,p0 x0 x1 x2 x3/\p1 x0 x1 x2 x3/\p2 x0 x1 x2 x3/\p3 x0 x1 x2 x3/\p4 x0 x1 x2 x3/\p5 x0 x1 x2 x3)(k:∀ x0:vK,∀ x1:v0,∀ x2:wM,∀ x3:yx,p0 x0 x1 x2 x3->p1 x0 x1 x2 x3->p2 x0 x1 x2 x3->p3 x0 x1 x2 x3->p4 x0 x1 x2 x3->p5 x0 x1 x2 x3->G):G:=by obtain ⟨x0,x1,x2,x3,h0,h1,h2,h3,h4,h5⟩:=h;exact k x0 x1 x2 x3 h0 h1 h2 h3 h4 h5
def e5a3 {vK:Sort _}{v0:Sort _}{wM:Sort _}{yx:Sort _}{A5:Sort _}{p0:vK->v0->wM->yx->A5->Prop}{p1:vK->v0->wM->yx->A5->Prop}{p2:vK->v0->wM->yx->A5->Prop}{G:Prop}(h:∃ x0:vK,∃ x1:v0,∃ x2:wM,∃ x3:yx,∃ x4:A5,p0 x0 x1 x2 x3 x4/\p1 x0 x1 x2 x3 x4/\p2 x0 x1 x2 x3 x4)(k:∀ x0:vK,∀ x1:v0,∀ x2:wM,∀ x3:yx,∀ x4:A5,p0 x0 x1 x2 x3 x4->p1 x0 x1 x2 x3 x4->p2 x0 x1 x2 x3 x4->G):G:=by obtain ⟨x0,x1,x2,x3,x4,h0,h1,h2⟩:=h;exact k x0 x1 x2 x3 x4 h0 h1 h2
def e5a4 {vK:Sort _}{v0:Sort _}{wM:Sort _}{yx:Sort _}{A5:Sort _}{p0:vK->v0->wM->yx->A5->Prop}{p1:vK->v0->wM->yx->A5->Prop}{p2:vK->v0->wM->yx->A5->Prop}{p3:vK->v0->wM->yx->A5->Prop}{G:Prop}(h:∃ x0:vK,∃ x1:v0,∃ x2:wM,∃ x3:yx,∃ x4:A5,p0 x0 x1 x2 x3 x4/\p1 x0 x1 x2 x3 x4/\p2 x0 x1 x2 x3 x4/\p3 x0 x1 x2 x3 x4)(k:∀ x0:vK,∀ x1:v0,∀ x2:wM,∀ x3:yx,∀ x4:A5,p0 x0 x1 x2 x3 x4->p1 x0 x1 x2 x3 x4->p2 x0 x1 x2 x3 x4->p3 x0 x1 x2 x3 x4->G):G:=by obtain ⟨x0,x1,x2,x3,x4,h0,h1,h2,h3⟩:=h;exact k x0 x1 x2 x3 x4 h0 h1 h2 h3
def e5a6 {vK:Sort _}{v0:Sort _}{wM:Sort _}{yx:Sort _}{A5:Sort _}{p0:vK->v0->wM->yx->A5->Prop}{p1:vK->v0->wM->yx->A5->Prop}{p2:vK->v0->wM->yx->A5->Prop}{p3:vK->v0->wM->yx->A5->Prop}{p4:vK->v0->wM->yx->A5->Prop}{p5:vK->v0->wM->yx->A5->Prop}{G:Prop}(h:∃ x0:vK,∃ x1:v0,∃ x2:wM,∃ x3:yx,∃ x4:A5,p0 x0 x1 x2 x3 x4/\p1 x0 x1 x2 x3 x4/\p2 x0 x1 x2 x3 x4/\p3 x0 x1 x2 x3 x4/\p4 x0 x1 x2 x3 x4/\p5 x0 x1 x2 x3 x4)(k:∀ x0:vK,∀ x1:v0,∀ x2:wM,∀ x3:yx,∀ x4:A5,p0 x0 x1 x2 x3 x4->p1 x0 x1 x2 x3 x4->p2 x0 x1 x2 x3 x4->p3 x0 x1 x2 x3 x4->p4 x0 x1 x2 x3 x4->p5 x0 x1 x2 x3 x4->G):G:=by obtain ⟨x0,x1,x2,x3,x4,h0,h1,h2,h3,h4,h5⟩:=h;exact k x0 x1 x2 x3 x4 h0 h1 h2 h3 h4 h5
def e6a2 {vK:Sort _}{v0:Sort _}{wM:Sort _}{yx:Sort _}{A5:Sort _}{Sw:Sort _}{p0:vK->v0->wM->yx->A5->Sw->Prop}{p1:vK->v0->wM->yx->A5->Sw->Prop}{G:Prop}(h:∃ x0:vK,∃ x1:v0,∃ x2:wM,∃ x3:yx,∃ x4:A5,∃ x5:Sw,p0 x0 x1 x2 x3 x4 x5/\p1 x0 x1 x2 x3 x4 x5)(k:∀ x0:vK,∀ x1:v0,∀ x2:wM,∀ x3:yx,∀ x4:A5,∀ x5:Sw,p0 x0 x1 x2 x3 x4 x5->p1 x0 x1 x2 x3 x4 x5->G):G:=by obtain ⟨x0,x1,x2,x3,x4,x5,h0,h1⟩:=h;exact k x0 x1 x2 x3 x4 x5 h0 h1
def e7a2 {vK:Sort _}{v0:Sort _}{wM:Sort _}{yx:Sort _}{A5:Sort _}{Sw:Sort _}{α6:Sort _}{p0:vK->v0->wM->yx->A5->Sw->α6->Prop}{p1:vK->v0->wM->yx->A5->Sw->α6->Prop}{G:Prop}(h:∃ x0:vK,∃ x1:v0,∃ x2:wM,∃ x3:yx,∃ x4:A5,∃ x5:Sw,∃ x6:α6,p0 x0 x1 x2 x3 x4 x5 x6/\p1 x0 x1 x2 x3 x4 x5 x6)(k:∀ x0:vK,∀ x1:v0,∀ x2:wM,∀ x3:yx,∀ x4:A5,∀ x5:Sw,∀ x6:α6,p0 x0 x1 x2 x3 x4 x5 x6->p1 x0 x1 x2 x3 x4 x5 x6->G):G:=by obtain ⟨x0,x1,x2,x3,x4,x5,x6,h0,h1⟩:=h;exact k x0 x1 x2 x3 x4 x5 x6 h0 h1
def us0 {α:Type}{P:List α->Prop}(h:P [])(us:List α)(e:us.length=0):P us:=by
 cases us with
 |nil=>exact h
 |cons=>cases e
def us1 {α:Type}{P:List α->Prop}(h:∀ a,P [a])(us:List α)(e:us.length=1):P us:=by
 cases us with
 |nil=>cases e
 |cons a t=>exact us0 (P:=fun t=>P (a :: t)) (h a) t (Nat.succ.inj e)
def us2 {α:Type}{P:List α->Prop}(h:∀ a b,P [a,b])(us:List α)(e:us.length=2):P us:=by
 cases us with
 |nil=>cases e
 |cons a t=>exact us1 (P:=fun t=>P (a :: t)) (h a) t (Nat.succ.inj e)
def us3 {α:Type}{P:List α->Prop}(h:∀ a b c,P [a,b,c])(us:List α)(e:us.length=3):P us:=by
 cases us with
 |nil=>cases e
 |cons a t=>exact us2 (P:=fun t=>P (a :: t)) (h a) t (Nat.succ.inj e)
def us4 {α:Type}{P:List α->Prop}(h:∀ a b c d,P [a,b,c,d])(us:List α)(e:us.length=4):P us:=by
 cases us with
 |nil=>cases e
 |cons a t=>exact us3 (P:=fun t=>P (a :: t)) (h a) t (Nat.succ.inj e)
def cutG {α:Sort _}{G:α->Prop}{P:Prop}(k:(∀ a,G a)->P)(h:∀ a,G a):P:=k h
def cutP {G P:Prop}(k:G->P)(h:G):P:=k h
def lx0 {α:Type}(us:List α)(e:us.length=0):us=[]:=us0 (P:=fun us=>us=[]) rfl us e
def lx1 {α:Type}(us:List α)(e:us.length=1):∃ a,us=[a]:=us1 (P:=fun us=>∃ a,us=[a]) (fun a=>#[a,rfl]) us e
def lx2 {α:Type}(us:List α)(e:us.length=2):∃ a b,us=[a,b]:=us2 (P:=fun us=>∃ a b,us=[a,b]) (fun a b=>#[a,b,rfl]) us e
open PySem renaming wpAny_bind->am,wpAny_pure->ap,Addr->ci,Value->cr,starEach->gJ,sizeLine->gL,Shared->gN,wpAny->gR,model->gU,mainGlobals->g9,Stmt->ic,Program->iu,wpAny_holding->iz,Expr->iA,attributeBase->iD,FuncData->iE,wpAny_newObj_type->iH,Heap->iJ,World->iO,wpAny_call_entry->iP,behindInMarks->iQ,wpAny_mono->iW,wpAny_field->iX,wpAny_setState_of->iZ,sizeLine_eq->i8,backTo->ja,compareOp->jj,Around->jq,excClassObj->jw,swapsWith->jx,wpAny_askSetting->jz,SetTable->jC,wpAny_loadPart_at->jF,codeAny_builtin->jG,wpAny_setField_rec->jI,codeAny_mono->jN,cLine->jX,mem_of_lookup->jY,wpAny_truthy_bool->j4,foldedSetIterable->j7,intKind->kj,ExcBaseFacts->kq,keywordEach->kA,wpAny_Call_Name_kw->kE,holding->kF,wpAny_loadName_local->kJ,wpAny_typeOf->kK,sysModules->kO,plainId_quiet->kP,wpAny_seqItems->kU,unsupported->lh,tupleKind_room_in1->lm,wpAny_passesOwn->lw,rawInt->lF,builtinLookup_eq_fast->lH,Scope->lV,wpAny_rule->lW,getMethod->lY,wpAny_isInstance->l9,binaryOp->mo,backToKw->mq,boot_len->mw,standAt->my,codeAny->mz,codeAny_of_tree->mB,wpAny_call->mD,wpAny_of_eq->mF,bootBuiltins->mM,callWith->mO,wpAny_setField->mS,typeLookup->m8,hashInt->ng,wpAny_standAt->nj,Obj->nq,sliceBounds->nw,codeAny_call_builtin->nA,wpAny_execs_nil->nN,typeLookup_type->nQ,getItem->nY,call_meetsIn->n8,builtinsNs->oo,closureFor->ot,relabel->oN,wpAny_attempt->oV,wpAny_comprehension_free->oW,wpAny_onRaise->oX,tupleKind->oZ,GenState->o5,wpAny_Name->pE,assignEach->pF,Keyword->pH,intKind_is->pJ,sub_set_self->pK,wpAny_specialOf->pM,wpAny_updateSeq->pQ,IsPart->qc,firstArgMember->qf,IsPair->qi,wpAny_updateSeq_pair->qj,valueAt->qo,wpAny_loadName_free->qt,wpAny_setEntries_of->qy,wpAny_isSubtype_exc->qD,CmpOp->qE,isTrue->qJ,wpAny_load->qK,wpAny_pyIter_tuple->qL,wpAny_Call_method->rc,callerA->rf,cStatics->rj,ks_wpAt_mono->ro,plainObj_wpAny_Assign_Attribute->rA,wpAny_eqBool_int->rJ,PassesOwn->rK,argsOk->rM,subscripted->rT,IsZip->r9,wpAny_letGo->sd,Within->sg,wpAny_AugAssign_SubscriptAny->sj,letOwnedTupleGo->sk,wpAny_tests_nil->sv,setItem->sA,BindsTo->sD,OwnTail->sI,wpAny_Compare1->sK,assign->sL,recursionLimit->sN,bindArgs->sO,atKey->sS,relayAll->sV,storeSet->sW,entryFor->sX,entryFor_alias->sY,wpAny_runValue->sZ,isSubtype_type->td,compEnvC->tm,refuseLoop->tD,evalPart_none->tQ,wpAny_getItem_list_slice->tR,call->tS,wpAny_newList->tU,wpAt->tW,table->ud,pickOrder->ue,TriplesOk->uh,noteFrame->ui,field->uj,spliced->ur,truthy->ut,leaving->uu,seqIndex_neg->uw,typeOf->uy,wpAny_Call_method_late->uz,wpAny_isTrue_Compare1->uH,weight_type_call_type->uK
open PySem.Heap renaming get?_push_of_some->ce,lt_size->gP,get?_push_size->gX,get?_update_other->iB,get?_update_self->iL,SameBut->iU,size_push->jt,FlyingW->lK,get?_none_of_le->mV,get?_push_at->oi,size_update->oA,get?_update_ne->pT,IsTuple->qq,MadeExcOf->rH
open PySem.W renaming Frag->gH,nsIn->hJ,findIn->ii,envX->iR,mg_of->i4,keepIn->jb,excIn->jh,codeIn->jm,fnOf->jv,Looks->jA,kia_one->jB,emptyDict->jH,ks_superIn->jO,instObj->ky,fnX->kC,mroIn->kD,hideAll->lQ,methodObj->mh,fnIn->ml,plainGet->mC,clsIn->mG,kas_rev_size->mU,of_hideAll->m6,kitOne->m7,exmAny->nc,hasDictIn->nE,tabIn->nS,isFn->oq,methodCall_KW->oE,lookIn->oP,typeIn->oQ,looks_findIn->oR,hideAll_get->o4,plainGet_of->o6,looks_clsIn->o7,callWith_of->pi,looks_mroIn->pq,ks_superObj->pw,callWith_K->pG,isNs_of_in->pL,plainOver->pV,takerIn->qu,makesIn->qv,OpenLaw->qz,CodeHd->qP,tabObj->qQ,ks_loadName_global->qR,exmOne->qS,MethP->rq,kas_rev->rr,cellsFrom_some->rL,funFrames_hide->rN,hideAll_none->sh,looks_opaque->sy,callWith_K0->sE,codeRec_of->sQ,tail_of_in->tq,mg_none_of->tz,specialIn->tF,kitx_list->tG,kitx_dict->tH,handedIn->tP,kat_cons->tX,takesIn->tZ,keeps_M->uk,alongIn->ul,kas_place->uo,kat_yes->uq,kat_go->uE,kat_no->uF,nsOkIn->uG,WalkO->uL
open Nat renaming le_refl->gK,ne_of_lt->gZ,lt_of_lt_of_le->hR,le_trans->ij,zero_le->iN,ne_of_gt->je,lt_succ_self->ji,lt_irrefl->jJ,le_of_lt_succ->jW,le_succ->lG,le_of_lt->lM,succ_pos->mE,lt_trans->ny,lt_of_le_of_lt->nO,mod_lt->nP,lt_succ_of_lt->ol,le_add_right->oF,le_of_eq->qw,sub_self->qC,le_of_not_lt->qM,zero_add->sU,div_lt_of_lt_mul->tT,lt_trichotomy->uI
open List renaming length_map->gM,mem_cons_self->gO,mem_cons_of_mem->gS,length_append->gW,size_toArray->gY,mem_append_right->hV,length_singleton->hW,length_filter_le->hX,length_cons->hZ,range->h8,map_cons->ik,mem_cons->im,lookup_cons->iC,mem_append_left->iI,find?_cons->iM,not_mem_nil->jc,getD_eq_getElem?_getD->jg,take_of_length_le->jl,filter_cons->jo,getElem?_eq_getElem->jp,mem_of_getElem?->ju,getElem?_map->jy,map_append->jE,getElem?_append_right->jK,mem_filter->jL,pairwise_singleton->jV,lookup->kf,getElem?_eq_none->ku,filterMap_cons->kI,replicate->kM,map_map->kT,append_nil->kX,length_range->lp,getElem?_of_mem->lx,length_take->lJ,getElem?_append_left->lN,map_congr_left->lU,length_set->lZ,mem_append->l6,mem_singleton->mf,perm_append_comm->mH,length_drop->mJ,getElem?_set_ne->mW,take_append_of_le_length->mX,length_nil->mZ,nodup_nil->nJ,drop_eq_getElem_cons->nV,length->nZ,reverse_cons->n6,append_assoc->oa,filter_congr->oh,any_cons->oj,eraseIdx_cons_succ->ou,all_eq_true->oB,getElem?_set_self->oK,map_nil->oM,filterMap_eq_map'->oO,of_mem_zip->oS,all_cons->pX,ext_getElem?->qp,eraseIdxIfInBounds_toArray->qx,any_eq_true->qH,filter_map->qX,getElem?_take_of_lt->rS,findIdx?->rX,getElem?_replicate->sr,getElem?_cons_succ->sx,pairwise_lt_range->sH,length_replicate->sP,take_append_drop->sT,getElem?_range->tV,filterMap_map->t6,getElem?_take->t7,getElem?_drop->t9,map_filterMap->uc,contains_cons->um,take_sublist->uv,getElem_mem->uJ,drop_length->uM,zipIdx_cons->uN,take_length->uO,getElem_map->uP
open Array renaming length_toList->gQ,getElem?_toList->iF,getElem?_eq_getElem->jk,getD_eq_getD_getElem?->k8,size_map->mr,toList_extract->mQ,toList_append->pI,append_assoc->pU,toList_push->qd,toList->si,getElem?_eq_none->sw,find?_toList->tO
open Bool renaming false_ne_true->gV,and_eq_true->iq,false_eq_true->kS,eq_iff_iff->kW,xor_assoc->nM,and_self->pZ,false_xor->rF,xor_false->rG,or_false->rY,not_eq_true'->uD
open PySem.SetTable renaming below->hI,sizeAbove->iK,eraseAt->iV,runEnd->i5,insertAt->i9,bits->jd,leap->jZ,fresh->kd,has->kB,turns->kG,fill->kQ,Probe->k9,advance->lu,grown->md,laid->nI,freeSlot->pO,layClean->pP,probe->qG,slot->qV,roomFor->tL,fits->uB,road->uC
open PySem.Value renaming ref->hO,type->jU,int->lE,isInt->mK,bool->qZ,float->sJ
open Sum renaming inl->il,inr->qr
open PySem.F renaming excBase_ValueError->io,slot_dict_get->kh,slot_tuple_iterator_next->lP,entry_dict_get->mi,plainAttrs_dict->n9,plainAttrs_list->og,plain_list_iadd->oz,plain_set_new->pB,slot_zip_next->pC,plain_extend_loop->qg,slot_dict_delitem->qU,args_dict_get_2->rB,args_dict_get_3->rC,args_tuple_iterator_next_1->rO,slot_dict_pop->rV,type_dict_get->rW,entry_tuple_iterator_next->r8,slot_list_pop->se,type_list_pop->sf,entry_proto_collect->uf,plain_proto_collect->ug
open False renaming elim->iv
open List.Pairwise renaming nil->iw,filter->jM,imp->oT,sublist->qF
open Option renaming isSome_map->iG,getD_none->qm,map->tJ
open Option.some renaming inj->iT
open PySem.SetTable.layClean renaming free->iY
open PySem.Builtin.SmallTypes renaming nextOf->jf,ownedTupleIsFree->jR,ownedTupleHandOut->nL
open PySem.Around renaming under_plainId->jr,under->rR,frames_deeper->sF,under_plain->tN
open PySem.Calls renaming evalArgs_plain->js,spliced_cons->jQ,callWith_builtin->j0,spliced_nil->kZ,loadGlobal_builtin->nX,Name_function_global->q7,call_function_entry->rE
open PySem.SetTable.probe renaming go->jD
open PyProof.Rows renaming callWith_type1->jS,boot_list->jT,boot_sorted->ki,slot_tuple_getitem->ko,IntsAre->kR,seqObj->mj,AllBare->ni,boot_set->nW,envOfC->oC,callWith_builtin1->pA,boot_isinstance->pR,boot_tuple->qA,boot_bool->qI,Subscript_->sR,size_push'->tj,listUpdate_at->tY,subscriptTail_builtinR->ux
open Or renaming inl->kg,inr->pN
open PySem.Spec renaming sameAll->kH,same->kN
open PySem.Builtin.Slice renaming slicePlaces->kY,sliceAdjust->qa
open PySem.Builtin.Tuple renaming tupleExact->lj,tupleItemsOf->pW
open Int renaming toNat_natCast->lq,le_refl->om,emod_lt_of_pos->qk,emod_nonneg->rs,ne_of_lt->ts
open PySem.Builtin.List renaming listSameRef->lv,listExtendWith->pY
open PySem.W.KasT renaming kasWp->lA,kasWp_bind->m4
open PySem.Str renaming ofString->lO
open PySem.Heap.SameBut renaming refl->lR,update->oy
open PySem.Shared renaming TypeIs->lS
open PySem.PyData renaming canLayAll0->mn,depthAll->oH,canLay0->oY,eqv->pS,depth->rZ
open PySem.SeqAt renaming noMixAll->mu,noMix->pc,shaped->su
open ForInStep renaming yield->mI
open PySem.SetTable.below renaming go->mP
open Nat.succ renaming inj->mY
open Classical renaming byContradiction->m9
open Sum.inl renaming inj->nC
open PySem.Code renaming quiet_builtin->nK,isFrame->sC
open List.Perm renaming cons->oG,refl->oJ,append_left->rD,of_eq->tK
open PyProof.Rows.F renaming plain_set_update_loop->oU,entry_set_update_loop->tM
open PySem.Builtin.Frozenset renaming newClass->o9,oneOther->pf
open PySem.W.Looks renaming ld->pr
open String renaming splitOnAux->qb,splitOn->qW
open PySem.Heap.UpToSlots renaming of_keeps->qh
open PyProof.Rows.IntsAre renaming int_at->qN,length->qO
open PySem.Heap.IsSliceOf renaming new->qT
open Eq renaming mpr->qY
open PySem.pickOrder renaming go->rg
open PySem.SeqAt.EqAt renaming int_str->rP,str_int->rQ
open PySem.Heap.DictOf renaming new->sG
open PySem.Heap.Ns1 renaming of_empty->sM
open PySem.Data renaming fields->tE
open Function renaming comp->uA
abbrev gl:=@if_neg
abbrev gI:=@if_pos
abbrev g8:=@absurd
abbrev ie:=@decide_eq_true_eq
abbrev ig:=@decide_eq_false
abbrev jP:=@of_decide_eq_true
abbrev lX:=@or_false
abbrev o8:=@if_false
abbrev ph:=@beq_self_eq_true
abbrev qe:=@not_or
abbrev rh:=@bne_self_eq_false
def q0q{p:Prop}(h:p:=by decide):p:=h
def q0d{p:Prop}(h:p:=by omega):p:=h
def q0o{p:Prop}(h:p:=by simp):p:=h
def q0s{p:Prop}(h:p:=by decide +kernel):p:=h
def q0a{p:Prop}(h:p:=by lia):p:=h
namespace L2
open PySem PySem.Spec PyProof.Rows
abbrev Key:=Sum Int Str
noncomputable def zQ:Key->cr->Bool
 | .inl k,v=>mK k v
 | .inr x,v=>Value.isStrOf x v
noncomputable def a1e(w:iO):Key->Int
 | .inl k=>ng k
 | .inr x=>hashStr w x
def v4:∀{k:Key} {v:cr},zQ k v=true->(∃i t,k=il i/\v=lE i t)\/(∃x t,k=qr x/\v=Value.str x t)
 | .inl i,v,h=>by
  obtain⟨t,e⟩:=Value.isInt_shape (k:=i) (v:=v) h;exact .inl #[i,t,rfl,e]
 | .inr x,v,h=>by obtain⟨t,e⟩:=Value.isStrOf_shape (x:=x) (v:=v) h;exact .inr #[x,t,rfl,e]
def M3(i:Int)(t:Tok):zQ (.inl i) (.int i t)=true:=by simp[zQ,mK]
def M4(x:Str)(t:Tok):zQ (.inr x) (.str x t)=true:=by simp[zQ,Value.isStrOf]
def Wi(a b:Int):decide ((il a:Key)=il b)=(a==b):=by
 by_cases e:a=b
 ·subst e;simp
 ·have h:¬(il a:Key)=il b:=λq=>e<|nC q;rw[ig h];exact(beq_eq_false_iff_ne.mpr e).symm
def Wj(a b:Str):decide ((qr a:Key)=qr b)=decide (a=b):=by
 by_cases e:a=b
 ·subst e;simp
 ·have h:¬(qr a:Key)=qr b:=λq=>e<|Sum.inr.inj q;rw[ig h,ig e]
def Wk(a:Int)(b:Str):decide ((il a:Key)=qr b)=false:=ig<|λq=>nomatch q
def Wl(a:Str)(b:Int):decide ((qr a:Key)=il b)=false:=ig<|λq=>nomatch q
noncomputable def vz(prog:iu)(w:iO):PySem.KeyKind prog w Key where
 is:=zQ
 hash:=a1e w
 inj:=λv a b ha hb=>by
  rcases v4 ha with⟨i,t,rfl,rfl⟩|⟨x,t,rfl,rfl⟩
  ·rcases v4 hb with⟨j,u,rfl,e⟩|⟨y,u,rfl,e⟩
   ·injection e with e1 _;rw[e1]
   ·exact nomatch e
  ·rcases v4 hb with⟨j,u,rfl,e⟩|⟨y,u,rfl,e⟩
   ·exact nomatch e
   ·injection e with e1 _;rw[e1]
 byValue:=λk v h=>by rcases v4 h with⟨i,t,rfl,rfl⟩|⟨x,t,rfl,rfl⟩<;>rfl
 pyHash:=λhv h=>by
  rcases v4 hv with⟨i,t,rfl,rfl⟩|⟨x,t,rfl,rfl⟩
  ·exact wpAny_pyHash_int h
  ·exact wpAny_pyHash_str h
 eqBool:=λhu hv h=>by
  rcases v4 hu with⟨i,t,rfl,rfl⟩|⟨x,t,rfl,rfl⟩
  ·rcases v4 hv with⟨j,u,rfl,rfl⟩|⟨y,u,rfl,rfl⟩
   ·rw[Wi]at h;exact rJ h
   ·rw[Wk]at h;exact rP i t y u _ _ _ _ h
  ·rcases v4 hv with⟨j,u,rfl,rfl⟩|⟨y,u,rfl,rfl⟩
   ·rw[Wl]at h;exact rQ x t j u _ _ _ _ h
   ·rw[Wj]at h;exact wpAny_eqBool_str h
 «strs»:=λk x t v h=>by
  rcases v4 h with⟨i,u,rfl,e⟩|⟨y,u,rfl,e⟩
  ·exact nomatch e
  ·injection e with e1 _;subst e1;cases v<;>rfl
def Ik(a:iu)(w:iO)(i:Int)(t:Tok):(vz a w).is (.inl i) (.int i t)=true:=M3 i t
def Il(a:iu)(w:iO)(x:Str)(t:Tok):(vz a w).is (.inr x) (.str x t)=true:=M4 x t
set_option genInjectivity true in
inductive V where
 | wq|bl (b:Bool)|int (i:Int)|str (x:Str)|LU (b:Array UInt8)|Wm (b:UInt64)|ref (a:ci)|ty (n:String)
 deriving DecidableEq
def RelV:V->cr->Prop
 | .wq,u=>u=Value.none
 | .bl b,u=>u=qZ b
 | .int i,u=>∃t,u=lE i t
 | .str x,u=>∃t,u=Value.str x t
 | .LU b,u=>∃t,u=Value.bytes b t
 | .Wm b,u=>∃t,u=sJ b t
 | .ref a,u=>u=hO a
 | .ty n,u=>u=jU n
abbrev Vals:List V->List cr->Prop:=Paired RelV
def Vals.length{xs:List V}{us:List cr}(r:Vals xs us):xs.length=us.length:=Paired.length r
def Vals.get:∀{a:List V} {b:List cr} {i:Nat} {x:V},Vals a b->a[i]?=↑x->∃u,b[i]?=↑u/\RelV x u:=by
 intro _ _ i x z
 induction z generalizing i with
 |nil=>intro e;simp at e
 |cons r t c =>
  intro e
  cases i with
  |zero=>simp at e;subst e;exact#[_,rfl,r]
  |succ i=>exact e1a2 (c<|by simpa using e) λu d f=>#[u,by simpa using d,f]
def Vals.set(r:RelV x u):∀{a:List V} {b:List cr} (i:Nat),Vals a b->Vals (a.set i x) (b.set i u)
 |_,_,_,.nil=>.nil
 |_,_,0,.cons _ t=>.cons r t
 |_,_,i+1,.cons q t=>.cons q<|Vals.set r i t
def Vals.append:∀{a b:List V} {c d:List cr},Vals a c->Vals b d->Vals (a++b) (c++d):=by
 intro _ _ _ _ z s
 induction z with
 |nil=>exact s
 |cons h t e=>exact .cons h e
def Vals.take:∀{a:List V} {b:List cr} (n:Nat),Vals a b->Vals (a.take n) (b.take n)
 |_,_,0,_=>.nil
 |_,_,_+1,.nil=>.nil
 |_,_,n+1,.cons r t=>.cons r<|Vals.take n t
def Vals.drop:∀{a:List V} {b:List cr} (n:Nat),Vals a b->Vals (a.drop n) (b.drop n)
 |_,_,0,r=>r
 |_,_,_+1,.nil=>.nil
 |_,_,n+1,.cons _ t=>Vals.drop n t
def zl:Option V->Option cr->Prop
 |some v,some u=>RelV v u
 |none,none=>True
 |_,_=>False
def KV{a:Type}:List (a×V)->List (a×cr)->Prop:=Paired λ(p:a×V)(q:a×cr)=>p.1=q.1/\RelV p.2 q.2
noncomputable def kV:Key->V
 | .inl i=>.int i
 | .inr x=>.str x
inductive HO where
 | lst (xs:List V)
 | tup (xs:List V)
 | dK (xh:List (Key×V))|dT (xh:List (List Key×V))
 | set (S:Int->Bool) (n:Nat)
 | ins (C dx:ci) (fs:List (Str×V))
 | own (x:ci)
 | xd (fs:List (Str×V))
 | met (f x:ci)
 | yW (lo hi:Int)
 | JP (o:Obj) (u:HO)
 | Fa (ps:Array cr)
 | ext (φ:iJ->Prop)
abbrev Hp:=ci->Option HO
noncomputable def upd(H:Hp)(a:ci)(o:HO):Hp:=λb=>if b=a then some o else H b
def uT:upd H a o a=↑o:=by unfold upd;rw[gI rfl]
def uR(h:b≠a):upd H a o b=H b:=by unfold upd;rw[gl h]
def Sy:upd (upd H a o) a u=upd H a u:=by funext b;unfold upd;split<;>rfl
def YT{H:Hp}{a b:ci}{o u:HO}(h:H a=↑o)(c:H b=↑u)(d:o≠u):a≠b:=by intro e;subst e;rw[h]at c;exact d<|iT c
def u4{H:Hp}{a b:ci}{o:HO}(h:H a=↑o)(c:H b=none):a≠b:=by intro e;subst e;rw[h]at c;cases c
section
variable(P:iu)(w:iO)
def vY(H:Hp)(h:iJ)(a:ci):HO->Prop
 | .lst xs=>xs.length<=gL/\∃(vh:List cr)(n:Nat),Vals xs vh/\h.get? a=some 78
 | .tup xs=>xs.length<=gL/\∃vh:List cr,Vals xs vh/\IsTup h a vh.toArray
 | .dK xh=>xh.length<=gL/\(a==kO)=false/\∃vs,KV xh vs/\h.DictOf (vz P w) a vs
 | .dT xh=>xh.length<=gL/\(a==kO)=false/\∃xs:List (List Key×ci×cr),
   Paired (λ(p:List Key×V)(q:List Key×ci×cr)=>p.1=q.1/\H q.2.1=↑(.tup<|p.1.map kV)/\RelV p.2 q.2.2) xh xs /\
   ∃o es ep,h.get? a=↑o/\o.ExactDict/\o.data=.dict es ep/\es.toList=xs.map (entryOfKey<|oZ<|vz P w)/\(xs.map (·.1)).Nodup
 | .set S n=>h.SetOf (kj P w) a S n
 | .ins C dx fs=>H dx=↑(.own a)/\fs.length<=1000/\dx≠a/\h.get? a=↑(ky C dx) /\
   ∃mA,h.Ns1 dx mA/\(∀f,zl (fs.lookup f)<|mA f)/\sg mA (fs.map (·.1))
 | .own _=>∃o,h.get? a=↑o
 | .xd fs=>∃mA,h.Ns1 a mA/\∀f,zl (fs.lookup f)<|mA f
 | .yW lo hi=>∃t u v,h.get? a=some { cls:=.type "range",data:=.fields #v[.int lo t,.int hi u,.int 1 v]}
 | .JP o u=>h.get? a=↑o/\vY H h a u
 | .Fa ps=>h.get? a=some { cls:=.none,data:=.fields ps}
 | .met f x=>h.get? a=↑(mh (.ref f)<|.ref x)
 | .ext φ=>φ h/\(∃o,h.get? a=↑o)/\∀h1 h2:iJ,φ h1->(∀o,h1.get? a=↑o->h2.get? a=↑o)->φ h2
def xR(H:Hp)(h:iJ):Prop:=∀a o,H a=↑o->vY P w H h a o
end
def vY.lt(x:vY P w H h a o):a<h.objs.size:=by
 cases o with
 |lst c=>obtain⟨_,_,_,_,e⟩:=x;exact gP e
 |tup c=>obtain⟨_,_,_,p⟩:=x;exact p.lt
 |dK b=>obtain⟨_,_,_,_,o,_,_,e,_⟩:=x;exact gP e
 |dT b=>obtain⟨_,_,_,_,o,_,_,e,_⟩:=x;exact gP e
 |set S n=>obtain⟨o,_,_,_,e,_⟩:=x;exact gP e
 |ins C d fs=>obtain⟨_,_,_,e,_⟩:=x;exact gP e
 |own y=>obtain⟨_,e⟩:=x;exact gP e
 |xd fs=>obtain⟨_,⟨_,_,_,e,_⟩,_⟩:=x;exact gP e
 |yW lo g=>obtain⟨_,_,_,e⟩:=x;exact gP e
 |JP i u=>obtain⟨e,_⟩:=x;exact gP e
 |Fa j=>exact gP<|show h.get? a=some _ from x
 |met f y=>exact gP<|show h.get? a=some _ from x
 |ext k=>obtain⟨_,⟨_,e⟩,_⟩:=x;exact gP e
def Paired.Wn:∀{c:List g} {d:List i},Paired F c d->(∀a b,F a b->G a b)->Paired G c d:=by
 intro _ _ z f
 induction z with
 |nil=>exact .nil
 |cons h t e=>exact .cons (f _ _ h) e
def vY.C6(x:vY P w H h a o)(k:∀b u,(b=a\/H b=↑(.own a))->h.get? b=↑u->E.get? b=↑u)
 (F:∀b,H b=↑(.own a)->B b=↑(.own a))(G:∀b l,H b=↑(.tup l)->B b=↑(.tup l)):vY P w B E a o:=by
  induction o with
  |lst l=>obtain⟨z,vh,n,r,e⟩:=x;exact#[z,vh,n,r,k _ _ (.inl rfl) e]
  |tup l=>obtain⟨z,vh,r,g,e,c⟩:=x;exact#[z,vh,r,g,k _ _ (.inl rfl) e,c]
  |dK m=>obtain⟨z,y,I,r,g,i,j,e,c⟩:=x;exact#[z,y,I,r,g,i,j,k _ _ (.inl rfl) e,c]
  |dT m =>
    obtain⟨z,y,l,r,g,i,j,e,c⟩:=x
    exact#[z,y,l,Paired.Wn r λp q z=>#[z.1,G _ _ z.2.1,z.2.2],g,i,j,k _ _ (.inl rfl) e,c]
  |set S n=>obtain⟨g,i,j,t,e,c⟩:=x;exact#[g,i,j,t,k _ _ (.inl rfl) e,c]
  |ins C O fs =>
    obtain⟨d,z,J,e,s,⟨A,i,j,L,c⟩,r⟩:=x
    exact#[F _ d,z,J,k _ _ (.inl rfl) e,s,#[A,i,j,k _ _ (.inr d) L,c],r]
  |own y=>obtain⟨g,e⟩:=x;exact#[g,k _ _ (.inl rfl) e]
  |xd fs=>obtain⟨s,⟨A,i,j,e,c⟩,r⟩:=x;exact#[s,#[A,i,j,k _ _ (.inl rfl) e,c],r]
  |yW lo Q=>obtain⟨t,u,v,e⟩:=x;exact#[t,u,v,k _ _ (.inl rfl) e]
  |JP g u M=>obtain⟨e,q⟩:=x;exact#[k _ _ (.inl rfl) e,M q]
  |Fa N =>
    have e:h.get? a=some { cls:=.none,data:=.fields N}:=x
    exact k a _ (.inl rfl) e
  |met f y =>
    have e:h.get? a=↑(mh (.ref f)<|.ref y):=x
    exact k a _ (.inl rfl) e
  |ext R=>obtain⟨p,⟨o,e⟩,D⟩:=x;exact#[D _ _ p λo q=>k _ _ (.inl rfl) q,#[o,k _ _ (.inl rfl) e],D]
def xR.lt(x:xR P w H h)(e:H a=↑o):a<h.objs.size:=(x a o e).lt
def xR.fresh(x:xR P w H h)(e:h.objs.size<=a):H a=none:=by
 cases q:H a with
 |none=>rfl
 |some u=>exact g8 (hR (x.lt q) e)<|jJ _
def xR.kept(x:xR P w H h)(k:∀b u,h.get? b=↑u->c.get? b=↑u):xR P w H c:=λa o e =>
 (x a o e).C6 (λb u _ q=>k b u q) (λ_ q=>q) λ_ _ q=>q
def xR.laid(x:xR P w H h)(k:∀b u,h.get? b=↑u->h'.get? b=↑u)(i:h.objs.size<=a)(d:vY P w (upd H a o) h' a o):xR P w (upd H a o) h':=λb u e=>by
 have f:=x.fresh i;by_cases g:b=a
 ·subst g;rw[uT]at e;cases e;exact d
 ·rw[uR g]at e;exact(x b u e).C6 (λc v _ q=>k c v q) (λc q=>by rw[uR<|u4 q f];exact q) λc j q=>by rw[uR<|u4 q f];exact q
def Rd(H:Hp)(a:ci)(u:HO):Prop:=H a=↑u\/∃o,H a=↑(.JP o u)
def Rd.of(h:H a=↑u):Rd H a u:=.inl h
def Rd.ok(r:Rd H a u)(x:xR P w H h):vY P w H h a u:=by
 rcases r with r|⟨o,r⟩
 ·exact x a u r
 ·obtain⟨_,q⟩:=x a _ r;exact q
def YU:Option HO->Prop
 |some (.lst _)=>True
 |some (.dK _)=>True
 |some (.dT _)=>True
 |some (.set _ _)=>True
 |some (.ins _ _ _)=>True
 |some (.ext _)=>True
 |_=>False
def xR.write(t:xR P w H h)(g:YU (H x))(o:e=x\/H e=↑(.own x))(k:∀b u,b≠e->h.get? b=↑u->h'.get? b=↑u)(m:∃u,h'.get? e=↑u)
 (n:vY P w (upd H x p) h' x p):xR P w (upd H x p) h':=λb u q=>by
  have d:∀c y,H c=↑(.own y)->c≠x:=λc y r z=>by subst z;rw[r]at g;exact g
  have f:∀c i,H c=↑(.tup i)->c≠x:=λc i r z=>by subst z;rw[r]at g;exact g
  by_cases j:b=x
  · subst j; rw[uT]at q; cases q; exact n
  · rw[uR j]at q
    by_cases a:b=e
    · have s : H b = some (.own x) := by
        rcases o with z|z
        · exact g8 (a.trans z) j
        · rw[a]; exact z
      rw[q]at s;cases s
      obtain⟨v,A⟩:=m
      exact#[v,by rw[a];exact A]
    · refine(t b u q).C6 (λc v l r => k c v ?_ r) (λc r => by rw[uR<|d c b r]; exact r) λc i r => by rw[uR<|f c i r]; exact r
      rcases l with rfl|l
      · exact a
      · rintro rfl
        rcases o with z|z
        · exact d c b l z
        · rw[l]at z; cases z; exact j rfl
structure Un(fs ex:List ci)(H H':Hp)(h h':iJ):Prop where
 keep:∀b o,h.get? b=↑o->H b=none->b∉fs->b∉ex->h'.get? b=↑o
 slot:∀b o,h.get? b=↑o->H b=none->b∈fs->b∉ex->∃sl,h'.get? b=some { o with slots:=sl}
 free:∀b o,h.get? b=↑o->H b=none->b∉ex->H' b=none
 there:∀b o,h.get? b=↑o->b∉ex->∃o',h'.get? b=↑o'
 Bo:∀b xs,H b=↑(.tup xs)->H' b=↑(.tup xs)
 A6:∀b o u,H b=↑(.JP o u)->H' b=↑(.JP o u)
 A7:∀b ps,H b=↑(.Fa ps)->∃more,H' b=↑(.Fa<|ps++more)
def Un.any(u:Un fs e H H1 h f)(q:h.get? b=↑a)(n:H b=none)(c:b∉e):∃g,f.get? b=some { a with slots:=g}:=by
 by_cases d:b∈fs
 ·exact u.slot b a q n d c
 ·exact#[a.slots,u.keep b a q n d c]
def Un.trans(a:Un fs ex H H1 h h1)(b:Un fs ex H1 H2 h1 h2):Un fs ex H H2 h h2 where
 keep:=λc ob q n hc hx=>b.keep c ob (a.keep c ob q n hc hx) (a.free c ob q n hx) hc hx
 slot:=λc ob q n hc hx=>by obtain⟨sl,e1⟩:=a.slot c ob q n hc hx;obtain⟨sl',e2⟩:=b.slot c _ e1 (a.free c ob q n hx) hc hx;exact#[sl',e2]
 free:=λc ob q n hx=>by obtain⟨o',e1⟩:=a.there c ob q hx;exact b.free c o' e1 (a.free c ob q n hx) hx
 there:=λc ob q hx=>by obtain⟨o',e1⟩:=a.there c ob q hx;exact b.there c o' e1 hx
 Bo:=λc xs q=>b.Bo c xs<|a.Bo c xs q
 A6:=λc ob xs q=>b.A6 c ob xs<|a.A6 c ob xs q
 A7:=λc ps q=>by obtain⟨m1,e1⟩:=a.A7 c ps q;obtain⟨m2,e2⟩:=b.A7 c _ e1;exact#[m1++m2,by rw[e2,pU]]
def Un.kept(k:∀b u,h.get? b=↑u->c.get? b=↑u):Un fs d H H h c :=
 #[λb a q _ _ _=>k b a q,λb a q _ _ _=>#[a.slots,k b a q],λ_ _ _ n _=>n,λb a q _=>#[a,k b a q],λ_ _ q=>q,λ_ _ _ q=>q,λ_ e q=>#[#v[],by rw[q];simp]]
def Un.refl:Un fs a H H h h:=Un.kept λ_ _ q=>q
def Un.laid(k:∀b u,h.get? b=↑u->h'.get? b=↑u)(hp:h.objs.size<=a)(hn:H a=none):Un fs ex H (upd H a o) h h' where
 keep:=λb u q _ _ _=>k b u q
 slot:=λb u q _ _ _=>#[u.slots,k b u q]
 free:=λb u q n _=>by rw[uR<|gZ<|hR (gP q) hp];exact n
 there:=λb u q _=>#[u,k b u q]
 Bo:=λb xs q=>by rw[uR<|u4 q hn];exact q
 A6:=λb u xs q=>by rw[uR<|u4 q hn];exact q
 A7:=λb ps q=>#[#v[],by rw[uR<|u4 q hn,q];simp]
def Un.write(c:YU (H x))(j:e=x\/H e=↑(.own x))(k:∀b u,b≠e->h.get? b=↑u->h'.get? b=↑u)(d:∃u,h'.get? e=↑u):Un fs p H (upd H x o) h h':=by
 have g:∀b,H b=none->b≠x:=λb n z=>by subst z;rw[n]at c;exact c
 have i:∀b,H b=none->b≠e:=λb n z=>by
  subst z;rcases j with r|r
  ·exact g b n r
  ·rw[n]at r;cases r
 have f:∀b u,H b=↑u->¬YU ↑u->b≠x:=λb u q l z=>by subst z;rw[q]at c;exact l c
 refine#[λb u q n _ _=>k b u (i b n) q,λb u q n _ _=>#[u.slots,k b u (i b n) q],λb u q n _=>by rw[uR (g b n)];exact n,λb u q _=>?_,
  λb m q=>by rw[uR (f b _ q λz=>z)];exact q,λb u m q=>by rw[uR (f b _ q λz=>z)];exact q,λb s q=>#[#v[],by rw[uR (f b _ q λz=>z),q];simp]]
 by_cases a:b=e
 ·subst a;exact d
 ·exact#[u,k b u a q]
noncomputable def trk(h:iJ)(H:Hp):List ci:=(h8 h.objs.size).filter λa=>(H a).isSome
noncomputable def Im(h:iJ)(H:Hp):iJ:=lQ h<|trk h H
def M5(h:iJ)(H:Hp):(Im h H).objs.size=h.objs.size:=PySem.W.hideAll_size _ _
def DH{h:iJ}(e:h.get? b=↑o)(n:H b=none):(Im h H).get? b=↑o :=
 o4 _ e λa=>by have q:(H b).isSome=true:=(List.mem_filter.mp a).2;rw[n]at q;simp at q
def Sz(e:(Im h H).get? b=↑o):h.get? b=↑o/\H b=none:=by
 have a:h.get? b=↑o:=m6 (trk h H) e;refine#[a,?_]
 cases q:H b with
 |none=>rfl
 |some x =>
  have c:b∈trk h H:=List.mem_filter.mpr #[List.mem_range.mpr<|gP a,by simp[q]];have z:(Im h H).get? b=none:=sh (trk h H) c;rw[z]at e;cases e
noncomputable def SA(g h:iJ)(L:ci):List (ci×Obj):=(h8 h.objs.size).filterMap λa=>if a=L\/(g.get? a).isSome=true then none else (h.get? a).map λo=>(a,o)
noncomputable def rest(g h:iJ)(L d:ci):List (ci×Obj):=(SA g h L).filter λp=>decide<|p.1≠d
structure Mod(K:gH)(mg:Str->Option cr)(base:iJ):Prop where
 Bm:K.In base
 glob:base.Ns g9 mg
 blt:∃mb,base.Ns oo mb/\∀x:Str,x≠"__name__"->mb x=mM x
 nolimit:base.NoLimit
structure Cx where
 prog:iu
 w:iO
 K:gH
 mg:Str->Option cr
 base:iJ
 A:jq
 N:List Str
 s₀:gN
 H₀:Hp
 env:Env
 outer:List Env
 stack:List Env
 ex:List ci
 fn:Str->Bool
 calm:Bool
 pn:List (ci×Obj)
 xe:cr->gN->Prop
noncomputable def zj(l:List Env):List ci:=l.filterMap (·.frame)
noncomputable abbrev Cx.fs(X:Cx):List ci:=zj X.outer
def Vis(a:lV)(x:Str):Prop:=a.names.lookup x=some .local\/a.names.lookup x=some .cell\/a.names.lookup x=some .free
def Loc(a:lV)(x:Str):Prop:=a.names.lookup x=some .local\/a.names.lookup x=some .cell
def Look(a:Env)(h:iJ)(m:Str->Option cr)(x:Str)(u:cr):Prop :=
 (a.kindOf x=some .local/\m x=↑u)\/((a.kindOf x=some .cell\/a.kindOf x=some .free)/\∃c,a.cells.lookup x=↑c/\h.IsCell c ↑u)
structure Cx.Ok(X:Cx):Prop where
 mod:Mod X.K X.mg X.base
 kind:X.env.scope.kind=.function
 glob:X.env.globals=g9
 blt:X.env.builtins=oo
 above:X.s₀.heap.objs.size<=X.env.locals
 inj:∀x y c,X.env.cells.lookup x=↑c->X.env.cells.lookup y=↑c->x=y
 has:∀x,(X.env.kindOf x=some .cell\/X.env.kindOf x=some .free)->∃c,X.env.cells.lookup x=↑c
 Ov:∀x c,X.fn x=true->X.env.cells.lookup x=↑c->X.s₀.heap.objs.size<=c
 hd:X.calm=true->X.A.handled=none
 frames:X.A.frames=↑X.stack
 Cc:X.stack=X.outer\/(X.stack=X.env::X.outer/\X.env.frame=↑X.env.locals)
 SE:∀b∈X.ex,b≠X.env.locals/\∀x c,X.env.cells.lookup x=↑c->c≠b
 bs:∀b o,X.base.get? b=↑o->X.s₀.heap.get? b=↑o/\X.H₀ b=none
 Io:X.base.objs.size<=X.s₀.heap.objs.size
 C7:∀b o,X.base.get? b=↑o->b∉X.ex
 DI:∀b∈X.ex,b∉X.fs
 yy:X.s₀.heap.FunFrames X.base X.outer
 JL:∀b∈X.fs,X.H₀ b=none
structure Inv(X:Cx)(pins:List (ci×Obj))(σ:List (Option V))(H:Hp)(s:gN):Prop where
 ok:X.Ok
 os:s.os=X.s₀.os
 bare:ni s.gens
 base:Un X.fs X.ex X.H₀ H X.s₀.heap s.heap
 loc:∃m,s.heap.Ns X.env.locals m/\∀(i:Nat)(x:Str)(v:V),X.N[i]?=↑x->σ[i]?=↑(some v)->Vis X.env.scope x->∃u,RelV v u/\Look X.env s.heap m x u
 cell:∀x c,X.env.cells.lookup x=↑c->∃v,s.heap.IsCell c v
 free:H X.env.locals=none
 yk:∀x c,X.env.cells.lookup x=↑c->H c=none
 pin:∀p∈X.pn++pins,s.heap.get? p.1=↑p.2/\H p.1=none/\p.1≠X.env.locals/\p.1∉X.fs/\∀v,p.2.data≠.cell v
 vL:xR X.prog X.w H s.heap
 len:σ.length=X.N.length
section
variable{X:Cx}{pins:List (ci×Obj)}{σ:List (Option V)}{H H':Hp}{s:gN}
def Cx.Ok.a1h(a:X.Ok)(e:X.base.get? b=↑o):b∉X.fs:=λc=>by have:=(a.yy.mem c).1;rw[e]at this;cases this
def Inv.bs(I:Inv X pins σ H s):∀b o,X.base.get? b=↑o->s.heap.get? b=↑o/\H b=none:=λb o e =>
 #[I.base.keep b o (I.ok.bs b o e).1 (I.ok.bs b o e).2 (I.ok.a1h e)<|I.ok.C7 b o e,I.base.free b o (I.ok.bs b o e).1 (I.ok.bs b o e).2<|I.ok.C7 b o e]
def Inv.bk(I:Inv X pins σ H s):∀b o,X.base.get? b=↑o->s.heap.get? b=↑o:=λb o e=>(I.bs b o e).1
def Inv.mod(I:Inv X pins σ H s):Mod X.K X.mg X.base:=I.ok.mod
def Inv.yG(I:Inv X pins σ H s):X.K.In s.heap:=I.ok.mod.Bm.keeps I.bk
def Inv.nolimit(I:Inv X pins σ H s):s.heap.NoLimit:=I.ok.mod.nolimit.keeps I.bk
def Inv.lt(I:Inv X pins σ H s):X.env.locals<⇑s:=e1a2 I.loc λ_ a _=> a.lt
def Inv.sz(I:Inv X pins σ H s):X.s₀.heap.objs.size<=⇑s:=ij I.ok.above<|lM I.lt
def Inv.a1i(I:Inv X pins σ H s)(h:⇑s<=a):a∉X.fs:=λb=>by obtain⟨_,o,c,_⟩:=I.ok.yy.mem b;exact g8 (hR (gP c)<|ij I.sz h)<|jJ _
def Inv.cne(I:Inv X pins σ H s):∀x c,X.env.cells.lookup x=↑c->c≠X.env.locals:=λx c e z=>by refine e2a2 (I.cell x c e) λv o d f=>?_;obtain⟨m,⟨g,h,i,a,b,_⟩,_⟩:=I.loc;rw[z,a]at d;cases d;rw[b]at f;cases f
def Inv.yy(I:Inv X pins σ H s):s.heap.FunFrames X.base X.outer:=by
 have a:∀(l:List Env),(∀b∈zj l,b∈X.fs)->X.s₀.heap.FunFrames X.base l->s.heap.FunFrames X.base l:=by
  intro l
  induction l with
  |nil=>intro _ _;trivial
  |cons h r i =>
   intro g j;obtain⟨k,⟨L,o,c,m,n,p⟩,q⟩:=j;have d:L∈X.fs:=g L (by unfold zj;rw[kI,c];exact gO);obtain⟨t,e⟩:=I.base.slot L o n (I.ok.JL L d) d λz=>I.ok.DI L z d;exact#[k,#[L,_,c,m,e,p],i (λb f=>g b<|by unfold zj;rw[kI,c];exact gS _ f) q]
 exact a X.outer (λ_ f=>f) I.ok.yy
def Inv.stack(I:Inv X pins σ H s):s.heap.FunFrames X.base X.stack:=by
 rcases I.ok.Cc with e|⟨e,a⟩
 ·rw[e];exact I.yy
 ·rw[e];refine e1a2 I.loc λm b _=>?_;refine .cons (by rw[I.ok.kind];decide) a b ?_ I.yy;exact mV<|ij I.ok.Io I.ok.above
def Inv.DJ(I:Inv X pins σ H s):∀b∈zj X.stack,b∈X.env.locals::X.fs:=λb a=>by
 rcases I.ok.Cc with e|⟨e,c⟩
 ·rw[e]at a;exact gS _ a
 ·rw[e]at a;unfold zj at a;rw[kI,c]at a;exact a
def Inv.LV(I:Inv X pins σ H s):∀b∈zj X.stack,H b=none:=λb a=>by
 rcases List.mem_cons.mp (I.DJ b a) with e|a
 ·rw[e];exact I.free
 ·obtain⟨_,o,c,_⟩:=I.ok.yy.mem a;exact I.base.free b o c (I.ok.JL b a) λz=>I.ok.DI b z a
def Inv.step{g':Array o5}{t':Nat}{ch:List ci}(I:Inv X pins σ H s)
 (g:∀b∈ch,(b∈X.ex\/X.s₀.heap.objs.size<=b)/\b≠X.env.locals/\(∀x c,X.env.cells.lookup x=↑c->c≠b)/\∀p∈X.pn++pins,p.1≠b)
 (h:∀b o,b≠X.env.locals->b∉X.fs->b∉ch->s.heap.get? b=↑o->H b=none->h'.get? b=↑o)
 (B:∀b o,b≠X.env.locals->b∈X.fs->b∉ch->s.heap.get? b=↑o->H b=none->∃R,h'.get? b=some { o with slots:=R}) (f:∀b o,b∉ch->s.heap.get? b=↑o->H b=none->H' b=none)
 (D:∀b o,b∉ch->s.heap.get? b=↑o->∃G,h'.get? b=↑G)
 (J:∀b C,H b=↑(.tup C)->H' b=↑(.tup C)) (L:∀b o u,H b=↑(.JP o u)->H' b=↑(.JP o u)) (M:∀b Q,H b=↑(.Fa Q)->∃N,H' b=↑(.Fa<|Q++N))
 (ns:∀m,s.heap.Ns X.env.locals m->h'.Ns X.env.locals m) (S:xR X.prog X.w H' h') (hg:ni g') :
    Inv X pins σ H' { s with heap:=h',gens:=g',drawn:=d',toks:=t'}:=by
  have O:∀b o,X.s₀.heap.get? b=↑o->b≠X.env.locals:=λb o e=>gZ<|hR (gP e) I.ok.above
  have y:∀b o,X.s₀.heap.get? b=↑o->b∉X.ex->b∉ch:=λb o e a E=>by
    rcases(g b E).1 with z|z
    · exact a z
    · exact g8 (hR (gP e) z)<|jJ _
  have j:∀x c,X.env.cells.lookup x=↑c->∀v,s.heap.IsCell c v->h'.IsCell c v:=λx c e v z9=>e1a2 z9 λo F T=>by
    have t:c∉ch:=λz=>(g c z).2.2.1 x c e rfl
    by_cases W:c∈X.fs
    · obtain⟨R, q⟩ := B c o (I.cne x c e) W t F (I.yk x c e)
      exact#[_,q,T]
    · exact#[o, h c o (I.cne x c e) W t F<|I.yk x c e, T]
  refine#[I.ok,I.os,hg,#[λb o e n E a=>?_,λb o e n E a=>?_,λb o e n a=>?_,λb o e a=>?_,λb C e=>J b C<|I.base.Bo b C e,λb o C e=>L b o C<|I.base.A6 b o C e,λb Q e=>?_],?_,λx c e=>?_,?_,λx c e=>?_,λp Y=>?_,S,I.len]
  · exact h b o (O b o e) E (y b o e a) (I.base.keep b o e n E a)<|I.base.free b o e n a
  · obtain⟨R, A⟩ := I.base.slot b o e n E a
    obtain⟨U,P⟩:=B b _ (O b o e) E (y b o e a) A<|I.base.free b o e n a
    exact#[U,P]
  · obtain⟨G, A⟩ := I.base.there b o e a
    exact f b G (y b o e a) A<|I.base.free b o e n a
  · obtain⟨G, A⟩ := I.base.there b o e a
    exact D b G (y b o e a) A
  · obtain⟨m1, A⟩ := I.base.A7 b Q e
    obtain⟨m2,P⟩:=M b _ A
    exact#[m1++m2,by rw[P,pU]]
  · refine e1a2 I.loc λm hn hl => ?_
    refine#[m,ns m hn,λi x v A P e3=>?_]
    refine e1a2 (hl i x v A P e3) λu r l=>?_
    refine#[u,r,?_]
    rcases l with l|⟨k,c,e,z⟩
    · exact .inl l
    · exact .inr #[k, c, e, j x c e _ z]
  · obtain⟨v, z⟩ := I.cell x c e
    exact#[v,j x c e v z]
  · obtain⟨m, ⟨o, _, _, F, _⟩, _⟩ := I.loc
    exact f _ o (λz=>(g _ z).2.1 rfl) F I.free
  · refine e2a2 (I.cell x c e) λv o F T => ?_
    exact f c o (λz=>(g c z).2.2.1 x c e rfl) F<|I.yk x c e
  · obtain⟨e, n, Z, nf, d⟩ := I.pin p Y
    have t:p.1∉ch:=λz=>(g p.1 z).2.2.2 p Y rfl
    exact#[h p.1 p.2 Z nf t e n,f p.1 p.2 t e n,Z,nf,d]
def Inv.un{t':Nat}(I:Inv X pins σ H s)(u:Un X.fs [] H H' s.heap h')(c:xR X.prog X.w H' h'):Inv X pins σ H' { s with heap:=h',toks:=t'}:=by
 obtain⟨m,⟨o,l,p,h,r⟩,_⟩:=id I.loc;obtain⟨q,i⟩:=u.any h I.free q0o
 exact I.step (g':=s.gens) (d':=s.drawn) (ch:=[]) (λ_ z=>nomatch z) (λb o _ d _ e n=>u.keep b o e n d q0o) (λb o _ d _ e n=>u.slot b o e n d q0o) (λb o _ e n=>u.free b o e n q0o) (λb o _ e=>u.there b o e q0o) u.Bo u.A6 u.A7 (λt j=>by
  refine e3a2 j λv f g a k=>?_;rw[h]at a;cases a
  exact#[_,f,g,i,k]) c I.bare
def Inv.call{g':Array o5}{t':Nat}{ch:List ci}(I:Inv X pins σ H s)(u:Un (zj X.stack) ch H H' s.heap h')(g:xR X.prog X.w H' h')(l:ni g')
 (d:∀b∈ch,(b∈X.ex\/X.s₀.heap.objs.size<=b)/\b≠X.env.locals/\(∀x c,X.env.cells.lookup x=↑c->c≠b)/\∀p∈X.pn++pins,p.1≠b) :
    Inv X pins σ H' { s with heap:=h',gens:=g',drawn:=d',toks:=t'}:=by
  obtain⟨m,⟨o,y,A,k,r⟩,_⟩:=id I.loc
  obtain⟨B,h⟩:=u.any k I.free λz=>(d _ z).2.1 rfl
  exact I.step (ch:=ch) d (λb o h q a e n=>u.keep b o e n (λz=>(List.mem_cons.mp (I.DJ b z)).elim h q) a) (λb o _ _ a e n=>u.any e n a) (λb o a e n=>u.free b o e n a) (λb o a e=>u.there b o e a) u.Bo u.A6 u.A7 (λC t=>by
    refine e3a2 t λD i j f v=>?_
    rw[k]at f;cases f
    exact#[_,i,j,h,v]) g l
def Inv.turned{t':Nat}(I:Inv X pins σ H s)(k:∀b o,b≠a->s.heap.get? b=↑o->h.get? b=↑o)(i:H a=none)(g:a≠X.env.locals)
 (j:a∈X.ex\/X.s₀.heap.objs.size<=a)(l:∀x c,X.env.cells.lookup x=↑c->c≠a)(t:∀p∈X.pn++pins,p.1≠a):Inv X pins σ H { s with heap:=h,toks:=t'}:=by
  have f:∀b u,H b=↑u->b≠a:=λb u e z=>by rw[z,i]at e;cases e
  refine I.step (g':=s.gens) (d':=s.drawn) (ch:=[a]) (λb w=>?_) (λb o _ _ d e _=>k b o (λz=>d<|by simp[z]) e) (λb o _ _ d e _=>#[o.slots,k b o (λz=>d<|by simp[z]) e]) (λ_ _ _ _ n=>n)
    (λb o d e=>#[o,k b o (λz=>d<|by simp[z]) e]) (λ_ _ e=>e) (λ_ _ _ e=>e) (λb D e=>#[#v[],by rw[e];simp]) (λm y=>?_) (λb u e=>?_) I.bare
  · have e : b = a := by simpa using w
    subst e
    exact#[j,g,l,t]
  · refine e3a2 y λo A B C r => ?_
    exact#[o,A,B,k _ o (Ne.symm g) C,r]
  · refine(I.vL b u e).C6 (λc v d q => k c v ?_ q) (λ_ q => q) λ_ _ q => q
    rcases d with z|z
    · rw[z]; exact f b u e
    · exact f c _ z
def Inv.tok(I:Inv X pins σ H s)(t:Nat):Inv X pins σ H { s with toks:=t}:=I.un (h':=s.heap) (t':=t) Un.refl I.vL
def Inv.kept{t':Nat}(I:Inv X pins σ H s)(k:∀b u,s.heap.get? b=↑u->a.get? b=↑u):Inv X pins σ H { s with heap:=a,toks:=t'}:=I.un (Un.kept k)<|I.vL.kept k
def Inv.laid{t':Nat}(I:Inv X pins σ H s)(k:∀b u,s.heap.get? b=↑u->h'.get? b=↑u)(c:⇑s<=a)(d:vY X.prog X.w (upd H a o) h' a o) :
  Inv X pins σ (upd H a o) { s with heap:=h',toks:=t'}:=I.un (Un.laid k c<|I.vL.fresh c)<|I.vL.laid k c d
def Inv.write{t':Nat}(I:Inv X pins σ H s)(d:YU (H x))(f:e=x\/H e=↑(.own x))(k:∀b u,b≠e->s.heap.get? b=↑u->h'.get? b=↑u)(a:∃u,h'.get? e=↑u)
 (c:vY X.prog X.w (upd H x o) h' x o):Inv X pins σ (upd H x o) { s with heap:=h',toks:=t'}:=I.un (Un.write d f k a)<|I.vL.write d f k a c
def Inv.zm(I:Inv X pins σ H s)(h:∀p∈pins',s.heap.get? p.1=↑p.2/\H p.1=none/\p.1≠X.env.locals/\p.1∉X.fs/\∀v,p.2.data≠.cell v):Inv X pins' σ H s :=
 #[I.ok,I.os,I.bare,I.base,I.loc,I.cell,I.free,I.yk,λp a=>(List.mem_append.mp a).elim (λz=>I.pin p<|iI _ z)<|h p,I.vL,I.len]
def Ip{N:List Str}(c:N.Nodup){i j:Nat}(a:N[i]?=↑x)(b:N[j]?=↑x):i=j:=by obtain⟨f,d⟩:=List.getElem?_eq_some_iff.mp a;obtain⟨g,e⟩:=List.getElem?_eq_some_iff.mp b;exact(List.getElem_inj c).mp<|d.trans e.symm
def FE{E:cr->gN->Prop}{i:Nat}{Q:Unit->gN->Prop}(I:Inv X pins σ H s)(hN:X.N.Nodup)(S:X.N[i]?=↑x)(B:Loc X.env.scope x)(r:RelV v u)
 (h:∀s',Inv X pins (σ.set i<|↑v) H s'->(∃a,iU a s.heap s'.heap/\(a=X.env.locals\/X.env.cells.lookup x=↑a))->Q () s')(hf:X.fn x=true\/X.env.scope.names.lookup x=some .local:=by first|exact .inl rfl|exact .inr rfl|assumption):gR M A (storeName X.env x u) Q E s:=by
  refine e1a2 (id I.loc) λm hn hl=>?_
  have T:(X.env.scope.kind==.class||(X.env.scope.kind==.module&&X.env.locals != X.env.globals))=false:=by rw[I.ok.kind];rfl
  have F:i<σ.length:=by rw[I.len];exact(List.getElem?_eq_some_iff.mp S).1
  have J:=I.cne
  have g:∀{a:ci} {R:iJ},(∃o,s.heap.get? a=↑o/\H a=none)->iU a s.heap R->xR X.prog X.w H R:=λ{a R} ha f b ob e=>by
    refine e1a2 ha λ_ _ C=>?_
    refine(I.vL b ob e).C6 (λc w' t q=>(f.2 c ?_).trans q) (λ_ q=>q) λ_ _ q=>q
    rintro rfl
    rcases t with rfl|t
    · rw[C]at e; cases e
    · rw[C]at t; cases t
  rcases B with G|G
  · refine wpAny_storeName_local G hn (λR aa f => ?_) T
    refine e3a2 (id hn) λoL _ _ ab _=>?_
    refine h _ #[I.ok,I.os,I.bare,#[λb o e n L B=>?_,λb o e n L B=>?_,I.base.free,λb o e B=>?_,I.base.Bo,I.base.A6,I.base.A7],#[_,aa,λj y v' l D e3=>?_],λy c e=>?_,I.free,I.yk,λp hp=>?_,g #[oL,ab,I.free] f,by simpa using I.len] #[_,f,.inl rfl]
    · exact(f.2 b<|gZ<|hR (gP e) I.ok.above).trans<|I.base.keep b o e n L B
    · obtain⟨sl, l⟩ := I.base.slot b o e n L B
      exact#[sl,(f.2 b<|gZ<|hR (gP e) I.ok.above).trans l]
    · obtain⟨o', l⟩ := I.base.there b o e B
      exact#[o',(f.2 b<|gZ<|hR (gP e) I.ok.above).trans l]
    · by_cases O : j = i
      · subst O
        rw[S]at l;cases l
        rw[oK F]at D
        cases D
        exact#[u,r,.inl #[G,q0o]]
      · rw[mW<|Ne.symm O]at D
        refine e1a2 (hl j y v' l D e3) λu' r' q=>?_
        refine#[u',r',?_]
        rcases q with⟨k,e⟩|⟨k,c,e,z⟩
        · refine .inl #[k, ?_]
          have:y≠x:=λe=>O<|Ip hN l<|e▸S
          simp[this,e]
        · exact .inr #[k, c, e, z.sameBut f<|J y c e]
    · obtain⟨w', z⟩ := I.cell y c e
      exact#[w',z.sameBut f<|J y c e]
    · obtain⟨e, n, ne, nf, d⟩ := I.pin p hp
      exact#[(f.2 p.1 ne).trans e,n,ne,nf,d]
  · have P : X.fn x = true := by
      rcases hf with z|z
      · exact z
      · rw[z]at G; cases G
    obtain⟨c,t⟩:=I.ok.has x<|.inl G
    obtain⟨w',z⟩:=I.cell x c t
    refine wpAny_storeName_cell I.ok.kind G t z<|λR U f=>?_
    refine e1a2 (id z) λoc W Y=>?_
    refine h { s with heap:=R} #[I.ok,I.os,I.bare,#[λb o e n L B=>?_,λb o e n L B=>?_,I.base.free,λb o e B=>?_,I.base.Bo,I.base.A6,I.base.A7],#[m,hn.sameBut f<|Ne.symm<|J x c t,λj y v' l D e3=>?_],λy c' e=>?_,I.free,I.yk,λp hp=>?_,g #[oc,W,I.yk x c t] f,by simpa using I.len] #[c,f,.inr t]
    · exact(f.2 b<|gZ<|hR (gP e)<|I.ok.Ov x c P t).trans<|I.base.keep b o e n L B
    · obtain⟨sl, l⟩ := I.base.slot b o e n L B
      exact#[sl,(f.2 b<|gZ<|hR (gP e)<|I.ok.Ov x c P t).trans l]
    · obtain⟨o', l⟩ := I.base.there b o e B
      exact#[o',(f.2 b<|gZ<|hR (gP e)<|I.ok.Ov x c P t).trans l]
    · by_cases O : j = i
      · subst O
        rw[S]at l;cases l
        rw[oK F]at D
        cases D
        exact#[u,r,.inr #[.inl G,c,t,U]]
      · rw[mW<|Ne.symm O]at D
        refine e1a2 (hl j y v' l D e3) λu' r' q=>?_
        refine#[u',r',?_]
        rcases q with q|⟨k,c',e,z'⟩
        · exact .inl q
        · refine .inr #[k, c', e, z'.sameBut f ?_]
          rintro rfl
          exact O<|Ip hN l<|I.ok.inj _ _ _ e t▸S
    · by_cases Z : c' = c
      · subst Z; exact#[_, U]
      · obtain⟨w2, z2⟩ := I.cell y c' e
        exact#[w2,z2.sameBut f Z]
    · obtain⟨e, n, ne, nf, d⟩ := I.pin p hp
      refine#[(f.2 p.1 ?_).trans e,n,ne,nf,d]
      intro q
      rw[q,W]at e
      have q':oc=p.2:=iT e
      exact d w' (by rw[<- q'];exact Y)
def Iq{i:Nat}(I:Inv X pins σ H s)(b:X.N.Nodup)(c:X.N[i]?=↑x)(d:Loc X.env.scope x)(r:RelV v u)
 (h:∀a,Inv X pins (σ.set i<|↑v) H a->Q () a)(e:X.fn x=true\/X.env.scope.names.lookup x=some .local:=by first|exact .inl rfl|exact .inr rfl|assumption):gR M A (storeName X.env x u) Q E s :=
  FE I b c d r (λa f _=>h a f) e
def Inv.VB{a:gN}(I:Inv X pins σ H s)(g:a.os=s.os)(u:Un (zj X.stack) ch H H' s.heap a.heap)(d:xR X.prog X.w H' a.heap)(h:ni a.gens)
 (f:∀b∈ch,(b∈X.ex\/X.s₀.heap.objs.size<=b)/\b≠X.env.locals/\(∀x c,X.env.cells.lookup x=↑c->c≠b)/\∀p∈X.pn++pins,p.1≠b):Inv X pins σ H' a:=by
  obtain⟨m,i,j,k,l⟩:=a
  have e:l=s.os:=g
  subst e
  exact I.call (g':=i) (t':=k) (d':=j) u d h f
end
abbrev XK:=cr->Option ci->Hp->Prop
abbrev St:=List<|Option V
abbrev VK:=V->Hp->Prop
abbrev TE:=St->Hp->VK->Prop
abbrev TT:=St->Hp->(Bool->Hp->Prop)->Prop
abbrev TA:=St->Hp->(List V->Hp->Prop)->Prop
structure Ends where
 nx:St->Hp->Prop
 rt:VK
 bk:St->Hp->Prop:=λ_ _=>False
 ct:St->Hp->Prop:=λ_ _=>False
abbrev TS:=Ends->St->Hp->Prop
def EP(X:Cx)(a:List (ci×Obj))(c:St)(Q:VK)(u:cr)(d:gN):Prop:=∃v b,Inv X a c b d/\RelV v u/\Q v b
def TP(X:Cx)(a:List (ci×Obj))(d:St)(Q:Bool->Hp->Prop)(b:Bool)(e:gN):Prop:=∃c,Inv X a d c e/\Q b c
def AP(X:Cx)(a:List (ci×Obj))(d:St)(Q:List V->Hp->Prop)(e:List cr)(f:gN):Prop:=∃b c,Inv X a d c f/\Vals b e/\Q b c
def SP(X:Cx)(b:List (ci×Obj))(D:Ends)(f:Flow)(d:gN):Prop :=
 match f with
 | .next=>∃a c,Inv X b a c d/\D.nx a c
 | .brk=>∃a c,Inv X b a c d/\D.bk a c
 | .cont=>∃a c,Inv X b a c d/\D.ct a c
 | .ret u=>∃v a c,Inv X b a c d/\RelV v u/\D.rt v c
def PE(X:Cx)(e:iA)(t:TE):Prop :=
 ∀(a:List (ci×Obj)) (s:gN) (b:St) (H:Hp) (Q:VK),Inv X a b H s->t b H Q->gR 19 X.A (eval e X.env) (EP X a b Q) X.xe s
def PT(X:Cx)(e:iA)(t:TT):Prop :=
 ∀(a:List (ci×Obj)) (s:gN) (b:St) (H:Hp) (Q:Bool->Hp->Prop),Inv X a b H s->t b H Q->gR 19 X.A (qJ e X.env<|eval e X.env) (TP X a b Q) X.xe s
def PW(X:Cx)(e:iA)(t:TT):Prop :=
 ∀(b:Sem cr) (a:List (ci×Obj)) (s:gN) (c:St) (H:Hp) (Q:Bool->Hp->Prop),Inv X a c H s->t c H Q->gR 19 X.A (qJ e X.env b) (TP X a c Q) X.xe s
def PW.pt(h:PW X e t):PT X e t:=h _
def PA(X:Cx)(d:List iA)(t:TA):Prop :=
 ∀(b:Pos) (a:List (ci×Obj)) (s:gN) (c:St) (H:Hp) (Q:List V->Hp->Prop),Inv X a c H s->t c H Q->gR 19 X.A (ur<|ja b<|gJ d X.env) (AP X a c Q) X.xe s
def PS(X:Cx)(c:ic)(t:TS):Prop :=
 ∀(a:List (ci×Obj)) (s:gN) (b:St) (H:Hp) (D:Ends),Inv X a b H s->t D b H->gR 19 X.A (exec c X.env) (SP X a D) X.xe s
def Fb(X:Cx)(c:List ic)(t:TS):Prop :=
 ∀(a:List (ci×Obj)) (s:gN) (b:St) (H:Hp) (D:Ends),Inv X a b H s->t D b H->gR 19 X.A (execs c X.env) (SP X a D) X.xe s
def vG{b:Type}{t:Sem b}{Q c:b->gN->Prop}{M:Model}{A:jq}{E:cr->gN->Prop}{s:gN}(h:gR M A t Q E s)(d:∀a s,Q a s->c a s):gR M A t c E s:=iW h d λ_ _ x=>x
section
variable{X:Cx}
def vw(i:Nat):TE:=λa H Q=>∃v,a[i]?=↑(some v)/\Q v H
def tC(v:V):TE:=λ_ H Q=>Q v H
def JQ{i:Nat}(n:X.N[i]?=↑x)(o:Vis X.env.scope x)(g:(x==55)=false:=by decide)(j:(x==("__classdict__":Str))=false:=by decide):PE X 97 (vw i):=by
 intro f s p H Q I h;refine e1a2 h λv e h=>?_;refine e1a2 I.loc λm q t=>?_;refine e1a2 (t i x v n e o) λu r l=>?_;have b:EP X f p Q u s:=#[v,H,I,r,h];rcases l with⟨d,w⟩|⟨d,c,k,a⟩
 ·exact pE (kJ I.ok.kind d q w b) g
 ·rcases d with d|d
  ·exact pE (wpAny_loadName_cell I.ok.kind d k a b) g
  ·exact pE (qt I.ok.kind d k a b j) g
def vr{i j pos}:PE X (.Constant (.int i) j pos) (tC<|.int i):=λ_ _ _ H _ I h=>wpAny_Constant_int #[.int i,H,I.tok _,#[_,rfl],h]
def YV{b j pos}:PE X (.Constant (.bool b) j pos) (tC<|.bl b):=λ_ _ _ H _ I h=>Constant_bool #[.bl b,H,I,rfl,h]
def JR{j pos}:PE X (.Constant .none j pos) (tC .wq):=λ_ _ _ H _ I h=>Constant_none #[.wq,H,I,rfl,h]
def DL{x j pos}:PE X (.Constant (.str x) j pos) (tC<|.str x):=λ_ _ _ H _ I h=>Calls.Constant_str #[.str x,H,I.tok _,#[_,rfl],h]
def Gl(X:Cx)(x:Str):Prop:=X.env.kindOf x=some .globalImplicit
def yH(I:Inv X a e H s)(b:Gl X x)(c:X.mg x=↑u)(h:Q u s)
 (d:(x==55)=false:=by decide):gR 19 X.A (eval 97 X.env) Q E s :=
  q7 I.ok.kind b (Calls.loadGlobal_global (by rw[I.ok.glob];exact I.mod.glob.keeps I.bk) c h) d
def zn(I:Inv X a j H s)(b:Gl X x)(c:X.mg x=none)(d:mM x=↑u)(h:Q u s)
 (e:x≠"__name__":=by decide)(f:(x==55)=false:=by decide):gR 19 X.A (eval 97 X.env) Q E s:=by
  refine e1a2 I.mod.blt λk g i=>?_
  exact q7 I.ok.kind b (nX (by rw[I.ok.glob];exact I.mod.glob.keeps I.bk) c (by rw[I.ok.blt];exact g.keeps I.bk) ((i x e).trans d) h) f
def LW(a:Gl X x)(b:X.mg x=↑u)(r:RelV v u)(c:(x==55)=false:=by decide):PE X 97 (tC v) :=
 λ_ _ _ H _ I h=>yH I a b #[v,H,I,r,h] c
def AD(a:Gl X x)(b:X.mg x=none)(c:mM x=↑u)(r:RelV v u)(d:x≠"__name__":=by decide)(e:(x==55)=false:=by decide):PE X 97 (tC v) :=
 λ_ _ _ H _ I h=>zn I a b c #[v,H,I,r,h] d e
variable{a b:iA}{ta tb:TE}{pos:Pos}
def PC(X:Cx)(g:qE)(a b:iA)(t:TE):Prop :=
 ∀(c:List (ci×Obj)) (s:gN) (f:St) (H:Hp) (Q:VK),Inv X c f H s->t f H Q ->
  gR 19 X.A (eval a X.env) (λv d=>gR 19 X.A (eval b X.env) (λu e=>gR 19 X.A (jj g v u) (EP X c f Q) X.xe e) X.xe d) X.xe s
def Ir(b:iA)(h:op≠.In)(c:op≠.NotIn):iQ op b=false:=by
 have d:(op==CmpOp.In)=false:=by cases op<;>first|rfl|exact g8 rfl h
 have e:(op==CmpOp.NotIn)=false:=by cases op<;>first|rfl|exact g8 rfl c
 cases b<;>simp[iQ,d,e]
def tB(t:TE):TT:=λd H Q=>t d H λx e=>∃c,x=.bl c/\Q c e
def OB(h:PC X op a b t)(d:iQ op b=false:=by first|exact Ir _ q0q q0q|rfl):PE X (.Compare a [op] [b] pos) t:=λc s e H Q I f=>sK (h c s e H Q I f) d
def JS{f:qE}{t:TE}(h:PC X f a b t)(g:iQ f b=false:=by first|exact Ir _ q0q q0q|rfl):PT X (.Compare a [f] [b] pos) (tB t):=by intro e s i H Q I j;refine uH (vG (h e s i H _ I j) λv r g=>vG g λu w k=>vG k λc y l=>e2a3 l λx m n o p=>?_) g;obtain⟨d,rfl,q⟩:=p;cases o;exact j4 #[m,n,q]
def Wp{e:iA}{t:TE}(h:PE X e t)(g:∀c,qJ e X.env c=(do let v <- c;my e.pos;kF [v] (ut v)):=by intro _;rfl):PT X e (tB t):=by intro f s i H Q I j;refine isTrue_plain (vG (h f s i H _ I j) λv p k=>e2a3 k λx l m n o=>?_)<|g _;obtain⟨d,rfl,q⟩:=o;cases n;exact j4 #[l,m,q]
variable{tA tB':TT}{rest:List iA}
def a1k(t u:TT):TT:=λd H Q=>t d H λc e=>if c=true then u d e Q else Q false e
def tOr(t u:TT):TT:=λd H Q=>t d H λc e=>if c=true then Q true e else u d e Q
def a1l(t:TT):TT:=λd H Q=>t d H λc e=>Q (!c) e
def SF(f:PT X a tA):PW X (.BoolOp .And [a] pos) tA:=by
 intro i d s g H Q I h;refine isTrue_and<|vG (f d s g H Q I h) λc j e=>?_
 cases c with
 |true=>exact isTrue_and_nil e
 |false=>exact e
def OC(f:PT X a tA):PW X (.BoolOp .Or [a] pos) tA:=by
 intro i d s g H Q I h;refine isTrue_or<|vG (f d s g H Q I h) λc j e=>?_
 cases c with
 |false=>exact isTrue_or_nil e
 |true=>exact e
def Wq(j:PT X a tA)(k:PW X (.BoolOp .And (b::rest) pos) tB'):PW X (.BoolOp .And (a::b::rest) pos) (a1k tA tB'):=by
 intro l d s e H Q I h;refine isTrue_and<|vG (j d s e H _ I h) λc m n=>e1a2 n λf g i=>?_
 cases c with
 |true=>exact k l d m e f Q g i
 |false=>exact#[f,g,i]
def VC(j:PT X a tA)(k:PW X (.BoolOp .Or (b::rest) pos) tB'):PW X (.BoolOp .Or (a::b::rest) pos) (tOr tA tB'):=by
 intro l d s e H Q I h;refine isTrue_or<|vG (j d s e H _ I h) λc m n=>e1a2 n λf g i=>?_
 cases c with
 |true=>exact#[f,g,i]
 |false=>exact k l d m e f Q g i
def Wr(e:PT X a tA):PT X (.UnaryOp .Not a pos) (a1l tA):=by intro d s f H Q I h;exact isTrue_not<|e d s f H (λc g=>Q (!c) g) I h
def YW(ta tb:TE):TE:=λd H Q=>ta d H λx e=>∃c,x=.bl c/\if c=true then tb d e Q else Q (.bl false) e
def a1m(ta tb:TE):TE:=λd H Q=>ta d H λx e=>∃c,x=.bl c/\if c=true then Q (.bl true) e else tb d e Q
def YX(ta:TE):TE:=λd H Q=>ta d H λx e=>∃c,x=.bl c/\Q (.bl<|!c) e
def Ws{op}(h:PE X a t):PE X (.BoolOp op [a] pos) t:=λc s d H Q I e=>BoolOp_one<|h c s d H Q I e
def Wt(j:PE X a ta)(k:PE X (.BoolOp .And (b::rest) pos) tb):PE X (.BoolOp .And (a::b::rest) pos) (YW ta tb):=by
 intro d s f H Q I h;refine BoolOp_and<|vG (j d s f H _ I h) λv l m=>e2a3 m λx g i n e=>?_;obtain⟨c,rfl,e⟩:=e;cases n;refine j4 ?_
 cases c with
 |true=>exact k d l f g Q i e
 |false=>exact#[.bl false,g,i,rfl,e]
def YY(j:PE X a ta)(k:PE X (.BoolOp .Or (b::rest) pos) tb):PE X (.BoolOp .Or (a::b::rest) pos) (a1m ta tb):=by
 intro d s f H Q I h;refine BoolOp_or<|vG (j d s f H _ I h) λv l m=>e2a3 m λx g i n e=>?_;obtain⟨c,rfl,e⟩:=e;cases n;refine j4 ?_
 cases c with
 |false=>exact k d l f g Q i e
 |true=>exact#[.bl true,g,i,rfl,e]
def Wu(f:PE X a ta):PE X (.UnaryOp .Not a pos) (YX ta):=by intro d s g H Q I h;refine UnaryOp_<|vG (f d s g H _ I h) λv m i=>e2a3 i λx j k l e=>?_;obtain⟨c,rfl,e⟩:=e;cases l;exact not_of<|j4 #[.bl<|!c,j,k,rfl,e]
end
def v6(K:gH)(H:Hp)(a:ci)(b:List V):Prop :=
 Rd H a (.lst b) \/
  ∃(o:Obj)(vh:Array cr)(n:Nat),K.lookup a=↑o/\o.cls=.type "list"/\o.dict=none/\o.data=.seq vh n/\vh.size<=gL/\Vals b vh.toList
def yY(K:gH)(H:Hp)(a:ci)(b:List V):Prop :=
 Rd H a (.tup b) \/
  ∃(o:Obj)(vh:Array cr)(n:Nat),K.lookup a=↑o/\o.cls=.type "tuple"/\o.data=.seq vh n/\vh.size<=gL/\Vals b vh.toList
noncomputable def a1n:cr->Option V
 | .none=>some .wq
 | .bool b=>some<|.bl b
 | .int i _=>some<|.int i
 | .str x _=>some<|.str x
 | .bytes b _=>some<|.LU b
 | .float b _=>some<|.Wm b
 | .ref a=>some<|.ref a
 | .type n=>some<|.ty n
 |_=>none
def RelV.abs(r:RelV x u):a1n u=↑x:=by
 cases x with
 |wq=>cases r;rfl
 |bl _=>cases r;rfl
 |int _=>obtain⟨t,rfl⟩:=r;rfl
 |str _=>obtain⟨t,rfl⟩:=r;rfl
 |LU _=>obtain⟨t,rfl⟩:=r;rfl
 |Wm _=>obtain⟨t,rfl⟩:=r;rfl
 |ref _=>cases r;rfl
 |ty _=>cases r;rfl
def RelV.inj(r:RelV x u)(q:RelV y u):x=y:=iT<|r.abs.symm.trans q.abs
def Vals.inj:∀{d c:List V} {e:List cr},Vals d e->Vals c e->d=c:=by
 intro _ c _ z
 induction z generalizing c with
 |nil=>intro q;cases q;rfl
 |cons h t f=>intro q;cases q with|cons a b=>rw[h.inj a,f b]
def v6.of{K:gH}(h:H a=↑(.lst b)):v6 K H a b:=.inl<|.inl h
def yY.of{K:gH}(h:H a=↑(.tup b)):yY K H a b:=.inl<|.inl h
def Inv.list(I:Inv X b i H s)(h:v6 X.K H a c):∃vh:List cr,Vals c vh/\PlainL s.heap a vh.toArray/\c.length<=gL:=by
 rcases h with h|⟨o,vh,n,d,f,hd,g,j,r⟩
 ·obtain⟨z,vh,n,r,e⟩:=h.ok I.vL;exact#[vh,r,#[_,n,e,rfl,rfl,rfl],z]
 ·refine#[vh.toList,r,#[o,n,I.yG a o d,f,hd,by simpa using g],?_];have e:=r.length;simp only[gQ]at e
  lia
def Inv.tuple(I:Inv X b i H s)(h:yY X.K H a c):∃vh:List cr,Vals c vh/\IsTup s.heap a vh.toArray/\c.length<=gL:=by
 rcases h with h|⟨o,vh,n,d,f,g,j,r⟩
 ·obtain⟨z,vh,r,p⟩:=h.ok I.vL;exact#[vh,r,p,z]
 ·refine#[vh.toList,r,#[o,I.yG a o d,f,n,by simpa using g],?_];have e:=r.length;simp only[gQ]at e
  lia
def Inv.Iu(I:Inv X c p H s)(h:v6 X.K H a i)(j:v6 X.K H a k):i=k:=by
 obtain⟨vh,r,⟨o,n,e,_,_,d⟩,_⟩:=I.list h;obtain⟨b,l,⟨q,t,f,_,_,g⟩,_⟩:=I.list j;rw[e]at f;cases f;rw[d]at g;injection g with m _;have:vh=b:=by simpa using congrArg si m
 subst this;exact r.inj l
def Inv.M6(I:Inv X c p H s)(h:yY X.K H a i)(j:yY X.K H a k):i=k:=by
 obtain⟨vh,r,⟨o,e,_,n,d⟩,_⟩:=I.tuple h;obtain⟨b,l,⟨q,f,_,t,g⟩,_⟩:=I.tuple j;rw[e]at f;cases f;rw[d]at g;injection g with m _;have:vh=b:=by simpa using congrArg si m
 subst this;exact r.inj l
noncomputable abbrev Cx.Fe(X:Cx)(E:cr->gN->Prop):Cx:={ X with xe:=E}
noncomputable abbrev Cx.nox(X:Cx):Cx:=X.Fe λ_ _=>False
def Cx.Ok.Fe{X:Cx}(a:X.Ok)(E:cr->gN->Prop):(X.Fe E).Ok :=
 #[a.mod,a.kind,a.glob,a.blt,a.above,a.inj,a.has,a.Ov,a.hd,a.frames,a.Cc,a.SE,a.bs,a.Io,a.C7,a.DI,a.yy,a.JL]
def Cx.Ok.zR{X:Cx}{E:cr->gN->Prop}(a:(X.Fe E).Ok):X.Ok :=
 #[a.mod,a.kind,a.glob,a.blt,a.above,a.inj,a.has,a.Ov,a.hd,a.frames,a.Cc,a.SE,a.bs,a.Io,a.C7,a.DI,a.yy,a.JL]
def Inv.Fe(I:Inv X a b H s)(E:cr->gN->Prop):Inv (X.Fe E) a b H s:=#[I.ok.Fe E,I.os,I.bare,I.base,I.loc,I.cell,I.free,I.yk,I.pin,I.vL,I.len]
def Inv.zR(I:Inv (X.Fe E) a b H s):Inv X a b H s:=#[I.ok.zR,I.os,I.bare,I.base,I.loc,I.cell,I.free,I.yk,I.pin,I.vL,I.len]
def SP.zR(h:SP (X.Fe E) c D f d):SP X c D f d:=by
 cases f with
 |next=>obtain⟨a,b,I,q⟩:=h;exact#[a,b,I.zR,q]
 |brk=>obtain⟨a,b,I,q⟩:=h;exact#[a,b,I.zR,q]
 |cont=>obtain⟨a,b,I,q⟩:=h;exact#[a,b,I.zR,q]
 |ret u=>obtain⟨v,a,b,I,r,q⟩:=h;exact#[v,a,b,I.zR,r,q]
def Fb.nox{b:List ic}(h:Fb X.nox b t):Fb X b t:=λa s c H D I d =>
 iW (h a s c H D (I.Fe _) d) (λ_ _ q=>q.zR) λ_ _ z=>iv z
section
variable{X:Cx}{st:ic}{rest:List ic}{t u:TS}
def VD:TS:=λD a H=>D.nx a H
def JT(t u:TS):TS:=λD a H=>t { D with nx:=u D} a H
def zo:Fb X [] VD:=λ_ _ a H _ I h=>nN #[a,H,I,h]
def vZ(c:PS X st t)(d:Fb X rest u):Fb X (st::rest) (JT t u):=by
 intro a s e H D I h;refine wpAny_execs_cons<|vG (c a s e H { D with nx:=u D} I h) λf g q=>?_
 cases f with
 |next =>
  refine e2a2 q λb i j q=>?_;exact d a g b i D j q
 |ret v=>exact q
 |brk=>exact q
 |cont=>exact q
def xO(b:PS X st t):Fb X [st] t:=by
 intro a s c H D I h;refine wpAny_execs_cons<|vG (b a s c H D I h) λf d q=>?_
 cases f with
 |next=>exact nN q
 |ret v=>exact q
 |brk=>exact q
 |cont=>exact q
def Inv.quiet(I:Inv X a b H s):interactive X.env=false:=by simp[interactive,I.ok.kind]
def FF(b:TE):TS:=λD a H=>b a H λ_ c=>D.nx a c
def AE(c:PE X e d)(f:jx e none pos.line X.env=pure false:=by rfl):PS X (.Expr e pos) (FF d):=by intro a s b H D I h;exact wpAny_Expr_any (vG (c a s b H _ I h) λv l g=>e2a3 g λx i j m k=>#[b,i,j,k]) I.quiet f
def Wv(a:TE):TS:=λD b H=>a b H D.rt
def Cd(c:PE X e d):PS X (.Return ↑e pos) (Wv d):=by intro a s b H D I h;exact wpAny_Return_some<|vG (c a s b H _ I h) λv l f=>e2a3 f λx g i j k=>#[x,b,g,i,j,k]
def a1o(c:TT)(t u:TS):TS:=λD a H=>c a H λb d=>if b=true then t D a d else u D a d
def LX{c:iA}{a b:List ic}{g:TT}(m:PT X c g)(n:Fb X a t)(o:Fb X b u):PS X (.If c a b pos) (a1o g t u):=by
 intro e s f H D I h;refine wpAny_If<|vG (m e s f H _ I h) λd i p=>e1a2 p λj k l=>?_
 cases d with
 |true=>exact n e i f j D k l
 |false=>exact o e i f j D k l
def Ww:TS:=λ_ _ _=>False
def M7:Fb X a Ww:=λ_ _ _ _ _ _ h=>h.elim
end
abbrev TG:=V->St->Hp->(St->Hp->Prop)->Prop
abbrev YE:=List V->St->Hp->(St->Hp->Prop)->Prop
def PG(X:Cx)(a:iA)(t:TG):Prop :=
 ∀(b:List (ci×Obj)) (s:gN) (d:St) (H:Hp) (v:V) (u:cr) (Q:St->Hp->Prop),Inv X b d H s->RelV v u->t v d H Q ->
  gR 19 X.A (sL a X.env u) (λ_ f=>∃c e,Inv X b c e f/\Q c e) X.xe s
def PGs(X:Cx)(g:List iA)(t:YE):Prop :=
 ∀(a:List (ci×Obj)) (s:gN) (c:St) (H:Hp) (d:List V) (e:List cr) (Q:St->Hp->Prop),Inv X a c H s->Vals d e->t d c H Q ->
  gR 19 X.A (assignInOrder ((pF g X.env).map (·.2)) e) (λ_ h=>∃b f,Inv X a b f h/\Q b f) X.xe s
abbrev OD:=V->V->V->Hp->(Hp->Prop)->Prop
def Wx(X:Cx)(t:OD):Prop :=
 ∀(a:List (ci×Obj)) (s:gN) (b:St) (H:Hp) (o i v:V) (c d u:cr) (Q:Hp->Prop),Inv X a b H s->RelV o c->RelV i d->RelV v u->t o i v H Q ->
  gR 19 X.A (sA c d u) (λ_ f=>∃e,Inv X a b e f/\Q e) X.xe s
abbrev TIp:=V->V->Hp->VK->Prop
def PIp(X:Cx)(c:Operator)(t:TIp):Prop :=
 ∀(a:List (ci×Obj)) (s:gN) (b:St) (H:Hp) (x y:V) (v u:cr) (Q:VK),Inv X a b H s->RelV x v->RelV y u->t x y H Q ->
  gR 19 X.A (inplaceOp c v u) (EP X a b Q) X.xe s
def CN(i:Nat):TG:=λv a H Q=>Q (a.set i<|↑v) H
def vd{i:Nat}(b:X.N.Nodup)(c:X.N[i]?=↑x:=by rfl)(d:Loc X.env.scope x:=by exact kg rfl)(e:X.fn x=true\/X.env.scope.names.lookup x=some .local:=by first|exact .inl rfl|exact .inr rfl|assumption):PG X 97 (CN i):=by intro a s g H v u Q I r h;exact wpAny_assign_Name<|Iq I b c d r (λj f=>#[_,H,f,h]) e
def Wy:YE:=λa b H Q=>a=[]/\Q b H
def FG(t:TG)(u:YE):YE:=λb c H Q=>∃v r,b=v::r/\t v c H λa d=>u r a d Q
def Bp:PGs X [] Wy:=by intro a s b H c d Q I r h;obtain⟨e,h⟩:=h;subst e;cases r;exact assignInOrder_nil #[b,H,I,h]
def wY{e:iA}{b:List iA}{t:TG}{u:YE}(d:PG X e t)(f:PGs X b u)
  (g:(pF (e::b) X.env).map (·.2)=sL e X.env::(pF b X.env).map (·.2):=by rfl):PGs X (e::b) (FG t u):=by
 intro a s i H q w Q I r h;obtain⟨v,x,j,h⟩:=h;subst j
 cases r with
 |cons r k =>
  rw[g];refine assignInOrder_cons<|vG (d a s i H _ _ _ I r h) λ_ l m=>e2a2 m λc n o p=>?_;exact f a l c n _ _ Q o k p
def Wz(K:gH)(n:Nat)(t:YE):TG:=λv c H Q=>∃a b,v=.ref a/\yY K H a b/\b.length=n/\t b c H Q
def DM{k:Nat}{n:Nat}(l:X.calm=true)(h:PGs X d t)
 (m:(pF d X.env).length=n:=by rfl)(f:(pF d X.env).findIdx? (·.1)=none:=by rfl):PG X (.Tuple d k pos) (Wz X.K n t):=by
  intro c s i H v u Q I r g
  obtain⟨a,p,q,w,x,g⟩:=g
  subst q
  cases r
  obtain⟨vh,j,y,C⟩:=I.tuple w
  refine assign_Tuple_tuple (I.ok.hd l) y (by simp[m,<- x,j.length]) f λz A=>?_
  have B:Inv X c i H { s with heap:=z}:=I.kept (t':=s.toks) λb o e=>A b o (gZ<|gP e) e
  exact h c _ i H p _ Q B (by simpa using j) g
def YZ(b c:TE)(t:OD):TG:=λv a H Q=>b a H λo d=>c a d λi e=>t o i v e λf=>Q a f
def OE{o i:iA}{f g:TE}{t:OD}(j:PE X o f)(k:PE X i g)(l:Wx X t)
  (m:∀v,sL (.Subscript o i pos) X.env v=(do
   let b <- kF [v] (eval o X.env)
   let c <- kF [v,b] (eval i X.env)
   my pos
   kF [v,b,c] (sA b c v)
   release [v,b,c] []):=by intro _;rfl):PG X (.Subscript o i pos) (YZ f g t):=by
 intro a s e H v u Q I r h;rw[m];refine am<|iz<|vG (j a s e H _ I h) λb n d=>e2a3 d λx p q w z=>?_;refine am<|iz<|vG (k a n e p _ q z) λc A d=>e2a3 d λy B C D E=>?_;refine am<|nj<|am<|iz<|vG (l a A e B x y v b c u _ C w D r E) λ_ L d=>e1a2 d λF G J=>?_;exact wpAny_release #[e,F,G,J]
def OF(b:TE)(g:TG):TS:=λD a H=>b a H λx c=>g x a c D.nx
def Gj{b e:iA}{c:TE}{g:TG}(f:PE X e c)(i:PG X b g)(j:swapsWithSole [b] e pos.line X.env=pure false:=by rfl)(hw:swappedStores [b] e X.env=pure none:=by rfl)
  (k:(pF [b] X.env).map (·.2)=[sL b X.env]:=by rfl):PS X (.Assign [b] e pos) (OF c g):=by
 intro a s d H D I h;refine wpAny_Assign_stores (vG (f a s d H _ I h) λv l m=>e2a3 m λx n o p r=>?_) j hw;rw[k];exact vG (i a l d n x v _ o p r) λ_ t q=>q
def zp{i:Nat}{x:Str}{e:iA}{c:TE}{a:Pos}(d:X.N.Nodup)(f:X.N[i]?=↑x)(g:Loc X.env.scope x)(j:PE X e c)(k:jx e (some<|.Name x a) pos.line X.env=pure false:=by rfl)(l:X.fn x=true\/X.env.scope.names.lookup x=some .local:=by first|exact .inl rfl|exact .inr rfl|assumption) :
  PS X (.Assign [.Name x a] e pos) (OF c<|CN i):=by
 intro b s m H D I h;refine wpAny_Assign_Name (vG (j b s m H _ I h) λv u n=>e2a3 n λy o p q r=>?_) k;exact Iq p d f g q (λw t=>#[_,o,t,r]) l
def Y0(e f g:TE)(a:V->V->Hp->VK->Prop)(d:TIp)(b:OD):TS:=λD c H=>e c H λo h=>f c h λi j=>a o i j λx k=>g c k λy l=>d x y l λz m=>b o i z m λn=>D.nx c n
def Y1(X:Cx)(t:V->V->Hp->VK->Prop):Prop :=
 ∀(a:List (ci×Obj)) (s:gN) (b:St) (H:Hp) (o i:V) (c d:cr) (Q:VK),Inv X a b H s->RelV o c->RelV i d->t o i H Q ->
  gR 19 X.A (nY c d) (EP X a b Q) X.xe s
def SG{o i e:iA}{p q r:TE}{d:V->V->Hp->VK->Prop}{l:TIp}{f:OD}{t:Operator}{m:Pos}(z:PE X o p)(A:PE X i q)(B:Y1 X d)(C:PE X e r)(E:PIp X t l)(F:Wx X f)
  (G:∀g j b,augStore i g j b=(do kF [b,g,j] (sA g j b);release [b,g,j] [];pure .next):=by intros;rfl):PS X (.AugAssign (.Subscript o i m) t e pos) (Y0 p q r d l f):=by
 intro a s k H D I h;refine sj (vG (z a s k H _ I h) λg J c=>e2a3 c λu L M w N=>?_) G;refine vG (A a J k L _ M N) λj O c=>e2a3 c λx P Q y R=>?_;refine vG (B a O k P u x g j _ Q w y R) λn S c=>e2a3 c λT U W Y Z=>?_;refine vG (C a S k U _ W Z) λv s4 c=>e2a3 c λx4 H4 I4 r4 q4=>?_;refine vG (E a s4 k H4 T x4 n v _ I4 Y r4 q4) λb s5 c=>e2a3 c λx5 H5 I5 r5 q5=>?_;exact vG (F a s5 k H5 u x x5 g j b _ I5 w y r5 q5) λ_ s6 c=>e1a2 c λH6 I6 q6=>#[k,H6,I6,q6]
def ipI(f:Int->Int->Int):TIp:=λx y H Q=>∃i j,x=.int i/\y=.int j/\Q (.int<|f i j) H
def WA:PIp X .Add (ipI λi j=>i+j):=by intro a s f H x y v u Q I b c h;obtain⟨i,j,d,e,q⟩:=h;subst d;subst e;obtain⟨t,rfl⟩:=b;obtain⟨g,rfl⟩:=c;exact iadd_int #[.int _,H,I.tok _,#[_,rfl],q]
def a1r:PIp X .Sub (ipI λi j=>i-j):=by intro a s f H x y v u Q I b c h;obtain⟨i,j,d,e,q⟩:=h;subst d;subst e;obtain⟨t,rfl⟩:=b;obtain⟨g,rfl⟩:=c;exact isub_int #[.int _,H,I.tok _,#[_,rfl],q]
def WB(c:TT)(h:TS):TS:=λD a H=>∃W:Nat->St->Hp->Prop,(∃m,W m a H)/\∀m a H,W m a H ->
 c a H λb e=>if b=true then ∃N:St->Hp->Prop,(∀d f,N d f->∃g,g<m/\W g d f)/\h { D with nx:=N,ct:=N,bk:=D.nx} a e else D.nx a e
def OG{c:iA}{g:List ic}{u:TT}{x:TS}(y:rK 19 X.A X.env X.xe)(F:PT X c u)(G:Fb X g x):PS X (.While c g [] pos) (WB u x):=by
 intro a s J H D I h;obtain⟨W,⟨L,M⟩,i⟩:=h;refine wpAny_While<|codeAny_whileLoop (λn O=>∃j z,Inv X a j z O/\W n j z) ?_ L #[J,H,I,M];rintro n P ⟨e,H1,Q,R⟩;refine lw y<|vG (F a P e H1 _ Q<|i n e H1 R) λb S T=>e1a2 T λB C l=>?_
 cases b with
 |true =>
  refine e1a2 l λN E l=>?_;rw[gI rfl];refine lw y<|vG (G a S e B _ C l) λf U m=>?_
  cases f with
  |next =>
   refine e2a2 m λd k o p=>?_;refine e1a2 (E d k p) λq r t=>?_;exact#[q,r,d,k,o,t]
  |cont =>
   refine e2a2 m λd k o p=>?_;refine e1a2 (E d k p) λq r t=>?_;exact#[q,r,d,k,o,t]
  |brk=>exact m
  |ret v=>exact m
 |false =>
  rw[gl gV];exact nN #[e,B,C,l]
structure It where
 go:Nat->Hp->Prop
 Ig:Nat->Hp->V->Hp->Prop
 stop:Nat->Hp->Prop
def A8(X:Cx)(a:List (ci×Obj))(H:Hp)(b:ci):Prop :=
 H b=none/\b≠X.env.locals/\b∉X.fs/\(b∈X.ex\/X.s₀.heap.objs.size<=b)/\(∀x c,X.env.cells.lookup x=↑c->c≠b)/\∀p∈X.pn++a,p.1≠b
def Inv.Gk(I:Inv X a i H s)(d:⇑s<=b)(f:g b=none):A8 X a g b:=by
 refine#[f,je<|hR I.lt d,I.a1i d,.inr<|ij I.sz d,λx c e z=>?_,λp h z=>?_]
 ·obtain⟨v,q⟩:=I.cell x c e;exact g8 (hR q.lt<|by rw[z];exact d)<|jJ _
 ·exact g8 (hR (gP (I.pin p h).1)<|by rw[z];exact d)<|jJ _
structure Turn(P:iu)(w:iO)(K:gH)(tg:iA)(J:It)(fp:List ci)(it:ci)(tn:Nat->iJ->Prop):Prop where
 mem:it∈fp
 obj:∀i h,tn i h->∀b∈fp,∃o,h.get? b=↑o/\∀v,o.data≠.cell v
 keep:∀i h h',tn i h->(∀b∈fp,∀o,h.get? b=↑o->h'.get? b=↑o)->tn i h'
 item:∀(X:Cx),X.prog=P->X.w=w->X.K=K->X.calm=true->∀(i:Nat) (pins:List (ci×Obj)) (s:gN) (σ:St) (H:Hp) (E:cr->gN->Prop),Inv X pins σ H s->(∀b∈fp,A8 X pins H b)->tn i s.heap->J.go i H ->
  gR (gU P w) X.A (pyNext (.ref it)) (λr s1=>∃u,r=↑u /\
   gR (gU P w) X.A (sk tg (.ref it) u) (λ_ s2=>∃x H',Inv X pins σ H' s2/\RelV x u/\J.Ig i H x H'/\tn (i+1) s2.heap/\∀b∈fp,H' b=none) E s1) E s
 done:∀(X:Cx),X.prog=P->X.w=w->X.K=K->X.calm=true->∀(i:Nat) (pins:List (ci×Obj)) (s:gN) (σ:St) (H:Hp) (E:cr->gN->Prop),Inv X pins σ H s->(∀b∈fp,A8 X pins H b)->tn i s.heap->J.stop i H ->
  gR (gU P w) X.A (pyNext<|.ref it) (λr s1=>r=none/\Inv X pins σ H s1) E s
 self:∀(A:jq)(i:Nat)(s:gN)(Q:cr->gN->Prop)(E:cr->gN->Prop),tn i s.heap->Q (.ref it) s->gR (gU P w) A (pyIter<|.ref it) Q E s
abbrev TI:=St->Hp->(It->Hp->Prop)->Prop
def PIE(X:Cx)(a:List (ci×Obj))(i:St)(j:iA)(R:It->Hp->Prop)(c:cr)(e:gN):Prop :=
 ∃(f:ci)(g:List ci)(h:Nat->iJ->Prop)(J:It)(d:Hp),c=.ref f/\Inv X a i d e/\Turn X.prog X.w X.K j J g f h/\h 0 e.heap/\(∀b∈g,A8 X a d b)/\R J d
def PI(X:Cx)(d b:iA)(e:TI):Prop :=
 ∀(a:List (ci×Obj)) (s:gN) (c:St) (H:Hp) (R:It->Hp->Prop),Inv X a c H s->e c H R ->
  gR 19 X.A (eval b X.env) (λv f=>gR 19 X.A (pyIter v) (PIE X a c d R) X.xe f) X.xe s
def OH{s:gN}(b:s.heap.get? c=↑o)(d:o.cls=.type n)(e:o.data=.fields f)
 (g:["enumerate","zip","dict_itemiterator","dict_reverseitemiterator","odict_iterator","itertools.zip_longest","itertools.pairwise"].contains n=false)(a:Q () s):gR M A (sk i (.ref c) u) Q E s:=by
  cases i<;>first
    | exact ap a
    | (cases u<;>first
        | exact ap a
        | (refine am (qK b ?_)
           rw[d,e]
           show gR M A (if (["enumerate","zip","dict_itemiterator","dict_reverseitemiterator","odict_iterator","itertools.zip_longest","itertools.pairwise"].contains n&&f[0]?==↑(lF _))=true then _ else _) Q E s
           rw[gl<|by intro h;rw[g,Bool.false_and]at h;cases h]
           exact ap a))
noncomputable def YF(K:gH)(a:ci):It :=
 #[λi H=>∃b x,v6 K H a b/\b[i]?=↑x,λi H x c=>c=H/\∀b,v6 K H a b->b[i]?=↑x,λi H=>∃b,v6 K H a b/\b.length<=i]
noncomputable def Itt(K:gH)(a:ci):It :=
 #[λi H=>∃b x,yY K H a b/\b[i]?=↑x,λi H x c=>c=H/\∀b,yY K H a b->b[i]?=↑x,λi H=>∃b,yY K H a b/\b.length<=i]
noncomputable def WC(a:Int)(n:Nat):It:=#[λi _=>i<n,λi H x b=>b=H/\x=.int (a+i),λi _=>n<=i]
def M8{P:iu}{w:iO}{K:gH}{tg:iA}(a it:ci):Turn P w K tg (YF K a) [it] it (λi h=>h.IsListIter it a i) where
 mem:=by simp
 obj:=λi h st b hb=>by
  have e:b=it:=by simpa using hb
  subst e;refine e1a3 st λo e c d=>?_;exact#[o,e,λv z=>by rw[d]at z;cases z]
 keep:=λi h h' st k=>st.at λo e=>k it q0o o e
 item:=by intro X hP hw hK hc i pins s σ H E I hf st hg;subst hP hw hK;refine e2a2 hg λxs x hq hx=>?_;refine e1a3 (I.list hq) λvh rv p hz=>?_;refine e1a2 (rv.get hx) λu hu ru=>?_;refine e0a6 (hf it q0o) λf0 f1 f2 f3 f4 f5=>?_;refine wpAny_pyNext_list_item st p.isList (x:=u) (by simpa using hu) λh' VE sb=>?_;have I1:Inv X pins σ H { s with heap:=h'}:=I.turned (t':=s.toks) (λb o hb e=>(sb.2 b hb).trans e) f0 f1 f3 f4 f5;refine e1a3 (id VE) λo e c d=>?_;exact#[u,rfl,OH (s:={ s with heap:=h'}) e c d q0q #[x,H,I1,ru,#[rfl,λys hy=>by rw[I.Iu hy hq];exact hx],VE,λb hb=>(hf b hb).1]]
 done:=by intro X hP hw hK hc i pins s σ H E I hf st hg;subst hP hw hK;refine e1a2 hg λxs hq hx=>?_;refine e1a3 (I.list hq) λvh rv p hz=>?_;refine e0a6 (hf it q0o) λf0 f1 f2 f3 f4 f5=>?_;have hl:=rv.length;exact wpAny_pyNext_list_end (I.ok.hd hc) st p.isList (by simp;lia) λh' eb=>94
 self:=λ_ _ _ _ _ st h=>wpAny_pyIter_listiter st h
def JU{P:iu}{w:iO}{K:gH}{tg:iA}(a it:ci):Turn P w K tg (Itt K a) [it] it (λi h=>h.IsTupleIter it a i) where
 mem:=by simp
 obj:=λi h st b hb=>by
  have e:b=it:=by simpa using hb
  subst e;refine e1a3 st λo e c d=>?_;exact#[o,e,λv z=>by rw[d]at z;cases z]
 keep:=λi h h' st k=>st.at λo e=>k it q0o o e
 item:=by intro X hP hw hK hc i pins s σ H E I hf st hg;subst hP hw hK;refine e2a2 hg λxs x hq hx=>?_;refine e1a3 (I.tuple hq) λvh rv p hz=>?_;refine e1a2 (rv.get hx) λu hu ru=>?_;refine e0a6 (hf it q0o) λf0 f1 f2 f3 f4 f5=>?_;refine wpAny_pyNext_tuple_item st (show s.heap.IsTuple a vh.toArray from p) (x:=u) (by simpa using hu) λh' VE sb=>?_;have I1:Inv X pins σ H { s with heap:=h'}:=I.turned (t':=s.toks) (λb o hb e=>(sb.2 b hb).trans e) f0 f1 f3 f4 f5;refine e1a3 (id VE) λo e c d=>?_;exact#[u,rfl,OH (s:={ s with heap:=h'}) e c d q0q #[x,H,I1,ru,#[rfl,λys hy=>by rw[I.M6 hy hq];exact hx],VE,λb hb=>(hf b hb).1]]
 done:=by intro X hP hw hK hc i pins s σ H E I hf st hg;subst hP hw hK;refine e1a2 hg λxs hq hx=>?_;refine e1a3 (I.tuple hq) λvh rv p hz=>?_;refine e0a6 (hf it q0o) λf0 f1 f2 f3 f4 f5=>?_;have hl:=rv.length;exact wpAny_pyNext_tuple_end (I.ok.hd hc) st (show s.heap.IsTuple a vh.toArray from p) (by simp;lia) λh' eb=>94
 self:=λ_ _ _ _ _ st h=>wpAny_pyIter_tupleiter st h
def JV{P:iu}{w:iO}{K:gH}{tg:iA}(it:ci)(lo:Int)(n:Nat):Turn P w K tg (WC lo n) [it] it (λi h=>IsRangeIter h it (lo+(i:Nat)*1) ((n:Int)-(i:Nat)) 1) where
 mem:=by simp
 obj:=λi h st b hb=>by
  have e:b=it:=by simpa using hb
  subst e
  exact#[_,st,λv z=>by
   have z':tE _=Data.cell v:=z
   cases z']
 keep:=λi h h' st k=>k it q0o _ st
 item:=by intro X hP hw hK hc i pins s σ H E I hf st hg;subst hP hw hK;refine e0a6 (hf it q0o) λf0 f1 f2 f3 f4 f5=>?_;have W:=Walks.range (prog:=X.prog) (w:=X.w) (I.ok.hd hc) it lo 1 n;refine W.item i s _ _ hg st λv h' tk hv VE kk=>?_;obtain⟨t,rfl⟩:=hv;have I1:Inv X pins σ H { s with heap:=h',toks:=tk}:=I.turned (λb o hb e=>kk b o (by simpa using hb) e) f0 f1 f3 f4 f5;refine#[_,rfl,OH (s:={ s with heap:=h',toks:=tk}) (n:="range_iterator") VE rfl rfl q0q #[.int<|lo+i,H,I1,⟨t,?_⟩,⟨rfl,rfl⟩,VE,λb hb=>(hf b hb).1]];rw[Int.mul_one]
 done:=by intro X hP hw hK hc i pins s σ H E I hf st hg;refine e0a6 (hf it q0o) λf0 f1 f2 f3 f4 f5=>?_;exact wpAny_pyNext_range_end (I.ok.hd hc) st (by have:n<=i:=hg;lia) λh' eb=>94
 self:=λ_ _ _ _ _ st h=>wpAny_pyIter_rangeiter st h
def Y2(K:gH)(c:TE):TI:=λd H R=>c d H λx b=>∃a,x=.ref a/\(∃e,v6 K b a e)/\R (YF K a) b
def a1t(K:gH)(c:TE):TI:=λd H R=>c d H λx b=>∃a,x=.ref a/\(∃e,yY K b a e)/\R (Itt K a) b
def Gm{l:iA}{g:TE}(i:PE X l g):PI X w l (Y2 X.K g):=by
 intro c s j H R I h;refine vG (i c s j H _ I h) λv d k=>e2a3 k λx m f n r=>?_;obtain⟨a,e,⟨y,t⟩,q⟩:=r;subst e;cases n;refine e1a3 (f.list t) λvh z p A=>?_;refine wpAny_pyIter_list p.isList ?_;refine#[⇑d,[⇑d],_,_,m,rfl,f.kept (t':=d.toks) λb o e=>ce _ e,M8 a _,#[_,gX _ rfl,rfl,rfl],λb u=>?_,q];have e:b=⇑d:=by simpa using u
 subst e;exact f.Gk (gK _)<|f.vL.fresh<|gK _
def WD{l:iA}{g:TE}(i:PE X l g):PI X w l (a1t X.K g):=by
 intro c s j H R I h;refine vG (i c s j H _ I h) λv d k=>e2a3 k λx m f n r=>?_;obtain⟨a,e,⟨y,t⟩,q⟩:=r;subst e;cases n;refine e1a3 (f.tuple t) λvh z p A=>?_;refine qL (show d.heap.IsTuple a vh.toArray from p) ?_;refine#[⇑d,[⇑d],_,_,m,rfl,f.kept (t':=d.toks) λb o e=>ce _ e,JU a _,#[_,gX _ rfl,rfl,rfl],λb u=>?_,q];have e:b=⇑d:=by simpa using u
 subst e;exact f.Gk (gK _)<|f.vL.fresh<|gK _
def Iv{a c:Int}{f:Nat}(I:Inv X d h H s)(i:-(2 ^ 62)<=a)(j:a<2 ^ 62)(k:-(2 ^ 62)<=c)(l:c<2 ^ 62)
 (q:R (WC a (c-a).toNat) H):gR 19 X.A (pyIter<|.ref ⇑s) (PIE X d h r R) E { s with heap:=s.heap.push 98,toks:=f}:=by
  refine wpAny_pyIter_range (IsRange.new ..) (small_one i j k l) ?_
  have g:Inv X d h H { s with heap:=s.heap.push 98,toks:=f}:=I.kept λb o e=>ce _ e
  refine#[(s.heap.push 98).objs.size,[(s.heap.push 98).objs.size],_,_,H,rfl,
    g.kept (t':=f) λb o e=>ce _ e,JV _ a (c-a).toNat,?_,λb m=>?_,q]
  · have n : a+((0 : Nat) : Int)*1 = a := by simp
    have p:(((c-a).toNat:Nat):Int)-((0:Nat):Int)=Builtin.Range.rangeSize a c 1:=by rw[rangeSize_one];split<;>lia
    rw[n,p]
    exact gX _ rfl
  · have e : b = (s.heap.push { cls := .type "range", data := .fields #v[.int a t, .int c u, .int 1 v] }).objs.size := by simpa using m
    subst e
    exact g.Gk (gK _)<|g.vL.fresh<|gK _
def Y3(a:TA):TI:=λb H R=>a b H λc d=>∃j:Int,c=[.int j]/\-(2 ^ 62)<=j/\j<2 ^ 62/\R (WC 0 j.toNat) d
def VF(a:TA):TI:=λb H R=>a b H λc d=>∃i j:Int,c=[.int i,.int j]/\(-(2 ^ 62)<=i/\i<2 ^ 62/\-(2 ^ 62)<=j/\j<2 ^ 62)/\R (WC i (j-i).toNat) d
def M9{a:iA}{f:TA}{p b:Pos}(g:Gl X "range")(i:X.mg "range"=none)(k:PA X [a] f)(l:gJ [a] X.env=[77]:=by rfl):PI X x (.Call (.Name "range" p) [a] [] b) (Y3 f):=by
 intro c s m H R I h;refine Call_<|zn I g i boot_range<|jS (vG (k b c s m H _ I h) λy z n=>e2a3 n λA B o u d=>?_) l rfl;obtain⟨j,e,d,v,q⟩:=d;subst e
 cases u with
 |cons r w =>
  cases w;obtain⟨t,rfl⟩:=r;exact call_range_1<|Iv o q0a q0a d v (by simpa using q)
def Na{a b:iA}{l:TA}{p c:Pos}(m:Gl X "range")(n:X.mg "range"=none)(o:PA X [a,b] l)(u:gJ [a,b] X.env=[77,(false,eval b X.env)]:=by rfl)(d:gJ [b] X.env=[(false,eval b X.env)]:=by rfl) :
  PI X C (.Call (.Name "range" p) [a,b] [] c) (VF l):=by
 intro f s v H R I h;refine Call_<|zn I m n boot_range<|jS (vG (o c f s v H _ I h) λD E ⟨F,H1,w,x,g⟩=>?_) (by rw[u,d]) (by rw[d];rfl);obtain⟨i,j,e,⟨g,y,z,A⟩,q⟩:=g;subst e
 cases x with
 |cons r k =>
  cases k with
  |cons B k =>
   cases k;obtain⟨t,rfl⟩:=r;obtain⟨G,rfl⟩:=B;exact call_range_2<|Iv w g y z A q
def a1u(f:TI)(g:TG)(h:TS):TS:=λD a H=>f a H λJ j=>∃W:Nat->Nat->St->Hp->Prop,(∃m,W 0 m a j)/\∀i m a H,W i m a H ->
 (J.stop i H/\D.nx a H)\/(J.go i H/\∃N:St->Hp->Prop,(∀b c,N b c->∃e,e<m/\W (i+1) e b c)/\∀x c,J.Ig i H x c->g x a c λd k=>h { D with nx:=N,ct:=N,bk:=D.nx} d k)
noncomputable def DN(a:List ci)(h:iJ):List (ci×Obj):=a.filterMap λb=>(h.get? b).map λo=>(b,o)
def xu{h:iJ}(a:b∈c)(e:h.get? b=↑o):(b,o)∈DN c h:=List.mem_filterMap.mpr #[b,a,by rw[e];rfl]
def Nb(a:p∈DN c h):p.1∈c/\h.get? p.1=↑p.2:=by
 refine e1a2 (List.mem_filterMap.mp a) λb d e=>?_
 cases q:h.get? b with
 |none=>rw[q]at e;cases e
 |some o =>
  rw[q]at e;have f:(b,o)=p:=iT e;subst f;exact#[d,q]
def Inv.pinned(I:Inv X a g H s)(h:∀b∈fp,A8 X a H b)(i:∀b∈fp,∃o,s.heap.get? b=↑o/\∀v,o.data≠.cell v):Inv X (a++DN fp s.heap) g H s :=
 I.zm λp j=>(List.mem_append.mp j).elim (λz=>I.pin p<|hV _ z) λz=>by obtain⟨c,e⟩:=Nb z;obtain⟨k,l,m,_⟩:=h p.1 c;refine e1a2 (i p.1 c) λo f d=>?_;rw[e]at f;cases f;exact#[e,k,l,m,d]
def Inv.zS(I:Inv X (a++d) b H s):Inv X a b H s:=I.zm λp c=>I.pin p<|hV _<|iI _ c
def OI{j:iA}{C:List ic}{wi:TI}{g:TG}{tb:TS}{Y:Pos}(M:rK 19 X.A X.env X.xe)(hc:X.calm=true)(hi:PI X tg j wi)(hg:PG X tg g)(k:Fb X C tb)
  (hs:∀x,j7 j X.env x=pure x:=by intro _;rfl):PS X (.For tg j C [] Y) (a1u wi g tb):=by
 intro a s σ H D I h;refine wpAny_For (vG (hi a s σ H _ I h) λv s1 h1=>vG h1 λai s2 h2=>?_) hs;obtain⟨it,O,tn,J,H2,e,I2,T,Z,f2,W,⟨m0,w0⟩,P⟩:=h2;subst e
 -- ag aa true of the E Q through the ah
 have l:∀{B:Hp},(∀b∈O,B b=none)->∀b∈O,A8 X a B b:=λhn b k=>#[hn b k,(f2 b k).2];refine codeAny_forLoop_any (λn s'=>∃i p B,Inv X a p B s'/\tn i s'.heap/\(∀b∈O,B b=none)/\W i n p B) ?_ m0 #[0,σ,H2,I2,Z,λb k=>(f2 b k).1,w0];rintro n s3 ⟨i,q,H3,I3,R,S,w3⟩;rcases P i n q H3 w3 with⟨stop,qn⟩|⟨go,N,hN,step⟩
 ·refine lw M<|vG (T.done X rfl rfl rfl hc i a s3 q H3 X.xe I3 (l S) R stop) λr s4 G=>e0a2 G λhr I4=>?_;subst hr;exact nN #[q,H3,I4,qn]
 ·refine lw M<|vG (T.item X rfl rfl rfl hc i a s3 q H3 X.xe I3 (l S) R go) λr s4 G=>e1a2 G λu hr h4=>?_;subst hr;refine lw M<|vG h4 λ_ s5 G=>e2a5 G λx H5 I5 r5 y5 L ab=>?_;have ae:=I5.pinned (l ab)<|T.obj _ _ L;refine lw M<|vG (hg _ s5 q H5 x u _ ae r5<|step x H5 y5) λ_ s6 G=>e2a2 G λaf H6 I6 q6=>?_;refine lw M (vG (k _ s6 af H6 _ I6 q6) λf s7 F=>?_)
  have t:∀{c:St} {y:Hp},Inv X (a++DN O s5.heap) c y s7->N c y->∃m,m<n/\∃i p B,Inv X a p B s7/\tn i s7.heap/\(∀b∈O,B b=none)/\W i m p B:=λ{c y} z U=>by refine e1a2 (hN c y U) λm' hm w7=>?_;refine#[m',hm,i+1,c,y,z.zS,T.keep _ _ _ L λb k o e=>(z.pin (b,o)<|hV _<|hV _<|xu k e).1,λb k=>?_,w7];refine e1a2 (T.obj _ _ L b k) λo e d=>?_;exact(z.pin (b,o)<|hV _<|hV _<|xu k e).2.1
  cases f with
  |next=>obtain⟨c,y,z,U⟩:=F;exact t z U
  |cont=>obtain⟨c,y,z,U⟩:=F;exact t z U
  |brk=>obtain⟨c,y,z,F⟩:=F;exact#[c,y,z.zS,F]
  |ret v=>obtain⟨x7,c,y,z,r7,F⟩:=F;exact#[x7,c,y,z.zS,r7,F]
def OJ{K:gH}{a:ci}{xs:List V}{g:TG}{l:TS}{D:Ends}{b:St}{H:Hp}(c:Nat->St->Hp->Prop)(o:c 0 b H)(r:∀i b H,i<=xs.length->c i b H->v6 K H a xs)
  (s:∀i x b H,xs[i]?=↑x->c i b H->g x b H λd k=>l { D with nx:=c<|i+1,ct:=c<|i+1,bk:=D.nx} d k) (t:∀b H,c xs.length b H->D.nx b H) :
  ∃W:Nat->Nat->St->Hp->Prop,(∃m,W 0 m b H)/\∀i m b H,W i m b H ->
   ((YF K a).stop i H/\D.nx b H)\/((YF K a).go i H/\∃N:St->Hp->Prop,(∀f h,N f h->∃n,n<m/\W (i+1) n f h)/\∀x h,(YF K a).Ig i H x h->g x b h λd k=>l { D with nx:=N,ct:=N,bk:=D.nx} d k):=by
 refine#[λi m b H=>m=xs.length-i/\i<=xs.length/\c i b H,#[xs.length,q0o,iN _,o],?_];rintro i m b H ⟨rfl,u,p⟩;have q:=r i b H u p;by_cases j:i<xs.length
 ·refine .inr #[#[xs,xs[i],q,by simp[j]],c<|i+1,λf h v=>#[xs.length-(i+1),q0d,rfl,j,v],λx h y=>?_];obtain⟨e,y⟩:=y;subst e;exact s i x b _ (y xs q) p
 ·have e:i=xs.length:=by omega
  subst e;exact .inl #[#[xs,q,gK _],t b H p]
abbrev R2:=V->V->Hp->VK->Prop
def zU(X:Cx)(f:cr->cr->Sem cr)(r:R2):Prop :=
 ∀(a:List (ci×Obj)) (s:gN) (b:St) (H:Hp) (x y:V) (v u:cr) (Q:VK),Inv X a b H s->RelV x v->RelV y u->r x y H Q ->
  gR 19 X.A (f v u) (EP X a b Q) X.xe s
def UnR(X:Cx)(f:cr->Sem cr)(r:V->Hp->VK->Prop):Prop :=
 ∀(a:List (ci×Obj)) (s:gN) (b:St) (H:Hp) (x:V) (v:cr) (Q:VK),Inv X a b H s->RelV x v->r x H Q ->
  gR 19 X.A (f v) (EP X a b Q) X.xe s
def yz(X:Cx)(f:cr)(r:List V->Hp->VK->Prop):Prop :=
 ∀(a:List (ci×Obj)) (s:gN) (b:St) (H:Hp) (c:List V) (d:List cr) (Q:VK),Inv X a b H s->Vals c d->r c H Q ->
  gR 19 X.A (call f d) (EP X a b Q) X.xe s
def a1w(X:Cx)(r:V->Hp->(Bool->Hp->Prop)->Prop):Prop :=
 ∀(a:List (ci×Obj)) (s:gN) (b:St) (H:Hp) (x:V) (v:cr) (Q:Bool->Hp->Prop),Inv X a b H s->RelV x v->r x H Q ->
  gR 19 X.A (ut v) (TP X a b Q) X.xe s
def YG(r:R2)(b c:TE):TE:=λa H Q=>b a H λx d=>c a d λy e=>r x y e Q
def tUn(r:V->Hp->VK->Prop)(a:TE):TE:=λb H Q=>a b H λx c=>r x c Q
def rI(C:Int->Int->Prop)(g:Int->Int->V):R2:=λx y H Q=>∃i j,x=.int i/\y=.int j/\C i j/\Q (g i j) H
def Sn(g:Int->Int->V):R2:=λx y H Q=>∃i j,x=.int i/\y=.int j/\Q (g i j) H
def rU(g:Int->V):V->Hp->VK->Prop:=λx H Q=>∃i,x=.int i/\Q (g i) H
def WE(m:PE X a n)(o:PE X b p){c:List (ci×Obj)}{s:gN}{d:St}{H:Hp}{R:V->V->Hp->Prop}(I:Inv X c d H s)
  (h:n d H λx k=>p d k λy e=>R x y e) {Q:cr->gN->Prop} {f:cr->cr->Sem cr}
  (q:∀v u j x y e,Inv X c d e j->RelV x v->RelV y u->R x y e->gR 19 X.A (f v u) Q X.xe j) :
  gR 19 X.A (eval a X.env) (λv g=>gR 19 X.A (eval b X.env) (λu i=>gR 19 X.A (f v u) Q X.xe i) X.xe g) X.xe s:=by
 refine vG (m c s d H _ I h) λv r l=>e2a3 l λx k t z B=>?_;refine vG (o c r d k _ t B) λu j l=>e2a3 l λy e C D E=>?_;exact q v u j x y e C z D E
def wN(d:zU X (mo op) r)(e:PE X a f)(g:PE X b i):PE X (.BinOp a op b pos) (YG r f i):=by intro c s j H Q I h;exact wpAny_BinOp<|WE e g I h λv u k x y l m n o q=>d c k j l x y v u Q m n o q
def VG{c:UnaryOp}{r:V->Hp->VK->Prop}(e:UnR X (unaryOp c) r)(f:PE X a g):PE X (.UnaryOp c a pos) (tUn r g):=by intro b s d H Q I h;exact UnaryOp_<|vG (f b s d H _ I h) λv i j=>e2a3 j λx k l m n=>e b i d k x v Q l m n
def opI{f:cr->cr->Sem cr}{C:Int->Int->Prop}{g:Int->Int->Int}
 (a:∀(i j:Int)(t u:Tok)(s:gN)(Q:cr->gN->Prop)(E:cr->gN->Prop),C i j->Q (.int (g i j) s.toks) 99->gR 19 X.A (f (.int i t)<|.int j u) Q E s) :
    zU X f (rI C λi j=>.int<|g i j):=by
  intro b s l H x y v u Q I c d h
  obtain⟨i,j,rfl,rfl,e,q⟩:=h
  obtain⟨t,rfl⟩:=c
  obtain⟨k,rfl⟩:=d
  exact a i j t k s _ _ e #[.int<|g i j,H,I.tok _,#[_,rfl],q]
def Y4{f:cr->cr->Sem cr}{g:Int->Int->Int}
 (a:∀(i j:Int)(t u:Tok)(s:gN)(Q:cr->gN->Prop)(E:cr->gN->Prop),Q (.int (g i j) s.toks) 99->gR 19 X.A (f (.int i t)<|.int j u) Q E s) :
    zU X f (Sn λi j=>.int<|g i j):=by
  intro b s k H x y v u Q I c d h
  obtain⟨i,j,rfl,rfl,q⟩:=h
  obtain⟨t,rfl⟩:=c
  obtain⟨e,rfl⟩:=d
  exact a i j t e s _ _ #[.int<|g i j,H,I.tok _,#[_,rfl],q]
def SH{f:cr->cr->Sem cr}{g:Int->Int->Bool}
 (a:∀(i j:Int)(t u:Tok)(s:gN)(Q:cr->gN->Prop)(E:cr->gN->Prop),Q (.bool<|g i j) s->gR 19 X.A (f (.int i t)<|.int j u) Q E s) :
    zU X f (Sn λi j=>.bl<|g i j):=by
  intro b s k H x y v u Q I c d h
  obtain⟨i,j,rfl,rfl,q⟩:=h
  obtain⟨t,rfl⟩:=c
  obtain⟨e,rfl⟩:=d
  exact a i j t e s _ _ #[.bl<|g i j,H,I,rfl,q]
def a1x(i j:Int):Prop:=0<j/\j<1073741824
def a1y(i j:Int):Prop:=0<=j/\j<=1000000/\i.natAbs<2 ^ 64
def WF(i j:Int):Prop:=(-(2 ^ 64)<i/\i<2 ^ 64)\/(-(2 ^ 64)<j/\j<2 ^ 64)
def WF.ok{i j:Int}(h:WF i j):IntMulOk i j:=by
 rcases h with⟨a,b⟩|⟨a,b⟩
 ·exact .of_left<|intBits_le_64 a b
 ·exact .of_right<|intBits_le_64 a b
def A9:zU X (mo .Add) (Sn λi j=>.int<|i+j):=Y4 λ_ _ _ _ _ _ _ q=>add_int q
def JW:zU X (mo .Sub) (Sn λi j=>.int<|i-j):=Y4 λ_ _ _ _ _ _ _ q=>sub_int q
def Ce:zU X (mo .Mult) (rI WF λi j=>.int<|i*j):=opI λ_ _ _ _ _ _ _ a q=>mul_int q a.ok
def LY:zU X (mo .FloorDiv) (rI a1x λi j=>.int<|i / j):=opI λi j _ _ _ _ _ a q=>by have b:(0:Int)<j:=a.1;have c:j<1073741824:=a.2;exact floordiv_int q0d (by rw[Int.fdiv_eq_ediv_of_nonneg i q0d];exact q)<|.inl<|PyProof.noPylong_small q0d
def Cf:zU X (mo .Mod) (rI (λ_ j=>0<j) λi j=>.int<|i%j):=opI λi j _ _ _ _ _ a q=>by exact mod_int' q0a (by rw[Int.fmod_eq_emod_of_nonneg i q0a];exact q)
def WG:zU X (mo .Pow) (rI a1y λi j=>.int<|i ^ j.toNat):=opI λ_ _ _ _ _ _ _ a q=>pow_int_small a.1 a.2.1 a.2.2 q
def unI{f:cr->Sem cr}{g:Int->Int}
 (a:∀(i:Int)(t:Tok)(s:gN)(Q:cr->gN->Prop)(E:cr->gN->Prop),Q (.int (g i) s.toks) 99->gR 19 X.A (f<|.int i t) Q E s) :
    UnR X f (rU λi=>.int<|g i):=by
  intro b s d H x v Q I c h
  obtain⟨i,rfl,q⟩:=h
  obtain⟨t,rfl⟩:=c
  exact a i t s _ _ #[.int<|g i,H,I.tok _,#[_,rfl],q]
def OK:UnR X (unaryOp .USub) (rU λi=>.int (-i)):=unI λ_ _ _ _ _ q=>neg_int q
noncomputable def WH:V->V->Bool
 | .wq,.wq=>true|.wq,.int _=>true|.int _,.wq=>true|.wq,.bl _=>true|.bl _,.wq=>true|.wq,.str _=>true|.str _,.wq=>true
 | .int _,.int _=>true|.bl _,.bl _=>true|.str _,.str _=>true|.LU _,.LU _=>true
 | .int _,.str _=>true|.str _,.int _=>true|.bl _,.str _=>true|.str _,.bl _=>true
 |_,_=>false
def rEq:R2:=λx y H Q=>WH x y=true/\Q (.bl<|decide<|x=y) H
def rNe:R2:=λx y H Q=>WH x y=true/\Q (.bl<|!decide (x=y)) H
def LZ{i j:Int}:decide (V.int i=V.int j)=(i==j):=by rw[kW];simp
def OM{i j:Bool}:decide (V.bl i=V.bl j)=(i==j):=by rw[kW];simp
def L0:decide (V.str i=V.str j)=(i==j):=by rw[kW];simp
def L4:decide (V.LU i=V.LU j)=(i.toList==j.toList):=by rw[kW];cases i;cases j;simp
def vE{k b:Bool}(I:Inv X a c H s)(q:Q (.bl k) H)(e:k=b):EP X a c Q (.bool b) s:=by subst e;exact#[.bl k,H,I,rfl,q]
def Y5:zU X (jj .Eq) rEq:=by
 intro e s f H x y v u Q I d a h;obtain⟨c,q⟩:=h
 cases x with
 |wq =>
  cases d
  cases y with
  |wq=>cases a;exact PySem.EqNone.eq_none_none<|vE I q q0o
  |bl j=>cases a;exact PySem.EqNone.eq_none_bool<|vE I q q0o
  |int j=>obtain⟨b,rfl⟩:=a;exact PySem.EqNone.eq_none_int<|vE I q q0o
  |str j=>obtain⟨b,rfl⟩:=a;exact PySem.EqNone.eq_none_str<|vE I q q0o
  |_=>exact g8 (show false=true from c) gV
 |bl i =>
  cases d
  cases y with
  |wq=>cases a;exact PySem.EqNone.eq_bool_none<|vE I q q0o
  |bl j=>cases a;exact eq_bool<|vE I q OM
  |str j=>obtain⟨b,rfl⟩:=a;exact PySem.EqMixed.eq_bool_str<|vE I q q0o
  |_=>exact g8 (show false=true from c) gV
 |int i =>
  obtain⟨t,rfl⟩:=d
  cases y with
  |wq=>cases a;exact PySem.EqNone.eq_int_none<|vE I q q0o
  |int j=>obtain⟨b,rfl⟩:=a;exact eq_int<|vE I q LZ
  |str j=>obtain⟨b,rfl⟩:=a;exact PySem.EqMixed.eq_int_str<|vE I q q0o
  |_=>exact g8 (show false=true from c) gV
 |str i =>
  obtain⟨t,rfl⟩:=d
  cases y with
  |wq=>cases a;exact PySem.EqNone.eq_str_none<|vE I q q0o
  |bl j=>cases a;exact PySem.EqMixed.eq_str_bool<|vE I q q0o
  |int j=>obtain⟨b,rfl⟩:=a;exact PySem.EqMixed.eq_str_int<|vE I q q0o
  |str j=>obtain⟨b,rfl⟩:=a;exact eq_str<|vE I q L0
  |_=>exact g8 (show false=true from c) gV
 |LU i =>
  obtain⟨t,rfl⟩:=d
  cases y with
  |LU j=>obtain⟨b,rfl⟩:=a;exact PySem.W.eq_bytes<|vE I q L4
  |_=>exact g8 (show false=true from c) gV
 |_=>cases y<;>exact g8 (show false=true from c) gV
def Y6:zU X (jj .NotEq) rNe:=by
 intro e s f H x y v u Q I d a h;obtain⟨c,q⟩:=h
 cases x with
 |wq =>
  cases d
  cases y with
  |wq=>cases a;exact PySem.EqNone.ne_none_none<|vE I q q0o
  |bl j=>cases a;exact PySem.EqNone.ne_none_bool<|vE I q q0o
  |int j=>obtain⟨b,rfl⟩:=a;exact PySem.EqNone.ne_none_int<|vE I q q0o
  |str j=>obtain⟨b,rfl⟩:=a;exact PySem.EqNone.ne_none_str<|vE I q q0o
  |_=>exact g8 (show false=true from c) gV
 |bl i =>
  cases d
  cases y with
  |wq=>cases a;exact PySem.EqNone.ne_bool_none<|vE I q q0o
  |bl j=>cases a;exact ne_bool<|vE I q<|congrArg not OM
  |str j=>obtain⟨b,rfl⟩:=a;exact PySem.EqMixed.ne_bool_str<|vE I q q0o
  |_=>exact g8 (show false=true from c) gV
 |int i =>
  obtain⟨t,rfl⟩:=d
  cases y with
  |wq=>cases a;exact PySem.EqNone.ne_int_none<|vE I q q0o
  |int j=>obtain⟨b,rfl⟩:=a;exact ne_int<|vE I q<|congrArg not LZ
  |str j=>obtain⟨b,rfl⟩:=a;exact PySem.EqMixed.ne_int_str<|vE I q q0o
  |_=>exact g8 (show false=true from c) gV
 |str i =>
  obtain⟨t,rfl⟩:=d
  cases y with
  |wq=>cases a;exact PySem.EqNone.ne_str_none<|vE I q q0o
  |bl j=>cases a;exact PySem.EqMixed.ne_str_bool<|vE I q q0o
  |int j=>obtain⟨b,rfl⟩:=a;exact PySem.EqMixed.ne_str_int<|vE I q q0o
  |str j=>obtain⟨b,rfl⟩:=a;exact ne_str<|vE I q<|congrArg not L0
  |_=>exact g8 (show false=true from c) gV
 |LU i =>
  obtain⟨t,rfl⟩:=d
  cases y with
  |LU j=>obtain⟨b,rfl⟩:=a;exact PySem.W.ne_bytes<|vE I q<|congrArg not L4
  |_=>exact g8 (show false=true from c) gV
 |_=>cases y<;>exact g8 (show false=true from c) gV
def VH:zU X (jj .Lt) (Sn λi j=>.bl<|decide<|i<j):=SH λ_ _ _ _ _ _ _ q=>lt_int q
def VI:zU X (jj .LtE) (Sn λi j=>.bl<|decide<|i<=j):=SH λ_ _ _ _ _ _ _ q=>le_int q
def VJ:zU X (jj .Gt) (Sn λi j=>.bl<|decide<|j<i):=SH λ_ _ _ _ _ _ _ q=>gt_int q
def Y7:zU X (jj .GtE) (Sn λi j=>.bl<|decide<|j<=i):=SH λ_ _ _ _ _ _ _ q=>ge_int q
def ON:zU X (jj .Is) (λx y H Q=>y=.wq/\Q (.bl<|decide<|x=.wq) H):=by
 intro a s d H x y v u Q I b c h;obtain⟨rfl,q⟩:=h;cases c;refine is_none_gen<|vE I q ?_
 cases x<;>first
  | (cases b;rfl)
  | (obtain⟨t,rfl⟩:=b;rfl)
def L5:zU X (jj .IsNot) (λx y H Q=>y=.wq/\Q (.bl<|!decide (x=.wq)) H):=by
 intro a s d H x y v u Q I b c h;obtain⟨rfl,q⟩:=h;cases c;refine isnot_none_gen<|vE I q ?_
 cases x<;>first
  | (cases b;rfl)
  | (obtain⟨t,rfl⟩:=b;rfl)
def vH(b:iA)(h:op≠.In:=by decide)(a:op≠.NotIn:=by decide):iQ op b=false:=by
 have c:(op==CmpOp.In)=false:=by cases op<;>first|rfl|exact g8 rfl h
 have d:(op==CmpOp.NotIn)=false:=by cases op<;>first|rfl|exact g8 rfl a
 cases b<;>simp[iQ,c,d]
def Gn(d:zU X (jj op) r)(e:PE X a f)(g:PE X b i)(j:iQ op b=false):PE X (.Compare a [op] [b] pos) (YG r f i):=by intro c s k H Q I h;exact sK (WE e g I h λv u l x y m n o p q=>d c l k m x y v u Q n o p q) j
def Y8(t:TE):TT:=λa H Q=>t a H λx b=>∃k,x=.bl k/\Q k b
def xP{g:qE}{r:R2}(l:zU X (jj g) r)(m:PE X a n)(o:PE X b p)(q:iQ g b=false):PT X (.Compare a [g] [b] pos) (Y8<|YG r n p):=by
 intro d s i H Q I h
 refine uH (vG (m d s i H _ I h) λv t f=>e2a3 f λx w A B C=>vG (o d t i w _ A C) λu D f=>e2a3 f λy E F G J =>
  vG (l d D i E x y v u _ F B G J) λc P f=>e2a3 f λz L M N j=>e1a2 j λk e O=>?_) q
 subst e;cases N;exact j4 #[L,M,O]
def Y9(K:gH)(x:V)(H:Hp)(k:Bool):Prop :=
 match x with
 | .wq=>k=false
 | .bl b=>k=b
 | .int i=>k=(i != 0)
 | .str y=>y.length<=gL/\k=((y.length:Int) != 0)
 | .LU y=>y.size<=gL/\k=((y.size:Int) != 0)
 | .ref p=>(∃a,v6 K H p a/\k=!a.isEmpty)\/(∃a,yY K H p a/\k=!a.isEmpty)\/∃c,H p=↑(.dK c)/\k=!c.isEmpty
 |_=>False
def JX(r:KV a b):(!b.isEmpty)=!a.isEmpty:=by
 cases r<;>rfl
def DO(r:Vals a vh):(!vh.toArray.isEmpty)=!a.isEmpty:=by
 cases r<;>simp
def DP:(gL:Nat)<2 ^ 63:=by rw[i8];decide
def WI:a1w X (λx H Q=>∃k,Y9 X.K x H k/\Q k H):=by
 intro o s B H x v Q I g h;refine e1a2 h λk e q=>?_;have C:gL=16777216:=i8
 cases x with
 |wq =>
  cases g;have a:k=false:=e;subst a;exact truthy_none #[H,I,q]
 |bl b =>
  cases g;have a:k=b:=e;subst a;exact j4 #[H,I,q]
 |int i =>
  obtain⟨t,rfl⟩:=g;have a:k=(i != 0):=e;subst a;exact PySem.P.truthy_int #[H,I,q]
 |str y =>
  obtain⟨t,rfl⟩:=g;obtain⟨z,a⟩:y.length<=gL/\k=((y.length:Int) != 0):=e;subst a;exact PySem.P.truthy_str q0a #[H,I.tok _,q]
 |LU y =>
  obtain⟨t,rfl⟩:=g;obtain⟨z,a⟩:y.size<=gL/\k=((y.size:Int) != 0):=e;subst a;exact PySem.W.truthy_bytes q0a #[H,I.tok _,q]
 |ref p =>
  cases g;have a:(∃f,v6 X.K H p f/\k=!f.isEmpty)\/(∃f,yY X.K H p f/\k=!f.isEmpty)\/∃c,H p=↑(.dK c)/\k=!c.isEmpty:=e;rcases a with⟨f,j,a⟩|⟨f,j,a⟩|⟨c,j,a⟩
  ·subst a;refine e1a3 (I.list j) λvh r n u=>?_;have d:=r.length;exact wpAny_truthy_list n.isList (by simp only[gY];lia) #[H,I.tok _,by rw[DO r];exact q]
  ·subst a;refine e1a3 (I.tuple j) λvh r n u=>?_;have d:=r.length;exact truthy_tuple n (by simp only[gY];lia) #[H,I.tok _,by rw[DO r];exact q]
  ·subst a;obtain⟨u,A,l,r,m⟩:c.length<=gL/\(p==kO)=false/\∃l,KV c l/\s.heap.DictOf (vz X.prog X.w) p l:=I.vL p _ j;have d:c.length=l.length:=Paired.length r;exact wpAny_truthy_dict A m q0a #[H,I.tok _,by rw[JX r];exact q]
 |_=>exact(show False from e).elim
def Iw(f:PE X a g)(i:∀b,qJ a X.env b=(do let v <- b;my a.pos;kF [v] (ut v))) :
  PT X a (λd H Q=>g d H λx e=>∃k,Y9 X.K x e k/\Q k e):=by
 intro c s d H Q I h;exact isTrue_plain (vG (f c s d H _ I h) λv j l=>e2a3 l λx m n o p=>WI c j d m x v Q n o p)<|i _
def vals1(r:Vals [x] a):∃u,a=[u]/\RelV x u:=by
 cases r with
 |cons b c=>cases c;exact#[_,rfl,b]
def vals2(r:Vals [x,y] b):∃u a,b=[u,a]/\RelV x u/\RelV y a:=by
 cases r with
 |cons c d =>
  cases d with
  |cons e f=>cases f;exact#[_,_,rfl,c,e]
structure JY(h:iJ)(x dx C:ci)(mA:Str->Option cr):Prop where
 obj:h.get? x=↑(ky C dx)
 ns:h.Ns1 dx mA
 ne:dx≠x
set_option tactic.hygienic true in
def Nc{h:iJ}{c:ci}{d:Str->Option cr}(n:h.Ns1 c d):∃f,h.get? c=↑f/\∀name,oP name f=↑(d name):=by
 obtain⟨o,g,r,i,j,k,_,l⟩:=n;refine#[o,i,λname=>?_];have e:=l name;unfold nsFind findBy at e;rw[<- tO]at e;unfold oP;rw[j];dsimp only;split
 ·rename_i y q
  rw[q]at e;exact congrArg some e
 ·rename_i q
  rw[q]at e
  have a:g.toList.any (·.refKey)=false:=by rw[List.any_eq_false];intro y m;obtain⟨z,t,b⟩:=k y<|Array.mem_toList_iff.mp m;simp[DictEntry.refKey,b]
  have p:¬g.toList.any (·.refKey)=true:=by rw[a];exact gV
  rw[gl p];exact congrArg some e
def JY.look{C:ci}(I:JY h x b C c):∃a,PySem.W.InstAt h x (ky C b) C ↑a/\∀name,oP name a=↑(c name) :=
 e1a2 (Nc I.ns) λa d e =>
 #[a,#[I.obj,rfl,rfl,d],e]
section
variable{prog:iu}{w:iO}{A:jq}{E:cr->gN->Prop}{s:gN}{K:gH}{x dx C f:ci}{mA:Str->Option cr}{name:Str}{v:cr}
def get_map{a:Bool}(X:K.In s.heap)(I:JY s.heap x dx C mA)(c:mC K C name=true)(d:nE K C=true)
 (e:ii K (.ref C) name=↑none) (g:mA name=↑v) (b:tP v=true) (h:Q v 99) :
    gR (gU prog w) A (getAttr (.ref x) name a) Q E s:=by
  refine e1a2 I.look λj J i=>?_
  exact PySem.W.get_value X J (o6 c).1 (PySem.W.findObj_own d e rfl<|by rw[i,g]) b h
def OO(X:K.In s.heap)(I:JY s.heap x dx C mA)(a:mC K C name=true)
 (b:ii K (.ref C) name=↑(some<|.ref f)) (c:oq K (.ref f)=true) (d:mA name=none) (h:Q (.ref f,[.ref x]) s) :
    gR (gU prog w) A (lY (.ref x) name i) Q E s:=by
  refine e1a2 I.look λe J g=>?_
  exact PySem.W.method_fn X J (o6 a).1 (o6 a).2 b (beq_iff_eq.mp c) (by show (oP name e).map (·.isSome)=↑false;rw[g,d];rfl) h
def SJ(X:K.In s.heap)(I:JY s.heap x dx C mA)
 (l:ii K (.ref C) "__setattr__"=↑(some<|.builtin "object.__setattr__")) (m:pV K C=true) (n:qu K C name=↑none) (o:nE K C=true)
 (hw:sg mA p) (q:p.length<=gL)
 (h:∀e,JY e x dx C (λy=>if y=name then some v else mA y)->iU dx s.heap e->Q () { s with heap:=e,toks:=s.toks+2}) :
    gR (gU prog w) A (setAttr (.ref x) name v) Q E s:=by
  refine e1a2 I.look λD J F=>?_
  refine PySem.W.set_plain X J l<|PySem.W.osa_open (s:=99) (r:=none) X J m n λb=>?_
  refine e1a2 (PySem.W.any_some o) λG t g=>?_
  have u:s.heap.get? x=some #[.ref C,↑dx,.plain,#v[]]:=I.obj
  refine am<|ap<|am<|am<|wpAny_loadPart u<|am<|PySem.W.Looks.here (s:=99) (o7 X t) ?_
  rw[g]
  refine ap (a:=↑dx)<|am<|ap<|am ?_
  refine wpAny_nsSet1 (s:=99) I.ns λe c d=>?_
  obtain⟨H,z,B,i,j,k⟩:=c.count<|PySem.Within.cons name v hw
  refine am<|wpAny_lookBehind i (by rw[j];exact pastItsLine_dict<|ij k<|by rw[hZ];lia) ?_
  exact ap<|h _ #[(d.2 _<|Ne.symm I.ne).trans I.obj,c,I.ne] d
def OP(X:K.In s.heap)(c:qv K C=true)
 (e:ii K (.ref C) "__init__"=↑(some<|.ref f)) (i:oQ K (.ref f)=↑(.type "function"))
 (h:mz (gU prog w) (A.under (.builtin "type.__call__" #[.ref C::a,b])) (.call (.ref f) #[.ref (⇑s+1)::a,b]) (PySem.W.InitBack (⇑s+1) R)
 { s with heap:=(s.heap.push jH).push (ky C ⇑s)}) :
    mz (gU prog w) A (.call (.ref C) #[a,b]) R s:=by
  obtain⟨j,g,d,t,k⟩:=s
  exact PySem.W.make_core (PySem.W.makes_of X c) (oR X e) (λself=>PySem.W.bind_fn X self i) (.inl rfl) h
end
noncomputable def zV(f:Str)(v:V):List (Str×V)->List (Str×V)
 | []=>[(f,v)]
 | (g,x)::r=>if g=f then (g,v)::r else (g,x)::zV f v r
def Ix(f g:Str)(v:V):∀d:List (Str×V),(zV f v d).lookup g=if g=f then some v else d.lookup g:=by
 intro i
 induction i with
 |nil =>
  show kf g [(f,v)]=_;by_cases h:g=f
  ·have a:(g==f)=true:=beq_iff_eq.mpr h;simp only[kf,a,gI h]
  ·have a:(g==f)=false:=beq_eq_false_iff_ne.mpr h;simp only[kf,a,gl h]
 |cons j r c =>
  obtain⟨k,x⟩:=j;have l:=c;rw[show zV f v ((k,x)::r)=(if k=f then (k,v)::r else (k,x)::zV f v r) from rfl];by_cases b:k=f
  ·rw[gI b];by_cases h:g=k
   ·have a:(g==k)=true:=beq_iff_eq.mpr h;simp only[kf,a,gI<|h.trans b]
   ·have a:(g==k)=false:=beq_eq_false_iff_ne.mpr h;simp only[kf,a,gl (λe:g=f=>h<|e.trans b.symm)]
  ·rw[gl b];by_cases h:g=k
   ·have a:(g==k)=true:=beq_iff_eq.mpr h;simp only[kf,a,gl (λe:g=f=>b<|h.symm.trans e)]
   ·have a:(g==k)=false:=beq_eq_false_iff_ne.mpr h;simp only[kf,a];exact l
def FH(f:Str)(v:V):∀a:List (Str×V),f∈(zV f v a).map (·.1)/\∀g,g∈a.map (·.1)->g∈(zV f v a).map (·.1):=by
 intro d
 induction d with
 |nil=>exact#[by simp[zV],λg h=>by simp at h]
 |cons i r b =>
  obtain⟨k,x⟩:=i;obtain⟨j,l⟩:=b;rw[show zV f v ((k,x)::r)=(if k=f then (k,v)::r else (k,x)::zV f v r) from rfl];by_cases c:k=f
  ·rw[gI c];subst c;exact#[q0o,λg h=>by simpa using h]
  ·rw[gl c];refine#[?_,λg h=>?_]
   ·rw[ik];exact gS _ j
   ·rw[ik]at h ⊢;rcases List.mem_cons.mp h with e|e
    ·exact List.mem_cons.mpr<|.inl e
    ·exact gS _<|l g e
def CO(f:Str)(v:V):∀a:List (Str×V),(zV f v a).length<=a.length+1
 | []=>by simp[zV]
 | (k,x)::r=>by
  have c:=CO f v r;rw[show zV f v ((k,x)::r)=(if k=f then (k,v)::r else (k,x)::zV f v r) from rfl];by_cases b:k=f
  ·rw[gI b,hZ,hZ];lia
  ·rw[gl b,hZ,hZ];lia
def zl.some_of(r:zl ↑v o):∃u,o=↑u/\RelV v u:=by
 cases o with
 |none=>exact(show False from r).elim
 |some u=>exact#[u,rfl,r]
def zl.none_of(r:zl none o):o=none:=by
 cases o with
 |none=>rfl
 |some u=>exact(show False from r).elim
def Nd(r:RelV v u):tP u=true:=by
 cases v with
 |wq=>cases (show u=Value.none from r);rfl
 |bl b=>cases (show u=qZ b from r);rfl
 |int i=>obtain⟨t,e⟩:=(show ∃t,u=lE i t from r);cases e;rfl
 |str x=>obtain⟨t,e⟩:=(show ∃t,u=Value.str x t from r);cases e;rfl
 |LU b=>obtain⟨t,e⟩:=(show ∃t,u=Value.bytes b t from r);cases e;rfl
 |Wm b=>obtain⟨t,e⟩:=(show ∃t,u=sJ b t from r);cases e;rfl
 |ref a=>cases (show u=hO a from r);rfl
 |ty n=>cases (show u=jU n from r);rfl
def Bq(c:xR P w H h)(e:H a=↑(.ins C g fs)):∃b,JY h a g C b/\(∀f,zl (fs.lookup f)<|b f)/\sg b (fs.map (·.1))/\fs.length<=1000/\H g=↑(.own a):=by obtain⟨d,z,i,j,b,n,r,q⟩:=(show vY P w H h a (.ins C g fs) from c a _ e);exact#[b,#[j,n,i],r,q,z,d]
structure zW(K:gH)(C:ci):Prop where
 pg:mC K C Str.empty=true
 hd:nE K C=true
 po:pV K C=true
 sa:ii K (.ref C) "__setattr__"=↑(some<|.builtin "object.__setattr__")
def zW.get{K:gH}{C:ci}(c:zW K C)(f:Str):mC K C f=true:=c.pg
def vQ(K:gH)(C:ci)(f:Str):Prop:=ii K (.ref C) f=↑none
def vQ.Za{K:gH}{C:ci}{f:Str}(n:vQ K C f):qu K C f=↑none:=by unfold qu;rw[show ii K (.ref C) f=some none from n];rfl
structure Meth(K:gH)(C:ci)(m:Str)(f:ci):Prop where
 at_:ii K (.ref C) m=↑(some<|.ref f)
 fn:oq K (.ref f)=true
 kp:jb K (.ref f)=true
def JZ{b:Bool}(I:Inv X d j H s)(e:H a=↑(.ins C p fs))(c:zW X.K C)(n:vQ X.K C f)(l:fs.lookup f=↑v)
 (h:∀u g,Inv X d j H g->RelV v u->Q u g):gR 19 A (getAttr (.ref a) f b) Q E s:=by
  obtain⟨k,O,r,_,_,_⟩:=Bq I.vL e
  obtain⟨u,m,i⟩:=zl.some_of (v:=v) (o:=k f) (by rw[<- l];exact r f)
  exact get_map I.yG O (c.get f) c.hd n m (Nd i)<|h u _ (I.tok _) i
def Ba(I:Inv X b i H s)(e:H a=↑(.ins C j fs))(c:zW X.K C)(k:Meth X.K C m g)(l:fs.lookup m=none)
 (h:Q (.ref g,[.ref a]) s):gR 19 A (lY (.ref a) m n) Q E s:=by
  obtain⟨d,O,r,_,_,_⟩:=Bq I.vL e
  have f:d m=none:=zl.none_of (by rw[<- l];exact r m)
  exact OO I.yG O (c.get m) k.at_ k.fn f h
def J0(I:Inv X d t H s)(e:H a=↑(.ins C i fs))(c:zW X.K C)(n:vQ X.K C f)(N:fs.length<1000)(v:RelV y u)
 (h:∀k,Inv X d t (upd H a<|.ins C i<|zV f y fs) k->Q () k):gR 19 A (setAttr (.ref a) f u) Q E s:=by
  obtain⟨l,O,r,m,_,p⟩:=Bq I.vL e
  have B:(fs.map (·.1)).length<=gL:=by rw[gM,i8];lia
  refine SJ I.yG O c.sa c.po n.Za c.hd m B λD j F=>h _ ?_
  have G:∃o,D.get? i=↑o:=e3a2 j.ns λo _ _ J _=> #[o,J]
  refine I.write (x:=a) (e:=i) (by rw[e];exact True.intro) (.inr p) (λb q L z=>(F.2 b L).trans z) G ?_
  refine#[by rw[uR O.ne];exact p,?_,O.ne,j.obj,_,j.ns,λg=>?_,λg M=>?_]
  · have := CO f y fs; lia
  · show zl ((zV f y fs).lookup g) (if g = f then some u else l g)
    rw[Ix]
    by_cases q:g=f
    · rw[gI q, gI q]; exact v
    · rw[gl q, gl q]; exact r g
  · by_cases q : g = f
    · rw[q]; exact(FH f y fs).1
    · refine(FH f y fs).2 g (m g λz => M ?_)
      show (if g=f then some u else l g)=none
      rw[gl q];exact z
def Inv.made(I:Inv X c g H s):Inv X c g (upd (upd H ⇑s<|.own<|⇑s+1) (⇑s+1)<|.ins C ⇑s [])
  { s with heap:=(s.heap.push jH).push (ky C ⇑s)}:=by
 have d:(s.heap.push jH).get? ⇑s=↑jH:=gX s.heap rfl
 have h:((s.heap.push jH).push<|ky C ⇑s).get? (⇑s+1)=↑(ky C ⇑s):=by
  have:=gX (s.heap.push jH) (o:=ky C ⇑s) rfl
  rwa [jt]at this
 have i:(s.heap.push jH).Ns ⇑s (λ_=>none):=#[jH,#v[],_,d,rfl,(λe j=>g8 j q0o),λ_=>rfl];have k:=I.laid (a:=⇑s) (o:=.own<|⇑s+1) (h':=s.heap.push jH) (t':=s.toks) (λb u q=>ce _ q) (gK _) #[_,d];refine k.laid (a:=⇑s+1) (o:=.ins C ⇑s []) (t':=s.toks) (λb u q=>ce _ q) (qw<|jt _ _) ?_;have f:⇑s≠⇑s+1:=gZ<|ji _;refine⟨by rw[uR f,uT],iN _,f,h,λ_=>none,(sM i).at λo q=>ce _ q,λ_=>True.intro,λy l=>g8 rfl l⟩
def SK(d:iD e f a (eval e a)=eval e a)
 (h:gR (gU b w) A (eval e a) (λo c=>gR (gU b w) A (getAttr o f true) Q E c) E s):gR (gU b w) A (eval (.Attribute e f pos) a) Q E s :=
  Attribute_any_ h (by rw[arm_eval_Attribute,d])
def WJ(K:gH)(d:TE)(f:Str):TE:=λe H Q=>d e H λx b=>∃a C g c v,x=.ref a/\b a=↑(.ins C g c)/\zW K C/\vQ K C f/\c.lookup f=↑v/\Q v b
def Nf(K:gH)(g h:TE)(f:Str):TS:=λD b H=>h b H λy i=>g b i λx d=>∃a C e c,x=.ref a/\d a=↑(.ins C e c)/\zW K C/\vQ K C f/\c.length<1000 /\
 D.nx b (upd d a<|.ins C e<|zV f y c)
def Zb(X:Cx)(c:Operator)(d:V->V->Hp->VK->Prop):Prop :=
 ∀(a:List (ci×Obj)) (s:gN) (b:St) (H:Hp) (x y:V) (u v:cr) (Q:VK),Inv X a b H s->RelV x u->RelV y v->d x y H Q->gR 19 X.A (inplaceOp c u v) (EP X a b Q) X.xe s
def wO(g:PE X e i)(j:iD e f X.env (eval e X.env)=eval e X.env):PE X (.Attribute e f pos) (WJ X.K i f):=by intro b s k H Q I h;refine SK j<|vG (g b s k H _ I h) λu z m=>e2a3 m λx H1 o p d=>e5a6 d λa C A fs v r t c n l q=>?_;subst r;obtain rfl:u=hO a:=p;exact JZ o t c n l λB D w y=>#[v,H1,w,y,q]
def Cg(j:PE X o k)(m:PE X value p)(r:jx value (some<|.Attribute o f d) pos.line X.env=pure false):PS X (.Assign [.Attribute o f d] value pos) (Nf X.K k p f):=by intro b s g H D I h;refine rA (vG (m b s g H _ I h) λu t i=>e2a3 i λy H1 v w q=>vG (j b t g H1 _ v q) λz L i=>e2a3 i λx H2 A B e=>e4a6 e λa C M fs E F c n l G=>?_) r;subst E;obtain rfl:z=hO a:=B;exact J0 A F c n l w λN J=>#[g,_,J,G]
inductive yQ(K:gH)(H:Hp):V->cr->Prop where
 | wq:yQ K H .wq (.type "NoneType")
 | bl (x:Bool):yQ K H (.bl x) (.type "bool")
 | int (i:Int):yQ K H (.int i) (.type "int")
 | str (x:Str):yQ K H (.str x) (.type "str")
 | Wm (x:UInt64):yQ K H (.Wm x) (.type "float")
 | lst {a:ci} {xs:List V} (e:H a=↑(.lst xs)):yQ K H (.ref a) (.type "list")
 | JP {a:ci} {o:Obj} {xs:List V} (e:H a=↑(.JP o<|.lst xs)):yQ K H (.ref a) (.type "list")
 | tup {a:ci} {xs:List V} (e:H a=↑(.tup xs)):yQ K H (.ref a) (.type "tuple")
 | dK {a:ci} {xh:List (Key×V)} (e:H a=↑(.dK xh)):yQ K H (.ref a) (.type "dict")
 | dT {a:ci} {xh:List (List Key×V)} (e:H a=↑(.dT xh)):yQ K H (.ref a) (.type "dict")
 | ins {a C dx:ci} {fs:List (Str×V)} (e:H a=↑(.ins C dx fs)) (cl:zW K C) (ha:ii K (.ref C) "__class__"=↑(some<|.builtin "object.__class__"))
   (hn:tF K (.builtin "object.__class__") "__get__"=↑(some<|.builtin "getset_descriptor.__get__")) (htk:tZ K (.builtin "object.__class__")=↑true)
   (hm:kD K C (.type "object")=↑true):yQ K H (.ref a) (.ref C)
def FJ(I:Inv X r R H s)(d:RelV x u)(B:yQ X.K H x t)(e:m7 X.K t c=↑b)(h:∀D,Q (.bool b) { s with toks:=D}) :
  gR 19 A (call (.builtin "isinstance") [u,c]) Q E s:=by
 cases B with
 |wq=>cases (show u=Value.none from d);exact jB PySem.W.kitx_none I.yG True.intro e (λz=>nomatch z) h
 |bl y=>cases (show u=qZ y from d);exact jB PySem.W.kitx_bool I.yG True.intro e (λz=>nomatch z) h
 |int i=>obtain⟨t,q⟩:=(show ∃t,u=lE i t from d);cases q;exact jB PySem.W.kitx_int I.yG True.intro e (λz=>nomatch z) h
 |str y=>obtain⟨t,q⟩:=(show ∃t,u=Value.str y t from d);cases q;exact jB PySem.W.kitx_str I.yG True.intro e (λz=>nomatch z) h
 |Wm y=>obtain⟨t,q⟩:=(show ∃t,u=sJ y t from d);cases q;exact jB PySem.W.kitx_float I.yG True.intro e (λz=>nomatch z) h
 | @lst a k f =>
  cases (show u=hO a from d);obtain⟨_,_,n,_,g⟩:=(show vY X.prog X.w H s.heap a (.lst k) from I.vL a _ f);exact jB tG I.yG #[_,g,rfl] e (λz=>nomatch z) h
 | @JP a F k f =>
  cases (show u=hO a from d);obtain⟨_,_,_,n,_,g⟩:=(show vY X.prog X.w H s.heap a (.JP F<|.lst k) from I.vL a _ f);exact jB tG I.yG ⟨_,g,rfl⟩ e (λz=>nomatch z) h
 | @tup a k f =>
  cases (show u=hO a from d);obtain⟨_,_,_,p⟩:=(show vY X.prog X.w H s.heap a (.tup k) from I.vL a _ f);refine e1a3 p λo g l _=>?_;exact jB PySem.W.kitx_tuple I.yG #[o,g,l] e (λz=>nomatch z) h
 | @dK a j f =>
  cases (show u=hO a from d);obtain⟨_,_,S,_,p⟩:=(show vY X.prog X.w H s.heap a (.dK j) from I.vL a _ f);obtain⟨o,G,L,g,l,_⟩:=p;exact jB tH I.yG #[o,g,l.1] e (λz=>nomatch z) h
 | @dT a j f =>
  cases (show u=hO a from d);obtain⟨_,_,k,_,o,G,L,g,l,_⟩:=(show vY X.prog X.w H s.heap a (.dT j) from I.vL a _ f);exact jB tH I.yG #[o,g,l.1] e (λz=>nomatch z) h
 | @ins a C T fs f v M N m P =>
  cases (show u=hO a from d);refine e1a2 (Bq I.vL f) λU O _=>?_;refine e1a2 O.look λY J _=>?_;exact jB (PySem.W.kitx_own (v.get _) v.hd M N m P) I.yG J e (λz=>nomatch z) h
structure wg(k:Nat)(A:jq):Prop where
 hd:A.handled=none
 dp:A.depth+3*k+5<sN
 un:A.units+16*k+200<jX
def wg.mono{j k:Nat}(r:wg k A)(h:j<=k):wg j A:=#[r.hd,by have:=r.dp;lia,by have:=r.un;lia]
def wg.deeper{k:Nat}(r:wg (k+1) A)(a:Env):wg k (A.deeper a) :=
 #[r.hd,by have:=r.dp;show A.depth+1+3*k+5<_;lia,by have:=r.un;show A.units+3+16*k+200<_;lia]
def J1{A:jq}{C:ci}{a:List cr}{b:List (Str×cr)}:(A.under<|.builtin "type.__call__" #[.ref C::a,b]).depth=A.depth+1:=by
 first|rfl|simp[rR,Code.weight,Code.isCreation,Code.isGuard,Code.isCaller,Code.frames,sC,guardIds]
def J2{A:jq}{C:ci}{a:List cr}{b:List (Str×cr)}:(A.under<|.builtin "type.__call__" #[.ref C::a,b]).units=A.units+1:=by
 first|rfl|simp[rR,Code.cUnits,Code.frames,sC]
def wg.make{k:Nat}(r:wg (k+1) A)(C:ci)(a:List cr)(b:List (Str×cr)):wg k (A.under<|.builtin "type.__call__" #[.ref C::a,b]) :=
 #[r.hd,by have:=r.dp;rw[J1];lia,by have:=r.un;rw[J2];lia]
def wg.depth{k:Nat}(r:wg k A):A.depth<sN:=by have:=r.dp;lia
def wg.units{k:Nat}(r:wg k A):A.units+64<jX:=by have:=r.un;lia
def Bb:TA:=λ_ H Q=>Q [] H
def AT(b:TE)(c:TA):TA:=λa H Q=>b a H λx d=>c a d λe f=>Q (x::e) f
def vi:PA X [] Bb:=λ_ _ _ _ H Q I h=>kZ #[[],H,I,.nil,h]
def uY(g:PE X e i)(j:PA X b t)(k:gJ (e::b) X.env=57::gJ b X.env:=by rfl):PA X (e::b) (AT i t):=by intro c a s f H Q I h;rw[k];refine jQ<|vG (g a s f H _ I h) λu l d=>e2a3 d λx m n o p=>?_;exact vG (j c a l f m _ n p) λz A d=>e2a3 d λq r v w y=>#[x::q,r,v,.cons o w,y]
def a1z(t:TA):TE:=λc H Q=>t c H λa b=>a.length<=gL/\∀p,b p=none->Q (.ref p) (upd b p<|.tup a)
def a1A(t:TA):TE:=λc H Q=>t c H λa b=>a.length<=gL/\∀p,b p=none->Q (.ref p) (upd b p<|.lst a)
def OQ{g}(h:PA X i t):PE X (.Tuple i g pos) (a1z t):=by intro a s j H Q I k;refine wpAny_Tuple_spliced<|vG (h pos a s j H _ I k) λl c m=>e2a4 m λn d f r z q=>#[by rw[<- r.length];exact z,?_];have o:d ⇑c=none:=f.vL.fresh<|gK _;refine⟨.ref ⇑c,upd d ⇑c<|.tup n,f.laid (t':=c.toks) (λb u e=>ce _ e) (gK _) ?_,rfl,q _ o⟩;exact#[z,l,r,#[_,gX _ rfl,rfl,_,rfl]]
def OR(h:PA X g t):PE X (.List g pos) (a1A t):=by intro a s i H Q I j;refine wpAny_List_spliced<|vG (h pos a s i H _ I j) λk c l=>e2a4 l λm d f r z q=>#[by rw[<- r.length];exact z,?_];have n:d ⇑c=none:=f.vL.fresh<|gK _;refine⟨.ref ⇑c,upd d ⇑c<|.lst m,f.laid (t':=c.toks) (λb u e=>ce _ e) (gK _) ?_,rfl,q _ n⟩;exact#[z,k,0,r,gX _ rfl]
abbrev Sp:=List V->Hp->VK->XK->Prop
abbrev OS:=List Env->Hp->gN->XK->cr->gN->Prop
structure Iy(P:iu)(w:iO)(K:gH)(mg:Str->Option cr)(base:iJ)(A:jq)(outer:List Env)(s:gN)(H:Hp):Prop where
 frames:A.frames=↑outer
 mod:Mod K mg base
 bs:∀b o,base.get? b=↑o->s.heap.get? b=↑o/\H b=none
 Io:base.objs.size<=⇑s
 yy:s.heap.FunFrames base outer
 JL:∀b∈zj outer,H b=none
 vL:xR P w H s.heap
 bare:ni s.gens
def CE(a:List Env)(P:iu)(w:iO)(H:Hp)(s:gN)(Q:VK)(u:cr)(b:gN):Prop :=
 ∃v c,b.os=s.os/\ni b.gens/\Un (zj a) [] H c s.heap b.heap/\xR P w c b.heap/\RelV v u/\Q v c
def CR(c:OS)(a:List Env)(P:iu)(w:iO)(H:Hp)(s:gN)(Q:VK)(E:XK)(r:Result)(b:gN):Prop :=
 match r with
 | .ok (.ret u)=>CE a P w H s Q u b
 | .ok _=>False
 | .error e=>c a H s E e b
structure vB(P:iu)(w:iO)(K:gH)(mg:Str->Option cr)(base:iJ)(CX:OS)(k:Nat)(f:ci)(fd:iE)(ps:List Str)(sp:Sp):Prop where
 len:∀vs H Q E,sp vs H Q E->vs.length=ps.length
 run:∀(A:jq)(outer:List Env)(s:gN)(H:Hp)(args:Args)(us:List cr)(vs:List V)(Q:VK)(E:XK),wg k A->Iy P w K mg base A outer s H->sD s fd args (ps.zip us)->Vals vs us->sp vs H Q E ->
  mz (gU P w) A (.call (.ref f) args) (CR CX outer P w H s Q E) s
def vB.mono{P:iu}{w:iO}{K:gH}{c:Str->Option cr}{a:iJ}{d:OS}{j k:Nat}{f:ci}{e:iE}{g:List Str}{i:Sp}(F:vB P w K c a d j f e g i)(h:j<=k) :
  vB P w K c a d k f e g i:=#[F.len,λA b s H args l m Q E n=>F.run A b s H args l m Q E<|n.mono h]
def vB.imp{P:iu}{w:iO}{K:gH}{e:Str->Option cr}{a:iJ}{g:OS}{k:Nat}{f:ci}{i:iE}{j:List Str}{l d:Sp}(F:vB P w K e a g k f i j l)
  (h:∀c H Q E,d c H Q E->l c H Q E):vB P w K e a g k f i j d :=
 #[λc H Q E q=>F.len c H Q E<|h _ _ _ _ q,λA b s H args m c Q E n o p r t=>F.run A b s H args m c Q E n o p r<|h _ _ _ _ t]
def Iy.make{P:iu}{w:iO}{K:gH}{c:Str->Option cr}{b:iJ}{A:jq}{a:List Env}{s:gN}{H:Hp}(e:Iy P w K c b A a s H)(C:ci)(d:List cr)(f:List (Str×cr)) :
  Iy P w K c b (A.under<|.builtin "type.__call__" #[.ref C::d,f]) a s H:=#[by first|exact e.frames|(simpa[rR,Code.envs,sC,pushEnvs] using e.frames),e.mod,e.bs,e.Io,e.yy,e.JL,e.vL,e.bare]
def Inv.Iz(I:Inv X a b H s):Iy X.prog X.w X.K X.mg X.base X.A X.stack s H :=
 #[I.ok.frames,I.ok.mod,I.bs,ij I.ok.Io I.sz,I.stack,I.LV,I.vL,I.bare]
def Inv.after(I:Inv X a j H s)(h:CE X.stack X.prog X.w H s Q u i):EP X a j Q u i:=by obtain⟨v,k,l,c,m,e,r,q⟩:=h;obtain⟨n,g,d,t,f⟩:=i;obtain rfl:f=s.os:=l;exact#[v,k,I.call (h':=n) (g':=g) (d':=d) (t':=t) (ch:=[]) m e c<|λb z=>g8 z q0o,r,q]
def Zc(b:Sp)(a:List V)(E:XK)(t:TA):TE:=λc H Q=>t c H λd e=>b (d++a) e Q E
def FK(C:ci)(m:Str)(f:Sp)(b:List V)(E:XK)(g:TE)(t:TA):TE:=λc H Q=>g c H λx d=>∃a h e,x=.ref a/\d a=↑(.ins C h e)/\e.lookup m=none /\
 t c d λi j=>f (x::(i++b)) j Q E
def Zd(C:ci)(d:Sp)(b:List V)(E:XK)(t:TA):TE:=λe H Q=>t e H λf c=>∀x a,c x=none->c a=none->a≠x ->
 d (.ref x::(f++b)) (upd (upd c a<|.own x) x<|.ins C a []) (λv g=>v=.wq/\Q (.ref x) g) E
def Binds(K:gH)(d:iE)(b:List Str)(c:List cr):Prop :=
 ∀(s:gN)(a:List cr),K.In s.heap->(a++c).length=b.length->sD s d #[a,[]] (b.zip<|a++c)
def Binds.all{K:gH}{b:List Str}(h:∀a:List cr,a.length=b.length->sO d #[a,[]]=pure (b.zip a)):Binds K d b []:=λs a _ c=>by rw[kX]at c ⊢;exact .of_eq<|h a c
def Passes(c:OS)(X:Cx)(E:XK):Prop:=∀(a:List (ci×Obj)) (d:St) (H:Hp) (s:gN) (e:cr) (b:gN),Inv X a d H s->c X.stack H s E e b->X.xe e b
def J3(F:vB X.prog X.w X.K X.mg X.base l k f m g n)(o:wg k X.A)(p:Binds X.K m g d)(q:Vals b d)(t:Passes l X E)
 (I:Inv X a i H s)(r:Vals vs us)(h:n (vs++b) H Q E):gR 19 X.A (call (.ref f) us) (EP X a i Q) X.xe s:=by
  have j:Vals (vs++b) (us++d):=r.append q
  have v:(us++d).length=g.length:=by rw[<- j.length];exact F.len _ _ _ _ h
  refine mD<|jN (F.run X.A X.stack s H ⟨us,[]⟩ (us++d) (vs++b) Q E o I.Iz (p s us I.yG v) j h) λr x c=>?_
  cases r with
  |error e=>exact t a i H s e x I c
  |ok y =>
    cases y with
    |ret u=>exact I.after c
    |next=>exact iv c
    |brk=>exact iv c
    |cont=>exact iv c
def SM(F:vB X.prog X.w X.K X.mg X.base j k f l m n)(o:wg k X.A)(u:Gl X x)(v:X.mg x=↑(.ref f))(y:jb X.K (.ref f)=true)(z:Binds X.K l m B)(C:Vals c B)(D:Passes j X E)
 (G:PA X (e::b) t) (d:(x==55)=false:=by decide) (J:gJ (e::b) X.env=57::gJ b X.env:=by rfl) (g:(ja pos<|gJ b X.env).any (·.1)=false:=by rfl) :
    PE X (.Call (.Name x p) (e::b) [] pos) (Zc n c E t):=by
  intro a s L H Q I h
  refine kE<|yH I u v ?_ d
  refine pG (h₀:=X.base) I.ok.mod.Bm y (vG (G pos a s L H _ I h) λN O M=>e2a3 M λP R i r q=>#[i.yG,?_]) J g
  exact J3 F o z C D i r q
def SN{v:Sem Bool}(J:PE X o L)(c:zW X.K C)(y:Meth X.K C m f)(F:vB X.prog X.w X.K X.mg X.base M k f N O P)(R:wg k X.A)(S:Binds X.K N O T)(hd:Vals i T)(U:Passes M X E)(Y:PA X (e::d) t)
  (j:gJ (e::d) X.env=57::gJ d X.env:=by rfl) (n:(ja pos<|gJ d X.env).any (·.1)=false:=by rfl)
  (ht:eval (.Call (.Attribute o m apos) (e::d) [] pos) X.env=(do
   let z <- eval o X.env
   my apos.atName
   let (f,first) <- kF [z] (lY z m v)
   mO pos f first (ja pos (gJ (e::d) X.env)) (mq pos (kA [] X.env))):=by rfl) :
  PE X (.Call (.Attribute o m apos) (e::d) [] pos) (FK C m P i E L t):=by
 intro b s B H Q I h;refine oE (pl:=v) (vG (J b s B H _ I h) λu Z p=>e2a3 p λx H1 D rx g=>e3a4 g λa dx fs ex ea l q=>?_) ht;subst ex;obtain rfl:u=hO a:=rx;refine Ba D ea c y l ?_;refine pG (first:=[.ref a]) (h₀:=X.base) I.ok.mod.Bm y.kp (vG (Y pos b Z B H1 _ D q) λus s2 p=>e2a3 p λvs H2 G r q2=>#[G.yG,?_]) j n
 exact J3 (us:=.ref a::us) (vs:=.ref a::vs) F R S hd U G (.cons rfl r) q2
def OT(n:PE X o p)(c:zW X.K C)(i:Meth X.K C m f)(F:vB X.prog X.w X.K X.mg X.base r k f t v y)(z:wg k X.A)(B:Binds X.K t v D)(hd:Vals e D)(G:Passes r X E)
 (ht:eval (.Call (.Attribute o m apos) [] [] pos) X.env=(do
 let j <- eval o X.env
 my apos.atName
 let (f,first) <- kF [j] (lY j m J)
 mO pos f first (ja pos (gJ [] X.env)) (mq pos (kA [] X.env))):=by rfl) :
    PE X (.Call (.Attribute o m apos) [] [] pos) (FK C m y e E p Bb):=by
  intro b s L H Q I h
  refine oE (pl:=J) (vG (n b s L H _ I h) λu R M=>e2a3 M λx H1 g N d=>e3a4 d λa S fs O P l q=>?_) ht
  subst O
  obtain rfl:u=hO a:=N
  refine Ba g P c i l ?_
  exact sE (first:=[.ref a]) g.yG i.kp<|J3 (us:=[.ref a]) (vs:=[.ref a]) F z B hd G g (.cons rfl .nil) q
structure Mk(K:gH)(C f:ci):Prop where
 makes:qv K C=true
 init:ii K (.ref C) "__init__"=↑(some<|.ref f)
 fn:oq K (.ref f)=true
 kp:jb K (.ref C)=true
def OU(M:Mk X.K C f)(F:vB X.prog X.w X.K X.mg X.base p k f q j t)(y:wg (k+1) X.A)(z:Binds X.K q j d)(B:Vals c d)
 (D:Passes p X E) (I:Inv X b l H s) (r:Vals m us)
 (h:∀x g,H x=none->H g=none->g≠x->t (.ref x::(m++c)) (upd (upd H g<|.own x) x<|.ins C g []) (λv G=>v=.wq/\Q (.ref x) G) E) :
    gR 19 X.A (call (.ref C) us) (EP X b l Q) X.xe s:=by
  have n:=h (⇑s+1) ⇑s (I.vL.fresh<|lG _) (I.vL.fresh<|gK _)<|gZ<|ji _
  have i:=Inv.made (C:=C) I
  have o:Vals (V.ref (⇑s+1)::(m++c)) (hO (⇑s+1)::(us++d)):=.cons rfl<|r.append B
  have J:(hO (⇑s+1)::us++d).length=j.length:=by
    have e:=o.length
    rw[F.len _ _ _ _ n]at e
    exact e.symm
  refine mD (OP (f:=f) I.yG M.makes M.init (beq_iff_eq.mp M.fn) (jN (F.run _ X.stack _ _ #[hO (⇑s+1)::us,[]] (hO (⇑s+1)::(us++d)) _ _ E (y.make C us [])
    (i.Iz.make C us []) (z _ (hO (⇑s+1)::us) i.yG J) o n) λr L a=>?_))
  cases r with
  |error e=>exact D b l _ _ e L i a
  |ok N =>
    cases N with
    |ret u =>
      refine e2a4 (i.after a) λv O P R S T=>?_
      subst S
      exact#[R,#[V.ref<|⇑s+1,O,P,rfl,T]]
    |next=>exact iv a
    |brk=>exact iv a
    |cont=>exact iv a
def OV(M:Mk X.K C f)(F:vB X.prog X.w X.K X.mg X.base d k f e g i)(j:wg (k+1) X.A)(l:Gl X x)(m:X.mg x=↑(.ref C))(n:Binds X.K e g o)(q:Vals a o)(r:Passes d X E)
 (b:(x==55)=false:=by decide):PE X (.Call (.Name x p) [] [] pos) (Zd C i a E Bb):=by
  intro c s t H Q I h
  refine kE<|yH I l m ?_ b
  exact sE I.yG M.kp<|OU (us:=[]) M F j n q r I .nil h
def PK(X:Cx)(b:List pH)(t:TA):Prop :=
 ∀(c:Pos) (a:List (ci×Obj)) (s:gN) (d:St) (H:Hp) (Q:List V->Hp->Prop),Inv X a d H s->t d H Q->gR 19 X.A (evalAll ((mq c<|kA b X.env).map (·.2))) (AP X a d Q) X.xe s
structure uZ(N P:List Str)(sc:lV):Prop where
 kind:sc.kind=.function
 co:sc.isCoroutine=false
 gen:sc.isGenerator=false
 nd:N.Nodup
 pre:N.take P.length=P
 par:∀x∈P,sc.names.lookup x=some .local\/sc.names.lookup x=some .cell
 WK:∀y∈sc.names,y.2≠.free
def FL{b:Str->Option NameKind}:∀{a:List (Str×cr)} {m:Str->Option cr},(∀v,(x,v)∉a)->bindL b a m x=m x
 | [],_,_=>rfl
 | (n,v)::r,m,h=>by
  unfold bindL;rw[FL λw c=>h w<|gS _ c];split
  ·have:x≠n:=by rintro rfl;exact h v gO
   simp[this]
  ·rfl
def FM{b:Str->Option NameKind}:∀{a:List (Str×cr)} {m:Str->Option cr},(∀v,(x,v)∉a)->bindC b a m x=m x
 | [],_,_=>rfl
 | (n,v)::r,m,h=>by
  unfold bindC;rw[FM λw c=>h w<|gS _ c];split
  ·rfl
  ·have:x≠n:=by rintro rfl;exact h v gO
   simp[this]
def Ng{a:Str->Option NameKind}:∀{P:List Str} {b:List cr} {i:Nat} {m:Str->Option cr},P.Nodup->P[i]?=↑x->b[i]?=↑v->a x=some .local ->
  bindL a (P.zip b) m x=↑v:=by
 intro P
 induction P with
 |nil=>intro _ _ _ _ h;simp at h
 |cons p P g =>
  intro b i m e d c f
  cases b with
  |nil=>simp at c
  |cons w b =>
  cases i with
  |zero =>
   simp at d c;subst d;subst c;show bindL a ((p,w)::P.zip b) m p=_;unfold bindL;rw[FL λv j=>(List.nodup_cons.mp e).1 (oS j).1,gI f];simp
  |succ i =>
   exact g (i:=i) (List.nodup_cons.mp e).2 (by simpa using d) (by simpa using c) f
def Nh{a:Str->Option NameKind}:∀{P:List Str} {b:List cr} {i:Nat} {m:Str->Option cr},P.Nodup->P[i]?=↑x->b[i]?=↑v->a x≠some .local ->
  bindC a (P.zip b) m x=↑v:=by
 intro P
 induction P with
 |nil=>intro _ _ _ _ h;simp at h
 |cons p P g =>
  intro b i m e d c f
  cases b with
  |nil=>simp at c
  |cons w b =>
  cases i with
  |zero =>
   simp at d c;subst d;subst c;show bindC a ((p,w)::P.zip b) m p=_;unfold bindC;rw[FM λv j=>(List.nodup_cons.mp e).1 (oS j).1,gl f];simp
  |succ i =>
   exact g (i:=i) (List.nodup_cons.mp e).2 (by simpa using d) (by simpa using c) f
noncomputable def start(N:List Str)(a:List V):St:=a.map some++kM (N.length-a.length) none
noncomputable def vO(CX:OS)(P:iu)(w:iO)(K:gH)(mg:Str->Option cr)(base:iJ)(N:List Str)(qual:Str)(scope:lV)(f:ci)(cd:cr)(A:jq)(outer:List Env)(s:gN)(H:Hp)(E:XK):Cx where
 prog:=P
 w:=w
 K:=K
 mg:=mg
 base:=base
 A:=A.deeper<|oC qual scope ⇑s f cd
 N:=N
 s₀:=s
 H₀:=H
 env:=oC qual scope ⇑s f cd
 outer:=outer
 stack:=oC qual scope ⇑s f cd::outer
 ex:=[]
 calm:=true
 fn:=λ_=>true
 pn:=[]
 xe:=λe s'=>gR (gU P w) (A.deeper<|oC qual scope ⇑s f cd) (uu (oC qual scope ⇑s f cd) e) (λ_ SO=>CX outer H s E e SO) (λe' SO=>CX outer H s E e' SO) s'
def IA{a:lV}{n:Nat}(h:a.names.lookup x=some .cell):∃c,(cellsFrom n a.names []).lookup x=↑c:=by have q:=rL a.names n []<|.inl h;exact Option.isSome_iff_exists.mp q
def Ni{K:gH}{A:jq}{o:List V}
 (S:uZ N C d) (R:A.handled=none) (m:Iy P w K L base A j s H) (hl:o.length=C.length) (r:Vals o M)
 (x:InCallC s ⇑s (bindL (oC l d ⇑s f J).kindOf (C.zip M) λ_=>none) (cellsFrom (⇑s+1) d.names []) (bindC (oC l d ⇑s f J).kindOf (C.zip M) λ_=>none) T) :
    Inv (vO U P w K L base N l d f J A j s H E) [] (start N o) H T:=by
  have X:C.length<=N.length:=by have:=congrArg nZ S.pre;rw[lJ]at this;lia
  obtain⟨G,tk,rfl,O⟩:=x.done
  have t:∀b:ci,b∉(vO U P w K L base N l d f J A j s H E).ex:=λb z=>g8 (show b∈([]:List ci) from z) q0o
  refine#[#[m.mod,S.kind,rfl,rfl,gK _,λy z c G g=>?_,λy B=>?_,λy c _ h=>?_,λ_=>R,sF m.frames,.inr #[rfl,rfl],λb z=>g8 z (t b),m.bs,m.Io,λb _ _=>t b,λb z=>g8 z (t b),m.yy,m.JL],
    rfl,m.bare,Un.kept O,#[_,x.toInCall.ns,λi y v G g h3=>?_],λy c h=>#[_,x.cell y c h],m.vL.fresh (gK _),λy c h=>?_,λp D=>g8 (show p∈([]:List (ci×Obj)) from D) q0o,m.vL.kept O,?_]
  · exact name_of_addr x.apart (jY G)<|jY g
  · have B : d.names.lookup y = some .cell \/ d.names.lookup y = some .free := B
    rcases B with B|B
    · exact IA B
    · exact g8 rfl<|S.WK _<|jY B
  · exact lM<|x.above y c<|jY h
  · have I : i<o.length := by
      unfold start at g
      by_cases I:i<o.length
      · exact I
      · rw[jK<|by simpa using I]at g
        rw[sr]at g
        split at g<;>cases g
    have Y:o[i]?=↑v:=by
      unfold start at g
      rw[lN (by simpa using I),jy]at g
      cases e:o[i]? with
      |none=>rw[e]at g;cases g
      |some a=>rw[e]at g;cases g;rfl
    refine e1a2 (r.get Y) λu Q Z=>?_
    have D:C[i]?=↑y:=by
      rw[<- S.pre,rS q0a];exact G
    have F:C.Nodup:=by rw[<- S.pre];exact S.nd.sublist<|uv _ _
    refine#[u,Z,?_]
    rcases S.par y (ju D) with k|k
    · exact .inl #[k, Ng F D Q k]
    · obtain⟨c, e⟩ := IA (n := ⇑s+1) k
      refine .inr #[.inl k,c,e,?_]
      have q:=x.cell y c e
      rw[Nh F D Q<|by show d.names.lookup y≠_;rw[k];decide]at q
      exact q
  · exact m.vL.fresh<|lM<|x.above y c<|jY h
  · unfold start
    show _=N.length
    rw[gW,gM,sP]
    lia
def IB{K:gH}{k:Nat}{Z:cr} 
 (lk:K.lookup f=some #[oc,od,.func<|jv name d h body a dV Z G pm an g ct,aa]) (L:jm K g d=true) (S:uZ N M a)
 (B:∀i H Q E,sp i H Q E->i.length=M.length)
 (m:∀(A:jq)(c:List Env)(s:gN)(H:Hp)(i:List V)(Q:VK)(E:XK),wg k (A.deeper (oC d a ⇑s f g))->sp i H Q E ->
 ∃t,Fb (vO O P w K R base N d a f g A c s H E) body t/\t { nx:=λ_ l=>Q .wq l,rt:=Q} (start N i) H) :
    vB P w K R base O (k+1) f (jv name d h body a dV Z G pm an g ct) M sp:=by
  refine#[B,λA c s H args us i Q E T C hb r D=>?_]
  have hl:=B _ _ _ _ D
  have KX:K.In s.heap:=C.mod.Bm.keeps λb o e=>(C.bs b o e).1
  have U:s.heap.NoLimit:=C.mod.nolimit.keeps λb o e=>(C.bs b o e).1
  have p:∀y∈M.zip us,a.names.lookup y.1=some .local\/(a.names.lookup y.1=some .cell/\((cellsFrom (⇑s+1) a.names []).lookup y.1).isSome=true):=λ⟨n,v⟩ hy=>by
    rcases S.par n (oS hy).1 with q|q
    · exact .inl q
    · exact .inr #[q, rL _ _ _<|.inl q]
  refine codeAny_call_function T.depth (KX _ _ lk) rfl S.co S.gen rfl (sQ KX L)<|hb _ _ _ _ ?_
  refine wpAny_newFunctionEnv_cells S.kind p λab he s1 x=>?_
  subst he
  refine#[U.keeps x.toInCall.keep,codeAny_func ?_]
  refine e1a2 (m A c s H i Q E (T.deeper _) D) λt ht hq=>?_
  have I:Inv (vO O P w K R base N d a f g A c s H E) [] (start N i) H s1:=Ni S T.hd C hl r x
  refine iW (ht [] s1 (start N i) H _ I hq) (λfl X z=>?_) λe X z=>z
  have F:∀{j:St} {l:Hp} {v:V} {u:cr},Inv (vO O P w K R base N d a f g A c s H E) [] j l X->RelV v u->Q v l->CE c P w H s Q u X :=
    λ{j l v u} J Y q=>#[v,l,J.os,J.bare,J.base,J.vL,Y,q]
  cases fl with
  |ret u =>
    obtain⟨v,j,l,J,Y,q⟩:=z
    exact F J Y q
  |next =>
    refine e2a2 z λj l J q=>?_
    exact F (v:=V.wq) (u:=Value.none) J rfl q
  |brk =>
    refine e2a2 z λ_ _ _ q=>?_
    exact iv q
  |cont =>
    refine e2a2 z λ_ _ _ q=>?_
    exact iv q
section
variable{X:Cx}{x:Str}{p pos:Pos}{e:iA}{es:List iA}{t:TA}{id T:String}{r:List V->Hp->VK->Prop}
def tCB(r:List V->Hp->VK->Prop)(t:TA):TE:=λa H Q=>t a H λb c=>r b c Q
def wu(d:yz X (.builtin id) r)(f:Gl X x)(g:X.mg x=none)(i:mM x=↑(.builtin id))(j:PA X (e::es) t)(k:x≠"__name__":=by decide)(b:(x==55)=false:=by decide)
 (he:gJ (e::es) X.env=57::gJ es X.env:=by rfl) (hpl:(ja pos<|gJ es X.env).any (·.1)=false:=by rfl):PE X (.Call (.Name x p) (e::es) [] pos) (tCB r t):=by
  intro a s c H Q I h
  refine kE<|zn I f g i ?_ k b
  exact pA (vG (j pos a s c H _ I h) λl m n=>e2a3 n λo q u v w=>d a m c q o l Q u v w) he hpl
def xv(f:yz X (.type T) r)(g:Gl X x)(i:X.mg x=none)(j:mM x=↑(.type T))(k:PA X (e::es) t)(l:x≠"__name__":=by decide)(b:(x==55)=false:=by decide)
 (he:gJ (e::es) X.env=57::gJ es X.env:=by rfl) (c:(ja pos<|gJ es X.env).any (·.1)=false:=by rfl):PE X (.Call (.Name x p) (e::es) [] pos) (tCB r t):=by
  intro a s d H Q I h
  refine kE<|zn I g i j ?_ l b
  exact jS (vG (k pos a s d H _ I h) λm n o=>e2a3 o λq u v w y=>f a n d u q m Q v w y) he c
def J4(c:yz X (.type T) r)(d:Gl X x)(f:X.mg x=none)(g:mM x=↑(.type T))(i:x≠"__name__":=by decide)(b:(x==55)=false:=by decide) :
  PE X (.Call (.Name x p) [] [] pos) (tCB r Bb):=by
 intro a s j H Q I h;refine kE<|zn I d f g ?_ i b;exact PyProof.Rows.callWith_type0<|c a s j H [] [] Q I .nil h
end
end L2
namespace HT
open PySem PyProof.Rows
noncomputable def wV(n d:Nat):Option Int->Nat
 |none=>d
 |some v=>if v<0 then (v+(n:Int)).toNat else min v.toNat n
def IC(n d:Nat):wV n d none=d:=rfl
def L6(n d k:Nat):wV n d ↑(k:Int)=min k n:=by show (if (k:Int)<0 then ((k:Int)+(n:Int)).toNat else min (k:Int).toNat n)=min k n;rw[gl q0a,lq]
def a1C(n d:Nat)(b:d<=n)(o:Option Int):wV n d o<=n:=by
 cases o with
 |none=>exact b
 |some v =>
  show (if v<0 then (v+(n:Int)).toNat else min v.toNat n)<=n;by_cases a:v<0
  ·rw[gI a];lia
  ·rw[gl a];exact Nat.min_le_right _ _
def L7(v:Int)(n d:Nat):(if v<0 then max (v+(n:Int)) 0 else min v (n:Int))=((wV n d ↑v:Nat):Int):=by
 show (if v<0 then max (v+(n:Int)) 0 else min v (n:Int))=(((if v<0 then (v+(n:Int)).toNat else min v.toNat n):Nat):Int);by_cases a:v<0
 ·simp only[gI a];lia
 ·simp only[gl a];lia
def J5(lo a:Option Int)(n:Nat):qa lo a 1 (n:Int)=(((wV n 0 lo:Nat):Int),((wV n n a:Nat):Int)):=by
 refine Prod.ext ?_ ?_
 ·cases lo with
  |none=>rfl
  |some v=>exact L7 v n 0
 ·cases a with
  |none=>rfl
  |some v=>exact L7 v n n
def J7(i j:Nat):kY (i:Int) (j:Int) 1=j-i:=by unfold kY;split<;>lia
def DQ(p:qc v o)(h:Q o s):gR (gU a w) A (Builtin.Slice.slicePartIndex v) Q E s:=by
 cases p with
 |none=>exact slicePart_none h
 |int i t=>exact slicePart_int h
def yZ{lo:Option Int}{n:Nat}(g:s.heap.IsSliceOf sl d e .none)(i:qc d lo)(j:qc e c)
 (h:Q (((wV n 0 lo:Nat):Int),1,wV n n c-wV n 0 lo) s):gR (gU f w) A (Builtin.Slice.sliceApplied (.ref sl)<|pure (n:Int)) Q E s:=by
  refine e1a3 (id g) λos a k b=>?_
  refine am<|am<|iX a b (x:=d) rfl<|am<|iX a b (x:=e) rfl<|am<|iX a b (x:=.none) rfl<|ap ?_
  refine am<|slicePart_none ?_
  rw[gl q0q]
  refine am<|DQ i<|am<|DQ j<|am<|ap ?_
  show gR _ _ (match qa lo c 1 (n:Int) with|(lo,c)=>pure (lo,(1:Int),kY lo c 1)) _ _ s
  rw[J5 lo c n]
  show gR _ _ (pure (((wV n 0 lo:Nat):Int),(1:Int),kY ((wV n 0 lo:Nat):Int) ((wV n n c:Nat):Int) 1)) _ _ s
  rw[J7]
  exact ap h
def OX(a:Array cr)(i k:Nat):((h8 k).filterMap λ(m:Nat)=>a[((i:Int)+(m:Int)*1).toNat]?).toArray=((a.toList.drop i).take k).toArray:=by
 have e:(λ(m:Nat)=>a[((i:Int)+(m:Int)*1).toNat]?)=λm=>a[i+m]?:=by
  funext m
  have:((i:Int)+(m:Int)*1).toNat=i+m:=by lia
  rw[this]
 rw[e];have:=pick_run a i k;rw[t6]at this;have b:((λx=>a[x]?)∘λx=>i+x)=λm=>a[i+m]?:=rfl;rw[b]at this;rw[this]
def Br{t sl:ci}{items:Array cr}{vl vu:cr}{lo hi:Option Int}{Q:cr->gN->Prop}(ht:IsTup s.heap t items)(hs:s.heap.IsSliceOf sl vl vu .none)(pl:qc vl lo)(pu:qc vu hi)
  (hw:¬(wV items.size 0 lo=0/\wV items.size items.size hi=items.size))
  (h:Q (.ref ⇑s) { s with heap:=s.heap.push { cls:=.type "tuple",data:=.seq (101).toArray}})
  (hsz:items.size<=gL):gR (gU prog w) A (nY (.ref t)<|.ref sl) Q E s:=by
 have L8:sizeOk (.seq (101).toArray):=by show (101).toArray.size<=gL;rw[gY,lJ,mJ,gQ];omega
 refine e1a3 (id hs) λos hos hcs hds=>?_;have hTs:s.TypeIs (.ref sl) "slice":=#[os,hos,hcs];unfold nY
 try with_reducible refine iz ?_
 first|refine am (ap ?_)|skip
 refine am<|wpAny_sequenceKey ht.typeIs q0q ?_
 refine am (wpAny_callSpecial?_slot (name:=lO "__getitem__") ht.typeIs ko
  (iP ko ht.typeIs entry_tuple_getitem ?_ (args_tuple_getitem _ _)))
 show gR _ _ (pW (.ref t) >>= _) _ _ s;refine am<|tupleItemsOf_ ht ?_;refine am<|kK hTs ?_;rw[gI q0q];refine am<|yZ hs pl pu ?_
 have hno:¬((((wV items.size 0 lo:Nat):Int)==0&&(1:Int)==1&&(wV items.size items.size hi-wV items.size 0 lo)==items.size)=true):=by intro q;rw[iq,iq]at q;have q1:((wV items.size 0 lo:Nat):Int)=0:=eq_of_beq q.1.1;have q2:wV items.size items.size hi-wV items.size 0 lo=items.size:=eq_of_beq q.2;exact hw #[q0d,q0d]
 show gR _ _ (if (((wV items.size 0 lo:Nat):Int)==0&&(1:Int)==1&&(wV items.size items.size hi-wV items.size 0 lo)==items.size)=true then _ else _) _ _ s;rw[gl hno,OX]
 first
  | exact am (m:=lj _)<|iH (ap #[_,rfl,ap h]) L8
  | exact am (m:=lj _)<|iH (am<|ap<|ap #[_,rfl,ap h]) L8
  | exact am<|am (m:=lj _)<|iH (ap<|ap #[_,rfl,ap h]) L8
  | exact am<|am (m:=lj _)<|iH (ap #[_,rfl,ap h]) L8
end HT
namespace L2
open PySem PySem.Spec PyProof.Rows
abbrev TO:=St->Hp->(Option Int->Hp->Prop)->Prop
def PO(X:Cx)(e:Option iA)(t:TO):Prop :=
 ∀(a:List (ci×Obj)) (s:gN) (b:St) (H:Hp) (Q:Option Int->Hp->Prop),Inv X a b H s->t b H Q ->
  gR 19 X.A (evalPart e X.env) (λu d=>∃o c,Inv X a b c d/\qc u o/\Q o c) X.xe s
def SQ:TO:=λ_ H Q=>Q none H
def Ze(t:TE):TO:=λa H Q=>t a H λx b=>∃i,x=.int i/\Q ↑i b
def intsAre_of{a:List Int}:∀{b:List cr},Vals (a.map V.int) b->kR b a:=by
 induction a with
 |nil=>intro b r;rw[oM]at r;cases r;exact .nil
 |cons n a c =>
  intro b r;rw[ik]at r
  cases r with
  |cons d f =>
   obtain⟨t,e⟩:=d;subst e;exact .cons n t<|c f
section
variable{X:Cx}{e:iA}{te:TE}{lo hi:Option iA}{tl th:TO}{pos p2:Pos}
def Di:PO X none SQ:=by intro a s b H Q I h;rw[tQ];exact ap #[none,H,I,.none,h]
def Dj(h:PE X e te):PO X ↑e (Ze te):=by intro a s b H Q I c;rw[evalPart_some];refine vG (h a s b H _ I c) λu l d=>e2a3 d λx f g j k=>?_;obtain⟨i,rfl,q⟩:=k;obtain⟨t,rfl⟩:=j;exact#[↑i,f,g,.int i t,q]
def VL(X:Cx)(r:V->Option Int->Option Int->Hp->VK->Prop):Prop :=
 ∀(a:List (ci×Obj)) (s:gN) (b:St) (H:Hp) (x:V) (v c d:cr) (lo hi:Option Int) (f:ci) (Q:VK),Inv X a b H s->RelV x v->s.heap.IsSliceOf f c d .none->qc c lo->qc d hi->r x lo hi H Q ->
  ∃T g,m8 (.type T) "__getitem__"=pure (some<|.builtin g)/\s.TypeIs v T/\gR 19 X.A (nY v<|.ref f) (EP X a b Q) X.xe s
def VL.or(h:VL X r)(l:VL X m):VL X (λx lo hi H Q=>r x lo hi H Q\/m x lo hi H Q):=by
 intro a s b H x v c d lo hi f Q I g i j k q;rcases q with q|q
 ·exact h a s b H x v c d lo hi f Q I g i j k q
 ·exact l a s b H x v c d lo hi f Q I g i j k q
def tSl(r:V->Option Int->Option Int->Hp->VK->Prop)(te:TE)(tl th:TO):TE:=λa H Q=>te a H λx b=>tl a b λl c=>th a c λu d=>r x l u d Q
def zX(k:VL X r)(m:PE X e te)(n:PO X lo tl)(o:PO X hi th):PE X (.Subscript e (.Slice lo hi none p2) pos) (tSl r te tl th):=by intro a s d H Q I h;refine sR<|vG (m a s d H _ I h) λv p f=>e2a3 f λx t w y z=>?_;refine wpAny_Slice<|vG (n a p d t _ w z) λg A f=>e2a3 f λl B C D E=>vG (o a A d B _ C E) λi c f=>e2a3 f λu j F G J=>?_;rw[tQ];refine ap ?_;have L:Inv X a d j { c with heap:=c.heap.push { cls:=.type "slice",data:=.fields #v[g,i,.none]}}:=F.kept (t':=c.toks) λb P q=>ce _ q;obtain⟨T,R,M,N,O⟩:=k a { c with heap:=c.heap.push { cls:=.type "slice",data:=.fields #v[g,i,.none]}} d j x v g i l u ⇑c Q L y (qT ..) D G J;exact tail_any (ops:=[.ref ⇑c,v]) N M O (by with_unfolding_all rfl)
noncomputable def DR(a:List V)(lo hi:Option Int):List V:=(a.drop<|HT.wV a.length 0 lo).take<|HT.wV a.length a.length hi-HT.wV a.length 0 lo
def CP(a:List V)(lo hi:Option Int):(DR a lo hi).length<=a.length:=by unfold DR;rw[lJ,mJ];omega
def a1D(K:gH):V->Option Int->Option Int->Hp->VK->Prop:=λx lo hi H Q=>∃a b,x=.ref a/\yY K H a b /\
 ¬(HT.wV b.length 0 lo=0/\HT.wV b.length b.length hi=b.length)/\∀p,H p=none->Q (.ref p) (upd H p<|.tup<|DR b lo hi)
def WM:VL X (a1D X.K):=by
 intro f s t H x v u w lo hi y Q I j k l m h;obtain⟨a,d,rfl,n,p,q⟩:=h;cases j;refine e1a3 (I.tuple n) λvh r g i=>?_;have c:vh.toArray.size=d.length:=by rw[gY];exact r.length.symm
 refine#["tuple",_,PyProof.Rows.slot_tuple_getitem.lookup,g.typeIs,?_];refine HT.Br g k l m (by rw[c];exact p) ?_ (by rw[c];exact i);rw[c];refine#[.ref ⇑s,_,I.laid (t':=s.toks) (o:=.tup<|DR d lo hi) (λb z q=>ce _ q) (gK _) ?_,rfl,q _<|I.vL.fresh<|gK _];exact#[ij (CP d lo hi) i,_,(r.drop<|HT.wV d.length 0 lo).take<|HT.wV d.length d.length hi-HT.wV d.length 0 lo,IsTup.new _ _]
end
noncomputable def SR(n:Nat)(i:Int):Option Nat:=if 0<=i then (if i<n then some i.toNat else none) else if -(n:Int)<=i then some (i+n).toNat else none
noncomputable def Ff{a:Type}(b:List a)(i:Int):Option a:=(SR b.length i).bind λj=>b[j]?
def L9{n:Nat}{i:Int}{j:Nat}(h:SR n i=↑j):seqIndex? i n=↑j/\j<n/\-(n:Int)<=i/\i<n:=by
 unfold SR at h;by_cases b:0<=i
 ·rw[gI b]at h;by_cases a:i<n
  ·rw[gI a]at h;have e:i.toNat=j:=iT h;exact#[by rw[seqIndex_of b a,e],q0a,q0a,a]
  ·rw[gl a]at h;cases h
 ·rw[gl b]at h;by_cases a:-(n:Int)<=i
  ·rw[gI a]at h;have e:(i+n).toNat=j:=iT h;exact#[by rw[uw q0a a,e],q0a,a,q0a]
  ·rw[gl a]at h;cases h
def Ma{α:Type}{xs:List α}{i:Int}{v:α}(h:Ff xs i=↑v):∃j,seqIndex? i xs.length=↑j/\xs[j]?=↑v/\j<xs.length/\-(xs.length:Int)<=i/\i<xs.length:=by
 unfold Ff at h
 cases e:SR xs.length i with
 |none=>rw[e]at h;cases h
 |some j =>
  rw[e]at h;obtain⟨h1,h2,h3,h4⟩:=L9 e;exact#[j,h1,h,h2,h3,h4]
def Mb{α:Type}{xs:List α}{j:Nat}{v:α}(h:xs[j]?=↑v):Ff xs (j:Int)=↑v:=by
 have hj:j<xs.length:=(List.getElem?_eq_some_iff.mp h).1
 have e:SR xs.length (j:Int)=↑j:=by unfold SR;rw[gI q0a,gI q0a];simp
 unfold Ff;rw[e];exact h
def Mc(b:iA):Prop:=∀o i,rT b false o i=operate [o,i] (nY o i)
def IxR(X:Cx)(r:R2):Prop :=
 ∀(c a:iA) (b:List (ci×Obj)) (s:gN) (d:St) (H:Hp) (x y:V) (v u:cr) (Q:VK),Inv X b d H s->RelV x v->RelV y u->r x y H Q ->
  rT a false v u=operate [v,u] (nY v u)->gR 19 X.A (subscriptTail c a v u) (EP X b d Q) X.xe s
def MtR(X:Cx)(e:String)(r:V->List V->Hp->VK->Prop):Prop :=
 ∀(a:List (ci×Obj)) (s:gN) (b:St) (H:Hp) (x:V) (c:List V) (v:cr) (d:List cr) (Q:VK),Inv X a b H s->RelV x v->Vals c d->r x c H Q ->
  gR 19 X.A (call (.builtin e) (v::d)) (EP X a b Q) X.xe s
section
variable{X:Cx}
def ym(d:IxR X r)(e:PE X a f)(g:PE X b i)(j:Mc b):PE X (.Subscript a b pos) (YG r f i):=by intro c s k H Q I h;exact sR<|WE e g I h λv u l x y m n o p q=>d a b c l k m x y v u Q n o p q<|j _ _
def a1F(K:gH):R2:=λx y H Q=>∃p a i v,x=.ref p/\y=.int i/\v6 K H p a/\Ff a i=↑v/\Q v H
def a1G(K:gH):R2:=λx y H Q=>∃p a i v,x=.ref p/\y=.int i/\yY K H p a/\Ff a i=↑v/\Q v H
def wI:IxR X (a1F X.K):=by
 intro value slice a s f H x y v u Q I m n h g;obtain⟨p,G,i,z,rfl,rfl,o,A,q⟩:=h;cases m;obtain⟨t,rfl⟩:=n;refine e1a3 (I.list o) λvh r c J=>?_;obtain⟨j,b,B,L,C,D⟩:=Ma A;refine e1a2 (r.get B) λw k d=>?_;have E:=r.length;have M:=DP;have fin:EP X a f Q w s:=#[z,H,I,d,q];by_cases l:0<=i
 ·have e:i.toNat=j:=by rw[seqIndex_of l D]at b;exact iT b
  exact item_listR c.isList l q0a (by rw[e];simpa using k) fin g
 ·have e:(i+(vh.toArray.size:Int)).toNat=j:=by rw[uw q0a C]at b;rw[gY,<- E];exact iT b
  exact ux (x:=w) c.isList.typeIs slot_list_getitem.lookup
   (wpAny_getItem_list_neg (Q:=λr F=>r=w/\EP X a f Q r F) c.isList q0a (by rw[gY]<;>lia) q0a (by rw[e];simpa using k) #[rfl,fin]) g
def OY:IxR X (a1G X.K):=by
 intro value slice a s c H x y v u Q I e f h g;obtain⟨p,C,i,z,rfl,rfl,k,l,q⟩:=h;cases e;obtain⟨t,rfl⟩:=f;refine e1a3 (I.tuple k) λvh r d D=>?_;obtain⟨j,m,n,E,F,G⟩:=Ma l;refine e1a2 (r.get n) λw o b=>?_;have A:=r.length;have J:=DP;have fin:EP X a c Q w s:=#[z,H,I,b,q]
 exact ux (x:=w) d.typeIs slot_tuple_getitem.lookup
  (getItem_tuple (j:=j) (Q:=λr B=>r=w/\EP X a c Q r B) d q0a q0a (by rw[gY,<- A];exact m) (by simpa using o) #[rfl,fin]) g
def J8(vh:List cr)(n j:Nat)(u:cr):Obj.mapSeq (·.setIfInBounds j u) 78={ cls:=.type "list",data:=.seq (vh.set j u).toArray n}:=by simp[Obj.mapSeq]
def Inv.lst(I:Inv X a c H s)(h:H p=↑(.lst b)) :
  ∃(vh:List cr)(n:Nat),Vals b vh/\s.heap.get? p=some 78/\b.length<=gL:=by
 obtain⟨z,vh,n,r,e⟩:=I.vL p _ h;exact#[vh,n,r,e,z]
def Inv.WN{vh a:List cr}{n d:Nat}(I:Inv X c j H s)(h:H p=↑(.lst o))
 (k:s.heap.get? p=some 78) (g:f 78={ cls:=.type "list",data:=.seq a.toArray d}) (r:Vals i a) (l:i.length<=gL) (t:Nat) :
    Inv X c j (upd H p<|.lst i) { s with heap:=s.heap.update p f,toks:=t}:=by
  have e:(s.heap.update p f).get? p=some { cls:=.type "list",data:=.seq a.toArray d}:=by
    rw[iL f k (by rw[g]<;>rfl),g]
  refine I.write (x:=p) (e:=p) (by rw[h];trivial) (.inl rfl) (λb u m q=>(iB _ _<|Ne.symm m).trans q) #[_,e] ?_
  exact#[l,a,d,r,e]
def VM:V->V->V->Hp->(Hp->Prop)->Prop:=λo i v H Q=>∃p a k j,o=.ref p/\i=.int k/\H p=↑(.lst a)/\SR a.length k=↑j/\Q (upd H p<|.lst<|a.set j v)
def set_list:Wx X VM:=by
 intro a s x H o i v E F u Q I y z A h;obtain⟨p,B,k,j,rfl,rfl,f,C,q⟩:=h;cases y;obtain⟨t,rfl⟩:=z;obtain⟨vh,n,r,c,D⟩:=I.lst f;obtain⟨b,G,g,l⟩:=L9 C;have d:=r.length;have J:=DP
 have m:Inv X a x (upd H p<|.lst<|B.set j v) { s with heap:=s.heap.update p (Obj.mapSeq (·.setIfInBounds j u))} :=
  I.WN f c (J8 vh n j u) (r.set A j) (by rw[lZ];exact D) s.toks
 by_cases w:0<=k
 ·have e:k.toNat=j:=by rw[seqIndex_of w l]at b;exact iT b
  exact PySem.W.ki_setAt c w q0a (by rw[gY,<- d];exact l) (by rw[e];exact#[_,m,q])
 ·have e:(k+(vh.toArray.size:Int)).toNat=j:=by rw[uw q0a g]at b;rw[gY,<- d];exact iT b
  exact PySem.W.ki_setBack c q0a (by rw[gY,<- d];exact g) q0a (by rw[e];exact#[_,m,q])
def Go(a b:Option Int)(n:Nat):(nw a b none n).1=((HT.wV n 0 a:Nat):Int)/\(nw a b none n).2.1=((HT.wV n n b:Nat):Int)/\(nw a b none n).2.2=1:=by
 refine#[?_,?_,rfl]
 ·cases a with
  |none=>simp[nw,HT.wV]
  |some i =>
   simp only[nw,HT.wV,qm,show (1:Int)>0 by decide,if_true];by_cases h:i<0
   ·simp only[h,if_true]<;>lia
   ·simp only[h,o8]<;>lia
 ·cases b with
  |none=>simp[nw,HT.wV]
  |some i =>
   simp only[nw,HT.wV,qm,show (1:Int)>0 by decide,if_true];by_cases h:i<0
   ·simp only[h,if_true]<;>lia
   ·simp only[h,o8]<;>lia
def Fh(vh:List cr)(a b:Option Int):slicePick vh.toArray a b none=((vh.drop<|HT.wV vh.length 0 a).take<|HT.wV vh.length vh.length b-HT.wV vh.length 0 a).toArray:=by refine e0a3 (Go a b vh.toArray.size) λc d e=>?_;unfold slicePick;rw[c,d,e];simp only[sliceRange_one,pick_run,gY]<;>rfl
def a1H(K:gH):V->Option Int->Option Int->Hp->VK->Prop:=λx c d H Q=>∃a b,x=.ref a/\v6 K H a b/\∀p,H p=none->Q (.ref p) (upd H p<|.lst<|DR b c d)
def Dk:VL X (a1H X.K):=by intro g s t H x v u w e f y Q I j k l m h;obtain⟨a,c,rfl,n,q⟩:=h;cases j;refine e1a3 (I.list n) λvh r i p=>?_;have d:=r.length;refine#["list",_,slot_list_getitem.lookup,i.isList.typeIs,?_];refine tR i.isList k l m .none q0o ?_ (by rw[gY]<;>lia);rw[Fh,<- d];refine#[.ref ⇑s,_,I.laid (t':=s.toks) (o:=.lst<|DR c e f) (λb z q=>ce _ q) (gK _) ?_,rfl,q _<|I.vL.fresh<|gK _];exact#[ij (CP c e f) p,_,0,(r.drop<|HT.wV c.length 0 e).take<|HT.wV c.length c.length f-HT.wV c.length 0 e,gX _ rfl]
noncomputable def Bu:V->Bool
 | .wq=>true
 | .bl _=>true
 | .int _=>true
 | .str _=>true
 |_=>false
noncomputable def So:V->V->Bool
 | .wq,.wq=>true
 | .bl a,.bl b=>a==b
 | .bl a,.int b=>(if a then 1 else 0)==b
 | .int a,.bl b=>a==(if b then 1 else 0)
 | .int a,.int b=>a==b
 | .str a,.str b=>a==b
 |_,_=>false
def WO(e:RelV y u)(c:RelV x v)(g:Bu y=true)(f:Bu x=true):SeqAt.EqAt A s u v (So y x):=by
 cases y with
 |wq =>
  cases e
  cases x with
  |wq=>cases c;exact SeqAt.EqAt.same _
  |bl b=>cases c;exact SeqAt.EqAt.none_bool b
  |int b=>obtain⟨t,rfl⟩:=c;exact SeqAt.EqAt.none_int b t
  |str b=>obtain⟨t,rfl⟩:=c;exact SeqAt.EqAt.none_str b t
  |_=>exact g8 (show false=true from f) gV
 |bl a =>
  cases e
  cases x with
  |wq=>cases c;exact SeqAt.EqAt.bool_none a
  |bl b=>cases c;exact SeqAt.EqAt.bool_bool a b
  |int b=>obtain⟨t,rfl⟩:=c;exact SeqAt.EqAt.bool_int a b t
  |str b=>obtain⟨t,rfl⟩:=c;exact SeqAt.EqAt.bool_str a b t
  |_=>exact g8 (show false=true from f) gV
 |int a =>
  obtain⟨d,rfl⟩:=e
  cases x with
  |wq=>cases c;exact SeqAt.EqAt.int_none a d
  |bl b=>cases c;exact SeqAt.EqAt.int_bool a d b
  |int b=>obtain⟨t,rfl⟩:=c;exact SeqAt.EqAt.int_int a d b t
  |str b=>obtain⟨t,rfl⟩:=c;exact rP a d b t
  |_=>exact g8 (show false=true from f) gV
 |str a =>
  obtain⟨d,rfl⟩:=e
  cases x with
  |wq=>cases c;exact SeqAt.EqAt.str_none a d
  |bl b=>cases c;exact SeqAt.EqAt.str_bool a d b
  |int b=>obtain⟨t,rfl⟩:=c;exact rQ a d b t
  |str b=>obtain⟨t,rfl⟩:=c;exact SeqAt.EqAt.str_str a d b t
  |_=>exact g8 (show false=true from f) gV
 |_=>exact g8 (show false=true from g) gV
noncomputable def J9(x:V)(u:cr):Bool:=match u with
 | .none=>So .wq x
 | .bool b=>So (.bl b) x
 | .int i _=>So (.int i) x
 | .str z _=>So (.str z) x
 |_=>false
def OZ(r:RelV y u)(f:Bu y=true):J9 x u=So y x:=by
 cases y with
 |wq=>cases r;rfl
 |bl b=>cases r;rfl
 |int i=>obtain⟨t,rfl⟩:=r;rfl
 |str z=>obtain⟨t,rfl⟩:=r;rfl
 |_=>exact g8 (show false=true from f) gV
def Dl:∀{a:List V} {b:List cr},Vals a b->a.all Bu=true->b.any (J9 x)=a.any λy=>So y x:=by
 intro _ _ z f
 induction z with
 |nil=>rfl
 |cons h t c =>
  rw[pX,iq]at f;rw[oj,oj,OZ h f.1,c f.2]
def zY(d:RelV x v)(e:Bu x=true):∀{b:List V} {c:List cr},Vals b c->b.all Bu=true->∀u∈c,SeqAt.EqAt A s u v (J9 x u)
 |_,_,.nil,_=>λu a=>by cases a
 |y::b,u::c,.cons r t,f=>λg a=>by
  rw[pX,iq]at f;rcases List.mem_cons.mp a with rfl|a
  ·rw[OZ r f.1];exact WO r d f.1 e
  ·exact zY d e t f.2 g a
noncomputable def inV(x:V)(a:List V):Bool:=a.any λy=>So y x
def rIn(K:gH)(b:Bool):R2:=λx y H Q=>∃p a,y=.ref p/\(v6 K H p a\/yY K H p a)/\Bu x=true/\a.all Bu=true/\Q (.bl<|if b then !inV x a else inV x a) H
def FN:zU X (jj .In) (rIn X.K false):=by
 intro e s k H x y v u Q I f i h;obtain⟨p,l,rfl,a,g,b,q⟩:=h;cases i;rcases a with a|a
 ·refine e1a3 (I.list a) λvh r c j=>?_;refine SeqAt.in_listAt (J9 x) c.isList (λw d=>zY f g r b w<|by simpa using d) #[.bl _,H,I,rfl,?_];rw[show vh.toArray.any (J9 x)=vh.any (J9 x) by simp,Dl r b];exact q
 ·refine e1a3 (I.tuple a) λvh r c j=>?_;refine SeqAt.in_tupleAt (J9 x) c (λw d=>zY f g r b w<|by simpa using d) #[.bl _,H,I,rfl,?_];rw[show vh.toArray.any (J9 x)=vh.any (J9 x) by simp,Dl r b];exact q
def Bv:zU X (jj .NotIn) (rIn X.K true):=by
 intro e s k H x y v u Q I f i h;obtain⟨p,l,rfl,a,g,b,q⟩:=h;cases i;rcases a with a|a
 ·refine e1a3 (I.list a) λvh r c j=>?_;refine SeqAt.notIn_listAt (J9 x) c.isList (λw d=>zY f g r b w<|by simpa using d) #[.bl _,H,I,rfl,?_];rw[show vh.toArray.any (J9 x)=vh.any (J9 x) by simp,Dl r b];exact q
 ·refine e1a3 (I.tuple a) λvh r c j=>?_;refine SeqAt.notIn_tupleAt (J9 x) c (λw d=>zY f g r b w<|by simpa using d) #[.bl _,H,I,rfl,?_];rw[show vh.toArray.any (J9 x)=vh.any (J9 x) by simp,Dl r b];exact q
def xj:yz X (.builtin "len") (λf H Q=>∃p b,f=[.ref p]/\(v6 X.K H p b\/yY X.K H p b)/\Q (.int b.length) H):=by
 intro g s k H f l Q I r h;obtain⟨p,b,rfl,c,q⟩:=h;obtain⟨u,rfl,i⟩:=vals1 r;cases i;have m:=DP;rcases c with c|c
 ·refine e1a3 (I.list c) λvh d e j=>?_;have a:=d.length;exact Calls.call_len_list e.isList (by simp only[gY]<;>lia) #[.int b.length,H,I.tok _,#[s.toks+1,by rw[gY,a]],q]
 ·refine e1a3 (I.tuple c) λvh d e j=>?_;have a:=d.length;exact len_tuple e (by simp only[gY]<;>lia) #[.int b.length,H,I.tok _,#[s.toks+1,by rw[gY,a]],q]
def yo:yz X (.type "list") (λA H Q=>∃p c,A=[.ref p]/\(v6 X.K H p c\/yY X.K H p c)/\∀l,H l=none->Q (.ref l) (upd H l<|.lst c)):=by
 intro g s C H A E Q I r h;obtain⟨p,c,rfl,i,q⟩:=h;obtain⟨u,rfl,D⟩:=vals1 r;cases D
 have j:∀(vh:List cr),Vals c vh->c.length<=gL->∀(a:iJ)(d:Nat),(∀b B,s.heap.get? b=↑B->a.get? b=↑B) ->
   a.get? ⇑s=some { cls:=.type "list",dict:=none,data:=.seq vh.toArray d,slots:=#v[]}->EP X g C Q (.ref ⇑s) 96:=λvh f k a d m e =>
  #[.ref ⇑s,_,I.laid (t':=s.toks) m (gK _)<|show vY X.prog X.w _ a _ (.lst c) from#[k,vh,d,f,e],rfl,q _<|I.vL.fresh<|gK _]
 rcases i with i|i
 ·refine e1a3 (I.list i) λvh f v k=>?_;have t:=f.length;obtain⟨o,x,y,n,z⟩:=v.isList;exact call_list_seq p (.inl rfl) x y z (λa d m e=>j vh f k a d m e) (by simp only[gY]<;>lia)
 ·refine e1a3 (I.tuple i) λvh f v k=>?_;have t:=f.length;obtain⟨o,x,y,n,z⟩:=v;exact call_list_seq p (.inr rfl) x y z (λa d m e=>j vh f k a d m e) (by simp only[gY]<;>lia)
def Fi:yz X (.type "tuple") (λj H Q=>∃p c,j=[.ref p]/\((v6 X.K H p c/\∀l,H l=none->Q (.ref l) (upd H l<|.tup c))\/(yY X.K H p c/\Q (.ref p) H))):=by
 intro a s k H j z Q I r h;obtain⟨p,c,rfl,h⟩:=h;obtain⟨u,rfl,v⟩:=vals1 r;cases v;rcases h with⟨f,q⟩|⟨f,q⟩
 ·refine e1a3 (I.list f) λvh g i m=>?_;have n:=g.length;refine call_tuple_list i.isList (λd x=>?_) (by simp only[gY]<;>lia);have t:Inv X a k H { s with heap:=d}:=I.kept (t':=s.toks) x
  have y:Inv X a k (upd H d.objs.size<|.tup c) { s with heap:=d.push { cls:=.type "tuple",data:=.seq vh.toArray}} :=
   t.laid (t':=s.toks) (λb o e=>ce _ e) (gK _) (show vY X.prog X.w _ _ _ (.tup c) from#[m,vh,g,IsTup.new _ _])
  exact#[.ref d.objs.size,_,y,rfl,q _<|t.vL.fresh<|gK _]
 ·refine e1a3 (I.tuple f) λvh g i m=>?_;exact call_tuple_same i #[.ref p,H,I,rfl,q]
def tyV(K:gH)(T:String)(x:V)(H:Hp):Prop:=match x with
 | .str _=>T="str"
 | .int _=>T="int"
 | .ref p=>(T="list"/\∃xs,v6 K H p xs)\/(T="tuple"/\∃o,K.lookup p=↑o/\o.cls=.type "tuple"/\o.dict=none) \/
   (T="dict"/\((∃xh,H p=↑(.dK xh))\/∃xh,H p=↑(.dT xh)))\/(T="set"/\∃S n,H p=↑(.set S n))
 |_=>False
def O0(I:Inv X k w H s)(r:RelV x v)(f:tyV X.K T x H) :
  s.TypeIs v T/\∀a,v=.ref a->∃l,s.heap.get? a=↑l/\l.dict=none:=by
 cases x with
 |str z =>
  obtain⟨t,rfl⟩:=r;cases (show T="str" from f);exact#[typeIs_str s z t,λ_ e=>nomatch e]
 |int i =>
  obtain⟨t,rfl⟩:=r;cases (show T="int" from f);exact#[typeIs_int s i t,λ_ e=>nomatch e]
 |ref p =>
  cases r;rcases f with⟨rfl,y,q⟩|⟨rfl,o,b,u,g⟩|⟨rfl,b⟩|⟨rfl,S,n,b⟩
  ·refine e1a3 (I.list q) λvh _ m _=>?_;refine#[m.isList.typeIs,λa e=>?_];cases e;refine e2a4 m λo n e c g _=>?_;exact#[o,e,g]
  ·refine#[#[o,I.yG p o b,u],λa e=>?_];cases e;exact#[o,I.yG _ o b,g]
  ·have z:∃o,s.heap.get? p=↑o/\o.ExactDict:=by
    rcases b with⟨h,b⟩|⟨h,b⟩
    ·obtain⟨_,_,_,_,o,_,_,e,d,_⟩:=I.vL p _ b;exact#[o,e,d]
    ·obtain⟨_,_,_,_,o,_,_,e,d,_⟩:=I.vL p _ b;exact#[o,e,d]
   refine e1a2 z λo e d=>?_;refine#[#[o,e,d.1],λa j=>?_];cases j;exact#[o,e,d.2.1]
  ·obtain⟨o,_,_,_,e,d,_⟩:=I.vL p _ b;refine#[#[o,e,d.1],λa j=>?_];cases j;exact#[o,e,d.2.1]
 |_=>exact iv f
def Zf(K:gH)(T:String)(r:V->List V->Hp->VK->Prop)(b:TE):TE:=λc H Q=>b c H λx a=>tyV K T x a/\r x [] a Q
def tBM(K:gH)(T:String)(r:V->List V->Hp->VK->Prop)(c:TE)(t:TA):TE:=λa H Q=>c a H λx b=>tyV K T x b/\t a b λd e=>r x d e Q
variable{o e:iA}{es:List iA}{to:TE}{t:TA}{name:Str}{apos cpos:Pos}{T id:String}{r:V->List V->Hp->VK->Prop}
def WP(k:PlainAttrs T)(d:Slot T name id)(f:uy (.builtin id)=pure (.type "method_descriptor"))(l:MtR X id r)(m:PE X o to)
 (b:iD o name X.env (eval o X.env)=eval o X.env:=by rfl)(c:(apos.endLine==cpos.line)=true:=by rfl):PE X (.Call (.Attribute o name apos) [] [] cpos) (Zf X.K T r to):=by
  intro a s g H Q I h
  refine wpAny_Call_method0_late b c<|vG (m a s g H _ I h) λv n p=>e2a4 p λx q i j u w=>?_
  obtain⟨y,z⟩:=O0 i j u
  exact#[T,id,k,d,f,y,z,j0 rfl<|PySem.evalArgs_none<|l a n g q x [] v [] Q i j .nil w]
def VN(p:PlainAttrs T)(f:Slot T name id)(i:uy (.builtin id)=pure (.type "method_descriptor"))(q:MtR X id r)(u:PE X o to)(w:PA X (e::es) t)
 (c:iD o name X.env (eval o X.env)=eval o X.env:=by rfl)
 (g:((ja cpos (gJ (e::es) X.env)).all (λx=>!x.1)&&(mq cpos (kA [] X.env)).all (λx=>x.1.isSome)
&&decide ((e::es).length+([]:List pH).length+(if ([]:List pH).isEmpty then 0 else 1)<30))=true:=by rfl)
 (d:(apos.endLine==cpos.line)=true:=by rfl) (y:gJ (e::es) X.env=57::gJ es X.env:=by rfl) (b:(ja cpos<|gJ es X.env).any (·.1)=false:=by rfl) :
    PE X (.Call (.Attribute o name apos) (e::es) [] cpos) (tBM X.K T r to t):=by
  intro a s j H Q I h
  refine uz c g d rfl<|vG (u a s j H _ I h) λv z k=>e2a4 k λx A l m B C=>?_
  obtain⟨D,E⟩:=O0 l m B
  refine#[T,id,p,f,i,D,E,?_]
  have n:=w cpos a z j A _ l C
  rw[y]at n ⊢
  refine j0 (by show (false||(ja cpos<|gJ es X.env).any (·.1))=false;rw[b]<;>rfl)<|js ?_
  exact vG n λF G k=>e2a3 k λJ L M N O=>q a G j L x J v F Q M m N O
end
def YH(X:Cx)(e:String)(r:V->List V->Hp->VK->Prop):Prop :=
 ∀(a:List (ci×Obj)) (s:gN) (b:St) (H:Hp) (x:V) (c:List V) (v:cr) (d:List cr) (Q:VK),Inv X a b H s->RelV x v->Vals c d->r x c H Q ->
  gR 19 X.A (call (.builtin e) (v::d)) (EP X a b Q) X.xe s
def Vals.one:∀{x:V} {a:List cr},Vals [x] a->∃u,a=[u]/\RelV x u:=by intro _ _ z;cases z with|cons h t=>cases t;exact#[_,rfl,h]
def Vals.zero:∀{a:List cr},Vals [] a->a=[]
 |_,.nil=>rfl
def Vals.dropLast(h:Vals a b):Vals a.dropLast b.dropLast:=by
 induction h with
 |nil=>exact .nil
 |cons r t c =>
  cases t with
  |nil=>exact .nil
  |cons q d=>exact .cons r c
def Vals.eraseIdx:∀{a:List V} {b:List cr} (i:Nat),Vals a b->Vals (a.eraseIdx i) (b.eraseIdx i)
 |_,_,_,.nil=>.nil
 |_,_,0,.cons _ t=>t
 |_,_,i+1,.cons r t=>.cons r<|Vals.eraseIdx i t
def Vals.reverse(h:Vals a b):Vals a.reverse b.reverse:=by
 induction h with
 |nil=>exact .nil
 |cons r t c=>rw[n6,n6];exact Vals.append c<|.cons r .nil
def Ka(l:List d):l.eraseIdx (l.length-1)=l.dropLast:=by
 induction l with
 |nil=>rfl
 |cons a r c =>
  cases r with
  |nil=>rfl
  |cons b r =>
   have e:(a::b::r).length-1=((b::r).length-1)+1:=by
    have f:(a::b::r).length=r.length+2:=rfl;have g:(b::r).length=r.length+1:=rfl
    lia
   rw[e,ou,c]
   all_goals rfl
def FO:∀(l:List a)(i:Nat),(l.eraseIdx i).length<=l.length
 | [],_=>gK _
 |_::_,0=>lG _
 |_::r,i+1=>Nat.succ_le_succ<|FO r i
def Inv.WQ{vh its':List cr}{n:Nat}{c:Nat}(I:Inv X a d H s)(g:H l=↑(.lst o))
 (e:s.heap.get? l=some 78) (h:f vh.toArray=its'.toArray) (i:Vals b its') (j:b.length<=gL) :
    Inv X a d (upd H l<|.lst b) { s with heap:=s.heap.update l<|Obj.mapSeq f,toks:=c}:=by
  have q:=PySem.IsL.update e f
  rw[h]at q
  refine I.write (x:=l) (e:=l) (by rw[g];exact trivial) (.inl rfl) (λp u k m=>(iB s.heap (Obj.mapSeq f)<|Ne.symm k).trans m) #[_,q] ?_
  exact#[j,its',_,i,q]
def Inv.a1J{t':Nat}(I:Inv X a c H s)(d:Vals b vh)(e:b.length<=gL) :
  Inv X a c (upd H ⇑s<|.lst b) { s with heap:=s.heap.push { cls:=.type "list",data:=.seq vh.toArray},toks:=t'} :=
 I.laid (λ_ _ q=>ce _ q) (gK _) #[e,vh,0,d,gX _ rfl]
def Inv.fresh(I:Inv X a b H s):H ⇑s=none:=I.vL.fresh<|gK _
def Inv.O3(I:Inv X b d H s)(c:H l=↑(.lst a)):a.length<=gL/\∃(vh:List cr)(n:Nat),Vals a vh/\a.length=vh.length/\s.heap.get? l=some 78:=by obtain⟨z,vh,n,r,e⟩:=I.vL l _ c;exact#[z,vh,n,r,r.length,e]
def Gp:V->List V->Hp->VK->Prop:=λx b H Q=>∃l a y,x=.ref l/\b=[y]/\H l=↑(.lst a)/\a.length<gL/\Q .wq (upd H l<|.lst<|a++[y])
def Nj:YH X "list.append" Gp:=by
 intro a s g H x i v j Q I c d h;obtain⟨l,k,y,rfl,rfl,b,m,q⟩:=h;cases c;obtain⟨u,rfl,f⟩:=d.one;obtain⟨z,vh,n,r,o,e⟩:=I.O3 b;refine call_meets F.slot_list_append #[_,e,rfl] F.entry_list_append (F.args_list_append_2 _ _) (PySem.list_append l vh.toArray n u<|by rw[gY];lia) #[e,?_];refine#[.wq,_,I.WQ (its':=vh++[u]) b e q0o (r.append<|.cons f .nil) ?_,rfl,q];rw[gW,hW]
 lia
def Zg:V->List V->Hp->VK->Prop:=λx b H Q=>∃l a y,x=.ref l/\b=[]/\H l=↑(.lst a)/\a[a.length-1]?=↑y/\Q y (upd H l<|.lst a.dropLast)
def WR:YH X "list.pop" Zg:=by
 intro c s o H x p v t Q I f g h;obtain⟨l,w,y,rfl,rfl,d,i,q⟩:=h;cases f;have a:=g.zero;subst a;obtain⟨z,vh,n,r,j,e⟩:=I.O3 d;refine e1a2 (r.get i) λu k m=>?_
 have b:vh.toArray[vh.toArray.size-1]?=↑u:=by show vh.toArray[vh.length-1]?=↑u;rw[<- iF,<- j];exact k
 refine call_meets se #[_,e,rfl] F.entry_list_pop (F.args_list_pop_1 _) (MeetsSeq.list_pop_last l vh.toArray n u b<|by rw[gY];omega) #[e,?_];refine#[y,_,I.WQ (its':=vh.dropLast) d e ?_ r.dropLast ?_,m,q]
 ·show vh.toArray.eraseIdxIfInBounds (vh.toArray.size-1)=vh.dropLast.toArray;rw[gY,qx,Ka]
 ·rw[List.length_dropLast];omega
def O5:V->List V->Hp->VK->Prop:=λx b H Q=>∃l a i k y,x=.ref l/\b=[.int i]/\H l=↑(.lst a)/\-(2 ^ 63)<=i/\i<2 ^ 63/\seqIndex? i a.length=↑k/\a[k]?=↑y/\Q y (upd H l<|.lst<|a.eraseIdx k)
def O6:YH X "list.pop" O5:=by
 intro b s D H x E v G Q I d f h;obtain⟨l,g,i,k,y,rfl,rfl,c,j,m,o,p,q⟩:=h;cases d;obtain⟨u,rfl,A⟩:=f.one;obtain⟨t,rfl⟩:=A;obtain⟨z,vh,n,r,B,e⟩:=I.O3 c;refine e1a2 (r.get p) λw C a=>?_
 refine call_meets se #[_,e,rfl] F.entry_list_pop (F.args_list_pop_2 _ _)
  (MeetsSeq.list_pop_at l vh.toArray n i t k w (fitsIndex_both j m) (by rw[gY,<- B];exact o) (by rw[<- iF];exact C)<|by rw[gY];lia) #[e,?_]
 refine#[y,_,I.WQ (its':=vh.eraseIdx k) c e ?_ (r.eraseIdx k) ?_,a,q]
 ·show vh.toArray.eraseIdxIfInBounds k=(vh.eraseIdx k).toArray;rw[qx]
 ·have:=FO g k
  lia
def a1K:R2:=λx y H Q=>∃l b a c,x=.ref l/\y=.ref b/\H l=↑(.lst a)/\H b=↑(.lst c)/\a.length+c.length<=gL/\∀p,H p=none->Q (.ref p) (upd H p<|.lst<|a++c)
def WT:zU X (mo .Add) a1K:=by
 intro c s p H x y v u Q I d f h;obtain⟨l,b,t,w,rfl,rfl,g,i,A,q⟩:=h;cases d;cases f;obtain⟨z,vh,n,r,B,e⟩:=I.O3 g;obtain⟨C,a,D,j,k,m⟩:=I.O3 i;refine PySem.P.add_list e m ?_ (by rw[gY,gY];lia);have o:vh.toArray++a.toArray=(vh++a).toArray:=by simp
 rw[o];exact#[.ref _,_,I.a1J (t':=s.toks) (r.append j) (by rw[gW];lia),rfl,q _ I.fresh]
section
variable{κ:Type}[DecidableEq κ]
noncomputable def yp(xh:List (κ×V))(k:κ):Option V:=(xh.find? λkv=>decide<|kv.1=k).map (·.2)
noncomputable def putK(xh:List (κ×V))(k:κ)(v:V):List (κ×V) :=
 if (xh.any λkv=>decide<|kv.1=k)=true then xh.map (λkv=>if kv.1=k then (kv.1,v) else kv) else xh++[(k,v)]
noncomputable def zZ(a:List (κ×V))(k:κ):List (κ×V):=a.filter λb=>decide<|b.1≠k
def y8{p:κ×V}{r:List (κ×V)}(e:p.1=k):yp (p::r) k=↑p.2:=by simp[yp,iM,e]
def y9{p:κ×V}{r:List (κ×V)}(e:¬p.1=k):yp (p::r) k=yp r k:=by simp[yp,iM,e]
def z8(k:κ):∀a:List (κ×V),(a.any λb=>decide<|b.1=k)=(yp a k).isSome
 | []=>rfl
 |p::r=>by
  rw[oj];by_cases e:p.1=k
  ·simp only[y8 e,decide_eq_true e,Bool.true_or,Option.isSome_some]
  ·rw[y9 e,ig e,Bool.false_or];exact z8 k r
def Aa(a:List (κ×V))(k:κ)(v:V):(putK a k v).length<=a.length+1:=by
 unfold putK;split
 ·rw[gM];lia
 ·rw[gW,hZ,mZ];lia
def O7{a:List (κ×V)}(v:V)(h:yp a k=none):putK a k v=a++[(k,v)]:=by unfold putK;rw[z8,h];exact gl q0q
def zl.yr(r:zl o u):o.isSome=u.isSome:=by
 cases o with
 |none=>cases u with
  |none=>rfl
  |some _=>exact(show False from r).elim
 |some _=>cases u with
  |none=>exact(show False from r).elim
  |some _=>rfl
def zl.getD(r:zl o u)(a:RelV d b):RelV (o.getD d) (u.getD b):=by
 cases o with
 |none=>cases u with
  |none=>exact a
  |some _=>exact(show False from r).elim
 |some _=>cases u with
  |none=>exact(show False from r).elim
  |some _=>exact r
def KV.val(r:KV a g)(k:κ):zl (yp a k) (qo g k):=by
 induction r with
 |nil=>exact True.intro
 | @cons p q l c h t i =>
  obtain⟨f,j⟩:=h;by_cases e:p.1=k
  ·have d:q.1=k:=f.symm.trans e;have b:qo (q::c) k=↑q.2:=by simp[qo,iM,d]
   rw[y8 e,b];exact j
  ·have d:¬q.1=k:=λz=>e<|f.trans z;have b:qo (q::c) k=qo c k:=by simp[qo,iM,d]
   rw[y9 e,b];exact i
def KV.any(r:KV a c)(k:κ):(a.any λb=>decide<|b.1=k)=c.any λb=>decide (b.1=k):=by
 induction r with
 |nil=>rfl
 |cons h t d=>rw[oj,oj,d,h.1]
def KV.WU(r:KV c d)(k:κ)(f:RelV y u) :
  KV (c.map λa=>if a.1=k then (a.1,y) else a) (d.map λa=>if a.1=k then (a.1,u) else a):=by
 induction r with
 |nil=>exact .nil
 | @cons p q j l h t g =>
  rw[ik,ik];refine .cons ?_ g;obtain⟨b,i⟩:=h;by_cases e:p.1=k
  ·rw[gI e,gI<|b.symm.trans e];exact#[b,f]
  ·rw[gl e,gl<|λz=>e<|b.trans z];exact#[b,i]
def KV.put(r:KV a b)(k:κ)(c:RelV y u):KV (putK a k y) (stored b k u):=by
 unfold putK stored;rw[r.any k];by_cases e:(b.any λd=>decide<|d.1=k)=true
 ·rw[gI e,gI e];exact r.WU k c
 ·rw[gl e,gl e];exact Paired.snoc r #[rfl,c]
def KV.drop(r:KV c g)(k:κ):KV (zZ c k) (without g k):=by
 unfold zZ without
 induction r with
 |nil=>exact .nil
 | @cons p q l m h t f =>
  obtain⟨d,i⟩:=h;rw[jo,jo];by_cases e:p.1=k
  ·have a:¬decide (p.1≠k)=true:=by simp[e]
   have b:¬decide (q.1≠k)=true:=by simp[d.symm.trans e]
   rw[gl a,gl b];exact f
  ·have j:¬q.1=k:=λz=>e<|d.trans z;have a:decide (p.1≠k)=true:=by simp[e]
   have b:decide (q.1≠k)=true:=by simp[j]
   rw[gI a,gI b];exact .cons #[d,i] f
def KV.length{xh:List (κ×V)}{vs:List (κ×cr)}(r:KV xh vs):xh.length=vs.length:=Paired.length r
def IE(a:List (κ×V))(k:κ):(zZ a k).length<=a.length:=hX _ _
end
def AU(r:RelV (kV k) u):(vz P w).is k u=true:=by
 cases k with
 |inl i=>obtain⟨t,e⟩:=(show ∃t,u=lE i t from r);subst e;exact Ik P w i t
 |inr x=>obtain⟨t,e⟩:=(show ∃t,u=Value.str x t from r);subst e;exact Il P w x t
def Nk:∀{a:List Key} {c:List cr},Vals (a.map kV) c->ItemsAre (vz P w) a c:=by
 intro d
 induction d with
 |nil=>intro _ r;rw[oM]at r;cases r;exact .nil
 |cons k a b =>
  intro _ r;rw[ik]at r
  cases r with
  |cons h t=>exact .cons (AU h)<|b t
abbrev KT(H:Hp):List (List Key×V)->List (List Key×ci×cr)->Prop:=Paired λp q=>p.1=q.1/\H q.2.1=↑(.tup<|p.1.map kV)/\RelV p.2 q.2.2
def KT.val(r:KT H a g)(k:List Key):zl (yp a k) ((sS g k).map (·.2)):=by
 induction r with
 |nil=>exact True.intro
 | @cons p q l c h t i =>
  refine e0a3 h λf _ j=>?_;by_cases e:p.1=k
  ·have d:q.1=k:=f.symm.trans e;have b:sS (q::c) k=↑q.2:=by simp[sS,iM,d]
   rw[y8 e,b];exact j
  ·have d:¬q.1=k:=λz=>e<|f.trans z;have b:sS (q::c) k=sS c k:=by simp[sS,iM,d]
   rw[y9 e,b];exact i
def KT.WU(r:KT H b f)(k:List Key)(g:RelV y u) :
  KT H (b.map λc=>if c.1=k then (c.1,y) else c) (f.map<|putAt k u):=by
 induction r with
 |nil=>exact .nil
 | @cons p q l m h t i =>
  rw[ik,ik];refine .cons ?_ i;refine e0a3 h λa d j=>?_;unfold putAt;by_cases e:p.1=k
  ·rw[gI e,gI<|a.symm.trans e];exact#[a,d,g]
  ·rw[gl e,gl<|λz=>e<|a.trans z];exact#[a,d,j]
def KT.put(r:KT H a c)(k:List Key)(f:H b=↑(.tup<|k.map kV))(d:RelV y u) :
  KT H (putK a k y) (storedH c k b u):=by
 have e:(a.any λg=>decide<|g.1=k)=(sS c k).isSome:=by rw[z8,(r.val k).yr,iG]
 unfold putK storedH;rw[e];by_cases q:(sS c k).isSome=true
 ·rw[gI q,gI q];exact r.WU k d
 ·rw[gl q,gl q];exact Paired.snoc r #[rfl,f,d]
def KT.keeps(r:KT H a d)(e:∀b c,H b=↑(.tup c)->f b=↑(.tup c)):KT f a d :=
 Paired.Wn r λ_ _ z=>#[z.1,e _ _ z.2.1,z.2.2]
def VO(b:xR P w H h)(e:Rd H a u):vY P w H h a u:=e.ok b
def Bw(d:xR P w H h)(e:Rd H a (.dK b)):b.length<=gL/\(a==kO)=false/\∃c,KV b c/\h.DictOf (vz P w) a c :=
 show vY P w H h a (.dK b) from VO d e
def Md(d:xR P w H h)(e:H a=↑(.dK b)):b.length<=gL/\(a==kO)=false/\∃c,KV b c/\h.DictOf (vz P w) a c:=Bw d<|.inl e
def Bc{b:List Key}(c:xR P w H h)(e:H a=↑(.tup<|b.map kV)):(oZ<|vz P w).is h b a:=by obtain⟨_,vh,r,o,d,f,n,g⟩:=(show vY P w H h a (.tup<|b.map kV) from c a _ e);exact#[o,vh.toArray,n,d,f,g,by simpa using Nk r]
def CQ(g:xR P w H h)(e:Rd H a (.dT b)):b.length<=gL/\(a==kO)=false /\
  ∃d,KT H b d/\h.DictOfH (oZ<|vz P w) a d:=by
 obtain⟨z,y,d,r,o,j,k,n,s,u,v,A⟩:=(show vY P w H h a (.dT b) from VO g e);refine#[z,y,d,r,o,j,k,n,s,u,v,λx c=>?_,A]
 have f:∀{l:List (List Key×V)} {m:List (List Key×ci×cr)},KT H l m->∀x∈m,(oZ<|vz P w).is h x.1 x.2.1:=by
  intro l m q
  induction q with
  |nil=>intro x c;exact nomatch c
  | @cons p q C D i t B =>
   intro x c;rcases List.mem_cons.mp c with e|c
   ·subst e;exact Bc g (by rw[<- i.1];exact i.2.1)
   ·exact B x c
 exact f r x c
def Zh(d:xR P w H h)(e:H a=↑(.dT b)):b.length<=gL/\(a==kO)=false /\
  ∃c,KT H b c/\h.DictOfH (oZ<|vz P w) a c:=CQ d<|.inl e
def yg(H:Hp)(a:ci)(y:V)(r:Option V):Prop :=
 (∃xh k,Rd H a (.dK xh)/\y=kV k/\r=yp xh k)\/∃xh k b,Rd H a (.dT xh)/\y=.ref b/\H b=↑(.tup<|k.map kV)/\r=yp xh k
def Gr(H:Hp)(a:ci)(y v:V)(H':Hp):Prop :=
 (∃xh k,H a=↑(.dK xh)/\y=kV k/\xh.length<gL/\H'=upd H a (.dK<|putK xh k v)) \/
 ∃xh k b,H a=↑(.dT xh)/\y=.ref b/\H b=↑(.tup<|k.map kV)/\xh.length<gL/\H'=upd H a (.dT<|putK xh k v)
def yg.k{H:Hp}{a:ci}{xh:List (Key×V)}{k:Key}(e:H a=↑(.dK xh)):yg H a (kV k) (yp xh k):=.inl #[xh,k,.inl e,rfl,rfl]
def Gr.k{H:Hp}{a:ci}{xh:List (Key×V)}{k:Key}{v:V}(e:H a=↑(.dK xh))(hl:xh.length<gL):Gr H a (kV k) v (upd H a<|.dK<|putK xh k v):=.inl #[xh,k,e,rfl,hl,rfl]
def Inv.big(I:Inv X a b H s):kO<⇑s:=by have h:g9<⇑s:=(I.mod.glob.keeps I.bk).lt;exact ny q0q h
def FP(B:A.units+1<jX)(I:Inv X i C H s)(g:yg H a y ↑v)(t:RelV y u)(h:∀f x,Inv X i C H x->RelV v f->Q f x) :
  gR 19 A (nY (.ref a) u) Q E s:=by
 rcases g with⟨j,k,e,m,l⟩|⟨j,k,b,e,m,eb,l⟩
 ·subst m;obtain⟨z,D,F,c,n⟩:=Bw I.vL e;obtain⟨f,q,d⟩:=zl.some_of (v:=v) (o:=qo F k) (by rw[l];exact c.val k);exact wpAny_getItem_of (AU t) n.mapOf q<|h f _ (I.tok _) d
 ·subst m;cases (show u=hO b from t);obtain⟨z,D,G,c,n⟩:=CQ I.vL e;obtain⟨f,q,d⟩:=zl.some_of (v:=v) (o:=(sS G k).map (·.2)) (by rw[l];exact c.val k);refine e1a2 (Option.map_eq_some_iff.mp q) λp J r=>?_;refine wpAny_getItem_heap (lm B) (Bc I.vL eb) n J ?_;rw[r];exact h f _ (I.tok _) d
def a1L(r:A.units+1<jX)(I:Inv X d t H s)(g:yg H a y o)(n:RelV y u)(h:∀p,Inv X d t H p->Q (.bool o.isSome) p) :
  gR 19 A (jj .In u<|.ref a) Q E s:=by
 rcases g with⟨f,k,e,i,l⟩|⟨f,k,b,e,i,eb,l⟩
 ·subst i;obtain⟨z,j,v,c,m⟩:=Bw I.vL e;refine wpAny_in_of (AU n) j m.mapOf ?_;rw[<- (c.val k).yr,<- l];exact h _<|I.tok _
 ·subst i;cases (show u=hO b from n);obtain⟨z,j,x,c,m⟩:=CQ I.vL e;refine wpAny_in_heap (lm r) (Bc I.vL eb) j m ?_;have q:=(c.val k).yr;rw[iG]at q;rw[<- q,<- l];exact h _<|I.tok _
def SS(r:A.units+1<jX)(I:Inv X d t H s)(g:yg H a y o)(n:RelV y u)(h:∀p,Inv X d t H p->Q (.bool<|!o.isSome) p) :
  gR 19 A (jj .NotIn u<|.ref a) Q E s:=by
 rcases g with⟨f,k,e,i,l⟩|⟨f,k,b,e,i,eb,l⟩
 ·subst i;obtain⟨z,j,v,c,m⟩:=Bw I.vL e;refine wpAny_notIn_of (AU n) j m.mapOf ?_;rw[<- (c.val k).yr,<- l];exact h _<|I.tok _
 ·subst i;cases (show u=hO b from n);obtain⟨z,j,x,c,m⟩:=CQ I.vL e;refine wpAny_notIn_heap (lm r) (Bc I.vL eb) j m ?_;have q:=(c.val k).yr;rw[iG]at q;rw[<- q,<- l];exact h _<|I.tok _
def Bx{h:Nat}(I:Inv X c i H s)(j:YU (H a))(k:iU a s.heap d)(l:∃q,d.get? a=↑q)(f:vY X.prog X.w (upd H a g) d a g) :
  Inv X c i (upd H a g) { s with heap:=d,toks:=h} :=
 I.write (x:=a) (e:=a) j (.inl rfl) (λb q m z=>(k.2 b m).trans z) l f
def DS{d:iJ}{b:List (Key×V)}(z:b.length<=gL)(f:(a==kO)=false)(c:KV b e)(g:d.DictOf (vz P w) a e) :
  vY P w h d a (.dK b):=#[z,f,e,c,g]
def FQ(M:A.units+1<jX)(I:Inv X j N H s)(g:Gr H a y v O)(D:RelV y u)(F:RelV v r)(h:∀G,Inv X j N O G->Q () G) :
  gR 19 A (sA (.ref a) u r) Q E s:=by
 rcases g with⟨d,k,e,n,l,o⟩|⟨d,k,b,e,n,eb,l,o⟩
 ·subst n o;obtain⟨z,p,P,f,t⟩:=Md I.vL e;have x:P.length<=gL:=by rw[<- f.length];exact z
  have B:(putK d k v).length<=gL:=by have:=Aa d k v;lia
  refine wpAny_setItem_pairs (hsz:=x) (AU D) t λJ i C=>h _ ?_;have R:∃q,J.get? a=↑q:=e3a2 i λq _ _ m _=> #[q,m];exact Bx I (by rw[e];exact True.intro) C R<|DS B p (f.put k F) i
 ·subst n o;cases (show u=hO b from D);obtain⟨z,p,S,f,t⟩:=Zh I.vL e;have x:S.length<=gL:=by rw[<- Paired.length f];exact z
  have B:(putK d k v).length<=gL:=by have:=Aa d k v;lia
  refine wpAny_setItem_heap (hsz:=x) (lm M) (Bc I.vL eb) t λJ i C=>h _ ?_;obtain⟨q,T,U,m,W,Y,Z,_,h5⟩:=i;refine Bx I (by rw[e];exact True.intro) C #[q,m] #[B,p,_,(f.put k eb F).keeps λc ys L=>?_,q,T,U,m,W,Y,Z,h5];rw[uR<|YT L e<|λz=>nomatch z];exact L
def Nl(I:Inv X d j H s)(e:H a=↑(.dK b))(m:RelV (kV k) u)(l:(yp b k).isSome=true)(h:∀i,Inv X d j (upd H a<|.dK<|zZ b k) i->Q () i) :
  gR 19 A (delItem (.ref a) u) Q E s:=by
 obtain⟨z,n,o,c,g⟩:=Md I.vL e
 refine wpAny_delItem_slot g.typeIs q0q qU
  (n8 qU g.typeIs PySem.F.entry_dict_delitem (PySem.F.args_dict_delitem_2 _ _) (meets_dict_delitem_pairs (vz X.prog X.w) a<|AU m) ⟨o,g,by rw[<- c.length];exact z,by rw[<- (c.val k).yr];exact l,λp f r=>h _ ?_⟩)
 have t:∃q,p.get? a=↑q:=e3a2 f λq _ _ v _=> #[q,v];exact Bx I (by rw[e];exact True.intro) r t<|DS (ij (IE b k) z) n (c.drop k) f
def Zi(I:Inv X d B H s)(e:H a=↑(.dK b))(j:RelV (kV k) u)(l:yp b k=↑v)(n:more=[]\/∃x,more=[x])
 (h:∀f p,Inv X d B (upd H a<|.dK<|zZ b k) p->RelV v f->Q f p):gR 19 A (call (.builtin "dict.pop") (.ref a::u::more)) Q E s:=by
  obtain⟨z,C,r,c,y⟩:=Md I.vL e
  obtain⟨f,D,m⟩:=zl.some_of (v:=v) (o:=qo r k) (by rw[<- l];exact c.val k)
  have G:(keyPart u).isSome=true:=by
    cases k with
    |inl i=>obtain⟨t,q⟩:=(show ∃t,u=lE i t from j);subst q;rfl
    |inr x=>obtain⟨t,q⟩:=(show ∃t,u=Value.str x t from j);subst q;rfl
  have J:rM "dict.pop" #[.ref a::u::more,[]]:=by
    rcases n with q|⟨x,q⟩
    · subst q; exact PySem.F.args_dict_pop_2 _ _
    · subst q; exact PySem.F.args_dict_pop_3 _ _ _
  refine n8 rV y.typeIs PySem.F.entry_dict_pop J (meets_dict_pop_there (vz X.prog X.w) a (AU j) more n G)
    #[r,f,y,by rw[<- c.length];exact z,D,λL g M=>h f _ ?_ m]
  have N:∃q,L.get? a=↑q:=e3a2 g λq _ _ O _=> #[q,O]
  exact Bx I (by rw[e];exact True.intro) M N<|DS (ij (IE b k) z) C (c.drop k) g
def Zj(I:Inv X b g H s)(e:Rd H a (.dK d))(h:∀t f,Inv X b g H f->Q (.int d.length t) f):gR 19 A (call (.builtin "len") [.ref a]) Q E s:=by obtain⟨z,i,k,c,j⟩:=Bw I.vL e;refine call_len_dict i j (by rw[<- c.length];rw[i8]at z;lia) ?_;rw[<- c.length];exact h _ _<|I.tok _
def O8(i:iA):Prop:=∀a b,rT i false a b=operate [a,b] (nY a b)
def SU{m:String} 
 (n:m8 (.type T) "__getitem__"=pure (some<|.builtin m)) (p:O8 slice)
 (h:gR (gU a w) A (eval value g) (λo d=>gR (gU a w) A (eval slice g) (λi b=>b.TypeIs o T/\gR (gU a w) A (nY o i) Q E b) E d) E s) :
    gR (gU a w) A (eval (.Subscript value slice pos) g) Q E s:=by
  refine sR<|iW h (λo d j=>iW j (λi b c=>?_) λ_ _ x=>x) λ_ _ x=>x
  obtain⟨l,c⟩:=c
  refine am ?_
  rw[getitemInPython_of_ne l.not_modules]
  refine am<|pM l n ?_
  have f:gR (gU a w) A (rT slice false o i) (λr e=>gR (gU a w) A (letTemporaryGo value o r >>= λ_=>pure r) Q E e) E b:=by
    rw[p o i]
    exact wpAny_operating<|iW c (λr e k=>am<|wpAny_letTemporaryGo<|ap k) λ_ _ x=>x
  first
    | exact ap<|am f
    | exact am<|ap<|am f
    | exact am f
def IF(I:Inv X f h H s)(g:yg H a y o):s.TypeIs (.ref a) "dict":=by
 rcases g with⟨c,k,e,_,_⟩|⟨c,k,b,e,_,_,_⟩
 ·obtain⟨_,_,i,_,d⟩:=Bw I.vL e;exact d.typeIs
 ·obtain⟨_,_,j,_,d⟩:=CQ I.vL e;exact d.typeIs
def Zk(d e:TE):TE:=λb H Q=>d b H λx f=>e b f λy c=>∃a v,x=.ref a/\yg c a y ↑v/\Q v c
def a1M(d e:TE):TE:=λb H Q=>d b H λy f=>e b f λx c=>∃a o,x=.ref a/\yg c a y o/\Q (.bl o.isSome) c
def SV(d e:TE):TE:=λb H Q=>d b H λy f=>e b f λx c=>∃a o,x=.ref a/\yg c a y o/\Q (.bl<|!o.isSome) c
def Zl(d e f:TE):TS:=λD b H=>f b H λv g=>d b g λx h=>e b h λy i=>∃a c,x=.ref a/\Gr i a y v c/\D.nx b c
def Zm(e f g:TE)(h:V->V->Hp->VK->Prop):TS:=λD b H=>e b H λx i=>f b i λy c=>∃a v,x=.ref a/\yg c a y ↑v /\
 g b c λj k=>h v j k λz l=>∃d,Gr l a y z d/\D.nx b d
def O9(e f:TE):TS:=λD c H=>e c H λx g=>f c g λy d=>∃a b k,x=.ref a/\d a=↑(.dK b)/\y=kV k/\(yp b k).isSome=true/\D.nx c (upd d a<|.dK<|zZ b k)
def Gu(k:X.A.units+1<jX)(l:PE X o m)(n:PE X i ty)(p:O8 i):PE X (.Subscript o i pos) (Zk m ty):=by intro b s f H Q I h;refine SU PySem.F.slot_dict_getitem.lookup p<|vG (l b s f H _ I h) λu q c=>e2a3 c λx H1 r t w=>vG (n b q f H1 _ r w) λE G c=>e2a3 c λy H2 j z d=>e2a3 d λa v B g C=>?_;subst B;obtain rfl:u=hO a:=t;exact#[IF j g,FP k j g z λJ L D e=>#[v,H2,D,e,C]]
def Pa(f:X.A.units+1<jX)(j:PE X i ty)(k:PE X o l):PC X .In i o (a1M ty l):=by intro b s e H Q I h;refine vG (j b s e H _ I h) λC m c=>e2a3 c λy H1 n p q=>vG (k b m e H1 _ n q) λu D c=>e2a3 c λx H2 r t d=>e2a3 d λa v w g z=>?_;subst w;obtain rfl:u=hO a:=t;exact a1L f r g p λE B=>#[.bl v.isSome,H2,B,rfl,z]
def Ci(f:X.A.units+1<jX)(j:PE X i ty)(k:PE X o l):PC X .NotIn i o (SV ty l):=by intro b s e H Q I h;refine vG (j b s e H _ I h) λC m c=>e2a3 c λy H1 n p q=>vG (k b m e H1 _ n q) λu D c=>e2a3 c λx H2 r t d=>e2a3 d λa v w g z=>?_;subst w;obtain rfl:u=hO a:=t;exact SS f r g p λE B=>#[.bl<|!v.isSome,H2,B,rfl,z]
def Gv(j:X.A.units+1<jX)(k:PE X o l)(m:PE X i ty)(n:PE X value p)(q:jx value (some<|.Subscript o i c) pos.line X.env=pure false) :
  PS X (.Assign [.Subscript o i c] value pos) (Zl l ty p):=by
 intro b s e H D I h;refine wpAny_Assign_Subscript (vG (n b s e H _ I h) λr t d=>e2a3 d λv H1 w z B=>vG (k b t e H1 _ w B) λu C d=>e2a3 d λx H2 E F G=>vG (m b C e H2 _ E G) λP Q d=>e2a3 d λy H3 J L f=>e2a3 f λa H4 M g N=>?_) q;subst M;obtain rfl:u=hO a:=F;exact FQ j J g L z λR O=>#[e,H4,O,N]
def SY(p:X.A.units+1<jX)(t:PE X o w)(B:PE X i ty)(C:PE X value E)(j:Zb X op F)
 (G:∀f d new,augStore i f d new=(do kF [new,f,d] (sA f d new);release [new,f,d] [];pure .next)):PS X (.AugAssign (.Subscript o i q) op value pos) (Zm w ty E F):=by
  intro b s e H D I h
  refine sj (vG (t b s e H _ I h) λu J c=>e2a3 c λx H1 L M N=>vG (B b J e H1 _ L N) λd s2 c=>e2a3 c λy H2 O r k=>e2a3 k λa v P g Q=>?_) G
  subst P
  obtain rfl:u=hO a:=M
  refine FP p O g r λR S T l=>vG (C b S e H2 _ T Q) λU W c=>e2a3 c λY H3 Z m q3=>vG (j b W e H3 v Y R U _ Z l m q3) λw3 s5 c=>e2a3 c λz H4 I5 rz n=>e1a2 n λH5 g5 q4=>?_
  exact FQ p I5 g5 r rz λs6 I6=>#[e,H5,I6,q4]
def Gw(j:PE X o m)(n:PE X i ty):PS X (.Delete [.Subscript o i g] pos) (O9 m ty):=by intro b s d H D I h;refine wpAny_Delete<|wpAny_deleteEach_cons<|wpAny_delete_Subscript<|vG (j b s d H _ I h) λu p f=>e2a3 f λx H1 q r t=>vG (n b p d H1 _ q t) λF G f=>e2a3 f λy H2 v w c=>e3a5 c λa z k A e B l C=>?_;subst A B;obtain rfl:u=hO a:=r;exact Nl v e w l λJ E=>wpAny_deleteEach_nil #[d,_,E,C]
def IG(h:iJ)(a:kO<h.objs.size):vY P w H (h.push { cls:=.type "dict",data:=.dict #v[]}) h.objs.size (.dK []) :=
 #[iN _,beq_eq_false_iff_ne.mpr<|Ne.symm<|gZ a,[],.nil,sG h]
def DT:TE:=λ_ H Q=>∀p,H p=none->Q (.ref p) (upd H p<|.dK [])
def Ab:PE X (.Dict [] [] pos) DT:=λb s c H Q I h =>
 wpAny_Dict_empty #[.ref ⇑s,_,I.laid (a:=⇑s) (o:=.dK []) (t':=s.toks) (λ_ _ q=>ce _ q) (gK _)<|IG s.heap I.big,rfl,h _<|I.vL.fresh<|gK _]
def Kc:List (TE×TE)->St->Hp->(List (V×V)->Hp->Prop)->Prop
 | [],_,H,Q=>Q [] H
 | (tk,tv)::r,σ,H,Q=>tk σ H λx H1=>tv σ H1 λy H2=>Kc r σ H2 λps H3=>Q ((x,y)::ps) H3
abbrev VV:List (V×V)->List (cr×cr)->Prop:=Paired λp q=>RelV p.1 q.1/\RelV p.2 q.2
def PPs(X:Cx)(d:Pos)(c:List (Option iA))(a:List iA)(e:List (TE×TE)):Prop :=
 ∀(b:List (ci×Obj)) (s:gN) (f:St) (H:Hp) (Q:List (V×V)->Hp->Prop),Inv X b f H s->Kc e f H Q ->
  gR 19 X.A (evalPairs<|pairTrees c a X.env d) (λi j=>∃g h,Inv X b f h j/\VV g i/\Q g h) X.xe s
def S6:PPs X pos [] [] []:=λa s b H Q I h=>pairTrees_nil_walk #[[],H,I,.nil,h]
def Pb(e:PE X k f)(g:PE X v i)(j:PPs X pos l m c) :
  PPs X pos (↑k::l) (v::m) ((f,i)::c):=λa s d H Q I h =>
 pairTrees_cons_walk (vG (e a s d H _ I h) λu n b=>e2a3 b λx H1 o p q=>vG (g a n d H1 _ o q) λD r b=>e2a3 b λy H2 t w z =>
  vG (j a r d H2 _ t z) λE F b=>e2a3 b λA H3 B rel C=>#[(x,y)::A,H3,B,.cons #[p,w] rel,C])
noncomputable def DU(b a:List (Key×V)):List (Key×V):=a.foldl (λc d=>putK c d.1 d.2) b
def KV.merge:∀{a:List (Key×V)} {d:List (Key×cr)} {b:List (Key×V)} {c:List (Key×cr)},KV a d->KV b c->KV (DU b a) (merged c d):=by
 intro a d b c r
 induction r generalizing b c with
 |nil=>intro q;exact q
 | @cons p q i j h t f =>
  intro g
  have e:KV (putK b p.1 p.2) (stored c q.1 q.2):=by have:=g.put p.1 h.2;rw[<- h.1];exact this
  exact f e
def AV:∀(b a:List (Key×V)),(DU a b).length<=a.length+b.length
 | [],a=>by show a.length<=a.length+0;lia
 |p::r,a=>by have c:=AV r<|putK a p.1 p.2;have d:=Aa a p.1 p.2;show (DU (putK a p.1 p.2) r).length<=_;rw[hZ];lia
def Kd:∀{d:List (Key×V)} {g:List (cr×cr)},VV (d.map λi=>(kV i.1,i.2)) g->∃e,Carries (vz P w) g e/\KV d e:=by
 intro j
 induction j with
 |nil=>intro _ r;rw[oM]at r;cases r;exact#[[],True.intro,.nil]
 |cons p d f =>
  intro _ r;rw[ik]at r
  cases r with
  | @cons a b as bs h t =>
   refine e1a2 (f t) λe c q=>?_;obtain⟨l,k⟩:=b;exact#[(p.1,k)::e,#[AU h.1,rfl,c],.cons #[rfl,h.2] q]
def Zn(b:List (TE×TE)):TE:=λe H Q=>∀p,H p=none->Kc b e (upd H p<|.dK []) λf c=>c p=↑(.dK [])/\∃a:List (Key×V),f=a.map (λd=>(kV d.1,d.2))/\a.length<=15/\Q (.ref p) (upd c p<|.dK<|DU [] a)
def S7(h:PPs X pos keys values i)(b:keys.all (·.isSome)=true)(n:keys.length=values.length)(p:keys≠[])
 (j:keys.length<=15):PE X (.Dict keys values pos) (Zn i):=by
  intro d s r H Q I q
  have t:=I.vL.fresh<|gK ⇑s
  have u:=I.laid (a:=⇑s) (o:=.dK []) (h':=s.heap.push { cls:=.type "dict",data:=.dict #v[]}) (t':=s.toks) (λ_ _ q=>ce _ q) (gK _)<|IG s.heap I.big
  refine wpAny_Dict_walk (knd:=vz X.prog X.w) b n p j<|vG (h d _ r _ _ u<|q _ t) λR S v=>e2a4 v λT U m k e l=>e1a3 l λf x lk y=>?_
  subst x
  refine e1a2 (Kd (P:=X.prog) (w:=X.w) k) λA c B=>?_
  obtain⟨z,C,D,E,F⟩:=Md m.vL e
  cases E
  refine#[A,c,F,λG g J=>#[.ref ⇑s,_,?_,rfl,y]]
  have L:(DU [] f).length<=gL:=by
    have M:=AV f []
    rw[mZ]at M
    rw[i8];lia
  have N:∃q,G.get? ⇑s=↑q:=e3a2 g λq _ _ O _=> #[q,O]
  exact Bx m (by rw[e];exact True.intro) J N<|DS L C (B.merge .nil) g
structure M1(X:Cx)(o:iA)(m:Str)(apos:Pos)(e:iA)(cpos:Pos):Prop where
 base:iD o m X.env (eval o X.env)=eval o X.env
 few:((ja cpos (gJ [e] X.env)).all (λx=>!x.1)&&(mq cpos (kA [] X.env)).all (λx=>x.1.isSome)
  && decide (([e]:List iA).length+([]:List pH).length+(if ([]:List pH).isEmpty then 0 else 1)<30))=true
 line:(apos.endLine==cpos.line)=true
 trees:ja cpos (gJ [e] X.env)=[57]
structure M2(X:Cx)(o:iA)(m:Str)(apos:Pos)(e f:iA)(cpos:Pos):Prop where
 base:iD o m X.env (eval o X.env)=eval o X.env
 few:((ja cpos (gJ [e,f] X.env)).all (λx=>!x.1)&&(mq cpos (kA [] X.env)).all (λx=>x.1.isSome)
  && decide (([e,f]:List iA).length+([]:List pH).length+(if ([]:List pH).isEmpty then 0 else 1)<30))=true
 line:(apos.endLine==cpos.line)=true
 trees:ja cpos (gJ [e,f] X.env)=[57,(false,eval f X.env)]
def IsD(H:Hp)(a:ci):Prop:=(∃b,Rd H a<|.dK b)\/∃b,Rd H a<|.dT b
def Kf(I:Inv X k l H s)(d:IsD H a) :
  s.TypeIs (.ref a) "dict"/\(∀b,hO a=.ref b->∃c,s.heap.get? b=↑c/\c.dict=none)/\(a==kO)=false:=by
 rcases d with⟨g,e⟩|⟨g,e⟩
 ·obtain⟨_,h,m,_,f⟩:=Bw I.vL e;refine#[f.typeIs,λb q=>?_,h];cases q;obtain⟨c,_,_,i,j,_⟩:=f;exact#[c,i,j.2.1]
 ·obtain⟨_,h,n,_,f⟩:=CQ I.vL e;refine#[f.typeIs,λb q=>?_,h];cases q;obtain⟨c,_,_,i,j,_⟩:=f;exact#[c,i,j.2.1]
def WV(r:A.units+1<jX)(I:Inv X d t H s)(g:yg H a y o)(n:RelV y u)(h:∀p q,Inv X d t H q->RelV (o.getD .wq) p->Q p q) :
  gR 19 A (call (.builtin "dict.get") [.ref a,u]) Q E s:=by
 rcases g with⟨i,k,e,j,l⟩|⟨i,k,b,e,j,eb,l⟩
 ·subst j;obtain⟨z,m,x,c,f⟩:=Bw I.vL e;refine n8 kh f.typeIs mi (rB _ _) (meets_dict_get (vz X.prog X.w) a (AU n) m) #[_,f.mapOf,h _ _ (I.tok _) ?_];rw[l];exact(c.val k).getD rfl
 ·subst j;cases (show u=hO b from n);obtain⟨z,m,v,c,f⟩:=CQ I.vL e;refine n8 kh f.typeIs mi (rB _ _) (meetsH_dict_get (oZ<|vz X.prog X.w) a b m) #[lm r,k,v,Bc I.vL eb,f,h _ _ (I.tok _) ?_];rw[l];exact(c.val k).getD rfl
def WX(x:A.units+1<jX)(I:Inv X f B H s)(g:yg H a y o)(p:RelV y u)(q:RelV d r)(h:∀t v,Inv X f B H v->RelV (o.getD d) t->Q t v) :
  gR 19 A (call (.builtin "dict.get") [.ref a,u,r]) Q E s:=by
 rcases g with⟨j,k,e,m,l⟩|⟨j,k,b,e,m,eb,l⟩
 ·subst m;obtain⟨z,n,D,c,i⟩:=Bw I.vL e;refine n8 kh i.typeIs mi (rC _ _ _) (meets_dict_get_default (vz X.prog X.w) a (AU p) n r) #[_,i.mapOf,h _ _ (I.tok _) ?_];rw[l];exact(c.val k).getD q
 ·subst m;cases (show u=hO b from p);obtain⟨z,n,C,c,i⟩:=CQ I.vL e;refine n8 kh i.typeIs mi (rC _ _ _) (meetsH_dict_get_default (oZ<|vz X.prog X.w) a b n r) #[lm x,k,C,Bc I.vL eb,i,h _ _ (I.tok _) ?_];rw[l];exact(c.val k).getD q
def WY(e f:TE):TE:=λb H Q=>e b H λx c=>∃a,x=.ref a/\IsD c a/\f b c λy d=>∃o,yg d a y o/\Q (o.getD .wq) d
def WZ(e f g:TE):TE:=λb H Q=>e b H λx c=>∃a,x=.ref a/\IsD c a/\f b c λy h=>g b h λz d=>∃o,yg d a y o/\Q (o.getD z) d
def W0(f g:TE):TE:=λc H Q=>f c H λx d=>∃a,x=.ref a/\IsD d a/\g c d λy e=>∃b k v,e a=↑(.dK b)/\y=kV k/\yp b k=↑v/\Q v (upd e a<|.dK<|zZ b k)
def Pc(p:X.A.units+1<jX)(q:PE X o r)(t:PE X e ty)(m:M1 X o "get" apos e c):PE X (.Call (.Attribute o "get" apos) [e] [] c) (WY r ty):=by intro b s l H Q I h;refine rc m.base m.few m.line n9 kh rW<|vG (q b s l H _ I h) λu v f=>e2a3 f λx H1 n w i=>e1a3 i λa z d B=>?_;subst z;obtain rfl:u=hO a:=w;refine e0a3 (Kf n d) λC D _=>?_;refine#[C,D,?_];rw[m.trees];refine j0 rfl<|js<|jQ<|vG (t b v l H1 _ n B) λM N f=>e2a3 f λy H2 E G j=>e1a2 j λO g J=>kZ ?_;exact WV p E g G λP R L k=>#[_,H2,L,k,J]
def Pd(q:X.A.units+1<jX)(r:PE X o t)(v:PE X e ty)(w:PE X f B)(m:M2 X o "get" apos e f c):PE X (.Call (.Attribute o "get" apos) [e,f] [] c) (WZ t ty B):=by
 intro b s j H Q I h;refine rc m.base m.few m.line n9 kh rW<|vG (r b s j H _ I h) λu C i=>e2a3 i λx H1 p D k=>e1a3 k λa E d G=>?_;subst E;obtain rfl:u=hO a:=D;refine e0a3 (Kf p d) λJ L _=>?_;refine#[J,L,?_];rw[m.trees]
 refine j0 rfl (js (jQ (vG (v b C j H1 _ p G) λW M i=>e2a3 i λy H2 N O P =>
  jQ (vG (w b M j H2 _ N P) λY Z i=>e2a3 i λz H3 R S l=>e1a2 l λov g T=>kZ ?_))))
 exact WX q R g O S λw' s4 U n=>#[_,H3,U,n,T]
def Pe(q:PE X o r)(t:PE X e ty)(m:M1 X o "pop" apos e c):PE X (.Call (.Attribute o "pop" apos) [e] [] c) (W0 r ty):=by intro b s n H Q I h;refine rc m.base m.few m.line n9 rV PySem.F.type_dict_pop<|vG (q b s n H _ I h) λu w g=>e2a3 g λx H1 p z i=>e1a3 i λa A d B=>?_;subst A;obtain rfl:u=hO a:=z;refine e0a3 (Kf p d) λC D _=>?_;refine#[C,D,?_];rw[m.trees];refine j0 rfl<|js<|jQ<|vG (t b w n H1 _ p B) λP R g=>e2a3 g λy H2 E G f=>e3a4 f λJ k v L M l N=>kZ ?_;subst M;exact Zi E L G l (.inl rfl) λS T O j=>#[v,_,O,j,N]
end L2
namespace Att
open PySem PySem.W PySem.Calls PyProof.Rows
def C8:∀(c:List Int)(d:List cr),WellAll P h d (c.map WData.int)->kR d c:=by
 intro c
 induction c with
 |nil =>
  intro d w;rw[oM]at w;cases w;exact .nil
 |cons n c e =>
  intro d w;rw[ik]at w
  cases w with
  |cons a b =>
   cases a;exact .cons _ _<|e _ b
def Nm{l:qz}{n:Nat}(o:l.most=↑n) 
 (b:l.row.toRowW.claim.pre args=true) (j:WellAll P h vals args) :
    ∃a m c,vals=[hO a]/\args=[WData.list<|c.map WData.int]/\h.get? a=some { cls:=.type "list",data:=.seq m.toArray}/\kR m c/\c.length<=n:=by
  have k:WShape.hasAll [] args [.list .int]=true:=(pre_splitW b).1
  have p:l.pre.holds [] { args:=args}=true:=(pre_splitW b).2
  obtain⟨d,r,rfl,s,t⟩:=hasAllW_cons k
  obtain rfl:=hasAllW_nil t
  obtain⟨y,rfl,u⟩:=hasW_list s
  obtain⟨c,rfl⟩:=items_int u
  have e:c.length<=n:=by
    have g:(WTm.not<|.lt (.lit<|.int (n:Int))<|.len<|.arg 0).holds [] { args:=[.list<|c.map .int]}=true:=by
      have g:=(holds_andW p).1
      rw[o]at g
      exact g
    have i:=condW_of g<|w_not<|w_lt w_lit<|w_len_list<|w_arg rfl
    rw[gM]at i
    refine qM λq=>?_
    first
      | (rw[decide_eq_true z]at i;exact g8 i q0q)
      | (simp at i;omega)
  cases j with
  |cons v w =>
    cases w
    cases v with
    |list x f=>exact#[_,_,c,rfl,rfl,x,C8 c _ f,e]
def Nn(l:qz)(args:List WData):l.row.toRowW.claim.post args (.bool true) args=true :=
 postW_of (r:=l.row.toRowW) (X:=(true==true))
  (show WShape.has [] (.bool true) .bool=true by first|rfl|decide|simp[WShape.has,WShape.arms,WShape.armsAll])
  (show (WTm.eq .res<|.lit<|.bool true).value [] { args:=args,res:=some<|.bool true,after:=args}=some (.bool<|true==true) from w_eq_bool (w_res rfl) w_lit) rfl
def IH{l:qz}{n:Nat}{XP:(Str->Option cr)->iJ->Prop}{d:DefRec}
 (E:l.most=↑n) (x:d.params.defaults=[])
 (call:∀(w:iO)(c b:gN)(s y:Str->Option cr)(j:ci)(o:Obj)(pm t e:cr)(a:ci)(i:List cr)(u:List Int),
 Ground q g [] XP w c s y b.heap->F w b.heap ->
 b.heap.get? j=↑o->o.data=.func (docDef d.name d.params d.body d.scope pm t e)->b.heap.CodeRec t d.name->s d.name=↑(.ref j) ->
 b.heap.get? a=some { cls:=.type "list",data:=.seq i.toArray}->kR i u->u.length<=n->b.gens=#v[] ->
 mz (gU l.prog w) rf (.call (.ref j) #[[.ref a],[]]) (λr v=>r=.ok (.ret (.bool true))/\OldK b.heap v.heap/\v.os=b.os/\ni v.gens) b) :
    uL q g XP F l.row.toRowW d [] (λf i=>tS f i):=by
  intro w c b s y G Y j o pm t e H kV I hd z C A J args vals as k D L B M
  obtain rfl:H=.none:=Dflts.none C x
  obtain rfl:kV=.none:=Dflts.noKw C
  obtain⟨a,i,u,rfl,rfl,m,h,p⟩:=Nm E k B
  refine enter_call<|jN (call w c b s y j o pm t e a i u G Y I (fd_plain hd) z A m h p J) λr v N=>?_
  obtain⟨rfl,O,P,Q⟩:=N
  exact#[.inl #[.bool true,.bool true,[],rfl,λ_=>rfl,.bool true,Nn l _,λ_=>#[iw,λ_ R=>(nomatch R)]],O,P,Q]
end Att
namespace L2
open PySem PySem.Spec PyProof.Rows
def FR:∀{a:List cr} {b:List Int},kR a b->Vals (b.map V.int) a:=by
 intro _ _ z
 induction z with
 |nil=>exact .nil
 |cons n t h c=>exact .cons #[t,rfl] c
noncomputable def vV(s:ic):Arguments:=match s with
 | .FunctionDef _ a _ _ _ _ _ _ _ _=>a
 |_=>{ posonlyargs:=[],args:=[],vararg:=none,kwonlyargs:=[],kw_defaults:=[],kwarg:=none,defaults:=[]}
noncomputable def vA(s:ic):List ic:=match s with
 | .FunctionDef _ _ b _ _ _ _ _ _ _=>b
 |_=>[]
noncomputable def uQ(s:ic):lV:=match s with
 | .FunctionDef _ _ _ _ _ _ sc _ _ _=>sc
 |_=>{ kind:=.function,names:=[],isGenerator:=false,isCoroutine:=false}
abbrev Pf:OS:=λ_ _ _ _ _ _=>False
abbrev E0:XK:=λ_ _ _=>False
structure yX(K:gH)(x qual:Str)(st:ic)(f:ci)(fd:iE):Prop where
 ex:∃(oc:cr)(od:Option ci)(kV doc pm:cr)(an:Option ci)(Pg ct:cr) (No:Array (Option cr)),
  fd=jv x qual (vV st) (vA st) (uQ st) .none kV doc pm an Pg ct/\K.lookup f=some #[oc,od,.func fd,No]/\jm K Pg qual=true
 kp:jb K (.ref f)=true
section
variable{P:iu}{w:iO}{K:gH}{mg:Str->Option cr}{base:iJ}
def yX.ok{g:ic}{k:Nat}(F:yX K x c g f o)(S:uZ N m (uQ g))(i:∀d H Q E,n d H Q E->d.length=m.length)
 (e:∀(b:cr)(A:jq)(a:List Env)(s:gN)(H:Hp)(d:List V)(Q:VK)(E:XK),wg k (A.deeper (oC c (uQ g) ⇑s f b))->n d H Q E ->
 ∃t,Fb (vO Pf P w K mg base N c (uQ g) f b A a s H E).nox (vA g) t/\t { nx:=λ_ p=>Q .wq p,rt:=Q} (start N d) H):vB P w K mg base Pf (k+1) f o m n:=by
  obtain⟨y,z,B,r,C,D,b,G,u,rfl,lk,j⟩:=F.ex
  refine IB lk j S i λA a s H d Q E v l=>?_
  refine e1a2 (e b A a s H d Q E v l) λt h q=>?_
  exact#[t,h.nox,q]
def yX.binds{d:ic}{ps:List Str}(F:yX K x c d f l)
 (h:∀(e a g:cr)(i:Option ci)(b j:cr)(k:List cr),k.length=ps.length->sO (jv x c (vV d) (vA d) (uQ d) .none e a g i b j) #[k,[]]=pure (ps.zip k)):Binds K l ps []:=by
  obtain⟨o,p,e,a,g,i,b,j,m,rfl,lk,n⟩:=F.ex
  exact .all<|h e a g i b j
def DV{st:ic}{e:cr}(l:K.lookup f=some #[j,m,.func<|jv x a (vV st) (vA st) (uQ st) .none e d pm h b i,g])
 (c:jm K b a=true)(k:jb K (.ref f)=true):yX K x a st f (jv x a (vV st) (vA st) (uQ st) .none e d pm h b i):=#[#[j,m,e,d,pm,h,b,i,g,rfl,l,c],k]
end
def Np{n:Nat}(h:n<=1000):n<gL:=nO h q0q
def pv(i:Nat)(b:X.N[i]?=↑x:=by rfl)(c:Vis X.env.scope x:=by first|exact kg rfl|exact pN (kg rfl)|exact pN<|pN rfl)(d:(x==55)=false:=by decide)
 (a:(x==("__classdict__":Str))=false:=by decide):PE X 97 (vw i):=JQ b c d a
def Nq:yz X (.builtin "len") (λc H Q=>∃a b,c=[V.ref a]/\H a=↑(.dK b)/\Q (.int b.length) H):=by intro d s i H c j Q I r h;obtain⟨a,b,rfl,e,q⟩:=h;obtain⟨u,rfl,f⟩:=vals1 r;cases f;exact Zj I (.inl e) λt k g=>#[.int b.length,H,g,#[t,rfl],q]
def a1N{A B:Prop}(h:A):if true=true then A else B:=by rw[gI rfl];exact h
def S8{c A B:Prop}[Decidable c](a:c->A)(b:¬c->B):if c then A else B:=by
 by_cases h:c
 ·rw[gI h];exact a h
 ·rw[gl h];exact b h
def C9(H a:Hp):Prop:=∀b o,H b=↑o->a b=↑o
def C9.trans{d e:Hp}(a:C9 H d)(b:C9 d e):C9 H e:=λc o h=>b c o<|a c o h
def C9.free(e:C9 H a)(h:a l=Option.none):H l=Option.none:=by
 cases q:H l with
 |none=>rfl
 |some o =>
  rw[e l o q]at h;cases h
def C9.seq{K:gH}(e:C9 H b)(h:v6 K H a c):v6 K b a c:=by
 rcases h with(h|⟨o,h⟩)|h
 ·exact .inl<|.inl<|e _ _ h
 ·exact .inl<|.inr #[o,e _ _ h]
 ·exact .inr h
end L2
namespace SX
open PySem
def zO(a:Array Nat):Prop:=a.toList.Pairwise (· < ·)
def Dm(r:zO c){i j a b:Nat}(d:c.toList[i]?=↑a)(e:c.toList[j]?=↑b)(h:i<j):a<b:=by obtain⟨f,g⟩:=List.getElem?_eq_some_iff.mp d;obtain⟨k,l⟩:=List.getElem?_eq_some_iff.mp e;have:=List.pairwise_iff_getElem.mp r i j f k h;rw[g,l]at this;exact this
def S9(f:Array Nat)(j:Nat)(r:zO f):∀(b d c:Nat),d<=c->c<=f.size->c-d<=b ->
  (∀i a,i<d->f.toList[i]?=↑a->a<j)->(∀i a,c<=i->f.toList[i]?=↑a->j<=a) ->
  mP f j b d c<=f.size/\(∀i a,i<mP f j b d c->f.toList[i]?=↑a->a<j) /\
   (∀i a,mP f j b d c<=i->f.toList[i]?=↑a->j<=a):=by
 intro b
 induction b with
 |zero =>
  intro d c t k u l m;have e:d=c:=by omega
  subst e;exact#[k,l,m]
 |succ b s =>
  intro d c t k u l m;unfold mP;by_cases h:d<c
  ·rw[gI h];have n:(d+c) / 2<f.size:=by omega
   have g:f.toList[(d+c) / 2]?=↑(f.getD ((d+c) / 2) j):=by rw[iF,k8];rw[jk n];rfl
   by_cases o:f.getD ((d+c) / 2) j<j
   ·rw[gI o];refine s _ _ q0d k q0d (λi a p e=>?_) m;by_cases q:i=(d+c) / 2
    ·subst q;rw[g]at e;cases e;exact o
    ·have:=Dm r e g q0d;omega
   ·rw[gl o];refine s _ _ q0d q0d q0d l<|λi a p e=>?_;by_cases q:i=(d+c) / 2
    ·subst q;rw[g]at e;cases e;omega
    ·have:=Dm r g e q0d;omega
  ·rw[gl h];have e:d=c:=by omega
   subst e;exact#[k,l,m]
def zq(r:zO b)(j:Nat):hI b j<=b.size/\(∀i a,i<hI b j->b.toList[i]?=↑a->a<j) /\
  (∀i a,hI b j<=i->b.toList[i]?=↑a->j<=a):=by
 refine S9 b j r b.size 0 b.size (iN _) (gK _) q0a (λi a h=>by lia)<|λi a h e=>?_;have:=(List.getElem?_eq_some_iff.mp e).1;rw[gQ]at this
 lia
def below_at(r:zO b){i j:Nat}(h:b.toList[i]?=↑j):hI b j=i:=by
 obtain⟨f,c,d⟩:=zq r j;rcases uI (hI b j) i with q|q|q
 ·cases e:b.toList[hI b j]? with
  |none =>
   have:=List.getElem?_eq_none_iff.mp e;have:=(List.getElem?_eq_some_iff.mp h).1
   lia
  |some a =>
   have:=Dm r e h q;have:=d _ a (gK _) e
   lia
 ·exact q
 ·have:=c i j q h
  lia
def Kg(r:zO b){i j:Nat}(h:b.toList[i]?=↑j):hI b (j+1)=i+1:=by
 obtain⟨f,c,d⟩:=zq r<|j+1;rcases uI (hI b<|j+1) (i+1) with q|q|q
 ·have:=d i j q0a h
  lia
 ·exact q
 ·cases e:b.toList[i+1]? with
  |none =>
   have:=List.getElem?_eq_none_iff.mp e;rw[gQ]at this
   lia
  |some a =>
   have:=Dm r h e q0a;have:=c (i+1) a q e
   lia
def Ki(r:zO b):hI b 0=0:=by
 obtain⟨f,d,g⟩:=zq r 0
 cases e:hI b 0 with
 |zero=>rfl
 |succ k =>
  cases c:b.toList[0]? with
  |none =>
   have:=List.getElem?_eq_none_iff.mp c;rw[gQ]at this
   lia
  |some a =>
   have:=d 0 a q0a c
   lia
def toList_erase(a:Array b)(p:Nat):(iV a p).toList=a.toList.take p++a.toList.drop (p+1):=by unfold iV;rw[pI,mQ,mQ];simp[jl]
def DW(a:Array b)(p:Nat)(x:b):(i9 a p x).toList=a.toList.take p++x::a.toList.drop p:=by unfold i9;rw[pI,qd,mQ,mQ];simp[jl]
def Kj(r:zO a)(p:Nat):zO (iV a p):=by
 unfold zO;rw[toList_erase];refine qF ?_ r
 conv=>rhs;rw[<- sT p a.toList]
 exact List.Sublist.append (List.Sublist.refl _)<|List.drop_sublist_drop_left _<|lG p
def Ph(r:zO c){j:Nat}(f:j∉c.toList):zO (i9 c (hI c j) j):=by
 obtain⟨t,g,h⟩:=zq r j;unfold zO;rw[DW];have k:(c.toList.take (hI c j)++c.toList.drop (hI c j)).Pairwise (· < ·):=by rw[sT];exact r
 obtain⟨l,m,n⟩:=List.pairwise_append.mp k
 have o:∀a∈c.toList.take (hI c j),a<j:=λa d=>by
  obtain⟨i,e⟩:=lx d;rw[t7]at e;split at e
  ·exact g i a (by assumption) e
  ·cases e
 have p:∀a∈c.toList.drop (hI c j),j<a:=λa d=>by
  obtain⟨i,e⟩:=lx d;rw[t9]at e;have:=h _ a (oF _ i) e;have:j≠a:=λq=>f (by rw[q];exact List.mem_of_mem_drop d)
  lia
 refine List.pairwise_append.mpr #[l,List.pairwise_cons.mpr #[p,m],λa d b s=>?_];rcases List.mem_cons.mp s with q|q
 ·rw[q];exact o a d
 ·exact n a d b q
def Nr{t:jC}(r:zO t.place){j:Nat}(h:∀i,t.slot j≠.live i):j∉t.place.toList:=λa=>by obtain⟨i,e⟩:=lx a;have b:=below_at r e;refine h (hI t.place j) ?_;unfold qV;rw[gI];rw[b,<- iF,e];simp
def Kk{t:jC}{h:Int}:∀(b:Nat)(p:k9),(∀d,p.dummy=↑d->∀i,t.slot d≠.live i) ->
  ∀j c,jD t o h b p=↑(.empty j c)->∀i,t.slot (c.getD j)≠.live i:=by
 intro b
 induction b with
 |zero=>intro p _ j c e;cases e
 |succ b f =>
  intro p g j c e;unfold jD at e
  cases q:t.slot p.j with
  |empty =>
   rw[q]at e;injection e with e;injection e with l m;subst l m
   cases n:p.dummy with
   |none=>intro i z;rw[qm,q]at z;cases z
   |some d=>exact g d n
  |dummy =>
   rw[q]at e;refine f _ (λd a i z=>?_) j c e
   have:d=p.j:=by
    unfold lu at a;split at a
    ·injection a with a;exact a.symm
    ·injection a with a;exact a.symm
   rw[this,q]at z;cases z
  |live k =>
   rw[q]at e;dsimp only at e;split at e
   ·cases e
   ·refine f _ (λd a=>?_) j c e
    have:p.dummy=↑d:=by unfold lu at a;split at a<;>exact a
    exact g d this
set_option tactic.hygienic true in
def II{t:jC}{h:Int}{j:Nat}{b:Bool}(r:zO t.place)(e:t.freeSlot h=↑(j,b)):j∉t.place.toList:=by
 refine Nr r ?_;unfold pO qG at e;split at e
 ·rename_i a c f
  injection e with e;injection e with g i;subst g;exact Kk _ _ (λd q=>by cases q) a c f
 ·cases e
def Cj{c k l:Nat}{d i:Bool}(e:nI c k l d i m=↑(t,n)) :
  zO t.place/\t.led=d/\t.plain=i/\t.mask=c/\t.dummies=#v[]/\t.place.size=n.size:=by
 unfold nI at e
 cases q:pP c m with
 |none=>rw[q]at e;cases e
 |some j =>
  rw[q]at e;injection e with e;injection e with o p;subst o p;refine#[?_,rfl,rfl,rfl,rfl,q0o];unfold zO;rw[uc];rw[List.pairwise_filterMap];refine oT ?_ sH;intro a b f x r y s
  have g:x=a:=by revert r;cases (j.getD a none)<;>simp;intro z;exact z.symm
  have h:y=b:=by revert s;cases (j.getD b none)<;>simp;intro z;exact z.symm
  subst g h;exact f
noncomputable def Ox(m i:Nat):Nat:=(i*5+1)%(m+1)
noncomputable def Pk(m:Nat):Nat->Nat->Nat
 | 0,i=>i
 |n+1,i=>Pk m n<|Ox m i
noncomputable def orb(m:Nat):Nat->Nat->List Nat
 | 0,_=>[]
 |n+1,i=>i::orb m n (Ox m i)
def Gx(m a b i:Nat):Pk m (a+b) i=Pk m b (Pk m a i):=by
 induction a generalizing i with
 |zero=>rw[sU];rfl
 |succ a c=>rw[Nat.succ_add];exact c _
def Ta(m:Nat):∀(n i k:Nat),k∈orb m n i->∃a,a<n/\Pk m a i=k:=by
 intro n
 induction n with
 |zero=>intro i k h;cases h
 |succ n b =>
  intro i k h;rcases List.mem_cons.mp h with q|q
  ·exact#[0,q0a,q.symm]
  ·obtain⟨a,c,e⟩:=b _ _ q;exact#[a+1,q0a,e]
noncomputable def Gy(m:Nat):Bool:=Pk m (m+1) 0==0&&(h8<|m+1).all λk=>(orb m (m+1) 0).contains k
def FS{m:Nat}(h:Gy m=true):∀i k,i<=m->k<=m->∃n,n<=m/\Pk m n i=k:=by
 obtain⟨d,j⟩:=Bool.and_eq_true_iff.mp h;have d:Pk m (m+1) 0=0:=by simpa using d
 have c:∀k,k<=m->∃a,a<m+1/\Pk m a 0=k:=λk e=>by have:=List.all_eq_true.mp j k<|List.mem_range.mpr q0d;exact Ta m _ _ _ (by simpa using this)
 intro i k l e;obtain⟨a,p,f⟩:=c i l;obtain⟨b,q,g⟩:=c k e;by_cases o:a<=b
 ·refine#[b-a,q0d,?_];rw[<- f,<- Gx,show a+(b-a)=b by omega,g]
 ·refine#[m+1-a+b,q0d,?_];rw[<- f,<- Gx,show a+(m+1-a+b)=(m+1)+b by omega,Gx,d,g]
def FT{m i:Nat}(h:i<=m):i5 m i<=m/\i<=i5 m i:=by unfold i5;split<;>lia
set_option tactic.hygienic true in
def Tb{m:Nat}:∀(a i p:Nat),i<=m->∀j,iY m c a i p=↑j->j<=m/\c.getD j ↑0=none:=by
 intro a
 induction a with
 |zero=>intro i p _ j e;cases e
 |succ a d =>
  intro i p f j e;unfold iY at e;split at e
  ·rename_i k b
   injection e with e;subst e;have g:=List.find?_some b;have h:=List.mem_range.mp<|List.mem_of_find?_eq_some b;have:=FT f;refine#[q0d,?_];simpa[Option.isNone_iff_eq_none] using g
  ·dsimp only at e;refine d _ _ ?_ j e;have:=nP (i*5+1+p / 32)<|mE m;exact jW this
set_option tactic.hygienic true in
def Kl{m:Nat}{b:Array (Option Nat)}{k:Nat}(d:b.getD k ↑0=none):∀(n a i:Nat),i<=m->n<a->Pk m n i=k->∃j,iY m b a i 0=↑j:=by
 intro n
 induction n with
 |zero =>
  intro a i c g e;obtain⟨a,rfl⟩:∃f,a=f+1:=#[a-1,q0a];have e:i=k:=e;subst e;unfold iY;split
  ·exact#[_,rfl]
  ·rename_i q
   have:=List.find?_eq_none.mp q 0<|List.mem_range.mpr (by have:=(FT c).2;lia);rw[Nat.add_zero,d]at this;exact g8 rfl this
 |succ n h =>
  intro a i c g e;obtain⟨a,rfl⟩:∃f,a=f+1:=#[a-1,q0a];unfold iY;split
  ·exact#[_,rfl]
  ·dsimp only
   have l:jZ m i 0=(Ox m i,0):=by unfold jZ Ox;simp
   rw[l];exact h a (Ox m i) (jW<|nP _<|mE m) q0a e
def Nt{m:Nat}{h:Array (Option Nat)}(l:Gy m=true){k:Nat}(d:k<=m)(o:h.getD k ↑0=none):∀(c a i p:Nat),i<=m->p<32 ^ c->c+m+1<=a->∃j,iY m h a i p=↑j:=by
 intro c
 induction c with
 |zero =>
  intro a i p g b q;have:p=0:=by rw[Nat.pow_zero]at b;lia
  subst this;obtain⟨n,s,e⟩:=FS l i k g d;exact Kl o n a i g q0a e
 |succ c r =>
  intro a i p g b q;obtain⟨a,rfl⟩:∃f,a=f+1:=#[a-1,q0a];unfold iY;split
  ·exact#[_,rfl]
  ·dsimp only;refine r a _ (p / 32) (jW<|nP _<|mE m) ?_ q0a;rw[Nat.pow_succ]at b;exact tT (by rw[Nat.mul_comm];exact b)
def Pl(x:Nat):∀(l:List (Option Nat)) (j:Nat),l[j]?=↑none->((l.set j<|↑x).filterMap id).Perm (x::l.filterMap id):=by
 intro l
 induction l with
 |nil=>intro j h;simp at h
 |cons a l b =>
  intro j h
  cases j with
  |zero =>
   have:a=none:=by simpa using h
   subst this;simp
  |succ j =>
   have c:l[j]?=↑none:=by simpa using h
   cases a with
   |none=>simpa using b j c
   |some y =>
    have:=b j c;exact(oG y this).trans<|List.Perm.swap x y _
def has_none:∀(l:List (Option Nat)),(l.filterMap id).length<l.length->∃j:Nat,l[j]?=↑none:=by
 intro l
 induction l with
 |nil=>intro h;simp at h
 |cons a l b =>
  intro h
  cases a with
  |none=>exact#[0,rfl]
  |some y =>
   obtain⟨j,e⟩:=b (by simpa using h);exact#[j+1,by simpa using e]
def Me(h:Int):jd h<32 ^ 13:=by
 have a:(h%(2 ^ 64:Int)).toNat<2 ^ 64:=by lia
 exact hR a q0q
def Pm{m:Nat}(w:Gy m=true):∀(c:List Int) (a:Array (Option Nat)) (k:Nat),a.size=m+1->(a.toList.filterMap id).Perm (h8 k)->k+c.length<=m ->
  ∃b,(c.foldl (init:=↑(a,k)) λi h=>do
   let (owner,k) <- i
   let j <- iY m owner (kG m) (jd h%(m+1)) (jd h)
   pure (owner.setIfInBounds j ↑k,k+1))=↑(b,k+c.length)/\b.size=m+1/\(b.toList.filterMap id).Perm (h8 (k+c.length)):=by
 intro c
 induction c with
 |nil=>intro a k d g r;exact#[a,rfl,d,g]
 |cons h c x =>
  intro a k d g r
  have e:(a.toList.filterMap id).length<a.toList.length:=by
   rw[g.length_eq,lp,gQ,d]
   lia
  obtain⟨s,t⟩:=has_none _ e
  have l:s<m+1:=by have:=(List.getElem?_eq_some_iff.mp t).1;rw[gQ,d]at this;exact this
  have n:a.getD s ↑0=none:=by rw[k8,<- iF,t];rfl
  have u:jd h%(m+1)<=m:=jW<|nP _<|mE m;obtain⟨j,v⟩:=Nt w (jW l) n 13 (kG m) (jd h%(m+1)) (jd h) u (Me h) (by unfold kG;lia);obtain⟨y,f⟩:=Tb _ _ _ u j v
  have o:a.toList[j]?=↑none:=by
   rw[k8]at f;rw[iF]
   cases q:a[j]? with
   |none=>rw[q]at f;cases f
   |some z=>rw[q]at f;have p:z=none:=f;rw[p]
  obtain⟨b,A,B,C⟩:=x (a.setIfInBounds j ↑k) (k+1) (by rw[Array.size_setIfInBounds];exact d) (by
   rw[Array.toList_setIfInBounds];refine(Pl k _ _ o).trans<|(oG k g).trans ?_;rw[List.range_succ]
   exact(mH (l₁:=[k]) (l₂:=h8 k))) (by simp at r;lia)
  refine#[b,?_,B,?_]
  ·rw[List.foldl_cons]
   have:(do
     let (owner,k) <- some (a,k)
     let j <- iY m owner (kG m) (jd h%(m+1)) (jd h)
     pure (owner.setIfInBounds j ↑k,k+1))=↑(a.setIfInBounds j (some k),k+1):=by
    show (iY m a (kG m) (jd h%(m+1))<|jd h).bind _=_;rw[v];rfl
   rw[this,A];simp only[hZ];congr 2
   lia
  ·rw[hZ,show k+(c.length+1)=k+1+c.length by lia];exact C
def Nu(l:List (Option Nat)):(h8 l.length).map (λj=>l.getD j none)=l:=by
 apply qp;intro i;by_cases h:i<l.length
 ·simp[jg,h]
 ·rw[List.getElem?_eq_none_iff.mpr (by simpa using qM h),List.getElem?_eq_none_iff.mpr<|qM h]
def Ck{m fg mv:Nat}{led pl:Bool}{hs:Array Int}(c:Gy m=true)(d:hs.size<=m):∃t b,nI m fg mv led pl hs=↑(t,b)/\b.toList.Perm (h8 hs.size):=by
 obtain⟨a,e,s,p⟩:=Pm c hs.toList (Array.replicate (m+1) none) 0 q0o q0o (by simpa using d)
 have f:pP m hs=↑a:=by unfold pP;rw[<- Array.foldl_toList];exact congrArg (tJ Prod.fst) e
 refine#[_,_,by unfold nI;rw[f];rfl,?_];rw[uc]
 have q:(h8<|m+1).filterMap (λj=>tJ (λx:Nat×Nat=>x.2)<|tJ (λx=>(j,x))<|a.getD j none)=a.toList.filterMap id:=by
  conv=>rhs;rw[<- Nu a.toList]
  rw[t6,gQ,s];congr 1
  funext j
  simp only[uA,id,Option.map_map];rw[k8,jg,iF];cases (a[j]?.getD none)<;>rfl
 refine List.Perm.trans (tK q) ?_;simpa using p
def picked{es:Array (Int×cr)}{a:Array Nat}(h:a.toList.Perm (h8 es.size)):(a.filterMap (es[·]?)).toList.Perm es.toList:=by
 rw[Array.toList_filterMap];refine(List.Perm.filterMap _ h).trans<|tK ?_;apply qp;intro i
 have:(h8 es.size).filterMap (λx=>es[x]?)=es.toList:=by
  have e:(h8 es.size).filterMap (λx=>es[x]?)=(h8 es.toList.length).filterMap (λx=>es.toList[x]?):=by simp
  rw[e];exact List.filterMap_getElem?_range_length es.toList
 rw[this]
def a1P:Gy 7=true:=by decide +kernel
def Zo:Gy 15=true:=by decide +kernel
def Zp:Gy 31=true:=by decide +kernel
def Zq:Gy 63=true:=by decide +kernel
def W2:Gy 127=true:=by decide +kernel
def W3:Gy 255=true:=by decide +kernel
def W4:Gy 511=true:=by decide +kernel
def Sq(t:jC)(h:Int)(a:Nat)(p:k9):Prop:=∃j d,jD t (λ_=>h+1) h a p=↑(.empty j d)
noncomputable def begin_(m i a:Nat)(b:Option Nat):k9:={ j:=i,more:=i5 m i-i,i:=i,perturb:=a,dummy:=b}
def Mg{h:Int}:∀(k a:Nat)(p:k9),p.more=k->(∀b,Sq t h a<|begin_ t.mask (jZ t.mask p.i p.perturb).1 (jZ t.mask p.i p.perturb).2 b)->Sq t h (a+k+1) p:=by
 intro k
 induction k with
 |zero =>
  intro a p g d
  have c:∀b,t.advance { p with dummy:=b}=begin_ t.mask (jZ t.mask p.i p.perturb).1 (jZ t.mask p.i p.perturb).2 b:=λb=>by unfold lu;rw[gl<|by show ¬p.more>0;lia];rfl
  unfold Sq jD
  cases q:t.slot p.j with
  |empty=>exact#[_,_,rfl]
  |dummy=>dsimp only;rw[c];exact d _
  |live i =>
   dsimp only;rw[gl<|by simp;lia];have:=c p.dummy;have e:({ p with dummy:=p.dummy}:k9)=p:=rfl;rw[e]at this;rw[this];exact d _
 |succ k l =>
  intro a p g d
  have f:∀b,Sq t h (a+k+1) (t.advance { p with dummy:=b}):=λb=>by
   have e:t.advance { p with dummy:=b}={ p with j:=p.j+1,more:=p.more-1,dummy:=b}:=by unfold lu;rw[gI<|by show p.more>0;lia]
   rw[e];exact l a _ (by show p.more-1=k;lia) d
  unfold Sq jD
  cases q:t.slot p.j with
  |empty=>exact#[_,_,rfl]
  |dummy=>exact f _
  |live i =>
   dsimp only;rw[gl<|by simp;lia];exact f p.dummy
def Tc{t:jC}{h:Int}{p:k9}(e:t.slot p.j=.empty)(a:Nat):Sq t h (a+1) p:=by unfold Sq jD;rw[e];exact#[_,_,rfl]
def Mh(m i:Nat):i5 m i-i<=9:=by unfold i5;split<;>lia
def a1Q{t:jC}{h:Int}{k:Nat}(d:t.slot k=.empty):∀(n i a:Nat),Pk t.mask n i=k->10*(n+1)<=a->∀c,Sq t h a (begin_ t.mask i 0 c):=by
 intro n
 induction n with
 |zero =>
  intro i a e g c;obtain⟨f,rfl⟩:∃f,a=f+1:=#[a-1,q0a];subst e;exact Tc d f
 |succ n j =>
  intro i a e g c;have m:=Mh t.mask i
  have z:=Mg (t:=t) (h:=h) (i5 t.mask i-i) (a-(i5 t.mask i-i)-1) (begin_ t.mask i 0 c) rfl (λb=>by
   have l:jZ t.mask i 0=(Ox t.mask i,0):=by unfold jZ Ox;simp
   show Sq t h _ (begin_ t.mask (jZ t.mask i 0).1 (jZ t.mask i 0).2 b);rw[l]
   exact j (Ox t.mask i) _ e q0a b)
  rw[show a-(i5 t.mask i-i)-1+(i5 t.mask i-i)+1=a by lia]at z;exact z
def a1R{t:jC}{h:Int}{k:Nat}(m:Gy t.mask=true)(g:k<=t.mask)(o:t.slot k=.empty):∀(c i b a:Nat),i<=t.mask->b<32 ^ c->10*(c+t.mask+1)<=a->∀d,Sq t h a (begin_ t.mask i b d):=by
 intro c
 induction c with
 |zero =>
  intro i b a l f p d;have:b=0:=by rw[Nat.pow_zero]at f;lia
  subst this;obtain⟨n,r,e⟩:=FS m i k l g;exact a1Q o n i a e q0a d
 |succ c q =>
  intro i b a l f p d;have s:=Mh t.mask i
  have z:=Mg (t:=t) (h:=h) (i5 t.mask i-i) (a-(i5 t.mask i-i)-1) (begin_ t.mask i b d) rfl (λj=>by
   refine q _ _ _ (jW<|nP _<|mE _) ?_ q0a j;rw[Nat.pow_succ]at f
   exact tT (by rw[Nat.mul_comm];exact f))
  rw[show a-(i5 t.mask i-i)-1+(i5 t.mask i-i)+1=a by lia]at z;exact z
def za[DecidableEq d]:∀(l m:List d),l.Nodup->(∀x∈l,x∈m)->l.length<=m.length:=by
 intro l
 induction l with
 |nil=>intro m _ _;exact iN _
 |cons x r e =>
  intro m f b;obtain⟨g,h⟩:=List.nodup_cons.mp f;have a:=b x gO;have i:=e (m.erase x) h λy c=>(List.mem_erase_of_ne<|λ(z:y=x)=>g<|by rw[<- z];exact c).mpr<|b y<|gS _ c;rw[List.length_erase_of_mem a]at i;have:0<m.length:=List.length_pos_of_mem a;rw[hZ];omega
def IJ(l:List Nat)(m:Nat)(h:l.length<=m):∃j,j<=m/\j∉l:=by
 refine m9 λb=>?_;have a:∀j,j<=m->j∈l:=λj c=>m9 λq=>b #[j,c,q];have:=za (h8<|m+1) l List.nodup_range λx d=>a x<|jW<|List.mem_range.mp d;rw[lp]at this
 lia
def Km{t:jC}{n:Nat}(e:t.fits n=true):∃j,j<=t.mask/\t.slot j=.empty:=by
 have c:t.place.size+t.dummies.size<=t.mask:=by simp only[uB,iq,ie]at e;exact e.2
 obtain⟨j,f,d⟩:=IJ (t.place.toList++t.dummies.toList) t.mask (by simpa using c);refine#[j,f,?_];rw[l6,qe]at d
 have b:∀(a:Array Nat),j∉a.toList->(a[hI a j]?==↑j)=false:=λa g=>by
  cases q:a[hI a j]? with
  |none=>rfl
  |some x =>
   have h:x∈a.toList:=by rw[<- iF]at q;exact ju q
   have:x≠j:=λz=>g<|z▸h;simp[this]
 unfold qV;dsimp only;rw[b _ d.1];unfold kB;rw[b _ d.2];rfl
def Fj{t:jC}{n:Nat}(c:Gy t.mask=true)(f:t.fits n=true)(h:Int):∃j b,t.freeSlot h=↑(j,b):=by obtain⟨k,a,g⟩:=Km f;obtain⟨j,d,e⟩:=a1R (h:=h) c a g 13 (jd h%(t.mask+1)) (jd h) (10*kG t.mask) (jW<|nP _<|mE _) (Me h) (by unfold kG;lia) none;refine⟨d.getD j,d.isSome,?_⟩;unfold pO qG SetTable.probeStart;have l:jD t (λ_=>h+1) h (10*kG t.mask) { j:=jd h%(t.mask+1),more:=i5 t.mask (jd h%(t.mask+1))-jd h%(t.mask+1),i:=jd h%(t.mask+1),perturb:=jd h,dummy:=none}=↑(.empty j d):=e;rw[l]
def IK{t:jC}{h:Int}:∀(b:Nat)(p:k9),(∀d,p.dummy=↑d->kB t.dummies d=true) ->
  ∀j d,jD t l h b p=↑(.empty j<|some d)->kB t.dummies d=true:=by
 intro b
 induction b with
 |zero=>intro p _ j d e;cases e
 |succ b f =>
  intro p g j d e;unfold jD at e
  cases q:t.slot p.j with
  |empty =>
   rw[q]at e;injection e with e;injection e with m i;exact g d i
  |dummy =>
   rw[q]at e;refine f _ (λc a=>?_) j d e
   have:c=p.j:=by
    unfold lu at a;split at a
    ·injection a with a;exact a.symm
    ·injection a with a;exact a.symm
   rw[this];unfold qV at q;dsimp only at q;split at q
   ·cases q
   ·split at q
    ·assumption
    ·cases q
  |live k =>
   rw[q]at e;dsimp only at e;split at e
   ·cases e
   ·refine f _ (λc a=>?_) j d e
    have:p.dummy=↑c:=by unfold lu at a;split at a<;>exact a
    exact g c this
set_option tactic.hygienic true in
def DX{t:jC}{h:Int}{j:Nat}(e:t.freeSlot h=↑(j,true)):kB t.dummies j=true:=by
 unfold pO qG at e;split at e
 ·rename_i a b c
  injection e with e;injection e with f g
  cases b with
  |none=>cases g
  |some d =>
   subst f;exact IK _ _ (λd q=>by cases q) a d c
 ·cases e
def Pn{j:Nat}(h:kB a j=true):hI a j<a.size:=by
 unfold kB at h;have b:a[hI a j]?=↑j:=by simpa using h
 exact(Array.getElem?_eq_some_iff.mp b).1
def Be(a:Array b)(p:Nat)(h:p<a.size):(iV a p).size=a.size-1:=by
 rw[<- gQ,toList_erase,gW,lJ,mJ,gQ]
 lia
def zb(a:Array b)(p:Nat)(x:b):(i9 a p x).size=a.size+1:=by rw[<- gQ,DW,gW,hZ,lJ,mJ,gQ];omega
def xS{t:jC}{n:Nat}:t.fits n=true↔t.place.size=n/\t.place.size+t.dummies.size<=t.mask:=by unfold uB kQ;simp
def Good(m:Nat):Prop:=m=7\/m=15\/m=31\/m=63\/m=127\/m=255\/m=511
def Good.Gy{m:Nat}(h:Good m):Gy m=true:=by
 rcases h with q|q|q|q|q|q|q<;>rw[q]
 ·exact a1P
 ·exact Zo
 ·exact Zp
 ·exact Zq
 ·exact W2
 ·exact W3
 ·exact W4
def DY{n:Nat}(h:n<=511):Good (iK n-1)/\n<iK n:=by
 have q:((h8 512).all λn=>[8,16,32,64,128,256,512].contains (iK n)&&decide (n<iK n))=true:=by decide +kernel
 have q:=List.all_eq_true.mp q n<|List.mem_range.mpr q0a;obtain⟨q1,q2⟩:=Bool.and_eq_true_iff.mp q;refine#[?_,by simpa using q2];have q1:iK n=8\/iK n=16\/iK n=32\/iK n=64\/iK n=128\/iK n=256\/iK n=512:=by simpa using q1
 rcases q1 with e|e|e|e|e|e|e<;>rw[e]<;>unfold Good<;>decide
structure Zr(t:jC)(n:Nat):Prop where
 fits:t.fits n=true
 rise:zO t.place
 plain:t.plain=true
 good:Good t.mask
 room:t.fill*5<t.mask*3
set_option tactic.hygienic true in
def Td{t:jC}{c:Array (Int×cr)}{h:Int}{x:cr}(k:Zr t c.size)(q:c.size<=126) :
  ∃d g,layNew t c h x=(i9 c (hI t.place ((t.freeSlot h).getD (0,false)).1) (h,x),d,g,false)/\d.led=t.led/\d.plain=true/\d.fits (c.size+1)=true/\zO d.place/\Good d.mask/\(g=true->d.fill*5<d.mask*3):=by
 obtain⟨j,b,e⟩:=Fj k.good.Gy k.fits h;obtain⟨n,r⟩:=xS.mp k.fits;have f:=k.room;unfold kQ at f
 have l:(86).size<=t.dummies.size/\(b=true->(86).size+1<=t.dummies.size):=by
  split
  ·rename_i i
   rw[Be _ _<|Pn i];have:=Pn i;exact⟨q0a,λ_=>by lia⟩
  ·rename_i i
   refine#[gK _,λm=>?_];subst m;exact g8 (DX e) i
 have a:(t.put j).1.fits (c.size+1)=true:=by
  refine xS.mpr #[?_,?_]
  ·show (i9 t.place (hI t.place j) j).size=_;rw[zb,n]
  ·show (i9 t.place (hI t.place j) j).size+(86).size<=t.mask;rw[zb]
   lia
 refine#[(t.put j).1,b,?_,rfl,k.plain,a,Ph k.rise<|II k.rise e,k.good,λm=>?_]
 ·unfold layNew;rw[e];dsimp only;have o:(t.put j).2=hI t.place j:=rfl;have p:(i9 c (hI t.place j) (h,x)).size=c.size+1:=zb _ _ _;rw[o,p];unfold SetTable.orStandIn;rw[gI a,a];rfl
 ·have:=l.2 m;show ((i9 t.place (hI t.place j) j).size+(86).size)*5<t.mask*3;rw[zb]
  lia
def Nv{t:jC}{es:Array (Int×cr)}(v:1<=es.size)(h:es.size<=127)(m:t.plain=true):∃a c,sV t es (md es.size)=(a,c,false)/\a.toList.Perm es.toList/\Zr c a.size/\c.led=t.led:=by
 have o:md es.size=es.size*4:=by unfold md;rw[gl q0a]
 obtain⟨j,w⟩:=DY (n:=es.size*4) q0a;obtain⟨c,f,e,p⟩:=Ck (fg:=t.finger) (mv:=t.movedTo<|iK (es.size*4)-1) (led:=t.led) (pl:=t.plain) (hs:=es.map (·.1)) j.Gy (by rw[mr];lia);obtain⟨q,r,s,g,k,i⟩:=Cj e;rw[mr]at p;have l:=picked p;have u:(f.filterMap (es[·]?)).size=es.size:=by rw[<- gQ,l.length_eq,gQ]
 have b:f.size=es.size:=by rw[<- gQ,p.length_eq,lp]
 have d:c.fits (f.filterMap (es[·]?)).size=true:=by
  refine xS.mpr #[by rw[i,u,b],?_];rw[i,k,b,g];show es.size+0<=_
  lia
 refine#[f.filterMap (es[·]?),c,?_,l,#[d,q,s.trans m,by rw[g];exact j,?_],r]
 ·unfold sV;rw[o];unfold SetTable.relaid;rw[e];dsimp only;rw[gI];rw[d,Bool.and_true];exact List.isPerm_iff.mpr p
 ·unfold kQ;rw[i,k,b,g];show (es.size+0)*5<_
  lia
open PyProof.Rows
def yI(e:Int×cr)(k:Int):Prop:=e.1=ng k/\∃t,e.2=lE k t
noncomputable abbrev xk(a:Array (Int×cr))(b:Nat)(t:jC):Obj:={ cls:=.type "set",dict:=none,data:=.set a b t,slots:=#v[]}
structure VP(w:iO)(es:Array (Int×cr))(t:jC)(ks:List Int):Prop where
 ent:Paired yI es.toList ks
 nd:ks.Nodup
 small:es.size<=127
 tab:Zr t es.size
 led:w.params.followText "set-order"=true\/t.led=true
def zr{n:Nat}(h:n<=127):n<scanBound:=by have e:scanBound=4096:=rfl;rw[e];lia
def yA{n:Nat}(h:n<=127):n<=gL:=fits_of_scanBound<|zr h
def vR(w:iO)(a:ci)(c:List Int)(h:iJ):Prop:=∃b d t,h.get? a=↑(xk b d t)/\VP w b t c
def xT{k n:Type}{F:k->n->Prop}{l o:List k}(p:l.Perm o):∀{m:List n},Paired F l m->∃e,m.Perm e/\Paired F o e:=by
 induction p with
 |nil=>intro m h;exact#[m,.refl _,h]
 |cons x _ q =>
  intro m h
  cases h with
  |cons a b =>
   refine e1a2 (q b) λe f g=>?_;exact#[_,.cons _ f,.cons a g]
 |swap x y l =>
  intro m h
  cases h with
  |cons a b =>
   cases b with
   |cons c d=>exact#[_,.swap _ _ _,.cons c<|.cons a d]
 |trans _ _ i j =>
  intro m h;refine e1a2 (i h) λu f g=>?_;refine e1a2 (j g) λr s t=>?_;exact#[r,f.trans s,t]
def Gz:∀{g:List (Int×cr)} {h:List Int},Paired yI g h->∀k,(k∈h↔∃e∈g,mK k e.2=true):=by
 intro o p l
 induction l with
 |nil=>intro k;simp
 | @cons e j _ _ m r b =>
  intro k;have n:=b k;obtain⟨_,t,c⟩:=m
  have i:mK k e.2=true↔k=j:=by rw[c];simp[mK];exact eq_comm
  rw[im,n];constructor
  ·rintro(z|⟨d,f,a⟩)
   ·exact#[e,gO,i.mpr z]
   ·exact#[d,gS _ f,a]
  ·rintro⟨d,f,a⟩;rcases List.mem_cons.mp f with z|z
   ·rw[z]at a;exact .inl<|i.mp a
   ·exact .inr #[d,z,a]
def Cn{a:iu}{w:iO}:∀{d:List (Int×cr)} {g:List Int},Paired yI d g->ElemsOf (kj a w) d:=by
 intro l m h
 induction h with
 |nil=>exact λe b=>by cases b
 | @cons x j _ _ i r c =>
  intro e b;rcases List.mem_cons.mp b with z|z
  ·subst z;obtain⟨k,t,f⟩:=i;refine#[#[j,?_,k],?_]
   ·rw[f];exact pJ _ _ _ _
   ·rw[f];rfl
  ·exact c e z
def Mi(h:Paired yI a b):a.length=b.length:=Paired.length h
def VP.size{w:iO}{a:Array (Int×cr)}{t:jC}{b:List Int}(h:VP w a t b):a.size=b.length:=by rw[<- gQ];exact Mi h.ent
def vR.nodup(x:vR w a b h):b.Nodup:=by refine e3a2 x λc d t e k=>?_;exact k.nd
def vR.of{b:iu}{w:iO}{a:ci}{c:List Int}{h:iJ}(x:vR w a c h):h.SetOf (kj b w) a (λk=>decide<|k∈c) c.length:=by refine e3a2 x λd f t e k=>?_;exact#[_,d,f,t,e,#[rfl,rfl,rfl],rfl,Cn k.ent,λj=>by rw[ie];exact Gz k.ent j,zr k.small,k.tab.fits,k.size]
def vR.keep{b:iJ}(x:vR w a c h)(k:∀o,h.get? a=↑o->b.get? a=↑o):vR w a c b:=by refine e3a2 x λd f t e r=>?_;exact#[d,f,t,k _ e,r]
def vR.lt(x:vR w a b h):a<h.objs.size:=by refine e3a2 x λc d t e r=>?_;exact gP e
def vR.typeIs{w:iO}{a:ci}{b:List Int}{s:gN}(x:vR w a b s.heap):s.TypeIs (.ref a) "set":=by refine e3a2 x λc d t e r=>?_;exact#[_,e,rfl]
def Te{h:iJ}{a:ci}{f b:Array (Int×cr)}{d:Nat}{t c:jC}(e:h.get? a=↑(xk f d t)):(h.update a<|Obj.putSet b c).get? a=↑(xk b (d+1) c):=by have z:=iL (Obj.putSet b c) e (by rw[putSet_of b c rfl];rfl);rw[putSet_of b c rfl]at z;exact z
def AF{i b:Array (Int×cr)}{d:Nat}{t f:jC}{Q:Unit->gN->Prop}(e:s.heap.get? a=↑(xk i d t))(j:b.size<=gL)
  (h:∀c,iU a s.heap c->c.get? a=↑(xk b (d+1) f)->Q () { s with heap:=c}):gR (gU g w) A (sW a b f) Q E s :=
 wpAny_storeSet_of e rfl (h _ (oy ..)<|Te e) j
set_option tactic.hygienic true in
def VQ{k:Int}{u:Tok}{Q:Bool->gN->Prop}(S:vR w a i s.heap)(room:i.length+1<=127)
  (h:∀l C,iU a s.heap l->vR w a C l->C.Perm (if k∈i then i else k::i)->Q (!decide (k∈i)) { s with heap:=l}) :
  gR (gU b w) A (setAddHashed a (.int k u)<|ng k) Q E s:=by
 refine e3a2 S λm ep t e K=>?_;have el:ElemsOf (kj b w) m.toList:=Cn K.ent;have hk:(kj b w).is k (.int k u)=true:=pJ _ _ _ _;have D:(kj b w).hash k=ng k:=rfl;refine iz<|am<|iZ e rfl K.tab.fits ?_;dsimp only;rw[byScan_of (knd:=kj b w) rfl (zr K.small) el,gI rfl];refine am<|am<|lW<|am ?_;rw[<- D];refine wpAny_setScan_of (knd:=kj b w) hk e rfl K.tab.fits el ?_;have F:=Gz K.ent k
 cases hr:rX (λe=>(kj b w).is k e.2) m.toList with
 |some j =>
  refine e1a2 (List.findIdx?_eq_some_iff_getElem.mp hr) λhj hp _=>?_;have G:k∈i:=F.mpr #[_,uJ hj,hp];have z:=h s.heap i (lR a s.heap) #[m,ep,t,e,K] (by rw[gI G]);rw[decide_eq_true G]at z;exact ap<|ap z
 |none =>
  have f:k∉i:=λq=>by refine e1a2 (F.mp q) λx hx P=>?_;have:=List.findIdx?_eq_none_iff.mp hr x hx;rw[show (kj b w).is k x.2=true from P]at this;cases this
  have R:m.size<=126:=by rw[K.size];lia
  obtain⟨o,H,le,ll,I,lf,lr,lg,ld⟩:=Td (h:=ng k) (x:=.int k u) K.tab R;have J:=layNew_perm t m (ng k)<|.int k u;rw[D];rw[le]at J ⊢;generalize i9 m (hI t.place ((t.freeSlot<|ng k).getD (0,false)).1) (ng k,lE k u)=c at J ⊢;rw[qd]at J;have p1:Paired yI ((ng k,lE k u)::m.toList) (k::i):=.cons ⟨rfl,u,rfl⟩ K.ent;refine e1a2 (xT (J.trans mH).symm p1) λT pk pe=>?_;have U:c.size=m.size+1:=by rw[<- gQ,J.length_eq];simp
  rw[<- U]at lf;have p:c.size<=127:=by lia
  have W:T.Nodup:=pk.nodup_iff.mp<|List.nodup_cons.mpr #[f,K.nd];have g:c.size<=gL:=yA p
  -- ab the end wants,for any ud of X entries
  have L:∀(l:iJ) (d:Array (Int×cr)) (v:Nat) (B:jC),iU a s.heap l->l.get? a=↑(xk d v B)->d.toList.Perm c.toList->Zr B d.size->B.led=t.led->Q true { s with heap:=l}:=by
   intro l d v B sb Y pp f2 l2;refine e1a2 (xT pp.symm pe) λZ q1 q2=>?_;have hs:d.size=c.size:=by rw[<- gQ,pp.length_eq,gQ]
   have z:=h l Z sb #[d,v,B,Y,q2,q1.nodup_iff.mp W,by rw[hs];exact p,f2,by rw[l2];exact K.led] (by rw[gl f];exact q1.symm.trans pk.symm);rw[ig f]at z;exact z
  refine am<|ap ?_
  have n:gR (gU b w) A (do
    sW a c o
    if (!H&&o.tooFull)=true then do
      (match (sV o c<|md c.size).2.2 with|true=>rule "set.scan.the-table-gave-way" |false=>pure ())
      sW a (sV o c<|md c.size).1 (sV o c<|md c.size).2.1
      pure ↑true
     else pure ↑true) (λr M=>gR (gU b w) A (match r with|some y=>pure y|none=>setAddHashedIn a (.int k u) (ng k) 99999) Q E M) E s:=by
   refine am<|AF e g λh1 N o1=>?_;split
   ·refine e2a4 (Nv (t:=o) (es:=c) q0a p I) λd B re rp rt rl=>?_;rw[re];refine am<|ap<|am<|AF (s:={ s with heap:=h1}) o1 ?_ λh2 aa Y=>ap<|ap<|L h2 _ _ _ (N.trans aa) Y rp rt<|rl.trans ll;have:d.size=c.size:=by rw[<- gQ,rp.length_eq,gQ]
    rw[this];exact g
   ·rename_i O
    refine ap<|ap<|L h1 _ _ _ N o1 (.refl _) #[lf,lr,I,lg,?_] ll
    cases H with
    |true=>exact ld rfl
    |false =>
     have:o.tooFull=false:=by simpa using O
     unfold SetTable.tooFull at this;simpa using this
  split
  ·rw[hashByValue_scannable 8 rfl];exact am<|ap n
  ·exact am<|ap n
def VR{k:Int}(S:vR w a c s.heap)(room:c.length+1<=127)
 (h:∀d b f,iU a s.heap d->vR w a b d->b.Perm (if k∈c then c else k::c)->s.toks<=f->Q (!decide (k∈c)) { s with heap:=d,toks:=f}) :
    gR (gU e w) A (setAdd a<|.int k u) Q E s:=by
  refine iz<|am<|(kj e w).pyHash (k:=k) (pJ _ _ _ _) ?_
  exact VQ (s:=99) S room λd b g i p=>h d b _ g i p<|lG _
def Po{a:Array (Int×cr)}{k:Int}:∀{b:List Int},Paired yI a.toList b->b.Nodup->∀{j:Nat},rX (λe=>(kj prog w).is k e.2) a.toList=↑j->b[j]?=↑k:=by
 intro b P _ j f;refine e1a2 (List.findIdx?_eq_some_iff_getElem.mp f) λg h _=>?_
 have:∀{a:List (Int×cr)} {b:List Int},Paired yI a b->∀(j:Nat)(e:Int×cr),a[j]?=↑e->∃d,b[j]?=↑d/\yI e d:=by
  intro a b P
  induction P with
  |nil=>intro j e z;simp at z
  |cons x _ i =>
   intro j e z
   cases j with
   |zero =>
    have l:=iT z;subst l;exact#[_,rfl,x]
   |succ j=>exact i j e (by simpa using z)
 obtain⟨d,m,_,u,n⟩:=this P j a.toList[j] (by simp[g]);have c:mK k a.toList[j].2=true:=h;rw[n]at c;have:d=k:=by simpa[mK] using c
 rw[<- this];exact m
def zt:∀{l:List b} {m:List c},Paired F l m->∀i,Paired F (l.take i++l.drop (i+1)) (m.take i++m.drop (i+1)):=by
 intro _ _ z
 induction z with
 |nil=>intro i;simpa using Paired.nil
 |cons x r a =>
  intro i
  cases i with
  |zero=>simpa using r
  |succ i=>simpa using Paired.cons x (a i)
def xy{k:Int}:∀{ks:List Int} {j:Nat},ks[j]?=↑k->ks.Perm (k::(ks.take j++ks.drop (j+1)))
 | [],j,e=>by simp at e
 |x::r,0,e=>by
  have:x=k:=by simpa using e
  subst this;simp
 |x::r,j+1,e=>by have:=xy (ks:=r) (j:=j) (by simpa using e);simpa using(oG x this).trans (List.Perm.swap k x _)
def FU{k:Int}{Q:Bool->gN->Prop}(S:vR w a c s.heap)
 (h:∀p g,iU a s.heap p->vR w a g p->(if k∈c then c.Perm (k::g) else g=c)->Q (decide<|k∈c) { s with heap:=p}) :
    gR (gU b w) A (setDiscardHashed a (.int k u)<|ng k) Q E s:=by
  refine e3a2 S λd J t e K=>?_
  have F:ElemsOf (kj b w) d.toList:=Cn K.ent
  have L:(kj b w).is k (.int k u)=true:=pJ _ _ _ _
  refine am<|am<|iZ e rfl K.tab.fits ?_
  dsimp only
  rw[byScan_of (knd:=kj b w) rfl (zr K.small) F,gI rfl]
  refine am<|lW<|am ?_
  rw[show ng k=(kj b w).hash k from rfl]
  refine wpAny_setScan_of (knd:=kj b w) L e rfl K.tab.fits F ?_
  have r:=Gz K.ent k
  cases v:rX (λe=>(kj b w).is k e.2) d.toList with
  |none =>
    have f:k∉c:=λq=>by
      refine e1a2 (r.mp q) λx M y=>?_
      have:=List.findIdx?_eq_none_iff.mp v x M
      rw[show (kj b w).is k x.2=true from y]at this
      cases this
    have z:=h s.heap c (lR a s.heap) #[d,J,t,e,K] (by rw[gl f])
    rw[ig f]at z
    exact ap<|ap z
  |some j =>
    dsimp only
    have i:=Po (prog:=b) (w:=w) K.ent K.nd v
    have n:k∈c:=ju i
    have B:j<d.size:=by
      have:=(List.findIdx?_eq_some_iff_getElem.mp v).1
      rwa [gQ]at this
    rw[sU]
    refine ap<|am<|iZ e rfl K.tab.fits ?_
    have G:=xS.mp K.tab.fits
    have C:t.place[j]?=↑t.place[j]!:=by
      rw[jk q0a,getElem!_pos]
    have H:t.drop j={ t with place:=iV t.place j,dummies:=i9 t.dummies (hI t.dummies t.place[j]!) t.place[j]!}:=by
      unfold SetTable.drop
      rw[C]
    have o:(iV d j).size=d.size-1:=Be _ _ B
    have l:(iV t.place j).size=d.size-1:=by rw[Be _ _ q0a];lia
    have I:VP w (iV d j) (t.drop j) (c.take j++c.drop (j+1)):=by
      refine#[by rw[toList_erase];exact zt K.ent j,?_,by rw[o];have:=K.small;lia,?_,?_]
      · have := (xy i).nodup_iff.mp K.nd
        exact(List.nodup_cons.mp this).2
      · have m := K.tab.room
        unfold kQ at m
        rw[H]
        refine#[xS.mpr #[?_,?_],Kj K.tab.rise j,K.tab.plain,K.tab.good,?_]
        · show (iV t.place j).size = _
          rw[l,o]
        · show (iV t.place j).size+(i9 t.dummies _ _).size <= t.mask
          rw[l,zb]
          lia
        · show ((iV t.place j).size+(i9 t.dummies _ _).size)*5<t.mask*3
          rw[l,zb]
          lia
      · rw[H]; exact K.led
    refine am<|AF e (yA I.small) λN D O=>?_
    refine am<|wpAny_point ?_
    have z:=h N _ D #[_,_,_,O,I] (by rw[gI n];exact xy i)
    rw[decide_eq_true n]at z
    exact ap z
def DZ:∀(l:List a)(i:Nat)(x:a),l[i]?=↑x->(x::l.eraseIdx i).Perm l
 | [],i,x,e=>by simp at e
 |y::r,0,x,e=>by
  have:y=x:=by simpa using e
  subst this;simp
 |y::r,i+1,x,e=>by have:=DZ r i x (by simpa using e);rw[ou];exact(List.Perm.swap y x _).trans<|oG y this
set_option tactic.hygienic true in
def Tf(c:Nat->Nat):∀(a k:Nat)(left:List d)(b:Array d),left.length<=a->(rg c a k left b).toList.Perm (b.toList++left):=by
 intro a
 induction a with
 |zero =>
  intro k left b h;have:left=[]:=List.length_eq_zero_iff.mp q0a;subst this;simp[rg]
 |succ a f =>
  intro k left b h;unfold rg;split
  ·rename_i x e
   have g:=(List.getElem?_eq_some_iff.mp e).1;refine(f _ _ _<|by rw[List.length_eraseIdx];split<;>lia).trans ?_;rw[qd,oa];refine rD _ ?_;exact DZ _ _ _ e
  ·rename_i e
   cases left with
   |nil=>simp
   |cons y r =>
    have:=List.getElem?_eq_none_iff.mp e;have i:=nP (c k) (show 0<(y::r).length by simp)
    lia
def Co(b:Nat->Nat)(a:Array c):(ue b a).toList.Perm a.toList:=by unfold ue;have:=Tf b a.size 0 a.toList #v[] q0o;simpa using this
set_option tactic.hygienic true in
def W5(S:vR w a f s.heap)(h:∀(c:Array (Int×cr)) (b:List Int),Paired yI c.toList b->b.Perm f->Q c s):gR (gU g w) A (setWalk a) Q E s:=by
 refine e3a2 S λd k t e K=>?_;refine am<|iZ e rfl K.tab.fits<|am<|am<|jz<|ap ?_;split
 ·refine am<|jz<|ap ?_;obtain⟨b,p,q⟩:=xT (Co _ d).symm K.ent;exact h _ b q p.symm
 ·rename_i i
  rw[gl<|by show ¬((!t.plain&&decide (d.size>1))=true);rw[K.tab.plain];simp]
  have j:t.led=true:=by
   rcases K.led with z|z
   ·exact g8 z i
   ·exact z
  refine am<|show gR _ A (if (!t.led&&decide (d.size>1))=true then lh "set:maker-not-led" else pure ()) _ _ _ from ?_;rw[j,gl q0o];exact ap<|ap<|h d f K.ent<|.refl _
def Pp(S:vR w a i s.heap)(h:∀(b:Array (Int×cr)) (c:List Int),Paired yI b.toList c->c.Perm i->Q b s) :
  gR (gU d w) A (setWalkUnseen a f g) Q E s:=by
 refine e3a2 (id S) λk l t e K=>?_;refine am<|iZ e rfl K.tab.fits<|am<|am<|jz<|ap ?_
 rw[gI (by
  rcases K.led with z|z
  ·have j:(gU d w).w.params.followText "set-order"=true:=z;rw[j];simp
  ·rw[z,K.tab.plain];simp)]
 exact W5 S h
def Dn{b:Nat}{n:Nat}(e:s.heap.get? a=↑(xk d b t))(k:t.fits d.size=true)(h:Q b s):gR (gU c w) A (setEpoch a) Q E s :=
 wpAny_setEpoch_of e rfl k h
def VS{es:Array (Int×cr)}{b:Array Nat}{Q:Array (Int×cr)×jC->gN->Prop}(p:b.toList.Perm (h8 es.size))(h:Q (b.filterMap (es[·]?),d) s) :
  gR (gU c w) A (do
   let some (t,order):=↑(d,b)|lh "internal:set-table-without-room"
   let a:=order.filterMap (es[·]?)
   if a.size != es.size then lh "internal:set-table-lost-an-element"
   pure (a,t)) Q E s:=by
 have e:(b.filterMap (es[·]?)).size=es.size:=by rw[<- gQ,(picked p).length_eq,gQ]
 dsimp only;rw[gl<|by rw[e];simp];exact ap h
def CS(w:iO)(r:ci)(h:iJ):Prop:=∃b a,h.get? r=↑(xk #v[] b<|kd 0 0 a)/\(w.params.followText "set-order"=true\/a=true)
def Cp(a:Bool):Zr (kd 0 0 a) 0:=#[rfl,iw,rfl,.inl rfl,by show 0*5<7*3;decide]
def CS.set(x:CS w r h):vR w r [] h:=by refine e2a2 x λb a e l=>?_;exact#[#v[],b,_,e,.nil,nJ,q0q,Cp a,l]
set_option tactic.hygienic true in
def Tg{m:Sem Unit}{Q:Unit->gN->Prop}(F:CS w r s.heap)(S:vR w a X s.heap)(ne:r≠a)
 (h:∀Y l,iU r s.heap Y->vR w r l Y->l.Perm X->Q () { s with heap:=Y}):gR (gU I w) A (setMerge r a m) Q E s:=by
  refine e2a2 (id F) λZ c P lr=>?_
  refine e3a2 (id S) λb ep t e K=>?_
  unfold setMerge
  rw[gl<|by simpa using ne]
  refine am<|iZ e rfl K.tab.fits ?_
  dsimp only
  by_cases R:b.isEmpty=true
  · rw[gI R]
    have aa:b=#v[]:=by simpa using R
    subst aa
    have:X=[]:=by
      have:=K.ent
      cases this
      rfl
    subst this
    exact ap<|h s.heap [] (lR _ _) F.set<|.refl _
  · rw[gl R]
    have af:1<=b.size:=by
      have:b.size≠0:=λz=>R (by simpa using Array.size_eq_zero_iff.mp z)
      lia
    have T:=K.small
    -- the room
    have go:∀(o:iJ)(J:Nat)(d:jC),iU r s.heap o->o.get? r=↑(xk #v[] J d)->d.place=#v[]->d.dummies=#v[]->d.plain=true->d.led=c->Good d.mask->b.size*5<d.mask*3 ->
        gR (gU I w) A (setState r >>= λx=>match x with
          | (_,_,k)=>match k.road t with
            | .slotForSlot=>sW r b { t with finger:=k.finger,led:=k.led&&t.led,moves:=k.moves,plain:=k.plain&&t.plain}
            | .clean=>do
              let (b,t) <- (do
                let some (t,order):=(nI k.mask k.finger k.moves (led:=k.led&&t.led) (plain:=k.plain&&t.plain) (b.map (·.1)))|lh "internal:set-table-without-room"
                let L:=order.filterMap (b[·]?)
                if L.size != b.size then lh "internal:set-table-lost-an-element"
                pure (L,t))
              sW r b t
            | .oneByOne=>do
              for (h,x) in <- setWalkUnseen a [r] ↑r do
                let _ <- kF [x] (setAddHashed r x h)
                m
                if (<- setState a).2.1 != ep then lh "set.changed-during-merge") Q E { s with heap:=o}:=by
      intro o J d sb o1 p1 d1 M l1 C rm
      have f1:d.fits (#v[]:Array (Int×cr)).size=true:=xS.mpr #[by rw[p1];rfl,by rw[p1,d1];exact iN _]
      refine am<|iZ (s:={ s with heap:=o}) o1 rfl f1 ?_
      dsimp only
      have u:w.params.followText "set-order"=true\/(d.led&&t.led)=true:=by
        rcases lr with z|z
        · exact .inl z
        · rcases K.led with y|y
          · exact .inl y
          · exact .inr (by rw[l1, z, y]; rfl)
      have v:d.road t=.slotForSlot\/d.road t=.clean:=by
        unfold uC kQ
        rw[p1,d1]
        simp only[gY,mZ,Nat.add_zero,rh,kS,o8]
        split
        · exact .inl rfl
        · exact .inr rfl
      have ab:d.road t=.slotForSlot->t.dummies.isEmpty=true:=λz=>by
        unfold uC at z
        split at z
        · cases z
        · split at z
          · rename_i q
            exact(Bool.and_eq_true_iff.mp q).2
          · cases z
      have up:∀f,iU r o f->iU r s.heap f:=λf q=>sb.trans q
      rcases v with z|z
      · have hd := ab z
        rw[z]
        refine AF (s:={ s with heap:=o}) o1 (yA T) λf g D=>?_
        refine h f X (up f g) #[b,_,_,D,K.ent,K.nd,T,#[K.tab.fits,K.tab.rise,?_,K.tab.good,K.tab.room],u]<|.refl _
        rw[M,K.tab.plain];rfl
      · rw[z]
        have i:b.size<=d.mask:=by lia
        obtain⟨t2,B,N,p⟩:=Ck (fg:=d.finger) (mv:=d.moves) (led:=d.led&&t.led) (pl:=d.plain&&t.plain) (hs:=b.map (·.1)) C.Gy (by rw[mr];exact i)
        refine e0a6 (Cj N) λr1 r2 r3 G U O=>?_
        rw[N]
        rw[mr]at p
        have W:=picked p
        have H:(B.filterMap (b[·]?)).size=b.size:=by rw[<- gQ,W.length_eq,gQ]
        have j:B.size=b.size:=by rw[<- gQ,p.length_eq,lp]
        refine am<|VS p ?_
        refine AF (s:={ s with heap:=o}) o1 (by rw[H];exact yA T) λf g D=>?_
        refine e1a2 (xT W.symm K.ent) λl q1 q2=>?_
        refine h f l (up f g) #[_,_,_,D,q2,q1.nodup_iff.mp K.nd,by rw[H];exact T,#[xS.mpr #[by rw[O,H,j],?_],r1,?_,by rw[G];exact C,?_],by rw[r2];exact u] q1.symm
        · rw[O, U, j, G]; exact i
        · rw[r3, M, K.tab.plain]; rfl
        · unfold kQ
          rw[O,U,j,G]
          exact rm
    refine am<|am<|iZ P rfl (Cp c).fits ?_
    by_cases hr:b.size*5>=7*3
    · have e1 : (kd 0 0 c).roomFor b.size = some (b.size*2) := by
        unfold tL kQ kd
        rw[gI<|by simpa using hr]
        simp
      rw[e1]
      obtain⟨C,g2⟩:=DY (n:=b.size*2) q0a
      obtain⟨t2,B,N,p⟩:=Ck (fg:=0) (mv:=(kd 0 0 c).movedTo<|iK (b.size*2)-1) (led:=c) (pl:=true) (hs:=(#v[]:Array (Int×cr)).map (·.1)) C.Gy (by rw[mr];exact iN _)
      refine e0a6 (Cj N) λr1 r2 r3 G U O=>?_
      have ae:(kd 0 0 c).relaid ((#v[]:Array (Int×cr)).map (·.1)) (b.size*2)=↑(t2,B):=N
      refine am<|iZ P rfl (Cp c).fits ?_
      dsimp only
      rw[gl (by
        have:iK (b.size*2)<=512:=by rcases C with q|q|q|q|q|q|q<;>lia
        have e3:(512:Nat)<=gL:=by rw[i8];decide
        lia),ae]
      rw[mr]at p
      have W:=picked (es:=#v[]) p
      have H:(B.filterMap ((#v[]:Array (Int×cr))[·]?)).size=0:=by rw[<- gQ,W.length_eq];rfl
      have j:B.size=0:=by rw[<- gQ,p.length_eq];rfl
      refine am<|VS (es:=#v[]) p ?_
      refine AF P (by rw[H];exact iN _) λf g D=>?_
      have o3:B.filterMap ((#v[]:Array (Int×cr))[·]?)=#v[]:=Array.size_eq_zero_iff.mp H
      rw[o3]at D
      refine go f _ t2 g D (Array.size_eq_zero_iff.mp<|by rw[O,j]) U r3 r2 (by rw[G];exact C) (by rw[G];lia)
    · have e1 : (kd 0 0 c).roomFor b.size = none := by
        unfold tL kQ kd
        rw[gl<|by simpa using hr]
      rw[e1]
      refine ap ?_
      exact go s.heap Z (kd 0 0 c) (lR _ _) P rfl rfl rfl rfl (.inl rfl) (by show b.size*5<7*3;lia)
def Nx:sX ud "set.__xor__"=↑Builtin.«frozenset.__xor__» :=
 sY (id':="frozenset.__xor__") (by kernel_rfl) (by first|rfl|decide +kernel|(unfold qW;simp +decide [qb])) q0s (by kernel_rfl)
def Pq(h:∀a,CS w ⇑s a->(∀c o,s.heap.get? c=↑o->a.get? c=↑o)->Q (.ref ⇑s) 96):gR (gU b w) A (newSet<|.type "set") Q E s:=by
 refine am<|am<|jz<|ap ?_;refine am<|wpAny_alloc<|ap<|h _ ⟨0,_,gX _ rfl,?_⟩ λc o e=>ce _ e
 cases q:w.params.followText "set-order" with
 |true=>exact .inl rfl
 |false=>exact .inr (by show (!(w.params.followText "set-order"))=true;rw[q];rfl)
def By(S:vR w a c s.heap)(h:Q true s):gR (gU b w) A (Builtin.Frozenset.isAnySet<|.ref a) Q E s:=by refine am<|l9 S.typeIs pK<|ap ?_;exact h
def Ny{m:String}{Q:cr->gN->Prop}(S:vR w a j s.heap)
  (h:∀f b,vR w ⇑s b f->b.Perm j->(∀c o,s.heap.get? c=↑o->f.get? c=↑o)->Q (.ref ⇑s) { s with heap:=f}) :
  gR (gU k w) A (Builtin.Frozenset.newFrom m (.type "set")<|.ref a) Q E s:=by
 refine am<|Pq λd r l=>?_;have g:vR w a j d:=S.keep λo e=>l a o e;have u:⇑s≠a:=je S.lt;refine am<|ap<|am<|iz ?_;refine am<|By (s:={ s with heap:=d}) g ?_;rw[gI rfl];refine am<|ap ?_;have i:=g;refine e3a2 i λz B t e K=>?_;refine am<|Dn (n:=0) (s:={ s with heap:=d}) e K.tab.fits ?_;refine Tg (s:={ s with heap:=d}) r g u λv b x y p=>?_;exact ap<|h v b y p λc o q=>x.extBut c o (gZ<|gP q)<|l c o q
set_option tactic.hygienic true in
def Zs{Q:cr->gN->Prop}(Sa:vR w a ka s.heap)(Sb:vR w b kb s.heap)(hl:ka.length+kb.length<=126)
  (h:∀h' ks,vR w ⇑s ks h'->(∀k,k∈ks↔((k∈kb/\k∉ka)\/(k∉kb/\k∈ka)))->(∀c o,s.heap.get? c=↑o->h'.get? c=↑o)->Q (.ref ⇑s) { s with heap:=h'}) :
  gR (gU prog w) A (mo .BitXor (.ref a)<|.ref b) Q E s:=by
 refine wpAny_binaryOp_same (op:=.BitXor) (T:="set") Sa.typeIs Sb.typeIs F.fills_set_xor F.slot_set_xor ?_;refine iP F.slot_set_xor Sa.typeIs Nx ?_<|F.args_set_xor_2 _ _;refine am<|am<|ap<|ap ?_;dsimp only;rw[gl gV];refine am<|am<|By Sa<|By Sb ?_;rw[gl q0o];refine am<|ap<|am ?_
 wp_delta
 refine am<|am<|l9 Sa.typeIs pK<|ap ?_;rw[gI rfl];refine am<|Ny Sb λh1 Th S1 p1 k1=>?_;have Sa1:vR w a ka h1:=Sa.keep λo e=>k1 a o e;have ne:⇑s≠a:=je Sa.lt;refine am<|ap<|am<|iz ?_;unfold Builtin.Frozenset.symmetricDifferenceUpdate;rw[gl<|by simpa using Ne.symm ne];dsimp only;refine am<|kK (s:={ s with heap:=h1}) (vR.typeIs (s:={ s with heap:=h1}) Sa1) ?_;rw[gl q0q];refine am<|By (s:={ s with heap:=h1}) Sa1 ?_;rw[gI rfl];refine am<|ap<|am<|ap ?_;have a1S:=Sa1;refine e3a2 a1S λes ep t e K=>?_;refine am<|Dn (n:=0) (s:={ s with heap:=h1}) e K.tab.fits ?_;refine iz<|am<|Pp (s:={ s with heap:=h1}) Sa1 λes' Zt P' p'=>?_;have nd':Zt.Nodup:=p'.nodup_iff.mpr Sa.nodup;have a3r:=p'.length_eq;have a3s:=p1.length_eq
 refine am (wpAny_forIn_array' _ (λrest _ s2=>∃dn kr h2 k2,Zt=dn++kr/\Paired yI rest kr/\s2={ s with heap:=h2}/\iU ⇑s h1 h2/\vR w ⇑s k2 h2/\k2.length<=Th.length+dn.length /\
   ∀k,k∈k2↔((k∈Th/\k∉dn)\/(k∉Th/\k∈dn))) _ ?turn ?fin es' _ #[[],Zt,h1,Th,rfl,P',rfl,lR _ _,S1,gK _,λk=>by simp])
 case fin =>
  rintro _ s2 ⟨dn,kr,h2,k2,e0,P,rfl,sb,S2,_,m⟩;cases P;rw[kX]at e0;subst e0;refine ap<|ap<|ap ⟨_,rfl,q0o,?_⟩;refine h h2 k2 S2 (λk=>?_) λc o q=>sb.extBut c o (gZ<|gP q)<|k1 c o q;rw[m k,p1.mem_iff,p'.mem_iff]
 case turn =>
  rintro x rest _ s2 ⟨dn,kr,h2,k2,e0,P,rfl,sb,S2,l2,m⟩
  cases P with
  |cons hx hr =>
   rename_i k kr
   obtain⟨hx1,u,hx2⟩:=hx;rw[hx1,hx2];have nd2:=nd';rw[e0]at nd2
   have hkd:k∉dn:=λq=>by have:=(List.nodup_append.mp nd2).2.2 k q k gO;exact this rfl
   have a3w:dn.length+(kr.length+1)=Zt.length:=by rw[e0,gW,hZ]
   have ea:∀h3,iU ⇑s h2 h3->h3.get? a=↑(xk es ep t):=λh3 q=>q.extBut a _ (Ne.symm ne)<|sb.extBut a _ (Ne.symm ne) e
   have VT:∀(R:ForInStep PUnit->gN->Prop) h3 k3,iU ⇑s h2 h3->vR w ⇑s k3 h3->k3.length<=k2.length+1->(∀j,j∈k3↔((j∈k2/\j≠k)\/(j∉k2/\j=k))) ->
     (∀s':gN,(∃dn kr h2 k2,Zt=dn++kr/\Paired yI rest kr/\s'={ s with heap:=h2}/\iU ⇑s h1 h2/\vR w ⇑s k2 h2/\k2.length<=Th.length+dn.length/\∀k,k∈k2↔((k∈Th/\k∉dn)\/(k∉Th/\k∈dn)))->R (.yield #[]) s') ->
     gR (gU prog w) A.in1 (Builtin.Frozenset.unchanged (toString "frozenset."++toString "__xor__") a ep >>= λ_=>pure<|mI PUnit.unit) R E { s with heap:=h3}:=by
    intro R h3 k3 Zu S3 l3 m3 fin;refine am<|am<|Dn (n:=0) (s:={ s with heap:=h3}) (ea h3 Zu) K.tab.fits ?_;rw[gl q0o];refine ap<|ap<|fin _ ⟨dn++[k],kr,h3,k3,by rw[e0];simp,hr,rfl,sb.trans Zu,S3,by rw[gW];simp;lia,λj=>?_⟩;rw[m3 j,m j,l6,mf];by_cases q2:j=k
    ·subst q2;by_cases q1:j∈Th<;>simp[q1,hkd]
    ·by_cases q1:j∈Th<;>by_cases q3:j∈dn<;>simp[q1,q2,q3]
   refine am<|iz<|am ?_;refine FU (s:={ s with heap:=h2}) S2 λh3 k3 Zu S3 p3=>?_;by_cases YI:k∈k2
   ·rw[decide_eq_true YI,gl q0o];rw[gI YI]at p3;have nd3:=p3.nodup_iff.mp S2.nodup;refine ap<|VT _ h3 k3 Zu S3 (by have:=p3.length_eq;rw[hZ]at this;lia) (λj=>?_) λ_ z=>z;have q:=p3.mem_iff (a:=j);rw[im]at q;rw[q];have hk1:=(List.nodup_cons.mp nd3).1;by_cases q2:j=k
    ·subst q2;simp[hk1]
    ·simp[q2]
   ·rw[ig YI,gI q0o];rw[gl YI]at p3;subst p3;refine am<|VQ (s:={ s with heap:=h3}) S3 q0a λh4 k4 sb4 S4 p4=>?_;rw[gl YI]at p4;refine ap<|VT _ h4 k4 (Zu.trans sb4) S4 (by have:=p4.length_eq;rw[hZ]at this;lia) (λj=>?_) λ_ z=>z;rw[p4.mem_iff,im];by_cases q2:j=k
    ·subst q2;simp[YI]
    ·simp[q2]
section
variable{prog:iu}{w:iO}{A:jq}{R:Result->gN->Prop}{I:ci}{fp wr:List ci}{G:Array o5->Array o5->Prop}{n:Nat}{P:Nat->cr->Prop}{St:Nat->gN->Prop}
set_option tactic.hygienic true in
def W6(W:WalksS prog w A.in1 I fp wr G n P St)(r:ci)(O:r∉fp)(a:Nat->Int)(g:∀i v,P i v->∃t,v=.int (a i) t)(hb:n<=126) :
  ∀(m i:Nat)(s:gN)(b:List Int),i+m=n->St i s->vR w r b s.heap->(∀k,k∈b↔∃j,j<i/\a j=k)->b.length<=i ->
   (∀h l,Moved (r::wr) G s h->vR w r l h.heap->(∀k,k∈l↔∃j,j<n/\a j=k)->R (.ok<|.ret .none) h) ->
   mz (gU prog w) A (.builtin "set.update.loop" #[[.ref r,.ref I],[]]) R s:=by
 have Q:r∉wr:=λq=>O<|W.sub _ q;have x:∀c∈wr,c∈r::wr:=λc B=>gS _ B;intro m
 induction m with
 |zero =>
  intro i s b X H S d Y f;obtain rfl:i=n:=by lia
  refine jG tM ?_;rw[jr oU _];refine am<|W.done s _ _ H λh C=>?_;exact ap<|f h b (C.mono x) (S.keep λo e=>C.heap r o Q e) d
 |succ m Z =>
  intro i s b X H S d Y f;refine jG tM ?_;rw[jr oU _];refine am<|W.item i s _ _ q0a H λv T hP J C=>?_;obtain⟨u,rfl⟩:=g i v hP;have S1:vR w r b T.heap:=S.keep λo e=>C.heap r o Q e;refine am<|iz<|VR S1 q0a λh2 D tk U S2 p E=>?_
  have l2:D.length<=i+1:=by
   have:=p.length_eq;split at this
   ·lia
   ·rw[hZ]at this;lia
  refine ap #[kP oU _,Z (i+1) _ D q0a (W.frame _ T _ _ J E λc B o e=>?_) S2 (λk=>?_) l2 λs3 L M S3 m3=>?_]
  ·rw[U.2 c (λz:c=r=>O<|by rw[<- z];exact B)];exact e
  ·rw[p.mem_iff]
   have q:(k∈if a i∈b then b else a i::b)↔(k=a i\/k∈b):=by
    split
    ·rename_i z
     constructor
     ·exact .inr
     ·rintro(y|y)
      ·rw[y];exact z
      ·exact y
    ·exact im
   rw[q,d k];constructor
   ·rintro(z|⟨j,hj,e⟩)
    ·exact#[i,q0a,z.symm]
    ·exact#[j,q0a,e]
   ·rintro⟨j,hj,e⟩;by_cases N:j=i
    ·subst N;exact .inl e.symm
    ·exact .inr #[j,q0a,e]
  ·refine f s3 L (Moved.trans W.gtrans ((C.mono x).then_heap E λc o B e=>?_) M) S3 m3;rw[U.2 c (λz:c=r=>B<|by rw[z];exact gO)];exact e
end
def Nz(x:cr)(h:∀a,CS w ⇑s a->(∀c o,s.heap.get? c=↑o->a.get? c=↑o)->Q (.ref ⇑s) 96) :
  mz (gU b w) A (.call (.builtin "set.__new__") #[[.type "set",x],[]]) (wants Q E) s:=by
 refine mB ?_;refine am<|mF (F.newCall_set_1 x)<|ap #[kP pB _,jG F.entry_set_new ?_];rw[jr pB _];unfold Builtin.«set.__new__» o9;have g:=pK;obtain⟨i,j,k,l,m⟩:=s;dsimp only;generalize d:newSet=n
 wp_walk
 subst d;refine Pq λa e f=>?_;exact ap<|h a e f
def Ko(hh:A.handled=none)(hl:s.heap.IsList l vh)(Z:kR vh.toList u)(hb:vh.size<=126)
 (h:∀d D f,vR w ⇑s f d->(∀k,k∈f↔k∈u)->(∀c o,s.heap.get? c=↑o->d.get? c=↑o)->Q (.ref ⇑s) { s with heap:=d,toks:=D}) :
    gR (gU aa w) A (call (.type "set") [.ref l]) Q E s:=by
  obtain⟨c0,tl,ab⟩:=F.called_set.mro
  have I:=F.called_set.made
  have ae:=F.called_set.sub
  refine mD<|mB ?_
  refine ap #[nK _ q0s,jG F.entry_type_call ?_]
  rw[tN (uK "set" [.ref l] []) rfl]
  have ag:=F.called_set.notType
  have ah:=F.called_set.canCreate
  have ai:=F.typeCall_set_1<|.ref l
  repeat (any_goals (first|assumption|wp_step))
  refine jN (Nz (.ref l) (E:=E) (Q:=λx y=>x=.ref ⇑s/\∃a,y=96/\CS w ⇑s a/\∀c o,s.heap.get? c=↑o->a.get? c=↑o) λa G q=>#[rfl,a,rfl,G,q]) λr1 s1 g=>?_
  cases r1 with
  |error e=>exact g
  |ok f1 =>
    cases f1 with
    |ret x =>
      obtain⟨rfl,a,rfl,G,q⟩:=g
      have J:vR w ⇑s [] a:=G.set
      have hT:lS 96 (.ref ⇑s) "set":=vR.typeIs (s:=96) J
      have aj:=F.called_set.init.lookup
      have ak:=F.called_set.init.bind<|.ref ⇑s
      repeat (any_goals (first|assumption|wp_step))
      refine jN (nA (R:=wants (λr z=>r=.none/\∃d D f,z={ s with heap:=d,toks:=D}/\vR w ⇑s f d/\(∀k,k∈f↔k∈u)/\∀c o,s.heap.get? c=↑o->d.get? c=↑o) E) F.called_set.init.plain F.entry_set_init<|check_set_init_1 hT ?_) λr2 s2 m=>?_
      · obtain⟨L, n, M, nl, N⟩ := id hl
        have p:a.IsList l vh:=#[L,q l L n,M,nl,N]
        have al:lS 96 (.ref l) "list":=p.typeIs
        have q1:=F.sub_list_set
        have q2:=F.sub_list_frozenset
        have q3:(jU "list" == jU "dict")=false:=by decide
        refine e2a2 (id G) λan af e1 l1=>?_
        unfold Builtin.«set.__init__» noKeywords Builtin.Frozenset.updateFrom
        generalize O:pyIter=PI
        wp_walk
        subst O
        refine wpAny_pyIter_list p<|am<|sZ ?_
        have P:l<a.objs.size:=gP<|q l L n
        have S:⇑s<a.objs.size:=J.lt
        have T:A.in1.in1.in1.handled=none:=by simp[hh]
        have nr:⇑s∉[a.objs.size,l]:=by
          simp only[im,jc,lX,qe]
          exact#[gZ S,je<|gP n]
        have B:∀(i:Nat)(v:cr),vh[i]?=↑v->∃t,v=.int ((λi=>u.getD i 0) i) t:=λi v hv=>qN Z i v (by rw[iF];exact hv)
        have b:∀c o,a.get? c=↑o->(a.push { cls:=.type "list_iterator",data:=.fields #v[.ref l,.int 0 0]}).get? c=↑o:=λc o e=>ce _ e
        have C:=qO Z
        rw[gQ]at C
        refine W6 ((Walks.list T _ l (gZ P) vh).toS) ⇑s nr (λi=>u.getD i 0) B hb vh.size 0 _ [] q0a #[#[_,gX _ rfl,rfl,rfl],p.push _] (J.keep λo e=>b _ o e) (λk=>by simp) (iN _) λs2 U H S2 m2=>?_
        obtain⟨h2,g2,d2,W,X⟩:=s2
        have eg:g2=s.gens:=H.gens
        have ed:d2=s.drawn:=H.drawn
        have eo:X=s.os:=H.os
        subst eg ed eo
        refine ap<|ap ⟨rfl,h2,W,U,rfl,S2,λk=>?_,λc o e=>?_⟩
        · rw[m2 k]
          constructor
          · rintro⟨j, Y, e⟩
            rw[<- e]
            have:j<u.length:=by lia
            simp[jg,this]
          · intro hk
            obtain⟨j,Y⟩:=lx hk
            refine#[j,by have:=(List.getElem?_eq_some_iff.mp Y).1;lia,?_]
            simp[jg,Y]
        · refine H.heap c o ?_ (b c o<|q c o e)
          simp only[im,jc,lX,qe]
          exact#[gZ<|gP e,gZ<|gP<|q c o e]
      · cases r2 with
        |error e=>exact m
        |ok f2 =>
          cases f2 with
          |ret r =>
            obtain⟨rfl,d,D,f,rfl,S',m',k'⟩:=m
            repeat (any_goals (first|assumption|wp_step))
            exact h _ _ f S' m' k'
          |_=>exact m.elim
    |_=>exact g.elim
def wR:Slot "set_iterator" "__next__" "set_iterator.__next__" :=
 .of (owner:="set_iterator") (n:="__next__") (by rw[nQ,lH];kernel_rfl) q0s q0s q0s (by first|exact .inl q0s|exact .inr q0s) (by rw[td];kernel_rfl)
def Pr:Manifest.owners.lookup (String.ofList ['r','o','t','a','r','e','t','i','_','t','e','s'].reverse)=↑Manifest.sig_set_iterator:=by kernel_rfl
def BA(a:cr):rM "set_iterator.__next__" #[[a],[]]:=by unfold rM;rw[signature?_of (id:="set_iterator.__next__") (n:=['_','_','t','x','e','n','_','_']) (o:=['r','o','t','a','r','e','t','i','_','t','e','s']) (by kernel_rfl) Pr];kernel_rfl
def AW:sX ud "set_iterator.__next__"=↑Builtin.«set_iterator.__next__»:=entryFor_of_tree (by kernel_rfl)
def BB:Slot "set_iterator" "__iter__" "set_iterator.__iter__" :=
 .of (owner:="set_iterator") (n:="__iter__") (by rw[nQ,lH];kernel_rfl) q0s q0s q0s (by first|exact .inl q0s|exact .inr q0s) (by rw[td];kernel_rfl)
def GB(a:cr):rM "set_iterator.__iter__" #[[a],[]]:=by unfold rM;rw[signature?_of (id:="set_iterator.__iter__") (n:=['_','_','r','e','t','i','_','_']) (o:=['r','o','t','a','r','e','t','i','_','t','e','s']) (by kernel_rfl) Pr];kernel_rfl
def Fl:sX ud "set_iterator.__iter__"=↑Builtin.«dict_keyiterator.__iter__» :=
 sY (id':="dict_keyiterator.__iter__") (by kernel_rfl) (by first|rfl|decide +kernel|(unfold qW;simp +decide [qb])) q0s (by kernel_rfl)
def D6:sX ud "set.__iter__"=↑Builtin.«frozenset.__iter__» :=
 sY (id':="frozenset.__iter__") (by kernel_rfl) (by first|rfl|decide +kernel|(unfold qW;simp +decide [qb])) q0s (by kernel_rfl)
noncomputable abbrev Zv(b i n c:Nat)(a:ci):Obj:={ cls:=.type "set_iterator",dict:=none,data:=.fields #v[lF b,lF i,.ref a,lF n,lF c],slots:=#v[]}
noncomputable def Kq(w:iO)(a:ci)(b:Array (Int×cr))(c:Nat):Array (Int×cr):=if w.params.followText "set-order"=true then ue (w.params.setOrder a c) b else b
def Cr(w:iO)(a:ci)(b:Array (Int×cr))(c:Nat):(Kq w a b c).toList.Perm b.toList:=by
 unfold Kq;split
 ·exact Co _ b
 ·exact .refl _
def SIt(w:iO)(e a:ci)(c:Array (Int×cr))(d:Nat)(t:jC)(i:Nat)(h:iJ):Prop :=
 ∃b,(w.params.followText "set-order"=false->hI t.place b=i)/\h.get? e=↑(Zv b i c.size d a)/\h.get? a=↑(xk c d t)
def IL(e:s.heap.get? b=some { cls:=cls,dict:=none,data:=.fields c,slots:=#v[]})(h:Q c s):gR (gU a w) A (fieldsOf<|.ref b) Q E s:=by exact am<|qK e<|ap h
set_option tactic.hygienic true in
def NA{c i:Nat}(e:s.heap.get? a=↑(xk g k t))(K:VP w g t p)(n:w.params.followText "set-order"=false->hI t.place c=i)
 (d:(Kq w a g k)[i]?=↑x)(h:∀l,(w.params.followText "set-order"=false->hI t.place l=i+1)->Q ↑(x.2,l) s):gR (gU f w) A (setNext a c i k) Q E s:=by
  have q:=xS.mp K.tab.fits
  refine am<|iZ e rfl K.tab.fits<|am<|am<|jz<|ap ?_
  dsimp only
  unfold Kq at d
  split
  · rename_i j
    have b:w.params.followText "set-order"=true:=j
    rw[gI b]at d
    rw[gl q0o]
    refine am<|am<|iZ e rfl K.tab.fits<|am<|am<|jz<|ap ?_
    rw[gI j]
    refine am<|jz<|ap<|ap ?_
    rw[show (gU f w).w=w from rfl,d]
    exact h c λz=>by rw[b]at z;cases z
  · rename_i j
    have b:w.params.followText "set-order"=false:=Bool.eq_false_iff.mpr j
    rw[gl<|by rw[b];simp]at d
    rw[gl<|by show ¬((!t.plain&&decide (g.size>1))=true);rw[K.tab.plain];simp]
    have o:t.led=true:=by
      rcases K.led with z|z
      · rw[b]at z; cases z
      · exact z
    refine am<|show gR _ A (if (!t.led&&!g.isEmpty)=true then lh "set:maker-not-led" else pure ()) _ _ _ from ?_
    rw[o,gl q0o]
    have r:=(Array.getElem?_eq_some_iff.mp d).1
    rw[n b,d]
    have m:t.place[i]?=↑t.place[i]!:=by rw[jk q0a,getElem!_pos]
    rw[m]
    refine ap<|ap<|h _ λ_=>?_
    exact Kg K.tab.rise (by rw[iF];exact m)
set_option tactic.hygienic true in
def NB{c:Nat}(e:s.heap.get? a=↑(xk b i t))(K:VP w b t l)(j:w.params.followText "set-order"=false->hI t.place c=b.size)(h:Q none s):gR (gU d w) A (setNext a c b.size i) Q E s:=by
 refine am<|iZ e rfl K.tab.fits<|am<|am<|jz<|ap ?_;dsimp only;split
 ·rename_i g
  rw[gl q0o];refine am<|am<|iZ e rfl K.tab.fits<|am<|am<|jz<|ap ?_;rw[gI g];refine am<|jz<|ap<|ap ?_
  have:(ue ((gU d w).w.params.setOrder a i) b)[b.size]?=none:=by rw[Array.getElem?_eq_none_iff,<- gQ,(Co _ b).length_eq,gQ];exact gK _
  rw[this];exact h
 ·rename_i g
  have f:w.params.followText "set-order"=false:=Bool.eq_false_iff.mpr g;rw[gl<|by show ¬((!t.plain&&decide (b.size>1))=true);rw[K.tab.plain];simp]
  have k:t.led=true:=by
   rcases K.led with z|z
   ·rw[f]at z;cases z
   ·exact z
  refine am<|show gR _ A (if (!t.led&&!b.isEmpty)=true then lh "set:maker-not-led" else pure ()) _ _ _ from ?_;rw[k,gl q0o,j f];rw[show b[b.size]?=none from by simp];exact ap<|ap h
def NC(hh:A.handled=none)(K:VP w es t ks)(ne:a≠it):Walks prog w A it [it,a] [it] es.size (λi v=>∃x,(Kq w a es ep)[i]?=↑x/\v=x.2) (SIt w it a es ep t) where
 sub:=λb hb=>by simp at hb;simp[hb]
 frame:=λi h h' z9=>e1a3 z9 λsl z e1 e2 k=>#[sl,z,k it q0o _ e1,k a q0o _ e2]
 item:=by
  rintro i s Q E hi ⟨sl,z,e1,e2⟩ hQ;have hT:s.TypeIs (.ref it) "set_iterator":=#[_,e1,rfl];refine am<|oV<|wpAny_callSpecial?_slot (name:=lO "__next__") hT wR<|iP wR hT AW ?_<|BA _;refine am<|ap<|am<|IL e1 ?_;refine am<|qy e2 rfl K.tab.fits ?_;rw[gl q0o]
  obtain⟨x,hx⟩:∃x,(Kq w a es ep)[i]?=some x:=by
   have hl:i<(Kq w a es ep).size:=by rw[<- gQ,(Cr w a es ep).length_eq,gQ];exact hi
   exact#[_,jk hl]
  refine am<|NA e2 K z hx λsl' z'=>?_;refine am<|jI e1 q0o λh1 o1 sb1=>am<|jI (s:={ s with heap:=h1}) o1 q0o λh2 o2 sb2=>ap #[_,rfl,ap ?_];have sb:=sb1.trans sb2;exact hQ _ h2 _ #[x,hx,rfl] #[sl',z',o2,sb.extBut a _ ne e2] λb o hb q=>sb.extBut b o (by simpa using hb) q
 done:=by
  rintro s Q E ⟨sl,z,e1,e2⟩ hQ;have hT:s.TypeIs (.ref it) "set_iterator":=#[_,e1,rfl];refine am<|oV<|wpAny_callSpecial?_slot (name:=lO "__next__") hT wR<|iP wR hT AW ?_<|BA _;refine am<|ap<|am<|IL e1 ?_;refine am<|qy e2 rfl K.tab.fits ?_;rw[gl q0o];refine am<|NB e2 K z ?_;refine am<|jI e1 q0o λh1 o1 sb1=>am ?_;refine am<|iH ?_ (by size_fits);refine am (m:=qf _ _)<|mF (a:=Value.none) (by first|rfl|(simp only[qf];rfl))<|iH ?_ (by size_fits)
  refine wpAny_raiseNew_none hh<|am<|l9 (T:="StopIteration") (b:=true) ⟨_,gX _ rfl,rfl⟩ isSubtype_stop<|ap ?_;exact hQ _ _ λb o hb q=>ce _<|ce _<|sb1.extBut b o (by simpa using hb) q
 self:=by rintro i s Q E ⟨sl,z,e1,e2⟩ hQ;have hT:s.TypeIs (.ref it) "set_iterator":=#[_,e1,rfl];refine wpAny_pyIter_slot hT BB<|iP BB hT Fl ?_<|GB _;exact ap #[_,rfl,"set_iterator",_,hT,wR.lookup,hQ]
def W7(e:s.heap.get? a=↑(xk f i t))(K:VP w f t j)
 (h:∀d,SIt w ⇑s a f i t 0 d->(∀c o,s.heap.get? c=↑o->d.get? c=↑o)->d.objs.size=⇑s+1->Q (.ref ⇑s) { s with heap:=d}):gR (gU b w) A (pyIter<|.ref a) Q E s:=by
  have g:s.TypeIs (.ref a) "set":=#[_,e,rfl]
  refine wpAny_pyIter_slot g F.slot_set_iter<|iP F.slot_set_iter g D6 ?_<|F.args_set_iter_1 _
  refine am<|am<|ap<|ap<|am<|am<|qy e rfl K.tab.fits<|ap ?_
  refine am<|am<|iZ e rfl K.tab.fits<|am<|am<|jz<|ap<|ap ?_
  rw[gl<|by show ¬((!(gU b w).w.params.followText "set-order"&&(!t.plain&&decide (f.size>1)))=true);rw[K.tab.plain];simp]
  refine am<|ap<|am<|Dn (n:=0) e K.tab.fits ?_
  refine am<|iH ?_ (by size_fits)
  refine ap #[_,rfl,"set_iterator",_,#[_,gX _ rfl,rfl],wR.lookup,?_]
  exact h _ #[0,λ_=>Ki K.tab.rise,gX _ rfl,ce _ e] (λc o q=>ce _ q)<|jt _ _
def GC:m8 (.type "set") "__len__"=pure (some<|.builtin "set.__len__"):=by rw[nQ,lH];kernel_rfl
def Ti(P:Paired yI a b):∀(j:Nat)(e:Int×cr),a[j]?=↑e->∃k,b[j]?=↑k/\yI e k:=by
 induction P with
 |nil=>intro j e z;simp at z
 |cons x _ c =>
  intro j e z
  cases j with
  |zero =>
   have d:=iT z;subst d;exact#[_,rfl,x]
  |succ j=>exact c j e (by simpa using z)
def Ac:∀{a:List cr} {b:List Int},a.length=b.length->(∀(i:Nat)(v:cr),a[i]?=↑v->∃k u,b[i]?=↑k/\v=lE k u)->kR a b
 | [],[],_,_=>.nil
 | [],_::_,h,_=>by simp at h
 |_::_,[],h,_=>by simp at h
 |v::a,n::b,h,k=>by
  refine e2a2 (k 0 v rfl) λc u d f=>?_;have:n=c:=by simpa using d
  subst this;subst f
  exact .cons _ _ (Ac (by simpa using h) λi g e=>by
   refine e2a2 (k (i+1) g<|by simpa using e) λj l m o=>?_
   exact#[j,l,by simpa using m,o])
def ND(hh:A.handled=none)(S:vR w a ks s.heap)
 (h:∀M tk Z G,kR Z G->G.Perm ks->(∀c o,s.heap.get? c=↑o->M.get? c=↑o)->⇑s<=M.objs.size->Q Z { s with heap:=M,toks:=tk}):gR (gU r w) A (collect<|.ref a) Q E s:=by
  refine e3a2 (id S) λH I t e K=>?_
  have d:a<⇑s:=gP e
  refine am<|sZ<|jG uf ?_
  rw[jr ug _]
  refine am (m:=newList [])<|iH<|ap #[kP oz _,jG F.entry_list_iadd ?_]
  rw[jr oz _]
  have l:∀c o,s.heap.get? c=↑o->(s.heap.push 54).get? c=↑o:=λc o q=>ce _ q
  have oL:(s.heap.push 54).get? ⇑s=some 54:=gX _ rfl
  have f:(s.heap.push 54).objs.size=⇑s+1:=jt _ _
  generalize s.heap.push 54=n at l oL f ⊢
  show gR _ A.in1 (pY (.ref ⇑s) (.ref a)<|.ref ⇑s) _ _ { s with heap:=n}
  have hT:lS { s with heap:=n} (.ref a) "set":=#[_,l a _ e,rfl]
  refine am<|kK hT ?_
  have n1:lv (.ref ⇑s) (.ref a)=false:=by simp[lv,je d]
  have n2:(jU "set" == jU "list")=false:=by decide
  have n3:(jU "set" == jU "tuple")=false:=by decide
  simp only[n1,n2,n3,rY,kS,o8]
  refine am<|W7 (s:={ s with heap:=n}) (l a _ e) K λp I2 N ae=>?_
  have j:lS { s with heap:=p} (.ref a) "set":=#[_,N a _<|l a _ e,rfl]
  refine am<|iz ?_
  refine am<|pM j GC ?_
  generalize Ct:("set.__len__":String)=O
  dsimp only
  rw[show splitId O=some ("set","__len__") from by subst Ct;decide +kernel]
  subst Ct
  refine am<|l9 (b:=true) j pK ?_
  rw[gl q0o]
  rw[gI q0s]
  refine am<|kK j<|ap ?_
  rw[gI q0s]
  refine am<|lW<|am ?_
  have y:=N _ _ oL
  have P:A.in1.handled=none:=by simp[hh]
  have ne:a≠n.objs.size:=gZ<|ny d (by rw[f];exact ji _)
  have W:=(NC (prog:=r) (A:=A.in1) (ep:=I) P K ne).toS
  refine am<|pQ y rfl ?_
  have B:=iL (Obj.mapSeq (·.push Value.none)) y rfl
  refine pQ B rfl ?_
  have C:=iL (Obj.mapSeq (·.pop)) B rfl
  have J:∀c o,c≠⇑s->p.get? c=↑o->((p.update ⇑s (Obj.mapSeq (·.push Value.none))).update ⇑s (Obj.mapSeq (·.pop))).get? c=↑o :=
    λc o hc q=>(iB _ _<|Ne.symm hc).trans<|(iB _ _<|Ne.symm hc).trans q
  have R:((p.update ⇑s (Obj.mapSeq (·.push Value.none))).update ⇑s (Obj.mapSeq (·.pop))).objs.size=p.objs.size:=by rw[oA,oA]
  have T:⇑s∉[n.objs.size,a]:=by
    simp only[im,jc,lX,qe]
    exact#[by rw[f];exact gZ<|ji _,je d]
  generalize (p.update ⇑s (Obj.mapSeq (·.push Value.none))).update ⇑s (Obj.mapSeq (·.pop))=h4 at C J R ⊢
  refine e1a3 I2 λsl z i1 i2=>?_
  have I4:SIt w n.objs.size a H I t 0 h4:=#[sl,z,J _ _ (by rw[f];exact je<|ji _) i1,J _ _ (gZ d) i2]
  refine ap #[kP qg _,codeAny_extend_loopS W (yA K.small) _ T _ H.size 0 _ _ _ rfl (iN _) I4 C (ItemsOf.nil _) λs5 U c5 L D g=>?_]
  refine am<|qK D<|ap ?_
  obtain⟨h5,g5,d5,X,Y⟩:=s5
  have eg:g5=s.gens:=L.gens
  have ed:d5=s.drawn:=L.drawn
  have eo:Y=s.os:=L.os
  subst eg ed eo
  -- aa ab
  refine e1a2 (xT (Cr w a H I).symm K.ent) λG pp pe=>?_
  have k5:∀c o,s.heap.get? c=↑o->h5.get? c=↑o:=λc o q=>L.heap c o (by
    simp only[im,jc,lX,qe]
    exact#[gZ (gP q),gZ (gP (l c o q))]) (J c o (gZ (gP q)) (N c o (l c o q)))
  refine h h5 X U.toList G (Ac ?_ λi v hv=>?_) pp.symm k5<|lM<|gP D
  · rw[gQ, g.1, <- Mi pe, gQ, <- gQ, <- gQ, (Cr w a H I).length_eq]
  · obtain⟨x, hx, rfl⟩ := g.2 i v (by rw[<- iF]; exact hv)
    obtain⟨k,hk,_,u,hu⟩:=Ti pe i x (by rw[iF];exact hx)
    exact#[k,u,hk,hu]
def Cu 
 (C:∀(u:List cr->gN->Prop),(∀b e a d,kR a d->d.Perm x->(∀c o,s.heap.get? c=↑o->b.get? c=↑o)->⇑s<=b.objs.size->u a { s with heap:=b,toks:=e})->gR (gU f w) A.in1 (collect v) u E s)
 (k:x.length<64) (h:∀b e r a d,⇑s<=r->kR a d->d.Perm x->d.Pairwise (·<=·)->(∃n,b.get? r=some { cls:=.type "list",data:=.seq a.toArray n})->(∀c o,s.heap.get? c=↑o->b.get? c=↑o)->Q (.ref r) { s with heap:=b,toks:=e}) :
    gR (gU f w) A (call (.builtin "sorted") [v]) Q E s:=by
  refine rE kind_sorted plain_sorted entry_sorted (args_sorted1 _) ?_
  refine am (m:=checkCount "sorted" 1 1 _)<|ap ?_
  refine am<|C _ λl e a d y z B D=>?_
  have g:a.length<64:=by rw[qO y,z.length_eq];exact k
  refine am<|tU ?_
  have p:(l.push<|mj "list" a.toArray 0).get? l.objs.size=↑(mj "list" a.toArray 0):=gX _ rfl
  refine am<|iz<|iP slot_list_sort ⟨_,p,rfl⟩ entry_list_sort (list_sort_tree p y g λi t F G H=>#[_,rfl,?_])<|args_list_sort _
  obtain⟨I,J⟩:=sortedHeap_at (out:=i) p
  refine ap #[_,rfl,h _ e l.objs.size i.toList t D F (G.trans z) H #[I,by simpa using J] λc o q=>?_]
  have j:=gP<|B c o q
  rw[sortedHeap_old (gZ j)<|by rw[tj];exact ol j]
  exact ce _<|B c o q
def GD(j:A.handled=none)(S:vR w a f s.heap)(b:f.length<64)
 (h:∀d l r g e,⇑s<=r->kR g e->e.Perm f->e.Pairwise (·<=·)->(∃n,d.get? r=some { cls:=.type "list",data:=.seq g.toArray n})->(∀c o,s.heap.get? c=↑o->d.get? c=↑o)->Q (.ref r) { s with heap:=d,toks:=l}) :
    gR (gU i w) A (call (.builtin "sorted") [.ref a]) Q E s :=
  Cu (λ_ k=>ND (by simp[j]) S k) b h
def Fo{a:List cr}(p:s.heap.IsList l a.toArray)(b:kR a i)(d:i.length<64)
 (h:∀f t r j g,⇑s<=r->kR j g->g.Perm i->g.Pairwise (·<=·)->(∃n,f.get? r=some { cls:=.type "list",data:=.seq j.toArray n})->(∀c o,s.heap.get? c=↑o->f.get? c=↑o)->Q (.ref r) { s with heap:=f,toks:=t}) :
    gR (gU m w) A (call (.builtin "sorted") [.ref l]) Q E s :=
  Cu (λ_ k=>collect_list p (k _ s.toks _ _ b (.refl _) (λc o q=>(iB _ _ (je (gP q))).trans (ce _ q)) (by rw[oA,tj];exact lG _)) (by
    have:=qO b
    have e:(64:Nat)<=gL:=by rw[i8];decide
    lia)) d h
end SX
namespace L2
open PySem PySem.Spec PyProof.Rows SX
def AG{a:List Int}(h:Vals (a.map V.int) b):kR b a:=intsAre_of h
def Tj(h:kR a b):Vals (b.map V.int) a:=FR h
noncomputable def w9(w:iO)(p:ci)(a:List Int):HO:=.ext<|vR w p a
def zu(I:Inv X a c H s)(h:H p=↑(w9 X.w p b)):vR X.w p b s.heap:=(I.vL p _ h).1
def GF(x:vR w p a h):vY P w H h p (w9 w p a) :=
 #[x,(e3a2 x λ_ _ _ e _=> #[_,e]),λ_ _ q k=>q.keep k]
def IM(i:X.calm=true):yz X (.type "set") (λe H Q=>∃(a:ci)(c:List Int),e=[.ref a]/\v6 X.K H a (c.map V.int)/\c.length<=126/\∀(p:ci)(b:List Int),H p=none->b.Nodup->b.length<=c.length->(∀k,k∈b↔k∈c)->Q (.ref p) (upd H p<|w9 X.w p b)):=by intro f s y H e z Q I r h;obtain⟨a,c,rfl,j,A,q⟩:=h;obtain⟨u,rfl,l⟩:=vals1 r;cases l;refine e1a3 (I.list j) λvh g n B=>?_;have o:=AG g;have d:=g.length;rw[gM]at d;refine Ko (I.ok.hd i) n.isList (by simpa using o) (by rw[gY];lia) λC t b S m k=>?_;refine#[.ref ⇑s,_,I.laid (t':=t) k (gK _)<|GF S,rfl,q _ b (I.vL.fresh<|gK _) S.nodup (za _ _ S.nodup λx v=>(m x).mp v) m]
def Tk:zU X (mo .BitXor) (λx y H Q=>∃(a b:ci)(c d:List Int),x=.ref a/\y=.ref b/\H a=↑(w9 X.w a c)/\H b=↑(w9 X.w b d)/\c.length+d.length<=126 /\
  ∀(p:ci)(e:List Int),H p=none->e.Nodup->(∀k,k∈e↔((k∈d/\k∉c)\/(k∉d/\k∈c)))->Q (.ref p) (upd H p (w9 X.w p e))):=by
 intro f s o H x y v u Q I g i h;obtain⟨a,b,c,d,rfl,rfl,j,l,n,q⟩:=h;cases g;cases i;refine Zs (zu I j) (zu I l) n λr e S m k=>?_;exact#[.ref ⇑s,_,I.laid (t':=s.toks) k (gK _)<|GF S,rfl,q _ e (I.vL.fresh<|gK _) S.nodup m]
def Bf{g:List Int}(I:Inv X b k H s)(l:g.length<64)(q:∀(p:ci)(a:List Int),H p=none->a.Perm g->a.Pairwise (·<=·)->Q (.ref p) (upd H p<|.lst<|a.map V.int)) :
  ∀(d:iJ)(h:Nat)(r:ci)(f:List cr)(a:List Int),⇑s<=r->kR f a->a.Perm g->a.Pairwise (·<=·)->(∃n,d.get? r=some { cls:=.type "list",data:=.seq f.toArray n})->(∀c o,s.heap.get? c=↑o->d.get? c=↑o)->EP X b k Q (.ref r) { s with heap:=d,toks:=h}:=by
 intro d h r f a i m j t u v;obtain⟨n,e⟩:=u;have w:(64:Nat)<=gL:=by rw[i8];decide
 exact#[.ref r,_,I.laid (t':=h) (o:=.lst<|a.map V.int) v i #[by rw[gM,j.length_eq];lia,f,n,Tj m,e],rfl,q r a (I.vL.fresh i) j t]
def BC(g:X.calm=true):yz X (.builtin "sorted") (λe H Q=>∃(a:ci)(c:List Int),e=[.ref a]/\H a=↑(w9 X.w a c)/\c.length<64/\∀(p:ci)(d:List Int),H p=none->d.Perm c->d.Pairwise (·<=·)->Q (.ref p) (upd H p<|.lst<|d.map V.int)):=by intro f s k H e l Q I r h;obtain⟨a,c,rfl,i,b,q⟩:=h;obtain⟨u,rfl,j⟩:=vals1 r;cases j;exact GD (I.ok.hd g) (zu I i) b<|Bf I b q
def GG:yz X (.builtin "sorted") (λe H Q=>∃(a:ci)(c:List Int),e=[.ref a]/\v6 X.K H a (c.map V.int)/\c.length<64/\∀(p:ci)(d:List Int),H p=none->d.Perm c->d.Pairwise (·<=·)->Q (.ref p) (upd H p<|.lst<|d.map V.int)):=by intro f s l H e m Q I r h;obtain⟨a,c,rfl,g,b,q⟩:=h;obtain⟨u,rfl,i⟩:=vals1 r;cases i;refine e1a3 (I.list g) λvh j k n=>?_;exact Fo k.isList (AG j) b<|Bf I b q
def Do(X:Cx)(H:Hp)(x:V)(d:PyData):Prop:=∀(a:List (ci×Obj)) (b:St) (s:gN) (u:cr),Inv X a b H s->RelV x u->∃c,Reads s.heap u d c
def Do.int(i:Int):Do X H (.int i) (.int i):=λ_ _ _ _ _ r=>by obtain⟨t,rfl⟩:=r;exact#[_,Reads.int i t]
def FV(I:Inv X a e H s):∀{c:List V} {d:List cr} {b:List PyData},Vals c d->Paired (Do X H) c b->∃f,ReadsAll s.heap d b f:=by
 intro _ _ b z
 induction z generalizing b with
 |nil=>intro w;cases w;exact#[_,.nil]
 |cons r t g=>intro w;cases w with|cons q p =>
  obtain⟨j,h⟩:=q a e s _ I r;obtain⟨k,i⟩:=g p;exact#[_,.cons h i]
def Do.lst(h:v6 X.K H a c)(p:Paired (Do X H) c d):Do X H (.ref a) (.list d):=λb l s u I r=>by
 cases r;refine e1a3 (I.list h) λvh e f _=>?_;obtain⟨m,g⟩:=FV I e p;obtain⟨o,i,j,n,k⟩:=f.isList;exact#[_,Reads.list i j k<|by simpa using g]
def Zw(X:Cx)(a:Bool):R2:=λx y H Q=>∃d e,Do X H x d/\Do X H y e/\su d=true/\su e=true/\pc d e=true/\Q (.bl<|if a then !PySem.Spec.same d e else kN d e) H
def W8(c:X.A.units+64<jX):zU X (jj .Eq) (Zw X false):=by intro a s b H x y v u Q I f g h;obtain⟨d,e,i,j,k,l,m,q⟩:=h;obtain⟨p,n⟩:=i a b s v I f;obtain⟨r,o⟩:=j a b s u I g;exact eq_dataH_same n o k l c m #[.bl _,H,I,rfl,q]
def Pu(c:X.A.units+64<jX):zU X (jj .NotEq) (Zw X true):=by intro a s b H x y v u Q I f g h;obtain⟨d,e,i,j,k,l,m,q⟩:=h;obtain⟨p,n⟩:=i a b s v I f;obtain⟨r,o⟩:=j a b s u I g;exact ne_dataH_same n o k l c m #[.bl _,H,I,rfl,q]
def IN:yz X (.builtin "isinstance") (λa H Q=>∃(x:V)(T:String)(t:cr)(b:Bool),a=[x,.ty T]/\yQ X.K H x t/\m7 X.K t (.type T)=↑b/\Q (.bl b) H):=by intro c s j H a k Q I r h;obtain⟨x,T,t,b,rfl,d,e,q⟩:=h;obtain⟨u,v,rfl,f,g⟩:=vals2 r;cases g;exact FJ I f d e λi=>#[.bl b,H,I.tok i,rfl,q]
def Zx:V->V->Hp->VK->Prop:=λo i H Q=>∃(p:ci)(a:List V)(k:Int)(v:V),o=.ref p/\i=.int k/\H p=↑(.lst a)/\0<=k/\a[k.toNat]?=↑v/\Q v H
def Pw:Y1 X Zx:=by intro a s n H o i w x Q I c d h;obtain⟨p,y,k,v,rfl,rfl,e,f,b,q⟩:=h;cases c;obtain⟨t,rfl⟩:=d;refine e1a3 (I.list<|v6.of (K:=X.K) e) λvh r g z=>?_;refine e1a2 (r.get b) λu j l=>?_;have A:=DP;have m:=(List.getElem?_eq_some_iff.mp b).1;exact wpAny_getItem_list g.isList f q0a (by simpa using j) #[v,H,I,l,q]
noncomputable abbrev Fc(X:Cx)(a:lV)(d:List (Str×ci))(e:List Str)(b:gN)(c:Hp)(C:ci)(f:List ci)(g:List (ci×Obj)):Cx :=
 { X with N:=e,s₀:=b,H₀:=c,env:=tm a d C X.env,outer:=X.stack,stack:=X.stack,ex:=f,fn:=λ_=>false,pn:=g,xe:=λ_ _=>False}
structure yR(X:Cx)(scope:lV)(cl:List (Str×ci))(T Fr:List Str)(idx:List Nat):Prop where
 kind:scope.kind=.function
 Zy:ot scope X.env=pure cl
 Bh:∀y∈scope.names,y.2≠.cell
 names:∀y∈scope.names,y.2=.local->scope.names.lookup y.1=some .local
 sub:∀x c,cl.lookup x=↑c->X.env.cells.lookup x=↑c
 frl:∀y∈scope.names,y.2=.free->∃c,cl.lookup y.1=↑c
 fr:∀(j:Nat)(x:Str),Fr[j]?=↑x->∃i c,idx[j]?=↑i/\X.N[i]?=↑x/\(X.env.kindOf x=some .cell\/X.env.kindOf x=some .free)/\cl.lookup x=↑c/\((oN scope X.env).names.lookup x=some .cell\/(oN scope X.env).names.lookup x=some .free)
 len:idx.length=Fr.length
noncomputable def xl(T:List Str)(a:List Nat)(b:St):St:=T.map (λ_=>none)++a.map λi=>b[i]?.join
def lookup_mem{β:Type}:∀{l:List (Str×β)} {x:Str} {v:β},l.lookup x=↑v->(x,v)∈l:=by
 intro l
 induction l with
 |nil=>intro _ _ h;cases h
 |cons p r ih =>
  intro x v h;obtain⟨y,z⟩:=p;rw[iC]at h
  cases q:x==y with
  |true =>
   rw[q]at h;cases h;rw[eq_of_beq q];exact gO
  |false =>
   rw[q]at h;exact gS _<|ih h
def yR.has{l:List Str}(B:yR X a m T l idx)(h:(oN a X.env).names.lookup x=some .cell\/(oN a X.env).names.lookup x=some .free):∃c,m.lookup x=↑c:=by
 have d:∃k,(x,k)∈(oN a X.env).names/\(k=.cell\/k=.free):=by
  rcases h with h|h
  ·exact#[_,lookup_mem h,.inl rfl]
  ·exact#[_,lookup_mem h,.inr rfl]
 obtain⟨k,d,o⟩:=d;obtain⟨⟨n,f⟩,i,e⟩:=List.mem_map.mp d;dsimp only at e
 have:n=x/\f=.free:=by
  by_cases b:(f==NameKind.free&&X.env.scope.kind==ScopeKind.function&&X.env.kindOf n==↑NameKind.cell)=true
  ·rw[gI b]at e;have g:n=x:=congrArg Prod.fst e;simp only[iq,beq_iff_eq]at b;exact#[g,b.1.1]
  ·rw[gl b]at e;have g:n=x:=congrArg Prod.fst e;have j:f=k:=congrArg Prod.snd e;rcases o with q|q
   ·exact g8 (j.trans q)<|B.Bh _ i
   ·exact#[g,j.trans q]
 obtain⟨rfl,rfl⟩:=this;exact B.frl _ i rfl
def xR.VU(x:xR P w H h)(f:H a=none)(d:vY P w (upd H a o) h a o):xR P w (upd H a o) h:=λb u e=>by
 by_cases g:b=a
 ·subst g;rw[uT]at e;cases e;exact d
 ·rw[uR g]at e;exact(x b u e).C6 (λ_ _ _ q=>q) (λc q=>by rw[uR<|u4 q f];exact q) λc i q=>by rw[uR<|u4 q f];exact q
section
variable{X:Cx}{elt iter tg:iA}{scope:lV}{cl:List (Str×ci)}{T Fr:List Str}{idx:List Nat}{wi:TI}{g:TG}{tt:TT}{te:TE}{pos:Pos}{ifs:List iA}
def W9(X:Cx)(ifs:List iA)(tt:TT):Prop:=∀(a:List (ci×Obj)) (s:gN) (b:St) (H:Hp) (Q:Bool->Hp->Prop),Inv X a b H s->tt b H Q ->
 gR 19 X.A (forIn ifs true λc r=>if r=true then do let ok <- qJ c X.env (eval c X.env);pure (mI ok) else pure (mI r)) (TP X a b Q) X.xe s
def Tl:W9 X [] (λ_ H Q=>Q true H):=λ_ _ _ H _ I h=>sv #[H,I,h]
def To(h:PT X c b):W9 X [c] b:=λa s d H Q I q=>wpAny_tests_one<|h a s d H Q I q
def Px(u:Nat->gN->Prop)
 (y:∀n s,u n s->gR (gU a w) A (pyNext H) (λr b=>match r with
 |none=>R (.ok .next) b
 |some v=>gR (gU a w) A (sk target H v) (λ_ f=>gR (gU a w) A (sL target e v) (λ_ i =>
 gR (gU a w) A (forIn ifs true λc r=>if r=true then do let z <- qJ c e (eval c e);pure (mI z) else pure (mI r)) (λz d =>
 if z=true then gR (gU a w) A (eval elt e) (λx j=>gR (gU a w) A (call (.builtin "list.append") [G,x]) (λ_ k=>∃m,m<n/\u m k) (λ_ _=>False) j) (λ_ _=>False) d
 else ∃m,m<n/\u m d) (λ_ _=>False) i) (λ_ _=>False) f) (λ_ _=>False) b) (λ_ _=>False) s)
 (n:Nat) (h:u n s):mz (gU a w) A (.compLoop (.ListComp elt [#[target,iter,ifs,0]] scope pos) 0 H G e) R s:=by
  refine codeAny_loop rfl u (λn s J=>?_) n h
  refine wpAny_noted ?_
  rw[compTurn_list]
  have l:∀{I:Type} {t:Sem I} {Q:I->gN->Prop} {E:cr->gN->Prop} {s:gN},gR (gU a w) A t Q (λ_ _=>False) s->gR (gU a w) A t Q E s:=λh=>iW h (λ_ _ q=>q) λ_ _ q=>q.elim
  refine am<|nj<|am<|l<|vG (y n s J) λr b o=>?_
  cases r with
  |none=>exact l<|ap o
  |some v =>
    refine am<|l<|vG o λ_ f B=>am<|l<|vG B λ_ i C=>am<|l<|vG C λz d p=>?_
    cases z with
    |false=>exact l<|ap #[rfl,p]
    |true=>exact am<|am<|l<|vG p λx j D=>am<|l<|vG D λ_ k F=>ap<|ap #[rfl,F]
end
structure Xa(X:Cx)(c P:ci):Prop where
 code:X.env.code=.ref c
 hd:qP X.base c P
 blt:∃bm ob,X.mg "__builtins__"=↑(.ref bm)/\bm≠oo/\X.base.get? bm=↑ob/\ob.cls=.type "module"/\ob.dict=↑oo/\ob.data=.plain
def TabAt(H:Hp)(P:ci):Prop:=∃a,H P=↑(.Fa a)/\uh a.toList
def BD{a b:Int}:∀(l:List cr),uh l->uh (l++[.int a 0,.int b 0,c])
 | [],_=>trivial
 | .int _ _::.int _ _::_::r,h=>BD r h
noncomputable def zv(a b:List Int):Bool:=(a.zip b).all λp=>decide<|p.1<p.2
def Tq(a b:List Int):(h8<|min a.length b.length).all (λj=>decide<|a.getD j 0<b.getD j 0)=zv a b:=by
 unfold zv;rw[kW,oB,oB];constructor
 ·intro h p f;obtain⟨j,c⟩:=lx f;obtain⟨d,e⟩:=List.getElem?_zip_eq_some.mp c;have l:=(List.getElem?_eq_some_iff.mp d).1;have m:=(List.getElem?_eq_some_iff.mp e).1;have:=h j<|List.mem_range.mpr q0a;rw[jg,jg,d,e]at this;exact this
 ·intro h j c;have c:=List.mem_range.mp c;have g:a[j]?=↑(a.getD j 0):=by rw[jg,jp q0a];rfl
  have i:b[j]?=↑(b.getD j 0):=by rw[jg,jp q0a];rfl
  have k:(a.zip b)[j]?=↑(a.getD j 0,b.getD j 0):=List.getElem?_zip_eq_some.mpr #[g,i];exact h _<|ju k
def Ks(S:Hp->ci->List V->Prop)(P:ci)(g:TA):TE:=λh H Q=>g h H λi c=>∃(a b:ci)(e f:List Int),i=[.ref a,.ref b]/\S c a (e.map V.int)/\S c b (f.map V.int)/\TabAt c P /\
 ∀d,(∀b o,b≠P->c b=↑o->d b=↑o)->(∀b,b≠P->c b=none->d b=none)->TabAt d P->Q (.bl<|zv e f) d
abbrev Zz(K:gH)(P:ci)(a:TA):TE:=Ks (v6 K) P a
abbrev Xb(K:gH)(P:ci)(a:TA):TE:=Ks (yY K) P a
structure Py(X:Cx)(S:Hp->ci->List V->Prop)(P:ci):Prop where
 go:∀{pins:List (ci×Obj)} {σ:St} {H1:Hp} {s1:gN} {a b:ci} {us vs:List V} {ps:Array cr},Inv X pins σ H1 s1->X.A.handled=none->S H1 a us->S H1 b vs->H1 P=↑(.Fa ps) ->
  ∃ia ib:List cr,Vals us ia/\Vals vs ib/\a<⇑s1/\b<⇑s1/\a≠P/\b≠P/\∀(Q:cr->gN->Prop)(E:cr->gN->Prop),
   (∀h2 St Mid,(∀A':jq,A'.handled=none->WalksU X.prog X.w A' (⇑s1+4) [⇑s1+4,⇑s1+2,⇑s1+3,⇑s1,⇑s1+1,a,b] [⇑s1+4,⇑s1+3,⇑s1,⇑s1+1] (min ia.toArray.size ib.toArray.size) (λi vals=>∃x y,ia.toArray[i]?=↑x/\ib.toArray[i]?=↑y/\vals=#v[x,y]) St Mid) ->
    St 0 h2->h2.objs.size=⇑s1+5->(∀c o,s1.heap.get? c=↑o->h2.get? c=↑o)->Q (.ref (⇑s1+4)) { s1 with heap:=h2})->gR 19 X.A (call (.type "zip") [.ref a,.ref b]) Q E s1
def Inv.tabled{s':gN}(I:Inv X d l H s)(h:H P=↑(.Fa j))(m:s'.os=s.os)(p:ni s'.gens)
 (k:∀b o,b≠P->s.heap.get? b=↑o->s'.heap.get? b=↑o)(e:s'.heap.get? P=some { cls:=.none,data:=.fields (j++more)}):Inv X d l (upd H P<|.Fa<|j++more) s':=by
  have i:∀b,H b=none->b≠P:=λb n z=>by rw[z,h]at n;cases n
  have g:∀b u,H b=↑u->(∀q,u≠.Fa q)->b≠P:=λb u n f z=>by rw[z,h]at n;cases n;exact f _ rfl
  refine I.VB (ch:=[]) m #[λb o q n _ _=>k b o (i b n) q,λb o q n _ _=>#[o.slots,k b o (i b n) q],λb o q n _=>by rw[uR<|i b n];exact n,λb o q _=>?_,λb r q=>by rw[uR<|g b _ q<|λ_ z=>nomatch z];exact q,λb o u q=>by rw[uR<|g b _ q<|λ_ z=>nomatch z];exact q,λb w q=>?_] (λb u q=>?_) p λb a=>by cases a
  · by_cases a : b = P
    · rw[a]; exact#[_, e]
    · exact#[o, k b o a q]
  · by_cases a : b = P
    · subst a
      rw[h]at q
      cases q
      exact#[more,uT]
    · exact#[#v[], by rw[uR a, q]; simp]
  · by_cases a : b = P
    · subst a
      rw[uT]at q
      cases q
      exact e
    · rw[uR a]at q
      refine(I.vL b u q).C6 (λc v t z=>k c v ?_ z) (λc z=>by rw[uR<|g c _ z<|λ_ y=>nomatch y];exact z) λc r z=>by rw[uR<|g c _ z<|λ_ y=>nomatch y];exact z
      rcases t with y|y
      · rw[y]; exact a
      · exact g c _ y<|λ_ x => nomatch x
def Pz{s:gN}{a:Env}{i j:Int}(d:a.scope.kind=.function)(g:a.kindOf b=some .local)(k:a.kindOf c=some .local)(e:s.heap.Ns a.locals m)
 (l:m b=↑(.int i t))(n:m c=↑(.int j u))(o:(b==55)=false)(p:(c==55)=false)(h:Q (.bool<|decide<|i<j) s):gR (gU f w) A (eval (.Compare (.Name b q) [.Lt] [.Name c r] v) a) Q E s:=by
  refine sK (pE (kJ d g e l<|pE (kJ d k e n<|lt_int h) p) o)<|vH _
def IP(Z:Py X S P)(aC:X.calm=true)(G:Xa X c P)(ae:X.A.depth<sN)(aD:Gl X "all")(aj:X.mg "all"=none)(aE:Gl X "zip")(aF:X.mg "zip"=none)(af:PA X [e1,e2] ta)
 (hk:n.kind=.function) (aG:n.isCoroutine=false) (ag:ot n X.env=pure []) (ah:∀y∈n.names,y.2≠.cell) (h0:n.names.lookup (".0":Str)=↑NameKind.local) (ao:n.names.lookup xa=some .local) (aq:n.names.lookup xb=some .local) (aH:xa≠xb)
 (da:(xa==55)=false) (db:(xb==55)=false)
 (aI:gJ [e1,e2] X.env=(false,eval e1 X.env)::gJ [e2] X.env:=by rfl) (aJ:(ja p3<|gJ [e2] X.env).any (·.1)=false:=by rfl) :
    PE X (.Call (.Name "all" p1) [.GeneratorExp (.Compare (.Name xa q1) [.Lt] [.Name xb q2] q3) [#[.Tuple [.Name xa pa,.Name xb pb] kt pt,.Call (.Name "zip" p2) [e1,e2] [] p3,[],0]] n E] [] p4) (Ks S P ta):=by
  intro p s σ H Q I h
  have hh:X.A.handled=none:=I.ok.hd aC
  refine kE<|zn I aD aj boot_all<|pA ?_ rfl rfl
  refine jQ<|wpAny_GeneratorExp_walksQTD hh aG ag ah h0 ao aq aH hk ae (kE<|zn I aE aF boot_zip<|jS (vG (af p3 p s σ H _ I h) λus m z9=>e2a3 z9 λvs H1 I1 r1 q1=>?_) aI aJ)<|λ_=>rfl
  obtain⟨a,b,ns,ms,rfl,ha,f,⟨U,hP,tr⟩,q⟩:=q1
  obtain⟨ua,ub,rfl,ra,rb⟩:=vals2 r1
  cases ra
  cases rb
  obtain⟨ia,ib,va,vb,aK,aL,aP,bP,aM⟩:=Z.go I1 hh ha f hP
  have B:m.heap.get? P=↑(qQ U):=I1.vL P _ hP
  have ar:P<⇑m:=gP B
  refine aM _ _ λh2 St au W av aN k2=>?_
  refine(W X.A hh).self 0 { m with heap:=h2} _ _ av ?_
  have I2:Inv X p σ H1 { m with heap:=h2}:=I1.kept (t':=m.toks) k2
  refine#[I2.nolimit,?_]
  have aw:qP h2 c P:=G.hd.keeps λb o e=>I2.bk b o e
  have ax:=aw.code (k2 P _ B) tr
  have aO:=aw.tab<|k2 P _ B
  obtain⟨bm,ob,b1,b2,b3,b4,b5,b6⟩:=G.blt
  -- an the J: the ud is U++l,all else is kept
  have Y:∀(J:cr)(D:iJ)(R:Nat)(l:Array cr),(∀b o,b≠P->h2.get? b=↑o->D.get? b=↑o)->h2.objs.size<=D.objs.size->D.get? P=some { cls:=.none,data:=.fields (U++l)}->uh (U++l).toList ->
      gR 19 X.A (builtinsFor X.env.globals X.env.builtins) (λbi d=>∃I fp wr r Pt L au pz F,hO (⇑m+4)=.ref I/\(∀A':jq,A'.handled=none->WalksU X.prog X.w A' I fp wr r Pt L au)/\(∀i M,Pt i M->∃va vb,M=#v[va,vb])/\L 0 d.heap/\(∀b∈fp,b<⇑d)/\d.heap.NoLimit/\rj∉wr /\
          (∀N:iJ,(∀b o,d.heap.get? b=↑o->N.get? b=↑o) ->
            QuietGenTD X.prog X.w (genEnv n [] ⇑d J bi X.env) xa xb [] (.Compare (.Name xa q1) [.Lt] [.Name xb q2] q3) (h8 ⇑d) wr Pt pz F N (X.A.depth+1) (X.A.units+8)) /\
          (∀a C R gs,gs.bare=true->⇑d<a->C.objs.size=a+1->(∀b o,d.heap.get? b=↑o->C.get? b=↑o) ->
            WalksS X.prog X.w X.A.in4 a (a::⇑d::h8 ⇑d) (⇑d::wr) (GenOnlyQ d.gens.size) (passing pz r 0).length
              (λj y=>∃i,(passing pz r 0)[j]?=↑i/\F i y) (GenAt X.prog X.w X.A.in4 a d.gens.size ⇑d (h8 ⇑d) wr pz r F) ->
            GenAt X.prog X.w X.A.in4 a d.gens.size ⇑d (h8 ⇑d) wr pz r F 0 { d with gens:=d.gens.push gs,toks:=R,heap:=C} ->
            gR 19 X.A (ur []) (λus ak=>gR 19 X.A (call (.builtin "all") (.ref a::us)) (EP X p σ Q) X.xe ak) X.xe { d with gens:=d.gens.push gs,toks:=R,heap:=C})) X.xe { m with heap:=D,toks:=R}:=by
    intro J D R l k3 aQ e3 aR
    have I3:Inv X p σ (upd H1 P<|.Fa<|U++l) { m with heap:=D,toks:=R}:=Inv.tabled (s:={ m with heap:=h2}) (s':={ m with heap:=D,toks:=R}) I2 hP rfl I2.bare k3 e3
    have ay:=I3.bk
    refine wpAny_builtinsFor (by rw[I3.ok.glob];exact I3.mod.glob.keeps ay) b1 b2 (ay _ _ b3) b4 b5 b6 ?_
    have nz:∀k,⇑m+k≠P:=λk=>je<|hR ar<|oF _ _
    have aS:rj<⇑m:=by obtain⟨mc,hn,_⟩:=I1.nolimit;exact hn.lt
    have aa:=va.length
    have ab:=vb.length
    rw[gM]at aa ab
    have aT:∀(i:Nat)(x:cr),ia.toArray[i]?=↑x->∃t,x=.int (ns.getD i 0) t:=λi x hx=>qN (AG va) i x (by simpa using hx)
    have aU:∀(i:Nat)(x:cr),ib.toArray[i]?=↑x->∃t,x=.int (ms.getD i 0) t:=λi x hx=>qN (AG vb) i x (by simpa using hx)
    have u:∀k,k<5->⇑m+k<D.objs.size:=λk hk=>hR (Nat.add_lt_add_left hk _)<|ij (qw aN.symm) aQ
    refine#[_,_,_,_,_,_,_,(λ_=>true),(λi y=>y=.bool (decide<|ns.getD i 0<ms.getD i 0)),rfl,W,λi M z9=>e2a3 z9 λx y _ _ e=>#[x,y,e],(W X.A hh).frame _ _ _ av λb f o e=>k3 b o ?_ e,λb f=>?_,I3.nolimit,?_,λN a1=>?_,λg h5 aV gs gb g1 g2 k5 WS GA=>?_]
    · simp only[im, jc, lX]at f
      rcases f with z|z|z|z|z|z|z<;>rw[z]
      · exact nz 4
      · exact nz 2
      · exact nz 3
      · exact nz 0
      · exact nz 1
      · exact aP
      · exact bP
    · simp only[im, jc, lX]at f
      rcases f with z|z|z|z|z|z|z<;>rw[z]
      · exact u 4 q0q
      · exact u 2 q0q
      · exact u 3 q0q
      · exact u 0 q0q
      · exact u 1 q0q
      · exact ny aK<|u 0 q0q
      · exact ny aL<|u 0 q0q
    · intro f
      simp only[im,jc,lX]at f
      have T:∀k,rj≠⇑m+k:=λk=>gZ<|hR aS<|oF _ _
      rcases f with z|z|z|z
      · exact T 4 z
      · exact T 3 z
      · exact T 0 z
      · exact T 1 z
    · refine#[λA' E' i az aA s2 m2 _ _ _ _ _ _ _ _ => sv #[rfl, s2.heap, s2.toks, rfl, λ_ _ e => e], λA' E' i az aA s2 m2 hA _ _ aW _ hn aj aX _ => ?_]
      obtain⟨x,y,hx,hy,e⟩:=aW
      obtain⟨ex,ey⟩:az=x/\aA=y:=by simpa using congrArg si e
      subst ex ey
      obtain⟨t1,rfl⟩:=aT i _ hx
      obtain⟨t2,rfl⟩:=aU i _ hy
      exact Pz hk ao aq hn aj aX da db #[rfl,s2.heap,s2.toks,rfl,λ_ _ e=>e]
    · have ai : passing (λ_ => true) (min ia.toArray.size ib.toArray.size) 0 = h8 (min ia.toArray.size ib.toArray.size) := by
        unfold passing
        simp
      rw[ai]at WS
      have W1:=WS.in4_1
      refine kZ<|call_all_walkS<|W1.self 0 _ _ _ GA ⟨g,_,_,_,_,_,_,(λj=>decide<|ns.getD j 0<ms.getD j 0),rfl,W1,GA,λj v s7 Q' E' hv hq=>?_,λs7 mv=>?_⟩
      · obtain⟨i, hi, rfl⟩ := hv
        have:i=j:=by
          obtain⟨hl,he⟩:=List.getElem?_eq_some_iff.mp hi
          rw[List.getElem_range]at he
          exact he.symm
        subst this
        exact j4 hq
      · have k7 : ∀b o, b<D.objs.size -> (∀k, b ≠ ⇑m+k) -> D.get? b = some o -> s7.heap.get? b = some o := λb o f hn e => mv.heap b o (by
          simp only[im,jc,lX,qe]
          exact#[gZ f,hn 4,hn 3,hn 0,hn 1]) (k5 b o e)
        have O:∀b,b<⇑m->∀k,b≠⇑m+k:=λb f k=>gZ<|hR f<|oF _ _
        have e7:s7.heap.get? P=some { cls:=.none,data:=.fields (U++l)}:=k7 P _ (gP e3) (O P ar) e3
        have I7:Inv X p σ (upd H1 P<|.Fa<|U++l) s7:=Inv.tabled I1 hP mv.os (AllBare.movedS (s:={ m with heap:=h5,gens:=m.gens.push gs,toks:=aV}) (I1.bare.push gb) mv) (λb o f e=>k7 b o (gP<|k3 b o f<|k2 b o e) (O b<|gP e)<|k3 b o f<|k2 b o e) e7
        refine#[.bl _,_,I7,rfl,?_]
        have al:(h8 (h8<|min ia.toArray.size ib.toArray.size).length).all (λj=>decide<|ns.getD j 0<ms.getD j 0)=zv ns ms:=by
          rw[lp,gY,gY,<- aa,<- ab]
          exact Tq ns ms
        rw[al]
        exact q _ (λb o f e=>by rw[uR f];exact e) (λb f e=>by rw[uR f];exact e) #[_,uT,aR]
  cases aB:codeAmong E U.toList with
  |none =>
    refine wpAny_genexprCodeX G.code ax aO aB λc' D R hx aY aZ _ _ a0 _=>?_
    refine Y (.ref c') D R #v[lF E.line,lF E.col,.ref c'] (λb o f e=>hx b o f e) (ij aY<|lM aZ) a0.2 ?_
    rw[pI]
    exact BD _ tr
  |some cv =>
    refine wpAny_genexprCode_hit G.code ax aB ?_
    have:=Y cv h2 m.toks #v[] (λb o _ e=>e) (gK _) (by simpa using k2 P _ B) (by simpa using tr)
    exact this
def a1V:Py X (v6 X.K) P:=#[λ{u L H1 i a b M N y} k O A B C=>by
 refine e1a3 (k.list A) λv D d R=>?_;refine e1a3 (k.list B) λx F f S=>?_;have h:i.heap.get? P=↑(qQ y):=k.vL P _ C
 have g:∀(l:ci)(vh:Array cr),i.heap.IsList l vh->l≠P:=λl vh m=>e1a3 m λo e c _ z=>by rw[z,h]at e;cases e;cases c
 have j:∀(l:ci)(vh:Array cr),i.heap.IsList l vh->l<⇑i:=λl vh m=>e1a2 m λo e _=>gP e;refine#[v,x,D,F,j _ _ d.isList,j _ _ f.isList,g _ _ d.isList,g _ _ f.isList,λQ E G=>call_zip_2 d.isList f.isList λH I n p q r s t=>?_]
 exact G H _ _ (λT J=>(WalksT.zip2 (prog:=X.prog) (w:=X.w) J _ _ _ _ _ _ _ (zipApart_new (j _ _ d.isList) (j _ _ f.isList)) v.toArray x.toArray).toU) #[I,n,#[_,_,p],q,r,d.isList.at λo e=>t _ o e,f.isList.at λo e=>t _ o e] s t]
def NE{K:gH}{k:Nat}{f:gN}{C:List cr} 
 (KX:K.In f.heap) (I:f.heap.Ns g9 U) (hb:f.heap.Ns oo mb) (ab:∀x:Str,x≠"__name__"->mb x=mM x) (J:f.heap.NoLimit) (hg:f.gens=#v[])
 (D:f.heap.get? a=some { cls:=.type "list",data:=.seq C.toArray}) (hi:kR C X) (hl:X.length<=gL) (hr:wg k rf)
 (hT:f.heap.TableAt c tab #v[]) (ae:K.lookup tab=none)
 (F:∀base:iJ,K.In base->base.Ns g9 U->(∀b o,f.heap.get? b=↑o->o.cls≠.type "list"->o.cls≠.none->base.get? b=↑o)->vB P w K U base CX k fa fd [x] sp) (E:∀(s:gN)(u:cr),sD s fd #[[u],[]] [(x,u)])
 (af:∀H:Hp,v6 K H a (X.map V.int)->H tab=↑(.Fa #v[])->sp [.ref a] H (λv _=>v=.bl true) λ_ _ _=>False)
 (ag:∀H e j,CX [] H f (λ_ _ _=>False) e j->False) :
    mz (gU P w) rf (.call (.ref fa) #[[.ref a],[]]) (λr j=>r=.ok (.ret<|.bool true)/\OldK f.heap j.heap/\j.os=f.os/\ni j.gens) f:=by
  have rv:=FR hi
  have L:=hi.length
  have l:f.heap.get? tab=some { cls:=.none,data:=.fields #v[]}:=hT.2
  have nat:a≠tab:=λz=>by rw[z,l]at D;cases D
  -- from an abstract ah in aa nothing ai the Y and the ud aj be M
  have core:∀H:Hp,(∀b,H b=none\/(b=a/\∃o xs,H b=↑(.JP o<|.lst xs))\/(b=tab/\H b=↑(.Fa #v[])))->v6 K H a (X.map V.int)->H tab=↑(.Fa #v[])->xR P w H f.heap->(H a≠none->K.lookup a=none) ->
      mz (gU P w) rf (.call (.ref fa) #[[.ref a],[]]) (λr j=>r=.ok (.ret<|.bool true)/\OldK f.heap j.heap/\j.os=f.os/\ni j.gens) f:=by
    intro H Z hS N O hK
    have freeOf:∀{b:ci} {o:Obj},f.heap.get? b=↑o->o.cls≠.type "list"->o.cls≠.none->H b=none:=λ{b o} e c1 c2=>by
      rcases Z b with z|⟨z,_⟩|⟨z,_⟩
      · exact z
      · rw[z, D]at e; cases e; exact g8 rfl c1
      · rw[z, l]at e; cases e; exact g8 rfl c2
    have y:∀{b:ci} {m:Str->Option cr},f.heap.Ns b m->(Im f.heap H).Ns b m:=λ{b m} z9=>e3a3 z9 λo es ep e d r=>by
      refine#[o,es,ep,DH e ?_,d,r]
      rcases Z b with z|⟨z,_⟩|⟨z,_⟩
      · exact z
      · rw[z, D]at e; cases e; have d' : Data.seq C.toArray _ = Data.dict es ep := d; cases d'
      · rw[z, l]at e; cases e; have d' : tE #v[] = Data.dict es ep := d; cases d'
    have Q:K.In (Im f.heap H):=λb o e=>DH (KX b o e) (by
      rcases Z b with z|⟨z,_,_,z2⟩|⟨z,_⟩
      · exact z
      · rw[z]at e z2; rw[hK<|by rw[z2]; simp]at e; cases e
      · rw[z, ae]at e; cases e)
    have hM:Mod K U (Im f.heap H):=#[Q,y I,#[mb,y hb,ab],e1a2 J λmc h1 h2=> #[mc,y h1,h2]]
    have e0:Iy P w K U (Im f.heap H) rf [] f H:=#[rfl,hM,λb o e=>Sz e,qw<|M5 _ _,trivial,λb hb=>g8 (show b∈([]:List ci) from hb) q0o,O,.of_eq hg]
    refine jN ((F _ Q (y I) λb o e c1 c2=>DH e<|freeOf e c1 c2).run rf [] f H ⟨[.ref a],[]⟩ [.ref a] [.ref a] _ _ hr e0 (E f<|.ref a) (.cons rfl .nil)<|af H hS N) λr j h=>?_
    cases r with
    |error e=>exact(ag H e j h).elim
    |ok fl =>
      cases fl with
      |next=>exact iv h
      |brk=>exact iv h
      |cont=>exact iv h
      |ret u =>
        obtain⟨v,H',os,R,un,B,r',q⟩:=h
        have q':v=.bl true:=q
        subst q'
        obtain rfl:u=qZ true:=r'
        have G:∀b o,f.heap.get? b=↑o->H b=none->j.heap.get? b=↑o:=λb o e n=>un.keep b o e n (by intro z;exact g8 (show b∈([]:List ci) from z) q0o) q0o
        obtain⟨more,hm⟩:=un.A7 tab _ N
        have S:j.heap.get? tab=some { cls:=.none,data:=.fields (#v[]++more)}:=B tab _ hm
        have p:∀b o,f.heap.get? b=↑o->b≠tab->j.heap.get? b=↑o:=λb o e n=>by
          rcases Z b with z|⟨_,ob,xs,z⟩|⟨z,_⟩
          · exact G b o e z
          · have z2 := un.A6 b ob _ z
            obtain⟨e1,_⟩:=O b _ z
            obtain⟨e2,_⟩:=B b _ z2
            rw[e]at e1;cases e1
            exact e2
          · exact g8 z n
        refine#[rfl,#[λb o e=>?_,λb o e=>?_],os,R]
        · by_cases t : b = tab
          · subst t
            rw[l]at e
            cases e
            exact .inr<|.inl #[hT.isCodeTable,rfl,#v[],more,rfl,S]
          · exact .inl<|p b o e t
        · by_cases t : b = tab
          · rw[t]; exact#[_, S]
          · exact#[o, p b o e t]
  have T:∀H:Hp,vY P w H f.heap tab (.Fa #v[]):=λH=>l
  cases hk:K.lookup a with
  |some o =>
    have e:=KX a o hk
    rw[D]at e
    cases e
    refine core (λb=>if b=tab then some (.Fa #v[]) else none) (λb=>?_) (.inr #[_,C.toArray,_,hk,rfl,rfl,rfl,by rw[gY,L];exact hl,by simpa using rv]) (gI rfl) (λb u z=>?_) λz=>g8 (gl nat) z
    · by_cases g : b = tab
      · exact .inr<|.inr #[g, gI g]
      · exact .inl<|gl g
    · by_cases g : b = tab
      · have A := (gI g).symm.trans z
        cases A
        rw[g]
        exact T _
      · have A := (gl g).symm.trans z
        cases A
  |none =>
    refine core (λb=>if b=tab then some (.Fa #v[]) else if b=a then some (.JP { cls:=.type "list",data:=.seq C.toArray} (.lst<|X.map V.int)) else none) (λb=>?_) (.inl<|.inr ⟨{ cls:=.type "list",data:=.seq C.toArray},(gl nat).trans<|gI rfl⟩) (gI rfl) (λb u z=>?_) λ_=>hk
    · by_cases g : b = tab
      · exact .inr<|.inr #[g, gI g]
      · by_cases i : b = a
        · exact .inr<|.inl #[i, _, _, (gl g).trans<|gI i]
        · exact .inl<|(gl g).trans<|gl i
    · by_cases g : b = tab
      · have A := (gI g).symm.trans z
        cases A
        rw[g]
        exact T _
      · by_cases i : b = a
        · have A := ((gl g).trans<|gI i).symm.trans z
          cases A
          subst i
          exact#[D,by rw[gM];exact hl,C,_,rv,D]
        · have A := ((gl g).trans<|gl i).symm.trans z
          cases A
structure IQ(mg:Str->Option cr)(base:iJ)(c tab:ci):Prop where
 hd:qP base c tab
 blt:∃bm ob,mg "__builtins__"=↑(.ref bm)/\bm≠oo/\base.get? bm=↑ob/\ob.cls=.type "module"/\ob.dict=↑oo/\ob.data=.plain
def PB{l:qz}{n k:Nat}{p:List Str}{XP:(Str->Option cr)->iJ->Prop}{YP:iO->iJ->Prop}{d:DefRec}{K:Params->gH}{sp:iO->gH->ci->Sp} 
 (hn:l.most=↑n) (L:n<=gL) (M:d.params.defaults=[]) (hr:wg k rf)
 (hY:∀(w:iO)(h:iJ),YP w h->(K w.params).In h) (z:(recsOf q).find? (λe=>e.name==tx)=↑dx)
 (F:∀(w:iO)(r:Str->Option cr)(I:ci)(h:iJ),(K w.params).In h->h.Ns g9 r->r d.name=↑(.ref I) ->
 ∃(c j:ci)(N:iE),nS (K w.params) tx=↑(c,j)/\(K w.params).lookup j=none/\(∀(s:gN)(u:cr),sD s N #[[u],[]] [(x,u)]) /\
 ∀i:iJ,(K w.params).In i->i.Ns g9 r->IQ r i c j->vB l.prog w (K w.params) r i CX k I N [x] (sp w (K w.params) j))
 (O:∀(w:iO)(K:gH)(H:Hp)(a j:ci)(J:List Int),J.length<=n->v6 K H a (J.map V.int)->H j=↑(.Fa #v[])->sp w K j [.ref a] H (λv _=>v=.bl true) λ_ _ _=>False)
 (P:∀(H:Hp)(s:gN)(e:cr)(Q:gN),CX [] H s (λ_ _ _=>False) e Q->False) :
    uL q p XP YP l.row.toRowW d [] (λf vs=>tS f vs):=by
  refine Att.IH hn M λw ab A r mb I o pm cd ae a vs J G Y ho hd af R B t m hg=>?_
  have S:=hY w _ Y
  obtain⟨c,j,N,ht,U,hb,hF⟩:=F w r I _ S G.T.g R
  obtain⟨C,hP⟩:=PySem.W.tab_of G.T S z ht
  obtain⟨bm,ob,b1,b2,b3,X,b5,b6⟩:=G.T.bmain
  refine NE S G.T.g G.T.b G.T.builtins G.T.nolimit hg B t (ij m L) hr (C.tab hP) U (λi kb nb bk=>hF i kb nb #[?_,bm,ob,b1,b2,bk _ _ b3 (by rw[X];simp) (by rw[X];simp),X,b5,b6]) hb (λH hS hH=>O w _ H a j J m hS hH) λH e Q=>P H A e Q
  obtain⟨o,Z,D,tf,y,tg,aa,E,tt,e1,r1,r2⟩:=C
  exact#[o,Z,D,tf,y,tg,aa,E,tt,bk _ _ e1 (by rw[r1];simp) (by rw[r1];simp),r1,r2]
end L2
namespace SX
open PySem PyProof.Rows
def a1W{k:Int}(S:vR w a c s.heap)(h:Q (.bool<|decide<|k∈c) 99):gR (gU b w) A (jj .In (.int k u)<|.ref a) Q E s :=
 wpAny_inSet_of (knd:=kj b w) (k:=k) (pJ _ _ _ _) rfl S.of h
def Xd{k:Int}(S:vR w a d s.heap)(room:d.length+1<=127)
 (h:∀c b e,iU a s.heap c->vR w a b c->b.Perm (if k∈d then d else k::d)->Q .none { s with heap:=c,toks:=e}) :
    gR (gU f w) A (call (.builtin "set.add") [.ref a,.int k u]) Q E s:=by
  refine iP F.slot_set_add S.typeIs F.entry_set_add ?_<|F.args_set_add_2 _ _
  show gR _ _ (pf "add" #[[.ref a,.int k u],[]] >>= _) _ _ _
  refine am<|am<|ap<|ap<|am ?_
  refine VR S room λc b e g i p _=>ap #[_,rfl,h c b e g i p]
def Tr{k:Int}(S:vR w a e s.heap)
 (h:∀c b f,iU a s.heap c->vR w a b c->(if k∈e then e.Perm (k::b) else b=e)->Q .none { s with heap:=c,toks:=f}) :
    gR (gU d w) A (call (.builtin "set.discard") [.ref a,.int k u]) Q E s:=by
  refine iP F.slot_set_discard S.typeIs F.entry_set_discard ?_<|F.args_set_discard_2 _ _
  show gR _ _ (pf "discard" #[[.ref a,.int k u],[]] >>= _) _ _ _
  refine am<|am<|ap<|ap<|am ?_
  unfold Builtin.Frozenset.withSetAsKey setDiscard
  refine wpAny_tryCatch ?_
  refine iz<|am<|(kj d w).pyHash (k:=k) (pJ _ _ _ _) ?_
  exact FU (s:=99) S λc b g i p=>ap #[_,rfl,h c b _ g i p]
def Kt(h:∀a,CS w ⇑s a->(∀c o,s.heap.get? c=↑o->a.get? c=↑o)->Q (.ref ⇑s) 96) :
  mz (gU b w) A (.call (.builtin "set.__new__") #[[.type "set"],[]]) (wants Q E) s:=by
 refine mB<|am<|mF F.newCall_set_0<|ap #[kP pB _,jG F.entry_set_new ?_];rw[jr pB _];unfold Builtin.«set.__new__» o9;have g:=pK;obtain⟨i,j,k,l,m⟩:=s;dsimp only;generalize d:newSet=n
 wp_walk
 subst d;refine Pq λa e f=>?_;exact ap<|h a e f
def IR(h:∀k,vR w ⇑s [] k->(∀c o,s.heap.get? c=↑o->k.get? c=↑o)->Q (.ref ⇑s) { s with heap:=k}):gR (gU n w) A (call (.type "set") []) Q E s:=by
 obtain⟨I,J,p⟩:=F.called_set.mro;have l:=F.called_set.made;have q:=F.called_set.sub;refine mD<|mB<|ap #[nK _ q0s,jG F.entry_type_call ?_];rw[tN (uK "set" [] []) rfl];have v:=F.called_set.notType;have x:=F.called_set.canCreate;have y:=F.typeCall_set_0
 repeat (any_goals (first|assumption|wp_step))
 refine jN (Kt (E:=E) (Q:=λf g=>f=.ref ⇑s/\∃a,g=96/\CS w ⇑s a/\∀c o,s.heap.get? c=↑o->a.get? c=↑o) λa j m=>#[rfl,a,rfl,j,m]) λz L b=>?_
 cases z with
 |error e=>exact b
 |ok f1 =>
  cases f1 with
  |ret f =>
   obtain⟨rfl,a,rfl,j,m⟩:=b;have t:vR w ⇑s [] a:=j.set;have B:lS 96 (.ref ⇑s) "set":=vR.typeIs (s:=96) t;have C:=F.called_set.init.lookup;have D:=F.called_set.init.bind<|.ref ⇑s
   repeat (any_goals (first|assumption|wp_step))
   refine jN (nA (R:=wants (λr i=>r=.none/\i=96) E) F.called_set.init.plain F.entry_set_init<|check_set_init B ?_) λG M d=>?_
   ·obtain⟨H,u,N,O⟩:=id j;unfold Builtin.«set.__init__» noKeywords
    wp_walk
    exact#[rfl,rfl]
   ·cases G with
    |error e=>exact d
    |ok f2 =>
     cases f2 with
     |ret r =>
      obtain⟨rfl,rfl⟩:=d
      repeat (any_goals (first|assumption|wp_step))
      exact h _ t m
     |_=>exact d.elim
  |_=>exact b.elim
end SX
namespace L2
open PySem PySem.Spec PyProof.Rows SX
section
variable{X:Cx}
def NF:yz X (.type "set") (λa H Q=>a=[]/\∀p:ci,H p=none->Q (.ref p) (upd H p<|w9 X.w p [])):=by intro b s c H a d Q I r h;obtain⟨rfl,q⟩:=h;cases r;exact IR λe S k=>#[.ref ⇑s,_,I.laid (t':=s.toks) k (gK _)<|GF S,rfl,q _<|I.vL.fresh<|gK _]
def a1X(w:iO):R2:=λx y H Q=>∃(k:Int)(a:ci)(b:List Int),x=.int k/\y=.ref a/\H a=↑(w9 w a b)/\Q (.bl<|decide<|k∈b) H
def Xe:zU X (jj .In) (a1X X.w):=by intro b s f H x y v u Q I c d h;obtain⟨k,a,g,rfl,rfl,e,q⟩:=h;obtain⟨t,rfl⟩:=c;cases d;exact a1W (zu I e) #[.bl _,H,I.tok _,rfl,q]
def Inv.sset{f:Nat}(I:Inv X c h H s)(i:H a=↑(w9 X.w a k))(j:iU a s.heap g)(S:vR X.w a d g) :
  Inv X c h (upd H a<|w9 X.w a d) { s with heap:=g,toks:=f} :=
 I.write (t':=f) (by rw[i];trivial) (.inl rfl) (λb u n e=>j.extBut b u n e) (e3a2 S λ_ _ _ e _=> #[_,e]) (GF S)
def Tt:YH X "set.add" (λx d H Q=>∃(a:ci)(c:List Int)(k:Int),x=.ref a/\d=[.int k]/\H a=↑(w9 X.w a c)/\c.length+1<=127/\∀b:List Int,b.Nodup->b.Perm (if k∈c then c else k::c)->Q .wq (upd H a<|w9 X.w a b)):=by intro e s m H x d v n Q I g i h;obtain⟨a,c,k,rfl,rfl,f,j,q⟩:=h;cases g;obtain⟨u,rfl,t,rfl⟩:=i.one;exact Xd (zu I f) j λo b r l S p=>#[.wq,_,I.sset f l S,rfl,q b S.nodup p]
def PD:YH X "set.discard" (λx d H Q=>∃(a:ci)(c:List Int)(k:Int),x=.ref a/\d=[.int k]/\H a=↑(w9 X.w a c)/\∀b:List Int,b.Nodup->(if k∈c then c.Perm (k::b) else b=c)->Q .wq (upd H a<|w9 X.w a b)):=by intro e s l H x d v m Q I g i h;obtain⟨a,c,k,rfl,rfl,f,q⟩:=h;cases g;obtain⟨u,rfl,t,rfl⟩:=i.one;exact Tr (zu I f) λn b o j S p=>#[.wq,_,I.sset f j S,rfl,q b S.nodup p]
def Xf(w:iO)(r:V->List V->Hp->VK->Prop)(d:TE)(t:TA):TE:=λb H Q=>d b H λx c=>(∃(a:ci)(e:List Int),x=.ref a/\c a=↑(w9 w a e))/\t b c λf g=>r x f g Q
variable{o e:iA}{es:List iA}{to:TE}{t:TA}{name:Str}{apos cpos:Pos}{id:String}{r:V->List V->Hp->VK->Prop}
def PF(i:Slot "set" name id)(k:uy (.builtin id)=pure (.type "method_descriptor"))(q:YH X id r)(u:PE X o to)(y:PA X (e::es) t)
 (f:iD o name X.env (eval o X.env)=eval o X.env:=by rfl)
 (j:((ja cpos<|gJ (e::es) X.env).all (λx=>!x.1)&&(mq cpos<|kA [] X.env).all (λx=>x.1.isSome)&&decide ((e::es).length+([]:List pH).length+(if ([]:List pH).isEmpty then 0 else 1)<30))=true:=by rfl)
 (g:(apos.endLine==cpos.line)=true:=by rfl) (z:gJ (e::es) X.env=57::gJ es X.env:=by rfl) (d:(ja cpos<|gJ es X.env).any (·.1)=false:=by rfl) :
    PE X (.Call (.Attribute o name apos) (e::es) [] cpos) (Xf X.w r to t):=by
  intro c s l H Q I h
  refine uz f j g rfl<|vG (u c s l H _ I h) λv A m=>e2a4 m λx B n C D E=>?_
  obtain⟨a,W,rfl,G⟩:=D
  cases C
  have S:=zu n G
  refine#["set",id,F.plainAttrs_set,i,k,S.typeIs,λb J=>?_,?_]
  · cases J
    refine e3a2 S λ_ _ _ L _=>?_
    exact#[_,L,rfl]
  have p:=y cpos c A l B _ n E
  rw[z]at p ⊢
  refine j0 (by show (false||(ja cpos<|gJ es X.env).any (·.1))=false;rw[d]<;>rfl)<|js ?_
  exact vG p λM N m=>e2a3 m λO P R T U=>q c N l P (.ref a) O (.ref a) M Q R rfl T U
end
def DK(e:ci)(d:Option ci)(h:iJ):Prop:=∃o,h.get? e=↑o/\o.dict=d
def Tu(o:Obj)(f:Array cr->Array cr):(o.mapFields f).dict=o.dict:=by obtain⟨c,d,a,b⟩:=o;cases a<;>rfl
section
variable{M:Model}{A:jq}{E:cr->gN->Prop}{s:gN}{base:iJ}{env:Env}{outer:List Env}{L e:ci}{oe:Obj}{vs:Array cr}{a0 cls:cr}{d:Option ci}
def VW{c:Bool}(m:A.frames=↑(env::outer))(k:s.heap.FunFrames base (env::outer))(I:env.frame=↑L)(n:s.heap.get? e=↑oe)(p:base.StaysIn s.heap)(r:base.get? e=none)(g:oe.data=.fields vs)(i:1<vs.size)(J:vs[0]?=↑a0)
 (h:∀t,Heap.NotedW base (env::outer) e oe.cls a0 (lF L) s.heap t->DK e oe.dict t->Q () { s with heap:=t}) :
    gR M A (do setField (.ref e) 1 (<- EntryCells.newEntry head (<- frameOf env) .none (lF L) .none (<- entryPlaceOf L c))) Q E s:=by
  have N:e∉(env::outer).filterMap (·.frame):=λz=>by
    obtain⟨_,o,w,O⟩:=k.mem z
    rw[n]at w;cases w;exact O _ g
  refine am<|wpAny_frameOf_fun m k I λa l=>am<|wpAny_entryPlaceOf λx j=>?_
  have B:a.get? e=↑oe:=(l.2.1 e N).trans n
  have C:base.StaysIn a:=λb o q=>(l.2.1 b λz=>by rw[(k.mem z).1]at q;cases q).trans<|p b o q
  refine am<|iH ?_<|j.sizeOk5 _ _ _ _ _
  have P:∃f:Array cr,(([head,.ref L,.none,lF L,.none]++(if x.isEmpty then kM 6 Value.none else x)).toArray=f)/\f[3]?=↑(lF L):=#[_,rfl,by first|(simp;done)|(rcases j with rfl|⟨_,_,_,_,_,_,_,rfl⟩<;>simp)]
  obtain⟨f,R,S⟩:=P
  rw[R]
  have u:=ce (h:=a) { cls:=.type "traceback",dict:=none,data:=.fields f} B
  have D:a.objs.size≠e:=je<|gP B
  refine mS u g i<|h _ ?_ ?_
  · have F := Obj.data_mapFields g (·.setIfInBounds 1 (hO a.objs.size))
    have T:=iL (Obj.mapFields (·.setIfInBounds 1 (hO a.objs.size))) u<|Obj.isFreed_of_fields F
    have U:=(iB (a.push { cls:=.type "traceback",dict:=none,data:=.fields f}) (Obj.mapFields (·.setIfInBounds 1 (hO a.objs.size)))<|Ne.symm D).trans<|gX a rfl
    have v:∀b o,b≠e->a.get? b=↑o->((a.push { cls:=.type "traceback",dict:=none,data:=.fields f}).update e (Obj.mapFields (·.setIfInBounds 1 (hO a.objs.size)))).get? b=↑o:=λb o z q =>
      (iB _ _<|Ne.symm z).trans (ce _ q)
    have G:∀b o,s.heap.get? b=↑o->(∀vs,o.data≠.fields vs)->b≠e:=λb o q z y=>by rw[y,n]at q;cases q;exact z _ g
    refine#[λb o q=>v b o (λz=>by rw[z,r]at q;cases q)<|C b o q,k.of_keeps λb o q z=>?_,?_,λb o q z=>?_]
    · obtain⟨H, y⟩ := l.2.2 b o q
      exact#[_,v b _ (G b o q z) y,rfl]
    · exact#[_, _, a.objs.size, _, _, T, #[Obj.cls_mapFields _ _, by rw[Array.getElem?_setIfInBounds_ne q0q]; exact J], F, by simp[i], C.fresh, D, U, rfl, S]
    · obtain⟨H, y⟩ := l.2.2 b o q
      exact#[H,v b _ (G b o q z) y]
  · exact#[_, iL _ u<|Obj.isFreed_of_fields<|Obj.data_mapFields g _, Tu _ _]
def Tv(c:A.frames=↑(env::outer))(l:s.heap.FunFrames base (env::outer))(g:env.frame=↑L)(i:s.heap.get? e=↑oe)(f:base.StaysIn s.heap)(b:base.get? e=none)(j:oe.data=.fields vs)(k:vs[1]?=some .none)(m:vs[0]?=↑a0)
 (h:∀a,Heap.HeldW base (env::outer) e oe.cls a0 L a->s.heap.UpToSlots a->DK e oe.dict a->Q () 96):gR M A (ui (.ref e) env) Q E s:=by
  unfold ui
  simp only[g]
  refine am<|iX i j k ?_
  rw[gl q0q]
  exact VW c l g i f b j (Array.getElem?_eq_some_iff.mp k).1 m λa n=>e0a4 n λo p q r y=>h a #[o,b,p,q] r y
def Tw(h:A.frames=↑(env::outer))(p:env.frame=↑L)(i:lK base (env::outer) e cls a0 s.heap)(x:DK e d s.heap)
 (B:∀f,Heap.HeldW base (env::outer) e cls a0 L f->s.heap.UpToSlots f->DK e d f->Q () { s with heap:=f}):gR M A (ui (.ref e) env) Q E s:=by
  obtain⟨j,g,C,oe,vs,T,N,O,k,⟨rfl,D⟩,r,t,l,m,n,c,u⟩:=i
  obtain⟨P,v,rfl⟩:=x
  rw[k]at v;cases v
  unfold ui
  simp only[p]
  refine am<|iX k r t ?_
  rw[gI<|show (hO T != Value.none)=true from by simp]
  refine am<|iX n c u ?_
  rw[gl<|show ¬((Value.none==lF L)=true) from by simp[lF]]
  refine am<|mS n c (Array.getElem?_eq_some_iff.mp u).1 ?_
  have a:∀b,b≠T->(s.heap.update T (Obj.mapFields (·.setIfInBounds 3 Value.none))).get? b=s.heap.get? b:=λb z=>iB _ _<|Ne.symm z
  have w:∀b o,s.heap.get? b=↑o->(∀vs,o.data≠.fields vs)->b≠T:=λb o q z y=>by rw[y,n]at q;cases q;exact z _ c
  refine VW h (C.of_keeps λb o q z=>#[o,(a b<|w b o q z).trans q,rfl]) p ((a e<|Ne.symm m).trans k) (λb o q=>(a b λz=>by rw[z,l]at q;cases q).trans<|j b o q) g r (Array.getElem?_eq_some_iff.mp t).1 D
    λf F=>e0a4 F λG H I J y=>B f #[G,g,H,I] (λb o q z=>J b o ((a b<|w b o q z).trans q) z) y
def ZA(n:base.StaysIn s.heap)(p:base.get? e=none)(C:s.heap.FunFrames base l)(D:s.heap.TracedAtW base e cls a0 H)(F:DK e d s.heap)
 (h:∀m,lK base l e cls a0 m->s.heap.UpToSlots m->DK e d m->Q () { s with heap:=m}):gR M A (setFlight (.ref e) none) Q E s:=by
  obtain⟨oe,vs,T,I,J,r,g,u,v,i,j,t,a,G⟩:=D
  obtain⟨N,w,rfl⟩:=F
  rw[r]at w;cases w
  have k:=(Array.getElem?_eq_some_iff.mp G).1
  have c:∀b,b≠T->(s.heap.update T (Obj.mapFields (·.setIfInBounds 3 ((none:Option ci).elim Value.none λf=>lF f)))).get? b=s.heap.get? b:=λb z=>iB _ _<|Ne.symm z
  have x:∀b o,s.heap.get? b=↑o->(∀vs,o.data≠.fields vs)->b≠T:=λb o q z y=>by rw[y,t]at q;cases q;exact z _ a
  have B:=(c e<|Ne.symm j).trans r
  refine am<|iX r u v ?_
  rw[gI<|show (hO T != Value.none)=true from by simp]
  refine mS t a k<|h _ ⟨λb o q=>(c b λz=>by rw[z,i]at q;cases q).trans<|n b o q,p,C.of_keeps λb o q z=>#[o,(c b<|x b o q z).trans q,rfl],?_⟩ (λb o q z=>#[o.slots,(c b<|x b o q z).trans q]) #[_,B,rfl]
  exact#[oe,vs,T,_,_,B,g,u,v,i,j,iL _ t<|Obj.isFreed_of_fields<|Obj.data_mapFields a _,Obj.data_mapFields a _,by simp[k]]
def AX(b:A.frames=↑(env::outer))(k:s.heap.FunFrames base (env::outer))(l:env.frame=↑L)(m:s.heap.get? e=↑oe)(c:base.StaysIn s.heap)(f:base.get? e=none)(n:oe.data=.fields vs)(o:vs[1]?=some .none)(p:vs[0]?=↑a0)
 (h:∀a,lK base outer e oe.cls a0 a->s.heap.UpToSlots a->DK e oe.dict a->Q () 96):gR M A (uu env<|.ref e) Q E s:=by
  refine am<|Tv b k l m c f n o p λq g=>e0a4 g λr t u v w x=>ZA (s:={ s with heap:=q}) r t u v x λy g=>e0a4 g λz B ⟨_,_,C⟩ D i j=>?_
  exact h y #[z,B,C,D] (w.trans i) j
def PH(b:A.frames=↑(env::outer))(j:env.frame=↑L)(c:lK base (env::outer) e cls a0 s.heap)(k:DK e d s.heap)
 (l:∀a,lK base outer e cls a0 a->s.heap.UpToSlots a->DK e d a->Q () 96):gR M A (uu env<|.ref e) Q E s:=by
  refine am<|Tw b j c k λm f=>e0a4 f λn o p q r g=>ZA (s:={ s with heap:=m}) n o p q g λt f=>e0a4 f λu v ⟨_,_,w⟩ x h i=>?_
  exact l t #[u,v,w,x] (r.trans h) i
end
class GX where
 g:ci->Option ci->Hp->Prop
variable[GX]
structure D7(P:iu)(w:iO)(outer:List Env)(H:Hp)(s:gN)(H':Hp)(C x:ci)(s':gN):Prop where
 os:s'.os=s.os
 bare:ni s'.gens
 un:Un (zj outer) [] H H' s.heap s'.heap
 vL:xR P w H' s'.heap
 dct:∃d,DK x d s'.heap/\GX.g C d H'
 fly:∃(B:iJ)(a0:cr),lK B outer x (.ref C) a0 s'.heap/\∀b o,s'.heap.get? b=↑o->(H' b≠none\/∃o0,s.heap.get? b=↑o0)->b∉zj outer->B.get? b=↑o
def vJ(P:iu)(w:iO):OS:=λa H s E e c=>∃(C x:ci)(b:Hp),e=.ref x/\D7 P w a H s b C x c/\E (.ref C) ↑x b
def AH(x:xR P w H h)(e:H a=↑o):∃u,h.get? a=↑u:=by
 have d:∀o:HO,vY P w H h a o->∃u,h.get? a=↑u:=by
  intro o q
  cases o with
  |lst i=>obtain⟨_,_,_,_,z⟩:=q;exact#[_,z]
  |tup i=>obtain⟨_,_,_,c,z,_⟩:=q;exact#[_,z]
  |dK g=>obtain⟨_,_,_,_,c,_,_,z,_⟩:=q;exact#[_,z]
  |dT g=>obtain⟨_,_,_,_,c,_,_,z,_⟩:=q;exact#[_,z]
  |set S n=>obtain⟨c,_,_,_,z,_⟩:=q;exact#[_,z]
  |ins C j fs=>obtain⟨_,_,_,z,_⟩:=q;exact#[_,z]
  |own b=>exact q
  |xd fs=>obtain⟨k,⟨c,_,_,z,_⟩,_⟩:=q;exact#[_,z]
  |yW lo l=>obtain⟨_,_,_,z⟩:=q;exact#[_,z]
  |JP c u=>exact#[_,q.1]
  |Fa m=>exact#[_,q]
  |met f y=>exact#[_,q]
  |ext p=>exact q.2.1
 exact d o<|x a o e
section
variable{P:iu}{w:iO}{l:List Env}{H H':Hp}{s s2:gN}{B h':iJ}
def PJ(u:Un (zj l) [] H H' s.heap s2.heap)(m:xR P w H' s2.heap)(g:∀b o,s2.heap.get? b=↑o->(H' b≠none\/∃D,s.heap.get? b=↑D)->b∉zj l->B.get? b=↑o)
 (i:∀b∈zj l,H' b=none/\∃o,s2.heap.get? b=↑o/\∀E,o.data≠.fields E)(p:B.StaysIn h')(F:s2.heap.UpToSlots h'):Un (zj l) [] H H' s.heap h'/\xR P w H' h':=by
  have d:∀b o,s2.heap.get? b=↑o->b∈zj l->∃r,h'.get? b=some { o with slots:=r}:=λb o e G=>by
    obtain⟨_,t,C,n⟩:=i b G
    rw[e]at C
    cases C
    exact F b o e n
  refine#[#[λb o e n f h=>?_,λb o e n f h=>?_,λb o e n h=>u.free b o e n h,λb o e h=>?_,u.Bo,u.A6,u.A7],λa o e=>?_]
  · exact p b o<|g b o (u.keep b o e n f h) (.inr #[o, e]) f
  · obtain⟨r, k⟩ := u.slot b o e n f h
    obtain⟨x,y⟩:=d b _ k f
    exact#[x,y]
  · obtain⟨t, k⟩ := u.there b o e h
    by_cases f:b∈zj l
    · obtain⟨r, y⟩ := d b _ k f
      exact#[_,y]
    · exact#[_, p b t<|g b t k (.inr #[o, e]) f]
  · have I : ∀c, H' c ≠ none -> c ∉ zj l := λc A f => A (i c f).1
    refine(m a o e).C6 (λc v A q=>?_) (λ_ q=>q) λ_ _ q=>q
    have j:H' c≠none:=by
      rcases A with z|z
      · rw[z, e]; simp
      · rw[z]; simp
    exact p c v<|g c v q (.inl j)<|I c j
end
section
variable{X:Cx}{pins:List (ci×Obj)}{σ:St}{H1 H':Hp}{s1 s2:gN}{C x:ci}{B h':iJ}{a0:cr}
def xU(I:Inv X pins σ H1 s1)(a:X.stack=X.env::X.outer):X.env.frame=↑X.env.locals:=by
 rcases I.ok.Cc with z|z
 ·rw[a]at z;have:=congrArg nZ z;simp at this
 ·exact z.2
def NG(I:Inv X pins σ H1 s1)(a:X.stack=X.env::X.outer):zj X.stack=X.env.locals::zj X.outer:=by rw[a];unfold zj;rw[kI,xU I a]
def Ku(I:Inv X pins σ H1 s1)(D:X.stack=X.env::X.outer)(hex:X.ex=[])(os:s2.os=s1.os)(m:ni s2.gens)(u:Un (zj X.stack) [] H1 H' s1.heap s2.heap)(p:xR X.prog X.w H' s2.heap)
 (r:∀b o,s2.heap.get? b=↑o->(H' b≠none\/∃k,s1.heap.get? b=↑k)->b∉zj X.stack->B.get? b=↑o) (ZB:∀b∈zj X.stack,H' b=none/\∃o,s2.heap.get? b=↑o/\∀Q,o.data≠.fields Q)
 (up:s2.heap.UpToSlots h')(E:lK B X.outer x (.ref C) a0 h')(F:∃d,DK x d h'/\GX.g C d H'):D7 X.prog X.w X.outer X.H₀ X.s₀ H' C x { s2 with heap:=h'}:=by
  obtain⟨i,s⟩:=PJ u p r ZB E.1 up
  have t:=NG I D
  have base:Un (zj X.outer) [] X.H₀ H1 X.s₀.heap s1.heap:=by have:=I.base;rw[hex]at this;exact this
  have nx:∀b:ci,b∉([]:List ci):=λb z=>by cases z
  have old:∀b o,X.s₀.heap.get? b=↑o->b≠X.env.locals:=λb o e z=>by
    have R:=gP e
    have L:=I.ok.above
    rw[<- z]at L
    exact g8 (hR R L)<|jJ _
  have y:∀b o,X.s₀.heap.get? b=↑o->b∉zj X.outer->b∉zj X.stack:=λb o e n z=>by
    rw[t]at z
    rcases List.mem_cons.mp z with q|q
    · exact old b o e q
    · exact n q
  refine#[os.trans I.os,m,#[λb o e n j a=>?_,λb o e n j a=>?_,λb o e n a=>?_,λb o e a=>?_,λb M e=>?_,λb o v e=>?_,λb S e=>?_],s,F,B,a0,E,λb o e A j=>?_]
  · exact i.keep b o (base.keep b o e n j a) (base.free b o e n a) (y b o e j) a
  · obtain⟨sl, c⟩ := base.slot b o e n j a
    obtain⟨G,f⟩:=i.slot b _ c (base.free b o e n a) (by rw[t];exact gS _ j) a
    exact#[G,f]
  · obtain⟨l, c⟩ := base.there b o e a
    exact i.free b l c (base.free b o e n a) a
  · obtain⟨l, c⟩ := base.there b o e a
    exact i.there b l c a
  · exact i.Bo b M<|base.Bo b M e
  · exact i.A6 b o v<|base.A6 b o v e
  · obtain⟨T, c⟩ := base.A7 b S e
    obtain⟨U,f⟩:=i.A7 b _ c
    exact#[T++U,by rw[f,pU]]
  · have fin : ∀h, s2.heap.get? b = some h -> (H' b ≠ none \/ ∃k, s1.heap.get? b = some k) -> b ∉ zj X.stack -> B.get? b = some o := λh f H J => by
      have q:=r b h f H J
      have N:=E.1 b h q
      have W:h'.get? b=↑o:=e
      rw[W]at N
      cases N
      exact q
    rcases A with A|⟨k,O⟩
    · obtain⟨P, Y⟩ : ∃P, H' b = some P := by
        cases z:H' b with
        |none=>exact g8 z A
        |some v=>exact#[v,rfl]
      obtain⟨h,f⟩:=AH p Y
      exact fin h f (.inl A) λz=>A (ZB b z).1
    · obtain⟨l, c⟩ := base.there b k O (nx b)
      obtain⟨h,f⟩:=u.there b l c<|nx b
      exact fin h f (.inr #[l,c])<|y b k O j
def D7.ZB(F:D7 P w l H s H' C x s2)(c:∀b∈zj l,H b=none/\∃o,s.heap.get? b=↑o):∀b∈zj l,H' b=none/\∃o,s2.heap.get? b=↑o/\∀d,o.data≠.fields d:=λb a=>by refine e2a2 F.fly λB a0 f _=>?_;obtain⟨n,o,e⟩:=c b a;exact#[F.un.free b o e n q0o,(f.2.2.1.mem a).2]
def Inv.frn(I:Inv X pins σ H1 s1):∀b∈zj X.stack,H1 b=none/\∃o,s1.heap.get? b=↑o:=λb a=>by have c:=I.Iz;exact#[c.JL b a,e1a2 ((c.yy.mem a).2) λo e _=> #[o,e]]
def PL(I:Inv X pins σ H1 s1)(a:X.stack=X.env::X.outer)(b:X.ex=[])(F:D7 X.prog X.w X.stack H1 s1 H' C x s2) :
  gR 19 X.A (uu X.env<|.ref x) (λ_ c=>D7 X.prog X.w X.outer X.H₀ X.s₀ H' C x c) E s2:=by
 have i:=F.ZB I.frn;refine e2a2 F.fly λB a0 h e=>?_;rw[a]at h;refine e1a2 F.dct λd j k=>?_;refine PH (by rw[I.ok.frames,a]) (xU I a) h j λh' f l g=>?_;exact Ku I a b F.os F.bare F.un F.vL e i l f #[d,g,k]
end
section
variable{P:iu}{w:iO}{K:gH}{mg:Str->Option cr}{base:iJ}{N:List Str}{qual:Str}{scope:lV}{f:ci}{cd:cr}{A:jq}{outer:List Env}{s:gN}{H:Hp}{E:XK}
def AY:Passes (vJ P w) 18 E:=by intro a i j k e l I h;obtain⟨C,x,b,rfl,F,c⟩:=h;exact iW (PL I rfl rfl F) (λ_ d g=>#[C,x,b,rfl,g,c]) λ_ _ z=>z
def zc:rK (gU P w) (18).A (18).env (18).xe:=PassesOwn.leaving
end
variable[L2.GX]
set_option tactic.hygienic true in
def Tx{K:gH}{C:ci}(Z:K.In h)(y:jh K C d b=true) :
  ∃j N t q u c v e w f x z A B E F k,h.get? C=↑(jw t q C N u j c v e w f x z A B E F b)/\h.Ns N k/\k "__init__"=none/\sI h d j:=by
 unfold jh at y;split at y
 ·rename_i G H l a
  split at y
  ·rename_i D I m n o p g r J L
   simp only[iq,beq_iff_eq,uD]at y;obtain⟨⟨⟨⟨⟨M,O⟩,P⟩,Q⟩,s⟩,R⟩:=y;subst M;subst O;obtain⟨S,T,u3,U,X,Y,u7,u8,u9,i,aa⟩:=H;subst J;subst P
   have e3:l=#v[m,n,o,p,some<|.builtin g,r]:=by obtain⟨li⟩:=l;exact congrArg Array.mk L
   rw[e3]at a;exact#[I,U,S,X,T,Y,u7,u8,u9,i,G,m,n,o,p,r,_,Z _ _ a,.of_isNs<|pL Z s,PySem.W.nsMap_none_of_in Z s R,tq Z Q]
  ·cases y
 ·cases y
def PM(C:ci)(E:XK)(a:TA):TS:=λ_ b H=>a b H λc d=>c.length<=gL/\∀x:ci,E (.ref C) ↑x d
section
variable{P:iu}{w:iO}{K:gH}{mg:Str->Option cr}{base:iJ}{N:List Str}{qual:Str}{scope:lV}{f:ci}{cd:cr}{A:jq}{outer:List Env}{s:gN}{H:Hp}{E:XK}
def D8{C:ci}(hg:Gl 18 x)(hm:mg x=↑(.ref C))(O:jh K C v i=true)
 (Y:kq B i n v) (g0:∀H',GX.g C none H') (ha:PA 18 (y::p) ta) (F:(x==55)=false:=by decide)
 (r:gJ (y::p) (18).env=(false,eval y (18).env)::gJ p (18).env:=by rfl)
 (G:(ja d<|gJ p (18).env).any (·.1)=false:=by rfl) :
    PS 18 (.Raise (some<|.Call (.Name x np) (y::p) [] d) none pos) (PM C E ta):=by
  intro k s1 σ H1 D I h
  obtain⟨bm,N',nm,q,bs,l,sn,J,ab,L,dd,k0,k1,k2,k3,k5,mN,hC,hN,M,T⟩:=Tx I.mod.Bm O
  have Z:=ha d k s1 σ H1 _ I h
  refine wpAny_Raise_call_subT (prog:=P) (w:=w) (C:=C) (nm:=nm) (q:=q) (N:=N') (bs:=bs) (bm:=bm) (hdct:=l) (sn:=sn) (sub:=J) (ab:=ab) (col:=L) (dd:=dd) (k0:=k0) (k1:=k1) (k2:=k2) (k3:=k3) (k5:=k5)
    Y (mN:=mN) (T.hasType Y.hasBase) (I.ok.hd rfl) (by rw[r];exact(Bool.false_or _).trans G) M (yH I hg hm #[rfl,?_] F)
  rw[r]at Z ⊢
  refine js<|iW Z (λus u q2=>?_) λ_ _ z=>z
  refine e2a4 q2 λvs H2 c r2 hl hE=>?_
  refine#[rfl,by show us.length<=gL;rw[<- r2.length];exact hl,c.bk _ _ hC,hN.keeps c.bk,T.keeps c.bk,λh' e a=>?_]
  have m:(18).stack=(18).env::(18).outer:=rfl
  have fu:=c.Iz.yy
  refine e1a3 a.there λt R _ _=>?_
  have S:(lQ u.heap<|zj (18).stack).get? e=none:=by
    cases q:(lQ u.heap<|zj (18).stack).get? e with
    |none=>rfl
    |some o=>have z:=m6 _ q;rw[a.new]at z;cases z
  refine iW (AX (base:=lQ u.heap (zj (18).stack)) (a0:=.ref t) c.ok.frames
    ((rN fu λU r b j=>List.mem_filterMap.mpr #[U,r,j]).of_keeps λb o j _=>#[o,a.keeps b o j,rfl]) (xU c m) R (λb o z=>a.keeps b o (m6 _ z)) S rfl rfl rfl (Q:=λ_ X=>vJ P w outer H s E (.ref e) X) λaa fl up dk=>?_) (λ_ _ z=>z) λ_ _ z=>z
  refine#[C,e,H2,rfl,?_,hE e]
  refine Ku (s2:=u) c m rfl rfl c.bare Un.refl c.vL (λb o z _ nf=>o4 _ z nf) (λb j=>?_) ((qh a.keeps).trans up) fl #[_,dk,g0 _]
  exact#[(c.frn b j).1,(fu.mem j).2]
end
noncomputable abbrev hand(X:Cx)(x:ci):Cx:={ X with A:=X.A.mark<|some<|.ref x,calm:=false,xe:=λ_ _=>False}
def Inv.a1Z(I:Inv { X with pn:=X.pn++a} b c H s):Inv X a c H s :=
 #[52,I.os,I.bare,I.base,I.loc,I.cell,I.free,I.yk,λp d=>I.pin p<|iI _ d,I.vL,I.len]
def Inv.PN(I:Inv X a b H s):Inv (hand X x) a b H s :=
 #[#[I.ok.mod,I.ok.kind,I.ok.glob,I.ok.blt,I.ok.above,I.ok.inj,I.ok.has,I.ok.Ov,(λz=>by cases z),I.ok.frames,I.ok.Cc,I.ok.SE,I.ok.bs,I.ok.Io,I.ok.C7,I.ok.DI,I.ok.yy,I.ok.JL],I.os,I.bare,I.base,I.loc,I.cell,I.free,I.yk,I.pin,I.vL,I.len]
def Inv.GH(b:X.calm=true->X.A.handled=none)(I:Inv (hand X x) a c H s):Inv X a c H s :=
 #[#[I.ok.mod,I.ok.kind,I.ok.glob,I.ok.blt,I.ok.above,I.ok.inj,I.ok.has,I.ok.Ov,b,I.ok.frames,I.ok.Cc,I.ok.SE,I.ok.bs,I.ok.Io,I.ok.C7,I.ok.DI,I.ok.yy,I.ok.JL],I.os,I.bare,I.base,I.loc,I.cell,I.free,I.yk,I.pin,I.vL,I.len]
end L2
namespace SX
open PySem PyProof.Rows
def IS:m8 (.type "dict") "__len__"=pure (some<|.builtin "dict.__len__"):=by rw[nQ,lH];kernel_rfl
section
variable{prog:iu}{w:iO}{K:Type}[DecidableEq K]{knd:KeyKind prog w K}{A:jq}{E:cr->gN->Prop}{s:gN}{a:ci}{ks:List Int}{xh:List (K×cr)}{ep:Nat}
def NH(hh:A.handled=none)(G:(a==kO)=false)(D:s.heap.DictAt knd a xh ep)(hl:xh.length<=gL)(R:xh.length=ks.length)
 (hk:∀(i:Nat)(k:K)(x:cr)(v:cr),xh[i]?=↑(k,x)->knd.is k v=true->∃j u,ks[i]?=↑j/\v=.int j u)
 (h:∀S tk vs,kR vs ks->(∀c o,s.heap.get? c=↑o->S.get? c=↑o)->⇑s<=S.objs.size->Q vs { s with heap:=S,toks:=tk}):gR (gU prog w) A (collect<|.ref a) Q E s:=by
  have f:a<⇑s:=D.lt_size
  obtain⟨o0,ai,H,l,aj,ak⟩:=id D
  refine am<|sZ<|jG uf ?_
  rw[jr ug _]
  refine am (m:=newList [])<|iH<|ap #[kP oz _,jG F.entry_list_iadd ?_]
  rw[jr oz _]
  have z:∀c o,s.heap.get? c=↑o->(s.heap.push 54).get? c=↑o:=λc o q=>ce _ q
  have oL:(s.heap.push 54).get? ⇑s=some 54:=gX _ rfl
  have g:(s.heap.push 54).objs.size=⇑s+1:=jt _ _
  generalize s.heap.push 54=d at z oL g ⊢
  have D1:d.DictAt knd a xh ep:=D.at' λo q=>z a o q
  show gR _ A.in1 (pY (.ref ⇑s) (.ref a)<|.ref ⇑s) _ _ { s with heap:=d}
  have hT:lS { s with heap:=d} (.ref a) "dict":=#[_,z a _ H,l.1]
  refine am<|kK hT ?_
  have n1:lv (.ref ⇑s) (.ref a)=false:=by simp[lv,je f]
  have n2:(jU "dict" == jU "list")=false:=by decide
  have n3:(jU "dict" == jU "tuple")=false:=by decide
  simp only[n1,n2,n3,rY,kS,o8]
  refine am<|wpAny_pyIter_dict (s:={ s with heap:=d}) G D1 ?_
  have I:∀c o,d.get? c=↑o->(d.push 74).get? c=↑o:=λc o q=>ce _ q
  have i2:(d.push 74).get? d.objs.size=some 74:=gX _ rfl
  generalize d.push 74=T at I i2 ⊢
  have p:lS { s with heap:=T} (.ref a) "dict":=#[_,I a _<|z a _ H,l.1]
  refine am<|iz ?_
  refine am<|pM p IS ?_
  generalize Ct:("dict.__len__":String)=U
  dsimp only
  rw[show splitId U=some ("dict","__len__") from by subst Ct;decide +kernel]
  subst Ct
  refine am<|l9 (b:=true) p F.sub_dict_dict ?_
  rw[gl q0o]
  rw[gI q0s]
  refine am<|kK p<|ap ?_
  have X:A.in1.handled=none:=by simp[hh]
  have ne:a≠d.objs.size:=gZ<|ny f (by rw[g];exact ji _)
  have W:=(Walks.dictKeys (knd:=knd) (A:=A.in1) X d.objs.size a ne xh ep).toS
  have Y:⇑s∉[d.objs.size,a]:=by
    simp only[im,jc,lX,qe]
    exact#[by rw[g];exact gZ<|ji _,je f]
  have t:=I _ _ oL
  -- the ah,B al J Z of it
  have L:∀(C:iJ)(M:Nat),C.get? ⇑s=some { cls:=.type "list",data:=.seq ([]:List cr).toArray M}->(∀c o,c≠⇑s->T.get? c=↑o->C.get? c=↑o) ->
      mz (gU prog w) A (.builtin "list.extend.loop" #[[.ref ⇑s,.ref d.objs.size,.ref ⇑s],[]]) (λr s'=>match r with
        | .ok (.ret v)=>gR (gU prog w) A (match v with
          | .ref a=>do
            let o <- load a
            match o.data with
              | .seq xs aa=>pure xs.toList
              |x=>lh "internal:collect"
          |x=>lh "internal:collect") Q E s'
        | .ok _=>False
        | .error e=>E e s') { s with heap:=C}:=by
    intro C M y k4
    have I4:C.IsKeyIter d.objs.size a 0 xh.length ep/\C.DictAt knd a xh ep:=#[#[_,k4 _ _ (by rw[g];exact je<|ji _) i2,rfl,rfl],D1.at' λo q=>k4 _ _ (gZ f)<|I _ _ q]
    refine codeAny_extend_loopS W hl _ Y _ xh.length 0 _ _ _ rfl (iN _) I4 y (ItemsOf.nil _) λs5 ab c5 P N n=>?_
    refine am<|qK N<|ap ?_
    obtain⟨h5,g5,d5,ae,af⟩:=s5
    have eg:g5=s.gens:=P.gens
    have ed:d5=s.drawn:=P.drawn
    have eo:af=s.os:=P.os
    subst eg ed eo
    refine h h5 ae ab.toList (Ac ?_ λi v hv=>?_) (λc o q=>P.heap c o (by
      simp only[im,jc,lX,qe]
      exact#[gZ (gP q),gZ (gP (z c o q))]) (k4 c o (gZ (gP q)) (I c o (z c o q)))) (lM (gP N))
    · rw[gQ, n.1, R]
    · obtain⟨k, x, hx, ag⟩ := n.2 i v (by rw[<- iF]; exact hv)
      exact hk i k x v hx ag
  first
    | (rw[gl q0s];exact ap ⟨kP qg _,L T 0 t λ_ _ _ q=>q⟩)
    | (rw[gI q0s]
       refine am<|lW<|am ?_
       refine am<|pQ t rfl ?_
       have O:=iL (Obj.mapSeq (·.push Value.none)) t rfl
       refine pQ O rfl ?_
       have y:=iL (Obj.mapSeq (·.pop)) O rfl
       refine ap #[kP qg _,L _ _ y λc o hc q=>(iB _ _ (Ne.symm hc)).trans ((iB _ _ (Ne.symm hc)).trans q)])
end
end SX
namespace L2
open PySem PySem.Spec PyProof.Rows SX
def Tz{k:Int}(h:zQ (.inl k) v=true):∃u,v=.int k u:=by
 rcases v4 h with⟨i,t,e,rfl⟩|⟨x,t,e,_⟩
 ·cases e;exact#[t,rfl]
 ·cases e
def Xg:∀{b:List (Key×V)} {c:List (Key×cr)} (_:KV b c) (i:Nat) {k:Key} {x:cr},c[i]?=↑(k,x)->∃y,b[i]?=↑(k,y):=by
 intro _ _ z
 induction z with
 |nil=>intro i _ _ h;cases h
 |cons a t d =>
  intro i k x h
  cases i with
  |zero=>cases h;exact#[_,congrArg some<|Prod.ext a.1 rfl]
  |succ i=>exact e1a1 (d i<|by simpa using h) λy q=>#[y,by simpa using q]
def GI(J:X.calm=true):yz X (.builtin "sorted") (λC H Q=>∃(a:ci) (b:List (Key×V)) (c:List Int),C=[.ref a]/\H a=↑(.dK b)/\b.map (·.1)=c.map il/\c.length<64/\∀(p:ci)(t:List Int),H p=none->t.Perm c->t.Pairwise (·<=·)->Q (.ref p) (upd H p<|.lst<|t.map V.int)):=by
 intro E s σ H C us Q I r h;obtain⟨a,b,c,rfl,L,f,g,q⟩:=h;obtain⟨u,rfl,M⟩:=vals1 r;cases M;obtain⟨hz,l,F,G,N⟩:=I.vL a _ L;obtain⟨o,O,P,R,z,m,d⟩:=N;have D:s.heap.DictAt (vz X.prog X.w) a F P:=#[o,O,R,z,m,d];have S:b.length=F.length:=Paired.length G;have T:b.length=c.length:=by have:=congrArg nZ f;simpa using this
 refine Cu (λQ' k=>NH (by simp[I.ok.hd J]) l D q0a q0a (λi U x v W A=>?_) λY Z B hi k1 sz=>k Y Z B c hi (.refl _) k1 sz) g<|Bf I g q;obtain⟨y,hy⟩:=Xg G i W;have n:(b.map (·.1))[i]?=↑U:=by rw[jy,hy];rfl
 rw[f,jy]at n
 cases e:c[i]? with
 |none=>rw[e]at n;cases n
 |some j =>
  rw[e]at n;cases n;obtain⟨u,hu⟩:=Tz A;exact#[j,u,rfl,hu]
end L2
namespace WL
open PySem L2
abbrev Wf(A τ PO:Type):=A->87->79->Prop
abbrev Rg:=ci->Prop
structure Ext(G R:Rg)(H:Hp)(R':Rg)(H':Hp):Prop where
 keep:∀b o,¬G b->H b=↑o->H' b=↑o
 new:∀a,R' a->R a\/H a=none
def Ext.wide(e:Ext G R H c d)(s:∀a,G a->R a):Ext R R H c d:=#[λb o n h=>e.keep b o (λg=>n<|s b g) h,e.new]
def Ext.not(e:Ext G R H b c)(n:¬R a)(h:H a=↑o):¬b a:=λz=>by
 rcases e.new a z with q|q
 ·exact n q
 ·rw[h]at q;cases q
class Rep(α:Type) where
 rp:Rg->Hp->α->V->Prop
 st:∀{R:Rg} {H:Hp} {R':Rg} {H':Hp} {x:α} {v:V},rp R H x v->Ext R R H R' H'->rp R' H' x v
open Rep (rp)
instance:Rep Int:=#[λ_ _ i v=>v=.int i,λh _=>h]
instance:Rep Bool:=#[λ_ _ i v=>v=.bl i,λh _=>h]
instance:Rep Unit:=#[λ_ _ _ v=>v=.wq,λh _=>h]
instance{α:Type}[Rep α]:Rep (Option α):=#[λR H x v=>match x with|none=>v=.wq|some y=>v≠.wq/\rp R H y v,λ{R H R' H' x v} h e=>by
 cases x with
 |none=>exact h
 |some y=>exact#[h.1,Rep.st h.2 e]]
def v7{α:Type}[Rep α]{R R':Rg}{H H':Hp}(e:Ext R R H R' H'):∀{xs:List α} {vs:List V},Paired (rp R H) xs vs->Paired (rp R' H') xs vs:=by
 intro _ _ z
 induction z with
 |nil=>exact .nil
 |cons h t ih=>exact .cons (Rep.st h e) ih
instance{α:Type}[Rep α]:Rep (List α):=#[λR H xs v=>∃a vs,v=.ref a/\¬R a/\H a=↑(.lst vs)/\Paired (rp R H) xs vs,λ{R H R' H' x v} h e=>by
 refine e2a4 h λa vs h1 h2 h3 h4=>?_
 exact#[a,vs,h1,e.not h2 h3,e.keep a _ h2 h3,v7 e h4]]
instance{α β:Type}[Rep α][Rep β]:Rep (α×β):=#[λR H x v=>∃a u w,v=.ref a/\¬R a/\H a=↑(.tup [u,w])/\rp R H x.1 u/\rp R H x.2 w,λ{R H R' H' x v} h e=>by
 obtain⟨a,u,w,h1,h2,h3,h4,h5⟩:=h
 exact#[a,u,w,h1,e.not h2 h3,e.keep a _ h2 h3,Rep.st h4 e,Rep.st h5 e]]
structure Tp(α:Type) where
 l:List α
instance{α:Type}[Rep α]:Rep (Tp α):=#[λR H xs v=>∃a vs,v=.ref a/\¬R a/\H a=↑(.tup vs)/\Paired (rp R H) xs.l vs,λ{R H R' H' x v} h e=>by
 refine e2a4 h λa vs h1 h2 h3 h4=>?_
 exact#[a,vs,h1,e.not h2 h3,e.keep a _ h2 h3,v7 e h4]]
class Ow(τ:Type) where
 sl:Rg->Rg->Hp->τ->Option V->Prop
 st:∀{F G R:Rg} {H:Hp} {R':Rg} {H':Hp} {x:τ} {v:Option V},sl F R H x v->Ext G R H R' H'->(∀a,G a->R a)->(∀a,F a->¬G a)->sl F R' H' x v
 fq:∀{F F' R:Rg} {H:Hp} {x:τ} {v:Option V},sl F R H x v->(∀a,F a↔F' a)->sl F' R H x v
open Ow (sl)
structure Un where
instance:Ow Un:=#[λF _ _ _ _=>∀a,¬F a,λh _ _ _=>h,λh e a z=>h a ((e a).mpr z)]
noncomputable instance a2S{α:Type}[Rep α]:Ow α:=#[λF R H x v=>(∀a,¬F a)/\∃u,v=↑u/\rp R H x u,λh e s _=>#[h.1,e1a2 h.2 λu h1 h2=> #[u,h1,Rep.st h2<|e.wide s]],λh e=>#[λa z=>h.1 a<|(e a).mpr z,h.2]]
structure OL(α:Type) where
 l:List α
instance{α:Type}[Rep α]:Ow (OL α):=#[λF R H x v=>∃a vs,v=↑(.ref a)/\(∀b,F b↔b=a)/\H a=↑(.lst vs)/\Paired (rp R H) x.l vs,
 λh e s n=>by
  refine e2a4 h λa vs h1 h2 h3 h4=>?_
  exact#[a,vs,h1,h2,e.keep a _ (n a<|(h2 a).mpr rfl) h3,v7 (e.wide s) h4],
 λh e=>by
  refine e2a4 h λa vs h1 h2 h3 h4=>?_
  exact#[a,vs,h1,λb=>(e b).symm.trans (h2 b),h3,h4]]
class Sls(D:Type) where
 rel:Rg->Rg->Hp->D->St->Prop
 st:∀{F G R:Rg} {H:Hp} {R':Rg} {H':Hp} {d:D} {σ:St},rel F R H d σ->Ext G R H R' H'->(∀a,G a->R a)->(∀a,F a->¬G a)->rel F R' H' d σ
 fq:∀{F F' R:Rg} {H:Hp} {d:D} {σ:St},rel F R H d σ->(∀a,F a↔F' a)->rel F' R H d σ
open Sls (rel)
instance:Sls Unit:=#[λF _ _ _ σ=>σ=[]/\∀a,¬F a,λh _ _ _=>h,λh e=>#[h.1,λa z=>h.2 a ((e a).mpr z)]]
structure Dd(F F1 F2:Rg):Prop where
 all:∀a,F a↔F1 a\/F2 a
 ye:∀a,F1 a->F2 a->False
instance{τ D:Type}[Ow τ][Sls D]:Sls (τ×D):=#[λF R H d σ=>∃v σ' F1 F2,σ=v::σ'/\Dd F F1 F2/\sl F1 R H d.1 v/\rel F2 R H d.2 σ',
 λh e s n=>by
  refine e4a4 h λv σ' F1 F2 h1 h2 h3 h4=>?_
  exact#[v,σ',F1,F2,h1,h2,Ow.st h3 e s<|λa z=>n a<|(h2.all a).mpr<|.inl z,Sls.st h4 e s<|λa z=>n a<|(h2.all a).mpr<|.inr z],
 λh e=>by
  refine e4a4 h λv σ' F1 F2 h1 h2 h3 h4=>?_
  exact#[v,σ',F1,F2,h1,#[λa=>(e a).symm.trans (h2.all a),h2.ye],h3,h4]]
class At(i:Nat)(B:Type)[Sls B](τ:outParam Type)[Ow τ](B':outParam Type)[Sls B'] where
 get:B->τ
 hole:B->B'
 take:∀{F R:Rg} {H:Hp} {b:B} {σ:St},rel F R H b σ->∃v F1 F2,σ[i]?=↑v/\Dd F F1 F2/\sl F1 R H (get b) v/\rel F2 R H (hole b) σ
class Pt(i:Nat)(B':Type)[Sls B'](τ:Type)[Ow τ](B:outParam Type)[Sls B] where
 put:B'->τ->B
 back:∀{F F1 F2 R:Rg} {H:Hp} {b:B'} {x:τ} {v:Option V} {σ:St},rel F2 R H b σ->Dd F F1 F2->sl F1 R H x v->rel F R H (put b x) (σ.set i v)
def set_same:∀{l:List b} {i:Nat} {v:b},l[i]?=↑v->l.set i v=l
 | [],_,_,h=>by simp at h
 |_::_,0,_,h=>by simp at h;subst h;rfl
 |a::r,i+1,v,h=>by show a::r.set i v=a::r;rw[set_same<|by simpa using h]
def Pt.same{i:Nat}{B' τ B:Type}[Sls B'][Ow τ][Sls B][A:Pt i B' τ B]{F F1 F2 R:Rg}{H:Hp}{b:B'}{x:τ}{v:Option V}{σ:St}(h:rel F2 R H b σ)(e:σ[i]?=↑v)(t:Dd F F1 F2)(s:sl F1 R H x v):rel F R H (A.put b x) σ:=by have:=A.back h t s;rw[set_same e]at this;exact this
noncomputable instance at0{τ D:Type}[Ow τ][Sls D]:At 0 (τ×D) τ (Un×D) where
 get b:=b.1
 hole b:=(#[],b.2)
 take:=λh=>by refine e4a4 h λv σ' F1 F2 h1 h2 h3 h4=>?_;exact#[v,F1,F2,by rw[h1];rfl,h2,h3,v,σ',λ_=>False,F2,h1,#[λa=>#[.inr,λz=>z.elim (λq=>q.elim) id],λ_ z _=>z],λ_ z=>z,h4]
noncomputable instance pt0{τ D:Type}[Ow τ][Sls D]:Pt 0 (Un×D) τ (τ×D) where
 put b x:=(x,b.2)
 back:=λ{F F1 F2 R H b x v σ} h t s=>by refine e4a4 h λv' σ' G1 G2 h1 h2 h3 h4=>?_;have e2:∀a,G2 a↔F2 a:=λa=>#[λz=>(h2.all a).mpr<|.inr z,λz=>((h2.all a).mp z).elim (λq=>g8 q<|h3 a) id];exact#[_,σ',F1,F2,by rw[h1];rfl,t,s,Sls.fq h4 e2]
noncomputable instance atS{i:Nat}{ρ τ D D':Type}[Ow ρ][Ow τ][Sls D][Sls D'][A:At i D τ D']:At (i+1) (ρ×D) τ (ρ×D') where
 get b:=A.get b.2
 hole b:=(b.1,A.hole b.2)
 take:=λh=>by
  refine e4a4 h λv σ' F1 F2 h1 h2 h3 h4=>?_;refine e3a4 (A.take h4) λu G1 G2 k1 k2 k3 k4=>?_;refine#[u,G1,λa=>F1 a\/G2 a,by rw[h1];simpa using k1,#[λa=>?_,λa z q=>?_],k3,v,σ',F1,G2,h1,#[λa=>Iff.rfl,λa z q=>h2.ye a z<|(k2.all a).mpr<|.inr q],h3,k4]
  ·rw[h2.all,k2.all];exact#[λz=>z.elim (λq=>.inr<|.inl q) λz=>z.elim .inl λq=>.inr<|.inr q,λz=>z.elim (λq=>.inr<|.inl q) λz=>z.elim .inl λq=>.inr<|.inr q]
  ·rcases q with q|q
   ·exact h2.ye a q<|(k2.all a).mpr<|.inl z
   ·exact k2.ye a z q
noncomputable instance ptS{i:Nat}{ρ τ D D':Type}[Ow ρ][Ow τ][Sls D][Sls D'][A:Pt i D' τ D]:Pt (i+1) (ρ×D') τ (ρ×D) where
 put b x:=(b.1,A.put b.2 x)
 back:=λ{F F1 F2 R H b x v σ} h t s=>by
  refine e4a4 h λv' σ' G1 G2 h1 h2 h3 h4=>?_;have t':Dd (λa=>F1 a\/G2 a) F1 G2:=#[λa=>Iff.rfl,λa z q=>t.ye a z<|(h2.all a).mpr<|.inr q];refine⟨v',σ'.set i v,G1,λa=>F1 a\/G2 a,by rw[h1];rfl,#[λa=>?_,λa z q=>?_],h3,A.back h4 t' s⟩
  ·rw[t.all,h2.all];exact#[λz=>z.elim (λq=>.inr<|.inl q) λz=>z.elim .inl λq=>.inr<|.inr q,λz=>z.elim (λq=>.inr<|.inl q) λz=>z.elim .inl λq=>.inr<|.inr q]
  ·rcases q with q|q
   ·exact t.ye a q<|(h2.all a).mpr<|.inl z
   ·exact h2.ye a z q
class Fg(D:Type)[Sls D](D':Type)[Sls D'] where
 fg:D->D'
 le:∀{F R:Rg} {H:Hp} {d:D} {σ:St},rel F R H d σ->∃F',(∀a,F' a->F a)/\rel F' R H (fg d) σ
noncomputable instance fgId{D:Type}[Sls D]:Fg D D:=#[id,λh=>#[_,λ_ z=>z,h]]
def two_le{F d e b c:Rg}(t:Dd F d e)(f:∀a,b a->d a)(g:∀a,c a->e a):Dd (λa=>b a\/c a) b c:=#[λ_=>Iff.rfl,λa x y=>t.ye a (f a x)<|g a y]
instance(priority:=low) fgUn {τ D D':Type}[Ow τ][Sls D][Sls D'][A:Fg D D']:Fg (τ×D) (Un×D'):=#[λd=>(#[],A.fg d.2),λh=>by
 obtain⟨v,σ',F1,F2,h1,h2,h3,h4⟩:=h;obtain⟨F',k1,k2⟩:=A.le h4
 exact#[_,λa z=>(h2.all a).mpr (.inr (k1 a (z.elim (λq=>q.elim) id))),v,σ',λ_=>False,F',h1,#[λa=>Iff.rfl,λ_ z _=>z],λ_ z=>z,k2]]
noncomputable instance fgCons{τ D D':Type}[Ow τ][Sls D][Sls D'][A:Fg D D']:Fg (τ×D) (τ×D'):=#[λd=>(d.1,A.fg d.2),λh=>by
 refine e4a4 h λv σ' F1 F2 h1 h2 h3 h4=>?_;refine e1a2 (A.le h4) λF' k1 k2=>?_
 exact#[_,λa z=>(h2.all a).mpr (z.elim .inl λq=>.inr (k1 a q)),v,σ',F1,F',h1,two_le h2 (λ_ z=>z) k1,h3,k2]]
class Pj(D:Type)[Sls D](P:Type)[Sls P](n:outParam Nat) where
 pj:D->P
 le:∀{F R:Rg} {H:Hp} {d:D} {σ:St},rel F R H d σ->∃F',(∀a,F' a->F a)/\rel F' R H (pj d) (σ.take n)
noncomputable instance pjNil{D:Type}[Sls D]:Pj D Unit 0:=#[λ_=>(),λh=>#[λ_=>False,λ_ z=>z.elim,rfl,λ_ z=>z]]
instance(priority:=low) pjUn {τ D P:Type}{n:Nat}[Ow τ][Sls D][Sls P][A:Pj D P n]:Pj (τ×D) (Un×P) (n+1):=#[λd=>(#[],A.pj d.2),λh=>by
 obtain⟨v,σ',F1,F2,h1,h2,h3,h4⟩:=h;obtain⟨F',k1,k2⟩:=A.le h4
 exact#[_,λa z=>(h2.all a).mpr (.inr (k1 a (z.elim (λq=>q.elim) id))),v,σ'.take n,λ_=>False,F',by rw[h1];rfl,#[λa=>Iff.rfl,λ_ z _=>z],λ_ z=>z,k2]]
noncomputable instance pjCons{τ D P:Type}{n:Nat}[Ow τ][Sls D][Sls P][A:Pj D P n]:Pj (τ×D) (τ×P) (n+1):=#[λd=>(d.1,A.pj d.2),λh=>by
 refine e4a4 h λv σ' F1 F2 h1 h2 h3 h4=>?_;refine e1a2 (A.le h4) λF' k1 k2=>?_
 exact#[_,λa z=>(h2.all a).mpr (z.elim .inl λq=>.inr (k1 a q)),v,σ'.take n,F1,F',by rw[h1];rfl,two_le h2 (λ_ z=>z) k1,h3,k2]]
class Sel(is:List Nat)(D:Type)[Sls D](S:outParam Type)[Sls S](D0:outParam Type)[Sls D0] where
 sel:D->S
 rest:D->D0
 mrg:D0->S->D
 cut:∀{F R:Rg} {H:Hp} {d:D} {σ:St},rel F R H d σ->∃F1 F2,Dd F F1 F2/\rel F1 R H (sel d) (is.map λi=>σ[i]?.join)/\rel F2 R H (rest d) σ/\∀i∈is,i<σ.length
 join:∀{F F1 F2 R:Rg} {H:Hp} {d:D0} {s:S} {σ:St},Dd F F1 F2->rel F1 R H s (is.map λi=>σ[i]?.join)->rel F2 R H d σ->(∀i∈is,i<σ.length)->rel F R H (mrg d s) σ
noncomputable instance selNil{D:Type}[Sls D]:Sel [] D Unit D where
 sel _:=()
 rest d:=d
 mrg d _:=d
 cut:=λ{F R H d σ} h=>#[λ_=>False,F,#[λa=>#[.inr,λz=>z.elim (λq=>q.elim) id],λ_ z _=>z],#[rfl,λ_ z=>z],h,λ_ z=>by cases z]
 join:=λ{F F1 F2 R H d s σ} t h1 h2 _=>Sls.fq h2 λa=>#[λz=>(t.all a).mpr<|.inr z,λz=>((t.all a).mp z).elim (λq=>g8 q<|h1.2 a) id]
noncomputable instance selCons{i:Nat}{is:List Nat}{D τ D1 S D0:Type}[Sls D][Ow τ][Sls D1][Sls S][Sls D0][A:At i D τ D1][P:Pt i D1 τ D][B:Sel is D1 S D0]:Sel (i::is) D (τ×S) D0 where
 sel d:=(A.get d,B.sel<|A.hole d)
 rest d:=B.rest<|A.hole d
 mrg d s:=P.put (B.mrg d s.2) s.1
 cut:=λ{F R H d σ} h=>by
  refine e3a4 (A.take h) λv F1 F2 h1 h2 h3 h4=>?_;refine e2a4 (B.cut h4) λG1 G2 k1 k2 k3 k4=>?_;have hv:σ[i]?.join=v:=by rw[h1];rfl
  refine#[λa=>F1 a\/G1 a,G2,#[λa=>?_,λa z q=>?_],#[v,_,F1,G1,by rw[ik,hv],#[λ_=>Iff.rfl,λa z q=>h2.ye a z<|(k1.all a).mpr<|.inl q],h3,k2],k3,λj hj=>?_]
  ·rw[h2.all,k1.all];exact#[λz=>z.elim (λq=>.inl<|.inl q) λz=>z.elim (λq=>.inl<|.inr q) .inr,λz=>z.elim (λz=>z.elim .inl λq=>.inr<|.inl q) λq=>.inr<|.inr q]
  ·rcases z with z|z
   ·exact h2.ye a z<|(k1.all a).mpr<|.inr q
   ·exact k1.ye a z q
  ·rcases List.mem_cons.mp hj with e|e
   ·rw[e];exact(List.getElem?_eq_some_iff.mp h1).1
   ·exact k4 j e
 join:=λ{F F1 F2 R H d s σ} t h1 h2 hl=>by
  refine e4a4 h1 λv σ' G1 G2 k1 k2 k3 k4=>?_;rw[ik]at k1;injection k1 with e1 e2;subst e2;have hi:i<σ.length:=hl i gO
  have ev:σ[i]?=↑v:=by rw[jp hi]at e1 ⊢;exact congrArg some e1
  have t2:Dd (λa=>G2 a\/F2 a) G2 F2:=#[λ_=>Iff.rfl,λa z q=>t.ye a ((k2.all a).mpr<|.inr z) q];refine Pt.same (B.join t2 k4 h2 λj hj=>hl j<|gS _ hj) ev ⟨λa=>?_,λa z q=>?_⟩ k3
  ·rw[t.all,k2.all];exact#[λz=>z.elim (λz=>z.elim .inl λq=>.inr<|.inl q) λq=>.inr<|.inr q,λz=>z.elim (λq=>.inl<|.inl q) λz=>z.elim (λq=>.inl<|.inr q) .inr]
  ·rcases q with q|q
   ·exact k2.ye a z q
   ·exact t.ye a ((k2.all a).mpr<|.inl z) q
structure vS(T:ci){D:Type}[Sls D](F R:Rg)(H:Hp)(d:D)(σ:St):Prop where
 rel:rel F R H d σ
 sub:∀a,F a->R a
 wZ:∀a,R a->H a≠none
 tab:TabAt H T
 vI:R T
 vy:¬F T
def zd(t:TabAt H T):H T≠none:=by refine e1a2 t λa e _=>?_;rw[e];simp
structure Ch(T:ci)(F R:Rg)(H:Hp)(F' R':Rg)(H':Hp):Prop where
 keep:∀b o,¬F b->b≠T->H b=↑o->H' b=↑o
 zP:∀a,R' a->R a\/H a=none
 xz:∀a,F' a->F a\/H a=none
 left:∀a,R a->¬F a->R' a
def Ch.refl(T:ci)(F R:Rg)(H:Hp):Ch T F R H F R H:=#[λ_ _ _ _ h=>h,λ_ h=>.inl h,λ_ h=>.inl h,λ_ h _=>h]
def Ch.trans{T:ci}{D:Type}[Sls D]{d:D}{u:St}{F R k l m p:Rg}{H j r:Hp}(s:vS T F R H d u)(v:TabAt j T)(a:Ch T F R H k l j)(b:Ch T k l j m p r):Ch T F R H m p r:=by
 have g:∀c,¬F c->H c≠none->¬k c:=λc n h z=>by
  rcases a.xz c z with q|q
  ·exact n q
  ·exact h q
 have f:∀c,j c=none->¬(F c)->H c=none:=λc h n=>by
  cases e:H c with
  |none=>rfl
  |some o =>
   have w:c≠T:=λz=>by rw[z]at h;exact zd v h
   rw[a.keep c o n w e]at h;cases h
 refine#[λc o n t h=>b.keep c o (g c n<|by rw[h];simp) t<|a.keep c o n t h,λc h=>?_,λc h=>?_,λc h n=>b.left c (a.left c h n)<|g c n<|s.wZ c h]
 ·rcases b.zP c h with q|q
  ·exact a.zP c q
  ·by_cases i:F c
   ·exact .inl<|s.sub c i
   ·exact .inr<|f c q i
 ·rcases b.xz c h with q|q
  ·exact a.xz c q
  ·by_cases i:F c
   ·exact .inl i
   ·exact .inr<|f c q i
def Ch.ext(c:Ch T F R H f d e):Ext (λa=>F a\/a=T) R H d e:=#[λb o n h=>c.keep b o (λz=>n<|.inl z) (λz=>n<|.inr z) h,c.zP]
def vS.val{T:ci}{D:Type}[Sls D]{d:D}{σ:St}{F R F' R':Rg}{H H':Hp}(s:vS T F R H d σ)(c:Ch T F R H F' R' H'){α:Type}[Rep α]{x:α}{v:V}(h:rp R H x v):rp R' H' x v :=
 Rep.st h (c.ext.wide λa z=>z.elim (s.sub a) λq=>by rw[q];exact s.vI)
def vS.new{T:ci}{D:Type}[Sls D]{d:D}{c:St}{F R:Rg}{H:Hp}(s:vS T F R H d c){p:ci}(o:HO)(f:H p=none):vS T F R (upd H p o) d c/\Ch T F R H F R (upd H p o)/\¬R p:=by
 have g:¬R p:=λz=>s.wZ p z f;have k:∀b u,H b=↑u->upd H p o b=↑u:=λb u e=>by rw[uR<|u4 e f];exact e
 refine#[#[Sls.st s.rel (G:=λ_=>False) #[λb u _ e=>k b u e,λa h=>.inl h] (λ_ z=>z.elim)<|λ_ _ z=>z,s.sub,λa z=>?_,?_,s.vI,s.vy],#[λb u _ _ e=>k b u e,λa h=>.inl h,λa h=>.inl h,λa h _=>h],g]
 ·cases e:H a with
  |none=>exact g8 e<|s.wZ a z
  |some u=>rw[k a u e];simp
 ·refine e1a2 s.tab λi e t=>?_;exact#[i,k _ _ e,t]
def EW(X:Cx)(E:XK)(T:ci)(e:iA){D α:Type}[Sls D][Rep α](w:Wf D α D):Prop :=
 ∃t,PE X e t/\∀(d:D)(F R:Rg)(σ:St)(H:Hp)(Kn:α->D->Prop)(Ke:ci->D->Prop)(Q:VK),vS T F R H d σ->w d Kn Ke ->
  (∀x d' v F' R' H',Kn x d'->Ch T F R H F' R' H'->vS T F' R' H' d' σ->rp R' H' x v->Q v H') ->
  (∀C y d' F' R' H',Ke C d'->Ch T F R H F' R' H'->vS T F' R' H' d' σ->E (.ref C) ↑y H')->t σ H Q
@[reducible] def cK{D K a:Type}(w:D->a->58->Prop)(g:K->a):D->K->58->Prop:=λd b c=>w d (g b) c
@[reducible] def cB{D a K b:Type}(w:Wf D a D)(v:D->b->58->Prop)(g:a->K->b):D->K->58->Prop:=λd e c=>w d (λx f=>v f (g x e) c) c
@[reducible] def cA{D:Type}(w v:Wf D Bool D):D->(Bool->D->Prop)->58->Prop:=λd a b=>w d (λx c=>if x=true then v c a b else a false c) b
@[reducible] def cO{D:Type}(w v:Wf D Bool D):D->(Bool->D->Prop)->58->Prop:=λd a b=>w d (λx c=>if x=true then a true c else v c a b) b
@[reducible] def cC{D e P B g a:Type}(w:D->(P->B->g->Prop)->58->Prop)(f:Wf P e a)(m:B->g->a->D):D->(e->D->Prop)->58->Prop:=λd i h=>w d (λp b l=>f p (λx c=>i x<|m b l c) λC c=>h C<|m b l c) h
@[reducible] def cM{D e g P B h a:Type}(w:D->(P->B->h->Prop)->58->Prop)(f:Wf (g×P) e a)(t:B->g)(m:B->h->a->D):D->(e->D->Prop)->58->Prop:=λd j i=>w d (λp b l=>f (t b,p) (λx c=>j x<|m b l c) λC c=>i C<|m b l c) i
@[reducible] def cN{D i e P B g a:Type}(w:D->(P->B->g->Prop)->58->Prop)(f:Wf (e×P) i a)(t:B->e)(m:B->g->a->D):D->(D->Prop)->58->Prop:=λd j h=>w d (λp b l=>f (t b,p) (λ_ c=>j<|m b l c) λC c=>h C<|m b l c) h
@[reducible] def cS{D a b c e:Type}(w:D->e->58->Prop)(j:D->b)(g:(a->Prop)->c->e):D->(a->Prop)->c->(ci->b->Prop)->Prop:=λd f h i=>w d (g f h) λC k=>i C<|j k
@[reducible] def cG{D a D' b c:Type}(w:D->(a->Prop)->b->c->Prop)(g:a->D'):D->(D'->Prop)->b->c->Prop:=λd e f h=>w d (λi=>e<|g i) f h
@[reducible] def cI{D e a f:Type}(w:Wf D Bool D)(u v:D->(e->Prop)->f->(ci->a->Prop)->Prop)(j:D->a):D->(e->Prop)->f->(ci->a->Prop)->Prop:=λd g h c=>w d (λb i=>if b=true then u i g h c else v i g h c) λC k=>c C<|j k
@[reducible] def cW{D c a e:Type}(w:Wf D Bool D)(v:D->(c->Prop)->e->(ci->a->Prop)->Prop)(g:c->D)(j:D->a):D->(D->Prop)->e->(ci->a->Prop)->Prop:=λd k l f=>∃W:Nat->D->Prop,(∃m,W m d)/\∀m d,W m d->w d (λb h=>if b=true then v h (λn=>∃i,i<m/\W i (g n)) l f else k h) λC o=>f C<|j o
@[reducible] def cT{D a b:Type}(w:D->(D->Prop)->58->Prop)(v:D->(D->Prop)->b->(ci->a->Prop)->Prop)(e:List ci):D->(D->Prop)->b->(ci->a->Prop)->Prop:=λd c f g=>w d c λC h=>C∈e/\v h c f g
structure Nw(T:ci){τ:Type}[Ow τ](F1 F2 R:Rg)(H:Hp)(x:τ)(v:V):Prop where
 is:sl F1 R H x ↑v
 sub:∀a,F1 a->R a
 ye:∀a,F1 a->F2 a->False
 tab:¬F1 T
def EO(X:Cx)(E:XK)(T:ci)(e:iA){D h:Type}[Sls D][Ow h](w:Wf D h D):Prop :=
 ∃t,PE X e t/\∀(d:D)(F R:Rg)(g:St)(H:Hp)(j:h->D->Prop)(k:ci->D->Prop)(Q:VK),vS T F R H d g->w d j k ->
  (∀x f v l i c b,j x f->Ch T F R H (λa=>l a\/i a) c b->vS T i c b f g->Nw T l i c b x v->Q v b) ->
  (∀C y f m c b,k C f->Ch T F R H m c b->vS T m c b f g->E (.ref C) ↑y b)->t g H Q
def TW(X:Cx)(E:XK)(T:ci)(e:iA){D:Type}[Sls D](w:Wf D Bool D):Prop :=
 ∃t,PT X e t/\∀(d:D)(F R:Rg)(g:St)(H:Hp)(h:Bool->D->Prop)(i:ci->D->Prop)(Q:Bool->Hp->Prop),vS T F R H d g->w d h i ->
  (∀x b c f a,h x b->Ch T F R H c f a->vS T c f a b g->Q x a) ->
  (∀C y b c f a,i C b->Ch T F R H c f a->vS T c f a b g->E (.ref C) ↑y a)->t g H Q
section
variable{D:Type}[Sls D]
def Xh{F R F1 F2 R':Rg}{H H':Hp}{d d':D}{σ:St}{α:Type}[Rep α]{x:OL α}{v:V}(s:vS T F R H d σ)(c:Ch T F R H (λa=>F1 a\/F2 a) R' H')(s':vS T F2 R' H' d' σ)(n:Nw T F1 F2 R' H' x v) :
  ∃JM,Ch T F R H F2 JM H'/\vS T F2 JM H' d' σ/\rp JM H' x.l v:=by
 have ex:Ext (λ_=>False) R' H' (λa=>R' a/\¬F1 a) H':=#[λ_ _ _ h=>h,λa h=>.inl h.1];refine#[λa=>R' a/\¬F1 a,#[c.keep,λa h=>c.zP a h.1,λa h=>c.xz a<|.inr h,λa h k=>#[c.left a h k,λz=>?_]],#[Sls.st s'.rel ex (λ_ z=>z.elim)<|λ_ _ z=>z,λa h=>#[s'.sub a h,λz=>n.ye a z h],λa h=>s'.wZ a h.1,s'.tab,#[s'.vI,n.tab],s'.vy],?_]
 ·rcases c.xz a (.inl z) with q|q
  ·exact k q
  ·exact s.wZ a h q
 ·refine e2a4 n.is λa vs h1 h2 h3 h4=>?_;cases h1;exact#[a,vs,rfl,λz=>z.2<|(h2 a).mpr rfl,h3,v7 (ex.wide λ_ z=>z.elim) h4]
def vD{α:Type}[Rep α]{w:Wf D (OL α) D}(h:EO X E T e w):EW X E T e (cK w λKn x d'=>Kn x.l d'):=by refine e1a2 h λt h1 h2=>?_;refine#[t,h1,λd F R σ H Kn Ke Q s hw kn ke=>h2 d F R σ H _ Ke Q s hw (λx d' v F1 F2 R' H' q c s' n=>?_) ke];refine e1a3 (Xh s c s' n) λJM c2 s2 r=>?_;exact kn x.l d' v F2 JM H' q c2 s2 r
def xB{F R:Rg}{H:Hp}{d:D}{σ:St}{α:Type}[Rep α]{xs:List α}{vs:List V}{p:ci}(s:vS T F R H d σ)(hp:H p=none)(h:Paired (rp R H) xs vs) :
  ∃R',Ch T F R H (λa=>a=p\/F a) R' (upd H p<|.lst vs)/\vS T F R' (upd H p<|.lst vs) d σ/\Nw T (λa=>a=p) F R' (upd H p<|.lst vs) (OL.mk xs) (.ref p):=by
 refine e0a3 (s.new (.lst vs) hp) λs1 c1 n1=>?_;have nF:¬F p:=λz=>n1<|s.sub p z;have ex:Ext (λ_=>False) R H (λa=>R a\/a=p) (upd H p<|.lst vs):=⟨λb o _ h=>by rw[uR<|u4 h hp];exact h,λa h=>h.elim .inl λq=>.inr<|by rw[q];exact hp⟩;refine⟨λa=>R a\/a=p,#[c1.keep,ex.new,λa h=>h.elim (λq=>.inr<|by rw[q];exact hp) .inl,λa h _=>.inl h],#[Sls.st s.rel ex (λ_ z=>z.elim)<|λ_ _ z=>z,λa h=>.inl<|s.sub a h,λa h=>?_,s1.tab,.inl s.vI,s.vy],#[#[p,vs,rfl,λb=>Iff.rfl,uT,v7 (ex.wide λ_ z=>z.elim) h],λa h=>.inr h,λa h k=>nF (by rw[<- h];exact k),λh=>n1<|by rw[<- h];exact s.vI]⟩;rcases h with h|h
 ·exact s1.wZ a h
 ·rw[h,uT];simp
def TB{i:Nat}{τ D':Type}[Ow τ][Sls D'][A:At i D τ D']{F R:Rg}{H:Hp}{d:D}{σ:St}(s:vS T F R H d σ):∃v F1 F2,σ[i]?=↑v/\Dd F F1 F2/\sl F1 R H (A.get d) v/\rel F2 R H (A.hole d) σ:=A.take s.rel
def ss[Rep a][Sls c](i:Nat)[A:At i D a c](e:PE X 97 (vw i):=by exact pv _):EW X E T 97 (λ(d:D)(b:a->D->Prop) _=>b (A.get d) d):=by refine#[_,e,λd F R k H b l Q s f g _=>?_];obtain⟨v,m,n,h,o,⟨_,u,rfl,j⟩,_⟩:=A.take s.rel;exact#[u,h,g _ d u F R H f 53 s j]
def uV{n:Int}{k:Nat}:EW X E T (.Constant (.int n) k pos) (λ(d:D)(a:Int->D->Prop) _=>a n d) :=
 #[_,vr,λd F R e H a f Q s b c _=>c n d _ F R H b 53 s rfl]
def yJ{b:Bool}{k:Nat}:EW X E T (.Constant (.bool b) k pos) (λ(d:D)(a:Bool->D->Prop) _=>a b d) :=
 #[_,YV,λd F R f H a g Q s c e _=>e b d _ F R H c 53 s rfl]
def Kv{k:Nat}:EW X E T (.Constant .none k pos) (λ(d:D)(a:Unit->D->Prop) _=>a () d) :=
 #[_,JR,λd F R e H a f Q s b c _=>c () d _ F R H b 53 s rfl]
def PP{α β γ:Type}[Rep α][Rep β][Rep γ]{wa:Wf D α D}{wb:Wf D β D}{c:α->β->Prop}{g:α->β->γ}
 (ha:EW X E T a wa) (hb:EW X E T b wb) (he:∀ta tb,PE X a ta->PE X b tb->PE X e (YG r ta tb))
 (hr:∀{R:Rg} {H:Hp} {x:α} {y:β} {u v:V} {Q:VK},rp R H x u->rp R H y v->c x y->(∀z,rp R H (g x y) z->Q z H)->r u v H Q) :
    EW X E T e (cB wa wb λx Kn y d2=>c x y/\Kn (g x y) d2):=by
  refine e1a2 ha λta a1 a2=>?_
  refine e1a2 hb λtb b1 b2=>?_
  refine#[_,he ta tb a1 b1,λd F R σ H Kn Ke Q s hw kn ke=>?_]
  refine a2 d F R σ H _ Ke _ s hw (λx d1 u F1 R1 H1 q1 c1 s1 r1=>?_) ke
  refine b2 d1 F1 R1 σ H1 _ Ke _ s1 q1 (λy d2 v F2 R2 H2 q2 c2 s2 r2=>?_) λC y d' F' R' H' k c s'=>ke C y d' F' R' H' k (Ch.trans s s1.tab c1 c) s'
  exact hr (s1.val c2 r1) r2 q2.1 λz rz=>kn _ d2 z F2 R2 H2 q2.2 (Ch.trans s s1.tab c1 c2) s2 rz
def Xi{α γ:Type}[Rep α][Rep γ]{r:V->Hp->VK->Prop}{wa:Wf D α D}{c:α->Prop}{g:α->γ}
 (ha:EW X E T a wa) (he:∀ta,PE X a ta->PE X e (tUn r ta)) (hr:∀{R:Rg} {H:Hp} {x:α} {u:V} {Q:VK},rp R H x u->c x->(∀z,rp R H (g x) z->Q z H)->r u H Q) :
    EW X E T e (cK wa λKn x d1=>c x/\Kn (g x) d1):=by
  refine e1a2 ha λta a1 a2=>?_
  refine#[_,he ta a1,λd F R σ H Kn Ke Q s hw kn ke=>?_]
  refine a2 d F R σ H _ Ke _ s hw (λx d1 u F1 R1 H1 q1 c1 s1 r1=>?_) ke
  exact hr r1 q1.1 λz rz=>kn _ d1 z F1 R1 H1 q1.2 c1 s1 rz
def Xj{c:Int->Int->Prop}{g:Int->Int->Int}{f h:Wf D Int D}(l:zU X (mo op) (rI c λi j=>.int<|g i j))(m:EW X E T a f)(n:EW X E T b h) :
  EW X E T (.BinOp a op b pos) (cB f h λx o y p=>c x y/\o (g x y) p) :=
 PP (γ:=Int) m n (λr s d e=>wN l d e) λd e q k=>#[_,_,d,e,q,k _ rfl]
def BE{g:Int->Int->Int}{wa wb:Wf D Int D}(ho:zU X (mo op) (Sn λi j=>.int<|g i j))(ha:EW X E T a wa)(hb:EW X E T b wb) :
  EW X E T (.BinOp a op b pos) (cB wa wb λx Kn y d2=>Kn (g x y) d2):=by
 have h:=PP (c:=λ_ _=>True) (γ:=Int) (g:=g) (e:=.BinOp a op b pos) ha hb (λta tb h1 h2=>wN ho h1 h2) λh1 h2 _ k=>#[_,_,h1,h2,k _ rfl];simp only[true_and]at h;exact h
class GJ(α:Type)[Rep α][DecidableEq α] where
 sc:∀{R:Rg} {H:Hp} {x y:α} {u v:V},rp R H x u->rp R H y v->WH u v=true/\decide (u=v)=decide (x=y)
instance:GJ Int:=#[λ{R H x y u v} h1 h2=>by
 subst h1;subst h2;refine#[rfl,?_];by_cases e:x=y
 ·rw[e];simp
 ·rw[ig e,ig (λz=>e (by cases z;rfl))]]
instance:GJ Bool:=#[λ{R H x y u v} h1 h2=>by
 subst h1;subst h2;refine#[rfl,?_]
 cases x<;>cases y<;>rfl]
def Mj{α:Type}[Rep α]{x:Option α}(h:rp R H x u):decide (u=.wq)=x.isNone:=by
 cases x with
 |none=>have h:u=.wq:=h;rw[h];rfl
 |some y=>exact ig h.1
end
variable[L2.GX]
section
variable{D:Type}[Sls D]
def ve{b:Type}[Rep b]{w:Wf D b D}(h:EO X E T e w):EW X E T e w:=by refine e1a2 h λt f g=>?_;refine#[t,f,λd F R i H B j Q s k l m=>g d F R i H _ j Q s k (λx o v C p r y q c z n=>?_) m];obtain⟨G,u,e,A⟩:=n.is;cases e;exact l x o v p r y q #[c.keep,c.zP,λa h=>c.xz a<|.inr h,c.left] z A
def vj{b:Type}[Rep b]{w:Wf D b D}(h:EW X E T e w):EO X E T e w:=by refine e1a2 h λt f g=>?_;refine#[t,f,λd F R i H A j Q s k l m=>g d F R i H _ j Q s k (λx n v o p u q c y r=>?_) m];exact l x n v (λ_=>False) o p u q #[c.keep,c.zP,λa h=>c.xz a<|h.elim (λz=>z.elim) id,c.left] y #[#[λ_ z=>z,v,rfl,r],λ_ z=>z.elim,λ_ z=>z.elim,λz=>z]
end
class Hs(τ:Type)[Ow τ]:Prop where
 has:∀{F R:Rg} {H:Hp} {x:τ} {v:Option V},sl F R H x v->∃u,v=↑u
instance{α:Type}[Rep α]:Hs (OL α):=#[λz9=>e2a2 z9 λa _ h _=>#[_,h]]
instance{α:Type}[Rep α]:Hs α:=#[λz9=>e0a2 z9 λ_ z39=>e1a2 z39 λu h _=>#[u,h]]
structure Std(T:ci)(F R:Rg)(H:Hp):Prop where
 sub:∀a,F a->R a
 wZ:∀a,R a->H a≠none
 tab:TabAt H T
 vI:R T
 vy:¬F T
def vS.Sr{T:ci}{D:Type}[Sls D]{F R:Rg}{H:Hp}{d:D}{a:St}(s:vS T F R H d a):Std T F R H:=#[s.sub,s.wZ,s.tab,s.vI,s.vy]
def Std.stt{T:ci}{D:Type}[Sls D]{F R:Rg}{H:Hp}{d:D}{a:St}(s:Std T F R H)(h:rel F R H d a):vS T F R H d a:=#[h,s.sub,s.wZ,s.tab,s.vI,s.vy]
section
variable{D:Type}[Sls D]
def two_nil(F:Rg):Dd F (λ_=>False) F:=#[λ_=>#[.inr,λz=>z.elim (λq=>q.elim) id],λ_ z _=>z]
def two_eq(t:Dd F b c)(n:∀a,¬b a):∀a,c a↔F a:=λa=>#[λz=>(t.all a).mpr<|.inr z,λz=>((t.all a).mp z).elim (λq=>g8 q<|n a) id]
end
def yn(T:ci){P d f:Type}[Sls P][Sls d][Ow f](w:Wf P f d):Sp:=λg H Q E=>∃(F R:Rg)(p:P)(i:f->d->Prop)(j:ci->d->Prop),vS T F R H p (g.map some)/\w p i j /\
 (∀x e v k h c b,i x e->Ch T F R H (λa=>k a\/h a) c b->vS T h c b e (g.map some)->Nw T k h c b x v->Q v b) /\
 (∀C y e l c b,j C e->Ch T F R H l c b->vS T l c b e (g.map some)->E (.ref C) ↑y b)
def Ag(c:List Nat)(b a:St):Prop:=a.length=b.length/\∀i∈c,a[i]?=b[i]?
def Ag.refl(b:List Nat)(a:St):Ag b a a:=#[rfl,λ_ _=>rfl]
def Ag.trans(a:Ag e f c)(b:Ag e c d):Ag e f d:=#[b.1.trans a.1,λi h=>(b.2 i h).trans<|a.2 i h]
def Ag.set{i:Nat}(h:i∉a):Ag a b (b.set i v):=#[lZ,λj c=>mW λe=>h<|by rw[e];exact c]
structure Ss(P:Type)[Sls P](ms:List Nat)(n:Nat):Prop where
 dp:∀{F R:Rg} {H:Hp} {p:P} {σ σ':St},Ag ms σ σ'->rel F R H p (σ'.take n)->rel F R H p (σ.take n)
class Dp(P:Type)[Sls P](n:outParam Nat)(l:outParam (List Nat)):Prop where
 dp:Ss P l n
instance dp0:Dp Unit 0 []:=#[#[λ{F R H p σ σ'} _ h=>#[rfl,h.2]]]
instance(priority:=high) dpU {P:Type}{n:Nat}{l:List Nat}[Sls P][A:Dp P n l]:Dp (Un×P) (n+1) (l.map (· + 1)):=#[#[λ{F R H p σ σ'} a r=>by
 refine e4a4 r λv σ1 F1 F2 h1 h2 h3 h4=>?_
 cases σ' with
 |nil=>cases h1
 |cons v' r' =>
  cases σ with
  |nil=>have:=a.1;simp at this
  |cons u r =>
   injection h1 with e1 e2;subst e2;refine#[u,r.take n,F1,F2,rfl,h2,h3,A.dp.dp (σ':=r') #[by have:=a.1;simpa using this,λi hi=>?_] h4];have:=a.2 (i+1)<|List.mem_map.mpr #[i,hi,rfl]
   simpa using this]]
instance dpO{τ P:Type}{n:Nat}{l:List Nat}[Ow τ][Sls P][A:Dp P n l]:Dp (τ×P) (n+1) (0::l.map (· + 1)):=#[#[λ{F R H p σ σ'} a r=>by
 refine e4a4 r λv σ1 F1 F2 h1 h2 h3 h4=>?_
 cases σ' with
 |nil=>cases h1
 |cons v' r' =>
  cases σ with
  |nil=>have:=a.1;simp at this
  |cons u r =>
   injection h1 with e1 e2;subst e2
   have e0:v'=u:=by have:=a.2 0 gO;simpa using this
   subst e0;subst e1;refine#[v',r.take n,F1,F2,rfl,h2,h3,A.dp.dp (σ':=r') #[by have:=a.1;simpa using this,λi hi=>?_] h4];have:=a.2 (i+1)<|gS _<|List.mem_map.mpr #[i,hi,rfl]
   simpa using this]]
def vC[Sls P]{n:Nat}[A:Dp P n l](h:∀i∈l,i∈b):Ss P b n:=#[λa r=>A.dp.dp #[a.1,λi c=>a.2 i<|h i c] r]
def VX(E:XK)(T:ci)(u:List Nat)(n:Nat)(t:TS){D j f k:Type}[Sls D][Sls j][Sls f][Ow k](w:D->(j->Prop)->(k->f->Prop)->(ci->f->Prop)->Prop):Prop :=
 ∀(d:D)(F R:Rg)(g:St)(H:Hp)(o:j->Prop)(p:k->f->Prop)(q:ci->f->Prop)(l:Ends),vS T F R H d g->w d o p q ->
  (∀r h c b e,o r->Ch T F R H h c b->vS T h c b r e->Ag u g e->l.nx e b) ->
  (∀x i v s m c b,p x i->Ch T F R H (λa=>s a\/m a) c b->vS T m c b i (g.take n)->Nw T s m c b x v->l.rt v b) ->
  (∀C y i h c b,q C i->Ch T F R H h c b->vS T h c b i (g.take n)->E (.ref C) ↑y b)->t l g H
def S1(X:Cx)(E:XK)(T:ci)(d:List Nat)(n:Nat)(e:ic){D b a c:Type}[Sls D][Sls b][Sls a][Ow c](w:D->(b->Prop)->(c->a->Prop)->(ci->a->Prop)->Prop):Prop:=∃t,PS X e t/\VX E T d n t w
def SW(X:Cx)(E:XK)(T:ci)(e:List Nat)(n:Nat)(a:List ic){D c b d:Type}[Sls D][Sls c][Sls b][Ow d](w:D->(c->Prop)->(d->b->Prop)->(ci->b->Prop)->Prop):Prop:=∃t,Fb X a t/\VX E T e n t w
section
variable{D D' D1 PO τ:Type}[Sls D][Sls D'][Sls D1][Sls PO][Ow τ]
def vv:SW X E T f n [] (λ(d:D)(a:D->Prop)(_:τ->PO->Prop) _=>a d) :=
 #[_,zo,λd F R b H a g h i s c e _ _=>e d F R H b c 53 s<|Ag.refl _ _]
def PQ:SW X E T e n a (λ(d:D)(b:D'->Prop)(_:τ->PO->Prop) _=>False) :=
 #[_,M7,λd F R f H b g h i s c j _ _=>c.elim]
def a10{t:TS}[A:Fg D1 D']{w:D->(D1->Prop)->87->79->Prop}(f:VX E T g n t w):VX E T g n t (cG (D':=D') w A.fg):=by refine λd F R i H x j k l s m o p r=>f d F R i H _ j k l s m (λy z u v e q c b a=>?_) p r;refine e1a2 (A.le b.rel) λG g1 g2=>?_;exact o _ G u v e q #[c.keep,c.zP,λa h=>c.xz a<|g1 a h,c.left] ⟨g2,λa h=>b.sub a<|g1 a h,b.wZ,b.tab,b.vI,λh=>b.vy<|g1 _ h⟩ a
def Ml{a:List ic}[A:Fg D1 D']{w:D->(D1->Prop)->87->79->Prop}(h:SW X E T b n a w):SW X E T b n a (cG (D':=D') w A.fg) :=
 e1a2 h λt c d=> #[t,c,a10 d]
def VY{A:D->(D1->Prop)->87->79->Prop}{B:D1->(D'->Prop)->87->79->Prop}(G:Ss PO k n)(L:VX E T k n M A)(N:VX E T k n O B) :
  VX E T k n (JT M O) (λd l b e=>A d (λo=>B o l b e) b e):=by
 refine λd F R P H l b e Q s S U I J=>L d F R P H _ b e _ s S (λo W X Y p q r j t=>?_) I J;refine N o W X p Y l b e Q j q (λZ u f h w i c a g=>U Z u f h w i (Ch.trans s j.tab r c) a<|t.trans g) (λx z v M1 M2 f h i c a m=>?_) λC y z u f h i c a=>?_
 ·exact I x z v M1 M2 f h i (Ch.trans s j.tab r c) #[G.dp t a.rel,a.sub,a.wZ,a.tab,a.vI,a.vy] m
 ·exact J C y z u f h i (Ch.trans s j.tab r c) #[G.dp t a.rel,a.sub,a.wZ,a.tab,a.vI,a.vy]
def Dr{c:ic}{a:List ic}{w1:D->(D1->Prop)->87->79->Prop}{w2:D1->(D'->Prop)->87->79->Prop}(g:Ss PO b n)(h:S1 X E T b n c w1)(i:SW X E T b n a w2) :
  SW X E T b n (c::a) (λd j e f=>w1 d (λk=>w2 k j e f) e f) :=
 e1a2 h λq l m=> e1a2 i λr o p=> #[_,vZ l o,VY g m p]
def uS{a:ic}{b:D->(D'->Prop)->87->79->Prop}(c:S1 X E T d n a b):SW X E T d n [a] b :=
 e1a2 c λg e f=> #[_,xO e,f]
def v8[A:Pj D PO n](s:vS T c e f d g):∃G,(∀a,G a->c a)/\vS T G e f (A.pj d) (g.take n):=by refine e1a2 (A.le s.rel) λG b i=>?_;exact#[G,b,i,λa h=>s.sub a<|b a h,s.wZ,s.tab,s.vI,λh=>s.vy<|b _ h]
def Ch.less(c:Ch T F R H b d e)(g:∀a,G a->b a):Ch T F R H G d e:=#[c.keep,c.zP,λa h=>c.xz a<|g a h,c.left]
def vf[A:Pj D PO n](h:EO X E T e p):S1 X E T M n (.Return ↑e pos) (cS p A.pj λ(_:D'->Prop)(o:τ->PO->Prop) x f=>o x<|A.pj f):=by
 refine e1a2 h λt r u=>?_;refine#[_,Cd r,λd F R w H N o O P s B Q I J=>u d F R w H _ _ _ s B (λx f v L S g i q c j m=>?_) λC y f U g i q c j=>?_]
 ·refine e1a2 (v8 (PO:=PO) j) λG b l=>?_;exact I x _ v L G g i q (c.less λa h=>h.elim .inl λz=>.inr<|b a z) l ⟨m.is,m.sub,λa h k=>m.ye a h<|b a k,m.tab⟩
 ·refine e1a2 (v8 (PO:=PO) j) λG b l=>?_;exact J C y _ G g i q (c.less b) l
def wn{i:Type}[Rep i][A:Pj D PO n]{j:Wf D i D}(h:EW X E T e j)(p:jx e none pos.line X.env=pure false:=by rfl) :
  S1 X E T M n (.Expr e pos) (cS j A.pj λ(k:D->Prop)(r:τ->PO->Prop) _ a=>k a):=by
 refine e1a2 h λt u w=>?_;refine#[_,AE u p,λd F R l H k r N O s z B P I=>w d F R l H _ _ _ s z (λx a v o b f q c g m=>B a o b f l q c g<|Ag.refl _ _) λC y a o b f q c g=>?_];refine e1a2 (v8 (PO:=PO) g) λG J L=>?_;exact I C y _ G b f q (c.less J) L
def vF{a b:List ic}[A:Pj D PO n]{B:Wf D Bool D}{I J:D->(D'->Prop)->87->79->Prop}(hc:TW X E T c B)(ha:SW X E T L n a I)(hb:SW X E T L n b J) :
  S1 X E T L n (.If c a b pos) (cI B I J A.pj):=by
 refine e1a2 hc λtc c1 c2=>?_;refine e1a2 ha λta a1 a2=>?_;refine e1a2 hb λtb b1 b2=>?_;refine#[_,LX c1 a1 b1,λd F R t H M N O P s hw Q S u=>c2 d F R t H _ _ _ s hw (λx U W Y Z q c k=>?_) λC y r l e f q c h=>?_]
 ·cases x with
  |true=>exact a2 U W Y t Z M N O P k q (λr l e f o i j h g=>Q r l e f o i (Ch.trans s k.tab c j) h g) (λx p v w z e f i j h m=>S x p v w z e f i (Ch.trans s k.tab c j) h m) λC y p l e f i j h=>u C y p l e f i (Ch.trans s k.tab c j) h
  |false=>exact b2 U W Y t Z M N O P k q (λr l e f o i j h g=>Q r l e f o i (Ch.trans s k.tab c j) h g) (λx p v w z e f i j h m=>S x p v w z e f i (Ch.trans s k.tab c j) h m) λC y p l e f i j h=>u C y p l e f i (Ch.trans s k.tab c j) h
 ·refine e1a2 (v8 (PO:=PO) h) λG g1 g2=>?_;exact u C y _ G e f q (c.less g1) g2
def D9{i:Nat}[Ow c][Ow e][Sls f][Sls j][A:At i D c f][U:Pt i f e j](s:vS T g R H d k)(m:Nw T F1 g R H x v) :
  ∃G,(∀a,G a->F1 a\/g a)/\vS T G R H (U.put (A.hole d) x) (k.set i<|↑v):=by
 refine e3a4 (A.take s.rel) λo p l r b t n=>?_;refine#[λa=>F1 a\/l a,λa h=>h.elim .inl λz=>.inr<|(b.all a).mpr<|.inr z,U.back n ⟨λ_=>Iff.rfl,λa z q=>m.ye a z<|(b.all a).mpr<|.inr q⟩ m.is,λa h=>h.elim (m.sub a) λz=>s.sub a<|(b.all a).mpr<|.inr z,s.wZ,s.tab,s.vI,λh=>h.elim m.tab λz=>s.vy<|(b.all T).mpr<|.inr z]
def vk(i:Nat)[Ow b][Ow f][Sls r][Sls u][A:At i D b r][U:Pt i r f u][J:Pj D PO n](z:X.N.Nodup)(h:EO X E T e B)(I:X.N[i]?=↑x:=by rfl)(hx:Loc X.env.scope x:=by exact kg rfl)(L:i∉M:=by decide)
 (O:jx e (some<|.Name x a) pos.line X.env=pure false:=by rfl) (P:X.fn x=true\/X.env.scope.names.lookup x=some .local:=by first|exact .inl rfl|exact .inr rfl) :
    S1 X E T M n (.Assign [.Name x a] e pos) (cS B J.pj λ(w:u->Prop)(Q:τ->PO->Prop) x g=>w<|U.put (A.hole g) x):=by
  refine e1a2 h λt S W=>?_
  refine#[_,zp z I hx S O P,λd F R Y H w Q Ke En s Z kn kr ke=>W d F R Y H _ _ _ s Z (λx g v F1 F2 j k q c l m=>?_) λC y g F' j k q c l=>?_]
  · refine e1a2 (D9 (i := i) l m) λG o p => ?_
    exact kn _ G j k _ q (c.less o) p<|Ag.set L
  · refine e1a2 (v8 (PO := PO) l) λG o p => ?_
    exact ke C y _ G j k q (c.less o) p
end
class Ent(P:Type)[Sls P](k:Nat)(D:outParam Type)[Sls D] where
 ent:P->D
 ok:∀{F R:Rg} {H:Hp} {p:P} {σ:St},rel F R H p σ->rel F R H (ent p) (σ++kM k none)
noncomputable instance ent0:Ent Unit 0 Unit:=#[id,λh=>by obtain⟨rfl,h⟩:=h;exact#[rfl,h]]
noncomputable instance entS{k:Nat}{D:Type}[Sls D][A:Ent Unit k D]:Ent Unit (k+1) (Un×D):=#[λp=>(#[],A.ent p),λ{F R H p σ} h=>by
 obtain⟨rfl,h⟩:=h
 exact#[none,kM k none,λ_=>False,F,by rw[List.nil_append];rfl,two_nil F,λ_ z=>z,by simpa using A.ok (σ:=[]) (p:=p) (F:=F) (R:=R) (H:=H) #[rfl,h]]]
noncomputable instance entC{k:Nat}{τ P D:Type}[Ow τ][Sls P][Sls D][A:Ent P k D]:Ent (τ×P) k (τ×D):=#[λp=>(p.1,A.ent p.2),λ{F R H p σ} h=>by
 obtain⟨v,σ',F1,F2,rfl,h2,h3,h4⟩:=h
 exact#[v,σ'++kM k none,F1,F2,rfl,h2,h3,A.ok h4]]
class Ln(P:Type)[Sls P](n:outParam Nat):Prop where
 ln:∀{F R:Rg} {H:Hp} {p:P} {σ:St},rel F R H p σ->σ.length=n
instance ln0:Ln Unit 0:=#[λh=>by rw[h.1];rfl]
instance lnS{τ P:Type}{n:Nat}[Ow τ][Sls P][A:Ln P n]:Ln (τ×P) (n+1):=#[λh=>by
 obtain⟨v,σ',F1,F2,rfl,_,_,h4⟩:=h
 rw[hZ,A.ln h4]]
def wy{r:ic}{N M:List Str}{k j n:Nat}{ms:List Nat}{A PO τ D D':Type}[Sls A][Sls PO][Ow τ][Sls D][Sls D'][L:Ln A n][J:Ent A j D]{O:D->(D'->Prop)->87->79->Prop}
 (F:yX K x d r f fd) (S:uZ N M (uQ r)) (hn:M.length=n) (hj:N.length-n=j)
 (i:∀(b:cr)(A:jq)(a:List Env)(s:gN)(H:Hp)(E:XK),wg k (A.deeper<|oC d (uQ r) ⇑s f b)->SW (vO (vJ P w) P w K mg base N d (uQ r) f b A a s H E) E T ms n (vA r) O) :
    vB P w K mg base (vJ P w) (k+1) f fd M (yn T λ(p:A)(U:τ->PO->Prop) l=>O (J.ent p) (λ_=>False) U l):=by
  have e:∀{g:List V} {H:Hp} {Q:VK} {E:XK},yn T (λ(p:A)(U:τ->PO->Prop) l=>O (J.ent p) (λ_=>False) U l) g H Q E->g.length=n:=λh=>by
    obtain⟨F,R,p,Kn,l,s,_⟩:=h
    have:=L.ln s.rel
    rwa [gM]at this
  obtain⟨oc,od,kV,aa,pm,an,b,ct,ab,rfl,lk,W⟩:=F.ex
  refine IB lk W S (λg H Q E h=>(e h).trans hn.symm) λAr a s H g Q E hr u=>?_
  refine e1a2 (i b Ar a s H E hr) λt h1 h2=>?_
  refine#[t,h1,?_]
  have X:=e u
  obtain⟨F,R,p,Kn,l,o,hw,kn,ke⟩:=u
  have B:start N g=g.map some++kM j none:=by unfold L2.start;rw[X,hj]
  have G:(start N g).take n=g.map some:=by rw[B,mX (by rw[gM,X];exact gK _),jl<|by rw[gM,X];exact gK _]
  refine h2 (J.ent p) F R _ H _ Kn l _ #[by rw[B];exact J.ok o.rel,o.sub,o.wZ,o.tab,o.vI,o.vy] hw (λ_ _ _ _ _ z=>z.elim) (λx Y v F1 F2 Z H' q c I m=>?_) λC y Y F' Z H' q c I=>?_
  · rw[G]at I
    exact kn x Y v F1 F2 Z H' q c I m
  · rw[G]at I
    exact ke C y Y F' Z H' q c I
def VZ{o:ic}{N J:List Str}{k j n:Nat}{ms:List Nat}{A PO τ D D':Type}[Sls A][Sls PO][Ow τ][Sls D][Sls D'][L:Ln A n][I:Ent A j D]{M:D->(D'->Prop)->87->79->Prop}
 (F:yX K x b o f O) (S:uZ N J (uQ o)) (hn:J.length=n) (hj:N.length-n=j)
 (g:∀(A:jq)(a:List Env)(s:gN)(H:Hp)(E:XK),wg k (A.deeper<|oC b (uQ o) ⇑s f O.code)->SW (vO (vJ P w) P w K mg base N b (uQ o) f O.code A a s H E) E T ms n (vA o) M) :
    vB P w K mg base (vJ P w) (k+1) f O J (yn T λ(p:A)(U:τ->PO->Prop) i=>M (I.ent p) (λ_=>False) U i):=by
  have d:∀{e:List V} {H:Hp} {Q:VK} {E:XK},yn T (λ(p:A)(U:τ->PO->Prop) i=>M (I.ent p) (λ_=>False) U i) e H Q E->e.length=n:=λh=>by
    obtain⟨F,R,p,Kn,i,s,_⟩:=h
    have:=L.ln s.rel
    rwa [gM]at this
  obtain⟨oc,od,kV,aa,pm,an,ab,ct,ae,rfl,lk,W⟩:=F.ex
  refine IB lk W S (λe H Q E h=>(d h).trans hn.symm) λAr a s H e Q E hr r=>?_
  refine e1a2 (g Ar a s H E hr) λt h1 h2=>?_
  refine#[t,h1,?_]
  have X:=d r
  obtain⟨F,R,p,Kn,i,l,hw,kn,ke⟩:=r
  have u:start N e=e.map some++kM j none:=by unfold L2.start;rw[X,hj]
  have B:(start N e).take n=e.map some:=by rw[u,mX (by rw[gM,X];exact gK _),jl<|by rw[gM,X];exact gK _]
  refine h2 (I.ent p) F R _ H _ Kn i _ #[by rw[u];exact I.ok l.rel,l.sub,l.wZ,l.tab,l.vI,l.vy] hw (λ_ _ _ _ _ z=>z.elim) (λx Y v F1 F2 Z H' q c G m=>?_) λC y Y F' Z H' q c G=>?_
  · rw[B]at G
    exact kn x Y v F1 F2 Z H' q c G m
  · rw[B]at G
    exact ke C y Y F' Z H' q c G
def Ea{O:ic}{N ps:List Str}{k j n:Nat}{ms:List Nat}{A PO D D':Type}[Sls A][Sls PO][Sls D][Sls D'][L:Ln A n][En:Ent A j D][J:Pj D' PO n](dp:Ss PO ms n){w0:D->(D'->Prop)->(Unit->PO->Prop)->79->Prop}
 (F:yX K x e O f fd) (S:uZ N ps (uQ O)) (hn:ps.length=n) (hj:N.length-n=j)
 (o:∀(d:cr)(A:jq)(b:List Env)(s:gN)(H:Hp)(E:XK),wg k (A.deeper<|oC e (uQ O) ⇑s f d)->SW (vO (vJ P w) P w K mg base N e (uQ O) f d A b s H E) E T ms n (vA O) w0) :
    vB P w K mg base (vJ P w) (k+1) f fd ps (yn T λ(p:A)(U:Unit->PO->Prop) B=>w0 (En.ent p) (λd'=>U ()<|J.pj d') U B):=by
  have i:∀{l:List V} {H:Hp} {Q:VK} {E:XK},yn T (λ(p:A)(U:Unit->PO->Prop) B=>w0 (En.ent p) (λd'=>U ()<|J.pj d') U B) l H Q E->l.length=n:=λh=>by
    obtain⟨F,R,p,Kn,B,s,_⟩:=h
    have:=L.ln s.rel
    rwa [gM]at this
  obtain⟨oc,od,kV,ab,pm,an,d,ct,ae,rfl,lk,aa⟩:=F.ex
  refine IB lk aa S (λl H Q E h=>(i h).trans hn.symm) λAr b s H l Q E hr W=>?_
  refine e1a2 (o d Ar b s H E hr) λt h1 h2=>?_
  refine#[t,h1,?_]
  have hl:=i W
  obtain⟨F,R,p,Kn,B,I,hw,kn,ke⟩:=W
  have X:start N l=l.map some++kM j none:=by unfold L2.start;rw[hl,hj]
  have r:(start N l).take n=l.map some:=by rw[X,mX (by rw[gM,hl];exact gK _),jl<|by rw[gM,hl];exact gK _]
  refine h2 (En.ent p) F R _ H _ Kn B _ #[by rw[X];exact En.ok I.rel,I.sub,I.wZ,I.tab,I.vI,I.vy] hw (λd' F' Y Z af q c u g=>?_) (λx p' v F1 F2 Y Z q c u m=>?_) λC y p' F' Y Z q c u=>?_
  · refine e1a2 (v8 (PO := PO) u) λG g1 M => ?_
    have g3:=dp.dp g M.rel
    rw[r]at g3
    exact kn () _ .wq (λ_=>False) G Y Z q (c.less λa h=>h.elim (λz=>z.elim)<|g1 a) ⟨g3,M.sub,M.wZ,M.tab,M.vI,M.vy⟩ ⟨⟨λ_ z=>z,.wq,rfl,rfl⟩,λ_ z=>z.elim,λ_ z=>z.elim,λz=>z⟩
  · rw[r]at u
    exact kn x p' v F1 F2 Y Z q c u m
  · rw[r]at u
    exact ke C y p' F' Y Z q c u
end WL
namespace WL
open PySem L2
open Rep (rp)
open Ow (sl)
open Sls (rel)
class Dat(α:Type)[Rep α][DecidableEq α] where
 dat:α->PyData
 dp:Nat
 rd:∀{X:Cx} {R:Rg} {H:Hp} {x:α} {v:V},rp R H x v->Do X H v (dat x)
 lay:∀x,(dat x).canLay0=true
 dep:∀x,(dat x).depth<=dp
 nm:∀x y,pc (dat x) (dat y)=true
 sm:∀x y,kN (dat x) (dat y)=decide (x=y)
instance:Dat Int where
 dat:=.int
 dp:=0
 rd h:=by have h:_=_:=h;subst h;exact Do.int _
 lay _:=by simp[oY]
 dep _:=by simp[rZ]
 nm _ _:=by simp[pc]
 sm x y:=by rw[kN];by_cases h:x=y<;>simp[h]
section
variable{α β:Type}[Rep α][DecidableEq α][Dat α][Rep β][DecidableEq β][Dat β]
def zw{X:Cx}{R:Rg}{H:Hp}:∀{xs:List α} {vs:List V},Paired (rp R H) xs vs->Paired (Do X H) vs (xs.map Dat.dat):=by
 intro _ _ z
 induction z with
 |nil=>exact .nil
 |cons h t ih=>exact .cons (Dat.rd h) ih
def Ds:∀a:List α,mn (a.map Dat.dat)=true
 | []=>by simp[mn]
 |x::a=>by simp only[ik,mn,Dat.lay x,Ds a,pZ]
def Mm:∀a:List α,oH (a.map Dat.dat)<=Dat.dp α
 | []=>by simp[oH]
 |x::a=>by
  have b:=Mm a;have c:=Dat.dep x;simp only[ik,oH]
  lia
def PR:∀a b:List α,mu (a.map Dat.dat) (b.map Dat.dat)=true
 | [],[]=>by simp[mu]
 | [],_::_=>by simp[mu]
 |_::_,[]=>by simp[mu]
 |x::a,y::b=>by simp only[ik,mu,Dat.nm x y,PR a b,pZ]
def PU:∀xs ys:List α,kH (xs.map Dat.dat) (ys.map Dat.dat)=decide (xs=ys)
 | [],[]=>by simp[kH]
 | [],_::_=>by simp[kH]
 |_::_,[]=>by simp[kH]
 |x::xs,y::ys=>by simp only[ik,kH,Dat.sm x y,PU xs ys];by_cases h:x=y<;>simp[h]
instance:Dat (List α) where
 dat xs:=.list<|xs.map Dat.dat
 dp:=Dat.dp α+1
 rd h:=by obtain⟨a,vs,rfl,_,h3,h4⟩:=h;exact Do.lst (v6.of h3)<|zw h4
 lay xs:=by simp only[oY];exact Ds xs
 dep xs:=by simp only[rZ];have:=Mm xs;omega
 nm xs ys:=by simp only[pc];exact PR xs ys
 sm xs ys:=by simp only[kN];exact PU xs ys
def Do.tup{X:Cx}(h:yY X.K H a c)(p:Paired (Do X H) c d):Do X H (.ref a) (.tuple d):=λb l s u I r=>by
 cases r;refine e1a3 (I.tuple h) λvh e f _=>?_;obtain⟨m,g⟩:=FV I e p;obtain⟨o,i,j,n,k⟩:=f;exact#[_,Reads.tuple i j k<|by simpa using g]
instance:Dat (α×β) where
 dat x:=.tuple [Dat.dat x.1,Dat.dat x.2]
 dp:=max (Dat.dp α) (Dat.dp β)+1
 rd h:=by obtain⟨a,u,w,rfl,_,h3,h4,h5⟩:=h;exact Do.tup (yY.of h3)<|.cons (Dat.rd h4)<|.cons (Dat.rd h5) .nil
 lay x:=by simp only[oY,mn,Dat.lay,pZ]
 dep x:=by have h1:=Dat.dep x.1;have h2:=Dat.dep x.2;simp only[rZ,oH];omega
 nm x y:=by simp only[pc,mu,Dat.nm,pZ]
 sm x y:=by simp only[kN,kH,Dat.sm];obtain⟨a,b⟩:=x;obtain⟨c,d⟩:=y;by_cases h1:a=c<;>by_cases h2:b=d<;>simp[h1,h2]
end
def RdL{α:Type}[Rep α]{D:Type}[Sls D](T:ci)(F R:Rg)(H:Hp)(σ:St)(g:D->List α)(v:V):Prop :=
 ∀(d'':D)(V0 JM:Rg)(PV:Hp),Ch T F R H V0 JM PV->vS T V0 JM PV d'' σ->∃a vs,v=.ref a/\PV a=↑(.lst vs)/\Paired (rp JM PV) (g d'') vs
def ER(X:Cx)(E:XK)(T:ci)(e:iA){D i:Type}[Sls D][Rep i](w:Wf D (D->List i) D):Prop :=
 ∃t,PE X e t/\∀(d:D)(F R:Rg)(f:St)(H:Hp) (j:(D->List i)->D->Prop) (k:ci->D->Prop) (Q:VK),vS T F R H d f->w d j k ->
  (∀g h v b c a,j g h->Ch T F R H b c a->vS T b c a h f->RdL T b c a f g v->Q v a) ->
  (∀C y h b c a,k C h->Ch T F R H b c a->vS T b c a h f->E (.ref C) ↑y a)->t f H Q
section
variable{D:Type}[Sls D]{α β γ:Type}[Rep α][Rep β][Rep γ]
def vM(h:EW X E T e w):ER X E T e (cK w λ(f:(D->List α)->D->Prop) x b=>f (λ_=>x) b):=by refine e1a2 h λt i j=>?_;refine#[t,i,λd F R k H f l Q s m n o=>j d F R k H _ l Q s m (λx b v p u y q c g r=>n _ b v p u y q c g λz A B C G I=>?_) o];refine e2a4 (g.val G r) λa J L O M N=>?_;exact#[a,J,L,M,N]
def wm(i:Nat)[Sls h][A:At i D (OL α) h](j:PE X 97 (vw i):=by exact pv _):ER X E T 97 (λ(d:D) (e:(D->List α)->D->Prop) _=>e (λd=>(A.get d).l) d):=by refine#[_,j,λd F R w H e y Q s k m _=>?_];obtain⟨v,z,B,f,C,⟨a,G,rfl,I⟩,_⟩:=A.take s.rel;refine#[_,f,m _ d _ F R H k 53 s λn o p q J b=>?_];obtain⟨L,M,N,g,O,⟨P,c,r,S,t,u⟩,_⟩:=A.take b.rel;rw[f]at g;cases g;cases r;exact#[_,c,rfl,t,u]
def Xk{wa:Wf D (D->List α) D}{wb:Wf D β D}{c:List α->β->γ->Prop}
 (ha:ER X E T a wa) (hb:EW X E T b wb) (he:∀ta tb,PE X a ta->PE X b tb->PE X e (YG r ta tb))
 (hr:∀{R:Rg} {H:Hp} {xs:List α} {y:β} {z:γ} {p:ci} {us:List V} {v:V} {Q:VK},H p=↑(.lst us)->Paired (rp R H) xs us->rp R H y v->c xs y z->(∀w,rp R H z w->Q w H)->r (.ref p) v H Q) :
    EW X E T e (cB wa wb λg Kn y d2=>∃z,c (g d2) y z/\Kn z d2):=by
  refine e1a2 ha λta a1 a2=>?_
  refine e1a2 hb λtb b1 b2=>?_
  refine#[_,he ta tb a1 b1,λd F R σ H Kn Ke Q s hw kn ke=>?_]
  refine a2 d F R σ H _ Ke _ s hw (λg d1 u F1 R1 H1 q1 c1 s1 r1=>?_) ke
  refine b2 d1 F1 R1 σ H1 _ Ke _ s1 q1 (λy d2 v F2 R2 H2 q2 c2 s2 r2=>?_) λC y d' F' R' H' k c s'=>ke C y d' F' R' H' k (Ch.trans s s1.tab c1 c) s'
  refine e1a2 q2 λz z1 z2=>?_
  obtain⟨p,us,rfl,h1,h2⟩:=r1 d2 F2 R2 H2 c2 s2
  exact hr h1 h2 r2 z1 λw rw=>kn _ d2 w F2 R2 H2 z2 (Ch.trans s s1.tab c1 c2) s2 rw
def wP{R:Rg}{H:Hp}:∀{xs:List α} {vs:List V} {i:Nat} {x:α},Paired (rp R H) xs vs->xs[i]?=↑x->∃v,vs[i]?=↑v/\rp R H x v:=by
 intro _ _ i x z
 induction z generalizing i with
 |nil=>intro e;simp at e
 |cons r t ih =>
  intro e
  cases i with
  |zero=>simp at e;subst e;exact#[_,rfl,r]
  |succ i=>exact e1a2 (ih<|by simpa using e) λu h1 h2=>#[u,by simpa using h1,h2]
def AI{xs:List α}{vs:List V}{i:Int}(h:Paired (rp R H) xs vs)(e:Ff xs i=↑x):∃v,Ff vs i=↑v/\rp R H x v:=by
 unfold Ff at e ⊢;rw[<- Paired.length h]
 cases q:SR xs.length i with
 |none=>rw[q]at e;cases e
 |some j =>
  rw[q]at e;exact wP h e
def xf{j:Wf D (D->List α) D}{l:Wf D Int D}(q:ER X E T a j)(s:EW X E T b l)(t:Mc b:=by intro _ _;rfl) :
  EW X E T (.Subscript a b pos) (λ(d:D)(u:α->D->Prop) m=>j d (λg A=>l A (λi n=>∃x,Ff (g n) i=↑x/\u x n) m) m) :=
 Xk (c:=λo i x=>Ff o i=↑x) q s (λF G f h=>ym wI f h t) λ{R H o y z p I v Q} f h B C k=>by subst B;refine e1a2 (AI h C) λw e r=>?_;exact#[_,_,_,_,rfl,rfl,v6.of f,e,k _ r]
def Eb{k:Nat}{c:Wf D (α×β) D}(f:EW X E T a c):EW X E T (.Subscript a (.Constant (.int 0) k p) pos) (cK c λ(e:α->D->Prop) x b=>e x.1 b):=by refine e1a2 f λI g h=>?_;refine#[_,ym OY g vr<|λ_ _=>rfl,λd F R i H e j Q s l m n=>h d F R i H _ j _ s l (λx b u o r t y z A B=>?_) n];obtain⟨q,v,w,rfl,_,C,G,J⟩:=B;exact#[_,_,_,v,rfl,rfl,yY.of C,rfl,m _ b v o r t y z A G]
def Ad{k:Nat}{c:Wf D (α×β) D}(f:EW X E T a c):EW X E T (.Subscript a (.Constant (.int 1) k p) pos) (cK c λ(e:β->D->Prop) x b=>e x.2 b):=by refine e1a2 f λI g h=>?_;refine#[_,ym OY g vr<|λ_ _=>rfl,λd F R i H e j Q s l m n=>h d F R i H _ j _ s l (λx b u o r t y z A B=>?_) n];obtain⟨q,v,w,rfl,_,C,J,G⟩:=B;exact#[_,_,_,w,rfl,rfl,yY.of C,rfl,m _ b w o r t y z A G]
def Ae(e:EW X E T a f):EW X E T a (cK f λ(c:α->D->Prop) x b=>∃y,x=↑y/\c y b):=by refine e1a2 e λz g h=>?_;refine#[_,g,λd F R i H c j Q s k l m=>h d F R i H _ j _ s k (λx b u n o p r t v w=>?_) m];obtain⟨y,rfl,q⟩:=r;exact l y b u n o p q t v w.2
class NV(α:Type)[Rep α]:Prop where
 nv:∀{R:Rg} {H:Hp} {x:α} {v:V},rp R H x v->v≠.wq
instance:NV Int:=#[λh z=>by have h:_=_:=h;rw[h]at z;cases z]
instance:NV (α×β):=#[λh z=>by obtain⟨a,u,w,e,_⟩:=h;rw[e]at z;cases z]
def zx[NV α](f:EW X E T a g):EW X E T a (cK g λ(c:Option α->D->Prop) x b=>c ↑x b):=by refine e1a2 f λw h i=>?_;exact#[_,h,λd F R j H c k Q s l m n=>i d F R j H _ k _ s l (λx b u o p q r t v e=>m ↑x b u o p q r t v #[NV.nv e,e]) n]
def TC{k:Nat}:EW X E T (.Constant .none k pos) (λ(d:D)(a:Option α->D->Prop) _=>a none d) :=
 #[_,JR,λd F R e H a f Q s b c _=>c none d _ F R H b 53 s rfl]
def wW{a:iA}{p:Pos}{wa:Wf D (D->List α) D}(hg:Gl X "len")(hm:X.mg "len"=none)(ha:ER X E T a wa)(hs:gJ [a] X.env=77::gJ [] X.env:=by rfl) :
  EW X E T (.Call (.Name "len" p) [a] [] pos) (cK wa λ(Kn:Int->D->Prop) g d1=>Kn ((g d1).length:Int) d1):=by
 refine e1a2 ha λta a1 a2=>?_;refine#[_,wu xj hg hm mw (uY a1 vi hs) (he:=hs),λd F R σ H Kn Ke Q s hw kn ke=>a2 d F R σ H _ Ke _ s hw (λg d1 u F1 R1 H1 q1 c1 s1 r1=>?_) ke];obtain⟨q,us,rfl,h1,h2⟩:=r1 d1 F1 R1 H1 53 s1;refine#[_,_,rfl,.inl<|v6.of h1,kn _ d1 _ F1 R1 H1 q1 c1 s1 ?_];show V.int _=V.int _;rw[Paired.length h2]
end
def AL(X:Cx)(E:XK)(T:ci)(es:List iA){D α:Type}[Sls D][Rep α](w:Wf D (List α) D):Prop :=
 ∃t,PA X es t/\∀(d:D)(F R:Rg)(σ:St)(H:Hp)(Kn:List α->D->Prop)(Ke:ci->D->Prop)(Q:List V->Hp->Prop),vS T F R H d σ->w d Kn Ke ->
  (∀x d' vs F' R' H',Kn x d'->Ch T F R H F' R' H'->vS T F' R' H' d' σ->Paired (rp R' H') x vs->vs.length=es.length->Q vs H') ->
  (∀C y d' F' R' H',Ke C d'->Ch T F R H F' R' H'->vS T F' R' H' d' σ->E (.ref C) ↑y H')->t σ H Q
def vS.vals{T:ci}{D:Type}[Sls D]{d:D}{σ:St}{F R F' R':Rg}{H H':Hp}(s:vS T F R H d σ)(c:Ch T F R H F' R' H'){α:Type}[Rep α]{x:List α}{v:List V}(h:Paired (rp R H) x v):Paired (rp R' H') x v :=
 v7 (c.ext.wide λa z=>z.elim (s.sub a) λq=>by rw[q];exact s.vI) h
section
variable{D:Type}[Sls D]{α β γ:Type}[Rep α][Rep β][Rep γ]
def vm:AL X E T [] (λ(d:D)(a:List α->D->Prop) _=>a [] d) :=
 #[_,vi,λd F R e H a f Q s b c _=>c [] d [] F R H b 53 s .nil rfl]
def uX{a:List iA}{g:Wf D α D}{h:Wf D (List α) D}(q:EW X E T e g)(r:AL X E T a h)(t:gJ (e::a) X.env=57::gJ a X.env:=by rfl) :
  AL X E T (e::a) (cB g h λx i j f=>i (x::j) f):=by
 refine e1a2 q λta v w=>?_;refine e1a2 r λtr z A=>?_;refine#[_,uY v z t,λd F R l H i m Q s B G n=>?_];refine w d F R l H _ m _ s B (λx I u J L M N o b O=>?_) n;refine A I J L l M _ m _ b N (λj f P S U W Y p Z r2 l2=>?_) λC y d' F' R' H' k c s'=>n C y d' F' R' H' k (Ch.trans s b.tab o c) s';exact G _ f (u::P) S U W Y (Ch.trans s b.tab o p) Z (.cons (b.val p O) r2) (by rw[hZ,hZ,l2])
def vn(h:AL X E T a w)(f:a.length<=gL:=by decide):EO X E T (.List a pos) (cK w λ(b:OL α->D->Prop) c g=>b #[c] g):=by refine e1a2 h λt i j=>?_;refine#[_,OR i,λd F R k H b l Q s m n o=>j d F R k H _ l _ s m (λc q I r J L u v e x y=>#[by rw[y];exact f,λp z=>?_]) o];refine e1a3 (xB e z x) λA B C G=>?_;exact n _ q _ _ r A _ u (Ch.trans s e.tab v B) C G
def wJ{q}(r:EW X E T a t)(w:EW X E T b z)
 (A:gJ [a,b] X.env=77::gJ [b] X.env:=by rfl) (B:gJ [b] X.env=(false,eval b X.env)::gJ [] X.env:=by rfl) :
    EW X E T (.Tuple [a,b] q pos) (cB t z λx (i:α×β->D->Prop) y g=>i (x,y) g):=by
  refine e1a2 r λta G I=>?_
  refine e1a2 w λtb J L=>?_
  refine#[_,OQ<|uY G (uY J vi B) A,λd F R j H i l Q s M N m=>?_]
  refine I d F R j H _ l _ s M (λx O u P S U W n e Y=>?_) m
  refine L O P S j U _ l _ e W (λy g v Z R2 H2 q2 o f r2=>#[(by show 2<=gL;decide),λp hp=>?_]) λC y d' F' R' H' k c s'=>m C y d' F' R' H' k (Ch.trans s e.tab n c) s'
  refine e0a3 (f.new (.tup [u,v]) hp) λs3 h n3=>?_
  exact N _ g _ Z R2 _ q2 (Ch.trans s e.tab n<|Ch.trans e f.tab o h) s3 #[p,u,v,rfl,n3,uT,f.val h<|e.val o Y,f.val h r2]
def xQ{R:Rg}{H:Hp}:∀{xs ys:List α} {us vs:List V},Paired (rp R H) xs us->Paired (rp R H) ys vs->Paired (rp R H) (xs++ys) (us++vs):=by
 intro _ _ _ _ z s
 induction z with
 |nil=>exact s
 |cons h t ih=>exact .cons h ih
def Af(I:ER X E T a J)(L:ER X E T b M) :
  EO X E T (.BinOp a .Add b pos) (cB J M λg (l:OL α->D->Prop) k e=>(g e).length+(k e).length<=gL/\l #[g e++k e] e):=by
 refine e1a2 I λta N O=>?_;refine e1a2 L λtb P S=>?_;refine#[_,wN WT N P,λd F R m H l n Q s U W o=>?_];refine O d F R m H _ n _ s U (λg Y u Z R1 H1 q1 t f r1=>?_) o;refine S Y Z R1 m H1 _ n _ f q1 (λk e v i w x z A h r2=>?_) λC y d' F' j H' k c s'=>o C y d' F' j H' k (Ch.trans s f.tab t c) s';obtain⟨p,us,rfl,h1,B⟩:=r1 e i w x A h;obtain⟨q,vs,rfl,k1,G⟩:=r2 e i w x 53 h;refine#[p,q,us,vs,rfl,rfl,h1,k1,by rw[<- Paired.length B,<- Paired.length G];exact z.1,λr hr=>?_];refine e1a3 (xB h hr<|xQ B G) λj c3 s3 n3=>?_;exact W _ e _ _ i j _ z.2 (Ch.trans s f.tab t<|Ch.trans f h.tab A c3) s3 n3
def TF(i:Gl X "list")(j:X.mg "list"=none)(k:ER X E T a m)(e:gJ [a] X.env=77::gJ [] X.env:=by rfl) :
  EO X E T (.Call (.Name "list" p) [a] [] pos) (cK m λ(f:OL α->D->Prop) g b=>f #[g b] b):=by
 refine e1a2 k λP n o=>?_;refine#[_,xv yo i j jT (uY n vi e) (he:=e),λd F R r H f t Q s v w x=>o d F R r H _ t _ s v (λg b u h y z A B c C=>?_) x];obtain⟨q,S,rfl,G,I⟩:=C b h y z 53 c;refine#[_,_,rfl,.inl<|v6.of G,λl J=>?_];refine e1a3 (xB c J I) λL M N O=>?_;exact w _ b _ _ h L _ A (Ch.trans s c.tab B M) N O
noncomputable def ins(x:Int):List Int->List Int
 | []=>[x]
 |y::r=>if x<=y then x::y::r else y::ins x r
noncomputable def Fd:List Int->List Int
 | []=>[]
 |x::r=>ins x<|Fd r
def Ah(x:Int):∀r:List Int,(ins x r).Perm (x::r)
 | []=>oJ _
 |y::r=>by
  unfold ins;split
  ·exact oJ _
  ·exact((Ah x r).cons y).trans<|List.Perm.swap x y r
def xV:∀r:List Int,(Fd r).Perm r
 | []=>oJ _
 |x::r=>(Ah x<|Fd r).trans<|(xV r).cons x
set_option tactic.hygienic true in
def GK(x:Int):∀r:List Int,r.Pairwise (·<=·)->(ins x r).Pairwise (·<=·)
 | [],_=>jV _ _
 |y::r,h=>by
  unfold ins;have b:=List.pairwise_cons.mp h;split
  ·rename_i a
   refine List.pairwise_cons.mpr #[λz c=>?_,h];rcases List.mem_cons.mp c with e|e
   ·rw[e];exact a
   ·exact Int.le_trans a<|b.1 z e
  ·rename_i a
   refine List.pairwise_cons.mpr #[λz c=>?_,GK x r b.2];rcases List.mem_cons.mp ((Ah x r).mem_iff.mp c) with e|e
   ·rw[e];lia
   ·exact b.1 z e
def BF:∀r:List Int,(Fd r).Pairwise (·<=·)
 | []=>iw
 |x::r=>GK x _<|BF r
def ze:∀{a b:List Int},a.Perm b->a.Pairwise (·<=·)->b.Pairwise (·<=·)->a=b
 | [],b,p,_,_=>(List.Perm.nil_eq p)
 |x::a,[],p,_,_=>g8 p.length_eq q0o
 |x::a,y::b,p,c,d=>by
  have e:x=y:=by
   have f:x∈y::b:=p.mem_iff.mp gO;have g:y∈x::a:=p.mem_iff.mpr gO;rcases List.mem_cons.mp f with q|q
   ·exact q
   ·rcases List.mem_cons.mp g with z|z
    ·exact z.symm
    ·have:=(List.pairwise_cons.mp d).1 x q;have:=(List.pairwise_cons.mp c).1 y z
     lia
  subst e;rw[ze p.cons_inv (List.pairwise_cons.mp c).2 (List.pairwise_cons.mp d).2]
def Ec{a:List Int}(p:a.Perm b)(h:a.Pairwise (·<=·)):a=Fd b:=ze (p.trans (xV b).symm) h<|BF b
def paired_ints{R:Rg}{H:Hp}:∀{xs:List Int} {vs:List V},Paired (rp R H) xs vs->vs=xs.map V.int:=by
 intro _ _ z
 induction z with
 |nil=>rfl
 |cons h t ih=>rw[show _=V.int _ from h,ih];rfl
def xW{R:Rg}{H:Hp}:∀xs:List Int,Paired (rp R H) xs (xs.map V.int)
 | []=>.nil
 |x::r=>.cons (rfl:rp R H x (V.int x))<|xW r
def FW{a:iA}{p:Pos}{wa:Wf D (D->List Int) D}(hg:Gl X "sorted")(hm:X.mg "sorted"=none)(ha:ER X E T a wa)(hs:gJ [a] X.env=77::gJ [] X.env:=by rfl) :
  EO X E T (.Call (.Name "sorted" p) [a] [] pos) (cK wa λ(Kn:OL Int->D->Prop) g d1=>(g d1).length<64/\Kn #[Fd<|g d1] d1):=by
 refine e1a2 ha λta a1 a2=>?_;refine#[_,wu GG hg hm ki (uY a1 vi hs) (he:=hs),λd F R σ H Kn Ke Q s hw kn ke=>a2 d F R σ H _ Ke _ s hw (λg d1 u F1 R1 H1 q1 c1 s1 r1=>?_) ke];obtain⟨q,us,rfl,h1,h2⟩:=r1 d1 F1 R1 H1 53 s1;refine#[_,g d1,rfl,v6.of (by rw[h1,paired_ints h2]),q1.1,λl ns hl pn sn=>?_];rw[Ec pn sn];refine e1a3 (xB s1 hl<|xW (R:=R1) (H:=H1)<|Fd<|g d1) λR' c3 s3 n3=>?_;exact kn _ d1 _ _ F1 R' _ q1.2 (Ch.trans s s1.tab c1 c3) s3 n3
noncomputable def Fp{α:Type}(a:List α)(b c:Option Int):List α:=(a.drop<|HT.wV a.length 0 b).take<|HT.wV a.length a.length c-HT.wV a.length 0 b
def IT{R:Rg}{H:Hp}:∀{xs:List α} {vs:List V} (n:Nat),Paired (rp R H) xs vs->Paired (rp R H) (xs.drop n) (vs.drop n):=by
 intro _ _ n z
 induction z generalizing n with
 |nil=>cases n<;>exact .nil
 |cons h t ih=>cases n with
  |zero=>exact .cons h t
  |succ k=>exact ih k
def CT{R:Rg}{H:Hp}:∀{xs:List α} {vs:List V} (n:Nat),Paired (rp R H) xs vs->Paired (rp R H) (xs.take n) (vs.take n)
 |_,_,0,_=>.nil
 |_,_,_+1,.nil=>.nil
 |_,_,n+1,.cons r t=>.cons r<|CT n t
def Ed{R:Rg}{H:Hp}{xs:List α}{vs:List V}(h:Paired (rp R H) xs vs)(lo hi:Option Int):Paired (rp R H) (Fp xs lo hi) (DR vs lo hi):=by unfold Fp DR;rw[<- Paired.length h];exact CT _<|IT _ h
def OW(X:Cx)(E:XK)(T:ci)(e:Option iA){D:Type}[Sls D](w:Wf D (Option Int) D):Prop :=
 ∃t,PO X e t/\∀(d:D)(F R:Rg)(g:St)(H:Hp)(h:Option Int->D->Prop)(i:ci->D->Prop)(Q:Option Int->Hp->Prop),vS T F R H d g->w d h i ->
  (∀x b c f a,h x b->Ch T F R H c f a->vS T c f a b g->Q x a) ->
  (∀C y b c f a,i C b->Ch T F R H c f a->vS T c f a b g->E (.ref C) ↑y a)->t g H Q
def GL:OW X E T none (λ(d:D) a _=>a none d):=#[_,Di,λd F R e H a f Q s b c _=>c none d F R H b 53 s]
def GN{e:iA}{w:Wf D Int D}(h:EW X E T e w):OW X E T ↑e (cK w λa i b=>a ↑i b):=by refine e1a2 h λt c f=>?_;exact#[_,Dj c,λd F R g H a j Q s k l m=>f d F R g H _ j _ s k (λx n u o p H1 q r v y=>#[x,y,l _ n o p H1 q r v]) m]
def IU{G:Option iA}(M:ER X E T a N)(O:OW X E T G P)(S:OW X E T U W) :
  EO X E T (.Subscript a (.Slice G U none p2) pos) (λ(d:D)(I:OL α->D->Prop) b=>N d (λg m=>P m (λl n=>W n (λh f=>I #[Fp (g f) l h] f) b) b) b):=by
 refine e1a2 M λta Y Z=>?_;refine e1a2 O λtl l1 l2=>?_;refine e1a2 S λth h1 h2=>?_;refine#[_,zX Dk Y l1 h1,λd F R o H I b Q s hw kn r=>?_];refine Z d F R o H _ b _ s hw (λg m u F1 R1 H1 q1 t e r1=>?_) r;refine l2 m F1 R1 o H1 _ b _ e q1 (λl n F2 R2 H2 q2 v i=>?_) λC y w x j z k c A=>r C y w x j z k (Ch.trans s e.tab t c) A;refine h2 n F2 R2 o H2 _ b _ i q2 (λh f J R3 H3 q3 L B=>?_) λC y w x j z k c A=>r C y w x j z k (Ch.trans s e.tab t<|Ch.trans e i.tab v c) A;obtain⟨q,us,rfl,k1,k2⟩:=r1 f J R3 H3 (Ch.trans e i.tab v L) B;refine⟨q,us,rfl,v6.of k1,λp hp=>?_⟩;refine e1a3 (xB B hp<|Ed k2 l h) λj c4 s4 n4=>?_;exact kn _ f _ _ J j _ q3 (Ch.trans s e.tab t<|Ch.trans e i.tab v<|Ch.trans i B.tab L c4) s4 n4
def Cm(X:Cx)(op:qE)(g:α->β->Bool):Prop:=∃r,zU X (jj op) r/\∀{R:Rg} {H:Hp} {x:α} {y:β} {u v:V} {Q:VK},rp R H x u->rp R H y v->Q (.bl<|g x y) H->r u v H Q
def CmL(X:Cx)(op:qE)(g:List α->List β->Bool):Prop:=∃r,zU X (jj op) r/\∀{R:Rg} {H:Hp} {x:List α} {y:List β} {p q:ci} {us vs:List V} {Q:VK},H p=↑(.lst us)->Paired (rp R H) x us->H q=↑(.lst vs)->Paired (rp R H) y vs->Q (.bl<|g x y) H->r (.ref p) (.ref q) H Q
def YJ(X:Cx)(op:qE)(g:α->List β->Bool):Prop:=∃r,zU X (jj op) r/\∀{R:Rg} {H:Hp} {x:α} {y:List β} {q:ci} {u:V} {vs:List V} {Q:VK},rp R H x u->H q=↑(.lst vs)->Paired (rp R H) y vs->Q (.bl<|g x y) H->r u (.ref q) H Q
def Xl(a:zU X (jj op) (Sn λi j=>.bl<|g i j)):Cm X op g:=⟨_,a,λb c k=>#[_,_,b,c,k]⟩
def Mn:Cm X .Lt (λi j:Int=>decide<|i<j):=Xl VH
def V1:Cm X .Gt (λi j:Int=>decide<|j<i):=Xl VJ
def ZC:Cm X .GtE (λi j:Int=>decide<|j<=i):=Xl Y7
def Ai[DecidableEq α][GJ α]:Cm X .Eq (λx y:α=>decide<|x=y):=⟨_,Y5,λa b k=>#[(GJ.sc a b).1,by rw[(GJ.sc a b).2];exact k]⟩
def AZ[DecidableEq α][GJ α]:Cm X .NotEq (λx y:α=>!decide (x=y)):=#[_,Y6,λa b k=>#[(GJ.sc a b).1,by rw[(GJ.sc a b).2];exact k]]
def Xm:Cm X .Is (λ(x:Option α)(_:Unit)=>x.isNone):=#[_,ON,λa b k=>#[b,by rw[Mj a];exact k]]
def Mo:Cm X .IsNot (λ(x:Option α)(_:Unit)=>!x.isNone):=#[_,L5,λa b k=>#[b,by rw[Mj a];exact k]]
def xC[DecidableEq α][Dat α](a:Dat.dp α<=64)(x:α):su (Dat.dat x)=true:=by show (oY (Dat.dat x)&&decide ((Dat.dat x).depth<=64))=true;rw[iq];exact#[Dat.lay x,decide_eq_true<|ij (Dat.dep x) a]
def Xn[DecidableEq α][Dat α](b:X.A.units+64<jX)(a:Dat.dp α<=64:=by decide):Cm X .NotEq (λx y:α=>!decide (x=y)):=#[_,Pu b,λ{R H x y u v Q} c d k=>#[_,_,Dat.rd c,Dat.rd d,xC a x,xC a y,Dat.nm x y,by rw[Dat.sm];exact k]]
def Kw[DecidableEq α][Dat α](b:X.A.units+64<jX)(a:Dat.dp (List α)<=64:=by decide):CmL X .Eq (λx y:List α=>decide (x=y)):=#[_,W8 b,λ{R H x y p q g h Q} c d e f k=>#[_,_,Do.lst (v6.of c) (zw d),Do.lst (v6.of e) (zw f),xC a x,xC a y,Dat.nm x y,by
 have:=Dat.sm x y
 rw[show kN (.list (x.map Dat.dat)) (.list (y.map Dat.dat))=decide (x=y) from this];exact k]]
def Cv[DecidableEq α][Dat α](b:X.A.units+64<jX)(a:Dat.dp (List α)<=64:=by decide):CmL X .NotEq (λx y:List α=>!decide (x=y)):=#[_,Pu b,λ{R H x y p q g h Q} c d e f k=>#[_,_,Do.lst (v6.of c) (zw d),Do.lst (v6.of e) (zw f),xC a x,xC a y,Dat.nm x y,by
 have:=Dat.sm x y
 rw[show kN (.list (x.map Dat.dat)) (.list (y.map Dat.dat))=decide (x=y) from this];exact k]]
def BG(k:Int)(a:List Int):inV (.int k) (a.map V.int)=decide (k∈a):=by
 unfold inV;rw[List.any_map,kW,qH,ie];constructor
 ·rintro⟨y,b,e⟩;have:y=k:=by simpa[So] using e
  rw[<- this];exact b
 ·intro h;exact#[k,h,by simp[So]]
def AJ(a:List Int):(a.map V.int).all Bu=true:=by rw[List.all_map,oB];intro x _;rfl
def PX:YJ X .In (λ(x:Int)(ys:List Int)=>decide (x∈ys)):=#[_,FN,λ{R H x y q u vs Q} h1 h2 h3 k=>by
 subst h1;refine#[q,vs,rfl,.inl<|v6.of h2,rfl,by rw[paired_ints h3];exact AJ y,?_];rw[paired_ints h3,BG]
 exact k]
def Ee:YJ X .NotIn (λ(x:Int)(ys:List Int)=>!decide (x∈ys)):=#[_,Bv,λ{R H x y q u vs Q} h1 h2 h3 k=>by
 subst h1;refine#[q,vs,rfl,.inl<|v6.of h2,rfl,by rw[paired_ints h3];exact AJ y,?_];rw[paired_ints h3,BG]
 exact k]
def tw_cm{a b:iA}{op:qE}{g:α->β->Bool}{wa:Wf D α D}{wb:Wf D β D}(C:Cm X op g)(ha:EW X E T a wa)(hb:EW X E T b wb)(hm:iQ op b=false:=by exact vH _) :
  TW X E T (.Compare a [op] [b] pos) (cB wa wb λx Kn y d2=>Kn (g x y) d2):=by
 refine e1a2 C λr o1 o2=>?_;refine e1a2 ha λta a1 a2=>?_;refine e1a2 hb λtb b1 b2=>?_;refine#[_,xP o1 a1 b1 hm,λd F R σ H Kn Ke Q s hw kn ke=>?_];refine a2 d F R σ H _ Ke _ s hw (λx d1 u F1 R1 H1 q1 c1 s1 r1=>?_) ke;refine b2 d1 F1 R1 σ H1 _ Ke _ s1 q1 (λy d2 v F2 R2 H2 q2 c2 s2 r2=>?_) λC y d' F' R' H' k c s'=>ke C y d' F' R' H' k (Ch.trans s s1.tab c1 c) s';exact o2 (s1.val c2 r1) r2 #[_,rfl,kn _ d2 F2 R2 H2 q2 (Ch.trans s s1.tab c1 c2) s2]
def ZD{a b:iA}{op:qE}{g:α->β->Bool}{h:Wf D α D}{i:Wf D β D}(C:Cm X op g)(q:EW X E T a h)(t:EW X E T b i)(w:iQ op b=false:=by exact vH _) :
  EW X E T (.Compare a [op] [b] pos) (cB h i λx (j:Bool->D->Prop) y f=>j (g x y) f):=by
 obtain⟨r,z,A⟩:=C;obtain⟨ta,B,G⟩:=q;obtain⟨tb,I,J⟩:=t;refine#[_,Gn z B I w,λd F R l H j m Q s L M n=>?_];refine G d F R l H _ m _ s L (λx N u O P H1 S o e U=>?_) n;refine J N O P l H1 _ m _ e S (λy f v W R2 H2 Y p Z r2=>?_) λC y d' F' R' H' k c s'=>n C y d' F' R' H' k (Ch.trans s e.tab o c) s';exact A (e.val p U) r2<|M _ f _ W R2 H2 Y (Ch.trans s e.tab o p) Z rfl
def tw_cmL{a b:iA}{op:qE}{g:List α->List β->Bool}{wa:Wf D (D->List α) D}{wb:Wf D (D->List β) D}(C:CmL X op g)(ha:ER X E T a wa)(hb:ER X E T b wb)(hm:iQ op b=false:=by exact vH _) :
  TW X E T (.Compare a [op] [b] pos) (cB wa wb λx Kn y d2=>Kn (g (x d2)<|y d2) d2):=by
 refine e1a2 C λr o1 o2=>?_;refine e1a2 ha λta a1 a2=>?_;refine e1a2 hb λtb b1 b2=>?_;refine#[_,xP o1 a1 b1 hm,λd F R σ H Kn Ke Q s hw kn ke=>?_];refine a2 d F R σ H _ Ke _ s hw (λx d1 u F1 R1 H1 q1 c1 s1 r1=>?_) ke;refine b2 d1 F1 R1 σ H1 _ Ke _ s1 q1 (λy d2 v F2 R2 H2 q2 c2 s2 r2=>?_) λC y d' F' R' H' k c s'=>ke C y d' F' R' H' k (Ch.trans s s1.tab c1 c) s';obtain⟨p,us,rfl,h1,h2⟩:=r1 d2 F2 R2 H2 c2 s2;obtain⟨q,vs,rfl,k1,k2⟩:=r2 d2 F2 R2 H2 53 s2;exact o2 h1 h2 k1 k2 #[_,rfl,kn _ d2 F2 R2 H2 q2 (Ch.trans s s1.tab c1 c2) s2]
def PY{a b:iA}{op:qE}{g:List α->List β->Bool}{wa:Wf D (D->List α) D}{wb:Wf D (D->List β) D}(C:CmL X op g)(ha:ER X E T a wa)(hb:ER X E T b wb)(hm:iQ op b=false:=by exact vH _) :
  EW X E T (.Compare a [op] [b] pos) (cB wa wb λx (Kn:Bool->D->Prop) y d2=>Kn (g (x d2)<|y d2) d2):=by
 refine e1a2 C λr o1 o2=>?_;refine e1a2 ha λta a1 a2=>?_;refine e1a2 hb λtb b1 b2=>?_;refine#[_,Gn o1 a1 b1 hm,λd F R σ H Kn Ke Q s hw kn ke=>?_];refine a2 d F R σ H _ Ke _ s hw (λx d1 u F1 R1 H1 q1 c1 s1 r1=>?_) ke;refine b2 d1 F1 R1 σ H1 _ Ke _ s1 q1 (λy d2 v F2 R2 H2 q2 c2 s2 r2=>?_) λC y d' F' R' H' k c s'=>ke C y d' F' R' H' k (Ch.trans s s1.tab c1 c) s';obtain⟨p,us,rfl,h1,h2⟩:=r1 d2 F2 R2 H2 c2 s2;obtain⟨q,vs,rfl,k1,k2⟩:=r2 d2 F2 R2 H2 53 s2;exact o2 h1 h2 k1 k2<|kn _ d2 _ F2 R2 H2 q2 (Ch.trans s s1.tab c1 c2) s2 rfl
def tw_cmI{a b:iA}{op:qE}{g:α->List β->Bool}{wa:Wf D α D}{wb:Wf D (D->List β) D}(C:YJ X op g)(ha:EW X E T a wa)(hb:ER X E T b wb)(hm:iQ op b=false:=by exact vH _) :
  TW X E T (.Compare a [op] [b] pos) (cB wa wb λx Kn y d2=>Kn (g x<|y d2) d2):=by
 refine e1a2 C λr o1 o2=>?_;refine e1a2 ha λta a1 a2=>?_;refine e1a2 hb λtb b1 b2=>?_;refine#[_,xP o1 a1 b1 hm,λd F R σ H Kn Ke Q s hw kn ke=>?_];refine a2 d F R σ H _ Ke _ s hw (λx d1 u F1 R1 H1 q1 c1 s1 r1=>?_) ke;refine b2 d1 F1 R1 σ H1 _ Ke _ s1 q1 (λy d2 v F2 R2 H2 q2 c2 s2 r2=>?_) λC y d' F' R' H' k c s'=>ke C y d' F' R' H' k (Ch.trans s s1.tab c1 c) s';obtain⟨q,vs,rfl,k1,k2⟩:=r2 d2 F2 R2 H2 53 s2;exact o2 (s1.val c2 r1) k1 k2 #[_,rfl,kn _ d2 F2 R2 H2 q2 (Ch.trans s s1.tab c1 c2) s2]
def Xo{a b:iA}{op:qE}{g:α->List β->Bool}{h:Wf D α D}{i:Wf D (D->List β) D}(C:YJ X op g)(z:EW X E T a h)(A:ER X E T b i)(B:iQ op b=false) :
  EW X E T (.Compare a [op] [b] pos) (cB h i λx (j:Bool->D->Prop) y e=>j (g x<|y e) e):=by
 obtain⟨r,G,I⟩:=C;obtain⟨ta,J,L⟩:=z;obtain⟨tb,M,N⟩:=A;refine#[_,Gn G J M B,λd F R l H j m Q s O P n=>?_];refine L d F R l H _ m _ s O (λx S u U W H1 Y o f Z=>?_) n;refine N S U W l H1 _ m _ f Y (λy e v p R2 H2 q2 t w r2=>?_) λC y d' F' R' H' k c s'=>n C y d' F' R' H' k (Ch.trans s f.tab o c) s';obtain⟨q,vs,rfl,k1,k2⟩:=r2 e p R2 H2 53 w;exact I (f.val t Z) k1 k2<|P _ e _ p R2 H2 q2 (Ch.trans s f.tab o t) w rfl
def tw_val{w:Wf D Bool D}(h:EW X E T e w)(b:∀a,qJ e X.env a=(do let v <- a;my e.pos;kF [v] (ut v)):=by intro _;rfl):TW X E T e w:=by refine e1a2 h λt c f=>?_;exact#[_,Wp c b,λd F R g H A i Q s j k l=>f d F R g H _ i _ s j (λx m u n o p q r y z=>#[x,z,k _ m n o p q r y]) l]
def tw_not{w:Wf D Bool D}(h:TW X E T e w):TW X E T (.UnaryOp .Not e pos) (cK w λc b a=>c (!b) a):=by refine e1a2 h λt f g=>?_;exact#[_,Wr f,λd F R i H c j Q s k l m=>g d F R i H _ j _ s k (λx a n o p q r u=>l _ a n o p q r u) m]
def WW(X:Cx)(E:XK)(T:ci)(e:iA){D:Type}[Sls D](w:Wf D Bool D):Prop :=
 ∃t,PW X e t/\∀(d:D)(F R:Rg)(g:St)(H:Hp)(h:Bool->D->Prop)(i:ci->D->Prop)(Q:Bool->Hp->Prop),vS T F R H d g->w d h i ->
  (∀x b c f a,h x b->Ch T F R H c f a->vS T c f a b g->Q x a) ->
  (∀C y b c f a,i C b->Ch T F R H c f a->vS T c f a b g->E (.ref C) ↑y a)->t g H Q
def tw_w{w:Wf D Bool D}(h:WW X E T e w):TW X E T e w:=e1a2 h λt a b=> #[t,a.pt,b]
def Dt{w:Wf D Bool D}(h:TW X E T a w):WW X E T (.BoolOp .And [a] pos) w:=e1a2 h λt b c=> #[_,SF b,c]
def Bi{w:Wf D Bool D}(h:TW X E T a w):WW X E T (.BoolOp .Or [a] pos) w:=e1a2 h λt b c=> #[_,OC b,c]
def GO{e:List iA}{h i:Wf D Bool D}(u:TW X E T a h)(v:WW X E T (.BoolOp .And (b::e) pos) i):WW X E T (.BoolOp .And (a::b::e) pos) (cA h i):=by
 refine e1a2 u λta w z=>?_;refine e1a2 v λtb A B=>?_;refine#[_,Wq w A,λd F R j H Kn l Q s G m n=>?_];refine z d F R j H _ l _ s G (λx o p q r t g f=>?_) n
 cases x with
 |true=>exact B o p q j r _ l _ f t (λy I J L M N O P=>m _ I J L M N (Ch.trans s f.tab g O) P) λC y S U W Y k c Z=>n C y S U W Y k (Ch.trans s f.tab g c) Z
 |false=>exact m _ o p q r t g f
def CU{e:List iA}{h i:Wf D Bool D}(u:TW X E T a h)(v:WW X E T (.BoolOp .Or (b::e) pos) i):WW X E T (.BoolOp .Or (a::b::e) pos) (cO h i):=by
 refine e1a2 u λta w z=>?_;refine e1a2 v λtb A B=>?_;refine#[_,VC w A,λd F R j H Kn l Q s G m n=>?_];refine z d F R j H _ l _ s G (λx o p q r t g f=>?_) n
 cases x with
 |false=>exact B o p q j r _ l _ f t (λy I J L M N O P=>m _ I J L M N (Ch.trans s f.tab g O) P) λC y S U W Y k c Z=>n C y S U W Y k (Ch.trans s f.tab g c) Z
 |true=>exact m _ o p q r t g f
def BH{op}{w:Wf D Bool D}(h:EW X E T a w):EW X E T (.BoolOp op [a] pos) w:=e1a2 h λt b c=> #[_,Ws b,c]
def GP{a b:iA}{rest:List iA}{g h:Wf D Bool D}(r:EW X E T a g)(t:EW X E T (.BoolOp .And (b::rest) pos) h):EW X E T (.BoolOp .And (a::b::rest) pos) (cA g h):=by
 refine e1a2 r λta w z=>?_;refine e1a2 t λtb A B=>?_;refine#[_,Wt w A,λd F R i H Kn j Q s G l m=>?_];refine z d F R i H _ j _ s G (λx n u o p H1 q f e I=>#[x,I,?_]) m
 cases x with
 |true=>exact B n o p i H1 _ j _ e q (λy J v L R2 H2 M N O P=>l _ J v L R2 H2 M (Ch.trans s e.tab f N) O P) λC y S U W Y k c Z=>m C y S U W Y k (Ch.trans s e.tab f c) Z
 |false=>exact l _ n _ o p H1 q f e rfl
def ZE{a b:iA}{rest:List iA}{g h:Wf D Bool D}(r:EW X E T a g)(t:EW X E T (.BoolOp .Or (b::rest) pos) h):EW X E T (.BoolOp .Or (a::b::rest) pos) (cO g h):=by
 refine e1a2 r λta w z=>?_;refine e1a2 t λtb A B=>?_;refine#[_,YY w A,λd F R i H Kn j Q s G l m=>?_];refine z d F R i H _ j _ s G (λx n u o p H1 q f e I=>#[x,I,?_]) m
 cases x with
 |false=>exact B n o p i H1 _ j _ e q (λy J v L R2 H2 M N O P=>l _ J v L R2 H2 M (Ch.trans s e.tab f N) O P) λC y S U W Y k c Z=>m C y S U W Y k (Ch.trans s e.tab f c) Z
 |true=>exact l _ n _ o p H1 q f e rfl
def Xp(h:EW X E T a w):EW X E T (.UnaryOp .Not a pos) (cK w λ(e:Bool->D->Prop) b c=>e (!b) c):=by refine e1a2 h λt f g=>?_;exact#[_,Wu f,λd F R i H e j Q s k l m=>g d F R i H _ j _ s k (λx c u n o p q r v y=>#[x,y,l _ c _ n o p q r v rfl]) m]
end
variable[L2.GX]
class TH(τ:Type)[Ow τ]:Prop where
 fr:∀{F R L:Rg} {H:Hp} {x:τ} {v:Option V},sl F R H x v->(∀a,L a->∃us,H a=↑(.lst us))->sl F (λa=>R a\/L a) H x v
class Kx(α:Type)[Rep α]:Prop where
 no:∀{R L:Rg} {H:Hp} {x:α} {v:V},rp R H x v->(∀a,L a->∃us,H a=↑(.lst us))->rp (λa=>R a\/L a) H x v
instance:Kx Int:=#[λh _=>h]
instance:Kx Bool:=#[λh _=>h]
instance{α β:Type}[Rep α][Rep β][Kx α][Kx β]:Kx (α×β):=#[λ{R L H x v} h k=>by
 obtain⟨a,u,w,h1,h2,h3,h4,h5⟩:=h
 exact#[a,u,w,h1,λz=>z.elim h2 λq=>(by obtain⟨us,e⟩:=k a q;rw[h3]at e;cases e),h3,Kx.no h4 k,Kx.no h5 k]]
def Mp{α:Type}[Rep α][Kx α]{R L:Rg}{H:Hp}(k:∀a,L a->∃us,H a=↑(.lst us)):∀{xs:List α} {vs:List V},Paired (rp R H) xs vs->Paired (rp (λa=>R a\/L a) H) xs vs:=by
 intro _ _ z
 induction z with
 |nil=>exact .nil
 |cons h t ih=>exact .cons (Kx.no h k) ih
instance{α:Type}[Rep α][Kx α]:Kx (Tp α):=#[λ{R L H x v} h k=>by
 refine e2a4 h λa vs h1 h2 h3 h4=>?_
 exact#[a,vs,h1,λz=>z.elim h2 λq=>(by obtain⟨us,e⟩:=k a q;rw[h3]at e;cases e),h3,Mp k h4]]
instance{α:Type}[Rep α][Kx α]:TH α:=#[λ{F R L H x v} h k=>by
 obtain⟨h1,u,e,h2⟩:=h
 exact#[h1,u,e,Kx.no h2 k]]
instance{α:Type}[Rep α][Kx α]:TH (OL α):=#[λ{F R L H x v} h k=>by
 refine e2a4 h λa vs h1 h2 h3 h4=>?_
 exact#[a,vs,h1,h2,h3,Mp k h4]]
instance:TH Un:=#[λh _=>h]
class YK(P:Type)[Sls P]:Prop where
 fr:∀{F R L:Rg} {H:Hp} {x:P} {v:St},rel F R H x v->(∀a,L a->∃us,H a=↑(.lst us))->rel F (λa=>R a\/L a) H x v
instance:YK Unit:=#[λh _=>h]
instance{τ P:Type}[Ow τ][Sls P][TH τ][YK P]:YK (τ×P):=#[λh k=>by
 refine e4a4 h λv σ' F1 F2 h1 h2 h3 h4=>?_
 exact#[v,σ',F1,F2,h1,h2,TH.fr h3 k,YK.fr h4 k]]
class Xq(P:Type)[Sls P]:Prop where
 ls:∀{F R:Rg} {H:Hp} {x:P} {v:St},rel F R H x v->∀a,F a->∃us,H a=↑(.lst us)
instance:Xq Unit:=#[λh a z=>g8 z (h.2 a)]
instance{α P:Type}[Rep α][Sls P][Xq P]:Xq (OL α×P):=#[λ{F R H x v} h a z=>by
 obtain⟨v,σ',F1,F2,h1,h2,⟨b,vs,k1,k2,k3,k4⟩,h4⟩:=h;rcases(h2.all a).mp z with q|q
 ·rw[(k2 a).mp q];exact#[vs,k3]
 ·exact Xq.ls h4 a q]
abbrev Wo(R L:Rg):Rg:=λa=>R a/\¬L a
def Cw(R L:Rg)(H:Hp):Ext (λ_=>False) R H (Wo R L) H:=#[λ_ _ _ h=>h,λa h=>.inl h.1]
def TJ(h:∀a,L a->b a):Ext (λ_=>False) (Wo R L) H (Wo R b) H:=#[λ_ _ _ h=>h,λa z=>.inl #[z.1,λq=>z.2<|h a q]]
def Sls.wk{D:Type}[Sls D]{F R R':Rg}{H:Hp}{d:D}{σ:St}(h:rel F R H d σ)(e:Ext (λ_=>False) R H R' H):rel F R' H d σ:=Sls.st h e (λ_ z=>z.elim)<|λ_ _ z=>z
def Ow.wk{τ:Type}[Ow τ]{F R R':Rg}{H:Hp}{d:τ}{σ:Option V}(h:sl F R H d σ)(e:Ext (λ_=>False) R H R' H):sl F R' H d σ:=Ow.st h e (λ_ z=>z.elim)<|λ_ _ z=>z
class Lb(Lc τ PO:Type)[Sls Lc][Ow τ][Sls PO]:Prop where
 fr:∀{F R L R0:Rg} {H:Hp} {x:τ} {v:Option V} {l:Lc} {us:St},rel L R0 H l us->sl F R H x v->sl F (λa=>R a\/L a) H x v
 fs:∀{F R L R0:Rg} {H:Hp} {x:PO} {v:St} {l:Lc} {us:St},rel L R0 H l us->rel F R H x v->rel F (λa=>R a\/L a) H x v
instance{Lc τ PO:Type}[Sls Lc][Ow τ][Sls PO][TH τ][YK PO][Xq Lc]:Lb Lc τ PO:=#[λh k=>TH.fr k (Xq.ls h),λh k=>YK.fr k (Xq.ls h)]
def PZ{R L:Rg}{H:Hp}(h:∀a,¬L a):Ext (λ_=>False) R H (λa=>R a\/L a) H:=#[λ_ _ _ h=>h,λa z=>z.elim .inl λq=>g8 q<|h a]
instance(priority:=high){τ PO:Type}[Ow τ][Sls PO]:Lb Unit τ PO:=#[λh k=>Ow.wk k (PZ h.2),λh k=>Sls.wk k (PZ h.2)]
structure Ef(F F1 F2 F3:Rg):Prop where
 all:∀a,F a↔F1 a\/F2 a\/F3 a
 Ih:∀a,F1 a->F2 a->False
 JN:∀a,F1 a->F3 a->False
 JO:∀a,F2 a->F3 a->False
def IV(X:Cx)(E:XK)(T:ci)(M:List iA){D P n B j:Type}[Sls D][Sls P][Sls n][Sls B][Sls j](k:B->j->n->D)(w:D->(P->B->j->Prop)->58->Prop):Prop :=
 ∃t,PA X M t/\∀(d:D)(F R:Rg)(g:St)(H:Hp)(o:P->B->j->Prop)(q:ci->D->Prop)(Q:List V->Hp->Prop),vS T F R H d g->w d o q ->
  (∀p b l m r s u L h f a,o p b l->Ch T F R H h f a->Std T h f a->Ef h s u L->rel s (Wo f L) a p (m.map some)->rel u f a b g->rel L f a l r ->
   (∀v x z A G i c e I,rel z c e I (m.map some)->rel A c e v g->rel G c e x r->Ef i z A G->rel i c e (k v x I) g)->Q m a) ->
  (∀C y J h f a,q C J->Ch T F R H h f a->vS T h f a J g->E (.ref C) ↑y a)->t g H Q
section
variable{D:Type}[Sls D]
def uU:IV X E T [] (λ(b:D)(_:Unit)(_:Unit)=>b) (λ(d:D)(c:Unit->D->Unit->Prop) _=>c () d ()):=by refine#[_,vi,λd F R m H c n Q s e f _=>?_];exact f () d () [] [] (λ_=>False) F (λ_=>False) F R H e 53 s.Sr #[λa=>#[λz=>.inr<|.inl z,λz=>z.elim (λq=>q.elim) λz=>z.elim id λq=>q.elim],λ_ z=>z.elim,λ_ z=>z.elim,λ_ _ z=>z] #[rfl,λ_ z=>z] s.rel #[rfl,λ_ z=>z] λo p r u v g h i w j k l t=>Sls.fq k λa=>#[λz=>(t.all a).mpr<|.inr<|.inl z,λz=>((t.all a).mp z).elim (λq=>g8 q<|j.2 a) λz=>z.elim id λq=>g8 q<|l.2 a]
def uW{g:List iA}{m P n B a:Type}[Rep m][Sls P][Sls n][Sls B][Sls a]{f:B->a->n->D}{A:Wf D m D}{G:D->(P->B->a->Prop)->58->Prop}
 (W:EW X E T e A) (Y:IV X E T g f G) (Z:gJ (e::g) X.env=57::gJ g X.env:=by rfl) :
    IV X E T (e::g) (λ(b:B)(l:a)(p:Un×n)=>f b l p.2) (cB A G λx (I:m×P->B->a->Prop) p b l=>I (x,p) b l):=by
  refine e1a2 W λta a1 a2=>?_
  refine e1a2 Y λtr b1 b2=>?_
  refine#[_,uY a1 b1 Z,λd F R J H I M Q s hw kn N=>?_]
  refine a2 d F R J H _ M _ s hw (λx d1 u F1 R1 H1 q1 O h r1=>?_) N
  refine b2 d1 F1 R1 J H1 _ M _ h q1 (λp b l S us o G2 L q i j q2 U s2 t2 h1 h2 hl k=>?_) λC y d' q i j k c s'=>N C y d' q i j k (Ch.trans s h.tab O c) s'
  refine kn (x,p) b l (u::S) us o G2 L q i j q2 (Ch.trans s h.tab O U) s2 t2 #[↑u,S.map some,λ_=>False,o,rfl,two_nil o,#[λ_ z=>z,u,rfl,Rep.st (h.val U r1)<|(Cw i L j).wide λ_ z=>z.elim],h1] h2 hl λb' l' L1 L2 L3 r v w p' h3 h4 h5 t=>?_
  refine e4a4 h3 λv' aa M1 M2 z1 z2 z3 z4=>?_
  injection z1 with _ z5
  subst z5
  exact k b' l' L1 L2 L3 r v w p'.2 (Sls.fq z4<|two_eq z2 z3) h4 h5 t
def vN{o:List iA}(i:Nat){c O P w B g h:Type}[Ow c][Hs c][Sls O][Sls P][Sls w][Sls B][Sls g][Sls h]{j:B->h->w->D}{S:D->(P->B->h->Prop)->58->Prop}
 [A0:At i D c O] [A:At i B c g] [U:Pt i g c B] (hr:IV X E T o j S) (he:PE X 97 (vw i):=by exact pv _) (hs:gJ (.Name x pos::o) X.env=(false,eval 97 X.env)::gJ o X.env:=by rfl) :
    IV X E T (.Name x pos::o) (λ(b:g)(l:h)(p:c×w)=>j (U.put b p.1) l p.2) (cK S λ(W:c×P->g->h->Prop) p b l=>W (A.get b,p) (A.hole b) l):=by
  refine e1a2 hr λtr b1 b2=>?_
  refine#[_,uY he b1 hs,λd F R σ H W Ke Q s hw kn ke=>?_]
  refine e3a4 (A0.take s.rel) λv _ _ y _ C _=>?_
  obtain⟨u,rfl⟩:=Hs.has C
  refine#[u,y,b2 d F R σ H _ Ke _ s hw (λp b l Y us Z G2 L F' R' H' q2 c2 s2 e h1 h2 hl k=>?_) ke]
  refine e3a4 (A.take h2) λv' G M2 z1 r z3 z4=>?_
  rw[y]at z1
  cases z1
  have m1:∀a,G a->G2 a:=λa m=>(r.all a).mpr<|.inl m
  have m2:∀a,M2 a->G2 a:=λa m=>(r.all a).mpr<|.inr m
  refine kn (A.get b,p) (A.hole b) l (u::Y) us (λa=>G a\/Z a) M2 L F' R' H' q2 c2 s2 #[λa=>?_,λa m n=>?_,λa m n=>?_,λa m n=>e.JO a (m2 a m) n] #[↑u,Y.map some,G,Z,rfl,#[λ_=>Iff.rfl,λa m n=>e.Ih a n<|m1 a m],Ow.wk z3<|Cw R' L H',h1] z4 hl λb' l' L1 L2 L3 I J M p' h3 h4 h5 t=>?_
  · rw[e.all, r.all]
    exact#[λz=>z.elim (λq=>.inl<|.inr q) λz=>z.elim (λz=>z.elim (λq=>.inl<|.inl q) λq=>.inr<|.inl q) λq=>.inr<|.inr q,λz=>z.elim (λz=>z.elim (λq=>.inr<|.inl<|.inl q) .inl) λz=>z.elim (λq=>.inr<|.inl<|.inr q) λq=>.inr<|.inr q]
  · rcases m with m|m
    · exact r.ye a m n
    · exact e.Ih a m<|m2 a n
  · rcases m with m|m
    · exact e.JO a (m1 a m) n
    · exact e.JN a m n
  · refine e4a4 h3 λv' aa N N2 y1 f y3 y4 => ?_
    injection y1 with y5 y6
    subst y5;subst y6
    have tt:Dd (λa=>N a\/L2 a) N L2:=#[λ_=>Iff.rfl,λa m n=>t.Ih a ((f.all a).mpr<|.inl m) n]
    refine k _ l' N2 (λa=>N a\/L2 a) L3 I J M p'.2 y4 (Pt.same (A:=U) h4 y tt y3) h5 #[λa=>?_,λa m n=>?_,λa m n=>t.JN a ((f.all a).mpr<|.inr m) n,λa m n=>?_]
    · rw[t.all, f.all]
      exact#[λz=>z.elim (λz=>z.elim (λq=>.inr<|.inl<|.inl q) .inl) λz=>z.elim (λq=>.inr<|.inl<|.inr q) λq=>.inr<|.inr q,λz=>z.elim (λq=>.inl<|.inr q) λz=>z.elim (λz=>z.elim (λq=>.inl<|.inl q) λq=>.inr<|.inl q) λq=>.inr<|.inr q]
    · rcases n with n|n
      · exact f.ye a n m
      · exact t.Ih a ((f.all a).mpr<|.inr m) n
    · rcases m with m|m
      · exact t.JN a ((f.all a).mpr<|.inl m) n
      · exact t.JO a m n
def v9{u:List iA}(i:Nat){e S P y B h j:Type}[Rep e][Sls S][Sls P][Sls y][Sls B][Sls h][Sls j]{o:B->j->y->D}{W:D->(P->B->j->Prop)->58->Prop}
 [A0:At i D (OL e) S] [A:At i B (OL e) h] [U:Pt i h (OL e) B] (hr:IV X E T u o W) (he:PE X 97 (vw i):=by exact pv _) (hs:gJ (.Name x pos::u) X.env=(false,eval 97 X.env)::gJ u X.env:=by rfl) :
    IV X E T (.Name x pos::u) (λ(b:h)(l:OL e×j)(p:Un×y)=>o (U.put b l.1) l.2 p.2) (cK W λ(Y:List e×P->h->OL e×j->Prop) p b l=>Y ((A.get b).l,p) (A.hole b) (A.get b,l)):=by
  refine e1a2 hr λtr b1 b2=>?_
  refine#[_,uY he b1 hs,λd F R σ H Y Ke Q s hw kn ke=>?_]
  obtain⟨v,_,_,C,_,⟨r,_,rfl,_⟩,_⟩:=A0.take s.rel
  refine#[_,C,b2 d F R σ H _ Ke _ s hw (λp b l Z us G G2 L F' R' H' q2 c2 s2 f h1 h2 hl k=>?_) ke]
  refine e3a4 (A.take h2) λv' I M2 z1 w z3 z4=>?_
  rw[C]at z1
  cases z1
  refine e2a4 (id z3) λa ws e1 e2 e3 e4=>?_
  cases e1
  have m1:∀a,I a->G2 a:=λa m=>(w.all a).mpr<|.inl m
  have m2:∀a,M2 a->G2 a:=λa m=>(w.all a).mpr<|.inr m
  refine kn ((A.get b).l,p) (A.hole b) (A.get b,l) (.ref r::Z) (↑(.ref r)::us) G M2 (λc=>I c\/L c) F' R' H' q2 c2 s2 #[λa=>?_,λa m n=>f.Ih a m<|m2 a n,λa m n=>?_,λa m n=>?_] #[some<|.ref r,Z.map some,λ_=>False,G,rfl,two_nil G,#[λ_ z=>z,_,rfl,r,ws,rfl,λz=>z.2<|.inl<|(e2 r).mpr rfl,e3,v7 ((Cw R' _ H').wide λ_ z=>z.elim) e4],Sls.wk h1<|TJ λ_ z=>.inr z] z4 #[_,us,I,L,rfl,#[λ_=>Iff.rfl,λa m n=>f.JO a (m1 a m) n],z3,hl] λb' l' L1 L2 L3 J M N p' h3 h4 h5 t=>?_
  · rw[f.all, w.all]
    exact#[λz=>z.elim .inl λz=>z.elim (λz=>z.elim (λq=>.inr<|.inr<|.inl q) λq=>.inr<|.inl q) λq=>.inr<|.inr<|.inr q,λz=>z.elim .inl λz=>z.elim (λq=>.inr<|.inl<|.inr q) λz=>z.elim (λq=>.inr<|.inl<|.inl q) λq=>.inr<|.inr q]
  · rcases n with n|n
    · exact f.Ih a m<|m1 a n
    · exact f.JN a m n
  · rcases n with n|n
    · exact w.ye a n m
    · exact f.JO a (m2 a m) n
  · refine e4a4 h3 λv' aa N1 N2 y1 y2 y3 y4 => ?_
    injection y1 with _ y6
    subst y6
    refine e4a4 h5 λv2 ab O K2 x1 g x3 x4=>?_
    injection x1 with x5 x6
    subst x5;subst x6
    have tt:Dd (λa=>O a\/L2 a) O L2:=#[λ_=>Iff.rfl,λa m n=>t.JO a n<|(g.all a).mpr<|.inl m]
    refine k _ l'.2 L1 (λa=>O a\/L2 a) K2 J M N p'.2 (Sls.fq y4<|two_eq y2 y3) (Pt.same (A:=U) h4 C tt x3) x4 ⟨λa=>?_,λa m n=>?_,λa m n=>t.JN a m<|(g.all a).mpr<|.inr n,λa m n=>?_⟩
    · rw[t.all, g.all]
      exact#[λz=>z.elim .inl λz=>z.elim (λq=>.inr<|.inl<|.inr q) λz=>z.elim (λq=>.inr<|.inl<|.inl q) λq=>.inr<|.inr q,λz=>z.elim .inl λz=>z.elim (λz=>z.elim (λq=>.inr<|.inr<|.inl q) λq=>.inr<|.inl q) λq=>.inr<|.inr<|.inr q]
    · rcases n with n|n
      · exact t.JN a m<|(g.all a).mpr<|.inl n
      · exact t.Ih a m n
    · rcases m with m|m
      · exact g.ye a m n
      · exact t.JO a m<|(g.all a).mpr<|.inr n
def Eg{P J B Lc M:Type}[Sls P][Sls J][Sls B][Sls Lc][Ow M][Lb Lc M J]{mrg:B->Lc->J->D}{wf:Wf P M J}{F R F1 F2 L:Rg}{H:Hp}{b:B}{l:Lc}{p:P}{σ:St}{vs:List V}{us:St}{Kn:M->D->Prop}{Ke:ci->D->Prop}{Q:VK}
  (s:Std T F R H) (t:Ef F F1 F2 L) (hp:rel F1 (Wo R L) H p (vs.map some)) (hb:rel F2 R H b σ) (hl:rel L R H l us) (km:∀b' l' G1 G2 G3 W u w r,rel G1 u w r (vs.map some)->rel G2 u w b' σ->rel G3 u w l' us->Ef W G1 G2 G3->rel W u w (mrg b' l' r) σ)
  (hw:wf p (λx r=>Kn x<|mrg b l r) (λC r=>Ke C<|mrg b l r))
  (kn:∀x X v M1 N i d,Kn x X->Ch T F R H (λa=>M1 a\/N a) i d->vS T N i d X σ->Nw T M1 N i d x v->Q v d)
  (ke:∀C y X Y i d,Ke C X->Ch T F R H Y i d->vS T Y i d X σ->E (.ref C) ↑y d):yn T wf vs H Q E:=by
 have O:∀a,F1 a->F a:=λa h=>(t.all a).mpr<|.inl h;have S:∀a,F2 a->F a:=λa h=>(t.all a).mpr<|.inr<|.inl h;have k:∀a,L a->F a:=λa h=>(t.all a).mpr<|.inr<|.inr h;have s1:vS T F1 (Wo R L) H p (vs.map some):=⟨hp,λa h=>#[s.sub a<|O a h,λz=>t.JN a h z],λa h=>s.wZ a h.1,s.tab,#[s.vI,λz=>s.vy<|k T z],λh=>s.vy<|O T h⟩
 -- the region aa it: Z the ab left and Z ah ag
 have ex:∀{G i:Rg} {d:Hp},Ch T F1 (Wo R L) H G i d->Ext (λa=>F1 a\/a=T) R H (λa=>i a\/L a) d:=λc=>#[λb o n h=>c.keep b o (λz=>n<|.inl z) (λz=>n<|.inr z) h,λa h=>h.elim (λz=>(c.zP a z).elim (λq=>.inl q.1) .inr) λz=>.inl<|s.sub a<|k a z];have gs:∀a,(F1 a\/a=T)->R a:=λa h=>h.elim (λz=>s.sub a<|O a z) λq=>by rw[q];exact s.vI
 have fr:∀{G i:Rg} {d:Hp},Ch T F1 (Wo R L) H G i d->rel F2 (λa=>i a\/L a) d b σ:=λc=>Sls.st hb (ex c) gs λa h z=>z.elim (λq=>t.Ih a q h) λq=>s.vy (by rw[<- q];exact S a h);have A:∀{G i:Rg} {d:Hp},Ch T F1 (Wo R L) H G i d->rel L (λa=>i a\/L a) d l us:=λc=>Sls.st hl (ex c) gs λa h z=>z.elim (λq=>t.JN a q h) λq=>s.vy (by rw[<- q];exact k a h)
 have nF:∀{G i:Rg} {d:Hp},Ch T F1 (Wo R L) H G i d->∀a,G a->F2 a\/L a->False:=λc a g f=>by
  rcases c.xz a g with q|q
  ·exact f.elim (t.Ih a q)<|t.JN a q
  ·exact s.wZ a (s.sub a<|f.elim (S a)<|k a) q
 have nR:∀{G i:Rg} {d:Hp},Ch T F1 (Wo R L) H G i d->∀a,L a->¬i a:=λc a h z=>by
  rcases c.zP a z with q|q
  ·exact q.2 h
  ·exact s.wZ a (s.sub a<|k a h) q
 have ch:∀{G i:Rg} {d:Hp},Ch T F1 (Wo R L) H G i d->Ch T F R H (λa=>G a\/F2 a\/L a) (λa=>i a\/L a) d:=λc=>#[λb o n m h=>c.keep b o (λz=>n<|O b z) m h,(ex c).new,λa h=>h.elim (λq=>(c.xz a q).elim (λz=>.inl<|O a z) .inr) λq=>.inl<|q.elim (S a)<|k a,λa h n=>.inl<|c.left a ⟨h,λz=>n<|k a z⟩ λz=>n<|O a z];have ae:∀{G i:Rg} {d:Hp},Ch T F1 (Wo R L) H G i d->∀a,F2 a->i a:=λc a f=>c.left a #[s.sub a<|S a f,λz=>t.JO a f z] λz=>t.Ih a z f
 have af:∀{G i:Rg} {d:Hp},Ch T F1 (Wo R L) H G i d->(∀a,i a->d a≠none)->∀a,i a\/L a->d a≠none:=λc h a z=>z.elim (h a) λq=>by
  cases e:H a with
  |none=>exact g8 e<|s.wZ a<|s.sub a<|k a q
  |some o=>rw[c.keep a o (λz=>t.JN a z q) (λz=>s.vy<|by rw[<- z];exact k a q) e];simp
 refine#[F1,Wo R L,p,_,_,s1,hw,λx r v M1 N i d q c j n=>?_,λC y r Y i d q c j=>?_]
 ·have U:=nF c;have kl:=A c;have I:=ch c;refine kn x _ v M1 (λa=>N a\/F2 a\/L a) (λa=>i a\/L a) d q #[I.keep,I.zP,λa h=>I.xz a<|h.elim (λz=>.inl<|.inl z) λz=>z.elim (λq=>.inl<|.inr q) .inr,I.left] ⟨km b l N F2 L _ _ d r (Lb.fs M kl j.rel) (fr c) (A c) ⟨λ_=>Iff.rfl,λa m f=>U a (.inr m)<|.inl f,λa m f=>U a (.inr m)<|.inr f,t.JO⟩,λa h=>h.elim (λz=>.inl<|j.sub a z) λz=>z.elim (λq=>.inl<|ae c a q) .inr,af c j.wZ,j.tab,.inl j.vI,λh=>h.elim j.vy λz=>z.elim (λq=>s.vy<|S T q) λq=>s.vy<|k T q⟩ ⟨Lb.fr J kl n.is,λa m=>.inl<|n.sub a m,λa m z=>z.elim (n.ye a m) λz=>U a (.inl m) z,n.tab⟩
 ·have U:=nF c;have kl:=A c;exact ke C y _ (λa=>Y a\/F2 a\/L a) (λa=>i a\/L a) d q (ch c) #[km b l Y F2 L _ _ d r (Lb.fs M kl j.rel) (fr c) (A c) #[λ_=>Iff.rfl,λa m f=>U a m<|.inl f,λa m f=>U a m<|.inr f,t.JO],λa h=>h.elim (λz=>.inl<|j.sub a z) λz=>z.elim (λq=>.inl<|ae c a q) .inr,af c j.wZ,j.tab,.inl j.vI,λh=>h.elim j.vy λz=>z.elim (λq=>s.vy<|S T q) λq=>s.vy<|k T q]
def P0{P j B o:Type}[Sls P][Sls j][Sls B][Ow o]{mrg:B->j->D}{wf:Wf P o j}{F R F1 F2:Rg}{H:Hp}{b:B}{p:P}{σ:St}{r:List V}{Kn:o->D->Prop}{Ke:ci->D->Prop}{Q:VK}
  (s:Std T F R H) (t:Dd F F1 F2) (I:rel F1 R H p (r.map some)) (J:rel F2 R H b σ) (M:∀k m n e c d f,rel m c d f (r.map some)->rel n c d k σ->Dd e m n->rel e c d (mrg k f) σ)
  (hw:wf p (λx f=>Kn x<|mrg b f) (λC f=>Ke C<|mrg b f))
  (N:∀x i v w u h g,Kn x i->Ch T F R H (λa=>w a\/u a) h g->vS T u h g i σ->Nw T w u h g x v->Q v g)
  (O:∀C y i A h g,Ke C i->Ch T F R H A h g->vS T A h g i σ->E (.ref C) ↑y g):yn T wf r H Q E :=
 Eg (Lc:=Unit) (L:=λ_=>False) (l:=()) (us:=[]) (mrg:=λb _ p=>mrg b p) s #[λa=>(t.all a).trans #[λz=>z.elim .inl λq=>.inr<|.inl q,λz=>z.elim .inl λq=>q.elim .inr iv],t.ye,λ_ _ z=>z,λ_ _ z=>z] (Sls.wk I<|Cw _ _ _) J ⟨rfl,λ_ z=>z⟩
  (λk _ m n X e c d f S U W G=>M k m n e c d f S U #[λa=>(G.all a).trans #[λz=>z.elim .inl λq=>q.elim .inr λq=>g8 q<|W.2 a,λz=>z.elim .inl λq=>.inr<|.inl q],G.Ih]) hw N O
def BI{P i B o r:Type}[Sls P][Sls i][Sls B][Sls o][Ow r][Lb o r i]{j:B->o->i->D}{S:Wf P r i}{U:D->(P->B->o->Prop)->58->Prop}{k:Nat}{Y:List Str}{m:List iA}
 (F:vB X.prog X.w X.K X.mg X.base (vJ X.prog X.w) k f fd Y (yn T S)) (hr:wg k X.A) (hg:Gl X x) (hm:X.mg x=↑(.ref f)) (hk:jb X.K (.ref f)=true) (hb:Binds X.K fd Y []) (hx:Passes (vJ X.prog X.w) X E)
 (ha:IV X E T (e::m) j U) (u:(x==55)=false:=by decide) (he:gJ (e::m) X.env=57::gJ m X.env:=by rfl) (z:(ja pos<|gJ m X.env).any (·.1)=false:=by rfl) :
    EO X E T (.Call (.Name x p) (e::m) [] pos) (cC U S j):=by
  refine e1a2 ha λt a1 a2=>?_
  refine#[_,SM F hr hg hm hk hb .nil hx a1 u he z,λd F' R σ H Kn Ke Q s hw kn Z=>?_]
  refine a2 d F' R σ H _ Ke _ s hw (λp b l vs us F1 F2 L G R' H' q c I tw h1 h2 h3 km=>?_) Z
  rw[kX]
  exact Eg I tw h1 h2 h3 km q (λx J v M1 M2 a g M N h n=>kn x J v M1 M2 a g M (Ch.trans s I.tab c N) h n) λC y J O a g M N h=>Z C y J O a g M (Ch.trans s I.tab c N) h
class Obj(τ:Type)[Ow τ](K:gH)(C:ci)(m:Str):Prop where
 ob:∀{F R:Rg} {H:Hp} {x:τ} {v:V},sl F R H x ↑v->∃a dx fs,v=.ref a/\H a=↑(.ins C dx fs)/\fs.lookup m=none
end
section
variable{D PO τ:Type}[Sls D][Sls PO][Ow τ]{α:Type}[Rep α]
def yK{F:Rg}:Ext (λc=>c=a) R H R (upd H a o):=#[λb u n h=>by rw[uR n];exact h,λ_ h=>.inl h]
def zy{i:Nat}{D0:Type}[Sls D0][A:At i D (OL α) D0][U:Pt i D0 (OL α) D]{F R:Rg}{H:Hp}{d:D}{σ:St}(s:vS T F R H d σ):∃a vs,σ[i]?=↑(some<|.ref a)/\H a=↑(.lst vs)/\Paired (rp R H) (A.get d).l vs /\
  ∀(ys:List α)(us:List V),Paired (rp R H) ys us->Ch T F R H F R (upd H a<|.lst us)/\vS T F R (upd H a<|.lst us) (U.put (A.hole d) #[ys]) σ:=by
 obtain⟨v,F1,F2,h1,h2,⟨a,vs,rfl,h4,h5,h6⟩,h7⟩:=A.take s.rel;have aF:F a:=(h2.all a).mpr<|.inl<|(h4 a).mpr rfl;have aT:a≠T:=λz=>s.vy (by rw[<- z];exact aF);refine#[a,vs,h1,h5,h6,λys us hp=>?_];have ex:=yK (F:=F) (R:=R) (H:=H) (a:=a) (o:=.lst us);have gs:∀c,c=a->R c:=λc z=>by rw[z];exact s.sub a aF
 have k:∀b u,b≠a->H b=↑u->upd H a (.lst us) b=↑u:=λb u z e=>by rw[uR z];exact e
 refine#[#[λb o n _ e=>k b o (λz=>n<|by rw[z];exact aF) e,λ_ h=>.inl h,λ_ h=>.inl h,λ_ h _=>h],Pt.same (A:=U) (Sls.st h7 ex gs λc z q=>h2.ye c ((h4 c).mpr q) z) h1 h2 #[a,us,rfl,h4,uT,v7 (ex.wide gs) hp],s.sub,λc z=>?_,?_,s.vI,s.vy]
 ·by_cases e:c=a
  ·rw[e,uT];simp
  ·rw[uR e];exact s.wZ c z
 ·refine e1a2 s.tab λps e t=>?_;exact#[ps,k _ _ (λz=>aT z.symm) e,t]
def xD{x:Str}{e:iA}(i:Nat){p1 p2 p3:Pos}{D0:Type}[Sls D0][A:At i D (OL α) D0][U:Pt i D0 (OL α) D][J:Pj D PO n]{we:Wf D α D}(h:EW X E T e we)
  (hb:∀{t:TA},PA X [e] t->PS X (.Expr (.Call (.Attribute (.Name x p1) "append" p2) [e] [] p3) pos) (FF<|tBM X.K "list" Gp (vw i) t):=by exact λh=>AE<|VN og PySem.F.slot_list_append PySem.F.type_list_append Nj (pv _) h) (hs:gJ [e] X.env=57::gJ [] X.env:=by rfl) :
  S1 X E T ms n (.Expr (.Call (.Attribute (.Name x p1) "append" p2) [e] [] p3) pos) (cS we J.pj λ(Kn:D->Prop)(Kr:τ->PO->Prop) y d'=>(A.get d').l.length<gL/\Kn (U.put (A.hole d') #[(A.get d').l++[y]])):=by
 refine e1a2 h λt h1 h2=>?_;refine#[_,hb<|uY h1 vi hs,λd F R σ H Kn Kr Ke En s hw kn kr ke=>?_];refine e2a4 (zy (i:=i) s) λa vs g1 g2 g3 _=>?_;refine#[_,g1,.inl #[rfl,vs,v6.of g2],h2 d F R σ H _ _ _ s hw (λy d' v F' R' H' q c s' r=>?_) λC y d' F' R' H' q c s'=>?_]
 ·refine e2a4 (zy (i:=i) s') λa' TK k1 k2 k3 k4=>?_;rw[g1]at k1;cases k1;obtain⟨c2,s2⟩:=k4 _ _<|xQ k3<|.cons r .nil;exact#[a,TK,v,rfl,rfl,k2,by rw[<- Paired.length k3];exact q.1,kn _ F' R' _ σ q.2 (Ch.trans s s'.tab c c2) s2<|Ag.refl _ _]
 ·refine e1a2 (v8 (PO:=PO) s') λG g1 g2=>?_;exact ke C y _ G R' H' q (c.less g1) g2
end
def GW(X:Cx)(T:ci)(ms:List Nat)(tg:iA){D D1 α:Type}[Sls D][Sls D1][Rep α](g:D->α->D1):Prop :=
 ∃t,PG X tg t/\∀(d:D)(F R:Rg)(σ:St)(H:Hp)(x:α)(v:V)(Q:St->Hp->Prop),vS T F R H d σ->rp R H x v->(∀F' σ',(∀a,F' a->F a)->vS T F' R H (g d x) σ'->Ag ms σ σ'->Q σ' H)->t v σ H Q
section
variable{D:Type}[Sls D]{α β:Type}[Rep α][Rep β]
def Ky{i:Nat}{ZF D0 D1:Type}[Ow ZF][Sls D0][Sls D1][A:At i D ZF D0][U:Pt i D0 α D1]{F R:Rg}{H:Hp}{d:D}{σ:St}{x:α}{v:V}(s:vS T F R H d σ)(r:rp R H x v) :
  ∃F',(∀a,F' a->F a)/\vS T F' R H (U.put (A.hole d) x) (σ.set i<|↑v):=by
 have m:Nw T (λ_=>False) F R H x v:=#[#[λ_ z=>z,v,rfl,r],λ_ z=>z.elim,λ_ z=>z.elim,λz=>z];refine e1a2 (D9 (i:=i) s m) λG g1 g2=>?_;exact#[G,λa h=>(g1 a h).elim (λz=>z.elim) id,g2]
def vq{x:Str}(i:Nat){ZF D0 D1:Type}[Ow ZF][Sls D0][Sls D1][A:At i D ZF D0][U:Pt i D0 α D1](hp:PG X 97 (CN i))(hm:i∉ms:=by decide):GW X T ms 97 (λ(d:D)(x:α)=>U.put (A.hole d) x) :=
 #[_,hp,λd F R σ H x v Q s r k=>by
  refine e1a2 (Ky (i:=i) s r) λF' f1 f2=>?_
  exact k F' _ f1 f2 (Ag.set hm)]
def BJ(i j:Nat)[Ow b][Ow c][Sls e][Sls f][Sls g][Sls m][A:At i D b e][U:Pt i e α f][n:At j f c g][o:Pt j g β m](p:PG X q (Wz X.K 2<|FG (CN i)<|FG (CN j) Wy))(t:i∉l)(y:j∉l) :
  GW X T l q (λ(d:D)(x:α×β)=>o.put (n.hole<|U.put (A.hole d) x.1) x.2) :=
 #[_,p,λd F R M H x v Q s r k=>by
  obtain⟨a,u,w,rfl,_,z,B,C⟩:=r;refine e1a2 (Ky (i:=i) s B) λN E G=>?_;refine e1a2 (Ky (i:=j) G C) λI J L=>?_
  exact#[a,[u,w],rfl,yY.of z,rfl,u,[w],rfl,w,[],rfl,rfl,k I _ (λa h=>E a (J a h)) L ((Ag.set t).trans (Ag.set y))]]
end
structure YL{α:Type}[Rep α](J:It)(xs:List α)(Ps:Rg->Hp->Prop):Prop where
 go:∀{R:Rg} {H:Hp} {i:Nat},Ps R H->i<xs.length->J.go i H
 Ig:∀{R:Rg} {H:Hp} {i:Nat} {v:V} {H':Hp},Ps R H->(∀a,R a->H a≠none)->i<xs.length->J.Ig i H v H'->(H'=H\/∃p o,H p=none/\H'=upd H p o)/\∃x,xs[i]?=↑x/\rp R H' x v
 stop:∀{R:Rg} {H:Hp},Ps R H->J.stop xs.length H
def IW(X:Cx)(E:XK)(T:ci)(O:List Nat)(P e:iA){D B o:Type}[Sls D][Sls B][Rep o](k:B->List o->D)(w:D->(List o->B->Prop)->58->Prop):Prop :=
 ∃t,PI X P e t/\∀(d:D)(F R:Rg)(l:St)(H:Hp)(s:List o->B->Prop)(u:ci->D->Prop)(v:It->Hp->Prop),vS T F R H d l->w d s u ->
  (∀p b J m j q x f c,s p b->Ch T F R H j f c->Std T j f c->Dd j q x->rel x f c b l->YL J p m->m f c ->
   (∀{G r z:Rg} {A I:Hp},m r A->(∀a,G a->r a)->(∀a,q a->¬G a)->Ext G r A z I->m z I) ->
   (∀L M n g h i,m g h->rel M g h L i->Ag O l i->Dd n q M->rel n g h (k L p) i)->v J c) ->
  (∀C y N j f c,u C N->Ch T F R H j f c->vS T j f c N l->E (.ref C) ↑y c)->t l H v
section
variable{D:Type}[Sls D]{α β:Type}[Rep α][Rep β]
def BK{K:gH}{xs:List α}{vs:List V}:YL (YF K a) xs (λR H=>H a=↑(.lst vs)/\Paired (rp R H) xs vs) where
 go:=λ{R H i} p h=>by refine e1a2 (wP (i:=i) (x:=xs[i]) p.2<|by simp[h]) λv e _=>?_;exact#[vs,v,v6.of p.1,e]
 Ig:=λ{R H i v H'} p _ hi y=>by obtain⟨e,y⟩:=y;subst e;have y':=y vs<|v6.of p.1;refine e1a2 (wP (i:=i) (x:=xs[i]) p.2<|by simp[hi]) λu e r=>?_;rw[y']at e;cases e;exact#[.inl rfl,_,by simp[hi],r]
 stop:=λ{R H} p=>#[vs,v6.of p.1,by rw[Paired.length p.2];exact gK _]
def wh{w:Wf D (List α) D}(h:EW X E T e w):IW X E T is tg e (λ(b:D)(_:List α)=>b) w:=by refine e1a2 h λt h1 h2=>?_;refine#[_,Gm h1,λd F R σ H Kn Ke Rk s hw kn ke=>h2 d F R σ H _ _ _ s hw (λxs d' v F' R' H' q c s' r=>?_) ke];obtain⟨a,vs,rfl,r1,r2,r3⟩:=r;refine#[a,rfl,#[vs,v6.of r2],kn xs d' _ (λR H=>(H a=↑(.lst vs)/\Paired (rp R H) xs vs)/\¬R a) F' (λ_=>False) F' R' H' q c s'.Sr (two_nil F') s'.rel #[λp=>BK.go p.1,λp=>BK.Ig p.1,λp=>BK.stop p.1] #[#[r2,r3],r1] (λp gs nf ex=>?_) λb' G2 V0 JM PV σ' p h g t=>Sls.fq h<|two_eq t λ_ z=>z];have na:¬_:=λz=>p.2<|gs a z;exact#[#[ex.keep a _ na p.1.1,v7 (ex.wide gs) p.1.2],ex.not p.2 p.1.1]
def Kz{x:Str}(i:Nat){B:Type}[Sls B][A:At i D (OL α) B][U:Pt i B (OL α) D](hn:PE X 97 (vw i))(hi:i∈is):IW X E T is tg 97 (λ(b:B)(xs:List α)=>U.put b #[xs]) (λ(d:D)(Kn:List α->B->Prop) _=>Kn (A.get d).l<|A.hole d):=by refine⟨_,Gm hn,λd F R σ H Kn Ke Rk s hw kn ke=>?_⟩;obtain⟨v,F1,F2,h1,h2,⟨a,vs,rfl,h4,h5,h6⟩,h7⟩:=A.take s.rel;refine#[_,h1,a,rfl,#[vs,v6.of h5],kn _ _ _ (λR H=>H a=↑(.lst vs)/\Paired (rp R H) (A.get d).l vs) F F1 F2 R H hw 53 s.Sr h2 h7 BK #[h5,h6] (λp gs nf ex=>#[ex.keep a _ (nf a<|(h4 a).mpr rfl) p.1,v7 (ex.wide gs) p.2]) λb' G2 V0 JM PV σ' p h g t=>?_];exact Pt.same (A:=U) h (by rw[g.2 i hi];exact h1) t #[a,vs,rfl,h4,p.1,p.2]
noncomputable def yW(a b:Int):List Int:=(h8 (b-a).toNat).map λ(i:Nat)=>a+(i:Int)
def wK(a b:Int):(yW a b).length=(b-a).toNat:=by unfold yW;rw[gM,lp]
def TL{a b:Int}{i:Nat}(h:i<(b-a).toNat):(yW a b)[i]?=↑(a+(i:Int)):=by unfold yW;rw[jy,tV h];rfl
def FX{lo hi:Int}:YL (WC lo (hi-lo).toNat) (yW lo hi) (λ_ _=>True) where
 go:=λ{R H i} _ h=>by rw[wK]at h;exact h
 Ig:=λ{R H i v H'} _ _ hi y=>by obtain⟨e,y⟩:=y;subst e y;rw[wK]at hi;exact#[.inl rfl,_,TL hi,rfl]
 stop:=λ{R H} _=>by rw[wK];exact gK _
def wS(m:Gl X "range")(n:X.mg "range"=none)(o:EW X E T a u)(w:gJ [a] X.env=77::gJ [] X.env:=by rfl)(e:gJ [a] X.env=[77]:=by rfl) :
  IW X E T is P (.Call (.Name "range" p) [a] [] pos) (λ(b:D)(_:List Int)=>b) (cK u λk j f=>(-(2 ^ 62)<=j/\j<2 ^ 62)/\k (yW 0 j) f):=by
 refine e1a2 o λt x y=>?_;refine#[_,M9 m n (uY x vi w) e,λd F R A H k Q S s B C G=>y d F R A H _ _ _ s B (λj f v i I J q c l r=>?_) G];subst r;refine#[j,rfl,q.1.1,q.1.2,?_];have:=C (yW 0 j) f (WC 0 (j-0).toNat) (λ_ _=>True) i (λ_=>False) i I J q.2 c l.Sr (two_nil i) l.rel FX trivial (λ_ _ _ _=>trivial) λU W L M N O p h g t=>Sls.fq h<|two_eq t λ_ z=>z;rw[Int.sub_zero]at this;exact this
def NI(hg:Gl X "range")(hm:X.mg "range"=none)(L:EW X E T a M)(N:EW X E T b O)(m:∀{A:TA},PA X [a,b] A->PI X P (.Call (.Name "range" p) [a,b] [] pos) (VF A))
 (Q:gJ [a,b] X.env=77::gJ [b] X.env:=by rfl) (n:gJ [b] X.env=(false,eval b X.env)::gJ [] X.env:=by rfl) :
    IW X E T is P (.Call (.Name "range" p) [a,b] [] pos) (λ(b:D)(_:List Int)=>b) (cB M O λi B j e=>(-(2 ^ 62)<=i/\i<2 ^ 62/\-(2 ^ 62)<=j/\j<2 ^ 62)/\B (yW i j) e):=by
  obtain⟨t,S,U⟩:=L
  obtain⟨tb,W,Y⟩:=N
  refine#[_,m<|uY S (uY W vi n) Q,λd F R G H B Ke Rk s Z kn I=>U d F R G H _ _ _ s Z (λi d1 u F1 R1 H1 q1 J o r1=>?_) I]
  refine Y d1 F1 R1 G H1 _ _ _ o q1 (λj e v f w x q c l r=>?_) λC y e f w x k c l=>I C y e f w x k (Ch.trans s o.tab J c) l
  subst r;subst r1
  exact#[i,j,rfl,q.1,kn (yW i j) e (WC i (j-i).toNat) (λ_ _=>True) f (λ_=>False) f w x q.2 (Ch.trans s o.tab J c) l.Sr (two_nil f) l.rel FX trivial (λ_ _ _ _=>trivial) λb' G2 aa ab ae af p h g t=>Sls.fq h<|two_eq t λ_ z=>z]
end
def GQ{α B PO τ:Type}(b:α->B->(B->Prop)->87->79->Prop):List α->B->(B->Prop)->87->79->Prop
 | [],d,Kn,_,_=>Kn d
 |x::xs,d,Kn,Kr,Ke=>b x d (λd'=>GQ b xs d' Kn Kr Ke) Kr Ke
section
variable{D B D1 D2 PO τ α:Type}[Sls D][Sls B][Sls D1][Sls D2][Sls PO][Ow τ][Rep α]
def Ch.big(c:Ch T F R H d e f)(g:∀a,F a->G a):Ch T G R H d e f:=#[λb o n m h=>c.keep b o (λz=>n<|g b z) m h,c.zP,λa h=>(c.xz a h).elim (λz=>.inl<|g a z) .inr,λa h n=>c.left a h λz=>n<|g a z]
def Ch.P1(t:Dd F F1 d)(c:Ch T d R H e f g):Ch T F R H (λa=>F1 a\/e a) f g:=#[λb o n m h=>c.keep b o (λz=>n<|(t.all b).mpr<|.inr z) m h,c.zP,λa h=>h.elim (λz=>.inl<|(t.all a).mpr<|.inl z) λz=>(c.xz a z).elim (λz=>.inl<|(t.all a).mpr<|.inr z) .inr,λa h n=>c.left a h λz=>n<|(t.all a).mpr<|.inr z]
def Ch.trans'{j:Rg}{i k:Hp}(s:Std T F R H)(m:TabAt i T)(a:Ch T F R H l p i)(b:Ch T l p i r j k):Ch T F R H r j k:=by
 have f:∀c,¬F c->H c≠none->¬l c:=λc n h z=>by
  rcases a.xz c z with q|q
  ·exact n q
  ·exact h q
 have d:∀c,i c=none->¬(F c)->H c=none:=λc h n=>by
  cases e:H c with
  |none=>rfl
  |some o =>
   have u:c≠T:=λz=>by rw[z]at h;exact zd m h
   rw[a.keep c o n u e]at h;cases h
 refine#[λc o n t h=>b.keep c o (f c n<|by rw[h];simp) t<|a.keep c o n t h,λc h=>?_,λc h=>?_,λc h n=>b.left c (a.left c h n)<|f c n<|s.wZ c h]
 ·rcases b.zP c h with q|q
  ·exact a.zP c q
  ·by_cases g:F c
   ·exact .inl<|s.sub c g
   ·exact .inr<|d c q g
 ·rcases b.xz c h with q|q
  ·exact a.xz c q
  ·by_cases g:F c
   ·exact .inl g
   ·exact .inr<|d c q g
def drop_cons{α:Type}{a:List α}{i:Nat}{x:α}(h:a[i]?=↑x):a.drop i=x::a.drop (i+1):=by have b:=(List.getElem?_eq_some_iff.mp h);rw[nV b.1,b.2]
def Ag.sub(a:Ag c d b)(h:∀i∈e,i∈c):Ag e d b:=#[a.1,λi f=>a.2 i<|h i f]
@[reducible] def cF{D B D1 D2 α τ PO:Type}(w:D->(List α->B->Prop)->58->Prop)(v:D1->(D2->Prop)->87->79->Prop)(g:B->α->D1)(k:B->List α->D)(f:D2->B)(j:D->PO):D->(D->Prop)->87->79->Prop:=λd i c a=>w d (λh b=>GQ (λx b e c a=>v (g b x) (λl=>e<|f l) c a) h b (λm=>i<|k m h) c a) λC n=>a C<|j n
def wE{I:B->List α->D}{wi:D->(List α->B->Prop)->58->Prop}{g:B->α->D1}{wb:D1->(D2->Prop)->87->79->Prop}[Gf:Fg D2 B][J:Pj D PO n](dp:Ss PO ms n)(hp:rK 19 X.A X.env X.xe)(hc:X.calm=true)
 (hi:IW X E T is tg iter I wi) (hg:GW X T mb tg g) (hb:SW X E T mb n body wb) (h1:∀i∈ms,i∈mb) (h2:∀i∈is,i∈mb) (hs:∀x,j7 iter X.env x=pure x:=by intro _;rfl) :
    S1 X E T ms n (.For tg iter body [] pos) (cF wi wb g I Gf.fg J.pj):=by
  refine e1a2 hi λti i1 i2=>?_
  refine e1a2 hg λaq g1 g2=>?_
  refine e1a2 hb λtb Q b2=>?_
  refine#[_,OI hp hc i1 g1 Q hs,λd F R σ H Kn Kr Ke En s hw kn kr ke=>?_]
  refine i2 d F R σ H _ _ _ s hw (λS b Jt Ps F' U F2 R' H' q c s' tw hr ip ps pk pb=>?_) λC y d' F' R' H' q c s'=>?_
  · -- the an
    refine#[λi m l N=>m=S.length-i/\i<=S.length/\∃Q G r j,Ch T F' R' H' G j N/\Std T G j N/\Dd G U r/\rel r j N Q l/\Ps j N/\Ag mb σ l/\GQ (λx b aa Kr Ke=>wb (g b x) (λd2=>aa (Gf.fg d2)) Kr Ke) (S.drop i) Q (λb'=>Kn (I b' S)) Kr Ke,
      #[_,rfl,iN _,b,F',F2,R',Ch.refl _ _ _ _,s',tw,hr,ps,Ag.refl _ _,q],?_]
    rintro i m l N ⟨rfl,hi,Q,G,r,j,c1,O,W,r1,p1,a1,w1⟩
    have cc:=Ch.trans s s'.tab c c1
    by_cases ab:i<S.length
    · refine .inr #[ip.go p1 ab, λae L => ∃b2 G2 ag R2, Ch T F' R' H' G2 R2 L /\ Std T G2 R2 L /\ Dd G2 U ag /\ rel ag R2 L b2 ae /\ Ps R2 L /\ Ag mb σ ae /\ GQ (λx b aa Kr Ke => wb (g b x) (λd2 => aa<|Gf.fg d2) Kr Ke) (S.drop<|i+1) b2 (λb' => Kn<|I b' S) Kr Ke, λae L p => #[S.length-(i+1), by omega, rfl, ab, p], λx L y => ?_]
      obtain⟨hH,x',ex,rx⟩:=ip.Ig p1 O.wZ ab y
      -- the ao af the Y step
      have ai:Ch T G j N G j L/\Std T G j L/\rel r j L Q l/\Ps j L:=by
        rcases hH with e|⟨p,o,hp,e⟩
        · subst e; exact#[Ch.refl _ _ _ _, O, r1, p1]
        · subst e
          have k:∀b u,N b=↑u->upd N p o b=↑u:=λb u e=>by rw[uR<|u4 e hp];exact e
          have ex:Ext (λ_=>False) j N j (upd N p o):=#[λb u _ e=>k b u e,λa h=>.inl h]
          refine#[#[λb u _ _ e=>k b u e,λa h=>.inl h,λa h=>.inl h,λa h _=>h],#[O.sub,λa z=>?_,?_,O.vI,O.vy],Sls.st r1 ex (λ_ z=>z.elim)<|λ_ _ z=>z,pk p1 (λ_ z=>z.elim) (λ_ _ z=>z) ex]
          · cases e : N a with
            |none=>exact g8 e<|O.wZ a z
            |some u=>rw[k a u e];simp
          · refine e1a2 O.tab λqs e t => ?_
            exact#[qs,k _ _ e,t]
      obtain⟨c2,M,r2,p2⟩:=ai
      have P:∀a,r a->G a:=λa h=>(W.all a).mpr<|.inr h
      have S2:vS T r j L Q l:=#[r2,λa h=>M.sub a<|P a h,M.wZ,M.tab,M.vI,λh=>M.vy<|P T h]
      rw[drop_cons ex]at w1
      refine g2 Q r j l L x' x _ S2 rx λF3 aj f3 S3 a3=>?_
      have ah:=Ch.trans' s' O.tab c1 c2
      have Z:=Ch.trans s s'.tab c ah
      have t3:∀a,U a->F3 a->False:=λa h k=>W.ye a h<|f3 a k
      refine b2 _ F3 j aj L _ Kr Ke _ S3 w1 (λd2 F4 R4 H4 ar q4 c4 f a4=>?_) (λx p' v M1 M2 R4 H4 q4 c4 f n4=>?_) λC y p' F4 R4 H4 q4 c4 f=>?_
      · refine e1a2 (Gf.le f.rel) λF5 f5 r5 => ?_
        have t4:∀a,U a->F4 a->False:=λa h k=>by
          rcases c4.xz a k with z|z
          · exact t3 a h z
          · exact M.wZ a (M.sub a<|(W.all a).mpr<|.inl h) z
        have ak:Ch T G j L (λa=>U a\/F5 a) R4 H4:=(Ch.P1 (F1:=U) (F:=λa=>U a\/F3 a) #[λ_=>Iff.rfl,t3]<|c4.less f5).big λa h=>h.elim (λz=>(W.all a).mpr<|.inl z) λz=>P a<|f3 a z
        have al:∀a,U a->R4 a:=λa h=>c4.left a (M.sub a<|(W.all a).mpr<|.inl h) λz=>t3 a h z
        refine#[Gf.fg d2,λa=>U a\/F5 a,F5,R4,Ch.trans' s' M.tab ah ak,#[λa h=>h.elim (al a) λz=>f.sub a<|f5 a z,f.wZ,f.tab,f.vI,λh=>h.elim (λz=>M.vy<|(W.all T).mpr<|.inl z) λz=>f.vy<|f5 T z],⟨λ_=>Iff.rfl,λa h k=>t4 a h<|f5 a k⟩,r5,?_,(a1.trans a3).trans a4,q4]
        exact pk p2 (G:=λa=>F3 a\/a=T) (λa h=>h.elim (S3.sub a) λz=>by rw[z];exact M.vI) (λa h z=>z.elim (t3 a h) λz=>M.vy<|(W.all T).mpr<|.inl<|by rw[<- z];exact h) c4.ext
      · refine kr x p' v M1 M2 R4 H4 q4 (Ch.trans s M.tab Z<|c4.big λa h => P a<|f3 a h) #[dp.dp ((a1.trans a3).sub h1) f.rel, f.sub, f.wZ, f.tab, f.vI, f.vy] n4
      · exact ke C y p' F4 R4 H4 q4 (Ch.trans s M.tab Z<|c4.big λa h => P a<|f3 a h) #[dp.dp ((a1.trans a3).sub h1) f.rel, f.sub, f.wZ, f.tab, f.vI, f.vy]
    · have e : i = S.length := by omega
      subst e
      rw[uM]at w1
      exact .inl #[ip.stop p1,kn _ G j N l w1 cc #[pb Q r G j N l p1 r1 (a1.sub h2) W,O.sub,O.wZ,O.tab,O.vI,O.vy]<|a1.sub h1]
  · refine e1a2 (v8 (PO := PO) s') λG g1 g2 => ?_
    exact ke C y _ G R' H' q (c.less g1) g2
end
end WL
namespace L2
open PySem PySem.Spec PyProof.Rows
section
variable{X:Cx}{elt iter tg:iA}{scope:lV}{cl:List (Str×ci)}{T Fr:List Str}{idx:List Nat}{wi:TI}{pos:Pos}{ifs:List iA}
def CV{pins:List (ci×Obj)}{σ:St}{s2:gN}{H2:Hp}{J:It}{fp:List ci}{it:ci}{tn:Nat->iJ->Prop}{E:cr->gN->Prop}{RR:cr->ci->Result->gN->Prop}{P:List V->Hp->Prop}(hcm:X.calm=true)
  (B:yR X scope cl T Fr idx) 
  (I2:Inv X pins σ H2 s2) (Tn:Turn X.prog X.w X.K tg J fp it tn) (st2:tn 0 s2.heap) (f2:∀b∈fp,A8 X pins H2 b)
  (hb:∀s₀ H₀ C ex pn,∃(g:TG)(tt:TT)(te:TE),(PG (Fc X scope cl (T++Fr) s₀ H₀ C ex pn) tg g/\W9 (Fc X scope cl (T++Fr) s₀ H₀ C ex pn) ifs tt/\PE (Fc X scope cl (T++Fr) s₀ H₀ C ex pn) elt te)/\∃W:Nat->Nat->List V->St->Hp->Prop,(∃m,W 0 m [] (xl T idx σ) H2)/\∀i m ys σ' H,W i m ys σ' H->(J.stop i H/\P ys H)\/(J.go i H/\ys.length<gL/\∀x H',J.Ig i H x H'->g x σ' H' λXr H2=>tt Xr H2 λb H3=>if b=true then te Xr H3 λy H4=>∃m',m'<m/\W (i+1) m' (ys++[y]) Xr H4 else ∃m',m'<m/\W (i+1) m' ys Xr H3))
  (hRR:∀(D C:ci)(s':gN)(H':Hp)(ys:List V),H' D=none->P ys H'->Inv X pins σ (upd H' D<|.lst ys) s'->(∃m,s'.heap.Ns C m)->(upd H' D<|.lst ys) C=none->C≠X.env.locals->X.s₀.heap.objs.size<=C->(∀x c,X.env.cells.lookup x=↑c->c≠C)->(∀p∈X.pn++pins,p.1≠C)->RR (.ref D) C (.ok .next) s') :
  gR 19 X.A (newList []) (λacc a11=>gR 19 X.A (newFunctionEnv scope X.env.globals cl [] X.env.qual none .none ↑X.env) (λcenv a12 =>
   mz 19 X.A (.compStart (.ListComp elt [#[tg,iter,ifs,0]] scope pos) 0 (.ref it) acc { cenv with scope:=oN scope X.env}) (RR acc cenv.locals) a12) E a11) E s2:=by
 refine iH<|wpAny_newFunctionEnv B.Bh (by intro y hy;simp at hy) (λh4 ns4 sb4=>?_) B.kind;have hk3:∀b o,s2.heap.get? b=↑o->(s2.heap.push 81).get? b=↑o:=λb o e=>ce _ e;have oD3:(s2.heap.push 81).get? ⇑s2=some 81:=gX _ rfl;have sz3:(s2.heap.push 81).objs.size=⇑s2+1:=jt _ _;generalize s2.heap.push 81=h3 at ns4 sb4 hk3 oD3 sz3 ⊢;have I3:Inv X pins σ H2 { s2 with heap:=h3}:=I2.kept (t':=s2.toks) hk3;have P4:H2 ⇑s2=none:=I2.vL.fresh<|gK _;have Xs:∀b o,h3.get? b=some o->h4.get? b=some o:=λb o e=>sb4.extBut b o (gZ<|gP e)<|ce _ e;have P5:H2 h3.objs.size=none:=I3.vL.fresh<|gK _;have ZG:⇑s2≠h3.objs.size:=by rw[sz3];exact gZ<|ji _
 -- facts about D,C,fp in X
 have fD:A8 X pins H2 ⇑s2:=I2.Gk (gK _) P4;have fC:A8 X pins H2 h3.objs.size:=I3.Gk (gK _) P5
 have IY:∀b∈⇑s2::fp,A8 X pins H2 b/\b≠h3.objs.size:=λb zf=>by
  rcases List.mem_cons.mp zf with e|e
  ·subst e;exact#[fD,ZG]
  ·refine#[f2 b e,?_];obtain⟨o,ho,_⟩:=Tn.obj 0 _ st2 b e;exact gZ<|gP<|hk3 b o ho
 -- the a0V context
 generalize GR:Fc X scope cl (T++Fr) { s2 with heap:=h3} H2 h3.objs.size (⇑s2::fp) (X.pn++pins)=X';obtain⟨g,tt,te,⟨hG,hT,hE⟩,W,w0,turn⟩:=hb { s2 with heap:=h3} H2 h3.objs.size (⇑s2::fp) (X.pn++pins);rw[GR]at hG hT hE
 have ok':X'.Ok:=by
  subst GR
  exact {
   mod:=I3.ok.mod
   kind:=B.kind
   glob:=I3.ok.glob
   blt:=I3.ok.blt
   above:=gK _
   inj:=λx y c e1 e2=>I3.ok.inj x y c (B.sub x c e1)<|B.sub y c e2
   has:=λx h=>B.has h
   Ov:=λx c h=>by cases h
   hd:=I3.ok.hd
   frames:=I3.ok.frames
   Cc:=.inl rfl
   SE:=λb zf=>#[(IY b zf).2,λx c e=>(IY b zf).1.2.2.2.2.1 x c<|B.sub x c e]
   bs:=λb o e=>I3.bs b o e
   Io:=ij I3.ok.Io I3.sz
   C7:=λb o e zf=>by
    rcases(IY b zf).1.2.2.2.1 with z|z
    ·exact I3.ok.C7 b o e z
    ·exact g8 (hR (gP e)<|ij I3.ok.Io z)<|jJ _
   DI:=λb zf hf=>by
    rcases List.mem_cons.mp (I3.DJ b hf) with z|z
    ·exact(IY b zf).1.2.1 z
    ·exact(IY b zf).1.2.2.1 z
   yy:=I3.stack
   JL:=λb zf=>I3.LV b zf}
 have xA:X'.A=X.A:=by subst GR;rfl
 have xp:X'.prog=X.prog:=by subst GR;rfl
 have xw:X'.w=X.w:=by subst GR;rfl
 have xK:X'.K=X.K:=by subst GR;rfl
 have xc:X'.calm=true:=by subst GR;exact hcm
 have xe:X'.env=tm scope cl h3.objs.size X.env:=by subst GR;rfl
 have I4:Inv X' [] (xl T idx σ) H2 { s2 with heap:=h4}:=by
  have hN:X'.N=T++Fr:=by subst GR;rfl
  refine#[ok',by subst GR;rfl,I3.bare,by subst GR;exact Un.kept Xs,?_,?_,by subst GR;exact P5,?_,?_,?_,?_]
  ·obtain⟨m,hn,hl⟩:=I3.loc;refine#[_,by rw[xe];exact ns4,λi x v e1 e2 e3=>?_];rw[hN]at e1;unfold xl at e2;by_cases hi:i<T.length
   ·rw[lN (by rw[gM];exact hi),jy,jp hi]at e2;cases e2
   ·rw[jK q0a]at e1;rw[jK (by rw[gM];lia),gM,jy]at e2;obtain⟨i0,c,q1,q2,q3,q4,q5⟩:=B.fr _ x e1;rw[q1]at e2;have e2':(σ[i0]?).join=↑v:=iT e2
    have a13:σ[i0]?=↑(some v):=by
     cases z:σ[i0]? with
     |none=>rw[z]at e2';cases e2'
     |some y=>rw[z]at e2';have:y=↑v:=e2';rw[this]
    obtain⟨u,r,l⟩:=hl i0 x v q2 a13 (by
     rcases q3 with z|z
     ·exact .inr<|.inl z
     ·exact .inr (.inr z))
    refine#[u,r,?_];rcases l with⟨k,_⟩|⟨k,c',e,z⟩
    ·rcases q3 with y|y<;>(rw[y]at k;cases k)
    ·have:=B.sub x c q4;rw[e]at this;cases this;refine .inr #[by rw[xe];exact q5,_,by rw[xe];exact q4,?_];obtain⟨o,ho,hd⟩:=z;exact#[o,Xs _ _ ho,hd]
  ·intro x c e;rw[xe]at e;obtain⟨v,o,ho,hd⟩:=I3.cell x c<|B.sub x c e;exact#[v,o,Xs _ _ ho,hd]
  ·intro x c e;rw[xe]at e;exact I3.yk x c<|B.sub x c e
  ·intro p hp;have hp':p∈X.pn++pins:=by subst GR;simpa using hp
   obtain⟨a1,a2,a3,a4,a5⟩:=I3.pin p hp';refine#[Xs _ _ a1,a2,?_,?_,a5]
   ·rw[xe];exact gZ<|gP a1
   ·subst GR;intro hf;rcases List.mem_cons.mp (I3.DJ _ hf) with z|z
    ·exact a3 z
    ·exact a4 z
  ·subst GR;exact I3.vL.kept Xs
  ·rw[hN];unfold xl;rw[gW,gW,gM,gM,B.len]
 have oD4:=Xs _ _ oD3;have st4:tn 0 h4:=Tn.keep _ _ _ st2 λb _ o e=>Xs b o<|hk3 b o e
 -- a15 stays true of the Xt objects and of D
 have ZH:∀{H':Hp} {pins':List (ci×Obj)},(∀p∈pins',p.1∉⇑s2::fp)->(∀b∈⇑s2::fp,H' b=none)->∀b∈⇑s2::fp,A8 X' pins' H' b:=by
  intro H' pins' hp hn b zf;subst GR;obtain⟨⟨z1,z2,z3,z4,z5,z6⟩,z7⟩:=IY b zf;refine#[hn b zf,z7,?_,.inl zf,λx c e=>z5 x c<|B.sub x c e,λp hp'=>?_]
  ·intro hf;rcases List.mem_cons.mp (I3.DJ b hf) with z|z
   ·exact z2 z
   ·exact z3 z
  ·rcases List.mem_append.mp hp' with q|q
   ·exact z6 p q
   ·intro e;exact hp p q (by rw[e];exact zf)
 -- the end
 have fin:∀(s5:gN)(Oy:St)(H5:Hp)(ys:List V)(vh:List cr)(nD:Nat),Inv X' [] Oy H5 s5->(∀b∈⇑s2::fp,H5 b=none)->s5.heap.get? ⇑s2=some 70->Vals ys vh->ys.length<=gL->P ys H5->RR (.ref ⇑s2) h3.objs.size (.ok .next) s5:=by
  intro s5 Oy H5 ys vh nD I5 n5 oD5 v5 l5 q5;have D5:=n5 _ gO;have Xu:Un (zj X.stack) (⇑s2::fp) H2 H5 h3 s5.heap:=by have z:=I5.base;subst GR;exact z
  have C5:H5 h3.objs.size=none:=by have z:=I5.free;rw[xe]at z;exact z
  have a16:xR X.prog X.w (upd H5 ⇑s2<|.lst ys) s5.heap:=xR.VU (by have z:=I5.vL;rw[xp,xw]at z;exact z) D5 #[l5,vh,nD,v5,oD5]
  have u5:Un (zj X.stack) (⇑s2::fp) H2 (upd H5 ⇑s2<|.lst ys) h3 s5.heap:=by have ZI:∀b u,H2 b=some u->b≠⇑s2:=λb u e=>u4 e P4;exact#[Xu.keep,Xu.slot,λb o e n hx=>by rw[uR<|λz=>hx<|by rw[z];exact gO];exact Xu.free b o e n hx,Xu.there,λb xs e=>by rw[uR<|ZI b _ e];exact Xu.Bo b xs e,λb o u e=>by rw[uR<|ZI b _ e];exact Xu.A6 b o u e,λb ps e=>by rw[uR<|ZI b _ e];exact Xu.A7 b ps e]
  have os5:s5.os=s2.os:=by have z:=I5.os;subst GR;exact z
  have IX:Inv X pins σ (upd H5 ⇑s2<|.lst ys) s5:=Inv.VB (s:={ s2 with heap:=h3}) I3 os5 u5 a16 I5.bare λb zf=>by obtain⟨⟨z1,z2,z3,z4,z5,z6⟩,z7⟩:=IY b zf;exact#[z4,z2,z5,z6]
  obtain⟨m5,ns5,_⟩:=I5.loc;rw[xe]at ns5;refine hRR ⇑s2 h3.objs.size s5 H5 ys D5 q5 IX #[m5,ns5] (by rw[uR<|Ne.symm ZG];exact C5) fC.2.1 (ij I3.sz<|gK _) fC.2.2.2.2.1 fC.2.2.2.2.2
 obtain⟨m0,w0⟩:=w0
 have loop:mz 19 X.A (.compLoop (.ListComp elt [#[tg,iter,ifs,0]] scope pos) 0 (.ref it) (.ref ⇑s2)<|tm scope cl h3.objs.size X.env) (RR (.ref ⇑s2) h3.objs.size) { s2 with heap:=h4}:=by
  refine Px (λn s5=>∃i ys vh nD Oy H5,Inv X' [] Oy H5 s5/\tn i s5.heap/\(∀b∈⇑s2::fp,H5 b=none)/\s5.heap.get? ⇑s2=some 70/\Vals ys vh/\ys.length<=gL/\W i n ys Oy H5) ?_ m0
   #[0,[],[],0,xl T idx σ,H2,I4,st4,λb zf=>(IY b zf).1.1,oD4,.nil,iN _,w0]
  rintro n s5 ⟨i,ys,vh,nD,Oy,H5,I5,Ox,n5,oD5,v5,l5,w5⟩;have f5:=ZH (pins':=[]) (λp hp=>by cases hp) n5;rcases turn i n ys Oy H5 w5 with⟨stop,q⟩|⟨go,ll,step⟩
  ·have z:=Tn.done X' xp xw xK xc i [] s5 Oy H5 (λ_ _=>False) I5 (λb zf=>f5 b<|gS _ zf) Ox stop;rw[xA]at z
   -- D is not touched by the end
   have z2:=Tn.done X' xp xw xK xc i [(⇑s2,70)] s5 Oy H5 (λ_ _=>False) (I5.zm λp hp=>by
    obtain rfl:=List.mem_singleton.mp hp;have Xv:=f5 _ gO
    exact#[oD5,Xv.1,Xv.2.1,Xv.2.2.1,λv z=>nomatch z]) (λb zf=>by
     obtain⟨a1,a2,a3,a4,a5,a6⟩:=f5 b<|gS _ zf;refine⟨a1,a2,a3,a4,a5,λp hp=>?_⟩;rcases List.mem_append.mp hp with y|y
     ·exact a6 p<|iI _ y
     ·obtain rfl:=List.mem_singleton.mp y;intro e;obtain⟨o,ho,_⟩:=Tn.obj 0 _ st2 b zf
      exact jJ _ (hR (gP ho) (qw (show ⇑s2=b from e)))) Ox stop
   rw[xA]at z2;refine vG z2 λr s6 z9=>e0a2 z9 λhr I6=>?_;subst hr;have p6:=I6.pin _<|hV _<|List.mem_singleton.mpr rfl;exact fin s6 Oy H5 ys vh nD (I6.zm λp hp=>by cases hp) n5 p6.1 v5 l5 q
  ·have Xv:=f5 _ gO
   have I5p:=I5.zm (pins':=[(⇑s2,70)]) λp hp=>by obtain rfl:=List.mem_singleton.mp hp;exact#[oD5,Xv.1,Xv.2.1,Xv.2.2.1,λv z=>nomatch z]
   have fpD:∀b∈fp,b≠⇑s2:=λb zf=>by obtain⟨o,ho,_⟩:=Tn.obj 0 _ st2 b zf;exact gZ<|gP ho
   have fpP:∀{H':Hp},(∀b∈fp,H' b=none)->∀b∈fp,A8 X' [(⇑s2,70)] H' b:=by
    intro H' hn b zf;obtain⟨a1,a2,a3,a4,a5,a6⟩:=f5 b<|gS _ zf;refine⟨hn b zf,a2,a3,a4,a5,λp hp=>?_⟩;rcases List.mem_append.mp hp with y|y
    ·exact a6 p<|iI _ y
    ·obtain rfl:=List.mem_singleton.mp y;exact Ne.symm<|fpD b zf
   have z:=Tn.item X' xp xw xK xc i _ s5 Oy H5 (λ_ _=>False) I5p (fpP λb zf=>n5 b<|gS _ zf) Ox go;rw[xA]at z;refine vG z λr s6 z9=>e1a2 z9 λu hr h6=>?_;subst hr;refine vG h6 λ_ s7 z9=>e2a5 z9 λx H7 I7 r7 y7 st7 n7=>?_;have I7':=I7.pinned (fpP n7)<|Tn.obj _ _ st7;have xx:X'.xe=λ_ _=>False:=by subst GR;rfl
   have zG:=hG _ s7 Oy H7 x u _ I7' r7<|step x H7 y7;rw[xp,xw,xA,xe,xx]at zG;refine vG zG λ_ s8 z9=>e2a2 z9 λXw H8 I8 q8=>?_;have zT:=hT _ s8 Xw H8 _ I8 q8;rw[xp,xw,xA,xe,xx]at zT;refine vG zT λok s9 z9=>e1a2 z9 λH9 I9 q9=>?_
   -- a15 holds behind the turn
   have behind:∀{H':Hp} {s':gN},Inv X' ([(⇑s2,70)]++DN fp s7.heap) Xw H' s'->s'.heap.get? ⇑s2=some 70/\tn (i+1) s'.heap/\∀b∈⇑s2::fp,H' b=none:=by
    intro H' s' I';have pD:=I'.pin _<|hV _<|iI _<|List.mem_singleton.mpr rfl;refine⟨pD.1,Tn.keep _ _ _ st7 λb zf o e=>(I'.pin (b,o)<|hV _<|hV _<|xu zf e).1,λb zf=>?_⟩;rcases List.mem_cons.mp zf with e|e
    ·rw[e];exact pD.2.1
    ·obtain⟨o,e',_⟩:=Tn.obj _ _ st7 b e;exact(I'.pin (b,o)<|hV _<|hV _<|xu e e').2.1
   cases ok with
   |false =>
    rw[gl gV]at q9 ⊢;obtain⟨m',hm,w'⟩:=q9;obtain⟨b1,b2,b3⟩:=behind I9;exact#[m',hm,i+1,ys,vh,nD,Xw,H9,I9.zm (λp hp=>by cases hp),b2,b3,b1,v5,l5,w']
   |true =>
    rw[gI rfl]at q9 ⊢;have zE:=hE _ s9 Xw H9 _ I9 q9;rw[xp,xw,xA,xe,xx]at zE;refine vG zE λy s10 z9=>e2a3 z9 λyv H10 I10 r10 z69=>e1a2 z69 λm' hm w'=>?_;obtain⟨b1,b2,b3⟩:=behind I10;have hlen:=v5.length;refine wpAny_list_append_plain (items:=vh.toArray) #[nD,b1] (λh11 a2a ZJ=>?_) (by rw[gY];lia);obtain⟨ZI,o11⟩:=a2a;have a2b:Inv X' [] Xw H10 s10:=I10.zm λp hp=>by cases hp
    obtain⟨a1,a2,a3,a4,a5,a6⟩:=ZH (pins':=[]) (λp hp=>by cases hp) b3 _ gO;have I11:Inv X' [] Xw H10 { s10 with heap:=h11}:=a2b.turned (t':=s10.toks) (λb o zf e=>(ZJ.2 b zf).trans e) a1 a2 a4 a5 a6;refine#[m',hm,i+1,ys++[yv],vh++[y],ZI,Xw,H10,I11,Tn.keep _ _ _ b2 λb zf o e=>(ZJ.2 b<|fpD b zf).trans e,b3,by simpa using o11,v5.append<|.cons r10 .nil,by rw[gW,hW];lia,w']
 exact codeAny_compStart_list loop<|Tn.self _ 0 _ _ _ st4 loop
def Xx(X:Cx)(elt tg:iA)(ifs:List iA)(scope:lV)(cl:List (Str×ci))(T Fr:List Str)(idx:List Nat)(wi:TI):TE:=λl H Q=>wi l H λJ s=>∀a c C j k,∃(g:TG)(n:TT)(o:TE),(PG (Fc X scope cl (T++Fr) a c C j k) tg g/\W9 (Fc X scope cl (T++Fr) a c C j k) ifs n/\PE (Fc X scope cl (T++Fr) a c C j k) elt o)/\∃W:Nat->Nat->List V->St->Hp->Prop,(∃m,W 0 m [] (xl T idx l) s)/\∀i m e f H,W i m e f H ->
 (J.stop i H/\∀p,H p=none->Q (.ref p) (upd H p<|.lst e))\/(J.go i H/\e.length<gL/\∀x q,J.Ig i H x q->g x f q λd t=>n d t λb r=>if b=true then o d r λy u=>∃h,h<m/\W (i+1) h (e++[y]) d u else ∃h,h<m/\W (i+1) h e d r)
def P6(c:X.calm=true)(k:PI X tg iter wi)(B:yR X scope cl T Fr idx) 
 (l:∀x,j7 iter X.env x=pure x:=by intro _;rfl):PE X (.ListComp elt [#[tg,iter,ifs,0]] scope pos) (Xx X elt tg ifs scope cl T Fr idx wi):=by
  intro a s i H Q I h
  rw[eval_ListComp]
  refine oW (use:=none) rfl l B.Zy B.kind B.names<|vG (k a s i H _ I h) λv Y n=>vG n λr Z t=>?_
  obtain⟨it,fp,tn,J,H2,e,u,y,d,z,E⟩:=t
  subst e
  refine CV (RR:=λf C=>compPost 19 X.A X.xe none (EP X a i Q) f C) (P:=λj H=>∀p,H p=none->Q (.ref p) (upd H p<|.lst j)) c B u y d z E ?_
  intro D C F H' j G q L ⟨m,M⟩ N O R S U
  exact#[m,M,λh' W=>#[.ref D,_,L.turned (t':=F.toks) (λb o g e=>(W.2 b g).trans e) N O (.inr R) S U,rfl,q D G]]
def TM(X:Cx)(elt tg:iA)(ifs:List iA)(scope:lV)(cl:List (Str×ci))(T Fr:List Str)(idx:List Nat)(wi:TI)(j:Nat):TS:=λD k H=>wi k H λJ t=>∀a c C l n,∃(g:TG)(o:TT)(q:TE),(PG (Fc X scope cl (T++Fr) a c C l n) tg g/\W9 (Fc X scope cl (T++Fr) a c C l n) ifs o/\PE (Fc X scope cl (T++Fr) a c C l n) elt q)/\∃W:Nat->Nat->List V->St->Hp->Prop,(∃m,W 0 m [] (xl T idx k) t)/\∀i m e f H,W i m e f H ->
 (J.stop i H/\∀p,H p=none->D.nx (k.set j<|some<|.ref p) (upd H p<|.lst e))\/(J.go i H/\e.length<gL/\∀x r,J.Ig i H x r->g x f r λd u=>o d u λb s=>if b=true then q d s λy v=>∃h,h<m/\W (i+1) h (e++[y]) d v else ∃h,h<m/\W (i+1) h e d s)
set_option tactic.hygienic true in
def P7{j:Nat}{d:Pos}(O:X.N.Nodup)(R:X.N[j]?=↑y)(u:X.env.scope.names.lookup y=some .local)(g:jx (.ListComp elt [#[tg,iter,ifs,0]] scope pos) (some<|.Name y py) d.line X.env=pure true)
 (i:X.calm=true) (S:PI X tg iter wi) (B:yR X scope cl T Fr idx) 
 (U:∀x,j7 iter X.env x=pure x:=by intro _;rfl):PS X (.Assign [.Name y py] (.ListComp elt [#[tg,iter,ifs,0]] scope pos) d) (TM X elt tg ifs scope cl T Fr idx wi j):=by
  intro c s E H D I h
  rw[exec_Assign_Name_used _ _ _ _ g]
  refine am<|nj<|am ?_
  refine am<|vG (oW (use:=some<|sL (.Name y py) X.env) (Q:=λ_ f=>SP X c D .next f) rfl U B.Zy B.kind B.names<|vG (S c s E H _ I h) λv s1 W=>vG W λY s2 Z=>?_) λ_ f hq=>ap<|ap hq
  obtain⟨it,fp,tn,J,H2,e,I2,Tn,k,f2,hb⟩:=Z
  subst e
  refine CV (RR:=λl C=>compPost 19 X.A X.xe (some<|sL (.Name y py) X.env) (λ_ f=>SP X c D .next f) l C) (P:=λF H=>∀p,H p=none->D.nx (E.set j<|some<|.ref p) (upd H p<|.lst F)) i B I2 Tn k f2 hb ?_
  intro G C f H' F hD q IX ⟨m,ns⟩ hC L c2 M c4
  refine wpAny_assign_Name<|FE IX O R (.inl u) (v:=.ref G) rfl (λs3 I3 z9=>e1a2 z9 λa n ha=>?_)<|.inr u
  have r:C≠a:=by
    rcases ha with z|z
    · rw[z]; exact L
    · exact Ne.symm<|M _ _ z
  exact#[m,ns.sameBut n r,λh' sb=>#[_,_,I3.turned (t':=s3.toks) (λb o t e=>(sb.2 b t).trans e) hC L (.inr c2) M c4,q G hD]]
end
end L2
namespace WL
variable[L2.GX]
open PySem L2
open Rep (rp)
open Ow (sl)
open Sls (rel)
class Pre(k:Nat)(S:Type)[Sls S](Db:outParam Type)[Sls Db] where
 pre:S->Db
 suf:Db->S
 ok:∀{F R:Rg} {H:Hp} {s:S} {σ:St} (τ:St),τ.length=k->rel F R H s σ->rel F R H (pre s) (τ++σ)
 un:∀{F R:Rg} {H:Hp} {d:Db} {σ:St},rel F R H d σ->rel F R H (suf d) (σ.drop k)
 eta:∀d,pre (suf d)=d
 ZK:∀s,suf (pre s)=s
noncomputable instance pre0{S:Type}[Sls S]:Pre 0 S S:=#[id,id,λτ h r=>by rw[List.length_eq_zero_iff.mp h];exact r,λr=>r,λ_=>rfl,λ_=>rfl]
noncomputable instance preS{k:Nat}{S Db:Type}[Sls S][Sls Db][A:Pre k S Db]:Pre (k+1) S (Un×Db):=#[λs=>(#[],A.pre s),λd=>A.suf d.2,λ{F R H s σ} τ h r=>by
  cases τ with
  |nil=>cases h
  |cons v τ'=>exact#[v,τ'++σ,λ_=>False,F,rfl,two_nil F,λ_ z=>z,A.ok τ' (by simpa using h) r],
 λ{F R H d σ} r=>by
  obtain⟨v,σ',F1,F2,rfl,h2,h3,h4⟩:=r
  exact A.un<|Sls.fq h4<|two_eq h2 h3,
 λd=>by
  obtain⟨⟨⟩,d⟩:=d
  rw[A.eta],
 λs=>A.ZK s]
def BL{α γ S:Type}(b:α->S->(Option γ->S->Prop)->Prop):List α->S->(List γ->S->Prop)->Prop
 | [],s,K=>K [] s
 |x::xs,s,K=>b x s λo s'=>BL b xs s' λys SO=>K (o.toList++ys) SO
def ZL(X:Cx)(T:ci)(a:List iA){D:Type}[Sls D](w:Wf D Bool D):Prop :=
 ∃t,W9 X a t/\∀(d:D)(F R:Rg)(b:St)(H:Hp)(e:Bool->D->Prop)(Q:Bool->Hp->Prop),vS T F R H d b->w d e (λ_ _=>False) ->
  (∀x f g h c,e x f->Ch T F R H g h c->vS T g h c f b->Q x c)->t b H Q
abbrev XF:XK:=λ_ _ _=>False
def tws_nil[Sls D]:ZL X T [] (λ(d:D) a _=>a true d):=#[_,Tl,λd F R e H a Q s b c=>c true d F R H b 53 s]
def tws_one{D:Type}[Sls D]{w:Wf D Bool D}(h:TW X XF T c w):ZL X T [c] w:=e1a2 h λt a b=> #[t,To a,λd F R e H f Q s g i=>b d F R e H f _ Q s g i λ_ _ _ _ _ _ z=>z.elim]
section
variable{D B S B0 Db D1 PO τ α γ:Type}[Sls D][Sls B][Sls S][Sls B0][Sls Db][Sls D1][Sls PO][Ow τ][Rep α][Rep γ]
abbrev stepC(P:Pre k S Db)(a:Fg D1 Db)(g:Db->α->D1)(c:Wf D1 Bool D1)(d:Wf D1 γ D1):α->S->(Option γ->S->Prop)->Prop :=
 λx s K=>c (g (P.pre s) x) (λt b=>if t=true then d b (λy e=>K ↑y<|P.suf<|a.fg e) (λ_ _=>False) else K none (P.suf<|a.fg b)) λ_ _=>False
def FY[P:Pre k S Db][Gf:Fg D1 Db]{g:Db->α->D1}{wt:Wf D1 Bool D1}{we:Wf D1 γ D1}{J:It}{Ps:Rg->Hp->Prop}{L:List α}{F1 Fs Z:Rg}{Q:Hp}{σ:St}{s0:S}{K:List γ->S->Prop}{ag:List V->Hp->Prop}
  (hk:R.length=k) (ao:∀i,k<=i->i<k+idx.length->i∈mb)
  (hG:∀d f C I M,GW (Fc X n cl (R++Fr) d f C I M) T mb tg g) (hT:∀d f C I M,ZL (Fc X n cl (R++Fr) d f C I M) T aq wt) (hE:∀d f C I M,EW (Fc X n cl (R++Fr) d f C I M) XF T ar we)
  (hz:L.length<=gL) (ip:YL J L Ps) (ps:Ps Z Q) (pk:∀{G Ra Rb:Rg} {Ha Hb:Hp},Ps Ra Ha->(∀a,G a->Ra a)->(∀a,F1 a->¬G a)->Ext G Ra Ha Rb Hb->Ps Rb Hb)
  (s':Std T Fs Z Q) (U:∀a,F1 a->Z a/\¬Fs a/\a≠T) (au:rel Fs Z Q s0 (idx.map λi=>σ[i]?.join)) (hw:BL (stepC P Gf g wt we) L s0 K)
  (av:∀E N F l r O,K E N->Ch T Fs Z Q F l r->Std T F l r->rel F l r N (idx.map λi=>σ[i]?.join)->Ps l r->Paired (rp l r) E O->ag O r) :
  ∀d f C I M,∃(g:TG)(tt:TT)(te:TE),(PG (Fc X n cl (R++Fr) d f C I M) tg g/\W9 (Fc X n cl (R++Fr) d f C I M) aq tt/\PE (Fc X n cl (R++Fr) d f C I M) ar te)/\∃W:Nat->Nat->List V->St->Hp->Prop,(∃m,W 0 m [] (xl R idx σ) Q)/\∀i m O ah H,W i m O ah H ->
   (J.stop i H/\ag O H)\/(J.go i H/\O.length<gL/\∀x Q,J.Ig i H x Q->g x ah Q λs Y=>tt s Y λb H3=>if b=true then te s H3 λy H4=>∃m',m'<m/\W (i+1) m' (O++[y]) s H4 else ∃m',m'<m/\W (i+1) m' O s H3):=by
 intro d f C I M;refine e1a2 (hG d f C I M) λaw g1 g2=>?_;refine e1a2 (hT d f C I M) λtt t1 t2=>?_;refine e1a2 (hE d f C I M) λte e1 e2=>?_;have aE:(xl R idx σ).length=k+idx.length:=by unfold xl;rw[gW,gM,gM,hk]
 have aa:∀{w:St},Ag mb (xl R idx σ) w->w.drop k=idx.map λi=>σ[i]?.join:=λ{w} a=>by
  apply qp;intro j;rw[t9];by_cases hj:j<idx.length
  ·rw[a.2 (k+j)<|ao _ q0a q0a];unfold xl;rw[jK (by rw[gM,hk];lia),gM,hk,Nat.add_sub_cancel_left]
  ·rw[ku (by have:=a.1;lia),ku<|by rw[gM];lia]
 refine#[aw,tt,te,#[g1,t1,e1],λi m O w r=>m=L.length-i/\i<=L.length/\∃N F l E,Ch T Fs Z Q F l r/\Std T F l r/\rel F l r (P.pre N) w/\Ps l r/\Ag mb (xl R idx σ) w/\Paired (rp l r) E O/\E.length<=i/\BL (stepC P Gf g wt we) (L.drop i) N (λws s'=>K (E++ws) s'),
  #[_,rfl,iN _,s0,Fs,Z,[],Ch.refl _ _ _ _,s',P.ok _ (by rw[gM,hk]) au,ps,Ag.refl _ _,.nil,iN _,by simpa using hw],?_]
 rintro i m O w r ⟨rfl,hi,N,F,l,E,c1,A,r1,p1,a1,pz,lz,w1⟩;have aG:=Paired.length pz;by_cases ab:i<L.length
 ·refine .inr #[ip.go p1 ab,q0a,λx Y y=>?_];obtain⟨hH,x',ax,rx⟩:=ip.Ig p1 A.wZ ab y;have ay:∀{G l:Rg} {r:Hp},Ch T Fs Z Q G l r->∀a,F1 a->l a/\¬G a:=λc a h=>#[c.left a (U a h).1 (U a h).2.1,λz=>(c.xz a z).elim (U a h).2.1 λq=>s'.wZ a (U a h).1 q]
  have az:Ch T F l r F l Y/\Std T F l Y/\rel F l Y (P.pre N) w/\Ps l Y/\Paired (rp l Y) E O:=by
   rcases hH with e|⟨p,o,hp,e⟩
   ·subst e;exact#[Ch.refl _ _ _ _,A,r1,p1,pz]
   ·subst e;have kk:∀b u,r b=↑u->upd r p o b=↑u:=λb u e=>by rw[uR<|u4 e hp];exact e
    have I:Ext (λ_=>False) l r l (upd r p o):=#[λb u _ e=>kk b u e,λa h=>.inl h];refine#[#[λb u _ _ e=>kk b u e,λa h=>.inl h,λa h=>.inl h,λa h _=>h],#[A.sub,λa z=>?_,?_,A.vI,A.vy],Sls.st r1 I (λ_ z=>z.elim)<|λ_ _ z=>z,pk p1 (λ_ z=>z.elim) (λ_ _ z=>z) I,v7 (I.wide λ_ z=>z.elim) pz]
    ·cases e:r a with
     |none=>exact g8 e<|A.wZ a z
     |some u=>rw[kk a u e];simp
    ·refine e1a2 A.tab λqs e t=>?_;exact#[qs,kk _ _ e,t]
  obtain⟨c2,S2,r2,p2,ai⟩:=az;have aA:=Ch.trans' s' A.tab c1 c2;rw[drop_cons ax]at w1;refine g2 (P.pre N) F l w Y x' x _ (S2.stt r2) rx λF3 s f3 S3 a3=>?_;have c3:Ch T Fs Z Q F3 l Y:=aA.less f3
  -- aH the block aF on af an item
  have on:∀{d2:D1} {F5 R5:Rg} {H5:Hp} {o:Option γ} {ae:List V},BL (stepC P Gf g wt we) (L.drop<|i+1) (P.suf<|Gf.fg d2) (λws s'=>K (E++(o.toList++ws)) s')->Ch T F3 l Y F5 R5 H5->vS T F5 R5 H5 d2 s->Paired (rp R5 H5) (E++o.toList) ae->(E++o.toList).length<=i+1 ->
    ∃m',m'<L.length-i/\m'=L.length-(i+1)/\i+1<=L.length/\∃N F l E,Ch T Fs Z Q F l H5/\Std T F l H5/\rel F l H5 (P.pre N) s/\Ps l H5/\Ag mb (xl R idx σ) s/\Paired (rp l H5) E ae/\E.length<=i+1/\BL (stepC P Gf g wt we) (L.drop<|i+1) N (λws s'=>K (E++ws) s'):=λ{d2 F5 R5 H5 o ae} hw c5 S5 aB aC=>by
   refine e1a2 (Gf.le S5.rel) λF6 f6 r6=>?_;have aD:=Ch.trans' s' S2.tab c3 c5;refine#[L.length-(i+1),q0a,rfl,ab,P.suf<|Gf.fg d2,F6,R5,E++o.toList,aD.less f6,⟨λa h=>S5.sub a<|f6 a h,S5.wZ,S5.tab,S5.vI,λh=>S5.vy<|f6 T h⟩,by rw[P.eta];exact r6,?_,a1.trans a3,aB,aC,?_]
   ·refine pk p2 (G:=λa=>F3 a\/a=T) (λa h=>h.elim (S3.sub a) λz=>by rw[z];exact S2.vI) (λa h z=>?_) c5.ext;rcases z with z|z
    ·exact(ay c3 a h).2 z
    ·exact(U a h).2.2 z
   ·simp only[oa];exact hw
  refine t2 _ F3 l s Y _ _ S3 w1 λb d1 F4 R4 H4 q4 c4 S4=>?_
  cases b with
  |false =>
   rw[gl gV];exact on (o:=none) q4 c4 S4 (by simpa using S3.vals c4 ai) (by simp;lia)
  |true =>
   rw[gI rfl];refine e2 _ F4 R4 s H4 _ _ _ S4 q4 (λy d2 v F5 R5 H5 q5 c5 S5 r5=>?_) λ_ _ _ _ _ _ z=>z.elim;have aj:=Ch.trans S3 S4.tab c4 c5;exact on (o:=↑y) q5 aj S5 (xQ (S3.vals aj ai)<|.cons r5 .nil) (by simp;lia)
 ·have e:i=L.length:=by lia
  subst e;rw[uM]at w1;have ak:K (E++[]) N:=w1;rw[kX]at ak;have al:=P.un r1;rw[aa a1,P.ZK]at al;refine .inl #[ip.stop p1,av E N F l r O ak c1 A al p1 pz]
def Eh[Se:Sel idx B S B0]{back:B->List α->D}{xs:List α}{Ps:Rg->Hp->Prop}(s':Std T F' R' H')(tw:Dd F' F1 F2)(hr:rel F2 R' H' b σ)
 (pb:∀b' G2 V0 JM PV σ',Ps JM PV->rel G2 JM PV b' σ'->Ag is σ σ'->Dd V0 F1 G2->rel V0 JM PV (back b' xs) σ') :
    ∃Fs,Std T Fs R' H'/\(∀a,F1 a->R' a/\¬Fs a/\a≠T)/\rel Fs R' H' (Se.sel b) (idx.map λi=>σ[i]?.join) /\
      ∀{s1:S} {Gs R1:Rg} {H1:Hp},Ch T Fs R' H' Gs R1 H1->Std T Gs R1 H1->rel Gs R1 H1 s1 (idx.map λi=>σ[i]?.join)->Ps R1 H1->∃G,Ch T F' R' H' G R1 H1/\vS T G R1 H1 (back (Se.mrg (Se.rest b) s1) xs) σ:=by
  refine e2a4 (Se.cut hr) λFs F0 t0 h1 h2 hl=>?_
  have iS:∀a,Fs a->F' a:=λa h=>(tw.all a).mpr<|.inr<|(t0.all a).mpr<|.inl h
  have i0:∀a,F0 a->F' a:=λa h=>(tw.all a).mpr<|.inr<|(t0.all a).mpr<|.inr h
  have i1:∀a,F1 a->F' a:=λa h=>(tw.all a).mpr<|.inl h
  have d1S:∀a,F1 a->Fs a->False:=λa h k=>tw.ye a h<|(t0.all a).mpr<|.inl k
  have d10:∀a,F1 a->F0 a->False:=λa h k=>tw.ye a h<|(t0.all a).mpr<|.inr k
  refine#[Fs,#[λa h=>s'.sub a<|iS a h,s'.wZ,s'.tab,s'.vI,λh=>s'.vy<|iS T h],λa h=>#[s'.sub a<|i1 a h,d1S a h,λz=>s'.vy<|by rw[<- z];exact i1 a h],h1,λ{s1 Gs R1 H1} c S1 r1 p1=>?_]
  have f0:rel F0 R1 H1 (Se.rest b) σ:=Sls.st h2 c.ext (λa h=>h.elim (λz=>s'.sub a<|iS a z) λz=>by rw[z];exact s'.vI) λa h z=>z.elim (λq=>t0.ye a q h) λq=>s'.vy (by rw[<- q];exact i0 a h)
  have nG:∀a,Gs a->F1 a\/F0 a->False:=λa g f=>by
    rcases c.xz a g with q|q
    · exact f.elim (λz => d1S a z q) λz => t0.ye a q z
    · exact s'.wZ a (s'.sub a<|f.elim (i1 a)<|i0 a) q
  have out:∀a,F1 a\/F0 a->R1 a:=λa f=>c.left a (s'.sub a<|f.elim (i1 a)<|i0 a) λz=>f.elim (λq=>d1S a q z) λq=>t0.ye a z q
  refine#[λa=>F1 a\/Gs a\/F0 a,#[λb o n m h=>c.keep b o (λz=>n<|iS b z) m h,c.zP,λa h=>h.elim (λz=>.inl<|i1 a z) λz=>z.elim (λq=>(c.xz a q).elim (λz=>.inl<|iS a z) .inr) λq=>.inl<|i0 a q,λa h n=>c.left a h λz=>n<|iS a z],pb _ (λa=>Gs a\/F0 a) _ R1 H1 σ p1 (Se.join #[λ_=>Iff.rfl,λa m f=>nG a m<|.inr f] r1 f0 hl) (Ag.refl _ _) ⟨λ_=>Iff.rfl,λa h z=>z.elim (λq=>nG a q<|.inl h) λq=>d10 a h q⟩,λa h=>h.elim (λz=>out a<|.inl z) λz=>z.elim (S1.sub a) λq=>out a<|.inr q,S1.wZ,S1.tab,S1.vI,λh=>h.elim (λz=>s'.vy<|i1 T z) λz=>z.elim S1.vy λq=>s'.vy<|i0 T q]
def wB[P:Pre k S Db][N:Fg D1 Db][m:Sel idx B S B0]{h:B->List α->D}{v:D->(List α->B->Prop)->58->Prop}{g:Db->α->D1}{w:Wf D1 Bool D1}{y:Wf D1 γ D1}
 (o:X.calm=true) (O:IW X E T is z iter h v) (U:yR X a cl Ts Fr idx) (W:Ts.length=k) (r:∀i,k<=i->i<k+idx.length->i∈mb)
 (Y:∀e f C j l,GW (Fc X a cl (Ts++Fr) e f C j l) T mb z g) (Z:∀e f C j l,ZL (Fc X a cl (Ts++Fr) e f C j l) T t w) (hE:∀e f C j l,EW (Fc X a cl (Ts++Fr) e f C j l) XF T u y)
 (hs:∀x,j7 iter X.env x=pure x:=by intro _;rfl) :
    EO X E T (.ListComp u [#[z,iter,t,0]] a pos) (cK v λ(A:OL γ->D->Prop) n b=>n.length<=gL/\BL (stepC P N g w y) n (m.sel b) λI J=>A #[I]<|h (m.mrg (m.rest b) J) n):=by
  refine e1a2 O λti i1 i2=>?_
  refine#[_,P6 o i1 U hs,λd F R σ H A Ke Q s hw kn ke=>?_]
  refine i2 d F R σ H _ _ _ s hw (λn b Jt Ps F' F1 F2 R' H' q c L tw hr ip ps pk pb=>?_) ke
  refine e1a4 (Eh (idx:=idx) (Se:=m) L tw hr pb) λFs S0 n0 r0 on=>?_
  refine FY W r Y Z hE q.1 ip ps pk S0 n0 r0 q.2 λzs J Gs R1 H1 I kz c1 S1 r1 p1 pz p hp=>?_
  refine e1a2 (on c1 S1 r1 p1) λG c2 M=>?_
  refine e1a3 (xB M hp pz) λR2 c3 S3 n3=>?_
  exact kn _ _ _ _ G R2 _ kz (Ch.trans s M.tab (Ch.trans s L.tab c c2) c3) S3 n3
def BM[P:Pre k S Db][Gf:Fg D1 Db][v:Sel idx B S B0](j:Nat){m I J:Type}[Ow m][Sls I][Sls J][A:At j D m I][U:Pt j I (OL γ) J][Jp:Pj D PO n]{h:Pos}{l:B->List α->D}{W:D->(List α->B->Prop)->58->Prop}{g:Db->α->D1}{Y:Wf D1 Bool D1}{Z:Wf D1 γ D1}
 (hN:X.N.Nodup) (hj:X.N[j]?=↑y) (hy:X.env.scope.names.lookup y=some .local) (L:jx (.ListComp o [#[M,iter,r,0]] a pos) (some<|.Name y py) h.line X.env=pure true) (hm:j∉ms)
 (O:X.calm=true) (hi:IW X E T is M iter l W) (Bs:yR X a cl Ts Fr idx) (hk:Ts.length=k) (Q:∀i,k<=i->i<k+idx.length->i∈mb)
 (hG:∀e f C t u,GW (Fc X a cl (Ts++Fr) e f C t u) T mb M g) (hT:∀e f C t u,ZL (Fc X a cl (Ts++Fr) e f C t u) T r Y) (hE:∀e f C t u,EW (Fc X a cl (Ts++Fr) e f C t u) XF T o Z)
 (hs:∀x,j7 iter X.env x=pure x:=by intro _;rfl) :
    S1 X E T ms n (.Assign [.Name y py] (.ListComp o [#[M,iter,r,0]] a pos) h) (cS W Jp.pj λ(Kn:J->Prop)(Kr:τ->PO->Prop) w b=>w.length<=gL/\BL (stepC P Gf g Y Z) w (v.sel b) λys s1=>Kn<|U.put (A.hole<|l (v.mrg (v.rest b) s1) w) #[ys]):=by
  refine e1a2 hi λti i1 i2=>?_
  refine#[_,P7 hN hj hy L O i1 Bs hs,λd F R σ H Kn Kr Ke En s hw kn kr ke=>?_]
  refine i2 d F R σ H _ _ _ s hw (λw b Jt Ps F' F1 F2 R' H' q c z tw hr ip ps pk pb=>?_) λC y d' F' R' H' q c z=>?_
  · refine e1a4 (Eh (idx := idx) (Se := v) z tw hr pb) λFs S0 n0 r0 on => ?_
    refine FY hk Q hG hT hE q.1 ip ps pk S0 n0 r0 q.2 λzs s1 Gs R1 H1 ys kz c1 S1 r1 p1 pz p hp=>?_
    refine e1a2 (on c1 S1 r1 p1) λG c2 S2=>?_
    refine e1a3 (xB S2 hp pz) λR2 c3 S3 n3=>?_
    refine e1a2 (D9 (i:=j) S3 n3) λG2 g2 S4=>?_
    exact kn _ G2 R2 _ _ kz ((Ch.trans s S2.tab (Ch.trans s z.tab c c2) c3).less g2) S4<|Ag.set hm
  · refine e1a2 (v8 (PO := PO) z) λG g1 g2 => ?_
    exact ke C y _ G R' H' q (c.less g1) g2
end
def Kp(g:ci)(H a:Hp):Prop:=∀b o,b≠g->H b=↑o->a b=↑o
def Kp.refl(g:ci)(H:Hp):Kp g H H:=λ_ _ _ h=>h
def Kp.trans{d e:Hp}(a:Kp g H d)(b:Kp g d e):Kp g H e:=λc o n h=>b c o n<|a c o n h
def Kp.at:Kp g H (upd H g o):=λb u n e=>by rw[uR n];exact e
def Aj(h:H p=none):C9 H (upd H p o):=λb u e=>by rw[uR<|u4 e h];exact e
noncomputable def Fq(q:ci)(i z s:Int):List V:=[.ref q,.int i,.int z,.int s]
structure CW(H:Hp)(g q:ci)(ns:List Int)(i z s:Int):Prop where
 ob:H g=↑(.lst<|Fq q i z s)
 sc:H q=↑(.lst<|ns.map V.int)
 i0:0<=i
 ne:q≠g
def CW.put{i z s:Int}(B:CW H g q b i z s){a z':Int}(h:0<=a):CW (upd H g<|.lst<|Fq q a z' s) g q b a z' s:=#[uT,by rw[uR B.ne];exact B.sc,h,B.ne]
def Xy(q:ci)(i z s:Int):Ff (Fq q i z s) 0=↑(.ref q):=rfl
def P8(q:ci)(i z s:Int):Ff (Fq q i z s) 1=↑(.int i):=rfl
def P9(q:ci)(i z s:Int):Ff (Fq q i z s) 2=↑(.int z):=rfl
def a2d(q:ci)(i z s:Int):Ff (Fq q i z s) 3=↑(.int s):=rfl
def ZM(x:Int):-(2 ^ 64)<x%2147483647/\x%2147483647<2 ^ 64:=by lia
def TN{ns:List Int}{i:Int}(b:0<=i)(c:i<(ns.length:Int)):∃n,Ff (ns.map V.int) i=↑(.int n):=by
 have a:i.toNat<ns.length:=by omega
 have e:(ns.map V.int)[i.toNat]?=↑(.int ns[i.toNat]):=by rw[jy,jp a];rfl
 have:=Mb e;rw[show ((i.toNat:Nat):Int)=i by omega]at this;exact#[_,this]
structure Bg where
instance:Ow Bg:=#[λF _ H _ v=>∃g q ns i z s,v=↑(.ref g)/\(∀b,F b↔b=g\/b=q)/\CW H g q ns i z s,
 λ{F G R H R' H' x v} h e s n=>by
  obtain⟨g,q,ns,i,z,s',h1,h2,h3⟩:=h
  exact#[g,q,ns,i,z,s',h1,h2,#[e.keep g _ (n g<|(h2 g).mpr<|.inl rfl) h3.ob,e.keep q _ (n q<|(h2 q).mpr<|.inr rfl) h3.sc,h3.i0,h3.ne]],
 λh e=>by
  obtain⟨g,q,ns,i,z,s',h1,h2,h3⟩:=h
  exact#[g,q,ns,i,z,s',h1,λb=>(e b).symm.trans (h2 b),h3]]
instance:Hs Bg:=#[λz9=>e6a2 z9 λ_ _ _ _ _ _ h _=>#[_,h]]
instance:TH Bg:=#[λh _=>h]
def Qa:Sp:=λd H Q _=>∃(g q:ci)(c:List Int)(i z s a:Int),d=[.ref g,.int a]/\CW H g q c i z s/\0<a/\a<1073741824 /\
 ∀b e f r,Kp g H b->CW b g q c e f s->0<=r->r<a->Q (.int r) b
abbrev V2:Bg×Int×Unit->(Int->Bg×Un×Unit->Prop)->(ci->Bg×Un×Unit->Prop)->Prop:=λp a _=>0<p.2.1/\p.2.1<1073741824/\∀r,0<=r->r<p.2.1->a r (#[],#[],())
def V3{K:gH}{k:Nat}(F:vB P w K b base Pf k f c d g):vB P w K b base (vJ P w) k f c d g :=
 #[F.len,λA a s H args i j Q E l m n o p=>jN (F.run A a s H args i j Q E l m n o p) λr t h=>by
  cases r with
  |error e=>exact iv h
  |ok q =>
   cases q with
   |ret u=>exact h
   |next=>exact iv h
   |brk=>exact iv h
   |cont=>exact iv h]
def a2e:∀{c:List V},List.map some c=[↑a,↑b]->c=[a,b]:=by
 intro c e
 cases c with
 |nil=>cases e
 |cons p r=>cases r with
  |nil=>cases e
  |cons q s=>cases s with
   |nil=>cases e;rfl
   |cons _ _=>cases e
def Xz{K:gH}{k:Nat}(F:vB P w K I base Pf k f J c Qa):vB P w K I base (vJ P w) k f J c (yn T V2):=by
 refine(V3 F).imp λL H Q E h=>?_;obtain⟨m,R,p,Kn,Ke,s,⟨M,N,O⟩,S,_⟩:=h;obtain⟨v1,U,X,Y,Z,v,⟨g,q,x,i,z,y,rfl,A,hb⟩,d⟩:=s.rel;obtain⟨v2,aa,F3,F4,e2,t2,⟨n3,u,rfl,r2⟩,e3,n4⟩:=d;subst r2;subst e2 e3
 have ev:L=[.ref g,.int p.2.1]:=by exact a2e Z
 subst ev;have B:m g:=(v.all g).mpr<|.inl<|(A g).mpr<|.inl rfl;have gT:g≠T:=λe=>s.vy (by rw[<- e];exact B);refine#[g,q,x,i,z,y,p.2.1,rfl,hb,M,N,λC i' z' r j D r0 d=>?_]
 have l:∀a,R a->C a≠none:=λa h=>by
  by_cases e:a=g
  ·rw[e,D.ob];simp
  ·cases G:H a with
   |none=>exact g8 G<|s.wZ a h
   |some o=>rw[j a o e G];simp
 refine S r (#[],#[],()) _ (λ_=>False) m R C (O r r0 d) #[λb o n _ h=>j b o (λe=>n<|by rw[e];exact B) h,λ_ h=>.inl h,λa h=>h.elim (λz=>z.elim) .inl,λ_ h _=>h]
  #[#[_,_,X,Y,rfl,v,#[g,q,x,i',z',y,rfl,A,D],_,_,F3,F4,rfl,t2,n3,rfl,n4],s.sub,l,?_,s.vI,s.vy] #[#[λ_ z=>z,_,rfl,rfl],λ_ z=>z.elim,λ_ z=>z.elim,λz=>z]
 refine e1a2 s.tab λc e t=>?_;exact#[c,j T _ (λe=>gT e.symm) e,t]
structure Fn(K:gH)(mg:Str->Option cr)(x:Str)(st:ic)(ps:List Str)(f:ci)(fd:iE):Prop where
 fn:yX K x x st f fd
 at_:mg x=↑(.ref f)
 bd:Binds K fd ps []
def Ct{g:Prop}(h:∀G:Prop,(g->G)->G):g:=h g id
def a2f{a b c d:Type}{P:a×b×c×d->Prop}(h:∀e f g i,P (e,f,g,i)):∀x,P x:=λx=>h x.1 x.2.1 x.2.2.1 x.2.2.2
def a3T{a b c d e f:Type}{P:a×b×c×d×e×f->Prop}(h:∀g i j k l m,P (g,i,j,k,l,m)):∀x,P x:=λx=>h x.1 x.2.1 x.2.2.1 x.2.2.2.1 x.2.2.2.2.1 x.2.2.2.2.2
def a2g{a b c d e:Type}{P:a×b×c×d×e->Prop}(h:∀f g i j k,P (f,g,i,j,k)):∀x,P x:=λx=>h x.1 x.2.1 x.2.2.1 x.2.2.2.1 x.2.2.2.2
def ZN{a b c d e f g:Type}{P:a×b×c×d×e×f×g->Prop}(h:∀i j k l m n o,P (i,j,k,l,m,n,o)):∀x,P x:=λx=>h x.1 x.2.1 x.2.2.1 x.2.2.2.1 x.2.2.2.2.1 x.2.2.2.2.2.1 x.2.2.2.2.2.2
def ZO{a b c d e f g i:Type}{P:a×b×c×d×e×f×g×i->Prop}(h:∀j k l m n o p q,P (j,k,l,m,n,o,p,q)):∀x,P x:=λx=>h x.1 x.2.1 x.2.2.1 x.2.2.2.1 x.2.2.2.2.1 x.2.2.2.2.2.1 x.2.2.2.2.2.2.1 x.2.2.2.2.2.2.2
def XA{a b c d e f g i j:Type}{P:a×b×c×d×e×f×g×i×j->Prop}(h:∀k l m n o p q r s,P (k,l,m,n,o,p,q,r,s)):∀x,P x:=λx=>h x.1 x.2.1 x.2.2.1 x.2.2.2.1 x.2.2.2.2.1 x.2.2.2.2.2.1 x.2.2.2.2.2.2.1 x.2.2.2.2.2.2.2.1 x.2.2.2.2.2.2.2.2
def a23{b c d e f g i j k l a:Type}{P:b×c×d×e×f×g×i×j×k×l×a->Prop}(h:∀n o p q r s t u v w m,P (n,o,p,q,r,s,t,u,v,w,m)):∀x,P x:=λx=>h x.1 x.2.1 x.2.2.1 x.2.2.2.1 x.2.2.2.2.1 x.2.2.2.2.2.1 x.2.2.2.2.2.2.1 x.2.2.2.2.2.2.2.1 x.2.2.2.2.2.2.2.2.1 x.2.2.2.2.2.2.2.2.2.1 x.2.2.2.2.2.2.2.2.2.2
def vc{K:gH}{d:Str->Option cr}{k:Nat}{e:List Str}{A c g:Type}[Sls A][Sls c][Ow g]{i j:Wf A g c}(F:vB P w K d base (vJ P w) k f l e (yn T i))(h:∀p a b,j p a b->i p a b):vB P w K d base (vJ P w) k f l e (yn T j) :=
 F.imp λo H Q E m=>e5a3 m λF R p a b s n r=>#[F,R,p,a,b,s,h p a b n,r]
def V4:Passes (vJ P w) X XF:=λa b H s e c I h=>by obtain⟨_,_,_,_,_,z⟩:=h;exact z.elim
def lkc{β:Type}{n x:Str}{c c':β}{r:List (Str×β)}(h:kf x ((n,c)::r)=↑c'):(x=n/\c'=c)\/kf x r=↑c':=by
 rw[iC]at h
 cases q:x==n with
 |true=>rw[q]at h;exact .inl #[eq_of_beq q,(iT h).symm]
 |false=>rw[q]at h;exact .inr h
def fc{b:Type}{p:b->Prop}{a:b}{l:List b}(h:p a)(t:∀y∈l,p y):∀y∈a::l,p y:=λy c=>by
 rcases List.mem_cons.mp c with e|e
 ·rw[e];exact h
 ·exact t y e
def wv{k m:Nat}(h:a=(h8 m).map (k + ·)):∀i,k<=i->i<k+m->i∈a:=λi b c=>by rw[h];exact List.mem_map.mpr #[i-k,List.mem_range.mpr q0d,q0d]
def a3U{a:Type}{p:a->Prop}:∀y∈([]:List a),p y:=λ_ h=>by cases h
section
variable{D PO τ:Type}[Sls D][Sls PO][Ow τ]{α:Type}[Rep α]
def Qb(d:EW X E T a f):EW X E T (.UnaryOp .USub a pos) (cK f λ(i:Int->D->Prop) x j=>i (-x) j):=by have h:=Xi (c:=λ_=>True) (γ:=Int) (g:=λx:Int=>-x) (e:=.UnaryOp .USub a pos) d (λl b=>VG OK b) λb _ k=>#[_,b,k _ rfl];simp only[true_and]at h;exact h
def zA(i:Nat)[Sls l][Sls g][Hs τ][A:At i D τ g][J:Pj g PO n](m:PE X (.Name x p) (vw i)):S1 X E T I n (.Return (some<|.Name x p) pos) (λ(d:D)(_:l->Prop)(j:τ->PO->Prop) _=>j (A.get d)<|J.pj<|A.hole d):=by refine⟨_,Cd m,λd F R L H M j N O s q P r Q=>?_⟩;refine e3a4 (A.take s.rel) λv t w y c k B=>?_;obtain⟨u,rfl⟩:=Hs.has k;have f:∀a,w a->F a:=λa h=>(c.all a).mpr<|.inr h;refine e1a2 (J.le B) λG e C=>?_;exact#[u,y,r _ _ u t G R H q #[λb o _ _ h=>h,λ_ h=>.inl h,λa h=>.inl<|h.elim (λz=>(c.all a).mpr<|.inl z) λz=>f a<|e a z,λ_ h _=>h] #[C,λa h=>s.sub a<|f a<|e a h,s.wZ,s.tab,s.vI,λh=>s.vy<|f T<|e T h] ⟨k,λa h=>s.sub a<|(c.all a).mpr<|.inl h,λa h z=>c.ye a h<|e a z,λh=>s.vy<|(c.all T).mpr<|.inl h⟩]
def TQ{N:List iA}{i P PO B A:Type}[Ow i][Sls P][Sls PO][Sls B][Sls A]{G:B->A->PO->D}{we:Wf D i D}{wr:D->(P->B->A->Prop)->58->Prop}
 (ha:EO X E T e we) (hr:IV X E T N G wr) (hs:gJ (e::N) X.env=57::gJ N X.env:=by rfl) :
    IV X E T (e::N) (λ(b:B)(l:A)(p:Un×PO)=>G b l p.2) (cB we wr λx (Kn:i×P->B->A->Prop) p b l=>Kn (x,p) b l):=by
  refine e1a2 ha λta a1 a2=>?_
  refine e1a2 hr λtr b1 b2=>?_
  refine#[_,uY a1 b1 hs,λd F R σ H Kn Ke Q s hw kn ke=>?_]
  refine a2 d F R σ H _ Ke _ s hw (λx d1 u j F1 R1 H1 q1 c1 v g=>?_) ke
  have I:Ch T F R H F1 R1 H1:=c1.less λ_ z=>.inr z
  refine b2 d1 F1 R1 σ H1 _ Ke _ v q1 (λp b l vs us U G2 L o w J q2 O M r h1 h2 hl k=>?_) λC y d' o w J k c s'=>ke C y d' o w J k (Ch.trans s v.tab I c) s'
  -- the new W P1
  have Y:∀a,j a->o a->False:=λa m f=>by
    rcases O.xz a f with q|q
    · exact g.ye a m q
    · exact v.wZ a (g.sub a m) q
  have mT:∀a,j a->a≠T:=λa m z=>g.tab (by rw[<- z];exact m)
  have mx:sl j w J x ↑u:=Ow.st g.is O.ext (λa h=>h.elim (v.sub a) λq=>by rw[q];exact v.vI) λa m z=>z.elim (g.ye a m)<|mT a m
  have mR:∀a,j a->w a:=λa m=>O.left a (g.sub a m) λz=>g.ye a m z
  have g1:∀a,U a->o a:=λa h=>(r.all a).mpr<|.inl h
  have g2:∀a,G2 a->o a:=λa h=>(r.all a).mpr<|.inr<|.inl h
  have g3:∀a,L a->o a:=λa h=>(r.all a).mpr<|.inr<|.inr h
  have S:=Ch.trans s v.tab I O
  refine kn (x,p) b l (u::vs) us (λa=>j a\/U a) G2 L (λa=>j a\/o a) w J q2 #[S.keep,S.zP,λa h=>h.elim (λz=>c1.xz a<|.inl z)<|S.xz a,S.left] ⟨λa h=>h.elim (mR a)<|M.sub a,M.wZ,M.tab,M.vI,λh=>h.elim g.tab M.vy⟩
    #[λa=>?_,λa m n=>m.elim (λz=>Y a z<|g2 a n) λz=>r.Ih a z n,λa m n=>m.elim (λz=>Y a z<|g3 a n) λz=>r.JN a z n,r.JO] #[↑u,vs.map some,j,U,rfl,#[λ_=>Iff.rfl,λa m n=>Y a m<|g1 a n],Ow.wk mx<|Cw w L J,h1] h2 hl λb' l' L1 L2 L3 Z aa ab p' h3 h4 h5 t=>?_
  · rw[r.all]
    exact#[λz=>z.elim (λq=>.inl<|.inl q) λz=>z.elim (λq=>.inl<|.inr q) .inr,λz=>z.elim (λz=>z.elim .inl λq=>.inr<|.inl q) λz=>.inr<|.inr z]
  · refine e4a4 h3 λv' ae N1 N2 z1 z2 z3 z4 => ?_
    injection z1 with _ z5
    subst z5
    exact k b' l' L1 L2 L3 Z aa ab p'.2 (Sls.fq z4<|two_eq z2 z3) h4 h5 t
class XD(α:Type)[Rep α](ty:String)(b:outParam Bool):Prop where
 ist:∀{K:gH} {R:Rg} {H:Hp} {x:α} {v:V},rp R H x v->∃t,yQ K H v t/\m7 K t (.type ty)=↑b
instance:XD Int "int" true:=#[λ{K R H x v} h=>by
 subst h
 exact#[_,yQ.int x,by rfl]]
instance:XD Int "bool" false:=#[λ{K R H x v} h=>by
 subst h
 exact#[_,yQ.int x,by rfl]]
instance:XD (List α) "list" true:=#[λ{K R H x v} h=>by
 obtain⟨a,vs,rfl,_,h3,_⟩:=h
 exact#[_,yQ.lst h3,by rfl]]
def yt{b:Bool}[XD α ty b]{h:Wf D α D}(k:Gl X "isinstance")(l:X.mg "isinstance"=none)(c:PE X (.Name x q) (tC<|.ty ty))(m:EW X E T a h)
 (i:gJ [a,.Name x q] X.env=77::gJ [.Name x q] X.env:=by rfl) (e:gJ [.Name x q] X.env=(false,eval (.Name x q) X.env)::gJ [] X.env:=by rfl) (f:(ja pos<|gJ [.Name x q] X.env).any (·.1)=false:=by rfl) :
    EW X E T (.Call (.Name "isinstance" p) [a,.Name x q] [] pos) (cK h λ(j:Bool->D->Prop) _ g=>j b g):=by
  refine e1a2 m λP n o=>?_
  refine#[_,wu IN k l pR (uY n (uY c vi e) i) (he:=i) (hpl:=f),λd F R r H j v Q s w z A=>o d F R r H _ v _ s w (λy g u B C G I J L M=>?_) A]
  refine e1a2 (XD.ist (ty:=ty) (K:=X.K) M) λt N O=>?_
  exact#[u,ty,t,b,rfl,N,O,z _ g _ B C G I J L rfl]
end
end WL
namespace ZT
open PySem PySem.Spec PyProof.Rows
def Ei{i:Nat}(a:s.heap.IsTupleIter b t i)(h:s.heap.IsTuple t j)(k:j[i]?=↑x)
 (l:∀e,e.IsTupleIter b t (i+1)->iU b s.heap e->Q x { s with heap:=e}):gR (gU g w) A (jf<|.ref b) Q E s:=by
  obtain⟨o,d,n,c⟩:=id a;obtain⟨p,q,_,m,r⟩:=h;unfold jf
  refine am<|wpAny_callSpecial?_slot (name:=lO "__next__") a.typeIs lP<|iP lP a.typeIs r8 ?_<|rO _
  show gR _ _ (uj (.ref b) 0 >>= _) _ _ s;refine am<|iX d c (x:=.ref t) rfl ?_
  show gR _ _ (uj (.ref b) 1 >>= _) _ _ s;refine am<|iX d c (x:=.int i 0) rfl ?_
  show gR _ _ (seqItems? (.ref t) >>= _) _ _ s;refine am<|kU q r ?_;simp only[lq,k]
  have f:Heap.IsTupleIter (s.heap.update b λu=>u.mapFields (·.setIfInBounds 1 (lF<|(i:Int)+1))) b t (i+1):=#[_,iL _ d<|Obj.isFreed_of_fields<|Obj.data_mapFields c _,(Obj.cls_mapFields ..).trans n,by rw[Obj.data_mapFields c];simp[lF]]
  exact am<|mS d c q0o<|ap #[x,rfl,ap<|l _ f<|oy ..]
def Mr{i:Nat}(h:A.handled=none)(b:s.heap.IsTupleIter c t i)(k:s.heap.IsTuple t l)(n:l[i]?=none)
 (q:∀d e,Heap.ExtBut c s.heap d->(∃o,d.get? e=↑o/\o.cls=.type "StopIteration")->E (.ref e) { s with heap:=d}):gR (gU j w) A (jf<|.ref c) Q E s:=by
  obtain⟨o,f,v,g⟩:=id b;obtain⟨p,r,_,m,u⟩:=k;unfold jf
  refine am<|wpAny_callSpecial?_slot (name:=lO "__next__") b.typeIs lP<|iP lP b.typeIs r8 ?_<|rO _
  show gR _ _ (uj (.ref c) 0 >>= _) _ _ s;refine am<|iX f g (x:=.ref t) rfl ?_
  show gR _ _ (uj (.ref c) 1 >>= _) _ _ s;refine am<|iX f g (x:=.int i 0) rfl ?_
  show gR _ _ (seqItems? (.ref t) >>= _) _ _ s;refine am<|kU r u ?_;simp only[lq,n]
  refine am<|lW<|am<|mS f g q0o ?_;show gR _ _ (newExc (.type "StopIteration") [] >>= _) _ _ _
  refine am ?_;simp only[newExc,newTuple];refine am<|iH ?_ (by size_fits)
  refine am (m:=qf _ _)<|mF (a:=Value.none) (by first|rfl|(simp only[qf];rfl))<|iH ?_ (by size_fits)
  simp only[raiseNew];refine am<|wpAny_handled ?_;first|rw[show A.in1.handled=none from h]|rw[h]
  exact am<|ap<|wpAny_throw<|q _ _ (((oy ..).extBut.push _).push _) #[_,gX _ rfl,rfl]
abbrev ZP(h:iJ)(z c d e g i j:ci)(f:cr)(k:Nat)(l m:Array cr):Prop :=
 r9 h z c d f/\qi h c (.ref e) (.ref g)/\(∃a b,qi h d a b)/\h.IsTupleIter e i k/\h.IsTupleIter g j k/\h.IsTuple i l/\h.IsTuple j m
def TR{g d:ci}{k:Nat}{Q:cr->gN->Prop}(D:ZipApart z g d l m H I)(st:ZP s.heap z g d l m H I .none k xs ys)(hx:xs[k]?=↑x)(hy:ys[k]?=↑y)
 (hQ:∀h,r9 h z g d (lF ⇑s)->qi h d x y->h.IsTupleIter l H (k+1)->h.IsTupleIter m I (k+1)->qi h ⇑s x y ->
 (∀c o,c≠z->c≠d->c≠l->c≠m->s.heap.get? c=↑o->h.get? c=↑o)->Q (.ref ⇑s) { s with heap:=h}) :
    gR (gU W w) A (Builtin.«zip.__next__» #[[.ref z],[]]) (λJ s'=>∃v,J=.done (.ret v)/\Q v s') E s:=by
  obtain⟨q,L,⟨a,b,M⟩,h1,h2,N,O⟩:=st
  show gR _ _ (uj (.ref z) 2 >>= _) _ _ _;refine am<|iX q rfl (x:=.bool false) rfl ?_
  show gR _ _ (uj (.ref z) 3 >>= _) _ _ _;refine am<|iX q rfl (x:=.ref g) rfl<|am<|kU L rfl ?_
  show gR _ _ (jR (.ref z) >>= _) _ _ _;refine am ?_;unfold jR
  refine am<|iX q rfl (x:=.none) rfl<|ap ?_;simp only[if_true]
  refine am<|lW<|am<|iX q rfl (x:=.ref d) rfl<|am<|jI q q0o λg1 P i=>?_
  replace P:r9 g1 z g d .ellipsis:=P;refine am ?_;simp only[uN,List.zipIdx_nil,List.forIn_cons,List.forIn_nil]
  refine am<|am<|oX ?_;show gR _ _ (jf (.ref l) >>= _) _ _ _
  refine am<|Ei (h1.extBut i.extBut D.i1z) (N.extBut i.extBut D.l1z) hx λg2 a2 n=>ap ?_
  have X:qi g2 d a b:=n.extBut _ _ D.TOi1<|i.extBut _ _ D.TOz M
  refine am<|kU X rfl<|am<|qj X λg3 R p=>am<|sd<|ap ?_
  replace R:qi g3 d x b:=R
  refine am<|am<|oX ?_;show gR _ _ (jf (.ref m) >>= _) _ _ _
  refine am<|Ei (((h2.extBut i.extBut D.i2z).extBut n.extBut D.i12.symm).extBut p.extBut D.TOi2.symm) (((O.extBut i.extBut D.l2z).extBut n.extBut D.l2i1).extBut p.extBut D.l2TO) hy λg4 a4 r=>ap ?_
  have Y:qi g4 d x b:=r.extBut _ _ D.TOi2 R
  refine am<|kU Y rfl<|am<|qj Y λf u t=>am<|sd<|ap<|ap ?_
  replace u:qi f d x y:=u
  refine am<|kU u rfl<|am<|wpAny_newTuple ?_
  have Z:f.objs.size=⇑s:=by rw[t.1,r.1,p.1,n.1,i.1]
  have z5:r9 f z g d .ellipsis:=t.extBut _ _ D.TOz.symm<|r.extBut _ _ D.i2z.symm<|p.extBut _ _ D.TOz.symm<|n.extBut _ _ D.i1z.symm P
  have k5:∀c o,c≠z->c≠d->c≠l->c≠m->s.heap.get? c=↑o->f.get? c=↑o:=λc o j B S T e=>t.extBut _ _ B<|r.extBut _ _ T<|p.extBut _ _ B<|n.extBut _ _ S<|i.extBut _ _ j e
  have q1:f.IsTupleIter l H (k+1):=((a2.extBut p.extBut D.TOi1.symm).extBut r.extBut D.i12).extBut t.extBut D.TOi1.symm
  have q2:f.IsTupleIter m I (k+1):=a4.extBut t.extBut D.TOi2.symm
  have lz:z<f.objs.size:=gP z5
  show gR _ _ (nL (.ref z) (.ref f.objs.size) >>= _) _ _ _;refine am ?_;unfold nL
  have z6:r9 (f.push { cls:=.type "tuple",data:=.seq #v[x,y]}) z g d .ellipsis:=ce _ z5
  refine am<|jI z6 q0o λg7 U e7=>?_;replace U:r9 g7 z g d (lF f.objs.size):=U
  refine jI U q0o λC F e8=>?_;replace F:r9 C z g d (lF f.objs.size):=F
  have G:∀c o,c≠z->f.get? c=↑o->C.get? c=↑o:=λc o j e=>e8.extBut _ _ j<|e7.extBut _ _ j<|ce _ e
  have t8:qi C f.objs.size x y:=e8.extBut _ _ (je lz)<|e7.extBut _ _ (je lz)<|gX _ rfl
  rw[Z]at F t8;refine ap #[_,rfl,?_];show Q (.ref f.objs.size) _;rw[Z]
  exact hQ C F (G _ _ D.TOz u) (q1.at λo e=>G _ o D.i1z e) (q2.at λo e=>G _ o D.i2z e) t8 λc o j B S T e=>G c o j<|k5 c o j B S T e
def XG{l f:ci}{k:Nat}(O:A.handled=none)(D:ZipApart z l f v y l1 l2)(st:ZP s.heap z l f v y l1 l2 .none k P R)(m:P[k]?=none\/R[k]?=none)
 (S:∀B e,(∀c o,c≠z->c≠f->c≠v->c≠y->s.heap.get? c=↑o->B.get? c=↑o)->(∃o,B.get? e=↑o/\o.cls=.type "StopIteration")->E (.ref e) { s with heap:=B}) :
    gR (gU T w) A (Builtin.«zip.__next__» #[[.ref z],[]]) Q E s:=by
  obtain⟨n,C,⟨a,b,F⟩,U,h2,p,G⟩:=st
  show gR _ _ (uj (.ref z) 2 >>= _) _ _ _;refine am<|iX n rfl (x:=.bool false) rfl ?_
  show gR _ _ (uj (.ref z) 3 >>= _) _ _ _;refine am<|iX n rfl (x:=.ref l) rfl<|am<|kU C rfl ?_
  show gR _ _ (jR (.ref z) >>= _) _ _ _;refine am ?_;unfold jR
  refine am<|iX n rfl (x:=.none) rfl<|ap ?_;simp only[if_true]
  refine am<|lW<|am<|iX n rfl (x:=.ref f) rfl<|am<|jI n q0o λg1 u d=>?_
  replace u:r9 g1 z l f .ellipsis:=u;refine am ?_;simp only[uN,List.zipIdx_nil,List.forIn_cons,List.forIn_nil]
  refine am<|am<|oX ?_;show gR _ _ (jf (.ref v) >>= _) _ _ _
  cases H:P[k]? with
  |none =>
    refine am<|Mr O (U.extBut d.extBut D.i1z) (p.extBut d.extBut D.l1z) H λI e g J=>?_;obtain⟨L,i,r⟩:=J
    have W:r9 I z l f .ellipsis:=g _ _ D.i1z.symm u
    have M:e≠z:=λq=>by subst q;rw[W]at i;cases i;simp at r
    exact jI W q0o λX _ j=>S X e (λc o t _ N _ q=>j.extBut _ _ t<|g _ _ N<|d.extBut _ _ t q) #[L,j.extBut _ _ M i,r]
  |some x =>
    have hy:R[k]?=none:=by rcases m with h|h;rw[H]at h;cases h;exact h
    refine am<|Ei (U.extBut d.extBut D.i1z) (p.extBut d.extBut D.l1z) H λI a2 g=>ap ?_
    have Y:qi I f a b:=g.extBut _ _ D.TOi1<|d.extBut _ _ D.TOz F
    refine am<|kU Y rfl<|am<|qj Y λX p3 j=>am<|sd<|ap ?_
    refine am<|am<|oX ?_;show gR _ _ (jf (.ref y) >>= _) _ _ _
    refine am<|Mr O (((h2.extBut d.extBut D.i2z).extBut g.extBut D.i12.symm).extBut j.extBut D.TOi2.symm) (((G.extBut d.extBut D.l2z).extBut g.extBut D.l2i1).extBut j.extBut D.l2TO) hy λg4 e Z J=>?_
    obtain⟨L,i,r⟩:=J
    have z4:r9 g4 z l f .ellipsis:=Z _ _ D.i2z.symm<|j.extBut _ _ D.TOz.symm<|g.extBut _ _ D.i1z.symm u
    have M:e≠z:=λq=>by subst q;rw[z4]at i;cases i;simp at r
    exact jI z4 q0o λg5 _ e5=>S g5 e (λc o t c2 N c4 q=>e5.extBut _ _ t<|Z _ _ c4<|j.extBut _ _ c2<|g.extBut _ _ N<|d.extBut _ _ t q) #[L,e5.extBut _ _ M i,r]
noncomputable abbrev tI(l:ci):Obj:={ cls:=.type "tuple_iterator",data:=.fields #v[.ref l,.int 0 0]}
noncomputable abbrev H1(h:iJ)(a:ci):iJ:=h.push<|tI a
noncomputable abbrev H2(h:iJ)(a b:ci):iJ:=(H1 h a).push<|tI b
noncomputable abbrev H3(h:iJ)(a b:ci):iJ:=(H2 h a b).push { cls:=.type "tuple",data:=.seq #v[.ref h.objs.size,.ref (H1 h a).objs.size]}
noncomputable abbrev H4(h:iJ)(a b:ci):iJ:=(H3 h a b).push { cls:=.type "tuple",data:=.seq #v[.none,.none]}
noncomputable abbrev H5(h:iJ)(a b:ci):iJ:=(H4 h a b).push { cls:=.type "zip",data:=.fields #v[.none,.bool false,.bool false,.ref (H2 h a b).objs.size,.ref (H3 h a b).objs.size]}
def made(a b:ci)(c e:Array cr):Meets (Builtin.«zip.__new__» #[[.type "zip",.ref a,.ref b],[]]) (λ_ R s=>s.heap.IsTuple a c/\s.heap.IsTuple b e/\R (.ok<|.ret<|.ref (H4 s.heap a b).objs.size) { s with heap:=H5 s.heap a b}) :=
 .of_wp λf w A R s h=>by
  obtain⟨i,g,d,j,k⟩:=s;obtain⟨m,n,h⟩:=h;have l:=sub_zip;have o:qq (Shared.heap #[i,g,d,j,k]) a c:=m;have p:qq (Shared.heap #[i.push<|tI a,g,d,j,k]) b e:=Heap.IsTuple.push n _
  wp_walk using qL o,qL p
  exact#[_,rfl,h]
def Qc(n:s.heap.IsTuple a p)(q:s.heap.IsTuple b r)
 (h:∀d,ZP d (⇑s+4) (⇑s+2) (⇑s+3) ⇑s (⇑s+1) a b .none 0 p r->d.objs.size=⇑s+5->(∀c o,s.heap.get? c=↑o->d.get? c=↑o)->Q (.ref<|⇑s+4) { s with heap:=d}) :
    gR (gU t w) A (call (.type "zip") [.ref a,.ref b]) Q E s:=by
  refine callType_new F.called_zip q0q (F.typeCall_zip_2 _ _) (F.newCall_zip_2 _ _) (λf=>F.args_object_init_3 f _ _) F.entry_zip_new (made a b p r) #[n,q,?_]
  have g:(H1 s.heap a).objs.size=⇑s+1:=jt ..
  have i:(H2 s.heap a b).objs.size=⇑s+2:=by rw[jt,g]
  have j:(H3 s.heap a b).objs.size=⇑s+3:=by rw[jt,i]
  have k:(H4 s.heap a b).objs.size=⇑s+4:=by rw[jt,j]
  have z:(H5 s.heap a b).objs.size=⇑s+5:=by rw[jt,k]
  have l:(H5 s.heap a b).get? (H4 s.heap a b).objs.size=↑_:=gX _ rfl
  have u:(H5 s.heap a b).get? (H3 s.heap a b).objs.size=↑_:=ce _<|gX _ rfl
  have v:(H5 s.heap a b).get? (H2 s.heap a b).objs.size=↑_:=ce _<|ce _<|gX _ rfl
  have y:(H5 s.heap a b).get? (H1 s.heap a).objs.size=↑_:=ce _<|ce _<|ce _<|gX _ rfl
  have B:(H5 s.heap a b).get? ⇑s=↑_:=ce _<|ce _<|ce _<|ce _<|gX _ rfl
  have m:∀c o,s.heap.get? c=↑o->(H5 s.heap a b).get? c=↑o:=λc o x=>ce _<|ce _<|ce _<|ce _<|ce _ x
  rw[i,j,k]at l;rw[g,i]at v;rw[j]at u;rw[g]at y;rw[k]
  exact#[#[_,l,rfl],h _ #[l,v,#[_,_,u],#[_,B,rfl,rfl],#[_,y,rfl,rfl],n.at λo e=>m _ o e,q.at λo e=>m _ o e] z m]
def walk(hh:A.handled=none)(z TI TO i1 i2 l1 l2:ci)(D:ZipApart z TI TO i1 i2 l1 l2)(xs ys:Array cr):WalksT prog w A z [z,TI,TO,i1,i2,l1,l2] [z,TO,i1,i2] (min xs.size ys.size)
   (λi vals=>∃x y,xs[i]?=↑x/\ys[i]?=↑y/\vals=#v[x,y]) (λi h=>ZP h z TI TO i1 i2 l1 l2 .none i xs ys)
   (λi T h=>ZP h z TI TO i1 i2 l1 l2 (lF T) (i+1) xs ys/\T≠z/\T≠TO/\T≠i1/\T≠i2) where
 sub:=λc hc=>by simp only[im,jc,lX]at hc ⊢;rcases hc with q|q|q|q<;>simp[q]
 frame:=λi h h' st k=>by obtain⟨hz,ZQ,⟨a,b,ZR⟩,h1,h2,ZS,ZU⟩:=st;exact#[k z q0o _ hz,k TI q0o _ ZQ,#[a,b,k TO q0o _ ZR],h1.at λo e=>k i1 q0o o e,h2.at λo e=>k i2 q0o o e,ZS.at λo e=>k l1 q0o o e,ZU.at λo e=>k l2 q0o o e]
 item:=λi s Q E hi st hQ=>by have ix:i<xs.size:=hR hi<|Nat.min_le_left ..;have iy:i<ys.size:=hR hi<|Nat.min_le_right ..;have hT:s.TypeIs (.ref z) "zip":=⟨_,st.1,rfl⟩;unfold pyNext;refine am<|oV<|wpAny_callSpecial?_slot (name:=lO "__next__") hT pC<|iP pC hT F.entry_zip_next (TR D st (jk ix) (jk iy) λh' a1 a2 a3 a4 a5 k=>ap ?_)<|F.args_zip_next_1 _;obtain⟨hz,ZQ,⟨a,b,ZR⟩,h1,h2,ZS,ZU⟩:=st;have lt:∀{c o},s.heap.get? c=some o->⇑s≠c:=λe=>je<|gP e;refine hQ ⇑s #v[xs[i],ys[i]] h' s.toks ⟨_,_,jk ix,jk iy,rfl⟩ (gK _) ⟨_,a5,rfl,_,rfl⟩ ⟨⟨a1,k _ _ D.TIz D.TITO D.TIi1 D.TIi2 ZQ,⟨_,_,a2⟩,a3,a4,ZS.at λo e=>k _ o D.l1z D.l1TO D.l1i1 D.l1i2 e,ZU.at λo e=>k _ o D.l2z D.l2TO D.l2i1 D.l2i2 e⟩,lt hz,lt ZR,by obtain⟨_,e,_⟩:=h1;exact lt e,by obtain⟨_,e,_⟩:=h2;exact lt e⟩ ?_;exact λc o hc e=>k c o (λx=>hc<|by simp[x]) (λx=>hc<|by simp[x]) (λx=>hc<|by simp[x]) (λx=>hc<|by simp[x]) e
 go:=λelts k pos i T s Q E hm hQ=>by obtain⟨⟨hz,ZQ,⟨a,b,ZR⟩,h1,h2,ZS,ZU⟩,_⟩:=hm;refine wpAny_letOwnedTupleGo_zip hz λh' hz' e=>hQ h' #[hz',e.extBut _ _ D.TIz ZQ,#[a,b,e.extBut _ _ D.TOz ZR],h1.extBut e.extBut D.i1z,h2.extBut e.extBut D.i2z,ZS.extBut e.extBut D.l1z,ZU.extBut e.extBut D.l2z] λc o hc q=>e.extBut _ _ (λx=>hc<|by simp[x]) q
 apart:=λi T h hm hT=>by obtain⟨_,t1,t2,t3,t4⟩:=hm;simp only[im,jc,lX]at hT;rcases hT with q|q|q|q;exact t1 q;exact t2 q;exact t3 q;exact t4 q
 done:=λs Q E st hQ=>by
  have a2i:xs[min xs.size ys.size]?=none\/ys[min xs.size ys.size]?=none:=by
   rcases Nat.le_total xs.size ys.size with h|h
   ·rw[Nat.min_eq_left h];exact .inl<|sw<|gK _
   ·rw[Nat.min_eq_right h];exact .inr<|sw<|gK _
  have hT:s.TypeIs (.ref z) "zip":=#[_,st.1,rfl];unfold pyNext;refine am<|oV<|wpAny_callSpecial?_slot (name:=lO "__next__") hT pC<|iP pC hT F.entry_zip_next (XG hh D st a2i λh' e k he=>?_)<|F.args_zip_next_1 _;obtain⟨o,ho,hc⟩:=he;exact am<|l9 (T:="StopIteration") (b:=true) ⟨o,ho,hc⟩ isSubtype_stop<|ap<|hQ _ s.toks λc o hc e=>k c o (λx=>hc<|by simp[x]) (λx=>hc<|by simp[x]) (λx=>hc<|by simp[x]) (λx=>hc<|by simp[x]) e
 self:=λi s Q E st hQ=>wpAny_pyIter_zip st.1 hQ
end ZT
namespace L2
open PySem PySem.Spec PyProof.Rows
def a2j:Py X (yY X.K) P:=#[λ{u I H1 f a b J L v} k M x y A=>by
 obtain⟨m,B,n,N⟩:=k.tuple x;obtain⟨p,C,q,O⟩:=k.tuple y;have g:f.heap.get? P=↑(qQ v):=k.vL P _ A;have h:qq f.heap a m.toArray:=n;have i:qq f.heap b p.toArray:=q
 have d:∀(l:ci)(vh:Array cr),f.heap.IsTuple l vh->l≠P:=λl vh r=>e1a3 r λo e c _ z=>by rw[z,g]at e;cases e;cases c
 have j:∀(l:ci)(vh:Array cr),f.heap.IsTuple l vh->l<⇑f:=λl vh r=>e1a2 r λo e _=>gP e;refine#[m,p,B,C,j _ _ h,j _ _ i,d _ _ h,d _ _ i,λQ E D=>ZT.Qc h i λF s t G=>?_]
 exact D F _ _ (λR H=>(ZT.walk (prog:=X.prog) (w:=X.w) H _ _ _ _ _ _ _ (zipApart_new (j _ _ h) (j _ _ i)) m.toArray p.toArray).toU) s t G]
end L2
namespace HT
variable[L2.GX]
open PySem PySem.Spec PyProof.Rows
def AR{a:Option Int}(b:IsTup s.heap t items)(i:s.heap.IsSliceOf sl k l .none)(m:qc k a)(n:qc l c)
 (hw:wV items.size 0 a=0/\wV items.size items.size c=items.size)(h:Q (.ref t) s):gR (gU j w) A (nY (.ref t)<|.ref sl) Q E s:=by
  refine e1a3 (id i) λo d e p=>?_
  have f:s.TypeIs (.ref sl) "slice":=#[o,d,e]
  unfold nY
  try with_reducible refine iz ?_
  first|refine am (ap ?_)|skip
  refine am<|wpAny_sequenceKey b.typeIs q0q ?_
  refine am (wpAny_callSpecial?_slot (name:=lO "__getitem__") b.typeIs ko
    (iP ko b.typeIs entry_tuple_getitem ?_ (args_tuple_getitem _ _)))
  show gR _ _ (pW (.ref t) >>= _) _ _ s
  refine am<|tupleItemsOf_ b ?_
  refine am<|kK f ?_
  rw[gI q0q]
  refine am<|yZ i m n ?_
  have g:(((wV items.size 0 a:Nat):Int)==0&&(1:Int)==1&&(wV items.size items.size c-wV items.size 0 a)==items.size)=true:=by
    rw[hw.1,hw.2]
    simp
  show gR _ _ (if (((wV items.size 0 a:Nat):Int)==0&&(1:Int)==1&&(wV items.size items.size c-wV items.size 0 a)==items.size)=true then _ else _) _ _ s
  rw[gI g]
  refine am<|am<|kK b.typeIs<|ap ?_
  rw[gI q0q]
  first
    | exact am<|lW<|ap #[_,rfl,ap h]
    | exact am<|lW<|am<|ap<|ap #[_,rfl,ap h]
    | exact am<|am<|lW<|ap<|ap #[_,rfl,ap h]
end HT
namespace L2
variable[L2.GX]
open PySem PySem.Spec PyProof.Rows
def ZV(K:gH):V->Option Int->Option Int->Hp->VK->Prop:=λx c d H Q=>∃a b,x=.ref a/\yY K H a b/\(HT.wV b.length 0 c=0/\HT.wV b.length b.length d=b.length)/\Q (.ref a) H
def TU:VL X (ZV X.K):=by
 intro c s m H x v n o p t u Q I e f g i h;obtain⟨a,j,rfl,k,l,q⟩:=h;cases e;refine e1a3 (I.tuple k) λvh r d w=>?_;have b:vh.toArray.size=j.length:=by rw[gY];exact r.length.symm
 refine#["tuple",_,PyProof.Rows.slot_tuple_getitem.lookup,d.typeIs,?_];exact HT.AR d f g i (by rw[b];exact l) #[.ref a,H,I,rfl,q]
end L2
namespace WL
variable[L2.GX]
open PySem L2
open Rep (rp)
open Ow (sl)
open Sls (rel)
section
variable{D:Type}[Sls D]
def vS.Qd{F R:Rg}{H c:Hp}{d:D}{f:St}(s:vS T F R H d f)(k:∀b o,b≠T->H b=↑o->c b=↑o)(t:TabAt c T):Ch T F R H F R c/\vS T F R c d f:=by
 refine#[#[λb o _ n h=>k b o n h,λ_ h=>.inl h,λ_ h=>.inl h,λ_ h _=>h],Sls.st s.rel (G:=λa=>a=T) #[λb o n h=>k b o n h,λ_ h=>.inl h] (λa h=>by rw[h];exact s.vI)<|λa h z=>s.vy (by rw[<- z];exact h),s.sub,λa h=>?_,t,s.vI,s.vy];by_cases e:a=T
 ·rw[e];exact zd t
 ·cases q:H a with
  |none=>exact g8 q<|s.wZ a h
  |some o=>rw[k a o e q];simp
def Ej{x:Tp Int}(h:rp R H x v):∃a,v=.ref a/\H a=↑(.tup<|x.l.map V.int):=by refine e2a4 h λa vs e _ h3 h4=>?_;exact#[a,e,by rw[h3,paired_ints h4]]
def Ek{x:List Int}(h:rp R H x v):∃a,v=.ref a/\H a=↑(.lst<|x.map V.int):=by refine e2a4 h λa vs e _ h3 h4=>?_;exact#[a,e,by rw[h3,paired_ints h4]]
def Qe(A:EW X E T h B)(G:EW X E T f I)(J:∀{i:TA},PA X [h,f] i->PE X e (Zz X.K T i))
 (L:gJ [h,f] X.env=(false,eval h X.env)::gJ [f] X.env:=by rfl) (j:gJ [f] X.env=(false,eval f X.env)::gJ [] X.env:=by rfl) :
    EW X E T e (cB B I λM (o:Bool->D->Prop) N l=>o (zv M N) l):=by
  refine e1a2 A λi O P=>?_
  refine e1a2 G λtb S U=>?_
  refine#[_,J<|uY O (uY S vi j) L,λd F R p H o q Q s W Y r=>?_]
  refine P d F R p H _ q _ s W (λx Z u F1 R1 H1 q1 w g r1=>?_) r
  refine U Z F1 R1 p H1 _ q _ g q1 (λy l v F2 R2 H2 q2 z m r2=>?_) λC y d' F' R' n k c s'=>r C y d' F' R' n k (Ch.trans s g.tab w c) s'
  obtain⟨a,rfl,ha⟩:=Ek<|g.val z r1
  obtain⟨b,rfl,hb⟩:=Ek r2
  refine#[a,b,x,y,rfl,v6.of ha,v6.of hb,m.tab,λn k _ t=>?_]
  obtain⟨c3,s3⟩:=m.Qd k t
  exact Y _ l _ F2 R2 n q2 (Ch.trans s g.tab w<|Ch.trans g m.tab z c3) s3 rfl
def Qf{p q:Wf D (Tp Int) D}(I:EW X E T h p)(J:EW X E T f q)(L:∀{i:TA},PA X [h,f] i->PE X e (Xb X.K T i))
 (M:gJ [h,f] X.env=(false,eval h X.env)::gJ [f] X.env:=by rfl) (j:gJ [f] X.env=(false,eval f X.env)::gJ [] X.env:=by rfl) :
    EW X E T e (cB p q λN (r:Bool->D->Prop) O m=>r (zv N.l O.l) m):=by
  refine e1a2 I λi P S=>?_
  refine e1a2 J λtb U W=>?_
  refine#[_,L<|uY P (uY U vi j) M,λd F R w H r z Q s Y Z A=>?_]
  refine S d F R w H _ z _ s Y (λx d1 u F1 R1 H1 q1 B g r1=>?_) A
  refine W d1 F1 R1 w H1 _ z _ g q1 (λy m v F2 R2 H2 q2 G n r2=>?_) λC y d' F' R' o k c s'=>A C y d' F' R' o k (Ch.trans s g.tab B c) s'
  obtain⟨a,rfl,ha⟩:=Ej<|g.val G r1
  obtain⟨b,rfl,hb⟩:=Ej r2
  refine#[a,b,x.l,y.l,rfl,yY.of ha,yY.of hb,n.tab,λo k _ t=>?_]
  obtain⟨c3,s3⟩:=n.Qd k t
  exact Z _ m _ F2 R2 o q2 (Ch.trans s g.tab B<|Ch.trans g n.tab G c3) s3 rfl
def NJ{N O:Option iA}{P:Wf D (Tp Int) D}{S U:Wf D (Option Int) D}(ha:EW X E T a P)(hl:OW X E T N S)(hh:OW X E T O U) :
  EW X E T (.Subscript a (.Slice N O none p2) pos) (λ(d:D)(W:Tp Int->D->Prop) f=>P d (λg r=>S r (λl t=>U t (λh n=>W #[Fp g.l l h] n) f) f) f):=by
 refine e1a2 ha λta a1 a2=>?_;refine e1a2 hl λtl l1 l2=>?_;refine e1a2 hh λth h1 h2=>?_;refine#[_,zX (WM.or TU) a1 l1 h1,λd F R v H W f Q s j Y w=>?_];refine a2 d F R v H _ f _ s j (λg r u F1 R1 H1 q1 x i r1=>?_) w;refine l2 r F1 R1 v H1 _ f _ i q1 (λl t F2 R2 H2 q2 Z z=>?_) λC y A B G I k c J=>w C y A B G I k (Ch.trans s i.tab x c) J;refine h2 t F2 R2 v H2 _ f _ z q2 (λh n F3 R3 H3 q3 c3 o=>?_) λC y A B G I k c J=>w C y A B G I k (Ch.trans s i.tab x<|Ch.trans i z.tab Z c) J;have m:=Ch.trans i z.tab Z c3;have r3:=i.val m r1;obtain⟨q,b,rfl,k1,L,M⟩:=id r3;have cc:=Ch.trans s i.tab x m;have le:=Paired.length M;by_cases j:HT.wV b.length 0 l=0/\HT.wV b.length b.length h=b.length
 ·refine .inr #[q,b,rfl,yY.of L,j,?_];refine Y _ n _ F3 R3 H3 q3 cc o #[q,b,rfl,k1,L,?_]
  have e:Fp g.l l h=g.l:=by unfold Fp;rw[le,j.1,j.2,List.drop_zero,Nat.sub_zero,<- le,uO]
  rw[e];exact M
 ·refine .inl #[q,b,rfl,yY.of L,j,λp hp=>?_];refine e0a3 (o.new (.tup<|DR b l h) hp) λs4 c4 n4=>?_;exact Y _ n _ F3 R3 _ q3 (Ch.trans s o.tab cc c4) s4 #[p,_,rfl,n4,uT,o.vals c4<|Ed M l h]
end
structure SI(w:iO) where
 l:List Int
instance(w:iO):Ow (SI w):=#[λF _ H x v=>∃a ks,v=↑(.ref a)/\(∀b,F b↔b=a)/\H a=↑(w9 w a ks)/\ks.Nodup/\(∀k,k∈ks↔k∈x.l)/\x.l.Pairwise (· < ·),
 λh e s n=>by
  refine e2a4 h λa ks h1 h2 h3 h4=>?_
  exact#[a,ks,h1,h2,e.keep a _ (n a<|(h2 a).mpr rfl) h3,h4],
 λh e=>by
  refine e2a4 h λa ks h1 h2 h3 h4=>?_
  exact#[a,ks,h1,λb=>(e b).symm.trans (h2 b),h3,h4]]
noncomputable def Ft(k:Int)(l:List Int):List Int:=if k∈l then l else ins k l
noncomputable def KA(k:Int)(l:List Int):List Int:=l.filter λx=>decide<|x≠k
def wl{a b:List Int}(c:a.Nodup)(d:b.Nodup)(h:∀k,k∈a↔k∈b):a.Perm b:=(List.perm_ext_iff_of_nodup c d).mpr h
def vt{l:List Int}(h:l.Pairwise (· < ·)):l.Nodup:=h.imp λq=>ts q
def Ms{l:List Int}(h:l.Pairwise (· < ·)):l.Pairwise (·<=·):=h.imp λq=>Int.le_of_lt q
def V5{l:List Int}(h:l.Pairwise (·<=·))(n:l.Nodup):l.Pairwise (· < ·):=List.Pairwise.imp₂ (λa b (q:a<=b) (n:a≠b)=>by lia) h n
def GS{k:Int}:k∈Fd l↔k∈l:=(xV l).mem_iff
def El{a:List Int}(n:a.Nodup)(h:∀k,k∈a↔k∈l)(r:l.Pairwise (· < ·)):Fd a=l:=ze ((xV a).trans<|wl n (vt r) h) (BF a)<|Ms r
set_option tactic.hygienic true in
def BN{k x:Int}:x∈Ft k l↔x=k\/x∈l:=by
 unfold Ft;split
 ·rename_i h
  exact#[.inr,λz=>z.elim (λe=>by rw[e];exact h) id]
 ·rw[(Ah k l).mem_iff,im]
set_option tactic.hygienic true in
def Du{k:Int}{l:List Int}(r:l.Pairwise (· < ·)):(Ft k l).Pairwise (· < ·):=by
 unfold Ft;split
 ·exact r
 ·rename_i h
  exact V5 (GK k l<|Ms r)<|(Ah k l).nodup_iff.mpr<|List.nodup_cons.mpr #[h,vt r]
def Ak{k x:Int}:x∈KA k l↔x∈l/\x≠k:=by unfold KA;rw[jL];simp
section
variable{D PO τ:Type}[Sls D][Sls PO][Ow τ]{α:Type}[Rep α]
def TV(j:X.w=w)(l:Gl X "set")(m:X.mg "set"=none):EO X E T (.Call (.Name "set" p) [] [] pos) (λ(d:D)(e:SI w->D->Prop) _=>e #[[]] d):=by
 subst j;refine#[_,J4 NF l m nW,λd F R v H e x Q s n r y=>#[rfl,λp c=>?_]];refine e0a3 (s.new (w9 X.w p []) c) λf t g=>?_;have u:¬F p:=λz=>g<|s.sub p z;have i:Ext (λ_=>False) R H (λa=>R a\/a=p) (upd H p<|w9 X.w p []):=⟨λb o _ h=>by rw[uR<|u4 h c];exact h,λa h=>h.elim .inl λq=>.inr<|by rw[q];exact c⟩;refine r ⟨[]⟩ d _ (λa=>a=p) F (λa=>R a\/a=p) _ n #[t.keep,i.new,λa h=>h.elim (λq=>.inr<|by rw[q];exact c) .inl,λa h _=>.inl h] #[Sls.st s.rel i (λ_ z=>z.elim)<|λ_ _ z=>z,λa h=>.inl<|s.sub a h,λa h=>?_,f.tab,.inl s.vI,s.vy] #[#[p,[],rfl,λb=>Iff.rfl,uT,nJ,λ_=>Iff.rfl,iw],λa h=>.inr h,λa h k=>u (by rw[<- h];exact k),λh=>g<|by rw[<- h];exact s.vI];rcases h with h|h
 ·exact f.wZ a h
 ·rw[h,uT];simp
def tw_inS(i:Nat)(j:X.w=w)[Sls m][A:At i D (SI w) m](n:EW X E T a o)(q:PE X (.Name x p) (vw i))(r:iQ .In (.Name x p)=false) :
  TW X E T (.Compare a [.In] [.Name x p] pos) (cK o λf k c=>f (decide<|k∈(A.get c).l) c):=by
 subst j;refine e1a2 n λY t y=>?_;refine#[_,xP Xe t q r,λd F R z H f B Q s C G I=>y d F R z H _ B _ s C (λk c u J L M N O g P=>?_) I];obtain⟨v,Z,G2,S,h2,⟨b,h,rfl,g2,U,g4,W,g6⟩,_⟩:=A.take g.rel;refine#[_,S,k,b,h,P,rfl,U,_,rfl,?_];have e:decide (k∈h)=decide (k∈(A.get c).l):=by simp only[W]
 rw[e];exact G _ c J L M N O g
def Dv{i:Nat}[Sls x][A:At i D (SI w) x][U:Pt i x (SI w) D](s:vS T F R H d y):∃a g,y[i]?=↑(some<|.ref a)/\H a=↑(w9 w a g)/\g.Nodup/\(∀k,k∈g↔k∈(A.get d).l)/\(A.get d).l.Pairwise (· < ·) /\
  ∀(j f:List Int),f.Nodup->(∀k,k∈f↔k∈j)->j.Pairwise (· < ·)->Ch T F R H F R (upd H a<|w9 w a f)/\vS T F R (upd H a<|w9 w a f) (U.put (A.hole d) #[j]) y:=by
 obtain⟨v,W,X,B,m,⟨a,g,rfl,p,C,E,G,I⟩,J⟩:=A.take s.rel;have r:F a:=(m.all a).mpr<|.inl<|(p a).mpr rfl;have L:a≠T:=λz=>s.vy (by rw[<- z];exact r);refine#[a,g,B,C,E,G,I,λj f M N O=>?_];have P:=yK (F:=F) (R:=R) (H:=H) (a:=a) (o:=w9 w a f);have Q:∀c,c=a->R c:=λc z=>by rw[z];exact s.sub a r
 have k:∀b u,b≠a->H b=↑u->upd H a (w9 w a f) b=↑u:=λb u z e=>by rw[uR z];exact e
 refine#[#[λb o n _ e=>k b o (λz=>n<|by rw[z];exact r) e,λ_ h=>.inl h,λ_ h=>.inl h,λ_ h _=>h],Pt.same (A:=U) (Sls.st J P Q λc z q=>m.ye c ((p c).mpr q) z) B m #[a,f,rfl,p,uT,M,N,O],s.sub,λc z=>?_,?_,s.vI,s.vy]
 ·by_cases e:c=a
  ·rw[e,uT];simp
  ·rw[uR e];exact s.wZ c z
 ·refine e1a2 s.tab λS e t=>?_;exact#[S,k _ _ (λz=>L z.symm) e,t]
set_option tactic.hygienic true in
def TX(i:Nat)(S:X.w=w)[Sls B][A:At i D (SI w) B][U:Pt i B (SI w) D][J:Pj D PO n](h:EW X E T e W)
 (Y:∀{t:TA},PA X [e] t->PS X (.Expr (.Call (.Attribute (.Name x Z) "add" p2) [e] [] p3) pos) (FF<|Xf X.w (λx vs H Q=>∃(a:ci)(f:List Int)(k:Int),x=.ref a/\vs=[.int k]/\H a=↑(w9 X.w a f)/\f.length+1<=127/\∀b:List Int,b.Nodup->b.Perm (if k∈f then f else k::f)->Q .wq (upd H a<|w9 X.w a b)) (vw i) t)) (hs:gJ [e] X.env=57::gJ [] X.env:=by rfl) :
    S1 X E T ms n (.Expr (.Call (.Attribute (.Name x Z) "add" p2) [e] [] p3) pos) (cS W J.pj λ(I:D->Prop)(Kr:τ->PO->Prop) y g=>(A.get g).l.length<127/\I (U.put (A.hole g) #[Ft y (A.get g).l])):=by
  subst S
  refine e1a2 h λt h1 h2=>?_
  refine#[_,Y<|uY h1 vi hs,λd F R L H I Kr Ke En s hw kn kr ke=>?_]
  refine e2a4 (Dv (i:=i) s) λa f j p g3 _=>?_
  refine#[_,j,#[a,f,rfl,p],h2 d F R L H _ _ _ s hw (λy g v M u N q c m r=>?_) λC y g M u N q c m=>?_]
  · obtain⟨a', b, O, k2, k3, o, P, k6⟩ := Dv (i := i) m
    rw[j]at O
    cases O
    subst r
    have aa:b.length=(A.get g).l.length:=(wl k3 (vt P) o).length_eq
    refine#[a,b,y,rfl,rfl,k2,by have:=q.1;lia,λus nu pu=>?_]
    obtain⟨c2,s2⟩:=k6 (Ft y (A.get g).l) us nu (λk=>by
      rw[pu.mem_iff,BN]
      split
      · rename_i hy
        rw[o]
        exact#[.inr,λz=>z.elim (λe=>by rw[e];exact(o y).mp hy) id]
      · rw[im, o]) (Du P)
    exact kn _ M u _ L q.2 (Ch.trans s m.tab c c2) s2<|Ag.refl _ _
  · refine e1a2 (v8 (PO := PO) m) λG j p => ?_
    exact ke C y _ G u N q (c.less j) p
set_option tactic.hygienic true in
def TY(i:Nat)(W:X.w=w)[Sls B][A:At i D (SI w) B][U:Pt i B (SI w) D][J:Pj D PO n](h:EW X E T e Y)
 (Z:∀{t:TA},PA X [e] t->PS X (.Expr (.Call (.Attribute (.Name x p1) "discard" p2) [e] [] p3) pos) (FF<|Xf X.w (λx vs H Q=>∃(a:ci)(f:List Int)(k:Int),x=.ref a/\vs=[.int k]/\H a=↑(w9 X.w a f)/\∀b:List Int,b.Nodup->(if k∈f then f.Perm (k::b) else b=f)->Q .wq (upd H a<|w9 X.w a b)) (vw i) t)) (hs:gJ [e] X.env=57::gJ [] X.env:=by rfl) :
    S1 X E T ms n (.Expr (.Call (.Attribute (.Name x p1) "discard" p2) [e] [] p3) pos) (cS Y J.pj λ(I:D->Prop)(Kr:τ->PO->Prop) y g=>I<|U.put (A.hole g) #[KA y (A.get g).l]):=by
  subst W
  refine e1a2 h λt h1 h2=>?_
  refine#[_,Z<|uY h1 vi hs,λd F R L H I Kr Ke En s hw kn kr ke=>?_]
  refine e2a4 (Dv (i:=i) s) λa f j p g3 _=>?_
  refine#[_,j,#[a,f,rfl,p],h2 d F R L H _ _ _ s hw (λy g v M u N q c m r=>?_) λC y g M u N q c m=>?_]
  · obtain⟨a', b, O, k2, k3, k4, k5, k6⟩ := Dv (i := i) m
    rw[j]at O
    cases O
    subst r
    refine#[a,b,y,rfl,rfl,k2,λP nu o=>?_]
    obtain⟨c2,s2⟩:=k6 (KA y (A.get g).l) P nu (λk=>by
      rw[Ak,<- k4]
      split at o
      · rename_i S
        have nk:y∉P:=(List.nodup_cons.mp<|o.nodup_iff.mp k3).1
        rw[o.mem_iff,im]
        exact#[λz=>#[.inr z,λe=>nk<|by rw[<- e];exact z],λz=>z.1.elim (λe=>g8 e z.2) id]
      · rename_i S
        rw[o]
        exact#[λz=>#[z,λe=>S (by rw[<- e];exact z)],λz=>z.1]) (jM _ k5)
    exact kn _ M u _ L q (Ch.trans s m.tab c c2) s2<|Ag.refl _ _
  · refine e1a2 (v8 (PO := PO) m) λG j p => ?_
    exact ke C y _ G u N q (c.less j) p
def KC(i:Nat)(j:X.w=w)[Sls k][A:At i D (SI w) k](m:X.calm=true)(n:Gl X "sorted")(o:X.mg "sorted"=none)(q:PE X (.Name x r) (vw i)) :
  EO X E T (.Call (.Name "sorted" p) [.Name x r] [] pos) (λ(d:D)(b:OL Int->D->Prop) _=>(A.get d).l.length<64/\b #[(A.get d).l] d):=by
 subst j;refine#[_,wu (BC m) n o ki<|uY q vi,λd F R N H b O Q s c t P=>?_];obtain⟨v,S,U,u,W,⟨a,e,rfl,Y,y,f,g,h⟩,Z⟩:=A.take s.rel;have z:e.length=(A.get d).l.length:=(wl f (vt h) g).length_eq;refine#[_,u,a,e,rfl,y,by have:=c.1;omega,λl ns B C G=>?_];rw[Ec C G,El f g h];refine e1a3 (xB s B<|xW (R:=R) (H:=H) (A.get d).l) λI J L M=>?_;exact t _ d _ _ F I _ c.2 J L M
def GU{K:gH}{xs:List α}{vs:List V}:YL (Itt K a) xs (λR H=>H a=↑(.tup vs)/\Paired (rp R H) xs vs) where
 go:=λ{R H i} p h=>by refine e1a2 (wP (i:=i) (x:=xs[i]) p.2<|by simp[h]) λv e _=>?_;exact#[vs,v,yY.of p.1,e]
 Ig:=λ{R H i v H'} p _ hi y=>by obtain⟨e,y⟩:=y;subst e;have y':=y vs<|yY.of p.1;refine e1a2 (wP (i:=i) (x:=xs[i]) p.2<|by simp[hi]) λu e r=>?_;rw[y']at e;cases e;exact#[.inl rfl,_,by simp[hi],r]
 stop:=λ{R H} p=>#[vs,yY.of p.1,by rw[Paired.length p.2];exact gK _]
def Qg{w:Wf D (Tp α) D}(h:EW X E T e w):IW X E T is tg e (λ(b:D)(_:List α)=>b) (cK w λKn x d'=>Kn x.l d'):=by refine e1a2 h λt h1 h2=>?_;refine#[_,WD h1,λd F R σ H Kn Ke Rk s hw kn ke=>h2 d F R σ H _ _ _ s hw (λxs d' v F' R' H' q c s' r=>?_) ke];obtain⟨a,vs,rfl,r1,r2,r3⟩:=r;refine#[a,rfl,#[vs,yY.of r2],kn xs.l d' _ (λR H=>(H a=↑(.tup vs)/\Paired (rp R H) xs.l vs)/\¬R a) F' (λ_=>False) F' R' H' q c s'.Sr (two_nil F') s'.rel #[λp=>GU.go p.1,λp=>GU.Ig p.1,λp=>GU.stop p.1] #[#[r2,r3],r1] (λp gs nf ex=>?_) λb' G2 V0 JM PV σ' p h g t=>Sls.fq h<|two_eq t λ_ z=>z];have na:¬_:=λz=>p.2<|gs a z;exact#[#[ex.keep a _ na p.1.1,v7 (ex.wide gs) p.1.2],ex.not p.2 p.1.1]
def Em{a:ic}{C:ci}[Sls c][J:Pj D PO n](e:PS X a (PM C E<|AT (tC x) Bb)):S1 X E T j n a (λ(d:D)(_:c->Prop)(_:τ->PO->Prop) b=>b C<|J.pj d):=by refine⟨_,e,λd F R k H l m b o s f p q g=>#[(by show 1<=gL;decide),λy=>?_]⟩;refine e1a2 (v8 (PO:=PO) s) λG h i=>?_;exact g C y _ G R H f ((53).less h) i
end
def yf(l:List Int):Prop:=l.Pairwise (· < ·)
noncomputable def asc(a:List Int):Bool:=zv a<|a.drop 1
def ZW(b:List c):Fp b ↑1 none=b.drop 1:=by
 unfold Fp;rw[HT.IC,show ↑(1:Int)=some ((1:Nat):Int) from rfl,HT.L6]
 cases b with
 |nil=>rfl
 |cons a r =>
  rw[show min 1 (a::r).length=1 by simp,jl];rw[mJ];exact gK _
def Qh{a b:Int}:asc (a::b::r)=(decide (a<b)&&asc (b::r)):=rfl
def AK:∀(c:List Int),asc c=true↔yf c
 | []=>#[λ_=>iw,λ_=>rfl]
 | [a]=>#[λ_=>jV _ _,λ_=>rfl]
 |a::b::r=>by
  rw[Qh,iq,ie,AK (b::r)];constructor
  ·rintro⟨d,f⟩;refine List.pairwise_cons.mpr #[λx g=>?_,f];rcases List.mem_cons.mp g with e|e
   ·rw[e];exact d
   ·exact Int.lt_trans d<|(List.pairwise_cons.mp f).1 x e
  ·intro h;exact#[(List.pairwise_cons.mp h).1 b gO,(List.pairwise_cons.mp h).2]
def GV(a:yf b)(c:yf d)(h:∀k,k∈b↔k∈d):b=d:=ze (wl (vt a) (vt c) h) (Ms a)<|Ms c
noncomputable def KD(l:List Int)(k:Int):List Int:=if k∈l then KA k l else Ft k l
def Mt{k:Int}(h:yf l):yf (KD l k):=by
 unfold KD;split
 ·exact jM _ h
 ·exact Du h
set_option tactic.hygienic true in
def TZ{k x:Int}:x∈KD l k↔((x∈l)↔¬x=k):=by
 unfold KD;split
 ·rename_i h
  rw[Ak];constructor
  ·intro⟨a,b⟩;exact#[λ_=>b,λ_=>a]
  ·intro z;by_cases e:x=k
   ·rw[e]at z;exact g8 (z.mp h) q0o
   ·exact#[z.mpr e,e]
 ·rename_i h
  rw[BN];constructor
  ·rintro(a|a)
   ·subst a;exact#[λz=>g8 z h,λz=>g8 rfl z]
   ·exact#[λ_ e=>h (by rw[<- e];exact a),λ_=>a]
  ·intro z;by_cases e:x=k
   ·exact .inl e
   ·exact .inr<|z.mpr e
noncomputable def xr(l r:List Int):List Int:=r.foldl KD l
def Al:∀{r l:List Int},yf l->yf (xr l r)
 | [],_,h=>h
 |_::r,_,h=>Al (r:=r)<|Mt h
def Bj:∀{r l:List Int} {x:Int},r.Nodup->(x∈xr l r↔((x∈l)↔¬x∈r))
 | [],l,x,_=>by simp[xr]
 |k::r,l,x,h=>by
  have a:=List.nodup_cons.mp h;show x∈xr (KD l k) r↔_;rw[Bj a.2,TZ,im];by_cases e:x=k
  ·subst e;simp[a.1]
  ·simp[e]
def Qi{r:List Int}{x:Int}(a:r.Nodup)(h:x∈xr l r):x∈l\/x∈r:=by
 rw[Bj a]at h;by_cases q:x∈r
 ·exact .inr q
 ·exact .inl<|h.mpr q
noncomputable def Oz(a:List (List Int)):List Int:=a.foldl xr []
def BO:∀{rows:List (List Int)} {l:List Int},yf l->yf (rows.foldl xr l)
 | [],_,h=>h
 |_::r,_,h=>BO (rows:=r)<|Al h
def T0(a:List (List Int)):yf (Oz a):=BO iw
def wC{l U:List Int}(h:yf l)(s:∀x∈l,x∈U):l.length<=U.length:=SX.za _ _ (vt h) s
noncomputable def jn(a b:List Int):List Int:=Fd<|a.filter (λk=>!decide (k∈b))++b.filter λk=>!decide (k∈a)
def GY{k:Int}:k∈jn a b↔(k∈a/\k∉b)\/(k∈b/\k∉a):=by unfold jn;rw[GS,l6,jL,jL];simp
def GZ(c:yf d)(f:yf g):yf (jn d g):=by refine V5 (BF _)<|(xV _).nodup_iff.mpr<|List.nodup_append.mpr ⟨jM _<|vt c,jM _<|vt f,λa h b i e=>?_⟩;subst e;have j:=(List.mem_filter.mp h).1;have k:=(List.mem_filter.mp i).2;simp[j]at k
def V6(e:yf c)(f:yf d):jn c d=xr c d:=GV (GZ e f) (Al e) λk=>by rw[GY,Bj<|vt f];by_cases a:k∈c<;>by_cases b:k∈d<;>simp[a,b]
def vW:∀{a:List k} {K:List g->S->Prop},(∀x∈a,∀K:Option g->S->Prop,K (f x) s->b x s K)->K (a.filterMap f) s->BL b a s K:=by
 intro i
 induction i with
 |nil=>intro _ _ h;exact h
 |cons x a c =>
  intro K d h;refine d x gO _<|c (λy j=>d y<|gS _ j) ?_
  have e:(x::a).filterMap f=(f x).toList++a.filterMap f:=by rw[kI];cases f x<;>rfl
  rw[e]at h;exact h
def filterMap_filter(p:b->Bool):∀a:List b,a.filterMap (λx=>if p x=true then some x else none)=a.filter p
 | []=>rfl
 |x::a=>by rw[kI,jo,filterMap_filter p a];cases p x<;>rfl
def vP(I:List j->B->Prop):∀(a:List j) {s:B},I a s->(∀x r s,(∃p,a=p++x::r)->I (x::r) s->∀K:B->Prop,(∀c,I r c->K c)->b x s K k l)->(∀s,I [] s->m s)->GQ b a s m k l:=by
 intro d
 induction d with
 |nil=>intro s h _ f;exact f s h
 |cons x a g=>intro s h i f;exact i x a s #[[],rfl] h _ λc n=>g n (λy r o d=>e1a1 d λp e q=>i y r o #[x::p,by rw[e];rfl] q) f
def vT{n:Nat}(h:n<=1000):n<=gL:=lM<|Np h
structure Bd(C:ci)(fl:Bool) where
 rk:List (Int×Int)
 bd:List 90
 up:Int
 ht:List (Int×Int)
 th:List (Int×Int)
noncomputable def lk{a:Type}(l:List (Int×a))(k:Int):Option a:=(l.find? λe=>decide<|e.1=k).map (·.2)
noncomputable def Bm(l:List (Int×Int)):List (Key×V):=l.map λe=>(il e.1,V.int e.2)
def BP(R:Rg)(H:Hp):List 90->List (Key×V)->Prop:=Paired λe u=>u.1=il e.1/\rp R H (Tp.mk e.2) u.2
noncomputable def xX(a b c d:ci)(e:Int)(f:Bool):List (Str×V):=("ranks",.ref a)::("borders",.ref b)::("upcoming",.int e)::(if f=true then [("head_by_tail",.ref c),("tail_by_head",.ref d)] else [])
noncomputable def adr(p dx d1 d2 d3 d4:ci)(fl:Bool):List ci:=p::dx::d1::d2::(if fl=true then [d3,d4] else [])
structure Eo(C:ci)(fl:Bool)(R:Rg)(H:Hp)(x:Bd C fl)(p dx d1 d2 d3 d4:ci)(us:List (Key×V)):Prop where
 nd:(adr p dx d1 d2 d3 d4 fl).Nodup
 ob:H p=↑(.ins C dx<|xX d1 d2 d3 d4 x.up fl)
 ow:H dx=↑(.own p)
 rk:H d1=↑(.dK<|Bm x.rk)
 bd:H d2=↑(.dK us)
 tu:BP R H x.bd us
 ht:fl=true->H d3=↑(.dK<|Bm x.ht)
 th:fl=true->H d4=↑(.dK<|Bm x.th)
def Dw{R R':Rg}{H H':Hp}(e:Ext R R H R' H'):∀{l:List 90} {us:List (Key×V)},BP R H l us->BP R' H' l us:=by
 intro _ _ z
 induction z with
 |nil=>exact .nil
 |cons h t ih=>exact .cons #[h.1,Rep.st h.2 e] ih
def Eo.st{C:ci}{fl:Bool}{G R R':Rg}{H H':Hp}{x:Bd C fl}{p dx d1 d2 d3 d4:ci}{us:List (Key×V)}(b:Eo C fl R H x p dx d1 d2 d3 d4 us)(e:Ext G R H R' H')(s:∀a,G a->R a)(n:∀a,a∈adr p dx d1 d2 d3 d4 fl->¬G a):Eo C fl R' H' x p dx d1 d2 d3 d4 us :=
 #[b.nd,e.keep _ _ (n _<|by simp[adr]) b.ob,e.keep _ _ (n _<|by simp[adr]) b.ow,e.keep _ _ (n _<|by simp[adr]) b.rk,e.keep _ _ (n _<|by simp[adr]) b.bd,Dw (e.wide s) b.tu,λh=>e.keep _ _ (n _<|by simp[adr,h])<|b.ht h,λh=>e.keep _ _ (n _<|by simp[adr,h])<|b.th h]
instance(C:ci)(fl:Bool):Ow (Bd C fl):=#[λF R H x v=>∃p dx d1 d2 d3 d4 us,v=↑(.ref p)/\(∀b,F b↔b∈adr p dx d1 d2 d3 d4 fl)/\Eo C fl R H x p dx d1 d2 d3 d4 us,
 λh e s n=>by
  obtain⟨p,dx,d1,d2,d3,d4,us,h1,h2,h3⟩:=h
  exact#[p,dx,d1,d2,d3,d4,us,h1,h2,h3.st e s λa z=>n a<|(h2 a).mpr z],
 λh e=>by
  obtain⟨p,dx,d1,d2,d3,d4,us,h1,h2,h3⟩:=h
  exact#[p,dx,d1,d2,d3,d4,us,h1,λb=>(e b).symm.trans (h2 b),h3]]
instance(C:ci)(fl:Bool):Hs (Bd C fl):=#[λz9=>e7a2 z9 λ_ _ _ _ _ _ _ h _=>#[_,h]]
def IZ{R L:Rg}{H:Hp}(k:∀a,L a->∃b,H a=↑(.lst b)):∀{l:List 90} {b:List (Key×V)},BP R H l b->BP (λa=>R a\/L a) H l b
 |_,_,.nil=>.nil
 |_,_,.cons h t=>.cons #[h.1,Kx.no h.2 k]<|IZ k t
instance(C:ci)(fl:Bool):TH (Bd C fl):=#[λ{F R L H x v} h k=>by
 obtain⟨p,dx,d1,d2,d3,d4,us,h1,h2,b⟩:=h
 exact#[p,dx,d1,d2,d3,d4,us,h1,h2,b.nd,b.ob,b.ow,b.rk,b.bd,IZ k b.tu,b.ht,b.th]]
structure A1(K:gH)(C:ci):Prop where
 cl:zW K C
 nR:vQ K C "ranks"
 nB:vQ K C "borders"
 nU:vQ K C "upcoming"
structure Su(K:gH)(C:ci):Prop where
 nH:vQ K C "head_by_tail"
 nT:vQ K C "tail_by_head"
def yq(k:Int):∀l:List (Int×Int),yp (Bm l) (il k)=(lk l k).map V.int
 | []=>rfl
 |e::l=>by
  by_cases h:e.1=k
  ·show yp ((il e.1,V.int e.2)::Bm l) _=_;rw[y8<|by rw[h]];unfold lk;rw[iM,decide_eq_true h];rfl
  ·show yp ((il e.1,V.int e.2)::Bm l) _=_;rw[y9 (by intro z;exact h<|nC z),yq k l];unfold lk;rw[iM,ig h]
def Ep{R:Rg}{H:Hp}{k:Int}:∀{l:List 90} {us:List (Key×V)},BP R H l us->(∀b,lk l k=↑b->∃v,yp us (il k)=↑v/\rp R H (Tp.mk b) v)/\(lk l k=none->yp us (il k)=none):=by
 intro z0 z1 z9
 induction z9 with
 |nil=>exact#[(λb h=>by cases h),λ_=>rfl]
 | @cons e u l us h t XH =>
  obtain⟨i1,i2⟩:=XH;by_cases q:e.1=k
  ·have e1:lk (e::l) k=↑e.2:=by unfold lk;rw[iM,decide_eq_true q];rfl
   rw[e1];refine#[λb hb=>?_,(λz=>by cases z)];cases hb;exact#[u.2,y8 (by rw[h.1,q]),h.2]
  ·have e1:lk (e::l) k=lk l k:=by unfold lk;rw[iM,ig q]
   rw[e1,y9<|by rw[h.1];intro z;exact q<|nC z];exact#[i1,i2]
noncomputable def pk{a:Type}(l:List (Int×a))(k:Int)(v:a):List (Int×a):=if (lk l k).isSome then l.map (λe=>if e.1=k then (e.1,v) else e) else l++[(k,v)]
noncomputable def dk{a:Type}(l:List (Int×a))(k:Int):List (Int×a):=l.filter λe=>decide<|e.1≠k
def T1(l:List (Int×Int))(k v:Int):putK (Bm l) (il k) (V.int v)=Bm (pk l k v):=by
 unfold putK pk;rw[z8,yq,iG]
 cases (lk l k).isSome with
 |true =>
  rw[gI rfl,gI rfl];unfold Bm;rw[kT,kT];refine lU λe _=>?_;show (if (il e.1:Key)=il k then _ else _)=(λe:Int×Int=>((il e.1:Key),V.int e.2)) (if e.1=k then (e.1,v) else e);by_cases h:e.1=k
  ·rw[gI (by rw[h]),gI h]
  ·rw[gl<|λz=>h<|nC z,gl h]
 |false =>
  rw[gl gV,gl gV];unfold Bm;rw[jE];rfl
def I0(l:List (Int×Int))(k:Int):zZ (Bm l) (il k)=Bm (dk l k):=by
 unfold zZ dk Bm;rw[qX];congr 1;refine oh λe _=>?_;by_cases h:e.1=k
 ·simp[h]
 ·simp[h]
def Ja{R:Rg}{H:Hp}{k:Int}{b:List Int}{v:V}(h:rp R H (Tp.mk b) v):∀{l:List 90} {us:List (Key×V)},BP R H l us->BP R H (l++[(k,b)]) (us++[(il k,v)])
 |_,_,.nil=>.cons #[rfl,h] .nil
 |_,_,.cons q t=>.cons q<|Ja h t
def Qj{R:Rg}{H:Hp}{l:List 90}{us:List (Key×V)}{k:Int}{b:List Int}{v:V}(t:BP R H l us)(hn:lk l k=none)(h:rp R H (Tp.mk b) v):BP R H (pk l k b) (putK us (il k) v):=by unfold pk;rw[hn,O7 _<|(Ep t).2 hn];exact Ja h t
def NK{R:Rg}{H:Hp}{k:Int}:∀{l:List 90} {us:List (Key×V)},BP R H l us->BP R H (dk l k) (zZ us<|il k):=by
 intro z0 z1 z9
 induction z9 with
 |nil=>exact .nil
 | @cons e u l us h t XH =>
  have ih:=XH;unfold dk zZ at ih ⊢;rw[jo,jo];by_cases q:e.1=k
  ·rw[gl (by simpa using q),gl<|by rw[h.1];simpa using q];exact ih
  ·rw[gI (by simpa using q),gI<|by rw[h.1];simpa using q];exact .cons h ih
inductive ID where
 | rk|ht|th
noncomputable abbrev ID.nm:ID->Str
 | .rk=>"ranks" | .ht=>"head_by_tail" | .th=>"tail_by_head"
noncomputable abbrev ID.get{C:ci}{a:Bool}:ID->Bd C a->List (Int×Int)
 | .rk,x=>x.rk|.ht,x=>x.ht|.th,x=>x.th
noncomputable abbrev ID.set{C:ci}{a:Bool}:ID->Bd C a->List (Int×Int)->Bd C a
 | .rk,x,l=>{ x with rk:=l}|.ht,x,l=>{ x with ht:=l}|.th,x,l=>{ x with th:=l}
def ID.ok:ID->Bool->Prop
 | .rk,_=>True|.ht,fl=>fl=true|.th,fl=>fl=true
def nd4(h:(a::b::c::d::r).Nodup):(a≠b/\a≠c/\a≠d/\∀x∈r,a≠x)/\(b≠c/\b≠d/\∀x∈r,b≠x)/\(c≠d/\∀x∈r,c≠x)/\(∀x∈r,d≠x)/\r.Nodup:=by have g:=List.nodup_cons.mp h;have i:=List.nodup_cons.mp g.2;have j:=List.nodup_cons.mp i.2;have k:=List.nodup_cons.mp j.2;simp only[im,qe]at g i j;exact#[#[g.1.1,g.1.2.1,g.1.2.2.1,λx f e=>g.1.2.2.2<|by rw[e];exact f],⟨i.1.1,i.1.2.1,λx f e=>i.1.2.2<|by rw[e];exact f⟩,⟨j.1.1,λx f e=>j.1.2<|by rw[e];exact f⟩,λx f e=>k.1 (by rw[e];exact f),k.2]
def Am(b:Eo C k R H x p s l m g i t)(q:ID)(u:q.ok k):∃d,(xX l m g i x.up k).lookup q.nm=↑(.ref d)/\H d=↑(.dK<|Bm<|q.get x)/\d∈adr p s l m g i k /\
  ∀j,R d->Eo C k R (upd H d<|.dK<|Bm j) (q.set x j) p s l m g i t:=by
 have f:=nd4 b.nd;have n:∀d j,R d->BP R (upd H d<|.dK<|Bm j) x.bd t:=λd j h=>Dw ((yK (F:=R) (R:=R) (H:=H) (a:=d) (o:=.dK<|Bm j)).wide λc z=>by rw[z];exact h) b.tu
 cases q with
 |rk =>
  refine#[l,rfl,b.rk,by simp[adr],λj h=>#[b.nd,by rw[uR f.1.2.1];exact b.ob,by rw[uR f.2.1.1];exact b.ow,uT,by rw[uR f.2.2.1.1.symm];exact b.bd,n _ _ h,λz=>?_,λz=>?_]]
  ·rw[uR (f.2.2.1.2 g<|by rw[gI z];simp).symm];exact b.ht z
  ·rw[uR (f.2.2.1.2 i<|by rw[gI z];simp).symm];exact b.th z
 |ht =>
  have z:k=true:=u;subst z;have r:=List.nodup_cons.mp f.2.2.2.2;refine#[g,rfl,b.ht rfl,by simp[adr],λj h=>#[b.nd,by rw[uR<|f.1.2.2.2 g q0o];exact b.ob,by rw[uR<|f.2.1.2.2 g q0o];exact b.ow,by rw[uR<|f.2.2.1.2 g q0o];exact b.rk,by rw[uR<|f.2.2.2.1 g q0o];exact b.bd,n _ _ h,λ_=>uT,λ_=>?_]];rw[uR<|λe=>r.1<|by rw[<- e];simp];exact b.th rfl
 |th =>
  have z:k=true:=u;subst z;have r:=List.nodup_cons.mp f.2.2.2.2;refine#[i,rfl,b.th rfl,by simp[adr],λj h=>#[b.nd,by rw[uR<|f.1.2.2.2 i q0o];exact b.ob,by rw[uR<|f.2.1.2.2 i q0o];exact b.ow,by rw[uR<|f.2.2.1.2 i q0o];exact b.rk,by rw[uR<|f.2.2.2.1 i q0o];exact b.bd,n _ _ h,λ_=>?_,λ_=>uT]];rw[uR<|λe=>r.1<|by rw[e];simp];exact b.ht rfl
section
variable{D PO τ:Type}[Sls D][Sls PO][Ow τ]
def wp{i:Nat}[Sls J][A:At i D (Bd C r) J](s:vS T F R H d L):∃p f g j l m B,L[i]?=↑(some<|.ref p)/\Eo C r R H (A.get d) p f g j l m B/\(∀a∈adr p f g j l m r,R a) /\
  ∀{U:Pt i J (Bd C r) D} {a:ci} {o:HO} {E:Bd C r} {w:List (Key×V)},a∈adr p f g j l m r->Eo C r R (upd H a o) E p f g j l m w->Ch T F R H F R (upd H a o)/\vS T F R (upd H a o) (U.put (A.hole d) E) L:=by
 obtain⟨v,X,Y,M,G,⟨p,f,g,j,l,m,B,rfl,I,N⟩,O⟩:=A.take s.rel;have x:∀a∈adr p f g j l m r,F a:=λa h=>(G.all a).mpr<|.inl<|(I a).mpr h;refine⟨p,f,g,j,l,m,B,M,N,λa h=>s.sub a<|x a h,λ{U a o E w} y P=>?_⟩;have Q:=yK (F:=F) (R:=R) (H:=H) (a:=a) (o:=o);have S:∀c,c=a->R c:=λc z=>by rw[z];exact s.sub a<|x a y
 have k:∀b u,b≠a->H b=↑u->upd H a o b=↑u:=λb u z e=>by rw[uR z];exact e
 refine#[#[λb o n _ e=>k b o (λz=>n<|by rw[z];exact x a y) e,λ_ h=>.inl h,λ_ h=>.inl h,λ_ h _=>h],Pt.same (A:=U) (Sls.st O Q S λc z q=>G.ye c ((I c).mpr<|by rw[q];exact y) z) M G ⟨p,f,g,j,l,m,w,rfl,I,P⟩,s.sub,λc z=>?_,?_,s.vI,s.vy]
 ·by_cases e:c=a
  ·rw[e,uT];simp
  ·rw[uR e];exact s.wZ c z
 ·refine e1a2 s.tab λW e t=>?_;exact#[W,k _ _ (λz=>s.vy<|by rw[z];exact x a y) e,t]
def KG(q:ID)(b:Bool)(i:Nat)[Sls U][A:At i D (Bd C W) U](Y:q.ok W)(Z:zW X.K C)(nf:vQ X.K C q.nm)(G:X.A.units+1<jX)(hk:EW X E T a wk)(I:PE X (.Name x l) (vw i))(J:iD (.Name x l) q.nm X.env (eval (.Name x l) X.env)=eval (.Name x l) X.env:=by rfl)
 (L:iQ (if b then .NotIn else .In) (.Attribute (.Name x l) q.nm p2)=false:=by with_unfolding_all rfl):EW X E T (.Compare a [if b then .NotIn else .In] [.Attribute (.Name x l) q.nm p2] pos) (cK wk λ(n:Bool->D->Prop) k c=>n (if b then !(lk (q.get<|A.get c) k).isSome else (lk (q.get<|A.get c) k).isSome) c):=by
  refine e1a2 hk λta M N=>?_
  have O:∀{c:D} {h j:Rg} {e:Hp} {f:St} {k:Int} {Q:VK},vS T h j e c f->Q (.bl<|if b then !(lk (q.get<|A.get c) k).isSome else (lk (q.get<|A.get c) k).isSome) e->WJ X.K (vw i) q.nm f e λy P=>∃a o,y=.ref a/\yg P a (.int k) o/\Q (.bl<|if b then !o.isSome else o.isSome) P:=λ{c h j e f k Q} g m=>by
    obtain⟨p,dx,e1,e2,e3,e4,us,g1,S,_,_⟩:=wp (i:=i) g
    refine e1a4 (Am S q Y) λd l1 l2 _ _=>?_
    refine#[_,g1,p,C,dx,_,_,rfl,S.ob,Z,nf,l1,d,_,rfl,yg.k (k:=il k) l2,?_]
    rw[yq,iG]
    exact m
  cases b with
  |false=>exact#[_,OB (Pa G M (wO I J)) L,λd F R f H n r Q s t m v=>N d F R f H _ r _ s t (λk c u h j e w z g B=>by
      subst B
      exact O g (m _ c _ h j e w z g rfl)) v]
  |true=>exact#[_,OB (Ci G M (wO I J)) L,λd F R f H n r Q s t m v=>N d F R f H _ r _ s t (λk c u h j e w z g B=>by
      subst B
      exact O g (m _ c _ h j e w z g rfl)) v]
def tw_dIn(q:ID)(b:Bool)(i:Nat)[Sls W][A:At i D (Bd C Y) W](Z:q.ok Y)(cl:zW X.K C)(nf:vQ X.K C q.nm)(I:X.A.units+1<jX)(hk:EW X E T a wk)(J:PE X (.Name x m) (vw i))(L:iD (.Name x m) q.nm X.env (eval (.Name x m) X.env)=eval (.Name x m) X.env:=by rfl)
 (M:iQ (if b then .NotIn else .In) (.Attribute (.Name x m) q.nm p2)=false:=by with_unfolding_all rfl):TW X E T (.Compare a [if b then .NotIn else .In] [.Attribute (.Name x m) q.nm p2] pos) (cK wk λ(r:Bool->D->Prop) k e=>r (if b then !(lk (q.get<|A.get e) k).isSome else (lk (q.get<|A.get e) k).isSome) e):=by
  refine e1a2 hk λta N O=>?_
  have P:∀{e:D} {j l:Rg} {f:Hp} {g:St} {k:Int} {Q:VK},vS T j l f e g->Q (.bl<|if b then !(lk (q.get<|A.get e) k).isSome else (lk (q.get<|A.get e) k).isSome) f->WJ X.K (vw i) q.nm g f λy S=>∃a o,y=.ref a/\yg S a (.int k) o/\Q (.bl<|if b then !o.isSome else o.isSome) S:=λ{e j l f g k Q} h n=>by
    obtain⟨p,dx,e1,e2,e3,e4,us,g1,U,_,_⟩:=wp (i:=i) h
    refine e1a4 (Am U q Z) λd l1 l2 _ _=>?_
    refine#[_,g1,p,C,dx,_,_,rfl,U.ob,cl,nf,l1,d,_,rfl,yg.k (k:=il k) l2,?_]
    rw[yq,iG]
    exact n
  cases b with
  |false=>exact#[_,JS (Pa I N (wO J L)) M,λd F R g H r t Q s v n w=>O d F R g H _ t _ s v (λk e u j l f z B h G=>by
      subst G
      exact P (Q:=λy H=>∃c,y=.bl c/\Q c H) h #[_,rfl,n _ e j l f z B h]) w]
  |true=>exact#[_,JS (Ci I N (wO J L)) M,λd F R g H r t Q s v n w=>O d F R g H _ t _ s v (λk e u j l f z B h G=>by
      subst G
      exact P (Q:=λy H=>∃c,y=.bl c/\Q c H) h #[_,rfl,n _ e j l f z B h]) w]
def EV(X:Cx)(T:ci)(e:iA){D α:Type}[Sls D][Rep α](f:D->α):Prop :=
 ∃t,PE X e t/\∀(d:D)(F R:Rg)(σ:St)(H:Hp)(Q:VK),vS T F R H d σ->(∀v,rp R H (f d) v->Q v H)->t σ H Q
def ww[Rep a][Sls b](i:Nat)[A:At i D a b](c:PE X (.Name y pos) (vw i)):EV X T (.Name y pos) (λ(d:D)=>A.get d):=by refine#[_,c,λd F R h H Q s e=>?_];obtain⟨v,j,k,f,l,⟨_,u,rfl,g⟩,_⟩:=A.take s.rel;exact#[u,f,e u g]
def a2l{m:Int}{k:Nat}:EV X T (.Constant (.int m) k pos) (λ(_:D)=>m):=#[_,vr,λd F R b H Q s a=>a _ rfl]
def G0(q:ID)(i:Nat)[Sls h][A:At i D (Bd C j) h](l:q.ok j)(m:zW X.K C)(n:vQ X.K C q.nm)(o:X.A.units+1<jX)(t:PE X (.Name x b) (vw i))(u:EV X T a f)(w:iD (.Name x b) q.nm X.env (eval (.Name x b) X.env)=eval (.Name x b) X.env:=by rfl)(B:O8 a:=by intro _ _;rfl) :
  EW X E T (.Subscript (.Attribute (.Name x b) q.nm Y) a pos) (λ(d:D)(c:Int->D->Prop) _=>∃v,lk 83 (f d)=↑v/\c v d):=by
 refine e1a2 u λZ G I=>?_;refine#[_,Gu o (wO t w) G B,λd F R J H c Ke Q s L M ke=>?_];obtain⟨p,N,e1,e2,e3,e4,us,O,e,_,_⟩:=wp (i:=i) s;refine e1a4 (Am e q l) λy P S _ _=>?_;refine#[_,O,p,C,N,_,_,rfl,e.ob,m,n,P,I d F R J H _ s λv r=>?_];subst r;refine e1a2 L λz U W=>?_;have g:=yg.k (k:=il<|f d) S;rw[yq,U]at g;exact#[y,_,rfl,g,M z d _ F R H W 53 s rfl]
def AM(i:Nat)[Sls h][A:At i D (Bd C U) h](j:zW X.K C)(l:vQ X.K C "borders")(m:X.A.units+1<jX)(n:PE X (.Name x b) (vw i))(o:EV X T a f)(q:iD (.Name x b) "borders" X.env (eval (.Name x b) X.env)=eval (.Name x b) X.env:=by rfl)(t:O8 a:=by intro _ _;rfl) :
  EW X E T (.Subscript (.Attribute (.Name x b) "borders" W) a pos) (λ(d:D)(e:Tp Int->D->Prop) _=>∃v,lk (A.get d).bd (f d)=↑v/\e #[v] d):=by
 refine e1a2 o λY u y=>?_;refine#[_,Gu m (wO n q) u t,λd F R B H e Z Q s G I ke=>?_];obtain⟨p,J,e1,L,e3,e4,us,M,c,_,_⟩:=wp (i:=i) s;refine#[_,M,p,C,J,_,_,rfl,c.ob,j,l,rfl,y d F R B H _ s λv r=>?_];subst r;refine e1a2 G λz N O=>?_;refine e1a2 ((Ep c.tu).1 z N) λw P S=>?_;have g:=yg.k (k:=il<|f d) c.bd;rw[P]at g;exact#[L,w,rfl,g,I #[z] d _ F R H O 53 s S]
def T2(q:ID)(i:Nat)[Sls g][A:At i D (Bd C h) g](j:q.ok h)(k:zW X.K C)(l:vQ X.K C q.nm)(m:Gl X "len")(n:X.mg "len"=none)(o:PE X (.Name x a) (vw i))(r:iD (.Name x a) q.nm X.env (eval (.Name x a) X.env)=eval (.Name x a) X.env:=by rfl)
 (b:gJ [.Attribute (.Name x a) q.nm c] X.env=(false,eval (.Attribute (.Name x a) q.nm c) X.env)::gJ [] X.env:=by rfl) :
    EW X E T (.Call (.Name "len" G) [.Attribute (.Name x a) q.nm c] [] pos) (λ(d:D)(e:Int->D->Prop) _=>e ((83).length:Int) d):=by
  refine#[_,wu Nq m n mw (uY (wO o r) vi b) (he:=b),λd F R I H e J Q s t u L=>?_]
  obtain⟨p,v,M,N,O,P,S,w,f,_,_⟩:=wp (i:=i) s
  refine e1a4 (Am f q j) λy z B _ _=>?_
  refine#[_,w,p,C,v,_,_,rfl,f.ob,k,l,z,y,_,rfl,B,u _ d _ F R H t 53 s ?_]
  show V.int _=V.int _
  unfold Bm
  rw[gM]
def Er(q:ID)(i:Nat)[Sls h][A:At i D (Bd C j) h](k:q.ok j)(m:zW X.K C)(n:vQ X.K C q.nm)(o:X.calm=true)(r:Gl X "sorted")(t:X.mg "sorted"=none)(u:PE X (.Name x a) (vw i))(v:iD (.Name x a) q.nm X.env (eval (.Name x a) X.env)=eval (.Name x a) X.env:=by rfl)
 (b:gJ [.Attribute (.Name x a) q.nm c] X.env=(false,eval (.Attribute (.Name x a) q.nm c) X.env)::gJ [] X.env:=by rfl) :
    EO X E T (.Call (.Name "sorted" U) [.Attribute (.Name x a) q.nm c] [] pos) (λ(d:D)(e:OL Int->D->Prop) _=>(83).length<64/\e #[Fd ((83).map (·.1))] d):=by
  refine#[_,wu (GI o) r t ki (uY (wO u v) vi b) (he:=b),λd F R W H e Y Q s f w Z=>?_]
  obtain⟨p,z,e1,e2,e3,e4,us,B,g,_,_⟩:=wp (i:=i) s
  refine e1a4 (Am g q k) λy G I _ _=>?_
  refine#[_,B,p,C,z,_,_,rfl,g.ob,m,n,G,y,_,(83).map (·.1),rfl,I,?_,by rw[gM];exact f.1,λl ns J L M=>?_]
  · unfold Bm
    rw[kT,kT]
    rfl
  · rw[Ec L M]
    refine e1a3 (xB s J (xW (R:=R) (H:=H) (Fd ((83).map (·.1))))) λN O P S=>?_
    exact w _ d _ _ F N _ f.2 O P S
def V7(i:Nat)[Sls c][A:At i D (Bd C o) c](e:zW X.K C)(f:vQ X.K C "upcoming")(g:PE X (.Name x a) (vw i))(h:iD (.Name x a) "upcoming" X.env (eval (.Name x a) X.env)=eval (.Name x a) X.env:=by rfl) :
  EW X E T (.Attribute (.Name x a) "upcoming" pos) (λ(d:D)(b:Int->D->Prop) _=>b (A.get d).up d):=by
 refine#[_,wO g h,λd F R q H b r Q s j k t=>?_];obtain⟨p,l,u,v,w,y,z,m,n,_,_⟩:=wp (i:=i) s;exact#[_,m,p,C,l,_,_,rfl,n.ob,e,f,rfl,k _ d _ F R H j 53 s rfl]
def G4(q:ID)(i:Nat)[Sls o][A:At i D (Bd C t) o][U:Pt i o (Bd C t) D][J:Pj D PO n](N:q.ok t)(O:zW X.K C)(P:vQ X.K C q.nm)(Q:X.A.units+1<jX)(S:PE X (.Name x g) (vw i))(W:EV X T a f)(Y:EW X E T e Z)(hb:iD (.Name x g) q.nm X.env (eval (.Name x g) X.env)=eval (.Name x g) X.env:=by rfl)
 (hs:jx e (some<|.Subscript (.Attribute (.Name x g) q.nm p2) a p3) pos.line X.env=pure false:=by rfl) :
    S1 X E T ms n (.Assign [.Subscript (.Attribute (.Name x g) q.nm p2) a p3] e pos) (cS Z J.pj λ(z:D->Prop)(Kr:τ->PO->Prop) v b=>(q.get<|A.get b).length<gL/\z (U.put (A.hole b)<|q.set (A.get b)<|pk (q.get<|A.get b) (f b) v)):=by
  refine e1a2 W λta a1 a2=>?_
  refine e1a2 Y λte b1 b2=>?_
  refine#[_,Gv Q (wO S hb) a1 b1 hs,λd F R j H z Kr Ke En s hw kn kr ke=>b2 d F R j H _ _ _ s hw (λv b u B I H1 L c1 l r1=>?_) λC y d' F' R' H' q c s'=>?_]
  · obtain⟨p, dx, e1, e2, e3, e4, us, m, h, g3, g4⟩ := wp (i := i) l
    refine e1a4 (Am h q N) λy l1 l2 M l4=>?_
    subst r1
    refine#[_,m,p,C,dx,_,_,rfl,h.ob,O,P,l1,a2 b B I j H1 _ l λw r=>?_]
    subst r
    obtain⟨c2,s2⟩:=g4 (U:=U) M<|l4 (pk (q.get<|A.get b) (f b) v)<|g3 y M
    refine#[y,_,rfl,Gr.k (k:=il<|f b) l2 (by unfold Bm;rw[gM];exact L.1),?_]
    rw[T1]
    exact kn _ B I _ j L.2 (Ch.trans s l.tab c1 c2) s2<|Ag.refl _ _
  · refine e1a2 (v8 (PO := PO) s') λG m h => ?_
    exact ke C y _ G R' H' q (c.less m) h
def Es(b:Eo C i R H y p j k f g h n)(m:R f)(t:BP R H l d):Eo C i R (upd H f<|.dK d) { y with bd:=l} p j k f g h d:=by have e:=nd4 b.nd;exact⟨b.nd,by rw[uR e.1.2.2.1];exact b.ob,by rw[uR e.2.1.2.1];exact b.ow,by rw[uR e.2.2.1.1];exact b.rk,uT,Dw ((yK (F:=R) (R:=R) (H:=H) (a:=f) (o:=.dK d)).wide λc z=>by rw[z];exact m) t,λz=>by rw[uR (e.2.2.2.1 g<|by rw[gI z];simp).symm];exact b.ht z,λz=>by rw[uR (e.2.2.2.1 h<|by rw[gI z];simp).symm];exact b.th z⟩
def T4(i:Nat){o:Type}[Sls o][A:At i D (Bd C L) o][U:Pt i o (Bd C L) D][J:Pj D PO n]{f:D->Int}{M:Wf D (Tp Int) D}(W:zW X.K C)(Y:vQ X.K C "borders")(Z:X.A.units+1<jX)(hn:PE X (.Name x j) (vw i))(hk:EV X T a f)(he:EW X E T e M)(hb:iD (.Name x j) "borders" X.env (eval (.Name x j) X.env)=eval (.Name x j) X.env:=by rfl)
 (hs:jx e (some<|.Subscript (.Attribute (.Name x j) "borders" p2) a p3) pos.line X.env=pure false:=by rfl) :
    S1 X E T ms n (.Assign [.Subscript (.Attribute (.Name x j) "borders" p2) a p3] e pos) (cS M J.pj λ(N:D->Prop)(Kr:τ->PO->Prop) v g=>(A.get g).bd.length<gL/\lk (A.get g).bd (f g)=none/\N (U.put (A.hole g) { A.get g with bd:=pk (A.get g).bd (f g) v.l})):=by
  refine e1a2 hk λta a1 a2=>?_
  refine e1a2 he λte b1 b2=>?_
  refine#[_,Gv Z (wO hn hb) a1 b1 hs,λd F R t H N Kr Ke En s hw kn kr ke=>b2 d F R t H _ _ _ s hw (λv g u O P H1 z c1 B r1=>?_) λC y d' F' R' H' q c s'=>?_]
  · obtain⟨p, Q, e1, m, e3, e4, us, I, h, g3, g4⟩ := wp (i := i) B
    have S:m∈adr p Q e1 m e3 e4 L:=by simp[adr]
    refine#[_,I,p,C,Q,_,_,rfl,h.ob,W,Y,rfl,a2 g O P t H1 _ B λw r=>?_]
    subst r
    obtain⟨c2,s2⟩:=g4 (U:=U) S<|Es h (g3 m S)<|Qj (b:=v.l) h.tu z.2.1 r1
    exact#[m,_,rfl,Gr.k (k:=il<|f g) h.bd (by rw[<- Paired.length h.tu];exact z.1),kn _ O P _ t z.2.2 (Ch.trans s B.tab c1 c2) s2<|Ag.refl _ _]
  · refine e1a2 (v8 (PO := PO) s') λG I h => ?_
    exact ke C y _ G R' H' q (c.less I) h
def ZX(i:Nat)[Sls w][A:At i D (Bd C f) w][U:Pt i w (Bd C f) D][J:Pj D PO n](P:zW X.K C)(Q:vQ X.K C "upcoming")(S:PE X (.Name x B) (vw i))(W:EW X E T e Y)(Z:jx e (some<|.Attribute (.Name x B) "upcoming" p2) pos.line X.env=pure false:=by rfl) :
  S1 X E T ms n (.Assign [.Attribute (.Name x B) "upcoming" p2] e pos) (cS Y J.pj λ(I:D->Prop)(Kr:τ->PO->Prop) v j=>I<|U.put (A.hole j) { A.get j with up:=v}):=by
 refine e1a2 W λte b1 b2=>?_;refine#[_,Cg S b1 Z,λd F R L H I Kr Ke En s hw kn kr ke=>b2 d F R L H _ _ _ s hw (λv j u F1 o M q1 c1 N r1=>?_) λC y d' F' R' H' q c s'=>?_]
 ·obtain⟨p,r,k,l,g,h,us,t,b,g3,g4⟩:=wp (i:=i) N;subst r1;have O:p∈adr p r k l g h f:=by simp[adr]
  have m:=nd4 b.nd;have eq:zV "upcoming" (V.int v) (xX k l g h (A.get j).up f)=xX k l g h v f:=rfl;have nb:Eo C f o (upd M p<|.ins C r<|xX k l g h v f) { A.get j with up:=v} p r k l g h us:=⟨b.nd,uT,by rw[uR m.1.1.symm];exact b.ow,by rw[uR m.1.2.1.symm];exact b.rk,by rw[uR m.1.2.2.1.symm];exact b.bd,Dw ((yK (F:=o) (R:=o) (H:=M) (a:=p)).wide λc z=>by rw[z];exact g3 p O) b.tu,λz=>by rw[uR (m.1.2.2.2 g<|by rw[gI z];simp).symm];exact b.ht z,λz=>by rw[uR (m.1.2.2.2 h<|by rw[gI z];simp).symm];exact b.th z⟩;obtain⟨c2,s2⟩:=g4 (U:=U) O nb;refine#[_,t,p,C,r,_,rfl,b.ob,P,Q,?_,?_]
  ·unfold xX;split<;>(simp only[hZ,mZ];decide)
  ·rw[eq];exact kn _ F1 o _ L q1 (Ch.trans s N.tab c1 c2) s2<|Ag.refl _ _
 ·refine e1a2 (v8 (PO:=PO) s') λG t b=>?_;exact ke C y _ G R' H' q (c.less t) b
def Mu(q:ID)(i:Nat)[Sls c][A:At i D (Bd C e) c][U:Pt i c (Bd C e) D][J:Pj D PO n](u:q.ok e)(v:zW X.K C)(z:vQ X.K C q.nm)(B:PE X (.Name x b) (vw i))(G:EV X T a f)(I:∀{g h:TE},PE X (.Attribute (.Name x b) q.nm j) g->PE X a h->PS X (.Delete [.Subscript (.Attribute (.Name x b) q.nm j) a L] pos) (O9 g h))(M:iD (.Name x b) q.nm X.env (eval (.Name x b) X.env)=eval (.Name x b) X.env:=by rfl) :
  S1 X E T ms n (.Delete [.Subscript (.Attribute (.Name x b) q.nm j) a L] pos) (λ(d:D)(k:D->Prop)(N:τ->PO->Prop)(O:ci->PO->Prop)=>(lk 83<|f d).isSome=true/\k (U.put (A.hole d)<|q.set (A.get d)<|dk 83<|f d)):=by
 refine e1a2 G λta P Q=>?_;refine#[_,I (wO B M) P,λd F R l H k N O En s m S kr ke=>?_];obtain⟨p,W,e1,e2,e3,e4,us,Y,o,Z,g4⟩:=wp (i:=i) s;refine e1a4 (Am o q u) λy l1 l2 t l4=>?_;refine#[_,Y,p,C,W,_,_,rfl,o.ob,v,z,l1,Q d F R l H _ s λw r=>?_];subst r;obtain⟨c2,s2⟩:=g4 (U:=U) t<|l4 (dk 83<|f d)<|Z y t;refine#[y,_,il<|f d,rfl,l2,rfl,by rw[yq,iG];exact m.1,?_];rw[I0];exact S _ F R _ l m.2 c2 s2<|Ag.refl _ _
def T5(i:Nat)[Sls h][A:At i D (Bd C j) h][U:Pt i h (Bd C j) D][J:Pj D PO n](I:zW X.K C)(L:vQ X.K C "borders")(M:PE X (.Name x c) (vw i))(N:EV X T a f)(O:∀{l m:TE},PE X (.Attribute (.Name x c) "borders" o) l->PE X a m->PS X (.Delete [.Subscript (.Attribute (.Name x c) "borders" o) a P] pos) (O9 l m))(Q:iD (.Name x c) "borders" X.env (eval (.Name x c) X.env)=eval (.Name x c) X.env:=by rfl) :
  S1 X E T ms n (.Delete [.Subscript (.Attribute (.Name x c) "borders" o) a P] pos) (λ(d:D)(q:D->Prop)(S:τ->PO->Prop)(W:ci->PO->Prop)=>(lk (A.get d).bd<|f d).isSome=true/\q (U.put (A.hole d) { A.get d with bd:=dk (A.get d).bd (f d)})):=by
 refine e1a2 N λta Y Z=>?_;refine#[_,O (wO M Q) Y,λd F R t H q S W En s u kn kr ke=>?_];obtain⟨p,y,e1,g,e3,e4,us,g1,e,g3,g4⟩:=wp (i:=i) s;have B:g∈adr p y e1 g e3 e4 j:=by simp[adr]
 refine#[_,g1,p,C,y,_,_,rfl,e.ob,I,L,rfl,Z d F R t H _ s λw r=>?_];subst r;obtain⟨c2,s2⟩:=g4 (U:=U) B<|Es e (g3 g B)<|NK (k:=f d) e.tu;refine#[g,us,il<|f d,rfl,e.bd,rfl,?_,kn _ F R _ t u.2 c2 s2<|Ag.refl _ _]
 cases z:lk (A.get d).bd (f d) with
 |none =>
  have G:=u.1;rw[z]at G;cases G
 |some b =>
  refine e1a2 ((Ep e.tu).1 b z) λv v1 _=>?_;rw[v1];rfl
end
section
variable{D PO τ:Type}[Sls D][Sls PO][Ow τ]{α:Type}[Rep α]
def Et(i:Nat){D1 P O B B1 S:Type}[Sls D1][Sls P][Sls O][Sls B][Sls B1][Sls S][Lb S τ<|Bd C J×O]{I:B->S->O->D}{wr:D->(P->B->S->Prop)->58->Prop}
 {wf:Wf (Bd C J×P) τ (Bd C J×O)} [A0:At i D (Bd C J) D1] [A:At i B (Bd C J) B1] [U:Pt i B1 (Bd C J) B] (hl:∀a b c d u,(xX a b c d u J).lookup m=none)
 (b2:∀(d:D)(F R:Rg)(k:St)(H:Hp)(W:P->B->S->Prop)(M:ci->D->Prop)(Q:List V->Hp->Prop),vS T F R H d k->wr d W M ->
 (∀p b l vs us F1 X L w j e,W p b l->Ch T F R H w j e->Std T w j e->Ef w F1 X L->rel F1 (Wo j L) e p (vs.map some)->rel X j e b k->rel L j e l us ->
 (∀b' l' G1 G2 G3 o f h G,rel G1 f h G (vs.map some)->rel G2 f h b' k->rel G3 f h l' us->Ef o G1 G2 G3->rel o f h (I b' l' G) k)->Q vs e) ->
 (∀C y r w j e,M C r->Ch T F R H w j e->vS T w j e r k->E (.ref C) ↑y e)->tr k H Q)
 (d:D) (F R:Rg) (k:St) (H:Hp) (W:τ->D->Prop) (M:ci->D->Prop) (Q:VK) (s:vS T F R H d k) (hw:wr d (λp b l=>wf (A.get b,p) (λy G=>W y<|I (U.put (A.hole b) G.1) l G.2)<|λC G=>M C<|I (U.put (A.hole b) G.1) l G.2) M)
 (kn:∀x r v F1 X j e,W x r->Ch T F R H (λa=>F1 a\/X a) j e->vS T X j e r k->Nw T F1 X j e x v->Q v e)
 (ke:∀C y r w j e,M C r->Ch T F R H w j e->vS T w j e r k->E (.ref C) ↑y e):FK C m (yn T wf) [] E (vw i) tr k H Q:=by
  obtain⟨v,_,_,hv,_,⟨a,dx,d1,d2,d3,d4,aa,rfl,_,g⟩,_⟩:=A0.take s.rel
  refine#[_,hv,a,dx,_,rfl,g.ob,hl _ _ _ _ _,b2 d F R k H _ M _ s hw (λp b l vs us G1 G2 L w j e q2 c2 s2 Y h1 h2 h3 km=>?_) ke]
  rw[kX]
  refine e3a4 (A.take h2) λv' M1 M2 z1 z2 z3 z4=>?_
  rw[hv]at z1
  cases z1
  have m1:∀a,M1 a->G2 a:=λa m=>(z2.all a).mpr<|.inl m
  have m2:∀a,M2 a->G2 a:=λa m=>(z2.all a).mpr<|.inr m
  refine Eg (F:=w) (F1:=λa=>M1 a\/G1 a) (F2:=M2) (L:=L) (mrg:=λ(b:B1)(l:S)(p:Bd C J×O)=>I (U.put b p.1) l p.2) (wf:=wf) (p:=(A.get b,p)) (b:=A.hole b) (l:=l) (us:=us) (σ:=k) (Kn:=W) (Ke:=M) s2 #[λa=>?_,λa m n=>?_,λa m n=>?_,λa m n=>Y.JO a (m2 a m) n] #[some<|.ref a,vs.map some,M1,G1,rfl,⟨λ_=>Iff.rfl,λa m n=>Y.Ih a n<|m1 a m⟩,Ow.wk z3<|Cw j L e,h1] z4 h3 (λb' l' L1 L2 L3 o f h G h3 h4 h5 t=>?_) q2 (λx r v M1 M2 f h q' c' N n=>kn x r v M1 M2 f h q' (Ch.trans s s2.tab c2 c') N n) λC y r o f h q' c' N=>ke C y r o f h q' (Ch.trans s s2.tab c2 c') N
  · rw[Y.all, z2.all]
    exact#[λz=>z.elim (λq=>.inl<|.inr q) λz=>z.elim (λz=>z.elim (λq=>.inl<|.inl q) λq=>.inr<|.inl q) λq=>.inr<|.inr q,λz=>z.elim (λz=>z.elim (λq=>.inr<|.inl<|.inl q) .inl) λz=>z.elim (λq=>.inr<|.inl<|.inr q) λq=>.inr<|.inr q]
  · rcases m with m|m
    · exact z2.ye a m n
    · exact Y.Ih a m<|m2 a n
  · rcases m with m|m
    · exact Y.JO a (m1 a m) n
    · exact Y.JN a m n
  · refine e4a4 h3 λv' ab N1 N2 y1 Z y3 y4 => ?_
    injection y1 with y5 y6
    subst y5;subst y6
    have tt:Dd (λa=>N1 a\/L2 a) N1 L2:=#[λ_=>Iff.rfl,λa m n=>t.Ih a ((Z.all a).mpr<|.inl m) n]
    refine km _ l' N2 (λa=>N1 a\/L2 a) L3 o f h G.2 y4 (Pt.same (A:=U) h4 hv tt y3) h5 #[λa=>?_,λa m n=>?_,λa m n=>t.JN a ((Z.all a).mpr<|.inr m) n,λa m n=>?_]
    · rw[t.all, Z.all]
      exact#[λz=>z.elim (λz=>z.elim (λq=>.inr<|.inl<|.inl q) .inl) λz=>z.elim (λq=>.inr<|.inl<|.inr q) λq=>.inr<|.inr q,λz=>z.elim (λq=>.inl<|.inr q) λz=>z.elim (λz=>z.elim (λq=>.inl<|.inl q) λq=>.inr<|.inl q) λq=>.inr<|.inr q]
    · rcases n with n|n
      · exact Z.ye a n m
      · exact t.Ih a ((Z.all a).mpr<|.inr m) n
    · rcases m with m|m
      · exact t.JN a ((Z.all a).mpr<|.inl m) n
      · exact t.JO a m n
def Qk{n:List iA}(i:Nat){s P h B q o:Type}[Sls s][Sls P][Sls h][Sls B][Sls q][Sls o][Lb o τ<|Bd C g×h]{j:B->o->h->D}{v:D->(P->B->o->Prop)->58->Prop}
 {r:Wf (Bd C g×P) τ (Bd C g×h)} [N:At i D (Bd C g) s] [A:At i B (Bd C g) q] [U:Pt i q (Bd C g) B] {k:Nat} {y:List Str}
 (F:vB X.prog X.w X.K X.mg X.base (vJ X.prog X.w) k f G y (yn T r)) (O:wg k X.A) (Q:zW X.K C) (R:Meth X.K C m f) (S:Binds X.K G y []) (W:Passes (vJ X.prog X.w) X E) (Y:PE X (.Name x z) (vw i))
 (H:∀a b c d u,(xX a b c d u g).lookup m=none)
 (I:∀{t:TA},PA X (e::n) t->PE X 66 (FK C m (yn T r) [] E (vw i) t)) (J:IV X E T (e::n) j v) :
    EO X E T 66 (cM v r A.get λb l p=>j (U.put (A.hole b) p.1) l p.2):=by
  refine e1a2 J λZ L M=>?_
  exact#[_,I L,Et i H M]
def Ql(i:Nat){h:Type}[Sls h]
 {j:Wf (Bd C e×Unit) τ (Bd C e×Unit)} [A:At i D (Bd C e) h] [U:Pt i h (Bd C e) D] {k:Nat} {B:List Str}
 (F:vB X.prog X.w X.K X.mg X.base (vJ X.prog X.w) k f N B (yn T j)) (hr:wg k X.A) (cl:zW X.K C) (hm:Meth X.K C m f) (hb:Binds X.K N B []) (hx:Passes (vJ X.prog X.w) X E) (hn:PE X (.Name x G) (vw i))
 (O:∀a b c d u,(xX a b c d u e).lookup m=none)
 (P:PE X (.Call (.Attribute (.Name x G) m apos) [] [] pos) (FK C m (yn T j) [] E (vw i) Bb)) :
    EO X E T (.Call (.Attribute (.Name x G) m apos) [] [] pos) (λ(d:D)(o:τ->D->Prop) r=>j (A.get d,()) (λy l=>o y<|U.put (A.hole d) l.1)<|λC l=>r C<|U.put (A.hole d) l.1):=by
  refine#[_,P,λd F R S H o r Q s W Y Z=>?_]
  refine e3a4 (A.take s.rel) λv I M2 J z2 L z4=>?_
  obtain⟨a,dx,d1,d2,d3,d4,aa,rfl,_,g⟩:=id L
  refine#[_,J,a,dx,_,rfl,g.ob,O _ _ _ _ _,?_]
  refine P0 (F:=F) (F1:=I) (F2:=M2) (mrg:=λ(b:h)(p:Bd C e×Unit)=>U.put b p.1) (wf:=j) (p:=(A.get d,())) (b:=A.hole d) (σ:=S) (Kn:=o) (Ke:=r) s.Sr z2 #[some<|.ref a,[],I,λ_=>False,rfl,#[λ_=>#[.inl,λz=>z.elim id λq=>q.elim],λ_ _ z=>z],L,rfl,λ_ z=>z] z4 (λb' G1 G2 ab ae af l h1 h2 t=>?_) W Y Z
  refine e4a4 h1 λv' ag N1 N2 y1 M y3 y4=>?_
  injection y1 with y5 y6
  subst y5
  refine Pt.same (A:=U) h2 J #[λa=>?_,λa m n=>t.ye a ((M.all a).mpr<|.inl m) n] y3
  rw[t.all,M.all]
  exact#[λz=>z.elim (λz=>z.elim .inl λq=>g8 q<|y4.2 a) .inr,λz=>z.elim (λq=>.inl<|.inl q) .inr]
def tw_trueO{wa:Wf D (OL α) D}(ha:EO X E T a wa)(he:∀whole,qJ a X.env whole=(do let v <- whole;my a.pos;kF [v] (ut v)):=by intro _;rfl):TW X E T a (cK wa λKn xs d1=>Kn (!xs.l.isEmpty) d1):=by
 refine e1a2 ha λta a1 a2=>?_;refine#[_,Iw a1 he,λd F R σ H Kn Ke Q s hw kn ke=>a2 d F R σ H _ Ke _ s hw (λxs d1 u F1 F2 R1 H1 q1 c1 s1 n1=>?_) ke];refine e2a4 n1.is λb vs e _ h3 h4=>?_;cases e;refine#[!vs.isEmpty,.inl #[vs,v6.of h3,rfl],?_];obtain⟨l⟩:=xs
 have:vs.isEmpty=l.isEmpty:=by
  cases h4<;>rfl
 rw[this];exact kn _ d1 F2 R1 H1 q1 (c1.less λ_ z=>.inr z) s1
def Qm{c:Wf D (Tp α) D}(h:Gl X "list")(i:X.mg "list"=none)(j:EW X E T a c)(e:gJ [a] X.env=77::gJ [] X.env:=by rfl) :
  EO X E T (.Call (.Name "list" p) [a] [] pos) (cK c λ(f:OL α->D->Prop) t b=>f #[t.l] b):=by
 refine e1a2 j λN k m=>?_;refine#[_,xv yo h i jT (uY k vi e) (he:=e),λd F R n H f o Q s r v w=>m d F R n H _ o _ s r (λt b u x O P y z g A=>?_) w];obtain⟨q,S,rfl,_,B,C⟩:=A;refine#[_,_,rfl,.inr<|yY.of B,λl G=>?_];refine e1a3 (xB g G C) λI J L M=>?_;exact v _ b _ _ x I _ y (Ch.trans s g.tab z J) L M
def T6(m:Gl X "tuple")(n:X.mg "tuple"=none)(o:ER X E T a r)(e:gJ [a] X.env=77::gJ [] X.env:=by rfl) :
  EW X E T (.Call (.Name "tuple" p) [a] [] pos) (cK r λ(f:Tp α->D->Prop) g b=>f #[g b] b):=by
 refine e1a2 o λP t v=>?_;refine#[_,xv Fi m n qA (uY t vi e) (he:=e),λd F R w H f x Q s y z A=>v d F R w H _ x _ s y (λg b u h i B C G c I=>?_) A];obtain⟨q,j,rfl,J,L⟩:=I b h i B 53 c;refine#[_,_,rfl,.inl #[v6.of J,λl M=>?_]];refine e0a3 (c.new (.tup j) M) λN k O=>?_;exact z _ b _ h i _ C (Ch.trans s c.tab G k) N #[l,j,rfl,O,uT,c.vals k L]
def ints_of{R:Rg}{H:Hp}:∀{xs:List Int} {vs:List V},Paired (rp R H) xs vs->vs=xs.map V.int:=by
 intro _ _ z
 induction z with
 |nil=>rfl
 |cons h t ih=>rw[show _=V.int _ from h,ih];rfl
def tw_inT{a b:iA}{wa:Wf D Int D}{wb:Wf D (Tp Int) D}(ha:EW X E T a wa)(hb:EW X E T b wb)(hm:iQ .In b=false) :
  TW X E T (.Compare a [.In] [b] pos) (cB wa wb λk Kn t d2=>Kn (decide<|k∈t.l) d2):=by
 refine e1a2 ha λta a1 a2=>?_;refine e1a2 hb λtb b1 b2=>?_;refine#[_,xP FN a1 b1 hm,λd F R σ H Kn Ke Q s hw kn ke=>a2 d F R σ H _ Ke _ s hw (λk d1 u F1 R1 H1 q1 c1 s1 r1=>?_) ke];refine b2 d1 F1 R1 σ H1 _ Ke _ s1 q1 (λt d2 v F2 R2 H2 q2 c2 s2 r2=>?_) λC y d' F' R' H' k c s'=>ke C y d' F' R' H' k (Ch.trans s s1.tab c1 c) s';subst r1;obtain⟨l⟩:=t;obtain⟨q,us,rfl,_,h1,h2⟩:=r2;have e:=ints_of (xs:=l) h2;subst e;refine#[q,_,rfl,.inr<|yY.of h1,rfl,AJ _,_,rfl,?_];rw[gl gV,BG];exact kn _ d2 F2 R2 H2 q2 (Ch.trans s s1.tab c1 c2) s2
def Jb{c:iA}{body:List ic}{mb:List Nat}{D2:Type}[Sls D2]{U:Wf D Bool D}{Y:D->(D2->Prop)->87->79->Prop}[Z:Fg D2 D][J:Pj D PO n](I:Ss PO ms n)(hp:rK 19 X.A X.env X.xe)
  (hc:TW X E T c U) (hb:SW X E T mb n body Y) (z:∀i∈ms,i∈mb) :
  S1 X E T ms n (.While c body [] pos) (cW U Y Z.fg J.pj):=by
 refine e1a2 hc λtc c1 c2=>?_;refine e1a2 hb λtb b1 b2=>?_;refine#[_,OG hp c1 b1,λd F R σ H Kn Kr Ke En s hw kn kr ke=>?_];obtain⟨W,⟨m0,w0⟩,r⟩:=hw;refine#[λm e H1=>∃k G l,Ch T F R H G l H1/\vS T G l H1 k e/\Ag mb σ e/\W m k,#[m0,d,F,R,Ch.refl _ _ _ _,s,Ag.refl _ _,w0],?_];rintro m e H1 ⟨k,G,l,k1,L,g1,w1⟩;refine c2 k G l e H1 _ _ _ L (r m k w1) (λb d2 G2 R2 H2 q2 k2 t=>?_) λC y d' F' R' u q c s'=>?_
 ·have j:=Ch.trans s L.tab k1 k2
  cases b with
  |false=>exact kn d2 G2 R2 H2 e q2 j t<|g1.sub z
  |true =>
   refine#[λo u=>∃B,B<m/\∃k G l,Ch T F R H G l u/\vS T G l u k o/\Ag mb σ o/\W B k,λo u h=>h,?_];refine b2 d2 G2 R2 e H2 _ Kr Ke _ t q2 (λd3 G3 R3 H3 aa q3 k3 p g3=>?_) (λx M v M1 M2 N H4 O P f n4=>?_) λC y M F4 N H4 O P f=>?_
   ·refine e1a2 q3 λB hm w3=>?_;refine e1a2 (Z.le p.rel) λG5 Q r5=>?_;exact#[B,hm,_,G5,R3,(Ch.trans s t.tab j k3).less Q,#[r5,λa h=>p.sub a<|Q a h,p.wZ,p.tab,p.vI,λh=>p.vy<|Q T h],g1.trans g3,w3]
   ·exact kr x M v M1 M2 N H4 O (Ch.trans s t.tab j P) #[I.dp (g1.sub z) f.rel,f.sub,f.wZ,f.tab,f.vI,f.vy] n4
   ·exact ke C y M F4 N H4 O (Ch.trans s t.tab j P) #[I.dp (g1.sub z) f.rel,f.sub,f.wZ,f.tab,f.vI,f.vy]
 ·refine e1a2 (v8 (PO:=PO) s') λG' S g=>?_;exact ke C y _ G' R' u q ((Ch.trans s L.tab k1 c).less S) #[I.dp (g1.sub z) g.rel,g.sub,g.wZ,g.tab,g.vI,g.vy]
end
open PyProof.Rows hiding K
noncomputable def Ite(K:gH)(a:ci):It :=
 #[λi H=>∃b x,v6 K H a b/\b[i]?=↑x,λi H v c=>∃p x,v=.ref p/\H p=none/\c=upd H p (.tup [.int i,x])/\∀b,v6 K H a b->b[i]?=↑x,λi H=>∃b,v6 K H a b/\b.length<=i]
def T7{t':Nat}{xs:List V}{nh:Nat}(I:Inv X d y H s)(i:A8 X d H e)(j:A8 X d H l)(x:⇑s<=a)(k:∀b o,b≠e->b≠l->s.heap.get? b=↑o->h'.get? b=↑o)(A:xs.length<=gL)(r:Vals xs us)(B:IsTup h' a us.toArray) :
  Inv X d y (upd H a<|.tup xs) { s with heap:=h',toks:=t'}:=by
 have C:=I.vL.fresh x;have f:∀b u,H b=↑u->b≠e/\b≠l:=λb u q=>#[λz=>(by rw[z,i.1]at q;cases q),λz=>(by rw[z,j.1]at q;cases q)];have t:∀b o,b∉[e,l]->s.heap.get? b=↑o->h'.get? b=↑o:=λb o h q=>k b o (λz=>h<|by simp[z]) (λz=>h<|by simp[z]) q;have p:∀{b u},H b=some u->upd H a (.tup xs) b=some u:=λ{b u} q=>by rw[uR<|u4 q C];exact q
 refine I.step (g':=s.gens) (d':=s.drawn) (ch:=[e,l]) (λb h=>?_) (λb o _ _ g q _=>t b o g q) (λb o _ _ g q _=>#[o.slots,t b o g q]) (λb o g q n=>?_)
  (λb o g q=>#[o,t b o g q]) (λ_ _ q=>p q) (λ_ _ _ q=>p q) (λb J q=>#[#v[],by rw[p q];simp]) (λm D=>?_) (λb u q=>?_) I.bare
 ·rcases List.mem_cons.mp h with z|z
  ·subst z;exact#[i.2.2.2.1,i.2.1,i.2.2.2.2.1,i.2.2.2.2.2]
  ·have z:b=l:=by simpa using z
   subst z;exact#[j.2.2.2.1,j.2.1,j.2.2.2.2.1,j.2.2.2.2.2]
 ·rw[uR<|λz=>g8 (gP q)<|by rw[z];exact Nat.not_lt.mpr x];exact n
 ·refine e3a2 D λo E F G r=>?_;exact#[o,E,F,k _ o (Ne.symm i.2.1) (Ne.symm j.2.1) G,r]
 ·by_cases h:b=a
  ·subst h;rw[uT]at q;cases q;exact#[A,us,r,B]
  ·rw[uR h]at q;refine(I.vL b u q).C6 (λc v g w=>?_) (λc w=>p w) λc L w=>p w;rcases g with z|z
   ·rw[z]at w ⊢;exact k b v (f b u q).1 (f b u q).2 w
   ·exact k c v (f c _ z).1 (f c _ z).2 w
def NL{K:gH}{x1}(a e it:ci)(hne:e≠it):Turn P w K (.Tuple els x1 tp) (Ite K a) [e,it] e (λi h=>(∃old,IsEnum h e it i old)/\h.IsListIter it a i) where
 mem:=by simp
 obj:=λi h st b hb=>by
  obtain⟨⟨old,h1⟩,⟨o,h2,c,d⟩⟩:=st;rcases List.mem_cons.mp hb with z|z
  ·subst z
   exact#[_,h1,λv z=>by
    have z':tE _=Data.cell v:=z
    cases z']
  ·have z:b=it:=by simpa using z
   subst z;exact#[o,h2,λv z=>by rw[d]at z;cases z]
 keep:=λi h h' st k=>#[e1a1 st.1 λold h1=> #[old,k e q0o _ h1],st.2.at λo q=>k it q0o o q]
 item:=by
  intro X hP hw hK hc i pins s σ H E I hf st hg;subst hP hw hK;refine e2a2 hg λxs x hq hx=>?_;refine e1a3 (I.list hq) λvh rv p hz=>?_;refine e1a2 (rv.get hx) λu hu ru=>?_;obtain⟨⟨old,h1⟩,h2⟩:=st;have fe:=hf e q0o;have fi:=hf it q0o;refine wpAny_pyNext_enum_item h1 h2 p.isList (x:=u) (by simpa using hu) hne λh' a1 a2 a3 a4 a5=>#[_,rfl,wpAny_letOwnedTupleGo_enum a1 λh2' b1 b2=>?_];have hel:e<⇑s:=gP h1;have t2:h2'.get? ⇑s=some { cls:=.type "tuple",data:=.seq #v[.int i s.toks,u]}:=b2.extBut _ _ (je hel) a3;refine#[.ref ⇑s,upd H ⇑s<|.tup [.int i,x],T7 (s:=s) (h':=h2') (t':=s.toks+1) (xs:=[.int i,x]) (us:=[.int i s.toks,u]) (nh:=0) I fe fi (gK _) (λb o n1 n2 q=>b2.extBut b o n1<|a5 b o n1 n2 q) (by show 2<=gL;decide) (.cons ⟨_,rfl⟩<|.cons ru .nil) ⟨_,t2,rfl,_,rfl⟩,rfl,⟨_,x,rfl,I.vL.fresh<|gK _,rfl,λys hy=>by rw[I.Iu hy hq];exact hx⟩,#[#[_,b1],a2.extBut b2.extBut<|Ne.symm hne],λb hb=>?_];rw[uR]
  ·exact(hf b hb).1
  ·refine e1a2 h2 λo ho _=>?_;rcases List.mem_cons.mp hb with z|z
   ·rw[z];exact gZ hel
   ·have z:b=it:=by simpa using z
    rw[z];exact gZ<|gP ho
 done:=by intro X hP hw hK hc i pins s σ H E I hf st hg;subst hP hw hK;refine e1a2 hg λxs hq hx=>?_;refine e1a3 (I.list hq) λvh rv p hz=>?_;obtain⟨⟨old,h1⟩,h2⟩:=st;refine e0a6 (hf it q0o) λf0 f1 f2 f3 f4 f5=>?_;have hl:=rv.length;exact wpAny_pyNext_enum_end (I.ok.hd hc) h1 h2 p.isList (by simp;lia) λh' eb=>94
 self:=λ_ _ _ _ _ st h=>wpAny_pyIter_enum st.1.choose_spec h
section
variable{D:Type}[Sls D]{α:Type}[Rep α]
def ZY(K:gH)(c:TA):TI:=λd H R=>c d H λe b=>∃a,e=[.ref a]/\(∃f,v6 K b a f)/\R (Ite K a) b
def T8{i}(j:Gl X "enumerate")(k:X.mg "enumerate"=none)(l:PA X [a] m)(n:gJ [a] X.env=[77]:=by rfl):PI X (.Tuple o i F) (.Call (.Name "enumerate" p) [a] [] pos) (ZY X.K m):=by
 intro d s t H R I h;refine PyProof.Rows.Call_<|zn I j k PyProof.Rows.boot_enumerate<|jS (vG (l pos d s t H _ I h) λG c u=>e2a3 u λJ v f w x=>?_) n rfl;obtain⟨a,e,⟨L,y⟩,q⟩:=x;subst e
 cases w with
 |cons r A =>
  cases A;cases r;refine e1a3 (f.list y) λvh M p N=>?_;refine call_enumerate_list p.isList λO g B P C=>?_;refine wpAny_pyIter_enum g ?_;refine#[⇑c+1,[⇑c+1,⇑c],_,_,v,rfl,f.kept (t':=c.toks) C,NL a _ _<|je<|ji _,⟨⟨_,g⟩,B⟩,λb E=>?_,q]
  have e:⇑c<=b:=by
   rcases List.mem_cons.mp E with z|z
   ·rw[z];exact lG _
   ·have z:b=⇑c:=by simpa using z
    rw[z];exact gK _
  exact f.Gk e<|f.vL.fresh e
noncomputable def NM:Nat->List α->List (Int×α)
 |_,[]=>[]
 |k,x::r=>((k:Int),x)::NM (k+1) r
def Dx:∀(k:Nat)(a:List α),(NM k a).length=a.length
 |_,[]=>rfl
 |k,x::r=>by show (NM (k+1) r).length+1=r.length+1;rw[Dx (k+1) r]
def Mv:∀(k:Nat)(a:List α)(i:Nat),(NM k a)[i]?=(a[i]?).map λx=>(((k+i:Nat):Int),x)
 |_,[],_=>by simp[NM]
 |k,x::r,0=>by simp[NM]
 |k,x::r,i+1=>by
  show (((k:Int),x)::NM (k+1) r)[i+1]?=_;rw[sx,sx,Mv (k+1) r i];congr 1
  funext y
  rw[show k+1+i=k+(i+1) by lia]
def Eu{K:gH}{xs:List α}{vs:List V}:YL (Ite K a) (NM 0 xs) (λR H=>H a=↑(.lst vs)/\Paired (rp R H) xs vs) where
 go:=λ{R H i} p h=>by rw[Dx]at h;obtain⟨v,e,_⟩:=wP (i:=i) (x:=xs[i]) p.2 (by simp[h]);exact#[vs,v,v6.of p.1,e]
 Ig:=λ{R H i v H'} p wZ hi y=>by rw[Dx]at hi;obtain⟨q,w,e,hq,e',y⟩:=y;subst e e';have y':=y vs<|v6.of p.1;obtain⟨u,e,r⟩:=wP (i:=i) (x:=xs[i]) p.2 (by simp[hi]);rw[y']at e;cases e;have ex:Ext R R H R (upd H q<|.tup [.int i,w]):=⟨λb o _ z=>by rw[uR<|u4 z hq];exact z,λ_ z=>.inl z⟩;refine#[.inr #[q,_,hq,rfl],((i:Int),xs[i]),?_,q,.int i,w,rfl,λz=>wZ q z hq,uT,rfl,Rep.st r ex];rw[Mv,jp hi,sU];rfl
 stop:=λ{R H} p=>#[vs,v6.of p.1,by rw[Dx,Paired.length p.2];exact gK _]
def T9{i:List iA}{A}{w:Wf D (List α) D}(B:Gl X "enumerate")(C:X.mg "enumerate"=none)(h:EW X E T e w)(G:gJ [e] X.env=57::gJ [] X.env:=by rfl)(j:gJ [e] X.env=[57]:=by rfl) :
  IW X E T is (.Tuple i A tp) (.Call (.Name "enumerate" p) [e] [] pos) (λ(b:D) (_:List (Int×α))=>b) (cK w λo f k=>o (NM 0 f) k):=by
 refine e1a2 h λt I J=>?_;refine#[_,T8 B C (uY I vi G) j,λd F R L H o Ke Rk s M N O=>J d F R L H _ _ _ s M (λf k v l P Q q c u r=>?_) O];obtain⟨a,m,rfl,S,x,U⟩:=r;refine#[a,rfl,#[m,v6.of x],N (NM 0 f) k _ (λR H=>(H a=↑(.lst m)/\Paired (rp R H) f m)/\¬R a) l (λ_=>False) l P Q q c u.Sr (two_nil l) u.rel #[λp=>Eu.go p.1,λp=>Eu.Ig p.1,λp=>Eu.stop p.1] #[#[x,U],S] (λp y nf n=>?_) λb' G2 W Y Z aa p h g t=>Sls.fq h<|two_eq t λ_ z=>z];have na:¬_:=λz=>p.2<|y a z;exact#[#[n.keep a _ na p.1.1,v7 (n.wide y) p.1.2],n.not p.2 p.1.1]
end
def G6(C:ci):Sp:=λf H Q E=>∃p e,f=[.ref p]/\H p=↑(.ins C e []) /\
 ∀c d a,H c=none->H d=none->c≠d->a p=↑(.ins C e<|xX c d 0 0 0 false)->a c=↑(.dK [])->a d=↑(.dK [])->(∀b o,b≠p->H b=↑o->a b=↑o)->Q .wq a
def Ua{C:ci}{m:ic}{k:Nat}(F:yX K "__init__" i m f D)(S:uZ ["self"] ["self"] (uQ m))(g:A1 K C)
 (j:∀(d:cr)(A:jq)(a:List Env)(s:gN)(H:Hp)(E:XK),Fb (vO (vJ P w) P w K G base ["self"] i (uQ m) f d A a s H E) (vA m)<|JT (Nf K (vw 0) DT "ranks")<|JT (Nf K (vw 0) DT "borders")<|Nf K (vw 0) (tC<|.int 0) "upcoming") :
    vB P w K G base (vJ P w) (k+1) f D ["self"] (G6 C):=by
  obtain⟨T,U,W,I,X,Y,d,J,L,rfl,lk,t⟩:=F.ex
  refine IB lk t S (λM H Q E N=>e2a2 N λp l e _=>by rw[e];rfl) λO a s H M Q E Z u=>#[_,j d O a s H E,?_]
  obtain⟨p,l,rfl,B,k⟩:=u
  intro h v
  have n:p≠h:=u4 B v
  have R:upd H h (.dK []) p=↑(.ins C l []):=by rw[uR n];exact B
  refine#[_,rfl,p,C,l,[],rfl,R,g.cl,g.nR,q0q,?_]
  intro q c
  have r:p≠q:=λz=>by rw[<- z,uT]at c;cases c
  rw[uR r.symm]at c
  have x:q≠h:=λz=>by rw[z,uT]at c;cases c
  rw[uR x]at c
  refine#[_,rfl,p,C,l,[("ranks",.ref h)],rfl,?_,g.cl,g.nB,(by show 1<1000;decide),?_]
  · rw[uR r, uT]
    rfl
  refine#[_,rfl,p,C,l,[("ranks",.ref h),("borders",.ref q)],rfl,?_,g.cl,g.nU,(by show 2<1000;decide),?_]
  · rw[uT]
    rfl
  refine k h q _ v c x.symm ?_ ?_ ?_ λb o y j=>?_
  · rw[uT]
    rfl
  · rw[uR n.symm, uR n.symm, uR x.symm, uR n.symm, uT]
  · rw[uR r.symm, uR r.symm, uT]
  · rw[uR y, uR y, uR<|u4 j c, uR y, uR<|u4 j v]
    exact j
structure Mf(K:gH)(C:ci)(m qual:Str)(st:ic)(ps:List Str)(f:ci)(fd:iE):Prop where
 fn:yX K m qual st f fd
 me:Meth K C m f
 bd:Binds K fd ps []
structure Xc(K:gH)(mg:Str->Option cr)(x:Str)(C:ci):Prop where
 ex:∃(De:List cr)(B newId yh:String),mg x=↑(.ref C)/\jh K C De newId=true/\kq B newId yh De
 g0:∀H',GX.g C none H'
def Df{k:Nat}(r:wg k A):A.units+1<jX:=nO (Nat.add_le_add_left q0q _) r.units
noncomputable def a2n(s:ic):List ic:=match s with
 | .ClassDef _ _ _ body _ _ _ _ _ _ _=>body
 |_=>[]
noncomputable def Bk(s:ic)(i:Nat):ic:=(a2n s).getD i<|.Pass #[0,0,0,0]
section
variable{D D' PO τ:Type}[Sls D][Sls D'][Sls PO][Ow τ]
def BQ{k:Nat}{C:ci}[J:Pj D PO n](r:Gl 85 x)(h:Xc K e x C)(l:(x==55)=false:=by decide)
 (q:gJ [.Constant (.str m) k mp] (85).env=(false,eval (.Constant (.str m) k mp) (85).env)::gJ [] (85).env:=by rfl)
 (o:(ja i<|gJ [] (85).env).any (·.1)=false:=by rfl) :
    S1 85 E T z n (.Raise (some<|.Call (.Name x np) [.Constant (.str m) k mp] [] i) none pos) (λ(d:D)(_:D'->Prop)(_:τ->PO->Prop) t=>t C<|J.pj d):=by
  obtain⟨u,B,p,j,v,O,y⟩:=h.ex
  exact Em<|D8 r v O y h.g0 (uY DL vi q) l q o
end
section
variable{D:Type}[Sls D]
def Qn{i:Int}(b:Gl X x)(c:X.mg x=↑(.int i t))(e:(x==55)=false:=by decide):EW X E T 97 (λ(d:D)(a:Int->D->Prop) _=>a i d) :=
 #[_,LW (v:=.int i) b c #[t,rfl] e,λd F R h H a j Q s f g _=>g i d _ F R H f 53 s rfl]
end
noncomputable def Sf(f:Int->List Int)(x:Int):List Int->Bool
 | []=>false
 |c::l=>xor (decide<|x∈f c)<|Sf f x l
def Mw{x:Int}{a:List Int}(p:a.Perm b):Sf f x a=Sf f x b:=by
 induction p with
 |nil=>rfl
 |cons c _ e=>show xor _ _=xor _ _;rw[e]
 |swap c d l=>show xor _ (xor _ _)=xor _ (xor _ _);rw[<- nM,<- nM,Bool.xor_comm<|decide<|x∈f d]
 |trans _ _ g h=>exact g.trans h
def XI{x k:Int}(h:yf l):Sf f x (KD l k)=xor (decide<|x∈f k) (Sf f x l):=by
 by_cases q:k∈l
 ·have e:KD l k=KA k l:=gI q
  have p:l.Perm (k::KA k l):=by
   refine wl (vt h) (List.nodup_cons.mpr #[λz=>(Ak.mp z).2 rfl,vt<|jM _ h]) λy=>?_;rw[im,Ak];by_cases z:y=k
   ·rw[z];simp[q]
   ·simp[z]
  rw[e,Mw p];show _=xor _ (xor _ _);rw[<- nM,Bool.xor_self,rF]
 ·have e:KD l k=Ft k l:=gl q
  have p:(Ft k l).Perm (k::l):=by refine wl (vt<|Du h) (List.nodup_cons.mpr ⟨q,vt h⟩) λy=>?_;rw[im,BN]
  rw[e,Mw p];rfl
def Qo{x:Int}:∀{b a:List Int},yf a->Sf f x (xr a b)=xor (Sf f x a) (Sf f x b)
 | [],a,_=>by show Sf f x a=xor _ false;rw[rG]
 |k::b,a,h=>by show Sf f x (xr (KD a k) b)=xor (Sf f x a) (xor (decide<|x∈f k)<|Sf f x b);rw[Qo<|Mt h,XI h,<- nM,Bool.xor_comm<|Sf f x a]
def Qp{x:Int}:∀{l:List Int} {a:List Int},(∀c∈l,(f c).Nodup)->decide (x∈(l.map f).foldl xr a)=xor (decide<|x∈a) (Sf f x l):=by
 intro d
 induction d with
 |nil=>intro a _;show decide (x∈a)=xor _ false;rw[rG]
 |cons c l b =>
  intro a h;show decide (x∈(l.map f).foldl xr (xr a<|f c))=xor _ (xor _ _);rw[b<|λy g=>h y<|gS _ g,<- nM];congr 1;have e:=Bj (l:=a) (x:=x)<|h c gO;by_cases p:x∈a<;>by_cases q:x∈f c<;>simp[p,q,e]
noncomputable def wx(f:Int->List Int)(l:List Int):List Int:=Oz<|l.map f
def zg{x:Int}(h:∀c∈l,(f c).Nodup):decide (x∈wx f l)=Sf f x l:=by unfold wx Oz;rw[Qp h];rw[ig q0o,rF]
def zh(f:Int->List Int)(l:List Int):yf (wx f l):=T0 _
def Jc(c:yf a)(d:yf b)(h:∀x,decide (x∈a)=decide (x∈b)):a=b:=GV c d λk=>by have:=h k;by_cases p:k∈a<;>by_cases q:k∈b<;>simp[p,q]at this ⊢
def Jd{x:Int}(h:∀c∈l,(f c).Nodup)(a:x∈wx f l):∃c∈l,x∈f c:=by
 have e:=zg (x:=x) h;rw[decide_eq_true a]at e;clear a
 induction l with
 |nil=>cases e
 |cons c l b =>
  by_cases q:x∈f c
  ·exact#[c,gO,q]
  ·have e:true=xor (decide<|x∈f c) (Sf f x l):=e;rw[ig q,rF]at e;obtain⟨d,g,i⟩:=b (λy j=>h y<|gS _ j) e;exact#[d,gS _ g,i]
def Ub(h:yf a)(i:yf b)(d:∀c∈a,(f c).Nodup)(g:∀c∈b,(f c).Nodup):wx f (xr a b)=xr (wx f a) (wx f b) :=
 Jc (zh _ _) (Al<|zh _ _) λx=>by rw[zg λc j=>(Qi (vt i) j).elim (d c)<|g c,Qo h,<- zg d,<- zg g];have e:=Bj (l:=wx f a) (x:=x)<|vt<|zh f b;by_cases p:x∈wx f a<;>by_cases q:x∈wx f b<;>simp[p,q,e]
def My{x:Int}:∀{l a:List Int},yf a->(∀c∈l,yf (f c)/\Sf f x (f c)=false)->Sf f x ((l.map f).foldl xr a)=Sf f x a
 | [],_,_,_=>rfl
 |c::l,a,b,h=>by show Sf f x ((l.map f).foldl xr<|xr a<|f c)=_;rw[My (Al b) λy d=>h y<|gS _ d,Qo b,(h c gO).2,rG]
def NN(h:∀c∈l,yf (f c)/\(∀d∈f c,(f d).Nodup)/\wx f (f c)=[]):wx f (wx f l)=[] :=
 Jc (zh _ _) iw λx=>by
  rw[zg,ig q0o]
  ·exact My (x:=x) (l:=l) iw λc a=>#[(h c a).1,by rw[<- zg (h c a).2.1,(h c a).2.2];rfl]
  ·intro d b;obtain⟨c,a,b⟩:=Jd (λc a=>vt (h c a).1) b;exact(h c a).2.1 d b
def xE(h:∀c∈l,f c=g c):wx f l=wx g l:=by unfold wx;rw[lU h]
structure Sv(K:gH) where
def Qq(K:gH)(R:Rg)(H:Hp)(a:ci)(b:List Int):Prop :=
 (¬R a/\Rd H a (.lst<|b.map V.int))\/∃(o:nq)(vh:Array cr)(n:Nat),K.lookup a=↑o/\o.cls=.type "list"/\o.dict=none/\o.data=.seq vh n/\vh.size<=gL/\Vals (b.map V.int) vh.toList
def Qq.sq{K:gH}(h:Qq K R H a b):v6 K H a (b.map V.int):=h.elim (λz=>.inl z.2) .inr
instance(K:gH):Rep (Sv K):=#[λR H _ v=>∃a ns,v=.ref a/\Qq K R H a ns,λ{R H R' H' x v} h e=>by
 refine e2a2 h λa ns h1 h2=>?_;refine#[a,ns,h1,?_];rcases h2 with⟨n,r⟩|r
 ·rcases r with r|⟨o,r⟩
  ·exact .inl #[e.not n r,.inl<|e.keep a _ n r]
  ·exact .inl #[e.not n r,.inr #[o,e.keep a _ n r]]
 ·exact .inr r]
def V8(K:gH):Sp:=λd H Q _=>∃(a:ci)(e:List Int),d=[.ref a]/\v6 K H a (e.map V.int)/\∀b g q c s,C9 H b->CW b g q c 0 0 s->H g=none->H q=none->Q (.ref g) b
def Qr(K:gH):Wf (Sv K×Unit) Bg (Un×Unit):=λ_ a _=>a #[] (#[],())
def V9(K:gH):Wf (Sv K×Unit) Bool (Un×Unit):=λ_ a _=>a true (#[],())
def ZZ(F:vB P w K y base Pf k f A C (V8 K)):vB P w K y base (vJ P w) k f A C (yn T<|Qr K) :=
 (V3 F).imp λD H Q E G=>e5a4 G λF R p Kn Ke s I J _=>by
  obtain⟨v,L,F1,F2,d,h2,⟨n1,u,e,a,M,N,O⟩,S⟩:=s.rel;subst e N
  match D,d with
  | [],d=>cases d
  |x::r,d =>
   injection d with U W;cases U
   have X:r=[]:=by have:=S.1;rw[<- W]at this;exact List.map_eq_nil_iff.mp this
   subst X;refine#[a,M,rfl,O.sq,λn g q j Y i B l m=>?_];have Z:Ext (λ_=>False) R H (λc=>R c\/c=g\/c=q) n:=#[λb o _ h=>i b o h,λc h=>h.elim .inl λz=>.inr<|z.elim (λz=>by rw[z];exact l) λz=>by rw[z];exact m];refine J #[] (#[],()) (.ref g) (λc=>c=g\/c=q) (λ_=>False) (λc=>R c\/c=g\/c=q) n I #[λb o _ _ h=>i b o h,Z.new,λc h=>h.elim (λz=>.inr<|z.elim (λz=>by rw[z];exact l) λz=>by rw[z];exact m) λz=>z.elim,λc h _=>.inl h] #[#[some<|.ref a,[],λ_=>False,λ_=>False,rfl,#[λ_=>#[λz=>z.elim,λz=>z.elim id id],λ_ z _=>z],λ_ z=>z,rfl,λ_ z=>z],λ_ z=>z.elim,λc h=>?_,?_,.inl s.vI,λz=>z] #[#[g,q,j,0,0,Y,rfl,λ_=>Iff.rfl,B],λc h=>.inr h,λ_ _ z=>z,λz=>?_]
   ·rcases h with h|h|h
    ·cases e:H c with
     |none=>exact g8 e<|s.wZ c h
     |some o=>rw[i c o e];simp
    ·rw[h,B.ob];simp
    ·rw[h,B.sc];simp
   ·refine e1a2 s.tab λqs e t=>?_;exact#[qs,i _ _ e,t]
   ·have:=zd s.tab;rcases z with z|z
    ·rw[z]at this;exact this l
    ·rw[z]at this;exact this m
def Mz(K:gH)(b:ci):Sp:=λc H Q _=>∃(a:ci)(d:List Int),c=[.ref a]/\v6 K H a (d.map V.int)/\TabAt H b/\∀e,Q (.bl true) e
def Z0(F:vB P w K g base (vJ P w) k f i j (yn T<|V9 K)):vB P w K g base (vJ P w) k f i j (Mz K T) :=
 F.imp λB H Q E l=>e2a4 l λa m e p b s=>by
  subst e;refine#[λ_=>False,λc=>c=T,(#[],()),λx _=>x=true,λ_ _=>False,#[#[some<|.ref a,[],λ_=>False,λ_=>False,rfl,#[λ_=>#[λz=>z.elim,λz=>z.elim id id],λ_ z _=>z],#[λ_ z=>z,_,rfl,a,m,rfl,?_],rfl,λ_ z=>z],λ_ z=>z.elim,λc h=>by rw[h];exact zd b,b,rfl,λz=>z],rfl,λx t v D G A d q c I n=>?_,λC y t J A d q=>q.elim]
  ·rcases p with r|r
   ·refine .inl #[λz=>?_,r];refine e1a2 b λL e _=>?_;rcases r with r|⟨o,r⟩
    ·rw[z,e]at r;cases r
    ·rw[z,e]at r;cases r
   ·exact .inr r
  ·obtain⟨_,u,e,r⟩:=n.is;cases e;rw[r,q];exact s d
def Z1(F:vB P w K d base (vJ P w) k f g i c)(h:∀b H Q E,c b H Q E->c b H Q XF):vB P w K d base Pf k f g i c :=
 #[F.len,λA a s H args j b Q E l m n o p=>jN (F.run A a s H args j b Q XF l m n o (h _ _ _ _ p)) λr t z=>by
  cases r with
  |error e =>
   obtain⟨_,_,_,_,_,z⟩:=z;exact z.elim
  |ok q =>
   cases q with
   |ret u=>exact z
   |next=>exact iv z
   |brk=>exact iv z
   |cont=>exact iv z]
structure Fk(P:iu)(w:iO)(K:gH)(mg:Str->Option cr)(base:iJ)(T:ci)(x:Str)(ps:List Str){A PO τ:Type}[Sls A][Sls PO][Ow τ](wf:Wf A τ PO)(k:Nat) where
 f:ci
 fd:iE
 ok:vB P w K mg base (vJ P w) k f fd ps (yn T wf)
 at_:mg x=↑(.ref f)
 kp:jb K (.ref f)=true
 bd:Binds K fd ps []
structure Fm(P:iu)(w:iO)(K:gH)(mg:Str->Option cr)(base:iJ)(T C:ci)(m:Str)(ps:List Str){A PO τ:Type}[Sls A][Sls PO][Ow τ](wf:Wf A τ PO)(k:Nat) where
 f:ci
 fd:iE
 ok:vB P w K mg base (vJ P w) k f fd ps (yn T wf)
 me:Meth K C m f
 bd:Binds K fd ps []
section
variable{P:iu}{w:iO}{K:gH}{mg:Str->Option cr}{base:iJ}{T C f:ci}{fd:iE}{x:Str}{ps:List Str}{A PO τ:Type}[Sls A][Sls PO][Ow τ]{wf:Wf A τ PO}{j k:Nat}
noncomputable def Fk.up(h:Fk P w K mg base T x ps wf j)(l:j<=k:=by decide):Fk P w K mg base T x ps wf k:=#[h.f,h.fd,h.ok.mono l,h.at_,h.kp,h.bd]
noncomputable def Fm.up(h:Fm P w K mg base T C x ps wf j)(l:j<=k:=by decide):Fm P w K mg base T C x ps wf k:=#[h.f,h.fd,h.ok.mono l,h.me,h.bd]
end
section
variable{D:Type}[Sls D]
def vo{P a B d f:Type}[Sls P][Sls a][Sls B][Sls d][Ow f][Lb d f a]{b:B->d->a->D}{j:Wf P f a}{l:D->(P->B->d->Prop)->58->Prop}{k:Nat}{m:List Str}{c:List iA}
 (h:Fk X.prog X.w X.K X.mg X.base T x m j k) (n:IV X E T (e::c) b l) (hr:wg k X.A:=by assumption) (o:Gl X x:=by exact rfl) (hx:Passes (vJ X.prog X.w) X E:=by exact AY) (g:(x==55)=false:=by decide) (q:gJ (e::c) X.env=57::gJ c X.env:=by rfl) (i:(ja pos<|gJ c X.env).any (·.1)=false:=by rfl) :
    EO X E T (.Call (.Name x p) (e::c) [] pos) (cC l j b):=BI h.ok hr o h.at_ h.kp h.bd hx n g q i
variable{τ:Type}[Ow τ]
def wz{g:List iA}(i:Nat){v P n B r q:Type}[Sls v][Sls P][Sls n][Sls B][Sls r][Sls q][Lb q τ<|Bd C j×n]{o:B->q->n->D}{y:D->(P->B->q->Prop)->58->Prop}
 {z:Wf (Bd C j×P) τ (Bd C j×n)} [S:At i D (Bd C j) v] [A:At i B (Bd C j) r] [U:Pt i r (Bd C j) B] {k:Nat} {J:List Str} {L:Sem Bool}
 (h:Fm X.prog X.w X.K X.mg X.base T C m J z k) (M:IV X E T (e::g) o y) (F:wg k X.A:=by assumption) (G:zW X.K C:=by exact A1.cl<|by assumption) (hx:Passes (vJ X.prog X.w) X E:=by exact AY) (H:PE X (.Name x s) (vw i):=by exact pv _) (N:∀a b c d u,(xX a b c d u j).lookup m=none:=by intros;rfl)
 (O:gJ (e::g) X.env=57::gJ g X.env:=by rfl) (Q:(ja pos<|gJ g X.env).any (·.1)=false:=by rfl)
 (R:eval (.Call (.Attribute (.Name x s) m apos) (e::g) [] pos) X.env=(do
 let I <- eval (.Name x s) X.env
 my apos.atName
 let (f,first) <- kF [I] (lY I m L)
 mO pos f first (ja pos (gJ (e::g) X.env)) (mq pos (kA [] X.env))):=by rfl) :
    EO X E T (.Call (.Attribute (.Name x s) m apos) (e::g) [] pos) (cM y z A.get λb l p=>o (U.put (A.hole b) p.1) l p.2) :=
  Qk i h.ok F G h.me h.bd hx H N (λt=>SN H G h.me h.ok F h.bd .nil hx t O Q R) M
def Je(i:Nat){g:Type}[Sls g]{n:Wf (Bd C e×Unit) τ (Bd C e×Unit)}[A:At i D (Bd C e) g][U:Pt i g (Bd C e) D]{k:Nat}{t:List Str}{v:Sem Bool}
 (h:Fm X.prog X.w X.K X.mg X.base T C m t n k) (o:wg k X.A:=by assumption) (p:zW X.K C:=by exact A1.cl<|by assumption) (q:Passes (vJ X.prog X.w) X E:=by exact AY) (r:PE X (.Name x j) (vw i):=by exact pv _) (z:∀a b c d u,(xX a b c d u e).lookup m=none:=by intros;rfl)
 (B:eval (.Call (.Attribute (.Name x j) m apos) [] [] pos) X.env=(do
 let s <- eval (.Name x j) X.env
 my apos.atName
 let (f,first) <- kF [s] (lY s m v)
 mO pos f first (ja pos (gJ [] X.env)) (mq pos (kA [] X.env))):=by rfl) :
    EO X E T (.Call (.Attribute (.Name x j) m apos) [] [] pos) (λ(d:D)(F:τ->D->Prop) G=>n (A.get d,()) (λy l=>F y<|U.put (A.hole d) l.1)<|λC l=>G C<|U.put (A.hole d) l.1) :=
  Ql i h.ok o p h.me h.bd q r z (OT r p h.me h.ok o h.bd .nil q B)
end
end WL
namespace WL
open PySem L2
open Rep (rp)
open Ow (sl)
open Sls (rel)
section
structure Dq(K:gH)(x:Str)(st:ic):Prop where
 ex:∃f fd,hJ K g9 x=↑(some<|.ref f)/\yX K x x st f fd
structure Mq(K:gH)(C:ci)(m q:Str)(st:ic):Prop where
 ex:∃f fd,Meth K C m f/\yX K m q st f fd
def Z2{b:ic}{e:cr}(a:hJ K g9 x=↑(some<|.ref f))(l:K.lookup f=some #[i,j,.func<|jv x x (vV b) (vA b) (uQ b) .none e g pm m d n,h])
 (c:jm K d x=true)(k:jb K (.ref f)=true):Dq K x b:=#[_,_,a,DV l c k]
def Z3{b:ic}{e:cr}(a:ii K (.ref C) x=↑(some<|.ref f))(i:oq K (.ref f)=true)(l:K.lookup f=some #[j,m,.func<|jv x q (vV b) (vA b) (uQ b) .none e g pm n d o,h])
 (c:jm K d q=true)(k:jb K (.ref f)=true):Mq K C x q b:=#[_,_,#[a,i,k],DV l c k]
noncomputable def Dq.f{x:Str}{a:ic}(q:Dq K x a):ci:=q.ex.choose
noncomputable def Dq.d{x:Str}{a:ic}(q:Dq K x a):iE:=q.ex.choose_spec.choose
noncomputable def Mq.f{x q:Str}{a:ic}(m:Mq K C x q a):ci:=m.ex.choose
noncomputable def Mq.d{x q:Str}{a:ic}(m:Mq K C x q a):iE:=m.ex.choose_spec.choose
def Dq.fn{a:ic}(q:Dq K x a)(X:K.In h)(G:h.Ns g9 j)(c:List Str)
 (b:∀(k e l:cr)(m:Option ci)(g n:cr)(i:List cr),i.length=c.length->sO (jv x x (vV a) (vA a) (uQ a) .none k e l m g n) #[i,[]]=pure (c.zip i)):Fn K j x a c q.f q.d :=
  have h:=q.ex.choose_spec.choose_spec;#[h.2,i4 X G h.1,h.2.binds b]
def Mq.fn{a:ic}(m:Mq K C x q a)(c:List Str)
 (b:∀(j e k:cr)(l:Option ci)(g n:cr)(i:List cr),i.length=c.length->sO (jv x q (vV a) (vA a) (uQ a) .none j e k l g n) #[i,[]]=pure (c.zip i)):Mf K C x q a c m.f m.d :=
  have h:=m.ex.choose_spec.choose_spec;#[h.2,h.1,h.2.binds b]
variable[L2.GX]
noncomputable def Fn.fk{x:Str}{h:ic}{a:List Str}{f:ci}{b:iE}{A c d:Type}[Sls A][Sls c][Ow d]{e:Wf A d c}{k:Nat}(N:Fn K g x h a f b)(o:vB P w K g base (vJ P w) k f b a (yn T e)):Fk P w K g base T x a e k:=#[f,b,o,N.at_,N.fn.kp,N.bd]
noncomputable def Mf.fm{x q:Str}{g:ic}{a:List Str}{f:ci}{b:iE}{A c d:Type}[Sls A][Sls c][Ow d]{e:Wf A d c}{k:Nat}(N:Mf K C x q g a f b)(o:vB P w K h base (vJ P w) k f b a (yn T e)):Fm P w K h base T C x a e k:=#[f,b,o,N.me,N.bd]
end
variable[L2.GX]
def a0Y{X:Cx}{E:XK}{T:ci}{f:List Nat}{n:Nat}{D g PO j:Type}[Sls D][Sls g][Sls PO][Ow j]{a:List ic}{w k:D->(g->Prop)->(j->PO->Prop)->79->Prop}(h:SW X E T f n a w)(i:∀d b c e,k d b c e->w d b c e):SW X E T f n a k :=
 let ⟨t,l,m⟩:=h
 #[t,l,λd F R o H b c e p s q=>m d F R o H b c e p s<|i d b c e q]
end WL
namespace WL
open PySem L2
open Rep (rp)
open Ow (sl)
open Sls (rel)
structure Cq where
 P:iu
 w:iO
 K:gH
 mg:Str->Option cr
 base:iJ
 T:ci
structure Bz(K:gH):Prop where
 all:hJ K g9 "all"=↑none
 zip:hJ K g9 "zip"=↑none
 set:hJ K g9 "set"=↑none
 sorted:hJ K g9 "sorted"=↑none
 len:hJ K g9 "len"=↑none
 list:hJ K g9 "list"=↑none
 isinstance:hJ K g9 "isinstance"=↑none
 int:hJ K g9 "int"=↑none
 bool:hJ K g9 "bool"=↑none
 range:hJ K g9 "range"=↑none
 enumerate:hJ K g9 "enumerate"=↑none
 tuple:hJ K g9 "tuple"=↑none
 min:hJ K g9 "min"=↑none
 max:hJ K g9 "max"=↑none
 str:hJ K g9 "str"=↑none
structure Bn(mg:Str->Option cr):Prop where
 all:mg "all"=none
 zip:mg "zip"=none
 set:mg "set"=none
 sorted:mg "sorted"=none
 len:mg "len"=none
 list:mg "list"=none
 isinstance:mg "isinstance"=none
 int:mg "int"=none
 bool:mg "bool"=none
 range:mg "range"=none
 enumerate:mg "enumerate"=none
 tuple:mg "tuple"=none
 min:mg "min"=none
 max:mg "max"=none
 str:mg "str"=none
def Bz.bn{K:gH}(X:K.In h)(G:h.Ns g9 a)(z:Bz K):Bn a :=
 let f:=λ{x:Str} (e:hJ K g9 x=some none)=>tz X G e
 #[f z.all,f z.zip,f z.set,f z.sorted,f z.len,f z.list,f z.isinstance,f z.int,f z.bool,f z.range,f z.enumerate,f z.tuple,f z.min,f z.max,f z.str]
variable[L2.GX]
abbrev xi(q:Cq)(x:Str)(c:List Str){A a b:Type}[Sls A][Sls a][Ow b](d:Wf A b a)(k:Nat):=Fk q.P q.w q.K q.mg q.base q.T x c d k
abbrev zN(q:Cq)(C:ci)(x:Str)(c:List Str){A a b:Type}[Sls A][Sls a][Ow b](d:Wf A b a)(k:Nat):=Fm q.P q.w q.K q.mg q.base q.T C x c d k
abbrev Gq(q:Cq)(k:Nat)(f:ci)(c:iE)(d:List Str){A a b:Type}[Sls A][Sls a][Ow b](e:Wf A b a):Prop:=vB q.P q.w q.K q.mg q.base (vJ q.P q.w) k f c d<|yn q.T e
abbrev Dg(q:Cq)(x:Str)(a:ic)(f:ci)(b:iE):Prop:=yX q.K x x a f b
@[reducible] def wSq{D c e a b:Type}(h:D->(e->Prop)->(b->a->Prop)->(ci->a->Prop)->Prop)(i:e->(c->Prop)->(b->a->Prop)->(ci->a->Prop)->Prop):D->(c->Prop)->(b->a->Prop)->(ci->a->Prop)->Prop:=λd j f g=>h d (λk=>i k j f g) f g
def vg{c:List Nat}{n:Nat}{D h d b e:Type}[Sls D][Sls h][Sls d][Sls b][Ow e]{i:ic}{a:List ic}{f:D->(d->Prop)->(e->b->Prop)->(ci->b->Prop)->Prop}{g:d->(h->Prop)->(e->b->Prop)->(ci->b->Prop)->Prop}(j:S1 X E T c n i f)(k:SW X E T c n a g)(l:Ss b c n:=by exact vC q0q) :
  SW X E T c n (i::a) (wSq f g):=Dr (w1:=f) (w2:=g) l j k
end WL
namespace L2
variable[L2.GX]
open PySem PySem.Spec PyProof.Rows
structure Qs(N P:List Str)(sc:lV)(cl:List (Str×ci)):Prop where
 kind:sc.kind=.function
 co:sc.isCoroutine=false
 gen:sc.isGenerator=false
 nd:N.Nodup
 pre:N.take P.length=P
 par:∀x∈P,sc.names.lookup x=some .local
 Bh:∀y∈sc.names,y.2≠.cell
 has:∀x,sc.names.lookup x=some .free->∃c,cl.lookup x=↑c
 inj:∀x y c,cl.lookup x=↑c->cl.lookup y=↑c->x=y
noncomputable def KH(CX:OS)(P:iu)(w:iO)(K:gH)(mg:Str->Option cr)(base:iJ)(N:List Str)(qual:Str)(scope:lV)(f:ci)(cd:cr)(cl:List (Str×ci))(A:jq)(outer:List Env)(s:gN)(H:Hp)(E:XK):Cx where
 prog:=P
 w:=w
 K:=K
 mg:=mg
 base:=base
 A:=A.deeper<|iR qual scope ⇑s f cd cl
 N:=N
 s₀:=s
 H₀:=H
 env:=iR qual scope ⇑s f cd cl
 outer:=outer
 stack:=iR qual scope ⇑s f cd cl::outer
 ex:=[]
 calm:=true
 fn:=λ_=>false
 pn:=[]
 xe:=λe s'=>gR (gU P w) (A.deeper<|iR qual scope ⇑s f cd cl) (uu (iR qual scope ⇑s f cd cl) e) (λ_ SO=>CX outer H s E e SO) (λe' SO=>CX outer H s E e' SO) s'
section
variable{P:iu}{w:iO}{K:gH}{mg:Str->Option cr}{base:iJ}{N ps:List Str}{qual:Str}{scope:lV}{f:ci}{cd:cr}{cl:List (Str×ci)}{A:jq}{outer:List Env}{s:gN}{H:Hp}{E:XK}
def Qt:Passes (vJ P w) (KH (vJ P w) P w K mg base N qual scope f cd cl A outer s H E) E:=by intro a i j k e l I h;obtain⟨C,x,b,rfl,F,c⟩:=h;exact iW (PL I rfl rfl F) (λ_ d g=>#[C,x,b,rfl,g,c]) λ_ _ z=>z
def Qu:∀{l:List (Str×d)},(l.map (·.1)).Nodup->(x,u)∈l->l.lookup x=↑u:=by
 intro l
 induction l with
 |nil=>intro _ h;cases h
 |cons p l b =>
  intro a h;rw[ik,List.nodup_cons]at a;obtain⟨y,v⟩:=p;rcases List.mem_cons.mp h with z|z
  ·cases z;rw[iC,ph]
  ·have c:(x==y)=false:=beq_eq_false_iff_ne.mpr λe=>a.1 (by rw[<- e];exact List.mem_map.mpr #[_,z,rfl]);rw[iC,c];exact b a.2 z
def Jf:∀(ps:List b)(a:List c),((ps.zip a).map (·.1)).Sublist ps
 | [],_=>by simp
 |_::_,[]=>by simp
 |p::ps,u::a=>by rw[List.zip_cons_cons,ik];exact(Jf ps a).cons₂ p
def Uc{ps:List Str}{i:Nat}(b:ps.Nodup)(c:ps[i]?=↑x)(d:a[i]?=↑u):(ps.zip a).reverse.lookup x=↑u:=by
 refine Qu ?_ ?_
 ·rw[List.map_reverse];refine List.pairwise_reverse.mpr<|oT Ne.symm ?_;exact b.sublist<|Jf ps a
 ·rw[List.mem_reverse];refine List.mem_iff_getElem?.mpr #[i,?_];rw[List.getElem?_zip_eq_some];exact#[c,d]
def KI{j:iJ}{D:Nat}{k:List V}(S:Qs N ps scope cl)(C:∀x c,cl.lookup x=↑c->∃v,base.IsCell c v)(F:A.handled=none)(g:Iy P w K mg base A outer s H)(R:k.length=ps.length)(r:Vals k G)
 (I:j.Ns ⇑s (λx=>(ps.zip G).reverse.lookup x))(t:∀b o,s.heap.get? b=↑o->j.get? b=↑o):Inv (KH J P w K mg base N qual scope f cd cl A outer s H E) [] (start N k) H { s with heap:=j,toks:=D}:=by
  have L:ps.length<=N.length:=by have:=congrArg nZ S.pre;rw[lJ]at this;lia
  have l:∀b:ci,b∉(KH J P w K mg base N qual scope f cd cl A outer s H E).ex:=λb z=>g8 (show b∈([]:List ci) from z) q0o
  refine#[#[g.mod,S.kind,rfl,rfl,gK _,λy z c j d=>S.inj y z c j d,λy m=>?_,λy c z _=>(by cases z),λ_=>F,sF g.frames,.inr #[rfl,rfl],λb z=>g8 z (l b),g.bs,g.Io,λb _ _=>l b,λb z=>g8 z (l b),g.yy,g.JL],
    rfl,g.bare,Un.kept t,#[_,I,λi y v j d T=>?_],λy c h=>?_,g.vL.fresh (gK _),λy c h=>?_,λp n=>g8 (show p∈([]:List (ci×Obj)) from n) q0o,g.vL.kept t,?_]
  · have m : scope.names.lookup y = some .cell \/ scope.names.lookup y = some .free := m
    rcases m with m|m
    · exact g8 rfl<|S.Bh _<|jY m
    · exact S.has y m
  · have q : i<k.length := by
      unfold start at d
      by_cases q:i<k.length
      · exact q
      · rw[jK<|by simpa using q]at d
        rw[sr]at d
        split at d<;>cases d
    have M:k[i]?=↑v:=by
      unfold start at d
      rw[lN (by simpa using q),jy]at d
      cases e:k[i]? with
      |none=>rw[e]at d;cases d
      |some a=>rw[e]at d;cases d;rfl
    refine e1a2 (r.get M) λu O Q=>?_
    have n:ps[i]?=↑y:=by rw[<- S.pre,rS q0a];exact j
    have B:ps.Nodup:=by rw[<- S.pre];exact S.nd.sublist<|uv _ _
    exact#[u,Q,.inl #[S.par y<|ju n,Uc B n O]]
  · obtain⟨v, z⟩ := C y c h
    exact#[v,z.keeps λb o e=>t b o (g.bs b o e).1]
  · refine e2a2 (C y c h) λv o z _ => ?_
    exact(g.bs c o z).2
  · unfold start
    show _=N.length
    rw[gW,gM,sP]
    lia
end
def PEA(X:Cx)(c:List ic)(e:iA)(t:TE):Prop :=
 ∀(a:List (ci×Obj)) (s:gN) (b:St) (H:Hp) (Q:VK),Inv X a b H s->t b H Q->tW 19 X.A (.func c X.env) (eval e X.env) (EP X a b Q) X.xe s
def PSA(X:Cx)(c:List ic)(d:ic)(t:TS):Prop :=
 ∀(a:List (ci×Obj)) (s:gN) (b:St) (H:Hp) (D:Ends),Inv X a b H s->t D b H->tW 19 X.A (.func c X.env) (exec d X.env) (SP X a D) X.xe s
def Qv(X:Cx)(c:List ic)(d:List ic)(t:TS):Prop :=
 ∀(a:List (ci×Obj)) (s:gN) (b:St) (H:Hp) (D:Ends),Inv X a b H s->t D b H->tW 19 X.A (.func c X.env) (execs d X.env) (SP X a D) X.xe s
section
variable{fb:List ic}{pos:Pos}
def Qw{b:ic}(h:PS X b t):PSA X fb b t:=λa s c H D I q=>wpAt_of_wpAny<|h a s c H D I q
def Dy{b:List ic}(h:Fb X b t):Qv X fb b t:=λa s c H D I q=>wpAt_of_wpAny<|h a s c H D I q
def yu{e:ic}{a:List ic}(g:PSA X fb e h)(i:Qv X fb a j):Qv X fb (e::a) (JT h j):=λb s k H D I q=>by
 refine ks_wpAt_execs_cons<|ro (g b s k H _ I q) (λf l c=>?_) λ_ _ z=>z
 cases f with
 |next=>obtain⟨d,m,J,n⟩:=c;exact i b l d m D J n
 |brk=>exact c
 |cont=>exact c
 |ret u=>exact c
def Ud(h:PEA X fb e t):PSA X fb (.Return ↑e pos) (Wv t):=λa s b H D I q =>
 ks_wpAt_Return_some (ro (h a s b H _ I q) (λu g c=>e2a3 c λv d J r f=>#[v,b,d,J,r,f]) λ_ _ z=>z)
def Ev(h:PEA X fb e t)(c:jx e none pos.line X.env=pure false:=by rfl):PSA X fb (.Expr e pos) (FF t):=λa s b H D I q =>
 ks_wpAt_Expr_any (ro (h a s b H _ I q) (λu i d=>e2a3 d λv f J r g=>#[b,f,J,g]) λ_ _ z=>z) I.quiet c
end
structure KJ(P:iu)(K:gH)(C f zk cc:ci)(x0:Str):Prop where
 fn:∃(oc:cr)(od:Option ci)(fd:iE) (No:Array (Option cr)) (ar:Arg),K.lookup f=some #[oc,od,.func fd,No]/\(fd.params.posonlyargs++fd.params.args).head?=↑ar/\ar.arg=x0
 code:∃(oc:cr)(od:Option ci)(vs:Array cr) (No:Array (Option cr)) (file:Str) (tf:Tok),K.lookup zk=some #[oc,od,.fields vs,No]/\vs[2]?=↑(.str file tf)/\((P.main.file:Str)==file)=true
 cell:∃(oc:cr)(od:Option ci) (No:Array (Option cr)),K.lookup cc=some #[oc,od,.cell<|some<|.ref C,No]
 cls:∃cd,mG K C=↑cd
 sub:kD K C (.ref C)=↑true
 opq:hJ K rj "thirdparty.any"=↑none
 top:(P.main.scope.names.lookup ("super":Str)).isSome=false
def Z4(C:ci)(c:Sp)(E:XK)(t:TA):TE:=λb H Q=>∃a d e,b[0]?=↑(some<|.ref a)/\H a=some (.ins C d e)/\t b H λf g=>c (.ref a::f) g Q E
def Qx(K:gH)(h:ci)(c:Pos)(f:List iA)(d:Env):Prop:=∀{M:Model} {B:jq} {Q e:cr->gN->Prop} {g:gN} {q a:ci},
 gR M B (ur<|ja c<|gJ f d) (λi b=>rq K q h (.ref a) b.heap/\gR M B (call (.ref q) i) Q e b) e g->gR M B (mO c (.ref q) [] (ja c<|gJ f d) []) Q e g
def NO(d e b c:Pos)(m:Str)(f:List iA):Prop:=∀a:Env,∃h:Sem Bool,eval (.Call (.Attribute (.Call (.Name "super" d) [] [] e) m b) f [] c) a=(do
 let g <- iD (.Call (.Name "super" d) [] [] e) m a (eval (.Call (.Name "super" d) [] [] e) a)
 my b.atName
 let (i,first) <- kF [g] (lY g m h)
 mO c i first (ja c (gJ f a)) [])
def cw_nil{K:gH}(b:ml K f2=true):Qx K f2 pos [] c:=λ{M B Q e f q a} h=>by refine pi (P:=rq K q f2<|.ref a) rfl (uk b) ?_;refine am<|iW h (λg i d=>?_) λ_ _ x=>x;refine iz ?_;exact am<|ap<|am<|ap<|ap d
def cw_cons{K:gH}(f:ml K f2=true)(g:gJ (e::d) b=(false,eval e b)::gJ d b:=by rfl)(c:(ja pos<|gJ d b).any (·.1)=false:=by rfl):Qx K f2 pos (e::d) b:=λ{M B Q i j q a} h=>by rw[g]at h ⊢;exact pi (P:=rq K q f2<|.ref a) (by show ((false||(ja pos<|gJ d b).any (·.1))||false)=false;rw[c];rfl) (uk f)<|js h
section
variable{P:iu}{w:iO}{K:gH}{mg:Str->Option cr}{base:iJ}{N ps:List Str}{qual:Str}{scope:lV}{f zk cc:ci}{A:jq}{outer:List Env}{s:gN}{H:Hp}{E E0:XK}{C f2:ci}{x0 m:Str}{k:Nat}{Z5:iE}{sp:Sp}{fb:List ic}{p0 p1 apos pos:Pos}{es:List iA}{ta:TA}
set_option tactic.hygienic true in
def G7(S:KJ P K C f zk cc x0)(ab:N[0]?=↑x0)(M:scope.names.lookup ("super":Str)=some .globalImplicit)(R:scope.names.lookup ("__class__":Str)=some .free)(x:scope.names.lookup x0=some .local)(ae:mg "super"=none)
 (hm:jO K C C m=↑(some<|.ref f2)) (ht:oQ K (.ref f2)=↑(.type "function")) (aq:ml K f2=true) (F:vB P w K mg base (vJ P w) k f2 Z5 ps sp) (T:Binds K Z5 ps [])
 (hr:wg k (A.deeper<|iR qual scope ⇑s f (.ref zk) [72])) (ha:PA 91 es ta)
 (af:Qx K f2 pos es (iR qual scope ⇑s f (.ref zk) [72])) (y:NO p0 p1 apos pos m es) (U:(m==("__class__":Str))=false:=by decide) :
    PEA 91 fb (.Call (.Attribute 84 m apos) es [] pos) (Z4 C sp E ta):=by
  intro l i σ H1 Q I h
  obtain⟨a,dx,fs,h0,ea,h⟩:=h
  have X:=I.yG
  obtain⟨oc,od,fd,au,ar,lf,hp,rfl⟩:=S.fn
  obtain⟨av,aw,ax,al,file,tf,lc,ag,B⟩:=S.code
  obtain⟨an,ao,aa,D⟩:=S.cell
  obtain⟨cd,j⟩:=S.cls
  obtain⟨mA,O,_,_,_,_⟩:=Bq I.vL ea
  refine e1a2 I.loc λmL hn hl=>?_
  refine e1a2 (hl 0 ar.arg (.ref a) ab h0<|.inl x) λu ru lk=>?_
  obtain rfl:u=hO a:=ru
  have ah:mL ar.arg=↑(.ref a):=by
    rcases lk with⟨_,q⟩|⟨q,_⟩
    · exact q
    · have q : scope.names.lookup ar.arg = some .cell \/ scope.names.lookup ar.arg = some .free := q
      rw[x]at q
      rcases q with q|q<;>cases q
  obtain⟨oD,G,J⟩:∃oD,i.heap.get? C=some oD/\oD.data=.cls cd:=by
    unfold mG at j
    split at j
    · rename_i c d ay sl ho
      cases j
      exact#[_,X _ _ ho,rfl]
    · cases j
  refine e1a2 I.mod.blt λmb ai aj=>?_
  have ne:a≠C:=λz=>by
    have:=O.obj
    rw[z,G]at this
    cases this
    cases J
  obtain⟨pl,y⟩:=y<|iR qual scope ⇑s f (.ref zk) [72]
  refine ks_wpAt_MethodCall (pl:=pl) (ks_wpAt_super_base (env:=iR qual scope ⇑s f (.ref zk) [72]) M R U rfl (X _ _ lf) rfl hp rfl (X _ _ lc) rfl ag B S.top ?_) y
  refine qR I.ok.kind M<|nX (env:=iR qual scope ⇑s f (.ref zk) [72]) (I.mod.glob.keeps I.bk) ae (ai.keeps I.bk) ((aj _ q0s).trans rfl) #[rfl,?_]
  refine qt I.ok.kind R rfl #[_,X _ _ D,rfl] ?_
  refine kJ I.ok.kind x hn ah ?_
  refine ks_wpAny_isType_cls (h:=i.heap) (g:=i.gens) (d:=i.drawn) (t:=i.toks) (os:=i.os) G J #[rfl,?_]
  refine ks_wpAny_call_super (h:=i.heap) (g:=i.gens) (d:=i.drawn) (t:=i.toks) (os:=i.os) G J O.obj rfl (λc e=>by cases e) (pq X S.sub) λn e k'=>?_
  have L:Inv _ l σ H1 #[n,i.gens,i.drawn,i.toks,i.os]:=I.kept (t':=i.toks) k'
  unfold jO at hm
  rw[j]at hm
  obtain⟨of,ak,Y⟩:∃of,n.get? f2=some of/\of.cls=.type "function":=by
    have p:(K.lookup f2).map (·.cls)=↑(.type "function"):=ht
    cases z:K.lookup f2 with
    |none=>rw[z]at p;cases p
    |some of=>rw[z]at p;exact#[of,L.yG _ _ z,iT p]
  refine ks_wpAny_getMethod_super e (sy L.yG S.opq) (l₀:=cd.mro) (λA Q E s k q=>am<|(o7 L.yG j) A _ E s k<|ap q) rfl L.yG hm ak Y ne U ?_
  have I2:Inv _ l σ H1 #[n.push { cls:=.type "method",data:=.fields #v[.ref f2,.ref a]},i.gens,i.drawn,i.toks+1,i.os]:=L.kept (t':=i.toks+1) λb o z=>ce _ z
  have fr:H1 n.objs.size=none:=L.vL.fresh<|gK _
  have gq:(n.push { cls:=.type "method",data:=.fields #v[.ref f2,.ref a]}).get? n.objs.size=↑(mh (.ref f2)<|.ref a):=oi rfl rfl
  have I3:=I2.pinned (fp:=[n.objs.size]) (λb T=>by rw[List.mem_singleton.mp T];exact L.Gk (gK _) fr) λb T=>by rw[List.mem_singleton.mp T];exact#[_,gq,λv z=>by cases z]
  refine af (a:=a)<|vG (ha pos _ _ σ H1 _ I3 h) λZ s2 z9=>e2a3 z9 λvs H2 I4 r q2=>?_
  have g2:s2.heap.get? n.objs.size=↑(mh (.ref f2)<|.ref a):=(I4.pin (n.objs.size,mh (.ref f2)<|.ref a)<|hV _<|hV _<|xu gO gq).1
  refine#[#[g2,I4.yG],?_]
  have I5:=I4.zS
  have r2:Vals (.ref a::vs) (.ref a::Z):=.cons rfl r
  have hl:(hO a::Z).length=ps.length:=by rw[<- r2.length];exact F.len _ _ _ _ q2
  refine mD<|ks_codeAny_call_bound g2<|jN (F.run _ _ s2 H2 ⟨.ref a::Z,[]⟩ (.ref a::Z) (.ref a::vs) Q E hr I5.Iz (by simpa using T s2 (.ref a::Z) I5.yG (by simpa using hl)) r2 q2) λr s' hq=>?_
  cases r with
  |error e=>exact Qt l σ H2 s2 e s' I5 hq
  |ok fl =>
    cases fl with
    |ret u=>exact I5.after hq
    |next=>exact iv hq
    |brk=>exact iv hq
    |cont=>exact iv hq
def G8{O:cr}(lk:K.lookup f=some #[oc,od,.func<|kC name qual g a scope i dV O F pm an d ct,aa])(R:jm K d qual=true)
 (S:Qs N ps scope i) (hc:∀x c,i.lookup x=↑c->∃o v,K.lookup c=↑o/\o.data=.cell v) (G:∀j H Q E,sp j H Q E->j.length=ps.length)
 (z:∀(A:jq)(outer:List Env)(s:gN)(H:Hp)(j:List V)(Q:VK)(E:XK),wg k (A.deeper (iR qual scope ⇑s f d i))->sp j H Q E ->
 ∃t,Qv (KH (vJ P w) P w K mg base N qual scope f d i A outer s H E) a a t/\t { nx:=λ_ p=>Q .wq p,rt:=Q} (start N j) H) :
    vB P w K mg base (vJ P w) (k+1) f (kC name qual g a scope i dV O F pm an d ct) ps sp:=by
  refine#[G,λA outer s H args us j Q E T B hb r L=>?_]
  have hl:=G _ _ _ _ L
  have KX:K.In s.heap:=B.mod.Bm.keeps λb o e=>(B.bs b o e).1
  have U:s.heap.NoLimit:=B.mod.nolimit.keeps λb o e=>(B.bs b o e).1
  have l:∀x c,i.lookup x=↑c->∃v,base.IsCell c v:=λx c h=>by
    refine e2a2 (hc x c h) λo v q1 q2=>?_
    exact#[v,o,B.mod.Bm _ _ q1,q2]
  refine ks_codeAny_call_defAt (fd:=kC name qual g a scope i dV O F pm an d ct) (body:=a) (binds:=ps.zip us) T.depth (KX _ _ lk) rfl U (sQ KX R) rfl hb S.Bh (λy hy=>S.par y.1 (oS hy).1) (λh1 X Y=>?_) S.co S.gen S.kind
  refine e1a2 (z A outer s H j Q E (T.deeper _) L) λt ht hq=>?_
  have I:Inv (KH (vJ P w) P w K mg base N qual scope f d i A outer s H E) [] (start N j) H { s with heap:=h1,toks:=s.toks+(ps.zip us).length}:=KI S l T.hd B hl r X Y
  refine ro (ht [] _ (start N j) H _ I hq) (λfl Z D=>?_) λe Z D=>D
  have M:∀{n:St} {p:Hp} {v:V} {u:cr},Inv (KH (vJ P w) P w K mg base N qual scope f d i A outer s H E) [] n p Z->RelV v u->Q v p->CE outer P w H s Q u Z :=
    λ{n p v u} J rv q=>#[v,p,J.os,J.bare,J.base,J.vL,rv,q]
  cases fl with
  |ret u =>
    obtain⟨v,n,p,J,rv,q⟩:=D
    exact M J rv q
  |next =>
    refine e2a2 D λn p J q=>?_
    exact M (v:=V.wq) (u:=Value.none) J rfl q
  |brk =>
    refine e2a2 D λ_ _ _ q=>?_
    exact iv q
  |cont =>
    refine e2a2 D λ_ _ _ q=>?_
    exact iv q
end
end L2
namespace WL
variable[L2.GX]
open PySem L2
open Rep (rp)
open Ow (sl)
open Sls (rel)
structure xt(N P:List Str)(sc:lV):Prop where
 kind:sc.kind=.function
 co:sc.isCoroutine=false
 gen:sc.isGenerator=false
 nd:N.Nodup
 pre:N.take P.length=P
 par:∀x∈P,sc.names.lookup x=some .local
 Bh:∀y∈sc.names,y.2≠.cell
 fr:∀y∈sc.names,y.2=.free->y.1="__class__"
 ks:sc.names.lookup ("super":Str)=some .globalImplicit
 kc:sc.names.lookup ("__class__":Str)=some .free
def xt.x{N P:List Str}{sc:lV}(S:xt N P sc)(cc:ci):Qs N P sc [72] :=
 #[S.kind,S.co,S.gen,S.nd,S.pre,S.par,S.Bh,λx h=>#[cc,by have e:x="__class__":=S.fr _ (jY h) rfl;rw[e];rfl],λx y c h1 h2=>by
  have q:∀{z:Str},([(("__class__":Str),cc)]:List (Str×ci)).lookup z=↑c->z="__class__":=λ{z} h=>by
   by_cases e:(z==("__class__":Str))=true
   ·exact eq_of_beq e
   ·rw[iC,Bool.eq_false_iff.mpr e]at h;cases h
  rw[q h1,q h2]]
structure BR(P:iu)(K:gH)(C:ci)(x qual:Str)(st:ic)(f:ci)(fd:iE):Prop where
 ex:∃(oc:cr)(od:Option ci)(kV doc pm:cr)(an:Option ci)(zk cc:ci)(ct:cr) (No:Array (Option cr)),
  fd=kC x qual (vV st) (vA st) (uQ st) [72] .none kV doc pm an (.ref zk) ct/\K.lookup f=some #[oc,od,.func fd,No]/\jm K (.ref zk) qual=true/\KJ P K C f zk cc "self"
 kp:jb K (.ref f)=true
structure Sm(K:gH)(C:ci)(m:Str)(f2:ci):Prop where
 find:jO K C C m=↑(some<|.ref f2)
 ty:oQ K (.ref f2)=↑(.type "function")
 fn:ml K f2=true
structure Fs(P:iu)(w:iO)(K:gH)(mg:Str->Option cr)(base:iJ)(C:ci)(m:Str)(ps:List Str)(sp:Sp)(k:Nat):Prop where
 ex:∃f2 Z5,Sm K C m f2/\vB P w K mg base (vJ P w) k f2 Z5 ps sp/\Binds K Z5 ps []/\mg "super"=none
def Ue{B b i:Type}[Sls B][Sls b][Ow i]{k:Bool}{l:Wf (Bd C k×B) i b}{c:List V}(h:yn T l c H Q E):∃a d m r,c=.ref a::r/\H a=↑(.ins C d m):=by
 obtain⟨F,R,p,o,q,s,_⟩:=h;obtain⟨v,n,t,u,e,_,⟨a,d,w,x,y,z,A,j,_,g⟩,_⟩:=s.rel;subst j
 cases c with
 |nil=>cases e
 |cons v r=>injection e with f j;injection f with f;subst f;exact#[a,d,_,r,rfl,g.ob]
def xY{o:ic}{d:List Str}{k:Nat}{B t X:Type}[Sls B][Sls t][Ow X]{fl:Bool}{u:Wf (Bd C fl×B) X t}{p:List iA} 
 (F:BR P K C x l o f fd) (S:xt d d (uQ o)) (v:vA o=[.Return (some<|.Call (.Attribute 84 m apos) p [] pos) p2]) (Y:d[0]?=↑("self":Str)) (z:NO p0 p1 apos pos m p) (G:Fs P w K Z base C m d (yn T u) k)
 (ha:∀(g n:ci)(A:jq)(b:List Env)(s:gN)(H:Hp)(E:XK),PA (KH (vJ P w) P w K Z base d l (uQ o) f (.ref g) [("__class__",n)] A b s H E) p ta)
 (I:∀(a:ci)(r:List V)(H:Hp)(Q:List V->Hp->Prop),r.length+1=d.length->Q r H->ta ((V.ref a::r).map some) H Q) (J:∀(q:ci)(L:Env),ml K q=true->Qx K q pos p L) (N:(m==("__class__":Str))=false:=by decide) :
    vB P w K Z base (vJ P w) (k+1) f fd d (yn T u):=by
  obtain⟨oc,od,kV,aa,pm,an,g,n,ct,ab,rfl,lk,O,D⟩:=F.ex
  refine e2a4 G.ex λq ae M G hb R=>?_
  obtain⟨o1,o2,o3,i⟩:=D.cell
  refine G8 lk O (S.x n) (λy c h=>?_) G.len λA b s H vs Q E hr j=>?_
  · have e : c = n := by
      by_cases e:(y==("__class__":Str))=true
      · rw[iC, e]at h; cases h; rfl
      · rw[iC, Bool.eq_false_iff.mpr e]at h; cases h
    subst e
    exact#[_,_,i,rfl]
  · have hl := G.len _ _ _ _ j
    obtain⟨a,dx,fs,r,rfl,ea⟩:=Ue j
    have U:start d (V.ref a::r)=(V.ref a::r).map some:=by unfold L2.start;rw[hl,qC];simp
    refine#[JT (Wv<|Z4 C (yn T u) E ta) VD,?_,?_]
    · rw[v]
      exact yu (Ud<|G7 D Y S.ks S.kc (S.par _<|ju Y) R M.find M.ty M.fn G hb hr (ha g n A b s H E) (J q _ M.fn) z N)<|Dy zo
    · rw[U]
      exact#[a,dx,fs,rfl,ea,I a r H _ hl j]
class Fu(D:Type)[Sls D]:Prop where
 fu:∀{F R:Rg} {H:Hp} {d:D} {σ:St},rel F R H d σ->∃vs:List V,σ=vs.map some
instance:Fu Unit:=#[λh=>#[[],h.1]]
instance{τ D:Type}[Ow τ][Sls D][Hs τ][Fu D]:Fu (τ×D):=#[λh=>by
 obtain⟨v,σ',F1,F2,rfl,_,h3,h4⟩:=h;obtain⟨u,rfl⟩:=Hs.has h3;obtain⟨vs,rfl⟩:=Fu.fu h4
 exact#[u::vs,rfl]]
def SWA(X:Cx)(e:List ic)(E:XK)(T:ci)(f:List Nat)(n:Nat)(a:List ic){D c b d:Type}[Sls D][Sls c][Sls b][Ow d](w:D->(c->Prop)->(d->b->Prop)->(ci->b->Prop)->Prop):Prop:=∃t,Qv X e a t/\VX E T f n t w
def Wa{g:List ic}{c:List Nat}{n:Nat}{D h e b f:Type}[Sls D][Sls h][Sls e][Sls b][Ow f]{i:ic}{a:List ic}{j:D->(e->Prop)->(f->b->Prop)->(ci->b->Prop)->Prop}{k:e->(h->Prop)->(f->b->Prop)->(ci->b->Prop)->Prop}(o:S1 X E T c n i j)(p:SWA X g E T c n a k)(q:Ss b c n:=by exact vC q0q) :
  SWA X g E T c n (i::a) (λd r l m=>j d (λs=>k s r l m) l m) :=
 e1a2 o λx t u=> e1a2 p λy v w=> #[_,yu (Qw t) v,VY q u w]
def Uf{o:ic}{A:jq}{b:List Env}{s:gN}{fb:List ic}{ms:List Nat}{n k:Nat}{l:List Str}{B t:Type}[Sls B][Sls t]{fl:Bool}{wf:Wf (Bd C fl×B) Unit t}{u:List iA}{p2:Pos}[Fu B][L:Ln B n]
 (D:KJ P K C f j z "self") (S:xt l l (uQ o)) (h0:l[0]?=↑("self":Str)) (J:NO p0 p1 apos pos m u) (G:Fs P w K mg base C m l (yn T wf) k) (hr:wg k (A.deeper<|iR i (uQ o) ⇑s f (.ref j) [("__class__",z)]))
 (ha:PA (KH (vJ P w) P w K mg base l i (uQ o) f (.ref j) [("__class__",z)] A b s H E) u ta)
 (N:∀(a:ci)(r:List V)(H:Hp)(Q:List V->Hp->Prop),r.length=n->Q r H->ta ((V.ref a::r).map some) H Q) (O:∀(I:ci)(U:Env),ml K I=true->Qx K I pos u U) (X:(m==("__class__":Str))=false:=by decide) (Y:jx (.Call (.Attribute 84 m apos) u [] pos) none p2.line (iR i (uQ o) ⇑s f (.ref j) [("__class__",z)])=pure false:=by rfl) :
    SWA (KH (vJ P w) P w K mg base l i (uQ o) f (.ref j) [("__class__",z)] A b s H E) fb E T ms (n+1) [.Expr (.Call (.Attribute 84 m apos) u [] pos) p2] (λ(d:Bd C fl×B)(Z:t->Prop)(_:Unit->t->Prop) Ke=>wf d (λ_ p=>Z p) Ke):=by
  refine e2a4 G.ex λI ab M G hb aa=>?_
  refine#[_,yu (Ev (G7 D h0 S.ks S.kc (S.par _<|ju h0) aa M.find M.ty M.fn G hb hr ha (O I _ M.fn) J X) Y)<|Dy zo,λd F R σ H1 Z Kr Ke En s1 hw kn kr ke=>?_]
  refine e4a4 (id s1.rel) λv ae F1 F2 e t2 h3 h4=>?_
  obtain⟨a,dx,d1,d2,d3,d4,us,rfl,_,g⟩:=id h3
  obtain⟨r,rfl⟩:=Fu.fu h4
  have hl:=L.ln h4
  rw[gM]at hl
  subst e
  refine#[a,dx,_,rfl,g.ob,N a r H1 _ hl #[F,R,d,λ_ p=>Z p,Ke,s1,hw,λx p' v M1 M2 R' H' q c s' n'=>?_,λC y p' F' R' H' q c s'=>?_]]
  · exact kn p' M2 R' H' _ q (c.less λa h => .inr h) s'<|Ag.refl _ _
  · exact ke C y p' F' R' H' q c (by rw[jl<|by simp[hl]]; exact s')
def Z6{J:ic}{M:List Str}{k n:Nat}{ms:List Nat}{A PO:Type}[Sls A][Sls PO][L:Ln A n](dp:Ss PO ms n){w0:A->(PO->Prop)->(Unit->PO->Prop)->79->Prop}
 (F:BR P K C x j J f fd) (S:xt M M (uQ J)) (hn:M.length=n)
 (r:∀(i u:ci)(A:jq)(b:List Env)(s:gN)(H:Hp)(E:XK),KJ P K C f i u "self"->wg k (A.deeper<|iR j (uQ J) ⇑s f (.ref i) [("__class__",u)])->SWA (KH (vJ P w) P w K mg base M j (uQ J) f (.ref i) [("__class__",u)] A b s H E) (vA J) E T ms n (vA J) w0) :
    vB P w K mg base (vJ P w) (k+1) f fd M (yn T λ(p:A)(X:Unit->PO->Prop) N=>w0 p (λY=>X () Y) X N):=by
  have l:∀{o:List V} {H:Hp} {Q:VK} {E:XK},yn T (λ(p:A)(X:Unit->PO->Prop) N=>w0 p (λY=>X () Y) X N) o H Q E->o.length=n:=λh=>by
    obtain⟨F,R,p,Kn,N,s,_⟩:=h
    have:=L.ln s.rel
    rwa [gM]at this
  obtain⟨oc,od,kV,ae,pm,an,i,u,ct,af,rfl,lk,aa,D⟩:=F.ex
  obtain⟨o1,o2,o3,B⟩:=D.cell
  refine G8 lk aa (S.x u) (λy c h=>?_) (λo H Q E h=>(l h).trans hn.symm) λAr b s H o Q E hr Z=>?_
  · have e : c = u := by
      by_cases e:(y==("__class__":Str))=true
      · rw[iC, e]at h; cases h; rfl
      · rw[iC, Bool.eq_false_iff.mpr e]at h; cases h
    subst e
    exact#[_,_,B,rfl]
  refine e1a2 (r i u Ar b s H E D hr) λt h1 h2=>?_
  refine#[t,h1,?_]
  have hl:=l Z
  obtain⟨F,R,p,Kn,N,s0,hw,kn,ke⟩:=Z
  have ab:start M o=o.map some:=by unfold L2.start;rw[hl,hn,qC];simp
  rw[ab]
  have G:(o.map some).take n=o.map some:=jl (by rw[gM,hl];exact gK _)
  refine h2 p F R _ H _ Kn N _ s0 hw (λY F' O U I q c d g=>?_) (λx p' v F1 F2 O U q c d m=>?_) λC y p' F' O U q c d=>?_
  · have e' : I.take n = I := jl (by rw[g.1, gM, hl]; exact gK _)
    have g3:=dp.dp g (show rel F' O U Y (I.take n) by rw[e'];exact d.rel)
    rw[G]at g3
    exact kn () _ .wq (λ_=>False) F' O U q (c.less λa h=>h.elim (λz=>z.elim) id) #[g3,d.sub,d.wZ,d.tab,d.vI,d.vy] #[#[λ_ z=>z,.wq,rfl,rfl],λ_ z=>z.elim,λ_ z=>z.elim,λz=>z]
  · rw[G]at d
    exact kn x p' v F1 F2 O U q c d m
  · rw[G]at d
    exact ke C y p' F' O U q c d
def Dz(C:ci):Sp:=λi H Q E=>∃p h,i=[.ref p]/\H p=↑(.ins C h []) /\
 ∀c d e f g,(∀a,a=c\/a=d\/a=e\/a=f->H a=none)->[c,d,e,f].Nodup->g p=↑(.ins C h<|xX c d e f 0 true)->(∀a,a=c\/a=d\/a=e\/a=f->g a=↑(.dK []))->(∀b o,b≠p->H b=↑o->g b=↑o)->Q .wq g
def Qy{C:ci}{J:ic}{k:Nat}{p3 p4:Pos}{i:List ic}(F:BR P K C "__init__" q J f fd)(S:xt ["self"] ["self"] (uQ J))(ct:A1 K C)(cf:Su K C)(T:NO p0 p1 apos pos "__init__" [])
 (U:vA J=.Expr (.Call (.Attribute 84 "__init__" apos) [] [] pos) p2::i) (G:Fs P w K mg base C "__init__" ["self"] (G6 C) k)
 (W:∀X,jx (.Call (.Attribute 84 "__init__" apos) [] [] pos) none p2.line X=pure false)
 (Y:∀(j r:ci)(A:jq)(d:List Env)(s:gN)(H:Hp)(E:XK),Fb (KH (vJ P w) P w K mg base ["self"] q (uQ J) f (.ref j) [("__class__",r)] A d s H E) i<|JT (Nf K (vw 0) DT "head_by_tail")<|Nf K (vw 0) DT "tail_by_head") :
    vB P w K mg base (vJ P w) (k+1) f fd ["self"] (Dz C):=by
  obtain⟨oc,od,kV,af,pm,an,j,r,ag,ah,rfl,lk,Z,D⟩:=F.ex
  refine e2a4 G.ex λf2 ai M G hB aa=>?_
  obtain⟨o1,o2,o3,l⟩:=D.cell
  refine G8 lk Z (S.x r) (λy c h=>?_) (λvs H Q E z9=>e2a2 z9 λp t e _=>by rw[e];rfl) λAr d s H vs Q E hr ab=>?_
  · have e : c = r := by
      by_cases e:(y==("__class__":Str))=true
      · rw[iC, e]at h; cases h; rfl
      · rw[iC, Bool.eq_false_iff.mpr e]at h; cases h
    subst e
    exact#[_,_,l,rfl]
  refine#[_,by rw[U];exact yu (Ev (G7 D rfl S.ks S.kc (S.par _ gO) aa M.find M.ty M.fn G hB hr vi (cw_nil M.fn) T)<|W _)<|Dy<|Y j r Ar d s H E,?_]
  obtain⟨p,t,rfl,m,k⟩:=ab
  refine#[p,t,[],rfl,m,p,t,rfl,m,λL N H1 h1 h2 ae g1 g2 g3 g4=>?_]
  intro u v
  have O:p≠u:=u4 g1 v
  have q2:L≠u:=u4 g2 v
  have q3:N≠u:=u4 g3 v
  refine#[_,rfl,p,C,t,_,rfl,(by rw[uR O];exact g1),ct.cl,cf.nH,(by show 3<1000;decide),?_]
  intro B g
  have R:p≠B:=λz=>by rw[<- z,uT]at g;cases g
  rw[uR R.symm]at g
  have r2:B≠u:=λz=>by rw[z,uT]at g;cases g
  rw[uR r2]at g
  have r3:L≠B:=u4 g2 g
  have r4:N≠B:=u4 g3 g
  refine#[_,rfl,p,C,t,_,rfl,(by rw[uR R,uT]),ct.cl,cf.nT,(by show 4<1000;decide),?_]
  have I:∀{b:ci} {o:HO},H b=↑o->b≠p->H1 b=↑o:=λh n=>g4 _ _ n h
  have z:∀{a:ci},a≠p->H1 a=none->H a=none:=λ{a} n h=>by
    cases e:H a with
    |none=>rfl
    |some o=>rw[I e n]at h;cases h
  refine k L N u B _ (λa ha=>?_) ?_ ?_ (λa ha=>?_) λb o nb Y=>?_
  · rcases ha with e|e|e|e <;> rw[e]
    · exact h1
    · exact h2
    · exact z O.symm v
    · exact z R.symm g
  · simp only[List.nodup_cons, im, jc, lX, qe, nJ, and_true, not_false_eq_true]
    exact#[#[ae,q2,r3],#[q3,r4],r2.symm]
  · rw[uT]; rfl
  · have pd : p ≠ L := λe => by rw[e, h1]at m; cases m
    have pe:p≠N:=λe=>by rw[e,h2]at m;cases m
    rcases ha with e|e|e|e<;>rw[e]
    · rw[uR pd.symm, uR r3, uR pd.symm, uR q2]; exact g2
    · rw[uR pe.symm, uR r4, uR pe.symm, uR q3]; exact g3
    · rw[uR O.symm, uR r2.symm, uR O.symm, uT]
    · rw[uR R.symm, uT]
  · have e := I Y nb
    rw[uR nb,uR<|u4 e g,uR nb,uR<|u4 e v]
    exact e
section
variable{D:Type}[Sls D]
def Qz{k:Nat}(M:Mk X.K C f)(F:vB X.prog X.w X.K X.mg X.base (vJ X.prog X.w) k f fd ["self"] (Dz C))(hr:wg (k+1) X.A)(hg:Gl X x)(hm:X.mg x=↑(.ref C))(hb:Binds X.K fd ["self"] [])(hx:Passes (vJ X.prog X.w) X E)(J:(x==55)=false:=by decide) :
  EO X E T (.Call (.Name x p) [] [] pos) (λ(d:D)(O:Bd C true->D->Prop) _=>O #[[],[],0,[],[]] d):=by
 refine#[_,OV M F hr hg hm hb .nil hx J,λd F' R σ H O Ke Q s hw kn _=>?_];intro y c L n m;refine#[y,c,rfl,uT,λg i j l r hn nd P v S=>#[rfl,?_]]
 have N:∀a,a=g\/a=i\/a=j\/a=l->a≠y/\a≠c/\H a=none:=λa ha=>by
  have h:=hn a ha;have U:a≠y:=λz=>by rw[z,uT]at h;cases h
  rw[uR U]at h;have W:a≠c:=λz=>by rw[z,uT]at h;cases h
  rw[uR W]at h;exact#[U,W,h]
 have B:∀a,a∈adr y c g i j l true->a=y\/a=c\/a=g\/a=i\/a=j\/a=l:=λa h=>by simpa[adr] using h
 have G:∀a,a∈adr y c g i j l true->H a=none:=λa h=>(B a h).elim (λz=>by rw[z];exact L) λh=>h.elim (λz=>by rw[z];exact n) λh=>(N a h).2.2;have I:∀b o,H b=↑o->r b=↑o:=λb o q=>S b o (u4 q L) (by rw[uR<|u4 q L,uR<|u4 q n];exact q);have Y:r c=some (.own y):=S c _ m (by rw[uR m,uT]);have hl:∀a,a∈adr y c g i j l true->r a≠none:=λa h=>(B a h).elim (λz=>by rw[z,P];simp) λh=>h.elim (λz=>by rw[z,Y];simp) λh=>by rw[v a h];simp
 have Z:Ext (λ_=>False) R H (λa=>R a\/a∈adr y c g i j l true) r:=#[λb o _ h=>I b o h,λa h=>h.elim .inl λq=>.inr<|G a q]
 refine kn _ d (.ref y) (λa=>a∈adr y c g i j l true) F' (λa=>R a\/a∈adr y c g i j l true) r hw #[λb o _ _ h=>I b o h,Z.new,λa h=>h.elim (λq=>.inr<|G a q) .inl,λa h _=>.inl h]
  #[Sls.st s.rel Z (λ_ z=>z.elim)<|λ_ _ z=>z,λa h=>.inl<|s.sub a h,λa h=>h.elim (λz=>?_)<|hl a,?_,.inl s.vI,s.vy] ⟨⟨y,c,g,i,j,l,[],rfl,λ_=>Iff.rfl,#[?_,P,Y,v _<|.inl rfl,v _<|.inr<|.inl rfl,.nil,λ_=>v _<|.inr<|.inr<|.inl rfl,λ_=>v _<|.inr<|.inr<|.inr rfl]⟩,λa h=>.inr h,λa h z=>s.wZ a (s.sub a z)<|G a h,λh=>zd s.tab<|G T h⟩
 ·cases e:H a with
  |none=>exact g8 e<|s.wZ a z
  |some u=>rw[I a u e];simp
 ·refine e1a2 s.tab λps e t=>?_;exact#[ps,I _ _ e,t]
 ·show [y,c,g,i,j,l].Nodup;refine List.nodup_cons.mpr #[λh=>?_,List.nodup_cons.mpr #[λh=>?_,nd]]
  ·rcases List.mem_cons.mp h with z|z
   ·exact m z.symm
   ·exact(N y<|by simpa using z).1 rfl
  ·exact(N c<|by simpa using h).2.1 rfl
end
section
variable{X:Cx}{scope:lV}{T:List Str}{i j:Nat}{x y:Str}{c d:ci}
def YM(a:scope.kind=.function/\ot scope X.env=pure []:=by exact#[rfl,rfl])
 (b:(∀z∈scope.names,z.2≠.cell)/\(∀z∈scope.names,z.2=.local->scope.names.lookup z.1=some .local)/\∀z∈scope.names,z.2≠.free:=by refine#[?_,?_,?_]<;>decide +kernel):yR X scope [] T [] [] :=
  #[a.1,a.2,b.1,b.2.1,(λ_ _ h=>by cases h),λz f e=>g8 e<|b.2.2 z f,(λj z h=>by cases h),rfl]
def Wb(a:scope.kind=.function/\ot scope X.env=pure [(x,c)]/\X.env.cells.lookup x=↑c/\X.N[i]?=↑x/\X.env.kindOf x=some .cell/\(oN scope X.env).names.lookup x=some .cell:=by exact#[rfl,rfl,rfl,rfl,rfl,rfl])
 (b:(∀z∈scope.names,z.2≠.cell)/\(∀z∈scope.names,z.2=.local->scope.names.lookup z.1=some .local)/\∀z∈scope.names,z.2=.free->z.1=x:=by refine#[?_,?_,?_]<;>decide +kernel):yR X scope [(x,c)] T [x] [i] :=
  have f:∀{z:Str},z=x->kf z [(x,c)]=↑c:=λ{z} e=>by rw[e,iC,ph]
  #[a.1,a.2.1,b.1,b.2.1,(λz e h=>(lkc h).elim (λq=>by rw[q.1,q.2];exact a.2.2.1) λq=>by cases q),λz g e=>#[c,f (b.2.2 z g e)],(λk z h=>by
    cases k with
    |zero=>cases h;exact#[i,c,rfl,a.2.2.2.1,.inl a.2.2.2.2.1,f rfl,.inl a.2.2.2.2.2]
    |succ k=>cases h),rfl]
def YN(a:scope.kind=.function/\ot scope X.env=pure [(y,d),(x,c)]/\X.env.cells.lookup x=↑c/\X.env.cells.lookup y=↑d/\X.N[i]?=↑x/\X.N[j]?=↑y/\X.env.kindOf x=some .cell/\X.env.kindOf y=some .cell/\(oN scope X.env).names.lookup x=some .cell/\(oN scope X.env).names.lookup y=some .cell:=by exact#[rfl,rfl,rfl,rfl,rfl,rfl,rfl,rfl,rfl,rfl])
 (b:(∀z∈scope.names,z.2≠.cell)/\(∀z∈scope.names,z.2=.local->scope.names.lookup z.1=some .local)/\(∀z∈scope.names,z.2=.free->z.1=x\/z.1=y)/\¬x=y:=by refine#[?_,?_,?_,?_]<;>decide +kernel):yR X scope [(y,d),(x,c)] T [x,y] [i,j] :=
  have f:∀{z:Str},z=y->kf z [(y,d),(x,c)]=↑d:=λ{z} e=>by rw[e,iC,ph]
  have g:∀{z:Str},z=x->kf z [(y,d),(x,c)]=↑c:=λ{z} e=>by rw[e,iC,beq_eq_false_iff_ne.mpr b.2.2.2,iC,ph]
  #[a.1,a.2.1,b.1,b.2.1,(λz e h=>(lkc h).elim (λq=>by rw[q.1,q.2];exact a.2.2.2.1) λh=>(lkc h).elim (λq=>by rw[q.1,q.2];exact a.2.2.1) λq=>by cases q),λz l e=>(b.2.2.1 z l e).elim (λq=>#[c,g q]) λq=>#[d,f q],(λk z h=>by
    cases k with
    |zero=>cases h;exact#[i,c,rfl,a.2.2.2.2.1,.inl a.2.2.2.2.2.2.1,g rfl,.inl a.2.2.2.2.2.2.2.2.1]
    |succ k=>cases k with
      |zero=>cases h;exact#[j,d,rfl,a.2.2.2.2.2.1,.inl a.2.2.2.2.2.2.2.1,f rfl,.inl a.2.2.2.2.2.2.2.2.2]
      |succ k=>cases h),rfl]
end
end WL
namespace L2
open PySem PySem.Spec PyProof.Rows
def Z7(X:Cx)(b:Bool):R2:=λx y H Q=>∃d a,Do X H x d/\Do X H y (.list a)/\mn a=true/\d.canLay0=true/\d.depth<=62/\Q (.bl<|if b then !(a.any λe=>pS e d) else a.any λe=>pS e d) H
def XJ(m:X.A.units+64<jX):zU X (jj .In) (Z7 X false):=by intro a s b H x y v u Q I c e h;obtain⟨d,n,f,g,i,j,o,q⟩:=h;obtain⟨p,k⟩:=f a b s v I c;obtain⟨r,l⟩:=g a b s u I e;exact SeqAt.in_list_reads l k i j q0d #[.bl _,H,I,rfl,q]
def Ug(m:X.A.units+64<jX):zU X (jj .NotIn) (Z7 X true):=by intro a s b H x y v u Q I c e h;obtain⟨d,n,f,g,i,j,o,q⟩:=h;obtain⟨p,k⟩:=f a b s v I c;obtain⟨r,l⟩:=g a b s u I e;exact SeqAt.notIn_list_reads l k i j q0d #[.bl _,H,I,rfl,q]
def G9:yz X (.builtin "isinstance") (λa H Q=>∃(x:V)(c:ci)(t:cr)(b:Bool),a=[x,.ref c]/\yQ X.K H x t/\m7 X.K t (.ref c)=↑b/\Q (.bl b) H):=by intro d s k H a l Q I r h;obtain⟨x,c,t,b,rfl,f,e,q⟩:=h;obtain⟨u,v,rfl,g,i⟩:=vals2 r;cases i;exact FJ I g f e λj=>#[.bl b,H,I.tok j,rfl,q]
end L2
namespace WL
variable[L2.GX]
open PySem L2
open Rep (rp)
open Ow (sl)
open Sls (rel)
def MA[Rep a][DecidableEq a][Dat a](x:a)(b:List a):((b.map Dat.dat).any λe=>pS e<|Dat.dat x)=decide (x∈b):=by
 rw[List.any_map,kW,qH,ie];have e:∀y:a,pS (Dat.dat y) (Dat.dat x)=decide (y=x):=λy=>by rw[<- SeqAt.same_eq_eqv _ _ (Dat.nm y x),Dat.sm]
 constructor
 ·rintro⟨y,c,h⟩;rw[show ((λe=>pS e<|Dat.dat x)∘Dat.dat) y=decide (y=x) from e y]at h;exact jP h▸c
 ·exact λh=>#[x,h,(e x).trans<|decide_eq_true rfl]
def a2o[Rep a][DecidableEq a][Dat a](b:X.A.units+64<jX)(c:Dat.dp a<=62:=by decide):YJ X .In (λ(x:a)(d:List a)=>decide (x∈d)):=#[_,XJ b,λ{R H x y q u h Q} e f g k =>
 #[_,_,Dat.rd e,Do.lst (v6.of f) (zw g),Ds y,Dat.lay x,ij (Dat.dep x) c,by rw[gl gV,MA];exact k]]
def a02[Rep a][DecidableEq a][Dat a](b:X.A.units+64<jX)(c:Dat.dp a<=62:=by decide):YJ X .NotIn (λ(x:a)(d:List a)=>!decide (x∈d)):=#[_,Ug b,λ{R H x y q u h Q} e f g k =>
 #[_,_,Dat.rd e,Do.lst (v6.of f) (zw g),Ds y,Dat.lay x,ij (Dat.dep x) c,by rw[gI rfl,MA];exact k]]
def a03:Cm X .IsNot (λ(_:Unit)(_:Unit)=>false):=#[_,L5,λ{R H x y u v Q} a b k=>#[b,by
 have a:u=.wq:=a
 subst a;exact k]]
def a04{D PO τ:Type}[Sls D][Sls PO][Ow τ]{p:Type}[Rep p]{o e:iA}{p2 p3:Pos}[J:Pj D PO n]{wo:Wf D (OL p) D}{we:Wf D p D}(ho:EO X E T o wo)(h:EW X E T e we)
  (hb:∀{L:TE} {t:TA},PE X o L->PA X [e] t->PS X (.Expr (.Call (.Attribute o "append" p2) [e] [] p3) pos) (FF<|tBM X.K "list" Gp L t)) (hs:gJ [e] X.env=57::gJ [] X.env:=by rfl) :
  S1 X E T ms n (.Expr (.Call (.Attribute o "append" p2) [e] [] p3) pos) (cS (cB wo we λxs (x:D->Prop) (_:p) M=>xs.l.length<gL/\x M) J.pj λ(x:D->Prop)(_:τ->PO->Prop)=>x):=by
 refine e1a2 ho λL o1 o2=>?_;refine e1a2 h λt h1 h2=>?_;refine#[_,hb o1<|uY h1 vi hs,λd F R N H x Kr Ke En s hw kn kr ke=>?_];refine o2 d F R N H _ _ _ s hw (λxs d1 v F1 O R1 H1 q1 c1 P A=>?_) λC y M F' Q S q c U=>?_
 ·obtain⟨a,j,e,hF,W,hp⟩:=A.is;cases e;have f:F1 a:=(hF a).mpr rfl;have g:¬O a:=A.ye a f;have aT:a≠T:=λz=>A.tab (by rw[<- z];exact f);have m:Ch T F R H O R1 H1:=c1.less λ_ z=>.inr z;refine#[.inl #[rfl,j,v6.of W],h2 d1 O R1 N H1 _ _ _ P q1 (λy d2 v Y Z H3 q B i r=>?_) λC y M F' Q S q c U=>?_]
  ·have h3:H3 a=↑(.lst j):=B.keep a _ g aT W;have aR:Z a:=B.left a (A.sub a f) g;have aa:¬Y a:=λz=>(B.xz a z).elim g λq=>by rw[W]at q;cases q
   have I:=Ch.trans s P.tab m B;have ex:=yK (F:=Y) (R:=Z) (H:=H3) (a:=a) (o:=.lst<|j++[v]);have k:∀b u,b≠a->H3 b=some u->upd H3 a (.lst<|j++[v]) b=some u:=λb u z e=>by rw[uR z];exact e
   refine#[a,j,v,rfl,rfl,h3,by rw[<- Paired.length hp];exact q.1,kn d2 Y Z _ N q.2 #[λb o nb nt e=>k b o (λz=>?_)<|I.keep b o nb nt e,I.zP,I.xz,I.left] ⟨Sls.st i.rel ex (λc z=>by rw[z];exact aR) λc z q=>aa (by rw[<- q];exact z),i.sub,λc z=>?_,?_,i.vI,i.vy⟩<|Ag.refl _ _]
   ·subst z;rcases c1.xz b (.inl f) with w|w
    ·exact nb w
    ·rw[e]at w;cases w
   ·by_cases e:c=a
    ·rw[e,uT];simp
    ·rw[uR e];exact i.wZ c z
   ·refine e1a2 i.tab λps e t=>?_;exact#[ps,k _ _ (λz=>aT z.symm) e,t]
  ·refine e1a2 (v8 (PO:=PO) U) λG g1 g2=>?_;exact ke C y _ G Q S q (Ch.less (Ch.trans s P.tab m c) g1) g2
 ·refine e1a2 (v8 (PO:=PO) U) λG g1 g2=>?_;exact ke C y _ G Q S q (c.less g1) g2
section
variable{D PO τ:Type}[Sls D][Sls PO][Ow τ]{α:Type}[Rep α]
def Ew(r:rp R H x v):∀{a:List α} {b:List V} (j:Nat),Paired (rp R H) a b->Paired (rp R H) (a.set j x) (b.set j v)
 |_,_,_,.nil=>.nil
 |_,_,0,.cons _ t=>.cons r t
 |_,_,j+1,.cons q t=>.cons q<|Ew r j t
def a05(i:Nat)[Sls Q][A:At i D (OL α) Q][U:Pt i Q (OL α) D][J:Pj D PO n](hn:PE X (.Name x S) (vw i))(h:EW X E T e we)(hk:EW X E T k wk)
 (hb:∀{W M:TE},PE X e W->PE X k M->PS X (.Assign [.Subscript (.Name x S) k p2] e pos) (OF W<|YZ (vw i) M VM)) :
    S1 X E T ms n (.Assign [.Subscript (.Name x S) k p2] e pos) (cS (cB we wk λy (w:D->Prop) j z=>∃m,SR (A.get z).l.length j=↑m/\w (U.put (A.hole z) #[(A.get z).l.set m y])) J.pj λ(w:D->Prop)(_:τ->PO->Prop)=>w):=by
  obtain⟨t,h1,h2⟩:=h
  obtain⟨M,i1,i2⟩:=hk
  have Y:∀{F R f g:Rg} {H b:Hp} {C y:ci} {B:D} {o:St} {N:ci->PO->Prop},(∀C y Z f g b,N C Z->Ch T F R H f g b->vS T f g b Z (o.take n)->E (.ref C) ↑y b)->N C (J.pj B)->Ch T F R H f g b->vS T f g b B o->E (.ref C) ↑y b:=λI q c r=>by
    obtain⟨G,L,g2⟩:=v8 (PO:=PO) r
    exact I _ _ _ G _ _ q (c.less L) g2
  refine#[_,hb h1 i1,λd F R o H w Kr N En s hw kn kr I=>?_]
  refine h2 d F R o H _ _ _ s hw (λy d1 v F1 R1 H1 q1 c1 p r1=>?_) λC y B f g b q c r=>Y I q c r
  obtain⟨a,vs,L,g2,g3,_⟩:=zy (i:=i) p
  refine#[_,L,i2 d1 F1 R1 o H1 _ _ _ p q1 (λj z u F2 R2 H2 q2 c2 s2 O=>?_) λC y B f g b q c r=>Y I q (Ch.trans s p.tab c1 c) r]
  obtain⟨m,m1,m2⟩:=q2
  obtain⟨a',P,k1,k2,k3,k4⟩:=zy (i:=i) s2
  rw[L]at k1
  cases k1
  obtain⟨c3,s3⟩:=k4 _ _<|Ew (p.val c2 r1) m k3
  have O:u=V.int j:=O
  subst O
  exact#[a,P,j,m,rfl,rfl,k2,by rw[<- Paired.length k3];exact m1,kn _ F2 R2 _ o m2 (Ch.trans s p.tab c1<|Ch.trans p s2.tab c2 c3) s3<|Ag.refl _ _]
end
structure Isf(K:gH)(mg:Str->Option cr)(C CB:ci):Prop where
 at_:mg "Body"=↑(.ref CB)
 cl:zW K C
 ha:ii K (.ref C) "__class__"=↑(some<|.builtin "object.__class__")
 hn:tF K (.builtin "object.__class__") "__get__"=↑(some<|.builtin "getset_descriptor.__get__")
 ht:tZ K (.builtin "object.__class__")=↑true
 hm:kD K C (.type "object")=↑true
 kt:m7 K (.ref C) (.ref CB)=↑true
section
variable{D:Type}[Sls D]{α:Type}[Rep α]
def a2p{C:ci}{k:Bool}(i:Nat)[Sls l][A:At i D (Bd C k) l](m:Gl X "isinstance")(n:X.mg "isinstance"=none)(o:Gl X "Body")(F:Isf X.K X.mg C g)(r:PE X (.Name x c) (vw i):=by exact pv _)
 (h:gJ [.Name x c,.Name "Body" q] X.env=(false,eval (.Name x c) X.env)::gJ [.Name "Body" q] X.env:=by rfl) (e:gJ [.Name "Body" q] X.env=(false,eval (.Name "Body" q) X.env)::gJ [] X.env:=by rfl) (f:(ja pos<|gJ [.Name "Body" q] X.env).any (·.1)=false:=by rfl) :
    EW X E T (.Call (.Name "isinstance" p) [.Name x c,.Name "Body" q] [] pos) (λ(d:D)(j:Bool->D->Prop) _=>j true d):=by
  refine#[_,wu G9 m n pR (uY r (uY (LW (v:=.ref g) o F.at_ rfl) vi e) h) (he:=h) (hpl:=f),λd t R z H j B Q s u w G=>?_]
  obtain⟨v,I,J,y,L,⟨a,M,N,O,P,S,U,rfl,_,b⟩,_⟩:=A.take s.rel
  exact#[_,y,.ref a,g,.ref C,true,rfl,yQ.ins b.ob F.cl F.ha F.hn F.ht F.hm,F.kt,w true d _ t R H u 53 s rfl]
end
variable{X:Cx}{E:XK}{T:ci}{ms:List Nat}{n:Nat}{pos:Pos}
variable{D PO τ:Type}[Sls D][Sls PO][Ow τ]
def Uh(i j:Nat)[Ow f][Ow c][Hs c][Sls p][Sls q][Sls r][A:At j D c p][t:At i p f q][U:Pt i q c r](J:X.N.Nodup)(L:PE X (.Name y w) (vw j))(M:X.N[i]?=↑x:=by rfl)(O:Loc X.env.scope x:=by exact kg rfl)(P:i∉ms:=by decide)
 (Q:jx (.Name y w) (some<|.Name x e) pos.line X.env=pure false:=by rfl) (S:X.fn x=true\/X.env.scope.names.lookup x=some .local:=by first|exact .inl rfl|exact .inr rfl) :
    S1 X E T ms n (.Assign [.Name x e] (.Name y w) pos) (λ(d:D)(B:r->Prop)(_:τ->PO->Prop) _=>B<|U.put (t.hole<|A.hole d)<|A.get d):=by
  refine#[_,zp J M O L Q S,λd F R W H B Kr Ke En s Y Z kr ke=>?_]
  obtain⟨v,C,g,g1,k,I,g4⟩:=A.take s.rel
  obtain⟨u,rfl⟩:=Hs.has I
  have l:∀a,g a->F a:=λa h=>(k.all a).mpr<|.inr h
  have m:∀a,C a->F a:=λa h=>(k.all a).mpr<|.inl h
  have s':vS T g R H (A.hole d) W:=#[g4,λa h=>s.sub a<|l a h,s.wZ,s.tab,s.vI,λh=>s.vy<|l T h]
  obtain⟨G,k1,k2⟩:=D9 (i:=i) (A:=t) (U:=U) s' (#[I,λa h=>s.sub a<|m a h,λa h z=>k.ye a h z,λh=>s.vy<|m T h]:Nw T C g R H (A.get d) u)
  exact#[u,g1,Z _ G R H _ Y #[λb o _ _ h=>h,λ_ h=>.inl h,λa h=>.inl<|(k1 a h).elim (m a)<|l a,λ_ h _=>h] k2<|Ag.set P]
structure Dc(α:Type) where
 l:List (Int×α)
def PK{α:Type}[Rep α](R:Rg)(H:Hp):List (Int×α)->List (Key×V)->Prop:=Paired λe u=>u.1=il e.1/\rp R H e.2 u.2
section
variable{α:Type}[Rep α]
def QA(e:Ext R R H b c):∀{l:List (Int×α)} {a:List (Key×V)},PK R H l a->PK b c l a:=by
 intro _ _ z
 induction z with
 |nil=>exact .nil
 |cons h t d=>exact .cons #[h.1,Rep.st h.2 e] d
def KL{k:Int}:∀{l:List (Int×α)} {us:List (Key×V)},PK R H l us->(∀b,lk l k=↑b->∃v,yp us (il k)=↑v/\rp R H b v)/\(lk l k=none->yp us (il k)=none):=by
 intro z0 z1 z9
 induction z9 with
 |nil=>exact#[(λb h=>by cases h),λ_=>rfl]
 | @cons e u l us h t XH =>
  have i:=XH;by_cases q:e.1=k
  ·have e1:lk (e::l) k=↑e.2:=by unfold lk;rw[iM,decide_eq_true q];rfl
   rw[e1];refine#[λb hb=>?_,(λz=>by cases z)];cases hb;exact#[u.2,y8 (by rw[h.1,q]),h.2]
  ·have e1:lk (e::l) k=lk l k:=by unfold lk;rw[iM,ig q]
   rw[e1,y9<|by rw[h.1];intro z;exact q<|nC z];exact i
def MB{k:Int}{l:List (Int×α)}{us:List (Key×V)}(h:PK R H l us):(yp us<|il k).isSome=(lk l k).isSome:=by
 have i:=KL (k:=k) h
 cases e:lk l k with
 |none=>rw[i.2 e];rfl
 |some b=>obtain⟨v,hv,_⟩:=i.1 b e;rw[hv];rfl
def KN:∀{l:List (Int×α)} {a:List (Key×V)},PK R H l a->a.length=l.length
 |_,_,.nil=>rfl
 |_,_,.cons _ t=>by rw[hZ,hZ,KN t]
def QB{k:Int}{x:α}{v:V}(r:rp R H x v):∀{l:List (Int×α)} {us:List (Key×V)},PK R H l us->PK R H (l++[(k,x)]) (us++[(il k,v)])
 |_,_,.nil=>.cons #[rfl,r] .nil
 |_,_,.cons h t=>.cons h<|QB r t
def XM{k:Int}{x:α}{v:V}(r:rp R H x v):∀{l:List (Int×α)} {us:List (Key×V)},PK R H l us->PK R H (l.map λe=>if e.1=k then (e.1,x) else e) (us.map λkv=>if kv.1=il k then (kv.1,v) else kv):=by
 intro z0 z1 z9
 induction z9 with
 |nil=>exact .nil
 | @cons e u l us h t XH =>
  refine .cons ?_<|XH;dsimp only;by_cases q:e.1=k
  ·rw[gI q,gI<|by rw[h.1,q]];exact#[h.1,r]
  ·rw[gl q,gl<|by rw[h.1];intro z;exact q<|nC z];exact h
def QC{k:Int}(r:rp R H x v){l:List (Int×α)}{us:List (Key×V)}(h:PK R H l us):PK R H (pk l k x) (putK us (il k) v):=by
 unfold putK pk;rw[z8,MB h]
 cases (lk l k).isSome with
 |true=>rw[gI rfl,gI rfl];exact XM r h
 |false=>rw[gl gV,gl gV];exact QB r h
end
instance{α:Type}[Rep α]:Ow (Dc α):=#[λF R H x v=>∃a us,v=↑(.ref a)/\(∀b,F b↔b=a)/\H a=↑(.dK us)/\PK R H x.l us,
 λh e s n=>by
  refine e2a4 h λa us h1 h2 h3 h4=>?_
  exact#[a,us,h1,h2,e.keep a _ (n a<|(h2 a).mpr rfl) h3,QA (e.wide s) h4],
 λh e=>by
  refine e2a4 h λa us h1 h2 h3 h4=>?_
  exact#[a,us,h1,λb=>(e b).symm.trans (h2 b),h3,h4]]
instance{α:Type}[Rep α]:Hs (Dc α):=#[λz9=>e2a2 z9 λ_ _ h _=>#[_,h]]
section
variable{D PO τ:Type}[Sls D][Sls PO][Ow τ]{α:Type}[Rep α]
def DA{i:Nat}[Sls c][A:At i D (Dc α) c](s:vS T F R H d e):∃a b,e[i]?=↑(some<|.ref a)/\H a=↑(.dK b)/\PK R H (A.get d).l b:=by obtain⟨v,j,k,f,m,⟨a,b,rfl,n,g,h⟩,o⟩:=A.take s.rel;exact#[a,b,f,g,h]
def QD{i:Nat}[Sls w][A:At i D (Dc α) w][U:Pt i w (Dc α) D](s:vS T F R H d x):∃a g,x[i]?=↑(some<|.ref a)/\H a=↑(.dK g)/\PK R H (A.get d).l g /\
  ∀(j:List (Int×α)) (f:List (Key×V)),PK R H j f->Ch T F R H F R (upd H a<|.dK f)/\vS T F R (upd H a<|.dK f) (U.put (A.hole d) #[j]) x:=by
 obtain⟨v,N,O,y,m,⟨a,g,rfl,p,E,G⟩,I⟩:=A.take s.rel;have r:F a:=(m.all a).mpr<|.inl<|(p a).mpr rfl;have J:a≠T:=λz=>s.vy (by rw[<- z];exact r);refine#[a,g,y,E,G,λj f L=>?_];have B:=yK (F:=F) (R:=R) (H:=H) (a:=a) (o:=.dK f);have C:∀c,c=a->R c:=λc z=>by rw[z];exact s.sub a r
 have k:∀b u,b≠a->H b=↑u->upd H a (.dK f) b=↑u:=λb u z e=>by rw[uR z];exact e
 refine#[#[λb o n _ e=>k b o (λz=>n<|by rw[z];exact r) e,λ_ h=>.inl h,λ_ h=>.inl h,λ_ h _=>h],Pt.same (A:=U) (Sls.st I B C λc z q=>m.ye c ((p c).mpr q) z) y m #[a,f,rfl,p,uT,QA (B.wide C) L],s.sub,λc z=>?_,?_,s.vI,s.vy]
 ·by_cases e:c=a
  ·rw[e,uT];simp
  ·rw[uR e];exact s.wZ c z
 ·refine e1a2 s.tab λM e t=>?_;exact#[M,k _ _ (λz=>J z.symm) e,t]
def Jg{a:iA}(i:Nat){D0:Type}[Sls D0][A:At i D (Dc α) D0]{wk:Wf D Int D}(hu:X.A.units+1<jX)(hn:PE X (.Name x p1) (vw i))(hk:EW X E T a wk)(hs:O8 a:=by intro _ _;rfl) :
  EW X E T (.Subscript (.Name x p1) a pos) (cK wk λ(Kn:α->D->Prop) k d1=>∃v,lk (A.get d1).l k=↑v/\Kn v d1):=by
 refine e1a2 hk λta a1 a2=>?_;refine#[_,Gu hu hn a1 hs,λd F R σ H Kn Ke Q s hw kn ke=>?_];obtain⟨y0,us0,h1,_,_⟩:=DA (i:=i) s;refine#[_,h1,a2 d F R σ H _ Ke _ s hw (λk d1 u F1 R1 H1 q1 c1 s1 r1=>?_) ke];subst r1;obtain⟨y,us,g1,g2,g3⟩:=DA (i:=i) s1;rw[h1]at g1;cases g1;refine e1a2 q1 λz z1 z2=>?_;refine e1a2 ((KL g3).1 z z1) λv v1 v2=>?_;have g:=yg.k (k:=il k) g2;rw[v1]at g;exact#[_,v,rfl,g,kn z d1 v F1 R1 H1 z2 c1 s1 v2]
def Jh(i:Nat){B:Type}[Sls B][A:At i D (Dc α) B][U:Pt i B (Dc α) D][J:Pj D PO n]{M:Wf D Int D}{N:Wf D α D}(hu:X.A.units+1<jX)(hn:PE X (.Name x O) (vw i))(hk:EW X E T a M)(he:EW X E T e N)
 (hs:jx e (some<|.Subscript (.Name x O) a p3) pos.line X.env=pure false:=by rfl) :
    S1 X E T ms n (.Assign [.Subscript (.Name x O) a p3] e pos) (λ(d:D)(P:D->Prop)(Kr:τ->PO->Prop) j=>N d (λv I=>M I (λk r=>(A.get r).l.length<gL/\P (U.put (A.hole r) #[pk (A.get r).l k v])) λC f=>j C<|J.pj f) λC f=>j C<|J.pj f):=by
  refine e1a2 hk λta a1 a2=>?_
  refine e1a2 he λte b1 b2=>?_
  have Q:∀{F R g h:Rg} {H b:Hp} {C y:ci} {f:D} {m:St} {j:ci->PO->Prop},(∀C y S g h b,j C S->Ch T F R H g h b->vS T g h b S (m.take n)->E (.ref C) ↑y b)->j C (J.pj f)->Ch T F R H g h b->vS T g h b f m->E (.ref C) ↑y b:=λt q c p=>by
    refine e1a2 (v8 (PO:=PO) p) λG z L=>?_
    exact t _ _ _ G _ _ q (c.less z) L
  refine#[_,Gv hu hn a1 b1 hs,λd F R m H P Kr j En s hw kn kr t=>b2 d F R m H _ _ _ s hw (λv I u F1 R1 H1 q1 W o r1=>?_) λC y f g h b q c p=>Q t q c p]
  obtain⟨y0,aa,Y,_,_⟩:=DA (i:=i) o
  refine#[_,Y,a2 I F1 R1 m H1 _ _ _ o q1 (λk r w F2 R2 H2 Z c2 s2 r2=>?_) λC y f g h b q c p=>Q t q (Ch.trans s o.tab W c) p]
  subst r2
  refine e2a4 (QD (i:=i) s2) λy us z L g3 g4=>?_
  rw[Y]at z
  cases z
  obtain⟨c3,s3⟩:=g4 _ _<|QC (k:=k) (o.val c2 r1) g3
  exact#[_,_,rfl,Gr.k (k:=il k) L (by rw[KN g3];exact Z.1),kn _ F2 R2 _ m Z.2 (Ch.trans s o.tab W<|Ch.trans o s2.tab c2 c3) s3<|Ag.refl _ _]
end
instance:Rep Str:=#[λ_ _ i v=>v=.str i,λh _=>h]
instance:GJ Str:=#[λ{R H x y u v} h1 h2=>by
 have h1:u=V.str x:=h1;have h2:v=V.str y:=h2;subst h1;subst h2;refine#[rfl,?_];by_cases e:x=y
 ·rw[e];simp
 ·rw[ig e,ig (λz=>e (by cases z;rfl))]]
def Cy[Sls D]{k:Nat}:EW X E T (.Constant (.str x) k pos) (λ(d:D)(a:Str->D->Prop) _=>a x d) :=
 #[_,DL,λd F R e H a f Q s b c _=>c x d _ F R H b 53 s rfl]
def Z8[Sls D][Rep α]:EO X E T (.Dict [] [] pos) (λ(d:D)(e:Dc α->D->Prop) _=>e #[[]] d):=by
 refine#[_,Ab,λd F R u H e v Q s l m w p c=>?_];obtain⟨f,n,g⟩:=s.new (.dK []) c;have r:¬F p:=λz=>g<|s.sub p z;have i:Ext (λ_=>False) R H (λa=>R a\/a=p) (upd H p<|.dK []):=⟨λb o _ h=>by rw[uR<|u4 h c];exact h,λa h=>h.elim .inl λq=>.inr<|by rw[q];exact c⟩;refine m _ d _ (λa=>a=p) F (λa=>R a\/a=p) _ l #[n.keep,i.new,λa h=>h.elim (λq=>.inr<|by rw[q];exact c) .inl,λa h _=>.inl h] #[Sls.st s.rel i (λ_ z=>z.elim)<|λ_ _ z=>z,λa h=>.inl<|s.sub a h,λa h=>?_,f.tab,.inl s.vI,s.vy] #[#[p,[],rfl,λb=>Iff.rfl,uT,.nil],λa h=>.inr h,λa h k=>r (by rw[<- h];exact k),λh=>g<|by rw[<- h];exact s.vI];rcases h with h|h
 ·exact f.wZ a h
 ·rw[h,uT];simp
def XQ[Sls D][Rep Z](hc:TW X E T c wc)(ha:EW X E T a wa)(hb:EW X E T b wb) :
  EW X E T (.IfExp c a b pos) (λ(d:D)(o:Z->D->Prop) j=>wc d (λx m=>if x=true then wa m o j else wb m o j) j):=by
 obtain⟨tc,c1,c2⟩:=hc;obtain⟨ta,a1,a2⟩:=ha;obtain⟨tb,b1,b2⟩:=hb;refine#[λe H Q=>tc e H λz i=>(z=true->ta e i Q)/\(z=false->tb e i Q),λf s e H Q I h=>wpAny_IfExp<|vG (c1 f s e H _ I h) λz g q=>?_,λd F R e H o j Q s hw S p=>?_]
 ·obtain⟨i,U,l⟩:=q
  cases z with
  |true=>exact a1 f g e i Q U<|l.1 rfl
  |false=>exact b1 f g e i Q U<|l.2 rfl
 refine c2 d F R e H _ j _ s hw (λx m W Y i l n g=>#[λz=>?_,λz=>?_]) p
 ·exact a2 m W Y e i _ j _ g (by rw[gI z]at l;exact l) (λy r v t u w A B G J=>S _ r v t u w A (Ch.trans s g.tab n B) G J) λC y L M N O k c P=>p C y L M N O k (Ch.trans s g.tab n c) P
 ·exact b2 m W Y e i _ j _ g (by rw[gl<|by rw[z];exact gV]at l;exact l) (λy r v t u w A B G J=>S _ r v t u w A (Ch.trans s g.tab n B) G J) λC y L M N O k c P=>p C y L M N O k (Ch.trans s g.tab n c) P
def a2q:Cm X .Is (λ(_:Unit)(_:Unit)=>true):=#[_,ON,λ{R H x y u v Q} a b k=>#[b,by have a:u=.wq:=a;rw[decide_eq_true a];exact k]]
def a2r{X:Cx}{E:XK}{T:ci}{m:List Nat}{n:Nat}{pos:Pos}{D PO o:Type}[Sls D][Sls PO][Ow o]{b:Type}[Rep b]{a e:iA}{f:Type}[Sls f][J:Pj D PO n]{g:D->b->f}{p:Wf D b D}(I:GW X T m a g)(L:EW X E T e p)
  (M:∀{h:TE} {t:TG},PE X e h->PG X a t->PS X (.Assign [a] e pos) (OF h t):=by intro h t i j;exact Gj i j) :
  S1 X E T m n (.Assign [a] e pos) (λ(d:D)(r:f->Prop)(N:o->PO->Prop) u=>p d (λx k=>r<|g k x) λC w=>u C<|J.pj w):=by
 obtain⟨t,i,j⟩:=L;obtain⟨tt,g1,g2⟩:=I;refine#[_,M i g1,λd F R z H r N u En s O P kr Q=>j d F R z H _ _ _ s O (λx k v S A H1 U W Y Z=>?_) λC y w B R' H' q c s'=>?_]
 ·exact g2 k S A z H1 x v _ Y Z λB l f1 s2 ag=>P _ B A H1 l U (W.less f1) s2 ag
 ·obtain⟨G,g1,g2⟩:=v8 (PO:=PO) s';exact Q C y _ G R' H' q (c.less g1) g2
end WL
namespace L2
variable[L2.GX]
open PySem PySem.Spec PyProof.Rows
noncomputable abbrev wd(X:Cx)(a:List (ci×Obj))(h:XK)(i:St->Prop):Cx :=
 { X with pn:=a,xe:=λe j=>∃(b:List (ci×Obj)) (c:St) (d:Hp) (f:gN) (C x:ci) (g:Hp),e=.ref x/\Inv { X with pn:=a} b c d f/\i c/\D7 X.prog X.w X.stack d f g C x j/\h (.ref C) ↑x g}
def Inv.XU(I:Inv X a b H s):Inv (wd X (X.pn++a) d e) [] b H s :=
 #[52,I.os,I.bare,I.base,I.loc,I.cell,I.free,I.yk,λp c=>I.pin p (by simpa using c),I.vL,I.len]
def Inv.Hc(I:Inv (wd X (X.pn++a) e f) b c H s):Inv X a c H s :=
 #[52,I.os,I.bare,I.base,I.loc,I.cell,I.free,I.yk,λp d=>I.pin p<|iI _ d,I.vL,I.len]
def Inv.Z9(I:Inv (wd X b d e) a c H s):Inv { X with pn:=b} a c H s :=
 #[52,I.os,I.bare,I.base,I.loc,I.cell,I.free,I.yk,I.pin,I.vL,I.len]
def KO(c:OS)(X:Cx)(E:XK)(d:St):Prop:=∀(a:List (ci×Obj)) (H:Hp) (s:gN) (e:cr) (b:gN),Inv X a d H s->c X.stack H s E e b->X.xe e b
def Wc(h:c b):KO (vJ X.prog X.w) (wd X d f c) f b:=by intro a g i e m I j;obtain⟨C,x,k,rfl,F,l⟩:=j;exact#[a,b,g,i,C,x,k,rfl,I.Z9,h,F,l]
def Ui(F:vB X.prog X.w X.K X.mg X.base l k f m g n)(o:wg k X.A)(p:Binds X.K m g d)(q:Vals b d)(t:KO l X E i)
 (I:Inv X a i H s)(r:Vals vs us)(h:n (vs++b) H Q E):gR 19 X.A (call (.ref f) us) (EP X a i Q) X.xe s:=by
  have j:Vals (vs++b) (us++d):=r.append q
  have v:(us++d).length=g.length:=by rw[<- j.length];exact F.len _ _ _ _ h
  refine mD<|jN (F.run X.A X.stack s H ⟨us,[]⟩ (us++d) (vs++b) Q E o I.Iz (p s us I.yG v) j h) λr x c=>?_
  cases r with
  |error e=>exact t a H s e x I c
  |ok y =>
    cases y with
    |ret u=>exact I.after c
    |next=>exact iv c
    |brk=>exact iv c
    |cont=>exact iv c
def KP(c:OS)(X:Cx)(C:ci)(m:Str)(d:Sp)(a:List V)(E:XK)(e:TE)(t:TA):TE:=λb H Q=>KO c X E b/\FK C m d a E e t b H Q
def Ji(G:PE X o J)(c:zW X.K C)(v:Meth X.K C m f)(F:vB X.prog X.w X.K X.mg X.base CX k f L M N)(O:wg k X.A)(P:Binds X.K L M R)(hd:Vals i R)(S:PA X (e::d) t)
 (j:gJ (e::d) X.env=57::gJ d X.env:=by rfl) (n:(ja pos<|gJ d X.env).any (·.1)=false:=by rfl)
 (ht:eval (.Call (.Attribute o m apos) (e::d) [] pos) X.env=(do
 let y <- eval o X.env
 my apos.atName
 let (f,first) <- kF [y] (lY y m T)
 mO pos f first (ja pos (gJ (e::d) X.env)) (mq pos (kA [] X.env))):=by rfl) :
    PE X (.Call (.Attribute o m apos) (e::d) [] pos) (KP CX X C m N i E J t):=by
  intro b s z H Q I h
  obtain⟨U,h⟩:=h
  refine oE (pl:=T) (vG (G b s z H _ I h) λu Y p=>e2a3 p λx H1 B Z g=>e3a4 g λa dx fs ex ea l q=>?_) ht
  subst ex
  obtain rfl:u=hO a:=Z
  refine Ba B ea c v l ?_
  refine pG (first:=[.ref a]) (h₀:=X.base) I.ok.mod.Bm v.kp (vG (S pos b Y z H1 _ B q) λus s2 p=>e2a3 p λvs H2 D r q2=>#[D.yG,?_]) j n
  exact Ui (us:=.ref a::us) (vs:=.ref a::vs) F O P hd U D (.cons rfl r) q2
def a2s(o:Option (List V))(h h':iJ):Prop:=match o with
 |none=>h'=h
 |some xs=>∃vh:List cr,Vals xs vh/\xs.length<=gL/\h'=h.push { cls:=.type "tuple",data:=.seq vh.toArray}
def Lay(o:Option (List V))(H H':Hp):Prop:=match o with
 |none=>H'=H
 |some xs=>∃p,H p=none/\H'=upd H p (.tup xs)
def ClO(X:Cx)(d:iA)(e:List ci)(o:Option (List V)):Prop:=∀(x C:ci) (a:List (ci×Obj)) (s:gN) (f:St) (H:Hp) (Q:Bool->gN->Prop) (E:cr->gN->Prop),C∈e->Inv (hand X x) a f H s->(∃b,s.heap.get? x=↑b/\b.cls=.ref C) ->
 (∀c,a2s o s.heap c->Q true { s with heap:=c}) ->
 gR 19 (X.A.mark<|some<|.ref x) (eval d X.env) (λv g=>gR 19 (X.A.mark<|some<|.ref x) (excMatches (.ref x) v) Q E g) E s
def a2t{r:Nat}(e:Gl X f)(g:X.mg f=↑(.ref c))(h:Gl X i)(j:X.mg i=↑(.ref d))(l:nc X.K (.ref c) [.ref c,.ref d]=↑true)(m:nc X.K (.ref d) [.ref c,.ref d]=↑true)
 (t:(f==55)=false:=by decide) (u:(i==55)=false:=by decide) :
    ClO X (.Tuple [.Name f D,.Name i F] r pos) [c,d] (some [.ref c,.ref d]):=by
  intro x n p s G H Q E v I ⟨J,y,A⟩ k
  have B:jA 19 s.heap (uy<|.ref x) (.ref n):=A▸(pr y).andThen .now
  refine wpAny_Tuple_spliced ?_
  refine jQ<|yH (X:=hand X x) I e g (jQ<|yH (X:=hand X x) I h j (kZ ?_) u) t
  refine#[by show 2<=gL;decide,?_]
  have q:∀b o,s.heap.get? b=↑o->(s.heap.push { cls:=.type "tuple",data:=.seq [hO c,hO d].toArray}).get? b=↑o:=λb o z=>ce _ z
  have C:nc X.K (.ref n) [.ref c,.ref d]=↑true:=by
    rcases List.mem_cons.mp v with z|z
    · rw[z]; exact l
    · rw[List.mem_singleton.mp z]; exact m
  refine(PySem.W.exm_tup2 (λa o z=>q a o<|I.yG a o z) (B.keeps q) (gX _ rfl) C).here ?_
  exact k _ #[[.ref c,.ref d],.cons rfl<|.cons rfl .nil,(by show 2<=gL;decide),rfl]
def Inv.adopt(I:Inv X a j H s)(f:A8 X a H p)(c:vY X.prog X.w (upd H p o) s.heap p o):Inv X a j (upd H p o) s:=by
 refine e0a6 f λi k r l n q=>?_;have d:∀b u,H b=↑u->b≠p:=λb u e z=>by rw[z,i]at e;cases e
 have J:=I.step (h':=s.heap) (g':=s.gens) (d':=s.drawn) (t':=s.toks) (ch:=[p]) (H':=upd H p o) (λb g=>by rw[List.mem_singleton.mp g];exact#[l,k,n,q]) (λb o _ _ _ e _=>e) (λb o _ _ _ e _=>#[o.slots,e])
  (λb _ g _ e=>by rw[uR λz=>g<|by rw[z];exact List.mem_singleton.mpr rfl];exact e) (λb o _ e=>#[o,e]) (λb t e=>by rw[uR<|d b _ e];exact e) (λb o u e=>by rw[uR<|d b _ e];exact e) (λb v e=>#[#v[],by rw[uR<|d b _ e,e];simp]) (λm h=>h) (I.vL.VU i c) I.bare
 exact J
def a0b(i:XK->(St->Prop)->List (ci×Obj)->TS)(j:List ci)(o:Option (List V))(k:ci->TS):TS:=λD d H=>∃e:XK,(∀c f b,e c f b->∃C∈j,c=.ref C)/\(∀g,i e (λh=>h=d) g D d H)/\∀(c:cr)(f:Option ci)(b a:Hp),e c f b->Lay o b a->∀x,k x D d a
def MC(E:X.stack=X.env::X.outer)(U:ClO X ty Cs o)
 (hb:∀T Φ M,Fb (wd X M T Φ) body<|tb T Φ M) (hs:∀x,Fb (hand X x) (b0::i)<|th x) :
    PS X (.Try body [.ExceptHandler ↑ty none (b0::i) hp] [] [] tp) (a0b tb Cs o th):=by
  intro d s σ H D I h
  refine e1a3 h λT Y hB hH=>?_
  refine wpAny_Try_except<|iW (hb T _ (X.pn++d) [] s σ H D I.XU<|hB _) (λN g q=>?_)<|λe g q=>?_
  · cases N with
    |next=>obtain⟨a,c,J,z⟩:=q;exact nN #[a,c,J.Hc,z]
    |brk=>obtain⟨a,c,J,z⟩:=q;exact#[a,c,J.Hc,z]
    |cont=>obtain⟨a,c,J,z⟩:=q;exact#[a,c,J.Hc,z]
    |ret u=>obtain⟨v,a,c,J,r,z⟩:=q;exact#[v,a,c,J.Hc,r,z]
  · obtain⟨Z, k, H1, s0, C', x, c, rfl, J, aa, F, hE⟩ := q
    subst aa
    refine e1a2 (Y _ _ _ hE) λC hC hc=>?_
    cases hc
    have nf:=F.ZB J.frn
    refine e2a2 F.fly λB a0 N ab=>?_
    have ae:lK B (X.env::X.outer) x (.ref C') a0 g.heap:=by rw[<- E];exact N
    have af:X.A.frames=↑(X.env::X.outer):=by rw[<- E];exact J.ok.frames
    have ag:X.env.frame=↑X.env.locals:=xU I E
    refine wpAny_looks_onW af ag ae λh4 O ah=>wpAny_landsW O λl m ai=>?_
    have j:g.heap.UpToSlots l:=ah.trans ai
    have G:∀(n:iJ)(P:Nat),B.StaysIn n->g.heap.UpToSlots n->Inv X d k c { g with heap:=n,toks:=P}:=λn P st up=>by
      obtain⟨u6,aj⟩:=PJ F.un F.vL ab nf st up
      have J6:=J.call (h':=n) (g':=g.gens) (d':=g.drawn) (t':=P) (ch:=[]) u6 aj F.bare<|λb z=>g8 z q0o
      have e6:{ s0 with heap:=n,gens:=g.gens,drawn:=g.drawn,toks:=P}={ g with heap:=n,toks:=P}:=by
        have:=F.os
        obtain⟨_,_,_,_,al⟩:=g
        obtain⟨_,_,_,_,an⟩:=s0
        rw[this]
      rw[<- e6]
      exact J6.a1Z
    have I5:=G l g.toks m.1 j
    have Q:∀(R:Hp)(t:iJ),Lay o c R->Inv X d k R { g with heap:=t}->gR 19 (X.A.mark<|some<|.ref x) (execs (b0::i) X.env) (λf S=>SP X d D f S) (λ_ _=>False) { g with heap:=t}:=λR t hY I7=>by
      refine iW (hs x d _ k R D I7.PN<|hH _ _ c R hE hY x) (λN s7 q=>?_) λ_ _ z=>z.elim
      cases N with
      |next=>obtain⟨a,c,J,z⟩:=q;exact#[a,c,J.GH I.ok.hd,z]
      |brk=>obtain⟨a,c,J,z⟩:=q;exact#[a,c,J.GH I.ok.hd,z]
      |cont=>obtain⟨a,c,J,z⟩:=q;exact#[a,c,J.GH I.ok.hd,z]
      |ret u=>obtain⟨v,a,c,J,r,z⟩:=q;exact#[v,a,c,J.GH I.ok.hd,r,z]
    refine wpAny_handleBy_cons (codeAny_handlers_test<|U x C' d { g with heap:=l} k c _ _ hC I5.PN m.there λn hL=>?_) (by intro q;cases q)
    refine codeAny_handlers_suite ?_
    cases o with
    |none =>
      subst hL
      refine lands_againW (s:={ g with heap:=n}) m λt L y=>?_
      exact iW (Q c t rfl<|G t g.toks L.1<|j.trans y) (λ_ _ z=>z) λ_ _ z=>z.elim
    |some xs =>
      obtain⟨vh,r,hz,rfl⟩:=hL
      have kp:∀b o,l.get? b=↑o->(l.push { cls:=.type "tuple",data:=.seq vh.toArray}).get? b=↑o:=λb o z=>ce _ z
      have ak:=PySem.W.flying_keeps m kp
      refine lands_againW (s:={ g with heap:=l.push { cls:=.type "tuple",data:=.seq vh.toArray}}) ak λt L y=>?_
      have I7:=G t g.toks L.1<|(j.trans<|qh kp).trans y
      have n5:c l.objs.size=none:=I5.vL.fresh<|gK _
      obtain⟨sl,e7⟩:=y l.objs.size _ (gX _ rfl) (λvs z=>by cases z)
      have I8:=I7.adopt (p:=l.objs.size) (o:=.tup xs) (I5.Gk (gK _) n5) #[hz,vh,r,_,e7,rfl,_,rfl]
      exact iW (Q _ t #[_,n5,rfl] I8) (λ_ _ z=>z) λ_ _ z=>z.elim
end L2
namespace WL
variable[L2.GX]
open PySem L2
open Rep (rp)
open Ow (sl)
open Sls (rel)
def BW(X:Cx)(T:ci)(c:List ic){D:Type}[Sls D](w:D->(D->Prop)->58->Prop):Prop:=∀i j h,∃t,Fb (wd X h i j) c t/\∀(d:D)(F R:Rg)(b:St)(H:Hp)(k:D->Prop)(l:ci->D->Prop)(m:Ends),j b->vS T F R H d b->w d k l ->
 (∀e f g a,k e->Ch T F R H f g a->vS T f g a e b->m.nx b a)->(∀C y e f g a,l C e->Ch T F R H f g a->vS T f g a e b->i (.ref C) ↑y a)->t m b H
section
variable{D PO τ NP:Type}[Sls D][Sls PO][Ow τ][Ow NP]
def Uj{h:Pos}{n:List iA}(i:Nat){J P o B E y:Type}[Sls J][Sls P][Sls o][Sls B][Sls E][Sls y][Lb y NP<|Bd C k×o]{r:B->y->o->D}{L:D->(P->B->y->Prop)->58->Prop}
 {M:Wf (Bd C k×P) NP (Bd C k×o)} [A0:At i D (Bd C k) J] [A:At i B (Bd C k) E] [U:Pt i E (Bd C k) B]
 (O:∀a b c d u,(xX a b c d u k).lookup m=none) (Q:∀g j f,IV (wd X f g j) g T (e::n) r L)
 (S:∀(g:XK)(j:St->Prop) (f:List (ci×nq)) {t:TA},PA (wd X f g j) (e::n) t->PE (wd X f g j) (.Call (.Attribute (.Name x N) m apos) (e::n) [] pos) (KP (vJ X.prog X.w) (wd X f g j) C m (yn T M) [] g (vw i) t))
 (W:jx (.Call (.Attribute (.Name x N) m apos) (e::n) [] pos) none h.line X.env=pure false:=by rfl) :
    BW X T [.Expr (.Call (.Attribute (.Name x N) m apos) (e::n) [] pos) h] (cN L M A.get λb l p=>r (U.put (A.hole b) p.1) l p.2):=by
  intro g j f
  refine e1a2 (Q g j f) λtr Y Z=>?_
  refine#[_,xO<|AE (S g j f Y) W,λd G R σ H Kn Ke En F s hw kn ke=>#[Wc F,?_]]
  refine Et i O Z d G R σ H (λ_ I=>Kn I) Ke _ s hw (λx I v F1 F2 R' H' q c s' m=>?_) ke
  exact kn I F2 R' H' q (c.less λa z=>.inr z) s'
def a28{j:Pos}{n:List iA}(i:Nat){G P s B F y:Type}[Sls G][Sls P][Sls s][Sls B][Sls F][Sls y][Lb y NP<|Bd C q×s]{v:B->y->s->D}{H:D->(P->B->y->Prop)->58->Prop}
 {I:Wf (Bd C q×P) NP (Bd C q×s)} [A0:At i D (Bd C q) G] [A:At i B (Bd C q) F] [U:Pt i F (Bd C q) B] {k:Nat} {L:List Str} {M:Sem Bool}
 (h:Fm X.prog X.w X.K X.mg X.base T C m L I k) (N:wg k X.A) (O:zW X.K C) (Q:∀(o:XK)(r:St->Prop) (g:List (ci×nq)),PE (wd X g o r) (.Name x z)<|vw i) (R:∀(o:XK)(r:St->Prop) (g:List (ci×nq)),IV (wd X g o r) o T (e::n) v H) (S:∀a b c d u,(xX a b c d u q).lookup m=none:=by intros;rfl)
 (W:gJ (e::n) X.env=57::gJ n X.env:=by rfl) (Y:(ja pos<|gJ n X.env).any (·.1)=false:=by rfl)
 (Z:eval 66 X.env=(do
 let J <- eval (.Name x z) X.env
 my apos.atName
 let (f,first) <- kF [J] (lY J m M)
 mO pos f first (ja pos (gJ (e::n) X.env)) (mq pos (kA [] X.env))):=by rfl)
 (hs:jx 66 none j.line X.env=pure false:=by rfl) :
    BW X T [.Expr 66 j] (cN H I A.get λb l p=>v (U.put (A.hole b) p.1) l p.2) :=
  Uj i S R (λo r g {t} b1=>Ji (X:=wd X g o r) (CX:=vJ X.prog X.w) (E:=o) (Q o r g) O h.me h.ok N h.bd .nil b1 W Y Z) hs
def a06{j a:List ic}{z:List ci}{o:Option (List V)}{wb:D->(D->Prop)->58->Prop}{A:D->(D->Prop)->87->79->Prop}(B:X.stack=X.env::X.outer)(G:ClO X ty z o)
 (I:BW X T j wb) (w:∀k,SW (hand X k) E T ms n (b0::a) A) :
    S1 X E T ms n (.Try j [.ExceptHandler ↑ty none (b0::a) hp] [] [] tp) (cT wb A z):=by
  refine#[_,MC (tb:=λJ L b=>(I J L b).choose) (th:=λk=>(w k).choose) B G (λJ L b=>(I J L b).choose_spec.1)<|λk=>(w k).choose_spec.1,λd F R r H Kn Kr Ke M s hw kn kr ke=>?_]
  refine#[λc _ l=>∃C i f h,c=.ref C/\C∈z/\A i Kn Kr Ke/\Ch T F R H f h l/\vS T f h l i r,?_,λb=>?_,?_]
  · rintro c ox l ⟨C, i, f, h, e, m, _⟩
    exact#[C,m,e]
  · exact(I _ _ b).choose_spec.2 d F R r H _ _ M rfl s hw (λi f h l q c N => kn i f h l r q c N<|Ag.refl _ _) λC y i f h l q c N => #[C, i, f, h, rfl, q.1, q.2, c, N]
  · rintro c ox l aa ⟨C, i, f, h, e, m, O, t, st⟩ hL k
    have go:∀{u:Hp},Ch T F R H f h u->vS T f h u i r->(w k).choose M r u:=λ{u} t st=>(w k).choose_spec.2 i f h r u Kn Kr Ke M st O (λd1 F1 R1 H1 P q c s1 g=>kn d1 F1 R1 H1 P q (Ch.trans s st.tab t c) s1 g) (λx Q v M1 M2 S U W Y Z n4=>kr x Q v M1 M2 S U W (Ch.trans s st.tab t Y) Z n4) λC y Q F4 S U W Y Z=>ke C y Q F4 S U W (Ch.trans s st.tab t Y) Z
    cases o with
    |none =>
      rw[hL]
      exact go t st
    |some xs =>
      obtain⟨p,hp,rfl⟩:=hL
      refine e0a3 (st.new (.tup xs) hp) λs3 c3 _=>?_
      exact go (Ch.trans s st.tab t c3) s3
end
structure a3Y(q:Cq)(C1 C2:ci)(y1 y2:Str):Prop where
 m1:q.mg y1=↑(.ref C1)
 m2:q.mg y2=↑(.ref C2)
 x1:nc q.K (.ref C1) [.ref C1,.ref C2]=↑true
 x2:nc q.K (.ref C2) [.ref C1,.ref C2]=↑true
def BS(X:Cx)(T:ci)(p:List Nat)(body:List ic){D i:Type}[Sls D][Sls i](w:D->(i->Prop)->58->Prop):Prop:=∀k l j,∃t,Fb (wd X j k l) body t/\∀(d:D)(F R:Rg)(e:St)(H:Hp)(m:i->Prop)(n:ci->D->Prop)(o:Ends),l e->vS T F R H d e->w d m n ->
 (∀f g h b c,m f->Ch T F R H g h b->vS T g h b f c->Ag p e c->o.nx c b)->(∀C y f g h b,n C f->Ch T F R H g h b->vS T g h b f e->k (.ref C) ↑y b)->t o e H
def BX(X:Cx)(T:ci)(b:ic){D:Type}[Sls D](w:D->(D->Prop)->58->Prop):Prop:=∀j k i,∃t,PS (wd X i j k) b t/\∀(d:D)(F R:Rg)(e:St)(H:Hp)(l:D->Prop)(m:ci->D->Prop)(n:Ends),k e->vS T F R H d e->w d l m ->
 (∀f g h c,l f->Ch T F R H g h c->vS T g h c f e->n.nx e c)->(∀C y f g h c,m C f->Ch T F R H g h c->vS T g h c f e->j (.ref C) ↑y c)->t n e H
section
variable{D PO τ NP:Type}[Sls D][Sls PO][Ow τ][Ow NP]
def Uk{m:Str}{apos h:Pos}{e:iA}{n:List iA}(i:Nat){J P o B E y:Type}[Sls J][Sls P][Sls o][Sls B][Sls E][Sls y][Lb y NP<|Bd C k×o]{r:B->y->o->D}{L:D->(P->B->y->Prop)->58->Prop}
  {wf:Wf (Bd C k×P) NP (Bd C k×o)} [A0:At i D (Bd C k) J] [A:At i B (Bd C k) E] [U:Pt i E (Bd C k) B]
  (N:∀a b c d u,(xX a b c d u k).lookup m=none) (O:∀g j f,IV (wd X f g j) g T (e::n) r L)
  (Q:∀(g:XK)(j:St->Prop) (f:List (ci×nq)) {t:TA},PA (wd X f g j) (e::n) t->PE (wd X f g j) (.Call (.Attribute (.Name x M) m apos) (e::n) [] pos) (KP (vJ X.prog X.w) (wd X f g j) C m (yn T wf) [] g (vw i) t))
  (S:jx (.Call (.Attribute (.Name x M) m apos) (e::n) [] pos) none h.line X.env=pure false:=by rfl) :
  BX X T (.Expr (.Call (.Attribute (.Name x M) m apos) (e::n) [] pos) h) (cN L wf A.get λb l p=>r (U.put (A.hole b) p.1) l p.2):=by
 intro g j f;refine e1a2 (O g j f) λtr W Y=>?_;refine#[_,AE (Q g j f W) S,λd G R Z H Kn Ke En F s hw kn ke=>#[Wc F,?_]];refine Et i N Y d G R Z H (λ_ I=>Kn I) Ke _ s hw (λx I v F1 F2 R' H' q c s' m=>?_) ke;exact kn I F2 R' H' q (c.less λa z=>.inr z) s'
def a0c{m:Str}{apos j:Pos}{e:iA}{n:List iA}(i:Nat){G P s B F y:Type}[Sls G][Sls P][Sls s][Sls B][Sls F][Sls y][Lb y NP<|Bd C q×s]{v:B->y->s->D}{H:D->(P->B->y->Prop)->58->Prop}
  {wf:Wf (Bd C q×P) NP (Bd C q×s)} [A0:At i D (Bd C q) G] [A:At i B (Bd C q) F] [U:Pt i F (Bd C q) B] {k:Nat} {J:List Str} {L:Sem Bool}
  (h:Fm X.prog X.w X.K X.mg X.base T C m J wf k) (M:wg k X.A) (N:zW X.K C) (O:∀(o:XK)(r:St->Prop) (g:List (ci×nq)),PE (wd X g o r) (.Name x z)<|vw i) (Q:∀(o:XK)(r:St->Prop) (g:List (ci×nq)),IV (wd X g o r) o T (e::n) v H) (R:∀a b c d u,(xX a b c d u q).lookup m=none:=by intros;rfl)
  (S:gJ (e::n) X.env=57::gJ n X.env:=by rfl) (W:(ja pos<|gJ n X.env).any (·.1)=false:=by rfl)
  (Y:eval 66 X.env=(do
   let I <- eval (.Name x z) X.env
   my apos.atName
   let (f,first) <- kF [I] (lY I m L)
   mO pos f first (ja pos (gJ (e::n) X.env)) (mq pos (kA [] X.env))):=by rfl)
  (Z:jx 66 none j.line X.env=pure false:=by rfl) :
  BX X T (.Expr 66 j) (cN H wf A.get λb l p=>v (U.put (A.hole b) p.1) l p.2) :=
 Uk i R Q (λo r g {t} b1=>Ji (X:=wd X g o r) (CX:=vJ X.prog X.w) (E:=o) (O o r g) N h.me h.ok M h.bd .nil b1 S W Y) Z
end
section
variable{D D' PO τ NP:Type}[Sls D][Sls D'][Sls PO][Ow τ][Ow NP]
def XW{b:ic}{rest:List ic}{o:D->(D->Prop)->58->Prop}{p:D->(D'->Prop)->87->79->Prop}(u:BX X T b o)(v:∀f h e,SW (wd X e f h) f T w n rest p) :
  BS X T w (b::rest) (λd (i:D'->Prop) j=>o d (λk=>p k i (λ_ _=>False) λ_ _=>False) j):=by
 intro f h e;refine e1a2 (u f h e) λW x y=>?_;refine e1a2 (v f h e) λY A B=>?_;refine#[_,vZ x A,λd F R r H i j C l s E G I=>?_];refine y d F R r H _ j _ l s E (λk J L H1 q c t=>?_) I;exact B k J L r H1 i _ _ C t q (λM N O P m Q S U g=>G M N O P m Q (Ch.trans s t.tab c S) U g) (λ_ _ _ _ _ _ _ z=>z.elim)<|λ_ _ _ _ _ _ z=>z.elim
def Ul{body f:List ic}{b0:ic}{ty:iA}{B tp:Pos}{G:List ci}{o:Option (List V)}{wb:D->(D'->Prop)->58->Prop}{I:D->(D'->Prop)->87->79->Prop}(J:X.stack=X.env::X.outer)(L:ClO X ty G o)
  (M:BS X T ms body wb) (w:∀k,SW (hand X k) E T ms n (b0::f) I) :
  S1 X E T ms n (.Try body [.ExceptHandler ↑ty none (b0::f) B] [] [] tp) (λd t z A=>wb d t λC b=>C∈G/\I b t z A):=by
 refine#[_,MC (tb:=λN O h=>(M N O h).choose) (th:=λk=>(w k).choose) J L (λN O h=>(M N O h).choose_spec.1)<|λk=>(w k).choose_spec.1,λd F R u H t z A P s hw kn kr ke=>?_];refine#[λc _ l=>∃C b i j,c=.ref C/\C∈G/\I b t z A/\Ch T F R H i j l/\vS T i j l b u,?_,λh=>?_,?_]
 ·rintro c ox l ⟨C,b,i,j,e,m,_⟩;exact#[C,m,e]
 ·exact(M _ _ h).choose_spec.2 d F R u H _ _ P rfl s hw (λb i j l Q q c S g=>kn b i j l Q q c S g) λC y b i j l q c S=>#[C,b,i,j,rfl,q.1,q.2,c,S]
 ·rintro c ox l aa ⟨C,b,i,j,e,m,U,r,st⟩ hL k;have go:∀{H2:Hp},Ch T F R H i j H2->vS T i j H2 b u->(w k).choose P u H2:=λ{H2} r st=>(w k).choose_spec.2 b i j u H2 t z A P st U (λd1 F1 R1 H1 W q c s1 g=>kn d1 F1 R1 H1 W q (Ch.trans s st.tab r c) s1 g) (λx Y v M1 M2 Z H4 q4 c4 S4 n4=>kr x Y v M1 M2 Z H4 q4 (Ch.trans s st.tab r c4) S4 n4) λC y Y F4 Z H4 q4 c4 S4=>ke C y Y F4 Z H4 q4 (Ch.trans s st.tab r c4) S4
  cases o with
  |none =>
   rw[hL];exact go r st
  |some xs =>
   obtain⟨p,B,rfl⟩:=hL;refine e0a3 (st.new (.tup xs) B) λs3 c3 _=>?_;exact go (Ch.trans s st.tab r c3) s3
end
def XX(b:Gl X c)(d:X.mg c=↑(.ref e))(f:qS X.K (.ref e) (.ref e)=↑true)(i:(c==55)=false:=by decide) :
  ClO X (.Name c p) [e] none:=by
 intro x j g s q H Q E l I ⟨r,m,n⟩ k;have h:jA 19 s.heap (uy<|.ref x) (.ref j):=n▸(pr m).andThen .now;rw[List.mem_singleton.mp l]at h;refine yH (X:=hand X x) I b d ?_ i;refine(PySem.W.exm_one (λa o z=>I.yG a o z) h f).here ?_;exact k _ rfl
structure a0d(q:Cq)(C1:ci)(y1:Str):Prop where
 m1:q.mg y1=↑(.ref C1)
 x1:qS q.K (.ref C1) (.ref C1)=↑true
end WL
namespace WL
open PySem L2
open Rep (rp)
open Ow (sl)
open Sls (rel)
open Rep (rp)
open Ow (sl)
open Sls (rel)
instance:XD Bool "bool" true:=#[λ{K R H x v} h=>by
 have h:v=V.bl x:=h;subst h
 exact#[_,yQ.bl x,by rfl]]
instance{α β:Type}[Rep α][Rep β]:XD (α×β) "tuple" true:=#[λ{K R H x v} h=>by
 obtain⟨a,u,w,rfl,_,h3,_⟩:=h
 exact#[_,yQ.tup h3,by rfl]]
section
variable{X:Cx}{E:XK}{T:ci}{D α β:Type}[Sls D][Rep α][Rep β]{pos:Pos}
def Um{a:iA}{p:Pos}{c:Wf D (α×β) D}(g:Gl X "len")(h:X.mg "len"=none)(i:EW X E T a c)(e:gJ [a] X.env=77::gJ [] X.env:=by rfl) :
  EW X E T (.Call (.Name "len" p) [a] [] pos) (cK c λ(f:Int->D->Prop) _ b=>f 2 b):=by
 refine e1a2 i λI j k=>?_;refine#[_,wu xj g h mw (uY j vi e) (he:=e),λd F R l H f m Q s n o r=>k d F R l H _ m _ s n (λx b u t y H1 z A B C=>?_) r];obtain⟨q,v,w,rfl,_,G,J,L⟩:=C;exact#[_,_,rfl,.inr<|yY.of G,o _ b _ t y H1 z A B rfl]
end
variable[L2.GX]
section
variable{D PO τ:Type}[Sls D][Sls PO][Ow τ]{α β:Type}[Rep α][Rep β]
def FZ{i:Nat}[Sls c][A:At i D (List Int) c](s:vS T F R H d e):∃a,e[i]?=↑(some<|.ref a)/\H a=↑(.lst<|(A.get d).map V.int):=by obtain⟨v,h,j,f,_,⟨_,u,rfl,a,k,rfl,_,b,g⟩,_⟩:=A.take s.rel;rw[paired_ints g]at b;exact#[a,f,b]
def a07(i j:Nat)[Sls D1][Sls D2][A:At i D (List Int) D1][B:At j D (List Int) D2](u:X.calm=true)(v:Gl X "sorted")(C:X.mg "sorted"=none)(L:Gl X "set")(M:X.mg "set"=none)(hn:PE X (.Name x c) (vw i))(G:PE X (.Name y e) (vw j))
 (f:gJ [.Name x c] X.env=(false,eval (.Name x c) X.env)::gJ [] X.env:=by rfl) (g:gJ [.Name y e] X.env=(false,eval (.Name y e) X.env)::gJ [] X.env:=by rfl)
 (h:gJ [.BinOp (.Call (.Name "set" N) [.Name x c] [] O) .BitXor (.Call (.Name "set" P) [.Name y e] [] S) W] X.env=(false,eval (.BinOp (.Call (.Name "set" N) [.Name x c] [] O) .BitXor (.Call (.Name "set" P) [.Name y e] [] S) W) X.env)::gJ [] X.env:=by rfl) :
    EO X E T (.Call (.Name "sorted" q1) [.BinOp (.Call (.Name "set" N) [.Name x c] [] O) .BitXor (.Call (.Name "set" P) [.Name y e] [] S) W] [] pos)
      (λ(d:D)(Y:OL Int->D->Prop) _=>(yf (A.get d)/\yf (B.get d)/\∃U:List Int,U.length<64/\(∀k∈A.get d,k∈U)/\∀k∈B.get d,k∈U)/\Y #[xr (A.get d)<|B.get d] d):=by
  refine#[_,wu (BC u) v C ki (uY (wN Tk (xv (IM u) L M nW (uY hn vi f) (he:=f))<|xv (IM u) L M nW (uY G vi g) (he:=g)) vi h) (he:=h),λd F R σ H Y Ke Q s hw kn ke=>?_]
  obtain⟨⟨Z,rb,U,hU,ua,ub⟩,o⟩:=hw
  have la:=wC Z ua
  have lb:=wC rb ub
  refine e1a2 (FZ (i:=i) s) λa a1 a2=>?_
  refine#[_,a1,a,A.get d,rfl,v6.of a2,q0a,λp ka hp aa ab ma=>?_]
  refine e0a3 (s.new (w9 X.w p ka) hp) λt c1 _=>?_
  refine e1a2 (FZ (i:=j) t) λb b1 b2=>?_
  refine#[_,b1,b,B.get d,rfl,v6.of b2,q0a,λq kb hq ae af mb=>?_]
  refine e0a3 (t.new (w9 X.w q kb) hq) λI c2 _=>?_
  have J:p≠q:=u4 uT hq
  refine#[p,q,ka,kb,rfl,rfl,by rw[uR J];exact uT,uT,q0a,λr m hr n mc=>?_]
  refine e0a3 (I.new (w9 X.w r m) hr) λs3 c3 _=>?_
  have mm:∀k,k∈m↔k∈xr (A.get d) (B.get d):=λk=>by
    rw[mc,Bj<|vt rb,ma,mb]
    by_cases h1:k∈A.get d<;>by_cases h2:k∈B.get d<;>simp[h1,h2]
  have lc:m.length<64:=by
    have:=SX.za m U n λk o=>by
      rw[mc,ma,mb]at o
      exact o.elim (λz=>ub k z.1) λz=>ua k z.2
    lia
  refine#[r,m,rfl,uT,lc,λl ns hl pn sn=>?_]
  rw[Ec pn sn,El n mm<|Al Z]
  refine e1a3 (xB s3 hl<|xW (R:=R)<|xr (A.get d)<|B.get d) λR' c4 s4 n4=>?_
  exact kn _ d _ _ F R' _ o (Ch.trans s t.tab c1<|Ch.trans t I.tab c2<|Ch.trans I s3.tab c3 c4) s4 n4
end
structure T3(α β γ:Type) where
 a:α
 b:β
 c:γ
instance{α β γ:Type}[Ow α][Ow β][Ow γ]:Ow (T3 α β γ):=#[λF R H x v=>∃p u1 u2 u3 F1 F2 F3,v=↑(.ref p)/\¬R p/\H p=↑(.tup [u1,u2,u3])/\Ef F F1 F2 F3/\sl F1 R H x.a ↑u1/\sl F2 R H x.b ↑u2/\sl F3 R H x.c ↑u3,
 λh e s n=>by
  obtain⟨p,u1,u2,u3,F1,F2,F3,h1,h2,h3,t,g1,g2,g3⟩:=h
  exact#[p,u1,u2,u3,F1,F2,F3,h1,(e.wide s).not h2 h3,e.keep p _ (λz=>h2<|s p z) h3,t,Ow.st g1 e s λa z=>n a<|(t.all a).mpr<|.inl z,Ow.st g2 e s λa z=>n a<|(t.all a).mpr<|.inr<|.inl z,Ow.st g3 e s λa z=>n a<|(t.all a).mpr<|.inr<|.inr z],
 λh e=>by
  obtain⟨p,u1,u2,u3,F1,F2,F3,h1,h2,h3,t,g⟩:=h
  exact#[p,u1,u2,u3,F1,F2,F3,h1,h2,h3,#[λa=>(e a).symm.trans (t.all a),t.Ih,t.JN,t.JO],g]]
section
variable{D PO τ:Type}[Sls D][Sls PO][Ow τ]{α β γ:Type}[Ow α][Ow β][Ow γ]
def a08{x1}(i j k:Nat)[Sls D'][Sls P][Sls Q][Sls S][Hs α][Hs β][Hs γ][g:At i D α P][l:At j P β Q][t:At k Q γ S][J:Pj S PO n](u:PE X (.Name x v) (vw i))(w:PE X (.Name y m) (vw j))(A:PE X (.Name z e) (vw k))
 (h1:gJ [.Name x v,.Name y m,.Name z e] X.env=(false,eval (.Name x v) X.env)::gJ [.Name y m,.Name z e] X.env:=by rfl) (h2:gJ [.Name y m,.Name z e] X.env=(false,eval (.Name y m) X.env)::gJ [.Name z e] X.env:=by rfl) (h3:gJ [.Name z e] X.env=(false,eval (.Name z e) X.env)::gJ [] X.env:=by rfl) :
    S1 X E T ms n (.Return (some<|.Tuple [.Name x v,.Name y m,.Name z e] x1 p4) pos) (λ(d:D)(_:D'->Prop)(U:T3 α β γ->PO->Prop) _=>U #[g.get d,l.get<|g.hole d,t.get<|l.hole<|g.hole d]<|J.pj<|t.hole<|l.hole<|g.hole d):=by
  refine#[_,Cd<|OQ<|uY u (uY w (uY A vi h3) h2) h1,λd F R σ H Kn U Ke En s hw kn kr ke=>?_]
  refine e3a4 (g.take s.rel) λ_ G1 G2 W b g1 r1=>?_
  obtain⟨B,rfl⟩:=Hs.has g1
  refine e3a4 (l.take r1) λ_ _ _ Y _ g2 r2=>?_
  obtain⟨C,rfl⟩:=Hs.has g2
  refine e3a4 (t.take r2) λ_ _ _ Z _ g3 _=>?_
  obtain⟨I,rfl⟩:=Hs.has g3
  refine#[B,W,C,Y,I,Z,(by show 3<=gL;decide),λp hp=>?_]
  refine e0a3 (s.new (.tup [B,C,I]) hp) λL c1 n1=>?_
  refine e3a4 (g.take L.rel) λv1 o E1 b1 b k1 q1=>?_
  refine e3a4 (l.take q1) λv2 q E2 b2 c k2 q2=>?_
  refine e3a4 (t.take q2) λv3 r E3 b3 f k3 q3=>?_
  rw[W]at b1
  rw[Y]at b2
  rw[Z]at b3
  cases b1
  cases b2
  cases b3
  refine e1a2 (J.le q3) λG l1 l2=>?_
  have i1:∀a,o a->F a:=λa h=>(b.all a).mpr<|.inl h
  have i2:∀a,q a->F a:=λa h=>(b.all a).mpr<|.inr<|(c.all a).mpr<|.inl h
  have i3:∀a,r a->F a:=λa h=>(b.all a).mpr<|.inr<|(c.all a).mpr<|.inr<|(f.all a).mpr<|.inl h
  have M:∀a,G a->F a:=λa h=>(b.all a).mpr<|.inr<|(c.all a).mpr<|.inr<|(f.all a).mpr<|.inr<|l1 a h
  have dG:∀a,o a\/q a\/r a->¬G a:=λa h z=>by
    have N:=l1 a z
    rcases h with h|h|h
    · exact b.ye a h<|(c.all a).mpr<|.inr<|(f.all a).mpr<|.inr N
    · exact c.ye a h<|(f.all a).mpr<|.inr N
    · exact f.ye a h N
  have O:∀a,o a\/q a\/r a->F a:=λa h=>h.elim (i1 a) λh=>h.elim (i2 a)<|i3 a
  exact kr _ _ (.ref p) (λa=>o a\/q a\/r a) G R _ hw #[c1.keep,λ_ h=>.inl h,λa h=>.inl<|h.elim (O a)<|M a,λ_ h _=>h] #[l2,λa h=>s.sub a<|M a h,L.wZ,L.tab,s.vI,λh=>s.vy<|M T h]
    #[#[p,B,C,I,o,q,r,rfl,n1,uT,#[λ_=>Iff.rfl,λa h k=>b.ye a h<|(c.all a).mpr<|.inl k,λa h k=>b.ye a h<|(c.all a).mpr<|.inr<|(f.all a).mpr<|.inl k,λa h k=>c.ye a h<|(f.all a).mpr<|.inl k],k1,k2,k3],λa h=>s.sub a<|O a h,λa h z=>dG a h z,λh=>s.vy<|O T h]
def a09(i j k:Nat){σ1 Xr σ3 D0 D1 D2 D3 D4 D5:Type}[Ow σ1][Ow Xr][Ow σ3][Sls D0][Sls D1][Sls D2][Sls D3][Sls D4][Sls D5][A:At i D σ1 D0][U:Pt i D0 α D1][A2:At j D1 Xr D2][U2:Pt j D2 β D3][A3:At k D3 σ3 D4][U3:Pt k D4 γ D5][J:Pj D PO n]{we:Wf D (T3 α β γ) D}
 (hp:PG X tg (Wz X.K 3<|FG (CN i)<|FG (CN j)<|FG (CN k) Wy)) (hi:i∉ms) (hj:j∉ms) (hk:k∉ms) (he:EO X E T e we)
 (hb:∀{te:TE} {t:TG},PE X e te->PG X tg t->PS X (.Assign [tg] e pos) (OF te t):=by intro te t h1 h2;exact Gj h1 h2) :
    S1 X E T ms n (.Assign [tg] e pos) (cS we J.pj λ(Kn:D5->Prop)(Kr:τ->PO->Prop) x d1=>Kn<|U3.put (A3.hole<|U2.put (A2.hole<|U.put (A.hole d1) x.a) x.b) x.c):=by
  refine e1a2 he λt h1 h2=>?_
  refine#[_,hb h1 hp,λd F R σ H Kn Kr Ke En s hw kn kr ke=>h2 d F R σ H _ _ _ s hw (λx d1 v F1 F2 R1 H1 q1 c1 s1 m1=>?_) λC y d' F' R' H' q c s'=>?_]
  · obtain⟨p, u1, u2, u3, G1, G2, G3, e1, e2, e3, t3, g1, g2, g3⟩ := m1.is
    cases e1
    have j1:∀a,G1 a->F1 a:=λa h=>(t3.all a).mpr<|.inl h
    have j2:∀a,G2 a->F1 a:=λa h=>(t3.all a).mpr<|.inr<|.inl h
    have j3:∀a,G3 a->F1 a:=λa h=>(t3.all a).mpr<|.inr<|.inr h
    refine e1a2 (D9 (i:=i) s1 (x:=x.a) (v:=u1) (F1:=G1) #[g1,λa h=>m1.sub a<|j1 a h,λa h z=>m1.ye a (j1 a h) z,λh=>m1.tab<|j1 T h]) λL1 k1 f1=>?_
    refine e1a2 (D9 (i:=j) f1 (x:=x.b) (v:=u2) (F1:=G2) #[g2,λa h=>m1.sub a<|j2 a h,λa h z=>(k1 a z).elim (λq=>t3.Ih a q h)<|m1.ye a<|j2 a h,λh=>m1.tab<|j2 T h]) λL2 k2 f2=>?_
    refine e1a2 (D9 (i:=k) f2 (x:=x.c) (v:=u3) (F1:=G3) #[g3,λa h=>m1.sub a<|j3 a h,λa h z=>(k2 a z).elim (λq=>t3.JO a q h) λz=>(k1 a z).elim (λq=>t3.JN a q h)<|m1.ye a<|j3 a h,λh=>m1.tab<|j3 T h]) λL3 k3 f3=>?_
    exact#[p,[u1,u2,u3],rfl,yY.of e3,rfl,u1,[u2,u3],rfl,u2,[u3],rfl,u3,[],rfl,rfl,kn _ L3 R1 H1 _ q1 (c1.less λa h=>(k3 a h).elim (λq=>.inl<|j3 a q) λh=>(k2 a h).elim (λq=>.inl<|j2 a q) λh=>(k1 a h).elim (λq=>.inl<|j1 a q) .inr) f3<|((Ag.set hi).trans<|Ag.set hj).trans<|Ag.set hk]
  · refine e1a2 (v8 (PO := PO) s') λG g1 g2 => ?_
    exact ke C y _ G R' H' q (c.less g1) g2
end
end WL
namespace L2
variable[L2.GX]
open PySem PySem.Spec PyProof.Rows
def An:Slot "wrapper_descriptor" "__get__" "wrapper_descriptor.__get__":=.of (owner:="wrapper_descriptor") (n:="__get__") (by rw[nQ,lH];kernel_rfl) q0s q0s q0s
 (.inl<|by kernel_rfl) (by rw[td];kernel_rfl)
def Hd:sX ud "wrapper_descriptor.__get__"=↑Builtin.«wrapper_descriptor.__get__»:=entryFor_of_tree (by kernel_rfl)
def Jj(a b c:cr):rM "wrapper_descriptor.__get__" #[[a,b,c],[]]:=by unfold rM;kernel_rfl
def zB:uy (.builtin "ValueError.__init__")=pure (.type "wrapper_descriptor"):=by kernel_rfl
noncomputable def a0e(obj cls:cr)(name:Str):Sem Unit:=do
  rule "descr.get.wrong-instance"
  raiseError "TypeError" s!"descriptor '{name.toString}' for '{← typeName cls}' objects doesn't apply to a '{← typeNameOf obj}' object"
def NQ(x C:ci):Builtin.«wrapper_descriptor.__get__» #[[.builtin "ValueError.__init__",.ref x,.ref C],[]]=((isInstance (.ref x) (.type "ValueError") >>= λb=>if (!b)=true then a0e (.ref x) (.type "ValueError") "__init__" else pure ()) >>= λ_=>newFields "method-wrapper" [.builtin "ValueError.__init__",.ref x] >>= ret):=by kernel_rfl
section
variable{prog:iu}{w:iO}{A:jq}{E:cr->gN->Prop}{h:iJ}{g:Array o5}{d:Drawn}{t:Nat}{os:OsState}{so D x C:ci}{ox:Obj}{l0 l:List cr}{K:gH}
def Ex(c:h.get? x=↑ox)(b:ox.cls=.ref C)(a:jA (gU prog w) h (isSubtype (.ref C)<|.type "ValueError") true)
 (e:R (.ok<|.ret<|.ref h.objs.size) #[h.push { cls:=.type "method-wrapper",data:=.fields #v[.builtin "ValueError.__init__",.ref x]},g,d,t,os]) :
    mz (gU prog w) A (.call (.builtin "wrapper_descriptor.__get__") #[[.builtin "ValueError.__init__",.ref x,.ref C],[]]) R #[h,g,d,t,os]:=by
  have f:(#[h,g,d,t,os]:gN).TypeIs (.builtin "ValueError.__init__") "wrapper_descriptor":=by first|exact kg zB|exact zB
  refine nA An.plain Hd<|An.check _ _ _ _ _ _ _ _ f (Jj _ _ _) ?_
  rw[NQ]
  refine am<|am ?_
  refine am<|wpAny_typeOf_ref c ?_
  rw[b]
  refine PySem.W.Looks.at a ?_
  exact ap<|am<|iH<|ap e
def Jk(a:h.get? so=↑(pw D x C))(c:jA (gU prog w) h (opaqueClassAbove<|.ref C) none)(j:jA (gU prog w) h (mroOf<|.ref C) l0)(k:(l0.dropWhile (· != .ref D)).drop 1=l)(X:K.In h)
 (m:ul K "__init__" l=↑(some<|.builtin "ValueError.__init__")) (n:h.get? x=↑ox) (e:ox.cls=.ref C) (b:jA (gU prog w) h (isSubtype (.ref C)<|.type "ValueError") true) (f:x≠C)
 (o:Q (.done<|.ret<|.ref h.objs.size) #[h.push { cls:=.type "method-wrapper",data:=.fields #v[.builtin "ValueError.__init__",.ref x]},g,d,t,os]) :
    gR (gU prog w) A (Builtin.«super.__getattribute__» #[[.ref so,.str "__init__" y],[]]) Q E #[h,g,d,t,os]:=by
  have lk:=An.lookup
  have p:(hO x==hO C)=false:=by simp[f]
  have q:(("__init__":Str)==("__class__":Str))=false:=by decide
  have r:(#v[.ref D,.ref x,.ref C]:Array cr)[0]?=↑(.ref D):=rfl
  have s:(#v[.ref D,.ref x,.ref C]:Array cr)[1]?=↑(.ref x):=rfl
  have u:(#v[.ref D,.ref x,.ref C]:Array cr)[2]?=↑(.ref C):=rfl
  have i:(pw D x C).data=.fields #v[.ref D,.ref x,.ref C]:=rfl
  have v:=zB
  repeat (first|(with_reducible refine iX a i r ?_)|(with_reducible refine iX a i s ?_)|(with_reducible refine iX a i u ?_)|(with_reducible refine ks_wpAny_notOpaque c ?_)|(with_reducible refine PySem.W.Looks.at j ?_;rw[k])|(refine ks_forIn_along X (λ_ _=>rfl) rfl ?_ m)|(with_reducible refine mF v ?_)|(simp only[q,p,rY,kS,o8])|wp_step|dsimp only)
  exact Ex n e b<|am<|ap<|ap<|ap o
end
section
variable{prog:iu}{w:iO}{A:jq}{E:cr->gN->Prop}{h:iJ}{g:Array o5}{d:Drawn}{t:Nat}{os:OsState}
variable{nm q:Str}{C N:ci}{bs bm De:List cr}{hdct:Bool}{sn:List Str}{sub:List cr}{ab:Bool}{col:Option Bool}{dd:Option ci}{k0 k1 k2 k3 k5:Option cr}{B newId yh:String}
def AS(F:kq B newId yh De)(T:sI h De bm){a:List cr} 
 (i:h.get? C=↑82) (u:h.Ns N v) (y:v "__init__"=↑(.ref n))
 (k:h.get? n=↑z) (l:z.cls=.type "function")
 (D:∀p e,rH h p e (.ref C) a ->
 gR (gU prog w) A (call (.ref n) (.ref e::a)) (λr s=>r=.none/\Q (.done (.ret (.ref e))) s) E #[p,g,d,t,os]) (hrest:a.length<=gL:=by size_fits) :
    gR (gU prog w) A (Builtin.«type.__call__» #[.ref C::a,[]]) Q E #[h,g,d,t,os]:=by
  repeat (first|with_reducible refine jF i ?_|with_reducible refine wpAny_madeBy_exc i ?_|wp_step)
  refine codeAny_call_builtin_code (nK _ F.quiet)<|wpAny_check_new_subT F T i ?_
  refine codeAny_exc_new_subT F T i ?_ hrest
  have j:∀b o,h.get? b=↑o->((h.push { cls:=.type "tuple",data:=.seq a.toArray}).push { cls:=.ref C,data:=.fields #v[.ref h.objs.size,.none,.none,.none,.bool false,.none]}).get? b=↑o:=λb o e=>ce _<|ce _ e
  have c:=j _ _ i
  have f:((h.push { cls:=.type "tuple",data:=.seq a.toArray}).push
      { cls:=.ref C,data:=.fields #v[.ref h.objs.size,.none,.none,.none,.bool false,.none]}).get? (h.objs.size+1)=some
      { cls:=.ref C,data:=.fields #v[.ref h.objs.size,.none,.none,.none,.bool false,.none]}:=by heap_get
  have m:(hO C::bm).contains (.ref C)=true:=by simp
  repeat (first|with_reducible refine jF f ?_|(with_reducible refine qD c ?_;rw[m])|wp_step)
  refine wpAny_typeLookup_tail c (u.keeps j) (T.keeps j) F.mroIs F.init.lookup ?_
  rw[y]
  refine iz<|am ?_
  refine am<|kK (T:="function") #[_,j _ _ k,l] ?_
  rw[gI q0q]
  refine ap<|am<|iW (D _ (h.objs.size+1) ⟨j,mV<|lG _,h.objs.size,f,mV<|gK _,ce _<|oi rfl rfl⟩) (λr s G=>?_) λ_ _ x=>x
  obtain⟨rfl,H⟩:=G
  wp_walk
  exact H
def Ey(F:kq B newId yh De)(T:sI h De bm){a:List cr} 
 (c:h.get? C=↑82) (k:h.Ns N l) (m:l "__init__"=↑(.ref j))
 (f:h.get? j=↑n) (i:n.cls=.type "function")
 (o:∀b e,rH h b e (.ref C) a ->
 gR (gU prog w) (A.under (.builtin "type.__call__" #[.ref C::a,[]])) (call (.ref j) (.ref e::a)) (λr p=>r=.none/\Q (.ref e) p) E #[b,g,d,t,os]) (hrest:a.length<=gL:=by size_fits) :
    gR (gU prog w) A (call (.ref C) a) Q E #[h,g,d,t,os]:=by
  have u:=tc_lookup
  have v:=tc_bind<|.ref C
  refine mD<|mB ?_
  repeat (any_goals (first|assumption|with_reducible refine jF c ?_|wp_step))
  refine#[rfl,?_]
  exact codeAny_call_builtin_at (nK _ q0s) entry_typeCall<|wpAny_check_type_call_sub c<|AS (hrest:=hrest) F T c k m f i λb e s=>o b e s
end
noncomputable def Ao(x:ci):Obj:={ cls:=.type "method-wrapper",data:=.fields #v[.builtin "ValueError.__init__",.ref x]}
section
variable{prog:iu}{w:iO}{A:jq}{E:cr->gN->Prop}{h:iJ}{g:Array o5}{d:Drawn}{t:Nat}{os:OsState}{so D x C:ci}{ox:Obj}{l0 l:List cr}{K:gH}
def Bl(a:h.get? so=↑(pw D x C))(f:jA (gU prog w) h (opaqueClassAbove<|.ref C) none)(n:jA (gU prog w) h (mroOf<|.ref C) l0)(o:(l0.dropWhile (· != .ref D)).drop 1=l)(X:K.In h)
 (p:ul K "__init__" l=↑(some<|.builtin "ValueError.__init__")) (q:h.get? x=↑ox) (i:ox.cls=.ref C) (b:jA (gU prog w) h (isSubtype (.ref C)<|.type "ValueError") true) (j:x≠C)
 (r:Q (.ref h.objs.size,[]) #[h.push<|Ao x,g,d,t+1,os]):gR (gU prog w) A (lY (.ref so) "__init__" y) Q E #[h,g,d,t,os]:=by
  have c:=F.ks_slot_super_ga.lookup
  have e:=F.ks_canon_super_ga
  have k:∀s,(#[h,g,d,s,os]:gN).TypeIs (.ref so) "super":=λ_=>#[_,a,rfl]
  refine am<|pM (k _) c ?_
  show gR _ _ (if (Manifest.canonical "super.__getattribute__" != "object.__getattribute__")=true then _ else _) _ _ _
  rw[gI e]
  refine am<|am<|wpAny_mkText<|iz<|am<|kK (k _)<|am<|mF c ?_
  refine am<|mF (show (if onTheHeap (.type "super") then m8 (.type "super") "__getattr__" else pure none)=pure none from rfl) ?_
  refine am<|oV<|iz ?_
  refine am<|mF (F.ks_slot_super_ga.bind _) ?_
  refine iW (Q:=λv m=>v=.ref h.objs.size/\m=#[h.push<|Ao x,g,d,t+1,os]) (E:=λ_ _=>False)
    (iP F.ks_slot_super_ga (k _) F.ks_entry_super_ga (Jk a f n o X p q i b j #[_,rfl,rfl,rfl])<|F.ks_gaArgs_super _ _) (λv m u=>?_) λ_ _ z=>z.elim
  obtain⟨rfl,rfl⟩:=u
  exact ap<|ap r
def QE(h:iJ)(e:h.get? q=↑(Ao x)):∃k,(k=Keeper.frame\/k=Keeper.machine\/k=Keeper.boundFrame)/\jA M h (keeperOf<|.ref q) k :=
 #[.machine,.inr<|.inl rfl,(pr (part:=none) e).andThen .now]
variable{nm q:Str}{N:ci}{bs bm De:List cr}{hdct:Bool}{sn:List Str}{sub:List cr}{ab:Bool}{col:Option Bool}{dd:Option ci}{k0 k1 k2 k3 k5:Option cr}{newId:String}
def Cz(F:kq "ValueError" newId "ValueError.__init__" De){c:List cr} 
 (f:h.get? C=↑82) (i:h.get? x=↑ox) (e:ox.cls=.ref C) (j:Q () #[h,g,d,t,os]) :
    gR M A (checkBoundCall "ValueError.__init__" #[.ref x::c,[]]) Q E #[h,g,d,t,os]:=by
  simp only[checkBoundCall,F.initKind,F.initRow]
  rw[gI q0q]
  repeat (first|(with_reducible refine jF i ?_;rw[e])|with_reducible refine jF f ?_|wp_step)
  refine oX ?_
  rw[show ∀(a b:String)(n:Nat),Bind.check #[.positional,"*","ValueError",.self,[#["args",.varPos,false]]] a b n (List.map (λx=>x.fst) ({ pos:=hO x::c}:Args).kw)=pure () from
    λa b n=>check_star_args _ _ _ _ _ _]
  exact ap j
def Uo(F:kq "ValueError" newId "ValueError.__init__" De){a:List cr}(o:h.get? C=↑82)(e:h.get? p=↑(Ao x))(j:h.get? x=↑ox)(f:ox.cls=.ref C)(k:ox.data=.fields m)(n:m[0]?=↑(.ref s))
 (r:Q .none #[(h.push { cls:=.type "tuple",data:=.seq a.toArray}).update x (Obj.mapFields (·.setIfInBounds 0 (.ref h.objs.size))),g,d,t,os]) (c:a.length<=gL:=by size_fits) :
    gR (gU prog w) A (call (.ref p) a) Q E #[h,g,d,t,os]:=by
  refine mD<|mB ?_
  refine am<|qK e ?_
  refine am<|Cz F o j f<|ap #[kP F.init.plain _,jG F.initEntry ?_]
  rw[jr F.init.plain]
  unfold Builtin.«BaseException.__init__»
  dsimp only
  rw[gl q0o]
  have i:0<m.size:=(Array.getElem?_eq_some_iff.mp n).1
  have b:=ce (h:=h) { cls:=.type "tuple",data:=.seq a.toArray} j
  refine am<|iH (am<|am<|iX b k n<|am<|mS b k i ?_) (by show a.toArray.size<=gL;rw[gY];exact c)
  exact sd<|ap r
end
open Builtin Builtin.ObjectAttr
section
variable{prog:iu}{w:iO}{A:jq}{E:cr->gN->Prop}{h:iJ}{g:Array o5}{d:Drawn}{t:Nat}{os:OsState}{x C N:ci}{o:Obj}{v:cr}{name:Str}
variable{nm q:Str}{bs bm De:List cr}{sn:List Str}{sub:List cr}{ab:Bool}{col:Option Bool}{dd:Option ci}{k0 k1 k2 k3 k5:Option cr}{B newId sa owner:String}
def NR(e:StoreFacts B De sa owner)(f:bm.contains (.type owner)=true)
 (l:h.get? C=↑(jw nm q C N bs bm true sn sub ab col dd k0 k1 k2 k3 k5 newId)) (m:h.get? x=↑o) (n:o.cls=.ref C) (j:Q () #[h,g,d,t,os]) :
    gR M A (checkBuiltinCall sa #[[.ref x,a,v],[]]) Q E #[h,g,d,t,os]:=by
  have i:(hO C::bm).contains (.type owner)=true:=by rw[um,f,Bool.or_true]
  have k:=e.args (.ref x) a v
  simp only[checkBuiltinCall,e.kind,e.split]
  refine am ?_
  repeat (first|(with_reducible refine jF m ?_;rw[n])|(with_reducible refine qD l ?_;rw[i])|wp_step)
  cases b:Manifest.signature? sa with
  |none=>exact ap j
  |some c =>
    simp only[rM,b]at k
    have p:Bind.checkArgs sa c #[[.ref x,a,v],[]]=pure ():=k
    show gR M A (Bind.checkArgs sa c #[[.ref x,a,v],[]]) Q E _
    rw[p];exact ap j
set_option tactic.hygienic true in
def KQ(m:tD (.ref x) "__setattr__" bm=pure ())
 (P:h.get? C=↑(jw nm q C N bs bm true sn sub ab col dd k0 k1 k2 k3 k5 newId)) (L2:jA (gU prog w) h (m8 (.ref C) name) none)
 (l:h.get? x=↑o) (R:o.cls=.ref C) (n:∀c,o.data≠.cls c) (p:o.dict=none)
 (S:∀i r s,h.get? s=none->(∀b u,b≠x->h.get? b=↑u->i.get? b=↑u)->i.get? x=some { cls:=o.cls,dict:=↑s,data:=o.data,slots:=o.slots}->i.Ns1 s (λy=>if y=name then some v else none)->Q (.done<|.ret .none) #[i,g,d,r,os]) :
    gR (gU prog w) A (Builtin.«object.__setattr__» #[[.ref x,.str name Z,v],[]]) Q E #[h,g,d,t,os]:=by
  repeat (first|rw[refuse_eq]|(rw[refuseLoop_ref,m])|(with_reducible refine jF l ?_;rw[R])|with_reducible refine wpAny_mroOf_exc P ?_|(with_reducible refine PySem.W.Looks.at L2 ?_)|wp_step)
  rw[p,gl<|by simp[typeHasDict]]
  split
  · rename_i f
    cases f
  split
  · rename_i c f
    exact g8 f<|n c
  · have a : (h.push { cls := .type "dict", data := .dict #v[] }).get? x = some o := ce _ l
    have j:x≠h.objs.size:=gZ<|gP l
    refine am<|wpAny_alloc' ?_
    refine am<|wpAny_update' a ?_
    refine ap ?_
    have z:((h.push { cls:=.type "dict",data:=.dict #v[]}).update x λo=>{ cls:=o.cls,dict:=↑h.objs.size,data:=o.data,slots:=o.slots}).get? h.objs.size
       =some { cls:=.type "dict",data:=.dict #v[]} :=
      (pT _ _ _ _ j.symm).trans (oi rfl rfl)
    have D:((h.push { cls:=.type "dict",data:=.dict #v[]}).update x λo=>{ cls:=o.cls,dict:=↑h.objs.size,data:=o.data,slots:=o.slots}).Ns h.objs.size (λ_=>none) :=
      #[_,#v[],_,z,rfl,λe T=>g8 T q0o,λ_=>rfl]
    refine am<|ap<|am<|wpAny_nsSet1 (sM D) λi k M=>?_
    obtain⟨oD,U,X,F,G,H⟩:=k.count<|Within.cons name v Within.nil
    refine am<|wpAny_lookBehind F (by rw[G];exact pastItsLine_dict<|ij H<|by rw[hZ,mZ,i8];lia) ?_
    wp_walk
    refine S i _ h.objs.size (mV<|gK _) (λb u I O=>?_) ?_ k
    · exact(M.2 b<|gZ<|gP O).trans<|(pT _ _ _ _ I).trans<|ce _ O
    · refine(M.2 x j).trans (iL _ a ?_)
      have J:=(Heap.get?_some_iff.mp l).2
      obtain⟨oc,od,L,Y⟩:=o
      cases L<;>first|rfl|exact J
def Jl(i:StoreFacts B De sa owner)(j:bm.contains (.type owner)=true)(k:tD (.ref x) "__setattr__" bm=pure ())
 (r:h.get? C=↑(jw nm q C N bs bm true sn sub ab col dd k0 k1 k2 k3 k5 newId)) (u:jA (gU prog w) h (m8 (.ref C) "__setattr__") (some<|.builtin sa)) (L2:jA (gU prog w) h (m8 (.ref C) name) none)
 (l:h.get? x=↑o) (m:o.cls=.ref C) (n:∀c,o.data≠.cls c) (p:o.dict=none)
 (z:∀e a f,h.get? f=none->(∀b s,b≠x->h.get? b=↑s->e.get? b=↑s)->e.get? x=some { cls:=o.cls,dict:=↑f,data:=o.data,slots:=o.slots}->e.Ns1 f (λy=>if y=name then some v else none)->Q () #[e,g,d,a,os]) :
    gR (gU prog w) A (setAttr (.ref x) name v) Q E #[h,g,d,t,os]:=by
  have I:=i.slot.bind<|.ref x
  repeat (any_goals (first|assumption|(with_reducible refine jF l ?_;rw[m])|(with_reducible refine PySem.W.Looks.at u ?_)|wp_step))
  refine nA i.slot.plain i.entry<|NR i j r l m<|KQ k r L2 l m n p λe a f D F G H=>?_
  repeat (any_goals (first|assumption|wp_step))
  exact z e a f D F G H
end
def ExI(C x:ci)(d:Option ci)(h:iJ):Prop:=∃(a:ci),h.get? x=some { cls:=.ref C,dict:=d,data:=.fields #v[.ref a,.none,.none,.none,.bool false,.none]}
noncomputable def DB(C x:ci)(d:Option ci):HO:=.ext<|ExI C x d
def He{C:ci}(I:Inv X a c H s)(h:H x=↑(DB C x b)):ExI C x b s.heap:=(I.vL x _ h).1
def KR{C:ci}(q:ExI C x b h):vY P w H h x (DB C x b) :=
 #[q,e1a1 q λ_ e=> #[_,e],λf g a=>e1a1 a λc d k=>#[c,k _ d]]
def cw_mw(i:gJ (e::f) b=(false,eval e b)::gJ f b)(c:(ja pos<|gJ f b).any (·.1)=false)
 (h:gR M B (ur<|ja pos<|gJ (e::f) b) (λj d=>d.heap.get? q=↑(Ao a)/\gR M B (call (.ref q) j) Q g d) g k):gR M B (mO pos (.ref q) [] (ja pos<|gJ (e::f) b) []) Q g k:=by
  rw[i]at h ⊢
  exact pi (P:=λh=>h.get? q=↑(Ao a)) (by show ((false||(ja pos<|gJ f b).any (·.1))||false)=false;rw[c];rfl) QE<|js h
def a0g(C:ci)(t:TA):TE:=λb H Q=>∃a,b[0]?=↑(some<|.ref a)/\H a=some (DB C a none)/\t b H λd c=>d.length<=gL/\c a=↑(DB C a none)/\Q .wq c
section
variable{P:iu}{w:iO}{K:gH}{mg:Str->Option cr}{base:iJ}{N:List Str}{qual:Str}{scope:lV}{f zk cc:ci}{A:jq}{outer:List Env}{s:gN}{H:Hp}{E:XK}{C:ci}{x0:Str}{fb:List ic}{p0 p1 apos pos:Pos}{es:List iA}{e0:iA}{ta:TA}
variable{nm q:Str}{Ns:ci}{bs bm:List cr}{hdct:Bool}{sn:List Str}{sub:List cr}{ab:Bool}{col:Option Bool}{dd:Option ci}{k0 k1 k2 k3 k5:Option cr}
set_option tactic.hygienic true in
def QF(S:KJ P K C f zk cc x0)(ae:N[0]?=↑x0)(U:scope.names.lookup ("super":Str)=some .globalImplicit)(X:scope.names.lookup ("__class__":Str)=some .free)(B:scope.names.lookup x0=some .local)(af:mg "super"=none)
 (lC:K.lookup C=↑(jw nm q C Ns bs bm hdct sn sub ab col dd k0 k1 k2 k3 k5 "ValueError.__new__")) (hm:jO K C C "__init__"=↑(some<|.builtin "ValueError.__init__")) (ag:kD K C (.type "ValueError")=↑true)
 (ha:PA 91 (e0::es) ta)
 (he:gJ (e0::es) (iR qual scope ⇑s f (.ref zk) [72])=(false,eval e0<|iR qual scope ⇑s f (.ref zk) [72])::gJ es (iR qual scope ⇑s f (.ref zk) [72]))
 (l:(ja pos<|gJ es<|iR qual scope ⇑s f (.ref zk) [72]).any (·.1)=false) (D:NO p0 p1 apos pos "__init__" (e0::es)) :
    PEA 91 fb (.Call (.Attribute 84 "__init__" apos) (e0::es) [] pos) (a0g C ta):=by
  intro n i σ H1 Q I h
  refine e1a3 h λa h0 ea h=>?_
  have Y:=I.yG
  obtain⟨oc,od,fd,au,Z,lf,hp,rfl⟩:=S.fn
  obtain⟨av,aw,ax,an,file,tf,lc,ah,G⟩:=S.code
  obtain⟨ao,aq,aa,L⟩:=S.cell
  obtain⟨cd,j⟩:=S.cls
  obtain⟨t0,O⟩:=He I ea
  refine e1a2 I.loc λmL hn hl=>?_
  refine e1a2 (hl 0 Z.arg (.ref a) ae h0<|.inl B) λu ru lk=>?_
  obtain rfl:u=hO a:=ru
  have ai:mL Z.arg=↑(.ref a):=by
    rcases lk with⟨_,q⟩|⟨q,_⟩
    · exact q
    · have q : scope.names.lookup Z.arg = some .cell \/ scope.names.lookup Z.arg = some .free := q
      rw[B]at q
      rcases q with q|q<;>cases q
  obtain⟨oD,M,R⟩:∃oD,i.heap.get? C=some oD/\oD.data=.cls cd:=by
    unfold mG at j
    split at j
    · rename_i c d ay sl ho
      cases j
      exact#[_,Y _ _ ho,rfl]
    · cases j
  refine e1a2 I.mod.blt λmb aj ak=>?_
  have ne:a≠C:=λz=>by
    rw[z,M]at O
    cases O
    cases R
  obtain⟨pl,D⟩:=D<|iR qual scope ⇑s f (.ref zk) [72]
  refine ks_wpAt_MethodCall (pl:=pl) (ks_wpAt_super_base (env:=iR qual scope ⇑s f (.ref zk) [72]) U X q0q rfl (Y _ _ lf) rfl hp rfl (Y _ _ lc) rfl ah G S.top ?_) D
  refine qR I.ok.kind U<|nX (env:=iR qual scope ⇑s f (.ref zk) [72]) (I.mod.glob.keeps I.bk) af (aj.keeps I.bk) ((ak _ q0s).trans rfl) #[rfl,?_]
  refine qt I.ok.kind X rfl #[_,Y _ _ L,rfl] ?_
  refine kJ I.ok.kind B hn ai ?_
  refine ks_wpAny_isType_cls (h:=i.heap) (g:=i.gens) (d:=i.drawn) (t:=i.toks) (os:=i.os) M R #[rfl,?_]
  refine ks_wpAny_call_super (h:=i.heap) (g:=i.gens) (d:=i.drawn) (t:=i.toks) (os:=i.os) M R O rfl (λc e=>by cases e) (pq Y S.sub) λp e k'=>?_
  have T:Inv _ n σ H1 #[p,i.gens,i.drawn,i.toks,i.os]:=I.kept (t':=i.toks) k'
  unfold jO at hm
  rw[j]at hm
  refine Bl e (sy T.yG S.opq) (l0:=cd.mro) (λA Q E s k q=>am<|(o7 T.yG j) A _ E s k<|ap q) rfl T.yG hm (k' _ _ O) rfl (pq T.yG ag) ne ?_
  have I2:Inv _ n σ H1 #[p.push<|Ao a,i.gens,i.drawn,i.toks+1,i.os]:=T.kept (t':=i.toks+1) λb o z=>ce _ z
  have fr:H1 p.objs.size=none:=T.vL.fresh<|gK _
  have gq:(p.push<|Ao a).get? p.objs.size=↑(Ao a):=oi rfl rfl
  have I3:=I2.pinned (fp:=[p.objs.size]) (λb y=>by rw[List.mem_singleton.mp y];exact T.Gk (gK _) fr) λb y=>by rw[List.mem_singleton.mp y];exact#[_,gq,λv z=>by cases z]
  refine cw_mw (a:=a) he l<|vG (ha pos _ _ σ H1 _ I3 h) λus s2 z9=>e2a5 z9 λvs H2 I4 r q1 q2 q3=>?_
  have g2:s2.heap.get? p.objs.size=↑(Ao a):=(I4.pin (p.objs.size,Ao a)<|hV _<|hV _<|xu gO gq).1
  refine#[g2,?_]
  have I5:=I4.zS
  obtain⟨t1,O1⟩:=He I5 q2
  have al:=I5.yG
  obtain⟨m,g5,d5,t5,az⟩:=s2
  refine Uo io (al _ _ lC) g2 O1 rfl rfl rfl ?_ (by show us.length<=_;rw[<- r.length];exact q1)
  have hu:upd H2 a (DB C a none)=H2:=by
    funext b
    by_cases y:b=a
    · rw[y, uT, q2]
    · rw[uR y]
  have O2:=iL (f:=Obj.mapFields (·.setIfInBounds 0 (.ref m.objs.size))) (ce { cls:=.type "tuple",data:=.seq us.toArray} O1) rfl
  have J:=I5.write (x:=a) (e:=a) (o:=DB C a none) (t':=t5) (h':=(m.push { cls:=.type "tuple",data:=.seq us.toArray}).update a (Obj.mapFields (·.setIfInBounds 0 (.ref m.objs.size)))) (by rw[q2];trivial) (.inl rfl)
    (λb u y z=>by rw[pT _ _ _ _ y];exact ce _ z) #[_,O2] (KR #[m.objs.size,O2])
  rw[hu]at J
  exact#[.wq,H2,J,rfl,q3]
end
def xR.a2u{s:iJ}{C:ci}(k:xR P w H h)(t:H a=↑(DB C a none))(n:h.get? l=none)(x:∀b o,b≠a->h.get? b=↑o->s.get? b=↑o)(q:ExI C a d s)(D:s.Ns1 l (λz=>if z=f then some u else none))(r:RelV y u) :
  xR P w (upd (upd H l<|.xd [(f,y)]) a<|DB C a d) s/\∀A,Un A [] H (upd (upd H l<|.xd [(f,y)]) a<|DB C a d) h s:=by
 have E:∀b v,H b=↑v->b≠l:=λb v z e=>by obtain⟨o,i⟩:=AH k z;rw[e,n]at i;cases i
 have j:∀b v,H b=↑v->(∀B,v≠.ext B)->upd (upd H l<|.xd [(f,y)]) a (DB C a d) b=some v:=λb v z e=>by rw[uR λi=>by rw[i,t]at z;cases z;exact e _ rfl,uR<|E b v z];exact z
 refine#[λb o z=>?_,λA=>#[λb o z e _ _=>x b o (λi=>by rw[i,t]at e;cases e) z,λb o z e _ _=>#[o.slots,x b o (λi=>by rw[i,t]at e;cases e) z],λb o z e _=>?_,λb o z _=>?_,λb B z=>j b _ z (λ_ e=>by cases e),λb o v z=>j b _ z (λ_ e=>by cases e),λb I z=>#[#v[],by rw[j b _ z<|λ_ e=>by cases e];simp]]]
 ·by_cases e:b=a
  ·subst e;rw[uT]at z;cases z;exact KR q
  ·rw[uR e]at z;by_cases i:b=l
   ·subst i;rw[uT]at z;cases z;refine#[_,D,λg=>?_];by_cases m:g=f
    ·rw[m,List.lookup_cons_self,gI rfl];exact r
    ·rw[iC,beq_false_of_ne m,gl m];exact True.intro
   ·rw[uR i]at z;refine(k b o z).C6 (λc v p y=>x c v (λm=>?_) y) (λc y=>j c _ y λ_ e=>by cases e) λc J y=>j c _ y λ_ e=>by cases e
    rcases p with p|p
    ·exact e<|p▸m
    ·rw[m,t]at p;cases p
 ·have F:b≠a:=λi=>by rw[i,t]at e;cases e
  have G:b≠l:=λi=>by rw[i,n]at z;cases z
  rw[uR F,uR G];exact e
 ·by_cases e:b=a
  ·obtain⟨_,q⟩:=q;rw[e];exact#[_,q]
  ·exact#[_,x b o e z]
def a0h(C:ci)(f:Str)(e g:TE):TS:=λD c H=>g c H λy h=>e c h λx d=>∃a,x=.ref a/\d a=↑(DB C a none)/\∀b,d b=none->b≠a->D.nx c (upd (upd d b<|.xd [(f,y)]) a<|DB C a<|↑b)
def Up(L:PE X o M)(N:PE X value P)(Q:jx value (some<|.Attribute o f e) pos.line X.env=pure false)
 (R:X.K.lookup C=↑(jw nm q C Ns bs B true sn sub ab S dd k0 E G k3 k5 l)) (m:B.contains (.type "object")=true) (n:∀x:ci,tD (.ref x) "__setattr__" B=pure ())
 (T:ii X.K (.ref C) "__setattr__"=↑(some<|.builtin "object.__setattr__"))(U:ii X.K (.ref C) f=↑none):PS X (.Assign [.Attribute o f e] value pos) (a0h C f M P):=by
  intro b s p H D I h
  refine rA (vG (N b s p H _ I h) λu Y r=>e2a3 r λy H1 Z ry q=>vG (L b Y p H1 _ Z q) λov s2 r=>e2a3 r λx H2 i rx v=>e1a3 v λa ex J q2=>?_) Q
  subst ex
  obtain rfl:ov=hO a:=rx
  obtain⟨t0,O⟩:=He i J
  have w:=i.yG
  obtain⟨hp,g,d,t,os⟩:=s2
  refine Jl PySem.F.store_ValueError m (n a) (w _ _ R) (oR w T) (oR w U) O rfl (λc z=>by cases z) rfl λh' A j k z2 z3 z4=>?_
  have n1:H2 j=none:=by
    cases z:H2 j with
    |none=>rfl
    |some o=>obtain⟨u,q⟩:=AH i.vL z;rw[k]at q;cases q
  have na:j≠a:=λz=>by rw[z,O]at k;cases k
  obtain⟨E,G⟩:=xR.a2u (d:=↑j) i.vL J k z2 #[t0,z3] z4 ry
  exact#[p,_,i.un (h':=h') (t':=A) (G _) E,q2 j n1 na]
def Jm(b:bm.contains (.type "BaseException")=true)(k:A.handled=none)
 (h:gR M A x (λv a=>∃e t i,v=.ref e/\a.heap.get? C=↑82 /\
 a.heap.get? e=some { cls:=.ref C,dict:=i,data:=.fields #v[.ref t,.none,.none,.none,.bool false,.none]}/\E (.ref e) a) E s) :
    gR M A (raiseStmt l ↑x none) Q E s:=by
  have f:(hO C::bm).contains (.type "BaseException")=true:=by rw[um,b,Bool.or_true]
  unfold raiseStmt
  refine am<|iW h (λv a c=>?_) λ_ _ x=>x
  obtain⟨e,t,i,rfl,j,m,n⟩:=c
  obtain⟨o,g,d,p,r⟩:=a
  repeat (first|with_reducible refine jF m ?_|with_reducible refine jF j ?_|(with_reducible refine qD j ?_;rw[f])|wp_step)
  exact wpAny_raiseNew_none k n
def Jn(F:kq B c y H) 
 (n:bm.contains (.type "BaseException")=true) (Y:A.handled=none) (k:(ja l<|gJ args o).any (·.1)=false)
 (h:gR (gU prog w) A (eval (.Name x np) o) (λf m=>f=.ref C/\gR (gU prog w) A (evalArgs (.ref C) true (ja l (gJ args o)) [])
 (λa b=>a.kw=[]/\a.pos.length<=gL/\b.heap.get? C=↑(jw nm q C N bs bm hdct sn sub ab col dd k0 k1 k2 k3 k5 c)/\(∃I,b.heap.Ns N I/\I "__init__"=↑(.ref fI))/\(∃J,b.heap.get? fI=↑J/\J.cls=.type "function")/\sI b.heap H bm /\
 ∀D e,rH b.heap D e (.ref C) a.pos->gR (gU prog w) (A.under (.builtin "type.__call__" #[.ref C::a.pos,[]])) (call (.ref fI) (.ref e::a.pos)) (λr G=>r=.none/\G.heap.get? C=↑(jw nm q C N bs bm hdct sn sub ab col dd k0 k1 k2 k3 k5 c) /\
 (∃t L,G.heap.get? e=some { cls:=.ref C,dict:=L,data:=.fields #v[.ref t,.none,.none,.none,.bool false,.none]})/\E (.ref e) G) E { b with heap:=D}) E m) E s) :
    gR (gU prog w) A (exec (.Raise (some<|.Call (.Name x np) args [] l) none pos) o) Q E s:=by
  rw[arm_exec_Raise]
  refine am<|nj<|Jm (C:=C) (nm:=nm) (q:=q) (N:=N) (bs:=bs) (bm:=bm) (hdct:=hdct) (sn:=sn) (sub:=sub) (ab:=ab) (col:=col) (dd:=dd) (k0:=k0) (k1:=k1) (k2:=k2) (k3:=k3) (k5:=k5) (newId:=c) n Y<|am<|iW (wpAny_Call_ofName<|iW h (λf m i=>?_) λ_ _ x=>x) (λv S p=>am<|nj<|ap p) λ_ _ x=>x
  obtain⟨rfl,i⟩:=i
  unfold mO
  refine am<|iz<|iW i (λa b j=>am<|nj ?_) λ_ _ x=>x
  obtain⟨U,M⟩:=a
  obtain⟨O,u,W,⟨I,Z,hi⟩,⟨J,P,R⟩,T,j⟩:=j
  obtain rfl:M=[]:=O
  obtain⟨hp,g,d,tk,os⟩:=b
  simp only[k]
  refine am<|wpAny_keeperOf_exc W ?_
  refine am<|Ey (hrest:=u) F T W Z hi P R λD e hm=>iW (j D e hm) (λr G X=>#[X.1,?_]) λ_ _ z=>z
  obtain⟨_,c1,⟨t,L,c2⟩,c3⟩:=X
  exact am<|iz<|wpAny_point<|ap #[e,t,L,rfl,c1,c2,c3]
noncomputable def BU(H:Hp)(x:ci):Hp:=λb=>if b=x then none else H b
def zC:BU H x x=none:=gI rfl
def xZ(h:b≠x):BU H x b=H b:=gl h
section
variable{P:iu}{w:iO}{H H3 H4:Hp}{h h' h4:iJ}{x C:ci}{c:Option ci}
def xR.QG(k:xR P w H h)(e:H x=↑(DB C x c)):xR P w (BU H x) h:=λa o z=>by
 have g:a≠x:=λq=>by rw[q,zC]at z;cases z
 rw[xZ g]at z
 have d:∀b u,H b=↑u->(∀f,u≠.ext f)->BU H x b=↑u:=λb u q n=>by rw[xZ λy=>by rw[y,e]at q;cases q;exact n _ rfl];exact q
 exact(k a o z).C6 (λ_ _ _ q=>q) (λb q=>d b _ q λf y=>by cases y) λb i q=>d b _ q λf y=>by cases y
def xR.Hf(k:xR P w H h)(e:h.get? x=none):H x=none:=by
 cases z:H x with
 |none=>rfl
 |some o=>obtain⟨u,q⟩:=AH k z;rw[e]at q;cases q
def xR.MD(k:xR P w H h)(e:h.get? x=none)(f:∀b o,h.get? b=↑o->h'.get? b=↑o)(n:ExI C x c h'):xR P w (upd H x<|DB C x c) h':=λa o z=>by
 by_cases q:a=x
 ·subst q;rw[uT]at z;cases z;exact KR n
 ·rw[uR q]at z;have d:∀b u,H b=↑u->upd H x (DB C x c) b=↑u:=λb u y=>by rw[uR λg=>by rw[g,k.Hf e]at y;cases y];exact y
  exact(k a o z).C6 (λ_ _ _ y=>f _ _ y) (λb y=>d b _ y) λb i y=>d b _ y
def Un.MD(k:xR P w H h)(e:h.get? x=none)(d:∀b o,h.get? b=↑o->h'.get? b=↑o):Un fs [] H (upd H x<|DB C x c) h h':=by
 have a:∀b u,H b=↑u->upd H x (DB C x c) b=↑u:=λb u y=>by rw[uR λf=>by rw[f,k.Hf e]at y;cases y];exact y
 refine#[λb o z _ _ _=>d b o z,λb o z _ _ _=>#[o.slots,d b o z],λb o z n _=>?_,λb o z _=>#[o,d b o z],λb g z=>a b _ z,λb o u z=>a b _ z,λb i z=>#[#v[],by rw[a b _ z];simp]];rw[uR λy=>by rw[y,e]at z;cases z];exact n
def Un.QG(u:Un fs [] H H4 h h4)(e:h.get? x=none)(d:H x=none):Un fs [] H (BU H4 x) h h4:=by
 have a:∀b v,H b=↑v->b≠x:=λb v y z=>by rw[z,d]at y;cases y
 refine#[u.keep,u.slot,λb o z n f=>?_,u.there,λb g z=>?_,λb o v z=>?_,λb i z=>?_]
 ·rw[xZ λy=>by rw[y,e]at z;cases z];exact u.free b o z n f
 ·rw[xZ<|a b _ z];exact u.Bo b g z
 ·rw[xZ<|a b _ z];exact u.A6 b o v z
 ·rw[xZ<|a b _ z];exact u.A7 b i z
end
def Uq(C:ci)(f:Sp)(a:List V)(E:XK)(h:TA):TS:=λ_ i H=>h i H λc e=>c.length<=gL/\∀x:ci,e x=none ->
 f (.ref x::c++a) (upd e x<|DB C x none) (λv b=>v=.wq/\∃d,b x=↑(DB C x d)/\GX.g C d (BU b x)/\E (.ref C) ↑x (BU b x)) λ_ _ _=>False
section
variable{P:iu}{w:iO}{K:gH}{mg:Str->Option cr}{base:iJ}{N:List Str}{qual:Str}{scope:lV}{f:ci}{cd:cr}{A:jq}{outer:List Env}{s:gN}{H:Hp}{E:XK}
variable{nm q:Str}{Ns:ci}{bs bm De:List cr}{hdct:Bool}{sn:List Str}{sub:List cr}{ab:Bool}{col:Option Bool}{dd:Option ci}{k0 k1 k2 k3 k5:Option cr}{B newId yh:String}
def NS{C:ci}{k:Nat}(hg:Gl 18 x)(hm:mg x=↑(.ref C))
 (lC:K.lookup C=↑(jw nm q C Ns bs bm hdct sn sub ab col dd k0 k1 k2 k3 k5 newId)) (aa:∀h:iJ,K.In h->∃mN,h.Ns Ns mN/\mN "__init__"=↑(.ref fI)) (hT:∀h:iJ,K.In h->sI h De bm) (lI:K.lookup fI=↑oI) (ae:oI.cls=.type "function")
 (FB:kq B newId yh De) (n:bm.contains (.type "BaseException")=true) (FI:vB P w K mg base (vJ P w) k fI fd ps sp) (j:Binds K fd ps U) (af:Vals p U) (hr:wg (k+1) (18).A)
 (ha:PA 18 args ta) (ag:(x==55)=false)
 (ah:(ja cpos<|gJ args (18).env).any (·.1)=false)
 (ai:∀(Q:Args->gN->Prop)(E':cr->gN->Prop)(s9:gN),gR (gU P w) (18).A (ur<|ja cpos<|gJ args (18).env) (λX y=>Q #[X,[]] y) E' s9->gR (gU P w) (18).A (evalArgs (.ref C) true (ja cpos<|gJ args (18).env) []) Q E' s9) :
    PS 18 (.Raise (some<|.Call (.Name x np) args [] cpos) none pos) (Uq C sp p E ta):=by
  intro a s1 σ H1 D I h
  have hA:=ha cpos a s1 σ H1 _ I h
  refine Jn (prog:=P) (w:=w) (C:=C) (nm:=nm) (q:=q) (N:=Ns) (bs:=bs) (bm:=bm) (hdct:=hdct) (sn:=sn) (sub:=sub) (ab:=ab) (col:=col) (dd:=dd) (k0:=k0) (k1:=k1) (k2:=k2) (k3:=k3) (k5:=k5) (fI:=fI)
    FB n (I.ok.hd rfl) ah (yH I hg hm #[rfl,?_] ag)
  refine ai _ _ _<|iW hA (λl G q2=>?_) λ_ _ z=>z
  refine e2a4 q2 λX H2 F r2 hl M=>?_
  have Y:=F.yG
  refine#[rfl,by show l.length<=gL;rw[<- r2.length];exact hl,Y _ _ lC,aa _ Y,#[oI,Y _ _ lI,ae],hT _ Y,λZ e made=>?_]
  refine e1a3 made.there λt aj _ _=>?_
  have n2:H2 e=none:=F.vL.Hf made.new
  have I3:Inv 18 a σ (upd H2 e<|DB C e none) { G with heap:=Z,toks:=G.toks}:=F.un (Un.MD F.vL made.new made.keeps)<|F.vL.MD made.new made.keeps #[t,aj]
  have r3:Vals (.ref e::X++p) (.ref e::l++U):=.cons rfl<|Vals.append r2 af
  have ak:(hO e::l++U).length=ps.length:=by rw[<- r3.length];exact FI.len _ _ _ _<|M e n2
  refine mD<|jN (FI.run _ _ { G with heap:=Z} _ ⟨.ref e::l,[]⟩ (.ref e::l++U) (.ref e::X++p) _ _ (hr.make C l []) (I3.Iz.make C l []) (j { G with heap:=Z} (.ref e::l) I3.yG ak) r3 (M e n2)) λr y O=>?_
  cases r with
  |error e'=>obtain⟨_,_,_,_,_,z⟩:=O;exact z.elim
  |ok fl =>
    cases fl with
    |next=>exact iv O
    |brk=>exact iv O
    |cont=>exact iv O
    |ret u =>
      obtain⟨v,H4,R,i,S,m,rv,rfl,c,e4,gd,hE⟩:=id O
      have T:(18).stack=(18).env::(18).outer:=rfl
      have J:Inv 18 a σ H4 y:=by
        obtain⟨hh,g,d,tt,al⟩:=y
        obtain rfl:al=G.os:=R
        exact Inv.call (s:={ G with heap:=Z}) (h':=hh) (g':=g) (d':=d) (t':=tt) (ch:=[]) I3 S m i<|λb z=>g8 z q0o
      obtain⟨t4,O4⟩:=He J e4
      refine#[rv,J.yG _ _ lC,#[t4,c,O4],?_]
      have fu:=J.Iz.yy
      have an:(lQ y.heap (e::zj (18).stack)).get? e=none:=sh _ gO
      refine iW (AX (base:=lQ y.heap (e::zj (18).stack)) (a0:=.ref t4) J.ok.frames
        (rN fu λao he b j=>gS _<|List.mem_filterMap.mpr ⟨ao,he,j⟩) (xU J T) O4 (λb o z=>m6 _ z) an rfl rfl rfl
        (Q:=λ_ aq=>vJ P w outer H s E (.ref e) aq) λar fl up dk=>?_) (λ_ _ z=>z) λ_ _ z=>z
      refine#[C,e,BU H4 e,rfl,?_,hE]
      refine Ku (s2:=y) F T rfl R i (Un.QG ((Un.MD F.vL made.new made.keeps).trans S) made.new n2) (m.QG e4) (λb o z L nf=>o4 _ z λj=>?_) (λb j=>?_) up fl #[_,dk,gd]
      · rcases List.mem_cons.mp j with rfl|j
        · rcases L with L|⟨o0, L⟩
          · exact L zC
          · rw[made.new]at L; cases L
        · exact nf j
      · have z := J.frn b j
        refine#[?_,(fu.mem j).2]
        by_cases q:b=e
        · rw[q, zC]
        · rw[xZ q]; exact z.1
end
def XY(K:gH)(C:ci)(c:Str):Sp:=λd H Q _=>∃x l b,d=[.ref x,.ref l]/\H x=↑(DB C x none)/\(v6 K H l b\/yY K H l b)/\∀p a,H p=none->H a=none->a≠x->a≠p->Q .wq (upd (upd (upd H p<|.lst b) a<|.xd [(c,.ref p)]) x<|DB C x<|↑a)
section
variable{P:iu}{w:iO}{K:gH}{mg:Str->Option cr}{base:iJ}{qual name:Str}{scope:lV}{f zk cc:ci}{C:ci}{k:Nat}{p0 p1 p2 p3 p4 p5 p6 p7 p8 p9 apos pos:Pos}{r fl tx:Str}{j:Nat}
variable{nm q:Str}{Ns:ci}{bs bm:List cr}{sn:List Str}{sub:List cr}{ab:Bool}{col:Option Bool}{dd:Option ci}{k0 k1 k2 k3 k5:Option cr}{params:Arguments}{dV kV doc pm ct oc:cr}{an od:Option ci}{No:Array (Option cr)}{body:List ic}
def Ur(lk:K.lookup f=some #[oc,od,.func<|kC name qual params body scope [72] dV kV doc pm an (.ref zk) ct,No])(g:jm K (.ref zk) qual=true)
 (m:body=[.Expr (.Call (.Attribute 84 "__init__" apos) [.Constant (.str tx) j p3] [] pos) p2,.Assign [.Attribute (.Name "self" p4) fl p5] (.Call (.Name "list" p6) [.Name r p7] [] p8) p9])
 (S:WL.xt ["self",r] ["self",r] scope) (D:KJ P K C f zk cc "self") (n:NO p0 p1 apos pos "__init__" [.Constant (.str tx) j p3]) (o:mg "super"=none) (t:mg "list"=none) (u:scope.names.lookup ("list":Str)=some .globalImplicit)
 (M:K.lookup C=↑(jw nm q C Ns bs bm true sn sub ab col dd k0 k1 k2 k3 k5 "ValueError.__new__")) (U:jO K C C "__init__"=↑(some<|.builtin "ValueError.__init__")) (v:kD K C (.type "ValueError")=↑true)
 (B:bm.contains (.type "object")=true) (F:∀x:ci,tD (.ref x) "__setattr__" bm=pure ()) (X:ii K (.ref C) "__setattr__"=↑(some<|.builtin "object.__setattr__")) (Y:ii K (.ref C) fl=↑none)
 (G:(r==55)=false) (I:(r==("__classdict__":Str))=false) :
    vB P w K mg base (vJ P w) (k+1) f (kC name qual params body scope [72] dV kV doc pm an (.ref zk) ct) ["self",r] (XY K C fl):=by
  obtain⟨o1,o2,o3,a⟩:=D.cell
  refine G8 lk g (S.x cc) (λy c h=>?_) (λZ H Q E h=>?_) λA J s H Z Q E hr L=>?_
  · have e : c = cc := by
      by_cases e:(y==("__class__":Str))=true
      · rw[iC, e]at h; cases h; rfl
      · rw[iC, Bool.eq_false_iff.mpr e]at h; cases h
    subst e
    exact#[_,_,a,rfl]
  · obtain⟨x, l, N, rfl, _⟩ := h; rfl
  · obtain⟨x, l, N, rfl, b, hl, hq⟩ := L
    rw[m]
    refine#[_,yu (Ev (QF D rfl S.ks S.kc (S.par _ gO) o M U v (uY DL vi) rfl rfl n)) (yu (Qw (Up (JQ (i:=0) rfl (.inl (S.par _ gO)))
      (xv yo u t jT (uY (JQ (i:=1) rfl (.inl (S.par _ (gS _ gO))) G I) vi)) rfl M B F X Y)) (Dy zo)),?_]
    have st:start ["self",r] [V.ref x,V.ref l]=[some<|.ref x,some<|.ref l]:=rfl
    rw[st]
    refine#[x,rfl,b,?_,b,?_]
    · show (1 : Nat) <= gL
      rw[i8];lia
    · refine#[.ref l, rfl, l, N, rfl, hl, λp O => #[.ref x, rfl, x, rfl, ?_, λR d n2 => ?_]]
      · rw[uR λz => by rw[z, O]at b; cases b]
        exact b
      · have T : R ≠ p := λz => by rw[z, uT]at d; cases d
        rw[uR T]at d
        exact hq p R O d n2 T
end
end L2
namespace WL
variable[L2.GX]
open PySem L2
open Rep (rp)
open Ow (sl)
open Sls (rel)
structure XcI(P:iu)(w:iO)(K:gH)(mg:Str->Option cr)(base:iJ)(k:Nat)(x:Str)(C:ci)(fl:Str):Prop where
 ex:∃(fI Ns:ci)(fd:iE)(oI:nq)(nm q:Str)(bs bm De:List cr)(hdct:Bool)(sn:List Str)(sub:List cr)(ab:Bool)(col:Option Bool)(dd:Option ci)(k0 k1 k2 k3 k5:Option cr)(B newId yh:String)(ps:List Str),
  mg x=↑(.ref C)/\K.lookup C=↑(jw nm q C Ns bs bm hdct sn sub ab col dd k0 k1 k2 k3 k5 newId)/\(∀h:iJ,K.In h->∃mN,h.Ns Ns mN/\mN "__init__"=↑(.ref fI))/\(∀h:iJ,K.In h->sI h De bm)/\K.lookup fI=↑oI/\oI.cls=.type "function" /\
  kq B newId yh De/\bm.contains (.type "BaseException")=true/\vB P w K mg base (vJ P w) k fI fd ps (XY K C fl)/\Binds K fd ps []
 go:∀dx p xs H,H dx=↑(.xd [(fl,.ref p)])->H p=↑(.lst xs)->GX.g C ↑dx H
section
variable{D D' D1 PO τ α:Type}[Sls D][Sls D'][Sls D1][Sls PO][Ow τ][Rep α]
def XZ{x r L:Str}{i:Nat}{y j M:Pos}{C:ci}[J:Pj D PO n][At i D (OL α) D1](hg:Gl 76 x)(h:XcI P w K l base k x C L)(hr:wg (k+1) (76).A)
  (hv:PE 76 (.Name r M) (vw i)) (W:(x==55)=false:=by decide)
  (X:gJ [.Name r M] (76).env=(false,eval (.Name r M) (76).env)::gJ [] (76).env:=by rfl) :
  S1 76 E T ms n (.Raise (some<|.Call (.Name x y) [.Name r M] [] j) none Y) (λ(d:D)(_:D'->Prop)(_:τ->PO->Prop) Ke=>Ke C<|J.pj d):=by
 obtain⟨fI,Ns,fd,oI,nm,q,bs,bm,af,ae,sn,ag,ab,ah,dd,k0,k1,k2,k3,k5,B,Z,O,ps,a1,a2,a3,a4,a5,a6,a7,a8,a9,aa⟩:=h.ex;refine#[_,NS (np:=y) (pos:=Y) (cpos:=j) hg a1 a2 a3 a4 a5 a6 a7 a8 a9 aa .nil hr (uY hv vi X) W (by rw[X];rfl) λQ E' s9 z=>by rw[X]at z ⊢;exact js z,λd F R σ H Kn Kr Ke En s hw kn kr ke=>?_];obtain⟨v,F1,F2,e1,_,⟨a,I,rfl,_,ha,_⟩,_⟩:=TB (i:=i) (τ:=OL α) s;refine#[.ref a,e1,(by show 1<=gL;decide),λx hx=>#[x,a,I,rfl,uT,.inl ?_,λp m S hd nx y=>#[rfl,↑m,uT,?_]]]
 ·have ne:a≠x:=λz=>by rw[z,hx]at ha;cases ha
  exact .inl<|Rd.of (by rw[uR ne];exact ha)
 ·have px:p≠x:=λz=>by rw[z,uT]at S;cases S
  rw[uR px]at S;rw[uR nx]at hd
  have q:BU (upd (upd (upd (upd H x<|DB C x none) p<|.lst I) m<|.xd [(L,.ref p)]) x<|DB C x<|↑m) x=upd (upd H p<|.lst I) m (.xd [(L,.ref p)]):=by
   funext b
   by_cases U:b=x
   ·rw[U,zC,uR<|Ne.symm nx,uR<|Ne.symm px,hx]
   ·rw[xZ U,uR U];by_cases o:b=m
    ·rw[o,uT,uT]
    ·rw[uR o,uR o];by_cases t:b=p
     ·rw[t,uT,uT]
     ·rw[uR t,uR U,uR t]
  rw[q];refine#[h.go m p I _ uT (by rw[uR<|Ne.symm y];exact uT),?_];refine e0a3 (s.new (.lst I) S) λs2 c2 _=>?_;obtain⟨s3,c3,_⟩:=s2.new (p:=m) (.xd [(L,.ref p)]) (by rw[uR y];exact hd);refine e1a2 (v8 (PO:=PO) s3) λG g1 g2=>?_;exact ke C x _ G R _ hw ((Ch.trans s s2.tab c2 c3).less g1) g2
end
end WL
namespace SX
open PySem PySem.W PyProof.Rows
def Ap(p:Array Nat)(k:Nat):p.getD k 0=(p[k]?).getD 0:=by simp
def CA{p:Array Nat}{i j:Nat}(h:j<=p.size)(k:Nat):(rr p i j).getD k 0=if i<=k/\k<j then p.getD (i+j-1-k) 0 else p.getD k 0:=by rw[Ap,rr,getElem?_mirror_all h k,Ap,Ap];split<;>rfl
def KS{p:Array Nat}{k d:Nat}(h:k<p.size)(a:d<=k)(i:Nat):(bubble p k d).getD i 0=if i=k-d then p.getD k 0 else if k-d<i/\i<=k then p.getD (i-1) 0 else p.getD i 0:=by
 rw[Ap,getElem?_bubble h d a i,Ap,Ap,Ap];split
 ·rfl
 ·split<;>rfl
structure a2w(lt:Nat->Nat->Bool):Prop where
 ir:∀a,lt a a=false
 tr:∀a b c,lt b a=false->lt c b=false->lt c a=false
 as:∀a b,lt a b=true->lt b a=false
section
variable{lt:Nat->Nat->Bool}{cmp:Nat->Nat->(Bool->gN->Prop)->gN->Prop}{N:Nat}{s:gN}
def Hg(lt:Nat->Nat->Bool)(p:Array Nat)(k:Nat):Prop:=∀i j,i<=j->j<k->lt (p.getD j 0) (p.getD i 0)=false
def Fv(lt:Nat->Nat->Bool)(p:Array Nat)(k:Nat):Prop:=∀i j,i<=j->j<k->lt (p.getD i 0) (p.getD j 0)=false
def Ii(N:Nat)(p:Array Nat):Prop:=∀k,p.getD k 0<N
def Ii.rev{i j:Nat}(b:Ii N p)(h:j<=p.size):Ii N (rr p i j):=λk=>by rw[CA h];split<;>exact b _
def Ii.bub{k d:Nat}(b:Ii N p)(h:k<p.size)(c:d<=k):Ii N (bubble p k d):=λi=>by
 rw[KS h c];by_cases q:i=k-d
 ·rw[gI q];exact b _
 ·rw[gl q];by_cases a:k-d<i/\i<=k
  ·rw[gI a];exact b _
  ·rw[gl a];exact b _
def BV{i j:Nat}:(rr p i j).Perm p:=mirror_perm _ _ _ _
variable(L:a2w lt)(hc:∀i j (C:Bool->gN->Prop),i<N->j<N->C (lt i j) s->cmp i j C s)
include L hc
def ME(b:Ii N p):∀(f n:Nat) {Q:Nat->gN->Prop},1<=n->Hg lt p n->(∀m,n<=m->m<=n+f->Hg lt p m->(m<n+f->lt (p.getD m 0) (p.getD (m-1) 0)=true)->Q m s)->lA cmp (kas_asc p f n) Q s:=by
 intro g
 induction g with
 |zero=>intro n Q h a k;exact k n (gK _) (gK _) a<|λz=>g8 z<|jJ _
 |succ f c =>
  intro n Q h a k;refine hc _ _ _ (b _) (b _) ?_
  cases e:lt (p.getD n 0) (p.getD (n-1) 0) with
  |true=>exact k n (gK _) q0a a λ_=>e
  |false =>
   refine c (n+1) q0a (λi j d t=>?_) λm u v l o=>k m q0a q0a l λz=>o q0a;by_cases q:j=n
   ·subst q;by_cases r:i=j
    ·rw[r];exact L.ir _
    ·exact L.tr _ _ _ (a i (j-1) q0a q0a) e
   ·exact a i j d q0a
omit hc in
set_option tactic.hygienic true in
def Us{p:Array Nat}{n q:Nat}(m:q+1<=n)(d:n<=p.size)(f:Fv lt p n)(c:∀k,n-(q+1)<=k->k<n->lt (p.getD (n-1) 0) (p.getD k 0)=false)(k:Nat) :
  lt ((rr p (n-(q+1)) n).getD k 0) (p.getD k 0)=false/\lt (p.getD k 0) ((rr p (n-(q+1)) n).getD k 0)=false:=by
 rw[CA d];split
 ·rename_i h
  have e:∀a b,n-(q+1)<=a->a<n->n-(q+1)<=b->b<n->lt (p.getD a 0) (p.getD b 0)=false:=λa b o r g l =>
   L.tr _ (p.getD (n-1) 0) _ (c b g l) (f a (n-1) q0d q0d)
  exact#[e _ _ q0d q0d h.1 h.2,e _ _ h.1 h.2 q0d q0d]
 ·exact#[L.ir _,L.ir _]
omit hc in
def MF{p:Array Nat}{n q m:Nat}(c:q+1<=n)(d:n<=p.size)(f:Fv lt p n)(a:∀k,n-(q+1)<=k->k<n->lt (p.getD (n-1) 0) (p.getD k 0)=false)(g:Fv lt p m):Fv lt (rr p (n-(q+1)) n) m:=λi j b h=>by have e:=Us L c d f a;exact L.tr _ _ _ (L.tr _ _ _ (e j).2<|g i j b h) (e i).1
omit hc in
def Ez{n:Nat}(d:1<=n)(b:Fv lt p n)(h:lt (p.getD (n-1) 0) (p.getD n 0)=false):Fv lt p (n+1):=λi j a e=>by
 by_cases q:j=n
 ·subst q;by_cases c:i=j
  ·rw[c];exact L.ir _
  ·exact L.tr _ _ _ h<|b i (j-1) q0a q0a
 ·exact b i j a q0a
def QH:∀(f:Nat)(p:Array Nat)(n q:Nat) {Q:Array Nat×Nat×Nat->gN->Prop},Ii N p->q+1<=n->n+f<=p.size->Fv lt p n->(∀k,n-(q+1)<=k->k<n->lt (p.getD (n-1) 0) (p.getD k 0)=false) ->
  (∀a m d,a.Perm p->a.size=p.size->Ii N a->d+1<=m->n<=m->m<=n+f->Fv lt a m->(∀k,m-(d+1)<=k->k<m->lt (a.getD (m-1) 0) (a.getD k 0)=false)->Q (a,m,d) s)->lA cmp (kas_desc f p n q) Q s:=by
 intro F
 induction F with
 |zero=>intro p n q Q b w G h c k;exact k p n q (.refl _) rfl b w (gK _) (gK _) h c
 |succ f g =>
  intro p n q Q b w G h c k;refine hc _ _ _ (b _) (b _) ?_
  cases e:lt (p.getD n 0) (p.getD (n-1) 0) with
  |true =>
   have y:=Ez L q0a h<|L.as _ _ e
   have A:∀{x:Array Nat},∀k,n+1-(0+1)<=k->k<n+1->lt (x.getD (n+1-1) 0) (x.getD k 0)=false:=λ{x} k H I=>by
    have:k=n+1-1:=by lia
    rw[this];exact L.ir _
   split
   ·refine g _ (n+1) 0 (b.rev q0a) q0a (by rw[mU];lia) (MF L w q0a h c y) A λa m d l o r t B D u v=>k a m d (l.trans BV) (o.trans<|mU _ _) r t q0a q0a u v
   ·exact g p (n+1) 0 b q0a q0a y A λa m d l o r t B D u v=>k a m d l o r t q0a q0a u v
  |false =>
   refine hc _ _ _ (b _) (b _) ?_
   cases J:lt (p.getD (n-1) 0) (p.getD n 0) with
   |true=>exact k p n q (.refl _) rfl b w (gK _) q0a h c
   |false =>
    refine g p (n+1) (q+1) b q0a q0a (Ez L q0a h J) (λE H I=>?_) λa m d l o r t B D u v=>k a m d l o r t q0a q0a u v;have M:n+1-1=n:=by lia
    rw[M];by_cases z:E=n
    ·rw[z];exact L.ir _
    ·exact L.tr _ _ _ (c E q0a q0a) e
def Jo{n a:Nat}(b:Ii N p)(e:1<=n)(o:n<=a)(q:a<=p.size)(f:Fv lt p n)
 (k:∀m c,c.Perm p->c.size=p.size->Ii N c->1<=m->m<=a->Hg lt c m->Q (m,c) s):lA cmp (kas_tail3 n a p) Q s:=by
  unfold kas_tail3
  rw[m4]
  have d:n<=p.size:=by omega
  refine ME L hc (b.rev d) _ n e (λi j g h=>?_) λm r t l _=>k m _ BV (mU _ _) (b.rev d) q0d q0d l
  rw[CA d,CA d,gI #[iN _,h],gI #[iN _,q0d]]
  exact f _ _ q0d q0d
def QI{n a:Nat}(b:Ii N p)(A:1<=n)(B:n+1<=a)(D:a<=p.size)(w:Fv lt p (n+1))
 (k:∀m d,d.Perm p->d.size=p.size->Ii N d->1<=m->m<=a->Hg lt d m->Q (m,d) s):lA cmp (kas_descPart n a p) Q s:=by
  unfold kas_descPart
  rw[m4]
  refine QH L hc _ p (n+1) 0 b q0a q0a w (λx E F=>?_) λd m G t u v y H I e z=>?_
  · have : x = n+1-1 := by lia
    rw[this];exact L.ir _
  · dsimp only
    split
    · exact Jo L hc (v.rev q0a) q0a q0a (by rw[mU]; lia) (MF L y q0a e z e) λf c g h l o q r => k f c ((g.trans BV).trans t) ((h.trans<|mU _ _).trans u) l o q r
    · exact Jo L hc v q0a q0a q0a e λf c g h l o q r => k f c (g.trans t) (h.trans u) l o q r
set_option tactic.hygienic true in
def NT{d:Nat}(b:Ii N p)(P:1<=d)(B:d<=p.size)
 (k:∀m f,f.Perm p->f.size=p.size->Ii N f->1<=m->m<=d->Hg lt f m->Q (m,f) s):lA cmp (kas_count d p) Q s:=by
  unfold kas_count
  rw[m4]
  refine ME L hc b _ 1 (gK _) (λi j g v=>?_) λn w R o D=>?_
  · have r : i = 0 := by lia
    have h:j=0:=by lia
    rw[r,h];exact L.ir _
  · by_cases e : n = d
    · rw[gI<|by rw[e]; simp]
      exact k n p (.refl _) rfl b w q0a o
    · rw[gl<|by simp[e]]
      have x:=D q0a
      split
      · rename_i S
        refine hc _ _ _ (b _) (b _) ?_
        cases h:lt (p.getD 0 0) (p.getD (n-1) 0) with
        |true=>exact k n p (.refl _) rfl b w q0a o
        |false =>
          have t:n<=p.size:=by lia
          refine QI L hc (b.rev t) q0a q0a (by rw[mU];lia) (λi j g v=>?_) λE u y F G H I J=>k E u (y.trans BV) (F.trans<|mU _ _) G H I J
          have l:∀a c,a<n->c<n->lt (p.getD a 0) (p.getD c 0)=false:=λa c M y=>L.tr _ _ _ (L.tr _ _ _ (o c (n-1) q0a q0a) h)<|o 0 a (iN _) M
          rw[CA t i,CA t j]
          by_cases q:j<n
          · rw[gI #[iN _, by lia], gI #[iN _, q]]
            exact l _ _ q0a q0a
          · have O : j = n := by lia
            rw[gl (c:=0<=j/\j<n) λz=>q z.2]
            by_cases A:i<n
            · rw[gI #[iN _, A], O]
              exact L.tr _ _ _ (L.as _ _ x)<|l _ _ q0a q0a
            · rw[gl λz => A z.2, show i = j by lia]
              exact L.ir _
      · refine QI L hc b q0a q0a B (Ez L q0a (λi j g v => ?_)<|L.as _ _ x) k
        have r:i=0:=by lia
        have h:j=0:=by lia
        rw[r,h];exact L.ir _
def NU{k:Nat}(b:Ii N p)(q:Hg lt p k):∀(f l r:Nat) {Q:Nat->gN->Prop},r-l<=f->l<=r->r<=k->(∀i,i<l->lt (p.getD k 0) (p.getD i 0)=false)->(∀i,r<=i->i<k->lt (p.getD k 0) (p.getD i 0)=true) ->
  (∀h,h<=k->(∀i,i<h->lt (p.getD k 0) (p.getD i 0)=false)->(∀i,h<=i->i<k->lt (p.getD k 0) (p.getD i 0)=true)->Q h s)->lA cmp (uo p k f l r) Q s:=by
 intro t
 induction t with
 |zero=>intro l r Q u o a m n d;exact d l q0d m λi z=>n i q0d
 |succ f g =>
  intro l r Q u o a m n d;show lA cmp (if l>=r then KasT.ret l else KasT.ask (p.getD k 0) (p.getD ((l+r) / 2) 0) λc=>if c=true then uo p k f l ((l+r) / 2) else uo p k f ((l+r) / 2+1) r) Q s;split
  ·exact d l q0d m λi z=>n i q0d
  ·refine hc _ _ _ (b _) (b _) ?_
   cases e:lt (p.getD k 0) (p.getD ((l+r) / 2) 0) with
   |true =>
    refine g l ((l+r) / 2) q0d q0d q0d m (λi v w=>?_) d
    cases x:lt (p.getD k 0) (p.getD i 0) with
    |true=>rfl
    |false=>rw[L.tr _ _ _ (q ((l+r) / 2) i v w) x]at e;cases e
   |false =>
    refine g ((l+r) / 2+1) r q0d q0d a (λi z=>?_) n d;exact L.tr _ _ _ (q i ((l+r) / 2) q0d q0d) e
def Ut:∀(f:Nat)(p:Array Nat)(k:Nat) {Q:Array Nat->gN->Prop},Ii N p->k+f<=p.size->Hg lt p k->(∀d,d.Perm p->Hg lt d (k+f)->Q d s)->lA cmp (kas_bin f p k) Q s:=by
 intro t
 induction t with
 |zero=>intro p k Q b u c g;exact g p (.refl _) c
 |succ f h =>
  intro p k Q b u c g;show lA cmp ((uo p k k 0 k).bind λl=>kas_bin f (bubble p k<|k-l)<|k+1) Q s;rw[m4];refine NU L hc b c k 0 k q0a q0a (gK _) (λi z=>g8 z q0a) (λi D v=>g8 v q0a) λl E w x=>?_;have a:k<p.size:=by lia
  have m:k-l<=k:=by lia
  have y:k-(k-l)=l:=by lia
  refine h _ (k+1) (b.bub a m) (by rw[bubble_size];lia) (λi j n F=>?_) λd A B=>g d (A.trans<|bubble_perm _ _ _) (by rw[show k+(f+1)=k+1+f by lia];exact B);rw[KS a m,KS a m,y];by_cases o:j=l
  ·rw[gI o];by_cases e:i=l
   ·rw[gI e];exact L.ir _
   ·rw[gl e,gl q0a];exact w i q0a
  ·rw[gl o];by_cases q:l<j/\j<=k
   ·rw[gI q];by_cases e:i=l
    ·rw[gI e];exact L.as _ _<|x (j-1) q0a q0a
    ·rw[gl e];by_cases r:l<i/\i<=k
     ·rw[gI r];exact c _ _ q0a q0a
     ·rw[gl r];exact c _ _ q0a q0a
   ·rw[gl q,gl q0a,gl q0a];exact c _ _ n q0a
set_option tactic.hygienic true in
def QJ{n:Nat}(p:1<=n)(u:n<=N)(d:∀a,a.Perm (h8 n).toArray->Hg lt a n->Q a s):lA cmp (kas_sort n) Q s:=by
 unfold kas_sort;rw[m4];have e:(h8 n).toArray.size=n:=by simp
 have b:Ii N (h8 n).toArray:=λk=>by
  rw[Ap];simp only[List.getElem?_toArray,List.getElem?_range'];by_cases h:k<n
  ·simp[tV h];lia
  ·simp[ku (l:=h8 n)<|by simpa using h];lia
 refine NT L hc b p (by rw[e];exact gK _) λm a f q r v w g=>?_;split
 ·rename_i h
  refine Ut L hc _ a (max m 1) r (by rw[q,e];lia) (by rw[show max m 1=m by lia];exact g) λc t o=>d c (t.trans f) (by rw[show max m 1+(n-max m 1)=n by lia]at o;exact o)
 ·exact d a f (by rw[show n=m by lia];exact g)
end
open PySem.Spec
noncomputable def Ij(p q:Int×Int):Bool:=decide (p.1<q.1)||(p.1==q.1&&decide (p.2<q.2))
def EA:Ij p q=false↔q.1<p.1\/(q.1=p.1/\q.2<=p.2):=by unfold Ij;simp only[Bool.or_eq_false_iff,Bool.and_eq_false_iff,decide_eq_false_iff_not,beq_eq_false_iff_ne];omega
def a0i:Ij p q=true↔p.1<q.1\/(p.1=q.1/\p.2<q.2):=by unfold Ij;simp only[Bool.or_eq_true,iq,ie,beq_iff_eq]
def xm(h:iJ)(v:cr)(p:Int×Int):Prop:=∃x o t u n,v=.ref x/\h.get? x=↑o/\o.cls=.type "tuple"/\o.data=.seq #v[.int p.1 t,.int p.2 u] n
def Uu{x y:cr}{p q:Int×Int}{Q:Bool->gN->Prop}(hx:xm s.heap x p)(hy:xm s.heap y q)(h:Q (Ij p q) s):gR (gU prog w) A (keyLt' (tuples' true) x y) Q E s:=by
 obtain⟨a,o,t,u,n,rfl,h1,h2,h3⟩:=hx;obtain⟨b,o',t',u',n',rfl,k1,k2,k3⟩:=hy;refine PySem.W.kat_lt h1 h3 k1 k3<|tX<|rJ<|uE (λe=>uq<|tX<|rJ<|uE (λe2=>uq<|PySem.W.kat_nil ?_) λe2=>uF<|PySem.W.kat_one _ _<|wpAny_lt_int ?_) λe=>uF<|oneLt_int ?_
 ·have e1:=eq_of_beq e;have e2:=eq_of_beq e2;have:Ij p q=false:=EA.mpr<|.inr #[e1.symm,Int.le_of_eq e2.symm];rw[this]at h;exact h
 ·have e1:=eq_of_beq e;have:Ij p q=decide (p.2<q.2):=by unfold Ij;rw[e1];simp
  rw[this]at h;exact h
 ·have:Ij p q=decide (p.1<q.1):=by unfold Ij;rw[e];simp
  rw[this]at h;exact h
def xm.keep{h a:iJ}(k:∀b o,h.get? b=↑o->o.cls=.type "tuple"->a.get? b=↑o)(z:xm h v p):xm a v p:=by obtain⟨x,o,t,u,n,e,d,c,f⟩:=z;exact#[x,o,t,u,n,e,k x o d c,c,f]
def EB{h a:iJ}(k:∀b o,h.get? b=↑o->o.cls=.type "tuple"->a.get? b=↑o):∀{c:List cr} {d:List (Int×Int)},Paired (xm h) c d->Paired (xm a) c d:=by
 intro _ _ z
 induction z with
 |nil=>exact .nil
 |cons h t e=>exact .cons (h.keep k) e
def EC:∀{d:List cr} {e:List (Int×Int)},Paired (xm h) d e->∃c,PySem.W.KatTups h d c/\c.length=d.length/\∀v∈c,∃i t,v=lE i t
 |_,_,.nil=>#[[],PySem.W.KatTups.nil,rfl,λ_ z=>g8 z jc]
 |_,_,.cons a b=>by
  refine e1a3 (EC b) λc f g j=>?_;obtain⟨x,o,t,u,n,rfl,k,l,m⟩:=a;refine#[_::c,#[#[x,o,_,n,rfl,k,l,m,rfl],f],by simp[g],λv p=>?_];rcases List.mem_cons.mp p with z|z
  ·exact#[_,_,z]
  ·exact j v z
def F7:∀{c:List cr} {d:List (Int×Int)},Paired (xm h) c d->∀i,i<c.length->xm h (c.getD i .none) (d.getD i (0,0)):=by
 intro _ _ z
 induction z with
 |nil=>intro i z;exact g8 z<|Nat.not_lt_zero _
 |cons a b e =>
  intro i z
  cases i with
  |zero=>exact a
  |succ i=>simpa using e i (by simpa using z)
def KU{d:List cr}{n:Nat}(D:s.heap.get? a=↑(mj "list" d.toArray n))(hp:Paired (xm s.heap) d m)(I:d.length<64)
 (h:∀J:List Nat,J.Perm (h8 d.length)->(J.map λi=>m.getD i (0,0)).Pairwise (λx y=>Ij y x=false)->P (.done<|.ret .none) { s with heap:=sortedHeap s.heap a d (J.map λi=>d.getD i .none).toArray}):gR (gU U w) A (Builtin.«list.sort» #[[.ref a],[]]) P E s:=by
  rw[list_sort_plain]
  have sl:(64:Nat)<=gL:=by rw[i8];decide
  have hz:d.length<=gL:=by lia
  refine am<|listItems_at D rfl<|am<|tY D rfl ?_ (hsz:=by simpa using hz)
  obtain⟨L,X⟩:∃L,(s.heap.update a<|Obj.mapSeq λ_=>#v[]).get? a=some (mj "list" #v[] L):=#[_,get?_update_seq D _]
  refine am<|seqEpoch_at X rfl<|am<|wpAny_newTuple<|am<|tU<|iz ?_
  have F:(((s.heap.update a<|Obj.mapSeq λ_=>#v[]).push<|mj "tuple" d.toArray 0).push<|mj "list" #v[] 0).get? a=↑(mj "list" #v[] L):=ce _<|ce _ X
  have g:Paired (xm<|((s.heap.update a<|Obj.mapSeq λ_=>#v[]).push<|mj "tuple" d.toArray 0).push<|mj "list" #v[] 0) d m:=EB (λb o z c=>ce _<|ce _<|(iB _ _ (λq=>by rw[<- q,D]at z;cases z;have c:jU "list"=jU "tuple":=c;injection c with c;exact g8 c q0q)).trans z) hp
  have sz:d.toArray.size=d.length:=by simp
  by_cases Y:d.length<2
  · rw[gI q0a, gI q0a]
    refine am<|ap<|am<|ap ?_
    refine am<|seqEpoch_at F rfl<|am<|tY F rfl ?_ (hsz2:=by simp[SortSt.mk',arrOf];lia)
    have key:=h (h8 d.length) (.refl _) (by
      rcases d with _|⟨v,_|⟨v2,r⟩⟩
      · simp
      · simp
      · simp at Y; lia)
    have e:((h8 d.length).map λi=>d.getD i .none).toArray=Array.map (λx=>x.snd) (d.toArray.zip d.toArray):=by
      rcases d with _|⟨v,_|⟨v2,r⟩⟩
      · simp
      · simp
      · simp at Y; lia
    rw[e]at key
    simp only[rh,kS,o8]
    exact ap key
  rw[gl q0a,gl q0a]
  refine e1a3 (EC g) λfs f1 f2 f3=>?_
  refine am<|PySem.W.kat_kind (T:=.type "int") f1 q0a (λv hv=>?_) q0q ?_
  · obtain⟨i, t, rfl⟩ := f3 v hv
    exact PySem.W.Looks.now
  refine am (iW (PySem.W.kat_run (ks:=d) (vs:=d) (κ:=tuples' true) rfl q0a I (Q:=λf u=>∃p:Array Nat,p.size=d.length/\arrOf f=Array.map (PySem.W.kas_item (d.toArray.zip d.toArray)) p/\failedOf f=none/\u={ s with heap:=((s.heap.update a (Obj.mapSeq λ_=>#v[])).push (mj "tuple" d.toArray 0)).push (mj "list" #v[] 0)}/\p.toList.Perm (h8 d.length)/\(p.toList.map λi=>m.getD i (0,0)).Pairwise (λx y=>Ij y x=false))
    (G:=λp u=>u={ s with heap:=((s.heap.update a (Obj.mapSeq λ_=>#v[])).push (mj "tuple" d.toArray 0)).push (mj "list" #v[] 0)}/\p.toList.Perm (h8 d.length)/\(p.toList.map λi=>m.getD i (0,0)).Pairwise (λx y=>Ij y x=false)) (λp f u M O R q4=>#[p,M,O,R,q4]) ?_) ?_ λ_ _ z=>z)
  rotate_left
  · rintro⟨⟨⟩, f⟩ u ⟨p, M, O, R, rfl, g1, g2⟩
    have Z:=PySem.W.kat_snds (vs:=d) (ks:=d) rfl O
    refine am<|seqEpoch_at F rfl<|am<|tY F rfl ?_ (hsz2:=by rw[Z];simp[M];lia)
    rw[R]
    simp only[rh,kS,o8]
    rw[Z]
    exact ap<|h _ g1 g2
  · refine QJ (N := d.length) (lt := λi j => Ij (m.getD i (0, 0))<|m.getD j (0, 0)) ⟨λa => ?_, λa b c z1 z2 => ?_, λa b z => ?_⟩ (λi j C H B k => ?_) q0a (gK _) λl c1 c2 => #[rfl, ?_, ?_]
    · exact EA.mpr<|.inr #[rfl, om _]
    · have z1 := EA.mp z1
      have z2:=EA.mp z2
      exact EA.mpr q0a
    · have z := a0i.mp z
      exact EA.mpr q0a
    · exact Uu (F7 g i H) (F7 g j B) k
    · have := c1.toList
      simpa using this
    · rw[List.pairwise_iff_getElem]
      intro i j H B S
      have hl:l.size=d.length:=by have:=c1.size_eq;simpa using this
      have q:=c2 i j (lM S) (by simpa[hl] using B)
      have gi:l.getD i 0=l.toList[i]'(by simpa using H):=by
        have:i<l.size:=by simpa using H
        simp[Array.getD,this]
      have gj:l.getD j 0=l.toList[j]'(by simpa using B):=by
        have:j<l.size:=by simpa using B
        simp[Array.getD,this]
      rw[uP,uP,<- gi,<- gj]
      exact q
def Hh{a:List cr}(u:s.heap.IsList l a.toArray)(v:Paired (xm s.heap) a B)(f:a.length<64)
 (h:∀j C r (d:List Nat),⇑s<=r->d.Perm (h8 a.length)->(d.map λi=>B.getD i (0,0)).Pairwise (λx y=>Ij y x=false)->(∃n,j.get? r=some { cls:=.type "list",data:=.seq (d.map λi=>a.getD i .none).toArray n})->(∀c o,s.heap.get? c=↑o->j.get? c=↑o)->Q (.ref r) { s with heap:=j,toks:=C}) :
    gR (gU t w) A (call (.builtin "sorted") [.ref l]) Q E s:=by
  refine rE kind_sorted plain_sorted entry_sorted (args_sorted1 _) ?_
  have sl:(64:Nat)<=gL:=by rw[i8];decide
  refine am (m:=checkCount "sorted" 1 1 _)<|ap<|am<|collect_list u ?_ q0d
  have e:∀c o,s.heap.get? c=↑o->((s.heap.push<|mj "list" #v[] 0).update ⇑s<|Obj.mapSeq λx=>x++a.toArray).get? c=↑o:=λc o q=>(iB _ _<|je<|gP q).trans<|ce _ q
  have sz:⇑s<=((s.heap.push<|mj "list" #v[] 0).update ⇑s<|Obj.mapSeq λx=>x++a.toArray).objs.size:=by rw[oA,tj];exact lG _
  generalize ((s.heap.push<|mj "list" #v[] 0).update ⇑s<|Obj.mapSeq λx=>x++a.toArray)=k at e sz ⊢
  refine am<|tU ?_
  have p:(k.push<|mj "list" a.toArray 0).get? k.objs.size=↑(mj "list" a.toArray 0):=gX _ rfl
  refine am<|iz<|iP slot_list_sort ⟨_,p,rfl⟩ entry_list_sort (KU p (EB (λb o z _=>ce _<|e b o z) v) f λd D F=>#[_,rfl,?_])<|args_list_sort _
  obtain⟨G,H⟩:=sortedHeap_at (out:=(d.map λi=>a.getD i .none).toArray) p
  refine ap #[_,rfl,h _ s.toks k.objs.size d sz D F #[G,by simpa using H] λc o g=>?_]
  have lt:=gP<|e c o g
  rw[sortedHeap_old (gZ lt)<|by rw[tj];exact ol lt]
  exact ce _<|e c o g
end SX
namespace L2
open PySem PySem.Spec PyProof.Rows SX
def range_getD(l:List a)(d:a):(h8 l.length).map (λi=>l.getD i d)=l:=by refine List.ext_getElem q0o λi c b=>?_;simp[List.getD,b]
def F8(h:Paired R c k):∀{b:List Nat},(∀i∈b,i<c.length)->Paired R (b.map λi=>c.getD i d) (b.map λi=>k.getD i e):=by
 have g:∀i,i<c.length->R (c.getD i d) (k.getD i e):=by
  induction h with
  |nil=>exact λi z=>g8 z<|Nat.not_lt_zero _
  |cons a _ f =>
   intro i z
   cases i with
   |zero=>exact a
   |succ i=>simpa using f i (by simpa using z)
 intro b
 induction b with
 |nil=>exact λ_=>.nil
 |cons i r f=>exact λz=>.cons (g i<|z i gO)<|f λj l=>z j<|gS _ l
def pairs_at(I:Inv X f A H s):∀{g:List V} {vh:List cr} {d:List (Int×Int)},Vals g vh->Paired (λ(v:V)(p:Int×Int)=>∃t,v=.ref t/\H t=↑(.tup [.int p.1,.int p.2])) g d->Paired (xm s.heap) vh d:=by
 intro _ _ d z
 induction z generalizing d with
 |nil=>intro w;cases w;exact .nil
 |cons r B i=>intro w;cases w with|cons q j =>
  refine e1a2 q λt e h=>?_;subst e;obtain rfl:=r;obtain⟨vh,k,⟨o,l,m,n,u⟩,_⟩:=I.tuple<|yY.of h
  cases k with|cons a b =>
  cases b with|cons b c =>
  cases c;obtain⟨x,rfl⟩:=a;obtain⟨y,rfl⟩:=b;exact .cons #[t,o,x,y,n,rfl,l,m,u]<|i j
def Hi:yz X (.builtin "sorted") (λk H Q=>∃(a:ci)(c:List V) (g:List (Int×Int)),k=[.ref a]/\v6 X.K H a c/\Paired (λ(v:V)(p:Int×Int)=>∃t,v=.ref t/\H t=↑(.tup [.int p.1,.int p.2])) c g/\c.length<64 /\
  ∀(l:ci)(b:List Nat),H l=none->b.Perm (h8 c.length)->(b.map λi=>g.getD i (0,0)).Pairwise (λx y=>Ij y x=false)->Q (.ref l) (upd H l (.lst (b.map λi=>c.getD i .wq)))):=by
 intro m s P H k c Q I r h;obtain⟨a,d,g,rfl,z,A,B,q⟩:=h;obtain⟨u,rfl,C⟩:=vals1 r;cases C;refine e1a3 (I.list z) λvh j D R=>?_;have E:d.length=vh.length:=j.length;refine Hh D.isList (pairs_at I j A) q0d λS F r b w f G J L=>?_;obtain⟨n,e⟩:=J;rw[<- E]at f;have M:∀i∈b,i<d.length:=λi N=>by simpa using f.subset N
 have O:b.length=d.length:=by simpa using f.length_eq
 exact#[.ref r,_,I.laid (t':=F) (o:=.lst<|b.map λi=>d.getD i .wq) L w #[by rw[gM,O];omega,b.map λi=>vh.getD i .none,n,F8 j M,e],rfl,q r b (I.vL.fresh w) f G]
end L2
namespace WL
variable[L2.GX]
open PySem L2 SX
open Rep (rp)
open Ow (sl)
open Sls (rel)
section
variable{D:Type}[Sls D]
def NW:∀{a:List d} {b:List V},Paired R a b->Paired (λv x=>R x v) b a:=by
 intro _ _ z
 induction z with
 |nil=>exact .nil
 |cons h t c=>exact .cons h c
def Jq{a b:Type}{R S:a->b->Prop}(h:∀x y,R x y->S x y):∀{c:List a} {d:List b},Paired R c d->Paired S c d:=λz=>L2.Paired.Wn z h
def KW(B:Gl X "sorted")(C:X.mg "sorted"=none)(G:ER X E T a I)(k:gJ [a] X.env=77::gJ [] X.env:=by rfl) :
  EO X E T (.Call (.Name "sorted" p) [a] [] pos) (cK I λ(m:OL (Int×Int)->D->Prop) g b=>(g b).length<64/\∀c,c.Perm (g b)->c.Pairwise (λx y=>Ij y x=false)->m #[c] b):=by
 refine e1a2 G λta J L=>?_;refine#[_,wu Hi B C ki (uY J vi k) (he:=k),λd F R M H m N Q s O P S=>L d F R M H _ N _ s O (λg b u n U W o Y f Z=>?_) S];obtain⟨q,r,rfl,h1,h⟩:=Z b n U W 53 f;have A:(g b).length=r.length:=h.length;refine#[_,r,g b,rfl,v6.of h1,Jq (λv x z=>?_)<|NW h,by rw[<- A];exact o.1,λl ix hl j sn=>?_]
 ·obtain⟨t,u,w,rfl,_,e,e1,e2⟩:=z;exact#[t,rfl,by rw[e,e1,e2]]
 ·rw[<- A]at j;have lt:∀i∈ix,i<(g b).length:=λi hi=>by simpa using j.subset hi
  refine e1a3 (xB f hl<|F8 (d:=(0,0)) (e:=V.wq) h lt) λR' c3 s3 n3=>?_;exact P _ b _ _ n R' _ (o.2 _ (by have:=j.map<|λi=>(g b).getD i (0,0);rwa [range_getD]at this) sn) (Ch.trans s f.tab Y c3) s3 n3
def tw_trueR{f:Type}[Rep f]{h:Wf D (D->List f) D}(p:ER X E T a h)(r:∀b,qJ a X.env b=(do let v <- b;my a.pos;kF [v] (ut v)):=by intro _;rfl):TW X E T a (cK h λi g c=>i (!(g c).isEmpty) c):=by
 refine e1a2 p λL t w=>?_;refine#[_,Iw t r,λd F R x H i y Q s z A B=>w d F R x H _ y _ s z (λg c u j k m C G n I=>?_) B];obtain⟨q,e,rfl,J,o⟩:=I c j k m 53 n;refine#[!e.isEmpty,.inl #[e,v6.of J,rfl],?_]
 have:e.isEmpty=(g c).isEmpty:=by generalize g c=l at o;cases o<;>rfl
 rw[this];exact A _ c j k m C G n
end
section
variable{D PO τ:Type}[Sls D][Sls PO][Ow τ]{α:Type}[Rep α]
def a0j(q:ID)(i:Nat)[Sls j][A:At i D (Bd C l) j](n:q.ok l)(o:zW X.K C)(t:vQ X.K C q.nm)(u:X.A.units+1<jX)(w:PE X (.Name x b) (vw i))(B:EV X T a f)(m:M1 X (.Attribute (.Name x b) q.nm G) "get" apos a pos:=by exact#[rfl,rfl,rfl,rfl])(I:iD (.Name x b) q.nm X.env (eval (.Name x b) X.env)=eval (.Name x b) X.env:=by rfl) :
  EW X E T (.Call (.Attribute (.Attribute (.Name x b) q.nm G) "get" apos) [a] [] pos) (λ(d:D)(c:Option Int->D->Prop) _=>c (lk 83<|f d) d):=by
 refine e1a2 B λW J L=>?_;refine#[_,Pc u (wO w I) J m,λd F R M H c Y Q s N O Z=>?_];obtain⟨p,P,e1,e2,e3,e4,us,S,e,_,_⟩:=wp (i:=i) s;refine e1a4 (Am e q n) λy U h _ _=>?_;refine#[_,S,p,C,P,_,_,rfl,e.ob,o,t,U,y,rfl,.inl #[_,.inl h],L d F R M H _ s λv r=>?_];subst r;have g:=yg.k (k:=il<|f d) h;rw[yq]at g;refine#[_,g,O _ d _ F R H N 53 s ?_]
 cases lk 83 (f d) with
 |none=>exact rfl
 |some z=>exact#[(λz=>by cases z),rfl]
def QK(q:ID)(i:Nat)[Sls n][A:At i D (Bd C o) n](t:q.ok o)(u:zW X.K C)(w:vQ X.K C q.nm)(B:X.A.units+1<jX)(G:PE X (.Name x c) (vw i))(I:EV X T a f)(J:EV X T b g)(m:M2 X (.Attribute (.Name x c) q.nm L) "get" apos a b pos:=by exact#[rfl,rfl,rfl,rfl])(M:iD (.Name x c) q.nm X.env (eval (.Name x c) X.env)=eval (.Name x c) X.env:=by rfl) :
  EW X E T (.Call (.Attribute (.Attribute (.Name x c) q.nm L) "get" apos) [a,b] [] pos) (λ(d:D)(e:Int->D->Prop) _=>e ((lk 83<|f d).getD<|g d) d):=by
 refine e1a2 I λta N O=>?_;refine e1a2 J λtb P S=>?_;refine#[_,Pd B (wO G M) N P m,λd F R h H e Ke Q s U W ke=>?_];obtain⟨p,Y,e1,e2,e3,e4,us,Z,j,_,_⟩:=wp (i:=i) s;refine e1a4 (Am j q t) λy l1 l _ _=>?_;refine#[_,Z,p,C,Y,_,_,rfl,j.ob,u,w,l1,y,rfl,.inl #[_,.inl l],O d F R h H _ s λv r=>S d F R h H _ s λv' r'=>?_];subst r r';have g:=yg.k (k:=il<|f d) l;rw[yq]at g;refine#[_,g,W _ d _ F R H U 53 s ?_]
 cases lk 83 (f d) with
 |none=>exact rfl
 |some z=>exact rfl
def Uv(q:ID)(i:Nat)[Sls e][A:At i D (Bd C g) e][U:Pt i e (Bd C g) D](n:q.ok g)(o:zW X.K C)(t:vQ X.K C q.nm)(u:PE X (.Name x b) (vw i))(w:EV X T a f)(m:M1 X (.Attribute (.Name x b) q.nm B) "pop" apos a pos:=by exact#[rfl,rfl,rfl,rfl])(G:iD (.Name x b) q.nm X.env (eval (.Name x b) X.env)=eval (.Name x b) X.env:=by rfl) :
  EW X E T (.Call (.Attribute (.Attribute (.Name x b) q.nm B) "pop" apos) [a] [] pos) (λ(d:D)(h:Int->D->Prop) _=>∃v,lk 83 (f d)=↑v/\h v (U.put (A.hole d)<|q.set (A.get d)<|dk 83<|f d)):=by
 refine e1a2 w λta I J=>?_;refine#[_,Pe (wO u G) I m,λd F R L H h Ke Q s M N ke=>?_];obtain⟨p,O,e1,e2,e3,e4,us,P,j,S,W⟩:=wp (i:=i) s;refine e1a4 (Am j q n) λy Y k l Z=>?_;refine#[_,P,p,C,O,_,_,rfl,j.ob,o,t,Y,y,rfl,.inl #[_,.inl k],J d F R L H _ s λv r=>?_];subst r;refine e1a2 M λz h1 h2=>?_;refine#[_,il<|f d,V.int z,k,rfl,(by rw[yq,h1];rfl),?_];rw[I0];obtain⟨c,s'⟩:=W (U:=U) l<|Z (dk 83<|f d)<|S _ l;exact N z _ _ F R _ h2 c s' rfl
def Jr{R:Rg}{H:Hp}{y:α}:∀{xs:List α} {vs:List V},Paired (rp R H) (xs++[y]) vs->∃us u,vs=us++[u]/\Paired (rp R H) xs us/\rp R H y u:=by
 intro xs
 induction xs with
 |nil=>intro _ z;cases z with|cons h t=>cases t;exact#[[],_,rfl,.nil,h]
 |cons a xs ih =>
  intro _ z
  cases z with|cons h t =>
  obtain⟨us,u,rfl,h1,h2⟩:=ih t;exact#[_::us,u,rfl,.cons h h1,h2]
def Uw(i:Nat){D0:Type}[Sls D0][A:At i D (OL α) D0][U:Pt i D0 (OL α) D](hn:PE X (.Name x p1) (vw i))(hb:PE X (.Call (.Attribute (.Name x p1) "pop" apos) [] [] pos) (Zf X.K "list" Zg<|vw i)) :
  EW X E T (.Call (.Attribute (.Name x p1) "pop" apos) [] [] pos) (λ(d:D)(Kn:α->D->Prop) _=>∃ys y,(A.get d).l=ys++[y]/\Kn y (U.put (A.hole d) #[ys])):=by
 refine#[_,hb,λd F R σ H Kn Ke Q s hw kn ke=>?_];refine e2a4 (zy (i:=i) s) λa vs g1 g2 g3 g4=>?_;refine e2a2 hw λys y e hk=>?_;rw[e]at g3;obtain⟨us,u,rfl,h1,h2⟩:=Jr g3;obtain⟨c2,s2⟩:=g4 _ _ h1;refine#[_,g1,.inl #[rfl,_,v6.of g2],a,_,u,rfl,rfl,g2,q0o,?_];rw[List.dropLast_concat];exact kn y _ u F R _ hk c2 s2<|s.val c2 h2
def zt{R:Rg}{H:Hp}:∀{xs:List α} {vs:List V} (k:Nat),Paired (rp R H) xs vs->Paired (rp R H) (xs.eraseIdx k) (vs.eraseIdx k):=by
 intro _ _ k z
 induction z generalizing k with
 |nil=>exact .nil
 |cons h t ih=>cases k with
  |zero=>exact t
  |succ k=>exact .cons h<|ih k
def NX{a:iA}(i:Nat){D0:Type}[Sls D0][A:At i D (OL α) D0][U:Pt i D0 (OL α) D]{we:Wf D Int D}(hn:PE X (.Name x p1) (vw i))(h:EW X E T a we)
  (hb:∀{t:TA},PA X [a] t->PE X (.Call (.Attribute (.Name x p1) "pop" apos) [a] [] pos) (tBM X.K "list" O5 (vw i) t)) (hs:gJ [a] X.env=77::gJ [] X.env:=by rfl) :
  EW X E T (.Call (.Attribute (.Name x p1) "pop" apos) [a] [] pos) (cK we λ(Kn:α->D->Prop) k d'=>0<=k/\∃y,(A.get d').l[k.toNat]?=↑y/\(A.get d').l.length<1000/\Kn y (U.put (A.hole d') #[(A.get d').l.eraseIdx k.toNat])):=by
 refine e1a2 h λt h1 h2=>?_;refine#[_,hb<|uY h1 vi hs,λd F R σ H Kn Ke Q s hw kn ke=>?_];refine e2a4 (zy (i:=i) s) λa0 vs0 g1 g2 g3 _=>?_;refine#[_,g1,.inl #[rfl,vs0,v6.of g2],h2 d F R σ H _ _ _ s hw (λk d' v F' R' H' q c s' r=>?_) ke];subst r;refine e2a4 (zy (i:=i) s') λa' TK k1 k2 k3 k4=>?_;rw[g1]at k1;cases k1;obtain⟨q0,y,e,ql,hk⟩:=q;refine e1a2 (wP k3 e) λu hu ru=>?_;have lt:=(List.getElem?_eq_some_iff.mp hu).1;have ll:=Paired.length k3;obtain⟨c2,s2⟩:=k4 _ _<|zt k.toNat k3;refine#[a0,TK,k,k.toNat,u,rfl,rfl,k2,q0a,q0a,?_,hu,kn y _ u F' R' _ hk (Ch.trans s s'.tab c c2) s2<|s'.val c2 ru];have e0:(if k<0 then k+(TK.length:Int) else k)=k:=gl q0a;show (if (decide (0<=(if k<0 then k+(TK.length:Int) else k))&&decide ((if k<0 then k+(TK.length:Int) else k)<(TK.length:Int)))=true then some (if k<0 then k+(TK.length:Int) else k).toNat else none)=_;rw[e0];have:(decide (0<=k)&&decide (k<(TK.length:Int)))=true:=by simp;lia
 exact gI this
end
end WL
namespace L2
open PySem PySem.Spec PyProof.Rows SX
def X0(f:TE)(c:Int):TE:=λg H Q=>f g H λv d=>∃(a:ci) (b:List (Key×V)) (e:List Int),v=.ref a/\d a=↑(.dK b)/\b.map (·.1)=e.map il/\∀p,d p=none->Q (.ref p) (upd d p<|.dK<|e.map λk=>(il k,V.int c))
def stored_new:∀{l:List (Key×cr)},k∉l.map (·.1)->stored l k y=l++[(k,y)]
 |l,h=>by unfold stored;rw[gl];simp only[qH,ie,not_exists,not_and];exact λe a z=>h<|List.mem_map.mpr #[e,a,z]
def Js:∀{l:List k} {c:List m},Paired R c (l++[v])->∃b d,c=b++[d]/\Paired R b l/\R d v:=by
 intro e
 induction e with
 |nil=>intro _ z;cases z with|cons h t=>cases t;exact#[[],_,rfl,.nil,h]
 |cons a e f =>
  intro _ z
  cases z with|cons h t =>
  obtain⟨g,u,rfl,i,j⟩:=f t;exact#[_::g,u,rfl,.cons h i,j]
def AI:∀{l:List c} {m:List d},l.length=m.length->(∀(j:Nat)(k:c)(v:d),l[j]?=↑k->m[j]?=↑v->R k v)->Paired R l m
 | [],[],_,_=>.nil
 | [],_::_,h,_=>by cases h
 |_::_,[],h,_=>by cases h
 |a::l,b::m,h,f=>.cons (f 0 a b rfl rfl)<|AI (mY h) λj k v e g=>f (j+1) k v e g
def Ju{c:Int}:∀{a:List Int} {r:List (Key×cr)},r.map (·.1)=a.map il->(∀e∈r,∃t,e.2=.int c t)->KV (a.map λk=>(il k,V.int c)) r
 | [],[],_,_=>.nil
 | [],_::_,h,_=>by cases h
 |_::_,[],h,_=>by cases h
 |k::a,e::r,h,f=>by rw[ik,ik]at h;injection h with b d;obtain⟨t,g⟩:=f e gO;exact .cons #[b.symm,t,g]<|Ju d λi j=>f i<|gS _ j
def KY{P:iu}{w:iO}(g:∀v k,i v k->zQ k v=true)(h:StoredAll i j l r):∀{a:List Key},Paired (λk v=>zQ k v=true) a l->a.Nodup->r.map (·.1)=a/\∀e∈r,∃v,j v e.2:=by
 induction h with
 |nil=>intro a c _;cases c;exact#[rfl,λ_ z=>by cases z]
 | @snoc l r v k y _ m n o =>
  intro a c p;obtain⟨q,d,rfl,s,t⟩:=Js c;have u:k=d:=(vz P w).inj v k d (g v k m) t;subst u;have b:=List.nodup_append.mp p;obtain⟨f,x⟩:=o s b.1;have A:k∉r.map (·.1):=λz=>by rw[f]at z;exact b.2.2 k z k q0o rfl
  rw[stored_new A,jE,f];refine#[rfl,λe B=>?_];rcases List.mem_append.mp B with z|z
  ·exact x e z
  ·rw[List.mem_singleton.mp z];exact#[v,n]
def QL(af:X.calm=true)(hi:PE X iter ti)(E:ot d X.env=pure [])(F:∀y∈d.names,y.2≠.cell)(f:d.kind=.function)(p:∀y∈d.names,y.2=.local->d.names.lookup y.1=some .local)(hx:d.names.lookup x=some .local)(hd:(x==55)=false:=by decide)
 (hs:∀x,j7 iter X.env x=pure x:=by intro _;rfl):PE X (.DictComp (.Name x q1) (.Constant (.int c) j q2) [#[.Name x px,iter,[],0]] d pos) (X0 ti c):=by
  intro u s σ H Q I h
  have hh:X.A.handled=none:=I.ok.hd af
  rw[arm_eval_DictComp]
  refine oW (use:=none) rfl hs E f p<|vG (hi u s σ H _ I h) λv l z9=>e2a3 z9 λx1 H1 I1 r1 N=>e3a4 N λa r O e1 ha G q=>?_
  subst e1
  obtain rfl:v=hO a:=r1
  obtain⟨hz,S,m,kv,wF⟩:=I1.vL a _ ha
  obtain⟨B,D⟩:=wF.dictAt
  have alt:a<⇑l:=D.lt_size
  refine wpAny_pyIter_dict S D ?_
  -- the M ah at n,the dict at n+1,the frame at n+2
  have u0:∀b o,l.heap.get? b=↑o->(l.heap.push 75).get? b=↑o:=λb o e=>ce _ e
  have i0:Heap.IsKeyIter (l.heap.push 75) ⇑l a 0 m.length B:=#[_,gX _ rfl,rfl,rfl]
  have z0:(l.heap.push 75).objs.size=⇑l+1:=jt _ _
  generalize l.heap.push 75=g at u0 i0 z0 ⊢
  refine iH<|wpAny_newFunctionEnv F (λy hy=>by cases hy) (λJ T U=>?_) f
  have d1:(g.push { cls:=.type "dict",dict:=none,data:=.dict #v[]}).DictOf (vz X.prog X.w) g.objs.size []:=sG g
  have u1:∀b o,g.get? b=↑o->(g.push { cls:=.type "dict",dict:=none,data:=.dict #v[]}).get? b=↑o:=λb o e=>ce _ e
  have z1:(g.push { cls:=.type "dict",dict:=none,data:=.dict #v[]}).objs.size=g.objs.size+1:=jt _ _
  generalize g.push { cls:=.type "dict",dict:=none,data:=.dict #v[]}=g1 at d1 u1 z1 T U ⊢
  have u2:∀b o,g1.get? b=↑o->J.get? b=↑o:=λb o e=>U.extBut b o (gZ<|gP e)<|ce _ e
  have c1:g.objs.size≠g1.objs.size:=by lia
  have n1:∀b∈[⇑l,a],b<g.objs.size:=λb hb=>by
    rcases List.mem_cons.mp hb with z|z
    · rw[z, z0]; exact ji _
    · rw[List.mem_singleton.mp z, z0]; exact ol alt
  have W:=Walks.dictKeys (prog:=X.prog) (w:=X.w) (knd:=vz X.prog X.w) hh ⇑l a (gZ alt) m B
  have st:J.IsKeyIter ⇑l a 0 m.length B/\J.DictAt (vz X.prog X.w) a m B:=#[i0.at λo e=>u2 _ o<|u1 _ o e,D.at' λo e=>u2 _ o<|u1 _ o<|u0 _ o e]
  have C:=codeAny_compLoop_walkD (R:=compPost 19 X.A X.xe none (EP X u σ Q) (hO g.objs.size) g1.objs.size) (s:={ l with heap:=J,toks:=l.toks+0}) (kx:=.Name x q1) (vx:=.Constant (.int c) j q2) (iter:=iter) (x:=x) (px:=px) (ifs:=[]) (scope:=d) (pos:=pos) (D:=g.objs.size) (cenv:=tm d [] g1.objs.size X.env) W (λ_=>true) (λv k=>zQ k v=true) (λ_ y=>∃t,y=.int c t)
    (lookup_relabel_local hx) (by simp[tm,oN,f]) c1 (λY=>jJ _<|n1 _ Y) (λY=>jJ _<|ny (n1 _ Y)<|by rw[z1];exact ji _) st (d1.at λo e=>u2 _ o e) T (λi v L m3 _ _ _ _=>sv #[rfl,L.heap,L.toks,rfl,λ_ _ e=>e])
    (λi v L m3 Z _ hn Y _=>by
      refine e2a2 Z λk x' aj hk=>?_
      exact pE (kJ (by show d.kind=_;exact f) (lookup_relabel_local hx) hn Y #[#[k,hk,hk],L.heap,L.toks,rfl,λ_ _ e=>e]) hd)
    (λi v L m3 _ _ _ _ _=>wpAny_Constant_int #[#[_,rfl],L.heap,_,rfl,λ_ _ e=>e])
    (λh2 tk m' aa ag hn dd ab hP hS k=>?fin) (by rw[<- Paired.length kv];exact hz)
  · exact codeAny_compStart_dict C<|W.self 0 _ _ _ st C
  · refine#[m', hn, λh3 ae => ?_]
    have le:⇑l<=g.objs.size:=by rw[z0];exact lG _
    have k':∀b o,l.heap.get? b=↑o->h3.get? b=↑o:=λb o e=>by
      have lb:=gP e
      have lg:b<g.objs.size:=hR lb le
      have n2:b≠g1.objs.size:=gZ (by rw[z1];exact ol lg)
      exact ae.extBut b o n2<|k b o n2 (λz=>by rw[List.mem_singleton.mp z]at lb;exact jJ _ lb) (gZ lg)<|u2 _ _<|u1 _ _<|u0 _ _ e
    have nH:H1 g.objs.size=none:=I1.vL.fresh le
    have kk:∀{r:List (Key×V)} {m:List (Key×cr)},KV r m->r.map (·.1)=m.map (·.1):=λh=>by
      induction h with
      |nil=>rfl
      |cons h _ ih=>rw[ik,ik,ih,h.1]
    have Z:Paired (λk v=>zQ k v=true) (O.map il) ag:=by
      rw[<- G,kk kv]
      refine AI (by rw[gM,ab]) λj k v J h2=>?_
      refine e2a2 (hP j v h2) λk' x' g1 g2=>?_
      rw[jy,g1]at J
      cases J
      exact g2
    have nd:(O.map il:List Key).Nodup:=by
      rw[<- G,kk kv]
      obtain⟨o,es,ho,hc,ai,hk,hp,hn⟩:=id D
      exact hn
    obtain⟨f1,f2⟩:=KY (P:=X.prog) (w:=X.w) (λv k h=>h) hS (by rw[List.filter_eq_self.mpr<|λ_ _=>rfl];exact Z) nd
    have rel:KV (O.map λk=>(il k,V.int c)) aa:=Ju f1 λe he=>(f2 e he).elim λv Z=>Z
    have ll:O.length=r.length:=by have:=congrArg nZ G;simpa using this.symm
    exact#[.ref g.objs.size,_,I1.laid (a:=g.objs.size) (o:=.dK<|O.map λk=>(il k,V.int c)) (t':=tk) k' le<|DS (by rw[gM,ll];exact hz) (beq_eq_false_iff_ne.mpr λz=>g8 I1.big<|by rw[<- z];exact Nat.not_lt.mpr le) rel<|dd.extBut ae.extBut c1,rfl,q _ nH]
end L2
namespace WL
variable[L2.GX]
open PySem L2
open Rep (rp)
open Ow (sl)
open Sls (rel)
section
variable{D PO τ:Type}[Sls D][Sls PO][Ow τ]{α:Type}[Rep α]
def QM{F R:Rg}{H:Hp}{d:D}{g:St}(s:vS T F R H d g){p:ci}(c:H p=none){l:List (Int×α)}{us:List (Key×V)}(h:PK R H l us):∃e,Ch T F R H (λa=>a=p\/F a) e (upd H p<|.dK us)/\vS T F e (upd H p<|.dK us) d g/\Nw T (λa=>a=p) F e (upd H p<|.dK us) (Dc.mk l) (.ref p):=by
 refine e0a3 (s.new (.dK us) c) λi m j=>?_;have n:¬F p:=λz=>j<|s.sub p z;have f:Ext (λ_=>False) R H (λa=>R a\/a=p) (upd H p<|.dK us):=⟨λb o _ h=>by rw[uR<|u4 h c];exact h,λa h=>h.elim .inl λq=>.inr<|by rw[q];exact c⟩;refine⟨λa=>R a\/a=p,#[m.keep,f.new,λa h=>h.elim (λq=>.inr<|by rw[q];exact c) .inl,λa h _=>.inl h],#[Sls.st s.rel f (λ_ z=>z.elim)<|λ_ _ z=>z,λa h=>.inl<|s.sub a h,λa h=>?_,i.tab,.inl s.vI,s.vy],#[#[p,us,rfl,λb=>Iff.rfl,uT,QA (f.wide λ_ z=>z.elim) h],λa h=>.inr h,λa h k=>n (by rw[<- h];exact k),λh=>j<|by rw[<- h];exact s.vI]⟩;rcases h with h|h
 ·exact i.wZ a h
 ·rw[h,uT];simp
def MG{c:Int}:∀l:List Int,PK R H (l.map λk=>(k,c)) (l.map λk=>((il k:Key),V.int c))
 | []=>.nil
 |_::l=>.cons #[rfl,rfl]<|MG l
def YO{y:Str}{r t u:Pos}{c:Int}{j:Nat}{a:lV}(q:ID)(i:Nat){m:Type}[Sls m][A:At i D (Bd C v) m](w:q.ok v)(B:zW X.K C)(G:vQ X.K C q.nm)(l:X.calm=true)(I:PE X (.Name x h) (vw i))(e:ot a X.env=pure [])(f:∀y∈a.names,y.2≠.cell)(g:a.kind=.function)(b:∀y∈a.names,y.2=.local->a.names.lookup y.1=some .local)(J:a.names.lookup y=some .local)(L:(y==55)=false:=by decide)(M:iD (.Name x h) q.nm X.env (eval (.Name x h) X.env)=eval (.Name x h) X.env:=by rfl)
  (N:∀z,j7 (.Attribute (.Name x h) q.nm O) X.env z=pure z:=by intro _;rfl) :
  EO X E T (.DictComp (.Name y r) (.Constant (.int c) j t) [#[.Name y u,.Attribute (.Name x h) q.nm O,[],0]] a pos) (λ(d:D)(n:Dc Int->D->Prop) _=>n #[((83).map (·.1)).map λk=>(k,c)] d):=by
 refine#[_,QL l (wO I M) e f g b J L N,λd F R σ H n Ke Q s P S ke=>?_];obtain⟨p,U,e1,e2,e3,e4,us,W,o,_,_⟩:=wp (i:=i) s;refine e1a4 (Am o q w) λz Y Z _ _=>?_;refine#[_,W,p,C,U,_,_,rfl,o.ob,B,G,Y,z,_,(83).map (·.1),rfl,Z,?_,λp' hp=>?_]
 ·unfold Bm;rw[kT,kT];rfl
 ·refine e1a3 (QM s hp (MG (R:=R) (H:=H) (c:=c) ((83).map (·.1)))) λR' c3 s3 n3=>?_;exact S _ d _ _ F R' _ P c3 s3 n3
def X1{j:Nat}(e:EV X T a f):EO X E T (.Dict [↑a] [.Constant .none j w] pos) (λ(d:D) (b:Dc (Option Int)->D->Prop) _=>b #[[(f d,none)]] d):=by
 refine e1a2 e λx g h=>?_;refine#[_,S7 (Pb g JR S6) rfl rfl q0o q0o,λd F R i H b y Q s k m z=>?_];intro p c;refine e0a3 (s.new (.dK []) c) λn A B=>?_;refine h d F R i _ _ n λv r=>#[uT,[(il<|f d,.wq)],?_,(show 1<=15 by decide),?_]
 ·have r:v=V.int (f d):=r;rw[r];rfl
 ·rw[Sy];refine e1a3 (QM (α:=Option Int) s c (l:=[(f d,none)]) (us:=[(il<|f d,V.wq)])<|.cons ⟨rfl,rfl⟩ .nil) λo q t u=>?_;exact m _ d _ _ F o _ k q t u
def tw_dcNin(i:Nat)[Sls g][A:At i D (Dc α) g](h:X.A.units+1<jX)(j:EW X E T a wk)(m:PE X (.Name x c) (vw i))(n:iQ .NotIn (.Name x c)=false:=by with_unfolding_all rfl) :
  TW X E T (.Compare a [.NotIn] [.Name x c] pos) (cK wk λ(e:Bool->D->Prop) k b=>e (!(lk (A.get b).l k).isSome) b):=by
 refine e1a2 j λO o p=>?_;refine#[_,JS (Ci h o m) n,λd F R q H e r Q s t v w=>p d F R q H _ r _ s t (λk b u z B C G I f J=>?_) w];subst J;obtain⟨y,P,L,M,N⟩:=DA (i:=i) f;refine#[_,L,y,_,rfl,yg.k (k:=il k) M,_,rfl,?_];rw[MB N];exact v _ b z B C G I f
def a0k(i:Nat)[Sls q][A:At i D (Dc Int) q][U:Pt i q (Dc Int) D][J:Pj D PO n](B:X.A.units+1<jX)(C:PE X (.Name x G) (vw i))(I:EV X T a f)(L:EV X T e h)(m:Zb X op (ipI g))
 (M:∀c j b,augStore a c j b=(do kF [b,c,j] (sA c j b);release [b,c,j] [];pure .next):=by intros;rfl) :
    S1 X E T ms n (.AugAssign (.Subscript (.Name x G) a p3) op e pos) (λ(d:D)(r:D->Prop)(_:τ->PO->Prop) _=>∃v,lk (A.get d).l (f d)=↑v/\(A.get d).l.length<gL/\r (U.put (A.hole d) #[pk (A.get d).l (f d)<|g v<|h d])):=by
  refine e1a2 I λta N O=>?_
  refine e1a2 L λte P Q=>?_
  refine#[_,SY B C N P m M,λd F R o H r Kr Ke En s S W kr ke=>?_]
  refine e2a4 (QD (i:=i) s) λy us Y t p Z=>?_
  refine e1a3 S λv h1 h2 h3=>?_
  refine#[_,Y,O d F R o H _ s λk rk=>?_]
  subst rk
  refine e1a2 ((KL p).1 v h1) λw w1 w2=>?_
  subst w2
  have u:=yg.k (k:=il<|f d) t
  rw[w1]at u
  refine#[y,_,rfl,u,Q d F R o H _ s λz rz=>?_]
  subst rz
  obtain⟨c3,s3⟩:=Z _ _<|QC (R:=R) (H:=H) (k:=f d) (x:=g v<|h d) (v:=V.int<|g v<|h d) rfl p
  exact#[v,h d,rfl,rfl,_,Gr.k (k:=il<|f d) t (by rw[KN p];exact h2),W _ F R _ o h3 c3 s3<|Ag.refl _ _]
end
section
variable{D:Type}[Sls D]
def tw_ninT{h:Wf D Int D}{i:Wf D (Tp Int) D}(r:EW X E T a h)(w:EW X E T b i)(x:iQ .NotIn b=false) :
  TW X E T (.Compare a [.NotIn] [b] pos) (cB h i λk j t f=>j (!decide (k∈t.l)) f):=by
 refine e1a2 r λta z A=>?_;refine e1a2 w λtb B G=>?_;refine#[_,xP Bv z B x,λd F R m H j n Q s I J o=>A d F R m H _ n _ s I (λk L u M N O P p g S=>?_) o];refine G L M N m O _ n _ g P (λt f v U W Y Z c2 s2 r2=>?_) λC y d' F' R' H' k c s'=>o C y d' F' R' H' k (Ch.trans s g.tab p c) s';subst S;obtain⟨l⟩:=t;obtain⟨q,us,rfl,_,h1,h2⟩:=r2;have e:=ints_of (xs:=l) h2;subst e;refine#[q,_,rfl,.inr<|yY.of h1,rfl,AJ _,_,rfl,?_];rw[gI rfl,BG];exact J _ f U W Y Z (Ch.trans s g.tab p c2) s2
end
end WL
namespace L2
variable[L2.GX]
open PySem PySem.Spec PyProof.Rows
def a2x(K:gH)(d:TE):TE:=λe H Q=>d e H λx b=>∃a c,x=.ref a/\v6 K b a c/\∀p,b p=none->Q (.ref p) (upd b p<|.lst c.reverse)
def X2{X:Cx}{e:iA}{te:TE}{p2 p3 p4 pos:Pos}{j:Nat}(he:PE X e te):PE X (.Subscript e (.Slice none none (some<|.UnaryOp .USub (.Constant (.int 1) j p3) p4) p2) pos) (a2x X.K te):=by
 intro pins s σ H Q I h;refine sR<|vG (he pins s σ H _ I h) λv s1 z9=>e2a3 z9 λx H1 I1 r1 z89=>e2a3 z89 λa xs e1 hx q=>?_;subst e1;obtain rfl:v=hO a:=r1;refine wpAny_Slice ?_;rw[tQ,evalPart_some];refine ap<|ap<|vG (VG OK vr pins s1 σ H1 (λv H=>v=.int (-1)/\H=H1) I1 #[1,rfl,rfl,rfl]) λu s2 z9=>e2a4 z9 λy H2 I2 r2 e2 e3=>?_;subst e2 e3;obtain⟨t,rfl⟩:=r2;have I4:Inv X pins σ H2 { s2 with heap:=s2.heap.push { cls:=.type "slice",data:=.fields #v[.none,.none,.int (-1) t]}}:=I2.kept (t':=s2.toks) λb ob q=>ce _ q;refine e1a3 (I4.list hx) λvh r pl hz=>?_;refine' tail_any pl.isList.typeIs slot_list_getitem.lookup ?_ ?hs
 case hs=>with_unfolding_all rfl
 refine tR pl.isList (qT ..) .none .none (.int (-1) t) q0q ?_ (by rw[gY,<- r.length];exact hz);rw[PySem.W.krv_pick];refine#[.ref (s2.heap.push { cls:=.type "slice",data:=.fields #v[.none,.none,.int (-1) t]}).objs.size,_,I4.laid (t':=s2.toks) (o:=.lst xs.reverse) (λb ob q=>ce _ q) (gK _) ?_,rfl,q _<|I4.vL.fresh<|gK _];exact#[by rw[List.length_reverse];exact hz,vh.reverse,0,r.reverse,gX _ rfl]
end L2
namespace WL
variable[L2.GX]
open PySem L2
open Rep (rp)
open Ow (sl)
open Sls (rel)
section
variable{D:Type}[Sls D]{α:Type}[Rep α]
def KZ{R:Rg}{H:Hp}:∀{xs:List α} {vs:List V},Paired (rp R H) xs vs->Paired (rp R H) xs.reverse vs.reverse:=by
 intro _ _ z
 induction z with
 |nil=>exact .nil
 |cons h t ih=>rw[n6,n6];exact xQ ih<|.cons h .nil
def X3{j:Nat}(h:ER X E T a i) :
  EO X E T (.Subscript a (.Slice none none (some<|.UnaryOp .USub (.Constant (.int 1) j N) O) P) pos) (cK i λ(e:OL α->D->Prop) g b=>e #[(g b).reverse] b):=by
 refine e1a2 h λS k l=>?_;refine#[_,X2 k,λd F R m H e n Q s o r t=>?_];refine l d F R m H _ n _ s o (λg b u f v w x y c z=>?_) t;obtain⟨q,A,rfl,B,C⟩:=z b f v w 53 c;refine#[q,A,rfl,v6.of B,λp G=>?_];refine e1a3 (xB c G<|KZ C) λI J L M=>?_;exact r _ b _ _ f I _ x (Ch.trans s c.tab y J) L M
end
end WL
namespace K7
instance gx0:L2.GX:=#[λ_ _ _=>True]
abbrev XS:ci:=44
abbrev XC:ci:=56
abbrev XB:ci:=68
abbrev XO:ci:=80
abbrev XP:ci:=92
abbrev XF0:ci:=104
abbrev XV:ci:=116
abbrev XF:ci:=128
abbrev XT:ci:=140
abbrev XN:ci:=152
abbrev XR:ci:=175
abbrev C:ci:=533
open PySem L2 WL
noncomputable def top(i:Nat):ic:=PySem.Challenge.pw_slimbody_k15_whole_ring_or_arrow.main.body.getD i<|.Pass #[0,0,0,0]
noncomputable abbrev w4:ic:=top 15
noncomputable abbrev ED:ic:=top 16
noncomputable abbrev Hj:ic:=top 17
def F9:Wf (List Int×Unit) Bool (Un×Unit):=λp a _=>a (asc p.1) (#[],())
def Ga:Wf (Tp Int×Unit) Bool (Un×Unit):=λp a _=>a (asc p.1.l) (#[],())
def MH(C:ci):Wf (List Int×Unit) Unit (Un×Unit):=λp a b=>(asc p.1=true->a () (#[],()))/\(asc p.1=false->b C (#[],()))
def MI(C:ci):Wf (Tp Int×Unit) Unit (Un×Unit):=λp a b=>(asc p.1.l=true->a () (#[],()))/\(asc p.1.l=false->b C (#[],()))
def MJ:Wf (List (Tp Int)×Unit) (OL Int) (Un×Unit):=λp a _=>∃U:List Int,U.length<64/\(∀r∈p.1,yf r.l/\∀x∈r.l,x∈U)/\a #[Oz (p.1.map (·.l))] (#[],())
section
variable{P:iu}{w:iO}{K:gH}{mg:Str->Option cr}{base:iJ}{T:ci}
def Gb:uZ ["row"] ["row"] (uQ w4):=#[rfl,rfl,rfl,q0s,rfl,q0s,q0s]
def K0{f c:ci}{fd:iE}(F:yX K "is_sum" "is_sum" w4 f fd)(hc:fd.code=.ref c)(B:IQ mg base c T)(X4:mg "all"=none)(X5:mg "zip"=none):vB P w K mg base (vJ P w) 1 f fd ["row"] (yn T F9):=by
 refine' vc (VZ (A:=List Int×Unit) (PO:=Un×Unit) (τ:=Bool) (D':=Unit) (ms:=[]) (j:=0) F Gb rfl rfl λA outer s H E hr=>?body) ?nice
 case body =>
  exact uS<|vf<|vj<|Qe (ss 0) (vD<|IU (vM<|ss 0) (GN uV) GL)<|λh=>IP a1V (c:=c) (P:=T) rfl #[hc,B.hd,B.blt] hr.depth rfl X4 rfl X5 h rfl rfl rfl q0s rfl rfl rfl q0s q0s q0s
 case nice =>
  intro p Kn Ke h
  walk_at "wl"
  rw[ZW];exact h
def K3{f c:ci}{fd:iE}(F:yX K "is_sum" "is_sum" w4 f fd)(hc:fd.code=.ref c)(B:IQ mg base c T)(X4:mg "all"=none)(X5:mg "zip"=none):vB P w K mg base (vJ P w) 1 f fd ["row"] (yn T Ga):=by
 refine' vc (VZ (A:=Tp Int×Unit) (PO:=Un×Unit) (τ:=Bool) (D':=Unit) (ms:=[]) (j:=0) F Gb rfl rfl λA outer s H E hr=>?body) ?nice
 case body =>
  exact uS<|vf<|vj<|Qf (ss 0) (NJ (ss 0) (GN uV) GL)<|λh=>IP a2j (c:=c) (P:=T) rfl #[hc,B.hd,B.blt] hr.depth rfl X4 rfl X5 h rfl rfl rfl q0s rfl rfl rfl q0s q0s q0s
 case nice =>
  intro p Kn Ke h
  walk_at "wl"
  rw[ZW];exact h
def MK:uZ ["row"] ["row"] (uQ ED):=#[rfl,rfl,rfl,q0s,rfl,q0s,q0s]
def Gc{b:Bool}(h:(b=true->p)/\(b=false->q)):if (!b)=true then q else p:=by
 cases b
 ·exact h.2 rfl
 ·exact h.1 rfl
def QN{f C f1:ci}{fd Wd:iE}{De:List cr}{B newId yh:String}(F:yX K "must_be_sum" "must_be_sum" ED f fd)(F1:Fn K mg "is_sum" w4 ["row"] f1 Wd)(G1:vB P w K mg base (vJ P w) 1 f1 Wd ["row"] (yn T F9))
  (hC:mg "NotASum"=↑(.ref C))(O:jh K C De newId=true)(FB:kq B newId yh De)(g0:∀H',GX.g C none H'):vB P w K mg base (vJ P w) 2 f fd ["row"] (yn T<|MH C):=by
 refine' vc (Ea (vC q0q) (A:=List Int×Unit) (PO:=Un×Unit) (D':=List Int×Unit) (ms:=[]) (j:=0) F MK rfl rfl λPg A outer s H E hr=>?body) ?nice
 case body =>
  exact uS<|vF (tw_not<|tw_val<|ve<|BI G1 hr rfl F1.at_ F1.fn.kp F1.bd AY<|uW (ss 0) uU) (uS<|Em<|D8 rfl hC O FB g0<|uY DL vi) vv
 case nice =>
  intro p Kn Ke h
  walk_at "wl"
  exact Gc h
def QO{f C f1:ci}{fd Wd:iE}{De:List cr}{B newId yh:String}(F:yX K "must_be_sum" "must_be_sum" ED f fd)(F1:Fn K mg "is_sum" w4 ["row"] f1 Wd)(G1:vB P w K mg base (vJ P w) 1 f1 Wd ["row"] (yn T Ga))
  (hC:mg "NotASum"=↑(.ref C))(O:jh K C De newId=true)(FB:kq B newId yh De)(g0:∀H',GX.g C none H'):vB P w K mg base (vJ P w) 2 f fd ["row"] (yn T<|MI C):=by
 refine' vc (Ea (vC q0q) (A:=Tp Int×Unit) (PO:=Un×Unit) (D':=Tp Int×Unit) (ms:=[]) (j:=0) F MK rfl rfl λPg A outer s H E hr=>?body) ?nice
 case body =>
  exact uS<|vF (tw_not<|tw_val<|ve<|BI G1 hr rfl F1.at_ F1.fn.kp F1.bd AY<|uW (ss 0) uU) (uS<|Em<|D8 rfl hC O FB g0<|uY DL vi) vv
 case nice =>
  intro p Kn Ke h
  walk_at "wl"
  exact Gc h
def Jv:uZ ["rows","odd","row","number"] ["rows"] (uQ Hj):=#[rfl,rfl,rfl,q0s,rfl,q0s,q0s]
def QP{f C f1:ci}{fd Wd:iE}(F:yX K "total" "total" Hj f fd)(F1:Fn K mg "must_be_sum" ED ["row"] f1 Wd)(G1:vB P w K mg base (vJ P w) 2 f1 Wd ["row"] (yn T<|MI C))(a2y:mg "set"=none)(Ux:mg "sorted"=none) :
  vB P w K mg base (vJ P w) 3 f fd ["rows"] (yn T MJ):=by
 refine' vc (wy (A:=List (Tp Int)×Unit) (PO:=Un×Unit) (τ:=OL Int) (D':=Unit) (ms:=[]) (j:=3) F Jv rfl rfl λPg A outer s H E hr=>?body) ?nice
 case body =>
  have nd:=Jv.nd
  exact Dr (vC q0q) (vk 1 nd<|TV (w:=w) rfl rfl a2y)
   (Dr (vC q0q) (wE (is:=[]) (mb:=[]) (D1:=List (Tp Int)×SI w×Tp Int×Un×Unit) (D2:=List (Tp Int)×SI w×Tp Int×Un×Unit) (vC q0q) zc rfl (wh (ss 0)) (vq 2 (vd nd))
    (Dr (vC q0q) (wn (ve (BI G1 hr rfl F1.at_ F1.fn.kp F1.bd AY (uW (ss 2) uU))))
     (uS (wE (is:=[]) (mb:=[]) (D1:=List (Tp Int)×SI w×Tp Int×Int×Unit) (D2:=List (Tp Int)×SI w×Tp Int×Int×Unit) (vC q0q) zc rfl (Qg (ss 2)) (vq 3 (vd nd))
      (uS (vF (tw_inS 1 (w:=w) rfl (ss 3) (pv 1) (by with_unfolding_all rfl))
       (uS<|TY 1 (w:=w) rfl (ss 3)<|λh=>AE<|PF PySem.F.slot_set_discard PySem.F.type_set_discard PD (pv 1) h)
       (uS (TX 1 (w:=w) rfl (ss 3) (λh=>AE (PF PySem.F.slot_set_add PySem.F.type_set_add Tt (pv 1) h)))))) q0q q0q))) q0q q0q)
    (uS (vf (KC 1 (w:=w) rfl rfl rfl Ux (pv 1)))))
 case nice =>
  intro p Kn Ke h
  walk_at "wl"
  obtain⟨U,hU,hr,hk⟩:=h;refine vP (λ(r:List (Tp Int)) (b:List (Tp Int)×SI w×Un×Un×Unit)=>yf b.2.1.l/\(∀x∈b.2.1.l,x∈U)/\(r.map (·.l)).foldl xr b.2.1.l=Oz (p.1.map (·.l))) p.1 #[iw,(λ_ h=>by cases h),rfl] ?_ ?_
  ·rintro x r b ⟨pre,e⟩ ⟨h1,h2,h3⟩ K hK;have hx:=hr x (by rw[e];simp);refine#[λ_=>?_,λz=>g8 ((AK _).mpr hx.1)<|by rw[z];simp];refine vP (λ(q:List Int) (c:List (Tp Int)×SI w×Tp Int×Un×Unit)=>yf c.2.1.l/\(∀y∈c.2.1.l,y∈U)/\q.foldl KD c.2.1.l=xr b.2.1.l x.l) x.l #[h1,h2,rfl] ?_ ?_
   ·rintro y q c ⟨a32,e2⟩ ⟨g1,g2,g3⟩ K2 hK2;have hy:y∈x.l:=by rw[e2];simp
    have g3':q.foldl KD (KD c.2.1.l y)=xr b.2.1.l x.l:=g3;by_cases hc:y∈c.2.1.l
    ·rw[gI<|decide_eq_true hc];refine hK2 _ ⟨jM _ g1,λz hz=>g2 z (Ak.mp hz).1,?_⟩;rw[<- g3'];unfold KD;rw[gI hc]
    ·rw[gl<|by simpa using hc];refine⟨by have:=wC g1 g2;lia,hK2 _ ⟨Du g1,λz hz=>?_,?_⟩⟩
     ·rcases BN.mp hz with e3|e3
      ·rw[e3];exact hx.2 y hy
      ·exact g2 z e3
     ·rw[<- g3'];rw[show KD c.2.1.l y=Ft y c.2.1.l from gl hc]
   ·rintro c ⟨g1,g2,g3⟩;refine hK _ #[g1,g2,?_];rw[<- h3];show (r.map (·.l)).foldl xr c.2.1.l=(r.map (·.l)).foldl xr (xr b.2.1.l x.l);rw[<- g3];rfl
  ·rintro b ⟨h1,h2,h3⟩;refine#[by have:=wC h1 h2;lia,?_];have h3':b.2.1.l=Oz (p.1.map (·.l)):=h3;rw[h3'];exact hk
end
open PySem L2 WL
abbrev B0:=Bd C true
noncomputable def xg(x:B0)(row:List Int):Bool:=row.all λc=>(lk x.rk c).isSome
noncomputable def xF(x:B0)(c:Int):List Int:=(lk x.bd c).getD []
noncomputable def X6(x:B0)(c:Int):List Int:=(x.rk.map (·.1)).filter λh=>decide<|c∈xF x h
noncomputable def Uy(x:B0)(row:List Int)(r:Int):Bool:=row.all λc=>decide<|lk x.rk c=↑r
structure QQ(x:B0):Prop where
 kb:∀k,(lk x.rk k).isSome=true->(lk x.bd k).isSome=true
 bo:∀k b,lk x.bd k=↑b->yf b/\∀c∈b,0<=c/\c<63
 ri:(x.rk.map (·.1)).Pairwise (·<=·)
 lr:x.rk.length<64
 lb:x.bd.length<64
def BY :B0×Int×Unit->(Unit->B0×Un×Unit->Prop)->(ci->B0×Un×Unit->Prop)->Prop:=λp a b =>
 if (61).isSome=true then a () 65 else b XC 65
def Aq :B0×List Int×Unit->(Unit->B0×Un×Unit->Prop)->(ci->B0×Un×Unit->Prop)->Prop:=λp Kn Ke =>
 if asc p.2.1=true then (if xg p.1 p.2.1=true then Kn () 65 else Ke XC 65) else Ke XS 65
def xG :B0×List Int×Int×Unit->(Unit->B0×Un×Un×Unit->Prop)->(ci->B0×Un×Un×Unit->Prop)->Prop:=λp Kn Ke =>
 xg p.1 p.2.1=true/\if Uy p.1 p.2.1 p.2.2.1=true then Kn () 67 else Ke XO 67
def x8 :B0×List Int×Unit->(OL Int->B0×Un×Unit->Prop)->(ci->B0×Un×Unit->Prop)->Prop:=λp Kn Ke =>
 QQ p.1/\if asc p.2.1=true then (if xg p.1 p.2.1=true then Kn #[Oz<|p.2.1.map<|xF p.1] 65 else Ke XC 65) else Ke XS 65
def DC:Wf (B0×Unit) (OL Int) (B0×Unit):=λp a _=>QQ p.1/\a #[p.1.rk.map (·.1)] (p.1,())
def Hk :B0×Int×Unit->(OL Int->B0×Un×Unit->Prop)->(ci->B0×Un×Unit->Prop)->Prop:=λp a b =>
 QQ p.1/\if (61).isSome=true then a #[X6 p.1 p.2.1] 65 else b XC 65
def Jw :B0×Int×List Int×Unit->(Int->B0×Un×Un×Unit->Prop)->(ci->B0×Un×Un×Unit->Prop)->Prop:=λp b a =>
 QQ p.1/\lk p.1.bd p.1.up=none/\if p.2.1<0\/12<p.2.1 then a XB 67 else if asc p.2.2.1=true then (if xg p.1 p.2.2.1=true then (if Uy p.1 p.2.2.1 (p.2.1-1)=true then
  (if Oz (p.2.2.1.map (xF p.1))=[] then b p.1.up ({ p.1 with rk:=pk p.1.rk p.1.up p.2.1,bd:=pk p.1.bd p.1.up p.2.2.1,up:=p.1.up+1},#[],#[],()) else a XP 67) else a XO 67) else a XC 67) else a XS 67
def Hl :B0×Int×Unit->(Unit->B0×Un×Unit->Prop)->(ci->B0×Un×Unit->Prop)->Prop:=λp b a =>
 QQ p.1/\if (61).isSome=true then (if X6 p.1 p.2.1=[] then b () ({ p.1 with rk:=dk p.1.rk p.2.1,bd:=dk p.1.bd p.2.1},#[],()) else a XV 65) else a XC 65
def Uz(x:B0)(c:Int):Int:=(lk x.rk c).getD 0
def BZ:Wf (B0×Int×Unit) Bool (B0×Un×Unit):=λp a _=>a (61).isSome 65
def B2:Wf (B0×Unit) Int (B0×Unit):=λp a _=>a p.1.up (p.1,())
def B3 :B0×Int×Unit->(Int->B0×Un×Unit->Prop)->(ci->B0×Un×Unit->Prop)->Prop:=λp a b =>
 if (61).isSome=true then a (Uz p.1 p.2.1) 65 else b XC 65
def As :B0×Int×Unit->(OL Int->B0×Un×Unit->Prop)->(ci->B0×Un×Unit->Prop)->Prop:=λp Kn Ke =>
 QQ p.1/\if (61).isSome=true then Kn #[xF p.1 p.2.1] 65 else Ke XC 65
def AN{n k:Int}(h0:0<=k)(h1:k<n):k∈yW 0 n:=by exact List.mem_map.mpr #[k.toNat,List.mem_range.mpr q0a,q0a]
def zD{k:Int}:∀{l:List (Int×c)},(lk l k).isSome=true->k∈l.map (·.1):=by
 intro b
 induction b with
 |nil=>intro h;cases h
 |cons e l a =>
  intro h;by_cases q:e.1=k
  ·rw[<- q];simp
  ·have:lk (e::l) k=lk l k:=by unfold lk;rw[iM,ig q]
   rw[this]at h;exact gS _<|a h
def xH{k:Int}:∀{l:List (Int×a)},k∈l.map (·.1)->(lk l k).isSome=true
 | [],h=>by cases h
 |e::l,h=>by
  by_cases q:e.1=k
  ·unfold lk;rw[iM,decide_eq_true q];rfl
  ·have:lk (e::l) k=lk l k:=by unfold lk;rw[iM,ig q]
   rw[this];rcases List.mem_cons.mp h with z|z
   ·exact g8 z.symm q
   ·exact xH z
def EE{x:B0}{c:Int}{r:List Int}:xg x (c::r)=((lk x.rk c).isSome&&xg x r):=by unfold xg;rw[pX]
def QR{x:B0}{c k:Int}{r:List Int}:Uy x (c::r) k=(decide (lk x.rk c=↑k)&&Uy x r k):=by unfold Uy;rw[pX]
def NY{x:B0}{row:List Int}(ok:QQ x)(ha:asc row=true)(h:xg x row=true):row.length<=gL:=by have:=wC (U:=x.rk.map (·.1)) ((AK row).mp ha) λc hc=>zD<|List.all_eq_true.mp h c hc;rw[gM]at this;have:=ok.lr;exact vT q0a
def B4{n:Nat}(h:n<1000):n<gL:=by have z:gL=16777216:=i8;lia
def Gd{x:B0}(ok:QQ x){c:Int}(h:(lk x.rk c).isSome=true):lk x.bd c=↑(xF x c):=by obtain⟨v,hv⟩:=Option.isSome_iff_exists.mp<|ok.kb c h;unfold xF;rw[hv];rfl
def a0m{x:B0}{c:Int}(h:(lk x.rk c).isSome=true):lk x.rk c=↑(Uz x c):=by obtain⟨v,e⟩:=Option.isSome_iff_exists.mp h;unfold Uz;rw[e];rfl
def vU{K:List c->S->Prop}(d:∀x∈xs,∀K:Option c->S->Prop,(if q x=true then K ↑x s else K none s)->b x s K)(h:K (xs.filter q) s):BL b xs s K:=by
 refine vW (f:=λx=>if q x=true then some x else none) (λx e K a=>d x e K ?_) (by rw[filterMap_filter];exact h);by_cases z:q x=true
 ·rw[gI z]at a ⊢;exact a
 ·rw[gl z]at a ⊢;exact a
section
variable{q:Cq}{XL:ci}
noncomputable abbrev zF:ic:=Bk (top 21) 15
noncomputable abbrev zH:List Str:=["self","cell"]
def Fw:uZ ["self","cell"] zH (uQ zF):=by walk_at "sc"
abbrev wD(q:Cq)(k:Nat):=zN q C "must_stand" zH (BY) k
def Fx(F:yX q.K "must_stand" "Body.must_stand" zF f d)(c:A1 q.K C)(a:Xc q.K q.mg "NoCell" XC):Gq q 2 f d zH (BY):=by
 refine' vc (Ea (vC q0q) (D':=(Bd C true)×Int×Unit) (ms:=[0]) (j:=0) F Fw rfl rfl λe A b s H E g =>
   (uS (vF (tw_dIn .rk true 0 trivial c.cl c.nR (Df g) (ss 1) (pv 0))
   (uS<|BQ rfl a)
   vv))) λp i k h=>?_
 walk_at "wl"
 have h:if (61).isSome=true then i () 65 else k XC 65:=h
 cases q:(61).isSome with
 |true=>rw[q]at h;simpa using h
 |false=>rw[q]at h;simpa using h
noncomputable abbrev Au:ic:=Bk (top 21) 16
noncomputable abbrev Av:List Str:=["self","row"]
def B5:uZ ["self","row","cell"] Av (uQ Au):=by walk_at "sc"
abbrev CY(q:Cq)(k:Nat):=zN q C "must_hold" Av (Aq) k
def Hm{f:ci}{fd:iE}(F:yX q.K "must_hold" "Body.must_hold" Au f fd)(ct:A1 q.K C)(Fy:xi q "must_be_sum" ["row"] (MH XS) 2)(xn:wD q 2):Gq q 3 f fd Av (Aq):=by
 refine' vc (Ea (vC q0q) (D':=(Bd C true)×(List Int)×Un×Unit) (ms:=[0]) (j:=1) F B5 rfl rfl λPg A outer s H E hr =>
   (vg (wn (ve (vo Fy 88)))
   (uS (wE (is:=[]) (mb:=[0]) (D1:=(Bd C true)×(List Int)×Int×Unit) (D2:=(Bd C true)×(List Int)×Int×Unit) (vC q0q) zc rfl (wh (ss 1)) (vq 2 (vd B5.nd))
   (uS (wn (ve (wz 0 xn (uW (ss 2) uU))))) q0q q0q)))) λp Kn Ke h=>?_
 walk_at "wl"
 have h:if asc p.2.1=true then (if xg p.1 p.2.1=true then Kn () 65 else Ke XC 65) else Ke XS 65:=h;refine#[λha=>?_,λha=>?_]
 ·have ha:asc p.2.1=true:=ha;rw[gI ha]at h;refine vP (λ(r:List Int)(b:B0×List Int×WL.Un×Unit)=>b.1=p.1/\if xg p.1 r=true then Kn () 65 else Ke XC 65) p.2.1 #[rfl,h] ?_ ?_
  ·rintro c r b _ ⟨e,hb⟩ K2 hK;rw[EE]at hb;show if (lk b.1.rk c).isSome=true then K2 _ else Ke XC (b.1,#[],());rw[e]
   cases q:(lk p.1.rk c).isSome with
   |false=>rw[q]at hb;simpa using hb
   |true =>
    rw[q,Bool.true_and]at hb;rw[gI rfl];exact hK _ #[rfl,hb]
  ·rintro b ⟨e,hb⟩;rw[e];exact hb
 ·have ha:asc p.2.1=false:=ha;rw[gl<|by rw[ha];simp]at h;exact h
noncomputable abbrev xI:ic:=Bk (top 21) 17
noncomputable abbrev xJ:List Str:=["self","row","rank"]
def yL:uZ ["self","row","rank","cell"] xJ (uQ xI):=by walk_at "sc"
abbrev CC(q:Cq)(k:Nat):=zN q C "must_have_rank" xJ (xG) k
def B6{f:ci}{fd:iE}(F:yX q.K "must_have_rank" "Body.must_have_rank" xI f fd)(ct:A1 q.K C)(Jx:Xc q.K q.mg "OtherRank" XO):Gq q 2 f fd xJ (xG):=by
 refine' vc (Ea (vC q0q) (D':=(Bd C true)×(List Int)×Int×Un×Unit) (ms:=[0]) (j:=1) F yL rfl rfl λPg A outer s H E hr =>
   (uS (wE (is:=[]) (mb:=[0]) (D1:=(Bd C true)×(List Int)×Int×Int×Unit) (D2:=(Bd C true)×(List Int)×Int×Int×Unit) (vC q0q) zc rfl (wh (ss 1)) (vq 3 (vd yL.nd))
   (uS (vF (tw_cm AZ (G0 .rk 0 trivial ct.cl ct.nR (Df hr) (pv 0) (ww 3 (pv 3))) (ss 2))
   (uS<|BQ rfl Jx)
   vv)) q0q q0q))) λp Kn Ke h=>?_
 walk_at "wl"
 refine vP (λ(r:List Int)(b:B0×List Int×Int×WL.Un×Unit)=>b.1=p.1/\b.2.2.1=p.2.2.1/\xg p.1 r=true/\if Uy p.1 r p.2.2.1=true then Kn () 67 else Ke XO 67) p.2.1 #[rfl,rfl,h.1,h.2] ?_ ?_
 ·rintro c r b _ ⟨e1,e2,hi,hb⟩ K2 hK;rw[EE,iq]at hi;rw[QR]at hb;obtain⟨v,hv⟩:=Option.isSome_iff_exists.mp hi.1;refine#[v,by rw[e1];exact hv,?_];rw[hv]at hb;rw[e2];by_cases q:v=p.2.2.1
  ·rw[gl<|by simp[q]];refine hK _ #[e1,rfl,hi.2,?_];rw[q]at hb;simpa using hb
  ·rw[gI (by simp[q]),e1];rw[gl<|by simp[q]]at hb;exact hb
 ·rintro b ⟨e1,_,_,hb⟩;rw[e1];exact hb
noncomputable abbrev Aw:ic:=Bk (top 21) 9
abbrev wA:List Str:=["self","row"]
def Hn:uZ ["self","row"] wA (uQ Aw):=by walk_at "sc"
def Fz:(["cell","self"]:List Str).Nodup:=by decide +kernel
abbrev Jy(q:Cq)(k:Nat):=zN q C "border_of" wA (x8) k
def Ho{f:ci}{fd:iE}(F:yX q.K "border_of" "Body.border_of" Aw f fd)(ct:A1 q.K C)(UA:xi q "total" ["rows"] MJ 3)(Jz:CY q 3):Gq q 4 f fd wA (x8):=by
 refine' vc (wy (D':=Unit) (ms:=[0]) (j:=0) F Hn rfl rfl λPg A outer s H E hr =>
   (vg (wn (ve (wz 0 Jz 88)))
   (uS (vf (vo UA (uW (vD (wB (Ts:=["cell"]) (Fr:=["self"]) (idx:=[0]) (k:=1) (mb:=[1]) (is:=[]) (cl:=[("self",⇑s+1)]) rfl (wh (ss 1)) Wb rfl (wv rfl) (λs₀ H₀ C ex pn=>(vq 0 (vd Fz))) (λs₀ H₀ C ex pn=>tws_nil) (λs₀ H₀ C ex pn=>(AM 1 ct.cl ct.nB (Df hr) (pv 1) (ww 0 (pv 0)))))) uU)))))) λp Kn Ke h=>?_
 walk_at "wl"
 obtain⟨ok,h⟩:=h;show if asc p.2.1=true then (if xg p.1 p.2.1=true then _ else Ke XC 65) else Ke XS 65;by_cases ha:asc p.2.1=true
 ·rw[gI ha]at h ⊢;by_cases hb:xg p.1 p.2.1=true
  ·rw[gI hb]at h ⊢
   have lkb:∀c∈p.2.1,lk p.1.bd c=↑(xF p.1 c):=λc hc=>by obtain⟨v,hv⟩:=Option.isSome_iff_exists.mp<|ok.kb c<|List.all_eq_true.mp hb c hc;unfold xF;rw[hv];rfl
   refine#[NY ok ha hb,vW (f:=λc=>some<|Tp.mk<|xF p.1 c) (λc hc K hk=>#[xF p.1 c,lkb c hc,hk]) ?_];refine#[yW 0 63,by rw[wK];decide,λr hr=>?_,?_]
   ·obtain⟨c,hc,e⟩:=List.mem_filterMap.mp hr;cases e;obtain⟨g1,g2⟩:=ok.bo c _<|lkb c hc;exact⟨g1,λx hx=>AN (g2 x hx).1 (g2 x hx).2⟩
   ·have e:((p.2.1.filterMap λc=>some<|Tp.mk<|xF p.1 c).map (·.l))=p.2.1.map (xF p.1):=by rw[show (λc=>some<|Tp.mk<|xF p.1 c)=some∘(λc=>Tp.mk<|xF p.1 c) from rfl,List.filterMap_eq_map,kT];rfl
    rw[e];exact h
  ·rw[gl hb]at h ⊢;exact h
 ·rw[gl ha]at h ⊢;exact h
noncomputable abbrev Hq:ic:=Bk (top 21) 4
noncomputable abbrev yM:List Str:=["self"]
def QS:uZ ["self"] yM (uQ Hq):=by walk_at "sc"
abbrev ML(q:Cq)(k:Nat):=zN q C "cells" yM (DC) k
def QT(F:yX q.K "cells" "Body.cells" Hq f d)(b:A1 q.K C)(B:Bn q.mg):Gq q 2 f d yM (DC):=by
 refine' vc (wy (D':=Unit) (ms:=[0]) (j:=0) F QS rfl rfl λe A a s H E g =>
   (uS (vf (Er .rk 0 trivial b.cl b.nR rfl rfl B.sorted (pv 0))))) λp i k h=>?_
 walk_at "wl"
 obtain⟨c,h⟩:=h;exact#[c.lr,by rw[<- Ec (oJ _) c.ri];exact h]
noncomputable abbrev K4:ic:=Bk (top 21) 8
abbrev Ax:List Str:=["self","cell"]
def UB:uZ ["self","cell"] Ax (uQ K4):=by walk_at "sc"
def QU:(["high","cell","self"]:List Str).Nodup:=by decide +kernel
abbrev X7(q:Cq)(k:Nat):=zN q C "over" Ax (Hk) k
def UC(F:yX q.K "over" "Body.over" K4 f u)(m:A1 q.K C)(a:wD q 3)(b:ML q 3):Gq q 4 f u Ax (Hk):=by
 refine' vc (wy (D':=Unit) (ms:=[0]) (j:=0) F UB rfl rfl λw A i s H E x =>
   (vg (wn (ve (wz 0 a 88)))
   (uS (vf (wB (Ts:=["high"]) (Fr:=["cell","self"]) (idx:=[1,0]) (k:=1) (mb:=[1,2]) (is:=[]) (cl:=[("self",⇑s+1),("cell",⇑s+1+1)]) rfl (wh (vD (Je 0 b))) YN rfl (wv rfl) (λc d C n o=>(vq 0 (vd QU))) (λc d C n o=>(tws_one (tw_inT (ss 1) (AM 2 m.cl m.nB (Df x) (pv 2) (ww 0 (pv 0))) (by with_unfolding_all rfl)))) (λc d C n o=>(ss 0))))))) λp B y h=>?_
 walk_at "wl"
 obtain⟨l,h⟩:=h;show if (61).isSome=true then _ else y XC 65;by_cases r:(61).isSome=true
 ·rw[gI r]at h ⊢;refine#[l,?_,?_]
  ·show (p.1.rk.map (·.1)).length<=gL;rw[gM];have:=l.lr;exact vT q0a
  ·refine vW (f:=λk=>if decide (p.2.1∈xF p.1 k)=true then some k else none) (λk z K g=>?_) ?_
   ·obtain⟨v,t⟩:=Option.isSome_iff_exists.mp<|l.kb k<|xH z;have e:xF p.1 k=v:=by unfold xF;rw[t];rfl
    refine#[v,t,?_];rw[e]at g;show if decide (p.2.1∈v)=true then _ else _;by_cases q:decide (p.2.1∈v)=true
    ·rw[gI q]at g ⊢;exact g
    ·rw[gl q]at g ⊢;exact g
   ·rw[filterMap_filter];exact h
 ·rw[gl r]at h ⊢;exact h
noncomputable abbrev QV:ic:=Bk (top 21) 1
noncomputable abbrev CZ:List Str:=["self","rank","border"]
def QW:uZ ["self","rank","border","cell"] CZ (uQ QV):=by walk_at "sc"
abbrev a0n(q:Cq)(k:Nat):=zN q C "put" CZ (Jw) k
def X8(F:yX q.K "put" "Body.put" QV f R)(o:A1 q.K C)(e:CY q 5)(b:CC q 5)(g:Jy q 5)(k:Xc q.K q.mg "BadRank" XB)(t:Xc q.K q.mg "Full" XF0)(c:Xc q.K q.mg "OpenBorder" XP)(d:q.mg "MOST_CELLS"=↑(.int 120 r))(i:q.mg "TOP_RANK"=↑(.int 12 u))(B:Bn q.mg):Gq q 6 f R CZ (Jw):=by
 refine' vc (wy (D':=Unit) (ms:=[0]) (j:=1) F QW rfl rfl λS A I s H E O =>
   (vg (vF (tw_w (CU (tw_cm Mn (ss 1) uV) (Bi (tw_cm V1 (ss 1) (Qn rfl i)))))
   (uS<|BQ rfl k)
   vv)
   (vg (wn (ve (wz 0 e (uW (ss 2) uU))))
   (vg (wn (ve (wz 0 b (uW (ss 2) (uW (BE JW (ss 1) uV) uU)))))
   (vg (vF (tw_trueO (wz 0 g (uW (ss 2) uU)))
   (uS<|BQ rfl c)
   vv)
   (vg (vF (tw_cm ZC (T2 .rk 0 trivial o.cl o.nR rfl B.len (pv 0)) (Qn rfl d))
   (uS<|BQ rfl t)
   vv)
   (vg (vk 3 QW.nd (vj (V7 0 o.cl o.nU (pv 0))))
   (vg (G4 .rk 0 trivial o.cl o.nR (Df O) (pv 0) (ww 3 (pv 3)) (ss 1))
   (vg (T4 0 o.cl o.nB (Df O) (pv 0) (ww 3 (pv 3)) (T6 rfl B.tuple (vM (ss 2))))
   (vg (ZX 0 o.cl o.nU (pv 0) (BE A9 (ss 3) uV))
   (uS (vf (vj (ss 3)))))))))))))) λp P m h=>?_
 walk_at "wl"
 obtain⟨J,L,h⟩:=h
 have M:(if asc p.2.2.1=true then (if xg p.1 p.2.2.1=true then (if Uy p.1 p.2.2.1 (p.2.1-1)=true then
  (if Oz (p.2.2.1.map (xF p.1))=[] then P p.1.up ({ p.1 with rk:=pk p.1.rk p.1.up p.2.1,bd:=pk p.1.bd p.1.up p.2.2.1,up:=p.1.up+1},#[],#[],()) else m XP 67) else m XO 67) else m XC 67) else m XS 67) ->
  Aq (p.1,p.2.2.1,()) (λy v=>xG (v.1,p.2.2.1,p.2.1-1,()) (λy w=>x8 (w.1,p.2.2.1,()) (λy a =>
   if (!y.l.isEmpty)=true then m XP (a.1,#[],#[],()) else if decide (120<=(a.1.rk.length:Int))=true then m XF0 (a.1,#[],#[],()) else a.1.rk.length<gL/\a.1.bd.length<gL/\lk a.1.bd a.1.up=none /\
    P a.1.up ({ a.1 with rk:=pk a.1.rk a.1.up p.2.1,bd:=pk a.1.bd a.1.up p.2.2.1,up:=a.1.up+1},#[],#[],()))
   λn v=>m n (v.1,#[],#[],())) λn v=>m n (v.1,#[],#[],())) λn v=>m n (v.1,#[],#[],()):=by
  intro h;show if asc p.2.2.1=true then (if xg p.1 p.2.2.1=true then _ else m XC 67) else m XS 67;by_cases N:asc p.2.2.1=true
  ·rw[gI N]at h ⊢;by_cases x:xg p.1 p.2.2.1=true
   ·rw[gI x]at h ⊢;refine#[x,?_];by_cases Q:Uy p.1 p.2.2.1 (p.2.1-1)=true
    ·rw[gI Q]at h ⊢;refine#[J,?_];rw[gI N,gI x];by_cases hd:Oz (p.2.2.1.map<|xF p.1)=[]
     ·rw[gI hd]at h;have T:=J.lr;have U:=J.lb;have z:gL=16777216:=i8;rw[hd,gl q0o,gl<|by simp;lia];exact#[(by show p.1.rk.length<gL;lia),(by show p.1.bd.length<gL;lia),L,h]
     ·rw[gl hd]at h;rw[gI<|by simpa using hd];exact h
    ·rw[gl Q]at h ⊢;exact h
   ·rw[gl x]at h ⊢;exact h
  ·rw[gl N]at h ⊢;exact h
 by_cases D:p.2.1<0
 ·rw[gI<|decide_eq_true D,gI rfl];rw[gI<|.inl D]at h;exact h
 ·rw[gl<|by simpa using D];by_cases G:12<p.2.1
  ·rw[gI<|decide_eq_true G];rw[gI<|.inr G]at h;exact h
  ·rw[gl<|by simpa using G];rw[gl (by intro z;rcases z with z|z;exact D z;exact G z)]at h;exact M h
noncomputable abbrev K5:ic:=Bk (top 21) 2
abbrev Ay:List Str:=["self","cell"]
def UD:uZ ["self","cell"] Ay (uQ K5):=by walk_at "sc"
def UE(F:yX q.K "take" "Body.take" K5 f m)(d:A1 q.K C)(c:X7 q 5)(b:Xc q.K q.mg "Covered" XV):Gq q 6 f m Ay (Hl):=by
 refine' vc (Ea (vC q0q) (D':=(Bd C true)×Int×Unit) (ms:=[0]) (j:=0) F UD rfl rfl λn A g s H E o =>
   (vg (vF (tw_trueO (wz 0 c 88))
   (uS<|BQ rfl b)
   vv)
   (vg (Mu .rk 0 trivial d.cl d.nR (pv 0) (ww 1 (pv 1)) (λi k=>Gw i k))
   (uS (T5 0 d.cl d.nB (pv 0) (ww 1 (pv 1)) (λi k=>Gw i k)))))) λp t u h=>?_
 walk_at "wl"
 obtain⟨l,h⟩:=h;refine#[l,?_];by_cases e:(61).isSome=true
 ·rw[gI e]at h ⊢
  cases q:X6 p.1 p.2.1 with
  |nil =>
   rw[q,gI rfl]at h;exact#[e,l.kb _ e,h]
  |cons a r =>
   rw[q,gl q0o]at h;exact h
 ·rw[gl e]at h ⊢;exact h
abbrev EF:ic:=Bk (top 21) 3
abbrev x9:List Str:=["self","cell"]
def NZ:uZ ["self","cell"] x9 (uQ EF):=by walk_at "sc"
abbrev QX(q:Cq)(k:Nat):=zN q C "stands" x9 (BZ) k
def N0(F:yX q.K "stands" "Body.stands" EF f c)(b:A1 q.K C):Gq q 2 f c x9 (BZ):=by
 refine' vc (wy (D':=Unit) (ms:=[0]) (j:=0) F NZ rfl rfl λd A a s H E e =>
   (uS (vf (vj (KG .rk false 0 trivial b.cl b.nR (Df e) (ss 1) (pv 0)))))) λp g i h=>?_
 walk_at "wl"
 exact h
abbrev EG:ic:=Bk (top 21) 5
abbrev yb:List Str:=["self"]
def N3:uZ ["self"] yb (uQ EG):=by walk_at "sc"
abbrev QY(q:Cq)(k:Nat):=zN q C "coming" yb (B2) k
def N4(F:yX q.K "coming" "Body.coming" EG f c)(b:A1 q.K C):Gq q 2 f c yb (B2):=by
 refine' vc (wy (D':=Unit) (ms:=[0]) (j:=0) F N3 rfl rfl λd A a s H E e =>
   (uS (vf (vj (V7 0 b.cl b.nU (pv 0)))))) λp g i h=>?_
 walk_at "wl"
 exact h
abbrev Hr:ic:=Bk (top 21) 6
abbrev yN:List Str:=["self","cell"]
def QZ:uZ ["self","cell"] yN (uQ Hr):=by walk_at "sc"
abbrev UF(q:Cq)(k:Nat):=zN q C "rank" yN (B3) k
def Q0(F:yX q.K "rank" "Body.rank" Hr f e)(c:A1 q.K C)(a:wD q 2):Gq q 3 f e yN (B3):=by
 refine' vc (wy (D':=Unit) (ms:=[0]) (j:=0) F QZ rfl rfl λg A b s H E i =>
   (vg (wn (ve (wz 0 a 88)))
   (uS (vf (vj (G0 .rk 0 trivial c.cl c.nR (Df i) (pv 0) (ww 1 (pv 1)))))))) λp k d h=>?_
 walk_at "wl"
 have h:if (61).isSome=true then k (Uz p.1 p.2.1) 65 else d XC 65:=h;show if (61).isSome=true then _ else d XC 65;by_cases q:(61).isSome=true
 ·rw[gI q]at h ⊢;exact#[_,a0m q,h]
 ·rw[gl q]at h ⊢;exact h
noncomputable abbrev EH:ic:=Bk (top 21) 7
abbrev yc:List Str:=["self","cell"]
def N5:uZ ["self","cell"] yc (uQ EH):=by walk_at "sc"
abbrev Q1(q:Cq)(k:Nat):=zN q C "border" yc (As) k
def N6{f:ci}{fd:iE}(F:yX q.K "border" "Body.border" EH f fd)(ct:A1 q.K C)(xn:wD q 2)(B:Bn q.mg):Gq q 3 f fd yc (As):=by
 refine' vc (wy (D':=Unit) (ms:=[0]) (j:=0) F N5 rfl rfl λPg A outer s H E hr =>
   (vg (wn (ve (wz 0 xn 88)))
   (uS (vf (Qm rfl B.list (AM 0 ct.cl ct.nB (Df hr) (pv 0) (ww 1 (pv 1)))))))) λp Kn Ke h=>?_
 walk_at "wl"
 obtain⟨ok,h⟩:=h;show if (61).isSome=true then _ else Ke XC 65;by_cases q:(61).isSome=true
 ·rw[gI q]at h ⊢;exact#[_,Gd ok q,h]
 ·rw[gl q]at h ⊢;exact h
end
noncomputable def wG(x:B0)(c:Int):Bool:=(lk x.ht c).isSome||(lk x.th c).isSome
noncomputable def A4(x:B0)(low high:Int):List Int:=(xF x high).filter λf=>decide (f≠low)&&(lk x.ht f).isSome
noncomputable def wF(x:B0)(t:Int):Int:=(lk x.ht t).getD 0
noncomputable def wT(x:B0):List Int:=x.ht.map (·.1)
def N7(x:B0):Prop:=∃r:Int->Nat,∀l∈wT x,∀t∈A4 x l (wF x l),r l<r t
structure DD(x:B0):Prop where
 ok:QQ x
 nd:(wT x).Nodup
 len:x.ht.length<64
 a0o:x.th.length<64
 ht:∀l h,lk x.ht l=↑h->(lk x.rk l).isSome=true/\(lk x.rk h).isSome=true/\l∈xF x h/\lk x.th h=↑l
 th:∀l h,lk x.th h=↑l->lk x.ht l=↑h
 one:∀c,(lk x.ht c).isSome=true->(lk x.th c).isSome=true->False
 acy:N7 x
noncomputable def yS(x:B0)(low high:Int):B0:={ x with ht:=pk x.ht low high,th:=pk x.th high low}
def Ge:Wf (B0×Int×Unit) Bool (B0×Un×Unit):=λp a _=>a (wG p.1 p.2.1) 65
def Ht:Wf (B0×Int×Int×Unit) (OL Int) (B0×Un×Un×Unit):=λp a _ =>
 (lk p.1.bd p.2.2.1).isSome=true/\(xF p.1 p.2.2.1).length<=gL/\a #[A4 p.1 p.2.1 p.2.2.1] 67
def MM:Wf (B0×Unit) (OL Int) (B0×Unit):=λp a _=>p.1.ht.length<64/\(wT p.1).Nodup/\a #[Fd<|wT p.1] (p.1,())
def JA:Wf (B0×Unit) (OL<|Int×Int) (B0×Unit):=λp a _=>p.1.ht.length<64/\(wT p.1).Nodup/\a #[(Fd<|wT p.1).map λl=>(l,wF p.1 l)] (p.1,())
def YQ :B0×Int×Unit->(Option Int->B0×Un×Unit->Prop)->(ci->B0×Un×Unit->Prop)->Prop:=λp a b =>
 if (61).isSome=true then a (lk p.1.ht p.2.1) 65 else b XC 65
def DE :B0×Int×Unit->(Int->B0×Un×Unit->Prop)->(ci->B0×Un×Unit->Prop)->Prop:=λp b a =>
 DD p.1/\if (61).isSome=true then (if (lk p.1.ht p.2.1).isSome=true then b (wF p.1 p.2.1) ({ p.1 with ht:=dk p.1.ht p.2.1,th:=dk p.1.th (wF p.1 p.2.1)},#[],()) else a XN 65) else a XC 65
def zi:Wf (Dc (Option Int)×Int×Unit) (OL Int) (Dc (Option Int)×Un×Unit):=λp a _ =>
 (∃m:Int->Nat,(∀k,m k<1000)/\(lk p.1.l p.2.1).isSome=true/\∀k e,lk p.1.l k=↑(some e)->(lk p.1.l e).isSome=true/\m e<m k)/\∀r:List Int,r≠[]->a #[r] 65
def C0:Wf (B0×Int×Int×Unit) (OL Int) (B0×Un×Un×Unit):=λp a _ =>
 DD p.1/\(lk p.1.rk p.2.2.1).isSome=true/\wG p.1 p.2.1=false/\wG p.1 p.2.2.1=false/\∀r:List Int,(r=[]↔N7 (yS p.1 p.2.1 p.2.2.1))->a #[r] 67
def Q2 :B0×Int×Int×Unit->(Unit->B0×Un×Un×Unit->Prop)->(ci->B0×Un×Un×Unit->Prop)->Prop:=λp e a =>
 DD p.1/\if (61).isSome=true then (if (lk p.1.rk p.2.2.1).isSome=true then (if p.2.1∈xF p.1 p.2.2.1 then (if wG p.1 p.2.1=true\/wG p.1 p.2.2.1=true then a XT 67
  else (¬N7 (yS p.1 p.2.1 p.2.2.1)->a XR 67)/\(N7 (yS p.1 p.2.1 p.2.2.1)->e () (yS p.1 p.2.1 p.2.2.1,#[],#[],()))) else a XF 67) else a XC 67) else a XC 67
structure Ord(x:B0)(o:List Int):Prop where
 pm:o.Perm (wT x)
 up:o.Pairwise λa b=>a∉A4 x b (wF x b)
def a1a:Wf (B0×Unit) (OL Int) (B0×Unit):=λp a _=>DD p.1/\∀o,Ord p.1 o->a #[o] (p.1,())
noncomputable def a34(x:B0)(s:List Int×List Int)(t:Int):List Int×List Int:=if t∈s.1 then (xr s.1<|xF x<|wF x t,s.2++[wF x t]) else s
def w6{j:Int}:lk (e::l) j=if e.1=j then some e.2 else lk l j:=by
 by_cases q:e.1=j
 ·rw[gI q];unfold lk;rw[iM,decide_eq_true q];rfl
 ·rw[gl q];unfold lk;rw[iM,ig q]
def K6{k j:Int}:∀{l:List (Int×c)},lk l k=none->lk (l++[(k,v)]) j=if j=k then some v else lk l j:=by
 intro b
 induction b with
 |nil =>
  intro _;rw[List.nil_append,w6];by_cases q:j=k
  ·rw[gI q,gI q.symm]
  ·rw[gl q,gl<|λz=>q z.symm]
 |cons e l a =>
  intro h;rw[w6]at h;by_cases z:e.1=k
  ·rw[gI z]at h;cases h
  ·rw[gl z]at h;rw[List.cons_append,w6,w6,a h];by_cases q:e.1=j
   ·rw[gI q,gI q,gl<|λw=>z<|q.trans w]
   ·rw[gl q,gl q]
def yT{k:Int}(h:lk l k=none):pk l k v=l++[(k,v)]:=by unfold pk;rw[h];rfl
def B7{k j:Int}:∀{l:List (Int×d)},lk (dk l k) j=if j=k then none else lk l j:=by
 intro c
 induction c with
 |nil=>unfold dk;rw[List.filter_nil];split<;>rfl
 |cons e l a =>
  have b:=a;unfold dk at b ⊢;rw[jo];by_cases z:e.1=k
  ·rw[gl (by simpa using z),b,w6];by_cases q:j=k
   ·rw[gI q,gI q]
   ·rw[gl q,gl q,gl<|λw=>q<|w.symm.trans z]
  ·rw[gI (by simpa using z),w6,w6,b];by_cases q:e.1=j
   ·rw[gI q,gI q,gl<|λw=>z<|q.trans w]
   ·rw[gl q,gl q]
def X9{k j:Int}:∀{l:List (Int×c)},lk (l.map λe=>if e.1=k then (e.1,v) else e) j=if j=k then (if (lk l k).isSome=true then some v else none) else lk l j:=by
 intro b
 induction b with
 |nil=>simp[lk]
 |cons e l a =>
  rw[ik,w6,a,w6,w6];by_cases z:e.1=k
  ·rw[gI z,gI z];by_cases q:j=k
   ·subst q;simp[z]
   ·have:¬e.1=j:=λw=>q<|w.symm.trans z;simp[q,this]
  ·rw[gl z,gl z];by_cases q:e.1=j
   ·have:¬j=k:=λw=>z<|q.trans w;simp[q,this]
   ·simp[q]
def xo{k j:Int}:lk (pk l k v) j=if j=k then some v else lk l j:=by
 unfold pk
 cases q:(lk l k).isSome with
 |true=>rw[gI rfl,X9,q];simp
 |false =>
  rw[gl q0o,K6<|by simpa using q]
def UG{a:Type}{l:List (Int×a)}{k:Int}(h:k∉l.map (·.1)):lk l k=none:=by
 cases e:lk l k with
 |none=>rfl
 |some v=>exact g8 (zD<|by rw[e];rfl) h
def yi{a:Type}{k:Int}{l:List (Int×a)}:(lk l k).isSome=true↔k∈l.map (·.1):=#[zD,xH]
def UH{c t:Int}:∀{l:List Int},t∈l->lk (l.map λk=>(k,c)) t=↑c
 |a::l,h=>by
  rw[ik,w6];by_cases q:a=t
  ·rw[gI q]
  ·rw[gl q];exact UH<|(List.mem_cons.mp h).elim (λz=>g8 z.symm q) id
def C3{b:Type}{p q:b->Bool}(h:∀t,q t=true->p t=true):∀{l:List b},(l.filter q).length<=(l.filter p).length
 | []=>gK _
 |a::l=>by
  have:=C3 h (l:=l);rw[jo,jo];by_cases z:q a=true
  ·rw[gI z,gI<|h a z];simpa using this
  ·rw[gl z];split<;>simp<;>lia
def filter_lt{b:Type}{p q:b->Bool}(h:∀t,q t=true->p t=true){x:b}(c:p x=true)(d:q x=false):∀{l:List b},x∈l->(l.filter q).length+1<=(l.filter p).length
 |a::l,m=>by
  rw[jo,jo];rcases List.mem_cons.mp m with z|z
  ·subst z;rw[d,c,gl q0o,gI rfl];have:=C3 h (l:=l);simp;lia
  ·have:=filter_lt h c d z;by_cases w:q a=true
   ·rw[gI w,gI<|h a w];simp;lia
   ·rw[gl w];split<;>simp<;>lia
def Q3{r:Int->Nat}{t:Int}:∀{l:List Int},t∈l->r t<=(l.map r).sum
 |a::l,h=>by
  rw[ik,List.sum_cons];rcases List.mem_cons.mp h with z|z
  ·rw[z];lia
  ·have:=Q3 (r:=r) z;lia
section
variable{x:B0}
def yU{l:Int}(h:l∈wT x):lk x.ht l=↑(wF x l):=by obtain⟨v,e⟩:=Option.isSome_iff_exists.mp<|xH h;unfold wF;rw[e];rfl
def xq{l h t:Int}:t∈A4 x l h↔t∈xF x h/\t≠l/\t∈wT x:=by unfold A4 wT;rw[jL,iq,ie,yi]
def DD.Sr(a:DD x){l:Int}(h:l∈wT x):(lk x.rk<|wF x l).isSome=true:=(a.ht l _<|yU h).2.1
def DD.bl(a:DD x){c:Int}(h:(lk x.rk c).isSome=true):(xF x c).length<=gL:=by
 have:=(a.ok.bo c _<|Gd a.ok h);have:=wC (U:=yW 0 63) this.1 λk b=>AN (this.2 k b).1 (this.2 k b).2;have e:(yW 0 63).length=63:=by decide
 exact vT q0a
def UI{low high:Int}{V:List Int}(v:DD x)(o:low∉wT x)(f:low∈V)(D:∀k∈V,k≠low->k∈wT x)
 (p:∀k∈V,(k≠low->low∉xF x (wF x k))/\∀t∈A4 x k (if k=low then high else wF x k),t∈V):N7 93:=by
  obtain⟨r,u⟩:=v.acy
  have c:∀{t:Int},t∈wT 93↔t=low\/t∈wT x:=λ{t}=>by
    show t∈(pk x.ht low high).map (·.1)↔_
    rw[<- yi,xo]
    by_cases q:t=low
    · simp[q]
    · rw[gl q, yi]; simp[q, wT]
  have y:∀l,wF 93 l=if l=low then high else wF x l:=λl=>by
    unfold wF yS
    rw[xo]
    split<;>rfl
  have A:∀{l h t:Int},t∈A4 93 l h↔t∈xF x h/\t≠l/\(t=low\/t∈wT x):=λ{l h t}=>by
    rw[xq,c];exact Iff.rfl
  refine#[λt=>if t∈V then (if t=low then ((wT x).map r).sum+1 else ((wT x).map r).sum+2+r t) else r t,λl g t a=>?_]
  rw[y]at a
  have a:=A.mp a
  have i:∀k,k∈wT x->r k<=((wT x).map r).sum:=λk B=>Q3 B
  dsimp only
  by_cases b:l=low
  · subst b
    rw[gI rfl]at a
    rw[gI f,gI rfl]
    have C:t∈wT x:=a.2.2.elim (λz=>g8 z a.2.1) id
    have e:t∈V:=(p l f).2 t (by rw[gI rfl];exact xq.mpr #[a.1,a.2.1,C])
    rw[gI e,gl a.2.1]
    lia
  · rw[gl b]at a
    have j:l∈wT x:=(c.mp g).elim (λz=>g8 z b) id
    by_cases m:l∈V
    · rw[gI m, gl b]
      have d:=p l m
      rw[gl b]at d
      rcases a.2.2 with z|z
      · rw[z]at a; exact g8 a.1<|d.1 b
      · have s : t ∈ A4 x l (wF x l) := xq.mpr #[a.1, a.2.1, z]
        have:=u l j t s
        have n:t≠low:=λw=>o<|w▸z
        rw[gI<|d.2 t s,gl n]
        lia
    · rw[gl m]
      have:=i l j
      rcases a.2.2 with z|z
      · subst z
        rw[gI f,gI rfl]
        lia
      · have s : t ∈ A4 x l (wF x l) := xq.mpr #[a.1, a.2.1, z]
        have:=u l j t s
        have n:t≠low:=λw=>o<|w▸z
        by_cases e:t∈V
        · rw[gI e, gl n]; lia
        · rw[gl e]; lia
noncomputable def N8(x:B0)(e:List (Int×Option Int)):Nat:=((wT x).filter λt=>!(lk e t).isSome).length
structure Rw(x:B0)(low:Int)(e:List (Int×Option Int))(ws:List Int)(D:Int->List (Int×Option Int)->Prop):Prop where
 lo:(lk e low).isSome=true
 tl:∀k,(lk e k).isSome=true->k≠low->k∈wT x
 wk:∀k∈ws,(lk e k).isSome=true
 dn:∀k,(lk e k).isSome=true->k∉ws->D k e
 ch:∃mm:Int->Nat,(∀k,mm k<=e.length)/\∀k t,lk e k=↑(some t)->(lk e t).isSome=true/\mm t<mm k
 sz:e.length+N8 x e<=64
def Rw.add{low:Int}{a t0:Int}(R:Rw x low e p D)(m:a∈wT x)(d:lk e a=none)(i:(lk e t0).isSome=true)(b:∀k,(lk e k).isSome=true->D k e->D k (pk e a<|↑t0)) :
  Rw x low (pk e a<|↑t0) (p++[a]) D/\N8 x (pk e a<|↑t0)+1<=N8 x e:=by
 have r:N8 x (pk e a<|↑t0)+1<=N8 x e:=by
  refine filter_lt (x:=a) (λt h=>?_) (by rw[d];rfl) (by rw[xo,gI rfl];rfl) m;rw[xo]at h;by_cases q:t=a
  ·rw[gI q]at h;simp at h
  ·rw[gl q]at h;exact h
 have f:∀k,(lk e k).isSome=true->(lk (pk e a<|some t0) k).isSome=true:=λk h=>by
  rw[xo];split
  ·rfl
  ·exact h
 have j:∀k,k≠a->lk (pk e a<|some t0) k=lk e k:=λk h=>by rw[xo,gl h]
 have c:(pk e a<|↑t0).length=e.length+1:=by rw[yT d];simp
 refine#[#[f _ R.lo,λk h n=>?_,λk h=>?_,λk h n=>?_,?_,by rw[c];have:=R.sz;lia],r]
 ·by_cases q:k=a
  ·rw[q];exact m
  ·rw[j k q]at h;exact R.tl k h n
 ·rcases List.mem_append.mp h with z|z
  ·exact f _<|R.wk k z
  ·rw[List.mem_singleton.mp z,xo,gI rfl];rfl
 ·have q:k≠a:=λz=>n (by rw[z];simp);rw[j k q]at h;exact b k h<|R.dn k h λz=>n<|iI _ z
 ·obtain⟨s,o,u⟩:=R.ch;refine#[λk=>if k=a then e.length+1 else s k,λk=>?_,λk t h=>?_]
  ·rw[c];dsimp only;split
   ·exact gK _
   ·have:=o k;lia
  ·by_cases q:k=a
   ·rw[q,xo,gI rfl]at h;injection h with h;injection h with h;subst h;have l:t0≠a:=λz=>by rw[z,d]at i;cases i
    refine#[f _ i,?_];dsimp only;rw[gI q,gl l];have:=o t0;lia
   ·rw[j k q]at h;have g:=u k t h;have l:t≠a:=λz=>by rw[z,d]at g;cases g.1
    refine#[f _ g.1,?_];dsimp only;rw[gl q,gl l];exact g.2
def MN(x:B0)(low high:Int)(k:Int)(e:List (Int×Option Int)):Prop:=(k≠low->low∉xF x (wF x k))/\∀t∈A4 x k (if k=low then high else wF x k),(lk e t).isSome=true
def Q4{low high:Int}(b:DD x):Rw x low [(low,none)] [low] (MN x low high):=by
 have a:∀k,(lk ([(low,none)]:List (Int×Option Int)) k).isSome=true->k=low:=λk h=>by have:=zD h;simpa using this
 refine#[xH q0o,λk h n=>g8 (a k h) n,λk h=>xH (by simpa using h),λk h n=>g8 (a k h) (by simpa using n),#[λ_=>0,λ_=>iN _,λk t h=>?_],?_]
 ·rw[w6]at h;by_cases q:low=k
  ·rw[gI q]at h;cases h
  ·rw[gl q]at h;cases h
 ·have:=b.len;have g:N8 x [(low,none)]<=(wT x).length:=hX _ _;have e:(wT x).length=x.ht.length:=gM _;simp only[hW]
  lia
def a2A{low:Int}(i:DD x):2*N8 x [(low,none)]+[low].length<=200:=by have:=i.len;have g:N8 x [(low,none)]<=(wT x).length:=hX _ _;have e:(wT x).length=x.ht.length:=gM _;simp only[hW];omega
def Rc(x:B0)(low high:Int)(e:List (Int×Option Int)):Prop:=∀R:Int->Nat,(∀l∈wT 93,∀t∈A4 93 l (wF 93 l),R l<R t)->∀k,(lk e k).isSome=true->R low<=R k
def Q5{low high:Int}:Rc x low high [(low,none)]:=λR _ k a=>by have:=zD a;rw[ik,oM,mf]at this;rw[this];exact gK _
def We{low high y t:Int}{R:Int->Nat}(a:∀l∈wT 93,∀t∈A4 93 l (wF 93 l),R l<R t)(b:y≠low->y∈wT x)(c:t∈xF x (if y=low then high else wF x y))(n:t≠y)(ht:t=low\/t∈wT x):R y<R t:=by
 have mem:∀{t:Int},t∈wT 93↔t=low\/t∈wT x:=λ{t}=>by
  show t∈(pk x.ht low high).map (·.1)↔_;rw[<- yi,xo];by_cases q:t=low
  ·simp[q]
  ·rw[gl q,yi];simp[q,wT]
 have hd:wF 93 y=if y=low then high else wF x y:=by unfold wF yS;rw[xo];split<;>rfl
 refine a y (mem.mpr ?_) t<|xq.mpr #[?_,n,mem.mpr ht]
 ·by_cases q:y=low
  ·exact .inl q
  ·exact .inr<|b q
 ·rw[hd];exact c
def Rc.add{low high y t:Int}(r:Rc x low high e)(f:(lk e y).isSome=true)(g:y≠low->y∈wT x)(h:t∈A4 x y (if y=low then high else wF x y)):Rc x low high (pk e t v):=λR c k d=>by
 rw[xo]at d;by_cases q:k=t
 ·have s:=xq.mp h;have a:=r R c y f;have b:=We c g s.1 s.2.1<|.inr s.2.2;rw[q];omega
 ·rw[gl q]at d;exact r R c k d
def Rc.fin{low high y:Int}(r:Rc x low high e)(f:y∈wT x)(n:y≠low)(g:(lk e y).isSome=true)(h:low∈xF x (wF x y)):¬N7 93:=λ⟨R,d⟩=>by have a:=r R d y g;have b:=We d (y:=y) (t:=low) (λ_=>f) (by rw[gl n];exact h) (λz=>n z.symm)<|.inl rfl;omega
/-! the order of the c -/
noncomputable def OA(x:B0)(a:List Int):List Int:=(wT x).filter λt=>decide<|t∉a
noncomputable def cnt(x:B0)(a:List Int)(t:Int):Int:=((a.filter λl=>decide<|t∈A4 x l (wF x l)).length:Int)
def yO{t:Int}:t∈OA x a↔t∈wT x/\t∉a:=by unfold OA;rw[jL,ie]
def cnt_cons{l t:Int}:cnt x (l::a) t=cnt x a t+if t∈A4 x l (wF x l) then 1 else 0:=by
 unfold cnt;rw[jo];by_cases q:t∈A4 x l (wF x l)
 ·rw[gI<|decide_eq_true q,gI q];simp
 ·rw[gl (by simpa using q),gl q];simp
def Q6{a:List Int}{t:Int}(h:a.Perm b):cnt x a t=cnt x b t:=by unfold cnt;rw[(h.filter _).length_eq]
def Ya{t:Int}:0<=cnt x a t:=by unfold cnt;lia
def Q7{t:Int}(h:cnt x a t=0):∀l∈a,t∉A4 x l (wF x l):=λl b q=>by unfold cnt at h;have:(a.filter λl=>decide<|t∈A4 x l (wF x l))=[]:=List.length_eq_zero_iff.mp q0a;have m:l∈(a.filter λl=>decide<|t∈A4 x l (wF x l)):=List.mem_filter.mpr #[b,decide_eq_true q];rw[this]at m;cases m
def MO{t:Int}(h:cnt x a t≠0):∃l∈a,t∈A4 x l (wF x l):=by
 unfold cnt at h
 cases e:(a.filter λl=>decide<|t∈A4 x l (wF x l)) with
 |nil=>rw[e]at h;exact g8 rfl h
 |cons l r =>
  have m:l∈(a.filter λl=>decide<|t∈A4 x l (wF x l)):=by rw[e];exact gO
  have:=List.mem_filter.mp m;exact#[l,this.1,jP this.2]
def K8{a b:List Int}(h:a.Nodup)(c:b.Nodup)(s:∀k∈a,k∈b):a.length<=b.length:=by
 have p:a.Perm (b.filter λk=>decide<|k∈a):=wl h (c.filter _) λk=>by rw[jL,ie];exact#[λz=>#[s k z,z],λz=>z.2]
 rw[p.length_eq];exact hX _ _
def UJ{a:Type}{l:List (Int×a)}{k:Int}{v:a}(h:(lk l k).isSome=true):(pk l k v).map (·.1)=l.map (·.1):=by unfold pk;rw[gI h,kT];refine lU λe _=>?_;dsimp only[uA];split<;>rfl
structure Kh(x:B0)(u:List (Int×Int))(ready told r2:List Int):Prop where
 ks:u.map (·.1)=wT x
 nd:(told++ready).Nodup
 st:∀t∈told++ready,t∈wT x
 ct:∀t∈wT x,lk u t=↑(cnt x (OA x told) t+if t∈r2 then 1 else 0)
 rd:∀t∈wT x,t∉told->(t∈ready↔cnt x (OA x told) t+(if t∈r2 then 1 else 0)=0)
 bk:∀a∈told,∀l∈wT x,l∉told->a∉A4 x l (wF x l)
 od:told.Pairwise λa b=>a∉A4 x b (wF x b)
def UK{y:Int}(b:DD x)(c:y∈wT x)(d:y∉a):(OA x a).Perm (y::OA x (a++[y])):=by
 refine wl (b.nd.filter _) (List.nodup_cons.mpr #[λz=>(yO.mp z).2 q0o,b.nd.filter _]) λk=>?_;rw[yO,im,yO,l6,mf];by_cases q:k=y
 ·subst q;exact#[λ_=>.inl rfl,λ_=>#[c,d]]
 ·simp[q]
def Kh.pop{y:Int}(n:DD x)(K:Kh x u (f++[y]) c []):Kh x u f (c++[y]) (A4 x y<|wF x y):=by
 have g:y∈wT x:=K.st y q0o;have o:=List.nodup_append.mp K.nd;have h:y∉c:=λz=>o.2.2 y z y q0o rfl;have q:=UK n g h;have j:∀t,cnt x (OA x c) t=cnt x (OA x<|c++[y]) t+if t∈A4 x y (wF x y) then 1 else 0:=λt=>by rw[Q6 q,cnt_cons]
 have r:cnt x (OA x c) y=0:=by have:=(K.rd y g h).mp q0o;simpa using this
 refine#[K.ks,?_,λt d=>K.st t (by simp only[l6,mf]at d ⊢;rcases d with(z|z)|z<;>simp[z]),λt d=>?_,λt d e=>?_,λa i l k e=>?_,?_]
 ·have p:(c++[y]++f).Perm (c++(f++[y])):=by rw[oa];exact rD c mH
  exact(p.nodup_iff).mpr K.nd
 ·rw[K.ct t d,j t];simp
 ·have s:t∉c:=λz=>e<|iI _ z;have v:t≠y:=λz=>e (by rw[z];simp);have:=K.rd t d s;rw[j t]at this;rw[l6,mf]at this;simpa[v] using this
 ·have m:l∉c:=λz=>e<|iI _ z;rcases List.mem_append.mp i with z|z
  ·exact K.bk a z l k m
  ·rw[List.mem_singleton.mp z];exact Q7 r l<|yO.mpr #[k,m]
 ·rw[List.pairwise_append];refine#[K.od,jV _ _,λa i b w=>?_];rw[List.mem_singleton.mp w];exact K.bk a i y g h
def Kh.step{b v:Int}(K:Kh x u ready c (b::e))(f:b∈wT x)(i:b∉c)(j:b∉e)(k:lk u b=↑v) :
  Kh x (pk u b<|v-1) (if v-1=0 then ready++[b] else ready) c e:=by
 have g:=K.ct b f;rw[k,gI gO]at g;injection g with g
 have l:b∉ready:=λz=>by
  have:=(K.rd b f i).mp z;rw[gI gO]at this;have:=Ya (x:=x) (a:=OA x c) (t:=b)
  lia
 have d:∀t,t≠b->(if t∈b::e then (1:Int) else 0)=if t∈e then 1 else 0:=λt q=>by simp[q]
 refine#[(UJ<|by rw[k];rfl).trans K.ks,?_,λt h=>?_,λt h=>?_,λt h m=>?_,K.bk,K.od]
 ·split
  ·have p:(c++(ready++[b])).Perm (b::(c++ready)):=by rw[<- oa];exact mH
   refine(p.nodup_iff).mpr<|List.nodup_cons.mpr ⟨λz=>?_,K.nd⟩;rcases List.mem_append.mp z with z|z
   ·exact i z
   ·exact l z
  ·exact K.nd
 ·by_cases q:t=b
  ·rw[q];exact f
  ·refine K.st t ?_;rcases List.mem_append.mp h with z|z
   ·exact iI _ z
   ·by_cases w:v-1=0
    ·rw[gI w]at z;rcases List.mem_append.mp z with z|z
     ·exact hV _ z
     ·exact g8 (List.mem_singleton.mp z) q
    ·rw[gl w]at z;exact hV _ z
 ·rw[xo];by_cases q:t=b
  ·rw[gI q,q,gl j];congr 1;lia
  ·rw[gl q,K.ct t h,d t q]
 ·by_cases q:t=b
  ·rw[q,gl j];by_cases w:v-1=0
   ·rw[gI w];exact#[λ_=>by lia,λ_=>by simp]
   ·rw[gl w];exact#[λz=>g8 z l,λz=>g8 q0a w]
  ·have:=K.rd t h m;rw[d t q]at this;rw[<- this];by_cases w:v-1=0
   ·rw[gI w];simp[q]
   ·rw[gl w]
def Kh.done(f:DD x)(K:Kh x u [] a []):Ord x a:=by
 obtain⟨r,g⟩:=f.acy
 have c:∀n t,r t<=n->t∈wT x->t∈a:=by
  intro n
  induction n with
  |zero =>
   intro t i d;by_cases q:t∈a
   ·exact q
   ·have:cnt x (OA x a) t≠0:=λz=>by have:=(K.rd t d q).mpr (by simpa using z);cases this
    obtain⟨l,b,e⟩:=MO this;have:=g l (yO.mp b).1 t e
    lia
  |succ n j =>
   intro t i d;by_cases q:t∈a
   ·exact q
   ·have:cnt x (OA x a) t≠0:=λz=>by have:=(K.rd t d q).mpr (by simpa using z);cases this
    obtain⟨l,b,e⟩:=MO this;have:=g l (yO.mp b).1 t e;exact g8 (j l q0a (yO.mp b).1) (yO.mp b).2
 have h:=K.nd;rw[kX]at h;exact#[wl h f.nd λk=>#[λz=>K.st k (by simpa using z),λz=>c _ k (gK _) z],K.od]
def Kh.len(b:DD x)(K:Kh x u ready a d):ready.length<=63/\a.length<=63/\u.length<=63:=by
 have e:(wT x).length=x.ht.length:=gM _;have:=b.len;have c:=K8 K.nd b.nd K.st;rw[gW]at c;have f:u.length=(wT x).length:=by rw[<- K.ks,gM]
 lia
def a2B(a:DD x){l h:Int}(b:(lk x.rk h).isSome=true):(A4 x l h).Nodup:=by exact(vt (a.ok.bo h _<|Gd a.ok b).1).filter _
end
section
variable{q:Cq}{XL:ci}
noncomputable abbrev CD:ic:=Bk (top 23) 22
noncomputable abbrev CF:List Str:=["self","cell"]
def K9:uZ ["self","cell"] CF (uQ CD):=by walk_at "sc"
abbrev Gg(q:Cq)(k:Nat):=zN q C "is_tied" CF (Ge) k
def La(F:yX q.K "is_tied" "Field.is_tied" CD f g)(b:A1 q.K C)(c:Su q.K C):Gq q 2 f g CF (Ge):=by
 refine' vc (wy (D':=Unit) (ms:=[0]) (j:=0) F K9 rfl rfl λi A a s H E d =>
   (uS (vf (vj (ZE (KG .ht false 0 rfl b.cl c.nH (Df d) (ss 1) (pv 0)) (BH (KG .th false 0 rfl b.cl c.nT (Df d) (ss 1) (pv 0)))))))) λp k l h=>?_
 walk_at "wl"
 have h:k ((lk p.1.ht p.2.1).isSome||(lk p.1.th p.2.1).isSome) 65:=h;rw[gl gV,gl gV];by_cases e:(lk p.1.ht p.2.1).isSome=true
 ·rw[gI e];rw[e]at h;exact h
 ·rw[gl e];rw[Bool.eq_false_iff.mpr e]at h;exact h
noncomputable abbrev Hu:ic:=Bk (top 23) 24
noncomputable abbrev Hv:List Str:=["self","low","high"]
def Q8:uZ ["self","low","high"] Hv (uQ Hu):=by walk_at "sc"
def N9:(["face","low","self"]:List Str).Nodup:=by decide +kernel
abbrev UL(q:Cq)(k:Nat):=zN q C "steps" Hv (Ht) k
def Q9(F:yX q.K "steps" "Field.steps" Hu f t)(d:A1 q.K C)(u:Su q.K C):Gq q 2 f t Hv (Ht):=by
 refine' vc (wy (D':=Unit) (ms:=[0]) (j:=0) F Q8 rfl rfl λw A g s H E l =>
   (uS (vf (wB (Ts:=["face"]) (Fr:=["low","self"]) (idx:=[1,0]) (k:=1) (mb:=[1,2]) (is:=[]) (cl:=[("self",⇑s+1),("low",⇑s+1+1)]) rfl (Qg (AM 0 d.cl d.nB (Df l) (pv 0) (ww 2 (pv 2)))) YN rfl (wv rfl) (λa b C m n=>(vq 0 (vd N9))) (λa b C m n=>(tws_one (tw_w (GO (tw_cm AZ (ss 0) (ss 1)) (Dt (tw_dIn .ht false 2 rfl d.cl u.nH (Df l) (ss 0) (pv 2))))))) (λa b C m n=>(ss 0)))))) λp x G h=>?_
 walk_at "wl"
 refine Ct λB i=>?_;obtain⟨D,o,h⟩:=h;obtain⟨v,r⟩:=Option.isSome_iff_exists.mp D;have e:xF p.1 p.2.2.1=v:=by unfold xF;rw[r];rfl
 refine i ?_;rw[e]at o;refine#[v,r,o,?_];refine vU (q:=λf=>decide (f≠p.2.1)&&(lk p.1.ht f).isSome) (λf I K c=>?_) ?_
 ·show if (!decide (f=p.2.1))=true then (if (if false=true then _ else (lk p.1.ht f).isSome)=true then K ↑f _ else K none _) else (if false=true then K ↑f _ else K none _);rw[gl gV,gl gV];by_cases z:f=p.2.1
  ·rw[gl<|by simp[z]];rw[gl<|by simp[z]]at c;exact c
  ·rw[gI<|by simp[z]];by_cases y:(lk p.1.ht f).isSome=true
   ·rw[gI y];rw[gI<|by simp[z,y]]at c;exact c
   ·rw[gl y];rw[gl<|by simp[z,y]]at c;exact c
 ·have h:x #[A4 p.1 p.2.1 p.2.2.1] 67:=h;unfold A4 at h;rw[e]at h;exact h
noncomputable abbrev Hw:ic:=Bk (top 23) 17
noncomputable abbrev Hx:List Str:=["self"]
def Re:uZ ["self"] Hx (uQ Hw):=by walk_at "sc"
abbrev UM(q:Cq)(k:Nat):=zN q C "tails" Hx (MM) k
def Rf(F:yX q.K "tails" "Field.tails" Hw f b)(c:A1 q.K C)(d:Su q.K C)(B:Bn q.mg):Gq q 2 f b Hx (MM):=by
 refine' vc (wy (D':=Unit) (ms:=[0]) (j:=0) F Re rfl rfl λe A a s H E k =>
   (uS (vf (Er .ht 0 rfl c.cl d.nH rfl rfl B.sorted (pv 0))))) λp l m h=>?_
 walk_at "wl"
 obtain⟨g,n,i⟩:=h;exact#[g,i]
noncomputable abbrev EI:ic:=Bk (top 23) 20
abbrev EJ:List Str:=["self"]
def Oa:uZ ["self"] EJ (uQ EI):=by walk_at "sc"
def Ld:(["low","self"]:List Str).Nodup:=by decide +kernel
abbrev Rh(q:Cq)(k:Nat):=zN q C "arrows" EJ (JA) k
def Ob(F:yX q.K "arrows" "Field.arrows" EI f i)(m:A1 q.K C)(n:Su q.K C)(a:UM q 2):Gq q 3 f i EJ (JA):=by
 refine' vc (wy (D':=Unit) (ms:=[0]) (j:=0) F Oa rfl rfl λo A d s H E r =>
   (uS (vf (wB (Ts:=["low"]) (Fr:=["self"]) (idx:=[0]) (k:=1) (mb:=[1]) (is:=[]) (cl:=[("self",⇑s+1)]) rfl (wh (vD (Je 0 a))) Wb rfl (wv rfl) (λb c C e g=>(vq 0 (vd Ld))) (λb c C e g=>tws_nil) (λb c C e g=>(wJ (ss 0) (G0 .ht 1 rfl m.cl n.nH (Df r) (pv 1) (ww 0 (pv 0))))))))) λp z B h=>?_
 walk_at "wl"
 obtain⟨t,u,v⟩:=h;refine#[t,u,?_,?_]
 ·show (Fd<|wT p.1).length<=gL;rw[(xV _).length_eq];exact vT (by show (p.1.ht.map (·.1)).length<=1000;rw[gM];lia)
 ·refine vW (f:=λl=>↑(l,wF p.1 l)) (λl w K y=>?_) ?_
  ·exact#[_,yU (x:=p.1)<|GS.mp w,y]
  ·rw[oO];exact v
noncomputable abbrev Hy:ic:=Bk (top 23) 14
noncomputable abbrev Hz:List Str:=["self","low"]
def JB:uZ ["self","low","high"] Hz (uQ Hy):=by walk_at "sc"
abbrev UN(q:Cq)(k:Nat):=zN q C "untie" Hz (DE) k
def Ri(F:yX q.K "untie" "Field.untie" Hy f k)(c:A1 q.K C)(d:Su q.K C)(a:wD q 2)(b:Xc q.K q.mg "NotTied" XN):Gq q 3 f k Hz (DE):=by
 refine' vc (wy (D':=Unit) (ms:=[0]) (j:=1) F JB rfl rfl λl A g s H E m =>
   (vg (wn (ve (wz 0 a 88)))
   (vg (vF (tw_dIn .ht true 0 rfl c.cl d.nH (Df m) (ss 1) (pv 0))
   (uS<|BQ rfl b)
   vv)
   (vg (vk 2 JB.nd (vj (Uv .ht 0 rfl c.cl d.nH (pv 0) (ww 1 (pv 1)))))
   (vg (Mu .th 0 rfl c.cl d.nT (pv 0) (ww 2 (pv 2)) (λn o=>Gw n o))
   (uS (vf (vj (ss 2))))))))) λp u r h=>?_
 walk_at "wl"
 obtain⟨t,h⟩:=h;show if (61).isSome=true then _ else r XC 65;by_cases i:(61).isSome=true
 ·rw[gI i]at h ⊢;dsimp only;rw[gI rfl];by_cases q:(lk p.1.ht p.2.1).isSome=true
  ·rw[gI q]at h;rw[gl<|by simp[q]];have e:=yU (x:=p.1)<|zD q;exact#[_,e,by rw[(t.ht _ _ e).2.2.2];rfl,h]
  ·rw[gl q]at h;rw[gI<|by simp[q]];exact h
 ·rw[gl i]at h ⊢;exact h
noncomputable abbrev xL:ic:=top 24
noncomputable abbrev xM:List Str:=["earlier","last"]
def wL:uZ ["earlier","last","row","tail"] xM (uQ xL):=by walk_at "sc"
abbrev CG(q:Cq)(k:Nat):=xi q "row_from_first" xM zi k
def B8(F:Dg q "row_from_first" xL f o):Gq q 2 f o xM zi:=by
 refine' vc (wy (D':=Unit) (ms:=[0]) (j:=2) F wL rfl rfl λr A b s H E t =>
   (vg (vk 2 wL.nd (vn (α:=Int) vm))
   (vg (vk 3 wL.nd (vj (zx (ss 1))))
   (vg (Jb (mb:=[0]) (D2:=(Dc (Option Int))×Int×(OL Int)×(Option Int)×Unit) (vC q0q) zc (tw_cm Mo (ss 3) Kv)
   (vg (xD 2 (Ae (ss 3)))
   (uS (vk 3 wL.nd (vj (Jg 0 (Df t) (pv 0) (Ae (ss 3))))))) q0q)
   (uS (vf (X3 (wm 2)))))))) λp D G h=>?_
 walk_at "wl"
 refine Ct λu c=>?_;obtain⟨⟨a,w,x,y⟩,h⟩:=h;refine c ?_;refine#[λm d=>d.1=p.1/\(match d.2.2.2.1 with|none=>d.2.2.1.l≠[]|some k=>(lk p.1.l k).isSome=true/\d.2.2.1.l.length+a k<1000)/\(match d.2.2.2.1 with|none=>0|some k=>a k+1)<=m,#[a p.2.1+1,rfl,#[x,by have:=w p.2.1;simpa using this],gK _],?_];intro m;refine a2g λI J B C L=>?_;rintro⟨rfl,i,M⟩
 cases C with
 |none =>
  rw[gl q0o];exact h _ (by simpa using i)
 |some k =>
  rw[gI q0o];obtain⟨v,n⟩:=Option.isSome_iff_exists.mp i.1;have z:gL=16777216:=i8;refine#[k,rfl,by show B.l.length<gL;lia,k,rfl,v,n,?_]
  cases v with
  |none=>exact#[0,q0a,rfl,q0o,gK _]
  |some e =>
   have g:=y k e n;exact#[a e+1,q0a,rfl,#[g.1,by simp;lia],gK _]
noncomputable abbrev Az:ic:=Bk (top 23) 25
noncomputable abbrev AA:List Str:=["self","low","high"]
def wU:uZ ["self","low","high","earlier","waiting","tail","head","later"] AA (uQ Az):=by walk_at "sc"
abbrev JC(q:Cq)(k:Nat):=zN q C "ring_with" AA (C0) k
def HA(F:yX q.K "ring_with" "Field.ring_with" Az f fd)(ct:A1 q.K C)(cf:Su q.K C)(a:CG q 3)(I:UL q 3):Gq q 4 f fd AA (C0):=by
 refine' vc (wy (D':=Unit) (ms:=[0]) (j:=5) F wU rfl rfl λag A ab s H E R =>
   (vg (vk 3 wU.nd (X1 (ww 1 (pv 1))))
   (vg (vk 4 wU.nd (vn (uX (ss 1) vm)))
   (vg (Jb (mb:=[0]) (D2:=(Bd C true)×Int×Int×(Dc (Option Int))×(OL Int)×Int×Int×Un×Unit) (vC q0q) zc (tw_trueR (wm 4))
   (vg (vk 5 wU.nd (vj (Uw 4 (pv 4) (WP og se sf WR (pv 4)))))
   (vg (vk 6 wU.nd (vj (QK .ht 0 rfl ct.cl cf.nH (Df R) (pv 0) (ww 5 (pv 5)) (ww 2 (pv 2)))))
   (vg (vF (tw_w (GO (tw_cm AZ (ss 5) (ss 1) (vH _)) (Dt (tw_inT (ss 1) (AM 0 ct.cl ct.nB (Df R) (pv 0) (ww 6 (pv 6))) (by with_unfolding_all rfl)))))
   (uS<|vf<|vo a<|vN 3<|uW (ss 5) uU)
   vv)
   (uS (wE (is:=[]) (mb:=[0]) (D1:=(Bd C true)×Int×Int×(Dc (Option Int))×(OL Int)×Int×Int×Int×Unit) (D2:=(Bd C true)×Int×Int×(Dc (Option Int))×(OL Int)×Int×Int×Int×Unit) (vC q0q) zc rfl (wh (vD (wz 0 I (uW (ss 5) (uW (ss 6) uU))))) (vq 7 (vd (i:=7) wU.nd rfl (kg rfl)) q0q)
   (uS (vF (tw_dcNin 3 (Df R) (ss 7) (pv 3))
   (vg (Jh 3 (Df R) (pv 3) (ss 7) (zx (ss 5)))
   (uS (xD 4 (ss 7))))
   vv)) q0q q0q))))) q0q)
   (uS (vf (vn (α:=Int) vm))))))) λp Kn Ke h=>?_
 walk_at "wl"
 obtain⟨N,hh,t1,t2,h⟩:=h
 have J:p.2.1∉wT p.1:=λz=>by have:=xH z;unfold wG at t1;rw[this]at t1;cases t1
 have n0:lk p.1.ht p.2.1=none:=UG J;refine#[λm d=>d.1=p.1/\d.2.1=p.2.1/\d.2.2.1=p.2.2.1/\Rw p.1 p.2.1 d.2.2.2.1.l d.2.2.2.2.1.l (MN p.1 p.2.1 p.2.2.1)/\2*N8 p.1 d.2.2.2.1.l+d.2.2.2.2.1.l.length<=m/\m<=200/\Rc p.1 p.2.1 p.2.2.1 d.2.2.2.1.l,#[_,rfl,rfl,rfl,Q4 N,gK _,a2A N,Q5],?_];intro m;refine XA λd1 d2 d3 d4 d5 d6 d7 d8 d9=>?_;rintro⟨rfl,rfl,rfl,o,Y,i6,i7⟩;dsimp only at o Y ⊢;rcases List.eq_nil_or_concat d5.l with e|⟨ys,y,e⟩
 ·rw[gl<|by rw[e];simp];rw[e]at o;refine h []<|iff_of_true rfl ?_;exact UI (V:=d4.l.map (·.1)) N J (yi.mp o.lo) (λk B n=>o.tl k (yi.mpr B) n) λk B=>#[(o.dn k (yi.mpr B) q0o).1,λt c=>yi.mp<|(o.dn k (yi.mpr B) q0o).2 t c]
 ·rw[gI<|by rw[e];simp];rw[List.concat_eq_append]at e;refine#[ys,y,e,?_];have S:(lk d4.l y).isSome=true:=o.wk y (by rw[e];simp)
  have hd:(lk p.1.ht y).getD p.2.2.1=if y=p.2.1 then p.2.2.1 else wF p.1 y:=by
   by_cases q:y=p.2.1
   ·rw[gI q,q,n0];rfl
   ·rw[gl q,yU<|o.tl y S q];rfl
  have O:(lk p.1.rk<|if y=p.2.1 then p.2.2.1 else wF p.1 y).isSome=true:=by
   by_cases q:y=p.2.1
   ·rw[gI q];exact hh
   ·rw[gl q];exact N.Sr<|o.tl y S q
  rw[hd]
  have L:(y≠p.2.1->p.2.1∉xF p.1 (wF p.1 y))->Ht (p.1,y,(if y=p.2.1 then p.2.2.1 else wF p.1 y),()) (λae p'=>GQ (λx (b:B0×Int×Int×Dc (Option Int)×OL Int×Int×Int×WL.Un×Unit) Z Kr Ke =>
    if (!(lk b.2.2.2.1.l x).isSome)=true then b.2.2.2.1.l.length<gL/\b.2.2.2.2.1.l.length<gL/\Z (b.1,b.2.1,b.2.2.1,#[pk b.2.2.2.1.l x<|↑b.2.2.2.2.2.1],#[b.2.2.2.2.1.l++[x]],b.2.2.2.2.2.1,b.2.2.2.2.2.2.1,#[],b.2.2.2.2.2.2.2.2)
    else Z (b.1,b.2.1,b.2.2.1,b.2.2.2.1,b.2.2.2.2.1,b.2.2.2.2.2.1,b.2.2.2.2.2.2.1,#[],b.2.2.2.2.2.2.2.2)) ae.l (p'.1,p.2.1,p.2.2.1,d4,#[ys],y,(if y=p.2.1 then p.2.2.1 else wF p.1 y),d8,d9)
    (λM=>∃m',m'<m/\M.1=p.1/\M.2.1=p.2.1/\M.2.2.1=p.2.2.1/\Rw p.1 p.2.1 M.2.2.2.1.l M.2.2.2.2.1.l (MN p.1 p.2.1 p.2.2.1)/\2*N8 p.1 M.2.2.2.1.l+M.2.2.2.2.1.l.length<=m'/\m'<=200/\Rc p.1 p.2.1 p.2.2.1 M.2.2.2.1.l) Kn Ke) (λaf p'=>Ke af (p'.1,#[],#[],())):=by
   intro hy;refine#[by rw[Gd N.ok O];rfl,N.bl O,?_];have m1:1<=m:=by rw[e,gW]at Y;simp at Y;omega
   refine vP (λ(r:List Int) (b:B0×Int×Int×Dc (Option Int)×OL Int×Int×Int×WL.Un×Unit)=>b.1=p.1/\b.2.1=p.2.1/\b.2.2.1=p.2.2.1/\b.2.2.2.2.2.1=y/\(lk b.2.2.2.1.l y).isSome=true/\(∀t∈r,t∈A4 p.1 y (if y=p.2.1 then p.2.2.1 else wF p.1 y))/\Rc p.1 p.2.1 p.2.2.1 b.2.2.2.1.l /\
    Rw p.1 p.2.1 b.2.2.2.1.l b.2.2.2.2.1.l (λk e=>if k=y then (∀t∈A4 p.1 y (if y=p.2.1 then p.2.2.1 else wF p.1 y),(lk e t).isSome=true\/t∈r) else MN p.1 p.2.1 p.2.2.1 k e)/\2*N8 p.1 b.2.2.2.1.l+b.2.2.2.2.1.l.length+1<=m) _ ?_ ?_ ?_
   ·refine#[rfl,rfl,rfl,rfl,S,λt c=>c,i7,#[o.lo,o.tl,λk B=>o.wk k (by rw[e];exact iI _ B),λk B P=>?_,o.ch,o.sz],?_]
    ·dsimp only;by_cases q:k=y
     ·rw[gI q];exact λt c=>.inr c
     ·rw[gl q];exact o.dn k B (by rw[e];intro z;rcases List.mem_append.mp z with z|z;exact P z;exact q<|List.mem_singleton.mp z)
    ·rw[e,gW]at Y;simp only[hW]at Y;show 2*N8 p.1 d4.l+ys.length+1<=m;omega
   ·intro T r;refine XA λb1 b2 b3 b4 b5 D b7 b8 b9=>?_;rintro _ ⟨rfl,rfl,rfl,rfl,Q,j6,j9,u,j8⟩ K hK;dsimp only at Q u j8 j9 ⊢;have aa:∀t∈r,t∈A4 p.1 D (if D=p.2.1 then p.2.2.1 else wF p.1 D):=λt c=>j6 t (gS _ c)
    cases q:lk b4.l T with
    |none =>
     rw[gI q0o];have z:gL=16777216:=i8;have s1:=u.sz;have nn:∀(k:Int) (e':List (Int×Option Int)),(∀t,(lk e' t).isSome=true->(lk (pk e' T<|some D) t).isSome=true):=λk e' t c=>by rw[xo];split;rfl;exact c
     obtain⟨U,u2⟩:=u.add (t0:=D) (xq.mp<|j6 T gO).2.2 q Q λk B W=>by
      try dsimp only at W ⊢
      by_cases G:k=D
      ·rw[gI G]at W ⊢;exact λt c=>(W t c).imp (nn k _ t) id
      ·rw[gl G]at W ⊢;exact#[W.1,λt c=>nn k _ t<|W.2 t c]
     refine#[by show b4.l.length<gL;omega,by show b5.l.length<gL;omega,hK _ #[rfl,rfl,rfl,rfl,nn 0 _ _ Q,aa,j9.add Q (u.tl D Q)<|j6 T gO,?_,?_]]
     ·refine#[U.lo,U.tl,U.wk,λk B P=>?_,U.ch,U.sz];have g:=U.dn k B P;dsimp only at g ⊢;by_cases G:k=D
      ·rw[gI G]at g ⊢;intro t c;rcases g t c with w|w
       ·exact .inl w
       ·rcases List.mem_cons.mp w with w|w
        ·left;rw[w,xo,gI rfl];rfl
        ·exact .inr w
      ·rw[gl G]at g ⊢;exact g
     ·show 2*N8 p.1 (pk b4.l T<|↑D)+(b5.l++[T]).length+1<=m;rw[gW];simp only[hW];omega
    |some v =>
     rw[gl q0o];refine hK _ #[rfl,rfl,rfl,rfl,Q,aa,j9,#[u.lo,u.tl,u.wk,λk B P=>?_,u.ch,u.sz],j8];have g:=u.dn k B P;dsimp only at g ⊢;by_cases G:k=D
     ·rw[gI G]at g ⊢;intro t c;rcases g t c with w|w
      ·exact .inl w
      ·rcases List.mem_cons.mp w with w|w
       ·left;rw[w,q];rfl
       ·exact .inr w
     ·rw[gl G]at g ⊢;exact g
   ·refine XA λb1 b2 b3 b4 b5 D b7 b8 b9=>?_;rintro⟨rfl,rfl,rfl,rfl,Q,_,j9,u,j8⟩;refine#[m-1,q0d,rfl,rfl,rfl,#[u.lo,u.tl,u.wk,λk B P=>?_,u.ch,u.sz],by dsimp only at j8 ⊢;omega,q0d,j9];have g:=u.dn k B P;dsimp only at g;by_cases G:k=D
    ·rw[gI G]at g;subst G;exact#[hy,λt c=>(g t c).elim id λw=>g8 w q0o]
    ·rw[gl G]at g;exact g
  by_cases q:y=p.2.1
  ·rw[gl (by simp[q]),gl gV];exact L λz=>g8 q z
  ·rw[gI<|by simp[q]];refine#[_,Gd N.ok O,?_];by_cases X:p.2.1∈xF p.1 (if y=p.2.1 then p.2.2.1 else wF p.1 y)
   ·rw[gI<|decide_eq_true X];obtain⟨mm,m1,m2⟩:=o.ch;refine⟨⟨mm,λk=>by have:=m1 k;have:=o.sz;omega,S,m2⟩,λr R=>h r<|iff_of_false R<|i7.fin (o.tl y S q) q S<|by rw[gl q]at X;exact X⟩
   ·rw[gl<|by simpa using X];exact L λ_=>by rw[gl q]at X;exact X
noncomputable abbrev Rj:ic:=Bk (top 23) 13
abbrev Rl:List Str:=["self","low","high"]
def Rm:uZ ["self","low","high","ring"] Rl (uQ Rj):=by walk_at "sc"
abbrev a0p(q:Cq)(k:Nat):=zN q C "tie" Rl (Q2) k
def Yb(F:yX q.K "tie" "Field.tie" Rj f D)(o:A1 q.K C)(x:Su q.K C)(b:wD q 4)(d:Gg q 4)(e:JC q 4)(g:Xc q.K q.mg "NotFace" XF)(k:Xc q.K q.mg "Tied" XT)(c:XcI q.P q.w q.K q.mg q.base 3 "RingOfArrows" XR "ring"):Gq q 5 f D Rl (Q2):=by
 refine' vc (Ea (vC q0q) (D':=(Bd C true)×Int×Int×(OL Int)×Unit) (ms:=[0]) (j:=1) F Rm rfl rfl λG A v s H E l =>
   (vg (wn (ve (wz 0 b 88)))
   (vg (wn (ve (wz 0 b (uW (ss 2) uU))))
   (vg (vF (tw_ninT (ss 1) (AM 0 o.cl o.nB (Df l) (pv 0) (ww 2 (pv 2))) (by with_unfolding_all rfl))
   (uS<|BQ rfl g)
   vv)
   (vg (vF (tw_w (CU (tw_val (ve (wz 0 d 88))) (Bi (tw_val (ve (wz 0 d (uW (ss 2) uU)))))))
   (uS<|BQ rfl k)
   vv)
   (vg (vk 3 Rm.nd (wz 0 e (uW (ss 1) (uW (ss 2) uU))))
   (vg (vF (tw_trueR (wm 3))
   (uS<|XZ (i:=3) (α:=Int) rfl c l<|pv 3)
   vv)
   (vg (G4 .ht 0 rfl o.cl x.nH (Df l) (pv 0) (ww 1 (pv 1)) (ss 2))
   (uS (G4 .th 0 rfl o.cl x.nT (Df l) (pv 0) (ww 2 (pv 2)) (ss 1))))))))))) λp I y h=>?_
 walk_at "wl"
 obtain⟨t,h⟩:=h;show if (61).isSome=true then _ else y XC 67;by_cases B:(61).isSome=true
 ·rw[gI B]at h ⊢;show if (lk p.1.rk p.2.2.1).isSome=true then _ else y XC 67;by_cases ht:(lk p.1.rk p.2.2.1).isSome=true
  ·rw[gI ht]at h ⊢;refine#[_,Gd t.ok ht,?_];by_cases u:p.2.1∈xF p.1 p.2.2.1
   ·rw[gI u]at h;rw[gl<|by simp[u]];show if wG p.1 p.2.1=true then _ else _;by_cases m:wG p.1 p.2.1=true
    ·rw[gI<|.inl m]at h;rw[gI m,gI rfl];exact h
    ·rw[gl m];show if wG p.1 p.2.2.1=true then _ else _;by_cases n:wG p.1 p.2.2.1=true
     ·rw[gI<|.inr n]at h;rw[gI n];exact h
     ·rw[gl<|λz=>z.elim m n]at h;rw[gl n];refine#[t,ht,by simpa using m,by simpa using n,λr l=>?_]
      cases r with
      |nil =>
       rw[gl q0o];have z:gL=16777216:=i8;exact#[(by show p.1.ht.length<gL;have:=t.len;omega),(by show p.1.th.length<gL;have:=t.a0o;omega),h.2<|l.mp rfl]
      |cons a r =>
       rw[gI q0o];exact h.1 λz=>by cases l.mpr z
   ·rw[gl u]at h;rw[gI<|by simp[u]];exact h
  ·rw[gl ht]at h ⊢;exact h
 ·rw[gl B]at h ⊢;exact h
end
structure YR(l:List Int):Prop where
 ri:yf l
 lt:∀c∈l,0<=c/\c<63
def YR.xr(d:YR a)(e:YR b):YR (xr a b):=#[Al d.ri,λc f=>(Qi (vt e.ri) f).elim (d.lt c)<|e.lt c]
def YR.mem(b:YR a):∀k∈a,k∈yW 0 63:=λk c=>AN (b.lt k c).1 (b.lt k c).2
section
variable{x:B0}
end
def HB :B0×Int×Unit->(Unit->B0×WL.Un×Unit->Prop)->(ci->B0×WL.Un×Unit->Prop)->Prop:=λp a b=>wG p.1 p.2.1=false/\Hl p a b
abbrev UO(q:Cq)(k:Nat):=zN q C "take" Ay (HB) k
section
variable{x:B0}
end
section
variable{q:Cq}{XL:ci}
end
noncomputable abbrev Le:ic:=top 27
abbrev yB:=V2
abbrev RW:=Option<|Int×List Int
noncomputable def rowAt(a:List RW)(k:Int):RW:=if 0<=k then (a[k.toNat]?).join else none
noncomputable def eb(a:List RW)(k:Int):List Int:=((rowAt a k).map (·.2)).getD []
structure Vr(rows:List RW):Prop where
 ok:∀k r e,rowAt rows k=↑(r,e)->0<=r/\r<=12/\yf e/\(∀c∈e,c<k/\∃e',rowAt rows c=↑(r-1,e'))/\wx (eb rows) e=[]
 ln:rows.length<=60
 sm:∀k r e,rowAt rows k=↑(r,e)->∀c∈e,c<35
def Lp(a:List RW)(q:Int×List Int):Prop:=yf q.2/\(∀c∈q.2,∃e,rowAt a c=↑(q.1,e))/\wx (eb a) q.2=[]
noncomputable def EK(a:List RW):List Int:=(yW 0 a.length).filter λk=>(rowAt a k).isSome
noncomputable def Cc:List RW:=[↑(0,[]),↑(0,[]),↑(0,[]),↑(0,[]),↑(1,[0,1]),↑(1,[0,2]),↑(1,[0,3]),↑(1,[1,2]),↑(1,[1,3]),↑(1,[2,3]),↑(2,[4,5,7]),↑(2,[4,6,8]),↑(2,[5,6,9]),↑(2,[7,8,9]),↑(3,[10,11,12,13])]
def HC:Wf (Bg×Unit) Int (Bg×Unit):=λp a _=>∀r,0<=r->r<=12->a r (#[],())
def Lf:Wf (List Int×List Int×Unit) (OL Int) (WL.Un×WL.Un×Unit):=λp a _=>(p.1.length<=1000/\p.2.1.length<=1000/\(p.1.filter λk=>!decide (k∈p.2.1)).length+(p.2.1.filter λk=>!decide (k∈p.1)).length<64)/\a #[jn p.1 p.2.1] (#[],#[],())
def Rn:Wf (List RW×Unit) (OL Int) (WL.Un×Unit):=λp a _=>p.1.length<1000/\a #[EK p.1] (#[],())
def Ro:Wf (Bg×List Int×Unit) (OL Int) (Bg×WL.Un×Unit):=λp a _=>p.2.1.length<60/\∀l,yf l->(∀x∈l,x∈p.2.1)->a #[l] (#[],#[],())
def Rp:Wf (List RW×List Int×Unit) (OL Int) (WL.Un×WL.Un×Unit):=λp a _=>Vr p.1/\(∀c∈p.2.1,(rowAt p.1 c).isSome=true)/\a #[wx (eb p.1) p.2.1] (#[],#[],())
def HD:Wf (Int×Unit) Bool (WL.Un×Unit):=λp a _=>a true (#[],())
def Rq:Wf (List Int×Unit) Bool (WL.Un×Unit):=λp a _=>a true (#[],())
def Lg:Wf (List Int×List Int×Unit) Bool (WL.Un×WL.Un×Unit):=λp a _=>a (decide<|p.1=p.2.1) (#[],#[],())
def MP:Wf (Int×Unit) (OL RW) (WL.Un×Unit):=λp a _=>0<=p.1/\a #[Cc.take p.1.toNat] (#[],())
def AO:Wf (OL RW×OL 90×Int×Bg×Unit) (OL Int) (OL RW×OL 90×WL.Un×Bg×Unit):=λp a _ =>
 Vr p.1.l/\p.1.l.length<=34/\p.2.1.l.length<=100/\(∀q∈p.2.1.l,Lp p.1.l q)/\0<=p.2.2.1/\p.2.2.1<=12 /\
 ∀e q,Vr (p.1.l++[↑(p.2.2.1,e)])->(∀u∈p.2.1.l++q,Lp (p.1.l++[↑(p.2.2.1,e)]) u)->q.length<=1->a #[e] (p.1,#[p.2.1.l++q],#[],#[],())
def Rr:Wf (Bg×Int×Unit) (OL RW) (Bg×WL.Un×Unit):=λp b _=>(0<=p.2.1/\p.2.1<=20)/\∀a,Vr a->a.length<=35->b #[a] (#[],#[],())
structure yC(x:B0)(rows:List RW):Prop where
 up:x.up=rows.length
 rk:∀k,lk x.rk k=(rowAt rows k).map (·.1)
 bd:∀k,lk x.bd k=(rowAt rows k).map (·.2)
 ks:x.rk.map (·.1)=EK rows
 lb:x.bd.length<=rows.length
def Rs :B0×List RW×Unit->(B0->WL.Un×WL.Un×Unit->Prop)->(ci->WL.Un×WL.Un×Unit->Prop)->Prop:=λp a _=>p.1=#[[],[],0,[],[]]/\Vr p.2.1/\∀x:B0,yC x p.2.1->x.ht=[]->x.th=[]->a x (#[],#[],())
def HE:Wf (Bool×Bool×Unit) Bool (WL.Un×WL.Un×Unit):=λp a _=>a (decide<|p.1=p.2.1) (#[],#[],())
def B9 :B0×List RW×Unit->(Bool->B0×WL.Un×Unit->Prop)->(ci->B0×WL.Un×Unit->Prop)->Prop:=λp a _=>yC p.1 p.2.1/\Vr p.2.1/\a true 65
def yj{b:Type}{l:List b}{i:Int}(c:0<=i)(d:i<(l.length:Int)):∃x,Ff l i=↑x/\l[i.toNat]?=↑x/\x∈l:=by
 have a:i.toNat<l.length:=by lia
 have e:l[i.toNat]?=↑l[i.toNat]:=jp a;have:=Mb e;rw[show ((i.toNat:Nat):Int)=i by lia]at this;exact#[_,this,e,uJ a]
def HF{n k:Int}(h:k∈yW 0 n):0<=k/\k<n:=by
 unfold yW at h;obtain⟨i,a,e⟩:=List.mem_map.mp h;have:=List.mem_range.mp a
 lia
def vp{k:Int}(h:rowAt rows k=↑y):0<=k/\k<(rows.length:Int)/\rows[k.toNat]?=↑(some y)/\Ff rows k=↑(some y):=by
 unfold rowAt at h;by_cases a:0<=k
 ·rw[gI a]at h
  cases e:rows[k.toNat]? with
  |none=>rw[e]at h;cases h
  |some z =>
   rw[e]at h;have h:z=↑y:=h;subst h;have f:=(List.getElem?_eq_some_iff.mp e).1;have b:k<(rows.length:Int):=by omega
   obtain⟨x,d,c,_⟩:=yj a b;rw[e]at c;cases c;exact#[a,b,rfl,d]
 ·rw[gl a]at h;cases h
def EL{k:Int}(a:0<=k)(e:rows[k.toNat]?=↑z):rowAt rows k=z:=by unfold rowAt;rw[gI a,e];rfl
def Vr.Yc(v:Vr rows){k:Int}(h:rowAt rows k=↑y):yf y.2/\∀x∈y.2,x∈yW 0 35:=by obtain⟨_,_,b,c,_⟩:=v.ok k y.1 y.2 h;refine#[b,λx a=>?_];obtain⟨_,f,d⟩:=c x a;obtain⟨e,g,_⟩:=vp d;exact AN e<|v.sm k y.1 y.2 h x a
def yD{k:Int}(h:rowAt rows k=↑y):eb rows k=y.2:=by unfold eb;rw[h];rfl
def Yd(a:List b){n:Int}(h:0<=n):Fp a none ↑n=a.take n.toNat:=by unfold Fp;rw[show ↑n=some ((n.toNat:Nat):Int) by rw[show ((n.toNat:Nat):Int)=n by lia],HT.L6,HT.IC];simp
def wH{n:Int}(a:0<n)(b:n<1073741824)(h:∀r,0<=r->r<n->c r (#[],#[],())):yB (g,n,()) c d:=#[a,b,h]
def vX:rowAt (rows++[z]) (rows.length:Int)=z:=by refine EL q0a ?_;rw[lq,jK<|gK _,qC];rfl
def wj{a:List RW}{k:Int}(h:k≠(a.length:Int)):rowAt (a++[z]) k=rowAt a k:=by
 unfold rowAt;by_cases b:0<=k
 ·rw[gI b,gI b];by_cases c:k.toNat<a.length
  ·rw[lN c]
  ·rw[ku (by rw[gW,hW];lia),ku q0a]
 ·rw[gl b,gl b]
def HG{a:List RW}{k:Int}(h:k≠(a.length:Int)):eb (a++[z]) k=eb a k:=by unfold eb;rw[wj h]
def yd{k:Int}(h:rowAt rows k=↑y):k≠(rows.length:Int):=λz=>by
 have:=(vp h).2.1
 lia
def HH(v:Vr rows)(p:rows.length<=35)(m:∀r e,z=↑(r,e)->0<=r/\r<=12/\yf e/\(∀c∈e,∃g,rowAt rows c=↑(r-1,g))/\wx (eb rows) e=[]):Vr (rows++[z]):=by
 refine#[λk r e h=>?_,by rw[gW,hW];lia,λk r e h c n=>?_]
 rotate_left
 ·by_cases q:k=(rows.length:Int)
  ·rw[q,vX]at h;obtain⟨g,i⟩:=(m r e h).2.2.2.1 c n;have:=(vp i).2.1
   lia
  ·rw[wj q]at h;exact v.sm k r e h c n
 have j:∀{k r e},0<=r/\r<=12/\yf e/\(∀c∈e,c<k/\∃g,rowAt rows c=↑(r-1,g))/\wx (eb rows) e=[]->0<=r/\r<=12/\yf e/\(∀c∈e,c<k/\∃g,rowAt (rows++[z]) c=↑(r-1,g))/\wx (eb<|rows++[z]) e=[]:=λ{k r e} ⟨a,b,c,d,f⟩=>by
  refine#[a,b,c,λx l=>?_,?_]
  ·obtain⟨o,g,i⟩:=d x l;exact#[o,g,by rw[wj<|yd i];exact i]
  ·rw[<- f];refine xE λx l=>?_;obtain⟨_,g,i⟩:=d x l;exact HG<|yd i
 by_cases q:k=(rows.length:Int)
 ·rw[q,vX]at h;obtain⟨a,b,c,d,f⟩:=m r e h;refine j #[a,b,c,λx l=>?_,f];obtain⟨g,i⟩:=d x l;exact#[by have:=(vp i).2.1;lia,g,i]
 ·rw[wj q]at h;exact j<|v.ok k r e h
def EM(h:Lp rows u):Lp (rows++[z]) u:=by
 obtain⟨a,b,c⟩:=h;refine#[a,λx d=>?_,?_]
 ·obtain⟨e,q⟩:=b x d;exact#[e,by rw[wj<|yd q];exact q]
 ·rw[<- c];refine xE λx d=>?_;obtain⟨e,q⟩:=b x d;exact HG<|yd q
def Rt{r:Int}:Lp (rows++[↑(r,[])]) (r,[(rows.length:Int)]):=by
 refine#[jV _ _,λx a=>#[[],?_],?_]
 ·rw[List.mem_singleton.mp a,vX]
 ·show xr [] (eb (rows++[↑(r,[])]) (rows.length:Int))=[];rw[yD (y:=(r,[])) vX];rfl
def UP(h:yf e):xr e e=[]:=GV (Al h) iw λk=>by rw[Bj<|vt h];by_cases q:k∈e<;>simp[q]
def Oc{c:Int}:wx f (l++[c])=xr (wx f l) (f c):=by unfold wx Oz;rw[jE,List.foldl_append];rfl
def Od{r:Int}(v:Vr rows)(p:yf l)(h:∀c∈l,∃e,rowAt rows c=↑(r,e)) :
  (∀c∈wx (eb rows) l,∃n,rowAt rows c=↑(r-1,n))/\wx (eb rows) (wx (eb rows) l)=[]/\Lp (rows++[↑(r,wx (eb rows) l)]) (r,l++[(rows.length:Int)]):=by
 have m:∀c∈l,yf (eb rows c)/\(∀d∈eb rows c,∃n,rowAt rows d=↑(r-1,n))/\wx (eb rows) (eb rows c)=[]:=λc i=>by obtain⟨e,j⟩:=h c i;obtain⟨_,_,a,b,f⟩:=v.ok c r e j;rw[yD j];exact#[a,λd k=>(b d k).2,f]
 have s:∀{d q},rowAt rows d=↑q->(eb rows d).Nodup:=λ{d q} k=>by rw[yD k];exact vt (v.Yc k).1
 refine#[λc i=>?_,NN λc i=>#[(m c i).1,λd k=>?_,(m c i).2.2],?_,λx o=>?_,?_]
 ·obtain⟨d,k,o⟩:=Jd (λc i=>vt (m c i).1) i;exact(m d k).2.1 c o
 ·obtain⟨n,q⟩:=(m c i).2.1 d k;exact s q
 ·refine List.pairwise_append.mpr #[p,jV _ _,λa t b u=>?_];obtain⟨e,j⟩:=h a t;rw[List.mem_singleton.mp u];exact(vp j).2.1
 ·rcases List.mem_append.mp o with z|z
  ·obtain⟨e,j⟩:=h x z;exact#[e,by rw[wj<|yd j];exact j]
  ·rw[List.mem_singleton.mp z];exact#[_,vX]
 ·show wx _ (l++[(rows.length:Int)])=[];rw[Oc,yD (y:=(r,wx (eb rows) l)) vX,xE (g:=eb rows) λc i=>?_]
  ·exact UP<|zh _ _
  ·obtain⟨e,j⟩:=h c i;exact HG<|yd j
def Lp.sub{a:List RW}(c:a.length<=35)(h:Lp a u):∀x∈u.2,x∈yW 0 35:=λx b=>by obtain⟨e,q⟩:=h.2.1 x b;have:=vp q;exact AN q0a q0a
def yP{k:Int}:k∈EK rows↔(rowAt rows k).isSome=true:=by unfold EK;rw[jL];refine#[λh=>h.2,λh=>#[?_,h]];obtain⟨y,a⟩:=Option.isSome_iff_exists.mp h;have:=vp a;exact AN this.1 this.2.1
def Ca(a:List RW):(EK a).length<=a.length:=by
 have:=hX (λk=>(rowAt a k).isSome)<|yW 0 a.length;rw[wK]at this;unfold EK
 lia
def MQ(c:List RW):yf (EK c):=by
 refine jM _ ?_;unfold yW;rw[List.pairwise_map];refine oT ?_<|sH;intro a b h
 lia
def Ru(n:Nat):yW 0 ((n+1:Nat):Int)=yW 0 (n:Int)++[(n:Int)]:=by unfold yW;rw[show (((n+1:Nat):Int)-0).toNat=n+1 by lia,show ((n:Int)-0).toNat=n by lia,List.range_succ,jE];simp
def UQ:EK (rows++[z])=EK rows++if z.isSome=true then [(rows.length:Int)] else []:=by
 unfold EK;rw[gW,hW,Ru,List.filter_append];congr 1
 ·refine oh λk a=>?_;rw[wj (by have:=HF a;lia)]
 ·rw[jo,vX];rfl
def Rv:EK (rows++[↑y])=EK rows++[(rows.length:Int)]:=UQ
def Gh{a:List RW}{k:Int}(h:(a.length:Int)<=k):rowAt a k=none:=by
 cases e:rowAt a k with
 |none=>rfl
 |some y=>have:=(vp e).2.1;omega
def CH{a:List RW}{j k:Int}(c:0<=j):rowAt (a.set j.toNat none) k=if k=j then none else rowAt a k:=by
 by_cases q:k=j
 ·rw[gI q,q];unfold rowAt;rw[gI c];by_cases d:j.toNat<a.length
  ·rw[oK d];rfl
  ·rw[ku<|by rw[lZ];lia];rfl
 ·rw[gl q];unfold rowAt;by_cases b:0<=k
  ·rw[gI b,gI b,mW q0a]
  ·rw[gl b,gl b]
def Rx{a:List RW}{j:Int}(b:0<=j):EK (a.set j.toNat none)=(EK a).filter λk=>!decide (k=j):=by unfold EK;rw[lZ,List.filter_filter];refine oh λk _=>?_;rw[CH b];by_cases q:k=j<;>simp[q]
section
variable{x:B0}{rows:List RW}
def yC.lr(c:yC x rows):x.rk.length<=rows.length:=by have:=congrArg nZ c.ks;rw[gM]at this;rw[this];exact Ca rows
def yC.okb(c:yC x rows)(v:Vr rows):QQ x:=by
 have l:=v.ln;have g:=c.lr;have i:=c.lb;refine#[λk h=>?_,λk b h=>?_,by rw[c.ks];exact(MQ rows).imp Int.le_of_lt,q0a,q0a]
 ·rw[c.rk,iG]at h;rw[c.bd,iG];exact h
 ·rw[c.bd]at h
  cases e:rowAt rows k with
  |none=>rw[e]at h;cases h
  |some y =>
   rw[e]at h;cases h;obtain⟨_,_,a,b,_⟩:=v.ok k y.1 y.2 e;refine#[a,λd f=>?_];obtain⟨j,q⟩:=(b d f).2;have:=vp q;exact#[this.1,by have:=v.sm k y.1 y.2 e d f;lia]
def yC.xF(c:yC x rows)(k:Int):xF x k=eb rows k:=by unfold K7.xF eb;rw[c.bd]
def yC.put(c:yC x rows){r:Int}:yC ({ x with rk:=pk x.rk x.up r,bd:=pk x.bd x.up e,up:=x.up+1}:B0) (rows++[↑(r,e)]):=by
 have n:rowAt rows x.up=none:=Gh (by rw[c.up];exact om _);have a:lk x.rk x.up=none:=by rw[c.rk,n];rfl
 have b:lk x.bd x.up=none:=by rw[c.bd,n];rfl
 have d:=c.lr;have f:=c.lb;refine#[?_,λk=>?_,λk=>?_,?_,?_]
 ·show x.up+1=_;rw[c.up,gW,hW]
  lia
 ·show lk (pk x.rk x.up r) k=_;rw[yT a,K6 a];by_cases q:k=x.up
  ·rw[gI q,q,c.up,vX];rfl
  ·rw[gl q,wj (by rw[<- c.up];exact q),c.rk]
 ·show lk (pk x.bd x.up e) k=_;rw[yT b,K6 b];by_cases q:k=x.up
  ·rw[gI q,q,c.up,vX];rfl
  ·rw[gl q,wj (by rw[<- c.up];exact q),c.bd]
 ·show (pk x.rk x.up r).map (·.1)=_;rw[yT a,jE,c.ks,Rv,<- c.up];rfl
 ·show (pk x.bd x.up e).length<=_;rw[yT b,gW,gW,hW,hW]
  lia
def yC.take(c:yC x rows){j:Int}(a:0<=j):yC ({ x with rk:=dk x.rk j,bd:=dk x.bd j}:B0) (rows.set j.toNat none):=by
 have d:=c.lr;have b:=c.lb;refine#[by rw[lZ];exact c.up,λk=>?_,λk=>?_,?_,?_]
 ·show lk (dk x.rk j) k=_;rw[B7,CH a,c.rk];split<;>rfl
 ·show lk (dk x.bd j) k=_;rw[B7,CH a,c.bd];split<;>rfl
 ·show (dk x.rk j).map (·.1)=_;rw[Rx a,<- c.ks];unfold dk;rw[qX];congr 1;refine oh λe _=>?_;by_cases q:e.1=j<;>simp[q]
 ·rw[lZ];exact ij (hX _ _) b
def yC.xg(c:yC x rows)(h:∀k∈row,(rowAt rows k).isSome=true):xg x row=true:=List.all_eq_true.mpr λk a=>by rw[c.rk,iG];exact h k a
def Ry{r:Int}(c:yC x rows)(v:Vr rows)(l:0<=r)(m:r<=12)(i:yf e)(g:∀d∈e,∃b,rowAt rows d=↑(r-1,b))(j:wx (eb rows) e=[])
 (k:∀a:B0,yC a (rows++[↑(r,e)])->a.ht=x.ht->a.th=x.th->h x.up (a,#[],#[],())):Jw (x,r,e,()) h o:=by
  have n:rowAt rows x.up=none:=Gh (by rw[c.up];exact om _)
  refine#[c.okb v,(by show lk x.bd x.up=none;rw[c.bd,n];rfl),?_]
  show if r<0\/12<r then _ else if asc e=true then (if K7.xg x e=true then (if Uy x e (r-1)=true then (if Oz (e.map<|K7.xF x)=[] then h x.up _ else _) else _) else _) else _
  rw[gl q0a,gI<|(AK e).mpr i,gI (c.xg λd f=>by obtain⟨b,q⟩:=g d f;rw[q];rfl),gI,gI]
  · exact k _ c.put rfl rfl
  · rw[lU λd _ => c.xF d]
    exact j
  · refine List.all_eq_true.mpr λd f => decide_eq_true ?_
    obtain⟨b,q⟩:=g d f
    rw[c.rk,q]
    rfl
def MR(c:yC x rows){j h:Int}:h∈X6 x j↔(rowAt rows h).isSome=true/\j∈eb rows h:=by
 unfold X6;rw[jL,ie,c.xF];constructor
 ·rintro⟨a,b⟩;have:=xH a;rw[c.rk,iG]at this;exact#[this,b]
 ·rintro⟨a,b⟩;exact#[zD (by rw[c.rk,iG];exact a),b]
def UR(c:yC x rows){j:Int}:X6 x j=[]↔∀h,j∉eb rows h:=by
 rw[List.eq_nil_iff_forall_not_mem];constructor
 ·intro z h a;refine z h ((MR c).mpr #[?_,a])
  cases e:rowAt rows h with
  |none=>unfold eb at a;rw[e]at a;cases a
  |some y=>rfl
 ·intro z h a;exact z h ((MR c).mp a).2
def US{j:Int}(c:yC x rows)(v:Vr rows)(b:(rowAt rows j).isSome=true)(e:∀h,j∉eb rows h)(f:wG x j=false)
 (k:∀a:B0,yC a (rows.set j.toNat none)->a.ht=x.ht->a.th=x.th->d () (a,#[],())):HB (x,j,()) d i:=by
  refine#[f,c.okb v,?_]
  show if (lk x.rk j).isSome=true then (if X6 x j=[] then d () _ else _) else _
  rw[gI (by rw[c.rk,iG];exact b),gI<|(UR c).mpr e]
  obtain⟨y,g⟩:=Option.isSome_iff_exists.mp b
  exact k _ (c.take (vp g).1) rfl rfl
end
def xN{a:List RW}{n:Nat}{j:Int}:rowAt (a.take n) j=if j<(n:Int) then rowAt a j else none:=by
 unfold rowAt;by_cases b:0<=j
 ·rw[gI b,gI b,t7];by_cases c:j<(n:Int)
  ·rw[gI c,gI q0d]
  ·rw[gl c,gl q0d];rfl
 ·rw[gl b,gl b];split<;>rfl
def UT(v:Vr rows)(n:Nat):Vr (rows.take n):=by
 refine#[λk r e h=>?_,ij (List.length_take_le' _ _) v.ln,λk r e h=>?_]
 rotate_left
 ·rw[xN]at h;split at h
  ·exact v.sm k r e h
  ·cases h
 rw[xN]at h;by_cases q:k<(n:Int)
 ·rw[gI q]at h;obtain⟨a,b,c,d,f⟩:=v.ok k r e h;refine#[a,b,c,λx g=>#[(d x g).1,?_],?_]
  ·obtain⟨l,i,j⟩:=d x g;exact#[i,by rw[xN,gI q0a];exact j]
  ·rw[<- f];refine xE λx g=>?_;have:=(d x g).1;unfold eb;rw[xN,gI q0a]
 ·rw[gl q]at h;cases h
noncomputable def LpB(a:List RW)(u:Int×List Int):Bool:=asc u.2&&u.2.all (λc=>decide ((rowAt a c).map (·.1)=↑u.1))&&decide (wx (eb a) u.2=[])
def MS{c r:Int}(h:(rowAt rows c).map (·.1)=↑r):∃e,rowAt rows c=↑(r,e):=by
 cases e:rowAt rows c with
 |none=>rw[e]at h;cases h
 |some y=>rw[e]at h;cases h;exact#[y.2,rfl]
def Rz(h:LpB rows u=true):Lp rows u:=by unfold LpB at h;rw[iq,iq]at h;exact#[(AK _).mp h.1.1,λc a=>MS<|jP<|List.all_eq_true.mp h.1.2 c a,jP h.2]
noncomputable def VrB(rows:List RW):Bool:=decide (rows.length<=27)&&(h8 rows.length).all λk=>match rowAt rows (k:Int) with
 |none=>true
 |some (r,e)=>decide (0<=r)&&decide (r<=12)&&asc e&&e.all (λc=>decide (c<(k:Int))&&decide ((rowAt rows c).map (·.1)=↑(r-1)))&&decide (wx (eb rows) e=[])
def RA(h:VrB rows=true):Vr rows:=by
 unfold VrB at h;rw[iq]at h;have f:=jP h.1
 suffices g:∀k r e,rowAt rows k=↑(r,e)->0<=r/\r<=12/\yf e/\(∀c∈e,c<k/\∃d,rowAt rows c=↑(r-1,d))/\wx (eb rows) e=[] from#[g,q0d,λk r e a c b=>by
  have:=((g k r e a).2.2.2.1 c b).1;have:=vp a
  omega]
 intro k r e a;have q:=vp a;have z:=List.all_eq_true.mp h.2 k.toNat<|List.mem_range.mpr q0d;rw[show ((k.toNat:Nat):Int)=k by omega,a]at z;simp only[iq,ie,oB]at z;exact⟨z.1.1.1.1,z.1.1.1.2,(AK _).mp z.1.1.2,λc b=>#[(z.1.2 c b).1,MS (z.1.2 c b).2],z.2⟩
noncomputable def YS(n:Nat):List 90:=(yW 0 n).filterMap λk=>if decide (k<4)=true then some (0,[k]) else none
noncomputable def lp1:List 90:=[(1,[4,5,7]),(1,[4,6,8]),(1,[5,6,9])]
noncomputable def chk(m:Nat):Bool:=VrB (Cc.take m)&&(YS (Cc.take m).length).all (LpB<|Cc.take m)&&decide ((YS (Cc.take m).length).length<=4)&&decide ((Cc.take m).length<=15)&&(decide ((Cc.take m).length<=9)||lp1.all (LpB<|Cc.take m))
def UU:(h8 16).all chk=true:=by decide +kernel
def RB(c:yf a)(d:yf b)(f:∀k∈a,k∈yW 0 35)(g:∀k∈b,k∈yW 0 35):a.length<=1000/\b.length<=1000/\(a.filter λk=>!decide (k∈b)).length+(b.filter λk=>!decide (k∈a)).length<64:=by
 have i:=wC c f;have j:=wC d g;have h:=SX.za ((a.filter λk=>!decide (k∈b))++b.filter λk=>!decide (k∈a)) (yW 0 35) (List.nodup_append.mpr #[(vt c).filter _,(vt d).filter _,λx l y m e=>?_]) λk n=>?_
 ·rw[gW]at h;rw[wK]at i j h
  lia
 ·have q:=(List.mem_filter.mp l).2;rw[e]at q;simp[(List.mem_filter.mp m).1]at q
 ·rcases List.mem_append.mp n with z|z
  ·exact f k (List.mem_filter.mp z).1
  ·exact g k (List.mem_filter.mp z).1
def UV{a b:List Int}(h:a.length+b.length<64):a.length<=1000/\b.length<=1000/\(a.filter λk=>!decide (k∈b)).length+(b.filter λk=>!decide (k∈a)).length<64:=by
 have c:=hX (λk=>!decide (k∈b)) a;have d:=hX (λk=>!decide (k∈a)) b
 lia
def MT(e:a=b)(k:c true (#[],#[],())):Lg (a,b,()) c d:=by show c (decide<|a=b) _;rw[decide_eq_true e];exact k
def RC{a b:Bool}(e:a=b)(k:c true (#[],#[],())):HE (a,b,()) c d:=by show c (decide<|a=b) _;rw[decide_eq_true e];exact k
def yC.a0s(c:yC x rows)(k:Int):(lk x.rk k).isSome=decide (k∈EK rows):=by
 rw[c.rk,iG];by_cases q:(rowAt rows k).isSome=true
 ·rw[q,decide_eq_true<|yP.mpr q]
 ·rw[ig<|λz=>q<|yP.mp z];simpa using q
def yC.Uz(c:yC x rows){k:Int}(h:rowAt rows k=↑y):Uz x k=y.1:=by unfold K7.Uz;rw[c.rk,h];rfl
def MU{k:Int}{y:Int×List Int}{a:Int->B0×WL.Un×Unit->Prop}{b:ci->B0×WL.Un×Unit->Prop}(c:yC x rows)(h:rowAt rows k=↑y)(g:a y.1 (x,#[],())):B3 (x,k,()) a b:=by show if (lk x.rk k).isSome=true then a (K7.Uz x k) _ else _;rw[gI (by rw[c.rk,h];rfl),c.Uz h];exact g
def Oe{k:Int}{y:Int×List Int}{a:OL Int->B0×WL.Un×Unit->Prop}{b:ci->B0×WL.Un×Unit->Prop}(c:yC x rows)(v:Vr rows)(h:rowAt rows k=↑y)(g:a #[y.2] (x,#[],())):As (x,k,()) a b:=by refine#[c.okb v,?_];show if (lk x.rk k).isSome=true then a #[K7.xF x k] _ else _;rw[gI (by rw[c.rk,h];rfl),c.xF,yD h];exact g
def EN{n:Int}(k:b true (#[],())):HD (n,()) b c:=k
/-! ### a -/
def a0t(v:Vr rows)(n:rows.length<=59):Vr (rows++[↑(0,[])]):=by
 refine#[λk r e h=>?_,by rw[gW,hW];lia,λk r e h c j=>?_]
 ·by_cases q:k=(rows.length:Int)
  ·rw[q,vX]at h;cases h;exact#[om 0,q0q,iw,(λ_ z=>by cases z),rfl]
  ·rw[wj q]at h;obtain⟨a,b,c,d,f⟩:=v.ok k r e h;refine#[a,b,c,λx i=>?_,?_]
   ·obtain⟨m,l,g⟩:=d x i;exact#[m,l,by rw[wj<|yd g];exact g]
   ·rw[<- f];refine xE λx i=>?_;obtain⟨_,l,g⟩:=d x i;exact HG<|yd g
 ·by_cases q:k=(rows.length:Int)
  ·rw[q,vX]at h;cases h;cases j
  ·rw[wj q]at h;exact v.sm k r e h c j
def UW:yC (#[[],[],0,[],[]]:B0) []:=by
 have n:∀k,rowAt [] k=none:=λk=>by unfold rowAt;split<;>rfl
 exact#[rfl,(λk=>by rw[n];rfl),(λk=>by rw[n];rfl),rfl,gK _]
structure Arr(x:B0)(a:List (Int×Int)):Prop where
 ok:DD x
 nt:(x.th.map (·.1)).Nodup
 pm:(a.map (·.1)).Perm (wT x)
 hd:∀e∈a,wF x e.1=e.2
def a2E :B0×List RW×Bg×Int×Unit->(OL (Int×Int)->B0×WL.Un×Bg×WL.Un×Unit->Prop)->(ci->B0×WL.Un×Bg×WL.Un×Unit->Prop)->Prop:=λp b _ =>
 yC p.1 p.2.1/\Vr p.2.1/\p.2.1.length<=35/\p.1.ht=[]/\p.1.th=[]/\(0<=p.2.2.2.1/\p.2.2.2.1<=1000)/\∀x a,yC x p.2.1->Arr x a->(a.map (·.1)).Pairwise (·<=·)->b #[a] (x,#[],#[],#[],())
def a1b :Bg×Int×Unit->(T3 (B0) (OL RW) (OL<|Int×Int)->Bg×WL.Un×Unit->Prop)->(ci->Bg×WL.Un×Unit->Prop)->Prop:=λp c _ =>
 (0<=p.2.1/\p.2.1<=20)/\∀x b a,yC x b->Vr b->b.length<=35->Arr x a->(a.map (·.1)).Pairwise (·<=·)->c #[x,#[b],#[a]] (#[],#[],())
def MV:Wf (List (Int×Int)×Unit) (OL Int) (WL.Un×Unit):=λp a _=>p.1.length<64/\a #[Fd (p.1.map (·.2))] (#[],())
noncomputable def Wg(b:List RW)(a:List (Int×Int)):List Int:=(EK b).filter λk=>!decide (k∈a.map (·.1)++Fd (a.map (·.2)))
def JD:Wf (List (Int×Int)×Unit) (OL Int) (WL.Un×Unit):=λp a _=>p.1.length<64/\a #[p.1.map (·.1)] (#[],())
def a2F:Wf (List RW×List (Int×Int)×Unit) (OL Int) (WL.Un×WL.Un×Unit):=λp a _=>p.1.length<1000/\p.2.1.length<64/\a #[Wg p.1 p.2.1] (#[],#[],())
def w_sum:Wf (List Int×Unit) Bool (WL.Un×Unit):=λp a _=>yf p.1/\p.1.length<=1000/\a true (#[],())
def JE:Wf (List Int×List Int×Unit) (OL Int) (WL.Un×WL.Un×Unit):=λp a _=>p.1.length<=1000/\a #[p.1.filter λk=>decide<|k∈p.2.1] (#[],#[],())
def a2G(h:yf l){k:Int}(p:1<=k)(c:k<l.length):∃a b,Ff l (k-1)=↑a/\Ff l k=↑b/\a<b:=by obtain⟨a,d,e,_⟩:=yj (l:=l) (i:=k-1) q0a q0a;obtain⟨b,f,g,_⟩:=yj (l:=l) (i:=k) q0a c;obtain⟨j,m⟩:=List.getElem?_eq_some_iff.mp e;obtain⟨n,o⟩:=List.getElem?_eq_some_iff.mp g;refine#[a,b,d,f,?_];rw[<- m,<- o];exact(List.pairwise_iff_getElem.mp h) _ _ j n q0a
def a2H(k:a true (#[],())):Rq (l,()) a b:=k
def a0u{n k:Int}(h:k∈yW 1 n):1<=k/\k<n:=by unfold yW at h;obtain⟨i,a,e⟩:=List.mem_map.mp h;have:=List.mem_range.mp a;omega
def MW:Wf (List (Int×Int)×List (Int×Int)×Unit) Bool (WL.Un×WL.Un×Unit):=λp a _=>p.1=p.2.1/\p.1.length<64/\a true (#[],#[],())
def RD :B0×List RW×List (Int×Int)×Unit->(Bool->B0×WL.Un×WL.Un×Unit->Prop)->(ci->B0×WL.Un×WL.Un×Unit->Prop)->Prop:=λp Kn _ =>
 (yC p.1 p.2.1/\Vr p.2.1/\p.2.1.length<=35/\Arr p.1 p.2.2.1/\(p.2.2.1.map (·.1)).Pairwise (·<=·))/\Kn true 67
def Arr.eq{x:B0}{a:List (Int×Int)}(A:Arr x a)(s:(a.map (·.1)).Pairwise (·<=·)):(Fd<|wT x).map (λl=>(l,wF x l))=a:=by rw[ze ((xV _).trans A.pm.symm) (BF _) s,kT];exact(lU λy hy=>by show (y.1,wF x y.1)=y;rw[A.hd y hy]).trans<|List.map_id _
def Ye{l:List (Int×Int)}(h:l.Pairwise (λx y=>SX.Ij y x=false)):(l.map (·.1)).Pairwise (·<=·):=List.pairwise_map.mpr (h.imp λ{p q} z=>by rcases SX.EA.mp z with z|z<;>omega)
def w_head:Wf (List (Int×Int)×Int×Unit) Int (WL.Un×WL.Un×Unit):=λp a _=>(∃e∈p.1,e.1=p.2.1)/\∀e∈p.1,e.1=p.2.1->a e.2 (#[],#[],())
def w_next:Wf (List RW×List (Int×Int)×Int×Unit) (OL Int) (WL.Un×WL.Un×WL.Un×Unit):=λp a _ =>
 ((∀e∈p.2.1,e.1=p.2.2.1->∃y,rowAt p.1 e.2=↑y)/\(∃e∈p.2.1,e.1=p.2.2.1)/\p.2.1.length<64)/\∀e∈p.2.1,e.1=p.2.2.1->(eb p.1 e.2).length<=1000/\a #[(eb p.1 e.2).filter λk=>decide (k≠p.2.2.1)&&decide (k∈p.2.1.map (·.1))] (#[],#[],#[],())
def Acr(b:List RW)(a:List (Int×Int)):Prop:=∃r:Int->Nat,∀e∈a,∀t∈eb b e.2,t≠e.1->t∈a.map (·.1)->r e.1<r t
def JF:Wf (List RW×List (Int×Int)×Unit) Bool (WL.Un×WL.Un×Unit):=λp a _ =>
 ((∀e∈p.2.1,∃y,rowAt p.1 e.2=↑y/\y.2.length<=95)/\(∃h:Int->Int,∀e∈p.2.1,h e.1=e.2)/\p.2.1.length<64)/\∀b:Bool,(b=true↔¬Acr p.1 p.2.1)->a b (#[],#[],())
def AB :B0×Int×Int×Unit->(Str->B0×WL.Un×WL.Un×Unit->Prop)->(ci->B0×WL.Un×WL.Un×Unit->Prop)->Prop:=λp a _ =>
 (DD p.1/\(61).isSome=true/\(lk p.1.rk p.2.2.1).isSome=true/\p.2.1∈xF p.1 p.2.2.1/\wG p.1 p.2.1=false/\wG p.1 p.2.2.1=false) /\
 (¬N7 (yS p.1 p.2.1 p.2.2.1)->a "ring" 67)/\(N7 (yS p.1 p.2.1 p.2.2.1)->a "tied" (yS p.1 p.2.1 p.2.2.1,#[],#[],()))
def nx(b:List RW)(a:List (Int×Int))(h:Int->Int)(k:Int):List Int:=(eb b<|h k).filter λt=>decide (t≠k)&&decide (t∈a.map (·.1))
def prn(f:Int->List Int)(L:List Int):List Int:=L.filter λk=>!decide ((f k).filter (λt=>decide<|t∈L)=[])
def Yf{k:Int}(m:k∈L)(h:k∉prn f L):∀t∈f k,t∉L:=λt b c=>h (List.mem_filter.mpr #[m,by
 have z:t∈(f k).filter (λt=>decide<|t∈L):=List.mem_filter.mpr #[b,decide_eq_true c]
 cases q:(f k).filter (λt=>decide<|t∈L) with
 |nil=>rw[q]at z;cases z
 |cons a l=>rfl])
def HI{k:Int}(h:k∈prn f L):k∈L:=(List.mem_filter.mp h).1
def RE(r:Int->Nat):∀{L:List Int},L≠[]->∃k∈L,∀j∈L,r j<=r k
 | [],n=>(n rfl).elim
 | [a],_=>#[a,List.mem_singleton.mpr rfl,λj c=>by rw[List.mem_singleton.mp c];exact gK _]
 |a::b::L,_=>by
  obtain⟨k,e,d⟩:=RE r (L:=b::L) q0o;by_cases q:r k<=r a
  ·exact#[a,gO,λj c=>(List.mem_cons.mp c).elim (λz=>by rw[z];exact gK _) λz=>ij (d j z) q]
  ·exact#[k,gS _ e,λj c=>(List.mem_cons.mp c).elim (λz=>by rw[z];omega)<|d j]
def UX{f:Int->List Int}{L:List Int}{r:Int->Nat}{m:Nat}(e:∀k∈L,∀t∈f k,r k<r t)(g:L.length<=m+1):(prn f L).length<=m:=by
 by_cases q:L=[]
 ·rw[q];exact iN _
 ·obtain⟨k,a,h⟩:=RE r q;refine Nat.lt_succ_iff.mp (hR (List.length_filter_lt_length_iff_exists.mpr #[k,a,?_]) g)
  have z:(f k).filter (λt=>decide<|t∈L)=[]:=List.filter_eq_nil_iff.mpr λt ht m=>by have:=e k a t ht;have:=h t<|jP m;omega
  rw[z];simp
def UY(f:Int->List Int)(T L:List Int)(m:Nat):Prop:=∃g:Int->Nat,∀x∈T,x∉L->m<g x/\∀t∈f x,t∉L/\g x<g t
def UY.next{m:Nat}(G:UY f T L (m+1))(b:∀x∈T,∀t∈f x,t∈T):UY f T (prn f L) m:=by
 obtain⟨g,c⟩:=G;refine#[λx=>if x∈L then m+1 else g x,λx d e=>?_];dsimp only;by_cases q:x∈L
 ·rw[gI q];refine#[ji m,λt a=>?_];have n:=Yf q e t a;rw[gl n];exact#[λz=>n<|HI z,(c t (b x d t a) n).1]
 ·rw[gl q];have z:=c x d q;refine#[q0d,λt a=>?_];have n:=(z.2 t a).1;rw[gl n];exact#[λz=>n<|HI z,(z.2 t a).2]
def a0v{k:Int}:(pk l k v).length<=l.length+1:=by
 unfold pk;split
 ·rw[gM];omega
 ·rw[gW];simp
def xy:∀{l:List b} {i:Nat},l[i]?=↑y->(y::l.eraseIdx i).Perm l
 | [],i,h=>by simp at h
 |a::l,0,h=>by
  have h:a=y:=by simpa using h
  rw[h];exact .refl _
 |a::l,i+1,h=>by rw[ou];exact(List.Perm.swap a y _).trans<|(xy<|by simpa using h).cons a
def DF{a:Type}{l:List (Int×a)}{k:Int}:(dk l k).map (·.1)=(l.map (·.1)).filter λj=>decide (j≠k):=by unfold dk;rw[qX];rfl
section
variable{x:B0}{rows:List RW}{a:List (Int×Int)}
def DD.a0w(b:DD x){l:Int}(n:l∈wT x):DD ({ x with ht:=dk x.ht l,th:=dk x.th (wF x l)}:B0):=by
 have o:∀{t:Int},t∈wT ({ x with ht:=dk x.ht l,th:=dk x.th (wF x l)}:B0)↔t∈wT x/\t≠l:=λ{t}=>by show t∈(dk x.ht l).map (·.1)↔_;rw[DF,jL,ie];exact Iff.rfl
 refine#[#[b.ok.kb,b.ok.bo,b.ok.ri,b.ok.lr,b.ok.lb],?_,?_,?_,λd f e=>?_,λd f e=>?_,λc h i=>?_,?_]
 ·show ((dk x.ht l).map (·.1)).Nodup;rw[DF];exact b.nd.filter _
 ·exact nO (hX _ _) b.len
 ·exact nO (hX _ _) b.a0o
 ·have e:lk (dk x.ht l) d=↑f:=e;rw[B7]at e;by_cases q:d=l
  ·rw[gI q]at e;cases e
  ·rw[gl q]at e;have g:=b.ht d f e;refine#[g.1,g.2.1,g.2.2.1,?_];show lk (dk x.th<|wF x l) f=some d;rw[B7,gl λz=>?_]
   ·exact g.2.2.2
   ·have:=(b.ht l _<|yU n).2.2.2;rw[<- z,g.2.2.2]at this;injection this with this;exact q this
 ·have e:lk (dk x.th<|wF x l) f=↑d:=e;rw[B7]at e;by_cases q:f=wF x l
  ·rw[gI q]at e;cases e
  ·rw[gl q]at e;have g:=b.th d f e;show lk (dk x.ht l) d=↑f;rw[B7,gl λz=>?_]
   ·exact g
   ·rw[z,yU n]at g;injection g with g;exact q g.symm
 ·have h:(lk (dk x.ht l) c).isSome=true:=h;have i:(lk (dk x.th<|wF x l) c).isSome=true:=i;rw[B7]at h i;refine b.one c ?_ ?_
  ·by_cases q:c=l
   ·rw[gI q]at h;cases h
   ·rw[gl q]at h;exact h
  ·by_cases q:c=wF x l
   ·rw[gI q]at i;cases i
   ·rw[gl q]at i;exact i
 ·obtain⟨r,p⟩:=b.acy;refine#[r,λk m t j=>?_];have m:=o.mp m
  have s:wF ({ x with ht:=dk x.ht l,th:=dk x.th (wF x l)}:B0) k=wF x k:=by unfold wF;show (lk (dk x.ht l) k).getD 0=_;rw[B7,gl m.2]
  rw[s]at j;have j:=xq.mp j;exact p k m.1 t<|xq.mpr #[j.1,j.2.1,(o.mp j.2.2).1]
def DD.yS(d:DD x){low high:Int}(w:(lk x.rk low).isSome=true)(y:(lk x.rk high).isSome=true)(f:low∈xF x high)(A:wG x low=false)(B:wG x high=false)(C:low≠high)(ac:N7 93)(D:x.ht.length+1<64)(E:x.th.length+1<64):DD 93:=by
 have p:=Bool.or_eq_false_iff.mp A;have r:=Bool.or_eq_false_iff.mp B;have o:lk x.ht low=none:=by simpa using p.1
 have F:lk x.th low=none:=by simpa using p.2
 have G:lk x.ht high=none:=by simpa using r.1
 have s:lk x.th high=none:=by simpa using r.2
 have t:(K7.yS x low high).ht=x.ht++[(low,high)]:=yT o;have H:(K7.yS x low high).th=x.th++[(high,low)]:=yT s;have j:∀k,lk (K7.yS x low high).ht k=if k=low then some high else lk x.ht k:=λk=>xo;have l:∀k,lk (K7.yS x low high).th k=if k=high then some low else lk x.th k:=λk=>xo;refine#[#[d.ok.kb,d.ok.bo,d.ok.ri,d.ok.lr,d.ok.lb],?_,by rw[t];simpa using D,by rw[H];simpa using E,λm n e=>?_,λm n e=>?_,λc h i=>?_,ac]
 ·show ((K7.yS x low high).ht.map (·.1)).Nodup;rw[t,jE];refine List.nodup_append.mpr #[d.nd,q0o,λa u b f z=>?_];have f:b=low:=by simpa using f
  rw[z,f]at u;have:=xH u;rw[o]at this;cases this
 ·rw[j]at e;by_cases q:m=low
  ·rw[gI q]at e;injection e with e;subst e;subst q;exact#[w,y,f,by rw[l,gI rfl]]
  ·rw[gl q]at e;have g:=d.ht m n e;refine#[g.1,g.2.1,g.2.2.1,?_];rw[l,gl λz=>?_]
   ·exact g.2.2.2
   ·rw[z,s]at g;cases g.2.2.2
 ·rw[l]at e;by_cases q:n=high
  ·rw[gI q]at e;injection e with e;subst e;subst q;rw[j,gI rfl]
  ·rw[gl q]at e;have g:=d.th m n e;rw[j,gl λz=>?_]
   ·exact g
   ·rw[z,o]at g;cases g
 ·rw[j]at h;rw[l]at i;by_cases q:c=low
  ·rw[gl λz=>C<|q.symm.trans z,q,F]at i;cases i
  ·rw[gl q]at h;by_cases v:c=high
   ·rw[v,G]at h;cases h
   ·rw[gl v]at i;exact d.one c h i
def yC.same(c:yC x rows){y:B0}(b:y.rk=x.rk)(d:y.bd=x.bd)(e:y.up=x.up):yC y rows:=by obtain⟨f,g,h,i,j⟩:=c;exact#[e.trans f,by rw[b];exact g,by rw[d];exact h,by rw[b];exact i,by rw[d];exact j]
def Arr.mem(A:Arr x a)(h:e∈a):e.1∈wT x:=A.pm.mem_iff.mp<|List.mem_map.mpr #[e,h,rfl]
def Arr.pop(A:Arr x a){i:Nat}(h:a[i]?=↑y):Arr ({ x with ht:=dk x.ht y.1,th:=dk x.th (wF x y.1)}:B0) (a.eraseIdx i):=by
 have b:(y::a.eraseIdx i).Perm a:=xy h;have g:y∈a:=b.mem_iff.mp gO;have j:=A.mem g
 have d:(y.1::(a.eraseIdx i).map (·.1)).Perm (wT x):=by
  have:=(b.map (λe:Int×Int=>e.1)).trans A.pm
  rwa [ik]at this
 have c:=List.nodup_cons.mp<|d.nodup_iff.mpr A.ok.nd;refine⟨A.ok.a0w j,?_,?_,λe f=>?_⟩
 ·show ((dk x.th<|wF x y.1).map (·.1)).Nodup;rw[DF];exact A.nt.filter _
 ·show ((a.eraseIdx i).map (·.1)).Perm ((dk x.ht y.1).map (·.1));rw[DF];refine wl c.2 (A.ok.nd.filter _) λk=>?_;rw[jL,ie];have:=d.mem_iff (a:=k);rw[im]at this;constructor
  ·exact λz=>#[this.mp<|.inr z,λw=>c.1<|w▸z]
  ·exact λz=>(this.mpr z.1).elim (λw=>g8 w z.2) id
 ·have l:e∈a:=b.mem_iff.mp<|gS _ f;have m:e.1≠y.1:=λz=>c.1<|z▸List.mem_map.mpr #[e,f,rfl];show (lk (dk x.ht y.1) e.1).getD 0=e.2;rw[B7,gl m];exact A.hd e l
def Arr.Yg(A:Arr x a)(c:yC x rows)(v:rows.length<=35):x.ht.length<=35/\x.th.length<=35/\a.length<=35:=by
 have ln:=c.lr;have rn:(x.rk.map (·.1)).Nodup:=by rw[c.ks];exact vt<|MQ rows
 have h1:(wT x).length<=(x.rk.map (·.1)).length:=K8 A.ok.nd rn λk hk=>zD (A.ok.ht k _<|yU hk).1
 have h2:(x.th.map (·.1)).length<=(x.rk.map (·.1)).length:=K8 A.nt rn λk hk=>by obtain⟨l,e⟩:=Option.isSome_iff_exists.mp<|xH hk;exact zD (A.ok.ht l k<|A.ok.th l k e).2.1
 have h3:=A.pm.length_eq;have e:(wT x).length=x.ht.length:=gM _;rw[gM]at h1 h2 h3;rw[gM]at h2
 lia
def Arr.add(A:Arr x a)(c:yC x rows)(v:rows.length<=35){low high:Int}(k:(lk x.rk low).isSome=true)(l:(lk x.rk high).isSome=true)(d:low∈xF x high)(f:wG x low=false)(g:wG x high=false)(m:low≠high)(ac:N7 93):Arr 93 (a++[(low,high)]):=by
 have q:=A.Yg c v;have h:lk x.ht low=none:=by simpa using(Bool.or_eq_false_iff.mp f).1
 have i:lk x.th high=none:=by simpa using(Bool.or_eq_false_iff.mp g).2
 have n:(K7.yS x low high).ht=x.ht++[(low,high)]:=yT h;have o:(K7.yS x low high).th=x.th++[(high,low)]:=yT i;refine#[A.ok.yS k l d f g m ac q0a q0a,?_,?_,λe p=>?_]
 ·rw[o,jE];refine List.nodup_append.mpr #[A.nt,q0o,λa j b d z=>?_];have d:b=high:=by simpa using d
  rw[z,d]at j;have:=xH j;rw[i]at this;cases this
 ·show ((a++[(low,high)]).map (·.1)).Perm ((K7.yS x low high).ht.map (·.1));rw[n,jE,jE];exact A.pm.append_right _
 ·show (lk (pk x.ht low high) e.1).getD 0=e.2;rw[xo];rcases List.mem_append.mp p with z|z
  ·have:e.1≠low:=λw=>by have:=xH<|A.mem z;rw[w,h]at this;cases this
   rw[gl this];exact A.hd e z
  ·have z:e=(low,high):=by simpa using z
   rw[z,gI rfl];rfl
def EQ(v:Vr rows){k:Int}(d:rowAt rows k=↑y):y.2.length<=95:=by
 have b:=v.ok k y.1 y.2 d
 have:=wC (U:=EK rows) b.2.2.1 λc e=>by obtain⟨_,g,f⟩:=b.2.2.2.1 c e;exact yP.mpr (by rw[f];rfl)
 have h:=Ca rows;have i:=v.ln
 lia
def UZ(i:QQ x)(b:x.ht=[])(d:x.th=[]):Arr x []:=by
 have f:wT x=[]:=by unfold wT;rw[b];rfl
 refine#[#[i,by rw[f];exact nJ,by rw[b];decide,by rw[d];decide,λl h e=>?_,λl h e=>?_,λc e=>?_,λ_=>0,λl g=>?_],by rw[d];exact nJ,by rw[f];exact .refl _,λe j=>by cases j]
 ·rw[b]at e;cases e
 ·rw[d]at e;cases e
 ·rw[b]at e;cases e
 ·rw[f]at g;cases g
def a0x{i:Nat}(A:Arr x a)(c:yC x rows)(h:a[i]?=↑y)(k:∀v (b:B0),yC b rows->Arr b (a.eraseIdx i)->d v (b,#[],())):DE (x,y.1,()) d g:=by have f:=A.mem<|ju h;have e:=yU f;refine#[A.ok,?_];show if (lk x.rk y.1).isSome=true then (if (lk x.ht y.1).isSome=true then d (wF x y.1) _ else _) else _;rw[gI (A.ok.ht _ _ e).1,gI<|by rw[e];rfl];exact k _ _ (c.same rfl rfl rfl)<|A.pop h
def a2I{low high:Int}(A:Arr x a)(c:yC x rows)(v:Vr rows)(l:rows.length<=35)(b:rowAt rows high=↑y)(f:low∈y.2)
 (g:∀D∈[XT,XR],d D (x,#[],#[],()))(k:∀e:B0,yC e rows->Arr e (a++[(low,high)])->m () (e,#[],#[],())):Q2 (x,low,high,()) m d:=by
  have n:=v.ok high y.1 y.2 b
  obtain⟨o,u,p⟩:=n.2.2.2.1 low f
  have h:(lk x.rk low).isSome=true:=by rw[c.rk,p];rfl
  have i:(lk x.rk high).isSome=true:=by rw[c.rk,b];rfl
  have j:low∈K7.xF x high:=by rw[c.xF,yD b];exact f
  refine#[A.ok,?_]
  show if (lk x.rk low).isSome=true then (if (lk x.rk high).isSome=true then (if low∈K7.xF x high then (if wG x low=true\/wG x high=true then d XT _ else (_->d XR _)/\_) else _) else _) else _
  rw[gI h,gI i,gI j]
  by_cases t:wG x low=true\/wG x high=true
  · rw[gI t]; exact g XT q0o
  · rw[gl t]
    have r:wG x low=false:=by cases q:wG x low with|true=>exact g8 (.inl q) t|false=>rfl
    have s:wG x high=false:=by cases q:wG x high with|true=>exact g8 (.inr q) t|false=>rfl
    exact#[λ_=>g XR q0o,λac=>k _ (c.same rfl rfl rfl)<|A.add c l h i j r s (ts o) ac]
end
section
variable{q:Cq}{XL:ci}
noncomputable abbrev Lh:ic:=top 29
noncomputable abbrev Li:List Str:=["_law_bag_here"]
def U0:uZ ["_law_bag_here"] Li (uQ Lh):=by walk_at "sc"
abbrev Yh(q:Cq)(k:Nat):=xi q "_law_rank" Li HC k
def U1(F:Dg q "_law_rank" Lh f i)(a:xi q "_law_pull" ["_law_bag_here","_law_many"] yB 1):Gq q 2 f i Li HC:=by
 refine' vc (wy (D':=Unit) (ms:=[0]) (j:=0) F U0 rfl rfl λk A c s H E t =>
   (vg (vF (tw_cm Ai (ve (vo a (vN 0 (uW uV uU)))) uV)
   (uS<|vf<|vo a<|vN 0<|uW uV uU)
   vv)
   (uS (vf (vj (xf (vM (vD (vn (uX uV (uX uV (uX uV (uX uV (uX uV (uX uV 102))))))))) (ve (vo a (vN 0 (uW uV uU)))))))))) λp m u h=>?_
 walk_at "wl"
 have h:∀r,0<=r->r<=12->m r (#[],()):=h;refine wH q0q q0q λr v w=>?_
 try dsimp only
 by_cases q:r=11
 ·rw[gI<|decide_eq_true q];refine wH q0q q0q λs d b=>h s d ?_;have b:s<13:=b
  lia
 ·rw[gl<|by simpa using q];refine wH q0q q0q λs d b=>?_;refine Ct λn e=>?_;have b:s<8:=b;obtain⟨x,o,_,g⟩:=yj (l:=[(0:Int),0,1,1,1,2,2,3]) d (by simpa using b);refine e ?_;refine#[x,o,h x ?_ ?_]
  ·simp at g;lia
  ·simp at g;lia
noncomputable abbrev Lj:ic:=top 30
noncomputable abbrev Lk:List Str:=["_law_one","_law_other"]
def MX:uZ ["_law_one","_law_other","_law_left"] Lk (uQ Lj):=by walk_at "sc"
def RF:(["_law_x","_law_other"]:List Str).Nodup:=by decide +kernel
def RG:(["_law_x","_law_one"]:List Str).Nodup:=by decide +kernel
abbrev Ll(q:Cq)(k:Nat):=xi q "_law_join" Lk Lf k
def U4(F:Dg q "_law_join" Lj f l)(B:Bn q.mg):Gq q 2 f l Lk Lf:=by
 refine' vc (wy (D':=Unit) (ms:=[]) (j:=1) F MX rfl rfl λm A e s H E r =>
   (vg (BM (Ts:=["_law_x"]) (Fr:=["_law_other"]) (idx:=[1]) (k:=1) (mb:=[1]) (is:=[]) (cl:=[("_law_other",⇑s+1+1)]) 2 MX.nd rfl rfl rfl q0q rfl (wh (ss 0)) Wb rfl (wv rfl) (λa b C c d=>(vq 0 (vd RF))) (λa b C c d=>(tws_one (tw_cmI Ee (ss 0) (vM (ss 1)) (by with_unfolding_all rfl)))) (λa b C c d=>(ss 0)))
   (uS (vf (FW rfl B.sorted (vM (vD (Af (wm 2) (vM (vD (wB (Ts:=["_law_x"]) (Fr:=["_law_one"]) (idx:=[0]) (k:=1) (mb:=[1]) (is:=[]) (cl:=[("_law_one",⇑s+1)]) rfl (wh (ss 1)) Wb rfl (wv rfl) (λa b C c d=>(vq 0 (vd RG))) (λa b C c d=>(tws_one (tw_cmI Ee (ss 0) (vM (ss 1)) (by with_unfolding_all rfl)))) (λa b C c d=>(ss 0))))))))))))) λp t u h=>?_
 walk_at "wl"
 refine Ct λn g=>?_;obtain⟨⟨v,w,x⟩,o⟩:=h;refine g ?_;refine#[vT q0d,vU (q:=λk=>!decide (k∈p.2.1)) (λk _ K i=>i) ?_];refine#[vT (show p.2.1.length<=1000 by omega),vU (q:=λk=>!decide (k∈p.1)) (λk _ K i=>i) ?_];have y:=hX (λk=>!decide (k∈p.2.1)) p.1;have z:=hX (λk=>!decide (k∈p.1)) p.2.1;refine#[vT ?_,?_,o]
 ·show (p.1.filter λk=>!decide (k∈p.2.1)).length+(p.2.1.filter λk=>!decide (k∈p.1)).length<=1000;omega
 ·rw[gW];show (p.1.filter λk=>!decide (k∈p.2.1)).length+(p.2.1.filter λk=>!decide (k∈p.1)).length<64;omega
noncomputable abbrev Lm:ic:=top 31
noncomputable abbrev Lo:List Str:=["_law_rows_here"]
def U5:uZ ["_law_rows_here"] Lo (uQ Lm):=by walk_at "sc"
def RH:(["_law_k","_law_rows_here"]:List Str).Nodup:=by decide +kernel
abbrev Lq(q:Cq)(k:Nat):=xi q "_law_here" Lo Rn k
def U6(F:Dg q "_law_here" Lm f o)(B:Bn q.mg):Gq q 2 f o Lo Rn:=by
 refine' vc (wy (D':=Unit) (ms:=[]) (j:=0) F U5 rfl rfl λr A c s H E D =>
   (uS (vf (wB (Ts:=["_law_k"]) (Fr:=["_law_rows_here"]) (idx:=[0]) (k:=1) (mb:=[1]) (is:=[]) (cl:=[("_law_rows_here",⇑s+1)]) rfl (wS rfl B.range (wW rfl B.len (vM (ss 0)))) Wb rfl (wv rfl) (λa b C i m=>(vq 0 (vd RH))) (λa b C i m=>(tws_one (tw_cm Mo (xf (vM (ss 1)) (ss 0)) Kv))) (λa b C i m=>(ss 0)))))) λp G I h=>?_
 walk_at "wl"
 obtain⟨J,t⟩:=h;refine#[#[q0a,q0a],?_,vU (q:=λk=>(rowAt p.1 k).isSome) (λk d K e=>?_) t]
 ·rw[wK];exact vT q0a
 ·obtain⟨n,u⟩:=HF d;refine Ct λv g=>?_;obtain⟨x,w,z,_⟩:=yj (l:=p.1) n u;refine g ?_;rw[EL n z]at e;refine#[x,w,?_]
  cases x with
  |none=>exact e
  |some y=>exact e
noncomputable abbrev Lr:ic:=top 32
noncomputable abbrev Ls:List Str:=["_law_bag_here","_law_row_here"]
def AQ:uZ ["_law_bag_here","_law_row_here","_law_found","_law_count","_law_k"] Ls (uQ Lr):=by walk_at "sc"
abbrev Yi(q:Cq)(k:Nat):=xi q "_law_some" Ls Ro k
def U7(F:Dg q "_law_some" Lr f P)(a:xi q "_law_pull" ["_law_bag_here","_law_many"] yB 2)(d:Ll q 2)(B:Bn q.mg):Gq q 3 f P Ls Ro:=by
 refine' vc (wy (D':=Unit) (ms:=[0]) (j:=3) F AQ rfl rfl λQ A v s H E R =>
   (vg (vk 2 AQ.nd (vn (α:=Int) vm))
   (vg (vF (tw_cmL (Kw R.units) (vM (ss 1)) (vM (vD (vn (α:=Int) vm))))
   (uS<|zA 2<|pv 2)
   vv)
   (vg (vk 3 AQ.nd (vo a (vN 0 (uW uV uU))))
   (vg (vF (tw_cm Ai (ss 3) uV)
   (uS<|vk 3 AQ.nd<|vj<|Xj Ce (ve<|vo a<|vN 0<|uW uV uU)<|wW rfl B.len<|vM<|ss 1)
   vv)
   (vg (wE (is:=[]) (mb:=[0]) (D1:=Bg×(List Int)×(OL Int)×Int×Int×Unit) (D2:=Bg×(List Int)×(OL Int)×Int×Int×Unit) (vC q0q) zc rfl (wS rfl B.range (ss 3)) (vq 4 (vd AQ.nd))
   (uS (vk 2 AQ.nd (vo d (v9 2 (uW (vD (vn (uX (xf (vM (ss 1)) (ve (vo a (vN 0 (uW (wW rfl B.len (vM (ss 1))) uU))))) vm))) uU))))) q0q q0q)
   (uS (zA 2 (pv 2))))))))) λp L o h=>?_
 walk_at "wl"
 obtain⟨hl,M⟩:=h;by_cases w:p.2.1=[]
 ·rw[gI<|decide_eq_true w];exact M [] iw λ_ z=>by cases z
 rw[gl<|by simpa using w]
 have D:0<(p.2.1.length:Int):=by
  have:=List.length_pos_iff.mpr w
  lia
 have g:∀(n c:Int),GQ (λ(x:Int)(b:Bg×List Int×OL Int×Int×WL.Un×Unit) G (Kr:OL Int->Bg×WL.Un×Unit->Prop) o=>yB (b.1,(b.2.1.length:Int),()) (λx t=>∃k,Ff b.2.1 x=↑k/\Lf (b.2.2.1.l,[k],()) (λx m=>G (t.1,b.2.1,x,b.2.2.2.1,#[],b.2.2.2.2.2)) λC m=>o C (t.1,#[],())) λC t=>o C (t.1,#[],()))
   (yW 0 n) (#[],p.2.1,#[[]],c,#[],p.2.2) (λN=>L N.2.2.1 (N.1,#[],())) L o:=by
  intro n c;refine vP (λ(r:List Int)(b:Bg×List Int×OL Int×Int×WL.Un×Unit)=>b.2.1=p.2.1/\yf b.2.2.1.l/\∀x∈b.2.2.1.l,x∈p.2.1) (yW 0 n) #[rfl,iw,(λ_ z=>by cases z)] ?_ ?_
  ·rintro x r b _ ⟨e,i,g2⟩ K S;rw[e];refine wH D q0a λr O u=>?_;refine Ct λT I=>?_;obtain⟨y,U,_,W⟩:=yj (l:=p.2.1) O u;have X:=wC i g2;refine I ?_;refine#[y,U,UV (show b.2.2.1.l.length+1<64 by lia),S _ #[rfl,GZ i<|jV _ _,λz Y=>?_]];rcases GY.mp Y with⟨J,_⟩|⟨J,_⟩
   ·exact g2 z J
   ·rw[List.mem_singleton.mp J];exact W
  ·rintro b ⟨_,i,g2⟩;exact M _ i g2
 refine wH q0q q0q λr O u=>?_
 try dsimp only
 have u:r<7:=u;by_cases q:r=6
 ·rw[gI<|decide_eq_true q];refine wH q0q q0q λs Z i=>?_;have i:s<3:=i
  have b1:s*(p.2.1.length:Int)<=2*60:=by
   have:s*(p.2.1.length:Int)<=2*(p.2.1.length:Int):=Int.mul_le_mul_of_nonneg_right q0a q0a
   lia
  have b0:0<=s*(p.2.1.length:Int):=Int.mul_nonneg Z q0a;exact#[.inl #[q0a,q0a],#[q0a,q0a],g _ _]
 ·rw[gl<|by simpa using q];exact#[#[q0a,q0a],g _ _]
noncomputable abbrev Lu:ic:=top 33
noncomputable abbrev Lv:List Str:=["_law_rows_here","_law_row_here"]
def DG:uZ ["_law_rows_here","_law_row_here","_law_found","_law_cell"] Lv (uQ Lu):=by walk_at "sc"
abbrev Yj(q:Cq)(k:Nat):=xi q "_law_edge" Lv Rp k
def U8(F:Dg q "_law_edge" Lu f t)(a:Ll q 2):Gq q 3 f t Lv Rp:=by
 refine' vc (wy (D':=Unit) (ms:=[]) (j:=2) F DG rfl rfl λu A i s H E O =>
   (vg (vk 2 DG.nd (vn (α:=Int) vm))
   (vg (wE (is:=[]) (mb:=[]) (D1:=(List RW)×(List Int)×(OL Int)×Int×Unit) (D2:=(List RW)×(List Int)×(OL Int)×Int×Unit) (vC q0q) zc rfl (wh (ss 1)) (vq 3 (vd DG.nd))
   (uS (vk 2 DG.nd (vo a (v9 2 (uW (Ad (Ae (xf (vM (ss 0)) (ss 3)))) uU))))) q0q q0q)
   (uS (zA 2 (pv 2)))))) λp w P h=>?_
 walk_at "wl"
 obtain⟨v,B,C⟩:=h;refine vP (λ(r:List Int)(b:List RW×List Int×OL Int×WL.Un×Unit)=>b.1=p.1/\(∀c∈r,(rowAt p.1 c).isSome=true)/\yf b.2.2.1.l/\(∀x∈b.2.2.1.l,x∈yW 0 35)/\(r.map<|eb p.1).foldl xr b.2.2.1.l=wx (eb p.1) p.2.1) p.2.1 ⟨rfl,B,iw,(λ_ z=>by cases z),rfl⟩ ?_ ?_
 ·rintro c r b _ ⟨e,o,g1,g2,d⟩ K D;refine Ct λG k=>?_;obtain⟨y,m⟩:=Option.isSome_iff_exists.mp<|o c gO;obtain⟨_,_,_,I⟩:=vp m;obtain⟨g,n⟩:=v.Yc m;refine k ?_;rw[e];have J:=wC g1 g2;have L:=wC g n;rw[wK]at J L;refine⟨_,I,y,rfl,RB g1 g g2 n,D _ ⟨rfl,λc M=>o c<|gS _ M,GZ g1 g,λx N=>?_,?_⟩⟩
  ·rcases GY.mp N with⟨z,_⟩|⟨z,_⟩
   ·exact g2 x z
   ·exact n x z
  ·rw[<- d];show (r.map<|eb p.1).foldl xr (jn b.2.2.1.l y.2)=(r.map<|eb p.1).foldl xr (xr b.2.2.1.l<|eb p.1 c);rw[V6 g1 g,yD m]
 ·rintro b ⟨_,_,_,_,d⟩;have d:b.2.2.1.l=wx (eb p.1) p.2.1:=d;show w b.2.2.1 _;rw[show b.2.2.1=OL.mk b.2.2.1.l from rfl,d];exact C
noncomputable abbrev HJ:ic:=top 43
noncomputable abbrev HK:List Str:=["_law_found"]
def RI:uZ ["_law_found"] HK (uQ HJ):=by walk_at "sc"
abbrev HL(q:Cq)(k:Nat):=xi q "_law_whole" HK HD k
def RJ(F:Dg q "_law_whole" HJ f b)(B:Bn q.mg):Gq q 2 f b HK HD:=by
 refine' vc (wy (D':=Unit) (ms:=[]) (j:=0) F RI rfl rfl λc A a s H E d =>
   (uS (vf (vj (GP (yt (ty:="int") rfl B.isinstance (AD (v:=.ty "int") rfl B.int PyProof.Rows.boot_int rfl) (ss 0)) (BH (Xp (yt (ty:="bool") rfl B.isinstance (AD (v:=.ty "bool") rfl B.bool qI rfl) (ss 0))))))))) λp e g h=>?_
 walk_at "wl"
 exact h
noncomputable abbrev s_row:ic:=top 44
abbrev RK:List Str:=["_law_found"]
def RL:uZ ["_law_found","_law_one"] RK (uQ s_row):=by walk_at "sc"
abbrev a0y(q:Cq)(k:Nat):=xi q "_law_row" RK Rq k
def Yk(F:Dg q "_law_row" s_row f d)(a:HL q 2)(B:Bn q.mg):Gq q 3 f d RK Rq:=by
 refine' vc (wy (D':=Unit) (ms:=[]) (j:=1) F RL rfl rfl λe A c s H E i =>
   (vg (vF (tw_not (tw_val (yt (ty:="list") rfl B.isinstance (AD (v:=.ty "list") rfl B.list jT rfl) (ss 0))))
   (uS<|vf<|vj yJ)
   vv)
   (vg (wE (is:=[]) (mb:=[]) (D1:=(List Int)×Int×Unit) (D2:=(List Int)×Int×Unit) (vC q0q) zc rfl (wh (ss 0)) (vq 1 (vd RL.nd))
   (uS (vF (tw_not (tw_val (ve (vo a 88))))
   (uS<|vf<|vj yJ)
   vv)) q0q q0q)
   (uS (vf (vj yJ)))))) λp k l h=>?_
 walk_at "wl"
 rw[gl q0q];exact vP (λ(r:List Int)(b:List Int×WL.Un×Unit)=>True) p.1 trivial (λx r b _ _ K g=>g _ trivial) λ_ _=>h
noncomputable abbrev s_same:ic:=top 45
noncomputable abbrev Lw:List Str:=["_law_found","_law_due"]
def U9:uZ ["_law_found","_law_due"] Lw (uQ s_same):=by walk_at "sc"
abbrev Yl(q:Cq)(k:Nat):=xi q "_law_same" Lw Lg k
def Va(F:Dg q "_law_same" s_same f c)(a:a0y q 3):Gq q 4 f c Lw Lg:=by
 refine' vc (wy (D':=Unit) (ms:=[]) (j:=0) F U9 rfl rfl λd A b s H E e =>
   (uS (vf (vj (GP (ve (vo a (uW (ss 0) uU))) (BH (PY (Kw e.units) (vM (ss 0)) (vM (ss 1)) (vH _)))))))) λp g i h=>?_
 walk_at "wl"
 exact h
noncomputable abbrev HM:ic:=top 28
noncomputable abbrev HN:List Str:=["_law_many"]
def AC:uZ ["_law_many","_law_pairs_here","_law_threes","_law_rows_here"] HN (uQ HM):=by walk_at "sc"
def Of:(["_law_k"]:List Str).Nodup:=by decide +kernel
def Og:(["_law_pair"]:List Str).Nodup:=by decide +kernel
def Oh:(["_law_three"]:List Str).Nodup:=by decide +kernel
abbrev Vb(q:Cq)(k:Nat):=xi q "_law_stock" HN MP k
def RM(F:Dg q "_law_stock" HM f i)(B:Bn q.mg):Gq q 2 f i HN MP:=by
 refine' vc (wy (D':=Unit) (ms:=[]) (j:=3) F AC rfl rfl λl A g s H E o =>
   (vg (vk 1 AC.nd (vn (uX (vD (vn 102)) (uX (vD (vn 102)) (uX (vD (vn 102)) (uX (vD (vn 102)) (uX (vD (vn 102)) (uX (vD (vn 102)) vm))))))))
   (vg (vk 2 AC.nd (vn (uX (vD (vn (uX uV 102))) (uX (vD (vn (uX uV 102))) (uX (vD (vn (uX uV 102))) (uX (vD (vn (uX uV 102))) vm))))))
   (vg (vk 3 AC.nd (Af (vM (vD (wB (Ts:=["_law_k"]) (Fr:=[]) (idx:=[]) (k:=1) (mb:=[]) (is:=[]) (cl:=[]) rfl (wS rfl B.range uV) YM rfl (wv rfl) (λa b C c d=>(vq 0 (vd Of))) (λa b C c d=>tws_nil) (λa b C c d=>(zx (wJ uV (vD (vn (α:=Int) vm)))))))) (vM (vD (wB (Ts:=["_law_pair"]) (Fr:=[]) (idx:=[]) (k:=1) (mb:=[]) (is:=[1]) (cl:=[]) rfl (Kz 1 (pv 1) q0q) YM rfl (wv rfl) (λa b C c d=>(vq 0 (vd Og))) (λa b C c d=>tws_nil) (λa b C c d=>(zx (wJ uV (ss 0)))))))))
   (vg (vk 3 AC.nd (Af (vM (vD (Af (wm 3) (vM (vD (wB (Ts:=["_law_three"]) (Fr:=[]) (idx:=[]) (k:=1) (mb:=[]) (is:=[2]) (cl:=[]) rfl (Kz 2 (pv 2) q0q) YM rfl (wv rfl) (λa b C c d=>(vq 0 (vd Oh))) (λa b C c d=>tws_nil) (λa b C c d=>(zx (wJ uV (ss 0)))))))))) (vM (vD (vn (uX (zx (wJ uV (vD (vn (uX uV (uX uV 102)))))) vm))))))
   (uS (vf (IU (wm 3) GL (GN (ss 0)))))))))) λp r t h=>?_
 walk_at "wl"
 obtain⟨m,n⟩:=h;refine#[q0q,(by rw[wK];exact vT q0q),vW (f:=λ_=>some<|some (0,[])) (λx _ K e=>e) ?_];refine#[vT q0q,vW (f:=λx=>some<|some (1,x)) (λx _ K e=>e) ?_];refine#[vT q0q,vT q0q,vW (f:=λx=>some<|some (2,x)) (λx _ K e=>e) ?_];refine#[vT q0q,vT q0q,?_];rw[Yd _ m];exact n
noncomputable abbrev CI:ic:=top 34
noncomputable abbrev CJ:List Str:=["_law_rows_here","_law_loops","_law_rank_here","_law_bag_here"]
def wQ:uZ ["_law_rows_here","_law_loops","_law_rank_here","_law_bag_here","_law_number","_law_edge_here","_law_beneath","_law_k","_law_kin","_law_chosen"] CJ (uQ CI):=by walk_at "sc"
def C4:(["_law_at","_law_one","_law_rank_here"]:List Str).Nodup:=by decide +kernel
def JG:(["_law_k","_law_rank_here","_law_rows_here"]:List Str).Nodup:=by decide +kernel
abbrev Oi(q:Cq)(k:Nat):=xi q "_law_edge_by" CJ AO k
def Lx(F:Dg q "_law_edge_by" CI f fd)(a:xi q "_law_pull" ["_law_bag_here","_law_many"] yB 3)(I:Ll q 3)(J:Lq q 3)(L:Yi q 3)(M:Yj q 3)(B:Bn q.mg):Gq q 4 f fd CJ AO:=by
 refine' vc (wy (D':=Unit) (ms:=[0,1,3]) (j:=6) F wQ rfl rfl λae A aa s H E hr =>
   (vg (vk 4 wQ.nd (vj (wW rfl B.len (wm 0))))
   (vg (vk 5 wQ.nd (vn (α:=Int) vm))
   (vg (vF (tw_cm Ai (ss 2) uV)
   (vg (xD 1 (wJ uV (vD (vn (uX (ss 4) vm)))))
   (uS (zA 5 (pv 5))))
   vv)
   (vg (vF (tw_cm Mn (ve (vo a (vN 3 (uW uV uU)))) uV)
   (vg (BM (Ts:=["_law_at","_law_one"]) (Fr:=["_law_rank_here"]) (idx:=[2]) (k:=2) (mb:=[2]) (is:=[1]) (cl:=[("_law_rank_here",⇑s+1+1)]) 6 wQ.nd rfl rfl rfl q0q rfl (Kz 1 (pv 1) q0q) Wb rfl (wv rfl) (λd g C U W=>(BJ 0 1 (DM rfl (wY (vd (i:=0) C4) (wY (vd (i:=1) C4) Bp))) q0q q0q)) (λd g C U W=>(tws_one (tw_cm Ai (ss 0) (BE JW (ss 2) uV)))) (λd g C U W=>(ss 1)))
   (vg (wE (is:=[]) (mb:=[0,1,3]) (D1:=(OL RW)×(OL (Int×(List Int)))×Int×Bg×Int×(OL Int)×(OL (List Int))×Int×Un×Un×Unit) (D2:=(OL RW)×(OL (Int×(List Int)))×Int×Bg×Int×(OL Int)×(OL (List Int))×Int×Un×Un×Unit) (vC q0q) zc rfl (wS rfl B.range (xf (vM (vD (vn (uX uV (uX uV (uX uV (uX uV (uX uV (uX uV 102))))))))) (ve (vo a (vN 3 (uW uV uU)))))) (vq 7 (vd wQ.nd))
   (uS (vF (tw_cmL (Cv hr.units) (wm 6) (vM (vD (vn (α:=(List Int)) vm))))
   (uS<|vk 5 wQ.nd<|vo I<|v9 5<|uW (xf (wm 6)<|ve<|vo a<|vN 3<|uW (wW rfl B.len<|wm 6) uU) uU)
   vv)) q0q q0q)
   (vg (vF (tw_cmL (Kw hr.units) (wm 5) (vM (vD (vn (α:=Int) vm))))
   (uS<|xD 1<|wJ (ss 2)<|vD<|vn<|uX (ss 4) vm)
   vv)
   (uS (zA 5 (pv 5))))))
   vv)
   (vg (BM (Ts:=["_law_k"]) (Fr:=["_law_rank_here","_law_rows_here"]) (idx:=[2,0]) (k:=1) (mb:=[1,2]) (is:=[]) (cl:=[("_law_rows_here",⇑s+1),("_law_rank_here",⇑s+1+1)]) 8 wQ.nd rfl rfl rfl q0q rfl (wh (vD (vo J (v9 0 uU)))) YN rfl (wv rfl) (λd g C U W=>(vq 0 (vd JG))) (λd g C U W=>(tws_one (tw_cm Ai (Eb (Ae (xf (wm 2) (ss 0)))) (ss 1)))) (λd g C U W=>(ss 0)))
   (vg (vk 9 wQ.nd (vo L (vN 3 (v9 8 uU))))
   (vg (xD 1 (wJ (ss 2) (vD (Af (wm 9) (vM (vD (vn (uX (ss 4) vm))))))))
   (uS (vf (vo M (v9 0 (v9 9 uU))))))))))))) λp Kn Ke h=>?_
 walk_at "wl"
 refine Ct λX D=>?_;obtain⟨v,hn,hq,Y,r0,r1,hk⟩:=h;refine D ?_;by_cases h0:p.2.2.1=0
 ·rw[gI<|decide_eq_true h0];refine⟨B4 q0a,?_⟩;refine hk [] [(0,[(p.1.l.length:Int)])] (HH v q0a λr e z=>?_) (λu N=>?_) q0o
  ·cases z;exact#[r0,r1,iw,(λ_ z=>by cases z),rfl]
  ·rcases List.mem_append.mp N with z|z
   ·exact EM<|Y u z
   ·rw[List.mem_singleton.mp z];have:=Rt (rows:=p.1.l) (r:=p.2.2.1);rw[h0]at this ⊢;exact this
 ·rw[gl<|by simpa using h0];refine wH q0q q0q λx g0 g1=>?_
  try dsimp only
  by_cases hx:x<3
  ·rw[gI<|decide_eq_true hx];refine⟨vT q0a,vW (f:=λu:Int×List Int=>if decide (u.1=p.2.2.1-1)=true then some u.2 else none) (λu _ K o=>?_) ?_⟩
   ·show if decide (u.1=p.2.2.1-1)=true then K ↑u.2 _ else K none _;by_cases z:decide (u.1=p.2.2.1-1)=true
    ·rw[gI z]at o ⊢;exact o
    ·rw[gl z]at o ⊢;exact o
   ·have ly:(p.2.1.l.filterMap λu:Int×List Int=>if decide (u.1=p.2.2.1-1)=true then some u.2 else none).length<=100:=ij (List.length_filterMap_le _ _) hq
    have Z:∀z∈(p.2.1.l.filterMap λu:Int×List Int=>if decide (u.1=p.2.2.1-1)=true then some u.2 else none),Lp p.1.l (p.2.2.1-1,z):=λz hz=>by
     obtain⟨u,N,e⟩:=List.mem_filterMap.mp hz;by_cases q:decide (u.1=p.2.2.1-1)=true
     ·rw[gI q]at e;cases e;rw[<- jP q];exact Y u N
     ·rw[gl q]at e;cases e
    generalize (p.2.1.l.filterMap λu:Int×List Int=>if decide (u.1=p.2.2.1-1)=true then some u.2 else none)=ys at ly Z;refine wH q0q q0q λs g2 g3=>?_;refine Ct λX D=>?_;obtain⟨m,m1,_,m3⟩:=yj (l:=[(2:Int),2,2,2,0,1,3,4]) g2 (by simpa using g3);refine D ?_;refine#[m,m1,#[by simp at m3;lia,by simp at m3;lia],?_];refine vP (λ(r:List Int) (b:OL RW×OL 90×Int×Bg×Int×OL Int×OL (List Int)×WL.Un×WL.Un×WL.Un×Unit)=>b.1=p.1/\b.2.1=p.2.1/\b.2.2.1=p.2.2.1/\b.2.2.2.2.1=(p.1.l.length:Int)/\b.2.2.2.2.2.2.1.l=ys/\Lp p.1.l (p.2.2.1-1,b.2.2.2.2.2.1.l)) (yW 0 m) #[rfl,rfl,rfl,rfl,rfl,iw,(λ_ z=>by cases z),rfl] ?_ ?_
    ·intro y r;refine ZO λb1 b2 b3 b4 b5 O b7 b8=>?_;rintro _ ⟨Q,R,S,T,e5,n⟩ K o;dsimp only at Q R S T e5 n ⊢;subst e5;by_cases q:b7.l=[]
     ·rw[gl<|by simp[q]];exact o _ #[Q,R,S,T,rfl,n]
     ·rw[gI<|by simp[q]];have:=List.length_pos_iff.mpr q;refine wH q0a q0a λt t0 t1=>?_;refine Ct λX D=>?_;obtain⟨z,z1,_,z3⟩:=yj (l:=b7.l) t0 t1;have G:=Z z z3;have s1:=wC n.1<|n.sub q0a;have s2:=wC G.1<|G.sub q0a;refine D ?_;rw[wK]at s1 s2;have s1:O.l.length<=35:=s1;have s2:z.length<=35:=s2;refine⟨z,z1,RB n.1 G.1 (n.sub q0a)<|G.sub q0a,o _ ⟨Q,R,S,T,rfl,?_⟩⟩;show Lp p.1.l (p.2.2.1-1,jn O.l z);have nn:∀c,(∃e,rowAt p.1.l c=some (p.2.2.1-1,e))->(eb p.1.l c).Nodup:=λc ⟨e,he⟩=>by rw[yD he];exact vt (v.Yc he).1
      refine#[GZ n.1 G.1,λc P=>?_,?_]
      ·rcases GY.mp P with⟨w,_⟩|⟨w,_⟩
       ·exact n.2.1 c w
       ·exact G.2.1 c w
      ·show wx (eb p.1.l) (jn O.l z)=[];rw[V6 n.1 G.1,Ub n.1 G.1 (λc P=>nn c<|n.2.1 c P)<|λc P=>nn c<|G.2.1 c P,show wx (eb p.1.l) O.l=[] from n.2.2,show wx (eb p.1.l) z=[] from G.2.2];rfl
    ·refine ZO λb1 b2 b3 b4 b5 O b7 b8=>?_;rintro⟨Q,R,S,T,e5,n⟩;dsimp only at Q R S T e5 n ⊢;subst Q R S T
     have va:Vr (p.1.l++[↑(p.2.2.1,O.l)]):=HH v q0a λr e z=>by
      cases z;exact#[r0,r1,n.1,n.2.1,n.2.2]
     by_cases q:O.l=[]
     ·rw[gI<|decide_eq_true q];refine⟨B4 q0a,hk O.l [(p.2.2.1,[(p.1.l.length:Int)])] va (λu N=>?_) q0o⟩;rcases List.mem_append.mp N with z|z
      ·exact EM<|Y u z
      ·rw[List.mem_singleton.mp z,q];exact Rt
     ·rw[gl<|by simpa using q];have:=hk O.l [] va (λu N=>EM<|Y u<|by simpa using N) q0o;rw[kX]at this;exact this
  ·rw[gl<|by simpa using hx];refine⟨(show p.1.l.length<1000 by lia),vT (by have:=Ca p.1.l;show (EK p.1.l).length<=1000;lia),vU (q:=λk=>decide ((rowAt p.1.l k).map (·.1)=↑p.2.2.1)) (λk ab K o=>?_) ?_⟩
   ·obtain⟨y,Z⟩:=Option.isSome_iff_exists.mp<|yP.mp ab;refine#[_,(vp Z).2.2.2,y,rfl,?_];rw[Z]at o;show if decide (y.1=p.2.2.1)=true then _ else _;by_cases z:y.1=p.2.2.1
    ·rw[gI<|by simp[z]]at o ⊢;exact o
    ·rw[gl<|by simpa using z]at o ⊢;exact o
   ·have hs:=hX (λk=>decide ((rowAt p.1.l k).map (·.1)=↑p.2.2.1))<|EK p.1.l;have af:=Ca p.1.l;refine⟨(show ((EK p.1.l).filter _).length<60 by lia),λl l1 l2=>?_⟩
    have hl:∀c∈l,∃e,rowAt p.1.l c=↑(p.2.2.1,e):=λc P=>by
     have:=(List.mem_filter.mp<|l2 c P).2
     cases e:rowAt p.1.l c with
     |none=>rw[e]at this;simp at this
     |some y =>
      rw[e]at this;have this:y.1=p.2.2.1:=by simpa using this
      exact#[y.2,by rw[<- this]]
    obtain⟨c1,c2,c3⟩:=Od v l1 hl;have ll:l.length<=((EK p.1.l).filter λk=>decide ((rowAt p.1.l k).map (·.1)=↑p.2.2.1)).length:=wC l1 l2;refine#[vT (show l.length+1<=1000 by lia),B4 q0a,v,λc P=>?_,?_]
    ·obtain⟨e,he⟩:=hl c P;show (rowAt p.1.l c).isSome=true;rw[he];rfl
    ·refine hk _ [(p.2.2.1,l++[(p.1.l.length:Int)])] (HH v q0a λr e z=>?_) (λu N=>?_) q0o
     ·cases z;exact#[r0,r1,zh _ _,c1,c2]
     ·rcases List.mem_append.mp N with z|z
      ·exact EM<|Y u z
      ·rw[List.mem_singleton.mp z];exact c3
noncomputable abbrev Ly:ic:=top 35
noncomputable abbrev Lz:List Str:=["_law_bag_here","_law_most"]
def zI:uZ ["_law_bag_here","_law_most","_law_rows_here","_law_k","_law_loops","_law_rank_here"] Lz (uQ Ly):=by walk_at "sc"
def RN:(["_law_k"]:List Str).Nodup:=by decide +kernel
abbrev Ym(q:Cq)(k:Nat):=xi q "_law_rows" Lz Rr k
def Vc(F:Dg q "_law_rows" Ly f fd)(i:xi q "_law_pull" ["_law_bag_here","_law_many"] yB 4)(G:Vb q 4)(L:Yh q 4)(w:Oi q 4)(B:Bn q.mg):Gq q 5 f fd Lz Rr:=by
 refine' vc (wy (D':=Unit) (ms:=[0]) (j:=4) F zI rfl rfl λaa A X s H E hr =>
   (vg (vk 2 zI.nd (vn (α:=RW) vm))
   (vg (vF (tw_cm Ai (ve (vo i (vN 0 (uW uV uU)))) uV)
   (uS<|vk 2 zI.nd<|vo G<|uW (ve<|vo i<|vN 0<|uW uV uU) uU)
   vv)
   (vg (BM (Ts:=["_law_k"]) (Fr:=[]) (idx:=[]) (k:=1) (mb:=[]) (is:=[]) (cl:=[]) 4 zI.nd rfl rfl rfl q0q rfl (wS rfl B.range (wW rfl B.len (wm 2))) YM rfl (wv rfl) (λM N C ex pn=>(vq 0 (vd RN))) (λM N C ex pn=>(tws_one (tw_cm Mn (ss 0) uV))) (λM N C ex pn=>(wJ uV (vD (vn (uX (ss 0) vm))))))
   (vg (vF (tw_cm V1 (wW rfl B.len (wm 2)) uV)
   (uS<|vk 4 zI.nd<|Af (wm 4)<|vM<|vD<|vn<|uX (wJ uV<|vD<|vn<|uX uV<|uX uV<|uX uV vm)<|uX (wJ uV<|vD<|vn<|uX uV<|uX uV<|uX uV vm)<|uX (wJ uV<|vD<|vn<|uX uV<|uX uV<|uX uV vm) vm)
   vv)
   (vg (wE (is:=[]) (mb:=[0]) (D1:=Bg×Int×(OL RW)×Int×(OL (Int×(List Int)))×Un×Unit) (D2:=Bg×Int×(OL RW)×Int×(OL (Int×(List Int)))×Un×Unit) (vC q0q) zc rfl (wS rfl B.range (ve (vo i (vN 0 (uW (BE A9 (ss 1) uV) uU))))) (vq 3 (vd zI.nd))
   (uS (vF (tw_cm Ai (ve (vo i (vN 0 (uW uV uU)))) uV)
   (uS<|xD 2 TC)
   (Ml (D':=Bg×Int×(OL RW)×Int×(OL (Int×(List Int)))×Un×Unit) (vg (vk 5 zI.nd (vo L (vN 0 uU)))
   (uS (xD 2 (zx (wJ (ss 5) (vD (vo w (vN 2 (vN 4 (uW (ss 5) (vN 0 uU)))))))))))))) q0q q0q)
   (uS (zA 2 (pv 2))))))))) λp W I h=>?_
 walk_at "wl"
 obtain⟨hm,hk⟩:=h
 have S:∀(a:List RW) (o:List 90) (n:Int),n<=20->Vr a->a.length<=15->(∀u∈o,Lp a u)->o.length<=20 ->
   GQ (λ(x:Int) (b:Bg×Int×OL RW×WL.Un×OL 90×WL.Un×Unit) J (Kr:OL RW->Bg×WL.Un×Unit->Prop) I =>
    yB (b.1,9,()) (λx d=>if decide (x=8)=true then b.2.2.1.l.length<gL/\J (d.1,b.2.1,#[b.2.2.1.l++[none]],#[],b.2.2.2.2.1,b.2.2.2.2.2.1,b.2.2.2.2.2.2) else
     HC (d.1,()) (λx d=>AO (b.2.2.1,b.2.2.2.2.1,x,d.1,()) (λO d=>d.1.l.length<gL/\J (d.2.2.2.1,b.2.1,#[d.1.l++[↑(x,O.l)]],#[],d.2.1,#[],b.2.2.2.2.2.2)) λC d=>I C (d.2.2.2.1,#[],())) λC d=>I C (d.1,#[],())) λC d=>I C (d.1,#[],()))
   (yW 0 n) (#[],p.2.1,#[a],#[],#[o],#[],p.2.2) (λT=>W T.2.2.1 (T.1,#[],())) W I:=by
  intro a o n hn v hl Y ab;refine vP (λ(r:List Int) (b:Bg×Int×OL RW×WL.Un×OL 90×WL.Un×Unit)=>Vr b.2.2.1.l/\(∀u∈b.2.2.2.2.1.l,Lp b.2.2.1.l u)/\b.2.2.1.l.length+r.length<=35/\b.2.2.2.2.1.l.length+r.length<=100) (yW 0 n) #[v,Y,(by rw[wK];show a.length+_<=35;lia),(by rw[wK];show o.length+_<=100;lia)] ?_ ?_
  ·rintro y r b _ ⟨R,g2,g3,g4⟩ K D;rw[hZ]at g3 g4;refine wH q0q q0q λs s0 s1=>?_;dsimp only;by_cases q:s=8
   ·rw[gI<|decide_eq_true q];refine⟨B4 q0a,D _ ⟨HH R q0a (λr e z=>by cases z),λu P=>EM<|g2 u P,?_,?_⟩⟩
    ·show (b.2.2.1.l++[none]).length+r.length<=35;rw[gW,hW]
     lia
    ·show b.2.2.2.2.1.l.length+r.length<=100
     lia
   ·rw[gl<|by simpa using q];intro t t0 t1;refine⟨R,(show b.2.2.1.l.length<=34 by lia),(show b.2.2.2.2.1.l.length<=100 by lia),g2,t0,t1,λe u v1 v2 v3=>#[B4 (show b.2.2.1.l.length<1000 by lia),D _ #[v1,v2,?_,?_]]⟩
    ·show (b.2.2.1.l++[↑(t,e)]).length+r.length<=35;rw[gW,hW]
     lia
    ·show (b.2.2.2.2.1.l++u).length+r.length<=100;rw[gW]
     lia
  ·rintro b ⟨R,_,g3,_⟩;exact hk _ R q0a
 have Q:∀(a:List RW) (U:List 90),Vr a->a.length<=15->(∀u∈U,Lp a u)->U.length<=20->∀g:Bg,yB (g,p.2.1+1,()) (λx d=>(-2 ^ 62<=x/\x<2 ^ 62)/\GQ (λ(x:Int) (b:Bg×Int×OL RW×WL.Un×OL 90×WL.Un×Unit) J (Kr:OL RW->Bg×WL.Un×Unit->Prop) I =>
    yB (b.1,9,()) (λx d=>if decide (x=8)=true then b.2.2.1.l.length<gL/\J (d.1,b.2.1,#[b.2.2.1.l++[none]],#[],b.2.2.2.2.1,b.2.2.2.2.2.1,b.2.2.2.2.2.2) else
     HC (d.1,()) (λx d=>AO (b.2.2.1,b.2.2.2.2.1,x,d.1,()) (λO d=>d.1.l.length<gL/\J (d.2.2.2.1,b.2.1,#[d.1.l++[↑(x,O.l)]],#[],d.2.1,#[],b.2.2.2.2.2.2)) λC d=>I C (d.2.2.2.1,#[],())) λC d=>I C (d.1,#[],())) λC d=>I C (d.1,#[],()))
   (yW 0 x) (d.1,p.2.1,#[a],#[],#[U],#[],p.2.2) (λT=>W T.2.2.1 (T.1,#[],())) W I) (λC d=>I C (d.1,#[],())):=by
  intro a U v l1 Y l2 g;exact wH q0a q0a λr g0 R=>#[#[q0a,q0a],S a U r q0a v l1 Y l2]
 refine wH q0q q0q λx g0 R=>?_;dsimp only;by_cases hx:x=1
 ·rw[gI<|decide_eq_true hx];refine wH q0q q0q λm m0 m1=>#[m0,?_];dsimp only;have c:=List.all_eq_true.mp UU m.toNat<|List.mem_range.mpr q0a;unfold chk at c;simp only[iq,Bool.or_eq_true,ie]at c;refine Ct λae Z=>?_;obtain⟨⟨⟨⟨c1,c2⟩,c3⟩,c4⟩,c5⟩:=c;have v:=RA c1;refine Z ?_;refine#[#[q0a,q0a],(by rw[wK];exact vT q0a),vW (f:=λk:Int=>if decide (k<4)=true then some (0,[k]) else none) (λk _ K D=>?_) ?_]
  ·show if decide (k<4)=true then K ↑(0,[k]) _ else K none _;by_cases z:decide (k<4)=true
   ·rw[gI z]at D ⊢;exact D
   ·rw[gl z]at D ⊢;exact D
  ·have l0:∀u∈YS (Cc.take m.toNat).length,Lp (Cc.take m.toNat) u:=λu P=>Rz<|List.all_eq_true.mp c2 u P;by_cases h9:9<((Cc.take m.toNat).length:Int)
   ·rw[gI<|decide_eq_true h9];have c5:lp1.all (LpB<|Cc.take m.toNat)=true:=c5.elim (λz=>g8 z q0a) id;refine#[vT (show (YS (Cc.take m.toNat).length).length+3<=1000 by lia),Q _ (YS (Cc.take m.toNat).length++lp1) v c4 (λu P=>?_) ?_ _]
    ·rcases List.mem_append.mp P with z|z
     ·exact l0 u z
     ·exact Rz<|List.all_eq_true.mp c5 u z
    ·rw[gW];show _+3<=20
     lia
   ·rw[gl<|by simpa using h9];exact Q _ (YS (Cc.take m.toNat).length) v c4 l0 q0a _
 ·rw[gl<|by simpa using hx];refine⟨⟨q0q,q0q⟩,vT q0q,vW (f:=λk:Int=>if decide (k<4)=true then some (0,[k]) else none) (λk _ K D=>?_) ?_⟩
  ·show if decide (k<4)=true then K ↑(0,[k]) _ else K none _;by_cases z:decide (k<4)=true
   ·rw[gI z]at D ⊢;exact D
   ·rw[gl z]at D ⊢;exact D
  ·exact Q [] [] (RA rfl) q0q (λu P=>by cases P) q0q _
noncomputable abbrev LA:ic:=top 36
noncomputable abbrev LB:List Str:=["_law_body","_law_rows_here"]
def HP:uZ ["_law_body","_law_rows_here","_law_number","_law_row_here"] LB (uQ LA):=by walk_at "sc"
abbrev Yn(q:Cq)(k:Nat):=xi q "_law_fill" LB (Rs) k
set_option tactic.hygienic true in
def Vd(F:Dg q "_law_fill" LA f W)(ct:A1 q.K C)(a:a0n q 8)(g:UO q 8)(B:Bn q.mg):Gq q 9 f W LB (Rs):=by
 refine' vc (wy (D':=Unit) (ms:=[]) (j:=2) F HP rfl rfl λX A D s H E hr =>
   (vg (wE (is:=[]) (mb:=[]) (D1:=(Bd C true)×(List RW)×Int×RW×Unit) (D2:=(Bd C true)×(List RW)×Int×RW×Unit) (vC q0q) zc rfl (T9 rfl B.enumerate (ss 1)) (BJ 2 3 (DM rfl (wY (vd (i:=2) HP.nd) (wY (vd (i:=3) HP.nd) Bp))) q0q q0q)
   (uS (vF (tw_cm Xm (ss 3) Kv)
   (vg (wn (ve (wz 0 a (uW uV (uW (vD (vn (α:=Int) vm)) uU)))))
   (uS (wn (ve (wz 0 g (uW (ss 2) uU))))))
   (uS (wn (ve (wz 0 a (uW (Eb (Ae (ss 3))) (uW (vD (TF rfl B.list (vM (Ad (Ae (ss 3)))))) uU)))))))) q0q q0q)
   (uS (zA 0 (pv 0))))) λp Kn Ke h=>?_
 walk_at "wl"
 obtain⟨Y,v,Z⟩:=h;refine vP (λ(r:List (Int×RW)) (b:B0×List RW×WL.Un×WL.Un×Unit)=>∃k,r=NM k (p.2.1.drop k)/\k<=p.2.1.length/\yC b.1 (p.2.1.take k)/\b.1.ht=[]/\b.1.th=[]) (NM 0 p.2.1) #[0,rfl,iN _,?_] ?_ ?_
 ·show yC p.1 []/\p.1.ht=[]/\p.1.th=[];rw[Y];exact#[UW,rfl,rfl]
 ·rintro x r b _ ⟨k,e,O,c,m,n⟩ K hK
  have l:k<p.2.1.length:=by
   rcases Nat.lt_or_ge k p.2.1.length with z|z
   ·exact z
   ·rw[List.drop_of_length_le z]at e;cases e
  rw[nV l]at e;have e1:x=((k:Int),p.2.1[k]):=by cases e;rfl
  have e2:r=NM (k+1) (p.2.1.drop<|k+1):=by cases e;rfl
  have tk:p.2.1.take (k+1)=p.2.1.take k++[p.2.1[k]]:=(List.take_append_getElem l).symm;have G:(p.2.1.take k).length=k:=List.length_take_of_le O;have I:=UT v k;have next:∀o:B0,yC o (p.2.1.take k++[p.2.1[k]])->o.ht=[]->o.th=[]->K (o,b.2.1,#[],#[],b.2.2.2.2):=λo h m1 m2=>hK _ #[k+1,e2,l,by rw[tk];exact h,m1,m2]
  have P:rowAt p.2.1 (k:Int)=p.2.1[k]:=EL q0a (by rw[lq];exact jp l);have ln:=v.ln;subst e1;dsimp only
  cases z:p.2.1[k] with
  |none =>
   rw[gI<|show (none:RW).isNone=true from rfl];rw[z]at next
   refine Ry c I (om 0) q0q iw (λ_ q=>by cases q) rfl λQ J u w=>?_;have R:Vr (p.2.1.take k++[↑(0,[])]):=a0t I q0a;refine US J R (by have:=vX (rows:=p.2.1.take k) (z:=↑(0,[]));rw[G]at this;rw[this];rfl) (λh t=>?_) (by unfold wG;rw[u,w,m,n];rfl) λx2 S g3 g4=>next x2 ?_ (g3.trans<|u.trans m)<|g4.trans<|w.trans n
   ·cases q:rowAt (p.2.1.take k++[↑(0,[])]) h with
    |none=>unfold eb at t;rw[q]at t;cases t
    |some y =>
     rw[yD q]at t;have T:=((R.ok h y.1 y.2 q).2.2.2.1 _ t).1;have L:=(vp q).2.1;rw[gW,hW,G]at L
     lia
   ·rw[lq,List.set_append_right _ _ q0a,G,qC]at S;exact S
  |some y =>
   rw[gl q0o];rw[z]at next P
   refine Ct λaa M=>?_;obtain⟨T,L,a3,U,a5⟩:=v.ok k y.1 y.2 P;refine M ?_;refine#[y,rfl,y,rfl,Ry c I T L a3 (λd N=>?_) ?_ λQ J u w=>next Q J (u.trans m)<|w.trans n]
   ·obtain⟨q1,e',q2⟩:=U d N;exact#[e',by rw[xN,gI q1];exact q2]
   ·rw[<- a5];refine xE λd N=>?_;unfold eb;rw[xN,gI (U d N).1]
 ·rintro b ⟨k,e,O,c,m,n⟩
  have:k=p.2.1.length:=by
   rcases Nat.lt_or_ge k p.2.1.length with z|z
   ·rw[nV z]at e;cases e
   ·lia
  rw[this,uO]at c;exact Z _ c m n
noncomputable abbrev ES:ic:=top 37
noncomputable abbrev ET:List Str:=["_law_arrows"]
def Oj:uZ ["_law_arrows"] ET (uQ ES):=by walk_at "sc"
def EU:(["_law_low","_law_high"]:List Str).Nodup:=by decide +kernel
abbrev EX(q:Cq)(k:Nat):=xi q "_law_tails" ET JD k
def Ol(F:Dg q "_law_tails" ES f l):Gq q 2 f l ET JD:=by
 refine' vc (wy (D':=Unit) (ms:=[]) (j:=0) F Oj rfl rfl λm A c s H E o =>
   (uS (vf (wB (Ts:=["_law_low","_law_high"]) (Fr:=[]) (idx:=[]) (k:=2) (mb:=[]) (is:=[]) (cl:=[]) rfl (wh (ss 0)) YM rfl (wv rfl) (λa b C d g=>(BJ 0 1 (DM rfl (wY (vd (i:=0) EU) (wY (vd (i:=1) EU) Bp))) q0q q0q)) (λa b C d g=>tws_nil) (λa b C d g=>(ss 0)))))) λp r t h=>?_
 walk_at "wl"
 obtain⟨u,h⟩:=h;have v:gL=16777216:=i8;refine#[q0a,?_];refine vW (f:=λ(e:Int×Int)=>↑e.1) (λe w K n=>n) ?_;rw[oO];exact h
abbrev LC:ic:=top 40
abbrev LD:List Str:=["_law_arrows","_law_tail"]
def HQ:uZ ["_law_arrows","_law_tail","_law_low","_law_high"] LD (uQ LC):=by walk_at "sc"
abbrev Yo(q:Cq)(k:Nat):=xi q "_law_head" LD w_head k
def Ve(F:Dg q "_law_head" LC f k):Gq q 2 f k LD w_head:=by
 refine' vc (wy (D':=Unit) (ms:=[]) (j:=2) F HQ rfl rfl λl A a s H E x =>
   (vg (wE (is:=[]) (mb:=[]) (D1:=(List (Int×Int))×Int×Int×Int×Unit) (D2:=(List (Int×Int))×Int×Int×Int×Unit) (vC q0q) zc rfl (wh (ss 0)) (BJ 2 3 (DM rfl (wY (vd (i:=2) HQ.nd rfl (kg rfl)) (wY (vd (i:=3) HQ.nd rfl (kg rfl)) Bp))) q0q q0q)
   (uS (vF (tw_cm Ai (ss 2) (ss 1) (vH _))
   (uS<|vf<|vj<|ss 3)
   vv)) q0q q0q)
   (uS (vf (vj (Qb uV)))))) λp y B h=>?_
 walk_at "wl"
 obtain⟨m,n⟩:=h;refine vP (λ(r:List (Int×Int)) (b:List (Int×Int)×Int×WL.Un×WL.Un×Unit)=>b.2.1=p.2.1/\(∀e∈r,e∈p.1)/\∃e∈r,e.1=p.2.1) p.1 #[rfl,λ_ z=>z,m] ?_ ?_
 ·rintro e r b _ ⟨o,c,t⟩ K u;rw[o];by_cases q:e.1=p.2.1
  ·rw[gI<|decide_eq_true q];exact n e (c e gO) q
  ·rw[gl<|by simpa using q];refine u _ ⟨rfl,λd v=>c d<|gS _ v,?_⟩;obtain⟨d,w,g⟩:=t;rcases List.mem_cons.mp w with z|z
   ·exact g8 (z▸g) q
   ·exact#[d,z,g]
 ·rintro b ⟨_,_,e,z,_⟩;cases z
abbrev LF:ic:=top 41
abbrev LG:List Str:=["_law_rows_here","_law_arrows","_law_tail"]
def HR:uZ ["_law_rows_here","_law_arrows","_law_tail","_law_head_here","_law_tails_here"] LG (uQ LF):=by walk_at "sc"
def RO:(["_law_x","_law_tail","_law_tails_here"]:List Str).Nodup:=by decide +kernel
abbrev Yp(q:Cq)(k:Nat):=xi q "_law_next" LG w_next k
def Vf(F:Dg q "_law_next" LF f z)(b:Yo q 2)(a:EX q 2):Gq q 3 f z LG w_next:=by
 refine' vc (wy (D':=Unit) (ms:=[]) (j:=2) F HR rfl rfl λB A m s H E r =>
   (vg (vk 3 HR.nd (vo b (uW (ss 1) (uW (ss 2) uU))))
   (vg (vF (tw_cm Mn (ss 3) uV (vH _))
   (uS<|vf<|vn (α:=Int) vm)
   vv)
   (vg (vk 4 HR.nd (vo a 88) (hx:=pN rfl))
   (uS (vf (wB (Ts:=["_law_x"]) (Fr:=["_law_tail","_law_tails_here"]) (idx:=[2,4]) (k:=1) (mb:=[1,2]) (is:=[]) (cl:=[("_law_tails_here",⇑s+1+1),("_law_tail",⇑s+1)]) rfl (wh (Ad (Ae (xf (vM (ss 0)) (ss 3))))) YN rfl (wv rfl) (λc d C t u=>(vq 0 (vd (i:=0) RO rfl (kg rfl)) q0q)) (λc d C t u=>(tws_one (tw_w (GO (tw_cm AZ (ss 0) (ss 1) (vH _)) (Dt (tw_cmI PX (ss 0) (wm 2) (by with_unfolding_all rfl))))))) (λc d C t u=>(ss 0))))))))) λp M N h=>?_
 walk_at "wl"
 refine Ct λn g=>?_;obtain⟨⟨r,D,G⟩,I⟩:=h;have O:gL=16777216:=i8;refine g ?_;refine#[D,λe v w=>?_];refine Ct λn g=>?_;obtain⟨y,o⟩:=r e v w;obtain⟨J,x⟩:=I e v w;refine g ?_;rw[yD o]at J x;have L:=(vp o).1;rw[gl<|by simpa using L];refine⟨G,_,(vp o).2.2.2,y,rfl,q0d,vU (q:=λk=>decide (k≠p.2.2.1)&&decide (k∈p.2.1.map (·.1))) (λk _ K l=>?_) x⟩;show if (!decide (k=p.2.2.1))=true then (if decide (k∈p.2.1.map (·.1))=true then _ else _) else _;by_cases q:k=p.2.2.1
 ·rw[gl<|by simp[q]];rw[gl<|by simp[q]]at l;exact l
 ·rw[gI<|by simp[q]];simp only[q,ne_eq,not_false_eq_true,decide_true,Bool.true_and]at l;exact l
noncomputable abbrev HS:ic:=top 38
abbrev HU:List Str:=["_law_arrows"]
def RP:uZ ["_law_arrows"] HU (uQ HS):=by walk_at "sc"
def Gi:(["_law_low","_law_high"]:List Str).Nodup:=by decide +kernel
abbrev Vg(q:Cq)(k:Nat):=xi q "_law_heads" HU MV k
def RQ(F:Dg q "_law_heads" HS f l)(B:Bn q.mg):Gq q 2 f l HU MV:=by
 refine' vc (wy (D':=Unit) (ms:=[]) (j:=0) F RP rfl rfl λm A c s H E r =>
   (uS (vf (FW rfl B.sorted (vM (vD (wB (Ts:=["_law_low","_law_high"]) (Fr:=[]) (idx:=[]) (k:=2) (mb:=[]) (is:=[]) (cl:=[]) rfl (wh (ss 0)) YM rfl (wv rfl) (λa b C d g=>(BJ 0 1 (DM rfl (wY (vd (i:=0) Gi) (wY (vd (i:=1) Gi) Bp))) q0q q0q)) (λa b C d g=>tws_nil) (λa b C d g=>(ss 1))))))))) λp t u h=>?_
 walk_at "wl"
 obtain⟨n,h⟩:=h;have v:gL=16777216:=i8;refine#[q0a,?_];refine vW (f:=λ(e:Int×Int)=>↑e.2) (λe w K o=>o) ?_;rw[oO];exact#[by rw[gM];exact n,h]
noncomputable abbrev EY:ic:=top 39
noncomputable abbrev EZ:List Str:=["_law_row_here","_law_keep"]
def Om:uZ ["_law_row_here","_law_keep"] EZ (uQ EY):=by walk_at "sc"
def LH:(["_law_x","_law_keep"]:List Str).Nodup:=by decide +kernel
abbrev JH(q:Cq)(k:Nat):=xi q "_law_parted" EZ JE k
def On(F:Dg q "_law_parted" EY f g):Gq q 2 f g EZ JE:=by
 refine' vc (wy (D':=Unit) (ms:=[]) (j:=0) F Om rfl rfl λi A c s H E o =>
   (uS (vf (wB (Ts:=["_law_x"]) (Fr:=["_law_keep"]) (idx:=[1]) (k:=1) (mb:=[1]) (is:=[]) (cl:=[("_law_keep",⇑s+1)]) rfl (wh (ss 0)) Wb rfl (wv rfl) (λa b C d e=>(vq 0 (vd LH))) (λa b C d e=>(tws_one (tw_cmI PX (ss 0) (vM (ss 1)) (by with_unfolding_all rfl)))) (λa b C d e=>(ss 0)))))) λp r t h=>?_
 walk_at "wl"
 obtain⟨l,m⟩:=h;exact#[vT l,vU (q:=λk=>decide<|k∈p.2.1) (λk _ K n=>n) m]
abbrev E4:ic:=top 42
abbrev E5:List Str:=["_law_rows_here","_law_arrows"]
def yw:uZ ["_law_rows_here","_law_arrows","_law_left","_law_steps","_law_tail","_law_k"] E5 (uQ E4):=by walk_at "sc"
def LI:(["_law_x","_law_left","_law_steps"]:List Str).Nodup:=by decide +kernel
abbrev RS(q:Cq)(k:Nat):=xi q "_law_ringed" E5 JF k
set_option tactic.hygienic true in
def Oo(F:Dg q "_law_ringed" E4 f fd)(c:EX q 3)(u:Yp q 3)(d:JH q 3)(B:Bn q.mg):Gq q 4 f fd E5 JF:=by
 refine' vc (wy (D':=Unit) (ms:=[]) (j:=4) F yw rfl rfl λae A aa s H E v =>
   (vg (vk 2 yw.nd (vj (vD (vo c 88))) (hx:=pN rfl))
   (vg (vk 3 yw.nd (Z8 (α:=(List Int))) (hx:=pN rfl))
   (vg (wE (is:=[]) (mb:=[]) (D1:=(List 73)×(List (Int×Int))×(List Int)×(Dc (List Int))×Int×Un×Unit) (D2:=(List 73)×(List (Int×Int))×(List Int)×(Dc (List Int))×Int×Un×Unit) (vC q0q) zc rfl (wh (ss 2)) (vq 4 (vd (i:=4) yw.nd rfl (kg rfl)) q0q)
   (uS (Jh 3 (Df v) (pv 3) (ss 4) (vD (vo u (uW (ss 0) (uW (ss 1) (uW (ss 4) uU))))))) q0q q0q)
   (vg (wE (is:=[]) (mb:=[]) (D1:=(List 73)×(List (Int×Int))×(List Int)×(Dc (List Int))×Un×Int×Unit) (D2:=(List 73)×(List (Int×Int))×(List Int)×(Dc (List Int))×Un×Int×Unit) (vC q0q) zc rfl (wS rfl B.range (wW rfl B.len (vM (ss 1)))) (vq 5 (vd (i:=5) yw.nd rfl (kg rfl)) q0q)
   (uS (vk 2 yw.nd (vj (vD (wB (Ts:=["_law_x"]) (Fr:=["_law_left","_law_steps"]) (idx:=[2,3]) (k:=1) (mb:=[1,2]) (is:=[]) (cl:=[("_law_steps",⇑s+1+1),("_law_left",⇑s+1)]) rfl (wh (ss 2)) YN rfl (wv rfl) (λD G C ex pn=>(vq 0 (vd (i:=0) LI rfl (kg rfl)) q0q)) (λD G C ex pn=>(tws_one (tw_cmL (Cv v.units) (vM (vD (vo d (uW (Jg 2 (Df v) (pv 2) (ss 0)) 88) (hr:=v) (hx:=V4)))) (vM (vD (vn (α:=Int) vm))) (vH _)))) (λD G C ex pn=>(ss 0))))) (hx:=pN rfl))) q0q q0q)
   (uS (vf (vj (PY (Cv v.units) (vM (ss 2)) (vM (vD (vn (α:=Int) vm))) (vH _)))))))))) λp Kn Ke h=>?_
 walk_at "wl"
 refine Ct λab I=>?_;obtain⟨⟨v,⟨M,T⟩,hl⟩,h⟩:=h;have sl:gL=16777216:=i8;refine I ?_
 have nl:∀k∈p.2.1.map (·.1),(nx p.1 p.2.1 M k).length<=1000/\∀t∈nx p.1 p.2.1 M k,t∈p.2.1.map (·.1):=λk a=>by refine Ct λab I=>?_;obtain⟨e,o,q⟩:=List.mem_map.mp a;obtain⟨y,O,yl⟩:=v e o;refine I ?_;refine#[ij (hX _ _) (by rw[<- q,T e o,yD O];omega),λt P=>?_];have z:=(List.mem_filter.mp P).2;rw[iq,ie,ie]at z;exact z.2
 refine#[hl,?_];refine vP (λ(r:List Int) (b:List RW×List (Int×Int)×List Int×Dc (List Int)×WL.Un×WL.Un×Unit)=>b.1=p.1/\b.2.1=p.2.1/\b.2.2.1=p.2.1.map (·.1)/\(∀k∈p.2.1.map (·.1),k∈r\/lk b.2.2.2.1.l k=↑(nx p.1 p.2.1 M k))/\b.2.2.2.1.l.length+r.length<=64) _ #[rfl,rfl,rfl,λk a=>.inl a,by show 0+(p.2.1.map (·.1)).length<=64;rw[gM];omega] ?_ ?_
 ·intro x0 r;refine ZN λb1 b2 U W b5 b6 b7=>?_;rintro⟨r0,hm⟩ ⟨rfl,rfl,rfl,J,j5⟩ K Q;dsimp only at J j5 ⊢;have hm:p.2.1.map (·.1)=r0++x0::r:=hm;have mm:x0∈p.2.1.map (·.1):=by rw[hm];simp
  obtain⟨e,o,rfl⟩:=List.mem_map.mp mm;rw[hZ]at j5;refine#[#[λX Y _=>(v X Y).imp λy O=>O.1,#[e,o,rfl],hl],λX Y en=>?_];obtain⟨y,O,yl⟩:=v X Y;refine#[by rw[yD O];omega,q0d,Q _ #[rfl,rfl,rfl,λk a=>?_,?_]]
  ·show k∈r\/lk (pk W.l e.1 _) k=_;rw[xo];by_cases q:k=e.1
   ·rw[gI q,q];right;unfold nx;rw[<- en,T X Y]
   ·rw[gl q];exact(J k a).imp (λz=>(List.mem_cons.mp z).resolve_left q) id
  ·exact ij (Nat.add_le_add_right a0v _) q0d
 ·refine ZN λb1 b2 U W b5 b6 b7=>?_;rintro⟨rfl,rfl,rfl,J,_⟩;dsimp only at J ⊢;have J:∀k∈p.2.1.map (·.1),lk W.l k=↑(nx p.1 p.2.1 M k):=λk a=>(J k a).resolve_left q0o;refine#[q0d,?_];refine vP (λ(r:List Int) (b:List RW×List (Int×Int)×List Int×Dc (List Int)×WL.Un×WL.Un×Unit)=>b.1=p.1/\b.2.1=p.2.1/\b.2.2.2.1.l=W.l/\(∀k∈b.2.2.1,k∈p.2.1.map (·.1))/\b.2.2.1.length<=64/\(Acr p.1 p.2.1->b.2.2.1.length<=r.length)/\UY (nx p.1 p.2.1 M) (p.2.1.map (·.1)) b.2.2.1 r.length) _ #[rfl,rfl,rfl,λk a=>a,by show (p.2.1.map (·.1)).length<=64;rw[gM];omega,λ_=>by rw[wK];show (p.2.1.map (·.1)).length<=_;rw[gM];omega,λ_=>0,λx hx n=>(n hx).elim] ?_ ?_
  ·rintro x0 r ⟨b1,b2,U,c4,c5,b6,b7⟩ _ ⟨rfl,rfl,R,L,Z,S,N⟩ K Q;dsimp only at R L Z S N ⊢;refine#[q0d,vU (q:=λk=>!decide ((nx p.1 p.2.1 M k).filter (λt=>decide<|t∈U)=[])) (λk a K Q=>#[_,(congrArg (lk · k) R).trans<|J k<|L k a,(nl k<|L k a).1,Q]) ?_];refine Q _ ⟨rfl,rfl,R,λk a=>L k<|HI a,ij (hX _ _) Z,λac=>?_,N.next λx hx=>(nl x hx).2⟩;have z:=S ac;obtain⟨g,hg⟩:=ac;refine UX (r:=g) (λk a t P=>?_) z;obtain⟨e,o,q⟩:=List.mem_map.mp<|L k a;have w:=List.mem_filter.mp P;rw[iq,ie,ie]at w;rw[<- q,T e o]at w;rw[<- q];exact hg e o t w.1 w.2.1 w.2.2
  ·rintro⟨b1,b2,U,c4,c5,b6,b7⟩ ⟨rfl,rfl,R,L,Z,S,N⟩;dsimp only at R L Z S N ⊢;refine h _ #[λz ac=>?_,λn=>?_]
   ·have:=List.eq_nil_of_length_eq_zero<|Nat.le_zero.mp<|S ac;rw[this]at z;simp at z
   ·rw[uD,decide_eq_false_iff_not];intro z;rw[z]at N;obtain⟨g,hg⟩:=N;refine n #[g,λe o t P q m=>?_];refine((hg e.1 (List.mem_map.mpr #[e,o,rfl]) q0o).2 t<|List.mem_filter.mpr #[by rw[T e o];exact P,?_]).2;rw[iq,ie,ie];exact#[q,m]
abbrev yE:ic:=top 50
abbrev yF:List Str:=["_law_field","_law_low","_law_high"]
def w8:uZ ["_law_field","_law_low","_law_high","_law_word"] yF (uQ yE):=by walk_at "sc"
abbrev E6(q:Cq)(k:Nat):=xi q "_law_tied_or_ring" yF (AB) k
def Dh(F:Dg q "_law_tied_or_ring" yE f k)(l:A1 q.K C)(b:a0p q 6)(a:a0d q XR "RingOfArrows"):Gq q 7 f k yF (AB):=by
 refine' vc (wy (D':=Unit) (ms:=[0]) (j:=1) F w8 rfl rfl λm A d s H E o =>
   (vg (vk 3 w8.nd (vj Cy))
   (vg (Ul rfl (XX rfl a.m1 a.x1) (XW (τ:=Unit) (PO:=Unit) (n:=0) (a0c 0 b o l.cl (λg i c=>(pv 0)) (λg i c=>(uW (ss 1) (uW (ss 2) uU)))) (λg i c =>
   (uS (vk 3 w8.nd (vj Cy))))) (λD =>
   (uS (vk 3 w8.nd (vj Cy)))))
   (uS (vf (vj (ss 3))))))) λp G I h=>?_
 walk_at "wl"
 refine Ct λr e=>?_;obtain⟨⟨t,u,v,w,x,y⟩,z,B⟩:=h;refine e ?_;refine#[t,?_];show if (61).isSome=true then (if (lk p.1.rk p.2.2.1).isSome=true then (if p.2.1∈xF p.1 p.2.2.1 then (if wG p.1 p.2.1=true\/wG p.1 p.2.2.1=true then _ else _) else _) else _) else _;rw[gI u,gI v,gI w,gl<|by rw[x,y];simp];exact⟨λn=>#[List.mem_singleton.mpr rfl,z n],λac=>B ac⟩
abbrev HV:ic:=top 46
abbrev HW:List Str:=["_law_found","_law_due"]
def RT:uZ ["_law_found","_law_due"] HW (uQ HV):=by walk_at "sc"
abbrev Vh(q:Cq)(k:Nat):=xi q "_law_truth" HW HE k
def RU(F:Dg q "_law_truth" HV f b)(B:Bn q.mg):Gq q 2 f b HW HE:=by
 refine' vc (wy (D':=Unit) (ms:=[]) (j:=0) F RT rfl rfl λc A a s H E d =>
   (uS (vf (vj (GP (yt (ty:="bool") rfl B.isinstance (AD (v:=.ty "bool") rfl B.bool qI rfl) (ss 0)) (BH (ZD Ai (ss 0) (ss 1) (vH _)))))))) λp e g h=>?_
 walk_at "wl"
 rw[gI rfl];exact h
abbrev zJ:ic:=top 47
abbrev zK:List Str:=["_law_body","_law_rows_here"]
def yV:uZ ["_law_body","_law_rows_here","_law_cell"] zK (uQ zJ):=by walk_at "sc"
abbrev HX(q:Cq)(k:Nat):=xi q "_law_cells_kept" zK (B9) k
def FA(F:Dg q "_law_cells_kept" zJ f O)(L:A1 q.K C)(e:Yl q 6)(a:Lq q 6)(n:Vh q 6)(o:HL q 6)(t:ML q 6)(g:QY q 6)(l:QX q 6)(d:UF q 6)(m:Q1 q 6)(B:Bn q.mg):Gq q 7 f O zK (B9):=by
 refine' vc (wy (D':=Unit) (ms:=[0]) (j:=1) F yV rfl rfl λP A z s H E M =>
   (vg (vF (tw_w (CU (tw_not (tw_val (ve (vo e (uW (vD (Je 0 t M L.cl AY (pv 0))) (uW (vD (vo a 88)) uU)))))) (Bi (tw_cm AZ (ve (Je 0 g M L.cl AY (pv 0))) (wW rfl B.len (vM (ss 1))) (vH _)))))
   (uS<|vf<|vj yJ)
   vv)
   (vg (wE (is:=[]) (mb:=[0]) (D1:=(Bd C true)×(List 73)×Int×Unit) (D2:=(Bd C true)×(List 73)×Int×Unit) (vC q0q) zc rfl (NI rfl B.range (Qb uV) (BE A9 (wW rfl B.len (vM (ss 1))) uV) (λh=>Na rfl B.range h)) (vq 2 (vd (i:=2) yV.nd rfl (kg rfl)) q0q)
   (uS (vF (tw_not (tw_val (ve (vo n (uW (ve (wz 0 l (uW (ss 2) uU))) (uW (Xo PX (ss 2) (vM (vD (vo a 88))) (by with_unfolding_all rfl)) uU))))))
   (uS<|vf<|vj yJ)
   vv)) q0q q0q)
   (vg (wE (is:=[]) (mb:=[0]) (D1:=(Bd C true)×(List 73)×Int×Unit) (D2:=(Bd C true)×(List 73)×Int×Unit) (vC q0q) zc rfl (wh (vD (vo a 88))) (vq 2 (vd (i:=2) yV.nd rfl (kg rfl)) q0q)
   (vg (vF (tw_w (CU (tw_cm AZ (ve (wz 0 d (uW (ss 2) uU))) (Eb (Ae (xf (vM (ss 1)) (ss 2)))) (vH _)) (Bi (tw_not (tw_val (ve (vo o (uW (ve (wz 0 d (uW (ss 2) uU))) uU))))))))
   (uS<|vf<|vj yJ)
   vv)
   (uS (vF (tw_not (tw_val (ve (vo e (uW (vD (wz 0 m (uW (ss 2) uU))) (uW (Ad (Ae (xf (vM (ss 1)) (ss 2)))) uU))))))
   (uS<|vf<|vj yJ)
   vv))) q0q q0q)
   (uS (vf (vj yJ))))))) λp S T h=>?_
 walk_at "wl"
 obtain⟨c,v,h⟩:=h;have U:=v.ln;refine#[c.okb v,(show p.2.1.length<1000 by omega),MT c.ks ?_];rw[gl q0q];show if (!decide (p.1.up=(p.2.1.length:Int)))=true then _ else _;rw[gl<|by simp[c.up]];refine⟨⟨q0q,q0q,q0d,q0d⟩,?_⟩;refine vP (λ(r:List Int)(b:B0×List RW×WL.Un×Unit)=>b.1=p.1/\b.2.1=p.2.1) _ #[rfl,rfl] ?_ ?_
 ·rintro k r ⟨D,G,I⟩ _ ⟨u,w⟩ K J;dsimp only at u w ⊢;subst u w;refine#[(show p.2.1.length<1000 by omega),RC (c.a0s k) ?_];rw[gl q0q];exact J _ #[rfl,rfl]
 ·rintro⟨D,G,I⟩ ⟨u,w⟩;dsimp only at u w ⊢;subst u w;refine#[(show p.2.1.length<1000 by omega),?_];refine vP (λ(r:List Int)(b:B0×List RW×WL.Un×Unit)=>b.1=p.1/\b.2.1=p.2.1/\∀k∈r,(rowAt p.2.1 k).isSome=true) _ #[rfl,rfl,λk Q=>yP.mp Q] ?_ ?_
  ·rintro k r ⟨D,G,I⟩ _ ⟨u,w,N⟩ K J;dsimp only at u w ⊢;subst u w;obtain⟨y,x⟩:=Option.isSome_iff_exists.mp<|N k gO;refine MU c x ⟨_,(vp x).2.2.2,y,rfl,?_⟩;rw[gl q0o];refine MU c x<|EN ?_;rw[gl q0q];refine Oe c v x ⟨_,(vp x).2.2.2,y,rfl,MT rfl ?_⟩;rw[gl q0q];exact J _ ⟨rfl,rfl,λj R=>N j<|gS _ R⟩
  ·rintro⟨D,G,I⟩ ⟨u,w,_⟩;dsimp only at u w ⊢;subst u w;exact h
abbrev HY:ic:=top 48
abbrev HZ:List Str:=["_law_found","_law_due"]
def JI:uZ ["_law_found","_law_due","_law_k"] HZ (uQ HY):=by walk_at "sc"
abbrev Vi(q:Cq)(k:Nat):=xi q "_law_pairs" HZ MW k
def RV(F:Dg q "_law_pairs" HY f o)(a:HL q 3)(B:Bn q.mg):Gq q 4 f o HZ MW:=by
 refine' vc (wy (D':=Unit) (ms:=[]) (j:=1) F JI rfl rfl λt A d s H E u =>
   (vg (vF (tw_w (CU (tw_not (tw_val (yt (ty:="list") rfl B.isinstance (AD (v:=.ty "list") rfl B.list jT rfl) (ss 0)))) (Bi (tw_cm AZ (wW rfl B.len (vM (ss 0))) (wW rfl B.len (vM (ss 1))) (vH _)))))
   (uS<|vf<|vj yJ)
   vv)
   (vg (wE (is:=[]) (mb:=[]) (D1:=(List (Int×Int))×(List (Int×Int))×Int×Unit) (D2:=(List (Int×Int))×(List (Int×Int))×Int×Unit) (vC q0q) zc rfl (wS rfl B.range (wW rfl B.len (vM (ss 1)))) (vq 2 (vd (i:=2) JI.nd rfl (kg rfl)) q0q)
   (vg (vF (tw_w (CU (tw_not (tw_val (yt (ty:="tuple") rfl B.isinstance (AD (v:=.ty "tuple") rfl B.tuple qA rfl) (xf (vM (ss 0)) (ss 2))))) (Bi (tw_cm AZ (Um rfl B.len (xf (vM (ss 0)) (ss 2))) uV (vH _)))))
   (uS<|vf<|vj yJ)
   vv)
   (uS (vF (tw_w (CU (tw_not (tw_val (ve (vo a (uW (Eb (xf (vM (ss 0)) (ss 2))) uU))))) (CU (tw_not (tw_val (ve (vo a (uW (Ad (xf (vM (ss 0)) (ss 2))) uU))))) (Bi (tw_cm (Xn u.units) (xf (vM (ss 0)) (ss 2)) (xf (vM (ss 1)) (ss 2)) (vH _))))))
   (uS<|vf<|vj yJ)
   vv))) q0q q0q)
   (uS (vf (vj yJ)))))) λp C D h=>?_
 walk_at "wl"
 obtain⟨e,n,k⟩:=h;rw[e]at n ⊢;refine qY (gl q0q)<|qY (gl q0o) ⟨⟨q0d,q0d⟩,?_⟩;refine vP (λ(r:List Int) (b:List (Int×Int)×List (Int×Int)×WL.Un×Unit)=>b.1=p.2.1/\b.2.1=p.2.1/\∀j∈r,0<=j/\j<(p.2.1.length:Int)) _ #[rfl,rfl,λj w=>HF w] ?_ λ_ _=>k;intro j r;refine a2f λG I J L=>?_;rintro _ ⟨l,m,g⟩ K x;dsimp only at l m ⊢;subst l m;obtain⟨y,c,_⟩:=yj (g j gO).1 (g j gO).2;exact#[y,c,qY (gl q0q) #[y,c,qY (gl q0q) #[y,c,EN<|qY (gl q0q) ⟨y,c,EN<|qY (gl q0q) ⟨y,c,y,c,qY (gl q0o)<|x _ ⟨rfl,rfl,λi z=>g i<|gS _ z⟩⟩⟩]]]
abbrev LJ:ic:=top 49
abbrev LK:List Str:=["_law_field","_law_rows_here","_law_arrows"]
def Vj:uZ ["_law_field","_law_rows_here","_law_arrows"] LK (uQ LJ):=by walk_at "sc"
abbrev Yq(q:Cq)(k:Nat):=xi q "_law_kept" LK (RD) k
def Vk{f:ci}{fd:iE}(F:Dg q "_law_kept" LJ f fd)(ct:A1 q.K C)(H0:HX q 7)(Vl:Vi q 7)(RX:Rh q 7):Gq q 8 f fd LK (RD):=by
 refine' vc (wy (D':=Unit) (ms:=[0]) (j:=0) F Vj rfl rfl λPg A outer s H E hr =>
   (uS (vf (vj (GP (ve (vo H0 (vN 0 88))) (BH (ve (vo Vl (uW (vD (Je 0 RX hr ct.cl AY (pv 0))) (uW (ss 2) uU)))))))))) λp Kn Ke h=>?_
 walk_at "wl"
 refine Ct λj0z Yr=>?_;obtain⟨⟨c,v,ln,A,so⟩,k⟩:=h;have al:=A.Yg c ln;refine Yr ?_;refine#[c,v,qY (gI rfl) #[by show p.1.ht.length<64;omega,A.ok.nd,A.eq so,?_,k]];show ((Fd<|wT p.1).map λl=>(l,wF p.1 l)).length<64;rw[A.eq so];omega
end
noncomputable abbrev RY:ic:=top 26
def Ys{K:gH}{p:Sv K×Unit}{Kn:Bg->WL.Un×Unit->Prop}{Ke:ci->WL.Un×Unit->Prop}(k:Kn #[] (#[],())):Qr K p Kn Ke:=k
section
variable{x:B0}{rows:List RW}{a:List (Int×Int)}
end
section
variable{x:B0}{rows:List RW}{a:List (Int×Int)}{l g:List Int}{Kb:Bool->WL.Un×Unit->Prop}{K1:OL Int->WL.Un×Unit->Prop}{K2:OL Int->WL.Un×WL.Un×Unit->Prop}{E1:ci->WL.Un×Unit->Prop}{E2:ci->WL.Un×WL.Un×Unit->Prop}
def Vm{c:Bool}{P Q:Prop}(h:c=false)(k:Q):if c=true then P else Q:=by rw[gl<|by rw[h];decide];exact k
def a2K{c:Bool}{P Q:Prop}(h:c=true)(k:P):if c=true then P else Q:=by rw[gI h];exact k
def RZ{α:Type}[DecidableEq α]{l:List α}(h:(!decide (l=[]))=true):0<l.length:=by
 cases l with
 |nil=>simp at h
 |cons a l=>exact mE _
def Arr.perm(A:Arr x a){b:List (Int×Int)}(p:a.Perm b):Arr x b:=#[A.ok,A.nt,(p.map _).symm.trans A.pm,λe he=>A.hd e<|p.mem_iff.mpr he]
def Op{i:Nat}{y:Int×Int}{Kn:Int->B0×WL.Un×Unit->Prop}{Ke:ci->B0×WL.Un×Unit->Prop}(A:Arr x a)(h:a[i]?=↑y)(k:Kn y.2 (({ x with ht:=dk x.ht y.1,th:=dk x.th (wF x y.1)}:B0),#[],())):DE (x,y.1,()) Kn Ke:=by have ya:=ju h;have e:=yU<|A.mem ya;refine#[A.ok,?_];show if (lk x.rk y.1).isSome=true then (if (lk x.ht y.1).isSome=true then Kn (wF x y.1) _ else _) else _;rw[gI (A.ok.ht _ _ e).1,gI<|by rw[e];rfl];have q:=A.hd y ya;rw[<- q]at k;exact k
def Wh(A:Arr x a){k:Int}(h:wG x k=true):k∈a.map (·.1)++Fd (a.map (·.2)):=by
 unfold wG at h;rcases Bool.or_eq_true_iff.mp h with h|h
 ·exact iI _<|A.pm.mem_iff.mpr<|yi.mp h
 ·refine hV _<|GS.mpr ?_;obtain⟨l,e⟩:=Option.isSome_iff_exists.mp h;have e:=A.ok.th l k e;have m:l∈wT x:=yi.mp (by rw[e];rfl);obtain⟨p,p1,p2⟩:=List.mem_map.mp<|A.pm.mem_iff.mpr m;refine List.mem_map.mpr #[p,p1,?_];rw[<- A.hd p p1,p2];unfold wF;rw[e];rfl
def Yt{l:List Int}:(Fd l).length=l.length:=(xV l).length_eq
def Yu(A:Arr x a){low high:Int}(t1:wG x low=false):((a++[(low,high)]).map (·.1)).Perm (wT<|yS x low high)/\∀e∈a++[(low,high)],wF 93 e.1=e.2:=by
 have n1:lk x.ht low=none:=by simpa using(Bool.or_eq_false_iff.mp t1).1
 have e1:(K7.yS x low high).ht=x.ht++[(low,high)]:=yT n1;refine#[?_,λe he=>?_]
 ·show ((a++[(low,high)]).map (·.1)).Perm ((K7.yS x low high).ht.map (·.1));rw[e1,jE,jE];exact A.pm.append_right _
 ·show (lk (pk x.ht low high) e.1).getD 0=e.2;rw[xo];rcases List.mem_append.mp he with z|z
  ·have:e.1≠low:=λw=>by have:=xH<|A.mem z;rw[w,n1]at this;cases this
   rw[gl this];exact A.hd e z
  ·have z:e=(low,high):=by simpa using z
   rw[z,gI rfl];rfl
def Vn{y:B0}(c:yC y rows){b:List (Int×Int)}(pm:(b.map (·.1)).Perm (wT y))(hd:∀e∈b,wF y e.1=e.2):Acr rows b↔N7 y:=by
 constructor
 ·rintro⟨r,hr⟩;refine#[r,λl hl t ht=>?_];obtain⟨e,he,rfl⟩:=List.mem_map.mp<|pm.mem_iff.mpr hl;have s:=xq.mp ht;rw[hd e he,c.xF]at s;exact hr e he t s.1 s.2.1<|pm.mem_iff.mpr s.2.2
 ·rintro⟨r,hr⟩;refine#[r,λe he t ht n m=>hr e.1 (pm.mem_iff.mp<|List.mem_map.mpr #[e,he,rfl]) t<|xq.mpr #[?_,n,pm.mem_iff.mp m]];rw[hd e he,c.xF];exact ht
def Vo{c:Prop}[Decidable c]{g:Bg}{n k:Int}{P:Int->Bg×WL.Un×Unit->Prop}{E:Bg×WL.Un×Unit->Prop}{P2 E2:Prop}{Ke:ci->Bg×WL.Un×Unit->Prop}(h0:0<n)(h1:n<1073741824)(hA:c->∀i p',P i p')(hE:∀p',E p')(he:E (g,#[],())->E2) :
  if c then yB (g,n,()) (λi p'=>if decide (i=k)=true then P i p' else E p') Ke else if false=true then P2 else E2:=by
 by_cases q:c
 ·rw[gI q];refine wH h0 h1 λz _ _=>?_;split
  ·exact hA q _ _
  ·exact hE _
 ·rw[gl q,gl gV];exact he<|hE _
end
section
variable{q:Cq}{XL:ci}
noncomputable abbrev Cb:ic:=top 51
def wX:uZ ["_law_script","_law_bag_here","_law_rows_here","_law_field","_law_arrows","_law_k","_law_bound","_law_lone","_law_highs","_law_gone","_law_high","_law_lows","_law_low","_law_there","_law_due"] ["_law_script"] (uQ Cb):=by walk_at "sc"
def Vp:(["_law_x","_law_bound"]:List Str).Nodup:=by decide +kernel
def Vq:(["_law_x","_law_lone","_law_rows_here"]:List Str).Nodup:=by decide +kernel
set_option tactic.hygienic true in
def Yv{f:ci}{fd:iE}(F:Dg q "law" Cb f fd)(ct:A1 q.K C){R6:ci}{MY:iE}(Yw:Mk q.K C R6)(Yx:vB q.P q.w q.K q.mg q.base (vJ q.P q.w) 9 R6 MY ["self"] (Dz C))(Yy:Binds q.K MY ["self"] [])(Vs:q.mg "Field"=↑(.ref C))(a0z:xi q "_law_bag" ["_law_script"] (Qr q.K) 10)(Yz:Ym q 10)(YA:Yn q 10)(E7:xi q "_law_pull" ["_law_bag_here","_law_many"] yB 10)(R7:EX q 10)(Vt:Vg q 10)(YB:Lq q 10)(JJ:JH q 10)(R8:RS q 10)(E8:E6 q 10)(YC:Yq q 10)(Vu:UN q 10)(B:Bn q.mg):Gq q 11 f fd ["_law_script"] (V9 q.K):=by
 refine' vc (wy (D':=Unit) (ms:=[]) (j:=14) F wX rfl rfl λPg A outer s H E hr =>
   (vg (vk 1 wX.nd (vo a0z (uW (ss 0) uU)))
   (vg (vk 2 wX.nd (vo Yz (vN 1 (uW uV uU))) (hx:=pN rfl))
   (vg (vk 3 wX.nd (vo YA (TQ (Qz Yw Yx hr rfl Vs Yy AY) (v9 2 uU))))
   (vg (vk 4 wX.nd (vn (α:=(Int×Int)) vm))
   (vg (wE (is:=[]) (mb:=[]) (D1:=(Sv q.K)×Bg×(OL 73)×(Bd C true)×(OL (Int×Int))×Int×Un×Un×Un×Un×Un×Un×Un×Un×Un×Unit) (D2:=(Sv q.K)×Bg×(OL 73)×(Bd C true)×(OL (Int×Int))×Int×(OL Int)×(List Int)×(OL Int)×Un×Un×Un×Un×Un×Un×Unit) (vC q0q) zc rfl (wS rfl B.range (ve (vo E7 (vN 1 (uW uV uU))))) (vq 5 (vd (i:=5) wX.nd rfl (kg rfl)) q0q)
   (vg (vk 6 wX.nd (Af (vM (vD (vo R7 (v9 4 uU)))) (vM (vD (vo Vt (v9 4 uU))))) (hx:=pN rfl))
   (vg (vk 7 wX.nd (vj (vD (wB (Ts:=["_law_x"]) (Fr:=["_law_bound"]) (idx:=[6]) (k:=1) (mb:=[1]) (is:=[]) (cl:=[("_law_bound",⇑s+1+1)]) rfl (wh (vD (vo YB (v9 2 uU)))) Wb rfl (wv rfl) (λs₀ H₀ C ex pn=>(vq 0 (vd (i:=0) Vp rfl (kg rfl)) q0q)) (λs₀ H₀ C ex pn=>(tws_one (tw_cmI Ee (ss 0) (wm 1) (by with_unfolding_all rfl)))) (λs₀ H₀ C ex pn=>(ss 0))))) (hx:=pN rfl))
   (vg (BM (Ts:=["_law_x"]) (Fr:=["_law_lone","_law_rows_here"]) (idx:=[7,2]) (k:=1) (mb:=[1,2]) (is:=[]) (cl:=[("_law_rows_here",⇑s+1),("_law_lone",⇑s+1+1+1)]) 8 wX.nd rfl rfl rfl q0q rfl (wh (ss 7)) YN rfl (wv rfl) (λs₀ H₀ C ex pn=>(vq 0 (vd (i:=0) Vq rfl (kg rfl)) q0q)) (λs₀ H₀ C ex pn=>(tws_one (tw_cmL (Cv hr.units) (vM (vD (vo JJ (uW (Ad (Ae (xf (wm 2) (ss 0)))) 88) (hr:=hr) (hx:=V4)))) (vM (vD (vn (α:=Int) vm))) (vH _)))) (λs₀ H₀ C ex pn=>(ss 0)))
   (uS (vF (tw_w (GO (tw_cmL (Cv hr.units) (wm 4) (vM (vD (vn (α:=(Int×Int)) vm))) (vH _)) (Dt (tw_cm Ai (ve (vo E7 (vN 1 (uW uV uU)))) uV (vH _)))))
   (Ml (D':=(Sv q.K)×Bg×(OL 73)×(Bd C true)×(OL (Int×Int))×Int×(OL Int)×(List Int)×(OL Int)×Un×Un×Un×Un×Un×Un×Unit) (vg (vk 9 wX.nd (vj (NX 4 (pv 4) (ve (vo E7 (vN 1 (uW (wW rfl B.len (wm 4)) uU)))) (λh=>VN og se sf O6 (pv 4) h))))
   (uS (vF (tw_cm AZ (ve (wz 3 Vu (uW (Eb (ss 9)) uU))) (Ad (ss 9)) (vH _))
   (uS<|vf<|vj yJ)
   vv))))
   (uS (vF (tw_cmL (Cv hr.units) (wm 8) (vM (vD (vn (α:=Int) vm))) (vH _))
   (Ml (D':=(Sv q.K)×Bg×(OL 73)×(Bd C true)×(OL (Int×Int))×Int×(OL Int)×(List Int)×(OL Int)×Un×Un×Un×Un×Un×Un×Unit) (vg (vk 10 wX.nd (vj (xf (wm 8) (ve (vo E7 (vN 1 (uW (wW rfl B.len (wm 8)) uU)))))))
   (vg (vk 11 wX.nd (vo JJ (uW (Ad (Ae (xf (wm 2) (ss 10)))) (uW (ss 7) uU))))
   (vg (vk 12 wX.nd (vj (xf (wm 11) (ve (vo E7 (vN 1 (uW (wW rfl B.len (wm 11)) uU)))))))
   (vg (vk 13 wX.nd (KW rfl B.sorted (vM (vD (Af (wm 4) (vM (vD (vn (uX (wJ (ss 12) (ss 10)) vm)))))))))
   (vg (vk 14 wX.nd (vj (XQ (tw_val (ve (vo R8 (v9 2 (v9 13 uU))))) Cy Cy)))
   (vg (vF (tw_cm AZ (ve (vo E8 (vN 3 (uW (ss 12) (uW (ss 10) uU))))) (ss 14) (vH _))
   (uS<|vf<|vj yJ)
   vv)
   (uS (vF (tw_cm Ai (ss 14) Cy (vH _))
   (uS<|Uh 4 13 wX.nd<|pv 13)
   (Ml (D':=(Sv q.K)×Bg×(OL 73)×(Bd C true)×(OL (Int×Int))×Int×(OL Int)×(List Int)×(OL Int)×Un×Int×(OL Int)×Int×Un×Str×Unit) vv))))))))))
   vv))))))) q0q q0q)
   (uS (vf (vo YC (vN 3 (v9 2 (v9 4 uU)))))))))))) λp Kn Ke h=>?_
 walk_at "wl"
 have h:Kn true (#[],()):=h;refine Ys #[#[q0q,q0q],λrows v ln=>#[rfl,v,λx0 c0 n1 n2=>wH q0q q0q λz z0 z1=>?_]];have sl:gL=16777216:=i8;refine#[q0d,?_];refine vP (λ(_:List Int) (b:Sv q.K×Bg×OL RW×B0×OL (Int×Int)×WL.Un×WL.Un×WL.Un×WL.Un×WL.Un×WL.Un×WL.Un×WL.Un×WL.Un×WL.Un×Unit)=>b.2.2.1.l=rows/\yC b.2.2.2.1 rows/\Arr b.2.2.2.1 b.2.2.2.2.1.l/\(b.2.2.2.2.1.l.map (·.1)).Pairwise (·<=·)) _ #[rfl,c0,UZ (c0.okb v) n1 n2,.nil] ?_ ?_
 ·rintro k r ⟨b1,b2,⟨b3⟩,x,⟨a⟩,b6,b7,b8,b9,b10,b11,b12,b13,b14,b15,b16⟩ _ ⟨e3,c,A,so⟩ K hK;have e3:b3=rows:=e3;subst e3;dsimp only at c A so ⊢;have al:=A.Yg c ln;have hl:=Ca b3;refine#[by show a.length<64;omega,by show a.length<64;omega,?_];refine#[by rw[Yt,gM,gM];show a.length+a.length<=_;omega,by show b3.length<1000;omega,by show (EK b3).length<=gL;omega,?_];refine vU (q:=λk=>!decide (k∈a.map (·.1)++Fd (a.map (·.2)))) (λk hk K hK=>hK) ?_;have ll:(Wg b3 a).length<=35:=ij (hX _ _) q0d;refine#[by show (Wg b3 a).length<=gL;omega,?_];refine vU (xs:=Wg b3 a) (q:=λk=>!decide ((eb b3 k).filter (λt=>decide<|t∈Wg b3 a)=[])) (λk hk K hK=>?_) ?_
  ·obtain⟨y,hy⟩:=Option.isSome_iff_exists.mp<|yP.mp (List.mem_filter.mp hk).1;refine#[_,(vp hy).2.2.2,y,rfl,by show y.2.length<=1000;have:=EQ v hy;omega,?_];rw[yD hy]at hK;exact hK
  refine Vo q0q q0q (λe5 i p'=>?_) (λp'=>?_) id
  ·have p5:0<a.length:=RZ e5;refine wH (by show 0<(a.length:Int);omega) (by show (a.length:Int)<_;omega) λi i0 i1=>?_;refine Ct λj0z Yr=>?_;obtain⟨y,a1,a2,a3⟩:=yj i0 i1;refine Yr ?_;exact#[i0,y,a2,by show a.length<1000;omega,Op A a2<|Vm q0o<|hK _ #[rfl,c.same rfl rfl rfl,A.pop a2,qF ((List.eraseIdx_sublist _ _).map _) so]]
  ·split
   ·rename_i q
    have p7:=RZ q;have l7:=ij (hX (λk=>!decide ((eb b3 k).filter (λt=>decide<|t∈Wg b3 a)=[]))<|Wg b3 a) ll;refine wH q0d q0d λi i0 i1=>?_;refine Ct λj0z Yr=>?_;obtain⟨hg,a1,a2,a3⟩:=yj i0 i1;obtain⟨g1,g2⟩:=List.mem_filter.mp a3;obtain⟨g3,g4⟩:=List.mem_filter.mp g1;obtain⟨y,hy⟩:=Option.isSome_iff_exists.mp<|yP.mp g3;have yl:=EQ v hy;refine Yr ?_;rw[yD hy]at g2;have p8:=RZ g2;have l8:=hX (λt=>decide<|t∈Wg b3 a) y.2;refine⟨hg,a1,_,(vp hy).2.2.2,y,rfl,by show y.2.length<=1000;omega,wH (Int.natCast_pos.mpr p8) (Int.lt_of_le_of_lt (Int.ofNat_le.mpr<|ij l8 yl) q0q) λi' i0' i1'=>?_⟩;refine Ct λj0z Yr=>?_;obtain⟨lo,l1,l2,l3⟩:=yj i0' i1';obtain⟨m1,m2⟩:=List.mem_filter.mp l3;have m3:=List.mem_filter.mp<|jP m2;refine Yr ?_
    have t1:wG x lo=false:=by
     cases q:wG x lo with
     |false=>rfl
     |true=>have:=m3.2;simp[Wh A q]at this
    have t2:wG x hg=false:=by
     cases q:wG x hg with
     |false=>rfl
     |true=>simp[Wh A q]at g4
    have s1:(lk x.rk lo).isSome=true:=by rw[c.rk,iG];exact yP.mp m3.1
    have s2:(lk x.rk hg).isSome=true:=by rw[c.rk,hy];rfl
    have hb:lo∈K7.xF x hg:=by rw[c.xF,yD hy];exact m1
    have lt:=((v.ok hg y.1 y.2 hy).2.2.2.1 lo m1).1;have P:=Yu A (high:=hg) t1;refine#[lo,l1,by show a.length+1<=gL;omega,by show (a++[(lo,hg)]).length<64;rw[gW];simp only[hW];omega,λps hp so'=>?_];have ai:Acr b3 ps↔N7 (K7.yS x lo hg):=Vn (y:=K7.yS x lo hg) (c.same rfl rfl rfl) ((hp.map _).trans P.1) λe he=>P.2 e<|hp.mem_iff.mp he;refine⟨⟨λe he=>?_,#[_,λe he=>P.2 e<|hp.mem_iff.mp he],by show ps.length<64;rw[hp.length_eq,gW];simp only[hW];omega⟩,λbq hq=>?_⟩
    ·rcases List.mem_append.mp (hp.mem_iff.mp he) with z|z
     ·have w:=(A.ok.ht e.1 _<|yU<|A.mem z).2.1;rw[A.hd e z,c.rk,iG]at w;obtain⟨y',hy'⟩:=Option.isSome_iff_exists.mp w;exact#[y',hy',EQ v hy']
     ·rw[List.mem_singleton.mp z];exact#[y,hy,yl]
    rw[ai]at hq
    cases bq with
    |true =>
     have na:=hq.mp rfl;exact#[#[A.ok,s1,s2,hb,t1,t2],λ_=>Vm q0q<|Vm q0q<|hK _ ⟨rfl,c,A,so⟩,λac=>(na ac).elim]
    |false =>
     have ac:N7 (K7.yS x lo hg):=m9 λn=>Bool.noConfusion<|hq.mpr n;exact⟨⟨A.ok,s1,s2,hb,t1,t2⟩,λn=>(n ac).elim,λ_=>Vm q0q<|a2K q0q<|hK _ #[rfl,c.same rfl rfl rfl,(A.add c ln s1 s2 hb t1 t2 (ts lt) ac).perm hp.symm,Ye so']⟩
   ·exact hK _ #[rfl,c,A,so]
 ·rintro⟨b1,b2,⟨b3⟩,x,⟨a⟩,b6,b7,b8,b9,b10,b11,b12,b13,b14,b15,b16⟩ ⟨e3,c,A,so⟩;have e3:b3=rows:=e3;subst e3;exact#[#[c,v,ln,A,so],h]
end
section
variable{P:iu}{w:iO}{K:gH}{mg:Str->Option cr}{base:iJ}
def R9:uZ ["_law_bag_here","_law_many","_law_seed","_law_mixed","_law_drawn"] ["_law_bag_here","_law_many"] (uQ Le):=#[rfl,rfl,rfl,q0s,rfl,q0s,q0s]
def Vv(F:yX K "_law_pull" "_law_pull" Le f I)(c:mg "len"=none):vB P w K mg base Pf 1 f I ["_law_bag_here","_law_many"] WL.Qa:=by
 refine F.ok R9 (λJ H Q E h=>?_)<|λL A p s H J Q E N h=>?_
 ·obtain⟨g,q,m,i,z,s,e,rfl,_⟩:=h;rfl
 ·obtain⟨g,q,m,i,z,j,e,rfl,B,d,v,k⟩:=h;have l:=R9.nd
  refine#[_,vZ (LX (xP VI 71 vr (vH _))
    (vZ (SG (pv 0) vr Pw vr WA set_list)
    (vZ (zp (i:=2) l rfl (kg rfl) 71)
    (vZ (LX (xP VI 71 (wu xj (by rfl) c mw (uY 71 vi)) (vH _))
     (xO (zp (i:=2) l rfl (kg rfl) (ym wI 71 (wN JW 71 vr) (λ_ _=>rfl)))) zo)
    (vZ (LX (VC (xP VJ 71 (wu xj (by rfl) c mw (uY 71 vi)) (vH _)) (OC (xP VH (pv 2) (wN WG vr vr) (vH _)))).pt
     (vZ (zp (i:=3) l rfl (kg rfl) (wN Cf (wN A9 (wN A9 (wN Ce (pv 2) vr) (wN Ce 71 vr)) vr) vr))
     (vZ (zp (i:=3) l rfl (kg rfl) (wN Cf (wN Ce (pv 3) (pv 3)) vr))
     (xO (Cd (wN Cf (wN LY (wN Cf (wN Ce (wN A9 (pv 3) 71) vr) vr) vr) (pv 1)))))) zo)
    (xO (Gj (pv 2) (OE (pv 0) vr set_list))))))) zo)
   (vZ (zp (i:=4) l rfl (kg rfl) (wN Cf 71 (pv 1)))
   (vZ (Gj (wN LY 71 (pv 1)) (OE (pv 0) vr set_list))
   (xO (Cd (pv 4))))),?_]
  refine#[_,rfl,g,_,_,_,rfl,rfl,v6.of B.ob,P9 _ _ _ _,_,_,rfl,rfl,_,rfl,?_];refine S8 (λ_=>?_)<|λ_=>?_
  ·-- r[1] += 1;x=r[3]
   refine#[_,rfl,g,_,_,_,rfl,rfl,B.ob,q0q,rfl,_,_,rfl,rfl,g,_,_,1,rfl,rfl,B.ob,rfl,?_];have a:CW (upd H g<|.lst<|Fq q (i+1) z j) g q m (i+1) z j:=B.put (by have:=B.i0;lia);refine⟨_,rfl,g,_,_,_,rfl,rfl,v6.of a.ob,a2d _ _ _ _,?_⟩;refine⟨_,rfl,g,_,_,_,rfl,rfl,v6.of a.ob,P8 _ _ _ _,_,rfl,g,_,_,_,rfl,rfl,v6.of a.ob,Xy _ _ _ _,q,_,rfl,.inl<|v6.of a.sc,_,_,rfl,rfl,_,rfl,?_⟩;have b:=a;refine' cutG (α:=Int) (G:=_) (λy=>S8 (λC=>?_)<|λC=>?_) ?_
   rotate_left
   ·have t:i+1<=((m.map V.int).length:Int):=jP C;rw[gM]at t;obtain⟨n,M⟩:=TN (ns:=m) (i:=i+1-1) (by have:=B.i0;lia) q0a;refine#[_,rfl,g,_,_,_,rfl,rfl,v6.of a.ob,Xy _ _ _ _,_,rfl,g,_,_,_,rfl,rfl,v6.of a.ob,P8 _ _ _ _,_,_,rfl,rfl,q,_,_,_,rfl,rfl,v6.of a.sc,M,?_];exact y n
   ·exact y j
   ·intro n;refine#[_,rfl,g,_,_,_,rfl,rfl,v6.of a.ob,P8 _ _ _ _,_,rfl,g,_,_,_,rfl,rfl,v6.of a.ob,Xy _ _ _ _,q,_,rfl,.inl<|v6.of a.sc,_,_,rfl,rfl,_,rfl,?_];refine' cutP (G:=_) (λD=>S8 (λ_=>a1N D)<|λ_=>?_) ?_
    ·refine#[_,rfl,_,_,rfl,rfl,#[q0q,q0q,q0q],_,_,rfl,rfl,_,rfl,?_];refine S8 (λ_=>D)<|λ_=>?_;refine#[_,rfl,_,rfl,g,_,_,2,rfl,rfl,a.ob,rfl,?_];have b:=a.put (z':=n) a.i0;have u:=(Kp.at (g:=g) (H:=H) (o:=.lst<|Fq q (i+1) z j)).trans<|Kp.at (o:=.lst<|Fq q (i+1) n j);refine#[_,rfl,g,_,_,_,rfl,rfl,v6.of b.ob,P9 _ _ _ _,_,rfl,_,_,rfl,rfl,d,?_];refine#[_,rfl,g,_,_,_,rfl,rfl,v6.of b.ob,P9 _ _ _ _,_,rfl,_,_,rfl,rfl,#[d,v],_,rfl,g,_,_,2,rfl,rfl,b.ob,rfl,?_];exact#[_,rfl,k _ _ _ _ (u.trans Kp.at) (b.put b.i0) (rs _ q0a)<|qk _ d]
    ·refine#[_,rfl,_,_,rfl,rfl,.inr #[q0q,q0q],_,rfl,g,_,_,_,rfl,rfl,v6.of a.ob,P8 _ _ _ _,_,_,rfl,rfl,.inr #[q0q,q0q],_,_,rfl,rfl,_,_,rfl,rfl,_,_,rfl,rfl,(by show (0:Int)<2147483647;decide),?_];refine#[_,rfl,_,rfl,_,_,rfl,rfl,.inl<|ZM _,_,_,rfl,rfl,(by show (0:Int)<2147483629;decide),?_];refine#[_,rfl,_,rfl,g,_,_,_,rfl,rfl,v6.of a.ob,P8 _ _ _ _,_,_,rfl,rfl,_,_,rfl,rfl,.inr #[q0q,q0q],_,_,rfl,rfl,(by show (0:Int)<998244353;decide),_,_,rfl,rfl,#[q0q,q0q],_,rfl,_,_,rfl,rfl,d,?_];exact k _ _ _ _ Kp.at a (rs _ q0a)<|qk _ d
  ·have b:=B;have u:=Kp.refl g H;refine#[_,rfl,g,_,_,_,rfl,rfl,v6.of b.ob,P9 _ _ _ _,_,rfl,_,_,rfl,rfl,d,?_];refine#[_,rfl,g,_,_,_,rfl,rfl,v6.of b.ob,P9 _ _ _ _,_,rfl,_,_,rfl,rfl,#[d,v],_,rfl,g,_,_,2,rfl,rfl,b.ob,rfl,?_];exact#[_,rfl,k _ _ _ _ (u.trans Kp.at) (b.put b.i0) (rs _ q0a)<|qk _ d]
def MZ:uZ ["_law_script","_law_salt","_law_one"] ["_law_script"] (uQ RY):=#[rfl,rfl,rfl,q0s,rfl,q0s,q0s]
def a2L(a:List Int)(b c:Option Int):∃d:List Int,DR (a.map V.int) b c=d.map V.int:=by unfold DR;exact#[_,by rw[<- List.map_drop,<- List.map_take]]
def YD(F:yX K "_law_bag" "_law_bag" RY f U)(m:mg "len"=none)(g:mg "list"=none):vB P w K mg base Pf 1 f U ["_law_script"] (WL.V8 K):=by
 refine F.ok MZ (λX H Q E h=>?_)<|λY A B s H X Q E hr h=>?_
 ·obtain⟨a,N,rfl,_⟩:=h;rfl
 ·obtain⟨a,N,rfl,C,k⟩:=h
  refine#[_,vZ (zp (i:=1) MZ.nd rfl (kg rfl) (wu xj (by rfl) m mw (uY (zX Dk (pv 0) Di (Dj vr)) vi)))
   (vZ (OI PassesOwn.never rfl (Gm (zX Dk (pv 0) Di (Dj vr))) (vd (i:=2) MZ.nd)
    (xO (zp (i:=1) MZ.nd rfl (kg rfl) (wN Cf (wN A9 (wN Ce (pv 1) vr) (pv 2)) vr))))
   (xO (Cd (OR (uY (xv yo rfl g jT (uY (zX Dk (pv 0) Di (Dj vr)) vi)) (uY vr (uY vr (uY (pv 1) vi)))))))),?_]
  obtain⟨b,j⟩:=a2L N none<|some 63;refine⟨_,rfl,63,rfl,a,_,rfl,C,λp Z=>?_⟩;rw[j];have O:C9 H (upd H p<|.lst<|b.map V.int):=Aj Z;refine⟨p,_,rfl,.inl<|v6.of uT,?_⟩;refine⟨_,rfl,63,rfl,a,_,rfl,O.seq C,λn D=>?_⟩;rw[j];have s2:C9 (upd H p<|.lst<|b.map V.int) (upd (upd H p<|.lst<|b.map V.int) n<|.lst<|b.map V.int):=Aj D;have c:=O.trans s2;generalize G:upd (upd H p<|.lst<|b.map V.int) n (.lst<|b.map V.int)=H2 at c;have q:H2 n=↑(.lst<|b.map V.int):=by rw[<- G];exact uT
  refine#[n,rfl,#[_,v6.of q],OJ (K:=K) (a:=n) (xs:=b.map V.int) (λi u x=>x=H2/\∃(r:Int)(v:Option V),u=[some<|.ref a,some<|.int r,v]) ⟨rfl,_,none,rfl⟩ (λi u x _ z9=>e0a2 z9 λe _=>by rw[e];exact v6.of q) ?_ ?_]
  ·rintro i y u x d ⟨rfl,r,v,rfl⟩
   obtain⟨z,rfl⟩:∃z,y=V.int z:=by
    rw[jy]at d
    cases e:b[i]? with
    |none=>rw[e]at d;cases d
    |some z=>rw[e]at d;exact#[z,(iT d).symm]
   exact#[_,rfl,_,_,rfl,rfl,.inr #[q0q,q0q],_,rfl,_,_,rfl,rfl,_,_,rfl,rfl,(by show (0:Int)<1000003;decide),rfl,_,_,rfl]
  ·rintro u x ⟨rfl,r,v,rfl⟩;refine#[_,rfl,63,rfl,a,_,rfl,c.seq C,λp3 I=>?_];rw[j];refine#[p3,_,rfl,.inl<|v6.of uT,λJ t=>#[_,rfl,(by decide:4<=gL),λR l=>?_]];have L:=Aj (o:=.lst<|b.map V.int) I;have S:=Aj (o:=.lst<|b.map V.int) t;have T:=Aj (o:=.lst<|Fq J 0 0 r) l;have M:J≠R:=u4 uT l;refine k _ R J b r (((c.trans L).trans S).trans T) #[uT,T _ _ uT,om _,M] ?_ ?_
   ·exact(((c.trans L).trans S).free l)
   ·exact((c.trans L).free t)
end
section
variable{q:Cq}{XL:ci}
noncomputable abbrev LL:ic:=Bk (top 23) 1
def Vw:xt CZ CZ (uQ LL):=by walk_at "ss"
noncomputable abbrev E9:ic:=Bk (top 23) 4
def Oq:xt yM yM (uQ E9):=by walk_at "ss"
noncomputable abbrev Ia:ic:=Bk (top 23) 8
def Sc:xt Ax Ax (uQ Ia):=by walk_at "ss"
noncomputable abbrev zL:ic:=Bk (top 23) 9
def FC:xt wA wA (uQ zL):=by walk_at "ss"
noncomputable abbrev CK:ic:=Bk (top 23) 7
def LM:xt yc yc (uQ CK):=by walk_at "ss"
abbrev CL:ic:=Bk (top 23) 5
def LN:xt yb yb (uQ CL):=by walk_at "ss"
abbrev CM:ic:=Bk (top 23) 3
def LO:xt x9 x9 (uQ CM):=by walk_at "ss"
abbrev Ib:ic:=Bk (top 23) 6
def Sd:xt yN yN (uQ Ib):=by walk_at "ss"
noncomputable abbrev Ic:ic:=Bk (top 23) 2
def JK:xt Ay Ay (uQ Ic):=by walk_at "ss"
def Vx{f:ci}{fd:iE}{k:Nat}(F:BR q.P q.K C "put" "Field.put" LL f fd)(G:Fs q.P q.w q.K q.mg q.base C "put" CZ (yn q.T<|Jw) k):Gq q (k+1) f fd CZ (Jw) :=
 xY (m:="put") (ta:=(AT (vw 1)<|AT (vw 2) Bb)) F Vw rfl rfl (λ_=>#[_,rfl]) G (λzk cc A outer s H E=>(uY (pv 1)<|uY (pv 2) vi)) (λa r H Q hl h=>by obtain⟨u1,u2,rfl⟩:=lx2 r<|mY hl;exact⟨u1,rfl,u2,rfl,h⟩) (λf2 env h=>cw_cons h)
def Ot{f:ci}{fd:iE}{k:Nat}(F:BR q.P q.K C "cells" "Field.cells" E9 f fd)(G:Fs q.P q.w q.K q.mg q.base C "cells" yM (yn q.T<|DC) k):Gq q (k+1) f fd yM (DC) :=
 xY (m:="cells") (ta:=Bb) F Oq rfl rfl (λ_=>#[_,rfl]) G (λzk cc A outer s H E=>vi) (λa r H Q hl h=>by obtain rfl:=lx0 r<|mY hl;exact h) (λf2 env h=>cw_nil h)
def Sg{f:ci}{fd:iE}{k:Nat}(F:BR q.P q.K C "over" "Field.over" Ia f fd)(G:Fs q.P q.w q.K q.mg q.base C "over" Ax (yn q.T<|Hk) k):Gq q (k+1) f fd Ax (Hk) :=
 xY (m:="over") (ta:=(AT (vw 1) Bb)) F Sc rfl rfl (λ_=>#[_,rfl]) G (λzk cc A outer s H E=>(uY (pv 1) vi)) (λa r H Q hl h=>by obtain⟨u1,rfl⟩:=lx1 r<|mY hl;exact⟨u1,rfl,h⟩) (λf2 env h=>cw_cons h)
def FD{f:ci}{fd:iE}{k:Nat}(F:BR q.P q.K C "border_of" "Field.border_of" zL f fd)(G:Fs q.P q.w q.K q.mg q.base C "border_of" wA (yn q.T<|x8) k):Gq q (k+1) f fd wA (x8) :=
 xY (m:="border_of") (ta:=(AT (vw 1) Bb)) F FC rfl rfl (λ_=>#[_,rfl]) G (λzk cc A outer s H E=>(uY (pv 1) vi)) (λa r H Q hl h=>by obtain⟨u1,rfl⟩:=lx1 r<|mY hl;exact⟨u1,rfl,h⟩) (λf2 env h=>cw_cons h)
def LP{f:ci}{fd:iE}{k:Nat}(F:BR q.P q.K C "border" "Field.border" CK f fd)(G:Fs q.P q.w q.K q.mg q.base C "border" yc (yn q.T<|As) k):Gq q (k+1) f fd yc (As) :=
 xY (m:="border") (ta:=(AT (vw 1) Bb)) F LM rfl rfl (λ_=>#[_,rfl]) G (λzk cc A outer s H E=>(uY (pv 1) vi)) (λa r H Q hl h=>by obtain⟨u1,rfl⟩:=lx1 r<|mY hl;exact⟨u1,rfl,h⟩) (λf2 env h=>cw_cons h)
def LQ{k:Nat}(F:BR q.P q.K C "coming" "Field.coming" CL f c)(G:Fs q.P q.w q.K q.mg q.base C "coming" yb (yn q.T<|B2) k):Gq q (k+1) f c yb (B2) :=
 xY (m:="coming") (ta:=Bb) F LN rfl rfl (λ_=>#[_,rfl]) G (λd i A b s H E=>vi) (λa r H Q e h=>by
  match r,e with
  | [],_=>exact h) (λj g h=>cw_nil h)
def LR{k:Nat}(F:BR q.P q.K C "stands" "Field.stands" CM f c)(G:Fs q.P q.w q.K q.mg q.base C "stands" x9 (yn q.T<|BZ) k):Gq q (k+1) f c x9 (BZ) :=
 xY (m:="stands") (ta:=(AT (vw 1) Bb)) F LO rfl rfl (λ_=>#[_,rfl]) G (λd j A b s H E=>(uY (pv 1) vi)) (λa r H Q e h=>by
  match r,e with
  | [g],_=>exact#[g,rfl,h]) (λl i h=>cw_cons h)
def Sh{k:Nat}(F:BR q.P q.K C "rank" "Field.rank" Ib f c)(G:Fs q.P q.w q.K q.mg q.base C "rank" yN (yn q.T<|B3) k):Gq q (k+1) f c yN (B3) :=
 xY (m:="rank") (ta:=(AT (vw 1) Bb)) F Sd rfl rfl (λ_=>#[_,rfl]) G (λd j A b s H E=>(uY (pv 1) vi)) (λa r H Q e h=>by
  match r,e with
  | [g],_=>exact#[g,rfl,h]) (λl i h=>cw_cons h)
def Si{f:ci}{fd:iE}(F:BR q.P q.K C "take" "Field.take" Ic f fd)(ct:A1 q.K C)(xn:wD q 7)(Ou:Gg q 7)(G:Fs q.P q.w q.K q.mg q.base C "take" Ay (yn q.T<|Hl) 7):Gq q 8 f fd Ay (HB):=by
 refine' vc (Z6 (A:=B0×Int×Unit) (PO:=B0×WL.Un×Unit) (ms:=[0]) (vC q0q) F JK rfl λzk cc A outer s H E D hr =>
  Wa (wn<|ve<|wz 0 xn 88 (hx:=Qt))
   (Wa (vF (tw_val (ve (wz 0 Ou 88 (hx:=Qt)))) PQ vv)
    (Uf (m:="take") (ta:=AT (vw 1) Bb) D JK rfl (λ_=>#[_,rfl]) G hr (uY (pv 1) vi) (λa r H Q hl h=>by obtain⟨u,rfl⟩:=lx1 r hl;exact#[u,rfl,h]) (λf2 env h=>cw_cons h)))) λp Kn Ke h=>?_
 walk_at "wl"
 obtain⟨t,ok,h⟩:=h;show if (61).isSome=true then (if wG p.1 p.2.1=true then False else Hl (p.1,p.2) (λx p=>Kn () p) Ke) else Ke XC 65;by_cases hs:(61).isSome=true
 ·rw[gI hs,gl<|by simp[t]];exact#[ok,h]
 ·rw[gl hs]at h ⊢;exact h
noncomputable abbrev Ie:ic:=Bk (top 23) 0
def Sj:xt ["self"] ["self"] (uQ Ie):=by walk_at "ss"
def Sk{k:Nat}(F:BR q.P q.K C "__init__" "Field.__init__" Ie f b)(c:A1 q.K C)(d:Su q.K C)(G:Fs q.P q.w q.K q.mg q.base C "__init__" ["self"] (G6 C) k):vB q.P q.w q.K q.mg q.base (vJ q.P q.w) (k+1) f b ["self"] (Dz C) :=
 Qy (p3:=#[0,0,0,0]) (p4:=#[0,0,0,0]) F Sj c d (λ_=>#[_,rfl]) rfl G (λ_=>rfl) λe g A a s H E=>vZ (Cg (pv 0) Ab rfl)<|xO<|Cg (pv 0) Ab rfl
end
abbrev M0:List cr:=[.type "ValueError",.type "Exception",.type "BaseException",.type "object"]
abbrev zM:ic:=Bk (top 13) 0
abbrev LS:ic:=Bk (top 21) 0
def Vy:uZ ["self"] ["self"] (uQ LS):=#[rfl,rfl,rfl,q0s,rfl,q0s,q0s]
def Sl:xt ["self","ring"] ["self","ring"] (uQ zM):=#[rfl,rfl,rfl,q0s,rfl,q0s,q0s,q0s,rfl,rfl]
def Vz{K:gH}(F:yX K "__init__" "Body.__init__" LS f fd)(ct:A1 K C):vB P w K mg base (vJ P w) 1 f fd ["self"] (G6 C) :=
 Ua F Vy ct λb A a s H E=>vZ (Cg (pv 0) Ab rfl)<|vZ (Cg (pv 0) Ab rfl)<|xO<|Cg (pv 0) vr rfl
section
variable{P:iu}{K:gH} 
structure Mx(P:iu)(K:gH)(C:ci)(m q:Str)(st:ic):Prop where
 ex:∃f fd,Meth K C m f/\∃(oc:cr)(od:Option ci)(kV doc pm:cr)(an:Option ci)(zk cc:ci)(ct:cr) (No:Array (Option cr)) (ocD:cr) (odD:Option ci) (vsD:Array cr) (slD:Array (Option cr)) (file:Str) (tf:Tok) (occ:cr) (odc:Option ci) (slc:Array (Option cr)),
  fd=kC m q (vV st) (vA st) (uQ st) [72] .none kV doc pm an (.ref zk) ct/\K.lookup f=some #[oc,od,.func fd,No]/\jm K (.ref zk) q=true/\jb K (.ref f)=true/\K.lookup zk=some #[ocD,odD,.fields vsD,slD]/\vsD[2]?=↑(.str file tf)/\((P.main.file:Str)==file)=true/\K.lookup cc=some #[occ,odc,.cell<|some<|.ref C,slc]
def a0A{st:ic}{g:cr}(a:ii K (.ref C) m=↑(some<|.ref f))(i:oq K (.ref f)=true)
 (l:K.lookup f=some #[z,od,.func<|kC m q (vV st) (vA st) (uQ st) [("__class__",h)] .none g j pm A (.ref b) ct,n])(c:jm K (.ref b) q=true)(k:jb K (.ref f)=true)(o:K.lookup b=some #[p,r,.fields d,s])(t:d[2]?=↑(.str file B))(u:((P.main.file:Str)==file)=true)(v:K.lookup h=some #[w,x,.cell<|some<|.ref C,y]):Mx P K C m q st :=
  #[_,_,#[a,i,k],_,_,_,_,_,_,_,_,_,_,_,_,_,_,_,_,_,_,_,rfl,l,c,k,o,t,u,v]
structure Sx(K:gH)(C:ci)(m q:Str)(st:ic):Prop where
 ex:∃f fd,Sm K C m f/\yX K m q st f fd
def a0B{st:ic}{d:cr}(a:jO K C C m=↑(some<|.ref f))(ty:oQ K (.ref f)=↑(.type "function"))(fn:ml K f=true)
 (l:K.lookup f=some #[h,od,.func<|jv m q (vV st) (vA st) (uQ st) .none d e pm i b ct,g])(c:jm K b q=true)(k:jb K (.ref f)=true):Sx K C m q st:=#[_,_,#[a,ty,fn],DV l c k]
def Mx.fx{st:ic}(M:Mx P K C m q st)(cl:∃s,mG K C=↑s)(sub:kD K C (.ref C)=↑true)(g:hJ K rj "thirdparty.any"=↑none)(top:(P.main.scope.names.lookup ("super":Str)).isSome=false)(h:((vV st).posonlyargs++(vV st).args).head?=↑p)(hs:p.arg="self")(ps:List Str)
 (b:∀(i d j:cr)(n:Option ci)(e o:ci)(ct:cr)(us:List cr),us.length=ps.length->sO (kC m q (vV st) (vA st) (uQ st) [("__class__",o)] .none i d j n (.ref e) ct) #[us,[]]=pure (ps.zip us)):∃f fd,Meth K C m f/\BR P K C m q st f fd/\Binds K fd ps []:=by
  obtain⟨f,fd,t,H,I,i,d,j,n,e,o,ct,u,v,w,x,y,r,J,z,A,B,rfl,l,c,k,D,E,F,G⟩:=M.ex
  exact#[f,_,t,#[#[_,_,_,_,_,_,_,_,_,_,rfl,l,c,#[#[_,_,_,_,p,l,h,hs],#[_,_,_,_,_,_,D,E,F],#[_,_,_,G],cl,sub,g,top]],k],.all<|b i d j n e o ct]
end
set_option tactic.hygienic true in
def VA{K:gH}(X:K.In h)(e:uG K N=true)(q:hJ K N x=↑(some v)):h.nsMap N x=↑v:=by
 obtain⟨o,k,l,b,f,_,g⟩:=Heap.Ns.of_isNs<|pL X e;unfold hJ at q;split at q
 ·rename_i c d i m n z
  have a:=X _ _ z;rw[b]at a;cases a;cases f;split at q
  ·rename_i p j
   cases q;rw[<- g];unfold nsFind findBy;rw[<- tO,j];rfl
  ·split at q<;>cases q
 ·cases q
def all_mk{l:qz}{K:gH}{fo:Nat}{e5:List cr}{fp:Bool}(X:K.In h)(G:h.Ns g9 mg)(ft:mg "law"=↑(.ref fa))
 (a1:hJ K g9 "is_sum"=↑(some<|.ref f1))
 (l1:K.lookup f1=some #[f3,f4,.func<|jv "is_sum" "is_sum" (vV w4) (vA w4) (uQ w4) .none f5 f6 f7 f8 (.ref c) f9,ga])
 (c1:jm K (.ref c) "is_sum"=true)
 (k1:jb K (.ref f1)=true)
 (lc:K.lookup c=some #[gb,gc,.fields fv,gd])
 (ev:fv[11]?=↑(.ref cD))
 (fw:K.lookup cD=none)
 (aL:hJ K g9 "law"=↑(some<|.ref fL))
 (lL:K.lookup fL=some #[gf,gg,.func<|jv "law" "law" (vV Cb) (vA Cb) (uQ Cb) .none fy fz fA fB fb fC,gh])
 (cL:jm K fb "law"=true)
 (kL:jb K (.ref fL)=true)
 (Q:Dq K "must_be_sum" ED)
 (cE:Dq K "total" Hj)
 (t:Dq K "row_from_first" xL)
 (eA:Dq K "_law_bag" RY)
 (dG:Dq K "_law_pull" Le)
 (dH:Dq K "_law_rank" Lh)
 (dI:Dq K "_law_join" Lj)
 (dJ:Dq K "_law_here" Lm)
 (dL:Dq K "_law_some" Lr)
 (dM:Dq K "_law_edge" Lu)
 (cH:Dq K "_law_whole" HJ)
 (eB:Dq K "_law_row" s_row)
 (dN:Dq K "_law_same" s_same)
 (cJ:Dq K "_law_stock" HM)
 (a7:Dq K "_law_edge_by" CI)
 (dO:Dq K "_law_rows" Ly)
 (dP:Dq K "_law_fill" LA)
 (b3:Dq K "_law_tails" ES)
 (dQ:Dq K "_law_head" LC)
 (dR:Dq K "_law_next" LF)
 (cP:Dq K "_law_heads" HS)
 (b4:Dq K "_law_parted" EY)
 (b5:Dq K "_law_ringed" E4)
 (L:Dq K "_law_tied_or_ring" yE)
 (cQ:Dq K "_law_truth" HV)
 (ae:Dq K "_law_cells_kept" zJ)
 (cR:Dq K "_law_pairs" HY)
 (dS:Dq K "_law_kept" LJ)
 (aC:hJ K g9 "Field"=↑(some<|.ref C))
 (af:Mq K C "must_stand" "Body.must_stand" zF)
 (aF:Mq K C "must_hold" "Body.must_hold" Au)
 (u:Mq K C "must_have_rank" "Body.must_have_rank" xI)
 (a8:Mq K C "is_tied" "Field.is_tied" CD)
 (cU:Mq K C "steps" "Field.steps" Hu)
 (cV:Mq K C "tails" "Field.tails" Hw)
 (b6:Mq K C "arrows" "Field.arrows" EI)
 (cX:Mq K C "untie" "Field.untie" Hy)
 (aG:Mq K C "ring_with" "Field.ring_with" Az)
 (eC:Mq K C "tie" "Field.tie" Rj)
 (eD:Mx l.prog K C "put" "Field.put" LL)
 (eE:Sx K C "put" "Body.put" QV)
 (cY:Mx l.prog K C "cells" "Field.cells" E9)
 (cZ:Sx K C "cells" "Body.cells" Hq)
 (dU:Mx l.prog K C "over" "Field.over" Ia)
 (dV:Sx K C "over" "Body.over" K4)
 (aH:Mx l.prog K C "border_of" "Field.border_of" zL)
 (aI:Sx K C "border_of" "Body.border_of" Aw)
 (b7:Mx l.prog K C "border" "Field.border" CK)
 (b8:Sx K C "border" "Body.border" EH)
 (b9:Mx l.prog K C "coming" "Field.coming" CL)
 (ca:Sx K C "coming" "Body.coming" EG)
 (cb:Mx l.prog K C "stands" "Field.stands" CM)
 (cd:Sx K C "stands" "Body.stands" EF)
 (dW:Mx l.prog K C "rank" "Field.rank" Ib)
 (dX:Sx K C "rank" "Body.rank" Hr)
 (dY:Mx l.prog K C "take" "Field.take" Ic)
 (dZ:Sx K C "take" "Body.take" K5)
 (aO:Mx l.prog K C "__init__" "Field.__init__" Ie)
 (aP:Sx K C "__init__" "Body.__init__" LS)
 (pg:mC K C Str.empty=true)
 (hd:nE K C=true)
 (po:pV K C=true)
 (sa:ii K (.ref C) "__setattr__"=↑(some<|.builtin "object.__setattr__"))
 (mk:qv K C=true)
 (kc:jb K (.ref C)=true)
 (nR:ii K (.ref C) "ranks"=↑none)
 (nB:ii K (.ref C) "borders"=↑none)
 (nU:ii K (.ref C) "upcoming"=↑none)
 (nH:ii K (.ref C) "head_by_tail"=↑none)
 (nT:ii K (.ref C) "tail_by_head"=↑none)
 (cy:mG K C=↑gi)
 (cz:kD K C (.ref C)=↑true)
 (R:hJ K rj "thirdparty.any"=↑none)
 (S:(l.prog.main.scope.names.lookup ("super":Str)).isSome=false)
 (a9:hJ K g9 "NotASum"=↑(some<|.ref XS))
 (ba:jh K XS M0 "ValueError.__new__"=true)
 (cg:hJ K g9 "NoCell"=↑(some<|.ref XC))
 (cj:jh K XC M0 "ValueError.__new__"=true)
 (aJ:hJ K g9 "OtherRank"=↑(some<|.ref XO))
 (aK:jh K XO M0 "ValueError.__new__"=true)
 (bb:hJ K g9 "BadRank"=↑(some<|.ref XB))
 (bc:jh K XB M0 "ValueError.__new__"=true)
 (ag:hJ K g9 "OpenBorder"=↑(some<|.ref XP))
 (ah:jh K XP M0 "ValueError.__new__"=true)
 (d0:hJ K g9 "Full"=↑(some<|.ref XF0))
 (d1:jh K XF0 M0 "ValueError.__new__"=true)
 (be:hJ K g9 "Covered"=↑(some<|.ref XV))
 (bf:jh K XV M0 "ValueError.__new__"=true)
 (bg:hJ K g9 "NotFace"=↑(some<|.ref XF))
 (bh:jh K XF M0 "ValueError.__new__"=true)
 (d2:hJ K g9 "Tied"=↑(some<|.ref XT))
 (d3:jh K XT M0 "ValueError.__new__"=true)
 (bi:hJ K g9 "NotTied"=↑(some<|.ref XN))
 (bj:jh K XN M0 "ValueError.__new__"=true)
 (ai:hJ K g9 "MOST_CELLS"=↑(some<|.int 120 dy))
 (aQ:hJ K g9 "TOP_RANK"=↑(some<|.int 12 ek))
 (fe:hJ K g9 "RingOfArrows"=↑(some<|.ref XR))
 (gj:hJ K g9 "BodyError"=↑(some<|.ref XE))
 (lB:K.lookup XR=↑(jw gk qB XR eN gm (.ref XE::M0) true gn e5 fp fX gp gq gr gs gu gv "ValueError.__new__"))
 (fE:hJ K eN "__init__"=↑(some<|.ref fI))
 (ff:uG K eN=true)
 (fF:PySem.W.tailIn K M0 (.ref XE::M0)=true)
 (lI:K.lookup fI=some #[.type "function",gw,.func<|kC "__init__" "RingOfArrows.__init__" (vV zM) (vA zM) (uQ zM) [72] (.ref TD) fG fH fJ fK (.ref eO) fM,gx])
 (cI:jm K (.ref eO) "RingOfArrows.__init__"=true)
 (lD:K.lookup eO=some #[gy,gz,.fields fN,gA])
 (fD:fN[2]?=↑(.str eF gB))
 (pD:((l.prog.main.file:Str)==eF)=true)
 (fO:K.lookup cc=some #[fY,fZ,.cell<|some<|.ref XR,f0])
 (fP:mG K XR=↑gC)
 (fQ:kD K XR (.ref XR)=↑true)
 (fR:jO K XR XR "__init__"=↑(some<|.builtin "ValueError.__init__"))
 (fS:kD K XR (.type "ValueError")=↑true)
 (sB:ii K (.ref XR) "__setattr__"=↑(some<|.builtin "object.__setattr__"))
 (fT:ii K (.ref XR) "ring"=↑none)
 (lT:K.lookup TD=some #[gD,gE,.seq #v[dT] fo,gF])
 (fU:qS K (.ref XR) (.ref XR)=↑true)
 (fV:hJ K g9 "super"=↑none)
 (zz:Bz K) :
    ∃(c cD:ci)(fd:iE),nS K "is_sum"=↑(c,cD)/\K.lookup cD=none/\(∀(s:gN)(v:cr),sD s fd #[[v],[]] [("_law_script",v)])/\∀base:iJ,K.In base->base.Ns g9 mg->IQ mg base c cD->vB l.prog w K mg base Pf 11 fa fd ["_law_script"] (Mz K cD):=by
  have e:=ft.symm.trans<|i4 X G aL
  cases e
  have ht:nS K "is_sum"=↑(c,cD):=by
    unfold nS
    rw[a1]
    dsimp only
    rw[l1]
    dsimp only[jv]
    rw[lc]
    dsimp only
    rw[ev]
  have i:=DV (st:=w4) l1 c1 k1
  have aw:Fn K mg "is_sum" w4 ["row"] f1 _:=#[i,i4 X G a1,i.binds (ps:=["row"])<|λ_ _ _ _ _ _=>us1 λ_=>rfl]
  have eG:=DV (st:=Cb) lL cL kL
  have b:=Q.fn X G ["row"]<|λ_ _ _ _ _ _=>us1 λ_=>rfl
  have aS:=cE.fn X G ["rows"]<|λ_ _ _ _ _ _=>us1 λ_=>rfl
  have d:=t.fn X G ["earlier","last"]<|λ_ _ _ _ _ _=>us2 λ_ _=>rfl
  have dD:=eA.fn X G ["_law_script"]<|λ_ _ _ _ _ _=>us1 λ_=>rfl
  have bQ:=dG.fn X G ["_law_bag_here","_law_many"]<|λ_ _ _ _ _ _=>us2 λ_ _=>rfl
  have bR:=dH.fn X G ["_law_bag_here"]<|λ_ _ _ _ _ _=>us1 λ_=>rfl
  have bS:=dI.fn X G ["_law_one","_law_other"]<|λ_ _ _ _ _ _=>us2 λ_ _=>rfl
  have bT:=dJ.fn X G ["_law_rows_here"]<|λ_ _ _ _ _ _=>us1 λ_=>rfl
  have bU:=dL.fn X G ["_law_bag_here","_law_row_here"]<|λ_ _ _ _ _ _=>us2 λ_ _=>rfl
  have bV:=dM.fn X G ["_law_rows_here","_law_row_here"]<|λ_ _ _ _ _ _=>us2 λ_ _=>rfl
  have aT:=cH.fn X G ["_law_found"]<|λ_ _ _ _ _ _=>us1 λ_=>rfl
  have dE:=eB.fn X G ["_law_found"]<|λ_ _ _ _ _ _=>us1 λ_=>rfl
  have bW:=dN.fn X G ["_law_found","_law_due"]<|λ_ _ _ _ _ _=>us2 λ_ _=>rfl
  have aU:=cJ.fn X G ["_law_many"]<|λ_ _ _ _ _ _=>us1 λ_=>rfl
  have T:=a7.fn X G ["_law_rows_here","_law_loops","_law_rank_here","_law_bag_here"]<|λ_ _ _ _ _ _=>us4 λ_ _ _ _=>rfl
  have bX:=dO.fn X G ["_law_bag_here","_law_most"]<|λ_ _ _ _ _ _=>us2 λ_ _=>rfl
  have bY:=dP.fn X G ["_law_body","_law_rows_here"]<|λ_ _ _ _ _ _=>us2 λ_ _=>rfl
  have ax:=b3.fn X G ["_law_arrows"]<|λ_ _ _ _ _ _=>us1 λ_=>rfl
  have bZ:=dQ.fn X G ["_law_arrows","_law_tail"]<|λ_ _ _ _ _ _=>us2 λ_ _=>rfl
  have b0:=dR.fn X G ["_law_rows_here","_law_arrows","_law_tail"]<|λ_ _ _ _ _ _=>us3 λ_ _ _=>rfl
  have aV:=cP.fn X G ["_law_arrows"]<|λ_ _ _ _ _ _=>us1 λ_=>rfl
  have ay:=b4.fn X G ["_law_row_here","_law_keep"]<|λ_ _ _ _ _ _=>us2 λ_ _=>rfl
  have az:=b5.fn X G ["_law_rows_here","_law_arrows"]<|λ_ _ _ _ _ _=>us2 λ_ _=>rfl
  have g:=L.fn X G ["_law_field","_law_low","_law_high"]<|λ_ _ _ _ _ _=>us3 λ_ _ _=>rfl
  have aW:=cQ.fn X G ["_law_found","_law_due"]<|λ_ _ _ _ _ _=>us2 λ_ _=>rfl
  have j:=ae.fn X G ["_law_body","_law_rows_here"]<|λ_ _ _ _ _ _=>us2 λ_ _=>rfl
  have aX:=cR.fn X G ["_law_found","_law_due"]<|λ_ _ _ _ _ _=>us2 λ_ _=>rfl
  have b1:=dS.fn X G ["_law_field","_law_rows_here","_law_arrows"]<|λ_ _ _ _ _ _=>us3 λ_ _ _=>rfl
  have m:=af.fn ["self","cell"]<|λ_ _ _ _ _ _=>us2 λ_ _=>rfl
  have y:=aF.fn ["self","row"]<|λ_ _ _ _ _ _=>us2 λ_ _=>rfl
  have f:=u.fn ["self","row","rank"]<|λ_ _ _ _ _ _=>us3 λ_ _ _=>rfl
  have U:=a8.fn ["self","cell"]<|λ_ _ _ _ _ _=>us2 λ_ _=>rfl
  have aY:=cU.fn ["self","low","high"]<|λ_ _ _ _ _ _=>us3 λ_ _ _=>rfl
  have aZ:=cV.fn ["self"]<|λ_ _ _ _ _ _=>us1 λ_=>rfl
  have aA:=b6.fn ["self"]<|λ_ _ _ _ _ _=>us1 λ_=>rfl
  have a0:=cX.fn ["self","low"]<|λ_ _ _ _ _ _=>us2 λ_ _=>rfl
  have A:=aG.fn ["self","low","high"]<|λ_ _ _ _ _ _=>us3 λ_ _ _=>rfl
  have dF:=eC.fn ["self","low","high"]<|λ_ _ _ _ _ _=>us3 λ_ _ _=>rfl
  obtain⟨e6,e7,d4,d5,d6⟩:=eD.fx #[_,cy] cz R S rfl rfl CZ<|λ_ _ _ _ _ _ _=>us3 λ_ _ _=>rfl
  obtain⟨e8,e9,d7,b2⟩:=eE.ex
  obtain⟨eJ,eK,ck,cm,cn⟩:=cY.fx #[_,cy] cz R S rfl rfl yM<|λ_ _ _ _ _ _ _=>us1 λ_=>rfl
  obtain⟨eL,eM,cp,aB⟩:=cZ.ex
  obtain⟨eP,eQ,c0,c2,c3⟩:=dU.fx #[_,cy] cz R S rfl rfl Ax<|λ_ _ _ _ _ _ _=>us2 λ_ _=>rfl
  obtain⟨eR,eS,c4,a2⟩:=dV.ex
  obtain⟨dz,dA,aj,ak,al⟩:=aH.fx #[_,cy] cz R S rfl rfl wA<|λ_ _ _ _ _ _ _=>us2 λ_ _=>rfl
  obtain⟨dB,dC,an,n⟩:=aI.ex
  obtain⟨el,em,bm,bp,bq⟩:=b7.fx #[_,cy] cz R S rfl rfl yc<|λ_ _ _ _ _ _ _=>us2 λ_ _=>rfl
  obtain⟨en,eo,br,Y⟩:=b8.ex
  obtain⟨ep,er,bt,bu,bv⟩:=b9.fx #[_,cy] cz R S rfl rfl yb<|λ_ _ _ _ _ _ _=>us1 λ_=>rfl
  obtain⟨es,et,bA,aa⟩:=ca.ex
  obtain⟨eu,ew,bB,bC,bD⟩:=cb.fx #[_,cy] cz R S rfl rfl x9<|λ_ _ _ _ _ _ _=>us2 λ_ _=>rfl
  obtain⟨ey,ez,bE,ab⟩:=cd.ex
  obtain⟨eT,eU,c5,c6,c7⟩:=dW.fx #[_,cy] cz R S rfl rfl yN<|λ_ _ _ _ _ _ _=>us2 λ_ _=>rfl
  obtain⟨eV,eW,c8,a3⟩:=dX.ex
  obtain⟨eX,eY,c9,da,dc⟩:=dY.fx #[_,cy] cz R S rfl rfl Ay<|λ_ _ _ _ _ _ _=>us2 λ_ _=>rfl
  obtain⟨eZ,e0,dd,a4⟩:=dZ.ex
  obtain⟨e1,e2,a5,de,df⟩:=aO.fx #[_,cy] cz R S rfl rfl ["self"]<|λ_ _ _ _ _ _ _=>us1 λ_=>rfl
  obtain⟨e3,e4,dg,a6⟩:=aP.ex
  have B:=zz.bn X G
  have bP:=tz X G fV
  have ao:=i4 X G ai
  have aR:=i4 X G aQ
  have bF:Xc K mg "NotASum" XS:=#[#[_,_,_,_,i4 X G a9,ba,io],λ_=>trivial]
  have cq:Xc K mg "NoCell" XC:=#[#[_,_,_,_,i4 X G cg,cj,io],λ_=>trivial]
  have aM:Xc K mg "OtherRank" XO:=#[#[_,_,_,_,i4 X G aJ,aK,io],λ_=>trivial]
  have bG:Xc K mg "BadRank" XB:=#[#[_,_,_,_,i4 X G bb,bc,io],λ_=>trivial]
  have aq:Xc K mg "OpenBorder" XP:=#[#[_,_,_,_,i4 X G ag,ah,io],λ_=>trivial]
  have d8:Xc K mg "Full" XF0:=#[#[_,_,_,_,i4 X G d0,d1,io],λ_=>trivial]
  have bH:Xc K mg "Covered" XV:=#[#[_,_,_,_,i4 X G be,bf,io],λ_=>trivial]
  have bI:Xc K mg "NotFace" XF:=#[#[_,_,_,_,i4 X G bg,bh,io],λ_=>trivial]
  have d9:Xc K mg "Tied" XT:=#[#[_,_,_,_,i4 X G d2,d3,io],λ_=>trivial]
  have bJ:Xc K mg "NotTied" XN:=#[#[_,_,_,_,i4 X G bi,bj,io],λ_=>trivial]
  have H:A1 K C:=#[#[pg,hd,po,sa],nR,nB,nU]
  have cf:Su K C:=#[nH,nT]
  have dh:=i4 X G aC
  refine#[c,cD,jv "law" "law" (vV Cb) (vA Cb) (uQ Cb) .none fy fz fA fB fb fC,ht,fw,λs v=>.of_eq rfl,λbase _ _ Bt=>?_]
  let q:Cq:=#[l.prog,w,K,mg,base,cD]
  have SD:L2.KJ l.prog K XR fI eO cc "self":=#[#[_,_,_,_,_,lI,rfl,rfl],#[_,_,_,_,_,_,lD,fD,pD],#[_,_,_,fO],#[_,fP],fQ,R,S]
  have cs:vB l.prog w K mg base (vJ l.prog w) 3 fI _ ["self","ring"] (XY K XR "ring"):=Ur (P:=l.prog) (w:=w) (mg:=mg) (base:=base) (k:=2) (r:="ring") (fl:="ring") lI cI rfl Sl SD (λ_=>#[_,rfl]) bP B.list rfl lB fR fS rfl (λx=>by rw[PySem.refuseLoop_ref];exact PySem.F.store_ValueError.passes _) sB fT q0q q0q
  have fW:∀h:iJ,K.In h->∃mN,h.Ns eN mN/\mN "__init__"=↑(.ref fI):=λh Z=>#[_,.of_isNs<|pL Z ff,VA Z ff fE]
  have hB:Binds K (kC "__init__" "RingOfArrows.__init__" (vV zM) (vA zM) (uQ zM) [72] (.ref TD) fG fH fJ fK (.ref eO) fM) ["self","ring"] []:=λs us Z hl=>by
    have hl:us.length=2:=by simpa using hl
    obtain⟨u1,u2,rfl⟩:=lx2 us hl
    exact PySem.W.binds_K Z rfl lT rfl rfl rfl
  have M:XcI l.prog w K mg base 3 "RingOfArrows" XR "ring":=#[#[fI,eN,_,_,_,_,_,_,M0,_,_,_,_,_,_,_,_,_,_,_,_,_,_,_,i4 X G fe,lB,fW,λh Z=>tq Z fF,lI,rfl,io,rfl,cs,hB],λ_ _ _ _ _ _=>trivial]
  have N:a0d q XR "RingOfArrows":=#[i4 X G fe,fU]
  obtain⟨bx,gG,bz,bw,fh,fi,fj⟩:=bF.ex
  have di:=QN b.fn aw (K0 (P:=l.prog) (w:=w) i rfl Bt B.all B.zip) fh fi fj λ_=>trivial
  have dj:=QO b.fn aw (K3 (P:=l.prog) (w:=w) i rfl Bt B.all B.zip) fh fi fj λ_=>trivial
  have ea:=Sk (q:=q) de H cf #[#[_,_,dg,Vz (P:=l.prog) (w:=w) (mg:=mg) (base:=base) a6 H,a6.binds<|λ_ _ _ _ _ _=>us1 λ_=>rfl,bP]]
  have dm:xi q _ _ _ _:=b.fk di
  have dq:xi q _ _ _ _:=aS.fk<|QP aS.fn b dj B.set B.sorted
  have a:zN q C _ _ _ _:=m.fm<|Fx (q:=q) m.fn H cq
  have o:zN q C _ _ _ _:=y.fm<|Hm (q:=q) y.fn H (dm.up q0q)<|a.up q0q
  have p:zN q C _ _ _ _:=f.fm<|B6 (q:=q) f.fn H aM
  have ar:zN q C _ _ _ _:=#[_,_,FD (q:=q) ak #[#[_,_,an,(Ho (q:=q) n H (dq.up q0q)<|o.up q0q),n.binds<|λ_ _ _ _ _ _=>us2 λ_ _=>rfl,bP]],aj,al]
  have aD:zN q C _ _ _ _:=#[_,_,Ot (q:=q) cm #[#[_,_,cp,(QT (q:=q) aB H B),aB.binds<|λ_ _ _ _ _ _=>us1 λ_=>rfl,bP]],ck,cn]
  have dr:zN q C _ _ _ _:=#[_,_,Sg (q:=q) c2 #[#[_,_,c4,(UC (q:=q) a2 H (a.up q0q)<|aD.up q0q),a2.binds<|λ_ _ _ _ _ _=>us2 λ_ _=>rfl,bP]],c0,c3]
  have ec:zN q C _ _ _ _:=#[_,_,Vx (q:=q) d5 #[#[_,_,d7,(X8 (q:=q) b2 H (o.up q0q) (p.up q0q) (ar.up q0q) bG d8 aq ao aR B),b2.binds<|λ_ _ _ _ _ _=>us3 λ_ _ _=>rfl,bP]],d4,d6]
  have bK:zN q C _ _ _ _:=#[_,_,LP (q:=q) bp #[#[_,_,br,(N6 (q:=q) Y H (a.up q0q) B),Y.binds<|λ_ _ _ _ _ _=>us2 λ_ _=>rfl,bP]],bm,bq]
  have bL:zN q C _ _ _ _:=#[_,_,LQ (q:=q) bu #[#[_,_,bA,(N4 (q:=q) aa H),aa.binds<|λ_ _ _ _ _ _=>us1 λ_=>rfl,bP]],bt,bv]
  have bM:zN q C _ _ _ _:=#[_,_,LR (q:=q) bC #[#[_,_,bE,(N0 (q:=q) ab H),ab.binds<|λ_ _ _ _ _ _=>us2 λ_ _=>rfl,bP]],bB,bD]
  have ds:zN q C _ _ _ _:=#[_,_,Sh (q:=q) c6 #[#[_,_,c8,(Q0 (q:=q) a3 H<|a.up q0q),a3.binds<|λ_ _ _ _ _ _=>us2 λ_ _=>rfl,bP]],c5,c7]
  have J:zN q C _ _ _ _:=U.fm<|La (q:=q) U.fn H cf
  have dt:zN q C _ _ _ _:=#[_,_,Si (q:=q) da H (a.up q0q) (J.up q0q) #[#[_,_,dd,((UE (q:=q) a4 H (dr.up q0q) bH)).mono q0q,a4.binds<|λ_ _ _ _ _ _=>us2 λ_ _=>rfl,bP]],c9,dc]
  have cu:zN q C _ _ _ _:=aY.fm<|Q9 (q:=q) aY.fn H cf
  have cv:zN q C _ _ _ _:=aZ.fm<|Rf (q:=q) aZ.fn H cf B
  have bN:zN q C _ _ _ _:=aA.fm<|Ob (q:=q) aA.fn H cf<|cv.up q0q
  have cw:zN q C _ _ _ _:=a0.fm<|Ri (q:=q) a0.fn H cf (a.up q0q) bJ
  have D:xi q _ _ _ _:=d.fk<|B8 (q:=q) d.fn
  have au:zN q C _ _ _ _:=A.fm<|HA (q:=q) A.fn H cf (D.up q0q)<|cu.up q0q
  have ed:zN q C _ _ _ _:=dF.fm<|Yb (q:=q) dF.fn H cf (a.up q0q) (J.up q0q) (au.up q0q) bI d9 M
  have eH:xi q _ _ _ _:=dD.fk<|ZZ<|YD dD.fn B.len B.list
  have E:xi q _ _ _ _:=bQ.fk<|Xz<|Vv bQ.fn B.len
  have ee:xi q _ _ _ _:=bR.fk<|U1 (q:=q) bR.fn<|E.up q0q
  have aN:xi q _ _ _ _:=bS.fk<|U4 (q:=q) bS.fn B
  have k_here:xi q _ _ _ _:=bT.fk<|U6 (q:=q) bT.fn B
  have ef:xi q _ _ _ _:=bU.fk<|U7 (q:=q) bU.fn (E.up q0q) (aN.up q0q) B
  have eg:xi q _ _ _ _:=bV.fk<|U8 (q:=q) bV.fn<|aN.up q0q
  have k_whole:xi q _ _ _ _:=aT.fk<|RJ (q:=q) aT.fn B
  have eI:xi q _ _ _ _:=dE.fk<|Yk (q:=q) dE.fn (k_whole.up q0q) B
  have k_same:xi q _ _ _ _:=bW.fk<|Va (q:=q) bW.fn<|eI.up q0q
  have du:xi q _ _ _ _:=aU.fk<|RM (q:=q) aU.fn B
  have bO:xi q _ _ _ _:=T.fk<|Lx (q:=q) T.fn (E.up q0q) (aN.up q0q) (k_here.up q0q) (ef.up q0q) (eg.up q0q) B
  have eh:xi q _ _ _ _:=bX.fk<|Vc (q:=q) bX.fn (E.up q0q) (du.up q0q) (ee.up q0q) (bO.up q0q) B
  have k_fill:xi q _ _ _ _:=bY.fk<|Vd (q:=q) bY.fn H (ec.up q0q) (dt.up q0q) B
  have I:xi q _ _ _ _:=ax.fk<|Ol (q:=q) ax.fn
  have k_head:xi q _ _ _ _:=bZ.fk<|Ve (q:=q) bZ.fn
  have ei:xi q _ _ _ _:=b0.fk<|Vf (q:=q) b0.fn (k_head.up q0q)<|I.up q0q
  have dv:xi q _ _ _ _:=aV.fk<|RQ (q:=q) aV.fn B
  have aE:xi q _ _ _ _:=ay.fk<|On (q:=q) ay.fn
  have cx:xi q _ _ _ _:=az.fk<|Oo (q:=q) az.fn (I.up q0q) (ei.up q0q) (aE.up q0q) B
  have O:xi q _ _ _ _:=g.fk<|Dh (q:=q) g.fn H (ed.up q0q) N
  have dw:xi q _ _ _ _:=aW.fk<|RU (q:=q) aW.fn B
  have av:xi q _ _ _ _:=j.fk<|FA (q:=q) j.fn H (k_same.up q0q) (k_here.up q0q) (dw.up q0q) (k_whole.up q0q) (aD.up q0q) (bL.up q0q) (bM.up q0q) (ds.up q0q) (bK.up q0q) B
  have dx:xi q _ _ _ _:=aX.fk<|RV (q:=q) aX.fn (k_whole.up q0q) B
  have ej:xi q _ _ _ _:=b1.fk<|Vk (q:=q) b1.fn H (av.up q0q) (dx.up q0q)<|bN.up q0q
  exact Z1 (Z0<|Yv (q:=q) eG H ⟨mk,a5.at_,a5.fn,kc⟩ (ea.mono q0q) df dh (eH.up q0q) (eh.up q0q) (k_fill.up q0q) (E.up q0q) (I.up q0q) (dv.up q0q) (k_here.up q0q) (aE.up q0q) (cx.up q0q) (O.up q0q) (ej.up q0q) (cw.up q0q) B) λ_ _ _ _ z=>z
def walk{l:qz}{q:iu}{loose:List Str}{XP:(Str->Option cr)->iJ->Prop}{YP:iO->iJ->Prop}{d:DefRec}{K:Params->gH}{dx:DefRec}(hn:l.most=↑63)(hdf:d.params.defaults=[])
  (hY:∀(w:iO)(h:iJ),YP w h->(K w.params).In h) (a2M:(PyProof.Rows.recsOf q).find? (λe=>e.name==("is_sum":Str))=↑dx)
  (F:∀(w:iO)(mg:Str->Option cr)(fa:ci)(h:iJ),(K w.params).In h->h.Ns g9 mg->mg d.name=↑(.ref fa) ->
   ∃(c tab:ci)(fd:iE),nS (K w.params) "is_sum"=↑(c,tab)/\(K w.params).lookup tab=none/\(∀(s:gN)(u:cr),sD s fd #[[u],[]] [("_law_script",u)]) /\
    ∀base:iJ,(K w.params).In base->base.Ns g9 mg->IQ mg base c tab->vB l.prog w (K w.params) mg base Pf 11 fa fd ["_law_script"] (Mz (K w.params) tab)) :
  uL q loose XP YP l.row.toRowW d [] (λf vs=>tS f vs) :=
 L2.PB (n:=63) (k:=11) (x:="_law_script") (tx:="is_sum") (CX:=Pf) (sp:=λ_ K tab=>Mz K tab) hn q0q hdf #[rfl,q0q,q0q] hY a2M F (λ_ K H a tab ns _ hS hH=>#[a,ns,rfl,hS,#[#v[],hH,trivial],λ_=>rfl]) λ_ _ _ _ z=>z
end K7
open WL
open K7
set_option tactic.hygienic true
set_option hygiene true
namespace PySem.W.Fast
def tw16604745063899661807:=0
def tw9210880507967002034:=0
def tw17005254919942720377:=0
def tw5370165911760426843:=0
def tw420568244607169557:=0
def tw16433099217024076876:=0
def tw4048526418546592927:=0
def tw3795184602409875116:=0
def tw462169327905673824:=0
def tw9983427539472740500:=0
def tw508782726060393494:=0
def tw9646606461562651185:=0
def tw882548168929169341:=0
def tw18402662145246839543:=0
def tw7008207610052357644:=0
def tw2611926142765382632:=0
def tw16809153955437507328:=0
def tw8198271956920920330:=0
def tw4024519389999617896:=0
def tw11740121944519423194:=0
def tw1993203109815238205:=0
def tw184695208999457544:=0
def tw1280929791109253959:=0
def tw17044645610400226593:=0
def tw3324442627582858739:=0
def tw2266568023863935319:=0
def tw9218247360396463801:=0
def tw417453651022509884:=0
def tw16505419719643635231:=0
def tw10470087243620988870:=0
def tw14764432138290303829:=0
def tw11124887677223708653:=0
def tw8358116213090639858:=0
def tw12900646211049237390:=0
def tw16261586163436017470:=0
def tw10049177241252415846:=0
def tw12564512023233184650:=0
def tw6475684447501711932:=0
def tw7672266036835538556:=0
def tw13385241144785209096:=0
def tw14012979776080778850:=0
def tw11870211595513534022:=0
def tw14184557881286453921:=0
def tw16361502044489413568:=0
def tw1163899574486698488:=0
def tw17125899946757042869:=0
def tw18374358567813472122:=0
def tw5384684283465023437:=0
def tw8083622300035666654:=0
def tw18361504351525570357:=0
def tw15314389564835299700:=0
def tw1898254567947601336:=0
def tw2017550051171203750:=0
def tw13083365843804334988:=0
def tw15038395036999782992:=0
def tw8220762289317236703:=0
def tw12012281339939697078:=0
def tw15358525953660358458:=0
def tw12041113694905355198:=0
def tw11799813440859346515:=0
def tw3384706651975753570:=0
def tw5256194702585491646:=0
def tw8519531839364571773:=0
def tw14111343907382032912:=0
def tw3924229613073621980:=0
def tw15211383529858968387:=0
def tw4344701804885758136:=0
def tw7459956088268115524:=0
def tw12060877980727974643:=0
def tw17869047917366915001:=0
def tw8747016304844558860:=0
def tw17157826901140912536:=0
def tw2758909957524308277:=0
def tw6005210806464354422:=0
def tw3136621238033080435:=0
def tw3790376724784124978:=0
def tw3467425243815071198:=0
def tw9629023734540017536:=0
def tw8791101964081278579:=0
def tw11001963259652013262:=0
def tw14629877128163183665:=0
def tw17778247953175694266:=0
def tw7541411488444358307:=0
def tw7514635451132153455:=0
def tw12944043279883639315:=0
def tw10397226241024772866:=0
def tw273963993392768484:=0
def tw4496363681440988833:=0
def tw9652514942278843320:=0
def tw12397896860670056545:=0
def tw2907006024002217058:=0
def tw17221906283238462445:=0
def tw15102859100770850081:=0
def tw1885694564412290721:=0
def tw15646762079823830249:=0
def tw6819882919844979047:=0
def tw846712393711431134:=0
def tw6279105704819285729:=0
def tw1498645705595514864:=0
def tw14317705545925835213:=0
def tw6369381539690584549:=0
def tw4724838566067257233:=0
def tw14263942861328308299:=0
def tw1942314987431630828:=0
def tw1963733675214524456:=0
def tw8851389868528255535:=0
def tw18217941433604908481:=0
def tw3885137474282731507:=0
def tw18387789508444412462:=0
def tw8795685417843210596:=0
def tw438927639392315956:=0
def tw3860944742645946082:=0
def tw3940657063922009376:=0
def tw15021609075024789142:=0
def tw8226033328323315415:=0
def tw5190652121988776052:=0
def tw5554863903489077880:=0
def tw15438261513349632259:=0
def tw2278004526921329341:=0
def tw9969921036629674272:=0
def tw2851790030713048271:=0
def tw908962690011470329:=0
def tw12254580919323273121:=0
def tw6106702272906460970:=0
def tw4575344447645591602:=0
def tw6695355187142651774:=0
def tw6207664132509808995:=0
def tw7360599684962855927:=0
def tw10600197897992390926:=0
def tw5901854191471448775:=0
def tw15948471598501892117:=0
def tw6170186441029474804:=0
def tw17707694257823780156:=0
def tw11084789742184854478:=0
def tw13428864791390590355:=0
def tw7469242357459596450:=0
def tw2380037654325644227:=0
def tw1471137628750545320:=0
def tw14109665897097568096:=0
def tw9514498805770854000:=0
def tw12534725731364915484:=0
def tw3417723957274215844:=0
def tw4528768625028607243:=0
def tw17061509761750974648:=0
def tw3871063673115647700:=0
def tw9379078142721556971:=0
def tw17929920543429244415:=0
def tw8102726659240023364:=0
def tw8495797715167594858:=0
def tw2471395069130647533:=0
def tw13162017525524532041:=0
def tw3547646957887024437:=0
def tw4839699358328444654:=0
def tw5649314920143843433:=0
def tw2480710228406838187:=0
def tw8962335711895320674:=0
def tw2268066314318556589:=0
def tw15422031103858053125:=0
def tw6994401909478805453:=0
def tw15017562509718520816:=0
def tw11149227002083052012:=0
def tw11372248914681963843:=0
def tw7153333000083204888:=0
def tw16558877452058823724:=0
def tw519569664833652702:=0
def tw17797500913905403290:=0
def tw12703040175241506734:=0
def tw16768027503798015238:=0
def tw5327161485691963909:=0
def tw16878039788604128781:=0
def tw16249882587312578301:=0
def tw15298221449027776384:=0
def tw4605406231877821559:=0
def tw14269862710157835260:=0
def tw15225134600935919071:=0
def tw5019441824604668268:=0
def tw4683228622176995297:=0
def tw593645606583439987:=0
def tw7460629035025668343:=0
def tw539055377175833313:=0
def tw10725039702586876177:=0
def tw5433449542344037480:=0
def tw5627749499932642908:=0
def tw55199029009879346:=0
def tw2573553635582636417:=0
def tw11700498436965171167:=0
def tw3894017073684907644:=0
def tw417480649601537067:=0
def tw17025798255435323853:=0
def tw7993550827634680024:=0
def tw3237423027533414385:=0
def tw5900133208931322189:=0
def tw11405842188989675784:=0
def tw9285535020239475739:=0
def tw17520617985725787281:=0
def tw8883137619744011182:=0
def tw7522701257847240895:=0
def tw4014064100785924434:=0
def tw16237639181358174704:=0
def tw13116173667406551579:=0
def tw10611093057322926571:=0
def tw10360782808738417656:=0
def tw6095190897409374338:=0
def tw4589588131890221606:=0
def tw17577071919602203260:=0
def tw4630646580692323122:=0
def tw6540705604283982572:=0
def tw17610723490832293469:=0
def tw7440031490859880937:=0
def tw12797847110400037519:=0
def tw9310863284382460628:=0
def tw13051387277788868657:=0
def tw10373292857566168181:=0
def tw7363289442487425808:=0
def tw12989958956479192408:=0
def tw12402061429904857974:=0
def tw8137881026622615371:=0
def tw9763039911763864407:=0
def tw6543592450801901242:=0
def tw12355643674009499965:=0
def tw4422820167045328842:=0
def tw5089880510959255089:=0
def tw9966542736020628806:=0
def tw17449564984623798001:=0
def tw12139617834781954689:=0
def tw10988459378085037249:=0
def tw4088913075568401143:=0
def tw3706234479148448739:=0
def tw15307180607051242445:=0
def tw15326839194828076690:=0
def tw15422023666269419386:=0
def tw4579133470438759802:=0
def tw13432908269825449965:=0
def tw12199097766968546574:=0
def tw17872463653726500543:=0
def tw13762432889172159009:=0
def tw7551059083501981016:=0
def tw16941107175546669568:=0
def tw16603571868367544543:=0
def tw10166393208682352933:=0
def tw11394199488584750052:=0
def tw6095963578853291887:=0
def tw14587554283580954959:=0
def tw11385311424233813030:=0
def tw17432348672890232973:=0
def tw7211669162660707474:=0
def tw76625756103506383:=0
def tw11174090877165111652:=0
def tw8797258724281683941:=0
def tw14277034067175493497:=0
def tw11966403355189587031:=0
def tw10794926631552401060:=0
def tw10718380150535327529:=0
def tw10565954463656531983:=0
def tw6190004102529696577:=0
def tw2612128792464746768:=0
def tw7686604132060905621:=0
def tw2882539816175283555:=0
def tw11255326066574462783:=0
def tw12920758760811530002:=0
def tw4582621373575628005:=0
def tw4119218704113888445:=0
def tw14140013663162622147:=0
def tw13349911580195437055:=0
def tw6784172169679956691:=0
def tw9502277507513113022:=0
def tw16533120743195511196:=0
def tw16840406999637785397:=0
def tw17852997529964872690:=0
def tw6523265802813754669:=0
def tw3542926453110946387:=0
def tw6788060308680915698:=0
def tw2888067797261466977:=0
def tw18095946432318637625:=0
def tw10627655481560576404:=0
def tw7612146256696269206:=0
def tw14068547518594922409:=0
def tw3264811238855395416:=0
def tw12421573060303207779:=0
def tw1537376525676558543:=0
def tw14269749851059976478:=0
def tw5056581838148725591:=0
def tw301412123855573460:=0
def tw16120489602762754671:=0
def tw15213971865481303991:=0
def tw1519141435723675817:=0
def tw12025326941168249622:=0
def tw10392039226384275065:=0
def tw14563209405031101960:=0
def tw13635354927237217609:=0
def tw13132953967324453939:=0
def tw498415585587074253:=0
def tw1950303086292731350:=0
def tw16188715119505456068:=0
def tw3021735529014520626:=0
def tw3419461744984685755:=0
def tw16518273722784923287:=0
def tw159692456399241069:=0
def tw13341198557108471884:=0
def tw9058711615782302358:=0
def tw11569374424731696622:=0
def tw1587465325615774263:=0
def tw1633260274790804820:=0
def tw15385967519612788787:=0
def tw7783638241485512360:=0
def tw7778524129639585205:=0
def tw4248930916800798719:=0
def tw3173206220910451033:=0
def tw6334095969786124715:=0
def tw3886628066271475077:=0
def tw8104540293199699083:=0
def tw7108070506191692050:=0
def tw5504449858273098443:=0
def tw16908778622071959426:=0
def tw12501091317948554727:=0
def tw14116753874182062515:=0
def tw17733366347798350801:=0
def tw9226542063885626663:=0
def tw7237912873261248223:=0
def tw7054482055173683795:=0
def tw3079064760689010626:=0
def tw1884389516467735110:=0
def tw18224884754083051620:=0
def tw1810920539607457719:=0
def tw17291680857798905077:=0
def tw16936192027246164583:=0
def tw15969723285352397703:=0
def tw15574908852741310346:=0
def tw15213923942866543686:=0
def tw12480284140449598832:=0
def tw11507481930541078738:=0
def tw10708524240471900424:=0
def tw1668670629165744295:=0
def tw8538909330552366633:=0
def tw7827582461183689515:=0
def tw5532466682434308247:=0
def tw3080957798332953286:=0
def tw12738336323851121366:=0
def tw8522536916782378072:=0
end PySem.W.Fast
open PySem PySem.W PyProof.Rows
set_option maxHeartbeats 0 in
theorem PySem.Challenge.cw_slimbody_k15_whole_ring_or_arrow_holds : PySem.Challenge.rw_slimbody_k15_whole_ring_or_arrow.Holds := by
  w_on; o_law; k_head; (case hw => w_witness2)
  k_fill
  refine K7.walk (l := PySem.Challenge.rw_slimbody_k15_whole_ring_or_arrow) rfl rfl (fun w h Y => PySem.W.kIn_of Y) (by rfl) ?j0a
  case j0a =>
    intro w mg fa h KX G hmg
    refine' K7.all_mk KX G hmg ?_ ?_ ?_ ?_ ?_ ?_ ?_ ?_ ?_ ?_ ?_ ?_ ?_ ?_ ?_ ?_ ?_ ?_ ?_ ?_ ?_ ?_ ?_ ?_ ?_ ?_ ?_ ?_ ?_ ?_ ?_ ?_ ?_ ?_ ?_ ?_ ?_ ?_ ?_ ?_ ?_ ?_ ?_ ?_ ?_ ?_ ?_ ?_ ?_ ?_ ?_ ?_ ?_ ?_ ?_ ?_ ?_ ?_ ?_ ?_ ?_ ?_ ?_ ?_ ?_ ?_ ?_ ?_ ?_ ?_ ?_ ?_ ?_ ?_ ?_ ?_ ?_ ?_ ?_ ?_ ?_ ?_ ?_ ?_ ?_ ?_ ?_ ?_ ?_ ?_ ?_ ?_ ?_ ?_ ?_ ?_ ?_ ?_ ?_ ?_ ?_ ?_ ?_ ?_ ?_ ?_ ?_ ?_ ?_ ?_ ?_ ?_ ?_ ?_ ?_ ?_ ?_ ?_ ?_ ?_ ?_ ?_ ?_ ?_ ?_ ?_ ?_ ?_ ?_
    all_goals try first | k_is | k_exc | exact Z2 (by k_is) (by k_is) (by k_is) (by k_is) | exact Z3 (by k_is) (by k_is) (by k_is) (by k_is) (by k_is) | exact a0A (by k_is) (by k_is) (by k_is) (by k_is) (by k_is) (by k_is) (by rfl) (by rfl) (by k_is) | exact a0B (by rfl) (by k_is) (by k_is) (by k_is) (by k_is) (by k_is) | rfl | kernel_rfl
    constructor <;> k_is
