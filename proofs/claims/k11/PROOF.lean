import PyProof.Rows.All
import Wide.All
import OpenK.AllK
import Wide.FinOn
import Lean
import PyProof.EqAt
import PyProof.EqKinds
import PyProof.TupleCall
import PyProof.Rows.SetFrom
import PyProof.Rows.SortWalkRead
import PyProof.Rows.EqDataRows
import PyProof.CompFree
import PyProof.ZipIter
import PyProof.Rows.ZipGen
import PyProof.GenCompD
import PyProof.CodeObjX
import KE.KNest
import PyProof.DictWalks
import PyProof.AutoListH
import PyProof.WalksMore
import PyProof.Draws
import PyProof.EnumFor
import PyProof.EnumMake
import PyProof.EnumStmt
import PyProof.Rows.EnumRows
import KE.KSuper
import PyProof.P3In
import PyProof.WalkInts
import KE.KTryMore
import PyProof.ExcClass2
import PyProof.ExcInit
import PyProof.InstStore
import PyProof.ExcBaseAll.ValueError
import PyProof.InstStoreFacts
import KE.KSortTup
import PyProof.Rows.SortShellK
import PyProof.DictCompW
import KE.KRevSl
import PySem.Challenge.RW_slimbody_k11_arrows_kept
set_option Elab.async false
set_option linter.all false
set_option tactic.hygienic false
set_option compiler.extract_closed false
set_option hygiene false
set_option genSizeOf false
set_option genInjectivity false
set_option maxRecDepth 100000
local macro_rules|`(#[$a,*])=>`(⟨$a,*⟩)
local macro_rules|`(#v[$a,*])=>`(List.toArray [$a,*])
local macro_rules|`(↑$a)=>`(some $a)
local macro_rules|`(⇑$a)=>`(($a).heap.objs.size)
set_option maxHeartbeats 4000000
local macro_rules|`(53)=>`((wl (wh P w) P w K mg base N qual scope f cd A outer s H E))|`(54)=>`((ii X.prog X.w))|`(55)=>`(#[I.ok.mod,I.ok.kind,I.ok.glob,I.ok.blt,I.ok.above,I.ok.inj,I.ok.has,I.ok.Pw,I.ok.hd,I.ok.frames,I.ok.CW,I.ok.T7,I.ok.bs,I.ok.Je,I.ok.DO,I.ok.Er,I.ok.zc,I.ok.Kq])|`(57)=>`((Ch.refl _ _ _ _))|`(58)=>`({ cls:=.type "list",data:=.seq ([]:List cr).toArray})|`(61)=>`((Option (Int×(List Int))))|`(65)=>`((p.1,#[],()))|`(66)=>`(("__debug__":Str))|`(67)=>`((lk p.1.rk p.2.1))|`(70)=>`((false,eval e X.env))|`(71)=>`((p.1,#[],#[],()))|`(72)=>`((g9->D->Prop))|`(73)=>`({ cls:=.type "list",dict:=none,data:=.seq AD.toArray nD})|`(74)=>`((yU xf (pv 0) vQ (λ_ _=>rfl)))|`(75)=>`(("__class__",cc))|`(76)=>`({ cls:=.type "dict_keyiterator",data:=.fields #v[.ref a,.int 0 0,.int xP.length 0,.int ep 0]})|`(77)=>`({ cls:=.type "dict_keyiterator",data:=.fields #v[.ref a,.int 0 0,.int m.length 0,.int B 0]})|`(78)=>`((wl (wh P w) P w K l base N g c f u A e s H E))|`(79)=>`((false,eval a X.env))|`(81)=>`((vr (ss 1) vp))|`(82)=>`({ cls:=.type "list",dict:=none,data:=.seq ([]:List cr).toArray})|`(83)=>`((jR nm q C N bs bm hdct sn sub ab col dd k0 k1 k2 k3 k5 newId))|`(84)=>`((q.get<|A.get d))|`(85)=>`((vq<|vD<|vH xg))|`(86)=>`({ x with ht:=dk x.ht y.1,th:=dk x.th y.2})|`(87)=>`((.Call (.Name "super" p0) [] [] p1))|`(88)=>`((g9->PO->Prop))|`(90)=>`((wl (wh P w) P w K e base N c a f g A b s H E))|`(91)=>`((if kX t.dummies j=true then jk t.dummies (iu t.dummies j) else t.dummies))|`(93)=>`((Int×List Int))|`(94)=>`((Lr (wh P w) P w K mg base N qual scope f (.ref zV) [75] A outer s H E))|`(96)=>`((.Call (.Attribute (.Name x z) m apos) (e::n) [] pos))|`(97)=>`(#[rfl,I.turned (t':=s.toks) (λb o hb e=>eb b o hb e) f0 f1 f3 f4 f5])|`(98)=>`((vr (ss 2) vp))|`(99)=>`((AE x low high))|`(101)=>`((.Name x pos))|`(102)=>`({ cls:=.type "range",data:=.fields #v[.int a t,.int c u,.int 1 v]})|`(103)=>`({ s with toks:=s.toks+1})|`(105)=>`((g9->B0×Un×Unit->Prop))|`(106)=>`((τ->PO->Prop))
noncomputable section
local macro_rules | `(tactic| walk_at "sc") => `(tactic| exact #[rfl, rfl, rfl, by decide +kernel, rfl, by decide +kernel, by decide +kernel])
local macro_rules | `(tactic| walk_at "ss") => `(tactic| exact #[rfl, rfl, rfl, by decide +kernel, rfl, by decide +kernel, by decide +kernel, by decide +kernel, rfl, rfl])
local macro_rules | `(tactic| walk_at "wl") => `(tactic| dsimp +instances only [At.get, At.hole, Pt.put, Ent.ent, Pj.pj, Fg.fg, Sel.sel, Sel.rest, Sel.mrg, Pre.pre, Pre.suf, at0, atS, pt0, ptS, ent0, entS, entC, pjNil, pjUn, pjCons, fgId, fgUn, fgCons, selNil, selCons, pre0, preS, stepC, id, ID.get, ID.set, wSq, cK, cB, cA, cO, cC, cM, cN, cS, cG, cI, cW, cT, cF])
def e0a2 {p0:Prop}{p1:Prop}{G:Prop}(h:p0/\p1)(k:p0->p1->G):G:=by obtain ⟨h0,h1⟩:=h;exact k h0 h1
def e0a3 {p0:Prop}{p1:Prop}{p2:Prop}{G:Prop}(h:p0/\p1/\p2)(k:p0->p1->p2->G):G:=by obtain ⟨h0,h1,h2⟩:=h;exact k h0 h1 h2
def e0a4 {p0:Prop}{p1:Prop}{p2:Prop}{p3:Prop}{G:Prop}(h:p0/\p1/\p2/\p3)(k:p0->p1->p2->p3->G):G:=by obtain ⟨h0,h1,h2,h3⟩:=h;exact k h0 h1 h2 h3
def e0a6 {p0:Prop}{p1:Prop}{p2:Prop}{p3:Prop}{p4:Prop}{p5:Prop}{G:Prop}(h:p0/\p1/\p2/\p3/\p4/\p5)(k:p0->p1->p2->p3->p4->p5->G):G:=by obtain ⟨h0,h1,h2,h3,h4,h5⟩:=h;exact k h0 h1 h2 h3 h4 h5
def e1a1 {wd:Sort _}{p0:wd->Prop}{G:Prop}(h:∃ x0:wd,p0 x0)(k:∀ x0:wd,p0 x0->G):G:=by obtain ⟨x0,h0⟩:=h;exact k x0 h0
def e1a2 {wd:Sort _}{p0:wd->Prop}{p1:wd->Prop}{G:Prop}(h:∃ x0:wd,p0 x0/\p1 x0)(k:∀ x0:wd,p0 x0->p1 x0->G):G:=by obtain ⟨x0,h0,h1⟩:=h;exact k x0 h0 h1
def e1a3 {wd:Sort _}{p0:wd->Prop}{p1:wd->Prop}{p2:wd->Prop}{G:Prop}(h:∃ x0:wd,p0 x0/\p1 x0/\p2 x0)(k:∀ x0:wd,p0 x0->p1 x0->p2 x0->G):G:=by obtain ⟨x0,h0,h1,h2⟩:=h;exact k x0 h0 h1 h2
def e1a4 {wd:Sort _}{p0:wd->Prop}{p1:wd->Prop}{p2:wd->Prop}{p3:wd->Prop}{G:Prop}(h:∃ x0:wd,p0 x0/\p1 x0/\p2 x0/\p3 x0)(k:∀ x0:wd,p0 x0->p1 x0->p2 x0->p3 x0->G):G:=by obtain ⟨x0,h0,h1,h2,h3⟩:=h;exact k x0 h0 h1 h2 h3
def e2a2 {wd:Sort _}{wC:Sort _}{p0:wd->wC->Prop}{p1:wd->wC->Prop}{G:Prop}(h:∃ x0:wd,∃ x1:wC,p0 x0 x1/\p1 x0 x1)(k:∀ x0:wd,∀ x1:wC,p0 x0 x1->p1 x0 x1->G):G:=by obtain ⟨x0,x1,h0,h1⟩:=h;exact k x0 x1 h0 h1
def e2a3 {wd:Sort _}{wC:Sort _}{p0:wd->wC->Prop}{p1:wd->wC->Prop}{p2:wd->wC->Prop}{G:Prop}(h:∃ x0:wd,∃ x1:wC,p0 x0 x1/\p1 x0 x1/\p2 x0 x1)(k:∀ x0:wd,∀ x1:wC,p0 x0 x1->p1 x0 x1->p2 x0 x1->G):G:=by obtain ⟨x0,x1,h0,h1,h2⟩:=h;exact k x0 x1 h0 h1 h2
def e2a4 {wd:Sort _}{wC:Sort _}{p0:wd->wC->Prop}{p1:wd->wC->Prop}{p2:wd->wC->Prop}{p3:wd->wC->Prop}{G:Prop}(h:∃ x0:wd,∃ x1:wC,p0 x0 x1/\p1 x0 x1/\p2 x0 x1/\p3 x0 x1)(k:∀ x0:wd,∀ x1:wC,p0 x0 x1->p1 x0 x1->p2 x0 x1->p3 x0 x1->G):G:=by obtain ⟨x0,x1,h0,h1,h2,h3⟩:=h;exact k x0 x1 h0 h1 h2 h3
def e2a5 {wd:Sort _}{wC:Sort _}{p0:wd->wC->Prop}{p1:wd->wC->Prop}{p2:wd->wC->Prop}{p3:wd->wC->Prop}{p4:wd->wC->Prop}{G:Prop}(h:∃ x0:wd,∃ x1:wC,p0 x0 x1/\p1 x0 x1/\p2 x0 x1/\p3 x0 x1/\p4 x0 x1)(k:∀ x0:wd,∀ x1:wC,p0 x0 x1->p1 x0 x1->p2 x0 x1->p3 x0 x1->p4 x0 x1->G):G:=by obtain ⟨x0,x1,h0,h1,h2,h3,h4⟩:=h;exact k x0 x1 h0 h1 h2 h3 h4
def e3a2 {wd:Sort _}{wC:Sort _}{xi:Sort _}{p0:wd->wC->xi->Prop}{p1:wd->wC->xi->Prop}{G:Prop}(h:∃ x0:wd,∃ x1:wC,∃ x2:xi,p0 x0 x1 x2/\p1 x0 x1 x2)(k:∀ x0:wd,∀ x1:wC,∀ x2:xi,p0 x0 x1 x2->p1 x0 x1 x2->G):G:=by obtain ⟨x0,x1,x2,h0,h1⟩:=h;exact k x0 x1 x2 h0 h1
def e3a3 {wd:Sort _}{wC:Sort _}{xi:Sort _}{p0:wd->wC->xi->Prop}{p1:wd->wC->xi->Prop}{p2:wd->wC->xi->Prop}{G:Prop}(h:∃ x0:wd,∃ x1:wC,∃ x2:xi,p0 x0 x1 x2/\p1 x0 x1 x2/\p2 x0 x1 x2)(k:∀ x0:wd,∀ x1:wC,∀ x2:xi,p0 x0 x1 x2->p1 x0 x1 x2->p2 x0 x1 x2->G):G:=by obtain ⟨x0,x1,x2,h0,h1,h2⟩:=h;exact k x0 x1 x2 h0 h1 h2
def e3a4 {wd:Sort _}{wC:Sort _}{xi:Sort _}{p0:wd->wC->xi->Prop}{p1:wd->wC->xi->Prop}{p2:wd->wC->xi->Prop}{p3:wd->wC->xi->Prop}{G:Prop}(h:∃ x0:wd,∃ x1:wC,∃ x2:xi,p0 x0 x1 x2/\p1 x0 x1 x2/\p2 x0 x1 x2/\p3 x0 x1 x2)(k:∀ x0:wd,∀ x1:wC,∀ x2:xi,p0 x0 x1 x2->p1 x0 x1 x2->p2 x0 x1 x2->p3 x0 x1 x2->G):G:=by obtain ⟨x0,x1,x2,h0,h1,h2,h3⟩:=h;exact k x0 x1 x2 h0 h1 h2 h3
def e3a5 {wd:Sort _}{wC:Sort _}{xi:Sort _}{p0:wd->wC->xi->Prop}{p1:wd->wC->xi->Prop}{p2:wd->wC->xi->Prop}{p3:wd->wC->xi->Prop}{p4:wd->wC->xi->Prop}{G:Prop}(h:∃ x0:wd,∃ x1:wC,∃ x2:xi,p0 x0 x1 x2/\p1 x0 x1 x2/\p2 x0 x1 x2/\p3 x0 x1 x2/\p4 x0 x1 x2)(k:∀ x0:wd,∀ x1:wC,∀ x2:xi,p0 x0 x1 x2->p1 x0 x1 x2->p2 x0 x1 x2->p3 x0 x1 x2->p4 x0 x1 x2->G):G:=by obtain ⟨x0,x1,x2,h0,h1,h2,h3,h4⟩:=h;exact k x0 x1 x2 h0 h1 h2 h3 h4
def e4a4 {wd:Sort _}{wC:Sort _}{xi:Sort _}{zb:Sort _}{p0:wd->wC->xi->zb->Prop}{p1:wd->wC->xi->zb->Prop}{p2:wd->wC->xi->zb->Prop}{p3:wd->wC->xi->zb->Prop}{G:Prop}(h:∃ x0:wd,∃ x1:wC,∃ x2:xi,∃ x3:zb,p0 x0 x1 x2 x3/\p1 x0 x1 x2 x3/\p2 x0 x1 x2 x3/\p3 x0 x1 x2 x3)(k:∀ x0:wd,∀ x1:wC,∀ x2:xi,∀ x3:zb,p0 x0 x1 x2 x3->p1 x0 x1 x2 x3->p2 x0 x1 x2 x3->p3 x0 x1 x2 x3->G):G:=by obtain ⟨x0,x1,x2,x3,h0,h1,h2,h3⟩:=h;exact k x0 x1 x2 x3 h0 h1 h2 h3
def e4a6 {wd:Sort _}{wC:Sort _}{xi:Sort _}{zb:Sort _}{p0:wd->wC->xi->zb->Prop}{p1:wd->wC->xi->zb->Prop}{p2:wd->wC->xi->zb->Prop}{p3:wd->wC->xi->zb->Prop}{p4:wd->wC->xi->zb->Prop}{p5:wd->wC->xi->zb->Prop}{G:Prop}(h:∃ x0:wd,∃ x1:wC,∃ x2:xi,∃ x3:zb,p0 x0 x1 x2 x3/\p1 x0 x1 x2 x3/\p2 x0 x1 x2 x3/\p3 x0 x1 x2 x3/\p4 x0 x1 x2 x3/\p5 x0 x1 x2 x3)(k:∀ x0:wd,∀ x1:wC,∀ x2:xi,∀ x3:zb,p0 x0 x1 x2 x3->p1 x0 x1 x2 x3->p2 x0 x1 x2 x3->p3 x0 x1 x2 x3->p4 x0 x1 x2 x3->p5 x0 x1 x2 x3->G):G:=by obtain ⟨x0,x1,x2,x3,h0,h1,h2,h3,h4,h5⟩:=h;exact k x0 x1 x2 x3 h0 h1 h2 h3 h4 h5
def e5a3 {wd:Sort _}{wC:Sort _}{xi:Sort _}{zb:Sort _}{BO:Sort _}{p0:wd->wC->xi->zb->BO->Prop}{p1:wd->wC->xi->zb->BO->Prop}{p2:wd->wC->xi->zb->BO->Prop}{G:Prop}(h:∃ x0:wd,∃ x1:wC,∃ x2:xi,∃ x3:zb,∃ x4:BO,p0 x0 x1 x2 x3 x4/\p1 x0 x1 x2 x3 x4/\p2 x0 x1 x2 x3 x4)(k:∀ x0:wd,∀ x1:wC,∀ x2:xi,∀ x3:zb,∀ x4:BO,p0 x0 x1 x2 x3 x4->p1 x0 x1 x2 x3 x4->p2 x0 x1 x2 x3 x4->G):G:=by obtain ⟨x0,x1,x2,x3,x4,h0,h1,h2⟩:=h;exact k x0 x1 x2 x3 x4 h0 h1 h2
def e5a4 {wd:Sort _}{wC:Sort _}{xi:Sort _}{zb:Sort _}{BO:Sort _}{p0:wd->wC->xi->zb->BO->Prop}{p1:wd->wC->xi->zb->BO->Prop}{p2:wd->wC->xi->zb->BO->Prop}{p3:wd->wC->xi->zb->BO->Prop}{G:Prop}(h:∃ x0:wd,∃ x1:wC,∃ x2:xi,∃ x3:zb,∃ x4:BO,p0 x0 x1 x2 x3 x4/\p1 x0 x1 x2 x3 x4/\p2 x0 x1 x2 x3 x4/\p3 x0 x1 x2 x3 x4)(k:∀ x0:wd,∀ x1:wC,∀ x2:xi,∀ x3:zb,∀ x4:BO,p0 x0 x1 x2 x3 x4->p1 x0 x1 x2 x3 x4->p2 x0 x1 x2 x3 x4->p3 x0 x1 x2 x3 x4->G):G:=by obtain ⟨x0,x1,x2,x3,x4,h0,h1,h2,h3⟩:=h;exact k x0 x1 x2 x3 x4 h0 h1 h2 h3
def e5a6 {wd:Sort _}{wC:Sort _}{xi:Sort _}{zb:Sort _}{BO:Sort _}{p0:wd->wC->xi->zb->BO->Prop}{p1:wd->wC->xi->zb->BO->Prop}{p2:wd->wC->xi->zb->BO->Prop}{p3:wd->wC->xi->zb->BO->Prop}{p4:wd->wC->xi->zb->BO->Prop}{p5:wd->wC->xi->zb->BO->Prop}{G:Prop}(h:∃ x0:wd,∃ x1:wC,∃ x2:xi,∃ x3:zb,∃ x4:BO,p0 x0 x1 x2 x3 x4/\p1 x0 x1 x2 x3 x4/\p2 x0 x1 x2 x3 x4/\p3 x0 x1 x2 x3 x4/\p4 x0 x1 x2 x3 x4/\p5 x0 x1 x2 x3 x4)(k:∀ x0:wd,∀ x1:wC,∀ x2:xi,∀ x3:zb,∀ x4:BO,p0 x0 x1 x2 x3 x4->p1 x0 x1 x2 x3 x4->p2 x0 x1 x2 x3 x4->p3 x0 x1 x2 x3 x4->p4 x0 x1 x2 x3 x4->p5 x0 x1 x2 x3 x4->G):G:=by obtain ⟨x0,x1,x2,x3,x4,h0,h1,h2,h3,h4,h5⟩:=h;exact k x0 x1 x2 x3 x4 h0 h1 h2 h3 h4 h5
def e6a2 {wd:Sort _}{wC:Sort _}{xi:Sort _}{zb:Sort _}{BO:Sort _}{T2:Sort _}{p0:wd->wC->xi->zb->BO->T2->Prop}{p1:wd->wC->xi->zb->BO->T2->Prop}{G:Prop}(h:∃ x0:wd,∃ x1:wC,∃ x2:xi,∃ x3:zb,∃ x4:BO,∃ x5:T2,p0 x0 x1 x2 x3 x4 x5/\p1 x0 x1 x2 x3 x4 x5)(k:∀ x0:wd,∀ x1:wC,∀ x2:xi,∀ x3:zb,∀ x4:BO,∀ x5:T2,p0 x0 x1 x2 x3 x4 x5->p1 x0 x1 x2 x3 x4 x5->G):G:=by obtain ⟨x0,x1,x2,x3,x4,x5,h0,h1⟩:=h;exact k x0 x1 x2 x3 x4 x5 h0 h1
def e7a2 {wd:Sort _}{wC:Sort _}{xi:Sort _}{zb:Sort _}{BO:Sort _}{T2:Sort _}{α6:Sort _}{p0:wd->wC->xi->zb->BO->T2->α6->Prop}{p1:wd->wC->xi->zb->BO->T2->α6->Prop}{G:Prop}(h:∃ x0:wd,∃ x1:wC,∃ x2:xi,∃ x3:zb,∃ x4:BO,∃ x5:T2,∃ x6:α6,p0 x0 x1 x2 x3 x4 x5 x6/\p1 x0 x1 x2 x3 x4 x5 x6)(k:∀ x0:wd,∀ x1:wC,∀ x2:xi,∀ x3:zb,∀ x4:BO,∀ x5:T2,∀ x6:α6,p0 x0 x1 x2 x3 x4 x5 x6->p1 x0 x1 x2 x3 x4 x5 x6->G):G:=by obtain ⟨x0,x1,x2,x3,x4,x5,x6,h0,h1⟩:=h;exact k x0 x1 x2 x3 x4 x5 x6 h0 h1
def us0 {α:Type}{P:List α->Prop}(h:P [])(us:List α)(e:us.length=0):P us:=by
 cases us with
 |nil=>exact h
 |cons=>cases e
def us1 {α:Type}{P:List α->Prop}(h:∀ a,P [a])(us:List α)(e:us.length=1):P us:=by
 cases us with
 |nil=>cases e
 |cons a t=>exact us0 (P:=fun t=>P (a :: t)) (h a) t (Nat.succ.inj e)
def us2 {α:Type}{P:List α->Prop}(h:∀ a b,P [a,b])(us:List α)(e:us.length=2):P us:=by
 cases us with
 |nil=>cases e
 |cons a t=>exact us1 (P:=fun t=>P (a :: t)) (h a) t (Nat.succ.inj e)
def us3 {α:Type}{P:List α->Prop}(h:∀ a b c,P [a,b,c])(us:List α)(e:us.length=3):P us:=by
 cases us with
 |nil=>cases e
 |cons a t=>exact us2 (P:=fun t=>P (a :: t)) (h a) t (Nat.succ.inj e)
def us4 {α:Type}{P:List α->Prop}(h:∀ a b c d,P [a,b,c,d])(us:List α)(e:us.length=4):P us:=by
 cases us with
 |nil=>cases e
 |cons a t=>exact us3 (P:=fun t=>P (a :: t)) (h a) t (Nat.succ.inj e)
def cutG {α:Sort _}{G:α->Prop}{P:Prop}(k:(∀ a,G a)->P)(h:∀ a,G a):P:=k h
def cutP {G P:Prop}(k:G->P)(h:G):P:=k h
def lx0 {α:Type}(us:List α)(e:us.length=0):us=[]:=us0 (P:=fun us=>us=[]) rfl us e
def lx1 {α:Type}(us:List α)(e:us.length=1):∃ a,us=[a]:=us1 (P:=fun us=>∃ a,us=[a]) (fun a=>#[a,rfl]) us e
def lx2 {α:Type}(us:List α)(e:us.length=2):∃ a b,us=[a,b]:=us2 (P:=fun us=>∃ a b,us=[a,b]) (fun a b=>#[a,b,rfl]) us e
open PySem renaming wpAny_bind->am,wpAny_pure->ap,Value->cr,Addr->g9,starEach->hJ,sizeLine->hV,Shared->hW,wpAny->ic,model->ii,mainGlobals->iq,Stmt->iH,Program->iN,wpAny_holding->iQ,attributeBase->iU,Expr->iV,FuncData->iW,wpAny_newObj_type->iZ,Heap->i9,World->jf,wpAny_call_entry->jg,behindInMarks->jh,wpAny_mono->jm,sizeLine_eq->jo,wpAny_field->jp,wpAny_setState_of->jr,backTo->jB,compareOp->jF,Around->jL,excClassObj->jR,wpAny_askSetting->jT,SetTable->jV,wpAny_loadPart_at->jZ,codeAny_builtin->j4,wpAny_setField_rec->kd,codeAny_mono->kh,swapsWith->kj,cLine->kF,mem_of_lookup->kG,wpAny_truthy_bool->kK,foldedSetIterable->kM,intKind->kR,ExcBaseFacts->kT,wpAny_Call_Name_kw->k8,wpAny_loadName_local->lv,holding->lw,keywordEach->lx,wpAny_typeOf->lA,sysModules->lG,plainId_quiet->lH,wpAny_seqItems->lO,unsupported->lW,tupleKind_room_in1->lY,wpAny_passesOwn->mf,rawInt->ml,builtinLookup_eq_fast->mo,Scope->mF,wpAny_rule->mG,wpAny_isInstance->mI,binaryOp->mW,boot_len->mZ,codeAny->m4,codeAny_of_tree->m6,wpAny_call->m9,getMethod->nc,wpAny_of_eq->ng,bootBuiltins->nA,standAt->nC,backToKw->nE,wpAny_setField->nK,typeLookup->nW,hashInt->nX,wpAny_standAt->nZ,callWith->n6,sliceBounds->n8,codeAny_call_builtin->og,wpAny_execs_nil->ot,typeLookup_type->oy,getItem->oE,call_meetsIn->oH,builtinsNs->oQ,closureFor->oS,relabel->pc,wpAny_attempt->pB,wpAny_comprehension_free->pC,wpAny_onRaise->pE,tupleKind->pH,GenState->pJ,wpAny_Name->pX,assignEach->pY,Keyword->qa,intKind_is->qc,sub_set_self->qd,wpAny_specialOf->qf,wpAny_updateSeq->qi,IsPart->qy,firstArgMember->qC,IsPair->qF,wpAny_updateSeq_pair->qG,valueAt->qJ,wpAny_loadName_free->qN,wpAny_setEntries_of->qT,Obj->qW,wpAny_isSubtype_exc->qX,CmpOp->qZ,isTrue->rj,wpAny_load->ro,wpAny_pyIter_tuple->rq,wpAny_Call_method->rP,callerA->rQ,cStatics->rT,ks_wpAt_mono->rV,plainObj_wpAny_Assign_Attribute->rZ,wpAny_eqBool_int->si,PassesOwn->sj,argsOk->sr,subscripted->sD,IsZip->sK,wpAny_letGo->sL,Within->sO,wpAny_AugAssign_SubscriptAny->sR,letOwnedTupleGo->sS,wpAny_tests_nil->sV,setItem->sZ,BindsTo->tj,OwnTail->tE,wpAny_Compare1->tH,assign->tJ,recursionLimit->tL,bindArgs->tM,atKey->tQ,relayAll->tT,storeSet->tU,entryFor->tV,entryFor_alias->tW,wpAny_runValue->tX,isSubtype_type->tY,compEnvC->t6,refuseLoop->uc,evalPart_none->uo,wpAny_getItem_list_slice->uq,call->ur,wpAny_newList->uu,wpAt->uw,table->uD,pickOrder->uE,TriplesOk->uH,noteFrame->uI,field->uJ,spliced->uP,truthy->uQ,leaving->uR,seqIndex_neg->uT,wpAny_Call_method_late->uV,wpAny_isTrue_Compare1->vd,weight_type_call_type->vg
open PySem.Heap renaming get?_push_of_some->ce,lt_size->hX,get?_push_size->ik,get?_update_other->iR,get?_update_self->jd,SameBut->jj,size_push->jO,FlyingW->mr,get?_none_of_le->nM,get?_push_at->oM,size_update->oW,get?_update_ne->qm,IsTuple->qL,MadeExcOf->sh
open PySem.W renaming Frag->hI,nsIn->iv,findIn->iG,mg_of->jc,envX->ji,keepIn->jv,excIn->jE,codeIn->jI,fnOf->jQ,kia_one->jU,Looks->j5,emptyDict->j7,ks_superIn->ki,mroIn->kI,instObj->kW,fnX->kY,exmAny->l6,hideAll->mB,methodObj->mM,kitOne->mO,fnIn->mU,plainGet->m8,clsIn->ni,kas_rev_size->nL,of_hideAll->nV,hasDictIn->oi,tabIn->oz,isFn->oR,methodCall_KW->oZ,lookIn->ph,typeIn->pi,looks_findIn->pq,hideAll_get->pI,plainGet_of->pK,looks_clsIn->pL,callWith_of->pR,looks_mroIn->pS,ks_superObj->pT,callWith_K->pZ,isNs_of_in->qe,plainOver->qp,specialIn->qq,takerIn->qO,makesIn->qP,takesIn->qR,OpenLaw->qU,CodeHd->rB,tabObj->rC,ks_loadName_global->rD,MethP->rW,kas_rev->rX,cellsFrom_some->sk,funFrames_hide->su,hideAll_none->sP,looks_opaque->sY,callWith_K0->tm,codeRec_of->tO,tail_of_in->t7,mg_none_of->t9,kitx_list->ue,kitx_dict->uf,handedIn->um,kat_cons->ux,keeps_M->uK,alongIn->uL,kas_place->uN,kat_yes->uO,kat_go->uZ,kat_no->u4,nsOkIn->vc,WalkO->vh
open Nat renaming le_refl->hO,ne_of_lt->im,lt_of_lt_of_le->iz,le_trans->i5,zero_le->jl,ne_of_gt->jA,lt_succ_self->jK,lt_irrefl->kf,le_of_lt_succ->kD,le_succ->mn,le_of_lt->mu,lt_of_le_of_lt->mQ,lt_trans->n9,succ_pos->oa,mod_lt->ou,lt_succ_of_lt->oO,le_add_right->o4,sub_self->pF,le_of_eq->qQ,le_succ_of_le->qY,le_of_not_lt->rr,zero_add->tS,div_lt_of_lt_mul->ut,lt_trichotomy->ve
open List renaming length_map->hR,mem_cons_self->h8,mem_cons_of_mem->ie,length_append->ij,size_toArray->il,mem_append_right->iA,length_singleton->iB,range->iD,length_cons->iE,length_filter_le->iF,map_cons->iI,mem_cons->iK,lookup_cons->iT,mem_append_left->i8,find?_cons->je,filter_cons->jw,not_mem_nil->jx,mem_of_getElem?->jy,getD_eq_getElem?_getD->jD,take_of_length_le->jH,getElem?_eq_getElem->jJ,getElem?_append_right->jP,getElem?_map->jS,mem_filter->jX,pairwise_singleton->kC,map_append->kE,lookup->kO,getElem?_eq_none->kU,length_set->k9,filterMap_cons->lu,replicate->lE,map_map->lN,append_nil->lP,mem_append->lR,length_range->lZ,getElem?_of_mem->mh,length_take->mq,getElem?_append_left->mw,map_congr_left->mE,mem_singleton->mK,filter_congr->m7,perm_append_comm->nj,length_drop->nw,getElem?_set_ne->nN,take_append_of_le_length->nO,length_nil->nQ,nodup_nil->ol,drop_eq_getElem_cons->oA,length->oF,reverse_cons->oG,append_assoc->oK,any_cons->oN,eraseIdx_cons_succ->oT,all_eq_true->oX,getElem?_set_self->o8,map_nil->o9,filterMap_eq_map'->pf,of_mem_zip->pr,all_cons->qt,ext_getElem?->qK,eraseIdxIfInBounds_toArray->qS,any_eq_true->rg,filter_map->rK,getElem?_take_of_lt->sC,findIdx?->sG,getElem?_replicate->sT,getElem?_cons_succ->sX,pairwise_lt_range->tz,length_pos_of_mem->tD,length_replicate->tN,take_append_drop->tR,getElem?_range->uv,filterMap_map->uz,getElem?_take->uA,getElem?_drop->uB,map_filterMap->uC,contains_cons->uM,take_sublist->uS,getElem_mem->vf,drop_length->vi,zipIdx_cons->vj,take_length->vk,getElem_map->vm
open Array renaming length_toList->hZ,getElem?_toList->iX,getElem?_eq_getElem->jG,getD_eq_getD_getElem?->lU,size_map->mX,toList_extract->nJ,toList_append->qb,append_assoc->qo,toList_push->qz,toList->sQ,getElem?_eq_none->sW,find?_toList->ul
open Bool renaming false_ne_true->ig,and_eq_true->iY,eq_iff_iff->kZ,false_eq_true->lM,xor_assoc->oq,and_self->qv,or_eq_true->rL,false_xor->sf,xor_false->sg,or_false->sH,or_true->tF
open PySem.SetTable renaming below->iu,sizeAbove->jb,eraseAt->jk,runEnd->jt,insertAt->ju,bits->jz,leap->kH,fresh->kN,has->kX,turns->lm,fill->lJ,Probe->lV,advance->l9,grown->mJ,laid->oj,freeSlot->qg,layClean->qh,probe->rc,slot->rH,roomFor->ui,fits->uX,road->uY
open PySem.Value renaming ref->iw,type->kB,int->mj,isInt->ny,bool->rN,float->tG
open Sum renaming inl->iJ,inr->qM
open Option renaming isSome_map->iL,getD_none->qI,map->ug
open PySem.F renaming excBase_ValueError->iM,plainAttrs_list->j0,slot_dict_get->kP,slot_list_append->lh,type_list_append->lj,slot_tuple_iterator_next->mz,entry_dict_get->mP,plainAttrs_dict->oJ,plain_list_iadd->oV,plain_set_new->pV,slot_zip_next->pW,plain_extend_loop->qD,slot_dict_delitem->rF,args_dict_get_2->r8,args_dict_get_3->r9,args_tuple_iterator_next_1->sv,slot_dict_pop->sE,type_dict_get->sF,entry_tuple_iterator_next->sJ,slot_list_pop->sM,type_list_pop->sN,entry_proto_collect->uF,plain_proto_collect->uG
open False renaming elim->iO
open List.Pairwise renaming nil->iP,filter->kg,imp->pw,sublist->q7
open Option.some renaming inj->ja
open PySem.SetTable.layClean renaming free->jq
open PySem.Builtin.SmallTypes renaming nextOf->jC,ownedTupleIsFree->kq,ownedTupleHandOut->oo
open PySem.Around renaming under_plainId->jM,under->sA,frames_deeper->tq,under_plain->uk
open PySem.Calls renaming evalArgs_plain->jN,spliced_cons->ko,callWith_builtin->kJ,spliced_nil->lS,loadGlobal_builtin->oC,Name_function_global->rO,call_function_entry->se
open PySem.SetTable.probe renaming go->jW
open Or renaming inl->ku,inr->rG
open PyProof.Rows renaming callWith_type1->ky,boot_list->kA,boot_sorted->kQ,slot_tuple_getitem->kS,IntsAre->lK,seqObj->mS,AllBare->nY,boot_set->oB,envOfC->oY,callWith_builtin1->pU,boot_isinstance->qj,boot_tuple->qV,boot_bool->rh,Subscript_->tP,size_push'->tZ,listUpdate_at->uy,subscriptTail_builtinR->uU
open PySem.Spec renaming sameAll->lq,same->lF
open PySem.Builtin.Slice renaming slicePlaces->lQ,sliceAdjust->qw
open PySem.Builtin.Tuple renaming tupleExact->lX,tupleItemsOf->qr
open Int renaming toNat_natCast->l8,le_refl->nP,emod_lt_of_pos->qH,emod_nonneg->rY
open PySem.Builtin.List renaming listSameRef->md,listExtendWith->qu
open PySem.W.KasT renaming kasWp->mi,kasWp_bind->nS
open PySem.Str renaming ofString->my
open PySem.Heap.SameBut renaming refl->mC,update->oU
open PySem.Shared renaming TypeIs->mD
open PySem.PyData renaming canLayAll0->mV,depthAll->o6,canLay0->pG,eqv->qk,depth->sI
open PySem.SeqAt renaming noMixAll->mY,noMix->pO,shaped->sU
open ForInStep renaming yield->nq
open PySem.SetTable.below renaming go->nI
open Sum.inl renaming inj->oh
open PySem.Code renaming quiet_builtin->om,isFrame->td
open Nat.succ renaming inj->oP
open List.Perm renaming cons->o5,refl->o7,append_left->sd,of_eq->uh
open PyProof.Rows.F renaming plain_set_update_loop->pA,entry_set_update_loop->uj
open PySem.Builtin.Frozenset renaming newClass->pN,oneOther->pP
open String renaming splitOnAux->qx,splitOn->rJ
open PySem.Heap.UpToSlots renaming of_keeps->qE
open Classical renaming byContradiction->rf
open PyProof.Rows.IntsAre renaming int_at->rs,length->rA
open PySem.Heap.IsSliceOf renaming new->rE
open Eq renaming mpr->rM
open PySem.pickOrder renaming go->rR
open PySem.W.Looks renaming ld->sw
open PySem.SeqAt.EqAt renaming int_str->sx,str_int->sy
open PySem.Heap.DictOf renaming new->ts
open PySem.Heap.Ns1 renaming of_empty->tK
open PySem.Data renaming fields->ud
open Function renaming comp->uW
abbrev ci:=@if_neg
abbrev g8:=@if_pos
abbrev io:=@absurd
abbrev iC:=@decide_eq_false
abbrev i4:=@decide_eq_true_eq
abbrev jY:=@of_decide_eq_true
abbrev mH:=@or_false
abbrev pM:=@if_false
abbrev pQ:=@beq_self_eq_true
abbrev qA:=@not_or
abbrev rS:=@bne_self_eq_false
def q0q{p:Prop}(h:p:=by decide):p:=h
def q0d{p:Prop}(h:p:=by omega):p:=h
def q0o{p:Prop}(h:p:=by simp):p:=h
def q0s{p:Prop}(h:p:=by decide +kernel):p:=h
def q0a{p:Prop}(h:p:=by lia):p:=h
namespace L2
open PySem PySem.Spec PyProof.Rows
abbrev Key:=Sum Int Str
noncomputable def AF:Key->cr->Bool
 | .inl k,v=>ny k v
 | .inr x,v=>Value.isStrOf x v
noncomputable def a1K(w:jf):Key->Int
 | .inl k=>nX k
 | .inr x=>hashStr w x
def wE:∀{k:Key} {v:cr},AF k v=true->(∃i t,k=iJ i/\v=mj i t)\/(∃x t,k=qM x/\v=Value.str x t)
 | .inl i,v,h=>by
  obtain⟨t,e⟩:=Value.isInt_shape (k:=i) (v:=v) h;exact .inl #[i,t,rfl,e]
 | .inr x,v,h=>by obtain⟨t,e⟩:=Value.isStrOf_shape (x:=x) (v:=v) h;exact .inr #[x,t,rfl,e]
def NT(i:Int)(t:Tok):AF (.inl i) (.int i t)=true:=by simp[AF,ny]
def NU(x:Str)(t:Tok):AF (.inr x) (.str x t)=true:=by simp[AF,Value.isStrOf]
def Xk(a b:Int):decide ((iJ a:Key)=iJ b)=(a==b):=by
 by_cases e:a=b
 ·subst e;simp
 ·have h:¬(iJ a:Key)=iJ b:=λq=>e<|oh q;rw[iC h];exact(beq_eq_false_iff_ne.mpr e).symm
def Xl(a b:Str):decide ((qM a:Key)=qM b)=decide (a=b):=by
 by_cases e:a=b
 ·subst e;simp
 ·have h:¬(qM a:Key)=qM b:=λq=>e<|Sum.inr.inj q;rw[iC h,iC e]
def Xm(a:Int)(b:Str):decide ((iJ a:Key)=qM b)=false:=iC<|λq=>nomatch q
def Xn(a:Str)(b:Int):decide ((qM a:Key)=iJ b)=false:=iC<|λq=>nomatch q
noncomputable def vX(prog:iN)(w:jf):PySem.KeyKind prog w Key where
 is:=AF
 hash:=a1K w
 inj:=λv a b ha hb=>by
  rcases wE ha with⟨i,t,rfl,rfl⟩|⟨x,t,rfl,rfl⟩
  ·rcases wE hb with⟨j,u,rfl,e⟩|⟨y,u,rfl,e⟩
   ·injection e with e1 _;rw[e1]
   ·exact nomatch e
  ·rcases wE hb with⟨j,u,rfl,e⟩|⟨y,u,rfl,e⟩
   ·exact nomatch e
   ·injection e with e1 _;rw[e1]
 byValue:=λk v h=>by rcases wE h with⟨i,t,rfl,rfl⟩|⟨x,t,rfl,rfl⟩<;>rfl
 pyHash:=λhv h=>by
  rcases wE hv with⟨i,t,rfl,rfl⟩|⟨x,t,rfl,rfl⟩
  ·exact wpAny_pyHash_int h
  ·exact wpAny_pyHash_str h
 eqBool:=λhu hv h=>by
  rcases wE hu with⟨i,t,rfl,rfl⟩|⟨x,t,rfl,rfl⟩
  ·rcases wE hv with⟨j,u,rfl,rfl⟩|⟨y,u,rfl,rfl⟩
   ·rw[Xk]at h;exact si h
   ·rw[Xm]at h;exact sx i t y u _ _ _ _ h
  ·rcases wE hv with⟨j,u,rfl,rfl⟩|⟨y,u,rfl,rfl⟩
   ·rw[Xn]at h;exact sy x t j u _ _ _ _ h
   ·rw[Xl]at h;exact wpAny_eqBool_str h
 «strs»:=λk x t v h=>by
  rcases wE h with⟨i,u,rfl,e⟩|⟨y,u,rfl,e⟩
  ·exact nomatch e
  ·injection e with e1 _;subst e1;cases v<;>rfl
def Jb(a:iN)(w:jf)(i:Int)(t:Tok):(vX a w).is (.inl i) (.int i t)=true:=NT i t
def Jc(a:iN)(w:jf)(x:Str)(t:Tok):(vX a w).is (.inr x) (.str x t)=true:=NU x t
set_option genInjectivity true in
inductive V where
 | wV|bl (b:Bool)|int (i:Int)|str (x:Str)|ME (b:Array UInt8)|Xo (b:UInt64)|ref (a:g9)|ty (n:String)
 deriving DecidableEq
def RelV:V->cr->Prop
 | .wV,u=>u=Value.none
 | .bl b,u=>u=rN b
 | .int i,u=>∃t,u=mj i t
 | .str x,u=>∃t,u=Value.str x t
 | .ME b,u=>∃t,u=Value.bytes b t
 | .Xo b,u=>∃t,u=tG b t
 | .ref a,u=>u=iw a
 | .ty n,u=>u=kB n
abbrev Vals:List V->List cr->Prop:=Paired RelV
def Vals.length{xs:List V}{us:List cr}(r:Vals xs us):xs.length=us.length:=Paired.length r
def Vals.get:∀{a:List V} {b:List cr} {i:Nat} {x:V},Vals a b->a[i]?=↑x->∃u,b[i]?=↑u/\RelV x u:=by
 intro _ _ i x z
 induction z generalizing i with
 |nil=>intro e;simp at e
 |cons r t c =>
  intro e
  cases i with
  |zero=>simp at e;subst e;exact#[_,rfl,r]
  |succ i=>exact e1a2 (c<|by simpa using e) λu d f=>#[u,by simpa using d,f]
def Vals.set(r:RelV x u):∀{a:List V} {b:List cr} (i:Nat),Vals a b->Vals (a.set i x) (b.set i u)
 |_,_,_,.nil=>.nil
 |_,_,0,.cons _ t=>.cons r t
 |_,_,i+1,.cons q t=>.cons q<|Vals.set r i t
def Vals.append:∀{a b:List V} {c d:List cr},Vals a c->Vals b d->Vals (a++b) (c++d):=by
 intro _ _ _ _ z s
 induction z with
 |nil=>exact s
 |cons h t e=>exact .cons h e
def Vals.take:∀{a:List V} {b:List cr} (n:Nat),Vals a b->Vals (a.take n) (b.take n)
 |_,_,0,_=>.nil
 |_,_,_+1,.nil=>.nil
 |_,_,n+1,.cons r t=>.cons r<|Vals.take n t
def Vals.drop:∀{a:List V} {b:List cr} (n:Nat),Vals a b->Vals (a.drop n) (b.drop n)
 |_,_,0,r=>r
 |_,_,_+1,.nil=>.nil
 |_,_,n+1,.cons _ t=>Vals.drop n t
def zW:Option V->Option cr->Prop
 |some v,some u=>RelV v u
 |none,none=>True
 |_,_=>False
def KV{a:Type}:List (a×V)->List (a×cr)->Prop:=Paired λ(p:a×V)(q:a×cr)=>p.1=q.1/\RelV p.2 q.2
noncomputable def kV:Key->V
 | .inl i=>.int i
 | .inr x=>.str x
inductive HO where
 | lst (xs:List V)
 | tup (xs:List V)
 | dK (xP:List (Key×V))|dT (xP:List (List Key×V))
 | set (S:Int->Bool) (n:Nat)
 | ins (C dx:g9) (fs:List (Str×V))
 | own (x:g9)
 | xd (fs:List (Str×V))
 | met (f x:g9)
 | zH (lo hi:Int)
 | Kv (o:Obj) (u:HO)
 | FN (ps:Array cr)
 | ext (φ:i9->Prop)
abbrev Hp:=g9->Option HO
noncomputable def upd(H:Hp)(a:g9)(o:HO):Hp:=λb=>if b=a then some o else H b
def vt:upd H a o a=↑o:=by unfold upd;rw[g8 rfl]
def vo(h:b≠a):upd H a o b=H b:=by unfold upd;rw[ci h]
def T4:upd (upd H a o) a u=upd H a u:=by funext b;unfold upd;split<;>rfl
def ZE{H:Hp}{a b:g9}{o u:HO}(h:H a=↑o)(c:H b=↑u)(d:o≠u):a≠b:=by intro e;subst e;rw[h]at c;exact d<|ja c
def vC{H:Hp}{a b:g9}{o:HO}(h:H a=↑o)(c:H b=none):a≠b:=by intro e;subst e;rw[h]at c;cases c
section
variable(P:iN)(w:jf)
def wA(H:Hp)(h:i9)(a:g9):HO->Prop
 | .lst xs=>xs.length<=hV/\∃(AD:List cr)(n:Nat),Vals xs AD/\h.get? a=some { cls:=.type "list",data:=.seq AD.toArray n}
 | .tup xs=>xs.length<=hV/\∃AD:List cr,Vals xs AD/\IsTup h a AD.toArray
 | .dK xP=>xP.length<=hV/\(a==lG)=false/\∃vs,KV xP vs/\h.DictOf (vX P w) a vs
 | .dT xP=>xP.length<=hV/\(a==lG)=false/\∃xs:List (List Key×g9×cr),
   Paired (λ(p:List Key×V)(q:List Key×g9×cr)=>p.1=q.1/\H q.2.1=↑(.tup<|p.1.map kV)/\RelV p.2 q.2.2) xP xs /\
   ∃o es ep,h.get? a=↑o/\o.ExactDict/\o.data=.dict es ep/\es.toList=xs.map (entryOfKey<|pH<|vX P w)/\(xs.map (·.1)).Nodup
 | .set S n=>h.SetOf (kR P w) a S n
 | .ins C dx fs=>H dx=↑(.own a)/\fs.length<=1000/\dx≠a/\h.get? a=↑(kW C dx) /\
   ∃mA,h.Ns1 dx mA/\(∀f,zW (fs.lookup f)<|mA f)/\sO mA (fs.map (·.1))
 | .own _=>∃o,h.get? a=↑o
 | .xd fs=>∃mA,h.Ns1 a mA/\∀f,zW (fs.lookup f)<|mA f
 | .zH lo hi=>∃t u v,h.get? a=some { cls:=.type "range",data:=.fields #v[.int lo t,.int hi u,.int 1 v]}
 | .Kv o u=>h.get? a=↑o/\wA H h a u
 | .FN ps=>h.get? a=some { cls:=.none,data:=.fields ps}
 | .met f x=>h.get? a=↑(mM (.ref f)<|.ref x)
 | .ext φ=>φ h/\(∃o,h.get? a=↑o)/\∀h1 h2:i9,φ h1->(∀o,h1.get? a=↑o->h2.get? a=↑o)->φ h2
def yA(H:Hp)(h:i9):Prop:=∀a o,H a=↑o->wA P w H h a o
end
def wA.lt(x:wA P w H h a o):a<h.objs.size:=by
 cases o with
 |lst c=>obtain⟨_,_,_,_,e⟩:=x;exact hX e
 |tup c=>obtain⟨_,_,_,p⟩:=x;exact p.lt
 |dK b=>obtain⟨_,_,_,_,o,_,_,e,_⟩:=x;exact hX e
 |dT b=>obtain⟨_,_,_,_,o,_,_,e,_⟩:=x;exact hX e
 |set S n=>obtain⟨o,_,_,_,e,_⟩:=x;exact hX e
 |ins C d fs=>obtain⟨_,_,_,e,_⟩:=x;exact hX e
 |own y=>obtain⟨_,e⟩:=x;exact hX e
 |xd fs=>obtain⟨_,⟨_,_,_,e,_⟩,_⟩:=x;exact hX e
 |zH lo g=>obtain⟨_,_,_,e⟩:=x;exact hX e
 |Kv i u=>obtain⟨e,_⟩:=x;exact hX e
 |FN j=>exact hX<|show h.get? a=some _ from x
 |met f y=>exact hX<|show h.get? a=some _ from x
 |ext k=>obtain⟨_,⟨_,e⟩,_⟩:=x;exact hX e
def Paired.Xp:∀{c:List g} {d:List i},Paired F c d->(∀a b,F a b->G a b)->Paired G c d:=by
 intro _ _ z f
 induction z with
 |nil=>exact .nil
 |cons h t e=>exact .cons (f _ _ h) e
def wA.BP(x:wA P w H h a o)(k:∀b u,(b=a\/H b=↑(.own a))->h.get? b=↑u->F.get? b=↑u)
 (G:∀b,H b=↑(.own a)->D b=↑(.own a))(I:∀b m,H b=↑(.tup m)->D b=↑(.tup m)):wA P w D F a o:=by
  induction o with
  |lst m=>obtain⟨z,l,n,r,e⟩:=x;exact#[z,l,n,r,k _ _ (.inl rfl) e]
  |tup m=>obtain⟨z,l,r,g,e,c⟩:=x;exact#[z,l,r,g,k _ _ (.inl rfl) e,c]
  |dK s=>obtain⟨z,y,J,r,g,i,j,e,c⟩:=x;exact#[z,y,J,r,g,i,j,k _ _ (.inl rfl) e,c]
  |dT s =>
    obtain⟨z,y,m,r,g,i,j,e,c⟩:=x
    exact#[z,y,m,Paired.Xp r λp q z=>#[z.1,I _ _ z.2.1,z.2.2],g,i,j,k _ _ (.inl rfl) e,c]
  |set S n=>obtain⟨g,i,j,t,e,c⟩:=x;exact#[g,i,j,t,k _ _ (.inl rfl) e,c]
  |ins C Q fs =>
    obtain⟨d,z,L,e,A,⟨B,i,j,M,c⟩,r⟩:=x
    exact#[G _ d,z,L,k _ _ (.inl rfl) e,A,#[B,i,j,k _ _ (.inr d) M,c],r]
  |own y=>obtain⟨g,e⟩:=x;exact#[g,k _ _ (.inl rfl) e]
  |xd fs=>obtain⟨A,⟨B,i,j,e,c⟩,r⟩:=x;exact#[A,#[B,i,j,k _ _ (.inl rfl) e,c],r]
  |zH lo R=>obtain⟨t,u,v,e⟩:=x;exact#[t,u,v,k _ _ (.inl rfl) e]
  |Kv g u N=>obtain⟨e,q⟩:=x;exact#[k _ _ (.inl rfl) e,N q]
  |FN O =>
    have e:h.get? a=some { cls:=.none,data:=.fields O}:=x
    exact k a _ (.inl rfl) e
  |met f y =>
    have e:h.get? a=↑(mM (.ref f)<|.ref y):=x
    exact k a _ (.inl rfl) e
  |ext T=>obtain⟨p,⟨o,e⟩,E⟩:=x;exact#[E _ _ p λo q=>k _ _ (.inl rfl) q,#[o,k _ _ (.inl rfl) e],E]
def yA.lt(x:yA P w H h)(e:H a=↑o):a<h.objs.size:=(x a o e).lt
def yA.fresh(x:yA P w H h)(e:h.objs.size<=a):H a=none:=by
 cases q:H a with
 |none=>rfl
 |some u=>exact io (iz (x.lt q) e)<|kf _
def yA.kept(x:yA P w H h)(k:∀b u,h.get? b=↑u->c.get? b=↑u):yA P w H c:=λa o e =>
 (x a o e).BP (λb u _ q=>k b u q) (λ_ q=>q) λ_ _ q=>q
def yA.laid(x:yA P w H h)(k:∀b u,h.get? b=↑u->h'.get? b=↑u)(i:h.objs.size<=a)(d:wA P w (upd H a o) h' a o):yA P w (upd H a o) h':=λb u e=>by
 have f:=x.fresh i;by_cases g:b=a
 ·subst g;rw[vt]at e;cases e;exact d
 ·rw[vo g]at e;exact(x b u e).BP (λc v _ q=>k c v q) (λc q=>by rw[vo<|vC q f];exact q) λc j q=>by rw[vo<|vC q f];exact q
def Rd(H:Hp)(a:g9)(u:HO):Prop:=H a=↑u\/∃o,H a=↑(.Kv o u)
def Rd.of(h:H a=↑u):Rd H a u:=.inl h
def Rd.ok(r:Rd H a u)(x:yA P w H h):wA P w H h a u:=by
 rcases r with r|⟨o,r⟩
 ·exact x a u r
 ·obtain⟨_,q⟩:=x a _ r;exact q
def ZF:Option HO->Prop
 |some (.lst _)=>True
 |some (.dK _)=>True
 |some (.dT _)=>True
 |some (.set _ _)=>True
 |some (.ins _ _ _)=>True
 |some (.ext _)=>True
 |_=>False
def yA.write(t:yA P w H h)(g:ZF (H x))(o:e=x\/H e=↑(.own x))(k:∀b u,b≠e->h.get? b=↑u->h'.get? b=↑u)(m:∃u,h'.get? e=↑u)
 (n:wA P w (upd H x p) h' x p):yA P w (upd H x p) h':=λb u q=>by
  have d:∀c y,H c=↑(.own y)->c≠x:=λc y r z=>by subst z;rw[r]at g;exact g
  have f:∀c i,H c=↑(.tup i)->c≠x:=λc i r z=>by subst z;rw[r]at g;exact g
  by_cases j:b=x
  · subst j; rw[vt]at q; cases q; exact n
  · rw[vo j]at q
    by_cases a:b=e
    · have s : H b = some (.own x) := by
        rcases o with z|z
        · exact io (a.trans z) j
        · rw[a]; exact z
      rw[q]at s;cases s
      obtain⟨v,A⟩:=m
      exact#[v,by rw[a];exact A]
    · refine(t b u q).BP (λc v l r => k c v ?_ r) (λc r => by rw[vo<|d c b r]; exact r) λc i r => by rw[vo<|f c i r]; exact r
      rcases l with rfl|l
      · exact a
      · rintro rfl
        rcases o with z|z
        · exact d c b l z
        · rw[l]at z; cases z; exact j rfl
structure Un(fs ex:List g9)(H H':Hp)(h h':i9):Prop where
 keep:∀b o,h.get? b=↑o->H b=none->b∉fs->b∉ex->h'.get? b=↑o
 slot:∀b o,h.get? b=↑o->H b=none->b∈fs->b∉ex->∃sl,h'.get? b=some { o with slots:=sl}
 free:∀b o,h.get? b=↑o->H b=none->b∉ex->H' b=none
 there:∀b o,h.get? b=↑o->b∉ex->∃o',h'.get? b=↑o'
 Ca:∀b xs,H b=↑(.tup xs)->H' b=↑(.tup xs)
 BQ:∀b o u,H b=↑(.Kv o u)->H' b=↑(.Kv o u)
 BR:∀b ps,H b=↑(.FN ps)->∃more,H' b=↑(.FN<|ps++more)
def Un.any(u:Un fs e H H1 h f)(q:h.get? b=↑a)(n:H b=none)(c:b∉e):∃g,f.get? b=some { a with slots:=g}:=by
 by_cases d:b∈fs
 ·exact u.slot b a q n d c
 ·exact#[a.slots,u.keep b a q n d c]
def Un.trans(a:Un fs ex H H1 h h1)(b:Un fs ex H1 H2 h1 h2):Un fs ex H H2 h h2 where
 keep:=λc ob q n hc hx=>b.keep c ob (a.keep c ob q n hc hx) (a.free c ob q n hx) hc hx
 slot:=λc ob q n hc hx=>by obtain⟨sl,e1⟩:=a.slot c ob q n hc hx;obtain⟨sl',e2⟩:=b.slot c _ e1 (a.free c ob q n hx) hc hx;exact#[sl',e2]
 free:=λc ob q n hx=>by obtain⟨o',e1⟩:=a.there c ob q hx;exact b.free c o' e1 (a.free c ob q n hx) hx
 there:=λc ob q hx=>by obtain⟨o',e1⟩:=a.there c ob q hx;exact b.there c o' e1 hx
 Ca:=λc xs q=>b.Ca c xs<|a.Ca c xs q
 BQ:=λc ob xs q=>b.BQ c ob xs<|a.BQ c ob xs q
 BR:=λc ps q=>by obtain⟨m1,e1⟩:=a.BR c ps q;obtain⟨m2,e2⟩:=b.BR c _ e1;exact#[m1++m2,by rw[e2,qo]]
def Un.kept(k:∀b u,h.get? b=↑u->c.get? b=↑u):Un fs d H H h c :=
 #[λb a q _ _ _=>k b a q,λb a q _ _ _=>#[a.slots,k b a q],λ_ _ _ n _=>n,λb a q _=>#[a,k b a q],λ_ _ q=>q,λ_ _ _ q=>q,λ_ e q=>#[#v[],by rw[q];simp]]
def Un.refl:Un fs a H H h h:=Un.kept λ_ _ q=>q
def Un.laid(k:∀b u,h.get? b=↑u->h'.get? b=↑u)(hp:h.objs.size<=a)(hn:H a=none):Un fs ex H (upd H a o) h h' where
 keep:=λb u q _ _ _=>k b u q
 slot:=λb u q _ _ _=>#[u.slots,k b u q]
 free:=λb u q n _=>by rw[vo<|im<|iz (hX q) hp];exact n
 there:=λb u q _=>#[u,k b u q]
 Ca:=λb xs q=>by rw[vo<|vC q hn];exact q
 BQ:=λb u xs q=>by rw[vo<|vC q hn];exact q
 BR:=λb ps q=>#[#v[],by rw[vo<|vC q hn,q];simp]
def Un.write(c:ZF (H x))(j:e=x\/H e=↑(.own x))(k:∀b u,b≠e->h.get? b=↑u->h'.get? b=↑u)(d:∃u,h'.get? e=↑u):Un fs p H (upd H x o) h h':=by
 have g:∀b,H b=none->b≠x:=λb n z=>by subst z;rw[n]at c;exact c
 have i:∀b,H b=none->b≠e:=λb n z=>by
  subst z;rcases j with r|r
  ·exact g b n r
  ·rw[n]at r;cases r
 have f:∀b u,H b=↑u->¬ZF ↑u->b≠x:=λb u q l z=>by subst z;rw[q]at c;exact l c
 refine#[λb u q n _ _=>k b u (i b n) q,λb u q n _ _=>#[u.slots,k b u (i b n) q],λb u q n _=>by rw[vo (g b n)];exact n,λb u q _=>?_,
  λb m q=>by rw[vo (f b _ q λz=>z)];exact q,λb u m q=>by rw[vo (f b _ q λz=>z)];exact q,λb s q=>#[#v[],by rw[vo (f b _ q λz=>z),q];simp]]
 by_cases a:b=e
 ·subst a;exact d
 ·exact#[u,k b u a q]
noncomputable def trk(h:i9)(H:Hp):List g9:=(iD h.objs.size).filter λa=>(H a).isSome
noncomputable def Jd(h:i9)(H:Hp):i9:=mB h<|trk h H
def NW(h:i9)(H:Hp):(Jd h H).objs.size=h.objs.size:=PySem.W.hideAll_size _ _
def Ep{h:i9}(e:h.get? b=↑o)(n:H b=none):(Jd h H).get? b=↑o :=
 pI _ e λa=>by have q:(H b).isSome=true:=(List.mem_filter.mp a).2;rw[n]at q;simp at q
def T5(e:(Jd h H).get? b=↑o):h.get? b=↑o/\H b=none:=by
 have a:h.get? b=↑o:=nV (trk h H) e;refine#[a,?_]
 cases q:H b with
 |none=>rfl
 |some x =>
  have c:b∈trk h H:=List.mem_filter.mpr #[List.mem_range.mpr<|hX a,by simp[q]];have z:(Jd h H).get? b=none:=sP (trk h H) c;rw[z]at e;cases e
noncomputable def T6(g h:i9)(L:g9):List (g9×Obj):=(iD h.objs.size).filterMap λa=>if a=L\/(g.get? a).isSome=true then none else (h.get? a).map λo=>(a,o)
noncomputable def rest(g h:i9)(L d:g9):List (g9×Obj):=(T6 g h L).filter λp=>decide<|p.1≠d
structure Mod(K:hI)(mg:Str->Option cr)(base:i9):Prop where
 B8:K.In base
 glob:base.Ns iq mg
 blt:∃mb,base.Ns oQ mb/\∀x:Str,x≠"__name__"->mb x=nA x
 nolimit:base.NoLimit
structure Cx where
 prog:iN
 w:jf
 K:hI
 mg:Str->Option cr
 base:i9
 A:jL
 N:List Str
 s₀:hW
 H₀:Hp
 env:Env
 outer:List Env
 stack:List Env
 ex:List g9
 fn:Str->Bool
 calm:Bool
 pn:List (g9×Obj)
 xe:cr->hW->Prop
noncomputable def zU(l:List Env):List g9:=l.filterMap (·.frame)
noncomputable abbrev Cx.fs(X:Cx):List g9:=zU X.outer
def Vis(a:mF)(x:Str):Prop:=a.names.lookup x=some .local\/a.names.lookup x=some .cell\/a.names.lookup x=some .free
def Loc(a:mF)(x:Str):Prop:=a.names.lookup x=some .local\/a.names.lookup x=some .cell
def Look(a:Env)(h:i9)(m:Str->Option cr)(x:Str)(u:cr):Prop :=
 (a.kindOf x=some .local/\m x=↑u)\/((a.kindOf x=some .cell\/a.kindOf x=some .free)/\∃c,a.cells.lookup x=↑c/\h.IsCell c ↑u)
structure Cx.Ok(X:Cx):Prop where
 mod:Mod X.K X.mg X.base
 kind:X.env.scope.kind=.function
 glob:X.env.globals=iq
 blt:X.env.builtins=oQ
 above:X.s₀.heap.objs.size<=X.env.locals
 inj:∀x y c,X.env.cells.lookup x=↑c->X.env.cells.lookup y=↑c->x=y
 has:∀x,(X.env.kindOf x=some .cell\/X.env.kindOf x=some .free)->∃c,X.env.cells.lookup x=↑c
 Pw:∀x c,X.fn x=true->X.env.cells.lookup x=↑c->X.s₀.heap.objs.size<=c
 hd:X.calm=true->X.A.handled=none
 frames:X.A.frames=↑X.stack
 CW:X.stack=X.outer\/(X.stack=X.env::X.outer/\X.env.frame=↑X.env.locals)
 T7:∀b∈X.ex,b≠X.env.locals/\∀x c,X.env.cells.lookup x=↑c->c≠b
 bs:∀b o,X.base.get? b=↑o->X.s₀.heap.get? b=↑o/\X.H₀ b=none
 Je:X.base.objs.size<=X.s₀.heap.objs.size
 DO:∀b o,X.base.get? b=↑o->b∉X.ex
 Er:∀b∈X.ex,b∉X.fs
 zc:X.s₀.heap.FunFrames X.base X.outer
 Kq:∀b∈X.fs,X.H₀ b=none
structure Inv(X:Cx)(pins:List (g9×Obj))(σ:List (Option V))(H:Hp)(s:hW):Prop where
 ok:X.Ok
 os:s.os=X.s₀.os
 bare:nY s.gens
 base:Un X.fs X.ex X.H₀ H X.s₀.heap s.heap
 loc:∃m,s.heap.Ns X.env.locals m/\∀(i:Nat)(x:Str)(v:V),X.N[i]?=↑x->σ[i]?=↑(some v)->Vis X.env.scope x->∃u,RelV v u/\Look X.env s.heap m x u
 cell:∀x c,X.env.cells.lookup x=↑c->∃v,s.heap.IsCell c v
 free:H X.env.locals=none
 yT:∀x c,X.env.cells.lookup x=↑c->H c=none
 pin:∀p∈X.pn++pins,s.heap.get? p.1=↑p.2/\H p.1=none/\p.1≠X.env.locals/\p.1∉X.fs/\∀v,p.2.data≠.cell v
 wg:yA X.prog X.w H s.heap
 len:σ.length=X.N.length
section
variable{X:Cx}{pins:List (g9×Obj)}{σ:List (Option V)}{H H':Hp}{s:hW}
def Cx.Ok.a1N(a:X.Ok)(e:X.base.get? b=↑o):b∉X.fs:=λc=>by have:=(a.zc.mem c).1;rw[e]at this;cases this
def Inv.bs(I:Inv X pins σ H s):∀b o,X.base.get? b=↑o->s.heap.get? b=↑o/\H b=none:=λb o e =>
 #[I.base.keep b o (I.ok.bs b o e).1 (I.ok.bs b o e).2 (I.ok.a1N e)<|I.ok.DO b o e,I.base.free b o (I.ok.bs b o e).1 (I.ok.bs b o e).2<|I.ok.DO b o e]
def Inv.bk(I:Inv X pins σ H s):∀b o,X.base.get? b=↑o->s.heap.get? b=↑o:=λb o e=>(I.bs b o e).1
def Inv.mod(I:Inv X pins σ H s):Mod X.K X.mg X.base:=I.ok.mod
def Inv.zl(I:Inv X pins σ H s):X.K.In s.heap:=I.ok.mod.B8.keeps I.bk
def Inv.nolimit(I:Inv X pins σ H s):s.heap.NoLimit:=I.ok.mod.nolimit.keeps I.bk
def Inv.lt(I:Inv X pins σ H s):X.env.locals<⇑s:=e1a2 I.loc λ_ a _=> a.lt
def Inv.sz(I:Inv X pins σ H s):X.s₀.heap.objs.size<=⇑s:=i5 I.ok.above<|mu I.lt
def Inv.a1O(I:Inv X pins σ H s)(h:⇑s<=a):a∉X.fs:=λb=>by obtain⟨_,o,c,_⟩:=I.ok.zc.mem b;exact io (iz (hX c)<|i5 I.sz h)<|kf _
def Inv.cne(I:Inv X pins σ H s):∀x c,X.env.cells.lookup x=↑c->c≠X.env.locals:=λx c e z=>by refine e2a2 (I.cell x c e) λv o d f=>?_;obtain⟨m,⟨g,h,i,a,b,_⟩,_⟩:=I.loc;rw[z,a]at d;cases d;rw[b]at f;cases f
def Inv.zc(I:Inv X pins σ H s):s.heap.FunFrames X.base X.outer:=by
 have a:∀(l:List Env),(∀b∈zU l,b∈X.fs)->X.s₀.heap.FunFrames X.base l->s.heap.FunFrames X.base l:=by
  intro l
  induction l with
  |nil=>intro _ _;trivial
  |cons h r i =>
   intro g j;obtain⟨k,⟨L,o,c,m,n,p⟩,q⟩:=j;have d:L∈X.fs:=g L (by unfold zU;rw[lu,c];exact h8);obtain⟨t,e⟩:=I.base.slot L o n (I.ok.Kq L d) d λz=>I.ok.Er L z d;exact#[k,#[L,_,c,m,e,p],i (λb f=>g b<|by unfold zU;rw[lu,c];exact ie _ f) q]
 exact a X.outer (λ_ f=>f) I.ok.zc
def Inv.stack(I:Inv X pins σ H s):s.heap.FunFrames X.base X.stack:=by
 rcases I.ok.CW with e|⟨e,a⟩
 ·rw[e];exact I.zc
 ·rw[e];refine e1a2 I.loc λm b _=>?_;refine .cons (by rw[I.ok.kind];decide) a b ?_ I.zc;exact nM<|i5 I.ok.Je I.ok.above
def Inv.Es(I:Inv X pins σ H s):∀b∈zU X.stack,b∈X.env.locals::X.fs:=λb a=>by
 rcases I.ok.CW with e|⟨e,c⟩
 ·rw[e]at a;exact ie _ a
 ·rw[e]at a;unfold zU at a;rw[lu,c]at a;exact a
def Inv.MF(I:Inv X pins σ H s):∀b∈zU X.stack,H b=none:=λb a=>by
 rcases List.mem_cons.mp (I.Es b a) with e|a
 ·rw[e];exact I.free
 ·obtain⟨_,o,c,_⟩:=I.ok.zc.mem a;exact I.base.free b o c (I.ok.Kq b a) λz=>I.ok.Er b z a
def Inv.step{g':Array pJ}{t':Nat}{ch:List g9}(I:Inv X pins σ H s)
 (g:∀b∈ch,(b∈X.ex\/X.s₀.heap.objs.size<=b)/\b≠X.env.locals/\(∀x c,X.env.cells.lookup x=↑c->c≠b)/\∀p∈X.pn++pins,p.1≠b)
 (h:∀b o,b≠X.env.locals->b∉X.fs->b∉ch->s.heap.get? b=↑o->H b=none->h'.get? b=↑o)
 (B:∀b o,b≠X.env.locals->b∈X.fs->b∉ch->s.heap.get? b=↑o->H b=none->∃R,h'.get? b=some { o with slots:=R}) (f:∀b o,b∉ch->s.heap.get? b=↑o->H b=none->H' b=none)
 (D:∀b o,b∉ch->s.heap.get? b=↑o->∃G,h'.get? b=↑G)
 (J:∀b C,H b=↑(.tup C)->H' b=↑(.tup C)) (L:∀b o u,H b=↑(.Kv o u)->H' b=↑(.Kv o u)) (M:∀b Q,H b=↑(.FN Q)->∃N,H' b=↑(.FN<|Q++N))
 (ns:∀m,s.heap.Ns X.env.locals m->h'.Ns X.env.locals m) (S:yA X.prog X.w H' h') (hg:nY g') :
    Inv X pins σ H' { s with heap:=h',gens:=g',drawn:=d',toks:=t'}:=by
  have O:∀b o,X.s₀.heap.get? b=↑o->b≠X.env.locals:=λb o e=>im<|iz (hX e) I.ok.above
  have y:∀b o,X.s₀.heap.get? b=↑o->b∉X.ex->b∉ch:=λb o e a E=>by
    rcases(g b E).1 with z|z
    · exact a z
    · exact io (iz (hX e) z)<|kf _
  have j:∀x c,X.env.cells.lookup x=↑c->∀v,s.heap.IsCell c v->h'.IsCell c v:=λx c e v z9=>e1a2 z9 λo F T=>by
    have t:c∉ch:=λz=>(g c z).2.2.1 x c e rfl
    by_cases W:c∈X.fs
    · obtain⟨R, q⟩ := B c o (I.cne x c e) W t F (I.yT x c e)
      exact#[_,q,T]
    · exact#[o, h c o (I.cne x c e) W t F<|I.yT x c e, T]
  refine#[I.ok,I.os,hg,#[λb o e n E a=>?_,λb o e n E a=>?_,λb o e n a=>?_,λb o e a=>?_,λb C e=>J b C<|I.base.Ca b C e,λb o C e=>L b o C<|I.base.BQ b o C e,λb Q e=>?_],?_,λx c e=>?_,?_,λx c e=>?_,λp Y=>?_,S,I.len]
  · exact h b o (O b o e) E (y b o e a) (I.base.keep b o e n E a)<|I.base.free b o e n a
  · obtain⟨R, A⟩ := I.base.slot b o e n E a
    obtain⟨U,P⟩:=B b _ (O b o e) E (y b o e a) A<|I.base.free b o e n a
    exact#[U,P]
  · obtain⟨G, A⟩ := I.base.there b o e a
    exact f b G (y b o e a) A<|I.base.free b o e n a
  · obtain⟨G, A⟩ := I.base.there b o e a
    exact D b G (y b o e a) A
  · obtain⟨m1, A⟩ := I.base.BR b Q e
    obtain⟨m2,P⟩:=M b _ A
    exact#[m1++m2,by rw[P,qo]]
  · refine e1a2 I.loc λm hn hl => ?_
    refine#[m,ns m hn,λi x v A P e3=>?_]
    refine e1a2 (hl i x v A P e3) λu r l=>?_
    refine#[u,r,?_]
    rcases l with l|⟨k,c,e,z⟩
    · exact .inl l
    · exact .inr #[k, c, e, j x c e _ z]
  · obtain⟨v, z⟩ := I.cell x c e
    exact#[v,j x c e v z]
  · obtain⟨m, ⟨o, _, _, F, _⟩, _⟩ := I.loc
    exact f _ o (λz=>(g _ z).2.1 rfl) F I.free
  · refine e2a2 (I.cell x c e) λv o F T => ?_
    exact f c o (λz=>(g c z).2.2.1 x c e rfl) F<|I.yT x c e
  · obtain⟨e, n, Z, nf, d⟩ := I.pin p Y
    have t:p.1∉ch:=λz=>(g p.1 z).2.2.2 p Y rfl
    exact#[h p.1 p.2 Z nf t e n,f p.1 p.2 t e n,Z,nf,d]
def Inv.un{t':Nat}(I:Inv X pins σ H s)(u:Un X.fs [] H H' s.heap h')(c:yA X.prog X.w H' h'):Inv X pins σ H' { s with heap:=h',toks:=t'}:=by
 obtain⟨m,⟨o,l,p,h,r⟩,_⟩:=id I.loc;obtain⟨q,i⟩:=u.any h I.free q0o
 exact I.step (g':=s.gens) (d':=s.drawn) (ch:=[]) (λ_ z=>nomatch z) (λb o _ d _ e n=>u.keep b o e n d q0o) (λb o _ d _ e n=>u.slot b o e n d q0o) (λb o _ e n=>u.free b o e n q0o) (λb o _ e=>u.there b o e q0o) u.Ca u.BQ u.BR (λt j=>by
  refine e3a2 j λv f g a k=>?_;rw[h]at a;cases a
  exact#[_,f,g,i,k]) c I.bare
def Inv.call{g':Array pJ}{t':Nat}{ch:List g9}(I:Inv X pins σ H s)(u:Un (zU X.stack) ch H H' s.heap h')(g:yA X.prog X.w H' h')(l:nY g')
 (d:∀b∈ch,(b∈X.ex\/X.s₀.heap.objs.size<=b)/\b≠X.env.locals/\(∀x c,X.env.cells.lookup x=↑c->c≠b)/\∀p∈X.pn++pins,p.1≠b) :
    Inv X pins σ H' { s with heap:=h',gens:=g',drawn:=d',toks:=t'}:=by
  obtain⟨m,⟨o,y,A,k,r⟩,_⟩:=id I.loc
  obtain⟨B,h⟩:=u.any k I.free λz=>(d _ z).2.1 rfl
  exact I.step (ch:=ch) d (λb o h q a e n=>u.keep b o e n (λz=>(List.mem_cons.mp (I.Es b z)).elim h q) a) (λb o _ _ a e n=>u.any e n a) (λb o a e n=>u.free b o e n a) (λb o a e=>u.there b o e a) u.Ca u.BQ u.BR (λC t=>by
    refine e3a2 t λD i j f v=>?_
    rw[k]at f;cases f
    exact#[_,i,j,h,v]) g l
def Inv.turned{t':Nat}(I:Inv X pins σ H s)(k:∀b o,b≠a->s.heap.get? b=↑o->h.get? b=↑o)(i:H a=none)(g:a≠X.env.locals)
 (j:a∈X.ex\/X.s₀.heap.objs.size<=a)(l:∀x c,X.env.cells.lookup x=↑c->c≠a)(t:∀p∈X.pn++pins,p.1≠a):Inv X pins σ H { s with heap:=h,toks:=t'}:=by
  have f:∀b u,H b=↑u->b≠a:=λb u e z=>by rw[z,i]at e;cases e
  refine I.step (g':=s.gens) (d':=s.drawn) (ch:=[a]) (λb w=>?_) (λb o _ _ d e _=>k b o (λz=>d<|by simp[z]) e) (λb o _ _ d e _=>#[o.slots,k b o (λz=>d<|by simp[z]) e]) (λ_ _ _ _ n=>n)
    (λb o d e=>#[o,k b o (λz=>d<|by simp[z]) e]) (λ_ _ e=>e) (λ_ _ _ e=>e) (λb D e=>#[#v[],by rw[e];simp]) (λm y=>?_) (λb u e=>?_) I.bare
  · have e : b = a := by simpa using w
    subst e
    exact#[j,g,l,t]
  · refine e3a2 y λo A B C r => ?_
    exact#[o,A,B,k _ o (Ne.symm g) C,r]
  · refine(I.wg b u e).BP (λc v d q => k c v ?_ q) (λ_ q => q) λ_ _ q => q
    rcases d with z|z
    · rw[z]; exact f b u e
    · exact f c _ z
def Inv.tok(I:Inv X pins σ H s)(t:Nat):Inv X pins σ H { s with toks:=t}:=I.un (h':=s.heap) (t':=t) Un.refl I.wg
def Inv.kept{t':Nat}(I:Inv X pins σ H s)(k:∀b u,s.heap.get? b=↑u->a.get? b=↑u):Inv X pins σ H { s with heap:=a,toks:=t'}:=I.un (Un.kept k)<|I.wg.kept k
def Inv.laid{t':Nat}(I:Inv X pins σ H s)(k:∀b u,s.heap.get? b=↑u->h'.get? b=↑u)(c:⇑s<=a)(d:wA X.prog X.w (upd H a o) h' a o) :
  Inv X pins σ (upd H a o) { s with heap:=h',toks:=t'}:=I.un (Un.laid k c<|I.wg.fresh c)<|I.wg.laid k c d
def Inv.write{t':Nat}(I:Inv X pins σ H s)(d:ZF (H x))(f:e=x\/H e=↑(.own x))(k:∀b u,b≠e->s.heap.get? b=↑u->h'.get? b=↑u)(a:∃u,h'.get? e=↑u)
 (c:wA X.prog X.w (upd H x o) h' x o):Inv X pins σ (upd H x o) { s with heap:=h',toks:=t'}:=I.un (Un.write d f k a)<|I.wg.write d f k a c
def Inv.zX(I:Inv X pins σ H s)(h:∀p∈pins',s.heap.get? p.1=↑p.2/\H p.1=none/\p.1≠X.env.locals/\p.1∉X.fs/\∀v,p.2.data≠.cell v):Inv X pins' σ H s :=
 #[I.ok,I.os,I.bare,I.base,I.loc,I.cell,I.free,I.yT,λp a=>(List.mem_append.mp a).elim (λz=>I.pin p<|i8 _ z)<|h p,I.wg,I.len]
def Jf{N:List Str}(c:N.Nodup){i j:Nat}(a:N[i]?=↑x)(b:N[j]?=↑x):i=j:=by obtain⟨f,d⟩:=List.getElem?_eq_some_iff.mp a;obtain⟨g,e⟩:=List.getElem?_eq_some_iff.mp b;exact(List.getElem_inj c).mp<|d.trans e.symm
def Ge{E:cr->hW->Prop}{i:Nat}{Q:Unit->hW->Prop}(I:Inv X pins σ H s)(hN:X.N.Nodup)(S:X.N[i]?=↑x)(B:Loc X.env.scope x)(r:RelV v u)
 (h:∀s',Inv X pins (σ.set i<|↑v) H s'->(∃a,jj a s.heap s'.heap/\(a=X.env.locals\/X.env.cells.lookup x=↑a))->Q () s')(hf:X.fn x=true\/X.env.scope.names.lookup x=some .local:=by first|exact .inl rfl|exact .inr rfl|assumption):ic M A (storeName X.env x u) Q E s:=by
  refine e1a2 (id I.loc) λm hn hl=>?_
  have T:(X.env.scope.kind==.class||(X.env.scope.kind==.module&&X.env.locals != X.env.globals))=false:=by rw[I.ok.kind];rfl
  have F:i<σ.length:=by rw[I.len];exact(List.getElem?_eq_some_iff.mp S).1
  have J:=I.cne
  have g:∀{a:g9} {R:i9},(∃o,s.heap.get? a=↑o/\H a=none)->jj a s.heap R->yA X.prog X.w H R:=λ{a R} ha f b ob e=>by
    refine e1a2 ha λ_ _ C=>?_
    refine(I.wg b ob e).BP (λc w' t q=>(f.2 c ?_).trans q) (λ_ q=>q) λ_ _ q=>q
    rintro rfl
    rcases t with rfl|t
    · rw[C]at e; cases e
    · rw[C]at t; cases t
  rcases B with G|G
  · refine wpAny_storeName_local G hn (λR aa f => ?_) T
    refine e3a2 (id hn) λoL _ _ ab _=>?_
    refine h _ #[I.ok,I.os,I.bare,#[λb o e n L B=>?_,λb o e n L B=>?_,I.base.free,λb o e B=>?_,I.base.Ca,I.base.BQ,I.base.BR],#[_,aa,λj y v' l D e3=>?_],λy c e=>?_,I.free,I.yT,λp hp=>?_,g #[oL,ab,I.free] f,by simpa using I.len] #[_,f,.inl rfl]
    · exact(f.2 b<|im<|iz (hX e) I.ok.above).trans<|I.base.keep b o e n L B
    · obtain⟨sl, l⟩ := I.base.slot b o e n L B
      exact#[sl,(f.2 b<|im<|iz (hX e) I.ok.above).trans l]
    · obtain⟨o', l⟩ := I.base.there b o e B
      exact#[o',(f.2 b<|im<|iz (hX e) I.ok.above).trans l]
    · by_cases O : j = i
      · subst O
        rw[S]at l;cases l
        rw[o8 F]at D
        cases D
        exact#[u,r,.inl #[G,q0o]]
      · rw[nN<|Ne.symm O]at D
        refine e1a2 (hl j y v' l D e3) λu' r' q=>?_
        refine#[u',r',?_]
        rcases q with⟨k,e⟩|⟨k,c,e,z⟩
        · refine .inl #[k, ?_]
          have:y≠x:=λe=>O<|Jf hN l<|e▸S
          simp[this,e]
        · exact .inr #[k, c, e, z.sameBut f<|J y c e]
    · obtain⟨w', z⟩ := I.cell y c e
      exact#[w',z.sameBut f<|J y c e]
    · obtain⟨e, n, ne, nf, d⟩ := I.pin p hp
      exact#[(f.2 p.1 ne).trans e,n,ne,nf,d]
  · have P : X.fn x = true := by
      rcases hf with z|z
      · exact z
      · rw[z]at G; cases G
    obtain⟨c,t⟩:=I.ok.has x<|.inl G
    obtain⟨w',z⟩:=I.cell x c t
    refine wpAny_storeName_cell I.ok.kind G t z<|λR U f=>?_
    refine e1a2 (id z) λoc W Y=>?_
    refine h { s with heap:=R} #[I.ok,I.os,I.bare,#[λb o e n L B=>?_,λb o e n L B=>?_,I.base.free,λb o e B=>?_,I.base.Ca,I.base.BQ,I.base.BR],#[m,hn.sameBut f<|Ne.symm<|J x c t,λj y v' l D e3=>?_],λy c' e=>?_,I.free,I.yT,λp hp=>?_,g #[oc,W,I.yT x c t] f,by simpa using I.len] #[c,f,.inr t]
    · exact(f.2 b<|im<|iz (hX e)<|I.ok.Pw x c P t).trans<|I.base.keep b o e n L B
    · obtain⟨sl, l⟩ := I.base.slot b o e n L B
      exact#[sl,(f.2 b<|im<|iz (hX e)<|I.ok.Pw x c P t).trans l]
    · obtain⟨o', l⟩ := I.base.there b o e B
      exact#[o',(f.2 b<|im<|iz (hX e)<|I.ok.Pw x c P t).trans l]
    · by_cases O : j = i
      · subst O
        rw[S]at l;cases l
        rw[o8 F]at D
        cases D
        exact#[u,r,.inr #[.inl G,c,t,U]]
      · rw[nN<|Ne.symm O]at D
        refine e1a2 (hl j y v' l D e3) λu' r' q=>?_
        refine#[u',r',?_]
        rcases q with q|⟨k,c',e,z'⟩
        · exact .inl q
        · refine .inr #[k, c', e, z'.sameBut f ?_]
          rintro rfl
          exact O<|Jf hN l<|I.ok.inj _ _ _ e t▸S
    · by_cases Z : c' = c
      · subst Z; exact#[_, U]
      · obtain⟨w2, z2⟩ := I.cell y c' e
        exact#[w2,z2.sameBut f Z]
    · obtain⟨e, n, ne, nf, d⟩ := I.pin p hp
      refine#[(f.2 p.1 ?_).trans e,n,ne,nf,d]
      intro q
      rw[q,W]at e
      have q':oc=p.2:=ja e
      exact d w' (by rw[<- q'];exact Y)
def Jg{i:Nat}(I:Inv X pins σ H s)(b:X.N.Nodup)(c:X.N[i]?=↑x)(d:Loc X.env.scope x)(r:RelV v u)
 (h:∀a,Inv X pins (σ.set i<|↑v) H a->Q () a)(e:X.fn x=true\/X.env.scope.names.lookup x=some .local:=by first|exact .inl rfl|exact .inr rfl|assumption):ic M A (storeName X.env x u) Q E s :=
  Ge I b c d r (λa f _=>h a f) e
def Inv.WB{a:hW}(I:Inv X pins σ H s)(g:a.os=s.os)(u:Un (zU X.stack) ch H H' s.heap a.heap)(d:yA X.prog X.w H' a.heap)(h:nY a.gens)
 (f:∀b∈ch,(b∈X.ex\/X.s₀.heap.objs.size<=b)/\b≠X.env.locals/\(∀x c,X.env.cells.lookup x=↑c->c≠b)/\∀p∈X.pn++pins,p.1≠b):Inv X pins σ H' a:=by
  obtain⟨m,i,j,k,l⟩:=a
  have e:l=s.os:=g
  subst e
  exact I.call (g':=i) (t':=k) (d':=j) u d h f
end
abbrev XK:=cr->Option g9->Hp->Prop
abbrev St:=List<|Option V
abbrev VK:=V->Hp->Prop
abbrev TE:=St->Hp->VK->Prop
abbrev TT:=St->Hp->(Bool->Hp->Prop)->Prop
abbrev TA:=St->Hp->(List V->Hp->Prop)->Prop
structure Ends where
 nx:St->Hp->Prop
 rt:VK
 bk:St->Hp->Prop:=λ_ _=>False
 ct:St->Hp->Prop:=λ_ _=>False
abbrev TS:=Ends->St->Hp->Prop
def EP(X:Cx)(a:List (g9×Obj))(c:St)(Q:VK)(u:cr)(d:hW):Prop:=∃v b,Inv X a c b d/\RelV v u/\Q v b
def TP(X:Cx)(a:List (g9×Obj))(d:St)(Q:Bool->Hp->Prop)(b:Bool)(e:hW):Prop:=∃c,Inv X a d c e/\Q b c
def AP(X:Cx)(a:List (g9×Obj))(d:St)(Q:List V->Hp->Prop)(e:List cr)(f:hW):Prop:=∃b c,Inv X a d c f/\Vals b e/\Q b c
def SP(X:Cx)(b:List (g9×Obj))(D:Ends)(f:Flow)(d:hW):Prop :=
 match f with
 | .next=>∃a c,Inv X b a c d/\D.nx a c
 | .brk=>∃a c,Inv X b a c d/\D.bk a c
 | .cont=>∃a c,Inv X b a c d/\D.ct a c
 | .ret u=>∃v a c,Inv X b a c d/\RelV v u/\D.rt v c
def PE(X:Cx)(e:iV)(t:TE):Prop :=
 ∀(a:List (g9×Obj)) (s:hW) (b:St) (H:Hp) (Q:VK),Inv X a b H s->t b H Q->ic 54 X.A (eval e X.env) (EP X a b Q) X.xe s
def PT(X:Cx)(e:iV)(t:TT):Prop :=
 ∀(a:List (g9×Obj)) (s:hW) (b:St) (H:Hp) (Q:Bool->Hp->Prop),Inv X a b H s->t b H Q->ic 54 X.A (rj e X.env<|eval e X.env) (TP X a b Q) X.xe s
def PW(X:Cx)(e:iV)(t:TT):Prop :=
 ∀(b:Sem cr) (a:List (g9×Obj)) (s:hW) (c:St) (H:Hp) (Q:Bool->Hp->Prop),Inv X a c H s->t c H Q->ic 54 X.A (rj e X.env b) (TP X a c Q) X.xe s
def PW.pt(h:PW X e t):PT X e t:=h _
def PA(X:Cx)(d:List iV)(t:TA):Prop :=
 ∀(b:Pos) (a:List (g9×Obj)) (s:hW) (c:St) (H:Hp) (Q:List V->Hp->Prop),Inv X a c H s->t c H Q->ic 54 X.A (uP<|jB b<|hJ d X.env) (AP X a c Q) X.xe s
def PS(X:Cx)(c:iH)(t:TS):Prop :=
 ∀(a:List (g9×Obj)) (s:hW) (b:St) (H:Hp) (D:Ends),Inv X a b H s->t D b H->ic 54 X.A (exec c X.env) (SP X a D) X.xe s
def FP(X:Cx)(c:List iH)(t:TS):Prop :=
 ∀(a:List (g9×Obj)) (s:hW) (b:St) (H:Hp) (D:Ends),Inv X a b H s->t D b H->ic 54 X.A (execs c X.env) (SP X a D) X.xe s
def wc{b:Type}{t:Sem b}{Q c:b->hW->Prop}{M:Model}{A:jL}{E:cr->hW->Prop}{s:hW}(h:ic M A t Q E s)(d:∀a s,Q a s->c a s):ic M A t c E s:=jm h d λ_ _ x=>x
section
variable{X:Cx}
def vW(i:Nat):TE:=λa H Q=>∃v,a[i]?=↑(some v)/\Q v H
def tC(v:V):TE:=λ_ H Q=>Q v H
def Kw{i:Nat}(n:X.N[i]?=↑x)(o:Vis X.env.scope x)(g:(x==66)=false:=by decide)(j:(x==("__classdict__":Str))=false:=by decide):PE X 101 (vW i):=by
 intro f s p H Q I h;refine e1a2 h λv e h=>?_;refine e1a2 I.loc λm q t=>?_;refine e1a2 (t i x v n e o) λu r l=>?_;have b:EP X f p Q u s:=#[v,H,I,r,h];rcases l with⟨d,w⟩|⟨d,c,k,a⟩
 ·exact pX (lv I.ok.kind d q w b) g
 ·rcases d with d|d
  ·exact pX (wpAny_loadName_cell I.ok.kind d k a b) g
  ·exact pX (qN I.ok.kind d k a b j) g
def vQ{i j pos}:PE X (.Constant (.int i) j pos) (tC<|.int i):=λ_ _ _ H _ I h=>wpAny_Constant_int #[.int i,H,I.tok _,#[_,rfl],h]
def ZG{b j pos}:PE X (.Constant (.bool b) j pos) (tC<|.bl b):=λ_ _ _ H _ I h=>Constant_bool #[.bl b,H,I,rfl,h]
def Kx{j pos}:PE X (.Constant .none j pos) (tC .wV):=λ_ _ _ H _ I h=>Constant_none #[.wV,H,I,rfl,h]
def GY{x j pos}:PE X (.Constant (.str x) j pos) (tC<|.str x):=λ_ _ _ H _ I h=>Calls.Constant_str #[.str x,H,I.tok _,#[_,rfl],h]
def Gl(X:Cx)(x:Str):Prop:=X.env.kindOf x=some .globalImplicit
def zY(I:Inv X a e H s)(b:Gl X x)(c:X.mg x=↑u)(h:Q u s)
 (d:(x==66)=false:=by decide):ic 54 X.A (eval 101 X.env) Q E s :=
  rO I.ok.kind b (Calls.loadGlobal_global (by rw[I.ok.glob];exact I.mod.glob.keeps I.bk) c h) d
def zZ(I:Inv X a j H s)(b:Gl X x)(c:X.mg x=none)(d:nA x=↑u)(h:Q u s)
 (e:x≠"__name__":=by decide)(f:(x==66)=false:=by decide):ic 54 X.A (eval 101 X.env) Q E s:=by
  refine e1a2 I.mod.blt λk g i=>?_
  exact rO I.ok.kind b (oC (by rw[I.ok.glob];exact I.mod.glob.keeps I.bk) c (by rw[I.ok.blt];exact g.keeps I.bk) ((i x e).trans d) h) f
def MG(a:Gl X x)(b:X.mg x=↑u)(r:RelV v u)(c:(x==66)=false:=by decide):PE X 101 (tC v) :=
 λ_ _ _ H _ I h=>zY I a b #[v,H,I,r,h] c
def Bm(a:Gl X x)(b:X.mg x=none)(c:nA x=↑u)(r:RelV v u)(d:x≠"__name__":=by decide)(e:(x==66)=false:=by decide):PE X 101 (tC v) :=
 λ_ _ _ H _ I h=>zZ I a b c #[v,H,I,r,h] d e
variable{a b:iV}{ta tb:TE}{pos:Pos}
def PC(X:Cx)(g:qZ)(a b:iV)(t:TE):Prop :=
 ∀(c:List (g9×Obj)) (s:hW) (f:St) (H:Hp) (Q:VK),Inv X c f H s->t f H Q ->
  ic 54 X.A (eval a X.env) (λv d=>ic 54 X.A (eval b X.env) (λu e=>ic 54 X.A (jF g v u) (EP X c f Q) X.xe e) X.xe d) X.xe s
def Jh(b:iV)(h:op≠.In)(c:op≠.NotIn):jh op b=false:=by
 have d:(op==CmpOp.In)=false:=by cases op<;>first|rfl|exact io rfl h
 have e:(op==CmpOp.NotIn)=false:=by cases op<;>first|rfl|exact io rfl c
 cases b<;>simp[jh,d,e]
def tB(t:TE):TT:=λd H Q=>t d H λx e=>∃c,x=.bl c/\Q c e
def PH(h:PC X op a b t)(d:jh op b=false:=by first|exact Jh _ q0q q0q|rfl):PE X (.Compare a [op] [b] pos) t:=λc s e H Q I f=>tH (h c s e H Q I f) d
def Ky{f:qZ}{t:TE}(h:PC X f a b t)(g:jh f b=false:=by first|exact Jh _ q0q q0q|rfl):PT X (.Compare a [f] [b] pos) (tB t):=by intro e s i H Q I j;refine vd (wc (h e s i H _ I j) λv r g=>wc g λu w k=>wc k λc y l=>e2a3 l λx m n o p=>?_) g;obtain⟨d,rfl,q⟩:=p;cases o;exact kK #[m,n,q]
def Xq{e:iV}{t:TE}(h:PE X e t)(g:∀c,rj e X.env c=(do let v <- c;nC e.pos;lw [v] (uQ v)):=by intro _;rfl):PT X e (tB t):=by intro f s i H Q I j;refine isTrue_plain (wc (h f s i H _ I j) λv p k=>e2a3 k λx l m n o=>?_)<|g _;obtain⟨d,rfl,q⟩:=o;cases n;exact kK #[l,m,q]
variable{tA tB':TT}{rest:List iV}
def a1Q(t u:TT):TT:=λd H Q=>t d H λc e=>if c=true then u d e Q else Q false e
def tOr(t u:TT):TT:=λd H Q=>t d H λc e=>if c=true then Q true e else u d e Q
def a1R(t:TT):TT:=λd H Q=>t d H λc e=>Q (!c) e
def T8(f:PT X a tA):PW X (.BoolOp .And [a] pos) tA:=by
 intro i d s g H Q I h;refine isTrue_and<|wc (f d s g H Q I h) λc j e=>?_
 cases c with
 |true=>exact isTrue_and_nil e
 |false=>exact e
def PJ(f:PT X a tA):PW X (.BoolOp .Or [a] pos) tA:=by
 intro i d s g H Q I h;refine isTrue_or<|wc (f d s g H Q I h) λc j e=>?_
 cases c with
 |false=>exact isTrue_or_nil e
 |true=>exact e
def Xr(j:PT X a tA)(k:PW X (.BoolOp .And (b::rest) pos) tB'):PW X (.BoolOp .And (a::b::rest) pos) (a1Q tA tB'):=by
 intro l d s e H Q I h;refine isTrue_and<|wc (j d s e H _ I h) λc m n=>e1a2 n λf g i=>?_
 cases c with
 |true=>exact k l d m e f Q g i
 |false=>exact#[f,g,i]
def WC(j:PT X a tA)(k:PW X (.BoolOp .Or (b::rest) pos) tB'):PW X (.BoolOp .Or (a::b::rest) pos) (tOr tA tB'):=by
 intro l d s e H Q I h;refine isTrue_or<|wc (j d s e H _ I h) λc m n=>e1a2 n λf g i=>?_
 cases c with
 |true=>exact#[f,g,i]
 |false=>exact k l d m e f Q g i
def Xs(e:PT X a tA):PT X (.UnaryOp .Not a pos) (a1R tA):=by intro d s f H Q I h;exact isTrue_not<|e d s f H (λc g=>Q (!c) g) I h
def ZH(ta tb:TE):TE:=λd H Q=>ta d H λx e=>∃c,x=.bl c/\if c=true then tb d e Q else Q (.bl false) e
def a1S(ta tb:TE):TE:=λd H Q=>ta d H λx e=>∃c,x=.bl c/\if c=true then Q (.bl true) e else tb d e Q
def ZI(ta:TE):TE:=λd H Q=>ta d H λx e=>∃c,x=.bl c/\Q (.bl<|!c) e
def Xt{op}(h:PE X a t):PE X (.BoolOp op [a] pos) t:=λc s d H Q I e=>BoolOp_one<|h c s d H Q I e
def Xu(j:PE X a ta)(k:PE X (.BoolOp .And (b::rest) pos) tb):PE X (.BoolOp .And (a::b::rest) pos) (ZH ta tb):=by
 intro d s f H Q I h;refine BoolOp_and<|wc (j d s f H _ I h) λv l m=>e2a3 m λx g i n e=>?_;obtain⟨c,rfl,e⟩:=e;cases n;refine kK ?_
 cases c with
 |true=>exact k d l f g Q i e
 |false=>exact#[.bl false,g,i,rfl,e]
def ZJ(j:PE X a ta)(k:PE X (.BoolOp .Or (b::rest) pos) tb):PE X (.BoolOp .Or (a::b::rest) pos) (a1S ta tb):=by
 intro d s f H Q I h;refine BoolOp_or<|wc (j d s f H _ I h) λv l m=>e2a3 m λx g i n e=>?_;obtain⟨c,rfl,e⟩:=e;cases n;refine kK ?_
 cases c with
 |false=>exact k d l f g Q i e
 |true=>exact#[.bl true,g,i,rfl,e]
def Xv(f:PE X a ta):PE X (.UnaryOp .Not a pos) (ZI ta):=by intro d s g H Q I h;refine UnaryOp_<|wc (f d s g H _ I h) λv m i=>e2a3 i λx j k l e=>?_;obtain⟨c,rfl,e⟩:=e;cases l;exact not_of<|kK #[.bl<|!c,j,k,rfl,e]
end
def wF(K:hI)(H:Hp)(a:g9)(c:List V):Prop :=
 Rd H a (.lst c) \/
  ∃(o:Obj)(b:Array cr)(n:Nat),K.lookup a=↑o/\o.cls=.type "list"/\o.dict=none/\o.data=.seq b n/\b.size<=hV/\Vals c b.toList
def zI(K:hI)(H:Hp)(a:g9)(c:List V):Prop :=
 Rd H a (.tup c) \/
  ∃(o:Obj)(b:Array cr)(n:Nat),K.lookup a=↑o/\o.cls=.type "tuple"/\o.data=.seq b n/\b.size<=hV/\Vals c b.toList
noncomputable def a1T:cr->Option V
 | .none=>some .wV
 | .bool b=>some<|.bl b
 | .int i _=>some<|.int i
 | .str x _=>some<|.str x
 | .bytes b _=>some<|.ME b
 | .float b _=>some<|.Xo b
 | .ref a=>some<|.ref a
 | .type n=>some<|.ty n
 |_=>none
def RelV.abs(r:RelV x u):a1T u=↑x:=by
 cases x with
 |wV=>cases r;rfl
 |bl _=>cases r;rfl
 |int _=>obtain⟨t,rfl⟩:=r;rfl
 |str _=>obtain⟨t,rfl⟩:=r;rfl
 |ME _=>obtain⟨t,rfl⟩:=r;rfl
 |Xo _=>obtain⟨t,rfl⟩:=r;rfl
 |ref _=>cases r;rfl
 |ty _=>cases r;rfl
def RelV.inj(r:RelV x u)(q:RelV y u):x=y:=ja<|r.abs.symm.trans q.abs
def Vals.inj:∀{d c:List V} {e:List cr},Vals d e->Vals c e->d=c:=by
 intro _ c _ z
 induction z generalizing c with
 |nil=>intro q;cases q;rfl
 |cons h t f=>intro q;cases q with|cons a b=>rw[h.inj a,f b]
def wF.of{K:hI}(h:H a=↑(.lst b)):wF K H a b:=.inl<|.inl h
def zI.of{K:hI}(h:H a=↑(.tup b)):zI K H a b:=.inl<|.inl h
def Inv.list(I:Inv X c j H s)(h:wF X.K H a d):∃b:List cr,Vals d b/\PlainL s.heap a b.toArray/\d.length<=hV:=by
 rcases h with h|⟨o,b,n,f,g,hd,i,k,r⟩
 ·obtain⟨z,b,n,r,e⟩:=h.ok I.wg;exact#[b,r,#[_,n,e,rfl,rfl,rfl],z]
 ·refine#[b.toList,r,#[o,n,I.zl a o f,g,hd,by simpa using i],?_];have e:=r.length;simp only[hZ]at e
  lia
def Inv.tuple(I:Inv X c j H s)(h:zI X.K H a d):∃b:List cr,Vals d b/\IsTup s.heap a b.toArray/\d.length<=hV:=by
 rcases h with h|⟨o,b,n,f,g,i,k,r⟩
 ·obtain⟨z,b,r,p⟩:=h.ok I.wg;exact#[b,r,p,z]
 ·refine#[b.toList,r,#[o,I.zl a o f,g,n,by simpa using i],?_];have e:=r.length;simp only[hZ]at e
  lia
def Inv.Ji(I:Inv X f q H s)(h:wF X.K H a j)(k:wF X.K H a l):j=l:=by
 obtain⟨c,r,⟨o,n,e,_,_,d⟩,_⟩:=I.list h;obtain⟨b,m,⟨t,u,g,_,_,i⟩,_⟩:=I.list k;rw[e]at g;cases g;rw[d]at i;injection i with p _;have:c=b:=by simpa using congrArg sQ p
 subst this;exact r.inj m
def Inv.NX(I:Inv X f q H s)(h:zI X.K H a j)(k:zI X.K H a l):j=l:=by
 obtain⟨c,r,⟨o,e,_,n,d⟩,_⟩:=I.tuple h;obtain⟨b,m,⟨t,g,_,u,i⟩,_⟩:=I.tuple k;rw[e]at g;cases g;rw[d]at i;injection i with p _;have:c=b:=by simpa using congrArg sQ p
 subst this;exact r.inj m
noncomputable abbrev Cx.FQ(X:Cx)(E:cr->hW->Prop):Cx:={ X with xe:=E}
noncomputable abbrev Cx.nox(X:Cx):Cx:=X.FQ λ_ _=>False
def Cx.Ok.FQ{X:Cx}(a:X.Ok)(E:cr->hW->Prop):(X.FQ E).Ok :=
 #[a.mod,a.kind,a.glob,a.blt,a.above,a.inj,a.has,a.Pw,a.hd,a.frames,a.CW,a.T7,a.bs,a.Je,a.DO,a.Er,a.zc,a.Kq]
def Cx.Ok.AG{X:Cx}{E:cr->hW->Prop}(a:(X.FQ E).Ok):X.Ok :=
 #[a.mod,a.kind,a.glob,a.blt,a.above,a.inj,a.has,a.Pw,a.hd,a.frames,a.CW,a.T7,a.bs,a.Je,a.DO,a.Er,a.zc,a.Kq]
def Inv.FQ(I:Inv X a b H s)(E:cr->hW->Prop):Inv (X.FQ E) a b H s:=#[I.ok.FQ E,I.os,I.bare,I.base,I.loc,I.cell,I.free,I.yT,I.pin,I.wg,I.len]
def Inv.AG(I:Inv (X.FQ E) a b H s):Inv X a b H s:=#[I.ok.AG,I.os,I.bare,I.base,I.loc,I.cell,I.free,I.yT,I.pin,I.wg,I.len]
def SP.AG(h:SP (X.FQ E) c D f d):SP X c D f d:=by
 cases f with
 |next=>obtain⟨a,b,I,q⟩:=h;exact#[a,b,I.AG,q]
 |brk=>obtain⟨a,b,I,q⟩:=h;exact#[a,b,I.AG,q]
 |cont=>obtain⟨a,b,I,q⟩:=h;exact#[a,b,I.AG,q]
 |ret u=>obtain⟨v,a,b,I,r,q⟩:=h;exact#[v,a,b,I.AG,r,q]
def FP.nox{b:List iH}(h:FP X.nox b t):FP X b t:=λa s c H D I d =>
 jm (h a s c H D (I.FQ _) d) (λ_ _ q=>q.AG) λ_ _ z=>iO z
section
variable{X:Cx}{st:iH}{rest:List iH}{t u:TS}
def WD:TS:=λD a H=>D.nx a H
def Kz(t u:TS):TS:=λD a H=>t { D with nx:=u D} a H
def z8:FP X [] WD:=λ_ _ a H _ I h=>ot #[a,H,I,h]
def wI(c:PS X st t)(d:FP X rest u):FP X (st::rest) (Kz t u):=by
 intro a s e H D I h;refine wpAny_execs_cons<|wc (c a s e H { D with nx:=u D} I h) λf g q=>?_
 cases f with
 |next =>
  refine e2a2 q λb i j q=>?_;exact d a g b i D j q
 |ret v=>exact q
 |brk=>exact q
 |cont=>exact q
def yu(b:PS X st t):FP X [st] t:=by
 intro a s c H D I h;refine wpAny_execs_cons<|wc (b a s c H D I h) λf d q=>?_
 cases f with
 |next=>exact ot q
 |ret v=>exact q
 |brk=>exact q
 |cont=>exact q
def Inv.quiet(I:Inv X a b H s):interactive X.env=false:=by simp[interactive,I.ok.kind]
def Gg(b:TE):TS:=λD a H=>b a H λ_ c=>D.nx a c
def yV(c:PE X e d)(f:kj e none pos.line X.env=pure false:=by rfl):PS X (.Expr e pos) (Gg d):=by intro a s b H D I h;exact wpAny_Expr_any (wc (c a s b H _ I h) λv l g=>e2a3 g λx i j m k=>#[b,i,j,k]) I.quiet f
def Xw(a:TE):TS:=λD b H=>a b H D.rt
def CY(c:PE X e d):PS X (.Return ↑e pos) (Xw d):=by intro a s b H D I h;exact wpAny_Return_some<|wc (c a s b H _ I h) λv l f=>e2a3 f λx g i j k=>#[x,b,g,i,j,k]
def a1U(c:TT)(t u:TS):TS:=λD a H=>c a H λb d=>if b=true then t D a d else u D a d
def MH{c:iV}{a b:List iH}{g:TT}(m:PT X c g)(n:FP X a t)(o:FP X b u):PS X (.If c a b pos) (a1U g t u):=by
 intro e s f H D I h;refine wpAny_If<|wc (m e s f H _ I h) λd i p=>e1a2 p λj k l=>?_
 cases d with
 |true=>exact n e i f j D k l
 |false=>exact o e i f j D k l
def Xx:TS:=λ_ _ _=>False
def NY:FP X a Xx:=λ_ _ _ _ _ _ h=>h.elim
end
abbrev TG:=V->St->Hp->(St->Hp->Prop)->Prop
abbrev Zq:=List V->St->Hp->(St->Hp->Prop)->Prop
def PG(X:Cx)(a:iV)(t:TG):Prop :=
 ∀(b:List (g9×Obj)) (s:hW) (d:St) (H:Hp) (v:V) (u:cr) (Q:St->Hp->Prop),Inv X b d H s->RelV v u->t v d H Q ->
  ic 54 X.A (tJ a X.env u) (λ_ f=>∃c e,Inv X b c e f/\Q c e) X.xe s
def PGs(X:Cx)(g:List iV)(t:Zq):Prop :=
 ∀(a:List (g9×Obj)) (s:hW) (c:St) (H:Hp) (d:List V) (e:List cr) (Q:St->Hp->Prop),Inv X a c H s->Vals d e->t d c H Q ->
  ic 54 X.A (assignInOrder ((pY g X.env).map (·.2)) e) (λ_ h=>∃b f,Inv X a b f h/\Q b f) X.xe s
abbrev PL:=V->V->V->Hp->(Hp->Prop)->Prop
def Xy(X:Cx)(t:PL):Prop :=
 ∀(a:List (g9×Obj)) (s:hW) (b:St) (H:Hp) (o i v:V) (c d u:cr) (Q:Hp->Prop),Inv X a b H s->RelV o c->RelV i d->RelV v u->t o i v H Q ->
  ic 54 X.A (sZ c d u) (λ_ f=>∃e,Inv X a b e f/\Q e) X.xe s
abbrev TIp:=V->V->Hp->VK->Prop
def PIp(X:Cx)(c:Operator)(t:TIp):Prop :=
 ∀(a:List (g9×Obj)) (s:hW) (b:St) (H:Hp) (x y:V) (v u:cr) (Q:VK),Inv X a b H s->RelV x v->RelV y u->t x y H Q ->
  ic 54 X.A (inplaceOp c v u) (EP X a b Q) X.xe s
def Dz(i:Nat):TG:=λv a H Q=>Q (a.set i<|↑v) H
def vG{i:Nat}(b:X.N.Nodup)(c:X.N[i]?=↑x:=by rfl)(d:Loc X.env.scope x:=by exact ku rfl)(e:X.fn x=true\/X.env.scope.names.lookup x=some .local:=by first|exact .inl rfl|exact .inr rfl|assumption):PG X 101 (Dz i):=by intro a s g H v u Q I r h;exact wpAny_assign_Name<|Jg I b c d r (λj f=>#[_,H,f,h]) e
def Xz:Zq:=λa b H Q=>a=[]/\Q b H
def Gh(t:TG)(u:Zq):Zq:=λb c H Q=>∃v r,b=v::r/\t v c H λa d=>u r a d Q
def Cb:PGs X [] Xz:=by intro a s b H c d Q I r h;obtain⟨e,h⟩:=h;subst e;cases r;exact assignInOrder_nil #[b,H,I,h]
def xj{e:iV}{b:List iV}{t:TG}{u:Zq}(d:PG X e t)(f:PGs X b u)
  (g:(pY (e::b) X.env).map (·.2)=tJ e X.env::(pY b X.env).map (·.2):=by rfl):PGs X (e::b) (Gh t u):=by
 intro a s i H q w Q I r h;obtain⟨v,x,j,h⟩:=h;subst j
 cases r with
 |cons r k =>
  rw[g];refine assignInOrder_cons<|wc (d a s i H _ _ _ I r h) λ_ l m=>e2a2 m λc n o p=>?_;exact f a l c n _ _ Q o k p
def XA(K:hI)(n:Nat)(t:Zq):TG:=λv c H Q=>∃a b,v=.ref a/\zI K H a b/\b.length=n/\t b c H Q
def Et{k:Nat}{n:Nat}(l:X.calm=true)(h:PGs X d t)
 (m:(pY d X.env).length=n:=by rfl)(f:(pY d X.env).findIdx? (·.1)=none:=by rfl):PG X (.Tuple d k pos) (XA X.K n t):=by
  intro c s i H v u Q I r g
  obtain⟨a,p,q,w,x,g⟩:=g
  subst q
  cases r
  obtain⟨y,j,z,D⟩:=I.tuple w
  refine assign_Tuple_tuple (I.ok.hd l) z (by simp[m,<- x,j.length]) f λA B=>?_
  have C:Inv X c i H { s with heap:=A}:=I.kept (t':=s.toks) λb o e=>B b o (im<|hX e) e
  exact h c _ i H p _ Q C (by simpa using j) g
def ZK(b c:TE)(t:PL):TG:=λv a H Q=>b a H λo d=>c a d λi e=>t o i v e λf=>Q a f
def KA{o i:iV}{f g:TE}{t:PL}(j:PE X o f)(k:PE X i g)(l:Xy X t)
  (m:∀v,tJ (.Subscript o i pos) X.env v=(do
   let b <- lw [v] (eval o X.env)
   let c <- lw [v,b] (eval i X.env)
   nC pos
   lw [v,b,c] (sZ b c v)
   release [v,b,c] []):=by intro _;rfl):PG X (.Subscript o i pos) (ZK f g t):=by
 intro a s e H v u Q I r h;rw[m];refine am<|iQ<|wc (j a s e H _ I h) λb n d=>e2a3 d λx p q w z=>?_;refine am<|iQ<|wc (k a n e p _ q z) λc A d=>e2a3 d λy B C D E=>?_;refine am<|nZ<|am<|iQ<|wc (l a A e B x y v b c u _ C w D r E) λ_ L d=>e1a2 d λF G J=>?_;exact wpAny_release #[e,F,G,J]
def T9(b:TE)(g:TG):TS:=λD a H=>b a H λx c=>g x a c D.nx
def GZ{b e:iV}{c:TE}{g:TG}(f:PE X e c)(i:PG X b g)(j:swapsWithSole [b] e pos.line X.env=pure false:=by rfl)(hw:swappedStores [b] e X.env=pure none:=by rfl)
  (k:(pY [b] X.env).map (·.2)=[tJ b X.env]:=by rfl):PS X (.Assign [b] e pos) (T9 c g):=by
 intro a s d H D I h;refine wpAny_Assign_stores (wc (f a s d H _ I h) λv l m=>e2a3 m λx n o p r=>?_) j hw;rw[k];exact wc (i a l d n x v _ o p r) λ_ t q=>q
def AH{i:Nat}{x:Str}{e:iV}{c:TE}{a:Pos}(d:X.N.Nodup)(f:X.N[i]?=↑x)(g:Loc X.env.scope x)(j:PE X e c)(k:kj e (some<|.Name x a) pos.line X.env=pure false:=by rfl)(l:X.fn x=true\/X.env.scope.names.lookup x=some .local:=by first|exact .inl rfl|exact .inr rfl|assumption) :
  PS X (.Assign [.Name x a] e pos) (T9 c<|Dz i):=by
 intro b s m H D I h;refine wpAny_Assign_Name (wc (j b s m H _ I h) λv u n=>e2a3 n λy o p q r=>?_) k;exact Jg p d f g q (λw t=>#[_,o,t,r]) l
def ZL(e f g:TE)(a:V->V->Hp->VK->Prop)(d:TIp)(b:PL):TS:=λD c H=>e c H λo h=>f c h λi j=>a o i j λx k=>g c k λy l=>d x y l λz m=>b o i z m λn=>D.nx c n
def ZM(X:Cx)(t:V->V->Hp->VK->Prop):Prop :=
 ∀(a:List (g9×Obj)) (s:hW) (b:St) (H:Hp) (o i:V) (c d:cr) (Q:VK),Inv X a b H s->RelV o c->RelV i d->t o i H Q ->
  ic 54 X.A (oE c d) (EP X a b Q) X.xe s
def Ua{o i e:iV}{p q r:TE}{d:V->V->Hp->VK->Prop}{l:TIp}{f:PL}{t:Operator}{m:Pos}(z:PE X o p)(A:PE X i q)(B:ZM X d)(C:PE X e r)(E:PIp X t l)(F:Xy X f)
  (G:∀g j b,augStore i g j b=(do lw [b,g,j] (sZ g j b);release [b,g,j] [];pure .next):=by intros;rfl):PS X (.AugAssign (.Subscript o i m) t e pos) (ZL p q r d l f):=by
 intro a s k H D I h;refine sR (wc (z a s k H _ I h) λg J c=>e2a3 c λu L M w N=>?_) G;refine wc (A a J k L _ M N) λj O c=>e2a3 c λx P Q y R=>?_;refine wc (B a O k P u x g j _ Q w y R) λn S c=>e2a3 c λT U W Y Z=>?_;refine wc (C a S k U _ W Z) λv s4 c=>e2a3 c λx4 H4 I4 r4 q4=>?_;refine wc (E a s4 k H4 T x4 n v _ I4 Y r4 q4) λb s5 c=>e2a3 c λx5 H5 I5 r5 q5=>?_;exact wc (F a s5 k H5 u x x5 g j b _ I5 w y r5 q5) λ_ s6 c=>e1a2 c λH6 I6 q6=>#[k,H6,I6,q6]
def ipI(f:Int->Int->Int):TIp:=λx y H Q=>∃i j,x=.int i/\y=.int j/\Q (.int<|f i j) H
def XD:PIp X .Add (ipI λi j=>i+j):=by intro a s f H x y v u Q I b c h;obtain⟨i,j,d,e,q⟩:=h;subst d;subst e;obtain⟨t,rfl⟩:=b;obtain⟨g,rfl⟩:=c;exact iadd_int #[.int _,H,I.tok _,#[_,rfl],q]
def a1X:PIp X .Sub (ipI λi j=>i-j):=by intro a s f H x y v u Q I b c h;obtain⟨i,j,d,e,q⟩:=h;subst d;subst e;obtain⟨t,rfl⟩:=b;obtain⟨g,rfl⟩:=c;exact isub_int #[.int _,H,I.tok _,#[_,rfl],q]
def XG(c:TT)(h:TS):TS:=λD a H=>∃W:Nat->St->Hp->Prop,(∃m,W m a H)/\∀m a H,W m a H ->
 c a H λb e=>if b=true then ∃N:St->Hp->Prop,(∀d f,N d f->∃g,g<m/\W g d f)/\h { D with nx:=N,ct:=N,bk:=D.nx} a e else D.nx a e
def PM{c:iV}{g:List iH}{u:TT}{x:TS}(y:sj 54 X.A X.env X.xe)(F:PT X c u)(G:FP X g x):PS X (.While c g [] pos) (XG u x):=by
 intro a s J H D I h;obtain⟨W,⟨L,M⟩,i⟩:=h;refine wpAny_While<|codeAny_whileLoop (λn O=>∃j z,Inv X a j z O/\W n j z) ?_ L #[J,H,I,M];rintro n P ⟨e,H1,Q,R⟩;refine mf y<|wc (F a P e H1 _ Q<|i n e H1 R) λb S T=>e1a2 T λB C l=>?_
 cases b with
 |true =>
  refine e1a2 l λN E l=>?_;rw[g8 rfl];refine mf y<|wc (G a S e B _ C l) λf U m=>?_
  cases f with
  |next =>
   refine e2a2 m λd k o p=>?_;refine e1a2 (E d k p) λq r t=>?_;exact#[q,r,d,k,o,t]
  |cont =>
   refine e2a2 m λd k o p=>?_;refine e1a2 (E d k p) λq r t=>?_;exact#[q,r,d,k,o,t]
  |brk=>exact m
  |ret v=>exact m
 |false =>
  rw[ci ig];exact ot #[e,B,C,l]
structure It where
 go:Nat->Hp->Prop
 IY:Nat->Hp->V->Hp->Prop
 stop:Nat->Hp->Prop
def BS(X:Cx)(a:List (g9×Obj))(H:Hp)(b:g9):Prop :=
 H b=none/\b≠X.env.locals/\b∉X.fs/\(b∈X.ex\/X.s₀.heap.objs.size<=b)/\(∀x c,X.env.cells.lookup x=↑c->c≠b)/\∀p∈X.pn++a,p.1≠b
def Inv.G0(I:Inv X a i H s)(d:⇑s<=b)(f:g b=none):BS X a g b:=by
 refine#[f,jA<|iz I.lt d,I.a1O d,.inr<|i5 I.sz d,λx c e z=>?_,λp h z=>?_]
 ·obtain⟨v,q⟩:=I.cell x c e;exact io (iz q.lt<|by rw[z];exact d)<|kf _
 ·exact io (iz (hX (I.pin p h).1)<|by rw[z];exact d)<|kf _
structure Turn(P:iN)(w:jf)(K:hI)(tg:iV)(J:It)(fp:List g9)(it:g9)(tn:Nat->i9->Prop):Prop where
 mem:it∈fp
 obj:∀i h,tn i h->∀b∈fp,∃o,h.get? b=↑o/\∀v,o.data≠.cell v
 keep:∀i h h',tn i h->(∀b∈fp,∀o,h.get? b=↑o->h'.get? b=↑o)->tn i h'
 item:∀(X:Cx),X.prog=P->X.w=w->X.K=K->X.calm=true->∀(i:Nat) (pins:List (g9×Obj)) (s:hW) (σ:St) (H:Hp) (E:cr->hW->Prop),Inv X pins σ H s->(∀b∈fp,BS X pins H b)->tn i s.heap->J.go i H ->
  ic (ii P w) X.A (pyNext (.ref it)) (λr s1=>∃u,r=↑u /\
   ic (ii P w) X.A (sS tg (.ref it) u) (λ_ s2=>∃x H',Inv X pins σ H' s2/\RelV x u/\J.IY i H x H'/\tn (i+1) s2.heap/\∀b∈fp,H' b=none) E s1) E s
 done:∀(X:Cx),X.prog=P->X.w=w->X.K=K->X.calm=true->∀(i:Nat) (pins:List (g9×Obj)) (s:hW) (σ:St) (H:Hp) (E:cr->hW->Prop),Inv X pins σ H s->(∀b∈fp,BS X pins H b)->tn i s.heap->J.stop i H ->
  ic (ii P w) X.A (pyNext<|.ref it) (λr s1=>r=none/\Inv X pins σ H s1) E s
 self:∀(A:jL)(i:Nat)(s:hW)(Q:cr->hW->Prop)(E:cr->hW->Prop),tn i s.heap->Q (.ref it) s->ic (ii P w) A (pyIter<|.ref it) Q E s
abbrev TI:=St->Hp->(It->Hp->Prop)->Prop
def PIE(X:Cx)(a:List (g9×Obj))(i:St)(j:iV)(R:It->Hp->Prop)(c:cr)(e:hW):Prop :=
 ∃(f:g9)(g:List g9)(h:Nat->i9->Prop)(J:It)(d:Hp),c=.ref f/\Inv X a i d e/\Turn X.prog X.w X.K j J g f h/\h 0 e.heap/\(∀b∈g,BS X a d b)/\R J d
def PI(X:Cx)(d b:iV)(e:TI):Prop :=
 ∀(a:List (g9×Obj)) (s:hW) (c:St) (H:Hp) (R:It->Hp->Prop),Inv X a c H s->e c H R ->
  ic 54 X.A (eval b X.env) (λv f=>ic 54 X.A (pyIter v) (PIE X a c d R) X.xe f) X.xe s
def PN{s:hW}(b:s.heap.get? c=↑o)(d:o.cls=.type n)(e:o.data=.fields f)
 (g:["enumerate","zip","dict_itemiterator","dict_reverseitemiterator","odict_iterator","itertools.zip_longest","itertools.pairwise"].contains n=false)(a:Q () s):ic M A (sS i (.ref c) u) Q E s:=by
  cases i<;>first
    | exact ap a
    | (cases u<;>first
        | exact ap a
        | (refine am (ro b ?_)
           rw[d,e]
           show ic M A (if (["enumerate","zip","dict_itemiterator","dict_reverseitemiterator","odict_iterator","itertools.zip_longest","itertools.pairwise"].contains n&&f[0]?==↑(ml _))=true then _ else _) Q E s
           rw[ci<|by intro h;rw[g,Bool.false_and]at h;cases h]
           exact ap a))
noncomputable def Zr(K:hI)(a:g9):It :=
 #[λi H=>∃b x,wF K H a b/\b[i]?=↑x,λi H x c=>c=H/\∀b,wF K H a b->b[i]?=↑x,λi H=>∃b,wF K H a b/\b.length<=i]
noncomputable def Itt(K:hI)(a:g9):It :=
 #[λi H=>∃b x,zI K H a b/\b[i]?=↑x,λi H x c=>c=H/\∀b,zI K H a b->b[i]?=↑x,λi H=>∃b,zI K H a b/\b.length<=i]
noncomputable def XH(a:Int)(n:Nat):It:=#[λi _=>i<n,λi H x b=>b=H/\x=.int (a+i),λi _=>n<=i]
def NZ{P:iN}{w:jf}{K:hI}{tg:iV}(a it:g9):Turn P w K tg (Zr K a) [it] it (λi h=>h.IsListIter it a i) where
 mem:=by simp
 obj:=λi h st b hb=>by
  have e:b=it:=by simpa using hb
  subst e;refine e1a3 st λo e c d=>?_;exact#[o,e,λv z=>by rw[d]at z;cases z]
 keep:=λi h h' st k=>st.at λo e=>k it q0o o e
 item:=by intro X hP hw hK hc i pins s σ H E I hf st hg;subst hP hw hK;refine e2a2 hg λxs x hq hx=>?_;refine e1a3 (I.list hq) λAD rv p hz=>?_;refine e1a2 (rv.get hx) λu hu ru=>?_;refine e0a6 (hf it q0o) λf0 f1 f2 f3 f4 f5=>?_;refine wpAny_pyNext_list_item st p.isList (x:=u) (by simpa using hu) λh' WE sb=>?_;have I1:Inv X pins σ H { s with heap:=h'}:=I.turned (t':=s.toks) (λb o hb e=>(sb.2 b hb).trans e) f0 f1 f3 f4 f5;refine e1a3 (id WE) λo e c d=>?_;exact#[u,rfl,PN (s:={ s with heap:=h'}) e c d q0q #[x,H,I1,ru,#[rfl,λys hy=>by rw[I.Ji hy hq];exact hx],WE,λb hb=>(hf b hb).1]]
 done:=by intro X hP hw hK hc i pins s σ H E I hf st hg;subst hP hw hK;refine e1a2 hg λxs hq hx=>?_;refine e1a3 (I.list hq) λAD rv p hz=>?_;refine e0a6 (hf it q0o) λf0 f1 f2 f3 f4 f5=>?_;have hl:=rv.length;exact wpAny_pyNext_list_end (I.ok.hd hc) st p.isList (by simp;lia) λh' eb=>97
 self:=λ_ _ _ _ _ st h=>wpAny_pyIter_listiter st h
def KC{P:iN}{w:jf}{K:hI}{tg:iV}(a it:g9):Turn P w K tg (Itt K a) [it] it (λi h=>h.IsTupleIter it a i) where
 mem:=by simp
 obj:=λi h st b hb=>by
  have e:b=it:=by simpa using hb
  subst e;refine e1a3 st λo e c d=>?_;exact#[o,e,λv z=>by rw[d]at z;cases z]
 keep:=λi h h' st k=>st.at λo e=>k it q0o o e
 item:=by intro X hP hw hK hc i pins s σ H E I hf st hg;subst hP hw hK;refine e2a2 hg λxs x hq hx=>?_;refine e1a3 (I.tuple hq) λAD rv p hz=>?_;refine e1a2 (rv.get hx) λu hu ru=>?_;refine e0a6 (hf it q0o) λf0 f1 f2 f3 f4 f5=>?_;refine wpAny_pyNext_tuple_item st (show s.heap.IsTuple a AD.toArray from p) (x:=u) (by simpa using hu) λh' WE sb=>?_;have I1:Inv X pins σ H { s with heap:=h'}:=I.turned (t':=s.toks) (λb o hb e=>(sb.2 b hb).trans e) f0 f1 f3 f4 f5;refine e1a3 (id WE) λo e c d=>?_;exact#[u,rfl,PN (s:={ s with heap:=h'}) e c d q0q #[x,H,I1,ru,#[rfl,λys hy=>by rw[I.NX hy hq];exact hx],WE,λb hb=>(hf b hb).1]]
 done:=by intro X hP hw hK hc i pins s σ H E I hf st hg;subst hP hw hK;refine e1a2 hg λxs hq hx=>?_;refine e1a3 (I.tuple hq) λAD rv p hz=>?_;refine e0a6 (hf it q0o) λf0 f1 f2 f3 f4 f5=>?_;have hl:=rv.length;exact wpAny_pyNext_tuple_end (I.ok.hd hc) st (show s.heap.IsTuple a AD.toArray from p) (by simp;lia) λh' eb=>97
 self:=λ_ _ _ _ _ st h=>wpAny_pyIter_tupleiter st h
def KD{P:iN}{w:jf}{K:hI}{tg:iV}(it:g9)(lo:Int)(n:Nat):Turn P w K tg (XH lo n) [it] it (λi h=>IsRangeIter h it (lo+(i:Nat)*1) ((n:Int)-(i:Nat)) 1) where
 mem:=by simp
 obj:=λi h st b hb=>by
  have e:b=it:=by simpa using hb
  subst e
  exact#[_,st,λv z=>by
   have z':ud _=Data.cell v:=z
   cases z']
 keep:=λi h h' st k=>k it q0o _ st
 item:=by intro X hP hw hK hc i pins s σ H E I hf st hg;subst hP hw hK;refine e0a6 (hf it q0o) λf0 f1 f2 f3 f4 f5=>?_;have W:=Walks.range (prog:=X.prog) (w:=X.w) (I.ok.hd hc) it lo 1 n;refine W.item i s _ _ hg st λv h' tk hv WE kk=>?_;obtain⟨t,rfl⟩:=hv;have I1:Inv X pins σ H { s with heap:=h',toks:=tk}:=I.turned (λb o hb e=>kk b o (by simpa using hb) e) f0 f1 f3 f4 f5;refine#[_,rfl,PN (s:={ s with heap:=h',toks:=tk}) (n:="range_iterator") WE rfl rfl q0q #[.int<|lo+i,H,I1,⟨t,?_⟩,⟨rfl,rfl⟩,WE,λb hb=>(hf b hb).1]];rw[Int.mul_one]
 done:=by intro X hP hw hK hc i pins s σ H E I hf st hg;refine e0a6 (hf it q0o) λf0 f1 f2 f3 f4 f5=>?_;exact wpAny_pyNext_range_end (I.ok.hd hc) st (by have:n<=i:=hg;lia) λh' eb=>97
 self:=λ_ _ _ _ _ st h=>wpAny_pyIter_rangeiter st h
def ZN(K:hI)(c:TE):TI:=λd H R=>c d H λx b=>∃a,x=.ref a/\(∃e,wF K b a e)/\R (Zr K a) b
def a1Z(K:hI)(c:TE):TI:=λd H R=>c d H λx b=>∃a,x=.ref a/\(∃e,zI K b a e)/\R (Itt K a) b
def G4{l:iV}{g:TE}(i:PE X l g):PI X y l (ZN X.K g):=by
 intro c s j H R I h;refine wc (i c s j H _ I h) λv d k=>e2a3 k λx m f n r=>?_;obtain⟨a,e,⟨z,t⟩,q⟩:=r;subst e;cases n;refine e1a3 (f.list t) λu A p B=>?_;refine wpAny_pyIter_list p.isList ?_;refine#[⇑d,[⇑d],_,_,m,rfl,f.kept (t':=d.toks) λb o e=>ce _ e,NZ a _,#[_,ik _ rfl,rfl,rfl],λb w=>?_,q];have e:b=⇑d:=by simpa using w
 subst e;exact f.G0 (hO _)<|f.wg.fresh<|hO _
def XI{l:iV}{i:TE}(j:PE X l i):PI X y l (a1Z X.K i):=by
 intro c s k H R I h;refine wc (j c s k H _ I h) λv d m=>e2a3 m λx n f r t=>?_;obtain⟨a,e,⟨z,u⟩,q⟩:=t;subst e;cases r;refine e1a3 (f.tuple u) λg A p B=>?_;refine rq (show d.heap.IsTuple a g.toArray from p) ?_;refine#[⇑d,[⇑d],_,_,n,rfl,f.kept (t':=d.toks) λb o e=>ce _ e,KC a _,#[_,ik _ rfl,rfl,rfl],λb w=>?_,q];have e:b=⇑d:=by simpa using w
 subst e;exact f.G0 (hO _)<|f.wg.fresh<|hO _
def Jj{a c:Int}{f:Nat}(I:Inv X d h H s)(i:-(2 ^ 62)<=a)(j:a<2 ^ 62)(k:-(2 ^ 62)<=c)(l:c<2 ^ 62)
 (q:R (XH a (c-a).toNat) H):ic 54 X.A (pyIter<|.ref ⇑s) (PIE X d h r R) E { s with heap:=s.heap.push 102,toks:=f}:=by
  refine wpAny_pyIter_range (IsRange.new ..) (small_one i j k l) ?_
  have g:Inv X d h H { s with heap:=s.heap.push 102,toks:=f}:=I.kept λb o e=>ce _ e
  refine#[(s.heap.push 102).objs.size,[(s.heap.push 102).objs.size],_,_,H,rfl,
    g.kept (t':=f) λb o e=>ce _ e,KD _ a (c-a).toNat,?_,λb m=>?_,q]
  · have n : a+((0 : Nat) : Int)*1 = a := by simp
    have p:(((c-a).toNat:Nat):Int)-((0:Nat):Int)=Builtin.Range.rangeSize a c 1:=by rw[rangeSize_one];split<;>lia
    rw[n,p]
    exact ik _ rfl
  · have e : b = (s.heap.push { cls := .type "range", data := .fields #v[.int a t, .int c u, .int 1 v] }).objs.size := by simpa using m
    subst e
    exact g.G0 (hO _)<|g.wg.fresh<|hO _
def ZO(a:TA):TI:=λb H R=>a b H λc d=>∃j:Int,c=[.int j]/\-(2 ^ 62)<=j/\j<2 ^ 62/\R (XH 0 j.toNat) d
def WF(a:TA):TI:=λb H R=>a b H λc d=>∃i j:Int,c=[.int i,.int j]/\(-(2 ^ 62)<=i/\i<2 ^ 62/\-(2 ^ 62)<=j/\j<2 ^ 62)/\R (XH i (j-i).toNat) d
def N0{a:iV}{f:TA}{p b:Pos}(g:Gl X "range")(i:X.mg "range"=none)(k:PA X [a] f)(l:hJ [a] X.env=[79]:=by rfl):PI X x (.Call (.Name "range" p) [a] [] b) (ZO f):=by
 intro c s m H R I h;refine Call_<|zZ I g i boot_range<|ky (wc (k b c s m H _ I h) λy z n=>e2a3 n λA B o u d=>?_) l rfl;obtain⟨j,e,d,v,q⟩:=d;subst e
 cases u with
 |cons r w =>
  cases w;obtain⟨t,rfl⟩:=r;exact call_range_1<|Jj o q0a q0a d v (by simpa using q)
def N3{a b:iV}{l:TA}{p c:Pos}(m:Gl X "range")(n:X.mg "range"=none)(o:PA X [a,b] l)(u:hJ [a,b] X.env=[79,(false,eval b X.env)]:=by rfl)(d:hJ [b] X.env=[(false,eval b X.env)]:=by rfl) :
  PI X C (.Call (.Name "range" p) [a,b] [] c) (WF l):=by
 intro f s v H R I h;refine Call_<|zZ I m n boot_range<|ky (wc (o c f s v H _ I h) λD E ⟨F,H1,w,x,g⟩=>?_) (by rw[u,d]) (by rw[d];rfl);obtain⟨i,j,e,⟨g,y,z,A⟩,q⟩:=g;subst e
 cases x with
 |cons r k =>
  cases k with
  |cons B k =>
   cases k;obtain⟨t,rfl⟩:=r;obtain⟨G,rfl⟩:=B;exact call_range_2<|Jj w g y z A q
def a10(f:TI)(g:TG)(h:TS):TS:=λD a H=>f a H λJ j=>∃W:Nat->Nat->St->Hp->Prop,(∃m,W 0 m a j)/\∀i m a H,W i m a H ->
 (J.stop i H/\D.nx a H)\/(J.go i H/\∃N:St->Hp->Prop,(∀b c,N b c->∃e,e<m/\W (i+1) e b c)/\∀x c,J.IY i H x c->g x a c λd k=>h { D with nx:=N,ct:=N,bk:=D.nx} d k)
noncomputable def Eu(a:List g9)(h:i9):List (g9×Obj):=a.filterMap λb=>(h.get? b).map λo=>(b,o)
def yc{h:i9}(a:b∈c)(e:h.get? b=↑o):(b,o)∈Eu c h:=List.mem_filterMap.mpr #[b,a,by rw[e];rfl]
def N4(a:p∈Eu c h):p.1∈c/\h.get? p.1=↑p.2:=by
 refine e1a2 (List.mem_filterMap.mp a) λb d e=>?_
 cases q:h.get? b with
 |none=>rw[q]at e;cases e
 |some o =>
  rw[q]at e;have f:(b,o)=p:=ja e;subst f;exact#[d,q]
def Inv.pinned(I:Inv X a g H s)(h:∀b∈fp,BS X a H b)(i:∀b∈fp,∃o,s.heap.get? b=↑o/\∀v,o.data≠.cell v):Inv X (a++Eu fp s.heap) g H s :=
 I.zX λp j=>(List.mem_append.mp j).elim (λz=>I.pin p<|iA _ z) λz=>by obtain⟨c,e⟩:=N4 z;obtain⟨k,l,m,_⟩:=h p.1 c;refine e1a2 (i p.1 c) λo f d=>?_;rw[e]at f;cases f;exact#[e,k,l,m,d]
def Inv.AI(I:Inv X (a++d) b H s):Inv X a b H s:=I.zX λp c=>I.pin p<|iA _<|i8 _ c
def PP{j:iV}{C:List iH}{wi:TI}{g:TG}{tb:TS}{Y:Pos}(M:sj 54 X.A X.env X.xe)(hc:X.calm=true)(hi:PI X tg j wi)(hg:PG X tg g)(k:FP X C tb)
  (hs:∀x,kM j X.env x=pure x:=by intro _;rfl):PS X (.For tg j C [] Y) (a10 wi g tb):=by
 intro a s σ H D I h;refine wpAny_For (wc (hi a s σ H _ I h) λv s1 h1=>wc h1 λai s2 h2=>?_) hs;obtain⟨it,O,tn,J,H2,e,I2,T,Z,f2,W,⟨m0,w0⟩,P⟩:=h2;subst e
 -- ag aa true of the E Q through the ah
 have l:∀{B:Hp},(∀b∈O,B b=none)->∀b∈O,BS X a B b:=λhn b k=>#[hn b k,(f2 b k).2];refine codeAny_forLoop_any (λn s'=>∃i p B,Inv X a p B s'/\tn i s'.heap/\(∀b∈O,B b=none)/\W i n p B) ?_ m0 #[0,σ,H2,I2,Z,λb k=>(f2 b k).1,w0];rintro n s3 ⟨i,q,H3,I3,R,S,w3⟩;rcases P i n q H3 w3 with⟨stop,qn⟩|⟨go,N,hN,step⟩
 ·refine mf M<|wc (T.done X rfl rfl rfl hc i a s3 q H3 X.xe I3 (l S) R stop) λr s4 G=>e0a2 G λhr I4=>?_;subst hr;exact ot #[q,H3,I4,qn]
 ·refine mf M<|wc (T.item X rfl rfl rfl hc i a s3 q H3 X.xe I3 (l S) R go) λr s4 G=>e1a2 G λu hr h4=>?_;subst hr;refine mf M<|wc h4 λ_ s5 G=>e2a5 G λx H5 I5 r5 y5 L ab=>?_;have ae:=I5.pinned (l ab)<|T.obj _ _ L;refine mf M<|wc (hg _ s5 q H5 x u _ ae r5<|step x H5 y5) λ_ s6 G=>e2a2 G λaf H6 I6 q6=>?_;refine mf M (wc (k _ s6 af H6 _ I6 q6) λf s7 F=>?_)
  have t:∀{c:St} {y:Hp},Inv X (a++Eu O s5.heap) c y s7->N c y->∃m,m<n/\∃i p B,Inv X a p B s7/\tn i s7.heap/\(∀b∈O,B b=none)/\W i m p B:=λ{c y} z U=>by refine e1a2 (hN c y U) λm' hm w7=>?_;refine#[m',hm,i+1,c,y,z.AI,T.keep _ _ _ L λb k o e=>(z.pin (b,o)<|iA _<|iA _<|yc k e).1,λb k=>?_,w7];refine e1a2 (T.obj _ _ L b k) λo e d=>?_;exact(z.pin (b,o)<|iA _<|iA _<|yc k e).2.1
  cases f with
  |next=>obtain⟨c,y,z,U⟩:=F;exact t z U
  |cont=>obtain⟨c,y,z,U⟩:=F;exact t z U
  |brk=>obtain⟨c,y,z,F⟩:=F;exact#[c,y,z.AI,F]
  |ret v=>obtain⟨x7,c,y,z,r7,F⟩:=F;exact#[x7,c,y,z.AI,r7,F]
def PQ{K:hI}{a:g9}{xs:List V}{g:TG}{l:TS}{D:Ends}{b:St}{H:Hp}(c:Nat->St->Hp->Prop)(o:c 0 b H)(r:∀i b H,i<=xs.length->c i b H->wF K H a xs)
  (s:∀i x b H,xs[i]?=↑x->c i b H->g x b H λd k=>l { D with nx:=c<|i+1,ct:=c<|i+1,bk:=D.nx} d k) (t:∀b H,c xs.length b H->D.nx b H) :
  ∃W:Nat->Nat->St->Hp->Prop,(∃m,W 0 m b H)/\∀i m b H,W i m b H ->
   ((Zr K a).stop i H/\D.nx b H)\/((Zr K a).go i H/\∃N:St->Hp->Prop,(∀f h,N f h->∃n,n<m/\W (i+1) n f h)/\∀x h,(Zr K a).IY i H x h->g x b h λd k=>l { D with nx:=N,ct:=N,bk:=D.nx} d k):=by
 refine#[λi m b H=>m=xs.length-i/\i<=xs.length/\c i b H,#[xs.length,q0o,jl _,o],?_];rintro i m b H ⟨rfl,u,p⟩;have q:=r i b H u p;by_cases j:i<xs.length
 ·refine .inr #[#[xs,xs[i],q,by simp[j]],c<|i+1,λf h v=>#[xs.length-(i+1),q0d,rfl,j,v],λx h y=>?_];obtain⟨e,y⟩:=y;subst e;exact s i x b _ (y xs q) p
 ·have e:i=xs.length:=by omega
  subst e;exact .inl #[#[xs,q,hO _],t b H p]
abbrev R2:=V->V->Hp->VK->Prop
def AJ(X:Cx)(f:cr->cr->Sem cr)(r:R2):Prop :=
 ∀(a:List (g9×Obj)) (s:hW) (b:St) (H:Hp) (x y:V) (v u:cr) (Q:VK),Inv X a b H s->RelV x v->RelV y u->r x y H Q ->
  ic 54 X.A (f v u) (EP X a b Q) X.xe s
def UnR(X:Cx)(f:cr->Sem cr)(r:V->Hp->VK->Prop):Prop :=
 ∀(a:List (g9×Obj)) (s:hW) (b:St) (H:Hp) (x:V) (v:cr) (Q:VK),Inv X a b H s->RelV x v->r x H Q ->
  ic 54 X.A (f v) (EP X a b Q) X.xe s
def zd(X:Cx)(f:cr)(r:List V->Hp->VK->Prop):Prop :=
 ∀(a:List (g9×Obj)) (s:hW) (b:St) (H:Hp) (c:List V) (d:List cr) (Q:VK),Inv X a b H s->Vals c d->r c H Q ->
  ic 54 X.A (call f d) (EP X a b Q) X.xe s
def a12(X:Cx)(r:V->Hp->(Bool->Hp->Prop)->Prop):Prop :=
 ∀(a:List (g9×Obj)) (s:hW) (b:St) (H:Hp) (x:V) (v:cr) (Q:Bool->Hp->Prop),Inv X a b H s->RelV x v->r x H Q ->
  ic 54 X.A (uQ v) (TP X a b Q) X.xe s
def Zs(r:R2)(b c:TE):TE:=λa H Q=>b a H λx d=>c a d λy e=>r x y e Q
def tUn(r:V->Hp->VK->Prop)(a:TE):TE:=λb H Q=>a b H λx c=>r x c Q
def rI(C:Int->Int->Prop)(g:Int->Int->V):R2:=λx y H Q=>∃i j,x=.int i/\y=.int j/\C i j/\Q (g i j) H
def TU(g:Int->Int->V):R2:=λx y H Q=>∃i j,x=.int i/\y=.int j/\Q (g i j) H
def rU(g:Int->V):V->Hp->VK->Prop:=λx H Q=>∃i,x=.int i/\Q (g i) H
def XJ(m:PE X a n)(o:PE X b p){c:List (g9×Obj)}{s:hW}{d:St}{H:Hp}{R:V->V->Hp->Prop}(I:Inv X c d H s)
  (h:n d H λx k=>p d k λy e=>R x y e) {Q:cr->hW->Prop} {f:cr->cr->Sem cr}
  (q:∀v u j x y e,Inv X c d e j->RelV x v->RelV y u->R x y e->ic 54 X.A (f v u) Q X.xe j) :
  ic 54 X.A (eval a X.env) (λv g=>ic 54 X.A (eval b X.env) (λu i=>ic 54 X.A (f v u) Q X.xe i) X.xe g) X.xe s:=by
 refine wc (m c s d H _ I h) λv r l=>e2a3 l λx k t z B=>?_;refine wc (o c r d k _ t B) λu j l=>e2a3 l λy e C D E=>?_;exact q v u j x y e C z D E
def xk(d:AJ X (mW op) r)(e:PE X a f)(g:PE X b i):PE X (.BinOp a op b pos) (Zs r f i):=by intro c s j H Q I h;exact wpAny_BinOp<|XJ e g I h λv u k x y l m n o q=>d c k j l x y v u Q m n o q
def WG{c:UnaryOp}{r:V->Hp->VK->Prop}(e:UnR X (unaryOp c) r)(f:PE X a g):PE X (.UnaryOp c a pos) (tUn r g):=by intro b s d H Q I h;exact UnaryOp_<|wc (f b s d H _ I h) λv i j=>e2a3 j λx k l m n=>e b i d k x v Q l m n
def opI{f:cr->cr->Sem cr}{C:Int->Int->Prop}{g:Int->Int->Int}
 (a:∀(i j:Int)(t u:Tok)(s:hW)(Q:cr->hW->Prop)(E:cr->hW->Prop),C i j->Q (.int (g i j) s.toks) 103->ic 54 X.A (f (.int i t)<|.int j u) Q E s) :
    AJ X f (rI C λi j=>.int<|g i j):=by
  intro b s l H x y v u Q I c d h
  obtain⟨i,j,rfl,rfl,e,q⟩:=h
  obtain⟨t,rfl⟩:=c
  obtain⟨k,rfl⟩:=d
  exact a i j t k s _ _ e #[.int<|g i j,H,I.tok _,#[_,rfl],q]
def ZP{f:cr->cr->Sem cr}{g:Int->Int->Int}
 (a:∀(i j:Int)(t u:Tok)(s:hW)(Q:cr->hW->Prop)(E:cr->hW->Prop),Q (.int (g i j) s.toks) 103->ic 54 X.A (f (.int i t)<|.int j u) Q E s) :
    AJ X f (TU λi j=>.int<|g i j):=by
  intro b s k H x y v u Q I c d h
  obtain⟨i,j,rfl,rfl,q⟩:=h
  obtain⟨t,rfl⟩:=c
  obtain⟨e,rfl⟩:=d
  exact a i j t e s _ _ #[.int<|g i j,H,I.tok _,#[_,rfl],q]
def Ub{f:cr->cr->Sem cr}{g:Int->Int->Bool}
 (a:∀(i j:Int)(t u:Tok)(s:hW)(Q:cr->hW->Prop)(E:cr->hW->Prop),Q (.bool<|g i j) s->ic 54 X.A (f (.int i t)<|.int j u) Q E s) :
    AJ X f (TU λi j=>.bl<|g i j):=by
  intro b s k H x y v u Q I c d h
  obtain⟨i,j,rfl,rfl,q⟩:=h
  obtain⟨t,rfl⟩:=c
  obtain⟨e,rfl⟩:=d
  exact a i j t e s _ _ #[.bl<|g i j,H,I,rfl,q]
def a13(i j:Int):Prop:=0<j/\j<1073741824
def a14(i j:Int):Prop:=0<=j/\j<=1000000/\i.natAbs<2 ^ 64
def XM(i j:Int):Prop:=(-(2 ^ 64)<i/\i<2 ^ 64)\/(-(2 ^ 64)<j/\j<2 ^ 64)
def XM.ok{i j:Int}(h:XM i j):IntMulOk i j:=by
 rcases h with⟨a,b⟩|⟨a,b⟩
 ·exact .of_left<|intBits_le_64 a b
 ·exact .of_right<|intBits_le_64 a b
def AK:AJ X (mW .Add) (TU λi j=>.int<|i+j):=ZP λ_ _ _ _ _ _ _ q=>add_int q
def G6:AJ X (mW .Sub) (TU λi j=>.int<|i-j):=ZP λ_ _ _ _ _ _ _ q=>sub_int q
def BU:AJ X (mW .Mult) (rI XM λi j=>.int<|i*j):=opI λ_ _ _ _ _ _ _ a q=>mul_int q a.ok
def MI:AJ X (mW .FloorDiv) (rI a13 λi j=>.int<|i / j):=opI λi j _ _ _ _ _ a q=>by have b:(0:Int)<j:=a.1;have c:j<1073741824:=a.2;exact floordiv_int q0d (by rw[Int.fdiv_eq_ediv_of_nonneg i q0d];exact q)<|.inl<|PyProof.noPylong_small q0d
def CZ:AJ X (mW .Mod) (rI (λ_ j=>0<j) λi j=>.int<|i%j):=opI λi j _ _ _ _ _ a q=>by exact mod_int' q0a (by rw[Int.fmod_eq_emod_of_nonneg i q0a];exact q)
def XQ:AJ X (mW .Pow) (rI a14 λi j=>.int<|i ^ j.toNat):=opI λ_ _ _ _ _ _ _ a q=>pow_int_small a.1 a.2.1 a.2.2 q
def unI{f:cr->Sem cr}{g:Int->Int}
 (a:∀(i:Int)(t:Tok)(s:hW)(Q:cr->hW->Prop)(E:cr->hW->Prop),Q (.int (g i) s.toks) 103->ic 54 X.A (f<|.int i t) Q E s) :
    UnR X f (rU λi=>.int<|g i):=by
  intro b s d H x v Q I c h
  obtain⟨i,rfl,q⟩:=h
  obtain⟨t,rfl⟩:=c
  exact a i t s _ _ #[.int<|g i,H,I.tok _,#[_,rfl],q]
def PR:UnR X (unaryOp .USub) (rU λi=>.int (-i)):=unI λ_ _ _ _ _ q=>neg_int q
noncomputable def XU:V->V->Bool
 | .wV,.wV=>true|.wV,.int _=>true|.int _,.wV=>true|.wV,.bl _=>true|.bl _,.wV=>true|.wV,.str _=>true|.str _,.wV=>true
 | .int _,.int _=>true|.bl _,.bl _=>true|.str _,.str _=>true|.ME _,.ME _=>true
 | .int _,.str _=>true|.str _,.int _=>true|.bl _,.str _=>true|.str _,.bl _=>true
 |_,_=>false
def rEq:R2:=λx y H Q=>XU x y=true/\Q (.bl<|decide<|x=y) H
def rNe:R2:=λx y H Q=>XU x y=true/\Q (.bl<|!decide (x=y)) H
def MJ{i j:Int}:decide (V.int i=V.int j)=(i==j):=by rw[kZ];simp
def PU{i j:Bool}:decide (V.bl i=V.bl j)=(i==j):=by rw[kZ];simp
def MK:decide (V.str i=V.str j)=(i==j):=by rw[kZ];simp
def ML:decide (V.ME i=V.ME j)=(i.toList==j.toList):=by rw[kZ];cases i;cases j;simp
def v4{k b:Bool}(I:Inv X a c H s)(q:Q (.bl k) H)(e:k=b):EP X a c Q (.bool b) s:=by subst e;exact#[.bl k,H,I,rfl,q]
def ZQ:AJ X (jF .Eq) rEq:=by
 intro e s f H x y v u Q I d a h;obtain⟨c,q⟩:=h
 cases x with
 |wV =>
  cases d
  cases y with
  |wV=>cases a;exact PySem.EqNone.eq_none_none<|v4 I q q0o
  |bl j=>cases a;exact PySem.EqNone.eq_none_bool<|v4 I q q0o
  |int j=>obtain⟨b,rfl⟩:=a;exact PySem.EqNone.eq_none_int<|v4 I q q0o
  |str j=>obtain⟨b,rfl⟩:=a;exact PySem.EqNone.eq_none_str<|v4 I q q0o
  |_=>exact io (show false=true from c) ig
 |bl i =>
  cases d
  cases y with
  |wV=>cases a;exact PySem.EqNone.eq_bool_none<|v4 I q q0o
  |bl j=>cases a;exact eq_bool<|v4 I q PU
  |str j=>obtain⟨b,rfl⟩:=a;exact PySem.EqMixed.eq_bool_str<|v4 I q q0o
  |_=>exact io (show false=true from c) ig
 |int i =>
  obtain⟨t,rfl⟩:=d
  cases y with
  |wV=>cases a;exact PySem.EqNone.eq_int_none<|v4 I q q0o
  |int j=>obtain⟨b,rfl⟩:=a;exact eq_int<|v4 I q MJ
  |str j=>obtain⟨b,rfl⟩:=a;exact PySem.EqMixed.eq_int_str<|v4 I q q0o
  |_=>exact io (show false=true from c) ig
 |str i =>
  obtain⟨t,rfl⟩:=d
  cases y with
  |wV=>cases a;exact PySem.EqNone.eq_str_none<|v4 I q q0o
  |bl j=>cases a;exact PySem.EqMixed.eq_str_bool<|v4 I q q0o
  |int j=>obtain⟨b,rfl⟩:=a;exact PySem.EqMixed.eq_str_int<|v4 I q q0o
  |str j=>obtain⟨b,rfl⟩:=a;exact eq_str<|v4 I q MK
  |_=>exact io (show false=true from c) ig
 |ME i =>
  obtain⟨t,rfl⟩:=d
  cases y with
  |ME j=>obtain⟨b,rfl⟩:=a;exact PySem.W.eq_bytes<|v4 I q ML
  |_=>exact io (show false=true from c) ig
 |_=>cases y<;>exact io (show false=true from c) ig
def ZR:AJ X (jF .NotEq) rNe:=by
 intro e s f H x y v u Q I d a h;obtain⟨c,q⟩:=h
 cases x with
 |wV =>
  cases d
  cases y with
  |wV=>cases a;exact PySem.EqNone.ne_none_none<|v4 I q q0o
  |bl j=>cases a;exact PySem.EqNone.ne_none_bool<|v4 I q q0o
  |int j=>obtain⟨b,rfl⟩:=a;exact PySem.EqNone.ne_none_int<|v4 I q q0o
  |str j=>obtain⟨b,rfl⟩:=a;exact PySem.EqNone.ne_none_str<|v4 I q q0o
  |_=>exact io (show false=true from c) ig
 |bl i =>
  cases d
  cases y with
  |wV=>cases a;exact PySem.EqNone.ne_bool_none<|v4 I q q0o
  |bl j=>cases a;exact ne_bool<|v4 I q<|congrArg not PU
  |str j=>obtain⟨b,rfl⟩:=a;exact PySem.EqMixed.ne_bool_str<|v4 I q q0o
  |_=>exact io (show false=true from c) ig
 |int i =>
  obtain⟨t,rfl⟩:=d
  cases y with
  |wV=>cases a;exact PySem.EqNone.ne_int_none<|v4 I q q0o
  |int j=>obtain⟨b,rfl⟩:=a;exact ne_int<|v4 I q<|congrArg not MJ
  |str j=>obtain⟨b,rfl⟩:=a;exact PySem.EqMixed.ne_int_str<|v4 I q q0o
  |_=>exact io (show false=true from c) ig
 |str i =>
  obtain⟨t,rfl⟩:=d
  cases y with
  |wV=>cases a;exact PySem.EqNone.ne_str_none<|v4 I q q0o
  |bl j=>cases a;exact PySem.EqMixed.ne_str_bool<|v4 I q q0o
  |int j=>obtain⟨b,rfl⟩:=a;exact PySem.EqMixed.ne_str_int<|v4 I q q0o
  |str j=>obtain⟨b,rfl⟩:=a;exact ne_str<|v4 I q<|congrArg not MK
  |_=>exact io (show false=true from c) ig
 |ME i =>
  obtain⟨t,rfl⟩:=d
  cases y with
  |ME j=>obtain⟨b,rfl⟩:=a;exact PySem.W.ne_bytes<|v4 I q<|congrArg not ML
  |_=>exact io (show false=true from c) ig
 |_=>cases y<;>exact io (show false=true from c) ig
def WH:AJ X (jF .Lt) (TU λi j=>.bl<|decide<|i<j):=Ub λ_ _ _ _ _ _ _ q=>lt_int q
def WI:AJ X (jF .LtE) (TU λi j=>.bl<|decide<|i<=j):=Ub λ_ _ _ _ _ _ _ q=>le_int q
def WJ:AJ X (jF .Gt) (TU λi j=>.bl<|decide<|j<i):=Ub λ_ _ _ _ _ _ _ q=>gt_int q
def ZS:AJ X (jF .GtE) (TU λi j=>.bl<|decide<|j<=i):=Ub λ_ _ _ _ _ _ _ q=>ge_int q
def XW:AJ X (jF .Is) (λx y H Q=>y=.wV/\Q (.bl<|decide<|x=.wV) H):=by
 intro a s d H x y v u Q I b c h;obtain⟨rfl,q⟩:=h;cases c;refine is_none_gen<|v4 I q ?_
 cases x<;>first
  | (cases b;rfl)
  | (obtain⟨t,rfl⟩:=b;rfl)
def MM:AJ X (jF .IsNot) (λx y H Q=>y=.wV/\Q (.bl<|!decide (x=.wV)) H):=by
 intro a s d H x y v u Q I b c h;obtain⟨rfl,q⟩:=h;cases c;refine isnot_none_gen<|v4 I q ?_
 cases x<;>first
  | (cases b;rfl)
  | (obtain⟨t,rfl⟩:=b;rfl)
def vU(b:iV)(h:op≠.In:=by decide)(a:op≠.NotIn:=by decide):jh op b=false:=by
 have c:(op==CmpOp.In)=false:=by cases op<;>first|rfl|exact io rfl h
 have d:(op==CmpOp.NotIn)=false:=by cases op<;>first|rfl|exact io rfl a
 cases b<;>simp[jh,c,d]
def G7(d:AJ X (jF op) r)(e:PE X a f)(g:PE X b i)(j:jh op b=false):PE X (.Compare a [op] [b] pos) (Zs r f i):=by intro c s k H Q I h;exact tH (XJ e g I h λv u l x y m n o p q=>d c l k m x y v u Q n o p q) j
def ZU(t:TE):TT:=λa H Q=>t a H λx b=>∃k,x=.bl k/\Q k b
def yw{g:qZ}{r:R2}(l:AJ X (jF g) r)(m:PE X a n)(o:PE X b p)(q:jh g b=false):PT X (.Compare a [g] [b] pos) (ZU<|Zs r n p):=by
 intro d s i H Q I h
 refine vd (wc (m d s i H _ I h) λv t f=>e2a3 f λx w A B C=>wc (o d t i w _ A C) λu D f=>e2a3 f λy E F G J =>
  wc (l d D i E x y v u _ F B G J) λc P f=>e2a3 f λz L M N j=>e1a2 j λk e O=>?_) q
 subst e;cases N;exact kK #[L,M,O]
def ZV(K:hI)(x:V)(H:Hp)(k:Bool):Prop :=
 match x with
 | .wV=>k=false
 | .bl b=>k=b
 | .int i=>k=(i != 0)
 | .str y=>y.length<=hV/\k=((y.length:Int) != 0)
 | .ME y=>y.size<=hV/\k=((y.size:Int) != 0)
 | .ref p=>(∃a,wF K H p a/\k=!a.isEmpty)\/(∃a,zI K H p a/\k=!a.isEmpty)\/∃c,H p=↑(.dK c)/\k=!c.isEmpty
 |_=>False
def KG(r:KV a b):(!b.isEmpty)=!a.isEmpty:=by
 cases r<;>rfl
def Ev(r:Vals b a):(!a.toArray.isEmpty)=!b.isEmpty:=by
 cases r<;>simp
def Ew:(hV:Nat)<2 ^ 63:=by rw[jo];decide
def XX:a12 X (λx H Q=>∃k,ZV X.K x H k/\Q k H):=by
 intro u s C H x v Q I g h;refine e1a2 h λk e q=>?_;have D:hV=16777216:=jo
 cases x with
 |wV =>
  cases g;have a:k=false:=e;subst a;exact truthy_none #[H,I,q]
 |bl b =>
  cases g;have a:k=b:=e;subst a;exact kK #[H,I,q]
 |int i =>
  obtain⟨t,rfl⟩:=g;have a:k=(i != 0):=e;subst a;exact PySem.P.truthy_int #[H,I,q]
 |str y =>
  obtain⟨t,rfl⟩:=g;obtain⟨A,a⟩:y.length<=hV/\k=((y.length:Int) != 0):=e;subst a;exact PySem.P.truthy_str q0a #[H,I.tok _,q]
 |ME y =>
  obtain⟨t,rfl⟩:=g;obtain⟨A,a⟩:y.size<=hV/\k=((y.size:Int) != 0):=e;subst a;exact PySem.W.truthy_bytes q0a #[H,I.tok _,q]
 |ref p =>
  cases g;have a:(∃f,wF X.K H p f/\k=!f.isEmpty)\/(∃f,zI X.K H p f/\k=!f.isEmpty)\/∃c,H p=↑(.dK c)/\k=!c.isEmpty:=e;rcases a with⟨f,j,a⟩|⟨f,j,a⟩|⟨c,j,a⟩
  ·subst a;refine e1a3 (I.list j) λn r o z=>?_;have d:=r.length;exact wpAny_truthy_list o.isList (by simp only[il];lia) #[H,I.tok _,by rw[Ev r];exact q]
  ·subst a;refine e1a3 (I.tuple j) λn r o z=>?_;have d:=r.length;exact truthy_tuple o (by simp only[il];lia) #[H,I.tok _,by rw[Ev r];exact q]
  ·subst a;obtain⟨z,B,l,r,m⟩:c.length<=hV/\(p==lG)=false/\∃l,KV c l/\s.heap.DictOf (vX X.prog X.w) p l:=I.wg p _ j;have d:c.length=l.length:=Paired.length r;exact wpAny_truthy_dict B m q0a #[H,I.tok _,by rw[KG r];exact q]
 |_=>exact(show False from e).elim
def Jk(f:PE X a g)(i:∀b,rj a X.env b=(do let v <- b;nC a.pos;lw [v] (uQ v))) :
  PT X a (λd H Q=>g d H λx e=>∃k,ZV X.K x e k/\Q k e):=by
 intro c s d H Q I h;exact isTrue_plain (wc (f c s d H _ I h) λv j l=>e2a3 l λx m n o p=>XX c j d m x v Q n o p)<|i _
def vals1(r:Vals [x] a):∃u,a=[u]/\RelV x u:=by
 cases r with
 |cons b c=>cases c;exact#[_,rfl,b]
def vals2(r:Vals [x,y] b):∃u a,b=[u,a]/\RelV x u/\RelV y a:=by
 cases r with
 |cons c d =>
  cases d with
  |cons e f=>cases f;exact#[_,_,rfl,c,e]
structure KH(h:i9)(x dx C:g9)(mA:Str->Option cr):Prop where
 obj:h.get? x=↑(kW C dx)
 ns:h.Ns1 dx mA
 ne:dx≠x
set_option tactic.hygienic true in
def N5{h:i9}{c:g9}{d:Str->Option cr}(n:h.Ns1 c d):∃f,h.get? c=↑f/\∀name,ph name f=↑(d name):=by
 obtain⟨o,g,r,i,j,k,_,l⟩:=n;refine#[o,i,λname=>?_];have e:=l name;unfold nsFind findBy at e;rw[<- ul]at e;unfold ph;rw[j];dsimp only;split
 ·rename_i y q
  rw[q]at e;exact congrArg some e
 ·rename_i q
  rw[q]at e
  have a:g.toList.any (·.refKey)=false:=by rw[List.any_eq_false];intro y m;obtain⟨z,t,b⟩:=k y<|Array.mem_toList_iff.mp m;simp[DictEntry.refKey,b]
  have p:¬g.toList.any (·.refKey)=true:=by rw[a];exact ig
  rw[ci p];exact congrArg some e
def KH.look{C:g9}(I:KH h x b C c):∃a,PySem.W.InstAt h x (kW C b) C ↑a/\∀name,ph name a=↑(c name) :=
 e1a2 (N5 I.ns) λa d e =>
 #[a,#[I.obj,rfl,rfl,d],e]
section
variable{prog:iN}{w:jf}{A:jL}{E:cr->hW->Prop}{s:hW}{K:hI}{x dx C f:g9}{mA:Str->Option cr}{name:Str}{v:cr}
def get_map{a:Bool}(X:K.In s.heap)(I:KH s.heap x dx C mA)(c:m8 K C name=true)(d:oi K C=true)
 (e:iG K (.ref C) name=↑none) (g:mA name=↑v) (b:um v=true) (h:Q v 103) :
    ic (ii prog w) A (getAttr (.ref x) name a) Q E s:=by
  refine e1a2 I.look λj J i=>?_
  exact PySem.W.get_value X J (pK c).1 (PySem.W.findObj_own d e rfl<|by rw[i,g]) b h
def PV(X:K.In s.heap)(I:KH s.heap x dx C mA)(a:m8 K C name=true)
 (b:iG K (.ref C) name=↑(some<|.ref f)) (c:oR K (.ref f)=true) (d:mA name=none) (h:Q (.ref f,[.ref x]) s) :
    ic (ii prog w) A (nc (.ref x) name i) Q E s:=by
  refine e1a2 I.look λe J g=>?_
  exact PySem.W.method_fn X J (pK a).1 (pK a).2 b (beq_iff_eq.mp c) (by show (ph name e).map (·.isSome)=↑false;rw[g,d];rfl) h
def Uc(X:K.In s.heap)(I:KH s.heap x dx C mA)
 (l:iG K (.ref C) "__setattr__"=↑(some<|.builtin "object.__setattr__")) (m:qp K C=true) (n:qO K C name=↑none) (o:oi K C=true)
 (hw:sO mA p) (q:p.length<=hV)
 (h:∀e,KH e x dx C (λy=>if y=name then some v else mA y)->jj dx s.heap e->Q () { s with heap:=e,toks:=s.toks+2}) :
    ic (ii prog w) A (setAttr (.ref x) name v) Q E s:=by
  refine e1a2 I.look λD J F=>?_
  refine PySem.W.set_plain X J l<|PySem.W.osa_open (s:=103) (r:=none) X J m n λb=>?_
  refine e1a2 (PySem.W.any_some o) λG t g=>?_
  have u:s.heap.get? x=some #[.ref C,↑dx,.plain,#v[]]:=I.obj
  refine am<|ap<|am<|am<|wpAny_loadPart u<|am<|PySem.W.Looks.here (s:=103) (pL X t) ?_
  rw[g]
  refine ap (a:=↑dx)<|am<|ap<|am ?_
  refine wpAny_nsSet1 (s:=103) I.ns λe c d=>?_
  obtain⟨H,z,B,i,j,k⟩:=c.count<|PySem.Within.cons name v hw
  refine am<|wpAny_lookBehind i (by rw[j];exact pastItsLine_dict<|i5 k<|by rw[iE];lia) ?_
  exact ap<|h _ #[(d.2 _<|Ne.symm I.ne).trans I.obj,c,I.ne] d
def PX(X:K.In s.heap)(c:qP K C=true)
 (e:iG K (.ref C) "__init__"=↑(some<|.ref f)) (i:pi K (.ref f)=↑(.type "function"))
 (h:m4 (ii prog w) (A.under (.builtin "type.__call__" #[.ref C::a,b])) (.call (.ref f) #[.ref (⇑s+1)::a,b]) (PySem.W.InitBack (⇑s+1) R)
 { s with heap:=(s.heap.push j7).push (kW C ⇑s)}) :
    m4 (ii prog w) A (.call (.ref C) #[a,b]) R s:=by
  obtain⟨j,g,d,t,k⟩:=s
  exact PySem.W.make_core (PySem.W.makes_of X c) (pq X e) (λself=>PySem.W.bind_fn X self i) (.inl rfl) h
end
noncomputable def AM(f:Str)(v:V):List (Str×V)->List (Str×V)
 | []=>[(f,v)]
 | (g,x)::r=>if g=f then (g,v)::r else (g,x)::AM f v r
def Jl(f g:Str)(v:V):∀d:List (Str×V),(AM f v d).lookup g=if g=f then some v else d.lookup g:=by
 intro i
 induction i with
 |nil =>
  show kO g [(f,v)]=_;by_cases h:g=f
  ·have a:(g==f)=true:=beq_iff_eq.mpr h;simp only[kO,a,g8 h]
  ·have a:(g==f)=false:=beq_eq_false_iff_ne.mpr h;simp only[kO,a,ci h]
 |cons j r c =>
  obtain⟨k,x⟩:=j;have l:=c;rw[show AM f v ((k,x)::r)=(if k=f then (k,v)::r else (k,x)::AM f v r) from rfl];by_cases b:k=f
  ·rw[g8 b];by_cases h:g=k
   ·have a:(g==k)=true:=beq_iff_eq.mpr h;simp only[kO,a,g8<|h.trans b]
   ·have a:(g==k)=false:=beq_eq_false_iff_ne.mpr h;simp only[kO,a,ci (λe:g=f=>h<|e.trans b.symm)]
  ·rw[ci b];by_cases h:g=k
   ·have a:(g==k)=true:=beq_iff_eq.mpr h;simp only[kO,a,ci (λe:g=f=>b<|h.symm.trans e)]
   ·have a:(g==k)=false:=beq_eq_false_iff_ne.mpr h;simp only[kO,a];exact l
def Gi(f:Str)(v:V):∀a:List (Str×V),f∈(AM f v a).map (·.1)/\∀g,g∈a.map (·.1)->g∈(AM f v a).map (·.1):=by
 intro d
 induction d with
 |nil=>exact#[by simp[AM],λg h=>by simp at h]
 |cons i r b =>
  obtain⟨k,x⟩:=i;obtain⟨j,l⟩:=b;rw[show AM f v ((k,x)::r)=(if k=f then (k,v)::r else (k,x)::AM f v r) from rfl];by_cases c:k=f
  ·rw[g8 c];subst c;exact#[q0o,λg h=>by simpa using h]
  ·rw[ci c];refine#[?_,λg h=>?_]
   ·rw[iI];exact ie _ j
   ·rw[iI]at h ⊢;rcases List.mem_cons.mp h with e|e
    ·exact List.mem_cons.mpr<|.inl e
    ·exact ie _<|l g e
def DA(f:Str)(v:V):∀a:List (Str×V),(AM f v a).length<=a.length+1
 | []=>by simp[AM]
 | (k,x)::r=>by
  have c:=DA f v r;rw[show AM f v ((k,x)::r)=(if k=f then (k,v)::r else (k,x)::AM f v r) from rfl];by_cases b:k=f
  ·rw[g8 b,iE,iE];lia
  ·rw[ci b,iE,iE];lia
def zW.some_of(r:zW ↑v o):∃u,o=↑u/\RelV v u:=by
 cases o with
 |none=>exact(show False from r).elim
 |some u=>exact#[u,rfl,r]
def zW.none_of(r:zW none o):o=none:=by
 cases o with
 |none=>rfl
 |some u=>exact(show False from r).elim
def N6(r:RelV v u):um u=true:=by
 cases v with
 |wV=>cases (show u=Value.none from r);rfl
 |bl b=>cases (show u=rN b from r);rfl
 |int i=>obtain⟨t,e⟩:=(show ∃t,u=mj i t from r);cases e;rfl
 |str x=>obtain⟨t,e⟩:=(show ∃t,u=Value.str x t from r);cases e;rfl
 |ME b=>obtain⟨t,e⟩:=(show ∃t,u=Value.bytes b t from r);cases e;rfl
 |Xo b=>obtain⟨t,e⟩:=(show ∃t,u=tG b t from r);cases e;rfl
 |ref a=>cases (show u=iw a from r);rfl
 |ty n=>cases (show u=kB n from r);rfl
def Cc(c:yA P w H h)(e:H a=↑(.ins C g fs)):∃b,KH h a g C b/\(∀f,zW (fs.lookup f)<|b f)/\sO b (fs.map (·.1))/\fs.length<=1000/\H g=↑(.own a):=by obtain⟨d,z,i,j,b,n,r,q⟩:=(show wA P w H h a (.ins C g fs) from c a _ e);exact#[b,#[j,n,i],r,q,z,d]
structure Bo(K:hI)(C:g9):Prop where
 pg:m8 K C Str.empty=true
 hd:oi K C=true
 po:qp K C=true
 sa:iG K (.ref C) "__setattr__"=↑(some<|.builtin "object.__setattr__")
def Bo.get{K:hI}{C:g9}(c:Bo K C)(f:Str):m8 K C f=true:=c.pg
def wm(K:hI)(C:g9)(f:Str):Prop:=iG K (.ref C) f=↑none
def wm.ZW{K:hI}{C:g9}{f:Str}(n:wm K C f):qO K C f=↑none:=by unfold qO;rw[show iG K (.ref C) f=some none from n];rfl
structure Meth(K:hI)(C:g9)(m:Str)(f:g9):Prop where
 at_:iG K (.ref C) m=↑(some<|.ref f)
 fn:oR K (.ref f)=true
 kp:jv K (.ref f)=true
def KI{b:Bool}(I:Inv X d j H s)(e:H a=↑(.ins C p fs))(c:Bo X.K C)(n:wm X.K C f)(l:fs.lookup f=↑v)
 (h:∀u g,Inv X d j H g->RelV v u->Q u g):ic 54 A (getAttr (.ref a) f b) Q E s:=by
  obtain⟨k,O,r,_,_,_⟩:=Cc I.wg e
  obtain⟨u,m,i⟩:=zW.some_of (v:=v) (o:=k f) (by rw[<- l];exact r f)
  exact get_map I.zl O (c.get f) c.hd n m (N6 i)<|h u _ (I.tok _) i
def BV(I:Inv X b i H s)(e:H a=↑(.ins C j fs))(c:Bo X.K C)(k:Meth X.K C m g)(l:fs.lookup m=none)
 (h:Q (.ref g,[.ref a]) s):ic 54 A (nc (.ref a) m n) Q E s:=by
  obtain⟨d,O,r,_,_,_⟩:=Cc I.wg e
  have f:d m=none:=zW.none_of (by rw[<- l];exact r m)
  exact PV I.zl O (c.get m) k.at_ k.fn f h
def KJ(I:Inv X d t H s)(e:H a=↑(.ins C i fs))(c:Bo X.K C)(n:wm X.K C f)(N:fs.length<1000)(v:RelV y u)
 (h:∀k,Inv X d t (upd H a<|.ins C i<|AM f y fs) k->Q () k):ic 54 A (setAttr (.ref a) f u) Q E s:=by
  obtain⟨l,O,r,m,_,p⟩:=Cc I.wg e
  have B:(fs.map (·.1)).length<=hV:=by rw[hR,jo];lia
  refine Uc I.zl O c.sa c.po n.ZW c.hd m B λD j F=>h _ ?_
  have G:∃o,D.get? i=↑o:=e3a2 j.ns λo _ _ J _=> #[o,J]
  refine I.write (x:=a) (e:=i) (by rw[e];exact True.intro) (.inr p) (λb q L z=>(F.2 b L).trans z) G ?_
  refine#[by rw[vo O.ne];exact p,?_,O.ne,j.obj,_,j.ns,λg=>?_,λg M=>?_]
  · have := DA f y fs; lia
  · show zW ((AM f y fs).lookup g) (if g = f then some u else l g)
    rw[Jl]
    by_cases q:g=f
    · rw[g8 q, g8 q]; exact v
    · rw[ci q, ci q]; exact r g
  · by_cases q : g = f
    · rw[q]; exact(Gi f y fs).1
    · refine(Gi f y fs).2 g (m g λz => M ?_)
      show (if g=f then some u else l g)=none
      rw[ci q];exact z
def Inv.made(I:Inv X c g H s):Inv X c g (upd (upd H ⇑s<|.own<|⇑s+1) (⇑s+1)<|.ins C ⇑s [])
  { s with heap:=(s.heap.push j7).push (kW C ⇑s)}:=by
 have d:(s.heap.push j7).get? ⇑s=↑j7:=ik s.heap rfl
 have h:((s.heap.push j7).push<|kW C ⇑s).get? (⇑s+1)=↑(kW C ⇑s):=by
  have:=ik (s.heap.push j7) (o:=kW C ⇑s) rfl
  rwa [jO]at this
 have i:(s.heap.push j7).Ns ⇑s (λ_=>none):=#[j7,#v[],_,d,rfl,(λe j=>io j q0o),λ_=>rfl];have k:=I.laid (a:=⇑s) (o:=.own<|⇑s+1) (h':=s.heap.push j7) (t':=s.toks) (λb u q=>ce _ q) (hO _) #[_,d];refine k.laid (a:=⇑s+1) (o:=.ins C ⇑s []) (t':=s.toks) (λb u q=>ce _ q) (qQ<|jO _ _) ?_;have f:⇑s≠⇑s+1:=im<|jK _;refine⟨by rw[vo f,vt],jl _,f,h,λ_=>none,(tK i).at λo q=>ce _ q,λ_=>True.intro,λy l=>io rfl l⟩
def Ud(d:iU e f a (eval e a)=eval e a)
 (h:ic (ii b w) A (eval e a) (λo c=>ic (ii b w) A (getAttr o f true) Q E c) E s):ic (ii b w) A (eval (.Attribute e f pos) a) Q E s :=
  Attribute_any_ h (by rw[arm_eval_Attribute,d])
def XY(K:hI)(d:TE)(f:Str):TE:=λe H Q=>d e H λx b=>∃a C g c v,x=.ref a/\b a=↑(.ins C g c)/\Bo K C/\wm K C f/\c.lookup f=↑v/\Q v b
def N7(K:hI)(g h:TE)(f:Str):TS:=λD b H=>h b H λy i=>g b i λx d=>∃a C e c,x=.ref a/\d a=↑(.ins C e c)/\Bo K C/\wm K C f/\c.length<1000 /\
 D.nx b (upd d a<|.ins C e<|AM f y c)
def ZX(X:Cx)(c:Operator)(d:V->V->Hp->VK->Prop):Prop :=
 ∀(a:List (g9×Obj)) (s:hW) (b:St) (H:Hp) (x y:V) (u v:cr) (Q:VK),Inv X a b H s->RelV x u->RelV y v->d x y H Q->ic 54 X.A (inplaceOp c u v) (EP X a b Q) X.xe s
def xl(g:PE X e i)(j:iU e f X.env (eval e X.env)=eval e X.env):PE X (.Attribute e f pos) (XY X.K i f):=by intro b s k H Q I h;refine Ud j<|wc (g b s k H _ I h) λu z m=>e2a3 m λx H1 o p d=>e5a6 d λa C A fs v r t c n l q=>?_;subst r;obtain rfl:u=iw a:=p;exact KI o t c n l λB D w y=>#[v,H1,w,y,q]
def C0(j:PE X o k)(m:PE X value p)(r:kj value (some<|.Attribute o f d) pos.line X.env=pure false):PS X (.Assign [.Attribute o f d] value pos) (N7 X.K k p f):=by intro b s g H D I h;refine rZ (wc (m b s g H _ I h) λu t i=>e2a3 i λy H1 v w q=>wc (j b t g H1 _ v q) λz L i=>e2a3 i λx H2 A B e=>e4a6 e λa C M fs E F c n l G=>?_) r;subst E;obtain rfl:z=iw a:=B;exact KJ A F c n l w λN J=>#[g,_,J,G]
inductive zB(K:hI)(H:Hp):V->cr->Prop where
 | wV:zB K H .wV (.type "NoneType")
 | bl (x:Bool):zB K H (.bl x) (.type "bool")
 | int (i:Int):zB K H (.int i) (.type "int")
 | str (x:Str):zB K H (.str x) (.type "str")
 | Xo (x:UInt64):zB K H (.Xo x) (.type "float")
 | lst {a:g9} {xs:List V} (e:H a=↑(.lst xs)):zB K H (.ref a) (.type "list")
 | Kv {a:g9} {o:Obj} {xs:List V} (e:H a=↑(.Kv o<|.lst xs)):zB K H (.ref a) (.type "list")
 | tup {a:g9} {xs:List V} (e:H a=↑(.tup xs)):zB K H (.ref a) (.type "tuple")
 | dK {a:g9} {xP:List (Key×V)} (e:H a=↑(.dK xP)):zB K H (.ref a) (.type "dict")
 | dT {a:g9} {xP:List (List Key×V)} (e:H a=↑(.dT xP)):zB K H (.ref a) (.type "dict")
 | ins {a C dx:g9} {fs:List (Str×V)} (e:H a=↑(.ins C dx fs)) (cl:Bo K C) (ha:iG K (.ref C) "__class__"=↑(some<|.builtin "object.__class__"))
   (hn:qq K (.builtin "object.__class__") "__get__"=↑(some<|.builtin "getset_descriptor.__get__")) (htk:qR K (.builtin "object.__class__")=↑true)
   (hm:kI K C (.type "object")=↑true):zB K H (.ref a) (.ref C)
def Gj(I:Inv X r R H s)(d:RelV x u)(B:zB X.K H x t)(e:mO X.K t c=↑b)(h:∀D,Q (.bool b) { s with toks:=D}) :
  ic 54 A (call (.builtin "isinstance") [u,c]) Q E s:=by
 cases B with
 |wV=>cases (show u=Value.none from d);exact jU PySem.W.kitx_none I.zl True.intro e (λz=>nomatch z) h
 |bl y=>cases (show u=rN y from d);exact jU PySem.W.kitx_bool I.zl True.intro e (λz=>nomatch z) h
 |int i=>obtain⟨t,q⟩:=(show ∃t,u=mj i t from d);cases q;exact jU PySem.W.kitx_int I.zl True.intro e (λz=>nomatch z) h
 |str y=>obtain⟨t,q⟩:=(show ∃t,u=Value.str y t from d);cases q;exact jU PySem.W.kitx_str I.zl True.intro e (λz=>nomatch z) h
 |Xo y=>obtain⟨t,q⟩:=(show ∃t,u=tG y t from d);cases q;exact jU PySem.W.kitx_float I.zl True.intro e (λz=>nomatch z) h
 | @lst a k f =>
  cases (show u=iw a from d);obtain⟨_,_,n,_,g⟩:=(show wA X.prog X.w H s.heap a (.lst k) from I.wg a _ f);exact jU ue I.zl #[_,g,rfl] e (λz=>nomatch z) h
 | @Kv a F k f =>
  cases (show u=iw a from d);obtain⟨_,_,_,n,_,g⟩:=(show wA X.prog X.w H s.heap a (.Kv F<|.lst k) from I.wg a _ f);exact jU ue I.zl ⟨_,g,rfl⟩ e (λz=>nomatch z) h
 | @tup a k f =>
  cases (show u=iw a from d);obtain⟨_,_,_,p⟩:=(show wA X.prog X.w H s.heap a (.tup k) from I.wg a _ f);refine e1a3 p λo g l _=>?_;exact jU PySem.W.kitx_tuple I.zl #[o,g,l] e (λz=>nomatch z) h
 | @dK a j f =>
  cases (show u=iw a from d);obtain⟨_,_,S,_,p⟩:=(show wA X.prog X.w H s.heap a (.dK j) from I.wg a _ f);obtain⟨o,G,L,g,l,_⟩:=p;exact jU uf I.zl #[o,g,l.1] e (λz=>nomatch z) h
 | @dT a j f =>
  cases (show u=iw a from d);obtain⟨_,_,k,_,o,G,L,g,l,_⟩:=(show wA X.prog X.w H s.heap a (.dT j) from I.wg a _ f);exact jU uf I.zl #[o,g,l.1] e (λz=>nomatch z) h
 | @ins a C T fs f v M N m P =>
  cases (show u=iw a from d);refine e1a2 (Cc I.wg f) λU O _=>?_;refine e1a2 O.look λY J _=>?_;exact jU (PySem.W.kitx_own (v.get _) v.hd M N m P) I.zl J e (λz=>nomatch z) h
structure wR(k:Nat)(A:jL):Prop where
 hd:A.handled=none
 dp:A.depth+3*k+5<tL
 un:A.units+16*k+200<kF
def wR.mono{j k:Nat}(r:wR k A)(h:j<=k):wR j A:=#[r.hd,by have:=r.dp;lia,by have:=r.un;lia]
def wR.deeper{k:Nat}(r:wR (k+1) A)(a:Env):wR k (A.deeper a) :=
 #[r.hd,by have:=r.dp;show A.depth+1+3*k+5<_;lia,by have:=r.un;show A.units+3+16*k+200<_;lia]
def KL{A:jL}{C:g9}{a:List cr}{b:List (Str×cr)}:(A.under<|.builtin "type.__call__" #[.ref C::a,b]).depth=A.depth+1:=by
 first|rfl|simp[sA,Code.weight,Code.isCreation,Code.isGuard,Code.isCaller,Code.frames,td,guardIds]
def KN{A:jL}{C:g9}{a:List cr}{b:List (Str×cr)}:(A.under<|.builtin "type.__call__" #[.ref C::a,b]).units=A.units+1:=by
 first|rfl|simp[sA,Code.cUnits,Code.frames,td]
def wR.make{k:Nat}(r:wR (k+1) A)(C:g9)(a:List cr)(b:List (Str×cr)):wR k (A.under<|.builtin "type.__call__" #[.ref C::a,b]) :=
 #[r.hd,by have:=r.dp;rw[KL];lia,by have:=r.un;rw[KN];lia]
def wR.depth{k:Nat}(r:wR k A):A.depth<tL:=by have:=r.dp;lia
def wR.units{k:Nat}(r:wR k A):A.units+64<kF:=by have:=r.un;lia
def BX:TA:=λ_ H Q=>Q [] H
def BH(b:TE)(c:TA):TA:=λa H Q=>b a H λx d=>c a d λe f=>Q (x::e) f
def vJ:PA X [] BX:=λ_ _ _ _ H Q I h=>lS #[[],H,I,.nil,h]
def vy(g:PE X e i)(j:PA X b t)(k:hJ (e::b) X.env=70::hJ b X.env:=by rfl):PA X (e::b) (BH i t):=by intro c a s f H Q I h;rw[k];refine ko<|wc (g a s f H _ I h) λu l d=>e2a3 d λx m n o p=>?_;exact wc (j c a l f m _ n p) λz A d=>e2a3 d λq r v w y=>#[x::q,r,v,.cons o w,y]
def a15(t:TA):TE:=λc H Q=>t c H λa b=>a.length<=hV/\∀p,b p=none->Q (.ref p) (upd b p<|.tup a)
def a16(t:TA):TE:=λc H Q=>t c H λa b=>a.length<=hV/\∀p,b p=none->Q (.ref p) (upd b p<|.lst a)
def PY{g}(h:PA X i t):PE X (.Tuple i g pos) (a15 t):=by intro a s j H Q I k;refine wpAny_Tuple_spliced<|wc (h pos a s j H _ I k) λl c m=>e2a4 m λn d f r z q=>#[by rw[<- r.length];exact z,?_];have o:d ⇑c=none:=f.wg.fresh<|hO _;refine⟨.ref ⇑c,upd d ⇑c<|.tup n,f.laid (t':=c.toks) (λb u e=>ce _ e) (hO _) ?_,rfl,q _ o⟩;exact#[z,l,r,#[_,ik _ rfl,rfl,_,rfl]]
def PZ(h:PA X g t):PE X (.List g pos) (a16 t):=by intro a s i H Q I j;refine wpAny_List_spliced<|wc (h pos a s i H _ I j) λk c l=>e2a4 l λm d f r z q=>#[by rw[<- r.length];exact z,?_];have n:d ⇑c=none:=f.wg.fresh<|hO _;refine⟨.ref ⇑c,upd d ⇑c<|.lst m,f.laid (t':=c.toks) (λb u e=>ce _ e) (hO _) ?_,rfl,q _ n⟩;exact#[z,k,0,r,ik _ rfl]
abbrev Sp:=List V->Hp->VK->XK->Prop
abbrev P0:=List Env->Hp->hW->XK->cr->hW->Prop
structure Jm(P:iN)(w:jf)(K:hI)(mg:Str->Option cr)(base:i9)(A:jL)(outer:List Env)(s:hW)(H:Hp):Prop where
 frames:A.frames=↑outer
 mod:Mod K mg base
 bs:∀b o,base.get? b=↑o->s.heap.get? b=↑o/\H b=none
 Je:base.objs.size<=⇑s
 zc:s.heap.FunFrames base outer
 Kq:∀b∈zU outer,H b=none
 wg:yA P w H s.heap
 bare:nY s.gens
def CE(a:List Env)(P:iN)(w:jf)(H:Hp)(s:hW)(Q:VK)(u:cr)(b:hW):Prop :=
 ∃v c,b.os=s.os/\nY b.gens/\Un (zU a) [] H c s.heap b.heap/\yA P w c b.heap/\RelV v u/\Q v c
def CR(c:P0)(a:List Env)(P:iN)(w:jf)(H:Hp)(s:hW)(Q:VK)(E:XK)(r:Result)(b:hW):Prop :=
 match r with
 | .ok (.ret u)=>CE a P w H s Q u b
 | .ok _=>False
 | .error e=>c a H s E e b
structure vZ(P:iN)(w:jf)(K:hI)(mg:Str->Option cr)(base:i9)(CX:P0)(k:Nat)(f:g9)(fd:iW)(ps:List Str)(sp:Sp):Prop where
 len:∀vs H Q E,sp vs H Q E->vs.length=ps.length
 run:∀(A:jL)(outer:List Env)(s:hW)(H:Hp)(args:Args)(us:List cr)(vs:List V)(Q:VK)(E:XK),wR k A->Jm P w K mg base A outer s H->tj s fd args (ps.zip us)->Vals vs us->sp vs H Q E ->
  m4 (ii P w) A (.call (.ref f) args) (CR CX outer P w H s Q E) s
def vZ.mono{P:iN}{w:jf}{K:hI}{c:Str->Option cr}{a:i9}{d:P0}{j k:Nat}{f:g9}{e:iW}{g:List Str}{i:Sp}(F:vZ P w K c a d j f e g i)(h:j<=k) :
  vZ P w K c a d k f e g i:=#[F.len,λA b s H args l m Q E n=>F.run A b s H args l m Q E<|n.mono h]
def vZ.imp{P:iN}{w:jf}{K:hI}{e:Str->Option cr}{a:i9}{g:P0}{k:Nat}{f:g9}{i:iW}{j:List Str}{l d:Sp}(F:vZ P w K e a g k f i j l)
  (h:∀c H Q E,d c H Q E->l c H Q E):vZ P w K e a g k f i j d :=
 #[λc H Q E q=>F.len c H Q E<|h _ _ _ _ q,λA b s H args m c Q E n o p r t=>F.run A b s H args m c Q E n o p r<|h _ _ _ _ t]
def Jm.make{P:iN}{w:jf}{K:hI}{c:Str->Option cr}{b:i9}{A:jL}{a:List Env}{s:hW}{H:Hp}(e:Jm P w K c b A a s H)(C:g9)(d:List cr)(f:List (Str×cr)) :
  Jm P w K c b (A.under<|.builtin "type.__call__" #[.ref C::d,f]) a s H:=#[by first|exact e.frames|(simpa[sA,Code.envs,td,pushEnvs] using e.frames),e.mod,e.bs,e.Je,e.zc,e.Kq,e.wg,e.bare]
def Inv.Jn(I:Inv X a b H s):Jm X.prog X.w X.K X.mg X.base X.A X.stack s H :=
 #[I.ok.frames,I.ok.mod,I.bs,i5 I.ok.Je I.sz,I.stack,I.MF,I.wg,I.bare]
def Inv.after(I:Inv X a j H s)(h:CE X.stack X.prog X.w H s Q u i):EP X a j Q u i:=by obtain⟨v,k,l,c,m,e,r,q⟩:=h;obtain⟨n,g,d,t,f⟩:=i;obtain rfl:f=s.os:=l;exact#[v,k,I.call (h':=n) (g':=g) (d':=d) (t':=t) (ch:=[]) m e c<|λb z=>io z q0o,r,q]
def ZY(b:Sp)(a:List V)(E:XK)(t:TA):TE:=λc H Q=>t c H λd e=>b (d++a) e Q E
def Gk(C:g9)(m:Str)(f:Sp)(b:List V)(E:XK)(g:TE)(t:TA):TE:=λc H Q=>g c H λx d=>∃a h e,x=.ref a/\d a=↑(.ins C h e)/\e.lookup m=none /\
 t c d λi j=>f (x::(i++b)) j Q E
def ZZ(C:g9)(d:Sp)(b:List V)(E:XK)(t:TA):TE:=λe H Q=>t e H λf c=>∀x a,c x=none->c a=none->a≠x ->
 d (.ref x::(f++b)) (upd (upd c a<|.own x) x<|.ins C a []) (λv g=>v=.wV/\Q (.ref x) g) E
def Binds(K:hI)(d:iW)(b:List Str)(c:List cr):Prop :=
 ∀(s:hW)(a:List cr),K.In s.heap->(a++c).length=b.length->tj s d #[a,[]] (b.zip<|a++c)
def Binds.all{K:hI}{b:List Str}(h:∀a:List cr,a.length=b.length->tM d #[a,[]]=pure (b.zip a)):Binds K d b []:=λs a _ c=>by rw[lP]at c ⊢;exact .of_eq<|h a c
def Passes(c:P0)(X:Cx)(E:XK):Prop:=∀(a:List (g9×Obj)) (d:St) (H:Hp) (s:hW) (e:cr) (b:hW),Inv X a d H s->c X.stack H s E e b->X.xe e b
def KO(F:vZ X.prog X.w X.K X.mg X.base l k f m g n)(o:wR k X.A)(p:Binds X.K m g d)(q:Vals b d)(t:Passes l X E)
 (I:Inv X a i H s)(r:Vals vs us)(h:n (vs++b) H Q E):ic 54 X.A (call (.ref f) us) (EP X a i Q) X.xe s:=by
  have j:Vals (vs++b) (us++d):=r.append q
  have v:(us++d).length=g.length:=by rw[<- j.length];exact F.len _ _ _ _ h
  refine m9<|kh (F.run X.A X.stack s H ⟨us,[]⟩ (us++d) (vs++b) Q E o I.Jn (p s us I.zl v) j h) λr x c=>?_
  cases r with
  |error e=>exact t a i H s e x I c
  |ok y =>
    cases y with
    |ret u=>exact I.after c
    |next=>exact iO c
    |brk=>exact iO c
    |cont=>exact iO c
def Ue(F:vZ X.prog X.w X.K X.mg X.base j k f l m n)(o:wR k X.A)(u:Gl X x)(v:X.mg x=↑(.ref f))(y:jv X.K (.ref f)=true)(z:Binds X.K l m B)(C:Vals c B)(D:Passes j X E)
 (G:PA X (e::b) t) (d:(x==66)=false:=by decide) (J:hJ (e::b) X.env=70::hJ b X.env:=by rfl) (g:(jB pos<|hJ b X.env).any (·.1)=false:=by rfl) :
    PE X (.Call (.Name x p) (e::b) [] pos) (ZY n c E t):=by
  intro a s L H Q I h
  refine k8<|zY I u v ?_ d
  refine pZ (h₀:=X.base) I.ok.mod.B8 y (wc (G pos a s L H _ I h) λN O M=>e2a3 M λP R i r q=>#[i.zl,?_]) J g
  exact KO F o z C D i r q
def Uf{v:Sem Bool}(J:PE X o L)(c:Bo X.K C)(y:Meth X.K C m f)(F:vZ X.prog X.w X.K X.mg X.base M k f N O P)(R:wR k X.A)(S:Binds X.K N O T)(hd:Vals i T)(U:Passes M X E)(Y:PA X (e::d) t)
  (j:hJ (e::d) X.env=70::hJ d X.env:=by rfl) (n:(jB pos<|hJ d X.env).any (·.1)=false:=by rfl)
  (ht:eval (.Call (.Attribute o m apos) (e::d) [] pos) X.env=(do
   let z <- eval o X.env
   nC apos.atName
   let (f,first) <- lw [z] (nc z m v)
   n6 pos f first (jB pos (hJ (e::d) X.env)) (nE pos (lx [] X.env))):=by rfl) :
  PE X (.Call (.Attribute o m apos) (e::d) [] pos) (Gk C m P i E L t):=by
 intro b s B H Q I h;refine oZ (pl:=v) (wc (J b s B H _ I h) λu Z p=>e2a3 p λx H1 D rx g=>e3a4 g λa dx fs ex ea l q=>?_) ht;subst ex;obtain rfl:u=iw a:=rx;refine BV D ea c y l ?_;refine pZ (first:=[.ref a]) (h₀:=X.base) I.ok.mod.B8 y.kp (wc (Y pos b Z B H1 _ D q) λus s2 p=>e2a3 p λvs H2 G r q2=>#[G.zl,?_]) j n
 exact KO (us:=.ref a::us) (vs:=.ref a::vs) F R S hd U G (.cons rfl r) q2
def P1(n:PE X o p)(c:Bo X.K C)(i:Meth X.K C m f)(F:vZ X.prog X.w X.K X.mg X.base r k f t v y)(z:wR k X.A)(B:Binds X.K t v D)(hd:Vals e D)(G:Passes r X E)
 (ht:eval (.Call (.Attribute o m apos) [] [] pos) X.env=(do
 let j <- eval o X.env
 nC apos.atName
 let (f,first) <- lw [j] (nc j m J)
 n6 pos f first (jB pos (hJ [] X.env)) (nE pos (lx [] X.env))):=by rfl) :
    PE X (.Call (.Attribute o m apos) [] [] pos) (Gk C m y e E p BX):=by
  intro b s L H Q I h
  refine oZ (pl:=J) (wc (n b s L H _ I h) λu R M=>e2a3 M λx H1 g N d=>e3a4 d λa S fs O P l q=>?_) ht
  subst O
  obtain rfl:u=iw a:=N
  refine BV g P c i l ?_
  exact tm (first:=[.ref a]) g.zl i.kp<|KO (us:=[.ref a]) (vs:=[.ref a]) F z B hd G g (.cons rfl .nil) q
structure Mk(K:hI)(C f:g9):Prop where
 makes:qP K C=true
 init:iG K (.ref C) "__init__"=↑(some<|.ref f)
 fn:oR K (.ref f)=true
 kp:jv K (.ref C)=true
def P2(M:Mk X.K C f)(F:vZ X.prog X.w X.K X.mg X.base p k f q j t)(y:wR (k+1) X.A)(z:Binds X.K q j d)(B:Vals c d)
 (D:Passes p X E) (I:Inv X b l H s) (r:Vals m us)
 (h:∀x g,H x=none->H g=none->g≠x->t (.ref x::(m++c)) (upd (upd H g<|.own x) x<|.ins C g []) (λv G=>v=.wV/\Q (.ref x) G) E) :
    ic 54 X.A (call (.ref C) us) (EP X b l Q) X.xe s:=by
  have n:=h (⇑s+1) ⇑s (I.wg.fresh<|mn _) (I.wg.fresh<|hO _)<|im<|jK _
  have i:=Inv.made (C:=C) I
  have o:Vals (V.ref (⇑s+1)::(m++c)) (iw (⇑s+1)::(us++d)):=.cons rfl<|r.append B
  have J:(iw (⇑s+1)::us++d).length=j.length:=by
    have e:=o.length
    rw[F.len _ _ _ _ n]at e
    exact e.symm
  refine m9 (PX (f:=f) I.zl M.makes M.init (beq_iff_eq.mp M.fn) (kh (F.run _ X.stack _ _ #[iw (⇑s+1)::us,[]] (iw (⇑s+1)::(us++d)) _ _ E (y.make C us [])
    (i.Jn.make C us []) (z _ (iw (⇑s+1)::us) i.zl J) o n) λr L a=>?_))
  cases r with
  |error e=>exact D b l _ _ e L i a
  |ok N =>
    cases N with
    |ret u =>
      refine e2a4 (i.after a) λv O P R S T=>?_
      subst S
      exact#[R,#[V.ref<|⇑s+1,O,P,rfl,T]]
    |next=>exact iO a
    |brk=>exact iO a
    |cont=>exact iO a
def P4(M:Mk X.K C f)(F:vZ X.prog X.w X.K X.mg X.base d k f e g i)(j:wR (k+1) X.A)(l:Gl X x)(m:X.mg x=↑(.ref C))(n:Binds X.K e g o)(q:Vals a o)(r:Passes d X E)
 (b:(x==66)=false:=by decide):PE X (.Call (.Name x p) [] [] pos) (ZZ C i a E BX):=by
  intro c s t H Q I h
  refine k8<|zY I l m ?_ b
  exact tm I.zl M.kp<|P2 (us:=[]) M F j n q r I .nil h
def PK(X:Cx)(b:List qa)(t:TA):Prop :=
 ∀(c:Pos) (a:List (g9×Obj)) (s:hW) (d:St) (H:Hp) (Q:List V->Hp->Prop),Inv X a d H s->t d H Q->ic 54 X.A (evalAll ((nE c<|lx b X.env).map (·.2))) (AP X a d Q) X.xe s
structure vz(N P:List Str)(sc:mF):Prop where
 kind:sc.kind=.function
 co:sc.isCoroutine=false
 gen:sc.isGenerator=false
 nd:N.Nodup
 pre:N.take P.length=P
 par:∀x∈P,sc.names.lookup x=some .local\/sc.names.lookup x=some .cell
 XZ:∀y∈sc.names,y.2≠.free
def Gm{b:Str->Option NameKind}:∀{a:List (Str×cr)} {m:Str->Option cr},(∀v,(x,v)∉a)->bindL b a m x=m x
 | [],_,_=>rfl
 | (n,v)::r,m,h=>by
  unfold bindL;rw[Gm λw c=>h w<|ie _ c];split
  ·have:x≠n:=by rintro rfl;exact h v h8
   simp[this]
  ·rfl
def Gn{b:Str->Option NameKind}:∀{a:List (Str×cr)} {m:Str->Option cr},(∀v,(x,v)∉a)->bindC b a m x=m x
 | [],_,_=>rfl
 | (n,v)::r,m,h=>by
  unfold bindC;rw[Gn λw c=>h w<|ie _ c];split
  ·rfl
  ·have:x≠n:=by rintro rfl;exact h v h8
   simp[this]
def N8{a:Str->Option NameKind}:∀{P:List Str} {b:List cr} {i:Nat} {m:Str->Option cr},P.Nodup->P[i]?=↑x->b[i]?=↑v->a x=some .local ->
  bindL a (P.zip b) m x=↑v:=by
 intro P
 induction P with
 |nil=>intro _ _ _ _ h;simp at h
 |cons p P g =>
  intro b i m e d c f
  cases b with
  |nil=>simp at c
  |cons w b =>
  cases i with
  |zero =>
   simp at d c;subst d;subst c;show bindL a ((p,w)::P.zip b) m p=_;unfold bindL;rw[Gm λv j=>(List.nodup_cons.mp e).1 (pr j).1,g8 f];simp
  |succ i =>
   exact g (i:=i) (List.nodup_cons.mp e).2 (by simpa using d) (by simpa using c) f
def N9{a:Str->Option NameKind}:∀{P:List Str} {b:List cr} {i:Nat} {m:Str->Option cr},P.Nodup->P[i]?=↑x->b[i]?=↑v->a x≠some .local ->
  bindC a (P.zip b) m x=↑v:=by
 intro P
 induction P with
 |nil=>intro _ _ _ _ h;simp at h
 |cons p P g =>
  intro b i m e d c f
  cases b with
  |nil=>simp at c
  |cons w b =>
  cases i with
  |zero =>
   simp at d c;subst d;subst c;show bindC a ((p,w)::P.zip b) m p=_;unfold bindC;rw[Gn λv j=>(List.nodup_cons.mp e).1 (pr j).1,ci f];simp
  |succ i =>
   exact g (i:=i) (List.nodup_cons.mp e).2 (by simpa using d) (by simpa using c) f
noncomputable def start(N:List Str)(a:List V):St:=a.map some++lE (N.length-a.length) none
noncomputable def wl(CX:P0)(P:iN)(w:jf)(K:hI)(mg:Str->Option cr)(base:i9)(N:List Str)(qual:Str)(scope:mF)(f:g9)(cd:cr)(A:jL)(outer:List Env)(s:hW)(H:Hp)(E:XK):Cx where
 prog:=P
 w:=w
 K:=K
 mg:=mg
 base:=base
 A:=A.deeper<|oY qual scope ⇑s f cd
 N:=N
 s₀:=s
 H₀:=H
 env:=oY qual scope ⇑s f cd
 outer:=outer
 stack:=oY qual scope ⇑s f cd::outer
 ex:=[]
 calm:=true
 fn:=λ_=>true
 pn:=[]
 xe:=λe s'=>ic (ii P w) (A.deeper<|oY qual scope ⇑s f cd) (uR (oY qual scope ⇑s f cd) e) (λ_ Ug=>CX outer H s E e Ug) (λe' Ug=>CX outer H s E e' Ug) s'
def Jo{a:mF}{n:Nat}(h:a.names.lookup x=some .cell):∃c,(cellsFrom n a.names []).lookup x=↑c:=by have q:=sk a.names n []<|.inl h;exact Option.isSome_iff_exists.mp q
def Oa{K:hI}{A:jL}{o:List V}
 (S:vz N C d) (R:A.handled=none) (m:Jm P w K L base A j s H) (hl:o.length=C.length) (r:Vals o M)
 (x:InCallC s ⇑s (bindL (oY l d ⇑s f J).kindOf (C.zip M) λ_=>none) (cellsFrom (⇑s+1) d.names []) (bindC (oY l d ⇑s f J).kindOf (C.zip M) λ_=>none) T) :
    Inv (wl U P w K L base N l d f J A j s H E) [] (start N o) H T:=by
  have X:C.length<=N.length:=by have:=congrArg oF S.pre;rw[mq]at this;lia
  obtain⟨G,tk,rfl,O⟩:=x.done
  have t:∀b:g9,b∉(wl U P w K L base N l d f J A j s H E).ex:=λb z=>io (show b∈([]:List g9) from z) q0o
  refine#[#[m.mod,S.kind,rfl,rfl,hO _,λy z c G g=>?_,λy B=>?_,λy c _ h=>?_,λ_=>R,tq m.frames,.inr #[rfl,rfl],λb z=>io z (t b),m.bs,m.Je,λb _ _=>t b,λb z=>io z (t b),m.zc,m.Kq],
    rfl,m.bare,Un.kept O,#[_,x.toInCall.ns,λi y v G g h3=>?_],λy c h=>#[_,x.cell y c h],m.wg.fresh (hO _),λy c h=>?_,λp D=>io (show p∈([]:List (g9×Obj)) from D) q0o,m.wg.kept O,?_]
  · exact name_of_addr x.apart (kG G)<|kG g
  · have B : d.names.lookup y = some .cell \/ d.names.lookup y = some .free := B
    rcases B with B|B
    · exact Jo B
    · exact io rfl<|S.XZ _<|kG B
  · exact mu<|x.above y c<|kG h
  · have I : i<o.length := by
      unfold start at g
      by_cases I:i<o.length
      · exact I
      · rw[jP<|by simpa using I]at g
        rw[sT]at g
        split at g<;>cases g
    have Y:o[i]?=↑v:=by
      unfold start at g
      rw[mw (by simpa using I),jS]at g
      cases e:o[i]? with
      |none=>rw[e]at g;cases g
      |some a=>rw[e]at g;cases g;rfl
    refine e1a2 (r.get Y) λu Q Z=>?_
    have D:C[i]?=↑y:=by
      rw[<- S.pre,sC q0a];exact G
    have F:C.Nodup:=by rw[<- S.pre];exact S.nd.sublist<|uS _ _
    refine#[u,Z,?_]
    rcases S.par y (jy D) with k|k
    · exact .inl #[k, N8 F D Q k]
    · obtain⟨c, e⟩ := Jo (n := ⇑s+1) k
      refine .inr #[.inl k,c,e,?_]
      have q:=x.cell y c e
      rw[N9 F D Q<|by show d.names.lookup y≠_;rw[k];decide]at q
      exact q
  · exact m.wg.fresh<|mu<|x.above y c<|kG h
  · unfold start
    show _=N.length
    rw[ij,hR,tN]
    lia
def Jq{K:hI}{k:Nat}{Z:cr} 
 (lk:K.lookup f=some #[oc,od,.func<|jQ name d h body a dV Z G pm an g ct,aa]) (L:jI K g d=true) (S:vz N M a)
 (B:∀i H Q E,sp i H Q E->i.length=M.length)
 (m:∀(A:jL)(c:List Env)(s:hW)(H:Hp)(i:List V)(Q:VK)(E:XK),wR k (A.deeper (oY d a ⇑s f g))->sp i H Q E ->
 ∃t,FP (wl O P w K R base N d a f g A c s H E) body t/\t { nx:=λ_ l=>Q .wV l,rt:=Q} (start N i) H) :
    vZ P w K R base O (k+1) f (jQ name d h body a dV Z G pm an g ct) M sp:=by
  refine#[B,λA c s H args us i Q E T C hb r D=>?_]
  have hl:=B _ _ _ _ D
  have KX:K.In s.heap:=C.mod.B8.keeps λb o e=>(C.bs b o e).1
  have U:s.heap.NoLimit:=C.mod.nolimit.keeps λb o e=>(C.bs b o e).1
  have p:∀y∈M.zip us,a.names.lookup y.1=some .local\/(a.names.lookup y.1=some .cell/\((cellsFrom (⇑s+1) a.names []).lookup y.1).isSome=true):=λ⟨n,v⟩ hy=>by
    rcases S.par n (pr hy).1 with q|q
    · exact .inl q
    · exact .inr #[q, sk _ _ _<|.inl q]
  refine codeAny_call_function T.depth (KX _ _ lk) rfl S.co S.gen rfl (tO KX L)<|hb _ _ _ _ ?_
  refine wpAny_newFunctionEnv_cells S.kind p λab he s1 x=>?_
  subst he
  refine#[U.keeps x.toInCall.keep,codeAny_func ?_]
  refine e1a2 (m A c s H i Q E (T.deeper _) D) λt ht hq=>?_
  have I:Inv (wl O P w K R base N d a f g A c s H E) [] (start N i) H s1:=Oa S T.hd C hl r x
  refine jm (ht [] s1 (start N i) H _ I hq) (λfl X z=>?_) λe X z=>z
  have F:∀{j:St} {l:Hp} {v:V} {u:cr},Inv (wl O P w K R base N d a f g A c s H E) [] j l X->RelV v u->Q v l->CE c P w H s Q u X :=
    λ{j l v u} J Y q=>#[v,l,J.os,J.bare,J.base,J.wg,Y,q]
  cases fl with
  |ret u =>
    obtain⟨v,j,l,J,Y,q⟩:=z
    exact F J Y q
  |next =>
    refine e2a2 z λj l J q=>?_
    exact F (v:=V.wV) (u:=Value.none) J rfl q
  |brk =>
    refine e2a2 z λ_ _ _ q=>?_
    exact iO q
  |cont =>
    refine e2a2 z λ_ _ _ q=>?_
    exact iO q
section
variable{X:Cx}{x:Str}{p pos:Pos}{e:iV}{es:List iV}{t:TA}{id T:String}{r:List V->Hp->VK->Prop}
def tCB(r:List V->Hp->VK->Prop)(t:TA):TE:=λa H Q=>t a H λb c=>r b c Q
def wT(d:zd X (.builtin id) r)(f:Gl X x)(g:X.mg x=none)(i:nA x=↑(.builtin id))(j:PA X (e::es) t)(k:x≠"__name__":=by decide)(b:(x==66)=false:=by decide)
 (he:hJ (e::es) X.env=70::hJ es X.env:=by rfl) (hpl:(jB pos<|hJ es X.env).any (·.1)=false:=by rfl):PE X (.Call (.Name x p) (e::es) [] pos) (tCB r t):=by
  intro a s c H Q I h
  refine k8<|zZ I f g i ?_ k b
  exact pU (wc (j pos a s c H _ I h) λl m n=>e2a3 n λo q u v w=>d a m c q o l Q u v w) he hpl
def yd(f:zd X (.type T) r)(g:Gl X x)(i:X.mg x=none)(j:nA x=↑(.type T))(k:PA X (e::es) t)(l:x≠"__name__":=by decide)(b:(x==66)=false:=by decide)
 (he:hJ (e::es) X.env=70::hJ es X.env:=by rfl) (c:(jB pos<|hJ es X.env).any (·.1)=false:=by rfl):PE X (.Call (.Name x p) (e::es) [] pos) (tCB r t):=by
  intro a s d H Q I h
  refine k8<|zZ I g i j ?_ l b
  exact ky (wc (k pos a s d H _ I h) λm n o=>e2a3 o λq u v w y=>f a n d u q m Q v w y) he c
def KP(c:zd X (.type T) r)(d:Gl X x)(f:X.mg x=none)(g:nA x=↑(.type T))(i:x≠"__name__":=by decide)(b:(x==66)=false:=by decide) :
  PE X (.Call (.Name x p) [] [] pos) (tCB r BX):=by
 intro a s j H Q I h;refine k8<|zZ I d f g ?_ i b;exact PyProof.Rows.callWith_type0<|c a s j H [] [] Q I .nil h
end
end L2
namespace HT
open PySem PyProof.Rows
noncomputable def xB(n d:Nat):Option Int->Nat
 |none=>d
 |some v=>if v<0 then (v+(n:Int)).toNat else min v.toNat n
def Jr(n d:Nat):xB n d none=d:=rfl
def MN(n d k:Nat):xB n d ↑(k:Int)=min k n:=by show (if (k:Int)<0 then ((k:Int)+(n:Int)).toNat else min (k:Int).toNat n)=min k n;rw[ci q0a,l8]
def a18(n d:Nat)(b:d<=n)(o:Option Int):xB n d o<=n:=by
 cases o with
 |none=>exact b
 |some v =>
  show (if v<0 then (v+(n:Int)).toNat else min v.toNat n)<=n;by_cases a:v<0
  ·rw[g8 a];lia
  ·rw[ci a];exact Nat.min_le_right _ _
def MO(v:Int)(n d:Nat):(if v<0 then max (v+(n:Int)) 0 else min v (n:Int))=((xB n d ↑v:Nat):Int):=by
 show (if v<0 then max (v+(n:Int)) 0 else min v (n:Int))=(((if v<0 then (v+(n:Int)).toNat else min v.toNat n):Nat):Int);by_cases a:v<0
 ·simp only[g8 a];lia
 ·simp only[ci a];lia
def KQ(lo a:Option Int)(n:Nat):qw lo a 1 (n:Int)=(((xB n 0 lo:Nat):Int),((xB n n a:Nat):Int)):=by
 refine Prod.ext ?_ ?_
 ·cases lo with
  |none=>rfl
  |some v=>exact MO v n 0
 ·cases a with
  |none=>rfl
  |some v=>exact MO v n n
def KR(i j:Nat):lQ (i:Int) (j:Int) 1=j-i:=by unfold lQ;split<;>lia
def Ex(p:qy v o)(h:Q o s):ic (ii a w) A (Builtin.Slice.slicePartIndex v) Q E s:=by
 cases p with
 |none=>exact slicePart_none h
 |int i t=>exact slicePart_int h
def zJ{lo:Option Int}{n:Nat}(g:s.heap.IsSliceOf sl d e .none)(i:qy d lo)(j:qy e c)
 (h:Q (((xB n 0 lo:Nat):Int),1,xB n n c-xB n 0 lo) s):ic (ii f w) A (Builtin.Slice.sliceApplied (.ref sl)<|pure (n:Int)) Q E s:=by
  refine e1a3 (id g) λos a k b=>?_
  refine am<|am<|jp a b (x:=d) rfl<|am<|jp a b (x:=e) rfl<|am<|jp a b (x:=.none) rfl<|ap ?_
  refine am<|slicePart_none ?_
  rw[ci q0q]
  refine am<|Ex i<|am<|Ex j<|am<|ap ?_
  show ic _ _ (match qw lo c 1 (n:Int) with|(lo,c)=>pure (lo,(1:Int),lQ lo c 1)) _ _ s
  rw[KQ lo c n]
  show ic _ _ (pure (((xB n 0 lo:Nat):Int),(1:Int),lQ ((xB n 0 lo:Nat):Int) ((xB n n c:Nat):Int) 1)) _ _ s
  rw[KR]
  exact ap h
def P5(a:Array cr)(i k:Nat):((iD k).filterMap λ(m:Nat)=>a[((i:Int)+(m:Int)*1).toNat]?).toArray=((a.toList.drop i).take k).toArray:=by
 have e:(λ(m:Nat)=>a[((i:Int)+(m:Int)*1).toNat]?)=λm=>a[i+m]?:=by
  funext m
  have:((i:Int)+(m:Int)*1).toNat=i+m:=by lia
  rw[this]
 rw[e];have:=pick_run a i k;rw[uz]at this;have b:((λx=>a[x]?)∘λx=>i+x)=λm=>a[i+m]?:=rfl;rw[b]at this;rw[this]
def Cd{t sl:g9}{items:Array cr}{vl vu:cr}{lo hi:Option Int}{Q:cr->hW->Prop}(ht:IsTup s.heap t items)(hs:s.heap.IsSliceOf sl vl vu .none)(pl:qy vl lo)(pu:qy vu hi)
  (hw:¬(xB items.size 0 lo=0/\xB items.size items.size hi=items.size))
  (h:Q (.ref ⇑s) { s with heap:=s.heap.push { cls:=.type "tuple",data:=.seq ((items.toList.drop<|xB items.size 0 lo).take<|xB items.size items.size hi-xB items.size 0 lo).toArray}})
  (hsz:items.size<=hV):ic (ii prog w) A (oE (.ref t)<|.ref sl) Q E s:=by
 have MP:sizeOk (.seq ((items.toList.drop<|xB items.size 0 lo).take<|xB items.size items.size hi-xB items.size 0 lo).toArray):=by show ((items.toList.drop<|xB items.size 0 lo).take<|xB items.size items.size hi-xB items.size 0 lo).toArray.size<=hV;rw[il,mq,nw,hZ];omega
 refine e1a3 (id hs) λos hos hcs hds=>?_;have hTs:s.TypeIs (.ref sl) "slice":=#[os,hos,hcs];unfold oE
 try with_reducible refine iQ ?_
 first|refine am (ap ?_)|skip
 refine am<|wpAny_sequenceKey ht.typeIs q0q ?_
 refine am (wpAny_callSpecial?_slot (name:=my "__getitem__") ht.typeIs kS
  (jg kS ht.typeIs entry_tuple_getitem ?_ (args_tuple_getitem _ _)))
 show ic _ _ (qr (.ref t) >>= _) _ _ s;refine am<|tupleItemsOf_ ht ?_;refine am<|lA hTs ?_;rw[g8 q0q];refine am<|zJ hs pl pu ?_
 have hno:¬((((xB items.size 0 lo:Nat):Int)==0&&(1:Int)==1&&(xB items.size items.size hi-xB items.size 0 lo)==items.size)=true):=by intro q;rw[iY,iY]at q;have q1:((xB items.size 0 lo:Nat):Int)=0:=eq_of_beq q.1.1;have q2:xB items.size items.size hi-xB items.size 0 lo=items.size:=eq_of_beq q.2;exact hw #[q0d,q0d]
 show ic _ _ (if (((xB items.size 0 lo:Nat):Int)==0&&(1:Int)==1&&(xB items.size items.size hi-xB items.size 0 lo)==items.size)=true then _ else _) _ _ s;rw[ci hno,P5]
 first
  | exact am (m:=lX _)<|iZ (ap #[_,rfl,ap h]) MP
  | exact am (m:=lX _)<|iZ (am<|ap<|ap #[_,rfl,ap h]) MP
  | exact am<|am (m:=lX _)<|iZ (ap<|ap #[_,rfl,ap h]) MP
  | exact am<|am (m:=lX _)<|iZ (ap #[_,rfl,ap h]) MP
end HT
namespace L2
open PySem PySem.Spec PyProof.Rows
abbrev TO:=St->Hp->(Option Int->Hp->Prop)->Prop
def PO(X:Cx)(e:Option iV)(t:TO):Prop :=
 ∀(a:List (g9×Obj)) (s:hW) (b:St) (H:Hp) (Q:Option Int->Hp->Prop),Inv X a b H s->t b H Q ->
  ic 54 X.A (evalPart e X.env) (λu d=>∃o c,Inv X a b c d/\qy u o/\Q o c) X.xe s
def Uh:TO:=λ_ H Q=>Q none H
def Z0(t:TE):TO:=λa H Q=>t a H λx b=>∃i,x=.int i/\Q ↑i b
def intsAre_of{a:List Int}:∀{b:List cr},Vals (a.map V.int) b->lK b a:=by
 induction a with
 |nil=>intro b r;rw[o9]at r;cases r;exact .nil
 |cons n a c =>
  intro b r;rw[iI]at r
  cases r with
  |cons d f =>
   obtain⟨t,e⟩:=d;subst e;exact .cons n t<|c f
section
variable{X:Cx}{e:iV}{te:TE}{lo hi:Option iV}{tl th:TO}{pos p2:Pos}
def DU:PO X none Uh:=by intro a s b H Q I h;rw[uo];exact ap #[none,H,I,.none,h]
def DV(h:PE X e te):PO X ↑e (Z0 te):=by intro a s b H Q I c;rw[evalPart_some];refine wc (h a s b H _ I c) λu l d=>e2a3 d λx f g j k=>?_;obtain⟨i,rfl,q⟩:=k;obtain⟨t,rfl⟩:=j;exact#[↑i,f,g,.int i t,q]
def WK(X:Cx)(r:V->Option Int->Option Int->Hp->VK->Prop):Prop :=
 ∀(a:List (g9×Obj)) (s:hW) (b:St) (H:Hp) (x:V) (v c d:cr) (lo hi:Option Int) (f:g9) (Q:VK),Inv X a b H s->RelV x v->s.heap.IsSliceOf f c d .none->qy c lo->qy d hi->r x lo hi H Q ->
  ∃T g,nW (.type T) "__getitem__"=pure (some<|.builtin g)/\s.TypeIs v T/\ic 54 X.A (oE v<|.ref f) (EP X a b Q) X.xe s
def WK.or(h:WK X r)(l:WK X m):WK X (λx lo hi H Q=>r x lo hi H Q\/m x lo hi H Q):=by
 intro a s b H x v c d lo hi f Q I g i j k q;rcases q with q|q
 ·exact h a s b H x v c d lo hi f Q I g i j k q
 ·exact l a s b H x v c d lo hi f Q I g i j k q
def tSl(r:V->Option Int->Option Int->Hp->VK->Prop)(te:TE)(tl th:TO):TE:=λa H Q=>te a H λx b=>tl a b λl c=>th a c λu d=>r x l u d Q
def AN(k:WK X r)(m:PE X e te)(n:PO X lo tl)(o:PO X hi th):PE X (.Subscript e (.Slice lo hi none p2) pos) (tSl r te tl th):=by intro a s d H Q I h;refine tP<|wc (m a s d H _ I h) λv p f=>e2a3 f λx t w y z=>?_;refine wpAny_Slice<|wc (n a p d t _ w z) λg A f=>e2a3 f λl B C D E=>wc (o a A d B _ C E) λi c f=>e2a3 f λu j F G J=>?_;rw[uo];refine ap ?_;have L:Inv X a d j { c with heap:=c.heap.push { cls:=.type "slice",data:=.fields #v[g,i,.none]}}:=F.kept (t':=c.toks) λb P q=>ce _ q;obtain⟨T,R,M,N,O⟩:=k a { c with heap:=c.heap.push { cls:=.type "slice",data:=.fields #v[g,i,.none]}} d j x v g i l u ⇑c Q L y (rE ..) D G J;exact tail_any (ops:=[.ref ⇑c,v]) N M O (by with_unfolding_all rfl)
noncomputable def Ey(a:List V)(lo hi:Option Int):List V:=(a.drop<|HT.xB a.length 0 lo).take<|HT.xB a.length a.length hi-HT.xB a.length 0 lo
def DB(a:List V)(lo hi:Option Int):(Ey a lo hi).length<=a.length:=by unfold Ey;rw[mq,nw];omega
def a19(K:hI):V->Option Int->Option Int->Hp->VK->Prop:=λx lo hi H Q=>∃a b,x=.ref a/\zI K H a b /\
 ¬(HT.xB b.length 0 lo=0/\HT.xB b.length b.length hi=b.length)/\∀p,H p=none->Q (.ref p) (upd H p<|.tup<|Ey b lo hi)
def X0:WK X (a19 X.K):=by
 intro g s u H x v w y lo hi z Q I k l m n h;obtain⟨a,d,rfl,p,t,q⟩:=h;cases k;refine e1a3 (I.tuple p) λf r i j=>?_;have c:f.toArray.size=d.length:=by rw[il];exact r.length.symm
 refine#["tuple",_,PyProof.Rows.slot_tuple_getitem.lookup,i.typeIs,?_];refine HT.Cd i l m n (by rw[c];exact t) ?_ (by rw[c];exact j);rw[c];refine#[.ref ⇑s,_,I.laid (t':=s.toks) (o:=.tup<|Ey d lo hi) (λb A q=>ce _ q) (hO _) ?_,rfl,q _<|I.wg.fresh<|hO _];exact#[i5 (DB d lo hi) j,_,(r.drop<|HT.xB d.length 0 lo).take<|HT.xB d.length d.length hi-HT.xB d.length 0 lo,IsTup.new _ _]
end
noncomputable def Px(n:Nat)(i:Int):Option Nat:=if 0<=i then (if i<n then some i.toNat else none) else if -(n:Int)<=i then some (i+n).toNat else none
noncomputable def Ez{a:Type}(b:List a)(i:Int):Option a:=(Px b.length i).bind λj=>b[j]?
def MQ{n:Nat}{i:Int}{j:Nat}(h:Px n i=↑j):seqIndex? i n=↑j/\j<n/\-(n:Int)<=i/\i<n:=by
 unfold Px at h;by_cases b:0<=i
 ·rw[g8 b]at h;by_cases a:i<n
  ·rw[g8 a]at h;have e:i.toNat=j:=ja h;exact#[by rw[seqIndex_of b a,e],q0a,q0a,a]
  ·rw[ci a]at h;cases h
 ·rw[ci b]at h;by_cases a:-(n:Int)<=i
  ·rw[g8 a]at h;have e:(i+n).toNat=j:=ja h;exact#[by rw[uT q0a a,e],q0a,a,q0a]
  ·rw[ci a]at h;cases h
def MR{α:Type}{xs:List α}{i:Int}{v:α}(h:Ez xs i=↑v):∃j,seqIndex? i xs.length=↑j/\xs[j]?=↑v/\j<xs.length/\-(xs.length:Int)<=i/\i<xs.length:=by
 unfold Ez at h
 cases e:Px xs.length i with
 |none=>rw[e]at h;cases h
 |some j =>
  rw[e]at h;obtain⟨h1,h2,h3,h4⟩:=MQ e;exact#[j,h1,h,h2,h3,h4]
def MS{α:Type}{xs:List α}{j:Nat}{v:α}(h:xs[j]?=↑v):Ez xs (j:Int)=↑v:=by
 have hj:j<xs.length:=(List.getElem?_eq_some_iff.mp h).1
 have e:Px xs.length (j:Int)=↑j:=by unfold Px;rw[g8 q0a,g8 q0a];simp
 unfold Ez;rw[e];exact h
def MT(b:iV):Prop:=∀o i,sD b false o i=operate [o,i] (oE o i)
def IxR(X:Cx)(r:R2):Prop :=
 ∀(c a:iV) (b:List (g9×Obj)) (s:hW) (d:St) (H:Hp) (x y:V) (v u:cr) (Q:VK),Inv X b d H s->RelV x v->RelV y u->r x y H Q ->
  sD a false v u=operate [v,u] (oE v u)->ic 54 X.A (subscriptTail c a v u) (EP X b d Q) X.xe s
def MtR(X:Cx)(e:String)(r:V->List V->Hp->VK->Prop):Prop :=
 ∀(a:List (g9×Obj)) (s:hW) (b:St) (H:Hp) (x:V) (c:List V) (v:cr) (d:List cr) (Q:VK),Inv X a b H s->RelV x v->Vals c d->r x c H Q ->
  ic 54 X.A (call (.builtin e) (v::d)) (EP X a b Q) X.xe s
section
variable{X:Cx}
def yU(d:IxR X r)(e:PE X a f)(g:PE X b i)(j:MT b):PE X (.Subscript a b pos) (Zs r f i):=by intro c s k H Q I h;exact tP<|XJ e g I h λv u l x y m n o p q=>d a b c l k m x y v u Q n o p q<|j _ _
def a2b(K:hI):R2:=λx y H Q=>∃p a i v,x=.ref p/\y=.int i/\wF K H p a/\Ez a i=↑v/\Q v H
def a2c(K:hI):R2:=λx y H Q=>∃p a i v,x=.ref p/\y=.int i/\zI K H p a/\Ez a i=↑v/\Q v H
def xf:IxR X (a2b X.K):=by
 intro value slice a s g H x y v u Q I n o h k;obtain⟨p,J,i,z,rfl,rfl,A,B,q⟩:=h;cases n;obtain⟨t,rfl⟩:=o;refine e1a3 (I.list A) λc r d L=>?_;obtain⟨j,b,C,M,D,E⟩:=MR B;refine e1a2 (r.get C) λw l e=>?_;have F:=r.length;have N:=Ew;have fin:EP X a g Q w s:=#[z,H,I,e,q];by_cases m:0<=i
 ·have f:i.toNat=j:=by rw[seqIndex_of m E]at b;exact ja b
  exact item_listR d.isList m q0a (by rw[f];simpa using l) fin k
 ·have f:(i+(c.toArray.size:Int)).toNat=j:=by rw[uT q0a D]at b;rw[il,<- F];exact ja b
  exact uU (x:=w) d.isList.typeIs slot_list_getitem.lookup
   (wpAny_getItem_list_neg (Q:=λr G=>r=w/\EP X a g Q r G) d.isList q0a (by rw[il]<;>lia) q0a (by rw[f];simpa using l) #[rfl,fin]) k
def P6:IxR X (a2c X.K):=by
 intro value slice a s c H x y v u Q I e f h g;obtain⟨p,D,i,z,rfl,rfl,k,l,q⟩:=h;cases e;obtain⟨t,rfl⟩:=f;refine e1a3 (I.tuple k) λm r d E=>?_;obtain⟨j,n,o,F,G,J⟩:=MR l;refine e1a2 (r.get o) λw A b=>?_;have B:=r.length;have L:=Ew;have fin:EP X a c Q w s:=#[z,H,I,b,q]
 exact uU (x:=w) d.typeIs slot_tuple_getitem.lookup
  (getItem_tuple (j:=j) (Q:=λr C=>r=w/\EP X a c Q r C) d q0a q0a (by rw[il,<- B];exact n) (by simpa using A) #[rfl,fin]) g
def KS(a:List cr)(n j:Nat)(u:cr):Obj.mapSeq (·.setIfInBounds j u) { cls:=.type "list",data:=.seq a.toArray n}={ cls:=.type "list",data:=.seq (a.set j u).toArray n}:=by simp[Obj.mapSeq]
def Inv.lst(I:Inv X b d H s)(h:H p=↑(.lst c)) :
  ∃(a:List cr)(n:Nat),Vals c a/\s.heap.get? p=some { cls:=.type "list",data:=.seq a.toArray n}/\c.length<=hV:=by
 obtain⟨z,a,n,r,e⟩:=I.wg p _ h;exact#[a,n,r,e,z]
def Inv.X1{c a:List cr}{n g:Nat}(I:Inv X d k H s)(h:H p=↑(.lst v))
 (l:s.heap.get? p=some { cls:=.type "list",data:=.seq c.toArray n}) (i:f { cls:=.type "list",data:=.seq c.toArray n}={ cls:=.type "list",data:=.seq a.toArray g}) (r:Vals j a) (m:j.length<=hV) (t:Nat) :
    Inv X d k (upd H p<|.lst j) { s with heap:=s.heap.update p f,toks:=t}:=by
  have e:(s.heap.update p f).get? p=some { cls:=.type "list",data:=.seq a.toArray g}:=by
    rw[jd f l (by rw[i]<;>rfl),i]
  refine I.write (x:=p) (e:=p) (by rw[h];trivial) (.inl rfl) (λb u o q=>(iR _ _<|Ne.symm o).trans q) #[_,e] ?_
  exact#[m,a,g,r,e]
def WM:V->V->V->Hp->(Hp->Prop)->Prop:=λo i v H Q=>∃p a k j,o=.ref p/\i=.int k/\H p=↑(.lst a)/\Px a.length k=↑j/\Q (upd H p<|.lst<|a.set j v)
def set_list:Xy X WM:=by
 intro a s y H o i v F G u Q I z A B h;obtain⟨p,C,k,j,rfl,rfl,g,D,q⟩:=h;cases z;obtain⟨t,rfl⟩:=A;obtain⟨b,n,r,d,E⟩:=I.lst g;obtain⟨c,J,l,m⟩:=MQ D;have e:=r.length;have L:=Ew
 have w:Inv X a y (upd H p<|.lst<|C.set j v) { s with heap:=s.heap.update p (Obj.mapSeq (·.setIfInBounds j u))} :=
  I.X1 g d (KS b n j u) (r.set B j) (by rw[k9];exact E) s.toks
 by_cases x:0<=k
 ·have f:k.toNat=j:=by rw[seqIndex_of x m]at c;exact ja c
  exact PySem.W.ki_setAt d x q0a (by rw[il,<- e];exact m) (by rw[f];exact#[_,w,q])
 ·have f:(k+(b.toArray.size:Int)).toNat=j:=by rw[uT q0a l]at c;rw[il,<- e];exact ja c
  exact PySem.W.ki_setBack d q0a (by rw[il,<- e];exact l) q0a (by rw[f];exact#[_,w,q])
def G8(a b:Option Int)(n:Nat):(n8 a b none n).1=((HT.xB n 0 a:Nat):Int)/\(n8 a b none n).2.1=((HT.xB n n b:Nat):Int)/\(n8 a b none n).2.2=1:=by
 refine#[?_,?_,rfl]
 ·cases a with
  |none=>simp[n8,HT.xB]
  |some i =>
   simp only[n8,HT.xB,qI,show (1:Int)>0 by decide,if_true];by_cases h:i<0
   ·simp only[h,if_true]<;>lia
   ·simp only[h,pM]<;>lia
 ·cases b with
  |none=>simp[n8,HT.xB]
  |some i =>
   simp only[n8,HT.xB,qI,show (1:Int)>0 by decide,if_true];by_cases h:i<0
   ·simp only[h,if_true]<;>lia
   ·simp only[h,pM]<;>lia
def FR(a:List cr)(b c:Option Int):slicePick a.toArray b c none=((a.drop<|HT.xB a.length 0 b).take<|HT.xB a.length a.length c-HT.xB a.length 0 b).toArray:=by refine e0a3 (G8 b c a.toArray.size) λd e f=>?_;unfold slicePick;rw[d,e,f];simp only[sliceRange_one,pick_run,il]<;>rfl
def a2d(K:hI):V->Option Int->Option Int->Hp->VK->Prop:=λx c d H Q=>∃a b,x=.ref a/\wF K H a b/\∀p,H p=none->Q (.ref p) (upd H p<|.lst<|Ey b c d)
def DW:WK X (a2d X.K):=by intro g s u H x v w y e f z Q I j k l m h;obtain⟨a,c,rfl,n,q⟩:=h;cases j;refine e1a3 (I.list n) λp r i t=>?_;have d:=r.length;refine#["list",_,slot_list_getitem.lookup,i.isList.typeIs,?_];refine uq i.isList k l m .none q0o ?_ (by rw[il]<;>lia);rw[FR,<- d];refine#[.ref ⇑s,_,I.laid (t':=s.toks) (o:=.lst<|Ey c e f) (λb A q=>ce _ q) (hO _) ?_,rfl,q _<|I.wg.fresh<|hO _];exact#[i5 (DB c e f) t,_,0,(r.drop<|HT.xB c.length 0 e).take<|HT.xB c.length c.length f-HT.xB c.length 0 e,ik _ rfl]
noncomputable def Ce:V->Bool
 | .wV=>true
 | .bl _=>true
 | .int _=>true
 | .str _=>true
 |_=>false
noncomputable def TV:V->V->Bool
 | .wV,.wV=>true
 | .bl a,.bl b=>a==b
 | .bl a,.int b=>(if a then 1 else 0)==b
 | .int a,.bl b=>a==(if b then 1 else 0)
 | .int a,.int b=>a==b
 | .str a,.str b=>a==b
 |_,_=>false
def X2(e:RelV y u)(c:RelV x v)(g:Ce y=true)(f:Ce x=true):SeqAt.EqAt A s u v (TV y x):=by
 cases y with
 |wV =>
  cases e
  cases x with
  |wV=>cases c;exact SeqAt.EqAt.same _
  |bl b=>cases c;exact SeqAt.EqAt.none_bool b
  |int b=>obtain⟨t,rfl⟩:=c;exact SeqAt.EqAt.none_int b t
  |str b=>obtain⟨t,rfl⟩:=c;exact SeqAt.EqAt.none_str b t
  |_=>exact io (show false=true from f) ig
 |bl a =>
  cases e
  cases x with
  |wV=>cases c;exact SeqAt.EqAt.bool_none a
  |bl b=>cases c;exact SeqAt.EqAt.bool_bool a b
  |int b=>obtain⟨t,rfl⟩:=c;exact SeqAt.EqAt.bool_int a b t
  |str b=>obtain⟨t,rfl⟩:=c;exact SeqAt.EqAt.bool_str a b t
  |_=>exact io (show false=true from f) ig
 |int a =>
  obtain⟨d,rfl⟩:=e
  cases x with
  |wV=>cases c;exact SeqAt.EqAt.int_none a d
  |bl b=>cases c;exact SeqAt.EqAt.int_bool a d b
  |int b=>obtain⟨t,rfl⟩:=c;exact SeqAt.EqAt.int_int a d b t
  |str b=>obtain⟨t,rfl⟩:=c;exact sx a d b t
  |_=>exact io (show false=true from f) ig
 |str a =>
  obtain⟨d,rfl⟩:=e
  cases x with
  |wV=>cases c;exact SeqAt.EqAt.str_none a d
  |bl b=>cases c;exact SeqAt.EqAt.str_bool a d b
  |int b=>obtain⟨t,rfl⟩:=c;exact sy a d b t
  |str b=>obtain⟨t,rfl⟩:=c;exact SeqAt.EqAt.str_str a d b t
  |_=>exact io (show false=true from f) ig
 |_=>exact io (show false=true from g) ig
noncomputable def KU(x:V)(u:cr):Bool:=match u with
 | .none=>TV .wV x
 | .bool b=>TV (.bl b) x
 | .int i _=>TV (.int i) x
 | .str z _=>TV (.str z) x
 |_=>false
def P7(r:RelV y u)(f:Ce y=true):KU x u=TV y x:=by
 cases y with
 |wV=>cases r;rfl
 |bl b=>cases r;rfl
 |int i=>obtain⟨t,rfl⟩:=r;rfl
 |str z=>obtain⟨t,rfl⟩:=r;rfl
 |_=>exact io (show false=true from f) ig
def DX:∀{a:List V} {b:List cr},Vals a b->a.all Ce=true->b.any (KU x)=a.any λy=>TV y x:=by
 intro _ _ z f
 induction z with
 |nil=>rfl
 |cons h t c =>
  rw[qt,iY]at f;rw[oN,oN,P7 h f.1,c f.2]
def AO(d:RelV x v)(e:Ce x=true):∀{b:List V} {c:List cr},Vals b c->b.all Ce=true->∀u∈c,SeqAt.EqAt A s u v (KU x u)
 |_,_,.nil,_=>λu a=>by cases a
 |y::b,u::c,.cons r t,f=>λg a=>by
  rw[qt,iY]at f;rcases List.mem_cons.mp a with rfl|a
  ·rw[P7 r f.1];exact X2 r d f.1 e
  ·exact AO d e t f.2 g a
noncomputable def inV(x:V)(a:List V):Bool:=a.any λy=>TV y x
def rIn(K:hI)(b:Bool):R2:=λx y H Q=>∃p a,y=.ref p/\(wF K H p a\/zI K H p a)/\Ce x=true/\a.all Ce=true/\Q (.bl<|if b then !inV x a else inV x a) H
def Go:AJ X (jF .In) (rIn X.K false):=by
 intro f s l H x y v u Q I g j h;obtain⟨p,m,rfl,b,i,c,q⟩:=h;cases j;rcases b with b|b
 ·refine e1a3 (I.list b) λa r d k=>?_;refine SeqAt.in_listAt (KU x) d.isList (λw e=>AO g i r c w<|by simpa using e) #[.bl _,H,I,rfl,?_];rw[show a.toArray.any (KU x)=a.any (KU x) by simp,DX r c];exact q
 ·refine e1a3 (I.tuple b) λa r d k=>?_;refine SeqAt.in_tupleAt (KU x) d (λw e=>AO g i r c w<|by simpa using e) #[.bl _,H,I,rfl,?_];rw[show a.toArray.any (KU x)=a.any (KU x) by simp,DX r c];exact q
def Cf:AJ X (jF .NotIn) (rIn X.K true):=by
 intro f s l H x y v u Q I g j h;obtain⟨p,m,rfl,b,i,c,q⟩:=h;cases j;rcases b with b|b
 ·refine e1a3 (I.list b) λa r d k=>?_;refine SeqAt.notIn_listAt (KU x) d.isList (λw e=>AO g i r c w<|by simpa using e) #[.bl _,H,I,rfl,?_];rw[show a.toArray.any (KU x)=a.any (KU x) by simp,DX r c];exact q
 ·refine e1a3 (I.tuple b) λa r d k=>?_;refine SeqAt.notIn_tupleAt (KU x) d (λw e=>AO g i r c w<|by simpa using e) #[.bl _,H,I,rfl,?_];rw[show a.toArray.any (KU x)=a.any (KU x) by simp,DX r c];exact q
def xR:zd X (.builtin "len") (λg H Q=>∃p b,g=[.ref p]/\(wF X.K H p b\/zI X.K H p b)/\Q (.int b.length) H):=by
 intro i s l H g m Q I r h;obtain⟨p,b,rfl,c,q⟩:=h;obtain⟨u,rfl,j⟩:=vals1 r;cases j;have n:=Ew;rcases c with c|c
 ·refine e1a3 (I.list c) λd e f k=>?_;have a:=e.length;exact Calls.call_len_list f.isList (by simp only[il]<;>lia) #[.int b.length,H,I.tok _,#[s.toks+1,by rw[il,a]],q]
 ·refine e1a3 (I.tuple c) λd e f k=>?_;have a:=e.length;exact len_tuple f (by simp only[il]<;>lia) #[.int b.length,H,I.tok _,#[s.toks+1,by rw[il,a]],q]
def yW:zd X (.type "list") (λB H Q=>∃p d,B=[.ref p]/\(wF X.K H p d\/zI X.K H p d)/\∀l,H l=none->Q (.ref l) (upd H l<|.lst d)):=by
 intro i s D H B F Q I r h;obtain⟨p,d,rfl,j,q⟩:=h;obtain⟨u,rfl,E⟩:=vals1 r;cases E
 have k:∀(a:List cr),Vals d a->d.length<=hV->∀(c:i9)(f:Nat),(∀b C,s.heap.get? b=↑C->c.get? b=↑C) ->
   c.get? ⇑s=some { cls:=.type "list",dict:=none,data:=.seq a.toArray f,slots:=#v[]}->EP X i D Q (.ref ⇑s) { s with heap:=c}:=λa g m c f t e =>
  #[.ref ⇑s,_,I.laid (t':=s.toks) t (hO _)<|show wA X.prog X.w _ c _ (.lst d) from#[m,a,f,g,e],rfl,q _<|I.wg.fresh<|hO _]
 rcases j with j|j
 ·refine e1a3 (I.list j) λa g x m=>?_;have v:=g.length;obtain⟨o,y,z,n,A⟩:=x.isList;exact call_list_seq p (.inl rfl) y z A (λc f t e=>k a g m c f t e) (by simp only[il]<;>lia)
 ·refine e1a3 (I.tuple j) λa g x m=>?_;have v:=g.length;obtain⟨o,y,z,n,A⟩:=x;exact call_list_seq p (.inr rfl) y z A (λc f t e=>k a g m c f t e) (by simp only[il]<;>lia)
def FS:zd X (.type "tuple") (λk H Q=>∃p d,k=[.ref p]/\((wF X.K H p d/\∀l,H l=none->Q (.ref l) (upd H l<|.tup d))\/(zI X.K H p d/\Q (.ref p) H))):=by
 intro a s m H k A Q I r h;obtain⟨p,d,rfl,h⟩:=h;obtain⟨u,rfl,x⟩:=vals1 r;cases x;rcases h with⟨g,q⟩|⟨g,q⟩
 ·refine e1a3 (I.list g) λc i j n=>?_;have t:=i.length;refine call_tuple_list j.isList (λf y=>?_) (by simp only[il]<;>lia);have v:Inv X a m H { s with heap:=f}:=I.kept (t':=s.toks) y
  have z:Inv X a m (upd H f.objs.size<|.tup d) { s with heap:=f.push { cls:=.type "tuple",data:=.seq c.toArray}} :=
   v.laid (t':=s.toks) (λb o e=>ce _ e) (hO _) (show wA X.prog X.w _ _ _ (.tup d) from#[n,c,i,IsTup.new _ _])
  exact#[.ref f.objs.size,_,z,rfl,q _<|v.wg.fresh<|hO _]
 ·refine e1a3 (I.tuple g) λc i j n=>?_;exact call_tuple_same j #[.ref p,H,I,rfl,q]
def tyV(K:hI)(T:String)(x:V)(H:Hp):Prop:=match x with
 | .str _=>T="str"
 | .int _=>T="int"
 | .ref p=>(T="list"/\∃xs,wF K H p xs)\/(T="tuple"/\∃o,K.lookup p=↑o/\o.cls=.type "tuple"/\o.dict=none) \/
   (T="dict"/\((∃xP,H p=↑(.dK xP))\/∃xP,H p=↑(.dT xP)))\/(T="set"/\∃S n,H p=↑(.set S n))
 |_=>False
def P8(I:Inv X k y H s)(r:RelV x v)(f:tyV X.K T x H) :
  s.TypeIs v T/\∀a,v=.ref a->∃l,s.heap.get? a=↑l/\l.dict=none:=by
 cases x with
 |str z =>
  obtain⟨t,rfl⟩:=r;cases (show T="str" from f);exact#[typeIs_str s z t,λ_ e=>nomatch e]
 |int i =>
  obtain⟨t,rfl⟩:=r;cases (show T="int" from f);exact#[typeIs_int s i t,λ_ e=>nomatch e]
 |ref p =>
  cases r;rcases f with⟨rfl,A,q⟩|⟨rfl,o,b,u,g⟩|⟨rfl,b⟩|⟨rfl,S,n,b⟩
  ·refine e1a3 (I.list q) λw _ m _=>?_;refine#[m.isList.typeIs,λa e=>?_];cases e;refine e2a4 m λo n e c g _=>?_;exact#[o,e,g]
  ·refine#[#[o,I.zl p o b,u],λa e=>?_];cases e;exact#[o,I.zl _ o b,g]
  ·have z:∃o,s.heap.get? p=↑o/\o.ExactDict:=by
    rcases b with⟨h,b⟩|⟨h,b⟩
    ·obtain⟨_,_,_,_,o,_,_,e,d,_⟩:=I.wg p _ b;exact#[o,e,d]
    ·obtain⟨_,_,_,_,o,_,_,e,d,_⟩:=I.wg p _ b;exact#[o,e,d]
   refine e1a2 z λo e d=>?_;refine#[#[o,e,d.1],λa j=>?_];cases j;exact#[o,e,d.2.1]
  ·obtain⟨o,_,_,_,e,d,_⟩:=I.wg p _ b;refine#[#[o,e,d.1],λa j=>?_];cases j;exact#[o,e,d.2.1]
 |_=>exact iO f
def Z1(K:hI)(T:String)(r:V->List V->Hp->VK->Prop)(b:TE):TE:=λc H Q=>b c H λx a=>tyV K T x a/\r x [] a Q
def tBM(K:hI)(T:String)(r:V->List V->Hp->VK->Prop)(c:TE)(t:TA):TE:=λa H Q=>c a H λx b=>tyV K T x b/\t a b λd e=>r x d e Q
variable{o e:iV}{es:List iV}{to:TE}{t:TA}{name:Str}{apos cpos:Pos}{T id:String}{r:V->List V->Hp->VK->Prop}
def X3(k:PlainAttrs T)(d:Slot T name id)(f:typeOf (.builtin id)=pure (.type "method_descriptor"))(l:MtR X id r)(m:PE X o to)
 (b:iU o name X.env (eval o X.env)=eval o X.env:=by rfl)(c:(apos.endLine==cpos.line)=true:=by rfl):PE X (.Call (.Attribute o name apos) [] [] cpos) (Z1 X.K T r to):=by
  intro a s g H Q I h
  refine wpAny_Call_method0_late b c<|wc (m a s g H _ I h) λv n p=>e2a4 p λx q i j u w=>?_
  obtain⟨y,z⟩:=P8 i j u
  exact#[T,id,k,d,f,y,z,kJ rfl<|PySem.evalArgs_none<|l a n g q x [] v [] Q i j .nil w]
def Gp(p:PlainAttrs T)(f:Slot T name id)(i:typeOf (.builtin id)=pure (.type "method_descriptor"))(q:MtR X id r)(u:PE X o to)(w:PA X (e::es) t)
 (c:iU o name X.env (eval o X.env)=eval o X.env:=by rfl)
 (g:((jB cpos (hJ (e::es) X.env)).all (λx=>!x.1)&&(nE cpos (lx [] X.env)).all (λx=>x.1.isSome)
&&decide ((e::es).length+([]:List qa).length+(if ([]:List qa).isEmpty then 0 else 1)<30))=true:=by rfl)
 (d:(apos.endLine==cpos.line)=true:=by rfl) (y:hJ (e::es) X.env=70::hJ es X.env:=by rfl) (b:(jB cpos<|hJ es X.env).any (·.1)=false:=by rfl) :
    PE X (.Call (.Attribute o name apos) (e::es) [] cpos) (tBM X.K T r to t):=by
  intro a s j H Q I h
  refine uV c g d rfl<|wc (u a s j H _ I h) λv z k=>e2a4 k λx A l m B C=>?_
  obtain⟨D,E⟩:=P8 l m B
  refine#[T,id,p,f,i,D,E,?_]
  have n:=w cpos a z j A _ l C
  rw[y]at n ⊢
  refine kJ (by show (false||(jB cpos<|hJ es X.env).any (·.1))=false;rw[b]<;>rfl)<|jN ?_
  exact wc n λF G k=>e2a3 k λJ L M N O=>q a G j L x J v F Q M m N O
end
def Zt(X:Cx)(e:String)(r:V->List V->Hp->VK->Prop):Prop :=
 ∀(a:List (g9×Obj)) (s:hW) (b:St) (H:Hp) (x:V) (c:List V) (v:cr) (d:List cr) (Q:VK),Inv X a b H s->RelV x v->Vals c d->r x c H Q ->
  ic 54 X.A (call (.builtin e) (v::d)) (EP X a b Q) X.xe s
def Vals.one:∀{x:V} {a:List cr},Vals [x] a->∃u,a=[u]/\RelV x u:=by intro _ _ z;cases z with|cons h t=>cases t;exact#[_,rfl,h]
def Vals.zero:∀{a:List cr},Vals [] a->a=[]
 |_,.nil=>rfl
def Vals.dropLast(h:Vals a b):Vals a.dropLast b.dropLast:=by
 induction h with
 |nil=>exact .nil
 |cons r t c =>
  cases t with
  |nil=>exact .nil
  |cons q d=>exact .cons r c
def Vals.eraseIdx:∀{a:List V} {b:List cr} (i:Nat),Vals a b->Vals (a.eraseIdx i) (b.eraseIdx i)
 |_,_,_,.nil=>.nil
 |_,_,0,.cons _ t=>t
 |_,_,i+1,.cons r t=>.cons r<|Vals.eraseIdx i t
def Vals.reverse(h:Vals a b):Vals a.reverse b.reverse:=by
 induction h with
 |nil=>exact .nil
 |cons r t c=>rw[oG,oG];exact Vals.append c<|.cons r .nil
def KW(l:List d):l.eraseIdx (l.length-1)=l.dropLast:=by
 induction l with
 |nil=>rfl
 |cons a r c =>
  cases r with
  |nil=>rfl
  |cons b r =>
   have e:(a::b::r).length-1=((b::r).length-1)+1:=by
    have f:(a::b::r).length=r.length+2:=rfl;have g:(b::r).length=r.length+1:=rfl
    lia
   rw[e,oT,c]
   all_goals rfl
def Gr:∀(l:List a)(i:Nat),(l.eraseIdx i).length<=l.length
 | [],_=>hO _
 |_::_,0=>mn _
 |_::r,i+1=>Nat.succ_le_succ<|Gr r i
def Inv.X4{a its':List cr}{n:Nat}{d:Nat}(I:Inv X b g H s)(h:H l=↑(.lst p))
 (e:s.heap.get? l=some { cls:=.type "list",data:=.seq a.toArray n}) (i:f a.toArray=its'.toArray) (j:Vals c its') (k:c.length<=hV) :
    Inv X b g (upd H l<|.lst c) { s with heap:=s.heap.update l<|Obj.mapSeq f,toks:=d}:=by
  have q:=PySem.IsL.update e f
  rw[i]at q
  refine I.write (x:=l) (e:=l) (by rw[h];exact trivial) (.inl rfl) (λr u m o=>(iR s.heap (Obj.mapSeq f)<|Ne.symm m).trans o) #[_,q] ?_
  exact#[k,its',_,j,q]
def Inv.a2f{t':Nat}(I:Inv X a d H s)(e:Vals c b)(f:c.length<=hV) :
  Inv X a d (upd H ⇑s<|.lst c) { s with heap:=s.heap.push { cls:=.type "list",data:=.seq b.toArray},toks:=t'} :=
 I.laid (λ_ _ q=>ce _ q) (hO _) #[f,b,0,e,ik _ rfl]
def Inv.fresh(I:Inv X a b H s):H ⇑s=none:=I.wg.fresh<|hO _
def Inv.P9(I:Inv X c f H s)(d:H l=↑(.lst b)):b.length<=hV/\∃(a:List cr)(n:Nat),Vals b a/\b.length=a.length/\s.heap.get? l=some { cls:=.type "list",data:=.seq a.toArray n}:=by obtain⟨z,a,n,r,e⟩:=I.wg l _ d;exact#[z,a,n,r,r.length,e]
def G9:V->List V->Hp->VK->Prop:=λx b H Q=>∃l a y,x=.ref l/\b=[y]/\H l=↑(.lst a)/\a.length<hV/\Q .wV (upd H l<|.lst<|a++[y])
def zK:Zt X "list.append" G9:=by
 intro b s i H x j v k Q I d f h;obtain⟨l,m,y,rfl,rfl,c,o,q⟩:=h;cases d;obtain⟨u,rfl,g⟩:=f.one;obtain⟨z,a,n,r,p,e⟩:=I.P9 c;refine call_meets lh #[_,e,rfl] F.entry_list_append (F.args_list_append_2 _ _) (PySem.list_append l a.toArray n u<|by rw[il];lia) #[e,?_];refine#[.wV,_,I.X4 (its':=a++[u]) c e q0o (r.append<|.cons g .nil) ?_,rfl,q];rw[ij,iB]
 lia
def Z2:V->List V->Hp->VK->Prop:=λx b H Q=>∃l a y,x=.ref l/\b=[]/\H l=↑(.lst a)/\a[a.length-1]?=↑y/\Q y (upd H l<|.lst a.dropLast)
def X5:Zt X "list.pop" Z2:=by
 intro d s p H x t v w Q I g i h;obtain⟨l,A,y,rfl,rfl,f,j,q⟩:=h;cases g;have b:=i.zero;subst b;obtain⟨z,a,n,r,k,e⟩:=I.P9 f;refine e1a2 (r.get j) λu m o=>?_
 have c:a.toArray[a.toArray.size-1]?=↑u:=by show a.toArray[a.length-1]?=↑u;rw[<- iX,<- k];exact m
 refine call_meets sM #[_,e,rfl] F.entry_list_pop (F.args_list_pop_1 _) (MeetsSeq.list_pop_last l a.toArray n u c<|by rw[il];omega) #[e,?_];refine#[y,_,I.X4 (its':=a.dropLast) f e ?_ r.dropLast ?_,o,q]
 ·show a.toArray.eraseIdxIfInBounds (a.toArray.size-1)=a.dropLast.toArray;rw[il,qS,KW]
 ·rw[List.length_dropLast];omega
def Qa:V->List V->Hp->VK->Prop:=λx b H Q=>∃l a i k y,x=.ref l/\b=[.int i]/\H l=↑(.lst a)/\-(2 ^ 63)<=i/\i<2 ^ 63/\seqIndex? i a.length=↑k/\a[k]?=↑y/\Q y (upd H l<|.lst<|a.eraseIdx k)
def Qb:Zt X "list.pop" Qa:=by
 intro c s E H x G v J Q I f g h;obtain⟨l,j,i,k,y,rfl,rfl,d,m,o,p,A,q⟩:=h;cases f;obtain⟨u,rfl,B⟩:=g.one;obtain⟨t,rfl⟩:=B;obtain⟨z,a,n,r,C,e⟩:=I.P9 d;refine e1a2 (r.get A) λw D b=>?_
 refine call_meets sM #[_,e,rfl] F.entry_list_pop (F.args_list_pop_2 _ _)
  (MeetsSeq.list_pop_at l a.toArray n i t k w (fitsIndex_both m o) (by rw[il,<- C];exact p) (by rw[<- iX];exact D)<|by rw[il];lia) #[e,?_]
 refine#[y,_,I.X4 (its':=a.eraseIdx k) d e ?_ (r.eraseIdx k) ?_,b,q]
 ·show a.toArray.eraseIdxIfInBounds k=(a.eraseIdx k).toArray;rw[qS]
 ·have:=Gr j k
  lia
def a2g:R2:=λx y H Q=>∃l b a c,x=.ref l/\y=.ref b/\H l=↑(.lst a)/\H b=↑(.lst c)/\a.length+c.length<=hV/\∀p,H p=none->Q (.ref p) (upd H p<|.lst<|a++c)
def X6:AJ X (mW .Add) a2g:=by
 intro d s t H x y v u Q I f g h;obtain⟨l,b,w,A,rfl,rfl,i,j,B,q⟩:=h;cases f;cases g;obtain⟨z,c,n,r,C,e⟩:=I.P9 i;obtain⟨D,a,E,k,m,o⟩:=I.P9 j;refine PySem.P.add_list e o ?_ (by rw[il,il];lia);have p:c.toArray++a.toArray=(c++a).toArray:=by simp
 rw[p];exact#[.ref _,_,I.a2f (t':=s.toks) (r.append k) (by rw[ij];lia),rfl,q _ I.fresh]
section
variable{κ:Type}[DecidableEq κ]
noncomputable def yX(xP:List (κ×V))(k:κ):Option V:=(xP.find? λkv=>decide<|kv.1=k).map (·.2)
noncomputable def putK(xP:List (κ×V))(k:κ)(v:V):List (κ×V) :=
 if (xP.any λkv=>decide<|kv.1=k)=true then xP.map (λkv=>if kv.1=k then (kv.1,v) else kv) else xP++[(k,v)]
noncomputable def AQ(a:List (κ×V))(k:κ):List (κ×V):=a.filter λb=>decide<|b.1≠k
def zL{p:κ×V}{r:List (κ×V)}(e:p.1=k):yX (p::r) k=↑p.2:=by simp[yX,je,e]
def zM{p:κ×V}{r:List (κ×V)}(e:¬p.1=k):yX (p::r) k=yX r k:=by simp[yX,je,e]
def AR(k:κ):∀a:List (κ×V),(a.any λb=>decide<|b.1=k)=(yX a k).isSome
 | []=>rfl
 |p::r=>by
  rw[oN];by_cases e:p.1=k
  ·simp only[zL e,decide_eq_true e,Bool.true_or,Option.isSome_some]
  ·rw[zM e,iC e,Bool.false_or];exact AR k r
def AS(a:List (κ×V))(k:κ)(v:V):(putK a k v).length<=a.length+1:=by
 unfold putK;split
 ·rw[hR];lia
 ·rw[ij,iE,nQ];lia
def Qc{a:List (κ×V)}(v:V)(h:yX a k=none):putK a k v=a++[(k,v)]:=by unfold putK;rw[AR,h];exact ci q0q
def zW.y8(r:zW o u):o.isSome=u.isSome:=by
 cases o with
 |none=>cases u with
  |none=>rfl
  |some _=>exact(show False from r).elim
 |some _=>cases u with
  |none=>exact(show False from r).elim
  |some _=>rfl
def zW.getD(r:zW o u)(a:RelV d b):RelV (o.getD d) (u.getD b):=by
 cases o with
 |none=>cases u with
  |none=>exact a
  |some _=>exact(show False from r).elim
 |some _=>cases u with
  |none=>exact(show False from r).elim
  |some _=>exact r
def KV.val(r:KV a g)(k:κ):zW (yX a k) (qJ g k):=by
 induction r with
 |nil=>exact True.intro
 | @cons p q l c h t i =>
  obtain⟨f,j⟩:=h;by_cases e:p.1=k
  ·have d:q.1=k:=f.symm.trans e;have b:qJ (q::c) k=↑q.2:=by simp[qJ,je,d]
   rw[zL e,b];exact j
  ·have d:¬q.1=k:=λz=>e<|f.trans z;have b:qJ (q::c) k=qJ c k:=by simp[qJ,je,d]
   rw[zM e,b];exact i
def KV.any(r:KV a c)(k:κ):(a.any λb=>decide<|b.1=k)=c.any λb=>decide (b.1=k):=by
 induction r with
 |nil=>rfl
 |cons h t d=>rw[oN,oN,d,h.1]
def KV.X7(r:KV c d)(k:κ)(f:RelV y u) :
  KV (c.map λa=>if a.1=k then (a.1,y) else a) (d.map λa=>if a.1=k then (a.1,u) else a):=by
 induction r with
 |nil=>exact .nil
 | @cons p q j l h t g =>
  rw[iI,iI];refine .cons ?_ g;obtain⟨b,i⟩:=h;by_cases e:p.1=k
  ·rw[g8 e,g8<|b.symm.trans e];exact#[b,f]
  ·rw[ci e,ci<|λz=>e<|b.trans z];exact#[b,i]
def KV.put(r:KV a b)(k:κ)(c:RelV y u):KV (putK a k y) (stored b k u):=by
 unfold putK stored;rw[r.any k];by_cases e:(b.any λd=>decide<|d.1=k)=true
 ·rw[g8 e,g8 e];exact r.X7 k c
 ·rw[ci e,ci e];exact Paired.snoc r #[rfl,c]
def KV.drop(r:KV c g)(k:κ):KV (AQ c k) (without g k):=by
 unfold AQ without
 induction r with
 |nil=>exact .nil
 | @cons p q l m h t f =>
  obtain⟨d,i⟩:=h;rw[jw,jw];by_cases e:p.1=k
  ·have a:¬decide (p.1≠k)=true:=by simp[e]
   have b:¬decide (q.1≠k)=true:=by simp[d.symm.trans e]
   rw[ci a,ci b];exact f
  ·have j:¬q.1=k:=λz=>e<|d.trans z;have a:decide (p.1≠k)=true:=by simp[e]
   have b:decide (q.1≠k)=true:=by simp[j]
   rw[g8 a,g8 b];exact .cons #[d,i] f
def KV.length{xP:List (κ×V)}{vs:List (κ×cr)}(r:KV xP vs):xP.length=vs.length:=Paired.length r
def Js(a:List (κ×V))(k:κ):(AQ a k).length<=a.length:=iF _ _
end
def BI(r:RelV (kV k) u):(vX P w).is k u=true:=by
 cases k with
 |inl i=>obtain⟨t,e⟩:=(show ∃t,u=mj i t from r);subst e;exact Jb P w i t
 |inr x=>obtain⟨t,e⟩:=(show ∃t,u=Value.str x t from r);subst e;exact Jc P w x t
def Ob:∀{a:List Key} {c:List cr},Vals (a.map kV) c->ItemsAre (vX P w) a c:=by
 intro d
 induction d with
 |nil=>intro _ r;rw[o9]at r;cases r;exact .nil
 |cons k a b =>
  intro _ r;rw[iI]at r
  cases r with
  |cons h t=>exact .cons (BI h)<|b t
abbrev KT(H:Hp):List (List Key×V)->List (List Key×g9×cr)->Prop:=Paired λp q=>p.1=q.1/\H q.2.1=↑(.tup<|p.1.map kV)/\RelV p.2 q.2.2
def KT.val(r:KT H a g)(k:List Key):zW (yX a k) ((tQ g k).map (·.2)):=by
 induction r with
 |nil=>exact True.intro
 | @cons p q l c h t i =>
  refine e0a3 h λf _ j=>?_;by_cases e:p.1=k
  ·have d:q.1=k:=f.symm.trans e;have b:tQ (q::c) k=↑q.2:=by simp[tQ,je,d]
   rw[zL e,b];exact j
  ·have d:¬q.1=k:=λz=>e<|f.trans z;have b:tQ (q::c) k=tQ c k:=by simp[tQ,je,d]
   rw[zM e,b];exact i
def KT.X7(r:KT H b f)(k:List Key)(g:RelV y u) :
  KT H (b.map λc=>if c.1=k then (c.1,y) else c) (f.map<|putAt k u):=by
 induction r with
 |nil=>exact .nil
 | @cons p q l m h t i =>
  rw[iI,iI];refine .cons ?_ i;refine e0a3 h λa d j=>?_;unfold putAt;by_cases e:p.1=k
  ·rw[g8 e,g8<|a.symm.trans e];exact#[a,d,g]
  ·rw[ci e,ci<|λz=>e<|a.trans z];exact#[a,d,j]
def KT.put(r:KT H a c)(k:List Key)(f:H b=↑(.tup<|k.map kV))(d:RelV y u) :
  KT H (putK a k y) (storedH c k b u):=by
 have e:(a.any λg=>decide<|g.1=k)=(tQ c k).isSome:=by rw[AR,(r.val k).y8,iL]
 unfold putK storedH;rw[e];by_cases q:(tQ c k).isSome=true
 ·rw[g8 q,g8 q];exact r.X7 k d
 ·rw[ci q,ci q];exact Paired.snoc r #[rfl,f,d]
def KT.keeps(r:KT H a d)(e:∀b c,H b=↑(.tup c)->f b=↑(.tup c)):KT f a d :=
 Paired.Xp r λ_ _ z=>#[z.1,e _ _ z.2.1,z.2.2]
def WN(b:yA P w H h)(e:Rd H a u):wA P w H h a u:=e.ok b
def Cg(d:yA P w H h)(e:Rd H a (.dK b)):b.length<=hV/\(a==lG)=false/\∃c,KV b c/\h.DictOf (vX P w) a c :=
 show wA P w H h a (.dK b) from WN d e
def MU(d:yA P w H h)(e:H a=↑(.dK b)):b.length<=hV/\(a==lG)=false/\∃c,KV b c/\h.DictOf (vX P w) a c:=Cg d<|.inl e
def BY{b:List Key}(d:yA P w H h)(e:H a=↑(.tup<|b.map kV)):(pH<|vX P w).is h b a:=by obtain⟨_,c,r,o,f,g,n,i⟩:=(show wA P w H h a (.tup<|b.map kV) from d a _ e);exact#[o,c.toArray,n,f,g,i,by simpa using Ob r]
def DC(g:yA P w H h)(e:Rd H a (.dT b)):b.length<=hV/\(a==lG)=false /\
  ∃d,KT H b d/\h.DictOfH (pH<|vX P w) a d:=by
 obtain⟨z,y,d,r,o,j,k,n,s,u,v,A⟩:=(show wA P w H h a (.dT b) from WN g e);refine#[z,y,d,r,o,j,k,n,s,u,v,λx c=>?_,A]
 have f:∀{l:List (List Key×V)} {m:List (List Key×g9×cr)},KT H l m->∀x∈m,(pH<|vX P w).is h x.1 x.2.1:=by
  intro l m q
  induction q with
  |nil=>intro x c;exact nomatch c
  | @cons p q C D i t B =>
   intro x c;rcases List.mem_cons.mp c with e|c
   ·subst e;exact BY g (by rw[<- i.1];exact i.2.1)
   ·exact B x c
 exact f r x c
def Z3(d:yA P w H h)(e:H a=↑(.dT b)):b.length<=hV/\(a==lG)=false /\
  ∃c,KT H b c/\h.DictOfH (pH<|vX P w) a c:=DC d<|.inl e
def yO(H:Hp)(a:g9)(y:V)(r:Option V):Prop :=
 (∃xP k,Rd H a (.dK xP)/\y=kV k/\r=yX xP k)\/∃xP k b,Rd H a (.dT xP)/\y=.ref b/\H b=↑(.tup<|k.map kV)/\r=yX xP k
def Hc(H:Hp)(a:g9)(y v:V)(H':Hp):Prop :=
 (∃xP k,H a=↑(.dK xP)/\y=kV k/\xP.length<hV/\H'=upd H a (.dK<|putK xP k v)) \/
 ∃xP k b,H a=↑(.dT xP)/\y=.ref b/\H b=↑(.tup<|k.map kV)/\xP.length<hV/\H'=upd H a (.dT<|putK xP k v)
def yO.k{H:Hp}{a:g9}{xP:List (Key×V)}{k:Key}(e:H a=↑(.dK xP)):yO H a (kV k) (yX xP k):=.inl #[xP,k,.inl e,rfl,rfl]
def Hc.k{H:Hp}{a:g9}{xP:List (Key×V)}{k:Key}{v:V}(e:H a=↑(.dK xP))(hl:xP.length<hV):Hc H a (kV k) v (upd H a<|.dK<|putK xP k v):=.inl #[xP,k,e,rfl,hl,rfl]
def Inv.big(I:Inv X a b H s):lG<⇑s:=by have h:iq<⇑s:=(I.mod.glob.keeps I.bk).lt;exact n9 q0q h
def Gu(B:A.units+1<kF)(I:Inv X i C H s)(g:yO H a y ↑v)(t:RelV y u)(h:∀f x,Inv X i C H x->RelV v f->Q f x) :
  ic 54 A (oE (.ref a) u) Q E s:=by
 rcases g with⟨j,k,e,m,l⟩|⟨j,k,b,e,m,eb,l⟩
 ·subst m;obtain⟨z,D,F,c,n⟩:=Cg I.wg e;obtain⟨f,q,d⟩:=zW.some_of (v:=v) (o:=qJ F k) (by rw[l];exact c.val k);exact wpAny_getItem_of (BI t) n.mapOf q<|h f _ (I.tok _) d
 ·subst m;cases (show u=iw b from t);obtain⟨z,D,G,c,n⟩:=DC I.wg e;obtain⟨f,q,d⟩:=zW.some_of (v:=v) (o:=(tQ G k).map (·.2)) (by rw[l];exact c.val k);refine e1a2 (Option.map_eq_some_iff.mp q) λp J r=>?_;refine wpAny_getItem_heap (lY B) (BY I.wg eb) n J ?_;rw[r];exact h f _ (I.tok _) d
def a2h(r:A.units+1<kF)(I:Inv X d t H s)(g:yO H a y o)(n:RelV y u)(h:∀p,Inv X d t H p->Q (.bool o.isSome) p) :
  ic 54 A (jF .In u<|.ref a) Q E s:=by
 rcases g with⟨f,k,e,i,l⟩|⟨f,k,b,e,i,eb,l⟩
 ·subst i;obtain⟨z,j,v,c,m⟩:=Cg I.wg e;refine wpAny_in_of (BI n) j m.mapOf ?_;rw[<- (c.val k).y8,<- l];exact h _<|I.tok _
 ·subst i;cases (show u=iw b from n);obtain⟨z,j,x,c,m⟩:=DC I.wg e;refine wpAny_in_heap (lY r) (BY I.wg eb) j m ?_;have q:=(c.val k).y8;rw[iL]at q;rw[<- q,<- l];exact h _<|I.tok _
def Ui(r:A.units+1<kF)(I:Inv X d t H s)(g:yO H a y o)(n:RelV y u)(h:∀p,Inv X d t H p->Q (.bool<|!o.isSome) p) :
  ic 54 A (jF .NotIn u<|.ref a) Q E s:=by
 rcases g with⟨f,k,e,i,l⟩|⟨f,k,b,e,i,eb,l⟩
 ·subst i;obtain⟨z,j,v,c,m⟩:=Cg I.wg e;refine wpAny_notIn_of (BI n) j m.mapOf ?_;rw[<- (c.val k).y8,<- l];exact h _<|I.tok _
 ·subst i;cases (show u=iw b from n);obtain⟨z,j,x,c,m⟩:=DC I.wg e;refine wpAny_notIn_heap (lY r) (BY I.wg eb) j m ?_;have q:=(c.val k).y8;rw[iL]at q;rw[<- q,<- l];exact h _<|I.tok _
def Ci{h:Nat}(I:Inv X c i H s)(j:ZF (H a))(k:jj a s.heap d)(l:∃q,d.get? a=↑q)(f:wA X.prog X.w (upd H a g) d a g) :
  Inv X c i (upd H a g) { s with heap:=d,toks:=h} :=
 I.write (x:=a) (e:=a) j (.inl rfl) (λb q m z=>(k.2 b m).trans z) l f
def EA{d:i9}{b:List (Key×V)}(z:b.length<=hV)(f:(a==lG)=false)(c:KV b e)(g:d.DictOf (vX P w) a e) :
  wA P w h d a (.dK b):=#[z,f,e,c,g]
def Gv(M:A.units+1<kF)(I:Inv X j N H s)(g:Hc H a y v O)(D:RelV y u)(F:RelV v r)(h:∀G,Inv X j N O G->Q () G) :
  ic 54 A (sZ (.ref a) u r) Q E s:=by
 rcases g with⟨d,k,e,n,l,o⟩|⟨d,k,b,e,n,eb,l,o⟩
 ·subst n o;obtain⟨z,p,P,f,t⟩:=MU I.wg e;have x:P.length<=hV:=by rw[<- f.length];exact z
  have B:(putK d k v).length<=hV:=by have:=AS d k v;lia
  refine wpAny_setItem_pairs (hsz:=x) (BI D) t λJ i C=>h _ ?_;have R:∃q,J.get? a=↑q:=e3a2 i λq _ _ m _=> #[q,m];exact Ci I (by rw[e];exact True.intro) C R<|EA B p (f.put k F) i
 ·subst n o;cases (show u=iw b from D);obtain⟨z,p,S,f,t⟩:=Z3 I.wg e;have x:S.length<=hV:=by rw[<- Paired.length f];exact z
  have B:(putK d k v).length<=hV:=by have:=AS d k v;lia
  refine wpAny_setItem_heap (hsz:=x) (lY M) (BY I.wg eb) t λJ i C=>h _ ?_;obtain⟨q,T,U,m,W,Y,Z,_,h5⟩:=i;refine Ci I (by rw[e];exact True.intro) C #[q,m] #[B,p,_,(f.put k eb F).keeps λc ys L=>?_,q,T,U,m,W,Y,Z,h5];rw[vo<|ZE L e<|λz=>nomatch z];exact L
def Oc(I:Inv X d j H s)(e:H a=↑(.dK b))(m:RelV (kV k) u)(l:(yX b k).isSome=true)(h:∀i,Inv X d j (upd H a<|.dK<|AQ b k) i->Q () i) :
  ic 54 A (delItem (.ref a) u) Q E s:=by
 obtain⟨z,n,o,c,g⟩:=MU I.wg e
 refine wpAny_delItem_slot g.typeIs q0q rF
  (oH rF g.typeIs PySem.F.entry_dict_delitem (PySem.F.args_dict_delitem_2 _ _) (meets_dict_delitem_pairs (vX X.prog X.w) a<|BI m) ⟨o,g,by rw[<- c.length];exact z,by rw[<- (c.val k).y8];exact l,λp f r=>h _ ?_⟩)
 have t:∃q,p.get? a=↑q:=e3a2 f λq _ _ v _=> #[q,v];exact Ci I (by rw[e];exact True.intro) r t<|EA (i5 (Js b k) z) n (c.drop k) f
def Z4(I:Inv X d B H s)(e:H a=↑(.dK b))(j:RelV (kV k) u)(l:yX b k=↑v)(n:more=[]\/∃x,more=[x])
 (h:∀f p,Inv X d B (upd H a<|.dK<|AQ b k) p->RelV v f->Q f p):ic 54 A (call (.builtin "dict.pop") (.ref a::u::more)) Q E s:=by
  obtain⟨z,C,r,c,y⟩:=MU I.wg e
  obtain⟨f,D,m⟩:=zW.some_of (v:=v) (o:=qJ r k) (by rw[<- l];exact c.val k)
  have G:(keyPart u).isSome=true:=by
    cases k with
    |inl i=>obtain⟨t,q⟩:=(show ∃t,u=mj i t from j);subst q;rfl
    |inr x=>obtain⟨t,q⟩:=(show ∃t,u=Value.str x t from j);subst q;rfl
  have J:sr "dict.pop" #[.ref a::u::more,[]]:=by
    rcases n with q|⟨x,q⟩
    · subst q; exact PySem.F.args_dict_pop_2 _ _
    · subst q; exact PySem.F.args_dict_pop_3 _ _ _
  refine oH sE y.typeIs PySem.F.entry_dict_pop J (meets_dict_pop_there (vX X.prog X.w) a (BI j) more n G)
    #[r,f,y,by rw[<- c.length];exact z,D,λL g M=>h f _ ?_ m]
  have N:∃q,L.get? a=↑q:=e3a2 g λq _ _ O _=> #[q,O]
  exact Ci I (by rw[e];exact True.intro) M N<|EA (i5 (Js b k) z) C (c.drop k) g
def Z5(I:Inv X b g H s)(e:Rd H a (.dK d))(h:∀t f,Inv X b g H f->Q (.int d.length t) f):ic 54 A (call (.builtin "len") [.ref a]) Q E s:=by obtain⟨z,i,k,c,j⟩:=Cg I.wg e;refine call_len_dict i j (by rw[<- c.length];rw[jo]at z;lia) ?_;rw[<- c.length];exact h _ _<|I.tok _
def Qd(i:iV):Prop:=∀a b,sD i false a b=operate [a,b] (oE a b)
def Uj{m:String} 
 (n:nW (.type T) "__getitem__"=pure (some<|.builtin m)) (p:Qd slice)
 (h:ic (ii a w) A (eval value g) (λo d=>ic (ii a w) A (eval slice g) (λi b=>b.TypeIs o T/\ic (ii a w) A (oE o i) Q E b) E d) E s) :
    ic (ii a w) A (eval (.Subscript value slice pos) g) Q E s:=by
  refine tP<|jm h (λo d j=>jm j (λi b c=>?_) λ_ _ x=>x) λ_ _ x=>x
  obtain⟨l,c⟩:=c
  refine am ?_
  rw[getitemInPython_of_ne l.not_modules]
  refine am<|qf l n ?_
  have f:ic (ii a w) A (sD slice false o i) (λr e=>ic (ii a w) A (letTemporaryGo value o r >>= λ_=>pure r) Q E e) E b:=by
    rw[p o i]
    exact wpAny_operating<|jm c (λr e k=>am<|wpAny_letTemporaryGo<|ap k) λ_ _ x=>x
  first
    | exact ap<|am f
    | exact am<|ap<|am f
    | exact am f
def Ju(I:Inv X f h H s)(g:yO H a y o):s.TypeIs (.ref a) "dict":=by
 rcases g with⟨c,k,e,_,_⟩|⟨c,k,b,e,_,_,_⟩
 ·obtain⟨_,_,i,_,d⟩:=Cg I.wg e;exact d.typeIs
 ·obtain⟨_,_,j,_,d⟩:=DC I.wg e;exact d.typeIs
def Z6(d e:TE):TE:=λb H Q=>d b H λx f=>e b f λy c=>∃a v,x=.ref a/\yO c a y ↑v/\Q v c
def a2i(d e:TE):TE:=λb H Q=>d b H λy f=>e b f λx c=>∃a o,x=.ref a/\yO c a y o/\Q (.bl o.isSome) c
def Uk(d e:TE):TE:=λb H Q=>d b H λy f=>e b f λx c=>∃a o,x=.ref a/\yO c a y o/\Q (.bl<|!o.isSome) c
def Z7(d e f:TE):TS:=λD b H=>f b H λv g=>d b g λx h=>e b h λy i=>∃a c,x=.ref a/\Hc i a y v c/\D.nx b c
def Z8(e f g:TE)(h:V->V->Hp->VK->Prop):TS:=λD b H=>e b H λx i=>f b i λy c=>∃a v,x=.ref a/\yO c a y ↑v /\
 g b c λj k=>h v j k λz l=>∃d,Hc l a y z d/\D.nx b d
def Qe(e f:TE):TS:=λD c H=>e c H λx g=>f c g λy d=>∃a b k,x=.ref a/\d a=↑(.dK b)/\y=kV k/\(yX b k).isSome=true/\D.nx c (upd d a<|.dK<|AQ b k)
def Hd(k:X.A.units+1<kF)(l:PE X o m)(n:PE X i ty)(p:Qd i):PE X (.Subscript o i pos) (Z6 m ty):=by intro b s f H Q I h;refine Uj PySem.F.slot_dict_getitem.lookup p<|wc (l b s f H _ I h) λu q c=>e2a3 c λx H1 r t w=>wc (n b q f H1 _ r w) λE G c=>e2a3 c λy H2 j z d=>e2a3 d λa v B g C=>?_;subst B;obtain rfl:u=iw a:=t;exact#[Ju j g,Gu k j g z λJ L D e=>#[v,H2,D,e,C]]
def Qf(f:X.A.units+1<kF)(j:PE X i ty)(k:PE X o l):PC X .In i o (a2i ty l):=by intro b s e H Q I h;refine wc (j b s e H _ I h) λC m c=>e2a3 c λy H1 n p q=>wc (k b m e H1 _ n q) λu D c=>e2a3 c λx H2 r t d=>e2a3 d λa v w g z=>?_;subst w;obtain rfl:u=iw a:=t;exact a2h f r g p λE B=>#[.bl v.isSome,H2,B,rfl,z]
def C3(f:X.A.units+1<kF)(j:PE X i ty)(k:PE X o l):PC X .NotIn i o (Uk ty l):=by intro b s e H Q I h;refine wc (j b s e H _ I h) λC m c=>e2a3 c λy H1 n p q=>wc (k b m e H1 _ n q) λu D c=>e2a3 c λx H2 r t d=>e2a3 d λa v w g z=>?_;subst w;obtain rfl:u=iw a:=t;exact Ui f r g p λE B=>#[.bl<|!v.isSome,H2,B,rfl,z]
def He(j:X.A.units+1<kF)(k:PE X o l)(m:PE X i ty)(n:PE X value p)(q:kj value (some<|.Subscript o i c) pos.line X.env=pure false) :
  PS X (.Assign [.Subscript o i c] value pos) (Z7 l ty p):=by
 intro b s e H D I h;refine wpAny_Assign_Subscript (wc (n b s e H _ I h) λr t d=>e2a3 d λv H1 w z B=>wc (k b t e H1 _ w B) λu C d=>e2a3 d λx H2 E F G=>wc (m b C e H2 _ E G) λP Q d=>e2a3 d λy H3 J L f=>e2a3 f λa H4 M g N=>?_) q;subst M;obtain rfl:u=iw a:=F;exact Gv j J g L z λR O=>#[e,H4,O,N]
def Ul(p:X.A.units+1<kF)(t:PE X o w)(B:PE X i ty)(C:PE X value E)(j:ZX X op F)
 (G:∀f d new,augStore i f d new=(do lw [new,f,d] (sZ f d new);release [new,f,d] [];pure .next)):PS X (.AugAssign (.Subscript o i q) op value pos) (Z8 w ty E F):=by
  intro b s e H D I h
  refine sR (wc (t b s e H _ I h) λu J c=>e2a3 c λx H1 L M N=>wc (B b J e H1 _ L N) λd s2 c=>e2a3 c λy H2 O r k=>e2a3 k λa v P g Q=>?_) G
  subst P
  obtain rfl:u=iw a:=M
  refine Gu p O g r λR S T l=>wc (C b S e H2 _ T Q) λU W c=>e2a3 c λY H3 Z m q3=>wc (j b W e H3 v Y R U _ Z l m q3) λw3 s5 c=>e2a3 c λz H4 I5 rz n=>e1a2 n λH5 g5 q4=>?_
  exact Gv p I5 g5 r rz λs6 I6=>#[e,H5,I6,q4]
def Hf(j:PE X o m)(n:PE X i ty):PS X (.Delete [.Subscript o i g] pos) (Qe m ty):=by intro b s d H D I h;refine wpAny_Delete<|wpAny_deleteEach_cons<|wpAny_delete_Subscript<|wc (j b s d H _ I h) λu p f=>e2a3 f λx H1 q r t=>wc (n b p d H1 _ q t) λF G f=>e2a3 f λy H2 v w c=>e3a5 c λa z k A e B l C=>?_;subst A B;obtain rfl:u=iw a:=r;exact Oc v e w l λJ E=>wpAny_deleteEach_nil #[d,_,E,C]
def Jv(h:i9)(a:lG<h.objs.size):wA P w H (h.push { cls:=.type "dict",data:=.dict #v[]}) h.objs.size (.dK []) :=
 #[jl _,beq_eq_false_iff_ne.mpr<|Ne.symm<|im a,[],.nil,ts h]
def EB:TE:=λ_ H Q=>∀p,H p=none->Q (.ref p) (upd H p<|.dK [])
def Cj:PE X (.Dict [] [] pos) EB:=λb s c H Q I h =>
 wpAny_Dict_empty #[.ref ⇑s,_,I.laid (a:=⇑s) (o:=.dK []) (t':=s.toks) (λ_ _ q=>ce _ q) (hO _)<|Jv s.heap I.big,rfl,h _<|I.wg.fresh<|hO _]
def KY:List (TE×TE)->St->Hp->(List (V×V)->Hp->Prop)->Prop
 | [],_,H,Q=>Q [] H
 | (tk,tv)::r,σ,H,Q=>tk σ H λx H1=>tv σ H1 λy H2=>KY r σ H2 λps H3=>Q ((x,y)::ps) H3
abbrev VV:List (V×V)->List (cr×cr)->Prop:=Paired λp q=>RelV p.1 q.1/\RelV p.2 q.2
def PPs(X:Cx)(d:Pos)(c:List (Option iV))(a:List iV)(e:List (TE×TE)):Prop :=
 ∀(b:List (g9×Obj)) (s:hW) (f:St) (H:Hp) (Q:List (V×V)->Hp->Prop),Inv X b f H s->KY e f H Q ->
  ic 54 X.A (evalPairs<|pairTrees c a X.env d) (λi j=>∃g h,Inv X b f h j/\VV g i/\Q g h) X.xe s
def Um:PPs X pos [] [] []:=λa s b H Q I h=>pairTrees_nil_walk #[[],H,I,.nil,h]
def Qg(e:PE X k f)(g:PE X v i)(j:PPs X pos l m c) :
  PPs X pos (↑k::l) (v::m) ((f,i)::c):=λa s d H Q I h =>
 pairTrees_cons_walk (wc (e a s d H _ I h) λu n b=>e2a3 b λx H1 o p q=>wc (g a n d H1 _ o q) λD r b=>e2a3 b λy H2 t w z =>
  wc (j a r d H2 _ t z) λE F b=>e2a3 b λA H3 B rel C=>#[(x,y)::A,H3,B,.cons #[p,w] rel,C])
noncomputable def EC(b a:List (Key×V)):List (Key×V):=a.foldl (λc d=>putK c d.1 d.2) b
def KV.merge:∀{a:List (Key×V)} {d:List (Key×cr)} {b:List (Key×V)} {c:List (Key×cr)},KV a d->KV b c->KV (EC b a) (merged c d):=by
 intro a d b c r
 induction r generalizing b c with
 |nil=>intro q;exact q
 | @cons p q i j h t f =>
  intro g
  have e:KV (putK b p.1 p.2) (stored c q.1 q.2):=by have:=g.put p.1 h.2;rw[<- h.1];exact this
  exact f e
def BJ:∀(b a:List (Key×V)),(EC a b).length<=a.length+b.length
 | [],a=>by show a.length<=a.length+0;lia
 |p::r,a=>by have c:=BJ r<|putK a p.1 p.2;have d:=AS a p.1 p.2;show (EC (putK a p.1 p.2) r).length<=_;rw[iE];lia
def KZ:∀{d:List (Key×V)} {g:List (cr×cr)},VV (d.map λi=>(kV i.1,i.2)) g->∃e,Carries (vX P w) g e/\KV d e:=by
 intro j
 induction j with
 |nil=>intro _ r;rw[o9]at r;cases r;exact#[[],True.intro,.nil]
 |cons p d f =>
  intro _ r;rw[iI]at r
  cases r with
  | @cons a b as bs h t =>
   refine e1a2 (f t) λe c q=>?_;obtain⟨l,k⟩:=b;exact#[(p.1,k)::e,#[BI h.1,rfl,c],.cons #[rfl,h.2] q]
def Z9(b:List (TE×TE)):TE:=λe H Q=>∀p,H p=none->KY b e (upd H p<|.dK []) λf c=>c p=↑(.dK [])/\∃a:List (Key×V),f=a.map (λd=>(kV d.1,d.2))/\a.length<=15/\Q (.ref p) (upd c p<|.dK<|EC [] a)
def Uo(h:PPs X pos keys values i)(b:keys.all (·.isSome)=true)(n:keys.length=values.length)(p:keys≠[])
 (j:keys.length<=15):PE X (.Dict keys values pos) (Z9 i):=by
  intro d s r H Q I q
  have t:=I.wg.fresh<|hO ⇑s
  have u:=I.laid (a:=⇑s) (o:=.dK []) (h':=s.heap.push { cls:=.type "dict",data:=.dict #v[]}) (t':=s.toks) (λ_ _ q=>ce _ q) (hO _)<|Jv s.heap I.big
  refine wpAny_Dict_walk (knd:=vX X.prog X.w) b n p j<|wc (h d _ r _ _ u<|q _ t) λR S v=>e2a4 v λT U m k e l=>e1a3 l λf x lk y=>?_
  subst x
  refine e1a2 (KZ (P:=X.prog) (w:=X.w) k) λA c B=>?_
  obtain⟨z,C,D,E,F⟩:=MU m.wg e
  cases E
  refine#[A,c,F,λG g J=>#[.ref ⇑s,_,?_,rfl,y]]
  have L:(EC [] f).length<=hV:=by
    have M:=BJ f []
    rw[nQ]at M
    rw[jo];lia
  have N:∃q,G.get? ⇑s=↑q:=e3a2 g λq _ _ O _=> #[q,O]
  exact Ci m (by rw[e];exact True.intro) J N<|EA L C (B.merge .nil) g
structure M1(X:Cx)(o:iV)(m:Str)(apos:Pos)(e:iV)(cpos:Pos):Prop where
 base:iU o m X.env (eval o X.env)=eval o X.env
 few:((jB cpos (hJ [e] X.env)).all (λx=>!x.1)&&(nE cpos (lx [] X.env)).all (λx=>x.1.isSome)
  && decide (([e]:List iV).length+([]:List qa).length+(if ([]:List qa).isEmpty then 0 else 1)<30))=true
 line:(apos.endLine==cpos.line)=true
 trees:jB cpos (hJ [e] X.env)=[70]
structure M2(X:Cx)(o:iV)(m:Str)(apos:Pos)(e f:iV)(cpos:Pos):Prop where
 base:iU o m X.env (eval o X.env)=eval o X.env
 few:((jB cpos (hJ [e,f] X.env)).all (λx=>!x.1)&&(nE cpos (lx [] X.env)).all (λx=>x.1.isSome)
  && decide (([e,f]:List iV).length+([]:List qa).length+(if ([]:List qa).isEmpty then 0 else 1)<30))=true
 line:(apos.endLine==cpos.line)=true
 trees:jB cpos (hJ [e,f] X.env)=[70,(false,eval f X.env)]
def IsD(H:Hp)(a:g9):Prop:=(∃b,Rd H a<|.dK b)\/∃b,Rd H a<|.dT b
def K0(I:Inv X k l H s)(d:IsD H a) :
  s.TypeIs (.ref a) "dict"/\(∀b,iw a=.ref b->∃c,s.heap.get? b=↑c/\c.dict=none)/\(a==lG)=false:=by
 rcases d with⟨g,e⟩|⟨g,e⟩
 ·obtain⟨_,h,m,_,f⟩:=Cg I.wg e;refine#[f.typeIs,λb q=>?_,h];cases q;obtain⟨c,_,_,i,j,_⟩:=f;exact#[c,i,j.2.1]
 ·obtain⟨_,h,n,_,f⟩:=DC I.wg e;refine#[f.typeIs,λb q=>?_,h];cases q;obtain⟨c,_,_,i,j,_⟩:=f;exact#[c,i,j.2.1]
def X8(r:A.units+1<kF)(I:Inv X d t H s)(g:yO H a y o)(n:RelV y u)(h:∀p q,Inv X d t H q->RelV (o.getD .wV) p->Q p q) :
  ic 54 A (call (.builtin "dict.get") [.ref a,u]) Q E s:=by
 rcases g with⟨i,k,e,j,l⟩|⟨i,k,b,e,j,eb,l⟩
 ·subst j;obtain⟨z,m,x,c,f⟩:=Cg I.wg e;refine oH kP f.typeIs mP (r8 _ _) (meets_dict_get (vX X.prog X.w) a (BI n) m) #[_,f.mapOf,h _ _ (I.tok _) ?_];rw[l];exact(c.val k).getD rfl
 ·subst j;cases (show u=iw b from n);obtain⟨z,m,v,c,f⟩:=DC I.wg e;refine oH kP f.typeIs mP (r8 _ _) (meetsH_dict_get (pH<|vX X.prog X.w) a b m) #[lY r,k,v,BY I.wg eb,f,h _ _ (I.tok _) ?_];rw[l];exact(c.val k).getD rfl
def X9(x:A.units+1<kF)(I:Inv X f B H s)(g:yO H a y o)(p:RelV y u)(q:RelV d r)(h:∀t v,Inv X f B H v->RelV (o.getD d) t->Q t v) :
  ic 54 A (call (.builtin "dict.get") [.ref a,u,r]) Q E s:=by
 rcases g with⟨j,k,e,m,l⟩|⟨j,k,b,e,m,eb,l⟩
 ·subst m;obtain⟨z,n,D,c,i⟩:=Cg I.wg e;refine oH kP i.typeIs mP (r9 _ _ _) (meets_dict_get_default (vX X.prog X.w) a (BI p) n r) #[_,i.mapOf,h _ _ (I.tok _) ?_];rw[l];exact(c.val k).getD q
 ·subst m;cases (show u=iw b from p);obtain⟨z,n,C,c,i⟩:=DC I.wg e;refine oH kP i.typeIs mP (r9 _ _ _) (meetsH_dict_get_default (pH<|vX X.prog X.w) a b n r) #[lY x,k,C,BY I.wg eb,i,h _ _ (I.tok _) ?_];rw[l];exact(c.val k).getD q
def Ya(e f:TE):TE:=λb H Q=>e b H λx c=>∃a,x=.ref a/\IsD c a/\f b c λy d=>∃o,yO d a y o/\Q (o.getD .wV) d
def Yb(e f g:TE):TE:=λb H Q=>e b H λx c=>∃a,x=.ref a/\IsD c a/\f b c λy h=>g b h λz d=>∃o,yO d a y o/\Q (o.getD z) d
def Yc(f g:TE):TE:=λc H Q=>f c H λx d=>∃a,x=.ref a/\IsD d a/\g c d λy e=>∃b k v,e a=↑(.dK b)/\y=kV k/\yX b k=↑v/\Q v (upd e a<|.dK<|AQ b k)
def Qh(p:X.A.units+1<kF)(q:PE X o r)(t:PE X e ty)(m:M1 X o "get" apos e c):PE X (.Call (.Attribute o "get" apos) [e] [] c) (Ya r ty):=by intro b s l H Q I h;refine rP m.base m.few m.line oJ kP sF<|wc (q b s l H _ I h) λu v f=>e2a3 f λx H1 n w i=>e1a3 i λa z d B=>?_;subst z;obtain rfl:u=iw a:=w;refine e0a3 (K0 n d) λC D _=>?_;refine#[C,D,?_];rw[m.trees];refine kJ rfl<|jN<|ko<|wc (t b v l H1 _ n B) λM N f=>e2a3 f λy H2 E G j=>e1a2 j λO g J=>lS ?_;exact X8 p E g G λP R L k=>#[_,H2,L,k,J]
def Qi(q:X.A.units+1<kF)(r:PE X o t)(v:PE X e ty)(w:PE X f B)(m:M2 X o "get" apos e f c):PE X (.Call (.Attribute o "get" apos) [e,f] [] c) (Yb t ty B):=by
 intro b s j H Q I h;refine rP m.base m.few m.line oJ kP sF<|wc (r b s j H _ I h) λu C i=>e2a3 i λx H1 p D k=>e1a3 k λa E d G=>?_;subst E;obtain rfl:u=iw a:=D;refine e0a3 (K0 p d) λJ L _=>?_;refine#[J,L,?_];rw[m.trees]
 refine kJ rfl (jN (ko (wc (v b C j H1 _ p G) λW M i=>e2a3 i λy H2 N O P =>
  ko (wc (w b M j H2 _ N P) λY Z i=>e2a3 i λz H3 R S l=>e1a2 l λov g T=>lS ?_))))
 exact X9 q R g O S λw' s4 U n=>#[_,H3,U,n,T]
def Qj(q:PE X o r)(t:PE X e ty)(m:M1 X o "pop" apos e c):PE X (.Call (.Attribute o "pop" apos) [e] [] c) (Yc r ty):=by intro b s n H Q I h;refine rP m.base m.few m.line oJ sE PySem.F.type_dict_pop<|wc (q b s n H _ I h) λu w g=>e2a3 g λx H1 p z i=>e1a3 i λa A d B=>?_;subst A;obtain rfl:u=iw a:=z;refine e0a3 (K0 p d) λC D _=>?_;refine#[C,D,?_];rw[m.trees];refine kJ rfl<|jN<|ko<|wc (t b w n H1 _ p B) λP R g=>e2a3 g λy H2 E G f=>e3a4 f λJ k v L M l N=>lS ?_;subst M;exact Z4 E L G l (.inl rfl) λS T O j=>#[v,_,O,j,N]
end L2
namespace Att
open PySem PySem.W PySem.Calls PyProof.Rows
def DP:∀(c:List Int)(d:List cr),WellAll P h d (c.map WData.int)->lK d c:=by
 intro c
 induction c with
 |nil =>
  intro d w;rw[o9]at w;cases w;exact .nil
 |cons n c e =>
  intro d w;rw[iI]at w
  cases w with
  |cons a b =>
   cases a;exact .cons _ _<|e _ b
def Od{l:qU}{n:Nat}(o:l.most=↑n) 
 (b:l.row.toRowW.claim.pre args=true) (j:WellAll P h vals args) :
    ∃a m c,vals=[iw a]/\args=[WData.list<|c.map WData.int]/\h.get? a=some { cls:=.type "list",data:=.seq m.toArray}/\lK m c/\c.length<=n:=by
  have k:WShape.hasAll [] args [.list .int]=true:=(pre_splitW b).1
  have p:l.pre.holds [] { args:=args}=true:=(pre_splitW b).2
  obtain⟨d,r,rfl,s,t⟩:=hasAllW_cons k
  obtain rfl:=hasAllW_nil t
  obtain⟨y,rfl,u⟩:=hasW_list s
  obtain⟨c,rfl⟩:=items_int u
  have e:c.length<=n:=by
    have g:(WTm.not<|.lt (.lit<|.int (n:Int))<|.len<|.arg 0).holds [] { args:=[.list<|c.map .int]}=true:=by
      have g:=(holds_andW p).1
      rw[o]at g
      exact g
    have i:=condW_of g<|w_not<|w_lt w_lit<|w_len_list<|w_arg rfl
    rw[hR]at i
    refine rr λq=>?_
    first
      | (rw[decide_eq_true z]at i;exact io i q0q)
      | (simp at i;omega)
  cases j with
  |cons v w =>
    cases w
    cases v with
    |list x f=>exact#[_,_,c,rfl,rfl,x,DP c _ f,e]
def Oe(l:qU)(args:List WData):l.row.toRowW.claim.post args (.bool true) args=true :=
 postW_of (r:=l.row.toRowW) (X:=(true==true))
  (show WShape.has [] (.bool true) .bool=true by first|rfl|decide|simp[WShape.has,WShape.arms,WShape.armsAll])
  (show (WTm.eq .res<|.lit<|.bool true).value [] { args:=args,res:=some<|.bool true,after:=args}=some (.bool<|true==true) from w_eq_bool (w_res rfl) w_lit) rfl
def Jw{l:qU}{n:Nat}{XP:(Str->Option cr)->i9->Prop}{d:DefRec}
 (E:l.most=↑n) (x:d.params.defaults=[])
 (call:∀(w:jf)(c b:hW)(s y:Str->Option cr)(j:g9)(o:Obj)(pm t e:cr)(a:g9)(i:List cr)(u:List Int),
 Ground q g [] XP w c s y b.heap->F w b.heap ->
 b.heap.get? j=↑o->o.data=.func (docDef d.name d.params d.body d.scope pm t e)->b.heap.CodeRec t d.name->s d.name=↑(.ref j) ->
 b.heap.get? a=some { cls:=.type "list",data:=.seq i.toArray}->lK i u->u.length<=n->b.gens=#v[] ->
 m4 (ii l.prog w) rQ (.call (.ref j) #[[.ref a],[]]) (λr v=>r=.ok (.ret (.bool true))/\OldK b.heap v.heap/\v.os=b.os/\nY v.gens) b) :
    vh q g XP F l.row.toRowW d [] (λf i=>ur f i):=by
  intro w c b s y G Y j o pm t e H kV I hd z C A J args vals as k D L B M
  obtain rfl:H=.none:=Dflts.none C x
  obtain rfl:kV=.none:=Dflts.noKw C
  obtain⟨a,i,u,rfl,rfl,m,h,p⟩:=Od E k B
  refine enter_call<|kh (call w c b s y j o pm t e a i u G Y I (fd_plain hd) z A m h p J) λr v N=>?_
  obtain⟨rfl,O,P,Q⟩:=N
  exact#[.inl #[.bool true,.bool true,[],rfl,λ_=>rfl,.bool true,Oe l _,λ_=>#[iP,λ_ R=>(nomatch R)]],O,P,Q]
end Att
namespace L2
open PySem PySem.Spec PyProof.Rows
def Gw:∀{a:List cr} {b:List Int},lK a b->Vals (b.map V.int) a:=by
 intro _ _ z
 induction z with
 |nil=>exact .nil
 |cons n t h c=>exact .cons #[t,rfl] c
noncomputable def wv(s:iH):Arguments:=match s with
 | .FunctionDef _ a _ _ _ _ _ _ _ _=>a
 |_=>{ posonlyargs:=[],args:=[],vararg:=none,kwonlyargs:=[],kw_defaults:=[],kwarg:=none,defaults:=[]}
noncomputable def vY(s:iH):List iH:=match s with
 | .FunctionDef _ _ b _ _ _ _ _ _ _=>b
 |_=>[]
noncomputable def vn(s:iH):mF:=match s with
 | .FunctionDef _ _ _ _ _ _ sc _ _ _=>sc
 |_=>{ kind:=.function,names:=[],isGenerator:=false,isCoroutine:=false}
abbrev Qk:P0:=λ_ _ _ _ _ _=>False
abbrev E0:XK:=λ_ _ _=>False
structure zj(K:hI)(x qual:Str)(st:iH)(f:g9)(fd:iW):Prop where
 ex:∃(oc:cr)(od:Option g9)(kV doc pm:cr)(an:Option g9)(TX ct:cr) (Of:Array (Option cr)),
  fd=jQ x qual (wv st) (vY st) (vn st) .none kV doc pm an TX ct/\K.lookup f=some #[oc,od,.func fd,Of]/\jI K TX qual=true
 kp:jv K (.ref f)=true
section
variable{P:iN}{w:jf}{K:hI}{mg:Str->Option cr}{base:i9}
def zj.ok{g:iH}{k:Nat}(F:zj K x c g f o)(S:vz N m (vn g))(i:∀d H Q E,n d H Q E->d.length=m.length)
 (e:∀(b:cr)(A:jL)(a:List Env)(s:hW)(H:Hp)(d:List V)(Q:VK)(E:XK),wR k (A.deeper (oY c (vn g) ⇑s f b))->n d H Q E ->
 ∃t,FP (wl Qk P w K mg base N c (vn g) f b A a s H E).nox (vY g) t/\t { nx:=λ_ p=>Q .wV p,rt:=Q} (start N d) H):vZ P w K mg base Qk (k+1) f o m n:=by
  obtain⟨y,z,B,r,C,D,b,G,u,rfl,lk,j⟩:=F.ex
  refine Jq lk j S i λA a s H d Q E v l=>?_
  refine e1a2 (e b A a s H d Q E v l) λt h q=>?_
  exact#[t,h.nox,q]
def zj.binds{d:iH}{ps:List Str}(F:zj K x c d f l)
 (h:∀(e a g:cr)(i:Option g9)(b j:cr)(k:List cr),k.length=ps.length->tM (jQ x c (wv d) (vY d) (vn d) .none e a g i b j) #[k,[]]=pure (ps.zip k)):Binds K l ps []:=by
  obtain⟨o,p,e,a,g,i,b,j,m,rfl,lk,n⟩:=F.ex
  exact .all<|h e a g i b j
def ED{st:iH}{e:cr}(l:K.lookup f=some #[j,m,.func<|jQ x a (wv st) (vY st) (vn st) .none e d pm h b i,g])
 (c:jI K b a=true)(k:jv K (.ref f)=true):zj K x a st f (jQ x a (wv st) (vY st) (vn st) .none e d pm h b i):=#[#[j,m,e,d,pm,h,b,i,g,rfl,l,c],k]
end
def Og{n:Nat}(h:n<=1000):n<hV:=mQ h q0q
def pv(i:Nat)(b:X.N[i]?=↑x:=by rfl)(c:Vis X.env.scope x:=by first|exact ku rfl|exact rG (ku rfl)|exact rG<|rG rfl)(d:(x==66)=false:=by decide)
 (a:(x==("__classdict__":Str))=false:=by decide):PE X 101 (vW i):=Kw b c d a
def Oh:zd X (.builtin "len") (λc H Q=>∃a b,c=[V.ref a]/\H a=↑(.dK b)/\Q (.int b.length) H):=by intro d s i H c j Q I r h;obtain⟨a,b,rfl,e,q⟩:=h;obtain⟨u,rfl,f⟩:=vals1 r;cases f;exact Z5 I (.inl e) λt k g=>#[.int b.length,H,g,#[t,rfl],q]
def a2j{A B:Prop}(h:A):if true=true then A else B:=by rw[g8 rfl];exact h
def Up{c A B:Prop}[Decidable c](a:c->A)(b:¬c->B):if c then A else B:=by
 by_cases h:c
 ·rw[g8 h];exact a h
 ·rw[ci h];exact b h
def DQ(H a:Hp):Prop:=∀b o,H b=↑o->a b=↑o
def DQ.trans{d e:Hp}(a:DQ H d)(b:DQ d e):DQ H e:=λc o h=>b c o<|a c o h
def DQ.free(e:DQ H a)(h:a l=Option.none):H l=Option.none:=by
 cases q:H l with
 |none=>rfl
 |some o =>
  rw[e l o q]at h;cases h
def DQ.seq{K:hI}(e:DQ H b)(h:wF K H a c):wF K b a c:=by
 rcases h with(h|⟨o,h⟩)|h
 ·exact .inl<|.inl<|e _ _ h
 ·exact .inl<|.inr #[o,e _ _ h]
 ·exact .inr h
end L2
namespace SX
open PySem
def Ay(a:Array Nat):Prop:=a.toList.Pairwise (· < ·)
def DY(r:Ay c){i j a b:Nat}(d:c.toList[i]?=↑a)(e:c.toList[j]?=↑b)(h:i<j):a<b:=by obtain⟨f,g⟩:=List.getElem?_eq_some_iff.mp d;obtain⟨k,l⟩:=List.getElem?_eq_some_iff.mp e;have:=List.pairwise_iff_getElem.mp r i j f k h;rw[g,l]at this;exact this
def Uq(f:Array Nat)(j:Nat)(r:Ay f):∀(b d c:Nat),d<=c->c<=f.size->c-d<=b ->
  (∀i a,i<d->f.toList[i]?=↑a->a<j)->(∀i a,c<=i->f.toList[i]?=↑a->j<=a) ->
  nI f j b d c<=f.size/\(∀i a,i<nI f j b d c->f.toList[i]?=↑a->a<j) /\
   (∀i a,nI f j b d c<=i->f.toList[i]?=↑a->j<=a):=by
 intro b
 induction b with
 |zero =>
  intro d c t k u l m;have e:d=c:=by omega
  subst e;exact#[k,l,m]
 |succ b s =>
  intro d c t k u l m;unfold nI;by_cases h:d<c
  ·rw[g8 h];have n:(d+c) / 2<f.size:=by omega
   have g:f.toList[(d+c) / 2]?=↑(f.getD ((d+c) / 2) j):=by rw[iX,lU];rw[jG n];rfl
   by_cases o:f.getD ((d+c) / 2) j<j
   ·rw[g8 o];refine s _ _ q0d k q0d (λi a p e=>?_) m;by_cases q:i=(d+c) / 2
    ·subst q;rw[g]at e;cases e;exact o
    ·have:=DY r e g q0d;omega
   ·rw[ci o];refine s _ _ q0d q0d q0d l<|λi a p e=>?_;by_cases q:i=(d+c) / 2
    ·subst q;rw[g]at e;cases e;omega
    ·have:=DY r g e q0d;omega
  ·rw[ci h];have e:d=c:=by omega
   subst e;exact#[k,l,m]
def Aa(r:Ay b)(j:Nat):iu b j<=b.size/\(∀i a,i<iu b j->b.toList[i]?=↑a->a<j) /\
  (∀i a,iu b j<=i->b.toList[i]?=↑a->j<=a):=by
 refine Uq b j r b.size 0 b.size (jl _) (hO _) q0a (λi a h=>by lia)<|λi a h e=>?_;have:=(List.getElem?_eq_some_iff.mp e).1;rw[hZ]at this
 lia
def below_at(r:Ay b){i j:Nat}(h:b.toList[i]?=↑j):iu b j=i:=by
 obtain⟨f,c,d⟩:=Aa r j;rcases ve (iu b j) i with q|q|q
 ·cases e:b.toList[iu b j]? with
  |none =>
   have:=List.getElem?_eq_none_iff.mp e;have:=(List.getElem?_eq_some_iff.mp h).1
   lia
  |some a =>
   have:=DY r e h q;have:=d _ a (hO _) e
   lia
 ·exact q
 ·have:=c i j q h
  lia
def K3(r:Ay b){i j:Nat}(h:b.toList[i]?=↑j):iu b (j+1)=i+1:=by
 obtain⟨f,c,d⟩:=Aa r<|j+1;rcases ve (iu b<|j+1) (i+1) with q|q|q
 ·have:=d i j q0a h
  lia
 ·exact q
 ·cases e:b.toList[i+1]? with
  |none =>
   have:=List.getElem?_eq_none_iff.mp e;rw[hZ]at this
   lia
  |some a =>
   have:=DY r h e q0a;have:=c (i+1) a q e
   lia
def K4(r:Ay b):iu b 0=0:=by
 obtain⟨f,d,g⟩:=Aa r 0
 cases e:iu b 0 with
 |zero=>rfl
 |succ k =>
  cases c:b.toList[0]? with
  |none =>
   have:=List.getElem?_eq_none_iff.mp c;rw[hZ]at this
   lia
  |some a =>
   have:=d 0 a q0a c
   lia
def toList_erase(a:Array b)(p:Nat):(jk a p).toList=a.toList.take p++a.toList.drop (p+1):=by unfold jk;rw[qb,nJ,nJ];simp[jH]
def EE(a:Array b)(p:Nat)(x:b):(ju a p x).toList=a.toList.take p++x::a.toList.drop p:=by unfold ju;rw[qb,qz,nJ,nJ];simp[jH]
def K5(r:Ay a)(p:Nat):Ay (jk a p):=by
 unfold Ay;rw[toList_erase];refine q7 ?_ r
 conv=>rhs;rw[<- tR p a.toList]
 exact List.Sublist.append (List.Sublist.refl _)<|List.drop_sublist_drop_left _<|mn p
def Ql(r:Ay c){j:Nat}(f:j∉c.toList):Ay (ju c (iu c j) j):=by
 obtain⟨t,g,h⟩:=Aa r j;unfold Ay;rw[EE];have k:(c.toList.take (iu c j)++c.toList.drop (iu c j)).Pairwise (· < ·):=by rw[tR];exact r
 obtain⟨l,m,n⟩:=List.pairwise_append.mp k
 have o:∀a∈c.toList.take (iu c j),a<j:=λa d=>by
  obtain⟨i,e⟩:=mh d;rw[uA]at e;split at e
  ·exact g i a (by assumption) e
  ·cases e
 have p:∀a∈c.toList.drop (iu c j),j<a:=λa d=>by
  obtain⟨i,e⟩:=mh d;rw[uB]at e;have:=h _ a (o4 _ i) e;have:j≠a:=λq=>f (by rw[q];exact List.mem_of_mem_drop d)
  lia
 refine List.pairwise_append.mpr #[l,List.pairwise_cons.mpr #[p,m],λa d b s=>?_];rcases List.mem_cons.mp s with q|q
 ·rw[q];exact o a d
 ·exact n a d b q
def Oi{t:jV}(r:Ay t.place){j:Nat}(h:∀i,t.slot j≠.live i):j∉t.place.toList:=λa=>by obtain⟨i,e⟩:=mh a;have b:=below_at r e;refine h (iu t.place j) ?_;unfold rH;rw[g8];rw[b,<- iX,e];simp
def K6{t:jV}{h:Int}:∀(b:Nat)(p:lV),(∀d,p.dummy=↑d->∀i,t.slot d≠.live i) ->
  ∀j c,jW t o h b p=↑(.empty j c)->∀i,t.slot (c.getD j)≠.live i:=by
 intro b
 induction b with
 |zero=>intro p _ j c e;cases e
 |succ b f =>
  intro p g j c e;unfold jW at e
  cases q:t.slot p.j with
  |empty =>
   rw[q]at e;injection e with e;injection e with l m;subst l m
   cases n:p.dummy with
   |none=>intro i z;rw[qI,q]at z;cases z
   |some d=>exact g d n
  |dummy =>
   rw[q]at e;refine f _ (λd a i z=>?_) j c e
   have:d=p.j:=by
    unfold l9 at a;split at a
    ·injection a with a;exact a.symm
    ·injection a with a;exact a.symm
   rw[this,q]at z;cases z
  |live k =>
   rw[q]at e;dsimp only at e;split at e
   ·cases e
   ·refine f _ (λd a=>?_) j c e
    have:p.dummy=↑d:=by unfold l9 at a;split at a<;>exact a
    exact g d this
set_option tactic.hygienic true in
def Jx{t:jV}{h:Int}{j:Nat}{b:Bool}(r:Ay t.place)(e:t.freeSlot h=↑(j,b)):j∉t.place.toList:=by
 refine Oi r ?_;unfold qg rc at e;split at e
 ·rename_i a c f
  injection e with e;injection e with g i;subst g;exact K6 _ _ (λd q=>by cases q) a c f
 ·cases e
def C4{c k l:Nat}{d i:Bool}(e:oj c k l d i m=↑(t,n)) :
  Ay t.place/\t.led=d/\t.plain=i/\t.mask=c/\t.dummies=#v[]/\t.place.size=n.size:=by
 unfold oj at e
 cases q:qh c m with
 |none=>rw[q]at e;cases e
 |some j =>
  rw[q]at e;injection e with e;injection e with o p;subst o p;refine#[?_,rfl,rfl,rfl,rfl,q0o];unfold Ay;rw[uC];rw[List.pairwise_filterMap];refine pw ?_ tz;intro a b f x r y s
  have g:x=a:=by revert r;cases (j.getD a none)<;>simp;intro z;exact z.symm
  have h:y=b:=by revert s;cases (j.getD b none)<;>simp;intro z;exact z.symm
  subst g h;exact f
noncomputable def Py(m i:Nat):Nat:=(i*5+1)%(m+1)
noncomputable def Qm(m:Nat):Nat->Nat->Nat
 | 0,i=>i
 |n+1,i=>Qm m n<|Py m i
noncomputable def orb(m:Nat):Nat->Nat->List Nat
 | 0,_=>[]
 |n+1,i=>i::orb m n (Py m i)
def Hg(m a b i:Nat):Qm m (a+b) i=Qm m b (Qm m a i):=by
 induction a generalizing i with
 |zero=>rw[tS];rfl
 |succ a c=>rw[Nat.succ_add];exact c _
def Ur(m:Nat):∀(n i k:Nat),k∈orb m n i->∃a,a<n/\Qm m a i=k:=by
 intro n
 induction n with
 |zero=>intro i k h;cases h
 |succ n b =>
  intro i k h;rcases List.mem_cons.mp h with q|q
  ·exact#[0,q0a,q.symm]
  ·obtain⟨a,c,e⟩:=b _ _ q;exact#[a+1,q0a,e]
noncomputable def Hh(m:Nat):Bool:=Qm m (m+1) 0==0&&(iD<|m+1).all λk=>(orb m (m+1) 0).contains k
def Gx{m:Nat}(h:Hh m=true):∀i k,i<=m->k<=m->∃n,n<=m/\Qm m n i=k:=by
 obtain⟨d,j⟩:=Bool.and_eq_true_iff.mp h;have d:Qm m (m+1) 0=0:=by simpa using d
 have c:∀k,k<=m->∃a,a<m+1/\Qm m a 0=k:=λk e=>by have:=List.all_eq_true.mp j k<|List.mem_range.mpr q0d;exact Ur m _ _ _ (by simpa using this)
 intro i k l e;obtain⟨a,p,f⟩:=c i l;obtain⟨b,q,g⟩:=c k e;by_cases o:a<=b
 ·refine#[b-a,q0d,?_];rw[<- f,<- Hg,show a+(b-a)=b by omega,g]
 ·refine#[m+1-a+b,q0d,?_];rw[<- f,<- Hg,show a+(m+1-a+b)=(m+1)+b by omega,Hg,d,g]
def Gy{m i:Nat}(h:i<=m):jt m i<=m/\i<=jt m i:=by unfold jt;split<;>lia
set_option tactic.hygienic true in
def Us{m:Nat}:∀(a i p:Nat),i<=m->∀j,jq m c a i p=↑j->j<=m/\c.getD j ↑0=none:=by
 intro a
 induction a with
 |zero=>intro i p _ j e;cases e
 |succ a d =>
  intro i p f j e;unfold jq at e;split at e
  ·rename_i k b
   injection e with e;subst e;have g:=List.find?_some b;have h:=List.mem_range.mp<|List.mem_of_find?_eq_some b;have:=Gy f;refine#[q0d,?_];simpa[Option.isNone_iff_eq_none] using g
  ·dsimp only at e;refine d _ _ ?_ j e;have:=ou (i*5+1+p / 32)<|oa m;exact kD this
set_option tactic.hygienic true in
def K8{m:Nat}{b:Array (Option Nat)}{k:Nat}(d:b.getD k ↑0=none):∀(n a i:Nat),i<=m->n<a->Qm m n i=k->∃j,jq m b a i 0=↑j:=by
 intro n
 induction n with
 |zero =>
  intro a i c g e;obtain⟨a,rfl⟩:∃f,a=f+1:=#[a-1,q0a];have e:i=k:=e;subst e;unfold jq;split
  ·exact#[_,rfl]
  ·rename_i q
   have:=List.find?_eq_none.mp q 0<|List.mem_range.mpr (by have:=(Gy c).2;lia);rw[Nat.add_zero,d]at this;exact io rfl this
 |succ n h =>
  intro a i c g e;obtain⟨a,rfl⟩:∃f,a=f+1:=#[a-1,q0a];unfold jq;split
  ·exact#[_,rfl]
  ·dsimp only
   have l:kH m i 0=(Py m i,0):=by unfold kH Py;simp
   rw[l];exact h a (Py m i) (kD<|ou _<|oa m) q0a e
def Oj{m:Nat}{h:Array (Option Nat)}(l:Hh m=true){k:Nat}(d:k<=m)(o:h.getD k ↑0=none):∀(c a i p:Nat),i<=m->p<32 ^ c->c+m+1<=a->∃j,jq m h a i p=↑j:=by
 intro c
 induction c with
 |zero =>
  intro a i p g b q;have:p=0:=by rw[Nat.pow_zero]at b;lia
  subst this;obtain⟨n,s,e⟩:=Gx l i k g d;exact K8 o n a i g q0a e
 |succ c r =>
  intro a i p g b q;obtain⟨a,rfl⟩:∃f,a=f+1:=#[a-1,q0a];unfold jq;split
  ·exact#[_,rfl]
  ·dsimp only;refine r a _ (p / 32) (kD<|ou _<|oa m) ?_ q0a;rw[Nat.pow_succ]at b;exact ut (by rw[Nat.mul_comm];exact b)
def Qn(x:Nat):∀(l:List (Option Nat)) (j:Nat),l[j]?=↑none->((l.set j<|↑x).filterMap id).Perm (x::l.filterMap id):=by
 intro l
 induction l with
 |nil=>intro j h;simp at h
 |cons a l b =>
  intro j h
  cases j with
  |zero =>
   have:a=none:=by simpa using h
   subst this;simp
  |succ j =>
   have c:l[j]?=↑none:=by simpa using h
   cases a with
   |none=>simpa using b j c
   |some y =>
    have:=b j c;exact(o5 y this).trans<|List.Perm.swap x y _
def has_none:∀(l:List (Option Nat)),(l.filterMap id).length<l.length->∃j:Nat,l[j]?=↑none:=by
 intro l
 induction l with
 |nil=>intro h;simp at h
 |cons a l b =>
  intro h
  cases a with
  |none=>exact#[0,rfl]
  |some y =>
   obtain⟨j,e⟩:=b (by simpa using h);exact#[j+1,by simpa using e]
def MV(h:Int):jz h<32 ^ 13:=by
 have a:(h%(2 ^ 64:Int)).toNat<2 ^ 64:=by lia
 exact iz a q0q
def Qo{m:Nat}(w:Hh m=true):∀(c:List Int) (a:Array (Option Nat)) (k:Nat),a.size=m+1->(a.toList.filterMap id).Perm (iD k)->k+c.length<=m ->
  ∃b,(c.foldl (init:=↑(a,k)) λi h=>do
   let (owner,k) <- i
   let j <- jq m owner (lm m) (jz h%(m+1)) (jz h)
   pure (owner.setIfInBounds j ↑k,k+1))=↑(b,k+c.length)/\b.size=m+1/\(b.toList.filterMap id).Perm (iD (k+c.length)):=by
 intro c
 induction c with
 |nil=>intro a k d g r;exact#[a,rfl,d,g]
 |cons h c x =>
  intro a k d g r
  have e:(a.toList.filterMap id).length<a.toList.length:=by
   rw[g.length_eq,lZ,hZ,d]
   lia
  obtain⟨s,t⟩:=has_none _ e
  have l:s<m+1:=by have:=(List.getElem?_eq_some_iff.mp t).1;rw[hZ,d]at this;exact this
  have n:a.getD s ↑0=none:=by rw[lU,<- iX,t];rfl
  have u:jz h%(m+1)<=m:=kD<|ou _<|oa m;obtain⟨j,v⟩:=Oj w (kD l) n 13 (lm m) (jz h%(m+1)) (jz h) u (MV h) (by unfold lm;lia);obtain⟨y,f⟩:=Us _ _ _ u j v
  have o:a.toList[j]?=↑none:=by
   rw[lU]at f;rw[iX]
   cases q:a[j]? with
   |none=>rw[q]at f;cases f
   |some z=>rw[q]at f;have p:z=none:=f;rw[p]
  obtain⟨b,A,B,C⟩:=x (a.setIfInBounds j ↑k) (k+1) (by rw[Array.size_setIfInBounds];exact d) (by
   rw[Array.toList_setIfInBounds];refine(Qn k _ _ o).trans<|(o5 k g).trans ?_;rw[List.range_succ]
   exact(nj (l₁:=[k]) (l₂:=iD k))) (by simp at r;lia)
  refine#[b,?_,B,?_]
  ·rw[List.foldl_cons]
   have:(do
     let (owner,k) <- some (a,k)
     let j <- jq m owner (lm m) (jz h%(m+1)) (jz h)
     pure (owner.setIfInBounds j ↑k,k+1))=↑(a.setIfInBounds j (some k),k+1):=by
    show (jq m a (lm m) (jz h%(m+1))<|jz h).bind _=_;rw[v];rfl
   rw[this,A];simp only[iE];congr 2
   lia
  ·rw[iE,show k+(c.length+1)=k+1+c.length by lia];exact C
def Ol(l:List (Option Nat)):(iD l.length).map (λj=>l.getD j none)=l:=by
 apply qK;intro i;by_cases h:i<l.length
 ·simp[jD,h]
 ·rw[List.getElem?_eq_none_iff.mpr (by simpa using rr h),List.getElem?_eq_none_iff.mpr<|rr h]
def C6{m fg mv:Nat}{led pl:Bool}{hs:Array Int}(c:Hh m=true)(d:hs.size<=m):∃t b,oj m fg mv led pl hs=↑(t,b)/\b.toList.Perm (iD hs.size):=by
 obtain⟨a,e,s,p⟩:=Qo c hs.toList (Array.replicate (m+1) none) 0 q0o q0o (by simpa using d)
 have f:qh m hs=↑a:=by unfold qh;rw[<- Array.foldl_toList];exact congrArg (ug Prod.fst) e
 refine#[_,_,by unfold oj;rw[f];rfl,?_];rw[uC]
 have q:(iD<|m+1).filterMap (λj=>ug (λx:Nat×Nat=>x.2)<|ug (λx=>(j,x))<|a.getD j none)=a.toList.filterMap id:=by
  conv=>rhs;rw[<- Ol a.toList]
  rw[uz,hZ,s];congr 1
  funext j
  simp only[uW,id,Option.map_map];rw[lU,jD,iX];cases (a[j]?.getD none)<;>rfl
 refine List.Perm.trans (uh q) ?_;simpa using p
def picked{es:Array (Int×cr)}{a:Array Nat}(h:a.toList.Perm (iD es.size)):(a.filterMap (es[·]?)).toList.Perm es.toList:=by
 rw[Array.toList_filterMap];refine(List.Perm.filterMap _ h).trans<|uh ?_;apply qK;intro i
 have:(iD es.size).filterMap (λx=>es[x]?)=es.toList:=by
  have e:(iD es.size).filterMap (λx=>es[x]?)=(iD es.toList.length).filterMap (λx=>es.toList[x]?):=by simp
  rw[e];exact List.filterMap_getElem?_range_length es.toList
 rw[this]
def a2l:Hh 7=true:=by decide +kernel
def a0a:Hh 15=true:=by decide +kernel
def a0b:Hh 31=true:=by decide +kernel
def a0c:Hh 63=true:=by decide +kernel
def Yd:Hh 127=true:=by decide +kernel
def Ye:Hh 255=true:=by decide +kernel
def Yf:Hh 511=true:=by decide +kernel
def TY(t:jV)(h:Int)(a:Nat)(p:lV):Prop:=∃j d,jW t (λ_=>h+1) h a p=↑(.empty j d)
noncomputable def begin_(m i a:Nat)(b:Option Nat):lV:={ j:=i,more:=jt m i-i,i:=i,perturb:=a,dummy:=b}
def MW{h:Int}:∀(k a:Nat)(p:lV),p.more=k->(∀b,TY t h a<|begin_ t.mask (kH t.mask p.i p.perturb).1 (kH t.mask p.i p.perturb).2 b)->TY t h (a+k+1) p:=by
 intro k
 induction k with
 |zero =>
  intro a p g d
  have c:∀b,t.advance { p with dummy:=b}=begin_ t.mask (kH t.mask p.i p.perturb).1 (kH t.mask p.i p.perturb).2 b:=λb=>by unfold l9;rw[ci<|by show ¬p.more>0;lia];rfl
  unfold TY jW
  cases q:t.slot p.j with
  |empty=>exact#[_,_,rfl]
  |dummy=>dsimp only;rw[c];exact d _
  |live i =>
   dsimp only;rw[ci<|by simp;lia];have:=c p.dummy;have e:({ p with dummy:=p.dummy}:lV)=p:=rfl;rw[e]at this;rw[this];exact d _
 |succ k l =>
  intro a p g d
  have f:∀b,TY t h (a+k+1) (t.advance { p with dummy:=b}):=λb=>by
   have e:t.advance { p with dummy:=b}={ p with j:=p.j+1,more:=p.more-1,dummy:=b}:=by unfold l9;rw[g8<|by show p.more>0;lia]
   rw[e];exact l a _ (by show p.more-1=k;lia) d
  unfold TY jW
  cases q:t.slot p.j with
  |empty=>exact#[_,_,rfl]
  |dummy=>exact f _
  |live i =>
   dsimp only;rw[ci<|by simp;lia];exact f p.dummy
def Ut{t:jV}{h:Int}{p:lV}(e:t.slot p.j=.empty)(a:Nat):TY t h (a+1) p:=by unfold TY jW;rw[e];exact#[_,_,rfl]
def MX(m i:Nat):jt m i-i<=9:=by unfold jt;split<;>lia
def a2m{t:jV}{h:Int}{k:Nat}(d:t.slot k=.empty):∀(n i a:Nat),Qm t.mask n i=k->10*(n+1)<=a->∀c,TY t h a (begin_ t.mask i 0 c):=by
 intro n
 induction n with
 |zero =>
  intro i a e g c;obtain⟨f,rfl⟩:∃f,a=f+1:=#[a-1,q0a];subst e;exact Ut d f
 |succ n j =>
  intro i a e g c;have m:=MX t.mask i
  have z:=MW (t:=t) (h:=h) (jt t.mask i-i) (a-(jt t.mask i-i)-1) (begin_ t.mask i 0 c) rfl (λb=>by
   have l:kH t.mask i 0=(Py t.mask i,0):=by unfold kH Py;simp
   show TY t h _ (begin_ t.mask (kH t.mask i 0).1 (kH t.mask i 0).2 b);rw[l]
   exact j (Py t.mask i) _ e q0a b)
  rw[show a-(jt t.mask i-i)-1+(jt t.mask i-i)+1=a by lia]at z;exact z
def a2n{t:jV}{h:Int}{k:Nat}(m:Hh t.mask=true)(g:k<=t.mask)(o:t.slot k=.empty):∀(c i b a:Nat),i<=t.mask->b<32 ^ c->10*(c+t.mask+1)<=a->∀d,TY t h a (begin_ t.mask i b d):=by
 intro c
 induction c with
 |zero =>
  intro i b a l f p d;have:b=0:=by rw[Nat.pow_zero]at f;lia
  subst this;obtain⟨n,r,e⟩:=Gx m i k l g;exact a2m o n i a e q0a d
 |succ c q =>
  intro i b a l f p d;have s:=MX t.mask i
  have z:=MW (t:=t) (h:=h) (jt t.mask i-i) (a-(jt t.mask i-i)-1) (begin_ t.mask i b d) rfl (λj=>by
   refine q _ _ _ (kD<|ou _<|oa _) ?_ q0a j;rw[Nat.pow_succ]at f
   exact ut (by rw[Nat.mul_comm];exact f))
  rw[show a-(jt t.mask i-i)-1+(jt t.mask i-i)+1=a by lia]at z;exact z
def zN[DecidableEq d]:∀(l m:List d),l.Nodup->(∀x∈l,x∈m)->l.length<=m.length:=by
 intro l
 induction l with
 |nil=>intro m _ _;exact jl _
 |cons x r e =>
  intro m f b;obtain⟨g,h⟩:=List.nodup_cons.mp f;have a:=b x h8;have i:=e (m.erase x) h λy c=>(List.mem_erase_of_ne<|λ(z:y=x)=>g<|by rw[<- z];exact c).mpr<|b y<|ie _ c;rw[List.length_erase_of_mem a]at i;have:0<m.length:=tD a;rw[iE];omega
def Jy(l:List Nat)(m:Nat)(h:l.length<=m):∃j,j<=m/\j∉l:=by
 refine rf λb=>?_;have a:∀j,j<=m->j∈l:=λj c=>rf λq=>b #[j,c,q];have:=zN (iD<|m+1) l List.nodup_range λx d=>a x<|kD<|List.mem_range.mp d;rw[lZ]at this
 lia
def K9{t:jV}{n:Nat}(e:t.fits n=true):∃j,j<=t.mask/\t.slot j=.empty:=by
 have c:t.place.size+t.dummies.size<=t.mask:=by simp only[uX,iY,i4]at e;exact e.2
 obtain⟨j,f,d⟩:=Jy (t.place.toList++t.dummies.toList) t.mask (by simpa using c);refine#[j,f,?_];rw[lR,qA]at d
 have b:∀(a:Array Nat),j∉a.toList->(a[iu a j]?==↑j)=false:=λa g=>by
  cases q:a[iu a j]? with
  |none=>rfl
  |some x =>
   have h:x∈a.toList:=by rw[<- iX]at q;exact jy q
   have:x≠j:=λz=>g<|z▸h;simp[this]
 unfold rH;dsimp only;rw[b _ d.1];unfold kX;rw[b _ d.2];rfl
def FT{t:jV}{n:Nat}(c:Hh t.mask=true)(f:t.fits n=true)(h:Int):∃j b,t.freeSlot h=↑(j,b):=by obtain⟨k,a,g⟩:=K9 f;obtain⟨j,d,e⟩:=a2n (h:=h) c a g 13 (jz h%(t.mask+1)) (jz h) (10*lm t.mask) (kD<|ou _<|oa _) (MV h) (by unfold lm;lia) none;refine⟨d.getD j,d.isSome,?_⟩;unfold qg rc SetTable.probeStart;have l:jW t (λ_=>h+1) h (10*lm t.mask) { j:=jz h%(t.mask+1),more:=jt t.mask (jz h%(t.mask+1))-jz h%(t.mask+1),i:=jz h%(t.mask+1),perturb:=jz h,dummy:=none}=↑(.empty j d):=e;rw[l]
def Jz{t:jV}{h:Int}:∀(b:Nat)(p:lV),(∀d,p.dummy=↑d->kX t.dummies d=true) ->
  ∀j d,jW t l h b p=↑(.empty j<|some d)->kX t.dummies d=true:=by
 intro b
 induction b with
 |zero=>intro p _ j d e;cases e
 |succ b f =>
  intro p g j d e;unfold jW at e
  cases q:t.slot p.j with
  |empty =>
   rw[q]at e;injection e with e;injection e with m i;exact g d i
  |dummy =>
   rw[q]at e;refine f _ (λc a=>?_) j d e
   have:c=p.j:=by
    unfold l9 at a;split at a
    ·injection a with a;exact a.symm
    ·injection a with a;exact a.symm
   rw[this];unfold rH at q;dsimp only at q;split at q
   ·cases q
   ·split at q
    ·assumption
    ·cases q
  |live k =>
   rw[q]at e;dsimp only at e;split at e
   ·cases e
   ·refine f _ (λc a=>?_) j d e
    have:p.dummy=↑c:=by unfold l9 at a;split at a<;>exact a
    exact g c this
set_option tactic.hygienic true in
def EF{t:jV}{h:Int}{j:Nat}(e:t.freeSlot h=↑(j,true)):kX t.dummies j=true:=by
 unfold qg rc at e;split at e
 ·rename_i a b c
  injection e with e;injection e with f g
  cases b with
  |none=>cases g
  |some d =>
   subst f;exact Jz _ _ (λd q=>by cases q) a d c
 ·cases e
def Qp{j:Nat}(h:kX a j=true):iu a j<a.size:=by
 unfold kX at h;have b:a[iu a j]?=↑j:=by simpa using h
 exact(Array.getElem?_eq_some_iff.mp b).1
def BZ(a:Array b)(p:Nat)(h:p<a.size):(jk a p).size=a.size-1:=by
 rw[<- hZ,toList_erase,ij,mq,nw,hZ]
 lia
def zO(a:Array b)(p:Nat)(x:b):(ju a p x).size=a.size+1:=by rw[<- hZ,EE,ij,iE,mq,nw,hZ];omega
def yB{t:jV}{n:Nat}:t.fits n=true↔t.place.size=n/\t.place.size+t.dummies.size<=t.mask:=by unfold uX lJ;simp
def Good(m:Nat):Prop:=m=7\/m=15\/m=31\/m=63\/m=127\/m=255\/m=511
def Good.Hh{m:Nat}(h:Good m):Hh m=true:=by
 rcases h with q|q|q|q|q|q|q<;>rw[q]
 ·exact a2l
 ·exact a0a
 ·exact a0b
 ·exact a0c
 ·exact Yd
 ·exact Ye
 ·exact Yf
def EG{n:Nat}(h:n<=511):Good (jb n-1)/\n<jb n:=by
 have q:((iD 512).all λn=>[8,16,32,64,128,256,512].contains (jb n)&&decide (n<jb n))=true:=by decide +kernel
 have q:=List.all_eq_true.mp q n<|List.mem_range.mpr q0a;obtain⟨q1,q2⟩:=Bool.and_eq_true_iff.mp q;refine#[?_,by simpa using q2];have q1:jb n=8\/jb n=16\/jb n=32\/jb n=64\/jb n=128\/jb n=256\/jb n=512:=by simpa using q1
 rcases q1 with e|e|e|e|e|e|e<;>rw[e]<;>unfold Good<;>decide
structure TOk(t:jV)(n:Nat):Prop where
 fits:t.fits n=true
 rise:Ay t.place
 plain:t.plain=true
 good:Good t.mask
 room:t.fill*5<t.mask*3
set_option tactic.hygienic true in
def Uu{t:jV}{c:Array (Int×cr)}{h:Int}{x:cr}(k:TOk t c.size)(q:c.size<=126) :
  ∃d g,layNew t c h x=(ju c (iu t.place ((t.freeSlot h).getD (0,false)).1) (h,x),d,g,false)/\d.led=t.led/\d.plain=true/\d.fits (c.size+1)=true/\Ay d.place/\Good d.mask/\(g=true->d.fill*5<d.mask*3):=by
 obtain⟨j,b,e⟩:=FT k.good.Hh k.fits h;obtain⟨n,r⟩:=yB.mp k.fits;have f:=k.room;unfold lJ at f
 have l:(91).size<=t.dummies.size/\(b=true->(91).size+1<=t.dummies.size):=by
  split
  ·rename_i i
   rw[BZ _ _<|Qp i];have:=Qp i;exact⟨q0a,λ_=>by lia⟩
  ·rename_i i
   refine#[hO _,λm=>?_];subst m;exact io (EF e) i
 have a:(t.put j).1.fits (c.size+1)=true:=by
  refine yB.mpr #[?_,?_]
  ·show (ju t.place (iu t.place j) j).size=_;rw[zO,n]
  ·show (ju t.place (iu t.place j) j).size+(91).size<=t.mask;rw[zO]
   lia
 refine#[(t.put j).1,b,?_,rfl,k.plain,a,Ql k.rise<|Jx k.rise e,k.good,λm=>?_]
 ·unfold layNew;rw[e];dsimp only;have o:(t.put j).2=iu t.place j:=rfl;have p:(ju c (iu t.place j) (h,x)).size=c.size+1:=zO _ _ _;rw[o,p];unfold SetTable.orStandIn;rw[g8 a,a];rfl
 ·have:=l.2 m;show ((ju t.place (iu t.place j) j).size+(91).size)*5<t.mask*3;rw[zO]
  lia
def Om{t:jV}{es:Array (Int×cr)}(v:1<=es.size)(h:es.size<=127)(m:t.plain=true):∃a c,tT t es (mJ es.size)=(a,c,false)/\a.toList.Perm es.toList/\TOk c a.size/\c.led=t.led:=by
 have o:mJ es.size=es.size*4:=by unfold mJ;rw[ci q0a]
 obtain⟨j,w⟩:=EG (n:=es.size*4) q0a;obtain⟨c,f,e,p⟩:=C6 (fg:=t.finger) (mv:=t.movedTo<|jb (es.size*4)-1) (led:=t.led) (pl:=t.plain) (hs:=es.map (·.1)) j.Hh (by rw[mX];lia);obtain⟨q,r,s,g,k,i⟩:=C4 e;rw[mX]at p;have l:=picked p;have u:(f.filterMap (es[·]?)).size=es.size:=by rw[<- hZ,l.length_eq,hZ]
 have b:f.size=es.size:=by rw[<- hZ,p.length_eq,lZ]
 have d:c.fits (f.filterMap (es[·]?)).size=true:=by
  refine yB.mpr #[by rw[i,u,b],?_];rw[i,k,b,g];show es.size+0<=_
  lia
 refine#[f.filterMap (es[·]?),c,?_,l,#[d,q,s.trans m,by rw[g];exact j,?_],r]
 ·unfold tT;rw[o];unfold SetTable.relaid;rw[e];dsimp only;rw[g8];rw[d,Bool.and_true];exact List.isPerm_iff.mpr p
 ·unfold lJ;rw[i,k,b,g];show (es.size+0)*5<_
  lia
open PyProof.Rows
def zm(e:Int×cr)(k:Int):Prop:=e.1=nX k/\∃t,e.2=mj k t
noncomputable abbrev xS(a:Array (Int×cr))(b:Nat)(t:jV):Obj:={ cls:=.type "set",dict:=none,data:=.set a b t,slots:=#v[]}
structure WO(w:jf)(es:Array (Int×cr))(t:jV)(ks:List Int):Prop where
 ent:Paired zm es.toList ks
 nd:ks.Nodup
 small:es.size<=127
 tab:TOk t es.size
 led:w.params.followText "set-order"=true\/t.led=true
def Ab{n:Nat}(h:n<=127):n<scanBound:=by have e:scanBound=4096:=rfl;rw[e];lia
def ze{n:Nat}(h:n<=127):n<=hV:=fits_of_scanBound<|Ab h
def wn(w:jf)(a:g9)(c:List Int)(h:i9):Prop:=∃b d t,h.get? a=↑(xS b d t)/\WO w b t c
def yC{k n:Type}{F:k->n->Prop}{l o:List k}(p:l.Perm o):∀{m:List n},Paired F l m->∃e,m.Perm e/\Paired F o e:=by
 induction p with
 |nil=>intro m h;exact#[m,.refl _,h]
 |cons x _ q =>
  intro m h
  cases h with
  |cons a b =>
   refine e1a2 (q b) λe f g=>?_;exact#[_,.cons _ f,.cons a g]
 |swap x y l =>
  intro m h
  cases h with
  |cons a b =>
   cases b with
   |cons c d=>exact#[_,.swap _ _ _,.cons c<|.cons a d]
 |trans _ _ i j =>
  intro m h;refine e1a2 (i h) λu f g=>?_;refine e1a2 (j g) λr s t=>?_;exact#[r,f.trans s,t]
def Hi:∀{g:List (Int×cr)} {h:List Int},Paired zm g h->∀k,(k∈h↔∃e∈g,ny k e.2=true):=by
 intro o p l
 induction l with
 |nil=>intro k;simp
 | @cons e j _ _ m r b =>
  intro k;have n:=b k;obtain⟨_,t,c⟩:=m
  have i:ny k e.2=true↔k=j:=by rw[c];simp[ny];exact eq_comm
  rw[iK,n];constructor
  ·rintro(z|⟨d,f,a⟩)
   ·exact#[e,h8,i.mpr z]
   ·exact#[d,ie _ f,a]
  ·rintro⟨d,f,a⟩;rcases List.mem_cons.mp f with z|z
   ·rw[z]at a;exact .inl<|i.mp a
   ·exact .inr #[d,z,a]
def C7{a:iN}{w:jf}:∀{d:List (Int×cr)} {g:List Int},Paired zm d g->ElemsOf (kR a w) d:=by
 intro l m h
 induction h with
 |nil=>exact λe b=>by cases b
 | @cons x j _ _ i r c =>
  intro e b;rcases List.mem_cons.mp b with z|z
  ·subst z;obtain⟨k,t,f⟩:=i;refine#[#[j,?_,k],?_]
   ·rw[f];exact qc _ _ _ _
   ·rw[f];rfl
  ·exact c e z
def MY(h:Paired zm a b):a.length=b.length:=Paired.length h
def WO.size{w:jf}{a:Array (Int×cr)}{t:jV}{b:List Int}(h:WO w a t b):a.size=b.length:=by rw[<- hZ];exact MY h.ent
def wn.nodup(x:wn w a b h):b.Nodup:=by refine e3a2 x λc d t e k=>?_;exact k.nd
def wn.of{b:iN}{w:jf}{a:g9}{c:List Int}{h:i9}(x:wn w a c h):h.SetOf (kR b w) a (λk=>decide<|k∈c) c.length:=by refine e3a2 x λd f t e k=>?_;exact#[_,d,f,t,e,#[rfl,rfl,rfl],rfl,C7 k.ent,λj=>by rw[i4];exact Hi k.ent j,Ab k.small,k.tab.fits,k.size]
def wn.keep{b:i9}(x:wn w a c h)(k:∀o,h.get? a=↑o->b.get? a=↑o):wn w a c b:=by refine e3a2 x λd f t e r=>?_;exact#[d,f,t,k _ e,r]
def wn.lt(x:wn w a b h):a<h.objs.size:=by refine e3a2 x λc d t e r=>?_;exact hX e
def wn.typeIs{w:jf}{a:g9}{b:List Int}{s:hW}(x:wn w a b s.heap):s.TypeIs (.ref a) "set":=by refine e3a2 x λc d t e r=>?_;exact#[_,e,rfl]
def Uv{h:i9}{a:g9}{f b:Array (Int×cr)}{d:Nat}{t c:jV}(e:h.get? a=↑(xS f d t)):(h.update a<|Obj.putSet b c).get? a=↑(xS b (d+1) c):=by have z:=jd (Obj.putSet b c) e (by rw[putSet_of b c rfl];rfl);rw[putSet_of b c rfl]at z;exact z
def Bp{i b:Array (Int×cr)}{d:Nat}{t f:jV}{Q:Unit->hW->Prop}(e:s.heap.get? a=↑(xS i d t))(j:b.size<=hV)
  (h:∀c,jj a s.heap c->c.get? a=↑(xS b (d+1) f)->Q () { s with heap:=c}):ic (ii g w) A (tU a b f) Q E s :=
 wpAny_storeSet_of e rfl (h _ (oU ..)<|Uv e) j
set_option tactic.hygienic true in
def WP{k:Int}{u:Tok}{Q:Bool->hW->Prop}(S:wn w a i s.heap)(room:i.length+1<=127)
  (h:∀l C,jj a s.heap l->wn w a C l->C.Perm (if k∈i then i else k::i)->Q (!decide (k∈i)) { s with heap:=l}) :
  ic (ii b w) A (setAddHashed a (.int k u)<|nX k) Q E s:=by
 refine e3a2 S λm ep t e K=>?_;have el:ElemsOf (kR b w) m.toList:=C7 K.ent;have hk:(kR b w).is k (.int k u)=true:=qc _ _ _ _;have D:(kR b w).hash k=nX k:=rfl;refine iQ<|am<|jr e rfl K.tab.fits ?_;dsimp only;rw[byScan_of (knd:=kR b w) rfl (Ab K.small) el,g8 rfl];refine am<|am<|mG<|am ?_;rw[<- D];refine wpAny_setScan_of (knd:=kR b w) hk e rfl K.tab.fits el ?_;have F:=Hi K.ent k
 cases hr:sG (λe=>(kR b w).is k e.2) m.toList with
 |some j =>
  refine e1a2 (List.findIdx?_eq_some_iff_getElem.mp hr) λhj hp _=>?_;have G:k∈i:=F.mpr #[_,vf hj,hp];have z:=h s.heap i (mC a s.heap) #[m,ep,t,e,K] (by rw[g8 G]);rw[decide_eq_true G]at z;exact ap<|ap z
 |none =>
  have f:k∉i:=λq=>by refine e1a2 (F.mp q) λx hx P=>?_;have:=List.findIdx?_eq_none_iff.mp hr x hx;rw[show (kR b w).is k x.2=true from P]at this;cases this
  have R:m.size<=126:=by rw[K.size];lia
  obtain⟨o,H,le,ll,I,lf,lr,lg,ld⟩:=Uu (h:=nX k) (x:=.int k u) K.tab R;have J:=layNew_perm t m (nX k)<|.int k u;rw[D];rw[le]at J ⊢;generalize ju m (iu t.place ((t.freeSlot<|nX k).getD (0,false)).1) (nX k,mj k u)=c at J ⊢;rw[qz]at J;have p1:Paired zm ((nX k,mj k u)::m.toList) (k::i):=.cons ⟨rfl,u,rfl⟩ K.ent;refine e1a2 (yC (J.trans nj).symm p1) λT pk pe=>?_;have U:c.size=m.size+1:=by rw[<- hZ,J.length_eq];simp
  rw[<- U]at lf;have p:c.size<=127:=by lia
  have W:T.Nodup:=pk.nodup_iff.mp<|List.nodup_cons.mpr #[f,K.nd];have g:c.size<=hV:=ze p
  -- ab the end wants,for any uD of X entries
  have L:∀(l:i9) (d:Array (Int×cr)) (v:Nat) (B:jV),jj a s.heap l->l.get? a=↑(xS d v B)->d.toList.Perm c.toList->TOk B d.size->B.led=t.led->Q true { s with heap:=l}:=by
   intro l d v B sb Y pp f2 l2;refine e1a2 (yC pp.symm pe) λZ q1 q2=>?_;have hs:d.size=c.size:=by rw[<- hZ,pp.length_eq,hZ]
   have z:=h l Z sb #[d,v,B,Y,q2,q1.nodup_iff.mp W,by rw[hs];exact p,f2,by rw[l2];exact K.led] (by rw[ci f];exact q1.symm.trans pk.symm);rw[iC f]at z;exact z
  refine am<|ap ?_
  have n:ic (ii b w) A (do
    tU a c o
    if (!H&&o.tooFull)=true then do
      (match (tT o c<|mJ c.size).2.2 with|true=>rule "set.scan.the-table-gave-way" |false=>pure ())
      tU a (tT o c<|mJ c.size).1 (tT o c<|mJ c.size).2.1
      pure ↑true
     else pure ↑true) (λr M=>ic (ii b w) A (match r with|some y=>pure y|none=>setAddHashedIn a (.int k u) (nX k) 99999) Q E M) E s:=by
   refine am<|Bp e g λh1 N o1=>?_;split
   ·refine e2a4 (Om (t:=o) (es:=c) q0a p I) λd B re rp rt rl=>?_;rw[re];refine am<|ap<|am<|Bp (s:={ s with heap:=h1}) o1 ?_ λh2 aa Y=>ap<|ap<|L h2 _ _ _ (N.trans aa) Y rp rt<|rl.trans ll;have:d.size=c.size:=by rw[<- hZ,rp.length_eq,hZ]
    rw[this];exact g
   ·rename_i O
    refine ap<|ap<|L h1 _ _ _ N o1 (.refl _) #[lf,lr,I,lg,?_] ll
    cases H with
    |true=>exact ld rfl
    |false =>
     have:o.tooFull=false:=by simpa using O
     unfold SetTable.tooFull at this;simpa using this
  split
  ·rw[hashByValue_scannable 8 rfl];exact am<|ap n
  ·exact am<|ap n
def WQ{k:Int}(S:wn w a c s.heap)(room:c.length+1<=127)
 (h:∀d b f,jj a s.heap d->wn w a b d->b.Perm (if k∈c then c else k::c)->s.toks<=f->Q (!decide (k∈c)) { s with heap:=d,toks:=f}) :
    ic (ii e w) A (setAdd a<|.int k u) Q E s:=by
  refine iQ<|am<|(kR e w).pyHash (k:=k) (qc _ _ _ _) ?_
  exact WP (s:=103) S room λd b g i p=>h d b _ g i p<|mn _
def Qq{a:Array (Int×cr)}{k:Int}:∀{b:List Int},Paired zm a.toList b->b.Nodup->∀{j:Nat},sG (λe=>(kR prog w).is k e.2) a.toList=↑j->b[j]?=↑k:=by
 intro b P _ j f;refine e1a2 (List.findIdx?_eq_some_iff_getElem.mp f) λg h _=>?_
 have:∀{a:List (Int×cr)} {b:List Int},Paired zm a b->∀(j:Nat)(e:Int×cr),a[j]?=↑e->∃d,b[j]?=↑d/\zm e d:=by
  intro a b P
  induction P with
  |nil=>intro j e z;simp at z
  |cons x _ i =>
   intro j e z
   cases j with
   |zero =>
    have l:=ja z;subst l;exact#[_,rfl,x]
   |succ j=>exact i j e (by simpa using z)
 obtain⟨d,m,_,u,n⟩:=this P j a.toList[j] (by simp[g]);have c:ny k a.toList[j].2=true:=h;rw[n]at c;have:d=k:=by simpa[ny] using c
 rw[<- this];exact m
def Ac:∀{l:List b} {m:List c},Paired F l m->∀i,Paired F (l.take i++l.drop (i+1)) (m.take i++m.drop (i+1)):=by
 intro _ _ z
 induction z with
 |nil=>intro i;simpa using Paired.nil
 |cons x r a =>
  intro i
  cases i with
  |zero=>simpa using r
  |succ i=>simpa using Paired.cons x (a i)
def xG{k:Int}:∀{ks:List Int} {j:Nat},ks[j]?=↑k->ks.Perm (k::(ks.take j++ks.drop (j+1)))
 | [],j,e=>by simp at e
 |x::r,0,e=>by
  have:x=k:=by simpa using e
  subst this;simp
 |x::r,j+1,e=>by have:=xG (ks:=r) (j:=j) (by simpa using e);simpa using(o5 x this).trans (List.Perm.swap k x _)
def Gz{k:Int}{Q:Bool->hW->Prop}(S:wn w a c s.heap)
 (h:∀p g,jj a s.heap p->wn w a g p->(if k∈c then c.Perm (k::g) else g=c)->Q (decide<|k∈c) { s with heap:=p}) :
    ic (ii b w) A (setDiscardHashed a (.int k u)<|nX k) Q E s:=by
  refine e3a2 S λd J t e K=>?_
  have F:ElemsOf (kR b w) d.toList:=C7 K.ent
  have L:(kR b w).is k (.int k u)=true:=qc _ _ _ _
  refine am<|am<|jr e rfl K.tab.fits ?_
  dsimp only
  rw[byScan_of (knd:=kR b w) rfl (Ab K.small) F,g8 rfl]
  refine am<|mG<|am ?_
  rw[show nX k=(kR b w).hash k from rfl]
  refine wpAny_setScan_of (knd:=kR b w) L e rfl K.tab.fits F ?_
  have r:=Hi K.ent k
  cases v:sG (λe=>(kR b w).is k e.2) d.toList with
  |none =>
    have f:k∉c:=λq=>by
      refine e1a2 (r.mp q) λx M y=>?_
      have:=List.findIdx?_eq_none_iff.mp v x M
      rw[show (kR b w).is k x.2=true from y]at this
      cases this
    have z:=h s.heap c (mC a s.heap) #[d,J,t,e,K] (by rw[ci f])
    rw[iC f]at z
    exact ap<|ap z
  |some j =>
    dsimp only
    have i:=Qq (prog:=b) (w:=w) K.ent K.nd v
    have n:k∈c:=jy i
    have B:j<d.size:=by
      have:=(List.findIdx?_eq_some_iff_getElem.mp v).1
      rwa [hZ]at this
    rw[tS]
    refine ap<|am<|jr e rfl K.tab.fits ?_
    have G:=yB.mp K.tab.fits
    have C:t.place[j]?=↑t.place[j]!:=by
      rw[jG q0a,getElem!_pos]
    have H:t.drop j={ t with place:=jk t.place j,dummies:=ju t.dummies (iu t.dummies t.place[j]!) t.place[j]!}:=by
      unfold SetTable.drop
      rw[C]
    have o:(jk d j).size=d.size-1:=BZ _ _ B
    have l:(jk t.place j).size=d.size-1:=by rw[BZ _ _ q0a];lia
    have I:WO w (jk d j) (t.drop j) (c.take j++c.drop (j+1)):=by
      refine#[by rw[toList_erase];exact Ac K.ent j,?_,by rw[o];have:=K.small;lia,?_,?_]
      · have := (xG i).nodup_iff.mp K.nd
        exact(List.nodup_cons.mp this).2
      · have m := K.tab.room
        unfold lJ at m
        rw[H]
        refine#[yB.mpr #[?_,?_],K5 K.tab.rise j,K.tab.plain,K.tab.good,?_]
        · show (jk t.place j).size = _
          rw[l,o]
        · show (jk t.place j).size+(ju t.dummies _ _).size <= t.mask
          rw[l,zO]
          lia
        · show ((jk t.place j).size+(ju t.dummies _ _).size)*5<t.mask*3
          rw[l,zO]
          lia
      · rw[H]; exact K.led
    refine am<|Bp e (ze I.small) λN D O=>?_
    refine am<|wpAny_point ?_
    have z:=h N _ D #[_,_,_,O,I] (by rw[g8 n];exact xG i)
    rw[decide_eq_true n]at z
    exact ap z
def EH:∀(l:List a)(i:Nat)(x:a),l[i]?=↑x->(x::l.eraseIdx i).Perm l
 | [],i,x,e=>by simp at e
 |y::r,0,x,e=>by
  have:y=x:=by simpa using e
  subst this;simp
 |y::r,i+1,x,e=>by have:=EH r i x (by simpa using e);rw[oT];exact(List.Perm.swap y x _).trans<|o5 y this
set_option tactic.hygienic true in
def Uw(c:Nat->Nat):∀(a k:Nat)(left:List d)(b:Array d),left.length<=a->(rR c a k left b).toList.Perm (b.toList++left):=by
 intro a
 induction a with
 |zero =>
  intro k left b h;have:left=[]:=List.length_eq_zero_iff.mp q0a;subst this;simp[rR]
 |succ a f =>
  intro k left b h;unfold rR;split
  ·rename_i x e
   have g:=(List.getElem?_eq_some_iff.mp e).1;refine(f _ _ _<|by rw[List.length_eraseIdx];split<;>lia).trans ?_;rw[qz,oK];refine sd _ ?_;exact EH _ _ _ e
  ·rename_i e
   cases left with
   |nil=>simp
   |cons y r =>
    have:=List.getElem?_eq_none_iff.mp e;have i:=ou (c k) (show 0<(y::r).length by simp)
    lia
def C8(b:Nat->Nat)(a:Array c):(uE b a).toList.Perm a.toList:=by unfold uE;have:=Uw b a.size 0 a.toList #v[] q0o;simpa using this
set_option tactic.hygienic true in
def Yg(S:wn w a f s.heap)(h:∀(c:Array (Int×cr)) (b:List Int),Paired zm c.toList b->b.Perm f->Q c s):ic (ii g w) A (setWalk a) Q E s:=by
 refine e3a2 S λd k t e K=>?_;refine am<|jr e rfl K.tab.fits<|am<|am<|jT<|ap ?_;split
 ·refine am<|jT<|ap ?_;obtain⟨b,p,q⟩:=yC (C8 _ d).symm K.ent;exact h _ b q p.symm
 ·rename_i i
  rw[ci<|by show ¬((!t.plain&&decide (d.size>1))=true);rw[K.tab.plain];simp]
  have j:t.led=true:=by
   rcases K.led with z|z
   ·exact io z i
   ·exact z
  refine am<|show ic _ A (if (!t.led&&decide (d.size>1))=true then lW "set:maker-not-led" else pure ()) _ _ _ from ?_;rw[j,ci q0o];exact ap<|ap<|h d f K.ent<|.refl _
def Qr(S:wn w a i s.heap)(h:∀(b:Array (Int×cr)) (c:List Int),Paired zm b.toList c->c.Perm i->Q b s) :
  ic (ii d w) A (setWalkUnseen a f g) Q E s:=by
 refine e3a2 (id S) λk l t e K=>?_;refine am<|jr e rfl K.tab.fits<|am<|am<|jT<|ap ?_
 rw[g8 (by
  rcases K.led with z|z
  ·have j:(ii d w).w.params.followText "set-order"=true:=z;rw[j];simp
  ·rw[z,K.tab.plain];simp)]
 exact Yg S h
def DZ{b:Nat}{n:Nat}(e:s.heap.get? a=↑(xS d b t))(k:t.fits d.size=true)(h:Q b s):ic (ii c w) A (setEpoch a) Q E s :=
 wpAny_setEpoch_of e rfl k h
def WR{es:Array (Int×cr)}{b:Array Nat}{Q:Array (Int×cr)×jV->hW->Prop}(p:b.toList.Perm (iD es.size))(h:Q (b.filterMap (es[·]?),d) s) :
  ic (ii c w) A (do
   let some (t,order):=↑(d,b)|lW "internal:set-table-without-room"
   let a:=order.filterMap (es[·]?)
   if a.size != es.size then lW "internal:set-table-lost-an-element"
   pure (a,t)) Q E s:=by
 have e:(b.filterMap (es[·]?)).size=es.size:=by rw[<- hZ,(picked p).length_eq,hZ]
 dsimp only;rw[ci<|by rw[e];simp];exact ap h
def DD(w:jf)(r:g9)(h:i9):Prop:=∃b a,h.get? r=↑(xS #v[] b<|kN 0 0 a)/\(w.params.followText "set-order"=true\/a=true)
def C9(a:Bool):TOk (kN 0 0 a) 0:=#[rfl,iP,rfl,.inl rfl,by show 0*5<7*3;decide]
def DD.set(x:DD w r h):wn w r [] h:=by refine e2a2 x λb a e l=>?_;exact#[#v[],b,_,e,.nil,ol,q0q,C9 a,l]
set_option tactic.hygienic true in
def Ux{m:Sem Unit}{Q:Unit->hW->Prop}(F:DD w r s.heap)(S:wn w a X s.heap)(ne:r≠a)
 (h:∀Y l,jj r s.heap Y->wn w r l Y->l.Perm X->Q () { s with heap:=Y}):ic (ii I w) A (setMerge r a m) Q E s:=by
  refine e2a2 (id F) λZ c P lr=>?_
  refine e3a2 (id S) λb ep t e K=>?_
  unfold setMerge
  rw[ci<|by simpa using ne]
  refine am<|jr e rfl K.tab.fits ?_
  dsimp only
  by_cases R:b.isEmpty=true
  · rw[g8 R]
    have aa:b=#v[]:=by simpa using R
    subst aa
    have:X=[]:=by
      have:=K.ent
      cases this
      rfl
    subst this
    exact ap<|h s.heap [] (mC _ _) F.set<|.refl _
  · rw[ci R]
    have af:1<=b.size:=by
      have:b.size≠0:=λz=>R (by simpa using Array.size_eq_zero_iff.mp z)
      lia
    have T:=K.small
    -- the room
    have go:∀(o:i9)(J:Nat)(d:jV),jj r s.heap o->o.get? r=↑(xS #v[] J d)->d.place=#v[]->d.dummies=#v[]->d.plain=true->d.led=c->Good d.mask->b.size*5<d.mask*3 ->
        ic (ii I w) A (setState r >>= λx=>match x with
          | (_,_,k)=>match k.road t with
            | .slotForSlot=>tU r b { t with finger:=k.finger,led:=k.led&&t.led,moves:=k.moves,plain:=k.plain&&t.plain}
            | .clean=>do
              let (b,t) <- (do
                let some (t,order):=(oj k.mask k.finger k.moves (led:=k.led&&t.led) (plain:=k.plain&&t.plain) (b.map (·.1)))|lW "internal:set-table-without-room"
                let L:=order.filterMap (b[·]?)
                if L.size != b.size then lW "internal:set-table-lost-an-element"
                pure (L,t))
              tU r b t
            | .oneByOne=>do
              for (h,x) in <- setWalkUnseen a [r] ↑r do
                let _ <- lw [x] (setAddHashed r x h)
                m
                if (<- setState a).2.1 != ep then lW "set.changed-during-merge") Q E { s with heap:=o}:=by
      intro o J d sb o1 p1 d1 M l1 C rm
      have f1:d.fits (#v[]:Array (Int×cr)).size=true:=yB.mpr #[by rw[p1];rfl,by rw[p1,d1];exact jl _]
      refine am<|jr (s:={ s with heap:=o}) o1 rfl f1 ?_
      dsimp only
      have u:w.params.followText "set-order"=true\/(d.led&&t.led)=true:=by
        rcases lr with z|z
        · exact .inl z
        · rcases K.led with y|y
          · exact .inl y
          · exact .inr (by rw[l1, z, y]; rfl)
      have v:d.road t=.slotForSlot\/d.road t=.clean:=by
        unfold uY lJ
        rw[p1,d1]
        simp only[il,nQ,Nat.add_zero,rS,lM,pM]
        split
        · exact .inl rfl
        · exact .inr rfl
      have ab:d.road t=.slotForSlot->t.dummies.isEmpty=true:=λz=>by
        unfold uY at z
        split at z
        · cases z
        · split at z
          · rename_i q
            exact(Bool.and_eq_true_iff.mp q).2
          · cases z
      have up:∀f,jj r o f->jj r s.heap f:=λf q=>sb.trans q
      rcases v with z|z
      · have hd := ab z
        rw[z]
        refine Bp (s:={ s with heap:=o}) o1 (ze T) λf g D=>?_
        refine h f X (up f g) #[b,_,_,D,K.ent,K.nd,T,#[K.tab.fits,K.tab.rise,?_,K.tab.good,K.tab.room],u]<|.refl _
        rw[M,K.tab.plain];rfl
      · rw[z]
        have i:b.size<=d.mask:=by lia
        obtain⟨t2,B,N,p⟩:=C6 (fg:=d.finger) (mv:=d.moves) (led:=d.led&&t.led) (pl:=d.plain&&t.plain) (hs:=b.map (·.1)) C.Hh (by rw[mX];exact i)
        refine e0a6 (C4 N) λr1 r2 r3 G U O=>?_
        rw[N]
        rw[mX]at p
        have W:=picked p
        have H:(B.filterMap (b[·]?)).size=b.size:=by rw[<- hZ,W.length_eq,hZ]
        have j:B.size=b.size:=by rw[<- hZ,p.length_eq,lZ]
        refine am<|WR p ?_
        refine Bp (s:={ s with heap:=o}) o1 (by rw[H];exact ze T) λf g D=>?_
        refine e1a2 (yC W.symm K.ent) λl q1 q2=>?_
        refine h f l (up f g) #[_,_,_,D,q2,q1.nodup_iff.mp K.nd,by rw[H];exact T,#[yB.mpr #[by rw[O,H,j],?_],r1,?_,by rw[G];exact C,?_],by rw[r2];exact u] q1.symm
        · rw[O, U, j, G]; exact i
        · rw[r3, M, K.tab.plain]; rfl
        · unfold lJ
          rw[O,U,j,G]
          exact rm
    refine am<|am<|jr P rfl (C9 c).fits ?_
    by_cases hr:b.size*5>=7*3
    · have e1 : (kN 0 0 c).roomFor b.size = some (b.size*2) := by
        unfold ui lJ kN
        rw[g8<|by simpa using hr]
        simp
      rw[e1]
      obtain⟨C,g2⟩:=EG (n:=b.size*2) q0a
      obtain⟨t2,B,N,p⟩:=C6 (fg:=0) (mv:=(kN 0 0 c).movedTo<|jb (b.size*2)-1) (led:=c) (pl:=true) (hs:=(#v[]:Array (Int×cr)).map (·.1)) C.Hh (by rw[mX];exact jl _)
      refine e0a6 (C4 N) λr1 r2 r3 G U O=>?_
      have ae:(kN 0 0 c).relaid ((#v[]:Array (Int×cr)).map (·.1)) (b.size*2)=↑(t2,B):=N
      refine am<|jr P rfl (C9 c).fits ?_
      dsimp only
      rw[ci (by
        have:jb (b.size*2)<=512:=by rcases C with q|q|q|q|q|q|q<;>lia
        have e3:(512:Nat)<=hV:=by rw[jo];decide
        lia),ae]
      rw[mX]at p
      have W:=picked (es:=#v[]) p
      have H:(B.filterMap ((#v[]:Array (Int×cr))[·]?)).size=0:=by rw[<- hZ,W.length_eq];rfl
      have j:B.size=0:=by rw[<- hZ,p.length_eq];rfl
      refine am<|WR (es:=#v[]) p ?_
      refine Bp P (by rw[H];exact jl _) λf g D=>?_
      have o3:B.filterMap ((#v[]:Array (Int×cr))[·]?)=#v[]:=Array.size_eq_zero_iff.mp H
      rw[o3]at D
      refine go f _ t2 g D (Array.size_eq_zero_iff.mp<|by rw[O,j]) U r3 r2 (by rw[G];exact C) (by rw[G];lia)
    · have e1 : (kN 0 0 c).roomFor b.size = none := by
        unfold ui lJ kN
        rw[ci<|by simpa using hr]
      rw[e1]
      refine ap ?_
      exact go s.heap Z (kN 0 0 c) (mC _ _) P rfl rfl rfl rfl (.inl rfl) (by show b.size*5<7*3;lia)
def On:tV uD "set.__xor__"=↑Builtin.«frozenset.__xor__» :=
 tW (id':="frozenset.__xor__") (by kernel_rfl) (by first|rfl|decide +kernel|(unfold rJ;simp +decide [qx])) q0s (by kernel_rfl)
def Qs(h:∀a,DD w ⇑s a->(∀c o,s.heap.get? c=↑o->a.get? c=↑o)->Q (.ref ⇑s) { s with heap:=a}):ic (ii b w) A (newSet<|.type "set") Q E s:=by
 refine am<|am<|jT<|ap ?_;refine am<|wpAny_alloc<|ap<|h _ ⟨0,_,ik _ rfl,?_⟩ λc o e=>ce _ e
 cases q:w.params.followText "set-order" with
 |true=>exact .inl rfl
 |false=>exact .inr (by show (!(w.params.followText "set-order"))=true;rw[q];rfl)
def Ck(S:wn w a c s.heap)(h:Q true s):ic (ii b w) A (Builtin.Frozenset.isAnySet<|.ref a) Q E s:=by refine am<|mI S.typeIs qd<|ap ?_;exact h
def Oo{m:String}{Q:cr->hW->Prop}(S:wn w a j s.heap)
  (h:∀f b,wn w ⇑s b f->b.Perm j->(∀c o,s.heap.get? c=↑o->f.get? c=↑o)->Q (.ref ⇑s) { s with heap:=f}) :
  ic (ii k w) A (Builtin.Frozenset.newFrom m (.type "set")<|.ref a) Q E s:=by
 refine am<|Qs λd r l=>?_;have g:wn w a j d:=S.keep λo e=>l a o e;have u:⇑s≠a:=jA S.lt;refine am<|ap<|am<|iQ ?_;refine am<|Ck (s:={ s with heap:=d}) g ?_;rw[g8 rfl];refine am<|ap ?_;have i:=g;refine e3a2 i λz B t e K=>?_;refine am<|DZ (n:=0) (s:={ s with heap:=d}) e K.tab.fits ?_;refine Ux (s:={ s with heap:=d}) r g u λv b x y p=>?_;exact ap<|h v b y p λc o q=>x.extBut c o (im<|hX q)<|l c o q
set_option tactic.hygienic true in
def a0e{Q:cr->hW->Prop}(Sa:wn w a ka s.heap)(Sb:wn w b kb s.heap)(hl:ka.length+kb.length<=126)
  (h:∀h' ks,wn w ⇑s ks h'->(∀k,k∈ks↔((k∈kb/\k∉ka)\/(k∉kb/\k∈ka)))->(∀c o,s.heap.get? c=↑o->h'.get? c=↑o)->Q (.ref ⇑s) { s with heap:=h'}) :
  ic (ii prog w) A (mW .BitXor (.ref a)<|.ref b) Q E s:=by
 refine wpAny_binaryOp_same (op:=.BitXor) (T:="set") Sa.typeIs Sb.typeIs F.fills_set_xor F.slot_set_xor ?_;refine jg F.slot_set_xor Sa.typeIs On ?_<|F.args_set_xor_2 _ _;refine am<|am<|ap<|ap ?_;dsimp only;rw[ci ig];refine am<|am<|Ck Sa<|Ck Sb ?_;rw[ci q0o];refine am<|ap<|am ?_
 wp_delta
 refine am<|am<|mI Sa.typeIs qd<|ap ?_;rw[g8 rfl];refine am<|Oo Sb λh1 Uy S1 p1 k1=>?_;have Sa1:wn w a ka h1:=Sa.keep λo e=>k1 a o e;have ne:⇑s≠a:=jA Sa.lt;refine am<|ap<|am<|iQ ?_;unfold Builtin.Frozenset.symmetricDifferenceUpdate;rw[ci<|by simpa using Ne.symm ne];dsimp only;refine am<|lA (s:={ s with heap:=h1}) (wn.typeIs (s:={ s with heap:=h1}) Sa1) ?_;rw[ci q0q];refine am<|Ck (s:={ s with heap:=h1}) Sa1 ?_;rw[g8 rfl];refine am<|ap<|am<|ap ?_;have a2o:=Sa1;refine e3a2 a2o λes ep t e K=>?_;refine am<|DZ (n:=0) (s:={ s with heap:=h1}) e K.tab.fits ?_;refine iQ<|am<|Qr (s:={ s with heap:=h1}) Sa1 λes' ks' P' p'=>?_;have nd':ks'.Nodup:=p'.nodup_iff.mpr Sa.nodup;have a3N:=p'.length_eq;have a3O:=p1.length_eq
 refine am (wpAny_forIn_array' _ (λrest _ s2=>∃dn kr h2 k2,ks'=dn++kr/\Paired zm rest kr/\s2={ s with heap:=h2}/\jj ⇑s h1 h2/\wn w ⇑s k2 h2/\k2.length<=Uy.length+dn.length /\
   ∀k,k∈k2↔((k∈Uy/\k∉dn)\/(k∉Uy/\k∈dn))) _ ?turn ?fin es' _ #[[],ks',h1,Uy,rfl,P',rfl,mC _ _,S1,hO _,λk=>by simp])
 case fin =>
  rintro _ s2 ⟨dn,kr,h2,k2,e0,P,rfl,sb,S2,_,m⟩;cases P;rw[lP]at e0;subst e0;refine ap<|ap<|ap ⟨_,rfl,q0o,?_⟩;refine h h2 k2 S2 (λk=>?_) λc o q=>sb.extBut c o (im<|hX q)<|k1 c o q;rw[m k,p1.mem_iff,p'.mem_iff]
 case turn =>
  rintro x rest _ s2 ⟨dn,kr,h2,k2,e0,P,rfl,sb,S2,l2,m⟩
  cases P with
  |cons hx hr =>
   rename_i k kr
   obtain⟨hx1,u,hx2⟩:=hx;rw[hx1,hx2];have nd2:=nd';rw[e0]at nd2
   have hkd:k∉dn:=λq=>by have:=(List.nodup_append.mp nd2).2.2 k q k h8;exact this rfl
   have a3S:dn.length+(kr.length+1)=ks'.length:=by rw[e0,ij,iE]
   have ea:∀h3,jj ⇑s h2 h3->h3.get? a=↑(xS es ep t):=λh3 q=>q.extBut a _ (Ne.symm ne)<|sb.extBut a _ (Ne.symm ne) e
   have WT:∀(R:ForInStep PUnit->hW->Prop) h3 k3,jj ⇑s h2 h3->wn w ⇑s k3 h3->k3.length<=k2.length+1->(∀j,j∈k3↔((j∈k2/\j≠k)\/(j∉k2/\j=k))) ->
     (∀s':hW,(∃dn kr h2 k2,ks'=dn++kr/\Paired zm rest kr/\s'={ s with heap:=h2}/\jj ⇑s h1 h2/\wn w ⇑s k2 h2/\k2.length<=Uy.length+dn.length/\∀k,k∈k2↔((k∈Uy/\k∉dn)\/(k∉Uy/\k∈dn)))->R (.yield #[]) s') ->
     ic (ii prog w) A.in1 (Builtin.Frozenset.unchanged (toString "frozenset."++toString "__xor__") a ep >>= λ_=>pure<|nq PUnit.unit) R E { s with heap:=h3}:=by
    intro R h3 k3 sb3 S3 l3 m3 fin;refine am<|am<|DZ (n:=0) (s:={ s with heap:=h3}) (ea h3 sb3) K.tab.fits ?_;rw[ci q0o];refine ap<|ap<|fin _ ⟨dn++[k],kr,h3,k3,by rw[e0];simp,hr,rfl,sb.trans sb3,S3,by rw[ij];simp;lia,λj=>?_⟩;rw[m3 j,m j,lR,mK];by_cases q2:j=k
    ·subst q2;by_cases q1:j∈Uy<;>simp[q1,hkd]
    ·by_cases q1:j∈Uy<;>by_cases q3:j∈dn<;>simp[q1,q2,q3]
   refine am<|iQ<|am ?_;refine Gz (s:={ s with heap:=h2}) S2 λh3 k3 sb3 S3 p3=>?_;by_cases Zu:k∈k2
   ·rw[decide_eq_true Zu,ci q0o];rw[g8 Zu]at p3;have nd3:=p3.nodup_iff.mp S2.nodup;refine ap<|WT _ h3 k3 sb3 S3 (by have:=p3.length_eq;rw[iE]at this;lia) (λj=>?_) λ_ z=>z;have q:=p3.mem_iff (a:=j);rw[iK]at q;rw[q];have hk1:=(List.nodup_cons.mp nd3).1;by_cases q2:j=k
    ·subst q2;simp[hk1]
    ·simp[q2]
   ·rw[iC Zu,g8 q0o];rw[ci Zu]at p3;subst p3;refine am<|WP (s:={ s with heap:=h3}) S3 q0a λh4 k4 sb4 S4 p4=>?_;rw[ci Zu]at p4;refine ap<|WT _ h4 k4 (sb3.trans sb4) S4 (by have:=p4.length_eq;rw[iE]at this;lia) (λj=>?_) λ_ z=>z;rw[p4.mem_iff,iK];by_cases q2:j=k
    ·subst q2;simp[Zu]
    ·simp[q2]
section
variable{prog:iN}{w:jf}{A:jL}{R:Result->hW->Prop}{I:g9}{fp wr:List g9}{G:Array pJ->Array pJ->Prop}{n:Nat}{P:Nat->cr->Prop}{St:Nat->hW->Prop}
set_option tactic.hygienic true in
def Yh(W:WalksS prog w A.in1 I fp wr G n P St)(r:g9)(O:r∉fp)(a:Nat->Int)(g:∀i v,P i v->∃t,v=.int (a i) t)(hb:n<=126) :
  ∀(m i:Nat)(s:hW)(b:List Int),i+m=n->St i s->wn w r b s.heap->(∀k,k∈b↔∃j,j<i/\a j=k)->b.length<=i ->
   (∀h l,Moved (r::wr) G s h->wn w r l h.heap->(∀k,k∈l↔∃j,j<n/\a j=k)->R (.ok<|.ret .none) h) ->
   m4 (ii prog w) A (.builtin "set.update.loop" #[[.ref r,.ref I],[]]) R s:=by
 have Q:r∉wr:=λq=>O<|W.sub _ q;have x:∀c∈wr,c∈r::wr:=λc B=>ie _ B;intro m
 induction m with
 |zero =>
  intro i s b X H S d Y f;obtain rfl:i=n:=by lia
  refine j4 uj ?_;rw[jM pA _];refine am<|W.done s _ _ H λh C=>?_;exact ap<|f h b (C.mono x) (S.keep λo e=>C.heap r o Q e) d
 |succ m Z =>
  intro i s b X H S d Y f;refine j4 uj ?_;rw[jM pA _];refine am<|W.item i s _ _ q0a H λv T hP J C=>?_;obtain⟨u,rfl⟩:=g i v hP;have S1:wn w r b T.heap:=S.keep λo e=>C.heap r o Q e;refine am<|iQ<|WQ S1 q0a λh2 D tk U S2 p E=>?_
  have l2:D.length<=i+1:=by
   have:=p.length_eq;split at this
   ·lia
   ·rw[iE]at this;lia
  refine ap #[lH pA _,Z (i+1) _ D q0a (W.frame _ T _ _ J E λc B o e=>?_) S2 (λk=>?_) l2 λs3 L M S3 m3=>?_]
  ·rw[U.2 c (λz:c=r=>O<|by rw[<- z];exact B)];exact e
  ·rw[p.mem_iff]
   have q:(k∈if a i∈b then b else a i::b)↔(k=a i\/k∈b):=by
    split
    ·rename_i z
     constructor
     ·exact .inr
     ·rintro(y|y)
      ·rw[y];exact z
      ·exact y
    ·exact iK
   rw[q,d k];constructor
   ·rintro(z|⟨j,hj,e⟩)
    ·exact#[i,q0a,z.symm]
    ·exact#[j,q0a,e]
   ·rintro⟨j,hj,e⟩;by_cases N:j=i
    ·subst N;exact .inl e.symm
    ·exact .inr #[j,q0a,e]
  ·refine f s3 L (Moved.trans W.gtrans ((C.mono x).then_heap E λc o B e=>?_) M) S3 m3;rw[U.2 c (λz:c=r=>B<|by rw[z];exact h8)];exact e
end
def Op(x:cr)(h:∀a,DD w ⇑s a->(∀c o,s.heap.get? c=↑o->a.get? c=↑o)->Q (.ref ⇑s) { s with heap:=a}) :
  m4 (ii b w) A (.call (.builtin "set.__new__") #[[.type "set",x],[]]) (wants Q E) s:=by
 refine m6 ?_;refine am<|ng (F.newCall_set_1 x)<|ap #[lH pV _,j4 F.entry_set_new ?_];rw[jM pV _];unfold Builtin.«set.__new__» pN;have g:=qd;obtain⟨i,j,k,l,m⟩:=s;dsimp only;generalize d:newSet=n
 wp_walk
 subst d;refine Qs λa e f=>?_;exact ap<|h a e f
def La(hh:A.handled=none)(hl:s.heap.IsList l b)(hi:lK b.toList x)(hb:b.size<=126)
 (h:∀f G g,wn w ⇑s g f->(∀k,k∈g↔k∈x)->(∀c o,s.heap.get? c=↑o->f.get? c=↑o)->Q (.ref ⇑s) { s with heap:=f,toks:=G}) :
    ic (ii aa w) A (call (.type "set") [.ref l]) Q E s:=by
  obtain⟨c0,tl,ab⟩:=F.called_set.mro
  have J:=F.called_set.made
  have ae:=F.called_set.sub
  refine m9<|m6 ?_
  refine ap #[om _ q0s,j4 F.entry_type_call ?_]
  rw[uk (vg "set" [.ref l] []) rfl]
  have ag:=F.called_set.notType
  have ah:=F.called_set.canCreate
  have ai:=F.typeCall_set_1<|.ref l
  repeat (any_goals (first|assumption|wp_step))
  refine kh (Op (.ref l) (E:=E) (Q:=λy z=>y=.ref ⇑s/\∃a,z={ s with heap:=a}/\DD w ⇑s a/\∀c o,s.heap.get? c=↑o->a.get? c=↑o) λa H u=>#[rfl,a,rfl,H,u]) λr1 s1 m=>?_
  cases r1 with
  |error e=>exact m
  |ok f1 =>
    cases f1 with
    |ret y =>
      obtain⟨rfl,a,rfl,H,u⟩:=m
      have L:wn w ⇑s [] a:=H.set
      have hT:mD { s with heap:=a} (.ref ⇑s) "set":=wn.typeIs (s:={ s with heap:=a}) L
      have aj:=F.called_set.init.lookup
      have ak:=F.called_set.init.bind<|.ref ⇑s
      repeat (any_goals (first|assumption|wp_step))
      refine kh (og (R:=wants (λr B=>r=.none/\∃f G g,B={ s with heap:=f,toks:=G}/\wn w ⇑s g f/\(∀k,k∈g↔k∈x)/\∀c o,s.heap.get? c=↑o->f.get? c=↑o) E) F.called_set.init.plain F.entry_set_init<|check_set_init_1 hT ?_) λr2 s2 n=>?_
      · obtain⟨M, p, N, nl, O⟩ := id hl
        have q:a.IsList l b:=#[M,u l M p,N,nl,O]
        have al:mD { s with heap:=a} (.ref l) "list":=q.typeIs
        have q1:=F.sub_list_set
        have q2:=F.sub_list_frozenset
        have q3:(kB "list" == kB "dict")=false:=by decide
        refine e2a2 (id H) λan af e1 l1=>?_
        unfold Builtin.«set.__init__» noKeywords Builtin.Frozenset.updateFrom
        generalize P:pyIter=PI
        wp_walk
        subst P
        refine wpAny_pyIter_list q<|am<|tX ?_
        have S:l<a.objs.size:=hX<|u l M p
        have T:⇑s<a.objs.size:=L.lt
        have U:A.in1.in1.in1.handled=none:=by simp[hh]
        have nr:⇑s∉[a.objs.size,l]:=by
          simp only[iK,jx,mH,qA]
          exact#[im T,jA<|hX p]
        have C:∀(i:Nat)(v:cr),b[i]?=↑v->∃t,v=.int ((λi=>x.getD i 0) i) t:=λi v hv=>rs hi i v (by rw[iX];exact hv)
        have d:∀c o,a.get? c=↑o->(a.push { cls:=.type "list_iterator",data:=.fields #v[.ref l,.int 0 0]}).get? c=↑o:=λc o e=>ce _ e
        have D:=rA hi
        rw[hZ]at D
        refine Yh ((Walks.list U _ l (im S) b).toS) ⇑s nr (λi=>x.getD i 0) C hb b.size 0 _ [] q0a #[#[_,ik _ rfl,rfl,rfl],q.push _] (L.keep λo e=>d _ o e) (λk=>by simp) (jl _) λs2 W I S2 m2=>?_
        obtain⟨h2,g2,d2,X,Y⟩:=s2
        have eg:g2=s.gens:=I.gens
        have ed:d2=s.drawn:=I.drawn
        have eo:Y=s.os:=I.os
        subst eg ed eo
        refine ap<|ap ⟨rfl,h2,X,W,rfl,S2,λk=>?_,λc o e=>?_⟩
        · rw[m2 k]
          constructor
          · rintro⟨j, Z, e⟩
            rw[<- e]
            have:j<x.length:=by lia
            simp[jD,this]
          · intro hk
            obtain⟨j,Z⟩:=mh hk
            refine#[j,by have:=(List.getElem?_eq_some_iff.mp Z).1;lia,?_]
            simp[jD,Z]
        · refine I.heap c o ?_ (d c o<|u c o e)
          simp only[iK,jx,mH,qA]
          exact#[im<|hX e,im<|hX<|u c o e]
      · cases r2 with
        |error e=>exact n
        |ok f2 =>
          cases f2 with
          |ret r =>
            obtain⟨rfl,f,G,g,rfl,S',m',k'⟩:=n
            repeat (any_goals (first|assumption|wp_step))
            exact h _ _ g S' m' k'
          |_=>exact n.elim
    |_=>exact m.elim
def xq:Slot "set_iterator" "__next__" "set_iterator.__next__" :=
 .of (owner:="set_iterator") (n:="__next__") (by rw[oy,mo];kernel_rfl) q0s q0s q0s (by first|exact .inl q0s|exact .inr q0s) (by rw[tY];kernel_rfl)
def Qt:Manifest.owners.lookup (String.ofList ['r','o','t','a','r','e','t','i','_','t','e','s'].reverse)=↑Manifest.sig_set_iterator:=by kernel_rfl
def Cn(a:cr):sr "set_iterator.__next__" #[[a],[]]:=by unfold sr;rw[signature?_of (id:="set_iterator.__next__") (n:=['_','_','t','x','e','n','_','_']) (o:=['r','o','t','a','r','e','t','i','_','t','e','s']) (by kernel_rfl) Qt];kernel_rfl
def BK:tV uD "set_iterator.__next__"=↑Builtin.«set_iterator.__next__»:=entryFor_of_tree (by kernel_rfl)
def Co:Slot "set_iterator" "__iter__" "set_iterator.__iter__" :=
 .of (owner:="set_iterator") (n:="__iter__") (by rw[oy,mo];kernel_rfl) q0s q0s q0s (by first|exact .inl q0s|exact .inr q0s) (by rw[tY];kernel_rfl)
def Hj(a:cr):sr "set_iterator.__iter__" #[[a],[]]:=by unfold sr;rw[signature?_of (id:="set_iterator.__iter__") (n:=['_','_','r','e','t','i','_','_']) (o:=['r','o','t','a','r','e','t','i','_','t','e','s']) (by kernel_rfl) Qt];kernel_rfl
def FU:tV uD "set_iterator.__iter__"=↑Builtin.«dict_keyiterator.__iter__» :=
 tW (id':="dict_keyiterator.__iter__") (by kernel_rfl) (by first|rfl|decide +kernel|(unfold rJ;simp +decide [qx])) q0s (by kernel_rfl)
def EI:tV uD "set.__iter__"=↑Builtin.«frozenset.__iter__» :=
 tW (id':="frozenset.__iter__") (by kernel_rfl) (by first|rfl|decide +kernel|(unfold rJ;simp +decide [qx])) q0s (by kernel_rfl)
noncomputable abbrev a0h(b i n c:Nat)(a:g9):Obj:={ cls:=.type "set_iterator",dict:=none,data:=.fields #v[ml b,ml i,.ref a,ml n,ml c],slots:=#v[]}
noncomputable def Ld(w:jf)(a:g9)(b:Array (Int×cr))(c:Nat):Array (Int×cr):=if w.params.followText "set-order"=true then uE (w.params.setOrder a c) b else b
def Dd(w:jf)(a:g9)(b:Array (Int×cr))(c:Nat):(Ld w a b c).toList.Perm b.toList:=by
 unfold Ld;split
 ·exact C8 _ b
 ·exact .refl _
def SIt(w:jf)(e a:g9)(c:Array (Int×cr))(d:Nat)(t:jV)(i:Nat)(h:i9):Prop :=
 ∃b,(w.params.followText "set-order"=false->iu t.place b=i)/\h.get? e=↑(a0h b i c.size d a)/\h.get? a=↑(xS c d t)
def JA(e:s.heap.get? b=some { cls:=cls,dict:=none,data:=.fields c,slots:=#v[]})(h:Q c s):ic (ii a w) A (fieldsOf<|.ref b) Q E s:=by exact am<|ro e<|ap h
set_option tactic.hygienic true in
def Oq{c i:Nat}(e:s.heap.get? a=↑(xS g k t))(K:WO w g t p)(n:w.params.followText "set-order"=false->iu t.place c=i)
 (d:(Ld w a g k)[i]?=↑x)(h:∀l,(w.params.followText "set-order"=false->iu t.place l=i+1)->Q ↑(x.2,l) s):ic (ii f w) A (setNext a c i k) Q E s:=by
  have q:=yB.mp K.tab.fits
  refine am<|jr e rfl K.tab.fits<|am<|am<|jT<|ap ?_
  dsimp only
  unfold Ld at d
  split
  · rename_i j
    have b:w.params.followText "set-order"=true:=j
    rw[g8 b]at d
    rw[ci q0o]
    refine am<|am<|jr e rfl K.tab.fits<|am<|am<|jT<|ap ?_
    rw[g8 j]
    refine am<|jT<|ap<|ap ?_
    rw[show (ii f w).w=w from rfl,d]
    exact h c λz=>by rw[b]at z;cases z
  · rename_i j
    have b:w.params.followText "set-order"=false:=Bool.eq_false_iff.mpr j
    rw[ci<|by rw[b];simp]at d
    rw[ci<|by show ¬((!t.plain&&decide (g.size>1))=true);rw[K.tab.plain];simp]
    have o:t.led=true:=by
      rcases K.led with z|z
      · rw[b]at z; cases z
      · exact z
    refine am<|show ic _ A (if (!t.led&&!g.isEmpty)=true then lW "set:maker-not-led" else pure ()) _ _ _ from ?_
    rw[o,ci q0o]
    have r:=(Array.getElem?_eq_some_iff.mp d).1
    rw[n b,d]
    have m:t.place[i]?=↑t.place[i]!:=by rw[jG q0a,getElem!_pos]
    rw[m]
    refine ap<|ap<|h _ λ_=>?_
    exact K3 K.tab.rise (by rw[iX];exact m)
set_option tactic.hygienic true in
def Ot{c:Nat}(e:s.heap.get? a=↑(xS b i t))(K:WO w b t l)(j:w.params.followText "set-order"=false->iu t.place c=b.size)(h:Q none s):ic (ii d w) A (setNext a c b.size i) Q E s:=by
 refine am<|jr e rfl K.tab.fits<|am<|am<|jT<|ap ?_;dsimp only;split
 ·rename_i g
  rw[ci q0o];refine am<|am<|jr e rfl K.tab.fits<|am<|am<|jT<|ap ?_;rw[g8 g];refine am<|jT<|ap<|ap ?_
  have:(uE ((ii d w).w.params.setOrder a i) b)[b.size]?=none:=by rw[Array.getElem?_eq_none_iff,<- hZ,(C8 _ b).length_eq,hZ];exact hO _
  rw[this];exact h
 ·rename_i g
  have f:w.params.followText "set-order"=false:=Bool.eq_false_iff.mpr g;rw[ci<|by show ¬((!t.plain&&decide (b.size>1))=true);rw[K.tab.plain];simp]
  have k:t.led=true:=by
   rcases K.led with z|z
   ·rw[f]at z;cases z
   ·exact z
  refine am<|show ic _ A (if (!t.led&&!b.isEmpty)=true then lW "set:maker-not-led" else pure ()) _ _ _ from ?_;rw[k,ci q0o,j f];rw[show b[b.size]?=none from by simp];exact ap<|ap h
def Ou(hh:A.handled=none)(K:WO w es t ks)(ne:a≠it):Walks prog w A it [it,a] [it] es.size (λi v=>∃x,(Ld w a es ep)[i]?=↑x/\v=x.2) (SIt w it a es ep t) where
 sub:=λb hb=>by simp at hb;simp[hb]
 frame:=λi h h' z9=>e1a3 z9 λsl z e1 e2 k=>#[sl,z,k it q0o _ e1,k a q0o _ e2]
 item:=by
  rintro i s Q E hi ⟨sl,z,e1,e2⟩ hQ;have hT:s.TypeIs (.ref it) "set_iterator":=#[_,e1,rfl];refine am<|pB<|wpAny_callSpecial?_slot (name:=my "__next__") hT xq<|jg xq hT BK ?_<|Cn _;refine am<|ap<|am<|JA e1 ?_;refine am<|qT e2 rfl K.tab.fits ?_;rw[ci q0o]
  obtain⟨x,hx⟩:∃x,(Ld w a es ep)[i]?=some x:=by
   have hl:i<(Ld w a es ep).size:=by rw[<- hZ,(Dd w a es ep).length_eq,hZ];exact hi
   exact#[_,jG hl]
  refine am<|Oq e2 K z hx λsl' z'=>?_;refine am<|kd e1 q0o λh1 o1 sb1=>am<|kd (s:={ s with heap:=h1}) o1 q0o λh2 o2 sb2=>ap #[_,rfl,ap ?_];have sb:=sb1.trans sb2;exact hQ _ h2 _ #[x,hx,rfl] #[sl',z',o2,sb.extBut a _ ne e2] λb o hb q=>sb.extBut b o (by simpa using hb) q
 done:=by
  rintro s Q E ⟨sl,z,e1,e2⟩ hQ;have hT:s.TypeIs (.ref it) "set_iterator":=#[_,e1,rfl];refine am<|pB<|wpAny_callSpecial?_slot (name:=my "__next__") hT xq<|jg xq hT BK ?_<|Cn _;refine am<|ap<|am<|JA e1 ?_;refine am<|qT e2 rfl K.tab.fits ?_;rw[ci q0o];refine am<|Ot e2 K z ?_;refine am<|kd e1 q0o λh1 o1 sb1=>am ?_;refine am<|iZ ?_ (by size_fits);refine am (m:=qC _ _)<|ng (a:=Value.none) (by first|rfl|(simp only[qC];rfl))<|iZ ?_ (by size_fits)
  refine wpAny_raiseNew_none hh<|am<|mI (T:="StopIteration") (b:=true) ⟨_,ik _ rfl,rfl⟩ isSubtype_stop<|ap ?_;exact hQ _ _ λb o hb q=>ce _<|ce _<|sb1.extBut b o (by simpa using hb) q
 self:=by rintro i s Q E ⟨sl,z,e1,e2⟩ hQ;have hT:s.TypeIs (.ref it) "set_iterator":=#[_,e1,rfl];refine wpAny_pyIter_slot hT Co<|jg Co hT FU ?_<|Hj _;exact ap #[_,rfl,"set_iterator",_,hT,xq.lookup,hQ]
def Yi(e:s.heap.get? a=↑(xS f i t))(K:WO w f t j)
 (h:∀d,SIt w ⇑s a f i t 0 d->(∀c o,s.heap.get? c=↑o->d.get? c=↑o)->d.objs.size=⇑s+1->Q (.ref ⇑s) { s with heap:=d}):ic (ii b w) A (pyIter<|.ref a) Q E s:=by
  have g:s.TypeIs (.ref a) "set":=#[_,e,rfl]
  refine wpAny_pyIter_slot g F.slot_set_iter<|jg F.slot_set_iter g EI ?_<|F.args_set_iter_1 _
  refine am<|am<|ap<|ap<|am<|am<|qT e rfl K.tab.fits<|ap ?_
  refine am<|am<|jr e rfl K.tab.fits<|am<|am<|jT<|ap<|ap ?_
  rw[ci<|by show ¬((!(ii b w).w.params.followText "set-order"&&(!t.plain&&decide (f.size>1)))=true);rw[K.tab.plain];simp]
  refine am<|ap<|am<|DZ (n:=0) e K.tab.fits ?_
  refine am<|iZ ?_ (by size_fits)
  refine ap #[_,rfl,"set_iterator",_,#[_,ik _ rfl,rfl],xq.lookup,?_]
  exact h _ #[0,λ_=>K4 K.tab.rise,ik _ rfl,ce _ e] (λc o q=>ce _ q)<|jO _ _
def Hk:nW (.type "set") "__len__"=pure (some<|.builtin "set.__len__"):=by rw[oy,mo];kernel_rfl
def Uz(P:Paired zm a b):∀(j:Nat)(e:Int×cr),a[j]?=↑e->∃k,b[j]?=↑k/\zm e k:=by
 induction P with
 |nil=>intro j e z;simp at z
 |cons x _ c =>
  intro j e z
  cases j with
  |zero =>
   have d:=ja z;subst d;exact#[_,rfl,x]
  |succ j=>exact c j e (by simpa using z)
def AT:∀{a:List cr} {b:List Int},a.length=b.length->(∀(i:Nat)(v:cr),a[i]?=↑v->∃k u,b[i]?=↑k/\v=mj k u)->lK a b
 | [],[],_,_=>.nil
 | [],_::_,h,_=>by simp at h
 |_::_,[],h,_=>by simp at h
 |v::a,n::b,h,k=>by
  refine e2a2 (k 0 v rfl) λc u d f=>?_;have:n=c:=by simpa using d
  subst this;subst f
  exact .cons _ _ (AT (by simpa using h) λi g e=>by
   refine e2a2 (k (i+1) g<|by simpa using e) λj l m o=>?_
   exact#[j,l,by simpa using m,o])
def Ov(hh:A.handled=none)(S:wn w a ks s.heap)
 (h:∀M tk Z G,lK Z G->G.Perm ks->(∀c o,s.heap.get? c=↑o->M.get? c=↑o)->⇑s<=M.objs.size->Q Z { s with heap:=M,toks:=tk}):ic (ii r w) A (collect<|.ref a) Q E s:=by
  refine e3a2 (id S) λH I t e K=>?_
  have d:a<⇑s:=hX e
  refine am<|tX<|j4 uF ?_
  rw[jM uG _]
  refine am (m:=newList [])<|iZ<|ap #[lH oV _,j4 F.entry_list_iadd ?_]
  rw[jM oV _]
  have l:∀c o,s.heap.get? c=↑o->(s.heap.push 58).get? c=↑o:=λc o q=>ce _ q
  have oL:(s.heap.push 58).get? ⇑s=some 58:=ik _ rfl
  have f:(s.heap.push 58).objs.size=⇑s+1:=jO _ _
  generalize s.heap.push 58=n at l oL f ⊢
  show ic _ A.in1 (qu (.ref ⇑s) (.ref a)<|.ref ⇑s) _ _ { s with heap:=n}
  have hT:mD { s with heap:=n} (.ref a) "set":=#[_,l a _ e,rfl]
  refine am<|lA hT ?_
  have n1:md (.ref ⇑s) (.ref a)=false:=by simp[md,jA d]
  have n2:(kB "set" == kB "list")=false:=by decide
  have n3:(kB "set" == kB "tuple")=false:=by decide
  simp only[n1,n2,n3,sH,lM,pM]
  refine am<|Yi (s:={ s with heap:=n}) (l a _ e) K λp I2 N ae=>?_
  have j:mD { s with heap:=p} (.ref a) "set":=#[_,N a _<|l a _ e,rfl]
  refine am<|iQ ?_
  refine am<|qf j Hk ?_
  generalize B9:("set.__len__":String)=O
  dsimp only
  rw[show splitId O=some ("set","__len__") from by subst B9;decide +kernel]
  subst B9
  refine am<|mI (b:=true) j qd ?_
  rw[ci q0o]
  rw[g8 q0s]
  refine am<|lA j<|ap ?_
  rw[g8 q0s]
  refine am<|mG<|am ?_
  have y:=N _ _ oL
  have P:A.in1.handled=none:=by simp[hh]
  have ne:a≠n.objs.size:=im<|n9 d (by rw[f];exact jK _)
  have W:=(Ou (prog:=r) (A:=A.in1) (ep:=I) P K ne).toS
  refine am<|qi y rfl ?_
  have B:=jd (Obj.mapSeq (·.push Value.none)) y rfl
  refine qi B rfl ?_
  have C:=jd (Obj.mapSeq (·.pop)) B rfl
  have J:∀c o,c≠⇑s->p.get? c=↑o->((p.update ⇑s (Obj.mapSeq (·.push Value.none))).update ⇑s (Obj.mapSeq (·.pop))).get? c=↑o :=
    λc o hc q=>(iR _ _<|Ne.symm hc).trans<|(iR _ _<|Ne.symm hc).trans q
  have R:((p.update ⇑s (Obj.mapSeq (·.push Value.none))).update ⇑s (Obj.mapSeq (·.pop))).objs.size=p.objs.size:=by rw[oW,oW]
  have T:⇑s∉[n.objs.size,a]:=by
    simp only[iK,jx,mH,qA]
    exact#[by rw[f];exact im<|jK _,jA d]
  generalize (p.update ⇑s (Obj.mapSeq (·.push Value.none))).update ⇑s (Obj.mapSeq (·.pop))=h4 at C J R ⊢
  refine e1a3 I2 λsl z i1 i2=>?_
  have I4:SIt w n.objs.size a H I t 0 h4:=#[sl,z,J _ _ (by rw[f];exact jA<|jK _) i1,J _ _ (im d) i2]
  refine ap #[lH qD _,codeAny_extend_loopS W (ze K.small) _ T _ H.size 0 _ _ _ rfl (jl _) I4 C (ItemsOf.nil _) λs5 U c5 L D g=>?_]
  refine am<|ro D<|ap ?_
  obtain⟨h5,g5,d5,X,Y⟩:=s5
  have eg:g5=s.gens:=L.gens
  have ed:d5=s.drawn:=L.drawn
  have eo:Y=s.os:=L.os
  subst eg ed eo
  -- aa ab
  refine e1a2 (yC (Dd w a H I).symm K.ent) λG pp pe=>?_
  have k5:∀c o,s.heap.get? c=↑o->h5.get? c=↑o:=λc o q=>L.heap c o (by
    simp only[iK,jx,mH,qA]
    exact#[im (hX q),im (hX (l c o q))]) (J c o (im (hX q)) (N c o (l c o q)))
  refine h h5 X U.toList G (AT ?_ λi v hv=>?_) pp.symm k5<|mu<|hX D
  · rw[hZ, g.1, <- MY pe, hZ, <- hZ, <- hZ, (Dd w a H I).length_eq]
  · obtain⟨x, hx, rfl⟩ := g.2 i v (by rw[<- iX]; exact hv)
    obtain⟨k,hk,_,u,hu⟩:=Uz pe i x (by rw[iX];exact hx)
    exact#[k,u,hk,hu]
def De 
 (C:∀(u:List cr->hW->Prop),(∀b e a d,lK a d->d.Perm x->(∀c o,s.heap.get? c=↑o->b.get? c=↑o)->⇑s<=b.objs.size->u a { s with heap:=b,toks:=e})->ic (ii f w) A.in1 (collect v) u E s)
 (k:x.length<64) (h:∀b e r a d,⇑s<=r->lK a d->d.Perm x->d.Pairwise (·<=·)->(∃n,b.get? r=some { cls:=.type "list",data:=.seq a.toArray n})->(∀c o,s.heap.get? c=↑o->b.get? c=↑o)->Q (.ref r) { s with heap:=b,toks:=e}) :
    ic (ii f w) A (call (.builtin "sorted") [v]) Q E s:=by
  refine se kind_sorted plain_sorted entry_sorted (args_sorted1 _) ?_
  refine am (m:=checkCount "sorted" 1 1 _)<|ap ?_
  refine am<|C _ λl e a d y z B D=>?_
  have g:a.length<64:=by rw[rA y,z.length_eq];exact k
  refine am<|uu ?_
  have p:(l.push<|mS "list" a.toArray 0).get? l.objs.size=↑(mS "list" a.toArray 0):=ik _ rfl
  refine am<|iQ<|jg slot_list_sort ⟨_,p,rfl⟩ entry_list_sort (list_sort_tree p y g λi t F G H=>#[_,rfl,?_])<|args_list_sort _
  obtain⟨I,J⟩:=sortedHeap_at (out:=i) p
  refine ap #[_,rfl,h _ e l.objs.size i.toList t D F (G.trans z) H #[I,by simpa using J] λc o q=>?_]
  have j:=hX<|B c o q
  rw[sortedHeap_old (im j)<|by rw[tZ];exact oO j]
  exact ce _<|B c o q
def Hl(j:A.handled=none)(S:wn w a f s.heap)(b:f.length<64)
 (h:∀d l r g e,⇑s<=r->lK g e->e.Perm f->e.Pairwise (·<=·)->(∃n,d.get? r=some { cls:=.type "list",data:=.seq g.toArray n})->(∀c o,s.heap.get? c=↑o->d.get? c=↑o)->Q (.ref r) { s with heap:=d,toks:=l}) :
    ic (ii i w) A (call (.builtin "sorted") [.ref a]) Q E s :=
  De (λ_ k=>Ov (by simp[j]) S k) b h
def FV{a:List cr}(p:s.heap.IsList l a.toArray)(b:lK a i)(d:i.length<64)
 (h:∀f t r j g,⇑s<=r->lK j g->g.Perm i->g.Pairwise (·<=·)->(∃n,f.get? r=some { cls:=.type "list",data:=.seq j.toArray n})->(∀c o,s.heap.get? c=↑o->f.get? c=↑o)->Q (.ref r) { s with heap:=f,toks:=t}) :
    ic (ii m w) A (call (.builtin "sorted") [.ref l]) Q E s :=
  De (λ_ k=>collect_list p (k _ s.toks _ _ b (.refl _) (λc o q=>(iR _ _ (jA (hX q))).trans (ce _ q)) (by rw[oW,tZ];exact mn _)) (by
    have:=rA b
    have e:(64:Nat)<=hV:=by rw[jo];decide
    lia)) d h
end SX
namespace L2
open PySem PySem.Spec PyProof.Rows SX
def Bq{a:List Int}(h:Vals (a.map V.int) b):lK b a:=intsAre_of h
def UA(h:lK a b):Vals (b.map V.int) a:=Gw h
noncomputable def xH(w:jf)(p:g9)(a:List Int):HO:=.ext<|wn w p a
def Ad(I:Inv X a c H s)(h:H p=↑(xH X.w p b)):wn X.w p b s.heap:=(I.wg p _ h).1
def Hm(x:wn w p a h):wA P w H h p (xH w p a) :=
 #[x,(e3a2 x λ_ _ _ e _=> #[_,e]),λ_ _ q k=>q.keep k]
def JB(i:X.calm=true):zd X (.type "set") (λe H Q=>∃(a:g9)(c:List Int),e=[.ref a]/\wF X.K H a (c.map V.int)/\c.length<=126/\∀(p:g9)(b:List Int),H p=none->b.Nodup->b.length<=c.length->(∀k,k∈b↔k∈c)->Q (.ref p) (upd H p<|xH X.w p b)):=by intro f s z H e A Q I r h;obtain⟨a,c,rfl,j,B,q⟩:=h;obtain⟨u,rfl,l⟩:=vals1 r;cases l;refine e1a3 (I.list j) λn g o C=>?_;have t:=Bq g;have d:=g.length;rw[hR]at d;refine La (I.ok.hd i) o.isList (by simpa using t) (by rw[il];lia) λD v b S m k=>?_;refine#[.ref ⇑s,_,I.laid (t':=v) k (hO _)<|Hm S,rfl,q _ b (I.wg.fresh<|hO _) S.nodup (zN _ _ S.nodup λx y=>(m x).mp y) m]
def UB:AJ X (mW .BitXor) (λx y H Q=>∃(a b:g9)(c d:List Int),x=.ref a/\y=.ref b/\H a=↑(xH X.w a c)/\H b=↑(xH X.w b d)/\c.length+d.length<=126 /\
  ∀(p:g9)(e:List Int),H p=none->e.Nodup->(∀k,k∈e↔((k∈d/\k∉c)\/(k∉d/\k∈c)))->Q (.ref p) (upd H p (xH X.w p e))):=by
 intro f s o H x y v u Q I g i h;obtain⟨a,b,c,d,rfl,rfl,j,l,n,q⟩:=h;cases g;cases i;refine a0e (Ad I j) (Ad I l) n λr e S m k=>?_;exact#[.ref ⇑s,_,I.laid (t':=s.toks) k (hO _)<|Hm S,rfl,q _ e (I.wg.fresh<|hO _) S.nodup m]
def B2{g:List Int}(I:Inv X b k H s)(l:g.length<64)(q:∀(p:g9)(a:List Int),H p=none->a.Perm g->a.Pairwise (·<=·)->Q (.ref p) (upd H p<|.lst<|a.map V.int)) :
  ∀(d:i9)(h:Nat)(r:g9)(f:List cr)(a:List Int),⇑s<=r->lK f a->a.Perm g->a.Pairwise (·<=·)->(∃n,d.get? r=some { cls:=.type "list",data:=.seq f.toArray n})->(∀c o,s.heap.get? c=↑o->d.get? c=↑o)->EP X b k Q (.ref r) { s with heap:=d,toks:=h}:=by
 intro d h r f a i m j t u v;obtain⟨n,e⟩:=u;have w:(64:Nat)<=hV:=by rw[jo];decide
 exact#[.ref r,_,I.laid (t':=h) (o:=.lst<|a.map V.int) v i #[by rw[hR,j.length_eq];lia,f,n,UA m,e],rfl,q r a (I.wg.fresh i) j t]
def Cp(g:X.calm=true):zd X (.builtin "sorted") (λe H Q=>∃(a:g9)(c:List Int),e=[.ref a]/\H a=↑(xH X.w a c)/\c.length<64/\∀(p:g9)(d:List Int),H p=none->d.Perm c->d.Pairwise (·<=·)->Q (.ref p) (upd H p<|.lst<|d.map V.int)):=by intro f s k H e l Q I r h;obtain⟨a,c,rfl,i,b,q⟩:=h;obtain⟨u,rfl,j⟩:=vals1 r;cases j;exact Hl (I.ok.hd g) (Ad I i) b<|B2 I b q
def Hn:zd X (.builtin "sorted") (λe H Q=>∃(a:g9)(c:List Int),e=[.ref a]/\wF X.K H a (c.map V.int)/\c.length<64/\∀(p:g9)(d:List Int),H p=none->d.Perm c->d.Pairwise (·<=·)->Q (.ref p) (upd H p<|.lst<|d.map V.int)):=by intro f s m H e n Q I r h;obtain⟨a,c,rfl,g,b,q⟩:=h;obtain⟨u,rfl,i⟩:=vals1 r;cases i;refine e1a3 (I.list g) λj k l o=>?_;exact FV l.isList (Bq k) b<|B2 I b q
def D6(X:Cx)(H:Hp)(x:V)(d:PyData):Prop:=∀(a:List (g9×Obj)) (b:St) (s:hW) (u:cr),Inv X a b H s->RelV x u->∃c,Reads s.heap u d c
def D6.int(i:Int):D6 X H (.int i) (.int i):=λ_ _ _ _ _ r=>by obtain⟨t,rfl⟩:=r;exact#[_,Reads.int i t]
def GB(I:Inv X a e H s):∀{c:List V} {d:List cr} {b:List PyData},Vals c d->Paired (D6 X H) c b->∃f,ReadsAll s.heap d b f:=by
 intro _ _ b z
 induction z generalizing b with
 |nil=>intro w;cases w;exact#[_,.nil]
 |cons r t g=>intro w;cases w with|cons q p =>
  obtain⟨j,h⟩:=q a e s _ I r;obtain⟨k,i⟩:=g p;exact#[_,.cons h i]
def D6.lst(h:wF X.K H a c)(p:Paired (D6 X H) c d):D6 X H (.ref a) (.list d):=λb m s u I r=>by
 cases r;refine e1a3 (I.list h) λe f g _=>?_;obtain⟨q,i⟩:=GB I f p;obtain⟨o,j,k,n,l⟩:=g.isList;exact#[_,Reads.list j k l<|by simpa using i]
def a0i(X:Cx)(a:Bool):R2:=λx y H Q=>∃d e,D6 X H x d/\D6 X H y e/\sU d=true/\sU e=true/\pO d e=true/\Q (.bl<|if a then !PySem.Spec.same d e else lF d e) H
def Yj(c:X.A.units+64<kF):AJ X (jF .Eq) (a0i X false):=by intro a s b H x y v u Q I f g h;obtain⟨d,e,i,j,k,l,m,q⟩:=h;obtain⟨p,n⟩:=i a b s v I f;obtain⟨r,o⟩:=j a b s u I g;exact eq_dataH_same n o k l c m #[.bl _,H,I,rfl,q]
def Qu(c:X.A.units+64<kF):AJ X (jF .NotEq) (a0i X true):=by intro a s b H x y v u Q I f g h;obtain⟨d,e,i,j,k,l,m,q⟩:=h;obtain⟨p,n⟩:=i a b s v I f;obtain⟨r,o⟩:=j a b s u I g;exact ne_dataH_same n o k l c m #[.bl _,H,I,rfl,q]
def JC:zd X (.builtin "isinstance") (λa H Q=>∃(x:V)(T:String)(t:cr)(b:Bool),a=[x,.ty T]/\zB X.K H x t/\mO X.K t (.type T)=↑b/\Q (.bl b) H):=by intro c s j H a k Q I r h;obtain⟨x,T,t,b,rfl,d,e,q⟩:=h;obtain⟨u,v,rfl,f,g⟩:=vals2 r;cases g;exact Gj I f d e λi=>#[.bl b,H,I.tok i,rfl,q]
def a0j:V->V->Hp->VK->Prop:=λo i H Q=>∃(p:g9)(a:List V)(k:Int)(v:V),o=.ref p/\i=.int k/\H p=↑(.lst a)/\0<=k/\a[k.toNat]?=↑v/\Q v H
def Qv:ZM X a0j:=by intro a s w H o i x y Q I c d h;obtain⟨p,z,k,v,rfl,rfl,e,f,b,q⟩:=h;cases c;obtain⟨t,rfl⟩:=d;refine e1a3 (I.list<|wF.of (K:=X.K) e) λg r j A=>?_;refine e1a2 (r.get b) λu l m=>?_;have B:=Ew;have n:=(List.getElem?_eq_some_iff.mp b).1;exact wpAny_getItem_list j.isList f q0a (by simpa using l) #[v,H,I,m,q]
noncomputable abbrev FO(X:Cx)(a:mF)(d:List (Str×g9))(e:List Str)(b:hW)(c:Hp)(C:g9)(f:List g9)(g:List (g9×Obj)):Cx :=
 { X with N:=e,s₀:=b,H₀:=c,env:=t6 a d C X.env,outer:=X.stack,stack:=X.stack,ex:=f,fn:=λ_=>false,pn:=g,xe:=λ_ _=>False}
structure zC(X:Cx)(scope:mF)(cl:List (Str×g9))(T Fr:List Str)(idx:List Nat):Prop where
 kind:scope.kind=.function
 a0k:oS scope X.env=pure cl
 B3:∀y∈scope.names,y.2≠.cell
 names:∀y∈scope.names,y.2=.local->scope.names.lookup y.1=some .local
 sub:∀x c,cl.lookup x=↑c->X.env.cells.lookup x=↑c
 frl:∀y∈scope.names,y.2=.free->∃c,cl.lookup y.1=↑c
 fr:∀(j:Nat)(x:Str),Fr[j]?=↑x->∃i c,idx[j]?=↑i/\X.N[i]?=↑x/\(X.env.kindOf x=some .cell\/X.env.kindOf x=some .free)/\cl.lookup x=↑c/\((pc scope X.env).names.lookup x=some .cell\/(pc scope X.env).names.lookup x=some .free)
 len:idx.length=Fr.length
noncomputable def xT(T:List Str)(a:List Nat)(b:St):St:=T.map (λ_=>none)++a.map λi=>b[i]?.join
def lookup_mem{β:Type}:∀{l:List (Str×β)} {x:Str} {v:β},l.lookup x=↑v->(x,v)∈l:=by
 intro l
 induction l with
 |nil=>intro _ _ h;cases h
 |cons p r ih =>
  intro x v h;obtain⟨y,z⟩:=p;rw[iT]at h
  cases q:x==y with
  |true =>
   rw[q]at h;cases h;rw[eq_of_beq q];exact h8
  |false =>
   rw[q]at h;exact ie _<|ih h
def zC.has{l:List Str}(B:zC X a m T l idx)(h:(pc a X.env).names.lookup x=some .cell\/(pc a X.env).names.lookup x=some .free):∃c,m.lookup x=↑c:=by
 have d:∃k,(x,k)∈(pc a X.env).names/\(k=.cell\/k=.free):=by
  rcases h with h|h
  ·exact#[_,lookup_mem h,.inl rfl]
  ·exact#[_,lookup_mem h,.inr rfl]
 obtain⟨k,d,o⟩:=d;obtain⟨⟨n,f⟩,i,e⟩:=List.mem_map.mp d;dsimp only at e
 have:n=x/\f=.free:=by
  by_cases b:(f==NameKind.free&&X.env.scope.kind==ScopeKind.function&&X.env.kindOf n==↑NameKind.cell)=true
  ·rw[g8 b]at e;have g:n=x:=congrArg Prod.fst e;simp only[iY,beq_iff_eq]at b;exact#[g,b.1.1]
  ·rw[ci b]at e;have g:n=x:=congrArg Prod.fst e;have j:f=k:=congrArg Prod.snd e;rcases o with q|q
   ·exact io (j.trans q)<|B.B3 _ i
   ·exact#[g,j.trans q]
 obtain⟨rfl,rfl⟩:=this;exact B.frl _ i rfl
def yA.WU(x:yA P w H h)(f:H a=none)(d:wA P w (upd H a o) h a o):yA P w (upd H a o) h:=λb u e=>by
 by_cases g:b=a
 ·subst g;rw[vt]at e;cases e;exact d
 ·rw[vo g]at e;exact(x b u e).BP (λ_ _ _ q=>q) (λc q=>by rw[vo<|vC q f];exact q) λc i q=>by rw[vo<|vC q f];exact q
section
variable{X:Cx}{elt iter tg:iV}{scope:mF}{cl:List (Str×g9)}{T Fr:List Str}{idx:List Nat}{wi:TI}{g:TG}{tt:TT}{te:TE}{pos:Pos}{ifs:List iV}
def Yk(X:Cx)(ifs:List iV)(tt:TT):Prop:=∀(a:List (g9×Obj)) (s:hW) (b:St) (H:Hp) (Q:Bool->Hp->Prop),Inv X a b H s->tt b H Q ->
 ic 54 X.A (forIn ifs true λc r=>if r=true then do let ok <- rj c X.env (eval c X.env);pure (nq ok) else pure (nq r)) (TP X a b Q) X.xe s
def UC:Yk X [] (λ_ H Q=>Q true H):=λ_ _ _ H _ I h=>sV #[H,I,h]
def UD(h:PT X c b):Yk X [c] b:=λa s d H Q I q=>wpAny_tests_one<|h a s d H Q I q
def Qw(u:Nat->hW->Prop)
 (y:∀n s,u n s->ic (ii a w) A (pyNext H) (λr b=>match r with
 |none=>R (.ok .next) b
 |some v=>ic (ii a w) A (sS target H v) (λ_ f=>ic (ii a w) A (tJ target e v) (λ_ i =>
 ic (ii a w) A (forIn ifs true λc r=>if r=true then do let z <- rj c e (eval c e);pure (nq z) else pure (nq r)) (λz d =>
 if z=true then ic (ii a w) A (eval elt e) (λx j=>ic (ii a w) A (call (.builtin "list.append") [G,x]) (λ_ k=>∃m,m<n/\u m k) (λ_ _=>False) j) (λ_ _=>False) d
 else ∃m,m<n/\u m d) (λ_ _=>False) i) (λ_ _=>False) f) (λ_ _=>False) b) (λ_ _=>False) s)
 (n:Nat) (h:u n s):m4 (ii a w) A (.compLoop (.ListComp elt [#[target,iter,ifs,0]] scope pos) 0 H G e) R s:=by
  refine codeAny_loop rfl u (λn s J=>?_) n h
  refine wpAny_noted ?_
  rw[compTurn_list]
  have l:∀{I:Type} {t:Sem I} {Q:I->hW->Prop} {E:cr->hW->Prop} {s:hW},ic (ii a w) A t Q (λ_ _=>False) s->ic (ii a w) A t Q E s:=λh=>jm h (λ_ _ q=>q) λ_ _ q=>q.elim
  refine am<|nZ<|am<|l<|wc (y n s J) λr b o=>?_
  cases r with
  |none=>exact l<|ap o
  |some v =>
    refine am<|l<|wc o λ_ f B=>am<|l<|wc B λ_ i C=>am<|l<|wc C λz d p=>?_
    cases z with
    |false=>exact l<|ap #[rfl,p]
    |true=>exact am<|am<|l<|wc p λx j D=>am<|l<|wc D λ_ k F=>ap<|ap #[rfl,F]
end
structure Yl(X:Cx)(c P:g9):Prop where
 code:X.env.code=.ref c
 hd:rB X.base c P
 blt:∃bm ob,X.mg "__builtins__"=↑(.ref bm)/\bm≠oQ/\X.base.get? bm=↑ob/\ob.cls=.type "module"/\ob.dict=↑oQ/\ob.data=.plain
def TabAt(H:Hp)(P:g9):Prop:=∃a,H P=↑(.FN a)/\uH a.toList
def Cr{a b:Int}:∀(l:List cr),uH l->uH (l++[.int a 0,.int b 0,c])
 | [],_=>trivial
 | .int _ _::.int _ _::_::r,h=>Cr r h
noncomputable def Ae(a b:List Int):Bool:=(a.zip b).all λp=>decide<|p.1<p.2
def UE(a b:List Int):(iD<|min a.length b.length).all (λj=>decide<|a.getD j 0<b.getD j 0)=Ae a b:=by
 unfold Ae;rw[kZ,oX,oX];constructor
 ·intro h p f;obtain⟨j,c⟩:=mh f;obtain⟨d,e⟩:=List.getElem?_zip_eq_some.mp c;have l:=(List.getElem?_eq_some_iff.mp d).1;have m:=(List.getElem?_eq_some_iff.mp e).1;have:=h j<|List.mem_range.mpr q0a;rw[jD,jD,d,e]at this;exact this
 ·intro h j c;have c:=List.mem_range.mp c;have g:a[j]?=↑(a.getD j 0):=by rw[jD,jJ q0a];rfl
  have i:b[j]?=↑(b.getD j 0):=by rw[jD,jJ q0a];rfl
  have k:(a.zip b)[j]?=↑(a.getD j 0,b.getD j 0):=List.getElem?_zip_eq_some.mpr #[g,i];exact h _<|jy k
def Le(S:Hp->g9->List V->Prop)(P:g9)(g:TA):TE:=λh H Q=>g h H λi c=>∃(a b:g9)(e f:List Int),i=[.ref a,.ref b]/\S c a (e.map V.int)/\S c b (f.map V.int)/\TabAt c P /\
 ∀d,(∀b o,b≠P->c b=↑o->d b=↑o)->(∀b,b≠P->c b=none->d b=none)->TabAt d P->Q (.bl<|Ae e f) d
abbrev a0l(K:hI)(P:g9)(a:TA):TE:=Le (wF K) P a
abbrev Ym(K:hI)(P:g9)(a:TA):TE:=Le (zI K) P a
structure Qx(X:Cx)(S:Hp->g9->List V->Prop)(P:g9):Prop where
 go:∀{pins:List (g9×Obj)} {σ:St} {H1:Hp} {s1:hW} {a b:g9} {us vs:List V} {ps:Array cr},Inv X pins σ H1 s1->X.A.handled=none->S H1 a us->S H1 b vs->H1 P=↑(.FN ps) ->
  ∃ia ib:List cr,Vals us ia/\Vals vs ib/\a<⇑s1/\b<⇑s1/\a≠P/\b≠P/\∀(Q:cr->hW->Prop)(E:cr->hW->Prop),
   (∀h2 St Mid,(∀A':jL,A'.handled=none->WalksU X.prog X.w A' (⇑s1+4) [⇑s1+4,⇑s1+2,⇑s1+3,⇑s1,⇑s1+1,a,b] [⇑s1+4,⇑s1+3,⇑s1,⇑s1+1] (min ia.toArray.size ib.toArray.size) (λi vals=>∃x y,ia.toArray[i]?=↑x/\ib.toArray[i]?=↑y/\vals=#v[x,y]) St Mid) ->
    St 0 h2->h2.objs.size=⇑s1+5->(∀c o,s1.heap.get? c=↑o->h2.get? c=↑o)->Q (.ref (⇑s1+4)) { s1 with heap:=h2})->ic 54 X.A (call (.type "zip") [.ref a,.ref b]) Q E s1
def Inv.tabled{s':hW}(I:Inv X d l H s)(h:H P=↑(.FN j))(m:s'.os=s.os)(p:nY s'.gens)
 (k:∀b o,b≠P->s.heap.get? b=↑o->s'.heap.get? b=↑o)(e:s'.heap.get? P=some { cls:=.none,data:=.fields (j++more)}):Inv X d l (upd H P<|.FN<|j++more) s':=by
  have i:∀b,H b=none->b≠P:=λb n z=>by rw[z,h]at n;cases n
  have g:∀b u,H b=↑u->(∀q,u≠.FN q)->b≠P:=λb u n f z=>by rw[z,h]at n;cases n;exact f _ rfl
  refine I.WB (ch:=[]) m #[λb o q n _ _=>k b o (i b n) q,λb o q n _ _=>#[o.slots,k b o (i b n) q],λb o q n _=>by rw[vo<|i b n];exact n,λb o q _=>?_,λb r q=>by rw[vo<|g b _ q<|λ_ z=>nomatch z];exact q,λb o u q=>by rw[vo<|g b _ q<|λ_ z=>nomatch z];exact q,λb w q=>?_] (λb u q=>?_) p λb a=>by cases a
  · by_cases a : b = P
    · rw[a]; exact#[_, e]
    · exact#[o, k b o a q]
  · by_cases a : b = P
    · subst a
      rw[h]at q
      cases q
      exact#[more,vt]
    · exact#[#v[], by rw[vo a, q]; simp]
  · by_cases a : b = P
    · subst a
      rw[vt]at q
      cases q
      exact e
    · rw[vo a]at q
      refine(I.wg b u q).BP (λc v t z=>k c v ?_ z) (λc z=>by rw[vo<|g c _ z<|λ_ y=>nomatch y];exact z) λc r z=>by rw[vo<|g c _ z<|λ_ y=>nomatch y];exact z
      rcases t with y|y
      · rw[y]; exact a
      · exact g c _ y<|λ_ x => nomatch x
def Qy{s:hW}{a:Env}{i j:Int}(d:a.scope.kind=.function)(g:a.kindOf b=some .local)(k:a.kindOf c=some .local)(e:s.heap.Ns a.locals m)
 (l:m b=↑(.int i t))(n:m c=↑(.int j u))(o:(b==66)=false)(p:(c==66)=false)(h:Q (.bool<|decide<|i<j) s):ic (ii f w) A (eval (.Compare (.Name b q) [.Lt] [.Name c r] v) a) Q E s:=by
  refine tH (pX (lv d g e l<|pX (lv d k e n<|lt_int h) p) o)<|vU _
def JD(Z:Qx X S P)(aC:X.calm=true)(G:Yl X c P)(ae:X.A.depth<tL)(aD:Gl X "all")(aj:X.mg "all"=none)(aE:Gl X "zip")(aF:X.mg "zip"=none)(af:PA X [e1,e2] ta)
 (hk:n.kind=.function) (aG:n.isCoroutine=false) (ag:oS n X.env=pure []) (ah:∀y∈n.names,y.2≠.cell) (h0:n.names.lookup (".0":Str)=↑NameKind.local) (ao:n.names.lookup xa=some .local) (aq:n.names.lookup xb=some .local) (aH:xa≠xb)
 (da:(xa==66)=false) (db:(xb==66)=false)
 (aI:hJ [e1,e2] X.env=(false,eval e1 X.env)::hJ [e2] X.env:=by rfl) (aJ:(jB p3<|hJ [e2] X.env).any (·.1)=false:=by rfl) :
    PE X (.Call (.Name "all" p1) [.GeneratorExp (.Compare (.Name xa q1) [.Lt] [.Name xb q2] q3) [#[.Tuple [.Name xa pa,.Name xb pb] kt pt,.Call (.Name "zip" p2) [e1,e2] [] p3,[],0]] n E] [] p4) (Le S P ta):=by
  intro p s σ H Q I h
  have hh:X.A.handled=none:=I.ok.hd aC
  refine k8<|zZ I aD aj boot_all<|pU ?_ rfl rfl
  refine ko<|wpAny_GeneratorExp_walksQTD hh aG ag ah h0 ao aq aH hk ae (k8<|zZ I aE aF boot_zip<|ky (wc (af p3 p s σ H _ I h) λus m z9=>e2a3 z9 λvs H1 I1 r1 q1=>?_) aI aJ)<|λ_=>rfl
  obtain⟨a,b,ns,ms,rfl,ha,f,⟨U,hP,tr⟩,q⟩:=q1
  obtain⟨ua,ub,rfl,ra,rb⟩:=vals2 r1
  cases ra
  cases rb
  obtain⟨ia,ib,va,vb,aK,aL,aP,bP,aM⟩:=Z.go I1 hh ha f hP
  have B:m.heap.get? P=↑(rC U):=I1.wg P _ hP
  have ar:P<⇑m:=hX B
  refine aM _ _ λh2 St au W av aN k2=>?_
  refine(W X.A hh).self 0 { m with heap:=h2} _ _ av ?_
  have I2:Inv X p σ H1 { m with heap:=h2}:=I1.kept (t':=m.toks) k2
  refine#[I2.nolimit,?_]
  have aw:rB h2 c P:=G.hd.keeps λb o e=>I2.bk b o e
  have ax:=aw.code (k2 P _ B) tr
  have aO:=aw.tab<|k2 P _ B
  obtain⟨bm,ob,b1,b2,b3,b4,b5,b6⟩:=G.blt
  -- an the J: the uD is U++l,all else is kept
  have Y:∀(J:cr)(D:i9)(R:Nat)(l:Array cr),(∀b o,b≠P->h2.get? b=↑o->D.get? b=↑o)->h2.objs.size<=D.objs.size->D.get? P=some { cls:=.none,data:=.fields (U++l)}->uH (U++l).toList ->
      ic 54 X.A (builtinsFor X.env.globals X.env.builtins) (λbi d=>∃I fp wr r Pt L au pz F,iw (⇑m+4)=.ref I/\(∀A':jL,A'.handled=none->WalksU X.prog X.w A' I fp wr r Pt L au)/\(∀i M,Pt i M->∃va vb,M=#v[va,vb])/\L 0 d.heap/\(∀b∈fp,b<⇑d)/\d.heap.NoLimit/\rT∉wr /\
          (∀N:i9,(∀b o,d.heap.get? b=↑o->N.get? b=↑o) ->
            QuietGenTD X.prog X.w (genEnv n [] ⇑d J bi X.env) xa xb [] (.Compare (.Name xa q1) [.Lt] [.Name xb q2] q3) (iD ⇑d) wr Pt pz F N (X.A.depth+1) (X.A.units+8)) /\
          (∀a C R gs,gs.bare=true->⇑d<a->C.objs.size=a+1->(∀b o,d.heap.get? b=↑o->C.get? b=↑o) ->
            WalksS X.prog X.w X.A.in4 a (a::⇑d::iD ⇑d) (⇑d::wr) (GenOnlyQ d.gens.size) (passing pz r 0).length
              (λj y=>∃i,(passing pz r 0)[j]?=↑i/\F i y) (GenAt X.prog X.w X.A.in4 a d.gens.size ⇑d (iD ⇑d) wr pz r F) ->
            GenAt X.prog X.w X.A.in4 a d.gens.size ⇑d (iD ⇑d) wr pz r F 0 { d with gens:=d.gens.push gs,toks:=R,heap:=C} ->
            ic 54 X.A (uP []) (λus ak=>ic 54 X.A (call (.builtin "all") (.ref a::us)) (EP X p σ Q) X.xe ak) X.xe { d with gens:=d.gens.push gs,toks:=R,heap:=C})) X.xe { m with heap:=D,toks:=R}:=by
    intro J D R l k3 aQ e3 aR
    have I3:Inv X p σ (upd H1 P<|.FN<|U++l) { m with heap:=D,toks:=R}:=Inv.tabled (s:={ m with heap:=h2}) (s':={ m with heap:=D,toks:=R}) I2 hP rfl I2.bare k3 e3
    have ay:=I3.bk
    refine wpAny_builtinsFor (by rw[I3.ok.glob];exact I3.mod.glob.keeps ay) b1 b2 (ay _ _ b3) b4 b5 b6 ?_
    have nz:∀k,⇑m+k≠P:=λk=>jA<|iz ar<|o4 _ _
    have aS:rT<⇑m:=by obtain⟨mc,hn,_⟩:=I1.nolimit;exact hn.lt
    have aa:=va.length
    have ab:=vb.length
    rw[hR]at aa ab
    have aT:∀(i:Nat)(x:cr),ia.toArray[i]?=↑x->∃t,x=.int (ns.getD i 0) t:=λi x hx=>rs (Bq va) i x (by simpa using hx)
    have aU:∀(i:Nat)(x:cr),ib.toArray[i]?=↑x->∃t,x=.int (ms.getD i 0) t:=λi x hx=>rs (Bq vb) i x (by simpa using hx)
    have u:∀k,k<5->⇑m+k<D.objs.size:=λk hk=>iz (Nat.add_lt_add_left hk _)<|i5 (qQ aN.symm) aQ
    refine#[_,_,_,_,_,_,_,(λ_=>true),(λi y=>y=.bool (decide<|ns.getD i 0<ms.getD i 0)),rfl,W,λi M z9=>e2a3 z9 λx y _ _ e=>#[x,y,e],(W X.A hh).frame _ _ _ av λb f o e=>k3 b o ?_ e,λb f=>?_,I3.nolimit,?_,λN a1=>?_,λg h5 aV gs gb g1 g2 k5 WS GA=>?_]
    · simp only[iK, jx, mH]at f
      rcases f with z|z|z|z|z|z|z<;>rw[z]
      · exact nz 4
      · exact nz 2
      · exact nz 3
      · exact nz 0
      · exact nz 1
      · exact aP
      · exact bP
    · simp only[iK, jx, mH]at f
      rcases f with z|z|z|z|z|z|z<;>rw[z]
      · exact u 4 q0q
      · exact u 2 q0q
      · exact u 3 q0q
      · exact u 0 q0q
      · exact u 1 q0q
      · exact n9 aK<|u 0 q0q
      · exact n9 aL<|u 0 q0q
    · intro f
      simp only[iK,jx,mH]at f
      have T:∀k,rT≠⇑m+k:=λk=>im<|iz aS<|o4 _ _
      rcases f with z|z|z|z
      · exact T 4 z
      · exact T 3 z
      · exact T 0 z
      · exact T 1 z
    · refine#[λA' E' i az aA s2 m2 _ _ _ _ _ _ _ _ => sV #[rfl, s2.heap, s2.toks, rfl, λ_ _ e => e], λA' E' i az aA s2 m2 hA _ _ aW _ hn aj aX _ => ?_]
      obtain⟨x,y,hx,hy,e⟩:=aW
      obtain⟨ex,ey⟩:az=x/\aA=y:=by simpa using congrArg sQ e
      subst ex ey
      obtain⟨t1,rfl⟩:=aT i _ hx
      obtain⟨t2,rfl⟩:=aU i _ hy
      exact Qy hk ao aq hn aj aX da db #[rfl,s2.heap,s2.toks,rfl,λ_ _ e=>e]
    · have ai : passing (λ_ => true) (min ia.toArray.size ib.toArray.size) 0 = iD (min ia.toArray.size ib.toArray.size) := by
        unfold passing
        simp
      rw[ai]at WS
      have W1:=WS.in4_1
      refine lS<|call_all_walkS<|W1.self 0 _ _ _ GA ⟨g,_,_,_,_,_,_,(λj=>decide<|ns.getD j 0<ms.getD j 0),rfl,W1,GA,λj v s7 Q' E' hv hq=>?_,λs7 mv=>?_⟩
      · obtain⟨i, hi, rfl⟩ := hv
        have:i=j:=by
          obtain⟨hl,he⟩:=List.getElem?_eq_some_iff.mp hi
          rw[List.getElem_range]at he
          exact he.symm
        subst this
        exact kK hq
      · have k7 : ∀b o, b<D.objs.size -> (∀k, b ≠ ⇑m+k) -> D.get? b = some o -> s7.heap.get? b = some o := λb o f hn e => mv.heap b o (by
          simp only[iK,jx,mH,qA]
          exact#[im f,hn 4,hn 3,hn 0,hn 1]) (k5 b o e)
        have O:∀b,b<⇑m->∀k,b≠⇑m+k:=λb f k=>im<|iz f<|o4 _ _
        have e7:s7.heap.get? P=some { cls:=.none,data:=.fields (U++l)}:=k7 P _ (hX e3) (O P ar) e3
        have I7:Inv X p σ (upd H1 P<|.FN<|U++l) s7:=Inv.tabled I1 hP mv.os (AllBare.movedS (s:={ m with heap:=h5,gens:=m.gens.push gs,toks:=aV}) (I1.bare.push gb) mv) (λb o f e=>k7 b o (hX<|k3 b o f<|k2 b o e) (O b<|hX e)<|k3 b o f<|k2 b o e) e7
        refine#[.bl _,_,I7,rfl,?_]
        have al:(iD (iD<|min ia.toArray.size ib.toArray.size).length).all (λj=>decide<|ns.getD j 0<ms.getD j 0)=Ae ns ms:=by
          rw[lZ,il,il,<- aa,<- ab]
          exact UE ns ms
        rw[al]
        exact q _ (λb o f e=>by rw[vo f];exact e) (λb f e=>by rw[vo f];exact e) #[_,vt,aR]
  cases aB:codeAmong E U.toList with
  |none =>
    refine wpAny_genexprCodeX G.code ax aO aB λc' D R hx aY aZ _ _ a0 _=>?_
    refine Y (.ref c') D R #v[ml E.line,ml E.col,.ref c'] (λb o f e=>hx b o f e) (i5 aY<|mu aZ) a0.2 ?_
    rw[qb]
    exact Cr _ tr
  |some cv =>
    refine wpAny_genexprCode_hit G.code ax aB ?_
    have:=Y cv h2 m.toks #v[] (λb o _ e=>e) (hO _) (by simpa using k2 P _ B) (by simpa using tr)
    exact this
def a2r:Qx X (wF X.K) P:=#[λ{v M H1 j a b N O A} m R B C D=>by
 refine e1a3 (m.list B) λx F d S=>?_;refine e1a3 (m.list C) λy G f T=>?_;have i:j.heap.get? P=↑(rC A):=m.wg P _ D
 have h:∀(l:g9)(g:Array cr),j.heap.IsList l g->l≠P:=λl g n=>e1a3 n λo e c _ z=>by rw[z,i]at e;cases e;cases c
 have k:∀(l:g9)(g:Array cr),j.heap.IsList l g->l<⇑j:=λl g n=>e1a2 n λo e _=>hX e;refine#[x,y,F,G,k _ _ d.isList,k _ _ f.isList,h _ _ d.isList,h _ _ f.isList,λQ E H=>call_zip_2 d.isList f.isList λI J p q r s t u=>?_]
 exact H I _ _ (λU L=>(WalksT.zip2 (prog:=X.prog) (w:=X.w) L _ _ _ _ _ _ _ (zipApart_new (k _ _ d.isList) (k _ _ f.isList)) x.toArray y.toArray).toU) #[J,p,#[_,_,q],r,s,d.isList.at λo e=>u _ o e,f.isList.at λo e=>u _ o e] t u]
def Ox{K:hI}{k:Nat}{f:hW}{C:List cr} 
 (KX:K.In f.heap) (I:f.heap.Ns iq U) (hb:f.heap.Ns oQ mb) (ab:∀x:Str,x≠"__name__"->mb x=nA x) (J:f.heap.NoLimit) (hg:f.gens=#v[])
 (D:f.heap.get? a=some { cls:=.type "list",data:=.seq C.toArray}) (hi:lK C X) (hl:X.length<=hV) (hr:wR k rQ)
 (hT:f.heap.TableAt c tab #v[]) (ae:K.lookup tab=none)
 (F:∀base:i9,K.In base->base.Ns iq U->(∀b o,f.heap.get? b=↑o->o.cls≠.type "list"->o.cls≠.none->base.get? b=↑o)->vZ P w K U base CX k fa fd [x] sp) (E:∀(s:hW)(u:cr),tj s fd #[[u],[]] [(x,u)])
 (af:∀H:Hp,wF K H a (X.map V.int)->H tab=↑(.FN #v[])->sp [.ref a] H (λv _=>v=.bl true) λ_ _ _=>False)
 (ag:∀H e j,CX [] H f (λ_ _ _=>False) e j->False) :
    m4 (ii P w) rQ (.call (.ref fa) #[[.ref a],[]]) (λr j=>r=.ok (.ret<|.bool true)/\OldK f.heap j.heap/\j.os=f.os/\nY j.gens) f:=by
  have rv:=Gw hi
  have L:=hi.length
  have l:f.heap.get? tab=some { cls:=.none,data:=.fields #v[]}:=hT.2
  have nat:a≠tab:=λz=>by rw[z,l]at D;cases D
  -- from an abstract ah in aa nothing ai the Y and the uD aj be M
  have core:∀H:Hp,(∀b,H b=none\/(b=a/\∃o xs,H b=↑(.Kv o<|.lst xs))\/(b=tab/\H b=↑(.FN #v[])))->wF K H a (X.map V.int)->H tab=↑(.FN #v[])->yA P w H f.heap->(H a≠none->K.lookup a=none) ->
      m4 (ii P w) rQ (.call (.ref fa) #[[.ref a],[]]) (λr j=>r=.ok (.ret<|.bool true)/\OldK f.heap j.heap/\j.os=f.os/\nY j.gens) f:=by
    intro H Z hS N O hK
    have freeOf:∀{b:g9} {o:Obj},f.heap.get? b=↑o->o.cls≠.type "list"->o.cls≠.none->H b=none:=λ{b o} e c1 c2=>by
      rcases Z b with z|⟨z,_⟩|⟨z,_⟩
      · exact z
      · rw[z, D]at e; cases e; exact io rfl c1
      · rw[z, l]at e; cases e; exact io rfl c2
    have y:∀{b:g9} {m:Str->Option cr},f.heap.Ns b m->(Jd f.heap H).Ns b m:=λ{b m} z9=>e3a3 z9 λo es ep e d r=>by
      refine#[o,es,ep,Ep e ?_,d,r]
      rcases Z b with z|⟨z,_⟩|⟨z,_⟩
      · exact z
      · rw[z, D]at e; cases e; have d' : Data.seq C.toArray _ = Data.dict es ep := d; cases d'
      · rw[z, l]at e; cases e; have d' : ud #v[] = Data.dict es ep := d; cases d'
    have Q:K.In (Jd f.heap H):=λb o e=>Ep (KX b o e) (by
      rcases Z b with z|⟨z,_,_,z2⟩|⟨z,_⟩
      · exact z
      · rw[z]at e z2; rw[hK<|by rw[z2]; simp]at e; cases e
      · rw[z, ae]at e; cases e)
    have hM:Mod K U (Jd f.heap H):=#[Q,y I,#[mb,y hb,ab],e1a2 J λmc h1 h2=> #[mc,y h1,h2]]
    have e0:Jm P w K U (Jd f.heap H) rQ [] f H:=#[rfl,hM,λb o e=>T5 e,qQ<|NW _ _,trivial,λb hb=>io (show b∈([]:List g9) from hb) q0o,O,.of_eq hg]
    refine kh ((F _ Q (y I) λb o e c1 c2=>Ep e<|freeOf e c1 c2).run rQ [] f H ⟨[.ref a],[]⟩ [.ref a] [.ref a] _ _ hr e0 (E f<|.ref a) (.cons rfl .nil)<|af H hS N) λr j h=>?_
    cases r with
    |error e=>exact(ag H e j h).elim
    |ok fl =>
      cases fl with
      |next=>exact iO h
      |brk=>exact iO h
      |cont=>exact iO h
      |ret u =>
        obtain⟨v,H',os,R,un,B,r',q⟩:=h
        have q':v=.bl true:=q
        subst q'
        obtain rfl:u=rN true:=r'
        have G:∀b o,f.heap.get? b=↑o->H b=none->j.heap.get? b=↑o:=λb o e n=>un.keep b o e n (by intro z;exact io (show b∈([]:List g9) from z) q0o) q0o
        obtain⟨more,hm⟩:=un.BR tab _ N
        have S:j.heap.get? tab=some { cls:=.none,data:=.fields (#v[]++more)}:=B tab _ hm
        have p:∀b o,f.heap.get? b=↑o->b≠tab->j.heap.get? b=↑o:=λb o e n=>by
          rcases Z b with z|⟨_,ob,xs,z⟩|⟨z,_⟩
          · exact G b o e z
          · have z2 := un.BQ b ob _ z
            obtain⟨e1,_⟩:=O b _ z
            obtain⟨e2,_⟩:=B b _ z2
            rw[e]at e1;cases e1
            exact e2
          · exact io z n
        refine#[rfl,#[λb o e=>?_,λb o e=>?_],os,R]
        · by_cases t : b = tab
          · subst t
            rw[l]at e
            cases e
            exact .inr<|.inl #[hT.isCodeTable,rfl,#v[],more,rfl,S]
          · exact .inl<|p b o e t
        · by_cases t : b = tab
          · rw[t]; exact#[_, S]
          · exact#[o, p b o e t]
  have T:∀H:Hp,wA P w H f.heap tab (.FN #v[]):=λH=>l
  cases hk:K.lookup a with
  |some o =>
    have e:=KX a o hk
    rw[D]at e
    cases e
    refine core (λb=>if b=tab then some (.FN #v[]) else none) (λb=>?_) (.inr #[_,C.toArray,_,hk,rfl,rfl,rfl,by rw[il,L];exact hl,by simpa using rv]) (g8 rfl) (λb u z=>?_) λz=>io (ci nat) z
    · by_cases g : b = tab
      · exact .inr<|.inr #[g, g8 g]
      · exact .inl<|ci g
    · by_cases g : b = tab
      · have A := (g8 g).symm.trans z
        cases A
        rw[g]
        exact T _
      · have A := (ci g).symm.trans z
        cases A
  |none =>
    refine core (λb=>if b=tab then some (.FN #v[]) else if b=a then some (.Kv { cls:=.type "list",data:=.seq C.toArray} (.lst<|X.map V.int)) else none) (λb=>?_) (.inl<|.inr ⟨{ cls:=.type "list",data:=.seq C.toArray},(ci nat).trans<|g8 rfl⟩) (g8 rfl) (λb u z=>?_) λ_=>hk
    · by_cases g : b = tab
      · exact .inr<|.inr #[g, g8 g]
      · by_cases i : b = a
        · exact .inr<|.inl #[i, _, _, (ci g).trans<|g8 i]
        · exact .inl<|(ci g).trans<|ci i
    · by_cases g : b = tab
      · have A := (g8 g).symm.trans z
        cases A
        rw[g]
        exact T _
      · by_cases i : b = a
        · have A := ((ci g).trans<|g8 i).symm.trans z
          cases A
          subst i
          exact#[D,by rw[hR];exact hl,C,_,rv,D]
        · have A := ((ci g).trans<|ci i).symm.trans z
          cases A
structure JE(mg:Str->Option cr)(base:i9)(c tab:g9):Prop where
 hd:rB base c tab
 blt:∃bm ob,mg "__builtins__"=↑(.ref bm)/\bm≠oQ/\base.get? bm=↑ob/\ob.cls=.type "module"/\ob.dict=↑oQ/\ob.data=.plain
def Qz{l:qU}{n k:Nat}{p:List Str}{XP:(Str->Option cr)->i9->Prop}{YP:jf->i9->Prop}{d:DefRec}{K:Params->hI}{sp:jf->hI->g9->Sp} 
 (hn:l.most=↑n) (L:n<=hV) (M:d.params.defaults=[]) (hr:wR k rQ)
 (hY:∀(w:jf)(h:i9),YP w h->(K w.params).In h) (z:(recsOf q).find? (λe=>e.name==tx)=↑dx)
 (F:∀(w:jf)(r:Str->Option cr)(I:g9)(h:i9),(K w.params).In h->h.Ns iq r->r d.name=↑(.ref I) ->
 ∃(c j:g9)(N:iW),oz (K w.params) tx=↑(c,j)/\(K w.params).lookup j=none/\(∀(s:hW)(u:cr),tj s N #[[u],[]] [(x,u)]) /\
 ∀i:i9,(K w.params).In i->i.Ns iq r->JE r i c j->vZ l.prog w (K w.params) r i CX k I N [x] (sp w (K w.params) j))
 (O:∀(w:jf)(K:hI)(H:Hp)(a j:g9)(J:List Int),J.length<=n->wF K H a (J.map V.int)->H j=↑(.FN #v[])->sp w K j [.ref a] H (λv _=>v=.bl true) λ_ _ _=>False)
 (P:∀(H:Hp)(s:hW)(e:cr)(Q:hW),CX [] H s (λ_ _ _=>False) e Q->False) :
    vh q p XP YP l.row.toRowW d [] (λf vs=>ur f vs):=by
  refine Att.Jw hn M λw ab A r mb I o pm cd ae a vs J G Y ho hd af R B t m hg=>?_
  have S:=hY w _ Y
  obtain⟨c,j,N,ht,U,hb,hF⟩:=F w r I _ S G.T.g R
  obtain⟨C,hP⟩:=PySem.W.tab_of G.T S z ht
  obtain⟨bm,ob,b1,b2,b3,X,b5,b6⟩:=G.T.bmain
  refine Ox S G.T.g G.T.b G.T.builtins G.T.nolimit hg B t (i5 m L) hr (C.tab hP) U (λi kb nb bk=>hF i kb nb #[?_,bm,ob,b1,b2,bk _ _ b3 (by rw[X];simp) (by rw[X];simp),X,b5,b6]) hb (λH hS hH=>O w _ H a j J m hS hH) λH e Q=>P H A e Q
  obtain⟨o,Z,D,tf,y,tg,aa,E,tt,e1,r1,r2⟩:=C
  exact#[o,Z,D,tf,y,tg,aa,E,tt,bk _ _ e1 (by rw[r1];simp) (by rw[r1];simp),r1,r2]
end L2
namespace SX
open PySem PyProof.Rows
def a2s{k:Int}(S:wn w a c s.heap)(h:Q (.bool<|decide<|k∈c) 103):ic (ii b w) A (jF .In (.int k u)<|.ref a) Q E s :=
 wpAny_inSet_of (knd:=kR b w) (k:=k) (qc _ _ _ _) rfl S.of h
def Yn{k:Int}(S:wn w a d s.heap)(room:d.length+1<=127)
 (h:∀c b e,jj a s.heap c->wn w a b c->b.Perm (if k∈d then d else k::d)->Q .none { s with heap:=c,toks:=e}) :
    ic (ii f w) A (call (.builtin "set.add") [.ref a,.int k u]) Q E s:=by
  refine jg F.slot_set_add S.typeIs F.entry_set_add ?_<|F.args_set_add_2 _ _
  show ic _ _ (pP "add" #[[.ref a,.int k u],[]] >>= _) _ _ _
  refine am<|am<|ap<|ap<|am ?_
  refine WQ S room λc b e g i p _=>ap #[_,rfl,h c b e g i p]
def UF{k:Int}(S:wn w a e s.heap)
 (h:∀c b f,jj a s.heap c->wn w a b c->(if k∈e then e.Perm (k::b) else b=e)->Q .none { s with heap:=c,toks:=f}) :
    ic (ii d w) A (call (.builtin "set.discard") [.ref a,.int k u]) Q E s:=by
  refine jg F.slot_set_discard S.typeIs F.entry_set_discard ?_<|F.args_set_discard_2 _ _
  show ic _ _ (pP "discard" #[[.ref a,.int k u],[]] >>= _) _ _ _
  refine am<|am<|ap<|ap<|am ?_
  unfold Builtin.Frozenset.withSetAsKey setDiscard
  refine wpAny_tryCatch ?_
  refine iQ<|am<|(kR d w).pyHash (k:=k) (qc _ _ _ _) ?_
  exact Gz (s:=103) S λc b g i p=>ap #[_,rfl,h c b _ g i p]
def Lf(h:∀a,DD w ⇑s a->(∀c o,s.heap.get? c=↑o->a.get? c=↑o)->Q (.ref ⇑s) { s with heap:=a}) :
  m4 (ii b w) A (.call (.builtin "set.__new__") #[[.type "set"],[]]) (wants Q E) s:=by
 refine m6<|am<|ng F.newCall_set_0<|ap #[lH pV _,j4 F.entry_set_new ?_];rw[jM pV _];unfold Builtin.«set.__new__» pN;have g:=qd;obtain⟨i,j,k,l,m⟩:=s;dsimp only;generalize d:newSet=n
 wp_walk
 subst d;refine Qs λa e f=>?_;exact ap<|h a e f
def JF(h:∀k,wn w ⇑s [] k->(∀c o,s.heap.get? c=↑o->k.get? c=↑o)->Q (.ref ⇑s) { s with heap:=k}):ic (ii n w) A (call (.type "set") []) Q E s:=by
 obtain⟨I,J,p⟩:=F.called_set.mro;have l:=F.called_set.made;have q:=F.called_set.sub;refine m9<|m6<|ap #[om _ q0s,j4 F.entry_type_call ?_];rw[uk (vg "set" [] []) rfl];have v:=F.called_set.notType;have x:=F.called_set.canCreate;have y:=F.typeCall_set_0
 repeat (any_goals (first|assumption|wp_step))
 refine kh (Lf (E:=E) (Q:=λf g=>f=.ref ⇑s/\∃a,g={ s with heap:=a}/\DD w ⇑s a/\∀c o,s.heap.get? c=↑o->a.get? c=↑o) λa j m=>#[rfl,a,rfl,j,m]) λz L b=>?_
 cases z with
 |error e=>exact b
 |ok f1 =>
  cases f1 with
  |ret f =>
   obtain⟨rfl,a,rfl,j,m⟩:=b;have t:wn w ⇑s [] a:=j.set;have B:mD { s with heap:=a} (.ref ⇑s) "set":=wn.typeIs (s:={ s with heap:=a}) t;have C:=F.called_set.init.lookup;have D:=F.called_set.init.bind<|.ref ⇑s
   repeat (any_goals (first|assumption|wp_step))
   refine kh (og (R:=wants (λr i=>r=.none/\i={ s with heap:=a}) E) F.called_set.init.plain F.entry_set_init<|check_set_init B ?_) λG M d=>?_
   ·obtain⟨H,u,N,O⟩:=id j;unfold Builtin.«set.__init__» noKeywords
    wp_walk
    exact#[rfl,rfl]
   ·cases G with
    |error e=>exact d
    |ok f2 =>
     cases f2 with
     |ret r =>
      obtain⟨rfl,rfl⟩:=d
      repeat (any_goals (first|assumption|wp_step))
      exact h _ t m
     |_=>exact d.elim
  |_=>exact b.elim
end SX
namespace L2
open PySem PySem.Spec PyProof.Rows SX
section
variable{X:Cx}
def Oy:zd X (.type "set") (λa H Q=>a=[]/\∀p:g9,H p=none->Q (.ref p) (upd H p<|xH X.w p [])):=by intro b s c H a d Q I r h;obtain⟨rfl,q⟩:=h;cases r;exact JF λe S k=>#[.ref ⇑s,_,I.laid (t':=s.toks) k (hO _)<|Hm S,rfl,q _<|I.wg.fresh<|hO _]
def a2t(w:jf):R2:=λx y H Q=>∃(k:Int)(a:g9)(b:List Int),x=.int k/\y=.ref a/\H a=↑(xH w a b)/\Q (.bl<|decide<|k∈b) H
def Yo:AJ X (jF .In) (a2t X.w):=by intro b s f H x y v u Q I c d h;obtain⟨k,a,g,rfl,rfl,e,q⟩:=h;obtain⟨t,rfl⟩:=c;cases d;exact a2s (Ad I e) #[.bl _,H,I.tok _,rfl,q]
def Inv.sset{f:Nat}(I:Inv X c h H s)(i:H a=↑(xH X.w a k))(j:jj a s.heap g)(S:wn X.w a d g) :
  Inv X c h (upd H a<|xH X.w a d) { s with heap:=g,toks:=f} :=
 I.write (t':=f) (by rw[i];trivial) (.inl rfl) (λb u n e=>j.extBut b u n e) (e3a2 S λ_ _ _ e _=> #[_,e]) (Hm S)
def UG:Zt X "set.add" (λx d H Q=>∃(a:g9)(c:List Int)(k:Int),x=.ref a/\d=[.int k]/\H a=↑(xH X.w a c)/\c.length+1<=127/\∀b:List Int,b.Nodup->b.Perm (if k∈c then c else k::c)->Q .wV (upd H a<|xH X.w a b)):=by intro e s m H x d v n Q I g i h;obtain⟨a,c,k,rfl,rfl,f,j,q⟩:=h;cases g;obtain⟨u,rfl,t,rfl⟩:=i.one;exact Yn (Ad I f) j λo b r l S p=>#[.wV,_,I.sset f l S,rfl,q b S.nodup p]
def QA:Zt X "set.discard" (λx d H Q=>∃(a:g9)(c:List Int)(k:Int),x=.ref a/\d=[.int k]/\H a=↑(xH X.w a c)/\∀b:List Int,b.Nodup->(if k∈c then c.Perm (k::b) else b=c)->Q .wV (upd H a<|xH X.w a b)):=by intro e s l H x d v m Q I g i h;obtain⟨a,c,k,rfl,rfl,f,q⟩:=h;cases g;obtain⟨u,rfl,t,rfl⟩:=i.one;exact UF (Ad I f) λn b o j S p=>#[.wV,_,I.sset f j S,rfl,q b S.nodup p]
def Yp(w:jf)(r:V->List V->Hp->VK->Prop)(d:TE)(t:TA):TE:=λb H Q=>d b H λx c=>(∃(a:g9)(e:List Int),x=.ref a/\c a=↑(xH w a e))/\t b c λf g=>r x f g Q
variable{o e:iV}{es:List iV}{to:TE}{t:TA}{name:Str}{apos cpos:Pos}{id:String}{r:V->List V->Hp->VK->Prop}
def QB(i:Slot "set" name id)(k:typeOf (.builtin id)=pure (.type "method_descriptor"))(q:Zt X id r)(u:PE X o to)(y:PA X (e::es) t)
 (f:iU o name X.env (eval o X.env)=eval o X.env:=by rfl)
 (j:((jB cpos<|hJ (e::es) X.env).all (λx=>!x.1)&&(nE cpos<|lx [] X.env).all (λx=>x.1.isSome)&&decide ((e::es).length+([]:List qa).length+(if ([]:List qa).isEmpty then 0 else 1)<30))=true:=by rfl)
 (g:(apos.endLine==cpos.line)=true:=by rfl) (z:hJ (e::es) X.env=70::hJ es X.env:=by rfl) (d:(jB cpos<|hJ es X.env).any (·.1)=false:=by rfl) :
    PE X (.Call (.Attribute o name apos) (e::es) [] cpos) (Yp X.w r to t):=by
  intro c s l H Q I h
  refine uV f j g rfl<|wc (u c s l H _ I h) λv A m=>e2a4 m λx B n C D E=>?_
  obtain⟨a,W,rfl,G⟩:=D
  cases C
  have S:=Ad n G
  refine#["set",id,F.plainAttrs_set,i,k,S.typeIs,λb J=>?_,?_]
  · cases J
    refine e3a2 S λ_ _ _ L _=>?_
    exact#[_,L,rfl]
  have p:=y cpos c A l B _ n E
  rw[z]at p ⊢
  refine kJ (by show (false||(jB cpos<|hJ es X.env).any (·.1))=false;rw[d]<;>rfl)<|jN ?_
  exact wc p λM N m=>e2a3 m λO P R T U=>q c N l P (.ref a) O (.ref a) M Q R rfl T U
end
def DK(e:g9)(d:Option g9)(h:i9):Prop:=∃o,h.get? e=↑o/\o.dict=d
def UH(o:Obj)(f:Array cr->Array cr):(o.mapFields f).dict=o.dict:=by obtain⟨c,d,a,b⟩:=o;cases a<;>rfl
section
variable{M:Model}{A:jL}{E:cr->hW->Prop}{s:hW}{base:i9}{env:Env}{outer:List Env}{L e:g9}{oe:Obj}{vs:Array cr}{a0 cls:cr}{d:Option g9}
def WV{c:Bool}(m:A.frames=↑(env::outer))(k:s.heap.FunFrames base (env::outer))(I:env.frame=↑L)(n:s.heap.get? e=↑oe)(p:base.StaysIn s.heap)(r:base.get? e=none)(g:oe.data=.fields vs)(i:1<vs.size)(J:vs[0]?=↑a0)
 (h:∀t,Heap.NotedW base (env::outer) e oe.cls a0 (ml L) s.heap t->DK e oe.dict t->Q () { s with heap:=t}) :
    ic M A (do setField (.ref e) 1 (<- EntryCells.newEntry head (<- frameOf env) .none (ml L) .none (<- entryPlaceOf L c))) Q E s:=by
  have N:e∉(env::outer).filterMap (·.frame):=λz=>by
    obtain⟨_,o,w,O⟩:=k.mem z
    rw[n]at w;cases w;exact O _ g
  refine am<|wpAny_frameOf_fun m k I λa l=>am<|wpAny_entryPlaceOf λx j=>?_
  have B:a.get? e=↑oe:=(l.2.1 e N).trans n
  have C:base.StaysIn a:=λb o q=>(l.2.1 b λz=>by rw[(k.mem z).1]at q;cases q).trans<|p b o q
  refine am<|iZ ?_<|j.sizeOk5 _ _ _ _ _
  have P:∃f:Array cr,(([head,.ref L,.none,ml L,.none]++(if x.isEmpty then lE 6 Value.none else x)).toArray=f)/\f[3]?=↑(ml L):=#[_,rfl,by first|(simp;done)|(rcases j with rfl|⟨_,_,_,_,_,_,_,rfl⟩<;>simp)]
  obtain⟨f,R,S⟩:=P
  rw[R]
  have u:=ce (h:=a) { cls:=.type "traceback",dict:=none,data:=.fields f} B
  have D:a.objs.size≠e:=jA<|hX B
  refine nK u g i<|h _ ?_ ?_
  · have F := Obj.data_mapFields g (·.setIfInBounds 1 (iw a.objs.size))
    have T:=jd (Obj.mapFields (·.setIfInBounds 1 (iw a.objs.size))) u<|Obj.isFreed_of_fields F
    have U:=(iR (a.push { cls:=.type "traceback",dict:=none,data:=.fields f}) (Obj.mapFields (·.setIfInBounds 1 (iw a.objs.size)))<|Ne.symm D).trans<|ik a rfl
    have v:∀b o,b≠e->a.get? b=↑o->((a.push { cls:=.type "traceback",dict:=none,data:=.fields f}).update e (Obj.mapFields (·.setIfInBounds 1 (iw a.objs.size)))).get? b=↑o:=λb o z q =>
      (iR _ _<|Ne.symm z).trans (ce _ q)
    have G:∀b o,s.heap.get? b=↑o->(∀vs,o.data≠.fields vs)->b≠e:=λb o q z y=>by rw[y,n]at q;cases q;exact z _ g
    refine#[λb o q=>v b o (λz=>by rw[z,r]at q;cases q)<|C b o q,k.of_keeps λb o q z=>?_,?_,λb o q z=>?_]
    · obtain⟨H, y⟩ := l.2.2 b o q
      exact#[_,v b _ (G b o q z) y,rfl]
    · exact#[_, _, a.objs.size, _, _, T, #[Obj.cls_mapFields _ _, by rw[Array.getElem?_setIfInBounds_ne q0q]; exact J], F, by simp[i], C.fresh, D, U, rfl, S]
    · obtain⟨H, y⟩ := l.2.2 b o q
      exact#[H,v b _ (G b o q z) y]
  · exact#[_, jd _ u<|Obj.isFreed_of_fields<|Obj.data_mapFields g _, UH _ _]
def UI(c:A.frames=↑(env::outer))(l:s.heap.FunFrames base (env::outer))(g:env.frame=↑L)(i:s.heap.get? e=↑oe)(f:base.StaysIn s.heap)(b:base.get? e=none)(j:oe.data=.fields vs)(k:vs[1]?=some .none)(m:vs[0]?=↑a0)
 (h:∀a,Heap.HeldW base (env::outer) e oe.cls a0 L a->s.heap.UpToSlots a->DK e oe.dict a->Q () { s with heap:=a}):ic M A (uI (.ref e) env) Q E s:=by
  unfold uI
  simp only[g]
  refine am<|jp i j k ?_
  rw[ci q0q]
  exact WV c l g i f b j (Array.getElem?_eq_some_iff.mp k).1 m λa n=>e0a4 n λo p q r y=>h a #[o,b,p,q] r y
def UJ(h:A.frames=↑(env::outer))(p:env.frame=↑L)(i:mr base (env::outer) e cls a0 s.heap)(x:DK e d s.heap)
 (B:∀f,Heap.HeldW base (env::outer) e cls a0 L f->s.heap.UpToSlots f->DK e d f->Q () { s with heap:=f}):ic M A (uI (.ref e) env) Q E s:=by
  obtain⟨j,g,C,oe,vs,T,N,O,k,⟨rfl,D⟩,r,t,l,m,n,c,u⟩:=i
  obtain⟨P,v,rfl⟩:=x
  rw[k]at v;cases v
  unfold uI
  simp only[p]
  refine am<|jp k r t ?_
  rw[g8<|show (iw T != Value.none)=true from by simp]
  refine am<|jp n c u ?_
  rw[ci<|show ¬((Value.none==ml L)=true) from by simp[ml]]
  refine am<|nK n c (Array.getElem?_eq_some_iff.mp u).1 ?_
  have a:∀b,b≠T->(s.heap.update T (Obj.mapFields (·.setIfInBounds 3 Value.none))).get? b=s.heap.get? b:=λb z=>iR _ _<|Ne.symm z
  have w:∀b o,s.heap.get? b=↑o->(∀vs,o.data≠.fields vs)->b≠T:=λb o q z y=>by rw[y,n]at q;cases q;exact z _ c
  refine WV h (C.of_keeps λb o q z=>#[o,(a b<|w b o q z).trans q,rfl]) p ((a e<|Ne.symm m).trans k) (λb o q=>(a b λz=>by rw[z,l]at q;cases q).trans<|j b o q) g r (Array.getElem?_eq_some_iff.mp t).1 D
    λf F=>e0a4 F λG H I J y=>B f #[G,g,H,I] (λb o q z=>J b o ((a b<|w b o q z).trans q) z) y
def a0m(n:base.StaysIn s.heap)(p:base.get? e=none)(C:s.heap.FunFrames base l)(D:s.heap.TracedAtW base e cls a0 H)(F:DK e d s.heap)
 (h:∀m,mr base l e cls a0 m->s.heap.UpToSlots m->DK e d m->Q () { s with heap:=m}):ic M A (setFlight (.ref e) none) Q E s:=by
  obtain⟨oe,vs,T,I,J,r,g,u,v,i,j,t,a,G⟩:=D
  obtain⟨N,w,rfl⟩:=F
  rw[r]at w;cases w
  have k:=(Array.getElem?_eq_some_iff.mp G).1
  have c:∀b,b≠T->(s.heap.update T (Obj.mapFields (·.setIfInBounds 3 ((none:Option g9).elim Value.none λf=>ml f)))).get? b=s.heap.get? b:=λb z=>iR _ _<|Ne.symm z
  have x:∀b o,s.heap.get? b=↑o->(∀vs,o.data≠.fields vs)->b≠T:=λb o q z y=>by rw[y,t]at q;cases q;exact z _ a
  have B:=(c e<|Ne.symm j).trans r
  refine am<|jp r u v ?_
  rw[g8<|show (iw T != Value.none)=true from by simp]
  refine nK t a k<|h _ ⟨λb o q=>(c b λz=>by rw[z,i]at q;cases q).trans<|n b o q,p,C.of_keeps λb o q z=>#[o,(c b<|x b o q z).trans q,rfl],?_⟩ (λb o q z=>#[o.slots,(c b<|x b o q z).trans q]) #[_,B,rfl]
  exact#[oe,vs,T,_,_,B,g,u,v,i,j,jd _ t<|Obj.isFreed_of_fields<|Obj.data_mapFields a _,Obj.data_mapFields a _,by simp[k]]
def BL(b:A.frames=↑(env::outer))(k:s.heap.FunFrames base (env::outer))(l:env.frame=↑L)(m:s.heap.get? e=↑oe)(c:base.StaysIn s.heap)(f:base.get? e=none)(n:oe.data=.fields vs)(o:vs[1]?=some .none)(p:vs[0]?=↑a0)
 (h:∀a,mr base outer e oe.cls a0 a->s.heap.UpToSlots a->DK e oe.dict a->Q () { s with heap:=a}):ic M A (uR env<|.ref e) Q E s:=by
  refine am<|UI b k l m c f n o p λq g=>e0a4 g λr t u v w x=>a0m (s:={ s with heap:=q}) r t u v x λy g=>e0a4 g λz B ⟨_,_,C⟩ D i j=>?_
  exact h y #[z,B,C,D] (w.trans i) j
def QC(b:A.frames=↑(env::outer))(j:env.frame=↑L)(c:mr base (env::outer) e cls a0 s.heap)(k:DK e d s.heap)
 (l:∀a,mr base outer e cls a0 a->s.heap.UpToSlots a->DK e d a->Q () { s with heap:=a}):ic M A (uR env<|.ref e) Q E s:=by
  refine am<|UJ b j c k λm f=>e0a4 f λn o p q r g=>a0m (s:={ s with heap:=m}) n o p q g λt f=>e0a4 f λu v ⟨_,_,w⟩ x h i=>?_
  exact l t #[u,v,w,x] (r.trans h) i
end
class GX where
 g:g9->Option g9->Hp->Prop
variable[GX]
structure EJ(P:iN)(w:jf)(outer:List Env)(H:Hp)(s:hW)(H':Hp)(C x:g9)(s':hW):Prop where
 os:s'.os=s.os
 bare:nY s'.gens
 un:Un (zU outer) [] H H' s.heap s'.heap
 wg:yA P w H' s'.heap
 dct:∃d,DK x d s'.heap/\GX.g C d H'
 fly:∃(B:i9)(a0:cr),mr B outer x (.ref C) a0 s'.heap/\∀b o,s'.heap.get? b=↑o->(H' b≠none\/∃o0,s.heap.get? b=↑o0)->b∉zU outer->B.get? b=↑o
def wh(P:iN)(w:jf):P0:=λa H s E e c=>∃(C x:g9)(b:Hp),e=.ref x/\EJ P w a H s b C x c/\E (.ref C) ↑x b
def Br(x:yA P w H h)(e:H a=↑o):∃u,h.get? a=↑u:=by
 have d:∀o:HO,wA P w H h a o->∃u,h.get? a=↑u:=by
  intro o q
  cases o with
  |lst i=>obtain⟨_,_,_,_,z⟩:=q;exact#[_,z]
  |tup i=>obtain⟨_,_,_,c,z,_⟩:=q;exact#[_,z]
  |dK g=>obtain⟨_,_,_,_,c,_,_,z,_⟩:=q;exact#[_,z]
  |dT g=>obtain⟨_,_,_,_,c,_,_,z,_⟩:=q;exact#[_,z]
  |set S n=>obtain⟨c,_,_,_,z,_⟩:=q;exact#[_,z]
  |ins C j fs=>obtain⟨_,_,_,z,_⟩:=q;exact#[_,z]
  |own b=>exact q
  |xd fs=>obtain⟨k,⟨c,_,_,z,_⟩,_⟩:=q;exact#[_,z]
  |zH lo l=>obtain⟨_,_,_,z⟩:=q;exact#[_,z]
  |Kv c u=>exact#[_,q.1]
  |FN m=>exact#[_,q]
  |met f y=>exact#[_,q]
  |ext p=>exact q.2.1
 exact d o<|x a o e
section
variable{P:iN}{w:jf}{l:List Env}{H H':Hp}{s s2:hW}{B h':i9}
def QD(u:Un (zU l) [] H H' s.heap s2.heap)(m:yA P w H' s2.heap)(g:∀b o,s2.heap.get? b=↑o->(H' b≠none\/∃D,s.heap.get? b=↑D)->b∉zU l->B.get? b=↑o)
 (i:∀b∈zU l,H' b=none/\∃o,s2.heap.get? b=↑o/\∀E,o.data≠.fields E)(p:B.StaysIn h')(F:s2.heap.UpToSlots h'):Un (zU l) [] H H' s.heap h'/\yA P w H' h':=by
  have d:∀b o,s2.heap.get? b=↑o->b∈zU l->∃r,h'.get? b=some { o with slots:=r}:=λb o e G=>by
    obtain⟨_,t,C,n⟩:=i b G
    rw[e]at C
    cases C
    exact F b o e n
  refine#[#[λb o e n f h=>?_,λb o e n f h=>?_,λb o e n h=>u.free b o e n h,λb o e h=>?_,u.Ca,u.BQ,u.BR],λa o e=>?_]
  · exact p b o<|g b o (u.keep b o e n f h) (.inr #[o, e]) f
  · obtain⟨r, k⟩ := u.slot b o e n f h
    obtain⟨x,y⟩:=d b _ k f
    exact#[x,y]
  · obtain⟨t, k⟩ := u.there b o e h
    by_cases f:b∈zU l
    · obtain⟨r, y⟩ := d b _ k f
      exact#[_,y]
    · exact#[_, p b t<|g b t k (.inr #[o, e]) f]
  · have I : ∀c, H' c ≠ none -> c ∉ zU l := λc A f => A (i c f).1
    refine(m a o e).BP (λc v A q=>?_) (λ_ q=>q) λ_ _ q=>q
    have j:H' c≠none:=by
      rcases A with z|z
      · rw[z, e]; simp
      · rw[z]; simp
    exact p c v<|g c v q (.inl j)<|I c j
end
section
variable{X:Cx}{pins:List (g9×Obj)}{σ:St}{H1 H':Hp}{s1 s2:hW}{C x:g9}{B h':i9}{a0:cr}
def yD(I:Inv X pins σ H1 s1)(a:X.stack=X.env::X.outer):X.env.frame=↑X.env.locals:=by
 rcases I.ok.CW with z|z
 ·rw[a]at z;have:=congrArg oF z;simp at this
 ·exact z.2
def Oz(I:Inv X pins σ H1 s1)(a:X.stack=X.env::X.outer):zU X.stack=X.env.locals::zU X.outer:=by rw[a];unfold zU;rw[lu,yD I a]
def Lg(I:Inv X pins σ H1 s1)(D:X.stack=X.env::X.outer)(hex:X.ex=[])(os:s2.os=s1.os)(m:nY s2.gens)(u:Un (zU X.stack) [] H1 H' s1.heap s2.heap)(p:yA X.prog X.w H' s2.heap)
 (r:∀b o,s2.heap.get? b=↑o->(H' b≠none\/∃k,s1.heap.get? b=↑k)->b∉zU X.stack->B.get? b=↑o) (nfr:∀b∈zU X.stack,H' b=none/\∃o,s2.heap.get? b=↑o/\∀R,o.data≠.fields R)
 (up:s2.heap.UpToSlots h')(E:mr B X.outer x (.ref C) a0 h')(F:∃d,DK x d h'/\GX.g C d H'):EJ X.prog X.w X.outer X.H₀ X.s₀ H' C x { s2 with heap:=h'}:=by
  obtain⟨i,s⟩:=QD u p r nfr E.1 up
  have t:=Oz I D
  have base:Un (zU X.outer) [] X.H₀ H1 X.s₀.heap s1.heap:=by have:=I.base;rw[hex]at this;exact this
  have L:∀b:g9,b∉([]:List g9):=λb z=>by cases z
  have old:∀b o,X.s₀.heap.get? b=↑o->b≠X.env.locals:=λb o e z=>by
    have S:=hX e
    have M:=I.ok.above
    rw[<- z]at M
    exact io (iz S M)<|kf _
  have y:∀b o,X.s₀.heap.get? b=↑o->b∉zU X.outer->b∉zU X.stack:=λb o e n z=>by
    rw[t]at z
    rcases List.mem_cons.mp z with q|q
    · exact old b o e q
    · exact n q
  refine#[os.trans I.os,m,#[λb o e n j a=>?_,λb o e n j a=>?_,λb o e n a=>?_,λb o e a=>?_,λb N e=>?_,λb o v e=>?_,λb T e=>?_],s,F,B,a0,E,λb o e A j=>?_]
  · exact i.keep b o (base.keep b o e n j a) (base.free b o e n a) (y b o e j) a
  · obtain⟨sl, c⟩ := base.slot b o e n j a
    obtain⟨G,f⟩:=i.slot b _ c (base.free b o e n a) (by rw[t];exact ie _ j) a
    exact#[G,f]
  · obtain⟨l, c⟩ := base.there b o e a
    exact i.free b l c (base.free b o e n a) a
  · obtain⟨l, c⟩ := base.there b o e a
    exact i.there b l c a
  · exact i.Ca b N<|base.Ca b N e
  · exact i.BQ b o v<|base.BQ b o v e
  · obtain⟨U, c⟩ := base.BR b T e
    obtain⟨W,f⟩:=i.BR b _ c
    exact#[U++W,by rw[f,qo]]
  · have fin : ∀h, s2.heap.get? b = some h -> (H' b ≠ none \/ ∃k, s1.heap.get? b = some k) -> b ∉ zU X.stack -> B.get? b = some o := λh f H J => by
      have q:=r b h f H J
      have O:=E.1 b h q
      have Y:h'.get? b=↑o:=e
      rw[Y]at O
      cases O
      exact q
    rcases A with A|⟨k,P⟩
    · obtain⟨Q, Z⟩ : ∃Q, H' b = some Q := by
        cases z:H' b with
        |none=>exact io z A
        |some v=>exact#[v,rfl]
      obtain⟨h,f⟩:=Br p Z
      exact fin h f (.inl A) λz=>A (nfr b z).1
    · obtain⟨l, c⟩ := base.there b k P (L b)
      obtain⟨h,f⟩:=u.there b l c<|L b
      exact fin h f (.inr #[l,c])<|y b k P j
def EJ.nfr(F:EJ P w l H s H' C x s2)(c:∀b∈zU l,H b=none/\∃o,s.heap.get? b=↑o):∀b∈zU l,H' b=none/\∃o,s2.heap.get? b=↑o/\∀d,o.data≠.fields d:=λb a=>by refine e2a2 F.fly λB a0 f _=>?_;obtain⟨n,o,e⟩:=c b a;exact#[F.un.free b o e n q0o,(f.2.2.1.mem a).2]
def Inv.frn(I:Inv X pins σ H1 s1):∀b∈zU X.stack,H1 b=none/\∃o,s1.heap.get? b=↑o:=λb a=>by have c:=I.Jn;exact#[c.Kq b a,e1a2 ((c.zc.mem a).2) λo e _=> #[o,e]]
def QE(I:Inv X pins σ H1 s1)(a:X.stack=X.env::X.outer)(b:X.ex=[])(F:EJ X.prog X.w X.stack H1 s1 H' C x s2) :
  ic 54 X.A (uR X.env<|.ref x) (λ_ c=>EJ X.prog X.w X.outer X.H₀ X.s₀ H' C x c) E s2:=by
 have i:=F.nfr I.frn;refine e2a2 F.fly λB a0 h e=>?_;rw[a]at h;refine e1a2 F.dct λd j k=>?_;refine QC (by rw[I.ok.frames,a]) (yD I a) h j λh' f l g=>?_;exact Lg I a b F.os F.bare F.un F.wg e i l f #[d,g,k]
end
section
variable{P:iN}{w:jf}{K:hI}{mg:Str->Option cr}{base:i9}{N:List Str}{qual:Str}{scope:mF}{f:g9}{cd:cr}{A:jL}{outer:List Env}{s:hW}{H:Hp}{E:XK}
def xM:Passes (wh P w) 53 E:=by intro a i j k e l I h;obtain⟨C,x,b,rfl,F,c⟩:=h;exact jm (QE I rfl rfl F) (λ_ d g=>#[C,x,b,rfl,g,c]) λ_ _ z=>z
def Az:sj (ii P w) (53).A (53).env (53).xe:=PassesOwn.leaving
end
variable[L2.GX]
set_option tactic.hygienic true in
def UK{K:hI}{C:g9}(Z:K.In h)(y:jE K C d b=true) :
  ∃j N t q u c v e w f x z A B E F k,h.get? C=↑(jR t q C N u j c v e w f x z A B E F b)/\h.Ns N k/\k "__init__"=none/\tE h d j:=by
 unfold jE at y;split at y
 ·rename_i G H l a
  split at y
  ·rename_i D I m n o p g r J L
   simp only[iY,beq_iff_eq,Bool.not_eq_true']at y;obtain⟨⟨⟨⟨⟨M,O⟩,P⟩,Q⟩,s⟩,R⟩:=y;subst M;subst O;obtain⟨S,T,u3,U,X,Y,u7,u8,u9,i,aa⟩:=H;subst J;subst P
   have e3:l=#v[m,n,o,p,some<|.builtin g,r]:=by obtain⟨li⟩:=l;exact congrArg Array.mk L
   rw[e3]at a;exact#[I,U,S,X,T,Y,u7,u8,u9,i,G,m,n,o,p,r,_,Z _ _ a,.of_isNs<|qe Z s,PySem.W.nsMap_none_of_in Z s R,t7 Z Q]
  ·cases y
 ·cases y
def QF(C:g9)(E:XK)(a:TA):TS:=λ_ b H=>a b H λc d=>c.length<=hV/\∀x:g9,E (.ref C) ↑x d
section
variable{P:iN}{w:jf}{K:hI}{mg:Str->Option cr}{base:i9}{N:List Str}{qual:Str}{scope:mF}{f:g9}{cd:cr}{A:jL}{outer:List Env}{s:hW}{H:Hp}{E:XK}
def EK{C:g9}(hg:Gl 53 x)(hm:mg x=↑(.ref C))(O:jE K C v i=true)
 (Y:kT B i n v) (g0:∀H',GX.g C none H') (ha:PA 53 (y::p) ta) (F:(x==66)=false:=by decide)
 (r:hJ (y::p) (53).env=(false,eval y (53).env)::hJ p (53).env:=by rfl)
 (G:(jB d<|hJ p (53).env).any (·.1)=false:=by rfl) :
    PS 53 (.Raise (some<|.Call (.Name x np) (y::p) [] d) none pos) (QF C E ta):=by
  intro k s1 σ H1 D I h
  obtain⟨bm,N',nm,q,bs,l,sn,J,ab,L,dd,k0,k1,k2,k3,k5,mN,hC,hN,M,T⟩:=UK I.mod.B8 O
  have Z:=ha d k s1 σ H1 _ I h
  refine wpAny_Raise_call_subT (prog:=P) (w:=w) (C:=C) (nm:=nm) (q:=q) (N:=N') (bs:=bs) (bm:=bm) (hdct:=l) (sn:=sn) (sub:=J) (ab:=ab) (col:=L) (dd:=dd) (k0:=k0) (k1:=k1) (k2:=k2) (k3:=k3) (k5:=k5)
    Y (mN:=mN) (T.hasType Y.hasBase) (I.ok.hd rfl) (by rw[r];exact(Bool.false_or _).trans G) M (zY I hg hm #[rfl,?_] F)
  rw[r]at Z ⊢
  refine jN<|jm Z (λus u q2=>?_) λ_ _ z=>z
  refine e2a4 q2 λvs H2 c r2 hl hE=>?_
  refine#[rfl,by show us.length<=hV;rw[<- r2.length];exact hl,c.bk _ _ hC,hN.keeps c.bk,T.keeps c.bk,λh' e a=>?_]
  have m:(53).stack=(53).env::(53).outer:=rfl
  have fu:=c.Jn.zc
  refine e1a3 a.there λt R _ _=>?_
  have S:(mB u.heap<|zU (53).stack).get? e=none:=by
    cases q:(mB u.heap<|zU (53).stack).get? e with
    |none=>rfl
    |some o=>have z:=nV _ q;rw[a.new]at z;cases z
  refine jm (BL (base:=mB u.heap (zU (53).stack)) (a0:=.ref t) c.ok.frames
    ((su fu λU r b j=>List.mem_filterMap.mpr #[U,r,j]).of_keeps λb o j _=>#[o,a.keeps b o j,rfl]) (yD c m) R (λb o z=>a.keeps b o (nV _ z)) S rfl rfl rfl (Q:=λ_ X=>wh P w outer H s E (.ref e) X) λaa fl up dk=>?_) (λ_ _ z=>z) λ_ _ z=>z
  refine#[C,e,H2,rfl,?_,hE e]
  refine Lg (s2:=u) c m rfl rfl c.bare Un.refl c.wg (λb o z _ nf=>pI _ z nf) (λb j=>?_) ((qE a.keeps).trans up) fl #[_,dk,g0 _]
  exact#[(c.frn b j).1,(fu.mem j).2]
end
noncomputable abbrev hand(X:Cx)(x:g9):Cx:={ X with A:=X.A.mark<|some<|.ref x,calm:=false,xe:=λ_ _=>False}
def Inv.a2v(I:Inv { X with pn:=X.pn++a} b c H s):Inv X a c H s :=
 #[55,I.os,I.bare,I.base,I.loc,I.cell,I.free,I.yT,λp d=>I.pin p<|i8 _ d,I.wg,I.len]
def Inv.QG(I:Inv X a b H s):Inv (hand X x) a b H s :=
 #[#[I.ok.mod,I.ok.kind,I.ok.glob,I.ok.blt,I.ok.above,I.ok.inj,I.ok.has,I.ok.Pw,(λz=>by cases z),I.ok.frames,I.ok.CW,I.ok.T7,I.ok.bs,I.ok.Je,I.ok.DO,I.ok.Er,I.ok.zc,I.ok.Kq],I.os,I.bare,I.base,I.loc,I.cell,I.free,I.yT,I.pin,I.wg,I.len]
def Inv.Ho(b:X.calm=true->X.A.handled=none)(I:Inv (hand X x) a c H s):Inv X a c H s :=
 #[#[I.ok.mod,I.ok.kind,I.ok.glob,I.ok.blt,I.ok.above,I.ok.inj,I.ok.has,I.ok.Pw,b,I.ok.frames,I.ok.CW,I.ok.T7,I.ok.bs,I.ok.Je,I.ok.DO,I.ok.Er,I.ok.zc,I.ok.Kq],I.os,I.bare,I.base,I.loc,I.cell,I.free,I.yT,I.pin,I.wg,I.len]
end L2
namespace SX
open PySem PyProof.Rows
def JG:nW (.type "dict") "__len__"=pure (some<|.builtin "dict.__len__"):=by rw[oy,mo];kernel_rfl
section
variable{prog:iN}{w:jf}{K:Type}[DecidableEq K]{knd:KeyKind prog w K}{A:jL}{E:cr->hW->Prop}{s:hW}{a:g9}{ks:List Int}{xP:List (K×cr)}{ep:Nat}
def OA(hh:A.handled=none)(G:(a==lG)=false)(D:s.heap.DictAt knd a xP ep)(hl:xP.length<=hV)(R:xP.length=ks.length)
 (hk:∀(i:Nat)(k:K)(x:cr)(v:cr),xP[i]?=↑(k,x)->knd.is k v=true->∃j u,ks[i]?=↑j/\v=.int j u)
 (h:∀S tk vs,lK vs ks->(∀c o,s.heap.get? c=↑o->S.get? c=↑o)->⇑s<=S.objs.size->Q vs { s with heap:=S,toks:=tk}):ic (ii prog w) A (collect<|.ref a) Q E s:=by
  have f:a<⇑s:=D.lt_size
  obtain⟨o0,ai,H,l,aj,ak⟩:=id D
  refine am<|tX<|j4 uF ?_
  rw[jM uG _]
  refine am (m:=newList [])<|iZ<|ap #[lH oV _,j4 F.entry_list_iadd ?_]
  rw[jM oV _]
  have z:∀c o,s.heap.get? c=↑o->(s.heap.push 58).get? c=↑o:=λc o q=>ce _ q
  have oL:(s.heap.push 58).get? ⇑s=some 58:=ik _ rfl
  have g:(s.heap.push 58).objs.size=⇑s+1:=jO _ _
  generalize s.heap.push 58=d at z oL g ⊢
  have D1:d.DictAt knd a xP ep:=D.at' λo q=>z a o q
  show ic _ A.in1 (qu (.ref ⇑s) (.ref a)<|.ref ⇑s) _ _ { s with heap:=d}
  have hT:mD { s with heap:=d} (.ref a) "dict":=#[_,z a _ H,l.1]
  refine am<|lA hT ?_
  have n1:md (.ref ⇑s) (.ref a)=false:=by simp[md,jA f]
  have n2:(kB "dict" == kB "list")=false:=by decide
  have n3:(kB "dict" == kB "tuple")=false:=by decide
  simp only[n1,n2,n3,sH,lM,pM]
  refine am<|wpAny_pyIter_dict (s:={ s with heap:=d}) G D1 ?_
  have I:∀c o,d.get? c=↑o->(d.push 76).get? c=↑o:=λc o q=>ce _ q
  have i2:(d.push 76).get? d.objs.size=some 76:=ik _ rfl
  generalize d.push 76=T at I i2 ⊢
  have p:mD { s with heap:=T} (.ref a) "dict":=#[_,I a _<|z a _ H,l.1]
  refine am<|iQ ?_
  refine am<|qf p JG ?_
  generalize B9:("dict.__len__":String)=U
  dsimp only
  rw[show splitId U=some ("dict","__len__") from by subst B9;decide +kernel]
  subst B9
  refine am<|mI (b:=true) p F.sub_dict_dict ?_
  rw[ci q0o]
  rw[g8 q0s]
  refine am<|lA p<|ap ?_
  have X:A.in1.handled=none:=by simp[hh]
  have ne:a≠d.objs.size:=im<|n9 f (by rw[g];exact jK _)
  have W:=(Walks.dictKeys (knd:=knd) (A:=A.in1) X d.objs.size a ne xP ep).toS
  have Y:⇑s∉[d.objs.size,a]:=by
    simp only[iK,jx,mH,qA]
    exact#[by rw[g];exact im<|jK _,jA f]
  have t:=I _ _ oL
  -- the ah,B al J Z of it
  have L:∀(C:i9)(M:Nat),C.get? ⇑s=some { cls:=.type "list",data:=.seq ([]:List cr).toArray M}->(∀c o,c≠⇑s->T.get? c=↑o->C.get? c=↑o) ->
      m4 (ii prog w) A (.builtin "list.extend.loop" #[[.ref ⇑s,.ref d.objs.size,.ref ⇑s],[]]) (λr s'=>match r with
        | .ok (.ret v)=>ic (ii prog w) A (match v with
          | .ref a=>do
            let o <- load a
            match o.data with
              | .seq xs aa=>pure xs.toList
              |x=>lW "internal:collect"
          |x=>lW "internal:collect") Q E s'
        | .ok _=>False
        | .error e=>E e s') { s with heap:=C}:=by
    intro C M y k4
    have I4:C.IsKeyIter d.objs.size a 0 xP.length ep/\C.DictAt knd a xP ep:=#[#[_,k4 _ _ (by rw[g];exact jA<|jK _) i2,rfl,rfl],D1.at' λo q=>k4 _ _ (im f)<|I _ _ q]
    refine codeAny_extend_loopS W hl _ Y _ xP.length 0 _ _ _ rfl (jl _) I4 y (ItemsOf.nil _) λs5 ab c5 P N n=>?_
    refine am<|ro N<|ap ?_
    obtain⟨h5,g5,d5,ae,af⟩:=s5
    have eg:g5=s.gens:=P.gens
    have ed:d5=s.drawn:=P.drawn
    have eo:af=s.os:=P.os
    subst eg ed eo
    refine h h5 ae ab.toList (AT ?_ λi v hv=>?_) (λc o q=>P.heap c o (by
      simp only[iK,jx,mH,qA]
      exact#[im (hX q),im (hX (z c o q))]) (k4 c o (im (hX q)) (I c o (z c o q)))) (mu (hX N))
    · rw[hZ, n.1, R]
    · obtain⟨k, x, hx, ag⟩ := n.2 i v (by rw[<- iX]; exact hv)
      exact hk i k x v hx ag
  first
    | (rw[ci q0s];exact ap ⟨lH qD _,L T 0 t λ_ _ _ q=>q⟩)
    | (rw[g8 q0s]
       refine am<|mG<|am ?_
       refine am<|qi t rfl ?_
       have O:=jd (Obj.mapSeq (·.push Value.none)) t rfl
       refine qi O rfl ?_
       have y:=jd (Obj.mapSeq (·.pop)) O rfl
       refine ap #[lH qD _,L _ _ y λc o hc q=>(iR _ _ (Ne.symm hc)).trans ((iR _ _ (Ne.symm hc)).trans q)])
end
end SX
namespace L2
open PySem PySem.Spec PyProof.Rows SX
def UL{k:Int}(h:AF (.inl k) v=true):∃u,v=.int k u:=by
 rcases wE h with⟨i,t,e,rfl⟩|⟨x,t,e,_⟩
 ·cases e;exact#[t,rfl]
 ·cases e
def Yq:∀{b:List (Key×V)} {c:List (Key×cr)} (_:KV b c) (i:Nat) {k:Key} {x:cr},c[i]?=↑(k,x)->∃y,b[i]?=↑(k,y):=by
 intro _ _ z
 induction z with
 |nil=>intro i _ _ h;cases h
 |cons a t d =>
  intro i k x h
  cases i with
  |zero=>cases h;exact#[_,congrArg some<|Prod.ext a.1 rfl]
  |succ i=>exact e1a1 (d i<|by simpa using h) λy q=>#[y,by simpa using q]
def Hq(J:X.calm=true):zd X (.builtin "sorted") (λC H Q=>∃(a:g9) (b:List (Key×V)) (c:List Int),C=[.ref a]/\H a=↑(.dK b)/\b.map (·.1)=c.map iJ/\c.length<64/\∀(p:g9)(t:List Int),H p=none->t.Perm c->t.Pairwise (·<=·)->Q (.ref p) (upd H p<|.lst<|t.map V.int)):=by
 intro E s σ H C us Q I r h;obtain⟨a,b,c,rfl,L,f,g,q⟩:=h;obtain⟨u,rfl,M⟩:=vals1 r;cases M;obtain⟨hz,l,F,G,N⟩:=I.wg a _ L;obtain⟨o,O,P,R,z,m,d⟩:=N;have D:s.heap.DictAt (vX X.prog X.w) a F P:=#[o,O,R,z,m,d];have S:b.length=F.length:=Paired.length G;have T:b.length=c.length:=by have:=congrArg oF f;simpa using this
 refine De (λQ' k=>OA (by simp[I.ok.hd J]) l D q0a q0a (λi U x v W A=>?_) λY Z B hi k1 sz=>k Y Z B c hi (.refl _) k1 sz) g<|B2 I g q;obtain⟨y,hy⟩:=Yq G i W;have n:(b.map (·.1))[i]?=↑U:=by rw[jS,hy];rfl
 rw[f,jS]at n
 cases e:c[i]? with
 |none=>rw[e]at n;cases n
 |some j =>
  rw[e]at n;cases n;obtain⟨u,hu⟩:=UL A;exact#[j,u,rfl,hu]
end L2
namespace WL
open PySem L2
abbrev Wf(A τ PO:Type):=A->106->88->Prop
abbrev Rg:=g9->Prop
structure Ext(G R:Rg)(H:Hp)(R':Rg)(H':Hp):Prop where
 keep:∀b o,¬G b->H b=↑o->H' b=↑o
 new:∀a,R' a->R a\/H a=none
def Ext.wide(e:Ext G R H c d)(s:∀a,G a->R a):Ext R R H c d:=#[λb o n h=>e.keep b o (λg=>n<|s b g) h,e.new]
def Ext.not(e:Ext G R H b c)(n:¬R a)(h:H a=↑o):¬b a:=λz=>by
 rcases e.new a z with q|q
 ·exact n q
 ·rw[h]at q;cases q
class Rep(α:Type) where
 rp:Rg->Hp->α->V->Prop
 st:∀{R:Rg} {H:Hp} {R':Rg} {H':Hp} {x:α} {v:V},rp R H x v->Ext R R H R' H'->rp R' H' x v
open Rep (rp)
instance:Rep Int:=#[λ_ _ i v=>v=.int i,λh _=>h]
instance:Rep Bool:=#[λ_ _ i v=>v=.bl i,λh _=>h]
instance:Rep Unit:=#[λ_ _ _ v=>v=.wV,λh _=>h]
instance{α:Type}[Rep α]:Rep (Option α):=#[λR H x v=>match x with|none=>v=.wV|some y=>v≠.wV/\rp R H y v,λ{R H R' H' x v} h e=>by
 cases x with
 |none=>exact h
 |some y=>exact#[h.1,Rep.st h.2 e]]
def wG{α:Type}[Rep α]{R R':Rg}{H H':Hp}(e:Ext R R H R' H'):∀{xs:List α} {vs:List V},Paired (rp R H) xs vs->Paired (rp R' H') xs vs:=by
 intro _ _ z
 induction z with
 |nil=>exact .nil
 |cons h t ih=>exact .cons (Rep.st h e) ih
instance{α:Type}[Rep α]:Rep (List α):=#[λR H xs v=>∃a vs,v=.ref a/\¬R a/\H a=↑(.lst vs)/\Paired (rp R H) xs vs,λ{R H R' H' x v} h e=>by
 refine e2a4 h λa vs h1 h2 h3 h4=>?_
 exact#[a,vs,h1,e.not h2 h3,e.keep a _ h2 h3,wG e h4]]
instance{α β:Type}[Rep α][Rep β]:Rep (α×β):=#[λR H x v=>∃a u w,v=.ref a/\¬R a/\H a=↑(.tup [u,w])/\rp R H x.1 u/\rp R H x.2 w,λ{R H R' H' x v} h e=>by
 obtain⟨a,u,w,h1,h2,h3,h4,h5⟩:=h
 exact#[a,u,w,h1,e.not h2 h3,e.keep a _ h2 h3,Rep.st h4 e,Rep.st h5 e]]
structure Tp(α:Type) where
 l:List α
instance{α:Type}[Rep α]:Rep (Tp α):=#[λR H xs v=>∃a vs,v=.ref a/\¬R a/\H a=↑(.tup vs)/\Paired (rp R H) xs.l vs,λ{R H R' H' x v} h e=>by
 refine e2a4 h λa vs h1 h2 h3 h4=>?_
 exact#[a,vs,h1,e.not h2 h3,e.keep a _ h2 h3,wG e h4]]
class Ow(τ:Type) where
 sl:Rg->Rg->Hp->τ->Option V->Prop
 st:∀{F G R:Rg} {H:Hp} {R':Rg} {H':Hp} {x:τ} {v:Option V},sl F R H x v->Ext G R H R' H'->(∀a,G a->R a)->(∀a,F a->¬G a)->sl F R' H' x v
 fq:∀{F F' R:Rg} {H:Hp} {x:τ} {v:Option V},sl F R H x v->(∀a,F a↔F' a)->sl F' R H x v
open Ow (sl)
structure Un where
instance:Ow Un:=#[λF _ _ _ _=>∀a,¬F a,λh _ _ _=>h,λh e a z=>h a ((e a).mpr z)]
noncomputable instance a3g{α:Type}[Rep α]:Ow α:=#[λF R H x v=>(∀a,¬F a)/\∃u,v=↑u/\rp R H x u,λh e s _=>#[h.1,e1a2 h.2 λu h1 h2=> #[u,h1,Rep.st h2<|e.wide s]],λh e=>#[λa z=>h.1 a<|(e a).mpr z,h.2]]
structure OL(α:Type) where
 l:List α
instance{α:Type}[Rep α]:Ow (OL α):=#[λF R H x v=>∃a vs,v=↑(.ref a)/\(∀b,F b↔b=a)/\H a=↑(.lst vs)/\Paired (rp R H) x.l vs,
 λh e s n=>by
  refine e2a4 h λa vs h1 h2 h3 h4=>?_
  exact#[a,vs,h1,h2,e.keep a _ (n a<|(h2 a).mpr rfl) h3,wG (e.wide s) h4],
 λh e=>by
  refine e2a4 h λa vs h1 h2 h3 h4=>?_
  exact#[a,vs,h1,λb=>(e b).symm.trans (h2 b),h3,h4]]
class Sls(D:Type) where
 rel:Rg->Rg->Hp->D->St->Prop
 st:∀{F G R:Rg} {H:Hp} {R':Rg} {H':Hp} {d:D} {σ:St},rel F R H d σ->Ext G R H R' H'->(∀a,G a->R a)->(∀a,F a->¬G a)->rel F R' H' d σ
 fq:∀{F F' R:Rg} {H:Hp} {d:D} {σ:St},rel F R H d σ->(∀a,F a↔F' a)->rel F' R H d σ
open Sls (rel)
instance:Sls Unit:=#[λF _ _ _ σ=>σ=[]/\∀a,¬F a,λh _ _ _=>h,λh e=>#[h.1,λa z=>h.2 a ((e a).mpr z)]]
structure DR(F F1 F2:Rg):Prop where
 all:∀a,F a↔F1 a\/F2 a
 yP:∀a,F1 a->F2 a->False
instance{τ D:Type}[Ow τ][Sls D]:Sls (τ×D):=#[λF R H d σ=>∃v σ' F1 F2,σ=v::σ'/\DR F F1 F2/\sl F1 R H d.1 v/\rel F2 R H d.2 σ',
 λh e s n=>by
  refine e4a4 h λv σ' F1 F2 h1 h2 h3 h4=>?_
  exact#[v,σ',F1,F2,h1,h2,Ow.st h3 e s<|λa z=>n a<|(h2.all a).mpr<|.inl z,Sls.st h4 e s<|λa z=>n a<|(h2.all a).mpr<|.inr z],
 λh e=>by
  refine e4a4 h λv σ' F1 F2 h1 h2 h3 h4=>?_
  exact#[v,σ',F1,F2,h1,#[λa=>(e a).symm.trans (h2.all a),h2.yP],h3,h4]]
class At(i:Nat)(B:Type)[Sls B](τ:outParam Type)[Ow τ](B':outParam Type)[Sls B'] where
 get:B->τ
 hole:B->B'
 take:∀{F R:Rg} {H:Hp} {b:B} {σ:St},rel F R H b σ->∃v F1 F2,σ[i]?=↑v/\DR F F1 F2/\sl F1 R H (get b) v/\rel F2 R H (hole b) σ
class Pt(i:Nat)(B':Type)[Sls B'](τ:Type)[Ow τ](B:outParam Type)[Sls B] where
 put:B'->τ->B
 back:∀{F F1 F2 R:Rg} {H:Hp} {b:B'} {x:τ} {v:Option V} {σ:St},rel F2 R H b σ->DR F F1 F2->sl F1 R H x v->rel F R H (put b x) (σ.set i v)
def set_same:∀{l:List b} {i:Nat} {v:b},l[i]?=↑v->l.set i v=l
 | [],_,_,h=>by simp at h
 |_::_,0,_,h=>by simp at h;subst h;rfl
 |a::r,i+1,v,h=>by show a::r.set i v=a::r;rw[set_same<|by simpa using h]
def Pt.same{i:Nat}{B' τ B:Type}[Sls B'][Ow τ][Sls B][A:Pt i B' τ B]{F F1 F2 R:Rg}{H:Hp}{b:B'}{x:τ}{v:Option V}{σ:St}(h:rel F2 R H b σ)(e:σ[i]?=↑v)(t:DR F F1 F2)(s:sl F1 R H x v):rel F R H (A.put b x) σ:=by have:=A.back h t s;rw[set_same e]at this;exact this
noncomputable instance at0{τ D:Type}[Ow τ][Sls D]:At 0 (τ×D) τ (Un×D) where
 get b:=b.1
 hole b:=(#[],b.2)
 take:=λh=>by refine e4a4 h λv σ' F1 F2 h1 h2 h3 h4=>?_;exact#[v,F1,F2,by rw[h1];rfl,h2,h3,v,σ',λ_=>False,F2,h1,#[λa=>#[.inr,λz=>z.elim (λq=>q.elim) id],λ_ z _=>z],λ_ z=>z,h4]
noncomputable instance pt0{τ D:Type}[Ow τ][Sls D]:Pt 0 (Un×D) τ (τ×D) where
 put b x:=(x,b.2)
 back:=λ{F F1 F2 R H b x v σ} h t s=>by refine e4a4 h λv' σ' G1 G2 h1 h2 h3 h4=>?_;have e2:∀a,G2 a↔F2 a:=λa=>#[λz=>(h2.all a).mpr<|.inr z,λz=>((h2.all a).mp z).elim (λq=>io q<|h3 a) id];exact#[_,σ',F1,F2,by rw[h1];rfl,t,s,Sls.fq h4 e2]
noncomputable instance atS{i:Nat}{ρ τ D D':Type}[Ow ρ][Ow τ][Sls D][Sls D'][A:At i D τ D']:At (i+1) (ρ×D) τ (ρ×D') where
 get b:=A.get b.2
 hole b:=(b.1,A.hole b.2)
 take:=λh=>by
  refine e4a4 h λv σ' F1 F2 h1 h2 h3 h4=>?_;refine e3a4 (A.take h4) λu G1 G2 k1 k2 k3 k4=>?_;refine#[u,G1,λa=>F1 a\/G2 a,by rw[h1];simpa using k1,#[λa=>?_,λa z q=>?_],k3,v,σ',F1,G2,h1,#[λa=>Iff.rfl,λa z q=>h2.yP a z<|(k2.all a).mpr<|.inr q],h3,k4]
  ·rw[h2.all,k2.all];exact#[λz=>z.elim (λq=>.inr<|.inl q) λz=>z.elim .inl λq=>.inr<|.inr q,λz=>z.elim (λq=>.inr<|.inl q) λz=>z.elim .inl λq=>.inr<|.inr q]
  ·rcases q with q|q
   ·exact h2.yP a q<|(k2.all a).mpr<|.inl z
   ·exact k2.yP a z q
noncomputable instance ptS{i:Nat}{ρ τ D D':Type}[Ow ρ][Ow τ][Sls D][Sls D'][A:Pt i D' τ D]:Pt (i+1) (ρ×D') τ (ρ×D) where
 put b x:=(b.1,A.put b.2 x)
 back:=λ{F F1 F2 R H b x v σ} h t s=>by
  refine e4a4 h λv' σ' G1 G2 h1 h2 h3 h4=>?_;have t':DR (λa=>F1 a\/G2 a) F1 G2:=#[λa=>Iff.rfl,λa z q=>t.yP a z<|(h2.all a).mpr<|.inr q];refine⟨v',σ'.set i v,G1,λa=>F1 a\/G2 a,by rw[h1];rfl,#[λa=>?_,λa z q=>?_],h3,A.back h4 t' s⟩
  ·rw[t.all,h2.all];exact#[λz=>z.elim (λq=>.inr<|.inl q) λz=>z.elim .inl λq=>.inr<|.inr q,λz=>z.elim (λq=>.inr<|.inl q) λz=>z.elim .inl λq=>.inr<|.inr q]
  ·rcases q with q|q
   ·exact t.yP a q<|(h2.all a).mpr<|.inl z
   ·exact h2.yP a z q
class Fg(D:Type)[Sls D](D':Type)[Sls D'] where
 fg:D->D'
 le:∀{F R:Rg} {H:Hp} {d:D} {σ:St},rel F R H d σ->∃F',(∀a,F' a->F a)/\rel F' R H (fg d) σ
noncomputable instance fgId{D:Type}[Sls D]:Fg D D:=#[id,λh=>#[_,λ_ z=>z,h]]
def two_le{F d e b c:Rg}(t:DR F d e)(f:∀a,b a->d a)(g:∀a,c a->e a):DR (λa=>b a\/c a) b c:=#[λ_=>Iff.rfl,λa x y=>t.yP a (f a x)<|g a y]
instance(priority:=low) fgUn {τ D D':Type}[Ow τ][Sls D][Sls D'][A:Fg D D']:Fg (τ×D) (Un×D'):=#[λd=>(#[],A.fg d.2),λh=>by
 obtain⟨v,σ',F1,F2,h1,h2,h3,h4⟩:=h;obtain⟨F',k1,k2⟩:=A.le h4
 exact#[_,λa z=>(h2.all a).mpr (.inr (k1 a (z.elim (λq=>q.elim) id))),v,σ',λ_=>False,F',h1,#[λa=>Iff.rfl,λ_ z _=>z],λ_ z=>z,k2]]
noncomputable instance fgCons{τ D D':Type}[Ow τ][Sls D][Sls D'][A:Fg D D']:Fg (τ×D) (τ×D'):=#[λd=>(d.1,A.fg d.2),λh=>by
 refine e4a4 h λv σ' F1 F2 h1 h2 h3 h4=>?_;refine e1a2 (A.le h4) λF' k1 k2=>?_
 exact#[_,λa z=>(h2.all a).mpr (z.elim .inl λq=>.inr (k1 a q)),v,σ',F1,F',h1,two_le h2 (λ_ z=>z) k1,h3,k2]]
class Pj(D:Type)[Sls D](P:Type)[Sls P](n:outParam Nat) where
 pj:D->P
 le:∀{F R:Rg} {H:Hp} {d:D} {σ:St},rel F R H d σ->∃F',(∀a,F' a->F a)/\rel F' R H (pj d) (σ.take n)
noncomputable instance pjNil{D:Type}[Sls D]:Pj D Unit 0:=#[λ_=>(),λh=>#[λ_=>False,λ_ z=>z.elim,rfl,λ_ z=>z]]
instance(priority:=low) pjUn {τ D P:Type}{n:Nat}[Ow τ][Sls D][Sls P][A:Pj D P n]:Pj (τ×D) (Un×P) (n+1):=#[λd=>(#[],A.pj d.2),λh=>by
 obtain⟨v,σ',F1,F2,h1,h2,h3,h4⟩:=h;obtain⟨F',k1,k2⟩:=A.le h4
 exact#[_,λa z=>(h2.all a).mpr (.inr (k1 a (z.elim (λq=>q.elim) id))),v,σ'.take n,λ_=>False,F',by rw[h1];rfl,#[λa=>Iff.rfl,λ_ z _=>z],λ_ z=>z,k2]]
noncomputable instance pjCons{τ D P:Type}{n:Nat}[Ow τ][Sls D][Sls P][A:Pj D P n]:Pj (τ×D) (τ×P) (n+1):=#[λd=>(d.1,A.pj d.2),λh=>by
 refine e4a4 h λv σ' F1 F2 h1 h2 h3 h4=>?_;refine e1a2 (A.le h4) λF' k1 k2=>?_
 exact#[_,λa z=>(h2.all a).mpr (z.elim .inl λq=>.inr (k1 a q)),v,σ'.take n,F1,F',by rw[h1];rfl,two_le h2 (λ_ z=>z) k1,h3,k2]]
class Sel(is:List Nat)(D:Type)[Sls D](S:outParam Type)[Sls S](D0:outParam Type)[Sls D0] where
 sel:D->S
 rest:D->D0
 mrg:D0->S->D
 cut:∀{F R:Rg} {H:Hp} {d:D} {σ:St},rel F R H d σ->∃F1 F2,DR F F1 F2/\rel F1 R H (sel d) (is.map λi=>σ[i]?.join)/\rel F2 R H (rest d) σ/\∀i∈is,i<σ.length
 join:∀{F F1 F2 R:Rg} {H:Hp} {d:D0} {s:S} {σ:St},DR F F1 F2->rel F1 R H s (is.map λi=>σ[i]?.join)->rel F2 R H d σ->(∀i∈is,i<σ.length)->rel F R H (mrg d s) σ
noncomputable instance selNil{D:Type}[Sls D]:Sel [] D Unit D where
 sel _:=()
 rest d:=d
 mrg d _:=d
 cut:=λ{F R H d σ} h=>#[λ_=>False,F,#[λa=>#[.inr,λz=>z.elim (λq=>q.elim) id],λ_ z _=>z],#[rfl,λ_ z=>z],h,λ_ z=>by cases z]
 join:=λ{F F1 F2 R H d s σ} t h1 h2 _=>Sls.fq h2 λa=>#[λz=>(t.all a).mpr<|.inr z,λz=>((t.all a).mp z).elim (λq=>io q<|h1.2 a) id]
noncomputable instance selCons{i:Nat}{is:List Nat}{D τ D1 S D0:Type}[Sls D][Ow τ][Sls D1][Sls S][Sls D0][A:At i D τ D1][P:Pt i D1 τ D][B:Sel is D1 S D0]:Sel (i::is) D (τ×S) D0 where
 sel d:=(A.get d,B.sel<|A.hole d)
 rest d:=B.rest<|A.hole d
 mrg d s:=P.put (B.mrg d s.2) s.1
 cut:=λ{F R H d σ} h=>by
  refine e3a4 (A.take h) λv F1 F2 h1 h2 h3 h4=>?_;refine e2a4 (B.cut h4) λG1 G2 k1 k2 k3 k4=>?_;have hv:σ[i]?.join=v:=by rw[h1];rfl
  refine#[λa=>F1 a\/G1 a,G2,#[λa=>?_,λa z q=>?_],#[v,_,F1,G1,by rw[iI,hv],#[λ_=>Iff.rfl,λa z q=>h2.yP a z<|(k1.all a).mpr<|.inl q],h3,k2],k3,λj hj=>?_]
  ·rw[h2.all,k1.all];exact#[λz=>z.elim (λq=>.inl<|.inl q) λz=>z.elim (λq=>.inl<|.inr q) .inr,λz=>z.elim (λz=>z.elim .inl λq=>.inr<|.inl q) λq=>.inr<|.inr q]
  ·rcases z with z|z
   ·exact h2.yP a z<|(k1.all a).mpr<|.inr q
   ·exact k1.yP a z q
  ·rcases List.mem_cons.mp hj with e|e
   ·rw[e];exact(List.getElem?_eq_some_iff.mp h1).1
   ·exact k4 j e
 join:=λ{F F1 F2 R H d s σ} t h1 h2 hl=>by
  refine e4a4 h1 λv σ' G1 G2 k1 k2 k3 k4=>?_;rw[iI]at k1;injection k1 with e1 e2;subst e2;have hi:i<σ.length:=hl i h8
  have ev:σ[i]?=↑v:=by rw[jJ hi]at e1 ⊢;exact congrArg some e1
  have t2:DR (λa=>G2 a\/F2 a) G2 F2:=#[λ_=>Iff.rfl,λa z q=>t.yP a ((k2.all a).mpr<|.inr z) q];refine Pt.same (B.join t2 k4 h2 λj hj=>hl j<|ie _ hj) ev ⟨λa=>?_,λa z q=>?_⟩ k3
  ·rw[t.all,k2.all];exact#[λz=>z.elim (λz=>z.elim .inl λq=>.inr<|.inl q) λq=>.inr<|.inr q,λz=>z.elim (λq=>.inl<|.inl q) λz=>z.elim (λq=>.inl<|.inr q) .inr]
  ·rcases q with q|q
   ·exact k2.yP a z q
   ·exact t.yP a ((k2.all a).mpr<|.inl z) q
structure wz(T:g9){D:Type}[Sls D](F R:Rg)(H:Hp)(d:D)(σ:St):Prop where
 rel:rel F R H d σ
 sub:∀a,F a->R a
 xI:∀a,R a->H a≠none
 tab:TabAt H T
 wj:R T
 v0:¬F T
def zP(t:TabAt H T):H T≠none:=by refine e1a2 t λa e _=>?_;rw[e];simp
structure Ch(T:g9)(F R:Rg)(H:Hp)(F' R':Rg)(H':Hp):Prop where
 keep:∀b o,¬F b->b≠T->H b=↑o->H' b=↑o
 AA:∀a,R' a->R a\/H a=none
 ye:∀a,F' a->F a\/H a=none
 left:∀a,R a->¬F a->R' a
def Ch.refl(T:g9)(F R:Rg)(H:Hp):Ch T F R H F R H:=#[λ_ _ _ _ h=>h,λ_ h=>.inl h,λ_ h=>.inl h,λ_ h _=>h]
def Ch.trans{T:g9}{D:Type}[Sls D]{d:D}{u:St}{F R k l m p:Rg}{H j r:Hp}(s:wz T F R H d u)(v:TabAt j T)(a:Ch T F R H k l j)(b:Ch T k l j m p r):Ch T F R H m p r:=by
 have g:∀c,¬F c->H c≠none->¬k c:=λc n h z=>by
  rcases a.ye c z with q|q
  ·exact n q
  ·exact h q
 have f:∀c,j c=none->¬(F c)->H c=none:=λc h n=>by
  cases e:H c with
  |none=>rfl
  |some o =>
   have w:c≠T:=λz=>by rw[z]at h;exact zP v h
   rw[a.keep c o n w e]at h;cases h
 refine#[λc o n t h=>b.keep c o (g c n<|by rw[h];simp) t<|a.keep c o n t h,λc h=>?_,λc h=>?_,λc h n=>b.left c (a.left c h n)<|g c n<|s.xI c h]
 ·rcases b.AA c h with q|q
  ·exact a.AA c q
  ·by_cases i:F c
   ·exact .inl<|s.sub c i
   ·exact .inr<|f c q i
 ·rcases b.ye c h with q|q
  ·exact a.ye c q
  ·by_cases i:F c
   ·exact .inl i
   ·exact .inr<|f c q i
def Ch.ext(c:Ch T F R H f d e):Ext (λa=>F a\/a=T) R H d e:=#[λb o n h=>c.keep b o (λz=>n<|.inl z) (λz=>n<|.inr z) h,c.AA]
def wz.val{T:g9}{D:Type}[Sls D]{d:D}{σ:St}{F R F' R':Rg}{H H':Hp}(s:wz T F R H d σ)(c:Ch T F R H F' R' H'){α:Type}[Rep α]{x:α}{v:V}(h:rp R H x v):rp R' H' x v :=
 Rep.st h (c.ext.wide λa z=>z.elim (s.sub a) λq=>by rw[q];exact s.wj)
def wz.new{T:g9}{D:Type}[Sls D]{d:D}{c:St}{F R:Rg}{H:Hp}(s:wz T F R H d c){p:g9}(o:HO)(f:H p=none):wz T F R (upd H p o) d c/\Ch T F R H F R (upd H p o)/\¬R p:=by
 have g:¬R p:=λz=>s.xI p z f;have k:∀b u,H b=↑u->upd H p o b=↑u:=λb u e=>by rw[vo<|vC e f];exact e
 refine#[#[Sls.st s.rel (G:=λ_=>False) #[λb u _ e=>k b u e,λa h=>.inl h] (λ_ z=>z.elim)<|λ_ _ z=>z,s.sub,λa z=>?_,?_,s.wj,s.v0],#[λb u _ _ e=>k b u e,λa h=>.inl h,λa h=>.inl h,λa h _=>h],g]
 ·cases e:H a with
  |none=>exact io e<|s.xI a z
  |some u=>rw[k a u e];simp
 ·refine e1a2 s.tab λi e t=>?_;exact#[i,k _ _ e,t]
def EW(X:Cx)(E:XK)(T:g9)(e:iV){D α:Type}[Sls D][Rep α](w:Wf D α D):Prop :=
 ∃t,PE X e t/\∀(d:D)(F R:Rg)(σ:St)(H:Hp)(Kn:α->D->Prop)(Ke:g9->D->Prop)(Q:VK),wz T F R H d σ->w d Kn Ke ->
  (∀x d' v F' R' H',Kn x d'->Ch T F R H F' R' H'->wz T F' R' H' d' σ->rp R' H' x v->Q v H') ->
  (∀C y d' F' R' H',Ke C d'->Ch T F R H F' R' H'->wz T F' R' H' d' σ->E (.ref C) ↑y H')->t σ H Q
@[reducible] def cK{D K a:Type}(w:D->a->72->Prop)(g:K->a):D->K->72->Prop:=λd b c=>w d (g b) c
@[reducible] def cB{D a K b:Type}(w:Wf D a D)(v:D->b->72->Prop)(g:a->K->b):D->K->72->Prop:=λd e c=>w d (λx f=>v f (g x e) c) c
@[reducible] def cA{D:Type}(w v:Wf D Bool D):D->(Bool->D->Prop)->72->Prop:=λd a b=>w d (λx c=>if x=true then v c a b else a false c) b
@[reducible] def cO{D:Type}(w v:Wf D Bool D):D->(Bool->D->Prop)->72->Prop:=λd a b=>w d (λx c=>if x=true then a true c else v c a b) b
@[reducible] def cC{D e P B g a:Type}(w:D->(P->B->g->Prop)->72->Prop)(f:Wf P e a)(m:B->g->a->D):D->(e->D->Prop)->72->Prop:=λd i h=>w d (λp b l=>f p (λx c=>i x<|m b l c) λC c=>h C<|m b l c) h
@[reducible] def cM{D e g P B h a:Type}(w:D->(P->B->h->Prop)->72->Prop)(f:Wf (g×P) e a)(t:B->g)(m:B->h->a->D):D->(e->D->Prop)->72->Prop:=λd j i=>w d (λp b l=>f (t b,p) (λx c=>j x<|m b l c) λC c=>i C<|m b l c) i
@[reducible] def cN{D i e P B g a:Type}(w:D->(P->B->g->Prop)->72->Prop)(f:Wf (e×P) i a)(t:B->e)(m:B->g->a->D):D->(D->Prop)->72->Prop:=λd j h=>w d (λp b l=>f (t b,p) (λ_ c=>j<|m b l c) λC c=>h C<|m b l c) h
@[reducible] def cS{D a b c e:Type}(w:D->e->72->Prop)(j:D->b)(g:(a->Prop)->c->e):D->(a->Prop)->c->(g9->b->Prop)->Prop:=λd f h i=>w d (g f h) λC k=>i C<|j k
@[reducible] def cG{D a D' b c:Type}(w:D->(a->Prop)->b->c->Prop)(g:a->D'):D->(D'->Prop)->b->c->Prop:=λd e f h=>w d (λi=>e<|g i) f h
@[reducible] def cI{D e a f:Type}(w:Wf D Bool D)(u v:D->(e->Prop)->f->(g9->a->Prop)->Prop)(j:D->a):D->(e->Prop)->f->(g9->a->Prop)->Prop:=λd g h c=>w d (λb i=>if b=true then u i g h c else v i g h c) λC k=>c C<|j k
@[reducible] def cW{D c a e:Type}(w:Wf D Bool D)(v:D->(c->Prop)->e->(g9->a->Prop)->Prop)(g:c->D)(j:D->a):D->(D->Prop)->e->(g9->a->Prop)->Prop:=λd k l f=>∃W:Nat->D->Prop,(∃m,W m d)/\∀m d,W m d->w d (λb h=>if b=true then v h (λn=>∃i,i<m/\W i (g n)) l f else k h) λC o=>f C<|j o
@[reducible] def cT{D a b:Type}(w:D->(D->Prop)->72->Prop)(v:D->(D->Prop)->b->(g9->a->Prop)->Prop)(e:List g9):D->(D->Prop)->b->(g9->a->Prop)->Prop:=λd c f g=>w d c λC h=>C∈e/\v h c f g
structure Nw(T:g9){τ:Type}[Ow τ](F1 F2 R:Rg)(H:Hp)(x:τ)(v:V):Prop where
 is:sl F1 R H x ↑v
 sub:∀a,F1 a->R a
 yP:∀a,F1 a->F2 a->False
 tab:¬F1 T
def EO(X:Cx)(E:XK)(T:g9)(e:iV){D h:Type}[Sls D][Ow h](w:Wf D h D):Prop :=
 ∃t,PE X e t/\∀(d:D)(F R:Rg)(g:St)(H:Hp)(j:h->D->Prop)(k:g9->D->Prop)(Q:VK),wz T F R H d g->w d j k ->
  (∀x f v l i c b,j x f->Ch T F R H (λa=>l a\/i a) c b->wz T i c b f g->Nw T l i c b x v->Q v b) ->
  (∀C y f m c b,k C f->Ch T F R H m c b->wz T m c b f g->E (.ref C) ↑y b)->t g H Q
def TW(X:Cx)(E:XK)(T:g9)(e:iV){D:Type}[Sls D](w:Wf D Bool D):Prop :=
 ∃t,PT X e t/\∀(d:D)(F R:Rg)(g:St)(H:Hp)(h:Bool->D->Prop)(i:g9->D->Prop)(Q:Bool->Hp->Prop),wz T F R H d g->w d h i ->
  (∀x b c f a,h x b->Ch T F R H c f a->wz T c f a b g->Q x a) ->
  (∀C y b c f a,i C b->Ch T F R H c f a->wz T c f a b g->E (.ref C) ↑y a)->t g H Q
section
variable{D:Type}[Sls D]
def Yr{F R F1 F2 R':Rg}{H H':Hp}{d d':D}{σ:St}{α:Type}[Rep α]{x:OL α}{v:V}(s:wz T F R H d σ)(c:Ch T F R H (λa=>F1 a\/F2 a) R' H')(s':wz T F2 R' H' d' σ)(n:Nw T F1 F2 R' H' x v) :
  ∃Ks,Ch T F R H F2 Ks H'/\wz T F2 Ks H' d' σ/\rp Ks H' x.l v:=by
 have ex:Ext (λ_=>False) R' H' (λa=>R' a/\¬F1 a) H':=#[λ_ _ _ h=>h,λa h=>.inl h.1];refine#[λa=>R' a/\¬F1 a,#[c.keep,λa h=>c.AA a h.1,λa h=>c.ye a<|.inr h,λa h k=>#[c.left a h k,λz=>?_]],#[Sls.st s'.rel ex (λ_ z=>z.elim)<|λ_ _ z=>z,λa h=>#[s'.sub a h,λz=>n.yP a z h],λa h=>s'.xI a h.1,s'.tab,#[s'.wj,n.tab],s'.v0],?_]
 ·rcases c.ye a (.inl z) with q|q
  ·exact k q
  ·exact s.xI a h q
 ·refine e2a4 n.is λa vs h1 h2 h3 h4=>?_;cases h1;exact#[a,vs,rfl,λz=>z.2<|(h2 a).mpr rfl,h3,wG (ex.wide λ_ z=>z.elim) h4]
def vV{α:Type}[Rep α]{w:Wf D (OL α) D}(h:EO X E T e w):EW X E T e (cK w λKn x d'=>Kn x.l d'):=by refine e1a2 h λt h1 h2=>?_;refine#[t,h1,λd F R σ H Kn Ke Q s hw kn ke=>h2 d F R σ H _ Ke Q s hw (λx d' v F1 F2 R' H' q c s' n=>?_) ke];refine e1a3 (Yr s c s' n) λKs c2 s2 r=>?_;exact kn x.l d' v F2 Ks H' q c2 s2 r
def yf{F R:Rg}{H:Hp}{d:D}{σ:St}{α:Type}[Rep α]{xs:List α}{vs:List V}{p:g9}(s:wz T F R H d σ)(hp:H p=none)(h:Paired (rp R H) xs vs) :
  ∃R',Ch T F R H (λa=>a=p\/F a) R' (upd H p<|.lst vs)/\wz T F R' (upd H p<|.lst vs) d σ/\Nw T (λa=>a=p) F R' (upd H p<|.lst vs) (OL.mk xs) (.ref p):=by
 refine e0a3 (s.new (.lst vs) hp) λs1 c1 n1=>?_;have nF:¬F p:=λz=>n1<|s.sub p z;have ex:Ext (λ_=>False) R H (λa=>R a\/a=p) (upd H p<|.lst vs):=⟨λb o _ h=>by rw[vo<|vC h hp];exact h,λa h=>h.elim .inl λq=>.inr<|by rw[q];exact hp⟩;refine⟨λa=>R a\/a=p,#[c1.keep,ex.new,λa h=>h.elim (λq=>.inr<|by rw[q];exact hp) .inl,λa h _=>.inl h],#[Sls.st s.rel ex (λ_ z=>z.elim)<|λ_ _ z=>z,λa h=>.inl<|s.sub a h,λa h=>?_,s1.tab,.inl s.wj,s.v0],#[#[p,vs,rfl,λb=>Iff.rfl,vt,wG (ex.wide λ_ z=>z.elim) h],λa h=>.inr h,λa h k=>nF (by rw[<- h];exact k),λh=>n1<|by rw[<- h];exact s.wj]⟩;rcases h with h|h
 ·exact s1.xI a h
 ·rw[h,vt];simp
def UM{i:Nat}{τ D':Type}[Ow τ][Sls D'][A:At i D τ D']{F R:Rg}{H:Hp}{d:D}{σ:St}(s:wz T F R H d σ):∃v F1 F2,σ[i]?=↑v/\DR F F1 F2/\sl F1 R H (A.get d) v/\rel F2 R H (A.hole d) σ:=A.take s.rel
def ss[Rep a][Sls c](i:Nat)[A:At i D a c](e:PE X 101 (vW i):=by exact pv _):EW X E T 101 (λ(d:D)(b:a->D->Prop) _=>b (A.get d) d):=by refine#[_,e,λd F R k H b l Q s f g _=>?_];obtain⟨v,m,n,h,o,⟨_,u,rfl,j⟩,_⟩:=A.take s.rel;exact#[u,h,g _ d u F R H f 57 s j]
def vv{n:Int}{k:Nat}:EW X E T (.Constant (.int n) k pos) (λ(d:D)(a:Int->D->Prop) _=>a n d) :=
 #[_,vQ,λd F R e H a f Q s b c _=>c n d _ F R H b 57 s rfl]
def xg{b:Bool}{k:Nat}:EW X E T (.Constant (.bool b) k pos) (λ(d:D)(a:Bool->D->Prop) _=>a b d) :=
 #[_,ZG,λd F R f H a g Q s c e _=>e b d _ F R H c 57 s rfl]
def AU{k:Nat}:EW X E T (.Constant .none k pos) (λ(d:D)(a:Unit->D->Prop) _=>a () d) :=
 #[_,Kx,λd F R e H a f Q s b c _=>c () d _ F R H b 57 s rfl]
def QH{α β γ:Type}[Rep α][Rep β][Rep γ]{wa:Wf D α D}{wb:Wf D β D}{c:α->β->Prop}{g:α->β->γ}
 (ha:EW X E T a wa) (hb:EW X E T b wb) (he:∀ta tb,PE X a ta->PE X b tb->PE X e (Zs r ta tb))
 (hr:∀{R:Rg} {H:Hp} {x:α} {y:β} {u v:V} {Q:VK},rp R H x u->rp R H y v->c x y->(∀z,rp R H (g x y) z->Q z H)->r u v H Q) :
    EW X E T e (cB wa wb λx Kn y d2=>c x y/\Kn (g x y) d2):=by
  refine e1a2 ha λta a1 a2=>?_
  refine e1a2 hb λtb b1 b2=>?_
  refine#[_,he ta tb a1 b1,λd F R σ H Kn Ke Q s hw kn ke=>?_]
  refine a2 d F R σ H _ Ke _ s hw (λx d1 u F1 R1 H1 q1 c1 s1 r1=>?_) ke
  refine b2 d1 F1 R1 σ H1 _ Ke _ s1 q1 (λy d2 v F2 R2 H2 q2 c2 s2 r2=>?_) λC y d' F' R' H' k c s'=>ke C y d' F' R' H' k (Ch.trans s s1.tab c1 c) s'
  exact hr (s1.val c2 r1) r2 q2.1 λz rz=>kn _ d2 z F2 R2 H2 q2.2 (Ch.trans s s1.tab c1 c2) s2 rz
def Ys{α γ:Type}[Rep α][Rep γ]{r:V->Hp->VK->Prop}{wa:Wf D α D}{c:α->Prop}{g:α->γ}
 (ha:EW X E T a wa) (he:∀ta,PE X a ta->PE X e (tUn r ta)) (hr:∀{R:Rg} {H:Hp} {x:α} {u:V} {Q:VK},rp R H x u->c x->(∀z,rp R H (g x) z->Q z H)->r u H Q) :
    EW X E T e (cK wa λKn x d1=>c x/\Kn (g x) d1):=by
  refine e1a2 ha λta a1 a2=>?_
  refine#[_,he ta a1,λd F R σ H Kn Ke Q s hw kn ke=>?_]
  refine a2 d F R σ H _ Ke _ s hw (λx d1 u F1 R1 H1 q1 c1 s1 r1=>?_) ke
  exact hr r1 q1.1 λz rz=>kn _ d1 z F1 R1 H1 q1.2 c1 s1 rz
def QI{c:Int->Int->Prop}{g:Int->Int->Int}{f h:Wf D Int D}(l:AJ X (mW op) (rI c λi j=>.int<|g i j))(m:EW X E T a f)(n:EW X E T b h) :
  EW X E T (.BinOp a op b pos) (cB f h λx o y p=>c x y/\o (g x y) p) :=
 QH (γ:=Int) m n (λr s d e=>xk l d e) λd e q k=>#[_,_,d,e,q,k _ rfl]
def Af{g:Int->Int->Int}{wa wb:Wf D Int D}(ho:AJ X (mW op) (TU λi j=>.int<|g i j))(ha:EW X E T a wa)(hb:EW X E T b wb) :
  EW X E T (.BinOp a op b pos) (cB wa wb λx Kn y d2=>Kn (g x y) d2):=by
 have h:=QH (c:=λ_ _=>True) (γ:=Int) (g:=g) (e:=.BinOp a op b pos) ha hb (λta tb h1 h2=>xk ho h1 h2) λh1 h2 _ k=>#[_,_,h1,h2,k _ rfl];simp only[true_and]at h;exact h
class JH(α:Type)[Rep α][DecidableEq α] where
 sc:∀{R:Rg} {H:Hp} {x y:α} {u v:V},rp R H x u->rp R H y v->XU u v=true/\decide (u=v)=decide (x=y)
instance:JH Int:=#[λ{R H x y u v} h1 h2=>by
 subst h1;subst h2;refine#[rfl,?_];by_cases e:x=y
 ·rw[e];simp
 ·rw[iC e,iC (λz=>e (by cases z;rfl))]]
instance:JH Bool:=#[λ{R H x y u v} h1 h2=>by
 subst h1;subst h2;refine#[rfl,?_]
 cases x<;>cases y<;>rfl]
def MZ{α:Type}[Rep α]{x:Option α}(h:rp R H x u):decide (u=.wV)=x.isNone:=by
 cases x with
 |none=>have h:u=.wV:=h;rw[h];rfl
 |some y=>exact iC h.1
end
variable[L2.GX]
section
variable{D:Type}[Sls D]
def vA{b:Type}[Rep b]{w:Wf D b D}(h:EO X E T e w):EW X E T e w:=by refine e1a2 h λt f g=>?_;refine#[t,f,λd F R i H B j Q s k l m=>g d F R i H _ j Q s k (λx o v C p r y q c z n=>?_) m];obtain⟨G,u,e,A⟩:=n.is;cases e;exact l x o v p r y q #[c.keep,c.AA,λa h=>c.ye a<|.inr h,c.left] z A
def vH{b:Type}[Rep b]{w:Wf D b D}(h:EW X E T e w):EO X E T e w:=by refine e1a2 h λt f g=>?_;refine#[t,f,λd F R i H A j Q s k l m=>g d F R i H _ j Q s k (λx n v o p u q c y r=>?_) m];exact l x n v (λ_=>False) o p u q #[c.keep,c.AA,λa h=>c.ye a<|h.elim (λz=>z.elim) id,c.left] y #[#[λ_ z=>z,v,rfl,r],λ_ z=>z.elim,λ_ z=>z.elim,λz=>z]
end
class Hs(τ:Type)[Ow τ]:Prop where
 has:∀{F R:Rg} {H:Hp} {x:τ} {v:Option V},sl F R H x v->∃u,v=↑u
instance{α:Type}[Rep α]:Hs (OL α):=#[λz9=>e2a2 z9 λa _ h _=>#[_,h]]
instance{α:Type}[Rep α]:Hs α:=#[λz9=>e0a2 z9 λ_ z39=>e1a2 z39 λu h _=>#[u,h]]
structure Std(T:g9)(F R:Rg)(H:Hp):Prop where
 sub:∀a,F a->R a
 xI:∀a,R a->H a≠none
 tab:TabAt H T
 wj:R T
 v0:¬F T
def wz.TZ{T:g9}{D:Type}[Sls D]{F R:Rg}{H:Hp}{d:D}{a:St}(s:wz T F R H d a):Std T F R H:=#[s.sub,s.xI,s.tab,s.wj,s.v0]
def Std.stt{T:g9}{D:Type}[Sls D]{F R:Rg}{H:Hp}{d:D}{a:St}(s:Std T F R H)(h:rel F R H d a):wz T F R H d a:=#[h,s.sub,s.xI,s.tab,s.wj,s.v0]
section
variable{D:Type}[Sls D]
def two_nil(F:Rg):DR F (λ_=>False) F:=#[λ_=>#[.inr,λz=>z.elim (λq=>q.elim) id],λ_ z _=>z]
def two_eq(t:DR F b c)(n:∀a,¬b a):∀a,c a↔F a:=λa=>#[λz=>(t.all a).mpr<|.inr z,λz=>((t.all a).mp z).elim (λq=>io q<|n a) id]
end
def yY(T:g9){P d f:Type}[Sls P][Sls d][Ow f](w:Wf P f d):Sp:=λg H Q E=>∃(F R:Rg)(p:P)(i:f->d->Prop)(j:g9->d->Prop),wz T F R H p (g.map some)/\w p i j /\
 (∀x e v k h c b,i x e->Ch T F R H (λa=>k a\/h a) c b->wz T h c b e (g.map some)->Nw T k h c b x v->Q v b) /\
 (∀C y e l c b,j C e->Ch T F R H l c b->wz T l c b e (g.map some)->E (.ref C) ↑y b)
def Ag(c:List Nat)(b a:St):Prop:=a.length=b.length/\∀i∈c,a[i]?=b[i]?
def Ag.refl(b:List Nat)(a:St):Ag b a a:=#[rfl,λ_ _=>rfl]
def Ag.trans(a:Ag e f c)(b:Ag e c d):Ag e f d:=#[b.1.trans a.1,λi h=>(b.2 i h).trans<|a.2 i h]
def Ag.set{i:Nat}(h:i∉a):Ag a b (b.set i v):=#[k9,λj c=>nN λe=>h<|by rw[e];exact c]
structure T0(P:Type)[Sls P](ms:List Nat)(n:Nat):Prop where
 dp:∀{F R:Rg} {H:Hp} {p:P} {σ σ':St},Ag ms σ σ'->rel F R H p (σ'.take n)->rel F R H p (σ.take n)
class Dp(P:Type)[Sls P](n:outParam Nat)(l:outParam (List Nat)):Prop where
 dp:T0 P l n
instance dp0:Dp Unit 0 []:=#[#[λ{F R H p σ σ'} _ h=>#[rfl,h.2]]]
instance(priority:=high) dpU {P:Type}{n:Nat}{l:List Nat}[Sls P][A:Dp P n l]:Dp (Un×P) (n+1) (l.map (· + 1)):=#[#[λ{F R H p σ σ'} a r=>by
 refine e4a4 r λv σ1 F1 F2 h1 h2 h3 h4=>?_
 cases σ' with
 |nil=>cases h1
 |cons v' r' =>
  cases σ with
  |nil=>have:=a.1;simp at this
  |cons u r =>
   injection h1 with e1 e2;subst e2;refine#[u,r.take n,F1,F2,rfl,h2,h3,A.dp.dp (σ':=r') #[by have:=a.1;simpa using this,λi hi=>?_] h4];have:=a.2 (i+1)<|List.mem_map.mpr #[i,hi,rfl]
   simpa using this]]
instance dpO{τ P:Type}{n:Nat}{l:List Nat}[Ow τ][Sls P][A:Dp P n l]:Dp (τ×P) (n+1) (0::l.map (· + 1)):=#[#[λ{F R H p σ σ'} a r=>by
 refine e4a4 r λv σ1 F1 F2 h1 h2 h3 h4=>?_
 cases σ' with
 |nil=>cases h1
 |cons v' r' =>
  cases σ with
  |nil=>have:=a.1;simp at this
  |cons u r =>
   injection h1 with e1 e2;subst e2
   have e0:v'=u:=by have:=a.2 0 h8;simpa using this
   subst e0;subst e1;refine#[v',r.take n,F1,F2,rfl,h2,h3,A.dp.dp (σ':=r') #[by have:=a.1;simpa using this,λi hi=>?_] h4];have:=a.2 (i+1)<|ie _<|List.mem_map.mpr #[i,hi,rfl]
   simpa using this]]
def v9[Sls P]{n:Nat}[A:Dp P n l](h:∀i∈l,i∈b):T0 P b n:=#[λa r=>A.dp.dp #[a.1,λi c=>a.2 i<|h i c] r]
def WX(E:XK)(T:g9)(u:List Nat)(n:Nat)(t:TS){D j f k:Type}[Sls D][Sls j][Sls f][Ow k](w:D->(j->Prop)->(k->f->Prop)->(g9->f->Prop)->Prop):Prop :=
 ∀(d:D)(F R:Rg)(g:St)(H:Hp)(o:j->Prop)(p:k->f->Prop)(q:g9->f->Prop)(l:Ends),wz T F R H d g->w d o p q ->
  (∀r h c b e,o r->Ch T F R H h c b->wz T h c b r e->Ag u g e->l.nx e b) ->
  (∀x i v s m c b,p x i->Ch T F R H (λa=>s a\/m a) c b->wz T m c b i (g.take n)->Nw T s m c b x v->l.rt v b) ->
  (∀C y i h c b,q C i->Ch T F R H h c b->wz T h c b i (g.take n)->E (.ref C) ↑y b)->t l g H
def S1(X:Cx)(E:XK)(T:g9)(d:List Nat)(n:Nat)(e:iH){D b a c:Type}[Sls D][Sls b][Sls a][Ow c](w:D->(b->Prop)->(c->a->Prop)->(g9->a->Prop)->Prop):Prop:=∃t,PS X e t/\WX E T d n t w
def SW(X:Cx)(E:XK)(T:g9)(e:List Nat)(n:Nat)(a:List iH){D c b d:Type}[Sls D][Sls c][Sls b][Ow d](w:D->(c->Prop)->(d->b->Prop)->(g9->b->Prop)->Prop):Prop:=∃t,FP X a t/\WX E T e n t w
section
variable{D D' D1 PO τ:Type}[Sls D][Sls D'][Sls D1][Sls PO][Ow τ]
def vL:SW X E T f n [] (λ(d:D)(a:D->Prop)(_:τ->PO->Prop) _=>a d) :=
 #[_,z8,λd F R b H a g h i s c e _ _=>e d F R H b c 57 s<|Ag.refl _ _]
def QJ:SW X E T e n a (λ(d:D)(b:D'->Prop)(_:τ->PO->Prop) _=>False) :=
 #[_,NY,λd F R f H b g h i s c j _ _=>c.elim]
def a2w{t:TS}[A:Fg D1 D']{w:D->(D1->Prop)->106->88->Prop}(f:WX E T g n t w):WX E T g n t (cG (D':=D') w A.fg):=by refine λd F R i H x j k l s m o p r=>f d F R i H _ j k l s m (λy z u v e q c b a=>?_) p r;refine e1a2 (A.le b.rel) λG g1 g2=>?_;exact o _ G u v e q #[c.keep,c.AA,λa h=>c.ye a<|g1 a h,c.left] ⟨g2,λa h=>b.sub a<|g1 a h,b.xI,b.tab,b.wj,λh=>b.v0<|g1 _ h⟩ a
def M0{a:List iH}[A:Fg D1 D']{w:D->(D1->Prop)->106->88->Prop}(h:SW X E T b n a w):SW X E T b n a (cG (D':=D') w A.fg) :=
 e1a2 h λt c d=> #[t,c,a2w d]
def WY{A:D->(D1->Prop)->106->88->Prop}{B:D1->(D'->Prop)->106->88->Prop}(G:T0 PO k n)(L:WX E T k n M A)(N:WX E T k n O B) :
  WX E T k n (Kz M O) (λd l b e=>A d (λo=>B o l b e) b e):=by
 refine λd F R P H l b e Q s S U I J=>L d F R P H _ b e _ s S (λo W X Y p q r j t=>?_) I J;refine N o W X p Y l b e Q j q (λZ u f h w i c a g=>U Z u f h w i (Ch.trans s j.tab r c) a<|t.trans g) (λx z v M1 M2 f h i c a m=>?_) λC y z u f h i c a=>?_
 ·exact I x z v M1 M2 f h i (Ch.trans s j.tab r c) #[G.dp t a.rel,a.sub,a.xI,a.tab,a.wj,a.v0] m
 ·exact J C y z u f h i (Ch.trans s j.tab r c) #[G.dp t a.rel,a.sub,a.xI,a.tab,a.wj,a.v0]
def D7{c:iH}{a:List iH}{w1:D->(D1->Prop)->106->88->Prop}{w2:D1->(D'->Prop)->106->88->Prop}(g:T0 PO b n)(h:S1 X E T b n c w1)(i:SW X E T b n a w2) :
  SW X E T b n (c::a) (λd j e f=>w1 d (λk=>w2 k j e f) e f) :=
 e1a2 h λq l m=> e1a2 i λr o p=> #[_,wI l o,WY g m p]
def vq{a:iH}{b:D->(D'->Prop)->106->88->Prop}(c:S1 X E T d n a b):SW X E T d n [a] b :=
 e1a2 c λg e f=> #[_,yu e,f]
def wM[A:Pj D PO n](s:wz T c e f d g):∃G,(∀a,G a->c a)/\wz T G e f (A.pj d) (g.take n):=by refine e1a2 (A.le s.rel) λG b i=>?_;exact#[G,b,i,λa h=>s.sub a<|b a h,s.xI,s.tab,s.wj,λh=>s.v0<|b _ h]
def Ch.less(c:Ch T F R H b d e)(g:∀a,G a->b a):Ch T F R H G d e:=#[c.keep,c.AA,λa h=>c.ye a<|g a h,c.left]
def vD[A:Pj D PO n](h:EO X E T e p):S1 X E T M n (.Return ↑e pos) (cS p A.pj λ(_:D'->Prop)(o:τ->PO->Prop) x f=>o x<|A.pj f):=by
 refine e1a2 h λt r u=>?_;refine#[_,CY r,λd F R w H N o O P s B Q I J=>u d F R w H _ _ _ s B (λx f v L S g i q c j m=>?_) λC y f U g i q c j=>?_]
 ·refine e1a2 (wM (PO:=PO) j) λG b l=>?_;exact I x _ v L G g i q (c.less λa h=>h.elim .inl λz=>.inr<|b a z) l ⟨m.is,m.sub,λa h k=>m.yP a h<|b a k,m.tab⟩
 ·refine e1a2 (wM (PO:=PO) j) λG b l=>?_;exact J C y _ G g i q (c.less b) l
def ww{i:Type}[Rep i][A:Pj D PO n]{j:Wf D i D}(h:EW X E T e j)(p:kj e none pos.line X.env=pure false:=by rfl) :
  S1 X E T M n (.Expr e pos) (cS j A.pj λ(k:D->Prop)(r:τ->PO->Prop) _ a=>k a):=by
 refine e1a2 h λt u w=>?_;refine#[_,yV u p,λd F R l H k r N O s z B P I=>w d F R l H _ _ _ s z (λx a v o b f q c g m=>B a o b f l q c g<|Ag.refl _ _) λC y a o b f q c g=>?_];refine e1a2 (wM (PO:=PO) g) λG J L=>?_;exact I C y _ G b f q (c.less J) L
def vT{a b:List iH}[A:Pj D PO n]{B:Wf D Bool D}{I J:D->(D'->Prop)->106->88->Prop}(hc:TW X E T c B)(ha:SW X E T L n a I)(hb:SW X E T L n b J) :
  S1 X E T L n (.If c a b pos) (cI B I J A.pj):=by
 refine e1a2 hc λtc c1 c2=>?_;refine e1a2 ha λta a1 a2=>?_;refine e1a2 hb λtb b1 b2=>?_;refine#[_,MH c1 a1 b1,λd F R t H M N O P s hw Q S u=>c2 d F R t H _ _ _ s hw (λx U W Y Z q c k=>?_) λC y r l e f q c h=>?_]
 ·cases x with
  |true=>exact a2 U W Y t Z M N O P k q (λr l e f o i j h g=>Q r l e f o i (Ch.trans s k.tab c j) h g) (λx p v w z e f i j h m=>S x p v w z e f i (Ch.trans s k.tab c j) h m) λC y p l e f i j h=>u C y p l e f i (Ch.trans s k.tab c j) h
  |false=>exact b2 U W Y t Z M N O P k q (λr l e f o i j h g=>Q r l e f o i (Ch.trans s k.tab c j) h g) (λx p v w z e f i j h m=>S x p v w z e f i (Ch.trans s k.tab c j) h m) λC y p l e f i j h=>u C y p l e f i (Ch.trans s k.tab c j) h
 ·refine e1a2 (wM (PO:=PO) h) λG g1 g2=>?_;exact u C y _ G e f q (c.less g1) g2
def GC{i:Nat}[Ow c][Ow e][Sls f][Sls j][A:At i D c f][U:Pt i f e j](s:wz T g R H d k)(m:Nw T F1 g R H x v) :
  ∃G,(∀a,G a->F1 a\/g a)/\wz T G R H (U.put (A.hole d) x) (k.set i<|↑v):=by
 refine e3a4 (A.take s.rel) λo p l r b t n=>?_;refine#[λa=>F1 a\/l a,λa h=>h.elim .inl λz=>.inr<|(b.all a).mpr<|.inr z,U.back n ⟨λ_=>Iff.rfl,λa z q=>m.yP a z<|(b.all a).mpr<|.inr q⟩ m.is,λa h=>h.elim (m.sub a) λz=>s.sub a<|(b.all a).mpr<|.inr z,s.xI,s.tab,s.wj,λh=>h.elim m.tab λz=>s.v0<|(b.all T).mpr<|.inr z]
def vK(i:Nat)[Ow b][Ow f][Sls r][Sls u][A:At i D b r][U:Pt i r f u][J:Pj D PO n](z:X.N.Nodup)(h:EO X E T e B)(I:X.N[i]?=↑x:=by rfl)(hx:Loc X.env.scope x:=by exact ku rfl)(L:i∉M:=by decide)
 (O:kj e (some<|.Name x a) pos.line X.env=pure false:=by rfl) (P:X.fn x=true\/X.env.scope.names.lookup x=some .local:=by first|exact .inl rfl|exact .inr rfl) :
    S1 X E T M n (.Assign [.Name x a] e pos) (cS B J.pj λ(w:u->Prop)(Q:τ->PO->Prop) x g=>w<|U.put (A.hole g) x):=by
  refine e1a2 h λt S W=>?_
  refine#[_,AH z I hx S O P,λd F R Y H w Q Ke En s Z kn kr ke=>W d F R Y H _ _ _ s Z (λx g v F1 F2 j k q c l m=>?_) λC y g F' j k q c l=>?_]
  · refine e1a2 (GC (i := i) l m) λG o p => ?_
    exact kn _ G j k _ q (c.less o) p<|Ag.set L
  · refine e1a2 (wM (PO := PO) l) λG o p => ?_
    exact ke C y _ G j k q (c.less o) p
end
class Ent(P:Type)[Sls P](k:Nat)(D:outParam Type)[Sls D] where
 ent:P->D
 ok:∀{F R:Rg} {H:Hp} {p:P} {σ:St},rel F R H p σ->rel F R H (ent p) (σ++lE k none)
noncomputable instance ent0:Ent Unit 0 Unit:=#[id,λh=>by obtain⟨rfl,h⟩:=h;exact#[rfl,h]]
noncomputable instance entS{k:Nat}{D:Type}[Sls D][A:Ent Unit k D]:Ent Unit (k+1) (Un×D):=#[λp=>(#[],A.ent p),λ{F R H p σ} h=>by
 obtain⟨rfl,h⟩:=h
 exact#[none,lE k none,λ_=>False,F,by rw[List.nil_append];rfl,two_nil F,λ_ z=>z,by simpa using A.ok (σ:=[]) (p:=p) (F:=F) (R:=R) (H:=H) #[rfl,h]]]
noncomputable instance entC{k:Nat}{τ P D:Type}[Ow τ][Sls P][Sls D][A:Ent P k D]:Ent (τ×P) k (τ×D):=#[λp=>(p.1,A.ent p.2),λ{F R H p σ} h=>by
 obtain⟨v,σ',F1,F2,rfl,h2,h3,h4⟩:=h
 exact#[v,σ'++lE k none,F1,F2,rfl,h2,h3,A.ok h4]]
class Ln(P:Type)[Sls P](n:outParam Nat):Prop where
 ln:∀{F R:Rg} {H:Hp} {p:P} {σ:St},rel F R H p σ->σ.length=n
instance ln0:Ln Unit 0:=#[λh=>by rw[h.1];rfl]
instance lnS{τ P:Type}{n:Nat}[Ow τ][Sls P][A:Ln P n]:Ln (τ×P) (n+1):=#[λh=>by
 obtain⟨v,σ',F1,F2,rfl,_,_,h4⟩:=h
 rw[iE,A.ln h4]]
def wN{r:iH}{N M:List Str}{k j n:Nat}{ms:List Nat}{A PO τ D D':Type}[Sls A][Sls PO][Ow τ][Sls D][Sls D'][L:Ln A n][J:Ent A j D]{O:D->(D'->Prop)->106->88->Prop}
 (F:zj K x d r f fd) (S:vz N M (vn r)) (hn:M.length=n) (hj:N.length-n=j)
 (i:∀(b:cr)(A:jL)(a:List Env)(s:hW)(H:Hp)(E:XK),wR k (A.deeper<|oY d (vn r) ⇑s f b)->SW (wl (wh P w) P w K mg base N d (vn r) f b A a s H E) E T ms n (vY r) O) :
    vZ P w K mg base (wh P w) (k+1) f fd M (yY T λ(p:A)(U:τ->PO->Prop) l=>O (J.ent p) (λ_=>False) U l):=by
  have e:∀{g:List V} {H:Hp} {Q:VK} {E:XK},yY T (λ(p:A)(U:τ->PO->Prop) l=>O (J.ent p) (λ_=>False) U l) g H Q E->g.length=n:=λh=>by
    obtain⟨F,R,p,Kn,l,s,_⟩:=h
    have:=L.ln s.rel
    rwa [hR]at this
  obtain⟨oc,od,kV,aa,pm,an,b,ct,ab,rfl,lk,W⟩:=F.ex
  refine Jq lk W S (λg H Q E h=>(e h).trans hn.symm) λAr a s H g Q E hr u=>?_
  refine e1a2 (i b Ar a s H E hr) λt h1 h2=>?_
  refine#[t,h1,?_]
  have X:=e u
  obtain⟨F,R,p,Kn,l,o,hw,kn,ke⟩:=u
  have B:start N g=g.map some++lE j none:=by unfold L2.start;rw[X,hj]
  have G:(start N g).take n=g.map some:=by rw[B,nO (by rw[hR,X];exact hO _),jH<|by rw[hR,X];exact hO _]
  refine h2 (J.ent p) F R _ H _ Kn l _ #[by rw[B];exact J.ok o.rel,o.sub,o.xI,o.tab,o.wj,o.v0] hw (λ_ _ _ _ _ z=>z.elim) (λx Y v F1 F2 Z H' q c I m=>?_) λC y Y F' Z H' q c I=>?_
  · rw[G]at I
    exact kn x Y v F1 F2 Z H' q c I m
  · rw[G]at I
    exact ke C y Y F' Z H' q c I
def WZ{o:iH}{N J:List Str}{k j n:Nat}{ms:List Nat}{A PO τ D D':Type}[Sls A][Sls PO][Ow τ][Sls D][Sls D'][L:Ln A n][I:Ent A j D]{M:D->(D'->Prop)->106->88->Prop}
 (F:zj K x b o f O) (S:vz N J (vn o)) (hn:J.length=n) (hj:N.length-n=j)
 (g:∀(A:jL)(a:List Env)(s:hW)(H:Hp)(E:XK),wR k (A.deeper<|oY b (vn o) ⇑s f O.code)->SW (wl (wh P w) P w K mg base N b (vn o) f O.code A a s H E) E T ms n (vY o) M) :
    vZ P w K mg base (wh P w) (k+1) f O J (yY T λ(p:A)(U:τ->PO->Prop) i=>M (I.ent p) (λ_=>False) U i):=by
  have d:∀{e:List V} {H:Hp} {Q:VK} {E:XK},yY T (λ(p:A)(U:τ->PO->Prop) i=>M (I.ent p) (λ_=>False) U i) e H Q E->e.length=n:=λh=>by
    obtain⟨F,R,p,Kn,i,s,_⟩:=h
    have:=L.ln s.rel
    rwa [hR]at this
  obtain⟨oc,od,kV,aa,pm,an,ab,ct,ae,rfl,lk,W⟩:=F.ex
  refine Jq lk W S (λe H Q E h=>(d h).trans hn.symm) λAr a s H e Q E hr r=>?_
  refine e1a2 (g Ar a s H E hr) λt h1 h2=>?_
  refine#[t,h1,?_]
  have X:=d r
  obtain⟨F,R,p,Kn,i,l,hw,kn,ke⟩:=r
  have u:start N e=e.map some++lE j none:=by unfold L2.start;rw[X,hj]
  have B:(start N e).take n=e.map some:=by rw[u,nO (by rw[hR,X];exact hO _),jH<|by rw[hR,X];exact hO _]
  refine h2 (I.ent p) F R _ H _ Kn i _ #[by rw[u];exact I.ok l.rel,l.sub,l.xI,l.tab,l.wj,l.v0] hw (λ_ _ _ _ _ z=>z.elim) (λx Y v F1 F2 Z H' q c G m=>?_) λC y Y F' Z H' q c G=>?_
  · rw[B]at G
    exact kn x Y v F1 F2 Z H' q c G m
  · rw[B]at G
    exact ke C y Y F' Z H' q c G
def EL{O:iH}{N ps:List Str}{k j n:Nat}{ms:List Nat}{A PO D D':Type}[Sls A][Sls PO][Sls D][Sls D'][L:Ln A n][En:Ent A j D][J:Pj D' PO n](dp:T0 PO ms n){w0:D->(D'->Prop)->(Unit->PO->Prop)->88->Prop}
 (F:zj K x e O f fd) (S:vz N ps (vn O)) (hn:ps.length=n) (hj:N.length-n=j)
 (o:∀(d:cr)(A:jL)(b:List Env)(s:hW)(H:Hp)(E:XK),wR k (A.deeper<|oY e (vn O) ⇑s f d)->SW (wl (wh P w) P w K mg base N e (vn O) f d A b s H E) E T ms n (vY O) w0) :
    vZ P w K mg base (wh P w) (k+1) f fd ps (yY T λ(p:A)(U:Unit->PO->Prop) B=>w0 (En.ent p) (λd'=>U ()<|J.pj d') U B):=by
  have i:∀{l:List V} {H:Hp} {Q:VK} {E:XK},yY T (λ(p:A)(U:Unit->PO->Prop) B=>w0 (En.ent p) (λd'=>U ()<|J.pj d') U B) l H Q E->l.length=n:=λh=>by
    obtain⟨F,R,p,Kn,B,s,_⟩:=h
    have:=L.ln s.rel
    rwa [hR]at this
  obtain⟨oc,od,kV,ab,pm,an,d,ct,ae,rfl,lk,aa⟩:=F.ex
  refine Jq lk aa S (λl H Q E h=>(i h).trans hn.symm) λAr b s H l Q E hr W=>?_
  refine e1a2 (o d Ar b s H E hr) λt h1 h2=>?_
  refine#[t,h1,?_]
  have hl:=i W
  obtain⟨F,R,p,Kn,B,I,hw,kn,ke⟩:=W
  have X:start N l=l.map some++lE j none:=by unfold L2.start;rw[hl,hj]
  have r:(start N l).take n=l.map some:=by rw[X,nO (by rw[hR,hl];exact hO _),jH<|by rw[hR,hl];exact hO _]
  refine h2 (En.ent p) F R _ H _ Kn B _ #[by rw[X];exact En.ok I.rel,I.sub,I.xI,I.tab,I.wj,I.v0] hw (λd' F' Y Z af q c u g=>?_) (λx p' v F1 F2 Y Z q c u m=>?_) λC y p' F' Y Z q c u=>?_
  · refine e1a2 (wM (PO := PO) u) λG g1 M => ?_
    have g3:=dp.dp g M.rel
    rw[r]at g3
    exact kn () _ .wV (λ_=>False) G Y Z q (c.less λa h=>h.elim (λz=>z.elim)<|g1 a) ⟨g3,M.sub,M.xI,M.tab,M.wj,M.v0⟩ ⟨⟨λ_ z=>z,.wV,rfl,rfl⟩,λ_ z=>z.elim,λ_ z=>z.elim,λz=>z⟩
  · rw[r]at u
    exact kn x p' v F1 F2 Y Z q c u m
  · rw[r]at u
    exact ke C y p' F' Y Z q c u
end WL
namespace WL
open PySem L2
open Rep (rp)
open Ow (sl)
open Sls (rel)
class Dat(α:Type)[Rep α][DecidableEq α] where
 dat:α->PyData
 dp:Nat
 rd:∀{X:Cx} {R:Rg} {H:Hp} {x:α} {v:V},rp R H x v->D6 X H v (dat x)
 lay:∀x,(dat x).canLay0=true
 dep:∀x,(dat x).depth<=dp
 nm:∀x y,pO (dat x) (dat y)=true
 sm:∀x y,lF (dat x) (dat y)=decide (x=y)
instance:Dat Int where
 dat:=.int
 dp:=0
 rd h:=by have h:_=_:=h;subst h;exact D6.int _
 lay _:=by simp[pG]
 dep _:=by simp[sI]
 nm _ _:=by simp[pO]
 sm x y:=by rw[lF];by_cases h:x=y<;>simp[h]
section
variable{α β:Type}[Rep α][DecidableEq α][Dat α][Rep β][DecidableEq β][Dat β]
def Ah{X:Cx}{R:Rg}{H:Hp}:∀{xs:List α} {vs:List V},Paired (rp R H) xs vs->Paired (D6 X H) vs (xs.map Dat.dat):=by
 intro _ _ z
 induction z with
 |nil=>exact .nil
 |cons h t ih=>exact .cons (Dat.rd h) ih
def D8:∀a:List α,mV (a.map Dat.dat)=true
 | []=>by simp[mV]
 |x::a=>by simp only[iI,mV,Dat.lay x,D8 a,qv]
def M3:∀a:List α,o6 (a.map Dat.dat)<=Dat.dp α
 | []=>by simp[o6]
 |x::a=>by
  have b:=M3 a;have c:=Dat.dep x;simp only[iI,o6]
  lia
def QK:∀a b:List α,mY (a.map Dat.dat) (b.map Dat.dat)=true
 | [],[]=>by simp[mY]
 | [],_::_=>by simp[mY]
 |_::_,[]=>by simp[mY]
 |x::a,y::b=>by simp only[iI,mY,Dat.nm x y,QK a b,qv]
def QL:∀xs ys:List α,lq (xs.map Dat.dat) (ys.map Dat.dat)=decide (xs=ys)
 | [],[]=>by simp[lq]
 | [],_::_=>by simp[lq]
 |_::_,[]=>by simp[lq]
 |x::xs,y::ys=>by simp only[iI,lq,Dat.sm x y,QL xs ys];by_cases h:x=y<;>simp[h]
instance:Dat (List α) where
 dat xs:=.list<|xs.map Dat.dat
 dp:=Dat.dp α+1
 rd h:=by obtain⟨a,vs,rfl,_,h3,h4⟩:=h;exact D6.lst (wF.of h3)<|Ah h4
 lay xs:=by simp only[pG];exact D8 xs
 dep xs:=by simp only[sI];have:=M3 xs;omega
 nm xs ys:=by simp only[pO];exact QK xs ys
 sm xs ys:=by simp only[lF];exact QL xs ys
def D6.tup{X:Cx}(h:zI X.K H a c)(p:Paired (D6 X H) c d):D6 X H (.ref a) (.tuple d):=λb m s u I r=>by
 cases r;refine e1a3 (I.tuple h) λe f g _=>?_;obtain⟨q,i⟩:=GB I f p;obtain⟨o,j,k,n,l⟩:=g;exact#[_,Reads.tuple j k l<|by simpa using i]
instance:Dat (α×β) where
 dat x:=.tuple [Dat.dat x.1,Dat.dat x.2]
 dp:=max (Dat.dp α) (Dat.dp β)+1
 rd h:=by obtain⟨a,u,w,rfl,_,h3,h4,h5⟩:=h;exact D6.tup (zI.of h3)<|.cons (Dat.rd h4)<|.cons (Dat.rd h5) .nil
 lay x:=by simp only[pG,mV,Dat.lay,qv]
 dep x:=by have h1:=Dat.dep x.1;have h2:=Dat.dep x.2;simp only[sI,o6];omega
 nm x y:=by simp only[pO,mY,Dat.nm,qv]
 sm x y:=by simp only[lF,lq,Dat.sm];obtain⟨a,b⟩:=x;obtain⟨c,d⟩:=y;by_cases h1:a=c<;>by_cases h2:b=d<;>simp[h1,h2]
end
def RdL{α:Type}[Rep α]{D:Type}[Sls D](T:g9)(F R:Rg)(H:Hp)(σ:St)(g:D->List α)(v:V):Prop :=
 ∀(d'':D)(W0 Ks:Rg)(QM:Hp),Ch T F R H W0 Ks QM->wz T W0 Ks QM d'' σ->∃a vs,v=.ref a/\QM a=↑(.lst vs)/\Paired (rp Ks QM) (g d'') vs
def ER(X:Cx)(E:XK)(T:g9)(e:iV){D i:Type}[Sls D][Rep i](w:Wf D (D->List i) D):Prop :=
 ∃t,PE X e t/\∀(d:D)(F R:Rg)(f:St)(H:Hp) (j:(D->List i)->D->Prop) (k:g9->D->Prop) (Q:VK),wz T F R H d f->w d j k ->
  (∀g h v b c a,j g h->Ch T F R H b c a->wz T b c a h f->RdL T b c a f g v->Q v a) ->
  (∀C y h b c a,k C h->Ch T F R H b c a->wz T b c a h f->E (.ref C) ↑y a)->t f H Q
section
variable{D:Type}[Sls D]{α β γ:Type}[Rep α][Rep β][Rep γ]
def v6(h:EW X E T e w):ER X E T e (cK w λ(f:(D->List α)->D->Prop) x b=>f (λ_=>x) b):=by refine e1a2 h λt i j=>?_;refine#[t,i,λd F R k H f l Q s m n o=>j d F R k H _ l Q s m (λx b v p u y q c g r=>n _ b v p u y q c g λz A B C G I=>?_) o];refine e2a4 (g.val G r) λa J L O M N=>?_;exact#[a,J,L,M,N]
def wq(i:Nat)[Sls h][A:At i D (OL α) h](j:PE X 101 (vW i):=by exact pv _):ER X E T 101 (λ(d:D) (e:(D->List α)->D->Prop) _=>e (λd=>(A.get d).l) d):=by refine#[_,j,λd F R w H e y Q s k m _=>?_];obtain⟨v,z,B,f,C,⟨a,G,rfl,I⟩,_⟩:=A.take s.rel;refine#[_,f,m _ d _ F R H k 57 s λn o p q J b=>?_];obtain⟨L,M,N,g,O,⟨P,c,r,S,t,u⟩,_⟩:=A.take b.rel;rw[f]at g;cases g;cases r;exact#[_,c,rfl,t,u]
def Yt{wa:Wf D (D->List α) D}{wb:Wf D β D}{c:List α->β->γ->Prop}
 (ha:ER X E T a wa) (hb:EW X E T b wb) (he:∀ta tb,PE X a ta->PE X b tb->PE X e (Zs r ta tb))
 (hr:∀{R:Rg} {H:Hp} {xs:List α} {y:β} {z:γ} {p:g9} {us:List V} {v:V} {Q:VK},H p=↑(.lst us)->Paired (rp R H) xs us->rp R H y v->c xs y z->(∀w,rp R H z w->Q w H)->r (.ref p) v H Q) :
    EW X E T e (cB wa wb λg Kn y d2=>∃z,c (g d2) y z/\Kn z d2):=by
  refine e1a2 ha λta a1 a2=>?_
  refine e1a2 hb λtb b1 b2=>?_
  refine#[_,he ta tb a1 b1,λd F R σ H Kn Ke Q s hw kn ke=>?_]
  refine a2 d F R σ H _ Ke _ s hw (λg d1 u F1 R1 H1 q1 c1 s1 r1=>?_) ke
  refine b2 d1 F1 R1 σ H1 _ Ke _ s1 q1 (λy d2 v F2 R2 H2 q2 c2 s2 r2=>?_) λC y d' F' R' H' k c s'=>ke C y d' F' R' H' k (Ch.trans s s1.tab c1 c) s'
  refine e1a2 q2 λz z1 z2=>?_
  obtain⟨p,us,rfl,h1,h2⟩:=r1 d2 F2 R2 H2 c2 s2
  exact hr h1 h2 r2 z1 λw rw=>kn _ d2 w F2 R2 H2 z2 (Ch.trans s s1.tab c1 c2) s2 rw
def xm{R:Rg}{H:Hp}:∀{xs:List α} {vs:List V} {i:Nat} {x:α},Paired (rp R H) xs vs->xs[i]?=↑x->∃v,vs[i]?=↑v/\rp R H x v:=by
 intro _ _ i x z
 induction z generalizing i with
 |nil=>intro e;simp at e
 |cons r t ih =>
  intro e
  cases i with
  |zero=>simp at e;subst e;exact#[_,rfl,r]
  |succ i=>exact e1a2 (ih<|by simpa using e) λu h1 h2=>#[u,by simpa using h1,h2]
def Bu{xs:List α}{vs:List V}{i:Int}(h:Paired (rp R H) xs vs)(e:Ez xs i=↑x):∃v,Ez vs i=↑v/\rp R H x v:=by
 unfold Ez at e ⊢;rw[<- Paired.length h]
 cases q:Px xs.length i with
 |none=>rw[q]at e;cases e
 |some j =>
  rw[q]at e;exact xm h e
def w6{j:Wf D (D->List α) D}{l:Wf D Int D}(q:ER X E T a j)(s:EW X E T b l)(t:MT b:=by intro _ _;rfl) :
  EW X E T (.Subscript a b pos) (λ(d:D)(u:α->D->Prop) m=>j d (λg A=>l A (λi n=>∃x,Ez (g n) i=↑x/\u x n) m) m) :=
 Yt (c:=λo i x=>Ez o i=↑x) q s (λF G f h=>yU xf f h t) λ{R H o y z p I v Q} f h B C k=>by subst B;refine e1a2 (Bu h C) λw e r=>?_;exact#[_,_,_,_,rfl,rfl,wF.of f,e,k _ r]
def AV{k:Nat}{c:Wf D (α×β) D}(f:EW X E T a c):EW X E T (.Subscript a (.Constant (.int 0) k p) pos) (cK c λ(e:α->D->Prop) x b=>e x.1 b):=by refine e1a2 f λI g h=>?_;refine#[_,yU P6 g vQ<|λ_ _=>rfl,λd F R i H e j Q s l m n=>h d F R i H _ j _ s l (λx b u o r t y z A B=>?_) n];obtain⟨q,v,w,rfl,_,C,G,J⟩:=B;exact#[_,_,_,v,rfl,rfl,zI.of C,rfl,m _ b v o r t y z A G]
def zf{k:Nat}{c:Wf D (α×β) D}(f:EW X E T a c):EW X E T (.Subscript a (.Constant (.int 1) k p) pos) (cK c λ(e:β->D->Prop) x b=>e x.2 b):=by refine e1a2 f λI g h=>?_;refine#[_,yU P6 g vQ<|λ_ _=>rfl,λd F R i H e j Q s l m n=>h d F R i H _ j _ s l (λx b u o r t y z A B=>?_) n];obtain⟨q,v,w,rfl,_,C,J,G⟩:=B;exact#[_,_,_,w,rfl,rfl,zI.of C,rfl,m _ b w o r t y z A G]
def x8(e:EW X E T a f):EW X E T a (cK f λ(c:α->D->Prop) x b=>∃y,x=↑y/\c y b):=by refine e1a2 e λz g h=>?_;refine#[_,g,λd F R i H c j Q s k l m=>h d F R i H _ j _ s k (λx b u n o p r t v w=>?_) m];obtain⟨y,rfl,q⟩:=r;exact l y b u n o p q t v w.2
class NV(α:Type)[Rep α]:Prop where
 nv:∀{R:Rg} {H:Hp} {x:α} {v:V},rp R H x v->v≠.wV
instance:NV Int:=#[λh z=>by have h:_=_:=h;rw[h]at z;cases z]
instance:NV (α×β):=#[λh z=>by obtain⟨a,u,w,e,_⟩:=h;rw[e]at z;cases z]
def zn[NV α](f:EW X E T a g):EW X E T a (cK g λ(c:Option α->D->Prop) x b=>c ↑x b):=by refine e1a2 f λw h i=>?_;exact#[_,h,λd F R j H c k Q s l m n=>i d F R j H _ k _ s l (λx b u o p q r t v e=>m ↑x b u o p q r t v #[NV.nv e,e]) n]
def M4{k:Nat}:EW X E T (.Constant .none k pos) (λ(d:D)(a:Option α->D->Prop) _=>a none d) :=
 #[_,Kx,λd F R e H a f Q s b c _=>c none d _ F R H b 57 s rfl]
def wY{a:iV}{p:Pos}{wa:Wf D (D->List α) D}(hg:Gl X "len")(hm:X.mg "len"=none)(ha:ER X E T a wa)(hs:hJ [a] X.env=79::hJ [] X.env:=by rfl) :
  EW X E T (.Call (.Name "len" p) [a] [] pos) (cK wa λ(Kn:Int->D->Prop) g d1=>Kn ((g d1).length:Int) d1):=by
 refine e1a2 ha λta a1 a2=>?_;refine#[_,wT xR hg hm mZ (vy a1 vJ hs) (he:=hs),λd F R σ H Kn Ke Q s hw kn ke=>a2 d F R σ H _ Ke _ s hw (λg d1 u F1 R1 H1 q1 c1 s1 r1=>?_) ke];obtain⟨q,us,rfl,h1,h2⟩:=r1 d1 F1 R1 H1 57 s1;refine#[_,_,rfl,.inl<|wF.of h1,kn _ d1 _ F1 R1 H1 q1 c1 s1 ?_];show V.int _=V.int _;rw[Paired.length h2]
end
def AL(X:Cx)(E:XK)(T:g9)(es:List iV){D α:Type}[Sls D][Rep α](w:Wf D (List α) D):Prop :=
 ∃t,PA X es t/\∀(d:D)(F R:Rg)(σ:St)(H:Hp)(Kn:List α->D->Prop)(Ke:g9->D->Prop)(Q:List V->Hp->Prop),wz T F R H d σ->w d Kn Ke ->
  (∀x d' vs F' R' H',Kn x d'->Ch T F R H F' R' H'->wz T F' R' H' d' σ->Paired (rp R' H') x vs->vs.length=es.length->Q vs H') ->
  (∀C y d' F' R' H',Ke C d'->Ch T F R H F' R' H'->wz T F' R' H' d' σ->E (.ref C) ↑y H')->t σ H Q
def wz.vals{T:g9}{D:Type}[Sls D]{d:D}{σ:St}{F R F' R':Rg}{H H':Hp}(s:wz T F R H d σ)(c:Ch T F R H F' R' H'){α:Type}[Rep α]{x:List α}{v:List V}(h:Paired (rp R H) x v):Paired (rp R' H') x v :=
 wG (c.ext.wide λa z=>z.elim (s.sub a) λq=>by rw[q];exact s.wj) h
section
variable{D:Type}[Sls D]{α β γ:Type}[Rep α][Rep β][Rep γ]
def vN:AL X E T [] (λ(d:D)(a:List α->D->Prop) _=>a [] d) :=
 #[_,vJ,λd F R e H a f Q s b c _=>c [] d [] F R H b 57 s .nil rfl]
def vw{a:List iV}{g:Wf D α D}{h:Wf D (List α) D}(q:EW X E T e g)(r:AL X E T a h)(t:hJ (e::a) X.env=70::hJ a X.env:=by rfl) :
  AL X E T (e::a) (cB g h λx i j f=>i (x::j) f):=by
 refine e1a2 q λta v w=>?_;refine e1a2 r λtr z A=>?_;refine#[_,vy v z t,λd F R l H i m Q s B G n=>?_];refine w d F R l H _ m _ s B (λx I u J L M N o b O=>?_) n;refine A I J L l M _ m _ b N (λj f P S U W Y p Z r2 l2=>?_) λC y d' F' R' H' k c s'=>n C y d' F' R' H' k (Ch.trans s b.tab o c) s';exact G _ f (u::P) S U W Y (Ch.trans s b.tab o p) Z (.cons (b.val p O) r2) (by rw[iE,iE,l2])
def vO(h:AL X E T a w)(f:a.length<=hV:=by decide):EO X E T (.List a pos) (cK w λ(b:OL α->D->Prop) c g=>b #[c] g):=by refine e1a2 h λt i j=>?_;refine#[_,PZ i,λd F R k H b l Q s m n o=>j d F R k H _ l _ s m (λc q I r J L u v e x y=>#[by rw[y];exact f,λp z=>?_]) o];refine e1a3 (yf e z x) λA B C G=>?_;exact n _ q _ _ r A _ u (Ch.trans s e.tab v B) C G
def wK{q}(r:EW X E T a t)(w:EW X E T b z)
 (A:hJ [a,b] X.env=79::hJ [b] X.env:=by rfl) (B:hJ [b] X.env=(false,eval b X.env)::hJ [] X.env:=by rfl) :
    EW X E T (.Tuple [a,b] q pos) (cB t z λx (i:α×β->D->Prop) y g=>i (x,y) g):=by
  refine e1a2 r λta G I=>?_
  refine e1a2 w λtb J L=>?_
  refine#[_,PY<|vy G (vy J vJ B) A,λd F R j H i l Q s M N m=>?_]
  refine I d F R j H _ l _ s M (λx O u P S U W n e Y=>?_) m
  refine L O P S j U _ l _ e W (λy g v Z R2 H2 q2 o f r2=>#[(by show 2<=hV;decide),λp hp=>?_]) λC y d' F' R' H' k c s'=>m C y d' F' R' H' k (Ch.trans s e.tab n c) s'
  refine e0a3 (f.new (.tup [u,v]) hp) λs3 h n3=>?_
  exact N _ g _ Z R2 _ q2 (Ch.trans s e.tab n<|Ch.trans e f.tab o h) s3 #[p,u,v,rfl,n3,vt,f.val h<|e.val o Y,f.val h r2]
def yx{R:Rg}{H:Hp}:∀{xs ys:List α} {us vs:List V},Paired (rp R H) xs us->Paired (rp R H) ys vs->Paired (rp R H) (xs++ys) (us++vs):=by
 intro _ _ _ _ z s
 induction z with
 |nil=>exact s
 |cons h t ih=>exact .cons h ih
def AW(I:ER X E T a J)(L:ER X E T b M) :
  EO X E T (.BinOp a .Add b pos) (cB J M λg (l:OL α->D->Prop) k e=>(g e).length+(k e).length<=hV/\l #[g e++k e] e):=by
 refine e1a2 I λta N O=>?_;refine e1a2 L λtb P S=>?_;refine#[_,xk X6 N P,λd F R m H l n Q s U W o=>?_];refine O d F R m H _ n _ s U (λg Y u Z R1 H1 q1 t f r1=>?_) o;refine S Y Z R1 m H1 _ n _ f q1 (λk e v i w x z A h r2=>?_) λC y d' F' j H' k c s'=>o C y d' F' j H' k (Ch.trans s f.tab t c) s';obtain⟨p,us,rfl,h1,B⟩:=r1 e i w x A h;obtain⟨q,vs,rfl,k1,G⟩:=r2 e i w x 57 h;refine#[p,q,us,vs,rfl,rfl,h1,k1,by rw[<- Paired.length B,<- Paired.length G];exact z.1,λr hr=>?_];refine e1a3 (yf h hr<|yx B G) λj c3 s3 n3=>?_;exact W _ e _ _ i j _ z.2 (Ch.trans s f.tab t<|Ch.trans f h.tab A c3) s3 n3
def M5(i:Gl X "list")(j:X.mg "list"=none)(k:ER X E T a m)(e:hJ [a] X.env=79::hJ [] X.env:=by rfl) :
  EO X E T (.Call (.Name "list" p) [a] [] pos) (cK m λ(f:OL α->D->Prop) g b=>f #[g b] b):=by
 refine e1a2 k λP n o=>?_;refine#[_,yd yW i j kA (vy n vJ e) (he:=e),λd F R r H f t Q s v w x=>o d F R r H _ t _ s v (λg b u h y z A B c C=>?_) x];obtain⟨q,S,rfl,G,I⟩:=C b h y z 57 c;refine#[_,_,rfl,.inl<|wF.of G,λl J=>?_];refine e1a3 (yf c J I) λL M N O=>?_;exact w _ b _ _ h L _ A (Ch.trans s c.tab B M) N O
noncomputable def ins(x:Int):List Int->List Int
 | []=>[x]
 |y::r=>if x<=y then x::y::r else y::ins x r
noncomputable def zD:List Int->List Int
 | []=>[]
 |x::r=>ins x<|zD r
def AX(x:Int):∀r:List Int,(ins x r).Perm (x::r)
 | []=>o7 _
 |y::r=>by
  unfold ins;split
  ·exact o7 _
  ·exact((AX x r).cons y).trans<|List.Perm.swap x y r
def w8:∀r:List Int,(zD r).Perm r
 | []=>o7 _
 |x::r=>(AX x<|zD r).trans<|(w8 r).cons x
set_option tactic.hygienic true in
def Hr(x:Int):∀r:List Int,r.Pairwise (·<=·)->(ins x r).Pairwise (·<=·)
 | [],_=>kC _ _
 |y::r,h=>by
  unfold ins;have b:=List.pairwise_cons.mp h;split
  ·rename_i a
   refine List.pairwise_cons.mpr #[λz c=>?_,h];rcases List.mem_cons.mp c with e|e
   ·rw[e];exact a
   ·exact Int.le_trans a<|b.1 z e
  ·rename_i a
   refine List.pairwise_cons.mpr #[λz c=>?_,Hr x r b.2];rcases List.mem_cons.mp ((AX x r).mem_iff.mp c) with e|e
   ·rw[e];lia
   ·exact b.1 z e
def zo:∀r:List Int,(zD r).Pairwise (·<=·)
 | []=>iP
 |x::r=>Hr x _<|zo r
def yg:∀{a b:List Int},a.Perm b->a.Pairwise (·<=·)->b.Pairwise (·<=·)->a=b
 | [],b,p,_,_=>(List.Perm.nil_eq p)
 |x::a,[],p,_,_=>io p.length_eq q0o
 |x::a,y::b,p,c,d=>by
  have e:x=y:=by
   have f:x∈y::b:=p.mem_iff.mp h8;have g:y∈x::a:=p.mem_iff.mpr h8;rcases List.mem_cons.mp f with q|q
   ·exact q
   ·rcases List.mem_cons.mp g with z|z
    ·exact z.symm
    ·have:=(List.pairwise_cons.mp d).1 x q;have:=(List.pairwise_cons.mp c).1 y z
     lia
  subst e;rw[yg p.cons_inv (List.pairwise_cons.mp c).2 (List.pairwise_cons.mp d).2]
def EM{a:List Int}(p:a.Perm b)(h:a.Pairwise (·<=·)):a=zD b:=yg (p.trans (w8 b).symm) h<|zo b
def paired_ints{R:Rg}{H:Hp}:∀{xs:List Int} {vs:List V},Paired (rp R H) xs vs->vs=xs.map V.int:=by
 intro _ _ z
 induction z with
 |nil=>rfl
 |cons h t ih=>rw[show _=V.int _ from h,ih];rfl
def yE{R:Rg}{H:Hp}:∀xs:List Int,Paired (rp R H) xs (xs.map V.int)
 | []=>.nil
 |x::r=>.cons (rfl:rp R H x (V.int x))<|yE r
def GD{a:iV}{p:Pos}{wa:Wf D (D->List Int) D}(hg:Gl X "sorted")(hm:X.mg "sorted"=none)(ha:ER X E T a wa)(hs:hJ [a] X.env=79::hJ [] X.env:=by rfl) :
  EO X E T (.Call (.Name "sorted" p) [a] [] pos) (cK wa λ(Kn:OL Int->D->Prop) g d1=>(g d1).length<64/\Kn #[zD<|g d1] d1):=by
 refine e1a2 ha λta a1 a2=>?_;refine#[_,wT Hn hg hm kQ (vy a1 vJ hs) (he:=hs),λd F R σ H Kn Ke Q s hw kn ke=>a2 d F R σ H _ Ke _ s hw (λg d1 u F1 R1 H1 q1 c1 s1 r1=>?_) ke];obtain⟨q,us,rfl,h1,h2⟩:=r1 d1 F1 R1 H1 57 s1;refine#[_,g d1,rfl,wF.of (by rw[h1,paired_ints h2]),q1.1,λl ns hl pn sn=>?_];rw[EM pn sn];refine e1a3 (yf s1 hl<|yE (R:=R1) (H:=H1)<|zD<|g d1) λR' c3 s3 n3=>?_;exact kn _ d1 _ _ F1 R' _ q1.2 (Ch.trans s s1.tab c1 c3) s3 n3
noncomputable def FW{α:Type}(a:List α)(b c:Option Int):List α:=(a.drop<|HT.xB a.length 0 b).take<|HT.xB a.length a.length c-HT.xB a.length 0 b
def JI{R:Rg}{H:Hp}:∀{xs:List α} {vs:List V} (n:Nat),Paired (rp R H) xs vs->Paired (rp R H) (xs.drop n) (vs.drop n):=by
 intro _ _ n z
 induction z generalizing n with
 |nil=>cases n<;>exact .nil
 |cons h t ih=>cases n with
  |zero=>exact .cons h t
  |succ k=>exact ih k
def DE{R:Rg}{H:Hp}:∀{xs:List α} {vs:List V} (n:Nat),Paired (rp R H) xs vs->Paired (rp R H) (xs.take n) (vs.take n)
 |_,_,0,_=>.nil
 |_,_,_+1,.nil=>.nil
 |_,_,n+1,.cons r t=>.cons r<|DE n t
def EN{R:Rg}{H:Hp}{xs:List α}{vs:List V}(h:Paired (rp R H) xs vs)(lo hi:Option Int):Paired (rp R H) (FW xs lo hi) (Ey vs lo hi):=by unfold FW Ey;rw[<- Paired.length h];exact DE _<|JI _ h
def OW(X:Cx)(E:XK)(T:g9)(e:Option iV){D:Type}[Sls D](w:Wf D (Option Int) D):Prop :=
 ∃t,PO X e t/\∀(d:D)(F R:Rg)(g:St)(H:Hp)(h:Option Int->D->Prop)(i:g9->D->Prop)(Q:Option Int->Hp->Prop),wz T F R H d g->w d h i ->
  (∀x b c f a,h x b->Ch T F R H c f a->wz T c f a b g->Q x a) ->
  (∀C y b c f a,i C b->Ch T F R H c f a->wz T c f a b g->E (.ref C) ↑y a)->t g H Q
def Ht:OW X E T none (λ(d:D) a _=>a none d):=#[_,DU,λd F R e H a f Q s b c _=>c none d F R H b 57 s]
def Hu{e:iV}{w:Wf D Int D}(h:EW X E T e w):OW X E T ↑e (cK w λa i b=>a ↑i b):=by refine e1a2 h λt c f=>?_;exact#[_,DV c,λd F R g H a j Q s k l m=>f d F R g H _ j _ s k (λx n u o p H1 q r v y=>#[x,y,l _ n o p H1 q r v]) m]
def JJ{G:Option iV}(M:ER X E T a N)(O:OW X E T G P)(S:OW X E T U W) :
  EO X E T (.Subscript a (.Slice G U none p2) pos) (λ(d:D)(I:OL α->D->Prop) b=>N d (λg m=>P m (λl n=>W n (λh f=>I #[FW (g f) l h] f) b) b) b):=by
 refine e1a2 M λta Y Z=>?_;refine e1a2 O λtl l1 l2=>?_;refine e1a2 S λth h1 h2=>?_;refine#[_,AN DW Y l1 h1,λd F R o H I b Q s hw kn r=>?_];refine Z d F R o H _ b _ s hw (λg m u F1 R1 H1 q1 t e r1=>?_) r;refine l2 m F1 R1 o H1 _ b _ e q1 (λl n F2 R2 H2 q2 v i=>?_) λC y w x j z k c A=>r C y w x j z k (Ch.trans s e.tab t c) A;refine h2 n F2 R2 o H2 _ b _ i q2 (λh f J R3 H3 q3 L B=>?_) λC y w x j z k c A=>r C y w x j z k (Ch.trans s e.tab t<|Ch.trans e i.tab v c) A;obtain⟨q,us,rfl,k1,k2⟩:=r1 f J R3 H3 (Ch.trans e i.tab v L) B;refine⟨q,us,rfl,wF.of k1,λp hp=>?_⟩;refine e1a3 (yf B hp<|EN k2 l h) λj c4 s4 n4=>?_;exact kn _ f _ _ J j _ q3 (Ch.trans s e.tab t<|Ch.trans e i.tab v<|Ch.trans i B.tab L c4) s4 n4
def Cm(X:Cx)(op:qZ)(g:α->β->Bool):Prop:=∃r,AJ X (jF op) r/\∀{R:Rg} {H:Hp} {x:α} {y:β} {u v:V} {Q:VK},rp R H x u->rp R H y v->Q (.bl<|g x y) H->r u v H Q
def CmL(X:Cx)(op:qZ)(g:List α->List β->Bool):Prop:=∃r,AJ X (jF op) r/\∀{R:Rg} {H:Hp} {x:List α} {y:List β} {p q:g9} {us vs:List V} {Q:VK},H p=↑(.lst us)->Paired (rp R H) x us->H q=↑(.lst vs)->Paired (rp R H) y vs->Q (.bl<|g x y) H->r (.ref p) (.ref q) H Q
def Zv(X:Cx)(op:qZ)(g:α->List β->Bool):Prop:=∃r,AJ X (jF op) r/\∀{R:Rg} {H:Hp} {x:α} {y:List β} {q:g9} {u:V} {vs:List V} {Q:VK},rp R H x u->H q=↑(.lst vs)->Paired (rp R H) y vs->Q (.bl<|g x y) H->r u (.ref q) H Q
def Yu(a:AJ X (jF op) (TU λi j=>.bl<|g i j)):Cm X op g:=⟨_,a,λb c k=>#[_,_,b,c,k]⟩
def QN:Cm X .Lt (λi j:Int=>decide<|i<j):=Yu WH
def W2:Cm X .Gt (λi j:Int=>decide<|j<i):=Yu WJ
def W3:Cm X .GtE (λi j:Int=>decide<|j<=i):=Yu ZS
def BM[DecidableEq α][JH α]:Cm X .Eq (λx y:α=>decide<|x=y):=⟨_,ZQ,λa b k=>#[(JH.sc a b).1,by rw[(JH.sc a b).2];exact k]⟩
def Ct[DecidableEq α][JH α]:Cm X .NotEq (λx y:α=>!decide (x=y)):=#[_,ZR,λa b k=>#[(JH.sc a b).1,by rw[(JH.sc a b).2];exact k]]
def Yv:Cm X .Is (λ(x:Option α)(_:Unit)=>x.isNone):=#[_,XW,λa b k=>#[b,by rw[MZ a];exact k]]
def Bv:Cm X .IsNot (λ(x:Option α)(_:Unit)=>!x.isNone):=#[_,MM,λa b k=>#[b,by rw[MZ a];exact k]]
def yh[DecidableEq α][Dat α](a:Dat.dp α<=64)(x:α):sU (Dat.dat x)=true:=by show (pG (Dat.dat x)&&decide ((Dat.dat x).depth<=64))=true;rw[iY];exact#[Dat.lay x,decide_eq_true<|i5 (Dat.dep x) a]
def QO[DecidableEq α][Dat α](b:X.A.units+64<kF)(a:Dat.dp α<=64:=by decide):Cm X .NotEq (λx y:α=>!decide (x=y)):=#[_,Qu b,λ{R H x y u v Q} c d k=>#[_,_,Dat.rd c,Dat.rd d,yh a x,yh a y,Dat.nm x y,by rw[Dat.sm];exact k]]
def Hv[DecidableEq α][Dat α](b:X.A.units+64<kF)(a:Dat.dp (List α)<=64:=by decide):CmL X .Eq (λx y:List α=>decide (x=y)):=#[_,Yj b,λ{R H x y p q g h Q} c d e f k=>#[_,_,D6.lst (wF.of c) (Ah d),D6.lst (wF.of e) (Ah f),yh a x,yh a y,Dat.nm x y,by
 have:=Dat.sm x y
 rw[show lF (.list (x.map Dat.dat)) (.list (y.map Dat.dat))=decide (x=y) from this];exact k]]
def EQ[DecidableEq α][Dat α](b:X.A.units+64<kF)(a:Dat.dp (List α)<=64:=by decide):CmL X .NotEq (λx y:List α=>!decide (x=y)):=#[_,Qu b,λ{R H x y p q g h Q} c d e f k=>#[_,_,D6.lst (wF.of c) (Ah d),D6.lst (wF.of e) (Ah f),yh a x,yh a y,Dat.nm x y,by
 have:=Dat.sm x y
 rw[show lF (.list (x.map Dat.dat)) (.list (y.map Dat.dat))=decide (x=y) from this];exact k]]
def Cu(k:Int)(a:List Int):inV (.int k) (a.map V.int)=decide (k∈a):=by
 unfold inV;rw[List.any_map,kZ,rg,i4];constructor
 ·rintro⟨y,b,e⟩;have:y=k:=by simpa[TV] using e
  rw[<- this];exact b
 ·intro h;exact#[k,h,by simp[TV]]
def Bw(a:List Int):(a.map V.int).all Ce=true:=by rw[List.all_map,oX];intro x _;rfl
def M6:Zv X .In (λ(x:Int)(ys:List Int)=>decide (x∈ys)):=#[_,Go,λ{R H x y q u vs Q} h1 h2 h3 k=>by
 subst h1;refine#[q,vs,rfl,.inl<|wF.of h2,rfl,by rw[paired_ints h3];exact Bw y,?_];rw[paired_ints h3,Cu]
 exact k]
def Cv:Zv X .NotIn (λ(x:Int)(ys:List Int)=>!decide (x∈ys)):=#[_,Cf,λ{R H x y q u vs Q} h1 h2 h3 k=>by
 subst h1;refine#[q,vs,rfl,.inl<|wF.of h2,rfl,by rw[paired_ints h3];exact Bw y,?_];rw[paired_ints h3,Cu]
 exact k]
def tw_cm{a b:iV}{op:qZ}{g:α->β->Bool}{wa:Wf D α D}{wb:Wf D β D}(C:Cm X op g)(ha:EW X E T a wa)(hb:EW X E T b wb)(hm:jh op b=false:=by exact vU _) :
  TW X E T (.Compare a [op] [b] pos) (cB wa wb λx Kn y d2=>Kn (g x y) d2):=by
 refine e1a2 C λr o1 o2=>?_;refine e1a2 ha λta a1 a2=>?_;refine e1a2 hb λtb b1 b2=>?_;refine#[_,yw o1 a1 b1 hm,λd F R σ H Kn Ke Q s hw kn ke=>?_];refine a2 d F R σ H _ Ke _ s hw (λx d1 u F1 R1 H1 q1 c1 s1 r1=>?_) ke;refine b2 d1 F1 R1 σ H1 _ Ke _ s1 q1 (λy d2 v F2 R2 H2 q2 c2 s2 r2=>?_) λC y d' F' R' H' k c s'=>ke C y d' F' R' H' k (Ch.trans s s1.tab c1 c) s';exact o2 (s1.val c2 r1) r2 #[_,rfl,kn _ d2 F2 R2 H2 q2 (Ch.trans s s1.tab c1 c2) s2]
def a0o{a b:iV}{op:qZ}{g:α->β->Bool}{h:Wf D α D}{i:Wf D β D}(C:Cm X op g)(q:EW X E T a h)(t:EW X E T b i)(w:jh op b=false:=by exact vU _) :
  EW X E T (.Compare a [op] [b] pos) (cB h i λx (j:Bool->D->Prop) y f=>j (g x y) f):=by
 obtain⟨r,z,A⟩:=C;obtain⟨ta,B,G⟩:=q;obtain⟨tb,I,J⟩:=t;refine#[_,G7 z B I w,λd F R l H j m Q s L M n=>?_];refine G d F R l H _ m _ s L (λx N u O P H1 S o e U=>?_) n;refine J N O P l H1 _ m _ e S (λy f v W R2 H2 Y p Z r2=>?_) λC y d' F' R' H' k c s'=>n C y d' F' R' H' k (Ch.trans s e.tab o c) s';exact A (e.val p U) r2<|M _ f _ W R2 H2 Y (Ch.trans s e.tab o p) Z rfl
def tw_cmL{a b:iV}{op:qZ}{g:List α->List β->Bool}{wa:Wf D (D->List α) D}{wb:Wf D (D->List β) D}(C:CmL X op g)(ha:ER X E T a wa)(hb:ER X E T b wb)(hm:jh op b=false:=by exact vU _) :
  TW X E T (.Compare a [op] [b] pos) (cB wa wb λx Kn y d2=>Kn (g (x d2)<|y d2) d2):=by
 refine e1a2 C λr o1 o2=>?_;refine e1a2 ha λta a1 a2=>?_;refine e1a2 hb λtb b1 b2=>?_;refine#[_,yw o1 a1 b1 hm,λd F R σ H Kn Ke Q s hw kn ke=>?_];refine a2 d F R σ H _ Ke _ s hw (λx d1 u F1 R1 H1 q1 c1 s1 r1=>?_) ke;refine b2 d1 F1 R1 σ H1 _ Ke _ s1 q1 (λy d2 v F2 R2 H2 q2 c2 s2 r2=>?_) λC y d' F' R' H' k c s'=>ke C y d' F' R' H' k (Ch.trans s s1.tab c1 c) s';obtain⟨p,us,rfl,h1,h2⟩:=r1 d2 F2 R2 H2 c2 s2;obtain⟨q,vs,rfl,k1,k2⟩:=r2 d2 F2 R2 H2 57 s2;exact o2 h1 h2 k1 k2 #[_,rfl,kn _ d2 F2 R2 H2 q2 (Ch.trans s s1.tab c1 c2) s2]
def Yw{a b:iV}{op:qZ}{g:List α->List β->Bool}{wa:Wf D (D->List α) D}{wb:Wf D (D->List β) D}(C:CmL X op g)(ha:ER X E T a wa)(hb:ER X E T b wb)(hm:jh op b=false:=by exact vU _) :
  EW X E T (.Compare a [op] [b] pos) (cB wa wb λx (Kn:Bool->D->Prop) y d2=>Kn (g (x d2)<|y d2) d2):=by
 refine e1a2 C λr o1 o2=>?_;refine e1a2 ha λta a1 a2=>?_;refine e1a2 hb λtb b1 b2=>?_;refine#[_,G7 o1 a1 b1 hm,λd F R σ H Kn Ke Q s hw kn ke=>?_];refine a2 d F R σ H _ Ke _ s hw (λx d1 u F1 R1 H1 q1 c1 s1 r1=>?_) ke;refine b2 d1 F1 R1 σ H1 _ Ke _ s1 q1 (λy d2 v F2 R2 H2 q2 c2 s2 r2=>?_) λC y d' F' R' H' k c s'=>ke C y d' F' R' H' k (Ch.trans s s1.tab c1 c) s';obtain⟨p,us,rfl,h1,h2⟩:=r1 d2 F2 R2 H2 c2 s2;obtain⟨q,vs,rfl,k1,k2⟩:=r2 d2 F2 R2 H2 57 s2;exact o2 h1 h2 k1 k2<|kn _ d2 _ F2 R2 H2 q2 (Ch.trans s s1.tab c1 c2) s2 rfl
def tw_cmI{a b:iV}{op:qZ}{g:α->List β->Bool}{wa:Wf D α D}{wb:Wf D (D->List β) D}(C:Zv X op g)(ha:EW X E T a wa)(hb:ER X E T b wb)(hm:jh op b=false:=by exact vU _) :
  TW X E T (.Compare a [op] [b] pos) (cB wa wb λx Kn y d2=>Kn (g x<|y d2) d2):=by
 refine e1a2 C λr o1 o2=>?_;refine e1a2 ha λta a1 a2=>?_;refine e1a2 hb λtb b1 b2=>?_;refine#[_,yw o1 a1 b1 hm,λd F R σ H Kn Ke Q s hw kn ke=>?_];refine a2 d F R σ H _ Ke _ s hw (λx d1 u F1 R1 H1 q1 c1 s1 r1=>?_) ke;refine b2 d1 F1 R1 σ H1 _ Ke _ s1 q1 (λy d2 v F2 R2 H2 q2 c2 s2 r2=>?_) λC y d' F' R' H' k c s'=>ke C y d' F' R' H' k (Ch.trans s s1.tab c1 c) s';obtain⟨q,vs,rfl,k1,k2⟩:=r2 d2 F2 R2 H2 57 s2;exact o2 (s1.val c2 r1) k1 k2 #[_,rfl,kn _ d2 F2 R2 H2 q2 (Ch.trans s s1.tab c1 c2) s2]
def Yx{a b:iV}{op:qZ}{g:α->List β->Bool}{h:Wf D α D}{i:Wf D (D->List β) D}(C:Zv X op g)(z:EW X E T a h)(A:ER X E T b i)(B:jh op b=false) :
  EW X E T (.Compare a [op] [b] pos) (cB h i λx (j:Bool->D->Prop) y e=>j (g x<|y e) e):=by
 obtain⟨r,G,I⟩:=C;obtain⟨ta,J,L⟩:=z;obtain⟨tb,M,N⟩:=A;refine#[_,G7 G J M B,λd F R l H j m Q s O P n=>?_];refine L d F R l H _ m _ s O (λx S u U W H1 Y o f Z=>?_) n;refine N S U W l H1 _ m _ f Y (λy e v p R2 H2 q2 t w r2=>?_) λC y d' F' R' H' k c s'=>n C y d' F' R' H' k (Ch.trans s f.tab o c) s';obtain⟨q,vs,rfl,k1,k2⟩:=r2 e p R2 H2 57 w;exact I (f.val t Z) k1 k2<|P _ e _ p R2 H2 q2 (Ch.trans s f.tab o t) w rfl
def tw_val{w:Wf D Bool D}(h:EW X E T e w)(b:∀a,rj e X.env a=(do let v <- a;nC e.pos;lw [v] (uQ v)):=by intro _;rfl):TW X E T e w:=by refine e1a2 h λt c f=>?_;exact#[_,Xq c b,λd F R g H A i Q s j k l=>f d F R g H _ i _ s j (λx m u n o p q r y z=>#[x,z,k _ m n o p q r y]) l]
def tw_not{w:Wf D Bool D}(h:TW X E T e w):TW X E T (.UnaryOp .Not e pos) (cK w λc b a=>c (!b) a):=by refine e1a2 h λt f g=>?_;exact#[_,Xs f,λd F R i H c j Q s k l m=>g d F R i H _ j _ s k (λx a n o p q r u=>l _ a n o p q r u) m]
def WW(X:Cx)(E:XK)(T:g9)(e:iV){D:Type}[Sls D](w:Wf D Bool D):Prop :=
 ∃t,PW X e t/\∀(d:D)(F R:Rg)(g:St)(H:Hp)(h:Bool->D->Prop)(i:g9->D->Prop)(Q:Bool->Hp->Prop),wz T F R H d g->w d h i ->
  (∀x b c f a,h x b->Ch T F R H c f a->wz T c f a b g->Q x a) ->
  (∀C y b c f a,i C b->Ch T F R H c f a->wz T c f a b g->E (.ref C) ↑y a)->t g H Q
def tw_w{w:Wf D Bool D}(h:WW X E T e w):TW X E T e w:=e1a2 h λt a b=> #[t,a.pt,b]
def D9{w:Wf D Bool D}(h:TW X E T a w):WW X E T (.BoolOp .And [a] pos) w:=e1a2 h λt b c=> #[_,T8 b,c]
def xJ{w:Wf D Bool D}(h:TW X E T a w):WW X E T (.BoolOp .Or [a] pos) w:=e1a2 h λt b c=> #[_,PJ b,c]
def Hw{e:List iV}{h i:Wf D Bool D}(u:TW X E T a h)(v:WW X E T (.BoolOp .And (b::e) pos) i):WW X E T (.BoolOp .And (a::b::e) pos) (cA h i):=by
 refine e1a2 u λta w z=>?_;refine e1a2 v λtb A B=>?_;refine#[_,Xr w A,λd F R j H Kn l Q s G m n=>?_];refine z d F R j H _ l _ s G (λx o p q r t g f=>?_) n
 cases x with
 |true=>exact B o p q j r _ l _ f t (λy I J L M N O P=>m _ I J L M N (Ch.trans s f.tab g O) P) λC y S U W Y k c Z=>n C y S U W Y k (Ch.trans s f.tab g c) Z
 |false=>exact m _ o p q r t g f
def xU{e:List iV}{h i:Wf D Bool D}(u:TW X E T a h)(v:WW X E T (.BoolOp .Or (b::e) pos) i):WW X E T (.BoolOp .Or (a::b::e) pos) (cO h i):=by
 refine e1a2 u λta w z=>?_;refine e1a2 v λtb A B=>?_;refine#[_,WC w A,λd F R j H Kn l Q s G m n=>?_];refine z d F R j H _ l _ s G (λx o p q r t g f=>?_) n
 cases x with
 |false=>exact B o p q j r _ l _ f t (λy I J L M N O P=>m _ I J L M N (Ch.trans s f.tab g O) P) λC y S U W Y k c Z=>n C y S U W Y k (Ch.trans s f.tab g c) Z
 |true=>exact m _ o p q r t g f
def Bx{op}{w:Wf D Bool D}(h:EW X E T a w):EW X E T (.BoolOp op [a] pos) w:=e1a2 h λt b c=> #[_,Xt b,c]
def ES{a b:iV}{rest:List iV}{g h:Wf D Bool D}(r:EW X E T a g)(t:EW X E T (.BoolOp .And (b::rest) pos) h):EW X E T (.BoolOp .And (a::b::rest) pos) (cA g h):=by
 refine e1a2 r λta w z=>?_;refine e1a2 t λtb A B=>?_;refine#[_,Xu w A,λd F R i H Kn j Q s G l m=>?_];refine z d F R i H _ j _ s G (λx n u o p H1 q f e I=>#[x,I,?_]) m
 cases x with
 |true=>exact B n o p i H1 _ j _ e q (λy J v L R2 H2 M N O P=>l _ J v L R2 H2 M (Ch.trans s e.tab f N) O P) λC y S U W Y k c Z=>m C y S U W Y k (Ch.trans s e.tab f c) Z
 |false=>exact l _ n _ o p H1 q f e rfl
def a0p{a b:iV}{rest:List iV}{g h:Wf D Bool D}(r:EW X E T a g)(t:EW X E T (.BoolOp .Or (b::rest) pos) h):EW X E T (.BoolOp .Or (a::b::rest) pos) (cO g h):=by
 refine e1a2 r λta w z=>?_;refine e1a2 t λtb A B=>?_;refine#[_,ZJ w A,λd F R i H Kn j Q s G l m=>?_];refine z d F R i H _ j _ s G (λx n u o p H1 q f e I=>#[x,I,?_]) m
 cases x with
 |false=>exact B n o p i H1 _ j _ e q (λy J v L R2 H2 M N O P=>l _ J v L R2 H2 M (Ch.trans s e.tab f N) O P) λC y S U W Y k c Z=>m C y S U W Y k (Ch.trans s e.tab f c) Z
 |true=>exact l _ n _ o p H1 q f e rfl
def Yy(h:EW X E T a w):EW X E T (.UnaryOp .Not a pos) (cK w λ(e:Bool->D->Prop) b c=>e (!b) c):=by refine e1a2 h λt f g=>?_;exact#[_,Xv f,λd F R i H e j Q s k l m=>g d F R i H _ j _ s k (λx c u n o p q r v y=>#[x,y,l _ c _ n o p q r v rfl]) m]
end
variable[L2.GX]
class UN(τ:Type)[Ow τ]:Prop where
 fr:∀{F R L:Rg} {H:Hp} {x:τ} {v:Option V},sl F R H x v->(∀a,L a->∃us,H a=↑(.lst us))->sl F (λa=>R a\/L a) H x v
class Lh(α:Type)[Rep α]:Prop where
 no:∀{R L:Rg} {H:Hp} {x:α} {v:V},rp R H x v->(∀a,L a->∃us,H a=↑(.lst us))->rp (λa=>R a\/L a) H x v
instance:Lh Int:=#[λh _=>h]
instance:Lh Bool:=#[λh _=>h]
instance{α β:Type}[Rep α][Rep β][Lh α][Lh β]:Lh (α×β):=#[λ{R L H x v} h k=>by
 obtain⟨a,u,w,h1,h2,h3,h4,h5⟩:=h
 exact#[a,u,w,h1,λz=>z.elim h2 λq=>(by obtain⟨us,e⟩:=k a q;rw[h3]at e;cases e),h3,Lh.no h4 k,Lh.no h5 k]]
def M7{α:Type}[Rep α][Lh α]{R L:Rg}{H:Hp}(k:∀a,L a->∃us,H a=↑(.lst us)):∀{xs:List α} {vs:List V},Paired (rp R H) xs vs->Paired (rp (λa=>R a\/L a) H) xs vs:=by
 intro _ _ z
 induction z with
 |nil=>exact .nil
 |cons h t ih=>exact .cons (Lh.no h k) ih
instance{α:Type}[Rep α][Lh α]:Lh (Tp α):=#[λ{R L H x v} h k=>by
 refine e2a4 h λa vs h1 h2 h3 h4=>?_
 exact#[a,vs,h1,λz=>z.elim h2 λq=>(by obtain⟨us,e⟩:=k a q;rw[h3]at e;cases e),h3,M7 k h4]]
instance{α:Type}[Rep α][Lh α]:UN α:=#[λ{F R L H x v} h k=>by
 obtain⟨h1,u,e,h2⟩:=h
 exact#[h1,u,e,Lh.no h2 k]]
instance{α:Type}[Rep α][Lh α]:UN (OL α):=#[λ{F R L H x v} h k=>by
 refine e2a4 h λa vs h1 h2 h3 h4=>?_
 exact#[a,vs,h1,h2,h3,M7 k h4]]
instance:UN Un:=#[λh _=>h]
class Zw(P:Type)[Sls P]:Prop where
 fr:∀{F R L:Rg} {H:Hp} {x:P} {v:St},rel F R H x v->(∀a,L a->∃us,H a=↑(.lst us))->rel F (λa=>R a\/L a) H x v
instance:Zw Unit:=#[λh _=>h]
instance{τ P:Type}[Ow τ][Sls P][UN τ][Zw P]:Zw (τ×P):=#[λh k=>by
 refine e4a4 h λv σ' F1 F2 h1 h2 h3 h4=>?_
 exact#[v,σ',F1,F2,h1,h2,UN.fr h3 k,Zw.fr h4 k]]
class Yz(P:Type)[Sls P]:Prop where
 ls:∀{F R:Rg} {H:Hp} {x:P} {v:St},rel F R H x v->∀a,F a->∃us,H a=↑(.lst us)
instance:Yz Unit:=#[λh a z=>io z (h.2 a)]
instance{α P:Type}[Rep α][Sls P][Yz P]:Yz (OL α×P):=#[λ{F R H x v} h a z=>by
 obtain⟨v,σ',F1,F2,h1,h2,⟨b,vs,k1,k2,k3,k4⟩,h4⟩:=h;rcases(h2.all a).mp z with q|q
 ·rw[(k2 a).mp q];exact#[vs,k3]
 ·exact Yz.ls h4 a q]
abbrev Wo(R L:Rg):Rg:=λa=>R a/\¬L a
def Df(R L:Rg)(H:Hp):Ext (λ_=>False) R H (Wo R L) H:=#[λ_ _ _ h=>h,λa h=>.inl h.1]
def UO(h:∀a,L a->b a):Ext (λ_=>False) (Wo R L) H (Wo R b) H:=#[λ_ _ _ h=>h,λa z=>.inl #[z.1,λq=>z.2<|h a q]]
def Sls.wk{D:Type}[Sls D]{F R R':Rg}{H:Hp}{d:D}{σ:St}(h:rel F R H d σ)(e:Ext (λ_=>False) R H R' H):rel F R' H d σ:=Sls.st h e (λ_ z=>z.elim)<|λ_ _ z=>z
def Ow.wk{τ:Type}[Ow τ]{F R R':Rg}{H:Hp}{d:τ}{σ:Option V}(h:sl F R H d σ)(e:Ext (λ_=>False) R H R' H):sl F R' H d σ:=Ow.st h e (λ_ z=>z.elim)<|λ_ _ z=>z
class Lb(Lc τ PO:Type)[Sls Lc][Ow τ][Sls PO]:Prop where
 fr:∀{F R L R0:Rg} {H:Hp} {x:τ} {v:Option V} {l:Lc} {us:St},rel L R0 H l us->sl F R H x v->sl F (λa=>R a\/L a) H x v
 fs:∀{F R L R0:Rg} {H:Hp} {x:PO} {v:St} {l:Lc} {us:St},rel L R0 H l us->rel F R H x v->rel F (λa=>R a\/L a) H x v
instance{Lc τ PO:Type}[Sls Lc][Ow τ][Sls PO][UN τ][Zw PO][Yz Lc]:Lb Lc τ PO:=#[λh k=>UN.fr k (Yz.ls h),λh k=>Zw.fr k (Yz.ls h)]
def QP{R L:Rg}{H:Hp}(h:∀a,¬L a):Ext (λ_=>False) R H (λa=>R a\/L a) H:=#[λ_ _ _ h=>h,λa z=>z.elim .inl λq=>io q<|h a]
instance(priority:=high){τ PO:Type}[Ow τ][Sls PO]:Lb Unit τ PO:=#[λh k=>Ow.wk k (QP h.2),λh k=>Sls.wk k (QP h.2)]
structure ET(F F1 F2 F3:Rg):Prop where
 all:∀a,F a↔F1 a\/F2 a\/F3 a
 IZ:∀a,F1 a->F2 a->False
 Kt:∀a,F1 a->F3 a->False
 Ku:∀a,F2 a->F3 a->False
def Li(X:Cx)(E:XK)(T:g9)(M:List iV){D P n B j:Type}[Sls D][Sls P][Sls n][Sls B][Sls j](k:B->j->n->D)(w:D->(P->B->j->Prop)->72->Prop):Prop :=
 ∃t,PA X M t/\∀(d:D)(F R:Rg)(g:St)(H:Hp)(o:P->B->j->Prop)(q:g9->D->Prop)(Q:List V->Hp->Prop),wz T F R H d g->w d o q ->
  (∀p b l m r s u L h f a,o p b l->Ch T F R H h f a->Std T h f a->ET h s u L->rel s (Wo f L) a p (m.map some)->rel u f a b g->rel L f a l r ->
   (∀v x z A G i c e I,rel z c e I (m.map some)->rel A c e v g->rel G c e x r->ET i z A G->rel i c e (k v x I) g)->Q m a) ->
  (∀C y J h f a,q C J->Ch T F R H h f a->wz T h f a J g->E (.ref C) ↑y a)->t g H Q
section
variable{D:Type}[Sls D]
def vp:Li X E T [] (λ(b:D)(_:Unit)(_:Unit)=>b) (λ(d:D)(c:Unit->D->Unit->Prop) _=>c () d ()):=by refine#[_,vJ,λd F R m H c n Q s e f _=>?_];exact f () d () [] [] (λ_=>False) F (λ_=>False) F R H e 57 s.TZ #[λa=>#[λz=>.inr<|.inl z,λz=>z.elim (λq=>q.elim) λz=>z.elim id λq=>q.elim],λ_ z=>z.elim,λ_ z=>z.elim,λ_ _ z=>z] #[rfl,λ_ z=>z] s.rel #[rfl,λ_ z=>z] λo p r u v g h i w j k l t=>Sls.fq k λa=>#[λz=>(t.all a).mpr<|.inr<|.inl z,λz=>((t.all a).mp z).elim (λq=>io q<|j.2 a) λz=>z.elim id λq=>io q<|l.2 a]
def vr{g:List iV}{m P n B a:Type}[Rep m][Sls P][Sls n][Sls B][Sls a]{f:B->a->n->D}{A:Wf D m D}{G:D->(P->B->a->Prop)->72->Prop}
 (W:EW X E T e A) (Y:Li X E T g f G) (Z:hJ (e::g) X.env=70::hJ g X.env:=by rfl) :
    Li X E T (e::g) (λ(b:B)(l:a)(p:Un×n)=>f b l p.2) (cB A G λx (I:m×P->B->a->Prop) p b l=>I (x,p) b l):=by
  refine e1a2 W λta a1 a2=>?_
  refine e1a2 Y λtr b1 b2=>?_
  refine#[_,vy a1 b1 Z,λd F R J H I M Q s hw kn N=>?_]
  refine a2 d F R J H _ M _ s hw (λx d1 u F1 R1 H1 q1 O h r1=>?_) N
  refine b2 d1 F1 R1 J H1 _ M _ h q1 (λp b l S us o G2 L q i j q2 U s2 t2 h1 h2 hl k=>?_) λC y d' q i j k c s'=>N C y d' q i j k (Ch.trans s h.tab O c) s'
  refine kn (x,p) b l (u::S) us o G2 L q i j q2 (Ch.trans s h.tab O U) s2 t2 #[↑u,S.map some,λ_=>False,o,rfl,two_nil o,#[λ_ z=>z,u,rfl,Rep.st (h.val U r1)<|(Df i L j).wide λ_ z=>z.elim],h1] h2 hl λb' l' L1 L2 L3 r v w p' h3 h4 h5 t=>?_
  refine e4a4 h3 λv' aa M1 M2 z1 z2 z3 z4=>?_
  injection z1 with _ z5
  subst z5
  exact k b' l' L1 L2 L3 r v w p'.2 (Sls.fq z4<|two_eq z2 z3) h4 h5 t
def vR{o:List iV}(i:Nat){c O P w B g h:Type}[Ow c][Hs c][Sls O][Sls P][Sls w][Sls B][Sls g][Sls h]{j:B->h->w->D}{S:D->(P->B->h->Prop)->72->Prop}
 [A0:At i D c O] [A:At i B c g] [U:Pt i g c B] (hr:Li X E T o j S) (he:PE X 101 (vW i):=by exact pv _) (hs:hJ (.Name x pos::o) X.env=(false,eval 101 X.env)::hJ o X.env:=by rfl) :
    Li X E T (.Name x pos::o) (λ(b:g)(l:h)(p:c×w)=>j (U.put b p.1) l p.2) (cK S λ(W:c×P->g->h->Prop) p b l=>W (A.get b,p) (A.hole b) l):=by
  refine e1a2 hr λtr b1 b2=>?_
  refine#[_,vy he b1 hs,λd F R σ H W Ke Q s hw kn ke=>?_]
  refine e3a4 (A0.take s.rel) λv _ _ y _ C _=>?_
  obtain⟨u,rfl⟩:=Hs.has C
  refine#[u,y,b2 d F R σ H _ Ke _ s hw (λp b l Y us Z G2 L F' R' H' q2 c2 s2 e h1 h2 hl k=>?_) ke]
  refine e3a4 (A.take h2) λv' G M2 z1 r z3 z4=>?_
  rw[y]at z1
  cases z1
  have m1:∀a,G a->G2 a:=λa m=>(r.all a).mpr<|.inl m
  have m2:∀a,M2 a->G2 a:=λa m=>(r.all a).mpr<|.inr m
  refine kn (A.get b,p) (A.hole b) l (u::Y) us (λa=>G a\/Z a) M2 L F' R' H' q2 c2 s2 #[λa=>?_,λa m n=>?_,λa m n=>?_,λa m n=>e.Ku a (m2 a m) n] #[↑u,Y.map some,G,Z,rfl,#[λ_=>Iff.rfl,λa m n=>e.IZ a n<|m1 a m],Ow.wk z3<|Df R' L H',h1] z4 hl λb' l' L1 L2 L3 I J M p' h3 h4 h5 t=>?_
  · rw[e.all, r.all]
    exact#[λz=>z.elim (λq=>.inl<|.inr q) λz=>z.elim (λz=>z.elim (λq=>.inl<|.inl q) λq=>.inr<|.inl q) λq=>.inr<|.inr q,λz=>z.elim (λz=>z.elim (λq=>.inr<|.inl<|.inl q) .inl) λz=>z.elim (λq=>.inr<|.inl<|.inr q) λq=>.inr<|.inr q]
  · rcases m with m|m
    · exact r.yP a m n
    · exact e.IZ a m<|m2 a n
  · rcases m with m|m
    · exact e.Ku a (m1 a m) n
    · exact e.Kt a m n
  · refine e4a4 h3 λv' aa N N2 y1 f y3 y4 => ?_
    injection y1 with y5 y6
    subst y5;subst y6
    have tt:DR (λa=>N a\/L2 a) N L2:=#[λ_=>Iff.rfl,λa m n=>t.IZ a ((f.all a).mpr<|.inl m) n]
    refine k _ l' N2 (λa=>N a\/L2 a) L3 I J M p'.2 y4 (Pt.same (A:=U) h4 y tt y3) h5 #[λa=>?_,λa m n=>?_,λa m n=>t.Kt a ((f.all a).mpr<|.inr m) n,λa m n=>?_]
    · rw[t.all, f.all]
      exact#[λz=>z.elim (λz=>z.elim (λq=>.inr<|.inl<|.inl q) .inl) λz=>z.elim (λq=>.inr<|.inl<|.inr q) λq=>.inr<|.inr q,λz=>z.elim (λq=>.inl<|.inr q) λz=>z.elim (λz=>z.elim (λq=>.inl<|.inl q) λq=>.inr<|.inl q) λq=>.inr<|.inr q]
    · rcases n with n|n
      · exact f.yP a n m
      · exact t.IZ a ((f.all a).mpr<|.inr m) n
    · rcases m with m|m
      · exact t.Kt a ((f.all a).mpr<|.inl m) n
      · exact t.Ku a m n
def vM{u:List iV}(i:Nat){e S P y B h j:Type}[Rep e][Sls S][Sls P][Sls y][Sls B][Sls h][Sls j]{o:B->j->y->D}{W:D->(P->B->j->Prop)->72->Prop}
 [A0:At i D (OL e) S] [A:At i B (OL e) h] [U:Pt i h (OL e) B] (hr:Li X E T u o W) (he:PE X 101 (vW i):=by exact pv _) (hs:hJ (.Name x pos::u) X.env=(false,eval 101 X.env)::hJ u X.env:=by rfl) :
    Li X E T (.Name x pos::u) (λ(b:h)(l:OL e×j)(p:Un×y)=>o (U.put b l.1) l.2 p.2) (cK W λ(Y:List e×P->h->OL e×j->Prop) p b l=>Y ((A.get b).l,p) (A.hole b) (A.get b,l)):=by
  refine e1a2 hr λtr b1 b2=>?_
  refine#[_,vy he b1 hs,λd F R σ H Y Ke Q s hw kn ke=>?_]
  obtain⟨v,_,_,C,_,⟨r,_,rfl,_⟩,_⟩:=A0.take s.rel
  refine#[_,C,b2 d F R σ H _ Ke _ s hw (λp b l Z us G G2 L F' R' H' q2 c2 s2 f h1 h2 hl k=>?_) ke]
  refine e3a4 (A.take h2) λv' I M2 z1 w z3 z4=>?_
  rw[C]at z1
  cases z1
  refine e2a4 (id z3) λa ws e1 e2 e3 e4=>?_
  cases e1
  have m1:∀a,I a->G2 a:=λa m=>(w.all a).mpr<|.inl m
  have m2:∀a,M2 a->G2 a:=λa m=>(w.all a).mpr<|.inr m
  refine kn ((A.get b).l,p) (A.hole b) (A.get b,l) (.ref r::Z) (↑(.ref r)::us) G M2 (λc=>I c\/L c) F' R' H' q2 c2 s2 #[λa=>?_,λa m n=>f.IZ a m<|m2 a n,λa m n=>?_,λa m n=>?_] #[some<|.ref r,Z.map some,λ_=>False,G,rfl,two_nil G,#[λ_ z=>z,_,rfl,r,ws,rfl,λz=>z.2<|.inl<|(e2 r).mpr rfl,e3,wG ((Df R' _ H').wide λ_ z=>z.elim) e4],Sls.wk h1<|UO λ_ z=>.inr z] z4 #[_,us,I,L,rfl,#[λ_=>Iff.rfl,λa m n=>f.Ku a (m1 a m) n],z3,hl] λb' l' L1 L2 L3 J M N p' h3 h4 h5 t=>?_
  · rw[f.all, w.all]
    exact#[λz=>z.elim .inl λz=>z.elim (λz=>z.elim (λq=>.inr<|.inr<|.inl q) λq=>.inr<|.inl q) λq=>.inr<|.inr<|.inr q,λz=>z.elim .inl λz=>z.elim (λq=>.inr<|.inl<|.inr q) λz=>z.elim (λq=>.inr<|.inl<|.inl q) λq=>.inr<|.inr q]
  · rcases n with n|n
    · exact f.IZ a m<|m1 a n
    · exact f.Kt a m n
  · rcases n with n|n
    · exact w.yP a n m
    · exact f.Ku a (m2 a m) n
  · refine e4a4 h3 λv' aa N1 N2 y1 y2 y3 y4 => ?_
    injection y1 with _ y6
    subst y6
    refine e4a4 h5 λv2 ab O K2 x1 g x3 x4=>?_
    injection x1 with x5 x6
    subst x5;subst x6
    have tt:DR (λa=>O a\/L2 a) O L2:=#[λ_=>Iff.rfl,λa m n=>t.Ku a n<|(g.all a).mpr<|.inl m]
    refine k _ l'.2 L1 (λa=>O a\/L2 a) K2 J M N p'.2 (Sls.fq y4<|two_eq y2 y3) (Pt.same (A:=U) h4 C tt x3) x4 ⟨λa=>?_,λa m n=>?_,λa m n=>t.Kt a m<|(g.all a).mpr<|.inr n,λa m n=>?_⟩
    · rw[t.all, g.all]
      exact#[λz=>z.elim .inl λz=>z.elim (λq=>.inr<|.inl<|.inr q) λz=>z.elim (λq=>.inr<|.inl<|.inl q) λq=>.inr<|.inr q,λz=>z.elim .inl λz=>z.elim (λz=>z.elim (λq=>.inr<|.inr<|.inl q) λq=>.inr<|.inl q) λq=>.inr<|.inr<|.inr q]
    · rcases n with n|n
      · exact t.Kt a m<|(g.all a).mpr<|.inl n
      · exact t.IZ a m n
    · rcases m with m|m
      · exact g.yP a m n
      · exact t.Ku a m<|(g.all a).mpr<|.inr n
def EU{P J B Lc M:Type}[Sls P][Sls J][Sls B][Sls Lc][Ow M][Lb Lc M J]{mrg:B->Lc->J->D}{wf:Wf P M J}{F R F1 F2 L:Rg}{H:Hp}{b:B}{l:Lc}{p:P}{σ:St}{vs:List V}{us:St}{Kn:M->D->Prop}{Ke:g9->D->Prop}{Q:VK}
  (s:Std T F R H) (t:ET F F1 F2 L) (hp:rel F1 (Wo R L) H p (vs.map some)) (hb:rel F2 R H b σ) (hl:rel L R H l us) (km:∀b' l' G1 G2 G3 W u w r,rel G1 u w r (vs.map some)->rel G2 u w b' σ->rel G3 u w l' us->ET W G1 G2 G3->rel W u w (mrg b' l' r) σ)
  (hw:wf p (λx r=>Kn x<|mrg b l r) (λC r=>Ke C<|mrg b l r))
  (kn:∀x X v M1 N i d,Kn x X->Ch T F R H (λa=>M1 a\/N a) i d->wz T N i d X σ->Nw T M1 N i d x v->Q v d)
  (ke:∀C y X Y i d,Ke C X->Ch T F R H Y i d->wz T Y i d X σ->E (.ref C) ↑y d):yY T wf vs H Q E:=by
 have O:∀a,F1 a->F a:=λa h=>(t.all a).mpr<|.inl h;have S:∀a,F2 a->F a:=λa h=>(t.all a).mpr<|.inr<|.inl h;have k:∀a,L a->F a:=λa h=>(t.all a).mpr<|.inr<|.inr h;have s1:wz T F1 (Wo R L) H p (vs.map some):=⟨hp,λa h=>#[s.sub a<|O a h,λz=>t.Kt a h z],λa h=>s.xI a h.1,s.tab,#[s.wj,λz=>s.v0<|k T z],λh=>s.v0<|O T h⟩
 -- the region aa it: Z the ab left and Z ah ag
 have ex:∀{G i:Rg} {d:Hp},Ch T F1 (Wo R L) H G i d->Ext (λa=>F1 a\/a=T) R H (λa=>i a\/L a) d:=λc=>#[λb o n h=>c.keep b o (λz=>n<|.inl z) (λz=>n<|.inr z) h,λa h=>h.elim (λz=>(c.AA a z).elim (λq=>.inl q.1) .inr) λz=>.inl<|s.sub a<|k a z];have gs:∀a,(F1 a\/a=T)->R a:=λa h=>h.elim (λz=>s.sub a<|O a z) λq=>by rw[q];exact s.wj
 have fr:∀{G i:Rg} {d:Hp},Ch T F1 (Wo R L) H G i d->rel F2 (λa=>i a\/L a) d b σ:=λc=>Sls.st hb (ex c) gs λa h z=>z.elim (λq=>t.IZ a q h) λq=>s.v0 (by rw[<- q];exact S a h);have A:∀{G i:Rg} {d:Hp},Ch T F1 (Wo R L) H G i d->rel L (λa=>i a\/L a) d l us:=λc=>Sls.st hl (ex c) gs λa h z=>z.elim (λq=>t.Kt a q h) λq=>s.v0 (by rw[<- q];exact k a h)
 have nF:∀{G i:Rg} {d:Hp},Ch T F1 (Wo R L) H G i d->∀a,G a->F2 a\/L a->False:=λc a g f=>by
  rcases c.ye a g with q|q
  ·exact f.elim (t.IZ a q)<|t.Kt a q
  ·exact s.xI a (s.sub a<|f.elim (S a)<|k a) q
 have nR:∀{G i:Rg} {d:Hp},Ch T F1 (Wo R L) H G i d->∀a,L a->¬i a:=λc a h z=>by
  rcases c.AA a z with q|q
  ·exact q.2 h
  ·exact s.xI a (s.sub a<|k a h) q
 have ch:∀{G i:Rg} {d:Hp},Ch T F1 (Wo R L) H G i d->Ch T F R H (λa=>G a\/F2 a\/L a) (λa=>i a\/L a) d:=λc=>#[λb o n m h=>c.keep b o (λz=>n<|O b z) m h,(ex c).new,λa h=>h.elim (λq=>(c.ye a q).elim (λz=>.inl<|O a z) .inr) λq=>.inl<|q.elim (S a)<|k a,λa h n=>.inl<|c.left a ⟨h,λz=>n<|k a z⟩ λz=>n<|O a z];have ae:∀{G i:Rg} {d:Hp},Ch T F1 (Wo R L) H G i d->∀a,F2 a->i a:=λc a f=>c.left a #[s.sub a<|S a f,λz=>t.Ku a f z] λz=>t.IZ a z f
 have af:∀{G i:Rg} {d:Hp},Ch T F1 (Wo R L) H G i d->(∀a,i a->d a≠none)->∀a,i a\/L a->d a≠none:=λc h a z=>z.elim (h a) λq=>by
  cases e:H a with
  |none=>exact io e<|s.xI a<|s.sub a<|k a q
  |some o=>rw[c.keep a o (λz=>t.Kt a z q) (λz=>s.v0<|by rw[<- z];exact k a q) e];simp
 refine#[F1,Wo R L,p,_,_,s1,hw,λx r v M1 N i d q c j n=>?_,λC y r Y i d q c j=>?_]
 ·have U:=nF c;have kl:=A c;have I:=ch c;refine kn x _ v M1 (λa=>N a\/F2 a\/L a) (λa=>i a\/L a) d q #[I.keep,I.AA,λa h=>I.ye a<|h.elim (λz=>.inl<|.inl z) λz=>z.elim (λq=>.inl<|.inr q) .inr,I.left] ⟨km b l N F2 L _ _ d r (Lb.fs M kl j.rel) (fr c) (A c) ⟨λ_=>Iff.rfl,λa m f=>U a (.inr m)<|.inl f,λa m f=>U a (.inr m)<|.inr f,t.Ku⟩,λa h=>h.elim (λz=>.inl<|j.sub a z) λz=>z.elim (λq=>.inl<|ae c a q) .inr,af c j.xI,j.tab,.inl j.wj,λh=>h.elim j.v0 λz=>z.elim (λq=>s.v0<|S T q) λq=>s.v0<|k T q⟩ ⟨Lb.fr J kl n.is,λa m=>.inl<|n.sub a m,λa m z=>z.elim (n.yP a m) λz=>U a (.inl m) z,n.tab⟩
 ·have U:=nF c;have kl:=A c;exact ke C y _ (λa=>Y a\/F2 a\/L a) (λa=>i a\/L a) d q (ch c) #[km b l Y F2 L _ _ d r (Lb.fs M kl j.rel) (fr c) (A c) #[λ_=>Iff.rfl,λa m f=>U a m<|.inl f,λa m f=>U a m<|.inr f,t.Ku],λa h=>h.elim (λz=>.inl<|j.sub a z) λz=>z.elim (λq=>.inl<|ae c a q) .inr,af c j.xI,j.tab,.inl j.wj,λh=>h.elim j.v0 λz=>z.elim (λq=>s.v0<|S T q) λq=>s.v0<|k T q]
def QQ{P j B o:Type}[Sls P][Sls j][Sls B][Ow o]{mrg:B->j->D}{wf:Wf P o j}{F R F1 F2:Rg}{H:Hp}{b:B}{p:P}{σ:St}{r:List V}{Kn:o->D->Prop}{Ke:g9->D->Prop}{Q:VK}
  (s:Std T F R H) (t:DR F F1 F2) (I:rel F1 R H p (r.map some)) (J:rel F2 R H b σ) (M:∀k m n e c d f,rel m c d f (r.map some)->rel n c d k σ->DR e m n->rel e c d (mrg k f) σ)
  (hw:wf p (λx f=>Kn x<|mrg b f) (λC f=>Ke C<|mrg b f))
  (N:∀x i v w u h g,Kn x i->Ch T F R H (λa=>w a\/u a) h g->wz T u h g i σ->Nw T w u h g x v->Q v g)
  (O:∀C y i A h g,Ke C i->Ch T F R H A h g->wz T A h g i σ->E (.ref C) ↑y g):yY T wf r H Q E :=
 EU (Lc:=Unit) (L:=λ_=>False) (l:=()) (us:=[]) (mrg:=λb _ p=>mrg b p) s #[λa=>(t.all a).trans #[λz=>z.elim .inl λq=>.inr<|.inl q,λz=>z.elim .inl λq=>q.elim .inr iO],t.yP,λ_ _ z=>z,λ_ _ z=>z] (Sls.wk I<|Df _ _ _) J ⟨rfl,λ_ z=>z⟩
  (λk _ m n X e c d f S U W G=>M k m n e c d f S U #[λa=>(G.all a).trans #[λz=>z.elim .inl λq=>q.elim .inr λq=>io q<|W.2 a,λz=>z.elim .inl λq=>.inr<|.inl q],G.IZ]) hw N O
def Cw{P i B o r:Type}[Sls P][Sls i][Sls B][Sls o][Ow r][Lb o r i]{j:B->o->i->D}{S:Wf P r i}{U:D->(P->B->o->Prop)->72->Prop}{k:Nat}{Y:List Str}{m:List iV}
 (F:vZ X.prog X.w X.K X.mg X.base (wh X.prog X.w) k f fd Y (yY T S)) (hr:wR k X.A) (hg:Gl X x) (hm:X.mg x=↑(.ref f)) (hk:jv X.K (.ref f)=true) (hb:Binds X.K fd Y []) (hx:Passes (wh X.prog X.w) X E)
 (ha:Li X E T (e::m) j U) (u:(x==66)=false:=by decide) (he:hJ (e::m) X.env=70::hJ m X.env:=by rfl) (z:(jB pos<|hJ m X.env).any (·.1)=false:=by rfl) :
    EO X E T (.Call (.Name x p) (e::m) [] pos) (cC U S j):=by
  refine e1a2 ha λt a1 a2=>?_
  refine#[_,Ue F hr hg hm hk hb .nil hx a1 u he z,λd F' R σ H Kn Ke Q s hw kn Z=>?_]
  refine a2 d F' R σ H _ Ke _ s hw (λp b l vs us F1 F2 L G R' H' q c I tw h1 h2 h3 km=>?_) Z
  rw[lP]
  exact EU I tw h1 h2 h3 km q (λx J v M1 M2 a g M N h n=>kn x J v M1 M2 a g M (Ch.trans s I.tab c N) h n) λC y J O a g M N h=>Z C y J O a g M (Ch.trans s I.tab c N) h
class Obj(τ:Type)[Ow τ](K:hI)(C:g9)(m:Str):Prop where
 ob:∀{F R:Rg} {H:Hp} {x:τ} {v:V},sl F R H x ↑v->∃a dx fs,v=.ref a/\H a=↑(.ins C dx fs)/\fs.lookup m=none
end
section
variable{D PO τ:Type}[Sls D][Sls PO][Ow τ]{α:Type}[Rep α]
def zp{F:Rg}:Ext (λc=>c=a) R H R (upd H a o):=#[λb u n h=>by rw[vo n];exact h,λ_ h=>.inl h]
def Ai{i:Nat}{D0:Type}[Sls D0][A:At i D (OL α) D0][U:Pt i D0 (OL α) D]{F R:Rg}{H:Hp}{d:D}{σ:St}(s:wz T F R H d σ):∃a vs,σ[i]?=↑(some<|.ref a)/\H a=↑(.lst vs)/\Paired (rp R H) (A.get d).l vs /\
  ∀(ys:List α)(us:List V),Paired (rp R H) ys us->Ch T F R H F R (upd H a<|.lst us)/\wz T F R (upd H a<|.lst us) (U.put (A.hole d) #[ys]) σ:=by
 obtain⟨v,F1,F2,h1,h2,⟨a,vs,rfl,h4,h5,h6⟩,h7⟩:=A.take s.rel;have aF:F a:=(h2.all a).mpr<|.inl<|(h4 a).mpr rfl;have aT:a≠T:=λz=>s.v0 (by rw[<- z];exact aF);refine#[a,vs,h1,h5,h6,λys us hp=>?_];have ex:=zp (F:=F) (R:=R) (H:=H) (a:=a) (o:=.lst us);have gs:∀c,c=a->R c:=λc z=>by rw[z];exact s.sub a aF
 have k:∀b u,b≠a->H b=↑u->upd H a (.lst us) b=↑u:=λb u z e=>by rw[vo z];exact e
 refine#[#[λb o n _ e=>k b o (λz=>n<|by rw[z];exact aF) e,λ_ h=>.inl h,λ_ h=>.inl h,λ_ h _=>h],Pt.same (A:=U) (Sls.st h7 ex gs λc z q=>h2.yP c ((h4 c).mpr q) z) h1 h2 #[a,us,rfl,h4,vt,wG (ex.wide gs) hp],s.sub,λc z=>?_,?_,s.wj,s.v0]
 ·by_cases e:c=a
  ·rw[e,vt];simp
  ·rw[vo e];exact s.xI c z
 ·refine e1a2 s.tab λps e t=>?_;exact#[ps,k _ _ (λz=>aT z.symm) e,t]
def xt{x:Str}{e:iV}(i:Nat){p1 p2 p3:Pos}{D0:Type}[Sls D0][A:At i D (OL α) D0][U:Pt i D0 (OL α) D][J:Pj D PO n]{we:Wf D α D}(h:EW X E T e we)
  (hb:∀{t:TA},PA X [e] t->PS X (.Expr (.Call (.Attribute (.Name x p1) "append" p2) [e] [] p3) pos) (Gg<|tBM X.K "list" G9 (vW i) t):=by exact λh=>yV<|Gp j0 lh lj zK (pv _) h) (hs:hJ [e] X.env=70::hJ [] X.env:=by rfl) :
  S1 X E T ms n (.Expr (.Call (.Attribute (.Name x p1) "append" p2) [e] [] p3) pos) (cS we J.pj λ(Kn:D->Prop)(Kr:τ->PO->Prop) y d'=>(A.get d').l.length<hV/\Kn (U.put (A.hole d') #[(A.get d').l++[y]])):=by
 refine e1a2 h λt h1 h2=>?_;refine#[_,hb<|vy h1 vJ hs,λd F R σ H Kn Kr Ke En s hw kn kr ke=>?_];refine e2a4 (Ai (i:=i) s) λa vs g1 g2 g3 _=>?_;refine#[_,g1,.inl #[rfl,vs,wF.of g2],h2 d F R σ H _ _ _ s hw (λy d' v F' R' H' q c s' r=>?_) λC y d' F' R' H' q c s'=>?_]
 ·refine e2a4 (Ai (i:=i) s') λa' UP k1 k2 k3 k4=>?_;rw[g1]at k1;cases k1;obtain⟨c2,s2⟩:=k4 _ _<|yx k3<|.cons r .nil;exact#[a,UP,v,rfl,rfl,k2,by rw[<- Paired.length k3];exact q.1,kn _ F' R' _ σ q.2 (Ch.trans s s'.tab c c2) s2<|Ag.refl _ _]
 ·refine e1a2 (wM (PO:=PO) s') λG g1 g2=>?_;exact ke C y _ G R' H' q (c.less g1) g2
end
def GW(X:Cx)(T:g9)(ms:List Nat)(tg:iV){D D1 α:Type}[Sls D][Sls D1][Rep α](g:D->α->D1):Prop :=
 ∃t,PG X tg t/\∀(d:D)(F R:Rg)(σ:St)(H:Hp)(x:α)(v:V)(Q:St->Hp->Prop),wz T F R H d σ->rp R H x v->(∀F' σ',(∀a,F' a->F a)->wz T F' R H (g d x) σ'->Ag ms σ σ'->Q σ' H)->t v σ H Q
section
variable{D:Type}[Sls D]{α β:Type}[Rep α][Rep β]
def Lj{i:Nat}{τ0 D0 D1:Type}[Ow τ0][Sls D0][Sls D1][A:At i D τ0 D0][U:Pt i D0 α D1]{F R:Rg}{H:Hp}{d:D}{σ:St}{x:α}{v:V}(s:wz T F R H d σ)(r:rp R H x v) :
  ∃F',(∀a,F' a->F a)/\wz T F' R H (U.put (A.hole d) x) (σ.set i<|↑v):=by
 have m:Nw T (λ_=>False) F R H x v:=#[#[λ_ z=>z,v,rfl,r],λ_ z=>z.elim,λ_ z=>z.elim,λz=>z];refine e1a2 (GC (i:=i) s m) λG g1 g2=>?_;exact#[G,λa h=>(g1 a h).elim (λz=>z.elim) id,g2]
def vP{x:Str}(i:Nat){τ0 D0 D1:Type}[Ow τ0][Sls D0][Sls D1][A:At i D τ0 D0][U:Pt i D0 α D1](hp:PG X 101 (Dz i))(hm:i∉ms:=by decide):GW X T ms 101 (λ(d:D)(x:α)=>U.put (A.hole d) x) :=
 #[_,hp,λd F R σ H x v Q s r k=>by
  refine e1a2 (Lj (i:=i) s r) λF' f1 f2=>?_
  exact k F' _ f1 f2 (Ag.set hm)]
def Ea(i j:Nat)[Ow b][Ow c][Sls e][Sls f][Sls g][Sls m][A:At i D b e][U:Pt i e α f][n:At j f c g][o:Pt j g β m](p:PG X q (XA X.K 2<|Gh (Dz i)<|Gh (Dz j) Xz))(t:i∉l)(y:j∉l) :
  GW X T l q (λ(d:D)(x:α×β)=>o.put (n.hole<|U.put (A.hole d) x.1) x.2) :=
 #[_,p,λd F R M H x v Q s r k=>by
  obtain⟨a,u,w,rfl,_,z,B,C⟩:=r;refine e1a2 (Lj (i:=i) s B) λN E G=>?_;refine e1a2 (Lj (i:=j) G C) λI J L=>?_
  exact#[a,[u,w],rfl,zI.of z,rfl,u,[w],rfl,w,[],rfl,rfl,k I _ (λa h=>E a (J a h)) L ((Ag.set t).trans (Ag.set y))]]
end
structure Zx{α:Type}[Rep α](J:It)(xs:List α)(Ps:Rg->Hp->Prop):Prop where
 go:∀{R:Rg} {H:Hp} {i:Nat},Ps R H->i<xs.length->J.go i H
 IY:∀{R:Rg} {H:Hp} {i:Nat} {v:V} {H':Hp},Ps R H->(∀a,R a->H a≠none)->i<xs.length->J.IY i H v H'->(H'=H\/∃p o,H p=none/\H'=upd H p o)/\∃x,xs[i]?=↑x/\rp R H' x v
 stop:∀{R:Rg} {H:Hp},Ps R H->J.stop xs.length H
def IW(X:Cx)(E:XK)(T:g9)(O:List Nat)(P e:iV){D B o:Type}[Sls D][Sls B][Rep o](k:B->List o->D)(w:D->(List o->B->Prop)->72->Prop):Prop :=
 ∃t,PI X P e t/\∀(d:D)(F R:Rg)(l:St)(H:Hp)(s:List o->B->Prop)(u:g9->D->Prop)(v:It->Hp->Prop),wz T F R H d l->w d s u ->
  (∀p b J m j q x f c,s p b->Ch T F R H j f c->Std T j f c->DR j q x->rel x f c b l->Zx J p m->m f c ->
   (∀{G r z:Rg} {A I:Hp},m r A->(∀a,G a->r a)->(∀a,q a->¬G a)->Ext G r A z I->m z I) ->
   (∀L M n g h i,m g h->rel M g h L i->Ag O l i->DR n q M->rel n g h (k L p) i)->v J c) ->
  (∀C y N j f c,u C N->Ch T F R H j f c->wz T j f c N l->E (.ref C) ↑y c)->t l H v
section
variable{D:Type}[Sls D]{α β:Type}[Rep α][Rep β]
def Cy{K:hI}{xs:List α}{vs:List V}:Zx (Zr K a) xs (λR H=>H a=↑(.lst vs)/\Paired (rp R H) xs vs) where
 go:=λ{R H i} p h=>by refine e1a2 (xm (i:=i) (x:=xs[i]) p.2<|by simp[h]) λv e _=>?_;exact#[vs,v,wF.of p.1,e]
 IY:=λ{R H i v H'} p _ hi y=>by obtain⟨e,y⟩:=y;subst e;have y':=y vs<|wF.of p.1;refine e1a2 (xm (i:=i) (x:=xs[i]) p.2<|by simp[hi]) λu e r=>?_;rw[y']at e;cases e;exact#[.inl rfl,_,by simp[hi],r]
 stop:=λ{R H} p=>#[vs,wF.of p.1,by rw[Paired.length p.2];exact hO _]
def wO{w:Wf D (List α) D}(h:EW X E T e w):IW X E T is tg e (λ(b:D)(_:List α)=>b) w:=by refine e1a2 h λt h1 h2=>?_;refine#[_,G4 h1,λd F R σ H Kn Ke Rk s hw kn ke=>h2 d F R σ H _ _ _ s hw (λxs d' v F' R' H' q c s' r=>?_) ke];obtain⟨a,vs,rfl,r1,r2,r3⟩:=r;refine#[a,rfl,#[vs,wF.of r2],kn xs d' _ (λR H=>(H a=↑(.lst vs)/\Paired (rp R H) xs vs)/\¬R a) F' (λ_=>False) F' R' H' q c s'.TZ (two_nil F') s'.rel #[λp=>Cy.go p.1,λp=>Cy.IY p.1,λp=>Cy.stop p.1] #[#[r2,r3],r1] (λp gs nf ex=>?_) λb' G2 W0 Ks QM σ' p h g t=>Sls.fq h<|two_eq t λ_ z=>z];have na:¬_:=λz=>p.2<|gs a z;exact#[#[ex.keep a _ na p.1.1,wG (ex.wide gs) p.1.2],ex.not p.2 p.1.1]
def Hx{x:Str}(i:Nat){B:Type}[Sls B][A:At i D (OL α) B][U:Pt i B (OL α) D](hn:PE X 101 (vW i))(hi:i∈is):IW X E T is tg 101 (λ(b:B)(xs:List α)=>U.put b #[xs]) (λ(d:D)(Kn:List α->B->Prop) _=>Kn (A.get d).l<|A.hole d):=by refine⟨_,G4 hn,λd F R σ H Kn Ke Rk s hw kn ke=>?_⟩;obtain⟨v,F1,F2,h1,h2,⟨a,vs,rfl,h4,h5,h6⟩,h7⟩:=A.take s.rel;refine#[_,h1,a,rfl,#[vs,wF.of h5],kn _ _ _ (λR H=>H a=↑(.lst vs)/\Paired (rp R H) (A.get d).l vs) F F1 F2 R H hw 57 s.TZ h2 h7 Cy #[h5,h6] (λp gs nf ex=>#[ex.keep a _ (nf a<|(h4 a).mpr rfl) p.1,wG (ex.wide gs) p.2]) λb' G2 W0 Ks QM σ' p h g t=>?_];exact Pt.same (A:=U) h (by rw[g.2 i hi];exact h1) t #[a,vs,rfl,h4,p.1,p.2]
noncomputable def zH(a b:Int):List Int:=(iD (b-a).toNat).map λ(i:Nat)=>a+(i:Int)
def xu(a b:Int):(zH a b).length=(b-a).toNat:=by unfold zH;rw[hR,lZ]
def UQ{a b:Int}{i:Nat}(h:i<(b-a).toNat):(zH a b)[i]?=↑(a+(i:Int)):=by unfold zH;rw[jS,uv h];rfl
def GF{lo hi:Int}:Zx (XH lo (hi-lo).toNat) (zH lo hi) (λ_ _=>True) where
 go:=λ{R H i} _ h=>by rw[xu]at h;exact h
 IY:=λ{R H i v H'} _ _ hi y=>by obtain⟨e,y⟩:=y;subst e y;rw[xu]at hi;exact#[.inl rfl,_,UQ hi,rfl]
 stop:=λ{R H} _=>by rw[xu];exact hO _
def xN(m:Gl X "range")(n:X.mg "range"=none)(o:EW X E T a u)(w:hJ [a] X.env=79::hJ [] X.env:=by rfl)(e:hJ [a] X.env=[79]:=by rfl) :
  IW X E T is P (.Call (.Name "range" p) [a] [] pos) (λ(b:D)(_:List Int)=>b) (cK u λk j f=>(-(2 ^ 62)<=j/\j<2 ^ 62)/\k (zH 0 j) f):=by
 refine e1a2 o λt x y=>?_;refine#[_,N0 m n (vy x vJ w) e,λd F R A H k Q S s B C G=>y d F R A H _ _ _ s B (λj f v i I J q c l r=>?_) G];subst r;refine#[j,rfl,q.1.1,q.1.2,?_];have:=C (zH 0 j) f (XH 0 (j-0).toNat) (λ_ _=>True) i (λ_=>False) i I J q.2 c l.TZ (two_nil i) l.rel GF trivial (λ_ _ _ _=>trivial) λU W L M N O p h g t=>Sls.fq h<|two_eq t λ_ z=>z;rw[Int.sub_zero]at this;exact this
def OB(hg:Gl X "range")(hm:X.mg "range"=none)(L:EW X E T a M)(N:EW X E T b O)(m:∀{A:TA},PA X [a,b] A->PI X P (.Call (.Name "range" p) [a,b] [] pos) (WF A))
 (Q:hJ [a,b] X.env=79::hJ [b] X.env:=by rfl) (n:hJ [b] X.env=(false,eval b X.env)::hJ [] X.env:=by rfl) :
    IW X E T is P (.Call (.Name "range" p) [a,b] [] pos) (λ(b:D)(_:List Int)=>b) (cB M O λi B j e=>(-(2 ^ 62)<=i/\i<2 ^ 62/\-(2 ^ 62)<=j/\j<2 ^ 62)/\B (zH i j) e):=by
  obtain⟨t,S,U⟩:=L
  obtain⟨tb,W,Y⟩:=N
  refine#[_,m<|vy S (vy W vJ n) Q,λd F R G H B Ke Rk s Z kn I=>U d F R G H _ _ _ s Z (λi d1 u F1 R1 H1 q1 J o r1=>?_) I]
  refine Y d1 F1 R1 G H1 _ _ _ o q1 (λj e v f w x q c l r=>?_) λC y e f w x k c l=>I C y e f w x k (Ch.trans s o.tab J c) l
  subst r;subst r1
  exact#[i,j,rfl,q.1,kn (zH i j) e (XH i (j-i).toNat) (λ_ _=>True) f (λ_=>False) f w x q.2 (Ch.trans s o.tab J c) l.TZ (two_nil f) l.rel GF trivial (λ_ _ _ _=>trivial) λb' G2 aa ab ae af p h g t=>Sls.fq h<|two_eq t λ_ z=>z]
end
def Hy{α B PO τ:Type}(b:α->B->(B->Prop)->106->88->Prop):List α->B->(B->Prop)->106->88->Prop
 | [],d,Kn,_,_=>Kn d
 |x::xs,d,Kn,Kr,Ke=>b x d (λd'=>Hy b xs d' Kn Kr Ke) Kr Ke
section
variable{D B D1 D2 PO τ α:Type}[Sls D][Sls B][Sls D1][Sls D2][Sls PO][Ow τ][Rep α]
def Ch.big(c:Ch T F R H d e f)(g:∀a,F a->G a):Ch T G R H d e f:=#[λb o n m h=>c.keep b o (λz=>n<|g b z) m h,c.AA,λa h=>(c.ye a h).elim (λz=>.inl<|g a z) .inr,λa h n=>c.left a h λz=>n<|g a z]
def Ch.QR(t:DR F F1 d)(c:Ch T d R H e f g):Ch T F R H (λa=>F1 a\/e a) f g:=#[λb o n m h=>c.keep b o (λz=>n<|(t.all b).mpr<|.inr z) m h,c.AA,λa h=>h.elim (λz=>.inl<|(t.all a).mpr<|.inl z) λz=>(c.ye a z).elim (λz=>.inl<|(t.all a).mpr<|.inr z) .inr,λa h n=>c.left a h λz=>n<|(t.all a).mpr<|.inr z]
def Ch.trans'{j:Rg}{i k:Hp}(s:Std T F R H)(m:TabAt i T)(a:Ch T F R H l p i)(b:Ch T l p i r j k):Ch T F R H r j k:=by
 have f:∀c,¬F c->H c≠none->¬l c:=λc n h z=>by
  rcases a.ye c z with q|q
  ·exact n q
  ·exact h q
 have d:∀c,i c=none->¬(F c)->H c=none:=λc h n=>by
  cases e:H c with
  |none=>rfl
  |some o =>
   have u:c≠T:=λz=>by rw[z]at h;exact zP m h
   rw[a.keep c o n u e]at h;cases h
 refine#[λc o n t h=>b.keep c o (f c n<|by rw[h];simp) t<|a.keep c o n t h,λc h=>?_,λc h=>?_,λc h n=>b.left c (a.left c h n)<|f c n<|s.xI c h]
 ·rcases b.AA c h with q|q
  ·exact a.AA c q
  ·by_cases g:F c
   ·exact .inl<|s.sub c g
   ·exact .inr<|d c q g
 ·rcases b.ye c h with q|q
  ·exact a.ye c q
  ·by_cases g:F c
   ·exact .inl g
   ·exact .inr<|d c q g
def drop_cons{α:Type}{a:List α}{i:Nat}{x:α}(h:a[i]?=↑x):a.drop i=x::a.drop (i+1):=by have b:=(List.getElem?_eq_some_iff.mp h);rw[oA b.1,b.2]
def Ag.sub(a:Ag c d b)(h:∀i∈e,i∈c):Ag e d b:=#[a.1,λi f=>a.2 i<|h i f]
@[reducible] def cF{D B D1 D2 α τ PO:Type}(w:D->(List α->B->Prop)->72->Prop)(v:D1->(D2->Prop)->106->88->Prop)(g:B->α->D1)(k:B->List α->D)(f:D2->B)(j:D->PO):D->(D->Prop)->106->88->Prop:=λd i c a=>w d (λh b=>Hy (λx b e c a=>v (g b x) (λl=>e<|f l) c a) h b (λm=>i<|k m h) c a) λC n=>a C<|j n
def xC{I:B->List α->D}{wi:D->(List α->B->Prop)->72->Prop}{g:B->α->D1}{wb:D1->(D2->Prop)->106->88->Prop}[Gf:Fg D2 B][J:Pj D PO n](dp:T0 PO ms n)(hp:sj 54 X.A X.env X.xe)(hc:X.calm=true)
 (hi:IW X E T is tg iter I wi) (hg:GW X T mb tg g) (hb:SW X E T mb n body wb) (h1:∀i∈ms,i∈mb) (h2:∀i∈is,i∈mb) (hs:∀x,kM iter X.env x=pure x:=by intro _;rfl) :
    S1 X E T ms n (.For tg iter body [] pos) (cF wi wb g I Gf.fg J.pj):=by
  refine e1a2 hi λti i1 i2=>?_
  refine e1a2 hg λaq g1 g2=>?_
  refine e1a2 hb λtb Q b2=>?_
  refine#[_,PP hp hc i1 g1 Q hs,λd F R σ H Kn Kr Ke En s hw kn kr ke=>?_]
  refine i2 d F R σ H _ _ _ s hw (λS b Jt Ps F' U F2 R' H' q c s' tw hr ip ps pk pb=>?_) λC y d' F' R' H' q c s'=>?_
  · -- the an
    refine#[λi m l N=>m=S.length-i/\i<=S.length/\∃Q G r j,Ch T F' R' H' G j N/\Std T G j N/\DR G U r/\rel r j N Q l/\Ps j N/\Ag mb σ l/\Hy (λx b aa Kr Ke=>wb (g b x) (λd2=>aa (Gf.fg d2)) Kr Ke) (S.drop i) Q (λb'=>Kn (I b' S)) Kr Ke,
      #[_,rfl,jl _,b,F',F2,R',Ch.refl _ _ _ _,s',tw,hr,ps,Ag.refl _ _,q],?_]
    rintro i m l N ⟨rfl,hi,Q,G,r,j,c1,O,W,r1,p1,a1,w1⟩
    have cc:=Ch.trans s s'.tab c c1
    by_cases ab:i<S.length
    · refine .inr #[ip.go p1 ab, λae L => ∃b2 G2 ag R2, Ch T F' R' H' G2 R2 L /\ Std T G2 R2 L /\ DR G2 U ag /\ rel ag R2 L b2 ae /\ Ps R2 L /\ Ag mb σ ae /\ Hy (λx b aa Kr Ke => wb (g b x) (λd2 => aa<|Gf.fg d2) Kr Ke) (S.drop<|i+1) b2 (λb' => Kn<|I b' S) Kr Ke, λae L p => #[S.length-(i+1), by omega, rfl, ab, p], λx L y => ?_]
      obtain⟨hH,x',ex,rx⟩:=ip.IY p1 O.xI ab y
      -- the ao af the Y step
      have ai:Ch T G j N G j L/\Std T G j L/\rel r j L Q l/\Ps j L:=by
        rcases hH with e|⟨p,o,hp,e⟩
        · subst e; exact#[Ch.refl _ _ _ _, O, r1, p1]
        · subst e
          have k:∀b u,N b=↑u->upd N p o b=↑u:=λb u e=>by rw[vo<|vC e hp];exact e
          have ex:Ext (λ_=>False) j N j (upd N p o):=#[λb u _ e=>k b u e,λa h=>.inl h]
          refine#[#[λb u _ _ e=>k b u e,λa h=>.inl h,λa h=>.inl h,λa h _=>h],#[O.sub,λa z=>?_,?_,O.wj,O.v0],Sls.st r1 ex (λ_ z=>z.elim)<|λ_ _ z=>z,pk p1 (λ_ z=>z.elim) (λ_ _ z=>z) ex]
          · cases e : N a with
            |none=>exact io e<|O.xI a z
            |some u=>rw[k a u e];simp
          · refine e1a2 O.tab λqs e t => ?_
            exact#[qs,k _ _ e,t]
      obtain⟨c2,M,r2,p2⟩:=ai
      have P:∀a,r a->G a:=λa h=>(W.all a).mpr<|.inr h
      have S2:wz T r j L Q l:=#[r2,λa h=>M.sub a<|P a h,M.xI,M.tab,M.wj,λh=>M.v0<|P T h]
      rw[drop_cons ex]at w1
      refine g2 Q r j l L x' x _ S2 rx λF3 aj f3 S3 a3=>?_
      have ah:=Ch.trans' s' O.tab c1 c2
      have Z:=Ch.trans s s'.tab c ah
      have t3:∀a,U a->F3 a->False:=λa h k=>W.yP a h<|f3 a k
      refine b2 _ F3 j aj L _ Kr Ke _ S3 w1 (λd2 F4 R4 H4 ar q4 c4 f a4=>?_) (λx p' v M1 M2 R4 H4 q4 c4 f n4=>?_) λC y p' F4 R4 H4 q4 c4 f=>?_
      · refine e1a2 (Gf.le f.rel) λF5 f5 r5 => ?_
        have t4:∀a,U a->F4 a->False:=λa h k=>by
          rcases c4.ye a k with z|z
          · exact t3 a h z
          · exact M.xI a (M.sub a<|(W.all a).mpr<|.inl h) z
        have ak:Ch T G j L (λa=>U a\/F5 a) R4 H4:=(Ch.QR (F1:=U) (F:=λa=>U a\/F3 a) #[λ_=>Iff.rfl,t3]<|c4.less f5).big λa h=>h.elim (λz=>(W.all a).mpr<|.inl z) λz=>P a<|f3 a z
        have al:∀a,U a->R4 a:=λa h=>c4.left a (M.sub a<|(W.all a).mpr<|.inl h) λz=>t3 a h z
        refine#[Gf.fg d2,λa=>U a\/F5 a,F5,R4,Ch.trans' s' M.tab ah ak,#[λa h=>h.elim (al a) λz=>f.sub a<|f5 a z,f.xI,f.tab,f.wj,λh=>h.elim (λz=>M.v0<|(W.all T).mpr<|.inl z) λz=>f.v0<|f5 T z],⟨λ_=>Iff.rfl,λa h k=>t4 a h<|f5 a k⟩,r5,?_,(a1.trans a3).trans a4,q4]
        exact pk p2 (G:=λa=>F3 a\/a=T) (λa h=>h.elim (S3.sub a) λz=>by rw[z];exact M.wj) (λa h z=>z.elim (t3 a h) λz=>M.v0<|(W.all T).mpr<|.inl<|by rw[<- z];exact h) c4.ext
      · refine kr x p' v M1 M2 R4 H4 q4 (Ch.trans s M.tab Z<|c4.big λa h => P a<|f3 a h) #[dp.dp ((a1.trans a3).sub h1) f.rel, f.sub, f.xI, f.tab, f.wj, f.v0] n4
      · exact ke C y p' F4 R4 H4 q4 (Ch.trans s M.tab Z<|c4.big λa h => P a<|f3 a h) #[dp.dp ((a1.trans a3).sub h1) f.rel, f.sub, f.xI, f.tab, f.wj, f.v0]
    · have e : i = S.length := by omega
      subst e
      rw[vi]at w1
      exact .inl #[ip.stop p1,kn _ G j N l w1 cc #[pb Q r G j N l p1 r1 (a1.sub h2) W,O.sub,O.xI,O.tab,O.wj,O.v0]<|a1.sub h1]
  · refine e1a2 (wM (PO := PO) s') λG g1 g2 => ?_
    exact ke C y _ G R' H' q (c.less g1) g2
end
end WL
namespace L2
open PySem PySem.Spec PyProof.Rows
section
variable{X:Cx}{elt iter tg:iV}{scope:mF}{cl:List (Str×g9)}{T Fr:List Str}{idx:List Nat}{wi:TI}{pos:Pos}{ifs:List iV}
def DF{pins:List (g9×Obj)}{σ:St}{s2:hW}{H2:Hp}{J:It}{fp:List g9}{it:g9}{tn:Nat->i9->Prop}{E:cr->hW->Prop}{RR:cr->g9->Result->hW->Prop}{P:List V->Hp->Prop}(hcm:X.calm=true)
  (B:zC X scope cl T Fr idx) 
  (I2:Inv X pins σ H2 s2) (Tn:Turn X.prog X.w X.K tg J fp it tn) (st2:tn 0 s2.heap) (f2:∀b∈fp,BS X pins H2 b)
  (hb:∀s₀ H₀ C ex pn,∃(g:TG)(tt:TT)(te:TE),(PG (FO X scope cl (T++Fr) s₀ H₀ C ex pn) tg g/\Yk (FO X scope cl (T++Fr) s₀ H₀ C ex pn) ifs tt/\PE (FO X scope cl (T++Fr) s₀ H₀ C ex pn) elt te)/\∃W:Nat->Nat->List V->St->Hp->Prop,(∃m,W 0 m [] (xT T idx σ) H2)/\∀i m ys σ' H,W i m ys σ' H->(J.stop i H/\P ys H)\/(J.go i H/\ys.length<hV/\∀x H',J.IY i H x H'->g x σ' H' λYA H2=>tt YA H2 λb H3=>if b=true then te YA H3 λy H4=>∃m',m'<m/\W (i+1) m' (ys++[y]) YA H4 else ∃m',m'<m/\W (i+1) m' ys YA H3))
  (hRR:∀(D C:g9)(s':hW)(H':Hp)(ys:List V),H' D=none->P ys H'->Inv X pins σ (upd H' D<|.lst ys) s'->(∃m,s'.heap.Ns C m)->(upd H' D<|.lst ys) C=none->C≠X.env.locals->X.s₀.heap.objs.size<=C->(∀x c,X.env.cells.lookup x=↑c->c≠C)->(∀p∈X.pn++pins,p.1≠C)->RR (.ref D) C (.ok .next) s') :
  ic 54 X.A (newList []) (λacc a2x=>ic 54 X.A (newFunctionEnv scope X.env.globals cl [] X.env.qual none .none ↑X.env) (λcenv a2y =>
   m4 54 X.A (.compStart (.ListComp elt [#[tg,iter,ifs,0]] scope pos) 0 (.ref it) acc { cenv with scope:=pc scope X.env}) (RR acc cenv.locals) a2y) E a2x) E s2:=by
 refine iZ<|wpAny_newFunctionEnv B.B3 (by intro y hy;simp at hy) (λh4 ns4 sb4=>?_) B.kind;have hk3:∀b o,s2.heap.get? b=↑o->(s2.heap.push 82).get? b=↑o:=λb o e=>ce _ e;have oD3:(s2.heap.push 82).get? ⇑s2=some 82:=ik _ rfl;have sz3:(s2.heap.push 82).objs.size=⇑s2+1:=jO _ _;generalize s2.heap.push 82=h3 at ns4 sb4 hk3 oD3 sz3 ⊢;have I3:Inv X pins σ H2 { s2 with heap:=h3}:=I2.kept (t':=s2.toks) hk3;have QS:H2 ⇑s2=none:=I2.wg.fresh<|hO _;have YB:∀b o,h3.get? b=some o->h4.get? b=some o:=λb o e=>sb4.extBut b o (im<|hX e)<|ce _ e;have QT:H2 h3.objs.size=none:=I3.wg.fresh<|hO _;have a0r:⇑s2≠h3.objs.size:=by rw[sz3];exact im<|jK _
 -- facts about D,C,fp in X
 have fD:BS X pins H2 ⇑s2:=I2.G0 (hO _) QS;have fC:BS X pins H2 h3.objs.size:=I3.G0 (hO _) QT
 have JK:∀b∈⇑s2::fp,BS X pins H2 b/\b≠h3.objs.size:=λb zQ=>by
  rcases List.mem_cons.mp zQ with e|e
  ·subst e;exact#[fD,a0r]
  ·refine#[f2 b e,?_];obtain⟨o,ho,_⟩:=Tn.obj 0 _ st2 b e;exact im<|hX<|hk3 b o ho
 -- the a1C context
 generalize Hz:FO X scope cl (T++Fr) { s2 with heap:=h3} H2 h3.objs.size (⇑s2::fp) (X.pn++pins)=X';obtain⟨g,tt,te,⟨hG,hT,hE⟩,W,w0,turn⟩:=hb { s2 with heap:=h3} H2 h3.objs.size (⇑s2::fp) (X.pn++pins);rw[Hz]at hG hT hE
 have ok':X'.Ok:=by
  subst Hz
  exact {
   mod:=I3.ok.mod
   kind:=B.kind
   glob:=I3.ok.glob
   blt:=I3.ok.blt
   above:=hO _
   inj:=λx y c e1 e2=>I3.ok.inj x y c (B.sub x c e1)<|B.sub y c e2
   has:=λx h=>B.has h
   Pw:=λx c h=>by cases h
   hd:=I3.ok.hd
   frames:=I3.ok.frames
   CW:=.inl rfl
   T7:=λb zQ=>#[(JK b zQ).2,λx c e=>(JK b zQ).1.2.2.2.2.1 x c<|B.sub x c e]
   bs:=λb o e=>I3.bs b o e
   Je:=i5 I3.ok.Je I3.sz
   DO:=λb o e zQ=>by
    rcases(JK b zQ).1.2.2.2.1 with z|z
    ·exact I3.ok.DO b o e z
    ·exact io (iz (hX e)<|i5 I3.ok.Je z)<|kf _
   Er:=λb zQ hf=>by
    rcases List.mem_cons.mp (I3.Es b hf) with z|z
    ·exact(JK b zQ).1.2.1 z
    ·exact(JK b zQ).1.2.2.1 z
   zc:=I3.stack
   Kq:=λb zQ=>I3.MF b zQ}
 have xA:X'.A=X.A:=by subst Hz;rfl
 have xp:X'.prog=X.prog:=by subst Hz;rfl
 have xw:X'.w=X.w:=by subst Hz;rfl
 have xK:X'.K=X.K:=by subst Hz;rfl
 have xc:X'.calm=true:=by subst Hz;exact hcm
 have xe:X'.env=t6 scope cl h3.objs.size X.env:=by subst Hz;rfl
 have I4:Inv X' [] (xT T idx σ) H2 { s2 with heap:=h4}:=by
  have hN:X'.N=T++Fr:=by subst Hz;rfl
  refine#[ok',by subst Hz;rfl,I3.bare,by subst Hz;exact Un.kept YB,?_,?_,by subst Hz;exact QT,?_,?_,?_,?_]
  ·obtain⟨m,hn,hl⟩:=I3.loc;refine#[_,by rw[xe];exact ns4,λi x v e1 e2 e3=>?_];rw[hN]at e1;unfold xT at e2;by_cases hi:i<T.length
   ·rw[mw (by rw[hR];exact hi),jS,jJ hi]at e2;cases e2
   ·rw[jP q0a]at e1;rw[jP (by rw[hR];lia),hR,jS]at e2;obtain⟨i0,c,q1,q2,q3,q4,q5⟩:=B.fr _ x e1;rw[q1]at e2;have e2':(σ[i0]?).join=↑v:=ja e2
    have a2z:σ[i0]?=↑(some v):=by
     cases z:σ[i0]? with
     |none=>rw[z]at e2';cases e2'
     |some y=>rw[z]at e2';have:y=↑v:=e2';rw[this]
    obtain⟨u,r,l⟩:=hl i0 x v q2 a2z (by
     rcases q3 with z|z
     ·exact .inr<|.inl z
     ·exact .inr (.inr z))
    refine#[u,r,?_];rcases l with⟨k,_⟩|⟨k,c',e,z⟩
    ·rcases q3 with y|y<;>(rw[y]at k;cases k)
    ·have:=B.sub x c q4;rw[e]at this;cases this;refine .inr #[by rw[xe];exact q5,_,by rw[xe];exact q4,?_];obtain⟨o,ho,hd⟩:=z;exact#[o,YB _ _ ho,hd]
  ·intro x c e;rw[xe]at e;obtain⟨v,o,ho,hd⟩:=I3.cell x c<|B.sub x c e;exact#[v,o,YB _ _ ho,hd]
  ·intro x c e;rw[xe]at e;exact I3.yT x c<|B.sub x c e
  ·intro p hp;have hp':p∈X.pn++pins:=by subst Hz;simpa using hp
   obtain⟨a1,a2,a3,a4,a5⟩:=I3.pin p hp';refine#[YB _ _ a1,a2,?_,?_,a5]
   ·rw[xe];exact im<|hX a1
   ·subst Hz;intro hf;rcases List.mem_cons.mp (I3.Es _ hf) with z|z
    ·exact a3 z
    ·exact a4 z
  ·subst Hz;exact I3.wg.kept YB
  ·rw[hN];unfold xT;rw[ij,ij,hR,hR,B.len]
 have oD4:=YB _ _ oD3;have st4:tn 0 h4:=Tn.keep _ _ _ st2 λb _ o e=>YB b o<|hk3 b o e
 -- a2B stays true of the YC objects and of D
 have a0s:∀{H':Hp} {pins':List (g9×Obj)},(∀p∈pins',p.1∉⇑s2::fp)->(∀b∈⇑s2::fp,H' b=none)->∀b∈⇑s2::fp,BS X' pins' H' b:=by
  intro H' pins' hp hn b zQ;subst Hz;obtain⟨⟨z1,z2,z3,z4,z5,z6⟩,z7⟩:=JK b zQ;refine#[hn b zQ,z7,?_,.inl zQ,λx c e=>z5 x c<|B.sub x c e,λp hp'=>?_]
  ·intro hf;rcases List.mem_cons.mp (I3.Es b hf) with z|z
   ·exact z2 z
   ·exact z3 z
  ·rcases List.mem_append.mp hp' with q|q
   ·exact z6 p q
   ·intro e;exact hp p q (by rw[e];exact zQ)
 -- the end
 have fin:∀(s5:hW)(Pz:St)(H5:Hp)(ys:List V)(AD:List cr)(nD:Nat),Inv X' [] Pz H5 s5->(∀b∈⇑s2::fp,H5 b=none)->s5.heap.get? ⇑s2=some 73->Vals ys AD->ys.length<=hV->P ys H5->RR (.ref ⇑s2) h3.objs.size (.ok .next) s5:=by
  intro s5 Pz H5 ys AD nD I5 n5 oD5 v5 l5 q5;have D5:=n5 _ h8;have YD:Un (zU X.stack) (⇑s2::fp) H2 H5 h3 s5.heap:=by have z:=I5.base;subst Hz;exact z
  have C5:H5 h3.objs.size=none:=by have z:=I5.free;rw[xe]at z;exact z
  have a2C:yA X.prog X.w (upd H5 ⇑s2<|.lst ys) s5.heap:=yA.WU (by have z:=I5.wg;rw[xp,xw]at z;exact z) D5 #[l5,AD,nD,v5,oD5]
  have u5:Un (zU X.stack) (⇑s2::fp) H2 (upd H5 ⇑s2<|.lst ys) h3 s5.heap:=by have nD':∀b u,H2 b=some u->b≠⇑s2:=λb u e=>vC e QS;exact#[YD.keep,YD.slot,λb o e n hx=>by rw[vo<|λz=>hx<|by rw[z];exact h8];exact YD.free b o e n hx,YD.there,λb xs e=>by rw[vo<|nD' b _ e];exact YD.Ca b xs e,λb o u e=>by rw[vo<|nD' b _ e];exact YD.BQ b o u e,λb ps e=>by rw[vo<|nD' b _ e];exact YD.BR b ps e]
  have os5:s5.os=s2.os:=by have z:=I5.os;subst Hz;exact z
  have IX:Inv X pins σ (upd H5 ⇑s2<|.lst ys) s5:=Inv.WB (s:={ s2 with heap:=h3}) I3 os5 u5 a2C I5.bare λb zQ=>by obtain⟨⟨z1,z2,z3,z4,z5,z6⟩,z7⟩:=JK b zQ;exact#[z4,z2,z5,z6]
  obtain⟨m5,ns5,_⟩:=I5.loc;rw[xe]at ns5;refine hRR ⇑s2 h3.objs.size s5 H5 ys D5 q5 IX #[m5,ns5] (by rw[vo<|Ne.symm a0r];exact C5) fC.2.1 (i5 I3.sz<|hO _) fC.2.2.2.2.1 fC.2.2.2.2.2
 obtain⟨m0,w0⟩:=w0
 have loop:m4 54 X.A (.compLoop (.ListComp elt [#[tg,iter,ifs,0]] scope pos) 0 (.ref it) (.ref ⇑s2)<|t6 scope cl h3.objs.size X.env) (RR (.ref ⇑s2) h3.objs.size) { s2 with heap:=h4}:=by
  refine Qw (λn s5=>∃i ys AD nD Pz H5,Inv X' [] Pz H5 s5/\tn i s5.heap/\(∀b∈⇑s2::fp,H5 b=none)/\s5.heap.get? ⇑s2=some 73/\Vals ys AD/\ys.length<=hV/\W i n ys Pz H5) ?_ m0
   #[0,[],[],0,xT T idx σ,H2,I4,st4,λb zQ=>(JK b zQ).1.1,oD4,.nil,jl _,w0]
  rintro n s5 ⟨i,ys,AD,nD,Pz,H5,I5,Py,n5,oD5,v5,l5,w5⟩;have f5:=a0s (pins':=[]) (λp hp=>by cases hp) n5;rcases turn i n ys Pz H5 w5 with⟨stop,q⟩|⟨go,ll,step⟩
  ·have z:=Tn.done X' xp xw xK xc i [] s5 Pz H5 (λ_ _=>False) I5 (λb zQ=>f5 b<|ie _ zQ) Py stop;rw[xA]at z
   -- D is not touched by the end
   have z2:=Tn.done X' xp xw xK xc i [(⇑s2,73)] s5 Pz H5 (λ_ _=>False) (I5.zX λp hp=>by
    obtain rfl:=List.mem_singleton.mp hp;have YE:=f5 _ h8
    exact#[oD5,YE.1,YE.2.1,YE.2.2.1,λv z=>nomatch z]) (λb zQ=>by
     obtain⟨a1,a2,a3,a4,a5,a6⟩:=f5 b<|ie _ zQ;refine⟨a1,a2,a3,a4,a5,λp hp=>?_⟩;rcases List.mem_append.mp hp with y|y
     ·exact a6 p<|i8 _ y
     ·obtain rfl:=List.mem_singleton.mp y;intro e;obtain⟨o,ho,_⟩:=Tn.obj 0 _ st2 b zQ
      exact kf _ (iz (hX ho) (qQ (show ⇑s2=b from e)))) Py stop
   rw[xA]at z2;refine wc z2 λr s6 z9=>e0a2 z9 λhr I6=>?_;subst hr;have p6:=I6.pin _<|iA _<|List.mem_singleton.mpr rfl;exact fin s6 Pz H5 ys AD nD (I6.zX λp hp=>by cases hp) n5 p6.1 v5 l5 q
  ·have YE:=f5 _ h8
   have I5p:=I5.zX (pins':=[(⇑s2,73)]) λp hp=>by obtain rfl:=List.mem_singleton.mp hp;exact#[oD5,YE.1,YE.2.1,YE.2.2.1,λv z=>nomatch z]
   have fpD:∀b∈fp,b≠⇑s2:=λb zQ=>by obtain⟨o,ho,_⟩:=Tn.obj 0 _ st2 b zQ;exact im<|hX ho
   have fpP:∀{H':Hp},(∀b∈fp,H' b=none)->∀b∈fp,BS X' [(⇑s2,73)] H' b:=by
    intro H' hn b zQ;obtain⟨a1,a2,a3,a4,a5,a6⟩:=f5 b<|ie _ zQ;refine⟨hn b zQ,a2,a3,a4,a5,λp hp=>?_⟩;rcases List.mem_append.mp hp with y|y
    ·exact a6 p<|i8 _ y
    ·obtain rfl:=List.mem_singleton.mp y;exact Ne.symm<|fpD b zQ
   have z:=Tn.item X' xp xw xK xc i _ s5 Pz H5 (λ_ _=>False) I5p (fpP λb zQ=>n5 b<|ie _ zQ) Py go;rw[xA]at z;refine wc z λr s6 z9=>e1a2 z9 λu hr h6=>?_;subst hr;refine wc h6 λ_ s7 z9=>e2a5 z9 λx H7 I7 r7 y7 st7 n7=>?_;have I7':=I7.pinned (fpP n7)<|Tn.obj _ _ st7;have xx:X'.xe=λ_ _=>False:=by subst Hz;rfl
   have zG:=hG _ s7 Pz H7 x u _ I7' r7<|step x H7 y7;rw[xp,xw,xA,xe,xx]at zG;refine wc zG λ_ s8 z9=>e2a2 z9 λYF H8 I8 q8=>?_;have zT:=hT _ s8 YF H8 _ I8 q8;rw[xp,xw,xA,xe,xx]at zT;refine wc zT λok s9 z9=>e1a2 z9 λH9 I9 q9=>?_
   -- a2B holds behind the turn
   have behind:∀{H':Hp} {s':hW},Inv X' ([(⇑s2,73)]++Eu fp s7.heap) YF H' s'->s'.heap.get? ⇑s2=some 73/\tn (i+1) s'.heap/\∀b∈⇑s2::fp,H' b=none:=by
    intro H' s' I';have pD:=I'.pin _<|iA _<|i8 _<|List.mem_singleton.mpr rfl;refine⟨pD.1,Tn.keep _ _ _ st7 λb zQ o e=>(I'.pin (b,o)<|iA _<|iA _<|yc zQ e).1,λb zQ=>?_⟩;rcases List.mem_cons.mp zQ with e|e
    ·rw[e];exact pD.2.1
    ·obtain⟨o,e',_⟩:=Tn.obj _ _ st7 b e;exact(I'.pin (b,o)<|iA _<|iA _<|yc e e').2.1
   cases ok with
   |false =>
    rw[ci ig]at q9 ⊢;obtain⟨m',hm,w'⟩:=q9;obtain⟨b1,b2,b3⟩:=behind I9;exact#[m',hm,i+1,ys,AD,nD,YF,H9,I9.zX (λp hp=>by cases hp),b2,b3,b1,v5,l5,w']
   |true =>
    rw[g8 rfl]at q9 ⊢;have zE:=hE _ s9 YF H9 _ I9 q9;rw[xp,xw,xA,xe,xx]at zE;refine wc zE λy s10 z9=>e2a3 z9 λyv H10 I10 r10 z69=>e1a2 z69 λm' hm w'=>?_;obtain⟨b1,b2,b3⟩:=behind I10;have hlen:=v5.length;refine wpAny_list_append_plain (items:=AD.toArray) #[nD,b1] (λh11 a2G a0u=>?_) (by rw[il];lia);obtain⟨nD',o11⟩:=a2G;have a2H:Inv X' [] YF H10 s10:=I10.zX λp hp=>by cases hp
    obtain⟨a1,a2,a3,a4,a5,a6⟩:=a0s (pins':=[]) (λp hp=>by cases hp) b3 _ h8;have I11:Inv X' [] YF H10 { s10 with heap:=h11}:=a2H.turned (t':=s10.toks) (λb o zQ e=>(a0u.2 b zQ).trans e) a1 a2 a4 a5 a6;refine#[m',hm,i+1,ys++[yv],AD++[y],nD',YF,H10,I11,Tn.keep _ _ _ b2 λb zQ o e=>(a0u.2 b<|fpD b zQ).trans e,b3,by simpa using o11,v5.append<|.cons r10 .nil,by rw[ij,iB];lia,w']
 exact codeAny_compStart_list loop<|Tn.self _ 0 _ _ _ st4 loop
def YG(X:Cx)(elt tg:iV)(ifs:List iV)(scope:mF)(cl:List (Str×g9))(T Fr:List Str)(idx:List Nat)(wi:TI):TE:=λl H Q=>wi l H λJ s=>∀a c C j k,∃(g:TG)(n:TT)(o:TE),(PG (FO X scope cl (T++Fr) a c C j k) tg g/\Yk (FO X scope cl (T++Fr) a c C j k) ifs n/\PE (FO X scope cl (T++Fr) a c C j k) elt o)/\∃W:Nat->Nat->List V->St->Hp->Prop,(∃m,W 0 m [] (xT T idx l) s)/\∀i m e f H,W i m e f H ->
 (J.stop i H/\∀p,H p=none->Q (.ref p) (upd H p<|.lst e))\/(J.go i H/\e.length<hV/\∀x q,J.IY i H x q->g x f q λd t=>n d t λb r=>if b=true then o d r λy u=>∃h,h<m/\W (i+1) h (e++[y]) d u else ∃h,h<m/\W (i+1) h e d r)
def QU(c:X.calm=true)(k:PI X tg iter wi)(B:zC X scope cl T Fr idx) 
 (l:∀x,kM iter X.env x=pure x:=by intro _;rfl):PE X (.ListComp elt [#[tg,iter,ifs,0]] scope pos) (YG X elt tg ifs scope cl T Fr idx wi):=by
  intro a s i H Q I h
  rw[eval_ListComp]
  refine pC (use:=none) rfl l B.a0k B.kind B.names<|wc (k a s i H _ I h) λv Y n=>wc n λr Z t=>?_
  obtain⟨it,fp,tn,J,H2,e,u,y,d,z,E⟩:=t
  subst e
  refine DF (RR:=λf C=>compPost 54 X.A X.xe none (EP X a i Q) f C) (P:=λj H=>∀p,H p=none->Q (.ref p) (upd H p<|.lst j)) c B u y d z E ?_
  intro D C F H' j G q L ⟨m,M⟩ N O R S U
  exact#[m,M,λh' W=>#[.ref D,_,L.turned (t':=F.toks) (λb o g e=>(W.2 b g).trans e) N O (.inr R) S U,rfl,q D G]]
def UR(X:Cx)(elt tg:iV)(ifs:List iV)(scope:mF)(cl:List (Str×g9))(T Fr:List Str)(idx:List Nat)(wi:TI)(j:Nat):TS:=λD k H=>wi k H λJ t=>∀a c C l n,∃(g:TG)(o:TT)(q:TE),(PG (FO X scope cl (T++Fr) a c C l n) tg g/\Yk (FO X scope cl (T++Fr) a c C l n) ifs o/\PE (FO X scope cl (T++Fr) a c C l n) elt q)/\∃W:Nat->Nat->List V->St->Hp->Prop,(∃m,W 0 m [] (xT T idx k) t)/\∀i m e f H,W i m e f H ->
 (J.stop i H/\∀p,H p=none->D.nx (k.set j<|some<|.ref p) (upd H p<|.lst e))\/(J.go i H/\e.length<hV/\∀x r,J.IY i H x r->g x f r λd u=>o d u λb s=>if b=true then q d s λy v=>∃h,h<m/\W (i+1) h (e++[y]) d v else ∃h,h<m/\W (i+1) h e d s)
set_option tactic.hygienic true in
def QV{j:Nat}{d:Pos}(O:X.N.Nodup)(R:X.N[j]?=↑y)(u:X.env.scope.names.lookup y=some .local)(g:kj (.ListComp elt [#[tg,iter,ifs,0]] scope pos) (some<|.Name y py) d.line X.env=pure true)
 (i:X.calm=true) (S:PI X tg iter wi) (B:zC X scope cl T Fr idx) 
 (U:∀x,kM iter X.env x=pure x:=by intro _;rfl):PS X (.Assign [.Name y py] (.ListComp elt [#[tg,iter,ifs,0]] scope pos) d) (UR X elt tg ifs scope cl T Fr idx wi j):=by
  intro c s E H D I h
  rw[exec_Assign_Name_used _ _ _ _ g]
  refine am<|nZ<|am ?_
  refine am<|wc (pC (use:=some<|tJ (.Name y py) X.env) (Q:=λ_ f=>SP X c D .next f) rfl U B.a0k B.kind B.names<|wc (S c s E H _ I h) λv s1 W=>wc W λY s2 Z=>?_) λ_ f hq=>ap<|ap hq
  obtain⟨it,fp,tn,J,H2,e,I2,Tn,k,f2,hb⟩:=Z
  subst e
  refine DF (RR:=λl C=>compPost 54 X.A X.xe (some<|tJ (.Name y py) X.env) (λ_ f=>SP X c D .next f) l C) (P:=λF H=>∀p,H p=none->D.nx (E.set j<|some<|.ref p) (upd H p<|.lst F)) i B I2 Tn k f2 hb ?_
  intro G C f H' F hD q IX ⟨m,ns⟩ hC L c2 M c4
  refine wpAny_assign_Name<|Ge IX O R (.inl u) (v:=.ref G) rfl (λs3 I3 z9=>e1a2 z9 λa n ha=>?_)<|.inr u
  have r:C≠a:=by
    rcases ha with z|z
    · rw[z]; exact L
    · exact Ne.symm<|M _ _ z
  exact#[m,ns.sameBut n r,λh' sb=>#[_,_,I3.turned (t':=s3.toks) (λb o t e=>(sb.2 b t).trans e) hC L (.inr c2) M c4,q G hD]]
end
end L2
namespace WL
variable[L2.GX]
open PySem L2
open Rep (rp)
open Ow (sl)
open Sls (rel)
class Pre(k:Nat)(S:Type)[Sls S](Db:outParam Type)[Sls Db] where
 pre:S->Db
 suf:Db->S
 ok:∀{F R:Rg} {H:Hp} {s:S} {σ:St} (τ:St),τ.length=k->rel F R H s σ->rel F R H (pre s) (τ++σ)
 un:∀{F R:Rg} {H:Hp} {d:Db} {σ:St},rel F R H d σ->rel F R H (suf d) (σ.drop k)
 eta:∀d,pre (suf d)=d
 a0v:∀s,suf (pre s)=s
noncomputable instance pre0{S:Type}[Sls S]:Pre 0 S S:=#[id,id,λτ h r=>by rw[List.length_eq_zero_iff.mp h];exact r,λr=>r,λ_=>rfl,λ_=>rfl]
noncomputable instance preS{k:Nat}{S Db:Type}[Sls S][Sls Db][A:Pre k S Db]:Pre (k+1) S (Un×Db):=#[λs=>(#[],A.pre s),λd=>A.suf d.2,λ{F R H s σ} τ h r=>by
  cases τ with
  |nil=>cases h
  |cons v τ'=>exact#[v,τ'++σ,λ_=>False,F,rfl,two_nil F,λ_ z=>z,A.ok τ' (by simpa using h) r],
 λ{F R H d σ} r=>by
  obtain⟨v,σ',F1,F2,rfl,h2,h3,h4⟩:=r
  exact A.un<|Sls.fq h4<|two_eq h2 h3,
 λd=>by
  obtain⟨⟨⟩,d⟩:=d
  rw[A.eta],
 λs=>A.a0v s]
def Cz{α γ S:Type}(b:α->S->(Option γ->S->Prop)->Prop):List α->S->(List γ->S->Prop)->Prop
 | [],s,K=>K [] s
 |x::xs,s,K=>b x s λo s'=>Cz b xs s' λys Ug=>K (o.toList++ys) Ug
def TWs(X:Cx)(T:g9)(a:List iV){D:Type}[Sls D](w:Wf D Bool D):Prop :=
 ∃t,Yk X a t/\∀(d:D)(F R:Rg)(b:St)(H:Hp)(e:Bool->D->Prop)(Q:Bool->Hp->Prop),wz T F R H d b->w d e (λ_ _=>False) ->
  (∀x f g h c,e x f->Ch T F R H g h c->wz T g h c f b->Q x c)->t b H Q
abbrev XF:XK:=λ_ _ _=>False
def tws_nil[Sls D]:TWs X T [] (λ(d:D) a _=>a true d):=#[_,UC,λd F R e H a Q s b c=>c true d F R H b 57 s]
def tws_one{D:Type}[Sls D]{w:Wf D Bool D}(h:TW X XF T c w):TWs X T [c] w:=e1a2 h λt a b=> #[t,UD a,λd F R e H f Q s g i=>b d F R e H f _ Q s g i λ_ _ _ _ _ _ z=>z.elim]
section
variable{D B S B0 Db D1 PO τ α γ:Type}[Sls D][Sls B][Sls S][Sls B0][Sls Db][Sls D1][Sls PO][Ow τ][Rep α][Rep γ]
abbrev stepC(P:Pre k S Db)(a:Fg D1 Db)(g:Db->α->D1)(c:Wf D1 Bool D1)(d:Wf D1 γ D1):α->S->(Option γ->S->Prop)->Prop :=
 λx s K=>c (g (P.pre s) x) (λt b=>if t=true then d b (λy e=>K ↑y<|P.suf<|a.fg e) (λ_ _=>False) else K none (P.suf<|a.fg b)) λ_ _=>False
def GG[P:Pre k S Db][Gf:Fg D1 Db]{g:Db->α->D1}{wt:Wf D1 Bool D1}{we:Wf D1 γ D1}{J:It}{Ps:Rg->Hp->Prop}{L:List α}{F1 Fs Z:Rg}{Q:Hp}{σ:St}{s0:S}{K:List γ->S->Prop}{ag:List V->Hp->Prop}
  (hk:R.length=k) (ao:∀i,k<=i->i<k+idx.length->i∈mb)
  (hG:∀d f C I M,GW (FO X n cl (R++Fr) d f C I M) T mb tg g) (hT:∀d f C I M,TWs (FO X n cl (R++Fr) d f C I M) T aq wt) (hE:∀d f C I M,EW (FO X n cl (R++Fr) d f C I M) XF T ar we)
  (hz:L.length<=hV) (ip:Zx J L Ps) (ps:Ps Z Q) (pk:∀{G Ra Rb:Rg} {Ha Hb:Hp},Ps Ra Ha->(∀a,G a->Ra a)->(∀a,F1 a->¬G a)->Ext G Ra Ha Rb Hb->Ps Rb Hb)
  (s':Std T Fs Z Q) (U:∀a,F1 a->Z a/\¬Fs a/\a≠T) (au:rel Fs Z Q s0 (idx.map λi=>σ[i]?.join)) (hw:Cz (stepC P Gf g wt we) L s0 K)
  (av:∀E N F l r O,K E N->Ch T Fs Z Q F l r->Std T F l r->rel F l r N (idx.map λi=>σ[i]?.join)->Ps l r->Paired (rp l r) E O->ag O r) :
  ∀d f C I M,∃(g:TG)(tt:TT)(te:TE),(PG (FO X n cl (R++Fr) d f C I M) tg g/\Yk (FO X n cl (R++Fr) d f C I M) aq tt/\PE (FO X n cl (R++Fr) d f C I M) ar te)/\∃W:Nat->Nat->List V->St->Hp->Prop,(∃m,W 0 m [] (xT R idx σ) Q)/\∀i m O ah H,W i m O ah H ->
   (J.stop i H/\ag O H)\/(J.go i H/\O.length<hV/\∀x Q,J.IY i H x Q->g x ah Q λs Y=>tt s Y λb H3=>if b=true then te s H3 λy H4=>∃m',m'<m/\W (i+1) m' (O++[y]) s H4 else ∃m',m'<m/\W (i+1) m' O s H3):=by
 intro d f C I M;refine e1a2 (hG d f C I M) λaw g1 g2=>?_;refine e1a2 (hT d f C I M) λtt t1 t2=>?_;refine e1a2 (hE d f C I M) λte e1 e2=>?_;have aE:(xT R idx σ).length=k+idx.length:=by unfold xT;rw[ij,hR,hR,hk]
 have aa:∀{w:St},Ag mb (xT R idx σ) w->w.drop k=idx.map λi=>σ[i]?.join:=λ{w} a=>by
  apply qK;intro j;rw[uB];by_cases hj:j<idx.length
  ·rw[a.2 (k+j)<|ao _ q0a q0a];unfold xT;rw[jP (by rw[hR,hk];lia),hR,hk,Nat.add_sub_cancel_left]
  ·rw[kU (by have:=a.1;lia),kU<|by rw[hR];lia]
 refine#[aw,tt,te,#[g1,t1,e1],λi m O w r=>m=L.length-i/\i<=L.length/\∃N F l E,Ch T Fs Z Q F l r/\Std T F l r/\rel F l r (P.pre N) w/\Ps l r/\Ag mb (xT R idx σ) w/\Paired (rp l r) E O/\E.length<=i/\Cz (stepC P Gf g wt we) (L.drop i) N (λws s'=>K (E++ws) s'),
  #[_,rfl,jl _,s0,Fs,Z,[],Ch.refl _ _ _ _,s',P.ok _ (by rw[hR,hk]) au,ps,Ag.refl _ _,.nil,jl _,by simpa using hw],?_]
 rintro i m O w r ⟨rfl,hi,N,F,l,E,c1,A,r1,p1,a1,pz,lz,w1⟩;have aG:=Paired.length pz;by_cases ab:i<L.length
 ·refine .inr #[ip.go p1 ab,q0a,λx Y y=>?_];obtain⟨hH,x',ax,rx⟩:=ip.IY p1 A.xI ab y;have ay:∀{G l:Rg} {r:Hp},Ch T Fs Z Q G l r->∀a,F1 a->l a/\¬G a:=λc a h=>#[c.left a (U a h).1 (U a h).2.1,λz=>(c.ye a z).elim (U a h).2.1 λq=>s'.xI a (U a h).1 q]
  have az:Ch T F l r F l Y/\Std T F l Y/\rel F l Y (P.pre N) w/\Ps l Y/\Paired (rp l Y) E O:=by
   rcases hH with e|⟨p,o,hp,e⟩
   ·subst e;exact#[Ch.refl _ _ _ _,A,r1,p1,pz]
   ·subst e;have kk:∀b u,r b=↑u->upd r p o b=↑u:=λb u e=>by rw[vo<|vC e hp];exact e
    have I:Ext (λ_=>False) l r l (upd r p o):=#[λb u _ e=>kk b u e,λa h=>.inl h];refine#[#[λb u _ _ e=>kk b u e,λa h=>.inl h,λa h=>.inl h,λa h _=>h],#[A.sub,λa z=>?_,?_,A.wj,A.v0],Sls.st r1 I (λ_ z=>z.elim)<|λ_ _ z=>z,pk p1 (λ_ z=>z.elim) (λ_ _ z=>z) I,wG (I.wide λ_ z=>z.elim) pz]
    ·cases e:r a with
     |none=>exact io e<|A.xI a z
     |some u=>rw[kk a u e];simp
    ·refine e1a2 A.tab λqs e t=>?_;exact#[qs,kk _ _ e,t]
  obtain⟨c2,S2,r2,p2,ai⟩:=az;have aA:=Ch.trans' s' A.tab c1 c2;rw[drop_cons ax]at w1;refine g2 (P.pre N) F l w Y x' x _ (S2.stt r2) rx λF3 s f3 S3 a3=>?_;have c3:Ch T Fs Z Q F3 l Y:=aA.less f3
  -- aH the block aF on af an item
  have on:∀{d2:D1} {F5 R5:Rg} {H5:Hp} {o:Option γ} {ae:List V},Cz (stepC P Gf g wt we) (L.drop<|i+1) (P.suf<|Gf.fg d2) (λws s'=>K (E++(o.toList++ws)) s')->Ch T F3 l Y F5 R5 H5->wz T F5 R5 H5 d2 s->Paired (rp R5 H5) (E++o.toList) ae->(E++o.toList).length<=i+1 ->
    ∃m',m'<L.length-i/\m'=L.length-(i+1)/\i+1<=L.length/\∃N F l E,Ch T Fs Z Q F l H5/\Std T F l H5/\rel F l H5 (P.pre N) s/\Ps l H5/\Ag mb (xT R idx σ) s/\Paired (rp l H5) E ae/\E.length<=i+1/\Cz (stepC P Gf g wt we) (L.drop<|i+1) N (λws s'=>K (E++ws) s'):=λ{d2 F5 R5 H5 o ae} hw c5 S5 aB aC=>by
   refine e1a2 (Gf.le S5.rel) λF6 f6 r6=>?_;have aD:=Ch.trans' s' S2.tab c3 c5;refine#[L.length-(i+1),q0a,rfl,ab,P.suf<|Gf.fg d2,F6,R5,E++o.toList,aD.less f6,⟨λa h=>S5.sub a<|f6 a h,S5.xI,S5.tab,S5.wj,λh=>S5.v0<|f6 T h⟩,by rw[P.eta];exact r6,?_,a1.trans a3,aB,aC,?_]
   ·refine pk p2 (G:=λa=>F3 a\/a=T) (λa h=>h.elim (S3.sub a) λz=>by rw[z];exact S2.wj) (λa h z=>?_) c5.ext;rcases z with z|z
    ·exact(ay c3 a h).2 z
    ·exact(U a h).2.2 z
   ·simp only[oK];exact hw
  refine t2 _ F3 l s Y _ _ S3 w1 λb d1 F4 R4 H4 q4 c4 S4=>?_
  cases b with
  |false =>
   rw[ci ig];exact on (o:=none) q4 c4 S4 (by simpa using S3.vals c4 ai) (by simp;lia)
  |true =>
   rw[g8 rfl];refine e2 _ F4 R4 s H4 _ _ _ S4 q4 (λy d2 v F5 R5 H5 q5 c5 S5 r5=>?_) λ_ _ _ _ _ _ z=>z.elim;have aj:=Ch.trans S3 S4.tab c4 c5;exact on (o:=↑y) q5 aj S5 (yx (S3.vals aj ai)<|.cons r5 .nil) (by simp;lia)
 ·have e:i=L.length:=by lia
  subst e;rw[vi]at w1;have ak:K (E++[]) N:=w1;rw[lP]at ak;have al:=P.un r1;rw[aa a1,P.a0v]at al;refine .inl #[ip.stop p1,av E N F l r O ak c1 A al p1 pz]
def EX[Se:Sel idx B S B0]{back:B->List α->D}{xs:List α}{Ps:Rg->Hp->Prop}(s':Std T F' R' H')(tw:DR F' F1 F2)(hr:rel F2 R' H' b σ)
 (pb:∀b' G2 W0 Ks QM σ',Ps Ks QM->rel G2 Ks QM b' σ'->Ag is σ σ'->DR W0 F1 G2->rel W0 Ks QM (back b' xs) σ') :
    ∃Fs,Std T Fs R' H'/\(∀a,F1 a->R' a/\¬Fs a/\a≠T)/\rel Fs R' H' (Se.sel b) (idx.map λi=>σ[i]?.join) /\
      ∀{s1:S} {Gs R1:Rg} {H1:Hp},Ch T Fs R' H' Gs R1 H1->Std T Gs R1 H1->rel Gs R1 H1 s1 (idx.map λi=>σ[i]?.join)->Ps R1 H1->∃G,Ch T F' R' H' G R1 H1/\wz T G R1 H1 (back (Se.mrg (Se.rest b) s1) xs) σ:=by
  refine e2a4 (Se.cut hr) λFs F0 t0 h1 h2 hl=>?_
  have iS:∀a,Fs a->F' a:=λa h=>(tw.all a).mpr<|.inr<|(t0.all a).mpr<|.inl h
  have i0:∀a,F0 a->F' a:=λa h=>(tw.all a).mpr<|.inr<|(t0.all a).mpr<|.inr h
  have i1:∀a,F1 a->F' a:=λa h=>(tw.all a).mpr<|.inl h
  have d1S:∀a,F1 a->Fs a->False:=λa h k=>tw.yP a h<|(t0.all a).mpr<|.inl k
  have d10:∀a,F1 a->F0 a->False:=λa h k=>tw.yP a h<|(t0.all a).mpr<|.inr k
  refine#[Fs,#[λa h=>s'.sub a<|iS a h,s'.xI,s'.tab,s'.wj,λh=>s'.v0<|iS T h],λa h=>#[s'.sub a<|i1 a h,d1S a h,λz=>s'.v0<|by rw[<- z];exact i1 a h],h1,λ{s1 Gs R1 H1} c S1 r1 p1=>?_]
  have f0:rel F0 R1 H1 (Se.rest b) σ:=Sls.st h2 c.ext (λa h=>h.elim (λz=>s'.sub a<|iS a z) λz=>by rw[z];exact s'.wj) λa h z=>z.elim (λq=>t0.yP a q h) λq=>s'.v0 (by rw[<- q];exact i0 a h)
  have nG:∀a,Gs a->F1 a\/F0 a->False:=λa g f=>by
    rcases c.ye a g with q|q
    · exact f.elim (λz => d1S a z q) λz => t0.yP a q z
    · exact s'.xI a (s'.sub a<|f.elim (i1 a)<|i0 a) q
  have out:∀a,F1 a\/F0 a->R1 a:=λa f=>c.left a (s'.sub a<|f.elim (i1 a)<|i0 a) λz=>f.elim (λq=>d1S a q z) λq=>t0.yP a z q
  refine#[λa=>F1 a\/Gs a\/F0 a,#[λb o n m h=>c.keep b o (λz=>n<|iS b z) m h,c.AA,λa h=>h.elim (λz=>.inl<|i1 a z) λz=>z.elim (λq=>(c.ye a q).elim (λz=>.inl<|iS a z) .inr) λq=>.inl<|i0 a q,λa h n=>c.left a h λz=>n<|iS a z],pb _ (λa=>Gs a\/F0 a) _ R1 H1 σ p1 (Se.join #[λ_=>Iff.rfl,λa m f=>nG a m<|.inr f] r1 f0 hl) (Ag.refl _ _) ⟨λ_=>Iff.rfl,λa h z=>z.elim (λq=>nG a q<|.inl h) λq=>d10 a h q⟩,λa h=>h.elim (λz=>out a<|.inl z) λz=>z.elim (S1.sub a) λq=>out a<|.inr q,S1.xI,S1.tab,S1.wj,λh=>h.elim (λz=>s'.v0<|i1 T z) λz=>z.elim S1.v0 λq=>s'.v0<|i0 T q]
def wZ[P:Pre k S Db][N:Fg D1 Db][m:Sel idx B S B0]{h:B->List α->D}{v:D->(List α->B->Prop)->72->Prop}{g:Db->α->D1}{w:Wf D1 Bool D1}{y:Wf D1 γ D1}
 (o:X.calm=true) (O:IW X E T is z iter h v) (U:zC X a cl Ts Fr idx) (W:Ts.length=k) (r:∀i,k<=i->i<k+idx.length->i∈mb)
 (Y:∀e f C j l,GW (FO X a cl (Ts++Fr) e f C j l) T mb z g) (Z:∀e f C j l,TWs (FO X a cl (Ts++Fr) e f C j l) T t w) (hE:∀e f C j l,EW (FO X a cl (Ts++Fr) e f C j l) XF T u y)
 (hs:∀x,kM iter X.env x=pure x:=by intro _;rfl) :
    EO X E T (.ListComp u [#[z,iter,t,0]] a pos) (cK v λ(A:OL γ->D->Prop) n b=>n.length<=hV/\Cz (stepC P N g w y) n (m.sel b) λI J=>A #[I]<|h (m.mrg (m.rest b) J) n):=by
  refine e1a2 O λti i1 i2=>?_
  refine#[_,QU o i1 U hs,λd F R σ H A Ke Q s hw kn ke=>?_]
  refine i2 d F R σ H _ _ _ s hw (λn b Jt Ps F' F1 F2 R' H' q c L tw hr ip ps pk pb=>?_) ke
  refine e1a4 (EX (idx:=idx) (Se:=m) L tw hr pb) λFs S0 n0 r0 on=>?_
  refine GG W r Y Z hE q.1 ip ps pk S0 n0 r0 q.2 λzs J Gs R1 H1 I kz c1 S1 r1 p1 pz p hp=>?_
  refine e1a2 (on c1 S1 r1 p1) λG c2 M=>?_
  refine e1a3 (yf M hp pz) λR2 c3 S3 n3=>?_
  exact kn _ _ _ _ G R2 _ kz (Ch.trans s M.tab (Ch.trans s L.tab c c2) c3) S3 n3
def Aj[P:Pre k S Db][Gf:Fg D1 Db][v:Sel idx B S B0](j:Nat){m I J:Type}[Ow m][Sls I][Sls J][A:At j D m I][U:Pt j I (OL γ) J][Jp:Pj D PO n]{h:Pos}{l:B->List α->D}{W:D->(List α->B->Prop)->72->Prop}{g:Db->α->D1}{Y:Wf D1 Bool D1}{Z:Wf D1 γ D1}
 (hN:X.N.Nodup) (hj:X.N[j]?=↑y) (hy:X.env.scope.names.lookup y=some .local) (L:kj (.ListComp o [#[M,iter,r,0]] a pos) (some<|.Name y py) h.line X.env=pure true) (hm:j∉ms)
 (O:X.calm=true) (hi:IW X E T is M iter l W) (Bs:zC X a cl Ts Fr idx) (hk:Ts.length=k) (Q:∀i,k<=i->i<k+idx.length->i∈mb)
 (hG:∀e f C t u,GW (FO X a cl (Ts++Fr) e f C t u) T mb M g) (hT:∀e f C t u,TWs (FO X a cl (Ts++Fr) e f C t u) T r Y) (hE:∀e f C t u,EW (FO X a cl (Ts++Fr) e f C t u) XF T o Z)
 (hs:∀x,kM iter X.env x=pure x:=by intro _;rfl) :
    S1 X E T ms n (.Assign [.Name y py] (.ListComp o [#[M,iter,r,0]] a pos) h) (cS W Jp.pj λ(Kn:J->Prop)(Kr:τ->PO->Prop) w b=>w.length<=hV/\Cz (stepC P Gf g Y Z) w (v.sel b) λys s1=>Kn<|U.put (A.hole<|l (v.mrg (v.rest b) s1) w) #[ys]):=by
  refine e1a2 hi λti i1 i2=>?_
  refine#[_,QV hN hj hy L O i1 Bs hs,λd F R σ H Kn Kr Ke En s hw kn kr ke=>?_]
  refine i2 d F R σ H _ _ _ s hw (λw b Jt Ps F' F1 F2 R' H' q c z tw hr ip ps pk pb=>?_) λC y d' F' R' H' q c z=>?_
  · refine e1a4 (EX (idx := idx) (Se := v) z tw hr pb) λFs S0 n0 r0 on => ?_
    refine GG hk Q hG hT hE q.1 ip ps pk S0 n0 r0 q.2 λzs s1 Gs R1 H1 ys kz c1 S1 r1 p1 pz p hp=>?_
    refine e1a2 (on c1 S1 r1 p1) λG c2 S2=>?_
    refine e1a3 (yf S2 hp pz) λR2 c3 S3 n3=>?_
    refine e1a2 (GC (i:=j) S3 n3) λG2 g2 S4=>?_
    exact kn _ G2 R2 _ _ kz ((Ch.trans s S2.tab (Ch.trans s z.tab c c2) c3).less g2) S4<|Ag.set hm
  · refine e1a2 (wM (PO := PO) z) λG g1 g2 => ?_
    exact ke C y _ G R' H' q (c.less g1) g2
end
def Kp(g:g9)(H a:Hp):Prop:=∀b o,b≠g->H b=↑o->a b=↑o
def Kp.refl(g:g9)(H:Hp):Kp g H H:=λ_ _ _ h=>h
def Kp.trans{d e:Hp}(a:Kp g H d)(b:Kp g d e):Kp g H e:=λc o n h=>b c o n<|a c o n h
def Kp.at:Kp g H (upd H g o):=λb u n e=>by rw[vo n];exact e
def AY(h:H p=none):DQ H (upd H p o):=λb u e=>by rw[vo<|vC e h];exact e
noncomputable def FX(q:g9)(i z s:Int):List V:=[.ref q,.int i,.int z,.int s]
structure DG(H:Hp)(g q:g9)(ns:List Int)(i z s:Int):Prop where
 ob:H g=↑(.lst<|FX q i z s)
 sc:H q=↑(.lst<|ns.map V.int)
 i0:0<=i
 ne:q≠g
def DG.put{i z s:Int}(B:DG H g q b i z s){a z':Int}(h:0<=a):DG (upd H g<|.lst<|FX q a z' s) g q b a z' s:=#[vt,by rw[vo B.ne];exact B.sc,h,B.ne]
def YH(q:g9)(i z s:Int):Ez (FX q i z s) 0=↑(.ref q):=rfl
def QW(q:g9)(i z s:Int):Ez (FX q i z s) 1=↑(.int i):=rfl
def QX(q:g9)(i z s:Int):Ez (FX q i z s) 2=↑(.int z):=rfl
def a2J(q:g9)(i z s:Int):Ez (FX q i z s) 3=↑(.int s):=rfl
def a0x(x:Int):-(2 ^ 64)<x%2147483647/\x%2147483647<2 ^ 64:=by lia
def US{ns:List Int}{i:Int}(b:0<=i)(c:i<(ns.length:Int)):∃n,Ez (ns.map V.int) i=↑(.int n):=by
 have a:i.toNat<ns.length:=by omega
 have e:(ns.map V.int)[i.toNat]?=↑(.int ns[i.toNat]):=by rw[jS,jJ a];rfl
 have:=MS e;rw[show ((i.toNat:Nat):Int)=i by omega]at this;exact#[_,this]
structure Bg where
instance:Ow Bg:=#[λF _ H _ v=>∃g q ns i z s,v=↑(.ref g)/\(∀b,F b↔b=g\/b=q)/\DG H g q ns i z s,
 λ{F G R H R' H' x v} h e s n=>by
  obtain⟨g,q,ns,i,z,s',h1,h2,h3⟩:=h
  exact#[g,q,ns,i,z,s',h1,h2,#[e.keep g _ (n g<|(h2 g).mpr<|.inl rfl) h3.ob,e.keep q _ (n q<|(h2 q).mpr<|.inr rfl) h3.sc,h3.i0,h3.ne]],
 λh e=>by
  obtain⟨g,q,ns,i,z,s',h1,h2,h3⟩:=h
  exact#[g,q,ns,i,z,s',h1,λb=>(e b).symm.trans (h2 b),h3]]
instance:Hs Bg:=#[λz9=>e6a2 z9 λ_ _ _ _ _ _ h _=>#[_,h]]
instance:UN Bg:=#[λh _=>h]
def QY:Sp:=λd H Q _=>∃(g q:g9)(c:List Int)(i z s a:Int),d=[.ref g,.int a]/\DG H g q c i z s/\0<a/\a<1073741824 /\
 ∀b e f r,Kp g H b->DG b g q c e f s->0<=r->r<a->Q (.int r) b
abbrev W4:Bg×Int×Unit->(Int->Bg×Un×Unit->Prop)->(g9->Bg×Un×Unit->Prop)->Prop:=λp a _=>0<p.2.1/\p.2.1<1073741824/\∀r,0<=r->r<p.2.1->a r (#[],#[],())
def W5{K:hI}{k:Nat}(F:vZ P w K b base Qk k f c d g):vZ P w K b base (wh P w) k f c d g :=
 #[F.len,λA a s H args i j Q E l m n o p=>kh (F.run A a s H args i j Q E l m n o p) λr t h=>by
  cases r with
  |error e=>exact iO h
  |ok q =>
   cases q with
   |ret u=>exact h
   |next=>exact iO h
   |brk=>exact iO h
   |cont=>exact iO h]
def a2K:∀{c:List V},List.map some c=[↑a,↑b]->c=[a,b]:=by
 intro c e
 cases c with
 |nil=>cases e
 |cons p r=>cases r with
  |nil=>cases e
  |cons q s=>cases s with
   |nil=>cases e;rfl
   |cons _ _=>cases e
def YI{K:hI}{k:Nat}(F:vZ P w K I base Qk k f J c QY):vZ P w K I base (wh P w) k f J c (yY T W4):=by
 refine(W5 F).imp λL H Q E h=>?_;obtain⟨m,R,p,Kn,Ke,s,⟨M,N,O⟩,S,_⟩:=h;obtain⟨v1,U,X,Y,Z,v,⟨g,q,x,i,z,y,rfl,A,hb⟩,d⟩:=s.rel;obtain⟨v2,aa,F3,F4,e2,t2,⟨n3,u,rfl,r2⟩,e3,n4⟩:=d;subst r2;subst e2 e3
 have ev:L=[.ref g,.int p.2.1]:=by exact a2K Z
 subst ev;have B:m g:=(v.all g).mpr<|.inl<|(A g).mpr<|.inl rfl;have gT:g≠T:=λe=>s.v0 (by rw[<- e];exact B);refine#[g,q,x,i,z,y,p.2.1,rfl,hb,M,N,λC i' z' r j D r0 d=>?_]
 have l:∀a,R a->C a≠none:=λa h=>by
  by_cases e:a=g
  ·rw[e,D.ob];simp
  ·cases G:H a with
   |none=>exact io G<|s.xI a h
   |some o=>rw[j a o e G];simp
 refine S r (#[],#[],()) _ (λ_=>False) m R C (O r r0 d) #[λb o n _ h=>j b o (λe=>n<|by rw[e];exact B) h,λ_ h=>.inl h,λa h=>h.elim (λz=>z.elim) .inl,λ_ h _=>h]
  #[#[_,_,X,Y,rfl,v,#[g,q,x,i',z',y,rfl,A,D],_,_,F3,F4,rfl,t2,n3,rfl,n4],s.sub,l,?_,s.wj,s.v0] #[#[λ_ z=>z,_,rfl,rfl],λ_ z=>z.elim,λ_ z=>z.elim,λz=>z]
 refine e1a2 s.tab λc e t=>?_;exact#[c,j T _ (λe=>gT e.symm) e,t]
structure Fn(K:hI)(mg:Str->Option cr)(x:Str)(st:iH)(ps:List Str)(f:g9)(fd:iW):Prop where
 fn:zj K x x st f fd
 at_:mg x=↑(.ref f)
 bd:Binds K fd ps []
def B9{g:Prop}(h:∀G:Prop,(g->G)->G):g:=h g id
def a2L{a b c d:Type}{P:a×b×c×d->Prop}(h:∀e f g i,P (e,f,g,i)):∀x,P x:=λx=>h x.1 x.2.1 x.2.2.1 x.2.2.2
def a4f{a b c d e f:Type}{P:a×b×c×d×e×f->Prop}(h:∀g i j k l m,P (g,i,j,k,l,m)):∀x,P x:=λx=>h x.1 x.2.1 x.2.2.1 x.2.2.2.1 x.2.2.2.2.1 x.2.2.2.2.2
def a2M{a b c d e:Type}{P:a×b×c×d×e->Prop}(h:∀f g i j k,P (f,g,i,j,k)):∀x,P x:=λx=>h x.1 x.2.1 x.2.2.1 x.2.2.2.1 x.2.2.2.2
def a4g{a b c d e f g:Type}{P:a×b×c×d×e×f×g->Prop}(h:∀i j k l m n o,P (i,j,k,l,m,n,o)):∀x,P x:=λx=>h x.1 x.2.1 x.2.2.1 x.2.2.2.1 x.2.2.2.2.1 x.2.2.2.2.2.1 x.2.2.2.2.2.2
def a0y{a b c d e f g i:Type}{P:a×b×c×d×e×f×g×i->Prop}(h:∀j k l m n o p q,P (j,k,l,m,n,o,p,q)):∀x,P x:=λx=>h x.1 x.2.1 x.2.2.1 x.2.2.2.1 x.2.2.2.2.1 x.2.2.2.2.2.1 x.2.2.2.2.2.2.1 x.2.2.2.2.2.2.2
def YJ{a b c d e f g i j:Type}{P:a×b×c×d×e×f×g×i×j->Prop}(h:∀k l m n o p q r s,P (k,l,m,n,o,p,q,r,s)):∀x,P x:=λx=>h x.1 x.2.1 x.2.2.1 x.2.2.2.1 x.2.2.2.2.1 x.2.2.2.2.2.1 x.2.2.2.2.2.2.1 x.2.2.2.2.2.2.2.1 x.2.2.2.2.2.2.2.2
def QZ{b c d e f g i j k l a:Type}{P:b×c×d×e×f×g×i×j×k×l×a->Prop}(h:∀n o p q r s t u v w m,P (n,o,p,q,r,s,t,u,v,w,m)):∀x,P x:=λx=>h x.1 x.2.1 x.2.2.1 x.2.2.2.1 x.2.2.2.2.1 x.2.2.2.2.2.1 x.2.2.2.2.2.2.1 x.2.2.2.2.2.2.2.1 x.2.2.2.2.2.2.2.2.1 x.2.2.2.2.2.2.2.2.2.1 x.2.2.2.2.2.2.2.2.2.2
def vB{K:hI}{d:Str->Option cr}{k:Nat}{e:List Str}{A c g:Type}[Sls A][Sls c][Ow g]{i j:Wf A g c}(F:vZ P w K d base (wh P w) k f l e (yY T i))(h:∀p a b,j p a b->i p a b):vZ P w K d base (wh P w) k f l e (yY T j) :=
 F.imp λo H Q E m=>e5a3 m λF R p a b s n r=>#[F,R,p,a,b,s,h p a b n,r]
def W6:Passes (wh P w) X XF:=λa b H s e c I h=>by obtain⟨_,_,_,_,_,z⟩:=h;exact z.elim
def lkc{β:Type}{n x:Str}{c c':β}{r:List (Str×β)}(h:kO x ((n,c)::r)=↑c'):(x=n/\c'=c)\/kO x r=↑c':=by
 rw[iT]at h
 cases q:x==n with
 |true=>rw[q]at h;exact .inl #[eq_of_beq q,(ja h).symm]
 |false=>rw[q]at h;exact .inr h
def fc{b:Type}{p:b->Prop}{a:b}{l:List b}(h:p a)(t:∀y∈l,p y):∀y∈a::l,p y:=λy c=>by
 rcases List.mem_cons.mp c with e|e
 ·rw[e];exact h
 ·exact t y e
def wP{k m:Nat}(h:a=(iD m).map (k + ·)):∀i,k<=i->i<k+m->i∈a:=λi b c=>by rw[h];exact List.mem_map.mpr #[i-k,List.mem_range.mpr q0d,q0d]
def a4h{a:Type}{p:a->Prop}:∀y∈([]:List a),p y:=λ_ h=>by cases h
section
variable{D PO τ:Type}[Sls D][Sls PO][Ow τ]{α:Type}[Rep α]
def Lk(d:EW X E T a f):EW X E T (.UnaryOp .USub a pos) (cK f λ(i:Int->D->Prop) x j=>i (-x) j):=by have h:=Ys (c:=λ_=>True) (γ:=Int) (g:=λx:Int=>-x) (e:=.UnaryOp .USub a pos) d (λl b=>WG PR b) λb _ k=>#[_,b,k _ rfl];simp only[true_and]at h;exact h
def Ak(i:Nat)[Sls l][Sls g][Hs τ][A:At i D τ g][J:Pj g PO n](m:PE X (.Name x p) (vW i)):S1 X E T I n (.Return (some<|.Name x p) pos) (λ(d:D)(_:l->Prop)(j:τ->PO->Prop) _=>j (A.get d)<|J.pj<|A.hole d):=by refine⟨_,CY m,λd F R L H M j N O s q P r Q=>?_⟩;refine e3a4 (A.take s.rel) λv t w y c k B=>?_;obtain⟨u,rfl⟩:=Hs.has k;have f:∀a,w a->F a:=λa h=>(c.all a).mpr<|.inr h;refine e1a2 (J.le B) λG e C=>?_;exact#[u,y,r _ _ u t G R H q #[λb o _ _ h=>h,λ_ h=>.inl h,λa h=>.inl<|h.elim (λz=>(c.all a).mpr<|.inl z) λz=>f a<|e a z,λ_ h _=>h] #[C,λa h=>s.sub a<|f a<|e a h,s.xI,s.tab,s.wj,λh=>s.v0<|f T<|e T h] ⟨k,λa h=>s.sub a<|(c.all a).mpr<|.inl h,λa h z=>c.yP a h<|e a z,λh=>s.v0<|(c.all T).mpr<|.inl h⟩]
def UT{N:List iV}{i P PO B A:Type}[Ow i][Sls P][Sls PO][Sls B][Sls A]{G:B->A->PO->D}{we:Wf D i D}{wr:D->(P->B->A->Prop)->72->Prop}
 (ha:EO X E T e we) (hr:Li X E T N G wr) (hs:hJ (e::N) X.env=70::hJ N X.env:=by rfl) :
    Li X E T (e::N) (λ(b:B)(l:A)(p:Un×PO)=>G b l p.2) (cB we wr λx (Kn:i×P->B->A->Prop) p b l=>Kn (x,p) b l):=by
  refine e1a2 ha λta a1 a2=>?_
  refine e1a2 hr λtr b1 b2=>?_
  refine#[_,vy a1 b1 hs,λd F R σ H Kn Ke Q s hw kn ke=>?_]
  refine a2 d F R σ H _ Ke _ s hw (λx d1 u j F1 R1 H1 q1 c1 v g=>?_) ke
  have I:Ch T F R H F1 R1 H1:=c1.less λ_ z=>.inr z
  refine b2 d1 F1 R1 σ H1 _ Ke _ v q1 (λp b l vs us U G2 L o w J q2 O M r h1 h2 hl k=>?_) λC y d' o w J k c s'=>ke C y d' o w J k (Ch.trans s v.tab I c) s'
  -- the new W QR
  have Y:∀a,j a->o a->False:=λa m f=>by
    rcases O.ye a f with q|q
    · exact g.yP a m q
    · exact v.xI a (g.sub a m) q
  have mT:∀a,j a->a≠T:=λa m z=>g.tab (by rw[<- z];exact m)
  have mx:sl j w J x ↑u:=Ow.st g.is O.ext (λa h=>h.elim (v.sub a) λq=>by rw[q];exact v.wj) λa m z=>z.elim (g.yP a m)<|mT a m
  have mR:∀a,j a->w a:=λa m=>O.left a (g.sub a m) λz=>g.yP a m z
  have g1:∀a,U a->o a:=λa h=>(r.all a).mpr<|.inl h
  have g2:∀a,G2 a->o a:=λa h=>(r.all a).mpr<|.inr<|.inl h
  have g3:∀a,L a->o a:=λa h=>(r.all a).mpr<|.inr<|.inr h
  have S:=Ch.trans s v.tab I O
  refine kn (x,p) b l (u::vs) us (λa=>j a\/U a) G2 L (λa=>j a\/o a) w J q2 #[S.keep,S.AA,λa h=>h.elim (λz=>c1.ye a<|.inl z)<|S.ye a,S.left] ⟨λa h=>h.elim (mR a)<|M.sub a,M.xI,M.tab,M.wj,λh=>h.elim g.tab M.v0⟩
    #[λa=>?_,λa m n=>m.elim (λz=>Y a z<|g2 a n) λz=>r.IZ a z n,λa m n=>m.elim (λz=>Y a z<|g3 a n) λz=>r.Kt a z n,r.Ku] #[↑u,vs.map some,j,U,rfl,#[λ_=>Iff.rfl,λa m n=>Y a m<|g1 a n],Ow.wk mx<|Df w L J,h1] h2 hl λb' l' L1 L2 L3 Z aa ab p' h3 h4 h5 t=>?_
  · rw[r.all]
    exact#[λz=>z.elim (λq=>.inl<|.inl q) λz=>z.elim (λq=>.inl<|.inr q) .inr,λz=>z.elim (λz=>z.elim .inl λq=>.inr<|.inl q) λz=>.inr<|.inr z]
  · refine e4a4 h3 λv' ae N1 N2 z1 z2 z3 z4 => ?_
    injection z1 with _ z5
    subst z5
    exact k b' l' L1 L2 L3 Z aa ab p'.2 (Sls.fq z4<|two_eq z2 z3) h4 h5 t
class YK(α:Type)[Rep α](ty:String)(b:outParam Bool):Prop where
 ist:∀{K:hI} {R:Rg} {H:Hp} {x:α} {v:V},rp R H x v->∃t,zB K H v t/\mO K t (.type ty)=↑b
instance:YK Int "int" true:=#[λ{K R H x v} h=>by
 subst h
 exact#[_,zB.int x,by rfl]]
instance:YK Int "bool" false:=#[λ{K R H x v} h=>by
 subst h
 exact#[_,zB.int x,by rfl]]
instance:YK (List α) "list" true:=#[λ{K R H x v} h=>by
 obtain⟨a,vs,rfl,_,h3,_⟩:=h
 exact#[_,zB.lst h3,by rfl]]
def y9{b:Bool}[YK α ty b]{h:Wf D α D}(k:Gl X "isinstance")(l:X.mg "isinstance"=none)(c:PE X (.Name x q) (tC<|.ty ty))(m:EW X E T a h)
 (i:hJ [a,.Name x q] X.env=79::hJ [.Name x q] X.env:=by rfl) (e:hJ [.Name x q] X.env=(false,eval (.Name x q) X.env)::hJ [] X.env:=by rfl) (f:(jB pos<|hJ [.Name x q] X.env).any (·.1)=false:=by rfl) :
    EW X E T (.Call (.Name "isinstance" p) [a,.Name x q] [] pos) (cK h λ(j:Bool->D->Prop) _ g=>j b g):=by
  refine e1a2 m λP n o=>?_
  refine#[_,wT JC k l qj (vy n (vy c vJ e) i) (he:=i) (hpl:=f),λd F R r H j v Q s w z A=>o d F R r H _ v _ s w (λy g u B C G I J L M=>?_) A]
  refine e1a2 (YK.ist (ty:=ty) (K:=X.K) M) λt N O=>?_
  exact#[u,ty,t,b,rfl,N,O,z _ g _ B C G I J L rfl]
end
end WL
namespace ZT
open PySem PySem.Spec PyProof.Rows
def EY{i:Nat}(a:s.heap.IsTupleIter b t i)(h:s.heap.IsTuple t j)(k:j[i]?=↑x)
 (l:∀e,e.IsTupleIter b t (i+1)->jj b s.heap e->Q x { s with heap:=e}):ic (ii g w) A (jC<|.ref b) Q E s:=by
  obtain⟨o,d,n,c⟩:=id a;obtain⟨p,q,_,m,r⟩:=h;unfold jC
  refine am<|wpAny_callSpecial?_slot (name:=my "__next__") a.typeIs mz<|jg mz a.typeIs sJ ?_<|sv _
  show ic _ _ (uJ (.ref b) 0 >>= _) _ _ s;refine am<|jp d c (x:=.ref t) rfl ?_
  show ic _ _ (uJ (.ref b) 1 >>= _) _ _ s;refine am<|jp d c (x:=.int i 0) rfl ?_
  show ic _ _ (seqItems? (.ref t) >>= _) _ _ s;refine am<|lO q r ?_;simp only[l8,k]
  have f:Heap.IsTupleIter (s.heap.update b λu=>u.mapFields (·.setIfInBounds 1 (ml<|(i:Int)+1))) b t (i+1):=#[_,jd _ d<|Obj.isFreed_of_fields<|Obj.data_mapFields c _,(Obj.cls_mapFields ..).trans n,by rw[Obj.data_mapFields c];simp[ml]]
  exact am<|nK d c q0o<|ap #[x,rfl,ap<|l _ f<|oU ..]
def M8{i:Nat}(h:A.handled=none)(b:s.heap.IsTupleIter c t i)(k:s.heap.IsTuple t l)(n:l[i]?=none)
 (q:∀d e,Heap.ExtBut c s.heap d->(∃o,d.get? e=↑o/\o.cls=.type "StopIteration")->E (.ref e) { s with heap:=d}):ic (ii j w) A (jC<|.ref c) Q E s:=by
  obtain⟨o,f,v,g⟩:=id b;obtain⟨p,r,_,m,u⟩:=k;unfold jC
  refine am<|wpAny_callSpecial?_slot (name:=my "__next__") b.typeIs mz<|jg mz b.typeIs sJ ?_<|sv _
  show ic _ _ (uJ (.ref c) 0 >>= _) _ _ s;refine am<|jp f g (x:=.ref t) rfl ?_
  show ic _ _ (uJ (.ref c) 1 >>= _) _ _ s;refine am<|jp f g (x:=.int i 0) rfl ?_
  show ic _ _ (seqItems? (.ref t) >>= _) _ _ s;refine am<|lO r u ?_;simp only[l8,n]
  refine am<|mG<|am<|nK f g q0o ?_;show ic _ _ (newExc (.type "StopIteration") [] >>= _) _ _ _
  refine am ?_;simp only[newExc,newTuple];refine am<|iZ ?_ (by size_fits)
  refine am (m:=qC _ _)<|ng (a:=Value.none) (by first|rfl|(simp only[qC];rfl))<|iZ ?_ (by size_fits)
  simp only[raiseNew];refine am<|wpAny_handled ?_;first|rw[show A.in1.handled=none from h]|rw[h]
  exact am<|ap<|wpAny_throw<|q _ _ (((oU ..).extBut.push _).push _) #[_,ik _ rfl,rfl]
abbrev ZSt(h:i9)(z c d e g i j:g9)(f:cr)(k:Nat)(l m:Array cr):Prop :=
 sK h z c d f/\qF h c (.ref e) (.ref g)/\(∃a b,qF h d a b)/\h.IsTupleIter e i k/\h.IsTupleIter g j k/\h.IsTuple i l/\h.IsTuple j m
def UU{g d:g9}{k:Nat}{Q:cr->hW->Prop}(D:ZipApart z g d l m H I)(st:ZSt s.heap z g d l m H I .none k xs ys)(hx:xs[k]?=↑x)(hy:ys[k]?=↑y)
 (hQ:∀h,sK h z g d (ml ⇑s)->qF h d x y->h.IsTupleIter l H (k+1)->h.IsTupleIter m I (k+1)->qF h ⇑s x y ->
 (∀c o,c≠z->c≠d->c≠l->c≠m->s.heap.get? c=↑o->h.get? c=↑o)->Q (.ref ⇑s) { s with heap:=h}) :
    ic (ii W w) A (Builtin.«zip.__next__» #[[.ref z],[]]) (λJ s'=>∃v,J=.done (.ret v)/\Q v s') E s:=by
  obtain⟨q,L,⟨a,b,M⟩,h1,h2,N,O⟩:=st
  show ic _ _ (uJ (.ref z) 2 >>= _) _ _ _;refine am<|jp q rfl (x:=.bool false) rfl ?_
  show ic _ _ (uJ (.ref z) 3 >>= _) _ _ _;refine am<|jp q rfl (x:=.ref g) rfl<|am<|lO L rfl ?_
  show ic _ _ (kq (.ref z) >>= _) _ _ _;refine am ?_;unfold kq
  refine am<|jp q rfl (x:=.none) rfl<|ap ?_;simp only[if_true]
  refine am<|mG<|am<|jp q rfl (x:=.ref d) rfl<|am<|kd q q0o λg1 P i=>?_
  replace P:sK g1 z g d .ellipsis:=P;refine am ?_;simp only[vj,List.zipIdx_nil,List.forIn_cons,List.forIn_nil]
  refine am<|am<|pE ?_;show ic _ _ (jC (.ref l) >>= _) _ _ _
  refine am<|EY (h1.extBut i.extBut D.i1z) (N.extBut i.extBut D.l1z) hx λg2 a2 n=>ap ?_
  have X:qF g2 d a b:=n.extBut _ _ D.TOi1<|i.extBut _ _ D.TOz M
  refine am<|lO X rfl<|am<|qG X λg3 R p=>am<|sL<|ap ?_
  replace R:qF g3 d x b:=R
  refine am<|am<|pE ?_;show ic _ _ (jC (.ref m) >>= _) _ _ _
  refine am<|EY (((h2.extBut i.extBut D.i2z).extBut n.extBut D.i12.symm).extBut p.extBut D.TOi2.symm) (((O.extBut i.extBut D.l2z).extBut n.extBut D.l2i1).extBut p.extBut D.l2TO) hy λg4 a4 r=>ap ?_
  have Y:qF g4 d x b:=r.extBut _ _ D.TOi2 R
  refine am<|lO Y rfl<|am<|qG Y λf u t=>am<|sL<|ap<|ap ?_
  replace u:qF f d x y:=u
  refine am<|lO u rfl<|am<|wpAny_newTuple ?_
  have Z:f.objs.size=⇑s:=by rw[t.1,r.1,p.1,n.1,i.1]
  have z5:sK f z g d .ellipsis:=t.extBut _ _ D.TOz.symm<|r.extBut _ _ D.i2z.symm<|p.extBut _ _ D.TOz.symm<|n.extBut _ _ D.i1z.symm P
  have k5:∀c o,c≠z->c≠d->c≠l->c≠m->s.heap.get? c=↑o->f.get? c=↑o:=λc o j B S T e=>t.extBut _ _ B<|r.extBut _ _ T<|p.extBut _ _ B<|n.extBut _ _ S<|i.extBut _ _ j e
  have q1:f.IsTupleIter l H (k+1):=((a2.extBut p.extBut D.TOi1.symm).extBut r.extBut D.i12).extBut t.extBut D.TOi1.symm
  have q2:f.IsTupleIter m I (k+1):=a4.extBut t.extBut D.TOi2.symm
  have lz:z<f.objs.size:=hX z5
  show ic _ _ (oo (.ref z) (.ref f.objs.size) >>= _) _ _ _;refine am ?_;unfold oo
  have z6:sK (f.push { cls:=.type "tuple",data:=.seq #v[x,y]}) z g d .ellipsis:=ce _ z5
  refine am<|kd z6 q0o λg7 U e7=>?_;replace U:sK g7 z g d (ml f.objs.size):=U
  refine kd U q0o λC F e8=>?_;replace F:sK C z g d (ml f.objs.size):=F
  have G:∀c o,c≠z->f.get? c=↑o->C.get? c=↑o:=λc o j e=>e8.extBut _ _ j<|e7.extBut _ _ j<|ce _ e
  have t8:qF C f.objs.size x y:=e8.extBut _ _ (jA lz)<|e7.extBut _ _ (jA lz)<|ik _ rfl
  rw[Z]at F t8;refine ap #[_,rfl,?_];show Q (.ref f.objs.size) _;rw[Z]
  exact hQ C F (G _ _ D.TOz u) (q1.at λo e=>G _ o D.i1z e) (q2.at λo e=>G _ o D.i2z e) t8 λc o j B S T e=>G c o j<|k5 c o j B S T e
def YL{l f:g9}{k:Nat}(O:A.handled=none)(D:ZipApart z l f v y l1 l2)(st:ZSt s.heap z l f v y l1 l2 .none k P R)(m:P[k]?=none\/R[k]?=none)
 (S:∀B e,(∀c o,c≠z->c≠f->c≠v->c≠y->s.heap.get? c=↑o->B.get? c=↑o)->(∃o,B.get? e=↑o/\o.cls=.type "StopIteration")->E (.ref e) { s with heap:=B}) :
    ic (ii T w) A (Builtin.«zip.__next__» #[[.ref z],[]]) Q E s:=by
  obtain⟨n,C,⟨a,b,F⟩,U,h2,p,G⟩:=st
  show ic _ _ (uJ (.ref z) 2 >>= _) _ _ _;refine am<|jp n rfl (x:=.bool false) rfl ?_
  show ic _ _ (uJ (.ref z) 3 >>= _) _ _ _;refine am<|jp n rfl (x:=.ref l) rfl<|am<|lO C rfl ?_
  show ic _ _ (kq (.ref z) >>= _) _ _ _;refine am ?_;unfold kq
  refine am<|jp n rfl (x:=.none) rfl<|ap ?_;simp only[if_true]
  refine am<|mG<|am<|jp n rfl (x:=.ref f) rfl<|am<|kd n q0o λg1 u d=>?_
  replace u:sK g1 z l f .ellipsis:=u;refine am ?_;simp only[vj,List.zipIdx_nil,List.forIn_cons,List.forIn_nil]
  refine am<|am<|pE ?_;show ic _ _ (jC (.ref v) >>= _) _ _ _
  cases H:P[k]? with
  |none =>
    refine am<|M8 O (U.extBut d.extBut D.i1z) (p.extBut d.extBut D.l1z) H λI e g J=>?_;obtain⟨L,i,r⟩:=J
    have W:sK I z l f .ellipsis:=g _ _ D.i1z.symm u
    have M:e≠z:=λq=>by subst q;rw[W]at i;cases i;simp at r
    exact kd W q0o λX _ j=>S X e (λc o t _ N _ q=>j.extBut _ _ t<|g _ _ N<|d.extBut _ _ t q) #[L,j.extBut _ _ M i,r]
  |some x =>
    have hy:R[k]?=none:=by rcases m with h|h;rw[H]at h;cases h;exact h
    refine am<|EY (U.extBut d.extBut D.i1z) (p.extBut d.extBut D.l1z) H λI a2 g=>ap ?_
    have Y:qF I f a b:=g.extBut _ _ D.TOi1<|d.extBut _ _ D.TOz F
    refine am<|lO Y rfl<|am<|qG Y λX p3 j=>am<|sL<|ap ?_
    refine am<|am<|pE ?_;show ic _ _ (jC (.ref y) >>= _) _ _ _
    refine am<|M8 O (((h2.extBut d.extBut D.i2z).extBut g.extBut D.i12.symm).extBut j.extBut D.TOi2.symm) (((G.extBut d.extBut D.l2z).extBut g.extBut D.l2i1).extBut j.extBut D.l2TO) hy λg4 e Z J=>?_
    obtain⟨L,i,r⟩:=J
    have z4:sK g4 z l f .ellipsis:=Z _ _ D.i2z.symm<|j.extBut _ _ D.TOz.symm<|g.extBut _ _ D.i1z.symm u
    have M:e≠z:=λq=>by subst q;rw[z4]at i;cases i;simp at r
    exact kd z4 q0o λg5 _ e5=>S g5 e (λc o t c2 N c4 q=>e5.extBut _ _ t<|Z _ _ c4<|j.extBut _ _ c2<|g.extBut _ _ N<|d.extBut _ _ t q) #[L,e5.extBut _ _ M i,r]
noncomputable abbrev tI(l:g9):Obj:={ cls:=.type "tuple_iterator",data:=.fields #v[.ref l,.int 0 0]}
noncomputable abbrev H1(h:i9)(a:g9):i9:=h.push<|tI a
noncomputable abbrev H2(h:i9)(a b:g9):i9:=(H1 h a).push<|tI b
noncomputable abbrev H3(h:i9)(a b:g9):i9:=(H2 h a b).push { cls:=.type "tuple",data:=.seq #v[.ref h.objs.size,.ref (H1 h a).objs.size]}
noncomputable abbrev H4(h:i9)(a b:g9):i9:=(H3 h a b).push { cls:=.type "tuple",data:=.seq #v[.none,.none]}
noncomputable abbrev H5(h:i9)(a b:g9):i9:=(H4 h a b).push { cls:=.type "zip",data:=.fields #v[.none,.bool false,.bool false,.ref (H2 h a b).objs.size,.ref (H3 h a b).objs.size]}
def made(a b:g9)(c e:Array cr):Meets (Builtin.«zip.__new__» #[[.type "zip",.ref a,.ref b],[]]) (λ_ R s=>s.heap.IsTuple a c/\s.heap.IsTuple b e/\R (.ok<|.ret<|.ref (H4 s.heap a b).objs.size) { s with heap:=H5 s.heap a b}) :=
 .of_wp λf w A R s h=>by
  obtain⟨i,g,d,j,k⟩:=s;obtain⟨m,n,h⟩:=h;have l:=sub_zip;have o:qL (Shared.heap #[i,g,d,j,k]) a c:=m;have p:qL (Shared.heap #[i.push<|tI a,g,d,j,k]) b e:=Heap.IsTuple.push n _
  wp_walk using rq o,rq p
  exact#[_,rfl,h]
def Q0(n:s.heap.IsTuple a p)(q:s.heap.IsTuple b r)
 (h:∀d,ZSt d (⇑s+4) (⇑s+2) (⇑s+3) ⇑s (⇑s+1) a b .none 0 p r->d.objs.size=⇑s+5->(∀c o,s.heap.get? c=↑o->d.get? c=↑o)->Q (.ref<|⇑s+4) { s with heap:=d}) :
    ic (ii t w) A (call (.type "zip") [.ref a,.ref b]) Q E s:=by
  refine callType_new F.called_zip q0q (F.typeCall_zip_2 _ _) (F.newCall_zip_2 _ _) (λf=>F.args_object_init_3 f _ _) F.entry_zip_new (made a b p r) #[n,q,?_]
  have g:(H1 s.heap a).objs.size=⇑s+1:=jO ..
  have i:(H2 s.heap a b).objs.size=⇑s+2:=by rw[jO,g]
  have j:(H3 s.heap a b).objs.size=⇑s+3:=by rw[jO,i]
  have k:(H4 s.heap a b).objs.size=⇑s+4:=by rw[jO,j]
  have z:(H5 s.heap a b).objs.size=⇑s+5:=by rw[jO,k]
  have l:(H5 s.heap a b).get? (H4 s.heap a b).objs.size=↑_:=ik _ rfl
  have u:(H5 s.heap a b).get? (H3 s.heap a b).objs.size=↑_:=ce _<|ik _ rfl
  have v:(H5 s.heap a b).get? (H2 s.heap a b).objs.size=↑_:=ce _<|ce _<|ik _ rfl
  have y:(H5 s.heap a b).get? (H1 s.heap a).objs.size=↑_:=ce _<|ce _<|ce _<|ik _ rfl
  have B:(H5 s.heap a b).get? ⇑s=↑_:=ce _<|ce _<|ce _<|ce _<|ik _ rfl
  have m:∀c o,s.heap.get? c=↑o->(H5 s.heap a b).get? c=↑o:=λc o x=>ce _<|ce _<|ce _<|ce _<|ce _ x
  rw[i,j,k]at l;rw[g,i]at v;rw[j]at u;rw[g]at y;rw[k]
  exact#[#[_,l,rfl],h _ #[l,v,#[_,_,u],#[_,B,rfl,rfl],#[_,y,rfl,rfl],n.at λo e=>m _ o e,q.at λo e=>m _ o e] z m]
def walk(hh:A.handled=none)(z TI TO i1 i2 l1 l2:g9)(D:ZipApart z TI TO i1 i2 l1 l2)(xs ys:Array cr):WalksT prog w A z [z,TI,TO,i1,i2,l1,l2] [z,TO,i1,i2] (min xs.size ys.size)
   (λi vals=>∃x y,xs[i]?=↑x/\ys[i]?=↑y/\vals=#v[x,y]) (λi h=>ZSt h z TI TO i1 i2 l1 l2 .none i xs ys)
   (λi T h=>ZSt h z TI TO i1 i2 l1 l2 (ml T) (i+1) xs ys/\T≠z/\T≠TO/\T≠i1/\T≠i2) where
 sub:=λc hc=>by simp only[iK,jx,mH]at hc ⊢;rcases hc with q|q|q|q<;>simp[q]
 frame:=λi h h' st k=>by obtain⟨hz,hTI,⟨a,b,hTO⟩,h1,h2,hl1,hl2⟩:=st;exact#[k z q0o _ hz,k TI q0o _ hTI,#[a,b,k TO q0o _ hTO],h1.at λo e=>k i1 q0o o e,h2.at λo e=>k i2 q0o o e,hl1.at λo e=>k l1 q0o o e,hl2.at λo e=>k l2 q0o o e]
 item:=λi s Q E hi st hQ=>by have ix:i<xs.size:=iz hi<|Nat.min_le_left ..;have iy:i<ys.size:=iz hi<|Nat.min_le_right ..;have hT:s.TypeIs (.ref z) "zip":=⟨_,st.1,rfl⟩;unfold pyNext;refine am<|pB<|wpAny_callSpecial?_slot (name:=my "__next__") hT pW<|jg pW hT F.entry_zip_next (UU D st (jG ix) (jG iy) λh' a1 a2 a3 a4 a5 k=>ap ?_)<|F.args_zip_next_1 _;obtain⟨hz,hTI,⟨a,b,hTO⟩,h1,h2,hl1,hl2⟩:=st;have lt:∀{c o},s.heap.get? c=some o->⇑s≠c:=λe=>jA<|hX e;refine hQ ⇑s #v[xs[i],ys[i]] h' s.toks ⟨_,_,jG ix,jG iy,rfl⟩ (hO _) ⟨_,a5,rfl,_,rfl⟩ ⟨⟨a1,k _ _ D.TIz D.TITO D.TIi1 D.TIi2 hTI,⟨_,_,a2⟩,a3,a4,hl1.at λo e=>k _ o D.l1z D.l1TO D.l1i1 D.l1i2 e,hl2.at λo e=>k _ o D.l2z D.l2TO D.l2i1 D.l2i2 e⟩,lt hz,lt hTO,by obtain⟨_,e,_⟩:=h1;exact lt e,by obtain⟨_,e,_⟩:=h2;exact lt e⟩ ?_;exact λc o hc e=>k c o (λx=>hc<|by simp[x]) (λx=>hc<|by simp[x]) (λx=>hc<|by simp[x]) (λx=>hc<|by simp[x]) e
 go:=λelts k pos i T s Q E hm hQ=>by obtain⟨⟨hz,hTI,⟨a,b,hTO⟩,h1,h2,hl1,hl2⟩,_⟩:=hm;refine wpAny_letOwnedTupleGo_zip hz λh' hz' e=>hQ h' #[hz',e.extBut _ _ D.TIz hTI,#[a,b,e.extBut _ _ D.TOz hTO],h1.extBut e.extBut D.i1z,h2.extBut e.extBut D.i2z,hl1.extBut e.extBut D.l1z,hl2.extBut e.extBut D.l2z] λc o hc q=>e.extBut _ _ (λx=>hc<|by simp[x]) q
 apart:=λi T h hm hT=>by obtain⟨_,t1,t2,t3,t4⟩:=hm;simp only[iK,jx,mH]at hT;rcases hT with q|q|q|q;exact t1 q;exact t2 q;exact t3 q;exact t4 q
 done:=λs Q E st hQ=>by
  have a2O:xs[min xs.size ys.size]?=none\/ys[min xs.size ys.size]?=none:=by
   rcases Nat.le_total xs.size ys.size with h|h
   ·rw[Nat.min_eq_left h];exact .inl<|sW<|hO _
   ·rw[Nat.min_eq_right h];exact .inr<|sW<|hO _
  have hT:s.TypeIs (.ref z) "zip":=#[_,st.1,rfl];unfold pyNext;refine am<|pB<|wpAny_callSpecial?_slot (name:=my "__next__") hT pW<|jg pW hT F.entry_zip_next (YL hh D st a2O λh' e k he=>?_)<|F.args_zip_next_1 _;obtain⟨o,ho,hc⟩:=he;exact am<|mI (T:="StopIteration") (b:=true) ⟨o,ho,hc⟩ isSubtype_stop<|ap<|hQ _ s.toks λc o hc e=>k c o (λx=>hc<|by simp[x]) (λx=>hc<|by simp[x]) (λx=>hc<|by simp[x]) (λx=>hc<|by simp[x]) e
 self:=λi s Q E st hQ=>wpAny_pyIter_zip st.1 hQ
end ZT
namespace L2
open PySem PySem.Spec PyProof.Rows
def a2P:Qx X (zI X.K) P:=#[λ{v J H1 g a b L M x} m N y A B=>by
 obtain⟨n,C,p,O⟩:=m.tuple y;obtain⟨q,D,r,R⟩:=m.tuple A;have h:g.heap.get? P=↑(rC x):=m.wg P _ B;have i:qL g.heap a n.toArray:=p;have j:qL g.heap b q.toArray:=r
 have f:∀(l:g9)(d:Array cr),g.heap.IsTuple l d->l≠P:=λl d s=>e1a3 s λo e c _ z=>by rw[z,h]at e;cases e;cases c
 have k:∀(l:g9)(d:Array cr),g.heap.IsTuple l d->l<⇑g:=λl d s=>e1a2 s λo e _=>hX e;refine#[n,q,C,D,k _ _ i,k _ _ j,f _ _ i,f _ _ j,λQ E F=>ZT.Q0 i j λG t u H=>?_]
 exact F G _ _ (λS I=>(ZT.walk (prog:=X.prog) (w:=X.w) I _ _ _ _ _ _ _ (zipApart_new (k _ _ i) (k _ _ j)) n.toArray q.toArray).toU) t u H]
end L2
namespace HT
variable[L2.GX]
open PySem PySem.Spec PyProof.Rows
def BF{a:Option Int}(b:IsTup s.heap t items)(i:s.heap.IsSliceOf sl k l .none)(m:qy k a)(n:qy l c)
 (hw:xB items.size 0 a=0/\xB items.size items.size c=items.size)(h:Q (.ref t) s):ic (ii j w) A (oE (.ref t)<|.ref sl) Q E s:=by
  refine e1a3 (id i) λo d e p=>?_
  have f:s.TypeIs (.ref sl) "slice":=#[o,d,e]
  unfold oE
  try with_reducible refine iQ ?_
  first|refine am (ap ?_)|skip
  refine am<|wpAny_sequenceKey b.typeIs q0q ?_
  refine am (wpAny_callSpecial?_slot (name:=my "__getitem__") b.typeIs kS
    (jg kS b.typeIs entry_tuple_getitem ?_ (args_tuple_getitem _ _)))
  show ic _ _ (qr (.ref t) >>= _) _ _ s
  refine am<|tupleItemsOf_ b ?_
  refine am<|lA f ?_
  rw[g8 q0q]
  refine am<|zJ i m n ?_
  have g:(((xB items.size 0 a:Nat):Int)==0&&(1:Int)==1&&(xB items.size items.size c-xB items.size 0 a)==items.size)=true:=by
    rw[hw.1,hw.2]
    simp
  show ic _ _ (if (((xB items.size 0 a:Nat):Int)==0&&(1:Int)==1&&(xB items.size items.size c-xB items.size 0 a)==items.size)=true then _ else _) _ _ s
  rw[g8 g]
  refine am<|am<|lA b.typeIs<|ap ?_
  rw[g8 q0q]
  first
    | exact am<|mG<|ap #[_,rfl,ap h]
    | exact am<|mG<|am<|ap<|ap #[_,rfl,ap h]
    | exact am<|am<|mG<|ap<|ap #[_,rfl,ap h]
end HT
namespace L2
variable[L2.GX]
open PySem PySem.Spec PyProof.Rows
def a0E(K:hI):V->Option Int->Option Int->Hp->VK->Prop:=λx c d H Q=>∃a b,x=.ref a/\zI K H a b/\(HT.xB b.length 0 c=0/\HT.xB b.length b.length d=b.length)/\Q (.ref a) H
def UV:WK X (a0E X.K):=by
 intro d s n H x v o p t u w Q I f g i j h;obtain⟨a,k,rfl,l,m,q⟩:=h;cases f;refine e1a3 (I.tuple l) λc r e y=>?_;have b:c.toArray.size=k.length:=by rw[il];exact r.length.symm
 refine#["tuple",_,PyProof.Rows.slot_tuple_getitem.lookup,e.typeIs,?_];exact HT.BF e g i j (by rw[b];exact m) #[.ref a,H,I,rfl,q]
end L2
namespace WL
variable[L2.GX]
open PySem L2
open Rep (rp)
open Ow (sl)
open Sls (rel)
section
variable{D:Type}[Sls D]
def wz.Q1{F R:Rg}{H c:Hp}{d:D}{f:St}(s:wz T F R H d f)(k:∀b o,b≠T->H b=↑o->c b=↑o)(t:TabAt c T):Ch T F R H F R c/\wz T F R c d f:=by
 refine#[#[λb o _ n h=>k b o n h,λ_ h=>.inl h,λ_ h=>.inl h,λ_ h _=>h],Sls.st s.rel (G:=λa=>a=T) #[λb o n h=>k b o n h,λ_ h=>.inl h] (λa h=>by rw[h];exact s.wj)<|λa h z=>s.v0 (by rw[<- z];exact h),s.sub,λa h=>?_,t,s.wj,s.v0];by_cases e:a=T
 ·rw[e];exact zP t
 ·cases q:H a with
  |none=>exact io q<|s.xI a h
  |some o=>rw[k a o e q];simp
def EZ{x:Tp Int}(h:rp R H x v):∃a,v=.ref a/\H a=↑(.tup<|x.l.map V.int):=by refine e2a4 h λa vs e _ h3 h4=>?_;exact#[a,e,by rw[h3,paired_ints h4]]
def E4{x:List Int}(h:rp R H x v):∃a,v=.ref a/\H a=↑(.lst<|x.map V.int):=by refine e2a4 h λa vs e _ h3 h4=>?_;exact#[a,e,by rw[h3,paired_ints h4]]
def Q2(A:EW X E T h B)(G:EW X E T f I)(J:∀{i:TA},PA X [h,f] i->PE X e (a0l X.K T i))
 (L:hJ [h,f] X.env=(false,eval h X.env)::hJ [f] X.env:=by rfl) (j:hJ [f] X.env=(false,eval f X.env)::hJ [] X.env:=by rfl) :
    EW X E T e (cB B I λM (o:Bool->D->Prop) N l=>o (Ae M N) l):=by
  refine e1a2 A λi O P=>?_
  refine e1a2 G λtb S U=>?_
  refine#[_,J<|vy O (vy S vJ j) L,λd F R p H o q Q s W Y r=>?_]
  refine P d F R p H _ q _ s W (λx Z u F1 R1 H1 q1 w g r1=>?_) r
  refine U Z F1 R1 p H1 _ q _ g q1 (λy l v F2 R2 H2 q2 z m r2=>?_) λC y d' F' R' n k c s'=>r C y d' F' R' n k (Ch.trans s g.tab w c) s'
  obtain⟨a,rfl,ha⟩:=E4<|g.val z r1
  obtain⟨b,rfl,hb⟩:=E4 r2
  refine#[a,b,x,y,rfl,wF.of ha,wF.of hb,m.tab,λn k _ t=>?_]
  obtain⟨c3,s3⟩:=m.Q1 k t
  exact Y _ l _ F2 R2 n q2 (Ch.trans s g.tab w<|Ch.trans g m.tab z c3) s3 rfl
def Q3{p q:Wf D (Tp Int) D}(I:EW X E T h p)(J:EW X E T f q)(L:∀{i:TA},PA X [h,f] i->PE X e (Ym X.K T i))
 (M:hJ [h,f] X.env=(false,eval h X.env)::hJ [f] X.env:=by rfl) (j:hJ [f] X.env=(false,eval f X.env)::hJ [] X.env:=by rfl) :
    EW X E T e (cB p q λN (r:Bool->D->Prop) O m=>r (Ae N.l O.l) m):=by
  refine e1a2 I λi P S=>?_
  refine e1a2 J λtb U W=>?_
  refine#[_,L<|vy P (vy U vJ j) M,λd F R w H r z Q s Y Z A=>?_]
  refine S d F R w H _ z _ s Y (λx d1 u F1 R1 H1 q1 B g r1=>?_) A
  refine W d1 F1 R1 w H1 _ z _ g q1 (λy m v F2 R2 H2 q2 G n r2=>?_) λC y d' F' R' o k c s'=>A C y d' F' R' o k (Ch.trans s g.tab B c) s'
  obtain⟨a,rfl,ha⟩:=EZ<|g.val G r1
  obtain⟨b,rfl,hb⟩:=EZ r2
  refine#[a,b,x.l,y.l,rfl,zI.of ha,zI.of hb,n.tab,λo k _ t=>?_]
  obtain⟨c3,s3⟩:=n.Q1 k t
  exact Z _ m _ F2 R2 o q2 (Ch.trans s g.tab B<|Ch.trans g n.tab G c3) s3 rfl
def OC{N O:Option iV}{P:Wf D (Tp Int) D}{S U:Wf D (Option Int) D}(ha:EW X E T a P)(hl:OW X E T N S)(hh:OW X E T O U) :
  EW X E T (.Subscript a (.Slice N O none p2) pos) (λ(d:D)(W:Tp Int->D->Prop) f=>P d (λg r=>S r (λl t=>U t (λh n=>W #[FW g.l l h] n) f) f) f):=by
 refine e1a2 ha λta a1 a2=>?_;refine e1a2 hl λtl l1 l2=>?_;refine e1a2 hh λth h1 h2=>?_;refine#[_,AN (X0.or UV) a1 l1 h1,λd F R v H W f Q s j Y w=>?_];refine a2 d F R v H _ f _ s j (λg r u F1 R1 H1 q1 x i r1=>?_) w;refine l2 r F1 R1 v H1 _ f _ i q1 (λl t F2 R2 H2 q2 Z z=>?_) λC y A B G I k c J=>w C y A B G I k (Ch.trans s i.tab x c) J;refine h2 t F2 R2 v H2 _ f _ z q2 (λh n F3 R3 H3 q3 c3 o=>?_) λC y A B G I k c J=>w C y A B G I k (Ch.trans s i.tab x<|Ch.trans i z.tab Z c) J;have m:=Ch.trans i z.tab Z c3;have r3:=i.val m r1;obtain⟨q,b,rfl,k1,L,M⟩:=id r3;have cc:=Ch.trans s i.tab x m;have le:=Paired.length M;by_cases j:HT.xB b.length 0 l=0/\HT.xB b.length b.length h=b.length
 ·refine .inr #[q,b,rfl,zI.of L,j,?_];refine Y _ n _ F3 R3 H3 q3 cc o #[q,b,rfl,k1,L,?_]
  have e:FW g.l l h=g.l:=by unfold FW;rw[le,j.1,j.2,List.drop_zero,Nat.sub_zero,<- le,vk]
  rw[e];exact M
 ·refine .inl #[q,b,rfl,zI.of L,j,λp hp=>?_];refine e0a3 (o.new (.tup<|Ey b l h) hp) λs4 c4 n4=>?_;exact Y _ n _ F3 R3 _ q3 (Ch.trans s o.tab cc c4) s4 #[p,_,rfl,n4,vt,o.vals c4<|EN M l h]
end
structure SI(w:jf) where
 l:List Int
instance(w:jf):Ow (SI w):=#[λF _ H x v=>∃a ks,v=↑(.ref a)/\(∀b,F b↔b=a)/\H a=↑(xH w a ks)/\ks.Nodup/\(∀k,k∈ks↔k∈x.l)/\x.l.Pairwise (· < ·),
 λh e s n=>by
  refine e2a4 h λa ks h1 h2 h3 h4=>?_
  exact#[a,ks,h1,h2,e.keep a _ (n a<|(h2 a).mpr rfl) h3,h4],
 λh e=>by
  refine e2a4 h λa ks h1 h2 h3 h4=>?_
  exact#[a,ks,h1,λb=>(e b).symm.trans (h2 b),h3,h4]]
noncomputable def FY(k:Int)(l:List Int):List Int:=if k∈l then l else ins k l
noncomputable def Ll(k:Int)(l:List Int):List Int:=l.filter λx=>decide<|x≠k
def wJ{a b:List Int}(c:a.Nodup)(d:b.Nodup)(h:∀k,k∈a↔k∈b):a.Perm b:=(List.perm_ext_iff_of_nodup c d).mpr h
def vS{l:List Int}(h:l.Pairwise (· < ·)):l.Nodup:=h.imp λq=>Int.ne_of_lt q
def M9{l:List Int}(h:l.Pairwise (· < ·)):l.Pairwise (·<=·):=h.imp λq=>Int.le_of_lt q
def W7{l:List Int}(h:l.Pairwise (·<=·))(n:l.Nodup):l.Pairwise (· < ·):=List.Pairwise.imp₂ (λa b (q:a<=b) (n:a≠b)=>by lia) h n
def Al{k:Int}:k∈zD l↔k∈l:=(w8 l).mem_iff
def E5{a:List Int}(n:a.Nodup)(h:∀k,k∈a↔k∈l)(r:l.Pairwise (· < ·)):zD a=l:=yg ((w8 a).trans<|wJ n (vS r) h) (zo a)<|M9 r
set_option tactic.hygienic true in
def CA{k x:Int}:x∈FY k l↔x=k\/x∈l:=by
 unfold FY;split
 ·rename_i h
  exact#[.inr,λz=>z.elim (λe=>by rw[e];exact h) id]
 ·rw[(AX k l).mem_iff,iK]
set_option tactic.hygienic true in
def Eb{k:Int}{l:List Int}(r:l.Pairwise (· < ·)):(FY k l).Pairwise (· < ·):=by
 unfold FY;split
 ·exact r
 ·rename_i h
  exact W7 (Hr k l<|M9 r)<|(AX k l).nodup_iff.mpr<|List.nodup_cons.mpr #[h,vS r]
def AZ{k x:Int}:x∈Ll k l↔x∈l/\x≠k:=by unfold Ll;rw[jX];simp
section
variable{D PO τ:Type}[Sls D][Sls PO][Ow τ]{α:Type}[Rep α]
def UW(j:X.w=w)(l:Gl X "set")(m:X.mg "set"=none):EO X E T (.Call (.Name "set" p) [] [] pos) (λ(d:D)(e:SI w->D->Prop) _=>e #[[]] d):=by
 subst j;refine#[_,KP Oy l m oB,λd F R v H e x Q s n r y=>#[rfl,λp c=>?_]];refine e0a3 (s.new (xH X.w p []) c) λf t g=>?_;have u:¬F p:=λz=>g<|s.sub p z;have i:Ext (λ_=>False) R H (λa=>R a\/a=p) (upd H p<|xH X.w p []):=⟨λb o _ h=>by rw[vo<|vC h c];exact h,λa h=>h.elim .inl λq=>.inr<|by rw[q];exact c⟩;refine r ⟨[]⟩ d _ (λa=>a=p) F (λa=>R a\/a=p) _ n #[t.keep,i.new,λa h=>h.elim (λq=>.inr<|by rw[q];exact c) .inl,λa h _=>.inl h] #[Sls.st s.rel i (λ_ z=>z.elim)<|λ_ _ z=>z,λa h=>.inl<|s.sub a h,λa h=>?_,f.tab,.inl s.wj,s.v0] #[#[p,[],rfl,λb=>Iff.rfl,vt,ol,λ_=>Iff.rfl,iP],λa h=>.inr h,λa h k=>u (by rw[<- h];exact k),λh=>g<|by rw[<- h];exact s.wj];rcases h with h|h
 ·exact f.xI a h
 ·rw[h,vt];simp
def tw_inS(i:Nat)(j:X.w=w)[Sls m][A:At i D (SI w) m](n:EW X E T a o)(q:PE X (.Name x p) (vW i))(r:jh .In (.Name x p)=false) :
  TW X E T (.Compare a [.In] [.Name x p] pos) (cK o λf k c=>f (decide<|k∈(A.get c).l) c):=by
 subst j;refine e1a2 n λY t y=>?_;refine#[_,yw Yo t q r,λd F R z H f B Q s C G I=>y d F R z H _ B _ s C (λk c u J L M N O g P=>?_) I];obtain⟨v,Z,G2,S,h2,⟨b,h,rfl,g2,U,g4,W,g6⟩,_⟩:=A.take g.rel;refine#[_,S,k,b,h,P,rfl,U,_,rfl,?_];have e:decide (k∈h)=decide (k∈(A.get c).l):=by simp only[W]
 rw[e];exact G _ c J L M N O g
def Ec{i:Nat}[Sls x][A:At i D (SI w) x][U:Pt i x (SI w) D](s:wz T F R H d y):∃a g,y[i]?=↑(some<|.ref a)/\H a=↑(xH w a g)/\g.Nodup/\(∀k,k∈g↔k∈(A.get d).l)/\(A.get d).l.Pairwise (· < ·) /\
  ∀(j f:List Int),f.Nodup->(∀k,k∈f↔k∈j)->j.Pairwise (· < ·)->Ch T F R H F R (upd H a<|xH w a f)/\wz T F R (upd H a<|xH w a f) (U.put (A.hole d) #[j]) y:=by
 obtain⟨v,W,X,B,m,⟨a,g,rfl,p,C,E,G,I⟩,J⟩:=A.take s.rel;have r:F a:=(m.all a).mpr<|.inl<|(p a).mpr rfl;have L:a≠T:=λz=>s.v0 (by rw[<- z];exact r);refine#[a,g,B,C,E,G,I,λj f M N O=>?_];have P:=zp (F:=F) (R:=R) (H:=H) (a:=a) (o:=xH w a f);have Q:∀c,c=a->R c:=λc z=>by rw[z];exact s.sub a r
 have k:∀b u,b≠a->H b=↑u->upd H a (xH w a f) b=↑u:=λb u z e=>by rw[vo z];exact e
 refine#[#[λb o n _ e=>k b o (λz=>n<|by rw[z];exact r) e,λ_ h=>.inl h,λ_ h=>.inl h,λ_ h _=>h],Pt.same (A:=U) (Sls.st J P Q λc z q=>m.yP c ((p c).mpr q) z) B m #[a,f,rfl,p,vt,M,N,O],s.sub,λc z=>?_,?_,s.wj,s.v0]
 ·by_cases e:c=a
  ·rw[e,vt];simp
  ·rw[vo e];exact s.xI c z
 ·refine e1a2 s.tab λS e t=>?_;exact#[S,k _ _ (λz=>L z.symm) e,t]
set_option tactic.hygienic true in
def UX(i:Nat)(S:X.w=w)[Sls B][A:At i D (SI w) B][U:Pt i B (SI w) D][J:Pj D PO n](h:EW X E T e W)
 (Y:∀{t:TA},PA X [e] t->PS X (.Expr (.Call (.Attribute (.Name x Z) "add" p2) [e] [] p3) pos) (Gg<|Yp X.w (λx vs H Q=>∃(a:g9)(f:List Int)(k:Int),x=.ref a/\vs=[.int k]/\H a=↑(xH X.w a f)/\f.length+1<=127/\∀b:List Int,b.Nodup->b.Perm (if k∈f then f else k::f)->Q .wV (upd H a<|xH X.w a b)) (vW i) t)) (hs:hJ [e] X.env=70::hJ [] X.env:=by rfl) :
    S1 X E T ms n (.Expr (.Call (.Attribute (.Name x Z) "add" p2) [e] [] p3) pos) (cS W J.pj λ(I:D->Prop)(Kr:τ->PO->Prop) y g=>(A.get g).l.length<127/\I (U.put (A.hole g) #[FY y (A.get g).l])):=by
  subst S
  refine e1a2 h λt h1 h2=>?_
  refine#[_,Y<|vy h1 vJ hs,λd F R L H I Kr Ke En s hw kn kr ke=>?_]
  refine e2a4 (Ec (i:=i) s) λa f j p g3 _=>?_
  refine#[_,j,#[a,f,rfl,p],h2 d F R L H _ _ _ s hw (λy g v M u N q c m r=>?_) λC y g M u N q c m=>?_]
  · obtain⟨a', b, O, k2, k3, o, P, k6⟩ := Ec (i := i) m
    rw[j]at O
    cases O
    subst r
    have aa:b.length=(A.get g).l.length:=(wJ k3 (vS P) o).length_eq
    refine#[a,b,y,rfl,rfl,k2,by have:=q.1;lia,λus nu pu=>?_]
    obtain⟨c2,s2⟩:=k6 (FY y (A.get g).l) us nu (λk=>by
      rw[pu.mem_iff,CA]
      split
      · rename_i hy
        rw[o]
        exact#[.inr,λz=>z.elim (λe=>by rw[e];exact(o y).mp hy) id]
      · rw[iK, o]) (Eb P)
    exact kn _ M u _ L q.2 (Ch.trans s m.tab c c2) s2<|Ag.refl _ _
  · refine e1a2 (wM (PO := PO) m) λG j p => ?_
    exact ke C y _ G u N q (c.less j) p
set_option tactic.hygienic true in
def UY(i:Nat)(W:X.w=w)[Sls B][A:At i D (SI w) B][U:Pt i B (SI w) D][J:Pj D PO n](h:EW X E T e Y)
 (Z:∀{t:TA},PA X [e] t->PS X (.Expr (.Call (.Attribute (.Name x p1) "discard" p2) [e] [] p3) pos) (Gg<|Yp X.w (λx vs H Q=>∃(a:g9)(f:List Int)(k:Int),x=.ref a/\vs=[.int k]/\H a=↑(xH X.w a f)/\∀b:List Int,b.Nodup->(if k∈f then f.Perm (k::b) else b=f)->Q .wV (upd H a<|xH X.w a b)) (vW i) t)) (hs:hJ [e] X.env=70::hJ [] X.env:=by rfl) :
    S1 X E T ms n (.Expr (.Call (.Attribute (.Name x p1) "discard" p2) [e] [] p3) pos) (cS Y J.pj λ(I:D->Prop)(Kr:τ->PO->Prop) y g=>I<|U.put (A.hole g) #[Ll y (A.get g).l]):=by
  subst W
  refine e1a2 h λt h1 h2=>?_
  refine#[_,Z<|vy h1 vJ hs,λd F R L H I Kr Ke En s hw kn kr ke=>?_]
  refine e2a4 (Ec (i:=i) s) λa f j p g3 _=>?_
  refine#[_,j,#[a,f,rfl,p],h2 d F R L H _ _ _ s hw (λy g v M u N q c m r=>?_) λC y g M u N q c m=>?_]
  · obtain⟨a', b, O, k2, k3, k4, k5, k6⟩ := Ec (i := i) m
    rw[j]at O
    cases O
    subst r
    refine#[a,b,y,rfl,rfl,k2,λP nu o=>?_]
    obtain⟨c2,s2⟩:=k6 (Ll y (A.get g).l) P nu (λk=>by
      rw[AZ,<- k4]
      split at o
      · rename_i S
        have nk:y∉P:=(List.nodup_cons.mp<|o.nodup_iff.mp k3).1
        rw[o.mem_iff,iK]
        exact#[λz=>#[.inr z,λe=>nk<|by rw[<- e];exact z],λz=>z.1.elim (λe=>io e z.2) id]
      · rename_i S
        rw[o]
        exact#[λz=>#[z,λe=>S (by rw[<- e];exact z)],λz=>z.1]) (kg _ k5)
    exact kn _ M u _ L q (Ch.trans s m.tab c c2) s2<|Ag.refl _ _
  · refine e1a2 (wM (PO := PO) m) λG j p => ?_
    exact ke C y _ G u N q (c.less j) p
def Lm(i:Nat)(j:X.w=w)[Sls k][A:At i D (SI w) k](m:X.calm=true)(n:Gl X "sorted")(o:X.mg "sorted"=none)(q:PE X (.Name x r) (vW i)) :
  EO X E T (.Call (.Name "sorted" p) [.Name x r] [] pos) (λ(d:D)(b:OL Int->D->Prop) _=>(A.get d).l.length<64/\b #[(A.get d).l] d):=by
 subst j;refine#[_,wT (Cp m) n o kQ<|vy q vJ,λd F R N H b O Q s c t P=>?_];obtain⟨v,S,U,u,W,⟨a,e,rfl,Y,y,f,g,h⟩,Z⟩:=A.take s.rel;have z:e.length=(A.get d).l.length:=(wJ f (vS h) g).length_eq;refine#[_,u,a,e,rfl,y,by have:=c.1;omega,λl ns B C G=>?_];rw[EM C G,E5 f g h];refine e1a3 (yf s B<|yE (R:=R) (H:=H) (A.get d).l) λI J L M=>?_;exact t _ d _ _ F I _ c.2 J L M
def HA{K:hI}{xs:List α}{vs:List V}:Zx (Itt K a) xs (λR H=>H a=↑(.tup vs)/\Paired (rp R H) xs vs) where
 go:=λ{R H i} p h=>by refine e1a2 (xm (i:=i) (x:=xs[i]) p.2<|by simp[h]) λv e _=>?_;exact#[vs,v,zI.of p.1,e]
 IY:=λ{R H i v H'} p _ hi y=>by obtain⟨e,y⟩:=y;subst e;have y':=y vs<|zI.of p.1;refine e1a2 (xm (i:=i) (x:=xs[i]) p.2<|by simp[hi]) λu e r=>?_;rw[y']at e;cases e;exact#[.inl rfl,_,by simp[hi],r]
 stop:=λ{R H} p=>#[vs,zI.of p.1,by rw[Paired.length p.2];exact hO _]
def Q4{w:Wf D (Tp α) D}(h:EW X E T e w):IW X E T is tg e (λ(b:D)(_:List α)=>b) (cK w λKn x d'=>Kn x.l d'):=by refine e1a2 h λt h1 h2=>?_;refine#[_,XI h1,λd F R σ H Kn Ke Rk s hw kn ke=>h2 d F R σ H _ _ _ s hw (λxs d' v F' R' H' q c s' r=>?_) ke];obtain⟨a,vs,rfl,r1,r2,r3⟩:=r;refine#[a,rfl,#[vs,zI.of r2],kn xs.l d' _ (λR H=>(H a=↑(.tup vs)/\Paired (rp R H) xs.l vs)/\¬R a) F' (λ_=>False) F' R' H' q c s'.TZ (two_nil F') s'.rel #[λp=>HA.go p.1,λp=>HA.IY p.1,λp=>HA.stop p.1] #[#[r2,r3],r1] (λp gs nf ex=>?_) λb' G2 W0 Ks QM σ' p h g t=>Sls.fq h<|two_eq t λ_ z=>z];have na:¬_:=λz=>p.2<|gs a z;exact#[#[ex.keep a _ na p.1.1,wG (ex.wide gs) p.1.2],ex.not p.2 p.1.1]
def E6{a:iH}{C:g9}[Sls c][J:Pj D PO n](e:PS X a (QF C E<|BH (tC x) BX)):S1 X E T j n a (λ(d:D)(_:c->Prop)(_:τ->PO->Prop) b=>b C<|J.pj d):=by refine⟨_,e,λd F R k H l m b o s f p q g=>#[(by show 1<=hV;decide),λy=>?_]⟩;refine e1a2 (wM (PO:=PO) s) λG h i=>?_;exact g C y _ G R H f ((57).less h) i
end
def yN(l:List Int):Prop:=l.Pairwise (· < ·)
noncomputable def asc(a:List Int):Bool:=Ae a<|a.drop 1
def a0F(b:List c):FW b ↑1 none=b.drop 1:=by
 unfold FW;rw[HT.Jr,show ↑(1:Int)=some ((1:Nat):Int) from rfl,HT.MN]
 cases b with
 |nil=>rfl
 |cons a r =>
  rw[show min 1 (a::r).length=1 by simp,jH];rw[nw];exact hO _
def Q5{a b:Int}:asc (a::b::r)=(decide (a<b)&&asc (b::r)):=rfl
def By:∀(c:List Int),asc c=true↔yN c
 | []=>#[λ_=>iP,λ_=>rfl]
 | [a]=>#[λ_=>kC _ _,λ_=>rfl]
 |a::b::r=>by
  rw[Q5,iY,i4,By (b::r)];constructor
  ·rintro⟨d,f⟩;refine List.pairwise_cons.mpr #[λx g=>?_,f];rcases List.mem_cons.mp g with e|e
   ·rw[e];exact d
   ·exact Int.lt_trans d<|(List.pairwise_cons.mp f).1 x e
  ·intro h;exact#[(List.pairwise_cons.mp h).1 b h8,(List.pairwise_cons.mp h).2]
def HB(a:yN b)(c:yN d)(h:∀k,k∈b↔k∈d):b=d:=yg (wJ (vS a) (vS c) h) (M9 a)<|M9 c
noncomputable def Lo(l:List Int)(k:Int):List Int:=if k∈l then Ll k l else FY k l
def Na{k:Int}(h:yN l):yN (Lo l k):=by
 unfold Lo;split
 ·exact kg _ h
 ·exact Eb h
set_option tactic.hygienic true in
def UZ{k x:Int}:x∈Lo l k↔((x∈l)↔¬x=k):=by
 unfold Lo;split
 ·rename_i h
  rw[AZ];constructor
  ·intro⟨a,b⟩;exact#[λ_=>b,λ_=>a]
  ·intro z;by_cases e:x=k
   ·rw[e]at z;exact io (z.mp h) q0o
   ·exact#[z.mpr e,e]
 ·rename_i h
  rw[CA];constructor
  ·rintro(a|a)
   ·subst a;exact#[λz=>io z h,λz=>io rfl z]
   ·exact#[λ_ e=>h (by rw[<- e];exact a),λ_=>a]
  ·intro z;by_cases e:x=k
   ·exact .inl e
   ·exact .inr<|z.mpr e
noncomputable def xr(l r:List Int):List Int:=r.foldl Lo l
def A4:∀{r l:List Int},yN l->yN (xr l r)
 | [],_,h=>h
 |_::r,_,h=>A4 (r:=r)<|Na h
def B4:∀{r l:List Int} {x:Int},r.Nodup->(x∈xr l r↔((x∈l)↔¬x∈r))
 | [],l,x,_=>by simp[xr]
 |k::r,l,x,h=>by
  have a:=List.nodup_cons.mp h;show x∈xr (Lo l k) r↔_;rw[B4 a.2,UZ,iK];by_cases e:x=k
  ·subst e;simp[a.1]
  ·simp[e]
def Q6{r:List Int}{x:Int}(a:r.Nodup)(h:x∈xr l r):x∈l\/x∈r:=by
 rw[B4 a]at h;by_cases q:x∈r
 ·exact .inr q
 ·exact .inl<|h.mpr q
noncomputable def PB(a:List (List Int)):List Int:=a.foldl xr []
def CC:∀{rows:List (List Int)} {l:List Int},yN l->yN (rows.foldl xr l)
 | [],_,h=>h
 |_::r,_,h=>CC (rows:=r)<|A4 h
def U0(a:List (List Int)):yN (PB a):=CC iP
def w4{l U:List Int}(h:yN l)(s:∀x∈l,x∈U):l.length<=U.length:=SX.zN _ _ (vS h) s
noncomputable def jn(a b:List Int):List Int:=zD<|a.filter (λk=>!decide (k∈b))++b.filter λk=>!decide (k∈a)
def HC{k:Int}:k∈jn a b↔(k∈a/\k∉b)\/(k∈b/\k∉a):=by unfold jn;rw[Al,lR,jX,jX];simp
def HD(c:yN d)(f:yN g):yN (jn d g):=by refine W7 (zo _)<|(w8 _).nodup_iff.mpr<|List.nodup_append.mpr ⟨kg _<|vS c,kg _<|vS f,λa h b i e=>?_⟩;subst e;have j:=(List.mem_filter.mp h).1;have k:=(List.mem_filter.mp i).2;simp[j]at k
def W8(e:yN c)(f:yN d):jn c d=xr c d:=HB (HD e f) (A4 e) λk=>by rw[HC,B4<|vS f];by_cases a:k∈c<;>by_cases b:k∈d<;>simp[a,b]
def wx:∀{a:List k} {K:List g->S->Prop},(∀x∈a,∀K:Option g->S->Prop,K (f x) s->b x s K)->K (a.filterMap f) s->Cz b a s K:=by
 intro i
 induction i with
 |nil=>intro _ _ h;exact h
 |cons x a c =>
  intro K d h;refine d x h8 _<|c (λy j=>d y<|ie _ j) ?_
  have e:(x::a).filterMap f=(f x).toList++a.filterMap f:=by rw[lu];cases f x<;>rfl
  rw[e]at h;exact h
def filterMap_filter(p:b->Bool):∀a:List b,a.filterMap (λx=>if p x=true then some x else none)=a.filter p
 | []=>rfl
 |x::a=>by rw[lu,jw,filterMap_filter p a];cases p x<;>rfl
def wB(I:List j->B->Prop):∀(a:List j) {s:B},I a s->(∀x r s,(∃p,a=p++x::r)->I (x::r) s->∀K:B->Prop,(∀c,I r c->K c)->b x s K k l)->(∀s,I [] s->m s)->Hy b a s m k l:=by
 intro d
 induction d with
 |nil=>intro s h _ f;exact f s h
 |cons x a g=>intro s h i f;exact i x a s #[[],rfl] h _ λc n=>g n (λy r o d=>e1a1 d λp e q=>i y r o #[x::p,by rw[e];rfl] q) f
def v7{n:Nat}(h:n<=1000):n<=hV:=mu<|Og h
structure Bd(C:g9)(fl:Bool) where
 rk:List (Int×Int)
 bd:List 93
 up:Int
 ht:List (Int×Int)
 th:List (Int×Int)
noncomputable def lk{a:Type}(l:List (Int×a))(k:Int):Option a:=(l.find? λe=>decide<|e.1=k).map (·.2)
noncomputable def B8(l:List (Int×Int)):List (Key×V):=l.map λe=>(iJ e.1,V.int e.2)
def CD(R:Rg)(H:Hp):List 93->List (Key×V)->Prop:=Paired λe u=>u.1=iJ e.1/\rp R H (Tp.mk e.2) u.2
noncomputable def zg(a b c d:g9)(e:Int)(f:Bool):List (Str×V):=("ranks",.ref a)::("borders",.ref b)::("upcoming",.int e)::(if f=true then [("head_by_tail",.ref c),("tail_by_head",.ref d)] else [])
noncomputable def adr(p dx d1 d2 d3 d4:g9)(fl:Bool):List g9:=p::dx::d1::d2::(if fl=true then [d3,d4] else [])
structure E7(C:g9)(fl:Bool)(R:Rg)(H:Hp)(x:Bd C fl)(p dx d1 d2 d3 d4:g9)(us:List (Key×V)):Prop where
 nd:(adr p dx d1 d2 d3 d4 fl).Nodup
 ob:H p=↑(.ins C dx<|zg d1 d2 d3 d4 x.up fl)
 ow:H dx=↑(.own p)
 rk:H d1=↑(.dK<|B8 x.rk)
 bd:H d2=↑(.dK us)
 tu:CD R H x.bd us
 ht:fl=true->H d3=↑(.dK<|B8 x.ht)
 th:fl=true->H d4=↑(.dK<|B8 x.th)
def Ed{R R':Rg}{H H':Hp}(e:Ext R R H R' H'):∀{l:List 93} {us:List (Key×V)},CD R H l us->CD R' H' l us:=by
 intro _ _ z
 induction z with
 |nil=>exact .nil
 |cons h t ih=>exact .cons #[h.1,Rep.st h.2 e] ih
def E7.st{C:g9}{fl:Bool}{G R R':Rg}{H H':Hp}{x:Bd C fl}{p dx d1 d2 d3 d4:g9}{us:List (Key×V)}(b:E7 C fl R H x p dx d1 d2 d3 d4 us)(e:Ext G R H R' H')(s:∀a,G a->R a)(n:∀a,a∈adr p dx d1 d2 d3 d4 fl->¬G a):E7 C fl R' H' x p dx d1 d2 d3 d4 us :=
 #[b.nd,e.keep _ _ (n _<|by simp[adr]) b.ob,e.keep _ _ (n _<|by simp[adr]) b.ow,e.keep _ _ (n _<|by simp[adr]) b.rk,e.keep _ _ (n _<|by simp[adr]) b.bd,Ed (e.wide s) b.tu,λh=>e.keep _ _ (n _<|by simp[adr,h])<|b.ht h,λh=>e.keep _ _ (n _<|by simp[adr,h])<|b.th h]
instance(C:g9)(fl:Bool):Ow (Bd C fl):=#[λF R H x v=>∃p dx d1 d2 d3 d4 us,v=↑(.ref p)/\(∀b,F b↔b∈adr p dx d1 d2 d3 d4 fl)/\E7 C fl R H x p dx d1 d2 d3 d4 us,
 λh e s n=>by
  obtain⟨p,dx,d1,d2,d3,d4,us,h1,h2,h3⟩:=h
  exact#[p,dx,d1,d2,d3,d4,us,h1,h2,h3.st e s λa z=>n a<|(h2 a).mpr z],
 λh e=>by
  obtain⟨p,dx,d1,d2,d3,d4,us,h1,h2,h3⟩:=h
  exact#[p,dx,d1,d2,d3,d4,us,h1,λb=>(e b).symm.trans (h2 b),h3]]
instance(C:g9)(fl:Bool):Hs (Bd C fl):=#[λz9=>e7a2 z9 λ_ _ _ _ _ _ _ h _=>#[_,h]]
def JL{R L:Rg}{H:Hp}(k:∀a,L a->∃b,H a=↑(.lst b)):∀{l:List 93} {b:List (Key×V)},CD R H l b->CD (λa=>R a\/L a) H l b
 |_,_,.nil=>.nil
 |_,_,.cons h t=>.cons #[h.1,Lh.no h.2 k]<|JL k t
instance(C:g9)(fl:Bool):UN (Bd C fl):=#[λ{F R L H x v} h k=>by
 obtain⟨p,dx,d1,d2,d3,d4,us,h1,h2,b⟩:=h
 exact#[p,dx,d1,d2,d3,d4,us,h1,h2,b.nd,b.ob,b.ow,b.rk,b.bd,JL k b.tu,b.ht,b.th]]
structure AB(K:hI)(C:g9):Prop where
 cl:Bo K C
 nR:wm K C "ranks"
 nB:wm K C "borders"
 nU:wm K C "upcoming"
structure OD(K:hI)(C:g9):Prop where
 nH:wm K C "head_by_tail"
 nT:wm K C "tail_by_head"
def yZ(k:Int):∀l:List (Int×Int),yX (B8 l) (iJ k)=(lk l k).map V.int
 | []=>rfl
 |e::l=>by
  by_cases h:e.1=k
  ·show yX ((iJ e.1,V.int e.2)::B8 l) _=_;rw[zL<|by rw[h]];unfold lk;rw[je,decide_eq_true h];rfl
  ·show yX ((iJ e.1,V.int e.2)::B8 l) _=_;rw[zM (by intro z;exact h<|oh z),yZ k l];unfold lk;rw[je,iC h]
def E8{R:Rg}{H:Hp}{k:Int}:∀{l:List 93} {us:List (Key×V)},CD R H l us->(∀b,lk l k=↑b->∃v,yX us (iJ k)=↑v/\rp R H (Tp.mk b) v)/\(lk l k=none->yX us (iJ k)=none):=by
 intro z0 z1 z9
 induction z9 with
 |nil=>exact#[(λb h=>by cases h),λ_=>rfl]
 | @cons e u l us h t YM =>
  obtain⟨i1,i2⟩:=YM;by_cases q:e.1=k
  ·have e1:lk (e::l) k=↑e.2:=by unfold lk;rw[je,decide_eq_true q];rfl
   rw[e1];refine#[λb hb=>?_,(λz=>by cases z)];cases hb;exact#[u.2,zL (by rw[h.1,q]),h.2]
  ·have e1:lk (e::l) k=lk l k:=by unfold lk;rw[je,iC q]
   rw[e1,zM<|by rw[h.1];intro z;exact q<|oh z];exact#[i1,i2]
noncomputable def pk{a:Type}(l:List (Int×a))(k:Int)(v:a):List (Int×a):=if (lk l k).isSome then l.map (λe=>if e.1=k then (e.1,v) else e) else l++[(k,v)]
noncomputable def dk{a:Type}(l:List (Int×a))(k:Int):List (Int×a):=l.filter λe=>decide<|e.1≠k
def U1(l:List (Int×Int))(k v:Int):putK (B8 l) (iJ k) (V.int v)=B8 (pk l k v):=by
 unfold putK pk;rw[AR,yZ,iL]
 cases (lk l k).isSome with
 |true =>
  rw[g8 rfl,g8 rfl];unfold B8;rw[lN,lN];refine mE λe _=>?_;show (if (iJ e.1:Key)=iJ k then _ else _)=(λe:Int×Int=>((iJ e.1:Key),V.int e.2)) (if e.1=k then (e.1,v) else e);by_cases h:e.1=k
  ·rw[g8 (by rw[h]),g8 h]
  ·rw[ci<|λz=>h<|oh z,ci h]
 |false =>
  rw[ci ig,ci ig];unfold B8;rw[kE];rfl
def JM(l:List (Int×Int))(k:Int):AQ (B8 l) (iJ k)=B8 (dk l k):=by
 unfold AQ dk B8;rw[rK];congr 1;refine m7 λe _=>?_;by_cases h:e.1=k
 ·simp[h]
 ·simp[h]
def JN{R:Rg}{H:Hp}{k:Int}{b:List Int}{v:V}(h:rp R H (Tp.mk b) v):∀{l:List 93} {us:List (Key×V)},CD R H l us->CD R H (l++[(k,b)]) (us++[(iJ k,v)])
 |_,_,.nil=>.cons #[rfl,h] .nil
 |_,_,.cons q t=>.cons q<|JN h t
def Q7{R:Rg}{H:Hp}{l:List 93}{us:List (Key×V)}{k:Int}{b:List Int}{v:V}(t:CD R H l us)(hn:lk l k=none)(h:rp R H (Tp.mk b) v):CD R H (pk l k b) (putK us (iJ k) v):=by unfold pk;rw[hn,Qc _<|(E8 t).2 hn];exact JN h t
def OE{R:Rg}{H:Hp}{k:Int}:∀{l:List 93} {us:List (Key×V)},CD R H l us->CD R H (dk l k) (AQ us<|iJ k):=by
 intro z0 z1 z9
 induction z9 with
 |nil=>exact .nil
 | @cons e u l us h t YM =>
  have ih:=YM;unfold dk AQ at ih ⊢;rw[jw,jw];by_cases q:e.1=k
  ·rw[ci (by simpa using q),ci<|by rw[h.1];simpa using q];exact ih
  ·rw[g8 (by simpa using q),g8<|by rw[h.1];simpa using q];exact .cons h ih
inductive ID where
 | rk|ht|th
noncomputable abbrev ID.nm:ID->Str
 | .rk=>"ranks" | .ht=>"head_by_tail" | .th=>"tail_by_head"
noncomputable abbrev ID.get{C:g9}{a:Bool}:ID->Bd C a->List (Int×Int)
 | .rk,x=>x.rk|.ht,x=>x.ht|.th,x=>x.th
noncomputable abbrev ID.set{C:g9}{a:Bool}:ID->Bd C a->List (Int×Int)->Bd C a
 | .rk,x,l=>{ x with rk:=l}|.ht,x,l=>{ x with ht:=l}|.th,x,l=>{ x with th:=l}
def ID.ok:ID->Bool->Prop
 | .rk,_=>True|.ht,fl=>fl=true|.th,fl=>fl=true
def nd4(h:(a::b::c::d::r).Nodup):(a≠b/\a≠c/\a≠d/\∀x∈r,a≠x)/\(b≠c/\b≠d/\∀x∈r,b≠x)/\(c≠d/\∀x∈r,c≠x)/\(∀x∈r,d≠x)/\r.Nodup:=by have g:=List.nodup_cons.mp h;have i:=List.nodup_cons.mp g.2;have j:=List.nodup_cons.mp i.2;have k:=List.nodup_cons.mp j.2;simp only[iK,qA]at g i j;exact#[#[g.1.1,g.1.2.1,g.1.2.2.1,λx f e=>g.1.2.2.2<|by rw[e];exact f],⟨i.1.1,i.1.2.1,λx f e=>i.1.2.2<|by rw[e];exact f⟩,⟨j.1.1,λx f e=>j.1.2<|by rw[e];exact f⟩,λx f e=>k.1 (by rw[e];exact f),k.2]
def A5(b:E7 C k R H x p s l m g i t)(q:ID)(u:q.ok k):∃d,(zg l m g i x.up k).lookup q.nm=↑(.ref d)/\H d=↑(.dK<|B8<|q.get x)/\d∈adr p s l m g i k /\
  ∀j,R d->E7 C k R (upd H d<|.dK<|B8 j) (q.set x j) p s l m g i t:=by
 have f:=nd4 b.nd;have n:∀d j,R d->CD R (upd H d<|.dK<|B8 j) x.bd t:=λd j h=>Ed ((zp (F:=R) (R:=R) (H:=H) (a:=d) (o:=.dK<|B8 j)).wide λc z=>by rw[z];exact h) b.tu
 cases q with
 |rk =>
  refine#[l,rfl,b.rk,by simp[adr],λj h=>#[b.nd,by rw[vo f.1.2.1];exact b.ob,by rw[vo f.2.1.1];exact b.ow,vt,by rw[vo f.2.2.1.1.symm];exact b.bd,n _ _ h,λz=>?_,λz=>?_]]
  ·rw[vo (f.2.2.1.2 g<|by rw[g8 z];simp).symm];exact b.ht z
  ·rw[vo (f.2.2.1.2 i<|by rw[g8 z];simp).symm];exact b.th z
 |ht =>
  have z:k=true:=u;subst z;have r:=List.nodup_cons.mp f.2.2.2.2;refine#[g,rfl,b.ht rfl,by simp[adr],λj h=>#[b.nd,by rw[vo<|f.1.2.2.2 g q0o];exact b.ob,by rw[vo<|f.2.1.2.2 g q0o];exact b.ow,by rw[vo<|f.2.2.1.2 g q0o];exact b.rk,by rw[vo<|f.2.2.2.1 g q0o];exact b.bd,n _ _ h,λ_=>vt,λ_=>?_]];rw[vo<|λe=>r.1<|by rw[<- e];simp];exact b.th rfl
 |th =>
  have z:k=true:=u;subst z;have r:=List.nodup_cons.mp f.2.2.2.2;refine#[i,rfl,b.th rfl,by simp[adr],λj h=>#[b.nd,by rw[vo<|f.1.2.2.2 i q0o];exact b.ob,by rw[vo<|f.2.1.2.2 i q0o];exact b.ow,by rw[vo<|f.2.2.1.2 i q0o];exact b.rk,by rw[vo<|f.2.2.2.1 i q0o];exact b.bd,n _ _ h,λ_=>?_,λ_=>vt]];rw[vo<|λe=>r.1<|by rw[e];simp];exact b.ht rfl
section
variable{D PO τ:Type}[Sls D][Sls PO][Ow τ]
def wS{i:Nat}[Sls J][A:At i D (Bd C r) J](s:wz T F R H d L):∃p f g j l m B,L[i]?=↑(some<|.ref p)/\E7 C r R H (A.get d) p f g j l m B/\(∀a∈adr p f g j l m r,R a) /\
  ∀{U:Pt i J (Bd C r) D} {a:g9} {o:HO} {E:Bd C r} {w:List (Key×V)},a∈adr p f g j l m r->E7 C r R (upd H a o) E p f g j l m w->Ch T F R H F R (upd H a o)/\wz T F R (upd H a o) (U.put (A.hole d) E) L:=by
 obtain⟨v,X,Y,M,G,⟨p,f,g,j,l,m,B,rfl,I,N⟩,O⟩:=A.take s.rel;have x:∀a∈adr p f g j l m r,F a:=λa h=>(G.all a).mpr<|.inl<|(I a).mpr h;refine⟨p,f,g,j,l,m,B,M,N,λa h=>s.sub a<|x a h,λ{U a o E w} y P=>?_⟩;have Q:=zp (F:=F) (R:=R) (H:=H) (a:=a) (o:=o);have S:∀c,c=a->R c:=λc z=>by rw[z];exact s.sub a<|x a y
 have k:∀b u,b≠a->H b=↑u->upd H a o b=↑u:=λb u z e=>by rw[vo z];exact e
 refine#[#[λb o n _ e=>k b o (λz=>n<|by rw[z];exact x a y) e,λ_ h=>.inl h,λ_ h=>.inl h,λ_ h _=>h],Pt.same (A:=U) (Sls.st O Q S λc z q=>G.yP c ((I c).mpr<|by rw[q];exact y) z) M G ⟨p,f,g,j,l,m,w,rfl,I,P⟩,s.sub,λc z=>?_,?_,s.wj,s.v0]
 ·by_cases e:c=a
  ·rw[e,vt];simp
  ·rw[vo e];exact s.xI c z
 ·refine e1a2 s.tab λW e t=>?_;exact#[W,k _ _ (λz=>s.v0<|by rw[z];exact x a y) e,t]
def Lq(q:ID)(b:Bool)(i:Nat)[Sls U][A:At i D (Bd C W) U](Y:q.ok W)(Z:Bo X.K C)(nf:wm X.K C q.nm)(G:X.A.units+1<kF)(hk:EW X E T a wk)(I:PE X (.Name x l) (vW i))(J:iU (.Name x l) q.nm X.env (eval (.Name x l) X.env)=eval (.Name x l) X.env:=by rfl)
 (L:jh (if b then .NotIn else .In) (.Attribute (.Name x l) q.nm p2)=false:=by with_unfolding_all rfl):EW X E T (.Compare a [if b then .NotIn else .In] [.Attribute (.Name x l) q.nm p2] pos) (cK wk λ(n:Bool->D->Prop) k c=>n (if b then !(lk (q.get<|A.get c) k).isSome else (lk (q.get<|A.get c) k).isSome) c):=by
  refine e1a2 hk λta M N=>?_
  have O:∀{c:D} {h j:Rg} {e:Hp} {f:St} {k:Int} {Q:VK},wz T h j e c f->Q (.bl<|if b then !(lk (q.get<|A.get c) k).isSome else (lk (q.get<|A.get c) k).isSome) e->XY X.K (vW i) q.nm f e λy P=>∃a o,y=.ref a/\yO P a (.int k) o/\Q (.bl<|if b then !o.isSome else o.isSome) P:=λ{c h j e f k Q} g m=>by
    obtain⟨p,dx,e1,e2,e3,e4,us,g1,S,_,_⟩:=wS (i:=i) g
    refine e1a4 (A5 S q Y) λd l1 l2 _ _=>?_
    refine#[_,g1,p,C,dx,_,_,rfl,S.ob,Z,nf,l1,d,_,rfl,yO.k (k:=iJ k) l2,?_]
    rw[yZ,iL]
    exact m
  cases b with
  |false=>exact#[_,PH (Qf G M (xl I J)) L,λd F R f H n r Q s t m v=>N d F R f H _ r _ s t (λk c u h j e w z g B=>by
      subst B
      exact O g (m _ c _ h j e w z g rfl)) v]
  |true=>exact#[_,PH (C3 G M (xl I J)) L,λd F R f H n r Q s t m v=>N d F R f H _ r _ s t (λk c u h j e w z g B=>by
      subst B
      exact O g (m _ c _ h j e w z g rfl)) v]
def tw_dIn(q:ID)(b:Bool)(i:Nat)[Sls W][A:At i D (Bd C Y) W](Z:q.ok Y)(cl:Bo X.K C)(nf:wm X.K C q.nm)(I:X.A.units+1<kF)(hk:EW X E T a wk)(J:PE X (.Name x m) (vW i))(L:iU (.Name x m) q.nm X.env (eval (.Name x m) X.env)=eval (.Name x m) X.env:=by rfl)
 (M:jh (if b then .NotIn else .In) (.Attribute (.Name x m) q.nm p2)=false:=by with_unfolding_all rfl):TW X E T (.Compare a [if b then .NotIn else .In] [.Attribute (.Name x m) q.nm p2] pos) (cK wk λ(r:Bool->D->Prop) k e=>r (if b then !(lk (q.get<|A.get e) k).isSome else (lk (q.get<|A.get e) k).isSome) e):=by
  refine e1a2 hk λta N O=>?_
  have P:∀{e:D} {j l:Rg} {f:Hp} {g:St} {k:Int} {Q:VK},wz T j l f e g->Q (.bl<|if b then !(lk (q.get<|A.get e) k).isSome else (lk (q.get<|A.get e) k).isSome) f->XY X.K (vW i) q.nm g f λy S=>∃a o,y=.ref a/\yO S a (.int k) o/\Q (.bl<|if b then !o.isSome else o.isSome) S:=λ{e j l f g k Q} h n=>by
    obtain⟨p,dx,e1,e2,e3,e4,us,g1,U,_,_⟩:=wS (i:=i) h
    refine e1a4 (A5 U q Z) λd l1 l2 _ _=>?_
    refine#[_,g1,p,C,dx,_,_,rfl,U.ob,cl,nf,l1,d,_,rfl,yO.k (k:=iJ k) l2,?_]
    rw[yZ,iL]
    exact n
  cases b with
  |false=>exact#[_,Ky (Qf I N (xl J L)) M,λd F R g H r t Q s v n w=>O d F R g H _ t _ s v (λk e u j l f z B h G=>by
      subst G
      exact P (Q:=λy H=>∃c,y=.bl c/\Q c H) h #[_,rfl,n _ e j l f z B h]) w]
  |true=>exact#[_,Ky (C3 I N (xl J L)) M,λd F R g H r t Q s v n w=>O d F R g H _ t _ s v (λk e u j l f z B h G=>by
      subst G
      exact P (Q:=λy H=>∃c,y=.bl c/\Q c H) h #[_,rfl,n _ e j l f z B h]) w]
def EV(X:Cx)(T:g9)(e:iV){D α:Type}[Sls D][Rep α](f:D->α):Prop :=
 ∃t,PE X e t/\∀(d:D)(F R:Rg)(σ:St)(H:Hp)(Q:VK),wz T F R H d σ->(∀v,rp R H (f d) v->Q v H)->t σ H Q
def wQ[Rep a][Sls b](i:Nat)[A:At i D a b](c:PE X (.Name y pos) (vW i)):EV X T (.Name y pos) (λ(d:D)=>A.get d):=by refine#[_,c,λd F R h H Q s e=>?_];obtain⟨v,j,k,f,l,⟨_,u,rfl,g⟩,_⟩:=A.take s.rel;exact#[u,f,e u g]
def a2R{m:Int}{k:Nat}:EV X T (.Constant (.int m) k pos) (λ(_:D)=>m):=#[_,vQ,λd F R b H Q s a=>a _ rfl]
def HE(q:ID)(i:Nat)[Sls h][A:At i D (Bd C j) h](l:q.ok j)(m:Bo X.K C)(n:wm X.K C q.nm)(o:X.A.units+1<kF)(t:PE X (.Name x b) (vW i))(u:EV X T a f)(w:iU (.Name x b) q.nm X.env (eval (.Name x b) X.env)=eval (.Name x b) X.env:=by rfl)(B:Qd a:=by intro _ _;rfl) :
  EW X E T (.Subscript (.Attribute (.Name x b) q.nm Y) a pos) (λ(d:D)(c:Int->D->Prop) _=>∃v,lk 84 (f d)=↑v/\c v d):=by
 refine e1a2 u λZ G I=>?_;refine#[_,Hd o (xl t w) G B,λd F R J H c Ke Q s L M ke=>?_];obtain⟨p,N,e1,e2,e3,e4,us,O,e,_,_⟩:=wS (i:=i) s;refine e1a4 (A5 e q l) λy P S _ _=>?_;refine#[_,O,p,C,N,_,_,rfl,e.ob,m,n,P,I d F R J H _ s λv r=>?_];subst r;refine e1a2 L λz U W=>?_;have g:=yO.k (k:=iJ<|f d) S;rw[yZ,U]at g;exact#[y,_,rfl,g,M z d _ F R H W 57 s rfl]
def BA(i:Nat)[Sls h][A:At i D (Bd C U) h](j:Bo X.K C)(l:wm X.K C "borders")(m:X.A.units+1<kF)(n:PE X (.Name x b) (vW i))(o:EV X T a f)(q:iU (.Name x b) "borders" X.env (eval (.Name x b) X.env)=eval (.Name x b) X.env:=by rfl)(t:Qd a:=by intro _ _;rfl) :
  EW X E T (.Subscript (.Attribute (.Name x b) "borders" W) a pos) (λ(d:D)(e:Tp Int->D->Prop) _=>∃v,lk (A.get d).bd (f d)=↑v/\e #[v] d):=by
 refine e1a2 o λY u y=>?_;refine#[_,Hd m (xl n q) u t,λd F R B H e Z Q s G I ke=>?_];obtain⟨p,J,e1,L,e3,e4,us,M,c,_,_⟩:=wS (i:=i) s;refine#[_,M,p,C,J,_,_,rfl,c.ob,j,l,rfl,y d F R B H _ s λv r=>?_];subst r;refine e1a2 G λz N O=>?_;refine e1a2 ((E8 c.tu).1 z N) λw P S=>?_;have g:=yO.k (k:=iJ<|f d) c.bd;rw[P]at g;exact#[L,w,rfl,g,I #[z] d _ F R H O 57 s S]
def U4(q:ID)(i:Nat)[Sls g][A:At i D (Bd C h) g](j:q.ok h)(k:Bo X.K C)(l:wm X.K C q.nm)(m:Gl X "len")(n:X.mg "len"=none)(o:PE X (.Name x a) (vW i))(r:iU (.Name x a) q.nm X.env (eval (.Name x a) X.env)=eval (.Name x a) X.env:=by rfl)
 (b:hJ [.Attribute (.Name x a) q.nm c] X.env=(false,eval (.Attribute (.Name x a) q.nm c) X.env)::hJ [] X.env:=by rfl) :
    EW X E T (.Call (.Name "len" G) [.Attribute (.Name x a) q.nm c] [] pos) (λ(d:D)(e:Int->D->Prop) _=>e ((84).length:Int) d):=by
  refine#[_,wT Oh m n mZ (vy (xl o r) vJ b) (he:=b),λd F R I H e J Q s t u L=>?_]
  obtain⟨p,v,M,N,O,P,S,w,f,_,_⟩:=wS (i:=i) s
  refine e1a4 (A5 f q j) λy z B _ _=>?_
  refine#[_,w,p,C,v,_,_,rfl,f.ob,k,l,z,y,_,rfl,B,u _ d _ F R H t 57 s ?_]
  show V.int _=V.int _
  unfold B8
  rw[hR]
def B5(q:ID)(i:Nat)[Sls h][A:At i D (Bd C j) h](k:q.ok j)(m:Bo X.K C)(n:wm X.K C q.nm)(o:X.calm=true)(r:Gl X "sorted")(t:X.mg "sorted"=none)(u:PE X (.Name x a) (vW i))(v:iU (.Name x a) q.nm X.env (eval (.Name x a) X.env)=eval (.Name x a) X.env:=by rfl)
 (b:hJ [.Attribute (.Name x a) q.nm c] X.env=(false,eval (.Attribute (.Name x a) q.nm c) X.env)::hJ [] X.env:=by rfl) :
    EO X E T (.Call (.Name "sorted" U) [.Attribute (.Name x a) q.nm c] [] pos) (λ(d:D)(e:OL Int->D->Prop) _=>(84).length<64/\e #[zD ((84).map (·.1))] d):=by
  refine#[_,wT (Hq o) r t kQ (vy (xl u v) vJ b) (he:=b),λd F R W H e Y Q s f w Z=>?_]
  obtain⟨p,z,e1,e2,e3,e4,us,B,g,_,_⟩:=wS (i:=i) s
  refine e1a4 (A5 g q k) λy G I _ _=>?_
  refine#[_,B,p,C,z,_,_,rfl,g.ob,m,n,G,y,_,(84).map (·.1),rfl,I,?_,by rw[hR];exact f.1,λl ns J L M=>?_]
  · unfold B8
    rw[lN,lN]
    rfl
  · rw[EM L M]
    refine e1a3 (yf s J (yE (R:=R) (H:=H) (zD ((84).map (·.1))))) λN O P S=>?_
    exact w _ d _ _ F N _ f.2 O P S
def W9(i:Nat)[Sls c][A:At i D (Bd C o) c](e:Bo X.K C)(f:wm X.K C "upcoming")(g:PE X (.Name x a) (vW i))(h:iU (.Name x a) "upcoming" X.env (eval (.Name x a) X.env)=eval (.Name x a) X.env:=by rfl) :
  EW X E T (.Attribute (.Name x a) "upcoming" pos) (λ(d:D)(b:Int->D->Prop) _=>b (A.get d).up d):=by
 refine#[_,xl g h,λd F R q H b r Q s j k t=>?_];obtain⟨p,l,u,v,w,y,z,m,n,_,_⟩:=wS (i:=i) s;exact#[_,m,p,C,l,_,_,rfl,n.ob,e,f,rfl,k _ d _ F R H j 57 s rfl]
def HF(q:ID)(i:Nat)[Sls o][A:At i D (Bd C t) o][U:Pt i o (Bd C t) D][J:Pj D PO n](N:q.ok t)(O:Bo X.K C)(P:wm X.K C q.nm)(Q:X.A.units+1<kF)(S:PE X (.Name x g) (vW i))(W:EV X T a f)(Y:EW X E T e Z)(hb:iU (.Name x g) q.nm X.env (eval (.Name x g) X.env)=eval (.Name x g) X.env:=by rfl)
 (hs:kj e (some<|.Subscript (.Attribute (.Name x g) q.nm p2) a p3) pos.line X.env=pure false:=by rfl) :
    S1 X E T ms n (.Assign [.Subscript (.Attribute (.Name x g) q.nm p2) a p3] e pos) (cS Z J.pj λ(z:D->Prop)(Kr:τ->PO->Prop) v b=>(q.get<|A.get b).length<hV/\z (U.put (A.hole b)<|q.set (A.get b)<|pk (q.get<|A.get b) (f b) v)):=by
  refine e1a2 W λta a1 a2=>?_
  refine e1a2 Y λte b1 b2=>?_
  refine#[_,He Q (xl S hb) a1 b1 hs,λd F R j H z Kr Ke En s hw kn kr ke=>b2 d F R j H _ _ _ s hw (λv b u B I H1 L c1 l r1=>?_) λC y d' F' R' H' q c s'=>?_]
  · obtain⟨p, dx, e1, e2, e3, e4, us, m, h, g3, g4⟩ := wS (i := i) l
    refine e1a4 (A5 h q N) λy l1 l2 M l4=>?_
    subst r1
    refine#[_,m,p,C,dx,_,_,rfl,h.ob,O,P,l1,a2 b B I j H1 _ l λw r=>?_]
    subst r
    obtain⟨c2,s2⟩:=g4 (U:=U) M<|l4 (pk (q.get<|A.get b) (f b) v)<|g3 y M
    refine#[y,_,rfl,Hc.k (k:=iJ<|f b) l2 (by unfold B8;rw[hR];exact L.1),?_]
    rw[U1]
    exact kn _ B I _ j L.2 (Ch.trans s l.tab c1 c2) s2<|Ag.refl _ _
  · refine e1a2 (wM (PO := PO) s') λG m h => ?_
    exact ke C y _ G R' H' q (c.less m) h
def E9(b:E7 C i R H y p j k f g h n)(m:R f)(t:CD R H l d):E7 C i R (upd H f<|.dK d) { y with bd:=l} p j k f g h d:=by have e:=nd4 b.nd;exact⟨b.nd,by rw[vo e.1.2.2.1];exact b.ob,by rw[vo e.2.1.2.1];exact b.ow,by rw[vo e.2.2.1.1];exact b.rk,vt,Ed ((zp (F:=R) (R:=R) (H:=H) (a:=f) (o:=.dK d)).wide λc z=>by rw[z];exact m) t,λz=>by rw[vo (e.2.2.2.1 g<|by rw[g8 z];simp).symm];exact b.ht z,λz=>by rw[vo (e.2.2.2.1 h<|by rw[g8 z];simp).symm];exact b.th z⟩
def U5(i:Nat){o:Type}[Sls o][A:At i D (Bd C L) o][U:Pt i o (Bd C L) D][J:Pj D PO n]{f:D->Int}{M:Wf D (Tp Int) D}(W:Bo X.K C)(Y:wm X.K C "borders")(Z:X.A.units+1<kF)(hn:PE X (.Name x j) (vW i))(hk:EV X T a f)(he:EW X E T e M)(hb:iU (.Name x j) "borders" X.env (eval (.Name x j) X.env)=eval (.Name x j) X.env:=by rfl)
 (hs:kj e (some<|.Subscript (.Attribute (.Name x j) "borders" p2) a p3) pos.line X.env=pure false:=by rfl) :
    S1 X E T ms n (.Assign [.Subscript (.Attribute (.Name x j) "borders" p2) a p3] e pos) (cS M J.pj λ(N:D->Prop)(Kr:τ->PO->Prop) v g=>(A.get g).bd.length<hV/\lk (A.get g).bd (f g)=none/\N (U.put (A.hole g) { A.get g with bd:=pk (A.get g).bd (f g) v.l})):=by
  refine e1a2 hk λta a1 a2=>?_
  refine e1a2 he λte b1 b2=>?_
  refine#[_,He Z (xl hn hb) a1 b1 hs,λd F R t H N Kr Ke En s hw kn kr ke=>b2 d F R t H _ _ _ s hw (λv g u O P H1 z c1 B r1=>?_) λC y d' F' R' H' q c s'=>?_]
  · obtain⟨p, Q, e1, m, e3, e4, us, I, h, g3, g4⟩ := wS (i := i) B
    have S:m∈adr p Q e1 m e3 e4 L:=by simp[adr]
    refine#[_,I,p,C,Q,_,_,rfl,h.ob,W,Y,rfl,a2 g O P t H1 _ B λw r=>?_]
    subst r
    obtain⟨c2,s2⟩:=g4 (U:=U) S<|E9 h (g3 m S)<|Q7 (b:=v.l) h.tu z.2.1 r1
    exact#[m,_,rfl,Hc.k (k:=iJ<|f g) h.bd (by rw[<- Paired.length h.tu];exact z.1),kn _ O P _ t z.2.2 (Ch.trans s B.tab c1 c2) s2<|Ag.refl _ _]
  · refine e1a2 (wM (PO := PO) s') λG I h => ?_
    exact ke C y _ G R' H' q (c.less I) h
def a0G(i:Nat)[Sls w][A:At i D (Bd C f) w][U:Pt i w (Bd C f) D][J:Pj D PO n](P:Bo X.K C)(Q:wm X.K C "upcoming")(S:PE X (.Name x B) (vW i))(W:EW X E T e Y)(Z:kj e (some<|.Attribute (.Name x B) "upcoming" p2) pos.line X.env=pure false:=by rfl) :
  S1 X E T ms n (.Assign [.Attribute (.Name x B) "upcoming" p2] e pos) (cS Y J.pj λ(I:D->Prop)(Kr:τ->PO->Prop) v j=>I<|U.put (A.hole j) { A.get j with up:=v}):=by
 refine e1a2 W λte b1 b2=>?_;refine#[_,C0 S b1 Z,λd F R L H I Kr Ke En s hw kn kr ke=>b2 d F R L H _ _ _ s hw (λv j u F1 o M q1 c1 N r1=>?_) λC y d' F' R' H' q c s'=>?_]
 ·obtain⟨p,r,k,l,g,h,us,t,b,g3,g4⟩:=wS (i:=i) N;subst r1;have O:p∈adr p r k l g h f:=by simp[adr]
  have m:=nd4 b.nd;have eq:AM "upcoming" (V.int v) (zg k l g h (A.get j).up f)=zg k l g h v f:=rfl;have nb:E7 C f o (upd M p<|.ins C r<|zg k l g h v f) { A.get j with up:=v} p r k l g h us:=⟨b.nd,vt,by rw[vo m.1.1.symm];exact b.ow,by rw[vo m.1.2.1.symm];exact b.rk,by rw[vo m.1.2.2.1.symm];exact b.bd,Ed ((zp (F:=o) (R:=o) (H:=M) (a:=p)).wide λc z=>by rw[z];exact g3 p O) b.tu,λz=>by rw[vo (m.1.2.2.2 g<|by rw[g8 z];simp).symm];exact b.ht z,λz=>by rw[vo (m.1.2.2.2 h<|by rw[g8 z];simp).symm];exact b.th z⟩;obtain⟨c2,s2⟩:=g4 (U:=U) O nb;refine#[_,t,p,C,r,_,rfl,b.ob,P,Q,?_,?_]
  ·unfold zg;split<;>(simp only[iE,nQ];decide)
  ·rw[eq];exact kn _ F1 o _ L q1 (Ch.trans s N.tab c1 c2) s2<|Ag.refl _ _
 ·refine e1a2 (wM (PO:=PO) s') λG t b=>?_;exact ke C y _ G R' H' q (c.less t) b
def Nb(q:ID)(i:Nat)[Sls c][A:At i D (Bd C e) c][U:Pt i c (Bd C e) D][J:Pj D PO n](u:q.ok e)(v:Bo X.K C)(z:wm X.K C q.nm)(B:PE X (.Name x b) (vW i))(G:EV X T a f)(I:∀{g h:TE},PE X (.Attribute (.Name x b) q.nm j) g->PE X a h->PS X (.Delete [.Subscript (.Attribute (.Name x b) q.nm j) a L] pos) (Qe g h))(M:iU (.Name x b) q.nm X.env (eval (.Name x b) X.env)=eval (.Name x b) X.env:=by rfl) :
  S1 X E T ms n (.Delete [.Subscript (.Attribute (.Name x b) q.nm j) a L] pos) (λ(d:D)(k:D->Prop)(N:τ->PO->Prop)(O:g9->PO->Prop)=>(lk 84<|f d).isSome=true/\k (U.put (A.hole d)<|q.set (A.get d)<|dk 84<|f d)):=by
 refine e1a2 G λta P Q=>?_;refine#[_,I (xl B M) P,λd F R l H k N O En s m S kr ke=>?_];obtain⟨p,W,e1,e2,e3,e4,us,Y,o,Z,g4⟩:=wS (i:=i) s;refine e1a4 (A5 o q u) λy l1 l2 t l4=>?_;refine#[_,Y,p,C,W,_,_,rfl,o.ob,v,z,l1,Q d F R l H _ s λw r=>?_];subst r;obtain⟨c2,s2⟩:=g4 (U:=U) t<|l4 (dk 84<|f d)<|Z y t;refine#[y,_,iJ<|f d,rfl,l2,rfl,by rw[yZ,iL];exact m.1,?_];rw[JM];exact S _ F R _ l m.2 c2 s2<|Ag.refl _ _
def U6(i:Nat)[Sls h][A:At i D (Bd C j) h][U:Pt i h (Bd C j) D][J:Pj D PO n](I:Bo X.K C)(L:wm X.K C "borders")(M:PE X (.Name x c) (vW i))(N:EV X T a f)(O:∀{l m:TE},PE X (.Attribute (.Name x c) "borders" o) l->PE X a m->PS X (.Delete [.Subscript (.Attribute (.Name x c) "borders" o) a P] pos) (Qe l m))(Q:iU (.Name x c) "borders" X.env (eval (.Name x c) X.env)=eval (.Name x c) X.env:=by rfl) :
  S1 X E T ms n (.Delete [.Subscript (.Attribute (.Name x c) "borders" o) a P] pos) (λ(d:D)(q:D->Prop)(S:τ->PO->Prop)(W:g9->PO->Prop)=>(lk (A.get d).bd<|f d).isSome=true/\q (U.put (A.hole d) { A.get d with bd:=dk (A.get d).bd (f d)})):=by
 refine e1a2 N λta Y Z=>?_;refine#[_,O (xl M Q) Y,λd F R t H q S W En s u kn kr ke=>?_];obtain⟨p,y,e1,g,e3,e4,us,g1,e,g3,g4⟩:=wS (i:=i) s;have B:g∈adr p y e1 g e3 e4 j:=by simp[adr]
 refine#[_,g1,p,C,y,_,_,rfl,e.ob,I,L,rfl,Z d F R t H _ s λw r=>?_];subst r;obtain⟨c2,s2⟩:=g4 (U:=U) B<|E9 e (g3 g B)<|OE (k:=f d) e.tu;refine#[g,us,iJ<|f d,rfl,e.bd,rfl,?_,kn _ F R _ t u.2 c2 s2<|Ag.refl _ _]
 cases z:lk (A.get d).bd (f d) with
 |none =>
  have G:=u.1;rw[z]at G;cases G
 |some b =>
  refine e1a2 ((E8 e.tu).1 b z) λv v1 _=>?_;rw[v1];rfl
end
section
variable{D PO τ:Type}[Sls D][Sls PO][Ow τ]{α:Type}[Rep α]
def JO(i:Nat){D1 P O B B1 S:Type}[Sls D1][Sls P][Sls O][Sls B][Sls B1][Sls S][Lb S τ<|Bd C J×O]{I:B->S->O->D}{wr:D->(P->B->S->Prop)->72->Prop}
 {wf:Wf (Bd C J×P) τ (Bd C J×O)} [A0:At i D (Bd C J) D1] [A:At i B (Bd C J) B1] [U:Pt i B1 (Bd C J) B] (hl:∀a b c d u,(zg a b c d u J).lookup m=none)
 (b2:∀(d:D)(F R:Rg)(k:St)(H:Hp)(W:P->B->S->Prop)(M:g9->D->Prop)(Q:List V->Hp->Prop),wz T F R H d k->wr d W M ->
 (∀p b l vs us F1 X L w j e,W p b l->Ch T F R H w j e->Std T w j e->ET w F1 X L->rel F1 (Wo j L) e p (vs.map some)->rel X j e b k->rel L j e l us ->
 (∀b' l' G1 G2 G3 o f h G,rel G1 f h G (vs.map some)->rel G2 f h b' k->rel G3 f h l' us->ET o G1 G2 G3->rel o f h (I b' l' G) k)->Q vs e) ->
 (∀C y r w j e,M C r->Ch T F R H w j e->wz T w j e r k->E (.ref C) ↑y e)->tr k H Q)
 (d:D) (F R:Rg) (k:St) (H:Hp) (W:τ->D->Prop) (M:g9->D->Prop) (Q:VK) (s:wz T F R H d k) (hw:wr d (λp b l=>wf (A.get b,p) (λy G=>W y<|I (U.put (A.hole b) G.1) l G.2)<|λC G=>M C<|I (U.put (A.hole b) G.1) l G.2) M)
 (kn:∀x r v F1 X j e,W x r->Ch T F R H (λa=>F1 a\/X a) j e->wz T X j e r k->Nw T F1 X j e x v->Q v e)
 (ke:∀C y r w j e,M C r->Ch T F R H w j e->wz T w j e r k->E (.ref C) ↑y e):Gk C m (yY T wf) [] E (vW i) tr k H Q:=by
  obtain⟨v,_,_,hv,_,⟨a,dx,d1,d2,d3,d4,aa,rfl,_,g⟩,_⟩:=A0.take s.rel
  refine#[_,hv,a,dx,_,rfl,g.ob,hl _ _ _ _ _,b2 d F R k H _ M _ s hw (λp b l vs us G1 G2 L w j e q2 c2 s2 Y h1 h2 h3 km=>?_) ke]
  rw[lP]
  refine e3a4 (A.take h2) λv' M1 M2 z1 z2 z3 z4=>?_
  rw[hv]at z1
  cases z1
  have m1:∀a,M1 a->G2 a:=λa m=>(z2.all a).mpr<|.inl m
  have m2:∀a,M2 a->G2 a:=λa m=>(z2.all a).mpr<|.inr m
  refine EU (F:=w) (F1:=λa=>M1 a\/G1 a) (F2:=M2) (L:=L) (mrg:=λ(b:B1)(l:S)(p:Bd C J×O)=>I (U.put b p.1) l p.2) (wf:=wf) (p:=(A.get b,p)) (b:=A.hole b) (l:=l) (us:=us) (σ:=k) (Kn:=W) (Ke:=M) s2 #[λa=>?_,λa m n=>?_,λa m n=>?_,λa m n=>Y.Ku a (m2 a m) n] #[some<|.ref a,vs.map some,M1,G1,rfl,⟨λ_=>Iff.rfl,λa m n=>Y.IZ a n<|m1 a m⟩,Ow.wk z3<|Df j L e,h1] z4 h3 (λb' l' L1 L2 L3 o f h G h3 h4 h5 t=>?_) q2 (λx r v M1 M2 f h q' c' N n=>kn x r v M1 M2 f h q' (Ch.trans s s2.tab c2 c') N n) λC y r o f h q' c' N=>ke C y r o f h q' (Ch.trans s s2.tab c2 c') N
  · rw[Y.all, z2.all]
    exact#[λz=>z.elim (λq=>.inl<|.inr q) λz=>z.elim (λz=>z.elim (λq=>.inl<|.inl q) λq=>.inr<|.inl q) λq=>.inr<|.inr q,λz=>z.elim (λz=>z.elim (λq=>.inr<|.inl<|.inl q) .inl) λz=>z.elim (λq=>.inr<|.inl<|.inr q) λq=>.inr<|.inr q]
  · rcases m with m|m
    · exact z2.yP a m n
    · exact Y.IZ a m<|m2 a n
  · rcases m with m|m
    · exact Y.Ku a (m1 a m) n
    · exact Y.Kt a m n
  · refine e4a4 h3 λv' ab N1 N2 y1 Z y3 y4 => ?_
    injection y1 with y5 y6
    subst y5;subst y6
    have tt:DR (λa=>N1 a\/L2 a) N1 L2:=#[λ_=>Iff.rfl,λa m n=>t.IZ a ((Z.all a).mpr<|.inl m) n]
    refine km _ l' N2 (λa=>N1 a\/L2 a) L3 o f h G.2 y4 (Pt.same (A:=U) h4 hv tt y3) h5 #[λa=>?_,λa m n=>?_,λa m n=>t.Kt a ((Z.all a).mpr<|.inr m) n,λa m n=>?_]
    · rw[t.all, Z.all]
      exact#[λz=>z.elim (λz=>z.elim (λq=>.inr<|.inl<|.inl q) .inl) λz=>z.elim (λq=>.inr<|.inl<|.inr q) λq=>.inr<|.inr q,λz=>z.elim (λq=>.inl<|.inr q) λz=>z.elim (λz=>z.elim (λq=>.inl<|.inl q) λq=>.inr<|.inl q) λq=>.inr<|.inr q]
    · rcases n with n|n
      · exact Z.yP a n m
      · exact t.IZ a ((Z.all a).mpr<|.inr m) n
    · rcases m with m|m
      · exact t.Kt a ((Z.all a).mpr<|.inl m) n
      · exact t.Ku a m n
def Q8{n:List iV}(i:Nat){s P h B q o:Type}[Sls s][Sls P][Sls h][Sls B][Sls q][Sls o][Lb o τ<|Bd C g×h]{j:B->o->h->D}{v:D->(P->B->o->Prop)->72->Prop}
 {r:Wf (Bd C g×P) τ (Bd C g×h)} [N:At i D (Bd C g) s] [A:At i B (Bd C g) q] [U:Pt i q (Bd C g) B] {k:Nat} {y:List Str}
 (F:vZ X.prog X.w X.K X.mg X.base (wh X.prog X.w) k f G y (yY T r)) (O:wR k X.A) (Q:Bo X.K C) (R:Meth X.K C m f) (S:Binds X.K G y []) (W:Passes (wh X.prog X.w) X E) (Y:PE X (.Name x z) (vW i))
 (H:∀a b c d u,(zg a b c d u g).lookup m=none)
 (I:∀{t:TA},PA X (e::n) t->PE X 96 (Gk C m (yY T r) [] E (vW i) t)) (J:Li X E T (e::n) j v) :
    EO X E T 96 (cM v r A.get λb l p=>j (U.put (A.hole b) p.1) l p.2):=by
  refine e1a2 J λZ L M=>?_
  exact#[_,I L,JO i H M]
def Q9(i:Nat){h:Type}[Sls h]
 {j:Wf (Bd C e×Unit) τ (Bd C e×Unit)} [A:At i D (Bd C e) h] [U:Pt i h (Bd C e) D] {k:Nat} {B:List Str}
 (F:vZ X.prog X.w X.K X.mg X.base (wh X.prog X.w) k f N B (yY T j)) (hr:wR k X.A) (cl:Bo X.K C) (hm:Meth X.K C m f) (hb:Binds X.K N B []) (hx:Passes (wh X.prog X.w) X E) (hn:PE X (.Name x G) (vW i))
 (O:∀a b c d u,(zg a b c d u e).lookup m=none)
 (P:PE X (.Call (.Attribute (.Name x G) m apos) [] [] pos) (Gk C m (yY T j) [] E (vW i) BX)) :
    EO X E T (.Call (.Attribute (.Name x G) m apos) [] [] pos) (λ(d:D)(o:τ->D->Prop) r=>j (A.get d,()) (λy l=>o y<|U.put (A.hole d) l.1)<|λC l=>r C<|U.put (A.hole d) l.1):=by
  refine#[_,P,λd F R S H o r Q s W Y Z=>?_]
  refine e3a4 (A.take s.rel) λv I M2 J z2 L z4=>?_
  obtain⟨a,dx,d1,d2,d3,d4,aa,rfl,_,g⟩:=id L
  refine#[_,J,a,dx,_,rfl,g.ob,O _ _ _ _ _,?_]
  refine QQ (F:=F) (F1:=I) (F2:=M2) (mrg:=λ(b:h)(p:Bd C e×Unit)=>U.put b p.1) (wf:=j) (p:=(A.get d,())) (b:=A.hole d) (σ:=S) (Kn:=o) (Ke:=r) s.TZ z2 #[some<|.ref a,[],I,λ_=>False,rfl,#[λ_=>#[.inl,λz=>z.elim id λq=>q.elim],λ_ _ z=>z],L,rfl,λ_ z=>z] z4 (λb' G1 G2 ab ae af l h1 h2 t=>?_) W Y Z
  refine e4a4 h1 λv' ag N1 N2 y1 M y3 y4=>?_
  injection y1 with y5 y6
  subst y5
  refine Pt.same (A:=U) h2 J #[λa=>?_,λa m n=>t.yP a ((M.all a).mpr<|.inl m) n] y3
  rw[t.all,M.all]
  exact#[λz=>z.elim (λz=>z.elim .inl λq=>io q<|y4.2 a) .inr,λz=>z.elim (λq=>.inl<|.inl q) .inr]
def tw_trueO{wa:Wf D (OL α) D}(ha:EO X E T a wa)(he:∀whole,rj a X.env whole=(do let v <- whole;nC a.pos;lw [v] (uQ v)):=by intro _;rfl):TW X E T a (cK wa λKn xs d1=>Kn (!xs.l.isEmpty) d1):=by
 refine e1a2 ha λta a1 a2=>?_;refine#[_,Jk a1 he,λd F R σ H Kn Ke Q s hw kn ke=>a2 d F R σ H _ Ke _ s hw (λxs d1 u F1 F2 R1 H1 q1 c1 s1 n1=>?_) ke];refine e2a4 n1.is λb vs e _ h3 h4=>?_;cases e;refine#[!vs.isEmpty,.inl #[vs,wF.of h3,rfl],?_];obtain⟨l⟩:=xs
 have:vs.isEmpty=l.isEmpty:=by
  cases h4<;>rfl
 rw[this];exact kn _ d1 F2 R1 H1 q1 (c1.less λ_ z=>.inr z) s1
def Re{c:Wf D (Tp α) D}(h:Gl X "list")(i:X.mg "list"=none)(j:EW X E T a c)(e:hJ [a] X.env=79::hJ [] X.env:=by rfl) :
  EO X E T (.Call (.Name "list" p) [a] [] pos) (cK c λ(f:OL α->D->Prop) t b=>f #[t.l] b):=by
 refine e1a2 j λN k m=>?_;refine#[_,yd yW h i kA (vy k vJ e) (he:=e),λd F R n H f o Q s r v w=>m d F R n H _ o _ s r (λt b u x O P y z g A=>?_) w];obtain⟨q,S,rfl,_,B,C⟩:=A;refine#[_,_,rfl,.inr<|zI.of B,λl G=>?_];refine e1a3 (yf g G C) λI J L M=>?_;exact v _ b _ _ x I _ y (Ch.trans s g.tab z J) L M
def U7(m:Gl X "tuple")(n:X.mg "tuple"=none)(o:ER X E T a r)(e:hJ [a] X.env=79::hJ [] X.env:=by rfl) :
  EW X E T (.Call (.Name "tuple" p) [a] [] pos) (cK r λ(f:Tp α->D->Prop) g b=>f #[g b] b):=by
 refine e1a2 o λP t v=>?_;refine#[_,yd FS m n qV (vy t vJ e) (he:=e),λd F R w H f x Q s y z A=>v d F R w H _ x _ s y (λg b u h i B C G c I=>?_) A];obtain⟨q,j,rfl,J,L⟩:=I b h i B 57 c;refine#[_,_,rfl,.inl #[wF.of J,λl M=>?_]];refine e0a3 (c.new (.tup j) M) λN k O=>?_;exact z _ b _ h i _ C (Ch.trans s c.tab G k) N #[l,j,rfl,O,vt,c.vals k L]
def ints_of{R:Rg}{H:Hp}:∀{xs:List Int} {vs:List V},Paired (rp R H) xs vs->vs=xs.map V.int:=by
 intro _ _ z
 induction z with
 |nil=>rfl
 |cons h t ih=>rw[show _=V.int _ from h,ih];rfl
def tw_inT{a b:iV}{wa:Wf D Int D}{wb:Wf D (Tp Int) D}(ha:EW X E T a wa)(hb:EW X E T b wb)(hm:jh .In b=false) :
  TW X E T (.Compare a [.In] [b] pos) (cB wa wb λk Kn t d2=>Kn (decide<|k∈t.l) d2):=by
 refine e1a2 ha λta a1 a2=>?_;refine e1a2 hb λtb b1 b2=>?_;refine#[_,yw Go a1 b1 hm,λd F R σ H Kn Ke Q s hw kn ke=>a2 d F R σ H _ Ke _ s hw (λk d1 u F1 R1 H1 q1 c1 s1 r1=>?_) ke];refine b2 d1 F1 R1 σ H1 _ Ke _ s1 q1 (λt d2 v F2 R2 H2 q2 c2 s2 r2=>?_) λC y d' F' R' H' k c s'=>ke C y d' F' R' H' k (Ch.trans s s1.tab c1 c) s';subst r1;obtain⟨l⟩:=t;obtain⟨q,us,rfl,_,h1,h2⟩:=r2;have e:=ints_of (xs:=l) h2;subst e;refine#[q,_,rfl,.inr<|zI.of h1,rfl,Bw _,_,rfl,?_];rw[ci ig,Cu];exact kn _ d2 F2 R2 H2 q2 (Ch.trans s s1.tab c1 c2) s2
def JP{c:iV}{body:List iH}{mb:List Nat}{D2:Type}[Sls D2]{U:Wf D Bool D}{Y:D->(D2->Prop)->106->88->Prop}[Z:Fg D2 D][J:Pj D PO n](I:T0 PO ms n)(hp:sj 54 X.A X.env X.xe)
  (hc:TW X E T c U) (hb:SW X E T mb n body Y) (z:∀i∈ms,i∈mb) :
  S1 X E T ms n (.While c body [] pos) (cW U Y Z.fg J.pj):=by
 refine e1a2 hc λtc c1 c2=>?_;refine e1a2 hb λtb b1 b2=>?_;refine#[_,PM hp c1 b1,λd F R σ H Kn Kr Ke En s hw kn kr ke=>?_];obtain⟨W,⟨m0,w0⟩,r⟩:=hw;refine#[λm e H1=>∃k G l,Ch T F R H G l H1/\wz T G l H1 k e/\Ag mb σ e/\W m k,#[m0,d,F,R,Ch.refl _ _ _ _,s,Ag.refl _ _,w0],?_];rintro m e H1 ⟨k,G,l,k1,L,g1,w1⟩;refine c2 k G l e H1 _ _ _ L (r m k w1) (λb d2 G2 R2 H2 q2 k2 t=>?_) λC y d' F' R' u q c s'=>?_
 ·have j:=Ch.trans s L.tab k1 k2
  cases b with
  |false=>exact kn d2 G2 R2 H2 e q2 j t<|g1.sub z
  |true =>
   refine#[λo u=>∃B,B<m/\∃k G l,Ch T F R H G l u/\wz T G l u k o/\Ag mb σ o/\W B k,λo u h=>h,?_];refine b2 d2 G2 R2 e H2 _ Kr Ke _ t q2 (λd3 G3 R3 H3 aa q3 k3 p g3=>?_) (λx M v M1 M2 N H4 O P f n4=>?_) λC y M F4 N H4 O P f=>?_
   ·refine e1a2 q3 λB hm w3=>?_;refine e1a2 (Z.le p.rel) λG5 Q r5=>?_;exact#[B,hm,_,G5,R3,(Ch.trans s t.tab j k3).less Q,#[r5,λa h=>p.sub a<|Q a h,p.xI,p.tab,p.wj,λh=>p.v0<|Q T h],g1.trans g3,w3]
   ·exact kr x M v M1 M2 N H4 O (Ch.trans s t.tab j P) #[I.dp (g1.sub z) f.rel,f.sub,f.xI,f.tab,f.wj,f.v0] n4
   ·exact ke C y M F4 N H4 O (Ch.trans s t.tab j P) #[I.dp (g1.sub z) f.rel,f.sub,f.xI,f.tab,f.wj,f.v0]
 ·refine e1a2 (wM (PO:=PO) s') λG' S g=>?_;exact ke C y _ G' R' u q ((Ch.trans s L.tab k1 c).less S) #[I.dp (g1.sub z) g.rel,g.sub,g.xI,g.tab,g.wj,g.v0]
end
open PyProof.Rows hiding K
noncomputable def Ite(K:hI)(a:g9):It :=
 #[λi H=>∃b x,wF K H a b/\b[i]?=↑x,λi H v c=>∃p x,v=.ref p/\H p=none/\c=upd H p (.tup [.int i,x])/\∀b,wF K H a b->b[i]?=↑x,λi H=>∃b,wF K H a b/\b.length<=i]
def U8{t':Nat}{xs:List V}{nh:Nat}(I:Inv X d y H s)(i:BS X d H e)(j:BS X d H l)(x:⇑s<=a)(k:∀b o,b≠e->b≠l->s.heap.get? b=↑o->h'.get? b=↑o)(A:xs.length<=hV)(r:Vals xs us)(B:IsTup h' a us.toArray) :
  Inv X d y (upd H a<|.tup xs) { s with heap:=h',toks:=t'}:=by
 have C:=I.wg.fresh x;have f:∀b u,H b=↑u->b≠e/\b≠l:=λb u q=>#[λz=>(by rw[z,i.1]at q;cases q),λz=>(by rw[z,j.1]at q;cases q)];have t:∀b o,b∉[e,l]->s.heap.get? b=↑o->h'.get? b=↑o:=λb o h q=>k b o (λz=>h<|by simp[z]) (λz=>h<|by simp[z]) q;have p:∀{b u},H b=some u->upd H a (.tup xs) b=some u:=λ{b u} q=>by rw[vo<|vC q C];exact q
 refine I.step (g':=s.gens) (d':=s.drawn) (ch:=[e,l]) (λb h=>?_) (λb o _ _ g q _=>t b o g q) (λb o _ _ g q _=>#[o.slots,t b o g q]) (λb o g q n=>?_)
  (λb o g q=>#[o,t b o g q]) (λ_ _ q=>p q) (λ_ _ _ q=>p q) (λb J q=>#[#v[],by rw[p q];simp]) (λm D=>?_) (λb u q=>?_) I.bare
 ·rcases List.mem_cons.mp h with z|z
  ·subst z;exact#[i.2.2.2.1,i.2.1,i.2.2.2.2.1,i.2.2.2.2.2]
  ·have z:b=l:=by simpa using z
   subst z;exact#[j.2.2.2.1,j.2.1,j.2.2.2.2.1,j.2.2.2.2.2]
 ·rw[vo<|λz=>io (hX q)<|by rw[z];exact Nat.not_lt.mpr x];exact n
 ·refine e3a2 D λo E F G r=>?_;exact#[o,E,F,k _ o (Ne.symm i.2.1) (Ne.symm j.2.1) G,r]
 ·by_cases h:b=a
  ·subst h;rw[vt]at q;cases q;exact#[A,us,r,B]
  ·rw[vo h]at q;refine(I.wg b u q).BP (λc v g w=>?_) (λc w=>p w) λc L w=>p w;rcases g with z|z
   ·rw[z]at w ⊢;exact k b v (f b u q).1 (f b u q).2 w
   ·exact k c v (f c _ z).1 (f c _ z).2 w
def OF{K:hI}{x1}(a e it:g9)(hne:e≠it):Turn P w K (.Tuple els x1 tp) (Ite K a) [e,it] e (λi h=>(∃old,IsEnum h e it i old)/\h.IsListIter it a i) where
 mem:=by simp
 obj:=λi h st b hb=>by
  obtain⟨⟨old,h1⟩,⟨o,h2,c,d⟩⟩:=st;rcases List.mem_cons.mp hb with z|z
  ·subst z
   exact#[_,h1,λv z=>by
    have z':ud _=Data.cell v:=z
    cases z']
  ·have z:b=it:=by simpa using z
   subst z;exact#[o,h2,λv z=>by rw[d]at z;cases z]
 keep:=λi h h' st k=>#[e1a1 st.1 λold h1=> #[old,k e q0o _ h1],st.2.at λo q=>k it q0o o q]
 item:=by
  intro X hP hw hK hc i pins s σ H E I hf st hg;subst hP hw hK;refine e2a2 hg λxs x hq hx=>?_;refine e1a3 (I.list hq) λAD rv p hz=>?_;refine e1a2 (rv.get hx) λu hu ru=>?_;obtain⟨⟨old,h1⟩,h2⟩:=st;have fe:=hf e q0o;have fi:=hf it q0o;refine wpAny_pyNext_enum_item h1 h2 p.isList (x:=u) (by simpa using hu) hne λh' a1 a2 a3 a4 a5=>#[_,rfl,wpAny_letOwnedTupleGo_enum a1 λh2' b1 b2=>?_];have hel:e<⇑s:=hX h1;have t2:h2'.get? ⇑s=some { cls:=.type "tuple",data:=.seq #v[.int i s.toks,u]}:=b2.extBut _ _ (jA hel) a3;refine#[.ref ⇑s,upd H ⇑s<|.tup [.int i,x],U8 (s:=s) (h':=h2') (t':=s.toks+1) (xs:=[.int i,x]) (us:=[.int i s.toks,u]) (nh:=0) I fe fi (hO _) (λb o n1 n2 q=>b2.extBut b o n1<|a5 b o n1 n2 q) (by show 2<=hV;decide) (.cons ⟨_,rfl⟩<|.cons ru .nil) ⟨_,t2,rfl,_,rfl⟩,rfl,⟨_,x,rfl,I.wg.fresh<|hO _,rfl,λys hy=>by rw[I.Ji hy hq];exact hx⟩,#[#[_,b1],a2.extBut b2.extBut<|Ne.symm hne],λb hb=>?_];rw[vo]
  ·exact(hf b hb).1
  ·refine e1a2 h2 λo ho _=>?_;rcases List.mem_cons.mp hb with z|z
   ·rw[z];exact im hel
   ·have z:b=it:=by simpa using z
    rw[z];exact im<|hX ho
 done:=by intro X hP hw hK hc i pins s σ H E I hf st hg;subst hP hw hK;refine e1a2 hg λxs hq hx=>?_;refine e1a3 (I.list hq) λAD rv p hz=>?_;obtain⟨⟨old,h1⟩,h2⟩:=st;refine e0a6 (hf it q0o) λf0 f1 f2 f3 f4 f5=>?_;have hl:=rv.length;exact wpAny_pyNext_enum_end (I.ok.hd hc) h1 h2 p.isList (by simp;lia) λh' eb=>97
 self:=λ_ _ _ _ _ st h=>wpAny_pyIter_enum st.1.choose_spec h
section
variable{D:Type}[Sls D]{α:Type}[Rep α]
def a0H(K:hI)(c:TA):TI:=λd H R=>c d H λe b=>∃a,e=[.ref a]/\(∃f,wF K b a f)/\R (Ite K a) b
def U9{i}(j:Gl X "enumerate")(k:X.mg "enumerate"=none)(l:PA X [a] m)(n:hJ [a] X.env=[79]:=by rfl):PI X (.Tuple o i G) (.Call (.Name "enumerate" p) [a] [] pos) (a0H X.K m):=by
 intro d s t H R I h;refine PyProof.Rows.Call_<|zZ I j k PyProof.Rows.boot_enumerate<|ky (wc (l pos d s t H _ I h) λJ c u=>e2a3 u λL v f w x=>?_) n rfl;obtain⟨a,e,⟨M,y⟩,q⟩:=x;subst e
 cases w with
 |cons r A =>
  cases A;cases r;refine e1a3 (f.list y) λB N p O=>?_;refine call_enumerate_list p.isList λP g C Q E=>?_;refine wpAny_pyIter_enum g ?_;refine#[⇑c+1,[⇑c+1,⇑c],_,_,v,rfl,f.kept (t':=c.toks) E,OF a _ _<|jA<|jK _,⟨⟨_,g⟩,C⟩,λb F=>?_,q]
  have e:⇑c<=b:=by
   rcases List.mem_cons.mp F with z|z
   ·rw[z];exact mn _
   ·have z:b=⇑c:=by simpa using z
    rw[z];exact hO _
  exact f.G0 e<|f.wg.fresh e
noncomputable def OG:Nat->List α->List (Int×α)
 |_,[]=>[]
 |k,x::r=>((k:Int),x)::OG (k+1) r
def Ee:∀(k:Nat)(a:List α),(OG k a).length=a.length
 |_,[]=>rfl
 |k,x::r=>by show (OG (k+1) r).length+1=r.length+1;rw[Ee (k+1) r]
def Nc:∀(k:Nat)(a:List α)(i:Nat),(OG k a)[i]?=(a[i]?).map λx=>(((k+i:Nat):Int),x)
 |_,[],_=>by simp[OG]
 |k,x::r,0=>by simp[OG]
 |k,x::r,i+1=>by
  show (((k:Int),x)::OG (k+1) r)[i+1]?=_;rw[sX,sX,Nc (k+1) r i];congr 1
  funext y
  rw[show k+1+i=k+(i+1) by lia]
def Fa{K:hI}{xs:List α}{vs:List V}:Zx (Ite K a) (OG 0 xs) (λR H=>H a=↑(.lst vs)/\Paired (rp R H) xs vs) where
 go:=λ{R H i} p h=>by rw[Ee]at h;obtain⟨v,e,_⟩:=xm (i:=i) (x:=xs[i]) p.2 (by simp[h]);exact#[vs,v,wF.of p.1,e]
 IY:=λ{R H i v H'} p xI hi y=>by rw[Ee]at hi;obtain⟨q,w,e,hq,e',y⟩:=y;subst e e';have y':=y vs<|wF.of p.1;obtain⟨u,e,r⟩:=xm (i:=i) (x:=xs[i]) p.2 (by simp[hi]);rw[y']at e;cases e;have ex:Ext R R H R (upd H q<|.tup [.int i,w]):=⟨λb o _ z=>by rw[vo<|vC z hq];exact z,λ_ z=>.inl z⟩;refine#[.inr #[q,_,hq,rfl],((i:Int),xs[i]),?_,q,.int i,w,rfl,λz=>xI q z hq,vt,rfl,Rep.st r ex];rw[Nc,jJ hi,tS];rfl
 stop:=λ{R H} p=>#[vs,wF.of p.1,by rw[Ee,Paired.length p.2];exact hO _]
def Va{i:List iV}{A}{w:Wf D (List α) D}(B:Gl X "enumerate")(C:X.mg "enumerate"=none)(h:EW X E T e w)(G:hJ [e] X.env=70::hJ [] X.env:=by rfl)(j:hJ [e] X.env=[70]:=by rfl) :
  IW X E T is (.Tuple i A tp) (.Call (.Name "enumerate" p) [e] [] pos) (λ(b:D) (_:List (Int×α))=>b) (cK w λo f k=>o (OG 0 f) k):=by
 refine e1a2 h λt I J=>?_;refine#[_,U9 B C (vy I vJ G) j,λd F R L H o Ke Rk s M N O=>J d F R L H _ _ _ s M (λf k v l P Q q c u r=>?_) O];obtain⟨a,m,rfl,S,x,U⟩:=r;refine#[a,rfl,#[m,wF.of x],N (OG 0 f) k _ (λR H=>(H a=↑(.lst m)/\Paired (rp R H) f m)/\¬R a) l (λ_=>False) l P Q q c u.TZ (two_nil l) u.rel #[λp=>Fa.go p.1,λp=>Fa.IY p.1,λp=>Fa.stop p.1] #[#[x,U],S] (λp y nf n=>?_) λb' G2 W Y Z aa p h g t=>Sls.fq h<|two_eq t λ_ z=>z];have na:¬_:=λz=>p.2<|y a z;exact#[#[n.keep a _ na p.1.1,wG (n.wide y) p.1.2],n.not p.2 p.1.1]
end
def HG(C:g9):Sp:=λf H Q E=>∃p e,f=[.ref p]/\H p=↑(.ins C e []) /\
 ∀c d a,H c=none->H d=none->c≠d->a p=↑(.ins C e<|zg c d 0 0 0 false)->a c=↑(.dK [])->a d=↑(.dK [])->(∀b o,b≠p->H b=↑o->a b=↑o)->Q .wV a
def Vb{C:g9}{m:iH}{k:Nat}(F:zj K "__init__" i m f D)(S:vz ["self"] ["self"] (vn m))(g:AB K C)
 (j:∀(d:cr)(A:jL)(a:List Env)(s:hW)(H:Hp)(E:XK),FP (wl (wh P w) P w K G base ["self"] i (vn m) f d A a s H E) (vY m)<|Kz (N7 K (vW 0) EB "ranks")<|Kz (N7 K (vW 0) EB "borders")<|N7 K (vW 0) (tC<|.int 0) "upcoming") :
    vZ P w K G base (wh P w) (k+1) f D ["self"] (HG C):=by
  obtain⟨T,U,W,I,X,Y,d,J,L,rfl,lk,t⟩:=F.ex
  refine Jq lk t S (λM H Q E N=>e2a2 N λp l e _=>by rw[e];rfl) λO a s H M Q E Z u=>#[_,j d O a s H E,?_]
  obtain⟨p,l,rfl,B,k⟩:=u
  intro h v
  have n:p≠h:=vC B v
  have R:upd H h (.dK []) p=↑(.ins C l []):=by rw[vo n];exact B
  refine#[_,rfl,p,C,l,[],rfl,R,g.cl,g.nR,q0q,?_]
  intro q c
  have r:p≠q:=λz=>by rw[<- z,vt]at c;cases c
  rw[vo r.symm]at c
  have x:q≠h:=λz=>by rw[z,vt]at c;cases c
  rw[vo x]at c
  refine#[_,rfl,p,C,l,[("ranks",.ref h)],rfl,?_,g.cl,g.nB,(by show 1<1000;decide),?_]
  · rw[vo r, vt]
    rfl
  refine#[_,rfl,p,C,l,[("ranks",.ref h),("borders",.ref q)],rfl,?_,g.cl,g.nU,(by show 2<1000;decide),?_]
  · rw[vt]
    rfl
  refine k h q _ v c x.symm ?_ ?_ ?_ λb o y j=>?_
  · rw[vt]
    rfl
  · rw[vo n.symm, vo n.symm, vo x.symm, vo n.symm, vt]
  · rw[vo r.symm, vo r.symm, vt]
  · rw[vo y, vo y, vo<|vC j c, vo y, vo<|vC j v]
    exact j
structure Mf(K:hI)(C:g9)(m qual:Str)(st:iH)(ps:List Str)(f:g9)(fd:iW):Prop where
 fn:zj K m qual st f fd
 me:Meth K C m f
 bd:Binds K fd ps []
structure Xc(K:hI)(mg:Str->Option cr)(x:Str)(C:g9):Prop where
 ex:∃(DS:List cr)(B newId yQ:String),mg x=↑(.ref C)/\jE K C DS newId=true/\kT B newId yQ DS
 g0:∀H',GX.g C none H'
def DT{k:Nat}(r:wR k A):A.units+1<kF:=mQ (Nat.add_le_add_left q0q _) r.units
noncomputable def a2T(s:iH):List iH:=match s with
 | .ClassDef _ _ _ body _ _ _ _ _ _ _=>body
 |_=>[]
noncomputable def A6(s:iH)(i:Nat):iH:=(a2T s).getD i<|.Pass #[0,0,0,0]
section
variable{D D' PO τ:Type}[Sls D][Sls D'][Sls PO][Ow τ]
def CF{k:Nat}{C:g9}[J:Pj D PO n](r:Gl 90 x)(h:Xc K e x C)(l:(x==66)=false:=by decide)
 (q:hJ [.Constant (.str m) k mp] (90).env=(false,eval (.Constant (.str m) k mp) (90).env)::hJ [] (90).env:=by rfl)
 (o:(jB i<|hJ [] (90).env).any (·.1)=false:=by rfl) :
    S1 90 E T z n (.Raise (some<|.Call (.Name x np) [.Constant (.str m) k mp] [] i) none pos) (λ(d:D)(_:D'->Prop)(_:τ->PO->Prop) t=>t C<|J.pj d):=by
  obtain⟨u,B,p,j,v,O,y⟩:=h.ex
  exact E6<|EK r v O y h.g0 (vy GY vJ q) l q o
end
section
variable{D:Type}[Sls D]
def Rf{i:Int}(b:Gl X x)(c:X.mg x=↑(.int i t))(e:(x==66)=false:=by decide):EW X E T 101 (λ(d:D)(a:Int->D->Prop) _=>a i d) :=
 #[_,MG (v:=.int i) b c #[t,rfl] e,λd F R h H a j Q s f g _=>g i d _ F R H f 57 s rfl]
end
noncomputable def Sf(f:Int->List Int)(x:Int):List Int->Bool
 | []=>false
 |c::l=>xor (decide<|x∈f c)<|Sf f x l
def Nd{x:Int}{a:List Int}(p:a.Perm b):Sf f x a=Sf f x b:=by
 induction p with
 |nil=>rfl
 |cons c _ e=>show xor _ _=xor _ _;rw[e]
 |swap c d l=>show xor _ (xor _ _)=xor _ (xor _ _);rw[<- oq,<- oq,Bool.xor_comm<|decide<|x∈f d]
 |trans _ _ g h=>exact g.trans h
def YN{x k:Int}(h:yN l):Sf f x (Lo l k)=xor (decide<|x∈f k) (Sf f x l):=by
 by_cases q:k∈l
 ·have e:Lo l k=Ll k l:=g8 q
  have p:l.Perm (k::Ll k l):=by
   refine wJ (vS h) (List.nodup_cons.mpr #[λz=>(AZ.mp z).2 rfl,vS<|kg _ h]) λy=>?_;rw[iK,AZ];by_cases z:y=k
   ·rw[z];simp[q]
   ·simp[z]
  rw[e,Nd p];show _=xor _ (xor _ _);rw[<- oq,Bool.xor_self,sf]
 ·have e:Lo l k=FY k l:=ci q
  have p:(FY k l).Perm (k::l):=by refine wJ (vS<|Eb h) (List.nodup_cons.mpr ⟨q,vS h⟩) λy=>?_;rw[iK,CA]
  rw[e,Nd p];rfl
def Rh{x:Int}:∀{b a:List Int},yN a->Sf f x (xr a b)=xor (Sf f x a) (Sf f x b)
 | [],a,_=>by show Sf f x a=xor _ false;rw[sg]
 |k::b,a,h=>by show Sf f x (xr (Lo a k) b)=xor (Sf f x a) (xor (decide<|x∈f k)<|Sf f x b);rw[Rh<|Na h,YN h,<- oq,Bool.xor_comm<|Sf f x a]
def Ri{x:Int}:∀{l:List Int} {a:List Int},(∀c∈l,(f c).Nodup)->decide (x∈(l.map f).foldl xr a)=xor (decide<|x∈a) (Sf f x l):=by
 intro d
 induction d with
 |nil=>intro a _;show decide (x∈a)=xor _ false;rw[sg]
 |cons c l b =>
  intro a h;show decide (x∈(l.map f).foldl xr (xr a<|f c))=xor _ (xor _ _);rw[b<|λy g=>h y<|ie _ g,<- oq];congr 1;have e:=B4 (l:=a) (x:=x)<|h c h8;by_cases p:x∈a<;>by_cases q:x∈f c<;>simp[p,q,e]
noncomputable def wL(f:Int->List Int)(l:List Int):List Int:=PB<|l.map f
def zR{x:Int}(h:∀c∈l,(f c).Nodup):decide (x∈wL f l)=Sf f x l:=by unfold wL PB;rw[Ri h];rw[iC q0o,sf]
def yF(f:Int->List Int)(l:List Int):yN (wL f l):=U0 _
def JQ(c:yN a)(d:yN b)(h:∀x,decide (x∈a)=decide (x∈b)):a=b:=HB c d λk=>by have:=h k;by_cases p:k∈a<;>by_cases q:k∈b<;>simp[p,q]at this ⊢
def JR{x:Int}(h:∀c∈l,(f c).Nodup)(a:x∈wL f l):∃c∈l,x∈f c:=by
 have e:=zR (x:=x) h;rw[decide_eq_true a]at e;clear a
 induction l with
 |nil=>cases e
 |cons c l b =>
  by_cases q:x∈f c
  ·exact#[c,h8,q]
  ·have e:true=xor (decide<|x∈f c) (Sf f x l):=e;rw[iC q,sf]at e;obtain⟨d,g,i⟩:=b (λy j=>h y<|ie _ j) e;exact#[d,ie _ g,i]
def Vc(h:yN a)(i:yN b)(d:∀c∈a,(f c).Nodup)(g:∀c∈b,(f c).Nodup):wL f (xr a b)=xr (wL f a) (wL f b) :=
 JQ (yF _ _) (A4<|yF _ _) λx=>by rw[zR λc j=>(Q6 (vS i) j).elim (d c)<|g c,Rh h,<- zR d,<- zR g];have e:=B4 (l:=wL f a) (x:=x)<|vS<|yF f b;by_cases p:x∈wL f a<;>by_cases q:x∈wL f b<;>simp[p,q,e]
def Nf{x:Int}:∀{l a:List Int},yN a->(∀c∈l,yN (f c)/\Sf f x (f c)=false)->Sf f x ((l.map f).foldl xr a)=Sf f x a
 | [],_,_,_=>rfl
 |c::l,a,b,h=>by show Sf f x ((l.map f).foldl xr<|xr a<|f c)=_;rw[Nf (A4 b) λy d=>h y<|ie _ d,Rh b,(h c h8).2,sg]
def OH(h:∀c∈l,yN (f c)/\(∀d∈f c,(f d).Nodup)/\wL f (f c)=[]):wL f (wL f l)=[] :=
 JQ (yF _ _) iP λx=>by
  rw[zR,iC q0o]
  ·exact Nf (x:=x) (l:=l) iP λc a=>#[(h c a).1,by rw[<- zR (h c a).2.1,(h c a).2.2];rfl]
  ·intro d b;obtain⟨c,a,b⟩:=JR (λc a=>vS (h c a).1) b;exact(h c a).2.1 d b
def xL(h:∀c∈l,f c=g c):wL f l=wL g l:=by unfold wL;rw[mE h]
structure YO(K:hI) where
def Rj(K:hI)(R:Rg)(H:Hp)(a:g9)(c:List Int):Prop :=
 (¬R a/\Rd H a (.lst<|c.map V.int))\/∃(o:qW)(b:Array cr)(n:Nat),K.lookup a=↑o/\o.cls=.type "list"/\o.dict=none/\o.data=.seq b n/\b.size<=hV/\Vals (c.map V.int) b.toList
def Rj.sq{K:hI}(h:Rj K R H a b):wF K H a (b.map V.int):=h.elim (λz=>.inl z.2) .inr
instance(K:hI):Rep (YO K):=#[λR H _ v=>∃a ns,v=.ref a/\Rj K R H a ns,λ{R H R' H' x v} h e=>by
 refine e2a2 h λa ns h1 h2=>?_;refine#[a,ns,h1,?_];rcases h2 with⟨n,r⟩|r
 ·rcases r with r|⟨o,r⟩
  ·exact .inl #[e.not n r,.inl<|e.keep a _ n r]
  ·exact .inl #[e.not n r,.inr #[o,e.keep a _ n r]]
 ·exact .inr r]
def Xa(K:hI):Sp:=λd H Q _=>∃(a:g9)(e:List Int),d=[.ref a]/\wF K H a (e.map V.int)/\∀b g q c s,DQ H b->DG b g q c 0 0 s->H g=none->H q=none->Q (.ref g) b
def Rl(K:hI):Wf (YO K×Unit) Bg (Un×Unit):=λ_ a _=>a #[] (#[],())
def Xb(K:hI):Wf (YO K×Unit) Bool (Un×Unit):=λ_ a _=>a true (#[],())
def a0I(F:vZ P w K y base Qk k f A C (Xa K)):vZ P w K y base (wh P w) k f A C (yY T<|Rl K) :=
 (W5 F).imp λD H Q E G=>e5a4 G λF R p Kn Ke s I J _=>by
  obtain⟨v,L,F1,F2,d,h2,⟨n1,u,e,a,M,N,O⟩,S⟩:=s.rel;subst e N
  match D,d with
  | [],d=>cases d
  |x::r,d =>
   injection d with U W;cases U
   have X:r=[]:=by have:=S.1;rw[<- W]at this;exact List.map_eq_nil_iff.mp this
   subst X;refine#[a,M,rfl,O.sq,λn g q j Y i B l m=>?_];have Z:Ext (λ_=>False) R H (λc=>R c\/c=g\/c=q) n:=#[λb o _ h=>i b o h,λc h=>h.elim .inl λz=>.inr<|z.elim (λz=>by rw[z];exact l) λz=>by rw[z];exact m];refine J #[] (#[],()) (.ref g) (λc=>c=g\/c=q) (λ_=>False) (λc=>R c\/c=g\/c=q) n I #[λb o _ _ h=>i b o h,Z.new,λc h=>h.elim (λz=>.inr<|z.elim (λz=>by rw[z];exact l) λz=>by rw[z];exact m) λz=>z.elim,λc h _=>.inl h] #[#[some<|.ref a,[],λ_=>False,λ_=>False,rfl,#[λ_=>#[λz=>z.elim,λz=>z.elim id id],λ_ z _=>z],λ_ z=>z,rfl,λ_ z=>z],λ_ z=>z.elim,λc h=>?_,?_,.inl s.wj,λz=>z] #[#[g,q,j,0,0,Y,rfl,λ_=>Iff.rfl,B],λc h=>.inr h,λ_ _ z=>z,λz=>?_]
   ·rcases h with h|h|h
    ·cases e:H c with
     |none=>exact io e<|s.xI c h
     |some o=>rw[i c o e];simp
    ·rw[h,B.ob];simp
    ·rw[h,B.sc];simp
   ·refine e1a2 s.tab λqs e t=>?_;exact#[qs,i _ _ e,t]
   ·have:=zP s.tab;rcases z with z|z
    ·rw[z]at this;exact this l
    ·rw[z]at this;exact this m
def Ng(K:hI)(b:g9):Sp:=λc H Q _=>∃(a:g9)(d:List Int),c=[.ref a]/\wF K H a (d.map V.int)/\TabAt H b/\∀e,Q (.bl true) e
def a0J(F:vZ P w K g base (wh P w) k f i j (yY T<|Xb K)):vZ P w K g base (wh P w) k f i j (Ng K T) :=
 F.imp λB H Q E l=>e2a4 l λa m e p b s=>by
  subst e;refine#[λ_=>False,λc=>c=T,(#[],()),λx _=>x=true,λ_ _=>False,#[#[some<|.ref a,[],λ_=>False,λ_=>False,rfl,#[λ_=>#[λz=>z.elim,λz=>z.elim id id],λ_ z _=>z],#[λ_ z=>z,_,rfl,a,m,rfl,?_],rfl,λ_ z=>z],λ_ z=>z.elim,λc h=>by rw[h];exact zP b,b,rfl,λz=>z],rfl,λx t v D G A d q c I n=>?_,λC y t J A d q=>q.elim]
  ·rcases p with r|r
   ·refine .inl #[λz=>?_,r];refine e1a2 b λL e _=>?_;rcases r with r|⟨o,r⟩
    ·rw[z,e]at r;cases r
    ·rw[z,e]at r;cases r
   ·exact .inr r
  ·obtain⟨_,u,e,r⟩:=n.is;cases e;rw[r,q];exact s d
def a0K(F:vZ P w K d base (wh P w) k f g i c)(h:∀b H Q E,c b H Q E->c b H Q XF):vZ P w K d base Qk k f g i c :=
 #[F.len,λA a s H args j b Q E l m n o p=>kh (F.run A a s H args j b Q XF l m n o (h _ _ _ _ p)) λr t z=>by
  cases r with
  |error e =>
   obtain⟨_,_,_,_,_,z⟩:=z;exact z.elim
  |ok q =>
   cases q with
   |ret u=>exact z
   |next=>exact iO z
   |brk=>exact iO z
   |cont=>exact iO z]
structure Fk(P:iN)(w:jf)(K:hI)(mg:Str->Option cr)(base:i9)(T:g9)(x:Str)(ps:List Str){A PO τ:Type}[Sls A][Sls PO][Ow τ](wf:Wf A τ PO)(k:Nat) where
 f:g9
 fd:iW
 ok:vZ P w K mg base (wh P w) k f fd ps (yY T wf)
 at_:mg x=↑(.ref f)
 kp:jv K (.ref f)=true
 bd:Binds K fd ps []
structure Fm(P:iN)(w:jf)(K:hI)(mg:Str->Option cr)(base:i9)(T C:g9)(m:Str)(ps:List Str){A PO τ:Type}[Sls A][Sls PO][Ow τ](wf:Wf A τ PO)(k:Nat) where
 f:g9
 fd:iW
 ok:vZ P w K mg base (wh P w) k f fd ps (yY T wf)
 me:Meth K C m f
 bd:Binds K fd ps []
section
variable{P:iN}{w:jf}{K:hI}{mg:Str->Option cr}{base:i9}{T C f:g9}{fd:iW}{x:Str}{ps:List Str}{A PO τ:Type}[Sls A][Sls PO][Ow τ]{wf:Wf A τ PO}{j k:Nat}
noncomputable def Fk.up(h:Fk P w K mg base T x ps wf j)(l:j<=k:=by decide):Fk P w K mg base T x ps wf k:=#[h.f,h.fd,h.ok.mono l,h.at_,h.kp,h.bd]
noncomputable def Fm.up(h:Fm P w K mg base T C x ps wf j)(l:j<=k:=by decide):Fm P w K mg base T C x ps wf k:=#[h.f,h.fd,h.ok.mono l,h.me,h.bd]
end
section
variable{D:Type}[Sls D]
def vE{P a B d f:Type}[Sls P][Sls a][Sls B][Sls d][Ow f][Lb d f a]{b:B->d->a->D}{j:Wf P f a}{l:D->(P->B->d->Prop)->72->Prop}{k:Nat}{m:List Str}{c:List iV}
 (h:Fk X.prog X.w X.K X.mg X.base T x m j k) (n:Li X E T (e::c) b l) (hr:wR k X.A:=by assumption) (o:Gl X x:=by exact rfl) (hx:Passes (wh X.prog X.w) X E:=by exact xM) (g:(x==66)=false:=by decide) (q:hJ (e::c) X.env=70::hJ c X.env:=by rfl) (i:(jB pos<|hJ c X.env).any (·.1)=false:=by rfl) :
    EO X E T (.Call (.Name x p) (e::c) [] pos) (cC l j b):=Cw h.ok hr o h.at_ h.kp h.bd hx n g q i
variable{τ:Type}[Ow τ]
def wu{g:List iV}(i:Nat){v P n B r q:Type}[Sls v][Sls P][Sls n][Sls B][Sls r][Sls q][Lb q τ<|Bd C j×n]{o:B->q->n->D}{y:D->(P->B->q->Prop)->72->Prop}
 {z:Wf (Bd C j×P) τ (Bd C j×n)} [R:At i D (Bd C j) v] [A:At i B (Bd C j) r] [U:Pt i r (Bd C j) B] {k:Nat} {I:List Str} {J:Sem Bool}
 (h:Fm X.prog X.w X.K X.mg X.base T C m I z k) (L:Li X E T (e::g) o y) (hr:wR k X.A:=by assumption) (F:Bo X.K C:=by exact AB.cl<|by assumption) (hx:Passes (wh X.prog X.w) X E:=by exact xM) (G:PE X (.Name x s) (vW i):=by exact pv _) (M:∀a b c d u,(zg a b c d u j).lookup m=none:=by intros;rfl)
 (N:hJ (e::g) X.env=70::hJ g X.env:=by rfl) (O:(jB pos<|hJ g X.env).any (·.1)=false:=by rfl)
 (Q:eval (.Call (.Attribute (.Name x s) m apos) (e::g) [] pos) X.env=(do
 let H <- eval (.Name x s) X.env
 nC apos.atName
 let (f,first) <- lw [H] (nc H m J)
 n6 pos f first (jB pos (hJ (e::g) X.env)) (nE pos (lx [] X.env))):=by rfl) :
    EO X E T (.Call (.Attribute (.Name x s) m apos) (e::g) [] pos) (cM y z A.get λb l p=>o (U.put (A.hole b) p.1) l p.2) :=
  Q8 i h.ok hr F h.me h.bd hx G M (λt=>Uf G F h.me h.ok hr h.bd .nil hx t N O Q) L
def zq(i:Nat){g:Type}[Sls g]{n:Wf (Bd C e×Unit) τ (Bd C e×Unit)}[A:At i D (Bd C e) g][U:Pt i g (Bd C e) D]{k:Nat}{t:List Str}{v:Sem Bool}
 (h:Fm X.prog X.w X.K X.mg X.base T C m t n k) (o:wR k X.A:=by assumption) (p:Bo X.K C:=by exact AB.cl<|by assumption) (q:Passes (wh X.prog X.w) X E:=by exact xM) (r:PE X (.Name x j) (vW i):=by exact pv _) (z:∀a b c d u,(zg a b c d u e).lookup m=none:=by intros;rfl)
 (B:eval (.Call (.Attribute (.Name x j) m apos) [] [] pos) X.env=(do
 let s <- eval (.Name x j) X.env
 nC apos.atName
 let (f,first) <- lw [s] (nc s m v)
 n6 pos f first (jB pos (hJ [] X.env)) (nE pos (lx [] X.env))):=by rfl) :
    EO X E T (.Call (.Attribute (.Name x j) m apos) [] [] pos) (λ(d:D)(F:τ->D->Prop) G=>n (A.get d,()) (λy l=>F y<|U.put (A.hole d) l.1)<|λC l=>G C<|U.put (A.hole d) l.1) :=
  Q9 i h.ok o p h.me h.bd q r z (P1 r p h.me h.ok o h.bd .nil q B)
end
end WL
namespace WL
open PySem L2
open Rep (rp)
open Ow (sl)
open Sls (rel)
section
structure Dq(K:hI)(x:Str)(st:iH):Prop where
 ex:∃f fd,iv K iq x=↑(some<|.ref f)/\zj K x x st f fd
structure Mq(K:hI)(C:g9)(m q:Str)(st:iH):Prop where
 ex:∃f fd,Meth K C m f/\zj K m q st f fd
def a0L{b:iH}{e:cr}(a:iv K iq x=↑(some<|.ref f))(l:K.lookup f=some #[i,j,.func<|jQ x x (wv b) (vY b) (vn b) .none e g pm m d n,h])
 (c:jI K d x=true)(k:jv K (.ref f)=true):Dq K x b:=#[_,_,a,ED l c k]
def a0M{b:iH}{e:cr}(a:iG K (.ref C) x=↑(some<|.ref f))(i:oR K (.ref f)=true)(l:K.lookup f=some #[j,m,.func<|jQ x q (wv b) (vY b) (vn b) .none e g pm n d o,h])
 (c:jI K d q=true)(k:jv K (.ref f)=true):Mq K C x q b:=#[_,_,#[a,i,k],ED l c k]
noncomputable def Dq.f{x:Str}{a:iH}(q:Dq K x a):g9:=q.ex.choose
noncomputable def Dq.d{x:Str}{a:iH}(q:Dq K x a):iW:=q.ex.choose_spec.choose
noncomputable def Mq.f{x q:Str}{a:iH}(m:Mq K C x q a):g9:=m.ex.choose
noncomputable def Mq.d{x q:Str}{a:iH}(m:Mq K C x q a):iW:=m.ex.choose_spec.choose
def Dq.fn{a:iH}(q:Dq K x a)(X:K.In h)(G:h.Ns iq j)(c:List Str)
 (b:∀(k e l:cr)(m:Option g9)(g n:cr)(i:List cr),i.length=c.length->tM (jQ x x (wv a) (vY a) (vn a) .none k e l m g n) #[i,[]]=pure (c.zip i)):Fn K j x a c q.f q.d :=
  have h:=q.ex.choose_spec.choose_spec;#[h.2,jc X G h.1,h.2.binds b]
def Mq.fn{a:iH}(m:Mq K C x q a)(c:List Str)
 (b:∀(j e k:cr)(l:Option g9)(g n:cr)(i:List cr),i.length=c.length->tM (jQ x q (wv a) (vY a) (vn a) .none j e k l g n) #[i,[]]=pure (c.zip i)):Mf K C x q a c m.f m.d :=
  have h:=m.ex.choose_spec.choose_spec;#[h.2,h.1,h.2.binds b]
variable[L2.GX]
noncomputable def Fn.fk{x:Str}{h:iH}{a:List Str}{f:g9}{b:iW}{A c d:Type}[Sls A][Sls c][Ow d]{e:Wf A d c}{k:Nat}(N:Fn K g x h a f b)(o:vZ P w K g base (wh P w) k f b a (yY T e)):Fk P w K g base T x a e k:=#[f,b,o,N.at_,N.fn.kp,N.bd]
noncomputable def Mf.fm{x q:Str}{g:iH}{a:List Str}{f:g9}{b:iW}{A c d:Type}[Sls A][Sls c][Ow d]{e:Wf A d c}{k:Nat}(N:Mf K C x q g a f b)(o:vZ P w K h base (wh P w) k f b a (yY T e)):Fm P w K h base T C x a e k:=#[f,b,o,N.me,N.bd]
end
variable[L2.GX]
def HH{X:Cx}{E:XK}{T:g9}{f:List Nat}{n:Nat}{D g PO j:Type}[Sls D][Sls g][Sls PO][Ow j]{a:List iH}{w w':D->(g->Prop)->(j->PO->Prop)->88->Prop}(h:SW X E T f n a w)(i:∀d b c e,w' d b c e->w d b c e):SW X E T f n a w' :=
 let ⟨t,k,l⟩:=h
 #[t,k,λd F R m H b c e o s p=>l d F R m H b c e o s<|i d b c e p]
end WL
namespace WL
open PySem L2
open Rep (rp)
open Ow (sl)
open Sls (rel)
structure Cq where
 P:iN
 w:jf
 K:hI
 mg:Str->Option cr
 base:i9
 T:g9
structure Bz(K:hI):Prop where
 all:iv K iq "all"=↑none
 zip:iv K iq "zip"=↑none
 set:iv K iq "set"=↑none
 sorted:iv K iq "sorted"=↑none
 len:iv K iq "len"=↑none
 list:iv K iq "list"=↑none
 isinstance:iv K iq "isinstance"=↑none
 int:iv K iq "int"=↑none
 bool:iv K iq "bool"=↑none
 range:iv K iq "range"=↑none
 enumerate:iv K iq "enumerate"=↑none
 tuple:iv K iq "tuple"=↑none
 min:iv K iq "min"=↑none
 max:iv K iq "max"=↑none
 str:iv K iq "str"=↑none
structure Bn(mg:Str->Option cr):Prop where
 all:mg "all"=none
 zip:mg "zip"=none
 set:mg "set"=none
 sorted:mg "sorted"=none
 len:mg "len"=none
 list:mg "list"=none
 isinstance:mg "isinstance"=none
 int:mg "int"=none
 bool:mg "bool"=none
 range:mg "range"=none
 enumerate:mg "enumerate"=none
 tuple:mg "tuple"=none
 min:mg "min"=none
 max:mg "max"=none
 str:mg "str"=none
def Bz.bn{K:hI}(X:K.In h)(G:h.Ns iq a)(z:Bz K):Bn a :=
 let f:=λ{x:Str} (e:iv K iq x=some none)=>t9 X G e
 #[f z.all,f z.zip,f z.set,f z.sorted,f z.len,f z.list,f z.isinstance,f z.int,f z.bool,f z.range,f z.enumerate,f z.tuple,f z.min,f z.max,f z.str]
variable[L2.GX]
abbrev xE(q:Cq)(x:Str)(c:List Str){A a b:Type}[Sls A][Sls a][Ow b](d:Wf A b a)(k:Nat):=Fk q.P q.w q.K q.mg q.base q.T x c d k
abbrev zk(q:Cq)(C:g9)(x:Str)(c:List Str){A a b:Type}[Sls A][Sls a][Ow b](d:Wf A b a)(k:Nat):=Fm q.P q.w q.K q.mg q.base q.T C x c d k
abbrev Gq(q:Cq)(k:Nat)(f:g9)(c:iW)(d:List Str){A a b:Type}[Sls A][Sls a][Ow b](e:Wf A b a):Prop:=vZ q.P q.w q.K q.mg q.base (wh q.P q.w) k f c d<|yY q.T e
abbrev DH(q:Cq)(x:Str)(a:iH)(f:g9)(b:iW):Prop:=zj q.K x x a f b
@[reducible] def wSq{D c e a b:Type}(h:D->(e->Prop)->(b->a->Prop)->(g9->a->Prop)->Prop)(i:e->(c->Prop)->(b->a->Prop)->(g9->a->Prop)->Prop):D->(c->Prop)->(b->a->Prop)->(g9->a->Prop)->Prop:=λd j f g=>h d (λk=>i k j f g) f g
def vF{c:List Nat}{n:Nat}{D h d b e:Type}[Sls D][Sls h][Sls d][Sls b][Ow e]{i:iH}{a:List iH}{f:D->(d->Prop)->(e->b->Prop)->(g9->b->Prop)->Prop}{g:d->(h->Prop)->(e->b->Prop)->(g9->b->Prop)->Prop}(j:S1 X E T c n i f)(k:SW X E T c n a g)(l:T0 b c n:=by exact v9 q0q) :
  SW X E T c n (i::a) (wSq f g):=D7 (w1:=f) (w2:=g) l j k
end WL
namespace L2
variable[L2.GX]
open PySem PySem.Spec PyProof.Rows
structure Rm(N P:List Str)(sc:mF)(cl:List (Str×g9)):Prop where
 kind:sc.kind=.function
 co:sc.isCoroutine=false
 gen:sc.isGenerator=false
 nd:N.Nodup
 pre:N.take P.length=P
 par:∀x∈P,sc.names.lookup x=some .local
 B3:∀y∈sc.names,y.2≠.cell
 has:∀x,sc.names.lookup x=some .free->∃c,cl.lookup x=↑c
 inj:∀x y c,cl.lookup x=↑c->cl.lookup y=↑c->x=y
noncomputable def Lr(CX:P0)(P:iN)(w:jf)(K:hI)(mg:Str->Option cr)(base:i9)(N:List Str)(qual:Str)(scope:mF)(f:g9)(cd:cr)(cl:List (Str×g9))(A:jL)(outer:List Env)(s:hW)(H:Hp)(E:XK):Cx where
 prog:=P
 w:=w
 K:=K
 mg:=mg
 base:=base
 A:=A.deeper<|ji qual scope ⇑s f cd cl
 N:=N
 s₀:=s
 H₀:=H
 env:=ji qual scope ⇑s f cd cl
 outer:=outer
 stack:=ji qual scope ⇑s f cd cl::outer
 ex:=[]
 calm:=true
 fn:=λ_=>false
 pn:=[]
 xe:=λe s'=>ic (ii P w) (A.deeper<|ji qual scope ⇑s f cd cl) (uR (ji qual scope ⇑s f cd cl) e) (λ_ Ug=>CX outer H s E e Ug) (λe' Ug=>CX outer H s E e' Ug) s'
section
variable{P:iN}{w:jf}{K:hI}{mg:Str->Option cr}{base:i9}{N ps:List Str}{qual:Str}{scope:mF}{f:g9}{cd:cr}{cl:List (Str×g9)}{A:jL}{outer:List Env}{s:hW}{H:Hp}{E:XK}
def Rn:Passes (wh P w) (Lr (wh P w) P w K mg base N qual scope f cd cl A outer s H E) E:=by intro a i j k e l I h;obtain⟨C,x,b,rfl,F,c⟩:=h;exact jm (QE I rfl rfl F) (λ_ d g=>#[C,x,b,rfl,g,c]) λ_ _ z=>z
def Ro:∀{l:List (Str×d)},(l.map (·.1)).Nodup->(x,u)∈l->l.lookup x=↑u:=by
 intro l
 induction l with
 |nil=>intro _ h;cases h
 |cons p l b =>
  intro a h;rw[iI,List.nodup_cons]at a;obtain⟨y,v⟩:=p;rcases List.mem_cons.mp h with z|z
  ·cases z;rw[iT,pQ]
  ·have c:(x==y)=false:=beq_eq_false_iff_ne.mpr λe=>a.1 (by rw[<- e];exact List.mem_map.mpr #[_,z,rfl]);rw[iT,c];exact b a.2 z
def JS:∀(ps:List b)(a:List c),((ps.zip a).map (·.1)).Sublist ps
 | [],_=>by simp
 |_::_,[]=>by simp
 |p::ps,u::a=>by rw[List.zip_cons_cons,iI];exact(JS ps a).cons₂ p
def Vd{ps:List Str}{i:Nat}(b:ps.Nodup)(c:ps[i]?=↑x)(d:a[i]?=↑u):(ps.zip a).reverse.lookup x=↑u:=by
 refine Ro ?_ ?_
 ·rw[List.map_reverse];refine List.pairwise_reverse.mpr<|pw Ne.symm ?_;exact b.sublist<|JS ps a
 ·rw[List.mem_reverse];refine List.mem_iff_getElem?.mpr #[i,?_];rw[List.getElem?_zip_eq_some];exact#[c,d]
def Ls{j:i9}{D:Nat}{k:List V}(S:Rm N ps scope cl)(C:∀x c,cl.lookup x=↑c->∃v,base.IsCell c v)(F:A.handled=none)(g:Jm P w K mg base A outer s H)(R:k.length=ps.length)(r:Vals k G)
 (I:j.Ns ⇑s (λx=>(ps.zip G).reverse.lookup x))(t:∀b o,s.heap.get? b=↑o->j.get? b=↑o):Inv (Lr J P w K mg base N qual scope f cd cl A outer s H E) [] (start N k) H { s with heap:=j,toks:=D}:=by
  have L:ps.length<=N.length:=by have:=congrArg oF S.pre;rw[mq]at this;lia
  have l:∀b:g9,b∉(Lr J P w K mg base N qual scope f cd cl A outer s H E).ex:=λb z=>io (show b∈([]:List g9) from z) q0o
  refine#[#[g.mod,S.kind,rfl,rfl,hO _,λy z c j d=>S.inj y z c j d,λy m=>?_,λy c z _=>(by cases z),λ_=>F,tq g.frames,.inr #[rfl,rfl],λb z=>io z (l b),g.bs,g.Je,λb _ _=>l b,λb z=>io z (l b),g.zc,g.Kq],
    rfl,g.bare,Un.kept t,#[_,I,λi y v j d T=>?_],λy c h=>?_,g.wg.fresh (hO _),λy c h=>?_,λp n=>io (show p∈([]:List (g9×Obj)) from n) q0o,g.wg.kept t,?_]
  · have m : scope.names.lookup y = some .cell \/ scope.names.lookup y = some .free := m
    rcases m with m|m
    · exact io rfl<|S.B3 _<|kG m
    · exact S.has y m
  · have q : i<k.length := by
      unfold start at d
      by_cases q:i<k.length
      · exact q
      · rw[jP<|by simpa using q]at d
        rw[sT]at d
        split at d<;>cases d
    have M:k[i]?=↑v:=by
      unfold start at d
      rw[mw (by simpa using q),jS]at d
      cases e:k[i]? with
      |none=>rw[e]at d;cases d
      |some a=>rw[e]at d;cases d;rfl
    refine e1a2 (r.get M) λu O Q=>?_
    have n:ps[i]?=↑y:=by rw[<- S.pre,sC q0a];exact j
    have B:ps.Nodup:=by rw[<- S.pre];exact S.nd.sublist<|uS _ _
    exact#[u,Q,.inl #[S.par y<|jy n,Vd B n O]]
  · obtain⟨v, z⟩ := C y c h
    exact#[v,z.keeps λb o e=>t b o (g.bs b o e).1]
  · refine e2a2 (C y c h) λv o z _ => ?_
    exact(g.bs c o z).2
  · unfold start
    show _=N.length
    rw[ij,hR,tN]
    lia
end
def PEA(X:Cx)(c:List iH)(e:iV)(t:TE):Prop :=
 ∀(a:List (g9×Obj)) (s:hW) (b:St) (H:Hp) (Q:VK),Inv X a b H s->t b H Q->uw 54 X.A (.func c X.env) (eval e X.env) (EP X a b Q) X.xe s
def PSA(X:Cx)(c:List iH)(d:iH)(t:TS):Prop :=
 ∀(a:List (g9×Obj)) (s:hW) (b:St) (H:Hp) (D:Ends),Inv X a b H s->t D b H->uw 54 X.A (.func c X.env) (exec d X.env) (SP X a D) X.xe s
def Rp(X:Cx)(c:List iH)(d:List iH)(t:TS):Prop :=
 ∀(a:List (g9×Obj)) (s:hW) (b:St) (H:Hp) (D:Ends),Inv X a b H s->t D b H->uw 54 X.A (.func c X.env) (execs d X.env) (SP X a D) X.xe s
section
variable{fb:List iH}{pos:Pos}
def Rq{b:iH}(h:PS X b t):PSA X fb b t:=λa s c H D I q=>wpAt_of_wpAny<|h a s c H D I q
def Ef{b:List iH}(h:FP X b t):Rp X fb b t:=λa s c H D I q=>wpAt_of_wpAny<|h a s c H D I q
def za{e:iH}{a:List iH}(g:PSA X fb e h)(i:Rp X fb a j):Rp X fb (e::a) (Kz h j):=λb s k H D I q=>by
 refine ks_wpAt_execs_cons<|rV (g b s k H _ I q) (λf l c=>?_) λ_ _ z=>z
 cases f with
 |next=>obtain⟨d,m,J,n⟩:=c;exact i b l d m D J n
 |brk=>exact c
 |cont=>exact c
 |ret u=>exact c
def Ve(h:PEA X fb e t):PSA X fb (.Return ↑e pos) (Xw t):=λa s b H D I q =>
 ks_wpAt_Return_some (rV (h a s b H _ I q) (λu g c=>e2a3 c λv d J r f=>#[v,b,d,J,r,f]) λ_ _ z=>z)
def Fb(h:PEA X fb e t)(c:kj e none pos.line X.env=pure false:=by rfl):PSA X fb (.Expr e pos) (Gg t):=λa s b H D I q =>
 ks_wpAt_Expr_any (rV (h a s b H _ I q) (λu i d=>e2a3 d λv f J r g=>#[b,f,J,g]) λ_ _ z=>z) I.quiet c
end
structure Lu(P:iN)(K:hI)(C f zV cc:g9)(x0:Str):Prop where
 fn:∃(oc:cr)(od:Option g9)(fd:iW) (Of:Array (Option cr)) (ar:Arg),K.lookup f=some #[oc,od,.func fd,Of]/\(fd.params.posonlyargs++fd.params.args).head?=↑ar/\ar.arg=x0
 code:∃(oc:cr)(od:Option g9)(vs:Array cr) (Of:Array (Option cr)) (file:Str) (tf:Tok),K.lookup zV=some #[oc,od,.fields vs,Of]/\vs[2]?=↑(.str file tf)/\((P.main.file:Str)==file)=true
 cell:∃(oc:cr)(od:Option g9) (Of:Array (Option cr)),K.lookup cc=some #[oc,od,.cell<|some<|.ref C,Of]
 cls:∃cd,ni K C=↑cd
 sub:kI K C (.ref C)=↑true
 opq:iv K rT "thirdparty.any"=↑none
 top:(P.main.scope.names.lookup ("super":Str)).isSome=false
def a0N(C:g9)(c:Sp)(E:XK)(t:TA):TE:=λb H Q=>∃a d e,b[0]?=↑(some<|.ref a)/\H a=some (.ins C d e)/\t b H λf g=>c (.ref a::f) g Q E
def Rr(K:hI)(h:g9)(c:Pos)(f:List iV)(d:Env):Prop:=∀{M:Model} {B:jL} {Q e:cr->hW->Prop} {g:hW} {q a:g9},
 ic M B (uP<|jB c<|hJ f d) (λi b=>rW K q h (.ref a) b.heap/\ic M B (call (.ref q) i) Q e b) e g->ic M B (n6 c (.ref q) [] (jB c<|hJ f d) []) Q e g
def OI(d e b c:Pos)(m:Str)(f:List iV):Prop:=∀a:Env,∃h:Sem Bool,eval (.Call (.Attribute (.Call (.Name "super" d) [] [] e) m b) f [] c) a=(do
 let g <- iU (.Call (.Name "super" d) [] [] e) m a (eval (.Call (.Name "super" d) [] [] e) a)
 nC b.atName
 let (i,first) <- lw [g] (nc g m h)
 n6 c i first (jB c (hJ f a)) [])
def cw_nil{K:hI}(b:mU K f2=true):Rr K f2 pos [] c:=λ{M B Q e f q a} h=>by refine pR (P:=rW K q f2<|.ref a) rfl (uK b) ?_;refine am<|jm h (λg i d=>?_) λ_ _ x=>x;refine iQ ?_;exact am<|ap<|am<|ap<|ap d
def cw_cons{K:hI}(f:mU K f2=true)(g:hJ (e::d) b=(false,eval e b)::hJ d b:=by rfl)(c:(jB pos<|hJ d b).any (·.1)=false:=by rfl):Rr K f2 pos (e::d) b:=λ{M B Q i j q a} h=>by rw[g]at h ⊢;exact pR (P:=rW K q f2<|.ref a) (by show ((false||(jB pos<|hJ d b).any (·.1))||false)=false;rw[c];rfl) (uK f)<|jN h
section
variable{P:iN}{w:jf}{K:hI}{mg:Str->Option cr}{base:i9}{N ps:List Str}{qual:Str}{scope:mF}{f zV cc:g9}{A:jL}{outer:List Env}{s:hW}{H:Hp}{E E0:XK}{C f2:g9}{x0 m:Str}{k:Nat}{fd2:iW}{sp:Sp}{fb:List iH}{p0 p1 apos pos:Pos}{es:List iV}{ta:TA}
set_option tactic.hygienic true in
def HI(S:Lu P K C f zV cc x0)(ab:N[0]?=↑x0)(M:scope.names.lookup ("super":Str)=some .globalImplicit)(R:scope.names.lookup ("__class__":Str)=some .free)(x:scope.names.lookup x0=some .local)(ae:mg "super"=none)
 (hm:ki K C C m=↑(some<|.ref f2)) (ht:pi K (.ref f2)=↑(.type "function")) (aq:mU K f2=true) (F:vZ P w K mg base (wh P w) k f2 fd2 ps sp) (T:Binds K fd2 ps [])
 (hr:wR k (A.deeper<|ji qual scope ⇑s f (.ref zV) [75])) (ha:PA 94 es ta)
 (af:Rr K f2 pos es (ji qual scope ⇑s f (.ref zV) [75])) (y:OI p0 p1 apos pos m es) (U:(m==("__class__":Str))=false:=by decide) :
    PEA 94 fb (.Call (.Attribute 87 m apos) es [] pos) (a0N C sp E ta):=by
  intro l i σ H1 Q I h
  obtain⟨a,dx,fs,h0,ea,h⟩:=h
  have X:=I.zl
  obtain⟨oc,od,fd,au,ar,lf,hp,rfl⟩:=S.fn
  obtain⟨av,aw,ax,al,file,tf,lc,ag,B⟩:=S.code
  obtain⟨an,ao,aa,D⟩:=S.cell
  obtain⟨cd,j⟩:=S.cls
  obtain⟨mA,O,_,_,_,_⟩:=Cc I.wg ea
  refine e1a2 I.loc λmL hn hl=>?_
  refine e1a2 (hl 0 ar.arg (.ref a) ab h0<|.inl x) λu ru lk=>?_
  obtain rfl:u=iw a:=ru
  have ah:mL ar.arg=↑(.ref a):=by
    rcases lk with⟨_,q⟩|⟨q,_⟩
    · exact q
    · have q : scope.names.lookup ar.arg = some .cell \/ scope.names.lookup ar.arg = some .free := q
      rw[x]at q
      rcases q with q|q<;>cases q
  obtain⟨oD,G,J⟩:∃oD,i.heap.get? C=some oD/\oD.data=.cls cd:=by
    unfold ni at j
    split at j
    · rename_i c d ay sl ho
      cases j
      exact#[_,X _ _ ho,rfl]
    · cases j
  refine e1a2 I.mod.blt λmb ai aj=>?_
  have ne:a≠C:=λz=>by
    have:=O.obj
    rw[z,G]at this
    cases this
    cases J
  obtain⟨pl,y⟩:=y<|ji qual scope ⇑s f (.ref zV) [75]
  refine ks_wpAt_MethodCall (pl:=pl) (ks_wpAt_super_base (env:=ji qual scope ⇑s f (.ref zV) [75]) M R U rfl (X _ _ lf) rfl hp rfl (X _ _ lc) rfl ag B S.top ?_) y
  refine rD I.ok.kind M<|oC (env:=ji qual scope ⇑s f (.ref zV) [75]) (I.mod.glob.keeps I.bk) ae (ai.keeps I.bk) ((aj _ q0s).trans rfl) #[rfl,?_]
  refine qN I.ok.kind R rfl #[_,X _ _ D,rfl] ?_
  refine lv I.ok.kind x hn ah ?_
  refine ks_wpAny_isType_cls (h:=i.heap) (g:=i.gens) (d:=i.drawn) (t:=i.toks) (os:=i.os) G J #[rfl,?_]
  refine ks_wpAny_call_super (h:=i.heap) (g:=i.gens) (d:=i.drawn) (t:=i.toks) (os:=i.os) G J O.obj rfl (λc e=>by cases e) (pS X S.sub) λn e k'=>?_
  have L:Inv _ l σ H1 #[n,i.gens,i.drawn,i.toks,i.os]:=I.kept (t':=i.toks) k'
  unfold ki at hm
  rw[j]at hm
  obtain⟨of,ak,Y⟩:∃of,n.get? f2=some of/\of.cls=.type "function":=by
    have p:(K.lookup f2).map (·.cls)=↑(.type "function"):=ht
    cases z:K.lookup f2 with
    |none=>rw[z]at p;cases p
    |some of=>rw[z]at p;exact#[of,L.zl _ _ z,ja p]
  refine ks_wpAny_getMethod_super e (sY L.zl S.opq) (l₀:=cd.mro) (λA Q E s k q=>am<|(pL L.zl j) A _ E s k<|ap q) rfl L.zl hm ak Y ne U ?_
  have I2:Inv _ l σ H1 #[n.push { cls:=.type "method",data:=.fields #v[.ref f2,.ref a]},i.gens,i.drawn,i.toks+1,i.os]:=L.kept (t':=i.toks+1) λb o z=>ce _ z
  have fr:H1 n.objs.size=none:=L.wg.fresh<|hO _
  have gq:(n.push { cls:=.type "method",data:=.fields #v[.ref f2,.ref a]}).get? n.objs.size=↑(mM (.ref f2)<|.ref a):=oM rfl rfl
  have I3:=I2.pinned (fp:=[n.objs.size]) (λb T=>by rw[List.mem_singleton.mp T];exact L.G0 (hO _) fr) λb T=>by rw[List.mem_singleton.mp T];exact#[_,gq,λv z=>by cases z]
  refine af (a:=a)<|wc (ha pos _ _ σ H1 _ I3 h) λZ s2 z9=>e2a3 z9 λvs H2 I4 r q2=>?_
  have g2:s2.heap.get? n.objs.size=↑(mM (.ref f2)<|.ref a):=(I4.pin (n.objs.size,mM (.ref f2)<|.ref a)<|iA _<|iA _<|yc h8 gq).1
  refine#[#[g2,I4.zl],?_]
  have I5:=I4.AI
  have r2:Vals (.ref a::vs) (.ref a::Z):=.cons rfl r
  have hl:(iw a::Z).length=ps.length:=by rw[<- r2.length];exact F.len _ _ _ _ q2
  refine m9<|ks_codeAny_call_bound g2<|kh (F.run _ _ s2 H2 ⟨.ref a::Z,[]⟩ (.ref a::Z) (.ref a::vs) Q E hr I5.Jn (by simpa using T s2 (.ref a::Z) I5.zl (by simpa using hl)) r2 q2) λr s' hq=>?_
  cases r with
  |error e=>exact Rn l σ H2 s2 e s' I5 hq
  |ok fl =>
    cases fl with
    |ret u=>exact I5.after hq
    |next=>exact iO hq
    |brk=>exact iO hq
    |cont=>exact iO hq
def HJ{O:cr}(lk:K.lookup f=some #[oc,od,.func<|kY name qual g a scope i dV O F pm an d ct,aa])(R:jI K d qual=true)
 (S:Rm N ps scope i) (hc:∀x c,i.lookup x=↑c->∃o v,K.lookup c=↑o/\o.data=.cell v) (G:∀j H Q E,sp j H Q E->j.length=ps.length)
 (z:∀(A:jL)(outer:List Env)(s:hW)(H:Hp)(j:List V)(Q:VK)(E:XK),wR k (A.deeper (ji qual scope ⇑s f d i))->sp j H Q E ->
 ∃t,Rp (Lr (wh P w) P w K mg base N qual scope f d i A outer s H E) a a t/\t { nx:=λ_ p=>Q .wV p,rt:=Q} (start N j) H) :
    vZ P w K mg base (wh P w) (k+1) f (kY name qual g a scope i dV O F pm an d ct) ps sp:=by
  refine#[G,λA outer s H args us j Q E T B hb r L=>?_]
  have hl:=G _ _ _ _ L
  have KX:K.In s.heap:=B.mod.B8.keeps λb o e=>(B.bs b o e).1
  have U:s.heap.NoLimit:=B.mod.nolimit.keeps λb o e=>(B.bs b o e).1
  have l:∀x c,i.lookup x=↑c->∃v,base.IsCell c v:=λx c h=>by
    refine e2a2 (hc x c h) λo v q1 q2=>?_
    exact#[v,o,B.mod.B8 _ _ q1,q2]
  refine ks_codeAny_call_defAt (fd:=kY name qual g a scope i dV O F pm an d ct) (body:=a) (binds:=ps.zip us) T.depth (KX _ _ lk) rfl U (tO KX R) rfl hb S.B3 (λy hy=>S.par y.1 (pr hy).1) (λh1 X Y=>?_) S.co S.gen S.kind
  refine e1a2 (z A outer s H j Q E (T.deeper _) L) λt ht hq=>?_
  have I:Inv (Lr (wh P w) P w K mg base N qual scope f d i A outer s H E) [] (start N j) H { s with heap:=h1,toks:=s.toks+(ps.zip us).length}:=Ls S l T.hd B hl r X Y
  refine rV (ht [] _ (start N j) H _ I hq) (λfl Z D=>?_) λe Z D=>D
  have M:∀{n:St} {p:Hp} {v:V} {u:cr},Inv (Lr (wh P w) P w K mg base N qual scope f d i A outer s H E) [] n p Z->RelV v u->Q v p->CE outer P w H s Q u Z :=
    λ{n p v u} J rv q=>#[v,p,J.os,J.bare,J.base,J.wg,rv,q]
  cases fl with
  |ret u =>
    obtain⟨v,n,p,J,rv,q⟩:=D
    exact M J rv q
  |next =>
    refine e2a2 D λn p J q=>?_
    exact M (v:=V.wV) (u:=Value.none) J rfl q
  |brk =>
    refine e2a2 D λ_ _ _ q=>?_
    exact iO q
  |cont =>
    refine e2a2 D λ_ _ _ q=>?_
    exact iO q
end
end L2
namespace WL
variable[L2.GX]
open PySem L2
open Rep (rp)
open Ow (sl)
open Sls (rel)
structure x9(N P:List Str)(sc:mF):Prop where
 kind:sc.kind=.function
 co:sc.isCoroutine=false
 gen:sc.isGenerator=false
 nd:N.Nodup
 pre:N.take P.length=P
 par:∀x∈P,sc.names.lookup x=some .local
 B3:∀y∈sc.names,y.2≠.cell
 fr:∀y∈sc.names,y.2=.free->y.1="__class__"
 ks:sc.names.lookup ("super":Str)=some .globalImplicit
 kc:sc.names.lookup ("__class__":Str)=some .free
def x9.x{N P:List Str}{sc:mF}(S:x9 N P sc)(cc:g9):Rm N P sc [75] :=
 #[S.kind,S.co,S.gen,S.nd,S.pre,S.par,S.B3,λx h=>#[cc,by have e:x="__class__":=S.fr _ (kG h) rfl;rw[e];rfl],λx y c h1 h2=>by
  have q:∀{z:Str},([(("__class__":Str),cc)]:List (Str×g9)).lookup z=↑c->z="__class__":=λ{z} h=>by
   by_cases e:(z==("__class__":Str))=true
   ·exact eq_of_beq e
   ·rw[iT,Bool.eq_false_iff.mpr e]at h;cases h
  rw[q h1,q h2]]
structure CG(P:iN)(K:hI)(C:g9)(x qual:Str)(st:iH)(f:g9)(fd:iW):Prop where
 ex:∃(oc:cr)(od:Option g9)(kV doc pm:cr)(an:Option g9)(zV cc:g9)(ct:cr) (Of:Array (Option cr)),
  fd=kY x qual (wv st) (vY st) (vn st) [75] .none kV doc pm an (.ref zV) ct/\K.lookup f=some #[oc,od,.func fd,Of]/\jI K (.ref zV) qual=true/\Lu P K C f zV cc "self"
 kp:jv K (.ref f)=true
structure Sm(K:hI)(C:g9)(m:Str)(f2:g9):Prop where
 find:ki K C C m=↑(some<|.ref f2)
 ty:pi K (.ref f2)=↑(.type "function")
 fn:mU K f2=true
structure Fs(P:iN)(w:jf)(K:hI)(mg:Str->Option cr)(base:i9)(C:g9)(m:Str)(ps:List Str)(sp:Sp)(k:Nat):Prop where
 ex:∃f2 fd2,Sm K C m f2/\vZ P w K mg base (wh P w) k f2 fd2 ps sp/\Binds K fd2 ps []/\mg "super"=none
def Vf{B b i:Type}[Sls B][Sls b][Ow i]{k:Bool}{l:Wf (Bd C k×B) i b}{c:List V}(h:yY T l c H Q E):∃a d m r,c=.ref a::r/\H a=↑(.ins C d m):=by
 obtain⟨F,R,p,o,q,s,_⟩:=h;obtain⟨v,n,t,u,e,_,⟨a,d,w,x,y,z,A,j,_,g⟩,_⟩:=s.rel;subst j
 cases c with
 |nil=>cases e
 |cons v r=>injection e with f j;injection f with f;subst f;exact#[a,d,_,r,rfl,g.ob]
def yG{o:iH}{d:List Str}{k:Nat}{B t X:Type}[Sls B][Sls t][Ow X]{fl:Bool}{u:Wf (Bd C fl×B) X t}{p:List iV} 
 (F:CG P K C x l o f fd) (S:x9 d d (vn o)) (v:vY o=[.Return (some<|.Call (.Attribute 87 m apos) p [] pos) p2]) (Y:d[0]?=↑("self":Str)) (z:OI p0 p1 apos pos m p) (G:Fs P w K Z base C m d (yY T u) k)
 (ha:∀(g n:g9)(A:jL)(b:List Env)(s:hW)(H:Hp)(E:XK),PA (Lr (wh P w) P w K Z base d l (vn o) f (.ref g) [("__class__",n)] A b s H E) p ta)
 (I:∀(a:g9)(r:List V)(H:Hp)(Q:List V->Hp->Prop),r.length+1=d.length->Q r H->ta ((V.ref a::r).map some) H Q) (J:∀(q:g9)(L:Env),mU K q=true->Rr K q pos p L) (N:(m==("__class__":Str))=false:=by decide) :
    vZ P w K Z base (wh P w) (k+1) f fd d (yY T u):=by
  obtain⟨oc,od,kV,aa,pm,an,g,n,ct,ab,rfl,lk,O,D⟩:=F.ex
  refine e2a4 G.ex λq ae M G hb R=>?_
  obtain⟨o1,o2,o3,i⟩:=D.cell
  refine HJ lk O (S.x n) (λy c h=>?_) G.len λA b s H vs Q E hr j=>?_
  · have e : c = n := by
      by_cases e:(y==("__class__":Str))=true
      · rw[iT, e]at h; cases h; rfl
      · rw[iT, Bool.eq_false_iff.mpr e]at h; cases h
    subst e
    exact#[_,_,i,rfl]
  · have hl := G.len _ _ _ _ j
    obtain⟨a,dx,fs,r,rfl,ea⟩:=Vf j
    have U:start d (V.ref a::r)=(V.ref a::r).map some:=by unfold L2.start;rw[hl,pF];simp
    refine#[Kz (Xw<|a0N C (yY T u) E ta) WD,?_,?_]
    · rw[v]
      exact za (Ve<|HI D Y S.ks S.kc (S.par _<|jy Y) R M.find M.ty M.fn G hb hr (ha g n A b s H E) (J q _ M.fn) z N)<|Ef z8
    · rw[U]
      exact#[a,dx,fs,rfl,ea,I a r H _ hl j]
class Fu(D:Type)[Sls D]:Prop where
 fu:∀{F R:Rg} {H:Hp} {d:D} {σ:St},rel F R H d σ->∃vs:List V,σ=vs.map some
instance:Fu Unit:=#[λh=>#[[],h.1]]
instance{τ D:Type}[Ow τ][Sls D][Hs τ][Fu D]:Fu (τ×D):=#[λh=>by
 obtain⟨v,σ',F1,F2,rfl,_,h3,h4⟩:=h;obtain⟨u,rfl⟩:=Hs.has h3;obtain⟨vs,rfl⟩:=Fu.fu h4
 exact#[u::vs,rfl]]
def SWA(X:Cx)(e:List iH)(E:XK)(T:g9)(f:List Nat)(n:Nat)(a:List iH){D c b d:Type}[Sls D][Sls c][Sls b][Ow d](w:D->(c->Prop)->(d->b->Prop)->(g9->b->Prop)->Prop):Prop:=∃t,Rp X e a t/\WX E T f n t w
def Xd{g:List iH}{c:List Nat}{n:Nat}{D h e b f:Type}[Sls D][Sls h][Sls e][Sls b][Ow f]{i:iH}{a:List iH}{j:D->(e->Prop)->(f->b->Prop)->(g9->b->Prop)->Prop}{k:e->(h->Prop)->(f->b->Prop)->(g9->b->Prop)->Prop}(o:S1 X E T c n i j)(p:SWA X g E T c n a k)(q:T0 b c n:=by exact v9 q0q) :
  SWA X g E T c n (i::a) (λd r l m=>j d (λs=>k s r l m) l m) :=
 e1a2 o λx t u=> e1a2 p λy v w=> #[_,za (Rq t) v,WY q u w]
def Vg{o:iH}{A:jL}{b:List Env}{s:hW}{fb:List iH}{ms:List Nat}{n k:Nat}{l:List Str}{B t:Type}[Sls B][Sls t]{fl:Bool}{wf:Wf (Bd C fl×B) Unit t}{u:List iV}{p2:Pos}[Fu B][L:Ln B n]
 (D:Lu P K C f j z "self") (S:x9 l l (vn o)) (h0:l[0]?=↑("self":Str)) (J:OI p0 p1 apos pos m u) (G:Fs P w K mg base C m l (yY T wf) k) (hr:wR k (A.deeper<|ji i (vn o) ⇑s f (.ref j) [("__class__",z)]))
 (ha:PA (Lr (wh P w) P w K mg base l i (vn o) f (.ref j) [("__class__",z)] A b s H E) u ta)
 (N:∀(a:g9)(r:List V)(H:Hp)(Q:List V->Hp->Prop),r.length=n->Q r H->ta ((V.ref a::r).map some) H Q) (O:∀(I:g9)(U:Env),mU K I=true->Rr K I pos u U) (X:(m==("__class__":Str))=false:=by decide) (Y:kj (.Call (.Attribute 87 m apos) u [] pos) none p2.line (ji i (vn o) ⇑s f (.ref j) [("__class__",z)])=pure false:=by rfl) :
    SWA (Lr (wh P w) P w K mg base l i (vn o) f (.ref j) [("__class__",z)] A b s H E) fb E T ms (n+1) [.Expr (.Call (.Attribute 87 m apos) u [] pos) p2] (λ(d:Bd C fl×B)(Z:t->Prop)(_:Unit->t->Prop) Ke=>wf d (λ_ p=>Z p) Ke):=by
  refine e2a4 G.ex λI ab M G hb aa=>?_
  refine#[_,za (Fb (HI D h0 S.ks S.kc (S.par _<|jy h0) aa M.find M.ty M.fn G hb hr ha (O I _ M.fn) J X) Y)<|Ef z8,λd F R σ H1 Z Kr Ke En s1 hw kn kr ke=>?_]
  refine e4a4 (id s1.rel) λv ae F1 F2 e t2 h3 h4=>?_
  obtain⟨a,dx,d1,d2,d3,d4,us,rfl,_,g⟩:=id h3
  obtain⟨r,rfl⟩:=Fu.fu h4
  have hl:=L.ln h4
  rw[hR]at hl
  subst e
  refine#[a,dx,_,rfl,g.ob,N a r H1 _ hl #[F,R,d,λ_ p=>Z p,Ke,s1,hw,λx p' v M1 M2 R' H' q c s' n'=>?_,λC y p' F' R' H' q c s'=>?_]]
  · exact kn p' M2 R' H' _ q (c.less λa h => .inr h) s'<|Ag.refl _ _
  · exact ke C y p' F' R' H' q c (by rw[jH<|by simp[hl]]; exact s')
def a0P{J:iH}{M:List Str}{k n:Nat}{ms:List Nat}{A PO:Type}[Sls A][Sls PO][L:Ln A n](dp:T0 PO ms n){w0:A->(PO->Prop)->(Unit->PO->Prop)->88->Prop}
 (F:CG P K C x j J f fd) (S:x9 M M (vn J)) (hn:M.length=n)
 (r:∀(i u:g9)(A:jL)(b:List Env)(s:hW)(H:Hp)(E:XK),Lu P K C f i u "self"->wR k (A.deeper<|ji j (vn J) ⇑s f (.ref i) [("__class__",u)])->SWA (Lr (wh P w) P w K mg base M j (vn J) f (.ref i) [("__class__",u)] A b s H E) (vY J) E T ms n (vY J) w0) :
    vZ P w K mg base (wh P w) (k+1) f fd M (yY T λ(p:A)(X:Unit->PO->Prop) N=>w0 p (λY=>X () Y) X N):=by
  have l:∀{o:List V} {H:Hp} {Q:VK} {E:XK},yY T (λ(p:A)(X:Unit->PO->Prop) N=>w0 p (λY=>X () Y) X N) o H Q E->o.length=n:=λh=>by
    obtain⟨F,R,p,Kn,N,s,_⟩:=h
    have:=L.ln s.rel
    rwa [hR]at this
  obtain⟨oc,od,kV,ae,pm,an,i,u,ct,af,rfl,lk,aa,D⟩:=F.ex
  obtain⟨o1,o2,o3,B⟩:=D.cell
  refine HJ lk aa (S.x u) (λy c h=>?_) (λo H Q E h=>(l h).trans hn.symm) λAr b s H o Q E hr Z=>?_
  · have e : c = u := by
      by_cases e:(y==("__class__":Str))=true
      · rw[iT, e]at h; cases h; rfl
      · rw[iT, Bool.eq_false_iff.mpr e]at h; cases h
    subst e
    exact#[_,_,B,rfl]
  refine e1a2 (r i u Ar b s H E D hr) λt h1 h2=>?_
  refine#[t,h1,?_]
  have hl:=l Z
  obtain⟨F,R,p,Kn,N,s0,hw,kn,ke⟩:=Z
  have ab:start M o=o.map some:=by unfold L2.start;rw[hl,hn,pF];simp
  rw[ab]
  have G:(o.map some).take n=o.map some:=jH (by rw[hR,hl];exact hO _)
  refine h2 p F R _ H _ Kn N _ s0 hw (λY F' O U I q c d g=>?_) (λx p' v F1 F2 O U q c d m=>?_) λC y p' F' O U q c d=>?_
  · have e' : I.take n = I := jH (by rw[g.1, hR, hl]; exact hO _)
    have g3:=dp.dp g (show rel F' O U Y (I.take n) by rw[e'];exact d.rel)
    rw[G]at g3
    exact kn () _ .wV (λ_=>False) F' O U q (c.less λa h=>h.elim (λz=>z.elim) id) #[g3,d.sub,d.xI,d.tab,d.wj,d.v0] #[#[λ_ z=>z,.wV,rfl,rfl],λ_ z=>z.elim,λ_ z=>z.elim,λz=>z]
  · rw[G]at d
    exact kn x p' v F1 F2 O U q c d m
  · rw[G]at d
    exact ke C y p' F' O U q c d
def Eg(C:g9):Sp:=λi H Q E=>∃p h,i=[.ref p]/\H p=↑(.ins C h []) /\
 ∀c d e f g,(∀a,a=c\/a=d\/a=e\/a=f->H a=none)->[c,d,e,f].Nodup->g p=↑(.ins C h<|zg c d e f 0 true)->(∀a,a=c\/a=d\/a=e\/a=f->g a=↑(.dK []))->(∀b o,b≠p->H b=↑o->g b=↑o)->Q .wV g
def Rs{C:g9}{J:iH}{k:Nat}{p3 p4:Pos}{i:List iH}(F:CG P K C "__init__" q J f fd)(S:x9 ["self"] ["self"] (vn J))(ct:AB K C)(cf:OD K C)(T:OI p0 p1 apos pos "__init__" [])
 (U:vY J=.Expr (.Call (.Attribute 87 "__init__" apos) [] [] pos) p2::i) (G:Fs P w K mg base C "__init__" ["self"] (HG C) k)
 (W:∀X,kj (.Call (.Attribute 87 "__init__" apos) [] [] pos) none p2.line X=pure false)
 (Y:∀(j r:g9)(A:jL)(d:List Env)(s:hW)(H:Hp)(E:XK),FP (Lr (wh P w) P w K mg base ["self"] q (vn J) f (.ref j) [("__class__",r)] A d s H E) i<|Kz (N7 K (vW 0) EB "head_by_tail")<|N7 K (vW 0) EB "tail_by_head") :
    vZ P w K mg base (wh P w) (k+1) f fd ["self"] (Eg C):=by
  obtain⟨oc,od,kV,af,pm,an,j,r,ag,ah,rfl,lk,Z,D⟩:=F.ex
  refine e2a4 G.ex λf2 ai M G hB aa=>?_
  obtain⟨o1,o2,o3,l⟩:=D.cell
  refine HJ lk Z (S.x r) (λy c h=>?_) (λvs H Q E z9=>e2a2 z9 λp t e _=>by rw[e];rfl) λAr d s H vs Q E hr ab=>?_
  · have e : c = r := by
      by_cases e:(y==("__class__":Str))=true
      · rw[iT, e]at h; cases h; rfl
      · rw[iT, Bool.eq_false_iff.mpr e]at h; cases h
    subst e
    exact#[_,_,l,rfl]
  refine#[_,by rw[U];exact za (Fb (HI D rfl S.ks S.kc (S.par _ h8) aa M.find M.ty M.fn G hB hr vJ (cw_nil M.fn) T)<|W _)<|Ef<|Y j r Ar d s H E,?_]
  obtain⟨p,t,rfl,m,k⟩:=ab
  refine#[p,t,[],rfl,m,p,t,rfl,m,λL N H1 h1 h2 ae g1 g2 g3 g4=>?_]
  intro u v
  have O:p≠u:=vC g1 v
  have q2:L≠u:=vC g2 v
  have q3:N≠u:=vC g3 v
  refine#[_,rfl,p,C,t,_,rfl,(by rw[vo O];exact g1),ct.cl,cf.nH,(by show 3<1000;decide),?_]
  intro B g
  have R:p≠B:=λz=>by rw[<- z,vt]at g;cases g
  rw[vo R.symm]at g
  have r2:B≠u:=λz=>by rw[z,vt]at g;cases g
  rw[vo r2]at g
  have r3:L≠B:=vC g2 g
  have r4:N≠B:=vC g3 g
  refine#[_,rfl,p,C,t,_,rfl,(by rw[vo R,vt]),ct.cl,cf.nT,(by show 4<1000;decide),?_]
  have I:∀{b:g9} {o:HO},H b=↑o->b≠p->H1 b=↑o:=λh n=>g4 _ _ n h
  have z:∀{a:g9},a≠p->H1 a=none->H a=none:=λ{a} n h=>by
    cases e:H a with
    |none=>rfl
    |some o=>rw[I e n]at h;cases h
  refine k L N u B _ (λa ha=>?_) ?_ ?_ (λa ha=>?_) λb o nb Y=>?_
  · rcases ha with e|e|e|e <;> rw[e]
    · exact h1
    · exact h2
    · exact z O.symm v
    · exact z R.symm g
  · simp only[List.nodup_cons, iK, jx, mH, qA, ol, and_true, not_false_eq_true]
    exact#[#[ae,q2,r3],#[q3,r4],r2.symm]
  · rw[vt]; rfl
  · have pd : p ≠ L := λe => by rw[e, h1]at m; cases m
    have pe:p≠N:=λe=>by rw[e,h2]at m;cases m
    rcases ha with e|e|e|e<;>rw[e]
    · rw[vo pd.symm, vo r3, vo pd.symm, vo q2]; exact g2
    · rw[vo pe.symm, vo r4, vo pe.symm, vo q3]; exact g3
    · rw[vo O.symm, vo r2.symm, vo O.symm, vt]
    · rw[vo R.symm, vt]
  · have e := I Y nb
    rw[vo nb,vo<|vC e g,vo nb,vo<|vC e v]
    exact e
section
variable{D:Type}[Sls D]
def Rt{k:Nat}(M:Mk X.K C f)(F:vZ X.prog X.w X.K X.mg X.base (wh X.prog X.w) k f fd ["self"] (Eg C))(hr:wR (k+1) X.A)(hg:Gl X x)(hm:X.mg x=↑(.ref C))(hb:Binds X.K fd ["self"] [])(hx:Passes (wh X.prog X.w) X E)(J:(x==66)=false:=by decide) :
  EO X E T (.Call (.Name x p) [] [] pos) (λ(d:D)(O:Bd C true->D->Prop) _=>O #[[],[],0,[],[]] d):=by
 refine#[_,P4 M F hr hg hm hb .nil hx J,λd F' R σ H O Ke Q s hw kn _=>?_];intro y c L n m;refine#[y,c,rfl,vt,λg i j l r hn nd P v S=>#[rfl,?_]]
 have N:∀a,a=g\/a=i\/a=j\/a=l->a≠y/\a≠c/\H a=none:=λa ha=>by
  have h:=hn a ha;have U:a≠y:=λz=>by rw[z,vt]at h;cases h
  rw[vo U]at h;have W:a≠c:=λz=>by rw[z,vt]at h;cases h
  rw[vo W]at h;exact#[U,W,h]
 have B:∀a,a∈adr y c g i j l true->a=y\/a=c\/a=g\/a=i\/a=j\/a=l:=λa h=>by simpa[adr] using h
 have G:∀a,a∈adr y c g i j l true->H a=none:=λa h=>(B a h).elim (λz=>by rw[z];exact L) λh=>h.elim (λz=>by rw[z];exact n) λh=>(N a h).2.2;have I:∀b o,H b=↑o->r b=↑o:=λb o q=>S b o (vC q L) (by rw[vo<|vC q L,vo<|vC q n];exact q);have Y:r c=some (.own y):=S c _ m (by rw[vo m,vt]);have hl:∀a,a∈adr y c g i j l true->r a≠none:=λa h=>(B a h).elim (λz=>by rw[z,P];simp) λh=>h.elim (λz=>by rw[z,Y];simp) λh=>by rw[v a h];simp
 have Z:Ext (λ_=>False) R H (λa=>R a\/a∈adr y c g i j l true) r:=#[λb o _ h=>I b o h,λa h=>h.elim .inl λq=>.inr<|G a q]
 refine kn _ d (.ref y) (λa=>a∈adr y c g i j l true) F' (λa=>R a\/a∈adr y c g i j l true) r hw #[λb o _ _ h=>I b o h,Z.new,λa h=>h.elim (λq=>.inr<|G a q) .inl,λa h _=>.inl h]
  #[Sls.st s.rel Z (λ_ z=>z.elim)<|λ_ _ z=>z,λa h=>.inl<|s.sub a h,λa h=>h.elim (λz=>?_)<|hl a,?_,.inl s.wj,s.v0] ⟨⟨y,c,g,i,j,l,[],rfl,λ_=>Iff.rfl,#[?_,P,Y,v _<|.inl rfl,v _<|.inr<|.inl rfl,.nil,λ_=>v _<|.inr<|.inr<|.inl rfl,λ_=>v _<|.inr<|.inr<|.inr rfl]⟩,λa h=>.inr h,λa h z=>s.xI a (s.sub a z)<|G a h,λh=>zP s.tab<|G T h⟩
 ·cases e:H a with
  |none=>exact io e<|s.xI a z
  |some u=>rw[I a u e];simp
 ·refine e1a2 s.tab λps e t=>?_;exact#[ps,I _ _ e,t]
 ·show [y,c,g,i,j,l].Nodup;refine List.nodup_cons.mpr #[λh=>?_,List.nodup_cons.mpr #[λh=>?_,nd]]
  ·rcases List.mem_cons.mp h with z|z
   ·exact m z.symm
   ·exact(N y<|by simpa using z).1 rfl
  ·exact(N c<|by simpa using h).2.1 rfl
end
section
variable{X:Cx}{scope:mF}{T:List Str}{i j:Nat}{x y:Str}{c d:g9}
def Zy(a:scope.kind=.function/\oS scope X.env=pure []:=by exact#[rfl,rfl])
 (b:(∀z∈scope.names,z.2≠.cell)/\(∀z∈scope.names,z.2=.local->scope.names.lookup z.1=some .local)/\∀z∈scope.names,z.2≠.free:=by refine#[?_,?_,?_]<;>decide +kernel):zC X scope [] T [] [] :=
  #[a.1,a.2,b.1,b.2.1,(λ_ _ h=>by cases h),λz f e=>io e<|b.2.2 z f,(λj z h=>by cases h),rfl]
def T1(a:scope.kind=.function/\oS scope X.env=pure [(x,c)]/\X.env.cells.lookup x=↑c/\X.N[i]?=↑x/\X.env.kindOf x=some .cell/\(pc scope X.env).names.lookup x=some .cell:=by exact#[rfl,rfl,rfl,rfl,rfl,rfl])
 (b:(∀z∈scope.names,z.2≠.cell)/\(∀z∈scope.names,z.2=.local->scope.names.lookup z.1=some .local)/\∀z∈scope.names,z.2=.free->z.1=x:=by refine#[?_,?_,?_]<;>decide +kernel):zC X scope [(x,c)] T [x] [i] :=
  have f:∀{z:Str},z=x->kO z [(x,c)]=↑c:=λ{z} e=>by rw[e,iT,pQ]
  #[a.1,a.2.1,b.1,b.2.1,(λz e h=>(lkc h).elim (λq=>by rw[q.1,q.2];exact a.2.2.1) λq=>by cases q),λz g e=>#[c,f (b.2.2 z g e)],(λk z h=>by
    cases k with
    |zero=>cases h;exact#[i,c,rfl,a.2.2.2.1,.inl a.2.2.2.2.1,f rfl,.inl a.2.2.2.2.2]
    |succ k=>cases h),rfl]
def Zz(a:scope.kind=.function/\oS scope X.env=pure [(y,d),(x,c)]/\X.env.cells.lookup x=↑c/\X.env.cells.lookup y=↑d/\X.N[i]?=↑x/\X.N[j]?=↑y/\X.env.kindOf x=some .cell/\X.env.kindOf y=some .cell/\(pc scope X.env).names.lookup x=some .cell/\(pc scope X.env).names.lookup y=some .cell:=by exact#[rfl,rfl,rfl,rfl,rfl,rfl,rfl,rfl,rfl,rfl])
 (b:(∀z∈scope.names,z.2≠.cell)/\(∀z∈scope.names,z.2=.local->scope.names.lookup z.1=some .local)/\(∀z∈scope.names,z.2=.free->z.1=x\/z.1=y)/\¬x=y:=by refine#[?_,?_,?_,?_]<;>decide +kernel):zC X scope [(y,d),(x,c)] T [x,y] [i,j] :=
  have f:∀{z:Str},z=y->kO z [(y,d),(x,c)]=↑d:=λ{z} e=>by rw[e,iT,pQ]
  have g:∀{z:Str},z=x->kO z [(y,d),(x,c)]=↑c:=λ{z} e=>by rw[e,iT,beq_eq_false_iff_ne.mpr b.2.2.2,iT,pQ]
  #[a.1,a.2.1,b.1,b.2.1,(λz e h=>(lkc h).elim (λq=>by rw[q.1,q.2];exact a.2.2.2.1) λh=>(lkc h).elim (λq=>by rw[q.1,q.2];exact a.2.2.1) λq=>by cases q),λz l e=>(b.2.2.1 z l e).elim (λq=>#[c,g q]) λq=>#[d,f q],(λk z h=>by
    cases k with
    |zero=>cases h;exact#[i,c,rfl,a.2.2.2.2.1,.inl a.2.2.2.2.2.2.1,g rfl,.inl a.2.2.2.2.2.2.2.2.1]
    |succ k=>cases k with
      |zero=>cases h;exact#[j,d,rfl,a.2.2.2.2.2.1,.inl a.2.2.2.2.2.2.2.1,f rfl,.inl a.2.2.2.2.2.2.2.2.2]
      |succ k=>cases h),rfl]
end
end WL
namespace L2
open PySem PySem.Spec PyProof.Rows
def a0Q(X:Cx)(b:Bool):R2:=λx y H Q=>∃d a,D6 X H x d/\D6 X H y (.list a)/\mV a=true/\d.canLay0=true/\d.depth<=62/\Q (.bl<|if b then !(a.any λe=>qk e d) else a.any λe=>qk e d) H
def YQ(m:X.A.units+64<kF):AJ X (jF .In) (a0Q X false):=by intro a s b H x y v u Q I c e h;obtain⟨d,n,f,g,i,j,o,q⟩:=h;obtain⟨p,k⟩:=f a b s v I c;obtain⟨r,l⟩:=g a b s u I e;exact SeqAt.in_list_reads l k i j q0d #[.bl _,H,I,rfl,q]
def Vh(m:X.A.units+64<kF):AJ X (jF .NotIn) (a0Q X true):=by intro a s b H x y v u Q I c e h;obtain⟨d,n,f,g,i,j,o,q⟩:=h;obtain⟨p,k⟩:=f a b s v I c;obtain⟨r,l⟩:=g a b s u I e;exact SeqAt.notIn_list_reads l k i j q0d #[.bl _,H,I,rfl,q]
def HK:zd X (.builtin "isinstance") (λa H Q=>∃(x:V)(c:g9)(t:cr)(b:Bool),a=[x,.ref c]/\zB X.K H x t/\mO X.K t (.ref c)=↑b/\Q (.bl b) H):=by intro d s k H a l Q I r h;obtain⟨x,c,t,b,rfl,f,e,q⟩:=h;obtain⟨u,v,rfl,g,i⟩:=vals2 r;cases i;exact Gj I g f e λj=>#[.bl b,H,I.tok j,rfl,q]
end L2
namespace WL
variable[L2.GX]
open PySem L2
open Rep (rp)
open Ow (sl)
open Sls (rel)
def Nh[Rep a][DecidableEq a][Dat a](x:a)(b:List a):((b.map Dat.dat).any λe=>qk e<|Dat.dat x)=decide (x∈b):=by
 rw[List.any_map,kZ,rg,i4];have e:∀y:a,qk (Dat.dat y) (Dat.dat x)=decide (y=x):=λy=>by rw[<- SeqAt.same_eq_eqv _ _ (Dat.nm y x),Dat.sm]
 constructor
 ·rintro⟨y,c,h⟩;rw[show ((λe=>qk e<|Dat.dat x)∘Dat.dat) y=decide (y=x) from e y]at h;exact jY h▸c
 ·exact λh=>#[x,h,(e x).trans<|decide_eq_true rfl]
def a2U[Rep a][DecidableEq a][Dat a](b:X.A.units+64<kF)(c:Dat.dp a<=62:=by decide):Zv X .In (λ(x:a)(d:List a)=>decide (x∈d)):=#[_,YQ b,λ{R H x y q u h Q} e f g k =>
 #[_,_,Dat.rd e,D6.lst (wF.of f) (Ah g),D8 y,Dat.lay x,i5 (Dat.dep x) c,by rw[ci ig,Nh];exact k]]
def Ni[Rep a][DecidableEq a][Dat a](b:X.A.units+64<kF)(c:Dat.dp a<=62:=by decide):Zv X .NotIn (λ(x:a)(d:List a)=>!decide (x∈d)):=#[_,Vh b,λ{R H x y q u h Q} e f g k =>
 #[_,_,Dat.rd e,D6.lst (wF.of f) (Ah g),D8 y,Dat.lay x,i5 (Dat.dep x) c,by rw[g8 rfl,Nh];exact k]]
def Vi:Cm X .IsNot (λ(_:Unit)(_:Unit)=>false):=#[_,MM,λ{R H x y u v Q} a b k=>#[b,by
 have a:u=.wV:=a
 subst a;exact k]]
def Eh{D PO τ:Type}[Sls D][Sls PO][Ow τ]{p:Type}[Rep p]{o e:iV}{p2 p3:Pos}[J:Pj D PO n]{wo:Wf D (OL p) D}{we:Wf D p D}(ho:EO X E T o wo)(h:EW X E T e we)
  (hb:∀{L:TE} {t:TA},PE X o L->PA X [e] t->PS X (.Expr (.Call (.Attribute o "append" p2) [e] [] p3) pos) (Gg<|tBM X.K "list" G9 L t)) (hs:hJ [e] X.env=70::hJ [] X.env:=by rfl) :
  S1 X E T ms n (.Expr (.Call (.Attribute o "append" p2) [e] [] p3) pos) (cS (cB wo we λxs (x:D->Prop) (_:p) M=>xs.l.length<hV/\x M) J.pj λ(x:D->Prop)(_:τ->PO->Prop)=>x):=by
 refine e1a2 ho λL o1 o2=>?_;refine e1a2 h λt h1 h2=>?_;refine#[_,hb o1<|vy h1 vJ hs,λd F R N H x Kr Ke En s hw kn kr ke=>?_];refine o2 d F R N H _ _ _ s hw (λxs d1 v F1 O R1 H1 q1 c1 P A=>?_) λC y M F' Q S q c U=>?_
 ·obtain⟨a,j,e,hF,W,hp⟩:=A.is;cases e;have f:F1 a:=(hF a).mpr rfl;have g:¬O a:=A.yP a f;have aT:a≠T:=λz=>A.tab (by rw[<- z];exact f);have m:Ch T F R H O R1 H1:=c1.less λ_ z=>.inr z;refine#[.inl #[rfl,j,wF.of W],h2 d1 O R1 N H1 _ _ _ P q1 (λy d2 v Y Z H3 q B i r=>?_) λC y M F' Q S q c U=>?_]
  ·have h3:H3 a=↑(.lst j):=B.keep a _ g aT W;have aR:Z a:=B.left a (A.sub a f) g;have aa:¬Y a:=λz=>(B.ye a z).elim g λq=>by rw[W]at q;cases q
   have I:=Ch.trans s P.tab m B;have ex:=zp (F:=Y) (R:=Z) (H:=H3) (a:=a) (o:=.lst<|j++[v]);have k:∀b u,b≠a->H3 b=some u->upd H3 a (.lst<|j++[v]) b=some u:=λb u z e=>by rw[vo z];exact e
   refine#[a,j,v,rfl,rfl,h3,by rw[<- Paired.length hp];exact q.1,kn d2 Y Z _ N q.2 #[λb o nb nt e=>k b o (λz=>?_)<|I.keep b o nb nt e,I.AA,I.ye,I.left] ⟨Sls.st i.rel ex (λc z=>by rw[z];exact aR) λc z q=>aa (by rw[<- q];exact z),i.sub,λc z=>?_,?_,i.wj,i.v0⟩<|Ag.refl _ _]
   ·subst z;rcases c1.ye b (.inl f) with w|w
    ·exact nb w
    ·rw[e]at w;cases w
   ·by_cases e:c=a
    ·rw[e,vt];simp
    ·rw[vo e];exact i.xI c z
   ·refine e1a2 i.tab λps e t=>?_;exact#[ps,k _ _ (λz=>aT z.symm) e,t]
  ·refine e1a2 (wM (PO:=PO) U) λG g1 g2=>?_;exact ke C y _ G Q S q (Ch.less (Ch.trans s P.tab m c) g1) g2
 ·refine e1a2 (wM (PO:=PO) U) λG g1 g2=>?_;exact ke C y _ G Q S q (c.less g1) g2
section
variable{D PO τ:Type}[Sls D][Sls PO][Ow τ]{α:Type}[Rep α]
def Fc(r:rp R H x v):∀{a:List α} {b:List V} (j:Nat),Paired (rp R H) a b->Paired (rp R H) (a.set j x) (b.set j v)
 |_,_,_,.nil=>.nil
 |_,_,0,.cons _ t=>.cons r t
 |_,_,j+1,.cons q t=>.cons q<|Fc r j t
def Vj(i:Nat)[Sls Q][A:At i D (OL α) Q][U:Pt i Q (OL α) D][J:Pj D PO n](hn:PE X (.Name x S) (vW i))(h:EW X E T e we)(hk:EW X E T k wk)
 (hb:∀{W M:TE},PE X e W->PE X k M->PS X (.Assign [.Subscript (.Name x S) k p2] e pos) (T9 W<|ZK (vW i) M WM)) :
    S1 X E T ms n (.Assign [.Subscript (.Name x S) k p2] e pos) (cS (cB we wk λy (w:D->Prop) j z=>∃m,Px (A.get z).l.length j=↑m/\w (U.put (A.hole z) #[(A.get z).l.set m y])) J.pj λ(w:D->Prop)(_:τ->PO->Prop)=>w):=by
  obtain⟨t,h1,h2⟩:=h
  obtain⟨M,i1,i2⟩:=hk
  have Y:∀{F R f g:Rg} {H b:Hp} {C y:g9} {B:D} {o:St} {N:g9->PO->Prop},(∀C y Z f g b,N C Z->Ch T F R H f g b->wz T f g b Z (o.take n)->E (.ref C) ↑y b)->N C (J.pj B)->Ch T F R H f g b->wz T f g b B o->E (.ref C) ↑y b:=λI q c r=>by
    obtain⟨G,L,g2⟩:=wM (PO:=PO) r
    exact I _ _ _ G _ _ q (c.less L) g2
  refine#[_,hb h1 i1,λd F R o H w Kr N En s hw kn kr I=>?_]
  refine h2 d F R o H _ _ _ s hw (λy d1 v F1 R1 H1 q1 c1 p r1=>?_) λC y B f g b q c r=>Y I q c r
  obtain⟨a,vs,L,g2,g3,_⟩:=Ai (i:=i) p
  refine#[_,L,i2 d1 F1 R1 o H1 _ _ _ p q1 (λj z u F2 R2 H2 q2 c2 s2 O=>?_) λC y B f g b q c r=>Y I q (Ch.trans s p.tab c1 c) r]
  obtain⟨m,m1,m2⟩:=q2
  obtain⟨a',P,k1,k2,k3,k4⟩:=Ai (i:=i) s2
  rw[L]at k1
  cases k1
  obtain⟨c3,s3⟩:=k4 _ _<|Fc (p.val c2 r1) m k3
  have O:u=V.int j:=O
  subst O
  exact#[a,P,j,m,rfl,rfl,k2,by rw[<- Paired.length k3];exact m1,kn _ F2 R2 _ o m2 (Ch.trans s p.tab c1<|Ch.trans p s2.tab c2 c3) s3<|Ag.refl _ _]
end
structure Isf(K:hI)(mg:Str->Option cr)(C CB:g9):Prop where
 at_:mg "Body"=↑(.ref CB)
 cl:Bo K C
 ha:iG K (.ref C) "__class__"=↑(some<|.builtin "object.__class__")
 hn:qq K (.builtin "object.__class__") "__get__"=↑(some<|.builtin "getset_descriptor.__get__")
 ht:qR K (.builtin "object.__class__")=↑true
 hm:kI K C (.type "object")=↑true
 kt:mO K (.ref C) (.ref CB)=↑true
section
variable{D:Type}[Sls D]{α:Type}[Rep α]
def YR{C c:g9}{k:Bool}(i:Nat)[Sls l][A:At i D (Bd C k) l](m:Gl X "isinstance")(n:X.mg "isinstance"=none)(o:Gl X "Body")(F:Isf X.K X.mg C c)(r:PE X (.Name x e) (vW i):=by exact pv _)
 (h:hJ [.Name x e,.Name "Body" q] X.env=(false,eval (.Name x e) X.env)::hJ [.Name "Body" q] X.env:=by rfl) (f:hJ [.Name "Body" q] X.env=(false,eval (.Name "Body" q) X.env)::hJ [] X.env:=by rfl) (g:(jB pos<|hJ [.Name "Body" q] X.env).any (·.1)=false:=by rfl) :
    EW X E T (.Call (.Name "isinstance" p) [.Name x e,.Name "Body" q] [] pos) (λ(d:D)(j:Bool->D->Prop) _=>j true d):=by
  refine#[_,wT HK m n qj (vy r (vy (MG (v:=.ref c) o F.at_ rfl) vJ f) h) (he:=h) (hpl:=g),λd t R z H j B Q s u w G=>?_]
  obtain⟨v,I,J,y,L,⟨a,M,N,O,P,S,U,rfl,_,b⟩,_⟩:=A.take s.rel
  exact#[_,y,.ref a,c,.ref C,true,rfl,zB.ins b.ob F.cl F.ha F.hn F.ht F.hm,F.kt,w true d _ t R H u 57 s rfl]
end
end WL
namespace WL
open PySem L2
open Rep (rp)
open Ow (sl)
open Sls (rel)
open Rep (rp)
open Ow (sl)
open Sls (rel)
instance:YK Bool "bool" true:=#[λ{K R H x v} h=>by
 have h:v=V.bl x:=h;subst h
 exact#[_,zB.bl x,by rfl]]
instance{α β:Type}[Rep α][Rep β]:YK (α×β) "tuple" true:=#[λ{K R H x v} h=>by
 obtain⟨a,u,w,rfl,_,h3,_⟩:=h
 exact#[_,zB.tup h3,by rfl]]
section
variable{X:Cx}{E:XK}{T:g9}{D α β:Type}[Sls D][Rep α][Rep β]{pos:Pos}
def Vk{a:iV}{p:Pos}{c:Wf D (α×β) D}(g:Gl X "len")(h:X.mg "len"=none)(i:EW X E T a c)(e:hJ [a] X.env=79::hJ [] X.env:=by rfl) :
  EW X E T (.Call (.Name "len" p) [a] [] pos) (cK c λ(f:Int->D->Prop) _ b=>f 2 b):=by
 refine e1a2 i λI j k=>?_;refine#[_,wT xR g h mZ (vy j vJ e) (he:=e),λd F R l H f m Q s n o r=>k d F R l H _ m _ s n (λx b u t y H1 z A B C=>?_) r];obtain⟨q,v,w,rfl,_,G,J,L⟩:=C;exact#[_,_,rfl,.inr<|zI.of G,o _ b _ t y H1 z A B rfl]
end
variable[L2.GX]
structure Dc(α:Type) where
 l:List (Int×α)
def PK{α:Type}[Rep α](R:Rg)(H:Hp):List (Int×α)->List (Key×V)->Prop:=Paired λe u=>u.1=iJ e.1/\rp R H e.2 u.2
section
variable{α:Type}[Rep α]
def Ru(e:Ext R R H b c):∀{l:List (Int×α)} {a:List (Key×V)},PK R H l a->PK b c l a:=by
 intro _ _ z
 induction z with
 |nil=>exact .nil
 |cons h t d=>exact .cons #[h.1,Rep.st h.2 e] d
def Lv{k:Int}:∀{l:List (Int×α)} {us:List (Key×V)},PK R H l us->(∀b,lk l k=↑b->∃v,yX us (iJ k)=↑v/\rp R H b v)/\(lk l k=none->yX us (iJ k)=none):=by
 intro z0 z1 z9
 induction z9 with
 |nil=>exact#[(λb h=>by cases h),λ_=>rfl]
 | @cons e u l us h t YM =>
  have i:=YM;by_cases q:e.1=k
  ·have e1:lk (e::l) k=↑e.2:=by unfold lk;rw[je,decide_eq_true q];rfl
   rw[e1];refine#[λb hb=>?_,(λz=>by cases z)];cases hb;exact#[u.2,zL (by rw[h.1,q]),h.2]
  ·have e1:lk (e::l) k=lk l k:=by unfold lk;rw[je,iC q]
   rw[e1,zM<|by rw[h.1];intro z;exact q<|oh z];exact i
def Nj{k:Int}{l:List (Int×α)}{us:List (Key×V)}(h:PK R H l us):(yX us<|iJ k).isSome=(lk l k).isSome:=by
 have i:=Lv (k:=k) h
 cases e:lk l k with
 |none=>rw[i.2 e];rfl
 |some b=>obtain⟨v,hv,_⟩:=i.1 b e;rw[hv];rfl
def Lw:∀{l:List (Int×α)} {a:List (Key×V)},PK R H l a->a.length=l.length
 |_,_,.nil=>rfl
 |_,_,.cons _ t=>by rw[iE,iE,Lw t]
def Rv{k:Int}{x:α}{v:V}(r:rp R H x v):∀{l:List (Int×α)} {us:List (Key×V)},PK R H l us->PK R H (l++[(k,x)]) (us++[(iJ k,v)])
 |_,_,.nil=>.cons #[rfl,r] .nil
 |_,_,.cons h t=>.cons h<|Rv r t
def YS{k:Int}{x:α}{v:V}(r:rp R H x v):∀{l:List (Int×α)} {us:List (Key×V)},PK R H l us->PK R H (l.map λe=>if e.1=k then (e.1,x) else e) (us.map λkv=>if kv.1=iJ k then (kv.1,v) else kv):=by
 intro z0 z1 z9
 induction z9 with
 |nil=>exact .nil
 | @cons e u l us h t YM =>
  refine .cons ?_<|YM;dsimp only;by_cases q:e.1=k
  ·rw[g8 q,g8<|by rw[h.1,q]];exact#[h.1,r]
  ·rw[ci q,ci<|by rw[h.1];intro z;exact q<|oh z];exact h
def Rx{k:Int}(r:rp R H x v){l:List (Int×α)}{us:List (Key×V)}(h:PK R H l us):PK R H (pk l k x) (putK us (iJ k) v):=by
 unfold putK pk;rw[AR,Nj h]
 cases (lk l k).isSome with
 |true=>rw[g8 rfl,g8 rfl];exact YS r h
 |false=>rw[ci ig,ci ig];exact Rv r h
end
instance{α:Type}[Rep α]:Ow (Dc α):=#[λF R H x v=>∃a us,v=↑(.ref a)/\(∀b,F b↔b=a)/\H a=↑(.dK us)/\PK R H x.l us,
 λh e s n=>by
  refine e2a4 h λa us h1 h2 h3 h4=>?_
  exact#[a,us,h1,h2,e.keep a _ (n a<|(h2 a).mpr rfl) h3,Ru (e.wide s) h4],
 λh e=>by
  refine e2a4 h λa us h1 h2 h3 h4=>?_
  exact#[a,us,h1,λb=>(e b).symm.trans (h2 b),h3,h4]]
instance{α:Type}[Rep α]:Hs (Dc α):=#[λz9=>e2a2 z9 λ_ _ h _=>#[_,h]]
section
variable{D PO τ:Type}[Sls D][Sls PO][Ow τ]{α:Type}[Rep α]
def Ei{i:Nat}[Sls c][A:At i D (Dc α) c](s:wz T F R H d e):∃a b,e[i]?=↑(some<|.ref a)/\H a=↑(.dK b)/\PK R H (A.get d).l b:=by obtain⟨v,j,k,f,m,⟨a,b,rfl,n,g,h⟩,o⟩:=A.take s.rel;exact#[a,b,f,g,h]
def Ry{i:Nat}[Sls w][A:At i D (Dc α) w][U:Pt i w (Dc α) D](s:wz T F R H d x):∃a g,x[i]?=↑(some<|.ref a)/\H a=↑(.dK g)/\PK R H (A.get d).l g /\
  ∀(j:List (Int×α)) (f:List (Key×V)),PK R H j f->Ch T F R H F R (upd H a<|.dK f)/\wz T F R (upd H a<|.dK f) (U.put (A.hole d) #[j]) x:=by
 obtain⟨v,N,O,y,m,⟨a,g,rfl,p,E,G⟩,I⟩:=A.take s.rel;have r:F a:=(m.all a).mpr<|.inl<|(p a).mpr rfl;have J:a≠T:=λz=>s.v0 (by rw[<- z];exact r);refine#[a,g,y,E,G,λj f L=>?_];have B:=zp (F:=F) (R:=R) (H:=H) (a:=a) (o:=.dK f);have C:∀c,c=a->R c:=λc z=>by rw[z];exact s.sub a r
 have k:∀b u,b≠a->H b=↑u->upd H a (.dK f) b=↑u:=λb u z e=>by rw[vo z];exact e
 refine#[#[λb o n _ e=>k b o (λz=>n<|by rw[z];exact r) e,λ_ h=>.inl h,λ_ h=>.inl h,λ_ h _=>h],Pt.same (A:=U) (Sls.st I B C λc z q=>m.yP c ((p c).mpr q) z) y m #[a,f,rfl,p,vt,Ru (B.wide C) L],s.sub,λc z=>?_,?_,s.wj,s.v0]
 ·by_cases e:c=a
  ·rw[e,vt];simp
  ·rw[vo e];exact s.xI c z
 ·refine e1a2 s.tab λM e t=>?_;exact#[M,k _ _ (λz=>J z.symm) e,t]
def Rz{a:iV}(i:Nat){D0:Type}[Sls D0][A:At i D (Dc α) D0]{wk:Wf D Int D}(hu:X.A.units+1<kF)(hn:PE X (.Name x p1) (vW i))(hk:EW X E T a wk)(hs:Qd a:=by intro _ _;rfl) :
  EW X E T (.Subscript (.Name x p1) a pos) (cK wk λ(Kn:α->D->Prop) k d1=>∃v,lk (A.get d1).l k=↑v/\Kn v d1):=by
 refine e1a2 hk λta a1 a2=>?_;refine#[_,Hd hu hn a1 hs,λd F R σ H Kn Ke Q s hw kn ke=>?_];obtain⟨y0,us0,h1,_,_⟩:=Ei (i:=i) s;refine#[_,h1,a2 d F R σ H _ Ke _ s hw (λk d1 u F1 R1 H1 q1 c1 s1 r1=>?_) ke];subst r1;obtain⟨y,us,g1,g2,g3⟩:=Ei (i:=i) s1;rw[h1]at g1;cases g1;refine e1a2 q1 λz z1 z2=>?_;refine e1a2 ((Lv g3).1 z z1) λv v1 v2=>?_;have g:=yO.k (k:=iJ k) g2;rw[v1]at g;exact#[_,v,rfl,g,kn z d1 v F1 R1 H1 z2 c1 s1 v2]
def RA(i:Nat){B:Type}[Sls B][A:At i D (Dc α) B][U:Pt i B (Dc α) D][J:Pj D PO n]{M:Wf D Int D}{N:Wf D α D}(hu:X.A.units+1<kF)(hn:PE X (.Name x O) (vW i))(hk:EW X E T a M)(he:EW X E T e N)
 (hs:kj e (some<|.Subscript (.Name x O) a p3) pos.line X.env=pure false:=by rfl) :
    S1 X E T ms n (.Assign [.Subscript (.Name x O) a p3] e pos) (λ(d:D)(P:D->Prop)(Kr:τ->PO->Prop) j=>N d (λv I=>M I (λk r=>(A.get r).l.length<hV/\P (U.put (A.hole r) #[pk (A.get r).l k v])) λC f=>j C<|J.pj f) λC f=>j C<|J.pj f):=by
  refine e1a2 hk λta a1 a2=>?_
  refine e1a2 he λte b1 b2=>?_
  have Q:∀{F R g h:Rg} {H b:Hp} {C y:g9} {f:D} {m:St} {j:g9->PO->Prop},(∀C y S g h b,j C S->Ch T F R H g h b->wz T g h b S (m.take n)->E (.ref C) ↑y b)->j C (J.pj f)->Ch T F R H g h b->wz T g h b f m->E (.ref C) ↑y b:=λt q c p=>by
    refine e1a2 (wM (PO:=PO) p) λG z L=>?_
    exact t _ _ _ G _ _ q (c.less z) L
  refine#[_,He hu hn a1 b1 hs,λd F R m H P Kr j En s hw kn kr t=>b2 d F R m H _ _ _ s hw (λv I u F1 R1 H1 q1 W o r1=>?_) λC y f g h b q c p=>Q t q c p]
  obtain⟨y0,aa,Y,_,_⟩:=Ei (i:=i) o
  refine#[_,Y,a2 I F1 R1 m H1 _ _ _ o q1 (λk r w F2 R2 H2 Z c2 s2 r2=>?_) λC y f g h b q c p=>Q t q (Ch.trans s o.tab W c) p]
  subst r2
  refine e2a4 (Ry (i:=i) s2) λy us z L g3 g4=>?_
  rw[Y]at z
  cases z
  obtain⟨c3,s3⟩:=g4 _ _<|Rx (k:=k) (o.val c2 r1) g3
  exact#[_,_,rfl,Hc.k (k:=iJ k) L (by rw[Lw g3];exact Z.1),kn _ F2 R2 _ m Z.2 (Ch.trans s o.tab W<|Ch.trans o s2.tab c2 c3) s3<|Ag.refl _ _]
end
section
variable{D PO τ:Type}[Sls D][Sls PO][Ow τ]{α β:Type}[Rep α][Rep β]
def GH{i:Nat}[Sls c][A:At i D (List Int) c](s:wz T F R H d e):∃a,e[i]?=↑(some<|.ref a)/\H a=↑(.lst<|(A.get d).map V.int):=by obtain⟨v,h,j,f,_,⟨_,u,rfl,a,k,rfl,_,b,g⟩,_⟩:=A.take s.rel;rw[paired_ints g]at b;exact#[a,f,b]
def a1I(i j:Nat)[Sls D1][Sls D2][A:At i D (List Int) D1][B:At j D (List Int) D2](u:X.calm=true)(v:Gl X "sorted")(C:X.mg "sorted"=none)(L:Gl X "set")(M:X.mg "set"=none)(hn:PE X (.Name x c) (vW i))(G:PE X (.Name y e) (vW j))
 (f:hJ [.Name x c] X.env=(false,eval (.Name x c) X.env)::hJ [] X.env:=by rfl) (g:hJ [.Name y e] X.env=(false,eval (.Name y e) X.env)::hJ [] X.env:=by rfl)
 (h:hJ [.BinOp (.Call (.Name "set" N) [.Name x c] [] O) .BitXor (.Call (.Name "set" P) [.Name y e] [] S) W] X.env=(false,eval (.BinOp (.Call (.Name "set" N) [.Name x c] [] O) .BitXor (.Call (.Name "set" P) [.Name y e] [] S) W) X.env)::hJ [] X.env:=by rfl) :
    EO X E T (.Call (.Name "sorted" q1) [.BinOp (.Call (.Name "set" N) [.Name x c] [] O) .BitXor (.Call (.Name "set" P) [.Name y e] [] S) W] [] pos)
      (λ(d:D)(Y:OL Int->D->Prop) _=>(yN (A.get d)/\yN (B.get d)/\∃U:List Int,U.length<64/\(∀k∈A.get d,k∈U)/\∀k∈B.get d,k∈U)/\Y #[xr (A.get d)<|B.get d] d):=by
  refine#[_,wT (Cp u) v C kQ (vy (xk UB (yd (JB u) L M oB (vy hn vJ f) (he:=f))<|yd (JB u) L M oB (vy G vJ g) (he:=g)) vJ h) (he:=h),λd F R σ H Y Ke Q s hw kn ke=>?_]
  obtain⟨⟨Z,rb,U,hU,ua,ub⟩,o⟩:=hw
  have la:=w4 Z ua
  have lb:=w4 rb ub
  refine e1a2 (GH (i:=i) s) λa a1 a2=>?_
  refine#[_,a1,a,A.get d,rfl,wF.of a2,q0a,λp ka hp aa ab ma=>?_]
  refine e0a3 (s.new (xH X.w p ka) hp) λt c1 _=>?_
  refine e1a2 (GH (i:=j) t) λb b1 b2=>?_
  refine#[_,b1,b,B.get d,rfl,wF.of b2,q0a,λq kb hq ae af mb=>?_]
  refine e0a3 (t.new (xH X.w q kb) hq) λI c2 _=>?_
  have J:p≠q:=vC vt hq
  refine#[p,q,ka,kb,rfl,rfl,by rw[vo J];exact vt,vt,q0a,λr m hr n mc=>?_]
  refine e0a3 (I.new (xH X.w r m) hr) λs3 c3 _=>?_
  have mm:∀k,k∈m↔k∈xr (A.get d) (B.get d):=λk=>by
    rw[mc,B4<|vS rb,ma,mb]
    by_cases h1:k∈A.get d<;>by_cases h2:k∈B.get d<;>simp[h1,h2]
  have lc:m.length<64:=by
    have:=SX.zN m U n λk o=>by
      rw[mc,ma,mb]at o
      exact o.elim (λz=>ub k z.1) λz=>ua k z.2
    lia
  refine#[r,m,rfl,vt,lc,λl ns hl pn sn=>?_]
  rw[EM pn sn,E5 n mm<|A4 Z]
  refine e1a3 (yf s3 hl<|yE (R:=R)<|xr (A.get d)<|B.get d) λR' c4 s4 n4=>?_
  exact kn _ d _ _ F R' _ o (Ch.trans s t.tab c1<|Ch.trans t I.tab c2<|Ch.trans I s3.tab c3 c4) s4 n4
end
structure T3(α β γ:Type) where
 a:α
 b:β
 c:γ
instance{α β γ:Type}[Ow α][Ow β][Ow γ]:Ow (T3 α β γ):=#[λF R H x v=>∃p u1 u2 u3 F1 F2 F3,v=↑(.ref p)/\¬R p/\H p=↑(.tup [u1,u2,u3])/\ET F F1 F2 F3/\sl F1 R H x.a ↑u1/\sl F2 R H x.b ↑u2/\sl F3 R H x.c ↑u3,
 λh e s n=>by
  obtain⟨p,u1,u2,u3,F1,F2,F3,h1,h2,h3,t,g1,g2,g3⟩:=h
  exact#[p,u1,u2,u3,F1,F2,F3,h1,(e.wide s).not h2 h3,e.keep p _ (λz=>h2<|s p z) h3,t,Ow.st g1 e s λa z=>n a<|(t.all a).mpr<|.inl z,Ow.st g2 e s λa z=>n a<|(t.all a).mpr<|.inr<|.inl z,Ow.st g3 e s λa z=>n a<|(t.all a).mpr<|.inr<|.inr z],
 λh e=>by
  obtain⟨p,u1,u2,u3,F1,F2,F3,h1,h2,h3,t,g⟩:=h
  exact#[p,u1,u2,u3,F1,F2,F3,h1,h2,h3,#[λa=>(e a).symm.trans (t.all a),t.IZ,t.Kt,t.Ku],g]]
section
variable{D PO τ:Type}[Sls D][Sls PO][Ow τ]{α β γ:Type}[Ow α][Ow β][Ow γ]
def Vl{x1}(i j k:Nat)[Sls D'][Sls P][Sls Q][Sls S][Hs α][Hs β][Hs γ][g:At i D α P][l:At j P β Q][t:At k Q γ S][J:Pj S PO n](u:PE X (.Name x v) (vW i))(w:PE X (.Name y m) (vW j))(A:PE X (.Name z e) (vW k))
 (h1:hJ [.Name x v,.Name y m,.Name z e] X.env=(false,eval (.Name x v) X.env)::hJ [.Name y m,.Name z e] X.env:=by rfl) (h2:hJ [.Name y m,.Name z e] X.env=(false,eval (.Name y m) X.env)::hJ [.Name z e] X.env:=by rfl) (h3:hJ [.Name z e] X.env=(false,eval (.Name z e) X.env)::hJ [] X.env:=by rfl) :
    S1 X E T ms n (.Return (some<|.Tuple [.Name x v,.Name y m,.Name z e] x1 p4) pos) (λ(d:D)(_:D'->Prop)(U:T3 α β γ->PO->Prop) _=>U #[g.get d,l.get<|g.hole d,t.get<|l.hole<|g.hole d]<|J.pj<|t.hole<|l.hole<|g.hole d):=by
  refine#[_,CY<|PY<|vy u (vy w (vy A vJ h3) h2) h1,λd F R σ H Kn U Ke En s hw kn kr ke=>?_]
  refine e3a4 (g.take s.rel) λ_ G1 G2 W b g1 r1=>?_
  obtain⟨B,rfl⟩:=Hs.has g1
  refine e3a4 (l.take r1) λ_ _ _ Y _ g2 r2=>?_
  obtain⟨C,rfl⟩:=Hs.has g2
  refine e3a4 (t.take r2) λ_ _ _ Z _ g3 _=>?_
  obtain⟨I,rfl⟩:=Hs.has g3
  refine#[B,W,C,Y,I,Z,(by show 3<=hV;decide),λp hp=>?_]
  refine e0a3 (s.new (.tup [B,C,I]) hp) λL c1 n1=>?_
  refine e3a4 (g.take L.rel) λv1 o E1 b1 b k1 q1=>?_
  refine e3a4 (l.take q1) λv2 q E2 b2 c k2 q2=>?_
  refine e3a4 (t.take q2) λv3 r E3 b3 f k3 q3=>?_
  rw[W]at b1
  rw[Y]at b2
  rw[Z]at b3
  cases b1
  cases b2
  cases b3
  refine e1a2 (J.le q3) λG l1 l2=>?_
  have i1:∀a,o a->F a:=λa h=>(b.all a).mpr<|.inl h
  have i2:∀a,q a->F a:=λa h=>(b.all a).mpr<|.inr<|(c.all a).mpr<|.inl h
  have i3:∀a,r a->F a:=λa h=>(b.all a).mpr<|.inr<|(c.all a).mpr<|.inr<|(f.all a).mpr<|.inl h
  have M:∀a,G a->F a:=λa h=>(b.all a).mpr<|.inr<|(c.all a).mpr<|.inr<|(f.all a).mpr<|.inr<|l1 a h
  have dG:∀a,o a\/q a\/r a->¬G a:=λa h z=>by
    have N:=l1 a z
    rcases h with h|h|h
    · exact b.yP a h<|(c.all a).mpr<|.inr<|(f.all a).mpr<|.inr N
    · exact c.yP a h<|(f.all a).mpr<|.inr N
    · exact f.yP a h N
  have O:∀a,o a\/q a\/r a->F a:=λa h=>h.elim (i1 a) λh=>h.elim (i2 a)<|i3 a
  exact kr _ _ (.ref p) (λa=>o a\/q a\/r a) G R _ hw #[c1.keep,λ_ h=>.inl h,λa h=>.inl<|h.elim (O a)<|M a,λ_ h _=>h] #[l2,λa h=>s.sub a<|M a h,L.xI,L.tab,s.wj,λh=>s.v0<|M T h]
    #[#[p,B,C,I,o,q,r,rfl,n1,vt,#[λ_=>Iff.rfl,λa h k=>b.yP a h<|(c.all a).mpr<|.inl k,λa h k=>b.yP a h<|(c.all a).mpr<|.inr<|(f.all a).mpr<|.inl k,λa h k=>c.yP a h<|(f.all a).mpr<|.inl k],k1,k2,k3],λa h=>s.sub a<|O a h,λa h z=>dG a h z,λh=>s.v0<|O T h]
def Vm(i j k:Nat){σ1 YA σ3 D0 D1 D2 D3 D4 D5:Type}[Ow σ1][Ow YA][Ow σ3][Sls D0][Sls D1][Sls D2][Sls D3][Sls D4][Sls D5][A:At i D σ1 D0][U:Pt i D0 α D1][A2:At j D1 YA D2][U2:Pt j D2 β D3][A3:At k D3 σ3 D4][U3:Pt k D4 γ D5][J:Pj D PO n]{we:Wf D (T3 α β γ) D}
 (hp:PG X tg (XA X.K 3<|Gh (Dz i)<|Gh (Dz j)<|Gh (Dz k) Xz)) (hi:i∉ms) (hj:j∉ms) (hk:k∉ms) (he:EO X E T e we)
 (hb:∀{te:TE} {t:TG},PE X e te->PG X tg t->PS X (.Assign [tg] e pos) (T9 te t):=by intro te t h1 h2;exact GZ h1 h2) :
    S1 X E T ms n (.Assign [tg] e pos) (cS we J.pj λ(Kn:D5->Prop)(Kr:τ->PO->Prop) x d1=>Kn<|U3.put (A3.hole<|U2.put (A2.hole<|U.put (A.hole d1) x.a) x.b) x.c):=by
  refine e1a2 he λt h1 h2=>?_
  refine#[_,hb h1 hp,λd F R σ H Kn Kr Ke En s hw kn kr ke=>h2 d F R σ H _ _ _ s hw (λx d1 v F1 F2 R1 H1 q1 c1 s1 m1=>?_) λC y d' F' R' H' q c s'=>?_]
  · obtain⟨p, u1, u2, u3, G1, G2, G3, e1, e2, e3, t3, g1, g2, g3⟩ := m1.is
    cases e1
    have j1:∀a,G1 a->F1 a:=λa h=>(t3.all a).mpr<|.inl h
    have j2:∀a,G2 a->F1 a:=λa h=>(t3.all a).mpr<|.inr<|.inl h
    have j3:∀a,G3 a->F1 a:=λa h=>(t3.all a).mpr<|.inr<|.inr h
    refine e1a2 (GC (i:=i) s1 (x:=x.a) (v:=u1) (F1:=G1) #[g1,λa h=>m1.sub a<|j1 a h,λa h z=>m1.yP a (j1 a h) z,λh=>m1.tab<|j1 T h]) λL1 k1 f1=>?_
    refine e1a2 (GC (i:=j) f1 (x:=x.b) (v:=u2) (F1:=G2) #[g2,λa h=>m1.sub a<|j2 a h,λa h z=>(k1 a z).elim (λq=>t3.IZ a q h)<|m1.yP a<|j2 a h,λh=>m1.tab<|j2 T h]) λL2 k2 f2=>?_
    refine e1a2 (GC (i:=k) f2 (x:=x.c) (v:=u3) (F1:=G3) #[g3,λa h=>m1.sub a<|j3 a h,λa h z=>(k2 a z).elim (λq=>t3.Ku a q h) λz=>(k1 a z).elim (λq=>t3.Kt a q h)<|m1.yP a<|j3 a h,λh=>m1.tab<|j3 T h]) λL3 k3 f3=>?_
    exact#[p,[u1,u2,u3],rfl,zI.of e3,rfl,u1,[u2,u3],rfl,u2,[u3],rfl,u3,[],rfl,rfl,kn _ L3 R1 H1 _ q1 (c1.less λa h=>(k3 a h).elim (λq=>.inl<|j3 a q) λh=>(k2 a h).elim (λq=>.inl<|j2 a q) λh=>(k1 a h).elim (λq=>.inl<|j1 a q) .inr) f3<|((Ag.set hi).trans<|Ag.set hj).trans<|Ag.set hk]
  · refine e1a2 (wM (PO := PO) s') λG g1 g2 => ?_
    exact ke C y _ G R' H' q (c.less g1) g2
end
end WL
namespace L2
variable[L2.GX]
open PySem PySem.Spec PyProof.Rows
noncomputable abbrev yi(X:Cx)(a:List (g9×Obj))(h:XK)(i:St->Prop):Cx :=
 { X with pn:=a,xe:=λe j=>∃(b:List (g9×Obj)) (c:St) (d:Hp) (f:hW) (C x:g9) (g:Hp),e=.ref x/\Inv { X with pn:=a} b c d f/\i c/\EJ X.prog X.w X.stack d f g C x j/\h (.ref C) ↑x g}
def Inv.YT(I:Inv X a b H s):Inv (yi X (X.pn++a) d e) [] b H s :=
 #[55,I.os,I.bare,I.base,I.loc,I.cell,I.free,I.yT,λp c=>I.pin p (by simpa using c),I.wg,I.len]
def Inv.HL(I:Inv (yi X (X.pn++a) e f) b c H s):Inv X a c H s :=
 #[55,I.os,I.bare,I.base,I.loc,I.cell,I.free,I.yT,λp d=>I.pin p<|i8 _ d,I.wg,I.len]
def Inv.a0R(I:Inv (yi X b d e) a c H s):Inv { X with pn:=b} a c H s :=
 #[55,I.os,I.bare,I.base,I.loc,I.cell,I.free,I.yT,I.pin,I.wg,I.len]
def Lx(c:P0)(X:Cx)(E:XK)(d:St):Prop:=∀(a:List (g9×Obj)) (H:Hp) (s:hW) (e:cr) (b:hW),Inv X a d H s->c X.stack H s E e b->X.xe e b
def a0S(h:c b):Lx (wh X.prog X.w) (yi X d f c) f b:=by intro a g i e m I j;obtain⟨C,x,k,rfl,F,l⟩:=j;exact#[a,b,g,i,C,x,k,rfl,I.a0R,h,F,l]
def Vn(F:vZ X.prog X.w X.K X.mg X.base l k f m g n)(o:wR k X.A)(p:Binds X.K m g d)(q:Vals b d)(t:Lx l X E i)
 (I:Inv X a i H s)(r:Vals vs us)(h:n (vs++b) H Q E):ic 54 X.A (call (.ref f) us) (EP X a i Q) X.xe s:=by
  have j:Vals (vs++b) (us++d):=r.append q
  have v:(us++d).length=g.length:=by rw[<- j.length];exact F.len _ _ _ _ h
  refine m9<|kh (F.run X.A X.stack s H ⟨us,[]⟩ (us++d) (vs++b) Q E o I.Jn (p s us I.zl v) j h) λr x c=>?_
  cases r with
  |error e=>exact t a H s e x I c
  |ok y =>
    cases y with
    |ret u=>exact I.after c
    |next=>exact iO c
    |brk=>exact iO c
    |cont=>exact iO c
def RB(c:P0)(X:Cx)(C:g9)(m:Str)(d:Sp)(a:List V)(E:XK)(e:TE)(t:TA):TE:=λb H Q=>Lx c X E b/\Gk C m d a E e t b H Q
def RC(G:PE X o J)(c:Bo X.K C)(v:Meth X.K C m f)(F:vZ X.prog X.w X.K X.mg X.base CX k f L M N)(O:wR k X.A)(P:Binds X.K L M R)(hd:Vals i R)(S:PA X (e::d) t)
 (j:hJ (e::d) X.env=70::hJ d X.env:=by rfl) (n:(jB pos<|hJ d X.env).any (·.1)=false:=by rfl)
 (ht:eval (.Call (.Attribute o m apos) (e::d) [] pos) X.env=(do
 let y <- eval o X.env
 nC apos.atName
 let (f,first) <- lw [y] (nc y m T)
 n6 pos f first (jB pos (hJ (e::d) X.env)) (nE pos (lx [] X.env))):=by rfl) :
    PE X (.Call (.Attribute o m apos) (e::d) [] pos) (RB CX X C m N i E J t):=by
  intro b s z H Q I h
  obtain⟨U,h⟩:=h
  refine oZ (pl:=T) (wc (G b s z H _ I h) λu Y p=>e2a3 p λx H1 B Z g=>e3a4 g λa dx fs ex ea l q=>?_) ht
  subst ex
  obtain rfl:u=iw a:=Z
  refine BV B ea c v l ?_
  refine pZ (first:=[.ref a]) (h₀:=X.base) I.ok.mod.B8 v.kp (wc (S pos b Y z H1 _ B q) λus s2 p=>e2a3 p λvs H2 D r q2=>#[D.zl,?_]) j n
  exact Vn (us:=.ref a::us) (vs:=.ref a::vs) F O P hd U D (.cons rfl r) q2
def a2W(o:Option (List V))(h h':i9):Prop:=match o with
 |none=>h'=h
 |some xs=>∃AD:List cr,Vals xs AD/\xs.length<=hV/\h'=h.push { cls:=.type "tuple",data:=.seq AD.toArray}
def Lay(o:Option (List V))(H H':Hp):Prop:=match o with
 |none=>H'=H
 |some xs=>∃p,H p=none/\H'=upd H p (.tup xs)
def ClO(X:Cx)(d:iV)(e:List g9)(o:Option (List V)):Prop:=∀(x C:g9) (a:List (g9×Obj)) (s:hW) (f:St) (H:Hp) (Q:Bool->hW->Prop) (E:cr->hW->Prop),C∈e->Inv (hand X x) a f H s->(∃b,s.heap.get? x=↑b/\b.cls=.ref C) ->
 (∀c,a2W o s.heap c->Q true { s with heap:=c}) ->
 ic 54 (X.A.mark<|some<|.ref x) (eval d X.env) (λv g=>ic 54 (X.A.mark<|some<|.ref x) (excMatches (.ref x) v) Q E g) E s
def YU{r:Nat}(e:Gl X f)(g:X.mg f=↑(.ref c))(h:Gl X i)(j:X.mg i=↑(.ref d))(l:l6 X.K (.ref c) [.ref c,.ref d]=↑true)(m:l6 X.K (.ref d) [.ref c,.ref d]=↑true)
 (t:(f==66)=false:=by decide) (u:(i==66)=false:=by decide) :
    ClO X (.Tuple [.Name f D,.Name i F] r pos) [c,d] (some [.ref c,.ref d]):=by
  intro x n p s G H Q E v I ⟨J,y,A⟩ k
  have B:j5 54 s.heap (typeOf<|.ref x) (.ref n):=A▸(sw y).andThen .now
  refine wpAny_Tuple_spliced ?_
  refine ko<|zY (X:=hand X x) I e g (ko<|zY (X:=hand X x) I h j (lS ?_) u) t
  refine#[by show 2<=hV;decide,?_]
  have q:∀b o,s.heap.get? b=↑o->(s.heap.push { cls:=.type "tuple",data:=.seq [iw c,iw d].toArray}).get? b=↑o:=λb o z=>ce _ z
  have C:l6 X.K (.ref n) [.ref c,.ref d]=↑true:=by
    rcases List.mem_cons.mp v with z|z
    · rw[z]; exact l
    · rw[List.mem_singleton.mp z]; exact m
  refine(PySem.W.exm_tup2 (λa o z=>q a o<|I.zl a o z) (B.keeps q) (ik _ rfl) C).here ?_
  exact k _ #[[.ref c,.ref d],.cons rfl<|.cons rfl .nil,(by show 2<=hV;decide),rfl]
def Inv.adopt(I:Inv X a j H s)(f:BS X a H p)(c:wA X.prog X.w (upd H p o) s.heap p o):Inv X a j (upd H p o) s:=by
 refine e0a6 f λi k r l n q=>?_;have d:∀b u,H b=↑u->b≠p:=λb u e z=>by rw[z,i]at e;cases e
 have J:=I.step (h':=s.heap) (g':=s.gens) (d':=s.drawn) (t':=s.toks) (ch:=[p]) (H':=upd H p o) (λb g=>by rw[List.mem_singleton.mp g];exact#[l,k,n,q]) (λb o _ _ _ e _=>e) (λb o _ _ _ e _=>#[o.slots,e])
  (λb _ g _ e=>by rw[vo λz=>g<|by rw[z];exact List.mem_singleton.mpr rfl];exact e) (λb o _ e=>#[o,e]) (λb t e=>by rw[vo<|d b _ e];exact e) (λb o u e=>by rw[vo<|d b _ e];exact e) (λb v e=>#[#v[],by rw[vo<|d b _ e,e];simp]) (λm h=>h) (I.wg.WU i c) I.bare
 exact J
def a0T(i:XK->(St->Prop)->List (g9×Obj)->TS)(j:List g9)(o:Option (List V))(k:g9->TS):TS:=λD d H=>∃e:XK,(∀c f b,e c f b->∃C∈j,c=.ref C)/\(∀g,i e (λh=>h=d) g D d H)/\∀(c:cr)(f:Option g9)(b a:Hp),e c f b->Lay o b a->∀x,k x D d a
def Vo(E:X.stack=X.env::X.outer)(Y:ClO X ty Cs o)
 (hb:∀U Φ N,FP (yi X N U Φ) body<|tb U Φ N) (hs:∀x,FP (hand X x) (b0::i)<|th x) :
    PS X (.Try body [.ExceptHandler ↑ty none (b0::i) hp] [] [] tp) (a0T tb Cs o th):=by
  intro d s σ H D I h
  refine e1a3 h λU Z hB hH=>?_
  refine wpAny_Try_except<|jm (hb U _ (X.pn++d) [] s σ H D I.YT<|hB _) (λO g q=>?_)<|λe g q=>?_
  · cases O with
    |next=>obtain⟨a,c,J,z⟩:=q;exact ot #[a,c,J.HL,z]
    |brk=>obtain⟨a,c,J,z⟩:=q;exact#[a,c,J.HL,z]
    |cont=>obtain⟨a,c,J,z⟩:=q;exact#[a,c,J.HL,z]
    |ret u=>obtain⟨v,a,c,J,r,z⟩:=q;exact#[v,a,c,J.HL,r,z]
  · obtain⟨aa, k, H1, s0, C', x, c, rfl, J, ab, F, hE⟩ := q
    subst ab
    refine e1a2 (Z _ _ _ hE) λC hC hc=>?_
    cases hc
    have nf:=F.nfr J.frn
    refine e2a2 F.fly λB a0 O ae=>?_
    have af:mr B (X.env::X.outer) x (.ref C') a0 g.heap:=by rw[<- E];exact O
    have ag:X.A.frames=↑(X.env::X.outer):=by rw[<- E];exact J.ok.frames
    have ah:X.env.frame=↑X.env.locals:=yD I E
    refine wpAny_looks_onW ag ah af λh4 P ai=>wpAny_landsW P λl m aj=>?_
    have j:g.heap.UpToSlots l:=ai.trans aj
    have G:∀(n:i9)(Q:Nat),B.StaysIn n->g.heap.UpToSlots n->Inv X d k c { g with heap:=n,toks:=Q}:=λn Q st up=>by
      obtain⟨u6,ak⟩:=QD F.un F.wg ae nf st up
      have J6:=J.call (h':=n) (g':=g.gens) (d':=g.drawn) (t':=Q) (ch:=[]) u6 ak F.bare<|λb z=>io z q0o
      have e6:{ s0 with heap:=n,gens:=g.gens,drawn:=g.drawn,toks:=Q}={ g with heap:=n,toks:=Q}:=by
        have:=F.os
        obtain⟨_,_,_,_,an⟩:=g
        obtain⟨_,_,_,_,ao⟩:=s0
        rw[this]
      rw[<- e6]
      exact J6.a2v
    have I5:=G l g.toks m.1 j
    have R:∀(S:Hp)(t:i9),Lay o c S->Inv X d k S { g with heap:=t}->ic 54 (X.A.mark<|some<|.ref x) (execs (b0::i) X.env) (λf T=>SP X d D f T) (λ_ _=>False) { g with heap:=t}:=λS t hY I7=>by
      refine jm (hs x d _ k S D I7.QG<|hH _ _ c S hE hY x) (λO s7 q=>?_) λ_ _ z=>z.elim
      cases O with
      |next=>obtain⟨a,c,J,z⟩:=q;exact#[a,c,J.Ho I.ok.hd,z]
      |brk=>obtain⟨a,c,J,z⟩:=q;exact#[a,c,J.Ho I.ok.hd,z]
      |cont=>obtain⟨a,c,J,z⟩:=q;exact#[a,c,J.Ho I.ok.hd,z]
      |ret u=>obtain⟨v,a,c,J,r,z⟩:=q;exact#[v,a,c,J.Ho I.ok.hd,r,z]
    refine wpAny_handleBy_cons (codeAny_handlers_test<|Y x C' d { g with heap:=l} k c _ _ hC I5.QG m.there λn hL=>?_) (by intro q;cases q)
    refine codeAny_handlers_suite ?_
    cases o with
    |none =>
      subst hL
      refine lands_againW (s:={ g with heap:=n}) m λt L y=>?_
      exact jm (R c t rfl<|G t g.toks L.1<|j.trans y) (λ_ _ z=>z) λ_ _ z=>z.elim
    |some xs =>
      obtain⟨M,r,hz,rfl⟩:=hL
      have kp:∀b o,l.get? b=↑o->(l.push { cls:=.type "tuple",data:=.seq M.toArray}).get? b=↑o:=λb o z=>ce _ z
      have al:=PySem.W.flying_keeps m kp
      refine lands_againW (s:={ g with heap:=l.push { cls:=.type "tuple",data:=.seq M.toArray}}) al λt L y=>?_
      have I7:=G t g.toks L.1<|(j.trans<|qE kp).trans y
      have n5:c l.objs.size=none:=I5.wg.fresh<|hO _
      obtain⟨sl,e7⟩:=y l.objs.size _ (ik _ rfl) (λvs z=>by cases z)
      have I8:=I7.adopt (p:=l.objs.size) (o:=.tup xs) (I5.G0 (hO _) n5) #[hz,M,r,_,e7,rfl,_,rfl]
      exact jm (R _ t #[_,n5,rfl] I8) (λ_ _ z=>z) λ_ _ z=>z.elim
end L2
namespace WL
variable[L2.GX]
open PySem L2
open Rep (rp)
open Ow (sl)
open Sls (rel)
def BW(X:Cx)(T:g9)(c:List iH){D:Type}[Sls D](w:D->(D->Prop)->72->Prop):Prop:=∀i j h,∃t,FP (yi X h i j) c t/\∀(d:D)(F R:Rg)(b:St)(H:Hp)(k:D->Prop)(l:g9->D->Prop)(m:Ends),j b->wz T F R H d b->w d k l ->
 (∀e f g a,k e->Ch T F R H f g a->wz T f g a e b->m.nx b a)->(∀C y e f g a,l C e->Ch T F R H f g a->wz T f g a e b->i (.ref C) ↑y a)->t m b H
section
variable{D PO τ τ1:Type}[Sls D][Sls PO][Ow τ][Ow τ1]
def Vp{h:Pos}{n:List iV}(i:Nat){J P o B E y:Type}[Sls J][Sls P][Sls o][Sls B][Sls E][Sls y][Lb y τ1<|Bd C k×o]{r:B->y->o->D}{L:D->(P->B->y->Prop)->72->Prop}
 {M:Wf (Bd C k×P) τ1 (Bd C k×o)} [A0:At i D (Bd C k) J] [A:At i B (Bd C k) E] [U:Pt i E (Bd C k) B]
 (O:∀a b c d u,(zg a b c d u k).lookup m=none) (Q:∀g j f,Li (yi X f g j) g T (e::n) r L)
 (S:∀(g:XK)(j:St->Prop) (f:List (g9×qW)) {t:TA},PA (yi X f g j) (e::n) t->PE (yi X f g j) (.Call (.Attribute (.Name x N) m apos) (e::n) [] pos) (RB (wh X.prog X.w) (yi X f g j) C m (yY T M) [] g (vW i) t))
 (W:kj (.Call (.Attribute (.Name x N) m apos) (e::n) [] pos) none h.line X.env=pure false:=by rfl) :
    BW X T [.Expr (.Call (.Attribute (.Name x N) m apos) (e::n) [] pos) h] (cN L M A.get λb l p=>r (U.put (A.hole b) p.1) l p.2):=by
  intro g j f
  refine e1a2 (Q g j f) λtr Y Z=>?_
  refine#[_,yu<|yV (S g j f Y) W,λd G R σ H Kn Ke En F s hw kn ke=>#[a0S F,?_]]
  refine JO i O Z d G R σ H (λ_ I=>Kn I) Ke _ s hw (λx I v F1 F2 R' H' q c s' m=>?_) ke
  exact kn I F2 R' H' q (c.less λa z=>.inr z) s'
def a0V{j:Pos}{n:List iV}(i:Nat){G P s B F y:Type}[Sls G][Sls P][Sls s][Sls B][Sls F][Sls y][Lb y τ1<|Bd C q×s]{v:B->y->s->D}{H:D->(P->B->y->Prop)->72->Prop}
 {I:Wf (Bd C q×P) τ1 (Bd C q×s)} [A0:At i D (Bd C q) G] [A:At i B (Bd C q) F] [U:Pt i F (Bd C q) B] {k:Nat} {L:List Str} {M:Sem Bool}
 (h:Fm X.prog X.w X.K X.mg X.base T C m L I k) (N:wR k X.A) (O:Bo X.K C) (Q:∀(o:XK)(r:St->Prop) (g:List (g9×qW)),PE (yi X g o r) (.Name x z)<|vW i) (R:∀(o:XK)(r:St->Prop) (g:List (g9×qW)),Li (yi X g o r) o T (e::n) v H) (S:∀a b c d u,(zg a b c d u q).lookup m=none:=by intros;rfl)
 (W:hJ (e::n) X.env=70::hJ n X.env:=by rfl) (Y:(jB pos<|hJ n X.env).any (·.1)=false:=by rfl)
 (Z:eval 96 X.env=(do
 let J <- eval (.Name x z) X.env
 nC apos.atName
 let (f,first) <- lw [J] (nc J m M)
 n6 pos f first (jB pos (hJ (e::n) X.env)) (nE pos (lx [] X.env))):=by rfl)
 (hs:kj 96 none j.line X.env=pure false:=by rfl) :
    BW X T [.Expr 96 j] (cN H I A.get λb l p=>v (U.put (A.hole b) p.1) l p.2) :=
  Vp i S R (λo r g {t} b1=>RC (X:=yi X g o r) (CX:=wh X.prog X.w) (E:=o) (Q o r g) O h.me h.ok N h.bd .nil b1 W Y Z) hs
def Vq{j a:List iH}{z:List g9}{o:Option (List V)}{wb:D->(D->Prop)->72->Prop}{A:D->(D->Prop)->106->88->Prop}(B:X.stack=X.env::X.outer)(G:ClO X ty z o)
 (I:BW X T j wb) (w:∀k,SW (hand X k) E T ms n (b0::a) A) :
    S1 X E T ms n (.Try j [.ExceptHandler ↑ty none (b0::a) hp] [] [] tp) (cT wb A z):=by
  refine#[_,Vo (tb:=λJ L b=>(I J L b).choose) (th:=λk=>(w k).choose) B G (λJ L b=>(I J L b).choose_spec.1)<|λk=>(w k).choose_spec.1,λd F R r H Kn Kr Ke M s hw kn kr ke=>?_]
  refine#[λc _ l=>∃C i f h,c=.ref C/\C∈z/\A i Kn Kr Ke/\Ch T F R H f h l/\wz T f h l i r,?_,λb=>?_,?_]
  · rintro c ox l ⟨C, i, f, h, e, m, _⟩
    exact#[C,m,e]
  · exact(I _ _ b).choose_spec.2 d F R r H _ _ M rfl s hw (λi f h l q c N => kn i f h l r q c N<|Ag.refl _ _) λC y i f h l q c N => #[C, i, f, h, rfl, q.1, q.2, c, N]
  · rintro c ox l aa ⟨C, i, f, h, e, m, O, t, st⟩ hL k
    have go:∀{u:Hp},Ch T F R H f h u->wz T f h u i r->(w k).choose M r u:=λ{u} t st=>(w k).choose_spec.2 i f h r u Kn Kr Ke M st O (λd1 F1 R1 H1 P q c s1 g=>kn d1 F1 R1 H1 P q (Ch.trans s st.tab t c) s1 g) (λx Q v M1 M2 S U W Y Z n4=>kr x Q v M1 M2 S U W (Ch.trans s st.tab t Y) Z n4) λC y Q F4 S U W Y Z=>ke C y Q F4 S U W (Ch.trans s st.tab t Y) Z
    cases o with
    |none =>
      rw[hL]
      exact go t st
    |some xs =>
      obtain⟨p,hp,rfl⟩:=hL
      refine e0a3 (st.new (.tup xs) hp) λs3 c3 _=>?_
      exact go (Ch.trans s st.tab t c3) s3
end
structure a0W(q:Cq)(C1 C2:g9)(y1 y2:Str):Prop where
 m1:q.mg y1=↑(.ref C1)
 m2:q.mg y2=↑(.ref C2)
 x1:l6 q.K (.ref C1) [.ref C1,.ref C2]=↑true
 x2:l6 q.K (.ref C2) [.ref C1,.ref C2]=↑true
end WL
namespace L2
variable[L2.GX]
open PySem PySem.Spec PyProof.Rows
def A7:Slot "wrapper_descriptor" "__get__" "wrapper_descriptor.__get__":=.of (owner:="wrapper_descriptor") (n:="__get__") (by rw[oy,mo];kernel_rfl) q0s q0s q0s
 (.inl<|by kernel_rfl) (by rw[tY];kernel_rfl)
def HM:tV uD "wrapper_descriptor.__get__"=↑Builtin.«wrapper_descriptor.__get__»:=entryFor_of_tree (by kernel_rfl)
def JT(a b c:cr):sr "wrapper_descriptor.__get__" #[[a,b,c],[]]:=by unfold sr;kernel_rfl
def Am:typeOf (.builtin "ValueError.__init__")=pure (.type "wrapper_descriptor"):=by kernel_rfl
noncomputable def a0X(obj cls:cr)(name:Str):Sem Unit:=do
  rule "descr.get.wrong-instance"
  raiseError "TypeError" s!"descriptor '{name.toString}' for '{← typeName cls}' objects doesn't apply to a '{← typeNameOf obj}' object"
def OJ(x C:g9):Builtin.«wrapper_descriptor.__get__» #[[.builtin "ValueError.__init__",.ref x,.ref C],[]]=((isInstance (.ref x) (.type "ValueError") >>= λb=>if (!b)=true then a0X (.ref x) (.type "ValueError") "__init__" else pure ()) >>= λ_=>newFields "method-wrapper" [.builtin "ValueError.__init__",.ref x] >>= ret):=by kernel_rfl
section
variable{prog:iN}{w:jf}{A:jL}{E:cr->hW->Prop}{h:i9}{g:Array pJ}{d:Drawn}{t:Nat}{os:OsState}{so D x C:g9}{ox:Obj}{l0 l:List cr}{K:hI}
def Fd(c:h.get? x=↑ox)(b:ox.cls=.ref C)(a:j5 (ii prog w) h (isSubtype (.ref C)<|.type "ValueError") true)
 (e:R (.ok<|.ret<|.ref h.objs.size) #[h.push { cls:=.type "method-wrapper",data:=.fields #v[.builtin "ValueError.__init__",.ref x]},g,d,t,os]) :
    m4 (ii prog w) A (.call (.builtin "wrapper_descriptor.__get__") #[[.builtin "ValueError.__init__",.ref x,.ref C],[]]) R #[h,g,d,t,os]:=by
  have f:(#[h,g,d,t,os]:hW).TypeIs (.builtin "ValueError.__init__") "wrapper_descriptor":=by first|exact ku Am|exact Am
  refine og A7.plain HM<|A7.check _ _ _ _ _ _ _ _ f (JT _ _ _) ?_
  rw[OJ]
  refine am<|am ?_
  refine am<|wpAny_typeOf_ref c ?_
  rw[b]
  refine PySem.W.Looks.at a ?_
  exact ap<|am<|iZ<|ap e
def JU(a:h.get? so=↑(pT D x C))(c:j5 (ii prog w) h (opaqueClassAbove<|.ref C) none)(j:j5 (ii prog w) h (mroOf<|.ref C) l0)(k:(l0.dropWhile (· != .ref D)).drop 1=l)(X:K.In h)
 (m:uL K "__init__" l=↑(some<|.builtin "ValueError.__init__")) (n:h.get? x=↑ox) (e:ox.cls=.ref C) (b:j5 (ii prog w) h (isSubtype (.ref C)<|.type "ValueError") true) (f:x≠C)
 (o:Q (.done<|.ret<|.ref h.objs.size) #[h.push { cls:=.type "method-wrapper",data:=.fields #v[.builtin "ValueError.__init__",.ref x]},g,d,t,os]) :
    ic (ii prog w) A (Builtin.«super.__getattribute__» #[[.ref so,.str "__init__" y],[]]) Q E #[h,g,d,t,os]:=by
  have lk:=A7.lookup
  have p:(iw x==iw C)=false:=by simp[f]
  have q:(("__init__":Str)==("__class__":Str))=false:=by decide
  have r:(#v[.ref D,.ref x,.ref C]:Array cr)[0]?=↑(.ref D):=rfl
  have s:(#v[.ref D,.ref x,.ref C]:Array cr)[1]?=↑(.ref x):=rfl
  have u:(#v[.ref D,.ref x,.ref C]:Array cr)[2]?=↑(.ref C):=rfl
  have i:(pT D x C).data=.fields #v[.ref D,.ref x,.ref C]:=rfl
  have v:=Am
  repeat (first|(with_reducible refine jp a i r ?_)|(with_reducible refine jp a i s ?_)|(with_reducible refine jp a i u ?_)|(with_reducible refine ks_wpAny_notOpaque c ?_)|(with_reducible refine PySem.W.Looks.at j ?_;rw[k])|(refine ks_forIn_along X (λ_ _=>rfl) rfl ?_ m)|(with_reducible refine ng v ?_)|(simp only[q,p,sH,lM,pM])|wp_step|dsimp only)
  exact Fd n e b<|am<|ap<|ap<|ap o
end
section
variable{prog:iN}{w:jf}{A:jL}{E:cr->hW->Prop}{h:i9}{g:Array pJ}{d:Drawn}{t:Nat}{os:OsState}
variable{nm q:Str}{C N:g9}{bs bm DS:List cr}{hdct:Bool}{sn:List Str}{sub:List cr}{ab:Bool}{col:Option Bool}{dd:Option g9}{k0 k1 k2 k3 k5:Option cr}{B newId yQ:String}
def BG(F:kT B newId yQ DS)(T:tE h DS bm){a:List cr} 
 (i:h.get? C=↑83) (u:h.Ns N v) (y:v "__init__"=↑(.ref n))
 (k:h.get? n=↑z) (l:z.cls=.type "function")
 (D:∀p e,sh h p e (.ref C) a ->
 ic (ii prog w) A (call (.ref n) (.ref e::a)) (λr s=>r=.none/\Q (.done (.ret (.ref e))) s) E #[p,g,d,t,os]) (hrest:a.length<=hV:=by size_fits) :
    ic (ii prog w) A (Builtin.«type.__call__» #[.ref C::a,[]]) Q E #[h,g,d,t,os]:=by
  repeat (first|with_reducible refine jZ i ?_|with_reducible refine wpAny_madeBy_exc i ?_|wp_step)
  refine codeAny_call_builtin_code (om _ F.quiet)<|wpAny_check_new_subT F T i ?_
  refine codeAny_exc_new_subT F T i ?_ hrest
  have j:∀b o,h.get? b=↑o->((h.push { cls:=.type "tuple",data:=.seq a.toArray}).push { cls:=.ref C,data:=.fields #v[.ref h.objs.size,.none,.none,.none,.bool false,.none]}).get? b=↑o:=λb o e=>ce _<|ce _ e
  have c:=j _ _ i
  have f:((h.push { cls:=.type "tuple",data:=.seq a.toArray}).push
      { cls:=.ref C,data:=.fields #v[.ref h.objs.size,.none,.none,.none,.bool false,.none]}).get? (h.objs.size+1)=some
      { cls:=.ref C,data:=.fields #v[.ref h.objs.size,.none,.none,.none,.bool false,.none]}:=by heap_get
  have m:(iw C::bm).contains (.ref C)=true:=by simp
  repeat (first|with_reducible refine jZ f ?_|(with_reducible refine qX c ?_;rw[m])|wp_step)
  refine wpAny_typeLookup_tail c (u.keeps j) (T.keeps j) F.mroIs F.init.lookup ?_
  rw[y]
  refine iQ<|am ?_
  refine am<|lA (T:="function") #[_,j _ _ k,l] ?_
  rw[g8 q0q]
  refine ap<|am<|jm (D _ (h.objs.size+1) ⟨j,nM<|mn _,h.objs.size,f,nM<|hO _,ce _<|oM rfl rfl⟩) (λr s G=>?_) λ_ _ x=>x
  obtain⟨rfl,H⟩:=G
  wp_walk
  exact H
def Fe(F:kT B newId yQ DS)(T:tE h DS bm){a:List cr} 
 (c:h.get? C=↑83) (k:h.Ns N l) (m:l "__init__"=↑(.ref j))
 (f:h.get? j=↑n) (i:n.cls=.type "function")
 (o:∀b e,sh h b e (.ref C) a ->
 ic (ii prog w) (A.under (.builtin "type.__call__" #[.ref C::a,[]])) (call (.ref j) (.ref e::a)) (λr p=>r=.none/\Q (.ref e) p) E #[b,g,d,t,os]) (hrest:a.length<=hV:=by size_fits) :
    ic (ii prog w) A (call (.ref C) a) Q E #[h,g,d,t,os]:=by
  have u:=tc_lookup
  have v:=tc_bind<|.ref C
  refine m9<|m6 ?_
  repeat (any_goals (first|assumption|with_reducible refine jZ c ?_|wp_step))
  refine#[rfl,?_]
  exact codeAny_call_builtin_at (om _ q0s) entry_typeCall<|wpAny_check_type_call_sub c<|BG (hrest:=hrest) F T c k m f i λb e s=>o b e s
end
noncomputable def A8(x:g9):Obj:={ cls:=.type "method-wrapper",data:=.fields #v[.builtin "ValueError.__init__",.ref x]}
section
variable{prog:iN}{w:jf}{A:jL}{E:cr->hW->Prop}{h:i9}{g:Array pJ}{d:Drawn}{t:Nat}{os:OsState}{so D x C:g9}{ox:Obj}{l0 l:List cr}{K:hI}
def B6(a:h.get? so=↑(pT D x C))(f:j5 (ii prog w) h (opaqueClassAbove<|.ref C) none)(n:j5 (ii prog w) h (mroOf<|.ref C) l0)(o:(l0.dropWhile (· != .ref D)).drop 1=l)(X:K.In h)
 (p:uL K "__init__" l=↑(some<|.builtin "ValueError.__init__")) (q:h.get? x=↑ox) (i:ox.cls=.ref C) (b:j5 (ii prog w) h (isSubtype (.ref C)<|.type "ValueError") true) (j:x≠C)
 (r:Q (.ref h.objs.size,[]) #[h.push<|A8 x,g,d,t+1,os]):ic (ii prog w) A (nc (.ref so) "__init__" y) Q E #[h,g,d,t,os]:=by
  have c:=F.ks_slot_super_ga.lookup
  have e:=F.ks_canon_super_ga
  have k:∀s,(#[h,g,d,s,os]:hW).TypeIs (.ref so) "super":=λ_=>#[_,a,rfl]
  refine am<|qf (k _) c ?_
  show ic _ _ (if (Manifest.canonical "super.__getattribute__" != "object.__getattribute__")=true then _ else _) _ _ _
  rw[g8 e]
  refine am<|am<|wpAny_mkText<|iQ<|am<|lA (k _)<|am<|ng c ?_
  refine am<|ng (show (if onTheHeap (.type "super") then nW (.type "super") "__getattr__" else pure none)=pure none from rfl) ?_
  refine am<|pB<|iQ ?_
  refine am<|ng (F.ks_slot_super_ga.bind _) ?_
  refine jm (Q:=λv m=>v=.ref h.objs.size/\m=#[h.push<|A8 x,g,d,t+1,os]) (E:=λ_ _=>False)
    (jg F.ks_slot_super_ga (k _) F.ks_entry_super_ga (JU a f n o X p q i b j #[_,rfl,rfl,rfl])<|F.ks_gaArgs_super _ _) (λv m u=>?_) λ_ _ z=>z.elim
  obtain⟨rfl,rfl⟩:=u
  exact ap<|ap r
def RD(h:i9)(e:h.get? q=↑(A8 x)):∃k,(k=Keeper.frame\/k=Keeper.machine\/k=Keeper.boundFrame)/\j5 M h (keeperOf<|.ref q) k :=
 #[.machine,.inr<|.inl rfl,(sw (part:=none) e).andThen .now]
variable{nm q:Str}{N:g9}{bs bm DS:List cr}{hdct:Bool}{sn:List Str}{sub:List cr}{ab:Bool}{col:Option Bool}{dd:Option g9}{k0 k1 k2 k3 k5:Option cr}{newId:String}
def Dg(F:kT "ValueError" newId "ValueError.__init__" DS){c:List cr} 
 (f:h.get? C=↑83) (i:h.get? x=↑ox) (e:ox.cls=.ref C) (j:Q () #[h,g,d,t,os]) :
    ic M A (checkBoundCall "ValueError.__init__" #[.ref x::c,[]]) Q E #[h,g,d,t,os]:=by
  simp only[checkBoundCall,F.initKind,F.initRow]
  rw[g8 q0q]
  repeat (first|(with_reducible refine jZ i ?_;rw[e])|with_reducible refine jZ f ?_|wp_step)
  refine pE ?_
  rw[show ∀(a b:String)(n:Nat),Bind.check #[.positional,"*","ValueError",.self,[#["args",.varPos,false]]] a b n (List.map (λx=>x.fst) ({ pos:=iw x::c}:Args).kw)=pure () from
    λa b n=>check_star_args _ _ _ _ _ _]
  exact ap j
def Vs(F:kT "ValueError" newId "ValueError.__init__" DS){a:List cr}(o:h.get? C=↑83)(e:h.get? p=↑(A8 x))(j:h.get? x=↑ox)(f:ox.cls=.ref C)(k:ox.data=.fields m)(n:m[0]?=↑(.ref s))
 (r:Q .none #[(h.push { cls:=.type "tuple",data:=.seq a.toArray}).update x (Obj.mapFields (·.setIfInBounds 0 (.ref h.objs.size))),g,d,t,os]) (c:a.length<=hV:=by size_fits) :
    ic (ii prog w) A (call (.ref p) a) Q E #[h,g,d,t,os]:=by
  refine m9<|m6 ?_
  refine am<|ro e ?_
  refine am<|Dg F o j f<|ap #[lH F.init.plain _,j4 F.initEntry ?_]
  rw[jM F.init.plain]
  unfold Builtin.«BaseException.__init__»
  dsimp only
  rw[ci q0o]
  have i:0<m.size:=(Array.getElem?_eq_some_iff.mp n).1
  have b:=ce (h:=h) { cls:=.type "tuple",data:=.seq a.toArray} j
  refine am<|iZ (am<|am<|jp b k n<|am<|nK b k i ?_) (by show a.toArray.size<=hV;rw[il];exact c)
  exact sL<|ap r
end
open Builtin Builtin.ObjectAttr
section
variable{prog:iN}{w:jf}{A:jL}{E:cr->hW->Prop}{h:i9}{g:Array pJ}{d:Drawn}{t:Nat}{os:OsState}{x C N:g9}{o:Obj}{v:cr}{name:Str}
variable{nm q:Str}{bs bm DS:List cr}{sn:List Str}{sub:List cr}{ab:Bool}{col:Option Bool}{dd:Option g9}{k0 k1 k2 k3 k5:Option cr}{B newId sa owner:String}
def OK(e:StoreFacts B DS sa owner)(f:bm.contains (.type owner)=true)
 (l:h.get? C=↑(jR nm q C N bs bm true sn sub ab col dd k0 k1 k2 k3 k5 newId)) (m:h.get? x=↑o) (n:o.cls=.ref C) (j:Q () #[h,g,d,t,os]) :
    ic M A (checkBuiltinCall sa #[[.ref x,a,v],[]]) Q E #[h,g,d,t,os]:=by
  have i:(iw C::bm).contains (.type owner)=true:=by rw[uM,f,tF]
  have k:=e.args (.ref x) a v
  simp only[checkBuiltinCall,e.kind,e.split]
  refine am ?_
  repeat (first|(with_reducible refine jZ m ?_;rw[n])|(with_reducible refine qX l ?_;rw[i])|wp_step)
  cases b:Manifest.signature? sa with
  |none=>exact ap j
  |some c =>
    simp only[sr,b]at k
    have p:Bind.checkArgs sa c #[[.ref x,a,v],[]]=pure ():=k
    show ic M A (Bind.checkArgs sa c #[[.ref x,a,v],[]]) Q E _
    rw[p];exact ap j
set_option tactic.hygienic true in
def Ly(m:uc (.ref x) "__setattr__" bm=pure ())
 (P:h.get? C=↑(jR nm q C N bs bm true sn sub ab col dd k0 k1 k2 k3 k5 newId)) (L2:j5 (ii prog w) h (nW (.ref C) name) none)
 (l:h.get? x=↑o) (R:o.cls=.ref C) (n:∀c,o.data≠.cls c) (p:o.dict=none)
 (S:∀i r s,h.get? s=none->(∀b u,b≠x->h.get? b=↑u->i.get? b=↑u)->i.get? x=some { cls:=o.cls,dict:=↑s,data:=o.data,slots:=o.slots}->i.Ns1 s (λy=>if y=name then some v else none)->Q (.done<|.ret .none) #[i,g,d,r,os]) :
    ic (ii prog w) A (Builtin.«object.__setattr__» #[[.ref x,.str name Z,v],[]]) Q E #[h,g,d,t,os]:=by
  repeat (first|rw[refuse_eq]|(rw[refuseLoop_ref,m])|(with_reducible refine jZ l ?_;rw[R])|with_reducible refine wpAny_mroOf_exc P ?_|(with_reducible refine PySem.W.Looks.at L2 ?_)|wp_step)
  rw[p,ci<|by simp[typeHasDict]]
  split
  · rename_i f
    cases f
  split
  · rename_i c f
    exact io f<|n c
  · have a : (h.push { cls := .type "dict", data := .dict #v[] }).get? x = some o := ce _ l
    have j:x≠h.objs.size:=im<|hX l
    refine am<|wpAny_alloc' ?_
    refine am<|wpAny_update' a ?_
    refine ap ?_
    have z:((h.push { cls:=.type "dict",data:=.dict #v[]}).update x λo=>{ cls:=o.cls,dict:=↑h.objs.size,data:=o.data,slots:=o.slots}).get? h.objs.size
       =some { cls:=.type "dict",data:=.dict #v[]} :=
      (qm _ _ _ _ j.symm).trans (oM rfl rfl)
    have D:((h.push { cls:=.type "dict",data:=.dict #v[]}).update x λo=>{ cls:=o.cls,dict:=↑h.objs.size,data:=o.data,slots:=o.slots}).Ns h.objs.size (λ_=>none) :=
      #[_,#v[],_,z,rfl,λe T=>io T q0o,λ_=>rfl]
    refine am<|ap<|am<|wpAny_nsSet1 (tK D) λi k M=>?_
    obtain⟨oD,U,X,F,G,H⟩:=k.count<|Within.cons name v Within.nil
    refine am<|wpAny_lookBehind F (by rw[G];exact pastItsLine_dict<|i5 H<|by rw[iE,nQ,jo];lia) ?_
    wp_walk
    refine S i _ h.objs.size (nM<|hO _) (λb u I O=>?_) ?_ k
    · exact(M.2 b<|im<|hX O).trans<|(qm _ _ _ _ I).trans<|ce _ O
    · refine(M.2 x j).trans (jd _ a ?_)
      have J:=(Heap.get?_some_iff.mp l).2
      obtain⟨oc,od,L,Y⟩:=o
      cases L<;>first|rfl|exact J
def JV(i:StoreFacts B DS sa owner)(j:bm.contains (.type owner)=true)(k:uc (.ref x) "__setattr__" bm=pure ())
 (r:h.get? C=↑(jR nm q C N bs bm true sn sub ab col dd k0 k1 k2 k3 k5 newId)) (u:j5 (ii prog w) h (nW (.ref C) "__setattr__") (some<|.builtin sa)) (L2:j5 (ii prog w) h (nW (.ref C) name) none)
 (l:h.get? x=↑o) (m:o.cls=.ref C) (n:∀c,o.data≠.cls c) (p:o.dict=none)
 (z:∀e a f,h.get? f=none->(∀b s,b≠x->h.get? b=↑s->e.get? b=↑s)->e.get? x=some { cls:=o.cls,dict:=↑f,data:=o.data,slots:=o.slots}->e.Ns1 f (λy=>if y=name then some v else none)->Q () #[e,g,d,a,os]) :
    ic (ii prog w) A (setAttr (.ref x) name v) Q E #[h,g,d,t,os]:=by
  have I:=i.slot.bind<|.ref x
  repeat (any_goals (first|assumption|(with_reducible refine jZ l ?_;rw[m])|(with_reducible refine PySem.W.Looks.at u ?_)|wp_step))
  refine og i.slot.plain i.entry<|OK i j r l m<|Ly k r L2 l m n p λe a f D F G H=>?_
  repeat (any_goals (first|assumption|wp_step))
  exact z e a f D F G H
end
def ExI(C x:g9)(d:Option g9)(h:i9):Prop:=∃(a:g9),h.get? x=some { cls:=.ref C,dict:=d,data:=.fields #v[.ref a,.none,.none,.none,.bool false,.none]}
noncomputable def Ej(C x:g9)(d:Option g9):HO:=.ext<|ExI C x d
def HN{C:g9}(I:Inv X a c H s)(h:H x=↑(Ej C x b)):ExI C x b s.heap:=(I.wg x _ h).1
def Lz{C:g9}(q:ExI C x b h):wA P w H h x (Ej C x b) :=
 #[q,e1a1 q λ_ e=> #[_,e],λf g a=>e1a1 a λc d k=>#[c,k _ d]]
def cw_mw(i:hJ (e::f) b=(false,eval e b)::hJ f b)(c:(jB pos<|hJ f b).any (·.1)=false)
 (h:ic M B (uP<|jB pos<|hJ (e::f) b) (λj d=>d.heap.get? q=↑(A8 a)/\ic M B (call (.ref q) j) Q g d) g k):ic M B (n6 pos (.ref q) [] (jB pos<|hJ (e::f) b) []) Q g k:=by
  rw[i]at h ⊢
  exact pR (P:=λh=>h.get? q=↑(A8 a)) (by show ((false||(jB pos<|hJ f b).any (·.1))||false)=false;rw[c];rfl) RD<|jN h
def a0Z(C:g9)(t:TA):TE:=λb H Q=>∃a,b[0]?=↑(some<|.ref a)/\H a=some (Ej C a none)/\t b H λd c=>d.length<=hV/\c a=↑(Ej C a none)/\Q .wV c
section
variable{P:iN}{w:jf}{K:hI}{mg:Str->Option cr}{base:i9}{N:List Str}{qual:Str}{scope:mF}{f zV cc:g9}{A:jL}{outer:List Env}{s:hW}{H:Hp}{E:XK}{C:g9}{x0:Str}{fb:List iH}{p0 p1 apos pos:Pos}{es:List iV}{e0:iV}{ta:TA}
variable{nm q:Str}{Ns:g9}{bs bm:List cr}{hdct:Bool}{sn:List Str}{sub:List cr}{ab:Bool}{col:Option Bool}{dd:Option g9}{k0 k1 k2 k3 k5:Option cr}
set_option tactic.hygienic true in
def RE(S:Lu P K C f zV cc x0)(ae:N[0]?=↑x0)(U:scope.names.lookup ("super":Str)=some .globalImplicit)(X:scope.names.lookup ("__class__":Str)=some .free)(B:scope.names.lookup x0=some .local)(af:mg "super"=none)
 (lC:K.lookup C=↑(jR nm q C Ns bs bm hdct sn sub ab col dd k0 k1 k2 k3 k5 "ValueError.__new__")) (hm:ki K C C "__init__"=↑(some<|.builtin "ValueError.__init__")) (ag:kI K C (.type "ValueError")=↑true)
 (ha:PA 94 (e0::es) ta)
 (he:hJ (e0::es) (ji qual scope ⇑s f (.ref zV) [75])=(false,eval e0<|ji qual scope ⇑s f (.ref zV) [75])::hJ es (ji qual scope ⇑s f (.ref zV) [75]))
 (l:(jB pos<|hJ es<|ji qual scope ⇑s f (.ref zV) [75]).any (·.1)=false) (D:OI p0 p1 apos pos "__init__" (e0::es)) :
    PEA 94 fb (.Call (.Attribute 87 "__init__" apos) (e0::es) [] pos) (a0Z C ta):=by
  intro n i σ H1 Q I h
  refine e1a3 h λa h0 ea h=>?_
  have Y:=I.zl
  obtain⟨oc,od,fd,au,Z,lf,hp,rfl⟩:=S.fn
  obtain⟨av,aw,ax,an,file,tf,lc,ah,G⟩:=S.code
  obtain⟨ao,aq,aa,L⟩:=S.cell
  obtain⟨cd,j⟩:=S.cls
  obtain⟨t0,O⟩:=HN I ea
  refine e1a2 I.loc λmL hn hl=>?_
  refine e1a2 (hl 0 Z.arg (.ref a) ae h0<|.inl B) λu ru lk=>?_
  obtain rfl:u=iw a:=ru
  have ai:mL Z.arg=↑(.ref a):=by
    rcases lk with⟨_,q⟩|⟨q,_⟩
    · exact q
    · have q : scope.names.lookup Z.arg = some .cell \/ scope.names.lookup Z.arg = some .free := q
      rw[B]at q
      rcases q with q|q<;>cases q
  obtain⟨oD,M,R⟩:∃oD,i.heap.get? C=some oD/\oD.data=.cls cd:=by
    unfold ni at j
    split at j
    · rename_i c d ay sl ho
      cases j
      exact#[_,Y _ _ ho,rfl]
    · cases j
  refine e1a2 I.mod.blt λmb aj ak=>?_
  have ne:a≠C:=λz=>by
    rw[z,M]at O
    cases O
    cases R
  obtain⟨pl,D⟩:=D<|ji qual scope ⇑s f (.ref zV) [75]
  refine ks_wpAt_MethodCall (pl:=pl) (ks_wpAt_super_base (env:=ji qual scope ⇑s f (.ref zV) [75]) U X q0q rfl (Y _ _ lf) rfl hp rfl (Y _ _ lc) rfl ah G S.top ?_) D
  refine rD I.ok.kind U<|oC (env:=ji qual scope ⇑s f (.ref zV) [75]) (I.mod.glob.keeps I.bk) af (aj.keeps I.bk) ((ak _ q0s).trans rfl) #[rfl,?_]
  refine qN I.ok.kind X rfl #[_,Y _ _ L,rfl] ?_
  refine lv I.ok.kind B hn ai ?_
  refine ks_wpAny_isType_cls (h:=i.heap) (g:=i.gens) (d:=i.drawn) (t:=i.toks) (os:=i.os) M R #[rfl,?_]
  refine ks_wpAny_call_super (h:=i.heap) (g:=i.gens) (d:=i.drawn) (t:=i.toks) (os:=i.os) M R O rfl (λc e=>by cases e) (pS Y S.sub) λp e k'=>?_
  have T:Inv _ n σ H1 #[p,i.gens,i.drawn,i.toks,i.os]:=I.kept (t':=i.toks) k'
  unfold ki at hm
  rw[j]at hm
  refine B6 e (sY T.zl S.opq) (l0:=cd.mro) (λA Q E s k q=>am<|(pL T.zl j) A _ E s k<|ap q) rfl T.zl hm (k' _ _ O) rfl (pS T.zl ag) ne ?_
  have I2:Inv _ n σ H1 #[p.push<|A8 a,i.gens,i.drawn,i.toks+1,i.os]:=T.kept (t':=i.toks+1) λb o z=>ce _ z
  have fr:H1 p.objs.size=none:=T.wg.fresh<|hO _
  have gq:(p.push<|A8 a).get? p.objs.size=↑(A8 a):=oM rfl rfl
  have I3:=I2.pinned (fp:=[p.objs.size]) (λb y=>by rw[List.mem_singleton.mp y];exact T.G0 (hO _) fr) λb y=>by rw[List.mem_singleton.mp y];exact#[_,gq,λv z=>by cases z]
  refine cw_mw (a:=a) he l<|wc (ha pos _ _ σ H1 _ I3 h) λus s2 z9=>e2a5 z9 λvs H2 I4 r q1 q2 q3=>?_
  have g2:s2.heap.get? p.objs.size=↑(A8 a):=(I4.pin (p.objs.size,A8 a)<|iA _<|iA _<|yc h8 gq).1
  refine#[g2,?_]
  have I5:=I4.AI
  obtain⟨t1,O1⟩:=HN I5 q2
  have al:=I5.zl
  obtain⟨m,g5,d5,t5,az⟩:=s2
  refine Vs iM (al _ _ lC) g2 O1 rfl rfl rfl ?_ (by show us.length<=_;rw[<- r.length];exact q1)
  have hu:upd H2 a (Ej C a none)=H2:=by
    funext b
    by_cases y:b=a
    · rw[y, vt, q2]
    · rw[vo y]
  have O2:=jd (f:=Obj.mapFields (·.setIfInBounds 0 (.ref m.objs.size))) (ce { cls:=.type "tuple",data:=.seq us.toArray} O1) rfl
  have J:=I5.write (x:=a) (e:=a) (o:=Ej C a none) (t':=t5) (h':=(m.push { cls:=.type "tuple",data:=.seq us.toArray}).update a (Obj.mapFields (·.setIfInBounds 0 (.ref m.objs.size)))) (by rw[q2];trivial) (.inl rfl)
    (λb u y z=>by rw[qm _ _ _ _ y];exact ce _ z) #[_,O2] (Lz #[m.objs.size,O2])
  rw[hu]at J
  exact#[.wV,H2,J,rfl,q3]
end
def yA.a2Y{s:i9}{C:g9}(k:yA P w H h)(t:H a=↑(Ej C a none))(n:h.get? l=none)(x:∀b o,b≠a->h.get? b=↑o->s.get? b=↑o)(q:ExI C a d s)(D:s.Ns1 l (λz=>if z=f then some u else none))(r:RelV y u) :
  yA P w (upd (upd H l<|.xd [(f,y)]) a<|Ej C a d) s/\∀A,Un A [] H (upd (upd H l<|.xd [(f,y)]) a<|Ej C a d) h s:=by
 have E:∀b v,H b=↑v->b≠l:=λb v z e=>by obtain⟨o,i⟩:=Br k z;rw[e,n]at i;cases i
 have j:∀b v,H b=↑v->(∀B,v≠.ext B)->upd (upd H l<|.xd [(f,y)]) a (Ej C a d) b=some v:=λb v z e=>by rw[vo λi=>by rw[i,t]at z;cases z;exact e _ rfl,vo<|E b v z];exact z
 refine#[λb o z=>?_,λA=>#[λb o z e _ _=>x b o (λi=>by rw[i,t]at e;cases e) z,λb o z e _ _=>#[o.slots,x b o (λi=>by rw[i,t]at e;cases e) z],λb o z e _=>?_,λb o z _=>?_,λb B z=>j b _ z (λ_ e=>by cases e),λb o v z=>j b _ z (λ_ e=>by cases e),λb I z=>#[#v[],by rw[j b _ z<|λ_ e=>by cases e];simp]]]
 ·by_cases e:b=a
  ·subst e;rw[vt]at z;cases z;exact Lz q
  ·rw[vo e]at z;by_cases i:b=l
   ·subst i;rw[vt]at z;cases z;refine#[_,D,λg=>?_];by_cases m:g=f
    ·rw[m,List.lookup_cons_self,g8 rfl];exact r
    ·rw[iT,beq_false_of_ne m,ci m];exact True.intro
   ·rw[vo i]at z;refine(k b o z).BP (λc v p y=>x c v (λm=>?_) y) (λc y=>j c _ y λ_ e=>by cases e) λc J y=>j c _ y λ_ e=>by cases e
    rcases p with p|p
    ·exact e<|p▸m
    ·rw[m,t]at p;cases p
 ·have F:b≠a:=λi=>by rw[i,t]at e;cases e
  have G:b≠l:=λi=>by rw[i,n]at z;cases z
  rw[vo F,vo G];exact e
 ·by_cases e:b=a
  ·obtain⟨_,q⟩:=q;rw[e];exact#[_,q]
  ·exact#[_,x b o e z]
def a00(C:g9)(f:Str)(e g:TE):TS:=λD c H=>g c H λy h=>e c h λx d=>∃a,x=.ref a/\d a=↑(Ej C a none)/\∀b,d b=none->b≠a->D.nx c (upd (upd d b<|.xd [(f,y)]) a<|Ej C a<|↑b)
def Vt(L:PE X o M)(N:PE X value P)(Q:kj value (some<|.Attribute o f e) pos.line X.env=pure false)
 (R:X.K.lookup C=↑(jR nm q C Ns bs B true sn sub ab S dd k0 E G k3 k5 l)) (m:B.contains (.type "object")=true) (n:∀x:g9,uc (.ref x) "__setattr__" B=pure ())
 (T:iG X.K (.ref C) "__setattr__"=↑(some<|.builtin "object.__setattr__"))(U:iG X.K (.ref C) f=↑none):PS X (.Assign [.Attribute o f e] value pos) (a00 C f M P):=by
  intro b s p H D I h
  refine rZ (wc (N b s p H _ I h) λu Y r=>e2a3 r λy H1 Z ry q=>wc (L b Y p H1 _ Z q) λov s2 r=>e2a3 r λx H2 i rx v=>e1a3 v λa ex J q2=>?_) Q
  subst ex
  obtain rfl:ov=iw a:=rx
  obtain⟨t0,O⟩:=HN i J
  have w:=i.zl
  obtain⟨hp,g,d,t,os⟩:=s2
  refine JV PySem.F.store_ValueError m (n a) (w _ _ R) (pq w T) (pq w U) O rfl (λc z=>by cases z) rfl λh' A j k z2 z3 z4=>?_
  have n1:H2 j=none:=by
    cases z:H2 j with
    |none=>rfl
    |some o=>obtain⟨u,q⟩:=Br i.wg z;rw[k]at q;cases q
  have na:j≠a:=λz=>by rw[z,O]at k;cases k
  obtain⟨E,G⟩:=yA.a2Y (d:=↑j) i.wg J k z2 #[t0,z3] z4 ry
  exact#[p,_,i.un (h':=h') (t':=A) (G _) E,q2 j n1 na]
def JW(b:bm.contains (.type "BaseException")=true)(k:A.handled=none)
 (h:ic M A x (λv a=>∃e t i,v=.ref e/\a.heap.get? C=↑83 /\
 a.heap.get? e=some { cls:=.ref C,dict:=i,data:=.fields #v[.ref t,.none,.none,.none,.bool false,.none]}/\E (.ref e) a) E s) :
    ic M A (raiseStmt l ↑x none) Q E s:=by
  have f:(iw C::bm).contains (.type "BaseException")=true:=by rw[uM,b,tF]
  unfold raiseStmt
  refine am<|jm h (λv a c=>?_) λ_ _ x=>x
  obtain⟨e,t,i,rfl,j,m,n⟩:=c
  obtain⟨o,g,d,p,r⟩:=a
  repeat (first|with_reducible refine jZ m ?_|with_reducible refine jZ j ?_|(with_reducible refine qX j ?_;rw[f])|wp_step)
  exact wpAny_raiseNew_none k n
def JX(F:kT B c y H) 
 (n:bm.contains (.type "BaseException")=true) (Y:A.handled=none) (k:(jB l<|hJ args o).any (·.1)=false)
 (h:ic (ii prog w) A (eval (.Name x np) o) (λf m=>f=.ref C/\ic (ii prog w) A (evalArgs (.ref C) true (jB l (hJ args o)) [])
 (λa b=>a.kw=[]/\a.pos.length<=hV/\b.heap.get? C=↑(jR nm q C N bs bm hdct sn sub ab col dd k0 k1 k2 k3 k5 c)/\(∃I,b.heap.Ns N I/\I "__init__"=↑(.ref fI))/\(∃J,b.heap.get? fI=↑J/\J.cls=.type "function")/\tE b.heap H bm /\
 ∀D e,sh b.heap D e (.ref C) a.pos->ic (ii prog w) (A.under (.builtin "type.__call__" #[.ref C::a.pos,[]])) (call (.ref fI) (.ref e::a.pos)) (λr G=>r=.none/\G.heap.get? C=↑(jR nm q C N bs bm hdct sn sub ab col dd k0 k1 k2 k3 k5 c) /\
 (∃t L,G.heap.get? e=some { cls:=.ref C,dict:=L,data:=.fields #v[.ref t,.none,.none,.none,.bool false,.none]})/\E (.ref e) G) E { b with heap:=D}) E m) E s) :
    ic (ii prog w) A (exec (.Raise (some<|.Call (.Name x np) args [] l) none pos) o) Q E s:=by
  rw[arm_exec_Raise]
  refine am<|nZ<|JW (C:=C) (nm:=nm) (q:=q) (N:=N) (bs:=bs) (bm:=bm) (hdct:=hdct) (sn:=sn) (sub:=sub) (ab:=ab) (col:=col) (dd:=dd) (k0:=k0) (k1:=k1) (k2:=k2) (k3:=k3) (k5:=k5) (newId:=c) n Y<|am<|jm (wpAny_Call_ofName<|jm h (λf m i=>?_) λ_ _ x=>x) (λv S p=>am<|nZ<|ap p) λ_ _ x=>x
  obtain⟨rfl,i⟩:=i
  unfold n6
  refine am<|iQ<|jm i (λa b j=>am<|nZ ?_) λ_ _ x=>x
  obtain⟨U,M⟩:=a
  obtain⟨O,u,W,⟨I,Z,hi⟩,⟨J,P,R⟩,T,j⟩:=j
  obtain rfl:M=[]:=O
  obtain⟨hp,g,d,tk,os⟩:=b
  simp only[k]
  refine am<|wpAny_keeperOf_exc W ?_
  refine am<|Fe (hrest:=u) F T W Z hi P R λD e hm=>jm (j D e hm) (λr G X=>#[X.1,?_]) λ_ _ z=>z
  obtain⟨_,c1,⟨t,L,c2⟩,c3⟩:=X
  exact am<|iQ<|wpAny_point<|ap #[e,t,L,rfl,c1,c2,c3]
noncomputable def CH(H:Hp)(x:g9):Hp:=λb=>if b=x then none else H b
def An:CH H x x=none:=g8 rfl
def yH(h:b≠x):CH H x b=H b:=ci h
section
variable{P:iN}{w:jf}{H H3 H4:Hp}{h h' h4:i9}{x C:g9}{c:Option g9}
def yA.RF(k:yA P w H h)(e:H x=↑(Ej C x c)):yA P w (CH H x) h:=λa o z=>by
 have g:a≠x:=λq=>by rw[q,An]at z;cases z
 rw[yH g]at z
 have d:∀b u,H b=↑u->(∀f,u≠.ext f)->CH H x b=↑u:=λb u q n=>by rw[yH λy=>by rw[y,e]at q;cases q;exact n _ rfl];exact q
 exact(k a o z).BP (λ_ _ _ q=>q) (λb q=>d b _ q λf y=>by cases y) λb i q=>d b _ q λf y=>by cases y
def yA.HP(k:yA P w H h)(e:h.get? x=none):H x=none:=by
 cases z:H x with
 |none=>rfl
 |some o=>obtain⟨u,q⟩:=Br k z;rw[e]at q;cases q
def yA.Nk(k:yA P w H h)(e:h.get? x=none)(f:∀b o,h.get? b=↑o->h'.get? b=↑o)(n:ExI C x c h'):yA P w (upd H x<|Ej C x c) h':=λa o z=>by
 by_cases q:a=x
 ·subst q;rw[vt]at z;cases z;exact Lz n
 ·rw[vo q]at z;have d:∀b u,H b=↑u->upd H x (Ej C x c) b=↑u:=λb u y=>by rw[vo λg=>by rw[g,k.HP e]at y;cases y];exact y
  exact(k a o z).BP (λ_ _ _ y=>f _ _ y) (λb y=>d b _ y) λb i y=>d b _ y
def Un.Nk(k:yA P w H h)(e:h.get? x=none)(d:∀b o,h.get? b=↑o->h'.get? b=↑o):Un fs [] H (upd H x<|Ej C x c) h h':=by
 have a:∀b u,H b=↑u->upd H x (Ej C x c) b=↑u:=λb u y=>by rw[vo λf=>by rw[f,k.HP e]at y;cases y];exact y
 refine#[λb o z _ _ _=>d b o z,λb o z _ _ _=>#[o.slots,d b o z],λb o z n _=>?_,λb o z _=>#[o,d b o z],λb g z=>a b _ z,λb o u z=>a b _ z,λb i z=>#[#v[],by rw[a b _ z];simp]];rw[vo λy=>by rw[y,e]at z;cases z];exact n
def Un.RF(u:Un fs [] H H4 h h4)(e:h.get? x=none)(d:H x=none):Un fs [] H (CH H4 x) h h4:=by
 have a:∀b v,H b=↑v->b≠x:=λb v y z=>by rw[z,d]at y;cases y
 refine#[u.keep,u.slot,λb o z n f=>?_,u.there,λb g z=>?_,λb o v z=>?_,λb i z=>?_]
 ·rw[yH λy=>by rw[y,e]at z;cases z];exact u.free b o z n f
 ·rw[yH<|a b _ z];exact u.Ca b g z
 ·rw[yH<|a b _ z];exact u.BQ b o v z
 ·rw[yH<|a b _ z];exact u.BR b i z
end
def Vu(C:g9)(f:Sp)(a:List V)(E:XK)(h:TA):TS:=λ_ i H=>h i H λc e=>c.length<=hV/\∀x:g9,e x=none ->
 f (.ref x::c++a) (upd e x<|Ej C x none) (λv b=>v=.wV/\∃d,b x=↑(Ej C x d)/\GX.g C d (CH b x)/\E (.ref C) ↑x (CH b x)) λ_ _ _=>False
section
variable{P:iN}{w:jf}{K:hI}{mg:Str->Option cr}{base:i9}{N:List Str}{qual:Str}{scope:mF}{f:g9}{cd:cr}{A:jL}{outer:List Env}{s:hW}{H:Hp}{E:XK}
variable{nm q:Str}{Ns:g9}{bs bm DS:List cr}{hdct:Bool}{sn:List Str}{sub:List cr}{ab:Bool}{col:Option Bool}{dd:Option g9}{k0 k1 k2 k3 k5:Option cr}{B newId yQ:String}
def OM{C:g9}{k:Nat}(hg:Gl 53 x)(hm:mg x=↑(.ref C))
 (lC:K.lookup C=↑(jR nm q C Ns bs bm hdct sn sub ab col dd k0 k1 k2 k3 k5 newId)) (aa:∀h:i9,K.In h->∃mN,h.Ns Ns mN/\mN "__init__"=↑(.ref fI)) (hT:∀h:i9,K.In h->tE h DS bm) (lI:K.lookup fI=↑oI) (ae:oI.cls=.type "function")
 (FB:kT B newId yQ DS) (n:bm.contains (.type "BaseException")=true) (FI:vZ P w K mg base (wh P w) k fI fd ps sp) (j:Binds K fd ps U) (af:Vals p U) (hr:wR (k+1) (53).A)
 (ha:PA 53 args ta) (ag:(x==66)=false)
 (ah:(jB cpos<|hJ args (53).env).any (·.1)=false)
 (ai:∀(Q:Args->hW->Prop)(E':cr->hW->Prop)(s9:hW),ic (ii P w) (53).A (uP<|jB cpos<|hJ args (53).env) (λX y=>Q #[X,[]] y) E' s9->ic (ii P w) (53).A (evalArgs (.ref C) true (jB cpos<|hJ args (53).env) []) Q E' s9) :
    PS 53 (.Raise (some<|.Call (.Name x np) args [] cpos) none pos) (Vu C sp p E ta):=by
  intro a s1 σ H1 D I h
  have hA:=ha cpos a s1 σ H1 _ I h
  refine JX (prog:=P) (w:=w) (C:=C) (nm:=nm) (q:=q) (N:=Ns) (bs:=bs) (bm:=bm) (hdct:=hdct) (sn:=sn) (sub:=sub) (ab:=ab) (col:=col) (dd:=dd) (k0:=k0) (k1:=k1) (k2:=k2) (k3:=k3) (k5:=k5) (fI:=fI)
    FB n (I.ok.hd rfl) ah (zY I hg hm #[rfl,?_] ag)
  refine ai _ _ _<|jm hA (λl G q2=>?_) λ_ _ z=>z
  refine e2a4 q2 λX H2 F r2 hl M=>?_
  have Y:=F.zl
  refine#[rfl,by show l.length<=hV;rw[<- r2.length];exact hl,Y _ _ lC,aa _ Y,#[oI,Y _ _ lI,ae],hT _ Y,λZ e made=>?_]
  refine e1a3 made.there λt aj _ _=>?_
  have n2:H2 e=none:=F.wg.HP made.new
  have I3:Inv 53 a σ (upd H2 e<|Ej C e none) { G with heap:=Z,toks:=G.toks}:=F.un (Un.Nk F.wg made.new made.keeps)<|F.wg.Nk made.new made.keeps #[t,aj]
  have r3:Vals (.ref e::X++p) (.ref e::l++U):=.cons rfl<|Vals.append r2 af
  have ak:(iw e::l++U).length=ps.length:=by rw[<- r3.length];exact FI.len _ _ _ _<|M e n2
  refine m9<|kh (FI.run _ _ { G with heap:=Z} _ ⟨.ref e::l,[]⟩ (.ref e::l++U) (.ref e::X++p) _ _ (hr.make C l []) (I3.Jn.make C l []) (j { G with heap:=Z} (.ref e::l) I3.zl ak) r3 (M e n2)) λr y O=>?_
  cases r with
  |error e'=>obtain⟨_,_,_,_,_,z⟩:=O;exact z.elim
  |ok fl =>
    cases fl with
    |next=>exact iO O
    |brk=>exact iO O
    |cont=>exact iO O
    |ret u =>
      obtain⟨v,H4,R,i,S,m,rv,rfl,c,e4,gd,hE⟩:=id O
      have T:(53).stack=(53).env::(53).outer:=rfl
      have J:Inv 53 a σ H4 y:=by
        obtain⟨hh,g,d,tt,al⟩:=y
        obtain rfl:al=G.os:=R
        exact Inv.call (s:={ G with heap:=Z}) (h':=hh) (g':=g) (d':=d) (t':=tt) (ch:=[]) I3 S m i<|λb z=>io z q0o
      obtain⟨t4,O4⟩:=HN J e4
      refine#[rv,J.zl _ _ lC,#[t4,c,O4],?_]
      have fu:=J.Jn.zc
      have an:(mB y.heap (e::zU (53).stack)).get? e=none:=sP _ h8
      refine jm (BL (base:=mB y.heap (e::zU (53).stack)) (a0:=.ref t4) J.ok.frames
        (su fu λao he b j=>ie _<|List.mem_filterMap.mpr ⟨ao,he,j⟩) (yD J T) O4 (λb o z=>nV _ z) an rfl rfl rfl
        (Q:=λ_ aq=>wh P w outer H s E (.ref e) aq) λar fl up dk=>?_) (λ_ _ z=>z) λ_ _ z=>z
      refine#[C,e,CH H4 e,rfl,?_,hE]
      refine Lg (s2:=y) F T rfl R i (Un.RF ((Un.Nk F.wg made.new made.keeps).trans S) made.new n2) (m.RF e4) (λb o z L nf=>pI _ z λj=>?_) (λb j=>?_) up fl #[_,dk,gd]
      · rcases List.mem_cons.mp j with rfl|j
        · rcases L with L|⟨o0, L⟩
          · exact L An
          · rw[made.new]at L; cases L
        · exact nf j
      · have z := J.frn b j
        refine#[?_,(fu.mem j).2]
        by_cases q:b=e
        · rw[q, An]
        · rw[yH q]; exact z.1
end
def YV(K:hI)(C:g9)(c:Str):Sp:=λd H Q _=>∃x l b,d=[.ref x,.ref l]/\H x=↑(Ej C x none)/\(wF K H l b\/zI K H l b)/\∀p a,H p=none->H a=none->a≠x->a≠p->Q .wV (upd (upd (upd H p<|.lst b) a<|.xd [(c,.ref p)]) x<|Ej C x<|↑a)
section
variable{P:iN}{w:jf}{K:hI}{mg:Str->Option cr}{base:i9}{qual name:Str}{scope:mF}{f zV cc:g9}{C:g9}{k:Nat}{p0 p1 p2 p3 p4 p5 p6 p7 p8 p9 apos pos:Pos}{r fl tx:Str}{j:Nat}
variable{nm q:Str}{Ns:g9}{bs bm:List cr}{sn:List Str}{sub:List cr}{ab:Bool}{col:Option Bool}{dd:Option g9}{k0 k1 k2 k3 k5:Option cr}{params:Arguments}{dV kV doc pm ct oc:cr}{an od:Option g9}{Of:Array (Option cr)}{body:List iH}
def Vv(lk:K.lookup f=some #[oc,od,.func<|kY name qual params body scope [75] dV kV doc pm an (.ref zV) ct,Of])(g:jI K (.ref zV) qual=true)
 (m:body=[.Expr (.Call (.Attribute 87 "__init__" apos) [.Constant (.str tx) j p3] [] pos) p2,.Assign [.Attribute (.Name "self" p4) fl p5] (.Call (.Name "list" p6) [.Name r p7] [] p8) p9])
 (S:WL.x9 ["self",r] ["self",r] scope) (D:Lu P K C f zV cc "self") (n:OI p0 p1 apos pos "__init__" [.Constant (.str tx) j p3]) (o:mg "super"=none) (t:mg "list"=none) (u:scope.names.lookup ("list":Str)=some .globalImplicit)
 (M:K.lookup C=↑(jR nm q C Ns bs bm true sn sub ab col dd k0 k1 k2 k3 k5 "ValueError.__new__")) (U:ki K C C "__init__"=↑(some<|.builtin "ValueError.__init__")) (v:kI K C (.type "ValueError")=↑true)
 (B:bm.contains (.type "object")=true) (F:∀x:g9,uc (.ref x) "__setattr__" bm=pure ()) (X:iG K (.ref C) "__setattr__"=↑(some<|.builtin "object.__setattr__")) (Y:iG K (.ref C) fl=↑none)
 (G:(r==66)=false) (I:(r==("__classdict__":Str))=false) :
    vZ P w K mg base (wh P w) (k+1) f (kY name qual params body scope [75] dV kV doc pm an (.ref zV) ct) ["self",r] (YV K C fl):=by
  obtain⟨o1,o2,o3,a⟩:=D.cell
  refine HJ lk g (S.x cc) (λy c h=>?_) (λZ H Q E h=>?_) λA J s H Z Q E hr L=>?_
  · have e : c = cc := by
      by_cases e:(y==("__class__":Str))=true
      · rw[iT, e]at h; cases h; rfl
      · rw[iT, Bool.eq_false_iff.mpr e]at h; cases h
    subst e
    exact#[_,_,a,rfl]
  · obtain⟨x, l, N, rfl, _⟩ := h; rfl
  · obtain⟨x, l, N, rfl, b, hl, hq⟩ := L
    rw[m]
    refine#[_,za (Fb (RE D rfl S.ks S.kc (S.par _ h8) o M U v (vy GY vJ) rfl rfl n)) (za (Rq (Vt (Kw (i:=0) rfl (.inl (S.par _ h8)))
      (yd yW u t kA (vy (Kw (i:=1) rfl (.inl (S.par _ (ie _ h8))) G I) vJ)) rfl M B F X Y)) (Ef z8)),?_]
    have st:start ["self",r] [V.ref x,V.ref l]=[some<|.ref x,some<|.ref l]:=rfl
    rw[st]
    refine#[x,rfl,b,?_,b,?_]
    · show (1 : Nat) <= hV
      rw[jo];lia
    · refine#[.ref l, rfl, l, N, rfl, hl, λp O => #[.ref x, rfl, x, rfl, ?_, λR d n2 => ?_]]
      · rw[vo λz => by rw[z, O]at b; cases b]
        exact b
      · have T : R ≠ p := λz => by rw[z, vt]at d; cases d
        rw[vo T]at d
        exact hq p R O d n2 T
end
end L2
namespace WL
variable[L2.GX]
open PySem L2
open Rep (rp)
open Ow (sl)
open Sls (rel)
structure XcI(P:iN)(w:jf)(K:hI)(mg:Str->Option cr)(base:i9)(k:Nat)(x:Str)(C:g9)(fl:Str):Prop where
 ex:∃(fI Ns:g9)(fd:iW)(oI:qW)(nm q:Str)(bs bm DS:List cr)(hdct:Bool)(sn:List Str)(sub:List cr)(ab:Bool)(col:Option Bool)(dd:Option g9)(k0 k1 k2 k3 k5:Option cr)(B newId yQ:String)(ps:List Str),
  mg x=↑(.ref C)/\K.lookup C=↑(jR nm q C Ns bs bm hdct sn sub ab col dd k0 k1 k2 k3 k5 newId)/\(∀h:i9,K.In h->∃mN,h.Ns Ns mN/\mN "__init__"=↑(.ref fI))/\(∀h:i9,K.In h->tE h DS bm)/\K.lookup fI=↑oI/\oI.cls=.type "function" /\
  kT B newId yQ DS/\bm.contains (.type "BaseException")=true/\vZ P w K mg base (wh P w) k fI fd ps (YV K C fl)/\Binds K fd ps []
 go:∀dx p xs H,H dx=↑(.xd [(fl,.ref p)])->H p=↑(.lst xs)->GX.g C ↑dx H
section
variable{D D' D1 PO τ α:Type}[Sls D][Sls D'][Sls D1][Sls PO][Ow τ][Rep α]
def YW{x r L:Str}{i:Nat}{y j M:Pos}{C:g9}[J:Pj D PO n][At i D (OL α) D1](hg:Gl 78 x)(h:XcI P w K l base k x C L)(hr:wR (k+1) (78).A)
  (hv:PE 78 (.Name r M) (vW i)) (W:(x==66)=false:=by decide)
  (X:hJ [.Name r M] (78).env=(false,eval (.Name r M) (78).env)::hJ [] (78).env:=by rfl) :
  S1 78 E T ms n (.Raise (some<|.Call (.Name x y) [.Name r M] [] j) none Y) (λ(d:D)(_:D'->Prop)(_:τ->PO->Prop) Ke=>Ke C<|J.pj d):=by
 obtain⟨fI,Ns,fd,oI,nm,q,bs,bm,af,ae,sn,ag,ab,ah,dd,k0,k1,k2,k3,k5,B,Z,O,ps,a1,a2,a3,a4,a5,a6,a7,a8,a9,aa⟩:=h.ex;refine#[_,OM (np:=y) (pos:=Y) (cpos:=j) hg a1 a2 a3 a4 a5 a6 a7 a8 a9 aa .nil hr (vy hv vJ X) W (by rw[X];rfl) λQ E' s9 z=>by rw[X]at z ⊢;exact jN z,λd F R σ H Kn Kr Ke En s hw kn kr ke=>?_];obtain⟨v,F1,F2,e1,_,⟨a,I,rfl,_,ha,_⟩,_⟩:=UM (i:=i) (τ:=OL α) s;refine#[.ref a,e1,(by show 1<=hV;decide),λx hx=>#[x,a,I,rfl,vt,.inl ?_,λp m S hd nx y=>#[rfl,↑m,vt,?_]]]
 ·have ne:a≠x:=λz=>by rw[z,hx]at ha;cases ha
  exact .inl<|Rd.of (by rw[vo ne];exact ha)
 ·have px:p≠x:=λz=>by rw[z,vt]at S;cases S
  rw[vo px]at S;rw[vo nx]at hd
  have q:CH (upd (upd (upd (upd H x<|Ej C x none) p<|.lst I) m<|.xd [(L,.ref p)]) x<|Ej C x<|↑m) x=upd (upd H p<|.lst I) m (.xd [(L,.ref p)]):=by
   funext b
   by_cases U:b=x
   ·rw[U,An,vo<|Ne.symm nx,vo<|Ne.symm px,hx]
   ·rw[yH U,vo U];by_cases o:b=m
    ·rw[o,vt,vt]
    ·rw[vo o,vo o];by_cases t:b=p
     ·rw[t,vt,vt]
     ·rw[vo t,vo U,vo t]
  rw[q];refine#[h.go m p I _ vt (by rw[vo<|Ne.symm y];exact vt),?_];refine e0a3 (s.new (.lst I) S) λs2 c2 _=>?_;obtain⟨s3,c3,_⟩:=s2.new (p:=m) (.xd [(L,.ref p)]) (by rw[vo y];exact hd);refine e1a2 (wM (PO:=PO) s3) λG g1 g2=>?_;exact ke C x _ G R _ hw ((Ch.trans s s2.tab c2 c3).less g1) g2
end
end WL
namespace SX
open PySem PySem.W PyProof.Rows
def A9(p:Array Nat)(k:Nat):p.getD k 0=(p[k]?).getD 0:=by simp
def Dh{p:Array Nat}{i j:Nat}(h:j<=p.size)(k:Nat):(rX p i j).getD k 0=if i<=k/\k<j then p.getD (i+j-1-k) 0 else p.getD k 0:=by rw[A9,rX,getElem?_mirror_all h k,A9,A9];split<;>rfl
def LA{p:Array Nat}{k d:Nat}(h:k<p.size)(a:d<=k)(i:Nat):(bubble p k d).getD i 0=if i=k-d then p.getD k 0 else if k-d<i/\i<=k then p.getD (i-1) 0 else p.getD i 0:=by
 rw[A9,getElem?_bubble h d a i,A9,A9,A9];split
 ·rfl
 ·split<;>rfl
structure a20(lt:Nat->Nat->Bool):Prop where
 ir:∀a,lt a a=false
 tr:∀a b c,lt b a=false->lt c b=false->lt c a=false
 as:∀a b,lt a b=true->lt b a=false
section
variable{lt:Nat->Nat->Bool}{cmp:Nat->Nat->(Bool->hW->Prop)->hW->Prop}{N:Nat}{s:hW}
def HQ(lt:Nat->Nat->Bool)(p:Array Nat)(k:Nat):Prop:=∀i j,i<=j->j<k->lt (p.getD j 0) (p.getD i 0)=false
def FZ(lt:Nat->Nat->Bool)(p:Array Nat)(k:Nat):Prop:=∀i j,i<=j->j<k->lt (p.getD i 0) (p.getD j 0)=false
def I0(N:Nat)(p:Array Nat):Prop:=∀k,p.getD k 0<N
def I0.rev{i j:Nat}(b:I0 N p)(h:j<=p.size):I0 N (rX p i j):=λk=>by rw[Dh h];split<;>exact b _
def I0.bub{k d:Nat}(b:I0 N p)(h:k<p.size)(c:d<=k):I0 N (bubble p k d):=λi=>by
 rw[LA h c];by_cases q:i=k-d
 ·rw[g8 q];exact b _
 ·rw[ci q];by_cases a:k-d<i/\i<=k
  ·rw[g8 a];exact b _
  ·rw[ci a];exact b _
def CI{i j:Nat}:(rX p i j).Perm p:=mirror_perm _ _ _ _
variable(L:a20 lt)(hc:∀i j (C:Bool->hW->Prop),i<N->j<N->C (lt i j) s->cmp i j C s)
include L hc
def Nl(b:I0 N p):∀(f n:Nat) {Q:Nat->hW->Prop},1<=n->HQ lt p n->(∀m,n<=m->m<=n+f->HQ lt p m->(m<n+f->lt (p.getD m 0) (p.getD (m-1) 0)=true)->Q m s)->mi cmp (kas_asc p f n) Q s:=by
 intro g
 induction g with
 |zero=>intro n Q h a k;exact k n (hO _) (hO _) a<|λz=>io z<|kf _
 |succ f c =>
  intro n Q h a k;refine hc _ _ _ (b _) (b _) ?_
  cases e:lt (p.getD n 0) (p.getD (n-1) 0) with
  |true=>exact k n (hO _) q0a a λ_=>e
  |false =>
   refine c (n+1) q0a (λi j d t=>?_) λm u v l o=>k m q0a q0a l λz=>o q0a;by_cases q:j=n
   ·subst q;by_cases r:i=j
    ·rw[r];exact L.ir _
    ·exact L.tr _ _ _ (a i (j-1) q0a q0a) e
   ·exact a i j d q0a
omit hc in
set_option tactic.hygienic true in
def Vw{p:Array Nat}{n q:Nat}(m:q+1<=n)(d:n<=p.size)(f:FZ lt p n)(c:∀k,n-(q+1)<=k->k<n->lt (p.getD (n-1) 0) (p.getD k 0)=false)(k:Nat) :
  lt ((rX p (n-(q+1)) n).getD k 0) (p.getD k 0)=false/\lt (p.getD k 0) ((rX p (n-(q+1)) n).getD k 0)=false:=by
 rw[Dh d];split
 ·rename_i h
  have e:∀a b,n-(q+1)<=a->a<n->n-(q+1)<=b->b<n->lt (p.getD a 0) (p.getD b 0)=false:=λa b o r g l =>
   L.tr _ (p.getD (n-1) 0) _ (c b g l) (f a (n-1) q0d q0d)
  exact#[e _ _ q0d q0d h.1 h.2,e _ _ h.1 h.2 q0d q0d]
 ·exact#[L.ir _,L.ir _]
omit hc in
def Nm{p:Array Nat}{n q m:Nat}(c:q+1<=n)(d:n<=p.size)(f:FZ lt p n)(a:∀k,n-(q+1)<=k->k<n->lt (p.getD (n-1) 0) (p.getD k 0)=false)(g:FZ lt p m):FZ lt (rX p (n-(q+1)) n) m:=λi j b h=>by have e:=Vw L c d f a;exact L.tr _ _ _ (L.tr _ _ _ (e j).2<|g i j b h) (e i).1
omit hc in
def Ff{n:Nat}(d:1<=n)(b:FZ lt p n)(h:lt (p.getD (n-1) 0) (p.getD n 0)=false):FZ lt p (n+1):=λi j a e=>by
 by_cases q:j=n
 ·subst q;by_cases c:i=j
  ·rw[c];exact L.ir _
  ·exact L.tr _ _ _ h<|b i (j-1) q0a q0a
 ·exact b i j a q0a
def RG:∀(f:Nat)(p:Array Nat)(n q:Nat) {Q:Array Nat×Nat×Nat->hW->Prop},I0 N p->q+1<=n->n+f<=p.size->FZ lt p n->(∀k,n-(q+1)<=k->k<n->lt (p.getD (n-1) 0) (p.getD k 0)=false) ->
  (∀a m d,a.Perm p->a.size=p.size->I0 N a->d+1<=m->n<=m->m<=n+f->FZ lt a m->(∀k,m-(d+1)<=k->k<m->lt (a.getD (m-1) 0) (a.getD k 0)=false)->Q (a,m,d) s)->mi cmp (kas_desc f p n q) Q s:=by
 intro F
 induction F with
 |zero=>intro p n q Q b w G h c k;exact k p n q (.refl _) rfl b w (hO _) (hO _) h c
 |succ f g =>
  intro p n q Q b w G h c k;refine hc _ _ _ (b _) (b _) ?_
  cases e:lt (p.getD n 0) (p.getD (n-1) 0) with
  |true =>
   have y:=Ff L q0a h<|L.as _ _ e
   have A:∀{x:Array Nat},∀k,n+1-(0+1)<=k->k<n+1->lt (x.getD (n+1-1) 0) (x.getD k 0)=false:=λ{x} k H I=>by
    have:k=n+1-1:=by lia
    rw[this];exact L.ir _
   split
   ·refine g _ (n+1) 0 (b.rev q0a) q0a (by rw[nL];lia) (Nm L w q0a h c y) A λa m d l o r t B D u v=>k a m d (l.trans CI) (o.trans<|nL _ _) r t q0a q0a u v
   ·exact g p (n+1) 0 b q0a q0a y A λa m d l o r t B D u v=>k a m d l o r t q0a q0a u v
  |false =>
   refine hc _ _ _ (b _) (b _) ?_
   cases J:lt (p.getD (n-1) 0) (p.getD n 0) with
   |true=>exact k p n q (.refl _) rfl b w (hO _) q0a h c
   |false =>
    refine g p (n+1) (q+1) b q0a q0a (Ff L q0a h J) (λE H I=>?_) λa m d l o r t B D u v=>k a m d l o r t q0a q0a u v;have M:n+1-1=n:=by lia
    rw[M];by_cases z:E=n
    ·rw[z];exact L.ir _
    ·exact L.tr _ _ _ (c E q0a q0a) e
def JY{n a:Nat}(b:I0 N p)(e:1<=n)(o:n<=a)(q:a<=p.size)(f:FZ lt p n)
 (k:∀m c,c.Perm p->c.size=p.size->I0 N c->1<=m->m<=a->HQ lt c m->Q (m,c) s):mi cmp (kas_tail3 n a p) Q s:=by
  unfold kas_tail3
  rw[nS]
  have d:n<=p.size:=by omega
  refine Nl L hc (b.rev d) _ n e (λi j g h=>?_) λm r t l _=>k m _ CI (nL _ _) (b.rev d) q0d q0d l
  rw[Dh d,Dh d,g8 #[jl _,h],g8 #[jl _,q0d]]
  exact f _ _ q0d q0d
def RH{n a:Nat}(b:I0 N p)(A:1<=n)(B:n+1<=a)(D:a<=p.size)(w:FZ lt p (n+1))
 (k:∀m d,d.Perm p->d.size=p.size->I0 N d->1<=m->m<=a->HQ lt d m->Q (m,d) s):mi cmp (kas_descPart n a p) Q s:=by
  unfold kas_descPart
  rw[nS]
  refine RG L hc _ p (n+1) 0 b q0a q0a w (λx E F=>?_) λd m G t u v y H I e z=>?_
  · have : x = n+1-1 := by lia
    rw[this];exact L.ir _
  · dsimp only
    split
    · exact JY L hc (v.rev q0a) q0a q0a (by rw[nL]; lia) (Nm L y q0a e z e) λf c g h l o q r => k f c ((g.trans CI).trans t) ((h.trans<|nL _ _).trans u) l o q r
    · exact JY L hc v q0a q0a q0a e λf c g h l o q r => k f c (g.trans t) (h.trans u) l o q r
set_option tactic.hygienic true in
def ON{d:Nat}(b:I0 N p)(P:1<=d)(B:d<=p.size)
 (k:∀m f,f.Perm p->f.size=p.size->I0 N f->1<=m->m<=d->HQ lt f m->Q (m,f) s):mi cmp (kas_count d p) Q s:=by
  unfold kas_count
  rw[nS]
  refine Nl L hc b _ 1 (hO _) (λi j g v=>?_) λn w R o D=>?_
  · have r : i = 0 := by lia
    have h:j=0:=by lia
    rw[r,h];exact L.ir _
  · by_cases e : n = d
    · rw[g8<|by rw[e]; simp]
      exact k n p (.refl _) rfl b w q0a o
    · rw[ci<|by simp[e]]
      have x:=D q0a
      split
      · rename_i S
        refine hc _ _ _ (b _) (b _) ?_
        cases h:lt (p.getD 0 0) (p.getD (n-1) 0) with
        |true=>exact k n p (.refl _) rfl b w q0a o
        |false =>
          have t:n<=p.size:=by lia
          refine RH L hc (b.rev t) q0a q0a (by rw[nL];lia) (λi j g v=>?_) λE u y F G H I J=>k E u (y.trans CI) (F.trans<|nL _ _) G H I J
          have l:∀a c,a<n->c<n->lt (p.getD a 0) (p.getD c 0)=false:=λa c M y=>L.tr _ _ _ (L.tr _ _ _ (o c (n-1) q0a q0a) h)<|o 0 a (jl _) M
          rw[Dh t i,Dh t j]
          by_cases q:j<n
          · rw[g8 #[jl _, by lia], g8 #[jl _, q]]
            exact l _ _ q0a q0a
          · have O : j = n := by lia
            rw[ci (c:=0<=j/\j<n) λz=>q z.2]
            by_cases A:i<n
            · rw[g8 #[jl _, A], O]
              exact L.tr _ _ _ (L.as _ _ x)<|l _ _ q0a q0a
            · rw[ci λz => A z.2, show i = j by lia]
              exact L.ir _
      · refine RH L hc b q0a q0a B (Ff L q0a (λi j g v => ?_)<|L.as _ _ x) k
        have r:i=0:=by lia
        have h:j=0:=by lia
        rw[r,h];exact L.ir _
def OO{k:Nat}(b:I0 N p)(q:HQ lt p k):∀(f l r:Nat) {Q:Nat->hW->Prop},r-l<=f->l<=r->r<=k->(∀i,i<l->lt (p.getD k 0) (p.getD i 0)=false)->(∀i,r<=i->i<k->lt (p.getD k 0) (p.getD i 0)=true) ->
  (∀h,h<=k->(∀i,i<h->lt (p.getD k 0) (p.getD i 0)=false)->(∀i,h<=i->i<k->lt (p.getD k 0) (p.getD i 0)=true)->Q h s)->mi cmp (uN p k f l r) Q s:=by
 intro t
 induction t with
 |zero=>intro l r Q u o a m n d;exact d l q0d m λi z=>n i q0d
 |succ f g =>
  intro l r Q u o a m n d;show mi cmp (if l>=r then KasT.ret l else KasT.ask (p.getD k 0) (p.getD ((l+r) / 2) 0) λc=>if c=true then uN p k f l ((l+r) / 2) else uN p k f ((l+r) / 2+1) r) Q s;split
  ·exact d l q0d m λi z=>n i q0d
  ·refine hc _ _ _ (b _) (b _) ?_
   cases e:lt (p.getD k 0) (p.getD ((l+r) / 2) 0) with
   |true =>
    refine g l ((l+r) / 2) q0d q0d q0d m (λi v w=>?_) d
    cases x:lt (p.getD k 0) (p.getD i 0) with
    |true=>rfl
    |false=>rw[L.tr _ _ _ (q ((l+r) / 2) i v w) x]at e;cases e
   |false =>
    refine g ((l+r) / 2+1) r q0d q0d a (λi z=>?_) n d;exact L.tr _ _ _ (q i ((l+r) / 2) q0d q0d) e
def Vx:∀(f:Nat)(p:Array Nat)(k:Nat) {Q:Array Nat->hW->Prop},I0 N p->k+f<=p.size->HQ lt p k->(∀d,d.Perm p->HQ lt d (k+f)->Q d s)->mi cmp (kas_bin f p k) Q s:=by
 intro t
 induction t with
 |zero=>intro p k Q b u c g;exact g p (.refl _) c
 |succ f h =>
  intro p k Q b u c g;show mi cmp ((uN p k k 0 k).bind λl=>kas_bin f (bubble p k<|k-l)<|k+1) Q s;rw[nS];refine OO L hc b c k 0 k q0a q0a (hO _) (λi z=>io z q0a) (λi D v=>io v q0a) λl E w x=>?_;have a:k<p.size:=by lia
  have m:k-l<=k:=by lia
  have y:k-(k-l)=l:=by lia
  refine h _ (k+1) (b.bub a m) (by rw[bubble_size];lia) (λi j n F=>?_) λd A B=>g d (A.trans<|bubble_perm _ _ _) (by rw[show k+(f+1)=k+1+f by lia];exact B);rw[LA a m,LA a m,y];by_cases o:j=l
  ·rw[g8 o];by_cases e:i=l
   ·rw[g8 e];exact L.ir _
   ·rw[ci e,ci q0a];exact w i q0a
  ·rw[ci o];by_cases q:l<j/\j<=k
   ·rw[g8 q];by_cases e:i=l
    ·rw[g8 e];exact L.as _ _<|x (j-1) q0a q0a
    ·rw[ci e];by_cases r:l<i/\i<=k
     ·rw[g8 r];exact c _ _ q0a q0a
     ·rw[ci r];exact c _ _ q0a q0a
   ·rw[ci q,ci q0a,ci q0a];exact c _ _ n q0a
set_option tactic.hygienic true in
def RI{n:Nat}(p:1<=n)(u:n<=N)(d:∀a,a.Perm (iD n).toArray->HQ lt a n->Q a s):mi cmp (kas_sort n) Q s:=by
 unfold kas_sort;rw[nS];have e:(iD n).toArray.size=n:=by simp
 have b:I0 N (iD n).toArray:=λk=>by
  rw[A9];simp only[List.getElem?_toArray,List.getElem?_range'];by_cases h:k<n
  ·simp[uv h];lia
  ·simp[kU (l:=iD n)<|by simpa using h];lia
 refine ON L hc b p (by rw[e];exact hO _) λm a f q r v w g=>?_;split
 ·rename_i h
  refine Vx L hc _ a (max m 1) r (by rw[q,e];lia) (by rw[show max m 1=m by lia];exact g) λc t o=>d c (t.trans f) (by rw[show max m 1+(n-max m 1)=n by lia]at o;exact o)
 ·exact d a f (by rw[show n=m by lia];exact g)
end
open PySem.Spec
noncomputable def Ja(p q:Int×Int):Bool:=decide (p.1<q.1)||(p.1==q.1&&decide (p.2<q.2))
def Fh:Ja p q=false↔q.1<p.1\/(q.1=p.1/\q.2<=p.2):=by unfold Ja;simp only[Bool.or_eq_false_iff,Bool.and_eq_false_iff,decide_eq_false_iff_not,beq_eq_false_iff_ne];omega
def a01:Ja p q=true↔p.1<q.1\/(p.1=q.1/\p.2<q.2):=by unfold Ja;simp only[rL,iY,i4,beq_iff_eq]
def xV(h:i9)(v:cr)(p:Int×Int):Prop:=∃x o t u n,v=.ref x/\h.get? x=↑o/\o.cls=.type "tuple"/\o.data=.seq #v[.int p.1 t,.int p.2 u] n
def Vy{x y:cr}{p q:Int×Int}{Q:Bool->hW->Prop}(hx:xV s.heap x p)(hy:xV s.heap y q)(h:Q (Ja p q) s):ic (ii prog w) A (keyLt' (tuples' true) x y) Q E s:=by
 obtain⟨a,o,t,u,n,rfl,h1,h2,h3⟩:=hx;obtain⟨b,o',t',u',n',rfl,k1,k2,k3⟩:=hy;refine PySem.W.kat_lt h1 h3 k1 k3<|ux<|si<|uZ (λe=>uO<|ux<|si<|uZ (λe2=>uO<|PySem.W.kat_nil ?_) λe2=>u4<|PySem.W.kat_one _ _<|wpAny_lt_int ?_) λe=>u4<|oneLt_int ?_
 ·have e1:=eq_of_beq e;have e2:=eq_of_beq e2;have:Ja p q=false:=Fh.mpr<|.inr #[e1.symm,Int.le_of_eq e2.symm];rw[this]at h;exact h
 ·have e1:=eq_of_beq e;have:Ja p q=decide (p.2<q.2):=by unfold Ja;rw[e1];simp
  rw[this]at h;exact h
 ·have:Ja p q=decide (p.1<q.1):=by unfold Ja;rw[e];simp
  rw[this]at h;exact h
def xV.keep{h a:i9}(k:∀b o,h.get? b=↑o->o.cls=.type "tuple"->a.get? b=↑o)(z:xV h v p):xV a v p:=by obtain⟨x,o,t,u,n,e,d,c,f⟩:=z;exact#[x,o,t,u,n,e,k x o d c,c,f]
def Fi{h a:i9}(k:∀b o,h.get? b=↑o->o.cls=.type "tuple"->a.get? b=↑o):∀{c:List cr} {d:List (Int×Int)},Paired (xV h) c d->Paired (xV a) c d:=by
 intro _ _ z
 induction z with
 |nil=>exact .nil
 |cons h t e=>exact .cons (h.keep k) e
def Fj:∀{d:List cr} {e:List (Int×Int)},Paired (xV h) d e->∃c,PySem.W.KatTups h d c/\c.length=d.length/\∀v∈c,∃i t,v=mj i t
 |_,_,.nil=>#[[],PySem.W.KatTups.nil,rfl,λ_ z=>io z jx]
 |_,_,.cons a b=>by
  refine e1a3 (Fj b) λc f g j=>?_;obtain⟨x,o,t,u,n,rfl,k,l,m⟩:=a;refine#[_::c,#[#[x,o,_,n,rfl,k,l,m,rfl],f],by simp[g],λv p=>?_];rcases List.mem_cons.mp p with z|z
  ·exact#[_,_,z]
  ·exact j v z
def GI:∀{c:List cr} {d:List (Int×Int)},Paired (xV h) c d->∀i,i<c.length->xV h (c.getD i .none) (d.getD i (0,0)):=by
 intro _ _ z
 induction z with
 |nil=>intro i z;exact io z<|Nat.not_lt_zero _
 |cons a b e =>
  intro i z
  cases i with
  |zero=>exact a
  |succ i=>simpa using e i (by simpa using z)
def LB{d:List cr}{n:Nat}(D:s.heap.get? a=↑(mS "list" d.toArray n))(hp:Paired (xV s.heap) d m)(I:d.length<64)
 (h:∀J:List Nat,J.Perm (iD d.length)->(J.map λi=>m.getD i (0,0)).Pairwise (λx y=>Ja y x=false)->P (.done<|.ret .none) { s with heap:=sortedHeap s.heap a d (J.map λi=>d.getD i .none).toArray}):ic (ii U w) A (Builtin.«list.sort» #[[.ref a],[]]) P E s:=by
  rw[list_sort_plain]
  have sl:(64:Nat)<=hV:=by rw[jo];decide
  have hz:d.length<=hV:=by lia
  refine am<|listItems_at D rfl<|am<|uy D rfl ?_ (hsz:=by simpa using hz)
  obtain⟨L,X⟩:∃L,(s.heap.update a<|Obj.mapSeq λ_=>#v[]).get? a=some (mS "list" #v[] L):=#[_,get?_update_seq D _]
  refine am<|seqEpoch_at X rfl<|am<|wpAny_newTuple<|am<|uu<|iQ ?_
  have F:(((s.heap.update a<|Obj.mapSeq λ_=>#v[]).push<|mS "tuple" d.toArray 0).push<|mS "list" #v[] 0).get? a=↑(mS "list" #v[] L):=ce _<|ce _ X
  have g:Paired (xV<|((s.heap.update a<|Obj.mapSeq λ_=>#v[]).push<|mS "tuple" d.toArray 0).push<|mS "list" #v[] 0) d m:=Fi (λb o z c=>ce _<|ce _<|(iR _ _ (λq=>by rw[<- q,D]at z;cases z;have c:kB "list"=kB "tuple":=c;injection c with c;exact io c q0q)).trans z) hp
  have sz:d.toArray.size=d.length:=by simp
  by_cases Y:d.length<2
  · rw[g8 q0a, g8 q0a]
    refine am<|ap<|am<|ap ?_
    refine am<|seqEpoch_at F rfl<|am<|uy F rfl ?_ (hsz2:=by simp[SortSt.mk',arrOf];lia)
    have key:=h (iD d.length) (.refl _) (by
      rcases d with _|⟨v,_|⟨v2,r⟩⟩
      · simp
      · simp
      · simp at Y; lia)
    have e:((iD d.length).map λi=>d.getD i .none).toArray=Array.map (λx=>x.snd) (d.toArray.zip d.toArray):=by
      rcases d with _|⟨v,_|⟨v2,r⟩⟩
      · simp
      · simp
      · simp at Y; lia
    rw[e]at key
    simp only[rS,lM,pM]
    exact ap key
  rw[ci q0a,ci q0a]
  refine e1a3 (Fj g) λfs f1 f2 f3=>?_
  refine am<|PySem.W.kat_kind (T:=.type "int") f1 q0a (λv hv=>?_) q0q ?_
  · obtain⟨i, t, rfl⟩ := f3 v hv
    exact PySem.W.Looks.now
  refine am (jm (PySem.W.kat_run (ks:=d) (vs:=d) (κ:=tuples' true) rfl q0a I (Q:=λf u=>∃p:Array Nat,p.size=d.length/\arrOf f=Array.map (PySem.W.kas_item (d.toArray.zip d.toArray)) p/\failedOf f=none/\u={ s with heap:=((s.heap.update a (Obj.mapSeq λ_=>#v[])).push (mS "tuple" d.toArray 0)).push (mS "list" #v[] 0)}/\p.toList.Perm (iD d.length)/\(p.toList.map λi=>m.getD i (0,0)).Pairwise (λx y=>Ja y x=false))
    (G:=λp u=>u={ s with heap:=((s.heap.update a (Obj.mapSeq λ_=>#v[])).push (mS "tuple" d.toArray 0)).push (mS "list" #v[] 0)}/\p.toList.Perm (iD d.length)/\(p.toList.map λi=>m.getD i (0,0)).Pairwise (λx y=>Ja y x=false)) (λp f u M O R q4=>#[p,M,O,R,q4]) ?_) ?_ λ_ _ z=>z)
  rotate_left
  · rintro⟨⟨⟩, f⟩ u ⟨p, M, O, R, rfl, g1, g2⟩
    have Z:=PySem.W.kat_snds (vs:=d) (ks:=d) rfl O
    refine am<|seqEpoch_at F rfl<|am<|uy F rfl ?_ (hsz2:=by rw[Z];simp[M];lia)
    rw[R]
    simp only[rS,lM,pM]
    rw[Z]
    exact ap<|h _ g1 g2
  · refine RI (N := d.length) (lt := λi j => Ja (m.getD i (0, 0))<|m.getD j (0, 0)) ⟨λa => ?_, λa b c z1 z2 => ?_, λa b z => ?_⟩ (λi j C H B k => ?_) q0a (hO _) λl c1 c2 => #[rfl, ?_, ?_]
    · exact Fh.mpr<|.inr #[rfl, nP _]
    · have z1 := Fh.mp z1
      have z2:=Fh.mp z2
      exact Fh.mpr q0a
    · have z := a01.mp z
      exact Fh.mpr q0a
    · exact Vy (GI g i H) (GI g j B) k
    · have := c1.toList
      simpa using this
    · rw[List.pairwise_iff_getElem]
      intro i j H B S
      have hl:l.size=d.length:=by have:=c1.size_eq;simpa using this
      have q:=c2 i j (mu S) (by simpa[hl] using B)
      have gi:l.getD i 0=l.toList[i]'(by simpa using H):=by
        have:i<l.size:=by simpa using H
        simp[Array.getD,this]
      have gj:l.getD j 0=l.toList[j]'(by simpa using B):=by
        have:j<l.size:=by simpa using B
        simp[Array.getD,this]
      rw[vm,vm,<- gi,<- gj]
      exact q
def HR{a:List cr}(u:s.heap.IsList l a.toArray)(v:Paired (xV s.heap) a B)(f:a.length<64)
 (h:∀j C r (d:List Nat),⇑s<=r->d.Perm (iD a.length)->(d.map λi=>B.getD i (0,0)).Pairwise (λx y=>Ja y x=false)->(∃n,j.get? r=some { cls:=.type "list",data:=.seq (d.map λi=>a.getD i .none).toArray n})->(∀c o,s.heap.get? c=↑o->j.get? c=↑o)->Q (.ref r) { s with heap:=j,toks:=C}) :
    ic (ii t w) A (call (.builtin "sorted") [.ref l]) Q E s:=by
  refine se kind_sorted plain_sorted entry_sorted (args_sorted1 _) ?_
  have sl:(64:Nat)<=hV:=by rw[jo];decide
  refine am (m:=checkCount "sorted" 1 1 _)<|ap<|am<|collect_list u ?_ q0d
  have e:∀c o,s.heap.get? c=↑o->((s.heap.push<|mS "list" #v[] 0).update ⇑s<|Obj.mapSeq λx=>x++a.toArray).get? c=↑o:=λc o q=>(iR _ _<|jA<|hX q).trans<|ce _ q
  have sz:⇑s<=((s.heap.push<|mS "list" #v[] 0).update ⇑s<|Obj.mapSeq λx=>x++a.toArray).objs.size:=by rw[oW,tZ];exact mn _
  generalize ((s.heap.push<|mS "list" #v[] 0).update ⇑s<|Obj.mapSeq λx=>x++a.toArray)=k at e sz ⊢
  refine am<|uu ?_
  have p:(k.push<|mS "list" a.toArray 0).get? k.objs.size=↑(mS "list" a.toArray 0):=ik _ rfl
  refine am<|iQ<|jg slot_list_sort ⟨_,p,rfl⟩ entry_list_sort (LB p (Fi (λb o z _=>ce _<|e b o z) v) f λd D F=>#[_,rfl,?_])<|args_list_sort _
  obtain⟨G,H⟩:=sortedHeap_at (out:=(d.map λi=>a.getD i .none).toArray) p
  refine ap #[_,rfl,h _ s.toks k.objs.size d sz D F #[G,by simpa using H] λc o g=>?_]
  have lt:=hX<|e c o g
  rw[sortedHeap_old (im lt)<|by rw[tZ];exact oO lt]
  exact ce _<|e c o g
end SX
namespace L2
open PySem PySem.Spec PyProof.Rows SX
def range_getD(l:List a)(d:a):(iD l.length).map (λi=>l.getD i d)=l:=by refine List.ext_getElem q0o λi c b=>?_;simp[List.getD,b]
def GJ(h:Paired R c k):∀{b:List Nat},(∀i∈b,i<c.length)->Paired R (b.map λi=>c.getD i d) (b.map λi=>k.getD i e):=by
 have g:∀i,i<c.length->R (c.getD i d) (k.getD i e):=by
  induction h with
  |nil=>exact λi z=>io z<|Nat.not_lt_zero _
  |cons a _ f =>
   intro i z
   cases i with
   |zero=>exact a
   |succ i=>simpa using f i (by simpa using z)
 intro b
 induction b with
 |nil=>exact λ_=>.nil
 |cons i r f=>exact λz=>.cons (g i<|z i h8)<|f λj l=>z j<|ie _ l
def pairs_at(I:Inv X g B H s):∀{i:List V} {d:List cr} {f:List (Int×Int)},Vals i d->Paired (λ(v:V)(p:Int×Int)=>∃t,v=.ref t/\H t=↑(.tup [.int p.1,.int p.2])) i f->Paired (xV s.heap) d f:=by
 intro _ _ f z
 induction z generalizing f with
 |nil=>intro w;cases w;exact .nil
 |cons r C j=>intro w;cases w with|cons q k =>
  refine e1a2 q λt e h=>?_;subst e;obtain rfl:=r;obtain⟨d,l,⟨o,m,u,n,x⟩,_⟩:=I.tuple<|zI.of h
  cases l with|cons a b =>
  cases b with|cons b c =>
  cases c;obtain⟨y,rfl⟩:=a;obtain⟨A,rfl⟩:=b;exact .cons #[t,o,y,A,n,rfl,m,u,x]<|j k
def HS:zd X (.builtin "sorted") (λm H Q=>∃(a:g9)(c:List V) (j:List (Int×Int)),m=[.ref a]/\wF X.K H a c/\Paired (λ(v:V)(p:Int×Int)=>∃t,v=.ref t/\H t=↑(.tup [.int p.1,.int p.2])) c j/\c.length<64 /\
  ∀(l:g9)(b:List Nat),H l=none->b.Perm (iD c.length)->(b.map λi=>j.getD i (0,0)).Pairwise (λx y=>Ja y x=false)->Q (.ref l) (upd H l (.lst (b.map λi=>c.getD i .wV)))):=by
 intro w s R H m c Q I r h;obtain⟨a,f,j,rfl,A,B,C,q⟩:=h;obtain⟨u,rfl,D⟩:=vals1 r;cases D;refine e1a3 (I.list A) λd k E S=>?_;have F:f.length=d.length:=k.length;refine HR E.isList (pairs_at I k B) q0d λT G r b z g J L M=>?_;obtain⟨n,e⟩:=L;rw[<- F]at g;have N:∀i∈b,i<f.length:=λi O=>by simpa using g.subset O
 have P:b.length=f.length:=by simpa using g.length_eq
 exact#[.ref r,_,I.laid (t':=G) (o:=.lst<|b.map λi=>f.getD i .wV) M z #[by rw[hR,P];omega,b.map λi=>d.getD i .none,n,GJ k N,e],rfl,q r b (I.wg.fresh z) g J]
end L2
namespace WL
variable[L2.GX]
open PySem L2 SX
open Rep (rp)
open Ow (sl)
open Sls (rel)
section
variable{D:Type}[Sls D]
def OP:∀{a:List d} {b:List V},Paired R a b->Paired (λv x=>R x v) b a:=by
 intro _ _ z
 induction z with
 |nil=>exact .nil
 |cons h t c=>exact .cons h c
def JZ{a b:Type}{R S:a->b->Prop}(h:∀x y,R x y->S x y):∀{c:List a} {d:List b},Paired R c d->Paired S c d:=λz=>L2.Paired.Xp z h
def LC(B:Gl X "sorted")(C:X.mg "sorted"=none)(G:ER X E T a I)(k:hJ [a] X.env=79::hJ [] X.env:=by rfl) :
  EO X E T (.Call (.Name "sorted" p) [a] [] pos) (cK I λ(m:OL (Int×Int)->D->Prop) g b=>(g b).length<64/\∀c,c.Perm (g b)->c.Pairwise (λx y=>Ja y x=false)->m #[c] b):=by
 refine e1a2 G λta J L=>?_;refine#[_,wT HS B C kQ (vy J vJ k) (he:=k),λd F R M H m N Q s O P S=>L d F R M H _ N _ s O (λg b u n U W o Y f Z=>?_) S];obtain⟨q,r,rfl,h1,h⟩:=Z b n U W 57 f;have A:(g b).length=r.length:=h.length;refine#[_,r,g b,rfl,wF.of h1,JZ (λv x z=>?_)<|OP h,by rw[<- A];exact o.1,λl ix hl j sn=>?_]
 ·obtain⟨t,u,w,rfl,_,e,e1,e2⟩:=z;exact#[t,rfl,by rw[e,e1,e2]]
 ·rw[<- A]at j;have lt:∀i∈ix,i<(g b).length:=λi hi=>by simpa using j.subset hi
  refine e1a3 (yf f hl<|GJ (d:=(0,0)) (e:=V.wV) h lt) λR' c3 s3 n3=>?_;exact P _ b _ _ n R' _ (o.2 _ (by have:=j.map<|λi=>(g b).getD i (0,0);rwa [range_getD]at this) sn) (Ch.trans s f.tab Y c3) s3 n3
def tw_trueR{f:Type}[Rep f]{h:Wf D (D->List f) D}(p:ER X E T a h)(r:∀b,rj a X.env b=(do let v <- b;nC a.pos;lw [v] (uQ v)):=by intro _;rfl):TW X E T a (cK h λi g c=>i (!(g c).isEmpty) c):=by
 refine e1a2 p λL t w=>?_;refine#[_,Jk t r,λd F R x H i y Q s z A B=>w d F R x H _ y _ s z (λg c u j k m C G n I=>?_) B];obtain⟨q,e,rfl,J,o⟩:=I c j k m 57 n;refine#[!e.isEmpty,.inl #[e,wF.of J,rfl],?_]
 have:e.isEmpty=(g c).isEmpty:=by generalize g c=l at o;cases o<;>rfl
 rw[this];exact A _ c j k m C G n
end
section
variable{D PO τ:Type}[Sls D][Sls PO][Ow τ]{α:Type}[Rep α]
def J0(q:ID)(i:Nat)[Sls j][A:At i D (Bd C l) j](n:q.ok l)(o:Bo X.K C)(t:wm X.K C q.nm)(u:X.A.units+1<kF)(w:PE X (.Name x b) (vW i))(B:EV X T a f)(m:M1 X (.Attribute (.Name x b) q.nm G) "get" apos a pos:=by exact#[rfl,rfl,rfl,rfl])(I:iU (.Name x b) q.nm X.env (eval (.Name x b) X.env)=eval (.Name x b) X.env:=by rfl) :
  EW X E T (.Call (.Attribute (.Attribute (.Name x b) q.nm G) "get" apos) [a] [] pos) (λ(d:D)(c:Option Int->D->Prop) _=>c (lk 84<|f d) d):=by
 refine e1a2 B λW J L=>?_;refine#[_,Qh u (xl w I) J m,λd F R M H c Y Q s N O Z=>?_];obtain⟨p,P,e1,e2,e3,e4,us,S,e,_,_⟩:=wS (i:=i) s;refine e1a4 (A5 e q n) λy U h _ _=>?_;refine#[_,S,p,C,P,_,_,rfl,e.ob,o,t,U,y,rfl,.inl #[_,.inl h],L d F R M H _ s λv r=>?_];subst r;have g:=yO.k (k:=iJ<|f d) h;rw[yZ]at g;refine#[_,g,O _ d _ F R H N 57 s ?_]
 cases lk 84 (f d) with
 |none=>exact rfl
 |some z=>exact#[(λz=>by cases z),rfl]
def RJ(q:ID)(i:Nat)[Sls n][A:At i D (Bd C o) n](t:q.ok o)(u:Bo X.K C)(w:wm X.K C q.nm)(B:X.A.units+1<kF)(G:PE X (.Name x c) (vW i))(I:EV X T a f)(J:EV X T b g)(m:M2 X (.Attribute (.Name x c) q.nm L) "get" apos a b pos:=by exact#[rfl,rfl,rfl,rfl])(M:iU (.Name x c) q.nm X.env (eval (.Name x c) X.env)=eval (.Name x c) X.env:=by rfl) :
  EW X E T (.Call (.Attribute (.Attribute (.Name x c) q.nm L) "get" apos) [a,b] [] pos) (λ(d:D)(e:Int->D->Prop) _=>e ((lk 84<|f d).getD<|g d) d):=by
 refine e1a2 I λta N O=>?_;refine e1a2 J λtb P S=>?_;refine#[_,Qi B (xl G M) N P m,λd F R h H e Ke Q s U W ke=>?_];obtain⟨p,Y,e1,e2,e3,e4,us,Z,j,_,_⟩:=wS (i:=i) s;refine e1a4 (A5 j q t) λy l1 l _ _=>?_;refine#[_,Z,p,C,Y,_,_,rfl,j.ob,u,w,l1,y,rfl,.inl #[_,.inl l],O d F R h H _ s λv r=>S d F R h H _ s λv' r'=>?_];subst r r';have g:=yO.k (k:=iJ<|f d) l;rw[yZ]at g;refine#[_,g,W _ d _ F R H U 57 s ?_]
 cases lk 84 (f d) with
 |none=>exact rfl
 |some z=>exact rfl
def Vz(q:ID)(i:Nat)[Sls e][A:At i D (Bd C g) e][U:Pt i e (Bd C g) D](n:q.ok g)(o:Bo X.K C)(t:wm X.K C q.nm)(u:PE X (.Name x b) (vW i))(w:EV X T a f)(m:M1 X (.Attribute (.Name x b) q.nm B) "pop" apos a pos:=by exact#[rfl,rfl,rfl,rfl])(G:iU (.Name x b) q.nm X.env (eval (.Name x b) X.env)=eval (.Name x b) X.env:=by rfl) :
  EW X E T (.Call (.Attribute (.Attribute (.Name x b) q.nm B) "pop" apos) [a] [] pos) (λ(d:D)(h:Int->D->Prop) _=>∃v,lk 84 (f d)=↑v/\h v (U.put (A.hole d)<|q.set (A.get d)<|dk 84<|f d)):=by
 refine e1a2 w λta I J=>?_;refine#[_,Qj (xl u G) I m,λd F R L H h Ke Q s M N ke=>?_];obtain⟨p,O,e1,e2,e3,e4,us,P,j,S,W⟩:=wS (i:=i) s;refine e1a4 (A5 j q n) λy Y k l Z=>?_;refine#[_,P,p,C,O,_,_,rfl,j.ob,o,t,Y,y,rfl,.inl #[_,.inl k],J d F R L H _ s λv r=>?_];subst r;refine e1a2 M λz h1 h2=>?_;refine#[_,iJ<|f d,V.int z,k,rfl,(by rw[yZ,h1];rfl),?_];rw[JM];obtain⟨c,s'⟩:=W (U:=U) l<|Z (dk 84<|f d)<|S _ l;exact N z _ _ F R _ h2 c s' rfl
def J1{R:Rg}{H:Hp}{y:α}:∀{xs:List α} {vs:List V},Paired (rp R H) (xs++[y]) vs->∃us u,vs=us++[u]/\Paired (rp R H) xs us/\rp R H y u:=by
 intro xs
 induction xs with
 |nil=>intro _ z;cases z with|cons h t=>cases t;exact#[[],_,rfl,.nil,h]
 |cons a xs ih =>
  intro _ z
  cases z with|cons h t =>
  obtain⟨us,u,rfl,h1,h2⟩:=ih t;exact#[_::us,u,rfl,.cons h h1,h2]
def VA(i:Nat){D0:Type}[Sls D0][A:At i D (OL α) D0][U:Pt i D0 (OL α) D](hn:PE X (.Name x p1) (vW i))(hb:PE X (.Call (.Attribute (.Name x p1) "pop" apos) [] [] pos) (Z1 X.K "list" Z2<|vW i)) :
  EW X E T (.Call (.Attribute (.Name x p1) "pop" apos) [] [] pos) (λ(d:D)(Kn:α->D->Prop) _=>∃ys y,(A.get d).l=ys++[y]/\Kn y (U.put (A.hole d) #[ys])):=by
 refine#[_,hb,λd F R σ H Kn Ke Q s hw kn ke=>?_];refine e2a4 (Ai (i:=i) s) λa vs g1 g2 g3 g4=>?_;refine e2a2 hw λys y e hk=>?_;rw[e]at g3;obtain⟨us,u,rfl,h1,h2⟩:=J1 g3;obtain⟨c2,s2⟩:=g4 _ _ h1;refine#[_,g1,.inl #[rfl,_,wF.of g2],a,_,u,rfl,rfl,g2,q0o,?_];rw[List.dropLast_concat];exact kn y _ u F R _ hk c2 s2<|s.val c2 h2
def Ac{R:Rg}{H:Hp}:∀{xs:List α} {vs:List V} (k:Nat),Paired (rp R H) xs vs->Paired (rp R H) (xs.eraseIdx k) (vs.eraseIdx k):=by
 intro _ _ k z
 induction z generalizing k with
 |nil=>exact .nil
 |cons h t ih=>cases k with
  |zero=>exact t
  |succ k=>exact .cons h<|ih k
def OQ{a:iV}(i:Nat){D0:Type}[Sls D0][A:At i D (OL α) D0][U:Pt i D0 (OL α) D]{we:Wf D Int D}(hn:PE X (.Name x p1) (vW i))(h:EW X E T a we)
  (hb:∀{t:TA},PA X [a] t->PE X (.Call (.Attribute (.Name x p1) "pop" apos) [a] [] pos) (tBM X.K "list" Qa (vW i) t)) (hs:hJ [a] X.env=79::hJ [] X.env:=by rfl) :
  EW X E T (.Call (.Attribute (.Name x p1) "pop" apos) [a] [] pos) (cK we λ(Kn:α->D->Prop) k d'=>0<=k/\∃y,(A.get d').l[k.toNat]?=↑y/\(A.get d').l.length<1000/\Kn y (U.put (A.hole d') #[(A.get d').l.eraseIdx k.toNat])):=by
 refine e1a2 h λt h1 h2=>?_;refine#[_,hb<|vy h1 vJ hs,λd F R σ H Kn Ke Q s hw kn ke=>?_];refine e2a4 (Ai (i:=i) s) λa0 vs0 g1 g2 g3 _=>?_;refine#[_,g1,.inl #[rfl,vs0,wF.of g2],h2 d F R σ H _ _ _ s hw (λk d' v F' R' H' q c s' r=>?_) ke];subst r;refine e2a4 (Ai (i:=i) s') λa' UP k1 k2 k3 k4=>?_;rw[g1]at k1;cases k1;obtain⟨q0,y,e,ql,hk⟩:=q;refine e1a2 (xm k3 e) λu hu ru=>?_;have lt:=(List.getElem?_eq_some_iff.mp hu).1;have ll:=Paired.length k3;obtain⟨c2,s2⟩:=k4 _ _<|Ac k.toNat k3;refine#[a0,UP,k,k.toNat,u,rfl,rfl,k2,q0a,q0a,?_,hu,kn y _ u F' R' _ hk (Ch.trans s s'.tab c c2) s2<|s'.val c2 ru];have e0:(if k<0 then k+(UP.length:Int) else k)=k:=ci q0a;show (if (decide (0<=(if k<0 then k+(UP.length:Int) else k))&&decide ((if k<0 then k+(UP.length:Int) else k)<(UP.length:Int)))=true then some (if k<0 then k+(UP.length:Int) else k).toNat else none)=_;rw[e0];have:(decide (0<=k)&&decide (k<(UP.length:Int)))=true:=by simp;lia
 exact g8 this
end
end WL
namespace L2
open PySem PySem.Spec PyProof.Rows SX
def YX(f:TE)(c:Int):TE:=λg H Q=>f g H λv d=>∃(a:g9) (b:List (Key×V)) (e:List Int),v=.ref a/\d a=↑(.dK b)/\b.map (·.1)=e.map iJ/\∀p,d p=none->Q (.ref p) (upd d p<|.dK<|e.map λk=>(iJ k,V.int c))
def stored_new:∀{l:List (Key×cr)},k∉l.map (·.1)->stored l k y=l++[(k,y)]
 |l,h=>by unfold stored;rw[ci];simp only[rg,i4,not_exists,not_and];exact λe a z=>h<|List.mem_map.mpr #[e,a,z]
def J2:∀{l:List k} {c:List m},Paired R c (l++[v])->∃b d,c=b++[d]/\Paired R b l/\R d v:=by
 intro e
 induction e with
 |nil=>intro _ z;cases z with|cons h t=>cases t;exact#[[],_,rfl,.nil,h]
 |cons a e f =>
  intro _ z
  cases z with|cons h t =>
  obtain⟨g,u,rfl,i,j⟩:=f t;exact#[_::g,u,rfl,.cons h i,j]
def Bu:∀{l:List c} {m:List d},l.length=m.length->(∀(j:Nat)(k:c)(v:d),l[j]?=↑k->m[j]?=↑v->R k v)->Paired R l m
 | [],[],_,_=>.nil
 | [],_::_,h,_=>by cases h
 |_::_,[],h,_=>by cases h
 |a::l,b::m,h,f=>.cons (f 0 a b rfl rfl)<|Bu (oP h) λj k v e g=>f (j+1) k v e g
def J3{c:Int}:∀{a:List Int} {r:List (Key×cr)},r.map (·.1)=a.map iJ->(∀e∈r,∃t,e.2=.int c t)->KV (a.map λk=>(iJ k,V.int c)) r
 | [],[],_,_=>.nil
 | [],_::_,h,_=>by cases h
 |_::_,[],h,_=>by cases h
 |k::a,e::r,h,f=>by rw[iI,iI]at h;injection h with b d;obtain⟨t,g⟩:=f e h8;exact .cons #[b.symm,t,g]<|J3 d λi j=>f i<|ie _ j
def LD{P:iN}{w:jf}(g:∀v k,i v k->AF k v=true)(h:StoredAll i j l r):∀{a:List Key},Paired (λk v=>AF k v=true) a l->a.Nodup->r.map (·.1)=a/\∀e∈r,∃v,j v e.2:=by
 induction h with
 |nil=>intro a c _;cases c;exact#[rfl,λ_ z=>by cases z]
 | @snoc l r v k y _ m n o =>
  intro a c p;obtain⟨q,d,rfl,s,t⟩:=J2 c;have u:k=d:=(vX P w).inj v k d (g v k m) t;subst u;have b:=List.nodup_append.mp p;obtain⟨f,x⟩:=o s b.1;have A:k∉r.map (·.1):=λz=>by rw[f]at z;exact b.2.2 k z k q0o rfl
  rw[stored_new A,kE,f];refine#[rfl,λe B=>?_];rcases List.mem_append.mp B with z|z
  ·exact x e z
  ·rw[List.mem_singleton.mp z];exact#[v,n]
def RK(af:X.calm=true)(hi:PE X iter ti)(E:oS d X.env=pure [])(F:∀y∈d.names,y.2≠.cell)(f:d.kind=.function)(p:∀y∈d.names,y.2=.local->d.names.lookup y.1=some .local)(hx:d.names.lookup x=some .local)(hd:(x==66)=false:=by decide)
 (hs:∀x,kM iter X.env x=pure x:=by intro _;rfl):PE X (.DictComp (.Name x q1) (.Constant (.int c) j q2) [#[.Name x px,iter,[],0]] d pos) (YX ti c):=by
  intro u s σ H Q I h
  have hh:X.A.handled=none:=I.ok.hd af
  rw[arm_eval_DictComp]
  refine pC (use:=none) rfl hs E f p<|wc (hi u s σ H _ I h) λv l z9=>e2a3 z9 λx1 H1 I1 r1 N=>e3a4 N λa r O e1 ha G q=>?_
  subst e1
  obtain rfl:v=iw a:=r1
  obtain⟨hz,S,m,kv,wW⟩:=I1.wg a _ ha
  obtain⟨B,D⟩:=wW.dictAt
  have alt:a<⇑l:=D.lt_size
  refine wpAny_pyIter_dict S D ?_
  -- the M ah at n,the dict at n+1,the frame at n+2
  have u0:∀b o,l.heap.get? b=↑o->(l.heap.push 77).get? b=↑o:=λb o e=>ce _ e
  have i0:Heap.IsKeyIter (l.heap.push 77) ⇑l a 0 m.length B:=#[_,ik _ rfl,rfl,rfl]
  have z0:(l.heap.push 77).objs.size=⇑l+1:=jO _ _
  generalize l.heap.push 77=g at u0 i0 z0 ⊢
  refine iZ<|wpAny_newFunctionEnv F (λy hy=>by cases hy) (λJ T U=>?_) f
  have d1:(g.push { cls:=.type "dict",dict:=none,data:=.dict #v[]}).DictOf (vX X.prog X.w) g.objs.size []:=ts g
  have u1:∀b o,g.get? b=↑o->(g.push { cls:=.type "dict",dict:=none,data:=.dict #v[]}).get? b=↑o:=λb o e=>ce _ e
  have z1:(g.push { cls:=.type "dict",dict:=none,data:=.dict #v[]}).objs.size=g.objs.size+1:=jO _ _
  generalize g.push { cls:=.type "dict",dict:=none,data:=.dict #v[]}=g1 at d1 u1 z1 T U ⊢
  have u2:∀b o,g1.get? b=↑o->J.get? b=↑o:=λb o e=>U.extBut b o (im<|hX e)<|ce _ e
  have c1:g.objs.size≠g1.objs.size:=by lia
  have n1:∀b∈[⇑l,a],b<g.objs.size:=λb hb=>by
    rcases List.mem_cons.mp hb with z|z
    · rw[z, z0]; exact jK _
    · rw[List.mem_singleton.mp z, z0]; exact oO alt
  have W:=Walks.dictKeys (prog:=X.prog) (w:=X.w) (knd:=vX X.prog X.w) hh ⇑l a (im alt) m B
  have st:J.IsKeyIter ⇑l a 0 m.length B/\J.DictAt (vX X.prog X.w) a m B:=#[i0.at λo e=>u2 _ o<|u1 _ o e,D.at' λo e=>u2 _ o<|u1 _ o<|u0 _ o e]
  have C:=codeAny_compLoop_walkD (R:=compPost 54 X.A X.xe none (EP X u σ Q) (iw g.objs.size) g1.objs.size) (s:={ l with heap:=J,toks:=l.toks+0}) (kx:=.Name x q1) (vx:=.Constant (.int c) j q2) (iter:=iter) (x:=x) (px:=px) (ifs:=[]) (scope:=d) (pos:=pos) (D:=g.objs.size) (cenv:=t6 d [] g1.objs.size X.env) W (λ_=>true) (λv k=>AF k v=true) (λ_ y=>∃t,y=.int c t)
    (lookup_relabel_local hx) (by simp[t6,pc,f]) c1 (λY=>kf _<|n1 _ Y) (λY=>kf _<|n9 (n1 _ Y)<|by rw[z1];exact jK _) st (d1.at λo e=>u2 _ o e) T (λi v L m3 _ _ _ _=>sV #[rfl,L.heap,L.toks,rfl,λ_ _ e=>e])
    (λi v L m3 Z _ hn Y _=>by
      refine e2a2 Z λk x' aj hk=>?_
      exact pX (lv (by show d.kind=_;exact f) (lookup_relabel_local hx) hn Y #[#[k,hk,hk],L.heap,L.toks,rfl,λ_ _ e=>e]) hd)
    (λi v L m3 _ _ _ _ _=>wpAny_Constant_int #[#[_,rfl],L.heap,_,rfl,λ_ _ e=>e])
    (λh2 tk m' aa ag hn dd ab hP hS k=>?fin) (by rw[<- Paired.length kv];exact hz)
  · exact codeAny_compStart_dict C<|W.self 0 _ _ _ st C
  · refine#[m', hn, λh3 ae => ?_]
    have le:⇑l<=g.objs.size:=by rw[z0];exact mn _
    have k':∀b o,l.heap.get? b=↑o->h3.get? b=↑o:=λb o e=>by
      have lb:=hX e
      have lg:b<g.objs.size:=iz lb le
      have n2:b≠g1.objs.size:=im (by rw[z1];exact oO lg)
      exact ae.extBut b o n2<|k b o n2 (λz=>by rw[List.mem_singleton.mp z]at lb;exact kf _ lb) (im lg)<|u2 _ _<|u1 _ _<|u0 _ _ e
    have nH:H1 g.objs.size=none:=I1.wg.fresh le
    have kk:∀{r:List (Key×V)} {m:List (Key×cr)},KV r m->r.map (·.1)=m.map (·.1):=λh=>by
      induction h with
      |nil=>rfl
      |cons h _ ih=>rw[iI,iI,ih,h.1]
    have Z:Paired (λk v=>AF k v=true) (O.map iJ) ag:=by
      rw[<- G,kk kv]
      refine Bu (by rw[hR,ab]) λj k v J h2=>?_
      refine e2a2 (hP j v h2) λk' x' g1 g2=>?_
      rw[jS,g1]at J
      cases J
      exact g2
    have nd:(O.map iJ:List Key).Nodup:=by
      rw[<- G,kk kv]
      obtain⟨o,es,ho,hc,ai,hk,hp,hn⟩:=id D
      exact hn
    obtain⟨f1,f2⟩:=LD (P:=X.prog) (w:=X.w) (λv k h=>h) hS (by rw[List.filter_eq_self.mpr<|λ_ _=>rfl];exact Z) nd
    have rel:KV (O.map λk=>(iJ k,V.int c)) aa:=J3 f1 λe he=>(f2 e he).elim λv Z=>Z
    have ll:O.length=r.length:=by have:=congrArg oF G;simpa using this.symm
    exact#[.ref g.objs.size,_,I1.laid (a:=g.objs.size) (o:=.dK<|O.map λk=>(iJ k,V.int c)) (t':=tk) k' le<|EA (by rw[hR,ll];exact hz) (beq_eq_false_iff_ne.mpr λz=>io I1.big<|by rw[<- z];exact Nat.not_lt.mpr le) rel<|dd.extBut ae.extBut c1,rfl,q _ nH]
end L2
namespace WL
variable[L2.GX]
open PySem L2
open Rep (rp)
open Ow (sl)
open Sls (rel)
section
variable{D PO τ:Type}[Sls D][Sls PO][Ow τ]{α:Type}[Rep α]
def RL{F R:Rg}{H:Hp}{d:D}{g:St}(s:wz T F R H d g){p:g9}(c:H p=none){l:List (Int×α)}{us:List (Key×V)}(h:PK R H l us):∃e,Ch T F R H (λa=>a=p\/F a) e (upd H p<|.dK us)/\wz T F e (upd H p<|.dK us) d g/\Nw T (λa=>a=p) F e (upd H p<|.dK us) (Dc.mk l) (.ref p):=by
 refine e0a3 (s.new (.dK us) c) λi m j=>?_;have n:¬F p:=λz=>j<|s.sub p z;have f:Ext (λ_=>False) R H (λa=>R a\/a=p) (upd H p<|.dK us):=⟨λb o _ h=>by rw[vo<|vC h c];exact h,λa h=>h.elim .inl λq=>.inr<|by rw[q];exact c⟩;refine⟨λa=>R a\/a=p,#[m.keep,f.new,λa h=>h.elim (λq=>.inr<|by rw[q];exact c) .inl,λa h _=>.inl h],#[Sls.st s.rel f (λ_ z=>z.elim)<|λ_ _ z=>z,λa h=>.inl<|s.sub a h,λa h=>?_,i.tab,.inl s.wj,s.v0],#[#[p,us,rfl,λb=>Iff.rfl,vt,Ru (f.wide λ_ z=>z.elim) h],λa h=>.inr h,λa h k=>n (by rw[<- h];exact k),λh=>j<|by rw[<- h];exact s.wj]⟩;rcases h with h|h
 ·exact i.xI a h
 ·rw[h,vt];simp
def Nn{c:Int}:∀l:List Int,PK R H (l.map λk=>(k,c)) (l.map λk=>((iJ k:Key),V.int c))
 | []=>.nil
 |_::l=>.cons #[rfl,rfl]<|Nn l
def ZA{y:Str}{r t u:Pos}{c:Int}{j:Nat}{a:mF}(q:ID)(i:Nat){m:Type}[Sls m][A:At i D (Bd C v) m](w:q.ok v)(B:Bo X.K C)(G:wm X.K C q.nm)(l:X.calm=true)(I:PE X (.Name x h) (vW i))(e:oS a X.env=pure [])(f:∀y∈a.names,y.2≠.cell)(g:a.kind=.function)(b:∀y∈a.names,y.2=.local->a.names.lookup y.1=some .local)(J:a.names.lookup y=some .local)(L:(y==66)=false:=by decide)(M:iU (.Name x h) q.nm X.env (eval (.Name x h) X.env)=eval (.Name x h) X.env:=by rfl)
  (N:∀z,kM (.Attribute (.Name x h) q.nm O) X.env z=pure z:=by intro _;rfl) :
  EO X E T (.DictComp (.Name y r) (.Constant (.int c) j t) [#[.Name y u,.Attribute (.Name x h) q.nm O,[],0]] a pos) (λ(d:D)(n:Dc Int->D->Prop) _=>n #[((84).map (·.1)).map λk=>(k,c)] d):=by
 refine#[_,RK l (xl I M) e f g b J L N,λd F R σ H n Ke Q s P S ke=>?_];obtain⟨p,U,e1,e2,e3,e4,us,W,o,_,_⟩:=wS (i:=i) s;refine e1a4 (A5 o q w) λz Y Z _ _=>?_;refine#[_,W,p,C,U,_,_,rfl,o.ob,B,G,Y,z,_,(84).map (·.1),rfl,Z,?_,λp' hp=>?_]
 ·unfold B8;rw[lN,lN];rfl
 ·refine e1a3 (RL s hp (Nn (R:=R) (H:=H) (c:=c) ((84).map (·.1)))) λR' c3 s3 n3=>?_;exact S _ d _ _ F R' _ P c3 s3 n3
def YY{j:Nat}(e:EV X T a f):EO X E T (.Dict [↑a] [.Constant .none j w] pos) (λ(d:D) (b:Dc (Option Int)->D->Prop) _=>b #[[(f d,none)]] d):=by
 refine e1a2 e λx g h=>?_;refine#[_,Uo (Qg g Kx Um) rfl rfl q0o q0o,λd F R i H b y Q s k m z=>?_];intro p c;refine e0a3 (s.new (.dK []) c) λn A B=>?_;refine h d F R i _ _ n λv r=>#[vt,[(iJ<|f d,.wV)],?_,(show 1<=15 by decide),?_]
 ·have r:v=V.int (f d):=r;rw[r];rfl
 ·rw[T4];refine e1a3 (RL (α:=Option Int) s c (l:=[(f d,none)]) (us:=[(iJ<|f d,V.wV)])<|.cons ⟨rfl,rfl⟩ .nil) λo q t u=>?_;exact m _ d _ _ F o _ k q t u
def tw_dcNin(i:Nat)[Sls g][A:At i D (Dc α) g](h:X.A.units+1<kF)(j:EW X E T a wk)(m:PE X (.Name x c) (vW i))(n:jh .NotIn (.Name x c)=false:=by with_unfolding_all rfl) :
  TW X E T (.Compare a [.NotIn] [.Name x c] pos) (cK wk λ(e:Bool->D->Prop) k b=>e (!(lk (A.get b).l k).isSome) b):=by
 refine e1a2 j λO o p=>?_;refine#[_,Ky (C3 h o m) n,λd F R q H e r Q s t v w=>p d F R q H _ r _ s t (λk b u z B C G I f J=>?_) w];subst J;obtain⟨y,P,L,M,N⟩:=Ei (i:=i) f;refine#[_,L,y,_,rfl,yO.k (k:=iJ k) M,_,rfl,?_];rw[Nj N];exact v _ b z B C G I f
def a02(i:Nat)[Sls q][A:At i D (Dc Int) q][U:Pt i q (Dc Int) D][J:Pj D PO n](B:X.A.units+1<kF)(C:PE X (.Name x G) (vW i))(I:EV X T a f)(L:EV X T e h)(m:ZX X op (ipI g))
 (M:∀c j b,augStore a c j b=(do lw [b,c,j] (sZ c j b);release [b,c,j] [];pure .next):=by intros;rfl) :
    S1 X E T ms n (.AugAssign (.Subscript (.Name x G) a p3) op e pos) (λ(d:D)(r:D->Prop)(_:τ->PO->Prop) _=>∃v,lk (A.get d).l (f d)=↑v/\(A.get d).l.length<hV/\r (U.put (A.hole d) #[pk (A.get d).l (f d)<|g v<|h d])):=by
  refine e1a2 I λta N O=>?_
  refine e1a2 L λte P Q=>?_
  refine#[_,Ul B C N P m M,λd F R o H r Kr Ke En s S W kr ke=>?_]
  refine e2a4 (Ry (i:=i) s) λy us Y t p Z=>?_
  refine e1a3 S λv h1 h2 h3=>?_
  refine#[_,Y,O d F R o H _ s λk rk=>?_]
  subst rk
  refine e1a2 ((Lv p).1 v h1) λw w1 w2=>?_
  subst w2
  have u:=yO.k (k:=iJ<|f d) t
  rw[w1]at u
  refine#[y,_,rfl,u,Q d F R o H _ s λz rz=>?_]
  subst rz
  obtain⟨c3,s3⟩:=Z _ _<|Rx (R:=R) (H:=H) (k:=f d) (x:=g v<|h d) (v:=V.int<|g v<|h d) rfl p
  exact#[v,h d,rfl,rfl,_,Hc.k (k:=iJ<|f d) t (by rw[Lw p];exact h2),W _ F R _ o h3 c3 s3<|Ag.refl _ _]
end
section
variable{D:Type}[Sls D]
def tw_ninT{h:Wf D Int D}{i:Wf D (Tp Int) D}(r:EW X E T a h)(w:EW X E T b i)(x:jh .NotIn b=false) :
  TW X E T (.Compare a [.NotIn] [b] pos) (cB h i λk j t f=>j (!decide (k∈t.l)) f):=by
 refine e1a2 r λta z A=>?_;refine e1a2 w λtb B G=>?_;refine#[_,yw Cf z B x,λd F R m H j n Q s I J o=>A d F R m H _ n _ s I (λk L u M N O P p g S=>?_) o];refine G L M N m O _ n _ g P (λt f v U W Y Z c2 s2 r2=>?_) λC y d' F' R' H' k c s'=>o C y d' F' R' H' k (Ch.trans s g.tab p c) s';subst S;obtain⟨l⟩:=t;obtain⟨q,us,rfl,_,h1,h2⟩:=r2;have e:=ints_of (xs:=l) h2;subst e;refine#[q,_,rfl,.inr<|zI.of h1,rfl,Bw _,_,rfl,?_];rw[g8 rfl,Cu];exact J _ f U W Y Z (Ch.trans s g.tab p c2) s2
end
end WL
namespace L2
variable[L2.GX]
open PySem PySem.Spec PyProof.Rows
def a21(K:hI)(d:TE):TE:=λe H Q=>d e H λx b=>∃a c,x=.ref a/\wF K b a c/\∀p,b p=none->Q (.ref p) (upd b p<|.lst c.reverse)
def YZ{X:Cx}{e:iV}{te:TE}{p2 p3 p4 pos:Pos}{j:Nat}(he:PE X e te):PE X (.Subscript e (.Slice none none (some<|.UnaryOp .USub (.Constant (.int 1) j p3) p4) p2) pos) (a21 X.K te):=by
 intro pins s σ H Q I h;refine tP<|wc (he pins s σ H _ I h) λv s1 z9=>e2a3 z9 λx H1 I1 r1 z89=>e2a3 z89 λa xs e1 hx q=>?_;subst e1;obtain rfl:v=iw a:=r1;refine wpAny_Slice ?_;rw[uo,evalPart_some];refine ap<|ap<|wc (WG PR vQ pins s1 σ H1 (λv H=>v=.int (-1)/\H=H1) I1 #[1,rfl,rfl,rfl]) λu s2 z9=>e2a4 z9 λy H2 I2 r2 e2 e3=>?_;subst e2 e3;obtain⟨t,rfl⟩:=r2;have I4:Inv X pins σ H2 { s2 with heap:=s2.heap.push { cls:=.type "slice",data:=.fields #v[.none,.none,.int (-1) t]}}:=I2.kept (t':=s2.toks) λb ob q=>ce _ q;refine e1a3 (I4.list hx) λAD r pl hz=>?_;refine' tail_any pl.isList.typeIs slot_list_getitem.lookup ?_ ?hs
 case hs=>with_unfolding_all rfl
 refine uq pl.isList (rE ..) .none .none (.int (-1) t) q0q ?_ (by rw[il,<- r.length];exact hz);rw[PySem.W.krv_pick];refine#[.ref (s2.heap.push { cls:=.type "slice",data:=.fields #v[.none,.none,.int (-1) t]}).objs.size,_,I4.laid (t':=s2.toks) (o:=.lst xs.reverse) (λb ob q=>ce _ q) (hO _) ?_,rfl,q _<|I4.wg.fresh<|hO _];exact#[by rw[List.length_reverse];exact hz,AD.reverse,0,r.reverse,ik _ rfl]
end L2
namespace WL
variable[L2.GX]
open PySem L2
open Rep (rp)
open Ow (sl)
open Sls (rel)
section
variable{D:Type}[Sls D]{α:Type}[Rep α]
def LF{R:Rg}{H:Hp}:∀{xs:List α} {vs:List V},Paired (rp R H) xs vs->Paired (rp R H) xs.reverse vs.reverse:=by
 intro _ _ z
 induction z with
 |nil=>exact .nil
 |cons h t ih=>rw[oG,oG];exact yx ih<|.cons h .nil
def Y0{j:Nat}(h:ER X E T a i) :
  EO X E T (.Subscript a (.Slice none none (some<|.UnaryOp .USub (.Constant (.int 1) j N) O) P) pos) (cK i λ(e:OL α->D->Prop) g b=>e #[(g b).reverse] b):=by
 refine e1a2 h λS k l=>?_;refine#[_,YZ k,λd F R m H e n Q s o r t=>?_];refine l d F R m H _ n _ s o (λg b u f v w x y c z=>?_) t;obtain⟨q,A,rfl,B,C⟩:=z b f v w 57 c;refine#[q,A,rfl,wF.of B,λp G=>?_];refine e1a3 (yf c G<|LF C) λI J L M=>?_;exact r _ b _ _ f I _ x (Ch.trans s c.tab y J) L M
end
end WL
namespace K7
instance gx0:L2.GX:=#[λ_ _ _=>True]
abbrev XS:g9:=44
abbrev XC:g9:=56
abbrev XB:g9:=68
abbrev XO:g9:=80
abbrev XP:g9:=92
abbrev XF0:g9:=104
abbrev XV:g9:=116
abbrev XF:g9:=128
abbrev XT:g9:=140
abbrev XN:g9:=152
abbrev XR:g9:=175
abbrev C:g9:=531
abbrev CB:g9:=330
open PySem L2 WL
noncomputable def top(i:Nat):iH:=PySem.Challenge.pw_slimbody_k11_arrows_kept.main.body.getD i<|.Pass #[0,0,0,0]
noncomputable abbrev xD:iH:=top 15
noncomputable abbrev Fl:iH:=top 16
noncomputable abbrev HU:iH:=top 17
def GK:Wf (List Int×Unit) Bool (Un×Unit):=λp a _=>a (asc p.1) (#[],())
def GL:Wf (Tp Int×Unit) Bool (Un×Unit):=λp a _=>a (asc p.1.l) (#[],())
def No(C:g9):Wf (List Int×Unit) Unit (Un×Unit):=λp a b=>(asc p.1=true->a () (#[],()))/\(asc p.1=false->b C (#[],()))
def Np(C:g9):Wf (Tp Int×Unit) Unit (Un×Unit):=λp a b=>(asc p.1.l=true->a () (#[],()))/\(asc p.1.l=false->b C (#[],()))
def Nq:Wf (List (Tp Int)×Unit) (OL Int) (Un×Unit):=λp a _=>∃U:List Int,U.length<64/\(∀r∈p.1,yN r.l/\∀x∈r.l,x∈U)/\a #[PB (p.1.map (·.l))] (#[],())
section
variable{P:iN}{w:jf}{K:hI}{mg:Str->Option cr}{base:i9}{T:g9}
def GN:vz ["row"] ["row"] (vn xD):=#[rfl,rfl,rfl,q0s,rfl,q0s,q0s]
def LG{f c:g9}{fd:iW}(F:zj K "is_sum" "is_sum" xD f fd)(hc:fd.code=.ref c)(B:JE mg base c T)(Y1:mg "all"=none)(Y2:mg "zip"=none):vZ P w K mg base (wh P w) 1 f fd ["row"] (yY T GK):=by
 refine' vB (WZ (A:=List Int×Unit) (PO:=Un×Unit) (τ:=Bool) (D':=Unit) (ms:=[]) (j:=0) F GN rfl rfl λA outer s H E hr=>?body) ?nice
 case body =>
  exact vq<|vD<|vH<|Q2 (ss 0) (vV<|JJ (v6<|ss 0) (Hu vv) Ht)<|λh=>JD a2r (c:=c) (P:=T) rfl #[hc,B.hd,B.blt] hr.depth rfl Y1 rfl Y2 h rfl rfl rfl q0s rfl rfl rfl q0s q0s q0s
 case nice =>
  intro p Kn Ke h
  walk_at "wl"
  rw[a0F];exact h
def LH{f c:g9}{fd:iW}(F:zj K "is_sum" "is_sum" xD f fd)(hc:fd.code=.ref c)(B:JE mg base c T)(Y1:mg "all"=none)(Y2:mg "zip"=none):vZ P w K mg base (wh P w) 1 f fd ["row"] (yY T GL):=by
 refine' vB (WZ (A:=Tp Int×Unit) (PO:=Un×Unit) (τ:=Bool) (D':=Unit) (ms:=[]) (j:=0) F GN rfl rfl λA outer s H E hr=>?body) ?nice
 case body =>
  exact vq<|vD<|vH<|Q3 (ss 0) (OC (ss 0) (Hu vv) Ht)<|λh=>JD a2P (c:=c) (P:=T) rfl #[hc,B.hd,B.blt] hr.depth rfl Y1 rfl Y2 h rfl rfl rfl q0s rfl rfl rfl q0s q0s q0s
 case nice =>
  intro p Kn Ke h
  walk_at "wl"
  rw[a0F];exact h
def Nr:vz ["row"] ["row"] (vn Fl):=#[rfl,rfl,rfl,q0s,rfl,q0s,q0s]
def GO{b:Bool}(h:(b=true->p)/\(b=false->q)):if (!b)=true then q else p:=by
 cases b
 ·exact h.2 rfl
 ·exact h.1 rfl
def RM{f C f1:g9}{fd Xe:iW}{DS:List cr}{B newId yQ:String}(F:zj K "must_be_sum" "must_be_sum" Fl f fd)(F1:Fn K mg "is_sum" xD ["row"] f1 Xe)(G1:vZ P w K mg base (wh P w) 1 f1 Xe ["row"] (yY T GK))
  (hC:mg "NotASum"=↑(.ref C))(O:jE K C DS newId=true)(FB:kT B newId yQ DS)(g0:∀H',GX.g C none H'):vZ P w K mg base (wh P w) 2 f fd ["row"] (yY T<|No C):=by
 refine' vB (EL (v9 q0q) (A:=List Int×Unit) (PO:=Un×Unit) (D':=List Int×Unit) (ms:=[]) (j:=0) F Nr rfl rfl λTX A outer s H E hr=>?body) ?nice
 case body =>
  exact vq<|vT (tw_not<|tw_val<|vA<|Cw G1 hr rfl F1.at_ F1.fn.kp F1.bd xM<|vr (ss 0) vp) (vq<|E6<|EK rfl hC O FB g0<|vy GY vJ) vL
 case nice =>
  intro p Kn Ke h
  walk_at "wl"
  exact GO h
def RN{f C f1:g9}{fd Xe:iW}{DS:List cr}{B newId yQ:String}(F:zj K "must_be_sum" "must_be_sum" Fl f fd)(F1:Fn K mg "is_sum" xD ["row"] f1 Xe)(G1:vZ P w K mg base (wh P w) 1 f1 Xe ["row"] (yY T GL))
  (hC:mg "NotASum"=↑(.ref C))(O:jE K C DS newId=true)(FB:kT B newId yQ DS)(g0:∀H',GX.g C none H'):vZ P w K mg base (wh P w) 2 f fd ["row"] (yY T<|Np C):=by
 refine' vB (EL (v9 q0q) (A:=Tp Int×Unit) (PO:=Un×Unit) (D':=Tp Int×Unit) (ms:=[]) (j:=0) F Nr rfl rfl λTX A outer s H E hr=>?body) ?nice
 case body =>
  exact vq<|vT (tw_not<|tw_val<|vA<|Cw G1 hr rfl F1.at_ F1.fn.kp F1.bd xM<|vr (ss 0) vp) (vq<|E6<|EK rfl hC O FB g0<|vy GY vJ) vL
 case nice =>
  intro p Kn Ke h
  walk_at "wl"
  exact GO h
def J4:vz ["rows","odd","row","number"] ["rows"] (vn HU):=#[rfl,rfl,rfl,q0s,rfl,q0s,q0s]
def RO{f C f1:g9}{fd Xe:iW}(F:zj K "total" "total" HU f fd)(F1:Fn K mg "must_be_sum" Fl ["row"] f1 Xe)(G1:vZ P w K mg base (wh P w) 2 f1 Xe ["row"] (yY T<|Np C))(a22:mg "set"=none)(VB:mg "sorted"=none) :
  vZ P w K mg base (wh P w) 3 f fd ["rows"] (yY T Nq):=by
 refine' vB (wN (A:=List (Tp Int)×Unit) (PO:=Un×Unit) (τ:=OL Int) (D':=Unit) (ms:=[]) (j:=3) F J4 rfl rfl λTX A outer s H E hr=>?body) ?nice
 case body =>
  have nd:=J4.nd
  exact D7 (v9 q0q) (vK 1 nd<|UW (w:=w) rfl rfl a22)
   (D7 (v9 q0q) (xC (is:=[]) (mb:=[]) (D1:=List (Tp Int)×SI w×Tp Int×Un×Unit) (D2:=List (Tp Int)×SI w×Tp Int×Un×Unit) (v9 q0q) Az rfl (wO (ss 0)) (vP 2 (vG nd))
    (D7 (v9 q0q) (ww (vA (Cw G1 hr rfl F1.at_ F1.fn.kp F1.bd xM 98)))
     (vq (xC (is:=[]) (mb:=[]) (D1:=List (Tp Int)×SI w×Tp Int×Int×Unit) (D2:=List (Tp Int)×SI w×Tp Int×Int×Unit) (v9 q0q) Az rfl (Q4 (ss 2)) (vP 3 (vG nd))
      (vq (vT (tw_inS 1 (w:=w) rfl (ss 3) (pv 1) (by with_unfolding_all rfl))
       (vq<|UY 1 (w:=w) rfl (ss 3)<|λh=>yV<|QB PySem.F.slot_set_discard PySem.F.type_set_discard QA (pv 1) h)
       (vq (UX 1 (w:=w) rfl (ss 3) (λh=>yV (QB PySem.F.slot_set_add PySem.F.type_set_add UG (pv 1) h)))))) q0q q0q))) q0q q0q)
    (vq (vD (Lm 1 (w:=w) rfl rfl rfl VB (pv 1)))))
 case nice =>
  intro p Kn Ke h
  walk_at "wl"
  obtain⟨U,hU,hr,hk⟩:=h;refine wB (λ(r:List (Tp Int)) (b:List (Tp Int)×SI w×Un×Un×Unit)=>yN b.2.1.l/\(∀x∈b.2.1.l,x∈U)/\(r.map (·.l)).foldl xr b.2.1.l=PB (p.1.map (·.l))) p.1 #[iP,(λ_ h=>by cases h),rfl] ?_ ?_
  ·rintro x r b ⟨pre,e⟩ ⟨h1,h2,h3⟩ K hK;have hx:=hr x (by rw[e];simp);refine#[λ_=>?_,λz=>io ((By _).mpr hx.1)<|by rw[z];simp];refine wB (λ(q:List Int) (c:List (Tp Int)×SI w×Tp Int×Un×Unit)=>yN c.2.1.l/\(∀y∈c.2.1.l,y∈U)/\q.foldl Lo c.2.1.l=xr b.2.1.l x.l) x.l #[h1,h2,rfl] ?_ ?_
   ·rintro y q c ⟨a4n,e2⟩ ⟨g1,g2,g3⟩ K2 hK2;have hy:y∈x.l:=by rw[e2];simp
    have g3':q.foldl Lo (Lo c.2.1.l y)=xr b.2.1.l x.l:=g3;by_cases hc:y∈c.2.1.l
    ·rw[g8<|decide_eq_true hc];refine hK2 _ ⟨kg _ g1,λz hz=>g2 z (AZ.mp hz).1,?_⟩;rw[<- g3'];unfold Lo;rw[g8 hc]
    ·rw[ci<|by simpa using hc];refine⟨by have:=w4 g1 g2;lia,hK2 _ ⟨Eb g1,λz hz=>?_,?_⟩⟩
     ·rcases CA.mp hz with e3|e3
      ·rw[e3];exact hx.2 y hy
      ·exact g2 z e3
     ·rw[<- g3'];rw[show Lo c.2.1.l y=FY y c.2.1.l from ci hc]
   ·rintro c ⟨g1,g2,g3⟩;refine hK _ #[g1,g2,?_];rw[<- h3];show (r.map (·.l)).foldl xr c.2.1.l=(r.map (·.l)).foldl xr (xr b.2.1.l x.l);rw[<- g3];rfl
  ·rintro b ⟨h1,h2,h3⟩;refine#[by have:=w4 h1 h2;lia,?_];have h3':b.2.1.l=PB (p.1.map (·.l)):=h3;rw[h3'];exact hk
end
open PySem L2 WL
abbrev B0:=Bd C true
noncomputable def xO(x:B0)(row:List Int):Bool:=row.all λc=>(lk x.rk c).isSome
noncomputable def yj(x:B0)(c:Int):List Int:=(lk x.bd c).getD []
noncomputable def Y3(x:B0)(c:Int):List Int:=(x.rk.map (·.1)).filter λh=>decide<|c∈yj x h
noncomputable def VC(x:B0)(row:List Int)(r:Int):Bool:=row.all λc=>decide<|lk x.rk c=↑r
structure PD(x:B0):Prop where
 kb:∀k,(lk x.rk k).isSome=true->(lk x.bd k).isSome=true
 bo:∀k b,lk x.bd k=↑b->yN b/\∀c∈b,0<=c/\c<63
 ri:(x.rk.map (·.1)).Pairwise (·<=·)
 lr:x.rk.length<64
 lb:x.bd.length<64
def CJ :B0×Int×Unit->(Unit->B0×Un×Unit->Prop)->105->Prop:=λp a b =>
 if (67).isSome=true then a () 65 else b XC 65
def Ba :B0×List Int×Unit->(Unit->B0×Un×Unit->Prop)->105->Prop:=λp Kn Ke =>
 if asc p.2.1=true then (if xO p.1 p.2.1=true then Kn () 65 else Ke XC 65) else Ke XS 65
def yk :B0×List Int×Int×Unit->(Unit->B0×Un×Un×Unit->Prop)->(g9->B0×Un×Un×Unit->Prop)->Prop:=λp Kn Ke =>
 xO p.1 p.2.1=true/\if VC p.1 p.2.1 p.2.2.1=true then Kn () 71 else Ke XO 71
def yI :B0×List Int×Unit->(OL Int->B0×Un×Unit->Prop)->105->Prop:=λp Kn Ke =>
 PD p.1/\if asc p.2.1=true then (if xO p.1 p.2.1=true then Kn #[PB<|p.2.1.map<|yj p.1] 65 else Ke XC 65) else Ke XS 65
def Ek:Wf (B0×Unit) (OL Int) (B0×Unit):=λp a _=>PD p.1/\a #[p.1.rk.map (·.1)] (p.1,())
def HV :B0×Int×Unit->(OL Int->B0×Un×Unit->Prop)->105->Prop:=λp a b =>
 PD p.1/\if (67).isSome=true then a #[Y3 p.1 p.2.1] 65 else b XC 65
def J5 :B0×Int×List Int×Unit->(Int->B0×Un×Un×Unit->Prop)->(g9->B0×Un×Un×Unit->Prop)->Prop:=λp b a =>
 PD p.1/\lk p.1.bd p.1.up=none/\if p.2.1<0\/12<p.2.1 then a XB 71 else if asc p.2.2.1=true then (if xO p.1 p.2.2.1=true then (if VC p.1 p.2.2.1 (p.2.1-1)=true then
  (if PB (p.2.2.1.map (yj p.1))=[] then b p.1.up ({ p.1 with rk:=pk p.1.rk p.1.up p.2.1,bd:=pk p.1.bd p.1.up p.2.2.1,up:=p.1.up+1},#[],#[],()) else a XP 71) else a XO 71) else a XC 71) else a XS 71
def HW :B0×Int×Unit->(Unit->B0×Un×Unit->Prop)->105->Prop:=λp b a =>
 PD p.1/\if (67).isSome=true then (if Y3 p.1 p.2.1=[] then b () ({ p.1 with rk:=dk p.1.rk p.2.1,bd:=dk p.1.bd p.2.1},#[],()) else a XV 65) else a XC 65
def VD(x:B0)(c:Int):Int:=(lk x.rk c).getD 0
def CK:Wf (B0×Int×Unit) Bool (B0×Un×Unit):=λp a _=>a (67).isSome 65
def CL:Wf (B0×Unit) Int (B0×Unit):=λp a _=>a p.1.up (p.1,())
def CM :B0×Int×Unit->(Int->B0×Un×Unit->Prop)->105->Prop:=λp a b =>
 if (67).isSome=true then a (VD p.1 p.2.1) 65 else b XC 65
def Bb :B0×Int×Unit->(OL Int->B0×Un×Unit->Prop)->105->Prop:=λp Kn Ke =>
 PD p.1/\if (67).isSome=true then Kn #[yj p.1 p.2.1] 65 else Ke XC 65
def BB{n k:Int}(h0:0<=k)(h1:k<n):k∈zH 0 n:=by exact List.mem_map.mpr #[k.toNat,List.mem_range.mpr q0a,q0a]
def zh{k:Int}:∀{l:List (Int×c)},(lk l k).isSome=true->k∈l.map (·.1):=by
 intro b
 induction b with
 |nil=>intro h;cases h
 |cons e l a =>
  intro h;by_cases q:e.1=k
  ·rw[<- q];simp
  ·have:lk (e::l) k=lk l k:=by unfold lk;rw[je,iC q]
   rw[this]at h;exact ie _<|a h
def xW{k:Int}:∀{l:List (Int×a)},k∈l.map (·.1)->(lk l k).isSome=true
 | [],h=>by cases h
 |e::l,h=>by
  by_cases q:e.1=k
  ·unfold lk;rw[je,decide_eq_true q];rfl
  ·have:lk (e::l) k=lk l k:=by unfold lk;rw[je,iC q]
   rw[this];rcases List.mem_cons.mp h with z|z
   ·exact io z.symm q
   ·exact xW z
def Fo{x:B0}{c:Int}{r:List Int}:xO x (c::r)=((lk x.rk c).isSome&&xO x r):=by unfold xO;rw[qt]
def RP{x:B0}{c k:Int}{r:List Int}:VC x (c::r) k=(decide (lk x.rk c=↑k)&&VC x r k):=by unfold VC;rw[qt]
def OR{x:B0}{row:List Int}(ok:PD x)(ha:asc row=true)(h:xO x row=true):row.length<=hV:=by have:=w4 (U:=x.rk.map (·.1)) ((By row).mp ha) λc hc=>zh<|List.all_eq_true.mp h c hc;rw[hR]at this;have:=ok.lr;exact v7 q0a
def yy{n:Nat}(h:n<1000):n<hV:=by have z:hV=16777216:=jo;lia
def GP{x:B0}(ok:PD x){c:Int}(h:(lk x.rk c).isSome=true):lk x.bd c=↑(yj x c):=by obtain⟨v,hv⟩:=Option.isSome_iff_exists.mp<|ok.kb c h;unfold yj;rw[hv];rfl
def a04{x:B0}{c:Int}(h:(lk x.rk c).isSome=true):lk x.rk c=↑(VD x c):=by obtain⟨v,e⟩:=Option.isSome_iff_exists.mp h;unfold VD;rw[e];rfl
def v8{K:List d->S->Prop}(e:∀x∈c,∀K:Option d->S->Prop,(if q x=true then K ↑x s else K none s)->b x s K)(h:K (c.filter q) s):Cz b c s K:=by
 refine wx (f:=λx=>if q x=true then some x else none) (λx g K a=>e x g K ?_) (by rw[filterMap_filter];exact h);by_cases z:q x=true
 ·rw[g8 z]at a ⊢;exact a
 ·rw[ci z]at a ⊢;exact a
section
variable{q:Cq}{XL:g9}
noncomputable abbrev Ao:iH:=A6 (top 21) 15
noncomputable abbrev Ap:List Str:=["self","cell"]
def F7:vz ["self","cell"] Ap (vn Ao):=by walk_at "sc"
abbrev wD(q:Cq)(k:Nat):=zk q C "must_stand" Ap (CJ) k
def F8(F:zj q.K "must_stand" "Body.must_stand" Ao f d)(c:AB q.K C)(a:Xc q.K q.mg "NoCell" XC):Gq q 2 f d Ap (CJ):=by
 refine' vB (EL (v9 q0q) (D':=(Bd C true)×Int×Unit) (ms:=[0]) (j:=0) F F7 rfl rfl λe A b s H E g =>
   (vq (vT (tw_dIn .rk true 0 trivial c.cl c.nR (DT g) (ss 1) (pv 0))
   (vq<|CF rfl a)
   vL))) λp i k h=>?_
 walk_at "wl"
 have h:if (67).isSome=true then i () 65 else k XC 65:=h
 cases q:(67).isSome with
 |true=>rw[q]at h;simpa using h
 |false=>rw[q]at h;simpa using h
noncomputable abbrev Bc:iH:=A6 (top 21) 16
noncomputable abbrev Be:List Str:=["self","row"]
def CN:vz ["self","row","cell"] Be (vn Bc):=by walk_at "sc"
abbrev DI(q:Cq)(k:Nat):=zk q C "must_hold" Be (Ba) k
def HX{f:g9}{fd:iW}(F:zj q.K "must_hold" "Body.must_hold" Bc f fd)(ct:AB q.K C)(F9:xE q "must_be_sum" ["row"] (No XS) 2)(xX:wD q 2):Gq q 3 f fd Be (Ba):=by
 refine' vB (EL (v9 q0q) (D':=(Bd C true)×(List Int)×Un×Unit) (ms:=[0]) (j:=1) F CN rfl rfl λTX A outer s H E hr =>
   (vF (ww (vA (vE F9 81)))
   (vq (xC (is:=[]) (mb:=[0]) (D1:=(Bd C true)×(List Int)×Int×Unit) (D2:=(Bd C true)×(List Int)×Int×Unit) (v9 q0q) Az rfl (wO (ss 1)) (vP 2 (vG CN.nd))
   (vq (ww (vA (wu 0 xX 98)))) q0q q0q)))) λp Kn Ke h=>?_
 walk_at "wl"
 have h:if asc p.2.1=true then (if xO p.1 p.2.1=true then Kn () 65 else Ke XC 65) else Ke XS 65:=h;refine#[λha=>?_,λha=>?_]
 ·have ha:asc p.2.1=true:=ha;rw[g8 ha]at h;refine wB (λ(r:List Int)(b:B0×List Int×WL.Un×Unit)=>b.1=p.1/\if xO p.1 r=true then Kn () 65 else Ke XC 65) p.2.1 #[rfl,h] ?_ ?_
  ·rintro c r b _ ⟨e,hb⟩ K2 hK;rw[Fo]at hb;show if (lk b.1.rk c).isSome=true then K2 _ else Ke XC (b.1,#[],());rw[e]
   cases q:(lk p.1.rk c).isSome with
   |false=>rw[q]at hb;simpa using hb
   |true =>
    rw[q,Bool.true_and]at hb;rw[g8 rfl];exact hK _ #[rfl,hb]
  ·rintro b ⟨e,hb⟩;rw[e];exact hb
 ·have ha:asc p.2.1=false:=ha;rw[ci<|by rw[ha];simp]at h;exact h
noncomputable abbrev ym:iH:=A6 (top 21) 17
noncomputable abbrev yo:List Str:=["self","row","rank"]
def zr:vz ["self","row","rank","cell"] yo (vn ym):=by walk_at "sc"
abbrev Di(q:Cq)(k:Nat):=zk q C "must_have_rank" yo (yk) k
def CO{f:g9}{fd:iW}(F:zj q.K "must_have_rank" "Body.must_have_rank" ym f fd)(ct:AB q.K C)(J7:Xc q.K q.mg "OtherRank" XO):Gq q 2 f fd yo (yk):=by
 refine' vB (EL (v9 q0q) (D':=(Bd C true)×(List Int)×Int×Un×Unit) (ms:=[0]) (j:=1) F zr rfl rfl λTX A outer s H E hr =>
   (vq (xC (is:=[]) (mb:=[0]) (D1:=(Bd C true)×(List Int)×Int×Int×Unit) (D2:=(Bd C true)×(List Int)×Int×Int×Unit) (v9 q0q) Az rfl (wO (ss 1)) (vP 3 (vG zr.nd))
   (vq (vT (tw_cm Ct (HE .rk 0 trivial ct.cl ct.nR (DT hr) (pv 0) (wQ 3 (pv 3))) (ss 2))
   (vq<|CF rfl J7)
   vL)) q0q q0q))) λp Kn Ke h=>?_
 walk_at "wl"
 refine wB (λ(r:List Int)(b:B0×List Int×Int×WL.Un×Unit)=>b.1=p.1/\b.2.2.1=p.2.2.1/\xO p.1 r=true/\if VC p.1 r p.2.2.1=true then Kn () 71 else Ke XO 71) p.2.1 #[rfl,rfl,h.1,h.2] ?_ ?_
 ·rintro c r b _ ⟨e1,e2,hi,hb⟩ K2 hK;rw[Fo,iY]at hi;rw[RP]at hb;obtain⟨v,hv⟩:=Option.isSome_iff_exists.mp hi.1;refine#[v,by rw[e1];exact hv,?_];rw[hv]at hb;rw[e2];by_cases q:v=p.2.2.1
  ·rw[ci<|by simp[q]];refine hK _ #[e1,rfl,hi.2,?_];rw[q]at hb;simpa using hb
  ·rw[g8 (by simp[q]),e1];rw[ci<|by simp[q]]at hb;exact hb
 ·rintro b ⟨e1,_,_,hb⟩;rw[e1];exact hb
noncomputable abbrev Bf:iH:=A6 (top 21) 9
abbrev wX:List Str:=["self","row"]
def HY:vz ["self","row"] wX (vn Bf):=by walk_at "sc"
def Ga:(["cell","self"]:List Str).Nodup:=by decide +kernel
abbrev J8(q:Cq)(k:Nat):=zk q C "border_of" wX (yI) k
def HZ{f:g9}{fd:iW}(F:zj q.K "border_of" "Body.border_of" Bf f fd)(ct:AB q.K C)(VE:xE q "total" ["rows"] Nq 3)(J9:DI q 3):Gq q 4 f fd wX (yI):=by
 refine' vB (wN (D':=Unit) (ms:=[0]) (j:=0) F HY rfl rfl λTX A outer s H E hr =>
   (vF (ww (vA (wu 0 J9 81)))
   (vq (vD (vE VE (vr (vV (wZ (Ts:=["cell"]) (Fr:=["self"]) (idx:=[0]) (k:=1) (mb:=[1]) (is:=[]) (cl:=[("self",⇑s+1)]) rfl (wO (ss 1)) T1 rfl (wP rfl) (λs₀ H₀ C ex pn=>(vP 0 (vG Ga))) (λs₀ H₀ C ex pn=>tws_nil) (λs₀ H₀ C ex pn=>(BA 1 ct.cl ct.nB (DT hr) (pv 1) (wQ 0 (pv 0)))))) vp)))))) λp Kn Ke h=>?_
 walk_at "wl"
 obtain⟨ok,h⟩:=h;show if asc p.2.1=true then (if xO p.1 p.2.1=true then _ else Ke XC 65) else Ke XS 65;by_cases ha:asc p.2.1=true
 ·rw[g8 ha]at h ⊢;by_cases hb:xO p.1 p.2.1=true
  ·rw[g8 hb]at h ⊢
   have lkb:∀c∈p.2.1,lk p.1.bd c=↑(yj p.1 c):=λc hc=>by obtain⟨v,hv⟩:=Option.isSome_iff_exists.mp<|ok.kb c<|List.all_eq_true.mp hb c hc;unfold yj;rw[hv];rfl
   refine#[OR ok ha hb,wx (f:=λc=>some<|Tp.mk<|yj p.1 c) (λc hc K hk=>#[yj p.1 c,lkb c hc,hk]) ?_];refine#[zH 0 63,by rw[xu];decide,λr hr=>?_,?_]
   ·obtain⟨c,hc,e⟩:=List.mem_filterMap.mp hr;cases e;obtain⟨g1,g2⟩:=ok.bo c _<|lkb c hc;exact⟨g1,λx hx=>BB (g2 x hx).1 (g2 x hx).2⟩
   ·have e:((p.2.1.filterMap λc=>some<|Tp.mk<|yj p.1 c).map (·.l))=p.2.1.map (yj p.1):=by rw[show (λc=>some<|Tp.mk<|yj p.1 c)=some∘(λc=>Tp.mk<|yj p.1 c) from rfl,List.filterMap_eq_map,lN];rfl
    rw[e];exact h
  ·rw[ci hb]at h ⊢;exact h
 ·rw[ci ha]at h ⊢;exact h
noncomputable abbrev H0:iH:=A6 (top 21) 4
noncomputable abbrev zt:List Str:=["self"]
def RQ:vz ["self"] zt (vn H0):=by walk_at "sc"
abbrev Ia(q:Cq)(k:Nat):=zk q C "cells" zt (Ek) k
def RS(F:zj q.K "cells" "Body.cells" H0 f d)(b:AB q.K C)(B:Bn q.mg):Gq q 2 f d zt (Ek):=by
 refine' vB (wN (D':=Unit) (ms:=[0]) (j:=0) F RQ rfl rfl λe A a s H E g =>
   (vq (vD (B5 .rk 0 trivial b.cl b.nR rfl rfl B.sorted (pv 0))))) λp i k h=>?_
 walk_at "wl"
 obtain⟨c,h⟩:=h;exact#[c.lr,by rw[<- EM (o7 _) c.ri];exact h]
abbrev Ib:iH:=A6 (top 21) 8
abbrev zu:List Str:=["self","cell"]
def RT:vz ["self","cell"] zu (vn Ib):=by walk_at "sc"
def OS:(["high","cell","self"]:List Str).Nodup:=by decide +kernel
abbrev VF(q:Cq)(k:Nat):=zk q C "over" zu (HV) k
def RU(F:zj q.K "over" "Body.over" Ib f x)(l:AB q.K C)(a:wD q 3)(b:Ia q 3):Gq q 4 f x zu (HV):=by
 refine' vB (wN (D':=Unit) (ms:=[0]) (j:=0) F RT rfl rfl λy A m s H E o =>
   (vF (ww (vA (wu 0 a 81)))
   (vq (vD (wZ (Ts:=["high"]) (Fr:=["cell","self"]) (idx:=[1,0]) (k:=1) (mb:=[1,2]) (is:=[]) (cl:=[("self",⇑s+1),("cell",⇑s+1+1)]) rfl (wO (vV (zq 0 b o l.cl xM (pv 0)))) Zz rfl (wP rfl) (λc d C r t=>(vP 0 (vG (i:=0) OS rfl (ku rfl)) q0q)) (λc d C r t=>(tws_one (tw_inT (ss 1) (BA 2 l.cl l.nB (DT o) (pv 2) (wQ 0 (pv 0))) (by with_unfolding_all rfl)))) (λc d C r t=>(ss 0))))))) λp D z h=>?_
 walk_at "wl"
 obtain⟨n,h⟩:=h;show if (67).isSome=true then _ else z XC 65;by_cases u:(67).isSome=true
 ·rw[g8 u]at h ⊢;refine#[n,?_,?_]
  ·show (p.1.rk.map (·.1)).length<=hV;rw[hR];have:=n.lr;exact v7 q0d
  ·refine wx (f:=λk=>if decide (p.2.1∈yj p.1 k)=true then some k else none) (λk B K g=>?_) ?_
   ·obtain⟨v,w⟩:=Option.isSome_iff_exists.mp<|n.kb k<|xW B;have e:yj p.1 k=v:=by unfold yj;rw[w];rfl
    refine#[v,w,?_];rw[e]at g;show if decide (p.2.1∈v)=true then _ else _;by_cases q:decide (p.2.1∈v)=true
    ·rw[g8 q]at g ⊢;exact g
    ·rw[ci q]at g ⊢;exact g
   ·rw[filterMap_filter];exact h
 ·rw[ci u]at h ⊢;exact h
noncomputable abbrev RV:iH:=A6 (top 21) 1
noncomputable abbrev DJ:List Str:=["self","rank","border"]
def RX:vz ["self","rank","border","cell"] DJ (vn RV):=by walk_at "sc"
abbrev Xf(q:Cq)(k:Nat):=zk q C "put" DJ (J5) k
def Y4(F:zj q.K "put" "Body.put" RV f R)(o:AB q.K C)(e:DI q 5)(b:Di q 5)(g:J8 q 5)(k:Xc q.K q.mg "BadRank" XB)(t:Xc q.K q.mg "Full" XF0)(c:Xc q.K q.mg "OpenBorder" XP)(d:q.mg "MOST_CELLS"=↑(.int 120 r))(i:q.mg "TOP_RANK"=↑(.int 12 u))(B:Bn q.mg):Gq q 6 f R DJ (J5):=by
 refine' vB (wN (D':=Unit) (ms:=[0]) (j:=1) F RX rfl rfl λS A I s H E O =>
   (vF (vT (tw_w (xU (tw_cm QN (ss 1) vv) (xJ (tw_cm W2 (ss 1) (Rf rfl i)))))
   (vq<|CF rfl k)
   vL)
   (vF (ww (vA (wu 0 e 98)))
   (vF (ww (vA (wu 0 b (vr (ss 2) (vr (Af G6 (ss 1) vv) vp)))))
   (vF (vT (tw_trueO (wu 0 g 98))
   (vq<|CF rfl c)
   vL)
   (vF (vT (tw_cm W3 (U4 .rk 0 trivial o.cl o.nR rfl B.len (pv 0)) (Rf rfl d))
   (vq<|CF rfl t)
   vL)
   (vF (vK 3 RX.nd (vH (W9 0 o.cl o.nU (pv 0))))
   (vF (HF .rk 0 trivial o.cl o.nR (DT O) (pv 0) (wQ 3 (pv 3)) (ss 1))
   (vF (U5 0 o.cl o.nB (DT O) (pv 0) (wQ 3 (pv 3)) (U7 rfl B.tuple (v6 (ss 2))))
   (vF (a0G 0 o.cl o.nU (pv 0) (Af AK (ss 3) vv))
   (vq (vD (vH (ss 3)))))))))))))) λp P m h=>?_
 walk_at "wl"
 obtain⟨J,L,h⟩:=h
 have M:(if asc p.2.2.1=true then (if xO p.1 p.2.2.1=true then (if VC p.1 p.2.2.1 (p.2.1-1)=true then
  (if PB (p.2.2.1.map (yj p.1))=[] then P p.1.up ({ p.1 with rk:=pk p.1.rk p.1.up p.2.1,bd:=pk p.1.bd p.1.up p.2.2.1,up:=p.1.up+1},#[],#[],()) else m XP 71) else m XO 71) else m XC 71) else m XS 71) ->
  Ba (p.1,p.2.2.1,()) (λy v=>yk (v.1,p.2.2.1,p.2.1-1,()) (λy w=>yI (w.1,p.2.2.1,()) (λy a =>
   if (!y.l.isEmpty)=true then m XP (a.1,#[],#[],()) else if decide (120<=(a.1.rk.length:Int))=true then m XF0 (a.1,#[],#[],()) else a.1.rk.length<hV/\a.1.bd.length<hV/\lk a.1.bd a.1.up=none /\
    P a.1.up ({ a.1 with rk:=pk a.1.rk a.1.up p.2.1,bd:=pk a.1.bd a.1.up p.2.2.1,up:=a.1.up+1},#[],#[],()))
   λn v=>m n (v.1,#[],#[],())) λn v=>m n (v.1,#[],#[],())) λn v=>m n (v.1,#[],#[],()):=by
  intro h;show if asc p.2.2.1=true then (if xO p.1 p.2.2.1=true then _ else m XC 71) else m XS 71;by_cases N:asc p.2.2.1=true
  ·rw[g8 N]at h ⊢;by_cases x:xO p.1 p.2.2.1=true
   ·rw[g8 x]at h ⊢;refine#[x,?_];by_cases Q:VC p.1 p.2.2.1 (p.2.1-1)=true
    ·rw[g8 Q]at h ⊢;refine#[J,?_];rw[g8 N,g8 x];by_cases hd:PB (p.2.2.1.map<|yj p.1)=[]
     ·rw[g8 hd]at h;have T:=J.lr;have U:=J.lb;have z:hV=16777216:=jo;rw[hd,ci q0o,ci<|by simp;lia];exact#[(by show p.1.rk.length<hV;lia),(by show p.1.bd.length<hV;lia),L,h]
     ·rw[ci hd]at h;rw[g8<|by simpa using hd];exact h
    ·rw[ci Q]at h ⊢;exact h
   ·rw[ci x]at h ⊢;exact h
  ·rw[ci N]at h ⊢;exact h
 by_cases D:p.2.1<0
 ·rw[g8<|decide_eq_true D,g8 rfl];rw[g8<|.inl D]at h;exact h
 ·rw[ci<|by simpa using D];by_cases G:12<p.2.1
  ·rw[g8<|decide_eq_true G];rw[g8<|.inr G]at h;exact h
  ·rw[ci<|by simpa using G];rw[ci (by intro z;rcases z with z|z;exact D z;exact G z)]at h;exact M h
noncomputable abbrev LI:iH:=A6 (top 21) 2
abbrev Bh:List Str:=["self","cell"]
def VG:vz ["self","cell"] Bh (vn LI):=by walk_at "sc"
def VH(F:zj q.K "take" "Body.take" LI f m)(d:AB q.K C)(c:VF q 5)(b:Xc q.K q.mg "Covered" XV):Gq q 6 f m Bh (HW):=by
 refine' vB (EL (v9 q0q) (D':=(Bd C true)×Int×Unit) (ms:=[0]) (j:=0) F VG rfl rfl λn A g s H E t =>
   (vF (vT (tw_trueO (wu 0 c 81))
   (vq<|CF rfl b)
   vL)
   (vF (Nb .rk 0 trivial d.cl d.nR (pv 0) (wQ 1 (pv 1)) (λi k=>Hf i k))
   (vq (U6 0 d.cl d.nB (pv 0) (wQ 1 (pv 1)) (λi k=>Hf i k)))))) λp u o h=>?_
 walk_at "wl"
 obtain⟨l,h⟩:=h;refine#[l,?_];show if (67).isSome=true then _ else o XC 65;by_cases e:(67).isSome=true
 ·rw[g8 e]at h ⊢
  cases q:Y3 p.1 p.2.1 with
  |nil =>
   rw[q,g8 rfl]at h;exact#[e,l.kb _ e,h]
  |cons a r =>
   rw[q,ci q0o]at h;exact h
 ·rw[ci e]at h ⊢;exact h
abbrev Fp:iH:=A6 (top 21) 3
abbrev yJ:List Str:=["self","cell"]
def OT:vz ["self","cell"] yJ (vn Fp):=by walk_at "sc"
abbrev RY(q:Cq)(k:Nat):=zk q C "stands" yJ (CK) k
def OU(F:zj q.K "stands" "Body.stands" Fp f c)(b:AB q.K C):Gq q 2 f c yJ (CK):=by
 refine' vB (wN (D':=Unit) (ms:=[0]) (j:=0) F OT rfl rfl λd A a s H E e =>
   (vq (vD (vH (Lq .rk false 0 trivial b.cl b.nR (DT e) (ss 1) (pv 0)))))) λp g i h=>?_
 walk_at "wl"
 exact h
abbrev Fq:iH:=A6 (top 21) 5
abbrev yK:List Str:=["self"]
def OV:vz ["self"] yK (vn Fq):=by walk_at "sc"
abbrev RZ(q:Cq)(k:Nat):=zk q C "coming" yK (CL) k
def OX(F:zj q.K "coming" "Body.coming" Fq f c)(b:AB q.K C):Gq q 2 f c yK (CL):=by
 refine' vB (wN (D':=Unit) (ms:=[0]) (j:=0) F OV rfl rfl λd A a s H E e =>
   (vq (vD (vH (W9 0 b.cl b.nU (pv 0)))))) λp g i h=>?_
 walk_at "wl"
 exact h
abbrev Ic:iH:=A6 (top 21) 6
abbrev zv:List Str:=["self","cell"]
def R6:vz ["self","cell"] zv (vn Ic):=by walk_at "sc"
abbrev VI(q:Cq)(k:Nat):=zk q C "rank" zv (CM) k
def R7(F:zj q.K "rank" "Body.rank" Ic f e)(c:AB q.K C)(a:wD q 2):Gq q 3 f e zv (CM):=by
 refine' vB (wN (D':=Unit) (ms:=[0]) (j:=0) F R6 rfl rfl λg A b s H E i =>
   (vF (ww (vA (wu 0 a 81)))
   (vq (vD (vH (HE .rk 0 trivial c.cl c.nR (DT i) (pv 0) (wQ 1 (pv 1)))))))) λp k d h=>?_
 walk_at "wl"
 have h:if (67).isSome=true then k (VD p.1 p.2.1) 65 else d XC 65:=h;show if (67).isSome=true then _ else d XC 65;by_cases q:(67).isSome=true
 ·rw[g8 q]at h ⊢;exact#[_,a04 q,h]
 ·rw[ci q]at h ⊢;exact h
noncomputable abbrev Ft:iH:=A6 (top 21) 7
abbrev yL:List Str:=["self","cell"]
def OY:vz ["self","cell"] yL (vn Ft):=by walk_at "sc"
abbrev R8(q:Cq)(k:Nat):=zk q C "border" yL (Bb) k
def OZ{f:g9}{fd:iW}(F:zj q.K "border" "Body.border" Ft f fd)(ct:AB q.K C)(xX:wD q 2)(B:Bn q.mg):Gq q 3 f fd yL (Bb):=by
 refine' vB (wN (D':=Unit) (ms:=[0]) (j:=0) F OY rfl rfl λTX A outer s H E hr =>
   (vF (ww (vA (wu 0 xX 81)))
   (vq (vD (Re rfl B.list (BA 0 ct.cl ct.nB (DT hr) (pv 0) (wQ 1 (pv 1)))))))) λp Kn Ke h=>?_
 walk_at "wl"
 obtain⟨ok,h⟩:=h;show if (67).isSome=true then _ else Ke XC 65;by_cases q:(67).isSome=true
 ·rw[g8 q]at h ⊢;exact#[_,GP ok q,h]
 ·rw[ci q]at h ⊢;exact h
end
noncomputable def wy(x:B0)(c:Int):Bool:=(lk x.ht c).isSome||(lk x.th c).isSome
noncomputable def BN(x:B0)(low high:Int):List Int:=(yj x high).filter λf=>decide (f≠low)&&(lk x.ht f).isSome
noncomputable def wW(x:B0)(t:Int):Int:=(lk x.ht t).getD 0
noncomputable def w9(x:B0):List Int:=x.ht.map (·.1)
def VJ(x:B0):Prop:=∃r:Int->Nat,∀l∈w9 x,∀t∈BN x l (wW x l),r l<r t
structure Fv(x:B0):Prop where
 ok:PD x
 nd:(w9 x).Nodup
 len:x.ht.length<64
 Y5:x.th.length<64
 ht:∀l h,lk x.ht l=↑h->(lk x.rk l).isSome=true/\(lk x.rk h).isSome=true/\l∈yj x h/\lk x.th h=↑l
 th:∀l h,lk x.th h=↑l->lk x.ht l=↑h
 one:∀c,(lk x.ht c).isSome=true->(lk x.th c).isSome=true->False
 acy:VJ x
noncomputable def AE(x:B0)(low high:Int):B0:={ x with ht:=pk x.ht low high,th:=pk x.th high low}
def GQ:Wf (B0×Int×Unit) Bool (B0×Un×Unit):=λp a _=>a (wy p.1 p.2.1) 65
def Ie:Wf (B0×Int×Int×Unit) (OL Int) (B0×Un×Un×Unit):=λp a _ =>
 (lk p.1.bd p.2.2.1).isSome=true/\(yj p.1 p.2.2.1).length<=hV/\a #[BN p.1 p.2.1 p.2.2.1] 71
def Nt:Wf (B0×Unit) (OL Int) (B0×Unit):=λp a _=>p.1.ht.length<64/\(w9 p.1).Nodup/\a #[zD<|w9 p.1] (p.1,())
def Ka:Wf (B0×Unit) (OL<|Int×Int) (B0×Unit):=λp a _=>p.1.ht.length<64/\(w9 p.1).Nodup/\a #[(zD<|w9 p.1).map λl=>(l,wW p.1 l)] (p.1,())
def GR :B0×Int×Unit->(Option Int->B0×Un×Unit->Prop)->105->Prop:=λp a b =>
 if (67).isSome=true then a (lk p.1.ht p.2.1) 65 else b XC 65
def El :B0×Int×Unit->(Int->B0×Un×Unit->Prop)->105->Prop:=λp b a =>
 Fv p.1/\if (67).isSome=true then (if (lk p.1.ht p.2.1).isSome=true then b (wW p.1 p.2.1) ({ p.1 with ht:=dk p.1.ht p.2.1,th:=dk p.1.th (wW p.1 p.2.1)},#[],()) else a XN 65) else a XC 65
def zS:Wf (Dc (Option Int)×Int×Unit) (OL Int) (Dc (Option Int)×Un×Unit):=λp a _ =>
 (∃m:Int->Nat,(∀k,m k<1000)/\(lk p.1.l p.2.1).isSome=true/\∀k e,lk p.1.l k=↑(some e)->(lk p.1.l e).isSome=true/\m e<m k)/\∀r:List Int,r≠[]->a #[r] 65
def DL:Wf (B0×Int×Int×Unit) (OL Int) (B0×Un×Un×Unit):=λp a _ =>
 Fv p.1/\(lk p.1.rk p.2.2.1).isSome=true/\wy p.1 p.2.1=false/\wy p.1 p.2.2.1=false/\∀r:List Int,(r=[]↔VJ (AE p.1 p.2.1 p.2.2.1))->a #[r] 71
def Nu :B0×Int×Int×Unit->(Unit->B0×Un×Un×Unit->Prop)->(g9->B0×Un×Un×Unit->Prop)->Prop:=λp e a =>
 Fv p.1/\if (67).isSome=true then (if (lk p.1.rk p.2.2.1).isSome=true then (if p.2.1∈yj p.1 p.2.2.1 then (if wy p.1 p.2.1=true\/wy p.1 p.2.2.1=true then a XT 71
  else (¬VJ (AE p.1 p.2.1 p.2.2.1)->a XR 71)/\(VJ (AE p.1 p.2.1 p.2.2.1)->e () (AE p.1 p.2.1 p.2.2.1,#[],#[],()))) else a XF 71) else a XC 71) else a XC 71
structure Ord(x:B0)(o:List Int):Prop where
 pm:o.Perm (w9 x)
 up:o.Pairwise λa b=>a∉BN x b (wW x b)
def a1J:Wf (B0×Unit) (OL Int) (B0×Unit):=λp a _=>Fv p.1/\∀o,Ord p.1 o->a #[o] (p.1,())
noncomputable def a4p(x:B0)(s:List Int×List Int)(t:Int):List Int×List Int:=if t∈s.1 then (xr s.1<|yj x<|wW x t,s.2++[wW x t]) else s
def xF{j:Int}:lk (e::l) j=if e.1=j then some e.2 else lk l j:=by
 by_cases q:e.1=j
 ·rw[g8 q];unfold lk;rw[je,decide_eq_true q];rfl
 ·rw[ci q];unfold lk;rw[je,iC q]
def LJ{k j:Int}:∀{l:List (Int×c)},lk l k=none->lk (l++[(k,v)]) j=if j=k then some v else lk l j:=by
 intro b
 induction b with
 |nil =>
  intro _;rw[List.nil_append,xF];by_cases q:j=k
  ·rw[g8 q,g8 q.symm]
  ·rw[ci q,ci<|λz=>q z.symm]
 |cons e l a =>
  intro h;rw[xF]at h;by_cases z:e.1=k
  ·rw[g8 z]at h;cases h
  ·rw[ci z]at h;rw[List.cons_append,xF,xF,a h];by_cases q:e.1=j
   ·rw[g8 q,g8 q,ci<|λw=>z<|q.trans w]
   ·rw[ci q,ci q]
def Aq{k:Int}(h:lk l k=none):pk l k v=l++[(k,v)]:=by unfold pk;rw[h];rfl
def zw{k j:Int}:∀{l:List (Int×d)},lk (dk l k) j=if j=k then none else lk l j:=by
 intro c
 induction c with
 |nil=>unfold dk;rw[List.filter_nil];split<;>rfl
 |cons e l a =>
  have b:=a;unfold dk at b ⊢;rw[jw];by_cases z:e.1=k
  ·rw[ci (by simpa using z),b,xF];by_cases q:j=k
   ·rw[g8 q,g8 q]
   ·rw[ci q,ci q,ci<|λw=>q<|w.symm.trans z]
  ·rw[g8 (by simpa using z),xF,xF,b];by_cases q:e.1=j
   ·rw[g8 q,g8 q,ci<|λw=>z<|q.trans w]
   ·rw[ci q,ci q]
def Y6{k j:Int}:∀{l:List (Int×c)},lk (l.map λe=>if e.1=k then (e.1,v) else e) j=if j=k then (if (lk l k).isSome=true then some v else none) else lk l j:=by
 intro b
 induction b with
 |nil=>simp[lk]
 |cons e l a =>
  rw[iI,xF,a,xF,xF];by_cases z:e.1=k
  ·rw[g8 z,g8 z];by_cases q:j=k
   ·subst q;simp[z]
   ·have:¬e.1=j:=λw=>q<|w.symm.trans z;simp[q,this]
  ·rw[ci z,ci z];by_cases q:e.1=j
   ·have:¬j=k:=λw=>z<|q.trans w;simp[q,this]
   ·simp[q]
def yb{k j:Int}:lk (pk l k v) j=if j=k then some v else lk l j:=by
 unfold pk
 cases q:(lk l k).isSome with
 |true=>rw[g8 rfl,Y6,q];simp
 |false =>
  rw[ci q0o,LJ<|by simpa using q]
def Nv{a:Type}{l:List (Int×a)}{k:Int}(h:k∉l.map (·.1)):lk l k=none:=by
 cases e:lk l k with
 |none=>rfl
 |some v=>exact io (zh<|by rw[e];rfl) h
def xY{a:Type}{k:Int}{l:List (Int×a)}:(lk l k).isSome=true↔k∈l.map (·.1):=#[zh,xW]
def VL{c t:Int}:∀{l:List Int},t∈l->lk (l.map λk=>(k,c)) t=↑c
 |a::l,h=>by
  rw[iI,xF];by_cases q:a=t
  ·rw[g8 q]
  ·rw[ci q];exact VL<|(List.mem_cons.mp h).elim (λz=>io z.symm q) id
def DM{b:Type}{p q:b->Bool}(h:∀t,q t=true->p t=true):∀{l:List b},(l.filter q).length<=(l.filter p).length
 | []=>hO _
 |a::l=>by
  have:=DM h (l:=l);rw[jw,jw];by_cases z:q a=true
  ·rw[g8 z,g8<|h a z];simpa using this
  ·rw[ci z];split<;>simp<;>lia
def filter_lt{b:Type}{p q:b->Bool}(h:∀t,q t=true->p t=true){x:b}(c:p x=true)(d:q x=false):∀{l:List b},x∈l->(l.filter q).length+1<=(l.filter p).length
 |a::l,m=>by
  rw[jw,jw];rcases List.mem_cons.mp m with z|z
  ·subst z;rw[d,c,ci q0o,g8 rfl];have:=DM h (l:=l);simp;lia
  ·have:=filter_lt h c d z;by_cases w:q a=true
   ·rw[g8 w,g8<|h a w];simp;lia
   ·rw[ci w];split<;>simp<;>lia
def R9{r:Int->Nat}{t:Int}:∀{l:List Int},t∈l->r t<=(l.map r).sum
 |a::l,h=>by
  rw[iI,List.sum_cons];rcases List.mem_cons.mp h with z|z
  ·rw[z];lia
  ·have:=R9 (r:=r) z;lia
section
variable{x:B0}
def xn{l:Int}(h:l∈w9 x):lk x.ht l=↑(wW x l):=by obtain⟨v,e⟩:=Option.isSome_iff_exists.mp<|xW h;unfold wW;rw[e];rfl
def xv{l h t:Int}:t∈BN x l h↔t∈yj x h/\t≠l/\t∈w9 x:=by unfold BN w9;rw[jX,iY,i4,xY]
def Fv.TZ(a:Fv x){l:Int}(h:l∈w9 x):(lk x.rk<|wW x l).isSome=true:=(a.ht l _<|xn h).2.1
def Fv.bl(a:Fv x){c:Int}(h:(lk x.rk c).isSome=true):(yj x c).length<=hV:=by
 have:=(a.ok.bo c _<|GP a.ok h);have:=w4 (U:=zH 0 63) this.1 λk b=>BB (this.2 k b).1 (this.2 k b).2;have e:(zH 0 63).length=63:=by decide
 exact v7 q0a
def VM{low high:Int}{V:List Int}(v:Fv x)(o:low∉w9 x)(f:low∈V)(D:∀k∈V,k≠low->k∈w9 x)
 (p:∀k∈V,(k≠low->low∉yj x (wW x k))/\∀t∈BN x k (if k=low then high else wW x k),t∈V):VJ 99:=by
  obtain⟨r,u⟩:=v.acy
  have c:∀{t:Int},t∈w9 99↔t=low\/t∈w9 x:=λ{t}=>by
    show t∈(pk x.ht low high).map (·.1)↔_
    rw[<- xY,yb]
    by_cases q:t=low
    · simp[q]
    · rw[ci q, xY]; simp[q, w9]
  have y:∀l,wW 99 l=if l=low then high else wW x l:=λl=>by
    unfold wW AE
    rw[yb]
    split<;>rfl
  have A:∀{l h t:Int},t∈BN 99 l h↔t∈yj x h/\t≠l/\(t=low\/t∈w9 x):=λ{l h t}=>by
    rw[xv,c];exact Iff.rfl
  refine#[λt=>if t∈V then (if t=low then ((w9 x).map r).sum+1 else ((w9 x).map r).sum+2+r t) else r t,λl g t a=>?_]
  rw[y]at a
  have a:=A.mp a
  have i:∀k,k∈w9 x->r k<=((w9 x).map r).sum:=λk B=>R9 B
  dsimp only
  by_cases b:l=low
  · subst b
    rw[g8 rfl]at a
    rw[g8 f,g8 rfl]
    have C:t∈w9 x:=a.2.2.elim (λz=>io z a.2.1) id
    have e:t∈V:=(p l f).2 t (by rw[g8 rfl];exact xv.mpr #[a.1,a.2.1,C])
    rw[g8 e,ci a.2.1]
    lia
  · rw[ci b]at a
    have j:l∈w9 x:=(c.mp g).elim (λz=>io z b) id
    by_cases m:l∈V
    · rw[g8 m, ci b]
      have d:=p l m
      rw[ci b]at d
      rcases a.2.2 with z|z
      · rw[z]at a; exact io a.1<|d.1 b
      · have s : t ∈ BN x l (wW x l) := xv.mpr #[a.1, a.2.1, z]
        have:=u l j t s
        have n:t≠low:=λw=>o<|w▸z
        rw[g8<|d.2 t s,ci n]
        lia
    · rw[ci m]
      have:=i l j
      rcases a.2.2 with z|z
      · subst z
        rw[g8 f,g8 rfl]
        lia
      · have s : t ∈ BN x l (wW x l) := xv.mpr #[a.1, a.2.1, z]
        have:=u l j t s
        have n:t≠low:=λw=>o<|w▸z
        by_cases e:t∈V
        · rw[g8 e, ci n]; lia
        · rw[ci e]; lia
noncomputable def O0(x:B0)(e:List (Int×Option Int)):Nat:=((w9 x).filter λt=>!(lk e t).isSome).length
structure Rw(x:B0)(low:Int)(e:List (Int×Option Int))(ws:List Int)(D:Int->List (Int×Option Int)->Prop):Prop where
 lo:(lk e low).isSome=true
 tl:∀k,(lk e k).isSome=true->k≠low->k∈w9 x
 wk:∀k∈ws,(lk e k).isSome=true
 dn:∀k,(lk e k).isSome=true->k∉ws->D k e
 ch:∃mm:Int->Nat,(∀k,mm k<=e.length)/\∀k t,lk e k=↑(some t)->(lk e t).isSome=true/\mm t<mm k
 sz:e.length+O0 x e<=64
def Rw.add{low:Int}{a t0:Int}(R:Rw x low e p D)(m:a∈w9 x)(d:lk e a=none)(i:(lk e t0).isSome=true)(b:∀k,(lk e k).isSome=true->D k e->D k (pk e a<|↑t0)) :
  Rw x low (pk e a<|↑t0) (p++[a]) D/\O0 x (pk e a<|↑t0)+1<=O0 x e:=by
 have r:O0 x (pk e a<|↑t0)+1<=O0 x e:=by
  refine filter_lt (x:=a) (λt h=>?_) (by rw[d];rfl) (by rw[yb,g8 rfl];rfl) m;rw[yb]at h;by_cases q:t=a
  ·rw[g8 q]at h;simp at h
  ·rw[ci q]at h;exact h
 have f:∀k,(lk e k).isSome=true->(lk (pk e a<|some t0) k).isSome=true:=λk h=>by
  rw[yb];split
  ·rfl
  ·exact h
 have j:∀k,k≠a->lk (pk e a<|some t0) k=lk e k:=λk h=>by rw[yb,ci h]
 have c:(pk e a<|↑t0).length=e.length+1:=by rw[Aq d];simp
 refine#[#[f _ R.lo,λk h n=>?_,λk h=>?_,λk h n=>?_,?_,by rw[c];have:=R.sz;lia],r]
 ·by_cases q:k=a
  ·rw[q];exact m
  ·rw[j k q]at h;exact R.tl k h n
 ·rcases List.mem_append.mp h with z|z
  ·exact f _<|R.wk k z
  ·rw[List.mem_singleton.mp z,yb,g8 rfl];rfl
 ·have q:k≠a:=λz=>n (by rw[z];simp);rw[j k q]at h;exact b k h<|R.dn k h λz=>n<|i8 _ z
 ·obtain⟨s,o,u⟩:=R.ch;refine#[λk=>if k=a then e.length+1 else s k,λk=>?_,λk t h=>?_]
  ·rw[c];dsimp only;split
   ·exact hO _
   ·have:=o k;lia
  ·by_cases q:k=a
   ·rw[q,yb,g8 rfl]at h;injection h with h;injection h with h;subst h;have l:t0≠a:=λz=>by rw[z,d]at i;cases i
    refine#[f _ i,?_];dsimp only;rw[g8 q,ci l];have:=o t0;lia
   ·rw[j k q]at h;have g:=u k t h;have l:t≠a:=λz=>by rw[z,d]at g;cases g.1
    refine#[f _ g.1,?_];dsimp only;rw[ci q,ci l];exact g.2
def Nx(x:B0)(low high:Int)(k:Int)(e:List (Int×Option Int)):Prop:=(k≠low->low∉yj x (wW x k))/\∀t∈BN x k (if k=low then high else wW x k),(lk e t).isSome=true
def Sc{low high:Int}(b:Fv x):Rw x low [(low,none)] [low] (Nx x low high):=by
 have a:∀k,(lk ([(low,none)]:List (Int×Option Int)) k).isSome=true->k=low:=λk h=>by have:=zh h;simpa using this
 refine#[xW q0o,λk h n=>io (a k h) n,λk h=>xW (by simpa using h),λk h n=>io (a k h) (by simpa using n),#[λ_=>0,λ_=>jl _,λk t h=>?_],?_]
 ·rw[xF]at h;by_cases q:low=k
  ·rw[g8 q]at h;cases h
  ·rw[ci q]at h;cases h
 ·have:=b.len;have g:O0 x [(low,none)]<=(w9 x).length:=iF _ _;have e:(w9 x).length=x.ht.length:=hR _;simp only[iB]
  lia
def a23{low:Int}(i:Fv x):2*O0 x [(low,none)]+[low].length<=200:=by have:=i.len;have g:O0 x [(low,none)]<=(w9 x).length:=iF _ _;have e:(w9 x).length=x.ht.length:=hR _;simp only[iB];omega
def Rc(x:B0)(low high:Int)(e:List (Int×Option Int)):Prop:=∀R:Int->Nat,(∀l∈w9 99,∀t∈BN 99 l (wW 99 l),R l<R t)->∀k,(lk e k).isSome=true->R low<=R k
def Sd{low high:Int}:Rc x low high [(low,none)]:=λR _ k a=>by have:=zh a;rw[iI,o9,mK]at this;rw[this];exact hO _
def Xg{low high y t:Int}{R:Int->Nat}(a:∀l∈w9 99,∀t∈BN 99 l (wW 99 l),R l<R t)(b:y≠low->y∈w9 x)(c:t∈yj x (if y=low then high else wW x y))(n:t≠y)(ht:t=low\/t∈w9 x):R y<R t:=by
 have mem:∀{t:Int},t∈w9 99↔t=low\/t∈w9 x:=λ{t}=>by
  show t∈(pk x.ht low high).map (·.1)↔_;rw[<- xY,yb];by_cases q:t=low
  ·simp[q]
  ·rw[ci q,xY];simp[q,w9]
 have hd:wW 99 y=if y=low then high else wW x y:=by unfold wW AE;rw[yb];split<;>rfl
 refine a y (mem.mpr ?_) t<|xv.mpr #[?_,n,mem.mpr ht]
 ·by_cases q:y=low
  ·exact .inl q
  ·exact .inr<|b q
 ·rw[hd];exact c
def Rc.add{low high y t:Int}(r:Rc x low high e)(f:(lk e y).isSome=true)(g:y≠low->y∈w9 x)(h:t∈BN x y (if y=low then high else wW x y)):Rc x low high (pk e t v):=λR c k d=>by
 rw[yb]at d;by_cases q:k=t
 ·have s:=xv.mp h;have a:=r R c y f;have b:=Xg c g s.1 s.2.1<|.inr s.2.2;rw[q];omega
 ·rw[ci q]at d;exact r R c k d
def Rc.fin{low high y:Int}(r:Rc x low high e)(f:y∈w9 x)(n:y≠low)(g:(lk e y).isSome=true)(h:low∈yj x (wW x y)):¬VJ 99:=λ⟨R,d⟩=>by have a:=r R d y g;have b:=Xg d (y:=y) (t:=low) (λ_=>f) (by rw[ci n];exact h) (λz=>n z.symm)<|.inl rfl;omega
/-! the order of the c -/
noncomputable def PF(x:B0)(a:List Int):List Int:=(w9 x).filter λt=>decide<|t∉a
noncomputable def cnt(x:B0)(a:List Int)(t:Int):Int:=((a.filter λl=>decide<|t∈BN x l (wW x l)).length:Int)
def zx{t:Int}:t∈PF x a↔t∈w9 x/\t∉a:=by unfold PF;rw[jX,i4]
def cnt_cons{l t:Int}:cnt x (l::a) t=cnt x a t+if t∈BN x l (wW x l) then 1 else 0:=by
 unfold cnt;rw[jw];by_cases q:t∈BN x l (wW x l)
 ·rw[g8<|decide_eq_true q,g8 q];simp
 ·rw[ci (by simpa using q),ci q];simp
def Sg{a:List Int}{t:Int}(h:a.Perm b):cnt x a t=cnt x b t:=by unfold cnt;rw[(h.filter _).length_eq]
def Y7{t:Int}:0<=cnt x a t:=by unfold cnt;lia
def Sh{t:Int}(h:cnt x a t=0):∀l∈a,t∉BN x l (wW x l):=λl b q=>by unfold cnt at h;have:(a.filter λl=>decide<|t∈BN x l (wW x l))=[]:=List.length_eq_zero_iff.mp q0a;have m:l∈(a.filter λl=>decide<|t∈BN x l (wW x l)):=List.mem_filter.mpr #[b,decide_eq_true q];rw[this]at m;cases m
def Ny{t:Int}(h:cnt x a t≠0):∃l∈a,t∈BN x l (wW x l):=by
 unfold cnt at h
 cases e:(a.filter λl=>decide<|t∈BN x l (wW x l)) with
 |nil=>rw[e]at h;exact io rfl h
 |cons l r =>
  have m:l∈(a.filter λl=>decide<|t∈BN x l (wW x l)):=by rw[e];exact h8
  have:=List.mem_filter.mp m;exact#[l,this.1,jY this.2]
def LK{a b:List Int}(h:a.Nodup)(c:b.Nodup)(s:∀k∈a,k∈b):a.length<=b.length:=by
 have p:a.Perm (b.filter λk=>decide<|k∈a):=wJ h (c.filter _) λk=>by rw[jX,i4];exact#[λz=>#[s k z,z],λz=>z.2]
 rw[p.length_eq];exact iF _ _
def VN{a:Type}{l:List (Int×a)}{k:Int}{v:a}(h:(lk l k).isSome=true):(pk l k v).map (·.1)=l.map (·.1):=by unfold pk;rw[g8 h,lN];refine mE λe _=>?_;dsimp only[uW];split<;>rfl
structure Kh(x:B0)(u:List (Int×Int))(ready told r2:List Int):Prop where
 ks:u.map (·.1)=w9 x
 nd:(told++ready).Nodup
 st:∀t∈told++ready,t∈w9 x
 ct:∀t∈w9 x,lk u t=↑(cnt x (PF x told) t+if t∈r2 then 1 else 0)
 rd:∀t∈w9 x,t∉told->(t∈ready↔cnt x (PF x told) t+(if t∈r2 then 1 else 0)=0)
 bk:∀a∈told,∀l∈w9 x,l∉told->a∉BN x l (wW x l)
 od:told.Pairwise λa b=>a∉BN x b (wW x b)
def VO{y:Int}(b:Fv x)(c:y∈w9 x)(d:y∉a):(PF x a).Perm (y::PF x (a++[y])):=by
 refine wJ (b.nd.filter _) (List.nodup_cons.mpr #[λz=>(zx.mp z).2 q0o,b.nd.filter _]) λk=>?_;rw[zx,iK,zx,lR,mK];by_cases q:k=y
 ·subst q;exact#[λ_=>.inl rfl,λ_=>#[c,d]]
 ·simp[q]
def Kh.pop{y:Int}(n:Fv x)(K:Kh x u (f++[y]) c []):Kh x u f (c++[y]) (BN x y<|wW x y):=by
 have g:y∈w9 x:=K.st y q0o;have o:=List.nodup_append.mp K.nd;have h:y∉c:=λz=>o.2.2 y z y q0o rfl;have q:=VO n g h;have j:∀t,cnt x (PF x c) t=cnt x (PF x<|c++[y]) t+if t∈BN x y (wW x y) then 1 else 0:=λt=>by rw[Sg q,cnt_cons]
 have r:cnt x (PF x c) y=0:=by have:=(K.rd y g h).mp q0o;simpa using this
 refine#[K.ks,?_,λt d=>K.st t (by simp only[lR,mK]at d ⊢;rcases d with(z|z)|z<;>simp[z]),λt d=>?_,λt d e=>?_,λa i l k e=>?_,?_]
 ·have p:(c++[y]++f).Perm (c++(f++[y])):=by rw[oK];exact sd c nj
  exact(p.nodup_iff).mpr K.nd
 ·rw[K.ct t d,j t];simp
 ·have s:t∉c:=λz=>e<|i8 _ z;have v:t≠y:=λz=>e (by rw[z];simp);have:=K.rd t d s;rw[j t]at this;rw[lR,mK]at this;simpa[v] using this
 ·have m:l∉c:=λz=>e<|i8 _ z;rcases List.mem_append.mp i with z|z
  ·exact K.bk a z l k m
  ·rw[List.mem_singleton.mp z];exact Sh r l<|zx.mpr #[k,m]
 ·rw[List.pairwise_append];refine#[K.od,kC _ _,λa i b w=>?_];rw[List.mem_singleton.mp w];exact K.bk a i y g h
def Kh.step{b v:Int}(K:Kh x u ready c (b::e))(f:b∈w9 x)(i:b∉c)(j:b∉e)(k:lk u b=↑v) :
  Kh x (pk u b<|v-1) (if v-1=0 then ready++[b] else ready) c e:=by
 have g:=K.ct b f;rw[k,g8 h8]at g;injection g with g
 have l:b∉ready:=λz=>by
  have:=(K.rd b f i).mp z;rw[g8 h8]at this;have:=Y7 (x:=x) (a:=PF x c) (t:=b)
  lia
 have d:∀t,t≠b->(if t∈b::e then (1:Int) else 0)=if t∈e then 1 else 0:=λt q=>by simp[q]
 refine#[(VN<|by rw[k];rfl).trans K.ks,?_,λt h=>?_,λt h=>?_,λt h m=>?_,K.bk,K.od]
 ·split
  ·have p:(c++(ready++[b])).Perm (b::(c++ready)):=by rw[<- oK];exact nj
   refine(p.nodup_iff).mpr<|List.nodup_cons.mpr ⟨λz=>?_,K.nd⟩;rcases List.mem_append.mp z with z|z
   ·exact i z
   ·exact l z
  ·exact K.nd
 ·by_cases q:t=b
  ·rw[q];exact f
  ·refine K.st t ?_;rcases List.mem_append.mp h with z|z
   ·exact i8 _ z
   ·by_cases w:v-1=0
    ·rw[g8 w]at z;rcases List.mem_append.mp z with z|z
     ·exact iA _ z
     ·exact io (List.mem_singleton.mp z) q
    ·rw[ci w]at z;exact iA _ z
 ·rw[yb];by_cases q:t=b
  ·rw[g8 q,q,ci j];congr 1;lia
  ·rw[ci q,K.ct t h,d t q]
 ·by_cases q:t=b
  ·rw[q,ci j];by_cases w:v-1=0
   ·rw[g8 w];exact#[λ_=>by lia,λ_=>by simp]
   ·rw[ci w];exact#[λz=>io z l,λz=>io q0a w]
  ·have:=K.rd t h m;rw[d t q]at this;rw[<- this];by_cases w:v-1=0
   ·rw[g8 w];simp[q]
   ·rw[ci w]
def Kh.done(f:Fv x)(K:Kh x u [] a []):Ord x a:=by
 obtain⟨r,g⟩:=f.acy
 have c:∀n t,r t<=n->t∈w9 x->t∈a:=by
  intro n
  induction n with
  |zero =>
   intro t i d;by_cases q:t∈a
   ·exact q
   ·have:cnt x (PF x a) t≠0:=λz=>by have:=(K.rd t d q).mpr (by simpa using z);cases this
    obtain⟨l,b,e⟩:=Ny this;have:=g l (zx.mp b).1 t e
    lia
  |succ n j =>
   intro t i d;by_cases q:t∈a
   ·exact q
   ·have:cnt x (PF x a) t≠0:=λz=>by have:=(K.rd t d q).mpr (by simpa using z);cases this
    obtain⟨l,b,e⟩:=Ny this;have:=g l (zx.mp b).1 t e;exact io (j l q0a (zx.mp b).1) (zx.mp b).2
 have h:=K.nd;rw[lP]at h;exact#[wJ h f.nd λk=>#[λz=>K.st k (by simpa using z),λz=>c _ k (hO _) z],K.od]
def Kh.len(b:Fv x)(K:Kh x u ready a d):ready.length<=63/\a.length<=63/\u.length<=63:=by
 have e:(w9 x).length=x.ht.length:=hR _;have:=b.len;have c:=LK K.nd b.nd K.st;rw[ij]at c;have f:u.length=(w9 x).length:=by rw[<- K.ks,hR]
 lia
def a24(a:Fv x){l h:Int}(b:(lk x.rk h).isSome=true):(BN x l h).Nodup:=by exact(vS (a.ok.bo h _<|GP a.ok b).1).filter _
def Kc:Wf (B0×Unit) (OL Int) (B0×Unit):=λp a _=>p.1.th.length<64/\a #[zD (p.1.th.map (·.1))] (p.1,())
def Nz:Wf (B0×Unit) (OL Int) (B0×Unit):=λp a _=>PD p.1/\p.1.rk.length<=1000/\a #[(p.1.rk.map (·.1)).filter λc=>!wy p.1 c] (p.1,())
def GS :B0×Int×Unit->(Option Int->B0×Un×Unit->Prop)->105->Prop:=λp a b =>
 if (67).isSome=true then a (lk p.1.th p.2.1) 65 else b XC 65
end
section
variable{q:Cq}{XL:g9}
noncomputable abbrev Dj:iH:=A6 (top 23) 22
noncomputable abbrev Dk:List Str:=["self","cell"]
def LL:vz ["self","cell"] Dk (vn Dj):=by walk_at "sc"
abbrev Dl(q:Cq)(k:Nat):=zk q C "is_tied" Dk (GQ) k
def LM(F:zj q.K "is_tied" "Field.is_tied" Dj f g)(b:AB q.K C)(c:OD q.K C):Gq q 2 f g Dk (GQ):=by
 refine' vB (wN (D':=Unit) (ms:=[0]) (j:=0) F LL rfl rfl λi A a s H E d =>
   (vq (vD (vH (a0p (Lq .ht false 0 rfl b.cl c.nH (DT d) (ss 1) (pv 0)) (Bx (Lq .th false 0 rfl b.cl c.nT (DT d) (ss 1) (pv 0)))))))) λp k l h=>?_
 walk_at "wl"
 have h:k ((lk p.1.ht p.2.1).isSome||(lk p.1.th p.2.1).isSome) 65:=h;rw[ci ig,ci ig];by_cases e:(lk p.1.ht p.2.1).isSome=true
 ·rw[g8 e];rw[e]at h;exact h
 ·rw[ci e];rw[Bool.eq_false_iff.mpr e]at h;exact h
noncomputable abbrev Ig:iH:=A6 (top 23) 24
noncomputable abbrev Ih:List Str:=["self","low","high"]
def Si:vz ["self","low","high"] Ih (vn Ig):=by walk_at "sc"
def O3:(["face","low","self"]:List Str).Nodup:=by decide +kernel
abbrev VP(q:Cq)(k:Nat):=zk q C "steps" Ih (Ie) k
def Sj(F:zj q.K "steps" "Field.steps" Ig f t)(d:AB q.K C)(u:OD q.K C):Gq q 2 f t Ih (Ie):=by
 refine' vB (wN (D':=Unit) (ms:=[0]) (j:=0) F Si rfl rfl λw A g s H E l =>
   (vq (vD (wZ (Ts:=["face"]) (Fr:=["low","self"]) (idx:=[1,0]) (k:=1) (mb:=[1,2]) (is:=[]) (cl:=[("self",⇑s+1),("low",⇑s+1+1)]) rfl (Q4 (BA 0 d.cl d.nB (DT l) (pv 0) (wQ 2 (pv 2)))) Zz rfl (wP rfl) (λa b C m n=>(vP 0 (vG O3))) (λa b C m n=>(tws_one (tw_w (Hw (tw_cm Ct (ss 0) (ss 1)) (D9 (tw_dIn .ht false 2 rfl d.cl u.nH (DT l) (ss 0) (pv 2))))))) (λa b C m n=>(ss 0)))))) λp x G h=>?_
 walk_at "wl"
 refine B9 λB i=>?_;obtain⟨D,o,h⟩:=h;obtain⟨v,r⟩:=Option.isSome_iff_exists.mp D;have e:yj p.1 p.2.2.1=v:=by unfold yj;rw[r];rfl
 refine i ?_;rw[e]at o;refine#[v,r,o,?_];refine v8 (q:=λf=>decide (f≠p.2.1)&&(lk p.1.ht f).isSome) (λf I K c=>?_) ?_
 ·show if (!decide (f=p.2.1))=true then (if (if false=true then _ else (lk p.1.ht f).isSome)=true then K ↑f _ else K none _) else (if false=true then K ↑f _ else K none _);rw[ci ig,ci ig];by_cases z:f=p.2.1
  ·rw[ci<|by simp[z]];rw[ci<|by simp[z]]at c;exact c
  ·rw[g8<|by simp[z]];by_cases y:(lk p.1.ht f).isSome=true
   ·rw[g8 y];rw[g8<|by simp[z,y]]at c;exact c
   ·rw[ci y];rw[ci<|by simp[z,y]]at c;exact c
 ·have h:x #[BN p.1 p.2.1 p.2.2.1] 71:=h;unfold BN at h;rw[e]at h;exact h
noncomputable abbrev Ii:iH:=A6 (top 23) 17
noncomputable abbrev Ij:List Str:=["self"]
def Sk:vz ["self"] Ij (vn Ii):=by walk_at "sc"
abbrev Ik(q:Cq)(k:Nat):=zk q C "tails" Ij (Nt) k
def Sl(F:zj q.K "tails" "Field.tails" Ii f b)(c:AB q.K C)(d:OD q.K C)(B:Bn q.mg):Gq q 2 f b Ij (Nt):=by
 refine' vB (wN (D':=Unit) (ms:=[0]) (j:=0) F Sk rfl rfl λe A a s H E k =>
   (vq (vD (B5 .ht 0 rfl c.cl d.nH rfl rfl B.sorted (pv 0))))) λp l m h=>?_
 walk_at "wl"
 obtain⟨g,n,i⟩:=h;exact#[g,i]
noncomputable abbrev Fw:iH:=A6 (top 23) 20
abbrev Fx:List Str:=["self"]
def O5:vz ["self"] Fx (vn Fw):=by walk_at "sc"
def LN:(["low","self"]:List Str).Nodup:=by decide +kernel
abbrev Fy(q:Cq)(k:Nat):=zk q C "arrows" Fx (Ka) k
def O6(F:zj q.K "arrows" "Field.arrows" Fw f i)(m:AB q.K C)(n:OD q.K C)(a:Ik q 2):Gq q 3 f i Fx (Ka):=by
 refine' vB (wN (D':=Unit) (ms:=[0]) (j:=0) F O5 rfl rfl λo A d s H E r =>
   (vq (vD (wZ (Ts:=["low"]) (Fr:=["self"]) (idx:=[0]) (k:=1) (mb:=[1]) (is:=[]) (cl:=[("self",⇑s+1)]) rfl (wO (vV (zq 0 a))) T1 rfl (wP rfl) (λb c C e g=>(vP 0 (vG LN))) (λb c C e g=>tws_nil) (λb c C e g=>(wK (ss 0) (HE .ht 1 rfl m.cl n.nH (DT r) (pv 1) (wQ 0 (pv 0))))))))) λp z B h=>?_
 walk_at "wl"
 obtain⟨t,u,v⟩:=h;refine#[t,u,?_,?_]
 ·show (zD<|w9 p.1).length<=hV;rw[(w8 _).length_eq];exact v7 (by show (p.1.ht.map (·.1)).length<=1000;rw[hR];lia)
 ·refine wx (f:=λl=>↑(l,wW p.1 l)) (λl w K y=>?_) ?_
  ·exact#[_,xn (x:=p.1)<|Al.mp w,y]
  ·rw[pf];exact v
noncomputable abbrev Dm:iH:=A6 (top 23) 15
abbrev Dn:List Str:=["self","cell"]
def LO:vz ["self","cell"] Dn (vn Dm):=by walk_at "sc"
abbrev O7(q:Cq)(k:Nat):=zk q C "head_of" Dn (GR) k
def LP(F:zj q.K "head_of" "Field.head_of" Dm f c)(d:AB q.K C)(e:OD q.K C)(a:wD q 2):Gq q 3 f c Dn (GR):=by
 refine' vB (wN (D':=Unit) (ms:=[0]) (j:=0) F LO rfl rfl λg A b s H E i =>
   (vF (ww (vA (wu 0 a 81)))
   (vq (vD (vH (J0 .ht 0 rfl d.cl e.nH (DT i) (pv 0) (wQ 1 (pv 1)))))))) λp k l h=>?_
 walk_at "wl"
 exact h
noncomputable abbrev Il:iH:=A6 (top 23) 14
noncomputable abbrev Im:List Str:=["self","low"]
def Kd:vz ["self","low","high"] Im (vn Il):=by walk_at "sc"
abbrev NA(q:Cq)(k:Nat):=zk q C "untie" Im (El) k
def Sn(F:zj q.K "untie" "Field.untie" Il f k)(c:AB q.K C)(d:OD q.K C)(a:wD q 2)(b:Xc q.K q.mg "NotTied" XN):Gq q 3 f k Im (El):=by
 refine' vB (wN (D':=Unit) (ms:=[0]) (j:=1) F Kd rfl rfl λl A g s H E m =>
   (vF (ww (vA (wu 0 a 81)))
   (vF (vT (tw_dIn .ht true 0 rfl c.cl d.nH (DT m) (ss 1) (pv 0))
   (vq<|CF rfl b)
   vL)
   (vF (vK 2 Kd.nd (vH (Vz .ht 0 rfl c.cl d.nH (pv 0) (wQ 1 (pv 1)))))
   (vF (Nb .th 0 rfl c.cl d.nT (pv 0) (wQ 2 (pv 2)) (λn o=>Hf n o))
   (vq (vD (vH (ss 2))))))))) λp u r h=>?_
 walk_at "wl"
 obtain⟨t,h⟩:=h;show if (67).isSome=true then _ else r XC 65;by_cases i:(67).isSome=true
 ·rw[g8 i]at h ⊢;dsimp only;rw[g8 rfl];by_cases q:(lk p.1.ht p.2.1).isSome=true
  ·rw[g8 q]at h;rw[ci<|by simp[q]];have e:=xn (x:=p.1)<|zh q;exact#[_,e,by rw[(t.ht _ _ e).2.2.2];rfl,h]
  ·rw[ci q]at h;rw[g8<|by simp[q]];exact h
 ·rw[ci i]at h ⊢;exact h
noncomputable abbrev yp:iH:=top 24
noncomputable abbrev yq:List Str:=["earlier","last"]
def xh:vz ["earlier","last","row","tail"] yq (vn yp):=by walk_at "sc"
abbrev Do(q:Cq)(k:Nat):=xE q "row_from_first" yq zS k
def CP(F:DH q "row_from_first" yp f o):Gq q 2 f o yq zS:=by
 refine' vB (wN (D':=Unit) (ms:=[0]) (j:=2) F xh rfl rfl λr A b s H E t =>
   (vF (vK 2 xh.nd (vO (α:=Int) vN))
   (vF (vK 3 xh.nd (vH (zn (ss 1))))
   (vF (JP (mb:=[0]) (D2:=(Dc (Option Int))×Int×(OL Int)×(Option Int)×Unit) (v9 q0q) Az (tw_cm Bv (ss 3) AU)
   (vF (xt 2 (x8 (ss 3)))
   (vq (vK 3 xh.nd (vH (Rz 0 (DT t) (pv 0) (x8 (ss 3))))))) q0q)
   (vq (vD (Y0 (wq 2)))))))) λp D G h=>?_
 walk_at "wl"
 refine B9 λu c=>?_;obtain⟨⟨a,w,x,y⟩,h⟩:=h;refine c ?_;refine#[λm d=>d.1=p.1/\(match d.2.2.2.1 with|none=>d.2.2.1.l≠[]|some k=>(lk p.1.l k).isSome=true/\d.2.2.1.l.length+a k<1000)/\(match d.2.2.2.1 with|none=>0|some k=>a k+1)<=m,#[a p.2.1+1,rfl,#[x,by have:=w p.2.1;simpa using this],hO _],?_];intro m;refine a2M λI J B C L=>?_;rintro⟨rfl,i,M⟩
 cases C with
 |none =>
  rw[ci q0o];exact h _ (by simpa using i)
 |some k =>
  rw[g8 q0o];obtain⟨v,n⟩:=Option.isSome_iff_exists.mp i.1;have z:hV=16777216:=jo;refine#[k,rfl,by show B.l.length<hV;lia,k,rfl,v,n,?_]
  cases v with
  |none=>exact#[0,q0a,rfl,q0o,hO _]
  |some e =>
   have g:=y k e n;exact#[a e+1,q0a,rfl,#[g.1,by simp;lia],hO _]
noncomputable abbrev Bi:iH:=A6 (top 23) 25
noncomputable abbrev Bj:List Str:=["self","low","high"]
def xy:vz ["self","low","high","earlier","waiting","tail","head","later"] Bj (vn Bi):=by walk_at "sc"
abbrev Kf(q:Cq)(k:Nat):=zk q C "ring_with" Bj (DL) k
def Io(F:zj q.K "ring_with" "Field.ring_with" Bi f fd)(ct:AB q.K C)(cf:OD q.K C)(a:Do q 3)(I:VP q 3):Gq q 4 f fd Bj (DL):=by
 refine' vB (wN (D':=Unit) (ms:=[0]) (j:=5) F xy rfl rfl λag A ab s H E R =>
   (vF (vK 3 xy.nd (YY (wQ 1 (pv 1))))
   (vF (vK 4 xy.nd (vO (vw (ss 1) vN)))
   (vF (JP (mb:=[0]) (D2:=(Bd C true)×Int×Int×(Dc (Option Int))×(OL Int)×Int×Int×Un×Unit) (v9 q0q) Az (tw_trueR (wq 4))
   (vF (vK 5 xy.nd (vH (VA 4 (pv 4) (X3 j0 sM sN X5 (pv 4)))))
   (vF (vK 6 xy.nd (vH (RJ .ht 0 rfl ct.cl cf.nH (DT R) (pv 0) (wQ 5 (pv 5)) (wQ 2 (pv 2)))))
   (vF (vT (tw_w (Hw (tw_cm Ct (ss 5) (ss 1) (vU _)) (D9 (tw_inT (ss 1) (BA 0 ct.cl ct.nB (DT R) (pv 0) (wQ 6 (pv 6))) (by with_unfolding_all rfl)))))
   (vq<|vD<|vE a<|vR 3<|vr (ss 5) vp)
   vL)
   (vq (xC (is:=[]) (mb:=[0]) (D1:=(Bd C true)×Int×Int×(Dc (Option Int))×(OL Int)×Int×Int×Int×Unit) (D2:=(Bd C true)×Int×Int×(Dc (Option Int))×(OL Int)×Int×Int×Int×Unit) (v9 q0q) Az rfl (wO (vV (wu 0 I (vr (ss 5) (vr (ss 6) vp))))) (vP 7 (vG (i:=7) xy.nd rfl (ku rfl)) q0q)
   (vq (vT (tw_dcNin 3 (DT R) (ss 7) (pv 3))
   (vF (RA 3 (DT R) (pv 3) (ss 7) (zn (ss 5)))
   (vq (xt 4 (ss 7))))
   vL)) q0q q0q))))) q0q)
   (vq (vD (vO (α:=Int) vN))))))) λp Kn Ke h=>?_
 walk_at "wl"
 obtain⟨N,hh,t1,t2,h⟩:=h
 have J:p.2.1∉w9 p.1:=λz=>by have:=xW z;unfold wy at t1;rw[this]at t1;cases t1
 have n0:lk p.1.ht p.2.1=none:=Nv J;refine#[λm d=>d.1=p.1/\d.2.1=p.2.1/\d.2.2.1=p.2.2.1/\Rw p.1 p.2.1 d.2.2.2.1.l d.2.2.2.2.1.l (Nx p.1 p.2.1 p.2.2.1)/\2*O0 p.1 d.2.2.2.1.l+d.2.2.2.2.1.l.length<=m/\m<=200/\Rc p.1 p.2.1 p.2.2.1 d.2.2.2.1.l,#[_,rfl,rfl,rfl,Sc N,hO _,a23 N,Sd],?_];intro m;refine YJ λd1 d2 d3 d4 d5 d6 d7 d8 d9=>?_;rintro⟨rfl,rfl,rfl,o,Y,i6,i7⟩;dsimp only at o Y ⊢;rcases List.eq_nil_or_concat d5.l with e|⟨ys,y,e⟩
 ·rw[ci<|by rw[e];simp];rw[e]at o;refine h []<|iff_of_true rfl ?_;exact VM (V:=d4.l.map (·.1)) N J (xY.mp o.lo) (λk B n=>o.tl k (xY.mpr B) n) λk B=>#[(o.dn k (xY.mpr B) q0o).1,λt c=>xY.mp<|(o.dn k (xY.mpr B) q0o).2 t c]
 ·rw[g8<|by rw[e];simp];rw[List.concat_eq_append]at e;refine#[ys,y,e,?_];have S:(lk d4.l y).isSome=true:=o.wk y (by rw[e];simp)
  have hd:(lk p.1.ht y).getD p.2.2.1=if y=p.2.1 then p.2.2.1 else wW p.1 y:=by
   by_cases q:y=p.2.1
   ·rw[g8 q,q,n0];rfl
   ·rw[ci q,xn<|o.tl y S q];rfl
  have O:(lk p.1.rk<|if y=p.2.1 then p.2.2.1 else wW p.1 y).isSome=true:=by
   by_cases q:y=p.2.1
   ·rw[g8 q];exact hh
   ·rw[ci q];exact N.TZ<|o.tl y S q
  rw[hd]
  have L:(y≠p.2.1->p.2.1∉yj p.1 (wW p.1 y))->Ie (p.1,y,(if y=p.2.1 then p.2.2.1 else wW p.1 y),()) (λae p'=>Hy (λx (b:B0×Int×Int×Dc (Option Int)×OL Int×Int×Int×WL.Un×Unit) Z Kr Ke =>
    if (!(lk b.2.2.2.1.l x).isSome)=true then b.2.2.2.1.l.length<hV/\b.2.2.2.2.1.l.length<hV/\Z (b.1,b.2.1,b.2.2.1,#[pk b.2.2.2.1.l x<|↑b.2.2.2.2.2.1],#[b.2.2.2.2.1.l++[x]],b.2.2.2.2.2.1,b.2.2.2.2.2.2.1,#[],b.2.2.2.2.2.2.2.2)
    else Z (b.1,b.2.1,b.2.2.1,b.2.2.2.1,b.2.2.2.2.1,b.2.2.2.2.2.1,b.2.2.2.2.2.2.1,#[],b.2.2.2.2.2.2.2.2)) ae.l (p'.1,p.2.1,p.2.2.1,d4,#[ys],y,(if y=p.2.1 then p.2.2.1 else wW p.1 y),d8,d9)
    (λM=>∃m',m'<m/\M.1=p.1/\M.2.1=p.2.1/\M.2.2.1=p.2.2.1/\Rw p.1 p.2.1 M.2.2.2.1.l M.2.2.2.2.1.l (Nx p.1 p.2.1 p.2.2.1)/\2*O0 p.1 M.2.2.2.1.l+M.2.2.2.2.1.l.length<=m'/\m'<=200/\Rc p.1 p.2.1 p.2.2.1 M.2.2.2.1.l) Kn Ke) (λaf p'=>Ke af (p'.1,#[],#[],())):=by
   intro hy;refine#[by rw[GP N.ok O];rfl,N.bl O,?_];have m1:1<=m:=by rw[e,ij]at Y;simp at Y;omega
   refine wB (λ(r:List Int) (b:B0×Int×Int×Dc (Option Int)×OL Int×Int×Int×WL.Un×Unit)=>b.1=p.1/\b.2.1=p.2.1/\b.2.2.1=p.2.2.1/\b.2.2.2.2.2.1=y/\(lk b.2.2.2.1.l y).isSome=true/\(∀t∈r,t∈BN p.1 y (if y=p.2.1 then p.2.2.1 else wW p.1 y))/\Rc p.1 p.2.1 p.2.2.1 b.2.2.2.1.l /\
    Rw p.1 p.2.1 b.2.2.2.1.l b.2.2.2.2.1.l (λk e=>if k=y then (∀t∈BN p.1 y (if y=p.2.1 then p.2.2.1 else wW p.1 y),(lk e t).isSome=true\/t∈r) else Nx p.1 p.2.1 p.2.2.1 k e)/\2*O0 p.1 b.2.2.2.1.l+b.2.2.2.2.1.l.length+1<=m) _ ?_ ?_ ?_
   ·refine#[rfl,rfl,rfl,rfl,S,λt c=>c,i7,#[o.lo,o.tl,λk B=>o.wk k (by rw[e];exact i8 _ B),λk B P=>?_,o.ch,o.sz],?_]
    ·dsimp only;by_cases q:k=y
     ·rw[g8 q];exact λt c=>.inr c
     ·rw[ci q];exact o.dn k B (by rw[e];intro z;rcases List.mem_append.mp z with z|z;exact P z;exact q<|List.mem_singleton.mp z)
    ·rw[e,ij]at Y;simp only[iB]at Y;show 2*O0 p.1 d4.l+ys.length+1<=m;omega
   ·intro T r;refine YJ λb1 b2 b3 b4 b5 D b7 b8 b9=>?_;rintro _ ⟨rfl,rfl,rfl,rfl,Q,j6,j9,u,j8⟩ K hK;dsimp only at Q u j8 j9 ⊢;have aa:∀t∈r,t∈BN p.1 D (if D=p.2.1 then p.2.2.1 else wW p.1 D):=λt c=>j6 t (ie _ c)
    cases q:lk b4.l T with
    |none =>
     rw[g8 q0o];have z:hV=16777216:=jo;have s1:=u.sz;have nn:∀(k:Int) (e':List (Int×Option Int)),(∀t,(lk e' t).isSome=true->(lk (pk e' T<|some D) t).isSome=true):=λk e' t c=>by rw[yb];split;rfl;exact c
     obtain⟨U,u2⟩:=u.add (t0:=D) (xv.mp<|j6 T h8).2.2 q Q λk B W=>by
      try dsimp only at W ⊢
      by_cases G:k=D
      ·rw[g8 G]at W ⊢;exact λt c=>(W t c).imp (nn k _ t) id
      ·rw[ci G]at W ⊢;exact#[W.1,λt c=>nn k _ t<|W.2 t c]
     refine#[by show b4.l.length<hV;omega,by show b5.l.length<hV;omega,hK _ #[rfl,rfl,rfl,rfl,nn 0 _ _ Q,aa,j9.add Q (u.tl D Q)<|j6 T h8,?_,?_]]
     ·refine#[U.lo,U.tl,U.wk,λk B P=>?_,U.ch,U.sz];have g:=U.dn k B P;dsimp only at g ⊢;by_cases G:k=D
      ·rw[g8 G]at g ⊢;intro t c;rcases g t c with w|w
       ·exact .inl w
       ·rcases List.mem_cons.mp w with w|w
        ·left;rw[w,yb,g8 rfl];rfl
        ·exact .inr w
      ·rw[ci G]at g ⊢;exact g
     ·show 2*O0 p.1 (pk b4.l T<|↑D)+(b5.l++[T]).length+1<=m;rw[ij];simp only[iB];omega
    |some v =>
     rw[ci q0o];refine hK _ #[rfl,rfl,rfl,rfl,Q,aa,j9,#[u.lo,u.tl,u.wk,λk B P=>?_,u.ch,u.sz],j8];have g:=u.dn k B P;dsimp only at g ⊢;by_cases G:k=D
     ·rw[g8 G]at g ⊢;intro t c;rcases g t c with w|w
      ·exact .inl w
      ·rcases List.mem_cons.mp w with w|w
       ·left;rw[w,q];rfl
       ·exact .inr w
     ·rw[ci G]at g ⊢;exact g
   ·refine YJ λb1 b2 b3 b4 b5 D b7 b8 b9=>?_;rintro⟨rfl,rfl,rfl,rfl,Q,_,j9,u,j8⟩;refine#[m-1,q0d,rfl,rfl,rfl,#[u.lo,u.tl,u.wk,λk B P=>?_,u.ch,u.sz],by dsimp only at j8 ⊢;omega,q0d,j9];have g:=u.dn k B P;dsimp only at g;by_cases G:k=D
    ·rw[g8 G]at g;subst G;exact#[hy,λt c=>(g t c).elim id λw=>io w q0o]
    ·rw[ci G]at g;exact g
  by_cases q:y=p.2.1
  ·rw[ci (by simp[q]),ci ig];exact L λz=>io q z
  ·rw[g8<|by simp[q]];refine#[_,GP N.ok O,?_];by_cases X:p.2.1∈yj p.1 (if y=p.2.1 then p.2.2.1 else wW p.1 y)
   ·rw[g8<|decide_eq_true X];obtain⟨mm,m1,m2⟩:=o.ch;refine⟨⟨mm,λk=>by have:=m1 k;have:=o.sz;omega,S,m2⟩,λr R=>h r<|iff_of_false R<|i7.fin (o.tl y S q) q S<|by rw[ci q]at X;exact X⟩
   ·rw[ci<|by simpa using X];exact L λ_=>by rw[ci q]at X;exact X
noncomputable abbrev So:iH:=A6 (top 23) 13
abbrev Sq:List Str:=["self","low","high"]
def Sr:vz ["self","low","high","ring"] Sq (vn So):=by walk_at "sc"
abbrev Xh(q:Cq)(k:Nat):=zk q C "tie" Sq (Nu) k
def Y8(F:zj q.K "tie" "Field.tie" So f D)(o:AB q.K C)(x:OD q.K C)(b:wD q 4)(d:Dl q 4)(e:Kf q 4)(g:Xc q.K q.mg "NotFace" XF)(k:Xc q.K q.mg "Tied" XT)(c:XcI q.P q.w q.K q.mg q.base 3 "RingOfArrows" XR "ring"):Gq q 5 f D Sq (Nu):=by
 refine' vB (EL (v9 q0q) (D':=(Bd C true)×Int×Int×(OL Int)×Unit) (ms:=[0]) (j:=1) F Sr rfl rfl λG A v s H E l =>
   (vF (ww (vA (wu 0 b 81)))
   (vF (ww (vA (wu 0 b 98)))
   (vF (vT (tw_ninT (ss 1) (BA 0 o.cl o.nB (DT l) (pv 0) (wQ 2 (pv 2))) (by with_unfolding_all rfl))
   (vq<|CF rfl g)
   vL)
   (vF (vT (tw_w (xU (tw_val (vA (wu 0 d 81))) (xJ (tw_val (vA (wu 0 d 98))))))
   (vq<|CF rfl k)
   vL)
   (vF (vK 3 Sr.nd (wu 0 e (vr (ss 1) 98)))
   (vF (vT (tw_trueR (wq 3))
   (vq<|YW (i:=3) (α:=Int) rfl c l<|pv 3)
   vL)
   (vF (HF .ht 0 rfl o.cl x.nH (DT l) (pv 0) (wQ 1 (pv 1)) (ss 2))
   (vq (HF .th 0 rfl o.cl x.nT (DT l) (pv 0) (wQ 2 (pv 2)) (ss 1))))))))))) λp I y h=>?_
 walk_at "wl"
 obtain⟨t,h⟩:=h;show if (67).isSome=true then _ else y XC 71;by_cases B:(67).isSome=true
 ·rw[g8 B]at h ⊢;show if (lk p.1.rk p.2.2.1).isSome=true then _ else y XC 71;by_cases ht:(lk p.1.rk p.2.2.1).isSome=true
  ·rw[g8 ht]at h ⊢;refine#[_,GP t.ok ht,?_];by_cases u:p.2.1∈yj p.1 p.2.2.1
   ·rw[g8 u]at h;rw[ci<|by simp[u]];show if wy p.1 p.2.1=true then _ else _;by_cases m:wy p.1 p.2.1=true
    ·rw[g8<|.inl m]at h;rw[g8 m,g8 rfl];exact h
    ·rw[ci m];show if wy p.1 p.2.2.1=true then _ else _;by_cases n:wy p.1 p.2.2.1=true
     ·rw[g8<|.inr n]at h;rw[g8 n];exact h
     ·rw[ci<|λz=>z.elim m n]at h;rw[ci n];refine#[t,ht,by simpa using m,by simpa using n,λr l=>?_]
      cases r with
      |nil =>
       rw[ci q0o];have z:hV=16777216:=jo;exact#[(by show p.1.ht.length<hV;have:=t.len;omega),(by show p.1.th.length<hV;have:=t.Y5;omega),h.2<|l.mp rfl]
      |cons a r =>
       rw[g8 q0o];exact h.1 λz=>by cases l.mpr z
   ·rw[ci u]at h;rw[g8<|by simp[u]];exact h
  ·rw[ci ht]at h ⊢;exact h
 ·rw[ci B]at h ⊢;exact h
abbrev Fz:iH:=A6 (top 23) 18
abbrev FA:List Str:=["self"]
def O8:vz ["self"] FA (vn Fz):=by walk_at "sc"
abbrev Kg(q:Cq)(k:Nat):=zk q C "heads" FA (Kc) k
def O9(F:zj q.K "heads" "Field.heads" Fz f b)(c:AB q.K C)(d:OD q.K C)(B:Bn q.mg):Gq q 2 f b FA (Kc):=by
 refine' vB (wN (D':=Unit) (ms:=[0]) (j:=0) F O8 rfl rfl λe A a s H E g =>
   (vq (vD (B5 .th 0 rfl c.cl d.nT rfl rfl B.sorted (pv 0))))) λp i k h=>?_
 walk_at "wl"
 exact h
abbrev Ip:iH:=A6 (top 23) 19
abbrev Iq:List Str:=["self"]
def Ss:vz ["self"] Iq (vn Ip):=by walk_at "sc"
def Pa:(["cell","self"]:List Str).Nodup:=by decide +kernel
abbrev NB(q:Cq)(k:Nat):=zk q C "lone" Iq (Nz) k
def Su(F:zj q.K "lone" "Field.lone" Ip f o)(r:AB q.K C)(b:Ia q 3)(a:Dl q 3):Gq q 4 f o Iq (Nz):=by
 refine' vB (wN (D':=Unit) (ms:=[0]) (j:=0) F Ss rfl rfl λt A g s H E l =>
   (vq (vD (wZ (Ts:=["cell"]) (Fr:=["self"]) (idx:=[0]) (k:=1) (mb:=[1]) (is:=[]) (cl:=[("self",⇑s+1)]) rfl (wO (vV (zq 0 b l r.cl xM (pv 0)))) T1 rfl (wP rfl) (λd e C m n=>(vP 0 (vG (i:=0) Pa rfl (ku rfl)) q0q)) (λd e C m n=>(tws_one (tw_not (tw_val (vA (wu 1 a (vr (ss 0) vp) (hr:=l) (hx:=W6))))))) (λd e C m n=>(ss 0)))))) λp x y h=>?_
 walk_at "wl"
 obtain⟨u,z,v⟩:=h;have B:hV=16777216:=jo;refine#[u,by show (p.1.rk.map (·.1)).length<=hV;rw[hR];omega,?_];exact v8 (q:=λc=>!wy p.1 c) (λk _ K w=>w) v
abbrev Dr:iH:=A6 (top 23) 16
abbrev Ds:List Str:=["self","cell"]
def LQ:vz ["self","cell"] Ds (vn Dr):=by walk_at "sc"
abbrev Pb(q:Cq)(k:Nat):=zk q C "tail_of" Ds (GS) k
def LR(F:zj q.K "tail_of" "Field.tail_of" Dr f c)(d:AB q.K C)(e:OD q.K C)(a:wD q 2):Gq q 3 f c Ds (GS):=by
 refine' vB (wN (D':=Unit) (ms:=[0]) (j:=0) F LQ rfl rfl λg A b s H E i =>
   (vF (ww (vA (wu 0 a 81)))
   (vq (vD (vH (J0 .th 0 rfl d.cl e.nT (DT i) (pv 0) (wQ 1 (pv 1)))))))) λp k l h=>?_
 walk_at "wl"
 have h:if (67).isSome=true then k (lk p.1.th p.2.1) 65 else l XC 65:=h;exact h
end
structure ZB(l:List Int):Prop where
 ri:yN l
 lt:∀c∈l,0<=c/\c<63
def ZB.xr(d:ZB a)(e:ZB b):ZB (xr a b):=#[A4 d.ri,λc f=>(Q6 (vS e.ri) f).elim (d.lt c)<|e.lt c]
def ZB.mem(b:ZB a):∀k∈a,k∈zH 0 63:=λk c=>BB (b.lt k c).1 (b.lt k c).2
section
variable{x:B0}
end
def Ir :B0×Int×Unit->(Unit->B0×WL.Un×Unit->Prop)->(g9->B0×WL.Un×Unit->Prop)->Prop:=λp a b=>wy p.1 p.2.1=false/\HW p a b
abbrev NC(q:Cq)(k:Nat):=zk q C "take" Bh (Ir) k
section
variable{x:B0}
end
section
variable{q:Cq}{XL:g9}
end
noncomputable abbrev LS:iH:=top 27
abbrev yR:=W4
abbrev RW:=Option<|Int×List Int
noncomputable def rowAt(a:List RW)(k:Int):RW:=if 0<=k then (a[k.toNat]?).join else none
noncomputable def eb(a:List RW)(k:Int):List Int:=((rowAt a k).map (·.2)).getD []
structure Vr(rows:List RW):Prop where
 ok:∀k r e,rowAt rows k=↑(r,e)->0<=r/\r<=12/\yN e/\(∀c∈e,c<k/\∃e',rowAt rows c=↑(r-1,e'))/\wL (eb rows) e=[]
 ln:rows.length<=60
 sm:∀k r e,rowAt rows k=↑(r,e)->∀c∈e,c<35
def Lp(a:List RW)(q:Int×List Int):Prop:=yN q.2/\(∀c∈q.2,∃e,rowAt a c=↑(q.1,e))/\wL (eb a) q.2=[]
noncomputable def AC(a:List RW):List Int:=(zH 0 a.length).filter λk=>(rowAt a k).isSome
noncomputable def CW:List RW:=[↑(0,[]),↑(0,[]),↑(0,[]),↑(0,[]),↑(1,[0,1]),↑(1,[0,2]),↑(1,[0,3]),↑(1,[1,2]),↑(1,[1,3]),↑(1,[2,3]),↑(2,[4,5,7]),↑(2,[4,6,8]),↑(2,[5,6,9]),↑(2,[7,8,9]),↑(3,[10,11,12,13])]
def Iu:Wf (Bg×Unit) Int (Bg×Unit):=λp a _=>∀r,0<=r->r<=12->a r (#[],())
def LU:Wf (List Int×List Int×Unit) (OL Int) (WL.Un×WL.Un×Unit):=λp a _=>(p.1.length<=1000/\p.2.1.length<=1000/\(p.1.filter λk=>!decide (k∈p.2.1)).length+(p.2.1.filter λk=>!decide (k∈p.1)).length<64)/\a #[jn p.1 p.2.1] (#[],#[],())
def Sv:Wf (List RW×Unit) (OL Int) (WL.Un×Unit):=λp a _=>p.1.length<1000/\a #[AC p.1] (#[],())
def Sw:Wf (Bg×List Int×Unit) (OL Int) (Bg×WL.Un×Unit):=λp a _=>p.2.1.length<60/\∀l,yN l->(∀x∈l,x∈p.2.1)->a #[l] (#[],#[],())
def Sy:Wf (List RW×List Int×Unit) (OL Int) (WL.Un×WL.Un×Unit):=λp a _=>Vr p.1/\(∀c∈p.2.1,(rowAt p.1 c).isSome=true)/\a #[wL (eb p.1) p.2.1] (#[],#[],())
def Iv:Wf (Int×Unit) Bool (WL.Un×Unit):=λp a _=>a true (#[],())
def Sz:Wf (List Int×Unit) Bool (WL.Un×Unit):=λp a _=>a true (#[],())
def LV:Wf (List Int×List Int×Unit) Bool (WL.Un×WL.Un×Unit):=λp a _=>a (decide<|p.1=p.2.1) (#[],#[],())
def ND:Wf (Int×Unit) (OL RW) (WL.Un×Unit):=λp a _=>0<=p.1/\a #[CW.take p.1.toNat] (#[],())
def BC:Wf (OL RW×OL 93×Int×Bg×Unit) (OL Int) (OL RW×OL 93×WL.Un×Bg×Unit):=λp a _ =>
 Vr p.1.l/\p.1.l.length<=34/\p.2.1.l.length<=100/\(∀q∈p.2.1.l,Lp p.1.l q)/\0<=p.2.2.1/\p.2.2.1<=12 /\
 ∀e q,Vr (p.1.l++[↑(p.2.2.1,e)])->(∀u∈p.2.1.l++q,Lp (p.1.l++[↑(p.2.2.1,e)]) u)->q.length<=1->a #[e] (p.1,#[p.2.1.l++q],#[],#[],())
def SA:Wf (Bg×Int×Unit) (OL RW) (Bg×WL.Un×Unit):=λp d _=>(0<=p.2.1/\p.2.1<=19)/\∀a,Vr a->a.length<=34->d #[a] (#[],#[],())
structure xQ(x:B0)(rows:List RW):Prop where
 up:x.up=rows.length
 rk:∀k,lk x.rk k=(rowAt rows k).map (·.1)
 bd:∀k,lk x.bd k=(rowAt rows k).map (·.2)
 ks:x.rk.map (·.1)=AC rows
 lb:x.bd.length<=rows.length
def SE :B0×List RW×Unit->(B0->WL.Un×WL.Un×Unit->Prop)->(g9->WL.Un×WL.Un×Unit->Prop)->Prop:=λp a _=>p.1=#[[],[],0,[],[]]/\Vr p.2.1/\∀x:B0,xQ x p.2.1->x.ht=[]->x.th=[]->a x (#[],#[],())
def Iw:Wf (Bool×Bool×Unit) Bool (WL.Un×WL.Un×Unit):=λp a _=>a (decide<|p.1=p.2.1) (#[],#[],())
def CQ :B0×List RW×Unit->(Bool->B0×WL.Un×Unit->Prop)->(g9->B0×WL.Un×Unit->Prop)->Prop:=λp a _=>xQ p.1 p.2.1/\Vr p.2.1/\a true 65
def VQ(a:List RW)(c:Int):List Int:=(AC a).filter λk=>decide<|c∈eb a k
def NE:Wf (List RW×Int×Unit) (OL Int) (WL.Un×WL.Un×Unit):=λp a _=>p.1.length<1000/\a #[VQ p.1 p.2.1] (#[],#[],())
def xZ{b:Type}{l:List b}{i:Int}(c:0<=i)(d:i<(l.length:Int)):∃x,Ez l i=↑x/\l[i.toNat]?=↑x/\x∈l:=by
 have a:i.toNat<l.length:=by lia
 have e:l[i.toNat]?=↑l[i.toNat]:=jJ a;have:=MS e;rw[show ((i.toNat:Nat):Int)=i by lia]at this;exact#[_,this,e,vf a]
def Ix{n k:Int}(h:k∈zH 0 n):0<=k/\k<n:=by
 unfold zH at h;obtain⟨i,a,e⟩:=List.mem_map.mp h;have:=List.mem_range.mp a
 lia
def vI{k:Int}(h:rowAt rows k=↑y):0<=k/\k<(rows.length:Int)/\rows[k.toNat]?=↑(some y)/\Ez rows k=↑(some y):=by
 unfold rowAt at h;by_cases a:0<=k
 ·rw[g8 a]at h
  cases e:rows[k.toNat]? with
  |none=>rw[e]at h;cases h
  |some z =>
   rw[e]at h;have h:z=↑y:=h;subst h;have f:=(List.getElem?_eq_some_iff.mp e).1;have b:k<(rows.length:Int):=by omega
   obtain⟨x,d,c,_⟩:=xZ a b;rw[e]at c;cases c;exact#[a,b,rfl,d]
 ·rw[ci a]at h;cases h
def FC{k:Int}(a:0<=k)(e:rows[k.toNat]?=↑z):rowAt rows k=z:=by unfold rowAt;rw[g8 a,e];rfl
def Vr.Y9(v:Vr rows){k:Int}(h:rowAt rows k=↑y):yN y.2/\∀x∈y.2,x∈zH 0 35:=by obtain⟨_,_,b,c,_⟩:=v.ok k y.1 y.2 h;refine#[b,λx a=>?_];obtain⟨_,f,d⟩:=c x a;obtain⟨e,g,_⟩:=vI d;exact BB e<|v.sm k y.1 y.2 h x a
def zy{k:Int}(h:rowAt rows k=↑y):eb rows k=y.2:=by unfold eb;rw[h];rfl
def Za(a:List b){n:Int}(h:0<=n):FW a none ↑n=a.take n.toNat:=by unfold FW;rw[show ↑n=some ((n.toNat:Nat):Int) by rw[show ((n.toNat:Nat):Int)=n by lia],HT.MN,HT.Jr];simp
def wU{n:Int}(a:0<n)(b:n<1073741824)(h:∀r,0<=r->r<n->c r (#[],#[],())):yR (g,n,()) c d:=#[a,b,h]
def wp:rowAt (rows++[z]) (rows.length:Int)=z:=by refine FC q0a ?_;rw[l8,jP<|hO _,pF];rfl
def wH{a:List RW}{k:Int}(h:k≠(a.length:Int)):rowAt (a++[z]) k=rowAt a k:=by
 unfold rowAt;by_cases b:0<=k
 ·rw[g8 b,g8 b];by_cases c:k.toNat<a.length
  ·rw[mw c]
  ·rw[kU (by rw[ij,iB];lia),kU q0a]
 ·rw[ci b,ci b]
def Iy{a:List RW}{k:Int}(h:k≠(a.length:Int)):eb (a++[z]) k=eb a k:=by unfold eb;rw[wH h]
def yM{k:Int}(h:rowAt rows k=↑y):k≠(rows.length:Int):=λz=>by
 have:=(vI h).2.1
 lia
def FD(v:Vr rows)(p:rows.length<=35)(m:∀r e,z=↑(r,e)->0<=r/\r<=12/\yN e/\(∀c∈e,∃g,rowAt rows c=↑(r-1,g))/\wL (eb rows) e=[]):Vr (rows++[z]):=by
 refine#[λk r e h=>?_,by rw[ij,iB];lia,λk r e h c n=>?_]
 rotate_left
 ·by_cases q:k=(rows.length:Int)
  ·rw[q,wp]at h;obtain⟨g,i⟩:=(m r e h).2.2.2.1 c n;have:=(vI i).2.1
   lia
  ·rw[wH q]at h;exact v.sm k r e h c n
 have j:∀{k r e},0<=r/\r<=12/\yN e/\(∀c∈e,c<k/\∃g,rowAt rows c=↑(r-1,g))/\wL (eb rows) e=[]->0<=r/\r<=12/\yN e/\(∀c∈e,c<k/\∃g,rowAt (rows++[z]) c=↑(r-1,g))/\wL (eb<|rows++[z]) e=[]:=λ{k r e} ⟨a,b,c,d,f⟩=>by
  refine#[a,b,c,λx l=>?_,?_]
  ·obtain⟨o,g,i⟩:=d x l;exact#[o,g,by rw[wH<|yM i];exact i]
  ·rw[<- f];refine xL λx l=>?_;obtain⟨_,g,i⟩:=d x l;exact Iy<|yM i
 by_cases q:k=(rows.length:Int)
 ·rw[q,wp]at h;obtain⟨a,b,c,d,f⟩:=m r e h;refine j #[a,b,c,λx l=>?_,f];obtain⟨g,i⟩:=d x l;exact#[by have:=(vI i).2.1;lia,g,i]
 ·rw[wH q]at h;exact j<|v.ok k r e h
def FE(h:Lp rows u):Lp (rows++[z]) u:=by
 obtain⟨a,b,c⟩:=h;refine#[a,λx d=>?_,?_]
 ·obtain⟨e,q⟩:=b x d;exact#[e,by rw[wH<|yM q];exact q]
 ·rw[<- c];refine xL λx d=>?_;obtain⟨e,q⟩:=b x d;exact Iy<|yM q
def SF{r:Int}:Lp (rows++[↑(r,[])]) (r,[(rows.length:Int)]):=by
 refine#[kC _ _,λx a=>#[[],?_],?_]
 ·rw[List.mem_singleton.mp a,wp]
 ·show xr [] (eb (rows++[↑(r,[])]) (rows.length:Int))=[];rw[zy (y:=(r,[])) wp];rfl
def VR(h:yN e):xr e e=[]:=HB (A4 h) iP λk=>by rw[B4<|vS h];by_cases q:k∈e<;>simp[q]
def Pc{c:Int}:wL f (l++[c])=xr (wL f l) (f c):=by unfold wL PB;rw[kE,List.foldl_append];rfl
def GU{r:Int}(v:Vr rows)(p:yN l)(h:∀c∈l,∃e,rowAt rows c=↑(r,e)) :
  (∀c∈wL (eb rows) l,∃n,rowAt rows c=↑(r-1,n))/\wL (eb rows) (wL (eb rows) l)=[]/\Lp (rows++[↑(r,wL (eb rows) l)]) (r,l++[(rows.length:Int)]):=by
 have m:∀c∈l,yN (eb rows c)/\(∀d∈eb rows c,∃n,rowAt rows d=↑(r-1,n))/\wL (eb rows) (eb rows c)=[]:=λc i=>by obtain⟨e,j⟩:=h c i;obtain⟨_,_,a,b,f⟩:=v.ok c r e j;rw[zy j];exact#[a,λd k=>(b d k).2,f]
 have s:∀{d q},rowAt rows d=↑q->(eb rows d).Nodup:=λ{d q} k=>by rw[zy k];exact vS (v.Y9 k).1
 refine#[λc i=>?_,OH λc i=>#[(m c i).1,λd k=>?_,(m c i).2.2],?_,λx o=>?_,?_]
 ·obtain⟨d,k,o⟩:=JR (λc i=>vS (m c i).1) i;exact(m d k).2.1 c o
 ·obtain⟨n,q⟩:=(m c i).2.1 d k;exact s q
 ·refine List.pairwise_append.mpr #[p,kC _ _,λa t b u=>?_];obtain⟨e,j⟩:=h a t;rw[List.mem_singleton.mp u];exact(vI j).2.1
 ·rcases List.mem_append.mp o with z|z
  ·obtain⟨e,j⟩:=h x z;exact#[e,by rw[wH<|yM j];exact j]
  ·rw[List.mem_singleton.mp z];exact#[_,wp]
 ·show wL _ (l++[(rows.length:Int)])=[];rw[Pc,zy (y:=(r,wL (eb rows) l)) wp,xL (g:=eb rows) λc i=>?_]
  ·exact VR<|yF _ _
  ·obtain⟨e,j⟩:=h c i;exact Iy<|yM j
def Lp.sub{a:List RW}(c:a.length<=35)(h:Lp a u):∀x∈u.2,x∈zH 0 35:=λx b=>by obtain⟨e,q⟩:=h.2.1 x b;have:=vI q;exact BB q0a q0a
def xz{k:Int}:k∈AC rows↔(rowAt rows k).isSome=true:=by unfold AC;rw[jX];refine#[λh=>h.2,λh=>#[?_,h]];obtain⟨y,a⟩:=Option.isSome_iff_exists.mp h;have:=vI a;exact BB this.1 this.2.1
def yz(a:List RW):(AC a).length<=a.length:=by
 have:=iF (λk=>(rowAt a k).isSome)<|zH 0 a.length;rw[xu]at this;unfold AC
 lia
def NF(c:List RW):yN (AC c):=by
 refine kg _ ?_;unfold zH;rw[List.pairwise_map];refine pw ?_<|tz;intro a b h
 lia
def SG(n:Nat):zH 0 ((n+1:Nat):Int)=zH 0 (n:Int)++[(n:Int)]:=by unfold zH;rw[show (((n+1:Nat):Int)-0).toNat=n+1 by lia,show ((n:Int)-0).toNat=n by lia,List.range_succ,kE];simp
def VS:AC (rows++[z])=AC rows++if z.isSome=true then [(rows.length:Int)] else []:=by
 unfold AC;rw[ij,iB,SG,List.filter_append];congr 1
 ·refine m7 λk a=>?_;rw[wH (by have:=Ix a;lia)]
 ·rw[jw,wp];rfl
def SH:AC (rows++[↑y])=AC rows++[(rows.length:Int)]:=VS
def Dt{a:List RW}{k:Int}(h:(a.length:Int)<=k):rowAt a k=none:=by
 cases e:rowAt a k with
 |none=>rfl
 |some y=>have:=(vI e).2.1;omega
def yr{a:List RW}{j k:Int}(c:0<=j):rowAt (a.set j.toNat none) k=if k=j then none else rowAt a k:=by
 by_cases q:k=j
 ·rw[g8 q,q];unfold rowAt;rw[g8 c];by_cases d:j.toNat<a.length
  ·rw[o8 d];rfl
  ·rw[kU<|by rw[k9];lia];rfl
 ·rw[ci q];unfold rowAt;by_cases b:0<=k
  ·rw[g8 b,g8 b,nN q0a]
  ·rw[ci b,ci b]
def SJ{a:List RW}{j:Int}(b:0<=j):AC (a.set j.toNat none)=(AC a).filter λk=>!decide (k=j):=by unfold AC;rw[k9,List.filter_filter];refine m7 λk _=>?_;rw[yr b];by_cases q:k=j<;>simp[q]
section
variable{x:B0}{rows:List RW}
def xQ.lr(c:xQ x rows):x.rk.length<=rows.length:=by have:=congrArg oF c.ks;rw[hR]at this;rw[this];exact yz rows
def xQ.ZC(c:xQ x rows)(v:Vr rows):PD x:=by
 have l:=v.ln;have g:=c.lr;have i:=c.lb;refine#[λk h=>?_,λk b h=>?_,by rw[c.ks];exact(NF rows).imp Int.le_of_lt,q0a,q0a]
 ·rw[c.rk,iL]at h;rw[c.bd,iL];exact h
 ·rw[c.bd]at h
  cases e:rowAt rows k with
  |none=>rw[e]at h;cases h
  |some y =>
   rw[e]at h;cases h;obtain⟨_,_,a,b,_⟩:=v.ok k y.1 y.2 e;refine#[a,λd f=>?_];obtain⟨j,q⟩:=(b d f).2;have:=vI q;exact#[this.1,by have:=v.sm k y.1 y.2 e d f;lia]
def xQ.yj(c:xQ x rows)(k:Int):yj x k=eb rows k:=by unfold K7.yj eb;rw[c.bd]
def xQ.put(c:xQ x rows){r:Int}:xQ ({ x with rk:=pk x.rk x.up r,bd:=pk x.bd x.up e,up:=x.up+1}:B0) (rows++[↑(r,e)]):=by
 have n:rowAt rows x.up=none:=Dt (by rw[c.up];exact nP _);have a:lk x.rk x.up=none:=by rw[c.rk,n];rfl
 have b:lk x.bd x.up=none:=by rw[c.bd,n];rfl
 have d:=c.lr;have f:=c.lb;refine#[?_,λk=>?_,λk=>?_,?_,?_]
 ·show x.up+1=_;rw[c.up,ij,iB]
  lia
 ·show lk (pk x.rk x.up r) k=_;rw[Aq a,LJ a];by_cases q:k=x.up
  ·rw[g8 q,q,c.up,wp];rfl
  ·rw[ci q,wH (by rw[<- c.up];exact q),c.rk]
 ·show lk (pk x.bd x.up e) k=_;rw[Aq b,LJ b];by_cases q:k=x.up
  ·rw[g8 q,q,c.up,wp];rfl
  ·rw[ci q,wH (by rw[<- c.up];exact q),c.bd]
 ·show (pk x.rk x.up r).map (·.1)=_;rw[Aq a,kE,c.ks,SH,<- c.up];rfl
 ·show (pk x.bd x.up e).length<=_;rw[Aq b,ij,ij,iB,iB]
  lia
def xQ.take(c:xQ x rows){j:Int}(a:0<=j):xQ ({ x with rk:=dk x.rk j,bd:=dk x.bd j}:B0) (rows.set j.toNat none):=by
 have d:=c.lr;have b:=c.lb;refine#[by rw[k9];exact c.up,λk=>?_,λk=>?_,?_,?_]
 ·show lk (dk x.rk j) k=_;rw[zw,yr a,c.rk];split<;>rfl
 ·show lk (dk x.bd j) k=_;rw[zw,yr a,c.bd];split<;>rfl
 ·show (dk x.rk j).map (·.1)=_;rw[SJ a,<- c.ks];unfold dk;rw[rK];congr 1;refine m7 λe _=>?_;by_cases q:e.1=j<;>simp[q]
 ·rw[k9];exact i5 (iF _ _) b
def xQ.xO(c:xQ x rows)(h:∀k∈row,(rowAt rows k).isSome=true):xO x row=true:=List.all_eq_true.mpr λk a=>by rw[c.rk,iL];exact h k a
def LW{r:Int}(c:xQ x rows)(v:Vr rows)(l:0<=r)(m:r<=12)(i:yN e)(g:∀d∈e,∃b,rowAt rows d=↑(r-1,b))(j:wL (eb rows) e=[])
 (k:∀a:B0,xQ a (rows++[↑(r,e)])->a.ht=x.ht->a.th=x.th->h x.up (a,#[],#[],())):J5 (x,r,e,()) h o:=by
  have n:rowAt rows x.up=none:=Dt (by rw[c.up];exact nP _)
  refine#[c.ZC v,(by show lk x.bd x.up=none;rw[c.bd,n];rfl),?_]
  show if r<0\/12<r then _ else if asc e=true then (if K7.xO x e=true then (if VC x e (r-1)=true then (if PB (e.map<|K7.yj x)=[] then h x.up _ else _) else _) else _) else _
  rw[ci q0a,g8<|(By e).mpr i,g8 (c.xO λd f=>by obtain⟨b,q⟩:=g d f;rw[q];rfl),g8,g8]
  · exact k _ c.put rfl rfl
  · rw[mE λd _ => c.yj d]
    exact j
  · refine List.all_eq_true.mpr λd f => decide_eq_true ?_
    obtain⟨b,q⟩:=g d f
    rw[c.rk,q]
    rfl
def NG(c:xQ x rows){j h:Int}:h∈Y3 x j↔(rowAt rows h).isSome=true/\j∈eb rows h:=by
 unfold Y3;rw[jX,i4,c.yj];constructor
 ·rintro⟨a,b⟩;have:=xW a;rw[c.rk,iL]at this;exact#[this,b]
 ·rintro⟨a,b⟩;exact#[zh (by rw[c.rk,iL];exact a),b]
def VT(c:xQ x rows){j:Int}:Y3 x j=[]↔∀h,j∉eb rows h:=by
 rw[List.eq_nil_iff_forall_not_mem];constructor
 ·intro z h a;refine z h ((NG c).mpr #[?_,a])
  cases e:rowAt rows h with
  |none=>unfold eb at a;rw[e]at a;cases a
  |some y=>rfl
 ·intro z h a;exact z h ((NG c).mp a).2
def NH{j:Int}(c:xQ x rows)(v:Vr rows)(b:(rowAt rows j).isSome=true)(e:∀h,j∉eb rows h)(f:wy x j=false)
 (k:∀a:B0,xQ a (rows.set j.toNat none)->a.ht=x.ht->a.th=x.th->d () (a,#[],())):Ir (x,j,()) d i:=by
  refine#[f,c.ZC v,?_]
  show if (lk x.rk j).isSome=true then (if Y3 x j=[] then d () _ else _) else _
  rw[g8 (by rw[c.rk,iL];exact b),g8<|(VT c).mpr e]
  obtain⟨y,g⟩:=Option.isSome_iff_exists.mp b
  exact k _ (c.take (vI g).1) rfl rfl
end
def yt{a:List RW}{n:Nat}{j:Int}:rowAt (a.take n) j=if j<(n:Int) then rowAt a j else none:=by
 unfold rowAt;by_cases b:0<=j
 ·rw[g8 b,g8 b,uA];by_cases c:j<(n:Int)
  ·rw[g8 c,g8 q0d]
  ·rw[ci c,ci q0d];rfl
 ·rw[ci b,ci b];split<;>rfl
def VU(v:Vr rows)(n:Nat):Vr (rows.take n):=by
 refine#[λk r e h=>?_,i5 (List.length_take_le' _ _) v.ln,λk r e h=>?_]
 rotate_left
 ·rw[yt]at h;split at h
  ·exact v.sm k r e h
  ·cases h
 rw[yt]at h;by_cases q:k<(n:Int)
 ·rw[g8 q]at h;obtain⟨a,b,c,d,f⟩:=v.ok k r e h;refine#[a,b,c,λx g=>#[(d x g).1,?_],?_]
  ·obtain⟨l,i,j⟩:=d x g;exact#[i,by rw[yt,g8 q0a];exact j]
  ·rw[<- f];refine xL λx g=>?_;have:=(d x g).1;unfold eb;rw[yt,g8 q0a]
 ·rw[ci q]at h;cases h
noncomputable def LpB(a:List RW)(u:Int×List Int):Bool:=asc u.2&&u.2.all (λc=>decide ((rowAt a c).map (·.1)=↑u.1))&&decide (wL (eb a) u.2=[])
def NI{c r:Int}(h:(rowAt rows c).map (·.1)=↑r):∃e,rowAt rows c=↑(r,e):=by
 cases e:rowAt rows c with
 |none=>rw[e]at h;cases h
 |some y=>rw[e]at h;cases h;exact#[y.2,rfl]
def SK(h:LpB rows u=true):Lp rows u:=by unfold LpB at h;rw[iY,iY]at h;exact#[(By _).mp h.1.1,λc a=>NI<|jY<|List.all_eq_true.mp h.1.2 c a,jY h.2]
noncomputable def VrB(rows:List RW):Bool:=decide (rows.length<=27)&&(iD rows.length).all λk=>match rowAt rows (k:Int) with
 |none=>true
 |some (r,e)=>decide (0<=r)&&decide (r<=12)&&asc e&&e.all (λc=>decide (c<(k:Int))&&decide ((rowAt rows c).map (·.1)=↑(r-1)))&&decide (wL (eb rows) e=[])
def SM(h:VrB rows=true):Vr rows:=by
 unfold VrB at h;rw[iY]at h;have f:=jY h.1
 suffices g:∀k r e,rowAt rows k=↑(r,e)->0<=r/\r<=12/\yN e/\(∀c∈e,c<k/\∃d,rowAt rows c=↑(r-1,d))/\wL (eb rows) e=[] from#[g,q0d,λk r e a c b=>by
  have:=((g k r e a).2.2.2.1 c b).1;have:=vI a
  omega]
 intro k r e a;have q:=vI a;have z:=List.all_eq_true.mp h.2 k.toNat<|List.mem_range.mpr q0d;rw[show ((k.toNat:Nat):Int)=k by omega,a]at z;simp only[iY,i4,oX]at z;exact⟨z.1.1.1.1,z.1.1.1.2,(By _).mp z.1.1.2,λc b=>#[(z.1.2 c b).1,NI (z.1.2 c b).2],z.2⟩
noncomputable def ZD(n:Nat):List 93:=(zH 0 n).filterMap λk=>if decide (k<4)=true then some (0,[k]) else none
noncomputable def lp1:List 93:=[(1,[4,5,7]),(1,[4,6,8]),(1,[5,6,9])]
noncomputable def chk(m:Nat):Bool:=VrB (CW.take m)&&(ZD (CW.take m).length).all (LpB<|CW.take m)&&decide ((ZD (CW.take m).length).length<=4)&&decide ((CW.take m).length<=15)&&(decide ((CW.take m).length<=9)||lp1.all (LpB<|CW.take m))
def VW:(iD 16).all chk=true:=by decide +kernel
def SN(c:yN a)(d:yN b)(f:∀k∈a,k∈zH 0 35)(g:∀k∈b,k∈zH 0 35):a.length<=1000/\b.length<=1000/\(a.filter λk=>!decide (k∈b)).length+(b.filter λk=>!decide (k∈a)).length<64:=by
 have i:=w4 c f;have j:=w4 d g;have h:=SX.zN ((a.filter λk=>!decide (k∈b))++b.filter λk=>!decide (k∈a)) (zH 0 35) (List.nodup_append.mpr #[(vS c).filter _,(vS d).filter _,λx l y m e=>?_]) λk n=>?_
 ·rw[ij]at h;rw[xu]at i j h
  lia
 ·have q:=(List.mem_filter.mp l).2;rw[e]at q;simp[(List.mem_filter.mp m).1]at q
 ·rcases List.mem_append.mp n with z|z
  ·exact f k (List.mem_filter.mp z).1
  ·exact g k (List.mem_filter.mp z).1
def VX{a b:List Int}(h:a.length+b.length<64):a.length<=1000/\b.length<=1000/\(a.filter λk=>!decide (k∈b)).length+(b.filter λk=>!decide (k∈a)).length<64:=by
 have c:=iF (λk=>!decide (k∈b)) a;have d:=iF (λk=>!decide (k∈a)) b
 lia
def CS(e:a=b)(k:c true (#[],#[],())):LV (a,b,()) c d:=by show c (decide<|a=b) _;rw[decide_eq_true e];exact k
def SO{a b:Bool}(e:a=b)(k:c true (#[],#[],())):Iw (a,b,()) c d:=by show c (decide<|a=b) _;rw[decide_eq_true e];exact k
def xQ.a07(c:xQ x rows)(k:Int):(lk x.rk k).isSome=decide (k∈AC rows):=by
 rw[c.rk,iL];by_cases q:(rowAt rows k).isSome=true
 ·rw[q,decide_eq_true<|xz.mpr q]
 ·rw[iC<|λz=>q<|xz.mp z];simpa using q
def xQ.VD(c:xQ x rows){k:Int}(h:rowAt rows k=↑y):VD x k=y.1:=by unfold K7.VD;rw[c.rk,h];rfl
def NJ{k:Int}{y:Int×List Int}{a:Int->B0×WL.Un×Unit->Prop}{b:g9->B0×WL.Un×Unit->Prop}(c:xQ x rows)(h:rowAt rows k=↑y)(g:a y.1 (x,#[],())):CM (x,k,()) a b:=by show if (lk x.rk k).isSome=true then a (K7.VD x k) _ else _;rw[g8 (by rw[c.rk,h];rfl),c.VD h];exact g
def Pd{k:Int}{y:Int×List Int}{a:OL Int->B0×WL.Un×Unit->Prop}{b:g9->B0×WL.Un×Unit->Prop}(c:xQ x rows)(v:Vr rows)(h:rowAt rows k=↑y)(g:a #[y.2] (x,#[],())):Bb (x,k,()) a b:=by refine#[c.ZC v,?_];show if (lk x.rk k).isSome=true then a #[K7.yj x k] _ else _;rw[g8 (by rw[c.rk,h];rfl),c.yj,zy h];exact g
def Bk{n:Int}(k:b true (#[],())):Iv (n,()) b c:=k
/-! ### a -/
def a08(v:Vr rows)(n:rows.length<=59):Vr (rows++[↑(0,[])]):=by
 refine#[λk r e h=>?_,by rw[ij,iB];lia,λk r e h c j=>?_]
 ·by_cases q:k=(rows.length:Int)
  ·rw[q,wp]at h;cases h;exact#[nP 0,q0q,iP,(λ_ z=>by cases z),rfl]
  ·rw[wH q]at h;obtain⟨a,b,c,d,f⟩:=v.ok k r e h;refine#[a,b,c,λx i=>?_,?_]
   ·obtain⟨m,l,g⟩:=d x i;exact#[m,l,by rw[wH<|yM g];exact g]
   ·rw[<- f];refine xL λx i=>?_;obtain⟨_,l,g⟩:=d x i;exact Iy<|yM g
 ·by_cases q:k=(rows.length:Int)
  ·rw[q,wp]at h;cases h;cases j
  ·rw[wH q]at h;exact v.sm k r e h c j
def VY:xQ (#[[],[],0,[],[]]:B0) []:=by
 have n:∀k,rowAt [] k=none:=λk=>by unfold rowAt;split<;>rfl
 exact#[rfl,(λk=>by rw[n];rfl),(λk=>by rw[n];rfl),rfl,hO _]
structure Arr(x:B0)(a:List (Int×Int)):Prop where
 ok:Fv x
 nt:(x.th.map (·.1)).Nodup
 pm:(a.map (·.1)).Perm (w9 x)
 hd:∀e∈a,wW x e.1=e.2
def SQ :B0×List RW×Bg×Int×Unit->(OL (Int×Int)->B0×WL.Un×Bg×WL.Un×Unit->Prop)->(g9->B0×WL.Un×Bg×WL.Un×Unit->Prop)->Prop:=λp b _ =>
 xQ p.1 p.2.1/\Vr p.2.1/\p.2.1.length<=35/\p.1.ht=[]/\p.1.th=[]/\(0<=p.2.2.2.1/\p.2.2.2.1<=1000)/\∀x a,xQ x p.2.1->Arr x a->(a.map (·.1)).Pairwise (·<=·)->b #[a] (x,#[],#[],#[],())
def NK :Bg×Int×Unit->(T3 (B0) (OL RW) (OL<|Int×Int)->Bg×WL.Un×Unit->Prop)->(g9->Bg×WL.Un×Unit->Prop)->Prop:=λp c _ =>
 (0<=p.2.1/\p.2.1<=19)/\∀x b a,xQ x b->Vr b->b.length<=34->Arr x a->(a.map (·.1)).Pairwise (·<=·)->c #[x,#[b],#[a]] (#[],#[],())
def NL:Wf (List (Int×Int)×Unit) (OL Int) (WL.Un×Unit):=λp a _=>p.1.length<64/\a #[zD (p.1.map (·.2))] (#[],())
noncomputable def lns(b:List RW)(a:List (Int×Int)):List Int:=(AC b).filter λk=>!decide (k∈a.map (·.1)++zD (a.map (·.2)))
def Ki:Wf (List (Int×Int)×Unit) (OL Int) (WL.Un×Unit):=λp a _=>p.1.length<64/\a #[p.1.map (·.1)] (#[],())
def SR:Wf (List RW×List (Int×Int)×Unit) (OL Int) (WL.Un×WL.Un×Unit):=λp a _=>p.1.length<1000/\p.2.1.length<64/\a #[lns p.1 p.2.1] (#[],#[],())
def w_sum:Wf (List Int×Unit) Bool (WL.Un×Unit):=λp a _=>yN p.1/\p.1.length<=1000/\a true (#[],())
def a09:Wf (List Int×List Int×Unit) (OL Int) (WL.Un×WL.Un×Unit):=λp a _=>p.1.length<=1000/\a #[p.1.filter λk=>decide<|k∈p.2.1] (#[],#[],())
def a27(h:yN l){k:Int}(p:1<=k)(c:k<l.length):∃a b,Ez l (k-1)=↑a/\Ez l k=↑b/\a<b:=by obtain⟨a,d,e,_⟩:=xZ (l:=l) (i:=k-1) q0a q0a;obtain⟨b,f,g,_⟩:=xZ (l:=l) (i:=k) q0a c;obtain⟨j,m⟩:=List.getElem?_eq_some_iff.mp e;obtain⟨n,o⟩:=List.getElem?_eq_some_iff.mp g;refine#[a,b,d,f,?_];rw[<- m,<- o];exact(List.pairwise_iff_getElem.mp h) _ _ j n q0a
def a28(k:a true (#[],())):Sz (l,()) a b:=k
def a1a{n k:Int}(h:k∈zH 1 n):1<=k/\k<n:=by unfold zH at h;obtain⟨i,a,e⟩:=List.mem_map.mp h;have:=List.mem_range.mp a;omega
def NM:Wf (List (Int×Int)×List (Int×Int)×Unit) Bool (WL.Un×WL.Un×Unit):=λp a _=>p.1=p.2.1/\p.1.length<64/\a true (#[],#[],())
def SS :B0×List RW×List (Int×Int)×Unit->(Bool->B0×WL.Un×WL.Un×Unit->Prop)->(g9->B0×WL.Un×WL.Un×Unit->Prop)->Prop:=λp Kn _ =>
 (xQ p.1 p.2.1/\Vr p.2.1/\p.2.1.length<=35/\Arr p.1 p.2.2.1/\(p.2.2.1.map (·.1)).Pairwise (·<=·))/\Kn true 71
def Arr.eq{x:B0}{a:List (Int×Int)}(A:Arr x a)(s:(a.map (·.1)).Pairwise (·<=·)):(zD<|w9 x).map (λl=>(l,wW x l))=a:=by rw[yg ((w8 _).trans A.pm.symm) (zo _) s,lN];exact(mE λy hy=>by show (y.1,wW x y.1)=y;rw[A.hd y hy]).trans<|List.map_id _
def Zb{l:List (Int×Int)}(h:l.Pairwise (λx y=>SX.Ja y x=false)):(l.map (·.1)).Pairwise (·<=·):=List.pairwise_map.mpr (h.imp λ{p q} z=>by rcases SX.Fh.mp z with z|z<;>omega)
def zi{c:Bool}{P Q:Prop}(h:c=false)(k:Q):if c=true then P else Q:=by rw[ci<|by rw[h];decide];exact k
def a1b{c:Bool}{P Q:Prop}(h:c=true)(k:P):if c=true then P else Q:=by rw[g8 h];exact k
def a1c{a:Type}{x:a}{l:List a}{d:Decidable (x∈l)}(h:x∈l):(!@decide (x∈l) d)=false:=by rw[Bool.not_eq_false',decide_eq_true_iff];exact h
def LX :B0×List RW×List (Int×Int)×Unit->(Bool->B0×WL.Un×WL.Un×Unit->Prop)->(g9->B0×WL.Un×WL.Un×Unit->Prop)->Prop:=λp a _ =>
 (xQ p.1 p.2.1/\Vr p.2.1/\p.2.1.length<=35/\Arr p.1 p.2.2.1/\(p.2.2.1.map (·.1)).Pairwise (·<=·))/\a true 71
def Kj :B0×List RW×List (Int×Int)×Unit->(Bool->B0×WL.Un×WL.Un×Unit->Prop)->(g9->B0×WL.Un×WL.Un×Unit->Prop)->Prop:=LX
def Xi(A:Arr x a){k:Int}:(lk x.ht k).isSome=true↔k∈a.map (·.1):=#[λh=>A.pm.mem_iff.mpr<|zh h,λh=>xW<|A.pm.mem_iff.mp h]
def NN(A:Arr x a){k:Int}:(lk x.th k).isSome=true↔k∈a.map (·.2):=by
 constructor
 ·intro h;obtain⟨l,d⟩:=Option.isSome_iff_exists.mp h;have c:=A.ok.th l k d;obtain⟨e,b,q⟩:=List.mem_map.mp (Xi A |>.mp (show (lk x.ht l).isSome=true by rw[c];rfl));refine List.mem_map.mpr #[e,b,?_];rw[<- A.hd e b,q];show (lk x.ht l).getD 0=k;rw[c];rfl
 ·intro h;obtain⟨e,b,rfl⟩:=List.mem_map.mp h;rw[<- A.hd e b,(A.ok.ht _ _<|xn<|A.pm.mem_iff.mp<|List.mem_map.mpr #[_,b,rfl]).2.2.2];rfl
def a1d(A:Arr x a):(a.map (·.2)).Nodup:=by have h:(a.map (·.1)).Nodup:=A.pm.nodup_iff.mpr A.ok.nd;refine List.pairwise_map.mpr<|(List.pairwise_map.mp h).imp_of_mem λ{e f} b c n z=>n ?_;have d:=(A.ok.ht _ _<|xn<|A.pm.mem_iff.mp<|List.mem_map.mpr #[_,b,rfl]).2.2.2;have g:=(A.ok.ht _ _<|xn<|A.pm.mem_iff.mp<|List.mem_map.mpr #[_,c,rfl]).2.2.2;rw[A.hd e b]at d;rw[A.hd f c,<- z,d]at g;exact ja g
def SU(A:Arr x a):zD (x.th.map (·.1))=zD (a.map (·.2)):=by have p:(x.th.map (·.1)).Perm (a.map (·.2)):=wJ A.nt (a1d A) λk=>#[λh=>(NN A).mp<|xW h,λh=>zh<|(NN A).mpr h];exact yg ((w8 _).trans<|p.trans (w8 _).symm) (zo _)<|zo _
def VZ(A:Arr x a){k:Int}:wy x k=decide (k∈a.map (·.1)++zD (a.map (·.2))):=by rw[kZ,i4,lR,Al,<- Xi A,<- NN A];unfold wy;rw[rL]
def V0(A:Arr x a)(c:xQ x rows):(x.rk.map (·.1)).filter (λk=>!wy x k)=lns rows a:=by rw[c.ks];exact m7 λk _=>by rw[VZ A]
def xG:∀{l:List b} {i:Nat},l[i]?=↑y->(y::l.eraseIdx i).Perm l
 | [],i,h=>by simp at h
 |a::l,0,h=>by
  have h:a=y:=by simpa using h
  rw[h];exact .refl _
 |a::l,i+1,h=>by rw[oT];exact(List.Perm.swap a y _).trans<|(xG<|by simpa using h).cons a
def Em{a:Type}{l:List (Int×a)}{k:Int}:(dk l k).map (·.1)=(l.map (·.1)).filter λj=>decide (j≠k):=by unfold dk;rw[rK];rfl
section
variable{x:B0}{rows:List RW}{a:List (Int×Int)}
def Fv.a1e(b:Fv x){l:Int}(n:l∈w9 x):Fv ({ x with ht:=dk x.ht l,th:=dk x.th (wW x l)}:B0):=by
 have o:∀{t:Int},t∈w9 ({ x with ht:=dk x.ht l,th:=dk x.th (wW x l)}:B0)↔t∈w9 x/\t≠l:=λ{t}=>by show t∈(dk x.ht l).map (·.1)↔_;rw[Em,jX,i4];exact Iff.rfl
 refine#[#[b.ok.kb,b.ok.bo,b.ok.ri,b.ok.lr,b.ok.lb],?_,?_,?_,λd f e=>?_,λd f e=>?_,λc h i=>?_,?_]
 ·show ((dk x.ht l).map (·.1)).Nodup;rw[Em];exact b.nd.filter _
 ·exact mQ (iF _ _) b.len
 ·exact mQ (iF _ _) b.Y5
 ·have e:lk (dk x.ht l) d=↑f:=e;rw[zw]at e;by_cases q:d=l
  ·rw[g8 q]at e;cases e
  ·rw[ci q]at e;have g:=b.ht d f e;refine#[g.1,g.2.1,g.2.2.1,?_];show lk (dk x.th<|wW x l) f=some d;rw[zw,ci λz=>?_]
   ·exact g.2.2.2
   ·have:=(b.ht l _<|xn n).2.2.2;rw[<- z,g.2.2.2]at this;injection this with this;exact q this
 ·have e:lk (dk x.th<|wW x l) f=↑d:=e;rw[zw]at e;by_cases q:f=wW x l
  ·rw[g8 q]at e;cases e
  ·rw[ci q]at e;have g:=b.th d f e;show lk (dk x.ht l) d=↑f;rw[zw,ci λz=>?_]
   ·exact g
   ·rw[z,xn n]at g;injection g with g;exact q g.symm
 ·have h:(lk (dk x.ht l) c).isSome=true:=h;have i:(lk (dk x.th<|wW x l) c).isSome=true:=i;rw[zw]at h i;refine b.one c ?_ ?_
  ·by_cases q:c=l
   ·rw[g8 q]at h;cases h
   ·rw[ci q]at h;exact h
  ·by_cases q:c=wW x l
   ·rw[g8 q]at i;cases i
   ·rw[ci q]at i;exact i
 ·obtain⟨r,p⟩:=b.acy;refine#[r,λk m t j=>?_];have m:=o.mp m
  have s:wW ({ x with ht:=dk x.ht l,th:=dk x.th (wW x l)}:B0) k=wW x k:=by unfold wW;show (lk (dk x.ht l) k).getD 0=_;rw[zw,ci m.2]
  rw[s]at j;have j:=xv.mp j;exact p k m.1 t<|xv.mpr #[j.1,j.2.1,(o.mp j.2.2).1]
def Fv.AE(d:Fv x){low high:Int}(w:(lk x.rk low).isSome=true)(y:(lk x.rk high).isSome=true)(f:low∈yj x high)(A:wy x low=false)(B:wy x high=false)(C:low≠high)(ac:VJ 99)(D:x.ht.length+1<64)(E:x.th.length+1<64):Fv 99:=by
 have p:=Bool.or_eq_false_iff.mp A;have r:=Bool.or_eq_false_iff.mp B;have o:lk x.ht low=none:=by simpa using p.1
 have F:lk x.th low=none:=by simpa using p.2
 have G:lk x.ht high=none:=by simpa using r.1
 have s:lk x.th high=none:=by simpa using r.2
 have t:(K7.AE x low high).ht=x.ht++[(low,high)]:=Aq o;have H:(K7.AE x low high).th=x.th++[(high,low)]:=Aq s;have j:∀k,lk (K7.AE x low high).ht k=if k=low then some high else lk x.ht k:=λk=>yb;have l:∀k,lk (K7.AE x low high).th k=if k=high then some low else lk x.th k:=λk=>yb;refine#[#[d.ok.kb,d.ok.bo,d.ok.ri,d.ok.lr,d.ok.lb],?_,by rw[t];simpa using D,by rw[H];simpa using E,λm n e=>?_,λm n e=>?_,λc h i=>?_,ac]
 ·show ((K7.AE x low high).ht.map (·.1)).Nodup;rw[t,kE];refine List.nodup_append.mpr #[d.nd,q0o,λa u b f z=>?_];have f:b=low:=by simpa using f
  rw[z,f]at u;have:=xW u;rw[o]at this;cases this
 ·rw[j]at e;by_cases q:m=low
  ·rw[g8 q]at e;injection e with e;subst e;subst q;exact#[w,y,f,by rw[l,g8 rfl]]
  ·rw[ci q]at e;have g:=d.ht m n e;refine#[g.1,g.2.1,g.2.2.1,?_];rw[l,ci λz=>?_]
   ·exact g.2.2.2
   ·rw[z,s]at g;cases g.2.2.2
 ·rw[l]at e;by_cases q:n=high
  ·rw[g8 q]at e;injection e with e;subst e;subst q;rw[j,g8 rfl]
  ·rw[ci q]at e;have g:=d.th m n e;rw[j,ci λz=>?_]
   ·exact g
   ·rw[z,o]at g;cases g
 ·rw[j]at h;rw[l]at i;by_cases q:c=low
  ·rw[ci λz=>C<|q.symm.trans z,q,F]at i;cases i
  ·rw[ci q]at h;by_cases v:c=high
   ·rw[v,G]at h;cases h
   ·rw[ci v]at i;exact d.one c h i
def xQ.same(c:xQ x rows){y:B0}(b:y.rk=x.rk)(d:y.bd=x.bd)(e:y.up=x.up):xQ y rows:=by obtain⟨f,g,h,i,j⟩:=c;exact#[e.trans f,by rw[b];exact g,by rw[d];exact h,by rw[b];exact i,by rw[d];exact j]
def Arr.mem(A:Arr x a)(h:e∈a):e.1∈w9 x:=A.pm.mem_iff.mp<|List.mem_map.mpr #[e,h,rfl]
def Arr.pop(A:Arr x a){i:Nat}(h:a[i]?=↑y):Arr ({ x with ht:=dk x.ht y.1,th:=dk x.th (wW x y.1)}:B0) (a.eraseIdx i):=by
 have b:(y::a.eraseIdx i).Perm a:=xG h;have g:y∈a:=b.mem_iff.mp h8;have j:=A.mem g
 have d:(y.1::(a.eraseIdx i).map (·.1)).Perm (w9 x):=by
  have:=(b.map (λe:Int×Int=>e.1)).trans A.pm
  rwa [iI]at this
 have c:=List.nodup_cons.mp<|d.nodup_iff.mpr A.ok.nd;refine⟨A.ok.a1e j,?_,?_,λe f=>?_⟩
 ·show ((dk x.th<|wW x y.1).map (·.1)).Nodup;rw[Em];exact A.nt.filter _
 ·show ((a.eraseIdx i).map (·.1)).Perm ((dk x.ht y.1).map (·.1));rw[Em];refine wJ c.2 (A.ok.nd.filter _) λk=>?_;rw[jX,i4];have:=d.mem_iff (a:=k);rw[iK]at this;constructor
  ·exact λz=>#[this.mp<|.inr z,λw=>c.1<|w▸z]
  ·exact λz=>(this.mpr z.1).elim (λw=>io w z.2) id
 ·have l:e∈a:=b.mem_iff.mp<|ie _ f;have m:e.1≠y.1:=λz=>c.1<|z▸List.mem_map.mpr #[e,f,rfl];show (lk (dk x.ht y.1) e.1).getD 0=e.2;rw[zw,ci m];exact A.hd e l
def Arr.Kk(A:Arr x a)(c:xQ x rows)(v:rows.length<=35):x.ht.length<=35/\x.th.length<=35/\a.length<=35:=by
 have ln:=c.lr;have rn:(x.rk.map (·.1)).Nodup:=by rw[c.ks];exact vS<|NF rows
 have h1:(w9 x).length<=(x.rk.map (·.1)).length:=LK A.ok.nd rn λk hk=>zh (A.ok.ht k _<|xn hk).1
 have h2:(x.th.map (·.1)).length<=(x.rk.map (·.1)).length:=LK A.nt rn λk hk=>by obtain⟨l,e⟩:=Option.isSome_iff_exists.mp<|xW hk;exact zh (A.ok.ht l k<|A.ok.th l k e).2.1
 have h3:=A.pm.length_eq;have e:(w9 x).length=x.ht.length:=hR _;rw[hR]at h1 h2 h3;rw[hR]at h2
 lia
def Arr.add(A:Arr x a)(c:xQ x rows)(v:rows.length<=35){low high:Int}(k:(lk x.rk low).isSome=true)(l:(lk x.rk high).isSome=true)(d:low∈yj x high)(f:wy x low=false)(g:wy x high=false)(m:low≠high)(ac:VJ 99):Arr 99 (a++[(low,high)]):=by
 have q:=A.Kk c v;have h:lk x.ht low=none:=by simpa using(Bool.or_eq_false_iff.mp f).1
 have i:lk x.th high=none:=by simpa using(Bool.or_eq_false_iff.mp g).2
 have n:(K7.AE x low high).ht=x.ht++[(low,high)]:=Aq h;have o:(K7.AE x low high).th=x.th++[(high,low)]:=Aq i;refine#[A.ok.AE k l d f g m ac q0a q0a,?_,?_,λe p=>?_]
 ·rw[o,kE];refine List.nodup_append.mpr #[A.nt,q0o,λa j b d z=>?_];have d:b=high:=by simpa using d
  rw[z,d]at j;have:=xW j;rw[i]at this;cases this
 ·show ((a++[(low,high)]).map (·.1)).Perm ((K7.AE x low high).ht.map (·.1));rw[n,kE,kE];exact A.pm.append_right _
 ·show (lk (pk x.ht low high) e.1).getD 0=e.2;rw[yb];rcases List.mem_append.mp p with z|z
  ·have:e.1≠low:=λw=>by have:=xW<|A.mem z;rw[w,h]at this;cases this
   rw[ci this];exact A.hd e z
  ·have z:e=(low,high):=by simpa using z
   rw[z,g8 rfl];rfl
def SV(v:Vr rows){k:Int}(d:rowAt rows k=↑y):y.2.length<=95:=by
 have b:=v.ok k y.1 y.2 d
 have:=w4 (U:=AC rows) b.2.2.1 λc e=>by obtain⟨_,g,f⟩:=b.2.2.2.1 c e;exact xz.mpr (by rw[f];rfl)
 have h:=yz rows;have i:=v.ln
 lia
def V1(i:PD x)(b:x.ht=[])(d:x.th=[]):Arr x []:=by
 have f:w9 x=[]:=by unfold w9;rw[b];rfl
 refine#[#[i,by rw[f];exact ol,by rw[b];decide,by rw[d];decide,λl h e=>?_,λl h e=>?_,λc e=>?_,λ_=>0,λl g=>?_],by rw[d];exact ol,by rw[f];exact .refl _,λe j=>by cases j]
 ·rw[b]at e;cases e
 ·rw[d]at e;cases e
 ·rw[b]at e;cases e
 ·rw[f]at g;cases g
def SY{i:Nat}(A:Arr x a)(c:xQ x rows)(h:a[i]?=↑y)(k:∀v (b:B0),xQ b rows->Arr b (a.eraseIdx i)->d v (b,#[],())):El (x,y.1,()) d g:=by have f:=A.mem<|jy h;have e:=xn f;refine#[A.ok,?_];show if (lk x.rk y.1).isSome=true then (if (lk x.ht y.1).isSome=true then d (wW x y.1) _ else _) else _;rw[g8 (A.ok.ht _ _ e).1,g8<|by rw[e];rfl];exact k _ _ (c.same rfl rfl rfl)<|A.pop h
def Zc{low high:Int}(A:Arr x a)(c:xQ x rows)(v:Vr rows)(l:rows.length<=35)(b:rowAt rows high=↑y)(f:low∈y.2)
 (g:∀D∈[XT,XR],d D (x,#[],#[],()))(k:∀e:B0,xQ e rows->Arr e (a++[(low,high)])->m () (e,#[],#[],())):Nu (x,low,high,()) m d:=by
  have n:=v.ok high y.1 y.2 b
  obtain⟨o,u,p⟩:=n.2.2.2.1 low f
  have h:(lk x.rk low).isSome=true:=by rw[c.rk,p];rfl
  have i:(lk x.rk high).isSome=true:=by rw[c.rk,b];rfl
  have j:low∈K7.yj x high:=by rw[c.yj,zy b];exact f
  refine#[A.ok,?_]
  show if (lk x.rk low).isSome=true then (if (lk x.rk high).isSome=true then (if low∈K7.yj x high then (if wy x low=true\/wy x high=true then d XT _ else (_->d XR _)/\_) else _) else _) else _
  rw[g8 h,g8 i,g8 j]
  by_cases t:wy x low=true\/wy x high=true
  · rw[g8 t]; exact g XT q0o
  · rw[ci t]
    have r:wy x low=false:=by cases q:wy x low with|true=>exact io (.inl q) t|false=>rfl
    have s:wy x high=false:=by cases q:wy x high with|true=>exact io (.inr q) t|false=>rfl
    exact#[λ_=>g XR q0o,λac=>k _ (c.same rfl rfl rfl)<|A.add c l h i j r s (Int.ne_of_lt o) ac]
end
section
variable{q:Cq}{XL:g9}
noncomputable abbrev LY:iH:=top 29
noncomputable abbrev LZ:List Str:=["_law_bag_here"]
def V2:vz ["_law_bag_here"] LZ (vn LY):=by walk_at "sc"
abbrev S6(q:Cq)(k:Nat):=xE q "_law_rank" LZ Iu k
def V3(F:DH q "_law_rank" LY f i)(a:xE q "_law_pull" ["_law_bag_here","_law_many"] yR 1):Gq q 2 f i LZ Iu:=by
 refine' vB (wN (D':=Unit) (ms:=[0]) (j:=0) F V2 rfl rfl λk A c s H E t =>
   (vF (vT (tw_cm BM (vA (vE a (vR 0 (vr vv vp)))) vv)
   (vq<|vD<|vE a<|vR 0<|vr vv vp)
   vL)
   (vq (vD (vH (w6 (v6 (vV (vO (vw vv (vw vv (vw vv (vw vv (vw vv (vw vv (vw vv (vw vv vN))))))))))) (vA (vE a (vR 0 (vr vv vp)))))))))) λp m u h=>?_
 walk_at "wl"
 have h:∀r,0<=r->r<=12->m r (#[],()):=h;refine wU q0q q0q λr v w=>?_
 try dsimp only
 by_cases q:r=11
 ·rw[g8<|decide_eq_true q];refine wU q0q q0q λs d b=>h s d ?_;have b:s<13:=b
  lia
 ·rw[ci<|by simpa using q];refine wU q0q q0q λs d b=>?_;refine B9 λn e=>?_;have b:s<8:=b;obtain⟨x,o,_,g⟩:=xZ (l:=[(0:Int),0,1,1,1,2,2,3]) d (by simpa using b);refine e ?_;refine#[x,o,h x ?_ ?_]
  ·simp at g;lia
  ·simp at g;lia
noncomputable abbrev L0:iH:=top 30
noncomputable abbrev L4:List Str:=["_law_one","_law_other"]
def NO:vz ["_law_one","_law_other","_law_left"] L4 (vn L0):=by walk_at "sc"
def S7:(["_law_x","_law_other"]:List Str).Nodup:=by decide +kernel
def S8:(["_law_x","_law_one"]:List Str).Nodup:=by decide +kernel
abbrev L5(q:Cq)(k:Nat):=xE q "_law_join" L4 LU k
def V4(F:DH q "_law_join" L0 f l)(B:Bn q.mg):Gq q 2 f l L4 LU:=by
 refine' vB (wN (D':=Unit) (ms:=[]) (j:=1) F NO rfl rfl λm A e s H E r =>
   (vF (Aj (Ts:=["_law_x"]) (Fr:=["_law_other"]) (idx:=[1]) (k:=1) (mb:=[1]) (is:=[]) (cl:=[("_law_other",⇑s+1+1)]) 2 NO.nd rfl rfl rfl q0q rfl (wO (ss 0)) T1 rfl (wP rfl) (λa b C c d=>(vP 0 (vG S7))) (λa b C c d=>(tws_one (tw_cmI Cv (ss 0) (v6 (ss 1)) (by with_unfolding_all rfl)))) (λa b C c d=>(ss 0)))
   (vq (vD (GD rfl B.sorted (v6 (vV (AW (wq 2) (v6 (vV (wZ (Ts:=["_law_x"]) (Fr:=["_law_one"]) (idx:=[0]) (k:=1) (mb:=[1]) (is:=[]) (cl:=[("_law_one",⇑s+1)]) rfl (wO (ss 1)) T1 rfl (wP rfl) (λa b C c d=>(vP 0 (vG S8))) (λa b C c d=>(tws_one (tw_cmI Cv (ss 0) (v6 (ss 1)) (by with_unfolding_all rfl)))) (λa b C c d=>(ss 0))))))))))))) λp t u h=>?_
 walk_at "wl"
 refine B9 λn g=>?_;obtain⟨⟨v,w,x⟩,o⟩:=h;refine g ?_;refine#[v7 q0d,v8 (q:=λk=>!decide (k∈p.2.1)) (λk _ K i=>i) ?_];refine#[v7 (show p.2.1.length<=1000 by omega),v8 (q:=λk=>!decide (k∈p.1)) (λk _ K i=>i) ?_];have y:=iF (λk=>!decide (k∈p.2.1)) p.1;have z:=iF (λk=>!decide (k∈p.1)) p.2.1;refine#[v7 ?_,?_,o]
 ·show (p.1.filter λk=>!decide (k∈p.2.1)).length+(p.2.1.filter λk=>!decide (k∈p.1)).length<=1000;omega
 ·rw[ij];show (p.1.filter λk=>!decide (k∈p.2.1)).length+(p.2.1.filter λk=>!decide (k∈p.1)).length<64;omega
noncomputable abbrev L6:iH:=top 31
noncomputable abbrev L7:List Str:=["_law_rows_here"]
def V5:vz ["_law_rows_here"] L7 (vn L6):=by walk_at "sc"
def S9:(["_law_k","_law_rows_here"]:List Str).Nodup:=by decide +kernel
abbrev B7(q:Cq)(k:Nat):=xE q "_law_here" L7 Sv k
def V6(F:DH q "_law_here" L6 f o)(B:Bn q.mg):Gq q 2 f o L7 Sv:=by
 refine' vB (wN (D':=Unit) (ms:=[]) (j:=0) F V5 rfl rfl λr A c s H E D =>
   (vq (vD (wZ (Ts:=["_law_k"]) (Fr:=["_law_rows_here"]) (idx:=[0]) (k:=1) (mb:=[1]) (is:=[]) (cl:=[("_law_rows_here",⇑s+1)]) rfl (xN rfl B.range (wY rfl B.len (v6 (ss 0)))) T1 rfl (wP rfl) (λa b C i m=>(vP 0 (vG S9))) (λa b C i m=>(tws_one (tw_cm Bv (w6 (v6 (ss 1)) (ss 0)) AU))) (λa b C i m=>(ss 0)))))) λp G I h=>?_
 walk_at "wl"
 obtain⟨J,t⟩:=h;refine#[#[q0a,q0a],?_,v8 (q:=λk=>(rowAt p.1 k).isSome) (λk d K e=>?_) t]
 ·rw[xu];exact v7 q0a
 ·obtain⟨n,u⟩:=Ix d;refine B9 λv g=>?_;obtain⟨x,w,z,_⟩:=xZ (l:=p.1) n u;refine g ?_;rw[FC n z]at e;refine#[x,w,?_]
  cases x with
  |none=>exact e
  |some y=>exact e
noncomputable abbrev L8:iH:=top 32
noncomputable abbrev L9:List Str:=["_law_bag_here","_law_row_here"]
def BD:vz ["_law_bag_here","_law_row_here","_law_found","_law_count","_law_k"] L9 (vn L8):=by walk_at "sc"
abbrev Ta(q:Cq)(k:Nat):=xE q "_law_some" L9 Sw k
def V7(F:DH q "_law_some" L8 f P)(a:xE q "_law_pull" ["_law_bag_here","_law_many"] yR 2)(d:L5 q 2)(B:Bn q.mg):Gq q 3 f P L9 Sw:=by
 refine' vB (wN (D':=Unit) (ms:=[0]) (j:=3) F BD rfl rfl λQ A v s H E R =>
   (vF (vK 2 BD.nd (vO (α:=Int) vN))
   (vF (vT (tw_cmL (Hv R.units) (v6 (ss 1)) (v6 (vV (vO (α:=Int) vN))))
   (vq<|Ak 2<|pv 2)
   vL)
   (vF (vK 3 BD.nd (vE a (vR 0 (vr vv vp))))
   (vF (vT (tw_cm BM (ss 3) vv)
   (vq<|vK 3 BD.nd<|vH<|QI BU (vA<|vE a<|vR 0<|vr vv vp)<|wY rfl B.len<|v6<|ss 1)
   vL)
   (vF (xC (is:=[]) (mb:=[0]) (D1:=Bg×(List Int)×(OL Int)×Int×Int×Unit) (D2:=Bg×(List Int)×(OL Int)×Int×Int×Unit) (v9 q0q) Az rfl (xN rfl B.range (ss 3)) (vP 4 (vG BD.nd))
   (vq (vK 2 BD.nd (vE d (vM 2 (vr (vV (vO (vw (w6 (v6 (ss 1)) (vA (vE a (vR 0 (vr (wY rfl B.len (v6 (ss 1))) vp))))) vN))) vp))))) q0q q0q)
   (vq (Ak 2 (pv 2))))))))) λp L o h=>?_
 walk_at "wl"
 obtain⟨hl,M⟩:=h;by_cases w:p.2.1=[]
 ·rw[g8<|decide_eq_true w];exact M [] iP λ_ z=>by cases z
 rw[ci<|by simpa using w]
 have D:0<(p.2.1.length:Int):=by
  have:=List.length_pos_iff.mpr w
  lia
 have g:∀(n c:Int),Hy (λ(x:Int)(b:Bg×List Int×OL Int×Int×WL.Un×Unit) G (Kr:OL Int->Bg×WL.Un×Unit->Prop) o=>yR (b.1,(b.2.1.length:Int),()) (λx t=>∃k,Ez b.2.1 x=↑k/\LU (b.2.2.1.l,[k],()) (λx m=>G (t.1,b.2.1,x,b.2.2.2.1,#[],b.2.2.2.2.2)) λC m=>o C (t.1,#[],())) λC t=>o C (t.1,#[],()))
   (zH 0 n) (#[],p.2.1,#[[]],c,#[],p.2.2) (λN=>L N.2.2.1 (N.1,#[],())) L o:=by
  intro n c;refine wB (λ(r:List Int)(b:Bg×List Int×OL Int×Int×WL.Un×Unit)=>b.2.1=p.2.1/\yN b.2.2.1.l/\∀x∈b.2.2.1.l,x∈p.2.1) (zH 0 n) #[rfl,iP,(λ_ z=>by cases z)] ?_ ?_
  ·rintro x r b _ ⟨e,i,g2⟩ K S;rw[e];refine wU D q0a λr O u=>?_;refine B9 λT I=>?_;obtain⟨y,U,_,W⟩:=xZ (l:=p.2.1) O u;have X:=w4 i g2;refine I ?_;refine#[y,U,VX (show b.2.2.1.l.length+1<64 by lia),S _ #[rfl,HD i<|kC _ _,λz Y=>?_]];rcases HC.mp Y with⟨J,_⟩|⟨J,_⟩
   ·exact g2 z J
   ·rw[List.mem_singleton.mp J];exact W
  ·rintro b ⟨_,i,g2⟩;exact M _ i g2
 refine wU q0q q0q λr O u=>?_
 try dsimp only
 have u:r<7:=u;by_cases q:r=6
 ·rw[g8<|decide_eq_true q];refine wU q0q q0q λs Z i=>?_;have i:s<3:=i
  have b1:s*(p.2.1.length:Int)<=2*60:=by
   have:s*(p.2.1.length:Int)<=2*(p.2.1.length:Int):=Int.mul_le_mul_of_nonneg_right q0a q0a
   lia
  have b0:0<=s*(p.2.1.length:Int):=Int.mul_nonneg Z q0a;exact#[.inl #[q0a,q0a],#[q0a,q0a],g _ _]
 ·rw[ci<|by simpa using q];exact#[#[q0a,q0a],g _ _]
noncomputable abbrev Ma:iH:=top 33
noncomputable abbrev Mb:List Str:=["_law_rows_here","_law_row_here"]
def Eo:vz ["_law_rows_here","_law_row_here","_law_found","_law_cell"] Mb (vn Ma):=by walk_at "sc"
abbrev Tb(q:Cq)(k:Nat):=xE q "_law_edge" Mb Sy k
def V8(F:DH q "_law_edge" Ma f t)(a:L5 q 2):Gq q 3 f t Mb Sy:=by
 refine' vB (wN (D':=Unit) (ms:=[]) (j:=2) F Eo rfl rfl λu A i s H E O =>
   (vF (vK 2 Eo.nd (vO (α:=Int) vN))
   (vF (xC (is:=[]) (mb:=[]) (D1:=(List RW)×(List Int)×(OL Int)×Int×Unit) (D2:=(List RW)×(List Int)×(OL Int)×Int×Unit) (v9 q0q) Az rfl (wO (ss 1)) (vP 3 (vG Eo.nd))
   (vq (vK 2 Eo.nd (vE a (vM 2 (vr (zf (x8 (w6 (v6 (ss 0)) (ss 3)))) vp))))) q0q q0q)
   (vq (Ak 2 (pv 2)))))) λp w P h=>?_
 walk_at "wl"
 obtain⟨v,B,C⟩:=h;refine wB (λ(r:List Int)(b:List RW×List Int×OL Int×WL.Un×Unit)=>b.1=p.1/\(∀c∈r,(rowAt p.1 c).isSome=true)/\yN b.2.2.1.l/\(∀x∈b.2.2.1.l,x∈zH 0 35)/\(r.map<|eb p.1).foldl xr b.2.2.1.l=wL (eb p.1) p.2.1) p.2.1 ⟨rfl,B,iP,(λ_ z=>by cases z),rfl⟩ ?_ ?_
 ·rintro c r b _ ⟨e,o,g1,g2,d⟩ K D;refine B9 λG k=>?_;obtain⟨y,m⟩:=Option.isSome_iff_exists.mp<|o c h8;obtain⟨_,_,_,I⟩:=vI m;obtain⟨g,n⟩:=v.Y9 m;refine k ?_;rw[e];have J:=w4 g1 g2;have L:=w4 g n;rw[xu]at J L;refine⟨_,I,y,rfl,SN g1 g g2 n,D _ ⟨rfl,λc M=>o c<|ie _ M,HD g1 g,λx N=>?_,?_⟩⟩
  ·rcases HC.mp N with⟨z,_⟩|⟨z,_⟩
   ·exact g2 x z
   ·exact n x z
  ·rw[<- d];show (r.map<|eb p.1).foldl xr (jn b.2.2.1.l y.2)=(r.map<|eb p.1).foldl xr (xr b.2.2.1.l<|eb p.1 c);rw[W8 g1 g,zy m]
 ·rintro b ⟨_,_,_,_,d⟩;have d:b.2.2.1.l=wL (eb p.1) p.2.1:=d;show w b.2.2.1 _;rw[show b.2.2.1=OL.mk b.2.2.1.l from rfl,d];exact C
noncomputable abbrev Iz:iH:=top 41
noncomputable abbrev IA:List Str:=["_law_found"]
def Tc:vz ["_law_found"] IA (vn Iz):=by walk_at "sc"
abbrev CT(q:Cq)(k:Nat):=xE q "_law_whole" IA Iv k
def Td(F:DH q "_law_whole" Iz f b)(B:Bn q.mg):Gq q 2 f b IA Iv:=by
 refine' vB (wN (D':=Unit) (ms:=[]) (j:=0) F Tc rfl rfl λc A a s H E d =>
   (vq (vD (vH (ES (y9 (ty:="int") rfl B.isinstance (Bm (v:=.ty "int") rfl B.int PyProof.Rows.boot_int rfl) (ss 0)) (Bx (Yy (y9 (ty:="bool") rfl B.isinstance (Bm (v:=.ty "bool") rfl B.bool rh rfl) (ss 0))))))))) λp e g h=>?_
 walk_at "wl"
 exact h
noncomputable abbrev s_row:iH:=top 42
abbrev Te:List Str:=["_law_found"]
def Tf:vz ["_law_found","_law_one"] Te (vn s_row):=by walk_at "sc"
abbrev a1f(q:Cq)(k:Nat):=xE q "_law_row" Te Sz k
def Zd(F:DH q "_law_row" s_row f d)(a:CT q 2)(B:Bn q.mg):Gq q 3 f d Te Sz:=by
 refine' vB (wN (D':=Unit) (ms:=[]) (j:=1) F Tf rfl rfl λe A c s H E i =>
   (vF (vT (tw_not (tw_val (y9 (ty:="list") rfl B.isinstance (Bm (v:=.ty "list") rfl B.list kA rfl) (ss 0))))
   85
   vL)
   (vF (xC (is:=[]) (mb:=[]) (D1:=(List Int)×Int×Unit) (D2:=(List Int)×Int×Unit) (v9 q0q) Az rfl (wO (ss 0)) (vP 1 (vG Tf.nd))
   (vq (vT (tw_not (tw_val (vA (vE a 81))))
   85
   vL)) q0q q0q)
   (vq (vD (vH xg)))))) λp k l h=>?_
 walk_at "wl"
 rw[ci q0q];exact wB (λ(r:List Int)(b:List Int×WL.Un×Unit)=>True) p.1 trivial (λx r b _ _ K g=>g _ trivial) λ_ _=>h
noncomputable abbrev s_same:iH:=top 43
noncomputable abbrev Mc:List Str:=["_law_found","_law_due"]
def V9:vz ["_law_found","_law_due"] Mc (vn s_same):=by walk_at "sc"
abbrev Tg(q:Cq)(k:Nat):=xE q "_law_same" Mc LV k
def Wa(F:DH q "_law_same" s_same f c)(a:a1f q 3):Gq q 4 f c Mc LV:=by
 refine' vB (wN (D':=Unit) (ms:=[]) (j:=0) F V9 rfl rfl λd A b s H E e =>
   (vq (vD (vH (ES (vA (vE a (vr (ss 0) vp))) (Bx (Yw (Hv e.units) (v6 (ss 0)) (v6 (ss 1)) (vU _)))))))) λp g i h=>?_
 walk_at "wl"
 exact h
noncomputable abbrev IB:iH:=top 28
noncomputable abbrev IC:List Str:=["_law_many"]
def Bl:vz ["_law_many","_law_pairs_here","_law_threes","_law_rows_here"] IC (vn IB):=by walk_at "sc"
def Pe:(["_law_k"]:List Str).Nodup:=by decide +kernel
def Pf:(["_law_pair"]:List Str).Nodup:=by decide +kernel
def Pg:(["_law_three"]:List Str).Nodup:=by decide +kernel
abbrev Wb(q:Cq)(k:Nat):=xE q "_law_stock" IC ND k
def Th(F:DH q "_law_stock" IB f i)(B:Bn q.mg):Gq q 2 f i IC ND:=by
 refine' vB (wN (D':=Unit) (ms:=[]) (j:=3) F Bl rfl rfl λl A g s H E o =>
   (vF (vK 1 Bl.nd (vO (vw (vV (vO (vw vv (vw vv vN)))) (vw (vV (vO (vw vv (vw vv vN)))) (vw (vV (vO (vw vv (vw vv vN)))) (vw (vV (vO (vw vv (vw vv vN)))) (vw (vV (vO (vw vv (vw vv vN)))) (vw (vV (vO (vw vv (vw vv vN)))) vN))))))))
   (vF (vK 2 Bl.nd (vO (vw (vV (vO (vw vv (vw vv (vw vv vN))))) (vw (vV (vO (vw vv (vw vv (vw vv vN))))) (vw (vV (vO (vw vv (vw vv (vw vv vN))))) (vw (vV (vO (vw vv (vw vv (vw vv vN))))) vN))))))
   (vF (vK 3 Bl.nd (AW (v6 (vV (wZ (Ts:=["_law_k"]) (Fr:=[]) (idx:=[]) (k:=1) (mb:=[]) (is:=[]) (cl:=[]) rfl (xN rfl B.range vv) Zy rfl (wP rfl) (λa b C c d=>(vP 0 (vG Pe))) (λa b C c d=>tws_nil) (λa b C c d=>(zn (wK vv (vV (vO (α:=Int) vN)))))))) (v6 (vV (wZ (Ts:=["_law_pair"]) (Fr:=[]) (idx:=[]) (k:=1) (mb:=[]) (is:=[1]) (cl:=[]) rfl (Hx 1 (pv 1) q0q) Zy rfl (wP rfl) (λa b C c d=>(vP 0 (vG Pf))) (λa b C c d=>tws_nil) (λa b C c d=>(zn (wK vv (ss 0)))))))))
   (vF (vK 3 Bl.nd (AW (v6 (vV (AW (wq 3) (v6 (vV (wZ (Ts:=["_law_three"]) (Fr:=[]) (idx:=[]) (k:=1) (mb:=[]) (is:=[2]) (cl:=[]) rfl (Hx 2 (pv 2) q0q) Zy rfl (wP rfl) (λa b C c d=>(vP 0 (vG Pg))) (λa b C c d=>tws_nil) (λa b C c d=>(zn (wK vv (ss 0)))))))))) (v6 (vV (vO (vw (zn (wK vv (vV (vO (vw vv (vw vv (vw vv (vw vv vN)))))))) vN))))))
   (vq (vD (JJ (wq 3) Ht (Hu (ss 0)))))))))) λp r t h=>?_
 walk_at "wl"
 obtain⟨m,n⟩:=h;refine#[q0q,(by rw[xu];exact v7 q0q),wx (f:=λ_=>some<|some (0,[])) (λx _ K e=>e) ?_];refine#[v7 q0q,wx (f:=λx=>some<|some (1,x)) (λx _ K e=>e) ?_];refine#[v7 q0q,v7 q0q,wx (f:=λx=>some<|some (2,x)) (λx _ K e=>e) ?_];refine#[v7 q0q,v7 q0q,?_];rw[Za _ m];exact n
noncomputable abbrev Du:iH:=top 34
noncomputable abbrev Dv:List Str:=["_law_rows_here","_law_loops","_law_rank_here","_law_bag_here"]
def xo:vz ["_law_rows_here","_law_loops","_law_rank_here","_law_bag_here","_law_number","_law_edge_here","_law_beneath","_law_k","_law_kin","_law_chosen"] Dv (vn Du):=by walk_at "sc"
def DN:(["_law_at","_law_one","_law_rank_here"]:List Str).Nodup:=by decide +kernel
def Kl:(["_law_k","_law_rank_here","_law_rows_here"]:List Str).Nodup:=by decide +kernel
abbrev Ph(q:Cq)(k:Nat):=xE q "_law_edge_by" Dv BC k
def Md(F:DH q "_law_edge_by" Du f fd)(a:xE q "_law_pull" ["_law_bag_here","_law_many"] yR 3)(I:L5 q 3)(J:B7 q 3)(L:Ta q 3)(M:Tb q 3)(B:Bn q.mg):Gq q 4 f fd Dv BC:=by
 refine' vB (wN (D':=Unit) (ms:=[0,1,3]) (j:=6) F xo rfl rfl λae A aa s H E hr =>
   (vF (vK 4 xo.nd (vH (wY rfl B.len (wq 0))))
   (vF (vK 5 xo.nd (vO (α:=Int) vN))
   (vF (vT (tw_cm BM (ss 2) vv)
   (vF (xt 1 (wK vv (vV (vO (vw (ss 4) vN)))))
   (vq (Ak 5 (pv 5))))
   vL)
   (vF (vT (tw_cm QN (vA (vE a (vR 3 (vr vv vp)))) vv)
   (vF (Aj (Ts:=["_law_at","_law_one"]) (Fr:=["_law_rank_here"]) (idx:=[2]) (k:=2) (mb:=[2]) (is:=[1]) (cl:=[("_law_rank_here",⇑s+1+1)]) 6 xo.nd rfl rfl rfl q0q rfl (Hx 1 (pv 1) q0q) T1 rfl (wP rfl) (λd g C U W=>(Ea 0 1 (Et rfl (xj (vG (i:=0) DN) (xj (vG (i:=1) DN) Cb))) q0q q0q)) (λd g C U W=>(tws_one (tw_cm BM (ss 0) (Af G6 (ss 2) vv)))) (λd g C U W=>(ss 1)))
   (vF (xC (is:=[]) (mb:=[0,1,3]) (D1:=(OL RW)×(OL (Int×(List Int)))×Int×Bg×Int×(OL Int)×(OL (List Int))×Int×Un×Un×Unit) (D2:=(OL RW)×(OL (Int×(List Int)))×Int×Bg×Int×(OL Int)×(OL (List Int))×Int×Un×Un×Unit) (v9 q0q) Az rfl (xN rfl B.range (w6 (v6 (vV (vO (vw vv (vw vv (vw vv (vw vv (vw vv (vw vv (vw vv (vw vv vN))))))))))) (vA (vE a (vR 3 (vr vv vp)))))) (vP 7 (vG xo.nd))
   (vq (vT (tw_cmL (EQ hr.units) (wq 6) (v6 (vV (vO (α:=(List Int)) vN))))
   (vq<|vK 5 xo.nd<|vE I<|vM 5<|vr (w6 (wq 6)<|vA<|vE a<|vR 3<|vr (wY rfl B.len<|wq 6) vp) vp)
   vL)) q0q q0q)
   (vF (vT (tw_cmL (Hv hr.units) (wq 5) (v6 (vV (vO (α:=Int) vN))))
   (vq<|xt 1<|wK (ss 2)<|vV<|vO<|vw (ss 4) vN)
   vL)
   (vq (Ak 5 (pv 5))))))
   vL)
   (vF (Aj (Ts:=["_law_k"]) (Fr:=["_law_rank_here","_law_rows_here"]) (idx:=[2,0]) (k:=1) (mb:=[1,2]) (is:=[]) (cl:=[("_law_rows_here",⇑s+1),("_law_rank_here",⇑s+1+1)]) 8 xo.nd rfl rfl rfl q0q rfl (wO (vV (vE J (vM 0 vp)))) Zz rfl (wP rfl) (λd g C U W=>(vP 0 (vG Kl))) (λd g C U W=>(tws_one (tw_cm BM (AV (x8 (w6 (wq 2) (ss 0)))) (ss 1)))) (λd g C U W=>(ss 0)))
   (vF (vK 9 xo.nd (vE L (vR 3 (vM 8 vp))))
   (vF (xt 1 (wK (ss 2) (vV (AW (wq 9) (v6 (vV (vO (vw (ss 4) vN))))))))
   (vq (vD (vE M (vM 0 (vM 9 vp))))))))))))) λp Kn Ke h=>?_
 walk_at "wl"
 refine B9 λX D=>?_;obtain⟨v,hn,hq,Y,r0,r1,hk⟩:=h;refine D ?_;by_cases h0:p.2.2.1=0
 ·rw[g8<|decide_eq_true h0];refine⟨yy q0a,?_⟩;refine hk [] [(0,[(p.1.l.length:Int)])] (FD v q0a λr e z=>?_) (λu N=>?_) q0o
  ·cases z;exact#[r0,r1,iP,(λ_ z=>by cases z),rfl]
  ·rcases List.mem_append.mp N with z|z
   ·exact FE<|Y u z
   ·rw[List.mem_singleton.mp z];have:=SF (rows:=p.1.l) (r:=p.2.2.1);rw[h0]at this ⊢;exact this
 ·rw[ci<|by simpa using h0];refine wU q0q q0q λx g0 g1=>?_
  try dsimp only
  by_cases hx:x<3
  ·rw[g8<|decide_eq_true hx];refine⟨v7 q0a,wx (f:=λu:Int×List Int=>if decide (u.1=p.2.2.1-1)=true then some u.2 else none) (λu _ K o=>?_) ?_⟩
   ·show if decide (u.1=p.2.2.1-1)=true then K ↑u.2 _ else K none _;by_cases z:decide (u.1=p.2.2.1-1)=true
    ·rw[g8 z]at o ⊢;exact o
    ·rw[ci z]at o ⊢;exact o
   ·have ly:(p.2.1.l.filterMap λu:Int×List Int=>if decide (u.1=p.2.2.1-1)=true then some u.2 else none).length<=100:=i5 (List.length_filterMap_le _ _) hq
    have Z:∀z∈(p.2.1.l.filterMap λu:Int×List Int=>if decide (u.1=p.2.2.1-1)=true then some u.2 else none),Lp p.1.l (p.2.2.1-1,z):=λz hz=>by
     obtain⟨u,N,e⟩:=List.mem_filterMap.mp hz;by_cases q:decide (u.1=p.2.2.1-1)=true
     ·rw[g8 q]at e;cases e;rw[<- jY q];exact Y u N
     ·rw[ci q]at e;cases e
    generalize (p.2.1.l.filterMap λu:Int×List Int=>if decide (u.1=p.2.2.1-1)=true then some u.2 else none)=ys at ly Z;refine wU q0q q0q λs g2 g3=>?_;refine B9 λX D=>?_;obtain⟨m,m1,_,m3⟩:=xZ (l:=[(2:Int),2,2,2,0,1,3,4]) g2 (by simpa using g3);refine D ?_;refine#[m,m1,#[by simp at m3;lia,by simp at m3;lia],?_];refine wB (λ(r:List Int) (b:OL RW×OL 93×Int×Bg×Int×OL Int×OL (List Int)×WL.Un×WL.Un×WL.Un×Unit)=>b.1=p.1/\b.2.1=p.2.1/\b.2.2.1=p.2.2.1/\b.2.2.2.2.1=(p.1.l.length:Int)/\b.2.2.2.2.2.2.1.l=ys/\Lp p.1.l (p.2.2.1-1,b.2.2.2.2.2.1.l)) (zH 0 m) #[rfl,rfl,rfl,rfl,rfl,iP,(λ_ z=>by cases z),rfl] ?_ ?_
    ·intro y r;refine a0y λb1 b2 b3 b4 b5 O b7 b8=>?_;rintro _ ⟨Q,R,S,T,e5,n⟩ K o;dsimp only at Q R S T e5 n ⊢;subst e5;by_cases q:b7.l=[]
     ·rw[ci<|by simp[q]];exact o _ #[Q,R,S,T,rfl,n]
     ·rw[g8<|by simp[q]];have:=List.length_pos_iff.mpr q;refine wU q0a q0a λt t0 t1=>?_;refine B9 λX D=>?_;obtain⟨z,z1,_,z3⟩:=xZ (l:=b7.l) t0 t1;have G:=Z z z3;have s1:=w4 n.1<|n.sub q0a;have s2:=w4 G.1<|G.sub q0a;refine D ?_;rw[xu]at s1 s2;have s1:O.l.length<=35:=s1;have s2:z.length<=35:=s2;refine⟨z,z1,SN n.1 G.1 (n.sub q0a)<|G.sub q0a,o _ ⟨Q,R,S,T,rfl,?_⟩⟩;show Lp p.1.l (p.2.2.1-1,jn O.l z);have nn:∀c,(∃e,rowAt p.1.l c=some (p.2.2.1-1,e))->(eb p.1.l c).Nodup:=λc ⟨e,he⟩=>by rw[zy he];exact vS (v.Y9 he).1
      refine#[HD n.1 G.1,λc P=>?_,?_]
      ·rcases HC.mp P with⟨w,_⟩|⟨w,_⟩
       ·exact n.2.1 c w
       ·exact G.2.1 c w
      ·show wL (eb p.1.l) (jn O.l z)=[];rw[W8 n.1 G.1,Vc n.1 G.1 (λc P=>nn c<|n.2.1 c P)<|λc P=>nn c<|G.2.1 c P,show wL (eb p.1.l) O.l=[] from n.2.2,show wL (eb p.1.l) z=[] from G.2.2];rfl
    ·refine a0y λb1 b2 b3 b4 b5 O b7 b8=>?_;rintro⟨Q,R,S,T,e5,n⟩;dsimp only at Q R S T e5 n ⊢;subst Q R S T
     have va:Vr (p.1.l++[↑(p.2.2.1,O.l)]):=FD v q0a λr e z=>by
      cases z;exact#[r0,r1,n.1,n.2.1,n.2.2]
     by_cases q:O.l=[]
     ·rw[g8<|decide_eq_true q];refine⟨yy q0a,hk O.l [(p.2.2.1,[(p.1.l.length:Int)])] va (λu N=>?_) q0o⟩;rcases List.mem_append.mp N with z|z
      ·exact FE<|Y u z
      ·rw[List.mem_singleton.mp z,q];exact SF
     ·rw[ci<|by simpa using q];have:=hk O.l [] va (λu N=>FE<|Y u<|by simpa using N) q0o;rw[lP]at this;exact this
  ·rw[ci<|by simpa using hx];refine⟨(show p.1.l.length<1000 by lia),v7 (by have:=yz p.1.l;show (AC p.1.l).length<=1000;lia),v8 (q:=λk=>decide ((rowAt p.1.l k).map (·.1)=↑p.2.2.1)) (λk ab K o=>?_) ?_⟩
   ·obtain⟨y,Z⟩:=Option.isSome_iff_exists.mp<|xz.mp ab;refine#[_,(vI Z).2.2.2,y,rfl,?_];rw[Z]at o;show if decide (y.1=p.2.2.1)=true then _ else _;by_cases z:y.1=p.2.2.1
    ·rw[g8<|by simp[z]]at o ⊢;exact o
    ·rw[ci<|by simpa using z]at o ⊢;exact o
   ·have hs:=iF (λk=>decide ((rowAt p.1.l k).map (·.1)=↑p.2.2.1))<|AC p.1.l;have af:=yz p.1.l;refine⟨(show ((AC p.1.l).filter _).length<60 by lia),λl l1 l2=>?_⟩
    have hl:∀c∈l,∃e,rowAt p.1.l c=↑(p.2.2.1,e):=λc P=>by
     have:=(List.mem_filter.mp<|l2 c P).2
     cases e:rowAt p.1.l c with
     |none=>rw[e]at this;simp at this
     |some y =>
      rw[e]at this;have this:y.1=p.2.2.1:=by simpa using this
      exact#[y.2,by rw[<- this]]
    obtain⟨c1,c2,c3⟩:=GU v l1 hl;have ll:l.length<=((AC p.1.l).filter λk=>decide ((rowAt p.1.l k).map (·.1)=↑p.2.2.1)).length:=w4 l1 l2;refine#[v7 (show l.length+1<=1000 by lia),yy q0a,v,λc P=>?_,?_]
    ·obtain⟨e,he⟩:=hl c P;show (rowAt p.1.l c).isSome=true;rw[he];rfl
    ·refine hk _ [(p.2.2.1,l++[(p.1.l.length:Int)])] (FD v q0a λr e z=>?_) (λu N=>?_) q0o
     ·cases z;exact#[r0,r1,yF _ _,c1,c2]
     ·rcases List.mem_append.mp N with z|z
      ·exact FE<|Y u z
      ·rw[List.mem_singleton.mp z];exact c3
noncomputable abbrev Me:iH:=top 35
noncomputable abbrev Mg:List Str:=["_law_bag_here","_law_most"]
def As:vz ["_law_bag_here","_law_most","_law_rows_here","_law_k","_law_loops","_law_rank_here"] Mg (vn Me):=by walk_at "sc"
def Ti:(["_law_k"]:List Str).Nodup:=by decide +kernel
abbrev Ze(q:Cq)(k:Nat):=xE q "_law_rows" Mg SA k
def Wc(F:DH q "_law_rows" Me f fd)(o:xE q "_law_pull" ["_law_bag_here","_law_many"] yR 4)(I:Wb q 4)(M:S6 q 4)(D:Ph q 4)(B:Bn q.mg):Gq q 5 f fd Mg SA:=by
 refine' vB (wN (D':=Unit) (ms:=[0]) (j:=4) F As rfl rfl λab A Y s H E hr =>
   (vF (vK 2 As.nd (vO (α:=61) vN))
   (vF (vT (tw_cm BM (vA (vE o (vR 0 (vr vv vp)))) vv (vU _))
   (vq<|vK 2 As.nd<|vE I<|vr (vA<|vE o<|vR 0<|vr vv vp) vp)
   vL)
   (vF (Aj (Ts:=["_law_k"]) (Fr:=[]) (idx:=[]) (k:=1) (mb:=[]) (is:=[]) (cl:=[]) 4 As.nd rfl rfl rfl q0q rfl (xN rfl B.range (wY rfl B.len (wq 2))) Zy rfl (wP rfl) (λN O C ex pn=>(vP 0 (vG (i:=0) Ti rfl (ku rfl)) q0q)) (λN O C ex pn=>(tws_one (tw_cm QN (ss 0) vv (vU _)))) (λN O C ex pn=>(wK vv (vV (vO (vw (ss 0) vN))))))
   (vF (vT (tw_cm W2 (wY rfl B.len (wq 2)) vv (vU _))
   (vq<|vK 4 As.nd<|AW (wq 4)<|v6<|vV<|vO<|vw (wK vv<|vV<|vO<|vw vv<|vw vv<|vw vv vN)<|vw (wK vv<|vV<|vO<|vw vv<|vw vv<|vw vv vN)<|vw (wK vv<|vV<|vO<|vw vv<|vw vv<|vw vv vN) vN)
   vL)
   (vF (xC (is:=[]) (mb:=[0]) (D1:=Bg×Int×(OL 61)×Int×(OL (Int×(List Int)))×Un×Unit) (D2:=Bg×Int×(OL 61)×Int×(OL (Int×(List Int)))×Un×Unit) (v9 q0q) Az rfl (xN rfl B.range (vA (vE o (vR 0 (vr (Af AK (ss 1) vv) vp))))) (vP 3 (vG (i:=3) As.nd rfl (ku rfl)) q0q)
   (vq (vT (tw_cm BM (vA (vE o (vR 0 (vr vv vp)))) vv (vU _))
   (vq<|xt 2 M4)
   (M0 (D':=Bg×Int×(OL 61)×Int×(OL (Int×(List Int)))×Un×Unit) (vF (vK 5 As.nd (vE M (vR 0 vp)))
   (vq (xt 2 (zn (wK (ss 5) (vV (vE D (vR 2 (vR 4 (vr (ss 5) (vR 0 vp)))))))))))))) q0q q0q)
   (vq (Ak 2 (pv 2))))))))) λp X J h=>?_
 walk_at "wl"
 obtain⟨hm,hk⟩:=h
 have T:∀(a:List RW) (w:List 93) (n:Int),n<=19->Vr a->a.length<=15->(∀u∈w,Lp a u)->w.length<=20 ->
   Hy (λ(x:Int) (b:Bg×Int×OL RW×WL.Un×OL 93×WL.Un×Unit) L (Kr:OL RW->Bg×WL.Un×Unit->Prop) J =>
    yR (b.1,9,()) (λx d=>if decide (x=8)=true then b.2.2.1.l.length<hV/\L (d.1,b.2.1,#[b.2.2.1.l++[none]],#[],b.2.2.2.2.1,b.2.2.2.2.2.1,b.2.2.2.2.2.2) else
     Iu (d.1,()) (λx d=>BC (b.2.2.1,b.2.2.2.2.1,x,d.1,()) (λP d=>d.1.l.length<hV/\L (d.2.2.2.1,b.2.1,#[d.1.l++[↑(x,P.l)]],#[],d.2.1,#[],b.2.2.2.2.2.2)) λC d=>J C (d.2.2.2.1,#[],())) λC d=>J C (d.1,#[],())) λC d=>J C (d.1,#[],()))
   (zH 0 n) (#[],p.2.1,#[a],#[],#[w],#[],p.2.2) (λU=>X U.2.2.1 (U.1,#[],())) X J:=by
  intro a w n hn v hl Z ae;refine wB (λ(r:List Int) (b:Bg×Int×OL RW×WL.Un×OL 93×WL.Un×Unit)=>Vr b.2.2.1.l/\(∀u∈b.2.2.2.2.1.l,Lp b.2.2.1.l u)/\b.2.2.1.l.length+r.length<=34/\b.2.2.2.2.1.l.length+r.length<=100) (zH 0 n) #[v,Z,(by rw[xu];show a.length+_<=34;omega),(by rw[xu];show w.length+_<=100;omega)] ?_ ?_
  ·rintro y r b _ ⟨S,g2,g3,g4⟩ K G;rw[iE]at g3 g4;refine wU q0q q0q λs s0 s1=>?_;dsimp only;by_cases q:s=8
   ·rw[g8<|decide_eq_true q];refine⟨yy q0d,G _ ⟨FD S q0d (λr e z=>by cases z),λu Q=>FE<|g2 u Q,?_,?_⟩⟩
    ·show (b.2.2.1.l++[none]).length+r.length<=34;rw[ij,iB];omega
    ·show b.2.2.2.2.1.l.length+r.length<=100;omega
   ·rw[ci<|by simpa using q];intro t t0 t1;refine⟨S,(show b.2.2.1.l.length<=34 by omega),(show b.2.2.2.2.1.l.length<=100 by omega),g2,t0,t1,λe u v1 v2 v3=>#[yy (show b.2.2.1.l.length<1000 by omega),G _ #[v1,v2,?_,?_]]⟩
    ·show (b.2.2.1.l++[↑(t,e)]).length+r.length<=34;rw[ij,iB];omega
    ·show (b.2.2.2.2.1.l++u).length+r.length<=100;rw[ij];omega
  ·rintro b ⟨S,_,g3,_⟩;exact hk _ S q0d
 have R:∀(a:List RW) (W:List 93),Vr a->a.length<=15->(∀u∈W,Lp a u)->W.length<=20->∀g:Bg,yR (g,p.2.1+1,()) (λx d=>(-2 ^ 62<=x/\x<2 ^ 62)/\Hy (λ(x:Int) (b:Bg×Int×OL RW×WL.Un×OL 93×WL.Un×Unit) L (Kr:OL RW->Bg×WL.Un×Unit->Prop) J =>
    yR (b.1,9,()) (λx d=>if decide (x=8)=true then b.2.2.1.l.length<hV/\L (d.1,b.2.1,#[b.2.2.1.l++[none]],#[],b.2.2.2.2.1,b.2.2.2.2.2.1,b.2.2.2.2.2.2) else
     Iu (d.1,()) (λx d=>BC (b.2.2.1,b.2.2.2.2.1,x,d.1,()) (λP d=>d.1.l.length<hV/\L (d.2.2.2.1,b.2.1,#[d.1.l++[↑(x,P.l)]],#[],d.2.1,#[],b.2.2.2.2.2.2)) λC d=>J C (d.2.2.2.1,#[],())) λC d=>J C (d.1,#[],())) λC d=>J C (d.1,#[],()))
   (zH 0 x) (d.1,p.2.1,#[a],#[],#[W],#[],p.2.2) (λU=>X U.2.2.1 (U.1,#[],())) X J) (λC d=>J C (d.1,#[],())):=by
  intro a W v l1 Z l2 g;exact wU q0d q0d λr g0 S=>#[#[q0d,q0d],T a W r q0d v l1 Z l2]
 refine wU q0q q0q λx g0 S=>?_;dsimp only;by_cases hx:x=1
 ·rw[g8<|decide_eq_true hx];refine wU q0q q0q λm m0 m1=>#[m0,?_];dsimp only;have c:=List.all_eq_true.mp VW m.toNat<|List.mem_range.mpr q0d;unfold chk at c;simp only[iY,rL,i4]at c;refine B9 λaf aa=>?_;obtain⟨⟨⟨⟨c1,c2⟩,c3⟩,c4⟩,c5⟩:=c;have v:=SM c1;refine aa ?_;refine#[#[q0d,q0d],(by rw[xu];exact v7 q0d),wx (f:=λk:Int=>if decide (k<4)=true then some (0,[k]) else none) (λk _ K G=>?_) ?_]
  ·show if decide (k<4)=true then K ↑(0,[k]) _ else K none _;by_cases z:decide (k<4)=true
   ·rw[g8 z]at G ⊢;exact G
   ·rw[ci z]at G ⊢;exact G
  ·have l0:∀u∈ZD (CW.take m.toNat).length,Lp (CW.take m.toNat) u:=λu Q=>SK<|List.all_eq_true.mp c2 u Q;by_cases h9:9<((CW.take m.toNat).length:Int)
   ·rw[g8<|decide_eq_true h9];have c5:lp1.all (LpB<|CW.take m.toNat)=true:=c5.elim (λz=>io z q0d) id;refine#[v7 (show (ZD (CW.take m.toNat).length).length+3<=1000 by omega),R _ (ZD (CW.take m.toNat).length++lp1) v c4 (λu Q=>?_) ?_ _]
    ·rcases List.mem_append.mp Q with z|z
     ·exact l0 u z
     ·exact SK<|List.all_eq_true.mp c5 u z
    ·rw[ij];show _+3<=20;omega
   ·rw[ci<|by simpa using h9];exact R _ (ZD (CW.take m.toNat).length) v c4 l0 q0d _
 ·rw[ci<|by simpa using hx];refine⟨⟨q0q,q0q⟩,v7 q0q,wx (f:=λk:Int=>if decide (k<4)=true then some (0,[k]) else none) (λk _ K G=>?_) ?_⟩
  ·show if decide (k<4)=true then K ↑(0,[k]) _ else K none _;by_cases z:decide (k<4)=true
   ·rw[g8 z]at G ⊢;exact G
   ·rw[ci z]at G ⊢;exact G
  ·exact R [] [] (SM rfl) q0q (λu Q=>by cases Q) q0q _
noncomputable abbrev Mh:iH:=top 36
noncomputable abbrev Mi:List Str:=["_law_body","_law_rows_here"]
def IE:vz ["_law_body","_law_rows_here","_law_number","_law_row_here"] Mi (vn Mh):=by walk_at "sc"
abbrev Zf(q:Cq)(k:Nat):=xE q "_law_fill" Mi (SE) k
set_option tactic.hygienic true in
def Wd(F:DH q "_law_fill" Mh f W)(ct:AB q.K C)(a:Xf q 8)(g:NC q 8)(B:Bn q.mg):Gq q 9 f W Mi (SE):=by
 refine' vB (wN (D':=Unit) (ms:=[]) (j:=2) F IE rfl rfl λX A D s H E hr =>
   (vF (xC (is:=[]) (mb:=[]) (D1:=(Bd C true)×(List RW)×Int×RW×Unit) (D2:=(Bd C true)×(List RW)×Int×RW×Unit) (v9 q0q) Az rfl (Va rfl B.enumerate (ss 1)) (Ea 2 3 (Et rfl (xj (vG (i:=2) IE.nd) (xj (vG (i:=3) IE.nd) Cb))) q0q q0q)
   (vq (vT (tw_cm Yv (ss 3) AU)
   (vF (ww (vA (wu 0 a (vr vv (vr (vV (vO (α:=Int) vN)) vp)))))
   (vq (ww (vA (wu 0 g 98)))))
   (vq (ww (vA (wu 0 a (vr (AV (x8 (ss 3))) (vr (vV (M5 rfl B.list (v6 (zf (x8 (ss 3)))))) vp)))))))) q0q q0q)
   (vq (Ak 0 (pv 0))))) λp Kn Ke h=>?_
 walk_at "wl"
 obtain⟨Y,v,Z⟩:=h;refine wB (λ(r:List (Int×RW)) (b:B0×List RW×WL.Un×WL.Un×Unit)=>∃k,r=OG k (p.2.1.drop k)/\k<=p.2.1.length/\xQ b.1 (p.2.1.take k)/\b.1.ht=[]/\b.1.th=[]) (OG 0 p.2.1) #[0,rfl,jl _,?_] ?_ ?_
 ·show xQ p.1 []/\p.1.ht=[]/\p.1.th=[];rw[Y];exact#[VY,rfl,rfl]
 ·rintro x r b _ ⟨k,e,O,c,m,n⟩ K hK
  have l:k<p.2.1.length:=by
   rcases Nat.lt_or_ge k p.2.1.length with z|z
   ·exact z
   ·rw[List.drop_of_length_le z]at e;cases e
  rw[oA l]at e;have e1:x=((k:Int),p.2.1[k]):=by cases e;rfl
  have e2:r=OG (k+1) (p.2.1.drop<|k+1):=by cases e;rfl
  have tk:p.2.1.take (k+1)=p.2.1.take k++[p.2.1[k]]:=(List.take_append_getElem l).symm;have G:(p.2.1.take k).length=k:=List.length_take_of_le O;have I:=VU v k;have next:∀o:B0,xQ o (p.2.1.take k++[p.2.1[k]])->o.ht=[]->o.th=[]->K (o,b.2.1,#[],#[],b.2.2.2.2):=λo h m1 m2=>hK _ #[k+1,e2,l,by rw[tk];exact h,m1,m2]
  have P:rowAt p.2.1 (k:Int)=p.2.1[k]:=FC q0a (by rw[l8];exact jJ l);have ln:=v.ln;subst e1;dsimp only
  cases z:p.2.1[k] with
  |none =>
   rw[g8<|show (none:RW).isNone=true from rfl];rw[z]at next
   refine LW c I (nP 0) q0q iP (λ_ q=>by cases q) rfl λQ J u w=>?_;have R:Vr (p.2.1.take k++[↑(0,[])]):=a08 I q0a;refine NH J R (by have:=wp (rows:=p.2.1.take k) (z:=↑(0,[]));rw[G]at this;rw[this];rfl) (λh t=>?_) (by unfold wy;rw[u,w,m,n];rfl) λx2 S g3 g4=>next x2 ?_ (g3.trans<|u.trans m)<|g4.trans<|w.trans n
   ·cases q:rowAt (p.2.1.take k++[↑(0,[])]) h with
    |none=>unfold eb at t;rw[q]at t;cases t
    |some y =>
     rw[zy q]at t;have T:=((R.ok h y.1 y.2 q).2.2.2.1 _ t).1;have L:=(vI q).2.1;rw[ij,iB,G]at L
     lia
   ·rw[l8,List.set_append_right _ _ q0a,G,pF]at S;exact S
  |some y =>
   rw[ci q0o];rw[z]at next P
   refine B9 λaa M=>?_;obtain⟨T,L,a3,U,a5⟩:=v.ok k y.1 y.2 P;refine M ?_;refine#[y,rfl,y,rfl,LW c I T L a3 (λd N=>?_) ?_ λQ J u w=>next Q J (u.trans m)<|w.trans n]
   ·obtain⟨q1,e',q2⟩:=U d N;exact#[e',by rw[yt,g8 q1];exact q2]
   ·rw[<- a5];refine xL λd N=>?_;unfold eb;rw[yt,g8 (U d N).1]
 ·rintro b ⟨k,e,O,c,m,n⟩
  have:k=p.2.1.length:=by
   rcases Nat.lt_or_ge k p.2.1.length with z|z
   ·rw[oA z]at e;cases e
   ·lia
  rw[this,vk]at c;exact Z _ c m n
noncomputable abbrev Mj:iH:=top 37
noncomputable abbrev Ml:List Str:=["_law_field","_law_rows_here","_law_bag_here","_law_tries"]
def zA:vz ["_law_field","_law_rows_here","_law_bag_here","_law_tries","_law_arrows","_law_k","_law_highs","_law_gone","_law_high","_law_low"] Ml (vn Mj):=by walk_at "sc"
def Tj:(["_law_k","_law_rows_here"]:List Str).Nodup:=by decide +kernel
abbrev Zg(q:Cq)(k:Nat):=xE q "_law_ties" Ml (SQ) k
def We(F:DH q "_law_ties" Mj f fd)(ct:AB q.K C)(u:B7 q 6)(g:xE q "_law_pull" ["_law_bag_here","_law_many"] yR 6)(n:NA q 6)(O:Xh q 6)(a:a0W q XT XR "Tied" "RingOfArrows")(B:Bn q.mg):Gq q 7 f fd Ml (SQ):=by
  refine' vB (wN (D':=Unit) (ms:=[0,2]) (j:=6) F zA rfl rfl λaf A Z s H E W =>
      (vF (vK 4 zA.nd (vO (α:=(Int×Int)) vN))
      (vF (Aj (Ts:=["_law_k"]) (Fr:=["_law_rows_here"]) (idx:=[1]) (k:=1) (mb:=[1]) (is:=[]) (cl:=[("_law_rows_here",⇑s+1)]) 6 zA.nd rfl rfl rfl q0q rfl (wO (vV (vE u 81))) T1 rfl (wP rfl) (λJ L C ex pn=>(vP 0 (vG (i:=0) Tj rfl (ku rfl)) q0q)) (λJ L C ex pn=>(tws_one (tw_cmL (EQ W.units) (v6 (zf (x8 (w6 (v6 (ss 1)) (ss 0))))) (v6 (vV (vO (α:=Int) vN))) (vU _)))) (λJ L C ex pn=>(ss 0)))
      (vF (xC (is:=[]) (mb:=[0,2]) (D1:=(Bd C true)×(List 61)×Bg×Int×(OL (Int×Int))×Int×(OL Int)×Un×Un×Un×Unit) (D2:=(Bd C true)×(List 61)×Bg×Int×(OL (Int×Int))×Int×(OL Int)×Un×Un×Un×Unit) (v9 q0q) Az rfl (xN rfl B.range (ss 3)) (vP 5 (vG (i:=5) zA.nd rfl (ku rfl)) q0q)
      (vq (vT (tw_w (Hw (tw_cmL (EQ W.units) (wq 4) (v6 (vV (vO (α:=(Int×Int)) vN))) (vU _)) (D9 (tw_cm BM (vA (vE g (vR 2 (vr vv vp)))) vv (vU _)))))
      (M0 (D':=(Bd C true)×(List 61)×Bg×Int×(OL (Int×Int))×Int×(OL Int)×Un×Un×Un×Unit) (vF (vK 7 zA.nd (vH (OQ 4 (pv 4) (vA (vE g (vR 2 (vr (wY rfl B.len (wq 4)) vp)))) (λh=>Gp j0 sM sN Qb (pv 4) h))))
      (vq (ww (vA (wu 0 n (vr (AV (ss 7)) vp)))))))
      (HH (w':=λ(d:(Bd C true)×(List 61)×Bg×Int×(OL (Int×Int))×Int×(OL Int)×Un×Un×Un×Unit) (Kn:(Bd C true)×(List 61)×Bg×Int×(OL (Int×Int))×Int×(OL Int)×Un×Un×Un×Unit->Prop) _ _=>(xQ d.1 d.2.1/\Vr d.2.1/\d.2.1.length<=35/\Arr d.1 d.2.2.2.2.1.l/\d.2.2.2.2.2.2.1.l=(AC d.2.1).filter (λk=>!decide (eb d.2.1 k=[])))/\∀M:(Bd C true)×(List 61)×Bg×Int×(OL (Int×Int))×Int×(OL Int)×Un×Un×Un×Unit,(M.2.1=d.2.1/\M.2.2.2.2.2.2.1=d.2.2.2.2.2.2.1/\xQ M.1 d.2.1/\Arr M.1 M.2.2.2.2.1.l)->Kn M) (vq (vT (tw_cmL (EQ W.units) (wq 6) (v6 (vV (vO (α:=Int) vN))) (vU _))
      (M0 (D':=(Bd C true)×(List 61)×Bg×Int×(OL (Int×Int))×Int×(OL Int)×Un×Un×Un×Unit) (vF (vK 8 zA.nd (vH (w6 (wq 6) (vA (vE g (vR 2 (vr (wY rfl B.len (wq 6)) vp)))))))
      (vF (vK 9 zA.nd (vH (w6 (v6 (zf (x8 (w6 (v6 (ss 1)) (ss 8))))) (vA (vE g (vR 2 (vr (wY rfl B.len (v6 (zf (x8 (w6 (v6 (ss 1)) (ss 8)))))) vp)))))))
      (vF (Vq rfl (YU rfl a.m1 rfl a.m2 a.x1 a.x2) (a0V 0 O W ct.cl (λE1 Φ aa=>(pv 0)) (λE1 Φ aa=>(vr (ss 9) (vr (ss 8) vp)))) (λx' =>
      (vq (vK 8 zA.nd (vH (Lk vv))))))
      (vq (vT (tw_cm W3 (ss 8) vv (vU _))
      (vq<|xt 4<|wK (ss 9)<|ss 8)
      vL))))))
      vL)) (by
   refine QZ λQ R b3 b4 P b6 S b8 b9 T U=>?_
   intro Kn Kr Ke h
   walk_at "wl"
   refine B9 λx m=>?_
   obtain⟨⟨c,v,N,A,o⟩,t⟩:=h
   refine m ?_
   dsimp only at c v N A o t ⊢
   have sl:hV=16777216:=jo
   have al:=A.Kk c N
   by_cases q:S.l=[]
   · rw[ci<|by simp[q]]
     exact t _ #[rfl,rfl,c,A]
   · rw[g8<|by simp[q]]
     have l7:S.l.length<=35:=by rw[o];have:=iF (λk=>!decide (eb R k=[]))<|AC R;have:=yz R;omega
     have p7:0<S.l.length:=List.length_pos_iff.mpr q
     refine wU q0d q0d λi X i1=>?_
     refine B9 λx m=>?_
     obtain⟨hg,a1,a2,Y⟩:=xZ X i1
     refine m ?_
     rw[o,jX]at Y
     obtain⟨y,G⟩:=Option.isSome_iff_exists.mp<|xz.mp Y.1
     have yn:y.2≠[]:=λz=>by have:=Y.2;rw[zy G,z]at this;simp at this
     have yl:y.2.length<=95:=by
         exact SV v G
     have py:0<y.2.length:=List.length_pos_iff.mpr yn
     refine#[hg,a1,_,(vI G).2.2.2,y,rfl,_,(vI G).2.2.2,y,rfl,wU q0d q0d λi' ab ae=>?_]
     refine B9 λx m=>?_
     obtain⟨lo,l1,l2,l3⟩:=xZ ab ae
     refine m ?_
     refine#[lo,l1,Zc A c v N G l3 (λD hD=>#[hD,?_]) λx' c' A'=>?_]
     · rw[ci<|λz => io (jY z) q0d]
       exact t _ #[rfl,rfl,c,A]
     · rw[g8<|decide_eq_true (vI G).1]
       exact#[by show P.l.length<hV;omega,t _ #[rfl,rfl,c',A']])))) q0q q0q)
      (vq (vD (LC rfl B.sorted (wq 4)))))))) λp Kn Ke h=>?_
  walk_at "wl"
  refine B9 λx m=>?_
  obtain⟨c0,v,N,n1,n2,tr,h⟩:=h
  have sl:hV=16777216:=jo
  refine m ?_
  refine#[by show p.2.1.length<1000;omega,by show (AC p.2.1).length<=hV;have:=yz p.2.1;omega,?_]
  refine v8 (q:=λk=>!decide (eb p.2.1 k=[])) (λk hk K t=>?_) ?_
  · obtain⟨y, G⟩ := Option.isSome_iff_exists.mp (xz.mp hk)
    refine#[_,(vI G).2.2.2,y,rfl,?_]
    rw[zy G]at t
    exact t
  dsimp only
  refine#[q0d,?_]
  refine wB (λ(_:List Int) (b:B0×List RW×Bg×Int×OL (Int×Int)×WL.Un×OL Int×WL.Un×WL.Un×WL.Un×Unit)=>b.2.1=p.2.1/\b.2.2.2.2.2.2.1.l=(AC p.2.1).filter (λk=>!decide (eb p.2.1 k=[]))/\xQ b.1 p.2.1/\Arr b.1 b.2.2.2.2.1.l) _ #[rfl,rfl,c0,V1 (c0.ZC v) n1 n2] ?_ ?_
  · intro k r
    refine QZ λQ R b3 b4 P b6 S b8 b9 T U=>?_
    rintro _ ⟨rfl,o,c,A⟩ K t
    dsimp only at o c A ⊢
    have al:=A.Kk c N
    by_cases e5:P.l=[]
    · rw[ci (by simp[e5]), ci ig]
      exact#[#[c,v,N,A,o],λM I=>t _ #[I.1,by rw[I.2.1];exact o,I.2.2.1,I.2.2.2]]
    · rw[g8<|by simp[e5]]
      refine wU q0q q0q λz z0 z1=>?_
      by_cases e8:z=8
      · rw[g8<|decide_eq_true e8]
        have p5:0<P.l.length:=List.length_pos_iff.mpr e5
        refine wU q0d q0d λi X i1=>?_
        refine B9 λx m=>?_
        obtain⟨y,a1,a2,Y⟩:=xZ X i1
        refine m ?_
        exact#[X,y,a2,q0d,SY A c a2 λw x' c' A'=>t _ #[rfl,o,c',A']]
      · rw[ci<|by simpa using e8]
        exact#[#[c,v,N,A,o],λM I=>t _ #[I.1,by rw[I.2.1];exact o,I.2.2.1,I.2.2.2]]
  · refine QZ λQ R b3 b4 P b6 S b8 b9 T U => ?_
    rintro⟨rfl,o,c,A⟩
    have c:xQ Q p.2.1:=c
    have A:Arr Q P.l:=A
    have al:=A.Kk c N
    refine#[by show P.l.length<64;omega,λps hp so=>h Q ps c #[A.ok,A.nt,(hp.map _).trans A.pm,λe he=>A.hd e<|hp.mem_iff.mp he]<|Zb so]
noncomputable abbrev IF:iH:=top 38
abbrev IG:List Str:=["_law_bag_here","_law_most"]
def CU:vz ["_law_bag_here","_law_most","_law_rows_here","_law_field","_law_arrows"] IG (vn IF):=by walk_at "sc"
abbrev Wg(q:Cq)(k:Nat):=xE q "_law_house" IG (NK) k
def Tk(F:DH q "_law_house" IF f D)(e:Mk q.K C g)(i:vZ q.P q.w q.K q.mg q.base (wh q.P q.w) 8 g b ["self"] (Eg C))(k:Binds q.K b ["self"] [])(d:q.mg "Field"=↑(.ref C))(l:Ze q 9)(m:Zf q 9)(o:Zg q 9)(r:xE q "_law_pull" ["_law_bag_here","_law_many"] yR 9)(B:Bn q.mg):Gq q 10 f D IG (NK):=by
 refine' vB (wN (D':=Unit) (ms:=[0]) (j:=3) F CU rfl rfl λG A u s H E I =>
   (vF (vK 2 CU.nd (vE l (vR 0 81)))
   (vF (vK 3 CU.nd (vE m (UT (Rt e i I rfl d k xM) (vM 2 vp))))
   (vF (vK 4 CU.nd (vE o (vR 3 (vM 2 (vR 0 (vr (vA (vE r (vR 0 (vr (Af AK (QI BU vv (wY rfl B.len (wq 2))) vv) vp)))) vp))))))
   (vq (Vl 3 2 4 (pv 3) (pv 2) (pv 4))))))) λp R S h=>?_
 walk_at "wl"
 obtain⟨J,h⟩:=h;refine#[J,λt v y=>?_];refine#[rfl,v,λx c L M=>?_];dsimp only;refine#[.inl q0q,wU (n:=2*(t.length:Int)+1) q0d q0d λz T U=>?_];exact#[c,v,qY y,L,M,by show 0<=z/\z<=1000;omega,λN a O A Q=>h N t a O v y A Q]
noncomputable abbrev FF:iH:=top 39
noncomputable abbrev FG:List Str:=["_law_arrows"]
def Pk:vz ["_law_arrows"] FG (vn FF):=by walk_at "sc"
def FH:(["_law_low","_law_high"]:List Str).Nodup:=by decide +kernel
abbrev FJ(q:Cq)(k:Nat):=xE q "_law_tails" FG Ki k
def Pl(F:DH q "_law_tails" FF f l):Gq q 2 f l FG Ki:=by
 refine' vB (wN (D':=Unit) (ms:=[]) (j:=0) F Pk rfl rfl λm A c s H E o =>
   (vq (vD (wZ (Ts:=["_law_low","_law_high"]) (Fr:=[]) (idx:=[]) (k:=2) (mb:=[]) (is:=[]) (cl:=[]) rfl (wO (ss 0)) Zy rfl (wP rfl) (λa b C d g=>(Ea 0 1 (Et rfl (xj (vG (i:=0) FH) (xj (vG (i:=1) FH) Cb))) q0q q0q)) (λa b C d g=>tws_nil) (λa b C d g=>(ss 0)))))) λp r t h=>?_
 walk_at "wl"
 obtain⟨u,h⟩:=h;have v:hV=16777216:=jo;refine#[q0a,?_];refine wx (f:=λ(e:Int×Int)=>↑e.1) (λe w K n=>n) ?_;rw[pf];exact h
noncomputable abbrev IH:iH:=top 40
abbrev II:List Str:=["_law_arrows"]
def Tl:vz ["_law_arrows"] II (vn IH):=by walk_at "sc"
def GV:(["_law_low","_law_high"]:List Str).Nodup:=by decide +kernel
abbrev IJ(q:Cq)(k:Nat):=xE q "_law_heads" II NL k
def To(F:DH q "_law_heads" IH f l)(B:Bn q.mg):Gq q 2 f l II NL:=by
 refine' vB (wN (D':=Unit) (ms:=[]) (j:=0) F Tl rfl rfl λm A c s H E r =>
   (vq (vD (GD rfl B.sorted (v6 (vV (wZ (Ts:=["_law_low","_law_high"]) (Fr:=[]) (idx:=[]) (k:=2) (mb:=[]) (is:=[]) (cl:=[]) rfl (wO (ss 0)) Zy rfl (wP rfl) (λa b C d g=>(Ea 0 1 (Et rfl (xj (vG (i:=0) GV) (xj (vG (i:=1) GV) Cb))) q0q q0q)) (λa b C d g=>tws_nil) (λa b C d g=>(ss 1))))))))) λp t u h=>?_
 walk_at "wl"
 obtain⟨n,h⟩:=h;have v:hV=16777216:=jo;refine#[q0a,?_];refine wx (f:=λ(e:Int×Int)=>↑e.2) (λe w K o=>o) ?_;rw[pf];exact#[by rw[hR];exact n,h]
noncomputable abbrev Mm:iH:=top 44
noncomputable abbrev Mn:List Str:=["_law_rows_here","_law_arrows"]
def NP:vz ["_law_rows_here","_law_arrows","_law_bound"] Mn (vn Mm):=by walk_at "sc"
def Tq:(["_law_k","_law_bound"]:List Str).Nodup:=by decide +kernel
abbrev Zh(q:Cq)(k:Nat):=xE q "_law_lone" Mn SR k
def Wh(F:DH q "_law_lone" Mm f o)(a:FJ q 2)(b:IJ q 2)(c:B7 q 2):Gq q 3 f o Mn SR:=by
 refine' vB (wN (D':=Unit) (ms:=[]) (j:=1) F NP rfl rfl λr A g s H E i =>
   (vF (vK 2 NP.nd (AW (v6 (vV (vE a 81))) (v6 (vV (vE b 81)))) (hx:=rG rfl))
   (vq (vD (wZ (Ts:=["_law_k"]) (Fr:=["_law_bound"]) (idx:=[2]) (k:=1) (mb:=[1]) (is:=[]) (cl:=[("_law_bound",⇑s+1)]) rfl (wO (vV (vE c (vr (ss 0) vp)))) T1 rfl (wP rfl) (λd e C l m=>(vP 0 (vG Tq))) (λd e C l m=>(tws_one (tw_cmI Cv (ss 0) (wq 1) (by with_unfolding_all rfl)))) (λd e C l m=>(ss 0))))))) λp v w h=>?_
 walk_at "wl"
 obtain⟨i,n,t⟩:=h;have x:hV=16777216:=jo;have y:(p.2.1.map (·.1)).length=p.2.1.length:=hR _;have z:(zD (p.2.1.map (·.2))).length=p.2.1.length:=by rw[(w8 _).length_eq,hR]
 have B:=yz p.1;refine#[n,n,?_];refine#[by show (p.2.1.map (·.1)).length+(zD (p.2.1.map (·.2))).length<=hV;lia,i,?_];exact#[by show (AC p.1).length<=hV;lia,v8 (q:=λk=>!decide (k∈p.2.1.map (·.1)++zD (p.2.1.map (·.2)))) (λk _ K u=>u) t]
abbrev IK:iH:=top 47
abbrev IL:List Str:=["_law_found","_law_due"]
def Tr:vz ["_law_found","_law_due"] IL (vn IK):=by walk_at "sc"
abbrev Wi(q:Cq)(k:Nat):=xE q "_law_truth" IL Iw k
def Tt(F:DH q "_law_truth" IK f b)(B:Bn q.mg):Gq q 2 f b IL Iw:=by
 refine' vB (wN (D':=Unit) (ms:=[]) (j:=0) F Tr rfl rfl λc A a s H E d =>
   (vq (vD (vH (ES (y9 (ty:="bool") rfl B.isinstance (Bm (v:=.ty "bool") rfl B.bool rh rfl) (ss 0)) (Bx (a0o BM (ss 0) (ss 1) (vU _)))))))) λp e g h=>?_
 walk_at "wl"
 rw[g8 rfl];exact h
abbrev Au:iH:=top 48
abbrev Av:List Str:=["_law_body","_law_rows_here"]
def zF:vz ["_law_body","_law_rows_here","_law_cell"] Av (vn Au):=by walk_at "sc"
abbrev IM(q:Cq)(k:Nat):=xE q "_law_cells_kept" Av (CQ) k
def Gb(F:DH q "_law_cells_kept" Au f O)(L:AB q.K C)(e:Tg q 6)(a:B7 q 6)(n:Wi q 6)(o:CT q 6)(t:Ia q 6)(g:RZ q 6)(l:RY q 6)(d:VI q 6)(m:R8 q 6)(B:Bn q.mg):Gq q 7 f O Av (CQ):=by
 refine' vB (wN (D':=Unit) (ms:=[0]) (j:=1) F zF rfl rfl λP A z s H E M =>
   (vF (vT (tw_w (xU (tw_not (tw_val (vA (vE e (vr (vV (zq 0 t M L.cl xM (pv 0))) (vr (vV (vE a 81)) vp)))))) (xJ (tw_cm Ct (vA (zq 0 g M L.cl xM (pv 0))) (wY rfl B.len (v6 (ss 1))) (vU _)))))
   85
   vL)
   (vF (xC (is:=[]) (mb:=[0]) (D1:=(Bd C true)×(List 61)×Int×Unit) (D2:=(Bd C true)×(List 61)×Int×Unit) (v9 q0q) Az rfl (OB rfl B.range (Lk vv) (Af AK (wY rfl B.len (v6 (ss 1))) vv) (λh=>N3 rfl B.range h)) (vP 2 (vG (i:=2) zF.nd rfl (ku rfl)) q0q)
   (vq (vT (tw_not (tw_val (vA (vE n (vr (vA (wu 0 l 98)) (vr (Yx M6 (ss 2) (v6 (vV (vE a 81))) (by with_unfolding_all rfl)) vp))))))
   85
   vL)) q0q q0q)
   (vF (xC (is:=[]) (mb:=[0]) (D1:=(Bd C true)×(List 61)×Int×Unit) (D2:=(Bd C true)×(List 61)×Int×Unit) (v9 q0q) Az rfl (wO (vV (vE a 81))) (vP 2 (vG (i:=2) zF.nd rfl (ku rfl)) q0q)
   (vF (vT (tw_w (xU (tw_cm Ct (vA (wu 0 d 98)) (AV (x8 (w6 (v6 (ss 1)) (ss 2)))) (vU _)) (xJ (tw_not (tw_val (vA (vE o (vr (vA (wu 0 d 98)) vp))))))))
   85
   vL)
   (vq (vT (tw_not (tw_val (vA (vE e (vr (vV (wu 0 m 98)) (vr (zf (x8 (w6 (v6 (ss 1)) (ss 2)))) vp))))))
   85
   vL))) q0q q0q)
   (vq (vD (vH xg))))))) λp S T h=>?_
 walk_at "wl"
 obtain⟨c,v,h⟩:=h;have U:=v.ln;refine#[c.ZC v,(show p.2.1.length<1000 by omega),CS c.ks ?_];rw[ci q0q];show if (!decide (p.1.up=(p.2.1.length:Int)))=true then _ else _;rw[ci<|by simp[c.up]];refine⟨⟨q0q,q0q,q0d,q0d⟩,?_⟩;refine wB (λ(r:List Int)(b:B0×List RW×WL.Un×Unit)=>b.1=p.1/\b.2.1=p.2.1) _ #[rfl,rfl] ?_ ?_
 ·rintro k r ⟨D,G,I⟩ _ ⟨u,w⟩ K J;dsimp only at u w ⊢;subst u w;refine#[(show p.2.1.length<1000 by omega),SO (c.a07 k) ?_];rw[ci q0q];exact J _ #[rfl,rfl]
 ·rintro⟨D,G,I⟩ ⟨u,w⟩;dsimp only at u w ⊢;subst u w;refine#[(show p.2.1.length<1000 by omega),?_];refine wB (λ(r:List Int)(b:B0×List RW×WL.Un×Unit)=>b.1=p.1/\b.2.1=p.2.1/\∀k∈r,(rowAt p.2.1 k).isSome=true) _ #[rfl,rfl,λk Q=>xz.mp Q] ?_ ?_
  ·rintro k r ⟨D,G,I⟩ _ ⟨u,w,N⟩ K J;dsimp only at u w ⊢;subst u w;obtain⟨y,x⟩:=Option.isSome_iff_exists.mp<|N k h8;refine NJ c x ⟨_,(vI x).2.2.2,y,rfl,?_⟩;rw[ci q0o];refine NJ c x<|Bk ?_;rw[ci q0q];refine Pd c v x ⟨_,(vI x).2.2.2,y,rfl,CS rfl ?_⟩;rw[ci q0q];exact J _ ⟨rfl,rfl,λj R=>N j<|ie _ R⟩
  ·rintro⟨D,G,I⟩ ⟨u,w,_⟩;dsimp only at u w ⊢;subst u w;exact h
abbrev IN:iH:=top 45
abbrev IP:List Str:=["_law_found","_law_due"]
def Km:vz ["_law_found","_law_due","_law_k"] IP (vn IN):=by walk_at "sc"
abbrev NQ(q:Cq)(k:Nat):=xE q "_law_pairs" IP NM k
def Tu(F:DH q "_law_pairs" IN f o)(a:CT q 3)(B:Bn q.mg):Gq q 4 f o IP NM:=by
 refine' vB (wN (D':=Unit) (ms:=[]) (j:=1) F Km rfl rfl λt A d s H E u =>
   (vF (vT (tw_w (xU (tw_not (tw_val (y9 (ty:="list") rfl B.isinstance (Bm (v:=.ty "list") rfl B.list kA rfl) (ss 0)))) (xJ (tw_cm Ct (wY rfl B.len (v6 (ss 0))) (wY rfl B.len (v6 (ss 1))) (vU _)))))
   85
   vL)
   (vF (xC (is:=[]) (mb:=[]) (D1:=(List (Int×Int))×(List (Int×Int))×Int×Unit) (D2:=(List (Int×Int))×(List (Int×Int))×Int×Unit) (v9 q0q) Az rfl (xN rfl B.range (wY rfl B.len (v6 (ss 1)))) (vP 2 (vG (i:=2) Km.nd rfl (ku rfl)) q0q)
   (vF (vT (tw_w (xU (tw_not (tw_val (y9 (ty:="tuple") rfl B.isinstance (Bm (v:=.ty "tuple") rfl B.tuple qV rfl) (w6 (v6 (ss 0)) (ss 2))))) (xJ (tw_cm Ct (Vk rfl B.len (w6 (v6 (ss 0)) (ss 2))) vv (vU _)))))
   85
   vL)
   (vq (vT (tw_w (xU (tw_not (tw_val (vA (vE a (vr (AV (w6 (v6 (ss 0)) (ss 2))) vp))))) (xU (tw_not (tw_val (vA (vE a (vr (zf (w6 (v6 (ss 0)) (ss 2))) vp))))) (xJ (tw_cm (QO u.units) (w6 (v6 (ss 0)) (ss 2)) (w6 (v6 (ss 1)) (ss 2)) (vU _))))))
   85
   vL))) q0q q0q)
   (vq (vD (vH xg)))))) λp C D h=>?_
 walk_at "wl"
 obtain⟨e,n,k⟩:=h;rw[e]at n ⊢;refine rM (ci q0q)<|rM (ci q0o) ⟨⟨q0d,q0d⟩,?_⟩;refine wB (λ(r:List Int) (b:List (Int×Int)×List (Int×Int)×WL.Un×Unit)=>b.1=p.2.1/\b.2.1=p.2.1/\∀j∈r,0<=j/\j<(p.2.1.length:Int)) _ #[rfl,rfl,λj w=>Ix w] ?_ λ_ _=>k;intro j r;refine a2L λG I J L=>?_;rintro _ ⟨l,m,g⟩ K x;dsimp only at l m ⊢;subst l m;obtain⟨y,c,_⟩:=xZ (g j h8).1 (g j h8).2;exact#[y,c,rM (ci q0q) #[y,c,rM (ci q0q) #[y,c,Bk<|rM (ci q0q) ⟨y,c,Bk<|rM (ci q0q) ⟨y,c,y,c,rM (ci q0o)<|x _ ⟨rfl,rfl,λi z=>g i<|ie _ z⟩⟩⟩]]]
abbrev Mo:iH:=top 46
abbrev Mp:List Str:=["_law_field","_law_rows_here","_law_arrows"]
def BE:vz ["_law_field","_law_rows_here","_law_arrows","_law_tails_here","_law_heads_here","_law_cell","_law_ahead","_law_behind"] Mp (vn Mo):=by walk_at "sc"
abbrev Tv(q:Cq)(k:Nat):=xE q "_law_book" Mp (LX) k
def Wj(F:DH q "_law_book" Mo f Z)(O:AB q.K C)(n:FJ q 7)(u:IJ q 7)(a:Tg q 7)(B:Zh q 7)(w:NQ q 7)(D:B7 q 7)(d:CT q 7)(x:Ik q 7)(o:Kg q 7)(y:NB q 7)(t:Fy q 7)(g:O7 q 7)(m:Pb q 7):Gq q 8 f Z Mp (LX):=by
 refine' vB (wN (D':=Unit) (ms:=[0]) (j:=5) F BE rfl rfl λaa A S s H E J =>
   (vF (vK 3 BE.nd (vE n 98))
   (vF (vK 4 BE.nd (vE u 98))
   (vF (vT (tw_w (xU (tw_not (tw_val (vA (vE a (vr (vV (zq 0 x J O.cl xM (pv 0))) (vM 3 vp)))))) (xJ (tw_not (tw_val (vA (vE a (vr (vV (zq 0 o J O.cl xM (pv 0))) (vM 4 vp)))))))))
   85
   vL)
   (vF (vT (tw_w (xU (tw_not (tw_val (vA (vE a (vr (vV (zq 0 y J O.cl xM (pv 0))) (vr (vV (vE B (vr (ss 1) 98))) vp)))))) (xJ (tw_not (tw_val (vA (vE w (vr (vV (zq 0 t J O.cl xM (pv 0))) 98))))))))
   85
   vL)
   (vF (xC (is:=[]) (mb:=[0]) (D1:=(Bd C true)×(List 61)×(List (Int×Int))×(OL Int)×(OL Int)×Int×Un×Un×Unit) (D2:=(Bd C true)×(List 61)×(List (Int×Int))×(OL Int)×(OL Int)×Int×(Option Int)×(Option Int)×Unit) (v9 q0q) Az rfl (wO (vV (vE D 81))) (vP 5 (vG (i:=5) BE.nd rfl (ku rfl)) q0q)
   (vF (vK 6 BE.nd (wu 0 g (vr (ss 5) vp)))
   (vF (vK 7 BE.nd (wu 0 m (vr (ss 5) vp)))
   (vq (vT (tw_cmI M6 (ss 5) (wq 3) (by with_unfolding_all rfl))
   (vq (vT (tw_w (xU (tw_not (tw_val (vA (vE d (vr (x8 (ss 6)) vp))))) (xU (tw_cmI (Ni J.units) (wK (ss 5) (x8 (ss 6))) (v6 (ss 2)) (by with_unfolding_all rfl)) (xJ (tw_cm Bv (ss 7) AU (vU _))))))
   85
   vL))
   (vq (vT (tw_cmI M6 (ss 5) (wq 4) (by with_unfolding_all rfl))
   (vq (vT (tw_w (xU (tw_not (tw_val (vA (vE d (vr (x8 (ss 7)) vp))))) (xU (tw_cmI (Ni J.units) (wK (x8 (ss 7)) (ss 5)) (v6 (ss 2)) (by with_unfolding_all rfl)) (xJ (tw_cm Bv (ss 6) AU (vU _))))))
   85
   vL))
   (vq (vT (tw_w (xU (tw_cm Bv (ss 6) AU (vU _)) (xJ (tw_cm Bv (ss 7) AU (vU _)))))
   85
   vL)))))))) q0q q0q)
   (vq (vD (vH xg))))))))) λp Kn Ke h=>?_
 walk_at "wl"
 refine B9 λab T=>?_;obtain⟨⟨c,v,ln,A,U⟩,k⟩:=h;have al:=A.Kk c ln;have lr:=c.lr;refine T ?_;refine#[by show p.2.2.1.length<64;omega,by show p.2.2.1.length<64;omega,by show p.1.ht.length<64;omega,A.ok.nd,CS (yg ((w8 _).trans A.pm.symm) (zo _) U)<|zi rfl #[by show p.1.th.length<64;omega,CS (SU A)<|zi rfl #[A.ok.ok,by show p.1.rk.length<=1000;omega,?_]]];refine#[by show p.2.1.length<1000;omega,by show p.2.2.1.length<64;omega,CS (V0 A c)<|zi rfl #[by show p.1.ht.length<64;omega,A.ok.nd,A.eq U,?_,zi rfl #[by show p.2.1.length<1000;omega,?_]]]
 ·show ((zD<|w9 p.1).map λl=>(l,wW p.1 l)).length<64;rw[A.eq U];omega
 ·refine wB (λ(r:List Int) (b:B0×List RW×List (Int×Int)×OL Int×OL Int×WL.Un×WL.Un×WL.Un×Unit)=>(b.1=p.1/\b.2.2.1=p.2.2.1/\b.2.2.2.1.l=p.2.2.1.map (·.1)/\b.2.2.2.2.1.l=zD (p.2.2.1.map (·.2)))/\∀j∈r,j∈AC p.2.1) _ #[#[rfl,rfl,rfl,rfl],λ_ z=>z] ?_ ?_
  ·rintro j r b _ ⟨⟨W,e2,P,Q⟩,X⟩ K M;have js:=xz.mp<|X j h8;have Y:(lk p.1.rk j).isSome=true:=by rw[c.rk,iL];exact js
   have M:=λb' G I h3 h4=>M b' #[#[G,I,h3,h4],λz hz=>X z<|ie _ hz];rw[W,e2,P,Q];show if (lk p.1.rk j).isSome=true then (if (lk p.1.rk j).isSome=true then _ else _) else _;rw[g8 Y,g8 Y];by_cases q:j∈p.2.2.1.map (·.1)
   ·obtain⟨e,L,N⟩:=List.mem_map.mp q;have G:lk p.1.ht j=↑e.2:=by rw[xn<|A.pm.mem_iff.mp q,<- A.hd e L,N]
    have I:lk p.1.th j=none:=by
     cases z:lk p.1.th j with
     |none=>rfl
     |some l=>exact(A.ok.one j (by rw[G];rfl)<|by rw[z];rfl).elim
    refine a1b (decide_eq_true q) #[e.2,G,Bk<|zi rfl #[e.2,G,zi (a1c<|by rw[<- N];exact L)<|zi (by rw[I];rfl)<|M _ rfl rfl P Q]]
   ·have G:lk p.1.ht j=none:=Nv λz=>q<|A.pm.mem_iff.mpr z;refine zi (iC q) ?_;by_cases R:j∈zD (p.2.2.1.map (·.2))
    ·obtain⟨e,L,N⟩:=List.mem_map.mp<|Al.mp R;have I:lk p.1.th j=↑e.1:=by rw[<- N,<- A.hd e L];exact(A.ok.ht _ _<|xn<|A.pm.mem_iff.mp<|List.mem_map.mpr #[e,L,rfl]).2.2.2
     refine a1b (decide_eq_true R) #[e.1,I,Bk<|zi rfl #[e.1,I,zi (a1c<|by rw[<- N];exact L)<|zi (by rw[G];rfl)<|M _ rfl rfl P Q]]
    ·have I:lk p.1.th j=none:=by
      cases z:lk p.1.th j with
      |none=>rfl
      |some l=>exact io (Al.mpr<|(NN A).mp<|by rw[z];rfl) R
     exact zi (iC R)<|zi (by rw[G];rfl)<|zi (by rw[I];rfl)<|M _ rfl rfl P Q
  ·rintro b ⟨⟨W,_⟩,_⟩;rw[W];exact k
abbrev Mr:iH:=top 49
abbrev Ms:List Str:=["_law_field","_law_rows_here","_law_arrows"]
def Wk:vz ["_law_field","_law_rows_here","_law_arrows"] Ms (vn Mr):=by walk_at "sc"
abbrev Zi(q:Cq)(k:Nat):=xE q "_law_kept" Ms (SS) k
def Wl{f:g9}{fd:iW}(F:DH q "_law_kept" Mr f fd)(ct:AB q.K C)(IQ:IM q 7)(Wm:NQ q 7)(Tw:Fy q 7):Gq q 8 f fd Ms (SS):=by
 refine' vB (wN (D':=Unit) (ms:=[0]) (j:=0) F Wk rfl rfl λTX A outer s H E hr =>
   (vq (vD (vH (ES (vA (vE IQ (vR 0 81))) (Bx (vA (vE Wm (vr (vV (zq 0 Tw hr ct.cl xM (pv 0))) 98))))))))) λp Kn Ke h=>?_
 walk_at "wl"
 refine B9 λj0z j0y=>?_;obtain⟨⟨c,v,ln,A,so⟩,k⟩:=h;have al:=A.Kk c ln;refine j0y ?_;refine#[c,v,rM (g8 rfl) #[by show p.1.ht.length<64;omega,A.ok.nd,A.eq so,?_,k]];show ((zD<|w9 p.1).map λl=>(l,wW p.1 l)).length<64;rw[A.eq so];omega
abbrev FK:iH:=top 50
abbrev FL:List Str:=["_law_field","_law_rows_here","_law_arrows"]
def Pm:vz ["_law_field","_law_rows_here","_law_arrows"] FL (vn FK):=by walk_at "sc"
abbrev Tx(q:Cq)(k:Nat):=xE q "_law_booked" FL (Kj) k
def Pn(F:DH q "_law_booked" FK f l)(a:Zi q 8)(b:Tv q 8):Gq q 9 f l FL (Kj):=by
 refine' vB (wN (D':=Unit) (ms:=[0]) (j:=0) F Pm rfl rfl λm A d s H E o =>
   (vq (vD (vH (ES (vA (vE a (vR 0 (vr (ss 1) 98)))) (Bx (vA (vE b (vR 0 (vr (ss 1) 98)))))))))) λp r t h=>?_
 walk_at "wl"
 refine B9 λn e=>?_;obtain⟨⟨c,v,g,A,i⟩,k⟩:=h;refine e ?_;refine#[#[c,v,g,A,i],?_];show if true=true then _ else _;rw[g8 rfl];exact#[#[c,v,g,A,i],k]
noncomputable abbrev Mt:iH:=top 51
abbrev Mu:List Str:=["_law_rows_here","_law_cell"]
def Wn:vz ["_law_rows_here","_law_cell"] Mu (vn Mt):=by walk_at "sc"
def Tz:(["_law_k","_law_cell","_law_rows_here"]:List Str).Nodup:=by decide +kernel
abbrev Zj(q:Cq)(k:Nat):=xE q "_law_over" Mu NE k
def Wp(F:DH q "_law_over" Mt f n)(a:B7 q 2):Gq q 3 f n Mu NE:=by
 refine' vB (wN (D':=Unit) (ms:=[]) (j:=0) F Wn rfl rfl λo A d s H E u =>
   (vq (vD (wZ (Ts:=["_law_k"]) (Fr:=["_law_cell","_law_rows_here"]) (idx:=[1,0]) (k:=1) (mb:=[1,2]) (is:=[]) (cl:=[("_law_rows_here",⇑s+1),("_law_cell",⇑s+1+1)]) rfl (wO (vV (vE a (vr (ss 0) vp)))) Zz rfl (wP rfl) (λb c C e g=>(vP 0 (vG (i:=0) Tz rfl (ku rfl)) q0q)) (λb c C e g=>(tws_one (tw_cmI M6 (ss 1) (v6 (zf (x8 (w6 (v6 (ss 2)) (ss 0))))) (by with_unfolding_all rfl)))) (λb c C e g=>(ss 0)))))) λp v w h=>?_
 walk_at "wl"
 obtain⟨r,h⟩:=h;have x:=yz p.1;refine#[r,v7 (show (AC p.1).length<=1000 by omega),v8 (q:=λk=>decide<|p.2.1∈eb p.1 k) (λk t K l=>?_) h];obtain⟨y,m⟩:=Option.isSome_iff_exists.mp<|xz.mp t;rw[zy m]at l;exact#[_,(vI m).2.2.2,y,rfl,l]
end
noncomputable abbrev TB:iH:=top 26
def Zk{K:hI}{p:YO K×Unit}{a:Bg->WL.Un×Unit->Prop}{b:g9->WL.Un×Unit->Prop}(k:a #[] (#[],())):Rl K p a b:=k
def Po{a:List (Int×Int)}:a.Nodup->∀{i:Nat} {y:Int×Int},a[i]?=↑y->a.filter (λz=>!decide (z=y))=a.eraseIdx i:=by
 induction a with
 |nil=>intro _ i y h;simp at h
 |cons z a c =>
  intro n i y h;have b:=List.nodup_cons.mp n
  cases i with
  |zero =>
   have e:z=y:=by simpa using h
   subst e;rw[jw,ci q0o];show a.filter _=a
   exact List.filter_eq_self.mpr λw d=>by
    have:w≠z:=λq=>b.1<|q▸d;simp[this]
  |succ i =>
   have h:a[i]?=↑y:=by simpa using h
   have e:z≠y:=λq=>b.1<|q▸jy h;rw[jw,g8 (by simp[e]),c b.2 h];rfl
def Arr.nd(A:Arr x a):a.Nodup:=List.Pairwise.of_map (·.1) (λ_ _ h q=>h<|congrArg _ q)<|A.pm.nodup_iff.mpr A.ok.nd
def Arr.perm(A:Arr x a)(p:a.Perm b):Arr x b:=#[A.ok,A.nt,(p.map _).symm.trans A.pm,λe c=>A.hd e<|p.mem_iff.mpr c]
def Pp{i:Nat}(A:Arr x a)(h:a[i]?=↑y)(k:b y.2 (({ x with ht:=dk x.ht y.1,th:=dk x.th (wW x y.1)}:B0),#[],())):El (x,y.1,()) b d:=by have c:=jy h;have e:=xn<|A.mem c;refine#[A.ok,?_];show if (lk x.rk y.1).isSome=true then (if (lk x.ht y.1).isSome=true then b (wW x y.1) _ else _) else _;rw[g8 (A.ok.ht _ _ e).1,g8<|by rw[e];rfl];have q:=A.hd y c;rw[<- q]at k;exact k
def Wq{i:Nat}(A:Arr x a)(c:xQ x rows)(ln:rows.length<=35)(h:a[i]?=↑y)(k:∀x':B0,xQ x' rows->Arr x' a->Kn () (x',#[],#[],())):Nu (({ x with ht:=dk x.ht y.1,th:=dk x.th (wW x y.1)}:B0),y.1,y.2,()) Kn Ke:=by
 have ya:=jy h;have e:=xn<|A.mem ya;have A':=A.pop h;have c':xQ ({ x with ht:=dk x.ht y.1,th:=dk x.th (wW x y.1)}:B0) rows:=c.same rfl rfl rfl;have q:=A.hd y ya;rw[q]at e A' c' ⊢;have hh:=A.ok.ht _ _ e
 have ne:y.1≠y.2:=λz=>by have a1:=hh.2.2.2;rw[<- z]at a1;exact A.ok.one y.1 (by rw[e];rfl) (by rw[a1];rfl)
 have t1:wy (86:B0) y.1=false:=by
  show ((lk (dk x.ht y.1) y.1).isSome||(lk (dk x.th y.2) y.1).isSome)=false;rw[zw,zw,g8 rfl,ci ne]
  cases z:lk x.th y.1 with
  |none=>rfl
  |some w=>exact(A.ok.one y.1 (by rw[e];rfl)<|by rw[z];rfl).elim
 have t2:wy (86:B0) y.2=false:=by
  show ((lk (dk x.ht y.1) y.2).isSome||(lk (dk x.th y.2) y.2).isSome)=false;rw[zw,zw,g8 rfl,ci<|Ne.symm ne]
  cases z:lk x.ht y.2 with
  |none=>rfl
  |some w=>exact(A.ok.one y.2 (by rw[z];rfl)<|by rw[hh.2.2.2];rfl).elim
 have hl:∀k,lk (pk (dk x.ht y.1) y.1 y.2) k=lk x.ht k:=λk=>by
  rw[yb,zw];by_cases z:k=y.1
  ·rw[g8 z,z,e]
  ·rw[ci z,ci z]
 have ac:VJ (AE (86:B0) y.1 y.2):=by
  obtain⟨r,hr⟩:=A.ok.acy;refine#[r,λl hl' t ht=>?_]
  have m:∀t,t∈w9 (AE (86:B0) y.1 y.2)->t∈w9 x:=λt ht=>by have ht:t∈(pk (dk x.ht y.1) y.1 y.2).map (·.1):=ht;rw[<- xY,hl]at ht;exact xY.mp ht
  have hd:wW (AE (86:B0) y.1 y.2) l=wW x l:=by show (lk (pk (dk x.ht y.1) y.1 y.2) l).getD 0=_;rw[hl];rfl
  have s:=xv.mp ht;rw[hd]at s;exact hr l (m l hl') t<|xv.mpr #[s.1,s.2.1,m t s.2.2]
 have s1:(lk x.rk y.1).isSome=true:=hh.1;have s2:(lk x.rk y.2).isSome=true:=hh.2.1;have hb:y.1∈yj x y.2:=hh.2.2.1;refine#[A'.ok,?_];show if (lk x.rk y.1).isSome=true then (if (lk x.rk y.2).isSome=true then (if y.1∈yj x y.2 then (if wy (86:B0) y.1=true\/wy (86:B0) y.2=true then Ke XT _ else (_->Ke XR _)/\_) else _) else _) else _;rw[g8 s1,g8 s2,g8 hb,ci<|by rw[t1,t2];simp];exact⟨λz=>io ac z,λ_=>k _ (c'.same rfl rfl rfl)<|(A'.add c' ln s1 s2 hb t1 t2 ne ac).perm<|List.perm_append_comm.trans<|xG h⟩
def Arr.BP(A:Arr x a)(c:xQ x rows)(m:xQ d b)(D:Vr b)(f:d.ht=x.ht)(g:d.th=x.th)(p:∀k,wy x k=true->rowAt b k=rowAt rows k):Arr d a:=by
 have j:w9 d=w9 x:=by unfold w9;rw[f]
 have u:∀l,wW d l=wW x l:=λl=>by unfold wW;rw[f]
 have E:∀{k},(lk x.ht k).isSome=true->wy x k=true:=λ{k} h=>by unfold wy;rw[h];rfl
 have i:∀{k},(lk x.th k).isSome=true->wy x k=true:=λ{k} h=>by unfold wy;rw[h,tF]
 have v:∀{k},wy x k=true->lk d.rk k=lk x.rk k:=λ{k} h=>by rw[m.rk,c.rk,p k h]
 have w:∀{k},wy x k=true->yj d k=yj x k:=λ{k} h=>by rw[m.yj,c.yj];unfold eb;rw[p k h]
 have n:∀{l},l∈w9 x->wy x (wW x l)=true:=λ{l} h=>i (by rw[(A.ok.ht _ _<|xn h).2.2.2];rfl);refine⟨⟨m.ZC D,by rw[j];exact A.ok.nd,by rw[f];exact A.ok.len,by rw[g];exact A.ok.Y5,λl h q=>?_,λl h q=>?_,λk y B=>?_,?_⟩,by rw[g];exact A.nt,by rw[j];exact A.pm,λe F=>by rw[u];exact A.hd e F⟩
 ·rw[f]at q;have z:=A.ok.ht l h q;have G:wy x l=true:=E (by rw[q];rfl);have C:wy x h=true:=i (by rw[z.2.2.2];rfl);rw[v G,v C,w C,g];exact z
 ·rw[g]at q;rw[f];exact A.ok.th l h q
 ·rw[f]at y;rw[g]at B;exact A.ok.one k y B
 ·obtain⟨r,H⟩:=A.ok.acy;refine#[r,λl o t I=>H l (by rw[<- j];exact o) t ?_];have s:=xv.mp I;rw[j]at o s;rw[u,w<|n o]at s;exact xv.mpr s
def a1g(A:Arr x a){k:Int}(h:wy x k=true):k∈a.map (·.1)++zD (a.map (·.2)):=by
 unfold wy at h;rcases Bool.or_eq_true_iff.mp h with h|h
 ·exact i8 _<|A.pm.mem_iff.mpr<|xY.mp h
 ·refine iA _<|Al.mpr ?_;obtain⟨l,e⟩:=Option.isSome_iff_exists.mp h;have e:=A.ok.th l k e;have m:l∈w9 x:=xY.mp (by rw[e];rfl);obtain⟨p,b,c⟩:=List.mem_map.mp<|A.pm.mem_iff.mpr m;refine List.mem_map.mpr #[p,b,?_];rw[<- A.hd p b,c];unfold wW;rw[e];rfl
def TC(A:Arr x a)(c:xQ x rows){k:Int}(h:wy x k=true):(rowAt rows k).isSome=true:=by
 unfold wy at h
 have f:∀l h,lk x.ht l=↑h->(rowAt rows l).isSome=true/\(rowAt rows h).isSome=true:=λl h e=>by have z:=A.ok.ht l h e;rw[c.rk,c.rk,iL,iL]at z;exact#[z.1,z.2.1]
 rcases Bool.or_eq_true_iff.mp h with h|h
 ·obtain⟨l,e⟩:=Option.isSome_iff_exists.mp h;exact(f _ _ e).1
 ·obtain⟨l,e⟩:=Option.isSome_iff_exists.mp h;exact(f _ _<|A.ok.th l k e).2
def Xj{k:Int}(h:rowAt rows k=none):eb rows k=[]:=by unfold eb;rw[h];rfl
def Zl(A:Arr x a)(c:xQ x rows){k:Int}(h:k∈a.map (·.1)++zD (a.map (·.2))):(rowAt rows k).isSome=true:=by
 have f:∀e∈a,(rowAt rows e.1).isSome=true/\(rowAt rows e.2).isSome=true:=λe b=>by have z:=A.ok.ht e.1 _<|xn<|A.mem b;rw[A.hd e b,c.rk,c.rk,iL,iL]at z;exact#[z.1,z.2.1]
 rcases List.mem_append.mp h with h|h
 ·obtain⟨e,b,q⟩:=List.mem_map.mp h;rw[<- q];exact(f e b).1
 ·obtain⟨e,b,q⟩:=List.mem_map.mp<|Al.mp h;rw[<- q];exact(f e b).2
def Zm{j:Int}(v:Vr rows)(b:0<=j)(f:∀h,j∉eb rows h):Vr (rows.set j.toNat none):=by
 have g:∀{k:Int} {y:Int×List Int},rowAt (rows.set j.toNat none) k=↑y->rowAt rows k=↑y:=λ{k y} h=>by
  rw[yr b]at h;by_cases q:k=j
  ·rw[g8 q]at h;cases h
  ·rw[ci q]at h;exact h
 refine#[λk r e h=>?_,by rw[k9];exact v.ln,λk r e h=>v.sm k r e<|g h];obtain⟨i,l,m,n,o⟩:=v.ok k r e<|g h;have d:∀c∈e,c≠j:=λc a z=>f k (by rw[zy<|g h,<- z];exact a);refine⟨i,l,m,λc a=>?_,?_⟩
 ·rw[yr b,ci<|d c a];exact n c a
 ·rw[<- o];refine xL λc a=>?_;unfold eb;rw[yr b,ci<|d c a]
def Wr{g:Int}(h:rowAt rows g=↑y):Px rows.length g=↑g.toNat:=by have z:=vI h;unfold Px;rw[g8 z.1,g8 z.2.1]
def Zn:Ez (rows++[z]) (-1)=↑z:=by
 unfold Ez Px;rw[ci q0q,g8 (by rw[ij,iB];omega),Option.bind_some];have:((-1:Int)+((rows++[z]).length:Nat)).toNat=rows.length:=by rw[ij,iB];omega
 rw[this,jP<|hO _,pF];rfl
def IR:(zD l).length=l.length:=(w8 l).length_eq
section
variable{x:B0}{rows:List RW}{a:List (Int×Int)}
end
section
variable{x:B0}{rows:List RW}{a:List (Int×Int)}{l g:List Int}{Kb:Bool->WL.Un×Unit->Prop}{K1:OL Int->WL.Un×Unit->Prop}{K2:OL Int->WL.Un×WL.Un×Unit->Prop}{E1:g9->WL.Un×Unit->Prop}{E2:g9->WL.Un×WL.Un×Unit->Prop}
end
section
variable{q:Cq}{XL:g9}
noncomputable abbrev CV:iH:=top 52
def yS:vz ["_law_script","_law_bag_here","_law_field","_law_rows_here","_law_arrows","_law_one","_law_left","_law_told","_law_rank_here","_law_bound","_law_free","_law_gone"] ["_law_script"] (vn CV):=by walk_at "sc"
def Ws:(["_law_x","_law_one"]:List Str).Nodup:=by decide +kernel
def Wt:(["_law_k","_law_rank_here","_law_rows_here"]:List Str).Nodup:=by decide +kernel
def Wu:(["_law_k","_law_bound","_law_rows_here"]:List Str).Nodup:=by decide +kernel
def Zo{f:g9}{fd:iW}(F:DH q "law" CV f fd)(ct:AB q.K C)(Z:Isf q.K q.mg C CB)(ag:xE q "_law_bag" ["_law_script"] (Rl q.K) 10)(N:Wg q 10)(t:Tv q 10)(D:xE q "_law_pull" ["_law_bag_here","_law_many"] yR 10)(O:CT q 10)(b:Tx q 10)(aa:S6 q 10)(ab:Tb q 10)(ae:Ta q 10)(G:B7 q 10)(J:FJ q 10)(P:IJ q 10)(af:Zj q 10)(Q:Ik q 10)(L:Kg q 10)(R:NB q 10)(M:Fy q 10)(S:NA q 10)(ah:Xh q 10)(ai:Xf q 10)(T:NC q 10)(B:Bn q.mg):Gq q 11 f fd ["_law_script"] (Xb q.K):=by
  refine' vB (wN (D':=Unit) (ms:=[]) (j:=11) F yS rfl rfl λar A an s H E hr =>
      (vF (vK 1 yS.nd (vE ag (vr (ss 0) vp)))
      (vF (Vm 2 3 4 (Et rfl (xj (vG (i:=2) yS.nd rfl (ku rfl)) (xj (vG (i:=3) yS.nd rfl (rG rfl)) (xj (vG (i:=4) yS.nd rfl (ku rfl)) Cb)))) q0q q0q q0q (vE N (vR 1 (vr vv vp))))
      (vF (vT (tw_not (tw_val (vA (vE t (vR 2 (vM 3 (vM 4 vp)))))))
      85
      vL)
      (vF (Eh (zq 2 Q hr ct.cl xM (pv 2)) vv (λU h=>yV (Gp j0 lh lj zK U h)))
      (vF (Eh (zq 2 L hr ct.cl xM (pv 2)) vv (λU h=>yV (Gp j0 lh lj zK U h)))
      (vF (Eh (zq 2 R hr ct.cl xM (pv 2)) vv (λU h=>yV (Gp j0 lh lj zK U h)))
      (vF (Eh (zq 2 M hr ct.cl xM (pv 2)) (wK vv vv) (λU h=>yV (Gp j0 lh lj zK U h)))
      (vF (vT (tw_not (tw_val (vA (vE t (vR 2 (vM 3 (vM 4 vp)))))))
      85
      vL)
      (vF (vT (tw_cmL (EQ hr.units) (wq 4) (v6 (vV (vO (α:=(Int×Int)) vN))) (vU _))
      (M0 (D':=(YO q.K)×Bg×(Bd C true)×(OL 61)×(OL (Int×Int))×Un×Un×Un×Un×Un×Un×Un×Unit) (vF (vK 5 yS.nd (vH (w6 (wq 4) (vA (vE D (vR 1 (vr (wY rfl B.len (wq 4)) vp)))))) (hx:=rG rfl))
      (vF (Aj (Ts:=["_law_x"]) (Fr:=["_law_one"]) (idx:=[5]) (k:=1) (mb:=[1]) (is:=[4]) (cl:=[("_law_one",⇑s+1+1)]) 6 yS.nd rfl rfl rfl q0q rfl (Hx 4 (pv 4) q0q) T1 rfl (wP rfl) (λm o C ex pn=>(vP 0 (vG (i:=0) Ws rfl (ku rfl)) q0q)) (λm o C ex pn=>(tws_one (tw_cm (QO hr.units) (ss 0) (ss 1) (vU _)))) (λm o C ex pn=>(ss 0)))
      (vF (vK 7 yS.nd (wu 2 S (vr (AV (ss 5)) vp)))
      (vF (vT (tw_w (xU (tw_not (tw_val (vA (vE O (vr (ss 7) vp))))) (xU (tw_cm Ct (ss 7) (zf (ss 5)) (vU _)) (xJ (tw_not (tw_val (vA (vE t (vR 2 (vM 3 (vM 6 vp)))))))))))
      85
      vL)
      (vq (vT (tw_cm Vi (vA (wu 2 ah (vr (AV (ss 5)) (vr (zf (ss 5)) vp)))) AU (vU _))
      85
      vL)))))))
      vL)
      (HH (w':=λ(d:(YO q.K)×Bg×(Bd C true)×(OL 61)×(OL (Int×Int))×Un×Un×Un×Un×Un×Un×Un×Unit) (_:Unit->Prop) (Kr:Bool->Un×Unit->Prop) (_:g9->Un×Unit->Prop)=>(Arr d.2.2.1 d.2.2.2.2.1.l/\xQ d.2.2.1 d.2.2.2.1.l/\Vr d.2.2.2.1.l/\d.2.2.2.1.l.length<=34/\(d.2.2.2.2.1.l.map (·.1)).Pairwise (·<=·))/\Kr true (#[],())) (vF (vT (tw_w (xU (tw_not (tw_val (YR 2 (by exact rfl) (by exact B.isinstance) (by exact rfl) (by exact Z)))) (xJ (tw_not (tw_val (vA (vE b (vR 2 (vM 3 (vM 4 vp))))))))))
      85
      vL)
      (vF (vK 8 yS.nd (vE aa (vR 1 vp)) (hx:=rG rfl))
      (vF (xt 3 (zn (wK (ss 8) (vV (vE ab (vM 3 (vr (vV (vE ae (vR 1 (vr (vV (wZ (Ts:=["_law_k"]) (Fr:=["_law_rank_here","_law_rows_here"]) (idx:=[8,3]) (k:=1) (mb:=[1,2]) (is:=[]) (cl:=[("_law_rows_here",⇑s+1),("_law_rank_here",⇑s+1+1+1)]) rfl (wO (vV (vE G (vM 3 vp)))) Zz rfl (wP rfl) (λm o C ex pn=>(vP 0 (vG (i:=0) Wt rfl (ku rfl)) q0q)) (λm o C ex pn=>(tws_one (tw_cm BM (AV (x8 (w6 (wq 2) (ss 0)))) (ss 1) (vU _)))) (λm o C ex pn=>(ss 0)))) vp)))) vp)))))))
      (vF (vT (tw_w (xU (tw_cm Ct (vA (wu 2 ai (vr (ss 8) (vr (vV (M5 (by exact rfl) (by exact B.list) (v6 (zf (x8 (w6 (wq 3) (Lk vv))))))) vp)))) (Af G6 (wY (by exact rfl) (by exact B.len) (wq 3)) vv) (vU _)) (xJ (tw_not (tw_val (vA (vE b (vR 2 (vM 3 (vM 4 vp))))))))))
      85
      vL)
      (HH (w':=λ(d:(YO q.K)×Bg×(Bd C true)×(OL 61)×(OL (Int×Int))×Un×Un×Un×Int×Un×Un×Un×Unit) (_:Unit->Prop) (Kr:Bool->Un×Unit->Prop) (_:g9->Un×Unit->Prop)=>(∃n:Nat,d.2.2.2.1.l.length=n+1/\(rowAt d.2.2.2.1.l n).isSome=true/\(∀k,(n:Int)∉eb d.2.2.2.1.l k)/\(n:Int)∉d.2.2.2.2.1.l.map (·.1)++zD (d.2.2.2.2.1.l.map (·.2)))/\(Arr d.2.2.1 d.2.2.2.2.1.l/\xQ d.2.2.1 d.2.2.2.1.l/\Vr d.2.2.2.1.l/\d.2.2.2.1.l.length<=35/\(d.2.2.2.2.1.l.map (·.1)).Pairwise (·<=·))/\Kr true (#[],())) (vF (vK 9 yS.nd (AW (v6 (vV (vE J (vM 4 vp)))) (v6 (vV (vE P (vM 4 vp))))) (hx:=rG rfl))
      (vF (Aj (Ts:=["_law_k"]) (Fr:=["_law_bound","_law_rows_here"]) (idx:=[9,3]) (k:=1) (mb:=[1,2]) (is:=[]) (cl:=[("_law_rows_here",⇑s+1),("_law_bound",⇑s+1+1+1+1)]) 10 yS.nd rfl rfl rfl q0q rfl (wO (vV (vE G (vM 3 vp)))) Zz rfl (wP rfl) (λm o C ex pn=>(vP 0 (vG (i:=0) Wu rfl (ku rfl)) q0q)) (λm o C ex pn=>(tws_one (tw_w (Hw (tw_cmL (Hv hr.units) (v6 (vV (vE af (vM 2 (vr (ss 0) vp)) (hr:=hr) (hx:=W6)))) (v6 (vV (vO (α:=Int) vN))) (vU _)) (D9 (tw_cmI Cv (ss 0) (wq 1) (by with_unfolding_all rfl))))))) (λm o C ex pn=>(ss 0)))
      (vF (vK 11 yS.nd (vH (w6 (wq 10) (vA (vE D (vR 1 (vr (wY (by exact rfl) (by exact B.len) (wq 10)) vp)))))))
      (vF (ww (vA (wu 2 T (vr (ss 11) vp))))
      (vF (Vj 3 (pv 3) M4 (ss 11) (λU h2=>GZ U (KA (pv 3) h2 set_list)))
      (vq (vD (vE b (vR 2 (vM 3 (vM 4 vp))))))))))) (by
   intro d Kn Kr Ke h
   walk_at "wl"
   refine B9 λaj u=>?_
   obtain⟨⟨n,n1,n2,n3,n4⟩,⟨A,c,v,Y,W⟩,k⟩:=h
   have al:=A.Kk c Y
   have ao:=yz d.2.2.2.1.l
   refine u ?_
   refine#[(show d.2.2.2.2.1.l.length<64 by omega),(show d.2.2.2.2.1.l.length<64 by omega),v7 (show (d.2.2.2.2.1.l.map (·.1)).length+(zD (d.2.2.2.2.1.l.map (·.2))).length<=1000 by rw[IR,hR,hR];omega),(show d.2.2.2.1.l.length<1000 by omega),v7 (show (AC d.2.2.2.1.l).length<=1000 by omega),v8 (q:=λk=>decide (VQ d.2.2.2.1.l k=[])&&!decide (k∈d.2.2.2.2.1.l.map (·.1)++zD (d.2.2.2.2.1.l.map (·.2)))) (λk _ K I=>?_) ?_]
   · walk_at "wl"
     refine#[(show d.2.2.2.1.l.length<1000 by omega),?_]
     have I:if (decide (VQ d.2.2.2.1.l k=[])&&!decide (k∈d.2.2.2.2.1.l.map (·.1)++zD (d.2.2.2.2.1.l.map (·.2))))=true then _ else _:=I
     show if decide (VQ d.2.2.2.1.l k=[])=true then _ else _
     by_cases q1:VQ d.2.2.2.1.l k=[]
     · rw[g8<|decide_eq_true q1]
       rw[decide_eq_true q1,Bool.true_and]at I
       exact I
     · rw[ci (by simpa using q1), ci ig]
       rw[iC q1,Bool.false_and,ci ig]at I
       exact I
   · have nf : (n : Int) ∈ (AC d.2.2.2.1.l).filter λk => decide (VQ d.2.2.2.1.l k = []) && !decide (k ∈ d.2.2.2.2.1.l.map (·.1) ++ zD (d.2.2.2.2.1.l.map (·.2))) := by
       refine List.mem_filter.mpr #[xz.mpr n2,?_]
       rw[decide_eq_true<|show VQ d.2.2.2.1.l n=[] from List.filter_eq_nil_iff.mpr λh _ z=>n3 h<|jY z,iC n4]
       rfl
     have lf:=iF (λk=>decide (VQ d.2.2.2.1.l k=[])&&!decide (k∈d.2.2.2.2.1.l.map (·.1)++zD (d.2.2.2.2.1.l.map (·.2))))<|AC d.2.2.2.1.l
     have lp:=tD nf
     have l1:((AC d.2.2.2.1.l).filter λk=>decide (VQ d.2.2.2.1.l k=[])&&!decide (k∈d.2.2.2.2.1.l.map (·.1)++zD (d.2.2.2.2.1.l.map (·.2)))).length<=35:=by omega
     refine wU (Int.natCast_pos.mpr lp) (Int.lt_of_le_of_lt (Int.ofNat_le.mpr l1) q0q) λi i0 i1=>?_
     refine B9 λaj u=>?_
     obtain⟨g,a1,a2,a3⟩:=xZ i0 i1
     obtain⟨g1,g2⟩:=List.mem_filter.mp a3
     have gs:=xz.mp g1
     obtain⟨y,hy⟩:=Option.isSome_iff_exists.mp gs
     have g2:=Bool.and_eq_true_iff.mp g2
     refine u ?_
     have go:∀h,g∉eb d.2.2.2.1.l h:=λh hh=>by
       have z:=List.filter_eq_nil_iff.mp (jY g2.1) h (xz.mpr (by
         cases q:rowAt d.2.2.2.1.l h with
         |none=>rw[Xj q]at hh;cases hh
         |some w=>rfl))
       exact z<|decide_eq_true hh
     have gn:g∉d.2.2.2.2.1.l.map (·.1)++zD (d.2.2.2.2.1.l.map (·.2)):=λz=>by
       have:=g2.2
       rw[decide_eq_true z]at this;cases this
     have gt:wy d.2.2.1 g=false:=by
       cases q:wy d.2.2.1 g with
       |false=>rfl
       |true=>exact io (a1g A q) gn
     have g0:=(vI hy).1
     have v':=Zm v g0 go
     refine#[g,a1,NH c v gs go gt λx' c' U h2=>#[_,Wr hy,#[c',v',by show (d.2.2.2.1.l.set g.toNat none).length<=35;rw[k9];exact Y,A.BP c c' v' U h2 λj hj=>?_,W],k]]
     rw[yr g0,ci λz=>by rw[z,gt]at hj;cases hj]
)))))) (by
   intro d Kn Kr Ke h
   walk_at "wl"
   refine B9 λaj u=>?_
   obtain⟨⟨A,c,v,X,W⟩,k⟩:=h
   have Y:d.2.2.2.1.l.length<=35:=qY X
   refine u ?_
   refine zi rfl #[#[c,v,Y,A,W],zi rfl λr r0 r1=>?_]
   have ao:=yz d.2.2.2.1.l
   refine#[(show d.2.2.2.1.l.length<1000 by omega),v7 (show (AC d.2.2.2.1.l).length<=1000 by omega),v8 (q:=λk=>decide ((rowAt d.2.2.2.1.l k).map (·.1)=↑r)) (λk aq K I=>?_) ?_]
   · obtain⟨y, hy⟩ := Option.isSome_iff_exists.mp (xz.mp aq)
     refine#[_,(vI hy).2.2.2,y,rfl,?_]
     rw[hy]at I
     show if decide (y.1=r)=true then _ else _
     by_cases z:y.1=r
     · rw[g8<|by simp[z]]at I ⊢; exact I
     · rw[ci<|by simpa using z]at I ⊢; exact I
   · have hs := iF (λk => decide ((rowAt d.2.2.2.1.l k).map (·.1) = some r)) (AC d.2.2.2.1.l)
     refine#[(show ((AC d.2.2.2.1.l).filter _).length<60 by omega),λl l1 l2=>?_]
     have hl:∀c∈l,∃e,rowAt d.2.2.2.1.l c=↑(r,e):=λc hc=>by
       have:=(List.mem_filter.mp<|l2 c hc).2
       cases e:rowAt d.2.2.2.1.l c with
       |none=>rw[e]at this;simp at this
       |some y =>
         rw[e]at this
         have this:y.1=r:=by simpa using this
         exact#[y.2,by rw[<- this]]
     obtain⟨c1,c2,_⟩:=GU v l1 hl
     refine#[v,λc hc=>?_,yy (show d.2.2.2.1.l.length<1000 by omega),↑(r,wL (eb d.2.2.2.1.l) l),Zn,_,rfl,LW c v r0 r1 (yF _ _) c1 c2 λx1 c' g1 g2=>?_]
     · obtain⟨e, he⟩ := hl c hc
       show (rowAt d.2.2.2.1.l c).isSome=true
       rw[he];rfl
     · have v1 : Vr (d.2.2.2.1.l ++ [↑(r, wL (eb d.2.2.2.1.l) l)]) := FD v q0d λr' e z => by
         cases z
         exact#[r0,r1,yF _ _,c1,c2]
       have l2:(d.2.2.2.1.l++[↑(r,wL (eb d.2.2.2.1.l) l)]).length=d.2.2.2.1.l.length+1:=by rw[ij,iB]
       have no:rowAt d.2.2.2.1.l (d.2.2.2.1.l.length:Int)=none:=Dt<|nP _
       have A1:Arr x1 d.2.2.2.2.1.l:=A.BP c c' v1 g1 g2 λk hk=>wH λz=>by
         have:=TC A c hk
         rw[z,no]at this;cases this
       have up:d.2.2.1.up=(d.2.2.2.1.l.length:Int):=c.up
       refine zi ?_ #[#[c',v1,by rw[l2];omega,A1,W],zi rfl #[#[d.2.2.2.1.l.length,l2,?_,λk hk=>?_,λz=>?_],#[A1,c',v1,by rw[l2];omega,W],k]]
       · rw[l2, up]
         simp
       · rw[wp]; rfl
       · have hk : (d.2.2.2.1.l.length : Int) ∈ eb (d.2.2.2.1.l ++ [↑(r, wL (eb d.2.2.2.1.l) l)]) k := hk
         cases q:rowAt (d.2.2.2.1.l++[↑(r,wL (eb d.2.2.2.1.l) l)]) k with
         |none=>rw[Xj q]at hk;cases hk
         |some y =>
           rw[zy q]at hk
           have:=((v1.ok k y.1 y.2 q).2.2.2.1 _ hk).1
           have:=(vI q).2.1
           rw[l2]at this
           omega
       · have := Zl A c z
         rw[no]at this;cases this
)))))))))))) λp Kn Ke h=>?_
  walk_at "wl"
  have h:Kn true (#[],()):=h
  refine Zk #[#[q0q,q0q],λx ak a c v X A W=>?_]
  have Y:ak.length<=35:=qY X
  have al:=A.Kk c Y
  have lr:=c.lr
  have tl:(w9 x).length=x.ht.length:=hR _
  refine#[#[c,v,Y,A,W],zi rfl ?_]
  refine#[(show x.ht.length<64 by omega),A.ok.nd,yy (show (zD<|w9 x).length<1000 by rw[IR];omega),(show x.th.length<64 by omega),yy (show (zD (x.th.map (·.1))).length<1000 by rw[IR,hR];omega),A.ok.ok,(show x.rk.length<=1000 by omega),yy (show ((x.rk.map (·.1)).filter _).length<1000 from mQ (iF _ _)<|by rw[hR];omega),(show x.ht.length<64 by omega),A.ok.nd,yy (show ((zD<|w9 x).map _).length<1000 by rw[hR,IR];omega),#[c,v,Y,A,W],zi rfl ?_]
  by_cases q:a=[]
  · rw[ci<|by simp[q]]
    exact#[#[A,c,v,X,W],h]
  · rw[g8<|by simp[q]]
    have p5:0<a.length:=List.length_pos_iff.mpr q
    refine wU (by show 0<(a.length:Int);omega) (by show (a.length:Int)<_;omega) λi i0 i1=>?_
    refine B9 λaj u=>?_
    obtain⟨y,a1,a2,a3⟩:=xZ i0 i1
    refine u ?_
    refine#[y,a1,v7 (by show a.length<=1000;omega),v8 (q:=λz=>!decide (z=y)) (λk _ K I=>I) ?_]
    rw[Po A.nd a2]
    exact Pp A a2<|zi (c:=!decide (y.2=y.2)) q0o ⟨⟨c.same rfl rfl rfl,v,Y,A.pop a2,q7 ((List.eraseIdx_sublist _ _).map _) W⟩,zi rfl<|Wq A c Y a2 λx' c' A'=>zi rfl #[#[A',c',v,X,W],h]⟩
end
section
variable{P:iN}{w:jf}{K:hI}{mg:Str->Option cr}{base:i9}
def TF:vz ["_law_bag_here","_law_many","_law_seed","_law_mixed","_law_drawn"] ["_law_bag_here","_law_many"] (vn LS):=#[rfl,rfl,rfl,q0s,rfl,q0s,q0s]
def Wv(F:zj K "_law_pull" "_law_pull" LS f I)(c:mg "len"=none):vZ P w K mg base Qk 1 f I ["_law_bag_here","_law_many"] WL.QY:=by
 refine F.ok TF (λJ H Q E h=>?_)<|λL A p s H J Q E N h=>?_
 ·obtain⟨g,q,m,i,z,s,e,rfl,_⟩:=h;rfl
 ·obtain⟨g,q,m,i,z,j,e,rfl,B,d,v,k⟩:=h;have l:=TF.nd
  refine#[_,wI (MH (yw WI 74 vQ (vU _))
    (wI (Ua (pv 0) vQ Qv vQ XD set_list)
    (wI (AH (i:=2) l rfl (ku rfl) 74)
    (wI (MH (yw WI 74 (wT xR (by rfl) c mZ (vy 74 vJ)) (vU _))
     (yu (AH (i:=2) l rfl (ku rfl) (yU xf 74 (xk G6 74 vQ) (λ_ _=>rfl)))) z8)
    (wI (MH (WC (yw WJ 74 (wT xR (by rfl) c mZ (vy 74 vJ)) (vU _)) (PJ (yw WH (pv 2) (xk XQ vQ vQ) (vU _)))).pt
     (wI (AH (i:=3) l rfl (ku rfl) (xk CZ (xk AK (xk AK (xk BU (pv 2) vQ) (xk BU 74 vQ)) vQ) vQ))
     (wI (AH (i:=3) l rfl (ku rfl) (xk CZ (xk BU (pv 3) (pv 3)) vQ))
     (yu (CY (xk CZ (xk MI (xk CZ (xk BU (xk AK (pv 3) 74) vQ) vQ) vQ) (pv 1)))))) z8)
    (yu (GZ (pv 2) (KA (pv 0) vQ set_list))))))) z8)
   (wI (AH (i:=4) l rfl (ku rfl) (xk CZ 74 (pv 1)))
   (wI (GZ (xk MI 74 (pv 1)) (KA (pv 0) vQ set_list))
   (yu (CY (pv 4))))),?_]
  refine#[_,rfl,g,_,_,_,rfl,rfl,wF.of B.ob,QX _ _ _ _,_,_,rfl,rfl,_,rfl,?_];refine Up (λ_=>?_)<|λ_=>?_
  ·-- r[1] += 1;x=r[3]
   refine#[_,rfl,g,_,_,_,rfl,rfl,B.ob,q0q,rfl,_,_,rfl,rfl,g,_,_,1,rfl,rfl,B.ob,rfl,?_];have a:DG (upd H g<|.lst<|FX q (i+1) z j) g q m (i+1) z j:=B.put (by have:=B.i0;lia);refine⟨_,rfl,g,_,_,_,rfl,rfl,wF.of a.ob,a2J _ _ _ _,?_⟩;refine⟨_,rfl,g,_,_,_,rfl,rfl,wF.of a.ob,QW _ _ _ _,_,rfl,g,_,_,_,rfl,rfl,wF.of a.ob,YH _ _ _ _,q,_,rfl,.inl<|wF.of a.sc,_,_,rfl,rfl,_,rfl,?_⟩;have b:=a;refine' cutG (α:=Int) (G:=_) (λy=>Up (λC=>?_)<|λC=>?_) ?_
   rotate_left
   ·have t:i+1<=((m.map V.int).length:Int):=jY C;rw[hR]at t;obtain⟨n,M⟩:=US (ns:=m) (i:=i+1-1) (by have:=B.i0;lia) q0a;refine#[_,rfl,g,_,_,_,rfl,rfl,wF.of a.ob,YH _ _ _ _,_,rfl,g,_,_,_,rfl,rfl,wF.of a.ob,QW _ _ _ _,_,_,rfl,rfl,q,_,_,_,rfl,rfl,wF.of a.sc,M,?_];exact y n
   ·exact y j
   ·intro n;refine#[_,rfl,g,_,_,_,rfl,rfl,wF.of a.ob,QW _ _ _ _,_,rfl,g,_,_,_,rfl,rfl,wF.of a.ob,YH _ _ _ _,q,_,rfl,.inl<|wF.of a.sc,_,_,rfl,rfl,_,rfl,?_];refine' cutP (G:=_) (λD=>Up (λ_=>a2j D)<|λ_=>?_) ?_
    ·refine#[_,rfl,_,_,rfl,rfl,#[q0q,q0q,q0q],_,_,rfl,rfl,_,rfl,?_];refine Up (λ_=>D)<|λ_=>?_;refine#[_,rfl,_,rfl,g,_,_,2,rfl,rfl,a.ob,rfl,?_];have b:=a.put (z':=n) a.i0;have u:=(Kp.at (g:=g) (H:=H) (o:=.lst<|FX q (i+1) z j)).trans<|Kp.at (o:=.lst<|FX q (i+1) n j);refine#[_,rfl,g,_,_,_,rfl,rfl,wF.of b.ob,QX _ _ _ _,_,rfl,_,_,rfl,rfl,d,?_];refine#[_,rfl,g,_,_,_,rfl,rfl,wF.of b.ob,QX _ _ _ _,_,rfl,_,_,rfl,rfl,#[d,v],_,rfl,g,_,_,2,rfl,rfl,b.ob,rfl,?_];exact#[_,rfl,k _ _ _ _ (u.trans Kp.at) (b.put b.i0) (rY _ q0a)<|qH _ d]
    ·refine#[_,rfl,_,_,rfl,rfl,.inr #[q0q,q0q],_,rfl,g,_,_,_,rfl,rfl,wF.of a.ob,QW _ _ _ _,_,_,rfl,rfl,.inr #[q0q,q0q],_,_,rfl,rfl,_,_,rfl,rfl,_,_,rfl,rfl,(by show (0:Int)<2147483647;decide),?_];refine#[_,rfl,_,rfl,_,_,rfl,rfl,.inl<|a0x _,_,_,rfl,rfl,(by show (0:Int)<2147483629;decide),?_];refine#[_,rfl,_,rfl,g,_,_,_,rfl,rfl,wF.of a.ob,QW _ _ _ _,_,_,rfl,rfl,_,_,rfl,rfl,.inr #[q0q,q0q],_,_,rfl,rfl,(by show (0:Int)<998244353;decide),_,_,rfl,rfl,#[q0q,q0q],_,rfl,_,_,rfl,rfl,d,?_];exact k _ _ _ _ Kp.at a (rY _ q0a)<|qH _ d
  ·have b:=B;have u:=Kp.refl g H;refine#[_,rfl,g,_,_,_,rfl,rfl,wF.of b.ob,QX _ _ _ _,_,rfl,_,_,rfl,rfl,d,?_];refine#[_,rfl,g,_,_,_,rfl,rfl,wF.of b.ob,QX _ _ _ _,_,rfl,_,_,rfl,rfl,#[d,v],_,rfl,g,_,_,2,rfl,rfl,b.ob,rfl,?_];exact#[_,rfl,k _ _ _ _ (u.trans Kp.at) (b.put b.i0) (rY _ q0a)<|qH _ d]
def NR:vz ["_law_script","_law_salt","_law_one"] ["_law_script"] (vn TB):=#[rfl,rfl,rfl,q0s,rfl,q0s,q0s]
def a29(a:List Int)(b c:Option Int):∃d:List Int,Ey (a.map V.int) b c=d.map V.int:=by unfold Ey;exact#[_,by rw[<- List.map_drop,<- List.map_take]]
def Zp(F:zj K "_law_bag" "_law_bag" TB f U)(m:mg "len"=none)(g:mg "list"=none):vZ P w K mg base Qk 1 f U ["_law_script"] (WL.Xa K):=by
 refine F.ok NR (λX H Q E h=>?_)<|λY A B s H X Q E hr h=>?_
 ·obtain⟨a,N,rfl,_⟩:=h;rfl
 ·obtain⟨a,N,rfl,C,k⟩:=h
  refine#[_,wI (AH (i:=1) NR.nd rfl (ku rfl) (wT xR (by rfl) m mZ (vy (AN DW (pv 0) DU (DV vQ)) vJ)))
   (wI (PP PassesOwn.never rfl (G4 (AN DW (pv 0) DU (DV vQ))) (vG (i:=2) NR.nd)
    (yu (AH (i:=1) NR.nd rfl (ku rfl) (xk CZ (xk AK (xk BU (pv 1) vQ) (pv 2)) vQ))))
   (yu (CY (PZ (vy (yd yW rfl g kA (vy (AN DW (pv 0) DU (DV vQ)) vJ)) (vy vQ (vy vQ (vy (pv 1) vJ)))))))),?_]
  obtain⟨b,j⟩:=a29 N none<|some 63;refine⟨_,rfl,63,rfl,a,_,rfl,C,λp Z=>?_⟩;rw[j];have O:DQ H (upd H p<|.lst<|b.map V.int):=AY Z;refine⟨p,_,rfl,.inl<|wF.of vt,?_⟩;refine⟨_,rfl,63,rfl,a,_,rfl,O.seq C,λn D=>?_⟩;rw[j];have s2:DQ (upd H p<|.lst<|b.map V.int) (upd (upd H p<|.lst<|b.map V.int) n<|.lst<|b.map V.int):=AY D;have c:=O.trans s2;generalize G:upd (upd H p<|.lst<|b.map V.int) n (.lst<|b.map V.int)=H2 at c;have q:H2 n=↑(.lst<|b.map V.int):=by rw[<- G];exact vt
  refine#[n,rfl,#[_,wF.of q],PQ (K:=K) (a:=n) (xs:=b.map V.int) (λi u x=>x=H2/\∃(r:Int)(v:Option V),u=[some<|.ref a,some<|.int r,v]) ⟨rfl,_,none,rfl⟩ (λi u x _ z9=>e0a2 z9 λe _=>by rw[e];exact wF.of q) ?_ ?_]
  ·rintro i y u x d ⟨rfl,r,v,rfl⟩
   obtain⟨z,rfl⟩:∃z,y=V.int z:=by
    rw[jS]at d
    cases e:b[i]? with
    |none=>rw[e]at d;cases d
    |some z=>rw[e]at d;exact#[z,(ja d).symm]
   exact#[_,rfl,_,_,rfl,rfl,.inr #[q0q,q0q],_,rfl,_,_,rfl,rfl,_,_,rfl,rfl,(by show (0:Int)<1000003;decide),rfl,_,_,rfl]
  ·rintro u x ⟨rfl,r,v,rfl⟩;refine#[_,rfl,63,rfl,a,_,rfl,c.seq C,λp3 I=>?_];rw[j];refine#[p3,_,rfl,.inl<|wF.of vt,λJ t=>#[_,rfl,(by decide:4<=hV),λR l=>?_]];have L:=AY (o:=.lst<|b.map V.int) I;have S:=AY (o:=.lst<|b.map V.int) t;have T:=AY (o:=.lst<|FX J 0 0 r) l;have M:J≠R:=vC vt l;refine k _ R J b r (((c.trans L).trans S).trans T) #[vt,T _ _ vt,nP _,M] ?_ ?_
   ·exact(((c.trans L).trans S).free l)
   ·exact((c.trans L).free t)
end
section
variable{q:Cq}{XL:g9}
noncomputable abbrev Mv:iH:=A6 (top 23) 1
def Ww:x9 DJ DJ (vn Mv):=by walk_at "ss"
noncomputable abbrev FM:iH:=A6 (top 23) 4
def Pq:x9 zt zt (vn FM):=by walk_at "ss"
noncomputable abbrev IS:iH:=A6 (top 23) 8
def TH:x9 zu zu (vn IS):=by walk_at "ss"
noncomputable abbrev Aw:iH:=A6 (top 23) 9
def Gc:x9 wX wX (vn Aw):=by walk_at "ss"
noncomputable abbrev Dw:iH:=A6 (top 23) 7
def Mw:x9 yL yL (vn Dw):=by walk_at "ss"
abbrev Dx:iH:=A6 (top 23) 5
def My:x9 yK yK (vn Dx):=by walk_at "ss"
abbrev Dy:iH:=A6 (top 23) 3
def Mz:x9 yJ yJ (vn Dy):=by walk_at "ss"
abbrev IT:iH:=A6 (top 23) 6
def TJ:x9 zv zv (vn IT):=by walk_at "ss"
noncomputable abbrev IU:iH:=A6 (top 23) 2
def Ko:x9 Bh Bh (vn IU):=by walk_at "ss"
def Wx{f:g9}{fd:iW}{k:Nat}(F:CG q.P q.K C "put" "Field.put" Mv f fd)(G:Fs q.P q.w q.K q.mg q.base C "put" DJ (yY q.T<|J5) k):Gq q (k+1) f fd DJ (J5) :=
 yG (m:="put") (ta:=(BH (vW 1)<|BH (vW 2) BX)) F Ww rfl rfl (λ_=>#[_,rfl]) G (λzV cc A outer s H E=>(vy (pv 1)<|vy (pv 2) vJ)) (λa r H Q hl h=>by obtain⟨u1,u2,rfl⟩:=lx2 r<|oP hl;exact⟨u1,rfl,u2,rfl,h⟩) (λf2 env h=>cw_cons h)
def Pr{f:g9}{fd:iW}{k:Nat}(F:CG q.P q.K C "cells" "Field.cells" FM f fd)(G:Fs q.P q.w q.K q.mg q.base C "cells" zt (yY q.T<|Ek) k):Gq q (k+1) f fd zt (Ek) :=
 yG (m:="cells") (ta:=BX) F Pq rfl rfl (λ_=>#[_,rfl]) G (λzV cc A outer s H E=>vJ) (λa r H Q hl h=>by obtain rfl:=lx0 r<|oP hl;exact h) (λf2 env h=>cw_nil h)
def TK{f:g9}{fd:iW}{k:Nat}(F:CG q.P q.K C "over" "Field.over" IS f fd)(G:Fs q.P q.w q.K q.mg q.base C "over" zu (yY q.T<|HV) k):Gq q (k+1) f fd zu (HV) :=
 yG (m:="over") (ta:=(BH (vW 1) BX)) F TH rfl rfl (λ_=>#[_,rfl]) G (λzV cc A outer s H E=>(vy (pv 1) vJ)) (λa r H Q hl h=>by
  match r,hl with
  | [u1],_=>exact#[u1,rfl,h]) (λf2 env h=>cw_cons h)
def Gd{f:g9}{fd:iW}{k:Nat}(F:CG q.P q.K C "border_of" "Field.border_of" Aw f fd)(G:Fs q.P q.w q.K q.mg q.base C "border_of" wX (yY q.T<|yI) k):Gq q (k+1) f fd wX (yI) :=
 yG (m:="border_of") (ta:=(BH (vW 1) BX)) F Gc rfl rfl (λ_=>#[_,rfl]) G (λzV cc A outer s H E=>(vy (pv 1) vJ)) (λa r H Q hl h=>by obtain⟨u1,rfl⟩:=lx1 r<|oP hl;exact⟨u1,rfl,h⟩) (λf2 env h=>cw_cons h)
def MA{f:g9}{fd:iW}{k:Nat}(F:CG q.P q.K C "border" "Field.border" Dw f fd)(G:Fs q.P q.w q.K q.mg q.base C "border" yL (yY q.T<|Bb) k):Gq q (k+1) f fd yL (Bb) :=
 yG (m:="border") (ta:=(BH (vW 1) BX)) F Mw rfl rfl (λ_=>#[_,rfl]) G (λzV cc A outer s H E=>(vy (pv 1) vJ)) (λa r H Q hl h=>by obtain⟨u1,rfl⟩:=lx1 r<|oP hl;exact⟨u1,rfl,h⟩) (λf2 env h=>cw_cons h)
def MB{k:Nat}(F:CG q.P q.K C "coming" "Field.coming" Dx f c)(G:Fs q.P q.w q.K q.mg q.base C "coming" yK (yY q.T<|CL) k):Gq q (k+1) f c yK (CL) :=
 yG (m:="coming") (ta:=BX) F My rfl rfl (λ_=>#[_,rfl]) G (λd i A b s H E=>vJ) (λa r H Q e h=>by
  match r,e with
  | [],_=>exact h) (λj g h=>cw_nil h)
def MC{k:Nat}(F:CG q.P q.K C "stands" "Field.stands" Dy f c)(G:Fs q.P q.w q.K q.mg q.base C "stands" yJ (yY q.T<|CK) k):Gq q (k+1) f c yJ (CK) :=
 yG (m:="stands") (ta:=(BH (vW 1) BX)) F Mz rfl rfl (λ_=>#[_,rfl]) G (λd j A b s H E=>(vy (pv 1) vJ)) (λa r H Q e h=>by
  match r,e with
  | [g],_=>exact#[g,rfl,h]) (λl i h=>cw_cons h)
def TL{k:Nat}(F:CG q.P q.K C "rank" "Field.rank" IT f c)(G:Fs q.P q.w q.K q.mg q.base C "rank" zv (yY q.T<|CM) k):Gq q (k+1) f c zv (CM) :=
 yG (m:="rank") (ta:=(BH (vW 1) BX)) F TJ rfl rfl (λ_=>#[_,rfl]) G (λd j A b s H E=>(vy (pv 1) vJ)) (λa r H Q e h=>by
  match r,e with
  | [g],_=>exact#[g,rfl,h]) (λl i h=>cw_cons h)
def TM{f:g9}{fd:iW}(F:CG q.P q.K C "take" "Field.take" IU f fd)(ct:AB q.K C)(xX:wD q 7)(Pu:Dl q 7)(G:Fs q.P q.w q.K q.mg q.base C "take" Bh (yY q.T<|HW) 7):Gq q 8 f fd Bh (Ir):=by
 refine' vB (a0P (A:=B0×Int×Unit) (PO:=B0×WL.Un×Unit) (ms:=[0]) (v9 q0q) F Ko rfl λzV cc A outer s H E D hr =>
  Xd (ww<|vA<|wu 0 xX 81 (hx:=Rn))
   (Xd (vT (tw_val (vA (wu 0 Pu 81 (hx:=Rn)))) QJ vL)
    (Vg (m:="take") (ta:=BH (vW 1) BX) D Ko rfl (λ_=>#[_,rfl]) G hr (vy (pv 1) vJ) (λa r H Q hl h=>by obtain⟨u,rfl⟩:=lx1 r hl;exact#[u,rfl,h]) (λf2 env h=>cw_cons h)))) λp Kn Ke h=>?_
 walk_at "wl"
 obtain⟨t,ok,h⟩:=h;show if (67).isSome=true then (if wy p.1 p.2.1=true then False else HW (p.1,p.2) (λx p=>Kn () p) Ke) else Ke XC 65;by_cases hs:(67).isSome=true
 ·rw[g8 hs,ci<|by simp[t]];exact#[ok,h]
 ·rw[ci hs]at h ⊢;exact h
noncomputable abbrev IV:iH:=A6 (top 23) 0
def TN:x9 ["self"] ["self"] (vn IV):=by walk_at "ss"
def TQ{k:Nat}(F:CG q.P q.K C "__init__" "Field.__init__" IV f b)(c:AB q.K C)(d:OD q.K C)(G:Fs q.P q.w q.K q.mg q.base C "__init__" ["self"] (HG C) k):vZ q.P q.w q.K q.mg q.base (wh q.P q.w) (k+1) f b ["self"] (Eg C) :=
 Rs (p3:=#[0,0,0,0]) (p4:=#[0,0,0,0]) F TN c d (λ_=>#[_,rfl]) rfl G (λ_=>rfl) λe g A a s H E=>wI (C0 (pv 0) Cj rfl)<|yu<|C0 (pv 0) Cj rfl
end
abbrev NS:List cr:=[.type "ValueError",.type "Exception",.type "BaseException",.type "object"]
abbrev Ax:iH:=A6 (top 13) 0
abbrev MD:iH:=A6 (top 21) 0
def Wy:vz ["self"] ["self"] (vn MD):=#[rfl,rfl,rfl,q0s,rfl,q0s,q0s]
def TR:x9 ["self","ring"] ["self","ring"] (vn Ax):=#[rfl,rfl,rfl,q0s,rfl,q0s,q0s,q0s,rfl,rfl]
def Wz{K:hI}(F:zj K "__init__" "Body.__init__" MD f fd)(ct:AB K C):vZ P w K mg base (wh P w) 1 f fd ["self"] (HG C) :=
 Vb F Wy ct λb A a s H E=>wI (C0 (pv 0) Cj rfl)<|wI (C0 (pv 0) Cj rfl)<|yu<|C0 (pv 0) vQ rfl
section
variable{P:iN}{K:hI} 
structure Mx(P:iN)(K:hI)(C:g9)(m q:Str)(st:iH):Prop where
 ex:∃f fd,Meth K C m f/\∃(oc:cr)(od:Option g9)(kV doc pm:cr)(an:Option g9)(zV cc:g9)(ct:cr) (Of:Array (Option cr)) (ocD:cr) (odD:Option g9) (vsD:Array cr) (slD:Array (Option cr)) (file:Str) (tf:Tok) (occ:cr) (odc:Option g9) (slc:Array (Option cr)),
  fd=kY m q (wv st) (vY st) (vn st) [75] .none kV doc pm an (.ref zV) ct/\K.lookup f=some #[oc,od,.func fd,Of]/\jI K (.ref zV) q=true/\jv K (.ref f)=true/\K.lookup zV=some #[ocD,odD,.fields vsD,slD]/\vsD[2]?=↑(.str file tf)/\((P.main.file:Str)==file)=true/\K.lookup cc=some #[occ,odc,.cell<|some<|.ref C,slc]
def a1h{st:iH}{g:cr}(a:iG K (.ref C) m=↑(some<|.ref f))(i:oR K (.ref f)=true)
 (l:K.lookup f=some #[z,od,.func<|kY m q (wv st) (vY st) (vn st) [("__class__",h)] .none g j pm A (.ref b) ct,n])(c:jI K (.ref b) q=true)(k:jv K (.ref f)=true)(o:K.lookup b=some #[p,r,.fields d,s])(t:d[2]?=↑(.str file B))(u:((P.main.file:Str)==file)=true)(v:K.lookup h=some #[w,x,.cell<|some<|.ref C,y]):Mx P K C m q st :=
  #[_,_,#[a,i,k],_,_,_,_,_,_,_,_,_,_,_,_,_,_,_,_,_,_,_,rfl,l,c,k,o,t,u,v]
structure Sx(K:hI)(C:g9)(m q:Str)(st:iH):Prop where
 ex:∃f fd,Sm K C m f/\zj K m q st f fd
def a1i{st:iH}{d:cr}(a:ki K C C m=↑(some<|.ref f))(ty:pi K (.ref f)=↑(.type "function"))(fn:mU K f=true)
 (l:K.lookup f=some #[h,od,.func<|jQ m q (wv st) (vY st) (vn st) .none d e pm i b ct,g])(c:jI K b q=true)(k:jv K (.ref f)=true):Sx K C m q st:=#[_,_,#[a,ty,fn],ED l c k]
def Mx.fx{st:iH}(M:Mx P K C m q st)(cl:∃s,ni K C=↑s)(sub:kI K C (.ref C)=↑true)(g:iv K rT "thirdparty.any"=↑none)(top:(P.main.scope.names.lookup ("super":Str)).isSome=false)(h:((wv st).posonlyargs++(wv st).args).head?=↑p)(hs:p.arg="self")(ps:List Str)
 (b:∀(i d j:cr)(n:Option g9)(e o:g9)(ct:cr)(us:List cr),us.length=ps.length->tM (kY m q (wv st) (vY st) (vn st) [("__class__",o)] .none i d j n (.ref e) ct) #[us,[]]=pure (ps.zip us)):∃f fd,Meth K C m f/\CG P K C m q st f fd/\Binds K fd ps []:=by
  obtain⟨f,fd,t,H,I,i,d,j,n,e,o,ct,u,v,w,x,y,r,J,z,A,B,rfl,l,c,k,D,E,F,G⟩:=M.ex
  exact#[f,_,t,#[#[_,_,_,_,_,_,_,_,_,_,rfl,l,c,#[#[_,_,_,_,p,l,h,hs],#[_,_,_,_,_,_,D,E,F],#[_,_,_,G],cl,sub,g,top]],k],.all<|b i d j n e o ct]
end
set_option tactic.hygienic true in
def WA{K:hI}(X:K.In h)(e:vc K N=true)(q:iv K N x=↑(some v)):h.nsMap N x=↑v:=by
 obtain⟨o,k,l,b,f,_,g⟩:=Heap.Ns.of_isNs<|qe X e;unfold iv at q;split at q
 ·rename_i c d i m n z
  have a:=X _ _ z;rw[b]at a;cases a;cases f;split at q
  ·rename_i p j
   cases q;rw[<- g];unfold nsFind findBy;rw[<- ul,j];rfl
  ·split at q<;>cases q
 ·cases q
def all_mk{l:qU}{K:hI}{fR:Nat}{fE:List cr}{fS:Bool}(X:K.In h)(G:h.Ns iq mg)(fT:mg "law"=↑(.ref fa))
 (a1:iv K iq "is_sum"=↑(some<|.ref f1))
 (l1:K.lookup f1=some #[gs,gu,.func<|jQ "is_sum" "is_sum" (wv xD) (vY xD) (vn xD) .none gv gw gx gy (.ref c) gz,gA])
 (c1:jI K (.ref c) "is_sum"=true)
 (k1:jv K (.ref f1)=true)
 (lc:K.lookup c=some #[gB,gC,.fields fU,gD])
 (ev:fU[11]?=↑(.ref db))
 (fV:K.lookup db=none)
 (aL:iv K iq "law"=↑(some<|.ref fL))
 (lL:K.lookup fL=some #[gE,gF,.func<|jQ "law" "law" (wv CV) (vY CV) (vn CV) .none fW fX fY fZ fK f0,gG])
 (cL:jI K fK "law"=true)
 (kL:jv K (.ref fL)=true)
 (Q:Dq K "must_be_sum" Fl)
 (dc:Dq K "total" HU)
 (D:Dq K "row_from_first" yp)
 (eV:Dq K "_law_bag" TB)
 (d3:Dq K "_law_pull" LS)
 (d4:Dq K "_law_rank" LY)
 (d5:Dq K "_law_join" L0)
 (d6:Dq K "_law_here" L6)
 (d7:Dq K "_law_some" L8)
 (d8:Dq K "_law_edge" Ma)
 (dd:Dq K "_law_whole" Iz)
 (eW:Dq K "_law_row" s_row)
 (d9:Dq K "_law_same" s_same)
 (de:Dq K "_law_stock" IB)
 (bh:Dq K "_law_edge_by" Du)
 (ea:Dq K "_law_rows" Me)
 (ec:Dq K "_law_fill" Mh)
 (ed:Dq K "_law_ties" Mj)
 (df:Dq K "_law_house" IF)
 (cE:Dq K "_law_tails" FF)
 (dg:Dq K "_law_heads" IH)
 (ee:Dq K "_law_lone" Mm)
 (dh:Dq K "_law_truth" IK)
 (ah:Dq K "_law_cells_kept" Au)
 (di:Dq K "_law_pairs" IN)
 (ef:Dq K "_law_book" Mo)
 (eg:Dq K "_law_kept" Mr)
 (cH:Dq K "_law_booked" FK)
 (eh:Dq K "_law_over" Mt)
 (aC:iv K iq "Field"=↑(some<|.ref C))
 (ai:Mq K C "must_stand" "Body.must_stand" Ao)
 (aH:Mq K C "must_hold" "Body.must_hold" Bc)
 (E:Mq K C "must_have_rank" "Body.must_have_rank" ym)
 (bi:Mq K C "is_tied" "Field.is_tied" Dj)
 (dj:Mq K C "steps" "Field.steps" Ig)
 (dm:Mq K C "tails" "Field.tails" Ii)
 (cJ:Mq K C "arrows" "Field.arrows" Fw)
 (bj:Mq K C "head_of" "Field.head_of" Dm)
 (dq:Mq K C "untie" "Field.untie" Il)
 (aI:Mq K C "ring_with" "Field.ring_with" Bi)
 (eX:Mq K C "tie" "Field.tie" So)
 (dr:Mq K C "heads" "Field.heads" Fz)
 (ei:Mq K C "lone" "Field.lone" Ip)
 (bm:Mq K C "tail_of" "Field.tail_of" Dr)
 (eY:Mx l.prog K C "put" "Field.put" Mv)
 (eZ:Sx K C "put" "Body.put" RV)
 (ds:Mx l.prog K C "cells" "Field.cells" FM)
 (dt:Sx K C "cells" "Body.cells" H0)
 (ej:Mx l.prog K C "over" "Field.over" IS)
 (ek:Sx K C "over" "Body.over" Ib)
 (aJ:Mx l.prog K C "border_of" "Field.border_of" Aw)
 (aK:Sx K C "border_of" "Body.border_of" Bf)
 (cP:Mx l.prog K C "border" "Field.border" Dw)
 (cQ:Sx K C "border" "Body.border" Ft)
 (cR:Mx l.prog K C "coming" "Field.coming" Dx)
 (cU:Sx K C "coming" "Body.coming" Fq)
 (cV:Mx l.prog K C "stands" "Field.stands" Dy)
 (cX:Sx K C "stands" "Body.stands" Fp)
 (el:Mx l.prog K C "rank" "Field.rank" IT)
 (em:Sx K C "rank" "Body.rank" Ic)
 (en:Mx l.prog K C "take" "Field.take" IU)
 (eo:Sx K C "take" "Body.take" LI)
 (aQ:Mx l.prog K C "__init__" "Field.__init__" IV)
 (aR:Sx K C "__init__" "Body.__init__" MD)
 (pg:m8 K C Str.empty=true)
 (hd:oi K C=true)
 (po:qp K C=true)
 (sa:iG K (.ref C) "__setattr__"=↑(some<|.builtin "object.__setattr__"))
 (mk:qP K C=true)
 (kc:jv K (.ref C)=true)
 (nR:iG K (.ref C) "ranks"=↑none)
 (nB:iG K (.ref C) "borders"=↑none)
 (nU:iG K (.ref C) "upcoming"=↑none)
 (nH:iG K (.ref C) "head_by_tail"=↑none)
 (nT:iG K (.ref C) "tail_by_head"=↑none)
 (f3:iv K iq "Body"=↑(some<|.ref CB))
 (bH:iG K (.ref C) "__class__"=↑(some<|.builtin "object.__class__"))
 (bN:qq K (.builtin "object.__class__") "__get__"=↑(some<|.builtin "getset_descriptor.__get__"))
 (bT:qR K (.builtin "object.__class__")=↑true)
 (bM:kI K C (.type "object")=↑true)
 (bK:mO K (.ref C) (.ref CB)=↑true)
 (c9:ni K C=↑gH)
 (da:kI K C (.ref C)=↑true)
 (R:iv K rT "thirdparty.any"=↑none)
 (S:(l.prog.main.scope.names.lookup ("super":Str)).isSome=false)
 (bp:iv K iq "NotASum"=↑(some<|.ref XS))
 (bq:jE K XS NS "ValueError.__new__"=true)
 (cY:iv K iq "NoCell"=↑(some<|.ref XC))
 (cZ:jE K XC NS "ValueError.__new__"=true)
 (aM:iv K iq "OtherRank"=↑(some<|.ref XO))
 (aN:jE K XO NS "ValueError.__new__"=true)
 (br:iv K iq "BadRank"=↑(some<|.ref XB))
 (bt:jE K XB NS "ValueError.__new__"=true)
 (aj:iv K iq "OpenBorder"=↑(some<|.ref XP))
 (ak:jE K XP NS "ValueError.__new__"=true)
 (ep:iv K iq "Full"=↑(some<|.ref XF0))
 (er:jE K XF0 NS "ValueError.__new__"=true)
 (bu:iv K iq "Covered"=↑(some<|.ref XV))
 (bv:jE K XV NS "ValueError.__new__"=true)
 (bA:iv K iq "NotFace"=↑(some<|.ref XF))
 (bB:jE K XF NS "ValueError.__new__"=true)
 (b5:iv K iq "Tied"=↑(some<|.ref XT))
 (es:jE K XT NS "ValueError.__new__"=true)
 (bC:iv K iq "NotTied"=↑(some<|.ref XN))
 (bD:jE K XN NS "ValueError.__new__"=true)
 (al:iv K iq "MOST_CELLS"=↑(some<|.int 120 dV))
 (aS:iv K iq "TOP_RANK"=↑(some<|.int 12 eI))
 (fM:iv K iq "RingOfArrows"=↑(some<|.ref XR))
 (gI:iv K iq "BodyError"=↑(some<|.ref XE))
 (lB:K.lookup XR=↑(jR gJ qB XR e8 gK (.ref XE::NS) true gL fE fS gn gM gN gO gP gQ gR "ValueError.__new__"))
 (f4:iv K e8 "__init__"=↑(some<|.ref fI))
 (fN:vc K e8=true)
 (f5:PySem.W.tailIn K NS (.ref XE::NS)=true)
 (lI:K.lookup fI=some #[.type "function",gS,.func<|kY "__init__" "RingOfArrows.__init__" (wv Ax) (vY Ax) (vn Ax) [75] (.ref TD) f6 f7 f8 f9 (.ref e9) ga,gT])
 (cI:jI K (.ref e9) "RingOfArrows.__init__"=true)
 (lD:K.lookup e9=some #[gU,gV,.fields gb,gW])
 (fD:gb[2]?=↑(.str e0 gX))
 (pD:((l.prog.main.file:Str)==e0)=true)
 (gc:K.lookup cc=some #[gp,gq,.cell<|some<|.ref XR,gr])
 (gd:ni K XR=↑gY)
 (gf:kI K XR (.ref XR)=↑true)
 (gg:ki K XR XR "__init__"=↑(some<|.builtin "ValueError.__init__"))
 (gh:kI K XR (.type "ValueError")=↑true)
 (sB:iG K (.ref XR) "__setattr__"=↑(some<|.builtin "object.__setattr__"))
 (gi:iG K (.ref XR) "ring"=↑none)
 (lT:K.lookup TD=some #[gZ,g4,.seq #v[dT] fR,g5])
 (gj:l6 K (.ref XT) [.ref XT,.ref XR]=↑true)
 (gk:l6 K (.ref XR) [.ref XT,.ref XR]=↑true)
 (gl:iv K iq "super"=↑none)
 (zz:Bz K) :
    ∃(c db:g9)(fd:iW),oz K "is_sum"=↑(c,db)/\K.lookup db=none/\(∀(s:hW)(v:cr),tj s fd #[[v],[]] [("_law_script",v)])/\∀base:i9,K.In base->base.Ns iq mg->JE mg base c db->vZ l.prog w K mg base Qk 11 fa fd ["_law_script"] (Ng K db):=by
  have e:=fT.symm.trans<|jc X G aL
  cases e
  have ht:oz K "is_sum"=↑(c,db):=by
    unfold oz
    rw[a1]
    dsimp only
    rw[l1]
    dsimp only[jQ]
    rw[lc]
    dsimp only
    rw[ev]
  have m:=ED (st:=xD) l1 c1 k1
  have az:Fn K mg "is_sum" xD ["row"] f1 _:=#[m,jc X G a1,m.binds (ps:=["row"])<|λ_ _ _ _ _ _=>us1 λ_=>rfl]
  have e1:=ED (st:=CV) lL cL kL
  have b:=Q.fn X G ["row"]<|λ_ _ _ _ _ _=>us1 λ_=>rfl
  have aW:=dc.fn X G ["rows"]<|λ_ _ _ _ _ _=>us1 λ_=>rfl
  have d:=D.fn X G ["earlier","last"]<|λ_ _ _ _ _ _=>us2 λ_ _=>rfl
  have d0:=eV.fn X G ["_law_script"]<|λ_ _ _ _ _ _=>us1 λ_=>rfl
  have b6:=d3.fn X G ["_law_bag_here","_law_many"]<|λ_ _ _ _ _ _=>us2 λ_ _=>rfl
  have b7:=d4.fn X G ["_law_bag_here"]<|λ_ _ _ _ _ _=>us1 λ_=>rfl
  have b8:=d5.fn X G ["_law_one","_law_other"]<|λ_ _ _ _ _ _=>us2 λ_ _=>rfl
  have b9:=d6.fn X G ["_law_rows_here"]<|λ_ _ _ _ _ _=>us1 λ_=>rfl
  have ca:=d7.fn X G ["_law_bag_here","_law_row_here"]<|λ_ _ _ _ _ _=>us2 λ_ _=>rfl
  have cb:=d8.fn X G ["_law_rows_here","_law_row_here"]<|λ_ _ _ _ _ _=>us2 λ_ _=>rfl
  have aX:=dd.fn X G ["_law_found"]<|λ_ _ _ _ _ _=>us1 λ_=>rfl
  have d1:=eW.fn X G ["_law_found"]<|λ_ _ _ _ _ _=>us1 λ_=>rfl
  have cd:=d9.fn X G ["_law_found","_law_due"]<|λ_ _ _ _ _ _=>us2 λ_ _=>rfl
  have aY:=de.fn X G ["_law_many"]<|λ_ _ _ _ _ _=>us1 λ_=>rfl
  have T:=bh.fn X G ["_law_rows_here","_law_loops","_law_rank_here","_law_bag_here"]<|λ_ _ _ _ _ _=>us4 λ_ _ _ _=>rfl
  have cg:=ea.fn X G ["_law_bag_here","_law_most"]<|λ_ _ _ _ _ _=>us2 λ_ _=>rfl
  have cj:=ec.fn X G ["_law_body","_law_rows_here"]<|λ_ _ _ _ _ _=>us2 λ_ _=>rfl
  have ck:=ed.fn X G ["_law_field","_law_rows_here","_law_bag_here","_law_tries"]<|λ_ _ _ _ _ _=>us4 λ_ _ _ _=>rfl
  have aZ:=df.fn X G ["_law_bag_here","_law_most"]<|λ_ _ _ _ _ _=>us2 λ_ _=>rfl
  have aA:=cE.fn X G ["_law_arrows"]<|λ_ _ _ _ _ _=>us1 λ_=>rfl
  have a0:=dg.fn X G ["_law_arrows"]<|λ_ _ _ _ _ _=>us1 λ_=>rfl
  have cm:=ee.fn X G ["_law_rows_here","_law_arrows"]<|λ_ _ _ _ _ _=>us2 λ_ _=>rfl
  have a2:=dh.fn X G ["_law_found","_law_due"]<|λ_ _ _ _ _ _=>us2 λ_ _=>rfl
  have n:=ah.fn X G ["_law_body","_law_rows_here"]<|λ_ _ _ _ _ _=>us2 λ_ _=>rfl
  have a3:=di.fn X G ["_law_found","_law_due"]<|λ_ _ _ _ _ _=>us2 λ_ _=>rfl
  have cn:=ef.fn X G ["_law_field","_law_rows_here","_law_arrows"]<|λ_ _ _ _ _ _=>us3 λ_ _ _=>rfl
  have cp:=eg.fn X G ["_law_field","_law_rows_here","_law_arrows"]<|λ_ _ _ _ _ _=>us3 λ_ _ _=>rfl
  have aB:=cH.fn X G ["_law_field","_law_rows_here","_law_arrows"]<|λ_ _ _ _ _ _=>us3 λ_ _ _=>rfl
  have cq:=eh.fn X G ["_law_rows_here","_law_cell"]<|λ_ _ _ _ _ _=>us2 λ_ _=>rfl
  have o:=ai.fn ["self","cell"]<|λ_ _ _ _ _ _=>us2 λ_ _=>rfl
  have H:=aH.fn ["self","row"]<|λ_ _ _ _ _ _=>us2 λ_ _=>rfl
  have f:=E.fn ["self","row","rank"]<|λ_ _ _ _ _ _=>us3 λ_ _ _=>rfl
  have U:=bi.fn ["self","cell"]<|λ_ _ _ _ _ _=>us2 λ_ _=>rfl
  have a4:=dj.fn ["self","low","high"]<|λ_ _ _ _ _ _=>us3 λ_ _ _=>rfl
  have a5:=dm.fn ["self"]<|λ_ _ _ _ _ _=>us1 λ_=>rfl
  have aD:=cJ.fn ["self"]<|λ_ _ _ _ _ _=>us1 λ_=>rfl
  have Y:=bj.fn ["self","cell"]<|λ_ _ _ _ _ _=>us2 λ_ _=>rfl
  have a6:=dq.fn ["self","low"]<|λ_ _ _ _ _ _=>us2 λ_ _=>rfl
  have I:=aI.fn ["self","low","high"]<|λ_ _ _ _ _ _=>us3 λ_ _ _=>rfl
  have d2:=eX.fn ["self","low","high"]<|λ_ _ _ _ _ _=>us3 λ_ _ _=>rfl
  have a7:=dr.fn ["self"]<|λ_ _ _ _ _ _=>us1 λ_=>rfl
  have cs:=ei.fn ["self"]<|λ_ _ _ _ _ _=>us1 λ_=>rfl
  have aa:=bm.fn ["self","cell"]<|λ_ _ _ _ _ _=>us2 λ_ _=>rfl
  obtain⟨fF,fG,et,eu,ew⟩:=eY.fx #[_,c9] da R S rfl rfl DJ<|λ_ _ _ _ _ _ _=>us3 λ_ _ _=>rfl
  obtain⟨fH,fJ,ey,cu⟩:=eZ.ex
  obtain⟨e4,e5,c0,c2,c3⟩:=ds.fx #[_,c9] da R S rfl rfl zt<|λ_ _ _ _ _ _ _=>us1 λ_=>rfl
  obtain⟨e6,e7,c4,aE⟩:=dt.ex
  obtain⟨fb,fe,du,dv,dw⟩:=ej.fx #[_,c9] da R S rfl rfl zu<|λ_ _ _ _ _ _ _=>us2 λ_ _=>rfl
  obtain⟨ff,fh,dx,a8⟩:=ek.ex
  obtain⟨dW,dX,an,ao,aq⟩:=aJ.fx #[_,c9] da R S rfl rfl wX<|λ_ _ _ _ _ _ _=>us2 λ_ _=>rfl
  obtain⟨dY,dZ,ar,p⟩:=aK.ex
  obtain⟨eJ,eK,bE,bF,bG⟩:=cP.fx #[_,c9] da R S rfl rfl yL<|λ_ _ _ _ _ _ _=>us2 λ_ _=>rfl
  obtain⟨eL,eM,bI,ab⟩:=cQ.ex
  obtain⟨eN,eO,bJ,bL,bO⟩:=cR.fx #[_,c9] da R S rfl rfl yK<|λ_ _ _ _ _ _ _=>us1 λ_=>rfl
  obtain⟨eP,eQ,bP,ae⟩:=cU.ex
  obtain⟨eR,eS,bQ,bR,bS⟩:=cV.fx #[_,c9] da R S rfl rfl yJ<|λ_ _ _ _ _ _ _=>us2 λ_ _=>rfl
  obtain⟨eT,eU,bU,af⟩:=cX.ex
  obtain⟨fi,fj,dy,dz,dA⟩:=el.fx #[_,c9] da R S rfl rfl zv<|λ_ _ _ _ _ _ _=>us2 λ_ _=>rfl
  obtain⟨fo,fp,dB,a9⟩:=em.ex
  obtain⟨ft,fv,dC,dD,dE⟩:=en.fx #[_,c9] da R S rfl rfl Bh<|λ_ _ _ _ _ _ _=>us2 λ_ _=>rfl
  obtain⟨fw,fy,dF,ba⟩:=eo.ex
  obtain⟨fz,fA,bb,dG,dH⟩:=aQ.fx #[_,c9] da R S rfl rfl ["self"]<|λ_ _ _ _ _ _ _=>us1 λ_=>rfl
  obtain⟨fB,fC,dI,bc⟩:=aR.ex
  have B:=zz.bn X G
  have b4:=t9 X G gl
  have au:=jc X G al
  have aT:=jc X G aS
  have bV:Xc K mg "NotASum" XS:=#[#[_,_,_,_,jc X G bp,bq,iM],λ_=>trivial]
  have c5:Xc K mg "NoCell" XC:=#[#[_,_,_,_,jc X G cY,cZ,iM],λ_=>trivial]
  have aO:Xc K mg "OtherRank" XO:=#[#[_,_,_,_,jc X G aM,aN,iM],λ_=>trivial]
  have bW:Xc K mg "BadRank" XB:=#[#[_,_,_,_,jc X G br,bt,iM],λ_=>trivial]
  have av:Xc K mg "OpenBorder" XP:=#[#[_,_,_,_,jc X G aj,ak,iM],λ_=>trivial]
  have ez:Xc K mg "Full" XF0:=#[#[_,_,_,_,jc X G ep,er,iM],λ_=>trivial]
  have bX:Xc K mg "Covered" XV:=#[#[_,_,_,_,jc X G bu,bv,iM],λ_=>trivial]
  have bY:Xc K mg "NotFace" XF:=#[#[_,_,_,_,jc X G bA,bB,iM],λ_=>trivial]
  have eA:Xc K mg "Tied" XT:=#[#[_,_,_,_,jc X G b5,es,iM],λ_=>trivial]
  have bZ:Xc K mg "NotTied" XN:=#[#[_,_,_,_,jc X G bC,bD,iM],λ_=>trivial]
  have t:AB K C:=#[#[pg,hd,po,sa],nR,nB,nU]
  have cf:OD K C:=#[nH,nT]
  have dJ:=jc X G aC
  have eB:Isf K mg C CB:=#[jc X G f3,#[pg,hd,po,sa],bH,bN,bT,bM,bK]
  refine#[c,db,jQ "law" "law" (wv CV) (vY CV) (vn CV) .none fW fX fY fZ fK f0,ht,fV,λs v=>.of_eq rfl,λbase _ _ Bt=>?_]
  let q:Cq:=#[l.prog,w,K,mg,base,db]
  have SD:L2.Lu l.prog K XR fI e9 cc "self":=#[#[_,_,_,_,_,lI,rfl,rfl],#[_,_,_,_,_,_,lD,fD,pD],#[_,_,_,gc],#[_,gd],gf,R,S]
  have c6:vZ l.prog w K mg base (wh l.prog w) 3 fI _ ["self","ring"] (YV K XR "ring"):=Vv (P:=l.prog) (w:=w) (mg:=mg) (base:=base) (k:=2) (r:="ring") (fl:="ring") lI cI rfl TR SD (λ_=>#[_,rfl]) b4 B.list rfl lB gg gh rfl (λx=>by rw[PySem.refuseLoop_ref];exact PySem.F.store_ValueError.passes _) sB gi q0q q0q
  have gm:∀h:i9,K.In h->∃mN,h.Ns e8 mN/\mN "__init__"=↑(.ref fI):=λh Z=>#[_,.of_isNs<|qe Z fN,WA Z fN f4]
  have hB:Binds K (kY "__init__" "RingOfArrows.__init__" (wv Ax) (vY Ax) (vn Ax) [75] (.ref TD) f6 f7 f8 f9 (.ref e9) ga) ["self","ring"] []:=λs us Z hl=>by
    have hl:us.length=2:=by simpa using hl
    obtain⟨u1,u2,rfl⟩:=lx2 us hl
    exact PySem.W.binds_K Z rfl lT rfl rfl rfl
  have O:XcI l.prog w K mg base 3 "RingOfArrows" XR "ring":=#[#[fI,e8,_,_,_,_,_,_,NS,_,_,_,_,_,_,_,_,_,_,_,_,_,_,_,jc X G fM,lB,gm,λh Z=>t7 Z f5,lI,rfl,iM,rfl,c6,hB],λ_ _ _ _ _ _=>trivial]
  have i:a0W q XT XR "Tied" "RingOfArrows":=#[jc X G b5,jc X G fM,gj,gk]
  obtain⟨bx,g6,bz,bw,fO,fP,fQ⟩:=bV.ex
  have dL:=RM b.fn az (LG (P:=l.prog) (w:=w) m rfl Bt B.all B.zip) fO fP fQ λ_=>trivial
  have dM:=RN b.fn az (LH (P:=l.prog) (w:=w) m rfl Bt B.all B.zip) fO fP fQ λ_=>trivial
  have eC:=TQ (q:=q) dG t cf #[#[_,_,dI,Wz (P:=l.prog) (w:=w) (mg:=mg) (base:=base) bc t,bc.binds<|λ_ _ _ _ _ _=>us1 λ_=>rfl,b4]]
  have dN:xE q _ _ _ _:=b.fk dL
  have dO:xE q _ _ _ _:=aW.fk<|RO aW.fn b dM B.set B.sorted
  have a:zk q C _ _ _ _:=o.fm<|F8 (q:=q) o.fn t c5
  have u:zk q C _ _ _ _:=H.fm<|HX (q:=q) H.fn t (dN.up q0q)<|a.up q0q
  have y:zk q C _ _ _ _:=f.fm<|CO (q:=q) f.fn t aO
  have aw:zk q C _ _ _ _:=#[_,_,Gd (q:=q) ao #[#[_,_,ar,(HZ (q:=q) p t (dO.up q0q)<|u.up q0q),p.binds<|λ_ _ _ _ _ _=>us2 λ_ _=>rfl,b4]],an,aq]
  have L:zk q C _ _ _ _:=#[_,_,Pr (q:=q) c2 #[#[_,_,c4,(RS (q:=q) aE t B),aE.binds<|λ_ _ _ _ _ _=>us1 λ_=>rfl,b4]],c0,c3]
  have dP:zk q C _ _ _ _:=#[_,_,TK (q:=q) dv #[#[_,_,dx,(RU (q:=q) a8 t (a.up q0q)<|L.up q0q),a8.binds<|λ_ _ _ _ _ _=>us2 λ_ _=>rfl,b4]],du,dw]
  have cv:zk q C _ _ _ _:=#[_,_,Wx (q:=q) eu #[#[_,_,ey,(Y4 (q:=q) cu t (u.up q0q) (y.up q0q) (aw.up q0q) bW ez av au aT B),cu.binds<|λ_ _ _ _ _ _=>us3 λ_ _ _=>rfl,b4]],et,ew]
  have b0:zk q C _ _ _ _:=#[_,_,MA (q:=q) bF #[#[_,_,bI,(OZ (q:=q) ab t (a.up q0q) B),ab.binds<|λ_ _ _ _ _ _=>us2 λ_ _=>rfl,b4]],bE,bG]
  have b1:zk q C _ _ _ _:=#[_,_,MB (q:=q) bL #[#[_,_,bP,(OX (q:=q) ae t),ae.binds<|λ_ _ _ _ _ _=>us1 λ_=>rfl,b4]],bJ,bO]
  have b2:zk q C _ _ _ _:=#[_,_,MC (q:=q) bR #[#[_,_,bU,(OU (q:=q) af t),af.binds<|λ_ _ _ _ _ _=>us2 λ_ _=>rfl,b4]],bQ,bS]
  have dQ:zk q C _ _ _ _:=#[_,_,TL (q:=q) dz #[#[_,_,dB,(R7 (q:=q) a9 t<|a.up q0q),a9.binds<|λ_ _ _ _ _ _=>us2 λ_ _=>rfl,b4]],dy,dA]
  have j:zk q C _ _ _ _:=U.fm<|LM (q:=q) U.fn t cf
  have be:zk q C _ _ _ _:=#[_,_,TM (q:=q) dD t (a.up q0q) (j.up q0q) #[#[_,_,dF,((VH (q:=q) ba t (dP.up q0q) bX)).mono q0q,ba.binds<|λ_ _ _ _ _ _=>us2 λ_ _=>rfl,b4]],dC,dE]
  have c7:zk q C _ _ _ _:=a4.fm<|Sj (q:=q) a4.fn t cf
  have M:zk q C _ _ _ _:=a5.fm<|Sl (q:=q) a5.fn t cf B
  have A:zk q C _ _ _ _:=aD.fm<|O6 (q:=q) aD.fn t cf<|M.up q0q
  have aU:zk q C _ _ _ _:=Y.fm<|LP (q:=q) Y.fn t cf<|a.up q0q
  have aF:zk q C _ _ _ _:=a6.fm<|Sn (q:=q) a6.fn t cf (a.up q0q) bZ
  have J:xE q _ _ _ _:=d.fk<|CP (q:=q) d.fn
  have ax:zk q C _ _ _ _:=I.fm<|Io (q:=q) I.fn t cf (J.up q0q)<|c7.up q0q
  have cw:zk q C _ _ _ _:=d2.fm<|Y8 (q:=q) d2.fn t cf (a.up q0q) (j.up q0q) (ax.up q0q) bY eA O
  have aG:zk q C _ _ _ _:=a7.fm<|O9 (q:=q) a7.fn t cf B
  have bf:zk q C _ _ _ _:=cs.fm<|Su (q:=q) cs.fn t (L.up q0q)<|j.up q0q
  have aV:zk q C _ _ _ _:=aa.fm<|LR (q:=q) aa.fn t cf<|a.up q0q
  have e2:xE q _ _ _ _:=d0.fk<|a0I<|Zp d0.fn B.len B.list
  have g:xE q _ _ _ _:=b6.fk<|YI<|Wv b6.fn B.len
  have cx:xE q _ _ _ _:=b7.fk<|V3 (q:=q) b7.fn<|g.up q0q
  have aP:xE q _ _ _ _:=b8.fk<|V4 (q:=q) b8.fn B
  have k_here:xE q _ _ _ _:=b9.fk<|V6 (q:=q) b9.fn B
  have cy:xE q _ _ _ _:=ca.fk<|V7 (q:=q) ca.fn (g.up q0q) (aP.up q0q) B
  have cz:xE q _ _ _ _:=cb.fk<|V8 (q:=q) cb.fn<|aP.up q0q
  have k_whole:xE q _ _ _ _:=aX.fk<|Td (q:=q) aX.fn B
  have e3:xE q _ _ _ _:=d1.fk<|Zd (q:=q) d1.fn (k_whole.up q0q) B
  have k_same:xE q _ _ _ _:=cd.fk<|Wa (q:=q) cd.fn<|e3.up q0q
  have dR:xE q _ _ _ _:=aY.fk<|Th (q:=q) aY.fn B
  have b3:xE q _ _ _ _:=T.fk<|Md (q:=q) T.fn (g.up q0q) (aP.up q0q) (k_here.up q0q) (cy.up q0q) (cz.up q0q) B
  have eD:xE q _ _ _ _:=cg.fk<|Wc (q:=q) cg.fn (g.up q0q) (dR.up q0q) (cx.up q0q) (b3.up q0q) B
  have k_fill:xE q _ _ _ _:=cj.fk<|Wd (q:=q) cj.fn t (cv.up q0q) (be.up q0q) B
  have eE:xE q _ _ _ _:=ck.fk<|We (q:=q) ck.fn t (k_here.up q0q) (g.up q0q) (aF.up q0q) (cw.up q0q) i B
  have dS:xE q _ _ _ _:=aZ.fk<|Tk (q:=q) aZ.fn #[mk,bb.at_,bb.fn,kc] (eC.mono q0q) dH dJ (eD.up q0q) (k_fill.up q0q) (eE.up q0q) (g.up q0q) B
  have N:xE q _ _ _ _:=aA.fk<|Pl (q:=q) aA.fn
  have ag:xE q _ _ _ _:=a0.fk<|To (q:=q) a0.fn B
  have eF:xE q _ _ _ _:=cm.fk<|Wh (q:=q) cm.fn (N.up q0q) (ag.up q0q)<|k_here.up q0q
  have dU:xE q _ _ _ _:=a2.fk<|Tt (q:=q) a2.fn B
  have ay:xE q _ _ _ _:=n.fk<|Gb (q:=q) n.fn t (k_same.up q0q) (k_here.up q0q) (dU.up q0q) (k_whole.up q0q) (L.up q0q) (b1.up q0q) (b2.up q0q) (dQ.up q0q) (b0.up q0q) B
  have bg:xE q _ _ _ _:=a3.fk<|Tu (q:=q) a3.fn (k_whole.up q0q) B
  have cD:xE q _ _ _ _:=cn.fk<|Wj (q:=q) cn.fn t (N.up q0q) (ag.up q0q) (k_same.up q0q) (eF.up q0q) (bg.up q0q) (k_here.up q0q) (k_whole.up q0q) (M.up q0q) (aG.up q0q) (bf.up q0q) (A.up q0q) (aU.up q0q)<|aV.up q0q
  have eG:xE q _ _ _ _:=cp.fk<|Wl (q:=q) cp.fn t (ay.up q0q) (bg.up q0q)<|A.up q0q
  have c8:xE q _ _ _ _:=aB.fk<|Pn (q:=q) aB.fn (eG.up q0q)<|cD.up q0q
  have eH:xE q _ _ _ _:=cq.fk<|Wp (q:=q) cq.fn<|k_here.up q0q
  exact a0K (a0J<|Zo (q:=q) e1 t eB (e2.up q0q) (dS.up q0q) (cD.up q0q) (g.up q0q) (k_whole.up q0q) (c8.up q0q) (cx.up q0q) (cz.up q0q) (cy.up q0q) (k_here.up q0q) (N.up q0q) (ag.up q0q) (eH.up q0q) (M.up q0q) (aG.up q0q) (bf.up q0q) (A.up q0q) (aF.up q0q) (cw.up q0q) (cv.up q0q) (be.up q0q) B) λ_ _ _ _ z=>z
def walk{l:qU}{q:iN}{loose:List Str}{XP:(Str->Option cr)->i9->Prop}{YP:jf->i9->Prop}{d:DefRec}{K:Params->hI}{dx:DefRec}(hn:l.most=↑63)(hdf:d.params.defaults=[])
  (hY:∀(w:jf)(h:i9),YP w h->(K w.params).In h) (a3a:(PyProof.Rows.recsOf q).find? (λe=>e.name==("is_sum":Str))=↑dx)
  (F:∀(w:jf)(mg:Str->Option cr)(fa:g9)(h:i9),(K w.params).In h->h.Ns iq mg->mg d.name=↑(.ref fa) ->
   ∃(c tab:g9)(fd:iW),oz (K w.params) "is_sum"=↑(c,tab)/\(K w.params).lookup tab=none/\(∀(s:hW)(u:cr),tj s fd #[[u],[]] [("_law_script",u)]) /\
    ∀base:i9,(K w.params).In base->base.Ns iq mg->JE mg base c tab->vZ l.prog w (K w.params) mg base Qk 11 fa fd ["_law_script"] (Ng (K w.params) tab)) :
  vh q loose XP YP l.row.toRowW d [] (λf vs=>ur f vs) :=
 L2.Qz (n:=63) (k:=11) (x:="_law_script") (tx:="is_sum") (CX:=Qk) (sp:=λ_ K tab=>Ng K tab) hn q0q hdf #[rfl,q0q,q0q] hY a3a F (λ_ K H a tab ns _ hS hH=>#[a,ns,rfl,hS,#[#v[],hH,trivial],λ_=>rfl]) λ_ _ _ _ z=>z
end K7
open WL
open K7
set_option tactic.hygienic true
set_option hygiene true
namespace PySem.W.Fast
def tw11462503534405569581:=0
def tw121175025248922728:=0
def tw14477962356714175826:=0
def tw14084083636387971796:=0
def tw7341713083653264171:=0
def tw2538517243081413247:=0
def tw3599552029412143507:=0
def tw10886973575463363549:=0
def tw4330555094278263211:=0
def tw3036804851891042359:=0
def tw927668204119747546:=0
def tw10359032435545296916:=0
def tw17841456922958403854:=0
def tw13042060555372463572:=0
def tw12522774242866311359:=0
def tw14466885987247362577:=0
def tw8592584425615237859:=0
def tw9560548072393446859:=0
def tw15909075745728174849:=0
def tw2809476205767282481:=0
def tw1925472887186115805:=0
def tw15314974040735490190:=0
def tw13054119631161718341:=0
def tw18185888415427475652:=0
def tw9270929116618340405:=0
def tw2924058622415888810:=0
def tw1866986169050538676:=0
def tw5883903826129804371:=0
def tw10835845152096320568:=0
def tw16552155716661285263:=0
def tw11944318227437286653:=0
def tw5403784107195575158:=0
def tw13460696762996543825:=0
def tw7307729204309632909:=0
def tw4228526399841869918:=0
def tw9958384239228242167:=0
def tw127382922150213187:=0
def tw2578095323981747557:=0
def tw9181607488354738305:=0
def tw11313038904553965768:=0
def tw17359563498141926543:=0
def tw17802817820707344975:=0
def tw1921381332420492077:=0
def tw13615274373356790821:=0
def tw8273981797380716057:=0
def tw9449019558834313157:=0
def tw8057195061956359379:=0
def tw3165159342634051838:=0
def tw15242718538119647235:=0
def tw2170828619558425:=0
def tw10376057205662443503:=0
def tw3767625474804892311:=0
def tw5789050000514526733:=0
def tw13949595153419701455:=0
def tw7787393958046103571:=0
def tw16051620578775038227:=0
def tw16443843049872383235:=0
def tw15032722352625259327:=0
def tw8435552786951097776:=0
def tw13825452810491983637:=0
def tw2552658345020619153:=0
def tw15928653866816538985:=0
def tw5243142728664413627:=0
def tw6737980690223064654:=0
def tw18032890197338323540:=0
def tw15847988962787561147:=0
def tw9937747458931979719:=0
def tw9166891086920651528:=0
def tw16381164994394964552:=0
def tw12349250551081905343:=0
def tw15040761000689361608:=0
def tw16478744148373667773:=0
def tw10372425550928914763:=0
def tw9485346574605553048:=0
def tw9196596816909800563:=0
def tw18427351729218489242:=0
def tw5787056857638424248:=0
def tw16910274548521654196:=0
def tw6106596237807743761:=0
def tw8773613986943641880:=0
def tw18423486782016700139:=0
def tw11669795906937607580:=0
def tw14685740521269798506:=0
def tw11433443160966608567:=0
def tw3040159373638719021:=0
def tw4203885776908482489:=0
def tw1888034256689074206:=0
def tw16200637872429858712:=0
def tw16353015841985171162:=0
def tw16733630755611600692:=0
def tw7220878753942690628:=0
def tw1758548466668266259:=0
def tw15236155080835225865:=0
def tw11636267940656261674:=0
def tw13198827101498379947:=0
def tw16779734814047342140:=0
def tw1064037204159555648:=0
def tw2657054990196499189:=0
def tw12938941363567471705:=0
def tw12681566784078047722:=0
def tw13759155243075079910:=0
def tw9717608019616397670:=0
def tw7109669154901849645:=0
def tw4392018569029790010:=0
def tw10986324052084425061:=0
def tw12078785907432402943:=0
def tw7797524698909087907:=0
def tw1606806481948232668:=0
def tw7425221140207559330:=0
def tw3321134644008928512:=0
def tw15219339941738034415:=0
def tw6789103645201082345:=0
def tw12656159468164610578:=0
def tw17231375715552092634:=0
def tw10187500370948486158:=0
def tw14847068754395477151:=0
def tw4684916378923231286:=0
def tw14398693136039739100:=0
def tw3738670971940147924:=0
def tw9151540803351482348:=0
def tw18415095732759496271:=0
def tw11198764156959623480:=0
def tw2279202443833827999:=0
def tw7890109432719428691:=0
def tw15948104177003021343:=0
def tw3960408450964789995:=0
def tw6661956253072270747:=0
def tw10926922900764405143:=0
def tw8551666368063435193:=0
def tw11059190371235806794:=0
def tw12928983985797028135:=0
def tw8537057660722666852:=0
def tw4457512473630595789:=0
def tw3196886322643113231:=0
def tw15829259691549293015:=0
def tw12511975375598374560:=0
def tw11193567449553958431:=0
def tw1669264920690871075:=0
def tw7041180481597927458:=0
def tw7904464173222274392:=0
def tw396704981779871556:=0
def tw5356244207319003461:=0
def tw12848395028745835561:=0
def tw1386598777583647337:=0
def tw6172913503802208532:=0
def tw3141727491204577247:=0
def tw16392509676517222604:=0
def tw16678501906898589431:=0
def tw17184628624370984979:=0
def tw7005206146952676480:=0
def tw3566033282859437261:=0
def tw1228625421988814839:=0
def tw18426814549847184428:=0
def tw2192860530443454672:=0
def tw6892857818057001811:=0
def tw5021824476375211277:=0
def tw15004465744846749537:=0
def tw15717421757065693963:=0
def tw11247178260606539498:=0
def tw10486246121788450151:=0
def tw7243678331637933923:=0
def tw14768476726489639761:=0
def tw1986086888026349025:=0
def tw10503272063477419618:=0
def tw15421622808591088680:=0
def tw6765838979863614710:=0
def tw258055920443692038:=0
def tw2136370343298532969:=0
def tw3817184555867357374:=0
def tw11930822672907923417:=0
def tw4427715460388587222:=0
def tw6890927426110381101:=0
def tw10588942555831822398:=0
def tw15717651181108232715:=0
def tw9371317805106477976:=0
def tw13365286375410632104:=0
def tw13878825031536374705:=0
def tw1504018095829324190:=0
def tw5548004210034321482:=0
def tw12404308645712333206:=0
def tw11909377911580440830:=0
def tw26186349996439883:=0
def tw11254684374159177260:=0
def tw8403659355583255783:=0
def tw9539709507016673121:=0
def tw15535558349984238030:=0
def tw15808560370741243271:=0
def tw14913979992667171427:=0
def tw7975354561828605694:=0
def tw10816263951995969401:=0
def tw6613447209943574122:=0
def tw14436776478046430732:=0
def tw12042134297329940864:=0
def tw2320244432623361498:=0
def tw12061351990209304819:=0
def tw2612403326182330816:=0
def tw8929383127801702896:=0
def tw587716904939082451:=0
def tw14304431939094458907:=0
def tw7714249269882094159:=0
def tw11763905475027867006:=0
def tw1035318879726059498:=0
def tw10003195603875417996:=0
def tw4328012692090315742:=0
def tw4911663446798606396:=0
def tw2283101281849567819:=0
def tw3528347724168872928:=0
def tw7228532989889278646:=0
def tw6546617822709042408:=0
def tw4267726111342488883:=0
def tw17768814920508607520:=0
def tw13813653962830363865:=0
def tw11258864993931541085:=0
def tw10229363918185401882:=0
def tw9485573000621386917:=0
def tw4713109854923896201:=0
def tw307891469438354597:=0
def tw4701474492295739572:=0
def tw7685375558329545740:=0
def tw10947700440941099269:=0
def tw17109007767084164348:=0
def tw11348363234935665822:=0
def tw13257866294507193432:=0
def tw14729159881418261333:=0
def tw10733396687405682867:=0
def tw524082135526108628:=0
def tw5493585225499986449:=0
def tw15912986427477948360:=0
def tw1944378141668656059:=0
def tw16630196682484105503:=0
def tw9710221693276146970:=0
def tw2301288243149344730:=0
def tw3586758501636327754:=0
def tw3267144902316797838:=0
def tw2594159555742642570:=0
def tw8804720027690062394:=0
def tw7545696721636134500:=0
def tw2583426324891282686:=0
def tw15453410513698767916:=0
def tw8840748280118432313:=0
def tw839281021604958734:=0
def tw16516466954446834215:=0
def tw1862513817175459852:=0
def tw13050199542240264371:=0
def tw1208846516894348956:=0
def tw3526087115305502076:=0
def tw16274448211125334353:=0
def tw13509548675067065277:=0
def tw10139709798534315690:=0
def tw9937436670601903813:=0
def tw8541758746576224534:=0
def tw13893509848448944805:=0
def tw10093548455937807563:=0
def tw1333072253828493362:=0
def tw6063970430999381641:=0
def tw13387115781852664253:=0
def tw12067492358518894498:=0
def tw9471011365510306022:=0
def tw17459531346469469180:=0
def tw16890269566677976094:=0
def tw14024812656216727988:=0
def tw12337969888323459410:=0
def tw11955160758522685116:=0
def tw9737266165321107234:=0
def tw15633128614062957811:=0
def tw7397989832194943589:=0
def tw11404591671094705298:=0
def tw9840611802769546088:=0
def tw960066733334279165:=0
def tw4272918270092159442:=0
def tw17838895525259209543:=0
def tw11412242444050843321:=0
def tw15713323303161399006:=0
def tw14421826408192597557:=0
def tw4630340784257148024:=0
def tw13903926721991194557:=0
def tw13224462872598363186:=0
def tw6332273145981209660:=0
def tw17177934558896111539:=0
def tw17556247460358454069:=0
def tw3023751669504722569:=0
def tw2873158704080515768:=0
def tw7323870361660309659:=0
def tw13888647481949032642:=0
def tw3629648395058073891:=0
def tw14029880234122466421:=0
def tw11662205932124289971:=0
def tw1529739642320205384:=0
def tw9628702480817585426:=0
def tw7635130752836675101:=0
def tw6758857643487437584:=0
def tw2610276306700641240:=0
def tw12243130031608418297:=0
def tw8009544173030305079:=0
def tw2501698132397643781:=0
def tw9441318291878926682:=0
def tw9573939501520835649:=0
def tw13469744896329245854:=0
def tw5161760878387678935:=0
def tw13234147571629176088:=0
def tw12740000740532747393:=0
def tw10619151427176659124:=0
def tw9170976379775754678:=0
def tw8233617229595609098:=0
def tw5751380034783543518:=0
def tw8959372303045123262:=0
def tw7721176036767965453:=0
def tw17022653828348521360:=0
def tw10528648675779367574:=0
def tw2789950654869611096:=0
def tw8450095264689762374:=0
def tw2388641246742218060:=0
def tw7936647480644666568:=0
def tw9870186486300840860:=0
def tw8971382651447345810:=0
def tw7981920746319851940:=0
def tw7745859488910394572:=0
def tw763850494428516455:=0
def tw6966001080489142379:=0
def tw6558519346439984265:=0
def tw4908753592935174476:=0
def tw3943964921619145669:=0
def tw3346581803603973357:=0
def tw3031426890004631758:=0
def tw2086844749255219042:=0
def tw2069326640739329396:=0
def tw17843456699856818430:=0
def tw12562254320102457379:=0
def tw11374547886547457550:=0
def tw10894008574522602080:=0
def tw15812683407029453571:=0
def tw8201468744646470368:=0
def tw8340036640347037631:=0
def tw7682924033261743549:=0
def tw2087419998181620241:=0
def tw8973972477205555160:=0
def tw6669705831056032079:=0
def tw5711307107621877846:=0
def tw3494374870411126183:=0
end PySem.W.Fast
open PySem PySem.W PyProof.Rows
set_option maxHeartbeats 0 in
theorem PySem.Challenge.cw_slimbody_k11_arrows_kept_holds : PySem.Challenge.rw_slimbody_k11_arrows_kept.Holds := by
  w_on; o_law; k_head; (case hw => w_witness2)
  k_fill
  refine K7.walk (l := PySem.Challenge.rw_slimbody_k11_arrows_kept) rfl rfl (fun w h Y => PySem.W.kIn_of Y) (by rfl) ?j0a
  case j0a =>
    intro w mg fa h KX G hmg
    refine' K7.all_mk KX G hmg ?_ ?_ ?_ ?_ ?_ ?_ ?_ ?_ ?_ ?_ ?_ ?_ ?_ ?_ ?_ ?_ ?_ ?_ ?_ ?_ ?_ ?_ ?_ ?_ ?_ ?_ ?_ ?_ ?_ ?_ ?_ ?_ ?_ ?_ ?_ ?_ ?_ ?_ ?_ ?_ ?_ ?_ ?_ ?_ ?_ ?_ ?_ ?_ ?_ ?_ ?_ ?_ ?_ ?_ ?_ ?_ ?_ ?_ ?_ ?_ ?_ ?_ ?_ ?_ ?_ ?_ ?_ ?_ ?_ ?_ ?_ ?_ ?_ ?_ ?_ ?_ ?_ ?_ ?_ ?_ ?_ ?_ ?_ ?_ ?_ ?_ ?_ ?_ ?_ ?_ ?_ ?_ ?_ ?_ ?_ ?_ ?_ ?_ ?_ ?_ ?_ ?_ ?_ ?_ ?_ ?_ ?_ ?_ ?_ ?_ ?_ ?_ ?_ ?_ ?_ ?_ ?_ ?_ ?_ ?_ ?_ ?_ ?_ ?_ ?_ ?_ ?_ ?_ ?_ ?_ ?_ ?_ ?_ ?_ ?_ ?_ ?_ ?_ ?_ ?_ ?_
    all_goals try first | k_is | k_exc | exact a0L (by k_is) (by k_is) (by k_is) (by k_is) | exact a0M (by k_is) (by k_is) (by k_is) (by k_is) (by k_is) | exact a1h (by k_is) (by k_is) (by k_is) (by k_is) (by k_is) (by k_is) (by rfl) (by rfl) (by k_is) | exact a1i (by rfl) (by k_is) (by k_is) (by k_is) (by k_is) (by k_is) | rfl | kernel_rfl
    constructor <;> k_is
