import PyProof.Rows.All
import Wide.All
import OpenK.AllK
import Wide.FinOn
import Lean
import PyProof.EqAt
import PyProof.EqKinds
import PyProof.TupleCall
import PyProof.Rows.SetFrom
import PyProof.Rows.SortWalkRead
import PyProof.Rows.EqDataRows
import PyProof.CompFree
import PyProof.ZipIter
import PyProof.Rows.ZipGen
import PyProof.GenCompD
import PyProof.CodeObjX
import KE.KNest
import PyProof.DictWalks
import PyProof.AutoListH
import PyProof.WalksMore
import PyProof.Draws
import PyProof.EnumFor
import PyProof.EnumMake
import PyProof.EnumStmt
import PyProof.Rows.EnumRows
import PyProof.WalkInts
import PyProof.ExcBaseAll.ValueError
import PySem.Challenge.RW_slimbody_k40_whole_filling_or_bar
set_option Elab.async false
set_option linter.all false
set_option maxRecDepth 100000
open PySem PySem.Spec in
abbrev wB:=@wpAny_bind
open PySem PySem.Spec in
abbrev wP:=@wpAny_pure
namespace L2
open PySem PySem.Spec PyProof.Rows
abbrev Key:=Sum Int Str
def k2k:Key->Value->Bool
 | .inl k,v=>Value.isInt k v
 | .inr x,v=>Value.isStrOf x v
def keyH (w:World):Key->Int
 | .inl k=>hashInt k
 | .inr x=>hashStr w x
theorem j1c:∀ {k:Key} {v:Value},k2k k v=true->(∃ i t,k=Sum.inl i/\v=Value.int i t)\/(∃ x t,k=Sum.inr x/\v=Value.str x t)
 | .inl i,v,h=>by
  obtain ⟨t,e⟩:=Value.isInt_shape (k:=i) (v:=v) h;exact .inl ⟨i,t,rfl,e⟩
 | .inr x,v,h=>by obtain ⟨t,e⟩:=Value.isStrOf_shape (x:=x) (v:=v) h;exact .inr ⟨x,t,rfl,e⟩
theorem k8a (i:Int) (t:Tok):k2k (.inl i) (.int i t)=true:=by simp [k2k,Value.isInt]
theorem k79 (x:Str) (t:Tok):k2k (.inr x) (.str x t)=true:=by simp [k2k,Value.isStrOf]
theorem w8k (a b:Int):decide ((Sum.inl a:Key)=Sum.inl b)=(a == b):=by
 by_cases e:a=b
 ·subst e;simp
 ·have h:¬ (Sum.inl a:Key)=Sum.inl b:=fun q=>e (Sum.inl.inj q);rw [decide_eq_false h];exact (beq_eq_false_iff_ne.mpr e).symm
theorem w8h (a b:Str):decide ((Sum.inr a:Key)=Sum.inr b)=decide (a=b):=by
 by_cases e:a=b
 ·subst e;simp
 ·have h:¬ (Sum.inr a:Key)=Sum.inr b:=fun q=>e (Sum.inr.inj q);rw [decide_eq_false h,decide_eq_false e]
theorem w8j (a:Int) (b:Str):decide ((Sum.inl a:Key)=Sum.inr b)=false:=decide_eq_false (fun q=>nomatch q)
theorem w8i (a:Str) (b:Int):decide ((Sum.inr a:Key)=Sum.inl b)=false:=decide_eq_false (fun q=>nomatch q)
def j1k (prog:Program) (w:World):PySem.KeyKind prog w Key where
 is:=k2k
 hash:=keyH w
 inj:=fun v a b ha hb=>by
  rcases j1c ha with ⟨i,t,rfl,rfl⟩ | ⟨x,t,rfl,rfl⟩
  ·rcases j1c hb with ⟨j,u,rfl,e⟩ | ⟨y,u,rfl,e⟩
   ·injection e with e1 _;rw [e1]
   ·exact nomatch e
  ·rcases j1c hb with ⟨j,u,rfl,e⟩ | ⟨y,u,rfl,e⟩
   ·exact nomatch e
   ·injection e with e1 _;rw [e1]
 byValue:=fun k v h=>by rcases j1c h with ⟨i,t,rfl,rfl⟩ | ⟨x,t,rfl,rfl⟩<;>rfl
 pyHash:=fun hv h=>by
  rcases j1c hv with ⟨i,t,rfl,rfl⟩ | ⟨x,t,rfl,rfl⟩
  ·exact wpAny_pyHash_int h
  ·exact wpAny_pyHash_str h
 eqBool:=fun hu hv h=>by
  rcases j1c hu with ⟨i,t,rfl,rfl⟩ | ⟨x,t,rfl,rfl⟩
  ·rcases j1c hv with ⟨j,u,rfl,rfl⟩ | ⟨y,u,rfl,rfl⟩
   ·rw [w8k] at h;exact wpAny_eqBool_int h
   ·rw [w8j] at h;exact SeqAt.EqAt.int_str i t y u _ _ _ _ h
  ·rcases j1c hv with ⟨j,u,rfl,rfl⟩ | ⟨y,u,rfl,rfl⟩
   ·rw [w8i] at h;exact SeqAt.EqAt.str_int x t j u _ _ _ _ h
   ·rw [w8h] at h;exact wpAny_eqBool_str h
 «strs»:=fun k x t v h=>by
  rcases j1c h with ⟨i,u,rfl,e⟩ | ⟨y,u,rfl,e⟩
  ·exact nomatch e
  ·injection e with e1 _;subst e1;cases v<;>rfl
theorem k2j (prog:Program) (w:World) (i:Int) (t:Tok):(j1k prog w).is (.inl i) (.int i t)=true:=k8a i t
theorem k2i (prog:Program) (w:World) (x:Str) (t:Tok):(j1k prog w).is (.inr x) (.str x t)=true:=k79 x t
end L2
namespace L2
open PySem PySem.Spec PyProof.Rows
inductive V where
 | non | bl (b:Bool) | int (i:Int) | str (x:Str) | byt (b:Array UInt8) | flt (b:UInt64) | ref (a:Addr) | ty (n:String)
 deriving DecidableEq
def RelV:V->Value->Prop
 | .non,u=>u=Value.none
 | .bl b,u=>u=Value.bool b
 | .int i,u=>∃ t,u=Value.int i t
 | .str x,u=>∃ t,u=Value.str x t
 | .byt b,u=>∃ t,u=Value.bytes b t
 | .flt b,u=>∃ t,u=Value.float b t
 | .ref a,u=>u=Value.ref a
 | .ty n,u=>u=Value.type n
abbrev Vals:List V->List Value->Prop:=Paired RelV
theorem Vals.length {xs:List V} {us:List Value} (r:Vals xs us):xs.length=us.length:=Paired.length r
theorem Vals.get:∀ {xs:List V} {us:List Value} {i:Nat} {x:V},Vals xs us->xs[i]?=some x->∃ u,us[i]?=some u/\RelV x u
 | _,_,_,_,.nil,e=>by simp at e
 | _,_,0,_,.cons r _,e=>by simp at e;subst e;exact ⟨_,rfl,r⟩
 | _,_,i + 1,x,.cons _ t,e=>by obtain ⟨u,h1,h2⟩:=Vals.get (i:=i) (x:=x) t (by simpa using e);exact ⟨u,by simpa using h1,h2⟩
theorem Vals.set {x:V} {u:Value} (r:RelV x u):∀ {xs:List V} {us:List Value} (i:Nat),Vals xs us->Vals (xs.set i x) (us.set i u)
 | _,_,_,.nil=>.nil
 | _,_,0,.cons _ t=>.cons r t
 | _,_,i + 1,.cons q t=>.cons q (Vals.set r i t)
theorem Vals.append:∀ {xs ys:List V} {us ws:List Value},Vals xs us->Vals ys ws->Vals (xs++ys) (us++ws)
 | _,_,_,_,.nil,s=>s
 | _,_,_,_,.cons r t,s=>.cons r (Vals.append t s)
theorem Vals.take:∀ {xs:List V} {us:List Value} (n:Nat),Vals xs us->Vals (xs.take n) (us.take n)
 | _,_,0,_=>.nil
 | _,_,_ + 1,.nil=>.nil
 | _,_,n + 1,.cons r t=>.cons r (Vals.take n t)
theorem Vals.drop:∀ {xs:List V} {us:List Value} (n:Nat),Vals xs us->Vals (xs.drop n) (us.drop n)
 | _,_,0,r=>r
 | _,_,_ + 1,.nil=>.nil
 | _,_,n + 1,.cons _ t=>Vals.drop n t
def RelO:Option V->Option Value->Prop
 | some v,some u=>RelV v u
 | none,none=>True
 | _,_=>False
def KV {κ:Type}:List (κ×V)->List (κ×Value)->Prop:=Paired fun (p:κ×V) (q:κ×Value)=>p.1=q.1/\RelV p.2 q.2
def kV:Key->V
 | .inl i=>.int i
 | .inr x=>.str x
inductive HO where
 | lst (xs:List V)
 | tup (xs:List V)
 | dK (kvs:List (Key×V)) | dT (kvs:List (List Key×V))
 | set (S:Int->Bool) (n:Nat)
 | ins (C dx:Addr) (fs:List (Str×V))
 | own (x:Addr)
 | xd (fs:List (Str×V))
 | met (f x:Addr)
 | rng (lo hi:Int)
 | frz (o:Obj) (u:HO)
 | tbl (ps:Array Value)
 | ext (φ:Heap->Prop)
abbrev Hp:=Addr->Option HO
def upd (H:Hp) (a:Addr) (o:HO):Hp:=fun b=>if b=a then some o else H b
theorem j0h {H:Hp} {a:Addr} {o:HO}:upd H a o a=some o:=by unfold upd;rw [if_pos rfl]
theorem j0g {H:Hp} {a b:Addr} {o:HO} (h:b≠a):upd H a o b=H b:=by unfold upd;rw [if_neg h]
theorem ne_of {H:Hp} {a b:Addr} {o u:HO} (h:H a=some o) (h':H b=some u) (d:o≠u):a≠b:=by intro e;subst e;rw [h] at h';exact d (Option.some.inj h')
theorem j0m {H:Hp} {a b:Addr} {o:HO} (h:H a=some o) (h':H b=none):a≠b:=by intro e;subst e;rw [h] at h';cases h'
section
variable (P:Program) (w:World)
def ObjOk (H:Hp) (h:Heap) (a:Addr):HO->Prop
 | .lst xs=>xs.length<=sizeLine/\∃ (its:List Value) (n:Nat),Vals xs its/\h.get? a=some { cls:=.type "list",data:=.seq its.toArray n}
 | .tup xs=>xs.length<=sizeLine/\∃ its:List Value,Vals xs its/\IsTup h a its.toArray
 | .dK kvs=>kvs.length<=sizeLine/\(a == sysModules)=false/\∃ vs,KV kvs vs/\h.DictOf (j1k P w) a vs
 | .dT kvs=>kvs.length<=sizeLine/\(a == sysModules)=false/\∃ xs:List (List Key×Addr×Value),
   Paired (fun (p:List Key×V) (q:List Key×Addr×Value)=>p.1=q.1/\H q.2.1=some (.tup (p.1.map kV))/\RelV p.2 q.2.2) kvs xs /\
   ∃ o es ep,h.get? a=some o/\o.ExactDict/\o.data=.dict es ep/\es.toList=xs.map (entryOfKey (tupleKind (j1k P w)))/\(xs.map (·.1)).Nodup
 | .set S n=>h.SetOf (intKind P w) a S n
 | .ins C dx fs=>H dx=some (.own a)/\fs.length<=1000/\dx≠a/\h.get? a=some (PySem.W.instObj C dx) /\
   ∃ mA,h.Ns1 dx mA/\(∀ f,RelO (fs.lookup f) (mA f))/\PySem.Within mA (fs.map (·.1))
 | .own _=>∃ o,h.get? a=some o
 | .xd fs=>∃ mA,h.Ns1 a mA/\∀ f,RelO (fs.lookup f) (mA f)
 | .rng lo hi=>∃ t u v,h.get? a=some { cls:=.type "range",data:=.fields #[.int lo t,.int hi u,.int 1 v]}
 | .frz o u=>h.get? a=some o/\ObjOk H h a u
 | .tbl ps=>h.get? a=some { cls:=.none,data:=.fields ps}
 | .met f x=>h.get? a=some (PySem.W.methodObj (.ref f) (.ref x))
 | .ext φ=>φ h/\(∃ o,h.get? a=some o)/\∀ h1 h2:Heap,φ h1->(∀ o,h1.get? a=some o->h2.get? a=some o)->φ h2
def HOk (H:Hp) (h:Heap):Prop:=∀ a o,H a=some o->ObjOk P w H h a o
end
section
variable {P:Program} {w:World} {H H':Hp} {h h':Heap} {a:Addr} {o:HO}
theorem ObjOk.lt (x:ObjOk P w H h a o):a < h.objs.size:=by
 cases o with
 | lst xs=>obtain ⟨_,_,_,_,e⟩:=x;exact Heap.lt_size e
 | tup xs=>obtain ⟨_,_,_,p⟩:=x;exact p.lt
 | dK kvs=>obtain ⟨_,_,_,_,o,_,_,e,_⟩:=x;exact Heap.lt_size e
 | dT kvs=>obtain ⟨_,_,_,_,o,_,_,e,_⟩:=x;exact Heap.lt_size e
 | set S n=>obtain ⟨o,_,_,_,e,_⟩:=x;exact Heap.lt_size e
 | ins C dx fs=>obtain ⟨_,_,_,e,_⟩:=x;exact Heap.lt_size e
 | own y=>obtain ⟨_,e⟩:=x;exact Heap.lt_size e
 | xd fs=>obtain ⟨_,⟨_,_,_,e,_⟩,_⟩:=x;exact Heap.lt_size e
 | rng lo hi=>obtain ⟨_,_,_,e⟩:=x;exact Heap.lt_size e
 | frz ob u=>obtain ⟨e,_⟩:=x;exact Heap.lt_size e
 | tbl ps=>exact Heap.lt_size (show h.get? a=some _ from x)
 | met f y=>exact Heap.lt_size (show h.get? a=some _ from x)
 | ext φ=>obtain ⟨_,⟨_,e⟩,_⟩:=x;exact Heap.lt_size e
theorem Paired.mapP {Y β:Type} {F G:Y->β->Prop}:∀ {l₁:List Y} {l₂:List β},Paired F l₁ l₂->(∀ a b,F a b->G a b)->Paired G l₁ l₂
 | _,_,.nil,_=>.nil
 | _,_,.cons r t,f=>.cons (f _ _ r) (Paired.mapP t f)
theorem ObjOk.stay (x:ObjOk P w H h a o) (k:∀ b u,(b=a\/H b=some (.own a))->h.get? b=some u->h'.get? b=some u)
  (ho:∀ b,H b=some (.own a)->H' b=some (.own a)) (ht:∀ b xs,H b=some (.tup xs)->H' b=some (.tup xs)):ObjOk P w H' h' a o:=by
 induction o with
 | lst xs=>obtain ⟨z,its,n,r,e⟩:=x;exact ⟨z,its,n,r,k _ _ (.inl rfl) e⟩
 | tup xs=>obtain ⟨z,its,r,ob,e,c⟩:=x;exact ⟨z,its,r,ob,k _ _ (.inl rfl) e,c⟩
 | dK kvs=>obtain ⟨z,y,vs,r,ob,es,ep,e,c⟩:=x;exact ⟨z,y,vs,r,ob,es,ep,k _ _ (.inl rfl) e,c⟩
 | dT kvs =>
  obtain ⟨z,y,xs,r,ob,es,ep,e,c⟩:=x;exact ⟨z,y,xs,Paired.mapP r fun p q z=>⟨z.1,ht _ _ z.2.1,z.2.2⟩,ob,es,ep,k _ _ (.inl rfl) e,c⟩
 | set S n=>obtain ⟨ob,es,ep,t,e,c⟩:=x;exact ⟨ob,es,ep,t,k _ _ (.inl rfl) e,c⟩
 | ins C dx fs =>
  obtain ⟨d,z,ne,e,mA,⟨od,es,ep,e2,c⟩,r⟩:=x;exact ⟨ho _ d,z,ne,k _ _ (.inl rfl) e,mA,⟨od,es,ep,k _ _ (.inr d) e2,c⟩,r⟩
 | own y=>obtain ⟨ob,e⟩:=x;exact ⟨ob,k _ _ (.inl rfl) e⟩
 | xd fs=>obtain ⟨mA,⟨od,es,ep,e,c⟩,r⟩:=x;exact ⟨mA,⟨od,es,ep,k _ _ (.inl rfl) e,c⟩,r⟩
 | rng lo hi=>obtain ⟨t,u,v,e⟩:=x;exact ⟨t,u,v,k _ _ (.inl rfl) e⟩
 | frz ob u ih=>obtain ⟨e,q⟩:=x;exact ⟨k _ _ (.inl rfl) e,ih q⟩
 | tbl ps =>
  have e:h.get? a=some { cls:=.none,data:=.fields ps}:=x;show h'.get? a=some { cls:=.none,data:=.fields ps};exact k a _ (.inl rfl) e
 | met f y =>
  have e:h.get? a=some (PySem.W.methodObj (.ref f) (.ref y)):=x;show h'.get? a=some (PySem.W.methodObj (.ref f) (.ref y));exact k a _ (.inl rfl) e
 | ext φ=>obtain ⟨p,⟨o,e⟩,st⟩:=x;exact ⟨st _ _ p fun o q=>k _ _ (.inl rfl) q,⟨o,k _ _ (.inl rfl) e⟩,st⟩
theorem HOk.lt (x:HOk P w H h) (e:H a=some o):a < h.objs.size:=(x a o e).lt
theorem HOk.fresh (x:HOk P w H h) (e:h.objs.size<=a):H a=none:=by
 cases q:H a with
 | none=>rfl
 | some u=>exact absurd (Nat.lt_of_lt_of_le (x.lt q) e) (Nat.lt_irrefl _)
theorem HOk.kept (x:HOk P w H h) (k:∀ b u,h.get? b=some u->h'.get? b=some u):HOk P w H h':=fun a o e =>
 (x a o e).stay (fun b u _ q=>k b u q) (fun _ q=>q) fun _ _ q=>q
theorem HOk.laid (x:HOk P w H h) (k:∀ b u,h.get? b=some u->h'.get? b=some u) (hp:h.objs.size<=a) (new:ObjOk P w (upd H a o) h' a o):HOk P w (upd H a o) h':=fun b u e=>by
 have hn:=x.fresh hp;by_cases hb:b=a
 ·subst hb;rw [j0h] at e;cases e;exact new
 ·rw [j0g hb] at e;exact (x b u e).stay (fun c v _ q=>k c v q) (fun c q=>by rw [j0g (j0m q hn)];exact q) fun c xs q=>by rw [j0g (j0m q hn)];exact q
end
def Rd (H:Hp) (a:Addr) (u:HO):Prop:=H a=some u\/∃ o,H a=some (.frz o u)
theorem Rd.ok {P:Program} {w:World} {H:Hp} {h:Heap} {a:Addr} {u:HO} (r:Rd H a u) (x:HOk P w H h):ObjOk P w H h a u:=by
 rcases r with r | ⟨o,r⟩
 ·exact x a u r
 ·obtain ⟨_,q⟩:=x a _ r;exact q
def Mut:Option HO->Prop
 | some (.lst _)=>True
 | some (.dK _)=>True
 | some (.dT _)=>True
 | some (.set _ _)=>True
 | some (.ins _ _ _)=>True
 | some (.ext _)=>True
 | _=>False
section
variable {P:Program} {w:World} {H:Hp} {h h':Heap} {x e:Addr} {o':HO}
theorem HOk.write (ok:HOk P w H h) (mu:Mut (H x)) (he:e=x\/H e=some (.own x)) (k:∀ b u,b≠e->h.get? b=some u->h'.get? b=some u) (heo:∃ u,h'.get? e=some u)
  (new:ObjOk P w (upd H x o') h' x o'):HOk P w (upd H x o') h':=fun b u q=>by
 have nown:∀ c y,H c=some (.own y)->c≠x:=fun c y r z=>by subst z;rw [r] at mu;exact mu
 have ntup:∀ c xs,H c=some (.tup xs)->c≠x:=fun c xs r z=>by subst z;rw [r] at mu;exact mu
 by_cases hb:b=x
 ·subst hb;rw [j0h] at q;cases q;exact new
 ·rw [j0g hb] at q;by_cases hbe:b=e
  ·have q':H b=some (.own x):=by
    rcases he with z | z
    ·exact absurd (hbe.trans z) hb
    ·rw [hbe];exact z
   rw [q] at q';cases q';obtain ⟨v,hv⟩:=heo;exact ⟨v,by rw [hbe];exact hv⟩
  ·refine (ok b u q).stay (fun c v hc r=>k c v ?_ r) (fun c r=>by rw [j0g (nown c b r)];exact r) fun c xs r=>by rw [j0g (ntup c xs r)];exact r
   rcases hc with rfl | hc
   ·exact hbe
   ·rintro rfl;rcases he with z | z
    ·exact nown c b hc z
    ·rw [hc] at z;cases z;exact hb rfl
end
structure Un (fs ex:List Addr) (H H':Hp) (h h':Heap):Prop where
 keep:∀ b o,h.get? b=some o->H b=none->b∉fs->b∉ex->h'.get? b=some o
 slot:∀ b o,h.get? b=some o->H b=none->b∈fs->b∉ex->∃ sl,h'.get? b=some { o with slots:=sl}
 free:∀ b o,h.get? b=some o->H b=none->b∉ex->H' b=none
 there:∀ b o,h.get? b=some o->b∉ex->∃ o',h'.get? b=some o'
 tups:∀ b xs,H b=some (.tup xs)->H' b=some (.tup xs)
 frzs:∀ b o u,H b=some (.frz o u)->H' b=some (.frz o u)
 tbls:∀ b ps,H b=some (.tbl ps)->∃ more,H' b=some (.tbl (ps++more))
section
variable {fs fs' ex ex':List Addr} {H H1 H2:Hp} {h h1 h2 h':Heap} {a x e:Addr} {o:HO}
theorem Un.any (u:Un fs ex H H1 h h1) {b:Addr} {ob:Obj} (q:h.get? b=some ob) (n:H b=none) (hx:b∉ex):∃ sl,h1.get? b=some { ob with slots:=sl}:=by
 by_cases hb:b∈fs
 ·exact u.slot b ob q n hb hx
 ·exact ⟨ob.slots,u.keep b ob q n hb hx⟩
theorem Un.kept (k:∀ b u,h.get? b=some u->h'.get? b=some u):Un fs ex H H h h' :=
 ⟨fun b ob q _ _ _=>k b ob q,fun b ob q _ _ _=>⟨ob.slots,k b ob q⟩,fun _ _ _ n _=>n,fun b ob q _=>⟨ob,k b ob q⟩,fun _ _ q=>q,fun _ _ _ q=>q,fun _ ps q=>⟨#[],by rw [q];simp⟩⟩
theorem Un.refl:Un fs ex H H h h:=Un.kept fun _ _ q=>q
theorem Un.laid (k:∀ b u,h.get? b=some u->h'.get? b=some u) (hp:h.objs.size<=a) (hn:H a=none):Un fs ex H (upd H a o) h h' where
 keep:=fun b u q _ _ _=>k b u q
 slot:=fun b u q _ _ _=>⟨u.slots,k b u q⟩
 free:=fun b u q n _=>by rw [j0g (Nat.ne_of_lt (Nat.lt_of_lt_of_le (Heap.lt_size q) hp))];exact n
 there:=fun b u q _=>⟨u,k b u q⟩
 tups:=fun b xs q=>by rw [j0g (j0m q hn)];exact q
 frzs:=fun b u xs q=>by rw [j0g (j0m q hn)];exact q
 tbls:=fun b ps q=>⟨#[],by rw [j0g (j0m q hn),q];simp⟩
theorem Un.write (mu:Mut (H x)) (he:e=x\/H e=some (.own x)) (k:∀ b u,b≠e->h.get? b=some u->h'.get? b=some u) (heo:∃ u,h'.get? e=some u):Un fs ex H (upd H x o) h h':=by
 have hx:∀ b,H b=none->b≠x:=fun b n z=>by subst z;rw [n] at mu;exact mu
 have hb:∀ b,H b=none->b≠e:=fun b n z=>by
  subst z;rcases he with r | r
  ·exact hx b n r
  ·rw [n] at r;cases r
 have hm:∀ b u,H b=some u->¬ Mut (some u)->b≠x:=fun b u q nm z=>by subst z;rw [q] at mu;exact nm mu
 refine ⟨fun b u q n _ _=>k b u (hb b n) q,fun b u q n _ _=>⟨u.slots,k b u (hb b n) q⟩,fun b u q n _=>by rw [j0g (hx b n)];exact n,fun b u q _=>?_,
  fun b xs q=>by rw [j0g (hm b _ q fun z=>z)];exact q,fun b u xs q=>by rw [j0g (hm b _ q fun z=>z)];exact q,fun b ps q=>⟨#[],by rw [j0g (hm b _ q fun z=>z),q];simp⟩⟩
 by_cases hbe:b=e
 ·subst hbe;exact heo
 ·exact ⟨u,k b u hbe q⟩
end
def trk (h:Heap) (H:Hp):List Addr:=(List.range h.objs.size).filter fun a=>(H a).isSome
def hidT (h:Heap) (H:Hp):Heap:=PySem.W.hideAll h (trk h H)
theorem k8i (h:Heap) (H:Hp):(hidT h H).objs.size=h.objs.size:=PySem.W.hideAll_size _ _
theorem j9n {h:Heap} {H:Hp} {b:Addr} {o:Obj} (e:h.get? b=some o) (n:H b=none):(hidT h H).get? b=some o :=
 PySem.W.hideAll_get _ e fun hm=>by have q:(H b).isSome=true:=(List.mem_filter.mp hm).2;rw [n] at q;simp at q
theorem w5k {h:Heap} {H:Hp} {b:Addr} {o:Obj} (e:(hidT h H).get? b=some o):h.get? b=some o/\H b=none:=by
 have e':h.get? b=some o:=PySem.W.of_hideAll (trk h H) e;refine ⟨e',?_⟩
 cases q:H b with
 | none=>rfl
 | some x =>
  have hm:b∈trk h H:=List.mem_filter.mpr ⟨List.mem_range.mpr (Heap.lt_size e'),by simp [q]⟩;have z:(hidT h H).get? b=none:=PySem.W.hideAll_none (trk h H) hm;rw [z] at e;cases e
def w6m (g h:Heap) (L:Addr):List (Addr×Obj):=(List.range h.objs.size).filterMap fun a=>if a=L\/(g.get? a).isSome=true then none else (h.get? a).map fun o=>(a,o)
def rest (g h:Heap) (L d:Addr):List (Addr×Obj):=(w6m g h L).filter fun p=>decide (p.1≠d)
end L2
namespace L2
open PySem PySem.Spec PyProof.Rows
structure Mod (K:PySem.W.Frag) (mg:Str->Option Value) (base:Heap):Prop where
 kin:K.In base
 glob:base.Ns mainGlobals mg
 blt:∃ mb,base.Ns builtinsNs mb/\∀ x:Str,x≠"__name__"->mb x=bootBuiltins x
 nolimit:base.NoLimit
structure Cx where
 prog:Program
 w:World
 K:PySem.W.Frag
 mg:Str->Option Value
 base:Heap
 A:Around
 N:List Str
 s₀:Shared
 H₀:Hp
 env:Env
 outer:List Env
 stack:List Env
 ex:List Addr
 fn:Str->Bool
 calm:Bool
 pn:List (Addr×Obj)
 xe:Value->Shared->Prop
def frs (l:List Env):List Addr:=l.filterMap (·.frame)
abbrev Cx.fs (X:Cx):List Addr:=frs X.outer
def Vis (sc:Scope) (x:Str):Prop:=sc.names.lookup x=some .local\/sc.names.lookup x=some .cell\/sc.names.lookup x=some .free
def Loc (sc:Scope) (x:Str):Prop:=sc.names.lookup x=some .local\/sc.names.lookup x=some .cell
def Look (env:Env) (h:Heap) (m:Str->Option Value) (x:Str) (u:Value):Prop :=
 (env.kindOf x=some .local/\m x=some u)\/((env.kindOf x=some .cell\/env.kindOf x=some .free)/\∃ c,env.cells.lookup x=some c/\h.IsCell c (some u))
structure Cx.Ok (X:Cx):Prop where
 mod:Mod X.K X.mg X.base
 kind:X.env.scope.kind=.function
 glob:X.env.globals=mainGlobals
 blt:X.env.builtins=builtinsNs
 above:X.s₀.heap.objs.size<=X.env.locals
 inj:∀ x y c,X.env.cells.lookup x=some c->X.env.cells.lookup y=some c->x=y
 has:∀ x,(X.env.kindOf x=some .cell\/X.env.kindOf x=some .free)->∃ c,X.env.cells.lookup x=some c
 cab:∀ x c,X.fn x=true->X.env.cells.lookup x=some c->X.s₀.heap.objs.size<=c
 hd:X.calm=true->X.A.handled=none
 frames:X.A.frames=some X.stack
 stk:X.stack=X.outer\/(X.stack=X.env :: X.outer/\X.env.frame=some X.env.locals)
 exf:∀ b∈X.ex,b≠X.env.locals/\∀ x c,X.env.cells.lookup x=some c->c≠b
 bs:∀ b o,X.base.get? b=some o->X.s₀.heap.get? b=some o/\X.H₀ b=none
 bsz:X.base.objs.size<=X.s₀.heap.objs.size
 noex:∀ b o,X.base.get? b=some o->b∉X.ex
 exfs:∀ b∈X.ex,b∉X.fs
 funs:X.s₀.heap.FunFrames X.base X.outer
 frf:∀ b∈X.fs,X.H₀ b=none
structure Inv (X:Cx) (pins:List (Addr×Obj)) (Z:List (Option V)) (H:Hp) (s:Shared):Prop where
 ok:X.Ok
 os:s.os=X.s₀.os
 bare:AllBare s.gens
 base:Un X.fs X.ex X.H₀ H X.s₀.heap s.heap
 loc:∃ m,s.heap.Ns X.env.locals m/\∀ (i:Nat) (x:Str) (v:V),X.N[i]?=some x->Z[i]?=some (some v)->Vis X.env.scope x->∃ u,RelV v u/\Look X.env s.heap m x u
 cell:∀ x c,X.env.cells.lookup x=some c->∃ v,s.heap.IsCell c v
 free:H X.env.locals=none
 freeC:∀ x c,X.env.cells.lookup x=some c->H c=none
 pin:∀ p∈X.pn++pins,s.heap.get? p.1=some p.2/\H p.1=none/\p.1≠X.env.locals/\p.1∉X.fs/\∀ v,p.2.data≠.cell v
 hok:HOk X.prog X.w H s.heap
 len:Z.length=X.N.length
section
variable {X:Cx} {pins:List (Addr×Obj)} {Z:List (Option V)} {H H':Hp} {s:Shared} {h':Heap}
theorem Cx.Ok.nofr (ok:X.Ok) {b:Addr} {o:Obj} (e:X.base.get? b=some o):b∉X.fs:=fun hb=>by have:=(ok.funs.mem hb).1;rw [e] at this;cases this
theorem Inv.bs (I:Inv X pins Z H s):∀ b o,X.base.get? b=some o->s.heap.get? b=some o/\H b=none:=fun b o e =>
 ⟨I.base.keep b o (I.ok.bs b o e).1 (I.ok.bs b o e).2 (I.ok.nofr e) (I.ok.noex b o e),I.base.free b o (I.ok.bs b o e).1 (I.ok.bs b o e).2 (I.ok.noex b o e)⟩
theorem Inv.bk (I:Inv X pins Z H s):∀ b o,X.base.get? b=some o->s.heap.get? b=some o:=fun b o e=>(I.bs b o e).1
theorem Inv.mod (I:Inv X pins Z H s):Mod X.K X.mg X.base:=I.ok.mod
theorem Inv.kIn (I:Inv X pins Z H s):X.K.In s.heap:=I.ok.mod.kin.keeps I.bk
theorem Inv.nolimit (I:Inv X pins Z H s):s.heap.NoLimit:=I.ok.mod.nolimit.keeps I.bk
theorem Inv.lt (I:Inv X pins Z H s):X.env.locals < s.heap.objs.size:=let ⟨_,hn,_⟩:=I.loc;hn.lt
theorem Inv.sz (I:Inv X pins Z H s):X.s₀.heap.objs.size<=s.heap.objs.size:=Nat.le_trans I.ok.above (Nat.le_of_lt I.lt)
theorem Inv.nofs (I:Inv X pins Z H s) {a:Addr} (h:s.heap.objs.size<=a):a∉X.fs:=fun hb=>by obtain ⟨_,o,ho,_⟩:=I.ok.funs.mem hb;exact absurd (Nat.lt_of_lt_of_le (Heap.lt_size ho) (Nat.le_trans I.sz h)) (Nat.lt_irrefl _)
theorem Inv.cne (I:Inv X pins Z H s):∀ x c,X.env.cells.lookup x=some c->c≠X.env.locals:=fun x c e z=>by obtain ⟨v,o,ho,hd⟩:=I.cell x c e;obtain ⟨m,⟨o',es,ep,ho',hd',_⟩,_⟩:=I.loc;rw [z,ho'] at ho;cases ho;rw [hd'] at hd;cases hd
theorem Inv.funs (I:Inv X pins Z H s):s.heap.FunFrames X.base X.outer:=by
 have all:∀ (l:List Env),(∀ b∈frs l,b∈X.fs)->X.s₀.heap.FunFrames X.base l->s.heap.FunFrames X.base l:=by
  intro l
  induction l with
  | nil=>intro _ _;trivial
  | cons env r ih =>
   intro hs hl;obtain ⟨hk,⟨L,o,hf,hn,ho,hd⟩,hr⟩:=hl;have hL:L∈X.fs:=hs L (by unfold frs;rw [List.filterMap_cons,hf];exact List.mem_cons_self);obtain ⟨sl,e⟩:=I.base.slot L o ho (I.ok.frf L hL) hL fun z=>I.ok.exfs L z hL;exact ⟨hk,⟨L,_,hf,hn,e,hd⟩,ih (fun b hb=>hs b (by unfold frs;rw [List.filterMap_cons,hf];exact List.mem_cons_of_mem _ hb)) hr⟩
 exact all X.outer (fun _ hb=>hb) I.ok.funs
theorem Inv.stack (I:Inv X pins Z H s):s.heap.FunFrames X.base X.stack:=by
 rcases I.ok.stk with e | ⟨e,hf⟩
 ·rw [e];exact I.funs
 ·rw [e];obtain ⟨m,hn,_⟩:=I.loc;refine .cons (by rw [I.ok.kind];decide) hf hn ?_ I.funs;exact Heap.get?_none_of_le (Nat.le_trans I.ok.bsz I.ok.above)
theorem Inv.stkSub (I:Inv X pins Z H s):∀ b∈frs X.stack,b∈X.env.locals :: X.fs:=fun b hb=>by
 rcases I.ok.stk with e | ⟨e,hf⟩
 ·rw [e] at hb;exact List.mem_cons_of_mem _ hb
 ·rw [e] at hb;unfold frs at hb;rw [List.filterMap_cons,hf] at hb;exact hb
theorem Inv.stkFree (I:Inv X pins Z H s):∀ b∈frs X.stack,H b=none:=fun b hb=>by
 rcases List.mem_cons.mp (I.stkSub b hb) with e | hb
 ·rw [e];exact I.free
 ·obtain ⟨_,o,ho,_⟩:=I.ok.funs.mem hb;exact I.base.free b o ho (I.ok.frf b hb) fun z=>I.ok.exfs b z hb
theorem Inv.step {g':Array GenState} {t':Nat} {d':Drawn} {ch:List Addr} (I:Inv X pins Z H s)
  (hch:∀ b∈ch,(b∈X.ex\/X.s₀.heap.objs.size<=b)/\b≠X.env.locals/\(∀ x c,X.env.cells.lookup x=some c->c≠b)/\∀ p∈X.pn++pins,p.1≠b)
  (keep:∀ b o,b≠X.env.locals->b∉X.fs->b∉ch->s.heap.get? b=some o->H b=none->h'.get? b=some o)
  (slot:∀ b o,b≠X.env.locals->b∈X.fs->b∉ch->s.heap.get? b=some o->H b=none->∃ sl,h'.get? b=some { o with slots:=sl}) (free:∀ b o,b∉ch->s.heap.get? b=some o->H b=none->H' b=none)
  (there:∀ b o,b∉ch->s.heap.get? b=some o->∃ o',h'.get? b=some o')
  (tups:∀ b xs,H b=some (.tup xs)->H' b=some (.tup xs)) (frzs:∀ b o u,H b=some (.frz o u)->H' b=some (.frz o u)) (tbls:∀ b ps,H b=some (.tbl ps)->∃ more,H' b=some (.tbl (ps++more)))
  (ns:∀ m,s.heap.Ns X.env.locals m->h'.Ns X.env.locals m) (hok:HOk X.prog X.w H' h') (hg:AllBare g') :
  Inv X pins Z H' { s with heap:=h',gens:=g',drawn:=d',toks:=t'}:=by
 have neL:∀ b o,X.s₀.heap.get? b=some o->b≠X.env.locals:=fun b o e=>Nat.ne_of_lt (Nat.lt_of_lt_of_le (Heap.lt_size e) I.ok.above)
 have neC:∀ b o,X.s₀.heap.get? b=some o->b∉X.ex->b∉ch:=fun b o e hx hb=>by
  rcases (hch b hb).1 with z | z
  ·exact hx z
  ·exact absurd (Nat.lt_of_lt_of_le (Heap.lt_size e) z) (Nat.lt_irrefl _)
 have cellK:∀ x c,X.env.cells.lookup x=some c->∀ v,s.heap.IsCell c v->h'.IsCell c v:=fun x c e v ⟨o,ho,hd⟩=>by
  have nch:c∉ch:=fun z=>(hch c z).2.2.1 x c e rfl;by_cases hc:c∈X.fs
  ·obtain ⟨sl,q⟩:=slot c o (I.cne x c e) hc nch ho (I.freeC x c e);exact ⟨_,q,hd⟩
  ·exact ⟨o,keep c o (I.cne x c e) hc nch ho (I.freeC x c e),hd⟩
 refine ⟨I.ok,I.os,hg,⟨fun b o e n hb hx=>?_,fun b o e n hb hx=>?_,fun b o e n hx=>?_,fun b o e hx=>?_,fun b xs e=>tups b xs (I.base.tups b xs e),fun b o xs e=>frzs b o xs (I.base.frzs b o xs e),fun b ps e=>?_⟩,?_,fun x c e=>?_,?_,fun x c e=>?_,fun p hp=>?_,hok,I.len⟩
 ·exact keep b o (neL b o e) hb (neC b o e hx) (I.base.keep b o e n hb hx) (I.base.free b o e n hx)
 ·obtain ⟨sl,e1⟩:=I.base.slot b o e n hb hx;obtain ⟨sl',e2⟩:=slot b _ (neL b o e) hb (neC b o e hx) e1 (I.base.free b o e n hx);exact ⟨sl',e2⟩
 ·obtain ⟨o',e1⟩:=I.base.there b o e hx;exact free b o' (neC b o e hx) e1 (I.base.free b o e n hx)
 ·obtain ⟨o',e1⟩:=I.base.there b o e hx;exact there b o' (neC b o e hx) e1
 ·obtain ⟨m1,e1⟩:=I.base.tbls b ps e;obtain ⟨m2,e2⟩:=tbls b _ e1;exact ⟨m1++m2,by rw [e2,Array.append_assoc]⟩
 ·obtain ⟨m,hn,hl⟩:=I.loc;refine ⟨m,ns m hn,fun i x v e1 e2 e3=>?_⟩;obtain ⟨u,r,l⟩:=hl i x v e1 e2 e3;refine ⟨u,r,?_⟩;rcases l with l | ⟨k,c,e,z⟩
  ·exact .inl l
  ·exact .inr ⟨k,c,e,cellK x c e _ z⟩
 ·obtain ⟨v,z⟩:=I.cell x c e;exact ⟨v,cellK x c e v z⟩
 ·obtain ⟨m,⟨o,_,_,ho,_⟩,_⟩:=I.loc;exact free _ o (fun z=>(hch _ z).2.1 rfl) ho I.free
 ·obtain ⟨v,o,ho,hd⟩:=I.cell x c e;exact free c o (fun z=>(hch c z).2.2.1 x c e rfl) ho (I.freeC x c e)
 ·obtain ⟨e,n,ne,nf,d⟩:=I.pin p hp;have nch:p.1∉ch:=fun z=>(hch p.1 z).2.2.2 p hp rfl;exact ⟨keep p.1 p.2 ne nf nch e n,free p.1 p.2 nch e n,ne,nf,d⟩
theorem Inv.un {t':Nat} (I:Inv X pins Z H s) (u:Un X.fs [] H H' s.heap h') (hok:HOk X.prog X.w H' h'):Inv X pins Z H' { s with heap:=h',toks:=t'}:=by
 obtain ⟨m,⟨o,es,ep,ho,r⟩,_⟩:=id I.loc;obtain ⟨sl,hL⟩:=u.any ho I.free (by simp)
 exact I.step (g':=s.gens) (d':=s.drawn) (ch:=[]) (fun _ z=>nomatch z) (fun b o _ hb _ e n=>u.keep b o e n hb (by simp)) (fun b o _ hb _ e n=>u.slot b o e n hb (by simp)) (fun b o _ e n=>u.free b o e n (by simp)) (fun b o _ e=>u.there b o e (by simp)) u.tups u.frzs u.tbls (fun m' hm=>by
  obtain ⟨o',es',ep',ho',r'⟩:=hm;rw [ho] at ho';cases ho'
  exact ⟨_,es',ep',hL,r'⟩) hok I.bare
theorem Inv.call {g':Array GenState} {t':Nat} {d':Drawn} {ch:List Addr} (I:Inv X pins Z H s) (u:Un (frs X.stack) ch H H' s.heap h') (hok:HOk X.prog X.w H' h') (hg:AllBare g')
  (hch:∀ b∈ch,(b∈X.ex\/X.s₀.heap.objs.size<=b)/\b≠X.env.locals/\(∀ x c,X.env.cells.lookup x=some c->c≠b)/\∀ p∈X.pn++pins,p.1≠b) :
  Inv X pins Z H' { s with heap:=h',gens:=g',drawn:=d',toks:=t'}:=by
 obtain ⟨m,⟨o,es,ep,ho,r⟩,_⟩:=id I.loc;obtain ⟨sl,hL⟩:=u.any ho I.free fun z=>(hch _ z).2.1 rfl
 exact I.step (ch:=ch) hch (fun b o hL hb hc e n=>u.keep b o e n (fun z=>(List.mem_cons.mp (I.stkSub b z)).elim hL hb) hc) (fun b o _ _ hc e n=>u.any e n hc) (fun b o hc e n=>u.free b o e n hc) (fun b o hc e=>u.there b o e hc) u.tups u.frzs u.tbls (fun m' hm=>by
  obtain ⟨o',es',ep',ho',r'⟩:=hm;rw [ho] at ho';cases ho'
  exact ⟨_,es',ep',hL,r'⟩) hok hg
theorem Inv.turned {t':Nat} {it:Addr} (I:Inv X pins Z H s) (k:∀ b o,b≠it->s.heap.get? b=some o->h'.get? b=some o) (hn:H it=none) (hL:it≠X.env.locals)
  (h1:it∈X.ex\/X.s₀.heap.objs.size<=it) (h2:∀ x c,X.env.cells.lookup x=some c->c≠it) (h3:∀ p∈X.pn++pins,p.1≠it):Inv X pins Z H { s with heap:=h',toks:=t'}:=by
 have nit:∀ b u,H b=some u->b≠it:=fun b u e z=>by rw [z,hn] at e;cases e
 refine I.step (g':=s.gens) (d':=s.drawn) (ch:=[it]) (fun b hb=>?_) (fun b o _ _ hc e _=>k b o (fun z=>hc (by simp [z])) e) (fun b o _ _ hc e _=>⟨o.slots,k b o (fun z=>hc (by simp [z])) e⟩) (fun _ _ _ _ n=>n)
  (fun b o hc e=>⟨o,k b o (fun z=>hc (by simp [z])) e⟩) (fun _ _ e=>e) (fun _ _ _ e=>e) (fun b ps e=>⟨#[],by rw [e];simp⟩) (fun m hm=>?_) (fun b u e=>?_) I.bare
 ·have e:b=it:=by simpa using hb
  subst e;exact ⟨h1,hL,h2,h3⟩
 ·obtain ⟨o,es,ep,ho,r⟩:=hm;exact ⟨o,es,ep,k _ o (Ne.symm hL) ho,r⟩
 ·refine (I.hok b u e).stay (fun c v hc q=>k c v ?_ q) (fun _ q=>q) fun _ _ q=>q;rcases hc with z | z
  ·rw [z];exact nit b u e
  ·exact nit c _ z
theorem Inv.tok (I:Inv X pins Z H s) (t:Nat):Inv X pins Z H { s with toks:=t}:=I.un (h':=s.heap) (t':=t) Un.refl I.hok
theorem Inv.kept {t':Nat} (I:Inv X pins Z H s) (k:∀ b u,s.heap.get? b=some u->h'.get? b=some u):Inv X pins Z H { s with heap:=h',toks:=t'}:=I.un (Un.kept k) (I.hok.kept k)
theorem Inv.laid {a:Addr} {o:HO} {t':Nat} (I:Inv X pins Z H s) (k:∀ b u,s.heap.get? b=some u->h'.get? b=some u) (hp:s.heap.objs.size<=a) (new:ObjOk X.prog X.w (upd H a o) h' a o) :
  Inv X pins Z (upd H a o) { s with heap:=h',toks:=t'}:=I.un (Un.laid k hp (I.hok.fresh hp)) (I.hok.laid k hp new)
theorem Inv.write {x e:Addr} {o:HO} {t':Nat} (I:Inv X pins Z H s) (mu:Mut (H x)) (he:e=x\/H e=some (.own x)) (k:∀ b u,b≠e->s.heap.get? b=some u->h'.get? b=some u) (heo:∃ u,h'.get? e=some u)
  (new:ObjOk X.prog X.w (upd H x o) h' x o):Inv X pins Z (upd H x o) { s with heap:=h',toks:=t'}:=I.un (Un.write mu he k heo) (I.hok.write mu he k heo new)
theorem Inv.pins_of {pins':List (Addr×Obj)} (I:Inv X pins Z H s) (h:∀ p∈pins',s.heap.get? p.1=some p.2/\H p.1=none/\p.1≠X.env.locals/\p.1∉X.fs/\∀ v,p.2.data≠.cell v):Inv X pins' Z H s :=
 ⟨I.ok,I.os,I.bare,I.base,I.loc,I.cell,I.free,I.freeC,fun p hp=>(List.mem_append.mp hp).elim (fun z=>I.pin p (List.mem_append_left _ z)) (h p),I.hok,I.len⟩
theorem k3r {N:List Str} (hN:N.Nodup) {i j:Nat} {x:Str} (a:N[i]?=some x) (b:N[j]?=some x):i=j:=by obtain ⟨h1,e1⟩:=List.getElem?_eq_some_iff.mp a;obtain ⟨h2,e2⟩:=List.getElem?_eq_some_iff.mp b;exact (List.getElem_inj hN).mp (e1.trans e2.symm)
theorem j95 {M:Model} {A:Around} {E:Value->Shared->Prop} {i:Nat} {x:Str} {v:V} {u:Value} {Q:Unit->Shared->Prop} (I:Inv X pins Z H s) (hN:X.N.Nodup) (hi:X.N[i]?=some x) (hx:Loc X.env.scope x) (r:RelV v u)
  (h:∀ s',Inv X pins (Z.set i (some v)) H s'->(∃ a,Heap.SameBut a s.heap s'.heap/\(a=X.env.locals\/X.env.cells.lookup x=some a))->Q () s') (hf:X.fn x=true\/X.env.scope.names.lookup x=some .local:=by first | exact .inl rfl | exact .inr rfl | assumption):wpAny M A (storeName X.env x u) Q E s:=by
 obtain ⟨m,hn,hl⟩:=id I.loc;have hcls:(X.env.scope.kind == .class||(X.env.scope.kind == .module&&X.env.locals != X.env.globals))=false:=by rw [I.ok.kind];rfl
 have hiZ:i < Z.length:=by rw [I.len];exact (List.getElem?_eq_some_iff.mp hi).1
 have cne:=I.cne
 have tracked:∀ {a:Addr} {h':Heap},(∃ o,s.heap.get? a=some o/\H a=none)->Heap.SameBut a s.heap h'->HOk X.prog X.w H h':=fun {a h'} ha hs b ob e=>by
  obtain ⟨_,_,hfree⟩:=ha;refine (I.hok b ob e).stay (fun c w' hc q=>(hs.2 c ?_).trans q) (fun _ q=>q) fun _ _ q=>q;rintro rfl;rcases hc with rfl | hc
  ·rw [hfree] at e;cases e
  ·rw [hfree] at hc;cases hc
 rcases hx with hk | hk
 ·refine wpAny_storeName_local hk hn (fun h' hn' hs=>?_) hcls;obtain ⟨oL,_,_,hoL,_⟩:=id hn;refine h _ ⟨I.ok,I.os,I.bare,⟨fun b o e n hb hx=>?_,fun b o e n hb hx=>?_,I.base.free,fun b o e hx=>?_,I.base.tups,I.base.frzs,I.base.tbls⟩,⟨_,hn',fun j y v' e1 e2 e3=>?_⟩,fun y c e=>?_,I.free,I.freeC,fun p hp=>?_,tracked ⟨oL,hoL,I.free⟩ hs,by simpa using I.len⟩ ⟨_,hs,.inl rfl⟩
  ·exact (hs.2 b (Nat.ne_of_lt (Nat.lt_of_lt_of_le (Heap.lt_size e) I.ok.above))).trans (I.base.keep b o e n hb hx)
  ·obtain ⟨sl,e1⟩:=I.base.slot b o e n hb hx;exact ⟨sl,(hs.2 b (Nat.ne_of_lt (Nat.lt_of_lt_of_le (Heap.lt_size e) I.ok.above))).trans e1⟩
  ·obtain ⟨o',e1⟩:=I.base.there b o e hx;exact ⟨o',(hs.2 b (Nat.ne_of_lt (Nat.lt_of_lt_of_le (Heap.lt_size e) I.ok.above))).trans e1⟩
  ·by_cases hj:j=i
   ·subst hj;rw [hi] at e1;cases e1;rw [List.getElem?_set_self hiZ] at e2;cases e2;exact ⟨u,r,.inl ⟨hk,by simp⟩⟩
   ·rw [List.getElem?_set_ne (Ne.symm hj)] at e2;obtain ⟨u',r',q⟩:=hl j y v' e1 e2 e3;refine ⟨u',r',?_⟩;rcases q with ⟨k,e⟩ | ⟨k,c,e,z⟩
    ·refine .inl ⟨k,?_⟩;have:y≠x:=fun e=>hj (k3r hN e1 (e▸hi));simp [this,e]
    ·exact .inr ⟨k,c,e,z.sameBut hs (cne y c e)⟩
  ·obtain ⟨w',z⟩:=I.cell y c e;exact ⟨w',z.sameBut hs (cne y c e)⟩
  ·obtain ⟨e,n,ne,nf,d⟩:=I.pin p hp;exact ⟨(hs.2 p.1 ne).trans e,n,ne,nf,d⟩
 ·have hfn:X.fn x=true:=by
   rcases hf with z | z
   ·exact z
   ·rw [z] at hk;cases hk
  obtain ⟨c,hc⟩:=I.ok.has x (.inl hk);obtain ⟨w',z⟩:=I.cell x c hc;refine wpAny_storeName_cell I.ok.kind hk hc z (fun h' hc' hs=>?_);obtain ⟨oc,hoc,hocd⟩:=id z;refine h { s with heap:=h'} ⟨I.ok,I.os,I.bare,⟨fun b o e n hb hx=>?_,fun b o e n hb hx=>?_,I.base.free,fun b o e hx=>?_,I.base.tups,I.base.frzs,I.base.tbls⟩,⟨m,hn.sameBut hs (Ne.symm (cne x c hc)),fun j y v' e1 e2 e3=>?_⟩,fun y c' e=>?_,I.free,I.freeC,fun p hp=>?_,tracked ⟨oc,hoc,I.freeC x c hc⟩ hs,by simpa using I.len⟩ ⟨c,hs,.inr hc⟩
  ·exact (hs.2 b (Nat.ne_of_lt (Nat.lt_of_lt_of_le (Heap.lt_size e) (I.ok.cab x c hfn hc)))).trans (I.base.keep b o e n hb hx)
  ·obtain ⟨sl,e1⟩:=I.base.slot b o e n hb hx;exact ⟨sl,(hs.2 b (Nat.ne_of_lt (Nat.lt_of_lt_of_le (Heap.lt_size e) (I.ok.cab x c hfn hc)))).trans e1⟩
  ·obtain ⟨o',e1⟩:=I.base.there b o e hx;exact ⟨o',(hs.2 b (Nat.ne_of_lt (Nat.lt_of_lt_of_le (Heap.lt_size e) (I.ok.cab x c hfn hc)))).trans e1⟩
  ·by_cases hj:j=i
   ·subst hj;rw [hi] at e1;cases e1;rw [List.getElem?_set_self hiZ] at e2;cases e2;exact ⟨u,r,.inr ⟨.inl hk,c,hc,hc'⟩⟩
   ·rw [List.getElem?_set_ne (Ne.symm hj)] at e2;obtain ⟨u',r',q⟩:=hl j y v' e1 e2 e3;refine ⟨u',r',?_⟩;rcases q with q | ⟨k,c',e,z'⟩
    ·exact .inl q
    ·refine .inr ⟨k,c',e,z'.sameBut hs ?_⟩;rintro rfl;exact hj (k3r hN e1 (I.ok.inj _ _ _ e hc▸hi))
  ·by_cases hcc:c'=c
   ·subst hcc;exact ⟨_,hc'⟩
   ·obtain ⟨w2,z2⟩:=I.cell y c' e;exact ⟨w2,z2.sameBut hs hcc⟩
  ·obtain ⟨e,n,ne,nf,d⟩:=I.pin p hp;refine ⟨(hs.2 p.1 ?_).trans e,n,ne,nf,d⟩;intro q;rw [q,hoc] at e;have q':oc=p.2:=Option.some.inj e;exact d w' (by rw [<- q'];exact hocd)
theorem k3f {M:Model} {A:Around} {E:Value->Shared->Prop} {i:Nat} {x:Str} {v:V} {u:Value} {Q:Unit->Shared->Prop} (I:Inv X pins Z H s) (hN:X.N.Nodup) (hi:X.N[i]?=some x) (hx:Loc X.env.scope x) (r:RelV v u)
  (h:∀ s',Inv X pins (Z.set i (some v)) H s'->Q () s') (hf:X.fn x=true\/X.env.scope.names.lookup x=some .local:=by first | exact .inl rfl | exact .inr rfl | assumption):wpAny M A (storeName X.env x u) Q E s :=
 j95 I hN hi hx r (fun s' I' _=>h s' I') hf
theorem Inv.call' {s':Shared} {ch:List Addr} (I:Inv X pins Z H s) (ho:s'.os=s.os) (u:Un (frs X.stack) ch H H' s.heap s'.heap) (hok:HOk X.prog X.w H' s'.heap) (hg:AllBare s'.gens)
  (hch:∀ b∈ch,(b∈X.ex\/X.s₀.heap.objs.size<=b)/\b≠X.env.locals/\(∀ x c,X.env.cells.lookup x=some c->c≠b)/\∀ p∈X.pn++pins,p.1≠b):Inv X pins Z H' s':=by
 obtain ⟨h',g',d',t',o'⟩:=s';have e:o'=s.os:=ho;subst e;exact I.call (g':=g') (t':=t') (d':=d') u hok hg hch
end
abbrev XK:=Value->Option Addr->Hp->Prop
abbrev St:=List (Option V)
abbrev VK:=V->Hp->Prop
abbrev TE:=St->Hp->VK->Prop
abbrev TT:=St->Hp->(Bool->Hp->Prop)->Prop
abbrev TA:=St->Hp->(List V->Hp->Prop)->Prop
structure Ends where
 nx:St->Hp->Prop
 rt:VK
 bk:St->Hp->Prop:=fun _ _=>False
 ct:St->Hp->Prop:=fun _ _=>False
abbrev TS:=Ends->St->Hp->Prop
def EP (X:Cx) (pins:List (Addr×Obj)) (Z:St) (Q:VK) (u:Value) (s':Shared):Prop:=∃ v H',Inv X pins Z H' s'/\RelV v u/\Q v H'
def TP (X:Cx) (pins:List (Addr×Obj)) (Z:St) (Q:Bool->Hp->Prop) (b:Bool) (s':Shared):Prop:=∃ H',Inv X pins Z H' s'/\Q b H'
def AP (X:Cx) (pins:List (Addr×Obj)) (Z:St) (Q:List V->Hp->Prop) (us:List Value) (s':Shared):Prop:=∃ vs H',Inv X pins Z H' s'/\Vals vs us/\Q vs H'
def SP (X:Cx) (pins:List (Addr×Obj)) (D:Ends) (f:Flow) (s':Shared):Prop :=
 match f with
 | .next=>∃ Z' H',Inv X pins Z' H' s'/\D.nx Z' H'
 | .brk=>∃ Z' H',Inv X pins Z' H' s'/\D.bk Z' H'
 | .cont=>∃ Z' H',Inv X pins Z' H' s'/\D.ct Z' H'
 | .ret u=>∃ v Z' H',Inv X pins Z' H' s'/\RelV v u/\D.rt v H'
def PE (X:Cx) (e:Expr) (t:TE):Prop :=
 ∀ (pins:List (Addr×Obj)) (s:Shared) (Z:St) (H:Hp) (Q:VK),Inv X pins Z H s->t Z H Q->wpAny (model X.prog X.w) X.A (eval e X.env) (EP X pins Z Q) X.xe s
def PT (X:Cx) (e:Expr) (t:TT):Prop :=
 ∀ (pins:List (Addr×Obj)) (s:Shared) (Z:St) (H:Hp) (Q:Bool->Hp->Prop),Inv X pins Z H s->t Z H Q->wpAny (model X.prog X.w) X.A (isTrue e X.env (eval e X.env)) (TP X pins Z Q) X.xe s
def PW (X:Cx) (e:Expr) (t:TT):Prop :=
 ∀ (whole:Sem Value) (pins:List (Addr×Obj)) (s:Shared) (Z:St) (H:Hp) (Q:Bool->Hp->Prop),Inv X pins Z H s->t Z H Q->wpAny (model X.prog X.w) X.A (isTrue e X.env whole) (TP X pins Z Q) X.xe s
theorem PW.pt {X:Cx} {e:Expr} {t:TT} (h:PW X e t):PT X e t:=h _
def PA (X:Cx) (es:List Expr) (t:TA):Prop :=
 ∀ (pos:Pos) (pins:List (Addr×Obj)) (s:Shared) (Z:St) (H:Hp) (Q:List V->Hp->Prop),Inv X pins Z H s->t Z H Q->wpAny (model X.prog X.w) X.A (spliced (backTo pos (starEach es X.env))) (AP X pins Z Q) X.xe s
def PS (X:Cx) (st:Stmt) (t:TS):Prop :=
 ∀ (pins:List (Addr×Obj)) (s:Shared) (Z:St) (H:Hp) (D:Ends),Inv X pins Z H s->t D Z H->wpAny (model X.prog X.w) X.A (exec st X.env) (SP X pins D) X.xe s
def PSs (X:Cx) (st:List Stmt) (t:TS):Prop :=
 ∀ (pins:List (Addr×Obj)) (s:Shared) (Z:St) (H:Hp) (D:Ends),Inv X pins Z H s->t D Z H->wpAny (model X.prog X.w) X.A (execs st X.env) (SP X pins D) X.xe s
theorem thn {Y:Type} {t:Sem Y} {Q Q':Y->Shared->Prop} {M:Model} {A:Around} {E:Value->Shared->Prop} {s:Shared} (h:wpAny M A t Q E s) (hQ:∀ a s,Q a s->Q' a s):wpAny M A t Q' E s:=wpAny_mono h hQ fun _ _ x=>x
end L2
namespace L2
open PySem PySem.Spec PyProof.Rows
section
variable {X:Cx}
def tVar (i:Nat):TE:=fun Z H Q=>∃ v,Z[i]?=some (some v)/\Q v H
def tC (v:V):TE:=fun _ H Q=>Q v H
theorem w7t {i:Nat} {x:Str} {pos:Pos} (hN:X.N[i]?=some x) (hv:Vis X.env.scope x) (hd:(x == ("__debug__":Str))=false:=by decide) (hcd:(x == ("__classdict__":Str))=false:=by decide):PE X (.Name x pos) (tVar i):=by
 intro pins s Z H Q I h;obtain ⟨v,e,h⟩:=h;obtain ⟨m,hn,hl⟩:=I.loc;obtain ⟨u,r,l⟩:=hl i x v hN e hv;have fin:EP X pins Z Q u s:=⟨v,H,I,r,h⟩;rcases l with ⟨hk,hm⟩ | ⟨hk,c,hc,hcell⟩
 ·exact wpAny_Name (wpAny_loadName_local I.ok.kind hk hn hm fin) hd
 ·rcases hk with hk | hk
  ·exact wpAny_Name (wpAny_loadName_cell I.ok.kind hk hc hcell fin) hd
  ·exact wpAny_Name (wpAny_loadName_free I.ok.kind hk hc hcell fin hcd) hd
theorem j01 {i j pos}:PE X (.Constant (.int i) j pos) (tC (.int i)):=fun _ _ _ H _ I h=>wpAny_Constant_int ⟨.int i,H,I.tok _,⟨_,rfl⟩,h⟩
theorem pe_bl {b j pos}:PE X (.Constant (.bool b) j pos) (tC (.bl b)):=fun _ _ _ H _ I h=>Constant_bool ⟨.bl b,H,I,rfl,h⟩
theorem k3n {j pos}:PE X (.Constant .none j pos) (tC .non):=fun _ _ _ H _ I h=>Constant_none ⟨.non,H,I,rfl,h⟩
theorem k63 {x j pos}:PE X (.Constant (.str x) j pos) (tC (.str x)):=fun _ _ _ H _ I h=>Calls.Constant_str ⟨.str x,H,I.tok _,⟨_,rfl⟩,h⟩
def Gl (X:Cx) (x:Str):Prop:=X.env.kindOf x=some .globalImplicit
theorem j9k {E:Value->Shared->Prop} {pins:List (Addr×Obj)} {s:Shared} {Z:St} {H:Hp} {x:Str} {u:Value} {pos:Pos} {Q:Value->Shared->Prop} (I:Inv X pins Z H s) (hg:Gl X x) (hm:X.mg x=some u) (h:Q u s)
  (hd:(x == ("__debug__":Str))=false:=by decide):wpAny (model X.prog X.w) X.A (eval (.Name x pos) X.env) Q E s :=
 Calls.Name_function_global I.ok.kind hg (Calls.loadGlobal_global (by rw [I.ok.glob];exact I.mod.glob.keeps I.bk) hm h) hd
theorem j42 {E:Value->Shared->Prop} {pins:List (Addr×Obj)} {s:Shared} {Z:St} {H:Hp} {x:Str} {u:Value} {pos:Pos} {Q:Value->Shared->Prop} (I:Inv X pins Z H s) (hg:Gl X x) (hm:X.mg x=none) (hv:bootBuiltins x=some u) (h:Q u s)
  (hn:x≠"__name__":=by decide) (hd:(x == ("__debug__":Str))=false:=by decide):wpAny (model X.prog X.w) X.A (eval (.Name x pos) X.env) Q E s:=by
 obtain ⟨mb,h1,h2⟩:=I.mod.blt;exact Calls.Name_function_global I.ok.kind hg (Calls.loadGlobal_builtin (by rw [I.ok.glob];exact I.mod.glob.keeps I.bk) hm (by rw [I.ok.blt];exact h1.keeps I.bk) ((h2 x hn).trans hv) h) hd
theorem w4x {x:Str} {v:V} {u:Value} {pos:Pos} (hg:Gl X x) (hm:X.mg x=some u) (r:RelV v u) (hd:(x == ("__debug__":Str))=false:=by decide):PE X (.Name x pos) (tC v) :=
 fun _ _ _ H _ I h=>j9k I hg hm ⟨v,H,I,r,h⟩ hd
theorem j88 {x:Str} {v:V} {u:Value} {pos:Pos} (hg:Gl X x) (hm:X.mg x=none) (hv:bootBuiltins x=some u) (r:RelV v u) (hn:x≠"__name__":=by decide) (hd:(x == ("__debug__":Str))=false:=by decide):PE X (.Name x pos) (tC v) :=
 fun _ _ _ H _ I h=>j42 I hg hm hv ⟨v,H,I,r,h⟩ hn hd
variable {a b:Expr} {ta tb:TE} {pos:Pos}
def PC (X:Cx) (op:CmpOp) (a b:Expr) (t:TE):Prop :=
 ∀ (pins:List (Addr×Obj)) (s:Shared) (Z:St) (H:Hp) (Q:VK),Inv X pins Z H s->t Z H Q ->
  wpAny (model X.prog X.w) X.A (eval a X.env) (fun v s₁=>wpAny (model X.prog X.w) X.A (eval b X.env) (fun u s₂=>wpAny (model X.prog X.w) X.A (compareOp op v u) (EP X pins Z Q) X.xe s₂) X.xe s₁) X.xe s
theorem k3s (b:Expr) {op:CmpOp} (h:op≠.In) (h2:op≠.NotIn):behindInMarks op b=false:=by
 have e1:(op == CmpOp.In)=false:=by cases op<;>first | rfl | exact absurd rfl h
 have e2:(op == CmpOp.NotIn)=false:=by cases op<;>first | rfl | exact absurd rfl h2
 cases b<;>simp [behindInMarks,e1,e2]
def tB (t:TE):TT:=fun Z H Q=>t Z H fun x H1=>∃ c,x=.bl c/\Q c H1
theorem w2o {op:CmpOp} {t:TE} (h:PC X op a b t) (h1:behindInMarks op b=false:=by first | exact k3s _ (by decide) (by decide) | rfl):PE X (.Compare a [op] [b] pos) t:=fun pins s Z H Q I hw=>wpAny_Compare1 (h pins s Z H Q I hw) h1
theorem k6r {op:CmpOp} {t:TE} (h:PC X op a b t) (h1:behindInMarks op b=false:=by first | exact k3s _ (by decide) (by decide) | rfl):PT X (.Compare a [op] [b] pos) (tB t):=by intro pins s Z H Q I hw;refine wpAny_isTrue_Compare1 (thn (h pins s Z H _ I hw) fun v s1 h1=>thn h1 fun u s2 h2=>thn h2 fun c s3 ⟨x,H1,I1,r1,q1⟩=>?_) h1;obtain ⟨d,rfl,q⟩:=q1;cases r1;exact wpAny_truthy_bool ⟨H1,I1,q⟩
theorem w7q {e:Expr} {t:TE} (h:PE X e t) (he:∀ whole,isTrue e X.env whole=(do let v <- whole;standAt e.pos;holding [v] (truthy v)):=by intro _;rfl):PT X e (tB t):=by intro pins s Z H Q I hw;refine isTrue_plain (thn (h pins s Z H _ I hw) fun v s1 ⟨x,H1,I1,r1,q1⟩=>?_) (he _);obtain ⟨d,rfl,q⟩:=q1;cases r1;exact wpAny_truthy_bool ⟨H1,I1,q⟩
variable {tA tB':TT} {rest:List Expr}
def tAnd (t u:TT):TT:=fun Z H Q=>t Z H fun c H1=>if c=true then u Z H1 Q else Q false H1
def tOr (t u:TT):TT:=fun Z H Q=>t Z H fun c H1=>if c=true then Q true H1 else u Z H1 Q
def tNot (t:TT):TT:=fun Z H Q=>t Z H fun c H1=>Q (!c) H1
theorem w4j (ha:PT X a tA):PW X (.BoolOp .And [a] pos) tA:=by
 intro wh pins s Z H Q I h;refine isTrue_and (thn (ha pins s Z H Q I h) fun c s1 e=>?_)
 cases c with
 | true=>exact isTrue_and_nil e
 | false=>exact e
theorem w2h (ha:PT X a tA):PW X (.BoolOp .Or [a] pos) tA:=by
 intro wh pins s Z H Q I h;refine isTrue_or (thn (ha pins s Z H Q I h) fun c s1 e=>?_)
 cases c with
 | false=>exact isTrue_or_nil e
 | true=>exact e
theorem w7o (ha:PT X a tA) (hb:PW X (.BoolOp .And (b :: rest) pos) tB'):PW X (.BoolOp .And (a :: b :: rest) pos) (tAnd tA tB'):=by
 intro wh pins s Z H Q I h;refine isTrue_and (thn (ha pins s Z H _ I h) fun c s1 ⟨H1,I1,q1⟩=>?_)
 cases c with
 | true=>exact hb wh pins s1 Z H1 Q I1 q1
 | false=>exact ⟨H1,I1,q1⟩
theorem w7n (ha:PT X a tA) (hb:PW X (.BoolOp .Or (b :: rest) pos) tB'):PW X (.BoolOp .Or (a :: b :: rest) pos) (tOr tA tB'):=by
 intro wh pins s Z H Q I h;refine isTrue_or (thn (ha pins s Z H _ I h) fun c s1 ⟨H1,I1,q1⟩=>?_)
 cases c with
 | true=>exact ⟨H1,I1,q1⟩
 | false=>exact hb wh pins s1 Z H1 Q I1 q1
theorem w7r (ha:PT X a tA):PT X (.UnaryOp .Not a pos) (tNot tA):=by intro pins s Z H Q I h;exact isTrue_not (ha pins s Z H (fun c H1=>Q (!c) H1) I h)
def w91 (ta tb:TE):TE:=fun Z H Q=>ta Z H fun x H1=>∃ c,x=.bl c/\if c=true then tb Z H1 Q else Q (.bl false) H1
def w9u (ta:TE):TE:=fun Z H Q=>ta Z H fun x H1=>∃ c,x=.bl c/\Q (.bl (!c)) H1
theorem w7u {op} {t:TE} (h:PE X a t):PE X (.BoolOp op [a] pos) t:=fun pins s Z H Q I hw=>BoolOp_one (h pins s Z H Q I hw)
theorem w7w (ha:PE X a ta) (hb:PE X (.BoolOp .And (b :: rest) pos) tb):PE X (.BoolOp .And (a :: b :: rest) pos) (w91 ta tb):=by
 intro pins s Z H Q I h;refine BoolOp_and (thn (ha pins s Z H _ I h) fun v s1 ⟨x,H1,I1,r1,q1⟩=>?_);obtain ⟨c,rfl,q1⟩:=q1;cases r1;refine wpAny_truthy_bool ?_
 cases c with
 | true=>exact hb pins s1 Z H1 Q I1 q1
 | false=>exact ⟨.bl false,H1,I1,rfl,q1⟩
theorem w7v (ha:PE X a ta):PE X (.UnaryOp .Not a pos) (w9u ta):=by intro pins s Z H Q I h;refine UnaryOp_ (thn (ha pins s Z H _ I h) fun v s1 ⟨x,H1,I1,r1,q1⟩=>?_);obtain ⟨c,rfl,q1⟩:=q1;cases r1;exact not_of (wpAny_truthy_bool ⟨.bl (!c),H1,I1,rfl,q1⟩)
end
end L2
namespace L2
open PySem PySem.Spec PyProof.Rows
def SqL (K:PySem.W.Frag) (H:Hp) (a:Addr) (xs:List V):Prop :=
 Rd H a (.lst xs) \/
  ∃ (o:Obj) (its:Array Value) (n:Nat),K.lookup a=some o/\o.cls=.type "list"/\o.dict=none/\o.data=.seq its n/\its.size<=sizeLine/\Vals xs its.toList
def SqT (K:PySem.W.Frag) (H:Hp) (a:Addr) (xs:List V):Prop :=
 Rd H a (.tup xs) \/
  ∃ (o:Obj) (its:Array Value) (n:Nat),K.lookup a=some o/\o.cls=.type "tuple"/\o.data=.seq its n/\its.size<=sizeLine/\Vals xs its.toList
def absV:Value->Option V
 | .none=>some .non
 | .bool b=>some (.bl b)
 | .int i _=>some (.int i)
 | .str x _=>some (.str x)
 | .bytes b _=>some (.byt b)
 | .float b _=>some (.flt b)
 | .ref a=>some (.ref a)
 | .type n=>some (.ty n)
 | _=>none
theorem RelV.abs {x:V} {u:Value} (r:RelV x u):absV u=some x:=by
 cases x with
 | non=>cases r;rfl
 | bl _=>cases r;rfl
 | int _=>obtain ⟨t,rfl⟩:=r;rfl
 | str _=>obtain ⟨t,rfl⟩:=r;rfl
 | byt _=>obtain ⟨t,rfl⟩:=r;rfl
 | flt _=>obtain ⟨t,rfl⟩:=r;rfl
 | ref _=>cases r;rfl
 | ty _=>cases r;rfl
theorem RelV.inj {x y:V} {u:Value} (r:RelV x u) (q:RelV y u):x=y:=Option.some.inj (r.abs.symm.trans q.abs)
theorem Vals.inj:∀ {xs ys:List V} {us:List Value},Vals xs us->Vals ys us->xs=ys
 | _,_,_,.nil,.nil=>rfl
 | _,_,_,.cons r t,.cons r' t'=>by rw [r.inj r',Vals.inj t t']
section
variable {X:Cx} {pins:List (Addr×Obj)} {Z:St} {H:Hp} {s:Shared} {a:Addr} {xs ys:List V}
theorem SqL.of {K:PySem.W.Frag} (h:H a=some (.lst xs)):SqL K H a xs:=.inl (.inl h)
theorem SqT.of {K:PySem.W.Frag} (h:H a=some (.tup xs)):SqT K H a xs:=.inl (.inl h)
theorem Inv.list (I:Inv X pins Z H s) (h:SqL X.K H a xs):∃ its:List Value,Vals xs its/\PlainL s.heap a its.toArray/\xs.length<=sizeLine:=by
 rcases h with h | ⟨o,its,n,hk,hc,hd,hs,hz,r⟩
 ·obtain ⟨z,its,n,r,e⟩:=h.ok I.hok;exact ⟨its,r,⟨_,n,e,rfl,rfl,rfl⟩,z⟩
 ·refine ⟨its.toList,r,⟨o,n,I.kIn a o hk,hc,hd,by simpa using hs⟩,?_⟩;have e:=r.length;simp only [Array.length_toList] at e;omega
theorem Inv.tuple (I:Inv X pins Z H s) (h:SqT X.K H a xs):∃ its:List Value,Vals xs its/\IsTup s.heap a its.toArray/\xs.length<=sizeLine:=by
 rcases h with h | ⟨o,its,n,hk,hc,hs,hz,r⟩
 ·obtain ⟨z,its,r,p⟩:=h.ok I.hok;exact ⟨its,r,p,z⟩
 ·refine ⟨its.toList,r,⟨o,I.kIn a o hk,hc,n,by simpa using hs⟩,?_⟩;have e:=r.length;simp only [Array.length_toList] at e;omega
theorem Inv.list_inj (I:Inv X pins Z H s) (h:SqL X.K H a xs) (h':SqL X.K H a ys):xs=ys:=by
 obtain ⟨its,r,⟨o,n,e,_,_,d⟩,_⟩:=I.list h;obtain ⟨its',r',⟨o',n',e',_,_,d'⟩,_⟩:=I.list h';rw [e] at e';cases e';rw [d] at d';injection d' with d1 _;have:its=its':=by simpa using congrArg Array.toList d1
 subst this;exact r.inj r'
theorem Inv.tuple_inj (I:Inv X pins Z H s) (h:SqT X.K H a xs) (h':SqT X.K H a ys):xs=ys:=by
 obtain ⟨its,r,⟨o,e,_,n,d⟩,_⟩:=I.tuple h;obtain ⟨its',r',⟨o',e',_,n',d'⟩,_⟩:=I.tuple h';rw [e] at e';cases e';rw [d] at d';injection d' with d1 _;have:its=its':=by simpa using congrArg Array.toList d1
 subst this;exact r.inj r'
end
abbrev Cx.wish (X:Cx) (E:Value->Shared->Prop):Cx:={ X with xe:=E}
abbrev Cx.nox (X:Cx):Cx:=X.wish fun _ _=>False
theorem Cx.Ok.wish {X:Cx} (ok:X.Ok) (E:Value->Shared->Prop):(X.wish E).Ok :=
 ⟨ok.mod,ok.kind,ok.glob,ok.blt,ok.above,ok.inj,ok.has,ok.cab,ok.hd,ok.frames,ok.stk,ok.exf,ok.bs,ok.bsz,ok.noex,ok.exfs,ok.funs,ok.frf⟩
theorem Cx.Ok.unwish {X:Cx} {E:Value->Shared->Prop} (ok:(X.wish E).Ok):X.Ok :=
 ⟨ok.mod,ok.kind,ok.glob,ok.blt,ok.above,ok.inj,ok.has,ok.cab,ok.hd,ok.frames,ok.stk,ok.exf,ok.bs,ok.bsz,ok.noex,ok.exfs,ok.funs,ok.frf⟩
section
variable {X:Cx} {pins:List (Addr×Obj)} {Z:St} {H:Hp} {s:Shared} {E:Value->Shared->Prop}
theorem Inv.wish (I:Inv X pins Z H s) (E:Value->Shared->Prop):Inv (X.wish E) pins Z H s:=⟨I.ok.wish E,I.os,I.bare,I.base,I.loc,I.cell,I.free,I.freeC,I.pin,I.hok,I.len⟩
theorem Inv.unwish (I:Inv (X.wish E) pins Z H s):Inv X pins Z H s:=⟨I.ok.unwish,I.os,I.bare,I.base,I.loc,I.cell,I.free,I.freeC,I.pin,I.hok,I.len⟩
theorem SP.unwish {D:Ends} {f:Flow} {s':Shared} (h:SP (X.wish E) pins D f s'):SP X pins D f s':=by
 cases f with
 | next=>obtain ⟨Z',H',I,q⟩:=h;exact ⟨Z',H',I.unwish,q⟩
 | brk=>obtain ⟨Z',H',I,q⟩:=h;exact ⟨Z',H',I.unwish,q⟩
 | cont=>obtain ⟨Z',H',I,q⟩:=h;exact ⟨Z',H',I.unwish,q⟩
 | ret u=>obtain ⟨v,Z',H',I,r,q⟩:=h;exact ⟨v,Z',H',I.unwish,r,q⟩
theorem PSs.nox {st:List Stmt} {t:TS} (h:PSs X.nox st t):PSs X st t:=fun pins s Z H D I hw =>
 wpAny_mono (h pins s Z H D (I.wish _) hw) (fun _ _ q=>q.unwish) fun _ _ z=>False.elim z
end
section
variable {X:Cx} {st:Stmt} {rest:List Stmt} {t u:TS} {e:Expr} {te:TE} {pos:Pos}
def w9v:TS:=fun D Z H=>D.nx Z H
def tSeq (t u:TS):TS:=fun D Z H=>t { D with nx:=u D} Z H
theorem j6v:PSs X [] w9v:=fun _ _ Z H _ I h=>wpAny_execs_nil ⟨Z,H,I,h⟩
theorem j1i (h1:PS X st t) (h2:PSs X rest u):PSs X (st :: rest) (tSeq t u):=by
 intro pins s Z H D I h;refine wpAny_execs_cons (thn (h1 pins s Z H { D with nx:=u D} I h) fun f s1 q=>?_)
 cases f with
 | next =>
  obtain ⟨Z',H',I',q⟩:=q;exact h2 pins s1 Z' H' D I' q
 | ret v=>exact q
 | brk=>exact q
 | cont=>exact q
theorem j24 (h1:PS X st t):PSs X [st] t:=by
 intro pins s Z H D I h;refine wpAny_execs_cons (thn (h1 pins s Z H D I h) fun f s1 q=>?_)
 cases f with
 | next=>exact wpAny_execs_nil q
 | ret v=>exact q
 | brk=>exact q
 | cont=>exact q
theorem Inv.quiet {pins:List (Addr×Obj)} {Z:St} {H:Hp} {s:Shared} (I:Inv X pins Z H s):interactive X.env=false:=by simp [interactive,I.ok.kind]
def k5u (te:TE):TS:=fun D Z H=>te Z H fun _ H1=>D.nx Z H1
theorem j2p (he:PE X e te) (hs:swapsWith e none pos.line X.env=pure false:=by rfl):PS X (.Expr e pos) (k5u te):=by intro pins s Z H D I h;exact wpAny_Expr_any (thn (he pins s Z H _ I h) fun v s1 ⟨x,H1,I1,r1,q1⟩=>⟨Z,H1,I1,q1⟩) I.quiet hs
def tRet (te:TE):TS:=fun D Z H=>te Z H D.rt
theorem j6w (he:PE X e te):PS X (.Return (some e) pos) (tRet te):=by intro pins s Z H D I h;exact wpAny_Return_some (thn (he pins s Z H _ I h) fun v s1 ⟨x,H1,I1,r1,q1⟩=>⟨x,Z,H1,I1,r1,q1⟩)
def tIfS (c:TT) (t u:TS):TS:=fun D Z H=>c Z H fun b H1=>if b=true then t D Z H1 else u D Z H1
theorem k6s {c:Expr} {a b:List Stmt} {tc:TT} (hc:PT X c tc) (ha:PSs X a t) (hb:PSs X b u):PS X (.If c a b pos) (tIfS tc t u):=by
 intro pins s Z H D I h;refine wpAny_If (thn (hc pins s Z H _ I h) fun d s1 ⟨H1,I1,q1⟩=>?_)
 cases d with
 | true=>exact ha pins s1 Z H1 D I1 q1
 | false=>exact hb pins s1 Z H1 D I1 q1
end
abbrev TG:=V->St->Hp->(St->Hp->Prop)->Prop
abbrev TGs:=List V->St->Hp->(St->Hp->Prop)->Prop
def PG (X:Cx) (target:Expr) (t:TG):Prop :=
 ∀ (pins:List (Addr×Obj)) (s:Shared) (Z:St) (H:Hp) (v:V) (u:Value) (Q:St->Hp->Prop),Inv X pins Z H s->RelV v u->t v Z H Q ->
  wpAny (model X.prog X.w) X.A (assign target X.env u) (fun _ s'=>∃ Z' H',Inv X pins Z' H' s'/\Q Z' H') X.xe s
def PGs (X:Cx) (ts:List Expr) (t:TGs):Prop :=
 ∀ (pins:List (Addr×Obj)) (s:Shared) (Z:St) (H:Hp) (vs:List V) (us:List Value) (Q:St->Hp->Prop),Inv X pins Z H s->Vals vs us->t vs Z H Q ->
  wpAny (model X.prog X.w) X.A (assignInOrder ((assignEach ts X.env).map (·.2)) us) (fun _ s'=>∃ Z' H',Inv X pins Z' H' s'/\Q Z' H') X.xe s
abbrev TSet:=V->V->V->Hp->(Hp->Prop)->Prop
def PSet (X:Cx) (t:TSet):Prop :=
 ∀ (pins:List (Addr×Obj)) (s:Shared) (Z:St) (H:Hp) (o i v:V) (ov iv u:Value) (Q:Hp->Prop),Inv X pins Z H s->RelV o ov->RelV i iv->RelV v u->t o i v H Q ->
  wpAny (model X.prog X.w) X.A (setItem ov iv u) (fun _ s'=>∃ H',Inv X pins Z H' s'/\Q H') X.xe s
abbrev TIp:=V->V->Hp->VK->Prop
def PIp (X:Cx) (op:Operator) (t:TIp):Prop :=
 ∀ (pins:List (Addr×Obj)) (s:Shared) (Z:St) (H:Hp) (x y:V) (v u:Value) (Q:VK),Inv X pins Z H s->RelV x v->RelV y u->t x y H Q ->
  wpAny (model X.prog X.w) X.A (inplaceOp op v u) (EP X pins Z Q) X.xe s
section
variable {X:Cx} {pos:Pos}
def k0w (i:Nat):TG:=fun v Z H Q=>Q (Z.set i (some v)) H
theorem j0q {i:Nat} {x:Str} (hN:X.N.Nodup) (hi:X.N[i]?=some x) (hx:Loc X.env.scope x) (hf:X.fn x=true\/X.env.scope.names.lookup x=some .local:=by first | exact .inl rfl | exact .inr rfl | assumption):PG X (.Name x pos) (k0w i):=by intro pins s Z H v u Q I r h;exact wpAny_assign_Name (k3f I hN hi hx r (fun s' I'=>⟨_,H,I',h⟩) hf)
def gNil:TGs:=fun vs Z H Q=>vs=[]/\Q Z H
def k8k (t:TG) (u:TGs):TGs:=fun vs Z H Q=>∃ v r,vs=v :: r/\t v Z H fun Z' H'=>u r Z' H' Q
theorem j6y:PGs X [] gNil:=by intro pins s Z H vs us Q I r h;obtain ⟨e,h⟩:=h;subst e;cases r;exact assignInOrder_nil ⟨Z,H,I,h⟩
theorem j13 {e:Expr} {es:List Expr} {t:TG} {u:TGs} (h1:PG X e t) (h2:PGs X es u)
  (hs:(assignEach (e :: es) X.env).map (·.2)=assign e X.env :: (assignEach es X.env).map (·.2):=by rfl):PGs X (e :: es) (k8k t u):=by
 intro pins s Z H vs us Q I r h;obtain ⟨v,vr,e1,h⟩:=h;subst e1
 cases r with
 | cons r rr =>
  rw [hs];refine assignInOrder_cons (thn (h1 pins s Z H _ _ _ I r h) fun _ s1 ⟨Z1,H1,I1,q1⟩=>?_);exact h2 pins s1 Z1 H1 _ _ Q I1 rr q1
def gTup (K:PySem.W.Frag) (n:Nat) (t:TGs):TG:=fun v Z H Q=>∃ a xs,v=.ref a/\SqT K H a xs/\xs.length=n/\t xs Z H Q
theorem k0i {es:List Expr} {k:Nat} {t:TGs} {n:Nat} (hc:X.calm=true) (h:PGs X es t)
  (hn:(assignEach es X.env).length=n:=by rfl) (hst:(assignEach es X.env).findIdx? (·.1)=none:=by rfl):PG X (.Tuple es k pos) (gTup X.K n t):=by
 intro pins s Z H v u Q I r hw;obtain ⟨a,xs,e1,hq,hl,hw⟩:=hw;subst e1;cases r;obtain ⟨its,rv,ht,hz⟩:=I.tuple hq;refine assign_Tuple_tuple (I.ok.hd hc) ht (by simp [hn,<- hl,rv.length]) hst fun h' hx=>?_;have I1:Inv X pins Z H { s with heap:=h'}:=I.kept (t':=s.toks) fun b o e=>hx b o (Nat.ne_of_lt (Heap.lt_size e)) e;exact h pins _ Z H xs _ Q I1 (by simpa using rv) hw
def gSub (to ti:TE) (t:TSet):TG:=fun v Z H Q=>to Z H fun o H1=>ti Z H1 fun i H2=>t o i v H2 fun H3=>Q Z H3
theorem k61 {o i:Expr} {to ti:TE} {t:TSet} (ho:PE X o to) (hi:PE X i ti) (hs:PSet X t)
  (ha:∀ v,assign (.Subscript o i pos) X.env v=(do
   let ov <- holding [v] (eval o X.env)
   let iv <- holding [v,ov] (eval i X.env)
   standAt pos
   holding [v,ov,iv] (setItem ov iv v)
   release [v,ov,iv] []):=by intro _;rfl):PG X (.Subscript o i pos) (gSub to ti t):=by
 intro pins s Z H v u Q I r h;rw [ha];refine wB (wpAny_holding (thn (ho pins s Z H _ I h) fun ov s1 ⟨x,H1,I1,r1,q1⟩=>?_));refine wB (wpAny_holding (thn (hi pins s1 Z H1 _ I1 q1) fun iv s2 ⟨y,H2,I2,r2,q2⟩=>?_));refine wB (wpAny_standAt (wB (wpAny_holding (thn (hs pins s2 Z H2 x y v ov iv u _ I2 r1 r2 r q2) fun _ s3 ⟨H3,I3,q3⟩=>?_))));exact wpAny_release ⟨Z,H3,I3,q3⟩
def tAsg (te:TE) (g:TG):TS:=fun D Z H=>te Z H fun x H1=>g x Z H1 D.nx
theorem k0f {tg e:Expr} {te:TE} {g:TG} (he:PE X e te) (hg:PG X tg g) (hs:swapsWithSole [tg] e pos.line X.env=pure false:=by rfl) (hw:swappedStores [tg] e X.env=pure none:=by rfl)
  (h1:(assignEach [tg] X.env).map (·.2)=[assign tg X.env]:=by rfl):PS X (.Assign [tg] e pos) (tAsg te g):=by
 intro pins s Z H D I h;refine wpAny_Assign_stores (thn (he pins s Z H _ I h) fun v s1 ⟨x,H1,I1,r1,q1⟩=>?_) hs hw;rw [h1];exact thn (hg pins s1 Z H1 x v _ I1 r1 q1) fun _ s2 q=>q
theorem j50 {i:Nat} {x:Str} {e:Expr} {te:TE} {pos':Pos} (hN:X.N.Nodup) (hi:X.N[i]?=some x) (hx:Loc X.env.scope x) (he:PE X e te) (hs:swapsWith e (some (.Name x pos')) pos.line X.env=pure false:=by rfl) (hf:X.fn x=true\/X.env.scope.names.lookup x=some .local:=by first | exact .inl rfl | exact .inr rfl | assumption) :
  PS X (.Assign [.Name x pos'] e pos) (tAsg te (k0w i)):=by
 intro pins s Z H D I h;refine wpAny_Assign_Name (thn (he pins s Z H _ I h) fun v s1 ⟨y,H1,I1,r1,q1⟩=>?_) hs;exact k3f I1 hN hi hx r1 (fun s2 I2=>⟨_,H1,I2,q1⟩) hf
def w90 (to ti te:TE) (tget:V->V->Hp->VK->Prop) (tip:TIp) (tset:TSet):TS:=fun D Z H=>to Z H fun o H1=>ti Z H1 fun i H2=>tget o i H2 fun x H3=>te Z H3 fun y H4=>tip x y H4 fun z H5=>tset o i z H5 fun H6=>D.nx Z H6
def PGet (X:Cx) (t:V->V->Hp->VK->Prop):Prop :=
 ∀ (pins:List (Addr×Obj)) (s:Shared) (Z:St) (H:Hp) (o i:V) (ov iv:Value) (Q:VK),Inv X pins Z H s->RelV o ov->RelV i iv->t o i H Q ->
  wpAny (model X.prog X.w) X.A (getItem ov iv) (EP X pins Z Q) X.xe s
theorem w4o {o i e:Expr} {to ti te:TE} {tget:V->V->Hp->VK->Prop} {tip:TIp} {tset:TSet} {op:Operator} {tpos:Pos} (ho:PE X o to) (hi:PE X i ti) (hg:PGet X tget) (he:PE X e te) (hp:PIp X op tip) (hs:PSet X tset)
  (ha:∀ ov iv new,augStore i ov iv new=(do holding [new,ov,iv] (setItem ov iv new);release [new,ov,iv] [];pure .next):=by intros;rfl):PS X (.AugAssign (.Subscript o i tpos) op e pos) (w90 to ti te tget tip tset):=by
 intro pins s Z H D I h;refine wpAny_AugAssign_SubscriptAny (thn (ho pins s Z H _ I h) fun ov s1 ⟨x1,H1,I1,r1,q1⟩=>?_) ha;refine thn (hi pins s1 Z H1 _ I1 q1) fun iv s2 ⟨x2,H2,I2,r2,q2⟩=>?_;refine thn (hg pins s2 Z H2 x1 x2 ov iv _ I2 r1 r2 q2) fun old s3 ⟨x3,H3,I3,r3,q3⟩=>?_;refine thn (he pins s3 Z H3 _ I3 q3) fun v s4 ⟨x4,H4,I4,r4,q4⟩=>?_;refine thn (hp pins s4 Z H4 x3 x4 old v _ I4 r3 r4 q4) fun new s5 ⟨x5,H5,I5,r5,q5⟩=>?_;exact thn (hs pins s5 Z H5 x1 x2 x5 ov iv new _ I5 r1 r2 r5 q5) fun _ s6 ⟨H6,I6,q6⟩=>⟨Z,H6,I6,q6⟩
def ipI (f:Int->Int->Int):TIp:=fun x y H Q=>∃ i j,x=.int i/\y=.int j/\Q (.int (f i j)) H
theorem w8p:PIp X .Add (ipI fun i j=>i + j):=by intro pins s Z H x y v u Q I r1 r2 h;obtain ⟨i,j,e1,e2,q⟩:=h;subst e1;subst e2;obtain ⟨t,rfl⟩:=r1;obtain ⟨t',rfl⟩:=r2;exact iadd_int ⟨.int _,H,I.tok _,⟨_,rfl⟩,q⟩
end
section
variable {X:Cx} {pos:Pos}
def w69 (c:TT) (tb:TS):TS:=fun D Z H=>∃ W:Nat->St->Hp->Prop,(∃ m,W m Z H)/\∀ m Z H,W m Z H ->
 c Z H fun b H1=>if b=true then ∃ N:St->Hp->Prop,(∀ Z' H',N Z' H'->∃ m',m' < m/\W m' Z' H')/\tb { D with nx:=N,ct:=N,bk:=D.nx} Z H1 else D.nx Z H1
theorem w0k {c:Expr} {body:List Stmt} {tc:TT} {tb:TS} (hp:PassesOwn (model X.prog X.w) X.A X.env X.xe) (hc:PT X c tc) (hb:PSs X body tb):PS X (.While c body [] pos) (w69 tc tb):=by
 intro pins s Z H D I h;obtain ⟨W,⟨m0,w0⟩,turn⟩:=h;refine wpAny_While (codeAny_whileLoop (fun n s'=>∃ Z' H',Inv X pins Z' H' s'/\W n Z' H') ?_ m0 ⟨Z,H,I,w0⟩);rintro n s1 ⟨Z1,H1,I1,w1⟩;refine wpAny_passesOwn hp (thn (hc pins s1 Z1 H1 _ I1 (turn n Z1 H1 w1)) fun b s2 ⟨H2,I2,q2⟩=>?_)
 cases b with
 | true =>
  obtain ⟨N,hN,q2⟩:=q2;rw [if_pos rfl];refine wpAny_passesOwn hp (thn (hb pins s2 Z1 H2 _ I2 q2) fun f s3 q3=>?_)
  cases f with
  | next =>
   obtain ⟨Z3,H3,I3,n3⟩:=q3;obtain ⟨m',hm,w3⟩:=hN Z3 H3 n3;exact ⟨m',hm,Z3,H3,I3,w3⟩
  | cont =>
   obtain ⟨Z3,H3,I3,n3⟩:=q3;obtain ⟨m',hm,w3⟩:=hN Z3 H3 n3;exact ⟨m',hm,Z3,H3,I3,w3⟩
  | brk=>exact q3
  | ret v=>exact q3
 | false =>
  rw [if_neg Bool.false_ne_true];exact wpAny_execs_nil ⟨Z1,H2,I2,q2⟩
end
structure It where
 go:Nat->Hp->Prop
 yld:Nat->Hp->V->Hp->Prop
 stop:Nat->Hp->Prop
def FpOk (X:Cx) (pins:List (Addr×Obj)) (H:Hp) (b:Addr):Prop :=
 H b=none/\b≠X.env.locals/\b∉X.fs/\(b∈X.ex\/X.s₀.heap.objs.size<=b)/\(∀ x c,X.env.cells.lookup x=some c->c≠b)/\∀ p∈X.pn++pins,p.1≠b
theorem Inv.fpOk {X:Cx} {pins:List (Addr×Obj)} {Z:St} {H H':Hp} {s:Shared} {b:Addr} (I:Inv X pins Z H s) (hb:s.heap.objs.size<=b) (hn:H' b=none):FpOk X pins H' b:=by
 refine ⟨hn,Nat.ne_of_gt (Nat.lt_of_lt_of_le I.lt hb),I.nofs hb,.inr (Nat.le_trans I.sz hb),fun x c e z=>?_,fun p hp z=>?_⟩
 ·obtain ⟨v,q⟩:=I.cell x c e;exact absurd (Nat.lt_of_lt_of_le q.lt (by rw [z];exact hb)) (Nat.lt_irrefl _)
 ·exact absurd (Nat.lt_of_lt_of_le (Heap.lt_size (I.pin p hp).1) (by rw [z];exact hb)) (Nat.lt_irrefl _)
structure Turn (P:Program) (w:World) (K:PySem.W.Frag) (tg:Expr) (J:It) (fp:List Addr) (it:Addr) (tn:Nat->Heap->Prop):Prop where
 mem:it∈fp
 obj:∀ i h,tn i h->∀ b∈fp,∃ o,h.get? b=some o/\∀ v,o.data≠.cell v
 keep:∀ i h h',tn i h->(∀ b∈fp,∀ o,h.get? b=some o->h'.get? b=some o)->tn i h'
 item:∀ (X:Cx),X.prog=P->X.w=w->X.K=K->X.calm=true->∀ (i:Nat) (pins:List (Addr×Obj)) (s:Shared) (Z:St) (H:Hp) (E:Value->Shared->Prop),Inv X pins Z H s->(∀ b∈fp,FpOk X pins H b)->tn i s.heap->J.go i H ->
  wpAny (model P w) X.A (pyNext (.ref it)) (fun r s1=>∃ u,r=some u /\
   wpAny (model P w) X.A (letOwnedTupleGo tg (.ref it) u) (fun _ s2=>∃ x H',Inv X pins Z H' s2/\RelV x u/\J.yld i H x H'/\tn (i + 1) s2.heap/\∀ b∈fp,H' b=none) E s1) E s
 done:∀ (X:Cx),X.prog=P->X.w=w->X.K=K->X.calm=true->∀ (i:Nat) (pins:List (Addr×Obj)) (s:Shared) (Z:St) (H:Hp) (E:Value->Shared->Prop),Inv X pins Z H s->(∀ b∈fp,FpOk X pins H b)->tn i s.heap->J.stop i H ->
  wpAny (model P w) X.A (pyNext (.ref it)) (fun r s1=>r=none/\Inv X pins Z H s1) E s
 self:∀ (A:Around) (i:Nat) (s:Shared) (Q:Value->Shared->Prop) (E:Value->Shared->Prop),tn i s.heap->Q (.ref it) s->wpAny (model P w) A (pyIter (.ref it)) Q E s
abbrev TI:=St->Hp->(It->Hp->Prop)->Prop
def PIE (X:Cx) (pins:List (Addr×Obj)) (Z:St) (tg:Expr) (R:It->Hp->Prop) (itv:Value) (s2:Shared):Prop :=
 ∃ (it:Addr) (fp:List Addr) (tn:Nat->Heap->Prop) (J:It) (H':Hp),itv=.ref it/\Inv X pins Z H' s2/\Turn X.prog X.w X.K tg J fp it tn/\tn 0 s2.heap/\(∀ b∈fp,FpOk X pins H' b)/\R J H'
def PI (X:Cx) (tg iter:Expr) (wi:TI):Prop :=
 ∀ (pins:List (Addr×Obj)) (s:Shared) (Z:St) (H:Hp) (R:It->Hp->Prop),Inv X pins Z H s->wi Z H R ->
  wpAny (model X.prog X.w) X.A (eval iter X.env) (fun v s1=>wpAny (model X.prog X.w) X.A (pyIter v) (PIE X pins Z tg R) X.xe s1) X.xe s
theorem w5y {M:Model} {A:Around} {E:Value->Shared->Prop} {s:Shared} {tg:Expr} {it:Addr} {u:Value} {o:Obj} {n:String} {vs:Array Value} {Q:Unit->Shared->Prop} (ho:s.heap.get? it=some o) (hc:o.cls=.type n) (hd:o.data=.fields vs)
    (hn:["enumerate","zip","dict_itemiterator","dict_reverseitemiterator","odict_iterator","itertools.zip_longest","itertools.pairwise"].contains n=false) (hQ:Q () s):wpAny M A (letOwnedTupleGo tg (.ref it) u) Q E s:=by
  unfold letOwnedTupleGo
  cases tg<;>first
    | exact wP hQ
    | (cases u<;>first
        | exact wP hQ
        | (refine wB (wpAny_load ho ?_)
           rw [hc,hd]
           show wpAny M A (if (["enumerate","zip","dict_itemiterator","dict_reverseitemiterator","odict_iterator","itertools.zip_longest","itertools.pairwise"].contains n&&vs[0]? == some (rawInt _))=true then _ else _) Q E s
           rw [if_neg (by intro h;rw [hn,Bool.false_and] at h;cases h)]
           exact wP hQ))
def Itl (K:PySem.W.Frag) (a:Addr):It :=
 ⟨fun i H=>∃ xs x,SqL K H a xs/\xs[i]?=some x,fun i H x H'=>H'=H/\∀ xs,SqL K H a xs->xs[i]?=some x,fun i H=>∃ xs,SqL K H a xs/\xs.length<=i⟩
def Itt (K:PySem.W.Frag) (a:Addr):It :=
 ⟨fun i H=>∃ xs x,SqT K H a xs/\xs[i]?=some x,fun i H x H'=>H'=H/\∀ xs,SqT K H a xs->xs[i]?=some x,fun i H=>∃ xs,SqT K H a xs/\xs.length<=i⟩
def Itr (lo:Int) (n:Nat):It:=⟨fun i _=>i < n,fun i H x H'=>H'=H/\x=.int (lo + i),fun i _=>n<=i⟩
theorem k5o {P:Program} {w:World} {K:PySem.W.Frag} {tg:Expr} (a it:Addr):Turn P w K tg (Itl K a) [it] it (fun i h=>h.IsListIter it a i) where
 mem:=by simp
 obj:=fun i h st b hb=>by
  have e:b=it:=by simpa using hb
  subst e;obtain ⟨o,e,c,d⟩:=st;exact ⟨o,e,fun v z=>by rw [d] at z;cases z⟩
 keep:=fun i h h' st k=>st.at fun o e=>k it (by simp) o e
 item:=by intro X hP hw hK hc i pins s Z H E I hf st hg;subst hP hw hK;obtain ⟨xs,x,hq,hx⟩:=hg;obtain ⟨its,rv,p,hz⟩:=I.list hq;obtain ⟨u,hu,ru⟩:=rv.get hx;obtain ⟨f0,f1,f2,f3,f4,f5⟩:=hf it (by simp);refine wpAny_pyNext_list_item st p.isList (x:=u) (by simpa using hu) fun h' st' sb=>?_;have I1:Inv X pins Z H { s with heap:=h'}:=I.turned (t':=s.toks) (fun b o hb e=>(sb.2 b hb).trans e) f0 f1 f3 f4 f5;obtain ⟨o,e,c,d⟩:=id st';exact ⟨u,rfl,w5y (s:={ s with heap:=h'}) e c d (by decide) ⟨x,H,I1,ru,⟨rfl,fun ys hy=>by rw [I.list_inj hy hq];exact hx⟩,st',fun b hb=>(hf b hb).1⟩⟩
 done:=by intro X hP hw hK hc i pins s Z H E I hf st hg;subst hP hw hK;obtain ⟨xs,hq,hx⟩:=hg;obtain ⟨its,rv,p,hz⟩:=I.list hq;obtain ⟨f0,f1,f2,f3,f4,f5⟩:=hf it (by simp);have hl:=rv.length;exact wpAny_pyNext_list_end (I.ok.hd hc) st p.isList (by simp;omega) fun h' eb=>⟨rfl,I.turned (t':=s.toks) (fun b o hb e=>eb b o hb e) f0 f1 f3 f4 f5⟩
 self:=fun _ _ _ _ _ st h=>wpAny_pyIter_listiter st h
theorem k4c {P:Program} {w:World} {K:PySem.W.Frag} {tg:Expr} (a it:Addr):Turn P w K tg (Itt K a) [it] it (fun i h=>h.IsTupleIter it a i) where
 mem:=by simp
 obj:=fun i h st b hb=>by
  have e:b=it:=by simpa using hb
  subst e;obtain ⟨o,e,c,d⟩:=st;exact ⟨o,e,fun v z=>by rw [d] at z;cases z⟩
 keep:=fun i h h' st k=>st.at fun o e=>k it (by simp) o e
 item:=by intro X hP hw hK hc i pins s Z H E I hf st hg;subst hP hw hK;obtain ⟨xs,x,hq,hx⟩:=hg;obtain ⟨its,rv,p,hz⟩:=I.tuple hq;obtain ⟨u,hu,ru⟩:=rv.get hx;obtain ⟨f0,f1,f2,f3,f4,f5⟩:=hf it (by simp);refine wpAny_pyNext_tuple_item st (show s.heap.IsTuple a its.toArray from p) (x:=u) (by simpa using hu) fun h' st' sb=>?_;have I1:Inv X pins Z H { s with heap:=h'}:=I.turned (t':=s.toks) (fun b o hb e=>(sb.2 b hb).trans e) f0 f1 f3 f4 f5;obtain ⟨o,e,c,d⟩:=id st';exact ⟨u,rfl,w5y (s:={ s with heap:=h'}) e c d (by decide) ⟨x,H,I1,ru,⟨rfl,fun ys hy=>by rw [I.tuple_inj hy hq];exact hx⟩,st',fun b hb=>(hf b hb).1⟩⟩
 done:=by intro X hP hw hK hc i pins s Z H E I hf st hg;subst hP hw hK;obtain ⟨xs,hq,hx⟩:=hg;obtain ⟨its,rv,p,hz⟩:=I.tuple hq;obtain ⟨f0,f1,f2,f3,f4,f5⟩:=hf it (by simp);have hl:=rv.length;exact wpAny_pyNext_tuple_end (I.ok.hd hc) st (show s.heap.IsTuple a its.toArray from p) (by simp;omega) fun h' eb=>⟨rfl,I.turned (t':=s.toks) (fun b o hb e=>eb b o hb e) f0 f1 f3 f4 f5⟩
 self:=fun _ _ _ _ _ st h=>wpAny_pyIter_tupleiter st h
theorem k4d {P:Program} {w:World} {K:PySem.W.Frag} {tg:Expr} (it:Addr) (lo:Int) (n:Nat):Turn P w K tg (Itr lo n) [it] it (fun i h=>IsRangeIter h it (lo + (i:Nat) * 1) ((n:Int) - (i:Nat)) 1) where
 mem:=by simp
 obj:=fun i h st b hb=>by
  have e:b=it:=by simpa using hb
  subst e
  exact ⟨_,st,fun v z=>by
   have z':Data.fields _=Data.cell v:=z
   cases z'⟩
 keep:=fun i h h' st k=>k it (by simp) _ st
 item:=by intro X hP hw hK hc i pins s Z H E I hf st hg;subst hP hw hK;obtain ⟨f0,f1,f2,f3,f4,f5⟩:=hf it (by simp);have W:=Walks.range (prog:=X.prog) (w:=X.w) (I.ok.hd hc) it lo 1 n;refine W.item i s _ _ hg st fun v h' tk hv st' kk=>?_;obtain ⟨t,rfl⟩:=hv;have I1:Inv X pins Z H { s with heap:=h',toks:=tk}:=I.turned (fun b o hb e=>kk b o (by simpa using hb) e) f0 f1 f3 f4 f5;refine ⟨_,rfl,w5y (s:={ s with heap:=h',toks:=tk}) (n:="range_iterator") st' rfl rfl (by decide) ⟨.int (lo + i),H,I1,⟨t,?_⟩,⟨rfl,rfl⟩,st',fun b hb=>(hf b hb).1⟩⟩;rw [Int.mul_one]
 done:=by intro X hP hw hK hc i pins s Z H E I hf st hg;subst hP hw hK;obtain ⟨f0,f1,f2,f3,f4,f5⟩:=hf it (by simp);exact wpAny_pyNext_range_end (I.ok.hd hc) st (by have:n<=i:=hg;omega) fun h' eb=>⟨rfl,I.turned (t':=s.toks) (fun b o hb e=>eb b o hb e) f0 f1 f3 f4 f5⟩
 self:=fun _ _ _ _ _ st h=>wpAny_pyIter_rangeiter st h
end L2
namespace L2
open PySem PySem.Spec PyProof.Rows
section
variable {X:Cx} {tg:Expr}
def iList (K:PySem.W.Frag) (tl:TE):TI:=fun Z H R=>tl Z H fun x H1=>∃ a,x=.ref a/\(∃ xs,SqL K H1 a xs)/\R (Itl K a) H1
def iTup (K:PySem.W.Frag) (tl:TE):TI:=fun Z H R=>tl Z H fun x H1=>∃ a,x=.ref a/\(∃ xs,SqT K H1 a xs)/\R (Itt K a) H1
theorem k10 {l:Expr} {tl:TE} (hl:PE X l tl):PI X tg l (iList X.K tl):=by
 intro pins s Z H R I h;refine thn (hl pins s Z H _ I h) fun v s1 ⟨x,H1,I1,r1,q1⟩=>?_;obtain ⟨a,e,⟨xs,hq⟩,q⟩:=q1;subst e;cases r1;obtain ⟨its,rv,p,hz⟩:=I1.list hq;refine wpAny_pyIter_list p.isList ?_;refine ⟨s1.heap.objs.size,[s1.heap.objs.size],_,_,H1,rfl,I1.kept (t':=s1.toks) fun b o e=>Heap.get?_push_of_some _ e,k5o a _,⟨_,Heap.get?_push_size _ rfl,rfl,rfl⟩,fun b hb=>?_,q⟩;have e:b=s1.heap.objs.size:=by simpa using hb
 subst e;exact I1.fpOk (Nat.le_refl _) (I1.hok.fresh (Nat.le_refl _))
theorem w2m {l:Expr} {tl:TE} (hl:PE X l tl):PI X tg l (iTup X.K tl):=by
 intro pins s Z H R I h;refine thn (hl pins s Z H _ I h) fun v s1 ⟨x,H1,I1,r1,q1⟩=>?_;obtain ⟨a,e,⟨xs,hq⟩,q⟩:=q1;subst e;cases r1;obtain ⟨its,rv,p,hz⟩:=I1.tuple hq;refine wpAny_pyIter_tuple (show s1.heap.IsTuple a its.toArray from p) ?_;refine ⟨s1.heap.objs.size,[s1.heap.objs.size],_,_,H1,rfl,I1.kept (t':=s1.toks) fun b o e=>Heap.get?_push_of_some _ e,k4c a _,⟨_,Heap.get?_push_size _ rfl,rfl,rfl⟩,fun b hb=>?_,q⟩;have e:b=s1.heap.objs.size:=by simpa using hb
 subst e;exact I1.fpOk (Nat.le_refl _) (I1.hok.fresh (Nat.le_refl _))
theorem k3i {pins:List (Addr×Obj)} {Z:St} {H:Hp} {s:Shared} {R:It->Hp->Prop} {E:Value->Shared->Prop} {lo hi:Int} {t u v:Tok} {tk:Nat} (I:Inv X pins Z H s) (h1:-(2 ^ 62)<=lo) (h2:lo < 2 ^ 62) (h3:-(2 ^ 62)<=hi) (h4:hi < 2 ^ 62)
  (q:R (Itr lo (hi - lo).toNat) H):wpAny (model X.prog X.w) X.A (pyIter (.ref s.heap.objs.size)) (PIE X pins Z tg R) E { s with heap:=s.heap.push { cls:=.type "range",data:=.fields #[.int lo t,.int hi u,.int 1 v]},toks:=tk}:=by
 refine wpAny_pyIter_range (IsRange.new ..) (small_one h1 h2 h3 h4) ?_;have I1:Inv X pins Z H { s with heap:=s.heap.push { cls:=.type "range",data:=.fields #[.int lo t,.int hi u,.int 1 v]},toks:=tk}:=I.kept fun b o e=>Heap.get?_push_of_some _ e
 refine ⟨(s.heap.push { cls:=.type "range",data:=.fields #[.int lo t,.int hi u,.int 1 v]}).objs.size,[(s.heap.push { cls:=.type "range",data:=.fields #[.int lo t,.int hi u,.int 1 v]}).objs.size],_,_,H,rfl,
  I1.kept (t':=tk) fun b o e=>Heap.get?_push_of_some _ e,k4d _ lo (hi - lo).toNat,?_,fun b hb=>?_,q⟩
 ·have e1:lo + ((0:Nat):Int) * 1=lo:=by simp
  have e2:(((hi - lo).toNat:Nat):Int) - ((0:Nat):Int)=Builtin.Range.rangeSize lo hi 1:=by rw [rangeSize_one];split<;>omega
  show IsRangeIter _ _ (lo + ((0:Nat):Int) * 1) ((((hi - lo).toNat:Nat):Int) - ((0:Nat):Int)) 1;rw [e1,e2];exact Heap.get?_push_size _ rfl
 ·have e:b=(s.heap.push { cls:=.type "range",data:=.fields #[.int lo t,.int hi u,.int 1 v]}).objs.size:=by simpa using hb
  subst e;exact I1.fpOk (Nat.le_refl _) (I1.hok.fresh (Nat.le_refl _))
def iRng1 (ta:TA):TI:=fun Z H R=>ta Z H fun vs H1=>∃ j:Int,vs=[.int j]/\-(2 ^ 62)<=j/\j < 2 ^ 62/\R (Itr 0 j.toNat) H1
def w8q (ta:TA):TI:=fun Z H R=>ta Z H fun vs H1=>∃ i j:Int,vs=[.int i,.int j]/\(-(2 ^ 62)<=i/\i < 2 ^ 62/\-(2 ^ 62)<=j/\j < 2 ^ 62)/\R (Itr i (j - i).toNat) H1
theorem k60 {a:Expr} {ta:TA} {p pos:Pos} (hg:Gl X "range") (hm:X.mg "range"=none) (ha:PA X [a] ta) (hs:starEach [a] X.env=[(false,eval a X.env)]:=by rfl):PI X tg (.Call (.Name "range" p) [a] [] pos) (iRng1 ta):=by
 intro pins s Z H R I h;refine Call_ (j42 I hg hm boot_range (PyProof.Rows.callWith_type1 (thn (ha pos pins s Z H _ I h) fun us s1 ⟨vs,H1,I1,r1,q1⟩=>?_) hs rfl));obtain ⟨j,e,q1,q2,q⟩:=q1;subst e
 cases r1 with
 | cons r rr =>
  cases rr;obtain ⟨t,rfl⟩:=r;exact call_range_1 (k3i I1 (by omega) (by omega) q1 q2 (by simpa using q))
theorem k0h {a b:Expr} {ta:TA} {p pos:Pos} (hg:Gl X "range") (hm:X.mg "range"=none) (ha:PA X [a,b] ta) (hs:starEach [a,b] X.env=[(false,eval a X.env),(false,eval b X.env)]:=by rfl) (hs2:starEach [b] X.env=[(false,eval b X.env)]:=by rfl) :
  PI X tg (.Call (.Name "range" p) [a,b] [] pos) (w8q ta):=by
 intro pins s Z H R I h;refine Call_ (j42 I hg hm boot_range (PyProof.Rows.callWith_type1 (thn (ha pos pins s Z H _ I h) fun us s1 ⟨vs,H1,I1,r1,q1⟩=>?_) (by rw [hs,hs2]) (by rw [hs2];rfl)));obtain ⟨i,j,e,⟨q1,q2,q3,q4⟩,q⟩:=q1;subst e
 cases r1 with
 | cons r rr =>
  cases rr with
  | cons r' rr =>
   cases rr;obtain ⟨t,rfl⟩:=r;obtain ⟨t',rfl⟩:=r';exact call_range_2 (k3i I1 q1 q2 q3 q4 q)
def tFor (wi:TI) (g:TG) (tb:TS):TS:=fun D Z H=>wi Z H fun J H1=>∃ W:Nat->Nat->St->Hp->Prop,(∃ m,W 0 m Z H1)/\∀ i m Z H,W i m Z H ->
 (J.stop i H/\D.nx Z H)\/(J.go i H/\∃ N:St->Hp->Prop,(∀ Z' H',N Z' H'->∃ m',m' < m/\W (i + 1) m' Z' H')/\∀ x H',J.yld i H x H'->g x Z H' fun Z2 H2=>tb { D with nx:=N,ct:=N,bk:=D.nx} Z2 H2)
def j7y (fp:List Addr) (h:Heap):List (Addr×Obj):=fp.filterMap fun b=>(h.get? b).map fun o=>(b,o)
theorem j36 {fp:List Addr} {h:Heap} {b:Addr} {o:Obj} (hb:b∈fp) (e:h.get? b=some o):(b,o)∈j7y fp h:=List.mem_filterMap.mpr ⟨b,hb,by rw [e];rfl⟩
theorem k0p {fp:List Addr} {h:Heap} {p:Addr×Obj} (hp:p∈j7y fp h):p.1∈fp/\h.get? p.1=some p.2:=by
 obtain ⟨b,hb,e⟩:=List.mem_filterMap.mp hp
 cases q:h.get? b with
 | none=>rw [q] at e;cases e
 | some o =>
  rw [q] at e;have e':(b,o)=p:=Option.some.inj e;subst e';exact ⟨hb,q⟩
theorem Inv.pinned {pins:List (Addr×Obj)} {Z:St} {H:Hp} {s:Shared} {fp:List Addr} (I:Inv X pins Z H s) (hf:∀ b∈fp,FpOk X pins H b) (ho:∀ b∈fp,∃ o,s.heap.get? b=some o/\∀ v,o.data≠.cell v):Inv X (pins++j7y fp s.heap) Z H s :=
 I.pins_of fun p hp=>(List.mem_append.mp hp).elim (fun z=>I.pin p (List.mem_append_right _ z)) fun z=>by obtain ⟨hb,e⟩:=k0p z;obtain ⟨f0,f1,f2,_⟩:=hf p.1 hb;obtain ⟨o,e',d⟩:=ho p.1 hb;rw [e] at e';cases e';exact ⟨e,f0,f1,f2,d⟩
theorem Inv.unpinned {pins pl:List (Addr×Obj)} {Z:St} {H:Hp} {s:Shared} (I:Inv X (pins++pl) Z H s):Inv X pins Z H s:=I.pins_of fun p hp=>I.pin p (List.mem_append_right _ (List.mem_append_left _ hp))
theorem k6t {iter:Expr} {body:List Stmt} {wi:TI} {g:TG} {tb:TS} {pos:Pos} (hp:PassesOwn (model X.prog X.w) X.A X.env X.xe) (hc:X.calm=true) (hi:PI X tg iter wi) (hg:PG X tg g) (hb:PSs X body tb)
  (hs:∀ x,foldedSetIterable iter X.env x=pure x:=by intro _;rfl):PS X (.For tg iter body [] pos) (tFor wi g tb):=by
 intro pins s Z H D I h;refine wpAny_For (thn (hi pins s Z H _ I h) fun v s1 h1=>thn h1 fun itv s2 h2=>?_) hs;obtain ⟨it,fp,tn,J,H2,e,I2,T,st2,f2,W,⟨m0,w0⟩,turn⟩:=h2;subst e
 -- what stays true of the iterator's objects through the loop
 have stat:∀ {H':Hp},(∀ b∈fp,H' b=none)->∀ b∈fp,FpOk X pins H' b:=fun hn b hb=>⟨hn b hb,(f2 b hb).2⟩;refine codeAny_forLoop_any (fun n s'=>∃ i Z' H',Inv X pins Z' H' s'/\tn i s'.heap/\(∀ b∈fp,H' b=none)/\W i n Z' H') ?_ m0 ⟨0,Z,H2,I2,st2,fun b hb=>(f2 b hb).1,w0⟩;rintro n s3 ⟨i,Z3,H3,I3,st3,fr3,w3⟩;rcases turn i n Z3 H3 w3 with ⟨stop,qn⟩ | ⟨go,N,hN,step⟩
 ·refine wpAny_passesOwn hp (thn (T.done X rfl rfl rfl hc i pins s3 Z3 H3 X.xe I3 (stat fr3) st3 stop) fun r s4 ⟨hr,I4⟩=>?_);subst hr;exact wpAny_execs_nil ⟨Z3,H3,I4,qn⟩
 ·refine wpAny_passesOwn hp (thn (T.item X rfl rfl rfl hc i pins s3 Z3 H3 X.xe I3 (stat fr3) st3 go) fun r s4 ⟨u,hr,h4⟩=>?_);subst hr;refine wpAny_passesOwn hp (thn h4 fun _ s5 ⟨x,H5,I5,r5,y5,st5,fr5⟩=>?_);have I5':=I5.pinned (stat fr5) (T.obj _ _ st5);refine wpAny_passesOwn hp (thn (hg _ s5 Z3 H5 x u _ I5' r5 (step x H5 y5)) fun _ s6 ⟨Z6,H6,I6,q6⟩=>?_);refine wpAny_passesOwn hp (thn (hb _ s6 Z6 H6 _ I6 q6) fun f s7 q7=>?_)
  have again:∀ {Z7:St} {H7:Hp},Inv X (pins++j7y fp s5.heap) Z7 H7 s7->N Z7 H7->∃ m,m < n/\∃ i Z' H',Inv X pins Z' H' s7/\tn i s7.heap/\(∀ b∈fp,H' b=none)/\W i m Z' H':=fun {Z7 H7} I7 n7=>by obtain ⟨m',hm,w7⟩:=hN Z7 H7 n7;refine ⟨m',hm,i + 1,Z7,H7,I7.unpinned,T.keep _ _ _ st5 fun b hb o e=>(I7.pin (b,o) (List.mem_append_right _ (List.mem_append_right _ (j36 hb e)))).1,fun b hb=>?_,w7⟩;obtain ⟨o,e,d⟩:=T.obj _ _ st5 b hb;exact (I7.pin (b,o) (List.mem_append_right _ (List.mem_append_right _ (j36 hb e)))).2.1
  cases f with
  | next=>obtain ⟨Z7,H7,I7,n7⟩:=q7;exact again I7 n7
  | cont=>obtain ⟨Z7,H7,I7,n7⟩:=q7;exact again I7 n7
  | brk=>obtain ⟨Z7,H7,I7,q7⟩:=q7;exact ⟨Z7,H7,I7.unpinned,q7⟩
  | ret v=>obtain ⟨x7,Z7,H7,I7,r7,q7⟩:=q7;exact ⟨x7,Z7,H7,I7.unpinned,r7,q7⟩
end
theorem w1m {K:PySem.W.Frag} {a:Addr} {xs:List V} {g:TG} {tb:TS} {D:Ends} {Z:St} {H:Hp} (Pv:Nat->St->Hp->Prop) (h0:Pv 0 Z H) (hl:∀ i Z H,i<=xs.length->Pv i Z H->SqL K H a xs)
  (hs:∀ i x Z H,xs[i]?=some x->Pv i Z H->g x Z H fun Z2 H2=>tb { D with nx:=Pv (i + 1),ct:=Pv (i + 1),bk:=D.nx} Z2 H2) (hd:∀ Z H,Pv xs.length Z H->D.nx Z H) :
  ∃ W:Nat->Nat->St->Hp->Prop,(∃ m,W 0 m Z H)/\∀ i m Z H,W i m Z H ->
   ((Itl K a).stop i H/\D.nx Z H)\/((Itl K a).go i H/\∃ N:St->Hp->Prop,(∀ Z' H',N Z' H'->∃ m',m' < m/\W (i + 1) m' Z' H')/\∀ x H',(Itl K a).yld i H x H'->g x Z H' fun Z2 H2=>tb { D with nx:=N,ct:=N,bk:=D.nx} Z2 H2):=by
 refine ⟨fun i m Z H=>m=xs.length - i/\i<=xs.length/\Pv i Z H,⟨xs.length,by simp,Nat.zero_le _,h0⟩,?_⟩;rintro i m Z H ⟨rfl,hi,p⟩;have q:=hl i Z H hi p;by_cases hlt:i < xs.length
 ·refine .inr ⟨⟨xs,xs[i],q,by simp [hlt]⟩,Pv (i + 1),fun Z' H' p'=>⟨xs.length - (i + 1),by omega,rfl,hlt,p'⟩,fun x H' y=>?_⟩;obtain ⟨e,y⟩:=y;subst e;exact hs i x Z _ (y xs q) p
 ·have e:i=xs.length:=by omega
  subst e;exact .inl ⟨⟨xs,q,Nat.le_refl _⟩,hd Z H p⟩
end L2
namespace L2
open PySem PySem.Spec PyProof.Rows
abbrev R2:=V->V->Hp->VK->Prop
def OpR (X:Cx) (f:Value->Value->Sem Value) (r:R2):Prop :=
 ∀ (pins:List (Addr×Obj)) (s:Shared) (Z:St) (H:Hp) (x y:V) (v u:Value) (Q:VK),Inv X pins Z H s->RelV x v->RelV y u->r x y H Q ->
  wpAny (model X.prog X.w) X.A (f v u) (EP X pins Z Q) X.xe s
def UnR (X:Cx) (f:Value->Sem Value) (r:V->Hp->VK->Prop):Prop :=
 ∀ (pins:List (Addr×Obj)) (s:Shared) (Z:St) (H:Hp) (x:V) (v:Value) (Q:VK),Inv X pins Z H s->RelV x v->r x H Q ->
  wpAny (model X.prog X.w) X.A (f v) (EP X pins Z Q) X.xe s
def j3l (X:Cx) (f:Value) (r:List V->Hp->VK->Prop):Prop :=
 ∀ (pins:List (Addr×Obj)) (s:Shared) (Z:St) (H:Hp) (xs:List V) (us:List Value) (Q:VK),Inv X pins Z H s->Vals xs us->r xs H Q ->
  wpAny (model X.prog X.w) X.A (call f us) (EP X pins Z Q) X.xe s
def TruR (X:Cx) (r:V->Hp->(Bool->Hp->Prop)->Prop):Prop :=
 ∀ (pins:List (Addr×Obj)) (s:Shared) (Z:St) (H:Hp) (x:V) (v:Value) (Q:Bool->Hp->Prop),Inv X pins Z H s->RelV x v->r x H Q ->
  wpAny (model X.prog X.w) X.A (truthy v) (TP X pins Z Q) X.xe s
def tOp (r:R2) (ta tb:TE):TE:=fun Z H Q=>ta Z H fun x H1=>tb Z H1 fun y H2=>r x y H2 Q
def tUn (r:V->Hp->VK->Prop) (ta:TE):TE:=fun Z H Q=>ta Z H fun x H1=>r x H1 Q
def rI (C:Int->Int->Prop) (g:Int->Int->V):R2:=fun x y H Q=>∃ i j,x=.int i/\y=.int j/\C i j/\Q (g i j) H
def rI0 (g:Int->Int->V):R2:=fun x y H Q=>∃ i j,x=.int i/\y=.int j/\Q (g i j) H
def rU (g:Int->V):V->Hp->VK->Prop:=fun x H Q=>∃ i,x=.int i/\Q (g i) H
section
variable {X:Cx} {a b c:Expr} {ta tb tc:TE} {pos:Pos}
theorem binT (ha:PE X a ta) (hb:PE X b tb) {pins:List (Addr×Obj)} {s:Shared} {Z:St} {H:Hp} {R:V->V->Hp->Prop} (I:Inv X pins Z H s)
  (h:ta Z H fun x H1=>tb Z H1 fun y H2=>R x y H2) {Q:Value->Shared->Prop} {f:Value->Value->Sem Value}
  (hf:∀ v u s2 x y H2,Inv X pins Z H2 s2->RelV x v->RelV y u->R x y H2->wpAny (model X.prog X.w) X.A (f v u) Q X.xe s2) :
  wpAny (model X.prog X.w) X.A (eval a X.env) (fun v s₁=>wpAny (model X.prog X.w) X.A (eval b X.env) (fun u s₂=>wpAny (model X.prog X.w) X.A (f v u) Q X.xe s₂) X.xe s₁) X.xe s:=by
 refine thn (ha pins s Z H _ I h) fun v s1 ⟨x,H1,I1,r1,q1⟩=>?_;refine thn (hb pins s1 Z H1 _ I1 q1) fun u s2 ⟨y,H2,I2,r2,q2⟩=>?_;exact hf v u s2 x y H2 I2 r1 r2 q2
theorem j2i {op:Operator} {r:R2} (ho:OpR X (binaryOp op) r) (ha:PE X a ta) (hb:PE X b tb):PE X (.BinOp a op b pos) (tOp r ta tb):=by intro pins s Z H Q I h;exact wpAny_BinOp (binT ha hb I h fun v u s2 x y H2 I2 rx ry q=>ho pins s2 Z H2 x y v u Q I2 rx ry q)
theorem pe_un {op:UnaryOp} {r:V->Hp->VK->Prop} (ho:UnR X (unaryOp op) r) (ha:PE X a ta):PE X (.UnaryOp op a pos) (tUn r ta):=by intro pins s Z H Q I h;exact UnaryOp_ (thn (ha pins s Z H _ I h) fun v s1 ⟨x,H1,I1,r1,q1⟩=>ho pins s1 Z H1 x v Q I1 r1 q1)
theorem opI {f:Value->Value->Sem Value} {C:Int->Int->Prop} {g:Int->Int->Int}
  (rule:∀ (i j:Int) (t u:Tok) (s:Shared) (Q:Value->Shared->Prop) (E:Value->Shared->Prop),C i j->Q (.int (g i j) s.toks) { s with toks:=s.toks + 1}->wpAny (model X.prog X.w) X.A (f (.int i t) (.int j u)) Q E s) :
  OpR X f (rI C fun i j=>.int (g i j)):=by
 intro pins s Z H x y v u Q I rx ry h;obtain ⟨i,j,rfl,rfl,hc,q⟩:=h;obtain ⟨t,rfl⟩:=rx;obtain ⟨t',rfl⟩:=ry;exact rule i j t t' s _ _ hc ⟨.int (g i j),H,I.tok _,⟨_,rfl⟩,q⟩
theorem opI0 {f:Value->Value->Sem Value} {g:Int->Int->Int}
  (rule:∀ (i j:Int) (t u:Tok) (s:Shared) (Q:Value->Shared->Prop) (E:Value->Shared->Prop),Q (.int (g i j) s.toks) { s with toks:=s.toks + 1}->wpAny (model X.prog X.w) X.A (f (.int i t) (.int j u)) Q E s) :
  OpR X f (rI0 fun i j=>.int (g i j)):=by
 intro pins s Z H x y v u Q I rx ry h;obtain ⟨i,j,rfl,rfl,q⟩:=h;obtain ⟨t,rfl⟩:=rx;obtain ⟨t',rfl⟩:=ry;exact rule i j t t' s _ _ ⟨.int (g i j),H,I.tok _,⟨_,rfl⟩,q⟩
theorem opB0 {f:Value->Value->Sem Value} {g:Int->Int->Bool}
  (rule:∀ (i j:Int) (t u:Tok) (s:Shared) (Q:Value->Shared->Prop) (E:Value->Shared->Prop),Q (.bool (g i j)) s->wpAny (model X.prog X.w) X.A (f (.int i t) (.int j u)) Q E s) :
  OpR X f (rI0 fun i j=>.bl (g i j)):=by
 intro pins s Z H x y v u Q I rx ry h;obtain ⟨i,j,rfl,rfl,q⟩:=h;obtain ⟨t,rfl⟩:=rx;obtain ⟨t',rfl⟩:=ry;exact rule i j t t' s _ _ ⟨.bl (g i j),H,I,rfl,q⟩
def CDiv (i j:Int):Prop:=0 < j/\j < 1073741824
def CPow (i j:Int):Prop:=0<=j/\j<=1000000/\i.natAbs < 2 ^ 64
def CMul (i j:Int):Prop:=(-(2 ^ 64) < i/\i < 2 ^ 64)\/(-(2 ^ 64) < j/\j < 2 ^ 64)
theorem CMul.ok {i j:Int} (h:CMul i j):IntMulOk i j:=by
 rcases h with ⟨h1,h2⟩ | ⟨h1,h2⟩
 ·exact .of_left (intBits_le_64 h1 h2)
 ·exact .of_right (intBits_le_64 h1 h2)
theorem j4z:OpR X (binaryOp .Add) (rI0 fun i j=>.int (i + j)):=opI0 fun _ _ _ _ _ _ _ q=>add_int q
theorem k3p:OpR X (binaryOp .Sub) (rI0 fun i j=>.int (i - j)):=opI0 fun _ _ _ _ _ _ _ q=>sub_int q
theorem j73:OpR X (binaryOp .Mult) (rI CMul fun i j=>.int (i * j)):=opI fun _ _ _ _ _ _ _ hc q=>mul_int q hc.ok
theorem k7k:OpR X (binaryOp .FloorDiv) (rI CDiv fun i j=>.int (i / j)):=opI fun i j _ _ _ _ _ hc q=>by have h1:(0:Int) < j:=hc.1;have h2:j < 1073741824:=hc.2;exact floordiv_int (by omega) (by rw [Int.fdiv_eq_ediv_of_nonneg i (by omega)];exact q) (.inl (PyProof.noPylong_small (by omega)))
theorem j52:OpR X (binaryOp .Mod) (rI (fun _ j=>0 < j) fun i j=>.int (i % j)):=opI fun i j _ _ _ _ _ hc q=>by have h1:(0:Int) < j:=hc;exact mod_int' (by omega) (by rw [Int.fmod_eq_emod_of_nonneg i (by omega)];exact q)
theorem w7x:OpR X (binaryOp .Pow) (rI CPow fun i j=>.int (i ^ j.toNat)):=opI fun _ _ _ _ _ _ _ hc q=>pow_int_small hc.1 hc.2.1 hc.2.2 q
theorem unI {f:Value->Sem Value} {g:Int->Int}
  (rule:∀ (i:Int) (t:Tok) (s:Shared) (Q:Value->Shared->Prop) (E:Value->Shared->Prop),Q (.int (g i) s.toks) { s with toks:=s.toks + 1}->wpAny (model X.prog X.w) X.A (f (.int i t)) Q E s) :
  UnR X f (rU fun i=>.int (g i)):=by
 intro pins s Z H x v Q I rx h;obtain ⟨i,rfl,q⟩:=h;obtain ⟨t,rfl⟩:=rx;exact rule i t s _ _ ⟨.int (g i),H,I.tok _,⟨_,rfl⟩,q⟩
theorem w62:UnR X (unaryOp .USub) (rU fun i=>.int (-i)):=unI fun _ _ _ _ _ q=>neg_int q
end
def scal:V->V->Bool
 | .non,.non=>true | .non,.int _=>true | .int _,.non=>true | .non,.bl _=>true | .bl _,.non=>true | .non,.str _=>true | .str _,.non=>true
 | .int _,.int _=>true | .bl _,.bl _=>true | .str _,.str _=>true | .byt _,.byt _=>true
 | .int _,.str _=>true | .str _,.int _=>true | .bl _,.str _=>true | .str _,.bl _=>true
 | _,_=>false
def rEq:R2:=fun x y H Q=>scal x y=true/\Q (.bl (decide (x=y))) H
def rNe:R2:=fun x y H Q=>scal x y=true/\Q (.bl (!decide (x=y))) H
theorem k85 {i j:Int}:decide (V.int i=V.int j)=(i == j):=by rw [Bool.eq_iff_iff];simp
theorem w24 {i j:Bool}:decide (V.bl i=V.bl j)=(i == j):=by rw [Bool.eq_iff_iff];simp
theorem k84 {i j:Str}:decide (V.str i=V.str j)=(i == j):=by rw [Bool.eq_iff_iff];simp
theorem k86 {i j:Array UInt8}:decide (V.byt i=V.byt j)=(i.toList == j.toList):=by rw [Bool.eq_iff_iff];cases i;cases j;simp
section
variable {X:Cx} {a b c:Expr} {ta tb tc:TE} {pos:Pos}
theorem j06 {pins:List (Addr×Obj)} {Z:St} {H:Hp} {s:Shared} {Q:VK} {k k':Bool} (I:Inv X pins Z H s) (q:Q (.bl k) H) (e:k=k'):EP X pins Z Q (.bool k') s:=by subst e;exact ⟨.bl k,H,I,rfl,q⟩
theorem op_eq:OpR X (compareOp .Eq) rEq:=by
 intro pins s Z H x y v u Q I rx ry h;obtain ⟨hs,q⟩:=h
 cases x with
 | non =>
  cases rx
  cases y with
  | non=>cases ry;exact PySem.EqNone.eq_none_none (j06 I q (by simp))
  | bl j=>cases ry;exact PySem.EqNone.eq_none_bool (j06 I q (by simp))
  | int j=>obtain ⟨t',rfl⟩:=ry;exact PySem.EqNone.eq_none_int (j06 I q (by simp))
  | str j=>obtain ⟨t',rfl⟩:=ry;exact PySem.EqNone.eq_none_str (j06 I q (by simp))
  | _=>exact absurd (show false=true from hs) Bool.false_ne_true
 | bl i =>
  cases rx
  cases y with
  | non=>cases ry;exact PySem.EqNone.eq_bool_none (j06 I q (by simp))
  | bl j=>cases ry;exact eq_bool (j06 I q w24)
  | str j=>obtain ⟨t',rfl⟩:=ry;exact PySem.EqMixed.eq_bool_str (j06 I q (by simp))
  | _=>exact absurd (show false=true from hs) Bool.false_ne_true
 | int i =>
  obtain ⟨t,rfl⟩:=rx
  cases y with
  | non=>cases ry;exact PySem.EqNone.eq_int_none (j06 I q (by simp))
  | int j=>obtain ⟨t',rfl⟩:=ry;exact eq_int (j06 I q k85)
  | str j=>obtain ⟨t',rfl⟩:=ry;exact PySem.EqMixed.eq_int_str (j06 I q (by simp))
  | _=>exact absurd (show false=true from hs) Bool.false_ne_true
 | str i =>
  obtain ⟨t,rfl⟩:=rx
  cases y with
  | non=>cases ry;exact PySem.EqNone.eq_str_none (j06 I q (by simp))
  | bl j=>cases ry;exact PySem.EqMixed.eq_str_bool (j06 I q (by simp))
  | int j=>obtain ⟨t',rfl⟩:=ry;exact PySem.EqMixed.eq_str_int (j06 I q (by simp))
  | str j=>obtain ⟨t',rfl⟩:=ry;exact eq_str (j06 I q k84)
  | _=>exact absurd (show false=true from hs) Bool.false_ne_true
 | byt i =>
  obtain ⟨t,rfl⟩:=rx
  cases y with
  | byt j=>obtain ⟨t',rfl⟩:=ry;exact PySem.W.eq_bytes (j06 I q k86)
  | _=>exact absurd (show false=true from hs) Bool.false_ne_true
 | _=>cases y<;>exact absurd (show false=true from hs) Bool.false_ne_true
theorem op_ne:OpR X (compareOp .NotEq) rNe:=by
 intro pins s Z H x y v u Q I rx ry h;obtain ⟨hs,q⟩:=h
 cases x with
 | non =>
  cases rx
  cases y with
  | non=>cases ry;exact PySem.EqNone.ne_none_none (j06 I q (by simp))
  | bl j=>cases ry;exact PySem.EqNone.ne_none_bool (j06 I q (by simp))
  | int j=>obtain ⟨t',rfl⟩:=ry;exact PySem.EqNone.ne_none_int (j06 I q (by simp))
  | str j=>obtain ⟨t',rfl⟩:=ry;exact PySem.EqNone.ne_none_str (j06 I q (by simp))
  | _=>exact absurd (show false=true from hs) Bool.false_ne_true
 | bl i =>
  cases rx
  cases y with
  | non=>cases ry;exact PySem.EqNone.ne_bool_none (j06 I q (by simp))
  | bl j=>cases ry;exact ne_bool (j06 I q (congrArg not w24))
  | str j=>obtain ⟨t',rfl⟩:=ry;exact PySem.EqMixed.ne_bool_str (j06 I q (by simp))
  | _=>exact absurd (show false=true from hs) Bool.false_ne_true
 | int i =>
  obtain ⟨t,rfl⟩:=rx
  cases y with
  | non=>cases ry;exact PySem.EqNone.ne_int_none (j06 I q (by simp))
  | int j=>obtain ⟨t',rfl⟩:=ry;exact ne_int (j06 I q (congrArg not k85))
  | str j=>obtain ⟨t',rfl⟩:=ry;exact PySem.EqMixed.ne_int_str (j06 I q (by simp))
  | _=>exact absurd (show false=true from hs) Bool.false_ne_true
 | str i =>
  obtain ⟨t,rfl⟩:=rx
  cases y with
  | non=>cases ry;exact PySem.EqNone.ne_str_none (j06 I q (by simp))
  | bl j=>cases ry;exact PySem.EqMixed.ne_str_bool (j06 I q (by simp))
  | int j=>obtain ⟨t',rfl⟩:=ry;exact PySem.EqMixed.ne_str_int (j06 I q (by simp))
  | str j=>obtain ⟨t',rfl⟩:=ry;exact ne_str (j06 I q (congrArg not k84))
  | _=>exact absurd (show false=true from hs) Bool.false_ne_true
 | byt i =>
  obtain ⟨t,rfl⟩:=rx
  cases y with
  | byt j=>obtain ⟨t',rfl⟩:=ry;exact PySem.W.ne_bytes (j06 I q (congrArg not k86))
  | _=>exact absurd (show false=true from hs) Bool.false_ne_true
 | _=>cases y<;>exact absurd (show false=true from hs) Bool.false_ne_true
theorem w7z:OpR X (compareOp .Lt) (rI0 fun i j=>.bl (decide (i < j))):=opB0 fun _ _ _ _ _ _ _ q=>lt_int q
theorem w70:OpR X (compareOp .LtE) (rI0 fun i j=>.bl (decide (i<=j))):=opB0 fun _ _ _ _ _ _ _ q=>le_int q
theorem w73:OpR X (compareOp .Gt) (rI0 fun i j=>.bl (decide (j < i))):=opB0 fun _ _ _ _ _ _ _ q=>gt_int q
theorem op_ge:OpR X (compareOp .GtE) (rI0 fun i j=>.bl (decide (j<=i))):=opB0 fun _ _ _ _ _ _ _ q=>ge_int q
theorem w71:OpR X (compareOp .Is) (fun x y H Q=>y=.non/\Q (.bl (decide (x=.non))) H):=by
 intro pins s Z H x y v u Q I rx ry h;obtain ⟨rfl,q⟩:=h;cases ry;refine is_none_gen (j06 I q ?_)
 cases x<;>first
  | (cases rx;rfl)
  | (obtain ⟨t,rfl⟩:=rx;rfl)
theorem k7j:OpR X (compareOp .IsNot) (fun x y H Q=>y=.non/\Q (.bl (!decide (x=.non))) H):=by
 intro pins s Z H x y v u Q I rx ry h;obtain ⟨rfl,q⟩:=h;cases ry;refine isnot_none_gen (j06 I q ?_)
 cases x<;>first
  | (cases rx;rfl)
  | (obtain ⟨t,rfl⟩:=rx;rfl)
theorem j0u (b:Expr) {op:CmpOp} (h:op≠.In:=by decide) (h2:op≠.NotIn:=by decide):behindInMarks op b=false:=by
 have e1:(op == CmpOp.In)=false:=by cases op<;>first | rfl | exact absurd rfl h
 have e2:(op == CmpOp.NotIn)=false:=by cases op<;>first | rfl | exact absurd rfl h2
 cases b<;>simp [behindInMarks,e1,e2]
theorem k13 {op:CmpOp} {r:R2} (ho:OpR X (compareOp op) r) (ha:PE X a ta) (hb:PE X b tb) (hm:behindInMarks op b=false):PE X (.Compare a [op] [b] pos) (tOp r ta tb):=by intro pins s Z H Q I h;exact wpAny_Compare1 (binT ha hb I h fun v u s2 x y H2 I2 rx ry q=>ho pins s2 Z H2 x y v u Q I2 rx ry q) hm
def w9s (t:TE):TT:=fun Z H Q=>t Z H fun x H'=>∃ k,x=.bl k/\Q k H'
theorem j23 {op:CmpOp} {r:R2} (ho:OpR X (compareOp op) r) (ha:PE X a ta) (hb:PE X b tb) (hm:behindInMarks op b=false):PT X (.Compare a [op] [b] pos) (w9s (tOp r ta tb)):=by
 intro pins s Z H Q I h
 refine wpAny_isTrue_Compare1 (thn (ha pins s Z H _ I h) fun v s1 ⟨x,H1,I1,r1,q1⟩=>thn (hb pins s1 Z H1 _ I1 q1) fun u s2 ⟨y,H2,I2,r2,q2⟩ =>
  thn (ho pins s2 Z H2 x y v u _ I2 r1 r2 q2) fun c s3 ⟨z,H3,I3,r3,k,e,q3⟩=>?_) hm
 subst e;cases r3;exact wpAny_truthy_bool ⟨H3,I3,q3⟩
def TruV (K:PySem.W.Frag) (x:V) (H:Hp) (k:Bool):Prop :=
 match x with
 | .non=>k=false
 | .bl b=>k=b
 | .int i=>k=(i != 0)
 | .str y=>y.length<=sizeLine/\k=((y.length:Int) != 0)
 | .byt y=>y.size<=sizeLine/\k=((y.size:Int) != 0)
 | .ref p=>(∃ xs,SqL K H p xs/\k=!xs.isEmpty)\/(∃ xs,SqT K H p xs/\k=!xs.isEmpty)\/∃ kvs,H p=some (.dK kvs)/\k=!kvs.isEmpty
 | _=>False
theorem k4v {κ:Type} {kvs:List (κ×V)} {vs:List (κ×Value)} (r:KV kvs vs):(!vs.isEmpty)=!kvs.isEmpty:=by
 cases r<;>rfl
theorem j75 {xs:List V} {its:List Value} (r:Vals xs its):(!its.toArray.isEmpty)=!xs.isEmpty:=by
 cases r<;>simp
theorem j74:(sizeLine:Nat) < 2 ^ 63:=by rw [sizeLine_eq];decide
theorem w67:TruR X (fun x H Q=>∃ k,TruV X.K x H k/\Q k H):=by
 intro pins s Z H x v Q I rx h;obtain ⟨k,e,q⟩:=h;have hl:=j74;have hs:sizeLine=16777216:=sizeLine_eq
 cases x with
 | non =>
  cases rx;have e':k=false:=e;subst e';exact truthy_none ⟨H,I,q⟩
 | bl b =>
  cases rx;have e':k=b:=e;subst e';exact wpAny_truthy_bool ⟨H,I,q⟩
 | int i =>
  obtain ⟨t,rfl⟩:=rx;have e':k=(i != 0):=e;subst e';exact PySem.P.truthy_int ⟨H,I,q⟩
 | str y =>
  obtain ⟨t,rfl⟩:=rx;obtain ⟨hy,e'⟩:y.length<=sizeLine/\k=((y.length:Int) != 0):=e;subst e';exact PySem.P.truthy_str (by omega) ⟨H,I.tok _,q⟩
 | byt y =>
  obtain ⟨t,rfl⟩:=rx;obtain ⟨hy,e'⟩:y.size<=sizeLine/\k=((y.size:Int) != 0):=e;subst e';exact PySem.W.truthy_bytes (by omega) ⟨H,I.tok _,q⟩
 | ref p =>
  cases rx;have e':(∃ xs,SqL X.K H p xs/\k=!xs.isEmpty)\/(∃ xs,SqT X.K H p xs/\k=!xs.isEmpty)\/∃ kvs,H p=some (.dK kvs)/\k=!kvs.isEmpty:=e;rcases e' with ⟨xs,hx,e'⟩ | ⟨xs,hx,e'⟩ | ⟨kvs,hx,e'⟩
  ·subst e';obtain ⟨its,r,pl,hz⟩:=I.list hx;have hlen:=r.length;exact wpAny_truthy_list pl.isList (by simp only [List.size_toArray];omega) ⟨H,I.tok _,by rw [j75 r];exact q⟩
  ·subst e';obtain ⟨its,r,pl,hz⟩:=I.tuple hx;have hlen:=r.length;exact truthy_tuple pl (by simp only [List.size_toArray];omega) ⟨H,I.tok _,by rw [j75 r];exact q⟩
  ·subst e';obtain ⟨hz,hS,vs,r,m⟩:kvs.length<=sizeLine/\(p == sysModules)=false/\∃ vs,KV kvs vs/\s.heap.DictOf (j1k X.prog X.w) p vs:=I.hok p _ hx;have hlen:kvs.length=vs.length:=Paired.length r;exact wpAny_truthy_dict hS m (by omega) ⟨H,I.tok _,by rw [k4v r];exact q⟩
 | _=>exact (show False from e).elim
theorem k3j (ha:PE X a ta) (he:∀ whole,isTrue a X.env whole=(do let v <- whole;standAt a.pos;holding [v] (truthy v))) :
  PT X a (fun Z H Q=>ta Z H fun x H'=>∃ k,TruV X.K x H' k/\Q k H'):=by
 intro pins s Z H Q I h;exact isTrue_plain (thn (ha pins s Z H _ I h) fun v s1 ⟨x,H1,I1,r1,q1⟩=>w67 pins s1 Z H1 x v Q I1 r1 q1) (he _)
theorem j56 {x:V} {us:List Value} (r:Vals [x] us):∃ u,us=[u]/\RelV x u:=by
 cases r with
 | cons r1 r2=>cases r2;exact ⟨_,rfl,r1⟩
theorem w61 {x y:V} {us:List Value} (r:Vals [x,y] us):∃ u w',us=[u,w']/\RelV x u/\RelV y w':=by
 cases r with
 | cons r1 r2 =>
  cases r2 with
  | cons r3 r4=>cases r4;exact ⟨_,_,rfl,r1,r3⟩
end
end L2
namespace L2
open PySem PySem.Spec PyProof.Rows
structure ObjM (h:Heap) (x dx C:Addr) (mA:Str->Option Value):Prop where
 obj:h.get? x=some (PySem.W.instObj C dx)
 ns:h.Ns1 dx mA
 ne:dx≠x
theorem k72 {h:Heap} {dx:Addr} {mA:Str->Option Value} (n:h.Ns1 dx mA):∃ od,h.get? dx=some od/\∀ name,PySem.W.lookIn name od=some (mA name):=by
 obtain ⟨o,es,ep,ho,hd,hk,_,hm⟩:=n;refine ⟨o,ho,fun name=>?_⟩;have e:=hm name;unfold nsFind findBy at e;rw [<- Array.find?_toList] at e;unfold PySem.W.lookIn;rw [hd];dsimp only;split
 ·rename_i y q
  rw [q] at e;exact congrArg some e
 ·rename_i q
  rw [q] at e
  have a:es.toList.any (·.refKey)=false:=by rw [List.any_eq_false];intro y hy;obtain ⟨z,t,hkey⟩:=hk y (Array.mem_toList_iff.mp hy);simp [DictEntry.refKey,hkey]
  have a':¬ es.toList.any (·.refKey)=true:=by rw [a];exact Bool.false_ne_true
  rw [if_neg a'];exact congrArg some e
theorem ObjM.look {h:Heap} {x dx C:Addr} {mA:Str->Option Value} (I:ObjM h x dx C mA):∃ od,PySem.W.InstAt h x (PySem.W.instObj C dx) C (some od)/\∀ name,PySem.W.lookIn name od=some (mA name) :=
 let ⟨od,ho,hl⟩:=k72 I.ns
 ⟨od,⟨I.obj,rfl,rfl,ho⟩,hl⟩
section
variable {prog:Program} {w:World} {A:Around} {E:Value->Shared->Prop} {s:Shared} {K:PySem.W.Frag} {x dx C f:Addr} {mA:Str->Option Value} {name:Str} {v:Value}
theorem w5z {expr:Bool} {Q:Value->Shared->Prop} (X:K.In s.heap) (I:ObjM s.heap x dx C mA) (hg:PySem.W.plainGet K C name=true) (hh:PySem.W.hasDictIn K C=true)
  (ha:PySem.W.findIn K (.ref C) name=some none) (hv:mA name=some v) (hv':PySem.W.handedIn v=true) (h:Q v { s with toks:=s.toks + 1}) :
  wpAny (model prog w) A (getAttr (.ref x) name expr) Q E s:=by
 obtain ⟨od,J,hl⟩:=I.look;exact PySem.W.get_value X J (PySem.W.plainGet_of hg).1 (PySem.W.findObj_own hh ha rfl (by rw [hl,hv])) hv' h
theorem w1j {pl:Sem Bool} {Q:Value×List Value->Shared->Prop} (X:K.In s.heap) (I:ObjM s.heap x dx C mA) (hg:PySem.W.plainGet K C name=true)
  (hf:PySem.W.findIn K (.ref C) name=some (some (.ref f))) (ht:PySem.W.isFn K (.ref f)=true) (hv:mA name=none) (h:Q (.ref f,[.ref x]) s) :
  wpAny (model prog w) A (getMethod (.ref x) name pl) Q E s:=by
 obtain ⟨od,J,hl⟩:=I.look;exact PySem.W.method_fn X J (PySem.W.plainGet_of hg).1 (PySem.W.plainGet_of hg).2 hf (beq_iff_eq.mp ht) (by show (PySem.W.lookIn name od).map (·.isSome)=some false;rw [hl,hv];rfl) h
theorem w3s {ns:List Str} {Q:Unit->Shared->Prop} (X:K.In s.heap) (I:ObjM s.heap x dx C mA)
  (hs:PySem.W.findIn K (.ref C) "__setattr__"=some (some (.builtin "object.__setattr__"))) (hp:PySem.W.plainOver K C=true) (ht:PySem.W.takerIn K C name=some none) (hh:PySem.W.hasDictIn K C=true)
  (hw:PySem.Within mA ns) (hsz:ns.length<=sizeLine)
  (h:∀ h',ObjM h' x dx C (fun y=>if y=name then some v else mA y)->Heap.SameBut dx s.heap h'->Q () { s with heap:=h',toks:=s.toks + 2}) :
  wpAny (model prog w) A (setAttr (.ref x) name v) Q E s:=by
 obtain ⟨od,J,hl⟩:=I.look;refine PySem.W.set_plain X J hs (PySem.W.osa_open (s:={ s with toks:=s.toks + 1}) (r:=none) X J hp ht fun b=>?_);obtain ⟨cd,hc,hd'⟩:=PySem.W.any_some hh;have hx:s.heap.get? x=some ⟨.ref C,some dx,.plain,#[]⟩:=I.obj;refine wB (wP (wB (wB (wpAny_loadPart hx (wB (PySem.W.Looks.here (s:={ s with toks:=s.toks + 1}) (PySem.W.looks_clsIn X hc) ?_))))));rw [hd'];refine wP (a:=some dx) (wB (wP (wB ?_)));refine wpAny_nsSet1 (s:={ s with toks:=s.toks + 1}) I.ns fun h' hn2 hs2=>?_;obtain ⟨oD,esD,epD,hoD,hdD,hcD⟩:=hn2.count (PySem.Within.cons name v hw);refine wB (wpAny_lookBehind hoD (by rw [hdD];exact pastItsLine_dict (Nat.le_trans hcD (by rw [List.length_cons];omega))) ?_);exact wP (h _ ⟨(hs2.2 _ (Ne.symm I.ne)).trans I.obj,hn2,I.ne⟩ hs2)
theorem w1d {R:Result->Shared->Prop} {vs:List Value} {kw:List (Str×Value)} (X:K.In s.heap) (hm:PySem.W.makesIn K C=true)
  (hi:PySem.W.findIn K (.ref C) "__init__"=some (some (.ref f))) (hf:PySem.W.typeIn K (.ref f)=some (.type "function"))
  (h:codeAny (model prog w) (A.under (.builtin "type.__call__" ⟨.ref C :: vs,kw⟩)) (.call (.ref f) ⟨.ref (s.heap.objs.size + 1) :: vs,kw⟩) (PySem.W.InitBack (s.heap.objs.size + 1) R)
   { s with heap:=(s.heap.push PySem.W.emptyDict).push (PySem.W.instObj C s.heap.objs.size)}) :
  codeAny (model prog w) A (.call (.ref C) ⟨vs,kw⟩) R s:=by
 obtain ⟨hh,g,d,t,os⟩:=s;exact PySem.W.make_core (PySem.W.makes_of X hm) (PySem.W.looks_findIn X hi) (fun self=>PySem.W.bind_fn X self hf) (.inl rfl) h
end
def putF (f:Str) (v:V):List (Str×V)->List (Str×V)
 | []=>[(f,v)]
 | (g,x) :: r=>if g=f then (g,v) :: r else (g,x) :: putF f v r
theorem j65 (f g:Str) (v:V):∀ fs:List (Str×V),(putF f v fs).lookup g=if g=f then some v else fs.lookup g
 | []=>by
  show List.lookup g [(f,v)]=_;by_cases h:g=f
  ·have hb:(g == f)=true:=beq_iff_eq.mpr h;simp only [List.lookup,hb,if_pos h]
  ·have hb:(g == f)=false:=beq_eq_false_iff_ne.mpr h;simp only [List.lookup,hb,if_neg h]
 | (k,x) :: r=>by
  have ih:=j65 f g v r;rw [show putF f v ((k,x) :: r)=(if k=f then (k,v) :: r else (k,x) :: putF f v r) from rfl];by_cases hk:k=f
  ·rw [if_pos hk];by_cases h:g=k
   ·have hb:(g == k)=true:=beq_iff_eq.mpr h;simp only [List.lookup,hb,if_pos (h.trans hk)]
   ·have hb:(g == k)=false:=beq_eq_false_iff_ne.mpr h;simp only [List.lookup,hb,if_neg (fun e:g=f=>h (e.trans hk.symm))]
  ·rw [if_neg hk];by_cases h:g=k
   ·have hb:(g == k)=true:=beq_iff_eq.mpr h;simp only [List.lookup,hb,if_neg (fun e:g=f=>hk (h.symm.trans e))]
   ·have hb:(g == k)=false:=beq_eq_false_iff_ne.mpr h;simp only [List.lookup,hb];exact ih
theorem j7a (f:Str) (v:V):∀ fs:List (Str×V),f∈(putF f v fs).map (·.1)/\∀ g,g∈fs.map (·.1)->g∈(putF f v fs).map (·.1)
 | []=>⟨by simp [putF],fun g h=>by simp at h⟩
 | (k,x) :: r=>by
  obtain ⟨i1,i2⟩:=j7a f v r;rw [show putF f v ((k,x) :: r)=(if k=f then (k,v) :: r else (k,x) :: putF f v r) from rfl];by_cases hk:k=f
  ·rw [if_pos hk];subst hk;exact ⟨by simp,fun g h=>by simpa using h⟩
  ·rw [if_neg hk];refine ⟨?_,fun g h=>?_⟩
   ·rw [List.map_cons];exact List.mem_cons_of_mem _ i1
   ·rw [List.map_cons] at h ⊢;rcases List.mem_cons.mp h with e | e
    ·exact List.mem_cons.mpr (.inl e)
    ·exact List.mem_cons_of_mem _ (i2 g e)
theorem j67 (f:Str) (v:V):∀ fs:List (Str×V),(putF f v fs).length<=fs.length + 1
 | []=>by simp [putF]
 | (k,x) :: r=>by
  have ih:=j67 f v r;rw [show putF f v ((k,x) :: r)=(if k=f then (k,v) :: r else (k,x) :: putF f v r) from rfl];by_cases hk:k=f
  ·rw [if_pos hk,List.length_cons,List.length_cons];omega
  ·rw [if_neg hk,List.length_cons,List.length_cons];omega
theorem RelO.some_of {v:V} {o:Option Value} (r:RelO (some v) o):∃ u,o=some u/\RelV v u:=by
 cases o with
 | none=>exact (show False from r).elim
 | some u=>exact ⟨u,rfl,r⟩
theorem RelO.none_of {o:Option Value} (r:RelO none o):o=none:=by
 cases o with
 | none=>rfl
 | some u=>exact (show False from r).elim
theorem k8j {v:V} {u:Value} (r:RelV v u):PySem.W.handedIn u=true:=by
 cases v with
 | non=>cases (show u=Value.none from r);rfl
 | bl b=>cases (show u=Value.bool b from r);rfl
 | int i=>obtain ⟨t,e⟩:=(show ∃ t,u=Value.int i t from r);cases e;rfl
 | str x=>obtain ⟨t,e⟩:=(show ∃ t,u=Value.str x t from r);cases e;rfl
 | byt b=>obtain ⟨t,e⟩:=(show ∃ t,u=Value.bytes b t from r);cases e;rfl
 | flt b=>obtain ⟨t,e⟩:=(show ∃ t,u=Value.float b t from r);cases e;rfl
 | ref a=>cases (show u=Value.ref a from r);rfl
 | ty n=>cases (show u=Value.type n from r);rfl
section
variable {P:Program} {w:World} {H H':Hp} {h h':Heap} {a C dx:Addr} {fs fs':List (Str×V)}
theorem j9l (hok:HOk P w H h) (e:H a=some (.ins C dx fs)):∃ mA,ObjM h a dx C mA/\(∀ f,RelO (fs.lookup f) (mA f))/\PySem.Within mA (fs.map (·.1))/\fs.length<=1000/\H dx=some (.own a):=by obtain ⟨d,z,ne,ob,mA,n,r,q⟩:=(show ObjOk P w H h a (.ins C dx fs) from hok a _ e);exact ⟨mA,⟨ob,n,ne⟩,r,q,z,d⟩
end
structure Cls (K:PySem.W.Frag) (C:Addr):Prop where
 pg:PySem.W.plainGet K C Str.empty=true
 hd:PySem.W.hasDictIn K C=true
 po:PySem.W.plainOver K C=true
 sa:PySem.W.findIn K (.ref C) "__setattr__"=some (some (.builtin "object.__setattr__"))
theorem Cls.get {K:PySem.W.Frag} {C:Addr} (c:Cls K C) (f:Str):PySem.W.plainGet K C f=true:=c.pg
def NoAttr (K:PySem.W.Frag) (C:Addr) (f:Str):Prop:=PySem.W.findIn K (.ref C) f=some none
theorem NoAttr.taker {K:PySem.W.Frag} {C:Addr} {f:Str} (n:NoAttr K C f):PySem.W.takerIn K C f=some none:=by unfold PySem.W.takerIn;rw [show PySem.W.findIn K (.ref C) f=some none from n];rfl
structure Meth (K:PySem.W.Frag) (C:Addr) (m:Str) (f:Addr):Prop where
 at_:PySem.W.findIn K (.ref C) m=some (some (.ref f))
 fn:PySem.W.isFn K (.ref f)=true
 kp:PySem.W.keepIn K (.ref f)=true
section
variable {X:Cx} {pins:List (Addr×Obj)} {Z:St} {H:Hp} {s:Shared} {a C dx:Addr} {fs:List (Str×V)} {f:Str} {v:V} {A:Around} {E:Value->Shared->Prop}
theorem k4x {b:Bool} {Q:Value->Shared->Prop} (I:Inv X pins Z H s) (e:H a=some (.ins C dx fs)) (c:Cls X.K C) (n:NoAttr X.K C f) (l:fs.lookup f=some v)
  (h:∀ u s',Inv X pins Z H s'->RelV v u->Q u s'):wpAny (model X.prog X.w) A (getAttr (.ref a) f b) Q E s:=by
 obtain ⟨mA,O,r,_,_,_⟩:=j9l I.hok e;obtain ⟨u,hu,ru⟩:=RelO.some_of (v:=v) (o:=mA f) (by rw [<- l];exact r f);exact w5z I.kIn O (c.get f) c.hd n hu (k8j ru) (h u _ (I.tok _) ru)
theorem j77 {m:Str} {g:Addr} {pl:Sem Bool} {Q:Value×List Value->Shared->Prop} (I:Inv X pins Z H s) (e:H a=some (.ins C dx fs)) (c:Cls X.K C) (k:Meth X.K C m g) (l:fs.lookup m=none)
  (h:Q (.ref g,[.ref a]) s):wpAny (model X.prog X.w) A (getMethod (.ref a) m pl) Q E s:=by
 obtain ⟨mA,O,r,_,_,_⟩:=j9l I.hok e;have hn:mA m=none:=RelO.none_of (by rw [<- l];exact r m);exact w1j I.kIn O (c.get m) k.at_ k.fn hn h
theorem k4e {y:V} {u:Value} {Q:Unit->Shared->Prop} (I:Inv X pins Z H s) (e:H a=some (.ins C dx fs)) (c:Cls X.K C) (n:NoAttr X.K C f) (hl:fs.length < 1000) (ry:RelV y u)
  (h:∀ s',Inv X pins Z (upd H a (.ins C dx (putF f y fs))) s'->Q () s'):wpAny (model X.prog X.w) A (setAttr (.ref a) f u) Q E s:=by
 obtain ⟨mA,O,r,wi,_,ho⟩:=j9l I.hok e;have hz:(fs.map (·.1)).length<=sizeLine:=by rw [List.length_map,sizeLine_eq];omega
 refine w3s I.kIn O c.sa c.po n.taker c.hd wi hz fun h' O' sb=>h _ ?_;have hd:∃ o,h'.get? dx=some o:=let ⟨o,_,_,e',_⟩:=O'.ns;⟨o,e'⟩;refine I.write (x:=a) (e:=dx) (by rw [e];exact True.intro) (.inr ho) (fun b q hb z=>(sb.2 b hb).trans z) hd ?_;refine ⟨by rw [j0g O.ne];exact ho,?_,O.ne,O'.obj,_,O'.ns,fun g=>?_,fun g hg=>?_⟩
 ·have:=j67 f y fs;omega
 ·show RelO ((putF f y fs).lookup g) (if g=f then some u else mA g);rw [j65];by_cases q:g=f
  ·rw [if_pos q,if_pos q];exact ry
  ·rw [if_neg q,if_neg q];exact r g
 ·by_cases q:g=f
  ·rw [q];exact (j7a f y fs).1
  ·refine (j7a f y fs).2 g (wi g fun z=>hg ?_);show (if g=f then some u else mA g)=none;rw [if_neg q];exact z
theorem Inv.made (I:Inv X pins Z H s):Inv X pins Z (upd (upd H s.heap.objs.size (.own (s.heap.objs.size + 1))) (s.heap.objs.size + 1) (.ins C s.heap.objs.size []))
  { s with heap:=(s.heap.push PySem.W.emptyDict).push (PySem.W.instObj C s.heap.objs.size)}:=by
 have e1:(s.heap.push PySem.W.emptyDict).get? s.heap.objs.size=some PySem.W.emptyDict:=Heap.get?_push_size s.heap rfl
 have e2:((s.heap.push PySem.W.emptyDict).push (PySem.W.instObj C s.heap.objs.size)).get? (s.heap.objs.size + 1)=some (PySem.W.instObj C s.heap.objs.size):=by
  have:=Heap.get?_push_size (s.heap.push PySem.W.emptyDict) (o:=PySem.W.instObj C s.heap.objs.size) rfl
  rwa [Heap.size_push] at this
 have e3:(s.heap.push PySem.W.emptyDict).Ns s.heap.objs.size (fun _=>none):=⟨PySem.W.emptyDict,#[],_,e1,rfl,(fun e he=>absurd he (by simp)),fun _=>rfl⟩;have I1:=I.laid (a:=s.heap.objs.size) (o:=.own (s.heap.objs.size + 1)) (h':=s.heap.push PySem.W.emptyDict) (t':=s.toks) (fun b u q=>Heap.get?_push_of_some _ q) (Nat.le_refl _) ⟨_,e1⟩;refine I1.laid (a:=s.heap.objs.size + 1) (o:=.ins C s.heap.objs.size []) (t':=s.toks) (fun b u q=>Heap.get?_push_of_some _ q) (Nat.le_of_eq (Heap.size_push _ _)) ?_;have ne:s.heap.objs.size≠s.heap.objs.size + 1:=Nat.ne_of_lt (Nat.lt_succ_self _);refine ⟨by rw [j0g ne,j0h],Nat.zero_le _,ne,e2,fun _=>none,(Heap.Ns1.of_empty e3).at fun o q=>Heap.get?_push_of_some _ q,fun _=>True.intro,fun y hy=>absurd rfl hy⟩
theorem w6j {prog:Program} {w:World} {env:Env} {e:Expr} {f:Str} {pos:Pos} {s:Shared} {Q:Value->Shared->Prop} (hb:attributeBase e f env (eval e env)=eval e env)
  (h:wpAny (model prog w) A (eval e env) (fun o s₁=>wpAny (model prog w) A (getAttr o f true) Q E s₁) E s):wpAny (model prog w) A (eval (.Attribute e f pos) env) Q E s :=
 Attribute_any_ h (by rw [arm_eval_Attribute,hb])
end
def tFld (K:PySem.W.Frag) (ta:TE) (f:Str):TE:=fun Z H Q=>ta Z H fun x H1=>∃ a C dx fs v,x=.ref a/\H1 a=some (.ins C dx fs)/\Cls K C/\NoAttr K C f/\fs.lookup f=some v/\Q v H1
def sFld (K:PySem.W.Frag) (ta tv:TE) (f:Str):TS:=fun D Z H=>tv Z H fun y H1=>ta Z H1 fun x H2=>∃ a C dx fs,x=.ref a/\H2 a=some (.ins C dx fs)/\Cls K C/\NoAttr K C f/\fs.length < 1000 /\
 D.nx Z (upd H2 a (.ins C dx (putF f y fs)))
section
variable {X:Cx} {o e value:Expr} {f:Str} {pos pos' tpos:Pos} {ta tv:TE}
theorem j27 (he:PE X e ta) (hb:attributeBase e f X.env (eval e X.env)=eval e X.env):PE X (.Attribute e f pos) (tFld X.K ta f):=by intro pins s Z H Q I h;refine w6j hb (thn (he pins s Z H _ I h) fun u s1 ⟨x,H1,I1,rx,a,C,dx,fs,v,ex,ea,c,n,l,q⟩=>?_);subst ex;obtain rfl:u=Value.ref a:=rx;exact k4x I1 ea c n l fun u' s2 I2 ru=>⟨v,H1,I2,ru,q⟩
theorem k3k (ha:PE X o ta) (hv:PE X value tv) (hs:swapsWith value (some (.Attribute o f pos')) pos.line X.env=pure false):PS X (.Assign [.Attribute o f pos'] value pos) (sFld X.K ta tv f):=by intro pins s Z H D I h;refine plainObj_wpAny_Assign_Attribute (thn (hv pins s Z H _ I h) fun u s1 ⟨y,H1,I1,ry,q⟩=>thn (ha pins s1 Z H1 _ I1 q) fun ov s2 ⟨x,H2,I2,rx,a,C,dx,fs,ex,ea,c,n,l,q2⟩=>?_) hs;subst ex;obtain rfl:ov=Value.ref a:=rx;exact k4e I2 ea c n l ry fun s3 I3=>⟨Z,_,I3,q2⟩
end
section
variable {X:Cx} {pins:List (Addr×Obj)} {Z:St} {H:Hp} {s:Shared} {A:Around} {E:Value->Shared->Prop} {Q:Value->Shared->Prop} {c:Value} {b:Bool}
inductive TyOf (K:PySem.W.Frag) (H:Hp):V->Value->Prop where
 | non:TyOf K H .non (.type "NoneType")
 | bl (x:Bool):TyOf K H (.bl x) (.type "bool")
 | int (i:Int):TyOf K H (.int i) (.type "int")
 | str (x:Str):TyOf K H (.str x) (.type "str")
 | flt (x:UInt64):TyOf K H (.flt x) (.type "float")
 | lst {a:Addr} {xs:List V} (e:H a=some (.lst xs)):TyOf K H (.ref a) (.type "list")
 | frz {a:Addr} {o:Obj} {xs:List V} (e:H a=some (.frz o (.lst xs))):TyOf K H (.ref a) (.type "list")
 | tup {a:Addr} {xs:List V} (e:H a=some (.tup xs)):TyOf K H (.ref a) (.type "tuple")
 | dK {a:Addr} {kvs:List (Key×V)} (e:H a=some (.dK kvs)):TyOf K H (.ref a) (.type "dict")
 | dT {a:Addr} {kvs:List (List Key×V)} (e:H a=some (.dT kvs)):TyOf K H (.ref a) (.type "dict")
 | ins {a C dx:Addr} {fs:List (Str×V)} (e:H a=some (.ins C dx fs)) (cl:Cls K C) (ha:PySem.W.findIn K (.ref C) "__class__"=some (some (.builtin "object.__class__")))
   (hn:PySem.W.specialIn K (.builtin "object.__class__") "__get__"=some (some (.builtin "getset_descriptor.__get__"))) (htk:PySem.W.takesIn K (.builtin "object.__class__")=some true)
   (hm:PySem.W.mroIn K C (.type "object")=some true):TyOf K H (.ref a) (.ref C)
theorem k8d {x:V} {u t:Value} (I:Inv X pins Z H s) (rx:RelV x u) (ty:TyOf X.K H x t) (e:PySem.W.kitOne X.K t c=some b) (h:∀ tk,Q (.bool b) { s with toks:=tk}) :
  wpAny (model X.prog X.w) A (call (.builtin "isinstance") [u,c]) Q E s:=by
 cases ty with
 | non=>cases (show u=Value.none from rx);exact PySem.W.kia_one PySem.W.kitx_none I.kIn True.intro e (fun z=>nomatch z) h
 | bl y=>cases (show u=Value.bool y from rx);exact PySem.W.kia_one PySem.W.kitx_bool I.kIn True.intro e (fun z=>nomatch z) h
 | int i=>obtain ⟨t,q⟩:=(show ∃ t,u=Value.int i t from rx);cases q;exact PySem.W.kia_one PySem.W.kitx_int I.kIn True.intro e (fun z=>nomatch z) h
 | str y=>obtain ⟨t,q⟩:=(show ∃ t,u=Value.str y t from rx);cases q;exact PySem.W.kia_one PySem.W.kitx_str I.kIn True.intro e (fun z=>nomatch z) h
 | flt y=>obtain ⟨t,q⟩:=(show ∃ t,u=Value.float y t from rx);cases q;exact PySem.W.kia_one PySem.W.kitx_float I.kIn True.intro e (fun z=>nomatch z) h
 | @lst a xs ea =>
  cases (show u=Value.ref a from rx);obtain ⟨_,_,n,_,h1⟩:=(show ObjOk X.prog X.w H s.heap a (.lst xs) from I.hok a _ ea);exact PySem.W.kia_one PySem.W.kitx_list I.kIn ⟨_,h1,rfl⟩ e (fun z=>nomatch z) h
 | @frz a ob xs ea =>
  cases (show u=Value.ref a from rx);obtain ⟨_,_,_,n,_,h1⟩:=(show ObjOk X.prog X.w H s.heap a (.frz ob (.lst xs)) from I.hok a _ ea);exact PySem.W.kia_one PySem.W.kitx_list I.kIn ⟨_,h1,rfl⟩ e (fun z=>nomatch z) h
 | @tup a xs ea =>
  cases (show u=Value.ref a from rx);obtain ⟨_,_,_,p⟩:=(show ObjOk X.prog X.w H s.heap a (.tup xs) from I.hok a _ ea);obtain ⟨o,h1,h2,_⟩:=p;exact PySem.W.kia_one PySem.W.kitx_tuple I.kIn ⟨o,h1,h2⟩ e (fun z=>nomatch z) h
 | @dK a kvs ea =>
  cases (show u=Value.ref a from rx);obtain ⟨_,_,vs,_,p⟩:=(show ObjOk X.prog X.w H s.heap a (.dK kvs) from I.hok a _ ea);obtain ⟨o,es,ep,h1,h2,_⟩:=p;exact PySem.W.kia_one PySem.W.kitx_dict I.kIn ⟨o,h1,h2.1⟩ e (fun z=>nomatch z) h
 | @dT a kvs ea =>
  cases (show u=Value.ref a from rx);obtain ⟨_,_,xs,_,o,es,ep,h1,h2,_⟩:=(show ObjOk X.prog X.w H s.heap a (.dT kvs) from I.hok a _ ea);exact PySem.W.kia_one PySem.W.kitx_dict I.kIn ⟨o,h1,h2.1⟩ e (fun z=>nomatch z) h
 | @ins a C dx fs ea cl ha hn htk hm =>
  cases (show u=Value.ref a from rx);obtain ⟨mA,O,_⟩:=j9l I.hok ea;obtain ⟨od,J,_⟩:=O.look;exact PySem.W.kia_one (PySem.W.kitx_own (cl.get _) cl.hd ha hn htk hm) I.kIn J e (fun z=>nomatch z) h
end
end L2
namespace L2
open PySem PySem.Spec PyProof.Rows
structure Room (k:Nat) (A:Around):Prop where
 hd:A.handled=none
 dp:A.depth + 3 * k + 5 < recursionLimit
 un:A.units + 16 * k + 200 < cLine
theorem Room.mono {j k:Nat} {A:Around} (r:Room k A) (h:j<=k):Room j A:=⟨r.hd,by have:=r.dp;omega,by have:=r.un;omega⟩
theorem Room.deeper {k:Nat} {A:Around} (r:Room (k + 1) A) (env:Env):Room k (A.deeper env) :=
 ⟨r.hd,by have:=r.dp;show A.depth + 1 + 3 * k + 5 < _;omega,by have:=r.un;show A.units + 3 + 16 * k + 200 < _;omega⟩
theorem k4t {A:Around} {C:Addr} {us:List Value} {kw:List (Str×Value)}:(A.under (.builtin "type.__call__" ⟨.ref C :: us,kw⟩)).depth=A.depth + 1:=by
 first | rfl | simp [Around.under,Code.weight,Code.isCreation,Code.isGuard,Code.isCaller,Code.frames,Code.isFrame,guardIds]
theorem k4s {A:Around} {C:Addr} {us:List Value} {kw:List (Str×Value)}:(A.under (.builtin "type.__call__" ⟨.ref C :: us,kw⟩)).units=A.units + 1:=by
 first | rfl | simp [Around.under,Code.cUnits,Code.frames,Code.isFrame]
theorem Room.make {k:Nat} {A:Around} (r:Room (k + 1) A) (C:Addr) (us:List Value) (kw:List (Str×Value)):Room k (A.under (.builtin "type.__call__" ⟨.ref C :: us,kw⟩)) :=
 ⟨r.hd,by have:=r.dp;rw [k4t];omega,by have:=r.un;rw [k4s];omega⟩
theorem Room.depth {k:Nat} {A:Around} (r:Room k A):A.depth < recursionLimit:=by have:=r.dp;omega
theorem Room.units {k:Nat} {A:Around} (r:Room k A):A.units + 64 < cLine:=by have:=r.un;omega
def tNil:TA:=fun _ H Q=>Q [] H
def w7b (ta:TE) (tr:TA):TA:=fun Z H Q=>ta Z H fun x H1=>tr Z H1 fun xs H2=>Q (x :: xs) H2
section
variable {X:Cx} {e:Expr} {es:List Expr} {te:TE} {t:TA} {pos:Pos}
theorem j02:PA X [] tNil:=fun _ _ _ _ H Q I h=>Calls.spliced_nil ⟨[],H,I,.nil,h⟩
theorem j0k (ha:PE X e te) (hr:PA X es t) (hs:starEach (e :: es) X.env=(false,eval e X.env) :: starEach es X.env:=by rfl):PA X (e :: es) (w7b te t):=by intro pos pins s Z H Q I h;rw [hs];show wpAny _ _ (spliced ((false,eval e X.env) :: backTo pos (starEach es X.env))) _ _ s;refine Calls.spliced_cons (thn (ha pins s Z H _ I h) fun u s1 ⟨x,H1,I1,r1,q1⟩=>?_);exact thn (hr pos pins s1 Z H1 _ I1 q1) fun us s2 ⟨xs,H2,I2,r2,q2⟩=>⟨x :: xs,H2,I2,.cons r1 r2,q2⟩
def tTup (t:TA):TE:=fun Z H Q=>t Z H fun xs H1=>xs.length<=sizeLine/\∀ p,H1 p=none->Q (.ref p) (upd H1 p (.tup xs))
def tLst (t:TA):TE:=fun Z H Q=>t Z H fun xs H1=>xs.length<=sizeLine/\∀ p,H1 p=none->Q (.ref p) (upd H1 p (.lst xs))
theorem k62 {x1} (h:PA X es t):PE X (.Tuple es x1 pos) (tTup t):=by intro pins s Z H Q I hq;refine wpAny_Tuple_spliced (thn (h pos pins s Z H _ I hq) fun us s1 ⟨xs,H1,I1,r,z,q⟩=>⟨by rw [<- r.length];exact z,?_⟩);have hf:H1 s1.heap.objs.size=none:=I1.hok.fresh (Nat.le_refl _);refine ⟨.ref s1.heap.objs.size,upd H1 s1.heap.objs.size (.tup xs),I1.laid (t':=s1.toks) (fun b u e=>Heap.get?_push_of_some _ e) (Nat.le_refl _) ?_,rfl,q _ hf⟩;exact ⟨z,us,r,⟨_,Heap.get?_push_size _ rfl,rfl,_,rfl⟩⟩
theorem w2n (h:PA X es t):PE X (.List es pos) (tLst t):=by intro pins s Z H Q I hq;refine wpAny_List_spliced (thn (h pos pins s Z H _ I hq) fun us s1 ⟨xs,H1,I1,r,z,q⟩=>⟨by rw [<- r.length];exact z,?_⟩);have hf:H1 s1.heap.objs.size=none:=I1.hok.fresh (Nat.le_refl _);refine ⟨.ref s1.heap.objs.size,upd H1 s1.heap.objs.size (.lst xs),I1.laid (t':=s1.toks) (fun b u e=>Heap.get?_push_of_some _ e) (Nat.le_refl _) ?_,rfl,q _ hf⟩;exact ⟨z,us,0,r,Heap.get?_push_size _ rfl⟩
end
abbrev Sp:=List V->Hp->VK->XK->Prop
abbrev CXT:=List Env->Hp->Shared->XK->Value->Shared->Prop
structure Env0 (P:Program) (w:World) (K:PySem.W.Frag) (mg:Str->Option Value) (base:Heap) (A:Around) (outer:List Env) (s:Shared) (H:Hp):Prop where
 frames:A.frames=some outer
 mod:Mod K mg base
 bs:∀ b o,base.get? b=some o->s.heap.get? b=some o/\H b=none
 bsz:base.objs.size<=s.heap.objs.size
 funs:s.heap.FunFrames base outer
 frf:∀ b∈frs outer,H b=none
 hok:HOk P w H s.heap
 bare:AllBare s.gens
def CE (outer:List Env) (P:Program) (w:World) (H:Hp) (s:Shared) (Q:VK) (u:Value) (s':Shared):Prop :=
 ∃ v H',s'.os=s.os/\AllBare s'.gens/\Un (frs outer) [] H H' s.heap s'.heap/\HOk P w H' s'.heap/\RelV v u/\Q v H'
def CR (CX:CXT) (outer:List Env) (P:Program) (w:World) (H:Hp) (s:Shared) (Q:VK) (E:XK) (r:Result) (s':Shared):Prop :=
 match r with
 | .ok (.ret u)=>CE outer P w H s Q u s'
 | .ok _=>False
 | .error e=>CX outer H s E e s'
structure FnOk (P:Program) (w:World) (K:PySem.W.Frag) (mg:Str->Option Value) (base:Heap) (CX:CXT) (k:Nat) (f:Addr) (fd:FuncData) (ps:List Str) (sp:Sp):Prop where
 len:∀ vs H Q E,sp vs H Q E->vs.length=ps.length
 run:∀ (A:Around) (outer:List Env) (s:Shared) (H:Hp) (args:Args) (us:List Value) (vs:List V) (Q:VK) (E:XK),Room k A->Env0 P w K mg base A outer s H->BindsTo s fd args (ps.zip us)->Vals vs us->sp vs H Q E ->
  codeAny (model P w) A (.call (.ref f) args) (CR CX outer P w H s Q E) s
theorem FnOk.mono {P:Program} {w:World} {K:PySem.W.Frag} {mg:Str->Option Value} {base:Heap} {CX:CXT} {j k:Nat} {f:Addr} {fd:FuncData} {ps:List Str} {sp:Sp} (F:FnOk P w K mg base CX j f fd ps sp) (h:j<=k) :
  FnOk P w K mg base CX k f fd ps sp:=⟨F.len,fun A outer s H args us vs Q E hr=>F.run A outer s H args us vs Q E (hr.mono h)⟩
theorem FnOk.imp {P:Program} {w:World} {K:PySem.W.Frag} {mg:Str->Option Value} {base:Heap} {CX:CXT} {k:Nat} {f:Addr} {fd:FuncData} {ps:List Str} {sp sp':Sp} (F:FnOk P w K mg base CX k f fd ps sp)
  (h:∀ vs H Q E,sp' vs H Q E->sp vs H Q E):FnOk P w K mg base CX k f fd ps sp' :=
 ⟨fun vs H Q E q=>F.len vs H Q E (h _ _ _ _ q),fun A outer s H args us vs Q E hr he hb hv hs=>F.run A outer s H args us vs Q E hr he hb hv (h _ _ _ _ hs)⟩
theorem Env0.make {P:Program} {w:World} {K:PySem.W.Frag} {mg:Str->Option Value} {base:Heap} {A:Around} {outer:List Env} {s:Shared} {H:Hp} (e:Env0 P w K mg base A outer s H) (C:Addr) (us:List Value) (kw:List (Str×Value)) :
  Env0 P w K mg base (A.under (.builtin "type.__call__" ⟨.ref C :: us,kw⟩)) outer s H:=⟨by first | exact e.frames | (simpa [Around.under,Code.envs,Code.isFrame,pushEnvs] using e.frames),e.mod,e.bs,e.bsz,e.funs,e.frf,e.hok,e.bare⟩
section
variable {X:Cx} {pins:List (Addr×Obj)} {Z:St} {H:Hp} {s s':Shared}
theorem Inv.env0 (I:Inv X pins Z H s):Env0 X.prog X.w X.K X.mg X.base X.A X.stack s H :=
 ⟨I.ok.frames,I.ok.mod,I.bs,Nat.le_trans I.ok.bsz I.sz,I.stack,I.stkFree,I.hok,I.bare⟩
theorem Inv.after {Q:VK} {u:Value} (I:Inv X pins Z H s) (h:CE X.stack X.prog X.w H s Q u s'):EP X pins Z Q u s':=by obtain ⟨v,H',os,bare,un,hok,r,q⟩:=h;obtain ⟨hh,g,d,t,os'⟩:=s';obtain rfl:os'=s.os:=os;exact ⟨v,H',I.call (h':=hh) (g':=g) (d':=d) (t':=t) (ch:=[]) un hok bare (fun b z=>absurd z (by simp)),r,q⟩
end
def w9z (sp:Sp) (dvs:List V) (E:XK) (t:TA):TE:=fun Z H Q=>t Z H fun vs H1=>sp (vs++dvs) H1 Q E
def k91 (C:Addr) (m:Str) (sp:Sp) (dvs:List V) (E:XK) (ta:TE) (t:TA):TE:=fun Z H Q=>ta Z H fun x H1=>∃ a dx fs,x=.ref a/\H1 a=some (.ins C dx fs)/\fs.lookup m=none /\
 t Z H1 fun vs H2=>sp (x :: (vs++dvs)) H2 Q E
def w9w (C:Addr) (sp:Sp) (dvs:List V) (E:XK) (t:TA):TE:=fun Z H Q=>t Z H fun vs H1=>∀ x dx,H1 x=none->H1 dx=none->dx≠x ->
 sp (.ref x :: (vs++dvs)) (upd (upd H1 dx (.own x)) x (.ins C dx [])) (fun v H2=>v=.non/\Q (.ref x) H2) E
def Binds (K:PySem.W.Frag) (fd:FuncData) (ps:List Str) (ds:List Value):Prop :=
 ∀ (s:Shared) (us:List Value),K.In s.heap->(us++ds).length=ps.length->BindsTo s fd ⟨us,[]⟩ (ps.zip (us++ds))
theorem Binds.all {K:PySem.W.Frag} {fd:FuncData} {ps:List Str} (h:∀ us:List Value,us.length=ps.length->bindArgs fd ⟨us,[]⟩=pure (ps.zip us)):Binds K fd ps []:=fun s us _ hl=>by rw [List.append_nil] at hl ⊢;exact .of_eq (h us hl)
def j2u (CX:CXT) (X:Cx) (E:XK):Prop:=∀ (pins:List (Addr×Obj)) (Z:St) (H:Hp) (s:Shared) (e:Value) (s':Shared),Inv X pins Z H s->CX X.stack H s E e s'->X.xe e s'
section
variable {X:Cx} {CX:CXT} {k:Nat} {f C:Addr} {fd:FuncData} {ps:List Str} {sp:Sp} {dvs:List V} {ds:List Value} {E:XK} {x m:Str} {p pos apos:Pos} {e o:Expr} {es:List Expr} {ta:TE} {t:TA}
theorem k6l {pins:List (Addr×Obj)} {Z:St} {H:Hp} {s:Shared} {Q:VK} {us:List Value} {vs:List V} (F:FnOk X.prog X.w X.K X.mg X.base CX k f fd ps sp) (hr:Room k X.A) (hb:Binds X.K fd ps ds) (hd:Vals dvs ds) (hx:j2u CX X E)
  (I:Inv X pins Z H s) (r:Vals vs us) (h:sp (vs++dvs) H Q E):wpAny (model X.prog X.w) X.A (call (.ref f) us) (EP X pins Z Q) X.xe s:=by
 have r2:Vals (vs++dvs) (us++ds):=r.append hd;have hl:(us++ds).length=ps.length:=by rw [<- r2.length];exact F.len _ _ _ _ h
 refine wpAny_call (codeAny_mono (F.run X.A X.stack s H ⟨us,[]⟩ (us++ds) (vs++dvs) Q E hr I.env0 (hb s us I.kIn hl) r2 h) fun r s' hq=>?_)
 cases r with
 | error e=>exact hx pins Z H s e s' I hq
 | ok fl =>
  cases fl with
  | ret u=>exact I.after hq
  | next=>exact False.elim hq
  | brk=>exact False.elim hq
  | cont=>exact False.elim hq
theorem w4y (F:FnOk X.prog X.w X.K X.mg X.base CX k f fd ps sp) (hr:Room k X.A) (hg:Gl X x) (hm:X.mg x=some (.ref f)) (hk:PySem.W.keepIn X.K (.ref f)=true) (hb:Binds X.K fd ps ds) (hd:Vals dvs ds) (hx:j2u CX X E)
  (ha:PA X (e :: es) t) (hdb:(x == ("__debug__":Str))=false:=by decide) (he:starEach (e :: es) X.env=(false,eval e X.env) :: starEach es X.env:=by rfl) (hpl:(backTo pos (starEach es X.env)).any (·.1)=false:=by rfl) :
  PE X (.Call (.Name x p) (e :: es) [] pos) (w9z sp dvs E t):=by
 intro pins s Z H Q I h;refine wpAny_Call_Name_kw (j9k I hg hm ?_ hdb);refine PySem.W.callWith_K (h₀:=X.base) I.ok.mod.kin hk (thn (ha pos pins s Z H _ I h) fun us s1 ⟨vs,H1,I1,r,q⟩=>⟨I1.kIn,?_⟩) he hpl;exact k6l F hr hb hd hx I1 r q
theorem w4w {pl:Sem Bool} (he:PE X o ta) (c:Cls X.K C) (hm:Meth X.K C m f) (F:FnOk X.prog X.w X.K X.mg X.base CX k f fd ps sp) (hr:Room k X.A) (hb:Binds X.K fd ps ds) (hd:Vals dvs ds) (hx:j2u CX X E) (ha:PA X (e :: es) t)
  (hst:starEach (e :: es) X.env=(false,eval e X.env) :: starEach es X.env:=by rfl) (hpl:(backTo pos (starEach es X.env)).any (·.1)=false:=by rfl)
  (ht:eval (.Call (.Attribute o m apos) (e :: es) [] pos) X.env=(do
   let ov <- eval o X.env
   standAt apos.atName
   let (f,first) <- holding [ov] (getMethod ov m pl)
   callWith pos f first (backTo pos (starEach (e :: es) X.env)) (backToKw pos (keywordEach [] X.env))):=by rfl) :
  PE X (.Call (.Attribute o m apos) (e :: es) [] pos) (k91 C m sp dvs E ta t):=by
 intro pins s Z H Q I h;refine PySem.W.methodCall_KW (pl:=pl) (thn (he pins s Z H _ I h) fun u s1 ⟨x,H1,I1,rx,a,dx,fs,ex,ea,l,q⟩=>?_) ht;subst ex;obtain rfl:u=Value.ref a:=rx;refine j77 I1 ea c hm l ?_;refine PySem.W.callWith_K (first:=[.ref a]) (h₀:=X.base) I.ok.mod.kin hm.kp (thn (ha pos pins s1 Z H1 _ I1 q) fun us s2 ⟨vs,H2,I2,r,q2⟩=>⟨I2.kIn,?_⟩) hst hpl
 exact k6l (us:=.ref a :: us) (vs:=.ref a :: vs) F hr hb hd hx I2 (.cons rfl r) q2
theorem w0p {pl:Sem Bool} (he:PE X o ta) (c:Cls X.K C) (hm:Meth X.K C m f) (F:FnOk X.prog X.w X.K X.mg X.base CX k f fd ps sp) (hr:Room k X.A) (hb:Binds X.K fd ps ds) (hd:Vals dvs ds) (hx:j2u CX X E)
  (ht:eval (.Call (.Attribute o m apos) [] [] pos) X.env=(do
   let ov <- eval o X.env
   standAt apos.atName
   let (f,first) <- holding [ov] (getMethod ov m pl)
   callWith pos f first (backTo pos (starEach [] X.env)) (backToKw pos (keywordEach [] X.env))):=by rfl) :
  PE X (.Call (.Attribute o m apos) [] [] pos) (k91 C m sp dvs E ta tNil):=by
 intro pins s Z H Q I h;refine PySem.W.methodCall_KW (pl:=pl) (thn (he pins s Z H _ I h) fun u s1 ⟨x,H1,I1,rx,a,dx,fs,ex,ea,l,q⟩=>?_) ht;subst ex;obtain rfl:u=Value.ref a:=rx;refine j77 I1 ea c hm l ?_;exact PySem.W.callWith_K0 (first:=[.ref a]) I1.kIn hm.kp (k6l (us:=[.ref a]) (vs:=[.ref a]) F hr hb hd hx I1 (.cons rfl .nil) q)
structure Mk (K:PySem.W.Frag) (C f:Addr):Prop where
 makes:PySem.W.makesIn K C=true
 init:PySem.W.findIn K (.ref C) "__init__"=some (some (.ref f))
 fn:PySem.W.isFn K (.ref f)=true
 kp:PySem.W.keepIn K (.ref C)=true
theorem w0d {pins:List (Addr×Obj)} {Z:St} {H:Hp} {s:Shared} {Q:VK} {us:List Value} {vs:List V} (M:Mk X.K C f) (F:FnOk X.prog X.w X.K X.mg X.base CX k f fd ps sp) (hr:Room (k + 1) X.A) (hb:Binds X.K fd ps ds) (hd:Vals dvs ds)
  (hx:j2u CX X E) (I:Inv X pins Z H s) (r:Vals vs us)
  (h:∀ x dx,H x=none->H dx=none->dx≠x->sp (.ref x :: (vs++dvs)) (upd (upd H dx (.own x)) x (.ins C dx [])) (fun v H2=>v=.non/\Q (.ref x) H2) E) :
  wpAny (model X.prog X.w) X.A (call (.ref C) us) (EP X pins Z Q) X.xe s:=by
 have hq:=h (s.heap.objs.size + 1) s.heap.objs.size (I.hok.fresh (Nat.le_succ _)) (I.hok.fresh (Nat.le_refl _)) (Nat.ne_of_lt (Nat.lt_succ_self _));have I2:=Inv.made (C:=C) I;have r2:Vals (V.ref (s.heap.objs.size + 1) :: (vs++dvs)) (Value.ref (s.heap.objs.size + 1) :: (us++ds)):=.cons rfl (r.append hd)
 have hl:(Value.ref (s.heap.objs.size + 1) :: us++ds).length=ps.length:=by have e:=r2.length;rw [F.len _ _ _ _ hq] at e;exact e.symm
 refine wpAny_call (w1d (f:=f) I.kIn M.makes M.init (beq_iff_eq.mp M.fn) (codeAny_mono (F.run _ X.stack _ _ ⟨Value.ref (s.heap.objs.size + 1) :: us,[]⟩ (Value.ref (s.heap.objs.size + 1) :: (us++ds)) _ _ E (hr.make C us [])
  (I2.env0.make C us []) (hb _ (Value.ref (s.heap.objs.size + 1) :: us) I2.kIn hl) r2 hq) fun r s' hq'=>?_))
 cases r with
 | error e=>exact hx pins Z _ _ e s' I2 hq'
 | ok fl =>
  cases fl with
  | ret u =>
   obtain ⟨v,H',I3,rv,ev,q3⟩:=I2.after hq';subst ev;exact ⟨rv,⟨V.ref (s.heap.objs.size + 1),H',I3,rfl,q3⟩⟩
  | next=>exact False.elim hq'
  | brk=>exact False.elim hq'
  | cont=>exact False.elim hq'
theorem w0q (M:Mk X.K C f) (F:FnOk X.prog X.w X.K X.mg X.base CX k f fd ps sp) (hr:Room (k + 1) X.A) (hg:Gl X x) (hm:X.mg x=some (.ref C)) (hb:Binds X.K fd ps ds) (hd:Vals dvs ds) (hx:j2u CX X E)
  (hdb:(x == ("__debug__":Str))=false:=by decide):PE X (.Call (.Name x p) [] [] pos) (w9w C sp dvs E tNil):=by
 intro pins s Z H Q I h;refine wpAny_Call_Name_kw (j9k I hg hm ?_ hdb);exact PySem.W.callWith_K0 I.kIn M.kp (w0d (us:=[]) M F hr hb hd hx I .nil h)
end
def PK (X:Cx) (kws:List Keyword) (t:TA):Prop :=
 ∀ (pos:Pos) (pins:List (Addr×Obj)) (s:Shared) (Z:St) (H:Hp) (Q:List V->Hp->Prop),Inv X pins Z H s->t Z H Q->wpAny (model X.prog X.w) X.A (evalAll ((backToKw pos (keywordEach kws X.env)).map (·.2))) (AP X pins Z Q) X.xe s
structure FnScope (N P:List Str) (sc:Scope):Prop where
 kind:sc.kind=.function
 co:sc.isCoroutine=false
 gen:sc.isGenerator=false
 nd:N.Nodup
 pre:N.take P.length=P
 par:∀ x∈P,sc.names.lookup x=some .local\/sc.names.lookup x=some .cell
 nofree:∀ y∈sc.names,y.2≠.free
theorem k07 {kindOf:Str->Option NameKind} {x:Str}:∀ {binds:List (Str×Value)} {m:Str->Option Value},(∀ v,(x,v)∉binds)->bindL kindOf binds m x=m x
 | [],_,_=>rfl
 | (n,v) :: r,m,h=>by
  unfold bindL;rw [k07 fun w hw=>h w (List.mem_cons_of_mem _ hw)];split
  ·have:x≠n:=by rintro rfl;exact h v List.mem_cons_self
   simp [this]
  ·rfl
theorem k09 {kindOf:Str->Option NameKind} {x:Str}:∀ {binds:List (Str×Value)} {m:Str->Option Value},(∀ v,(x,v)∉binds)->bindC kindOf binds m x=m x
 | [],_,_=>rfl
 | (n,v) :: r,m,h=>by
  unfold bindC;rw [k09 fun w hw=>h w (List.mem_cons_of_mem _ hw)];split
  ·rfl
  ·have:x≠n:=by rintro rfl;exact h v List.mem_cons_self
   simp [this]
theorem k08 {kindOf:Str->Option NameKind} {x:Str} {v:Value}:∀ {P:List Str} {vs:List Value} {i:Nat} {m:Str->Option Value},P.Nodup->P[i]?=some x->vs[i]?=some v->kindOf x=some .local ->
  bindL kindOf (P.zip vs) m x=some v
 | [],_,_,_,_,h,_,_=>by simp at h
 | _ :: _,[],_,_,_,_,h,_=>by simp at h
 | p :: P,w :: vs,0,m,nd,h1,h2,hk=>by
  simp at h1 h2;subst h1;subst h2;show bindL kindOf ((p,w) :: P.zip vs) m p=_;unfold bindL;rw [k07 fun v hv=>(List.nodup_cons.mp nd).1 (List.of_mem_zip hv).1,if_pos hk];simp
 | p :: P,w :: vs,i + 1,m,nd,h1,h2,hk=>by show bindL kindOf ((p,w) :: P.zip vs) m x=_;unfold bindL;exact k08 (i:=i) (List.nodup_cons.mp nd).2 (by simpa using h1) (by simpa using h2) hk
theorem k1a {kindOf:Str->Option NameKind} {x:Str} {v:Value}:∀ {P:List Str} {vs:List Value} {i:Nat} {m:Str->Option Value},P.Nodup->P[i]?=some x->vs[i]?=some v->kindOf x≠some .local ->
  bindC kindOf (P.zip vs) m x=some v
 | [],_,_,_,_,h,_,_=>by simp at h
 | _ :: _,[],_,_,_,_,h,_=>by simp at h
 | p :: P,w :: vs,0,m,nd,h1,h2,hk=>by
  simp at h1 h2;subst h1;subst h2;show bindC kindOf ((p,w) :: P.zip vs) m p=_;unfold bindC;rw [k09 fun v hv=>(List.nodup_cons.mp nd).1 (List.of_mem_zip hv).1,if_neg hk];simp
 | p :: P,w :: vs,i + 1,m,nd,h1,h2,hk=>by show bindC kindOf ((p,w) :: P.zip vs) m x=_;unfold bindC;exact k1a (i:=i) (List.nodup_cons.mp nd).2 (by simpa using h1) (by simpa using h2) hk
def start (N:List Str) (vs:List V):St:=vs.map some++List.replicate (N.length - vs.length) none
def cxOf (CX:CXT) (P:Program) (w:World) (K:PySem.W.Frag) (mg:Str->Option Value) (base:Heap) (N:List Str) (qual:Str) (scope:Scope) (f:Addr) (cd:Value) (A:Around) (outer:List Env) (s:Shared) (H:Hp) (E:XK):Cx where
 prog:=P
 w:=w
 K:=K
 mg:=mg
 base:=base
 A:=A.deeper (envOfC qual scope s.heap.objs.size f cd)
 N:=N
 s₀:=s
 H₀:=H
 env:=envOfC qual scope s.heap.objs.size f cd
 outer:=outer
 stack:=envOfC qual scope s.heap.objs.size f cd :: outer
 ex:=[]
 calm:=true
 fn:=fun _=>true
 pn:=[]
 xe:=fun e s'=>wpAny (model P w) (A.deeper (envOfC qual scope s.heap.objs.size f cd)) (leaving (envOfC qual scope s.heap.objs.size f cd) e) (fun _ s''=>CX outer H s E e s'') (fun e' s''=>CX outer H s E e' s'') s'
theorem k35 {sc:Scope} {n:Nat} {x:Str} (h:sc.names.lookup x=some .cell):∃ c,(cellsFrom n sc.names []).lookup x=some c:=by have q:=PySem.W.cellsFrom_some sc.names n [] (.inl h);exact Option.isSome_iff_exists.mp q
theorem k8e {CX:CXT} {P:Program} {w:World} {K:PySem.W.Frag} {mg:Str->Option Value} {base:Heap} {N ps:List Str} {qual:Str} {scope:Scope} {f:Addr} {cd:Value} {A:Around} {outer:List Env} {s s1:Shared} {H:Hp} {E:XK} {us:List Value} {vs:List V}
  (S:FnScope N ps scope) (hd:A.handled=none) (e0:Env0 P w K mg base A outer s H) (hl:vs.length=ps.length) (r:Vals vs us)
  (x:InCallC s s.heap.objs.size (bindL (envOfC qual scope s.heap.objs.size f cd).kindOf (ps.zip us) fun _=>none) (cellsFrom (s.heap.objs.size + 1) scope.names []) (bindC (envOfC qual scope s.heap.objs.size f cd).kindOf (ps.zip us) fun _=>none) s1) :
  Inv (cxOf CX P w K mg base N qual scope f cd A outer s H E) [] (start N vs) H s1:=by
 have hpl:ps.length<=N.length:=by have:=congrArg List.length S.pre;rw [List.length_take] at this;omega
 obtain ⟨h1,tk,rfl,hk⟩:=x.done;have noA:∀ b:Addr,b∉(cxOf CX P w K mg base N qual scope f cd A outer s H E).ex:=fun b z=>absurd (show b∈([]:List Addr) from z) (by simp)
 refine ⟨⟨e0.mod,S.kind,rfl,rfl,Nat.le_refl _,fun y z c h1 h2=>?_,fun y hy=>?_,fun y c _ h=>?_,fun _=>hd,Around.frames_deeper e0.frames,.inr ⟨rfl,rfl⟩,fun b z=>absurd z (noA b),e0.bs,e0.bsz,fun b _ _=>noA b,fun b z=>absurd z (noA b),e0.funs,e0.frf⟩,
  rfl,e0.bare,Un.kept hk,⟨_,x.toInCall.ns,fun i y v h1 h2 h3=>?_⟩,fun y c h=>⟨_,x.cell y c h⟩,e0.hok.fresh (Nat.le_refl _),fun y c h=>?_,fun p hp=>absurd (show p∈([]:List (Addr×Obj)) from hp) (by simp),e0.hok.kept hk,?_⟩
 ·exact name_of_addr x.apart (PySem.mem_of_lookup h1) (PySem.mem_of_lookup h2)
 ·have hy:scope.names.lookup y=some .cell\/scope.names.lookup y=some .free:=hy;rcases hy with hy | hy
  ·exact k35 hy
  ·exact absurd rfl (S.nofree _ (PySem.mem_of_lookup hy))
 ·exact Nat.le_of_lt (x.above y c (PySem.mem_of_lookup h))
 ·have hi:i < vs.length:=by
   unfold start at h2;by_cases hi:i < vs.length
   ·exact hi
   ·rw [List.getElem?_append_right (by simpa using hi)] at h2;rw [List.getElem?_replicate] at h2;split at h2<;>cases h2
  have ha:vs[i]?=some v:=by
   unfold start at h2;rw [List.getElem?_append_left (by simpa using hi),List.getElem?_map] at h2
   cases e:vs[i]? with
   | none=>rw [e] at h2;cases h2
   | some a=>rw [e] at h2;cases h2;rfl
  obtain ⟨u,hu,rv⟩:=r.get ha
  have hp:ps[i]?=some y:=by rw [<- S.pre,List.getElem?_take_of_lt (by omega)];exact h1
  have ndP:ps.Nodup:=by rw [<- S.pre];exact S.nd.sublist (List.take_sublist _ _)
  refine ⟨u,rv,?_⟩;rcases S.par y (List.mem_of_getElem? hp) with k | k
  ·exact .inl ⟨k,k08 ndP hp hu k⟩
  ·obtain ⟨c,e⟩:=k35 (n:=s.heap.objs.size + 1) k;refine .inr ⟨.inl k,c,e,?_⟩;have q:=x.cell y c e;rw [k1a ndP hp hu (by show scope.names.lookup y≠_;rw [k];decide)] at q;exact q
 ·exact e0.hok.fresh (Nat.le_of_lt (x.above y c (PySem.mem_of_lookup h)))
 ·unfold start;show _=N.length;rw [List.length_append,List.length_map,List.length_replicate];omega
theorem k8n {CX:CXT} {P:Program} {w:World} {K:PySem.W.Frag} {mg:Str->Option Value} {base:Heap} {k:Nat} {f:Addr} {name qual:Str} {params:Arguments} {body:List Stmt} {scope:Scope} {dV kV doc pm cdv ct oc:Value} {an od:Option Addr}
  {osl:Array (Option Value)} {N ps:List Str} {sp:Sp} (lk:K.lookup f=some ⟨oc,od,.func (PySem.W.fnOf name qual params body scope dV kV doc pm an cdv ct),osl⟩) (hcd:PySem.W.codeIn K cdv qual=true) (S:FnScope N ps scope)
  (len:∀ vs H Q E,sp vs H Q E->vs.length=ps.length)
  (hbody:∀ (A:Around) (outer:List Env) (s:Shared) (H:Hp) (vs:List V) (Q:VK) (E:XK),Room k (A.deeper (envOfC qual scope s.heap.objs.size f cdv))->sp vs H Q E ->
   ∃ t,PSs (cxOf CX P w K mg base N qual scope f cdv A outer s H E) body t/\t { nx:=fun _ H'=>Q .non H',rt:=Q} (start N vs) H) :
  FnOk P w K mg base CX (k + 1) f (PySem.W.fnOf name qual params body scope dV kV doc pm an cdv ct) ps sp:=by
 refine ⟨len,fun A outer s H args us vs Q E hr e0 hb r hsp=>?_⟩;have hl:=len _ _ _ _ hsp;have KX:K.In s.heap:=e0.mod.kin.keeps fun b o e=>(e0.bs b o e).1;have lim:s.heap.NoLimit:=e0.mod.nolimit.keeps fun b o e=>(e0.bs b o e).1
 have hkind:∀ y∈ps.zip us,scope.names.lookup y.1=some .local\/(scope.names.lookup y.1=some .cell/\((cellsFrom (s.heap.objs.size + 1) scope.names []).lookup y.1).isSome=true):=fun ⟨n,v⟩ hy=>by
  rcases S.par n (List.of_mem_zip hy).1 with q | q
  ·exact .inl q
  ·exact .inr ⟨q,PySem.W.cellsFrom_some _ _ _ (.inl q)⟩
 refine codeAny_call_function hr.depth (KX _ _ lk) rfl S.co S.gen rfl (PySem.W.codeRec_of KX hcd) (hb _ _ _ _ ?_);refine wpAny_newFunctionEnv_cells S.kind hkind fun env he s1 x=>?_;subst he;refine ⟨lim.keeps x.toInCall.keep,codeAny_func ?_⟩;obtain ⟨t,ht,hq⟩:=hbody A outer s H vs Q E (hr.deeper _) hsp;have I:Inv (cxOf CX P w K mg base N qual scope f cdv A outer s H E) [] (start N vs) H s1:=k8e S hr.hd e0 hl r x;refine wpAny_mono (ht [] s1 (start N vs) H _ I hq) (fun fl s' hs=>?_) fun e s' hs=>hs
 have fin:∀ {Z':St} {H':Hp} {v:V} {u:Value},Inv (cxOf CX P w K mg base N qual scope f cdv A outer s H E) [] Z' H' s'->RelV v u->Q v H'->CE outer P w H s Q u s' :=
  fun {Z' H' v u} J rv q=>⟨v,H',J.os,J.bare,J.base,J.hok,rv,q⟩
 cases fl with
 | ret u =>
  obtain ⟨v,Z',H',J,rv,q⟩:=hs;exact fin J rv q
 | next =>
  obtain ⟨Z',H',J,q⟩:=hs;exact fin (v:=V.non) (u:=Value.none) J rfl q
 | brk =>
  obtain ⟨_,_,_,q⟩:=hs;exact False.elim q
 | cont =>
  obtain ⟨_,_,_,q⟩:=hs;exact False.elim q
end L2
namespace L2
open PySem PySem.Spec PyProof.Rows
section
variable {X:Cx} {x:Str} {p pos:Pos} {e:Expr} {es:List Expr} {t:TA} {id T:String} {r:List V->Hp->VK->Prop}
def tCB (r:List V->Hp->VK->Prop) (t:TA):TE:=fun Z H Q=>t Z H fun vs H1=>r vs H1 Q
theorem j1l (hc:j3l X (.builtin id) r) (hg:Gl X x) (hm:X.mg x=none) (hv:bootBuiltins x=some (.builtin id)) (ha:PA X (e :: es) t) (hn:x≠"__name__":=by decide) (hdb:(x == ("__debug__":Str))=false:=by decide)
  (he:starEach (e :: es) X.env=(false,eval e X.env) :: starEach es X.env:=by rfl) (hpl:(backTo pos (starEach es X.env)).any (·.1)=false:=by rfl):PE X (.Call (.Name x p) (e :: es) [] pos) (tCB r t):=by
 intro pins s Z H Q I h;refine wpAny_Call_Name_kw (j42 I hg hm hv ?_ hn hdb);exact PyProof.Rows.callWith_builtin1 (thn (ha pos pins s Z H _ I h) fun us s1 ⟨vs,H1,I1,r1,q1⟩=>hc pins s1 Z H1 vs us Q I1 r1 q1) he hpl
theorem j15 (hc:j3l X (.type T) r) (hg:Gl X x) (hm:X.mg x=none) (hv:bootBuiltins x=some (.type T)) (ha:PA X (e :: es) t) (hn:x≠"__name__":=by decide) (hdb:(x == ("__debug__":Str))=false:=by decide)
  (he:starEach (e :: es) X.env=(false,eval e X.env) :: starEach es X.env:=by rfl) (hpl:(backTo pos (starEach es X.env)).any (·.1)=false:=by rfl):PE X (.Call (.Name x p) (e :: es) [] pos) (tCB r t):=by
 intro pins s Z H Q I h;refine wpAny_Call_Name_kw (j42 I hg hm hv ?_ hn hdb);exact PyProof.Rows.callWith_type1 (thn (ha pos pins s Z H _ I h) fun us s1 ⟨vs,H1,I1,r1,q1⟩=>hc pins s1 Z H1 vs us Q I1 r1 q1) he hpl
theorem k4k (hc:j3l X (.type T) r) (hg:Gl X x) (hm:X.mg x=none) (hv:bootBuiltins x=some (.type T)) (hn:x≠"__name__":=by decide) (hdb:(x == ("__debug__":Str))=false:=by decide) :
  PE X (.Call (.Name x p) [] [] pos) (tCB r tNil):=by
 intro pins s Z H Q I h;refine wpAny_Call_Name_kw (j42 I hg hm hv ?_ hn hdb);exact PyProof.Rows.callWith_type0 (hc pins s Z H [] [] Q I .nil h)
end
end L2
namespace HT
open PySem PyProof.Rows
section
variable {prog:Program} {w:World} {A:Around} {E:Value->Shared->Prop} {s:Shared}
def sIx (n d:Nat):Option Int->Nat
 | none=>d
 | some v=>if v < 0 then (v + (n:Int)).toNat else min v.toNat n
theorem sIx_none (n d:Nat):sIx n d none=d:=rfl
theorem sIx_nat (n d k:Nat):sIx n d (some (k:Int))=min k n:=by show (if (k:Int) < 0 then ((k:Int) + (n:Int)).toNat else min (k:Int).toNat n)=min k n;rw [if_neg (by omega),Int.toNat_natCast]
theorem w7g (n d:Nat) (hd:d<=n) (o:Option Int):sIx n d o<=n:=by
 cases o with
 | none=>exact hd
 | some v =>
  show (if v < 0 then (v + (n:Int)).toNat else min v.toNat n)<=n;by_cases hv:v < 0
  ·rw [if_pos hv];omega
  ·rw [if_neg hv];exact Nat.min_le_right _ _
theorem k9c (v:Int) (n d:Nat):(if v < 0 then max (v + (n:Int)) 0 else min v (n:Int))=((sIx n d (some v):Nat):Int):=by
 show (if v < 0 then max (v + (n:Int)) 0 else min v (n:Int))=(((if v < 0 then (v + (n:Int)).toNat else min v.toNat n):Nat):Int);by_cases hv:v < 0
 ·simp only [if_pos hv];omega
 ·simp only [if_neg hv];omega
theorem k47 (lo hi:Option Int) (n:Nat):Builtin.Slice.sliceAdjust lo hi 1 (n:Int)=(((sIx n 0 lo:Nat):Int),((sIx n n hi:Nat):Int)):=by
 have h1:¬ ((1:Int) < 0):=by omega
 unfold Builtin.Slice.sliceAdjust;simp only [h1,if_false];refine Prod.ext ?_ ?_
 ·cases lo with
  | none=>rfl
  | some v=>exact k9c v n 0
 ·cases hi with
  | none=>rfl
  | some v=>exact k9c v n n
theorem k4j (i j:Nat):Builtin.Slice.slicePlaces (i:Int) (j:Int) 1=j - i:=by
 unfold Builtin.Slice.slicePlaces;have h1:(1:Int) > 0:=by omega
 simp only [h1,if_true,Int.ediv_one];split<;>omega
theorem j7w {v:Value} {o:Option Int} {Q:Option Int->Shared->Prop} (p:IsPart v o) (h:Q o s):wpAny (model prog w) A (Builtin.Slice.slicePartIndex v) Q E s:=by
 cases p with
 | none=>exact slicePart_none h
 | int i t=>exact slicePart_int h
theorem j3h {sl:Addr} {vl vu:Value} {lo hi:Option Int} {n:Nat} {Q:Int×Int×Nat->Shared->Prop} (hs:s.heap.IsSliceOf sl vl vu .none) (pl:IsPart vl lo) (pu:IsPart vu hi)
  (h:Q (((sIx n 0 lo:Nat):Int),1,sIx n n hi - sIx n 0 lo) s):wpAny (model prog w) A (Builtin.Slice.sliceApplied (.ref sl) (pure (n:Int))) Q E s:=by
 obtain ⟨os,hos,hcs,hds⟩:=id hs;unfold Builtin.Slice.sliceApplied Builtin.Slice.sliceFields;refine wB (wB (wpAny_field hos hds (x:=vl) rfl (wB (wpAny_field hos hds (x:=vu) rfl (wB (wpAny_field hos hds (x:=.none) rfl (wP ?_)))))));refine wB (slicePart_none ?_);show wpAny _ _ (if ((1:Int) == 0)=true then _ else _) _ _ s;rw [if_neg (by decide)];refine wB (j7w pl (wB (j7w pu (wB (wP ?_)))));show wpAny _ _ (match Builtin.Slice.sliceAdjust lo hi 1 (n:Int) with | (lo,hi)=>pure (lo,(1:Int),Builtin.Slice.slicePlaces lo hi 1)) _ _ s;rw [k47 lo hi n];show wpAny _ _ (pure (((sIx n 0 lo:Nat):Int),(1:Int),Builtin.Slice.slicePlaces ((sIx n 0 lo:Nat):Int) ((sIx n n hi:Nat):Int) 1)) _ _ s;rw [k4j];exact wP h
theorem w0o (xs:Array Value) (i k:Nat):((List.range k).filterMap fun (m:Nat)=>xs[((i:Int) + (m:Int) * 1).toNat]?).toArray=((xs.toList.drop i).take k).toArray:=by
 have e:(fun (m:Nat)=>xs[((i:Int) + (m:Int) * 1).toNat]?)=fun m=>xs[i + m]?:=by
  funext m
  have:((i:Int) + (m:Int) * 1).toNat=i + m:=by omega
  rw [this]
 rw [e];have:=pick_run xs i k;rw [List.filterMap_map] at this;have e2:((fun x=>xs[x]?)∘fun x=>i + x)=fun m=>xs[i + m]?:=rfl;rw [e2] at this;rw [this]
theorem getItem_tuple_cut {t sl:Addr} {items:Array Value} {vl vu:Value} {lo hi:Option Int} {Q:Value->Shared->Prop} (ht:IsTup s.heap t items) (hs:s.heap.IsSliceOf sl vl vu .none) (pl:IsPart vl lo) (pu:IsPart vu hi)
  (hw:¬ (sIx items.size 0 lo=0/\sIx items.size items.size hi=items.size))
  (h:Q (.ref s.heap.objs.size) { s with heap:=s.heap.push { cls:=.type "tuple",data:=.seq ((items.toList.drop (sIx items.size 0 lo)).take (sIx items.size items.size hi - sIx items.size 0 lo)).toArray}})
  (hsz:items.size<=sizeLine):wpAny (model prog w) A (getItem (.ref t) (.ref sl)) Q E s:=by
 have htake:sizeOk (.seq ((items.toList.drop (sIx items.size 0 lo)).take (sIx items.size items.size hi - sIx items.size 0 lo)).toArray):=by show ((items.toList.drop (sIx items.size 0 lo)).take (sIx items.size items.size hi - sIx items.size 0 lo)).toArray.size<=sizeLine;rw [List.size_toArray,List.length_take,List.length_drop,Array.length_toList];omega
 have hj:sIx items.size items.size hi<=items.size:=w7g _ _ (Nat.le_refl _) hi;obtain ⟨os,hos,hcs,hds⟩:=id hs;have hTs:s.TypeIs (.ref sl) "slice":=⟨os,hos,hcs⟩;unfold getItem
 try with_reducible refine wpAny_holding ?_
 first | refine wB (wP ?_) | skip
 refine wB (wpAny_sequenceKey ht.typeIs (by decide) ?_)
 refine wB (wpAny_callSpecial?_slot (name:=Str.ofString "__getitem__") ht.typeIs PyProof.Rows.slot_tuple_getitem
  (wpAny_call_entry PyProof.Rows.slot_tuple_getitem ht.typeIs entry_tuple_getitem ?_ (args_tuple_getitem _ _)))
 show wpAny _ _ (Builtin.Tuple.tupleItemsOf (.ref t) >>= _) _ _ s;refine wB (tupleItemsOf_ ht ?_);refine wB (wpAny_typeOf hTs ?_);rw [if_pos (by decide)];refine wB (j3h hs pl pu ?_)
 have hno:¬ ((((sIx items.size 0 lo:Nat):Int) == 0&&(1:Int) == 1&&(sIx items.size items.size hi - sIx items.size 0 lo) == items.size)=true):=by intro q;rw [Bool.and_eq_true,Bool.and_eq_true] at q;have q1:((sIx items.size 0 lo:Nat):Int)=0:=eq_of_beq q.1.1;have q2:sIx items.size items.size hi - sIx items.size 0 lo=items.size:=eq_of_beq q.2;exact hw ⟨by omega,by omega⟩
 show wpAny _ _ (if (((sIx items.size 0 lo:Nat):Int) == 0&&(1:Int) == 1&&(sIx items.size items.size hi - sIx items.size 0 lo) == items.size)=true then _ else _) _ _ s;rw [if_neg hno,w0o]
 first
  | exact wB (m:=Builtin.Tuple.tupleExact _) (wpAny_newObj_type (wP ⟨_,rfl,wP h⟩) htake)
  | exact wB (m:=Builtin.Tuple.tupleExact _) (wpAny_newObj_type (wB (wP (wP ⟨_,rfl,wP h⟩))) htake)
  | exact wB (wB (m:=Builtin.Tuple.tupleExact _) (wpAny_newObj_type (wP (wP ⟨_,rfl,wP h⟩)) htake))
  | exact wB (wB (m:=Builtin.Tuple.tupleExact _) (wpAny_newObj_type (wP ⟨_,rfl,wP h⟩) htake))
end
end HT
namespace L2
open PySem PySem.Spec PyProof.Rows
abbrev TO:=St->Hp->(Option Int->Hp->Prop)->Prop
def PO (X:Cx) (e:Option Expr) (t:TO):Prop :=
 ∀ (pins:List (Addr×Obj)) (s:Shared) (Z:St) (H:Hp) (Q:Option Int->Hp->Prop),Inv X pins Z H s->t Z H Q ->
  wpAny (model X.prog X.w) X.A (evalPart e X.env) (fun u s'=>∃ o H',Inv X pins Z H' s'/\IsPart u o/\Q o H') X.xe s
def w3k:TO:=fun _ H Q=>Q none H
def w9t (t:TE):TO:=fun Z H Q=>t Z H fun x H1=>∃ i,x=.int i/\Q (some i) H1
theorem k4w {ns:List Int}:∀ {us:List Value},Vals (ns.map V.int) us->IntsAre us ns:=by
 induction ns with
 | nil=>intro us r;rw [List.map_nil] at r;cases r;exact .nil
 | cons n ns ih =>
  intro us r;rw [List.map_cons] at r
  cases r with
  | cons r1 r2 =>
   obtain ⟨t,e⟩:=r1;subst e;exact .cons n t (ih r2)
section
variable {X:Cx} {e:Expr} {te:TE} {lo hi:Option Expr} {tl th:TO} {pos p2:Pos}
theorem j86:PO X none w3k:=by intro pins s Z H Q I h;rw [evalPart_none];exact wP ⟨none,H,I,.none,h⟩
theorem j85 (h:PE X e te):PO X (some e) (w9t te):=by intro pins s Z H Q I hw;rw [evalPart_some];refine thn (h pins s Z H _ I hw) fun u s1 ⟨x,H1,I1,r1,q1⟩=>?_;obtain ⟨i,rfl,q⟩:=q1;obtain ⟨t,rfl⟩:=r1;exact ⟨some i,H1,I1,.int i t,q⟩
def SlR (X:Cx) (r:V->Option Int->Option Int->Hp->VK->Prop):Prop :=
 ∀ (pins:List (Addr×Obj)) (s:Shared) (Z:St) (H:Hp) (x:V) (v vl vu:Value) (lo hi:Option Int) (sl:Addr) (Q:VK),Inv X pins Z H s->RelV x v->s.heap.IsSliceOf sl vl vu .none->IsPart vl lo->IsPart vu hi->r x lo hi H Q ->
  ∃ T id,typeLookup (.type T) "__getitem__"=pure (some (.builtin id))/\s.TypeIs v T/\wpAny (model X.prog X.w) X.A (getItem v (.ref sl)) (EP X pins Z Q) X.xe s
theorem SlR.or {r r':V->Option Int->Option Int->Hp->VK->Prop} (h:SlR X r) (h':SlR X r'):SlR X (fun x lo hi H Q=>r x lo hi H Q\/r' x lo hi H Q):=by
 intro pins s Z H x v vl vu lo hi sl Q I rx hs pl pu q;rcases q with q | q
 ·exact h pins s Z H x v vl vu lo hi sl Q I rx hs pl pu q
 ·exact h' pins s Z H x v vl vu lo hi sl Q I rx hs pl pu q
def tSl (r:V->Option Int->Option Int->Hp->VK->Prop) (te:TE) (tl th:TO):TE:=fun Z H Q=>te Z H fun x H1=>tl Z H1 fun l H2=>th Z H2 fun u H3=>r x l u H3 Q
theorem j4y {r:V->Option Int->Option Int->Hp->VK->Prop} (hr:SlR X r) (he:PE X e te) (hl:PO X lo tl) (hu:PO X hi th):PE X (.Subscript e (.Slice lo hi none p2) pos) (tSl r te tl th):=by intro pins s Z H Q I h;refine Subscript_ (thn (he pins s Z H _ I h) fun v s1 ⟨x,H1,I1,r1,q1⟩=>?_);refine wpAny_Slice (thn (hl pins s1 Z H1 _ I1 q1) fun vl s2 ⟨l,H2,I2,pl,q2⟩=>thn (hu pins s2 Z H2 _ I2 q2) fun vu s3 ⟨u,H3,I3,pu,q3⟩=>?_);rw [evalPart_none];refine wP ?_;have I4:Inv X pins Z H3 { s3 with heap:=s3.heap.push { cls:=.type "slice",data:=.fields #[vl,vu,.none]}}:=I3.kept (t':=s3.toks) fun b ob q=>Heap.get?_push_of_some _ q;obtain ⟨T,id,hT,ht,hg⟩:=hr pins { s3 with heap:=s3.heap.push { cls:=.type "slice",data:=.fields #[vl,vu,.none]}} Z H3 x v vl vu l u s3.heap.objs.size Q I4 r1 (Heap.IsSliceOf.new ..) pl pu q3;show wpAny (model X.prog X.w) X.A (subscriptTail e (.Slice lo hi none p2) v (.ref s3.heap.objs.size)) (EP X pins Z Q) X.xe { s3 with heap:=s3.heap.push { cls:=.type "slice",data:=.fields #[vl,vu,.none]}};exact tail_any (ops:=[.ref s3.heap.objs.size,v]) ht hT hg (by with_unfolding_all rfl)
def cutV (xs:List V) (lo hi:Option Int):List V:=(xs.drop (HT.sIx xs.length 0 lo)).take (HT.sIx xs.length xs.length hi - HT.sIx xs.length 0 lo)
theorem j7h (xs:List V) (lo hi:Option Int):(cutV xs lo hi).length<=xs.length:=by unfold cutV;rw [List.length_take,List.length_drop];omega
def rSlT (K:PySem.W.Frag):V->Option Int->Option Int->Hp->VK->Prop:=fun x lo hi H Q=>∃ a xs,x=.ref a/\SqT K H a xs /\
 ¬ (HT.sIx xs.length 0 lo=0/\HT.sIx xs.length xs.length hi=xs.length)/\∀ p,H p=none->Q (.ref p) (upd H p (.tup (cutV xs lo hi)))
theorem sl_tup:SlR X (rSlT X.K):=by
 intro pins s Z H x v vl vu lo hi sl Q I rx hs pl pu h;obtain ⟨a,xs,rfl,hx,hw,q⟩:=h;cases rx;obtain ⟨its,r,ht,hz⟩:=I.tuple hx;have hlen:its.toArray.size=xs.length:=by rw [List.size_toArray];exact r.length.symm
 refine ⟨"tuple",_,PyProof.Rows.slot_tuple_getitem.lookup,ht.typeIs,?_⟩;refine HT.getItem_tuple_cut ht hs pl pu (by rw [hlen];exact hw) ?_ (by rw [hlen];exact hz);rw [hlen];refine ⟨.ref s.heap.objs.size,_,I.laid (t':=s.toks) (o:=.tup (cutV xs lo hi)) (fun b ob q=>Heap.get?_push_of_some _ q) (Nat.le_refl _) ?_,rfl,q _ (I.hok.fresh (Nat.le_refl _))⟩;exact ⟨Nat.le_trans (j7h xs lo hi) hz,_,(r.drop (HT.sIx xs.length 0 lo)).take (HT.sIx xs.length xs.length hi - HT.sIx xs.length 0 lo),IsTup.new _ _⟩
end
end L2
namespace L2
open PySem PySem.Spec PyProof.Rows
def ixN (n:Nat) (i:Int):Option Nat:=if 0<=i then (if i < n then some i.toNat else none) else if -(n:Int)<=i then some (i + n).toNat else none
def atI {Y:Type} (xs:List Y) (i:Int):Option Y:=(ixN xs.length i).bind fun j=>xs[j]?
theorem k8c {n:Nat} {i:Int} {j:Nat} (h:ixN n i=some j):seqIndex? i n=some j/\j < n/\-(n:Int)<=i/\i < n:=by
 unfold ixN at h;by_cases h0:0<=i
 ·rw [if_pos h0] at h;by_cases h1:i < n
  ·rw [if_pos h1] at h;have e:i.toNat=j:=Option.some.inj h;exact ⟨by rw [seqIndex_of h0 h1,e],by omega,by omega,h1⟩
  ·rw [if_neg h1] at h;cases h
 ·rw [if_neg h0] at h;by_cases h1:-(n:Int)<=i
  ·rw [if_pos h1] at h;have e:(i + n).toNat=j:=Option.some.inj h;exact ⟨by rw [seqIndex_neg (by omega) h1,e],by omega,h1,by omega⟩
  ·rw [if_neg h1] at h;cases h
theorem k9o {Y:Type} {xs:List Y} {i:Int} {v:Y} (h:atI xs i=some v):∃ j,seqIndex? i xs.length=some j/\xs[j]?=some v/\j < xs.length/\-(xs.length:Int)<=i/\i < xs.length:=by
 unfold atI at h
 cases e:ixN xs.length i with
 | none=>rw [e] at h;cases h
 | some j =>
  rw [e] at h;obtain ⟨h1,h2,h3,h4⟩:=k8c e;exact ⟨j,h1,h,h2,h3,h4⟩
theorem k9n {Y:Type} {xs:List Y} {j:Nat} {v:Y} (h:xs[j]?=some v):atI xs (j:Int)=some v:=by
 have hj:j < xs.length:=(List.getElem?_eq_some_iff.mp h).1
 have e:ixN xs.length (j:Int)=some j:=by unfold ixN;rw [if_pos (by omega),if_pos (by omega)];simp
 unfold atI;rw [e];exact h
theorem atI_last {Y:Type} (xs:List Y) (v:Y):atI (xs++[v]) (-1)=some v:=by
 have hl:(xs++[v]).length=xs.length + 1:=by simp
 have e:ixN (xs++[v]).length (-1)=some xs.length:=by unfold ixN;rw [hl,if_neg (by decide),if_pos (by omega)];congr 1;omega
 unfold atI;rw [e];show (xs++[v])[xs.length]?=some v;simp
def k9s (b:Expr):Prop:=∀ o i,subscripted b false o i=operate [o,i] (getItem o i)
def IxR (X:Cx) (r:R2):Prop :=
 ∀ (value slice:Expr) (pins:List (Addr×Obj)) (s:Shared) (Z:St) (H:Hp) (x y:V) (v u:Value) (Q:VK),Inv X pins Z H s->RelV x v->RelV y u->r x y H Q ->
  subscripted slice false v u=operate [v,u] (getItem v u)->wpAny (model X.prog X.w) X.A (subscriptTail value slice v u) (EP X pins Z Q) X.xe s
def MtR (X:Cx) (id:String) (r:V->List V->Hp->VK->Prop):Prop :=
 ∀ (pins:List (Addr×Obj)) (s:Shared) (Z:St) (H:Hp) (x:V) (xs:List V) (v:Value) (us:List Value) (Q:VK),Inv X pins Z H s->RelV x v->Vals xs us->r x xs H Q ->
  wpAny (model X.prog X.w) X.A (call (.builtin id) (v :: us)) (EP X pins Z Q) X.xe s
section
variable {X:Cx} {a b:Expr} {ta tb:TE} {pos:Pos}
theorem j4c {r:R2} (hr:IxR X r) (ha:PE X a ta) (hb:PE X b tb) (hs:k9s b):PE X (.Subscript a b pos) (tOp r ta tb):=by intro pins s Z H Q I h;exact Subscript_ (binT ha hb I h fun v u s2 x y H2 I2 rx ry q=>hr a b pins s2 Z H2 x y v u Q I2 rx ry q (hs _ _))
def rIxL (K:PySem.W.Frag):R2:=fun x y H Q=>∃ p xs i v,x=.ref p/\y=.int i/\SqL K H p xs/\atI xs i=some v/\Q v H
def rIxT (K:PySem.W.Frag):R2:=fun x y H Q=>∃ p xs i v,x=.ref p/\y=.int i/\SqT K H p xs/\atI xs i=some v/\Q v H
theorem j1t:IxR X (rIxL X.K):=by
 intro value slice pins s Z H x y v u Q I rx ry h hs;obtain ⟨p,xs,i,z,rfl,rfl,hq,he,q⟩:=h;cases rx;obtain ⟨t,rfl⟩:=ry;obtain ⟨its,r,pl,hz⟩:=I.list hq;obtain ⟨j,h1,h2,h3,h4,h5⟩:=k9o he;obtain ⟨w,ew,rw'⟩:=r.get h2;have hl:=r.length;have hn:=j74;have fin:EP X pins Z Q w s:=⟨z,H,I,rw',q⟩;by_cases h0:0<=i
 ·have hj:i.toNat=j:=by rw [seqIndex_of h0 h5] at h1;exact Option.some.inj h1
  exact item_listR pl.isList h0 (by omega) (by rw [hj];simpa using ew) fin hs
 ·have hj:(i + (its.toArray.size:Int)).toNat=j:=by rw [seqIndex_neg (by omega) h4] at h1;rw [List.size_toArray,<- hl];exact Option.some.inj h1
  exact subscriptTail_builtinR (x:=w) pl.isList.typeIs slot_list_getitem.lookup
   (wpAny_getItem_list_neg (Q:=fun r s'=>r=w/\EP X pins Z Q r s') pl.isList (by omega) (by rw [List.size_toArray]<;>omega) (by omega) (by rw [hj];simpa using ew) ⟨rfl,fin⟩) hs
theorem w2u:IxR X (rIxT X.K):=by
 intro value slice pins s Z H x y v u Q I rx ry h hs;obtain ⟨p,xs,i,z,rfl,rfl,hq,he,q⟩:=h;cases rx;obtain ⟨t,rfl⟩:=ry;obtain ⟨its,r,pl,hz⟩:=I.tuple hq;obtain ⟨j,h1,h2,h3,h4,h5⟩:=k9o he;obtain ⟨w,ew,rw'⟩:=r.get h2;have hl:=r.length;have hn:=j74;have fin:EP X pins Z Q w s:=⟨z,H,I,rw',q⟩
 exact subscriptTail_builtinR (x:=w) pl.typeIs slot_tuple_getitem.lookup
  (getItem_tuple (j:=j) (Q:=fun r s'=>r=w/\EP X pins Z Q r s') pl (by omega) (by omega) (by rw [List.size_toArray,<- hl];exact h1) (by simpa using ew) ⟨rfl,fin⟩) hs
theorem k4r (its:List Value) (n j:Nat) (u:Value):Obj.mapSeq (·.setIfInBounds j u) { cls:=.type "list",data:=.seq its.toArray n}={ cls:=.type "list",data:=.seq (its.set j u).toArray n}:=by simp [Obj.mapSeq]
theorem Inv.lst {pins:List (Addr×Obj)} {Z:St} {H:Hp} {s:Shared} {p:Addr} {xs:List V} (I:Inv X pins Z H s) (h:H p=some (.lst xs)) :
  ∃ (its:List Value) (n:Nat),Vals xs its/\s.heap.get? p=some { cls:=.type "list",data:=.seq its.toArray n}/\xs.length<=sizeLine:=by
 obtain ⟨z,its,n,r,e⟩:=I.hok p _ h;exact ⟨its,n,r,e,z⟩
theorem Inv.lstUpd {pins:List (Addr×Obj)} {Z:St} {H:Hp} {s:Shared} {p:Addr} {xs ys:List V} {its its':List Value} {n n':Nat} {f:Obj->Obj} (I:Inv X pins Z H s) (h:H p=some (.lst xs))
  (ho:s.heap.get? p=some { cls:=.type "list",data:=.seq its.toArray n}) (hf:f { cls:=.type "list",data:=.seq its.toArray n}={ cls:=.type "list",data:=.seq its'.toArray n'}) (r:Vals ys its') (hz:ys.length<=sizeLine) (t:Nat) :
  Inv X pins Z (upd H p (.lst ys)) { s with heap:=s.heap.update p f,toks:=t}:=by
 have e:(s.heap.update p f).get? p=some { cls:=.type "list",data:=.seq its'.toArray n'}:=by rw [Heap.get?_update_self f ho (by rw [hf]<;>rfl),hf]
 refine I.write (x:=p) (e:=p) (by rw [h];trivial) (.inl rfl) (fun b u hb q=>(Heap.get?_update_other _ _ (Ne.symm hb)).trans q) ⟨_,e⟩ ?_;exact ⟨hz,its',n',r,e⟩
def w7m:V->V->V->Hp->(Hp->Prop)->Prop:=fun o i v H Q=>∃ p xs k j,o=.ref p/\i=.int k/\H p=some (.lst xs)/\ixN xs.length k=some j/\Q (upd H p (.lst (xs.set j v)))
theorem j6b:PSet X w7m:=by
 intro pins s Z H o i v ov iv u Q I ro ri rv h;obtain ⟨p,xs,k,j,rfl,rfl,hp,hj,q⟩:=h;cases ro;obtain ⟨t,rfl⟩:=ri;obtain ⟨its,n,r,ho,hz⟩:=I.lst hp;obtain ⟨h1,h2,h3,h4⟩:=k8c hj;have hl:=r.length;have hn:=j74
 have I':Inv X pins Z (upd H p (.lst (xs.set j v))) { s with heap:=s.heap.update p (Obj.mapSeq (·.setIfInBounds j u))} :=
  I.lstUpd hp ho (k4r its n j u) (r.set rv j) (by rw [List.length_set];exact hz) s.toks
 by_cases h0:0<=k
 ·have hk:k.toNat=j:=by rw [seqIndex_of h0 h4] at h1;exact Option.some.inj h1
  exact PySem.W.ki_setAt ho h0 (by omega) (by rw [List.size_toArray,<- hl];exact h4) (by rw [hk];exact ⟨_,I',q⟩)
 ·have hk:(k + (its.toArray.size:Int)).toNat=j:=by rw [seqIndex_neg (by omega) h3] at h1;rw [List.size_toArray,<- hl];exact Option.some.inj h1
  exact PySem.W.ki_setBack ho (by omega) (by rw [List.size_toArray,<- hl];exact h3) (by omega) (by rw [hk];exact ⟨_,I',q⟩)
theorem j97 (lo hi:Option Int) (n:Nat):(sliceBounds lo hi none n).1=((HT.sIx n 0 lo:Nat):Int)/\(sliceBounds lo hi none n).2.1=((HT.sIx n n hi:Nat):Int)/\(sliceBounds lo hi none n).2.2=1:=by
 refine ⟨?_,?_,rfl⟩
 ·cases lo with
  | none=>simp [sliceBounds,HT.sIx]
  | some i =>
   simp only [sliceBounds,HT.sIx,Option.getD_none,show (1:Int) > 0 by decide,if_true];by_cases h:i < 0
   ·simp only [h,if_true]<;>omega
   ·simp only [h,if_false]<;>omega
 ·cases hi with
  | none=>simp [sliceBounds,HT.sIx]
  | some i =>
   simp only [sliceBounds,HT.sIx,Option.getD_none,show (1:Int) > 0 by decide,if_true];by_cases h:i < 0
   ·simp only [h,if_true]<;>omega
   ·simp only [h,if_false]<;>omega
theorem j8o (its:List Value) (lo hi:Option Int):slicePick its.toArray lo hi none=((its.drop (HT.sIx its.length 0 lo)).take (HT.sIx its.length its.length hi - HT.sIx its.length 0 lo)).toArray:=by obtain ⟨h1,h2,h3⟩:=j97 lo hi its.toArray.size;unfold slicePick;rw [h1,h2,h3];simp only [sliceRange_one,pick_run,List.size_toArray]<;>rfl
def rSlL (K:PySem.W.Frag):V->Option Int->Option Int->Hp->VK->Prop:=fun x lo hi H Q=>∃ a xs,x=.ref a/\SqL K H a xs/\∀ p,H p=none->Q (.ref p) (upd H p (.lst (cutV xs lo hi)))
theorem j8p:SlR X (rSlL X.K):=by intro pins s Z H x v vl vu lo hi sl Q I rx hs pl pu h;obtain ⟨a,xs,rfl,hx,q⟩:=h;cases rx;obtain ⟨its,r,ht,hz⟩:=I.list hx;have hlen:=r.length;refine ⟨"list",_,slot_list_getitem.lookup,ht.isList.typeIs,?_⟩;refine wpAny_getItem_list_slice ht.isList hs pl pu .none (by simp) ?_ (by rw [List.size_toArray]<;>omega);rw [j8o,<- hlen];refine ⟨.ref s.heap.objs.size,_,I.laid (t':=s.toks) (o:=.lst (cutV xs lo hi)) (fun b ob q=>Heap.get?_push_of_some _ q) (Nat.le_refl _) ?_,rfl,q _ (I.hok.fresh (Nat.le_refl _))⟩;exact ⟨Nat.le_trans (j7h xs lo hi) hz,_,0,(r.drop (HT.sIx xs.length 0 lo)).take (HT.sIx xs.length xs.length hi - HT.sIx xs.length 0 lo),Heap.get?_push_size _ rfl⟩
def j9q:V->Bool
 | .non=>true
 | .bl _=>true
 | .int _=>true
 | .str _=>true
 | _=>false
def eqV:V->V->Bool
 | .non,.non=>true
 | .bl a,.bl b=>a == b
 | .bl a,.int b=>(if a then 1 else 0) == b
 | .int a,.bl b=>a == (if b then 1 else 0)
 | .int a,.int b=>a == b
 | .str a,.str b=>a == b
 | _,_=>false
theorem w83 {A:Around} {s:Shared} {y x:V} {u v:Value} (ry:RelV y u) (rx:RelV x v) (fy:j9q y=true) (fx:j9q x=true):SeqAt.EqAt A s u v (eqV y x):=by
 cases y with
 | non =>
  cases ry
  cases x with
  | non=>cases rx;exact SeqAt.EqAt.same _
  | bl b=>cases rx;exact SeqAt.EqAt.none_bool b
  | int b=>obtain ⟨t,rfl⟩:=rx;exact SeqAt.EqAt.none_int b t
  | str b=>obtain ⟨t,rfl⟩:=rx;exact SeqAt.EqAt.none_str b t
  | _=>exact absurd (show false=true from fx) Bool.false_ne_true
 | bl a =>
  cases ry
  cases x with
  | non=>cases rx;exact SeqAt.EqAt.bool_none a
  | bl b=>cases rx;exact SeqAt.EqAt.bool_bool a b
  | int b=>obtain ⟨t,rfl⟩:=rx;exact SeqAt.EqAt.bool_int a b t
  | str b=>obtain ⟨t,rfl⟩:=rx;exact SeqAt.EqAt.bool_str a b t
  | _=>exact absurd (show false=true from fx) Bool.false_ne_true
 | int a =>
  obtain ⟨t',rfl⟩:=ry
  cases x with
  | non=>cases rx;exact SeqAt.EqAt.int_none a t'
  | bl b=>cases rx;exact SeqAt.EqAt.int_bool a t' b
  | int b=>obtain ⟨t,rfl⟩:=rx;exact SeqAt.EqAt.int_int a t' b t
  | str b=>obtain ⟨t,rfl⟩:=rx;exact SeqAt.EqAt.int_str a t' b t
  | _=>exact absurd (show false=true from fx) Bool.false_ne_true
 | str a =>
  obtain ⟨t',rfl⟩:=ry
  cases x with
  | non=>cases rx;exact SeqAt.EqAt.str_none a t'
  | bl b=>cases rx;exact SeqAt.EqAt.str_bool a t' b
  | int b=>obtain ⟨t,rfl⟩:=rx;exact SeqAt.EqAt.str_int a t' b t
  | str b=>obtain ⟨t,rfl⟩:=rx;exact SeqAt.EqAt.str_str a t' b t
  | _=>exact absurd (show false=true from fx) Bool.false_ne_true
 | _=>exact absurd (show false=true from fy) Bool.false_ne_true
def eqU (x:V) (u:Value):Bool:=match u with
 | .none=>eqV .non x
 | .bool b=>eqV (.bl b) x
 | .int i _=>eqV (.int i) x
 | .str z _=>eqV (.str z) x
 | _=>false
theorem w21 {x y:V} {u:Value} (r:RelV y u) (f:j9q y=true):eqU x u=eqV y x:=by
 cases y with
 | non=>cases r;rfl
 | bl b=>cases r;rfl
 | int i=>obtain ⟨t,rfl⟩:=r;rfl
 | str z=>obtain ⟨t,rfl⟩:=r;rfl
 | _=>exact absurd (show false=true from f) Bool.false_ne_true
theorem j7n {x:V}:∀ {xs:List V} {us:List Value},Vals xs us->xs.all j9q=true->us.any (eqU x)=xs.any fun y=>eqV y x
 | _,_,.nil,_=>rfl
 | y :: xs,u :: us,.cons r t,f=>by rw [List.all_cons,Bool.and_eq_true] at f;rw [List.any_cons,List.any_cons,w21 r f.1,j7n t f.2]
theorem j41 {A:Around} {s:Shared} {x:V} {v:Value} (rx:RelV x v) (fx:j9q x=true):∀ {xs:List V} {us:List Value},Vals xs us->xs.all j9q=true->∀ u∈us,SeqAt.EqAt A s u v (eqU x u)
 | _,_,.nil,_=>fun u hu=>by cases hu
 | y :: xs,u :: us,.cons r t,f=>fun u' hu=>by
  rw [List.all_cons,Bool.and_eq_true] at f;rcases List.mem_cons.mp hu with rfl | hu
  ·rw [w21 r f.1];exact w83 r rx f.1 fx
  ·exact j41 rx fx t f.2 u' hu
def inV (x:V) (xs:List V):Bool:=xs.any fun y=>eqV y x
def rIn (K:PySem.W.Frag) (neg:Bool):R2:=fun x y H Q=>∃ p xs,y=.ref p/\(SqL K H p xs\/SqT K H p xs)/\j9q x=true/\xs.all j9q=true/\Q (.bl (if neg then !inV x xs else inV x xs)) H
theorem k0m:OpR X (compareOp .In) (rIn X.K false):=by
 intro pins s Z H x y v u Q I rx ry h;obtain ⟨p,xs,rfl,hq,fx,fs,q⟩:=h;cases ry;rcases hq with hq | hq
 ·obtain ⟨its,r,pl,hz⟩:=I.list hq;refine SeqAt.in_listAt (eqU x) pl.isList (fun w hw=>j41 rx fx r fs w (by simpa using hw)) ⟨.bl _,H,I,rfl,?_⟩;rw [show its.toArray.any (eqU x)=its.any (eqU x) by simp,j7n r fs];exact q
 ·obtain ⟨its,r,pl,hz⟩:=I.tuple hq;refine SeqAt.in_tupleAt (eqU x) pl (fun w hw=>j41 rx fx r fs w (by simpa using hw)) ⟨.bl _,H,I,rfl,?_⟩;rw [show its.toArray.any (eqU x)=its.any (eqU x) by simp,j7n r fs];exact q
theorem k0l:OpR X (compareOp .NotIn) (rIn X.K true):=by
 intro pins s Z H x y v u Q I rx ry h;obtain ⟨p,xs,rfl,hq,fx,fs,q⟩:=h;cases ry;rcases hq with hq | hq
 ·obtain ⟨its,r,pl,hz⟩:=I.list hq;refine SeqAt.notIn_listAt (eqU x) pl.isList (fun w hw=>j41 rx fx r fs w (by simpa using hw)) ⟨.bl _,H,I,rfl,?_⟩;rw [show its.toArray.any (eqU x)=its.any (eqU x) by simp,j7n r fs];exact q
 ·obtain ⟨its,r,pl,hz⟩:=I.tuple hq;refine SeqAt.notIn_tupleAt (eqU x) pl (fun w hw=>j41 rx fx r fs w (by simpa using hw)) ⟨.bl _,H,I,rfl,?_⟩;rw [show its.toArray.any (eqU x)=its.any (eqU x) by simp,j7n r fs];exact q
theorem j2z:j3l X (.builtin "len") (fun xs H Q=>∃ p ys,xs=[.ref p]/\(SqL X.K H p ys\/SqT X.K H p ys)/\Q (.int ys.length) H):=by
 intro pins s Z H xs us Q I r h;obtain ⟨p,ys,rfl,hq,q⟩:=h;obtain ⟨u,rfl,rx⟩:=j56 r;cases rx;have hn:=j74;rcases hq with hq | hq
 ·obtain ⟨its,r',pl,hz⟩:=I.list hq;have hlen:=r'.length;exact Calls.call_len_list pl.isList (by simp only [List.size_toArray]<;>omega) ⟨.int ys.length,H,I.tok _,⟨s.toks + 1,by rw [List.size_toArray,hlen]⟩,q⟩
 ·obtain ⟨its,r',pl,hz⟩:=I.tuple hq;have hlen:=r'.length;exact len_tuple pl (by simp only [List.size_toArray]<;>omega) ⟨.int ys.length,H,I.tok _,⟨s.toks + 1,by rw [List.size_toArray,hlen]⟩,q⟩
theorem j3x:j3l X (.type "list") (fun xs H Q=>∃ p ys,xs=[.ref p]/\(SqL X.K H p ys\/SqT X.K H p ys)/\∀ l,H l=none->Q (.ref l) (upd H l (.lst ys))):=by
 intro pins s Z H xs us Q I r h;obtain ⟨p,ys,rfl,hq,q⟩:=h;obtain ⟨u,rfl,rx⟩:=j56 r;cases rx
 have fin:∀ (its:List Value),Vals ys its->ys.length<=sizeLine->∀ (h':Heap) (c':Nat),(∀ b o',s.heap.get? b=some o'->h'.get? b=some o') ->
   h'.get? s.heap.objs.size=some { cls:=.type "list",dict:=none,data:=.seq its.toArray c',slots:=#[]}->EP X pins Z Q (.ref s.heap.objs.size) { s with heap:=h'}:=fun its r' hz h' c' kp e =>
  ⟨.ref s.heap.objs.size,_,I.laid (t':=s.toks) kp (Nat.le_refl _) (show ObjOk X.prog X.w _ h' _ (.lst ys) from ⟨hz,its,c',r',e⟩),rfl,q _ (I.hok.fresh (Nat.le_refl _))⟩
 rcases hq with hq | hq
 ·obtain ⟨its,r',pl,hz⟩:=I.list hq;have hlen:=r'.length;obtain ⟨o,ho,hc,n,hd⟩:=pl.isList;exact call_list_seq p (.inl rfl) ho hc hd (fun h' c' kp e=>fin its r' hz h' c' kp e) (by simp only [List.size_toArray]<;>omega)
 ·obtain ⟨its,r',pl,hz⟩:=I.tuple hq;have hlen:=r'.length;obtain ⟨o,ho,hc,n,hd⟩:=pl;exact call_list_seq p (.inr rfl) ho hc hd (fun h' c' kp e=>fin its r' hz h' c' kp e) (by simp only [List.size_toArray]<;>omega)
theorem j9w:j3l X (.type "tuple") (fun xs H Q=>∃ p ys,xs=[.ref p]/\((SqL X.K H p ys/\∀ l,H l=none->Q (.ref l) (upd H l (.tup ys)))\/(SqT X.K H p ys/\Q (.ref p) H))):=by
 intro pins s Z H xs us Q I r h;obtain ⟨p,ys,rfl,h⟩:=h;obtain ⟨u,rfl,rx⟩:=j56 r;cases rx;rcases h with ⟨hq,q⟩ | ⟨hq,q⟩
 ·obtain ⟨its,r',pl,hz⟩:=I.list hq;have hlen:=r'.length;refine call_tuple_list pl.isList (fun h' kp=>?_) (by simp only [List.size_toArray]<;>omega);have I1:Inv X pins Z H { s with heap:=h'}:=I.kept (t':=s.toks) kp
  have I2:Inv X pins Z (upd H h'.objs.size (.tup ys)) { s with heap:=h'.push { cls:=.type "tuple",data:=.seq its.toArray}} :=
   I1.laid (t':=s.toks) (fun b o e=>Heap.get?_push_of_some _ e) (Nat.le_refl _) (show ObjOk X.prog X.w _ _ _ (.tup ys) from ⟨hz,its,r',IsTup.new _ _⟩)
  exact ⟨.ref h'.objs.size,_,I2,rfl,q _ (I1.hok.fresh (Nat.le_refl _))⟩
 ·obtain ⟨its,r',pl,hz⟩:=I.tuple hq;exact call_tuple_same pl ⟨.ref p,H,I,rfl,q⟩
def tyV (K:PySem.W.Frag) (T:String) (x:V) (H:Hp):Prop:=match x with
 | .str _=>T="str"
 | .int _=>T="int"
 | .ref p=>(T="list"/\∃ xs,SqL K H p xs)\/(T="tuple"/\∃ o,K.lookup p=some o/\o.cls=.type "tuple"/\o.dict=none) \/
   (T="dict"/\((∃ kvs,H p=some (.dK kvs))\/∃ kvs,H p=some (.dT kvs)))\/(T="set"/\∃ S n,H p=some (.set S n))
 | _=>False
theorem w63 {pins:List (Addr×Obj)} {Z:St} {H:Hp} {s:Shared} {T:String} {x:V} {v:Value} (I:Inv X pins Z H s) (r:RelV x v) (ty:tyV X.K T x H) :
  s.TypeIs v T/\∀ a,v=.ref a->∃ ob,s.heap.get? a=some ob/\ob.dict=none:=by
 cases x with
 | str z =>
  obtain ⟨t,rfl⟩:=r;cases (show T="str" from ty);exact ⟨typeIs_str s z t,fun _ e=>nomatch e⟩
 | int i =>
  obtain ⟨t,rfl⟩:=r;cases (show T="int" from ty);exact ⟨typeIs_int s i t,fun _ e=>nomatch e⟩
 | ref p =>
  cases r;rcases ty with ⟨rfl,xs,hq⟩ | ⟨rfl,o,hk,hc,hd⟩ | ⟨rfl,hk⟩ | ⟨rfl,S,n,hk⟩
  ·obtain ⟨its,_,pl,_⟩:=I.list hq;refine ⟨pl.isList.typeIs,fun a e=>?_⟩;cases e;obtain ⟨o,n,e,c,hd,_⟩:=pl;exact ⟨o,e,hd⟩
  ·refine ⟨⟨o,I.kIn p o hk,hc⟩,fun a e=>?_⟩;cases e;exact ⟨o,I.kIn _ o hk,hd⟩
  ·have z:∃ o,s.heap.get? p=some o/\o.ExactDict:=by
    rcases hk with ⟨kvs,hk⟩ | ⟨kvs,hk⟩
    ·obtain ⟨_,_,_,_,o,_,_,e,ex,_⟩:=I.hok p _ hk;exact ⟨o,e,ex⟩
    ·obtain ⟨_,_,_,_,o,_,_,e,ex,_⟩:=I.hok p _ hk;exact ⟨o,e,ex⟩
   obtain ⟨o,e,ex⟩:=z;refine ⟨⟨o,e,ex.1⟩,fun a e2=>?_⟩;cases e2;exact ⟨o,e,ex.2.1⟩
  ·obtain ⟨o,_,_,_,e,ex,_⟩:=I.hok p _ hk;refine ⟨⟨o,e,ex.1⟩,fun a e2=>?_⟩;cases e2;exact ⟨o,e,ex.2.1⟩
 | _=>exact False.elim ty
def tBM (K:PySem.W.Frag) (T:String) (r:V->List V->Hp->VK->Prop) (to:TE) (t:TA):TE:=fun Z H Q=>to Z H fun x H1=>tyV K T x H1/\t Z H1 fun xs H2=>r x xs H2 Q
variable {o e:Expr} {es:List Expr} {to:TE} {t:TA} {name:Str} {apos cpos:Pos} {T id:String} {r:V->List V->Hp->VK->Prop}
theorem k0j (pa:PlainAttrs T) (slot:Slot T name id) (hty:typeOf (.builtin id)=pure (.type "method_descriptor")) (hm:MtR X id r) (ho:PE X o to) (ha:PA X (e :: es) t)
  (hbase:attributeBase o name X.env (eval o X.env)=eval o X.env:=by rfl)
  (hfew:((backTo cpos (starEach (e :: es) X.env)).all (fun x=>!x.1)&&(backToKw cpos (keywordEach [] X.env)).all (fun x=>x.1.isSome)
   && decide ((e :: es).length + ([]:List Keyword).length + (if ([]:List Keyword).isEmpty then 0 else 1) < 30))=true:=by rfl)
  (hline:(apos.endLine == cpos.line)=true:=by rfl) (hs:starEach (e :: es) X.env=(false,eval e X.env) :: starEach es X.env:=by rfl) (hplain:(backTo cpos (starEach es X.env)).any (·.1)=false:=by rfl) :
  PE X (.Call (.Attribute o name apos) (e :: es) [] cpos) (tBM X.K T r to t):=by
 intro pins s Z H Q I h;refine wpAny_Call_method_late hbase hfew hline rfl (thn (ho pins s Z H _ I h) fun v s1 ⟨x,H1,I1,r1,ty,q1⟩=>?_);obtain ⟨h1,h2⟩:=w63 I1 r1 ty;refine ⟨T,id,pa,slot,hty,h1,h2,?_⟩;have hA:=ha cpos pins s1 Z H1 _ I1 q1;rw [hs] at hA ⊢;refine Calls.callWith_builtin (by show (false||(backTo cpos (starEach es X.env)).any (·.1))=false;rw [hplain]<;>rfl) (Calls.evalArgs_plain ?_);exact thn hA fun us s2 ⟨vs,H2,I2,r2,q2⟩=>hm pins s2 Z H2 x vs v us Q I2 r1 r2 q2
end
end L2
namespace L2
open PySem PySem.Spec PyProof.Rows
def MtM (X:Cx) (id:String) (r:V->List V->Hp->VK->Prop):Prop :=
 ∀ (pins:List (Addr×Obj)) (s:Shared) (Z:St) (H:Hp) (x:V) (xs:List V) (v:Value) (us:List Value) (Q:VK),Inv X pins Z H s->RelV x v->Vals xs us->r x xs H Q ->
  wpAny (model X.prog X.w) X.A (call (.builtin id) (v :: us)) (EP X pins Z Q) X.xe s
theorem Vals.one:∀ {x:V} {us:List Value},Vals [x] us->∃ u,us=[u]/\RelV x u
 | _,_,.cons r .nil=>⟨_,rfl,r⟩
section
variable {X:Cx} {pins:List (Addr×Obj)} {Z:St} {H:Hp} {s:Shared} {l b:Addr} {xs ys zs:List V}
theorem Inv.lset {its its':List Value} {n:Nat} {f:Array Value->Array Value} {t':Nat} (I:Inv X pins Z H s) (hH:H l=some (.lst xs))
  (e:s.heap.get? l=some { cls:=.type "list",data:=.seq its.toArray n}) (hf:f its.toArray=its'.toArray) (hv:Vals ys its') (hz:ys.length<=sizeLine) :
  Inv X pins Z (upd H l (.lst ys)) { s with heap:=s.heap.update l (Obj.mapSeq f),toks:=t'}:=by
 have q:=PySem.IsL.update e f;rw [hf] at q;refine I.write (x:=l) (e:=l) (by rw [hH];exact trivial) (.inl rfl) (fun b' u hb hu=>(Heap.get?_update_other s.heap (Obj.mapSeq f) (Ne.symm hb)).trans hu) ⟨_,q⟩ ?_;exact ⟨hz,its',_,hv,q⟩
theorem Inv.lnew {its:List Value} {t':Nat} (I:Inv X pins Z H s) (hv:Vals ys its) (hz:ys.length<=sizeLine) :
  Inv X pins Z (upd H s.heap.objs.size (.lst ys)) { s with heap:=s.heap.push { cls:=.type "list",data:=.seq its.toArray},toks:=t'} :=
 I.laid (fun _ _ q=>Heap.get?_push_of_some _ q) (Nat.le_refl _) ⟨hz,its,0,hv,Heap.get?_push_size _ rfl⟩
theorem Inv.fresh (I:Inv X pins Z H s):H s.heap.objs.size=none:=I.hok.fresh (Nat.le_refl _)
theorem Inv.lstM (I:Inv X pins Z H s) (hH:H l=some (.lst xs)):xs.length<=sizeLine/\∃ (its:List Value) (n:Nat),Vals xs its/\xs.length=its.length/\s.heap.get? l=some { cls:=.type "list",data:=.seq its.toArray n}:=by obtain ⟨z,its,n,r,e⟩:=I.hok l _ hH;exact ⟨z,its,n,r,r.length,e⟩
end
section
variable {X:Cx}
def k1x:V->List V->Hp->VK->Prop:=fun x vs H Q=>∃ l xs y,x=.ref l/\vs=[y]/\H l=some (.lst xs)/\xs.length < sizeLine/\Q .non (upd H l (.lst (xs++[y])))
theorem j16:MtM X "list.append" k1x:=by intro pins s Z H x vs v us Q I rx rv h;obtain ⟨l,xs,y,rfl,rfl,hH,hz,q⟩:=h;cases rx;obtain ⟨u,rfl,ru⟩:=rv.one;obtain ⟨z,its,n,r,hl,e⟩:=I.lstM hH;refine call_meets F.slot_list_append ⟨_,e,rfl⟩ F.entry_list_append (F.args_list_append_2 _ _) (PySem.list_append l its.toArray n u (by rw [List.size_toArray];omega)) ⟨e,?_⟩;refine ⟨.non,_,I.lset (its':=its++[u]) hH e (by simp) (r.append (.cons ru .nil)) ?_,rfl,q⟩;rw [List.length_append,List.length_singleton];omega
def rCat:R2:=fun x y H Q=>∃ l b xs zs,x=.ref l/\y=.ref b/\H l=some (.lst xs)/\H b=some (.lst zs)/\xs.length + zs.length<=sizeLine/\∀ p,H p=none->Q (.ref p) (upd H p (.lst (xs++zs)))
theorem w75:OpR X (binaryOp .Add) rCat:=by
 intro pins s Z H x y v u Q I rx ry h;obtain ⟨l,b,xs,zs,rfl,rfl,hH,hB,hz,q⟩:=h;cases rx;cases ry;obtain ⟨z,its,n,r,hl,e⟩:=I.lstM hH;obtain ⟨z2,its2,n2,r2,hl2,e2⟩:=I.lstM hB;refine PySem.P.add_list e e2 ?_ (by rw [List.size_toArray,List.size_toArray];omega);have ea:its.toArray++its2.toArray=(its++its2).toArray:=by simp
 rw [ea];exact ⟨.ref _,_,I.lnew (t':=s.toks) (r.append r2) (by rw [List.length_append];omega),rfl,q _ I.fresh⟩
end
end L2
namespace L2
open PySem PySem.Spec PyProof.Rows
section
variable {κ:Type} [DecidableEq κ]
def valV (kvs:List (κ×V)) (k:κ):Option V:=(kvs.find? fun kv=>decide (kv.1=k)).map (·.2)
def putK (kvs:List (κ×V)) (k:κ) (v:V):List (κ×V) :=
 if (kvs.any fun kv=>decide (kv.1=k))=true then kvs.map (fun kv=>if kv.1=k then (kv.1,v) else kv) else kvs++[(k,v)]
def j9u (kvs:List (κ×V)) (k:κ):List (κ×V):=kvs.filter fun kv=>decide (kv.1≠k)
theorem j3z {p:κ×V} {r:List (κ×V)} {k:κ} (e:p.1=k):valV (p :: r) k=some p.2:=by simp [valV,List.find?_cons,e]
theorem j30 {p:κ×V} {r:List (κ×V)} {k:κ} (e:¬ p.1=k):valV (p :: r) k=valV r k:=by simp [valV,List.find?_cons,e]
theorem j4u (k:κ):∀ kvs:List (κ×V),(kvs.any fun kv=>decide (kv.1=k))=(valV kvs k).isSome
 | []=>rfl
 | p :: r=>by
  rw [List.any_cons];by_cases e:p.1=k
  ·simp only [j3z e,decide_eq_true e,Bool.true_or,Option.isSome_some]
  ·rw [j30 e,decide_eq_false e,Bool.false_or];exact j4u k r
theorem j66 (kvs:List (κ×V)) (k:κ) (v:V):(putK kvs k v).length<=kvs.length + 1:=by
 unfold putK;split
 ·rw [List.length_map];omega
 ·rw [List.length_append,List.length_cons,List.length_nil];omega
theorem w0j {kvs:List (κ×V)} {k:κ} (v:V) (h:valV kvs k=none):putK kvs k v=kvs++[(k,v)]:=by unfold putK;rw [j4u,h];exact if_neg (by decide)
theorem RelO.isSome_eq {o:Option V} {u:Option Value} (r:RelO o u):o.isSome=u.isSome:=by
 cases o with
 | none=>cases u with
  | none=>rfl
  | some _=>exact (show False from r).elim
 | some _=>cases u with
  | none=>exact (show False from r).elim
  | some _=>rfl
theorem KV.val {kvs:List (κ×V)} {vs:List (κ×Value)} (r:KV kvs vs) (k:κ):RelO (valV kvs k) (valueAt vs k):=by
 unfold KV at r
 induction r with
 | nil=>exact True.intro
 | @cons p q ps qs h t ih =>
  obtain ⟨h1,h2⟩:=h;by_cases e:p.1=k
  ·have e':q.1=k:=h1.symm.trans e;have b:valueAt (q :: qs) k=some q.2:=by simp [valueAt,List.find?_cons,e']
   rw [j3z e,b];exact h2
  ·have e':¬ q.1=k:=fun z=>e (h1.trans z);have b:valueAt (q :: qs) k=valueAt qs k:=by simp [valueAt,List.find?_cons,e']
   rw [j30 e,b];exact ih
theorem KV.any {kvs:List (κ×V)} {vs:List (κ×Value)} (r:KV kvs vs) (k:κ):(kvs.any fun kv=>decide (kv.1=k))=vs.any fun kv=>decide (kv.1=k):=by
 unfold KV at r
 induction r with
 | nil=>rfl
 | cons h t ih=>rw [List.any_cons,List.any_cons,ih,h.1]
theorem KV.repl {kvs:List (κ×V)} {vs:List (κ×Value)} (r:KV kvs vs) (k:κ) {y:V} {u:Value} (ry:RelV y u) :
  KV (kvs.map fun kv=>if kv.1=k then (kv.1,y) else kv) (vs.map fun kv=>if kv.1=k then (kv.1,u) else kv):=by
 unfold KV at r ⊢
 induction r with
 | nil=>exact .nil
 | @cons p q ps qs h t ih =>
  rw [List.map_cons,List.map_cons];refine .cons ?_ ih;obtain ⟨h1,h2⟩:=h;by_cases e:p.1=k
  ·rw [if_pos e,if_pos (h1.symm.trans e)];exact ⟨h1,ry⟩
  ·rw [if_neg e,if_neg (fun z=>e (h1.trans z))];exact ⟨h1,h2⟩
theorem KV.put {kvs:List (κ×V)} {vs:List (κ×Value)} (r:KV kvs vs) (k:κ) {y:V} {u:Value} (ry:RelV y u):KV (putK kvs k y) (stored vs k u):=by
 unfold putK stored;rw [r.any k];by_cases e:(vs.any fun kv=>decide (kv.1=k))=true
 ·rw [if_pos e,if_pos e];exact r.repl k ry
 ·rw [if_neg e,if_neg e];exact Paired.snoc r ⟨rfl,ry⟩
theorem KV.drop {kvs:List (κ×V)} {vs:List (κ×Value)} (r:KV kvs vs) (k:κ):KV (j9u kvs k) (without vs k):=by
 unfold KV at r ⊢;unfold j9u without
 induction r with
 | nil=>exact .nil
 | @cons p q ps qs h t ih =>
  obtain ⟨h1,h2⟩:=h;rw [List.filter_cons,List.filter_cons];by_cases e:p.1=k
  ·have a:¬ decide (p.1≠k)=true:=by simp [e]
   have b:¬ decide (q.1≠k)=true:=by simp [h1.symm.trans e]
   rw [if_neg a,if_neg b];exact ih
  ·have e':¬ q.1=k:=fun z=>e (h1.trans z);have a:decide (p.1≠k)=true:=by simp [e]
   have b:decide (q.1≠k)=true:=by simp [e']
   rw [if_pos a,if_pos b];exact .cons ⟨h1,h2⟩ ih
theorem KV.length {kvs:List (κ×V)} {vs:List (κ×Value)} (r:KV kvs vs):kvs.length=vs.length:=Paired.length r
theorem w1w (kvs:List (κ×V)) (k:κ):(j9u kvs k).length<=kvs.length:=List.length_filter_le _ _
end
theorem k4u {P:Program} {w:World} {k:Key} {u:Value} (r:RelV (kV k) u):(j1k P w).is k u=true:=by
 cases k with
 | inl i=>obtain ⟨t,e⟩:=(show ∃ t,u=Value.int i t from r);subst e;exact k2j P w i t
 | inr x=>obtain ⟨t,e⟩:=(show ∃ t,u=Value.str x t from r);subst e;exact k2i P w x t
theorem k0v {P:Program} {w:World}:∀ {ks:List Key} {us:List Value},Vals (ks.map kV) us->ItemsAre (j1k P w) ks us
 | [],_,r=>by rw [List.map_nil] at r;cases r;exact .nil
 | k :: ks,_,r=>by
  rw [List.map_cons] at r
  cases r with
  | cons h t=>exact .cons (k4u h) (k0v t)
abbrev KT (H:Hp):List (List Key×V)->List (List Key×Addr×Value)->Prop:=Paired fun p q=>p.1=q.1/\H q.2.1=some (.tup (p.1.map kV))/\RelV p.2 q.2.2
theorem KT.val {H:Hp} {kvs:List (List Key×V)} {xs:List (List Key×Addr×Value)} (r:KT H kvs xs) (k:List Key):RelO (valV kvs k) ((atKey xs k).map (·.2)):=by
 induction r with
 | nil=>exact True.intro
 | @cons p q ps qs h t ih =>
  obtain ⟨h1,_,h2⟩:=h;by_cases e:p.1=k
  ·have e':q.1=k:=h1.symm.trans e;have b:atKey (q :: qs) k=some q.2:=by simp [atKey,List.find?_cons,e']
   rw [j3z e,b];exact h2
  ·have e':¬ q.1=k:=fun z=>e (h1.trans z);have b:atKey (q :: qs) k=atKey qs k:=by simp [atKey,List.find?_cons,e']
   rw [j30 e,b];exact ih
theorem KT.repl {H:Hp} {kvs:List (List Key×V)} {xs:List (List Key×Addr×Value)} (r:KT H kvs xs) (k:List Key) {y:V} {u:Value} (ry:RelV y u) :
  KT H (kvs.map fun kv=>if kv.1=k then (kv.1,y) else kv) (xs.map (putAt k u)):=by
 induction r with
 | nil=>exact .nil
 | @cons p q ps qs h t ih =>
  rw [List.map_cons,List.map_cons];refine .cons ?_ ih;obtain ⟨h1,h2,h3⟩:=h;unfold putAt;by_cases e:p.1=k
  ·rw [if_pos e,if_pos (h1.symm.trans e)];exact ⟨h1,h2,ry⟩
  ·rw [if_neg e,if_neg (fun z=>e (h1.trans z))];exact ⟨h1,h2,h3⟩
theorem KT.put {H:Hp} {kvs:List (List Key×V)} {xs:List (List Key×Addr×Value)} (r:KT H kvs xs) (k:List Key) {b:Addr} {y:V} {u:Value} (hb:H b=some (.tup (k.map kV))) (ry:RelV y u) :
  KT H (putK kvs k y) (storedH xs k b u):=by
 have e:(kvs.any fun kv=>decide (kv.1=k))=(atKey xs k).isSome:=by rw [j4u,(r.val k).isSome_eq,Option.isSome_map]
 unfold putK storedH;rw [e];by_cases q:(atKey xs k).isSome=true
 ·rw [if_pos q,if_pos q];exact r.repl k ry
 ·rw [if_neg q,if_neg q];exact Paired.snoc r ⟨rfl,hb,ry⟩
theorem KT.keeps {H H':Hp} {kvs:List (List Key×V)} {xs:List (List Key×Addr×Value)} (r:KT H kvs xs) (ht:∀ b ys,H b=some (.tup ys)->H' b=some (.tup ys)):KT H' kvs xs :=
 Paired.mapP r fun _ _ z=>⟨z.1,ht _ _ z.2.1,z.2.2⟩
section
variable {P:Program} {w:World} {H:Hp} {h:Heap} {a:Addr}
theorem w7l {u:HO} (ok:HOk P w H h) (e:Rd H a u):ObjOk P w H h a u:=e.ok ok
theorem k42 {kvs:List (Key×V)} (ok:HOk P w H h) (e:Rd H a (.dK kvs)):kvs.length<=sizeLine/\(a == sysModules)=false/\∃ vs,KV kvs vs/\h.DictOf (j1k P w) a vs :=
 show ObjOk P w H h a (.dK kvs) from w7l ok e
theorem w85 {kvs:List (Key×V)} (ok:HOk P w H h) (e:H a=some (.dK kvs)):kvs.length<=sizeLine/\(a == sysModules)=false/\∃ vs,KV kvs vs/\h.DictOf (j1k P w) a vs:=k42 ok (.inl e)
theorem k0r {ks:List Key} (ok:HOk P w H h) (e:H a=some (.tup (ks.map kV))):(tupleKind (j1k P w)).is h ks a:=by obtain ⟨_,its,r,o,h1,h2,n,h3⟩:=(show ObjOk P w H h a (.tup (ks.map kV)) from ok a _ e);exact ⟨o,its.toArray,n,h1,h2,h3,by simpa using k0v r⟩
theorem k82 {kvs:List (List Key×V)} (ok:HOk P w H h) (e:Rd H a (.dT kvs)):kvs.length<=sizeLine/\(a == sysModules)=false /\
  ∃ xs,KT H kvs xs/\h.DictOfH (tupleKind (j1k P w)) a xs:=by
 obtain ⟨z,y,xs,r,o,es,ep,h1,h2,h3,h4,h5⟩:=(show ObjOk P w H h a (.dT kvs) from w7l ok e);refine ⟨z,y,xs,r,o,es,ep,h1,h2,h3,h4,fun x hx=>?_,h5⟩
 have all:∀ {l:List (List Key×V)} {m:List (List Key×Addr×Value)},KT H l m->∀ x∈m,(tupleKind (j1k P w)).is h x.1 x.2.1:=by
  intro l m q
  induction q with
  | nil=>intro x hx;exact nomatch hx
  | @cons p q ps qs hq t ih =>
   intro x hx;rcases List.mem_cons.mp hx with e | hx
   ·subst e;exact k0r ok (by rw [<- hq.1];exact hq.2.1)
   ·exact ih x hx
 exact all r x hx
theorem dt_of {kvs:List (List Key×V)} (ok:HOk P w H h) (e:H a=some (.dT kvs)):kvs.length<=sizeLine/\(a == sysModules)=false /\
  ∃ xs,KT H kvs xs/\h.DictOfH (tupleKind (j1k P w)) a xs:=k82 ok (.inl e)
end
def DGet (H:Hp) (a:Addr) (y:V) (r:Option V):Prop :=
 (∃ kvs k,Rd H a (.dK kvs)/\y=kV k/\r=valV kvs k)\/∃ kvs k b,Rd H a (.dT kvs)/\y=.ref b/\H b=some (.tup (k.map kV))/\r=valV kvs k
def DPut (H:Hp) (a:Addr) (y v:V) (H':Hp):Prop :=
 (∃ kvs k,H a=some (.dK kvs)/\y=kV k/\kvs.length < sizeLine/\H'=upd H a (.dK (putK kvs k v))) \/
 ∃ kvs k b,H a=some (.dT kvs)/\y=.ref b/\H b=some (.tup (k.map kV))/\kvs.length < sizeLine/\H'=upd H a (.dT (putK kvs k v))
theorem DGet.k {H:Hp} {a:Addr} {kvs:List (Key×V)} {k:Key} (e:H a=some (.dK kvs)):DGet H a (kV k) (valV kvs k):=.inl ⟨kvs,k,.inl e,rfl,rfl⟩
theorem DPut.k {H:Hp} {a:Addr} {kvs:List (Key×V)} {k:Key} {v:V} (e:H a=some (.dK kvs)) (hl:kvs.length < sizeLine):DPut H a (kV k) v (upd H a (.dK (putK kvs k v))):=.inl ⟨kvs,k,e,rfl,hl,rfl⟩
section
variable {X:Cx} {pins:List (Addr×Obj)} {Z:St} {H:Hp} {s:Shared} {a:Addr} {y v:V} {u r:Value} {o:Option V} {A:Around} {E:Value->Shared->Prop}
theorem Inv.big (I:Inv X pins Z H s):sysModules < s.heap.objs.size:=by have h:mainGlobals < s.heap.objs.size:=(I.mod.glob.keeps I.bk).lt;exact Nat.lt_trans (by decide) h
theorem k88 {Q:Value->Shared->Prop} (hu:A.units + 1 < cLine) (I:Inv X pins Z H s) (g:DGet H a y (some v)) (ry:RelV y u) (h:∀ w' s',Inv X pins Z H s'->RelV v w'->Q w' s') :
  wpAny (model X.prog X.w) A (getItem (.ref a) u) Q E s:=by
 rcases g with ⟨kvs,k,e,ey,l⟩ | ⟨kvs,k,b,e,ey,eb,l⟩
 ·subst ey;obtain ⟨z,hd,vs,rel,dd⟩:=k42 I.hok e;obtain ⟨w',hw,rw'⟩:=RelO.some_of (v:=v) (o:=valueAt vs k) (by rw [l];exact rel.val k);exact wpAny_getItem_of (k4u ry) dd.mapOf hw (h w' _ (I.tok _) rw')
 ·subst ey;cases (show u=Value.ref b from ry);obtain ⟨z,hd,xs,rel,dd⟩:=k82 I.hok e;obtain ⟨w',hw,rw'⟩:=RelO.some_of (v:=v) (o:=(atKey xs k).map (·.2)) (by rw [l];exact rel.val k);obtain ⟨p,hp,hp2⟩:=Option.map_eq_some_iff.mp hw;refine wpAny_getItem_heap (tupleKind_room_in1 hu) (k0r I.hok eb) dd hp ?_;rw [hp2];exact h w' _ (I.tok _) rw'
theorem d_in {Q:Value->Shared->Prop} (hu:A.units + 1 < cLine) (I:Inv X pins Z H s) (g:DGet H a y o) (ry:RelV y u) (h:∀ s',Inv X pins Z H s'->Q (.bool o.isSome) s') :
  wpAny (model X.prog X.w) A (compareOp .In u (.ref a)) Q E s:=by
 rcases g with ⟨kvs,k,e,ey,l⟩ | ⟨kvs,k,b,e,ey,eb,l⟩
 ·subst ey;obtain ⟨z,hd,vs,rel,dd⟩:=k42 I.hok e;refine wpAny_in_of (k4u ry) hd dd.mapOf ?_;rw [<- (rel.val k).isSome_eq,<- l];exact h _ (I.tok _)
 ·subst ey;cases (show u=Value.ref b from ry);obtain ⟨z,hd,xs,rel,dd⟩:=k82 I.hok e;refine wpAny_in_heap (tupleKind_room_in1 hu) (k0r I.hok eb) hd dd ?_;have q:=(rel.val k).isSome_eq;rw [Option.isSome_map] at q;rw [<- q,<- l];exact h _ (I.tok _)
theorem w6a {Q:Value->Shared->Prop} (hu:A.units + 1 < cLine) (I:Inv X pins Z H s) (g:DGet H a y o) (ry:RelV y u) (h:∀ s',Inv X pins Z H s'->Q (.bool (!o.isSome)) s') :
  wpAny (model X.prog X.w) A (compareOp .NotIn u (.ref a)) Q E s:=by
 rcases g with ⟨kvs,k,e,ey,l⟩ | ⟨kvs,k,b,e,ey,eb,l⟩
 ·subst ey;obtain ⟨z,hd,vs,rel,dd⟩:=k42 I.hok e;refine wpAny_notIn_of (k4u ry) hd dd.mapOf ?_;rw [<- (rel.val k).isSome_eq,<- l];exact h _ (I.tok _)
 ·subst ey;cases (show u=Value.ref b from ry);obtain ⟨z,hd,xs,rel,dd⟩:=k82 I.hok e;refine wpAny_notIn_heap (tupleKind_room_in1 hu) (k0r I.hok eb) hd dd ?_;have q:=(rel.val k).isSome_eq;rw [Option.isSome_map] at q;rw [<- q,<- l];exact h _ (I.tok _)
theorem k2w {h':Heap} {t':Nat} {ob:HO} (I:Inv X pins Z H s) (mu:Mut (H a)) (hs:Heap.SameBut a s.heap h') (he:∃ q,h'.get? a=some q) (new:ObjOk X.prog X.w (upd H a ob) h' a ob) :
  Inv X pins Z (upd H a ob) { s with heap:=h',toks:=t'} :=
 I.write (x:=a) (e:=a) mu (.inl rfl) (fun b q hb z=>(hs.2 b hb).trans z) he new
theorem w23 {P:Program} {w:World} {H':Hp} {h':Heap} {kvs:List (Key×V)} {vs:List (Key×Value)} (z:kvs.length<=sizeLine) (hd:(a == sysModules)=false) (rel:KV kvs vs) (dd:h'.DictOf (j1k P w) a vs) :
  ObjOk P w H' h' a (.dK kvs):=⟨z,hd,vs,rel,dd⟩
theorem k87 {H':Hp} {Q:Unit->Shared->Prop} (hu:A.units + 1 < cLine) (I:Inv X pins Z H s) (g:DPut H a y v H') (ry:RelV y u) (rv:RelV v r) (h:∀ s',Inv X pins Z H' s'->Q () s') :
  wpAny (model X.prog X.w) A (setItem (.ref a) u r) Q E s:=by
 rcases g with ⟨kvs,k,e,ey,l,eH⟩ | ⟨kvs,k,b,e,ey,eb,l,eH⟩
 ·subst ey eH;obtain ⟨z,hd,vs,rel,dd⟩:=w85 I.hok e;have hz:vs.length<=sizeLine:=by rw [<- rel.length];exact z
  have hl:(putK kvs k v).length<=sizeLine:=by have:=j66 kvs k v;omega
  refine wpAny_setItem_pairs (hsz:=hz) (k4u ry) dd fun h' dd' hs=>h _ ?_;have he:∃ q,h'.get? a=some q:=let ⟨q,_,_,hq,_⟩:=dd';⟨q,hq⟩;exact k2w I (by rw [e];exact True.intro) hs he (w23 hl hd (rel.put k rv) dd')
 ·subst ey eH;cases (show u=Value.ref b from ry);obtain ⟨z,hd,xs,rel,dd⟩:=dt_of I.hok e;have hz:xs.length<=sizeLine:=by rw [<- Paired.length rel];exact z
  have hl:(putK kvs k v).length<=sizeLine:=by have:=j66 kvs k v;omega
  refine wpAny_setItem_heap (hsz:=hz) (tupleKind_room_in1 hu) (k0r I.hok eb) dd fun h' dd' hs=>h _ ?_;obtain ⟨q,es,ep,hq,h2,h3,h4,_,h5⟩:=dd';refine k2w I (by rw [e];exact True.intro) hs ⟨q,hq⟩ ⟨hl,hd,_,(rel.put k eb rv).keeps fun c ys ec=>?_,q,es,ep,hq,h2,h3,h4,h5⟩;rw [j0g (ne_of ec e (fun z=>nomatch z))];exact ec
end
section
variable {X:Cx} {pins:List (Addr×Obj)} {Z:St} {H:Hp} {s:Shared} {a:Addr} {kvs:List (Key×V)} {k:Key} {u:Value} {A:Around} {E:Value->Shared->Prop}
theorem k89 {Q:Unit->Shared->Prop} (I:Inv X pins Z H s) (e:H a=some (.dK kvs)) (ry:RelV (kV k) u) (l:(valV kvs k).isSome=true) (h:∀ s',Inv X pins Z (upd H a (.dK (j9u kvs k))) s'->Q () s') :
  wpAny (model X.prog X.w) A (delItem (.ref a) u) Q E s:=by
 obtain ⟨z,hd,vs,rel,dd⟩:=w85 I.hok e
 refine wpAny_delItem_slot dd.typeIs (by decide) PySem.F.slot_dict_delitem
  (call_meetsIn PySem.F.slot_dict_delitem dd.typeIs PySem.F.entry_dict_delitem (PySem.F.args_dict_delitem_2 _ _) (meets_dict_delitem_pairs (j1k X.prog X.w) a (k4u ry)) ⟨vs,dd,by rw [<- rel.length];exact z,by rw [<- (rel.val k).isSome_eq];exact l,fun h' dd' hs=>h _ ?_⟩)
 have he:∃ q,h'.get? a=some q:=let ⟨q,_,_,hq,_⟩:=dd';⟨q,hq⟩;exact k2w I (by rw [e];exact True.intro) hs he (w23 (Nat.le_trans (w1w kvs k) z) hd (rel.drop k) dd')
theorem d_len {Q:Value->Shared->Prop} (I:Inv X pins Z H s) (e:Rd H a (.dK kvs)) (h:∀ t s',Inv X pins Z H s'->Q (.int kvs.length t) s'):wpAny (model X.prog X.w) A (call (.builtin "len") [.ref a]) Q E s:=by obtain ⟨z,hd,vs,rel,dd⟩:=k42 I.hok e;refine call_len_dict hd dd (by rw [<- rel.length];rw [sizeLine_eq] at z;omega) ?_;rw [<- rel.length];exact h _ _ (I.tok _)
end
def NoSl (i:Expr):Prop:=∀ ov iv,subscripted i false ov iv=operate [ov,iv] (getItem ov iv)
theorem w3o {prog:Program} {w:World} {A:Around} {E:Value->Shared->Prop} {s:Shared} {env:Env} {value slice:Expr} {pos:Pos} {T id:String} {Q:Value->Shared->Prop}
  (hl:typeLookup (.type T) "__getitem__"=pure (some (.builtin id))) (hs:NoSl slice)
  (h:wpAny (model prog w) A (eval value env) (fun o s₁=>wpAny (model prog w) A (eval slice env) (fun i s₂=>s₂.TypeIs o T/\wpAny (model prog w) A (getItem o i) Q E s₂) E s₁) E s) :
  wpAny (model prog w) A (eval (.Subscript value slice pos) env) Q E s:=by
 refine Subscript_ (wpAny_mono h (fun o s₁ h₁=>wpAny_mono h₁ (fun i s₂ h₂=>?_) fun _ _ x=>x) fun _ _ x=>x);obtain ⟨hT,h₂⟩:=h₂;unfold subscriptTail;refine wB ?_;rw [getitemInPython_of_ne hT.not_modules];refine wB (wpAny_specialOf hT hl ?_)
 have fin:wpAny (model prog w) A (subscripted slice false o i) (fun r s₃=>wpAny (model prog w) A (letTemporaryGo value o r >>= fun _=>pure r) Q E s₃) E s₂:=by rw [hs o i];exact wpAny_operating (wpAny_mono h₂ (fun r s₃ h₃=>wB (wpAny_letTemporaryGo (wP h₃))) fun _ _ x=>x)
 first
  | exact wP (wB fin)
  | exact wB (wP (wB fin))
  | exact wB fin
theorem k2u {X:Cx} {pins:List (Addr×Obj)} {Z:St} {H:Hp} {s:Shared} {a:Addr} {y:V} {o:Option V} (I:Inv X pins Z H s) (g:DGet H a y o):s.TypeIs (.ref a) "dict":=by
 rcases g with ⟨kvs,k,e,_,_⟩ | ⟨kvs,k,b,e,_,_,_⟩
 ·obtain ⟨_,_,vs,_,dd⟩:=k42 I.hok e;exact dd.typeIs
 ·obtain ⟨_,_,xs,_,dd⟩:=k82 I.hok e;exact dd.typeIs
def w9y (td ty:TE):TE:=fun Z H Q=>td Z H fun x H1=>ty Z H1 fun y H2=>∃ a v,x=.ref a/\DGet H2 a y (some v)/\Q v H2
def tDIn (ty td:TE):TE:=fun Z H Q=>ty Z H fun y H1=>td Z H1 fun x H2=>∃ a o,x=.ref a/\DGet H2 a y o/\Q (.bl o.isSome) H2
def w3l (ty td:TE):TE:=fun Z H Q=>ty Z H fun y H1=>td Z H1 fun x H2=>∃ a o,x=.ref a/\DGet H2 a y o/\Q (.bl (!o.isSome)) H2
def w94 (td ty tv:TE):TS:=fun D Z H=>tv Z H fun v H1=>td Z H1 fun x H2=>ty Z H2 fun y H3=>∃ a H4,x=.ref a/\DPut H3 a y v H4/\D.nx Z H4
def w35 (td ty:TE):TS:=fun D Z H=>td Z H fun x H1=>ty Z H1 fun y H2=>∃ a kvs k,x=.ref a/\H2 a=some (.dK kvs)/\y=kV k/\(valV kvs k).isSome=true/\D.nx Z (upd H2 a (.dK (j9u kvs k)))
section
variable {X:Cx} {o i e value:Expr} {pos pos' tpos:Pos} {td ty tv:TE}
theorem k11 (hu:X.A.units + 1 < cLine) (ho:PE X o td) (hi:PE X i ty) (hs:NoSl i):PE X (.Subscript o i pos) (w9y td ty):=by intro pins s Z H Q I h;refine w3o PySem.F.slot_dict_getitem.lookup hs (thn (ho pins s Z H _ I h) fun u s1 ⟨x,H1,I1,rx,q1⟩=>thn (hi pins s1 Z H1 _ I1 q1) fun iv s2 ⟨y,H2,I2,ry,a,v,ex,g,q2⟩=>?_);subst ex;obtain rfl:u=Value.ref a:=rx;exact ⟨k2u I2 g,k88 hu I2 g ry fun w' s3 I3 rw'=>⟨v,H2,I3,rw',q2⟩⟩
theorem k64 (hu:X.A.units + 1 < cLine) (hi:PE X i ty) (ho:PE X o td):PC X .In i o (tDIn ty td):=by intro pins s Z H Q I h;refine thn (hi pins s Z H _ I h) fun iv s1 ⟨y,H1,I1,ry,q1⟩=>thn (ho pins s1 Z H1 _ I1 q1) fun u s2 ⟨x,H2,I2,rx,a,ov,ex,g,q2⟩=>?_;subst ex;obtain rfl:u=Value.ref a:=rx;exact d_in hu I2 g ry fun s3 I3=>⟨.bl ov.isSome,H2,I3,rfl,q2⟩
theorem k0k (hu:X.A.units + 1 < cLine) (hi:PE X i ty) (ho:PE X o td):PC X .NotIn i o (w3l ty td):=by intro pins s Z H Q I h;refine thn (hi pins s Z H _ I h) fun iv s1 ⟨y,H1,I1,ry,q1⟩=>thn (ho pins s1 Z H1 _ I1 q1) fun u s2 ⟨x,H2,I2,rx,a,ov,ex,g,q2⟩=>?_;subst ex;obtain rfl:u=Value.ref a:=rx;exact w6a hu I2 g ry fun s3 I3=>⟨.bl (!ov.isSome),H2,I3,rfl,q2⟩
theorem k1y (hu:X.A.units + 1 < cLine) (ho:PE X o td) (hi:PE X i ty) (hv:PE X value tv) (hs:swapsWith value (some (.Subscript o i pos')) pos.line X.env=pure false) :
  PS X (.Assign [.Subscript o i pos'] value pos) (w94 td ty tv):=by
 intro pins s Z H D I h;refine wpAny_Assign_Subscript (thn (hv pins s Z H _ I h) fun r s1 ⟨v,H1,I1,rv,q1⟩=>thn (ho pins s1 Z H1 _ I1 q1) fun u s2 ⟨x,H2,I2,rx,q2⟩=>thn (hi pins s2 Z H2 _ I2 q2) fun iv s3 ⟨y,H3,I3,ry,a,H4,ex,g,q3⟩=>?_) hs;subst ex;obtain rfl:u=Value.ref a:=rx;exact k87 hu I3 g ry rv fun s4 I4=>⟨Z,H4,I4,q3⟩
theorem k6u (ho:PE X o td) (hi:PE X i ty):PS X (.Delete [.Subscript o i tpos] pos) (w35 td ty):=by intro pins s Z H D I h;refine wpAny_Delete (wpAny_deleteEach_cons (wpAny_delete_Subscript (thn (ho pins s Z H _ I h) fun u s1 ⟨x,H1,I1,rx,q1⟩=>thn (hi pins s1 Z H1 _ I1 q1) fun iv s2 ⟨y,H2,I2,ry,a,kvs,k,ex,e,ey,l,q2⟩=>?_)));subst ex ey;obtain rfl:u=Value.ref a:=rx;exact k89 I2 e ry l fun s3 I3=>wpAny_deleteEach_nil ⟨Z,_,I3,q2⟩
end
theorem w1x {P:Program} {w:World} {H:Hp} (h:Heap) (hb:sysModules < h.objs.size):ObjOk P w H (h.push { cls:=.type "dict",data:=.dict #[]}) h.objs.size (.dK []) :=
 ⟨Nat.zero_le _,beq_eq_false_iff_ne.mpr (Ne.symm (Nat.ne_of_lt hb)),[],.nil,Heap.DictOf.new h⟩
def k5v:TE:=fun _ H Q=>∀ p,H p=none->Q (.ref p) (upd H p (.dK []))
section
variable {X:Cx} {pos:Pos}
theorem j87:PE X (.Dict [] [] pos) k5v:=fun pins s Z H Q I h =>
 wpAny_Dict_empty ⟨.ref s.heap.objs.size,_,I.laid (a:=s.heap.objs.size) (o:=.dK []) (t':=s.toks) (fun _ _ q=>Heap.get?_push_of_some _ q) (Nat.le_refl _) (w1x s.heap I.big),rfl,h _ (I.hok.fresh (Nat.le_refl _))⟩
end
structure M1 (X:Cx) (o:Expr) (m:Str) (apos:Pos) (e:Expr) (cpos:Pos):Prop where
 base:attributeBase o m X.env (eval o X.env)=eval o X.env
 few:((backTo cpos (starEach [e] X.env)).all (fun x=>!x.1)&&(backToKw cpos (keywordEach [] X.env)).all (fun x=>x.1.isSome)
  && decide (([e]:List Expr).length + ([]:List Keyword).length + (if ([]:List Keyword).isEmpty then 0 else 1) < 30))=true
 line:(apos.endLine == cpos.line)=true
 trees:backTo cpos (starEach [e] X.env)=[(false,eval e X.env)]
structure M2 (X:Cx) (o:Expr) (m:Str) (apos:Pos) (e f:Expr) (cpos:Pos):Prop where
 base:attributeBase o m X.env (eval o X.env)=eval o X.env
 few:((backTo cpos (starEach [e,f] X.env)).all (fun x=>!x.1)&&(backToKw cpos (keywordEach [] X.env)).all (fun x=>x.1.isSome)
  && decide (([e,f]:List Expr).length + ([]:List Keyword).length + (if ([]:List Keyword).isEmpty then 0 else 1) < 30))=true
 line:(apos.endLine == cpos.line)=true
 trees:backTo cpos (starEach [e,f] X.env)=[(false,eval e X.env),(false,eval f X.env)]
end L2
namespace Att
open PySem PySem.W PySem.Calls PyProof.Rows
theorem j7b {P:Params} {h:Heap}:∀ (ns:List Int) (vs:List Value),WellAll P h vs (ns.map WData.int)->IntsAre vs ns:=by
 intro ns
 induction ns with
 | nil =>
  intro vs w;rw [List.map_nil] at w;cases w;exact .nil
 | cons n ns ih =>
  intro vs w;rw [List.map_cons] at w
  cases w with
  | cons a b =>
   cases a;exact .cons _ _ (ih _ b)
theorem k50 {l:OpenLaw} {n:Nat} (hn:l.most=some n) {P:Params} {h:Heap} {args:List WData} {vals:List Value}
  (hpre:l.row.toRowW.claim.pre args=true) (hwl:WellAll P h vals args) :
  ∃ a vs ns,vals=[Value.ref a]/\args=[WData.list (ns.map WData.int)]/\h.get? a=some { cls:=.type "list",data:=.seq vs.toArray}/\IntsAre vs ns/\ns.length<=n:=by
 have hsh:WShape.hasAll [] args [.list .int]=true:=(pre_splitW hpre).1;have hc:l.pre.holds [] { args:=args}=true:=(pre_splitW hpre).2;obtain ⟨d,r,rfl,h1,h2⟩:=hasAllW_cons hsh;obtain rfl:=hasAllW_nil h2;obtain ⟨xs,rfl,h3⟩:=hasW_list h1;obtain ⟨ns,rfl⟩:=items_int h3
 have hlen:ns.length<=n:=by
  unfold OpenLaw.pre at hc
  have h4:(WTm.not (.lt (.lit (.int (n:Int))) (.len (.arg 0)))).holds [] { args:=[.list (ns.map .int)]}=true:=by have h4:=(holds_andW hc).1;rw [hn] at h4;exact h4
  have h5:=condW_of h4 (w_not (w_lt w_lit (w_len_list (w_arg rfl))));rw [List.length_map] at h5;refine Nat.le_of_not_lt fun q=>?_;have q':(n:Int) < ((ns.length:Nat):Int):=by omega
  first
   | (rw [decide_eq_true q'] at h5;exact absurd h5 (by decide))
   | (simp at h5;omega)
 cases hwl with
 | cons w1 w2 =>
  cases w2
  cases w1 with
  | list ho hall=>exact ⟨_,_,ns,rfl,rfl,ho,j7b ns _ hall,hlen⟩
theorem k6w (l:OpenLaw) (args:List WData):l.row.toRowW.claim.post args (.bool true) args=true :=
 postW_of (r:=l.row.toRowW) (X:=(true == true))
  (show WShape.has [] (.bool true) .bool=true by first | rfl | decide | simp [WShape.has,WShape.arms,WShape.armsAll])
  (show (WTm.eq .res (.lit (.bool true))).value [] { args:=args,res:=some (.bool true),after:=args}=some (.bool (true == true)) from w_eq_bool (w_res rfl) w_lit) rfl
theorem attach_call {l:OpenLaw} {n:Nat} {q:Program} {loose:List Str} {XP:(Str->Option Value)->Heap->Prop} {YP:World->Heap->Prop} {d:DefRec}
  (hn:l.most=some n) (hdf:d.params.defaults=[])
  (call:∀ (w:World) (s₀ s₁:Shared) (mg mb:Str->Option Value) (fa:Addr) (o:Obj) (pm cd doc:Value) (a:Addr) (vs:List Value) (ns:List Int),
   Ground q loose [] XP w s₀ mg mb s₁.heap->YP w s₁.heap ->
   s₁.heap.get? fa=some o->o.data=.func (docDef d.name d.params d.body d.scope pm cd doc)->s₁.heap.CodeRec cd d.name->mg d.name=some (.ref fa) ->
   s₁.heap.get? a=some { cls:=.type "list",data:=.seq vs.toArray}->IntsAre vs ns->ns.length<=n->s₁.gens=#[] ->
   codeAny (model l.prog w) callerA (.call (.ref fa) ⟨[.ref a],[]⟩) (fun r s'=>r=.ok (.ret (.bool true))/\OldK s₁.heap s'.heap/\s'.os=s₁.os/\AllBare s'.gens) s₁) :
  WalkO q loose XP YP l.row.toRowW d [] (fun f vs=>PySem.call f vs):=by
 intro w s₀ s₁ mg mb G Yy fa o pm cd doc dV kV ho hd hcd hD hmg hg args vals as hpre hlay hrd hwl hlo;obtain rfl:dV=.none:=Dflts.none hD hdf;obtain rfl:kV=.none:=Dflts.noKw hD;obtain ⟨a,vs,ns,rfl,rfl,hobj,hints,hlen⟩:=k50 hn hpre hwl;refine enter_call (codeAny_mono (call w s₀ s₁ mg mb fa o pm cd doc a vs ns G Yy ho (fd_plain hd) hcd hmg hobj hints hlen hg) fun r s' hq=>?_);obtain ⟨rfl,h2,h3,h4⟩:=hq;exact ⟨.inl ⟨.bool true,.bool true,[],rfl,fun _=>rfl,.bool true,k6w l _,fun _=>⟨List.Pairwise.nil,fun _ hm=>(nomatch hm)⟩⟩,h2,h3,h4⟩
end Att
namespace L2
open PySem PySem.Spec PyProof.Rows
theorem j6l:∀ {vs:List Value} {ns:List Int},IntsAre vs ns->Vals (ns.map V.int) vs
 | _,_,.nil=>.nil
 | _,_,.cons n t h=>.cons ⟨t,rfl⟩ (j6l h)
end L2
namespace L2
open PySem PySem.Spec PyProof.Rows
def j2t (s:Stmt):Arguments:=match s with
 | .FunctionDef _ a _ _ _ _ _ _ _ _=>a
 | _=>{ posonlyargs:=[],args:=[],vararg:=none,kwonlyargs:=[],kw_defaults:=[],kwarg:=none,defaults:=[]}
def j1n (s:Stmt):List Stmt:=match s with
 | .FunctionDef _ _ b _ _ _ _ _ _ _=>b
 | _=>[]
def j0c (s:Stmt):Scope:=match s with
 | .FunctionDef _ _ _ _ _ _ sc _ _ _=>sc
 | _=>{ kind:=.function,names:=[],isGenerator:=false,isCoroutine:=false}
abbrev CX0:CXT:=fun _ _ _ _ _ _=>False
structure Fun (K:PySem.W.Frag) (x qual:Str) (st:Stmt) (f:Addr) (fd:FuncData):Prop where
 ex:∃ (oc:Value) (od:Option Addr) (kV doc pm:Value) (an:Option Addr) (cdv ct:Value) (osl:Array (Option Value)),
  fd=PySem.W.fnOf x qual (j2t st) (j1n st) (j0c st) .none kV doc pm an cdv ct/\K.lookup f=some ⟨oc,od,.func fd,osl⟩/\PySem.W.codeIn K cdv qual=true
 kp:PySem.W.keepIn K (.ref f)=true
section
variable {P:Program} {w:World} {K:PySem.W.Frag} {mg:Str->Option Value} {base:Heap}
theorem Fun.ok {x qual:Str} {st:Stmt} {f:Addr} {fd:FuncData} {N ps:List Str} {k:Nat} {sp:Sp} (F:Fun K x qual st f fd) (S:FnScope N ps (j0c st)) (len:∀ vs H Q E,sp vs H Q E->vs.length=ps.length)
  (hbody:∀ (cdv:Value) (A:Around) (outer:List Env) (s:Shared) (H:Hp) (vs:List V) (Q:VK) (E:XK),Room k (A.deeper (envOfC qual (j0c st) s.heap.objs.size f cdv))->sp vs H Q E ->
   ∃ t,PSs (cxOf CX0 P w K mg base N qual (j0c st) f cdv A outer s H E).nox (j1n st) t/\t { nx:=fun _ H'=>Q .non H',rt:=Q} (start N vs) H):FnOk P w K mg base CX0 (k + 1) f fd ps sp:=by
 obtain ⟨oc,od,kV,doc,pm,an,cdv,ct,osl,rfl,lk,hcd⟩:=F.ex;refine k8n lk hcd S len fun A outer s H vs Q E hr hsp=>?_;obtain ⟨t,h,q⟩:=hbody cdv A outer s H vs Q E hr hsp;exact ⟨t,h.nox,q⟩
theorem Fun.binds {x qual:Str} {st:Stmt} {f:Addr} {fd:FuncData} {ps:List Str} (F:Fun K x qual st f fd)
  (h:∀ (kV doc pm:Value) (an:Option Addr) (cdv ct:Value) (us:List Value),us.length=ps.length->bindArgs (PySem.W.fnOf x qual (j2t st) (j1n st) (j0c st) .none kV doc pm an cdv ct) ⟨us,[]⟩=pure (ps.zip us)):Binds K fd ps []:=by
 obtain ⟨oc,od,kV,doc,pm,an,cdv,ct,osl,rfl,lk,hcd⟩:=F.ex;exact .all (h kV doc pm an cdv ct)
theorem k3y {x qual:Str} {st:Stmt} {f:Addr} {oc:Value} {od an:Option Addr} {osl:Array (Option Value)} {kV doc pm cdv ct:Value} (l:K.lookup f=some ⟨oc,od,.func (PySem.W.fnOf x qual (j2t st) (j1n st) (j0c st) .none kV doc pm an cdv ct),osl⟩)
  (c:PySem.W.codeIn K cdv qual=true) (k:PySem.W.keepIn K (.ref f)=true):Fun K x qual st f (PySem.W.fnOf x qual (j2t st) (j1n st) (j0c st) .none kV doc pm an cdv ct):=⟨⟨oc,od,kV,doc,pm,an,cdv,ct,osl,rfl,l,c⟩,k⟩
end
theorem k5y {n:Nat} (h:n<=1000):n < sizeLine:=Nat.lt_of_le_of_lt h (by decide)
section
variable {X:Cx}
theorem pv (i:Nat) {x:Str} {pos:Pos} (hN:X.N[i]?=some x:=by rfl) (hv:Vis X.env.scope x:=by first | exact Or.inl rfl | exact Or.inr (Or.inl rfl) | exact Or.inr (Or.inr rfl)) (hd:(x == ("__debug__":Str))=false:=by decide)
  (hcd:(x == ("__classdict__":Str))=false:=by decide):PE X (.Name x pos) (tVar i):=w7t hN hv hd hcd
theorem k9h:j3l X (.builtin "len") (fun xs H Q=>∃ a kvs,xs=[V.ref a]/\H a=some (.dK kvs)/\Q (.int kvs.length) H):=by intro pins s Z H xs us Q I r h;obtain ⟨a,kvs,rfl,ha,q⟩:=h;obtain ⟨u,rfl,ru⟩:=j56 r;cases ru;exact d_len I (.inl ha) fun t s' I'=>⟨.int kvs.length,H,I',⟨t,rfl⟩,q⟩
end
theorem iteT {A B:Prop} (h:A):if true=true then A else B:=by rw [if_pos rfl];exact h
theorem ite2 {c A B:Prop} [Decidable c] (h1:c->A) (h2:¬ c->B):if c then A else B:=by
 by_cases h:c
 ·rw [if_pos h];exact h1 h
 ·rw [if_neg h];exact h2 h
def Same (H H':Hp):Prop:=∀ b o,H b=some o->H' b=some o
theorem Same.trans {H H1 H2:Hp} (a:Same H H1) (b:Same H1 H2):Same H H2:=fun c o h=>b c o (a c o h)
theorem Same.free {H H':Hp} (e:Same H H') {l:Addr} (h:H' l=Option.none):H l=Option.none:=by
 cases q:H l with
 | none=>rfl
 | some o =>
  rw [e l o q] at h;cases h
theorem Same.seq {K:PySem.W.Frag} {H H':Hp} {a:Addr} {xs:List V} (e:Same H H') (h:SqL K H a xs):SqL K H' a xs:=by
 rcases h with (h | ⟨o,h⟩) | h
 ·exact .inl (.inl (e _ _ h))
 ·exact .inl (.inr ⟨o,e _ _ h⟩)
 ·exact .inr h
end L2
namespace SX
open PySem
def Rise (ps:Array Nat):Prop:=ps.toList.Pairwise (· < ·)
theorem j83 {ps:Array Nat} (r:Rise ps) {i j a b:Nat} (hi:ps.toList[i]?=some a) (hj:ps.toList[j]?=some b) (h:i < j):a < b:=by obtain ⟨h1,e1⟩:=List.getElem?_eq_some_iff.mp hi;obtain ⟨h2,e2⟩:=List.getElem?_eq_some_iff.mp hj;have:=List.pairwise_iff_getElem.mp r i j h1 h2 h;rw [e1,e2] at this;exact this
theorem w5x (ps:Array Nat) (j:Nat) (r:Rise ps):∀ (fuel lo hi:Nat),lo<=hi->hi<=ps.size->hi - lo<=fuel ->
  (∀ i a,i < lo->ps.toList[i]?=some a->a < j)->(∀ i a,hi<=i->ps.toList[i]?=some a->j<=a) ->
  SetTable.below.go ps j fuel lo hi<=ps.size/\(∀ i a,i < SetTable.below.go ps j fuel lo hi->ps.toList[i]?=some a->a < j) /\
   (∀ i a,SetTable.below.go ps j fuel lo hi<=i->ps.toList[i]?=some a->j<=a):=by
 intro fuel
 induction fuel with
 | zero =>
  intro lo hi h1 h2 h3 hl hh;have e:lo=hi:=by omega
  subst e;exact ⟨h2,hl,hh⟩
 | succ fuel ih =>
  intro lo hi h1 h2 h3 hl hh;unfold SetTable.below.go;by_cases hlt:lo < hi
  ·rw [if_pos hlt];dsimp only;have hm:(lo + hi) / 2 < hi:=by omega
   have hm2:lo<=(lo + hi) / 2:=by omega
   have hms:(lo + hi) / 2 < ps.size:=by omega
   have hget:ps.toList[(lo + hi) / 2]?=some (ps.getD ((lo + hi) / 2) j):=by rw [Array.getElem?_toList,Array.getD_eq_getD_getElem?];rw [Array.getElem?_eq_getElem hms];rfl
   by_cases hc:ps.getD ((lo + hi) / 2) j < j
   ·rw [if_pos hc];refine ih _ _ (by omega) h2 (by omega) (fun i a hi' e=>?_) hh;by_cases he:i=(lo + hi) / 2
    ·subst he;rw [hget] at e;cases e;exact hc
    ·have:=j83 r e hget (by omega);omega
   ·rw [if_neg hc];refine ih _ _ (by omega) (by omega) (by omega) hl (fun i a hi' e=>?_);by_cases he:i=(lo + hi) / 2
    ·subst he;rw [hget] at e;cases e;omega
    ·have:=j83 r hget e (by omega);omega
  ·rw [if_neg hlt];have e:lo=hi:=by omega
   subst e;exact ⟨h2,hl,hh⟩
theorem j4b {ps:Array Nat} (r:Rise ps) (j:Nat):SetTable.below ps j<=ps.size/\(∀ i a,i < SetTable.below ps j->ps.toList[i]?=some a->a < j) /\
  (∀ i a,SetTable.below ps j<=i->ps.toList[i]?=some a->j<=a):=by
 refine w5x ps j r ps.size 0 ps.size (Nat.zero_le _) (Nat.le_refl _) (by omega) (fun i a h=>by omega) (fun i a h e=>?_);have:=(List.getElem?_eq_some_iff.mp e).1;rw [Array.length_toList] at this;omega
theorem w11 {ps:Array Nat} (r:Rise ps) {i j:Nat} (h:ps.toList[i]?=some j):SetTable.below ps j=i:=by
 obtain ⟨h1,h2,h3⟩:=j4b r j;rcases Nat.lt_trichotomy (SetTable.below ps j) i with q | q | q
 ·cases e:ps.toList[SetTable.below ps j]? with
  | none =>
   have:=List.getElem?_eq_none_iff.mp e;have:=(List.getElem?_eq_some_iff.mp h).1;omega
  | some a =>
   have:=j83 r e h q;have:=h3 _ a (Nat.le_refl _) e;omega
 ·exact q
 ·have:=h2 i j q h;omega
theorem k45 {ps:Array Nat} (r:Rise ps) {i j:Nat} (h:ps.toList[i]?=some j):SetTable.below ps (j + 1)=i + 1:=by
 obtain ⟨h1,h2,h3⟩:=j4b r (j + 1);rcases Nat.lt_trichotomy (SetTable.below ps (j + 1)) (i + 1) with q | q | q
 ·have:=h3 i j (by omega) h;omega
 ·exact q
 ·cases e:ps.toList[i + 1]? with
  | none =>
   have:=List.getElem?_eq_none_iff.mp e;rw [Array.length_toList] at this;omega
  | some a =>
   have:=j83 r h e (by omega);have:=h2 (i + 1) a q e;omega
theorem k44 {ps:Array Nat} (r:Rise ps):SetTable.below ps 0=0:=by
 obtain ⟨h1,h2,h3⟩:=j4b r 0
 cases e:SetTable.below ps 0 with
 | zero=>rfl
 | succ k =>
  cases e2:ps.toList[0]? with
  | none =>
   have:=List.getElem?_eq_none_iff.mp e2;rw [Array.length_toList] at this;omega
  | some a =>
   have:=h2 0 a (by omega) e2;omega
theorem j3n {Y:Type} (xs:Array Y) (p:Nat):(SetTable.eraseAt xs p).toList=xs.toList.take p++xs.toList.drop (p + 1):=by unfold SetTable.eraseAt;rw [Array.toList_append,Array.toList_extract,Array.toList_extract];simp [List.take_of_length_le]
theorem j7t {Y:Type} (xs:Array Y) (p:Nat) (x:Y):(SetTable.insertAt xs p x).toList=xs.toList.take p++x :: xs.toList.drop p:=by unfold SetTable.insertAt;rw [Array.toList_append,Array.toList_push,Array.toList_extract,Array.toList_extract];simp [List.take_of_length_le]
theorem k4h {ps:Array Nat} (r:Rise ps) (p:Nat):Rise (SetTable.eraseAt ps p):=by
 unfold Rise;rw [j3n];refine List.Pairwise.sublist ?_ r
 conv=>rhs;rw [<- List.take_append_drop p ps.toList]
 exact List.Sublist.append (List.Sublist.refl _) (List.drop_sublist_drop_left _ (Nat.le_succ p))
theorem w0h {ps:Array Nat} (r:Rise ps) {j:Nat} (hj:j∉ps.toList):Rise (SetTable.insertAt ps (SetTable.below ps j) j):=by
 obtain ⟨h1,h2,h3⟩:=j4b r j;unfold Rise;rw [j7t];have r':(ps.toList.take (SetTable.below ps j)++ps.toList.drop (SetTable.below ps j)).Pairwise (· < ·):=by rw [List.take_append_drop];exact r
 obtain ⟨a1,a2,a3⟩:=List.pairwise_append.mp r'
 have lo:∀ a∈ps.toList.take (SetTable.below ps j),a < j:=fun a ha=>by
  obtain ⟨i,e⟩:=List.getElem?_of_mem ha;rw [List.getElem?_take] at e;split at e
  ·exact h2 i a (by assumption) e
  ·cases e
 have hi:∀ a∈ps.toList.drop (SetTable.below ps j),j < a:=fun a ha=>by obtain ⟨i,e⟩:=List.getElem?_of_mem ha;rw [List.getElem?_drop] at e;have:=h3 _ a (Nat.le_add_right _ i) e;have:j≠a:=fun q=>hj (by rw [q];exact List.mem_of_mem_drop ha);omega
 refine List.pairwise_append.mpr ⟨a1,List.pairwise_cons.mpr ⟨hi,a2⟩,fun a ha b hb=>?_⟩;rcases List.mem_cons.mp hb with q | q
 ·rw [q];exact lo a ha
 ·exact a3 a ha b q
theorem k7t {t:SetTable} (r:Rise t.place) {j:Nat} (h:∀ i,t.slot j≠.live i):j∉t.place.toList:=fun hm=>by obtain ⟨i,e⟩:=List.getElem?_of_mem hm;have hb:=w11 r e;refine h (SetTable.below t.place j) ?_;unfold SetTable.slot;dsimp only;rw [if_pos];rw [hb,<- Array.getElem?_toList,e];simp
theorem k4i {t:SetTable} {ha:Nat->Int} {h:Int}:∀ (fuel:Nat) (p:SetTable.Probe),(∀ d,p.dummy=some d->∀ i,t.slot d≠.live i) ->
  ∀ j dm,SetTable.probe.go t ha h fuel p=some (.empty j dm)->∀ i,t.slot (dm.getD j)≠.live i:=by
 intro fuel
 induction fuel with
 | zero=>intro p _ j dm e;cases e
 | succ fuel ih =>
  intro p hd j dm e;unfold SetTable.probe.go at e
  cases q:t.slot p.j with
  | empty =>
   rw [q] at e;dsimp only at e;injection e with e;injection e with e1 e2;subst e1 e2
   cases q2:p.dummy with
   | none=>intro i z;rw [Option.getD_none,q] at z;cases z
   | some d=>exact hd d q2
  | dummy =>
   rw [q] at e;dsimp only at e;refine ih _ (fun d hd' i z=>?_) j dm e
   have:d=p.j:=by
    unfold SetTable.advance at hd';split at hd'
    ·injection hd' with hd';exact hd'.symm
    ·injection hd' with hd';exact hd'.symm
   rw [this,q] at z;cases z
  | live k =>
   rw [q] at e;dsimp only at e;split at e
   ·cases e
   ·refine ih _ (fun d hd'=>?_) j dm e
    have:p.dummy=some d:=by unfold SetTable.advance at hd';split at hd'<;>exact hd'
    exact hd d this
theorem k2o {t:SetTable} {h:Int} {j:Nat} {b:Bool} (r:Rise t.place) (e:t.freeSlot h=some (j,b)):j∉t.place.toList:=by
 refine k7t r ?_;unfold SetTable.freeSlot SetTable.probe at e;split at e
 ·rename_i j' dm e'
  injection e with e;injection e with e1 e2;subst e1;exact k4i _ _ (fun d q=>by cases q) j' dm e'
 ·cases e
theorem j69 {mask fg mv:Nat} {led pl:Bool} {hs:Array Int} {t:SetTable} {od:Array Nat} (e:SetTable.laid mask fg mv led pl hs=some (t,od)) :
  Rise t.place/\t.led=led/\t.plain=pl/\t.mask=mask/\t.dummies=#[]/\t.place.size=od.size:=by
 unfold SetTable.laid at e
 cases q:SetTable.layClean mask hs with
 | none=>rw [q] at e;cases e
 | some ow =>
  rw [q] at e;injection e with e;injection e with e1 e2;subst e1 e2;refine ⟨?_,rfl,rfl,rfl,rfl,by simp⟩;unfold Rise;dsimp only;rw [List.map_filterMap];show List.Pairwise (· < ·) (List.filterMap _ _);rw [List.pairwise_filterMap];refine List.Pairwise.imp ?_ List.pairwise_lt_range;intro a b hab x hx y hy
  have hx':x=a:=by revert hx;cases (ow.getD a none)<;>simp;intro z;exact z.symm
  have hy':y=b:=by revert hy;cases (ow.getD b none)<;>simp;intro z;exact z.symm
  subst hx' hy';exact hab
end SX
namespace SX
open PySem
def st5 (m i:Nat):Nat:=(i * 5 + 1) % (m + 1)
def itn (m:Nat):Nat->Nat->Nat
 | 0,i=>i
 | n + 1,i=>itn m n (st5 m i)
def orb (m:Nat):Nat->Nat->List Nat
 | 0,_=>[]
 | n + 1,i=>i :: orb m n (st5 m i)
theorem k2l (m a b i:Nat):itn m (a + b) i=itn m b (itn m a i):=by
 induction a generalizing i with
 | zero=>rw [Nat.zero_add];rfl
 | succ a ih=>rw [Nat.succ_add];exact ih _
theorem w45 (m:Nat):∀ (n i k:Nat),k∈orb m n i->∃ a,a < n/\itn m a i=k:=by
 intro n
 induction n with
 | zero=>intro i k h;cases h
 | succ n ih =>
  intro i k h;rcases List.mem_cons.mp h with q | q
  ·exact ⟨0,by omega,q.symm⟩
  ·obtain ⟨a,ha,e⟩:=ih _ _ q;exact ⟨a + 1,by omega,e⟩
def cyc (m:Nat):Bool:=itn m (m + 1) 0 == 0&&(List.range (m + 1)).all fun k=>(orb m (m + 1) 0).contains k
theorem k01 {m:Nat} (h:cyc m=true):∀ i k,i<=m->k<=m->∃ n,n<=m/\itn m n i=k:=by
 obtain ⟨h0,h1⟩:=Bool.and_eq_true_iff.mp h;have h0:itn m (m + 1) 0=0:=by simpa using h0
 have hit:∀ k,k<=m->∃ a,a < m + 1/\itn m a 0=k:=fun k hk=>by have:=List.all_eq_true.mp h1 k (List.mem_range.mpr (by omega));exact w45 m _ _ _ (by simpa using this)
 intro i k hi hk;obtain ⟨a,ha,ea⟩:=hit i hi;obtain ⟨b,hb,eb⟩:=hit k hk;by_cases hab:a<=b
 ·refine ⟨b - a,by omega,?_⟩;rw [<- ea,<- k2l,show a + (b - a)=b by omega,eb]
 ·refine ⟨m + 1 - a + b,by omega,?_⟩;rw [<- ea,<- k2l,show a + (m + 1 - a + b)=(m + 1) + b by omega,k2l,h0,eb]
theorem k0d {m i:Nat} (h:i<=m):SetTable.runEnd m i<=m/\i<=SetTable.runEnd m i:=by unfold SetTable.runEnd;split<;>omega
theorem w50 {m:Nat} {ow:Array (Option Nat)}:∀ (fuel i p:Nat),i<=m->∀ j,SetTable.layClean.free m ow fuel i p=some j->j<=m/\ow.getD j (some 0)=none:=by
 intro fuel
 induction fuel with
 | zero=>intro i p _ j e;cases e
 | succ fuel ih =>
  intro i p hi j e;unfold SetTable.layClean.free at e;split at e
  ·rename_i k hk
   injection e with e;subst e;have h1:=List.find?_some hk;have h2:=List.mem_range.mp (List.mem_of_find?_eq_some hk);have:=k0d hi;refine ⟨by omega,?_⟩;simpa [Option.isNone_iff_eq_none] using h1
  ·dsimp only at e;refine ih _ _ ?_ j e;show (SetTable.leap m i p).1<=m;unfold SetTable.leap;have:=Nat.mod_lt (i * 5 + 1 + p / 32) (Nat.succ_pos m);exact Nat.le_of_lt_succ this
theorem k4y {m:Nat} {ow:Array (Option Nat)} {k:Nat} (hk:ow.getD k (some 0)=none):∀ (n fuel i:Nat),i<=m->n < fuel->itn m n i=k->∃ j,SetTable.layClean.free m ow fuel i 0=some j:=by
 intro n
 induction n with
 | zero =>
  intro fuel i hi hf e;obtain ⟨fuel,rfl⟩:∃ f,fuel=f + 1:=⟨fuel - 1,by omega⟩;have e:i=k:=e;subst e;unfold SetTable.layClean.free;split
  ·exact ⟨_,rfl⟩
  ·rename_i q
   have:=List.find?_eq_none.mp q 0 (List.mem_range.mpr (by have:=(k0d hi).2;omega));rw [Nat.add_zero,hk] at this;exact absurd rfl this
 | succ n ih =>
  intro fuel i hi hf e;obtain ⟨fuel,rfl⟩:∃ f,fuel=f + 1:=⟨fuel - 1,by omega⟩;unfold SetTable.layClean.free;split
  ·exact ⟨_,rfl⟩
  ·dsimp only
   have e1:SetTable.leap m i 0=(st5 m i,0):=by unfold SetTable.leap st5;simp
   rw [e1];exact ih fuel (st5 m i) (Nat.le_of_lt_succ (Nat.mod_lt _ (Nat.succ_pos m))) (by omega) e
theorem k8m {m:Nat} {ow:Array (Option Nat)} (hc:cyc m=true) {k:Nat} (hkm:k<=m) (hk:ow.getD k (some 0)=none):∀ (c fuel i p:Nat),i<=m->p < 32 ^ c->c + m + 1<=fuel->∃ j,SetTable.layClean.free m ow fuel i p=some j:=by
 intro c
 induction c with
 | zero =>
  intro fuel i p hi hp hf;have:p=0:=by rw [Nat.pow_zero] at hp;omega
  subst this;obtain ⟨n,hn,e⟩:=k01 hc i k hi hkm;exact k4y hk n fuel i hi (by omega) e
 | succ c ih =>
  intro fuel i p hi hp hf;obtain ⟨fuel,rfl⟩:∃ f,fuel=f + 1:=⟨fuel - 1,by omega⟩;unfold SetTable.layClean.free;split
  ·exact ⟨_,rfl⟩
  ·dsimp only;unfold SetTable.leap;dsimp only;refine ih fuel _ (p / 32) (Nat.le_of_lt_succ (Nat.mod_lt _ (Nat.succ_pos m))) ?_ (by omega);rw [Nat.pow_succ] at hp;exact Nat.div_lt_of_lt_mul (by rw [Nat.mul_comm];exact hp)
theorem k93 (x:Nat):∀ (l:List (Option Nat)) (j:Nat),l[j]?=some none->((l.set j (some x)).filterMap id).Perm (x :: l.filterMap id):=by
 intro l
 induction l with
 | nil=>intro j h;simp at h
 | cons a l ih =>
  intro j h
  cases j with
  | zero =>
   have:a=none:=by simpa using h
   subst this;simp
  | succ j =>
   have h':l[j]?=some none:=by simpa using h
   cases a with
   | none=>simpa using ih j h'
   | some y =>
    have:=ih j h';simp only [List.set_cons_succ,List.filterMap_cons,id];exact (List.Perm.cons y this).trans (List.Perm.swap x y _)
theorem w1i:∀ (l:List (Option Nat)),(l.filterMap id).length < l.length->∃ j:Nat,l[j]?=some none:=by
 intro l
 induction l with
 | nil=>intro h;simp at h
 | cons a l ih =>
  intro h
  cases a with
  | none=>exact ⟨0,rfl⟩
  | some y =>
   obtain ⟨j,e⟩:=ih (by simpa using h);exact ⟨j + 1,by simpa using e⟩
theorem k9m (h:Int):SetTable.bits h < 32 ^ 13:=by
 unfold SetTable.bits;have h1:h % (2 ^ 64:Int) < 2 ^ 64:=Int.emod_lt_of_pos _ (by decide);have h2:0<=h % (2 ^ 64:Int):=Int.emod_nonneg _ (by decide);have h3:(h % (2 ^ 64:Int)).toNat < 2 ^ 64:=by omega
 exact Nat.lt_of_lt_of_le h3 (by decide)
theorem w1h {m:Nat} (hc:cyc m=true):∀ (hs:List Int) (ow:Array (Option Nat)) (k:Nat),ow.size=m + 1->(ow.toList.filterMap id).Perm (List.range k)->k + hs.length<=m ->
  ∃ ow',(hs.foldl (init:=some (ow,k)) fun acc h=>do
   let (owner,k) <- acc
   let j <- SetTable.layClean.free m owner (SetTable.turns m) (SetTable.bits h % (m + 1)) (SetTable.bits h)
   pure (owner.setIfInBounds j (some k),k + 1))=some (ow',k + hs.length)/\ow'.size=m + 1/\(ow'.toList.filterMap id).Perm (List.range (k + hs.length)):=by
 intro hs
 induction hs with
 | nil=>intro ow k h1 h2 h3;exact ⟨ow,rfl,h1,h2⟩
 | cons h hs ih =>
  intro ow k h1 h2 h3
  have hlen:(ow.toList.filterMap id).length < ow.toList.length:=by rw [h2.length_eq,List.length_range,Array.length_toList,h1];omega
  obtain ⟨k0,e0⟩:=w1i _ hlen
  have hk0:k0 < m + 1:=by have:=(List.getElem?_eq_some_iff.mp e0).1;rw [Array.length_toList,h1] at this;exact this
  have hn0:ow.getD k0 (some 0)=none:=by rw [Array.getD_eq_getD_getElem?,<- Array.getElem?_toList,e0];rfl
  have hi:SetTable.bits h % (m + 1)<=m:=Nat.le_of_lt_succ (Nat.mod_lt _ (Nat.succ_pos m));obtain ⟨j,ej⟩:=k8m hc (Nat.le_of_lt_succ hk0) hn0 13 (SetTable.turns m) (SetTable.bits h % (m + 1)) (SetTable.bits h) hi (k9m h) (by unfold SetTable.turns;omega);obtain ⟨hjm,hj⟩:=w50 _ _ _ hi j ej
  have hjl:ow.toList[j]?=some none:=by
   rw [Array.getD_eq_getD_getElem?] at hj;rw [Array.getElem?_toList]
   cases q:ow[j]? with
   | none=>rw [q] at hj;cases hj
   | some z=>rw [q] at hj;have hj':z=none:=hj;rw [hj']
  obtain ⟨ow',e',s',p'⟩:=ih (ow.setIfInBounds j (some k)) (k + 1) (by rw [Array.size_setIfInBounds];exact h1) (by
   rw [Array.toList_setIfInBounds];refine (k93 k _ _ hjl).trans ((List.Perm.cons k h2).trans ?_);rw [List.range_succ]
   exact (List.perm_append_comm (l₁:=[k]) (l₂:=List.range k))) (by simp at h3;omega)
  refine ⟨ow',?_,s',?_⟩
  ·rw [List.foldl_cons]
   have:(do
     let (owner,k) <- some (ow,k)
     let j <- SetTable.layClean.free m owner (SetTable.turns m) (SetTable.bits h % (m + 1)) (SetTable.bits h)
     pure (owner.setIfInBounds j (some k),k + 1))=some (ow.setIfInBounds j (some k),k + 1):=by
    show (SetTable.layClean.free m ow (SetTable.turns m) (SetTable.bits h % (m + 1)) (SetTable.bits h)).bind _=_;rw [ej];rfl
   rw [this,e'];simp only [List.length_cons];congr 2;omega
  ·rw [List.length_cons,show k + (hs.length + 1)=k + 1 + hs.length by omega];exact p'
theorem k6p (l:List (Option Nat)):(List.range l.length).map (fun j=>l.getD j none)=l:=by
 apply List.ext_getElem?;intro i;by_cases h:i < l.length
 ·simp [List.getD_eq_getElem?_getD,h]
 ·rw [List.getElem?_eq_none_iff.mpr (by simpa using Nat.le_of_not_lt h),List.getElem?_eq_none_iff.mpr (Nat.le_of_not_lt h)]
theorem j68 {m fg mv:Nat} {led pl:Bool} {hs:Array Int} (hc:cyc m=true) (hn:hs.size<=m):∃ t od,SetTable.laid m fg mv led pl hs=some (t,od)/\od.toList.Perm (List.range hs.size):=by
 obtain ⟨ow,e,s,p⟩:=w1h hc hs.toList (Array.replicate (m + 1) none) 0 (by simp) (by simp) (by simpa using hn)
 have hl:SetTable.layClean m hs=some ow:=by unfold SetTable.layClean;rw [<- Array.foldl_toList];exact congrArg (Option.map Prod.fst) e
 refine ⟨_,_,by unfold SetTable.laid;rw [hl];rfl,?_⟩;dsimp only;rw [List.map_filterMap]
 have q:(List.range (m + 1)).filterMap (fun j=>Option.map (fun x:Nat×Nat=>x.2) (Option.map (fun x=>(j,x)) (ow.getD j none)))=ow.toList.filterMap id:=by
  conv=>rhs;rw [<- k6p ow.toList]
  rw [List.filterMap_map,Array.length_toList,s];congr 1
  funext j
  simp only [Function.comp,id,Option.map_map];rw [Array.getD_eq_getD_getElem?,List.getD_eq_getElem?_getD,Array.getElem?_toList];cases (ow[j]?.getD none)<;>rfl
 refine List.Perm.trans (List.Perm.of_eq q) ?_;simpa using p
theorem k3m {es:Array (Int×Value)} {od:Array Nat} (h:od.toList.Perm (List.range es.size)):(od.filterMap (es[·]?)).toList.Perm es.toList:=by
 rw [Array.toList_filterMap];refine (List.Perm.filterMap _ h).trans (List.Perm.of_eq ?_);apply List.ext_getElem?;intro i
 have:(List.range es.size).filterMap (fun x=>es[x]?)=es.toList:=by
  have e:(List.range es.size).filterMap (fun x=>es[x]?)=(List.range es.toList.length).filterMap (fun x=>es.toList[x]?):=by simp
  rw [e];exact List.filterMap_getElem?_range_length es.toList
 rw [this]
theorem cyc7:cyc 7=true:=by decide +kernel
theorem cyc15:cyc 15=true:=by decide +kernel
theorem cyc31:cyc 31=true:=by decide +kernel
theorem cyc63:cyc 63=true:=by decide +kernel
theorem w89:cyc 127=true:=by decide +kernel
theorem w88:cyc 255=true:=by decide +kernel
theorem w87:cyc 511=true:=by decide +kernel
end SX
namespace SX
open PySem
def Hit (t:SetTable) (h:Int) (fuel:Nat) (p:SetTable.Probe):Prop:=∃ j d,SetTable.probe.go t (fun _=>h + 1) h fuel p=some (.empty j d)
def j7m (m i pb:Nat) (dm:Option Nat):SetTable.Probe:={ j:=i,more:=SetTable.runEnd m i - i,i:=i,perturb:=pb,dummy:=dm}
theorem k8h {t:SetTable} {h:Int}:∀ (k fuel:Nat) (p:SetTable.Probe),p.more=k->(∀ dm,Hit t h fuel (j7m t.mask (SetTable.leap t.mask p.i p.perturb).1 (SetTable.leap t.mask p.i p.perturb).2 dm))->Hit t h (fuel + k + 1) p:=by
 intro k
 induction k with
 | zero =>
  intro fuel p hk hn
  have adv:∀ dm,t.advance { p with dummy:=dm}=j7m t.mask (SetTable.leap t.mask p.i p.perturb).1 (SetTable.leap t.mask p.i p.perturb).2 dm:=fun dm=>by unfold SetTable.advance;rw [if_neg (by show ¬ p.more > 0;omega)];rfl
  unfold Hit SetTable.probe.go
  cases q:t.slot p.j with
  | empty=>exact ⟨_,_,rfl⟩
  | dummy=>dsimp only;rw [adv];exact hn _
  | live i =>
   dsimp only;rw [if_neg (by simp;omega)];have:=adv p.dummy;have e:({ p with dummy:=p.dummy}:SetTable.Probe)=p:=rfl;rw [e] at this;rw [this];exact hn _
 | succ k ih =>
  intro fuel p hk hn
  have go:∀ dm,Hit t h (fuel + k + 1) (t.advance { p with dummy:=dm}):=fun dm=>by
   have e:t.advance { p with dummy:=dm}={ p with j:=p.j + 1,more:=p.more - 1,dummy:=dm}:=by unfold SetTable.advance;rw [if_pos (by show p.more > 0;omega)]
   rw [e];exact ih fuel _ (by show p.more - 1=k;omega) hn
  unfold Hit SetTable.probe.go
  cases q:t.slot p.j with
  | empty=>exact ⟨_,_,rfl⟩
  | dummy=>exact go _
  | live i =>
   dsimp only;rw [if_neg (by simp;omega)];exact go p.dummy
theorem w5w {t:SetTable} {h:Int} {p:SetTable.Probe} (e:t.slot p.j=.empty) (fuel:Nat):Hit t h (fuel + 1) p:=by unfold Hit SetTable.probe.go;rw [e];exact ⟨_,_,rfl⟩
theorem k6k (m i:Nat):SetTable.runEnd m i - i<=9:=by unfold SetTable.runEnd;split<;>omega
theorem hit0 {t:SetTable} {h:Int} {k:Nat} (hk:t.slot k=.empty):∀ (n i fuel:Nat),itn t.mask n i=k->10 * (n + 1)<=fuel->∀ dm,Hit t h fuel (j7m t.mask i 0 dm):=by
 intro n
 induction n with
 | zero =>
  intro i fuel e hf dm;obtain ⟨f,rfl⟩:∃ f,fuel=f + 1:=⟨fuel - 1,by omega⟩;have e:i=k:=e;subst e;exact w5w hk f
 | succ n ih =>
  intro i fuel e hf dm;have h9:=k6k t.mask i
  have z:=k8h (t:=t) (h:=h) (SetTable.runEnd t.mask i - i) (fuel - (SetTable.runEnd t.mask i - i) - 1) (j7m t.mask i 0 dm) rfl (fun dm'=>by
   have e1:SetTable.leap t.mask i 0=(st5 t.mask i,0):=by unfold SetTable.leap st5;simp
   show Hit t h _ (j7m t.mask (SetTable.leap t.mask i 0).1 (SetTable.leap t.mask i 0).2 dm');rw [e1]
   exact ih (st5 t.mask i) _ e (by omega) dm')
  rw [show fuel - (SetTable.runEnd t.mask i - i) - 1 + (SetTable.runEnd t.mask i - i) + 1=fuel by omega] at z;exact z
theorem hitc {t:SetTable} {h:Int} {k:Nat} (hc:cyc t.mask=true) (hkm:k<=t.mask) (hk:t.slot k=.empty):∀ (c i pb fuel:Nat),i<=t.mask->pb < 32 ^ c->10 * (c + t.mask + 1)<=fuel->∀ dm,Hit t h fuel (j7m t.mask i pb dm):=by
 intro c
 induction c with
 | zero =>
  intro i pb fuel hi hp hf dm;have:pb=0:=by rw [Nat.pow_zero] at hp;omega
  subst this;obtain ⟨n,hn,e⟩:=k01 hc i k hi hkm;exact hit0 hk n i fuel e (by omega) dm
 | succ c ih =>
  intro i pb fuel hi hp hf dm;have h9:=k6k t.mask i
  have z:=k8h (t:=t) (h:=h) (SetTable.runEnd t.mask i - i) (fuel - (SetTable.runEnd t.mask i - i) - 1) (j7m t.mask i pb dm) rfl (fun dm'=>by
   refine ih _ _ _ (Nat.le_of_lt_succ (Nat.mod_lt _ (Nat.succ_pos _))) ?_ (by omega) dm';show pb / 32 < 32 ^ c;rw [Nat.pow_succ] at hp
   exact Nat.div_lt_of_lt_mul (by rw [Nat.mul_comm];exact hp))
  rw [show fuel - (SetTable.runEnd t.mask i - i) - 1 + (SetTable.runEnd t.mask i - i) + 1=fuel by omega] at z;exact z
theorem j28 {Y:Type} [DecidableEq Y]:∀ (l m:List Y),l.Nodup->(∀ x∈l,x∈m)->l.length<=m.length:=by
 intro l
 induction l with
 | nil=>intro m _ _;exact Nat.zero_le _
 | cons x r ih =>
  intro m nd hs;obtain ⟨hx,hr⟩:=List.nodup_cons.mp nd;have hxm:=hs x List.mem_cons_self;have h1:=ih (m.erase x) hr fun y hy=>(List.mem_erase_of_ne (fun (z:y=x)=>hx (by rw [<- z];exact hy))).mpr (hs y (List.mem_cons_of_mem _ hy));rw [List.length_erase_of_mem hxm] at h1;have:0 < m.length:=List.length_pos_of_mem hxm;rw [List.length_cons];omega
theorem k2p (l:List Nat) (m:Nat) (h:l.length<=m):∃ j,j<=m/\j∉l:=by refine Classical.byContradiction fun hn=>?_;have all:∀ j,j<=m->j∈l:=fun j hj=>Classical.byContradiction fun q=>hn ⟨j,hj,q⟩;have:=j28 (List.range (m + 1)) l List.nodup_range fun x hx=>all x (Nat.le_of_lt_succ (List.mem_range.mp hx));rw [List.length_range] at this;omega
theorem k41 {t:SetTable} {n:Nat} (hf:t.fits n=true):∃ j,j<=t.mask/\t.slot j=.empty:=by
 have hf':t.place.size + t.dummies.size<=t.mask:=by simp only [SetTable.fits,Bool.and_eq_true,decide_eq_true_eq] at hf;exact hf.2
 obtain ⟨j,hj,hn⟩:=k2p (t.place.toList++t.dummies.toList) t.mask (by simpa using hf');refine ⟨j,hj,?_⟩;rw [List.mem_append,not_or] at hn
 have out:∀ (ps:Array Nat),j∉ps.toList->(ps[SetTable.below ps j]? == some j)=false:=fun ps hp=>by
  cases q:ps[SetTable.below ps j]? with
  | none=>rfl
  | some x =>
   have hx:x∈ps.toList:=by rw [<- Array.getElem?_toList] at q;exact List.mem_of_getElem? q
   have:x≠j:=fun z=>hp (z▸hx);simp [this]
 unfold SetTable.slot;dsimp only;rw [out _ hn.1];unfold SetTable.has;rw [out _ hn.2];rfl
theorem j9p {t:SetTable} {n:Nat} (hc:cyc t.mask=true) (hf:t.fits n=true) (h:Int):∃ j b,t.freeSlot h=some (j,b):=by obtain ⟨k,hkm,hk⟩:=k41 hf;obtain ⟨j,d,e⟩:=hitc (h:=h) hc hkm hk 13 (SetTable.bits h % (t.mask + 1)) (SetTable.bits h) (10 * SetTable.turns t.mask) (Nat.le_of_lt_succ (Nat.mod_lt _ (Nat.succ_pos _))) (k9m h) (by unfold SetTable.turns;omega) none;refine ⟨d.getD j,d.isSome,?_⟩;unfold SetTable.freeSlot SetTable.probe SetTable.probeStart;dsimp only;have e':SetTable.probe.go t (fun _=>h + 1) h (10 * SetTable.turns t.mask) { j:=SetTable.bits h % (t.mask + 1),more:=SetTable.runEnd t.mask (SetTable.bits h % (t.mask + 1)) - SetTable.bits h % (t.mask + 1),i:=SetTable.bits h % (t.mask + 1),perturb:=SetTable.bits h,dummy:=none}=some (.empty j d):=e;rw [e']
theorem k1z {t:SetTable} {ha:Nat->Int} {h:Int}:∀ (fuel:Nat) (p:SetTable.Probe),(∀ d,p.dummy=some d->SetTable.has t.dummies d=true) ->
  ∀ j d,SetTable.probe.go t ha h fuel p=some (.empty j (some d))->SetTable.has t.dummies d=true:=by
 intro fuel
 induction fuel with
 | zero=>intro p _ j d e;cases e
 | succ fuel ih =>
  intro p hd j d e;unfold SetTable.probe.go at e
  cases q:t.slot p.j with
  | empty =>
   rw [q] at e;dsimp only at e;injection e with e;injection e with e1 e2;exact hd d e2
  | dummy =>
   rw [q] at e;dsimp only at e;refine ih _ (fun d' hd'=>?_) j d e
   have:d'=p.j:=by
    unfold SetTable.advance at hd';split at hd'
    ·injection hd' with hd';exact hd'.symm
    ·injection hd' with hd';exact hd'.symm
   rw [this];unfold SetTable.slot at q;dsimp only at q;split at q
   ·cases q
   ·split at q
    ·assumption
    ·cases q
  | live k =>
   rw [q] at e;dsimp only at e;split at e
   ·cases e
   ·refine ih _ (fun d' hd'=>?_) j d e
    have:p.dummy=some d':=by unfold SetTable.advance at hd';split at hd'<;>exact hd'
    exact hd d' this
theorem j7q {t:SetTable} {h:Int} {j:Nat} (e:t.freeSlot h=some (j,true)):SetTable.has t.dummies j=true:=by
 unfold SetTable.freeSlot SetTable.probe at e;split at e
 ·rename_i j' dm e'
  injection e with e;injection e with e1 e2
  cases dm with
  | none=>cases e2
  | some d =>
   subst e1;exact k1z _ _ (fun d q=>by cases q) j' d e'
 ·cases e
theorem w2w {ps:Array Nat} {j:Nat} (h:SetTable.has ps j=true):SetTable.below ps j < ps.size:=by
 unfold SetTable.has at h;have h':ps[SetTable.below ps j]?=some j:=by simpa using h
 exact (Array.getElem?_eq_some_iff.mp h').1
theorem j5q {Y:Type} (xs:Array Y) (p:Nat) (h:p < xs.size):(SetTable.eraseAt xs p).size=xs.size - 1:=by rw [<- Array.length_toList,j3n,List.length_append,List.length_take,List.length_drop,Array.length_toList];omega
theorem j37 {Y:Type} (xs:Array Y) (p:Nat) (x:Y):(SetTable.insertAt xs p x).size=xs.size + 1:=by rw [<- Array.length_toList,j7t,List.length_append,List.length_cons,List.length_take,List.length_drop,Array.length_toList];omega
theorem fits_iff {t:SetTable} {n:Nat}:t.fits n=true↔t.place.size=n/\t.place.size + t.dummies.size<=t.mask:=by unfold SetTable.fits SetTable.fill;simp
def Good (m:Nat):Prop:=m=7\/m=15\/m=31\/m=63\/m=127\/m=255\/m=511
theorem Good.cyc {m:Nat} (h:Good m):cyc m=true:=by
 rcases h with q | q | q | q | q | q | q<;>rw [q]
 ·exact cyc7
 ·exact cyc15
 ·exact cyc31
 ·exact cyc63
 ·exact w89
 ·exact w88
 ·exact w87
theorem j76 {n:Nat} (h:n<=511):Good (SetTable.sizeAbove n - 1)/\n < SetTable.sizeAbove n:=by
 have q:((List.range 512).all fun n=>[8,16,32,64,128,256,512].contains (SetTable.sizeAbove n)&&decide (n < SetTable.sizeAbove n))=true:=by decide +kernel
 have q:=List.all_eq_true.mp q n (List.mem_range.mpr (by omega));obtain ⟨q1,q2⟩:=Bool.and_eq_true_iff.mp q;refine ⟨?_,by simpa using q2⟩;have q1:SetTable.sizeAbove n=8\/SetTable.sizeAbove n=16\/SetTable.sizeAbove n=32\/SetTable.sizeAbove n=64\/SetTable.sizeAbove n=128\/SetTable.sizeAbove n=256\/SetTable.sizeAbove n=512:=by simpa using q1
 unfold Good;omega
structure TOk (t:SetTable) (n:Nat):Prop where
 fits:t.fits n=true
 rise:Rise t.place
 plain:t.plain=true
 good:Good t.mask
 room:t.fill * 5 < t.mask * 3
theorem w5r {t:SetTable} {es:Array (Int×Value)} {h:Int} {x:Value} (k:TOk t es.size) (q:es.size<=126) :
  ∃ t1 dum,layNew t es h x=(SetTable.insertAt es (SetTable.below t.place ((t.freeSlot h).getD (0,false)).1) (h,x),t1,dum,false)/\t1.led=t.led/\t1.plain=true/\t1.fits (es.size + 1)=true/\Rise t1.place/\Good t1.mask/\(dum=true->t1.fill * 5 < t1.mask * 3):=by
 obtain ⟨j,b,e⟩:=j9p k.good.cyc k.fits h;obtain ⟨f1,f2⟩:=fits_iff.mp k.fits;have hm:7<=t.mask:=by rcases k.good with q | q | q | q | q | q | q<;>omega
 have hroom:=k.room;unfold SetTable.fill at hroom
 have dsz:(if SetTable.has t.dummies j=true then SetTable.eraseAt t.dummies (SetTable.below t.dummies j) else t.dummies).size<=t.dummies.size/\(b=true->(if SetTable.has t.dummies j=true then SetTable.eraseAt t.dummies (SetTable.below t.dummies j) else t.dummies).size + 1<=t.dummies.size):=by
  split
  ·rename_i hh
   rw [j5q _ _ (w2w hh)];have:=w2w hh;exact ⟨by omega,fun _=>by omega⟩
  ·rename_i hh
   refine ⟨Nat.le_refl _,fun hb=>?_⟩;subst hb;exact absurd (j7q e) hh
 have fit1:(t.put j).1.fits (es.size + 1)=true:=by
  refine fits_iff.mpr ⟨?_,?_⟩
  ·show (SetTable.insertAt t.place (SetTable.below t.place j) j).size=_;rw [j37,f1]
  ·show (SetTable.insertAt t.place (SetTable.below t.place j) j).size + (if SetTable.has t.dummies j=true then SetTable.eraseAt t.dummies (SetTable.below t.dummies j) else t.dummies).size<=t.mask;rw [j37];omega
 refine ⟨(t.put j).1,b,?_,rfl,k.plain,fit1,w0h k.rise (k2o k.rise e),k.good,fun hb=>?_⟩
 ·unfold layNew;rw [e];dsimp only;have e2:(t.put j).2=SetTable.below t.place j:=rfl;have e3:(SetTable.insertAt es (SetTable.below t.place j) (h,x)).size=es.size + 1:=j37 _ _ _;rw [e2,e3];unfold SetTable.orStandIn;rw [if_pos fit1,fit1];rfl
 ·have:=dsz.2 hb;show ((SetTable.insertAt t.place (SetTable.below t.place j) j).size + (if SetTable.has t.dummies j=true then SetTable.eraseAt t.dummies (SetTable.below t.dummies j) else t.dummies).size) * 5 < t.mask * 3;rw [j37];omega
theorem k6m {t:SetTable} {es:Array (Int×Value)} (h1:1<=es.size) (h:es.size<=127) (hp:t.plain=true):∃ es' t',relayAll t es (SetTable.grown es.size)=(es',t',false)/\es'.toList.Perm es.toList/\TOk t' es'.size/\t'.led=t.led:=by
 have hg:SetTable.grown es.size=es.size * 4:=by unfold SetTable.grown;rw [if_neg (by omega)]
 obtain ⟨g1,g2⟩:=j76 (n:=es.size * 4) (by omega);obtain ⟨t',od,e,p⟩:=j68 (fg:=t.finger) (mv:=t.movedTo (SetTable.sizeAbove (es.size * 4) - 1)) (led:=t.led) (pl:=t.plain) (hs:=es.map (·.1)) g1.cyc (by rw [Array.size_map];omega);obtain ⟨r1,r2,r3,r4,r5,r6⟩:=j69 e;rw [Array.size_map] at p;have pk:=k3m p;have sz:(od.filterMap (es[·]?)).size=es.size:=by rw [<- Array.length_toList,pk.length_eq,Array.length_toList]
 have ods:od.size=es.size:=by rw [<- Array.length_toList,p.length_eq,List.length_range]
 have fit:t'.fits (od.filterMap (es[·]?)).size=true:=by refine fits_iff.mpr ⟨by rw [r6,sz,ods],?_⟩;rw [r6,r5,ods,r4];show es.size + 0<=_;omega
 refine ⟨od.filterMap (es[·]?),t',?_,pk,⟨fit,r1,r3.trans hp,by rw [r4];exact g1,?_⟩,r2⟩
 ·unfold relayAll;rw [hg];unfold SetTable.relaid;rw [e];dsimp only;rw [if_pos];rw [fit,Bool.and_true];unfold coversAll;exact List.isPerm_iff.mpr p
 ·unfold SetTable.fill;rw [r6,r5,ods,r4];show (es.size + 0) * 5 < _;omega
end SX
namespace SX
open PySem PyProof.Rows
def j4d (e:Int×Value) (k:Int):Prop:=e.1=hashInt k/\∃ t,e.2=Value.int k t
abbrev j2m (es:Array (Int×Value)) (ep:Nat) (t:SetTable):Obj:={ cls:=.type "set",dict:=none,data:=.set es ep t,slots:=#[]}
structure SOk (w:World) (es:Array (Int×Value)) (t:SetTable) (ks:List Int):Prop where
 ent:Paired j4d es.toList ks
 nd:ks.Nodup
 small:es.size<=127
 tab:TOk t es.size
 led:w.params.followText "set-order"=true\/t.led=true
theorem j33 {n:Nat} (h:n<=127):n < scanBound:=by have e:scanBound=4096:=rfl;rw [e];omega
theorem j26 {n:Nat} (h:n<=127):n<=sizeLine:=fits_of_scanBound (j33 h)
def SetI (w:World) (a:Addr) (ks:List Int) (h:Heap):Prop:=∃ es ep t,h.get? a=some (j2m es ep t)/\SOk w es t ks
theorem j2q {Y β:Type} {F:Y->β->Prop} {l l':List Y} (p:l.Perm l'):∀ {m:List β},Paired F l m->∃ m',m.Perm m'/\Paired F l' m':=by
 induction p with
 | nil=>intro m h;exact ⟨m,.refl _,h⟩
 | cons x _ ih =>
  intro m h
  cases h with
  | cons a b =>
   obtain ⟨m',h1,h2⟩:=ih b;exact ⟨_,.cons _ h1,.cons a h2⟩
 | swap x y l =>
  intro m h
  cases h with
  | cons a b =>
   cases b with
   | cons c d=>exact ⟨_,.swap _ _ _,.cons c (.cons a d)⟩
 | trans _ _ ih1 ih2 =>
  intro m h;obtain ⟨m1,h1,h2⟩:=ih1 h;obtain ⟨m2,h3,h4⟩:=ih2 h2;exact ⟨m2,h1.trans h3,h4⟩
theorem j9s:∀ {es:List (Int×Value)} {ks:List Int},Paired j4d es ks->∀ k,(k∈ks↔∃ e∈es,Value.isInt k e.2=true)
 | _,_,.nil,k=>by simp
 | _,_,.cons (a:=e) (b:=j) he r,k=>by
  have ih:=j9s r k;obtain ⟨_,t,he2⟩:=he
  have hq:Value.isInt k e.2=true↔k=j:=by rw [he2];simp [Value.isInt];exact eq_comm
  rw [List.mem_cons,ih];constructor
  ·rintro (z | ⟨e',h1,h2⟩)
   ·exact ⟨e,List.mem_cons_self,hq.mpr z⟩
   ·exact ⟨e',List.mem_cons_of_mem _ h1,h2⟩
  ·rintro ⟨e',h1,h2⟩;rcases List.mem_cons.mp h1 with z | z
   ·rw [z] at h2;exact .inl (hq.mp h2)
   ·exact .inr ⟨e',z,h2⟩
theorem j5a {prog:Program} {w:World}:∀ {es:List (Int×Value)} {ks:List Int},Paired j4d es ks->ElemsOf (intKind prog w) es
 | _,_,.nil=>fun e he=>by cases he
 | _,_,.cons (a:=x) (b:=j) hx r=>fun e he=>by
  rcases List.mem_cons.mp he with z | z
  ·subst z;obtain ⟨h1,t,h2⟩:=hx;refine ⟨⟨j,?_,h1⟩,?_⟩
   ·rw [h2];exact intKind_is _ _ _ _
   ·rw [h2];rfl
  ·exact j5a r e z
theorem k8z {es:List (Int×Value)} {ks:List Int} (h:Paired j4d es ks):es.length=ks.length:=Paired.length h
theorem SOk.size {w:World} {es:Array (Int×Value)} {t:SetTable} {ks:List Int} (h:SOk w es t ks):es.size=ks.length:=by rw [<- Array.length_toList];exact k8z h.ent
theorem SetI.nodup {w:World} {a:Addr} {ks:List Int} {h:Heap} (x:SetI w a ks h):ks.Nodup:=by obtain ⟨es,ep,t,e,k⟩:=x;exact k.nd
theorem SetI.of {prog:Program} {w:World} {a:Addr} {ks:List Int} {h:Heap} (x:SetI w a ks h):h.SetOf (intKind prog w) a (fun k=>decide (k∈ks)) ks.length:=by obtain ⟨es,ep,t,e,k⟩:=x;exact ⟨_,es,ep,t,e,⟨rfl,rfl,rfl⟩,rfl,j5a k.ent,fun j=>by rw [decide_eq_true_eq];exact j9s k.ent j,j33 k.small,k.tab.fits,k.size⟩
theorem SetI.keep {w:World} {a:Addr} {ks:List Int} {h h':Heap} (x:SetI w a ks h) (k:∀ o,h.get? a=some o->h'.get? a=some o):SetI w a ks h':=by obtain ⟨es,ep,t,e,r⟩:=x;exact ⟨es,ep,t,k _ e,r⟩
theorem SetI.lt {w:World} {a:Addr} {ks:List Int} {h:Heap} (x:SetI w a ks h):a < h.objs.size:=by obtain ⟨es,ep,t,e,r⟩:=x;exact Heap.lt_size e
theorem SetI.typeIs {w:World} {a:Addr} {ks:List Int} {s:Shared} (x:SetI w a ks s.heap):s.TypeIs (.ref a) "set":=by obtain ⟨es,ep,t,e,r⟩:=x;exact ⟨_,e,rfl⟩
theorem w4k {h:Heap} {a:Addr} {es es':Array (Int×Value)} {ep:Nat} {t t':SetTable} (e:h.get? a=some (j2m es ep t)):(h.update a (Obj.putSet es' t')).get? a=some (j2m es' (ep + 1) t'):=by have z:=Heap.get?_update_self (Obj.putSet es' t') e (by rw [putSet_of es' t' rfl];rfl);rw [putSet_of es' t' rfl] at z;exact z
section
variable {prog:Program} {w:World} {A:Around} {E:Value->Shared->Prop} {s:Shared} {a:Addr} {ks:List Int}
theorem j5e {es es':Array (Int×Value)} {ep:Nat} {t t':SetTable} {Q:Unit->Shared->Prop} (e:s.heap.get? a=some (j2m es ep t)) (hz:es'.size<=sizeLine)
  (h:∀ h',Heap.SameBut a s.heap h'->h'.get? a=some (j2m es' (ep + 1) t')->Q () { s with heap:=h'}):wpAny (model prog w) A (storeSet a es' t') Q E s :=
 wpAny_storeSet_of e rfl (h _ (Heap.SameBut.update ..) (w4k e)) hz
theorem w6n {k:Int} {u:Tok} {Q:Bool->Shared->Prop} (S:SetI w a ks s.heap) (room:ks.length + 1<=127)
  (h:∀ h' ks',Heap.SameBut a s.heap h'->SetI w a ks' h'->ks'.Perm (if k∈ks then ks else k :: ks)->Q (!decide (k∈ks)) { s with heap:=h'}) :
  wpAny (model prog w) A (setAddHashed a (.int k u) (hashInt k)) Q E s:=by
 obtain ⟨es,ep,t,e,K⟩:=S;have el:ElemsOf (intKind prog w) es.toList:=j5a K.ent;have hk:(intKind prog w).is k (.int k u)=true:=intKind_is _ _ _ _;have hkh:(intKind prog w).hash k=hashInt k:=rfl;unfold setAddHashed setAddHashedIn;refine wpAny_holding (wB (wpAny_setState_of e rfl K.tab.fits ?_));dsimp only;rw [byScan_of (knd:=intKind prog w) rfl (j33 K.small) el,if_pos rfl];unfold setAddByScan;refine wB (wB (wpAny_rule (wB ?_)));rw [<- hkh];refine wpAny_setScan_of (knd:=intKind prog w) hk e rfl K.tab.fits el ?_;have mem:=j9s K.ent k
 cases hr:List.findIdx? (fun e=>(intKind prog w).is k e.2) es.toList with
 | some j =>
  dsimp only;obtain ⟨hj,hp,_⟩:=List.findIdx?_eq_some_iff_getElem.mp hr;have hin:k∈ks:=mem.mpr ⟨_,List.getElem_mem hj,hp⟩;have z:=h s.heap ks (Heap.SameBut.refl a s.heap) ⟨es,ep,t,e,K⟩ (by rw [if_pos hin]);rw [decide_eq_true hin] at z;exact wP (wP z)
 | none =>
  dsimp only
  have hout:k∉ks:=fun q=>by obtain ⟨x,hx,hxi⟩:=mem.mp q;have:=List.findIdx?_eq_none_iff.mp hr x hx;rw [show (intKind prog w).is k x.2=true from hxi] at this;cases this
  have sz0:es.size<=126:=by rw [K.size];omega
  obtain ⟨t1,dum,le,ll,lpl,lf,lr,lg,ld⟩:=w5r (h:=hashInt k) (x:=.int k u) K.tab sz0;have lp:=layNew_perm t es (hashInt k) (.int k u);rw [hkh];rw [le] at lp ⊢;generalize SetTable.insertAt es (SetTable.below t.place ((t.freeSlot (hashInt k)).getD (0,false)).1) (hashInt k,Value.int k u)=es1 at lp ⊢;dsimp only at lp ⊢;rw [Array.toList_push] at lp;have p1:Paired j4d ((hashInt k,Value.int k u) :: es.toList) (k :: ks):=.cons ⟨rfl,u,rfl⟩ K.ent;obtain ⟨ks1,pk,pe⟩:=j2q (lp.trans List.perm_append_comm).symm p1;have sz1:es1.size=es.size + 1:=by rw [<- Array.length_toList,lp.length_eq];simp
  rw [<- sz1] at lf;have sm1:es1.size<=127:=by omega
  have nd1:ks1.Nodup:=pk.nodup_iff.mp (List.nodup_cons.mpr ⟨hout,K.nd⟩);have line1:es1.size<=sizeLine:=j26 sm1
  -- what the end wants,for any table of these entries
  have fin:∀ (h':Heap) (es2:Array (Int×Value)) (ep2:Nat) (t2:SetTable),Heap.SameBut a s.heap h'->h'.get? a=some (j2m es2 ep2 t2)->es2.toList.Perm es1.toList->TOk t2 es2.size->t2.led=t.led->Q true { s with heap:=h'}:=by
   intro h' es2 ep2 t2 sb o2 pp f2 l2;obtain ⟨ks2,q1,q2⟩:=j2q pp.symm pe;have hs:es2.size=es1.size:=by rw [<- Array.length_toList,pp.length_eq,Array.length_toList]
   have z:=h h' ks2 sb ⟨es2,ep2,t2,o2,q2,q1.nodup_iff.mp nd1,by rw [hs];exact sm1,f2,by rw [l2];exact K.led⟩ (by rw [if_neg hout];exact q1.symm.trans pk.symm);rw [decide_eq_false hout] at z;exact z
  refine wB (wP ?_)
  have tail:wpAny (model prog w) A (do
    storeSet a es1 t1
    if (!dum&&t1.tooFull)=true then do
      (match (relayAll t1 es1 (SetTable.grown es1.size)).2.2 with | true=>rule "set.scan.the-table-gave-way" | false=>pure ())
      storeSet a (relayAll t1 es1 (SetTable.grown es1.size)).1 (relayAll t1 es1 (SetTable.grown es1.size)).2.1
      pure (some true)
     else pure (some true)) (fun r s₁=>wpAny (model prog w) A (match r with | some added=>pure added | none=>setAddHashedIn a (.int k u) (hashInt k) 99999) Q E s₁) E s:=by
   refine wB (j5e e line1 fun h1 sb1 o1=>?_);split
   ·obtain ⟨es2,t2,re,rp,rt,rl⟩:=k6m (t:=t1) (es:=es1) (by omega) sm1 lpl;rw [re];refine wB (wP (wB (j5e (s:={ s with heap:=h1}) o1 ?_ fun h2 sb2 o2=>wP (wP (fin h2 _ _ _ (sb1.trans sb2) o2 rp rt (rl.trans ll))))));have:es2.size=es1.size:=by rw [<- Array.length_toList,rp.length_eq,Array.length_toList]
    rw [this];exact line1
   ·rename_i hful
    refine wP (wP (fin h1 _ _ _ sb1 o1 (.refl _) ⟨lf,lr,lpl,lg,?_⟩ ll))
    cases dum with
    | true=>exact ld rfl
    | false =>
     have:t1.tooFull=false:=by simpa using hful
     unfold SetTable.tooFull at this;simpa using this
  split
  ·rw [hashByValue_scannable 8 rfl];exact wB (wP tail)
  ·exact wB (wP tail)
theorem w9g {k:Int} {u:Tok} {Q:Bool->Shared->Prop} (S:SetI w a ks s.heap) (room:ks.length + 1<=127)
  (h:∀ h' ks' tk,Heap.SameBut a s.heap h'->SetI w a ks' h'->ks'.Perm (if k∈ks then ks else k :: ks)->s.toks<=tk->Q (!decide (k∈ks)) { s with heap:=h',toks:=tk}) :
  wpAny (model prog w) A (setAdd a (.int k u)) Q E s:=by
 unfold setAdd;refine wpAny_holding (wB ((intKind prog w).pyHash (k:=k) (intKind_is _ _ _ _) ?_));exact w6n (s:={ s with toks:=s.toks + 1}) S room fun h' ks' sb S' p=>h h' ks' _ sb S' p (Nat.le_succ _)
theorem w1l {es:Array (Int×Value)} {k:Int}:∀ {ks:List Int},Paired j4d es.toList ks->ks.Nodup->∀ {j:Nat},List.findIdx? (fun e=>(intKind prog w).is k e.2) es.toList=some j->ks[j]?=some k:=by
 intro ks P _ j hr;obtain ⟨hj,hp,_⟩:=List.findIdx?_eq_some_iff_getElem.mp hr
 have:∀ {es:List (Int×Value)} {ks:List Int},Paired j4d es ks->∀ (j:Nat) (e:Int×Value),es[j]?=some e->∃ k',ks[j]?=some k'/\j4d e k':=by
  intro es ks P
  induction P with
  | nil=>intro j e z;simp at z
  | cons x _ ih =>
   intro j e z
   cases j with
   | zero =>
    have z':=Option.some.inj z;subst z';exact ⟨_,rfl,x⟩
   | succ j=>exact ih j e (by simpa using z)
 obtain ⟨k',e1,_,u,e2⟩:=this P j es.toList[j] (by simp [hj]);have hp':Value.isInt k es.toList[j].2=true:=hp;rw [e2] at hp';have:k'=k:=by simpa [Value.isInt] using hp'
 rw [<- this];exact e1
theorem j51 {Y β:Type} {F:Y->β->Prop}:∀ {l:List Y} {m:List β},Paired F l m->∀ i,Paired F (l.take i++l.drop (i + 1)) (m.take i++m.drop (i + 1))
 | _,_,.nil,i=>by simpa using Paired.nil
 | _,_,.cons x r,0=>by simpa using r
 | _,_,.cons x r,i + 1=>by simpa using Paired.cons x (j51 r i)
theorem j5r {k:Int}:∀ {ks:List Int} {j:Nat},ks[j]?=some k->ks.Perm (k :: (ks.take j++ks.drop (j + 1)))
 | [],j,e=>by simp at e
 | x :: r,0,e=>by
  have:x=k:=by simpa using e
  subst this;simp
 | x :: r,j + 1,e=>by have:=j5r (ks:=r) (j:=j) (by simpa using e);simpa using (List.Perm.cons x this).trans (List.Perm.swap k x _)
theorem k00 {k:Int} {u:Tok} {Q:Bool->Shared->Prop} (S:SetI w a ks s.heap)
  (h:∀ h' ks',Heap.SameBut a s.heap h'->SetI w a ks' h'->(if k∈ks then ks.Perm (k :: ks') else ks'=ks)->Q (decide (k∈ks)) { s with heap:=h'}) :
  wpAny (model prog w) A (setDiscardHashed a (.int k u) (hashInt k)) Q E s:=by
 obtain ⟨es,ep,t,e,K⟩:=S;have el:ElemsOf (intKind prog w) es.toList:=j5a K.ent;have hk:(intKind prog w).is k (.int k u)=true:=intKind_is _ _ _ _;unfold setDiscardHashed setFind setFindIn;refine wB (wB (wpAny_setState_of e rfl K.tab.fits ?_));dsimp only;rw [byScan_of (knd:=intKind prog w) rfl (j33 K.small) el,if_pos rfl];refine wB (wpAny_rule (wB ?_));rw [show hashInt k=(intKind prog w).hash k from rfl];refine wpAny_setScan_of (knd:=intKind prog w) hk e rfl K.tab.fits el ?_;have mem:=j9s K.ent k
 cases hr:List.findIdx? (fun e=>(intKind prog w).is k e.2) es.toList with
 | none =>
  dsimp only
  have hout:k∉ks:=fun q=>by obtain ⟨x,hx,hxi⟩:=mem.mp q;have:=List.findIdx?_eq_none_iff.mp hr x hx;rw [show (intKind prog w).is k x.2=true from hxi] at this;cases this
  have z:=h s.heap ks (Heap.SameBut.refl a s.heap) ⟨es,ep,t,e,K⟩ (by rw [if_neg hout]);rw [decide_eq_false hout] at z;exact wP (wP z)
 | some j =>
  dsimp only;have hkj:=w1l (prog:=prog) (w:=w) K.ent K.nd hr;have hin:k∈ks:=List.mem_of_getElem? hkj
  have hjl:j < es.size:=by
   have:=(List.findIdx?_eq_some_iff_getElem.mp hr).1
   rwa [Array.length_toList] at this
  rw [Nat.zero_add];refine wP (wB (wpAny_setState_of e rfl K.tab.fits ?_));dsimp only;have hfit:=fits_iff.mp K.tab.fits
  have hpl:t.place[j]?=some t.place[j]!:=by rw [Array.getElem?_eq_getElem (by omega),getElem!_pos]
  have dr:t.drop j={ t with place:=SetTable.eraseAt t.place j,dummies:=SetTable.insertAt t.dummies (SetTable.below t.dummies t.place[j]!) t.place[j]!}:=by unfold SetTable.drop;rw [hpl]
  have es1:(SetTable.eraseAt es j).size=es.size - 1:=j5q _ _ hjl;have ps1:(SetTable.eraseAt t.place j).size=es.size - 1:=by rw [j5q _ _ (by omega)];omega
  have K':SOk w (SetTable.eraseAt es j) (t.drop j) (ks.take j++ks.drop (j + 1)):=by
   refine ⟨by rw [j3n];exact j51 K.ent j,?_,by rw [es1];have:=K.small;omega,?_,?_⟩
   ·have:=(j5r hkj).nodup_iff.mp K.nd;exact (List.nodup_cons.mp this).2
   ·have hroom:=K.tab.room;unfold SetTable.fill at hroom;rw [dr];refine ⟨fits_iff.mpr ⟨?_,?_⟩,k4h K.tab.rise j,K.tab.plain,K.tab.good,?_⟩
    ·show (SetTable.eraseAt t.place j).size=_;rw [ps1,es1]
    ·show (SetTable.eraseAt t.place j).size + (SetTable.insertAt t.dummies _ _).size<=t.mask;rw [ps1,j37];omega
    ·show ((SetTable.eraseAt t.place j).size + (SetTable.insertAt t.dummies _ _).size) * 5 < t.mask * 3;rw [ps1,j37];omega
   ·rw [dr];exact K.led
  refine wB (j5e e (j26 K'.small) fun h1 sb1 o1=>?_);refine wB (wpAny_point ?_);have z:=h h1 _ sb1 ⟨_,_,_,o1,K'⟩ (by rw [if_pos hin];exact j5r hkj);rw [decide_eq_true hin] at z;exact wP z
end
end SX
namespace SX
open PySem PyProof.Rows
theorem j8c {Y:Type}:∀ (l:List Y) (i:Nat) (x:Y),l[i]?=some x->(x :: l.eraseIdx i).Perm l
 | [],i,x,e=>by simp at e
 | y :: r,0,x,e=>by
  have:y=x:=by simpa using e
  subst this;simp
 | y :: r,i + 1,x,e=>by have:=j8c r i x (by simpa using e);rw [List.eraseIdx_cons_succ];exact (List.Perm.swap y x _).trans (List.Perm.cons y this)
theorem w4u {Y:Type} (nx:Nat->Nat):∀ (fuel k:Nat) (left:List Y) (out:Array Y),left.length<=fuel->(pickOrder.go nx fuel k left out).toList.Perm (out.toList++left):=by
 intro fuel
 induction fuel with
 | zero =>
  intro k left out h;have:left=[]:=List.length_eq_zero_iff.mp (by omega);subst this;simp [pickOrder.go]
 | succ fuel ih =>
  intro k left out h;unfold pickOrder.go;split
  ·rename_i x e
   have hlt:=(List.getElem?_eq_some_iff.mp e).1;refine (ih _ _ _ (by rw [List.length_eraseIdx];split<;>omega)).trans ?_;rw [Array.toList_push,List.append_assoc];refine List.Perm.append_left _ ?_;exact j8c _ _ _ e
  ·rename_i e
   cases left with
   | nil=>simp
   | cons y r =>
    have:=List.getElem?_eq_none_iff.mp e;have h2:=Nat.mod_lt (nx k) (show 0 < (y :: r).length by simp);omega
theorem j6x {Y:Type} (nx:Nat->Nat) (xs:Array Y):(pickOrder nx xs).toList.Perm xs.toList:=by unfold pickOrder;have:=w4u nx xs.size 0 xs.toList #[] (by simp);simpa using this
section
variable {prog:Program} {w:World} {A:Around} {E:Value->Shared->Prop} {s:Shared} {a:Addr} {ks:List Int}
theorem w6w {Q:Array (Int×Value)->Shared->Prop} (S:SetI w a ks s.heap) (h:∀ (es':Array (Int×Value)) (ks':List Int),Paired j4d es'.toList ks'->ks'.Perm ks->Q es' s):wpAny (model prog w) A (setWalk a) Q E s:=by
 obtain ⟨es,ep,t,e,K⟩:=S;unfold setWalk setsByText;refine wB (wpAny_setState_of e rfl K.tab.fits (wB (wB (wpAny_askSetting (wP ?_)))));dsimp only;split
 ·refine wB (wpAny_askSetting (wP ?_));obtain ⟨ks',p,q⟩:=j2q (j6x _ es).symm K.ent;exact h _ ks' q p.symm
 ·rename_i hb
  rw [if_neg (by show ¬ ((!t.plain&&decide (es.size > 1))=true);rw [K.tab.plain];simp)]
  have hl:t.led=true:=by
   rcases K.led with z | z
   ·exact absurd z hb
   ·exact z
  refine wB (show wpAny _ A (if (!t.led&&decide (es.size > 1))=true then unsupported "set:maker-not-led" else pure ()) _ _ _ from ?_);rw [hl,if_neg (by simp)];exact wP (wP (h es ks K.ent (.refl _)))
theorem k29 {Q:Array (Int×Value)->Shared->Prop} {others:List Addr} {filled:Option Addr} (S:SetI w a ks s.heap) (h:∀ (es':Array (Int×Value)) (ks':List Int),Paired j4d es'.toList ks'->ks'.Perm ks->Q es' s) :
  wpAny (model prog w) A (setWalkUnseen a others filled) Q E s:=by
 obtain ⟨es,ep,t,e,K⟩:=id S;unfold setWalkUnseen setsByText;refine wB (wpAny_setState_of e rfl K.tab.fits (wB (wB (wpAny_askSetting (wP ?_)))));dsimp only
 rw [if_pos (by
  rcases K.led with z | z
  ·have z':(model prog w).w.params.followText "set-order"=true:=z;rw [z'];simp
  ·rw [z,K.tab.plain];simp)]
 exact w6w S h
theorem j5s {Q:Nat->Shared->Prop} {es:Array (Int×Value)} {ep:Nat} {t:SetTable} {n:Nat} (e:s.heap.get? a=some (j2m es ep t)) (k:t.fits es.size=true) (h:Q ep s):wpAny (model prog w) A (setEpoch a) Q E s :=
 wpAny_setEpoch_of e rfl k h
theorem w8v {k:Int} {u:Tok} {Q:Option Nat->Shared->Prop} (S:SetI w a ks s.heap) (h:∀ r:Option Nat,r.isSome=decide (k∈ks)->Q r s):wpAny (model prog w) A (setFind a (.int k u) (hashInt k)) Q E s :=
 wpAny_setFind_of (knd:=intKind prog w) (k:=k) (intKind_is _ _ _ _) rfl S.of h
theorem w7k {es:Array (Int×Value)} {t':SetTable} {od:Array Nat} {Q:Array (Int×Value)×SetTable->Shared->Prop} (p:od.toList.Perm (List.range es.size)) (h:Q (od.filterMap (es[·]?),t') s) :
  wpAny (model prog w) A (do
   let some (t,order):=some (t',od) | unsupported "internal:set-table-without-room"
   let es':=order.filterMap (es[·]?)
   if es'.size != es.size then unsupported "internal:set-table-lost-an-element"
   pure (es',t)) Q E s:=by
 have sz:(od.filterMap (es[·]?)).size=es.size:=by rw [<- Array.length_toList,(k3m p).length_eq,Array.length_toList]
 dsimp only;rw [if_neg (by rw [sz];simp)];exact wP h
def Fresh (w:World) (r:Addr) (h:Heap):Prop:=∃ ep led,h.get? r=some (j2m #[] ep (SetTable.fresh 0 0 led))/\(w.params.followText "set-order"=true\/led=true)
theorem j7d (led:Bool):TOk (SetTable.fresh 0 0 led) 0:=⟨rfl,List.Pairwise.nil,rfl,.inl rfl,by show 0 * 5 < 7 * 3;decide⟩
theorem Fresh.set {r:Addr} {h:Heap} (x:Fresh w r h):SetI w r [] h:=by obtain ⟨ep,led,e,l⟩:=x;exact ⟨#[],ep,_,e,.nil,List.nodup_nil,by decide,j7d led,l⟩
theorem w5o {r:Addr} {each:Sem Unit} {Q:Unit->Shared->Prop} (F:Fresh w r s.heap) (S:SetI w a ks s.heap) (ne:r≠a)
  (h:∀ h' ks',Heap.SameBut r s.heap h'->SetI w r ks' h'->ks'.Perm ks->Q () { s with heap:=h'}):wpAny (model prog w) A (setMerge r a each) Q E s:=by
 obtain ⟨epr,led,er,lr⟩:=id F;obtain ⟨es,ep,t,e,K⟩:=id S;unfold setMerge;rw [if_neg (by simpa using ne)];refine wB (wpAny_setState_of e rfl K.tab.fits ?_);dsimp only;by_cases hz:es.isEmpty=true
 ·rw [if_pos hz];have hes:es=#[]:=by simpa using hz
  subst hes
  have:ks=[]:=by have:=K.ent;cases this;rfl
  subst this;exact wP (h s.heap [] (Heap.SameBut.refl _ _) F.set (.refl _))
 ·rw [if_neg hz]
  have hpos:1<=es.size:=by have:es.size≠0:=fun z=>hz (by simpa using Array.size_eq_zero_iff.mp z);omega
  have sm:=K.small
  -- the room
  have go:∀ (h1:Heap) (ep1:Nat) (t1:SetTable),Heap.SameBut r s.heap h1->h1.get? r=some (j2m #[] ep1 t1)->t1.place=#[]->t1.dummies=#[]->t1.plain=true->t1.led=led->Good t1.mask->es.size * 5 < t1.mask * 3 ->
    wpAny (model prog w) A (setState r >>= fun x=>match x with
     | (_,_,ts)=>match ts.road t with
      | .slotForSlot=>storeSet r es { t with finger:=ts.finger,led:=ts.led&&t.led,moves:=ts.moves,plain:=ts.plain&&t.plain}
      | .clean=>do
       let (es,t) <- (do
        let some (t,order):=(SetTable.laid ts.mask ts.finger ts.moves (led:=ts.led&&t.led) (plain:=ts.plain&&t.plain) (es.map (·.1))) | unsupported "internal:set-table-without-room"
        let es':=order.filterMap (es[·]?)
        if es'.size != es.size then unsupported "internal:set-table-lost-an-element"
        pure (es',t))
       storeSet r es t
      | .oneByOne=>do
       for (h,x) in <- setWalkUnseen a [r] (some r) do
        let _ <- holding [x] (setAddHashed r x h)
        each
        if (<- setState a).2.1 != ep then unsupported "set.changed-during-merge") Q E { s with heap:=h1}:=by
   intro h1 ep1 t1 sb o1 p1 d1 pl1 l1 g1 rm;have f1:t1.fits (#[]:Array (Int×Value)).size=true:=fits_iff.mpr ⟨by rw [p1];rfl,by rw [p1,d1];exact Nat.zero_le _⟩;refine wB (wpAny_setState_of (s:={ s with heap:=h1}) o1 rfl f1 ?_);dsimp only
   have led2:w.params.followText "set-order"=true\/(t1.led&&t.led)=true:=by
    rcases lr with z | z
    ·exact .inl z
    ·rcases K.led with y | y
     ·exact .inl y
     ·exact .inr (by rw [l1,z,y];rfl)
   have hroad:t1.road t=.slotForSlot\/t1.road t=.clean:=by
    unfold SetTable.road SetTable.fill;rw [p1,d1];simp only [List.size_toArray,List.length_nil,Nat.add_zero,bne_self_eq_false,Bool.false_eq_true,if_false];split
    ·exact .inl rfl
    ·exact .inr rfl
   have hdm:t1.road t=.slotForSlot->t.dummies.isEmpty=true:=fun z=>by
    unfold SetTable.road at z;split at z
    ·cases z
    ·split at z
     ·rename_i q
      exact (Bool.and_eq_true_iff.mp q).2
     ·cases z
   have up:∀ h2,Heap.SameBut r h1 h2->Heap.SameBut r s.heap h2:=fun h2 q=>sb.trans q;rcases hroad with z | z
   ·have hd:=hdm z;rw [z];dsimp only;refine j5e (s:={ s with heap:=h1}) o1 (j26 sm) fun h2 sb2 o2=>?_;refine h h2 ks (up h2 sb2) ⟨es,_,_,o2,K.ent,K.nd,sm,⟨K.tab.fits,K.tab.rise,?_,K.tab.good,K.tab.room⟩,led2⟩ (.refl _);show (t1.plain&&t.plain)=true;rw [pl1,K.tab.plain];rfl
   ·rw [z];dsimp only;have hmask:es.size<=t1.mask:=by omega
    obtain ⟨t2,od,el,p⟩:=j68 (fg:=t1.finger) (mv:=t1.moves) (led:=t1.led&&t.led) (pl:=t1.plain&&t.plain) (hs:=es.map (·.1)) g1.cyc (by rw [Array.size_map];exact hmask);obtain ⟨r1,r2,r3,r4,r5,r6⟩:=j69 el;rw [el];rw [Array.size_map] at p;have pk:=k3m p;have sz:(od.filterMap (es[·]?)).size=es.size:=by rw [<- Array.length_toList,pk.length_eq,Array.length_toList]
    have ods:od.size=es.size:=by rw [<- Array.length_toList,p.length_eq,List.length_range]
    refine wB (w7k p ?_);dsimp only;refine j5e (s:={ s with heap:=h1}) o1 (by rw [sz];exact j26 sm) fun h2 sb2 o2=>?_;obtain ⟨ks',q1,q2⟩:=j2q pk.symm K.ent;refine h h2 ks' (up h2 sb2) ⟨_,_,_,o2,q2,q1.nodup_iff.mp K.nd,by rw [sz];exact sm,⟨fits_iff.mpr ⟨by rw [r6,sz,ods],?_⟩,r1,?_,by rw [r4];exact g1,?_⟩,by rw [r2];exact led2⟩ q1.symm
    ·rw [r6,r5,ods,r4];exact hmask
    ·rw [r3,pl1,K.tab.plain];rfl
    ·unfold SetTable.fill;rw [r6,r5,ods,r4];exact rm
  unfold setRoomFor;refine wB (wB (wpAny_setState_of er rfl (j7d led).fits ?_));dsimp only;by_cases hr:es.size * 5>=7 * 3
  ·have e1:(SetTable.fresh 0 0 led).roomFor es.size=some (es.size * 2):=by unfold SetTable.roomFor SetTable.fill SetTable.fresh;dsimp only;rw [if_pos (by simpa using hr)];simp
   rw [e1];dsimp only;obtain ⟨g1,g2⟩:=j76 (n:=es.size * 2) (by omega);obtain ⟨t2,od,el,p⟩:=j68 (fg:=0) (mv:=(SetTable.fresh 0 0 led).movedTo (SetTable.sizeAbove (es.size * 2) - 1)) (led:=led) (pl:=true) (hs:=(#[]:Array (Int×Value)).map (·.1)) g1.cyc (by rw [Array.size_map];exact Nat.zero_le _);obtain ⟨r1,r2,r3,r4,r5,r6⟩:=j69 el;have el':(SetTable.fresh 0 0 led).relaid ((#[]:Array (Int×Value)).map (·.1)) (es.size * 2)=some (t2,od):=el;unfold setRelay;refine wB (wpAny_setState_of er rfl (j7d led).fits ?_);dsimp only
   rw [if_neg (by
    have:SetTable.sizeAbove (es.size * 2)<=512:=by rcases g1 with q | q | q | q | q | q | q<;>omega
    have e3:(512:Nat)<=sizeLine:=by rw [sizeLine_eq];decide
    omega),el']
   rw [Array.size_map] at p;have pk:=k3m (es:=#[]) p;have sz:(od.filterMap ((#[]:Array (Int×Value))[·]?)).size=0:=by rw [<- Array.length_toList,pk.length_eq];rfl
   have ods:od.size=0:=by rw [<- Array.length_toList,p.length_eq];rfl
   refine wB (w7k (es:=#[]) p ?_);dsimp only;refine j5e er (by rw [sz];exact Nat.zero_le _) fun h2 sb2 o2=>?_;have o3:od.filterMap ((#[]:Array (Int×Value))[·]?)=#[]:=Array.size_eq_zero_iff.mp sz;rw [o3] at o2;refine go h2 _ t2 sb2 o2 (Array.size_eq_zero_iff.mp (by rw [r6,ods])) r5 r3 r2 (by rw [r4];exact g1) (by rw [r4];omega)
  ·have e1:(SetTable.fresh 0 0 led).roomFor es.size=none:=by unfold SetTable.roomFor SetTable.fill SetTable.fresh;dsimp only;rw [if_neg (by simpa using hr)]
   rw [e1];dsimp only;refine wP ?_;exact go s.heap epr (SetTable.fresh 0 0 led) (Heap.SameBut.refl _ _) er rfl rfl rfl rfl (.inl rfl) (by show es.size * 5 < 7 * 3;omega)
end
end SX
namespace SX
open PySem PyProof.Rows
theorem k8x:entryFor table "set.__xor__"=some Builtin.«frozenset.__xor__» :=
 entryFor_alias (id':="frozenset.__xor__") (by kernel_rfl) (by first | rfl | decide +kernel | (unfold String.splitOn;simp +decide [String.splitOnAux])) (by decide +kernel) (by kernel_rfl)
theorem k8y:entryFor table "set.__and__"=some Builtin.«frozenset.__and__» :=
 entryFor_alias (id':="frozenset.__and__") (by kernel_rfl) (by first | rfl | decide +kernel | (unfold String.splitOn;simp +decide [String.splitOnAux])) (by decide +kernel) (by kernel_rfl)
section
variable {prog:Program} {w:World} {A:Around} {E:Value->Shared->Prop} {s:Shared} {a b:Addr} {ka kb:List Int}
theorem w04 {Q:Value->Shared->Prop} (h:∀ h',Fresh w s.heap.objs.size h'->(∀ c o,s.heap.get? c=some o->h'.get? c=some o)->Q (.ref s.heap.objs.size) { s with heap:=h'}):wpAny (model prog w) A (newSet (.type "set")) Q E s:=by
 unfold newSet setsByText;refine wB (wB (wpAny_askSetting (wP ?_)));dsimp only;simp only [newObj];refine wB (wpAny_alloc (wP (h _ ⟨0,_,Heap.get?_push_size _ rfl,?_⟩ fun c o e=>Heap.get?_push_of_some _ e)))
 cases q:w.params.followText "set-order" with
 | true=>exact .inl rfl
 | false=>exact .inr (by show (!(w.params.followText "set-order"))=true;rw [q];rfl)
theorem j3f {Q:Bool->Shared->Prop} (S:SetI w a ka s.heap) (h:Q true s):wpAny (model prog w) A (Builtin.Frozenset.isAnySet (.ref a)) Q E s:=by unfold Builtin.Frozenset.isAnySet;refine wB (wpAny_isInstance S.typeIs sub_set_self (wP ?_));exact h
theorem k7w {id:String} {Q:Value->Shared->Prop} (S:SetI w a ka s.heap)
  (h:∀ h' ks',SetI w s.heap.objs.size ks' h'->ks'.Perm ka->(∀ c o,s.heap.get? c=some o->h'.get? c=some o)->Q (.ref s.heap.objs.size) { s with heap:=h'}) :
  wpAny (model prog w) A (Builtin.Frozenset.newFrom id (.type "set") (.ref a)) Q E s:=by
 unfold Builtin.Frozenset.newFrom;refine wB (w04 fun h1 F1 k1=>?_);have S1:SetI w a ka h1:=S.keep fun o e=>k1 a o e;have ne:s.heap.objs.size≠a:=Nat.ne_of_gt S.lt;refine wB (wP (wB (wpAny_holding ?_)));unfold Builtin.Frozenset.updateFrom;refine wB (j3f (s:={ s with heap:=h1}) S1 ?_);rw [if_pos rfl];refine wB (wP ?_);unfold Builtin.Frozenset.merge;have S1':=S1;obtain ⟨es,ep,t,e,K⟩:=S1';refine wB (j5s (n:=0) (s:={ s with heap:=h1}) e K.tab.fits ?_);refine w5o (s:={ s with heap:=h1}) F1 S1 ne fun h2 ks' sb S2 p=>?_;exact wP (h h2 ks' S2 p fun c o q=>sb.extBut c o (Nat.ne_of_lt (Heap.lt_size q)) (k1 c o q))
theorem w9r {Q:Value->Shared->Prop} (Sa:SetI w a ka s.heap) (Sb:SetI w b kb s.heap) (hl:ka.length + kb.length<=126)
  (h:∀ h' ks,SetI w s.heap.objs.size ks h'->(∀ k,k∈ks↔((k∈kb/\k∉ka)\/(k∉kb/\k∈ka)))->(∀ c o,s.heap.get? c=some o->h'.get? c=some o)->Q (.ref s.heap.objs.size) { s with heap:=h'}) :
  wpAny (model prog w) A (binaryOp .BitXor (.ref a) (.ref b)) Q E s:=by
 refine wpAny_binaryOp_same (op:=.BitXor) (T:="set") Sa.typeIs Sb.typeIs F.fills_set_xor F.slot_set_xor ?_;refine wpAny_call_entry F.slot_set_xor Sa.typeIs k8x ?_ (F.args_set_xor_2 _ _);show wpAny _ _ (Builtin.Frozenset.slot1 "__xor__" ⟨[.ref a,.ref b],[]⟩ >>= _) _ _ _;refine wB (wB (wP (wP ?_)));dsimp only;rw [if_neg Bool.false_ne_true];dsimp only;refine wB (wB (j3f Sa (j3f Sb ?_)));rw [if_neg (by simp)];refine wB (wP (wB ?_))
 wp_delta
 unfold Builtin.Frozenset.baseOf;refine wB (wB (wpAny_isInstance Sa.typeIs sub_set_self (wP ?_)));rw [if_pos rfl];refine wB (k7w Sb fun h1 ks1 S1 p1 k1=>?_);have Sa1:SetI w a ka h1:=Sa.keep fun o e=>k1 a o e;have ne:s.heap.objs.size≠a:=Nat.ne_of_gt Sa.lt;refine wB (wP (wB (wpAny_holding ?_)));unfold Builtin.Frozenset.symmetricDifferenceUpdate;rw [if_neg (by simpa using Ne.symm ne)];dsimp only;refine wB (wpAny_typeOf (s:={ s with heap:=h1}) (SetI.typeIs (s:={ s with heap:=h1}) Sa1) ?_);rw [if_neg (by decide)];refine wB (j3f (s:={ s with heap:=h1}) Sa1 ?_);rw [if_pos rfl];refine wB (wP (wB (wP ?_)));have Sa1':=Sa1;obtain ⟨es,ep,t,e,K⟩:=Sa1';refine wB (j5s (n:=0) (s:={ s with heap:=h1}) e K.tab.fits ?_);refine wpAny_holding (wB (k29 (s:={ s with heap:=h1}) Sa1 fun es' ks' P' p'=>?_));have nd':ks'.Nodup:=p'.nodup_iff.mpr Sa.nodup;have len':=p'.length_eq;have len1:=p1.length_eq
 refine wB (wpAny_forIn_array' _ (fun rest _ s2=>∃ dn kr h2 k2,ks'=dn++kr/\Paired j4d rest kr/\s2={ s with heap:=h2}/\Heap.SameBut s.heap.objs.size h1 h2/\SetI w s.heap.objs.size k2 h2/\k2.length<=ks1.length + dn.length /\
   ∀ k,k∈k2↔((k∈ks1/\k∉dn)\/(k∉ks1/\k∈dn))) _ ?turn ?fin es' _ ⟨[],ks',h1,ks1,rfl,P',rfl,Heap.SameBut.refl _ _,S1,Nat.le_refl _,fun k=>by simp⟩)
 case fin =>
  rintro _ s2 ⟨dn,kr,h2,k2,e0,P,rfl,sb,S2,_,m⟩;cases P;rw [List.append_nil] at e0;subst e0;refine wP (wP (wP ⟨_,rfl,by simp,?_⟩));refine h h2 k2 S2 (fun k=>?_) fun c o q=>sb.extBut c o (Nat.ne_of_lt (Heap.lt_size q)) (k1 c o q);rw [m k,p1.mem_iff,p'.mem_iff]
 case turn =>
  rintro x rest _ s2 ⟨dn,kr,h2,k2,e0,P,rfl,sb,S2,l2,m⟩
  cases P with
  | cons hx hr =>
   rename_i k kr
   obtain ⟨hx1,u,hx2⟩:=hx;rw [hx1,hx2];have nd2:=nd';rw [e0] at nd2
   have hkd:k∉dn:=fun q=>by have:=(List.nodup_append.mp nd2).2.2 k q k List.mem_cons_self;exact this rfl
   have lenk:dn.length + (kr.length + 1)=ks'.length:=by rw [e0,List.length_append,List.length_cons]
   have ea:∀ h3,Heap.SameBut s.heap.objs.size h2 h3->h3.get? a=some (j2m es ep t):=fun h3 q=>q.extBut a _ (Ne.symm ne) (sb.extBut a _ (Ne.symm ne) e)
   have rest':∀ (R:ForInStep PUnit->Shared->Prop) h3 k3,Heap.SameBut s.heap.objs.size h2 h3->SetI w s.heap.objs.size k3 h3->k3.length<=k2.length + 1->(∀ j,j∈k3↔((j∈k2/\j≠k)\/(j∉k2/\j=k))) ->
     (∀ s':Shared,(∃ dn kr h2 k2,ks'=dn++kr/\Paired j4d rest kr/\s'={ s with heap:=h2}/\Heap.SameBut s.heap.objs.size h1 h2/\SetI w s.heap.objs.size k2 h2/\k2.length<=ks1.length + dn.length/\∀ k,k∈k2↔((k∈ks1/\k∉dn)\/(k∉ks1/\k∈dn)))->R (.yield ⟨⟩) s') ->
     wpAny (model prog w) A.in1 (Builtin.Frozenset.unchanged (toString "frozenset."++toString "__xor__") a ep >>= fun _=>pure (ForInStep.yield PUnit.unit)) R E { s with heap:=h3}:=by
    intro R h3 k3 sb3 S3 l3 m3 fin;unfold Builtin.Frozenset.unchanged;refine wB (wB (j5s (n:=0) (s:={ s with heap:=h3}) (ea h3 sb3) K.tab.fits ?_));rw [if_neg (by simp)];refine wP (wP (fin _ ⟨dn++[k],kr,h3,k3,by rw [e0];simp,hr,rfl,sb.trans sb3,S3,by rw [List.length_append];simp;omega,fun j=>?_⟩));rw [m3 j,m j,List.mem_append,List.mem_singleton];by_cases q2:j=k
    ·subst q2;by_cases q1:j∈ks1<;>simp [q1,hkd]
    ·by_cases q1:j∈ks1<;>by_cases q3:j∈dn<;>simp [q1,q2,q3]
   refine wB (wpAny_holding (wB ?_));refine k00 (s:={ s with heap:=h2}) S2 fun h3 k3 sb3 S3 p3=>?_;by_cases hin:k∈k2
   ·rw [decide_eq_true hin,if_neg (by simp)];rw [if_pos hin] at p3;have nd3:=p3.nodup_iff.mp S2.nodup;refine wP (rest' _ h3 k3 sb3 S3 (by have:=p3.length_eq;rw [List.length_cons] at this;omega) (fun j=>?_) fun _ z=>z);have q:=p3.mem_iff (a:=j);rw [List.mem_cons] at q;rw [q];have hk1:=(List.nodup_cons.mp nd3).1;by_cases q2:j=k
    ·subst q2;simp [hk1]
    ·simp [q2]
   ·rw [decide_eq_false hin,if_pos (by simp)];rw [if_neg hin] at p3;subst p3;refine wB (w6n (s:={ s with heap:=h3}) S3 (by omega) fun h4 k4 sb4 S4 p4=>?_);rw [if_neg hin] at p4;refine wP (rest' _ h4 k4 (sb3.trans sb4) S4 (by have:=p4.length_eq;rw [List.length_cons] at this;omega) (fun j=>?_) fun _ z=>z);rw [p4.mem_iff,List.mem_cons];by_cases q2:j=k
    ·subst q2;simp [hin]
    ·simp [q2]
end
end SX
namespace SX
open PySem PyProof.Rows
section
variable {prog:Program} {w:World} {A:Around} {E:Value->Shared->Prop} {R:Result->Shared->Prop} {I:Addr} {fp wr:List Addr} {G:Array GenState->Array GenState->Prop} {n:Nat} {P:Nat->Value->Prop} {St:Nat->Shared->Prop}
theorem w8e (W:WalksS prog w A.in1 I fp wr G n P St) (r:Addr) (hr:r∉fp) (val:Nat->Int) (hval:∀ i v,P i v->∃ t,v=.int (val i) t) (hb:n<=126) :
  ∀ (m i:Nat) (s:Shared) (ks:List Int),i + m=n->St i s->SetI w r ks s.heap->(∀ k,k∈ks↔∃ j,j < i/\val j=k)->ks.length<=i ->
   (∀ s' ks',Moved (r :: wr) G s s'->SetI w r ks' s'.heap->(∀ k,k∈ks'↔∃ j,j < n/\val j=k)->R (.ok (.ret .none)) s') ->
   codeAny (model prog w) A (.builtin "set.update.loop" ⟨[.ref r,.ref I],[]⟩) R s:=by
 have nw:r∉wr:=fun q=>hr (W.sub _ q);have sub:∀ c∈wr,c∈r :: wr:=fun c hc=>List.mem_cons_of_mem _ hc;intro m
 induction m with
 | zero =>
  intro i s ks hi st S mem hl fin;obtain rfl:i=n:=by omega
  refine codeAny_builtin F.entry_set_update_loop ?_;rw [Around.under_plainId F.plain_set_update_loop _];refine wB (W.done s _ _ st fun s' mv=>?_);exact wP (fin s' ks (mv.mono sub) (S.keep fun o e=>mv.heap r o nw e) mem)
 | succ m ih =>
  intro i s ks hi st S mem hl fin;refine codeAny_builtin F.entry_set_update_loop ?_;rw [Around.under_plainId F.plain_set_update_loop _];refine wB (W.item i s _ _ (by omega) st fun v s1 hP st1 mv=>?_);obtain ⟨u,rfl⟩:=hval i v hP;have S1:SetI w r ks s1.heap:=S.keep fun o e=>mv.heap r o nw e;refine wB (wpAny_holding (w9g S1 (by omega) fun h2 ks2 tk sb S2 p htk=>?_))
  have l2:ks2.length<=i + 1:=by
   have:=p.length_eq;split at this
   ·omega
   ·rw [List.length_cons] at this;omega
  refine wP ⟨plainId_quiet F.plain_set_update_loop _,ih (i + 1) _ ks2 (by omega) (W.frame _ s1 _ _ st1 htk fun c hc o e=>?_) S2 (fun k=>?_) l2 fun s3 ks3 mv3 S3 m3=>?_⟩
  ·rw [sb.2 c (fun z:c=r=>hr (by rw [<- z];exact hc))];exact e
  ·rw [p.mem_iff]
   have q:(k∈if val i∈ks then ks else val i :: ks)↔(k=val i\/k∈ks):=by
    split
    ·rename_i z
     constructor
     ·exact .inr
     ·rintro (y | y)
      ·rw [y];exact z
      ·exact y
    ·exact List.mem_cons
   rw [q,mem k];constructor
   ·rintro (z | ⟨j,hj,e⟩)
    ·exact ⟨i,by omega,z.symm⟩
    ·exact ⟨j,by omega,e⟩
   ·rintro ⟨j,hj,e⟩;by_cases hji:j=i
    ·subst hji;exact .inl e.symm
    ·exact .inr ⟨j,by omega,e⟩
  ·refine fin s3 ks3 (Moved.trans W.gtrans ((mv.mono sub).then_heap htk fun c o hc e=>?_) mv3) S3 m3;rw [sb.2 c (fun z:c=r=>hc (by rw [z];exact List.mem_cons_self))];exact e
end
section
variable {prog:Program} {w:World} {A:Around} {E:Value->Shared->Prop} {s:Shared}
theorem k5z (x:Value) {Q:Value->Shared->Prop} (h:∀ h',Fresh w s.heap.objs.size h'->(∀ c o,s.heap.get? c=some o->h'.get? c=some o)->Q (.ref s.heap.objs.size) { s with heap:=h'}) :
  codeAny (model prog w) A (.call (.builtin "set.__new__") ⟨[.type "set",x],[]⟩) (wants Q E) s:=by
 refine codeAny_of_tree ?_;refine wB (wpAny_of_eq (F.newCall_set_1 x) (wP ⟨plainId_quiet F.plain_set_new _,codeAny_builtin F.entry_set_new ?_⟩));rw [Around.under_plainId F.plain_set_new _];unfold Builtin.«set.__new__» Builtin.Frozenset.newClass;have q1:=sub_set_self;obtain ⟨hp,gs,dr,tk,os⟩:=s;dsimp only;generalize hN:newSet=NS
 wp_walk
 subst hN;refine w04 fun h' F' k'=>?_;exact wP (h h' F' k')
set_option maxHeartbeats 3200000 in
theorem k43 {l:Addr} {its:Array Value} {ns:List Int} {Q:Value->Shared->Prop} (hh:A.handled=none) (hl:s.heap.IsList l its) (hi:IntsAre its.toList ns) (hb:its.size<=126)
  (h:∀ h' tk ks,SetI w s.heap.objs.size ks h'->(∀ k,k∈ks↔k∈ns)->(∀ c o,s.heap.get? c=some o->h'.get? c=some o)->Q (.ref s.heap.objs.size) { s with heap:=h',toks:=tk}) :
  wpAny (model prog w) A (call (.type "set") [.ref l]) Q E s:=by
 obtain ⟨c0,tl,hmro⟩:=F.called_set.mro;have hmade:=F.called_set.made;have hsub:=F.called_set.sub;refine wpAny_call (codeAny_of_tree ?_);refine wP ⟨Code.quiet_builtin _ (by decide +kernel),codeAny_builtin F.entry_type_call ?_⟩;rw [Around.under_plain (weight_type_call_type "set" [.ref l] []) rfl];have hn1:=F.called_set.notType;have hn2:=F.called_set.canCreate;have hct:=F.typeCall_set_1 (.ref l)
 repeat (any_goals (first | assumption | wp_step))
 refine codeAny_mono (k5z (.ref l) (E:=E) (Q:=fun obj s₁=>obj=.ref s.heap.objs.size/\∃ h1,s₁={ s with heap:=h1}/\Fresh w s.heap.objs.size h1/\∀ c o,s.heap.get? c=some o->h1.get? c=some o) fun h1 F1 k1=>⟨rfl,h1,rfl,F1,k1⟩) fun r1 s1 hr1=>?_
 cases r1 with
 | error e=>exact hr1
 | ok f1 =>
  cases f1 with
  | ret obj =>
   obtain ⟨rfl,h1,rfl,F1,k1⟩:=hr1;have S1:SetI w s.heap.objs.size [] h1:=F1.set;have hT:Shared.TypeIs { s with heap:=h1} (.ref s.heap.objs.size) "set":=SetI.typeIs (s:={ s with heap:=h1}) S1;have hli:=F.called_set.init.lookup;have hbi:=F.called_set.init.bind (.ref s.heap.objs.size)
   repeat (any_goals (first | assumption | wp_step))
   refine codeAny_mono (codeAny_call_builtin (R:=wants (fun r s₂=>r=.none/\∃ h' tk ks,s₂={ s with heap:=h',toks:=tk}/\SetI w s.heap.objs.size ks h'/\(∀ k,k∈ks↔k∈ns)/\∀ c o,s.heap.get? c=some o->h'.get? c=some o) E) F.called_set.init.plain F.entry_set_init (check_set_init_1 hT ?_)) fun r2 s2 hr2=>?_
   ·obtain ⟨ol,hol,hcl,nl,hdl⟩:=id hl;have hl1:h1.IsList l its:=⟨ol,k1 l ol hol,hcl,nl,hdl⟩;have hTl:Shared.TypeIs { s with heap:=h1} (.ref l) "list":=hl1.typeIs;have q1:=F.sub_list_set;have q2:=F.sub_list_frozenset;have q3:(Value.type "list" == Value.type "dict")=false:=by decide
    obtain ⟨ep0,led0,e1,l1⟩:=id F1;unfold Builtin.«set.__init__» noKeywords Builtin.Frozenset.updateFrom;generalize hPI:pyIter=PI
    wp_walk
    subst hPI;refine wpAny_pyIter_list hl1 (wB (wpAny_runValue ?_));have lt1:l < h1.objs.size:=Heap.lt_size (k1 l ol hol);have rlt:s.heap.objs.size < h1.objs.size:=S1.lt;have hh3:A.in1.in1.in1.handled=none:=by simp [hh]
    have nr:s.heap.objs.size∉[h1.objs.size,l]:=by simp only [List.mem_cons,List.not_mem_nil,or_false,not_or];exact ⟨Nat.ne_of_lt rlt,Nat.ne_of_gt (Heap.lt_size hol)⟩
    have hval:∀ (i:Nat) (v:Value),its[i]?=some v->∃ t,v=.int ((fun i=>ns.getD i 0) i) t:=fun i v hv=>IntsAre.int_at hi i v (by rw [Array.getElem?_toList];exact hv);have push1:∀ c o,h1.get? c=some o->(h1.push { cls:=.type "list_iterator",data:=.fields #[.ref l,.int 0 0]}).get? c=some o:=fun c o e=>Heap.get?_push_of_some _ e;have hlen:=IntsAre.length hi;rw [Array.length_toList] at hlen;refine w8e ((Walks.list hh3 _ l (Nat.ne_of_lt lt1) its).toS) s.heap.objs.size nr (fun i=>ns.getD i 0) hval hb its.size 0 _ [] (by omega) ⟨⟨_,Heap.get?_push_size _ rfl,rfl,rfl⟩,hl1.push _⟩ (S1.keep fun o e=>push1 _ o e) (fun k=>by simp) (Nat.zero_le _) fun s2 ks2 mv S2 m2=>?_;obtain ⟨h2,g2,d2,tk2,os2⟩:=s2;have eg:g2=s.gens:=mv.gens;have ed:d2=s.drawn:=mv.drawn;have eo:os2=s.os:=mv.os;subst eg ed eo;refine wP (wP ⟨rfl,h2,tk2,ks2,rfl,S2,fun k=>?_,fun c o e=>?_⟩)
    ·rw [m2 k];constructor
     ·rintro ⟨j,hj,e⟩;rw [<- e];have:j < ns.length:=by omega
      simp [List.getD_eq_getElem?_getD,this]
     ·intro hk;obtain ⟨j,hj⟩:=List.getElem?_of_mem hk;refine ⟨j,by have:=(List.getElem?_eq_some_iff.mp hj).1;omega,?_⟩;simp [List.getD_eq_getElem?_getD,hj]
    ·refine mv.heap c o ?_ (push1 c o (k1 c o e));simp only [List.mem_cons,List.not_mem_nil,or_false,not_or];exact ⟨Nat.ne_of_lt (Heap.lt_size e),Nat.ne_of_lt (Heap.lt_size (k1 c o e))⟩
   ·cases r2 with
    | error e=>exact hr2
    | ok f2 =>
     cases f2 with
     | ret r =>
      obtain ⟨rfl,h',tk,ks,rfl,S',m',k'⟩:=hr2
      repeat (any_goals (first | assumption | wp_step))
      exact h _ _ ks S' m' k'
     | _=>exact hr2.elim
  | _=>exact hr1.elim
end
end SX
namespace SX
open PySem PyProof.Rows
theorem slot_si_next:Slot "set_iterator" "__next__" "set_iterator.__next__" :=
 .of (owner:="set_iterator") (n:="__next__") (by rw [typeLookup_type,builtinLookup_eq_fast];kernel_rfl) (by decide +kernel) (by decide +kernel) (by decide +kernel) (by first | exact .inl (by decide +kernel) | exact .inr (by decide +kernel)) (by rw [isSubtype_type];kernel_rfl)
theorem w2q:Manifest.owners.lookup (String.ofList ['r','o','t','a','r','e','t','i','_','t','e','s'].reverse)=some Manifest.sig_set_iterator:=by kernel_rfl
theorem j55 (a:Value):argsOk "set_iterator.__next__" ⟨[a],[]⟩:=by unfold argsOk;rw [signature?_of (id:="set_iterator.__next__") (n:=['_','_','t','x','e','n','_','_']) (o:=['r','o','t','a','r','e','t','i','_','t','e','s']) (by kernel_rfl) w2q];kernel_rfl
theorem j49:entryFor table "set_iterator.__next__"=some Builtin.«set_iterator.__next__»:=entryFor_of_tree (by kernel_rfl)
theorem j5z:Slot "set_iterator" "__iter__" "set_iterator.__iter__" :=
 .of (owner:="set_iterator") (n:="__iter__") (by rw [typeLookup_type,builtinLookup_eq_fast];kernel_rfl) (by decide +kernel) (by decide +kernel) (by decide +kernel) (by first | exact .inl (by decide +kernel) | exact .inr (by decide +kernel)) (by rw [isSubtype_type];kernel_rfl)
theorem k1b (a:Value):argsOk "set_iterator.__iter__" ⟨[a],[]⟩:=by unfold argsOk;rw [signature?_of (id:="set_iterator.__iter__") (n:=['_','_','r','e','t','i','_','_']) (o:=['r','o','t','a','r','e','t','i','_','t','e','s']) (by kernel_rfl) w2q];kernel_rfl
theorem j9r:entryFor table "set_iterator.__iter__"=some Builtin.«dict_keyiterator.__iter__» :=
 entryFor_alias (id':="dict_keyiterator.__iter__") (by kernel_rfl) (by first | rfl | decide +kernel | (unfold String.splitOn;simp +decide [String.splitOnAux])) (by decide +kernel) (by kernel_rfl)
theorem j7r:entryFor table "set.__iter__"=some Builtin.«frozenset.__iter__» :=
 entryFor_alias (id':="frozenset.__iter__") (by kernel_rfl) (by first | rfl | decide +kernel | (unfold String.splitOn;simp +decide [String.splitOnAux])) (by decide +kernel) (by kernel_rfl)
abbrev w92 (slot i n ep:Nat) (a:Addr):Obj:={ cls:=.type "set_iterator",dict:=none,data:=.fields #[rawInt slot,rawInt i,.ref a,rawInt n,rawInt ep],slots:=#[]}
def wOrd (w:World) (a:Addr) (es:Array (Int×Value)) (ep:Nat):Array (Int×Value):=if w.params.followText "set-order"=true then pickOrder (w.params.setOrder a ep) es else es
theorem j6k (w:World) (a:Addr) (es:Array (Int×Value)) (ep:Nat):(wOrd w a es ep).toList.Perm es.toList:=by
 unfold wOrd;split
 ·exact j6x _ es
 ·exact .refl _
def SIt (w:World) (it a:Addr) (es:Array (Int×Value)) (ep:Nat) (t:SetTable) (i:Nat) (h:Heap):Prop :=
 ∃ slot,(w.params.followText "set-order"=false->SetTable.below t.place slot=i)/\h.get? it=some (w92 slot i es.size ep a)/\h.get? a=some (j2m es ep t)
section
variable {prog:Program} {w:World} {A:Around} {E:Value->Shared->Prop} {s:Shared} {a it:Addr} {ks:List Int} {es:Array (Int×Value)} {ep:Nat} {t:SetTable}
theorem k3z {b:Addr} {vs:Array Value} {cls:Value} {Q:Array Value->Shared->Prop} (e:s.heap.get? b=some { cls:=cls,dict:=none,data:=.fields vs,slots:=#[]}) (h:Q vs s):wpAny (model prog w) A (fieldsOf (.ref b)) Q E s:=by unfold fieldsOf;exact wB (wpAny_load e (wP h))
theorem k7u {slot i:Nat} {x:Int×Value} {Q:Option (Value×Nat)->Shared->Prop} (e:s.heap.get? a=some (j2m es ep t)) (K:SOk w es t ks) (hs:w.params.followText "set-order"=false->SetTable.below t.place slot=i)
  (hx:(wOrd w a es ep)[i]?=some x) (h:∀ sl,(w.params.followText "set-order"=false->SetTable.below t.place sl=i + 1)->Q (some (x.2,sl)) s):wpAny (model prog w) A (setNext a slot i ep) Q E s:=by
 have hf:=fits_iff.mp K.tab.fits;unfold setNext setsByText;refine wB (wpAny_setState_of e rfl K.tab.fits (wB (wB (wpAny_askSetting (wP ?_)))));dsimp only;unfold wOrd at hx;split
 ·rename_i hb
  have hb':w.params.followText "set-order"=true:=hb;rw [if_pos hb'] at hx;rw [if_neg (by simp)];unfold setWalk setsByText;refine wB (wB (wpAny_setState_of e rfl K.tab.fits (wB (wB (wpAny_askSetting (wP ?_))))));dsimp only;rw [if_pos hb];refine wB (wpAny_askSetting (wP (wP ?_)));dsimp only;rw [show (model prog w).w=w from rfl,hx];exact h slot fun z=>by rw [hb'] at z;cases z
 ·rename_i hb
  have hb':w.params.followText "set-order"=false:=Bool.eq_false_iff.mpr hb;rw [if_neg (by rw [hb'];simp)] at hx;rw [if_neg (by show ¬ ((!t.plain&&decide (es.size > 1))=true);rw [K.tab.plain];simp)]
  have hl:t.led=true:=by
   rcases K.led with z | z
   ·rw [hb'] at z;cases z
   ·exact z
  refine wB (show wpAny _ A (if (!t.led&&!es.isEmpty)=true then unsupported "set:maker-not-led" else pure ()) _ _ _ from ?_);rw [hl,if_neg (by simp)];have hi:=(Array.getElem?_eq_some_iff.mp hx).1;rw [hs hb',hx];have hp:t.place[i]?=some t.place[i]!:=by rw [Array.getElem?_eq_getElem (by omega),getElem!_pos]
  rw [hp];refine wP (wP (h _ fun _=>?_));exact k45 K.tab.rise (by rw [Array.getElem?_toList];exact hp)
theorem k7v {slot:Nat} {Q:Option (Value×Nat)->Shared->Prop} (e:s.heap.get? a=some (j2m es ep t)) (K:SOk w es t ks) (hs:w.params.followText "set-order"=false->SetTable.below t.place slot=es.size) (h:Q none s):wpAny (model prog w) A (setNext a slot es.size ep) Q E s:=by
 unfold setNext setsByText;refine wB (wpAny_setState_of e rfl K.tab.fits (wB (wB (wpAny_askSetting (wP ?_)))));dsimp only;split
 ·rename_i hb
  rw [if_neg (by simp)];unfold setWalk setsByText;refine wB (wB (wpAny_setState_of e rfl K.tab.fits (wB (wB (wpAny_askSetting (wP ?_))))));dsimp only;rw [if_pos hb];refine wB (wpAny_askSetting (wP (wP ?_)));dsimp only
  have:(pickOrder ((model prog w).w.params.setOrder a ep) es)[es.size]?=none:=by rw [Array.getElem?_eq_none_iff,<- Array.length_toList,(j6x _ es).length_eq,Array.length_toList];exact Nat.le_refl _
  rw [this];exact h
 ·rename_i hb
  have hb':w.params.followText "set-order"=false:=Bool.eq_false_iff.mpr hb;rw [if_neg (by show ¬ ((!t.plain&&decide (es.size > 1))=true);rw [K.tab.plain];simp)]
  have hl:t.led=true:=by
   rcases K.led with z | z
   ·rw [hb'] at z;cases z
   ·exact z
  refine wB (show wpAny _ A (if (!t.led&&!es.isEmpty)=true then unsupported "set:maker-not-led" else pure ()) _ _ _ from ?_);rw [hl,if_neg (by simp),hs hb'];rw [show es[es.size]?=none from by simp];exact wP (wP h)
theorem k49 (hh:A.handled=none) (K:SOk w es t ks) (ne:a≠it):Walks prog w A it [it,a] [it] es.size (fun i v=>∃ x,(wOrd w a es ep)[i]?=some x/\v=x.2) (SIt w it a es ep t) where
 sub:=fun b hb=>by simp at hb;simp [hb]
 frame:=fun i h h' ⟨sl,z,e1,e2⟩ k=>⟨sl,z,k it (by simp) _ e1,k a (by simp) _ e2⟩
 item:=by
  rintro i s Q E hi ⟨sl,z,e1,e2⟩ hQ;have hT:s.TypeIs (.ref it) "set_iterator":=⟨_,e1,rfl⟩;unfold pyNext;refine wB (wpAny_attempt (wpAny_callSpecial?_slot (name:=Str.ofString "__next__") hT slot_si_next (wpAny_call_entry slot_si_next hT j49 ?_ (j55 _))));unfold Builtin.«set_iterator.__next__»;refine wB (wP (wB (k3z e1 ?_)));dsimp only;refine wB (wpAny_setEntries_of e2 rfl K.tab.fits ?_);rw [if_neg (by simp)]
  obtain ⟨x,hx⟩:∃ x,(wOrd w a es ep)[i]?=some x:=by
   have hl:i < (wOrd w a es ep).size:=by rw [<- Array.length_toList,(j6k w a es ep).length_eq,Array.length_toList];exact hi
   exact ⟨_,Array.getElem?_eq_getElem hl⟩
  simp only [Int.toNat_natCast];refine wB (k7u e2 K z hx fun sl' z'=>?_);dsimp only;refine wB (wpAny_setField_rec e1 (by simp) fun h1 o1 sb1=>wB (wpAny_setField_rec (s:={ s with heap:=h1}) o1 (by simp) fun h2 o2 sb2=>wP ⟨_,rfl,wP ?_⟩));have sb:=sb1.trans sb2;exact hQ _ h2 _ ⟨x,hx,rfl⟩ ⟨sl',z',o2,sb.extBut a _ ne e2⟩ fun b o hb q=>sb.extBut b o (by simpa using hb) q
 done:=by
  rintro s Q E ⟨sl,z,e1,e2⟩ hQ;have hT:s.TypeIs (.ref it) "set_iterator":=⟨_,e1,rfl⟩;unfold pyNext;refine wB (wpAny_attempt (wpAny_callSpecial?_slot (name:=Str.ofString "__next__") hT slot_si_next (wpAny_call_entry slot_si_next hT j49 ?_ (j55 _))));unfold Builtin.«set_iterator.__next__»;refine wB (wP (wB (k3z e1 ?_)));dsimp only;refine wB (wpAny_setEntries_of e2 rfl K.tab.fits ?_);rw [if_neg (by simp)];simp only [Int.toNat_natCast];refine wB (k7v e2 K z ?_);dsimp only;refine wB (wpAny_setField_rec e1 (by simp) fun h1 o1 sb1=>wB ?_);simp only [newExc,newTuple];refine wB (wpAny_newObj_type ?_ (by size_fits));refine wB (m:=firstArgMember _ _) (wpAny_of_eq (a:=Value.none) (by first | rfl | (simp only [firstArgMember];rfl)) (wpAny_newObj_type ?_ (by size_fits)))
  refine wpAny_raiseNew_none hh (wB (wpAny_isInstance (T:="StopIteration") (b:=true) ⟨_,Heap.get?_push_size _ rfl,rfl⟩ isSubtype_stop (wP ?_)));exact hQ _ _ fun b o hb q=>Heap.get?_push_of_some _ (Heap.get?_push_of_some _ (sb1.extBut b o (by simpa using hb) q))
 self:=by rintro i s Q E ⟨sl,z,e1,e2⟩ hQ;have hT:s.TypeIs (.ref it) "set_iterator":=⟨_,e1,rfl⟩;refine wpAny_pyIter_slot hT j5z (wpAny_call_entry j5z hT j9r ?_ (k1b _));exact wP ⟨_,rfl,"set_iterator",_,hT,slot_si_next.lookup,hQ⟩
theorem w8o {Q:Value->Shared->Prop} (e:s.heap.get? a=some (j2m es ep t)) (K:SOk w es t ks)
  (h:∀ h',SIt w s.heap.objs.size a es ep t 0 h'->(∀ c o,s.heap.get? c=some o->h'.get? c=some o)->h'.objs.size=s.heap.objs.size + 1->Q (.ref s.heap.objs.size) { s with heap:=h'}):wpAny (model prog w) A (pyIter (.ref a)) Q E s:=by
 have hT:s.TypeIs (.ref a) "set":=⟨_,e,rfl⟩;refine wpAny_pyIter_slot hT F.slot_set_iter (wpAny_call_entry F.slot_set_iter hT j7r ?_ (F.args_set_iter_1 _));unfold Builtin.«frozenset.__iter__» Builtin.Frozenset.slot0 Builtin.Frozenset.sizeOf setDrawn setsByText;refine wB (wB (wP (wP (wB (wB (wpAny_setEntries_of e rfl K.tab.fits (wP ?_)))))));refine wB (wB (wpAny_setState_of e rfl K.tab.fits (wB (wB (wpAny_askSetting (wP (wP ?_)))))));dsimp only;rw [if_neg (by show ¬ ((!(model prog w).w.params.followText "set-order"&&(!t.plain&&decide (es.size > 1)))=true);rw [K.tab.plain];simp)];refine wB (wP (wB (j5s (n:=0) e K.tab.fits ?_)));unfold newFields;refine wB (wpAny_newObj_type ?_ (by size_fits));refine wP ⟨_,rfl,"set_iterator",_,⟨_,Heap.get?_push_size _ rfl,rfl⟩,slot_si_next.lookup,?_⟩;exact h _ ⟨0,fun _=>k44 K.tab.rise,Heap.get?_push_size _ rfl,Heap.get?_push_of_some _ e⟩ (fun c o q=>Heap.get?_push_of_some _ q) (Heap.size_push _ _)
end
end SX
namespace SX
open PySem PyProof.Rows
theorem j99:typeLookup (.type "set") "__len__"=pure (some (.builtin "set.__len__")):=by rw [typeLookup_type,builtinLookup_eq_fast];kernel_rfl
theorem w58 {es:List (Int×Value)} {ks:List Int} (P:Paired j4d es ks):∀ (j:Nat) (e:Int×Value),es[j]?=some e->∃ k,ks[j]?=some k/\j4d e k:=by
 induction P with
 | nil=>intro j e z;simp at z
 | cons x _ ih =>
  intro j e z
  cases j with
  | zero =>
   have z':=Option.some.inj z;subst z';exact ⟨_,rfl,x⟩
  | succ j=>exact ih j e (by simpa using z)
theorem j4q:∀ {vs:List Value} {ns:List Int},vs.length=ns.length->(∀ (i:Nat) (v:Value),vs[i]?=some v->∃ k u,ns[i]?=some k/\v=Value.int k u)->IntsAre vs ns
 | [],[],_,_=>.nil
 | [],_ :: _,h,_=>by simp at h
 | _ :: _,[],h,_=>by simp at h
 | v :: vs,n :: ns,h,k=>by
  obtain ⟨k0,u,e1,e2⟩:=k 0 v rfl;have:n=k0:=by simpa using e1
  subst this;subst e2
  exact .cons _ _ (j4q (by simpa using h) fun i v' e=>by
   obtain ⟨k1,u1,f1,f2⟩:=k (i + 1) v' (by simpa using e)
   exact ⟨k1,u1,by simpa using f1,f2⟩)
section
variable {prog:Program} {w:World} {A:Around} {E:Value->Shared->Prop} {s:Shared} {a:Addr} {ks:List Int}
theorem k9a {Q:List Value->Shared->Prop} (hh:A.handled=none) (S:SetI w a ks s.heap)
  (h:∀ h' tk vs ns,IntsAre vs ns->ns.Perm ks->(∀ c o,s.heap.get? c=some o->h'.get? c=some o)->s.heap.objs.size<=h'.objs.size->Q vs { s with heap:=h',toks:=tk}):wpAny (model prog w) A (collect (.ref a)) Q E s:=by
 obtain ⟨es,ep,t,e,K⟩:=id S;have alt:a < s.heap.objs.size:=Heap.lt_size e;unfold collect;refine wB (wpAny_runValue (codeAny_builtin F.entry_proto_collect ?_));rw [Around.under_plainId F.plain_proto_collect _];refine wB (m:=newList []) (wpAny_newObj_type (wP ⟨plainId_quiet F.plain_list_iadd _,codeAny_builtin F.entry_list_iadd ?_⟩));rw [Around.under_plainId F.plain_list_iadd _];have k1:∀ c o,s.heap.get? c=some o->(s.heap.push { cls:=.type "list",data:=.seq ([]:List Value).toArray}).get? c=some o:=fun c o q=>Heap.get?_push_of_some _ q;have oL:(s.heap.push { cls:=.type "list",data:=.seq ([]:List Value).toArray}).get? s.heap.objs.size=some { cls:=.type "list",data:=.seq ([]:List Value).toArray}:=Heap.get?_push_size _ rfl;have sz1:(s.heap.push { cls:=.type "list",data:=.seq ([]:List Value).toArray}).objs.size=s.heap.objs.size + 1:=Heap.size_push _ _;generalize s.heap.push { cls:=.type "list",data:=.seq ([]:List Value).toArray}=h1 at k1 oL sz1 ⊢;show wpAny _ A.in1 (Builtin.List.listExtendWith (.ref s.heap.objs.size) (.ref a) (.ref s.heap.objs.size)) _ _ { s with heap:=h1};unfold Builtin.List.listExtendWith;have hT:Shared.TypeIs { s with heap:=h1} (.ref a) "set":=⟨_,k1 a _ e,rfl⟩;refine wB (wpAny_typeOf hT ?_);have n1:Builtin.List.listSameRef (.ref s.heap.objs.size) (.ref a)=false:=by simp [Builtin.List.listSameRef,Nat.ne_of_gt alt]
 have n2:(Value.type "set" == Value.type "list")=false:=by decide
 have n3:(Value.type "set" == Value.type "tuple")=false:=by decide
 simp only [n1,n2,n3,Bool.or_false,Bool.false_eq_true,if_false];refine wB (w8o (s:={ s with heap:=h1}) (k1 a _ e) K fun h2 I2 k2 sz2=>?_);have hT2:Shared.TypeIs { s with heap:=h2} (.ref a) "set":=⟨_,k2 a _ (k1 a _ e),rfl⟩;refine wB (wpAny_holding ?_);unfold Builtin.List.listLengthHint;refine wB (wpAny_specialOf hT2 j99 ?_);generalize hid:("set.__len__":String)=id0;dsimp only;rw [show splitId id0=some ("set","__len__") from by subst hid;decide +kernel];subst hid;dsimp only;refine wB (wpAny_isInstance (b:=true) hT2 sub_set_self ?_);rw [if_neg (by simp)];rw [if_pos (by decide +kernel)];refine wB (wpAny_typeOf hT2 (wP ?_));rw [if_pos (by decide +kernel)];refine wB (wpAny_rule (wB ?_));have oL2:=k2 _ _ oL;have hh2:A.in1.handled=none:=by simp [hh]
 have ne:a≠h1.objs.size:=Nat.ne_of_lt (Nat.lt_trans alt (by rw [sz1];exact Nat.lt_succ_self _));have W:=(k49 (prog:=prog) (A:=A.in1) (ep:=ep) hh2 K ne).toS;show wpAny _ A.in1 (updateSeq s.heap.objs.size (·.push .none) >>= fun _=>updateSeq s.heap.objs.size (·.pop)) _ _ _;refine wB (wpAny_updateSeq oL2 rfl ?_);have oL3:=Heap.get?_update_self (Obj.mapSeq (·.push Value.none)) oL2 rfl;refine wpAny_updateSeq oL3 rfl ?_;have oL4:=Heap.get?_update_self (Obj.mapSeq (·.pop)) oL3 rfl
 have k4:∀ c o,c≠s.heap.objs.size->h2.get? c=some o->((h2.update s.heap.objs.size (Obj.mapSeq (·.push Value.none))).update s.heap.objs.size (Obj.mapSeq (·.pop))).get? c=some o :=
  fun c o hc q=>(Heap.get?_update_other _ _ (Ne.symm hc)).trans ((Heap.get?_update_other _ _ (Ne.symm hc)).trans q)
 have sz4:((h2.update s.heap.objs.size (Obj.mapSeq (·.push Value.none))).update s.heap.objs.size (Obj.mapSeq (·.pop))).objs.size=h2.objs.size:=by rw [Heap.size_update,Heap.size_update]
 have nfp:s.heap.objs.size∉[h1.objs.size,a]:=by simp only [List.mem_cons,List.not_mem_nil,or_false,not_or];exact ⟨by rw [sz1];exact Nat.ne_of_lt (Nat.lt_succ_self _),Nat.ne_of_gt alt⟩
 generalize (h2.update s.heap.objs.size (Obj.mapSeq (·.push Value.none))).update s.heap.objs.size (Obj.mapSeq (·.pop))=h4 at oL4 k4 sz4 ⊢;obtain ⟨sl,z,i1,i2⟩:=I2;have I4:SIt w h1.objs.size a es ep t 0 h4:=⟨sl,z,k4 _ _ (by rw [sz1];exact Nat.ne_of_gt (Nat.lt_succ_self _)) i1,k4 _ _ (Nat.ne_of_lt alt) i2⟩;refine wP ⟨plainId_quiet F.plain_extend_loop _,codeAny_extend_loopS W (j26 K.small) _ nfp _ es.size 0 _ _ _ rfl (Nat.zero_le _) I4 oL4 (ItemsOf.nil _) fun s5 acc c5 mv oL5 hacc=>?_⟩;show wpAny _ A (load s.heap.objs.size >>= _) _ _ s5;refine wB (wpAny_load oL5 (wP ?_));obtain ⟨h5,g5,d5,tk5,os5⟩:=s5;have eg:g5=s.gens:=mv.gens;have ed:d5=s.drawn:=mv.drawn;have eo:os5=s.os:=mv.os;subst eg ed eo
 -- what came
 obtain ⟨ns,pp,pe⟩:=j2q (j6k w a es ep).symm K.ent
 have k5:∀ c o,s.heap.get? c=some o->h5.get? c=some o:=fun c o q=>mv.heap c o (by
  simp only [List.mem_cons,List.not_mem_nil,or_false,not_or]
  exact ⟨Nat.ne_of_lt (Heap.lt_size q),Nat.ne_of_lt (Heap.lt_size (k1 c o q))⟩) (k4 c o (Nat.ne_of_lt (Heap.lt_size q)) (k2 c o (k1 c o q)))
 refine h h5 tk5 acc.toList ns (j4q ?_ fun i v hv=>?_) pp.symm k5 (Nat.le_of_lt (Heap.lt_size oL5))
 ·rw [Array.length_toList,hacc.1,<- k8z pe,Array.length_toList,<- Array.length_toList,<- Array.length_toList,(j6k w a es ep).length_eq]
 ·obtain ⟨x,hx,rfl⟩:=hacc.2 i v (by rw [<- Array.getElem?_toList];exact hv);obtain ⟨k,hk,_,u,hu⟩:=w58 pe i x (by rw [Array.getElem?_toList];exact hx);exact ⟨k,u,hk,hu⟩
theorem j6p {v:Value} {ks:List Int} {Q:Value->Shared->Prop}
  (hc:∀ (Q':List Value->Shared->Prop),(∀ h' tk vs ns,IntsAre vs ns->ns.Perm ks->(∀ c o,s.heap.get? c=some o->h'.get? c=some o)->s.heap.objs.size<=h'.objs.size->Q' vs { s with heap:=h',toks:=tk})->wpAny (model prog w) A.in1 (collect v) Q' E s)
  (h64:ks.length < 64) (h:∀ h' tk r vs ns,s.heap.objs.size<=r->IntsAre vs ns->ns.Perm ks->ns.Pairwise (·<=·)->(∃ n,h'.get? r=some { cls:=.type "list",data:=.seq vs.toArray n})->(∀ c o,s.heap.get? c=some o->h'.get? c=some o)->Q (.ref r) { s with heap:=h',toks:=tk}) :
  wpAny (model prog w) A (call (.builtin "sorted") [v]) Q E s:=by
 refine Calls.call_function_entry kind_sorted plain_sorted entry_sorted (args_sorted1 _) ?_;unfold Builtin.«sorted»;refine wB (m:=checkCount "sorted" 1 1 _) (wP ?_);refine wB (hc _ fun h1 tk vs ns hi hp k1 sz=>?_);have hlen:vs.length < 64:=by rw [IntsAre.length hi,hp.length_eq];exact h64
 refine wB (wpAny_newList ?_);have o1:(h1.push (seqObj "list" vs.toArray 0)).get? h1.objs.size=some (seqObj "list" vs.toArray 0):=Heap.get?_push_size _ rfl;refine wB (wpAny_holding (wpAny_call_entry slot_list_sort ⟨_,o1,rfl⟩ entry_list_sort (list_sort_tree o1 hi hlen fun out ns' a1 a2 a3=>⟨_,rfl,?_⟩) (args_list_sort _)));obtain ⟨ep,e2⟩:=sortedHeap_at (out:=out) o1;refine wP ⟨_,rfl,h _ tk h1.objs.size out.toList ns' sz a1 (a2.trans hp) a3 ⟨ep,by simpa using e2⟩ fun c o q=>?_⟩;have hlt:=Heap.lt_size (k1 c o q);rw [sortedHeap_old (Nat.ne_of_lt hlt) (by rw [size_push'];exact Nat.lt_succ_of_lt hlt)];exact Heap.get?_push_of_some _ (k1 c o q)
theorem j96 {Q:Value->Shared->Prop} (hh:A.handled=none) (S:SetI w a ks s.heap) (h64:ks.length < 64)
  (h:∀ h' tk r vs ns,s.heap.objs.size<=r->IntsAre vs ns->ns.Perm ks->ns.Pairwise (·<=·)->(∃ n,h'.get? r=some { cls:=.type "list",data:=.seq vs.toArray n})->(∀ c o,s.heap.get? c=some o->h'.get? c=some o)->Q (.ref r) { s with heap:=h',toks:=tk}) :
  wpAny (model prog w) A (call (.builtin "sorted") [.ref a]) Q E s :=
 j6p (fun _ k=>k9a (by simp [hh]) S k) h64 h
theorem j8n {l:Addr} {vs₀:List Value} {Q:Value->Shared->Prop} (hl:s.heap.IsList l vs₀.toArray) (hi₀:IntsAre vs₀ ks) (h64:ks.length < 64)
  (h:∀ h' tk r vs ns,s.heap.objs.size<=r->IntsAre vs ns->ns.Perm ks->ns.Pairwise (·<=·)->(∃ n,h'.get? r=some { cls:=.type "list",data:=.seq vs.toArray n})->(∀ c o,s.heap.get? c=some o->h'.get? c=some o)->Q (.ref r) { s with heap:=h',toks:=tk}) :
  wpAny (model prog w) A (call (.builtin "sorted") [.ref l]) Q E s :=
 j6p (fun _ k=>collect_list hl (k _ s.toks _ _ hi₀ (.refl _) (fun c o q=>(Heap.get?_update_other _ _ (Nat.ne_of_gt (Heap.lt_size q))).trans (Heap.get?_push_of_some _ q)) (by rw [Heap.size_update,size_push'];exact Nat.le_succ _)) (by
  have:=IntsAre.length hi₀;have e:(64:Nat)<=sizeLine:=by rw [sizeLine_eq];decide
  omega)) h64 h
end
end SX
namespace L2
open PySem PySem.Spec PyProof.Rows SX
theorem j44 {ns:List Int} {us:List Value} (h:Vals (ns.map V.int) us):IntsAre us ns:=k4w h
theorem k5n {us:List Value} {ns:List Int} (h:IntsAre us ns):Vals (ns.map V.int) us:=j6l h
def setO (w:World) (p:Addr) (ks:List Int):HO:=.ext (SetI w p ks)
section
variable {X:Cx}
theorem j22 {pins:List (Addr×Obj)} {Z:St} {H:Hp} {s:Shared} {p:Addr} {ks:List Int} (I:Inv X pins Z H s) (h:H p=some (setO X.w p ks)):SetI X.w p ks s.heap:=(I.hok p _ h).1
theorem j98 {H:Hp} {h:Heap} {p:Addr} {ks:List Int} {P:Program} {w:World} (x:SetI w p ks h):ObjOk P w H h p (setO w p ks) :=
 ⟨x,(let ⟨_,_,_,e,_⟩:=x;⟨_,e⟩),fun _ _ q k=>q.keep k⟩
theorem j6e (hc:X.calm=true):j3l X (.type "set") (fun xs H Q=>∃ (a:Addr) (ns:List Int),xs=[.ref a]/\SqL X.K H a (ns.map V.int)/\ns.length<=126/\∀ (p:Addr) (ks:List Int),H p=none->ks.Nodup->ks.length<=ns.length->(∀ k,k∈ks↔k∈ns)->Q (.ref p) (upd H p (setO X.w p ks))):=by intro pins s Z H xs us Q I r h;obtain ⟨a,ns,rfl,hq,hl,q⟩:=h;obtain ⟨u,rfl,rx⟩:=j56 r;cases rx;obtain ⟨its,rv,pl,hz⟩:=I.list hq;have hi:=j44 rv;have hlen:=rv.length;rw [List.length_map] at hlen;refine k43 (I.ok.hd hc) pl.isList (by simpa using hi) (by rw [List.size_toArray];omega) fun h' tk ks S m k=>?_;refine ⟨.ref s.heap.objs.size,_,I.laid (t':=tk) k (Nat.le_refl _) (j98 S),rfl,q _ ks (I.hok.fresh (Nat.le_refl _)) S.nodup (j28 _ _ S.nodup fun x hx=>(m x).mp hx) m⟩
theorem w46:OpR X (binaryOp .BitXor) (fun x y H Q=>∃ (a b:Addr) (ka kb:List Int),x=.ref a/\y=.ref b/\H a=some (setO X.w a ka)/\H b=some (setO X.w b kb)/\ka.length + kb.length<=126 /\
  ∀ (p:Addr) (ks:List Int),H p=none->ks.Nodup->(∀ k,k∈ks↔((k∈kb/\k∉ka)\/(k∉kb/\k∈ka)))->Q (.ref p) (upd H p (setO X.w p ks))):=by
 intro pins s Z H x y v u Q I rx ry h;obtain ⟨a,b,ka,kb,rfl,rfl,ha,hb,hl,q⟩:=h;cases rx;cases ry;refine w9r (j22 I ha) (j22 I hb) hl fun h' ks S m k=>?_;exact ⟨.ref s.heap.objs.size,_,I.laid (t':=s.toks) k (Nat.le_refl _) (j98 S),rfl,q _ ks (I.hok.fresh (Nat.le_refl _)) S.nodup m⟩
theorem j5f {pins:List (Addr×Obj)} {Z:St} {H:Hp} {s:Shared} {Q:VK} {ks:List Int} (I:Inv X pins Z H s) (h64:ks.length < 64) (q:∀ (p:Addr) (ns:List Int),H p=none->ns.Perm ks->ns.Pairwise (·<=·)->Q (.ref p) (upd H p (.lst (ns.map V.int)))) :
  ∀ (h':Heap) (tk:Nat) (r:Addr) (vs:List Value) (ns:List Int),s.heap.objs.size<=r->IntsAre vs ns->ns.Perm ks->ns.Pairwise (·<=·)->(∃ n,h'.get? r=some { cls:=.type "list",data:=.seq vs.toArray n})->(∀ c o,s.heap.get? c=some o->h'.get? c=some o)->EP X pins Z Q (.ref r) { s with heap:=h',toks:=tk}:=by
 intro h' tk r vs ns hr hi hp hs he hk;obtain ⟨n,e⟩:=he;have e64:(64:Nat)<=sizeLine:=by rw [sizeLine_eq];decide
 exact ⟨.ref r,_,I.laid (t':=tk) (o:=.lst (ns.map V.int)) hk hr ⟨by rw [List.length_map,hp.length_eq];omega,vs,n,k5n hi,e⟩,rfl,q r ns (I.hok.fresh hr) hp hs⟩
theorem j54 (hc:X.calm=true):j3l X (.builtin "sorted") (fun xs H Q=>∃ (a:Addr) (ks:List Int),xs=[.ref a]/\H a=some (setO X.w a ks)/\ks.length < 64/\∀ (p:Addr) (ns:List Int),H p=none->ns.Perm ks->ns.Pairwise (·<=·)->Q (.ref p) (upd H p (.lst (ns.map V.int)))):=by intro pins s Z H xs us Q I r h;obtain ⟨a,ks,rfl,ha,h64,q⟩:=h;obtain ⟨u,rfl,rx⟩:=j56 r;cases rx;exact j96 (I.ok.hd hc) (j22 I ha) h64 (j5f I h64 q)
theorem k04:j3l X (.builtin "sorted") (fun xs H Q=>∃ (a:Addr) (ks:List Int),xs=[.ref a]/\SqL X.K H a (ks.map V.int)/\ks.length < 64/\∀ (p:Addr) (ns:List Int),H p=none->ns.Perm ks->ns.Pairwise (·<=·)->Q (.ref p) (upd H p (.lst (ns.map V.int)))):=by intro pins s Z H xs us Q I r h;obtain ⟨a,ks,rfl,ha,h64,q⟩:=h;obtain ⟨u,rfl,rx⟩:=j56 r;cases rx;obtain ⟨its,rv,pl,hz⟩:=I.list ha;exact j8n pl.isList (j44 rv) h64 (j5f I h64 q)
def RdS (X:Cx) (H:Hp) (x:V) (d:PyData):Prop:=∀ (pins:List (Addr×Obj)) (Z:St) (s:Shared) (u:Value),Inv X pins Z H s->RelV x u->∃ as,Reads s.heap u d as
theorem RdS.int {H:Hp} (i:Int):RdS X H (.int i) (.int i):=fun _ _ _ _ _ r=>by obtain ⟨t,rfl⟩:=r;exact ⟨_,Reads.int i t⟩
theorem j6u {H:Hp} {pins:List (Addr×Obj)} {Z:St} {s:Shared} (I:Inv X pins Z H s):∀ {xs:List V} {us:List Value} {ds:List PyData},Vals xs us->Paired (RdS X H) xs ds->∃ as,ReadsAll s.heap us ds as
 | _,_,_,.nil,.nil=>⟨_,.nil⟩
 | _,_,_,.cons r t,.cons q p=>by obtain ⟨a1,h1⟩:=q pins Z s _ I r;obtain ⟨a2,h2⟩:=j6u I t p;exact ⟨_,.cons h1 h2⟩
theorem RdS.lst {H:Hp} {a:Addr} {xs:List V} {ds:List PyData} (h:SqL X.K H a xs) (p:Paired (RdS X H) xs ds):RdS X H (.ref a) (.list ds):=fun pins Z s u I r=>by
 cases r;obtain ⟨its,rv,pl,_⟩:=I.list h;obtain ⟨as,h2⟩:=j6u I rv p;obtain ⟨o,ho,hc,n,hd⟩:=pl.isList;exact ⟨_,Reads.list ho hc hd (by simpa using h2)⟩
def rEqD (X:Cx) (neg:Bool):R2:=fun x y H Q=>∃ d e,RdS X H x d/\RdS X H y e/\SeqAt.shaped d=true/\SeqAt.shaped e=true/\SeqAt.noMix d e=true/\Q (.bl (if neg then !PySem.Spec.same d e else PySem.Spec.same d e)) H
theorem w74 (hu:X.A.units + 64 < cLine):OpR X (compareOp .Eq) (rEqD X false):=by intro pins s Z H x y v u Q I rx ry h;obtain ⟨d,e,h1,h2,s1,s2,nm,q⟩:=h;obtain ⟨a1,r1⟩:=h1 pins Z s v I rx;obtain ⟨a2,r2⟩:=h2 pins Z s u I ry;exact eq_dataH_same r1 r2 s1 s2 hu nm ⟨.bl _,H,I,rfl,q⟩
theorem w7y (hu:X.A.units + 64 < cLine):OpR X (compareOp .NotEq) (rEqD X true):=by intro pins s Z H x y v u Q I rx ry h;obtain ⟨d,e,h1,h2,s1,s2,nm,q⟩:=h;obtain ⟨a1,r1⟩:=h1 pins Z s v I rx;obtain ⟨a2,r2⟩:=h2 pins Z s u I ry;exact ne_dataH_same r1 r2 s1 s2 hu nm ⟨.bl _,H,I,rfl,q⟩
theorem k2y:j3l X (.builtin "isinstance") (fun xs H Q=>∃ (x:V) (T:String) (t:Value) (b:Bool),xs=[x,.ty T]/\TyOf X.K H x t/\PySem.W.kitOne X.K t (.type T)=some b/\Q (.bl b) H):=by intro pins s Z H xs us Q I r h;obtain ⟨x,T,t,b,rfl,ty,e,q⟩:=h;obtain ⟨u,v,rfl,rx,ry⟩:=w61 r;cases ry;exact k8d I rx ty e fun tk=>⟨.bl b,H,I.tok tk,rfl,q⟩
def w98:V->V->Hp->VK->Prop:=fun o i H Q=>∃ (p:Addr) (xs:List V) (k:Int) (v:V),o=.ref p/\i=.int k/\H p=some (.lst xs)/\0<=k/\xs[k.toNat]?=some v/\Q v H
theorem w1k:PGet X w98:=by intro pins s Z H o i ov iv Q I ro ri h;obtain ⟨p,xs,k,v,rfl,rfl,hp,h0,hv,q⟩:=h;cases ro;obtain ⟨t,rfl⟩:=ri;obtain ⟨its,r,pl,hz⟩:=I.list (SqL.of (K:=X.K) hp);obtain ⟨u,eu,ru⟩:=r.get hv;have hn:=j74;have hlt:=(List.getElem?_eq_some_iff.mp hv).1;exact wpAny_getItem_list pl.isList h0 (by omega) (by simpa using eu) ⟨v,H,I,ru,q⟩
end
end L2
namespace L2
open PySem PySem.Spec PyProof.Rows
abbrev blk (X:Cx) (scope:Scope) (cl:List (Str×Addr)) (N':List Str) (s₀:Shared) (H₀:Hp) (C:Addr) (ex:List Addr) (pn:List (Addr×Obj)):Cx :=
 { X with N:=N',s₀:=s₀,H₀:=H₀,env:=compEnvC scope cl C X.env,outer:=X.stack,stack:=X.stack,ex:=ex,fn:=fun _=>false,pn:=pn,xe:=fun _ _=>False}
structure BScope (X:Cx) (scope:Scope) (cl:List (Str×Addr)) (T Fr:List Str) (idx:List Nat):Prop where
 kind:scope.kind=.function
 clos:closureFor scope X.env=pure cl
 nocell:∀ y∈scope.names,y.2≠.cell
 names:∀ y∈scope.names,y.2=.local->scope.names.lookup y.1=some .local
 sub:∀ x c,cl.lookup x=some c->X.env.cells.lookup x=some c
 frl:∀ y∈scope.names,y.2=.free->∃ c,cl.lookup y.1=some c
 fr:∀ (j:Nat) (x:Str),Fr[j]?=some x->∃ i c,idx[j]?=some i/\X.N[i]?=some x/\(X.env.kindOf x=some .cell\/X.env.kindOf x=some .free)/\cl.lookup x=some c/\((relabel scope X.env).names.lookup x=some .cell\/(relabel scope X.env).names.lookup x=some .free)
 len:idx.length=Fr.length
def j2y (T:List Str) (idx:List Nat) (Z:St):St:=T.map (fun _=>none)++idx.map fun i=>Z[i]?.join
theorem j5n {β:Type}:∀ {l:List (Str×β)} {x:Str} {v:β},l.lookup x=some v->(x,v)∈l
 | [],_,_,h=>by cases h
 | (y,z) :: r,x,v,h=>by
  rw [List.lookup_cons] at h
  cases q:x == y with
  | true =>
   rw [q] at h;cases h;rw [eq_of_beq q];exact List.mem_cons_self
  | false =>
   rw [q] at h;exact List.mem_cons_of_mem _ (j5n h)
theorem BScope.has {X:Cx} {scope:Scope} {cl:List (Str×Addr)} {T Fr:List Str} {idx:List Nat} (B:BScope X scope cl T Fr idx) {x:Str} (h:(relabel scope X.env).names.lookup x=some .cell\/(relabel scope X.env).names.lookup x=some .free):∃ c,cl.lookup x=some c:=by
 have hm:∃ k,(x,k)∈(relabel scope X.env).names/\(k=.cell\/k=.free):=by
  rcases h with h | h
  ·exact ⟨_,j5n h,.inl rfl⟩
  ·exact ⟨_,j5n h,.inr rfl⟩
 obtain ⟨k,hm,hk⟩:=hm;unfold relabel at hm;obtain ⟨⟨n,k0⟩,hy,e⟩:=List.mem_map.mp hm;dsimp only at e
 have:n=x/\k0=.free:=by
  by_cases hc:(k0 == NameKind.free&&X.env.scope.kind == ScopeKind.function&&X.env.kindOf n == some NameKind.cell)=true
  ·rw [if_pos hc] at e;have e1:n=x:=congrArg Prod.fst e;simp only [Bool.and_eq_true,beq_iff_eq] at hc;exact ⟨e1,hc.1.1⟩
  ·rw [if_neg hc] at e;have e1:n=x:=congrArg Prod.fst e;have e2:k0=k:=congrArg Prod.snd e;rcases hk with q | q
   ·exact absurd (e2.trans q) (B.nocell _ hy)
   ·exact ⟨e1,e2.trans q⟩
 obtain ⟨rfl,rfl⟩:=this;exact B.frl _ hy rfl
theorem HOk.track {P:Program} {w:World} {H:Hp} {h:Heap} {a:Addr} {o:HO} (x:HOk P w H h) (hn:H a=none) (new:ObjOk P w (upd H a o) h a o):HOk P w (upd H a o) h:=fun b u e=>by
 by_cases hb:b=a
 ·subst hb;rw [j0h] at e;cases e;exact new
 ·rw [j0g hb] at e;exact (x b u e).stay (fun _ _ _ q=>q) (fun c q=>by rw [j0g (j0m q hn)];exact q) fun c xs q=>by rw [j0g (j0m q hn)];exact q
section
variable {X:Cx} {elt iter tg:Expr} {scope:Scope} {cl:List (Str×Addr)} {T Fr:List Str} {idx:List Nat} {wi:TI} {g:TG} {tt:TT} {te:TE} {pos:Pos} {ifs:List Expr}
def PTs (X:Cx) (ifs:List Expr) (tt:TT):Prop:=∀ (pins:List (Addr×Obj)) (s:Shared) (Z:St) (H:Hp) (Q:Bool->Hp->Prop),Inv X pins Z H s->tt Z H Q ->
 wpAny (model X.prog X.w) X.A (forIn ifs true fun c r=>if r=true then do let ok <- isTrue c X.env (eval c X.env);pure (ForInStep.yield ok) else pure (ForInStep.yield r)) (TP X pins Z Q) X.xe s
theorem w4n:PTs X [] (fun _ H Q=>Q true H):=fun _ _ _ H _ I h=>wpAny_tests_nil ⟨H,I,h⟩
theorem w4m {c:Expr} {tc:TT} (h:PT X c tc):PTs X [c] tc:=fun pins s Z H Q I q=>wpAny_tests_one (h pins s Z H Q I q)
theorem w1f {prog:Program} {w:World} {A:Around} {R:Result->Shared->Prop} {s:Shared} {elt target iter:Expr} {ifs:List Expr} {scope:Scope} {pos:Pos} {it acc:Value} {env:Env} (Iv:Nat->Shared->Prop)
  (turn:∀ n s,Iv n s->wpAny (model prog w) A (pyNext it) (fun r s₁=>match r with
   | none=>R (.ok .next) s₁
   | some v=>wpAny (model prog w) A (letOwnedTupleGo target it v) (fun _ s₂=>wpAny (model prog w) A (assign target env v) (fun _ s₃ =>
     wpAny (model prog w) A (forIn ifs true fun c r=>if r=true then do let ok <- isTrue c env (eval c env);pure (ForInStep.yield ok) else pure (ForInStep.yield r)) (fun ok s₄ =>
      if ok=true then wpAny (model prog w) A (eval elt env) (fun x s₅=>wpAny (model prog w) A (call (.builtin "list.append") [acc,x]) (fun _ s₆=>∃ m,m < n/\Iv m s₆) (fun _ _=>False) s₅) (fun _ _=>False) s₄
      else ∃ m,m < n/\Iv m s₄) (fun _ _=>False) s₃) (fun _ _=>False) s₂) (fun _ _=>False) s₁) (fun _ _=>False) s)
  (n:Nat) (h:Iv n s):codeAny (model prog w) A (.compLoop (.ListComp elt [⟨target,iter,ifs,0⟩] scope pos) 0 it acc env) R s:=by
 refine codeAny_loop rfl Iv (fun n s hI=>?_) n h;show wpAny _ A ((compTurn (.ListComp elt [⟨target,iter,ifs,0⟩] scope pos) 0 it acc env).onRaise (fun x=>do noteFrame x env;theTreesLotGoes x)) _ _ s;refine wpAny_noted ?_;rw [compTurn_list];have no:∀ {Y:Type} {t:Sem Y} {Q:Y->Shared->Prop} {E:Value->Shared->Prop} {s:Shared},wpAny (model prog w) A t Q (fun _ _=>False) s->wpAny (model prog w) A t Q E s:=fun h=>wpAny_mono h (fun _ _ q=>q) fun _ _ q=>q.elim;refine wB (wpAny_standAt (wB (no (thn (turn n s hI) fun r s₁ h₁=>?_))))
 cases r with
 | none=>exact no (wP h₁)
 | some v =>
  refine wB (no (thn h₁ fun _ s₂ h₂=>wB (no (thn h₂ fun _ s₃ h₃=>wB (no (thn h₃ fun ok s₄ h₄=>?_))))))
  cases ok with
  | false=>exact no (wP ⟨rfl,h₄⟩)
  | true=>exact wB (wB (no (thn h₄ fun x s₅ h₅=>wB (no (thn h₅ fun _ s₆ h₆=>wP (wP ⟨rfl,h₆⟩))))))
end
end L2
namespace L2
open PySem PySem.Spec PyProof.Rows
structure GenTab (X:Cx) (c P:Addr):Prop where
 code:X.env.code=.ref c
 hd:PySem.W.CodeHd X.base c P
 blt:∃ bm ob,X.mg "__builtins__"=some (.ref bm)/\bm≠builtinsNs/\X.base.get? bm=some ob/\ob.cls=.type "module"/\ob.dict=some builtinsNs/\ob.data=.plain
def j9z (H:Hp) (P:Addr):Prop:=∃ ps,H P=some (.tbl ps)/\TriplesOk ps.toList
theorem j5x {a b:Int} {c:Value}:∀ (l:List Value),TriplesOk l->TriplesOk (l++[.int a 0,.int b 0,c])
 | [],_=>trivial
 | .int _ _ :: .int _ _ :: _ :: r,h=>j5x r h
def j4p (ns ms:List Int):Bool:=(ns.zip ms).all fun p=>decide (p.1 < p.2)
theorem w6l (ns ms:List Int):(List.range (min ns.length ms.length)).all (fun j=>decide (ns.getD j 0 < ms.getD j 0))=j4p ns ms:=by
 unfold j4p;rw [Bool.eq_iff_iff,List.all_eq_true,List.all_eq_true];constructor
 ·intro h p hp;obtain ⟨j,hj⟩:=List.getElem?_of_mem hp;obtain ⟨h1,h2⟩:=List.getElem?_zip_eq_some.mp hj;have l1:=(List.getElem?_eq_some_iff.mp h1).1;have l2:=(List.getElem?_eq_some_iff.mp h2).1;have:=h j (List.mem_range.mpr (by omega));rw [List.getD_eq_getElem?_getD,List.getD_eq_getElem?_getD,h1,h2] at this;exact this
 ·intro h j hj;have hj:=List.mem_range.mp hj;have e1:ns[j]?=some (ns.getD j 0):=by rw [List.getD_eq_getElem?_getD,List.getElem?_eq_getElem (by omega)];rfl
  have e2:ms[j]?=some (ms.getD j 0):=by rw [List.getD_eq_getElem?_getD,List.getElem?_eq_getElem (by omega)];rfl
  have hz:(ns.zip ms)[j]?=some (ns.getD j 0,ms.getD j 0):=List.getElem?_zip_eq_some.mpr ⟨e1,e2⟩;exact h _ (List.mem_of_getElem? hz)
def k5t (S:Hp->Addr->List V->Prop) (P:Addr) (ta:TA):TE:=fun Z H Q=>ta Z H fun vs H1=>∃ (a b:Addr) (ns ms:List Int),vs=[.ref a,.ref b]/\S H1 a (ns.map V.int)/\S H1 b (ms.map V.int)/\j9z H1 P /\
 ∀ H',(∀ b o,b≠P->H1 b=some o->H' b=some o)->(∀ b,b≠P->H1 b=none->H' b=none)->j9z H' P->Q (.bl (j4p ns ms)) H'
abbrev w9x (K:PySem.W.Frag) (P:Addr) (ta:TA):TE:=k5t (SqL K) P ta
abbrev w7a (K:PySem.W.Frag) (P:Addr) (ta:TA):TE:=k5t (SqT K) P ta
structure ZipOk (X:Cx) (S:Hp->Addr->List V->Prop) (P:Addr):Prop where
 go:∀ {pins:List (Addr×Obj)} {Z:St} {H1:Hp} {s1:Shared} {a b:Addr} {us vs:List V} {ps:Array Value},Inv X pins Z H1 s1->X.A.handled=none->S H1 a us->S H1 b vs->H1 P=some (.tbl ps) ->
  ∃ ia ib:List Value,Vals us ia/\Vals vs ib/\a < s1.heap.objs.size/\b < s1.heap.objs.size/\a≠P/\b≠P/\∀ (Q:Value->Shared->Prop) (E:Value->Shared->Prop),
   (∀ h2 St Mid,(∀ A':Around,A'.handled=none->WalksU X.prog X.w A' (s1.heap.objs.size + 4) [s1.heap.objs.size + 4,s1.heap.objs.size + 2,s1.heap.objs.size + 3,s1.heap.objs.size,s1.heap.objs.size + 1,a,b] [s1.heap.objs.size + 4,s1.heap.objs.size + 3,s1.heap.objs.size,s1.heap.objs.size + 1] (min ia.toArray.size ib.toArray.size) (fun i vals=>∃ x y,ia.toArray[i]?=some x/\ib.toArray[i]?=some y/\vals=#[x,y]) St Mid) ->
    St 0 h2->h2.objs.size=s1.heap.objs.size + 5->(∀ c o,s1.heap.get? c=some o->h2.get? c=some o)->Q (.ref (s1.heap.objs.size + 4)) { s1 with heap:=h2})->wpAny (model X.prog X.w) X.A (call (.type "zip") [.ref a,.ref b]) Q E s1
section
variable {X:Cx}
theorem Inv.tabled {pins:List (Addr×Obj)} {Z:St} {H:Hp} {s s':Shared} {P:Addr} {ps more:Array Value} (I:Inv X pins Z H s) (hP:H P=some (.tbl ps)) (ho:s'.os=s.os) (hg:AllBare s'.gens)
  (k:∀ b o,b≠P->s.heap.get? b=some o->s'.heap.get? b=some o) (e:s'.heap.get? P=some { cls:=.none,data:=.fields (ps++more)}):Inv X pins Z (upd H P (.tbl (ps++more))) s':=by
 have nP:∀ b,H b=none->b≠P:=fun b n z=>by rw [z,hP] at n;cases n
 have nO:∀ b u,H b=some u->(∀ q,u≠.tbl q)->b≠P:=fun b u n f z=>by rw [z,hP] at n;cases n;exact f _ rfl
 refine I.call' (ch:=[]) ho ⟨fun b o q n _ _=>k b o (nP b n) q,fun b o q n _ _=>⟨o.slots,k b o (nP b n) q⟩,fun b o q n _=>by rw [j0g (nP b n)];exact n,fun b o q _=>?_,fun b xs q=>by rw [j0g (nO b _ q (fun _ z=>nomatch z))];exact q,fun b o u q=>by rw [j0g (nO b _ q (fun _ z=>nomatch z))];exact q,fun b qs q=>?_⟩ (fun b u q=>?_) hg fun b hb=>by cases hb
 ·by_cases hb:b=P
  ·rw [hb];exact ⟨_,e⟩
  ·exact ⟨o,k b o hb q⟩
 ·by_cases hb:b=P
  ·subst hb;rw [hP] at q;cases q;exact ⟨more,j0h⟩
  ·exact ⟨#[],by rw [j0g hb,q];simp⟩
 ·by_cases hb:b=P
  ·subst hb;rw [j0h] at q;cases q;exact e
  ·rw [j0g hb] at q;refine (I.hok b u q).stay (fun c v hc z=>k c v ?_ z) (fun c z=>by rw [j0g (nO c _ z (fun _ y=>nomatch y))];exact z) fun c xs z=>by rw [j0g (nO c _ z (fun _ y=>nomatch y))];exact z
   rcases hc with y | y
   ·rw [y];exact hb
   ·exact nO c _ y (fun _ x=>nomatch x)
theorem w1g {prog:Program} {w:World} {A:Around} {E:Value->Shared->Prop} {s:Shared} {env:Env} {xa xb:Str} {q1 q2 q3:Pos} {m:Str->Option Value} {i j:Int} {t u:Tok} {Q:Value->Shared->Prop} (hk:env.scope.kind=.function) (ka:env.kindOf xa=some .local) (kb:env.kindOf xb=some .local) (hn:s.heap.Ns env.locals m)
  (ha:m xa=some (.int i t)) (hb:m xb=some (.int j u)) (da:(xa == ("__debug__":Str))=false) (db:(xb == ("__debug__":Str))=false) (h:Q (.bool (decide (i < j))) s):wpAny (model prog w) A (eval (.Compare (.Name xa q1) [.Lt] [.Name xb q2] q3) env) Q E s:=by
 refine wpAny_Compare1 (wpAny_Name (wpAny_loadName_local hk ka hn ha (wpAny_Name (wpAny_loadName_local hk kb hn hb (lt_int h)) db)) da) (j0u _)
variable {e1 e2:Expr} {ta:TA} {xa xb:Str} {p1 p2 p3 p4 q1 q2 q3 pa pb pt gpos:Pos} {kt:Nat} {gsc:Scope} {c P:Addr}
theorem k3o {S:Hp->Addr->List V->Prop} (Zy:ZipOk X S P) (hcm:X.calm=true) (G:GenTab X c P) (hroom:X.A.depth < recursionLimit) (hga:Gl X "all") (hma:X.mg "all"=none) (hgz:Gl X "zip") (hmz:X.mg "zip"=none) (hargs:PA X [e1,e2] ta)
  (hk:gsc.kind=.function) (hco:gsc.isCoroutine=false) (hclos:closureFor gsc X.env=pure []) (hcell:∀ y∈gsc.names,y.2≠.cell) (h0:gsc.names.lookup (".0":Str)=some NameKind.local) (hxa:gsc.names.lookup xa=some .local) (hxb:gsc.names.lookup xb=some .local) (hab:xa≠xb)
  (da:(xa == ("__debug__":Str))=false) (db:(xb == ("__debug__":Str))=false)
  (hs1:starEach [e1,e2] X.env=(false,eval e1 X.env) :: starEach [e2] X.env:=by rfl) (hs2:(backTo p3 (starEach [e2] X.env)).any (·.1)=false:=by rfl) :
  PE X (.Call (.Name "all" p1) [.GeneratorExp (.Compare (.Name xa q1) [.Lt] [.Name xb q2] q3) [⟨.Tuple [.Name xa pa,.Name xb pb] kt pt,.Call (.Name "zip" p2) [e1,e2] [] p3,[],0⟩] gsc gpos] [] p4) (k5t S P ta):=by
 intro pins s Z H Q I h;have hh:X.A.handled=none:=I.ok.hd hcm;refine wpAny_Call_Name_kw (j42 I hga hma boot_all (PyProof.Rows.callWith_builtin1 ?_ rfl rfl));show wpAny _ _ (spliced [(false,eval (.GeneratorExp (.Compare (.Name xa q1) [.Lt] [.Name xb q2] q3) [⟨.Tuple [.Name xa pa,.Name xb pb] kt pt,.Call (.Name "zip" p2) [e1,e2] [] p3,[],0⟩] gsc gpos) X.env)]) _ _ s;refine Calls.spliced_cons (wpAny_GeneratorExp_walksQTD hh hco hclos hcell h0 hxa hxb hab hk hroom (wpAny_Call_Name_kw (j42 I hgz hmz boot_zip (PyProof.Rows.callWith_type1 (thn (hargs p3 pins s Z H _ I h) fun us s1 ⟨vs,H1,I1,r1,q1⟩=>?_) hs1 hs2))) (fun _=>rfl));obtain ⟨a,b,ns,ms,rfl,ha,hb,⟨ps,hP,tr⟩,q⟩:=q1;obtain ⟨ua,ub,rfl,ra,rb⟩:=w61 r1;cases ra;cases rb;obtain ⟨ia,ib,va,vb,alt,blt,aP,bP,zip⟩:=Zy.go I1 hh ha hb hP;have Pobj:s1.heap.get? P=some (PySem.W.tabObj ps):=I1.hok P _ hP;have Plt:P < s1.heap.objs.size:=Heap.lt_size Pobj;refine zip _ _ fun h2 St Mid W hst sz2 k2=>?_;refine (W X.A hh).self 0 { s1 with heap:=h2} _ _ hst ?_;have I2:Inv X pins Z H1 { s1 with heap:=h2}:=I1.kept (t':=s1.toks) k2;refine ⟨I2.nolimit,?_⟩;have hd2:PySem.W.CodeHd h2 c P:=G.hd.keeps fun b o e=>I2.bk b o e;have isC:=hd2.code (k2 P _ Pobj) tr;have isT:=hd2.tab (k2 P _ Pobj);obtain ⟨bm,ob,b1,b2,b3,b4,b5,b6⟩:=G.blt
 -- behind the code: the table is ps++more,all else is kept
 have rest:∀ (code:Value) (h3:Heap) (tk:Nat) (more:Array Value),(∀ b o,b≠P->h2.get? b=some o->h3.get? b=some o)->h2.objs.size<=h3.objs.size->h3.get? P=some { cls:=.none,data:=.fields (ps++more)}->TriplesOk (ps++more).toList ->
   wpAny (model X.prog X.w) X.A (builtinsFor X.env.globals X.env.builtins) (fun bi s₄=>∃ I fp wr n₀ Pt St₀ Mid pz F,Value.ref (s1.heap.objs.size + 4)=.ref I/\(∀ A':Around,A'.handled=none->WalksU X.prog X.w A' I fp wr n₀ Pt St₀ Mid)/\(∀ i vals,Pt i vals->∃ va vb,vals=#[va,vb])/\St₀ 0 s₄.heap/\(∀ b∈fp,b < s₄.heap.objs.size)/\s₄.heap.NoLimit/\cStatics∉wr /\
     (∀ href:Heap,(∀ b o,s₄.heap.get? b=some o->href.get? b=some o) ->
      QuietGenTD X.prog X.w (genEnv gsc [] s₄.heap.objs.size code bi X.env) xa xb [] (.Compare (.Name xa q1) [.Lt] [.Name xb q2] q3) (List.range s₄.heap.objs.size) wr Pt pz F href (X.A.depth + 1) (X.A.units + 8)) /\
     (∀ a h₅ tk gs,gs.bare=true->s₄.heap.objs.size < a->h₅.objs.size=a + 1->(∀ b o,s₄.heap.get? b=some o->h₅.get? b=some o) ->
      WalksS X.prog X.w X.A.in4 a (a :: s₄.heap.objs.size :: List.range s₄.heap.objs.size) (s₄.heap.objs.size :: wr) (GenOnlyQ s₄.gens.size) (passing pz n₀ 0).length
       (fun j y=>∃ i,(passing pz n₀ 0)[j]?=some i/\F i y) (GenAt X.prog X.w X.A.in4 a s₄.gens.size s₄.heap.objs.size (List.range s₄.heap.objs.size) wr pz n₀ F) ->
      GenAt X.prog X.w X.A.in4 a s₄.gens.size s₄.heap.objs.size (List.range s₄.heap.objs.size) wr pz n₀ F 0 { s₄ with gens:=s₄.gens.push gs,toks:=tk,heap:=h₅} ->
      wpAny (model X.prog X.w) X.A (spliced []) (fun us s₆=>wpAny (model X.prog X.w) X.A (call (.builtin "all") (.ref a :: us)) (EP X pins Z Q) X.xe s₆) X.xe { s₄ with gens:=s₄.gens.push gs,toks:=tk,heap:=h₅})) X.xe { s1 with heap:=h3,toks:=tk}:=by
  intro code h3 tk more k3 sz3 e3 tr3;have I3:Inv X pins Z (upd H1 P (.tbl (ps++more))) { s1 with heap:=h3,toks:=tk}:=Inv.tabled (s:={ s1 with heap:=h2}) (s':={ s1 with heap:=h3,toks:=tk}) I2 hP rfl I2.bare k3 e3;have bk3:=I3.bk;refine wpAny_builtinsFor (by rw [I3.ok.glob];exact I3.mod.glob.keeps bk3) b1 b2 (bk3 _ _ b3) b4 b5 b6 ?_;have nz:∀ k,s1.heap.objs.size + k≠P:=fun k=>Nat.ne_of_gt (Nat.lt_of_lt_of_le Plt (Nat.le_add_right _ _));have cst:cStatics < s1.heap.objs.size:=by obtain ⟨mc,hn,_⟩:=I1.nolimit;exact hn.lt
  have lenA:=va.length;have lenB:=vb.length;rw [List.length_map] at lenA lenB;have atA:∀ (i:Nat) (x:Value),ia.toArray[i]?=some x->∃ t,x=.int (ns.getD i 0) t:=fun i x hx=>IntsAre.int_at (j44 va) i x (by simpa using hx);have atB:∀ (i:Nat) (x:Value),ib.toArray[i]?=some x->∃ t,x=.int (ms.getD i 0) t:=fun i x hx=>IntsAre.int_at (j44 vb) i x (by simpa using hx);have lt3:∀ k,k < 5->s1.heap.objs.size + k < h3.objs.size:=fun k hk=>Nat.lt_of_lt_of_le (Nat.add_lt_add_left hk _) (Nat.le_trans (Nat.le_of_eq sz2.symm) sz3);refine ⟨_,_,_,_,_,_,_,(fun _=>true),(fun i y=>y=.bool (decide (ns.getD i 0 < ms.getD i 0))),rfl,W,fun i vals ⟨x,y,_,_,e⟩=>⟨x,y,e⟩,(W X.A hh).frame _ _ _ hst fun b hb o e=>k3 b o ?_ e,fun b hb=>?_,I3.nolimit,?_,fun href hk4=>?_,fun g h5 tk5 gs gb g1 g2 k5 WS GA=>?_⟩
  ·simp only [List.mem_cons,List.not_mem_nil,or_false] at hb;rcases hb with z | z | z | z | z | z | z<;>rw [z]
   ·exact nz 4
   ·exact nz 2
   ·exact nz 3
   ·exact nz 0
   ·exact nz 1
   ·exact aP
   ·exact bP
  ·simp only [List.mem_cons,List.not_mem_nil,or_false] at hb;rcases hb with z | z | z | z | z | z | z<;>rw [z]
   ·exact lt3 4 (by decide)
   ·exact lt3 2 (by decide)
   ·exact lt3 3 (by decide)
   ·exact lt3 0 (by decide)
   ·exact lt3 1 (by decide)
   ·exact Nat.lt_trans alt (lt3 0 (by decide))
   ·exact Nat.lt_trans blt (lt3 0 (by decide))
  ·intro hb;simp only [List.mem_cons,List.not_mem_nil,or_false] at hb;have big:∀ k,cStatics≠s1.heap.objs.size + k:=fun k=>Nat.ne_of_lt (Nat.lt_of_lt_of_le cst (Nat.le_add_right _ _));rcases hb with z | z | z | z
   ·exact big 4 z
   ·exact big 3 z
   ·exact big 0 z
   ·exact big 1 z
  ·refine ⟨fun A' E' i va' vb' s2 m2 _ _ _ _ _ _ _ _=>wpAny_tests_nil ⟨rfl,s2.heap,s2.toks,rfl,fun _ _ e=>e⟩,fun A' E' i va' vb' s2 m2 hA _ _ hPt _ hn hma hmb _=>?_⟩;obtain ⟨x,y,hx,hy,e⟩:=hPt;obtain ⟨ex,ey⟩:va'=x/\vb'=y:=by simpa using congrArg Array.toList e
   subst ex ey;obtain ⟨t1,rfl⟩:=atA i _ hx;obtain ⟨t2,rfl⟩:=atB i _ hy;exact w1g hk hxa hxb hn hma hmb da db ⟨rfl,s2.heap,s2.toks,rfl,fun _ _ e=>e⟩
  ·have hpass:passing (fun _=>true) (min ia.toArray.size ib.toArray.size) 0=List.range (min ia.toArray.size ib.toArray.size):=by unfold passing;simp
   rw [hpass] at WS;have W1:=WS.in4_1;refine Calls.spliced_nil (call_all_walkS (W1.self 0 _ _ _ GA ⟨g,_,_,_,_,_,_,(fun j=>decide (ns.getD j 0 < ms.getD j 0)),rfl,W1,GA,fun j v s7 Q' E' hv hq=>?_,fun s7 mv=>?_⟩))
   ·obtain ⟨i,hi,rfl⟩:=hv
    have:i=j:=by obtain ⟨hl,he⟩:=List.getElem?_eq_some_iff.mp hi;rw [List.getElem_range] at he;exact he.symm
    subst this;exact wpAny_truthy_bool hq
   ·have k7:∀ b o,b < h3.objs.size->(∀ k,b≠s1.heap.objs.size + k)->h3.get? b=some o->s7.heap.get? b=some o:=fun b o hb hn e=>mv.heap b o (by
     simp only [List.mem_cons,List.not_mem_nil,or_false,not_or]
     exact ⟨Nat.ne_of_lt hb,hn 4,hn 3,hn 0,hn 1⟩) (k5 b o e)
    have small:∀ b,b < s1.heap.objs.size->∀ k,b≠s1.heap.objs.size + k:=fun b hb k=>Nat.ne_of_lt (Nat.lt_of_lt_of_le hb (Nat.le_add_right _ _));have e7:s7.heap.get? P=some { cls:=.none,data:=.fields (ps++more)}:=k7 P _ (Heap.lt_size e3) (small P Plt) e3;have I7:Inv X pins Z (upd H1 P (.tbl (ps++more))) s7:=Inv.tabled I1 hP mv.os (AllBare.movedS (s:={ s1 with heap:=h5,gens:=s1.gens.push gs,toks:=tk5}) (I1.bare.push gb) mv) (fun b o hb e=>k7 b o (Heap.lt_size (k3 b o hb (k2 b o e))) (small b (Heap.lt_size e)) (k3 b o hb (k2 b o e))) e7;refine ⟨.bl _,_,I7,rfl,?_⟩
    have hall:(List.range (List.range (min ia.toArray.size ib.toArray.size)).length).all (fun j=>decide (ns.getD j 0 < ms.getD j 0))=j4p ns ms:=by rw [List.length_range,List.size_toArray,List.size_toArray,<- lenA,<- lenB];exact w6l ns ms
    rw [hall];exact q _ (fun b o hb e=>by rw [j0g hb];exact e) (fun b hb e=>by rw [j0g hb];exact e) ⟨_,j0h,tr3⟩
 cases hcd:codeAmong gpos ps.toList with
 | none =>
  refine wpAny_genexprCodeX G.code isC isT hcd fun c' h3 tk hx hge hlt _ _ ht3 _=>?_;refine rest (.ref c') h3 tk #[rawInt gpos.line,rawInt gpos.col,.ref c'] (fun b o hb e=>hx b o hb e) (Nat.le_trans hge (Nat.le_of_lt hlt)) ht3.2 ?_;rw [Array.toList_append];exact j5x _ tr
 | some cv =>
  refine wpAny_genexprCode_hit G.code isC hcd ?_;have:=rest cv h2 s1.toks #[] (fun b o _ e=>e) (Nat.le_refl _) (by simpa using k2 P _ Pobj) (by simpa using tr);exact this
end
theorem zipL {X:Cx} {P:Addr}:ZipOk X (SqL X.K) P:=⟨fun {pins Z H1 s1 a b us vs ps} I1 hh ha hb hP=>by
 obtain ⟨ia,va,pla,za⟩:=I1.list ha;obtain ⟨ib,vb,plb,zb⟩:=I1.list hb;have Pobj:s1.heap.get? P=some (PySem.W.tabObj ps):=I1.hok P _ hP
 have notP:∀ (l:Addr) (its:Array Value),s1.heap.IsList l its->l≠P:=fun l its ⟨o,e,c,_⟩ z=>by rw [z,Pobj] at e;cases e;cases c
 have lt:∀ (l:Addr) (its:Array Value),s1.heap.IsList l its->l < s1.heap.objs.size:=fun l its ⟨o,e,_⟩=>Heap.lt_size e;refine ⟨ia,ib,va,vb,lt _ _ pla.isList,lt _ _ plb.isList,notP _ _ pla.isList,notP _ _ plb.isList,fun Q E go=>call_zip_2 pla.isList plb.isList fun h2 hz hTI hTO hi1 hi2 sz2 k2=>?_⟩
 exact go h2 _ _ (fun A' hA=>(WalksT.zip2 (prog:=X.prog) (w:=X.w) hA _ _ _ _ _ _ _ (zipApart_new (lt _ _ pla.isList) (lt _ _ plb.isList)) ia.toArray ib.toArray).toU) ⟨hz,hTI,⟨_,_,hTO⟩,hi1,hi2,pla.isList.at fun o e=>k2 _ o e,plb.isList.at fun o e=>k2 _ o e⟩ sz2 k2⟩
end L2
namespace L2
open PySem PySem.Spec PyProof.Rows
theorem k76 {P:Program} {w:World} {K:PySem.W.Frag} {mg mb:Str->Option Value} {CX:CXT} {k:Nat} {fa a:Addr} {fd:FuncData} {x:Str} {sp:Sp} {s₁:Shared} {vs:List Value} {ns:List Int} {c tab:Addr}
  (KX:K.In s₁.heap) (hns:s₁.heap.Ns mainGlobals mg) (hb:s₁.heap.Ns builtinsNs mb) (hbb:∀ x:Str,x≠"__name__"->mb x=bootBuiltins x) (hlim:s₁.heap.NoLimit) (hg:s₁.gens=#[])
  (ha:s₁.heap.get? a=some { cls:=.type "list",data:=.seq vs.toArray}) (hi:IntsAre vs ns) (hl:ns.length<=sizeLine) (hr:Room k callerA)
  (hT:s₁.heap.TableAt c tab #[]) (hKt:K.lookup tab=none)
  (F:∀ base:Heap,K.In base->base.Ns mainGlobals mg->(∀ b o,s₁.heap.get? b=some o->o.cls≠.type "list"->o.cls≠.none->base.get? b=some o)->FnOk P w K mg base CX k fa fd [x] sp) (hbind:∀ (s:Shared) (u:Value),BindsTo s fd ⟨[u],[]⟩ [(x,u)])
  (hsp:∀ H:Hp,SqL K H a (ns.map V.int)->H tab=some (.tbl #[])->sp [.ref a] H (fun v _=>v=.bl true) fun _ _ _=>False)
  (hCX:∀ H e s',CX [] H s₁ (fun _ _ _=>False) e s'->False) :
  codeAny (model P w) callerA (.call (.ref fa) ⟨[.ref a],[]⟩) (fun r s'=>r=.ok (.ret (.bool true))/\OldK s₁.heap s'.heap/\s'.os=s₁.os/\AllBare s'.gens) s₁:=by
 have rv:=j6l hi;have lenV:=hi.length;have hto:s₁.heap.get? tab=some { cls:=.none,data:=.fields #[]}:=hT.2;have nat:a≠tab:=fun z=>by rw [z,hto] at ha;cases ha
 -- from an abstract heap in which nothing but the script and the table may be tracked
 have core:∀ H:Hp,(∀ b,H b=none\/(b=a/\∃ o xs,H b=some (.frz o (.lst xs)))\/(b=tab/\H b=some (.tbl #[])))->SqL K H a (ns.map V.int)->H tab=some (.tbl #[])->HOk P w H s₁.heap->(H a≠none->K.lookup a=none) ->
   codeAny (model P w) callerA (.call (.ref fa) ⟨[.ref a],[]⟩) (fun r s'=>r=.ok (.ret (.bool true))/\OldK s₁.heap s'.heap/\s'.os=s₁.os/\AllBare s'.gens) s₁:=by
  intro H hO hS hHt hok hK
  have freeOf:∀ {b:Addr} {o:Obj},s₁.heap.get? b=some o->o.cls≠.type "list"->o.cls≠.none->H b=none:=fun {b o} e c1 c2=>by
   rcases hO b with z | ⟨z,_⟩ | ⟨z,_⟩
   ·exact z
   ·rw [z,ha] at e;cases e;exact absurd rfl c1
   ·rw [z,hto] at e;cases e;exact absurd rfl c2
  have nsK:∀ {b:Addr} {m:Str->Option Value},s₁.heap.Ns b m->(hidT s₁.heap H).Ns b m:=fun {b m} ⟨o,es,ep,e,d,r⟩=>by
   refine ⟨o,es,ep,j9n e ?_,d,r⟩;rcases hO b with z | ⟨z,_⟩ | ⟨z,_⟩
   ·exact z
   ·rw [z,ha] at e;cases e;have d':Data.seq vs.toArray _=Data.dict es ep:=d;cases d'
   ·rw [z,hto] at e;cases e;have d':Data.fields #[]=Data.dict es ep:=d;cases d'
  have hKb:K.In (hidT s₁.heap H):=fun b o e=>j9n (KX b o e) (by
   rcases hO b with z | ⟨z,_,_,z2⟩ | ⟨z,_⟩
   ·exact z
   ·rw [z] at e z2;rw [hK (by rw [z2];simp)] at e;cases e
   ·rw [z,hKt] at e;cases e)
  have hM:Mod K mg (hidT s₁.heap H):=⟨hKb,nsK hns,⟨mb,nsK hb,hbb⟩,let ⟨mc,h1,h2⟩:=hlim;⟨mc,nsK h1,h2⟩⟩;have e0:Env0 P w K mg (hidT s₁.heap H) callerA [] s₁ H:=⟨rfl,hM,fun b o e=>w5k e,Nat.le_of_eq (k8i _ _),trivial,fun b hb=>absurd (show b∈([]:List Addr) from hb) (by simp),hok,.of_eq hg⟩;refine codeAny_mono ((F _ hKb (nsK hns) fun b o e c1 c2=>j9n e (freeOf e c1 c2)).run callerA [] s₁ H ⟨[.ref a],[]⟩ [.ref a] [.ref a] _ _ hr e0 (hbind s₁ (.ref a)) (.cons rfl .nil) (hsp H hS hHt)) fun r s' h=>?_
  cases r with
  | error e=>exact (hCX H e s' h).elim
  | ok fl =>
   cases fl with
   | next=>exact False.elim h
   | brk=>exact False.elim h
   | cont=>exact False.elim h
   | ret u =>
    obtain ⟨v,H',os,bare,un,hok',r',q⟩:=h;have q':v=.bl true:=q;subst q';obtain rfl:u=Value.bool true:=r';have keepN:∀ b o,s₁.heap.get? b=some o->H b=none->s'.heap.get? b=some o:=fun b o e n=>un.keep b o e n (by intro z;exact absurd (show b∈([]:List Addr) from z) (by simp)) (by simp);obtain ⟨more,hm⟩:=un.tbls tab _ hHt;have ht':s'.heap.get? tab=some { cls:=.none,data:=.fields (#[]++more)}:=hok' tab _ hm
    have keepA:∀ b o,s₁.heap.get? b=some o->b≠tab->s'.heap.get? b=some o:=fun b o e n=>by
     rcases hO b with z | ⟨_,ob,xs,z⟩ | ⟨z,_⟩
     ·exact keepN b o e z
     ·have z2:=un.frzs b ob _ z;obtain ⟨e1,_⟩:=hok b _ z;obtain ⟨e2,_⟩:=hok' b _ z2;rw [e] at e1;cases e1;exact e2
     ·exact absurd z n
    refine ⟨rfl,⟨fun b o e=>?_,fun b o e=>?_⟩,os,bare⟩
    ·by_cases hbt:b=tab
     ·subst hbt;rw [hto] at e;cases e;exact .inr (.inl ⟨hT.isCodeTable,rfl,#[],more,rfl,ht'⟩)
     ·exact .inl (keepA b o e hbt)
    ·by_cases hbt:b=tab
     ·rw [hbt];exact ⟨_,ht'⟩
     ·exact ⟨o,keepA b o e hbt⟩
 have okT:∀ H:Hp,ObjOk P w H s₁.heap tab (.tbl #[]):=fun H=>hto
 cases hk:K.lookup a with
 | some o =>
  have e:=KX a o hk;rw [ha] at e;cases e;refine core (fun b=>if b=tab then some (.tbl #[]) else none) (fun b=>?_) (.inr ⟨_,vs.toArray,_,hk,rfl,rfl,rfl,by rw [List.size_toArray,lenV];exact hl,by simpa using rv⟩) (if_pos rfl) (fun b u z=>?_) fun z=>absurd (if_neg nat) z
  ·by_cases hb':b=tab
   ·exact .inr (.inr ⟨hb',if_pos hb'⟩)
   ·exact .inl (if_neg hb')
  ·by_cases hb':b=tab
   ·have z':=(if_pos hb').symm.trans z;cases z';rw [hb'];exact okT _
   ·have z':=(if_neg hb').symm.trans z;cases z'
 | none =>
  refine core (fun b=>if b=tab then some (.tbl #[]) else if b=a then some (.frz { cls:=.type "list",data:=.seq vs.toArray} (.lst (ns.map V.int))) else none) (fun b=>?_) (.inl (.inr ⟨{ cls:=.type "list",data:=.seq vs.toArray},(if_neg nat).trans (if_pos rfl)⟩)) (if_pos rfl) (fun b u z=>?_) fun _=>hk
  ·by_cases hb':b=tab
   ·exact .inr (.inr ⟨hb',if_pos hb'⟩)
   ·by_cases hba:b=a
    ·exact .inr (.inl ⟨hba,_,_,(if_neg hb').trans (if_pos hba)⟩)
    ·exact .inl ((if_neg hb').trans (if_neg hba))
  ·by_cases hb':b=tab
   ·have z':=(if_pos hb').symm.trans z;cases z';rw [hb'];exact okT _
   ·by_cases hba:b=a
    ·have z':=((if_neg hb').trans (if_pos hba)).symm.trans z;cases z';subst hba;exact ⟨ha,by rw [List.length_map];exact hl,vs,_,rv,ha⟩
    ·have z':=((if_neg hb').trans (if_neg hba)).symm.trans z;cases z'
structure BaseT (mg:Str->Option Value) (base:Heap) (c tab:Addr):Prop where
 hd:PySem.W.CodeHd base c tab
 blt:∃ bm ob,mg "__builtins__"=some (.ref bm)/\bm≠builtinsNs/\base.get? bm=some ob/\ob.cls=.type "module"/\ob.dict=some builtinsNs/\ob.data=.plain
theorem k9y {l:PySem.W.OpenLaw} {n k:Nat} {q:Program} {loose:List Str} {XP:(Str->Option Value)->Heap->Prop} {YP:World->Heap->Prop} {d:DefRec} {K:Params->PySem.W.Frag} {CX:CXT} {sp:World->PySem.W.Frag->Addr->Sp} {x tx:Str} {dx:DefRec}
  (hn:l.most=some n) (hn2:n<=sizeLine) (hdf:d.params.defaults=[]) (hr:Room k callerA)
  (hY:∀ (w:World) (h:Heap),YP w h->(K w.params).In h) (hrec:(recsOf q).find? (fun e=>e.name == tx)=some dx)
  (F:∀ (w:World) (mg:Str->Option Value) (fa:Addr) (h:Heap),(K w.params).In h->h.Ns mainGlobals mg->mg d.name=some (.ref fa) ->
   ∃ (c tab:Addr) (fd:FuncData),PySem.W.tabIn (K w.params) tx=some (c,tab)/\(K w.params).lookup tab=none/\(∀ (s:Shared) (u:Value),BindsTo s fd ⟨[u],[]⟩ [(x,u)]) /\
    ∀ base:Heap,(K w.params).In base->base.Ns mainGlobals mg->BaseT mg base c tab->FnOk l.prog w (K w.params) mg base CX k fa fd [x] (sp w (K w.params) tab))
  (hsp:∀ (w:World) (K:PySem.W.Frag) (H:Hp) (a tab:Addr) (ns:List Int),ns.length<=n->SqL K H a (ns.map V.int)->H tab=some (.tbl #[])->sp w K tab [.ref a] H (fun v _=>v=.bl true) fun _ _ _=>False)
  (hCX:∀ (H:Hp) (s:Shared) (e:Value) (s':Shared),CX [] H s (fun _ _ _=>False) e s'->False) :
  PySem.W.WalkO q loose XP YP l.row.toRowW d [] (fun f vs=>PySem.call f vs):=by
 refine Att.attach_call hn hdf fun w s₀ s₁ mg mb fa o pm cd doc a vs ns G Yy ho hd hcd hmg hobj hints hlen hg=>?_;have KX:=hY w _ Yy;obtain ⟨c,tab,fd,ht,hKt,hb,hF⟩:=F w mg fa _ KX G.T.g hmg;obtain ⟨hd1,hP⟩:=PySem.W.tab_of G.T KX hrec ht;obtain ⟨bm,ob,b1,b2,b3,b4,b5,b6⟩:=G.T.bmain;refine k76 KX G.T.g G.T.b G.T.builtins G.T.nolimit hg hobj hints (Nat.le_trans hlen hn2) hr (hd1.tab hP) hKt (fun base kb nb bk=>hF base kb nb ⟨?_,bm,ob,b1,b2,bk _ _ b3 (by rw [b4];simp) (by rw [b4];simp),b4,b5,b6⟩) hb (fun H hS hH=>hsp w _ H a tab ns hlen hS hH) fun H e s'=>hCX H s₁ e s';obtain ⟨o,vs',file,tf,flags,tg,inF,text,tt,e1,r1,r2⟩:=hd1;exact ⟨o,vs',file,tf,flags,tg,inF,text,tt,bk _ _ e1 (by rw [r1];simp) (by rw [r1];simp),r1,r2⟩
end L2
namespace SX
open PySem PyProof.Rows
section
variable {prog:Program} {w:World} {A:Around} {E:Value->Shared->Prop} {s:Shared} {a b:Addr} {ks ka kb:List Int}
theorem in_i {k:Int} {u:Tok} {Q:Value->Shared->Prop} (S:SetI w a ks s.heap) (h:Q (.bool (decide (k∈ks))) { s with toks:=s.toks + 1}):wpAny (model prog w) A (compareOp .In (.int k u) (.ref a)) Q E s :=
 wpAny_inSet_of (knd:=intKind prog w) (k:=k) (intKind_is _ _ _ _) rfl S.of h
theorem len_i {Q:Value->Shared->Prop} (S:SetI w a ks s.heap) (h:Q (.int ks.length (s.toks + 1)) { s with toks:=s.toks + 1 + 1}):wpAny (model prog w) A (call (.builtin "len") [.ref a]) Q E s:=by obtain ⟨es,ep,t,e,K⟩:=S;have z:=K.size;have sm:=K.small;refine call_len_set e ⟨rfl,rfl,rfl⟩ rfl K.tab.fits (by omega) ?_;rw [z];exact h
theorem w9f {k:Int} {u:Tok} {Q:Value->Shared->Prop} (S:SetI w a ks s.heap) (room:ks.length + 1<=127)
  (h:∀ h' ks' tk,Heap.SameBut a s.heap h'->SetI w a ks' h'->ks'.Perm (if k∈ks then ks else k :: ks)->Q .none { s with heap:=h',toks:=tk}) :
  wpAny (model prog w) A (call (.builtin "set.add") [.ref a,.int k u]) Q E s:=by
 refine wpAny_call_entry F.slot_set_add S.typeIs F.entry_set_add ?_ (F.args_set_add_2 _ _);show wpAny _ _ (Builtin.Frozenset.oneOther "add" ⟨[.ref a,.int k u],[]⟩ >>= _) _ _ _;refine wB (wB (wP (wP (wB ?_))));refine w9g S room fun h' ks' tk sb S' p _=>wP ⟨_,rfl,h h' ks' tk sb S' p⟩
theorem w59 {k:Int} {u:Tok} {Q:Value->Shared->Prop} (S:SetI w a ks s.heap)
  (h:∀ h' ks' tk,Heap.SameBut a s.heap h'->SetI w a ks' h'->(if k∈ks then ks.Perm (k :: ks') else ks'=ks)->Q .none { s with heap:=h',toks:=tk}) :
  wpAny (model prog w) A (call (.builtin "set.discard") [.ref a,.int k u]) Q E s:=by
 refine wpAny_call_entry F.slot_set_discard S.typeIs F.entry_set_discard ?_ (F.args_set_discard_2 _ _);show wpAny _ _ (Builtin.Frozenset.oneOther "discard" ⟨[.ref a,.int k u],[]⟩ >>= _) _ _ _;refine wB (wB (wP (wP (wB ?_))));unfold Builtin.Frozenset.withSetAsKey setDiscard;refine wpAny_tryCatch ?_;refine wpAny_holding (wB ((intKind prog w).pyHash (k:=k) (intKind_is _ _ _ _) ?_));exact k00 (s:={ s with toks:=s.toks + 1}) S fun h' ks' sb S' p=>wP ⟨_,rfl,h h' ks' _ sb S' p⟩
theorem k4f {Q:Value->Shared->Prop} (h:∀ h',Fresh w s.heap.objs.size h'->(∀ c o,s.heap.get? c=some o->h'.get? c=some o)->Q (.ref s.heap.objs.size) { s with heap:=h'}) :
  codeAny (model prog w) A (.call (.builtin "set.__new__") ⟨[.type "set"],[]⟩) (wants Q E) s:=by
 refine codeAny_of_tree (wB (wpAny_of_eq F.newCall_set_0 (wP ⟨plainId_quiet F.plain_set_new _,codeAny_builtin F.entry_set_new ?_⟩)));rw [Around.under_plainId F.plain_set_new _];unfold Builtin.«set.__new__» Builtin.Frozenset.newClass;have q1:=sub_set_self;obtain ⟨hp,gs,dr,tk,os⟩:=s;dsimp only;generalize hN:newSet=NS
 wp_walk
 subst hN;refine w04 fun h' F' k'=>?_;exact wP (h h' F' k')
set_option maxHeartbeats 3200000 in
theorem k2x {Q:Value->Shared->Prop} (h:∀ h',SetI w s.heap.objs.size [] h'->(∀ c o,s.heap.get? c=some o->h'.get? c=some o)->Q (.ref s.heap.objs.size) { s with heap:=h'}):wpAny (model prog w) A (call (.type "set") []) Q E s:=by
 obtain ⟨c0,tl,hmro⟩:=F.called_set.mro;have hmade:=F.called_set.made;have hsub:=F.called_set.sub;refine wpAny_call (codeAny_of_tree (wP ⟨Code.quiet_builtin _ (by decide +kernel),codeAny_builtin F.entry_type_call ?_⟩));rw [Around.under_plain (weight_type_call_type "set" [] []) rfl];have hn1:=F.called_set.notType;have hn2:=F.called_set.canCreate;have hct:=F.typeCall_set_0
 repeat (any_goals (first | assumption | wp_step))
 refine codeAny_mono (k4f (E:=E) (Q:=fun obj s₁=>obj=.ref s.heap.objs.size/\∃ h1,s₁={ s with heap:=h1}/\Fresh w s.heap.objs.size h1/\∀ c o,s.heap.get? c=some o->h1.get? c=some o) fun h1 F1 k1=>⟨rfl,h1,rfl,F1,k1⟩) fun r1 s1 hr1=>?_
 cases r1 with
 | error e=>exact hr1
 | ok f1 =>
  cases f1 with
  | ret obj =>
   obtain ⟨rfl,h1,rfl,F1,k1⟩:=hr1;have S1:SetI w s.heap.objs.size [] h1:=F1.set;have hT:Shared.TypeIs { s with heap:=h1} (.ref s.heap.objs.size) "set":=SetI.typeIs (s:={ s with heap:=h1}) S1;have hli:=F.called_set.init.lookup;have hbi:=F.called_set.init.bind (.ref s.heap.objs.size)
   repeat (any_goals (first | assumption | wp_step))
   refine codeAny_mono (codeAny_call_builtin (R:=wants (fun r s₂=>r=.none/\s₂={ s with heap:=h1}) E) F.called_set.init.plain F.entry_set_init (check_set_init hT ?_)) fun r2 s2 hr2=>?_
   ·obtain ⟨ep0,led0,e1,l1⟩:=id F1;unfold Builtin.«set.__init__» noKeywords
    wp_walk
    exact ⟨rfl,rfl⟩
   ·cases r2 with
    | error e=>exact hr2
    | ok f2 =>
     cases f2 with
     | ret r =>
      obtain ⟨rfl,rfl⟩:=hr2
      repeat (any_goals (first | assumption | wp_step))
      exact h _ S1 k1
     | _=>exact hr2.elim
  | _=>exact hr1.elim
theorem w2e {Q:Nat->Shared->Prop} (S:SetI w a ks s.heap) (h:Q ks.length s):wpAny (model prog w) A (Builtin.Frozenset.sizeOf a) Q E s:=by obtain ⟨es,ep,t,e,K⟩:=S;unfold Builtin.Frozenset.sizeOf;refine wB (wpAny_setEntries_of e rfl K.tab.fits (wP ?_));rw [K.size];exact h
end
end SX
namespace SX
open PySem PyProof.Rows
section
variable {prog:Program} {w:World} {A:Around} {E:Value->Shared->Prop} {s:Shared} {a b:Addr} {ks ka kb:List Int}
theorem w2s {r:Addr} {h1:Heap} {id:String} {Q:PUnit->Shared->Prop} (Sa:SetI w a ka h1) (Sb:SetI w b kb h1) (S1:SetI w r [] h1) (nra:a≠r) (nrb:b≠r) (hl:kb.length<=126)
  (h:∀ h2 k2,Heap.SameBut r h1 h2->SetI w r k2 h2->(∀ k,k∈k2↔(k∈ka/\k∈kb))->Q ⟨⟩ { s with heap:=h2}) :
  wpAny (model prog w) A (do
   let was <- setEpoch b
   let xs <- setWalkUnseen b [a,r] (some r)
   let _ <- forIn xs PUnit.unit fun x _=>do
    holding [x.2] (do
     let q <- setFind a x.2 x.1
     if q.isSome=true then (do
      let _ <- setAddHashed r x.2 x.1
      pure ())
     else pure ())
    Builtin.Frozenset.unchanged id b was
    pure (ForInStep.yield PUnit.unit)
   pure ()) Q E { s with heap:=h1}:=by
 obtain ⟨es,ep,t,e,K⟩:=_root_.id Sb;refine wB (j5s (n:=0) (s:={ s with heap:=h1}) e K.tab.fits ?_);refine wB (k29 (s:={ s with heap:=h1}) Sb fun es' ks' P' p'=>?_);have nd':ks'.Nodup:=p'.nodup_iff.mpr Sb.nodup;have len':=p'.length_eq;refine wB (wpAny_forIn_array' _ (fun rest _ s2=>∃ dn kr h2 k2,ks'=dn++kr/\Paired j4d rest kr/\s2={ s with heap:=h2}/\Heap.SameBut r h1 h2/\SetI w r k2 h2/\k2.length<=dn.length/\∀ k,k∈k2↔(k∈ka/\k∈dn)) _ ?turn ?fin es' _ ⟨[],ks',h1,[],rfl,P',rfl,Heap.SameBut.refl _ _,S1,Nat.le_refl _,fun k=>by simp⟩)
 case fin =>
  rintro _ s2 ⟨dn,kr,h2,k2,e0,P,rfl,sb,S2,_,m⟩;cases P;rw [List.append_nil] at e0;subst e0;refine wP (h h2 k2 sb S2 fun k=>?_);rw [m k,p'.mem_iff]
 case turn =>
  rintro x rest _ s2 ⟨dn,kr,h2,k2,e0,P,rfl,sb,S2,l2,m⟩
  cases P with
  | cons hx hr =>
   rename_i k kr
   obtain ⟨hx1,u,hx2⟩:=hx;rw [hx1,hx2];have lenk:dn.length + (kr.length + 1)=ks'.length:=by rw [e0,List.length_append,List.length_cons]
   have Sa2:SetI w a ka h2:=Sa.keep fun o q=>sb.extBut a o nra q;have eb:∀ h3,Heap.SameBut r h2 h3->h3.get? b=some (j2m es ep t):=fun h3 q=>q.extBut b _ nrb (sb.extBut b _ nrb e)
   have last:∀ (R:ForInStep PUnit->Shared->Prop) h3 k3,Heap.SameBut r h2 h3->SetI w r k3 h3->k3.length<=k2.length + 1->(∀ j,j∈k3↔(j∈k2\/(j=k/\k∈ka))) ->
     (∀ s':Shared,(∃ dn kr h2 k2,ks'=dn++kr/\Paired j4d rest kr/\s'={ s with heap:=h2}/\Heap.SameBut r h1 h2/\SetI w r k2 h2/\k2.length<=dn.length/\∀ k,k∈k2↔(k∈ka/\k∈dn))->R (.yield ⟨⟩) s') ->
     wpAny (model prog w) A (Builtin.Frozenset.unchanged id b ep >>= fun _=>pure (ForInStep.yield PUnit.unit)) R E { s with heap:=h3}:=by
    intro R h3 k3 sb3 S3 l3 m3 fin;unfold Builtin.Frozenset.unchanged;refine wB (wB (j5s (n:=0) (s:={ s with heap:=h3}) (eb h3 sb3) K.tab.fits ?_));rw [if_neg (by simp)];refine wP (wP (fin _ ⟨dn++[k],kr,h3,k3,by rw [e0];simp,hr,rfl,sb.trans sb3,S3,by rw [List.length_append];simp;omega,fun j=>?_⟩));rw [m3 j,m j,List.mem_append,List.mem_singleton];constructor
    ·rintro (⟨q1,q2⟩ | ⟨q1,q2⟩)
     ·exact ⟨q1,.inl q2⟩
     ·exact ⟨by rw [q1];exact q2,.inr q1⟩
    ·rintro ⟨q1,q2 | q2⟩
     ·exact .inl ⟨q1,q2⟩
     ·exact .inr ⟨q2,by rw [<- q2];exact q1⟩
   refine wB (wpAny_holding (wB (w8v (s:={ s with heap:=h2}) Sa2 fun rr hrr=>?_)));by_cases hin:k∈ka
   ·rw [hrr,decide_eq_true hin,if_pos rfl];refine wB (w6n (s:={ s with heap:=h2}) S2 (by omega) fun h3 k3 sb3 S3 p3=>?_);refine wP (last _ h3 k3 sb3 S3 ?_ (fun j=>?_) fun _ z=>z)
    ·have q:=p3.length_eq;by_cases hk2:k∈k2
     ·rw [if_pos hk2] at q;omega
     ·rw [if_neg hk2,List.length_cons] at q;omega
    ·rw [p3.mem_iff];by_cases hk2:k∈k2
     ·rw [if_pos hk2];constructor
      ·exact .inl
      ·rintro (q | ⟨q,_⟩)
       ·exact q
       ·rw [q];exact hk2
     ·rw [if_neg hk2,List.mem_cons];constructor
      ·rintro (q | q)
       ·exact .inr ⟨q,hin⟩
       ·exact .inl q
      ·rintro (q | ⟨q,_⟩)
       ·exact .inr q
       ·exact .inl q
   ·rw [hrr,decide_eq_false hin,if_neg (by simp)];refine wP (last _ h2 k2 (Heap.SameBut.refl _ _) S2 (Nat.le_succ _) (fun j=>?_) fun _ z=>z);constructor
    ·exact .inl
    ·rintro (q | ⟨_,q⟩)
     ·exact q
     ·exact absurd q hin
theorem and_i {Q:Value->Shared->Prop} (Sa:SetI w a ka s.heap) (Sb:SetI w b kb s.heap) (nab:a≠b) (hla:ka.length<=126) (hlb:kb.length<=126)
  (h:∀ h' ks,SetI w s.heap.objs.size ks h'->(∀ k,k∈ks↔(k∈ka/\k∈kb))->(∀ c o,s.heap.get? c=some o->h'.get? c=some o)->Q (.ref s.heap.objs.size) { s with heap:=h'}) :
  wpAny (model prog w) A (binaryOp .BitAnd (.ref a) (.ref b)) Q E s:=by
 refine wpAny_binaryOp_same (op:=.BitAnd) (T:="set") Sa.typeIs Sb.typeIs F.fills_set_and F.slot_set_and ?_;refine wpAny_call_entry F.slot_set_and Sa.typeIs k8y ?_ (F.args_set_and_2 _ _);show wpAny _ _ (Builtin.Frozenset.slot1 "__and__" ⟨[.ref a,.ref b],[]⟩ >>= _) _ _ _;refine wB (wB (wP (wP ?_)));dsimp only;rw [if_neg Bool.false_ne_true];dsimp only;refine wB (wB (j3f Sa (j3f Sb ?_)));rw [if_neg (by simp)];refine wB (wP (wB ?_));unfold Builtin.Frozenset.intersection;rw [if_neg (by simpa using Ne.symm nab)];dsimp only;unfold Builtin.Frozenset.baseOf;refine wB (wB (wpAny_isInstance Sa.typeIs sub_set_self (wP ?_)));rw [if_pos rfl];refine wB (w04 fun h1 F1 k1=>?_);have Sa1:SetI w a ka h1:=Sa.keep fun o e=>k1 a o e;have Sb1:SetI w b kb h1:=Sb.keep fun o e=>k1 b o e;have na:a≠s.heap.objs.size:=Nat.ne_of_lt Sa.lt;have nb:b≠s.heap.objs.size:=Nat.ne_of_lt Sb.lt;refine wB (wP (wB (wpAny_holding ?_)));refine wB (j3f (s:={ s with heap:=h1}) Sb1 ?_);rw [if_pos rfl];refine wB (wP (wB (w2e (s:={ s with heap:=h1}) Sb1 (wB (w2e (s:={ s with heap:=h1}) Sa1 ?_)))));by_cases hgt:kb.length > ka.length
 ·simp only [if_pos hgt];refine w2s Sb1 Sa1 F1.set nb na hla fun h2 k2 sb S2 m=>wP (wP ⟨_,rfl,by simp,?_⟩);refine h h2 k2 S2 (fun k=>?_) fun c o q=>sb.extBut c o (Nat.ne_of_lt (Heap.lt_size q)) (k1 c o q);rw [m k];exact And.comm
 ·simp only [if_neg hgt];refine w2s Sa1 Sb1 F1.set na nb hlb fun h2 k2 sb S2 m=>wP (wP ⟨_,rfl,by simp,?_⟩);exact h h2 k2 S2 m fun c o q=>sb.extBut c o (Nat.ne_of_lt (Heap.lt_size q)) (k1 c o q)
end
end SX
namespace L2
open PySem PySem.Spec PyProof.Rows SX
section
variable {X:Cx}
theorem k9e:j3l X (.type "set") (fun xs H Q=>xs=[]/\∀ p:Addr,H p=none->Q (.ref p) (upd H p (setO X.w p []))):=by intro pins s Z H xs us Q I r h;obtain ⟨rfl,q⟩:=h;cases r;exact k2x fun h' S k=>⟨.ref s.heap.objs.size,_,I.laid (t':=s.toks) k (Nat.le_refl _) (j98 S),rfl,q _ (I.hok.fresh (Nat.le_refl _))⟩
def rInS (w:World):R2:=fun x y H Q=>∃ (k:Int) (a:Addr) (ks:List Int),x=.int k/\y=.ref a/\H a=some (setO w a ks)/\Q (.bl (decide (k∈ks))) H
theorem w72:OpR X (compareOp .In) (rInS X.w):=by intro pins s Z H x y v u Q I rx ry h;obtain ⟨k,a,ks,rfl,rfl,ha,q⟩:=h;obtain ⟨t,rfl⟩:=rx;cases ry;exact in_i (j22 I ha) ⟨.bl _,H,I.tok _,rfl,q⟩
theorem k9g:j3l X (.builtin "len") (fun xs H Q=>∃ (a:Addr) (ks:List Int),xs=[.ref a]/\H a=some (setO X.w a ks)/\Q (.int ks.length) H):=by intro pins s Z H xs us Q I r h;obtain ⟨a,ks,rfl,ha,q⟩:=h;obtain ⟨u,rfl,rx⟩:=j56 r;cases rx;exact len_i (j22 I ha) ⟨.int ks.length,H,I.tok _,⟨_,rfl⟩,q⟩
def w99 (w:World):R2:=fun x y H Q=>∃ (a b:Addr) (ka kb:List Int),x=.ref a/\y=.ref b/\H a=some (setO w a ka)/\H b=some (setO w b kb)/\a≠b/\ka.length<=126/\kb.length<=126 /\
  ∀ (p:Addr) (ks:List Int),H p=none->ks.Nodup->(∀ k,k∈ks↔(k∈ka/\k∈kb))->Q (.ref p) (upd H p (setO w p ks))
theorem w47:OpR X (binaryOp .BitAnd) (w99 X.w):=by intro pins s Z H x y v u Q I rx ry h;obtain ⟨a,b,ka,kb,rfl,rfl,ha,hb,nab,hla,hlb,q⟩:=h;cases rx;cases ry;refine and_i (j22 I ha) (j22 I hb) nab hla hlb fun h' ks S m k=>?_;exact ⟨.ref s.heap.objs.size,_,I.laid (t':=s.toks) k (Nat.le_refl _) (j98 S),rfl,q _ ks (I.hok.fresh (Nat.le_refl _)) S.nodup m⟩
theorem Inv.sset {pins:List (Addr×Obj)} {Z:St} {H:Hp} {s:Shared} {a:Addr} {ks ks':List Int} {h':Heap} {tk:Nat} (I:Inv X pins Z H s) (ha:H a=some (setO X.w a ks)) (sb:Heap.SameBut a s.heap h') (S:SetI X.w a ks' h') :
  Inv X pins Z (upd H a (setO X.w a ks')) { s with heap:=h',toks:=tk} :=
 I.write (t':=tk) (by rw [ha];trivial) (.inl rfl) (fun b u n e=>sb.extBut b u n e) (let ⟨_,_,_,e,_⟩:=S;⟨_,e⟩) (j98 S)
theorem w5n:MtM X "set.add" (fun x vs H Q=>∃ (a:Addr) (ks:List Int) (k:Int),x=.ref a/\vs=[.int k]/\H a=some (setO X.w a ks)/\ks.length + 1<=127/\∀ ks':List Int,ks'.Nodup->ks'.Perm (if k∈ks then ks else k :: ks)->Q .non (upd H a (setO X.w a ks'))):=by intro pins s Z H x vs v us Q I rx rv h;obtain ⟨a,ks,k,rfl,rfl,ha,hl,q⟩:=h;cases rx;obtain ⟨u,rfl,t,rfl⟩:=rv.one;exact w9f (j22 I ha) hl fun h' ks' tk sb S p=>⟨.non,_,I.sset ha sb S,rfl,q ks' S.nodup p⟩
theorem w1b:MtM X "set.discard" (fun x vs H Q=>∃ (a:Addr) (ks:List Int) (k:Int),x=.ref a/\vs=[.int k]/\H a=some (setO X.w a ks)/\∀ ks':List Int,ks'.Nodup->(if k∈ks then ks.Perm (k :: ks') else ks'=ks)->Q .non (upd H a (setO X.w a ks'))):=by intro pins s Z H x vs v us Q I rx rv h;obtain ⟨a,ks,k,rfl,rfl,ha,q⟩:=h;cases rx;obtain ⟨u,rfl,t,rfl⟩:=rv.one;exact w59 (j22 I ha) fun h' ks' tk sb S p=>⟨.non,_,I.sset ha sb S,rfl,q ks' S.nodup p⟩
def tBMS (w:World) (r:V->List V->Hp->VK->Prop) (to:TE) (t:TA):TE:=fun Z H Q=>to Z H fun x H1=>(∃ (a:Addr) (ks:List Int),x=.ref a/\H1 a=some (setO w a ks))/\t Z H1 fun xs H2=>r x xs H2 Q
variable {o e:Expr} {es:List Expr} {to:TE} {t:TA} {name:Str} {apos cpos:Pos} {id:String} {r:V->List V->Hp->VK->Prop}
theorem w2p (slot:Slot "set" name id) (hty:typeOf (.builtin id)=pure (.type "method_descriptor")) (hm:MtM X id r) (ho:PE X o to) (ha:PA X (e :: es) t)
  (hbase:attributeBase o name X.env (eval o X.env)=eval o X.env:=by rfl)
  (hfew:((backTo cpos (starEach (e :: es) X.env)).all (fun x=>!x.1)&&(backToKw cpos (keywordEach [] X.env)).all (fun x=>x.1.isSome)&&decide ((e :: es).length + ([]:List Keyword).length + (if ([]:List Keyword).isEmpty then 0 else 1) < 30))=true:=by rfl)
  (hline:(apos.endLine == cpos.line)=true:=by rfl) (hs:starEach (e :: es) X.env=(false,eval e X.env) :: starEach es X.env:=by rfl) (hplain:(backTo cpos (starEach es X.env)).any (·.1)=false:=by rfl) :
  PE X (.Call (.Attribute o name apos) (e :: es) [] cpos) (tBMS X.w r to t):=by
 intro pins s Z H Q I h;refine wpAny_Call_method_late hbase hfew hline rfl (thn (ho pins s Z H _ I h) fun v s1 ⟨x,H1,I1,r1,ty,q1⟩=>?_);obtain ⟨a,ks,rfl,hk⟩:=ty;cases r1;have S:=j22 I1 hk;refine ⟨"set",id,F.plainAttrs_set,slot,hty,S.typeIs,fun b e2=>?_,?_⟩
 ·cases e2;obtain ⟨_,_,_,e3,_⟩:=S;exact ⟨_,e3,rfl⟩
 have hA:=ha cpos pins s1 Z H1 _ I1 q1;rw [hs] at hA ⊢;refine Calls.callWith_builtin (by show (false||(backTo cpos (starEach es X.env)).any (·.1))=false;rw [hplain]<;>rfl) (Calls.evalArgs_plain ?_);exact thn hA fun us s2 ⟨vs,H2,I2,r2,q2⟩=>hm pins s2 Z H2 (.ref a) vs (.ref a) us Q I2 rfl r2 q2
end
end L2
namespace L2
open PySem PySem.Spec PyProof.Rows SX
structure Flies (P:Program) (w:World) (outer:List Env) (H:Hp) (s:Shared) (H':Hp) (C x:Addr) (s':Shared):Prop where
 os:s'.os=s.os
 bare:AllBare s'.gens
 un:Un (frs outer) [] H H' s.heap s'.heap
 hok:HOk P w H' s'.heap
 fly:∃ (B:Heap) (a0:Value),Heap.FlyingW B outer x (.ref C) a0 s'.heap/\∀ b o,s'.heap.get? b=some o->(H' b≠none\/∃ o0,s.heap.get? b=some o0)->b∉frs outer->B.get? b=some o
def CX1 (P:Program) (w:World):CXT:=fun outer H s E e s'=>∃ (C x:Addr) (H':Hp),e=.ref x/\Flies P w outer H s H' C x s'/\E (.ref C) (some x) H'
theorem k8g {P:Program} {w:World} {H:Hp} {h:Heap} {a:Addr} {o:HO} (x:HOk P w H h) (e:H a=some o):∃ u,h.get? a=some u:=by
 have aux:∀ o:HO,ObjOk P w H h a o->∃ u,h.get? a=some u:=by
  intro o q
  cases o with
  | lst xs=>obtain ⟨_,_,_,_,z⟩:=q;exact ⟨_,z⟩
  | tup xs=>obtain ⟨_,_,_,ob,z,_⟩:=q;exact ⟨_,z⟩
  | dK kvs=>obtain ⟨_,_,_,_,ob,_,_,z,_⟩:=q;exact ⟨_,z⟩
  | dT kvs=>obtain ⟨_,_,_,_,ob,_,_,z,_⟩:=q;exact ⟨_,z⟩
  | set S n=>obtain ⟨ob,_,_,_,z,_⟩:=q;exact ⟨_,z⟩
  | ins C dx fs=>obtain ⟨_,_,_,z,_⟩:=q;exact ⟨_,z⟩
  | own b=>exact q
  | xd fs=>obtain ⟨mA,⟨ob,_,_,z,_⟩,_⟩:=q;exact ⟨_,z⟩
  | rng lo hi=>obtain ⟨_,_,_,z⟩:=q;exact ⟨_,z⟩
  | frz ob u=>exact ⟨_,q.1⟩
  | tbl ps=>exact ⟨_,q⟩
  | met f y=>exact ⟨_,q⟩
  | ext φ=>exact q.2.1
 exact aux o (x a o e)
section
variable {P:Program} {w:World} {l:List Env} {H H':Hp} {s s2:Shared} {B h':Heap}
theorem w8u (u:Un (frs l) [] H H' s.heap s2.heap) (hok:HOk P w H' s2.heap) (cov:∀ b o,s2.heap.get? b=some o->(H' b≠none\/∃ o0,s.heap.get? b=some o0)->b∉frs l->B.get? b=some o)
  (nfr:∀ b∈frs l,H' b=none/\∃ o,s2.heap.get? b=some o/\∀ vs,o.data≠.fields vs) (st:B.StaysIn h') (up:s2.heap.UpToSlots h'):Un (frs l) [] H H' s.heap h'/\HOk P w H' h':=by
 have nx:∀ b:Addr,b∉([]:List Addr):=fun b z=>by cases z
 have slots:∀ b o,s2.heap.get? b=some o->b∈frs l->∃ sl,h'.get? b=some { o with slots:=sl}:=fun b o e hb=>by obtain ⟨_,o',e',n⟩:=nfr b hb;rw [e] at e';cases e';exact up b o e n
 refine ⟨⟨fun b o e n hf hx=>?_,fun b o e n hf hx=>?_,fun b o e n hx=>u.free b o e n hx,fun b o e hx=>?_,u.tups,u.frzs,u.tbls⟩,fun a o e=>?_⟩
 ·exact st b o (cov b o (u.keep b o e n hf hx) (.inr ⟨o,e⟩) hf)
 ·obtain ⟨sl,e1⟩:=u.slot b o e n hf hx;obtain ⟨sl',e2⟩:=slots b _ e1 hf;exact ⟨sl',e2⟩
 ·obtain ⟨o',e1⟩:=u.there b o e hx;by_cases hf:b∈frs l
  ·obtain ⟨sl,e2⟩:=slots b _ e1 hf;exact ⟨_,e2⟩
  ·exact ⟨_,st b o' (cov b o' e1 (.inr ⟨o,e⟩) hf)⟩
 ·have tr:∀ c,H' c≠none->c∉frs l:=fun c hc hf=>hc (nfr c hf).1;refine (hok a o e).stay (fun c v hc q=>?_) (fun _ q=>q) fun _ _ q=>q
  have hc':H' c≠none:=by
   rcases hc with z | z
   ·rw [z,e];simp
   ·rw [z];simp
  exact st c v (cov c v q (.inl hc') (tr c hc'))
end
section
variable {X:Cx} {pins:List (Addr×Obj)} {Z:St} {H1 H':Hp} {s1 s2:Shared} {C x:Addr} {B h':Heap} {a0:Value}
theorem j4j (I:Inv X pins Z H1 s1) (hst:X.stack=X.env :: X.outer):X.env.frame=some X.env.locals:=by
 rcases I.ok.stk with z | z
 ·rw [hst] at z;have:=congrArg List.length z;simp at this
 ·exact z.2
theorem k8l (I:Inv X pins Z H1 s1) (hst:X.stack=X.env :: X.outer):frs X.stack=X.env.locals :: frs X.outer:=by rw [hst];unfold frs;rw [List.filterMap_cons,j4j I hst]
theorem w2x (I:Inv X pins Z H1 s1) (hst:X.stack=X.env :: X.outer) (hex:X.ex=[]) (os:s2.os=s1.os) (bare:AllBare s2.gens) (u:Un (frs X.stack) [] H1 H' s1.heap s2.heap) (hok:HOk X.prog X.w H' s2.heap)
  (cov:∀ b o,s2.heap.get? b=some o->(H' b≠none\/∃ o0,s1.heap.get? b=some o0)->b∉frs X.stack->B.get? b=some o) (nfr:∀ b∈frs X.stack,H' b=none/\∃ o,s2.heap.get? b=some o/\∀ vs,o.data≠.fields vs)
  (up:s2.heap.UpToSlots h') (fl:Heap.FlyingW B X.outer x (.ref C) a0 h'):Flies X.prog X.w X.outer X.H₀ X.s₀ H' C x { s2 with heap:=h'}:=by
 obtain ⟨u2,hok2⟩:=w8u u hok cov nfr fl.1 up;have hfs:=k8l I hst;have base:Un (frs X.outer) [] X.H₀ H1 X.s₀.heap s1.heap:=by have:=I.base;rw [hex] at this;exact this
 have nx:∀ b:Addr,b∉([]:List Addr):=fun b z=>by cases z
 have old:∀ b o,X.s₀.heap.get? b=some o->b≠X.env.locals:=fun b o e z=>by have h1:=Heap.lt_size e;have h2:=I.ok.above;rw [<- z] at h2;exact absurd (Nat.lt_of_lt_of_le h1 h2) (Nat.lt_irrefl _)
 have out:∀ b o,X.s₀.heap.get? b=some o->b∉frs X.outer->b∉frs X.stack:=fun b o e n z=>by
  rw [hfs] at z;rcases List.mem_cons.mp z with q | q
  ·exact old b o e q
  ·exact n q
 refine ⟨os.trans I.os,bare,⟨fun b o e n hf hx=>?_,fun b o e n hf hx=>?_,fun b o e n hx=>?_,fun b o e hx=>?_,fun b xs e=>?_,fun b o v e=>?_,fun b ps e=>?_⟩,hok2,B,a0,fl,fun b o e hc hf=>?_⟩
 ·exact u2.keep b o (base.keep b o e n hf hx) (base.free b o e n hx) (out b o e hf) hx
 ·obtain ⟨sl,e1⟩:=base.slot b o e n hf hx;obtain ⟨sl',e2⟩:=u2.slot b _ e1 (base.free b o e n hx) (by rw [hfs];exact List.mem_cons_of_mem _ hf) hx;exact ⟨sl',e2⟩
 ·obtain ⟨o1,e1⟩:=base.there b o e hx;exact u2.free b o1 e1 (base.free b o e n hx) hx
 ·obtain ⟨o1,e1⟩:=base.there b o e hx;exact u2.there b o1 e1 hx
 ·exact u2.tups b xs (base.tups b xs e)
 ·exact u2.frzs b o v (base.frzs b o v e)
 ·obtain ⟨m1,e1⟩:=base.tbls b ps e;obtain ⟨m2,e2⟩:=u2.tbls b _ e1;exact ⟨m1++m2,by rw [e2,Array.append_assoc]⟩
 ·have fin:∀ o2,s2.heap.get? b=some o2->(H' b≠none\/∃ o0,s1.heap.get? b=some o0)->b∉frs X.stack->B.get? b=some o:=fun o2 e2 hc' hf'=>by have q:=cov b o2 e2 hc' hf';have q2:=fl.1 b o2 q;have e':h'.get? b=some o:=e;rw [e'] at q2;cases q2;exact q
  rcases hc with hc | ⟨o0,e0⟩
  ·obtain ⟨ho,eh⟩:∃ ho,H' b=some ho:=by
    cases z:H' b with
    | none=>exact absurd z hc
    | some v=>exact ⟨v,rfl⟩
   obtain ⟨o2,e2⟩:=k8g hok eh;exact fin o2 e2 (.inl hc) fun z=>hc (nfr b z).1
  ·obtain ⟨o1,e1⟩:=base.there b o0 e0 (nx b);obtain ⟨o2,e2⟩:=u.there b o1 e1 (nx b);exact fin o2 e2 (.inr ⟨o1,e1⟩) (out b o0 e0 hf)
theorem Flies.nfr {P:Program} {w:World} {l:List Env} {H:Hp} {s:Shared} (F:Flies P w l H s H' C x s2) (hn:∀ b∈frs l,H b=none/\∃ o,s.heap.get? b=some o):∀ b∈frs l,H' b=none/\∃ o,s2.heap.get? b=some o/\∀ vs,o.data≠.fields vs:=fun b hb=>by obtain ⟨B,a0,fl,_⟩:=F.fly;obtain ⟨n,o,e⟩:=hn b hb;exact ⟨F.un.free b o e n (by simp),(fl.2.2.1.mem hb).2⟩
theorem Inv.frn (I:Inv X pins Z H1 s1):∀ b∈frs X.stack,H1 b=none/\∃ o,s1.heap.get? b=some o:=fun b hb=>by have e0:=I.env0;exact ⟨e0.frf b hb,let ⟨o,e,_⟩:=(e0.funs.mem hb).2;⟨o,e⟩⟩
theorem w8t (I:Inv X pins Z H1 s1) (hst:X.stack=X.env :: X.outer) (hex:X.ex=[]) (F:Flies X.prog X.w X.stack H1 s1 H' C x s2) {E:Value->Shared->Prop} :
  wpAny (model X.prog X.w) X.A (leaving X.env (.ref x)) (fun _ s''=>Flies X.prog X.w X.outer X.H₀ X.s₀ H' C x s'') E s2:=by
 have nf:=F.nfr I.frn;obtain ⟨B,a0,fl,cov⟩:=F.fly;rw [hst] at fl;refine wpAny_leaves_onW (by rw [I.ok.frames,hst]) (j4j I hst) fl fun h' fl' up=>?_;exact w2x I hst hex F.os F.bare F.un F.hok cov nf up fl'
end
section
variable {P:Program} {w:World} {K:PySem.W.Frag} {mg:Str->Option Value} {base:Heap} {N:List Str} {qual:Str} {scope:Scope} {f:Addr} {cd:Value} {A:Around} {outer:List Env} {s:Shared} {H:Hp} {E:XK}
theorem j0j:j2u (CX1 P w) (cxOf (CX1 P w) P w K mg base N qual scope f cd A outer s H E) E:=by intro pins Z H1 s1 e s2 I h;obtain ⟨C,x,H',rfl,F,hE⟩:=h;exact wpAny_mono (w8t I rfl rfl F) (fun _ s'' F'=>⟨C,x,H',rfl,F',hE⟩) fun _ _ z=>z
theorem own1:PassesOwn (model P w) (cxOf (CX1 P w) P w K mg base N qual scope f cd A outer s H E).A (cxOf (CX1 P w) P w K mg base N qual scope f cd A outer s H E).env (cxOf (CX1 P w) P w K mg base N qual scope f cd A outer s H E).xe:=PassesOwn.leaving
end
end L2
namespace L2
open PySem PySem.Spec PyProof.Rows SX
theorem w44 {K:PySem.W.Frag} {h:Heap} {C:Addr} {bmB:List Value} {newId:String} (Zy:K.In h) (y:PySem.W.excIn K C bmB newId=true) :
  ∃ bm N nm q bs hdct sn sub ab col dd k0 k1 k2 k3 k5 mN,h.get? C=some (excClassObj nm q C N bs bm hdct sn sub ab col dd k0 k1 k2 k3 k5 newId)/\h.Ns N mN/\mN "__init__"=none/\OwnTail h bmB bm:=by
 unfold PySem.W.excIn at y;split at y
 ·rename_i v1 v2 v3 look
  split at y
  ·rename_i D tl a0 a1 a2 a3 nid a5 em es
   simp only [Bool.and_eq_true,beq_iff_eq,Bool.not_eq_true'] at y;obtain ⟨⟨⟨⟨⟨y1,y2⟩,y3⟩,y4⟩,y5⟩,y6⟩:=y;subst y1;subst y2;obtain ⟨u1,u2,u3,u4,u5,u6,u7,u8,u9,u10,u11⟩:=v2;dsimp only at em y3 y5 y6;subst em;subst y3
   have e3:v3=#[a0,a1,a2,a3,some (.builtin nid),a5]:=by obtain ⟨li⟩:=v3;exact congrArg Array.mk es
   rw [e3] at look;exact ⟨tl,u4,u1,u5,u2,u6,u7,u8,u9,u10,v1,a0,a1,a2,a3,a5,_,Zy _ _ look,.of_isNs (PySem.W.isNs_of_in Zy y5),PySem.W.nsMap_none_of_in Zy y5 y6,PySem.W.tail_of_in Zy y4⟩
  ·cases y
 ·cases y
def w2b (C:Addr) (E:XK) (ta:TA):TS:=fun _ Z H=>ta Z H fun vs H1=>vs.length<=sizeLine/\∀ x:Addr,E (.ref C) (some x) H1
section
variable {P:Program} {w:World} {K:PySem.W.Frag} {mg:Str->Option Value} {base:Heap} {N:List Str} {qual:Str} {scope:Scope} {f:Addr} {cd:Value} {A:Around} {outer:List Env} {s:Shared} {H:Hp} {E:XK}
theorem j84 {x:Str} {np cpos pos:Pos} {e0:Expr} {es:List Expr} {ta:TA} {C:Addr} {bmB:List Value} {B newId initId:String} (hg:Gl (cxOf (CX1 P w) P w K mg base N qual scope f cd A outer s H E) x) (hm:mg x=some (.ref C)) (O:PySem.W.excIn K C bmB newId=true)
  (FB:ExcBaseFacts B newId initId bmB) (ha:PA (cxOf (CX1 P w) P w K mg base N qual scope f cd A outer s H E) (e0 :: es) ta) (hdb:(x == ("__debug__":Str))=false:=by decide)
  (he:starEach (e0 :: es) (cxOf (CX1 P w) P w K mg base N qual scope f cd A outer s H E).env=(false,eval e0 (cxOf (CX1 P w) P w K mg base N qual scope f cd A outer s H E).env) :: starEach es (cxOf (CX1 P w) P w K mg base N qual scope f cd A outer s H E).env:=by rfl)
  (hpl:(backTo cpos (starEach es (cxOf (CX1 P w) P w K mg base N qual scope f cd A outer s H E).env)).any (·.1)=false:=by rfl) :
  PS (cxOf (CX1 P w) P w K mg base N qual scope f cd A outer s H E) (.Raise (some (.Call (.Name x np) (e0 :: es) [] cpos)) none pos) (w2b C E ta):=by
 intro pins s1 Z H1 D I h;obtain ⟨bm,N',nm,q,bs,hdct,sn,sub,ab,col,dd,k0,k1,k2,k3,k5,mN,hC,hN,hni,T⟩:=w44 I.mod.kin O;have hA:=ha cpos pins s1 Z H1 _ I h
 refine wpAny_Raise_call_subT (prog:=P) (w:=w) (C:=C) (nm:=nm) (q:=q) (N:=N') (bs:=bs) (bm:=bm) (hdct:=hdct) (sn:=sn) (sub:=sub) (ab:=ab) (col:=col) (dd:=dd) (k0:=k0) (k1:=k1) (k2:=k2) (k3:=k3) (k5:=k5)
  FB (mN:=mN) (T.hasType FB.hasBase) (I.ok.hd rfl) (by rw [he];exact (Bool.false_or _).trans hpl) hni (j9k I hg hm ⟨rfl,?_⟩ hdb)
 rw [he] at hA ⊢;refine Calls.evalArgs_plain (wpAny_mono hA (fun us s2 q2=>?_) fun _ _ z=>z);obtain ⟨vs,H2,I2,r2,hl,hE⟩:=q2;refine ⟨rfl,by show us.length<=sizeLine;rw [<- r2.length];exact hl,I2.bk _ _ hC,hN.keeps I2.bk,T.keeps I2.bk,fun h' e made=>?_⟩;have hst:(cxOf (CX1 P w) P w K mg base N qual scope f cd A outer s H E).stack=(cxOf (CX1 P w) P w K mg base N qual scope f cd A outer s H E).env :: (cxOf (CX1 P w) P w K mg base N qual scope f cd A outer s H E).outer:=rfl;have fu:=I2.env0.funs
 refine wpAny_mono (wpAny_leaves_madeW (base:=PySem.W.hideAll s2.heap (frs (cxOf (CX1 P w) P w K mg base N qual scope f cd A outer s H E).stack)) (h:=s2.heap) I2.ok.frames (j4j I2 hst) (fun b o z=>PySem.W.of_hideAll _ z)
  (PySem.W.funFrames_hide fu fun env he b hb=>List.mem_filterMap.mpr ⟨env,he,hb⟩) made (Q:=fun _ s''=>CX1 P w outer H s E (.ref e) s'') fun h'' t fl _ _ up=>?_) (fun _ _ z=>z) fun _ _ z=>z
 refine ⟨C,e,H2,rfl,?_,hE e⟩;refine w2x (s2:=s2) I2 hst rfl rfl I2.bare Un.refl I2.hok (fun b o z _ nf=>PySem.W.hideAll_get _ z nf) (fun b hb=>?_) ((Heap.UpToSlots.of_keeps made.keeps).trans up) fl;exact ⟨(I2.frn b hb).1,(fu.mem hb).2⟩
end
end L2
namespace SX
open PySem PyProof.Rows
theorem k2v:typeLookup (.type "dict") "__len__"=pure (some (.builtin "dict.__len__")):=by rw [typeLookup_type,builtinLookup_eq_fast];kernel_rfl
section
variable {prog:Program} {w:World} {K:Type} [DecidableEq K] {knd:KeyKind prog w K} {A:Around} {E:Value->Shared->Prop} {s:Shared} {a:Addr} {ks:List Int} {kvs:List (K×Value)} {ep:Nat}
theorem k03 {Q:List Value->Shared->Prop} (hh:A.handled=none) (hsys:(a == sysModules)=false) (D:s.heap.DictAt knd a kvs ep) (hl:kvs.length<=sizeLine) (hks:kvs.length=ks.length)
    (hk:∀ (i:Nat) (k:K) (x:Value) (v:Value),kvs[i]?=some (k,x)->knd.is k v=true->∃ j u,ks[i]?=some j/\v=.int j u)
    (h:∀ h' tk vs,IntsAre vs ks->(∀ c o,s.heap.get? c=some o->h'.get? c=some o)->s.heap.objs.size<=h'.objs.size->Q vs { s with heap:=h',toks:=tk}):wpAny (model prog w) A (collect (.ref a)) Q E s:=by
  have alt:a < s.heap.objs.size:=D.lt_size
  obtain ⟨o0,es0,ho0,hex0,hd0,hr0⟩:=id D
  unfold collect
  refine wB (wpAny_runValue (codeAny_builtin F.entry_proto_collect ?_))
  rw [Around.under_plainId F.plain_proto_collect _]
  refine wB (m:=newList []) (wpAny_newObj_type (wP ⟨plainId_quiet F.plain_list_iadd _,codeAny_builtin F.entry_list_iadd ?_⟩))
  rw [Around.under_plainId F.plain_list_iadd _]
  have k1:∀ c o,s.heap.get? c=some o->(s.heap.push { cls:=.type "list",data:=.seq ([]:List Value).toArray}).get? c=some o:=fun c o q=>Heap.get?_push_of_some _ q
  have oL:(s.heap.push { cls:=.type "list",data:=.seq ([]:List Value).toArray}).get? s.heap.objs.size=some { cls:=.type "list",data:=.seq ([]:List Value).toArray}:=Heap.get?_push_size _ rfl
  have sz1:(s.heap.push { cls:=.type "list",data:=.seq ([]:List Value).toArray}).objs.size=s.heap.objs.size + 1:=Heap.size_push _ _
  generalize s.heap.push { cls:=.type "list",data:=.seq ([]:List Value).toArray}=h1 at k1 oL sz1 ⊢
  have D1:h1.DictAt knd a kvs ep:=D.at' fun o q=>k1 a o q
  show wpAny _ A.in1 (Builtin.List.listExtendWith (.ref s.heap.objs.size) (.ref a) (.ref s.heap.objs.size)) _ _ { s with heap:=h1}
  unfold Builtin.List.listExtendWith
  have hT:Shared.TypeIs { s with heap:=h1} (.ref a) "dict":=⟨_,k1 a _ ho0,hex0.1⟩
  refine wB (wpAny_typeOf hT ?_)
  have n1:Builtin.List.listSameRef (.ref s.heap.objs.size) (.ref a)=false:=by simp [Builtin.List.listSameRef,Nat.ne_of_gt alt]
  have n2:(Value.type "dict" == Value.type "list")=false:=by decide
  have n3:(Value.type "dict" == Value.type "tuple")=false:=by decide
  simp only [n1,n2,n3,Bool.or_false,Bool.false_eq_true,if_false]
  refine wB (wpAny_pyIter_dict (s:={ s with heap:=h1}) hsys D1 ?_)
  dsimp only
  have k2:∀ c o,h1.get? c=some o->(h1.push { cls:=.type "dict_keyiterator",data:=.fields #[.ref a,.int 0 0,.int kvs.length 0,.int ep 0]}).get? c=some o:=fun c o q=>Heap.get?_push_of_some _ q
  have i2:(h1.push { cls:=.type "dict_keyiterator",data:=.fields #[.ref a,.int 0 0,.int kvs.length 0,.int ep 0]}).get? h1.objs.size=some { cls:=.type "dict_keyiterator",data:=.fields #[.ref a,.int 0 0,.int kvs.length 0,.int ep 0]}:=Heap.get?_push_size _ rfl
  generalize h1.push { cls:=.type "dict_keyiterator",data:=.fields #[.ref a,.int 0 0,.int kvs.length 0,.int ep 0]}=h2 at k2 i2 ⊢
  have hT2:Shared.TypeIs { s with heap:=h2} (.ref a) "dict":=⟨_,k2 a _ (k1 a _ ho0),hex0.1⟩
  refine wB (wpAny_holding ?_)
  unfold Builtin.List.listLengthHint
  refine wB (wpAny_specialOf hT2 k2v ?_)
  generalize hid:("dict.__len__":String)=id0
  dsimp only
  rw [show splitId id0=some ("dict","__len__") from by subst hid;decide +kernel]
  subst hid
  dsimp only
  refine wB (wpAny_isInstance (b:=true) hT2 F.sub_dict_dict ?_)
  rw [if_neg (by simp)]
  rw [if_pos (by decide +kernel)]
  refine wB (wpAny_typeOf hT2 (wP ?_))
  have hh2:A.in1.handled=none:=by simp [hh]
  have ne:a≠h1.objs.size:=Nat.ne_of_lt (Nat.lt_trans alt (by rw [sz1];exact Nat.lt_succ_self _))
  have W:=(Walks.dictKeys (knd:=knd) (A:=A.in1) hh2 h1.objs.size a ne kvs ep).toS
  have nfp:s.heap.objs.size∉[h1.objs.size,a]:=by
    simp only [List.mem_cons,List.not_mem_nil,or_false,not_or]
    exact ⟨by rw [sz1];exact Nat.ne_of_lt (Nat.lt_succ_self _),Nat.ne_of_gt alt⟩
  have oL2:=k2 _ _ oL
  -- the loop,whatever was touched ahead of it
  have run:∀ (h4:Heap) (cap:Nat),h4.get? s.heap.objs.size=some { cls:=.type "list",data:=.seq ([]:List Value).toArray cap}->(∀ c o,c≠s.heap.objs.size->h2.get? c=some o->h4.get? c=some o) ->
      codeAny (model prog w) A (.builtin "list.extend.loop" ⟨[.ref s.heap.objs.size,.ref h1.objs.size,.ref s.heap.objs.size],[]⟩) (fun r s'=>match r with
        | .ok (.ret v)=>wpAny (model prog w) A (match v with
          | .ref a=>do
            let o <- load a
            match o.data with
              | .seq xs epoch=>pure xs.toList
              | x=>unsupported "internal:collect"
          | x=>unsupported "internal:collect") Q E s'
        | .ok _=>False
        | .error e=>E e s') { s with heap:=h4}:=by
    intro h4 cap oL4 k4
    have I4:h4.IsKeyIter h1.objs.size a 0 kvs.length ep/\h4.DictAt knd a kvs ep:=⟨⟨_,k4 _ _ (by rw [sz1];exact Nat.ne_of_gt (Nat.lt_succ_self _)) i2,rfl,rfl⟩,D1.at' fun o q=>k4 _ _ (Nat.ne_of_lt alt) (k2 _ _ q)⟩
    refine codeAny_extend_loopS W hl _ nfp _ kvs.length 0 _ _ _ rfl (Nat.zero_le _) I4 oL4 (ItemsOf.nil _) fun s5 acc c5 mv oL5 hacc=>?_
    show wpAny _ A (load s.heap.objs.size >>= _) _ _ s5
    refine wB (wpAny_load oL5 (wP ?_))
    obtain ⟨h5,g5,d5,tk5,os5⟩:=s5
    have eg:g5=s.gens:=mv.gens
    have ed:d5=s.drawn:=mv.drawn
    have eo:os5=s.os:=mv.os
    subst eg ed eo
    refine h h5 tk5 acc.toList (j4q ?_ fun i v hv=>?_) (fun c o q=>mv.heap c o (by
      simp only [List.mem_cons,List.not_mem_nil,or_false,not_or]
      exact ⟨Nat.ne_of_lt (Heap.lt_size q),Nat.ne_of_lt (Heap.lt_size (k1 c o q))⟩) (k4 c o (Nat.ne_of_lt (Heap.lt_size q)) (k2 c o (k1 c o q)))) (Nat.le_of_lt (Heap.lt_size oL5))
    · rw [Array.length_toList, hacc.1, hks]
    · obtain ⟨k, x, hx, his⟩ := hacc.2 i v (by rw [<- Array.getElem?_toList]; exact hv)
      exact hk i k x v hx his
  first
    | (rw [if_neg (by decide +kernel)];exact wP ⟨plainId_quiet F.plain_extend_loop _,run h2 0 oL2 fun _ _ _ q=>q⟩)
    | (rw [if_pos (by decide +kernel)]
       refine wB (wpAny_rule (wB ?_))
       show wpAny _ A.in1 (updateSeq s.heap.objs.size (·.push .none) >>= fun _=>updateSeq s.heap.objs.size (·.pop)) _ _ _
       refine wB (wpAny_updateSeq oL2 rfl ?_)
       have oL3:=Heap.get?_update_self (Obj.mapSeq (·.push Value.none)) oL2 rfl
       refine wpAny_updateSeq oL3 rfl ?_
       have oL4:=Heap.get?_update_self (Obj.mapSeq (·.pop)) oL3 rfl
       refine wP ⟨plainId_quiet F.plain_extend_loop _,run _ _ oL4 fun c o hc q=>(Heap.get?_update_other _ _ (Ne.symm hc)).trans ((Heap.get?_update_other _ _ (Ne.symm hc)).trans q)⟩)
end
end SX
namespace L2
open PySem PySem.Spec PyProof.Rows SX
theorem k78 {k:Int} {v:Value} (h:k2k (.inl k) v=true):∃ u,v=.int k u:=by
 rcases j1c h with ⟨i,t,e,rfl⟩ | ⟨x,t,e,_⟩
 ·cases e;exact ⟨t,rfl⟩
 ·cases e
theorem k77:∀ {kvs:List (Key×V)} {vs:List (Key×Value)} (_:KV kvs vs) (i:Nat) {k:Key} {x:Value},vs[i]?=some (k,x)->∃ y,kvs[i]?=some (k,y)
 | _,_,.nil,i,_,_,h=>by cases h
 | (k1,y1) :: _,_ :: _,.cons ⟨e,_⟩ _,0,k,x,h=>by
  cases h;have e':k1=k:=e;subst e';exact ⟨y1,rfl⟩
 | _ :: _,_ :: _,.cons _ t,i + 1,k,x,h=>by obtain ⟨y,q⟩:=k77 t i (by simpa using h);exact ⟨y,by simpa using q⟩
section
variable {X:Cx}
theorem k05 (hc:X.calm=true):j3l X (.builtin "sorted") (fun xs H Q=>∃ (a:Addr) (kvs:List (Key×V)) (ks:List Int),xs=[.ref a]/\H a=some (.dK kvs)/\kvs.map (·.1)=ks.map Sum.inl/\ks.length < 64/\∀ (p:Addr) (ns:List Int),H p=none->ns.Perm ks->ns.Pairwise (·<=·)->Q (.ref p) (upd H p (.lst (ns.map V.int)))):=by
 intro pins s Z H xs us Q I r h;obtain ⟨a,kvs,ks,rfl,ha,hks,h64,q⟩:=h;obtain ⟨u,rfl,rx⟩:=j56 r;cases rx;obtain ⟨hz,hsys,vs,kv,hd⟩:=I.hok a _ ha;obtain ⟨o,es,ep,ho,hex,hdat,hrest⟩:=hd;have D:s.heap.DictAt (j1k X.prog X.w) a vs ep:=⟨o,es,ho,hex,hdat,hrest⟩;have lkv:kvs.length=vs.length:=Paired.length kv;have lks:kvs.length=ks.length:=by have:=congrArg List.length hks;simpa using this
 refine j6p (fun Q' k=>k03 (by simp [I.ok.hd hc]) hsys D (by omega) (by omega) (fun i k0 x v hx his=>?_) fun h' tk vs' hi k1 sz=>k h' tk vs' ks hi (.refl _) k1 sz) h64 (j5f I h64 q);obtain ⟨y,hy⟩:=k77 kv i hx;have h1:(kvs.map (·.1))[i]?=some k0:=by rw [List.getElem?_map,hy];rfl
 rw [hks,List.getElem?_map] at h1
 cases e:ks[i]? with
 | none=>rw [e] at h1;cases h1
 | some j =>
  rw [e] at h1;cases h1;obtain ⟨u,hu⟩:=k78 his;exact ⟨j,u,rfl,hu⟩
end
end L2
namespace WL
open PySem L2
abbrev Wf (A τ PO:Type):=A->(τ->PO->Prop)->(Addr->PO->Prop)->Prop
abbrev Rg:=Addr->Prop
structure Ext (G R:Rg) (H:Hp) (R':Rg) (H':Hp):Prop where
 keep:∀ b o,¬ G b->H b=some o->H' b=some o
 new:∀ a,R' a->R a\/H a=none
theorem Ext.wide {G R R':Rg} {H H':Hp} (e:Ext G R H R' H') (s:∀ a,G a->R a):Ext R R H R' H':=⟨fun b o n h=>e.keep b o (fun g=>n (s b g)) h,e.new⟩
theorem Ext.not {G R R':Rg} {H H':Hp} (e:Ext G R H R' H') {a:Addr} {o:HO} (n:¬R a) (h:H a=some o):¬R' a:=fun z=>by
 rcases e.new a z with q | q
 ·exact n q
 ·rw [h] at q;cases q
class Rep (Y:Type) where
 rp:Rg->Hp->Y->V->Prop
 st:∀ {R:Rg} {H:Hp} {R':Rg} {H':Hp} {x:Y} {v:V},rp R H x v->Ext R R H R' H'->rp R' H' x v
open Rep (rp)
instance:Rep Int:=⟨fun _ _ i v=>v=.int i,fun h _=>h⟩
instance:Rep Bool:=⟨fun _ _ i v=>v=.bl i,fun h _=>h⟩
instance:Rep Unit:=⟨fun _ _ _ v=>v=.non,fun h _=>h⟩
instance {Y:Type} [Rep Y]:Rep (Option Y):=⟨fun R H x v=>match x with | none=>v=.non | some y=>v≠.non/\rp R H y v,fun {R H R' H' x v} h e=>by
 cases x with
 | none=>exact h
 | some y=>exact ⟨h.1,Rep.st h.2 e⟩⟩
theorem j05 {Y:Type} [Rep Y] {R R':Rg} {H H':Hp} (e:Ext R R H R' H'):∀ {xs:List Y} {vs:List V},Paired (rp R H) xs vs->Paired (rp R' H') xs vs
 | _,_,.nil=>.nil
 | _,_,.cons h t=>.cons (Rep.st h e) (j05 e t)
instance {Y:Type} [Rep Y]:Rep (List Y):=⟨fun R H xs v=>∃ a vs,v=.ref a/\¬R a/\H a=some (.lst vs)/\Paired (rp R H) xs vs,fun {R H R' H' x v} h e=>by
 obtain ⟨a,vs,h1,h2,h3,h4⟩:=h
 exact ⟨a,vs,h1,e.not h2 h3,e.keep a _ h2 h3,j05 e h4⟩⟩
instance {Y β:Type} [Rep Y] [Rep β]:Rep (Y×β):=⟨fun R H x v=>∃ a u w,v=.ref a/\¬R a/\H a=some (.tup [u,w])/\rp R H x.1 u/\rp R H x.2 w,fun {R H R' H' x v} h e=>by
 obtain ⟨a,u,w,h1,h2,h3,h4,h5⟩:=h
 exact ⟨a,u,w,h1,e.not h2 h3,e.keep a _ h2 h3,Rep.st h4 e,Rep.st h5 e⟩⟩
structure Tp (Y:Type) where
 l:List Y
instance {Y:Type} [Rep Y]:Rep (Tp Y):=⟨fun R H xs v=>∃ a vs,v=.ref a/\¬R a/\H a=some (.tup vs)/\Paired (rp R H) xs.l vs,fun {R H R' H' x v} h e=>by
 obtain ⟨a,vs,h1,h2,h3,h4⟩:=h
 exact ⟨a,vs,h1,e.not h2 h3,e.keep a _ h2 h3,j05 e h4⟩⟩
class Ow (τ:Type) where
 sl:Rg->Rg->Hp->τ->Option V->Prop
 st:∀ {F G R:Rg} {H:Hp} {R':Rg} {H':Hp} {x:τ} {v:Option V},sl F R H x v->Ext G R H R' H'->(∀ a,G a->R a)->(∀ a,F a->¬G a)->sl F R' H' x v
 fq:∀ {F F' R:Rg} {H:Hp} {x:τ} {v:Option V},sl F R H x v->(∀ a,F a↔F' a)->sl F' R H x v
open Ow (sl)
structure Un where
instance:Ow Un:=⟨fun F _ _ _ _=>∀ a,¬F a,fun h _ _ _=>h,fun h e a z=>h a ((e a).mpr z)⟩
instance repOw {Y:Type} [Rep Y]:Ow Y:=⟨fun F R H x v=>(∀ a,¬F a)/\∃ u,v=some u/\rp R H x u,fun h e s _=>⟨h.1,let ⟨u,h1,h2⟩:=h.2;⟨u,h1,Rep.st h2 (e.wide s)⟩⟩,fun h e=>⟨fun a z=>h.1 a ((e a).mpr z),h.2⟩⟩
structure OL (Y:Type) where
 l:List Y
instance {Y:Type} [Rep Y]:Ow (OL Y):=⟨fun F R H x v=>∃ a vs,v=some (.ref a)/\(∀ b,F b↔b=a)/\H a=some (.lst vs)/\Paired (rp R H) x.l vs,
 fun h e s n=>by
  obtain ⟨a,vs,h1,h2,h3,h4⟩:=h
  exact ⟨a,vs,h1,h2,e.keep a _ (n a ((h2 a).mpr rfl)) h3,j05 (e.wide s) h4⟩,
 fun h e=>by
  obtain ⟨a,vs,h1,h2,h3,h4⟩:=h
  exact ⟨a,vs,h1,fun b=>(e b).symm.trans (h2 b),h3,h4⟩⟩
class Sls (D:Type) where
 rel:Rg->Rg->Hp->D->St->Prop
 st:∀ {F G R:Rg} {H:Hp} {R':Rg} {H':Hp} {d:D} {Z:St},rel F R H d Z->Ext G R H R' H'->(∀ a,G a->R a)->(∀ a,F a->¬G a)->rel F R' H' d Z
 fq:∀ {F F' R:Rg} {H:Hp} {d:D} {Z:St},rel F R H d Z->(∀ a,F a↔F' a)->rel F' R H d Z
open Sls (rel)
instance:Sls Unit:=⟨fun F _ _ _ Z=>Z=[]/\∀ a,¬F a,fun h _ _ _=>h,fun h e=>⟨h.1,fun a z=>h.2 a ((e a).mpr z)⟩⟩
structure Two (F F1 F2:Rg):Prop where
 all:∀ a,F a↔F1 a\/F2 a
 dis:∀ a,F1 a->F2 a->False
instance {τ D:Type} [Ow τ] [Sls D]:Sls (τ×D):=⟨fun F R H d Z=>∃ v Z' F1 F2,Z=v :: Z'/\Two F F1 F2/\sl F1 R H d.1 v/\rel F2 R H d.2 Z',
 fun h e s n=>by
  obtain ⟨v,Z',F1,F2,h1,h2,h3,h4⟩:=h
  exact ⟨v,Z',F1,F2,h1,h2,Ow.st h3 e s (fun a z=>n a ((h2.all a).mpr (.inl z))),Sls.st h4 e s (fun a z=>n a ((h2.all a).mpr (.inr z)))⟩,
 fun h e=>by
  obtain ⟨v,Z',F1,F2,h1,h2,h3,h4⟩:=h
  exact ⟨v,Z',F1,F2,h1,⟨fun a=>(e a).symm.trans (h2.all a),h2.dis⟩,h3,h4⟩⟩
class At (i:Nat) (B:Type) [Sls B] (τ:outParam Type) [Ow τ] (B':outParam Type) [Sls B'] where
 get:B->τ
 hole:B->B'
 take:∀ {F R:Rg} {H:Hp} {b:B} {Z:St},rel F R H b Z->∃ v F1 F2,Z[i]?=some v/\Two F F1 F2/\sl F1 R H (get b) v/\rel F2 R H (hole b) Z
class Pt (i:Nat) (B':Type) [Sls B'] (τ:Type) [Ow τ] (B:outParam Type) [Sls B] where
 put:B'->τ->B
 back:∀ {F F1 F2 R:Rg} {H:Hp} {b:B'} {x:τ} {v:Option V} {Z:St},rel F2 R H b Z->Two F F1 F2->sl F1 R H x v->rel F R H (put b x) (Z.set i v)
theorem j8r {Y:Type}:∀ {l:List Y} {i:Nat} {v:Y},l[i]?=some v->l.set i v=l
 | [],_,_,h=>by simp at h
 | _ :: _,0,_,h=>by simp at h;subst h;rfl
 | a :: r,i + 1,v,h=>by show a :: r.set i v=a :: r;rw [j8r (by simpa using h)]
theorem Pt.same {i:Nat} {B' τ B:Type} [Sls B'] [Ow τ] [Sls B] [A:Pt i B' τ B] {F F1 F2 R:Rg} {H:Hp} {b:B'} {x:τ} {v:Option V} {Z:St} (h:rel F2 R H b Z) (e:Z[i]?=some v) (t:Two F F1 F2) (s:sl F1 R H x v):rel F R H (A.put b x) Z:=by have:=A.back h t s;rw [j8r e] at this;exact this
instance at0 {τ D:Type} [Ow τ] [Sls D]:At 0 (τ×D) τ (Un×D) where
 get b:=b.1
 hole b:=(⟨⟩,b.2)
 take:=fun h=>by obtain ⟨v,Z',F1,F2,h1,h2,h3,h4⟩:=h;exact ⟨v,F1,F2,by rw [h1];rfl,h2,h3,v,Z',fun _=>False,F2,h1,⟨fun a=>⟨.inr,fun z=>z.elim (fun q=>q.elim) id⟩,fun _ z _=>z⟩,fun _ z=>z,h4⟩
instance pt0 {τ D:Type} [Ow τ] [Sls D]:Pt 0 (Un×D) τ (τ×D) where
 put b x:=(x,b.2)
 back:=fun {F F1 F2 R H b x v Z} h t s=>by obtain ⟨v',Z',G1,G2,h1,h2,h3,h4⟩:=h;have e2:∀ a,G2 a↔F2 a:=fun a=>⟨fun z=>(h2.all a).mpr (.inr z),fun z=>((h2.all a).mp z).elim (fun q=>absurd q (h3 a)) id⟩;exact ⟨_,Z',F1,F2,by rw [h1];rfl,t,s,Sls.fq h4 e2⟩
instance atS {i:Nat} {ρ τ D D':Type} [Ow ρ] [Ow τ] [Sls D] [Sls D'] [A:At i D τ D']:At (i + 1) (ρ×D) τ (ρ×D') where
 get b:=A.get b.2
 hole b:=(b.1,A.hole b.2)
 take:=fun h=>by
  obtain ⟨v,Z',F1,F2,h1,h2,h3,h4⟩:=h;obtain ⟨u,G1,G2,k1,k2,k3,k4⟩:=A.take h4;refine ⟨u,G1,fun a=>F1 a\/G2 a,by rw [h1];simpa using k1,⟨fun a=>?_,fun a z q=>?_⟩,k3,v,Z',F1,G2,h1,⟨fun a=>Iff.rfl,fun a z q=>h2.dis a z ((k2.all a).mpr (.inr q))⟩,h3,k4⟩
  ·rw [h2.all,k2.all];exact ⟨fun z=>z.elim (fun q=>.inr (.inl q)) fun z=>z.elim .inl fun q=>.inr (.inr q),fun z=>z.elim (fun q=>.inr (.inl q)) fun z=>z.elim .inl fun q=>.inr (.inr q)⟩
  ·rcases q with q | q
   ·exact h2.dis a q ((k2.all a).mpr (.inl z))
   ·exact k2.dis a z q
instance ptS {i:Nat} {ρ τ D D':Type} [Ow ρ] [Ow τ] [Sls D] [Sls D'] [A:Pt i D' τ D]:Pt (i + 1) (ρ×D') τ (ρ×D) where
 put b x:=(b.1,A.put b.2 x)
 back:=fun {F F1 F2 R H b x v Z} h t s=>by
  obtain ⟨v',Z',G1,G2,h1,h2,h3,h4⟩:=h;have t':Two (fun a=>F1 a\/G2 a) F1 G2:=⟨fun a=>Iff.rfl,fun a z q=>t.dis a z ((h2.all a).mpr (.inr q))⟩;refine ⟨v',Z'.set i v,G1,fun a=>F1 a\/G2 a,by rw [h1];rfl,⟨fun a=>?_,fun a z q=>?_⟩,h3,A.back h4 t' s⟩
  ·rw [t.all,h2.all];exact ⟨fun z=>z.elim (fun q=>.inr (.inl q)) fun z=>z.elim .inl fun q=>.inr (.inr q),fun z=>z.elim (fun q=>.inr (.inl q)) fun z=>z.elim .inl fun q=>.inr (.inr q)⟩
  ·rcases q with q | q
   ·exact t.dis a q ((h2.all a).mpr (.inl z))
   ·exact h2.dis a z q
class Fg (D:Type) [Sls D] (D':Type) [Sls D'] where
 fg:D->D'
 le:∀ {F R:Rg} {H:Hp} {d:D} {Z:St},rel F R H d Z->∃ F',(∀ a,F' a->F a)/\rel F' R H (fg d) Z
instance fgId {D:Type} [Sls D]:Fg D D:=⟨id,fun h=>⟨_,fun _ z=>z,h⟩⟩
theorem w2a {F F1 F2 G1 G2:Rg} (t:Two F F1 F2) (h1:∀ a,G1 a->F1 a) (h2:∀ a,G2 a->F2 a):Two (fun a=>G1 a\/G2 a) G1 G2:=⟨fun _=>Iff.rfl,fun a x y=>t.dis a (h1 a x) (h2 a y)⟩
instance (priority:=low) fgUn {τ D D':Type} [Ow τ] [Sls D] [Sls D'] [A:Fg D D']:Fg (τ×D) (Un×D'):=⟨fun d=>(⟨⟩,A.fg d.2),fun h=>by
 obtain ⟨v,Z',F1,F2,h1,h2,h3,h4⟩:=h;obtain ⟨F',k1,k2⟩:=A.le h4
 exact ⟨_,fun a z=>(h2.all a).mpr (.inr (k1 a (z.elim (fun q=>q.elim) id))),v,Z',fun _=>False,F',h1,⟨fun a=>Iff.rfl,fun _ z _=>z⟩,fun _ z=>z,k2⟩⟩
instance fgCons {τ D D':Type} [Ow τ] [Sls D] [Sls D'] [A:Fg D D']:Fg (τ×D) (τ×D'):=⟨fun d=>(d.1,A.fg d.2),fun h=>by
 obtain ⟨v,Z',F1,F2,h1,h2,h3,h4⟩:=h;obtain ⟨F',k1,k2⟩:=A.le h4
 exact ⟨_,fun a z=>(h2.all a).mpr (z.elim .inl fun q=>.inr (k1 a q)),v,Z',F1,F',h1,w2a h2 (fun _ z=>z) k1,h3,k2⟩⟩
class Pj (D:Type) [Sls D] (P:Type) [Sls P] (n:outParam Nat) where
 pj:D->P
 le:∀ {F R:Rg} {H:Hp} {d:D} {Z:St},rel F R H d Z->∃ F',(∀ a,F' a->F a)/\rel F' R H (pj d) (Z.take n)
instance pjNil {D:Type} [Sls D]:Pj D Unit 0:=⟨fun _=>(),fun h=>⟨fun _=>False,fun _ z=>z.elim,rfl,fun _ z=>z⟩⟩
instance (priority:=low) pjUn {τ D P:Type} {n:Nat} [Ow τ] [Sls D] [Sls P] [A:Pj D P n]:Pj (τ×D) (Un×P) (n + 1):=⟨fun d=>(⟨⟩,A.pj d.2),fun h=>by
 obtain ⟨v,Z',F1,F2,h1,h2,h3,h4⟩:=h;obtain ⟨F',k1,k2⟩:=A.le h4
 exact ⟨_,fun a z=>(h2.all a).mpr (.inr (k1 a (z.elim (fun q=>q.elim) id))),v,Z'.take n,fun _=>False,F',by rw [h1];rfl,⟨fun a=>Iff.rfl,fun _ z _=>z⟩,fun _ z=>z,k2⟩⟩
instance pjCons {τ D P:Type} {n:Nat} [Ow τ] [Sls D] [Sls P] [A:Pj D P n]:Pj (τ×D) (τ×P) (n + 1):=⟨fun d=>(d.1,A.pj d.2),fun h=>by
 obtain ⟨v,Z',F1,F2,h1,h2,h3,h4⟩:=h;obtain ⟨F',k1,k2⟩:=A.le h4
 exact ⟨_,fun a z=>(h2.all a).mpr (z.elim .inl fun q=>.inr (k1 a q)),v,Z'.take n,F1,F',by rw [h1];rfl,w2a h2 (fun _ z=>z) k1,h3,k2⟩⟩
class Sel (is:List Nat) (D:Type) [Sls D] (S:outParam Type) [Sls S] (D0:outParam Type) [Sls D0] where
 sel:D->S
 rest:D->D0
 mrg:D0->S->D
 cut:∀ {F R:Rg} {H:Hp} {d:D} {Z:St},rel F R H d Z->∃ F1 F2,Two F F1 F2/\rel F1 R H (sel d) (is.map fun i=>Z[i]?.join)/\rel F2 R H (rest d) Z/\∀ i∈is,i < Z.length
 join:∀ {F F1 F2 R:Rg} {H:Hp} {d:D0} {s:S} {Z:St},Two F F1 F2->rel F1 R H s (is.map fun i=>Z[i]?.join)->rel F2 R H d Z->(∀ i∈is,i < Z.length)->rel F R H (mrg d s) Z
instance selNil {D:Type} [Sls D]:Sel [] D Unit D where
 sel _:=()
 rest d:=d
 mrg d _:=d
 cut:=fun {F R H d Z} h=>⟨fun _=>False,F,⟨fun a=>⟨.inr,fun z=>z.elim (fun q=>q.elim) id⟩,fun _ z _=>z⟩,⟨rfl,fun _ z=>z⟩,h,fun _ z=>by cases z⟩
 join:=fun {F F1 F2 R H d s Z} t h1 h2 _=>Sls.fq h2 fun a=>⟨fun z=>(t.all a).mpr (.inr z),fun z=>((t.all a).mp z).elim (fun q=>absurd q (h1.2 a)) id⟩
instance selCons {i:Nat} {is:List Nat} {D τ D1 S D0:Type} [Sls D] [Ow τ] [Sls D1] [Sls S] [Sls D0] [A:At i D τ D1] [P:Pt i D1 τ D] [B:Sel is D1 S D0]:Sel (i :: is) D (τ×S) D0 where
 sel d:=(A.get d,B.sel (A.hole d))
 rest d:=B.rest (A.hole d)
 mrg d s:=P.put (B.mrg d s.2) s.1
 cut:=fun {F R H d Z} h=>by
  obtain ⟨v,F1,F2,h1,h2,h3,h4⟩:=A.take h;obtain ⟨G1,G2,k1,k2,k3,k4⟩:=B.cut h4;have hv:Z[i]?.join=v:=by rw [h1];rfl
  refine ⟨fun a=>F1 a\/G1 a,G2,⟨fun a=>?_,fun a z q=>?_⟩,⟨v,_,F1,G1,by rw [List.map_cons,hv],⟨fun _=>Iff.rfl,fun a z q=>h2.dis a z ((k1.all a).mpr (.inl q))⟩,h3,k2⟩,k3,fun j hj=>?_⟩
  ·rw [h2.all,k1.all];exact ⟨fun z=>z.elim (fun q=>.inl (.inl q)) fun z=>z.elim (fun q=>.inl (.inr q)) .inr,fun z=>z.elim (fun z=>z.elim .inl fun q=>.inr (.inl q)) fun q=>.inr (.inr q)⟩
  ·rcases z with z | z
   ·exact h2.dis a z ((k1.all a).mpr (.inr q))
   ·exact k1.dis a z q
  ·rcases List.mem_cons.mp hj with e | e
   ·rw [e];exact (List.getElem?_eq_some_iff.mp h1).1
   ·exact k4 j e
 join:=fun {F F1 F2 R H d s Z} t h1 h2 hl=>by
  obtain ⟨v,Z',G1,G2,k1,k2,k3,k4⟩:=h1;rw [List.map_cons] at k1;injection k1 with e1 e2;subst e2;have hi:i < Z.length:=hl i List.mem_cons_self
  have ev:Z[i]?=some v:=by rw [List.getElem?_eq_getElem hi] at e1 ⊢;exact congrArg some e1
  have t2:Two (fun a=>G2 a\/F2 a) G2 F2:=⟨fun _=>Iff.rfl,fun a z q=>t.dis a ((k2.all a).mpr (.inr z)) q⟩;refine Pt.same (B.join t2 k4 h2 fun j hj=>hl j (List.mem_cons_of_mem _ hj)) ev ⟨fun a=>?_,fun a z q=>?_⟩ k3
  ·rw [t.all,k2.all];exact ⟨fun z=>z.elim (fun z=>z.elim .inl fun q=>.inr (.inl q)) fun q=>.inr (.inr q),fun z=>z.elim (fun q=>.inl (.inl q)) fun z=>z.elim (fun q=>.inl (.inr q)) .inr⟩
  ·rcases q with q | q
   ·exact k2.dis a z q
   ·exact t.dis a ((k2.all a).mpr (.inl z)) q
structure Stt (T:Addr) {D:Type} [Sls D] (F R:Rg) (H:Hp) (d:D) (Z:St):Prop where
 rel:rel F R H d Z
 sub:∀ a,F a->R a
 liv:∀ a,R a->H a≠none
 tab:j9z H T
 tabR:R T
 tabF:¬F T
theorem j31 {H:Hp} {T:Addr} (t:j9z H T):H T≠none:=by obtain ⟨ps,e,_⟩:=t;rw [e];simp
structure Ch (T:Addr) (F R:Rg) (H:Hp) (F' R':Rg) (H':Hp):Prop where
 keep:∀ b o,¬F b->b≠T->H b=some o->H' b=some o
 newR:∀ a,R' a->R a\/H a=none
 newF:∀ a,F' a->F a\/H a=none
 left:∀ a,R a->¬F a->R' a
theorem Ch.refl (T:Addr) (F R:Rg) (H:Hp):Ch T F R H F R H:=⟨fun _ _ _ _ h=>h,fun _ h=>.inl h,fun _ h=>.inl h,fun _ h _=>h⟩
theorem Ch.trans {T:Addr} {D:Type} [Sls D] {d:D} {Z:St} {F R F1 R1 F2 R2:Rg} {H H1 H2:Hp} (s:Stt T F R H d Z) (t1:j9z H1 T) (a:Ch T F R H F1 R1 H1) (b:Ch T F1 R1 H1 F2 R2 H2):Ch T F R H F2 R2 H2:=by
 have nF1:∀ c,¬F c->H c≠none->¬F1 c:=fun c n h z=>by
  rcases a.newF c z with q | q
  ·exact n q
  ·exact h q
 have back:∀ c,H1 c=none->¬ (F c)->H c=none:=fun c h n=>by
  cases e:H c with
  | none=>rfl
  | some o =>
   have nt:c≠T:=fun z=>by rw [z] at h;exact j31 t1 h
   rw [a.keep c o n nt e] at h;cases h
 refine ⟨fun c o n t h=>b.keep c o (nF1 c n (by rw [h];simp)) t (a.keep c o n t h),fun c h=>?_,fun c h=>?_,fun c h n=>b.left c (a.left c h n) (nF1 c n (s.liv c h))⟩
 ·rcases b.newR c h with q | q
  ·exact a.newR c q
  ·by_cases hf:F c
   ·exact .inl (s.sub c hf)
   ·exact .inr (back c q hf)
 ·rcases b.newF c h with q | q
  ·exact a.newF c q
  ·by_cases hf:F c
   ·exact .inl hf
   ·exact .inr (back c q hf)
theorem Ch.ext {T:Addr} {F R F' R':Rg} {H H':Hp} (c:Ch T F R H F' R' H'):Ext (fun a=>F a\/a=T) R H R' H':=⟨fun b o n h=>c.keep b o (fun z=>n (.inl z)) (fun z=>n (.inr z)) h,c.newR⟩
theorem Stt.val {T:Addr} {D:Type} [Sls D] {d:D} {Z:St} {F R F' R':Rg} {H H':Hp} (s:Stt T F R H d Z) (c:Ch T F R H F' R' H') {Y:Type} [Rep Y] {x:Y} {v:V} (h:rp R H x v):rp R' H' x v :=
 Rep.st h (c.ext.wide fun a z=>z.elim (s.sub a) fun q=>by rw [q];exact s.tabR)
theorem Stt.new {T:Addr} {D:Type} [Sls D] {d:D} {Z:St} {F R:Rg} {H:Hp} (s:Stt T F R H d Z) {p:Addr} (o:HO) (hp:H p=none):Stt T F R (upd H p o) d Z/\Ch T F R H F R (upd H p o)/\¬R p:=by
 have nR:¬R p:=fun z=>s.liv p z hp;have k:∀ b u,H b=some u->upd H p o b=some u:=fun b u e=>by rw [j0g (j0m e hp)];exact e
 refine ⟨⟨Sls.st s.rel (G:=fun _=>False) ⟨fun b u _ e=>k b u e,fun a h=>.inl h⟩ (fun _ z=>z.elim) (fun _ _ z=>z),s.sub,fun a z=>?_,?_,s.tabR,s.tabF⟩,⟨fun b u _ _ e=>k b u e,fun a h=>.inl h,fun a h=>.inl h,fun a h _=>h⟩,nR⟩
 ·cases e:H a with
  | none=>exact absurd e (s.liv a z)
  | some u=>rw [k a u e];simp
 ·obtain ⟨ps,e,t⟩:=s.tab;exact ⟨ps,k _ _ e,t⟩
def EW (X:Cx) (E:XK) (T:Addr) (e:Expr) {D Y:Type} [Sls D] [Rep Y] (w:Wf D Y D):Prop :=
 ∃ t,PE X e t/\∀ (d:D) (F R:Rg) (Z:St) (H:Hp) (Kn:Y->D->Prop) (Ke:Addr->D->Prop) (Q:VK),Stt T F R H d Z->w d Kn Ke ->
  (∀ x d' v F' R' H',Kn x d'->Ch T F R H F' R' H'->Stt T F' R' H' d' Z->rp R' H' x v->Q v H') ->
  (∀ C y d' F' R' H',Ke C d'->Ch T F R H F' R' H'->Stt T F' R' H' d' Z->E (.ref C) (some y) H')->t Z H Q
structure Nw (T:Addr) {τ:Type} [Ow τ] (F1 F2 R:Rg) (H:Hp) (x:τ) (v:V):Prop where
 is:sl F1 R H x (some v)
 sub:∀ a,F1 a->R a
 dis:∀ a,F1 a->F2 a->False
 tab:¬F1 T
def EO (X:Cx) (E:XK) (T:Addr) (e:Expr) {D τ:Type} [Sls D] [Ow τ] (w:Wf D τ D):Prop :=
 ∃ t,PE X e t/\∀ (d:D) (F R:Rg) (Z:St) (H:Hp) (Kn:τ->D->Prop) (Ke:Addr->D->Prop) (Q:VK),Stt T F R H d Z->w d Kn Ke ->
  (∀ x d' v F1 F2 R' H',Kn x d'->Ch T F R H (fun a=>F1 a\/F2 a) R' H'->Stt T F2 R' H' d' Z->Nw T F1 F2 R' H' x v->Q v H') ->
  (∀ C y d' F' R' H',Ke C d'->Ch T F R H F' R' H'->Stt T F' R' H' d' Z->E (.ref C) (some y) H')->t Z H Q
def TW (X:Cx) (E:XK) (T:Addr) (e:Expr) {D:Type} [Sls D] (w:Wf D Bool D):Prop :=
 ∃ t,PT X e t/\∀ (d:D) (F R:Rg) (Z:St) (H:Hp) (Kn:Bool->D->Prop) (Ke:Addr->D->Prop) (Q:Bool->Hp->Prop),Stt T F R H d Z->w d Kn Ke ->
  (∀ x d' F' R' H',Kn x d'->Ch T F R H F' R' H'->Stt T F' R' H' d' Z->Q x H') ->
  (∀ C y d' F' R' H',Ke C d'->Ch T F R H F' R' H'->Stt T F' R' H' d' Z->E (.ref C) (some y) H')->t Z H Q
section
variable {X:Cx} {E:XK} {T:Addr} {D:Type} [Sls D] {pos:Pos}
theorem w8d {F R F1 F2 R':Rg} {H H':Hp} {d d':D} {Z:St} {Y:Type} [Rep Y] {x:OL Y} {v:V} (s:Stt T F R H d Z) (c:Ch T F R H (fun a=>F1 a\/F2 a) R' H') (s':Stt T F2 R' H' d' Z) (n:Nw T F1 F2 R' H' x v) :
  ∃ R'',Ch T F R H F2 R'' H'/\Stt T F2 R'' H' d' Z/\rp R'' H' x.l v:=by
 have ex:Ext (fun _=>False) R' H' (fun a=>R' a/\¬F1 a) H':=⟨fun _ _ _ h=>h,fun a h=>.inl h.1⟩;refine ⟨fun a=>R' a/\¬F1 a,⟨c.keep,fun a h=>c.newR a h.1,fun a h=>c.newF a (.inr h),fun a h k=>⟨c.left a h k,fun z=>?_⟩⟩,⟨Sls.st s'.rel ex (fun _ z=>z.elim) (fun _ _ z=>z),fun a h=>⟨s'.sub a h,fun z=>n.dis a z h⟩,fun a h=>s'.liv a h.1,s'.tab,⟨s'.tabR,n.tab⟩,s'.tabF⟩,?_⟩
 ·rcases c.newF a (.inl z) with q | q
  ·exact k q
  ·exact s.liv a h q
 ·obtain ⟨a,vs,h1,h2,h3,h4⟩:=n.is;cases h1;exact ⟨a,vs,rfl,fun z=>z.2 ((h2 a).mpr rfl),h3,j05 (ex.wide fun _ z=>z.elim) h4⟩
theorem ew_o {e:Expr} {Y:Type} [Rep Y] {w:Wf D (OL Y) D} (h:EO X E T e w):EW X E T e (fun d Kn Ke=>w d (fun x d'=>Kn x.l d') Ke):=by obtain ⟨t,h1,h2⟩:=h;refine ⟨t,h1,fun d F R Z H Kn Ke Q s hw kn ke=>h2 d F R Z H _ Ke Q s hw (fun x d' v F1 F2 R' H' q c s' n=>?_) ke⟩;obtain ⟨R'',c2,s2,r⟩:=w8d s c s' n;exact kn x.l d' v F2 R'' H' q c2 s2 r
theorem j3i {F R:Rg} {H:Hp} {d:D} {Z:St} {Y:Type} [Rep Y] {xs:List Y} {vs:List V} {p:Addr} (s:Stt T F R H d Z) (hp:H p=none) (h:Paired (rp R H) xs vs) :
  ∃ R',Ch T F R H (fun a=>a=p\/F a) R' (upd H p (.lst vs))/\Stt T F R' (upd H p (.lst vs)) d Z/\Nw T (fun a=>a=p) F R' (upd H p (.lst vs)) (OL.mk xs) (.ref p):=by
 obtain ⟨s1,c1,n1⟩:=s.new (.lst vs) hp;have nF:¬F p:=fun z=>n1 (s.sub p z);have ex:Ext (fun _=>False) R H (fun a=>R a\/a=p) (upd H p (.lst vs)):=⟨fun b o _ h=>by rw [j0g (j0m h hp)];exact h,fun a h=>h.elim .inl fun q=>.inr (by rw [q];exact hp)⟩;refine ⟨fun a=>R a\/a=p,⟨c1.keep,ex.new,fun a h=>h.elim (fun q=>.inr (by rw [q];exact hp)) .inl,fun a h _=>.inl h⟩,⟨Sls.st s.rel ex (fun _ z=>z.elim) (fun _ _ z=>z),fun a h=>.inl (s.sub a h),fun a h=>?_,s1.tab,.inl s.tabR,s.tabF⟩,⟨⟨p,vs,rfl,fun b=>Iff.rfl,j0h,j05 (ex.wide fun _ z=>z.elim) h⟩,fun a h=>.inr h,fun a h k=>nF (by rw [<- h];exact k),fun h=>n1 (by rw [<- h];exact s.tabR)⟩⟩;rcases h with h | h
 ·exact s1.liv a h
 ·rw [h,j0h];simp
theorem j0a {x:Str} {Y D':Type} [Rep Y] [Sls D'] (i:Nat) [A:At i D Y D'] (he:PE X (.Name x pos) (fun Z H Q=>∃ v,Z[i]?=some (some v)/\Q v H)):EW X E T (.Name x pos) (fun (d:D) (Kn:Y->D->Prop) _=>Kn (A.get d) d):=by refine ⟨_,he,fun d F R Z H Kn Ke Q s hw kn _=>?_⟩;obtain ⟨v,F1,F2,h1,h2,⟨_,u,rfl,h4⟩,_⟩:=A.take s.rel;exact ⟨u,h1,kn _ d u F R H hw (Ch.refl _ _ _ _) s h4⟩
theorem j0f {n:Int} {k:Nat}:EW X E T (.Constant (.int n) k pos) (fun (d:D) (Kn:Int->D->Prop) _=>Kn n d) :=
 ⟨_,j01,fun d F R Z H Kn Ke Q s hw kn _=>kn n d _ F R H hw (Ch.refl _ _ _ _) s rfl⟩
theorem j3k {b:Bool} {k:Nat}:EW X E T (.Constant (.bool b) k pos) (fun (d:D) (Kn:Bool->D->Prop) _=>Kn b d) :=
 ⟨_,pe_bl,fun d F R Z H Kn Ke Q s hw kn _=>kn b d _ F R H hw (Ch.refl _ _ _ _) s rfl⟩
theorem j79 {k:Nat}:EW X E T (.Constant .none k pos) (fun (d:D) (Kn:Unit->D->Prop) _=>Kn () d) :=
 ⟨_,k3n,fun d F R Z H Kn Ke Q s hw kn _=>kn () d _ F R H hw (Ch.refl _ _ _ _) s rfl⟩
theorem w2z {a b e:Expr} {Y β γ:Type} [Rep Y] [Rep β] [Rep γ] {r:R2} {wa:Wf D Y D} {wb:Wf D β D} {c:Y->β->Prop} {g:Y->β->γ}
  (ha:EW X E T a wa) (hb:EW X E T b wb) (he:∀ ta tb,PE X a ta->PE X b tb->PE X e (tOp r ta tb))
  (hr:∀ {R:Rg} {H:Hp} {x:Y} {y:β} {u v:V} {Q:VK},rp R H x u->rp R H y v->c x y->(∀ z,rp R H (g x y) z->Q z H)->r u v H Q) :
  EW X E T e (fun d Kn Ke=>wa d (fun x d1=>wb d1 (fun y d2=>c x y/\Kn (g x y) d2) Ke) Ke):=by
 obtain ⟨ta,a1,a2⟩:=ha;obtain ⟨tb,b1,b2⟩:=hb;refine ⟨_,he ta tb a1 b1,fun d F R Z H Kn Ke Q s hw kn ke=>?_⟩;refine a2 d F R Z H _ Ke _ s hw (fun x d1 u F1 R1 H1 q1 c1 s1 r1=>?_) ke;refine b2 d1 F1 R1 Z H1 _ Ke _ s1 q1 (fun y d2 v F2 R2 H2 q2 c2 s2 r2=>?_) fun C y d' F' R' H' k c s'=>ke C y d' F' R' H' k (Ch.trans s s1.tab c1 c) s';exact hr (s1.val c2 r1) r2 q2.1 fun z rz=>kn _ d2 z F2 R2 H2 q2.2 (Ch.trans s s1.tab c1 c2) s2 rz
theorem w8y {a e:Expr} {Y γ:Type} [Rep Y] [Rep γ] {r:V->Hp->VK->Prop} {wa:Wf D Y D} {c:Y->Prop} {g:Y->γ}
  (ha:EW X E T a wa) (he:∀ ta,PE X a ta->PE X e (tUn r ta)) (hr:∀ {R:Rg} {H:Hp} {x:Y} {u:V} {Q:VK},rp R H x u->c x->(∀ z,rp R H (g x) z->Q z H)->r u H Q) :
  EW X E T e (fun d Kn Ke=>wa d (fun x d1=>c x/\Kn (g x) d1) Ke):=by
 obtain ⟨ta,a1,a2⟩:=ha;refine ⟨_,he ta a1,fun d F R Z H Kn Ke Q s hw kn ke=>?_⟩;refine a2 d F R Z H _ Ke _ s hw (fun x d1 u F1 R1 H1 q1 c1 s1 r1=>?_) ke;exact hr r1 q1.1 fun z rz=>kn _ d1 z F1 R1 H1 q1.2 c1 s1 rz
theorem k8r {a b:Expr} {op:Operator} {c:Int->Int->Prop} {g:Int->Int->Int} {wa wb:Wf D Int D} (ho:OpR X (binaryOp op) (rI c fun i j=>.int (g i j))) (ha:EW X E T a wa) (hb:EW X E T b wb) :
  EW X E T (.BinOp a op b pos) (fun d Kn Ke=>wa d (fun x d1=>wb d1 (fun y d2=>c x y/\Kn (g x y) d2) Ke) Ke) :=
 w2z (γ:=Int) ha hb (fun ta tb h1 h2=>j2i ho h1 h2) fun h1 h2 h3 k=>⟨_,_,h1,h2,h3,k _ rfl⟩
theorem j3v {a b:Expr} {op:Operator} {g:Int->Int->Int} {wa wb:Wf D Int D} (ho:OpR X (binaryOp op) (rI0 fun i j=>.int (g i j))) (ha:EW X E T a wa) (hb:EW X E T b wb) :
  EW X E T (.BinOp a op b pos) (fun d Kn Ke=>wa d (fun x d1=>wb d1 (fun y d2=>Kn (g x y) d2) Ke) Ke):=by
 have h:=w2z (c:=fun _ _=>True) (γ:=Int) (g:=g) (e:=.BinOp a op b pos) ha hb (fun ta tb h1 h2=>j2i ho h1 h2) fun h1 h2 _ k=>⟨_,_,h1,h2,k _ rfl⟩;simp only [true_and] at h;exact h
class Scal (Y:Type) [Rep Y] [DecidableEq Y] where
 sc:∀ {R:Rg} {H:Hp} {x y:Y} {u v:V},rp R H x u->rp R H y v->scal u v=true/\decide (u=v)=decide (x=y)
instance:Scal Int:=⟨fun {R H x y u v} h1 h2=>by
 have h1:u=V.int x:=h1;have h2:v=V.int y:=h2;subst h1;subst h2;refine ⟨rfl,?_⟩;by_cases e:x=y
 ·rw [e];simp
 ·rw [decide_eq_false e,decide_eq_false (fun z=>e (by cases z;rfl))]⟩
instance:Scal Bool:=⟨fun {R H x y u v} h1 h2=>by
 have h1:u=V.bl x:=h1;have h2:v=V.bl y:=h2;subst h1;subst h2;refine ⟨rfl,?_⟩
 cases x<;>cases y<;>rfl⟩
theorem k7i {Y:Type} [Rep Y] {R:Rg} {H:Hp} {x:Option Y} {u:V} (h:rp R H x u):decide (u=.non)=x.isNone:=by
 cases x with
 | none=>have h:u=.non:=h;rw [h];rfl
 | some y=>exact decide_eq_false h.1
end
section
variable {X:Cx} {E:XK} {T:Addr} {D:Type} [Sls D] {pos:Pos}
theorem j0r {e:Expr} {Y:Type} [Rep Y] {w:Wf D Y D} (h:EO X E T e w):EW X E T e w:=by obtain ⟨t,h1,h2⟩:=h;refine ⟨t,h1,fun d F R Z H Kn Ke Q s hw kn ke=>h2 d F R Z H _ Ke Q s hw (fun x d' v F1 F2 R' H' q c s' n=>?_) ke⟩;obtain ⟨n1,u,e,n2⟩:=n.is;cases e;exact kn x d' v F2 R' H' q ⟨c.keep,c.newR,fun a h=>c.newF a (.inr h),c.left⟩ s' n2
theorem j0z {e:Expr} {Y:Type} [Rep Y] {w:Wf D Y D} (h:EW X E T e w):EO X E T e w:=by obtain ⟨t,h1,h2⟩:=h;refine ⟨t,h1,fun d F R Z H Kn Ke Q s hw kn ke=>h2 d F R Z H _ Ke Q s hw (fun x d' v F' R' H' q c s' r=>?_) ke⟩;exact kn x d' v (fun _=>False) F' R' H' q ⟨c.keep,c.newR,fun a h=>c.newF a (h.elim (fun z=>z.elim) id),c.left⟩ s' ⟨⟨fun _ z=>z,v,rfl,r⟩,fun _ z=>z.elim,fun _ z=>z.elim,fun z=>z⟩
end
class Hs (τ:Type) [Ow τ]:Prop where
 has:∀ {F R:Rg} {H:Hp} {x:τ} {v:Option V},sl F R H x v->∃ u,v=some u
instance {Y:Type} [Rep Y]:Hs (OL Y):=⟨fun ⟨a,_,h,_⟩=>⟨_,h⟩⟩
structure Std (T:Addr) (F R:Rg) (H:Hp):Prop where
 sub:∀ a,F a->R a
 liv:∀ a,R a->H a≠none
 tab:j9z H T
 tabR:R T
 tabF:¬F T
theorem Stt.std {T:Addr} {D:Type} [Sls D] {F R:Rg} {H:Hp} {d:D} {Z:St} (s:Stt T F R H d Z):Std T F R H:=⟨s.sub,s.liv,s.tab,s.tabR,s.tabF⟩
theorem Std.stt {T:Addr} {D:Type} [Sls D] {F R:Rg} {H:Hp} {d:D} {Z:St} (s:Std T F R H) (h:rel F R H d Z):Stt T F R H d Z:=⟨h,s.sub,s.liv,s.tab,s.tabR,s.tabF⟩
section
variable {X:Cx} {E:XK} {T:Addr} {D:Type} [Sls D] {pos:Pos}
theorem j2l (F:Rg):Two F (fun _=>False) F:=⟨fun _=>⟨.inr,fun z=>z.elim (fun q=>q.elim) id⟩,fun _ z _=>z⟩
theorem j4f {F F1 F2:Rg} (t:Two F F1 F2) (n:∀ a,¬F1 a):∀ a,F2 a↔F a:=fun a=>⟨fun z=>(t.all a).mpr (.inr z),fun z=>((t.all a).mp z).elim (fun q=>absurd q (n a)) id⟩
end
def spW (T:Addr) {P PO τ:Type} [Sls P] [Sls PO] [Ow τ] (w:Wf P τ PO):Sp:=fun vs H Q E=>∃ (F R:Rg) (p:P) (Kn:τ->PO->Prop) (Ke:Addr->PO->Prop),Stt T F R H p (vs.map some)/\w p Kn Ke /\
 (∀ x p' v F1 F2 R' H',Kn x p'->Ch T F R H (fun a=>F1 a\/F2 a) R' H'->Stt T F2 R' H' p' (vs.map some)->Nw T F1 F2 R' H' x v->Q v H') /\
 (∀ C y p' F' R' H',Ke C p'->Ch T F R H F' R' H'->Stt T F' R' H' p' (vs.map some)->E (.ref C) (some y) H')
def Ag (ms:List Nat) (Z Z':St):Prop:=Z'.length=Z.length/\∀ i∈ms,Z'[i]?=Z[i]?
theorem Ag.refl (ms:List Nat) (Z:St):Ag ms Z Z:=⟨rfl,fun _ _=>rfl⟩
theorem Ag.trans {ms:List Nat} {Z Z1 Z2:St} (a:Ag ms Z Z1) (b:Ag ms Z1 Z2):Ag ms Z Z2:=⟨b.1.trans a.1,fun i h=>(b.2 i h).trans (a.2 i h)⟩
theorem Ag.set {ms:List Nat} {Z:St} {i:Nat} {v:Option V} (h:i∉ms):Ag ms Z (Z.set i v):=⟨List.length_set,fun j hj=>List.getElem?_set_ne fun e=>h (by rw [e];exact hj)⟩
structure Dep (P:Type) [Sls P] (ms:List Nat) (n:Nat):Prop where
 dp:∀ {F R:Rg} {H:Hp} {p:P} {Z Z':St},Ag ms Z Z'->rel F R H p (Z'.take n)->rel F R H p (Z.take n)
class Dp (P:Type) [Sls P] (n:outParam Nat) (l:outParam (List Nat)):Prop where
 dp:Dep P l n
instance dp0:Dp Unit 0 []:=⟨⟨fun {F R H p Z Z'} _ h=>⟨rfl,h.2⟩⟩⟩
instance (priority:=high) dpU {P:Type} {n:Nat} {l:List Nat} [Sls P] [A:Dp P n l]:Dp (Un×P) (n + 1) (l.map (· + 1)):=⟨⟨fun {F R H p Z Z'} a r=>by
 obtain ⟨v,Z1,F1,F2,h1,h2,h3,h4⟩:=r
 cases Z' with
 | nil=>cases h1
 | cons v' r' =>
  cases Z with
  | nil=>have:=a.1;simp at this
  | cons u r =>
   injection h1 with e1 e2;subst e2;refine ⟨u,r.take n,F1,F2,rfl,h2,h3,A.dp.dp (Z':=r') ⟨by have:=a.1;simpa using this,fun i hi=>?_⟩ h4⟩;have:=a.2 (i + 1) (List.mem_map.mpr ⟨i,hi,rfl⟩)
   simpa using this⟩⟩
instance dpO {τ P:Type} {n:Nat} {l:List Nat} [Ow τ] [Sls P] [A:Dp P n l]:Dp (τ×P) (n + 1) (0 :: l.map (· + 1)):=⟨⟨fun {F R H p Z Z'} a r=>by
 obtain ⟨v,Z1,F1,F2,h1,h2,h3,h4⟩:=r
 cases Z' with
 | nil=>cases h1
 | cons v' r' =>
  cases Z with
  | nil=>have:=a.1;simp at this
  | cons u r =>
   injection h1 with e1 e2;subst e2
   have e0:v'=u:=by have:=a.2 0 List.mem_cons_self;simpa using this
   subst e0;subst e1;refine ⟨v',r.take n,F1,F2,rfl,h2,h3,A.dp.dp (Z':=r') ⟨by have:=a.1;simpa using this,fun i hi=>?_⟩ h4⟩;have:=a.2 (i + 1) (List.mem_cons_of_mem _ (List.mem_map.mpr ⟨i,hi,rfl⟩))
   simpa using this⟩⟩
theorem j1f {P:Type} [Sls P] {n:Nat} {l ms:List Nat} [A:Dp P n l] (h:∀ i∈l,i∈ms):Dep P ms n:=⟨fun a r=>A.dp.dp ⟨a.1,fun i hi=>a.2 i (h i hi)⟩ r⟩
def SWt (E:XK) (T:Addr) (ms:List Nat) (n:Nat) (t:TS) {D D' PO τ:Type} [Sls D] [Sls D'] [Sls PO] [Ow τ] (w:D->(D'->Prop)->(τ->PO->Prop)->(Addr->PO->Prop)->Prop):Prop :=
 ∀ (d:D) (F R:Rg) (Z:St) (H:Hp) (Kn:D'->Prop) (Kr:τ->PO->Prop) (Ke:Addr->PO->Prop) (En:Ends),Stt T F R H d Z->w d Kn Kr Ke ->
  (∀ d' F' R' H' Z',Kn d'->Ch T F R H F' R' H'->Stt T F' R' H' d' Z'->Ag ms Z Z'->En.nx Z' H') ->
  (∀ x p' v F1 F2 R' H',Kr x p'->Ch T F R H (fun a=>F1 a\/F2 a) R' H'->Stt T F2 R' H' p' (Z.take n)->Nw T F1 F2 R' H' x v->En.rt v H') ->
  (∀ C y p' F' R' H',Ke C p'->Ch T F R H F' R' H'->Stt T F' R' H' p' (Z.take n)->E (.ref C) (some y) H')->t En Z H
def S1 (X:Cx) (E:XK) (T:Addr) (ms:List Nat) (n:Nat) (st:Stmt) {D D' PO τ:Type} [Sls D] [Sls D'] [Sls PO] [Ow τ] (w:D->(D'->Prop)->(τ->PO->Prop)->(Addr->PO->Prop)->Prop):Prop:=∃ t,PS X st t/\SWt E T ms n t w
def SW (X:Cx) (E:XK) (T:Addr) (ms:List Nat) (n:Nat) (sts:List Stmt) {D D' PO τ:Type} [Sls D] [Sls D'] [Sls PO] [Ow τ] (w:D->(D'->Prop)->(τ->PO->Prop)->(Addr->PO->Prop)->Prop):Prop:=∃ t,PSs X sts t/\SWt E T ms n t w
section
variable {X:Cx} {E:XK} {T:Addr} {ms:List Nat} {n:Nat} {D D' D1 PO τ:Type} [Sls D] [Sls D'] [Sls D1] [Sls PO] [Ow τ] {pos:Pos}
theorem j00:SW X E T ms n [] (fun (d:D) (Kn:D->Prop) (_:τ->PO->Prop) _=>Kn d) :=
 ⟨_,j6v,fun d F R Z H Kn Kr Ke En s hw kn _ _=>kn d F R H Z hw (Ch.refl _ _ _ _) s (Ag.refl _ _)⟩
theorem fg_t {t:TS} [A:Fg D1 D'] {w:D->(D1->Prop)->(τ->PO->Prop)->(Addr->PO->Prop)->Prop} (h2:SWt E T ms n t w):SWt E T ms n t (fun (d:D) (Kn:D'->Prop) (Kr:τ->PO->Prop) Ke=>w d (fun d1=>Kn (A.fg d1)) Kr Ke):=by refine fun d F R Z H Kn Kr Ke En s hw kn kr ke=>h2 d F R Z H _ Kr Ke En s hw (fun d' F' R' H' Z' q c s' a=>?_) kr ke;obtain ⟨G,g1,g2⟩:=A.le s'.rel;exact kn _ G R' H' Z' q ⟨c.keep,c.newR,fun a h=>c.newF a (g1 a h),c.left⟩ ⟨g2,fun a h=>s'.sub a (g1 a h),s'.liv,s'.tab,s'.tabR,fun h=>s'.tabF (g1 _ h)⟩ a
theorem w3n {sts:List Stmt} [A:Fg D1 D'] {w:D->(D1->Prop)->(τ->PO->Prop)->(Addr->PO->Prop)->Prop} (h:SW X E T ms n sts w):SW X E T ms n sts (fun (d:D) (Kn:D'->Prop) (Kr:τ->PO->Prop) Ke=>w d (fun d1=>Kn (A.fg d1)) Kr Ke) :=
 let ⟨t,h1,h2⟩:=h;⟨t,h1,fg_t h2⟩
theorem w93 {t1 t2:TS} {w1:D->(D1->Prop)->(τ->PO->Prop)->(Addr->PO->Prop)->Prop} {w2:D1->(D'->Prop)->(τ->PO->Prop)->(Addr->PO->Prop)->Prop} (dp:Dep PO ms n) (a2:SWt E T ms n t1 w1) (b2:SWt E T ms n t2 w2) :
  SWt E T ms n (tSeq t1 t2) (fun d Kn Kr Ke=>w1 d (fun d1=>w2 d1 Kn Kr Ke) Kr Ke):=by
 refine fun d F R Z H Kn Kr Ke En s hw kn kr ke=>a2 d F R Z H _ Kr Ke _ s hw (fun d1 F1 R1 H1 Z1 q c1 s1 g1=>?_) kr ke;refine b2 d1 F1 R1 Z1 H1 Kn Kr Ke En s1 q (fun d' F' R' H' Z' q' c s' g=>kn d' F' R' H' Z' q' (Ch.trans s s1.tab c1 c) s' (g1.trans g)) (fun x p' v M1 M2 R' H' q' c s' m=>?_) fun C y p' F' R' H' q' c s'=>?_
 ·exact kr x p' v M1 M2 R' H' q' (Ch.trans s s1.tab c1 c) ⟨dp.dp g1 s'.rel,s'.sub,s'.liv,s'.tab,s'.tabR,s'.tabF⟩ m
 ·exact ke C y p' F' R' H' q' (Ch.trans s s1.tab c1 c) ⟨dp.dp g1 s'.rel,s'.sub,s'.liv,s'.tab,s'.tabR,s'.tabF⟩
theorem j8m {st:Stmt} {rest:List Stmt} {w1:D->(D1->Prop)->(τ->PO->Prop)->(Addr->PO->Prop)->Prop} {w2:D1->(D'->Prop)->(τ->PO->Prop)->(Addr->PO->Prop)->Prop} (dp:Dep PO ms n) (h1:S1 X E T ms n st w1) (h2:SW X E T ms n rest w2) :
  SW X E T ms n (st :: rest) (fun d Kn Kr Ke=>w1 d (fun d1=>w2 d1 Kn Kr Ke) Kr Ke) :=
 let ⟨t1,a1,a2⟩:=h1;let ⟨t2,b1,b2⟩:=h2;⟨_,j1i a1 b1,w93 dp a2 b2⟩
theorem j0e {st:Stmt} {w1:D->(D'->Prop)->(τ->PO->Prop)->(Addr->PO->Prop)->Prop} (h1:S1 X E T ms n st w1):SW X E T ms n [st] w1 :=
 let ⟨t1,a1,a2⟩:=h1;⟨_,j24 a1,a2⟩
theorem j1o [A:Pj D PO n] {F' R':Rg} {H':Hp} {d:D} {Z:St} (s:Stt T F' R' H' d Z):∃ G,(∀ a,G a->F' a)/\Stt T G R' H' (A.pj d) (Z.take n):=by obtain ⟨G,g1,g2⟩:=A.le s.rel;exact ⟨G,g1,g2,fun a h=>s.sub a (g1 a h),s.liv,s.tab,s.tabR,fun h=>s.tabF (g1 _ h)⟩
theorem Ch.less {F R F' R' G:Rg} {H H':Hp} (c:Ch T F R H F' R' H') (g:∀ a,G a->F' a):Ch T F R H G R' H':=⟨c.keep,c.newR,fun a h=>c.newF a (g a h),c.left⟩
theorem j0t {e:Expr} [A:Pj D PO n] {we:Wf D τ D} (h:EO X E T e we):S1 X E T ms n (.Return (some e) pos) (fun (d:D) (_:D'->Prop) (Kr:τ->PO->Prop) Ke=>we d (fun x d'=>Kr x (A.pj d')) fun C d'=>Ke C (A.pj d')):=by
 obtain ⟨t,h1,h2⟩:=h;refine ⟨_,j6w h1,fun d F R Z H Kn Kr Ke En s hw kn kr ke=>h2 d F R Z H _ _ _ s hw (fun x d' v F1 F2 R' H' q c s' m=>?_) fun C y d' F' R' H' q c s'=>?_⟩
 ·obtain ⟨G,g1,g2⟩:=j1o (PO:=PO) s';exact kr x _ v F1 G R' H' q (c.less fun a h=>h.elim .inl fun z=>.inr (g1 a z)) g2 ⟨m.is,m.sub,fun a h k=>m.dis a h (g1 a k),m.tab⟩
 ·obtain ⟨G,g1,g2⟩:=j1o (PO:=PO) s';exact ke C y _ G R' H' q (c.less g1) g2
theorem j1e {e:Expr} {Y:Type} [Rep Y] [A:Pj D PO n] {we:Wf D Y D} (h:EW X E T e we) (hs:swapsWith e none pos.line X.env=pure false:=by rfl) :
  S1 X E T ms n (.Expr e pos) (fun (d:D) (Kn:D->Prop) (Kr:τ->PO->Prop) Ke=>we d (fun _ d'=>Kn d') fun C d'=>Ke C (A.pj d')):=by
 obtain ⟨t,h1,h2⟩:=h;refine ⟨_,j2p h1 hs,fun d F R Z H Kn Kr Ke En s hw kn kr ke=>h2 d F R Z H _ _ _ s hw (fun x d' v F' R' H' q c s' m=>kn d' F' R' H' Z q c s' (Ag.refl _ _)) fun C y d' F' R' H' q c s'=>?_⟩;obtain ⟨G,g1,g2⟩:=j1o (PO:=PO) s';exact ke C y _ G R' H' q (c.less g1) g2
theorem j07 {c:Expr} {a b:List Stmt} [A:Pj D PO n] {wc:Wf D Bool D} {wa wb:D->(D'->Prop)->(τ->PO->Prop)->(Addr->PO->Prop)->Prop} (hc:TW X E T c wc) (ha:SW X E T ms n a wa) (hb:SW X E T ms n b wb) :
  S1 X E T ms n (.If c a b pos) (fun (d:D) (Kn:D'->Prop) (Kr:τ->PO->Prop) Ke=>wc d (fun b d1=>if b=true then wa d1 Kn Kr Ke else wb d1 Kn Kr Ke) fun C d'=>Ke C (A.pj d')):=by
 obtain ⟨tc,c1,c2⟩:=hc;obtain ⟨ta,a1,a2⟩:=ha;obtain ⟨tb,b1,b2⟩:=hb;refine ⟨_,k6s c1 a1 b1,fun d F R Z H Kn Kr Ke En s hw kn kr ke=>c2 d F R Z H _ _ _ s hw (fun x d1 F1 R1 H1 q c s1=>?_) fun C y d' F' R' H' q c s'=>?_⟩
 ·cases x with
  | true=>exact a2 d1 F1 R1 Z H1 Kn Kr Ke En s1 q (fun d' F' R' H' Z' q' c' s' g=>kn d' F' R' H' Z' q' (Ch.trans s s1.tab c c') s' g) (fun x p' v M1 M2 R' H' q' c' s' m=>kr x p' v M1 M2 R' H' q' (Ch.trans s s1.tab c c') s' m) fun C y p' F' R' H' q' c' s'=>ke C y p' F' R' H' q' (Ch.trans s s1.tab c c') s'
  | false=>exact b2 d1 F1 R1 Z H1 Kn Kr Ke En s1 q (fun d' F' R' H' Z' q' c' s' g=>kn d' F' R' H' Z' q' (Ch.trans s s1.tab c c') s' g) (fun x p' v M1 M2 R' H' q' c' s' m=>kr x p' v M1 M2 R' H' q' (Ch.trans s s1.tab c c') s' m) fun C y p' F' R' H' q' c' s'=>ke C y p' F' R' H' q' (Ch.trans s s1.tab c c') s'
 ·obtain ⟨G,g1,g2⟩:=j1o (PO:=PO) s';exact ke C y _ G R' H' q (c.less g1) g2
theorem w0i {i:Nat} {τ0 τ1 D0 D2:Type} [Ow τ0] [Ow τ1] [Sls D0] [Sls D2] [A:At i D τ0 D0] [U:Pt i D0 τ1 D2] {F1 F2 R:Rg} {H:Hp} {d:D} {x:τ1} {v:V} {Z:St} (s:Stt T F2 R H d Z) (m:Nw T F1 F2 R H x v) :
  ∃ G,(∀ a,G a->F1 a\/F2 a)/\Stt T G R H (U.put (A.hole d) x) (Z.set i (some v)):=by
 obtain ⟨v0,M1,M2,h1,h2,h3,h4⟩:=A.take s.rel;refine ⟨fun a=>F1 a\/M2 a,fun a h=>h.elim .inl fun z=>.inr ((h2.all a).mpr (.inr z)),U.back h4 ⟨fun _=>Iff.rfl,fun a z q=>m.dis a z ((h2.all a).mpr (.inr q))⟩ m.is,fun a h=>h.elim (m.sub a) fun z=>s.sub a ((h2.all a).mpr (.inr z)),s.liv,s.tab,s.tabR,fun h=>h.elim m.tab fun z=>s.tabF ((h2.all T).mpr (.inr z))⟩
theorem j0y {e:Expr} {x:Str} {pos':Pos} (i:Nat) {τ0 τ1 D0 D2:Type} [Ow τ0] [Ow τ1] [Sls D0] [Sls D2] [A:At i D τ0 D0] [U:Pt i D0 τ1 D2] [J:Pj D PO n] {we:Wf D τ1 D} (hN:X.N.Nodup) (hi:X.N[i]?=some x) (hx:Loc X.env.scope x) (hm:i∉ms) (h:EO X E T e we)
  (hs:swapsWith e (some (.Name x pos')) pos.line X.env=pure false:=by rfl) (hf:X.fn x=true\/X.env.scope.names.lookup x=some .local:=by first | exact .inl rfl | exact .inr rfl) :
  S1 X E T ms n (.Assign [.Name x pos'] e pos) (fun (d:D) (Kn:D2->Prop) (Kr:τ->PO->Prop) Ke=>we d (fun x d'=>Kn (U.put (A.hole d') x)) fun C d'=>Ke C (J.pj d')):=by
 obtain ⟨t,h1,h2⟩:=h;refine ⟨_,j50 hN hi hx h1 hs hf,fun d F R Z H Kn Kr Ke En s hw kn kr ke=>h2 d F R Z H _ _ _ s hw (fun x d' v F1 F2 R' H' q c s' m=>?_) fun C y d' F' R' H' q c s'=>?_⟩
 ·obtain ⟨G,g1,g2⟩:=w0i (i:=i) s' m;exact kn _ G R' H' _ q (c.less g1) g2 (Ag.set hm)
 ·obtain ⟨G,g1,g2⟩:=j1o (PO:=PO) s';exact ke C y _ G R' H' q (c.less g1) g2
end
class Ent (P:Type) [Sls P] (k:Nat) (D:outParam Type) [Sls D] where
 ent:P->D
 ok:∀ {F R:Rg} {H:Hp} {p:P} {Z:St},rel F R H p Z->rel F R H (ent p) (Z++List.replicate k none)
instance ent0:Ent Unit 0 Unit:=⟨id,fun h=>by obtain ⟨rfl,h⟩:=h;exact ⟨rfl,h⟩⟩
instance entS {k:Nat} {D:Type} [Sls D] [A:Ent Unit k D]:Ent Unit (k + 1) (Un×D):=⟨fun p=>(⟨⟩,A.ent p),fun {F R H p Z} h=>by
 obtain ⟨rfl,h⟩:=h
 exact ⟨none,List.replicate k none,fun _=>False,F,by rw [List.nil_append];rfl,j2l F,fun _ z=>z,by simpa using A.ok (Z:=[]) (p:=p) (F:=F) (R:=R) (H:=H) ⟨rfl,h⟩⟩⟩
instance entC {k:Nat} {τ P D:Type} [Ow τ] [Sls P] [Sls D] [A:Ent P k D]:Ent (τ×P) k (τ×D):=⟨fun p=>(p.1,A.ent p.2),fun {F R H p Z} h=>by
 obtain ⟨v,Z',F1,F2,rfl,h2,h3,h4⟩:=h
 exact ⟨v,Z'++List.replicate k none,F1,F2,rfl,h2,h3,A.ok h4⟩⟩
class Ln (P:Type) [Sls P] (n:outParam Nat):Prop where
 ln:∀ {F R:Rg} {H:Hp} {p:P} {Z:St},rel F R H p Z->Z.length=n
instance ln0:Ln Unit 0:=⟨fun h=>by rw [h.1];rfl⟩
instance lnS {τ P:Type} {n:Nat} [Ow τ] [Sls P] [A:Ln P n]:Ln (τ×P) (n + 1):=⟨fun h=>by
 obtain ⟨v,Z',F1,F2,rfl,_,_,h4⟩:=h
 rw [List.length_cons,A.ln h4]⟩
section
variable {P:Program} {w:World} {K:PySem.W.Frag} {mg:Str->Option Value} {base:Heap} {T:Addr}
theorem fn_w {x qual:Str} {st:Stmt} {f:Addr} {fd:FuncData} {N ps:List Str} {k j n:Nat} {ms:List Nat} {A PO τ D D':Type} [Sls A] [Sls PO] [Ow τ] [Sls D] [Sls D'] [L:Ln A n] [En:Ent A j D] {w0:D->(D'->Prop)->(τ->PO->Prop)->(Addr->PO->Prop)->Prop}
  (F:Fun K x qual st f fd) (S:FnScope N ps (j0c st)) (hn:ps.length=n) (hj:N.length - n=j)
  (hbody:∀ (cdv:Value) (A:Around) (outer:List Env) (s:Shared) (H:Hp) (E:XK),Room k (A.deeper (PyProof.Rows.envOfC qual (j0c st) s.heap.objs.size f cdv))->SW (cxOf (CX1 P w) P w K mg base N qual (j0c st) f cdv A outer s H E) E T ms n (j1n st) w0) :
  FnOk P w K mg base (CX1 P w) (k + 1) f fd ps (spW T fun (p:A) (Kr:τ->PO->Prop) Ke=>w0 (En.ent p) (fun _=>False) Kr Ke):=by
 have hlen:∀ {vs:List V} {H:Hp} {Q:VK} {E:XK},spW T (fun (p:A) (Kr:τ->PO->Prop) Ke=>w0 (En.ent p) (fun _=>False) Kr Ke) vs H Q E->vs.length=n:=fun h=>by
  obtain ⟨F,R,p,Kn,Ke,s,_⟩:=h;have:=L.ln s.rel
  rwa [List.length_map] at this
 obtain ⟨oc,od,kV,doc,pm,an,cdv,ct,osl,rfl,lk,hcd⟩:=F.ex;refine k8n lk hcd S (fun vs H Q E h=>(hlen h).trans hn.symm) fun Ar outer s H vs Q E hr hsp=>?_;obtain ⟨t,h1,h2⟩:=hbody cdv Ar outer s H E hr;refine ⟨t,h1,?_⟩;have hl:=hlen hsp;obtain ⟨F,R,p,Kn,Ke,s0,hw,kn,ke⟩:=hsp;have est:start N vs=vs.map some++List.replicate j none:=by unfold L2.start;rw [hl,hj]
 have etk:(start N vs).take n=vs.map some:=by rw [est,List.take_append_of_le_length (by rw [List.length_map,hl];exact Nat.le_refl _),List.take_of_length_le (by rw [List.length_map,hl];exact Nat.le_refl _)]
 refine h2 (En.ent p) F R _ H _ Kn Ke _ ⟨by rw [est];exact En.ok s0.rel,s0.sub,s0.liv,s0.tab,s0.tabR,s0.tabF⟩ hw (fun _ _ _ _ _ z=>z.elim) (fun x p' v F1 F2 R' H' q c s' m=>?_) fun C y p' F' R' H' q c s'=>?_
 ·rw [etk] at s';exact kn x p' v F1 F2 R' H' q c s' m
 ·rw [etk] at s';exact ke C y p' F' R' H' q c s'
theorem w8r {x qual:Str} {st:Stmt} {f:Addr} {fd:FuncData} {N ps:List Str} {k j n:Nat} {ms:List Nat} {A PO τ D D':Type} [Sls A] [Sls PO] [Ow τ] [Sls D] [Sls D'] [L:Ln A n] [En:Ent A j D] {w0:D->(D'->Prop)->(τ->PO->Prop)->(Addr->PO->Prop)->Prop}
  (F:Fun K x qual st f fd) (S:FnScope N ps (j0c st)) (hn:ps.length=n) (hj:N.length - n=j)
  (hbody:∀ (A:Around) (outer:List Env) (s:Shared) (H:Hp) (E:XK),Room k (A.deeper (PyProof.Rows.envOfC qual (j0c st) s.heap.objs.size f fd.code))->SW (cxOf (CX1 P w) P w K mg base N qual (j0c st) f fd.code A outer s H E) E T ms n (j1n st) w0) :
  FnOk P w K mg base (CX1 P w) (k + 1) f fd ps (spW T fun (p:A) (Kr:τ->PO->Prop) Ke=>w0 (En.ent p) (fun _=>False) Kr Ke):=by
 have hlen:∀ {vs:List V} {H:Hp} {Q:VK} {E:XK},spW T (fun (p:A) (Kr:τ->PO->Prop) Ke=>w0 (En.ent p) (fun _=>False) Kr Ke) vs H Q E->vs.length=n:=fun h=>by
  obtain ⟨F,R,p,Kn,Ke,s,_⟩:=h;have:=L.ln s.rel
  rwa [List.length_map] at this
 obtain ⟨oc,od,kV,doc,pm,an,cdv,ct,osl,rfl,lk,hcd⟩:=F.ex;refine k8n lk hcd S (fun vs H Q E h=>(hlen h).trans hn.symm) fun Ar outer s H vs Q E hr hsp=>?_;obtain ⟨t,h1,h2⟩:=hbody Ar outer s H E hr;refine ⟨t,h1,?_⟩;have hl:=hlen hsp;obtain ⟨F,R,p,Kn,Ke,s0,hw,kn,ke⟩:=hsp;have est:start N vs=vs.map some++List.replicate j none:=by unfold L2.start;rw [hl,hj]
 have etk:(start N vs).take n=vs.map some:=by rw [est,List.take_append_of_le_length (by rw [List.length_map,hl];exact Nat.le_refl _),List.take_of_length_le (by rw [List.length_map,hl];exact Nat.le_refl _)]
 refine h2 (En.ent p) F R _ H _ Kn Ke _ ⟨by rw [est];exact En.ok s0.rel,s0.sub,s0.liv,s0.tab,s0.tabR,s0.tabF⟩ hw (fun _ _ _ _ _ z=>z.elim) (fun x p' v F1 F2 R' H' q c s' m=>?_) fun C y p' F' R' H' q c s'=>?_
 ·rw [etk] at s';exact kn x p' v F1 F2 R' H' q c s' m
 ·rw [etk] at s';exact ke C y p' F' R' H' q c s'
theorem k4z {x qual:Str} {st:Stmt} {f:Addr} {fd:FuncData} {N ps:List Str} {k j n:Nat} {ms:List Nat} {A PO D D':Type} [Sls A] [Sls PO] [Sls D] [Sls D'] [L:Ln A n] [En:Ent A j D] [J:Pj D' PO n] (dp:Dep PO ms n) {w0:D->(D'->Prop)->(Unit->PO->Prop)->(Addr->PO->Prop)->Prop}
  (F:Fun K x qual st f fd) (S:FnScope N ps (j0c st)) (hn:ps.length=n) (hj:N.length - n=j)
  (hbody:∀ (cdv:Value) (A:Around) (outer:List Env) (s:Shared) (H:Hp) (E:XK),Room k (A.deeper (PyProof.Rows.envOfC qual (j0c st) s.heap.objs.size f cdv))->SW (cxOf (CX1 P w) P w K mg base N qual (j0c st) f cdv A outer s H E) E T ms n (j1n st) w0) :
  FnOk P w K mg base (CX1 P w) (k + 1) f fd ps (spW T fun (p:A) (Kr:Unit->PO->Prop) Ke=>w0 (En.ent p) (fun d'=>Kr () (J.pj d')) Kr Ke):=by
 have hlen:∀ {vs:List V} {H:Hp} {Q:VK} {E:XK},spW T (fun (p:A) (Kr:Unit->PO->Prop) Ke=>w0 (En.ent p) (fun d'=>Kr () (J.pj d')) Kr Ke) vs H Q E->vs.length=n:=fun h=>by
  obtain ⟨F,R,p,Kn,Ke,s,_⟩:=h;have:=L.ln s.rel
  rwa [List.length_map] at this
 obtain ⟨oc,od,kV,doc,pm,an,cdv,ct,osl,rfl,lk,hcd⟩:=F.ex;refine k8n lk hcd S (fun vs H Q E h=>(hlen h).trans hn.symm) fun Ar outer s H vs Q E hr hsp=>?_;obtain ⟨t,h1,h2⟩:=hbody cdv Ar outer s H E hr;refine ⟨t,h1,?_⟩;have hl:=hlen hsp;obtain ⟨F,R,p,Kn,Ke,s0,hw,kn,ke⟩:=hsp;have est:start N vs=vs.map some++List.replicate j none:=by unfold L2.start;rw [hl,hj]
 have etk:(start N vs).take n=vs.map some:=by rw [est,List.take_append_of_le_length (by rw [List.length_map,hl];exact Nat.le_refl _),List.take_of_length_le (by rw [List.length_map,hl];exact Nat.le_refl _)]
 refine h2 (En.ent p) F R _ H _ Kn Ke _ ⟨by rw [est];exact En.ok s0.rel,s0.sub,s0.liv,s0.tab,s0.tabR,s0.tabF⟩ hw (fun d' F' R' H' Z' q c s' g=>?_) (fun x p' v F1 F2 R' H' q c s' m=>?_) fun C y p' F' R' H' q c s'=>?_
 ·obtain ⟨G,g1,g2⟩:=j1o (PO:=PO) s';have g3:=dp.dp g g2.rel;rw [etk] at g3;exact kn () _ .non (fun _=>False) G R' H' q (c.less fun a h=>h.elim (fun z=>z.elim) (g1 a)) ⟨g3,g2.sub,g2.liv,g2.tab,g2.tabR,g2.tabF⟩ ⟨⟨fun _ z=>z,.non,rfl,rfl⟩,fun _ z=>z.elim,fun _ z=>z.elim,fun z=>z⟩
 ·rw [etk] at s';exact kn x p' v F1 F2 R' H' q c s' m
 ·rw [etk] at s';exact ke C y p' F' R' H' q c s'
end
class Dat (Y:Type) [Rep Y] [DecidableEq Y] where
 dat:Y->PyData
 dp:Nat
 rd:∀ {X:Cx} {R:Rg} {H:Hp} {x:Y} {v:V},rp R H x v->RdS X H v (dat x)
 lay:∀ x,(dat x).canLay0=true
 dep:∀ x,(dat x).depth<=dp
 nm:∀ x y,SeqAt.noMix (dat x) (dat y)=true
 sm:∀ x y,PySem.Spec.same (dat x) (dat y)=decide (x=y)
instance:Dat Int where
 dat:=.int
 dp:=0
 rd h:=by have h:_=_:=h;subst h;exact RdS.int _
 lay _:=by simp [PyData.canLay0]
 dep _:=by simp [PyData.depth]
 nm _ _:=by simp [SeqAt.noMix]
 sm x y:=by rw [PySem.Spec.same];by_cases h:x=y<;>simp [h]
section
variable {Y β:Type} [Rep Y] [DecidableEq Y] [Dat Y] [Rep β] [DecidableEq β] [Dat β]
theorem j5t {X:Cx} {R:Rg} {H:Hp}:∀ {xs:List Y} {vs:List V},Paired (rp R H) xs vs->Paired (RdS X H) vs (xs.map Dat.dat)
 | _,_,.nil=>.nil
 | _,_,.cons h t=>.cons (Dat.rd h) (j5t t)
theorem k75:∀ xs:List Y,PyData.canLayAll0 (xs.map Dat.dat)=true
 | []=>by simp [PyData.canLayAll0]
 | x :: xs=>by simp only [List.map_cons,PyData.canLayAll0,Dat.lay x,k75 xs,Bool.and_self]
theorem k83:∀ xs:List Y,PyData.depthAll (xs.map Dat.dat)<=Dat.dp Y
 | []=>by simp [PyData.depthAll]
 | x :: xs=>by have h1:=k83 xs;have h2:=Dat.dep x;simp only [List.map_cons,PyData.depthAll];omega
theorem w2r:∀ xs ys:List Y,SeqAt.noMixAll (xs.map Dat.dat) (ys.map Dat.dat)=true
 | [],[]=>by simp [SeqAt.noMixAll]
 | [],_ :: _=>by simp [SeqAt.noMixAll]
 | _ :: _,[]=>by simp [SeqAt.noMixAll]
 | x :: xs,y :: ys=>by simp only [List.map_cons,SeqAt.noMixAll,Dat.nm x y,w2r xs ys,Bool.and_self]
theorem w2d:∀ xs ys:List Y,PySem.Spec.sameAll (xs.map Dat.dat) (ys.map Dat.dat)=decide (xs=ys)
 | [],[]=>by simp [PySem.Spec.sameAll]
 | [],_ :: _=>by simp [PySem.Spec.sameAll]
 | _ :: _,[]=>by simp [PySem.Spec.sameAll]
 | x :: xs,y :: ys=>by simp only [List.map_cons,PySem.Spec.sameAll,Dat.sm x y,w2d xs ys];by_cases h:x=y<;>simp [h]
instance:Dat (List Y) where
 dat xs:=.list (xs.map Dat.dat)
 dp:=Dat.dp Y + 1
 rd h:=by obtain ⟨a,vs,rfl,_,h3,h4⟩:=h;exact RdS.lst (SqL.of h3) (j5t h4)
 lay xs:=by simp only [PyData.canLay0];exact k75 xs
 dep xs:=by simp only [PyData.depth];have:=k83 xs;omega
 nm xs ys:=by simp only [SeqAt.noMix];exact w2r xs ys
 sm xs ys:=by simp only [PySem.Spec.same];exact w2d xs ys
theorem RdS.tup {X:Cx} {H:Hp} {a:Addr} {xs:List V} {ds:List PyData} (h:SqT X.K H a xs) (p:Paired (RdS X H) xs ds):RdS X H (.ref a) (.tuple ds):=fun pins Z s u I r=>by
 cases r;obtain ⟨its,rv,pl,_⟩:=I.tuple h;obtain ⟨as,h2⟩:=j6u I rv p;obtain ⟨o,ho,hc,n,hd⟩:=pl;exact ⟨_,Reads.tuple ho hc hd (by simpa using h2)⟩
end
def RdL {Y:Type} [Rep Y] {D:Type} [Sls D] (T:Addr) (F R:Rg) (H:Hp) (Z:St) (g:D->List Y) (v:V):Prop :=
 ∀ (d'':D) (F'' R'':Rg) (H'':Hp),Ch T F R H F'' R'' H''->Stt T F'' R'' H'' d'' Z->∃ a vs,v=.ref a/\H'' a=some (.lst vs)/\Paired (rp R'' H'') (g d'') vs
def ER (X:Cx) (E:XK) (T:Addr) (e:Expr) {D Y:Type} [Sls D] [Rep Y] (w:Wf D (D->List Y) D):Prop :=
 ∃ t,PE X e t/\∀ (d:D) (F R:Rg) (Z:St) (H:Hp) (Kn:(D->List Y)->D->Prop) (Ke:Addr->D->Prop) (Q:VK),Stt T F R H d Z->w d Kn Ke ->
  (∀ g d' v F' R' H',Kn g d'->Ch T F R H F' R' H'->Stt T F' R' H' d' Z->RdL T F' R' H' Z g v->Q v H') ->
  (∀ C y d' F' R' H',Ke C d'->Ch T F R H F' R' H'->Stt T F' R' H' d' Z->E (.ref C) (some y) H')->t Z H Q
section
variable {X:Cx} {E:XK} {T:Addr} {D:Type} [Sls D] {pos:Pos} {Y β γ:Type} [Rep Y] [Rep β] [Rep γ]
theorem er_w {e:Expr} {w:Wf D (List Y) D} (h:EW X E T e w):ER X E T e (fun (d:D) (Kn:(D->List Y)->D->Prop) Ke=>w d (fun x d'=>Kn (fun _=>x) d') Ke):=by obtain ⟨t,h1,h2⟩:=h;refine ⟨t,h1,fun d F R Z H Kn Ke Q s hw kn ke=>h2 d F R Z H _ Ke Q s hw (fun x d' v F' R' H' q c s' r=>kn _ d' v F' R' H' q c s' fun d'' F'' R'' H'' c' s''=>?_) ke⟩;obtain ⟨a,vs,e1,e2,e3,e4⟩:=s'.val c' r;exact ⟨a,vs,e1,e3,e4⟩
theorem j1v {x:Str} (i:Nat) {D':Type} [Sls D'] [A:At i D (OL Y) D'] (he:PE X (.Name x pos) (tVar i)):ER X E T (.Name x pos) (fun (d:D) (Kn:(D->List Y)->D->Prop) _=>Kn (fun d=>(A.get d).l) d):=by refine ⟨_,he,fun d F R Z H Kn Ke Q s hw kn _=>?_⟩;obtain ⟨v,F1,F2,h1,h2,⟨a,vs,rfl,h4⟩,_⟩:=A.take s.rel;refine ⟨_,h1,kn _ d _ F R H hw (Ch.refl _ _ _ _) s fun d'' F'' R'' H'' c' s''=>?_⟩;obtain ⟨v',M1,M2,k1,k2,⟨a',vs',e',k4,k5,k6⟩,_⟩:=A.take s''.rel;rw [h1] at k1;cases k1;cases e';exact ⟨_,vs',rfl,k5,k6⟩
theorem w82 {a b e:Expr} {r:R2} {wa:Wf D (D->List Y) D} {wb:Wf D β D} {c:List Y->β->γ->Prop}
  (ha:ER X E T a wa) (hb:EW X E T b wb) (he:∀ ta tb,PE X a ta->PE X b tb->PE X e (tOp r ta tb))
  (hr:∀ {R:Rg} {H:Hp} {xs:List Y} {y:β} {z:γ} {p:Addr} {us:List V} {v:V} {Q:VK},H p=some (.lst us)->Paired (rp R H) xs us->rp R H y v->c xs y z->(∀ w,rp R H z w->Q w H)->r (.ref p) v H Q) :
  EW X E T e (fun d Kn Ke=>wa d (fun g d1=>wb d1 (fun y d2=>∃ z,c (g d2) y z/\Kn z d2) Ke) Ke):=by
 obtain ⟨ta,a1,a2⟩:=ha;obtain ⟨tb,b1,b2⟩:=hb;refine ⟨_,he ta tb a1 b1,fun d F R Z H Kn Ke Q s hw kn ke=>?_⟩;refine a2 d F R Z H _ Ke _ s hw (fun g d1 u F1 R1 H1 q1 c1 s1 r1=>?_) ke;refine b2 d1 F1 R1 Z H1 _ Ke _ s1 q1 (fun y d2 v F2 R2 H2 q2 c2 s2 r2=>?_) fun C y d' F' R' H' k c s'=>ke C y d' F' R' H' k (Ch.trans s s1.tab c1 c) s';obtain ⟨z,z1,z2⟩:=q2;obtain ⟨p,us,rfl,h1,h2⟩:=r1 d2 F2 R2 H2 c2 s2;exact hr h1 h2 r2 z1 fun w rw=>kn _ d2 w F2 R2 H2 z2 (Ch.trans s s1.tab c1 c2) s2 rw
theorem j1p {R:Rg} {H:Hp}:∀ {xs:List Y} {vs:List V} {i:Nat} {x:Y},Paired (rp R H) xs vs->xs[i]?=some x->∃ v,vs[i]?=some v/\rp R H x v
 | _,_,_,_,.nil,e=>by simp at e
 | _,_,0,_,.cons r _,e=>by simp at e;subst e;exact ⟨_,rfl,r⟩
 | _,_,i + 1,x,.cons _ t,e=>by obtain ⟨u,h1,h2⟩:=j1p (i:=i) (x:=x) t (by simpa using e);exact ⟨u,by simpa using h1,h2⟩
theorem k65 {R:Rg} {H:Hp} {xs:List Y} {vs:List V} {i:Int} {x:Y} (h:Paired (rp R H) xs vs) (e:atI xs i=some x):∃ v,atI vs i=some v/\rp R H x v:=by
 unfold atI at e ⊢;rw [<- Paired.length h]
 cases q:ixN xs.length i with
 | none=>rw [q] at e;cases e
 | some j =>
  rw [q] at e;exact j1p h e
theorem j2v {a b:Expr} {wa:Wf D (D->List Y) D} {wb:Wf D Int D} (ha:ER X E T a wa) (hb:EW X E T b wb) (hs:k9s b:=by intro _ _;rfl) :
  EW X E T (.Subscript a b pos) (fun (d:D) (Kn:Y->D->Prop) Ke=>wa d (fun g d1=>wb d1 (fun i d2=>∃ x,atI (g d2) i=some x/\Kn x d2) Ke) Ke) :=
 w82 (c:=fun xs i x=>atI xs i=some x) ha hb (fun ta tb h1 h2=>j4c j1t h1 h2 hs) fun {R H xs y z p us v Q} h1 h2 h3 h4 k=>by have h3:v=V.int y:=h3;subst h3;obtain ⟨w,e,r⟩:=k65 h2 h4;exact ⟨_,_,_,_,rfl,rfl,SqL.of h1,e,k _ r⟩
theorem j8a {a:Expr} {k:Nat} {p:Pos} {wa:Wf D (Y×β) D} (ha:EW X E T a wa):EW X E T (.Subscript a (.Constant (.int 0) k p) pos) (fun (d:D) (Kn:Y->D->Prop) Ke=>wa d (fun x d1=>Kn x.1 d1) Ke):=by obtain ⟨ta,a1,a2⟩:=ha;refine ⟨_,j4c w2u a1 j01 (fun _ _=>rfl),fun d F R Z H Kn Ke Q s hw kn ke=>a2 d F R Z H _ Ke _ s hw (fun x d1 u F1 R1 H1 q1 c1 s1 r1=>?_) ke⟩;obtain ⟨q,v,w,rfl,_,h3,h4,h5⟩:=r1;exact ⟨_,_,_,v,rfl,rfl,SqT.of h3,rfl,kn _ d1 v F1 R1 H1 q1 c1 s1 h4⟩
theorem k0x {a:Expr} {k:Nat} {p:Pos} {wa:Wf D (Y×β) D} (ha:EW X E T a wa):EW X E T (.Subscript a (.Constant (.int 1) k p) pos) (fun (d:D) (Kn:β->D->Prop) Ke=>wa d (fun x d1=>Kn x.2 d1) Ke):=by obtain ⟨ta,a1,a2⟩:=ha;refine ⟨_,j4c w2u a1 j01 (fun _ _=>rfl),fun d F R Z H Kn Ke Q s hw kn ke=>a2 d F R Z H _ Ke _ s hw (fun x d1 u F1 R1 H1 q1 c1 s1 r1=>?_) ke⟩;obtain ⟨q,v,w,rfl,_,h3,h4,h5⟩:=r1;exact ⟨_,_,_,w,rfl,rfl,SqT.of h3,rfl,kn _ d1 w F1 R1 H1 q1 c1 s1 h5⟩
theorem j3u {a:Expr} {wa:Wf D (Option Y) D} (ha:EW X E T a wa):EW X E T a (fun (d:D) (Kn:Y->D->Prop) Ke=>wa d (fun x d1=>∃ y,x=some y/\Kn y d1) Ke):=by obtain ⟨ta,a1,a2⟩:=ha;refine ⟨_,a1,fun d F R Z H Kn Ke Q s hw kn ke=>a2 d F R Z H _ Ke _ s hw (fun x d1 u F1 R1 H1 q1 c1 s1 r1=>?_) ke⟩;obtain ⟨y,rfl,q⟩:=q1;exact kn y d1 u F1 R1 H1 q c1 s1 r1.2
class NV (Y:Type) [Rep Y]:Prop where
 nv:∀ {R:Rg} {H:Hp} {x:Y} {v:V},rp R H x v->v≠.non
instance:NV (Y×β):=⟨fun h z=>by obtain ⟨a,u,w,e,_⟩:=h;rw [e] at z;cases z⟩
theorem j5p [NV Y] {a:Expr} {wa:Wf D Y D} (ha:EW X E T a wa):EW X E T a (fun (d:D) (Kn:Option Y->D->Prop) Ke=>wa d (fun x d1=>Kn (some x) d1) Ke):=by obtain ⟨ta,a1,a2⟩:=ha;exact ⟨_,a1,fun d F R Z H Kn Ke Q s hw kn ke=>a2 d F R Z H _ Ke _ s hw (fun x d1 u F1 R1 H1 q1 c1 s1 r1=>kn (some x) d1 u F1 R1 H1 q1 c1 s1 ⟨NV.nv r1,r1⟩) ke⟩
theorem k8s {k:Nat}:EW X E T (.Constant .none k pos) (fun (d:D) (Kn:Option Y->D->Prop) _=>Kn none d) :=
 ⟨_,k3n,fun d F R Z H Kn Ke Q s hw kn _=>kn none d _ F R H hw (Ch.refl _ _ _ _) s rfl⟩
theorem j3a {a:Expr} {p:Pos} {wa:Wf D (D->List Y) D} (hg:Gl X "len") (hm:X.mg "len"=none) (ha:ER X E T a wa) (hs:starEach [a] X.env=(false,eval a X.env) :: starEach [] X.env:=by rfl) :
  EW X E T (.Call (.Name "len" p) [a] [] pos) (fun (d:D) (Kn:Int->D->Prop) Ke=>wa d (fun g d1=>Kn ((g d1).length:Int) d1) Ke):=by
 obtain ⟨ta,a1,a2⟩:=ha;refine ⟨_,j1l j2z hg hm PySem.boot_len (j0k a1 j02 hs) (he:=hs),fun d F R Z H Kn Ke Q s hw kn ke=>a2 d F R Z H _ Ke _ s hw (fun g d1 u F1 R1 H1 q1 c1 s1 r1=>?_) ke⟩;obtain ⟨q,us,rfl,h1,h2⟩:=r1 d1 F1 R1 H1 (Ch.refl _ _ _ _) s1;refine ⟨_,_,rfl,.inl (SqL.of h1),kn _ d1 _ F1 R1 H1 q1 c1 s1 ?_⟩;show V.int _=V.int _;rw [Paired.length h2]
end
def AL (X:Cx) (E:XK) (T:Addr) (es:List Expr) {D Y:Type} [Sls D] [Rep Y] (w:Wf D (List Y) D):Prop :=
 ∃ t,PA X es t/\∀ (d:D) (F R:Rg) (Z:St) (H:Hp) (Kn:List Y->D->Prop) (Ke:Addr->D->Prop) (Q:List V->Hp->Prop),Stt T F R H d Z->w d Kn Ke ->
  (∀ x d' vs F' R' H',Kn x d'->Ch T F R H F' R' H'->Stt T F' R' H' d' Z->Paired (rp R' H') x vs->vs.length=es.length->Q vs H') ->
  (∀ C y d' F' R' H',Ke C d'->Ch T F R H F' R' H'->Stt T F' R' H' d' Z->E (.ref C) (some y) H')->t Z H Q
theorem Stt.vals {T:Addr} {D:Type} [Sls D] {d:D} {Z:St} {F R F' R':Rg} {H H':Hp} (s:Stt T F R H d Z) (c:Ch T F R H F' R' H') {Y:Type} [Rep Y] {x:List Y} {v:List V} (h:Paired (rp R H) x v):Paired (rp R' H') x v :=
 j05 (c.ext.wide fun a z=>z.elim (s.sub a) fun q=>by rw [q];exact s.tabR) h
section
variable {X:Cx} {E:XK} {T:Addr} {D:Type} [Sls D] {pos:Pos} {Y β γ:Type} [Rep Y] [Rep β] [Rep γ]
theorem j0x:AL X E T [] (fun (d:D) (Kn:List Y->D->Prop) _=>Kn [] d) :=
 ⟨_,j02,fun d F R Z H Kn Ke Q s hw kn _=>kn [] d [] F R H hw (Ch.refl _ _ _ _) s .nil rfl⟩
theorem j0i {e:Expr} {es:List Expr} {we:Wf D Y D} {wr:Wf D (List Y) D} (ha:EW X E T e we) (hr:AL X E T es wr) (hs:starEach (e :: es) X.env=(false,eval e X.env) :: starEach es X.env:=by rfl) :
  AL X E T (e :: es) (fun d Kn Ke=>we d (fun x d1=>wr d1 (fun xs d2=>Kn (x :: xs) d2) Ke) Ke):=by
 obtain ⟨ta,a1,a2⟩:=ha;obtain ⟨tr,b1,b2⟩:=hr;refine ⟨_,j0k a1 b1 hs,fun d F R Z H Kn Ke Q s hw kn ke=>?_⟩;refine a2 d F R Z H _ Ke _ s hw (fun x d1 u F1 R1 H1 q1 c1 s1 r1=>?_) ke;refine b2 d1 F1 R1 Z H1 _ Ke _ s1 q1 (fun xs d2 vs F2 R2 H2 q2 c2 s2 r2 l2=>?_) fun C y d' F' R' H' k c s'=>ke C y d' F' R' H' k (Ch.trans s s1.tab c1 c) s';exact kn _ d2 (u :: vs) F2 R2 H2 q2 (Ch.trans s s1.tab c1 c2) s2 (.cons (s1.val c2 r1) r2) (by rw [List.length_cons,List.length_cons,l2])
theorem j0w {es:List Expr} {w:Wf D (List Y) D} (h:AL X E T es w) (hl:es.length<=sizeLine:=by decide):EO X E T (.List es pos) (fun (d:D) (Kn:OL Y->D->Prop) Ke=>w d (fun xs d'=>Kn ⟨xs⟩ d') Ke):=by obtain ⟨t,a1,a2⟩:=h;refine ⟨_,w2n a1,fun d F R Z H Kn Ke Q s hw kn ke=>a2 d F R Z H _ Ke _ s hw (fun xs d1 vs F1 R1 H1 q1 c1 s1 r1 l1=>⟨by rw [l1];exact hl,fun p hp=>?_⟩) ke⟩;obtain ⟨R',c2,s2,n2⟩:=j3i s1 hp r1;exact kn _ d1 _ _ F1 R' _ q1 (Ch.trans s s1.tab c1 c2) s2 n2
theorem j1u {a b:Expr} {x1} {wa:Wf D Y D} {wb:Wf D β D} (ha:EW X E T a wa) (hb:EW X E T b wb)
  (h1:starEach [a,b] X.env=(false,eval a X.env) :: starEach [b] X.env:=by rfl) (h2:starEach [b] X.env=(false,eval b X.env) :: starEach [] X.env:=by rfl) :
  EW X E T (.Tuple [a,b] x1 pos) (fun (d:D) (Kn:Y×β->D->Prop) Ke=>wa d (fun x d1=>wb d1 (fun y d2=>Kn (x,y) d2) Ke) Ke):=by
 obtain ⟨ta,a1,a2⟩:=ha;obtain ⟨tb,b1,b2⟩:=hb;refine ⟨_,k62 (j0k a1 (j0k b1 j02 h2) h1),fun d F R Z H Kn Ke Q s hw kn ke=>?_⟩;refine a2 d F R Z H _ Ke _ s hw (fun x d1 u F1 R1 H1 q1 c1 s1 r1=>?_) ke;refine b2 d1 F1 R1 Z H1 _ Ke _ s1 q1 (fun y d2 v F2 R2 H2 q2 c2 s2 r2=>⟨(by show 2<=sizeLine;decide),fun p hp=>?_⟩) fun C y d' F' R' H' k c s'=>ke C y d' F' R' H' k (Ch.trans s s1.tab c1 c) s';obtain ⟨s3,c3,n3⟩:=s2.new (.tup [u,v]) hp;exact kn _ d2 _ F2 R2 _ q2 (Ch.trans s s1.tab c1 (Ch.trans s1 s2.tab c2 c3)) s3 ⟨p,u,v,rfl,n3,j0h,s2.val c3 (s1.val c2 r1),s2.val c3 r2⟩
theorem j2j {R:Rg} {H:Hp}:∀ {xs ys:List Y} {us vs:List V},Paired (rp R H) xs us->Paired (rp R H) ys vs->Paired (rp R H) (xs++ys) (us++vs)
 | _,_,_,_,.nil,s=>s
 | _,_,_,_,.cons r t,s=>.cons r (j2j t s)
theorem j8b {a b:Expr} {wa wb:Wf D (D->List Y) D} (ha:ER X E T a wa) (hb:ER X E T b wb) :
  EO X E T (.BinOp a .Add b pos) (fun (d:D) (Kn:OL Y->D->Prop) Ke=>wa d (fun g d1=>wb d1 (fun k d2=>(g d2).length + (k d2).length<=sizeLine/\Kn ⟨g d2++k d2⟩ d2) Ke) Ke):=by
 obtain ⟨ta,a1,a2⟩:=ha;obtain ⟨tb,b1,b2⟩:=hb;refine ⟨_,j2i w75 a1 b1,fun d F R Z H Kn Ke Q s hw kn ke=>?_⟩;refine a2 d F R Z H _ Ke _ s hw (fun g d1 u F1 R1 H1 q1 c1 s1 r1=>?_) ke;refine b2 d1 F1 R1 Z H1 _ Ke _ s1 q1 (fun k d2 v F2 R2 H2 q2 c2 s2 r2=>?_) fun C y d' F' R' H' k c s'=>ke C y d' F' R' H' k (Ch.trans s s1.tab c1 c) s';obtain ⟨p,us,rfl,h1,h2⟩:=r1 d2 F2 R2 H2 c2 s2;obtain ⟨q,vs,rfl,k1,k2⟩:=r2 d2 F2 R2 H2 (Ch.refl _ _ _ _) s2;refine ⟨p,q,us,vs,rfl,rfl,h1,k1,by rw [<- Paired.length h2,<- Paired.length k2];exact q2.1,fun r hr=>?_⟩;obtain ⟨R',c3,s3,n3⟩:=j3i s2 hr (j2j h2 k2);exact kn _ d2 _ _ F2 R' _ q2.2 (Ch.trans s s1.tab c1 (Ch.trans s1 s2.tab c2 c3)) s3 n3
theorem j3w {a:Expr} {p:Pos} {wa:Wf D (D->List Y) D} (hg:Gl X "list") (hm:X.mg "list"=none) (ha:ER X E T a wa) (hs:starEach [a] X.env=(false,eval a X.env) :: starEach [] X.env:=by rfl) :
  EO X E T (.Call (.Name "list" p) [a] [] pos) (fun (d:D) (Kn:OL Y->D->Prop) Ke=>wa d (fun g d1=>Kn ⟨g d1⟩ d1) Ke):=by
 obtain ⟨ta,a1,a2⟩:=ha;refine ⟨_,j15 j3x hg hm PyProof.Rows.boot_list (j0k a1 j02 hs) (he:=hs),fun d F R Z H Kn Ke Q s hw kn ke=>a2 d F R Z H _ Ke _ s hw (fun g d1 u F1 R1 H1 q1 c1 s1 r1=>?_) ke⟩;obtain ⟨q,us,rfl,h1,h2⟩:=r1 d1 F1 R1 H1 (Ch.refl _ _ _ _) s1;refine ⟨_,_,rfl,.inl (SqL.of h1),fun l hl=>?_⟩;obtain ⟨R',c3,s3,n3⟩:=j3i s1 hl h2;exact kn _ d1 _ _ F1 R' _ q1 (Ch.trans s s1.tab c1 c3) s3 n3
def ins (x:Int):List Int->List Int
 | []=>[x]
 | y :: r=>if x<=y then x :: y :: r else y :: ins x r
def srt:List Int->List Int
 | []=>[]
 | x :: r=>ins x (srt r)
theorem j45 (x:Int):∀ r:List Int,(ins x r).Perm (x :: r)
 | []=>List.Perm.refl _
 | y :: r=>by
  unfold ins;split
  ·exact List.Perm.refl _
  ·exact ((j45 x r).cons y).trans (List.Perm.swap x y r)
theorem j32:∀ r:List Int,(srt r).Perm r
 | []=>List.Perm.refl _
 | x :: r=>(j45 x (srt r)).trans ((j32 r).cons x)
theorem k2m (x:Int):∀ r:List Int,r.Pairwise (·<=·)->(ins x r).Pairwise (·<=·)
 | [],_=>List.pairwise_singleton _ _
 | y :: r,h=>by
  unfold ins;have h':=List.pairwise_cons.mp h;split
  ·rename_i hxy
   refine List.pairwise_cons.mpr ⟨fun z hz=>?_,h⟩;rcases List.mem_cons.mp hz with e | e
   ·rw [e];exact hxy
   ·exact Int.le_trans hxy (h'.1 z e)
  ·rename_i hxy
   refine List.pairwise_cons.mpr ⟨fun z hz=>?_,k2m x r h'.2⟩;rcases List.mem_cons.mp ((j45 x r).mem_iff.mp hz) with e | e
   ·rw [e];omega
   ·exact h'.1 z e
theorem j6o:∀ r:List Int,(srt r).Pairwise (·<=·)
 | []=>List.Pairwise.nil
 | x :: r=>k2m x _ (j6o r)
theorem j4v:∀ {xs ys:List Int},xs.Perm ys->xs.Pairwise (·<=·)->ys.Pairwise (·<=·)->xs=ys
 | [],ys,p,_,_=>(List.Perm.nil_eq p)
 | x :: xs,[],p,_,_=>absurd p.length_eq (by simp)
 | x :: xs,y :: ys,p,h1,h2=>by
  have e:x=y:=by
   have a1:x∈y :: ys:=p.mem_iff.mp List.mem_cons_self;have a2:y∈x :: xs:=p.mem_iff.mpr List.mem_cons_self;rcases List.mem_cons.mp a1 with q | q
   ·exact q
   ·rcases List.mem_cons.mp a2 with z | z
    ·exact z.symm
    ·have:=(List.pairwise_cons.mp h2).1 x q;have:=(List.pairwise_cons.mp h1).1 y z;omega
  subst e;rw [j4v p.cons_inv (List.pairwise_cons.mp h1).2 (List.pairwise_cons.mp h2).2]
theorem j7v {ys xs:List Int} (p:ys.Perm xs) (h:ys.Pairwise (·<=·)):ys=srt xs:=j4v (p.trans (j32 xs).symm) h (j6o xs)
theorem j1b {R:Rg} {H:Hp}:∀ {xs:List Int} {vs:List V},Paired (rp R H) xs vs->vs=xs.map V.int
 | _,_,.nil=>rfl
 | _,_,.cons h t=>by have h:_=_:=h;rw [h,j1b t];rfl
theorem j10 {R:Rg} {H:Hp}:∀ xs:List Int,Paired (rp R H) xs (xs.map V.int)
 | []=>.nil
 | x :: r=>.cons (rfl:rp R H x (V.int x)) (j10 r)
theorem k8v {a:Expr} {p:Pos} {wa:Wf D (D->List Int) D} (hg:Gl X "sorted") (hm:X.mg "sorted"=none) (ha:ER X E T a wa) (hs:starEach [a] X.env=(false,eval a X.env) :: starEach [] X.env:=by rfl) :
  EO X E T (.Call (.Name "sorted" p) [a] [] pos) (fun (d:D) (Kn:OL Int->D->Prop) Ke=>wa d (fun g d1=>(g d1).length < 64/\Kn ⟨srt (g d1)⟩ d1) Ke):=by
 obtain ⟨ta,a1,a2⟩:=ha;refine ⟨_,j1l k04 hg hm PyProof.Rows.boot_sorted (j0k a1 j02 hs) (he:=hs),fun d F R Z H Kn Ke Q s hw kn ke=>a2 d F R Z H _ Ke _ s hw (fun g d1 u F1 R1 H1 q1 c1 s1 r1=>?_) ke⟩;obtain ⟨q,us,rfl,h1,h2⟩:=r1 d1 F1 R1 H1 (Ch.refl _ _ _ _) s1;refine ⟨_,g d1,rfl,SqL.of (by rw [h1,j1b h2]),q1.1,fun l ns hl pn sn=>?_⟩;rw [j7v pn sn];obtain ⟨R',c3,s3,n3⟩:=j3i s1 hl (j10 (R:=R1) (H:=H1) (srt (g d1)));exact kn _ d1 _ _ F1 R' _ q1.2 (Ch.trans s s1.tab c1 c3) s3 n3
def cutL {Y:Type} (xs:List Y) (lo hi:Option Int):List Y:=(xs.drop (HT.sIx xs.length 0 lo)).take (HT.sIx xs.length xs.length hi - HT.sIx xs.length 0 lo)
theorem j60 {R:Rg} {H:Hp}:∀ {xs:List Y} {vs:List V} (n:Nat),Paired (rp R H) xs vs->Paired (rp R H) (xs.drop n) (vs.drop n)
 | _,_,0,r=>r
 | _,_,_ + 1,.nil=>.nil
 | _,_,n + 1,.cons _ t=>j60 n t
theorem j6z {R:Rg} {H:Hp}:∀ {xs:List Y} {vs:List V} (n:Nat),Paired (rp R H) xs vs->Paired (rp R H) (xs.take n) (vs.take n)
 | _,_,0,_=>.nil
 | _,_,_ + 1,.nil=>.nil
 | _,_,n + 1,.cons r t=>.cons r (j6z n t)
theorem j72 {R:Rg} {H:Hp} {xs:List Y} {vs:List V} (h:Paired (rp R H) xs vs) (lo hi:Option Int):Paired (rp R H) (cutL xs lo hi) (cutV vs lo hi):=by unfold cutL cutV;rw [<- Paired.length h];exact j6z _ (j60 _ h)
def OW (X:Cx) (E:XK) (T:Addr) (e:Option Expr) {D:Type} [Sls D] (w:Wf D (Option Int) D):Prop :=
 ∃ t,PO X e t/\∀ (d:D) (F R:Rg) (Z:St) (H:Hp) (Kn:Option Int->D->Prop) (Ke:Addr->D->Prop) (Q:Option Int->Hp->Prop),Stt T F R H d Z->w d Kn Ke ->
  (∀ x d' F' R' H',Kn x d'->Ch T F R H F' R' H'->Stt T F' R' H' d' Z->Q x H') ->
  (∀ C y d' F' R' H',Ke C d'->Ch T F R H F' R' H'->Stt T F' R' H' d' Z->E (.ref C) (some y) H')->t Z H Q
theorem k2d:OW X E T none (fun (d:D) Kn _=>Kn none d):=⟨_,j86,fun d F R Z H Kn Ke Q s hw kn _=>kn none d F R H hw (Ch.refl _ _ _ _) s⟩
theorem k2c {e:Expr} {w:Wf D Int D} (h:EW X E T e w):OW X E T (some e) (fun (d:D) Kn Ke=>w d (fun i d'=>Kn (some i) d') Ke):=by obtain ⟨t,a1,a2⟩:=h;exact ⟨_,j85 a1,fun d F R Z H Kn Ke Q s hw kn ke=>a2 d F R Z H _ Ke _ s hw (fun x d1 u F1 R1 H1 q1 c1 s1 r1=>⟨x,r1,kn _ d1 F1 R1 H1 q1 c1 s1⟩) ke⟩
theorem k32 {a:Expr} {lo hi:Option Expr} {p2:Pos} {wa:Wf D (D->List Y) D} {wl wh:Wf D (Option Int) D} (ha:ER X E T a wa) (hl:OW X E T lo wl) (hh:OW X E T hi wh) :
  EO X E T (.Subscript a (.Slice lo hi none p2) pos) (fun (d:D) (Kn:OL Y->D->Prop) Ke=>wa d (fun g d1=>wl d1 (fun l d2=>wh d2 (fun h d3=>Kn ⟨cutL (g d3) l h⟩ d3) Ke) Ke) Ke):=by
 obtain ⟨ta,a1,a2⟩:=ha;obtain ⟨tl,l1,l2⟩:=hl;obtain ⟨th,h1,h2⟩:=hh;refine ⟨_,j4y j8p a1 l1 h1,fun d F R Z H Kn Ke Q s hw kn ke=>?_⟩;refine a2 d F R Z H _ Ke _ s hw (fun g d1 u F1 R1 H1 q1 c1 s1 r1=>?_) ke;refine l2 d1 F1 R1 Z H1 _ Ke _ s1 q1 (fun l d2 F2 R2 H2 q2 c2 s2=>?_) fun C y d' F' R' H' k c s'=>ke C y d' F' R' H' k (Ch.trans s s1.tab c1 c) s';refine h2 d2 F2 R2 Z H2 _ Ke _ s2 q2 (fun h d3 F3 R3 H3 q3 c3 s3=>?_) fun C y d' F' R' H' k c s'=>ke C y d' F' R' H' k (Ch.trans s s1.tab c1 (Ch.trans s1 s2.tab c2 c)) s';obtain ⟨q,us,rfl,k1,k2⟩:=r1 d3 F3 R3 H3 (Ch.trans s1 s2.tab c2 c3) s3;refine ⟨q,us,rfl,SqL.of k1,fun p hp=>?_⟩;obtain ⟨R',c4,s4,n4⟩:=j3i s3 hp (j72 k2 l h);exact kn _ d3 _ _ F3 R' _ q3 (Ch.trans s s1.tab c1 (Ch.trans s1 s2.tab c2 (Ch.trans s2 s3.tab c3 c4))) s4 n4
def Cm (X:Cx) (op:CmpOp) (g:Y->β->Bool):Prop:=∃ r,OpR X (compareOp op) r/\∀ {R:Rg} {H:Hp} {x:Y} {y:β} {u v:V} {Q:VK},rp R H x u->rp R H y v->Q (.bl (g x y)) H->r u v H Q
def CmL (X:Cx) (op:CmpOp) (g:List Y->List β->Bool):Prop:=∃ r,OpR X (compareOp op) r/\∀ {R:Rg} {H:Hp} {x:List Y} {y:List β} {p q:Addr} {us vs:List V} {Q:VK},H p=some (.lst us)->Paired (rp R H) x us->H q=some (.lst vs)->Paired (rp R H) y vs->Q (.bl (g x y)) H->r (.ref p) (.ref q) H Q
def CmI (X:Cx) (op:CmpOp) (g:Y->List β->Bool):Prop:=∃ r,OpR X (compareOp op) r/\∀ {R:Rg} {H:Hp} {x:Y} {y:List β} {q:Addr} {u:V} {vs:List V} {Q:VK},rp R H x u->H q=some (.lst vs)->Paired (rp R H) y vs->Q (.bl (g x y)) H->r u (.ref q) H Q
theorem cmpI {op:CmpOp} {g:Int->Int->Bool} (ho:OpR X (compareOp op) (rI0 fun i j=>.bl (g i j))):Cm X op g:=⟨_,ho,fun h1 h2 k=>⟨_,_,h1,h2,k⟩⟩
theorem w1y:Cm X .Lt (fun i j:Int=>decide (i < j)):=cmpI w7z
theorem w6e:Cm X .Gt (fun i j:Int=>decide (j < i)):=cmpI w73
theorem w9b:Cm X .GtE (fun i j:Int=>decide (j<=i)):=cmpI op_ge
theorem j5u [DecidableEq Y] [Scal Y]:Cm X .Eq (fun x y:Y=>decide (x=y)):=⟨_,op_eq,fun h1 h2 k=>⟨(Scal.sc h1 h2).1,by rw [(Scal.sc h1 h2).2];exact k⟩⟩
theorem w6c [DecidableEq Y] [Scal Y]:Cm X .NotEq (fun x y:Y=>!decide (x=y)):=⟨_,op_ne,fun h1 h2 k=>⟨(Scal.sc h1 h2).1,by rw [(Scal.sc h1 h2).2];exact k⟩⟩
theorem k34:Cm X .Is (fun (x:Option Y) (_:Unit)=>x.isNone):=⟨_,w71,fun h1 h2 k=>⟨h2,by rw [k7i h1];exact k⟩⟩
theorem k9b:Cm X .IsNot (fun (x:Option Y) (_:Unit)=>!x.isNone):=⟨_,k7j,fun h1 h2 k=>⟨h2,by rw [k7i h1];exact k⟩⟩
theorem j34 [DecidableEq Y] [Dat Y] (hd:Dat.dp Y<=64) (x:Y):SeqAt.shaped (Dat.dat x)=true:=by show (PyData.canLay0 (Dat.dat x)&&decide ((Dat.dat x).depth<=64))=true;rw [Bool.and_eq_true];exact ⟨Dat.lay x,decide_eq_true (Nat.le_trans (Dat.dep x) hd)⟩
theorem j7k [DecidableEq Y] [Dat Y] (hu:X.A.units + 64 < cLine) (hd:Dat.dp (List Y)<=64:=by decide):CmL X .Eq (fun x y:List Y=>decide (x=y)):=⟨_,w74 hu,fun {R H x y p q us vs Q} h1 h2 h3 h4 k=>⟨_,_,RdS.lst (SqL.of h1) (j5t h2),RdS.lst (SqL.of h3) (j5t h4),j34 hd x,j34 hd y,Dat.nm x y,by
 have:=Dat.sm x y
 rw [show PySem.Spec.same (.list (x.map Dat.dat)) (.list (y.map Dat.dat))=decide (x=y) from this];exact k⟩⟩
theorem j7j [DecidableEq Y] [Dat Y] (hu:X.A.units + 64 < cLine) (hd:Dat.dp (List Y)<=64:=by decide):CmL X .NotEq (fun x y:List Y=>!decide (x=y)):=⟨_,w7y hu,fun {R H x y p q us vs Q} h1 h2 h3 h4 k=>⟨_,_,RdS.lst (SqL.of h1) (j5t h2),RdS.lst (SqL.of h3) (j5t h4),j34 hd x,j34 hd y,Dat.nm x y,by
 have:=Dat.sm x y
 rw [show PySem.Spec.same (.list (x.map Dat.dat)) (.list (y.map Dat.dat))=decide (x=y) from this];exact k⟩⟩
theorem j9m (k:Int) (ys:List Int):inV (.int k) (ys.map V.int)=decide (k∈ys):=by
 unfold inV;rw [List.any_map,Bool.eq_iff_iff,List.any_eq_true,decide_eq_true_eq];constructor
 ·rintro ⟨y,hy,e⟩;have:y=k:=by simpa [eqV] using e
  rw [<- this];exact hy
 ·intro h;exact ⟨k,h,by simp [eqV]⟩
theorem j7f (ys:List Int):(ys.map V.int).all j9q=true:=by rw [List.all_map,List.all_eq_true];intro x _;rfl
theorem w6d:CmI X .In (fun (x:Int) (ys:List Int)=>decide (x∈ys)):=⟨_,k0m,fun {R H x y q u vs Q} h1 h2 h3 k=>by
 have h1:u=V.int x:=h1;subst h1;refine ⟨q,vs,rfl,.inl (SqL.of h2),rfl,by rw [j1b h3];exact j7f y,?_⟩;rw [j1b h3,j9m]
 exact k⟩
theorem j9v:CmI X .NotIn (fun (x:Int) (ys:List Int)=>!decide (x∈ys)):=⟨_,k0l,fun {R H x y q u vs Q} h1 h2 h3 k=>by
 have h1:u=V.int x:=h1;subst h1;refine ⟨q,vs,rfl,.inl (SqL.of h2),rfl,by rw [j1b h3];exact j7f y,?_⟩;rw [j1b h3,j9m]
 exact k⟩
theorem j1w {a b:Expr} {op:CmpOp} {g:Y->β->Bool} {wa:Wf D Y D} {wb:Wf D β D} (C:Cm X op g) (ha:EW X E T a wa) (hb:EW X E T b wb) (hm:behindInMarks op b=false) :
  TW X E T (.Compare a [op] [b] pos) (fun (d:D) Kn Ke=>wa d (fun x d1=>wb d1 (fun y d2=>Kn (g x y) d2) Ke) Ke):=by
 obtain ⟨r,o1,o2⟩:=C;obtain ⟨ta,a1,a2⟩:=ha;obtain ⟨tb,b1,b2⟩:=hb;refine ⟨_,j23 o1 a1 b1 hm,fun d F R Z H Kn Ke Q s hw kn ke=>?_⟩;refine a2 d F R Z H _ Ke _ s hw (fun x d1 u F1 R1 H1 q1 c1 s1 r1=>?_) ke;refine b2 d1 F1 R1 Z H1 _ Ke _ s1 q1 (fun y d2 v F2 R2 H2 q2 c2 s2 r2=>?_) fun C y d' F' R' H' k c s'=>ke C y d' F' R' H' k (Ch.trans s s1.tab c1 c) s';exact o2 (s1.val c2 r1) r2 ⟨_,rfl,kn _ d2 F2 R2 H2 q2 (Ch.trans s s1.tab c1 c2) s2⟩
theorem w54 {a b:Expr} {op:CmpOp} {g:Y->β->Bool} {wa:Wf D Y D} {wb:Wf D β D} (C:Cm X op g) (ha:EW X E T a wa) (hb:EW X E T b wb) (hm:behindInMarks op b=false) :
  EW X E T (.Compare a [op] [b] pos) (fun (d:D) (Kn:Bool->D->Prop) Ke=>wa d (fun x d1=>wb d1 (fun y d2=>Kn (g x y) d2) Ke) Ke):=by
 obtain ⟨r,o1,o2⟩:=C;obtain ⟨ta,a1,a2⟩:=ha;obtain ⟨tb,b1,b2⟩:=hb;refine ⟨_,k13 o1 a1 b1 hm,fun d F R Z H Kn Ke Q s hw kn ke=>?_⟩;refine a2 d F R Z H _ Ke _ s hw (fun x d1 u F1 R1 H1 q1 c1 s1 r1=>?_) ke;refine b2 d1 F1 R1 Z H1 _ Ke _ s1 q1 (fun y d2 v F2 R2 H2 q2 c2 s2 r2=>?_) fun C y d' F' R' H' k c s'=>ke C y d' F' R' H' k (Ch.trans s s1.tab c1 c) s';exact o2 (s1.val c2 r1) r2 (kn _ d2 _ F2 R2 H2 q2 (Ch.trans s s1.tab c1 c2) s2 rfl)
theorem j4g {a b:Expr} {op:CmpOp} {g:List Y->List β->Bool} {wa:Wf D (D->List Y) D} {wb:Wf D (D->List β) D} (C:CmL X op g) (ha:ER X E T a wa) (hb:ER X E T b wb) (hm:behindInMarks op b=false) :
  TW X E T (.Compare a [op] [b] pos) (fun (d:D) Kn Ke=>wa d (fun x d1=>wb d1 (fun y d2=>Kn (g (x d2) (y d2)) d2) Ke) Ke):=by
 obtain ⟨r,o1,o2⟩:=C;obtain ⟨ta,a1,a2⟩:=ha;obtain ⟨tb,b1,b2⟩:=hb;refine ⟨_,j23 o1 a1 b1 hm,fun d F R Z H Kn Ke Q s hw kn ke=>?_⟩;refine a2 d F R Z H _ Ke _ s hw (fun x d1 u F1 R1 H1 q1 c1 s1 r1=>?_) ke;refine b2 d1 F1 R1 Z H1 _ Ke _ s1 q1 (fun y d2 v F2 R2 H2 q2 c2 s2 r2=>?_) fun C y d' F' R' H' k c s'=>ke C y d' F' R' H' k (Ch.trans s s1.tab c1 c) s';obtain ⟨p,us,rfl,h1,h2⟩:=r1 d2 F2 R2 H2 c2 s2;obtain ⟨q,vs,rfl,k1,k2⟩:=r2 d2 F2 R2 H2 (Ch.refl _ _ _ _) s2;exact o2 h1 h2 k1 k2 ⟨_,rfl,kn _ d2 F2 R2 H2 q2 (Ch.trans s s1.tab c1 c2) s2⟩
theorem k31 {a b:Expr} {op:CmpOp} {g:List Y->List β->Bool} {wa:Wf D (D->List Y) D} {wb:Wf D (D->List β) D} (C:CmL X op g) (ha:ER X E T a wa) (hb:ER X E T b wb) (hm:behindInMarks op b=false) :
  EW X E T (.Compare a [op] [b] pos) (fun (d:D) (Kn:Bool->D->Prop) Ke=>wa d (fun x d1=>wb d1 (fun y d2=>Kn (g (x d2) (y d2)) d2) Ke) Ke):=by
 obtain ⟨r,o1,o2⟩:=C;obtain ⟨ta,a1,a2⟩:=ha;obtain ⟨tb,b1,b2⟩:=hb;refine ⟨_,k13 o1 a1 b1 hm,fun d F R Z H Kn Ke Q s hw kn ke=>?_⟩;refine a2 d F R Z H _ Ke _ s hw (fun x d1 u F1 R1 H1 q1 c1 s1 r1=>?_) ke;refine b2 d1 F1 R1 Z H1 _ Ke _ s1 q1 (fun y d2 v F2 R2 H2 q2 c2 s2 r2=>?_) fun C y d' F' R' H' k c s'=>ke C y d' F' R' H' k (Ch.trans s s1.tab c1 c) s';obtain ⟨p,us,rfl,h1,h2⟩:=r1 d2 F2 R2 H2 c2 s2;obtain ⟨q,vs,rfl,k1,k2⟩:=r2 d2 F2 R2 H2 (Ch.refl _ _ _ _) s2;exact o2 h1 h2 k1 k2 (kn _ d2 _ F2 R2 H2 q2 (Ch.trans s s1.tab c1 c2) s2 rfl)
theorem j93 {a b:Expr} {op:CmpOp} {g:Y->List β->Bool} {wa:Wf D Y D} {wb:Wf D (D->List β) D} (C:CmI X op g) (ha:EW X E T a wa) (hb:ER X E T b wb) (hm:behindInMarks op b=false) :
  TW X E T (.Compare a [op] [b] pos) (fun (d:D) Kn Ke=>wa d (fun x d1=>wb d1 (fun y d2=>Kn (g x (y d2)) d2) Ke) Ke):=by
 obtain ⟨r,o1,o2⟩:=C;obtain ⟨ta,a1,a2⟩:=ha;obtain ⟨tb,b1,b2⟩:=hb;refine ⟨_,j23 o1 a1 b1 hm,fun d F R Z H Kn Ke Q s hw kn ke=>?_⟩;refine a2 d F R Z H _ Ke _ s hw (fun x d1 u F1 R1 H1 q1 c1 s1 r1=>?_) ke;refine b2 d1 F1 R1 Z H1 _ Ke _ s1 q1 (fun y d2 v F2 R2 H2 q2 c2 s2 r2=>?_) fun C y d' F' R' H' k c s'=>ke C y d' F' R' H' k (Ch.trans s s1.tab c1 c) s';obtain ⟨q,vs,rfl,k1,k2⟩:=r2 d2 F2 R2 H2 (Ch.refl _ _ _ _) s2;exact o2 (s1.val c2 r1) k1 k2 ⟨_,rfl,kn _ d2 F2 R2 H2 q2 (Ch.trans s s1.tab c1 c2) s2⟩
theorem w81 {a b:Expr} {op:CmpOp} {g:Y->List β->Bool} {wa:Wf D Y D} {wb:Wf D (D->List β) D} (C:CmI X op g) (ha:EW X E T a wa) (hb:ER X E T b wb) (hm:behindInMarks op b=false) :
  EW X E T (.Compare a [op] [b] pos) (fun (d:D) (Kn:Bool->D->Prop) Ke=>wa d (fun x d1=>wb d1 (fun y d2=>Kn (g x (y d2)) d2) Ke) Ke):=by
 obtain ⟨r,o1,o2⟩:=C;obtain ⟨ta,a1,a2⟩:=ha;obtain ⟨tb,b1,b2⟩:=hb;refine ⟨_,k13 o1 a1 b1 hm,fun d F R Z H Kn Ke Q s hw kn ke=>?_⟩;refine a2 d F R Z H _ Ke _ s hw (fun x d1 u F1 R1 H1 q1 c1 s1 r1=>?_) ke;refine b2 d1 F1 R1 Z H1 _ Ke _ s1 q1 (fun y d2 v F2 R2 H2 q2 c2 s2 r2=>?_) fun C y d' F' R' H' k c s'=>ke C y d' F' R' H' k (Ch.trans s s1.tab c1 c) s';obtain ⟨q,vs,rfl,k1,k2⟩:=r2 d2 F2 R2 H2 (Ch.refl _ _ _ _) s2;exact o2 (s1.val c2 r1) k1 k2 (kn _ d2 _ F2 R2 H2 q2 (Ch.trans s s1.tab c1 c2) s2 rfl)
theorem j1r {e:Expr} {w:Wf D Bool D} (h:EW X E T e w) (he:∀ whole,isTrue e X.env whole=(do let v <- whole;standAt e.pos;holding [v] (truthy v)):=by intro _;rfl):TW X E T e w:=by obtain ⟨t,a1,a2⟩:=h;exact ⟨_,w7q a1 he,fun d F R Z H Kn Ke Q s hw kn ke=>a2 d F R Z H _ Ke _ s hw (fun x d1 u F1 R1 H1 q1 c1 s1 r1=>⟨x,r1,kn _ d1 F1 R1 H1 q1 c1 s1⟩) ke⟩
theorem j14 {e:Expr} {w:Wf D Bool D} (h:TW X E T e w):TW X E T (.UnaryOp .Not e pos) (fun d Kn Ke=>w d (fun b d1=>Kn (!b) d1) Ke):=by obtain ⟨t,a1,a2⟩:=h;exact ⟨_,w7r a1,fun d F R Z H Kn Ke Q s hw kn ke=>a2 d F R Z H _ Ke _ s hw (fun x d1 F1 R1 H1 q1 c1 s1=>kn _ d1 F1 R1 H1 q1 c1 s1) ke⟩
def WW (X:Cx) (E:XK) (T:Addr) (e:Expr) {D:Type} [Sls D] (w:Wf D Bool D):Prop :=
 ∃ t,PW X e t/\∀ (d:D) (F R:Rg) (Z:St) (H:Hp) (Kn:Bool->D->Prop) (Ke:Addr->D->Prop) (Q:Bool->Hp->Prop),Stt T F R H d Z->w d Kn Ke ->
  (∀ x d' F' R' H',Kn x d'->Ch T F R H F' R' H'->Stt T F' R' H' d' Z->Q x H') ->
  (∀ C y d' F' R' H',Ke C d'->Ch T F R H F' R' H'->Stt T F' R' H' d' Z->E (.ref C) (some y) H')->t Z H Q
theorem tw_w {e:Expr} {w:Wf D Bool D} (h:WW X E T e w):TW X E T e w:=let ⟨t,a1,a2⟩:=h;⟨t,a1.pt,a2⟩
theorem j6g {a:Expr} {w:Wf D Bool D} (h:TW X E T a w):WW X E T (.BoolOp .And [a] pos) w:=let ⟨t,a1,a2⟩:=h;⟨_,w4j a1,a2⟩
theorem j6f {a:Expr} {w:Wf D Bool D} (h:TW X E T a w):WW X E T (.BoolOp .Or [a] pos) w:=let ⟨t,a1,a2⟩:=h;⟨_,w2h a1,a2⟩
theorem j6h {a b:Expr} {rest:List Expr} {wa wb:Wf D Bool D} (ha:TW X E T a wa) (hb:WW X E T (.BoolOp .And (b :: rest) pos) wb):WW X E T (.BoolOp .And (a :: b :: rest) pos) (fun d Kn Ke=>wa d (fun x d1=>if x=true then wb d1 Kn Ke else Kn false d1) Ke):=by
 obtain ⟨ta,a1,a2⟩:=ha;obtain ⟨tb,b1,b2⟩:=hb;refine ⟨_,w7o a1 b1,fun d F R Z H Kn Ke Q s hw kn ke=>?_⟩;refine a2 d F R Z H _ Ke _ s hw (fun x d1 F1 R1 H1 q1 c1 s1=>?_) ke
 cases x with
 | true=>exact b2 d1 F1 R1 Z H1 _ Ke _ s1 q1 (fun y d2 F2 R2 H2 q2 c2 s2=>kn _ d2 F2 R2 H2 q2 (Ch.trans s s1.tab c1 c2) s2) fun C y d' F' R' H' k c s'=>ke C y d' F' R' H' k (Ch.trans s s1.tab c1 c) s'
 | false=>exact kn _ d1 F1 R1 H1 q1 c1 s1
theorem j8i {a b:Expr} {rest:List Expr} {wa wb:Wf D Bool D} (ha:TW X E T a wa) (hb:WW X E T (.BoolOp .Or (b :: rest) pos) wb):WW X E T (.BoolOp .Or (a :: b :: rest) pos) (fun d Kn Ke=>wa d (fun x d1=>if x=true then Kn true d1 else wb d1 Kn Ke) Ke):=by
 obtain ⟨ta,a1,a2⟩:=ha;obtain ⟨tb,b1,b2⟩:=hb;refine ⟨_,w7n a1 b1,fun d F R Z H Kn Ke Q s hw kn ke=>?_⟩;refine a2 d F R Z H _ Ke _ s hw (fun x d1 F1 R1 H1 q1 c1 s1=>?_) ke
 cases x with
 | false=>exact b2 d1 F1 R1 Z H1 _ Ke _ s1 q1 (fun y d2 F2 R2 H2 q2 c2 s2=>kn _ d2 F2 R2 H2 q2 (Ch.trans s s1.tab c1 c2) s2) fun C y d' F' R' H' k c s'=>ke C y d' F' R' H' k (Ch.trans s s1.tab c1 c) s'
 | true=>exact kn _ d1 F1 R1 H1 q1 c1 s1
theorem k2q {a:Expr} {op} {w:Wf D Bool D} (h:EW X E T a w):EW X E T (.BoolOp op [a] pos) w:=let ⟨t,a1,a2⟩:=h;⟨_,w7u a1,a2⟩
theorem k8u {a b:Expr} {rest:List Expr} {wa wb:Wf D Bool D} (ha:EW X E T a wa) (hb:EW X E T (.BoolOp .And (b :: rest) pos) wb):EW X E T (.BoolOp .And (a :: b :: rest) pos) (fun (d:D) (Kn:Bool->D->Prop) Ke=>wa d (fun x d1=>if x=true then wb d1 Kn Ke else Kn false d1) Ke):=by
 obtain ⟨ta,a1,a2⟩:=ha;obtain ⟨tb,b1,b2⟩:=hb;refine ⟨_,w7w a1 b1,fun d F R Z H Kn Ke Q s hw kn ke=>?_⟩;refine a2 d F R Z H _ Ke _ s hw (fun x d1 u F1 R1 H1 q1 c1 s1 r1=>⟨x,r1,?_⟩) ke
 cases x with
 | true=>exact b2 d1 F1 R1 Z H1 _ Ke _ s1 q1 (fun y d2 v F2 R2 H2 q2 c2 s2 r2=>kn _ d2 v F2 R2 H2 q2 (Ch.trans s s1.tab c1 c2) s2 r2) fun C y d' F' R' H' k c s'=>ke C y d' F' R' H' k (Ch.trans s s1.tab c1 c) s'
 | false=>exact kn _ d1 _ F1 R1 H1 q1 c1 s1 rfl
theorem w8z {a:Expr} {w:Wf D Bool D} (h:EW X E T a w):EW X E T (.UnaryOp .Not a pos) (fun (d:D) (Kn:Bool->D->Prop) Ke=>w d (fun b d1=>Kn (!b) d1) Ke):=by obtain ⟨t,a1,a2⟩:=h;exact ⟨_,w7v a1,fun d F R Z H Kn Ke Q s hw kn ke=>a2 d F R Z H _ Ke _ s hw (fun x d1 u F1 R1 H1 q1 c1 s1 r1=>⟨x,r1,kn _ d1 _ F1 R1 H1 q1 c1 s1 rfl⟩) ke⟩
end
class Frl (τ:Type) [Ow τ]:Prop where
 fr:∀ {F R L:Rg} {H:Hp} {x:τ} {v:Option V},sl F R H x v->(∀ a,L a->∃ us,H a=some (.lst us))->sl F (fun a=>R a\/L a) H x v
class Nol (Y:Type) [Rep Y]:Prop where
 no:∀ {R L:Rg} {H:Hp} {x:Y} {v:V},rp R H x v->(∀ a,L a->∃ us,H a=some (.lst us))->rp (fun a=>R a\/L a) H x v
instance:Nol Int:=⟨fun h _=>h⟩
instance:Nol Bool:=⟨fun h _=>h⟩
theorem k2g {Y:Type} [Rep Y] [Nol Y] {R L:Rg} {H:Hp} (k:∀ a,L a->∃ us,H a=some (.lst us)):∀ {xs:List Y} {vs:List V},Paired (rp R H) xs vs->Paired (rp (fun a=>R a\/L a) H) xs vs
 | _,_,.nil=>.nil
 | _,_,.cons h t=>.cons (Nol.no h k) (k2g k t)
instance {Y:Type} [Rep Y] [Nol Y]:Nol (Tp Y):=⟨fun {R L H x v} h k=>by
 obtain ⟨a,vs,h1,h2,h3,h4⟩:=h
 exact ⟨a,vs,h1,fun z=>z.elim h2 fun q=>(by obtain ⟨us,e⟩:=k a q;rw [h3] at e;cases e),h3,k2g k h4⟩⟩
instance {Y:Type} [Rep Y] [Nol Y]:Frl Y:=⟨fun {F R L H x v} h k=>by
 obtain ⟨h1,u,e,h2⟩:=h
 exact ⟨h1,u,e,Nol.no h2 k⟩⟩
instance {Y:Type} [Rep Y] [Nol Y]:Frl (OL Y):=⟨fun {F R L H x v} h k=>by
 obtain ⟨a,vs,h1,h2,h3,h4⟩:=h
 exact ⟨a,vs,h1,h2,h3,k2g k h4⟩⟩
instance:Frl Un:=⟨fun h _=>h⟩
class FrS (P:Type) [Sls P]:Prop where
 fr:∀ {F R L:Rg} {H:Hp} {x:P} {v:St},rel F R H x v->(∀ a,L a->∃ us,H a=some (.lst us))->rel F (fun a=>R a\/L a) H x v
instance:FrS Unit:=⟨fun h _=>h⟩
instance {τ P:Type} [Ow τ] [Sls P] [Frl τ] [FrS P]:FrS (τ×P):=⟨fun h k=>by
 obtain ⟨v,Z',F1,F2,h1,h2,h3,h4⟩:=h
 exact ⟨v,Z',F1,F2,h1,h2,Frl.fr h3 k,FrS.fr h4 k⟩⟩
class LsO (P:Type) [Sls P]:Prop where
 ls:∀ {F R:Rg} {H:Hp} {x:P} {v:St},rel F R H x v->∀ a,F a->∃ us,H a=some (.lst us)
instance:LsO Unit:=⟨fun h a z=>absurd z (h.2 a)⟩
instance {Y P:Type} [Rep Y] [Sls P] [LsO P]:LsO (OL Y×P):=⟨fun {F R H x v} h a z=>by
 obtain ⟨v,Z',F1,F2,h1,h2,⟨b,vs,k1,k2,k3,k4⟩,h4⟩:=h;rcases (h2.all a).mp z with q | q
 ·rw [(k2 a).mp q];exact ⟨vs,k3⟩
 ·exact LsO.ls h4 a q⟩
abbrev Wo (R L:Rg):Rg:=fun a=>R a/\¬L a
theorem j46 (R L:Rg) (H:Hp):Ext (fun _=>False) R H (Wo R L) H:=⟨fun _ _ _ h=>h,fun a h=>.inl h.1⟩
theorem k8p {R L L':Rg} {H:Hp} (h:∀ a,L a->L' a):Ext (fun _=>False) (Wo R L) H (Wo R L') H:=⟨fun _ _ _ h=>h,fun a z=>.inl ⟨z.1,fun q=>z.2 (h a q)⟩⟩
theorem Sls.wk {D:Type} [Sls D] {F R R':Rg} {H:Hp} {d:D} {Z:St} (h:rel F R H d Z) (e:Ext (fun _=>False) R H R' H):rel F R' H d Z:=Sls.st h e (fun _ z=>z.elim) (fun _ _ z=>z)
theorem Ow.wk {τ:Type} [Ow τ] {F R R':Rg} {H:Hp} {d:τ} {Z:Option V} (h:sl F R H d Z) (e:Ext (fun _=>False) R H R' H):sl F R' H d Z:=Ow.st h e (fun _ z=>z.elim) (fun _ _ z=>z)
class Lb (Lc τ PO:Type) [Sls Lc] [Ow τ] [Sls PO]:Prop where
 fr:∀ {F R L R0:Rg} {H:Hp} {x:τ} {v:Option V} {l:Lc} {us:St},rel L R0 H l us->sl F R H x v->sl F (fun a=>R a\/L a) H x v
 fs:∀ {F R L R0:Rg} {H:Hp} {x:PO} {v:St} {l:Lc} {us:St},rel L R0 H l us->rel F R H x v->rel F (fun a=>R a\/L a) H x v
instance {Lc τ PO:Type} [Sls Lc] [Ow τ] [Sls PO] [Frl τ] [FrS PO] [LsO Lc]:Lb Lc τ PO:=⟨fun h k=>Frl.fr k (LsO.ls h),fun h k=>FrS.fr k (LsO.ls h)⟩
theorem w2y {R L:Rg} {H:Hp} (h:∀ a,¬L a):Ext (fun _=>False) R H (fun a=>R a\/L a) H:=⟨fun _ _ _ h=>h,fun a z=>z.elim .inl fun q=>absurd q (h a)⟩
instance (priority:=high) {τ PO:Type} [Ow τ] [Sls PO]:Lb Unit τ PO:=⟨fun h k=>Ow.wk k (w2y h.2),fun h k=>Sls.wk k (w2y h.2)⟩
structure Three (F F1 F2 F3:Rg):Prop where
 all:∀ a,F a↔F1 a\/F2 a\/F3 a
 d12:∀ a,F1 a->F2 a->False
 d13:∀ a,F1 a->F3 a->False
 d23:∀ a,F2 a->F3 a->False
def AL2 (X:Cx) (E:XK) (T:Addr) (es:List Expr) {D P PO B Lc:Type} [Sls D] [Sls P] [Sls PO] [Sls B] [Sls Lc] (mrg:B->Lc->PO->D) (w:D->(P->B->Lc->Prop)->(Addr->D->Prop)->Prop):Prop :=
 ∃ t,PA X es t/\∀ (d:D) (F R:Rg) (Z:St) (H:Hp) (Kn:P->B->Lc->Prop) (Ke:Addr->D->Prop) (Q:List V->Hp->Prop),Stt T F R H d Z->w d Kn Ke ->
  (∀ p b l vs us F1 F2 L F' R' H',Kn p b l->Ch T F R H F' R' H'->Std T F' R' H'->Three F' F1 F2 L->rel F1 (Wo R' L) H' p (vs.map some)->rel F2 R' H' b Z->rel L R' H' l us ->
   (∀ b' l' G1 G2 G3 F'' R'' H'' p',rel G1 R'' H'' p' (vs.map some)->rel G2 R'' H'' b' Z->rel G3 R'' H'' l' us->Three F'' G1 G2 G3->rel F'' R'' H'' (mrg b' l' p') Z)->Q vs H') ->
  (∀ C y d' F' R' H',Ke C d'->Ch T F R H F' R' H'->Stt T F' R' H' d' Z->E (.ref C) (some y) H')->t Z H Q
section
variable {X:Cx} {E:XK} {T:Addr} {D:Type} [Sls D] {pos:Pos}
theorem j0b:AL2 X E T [] (fun (b:D) (_:Unit) (_:Unit)=>b) (fun (d:D) (Kn:Unit->D->Unit->Prop) _=>Kn () d ()):=by refine ⟨_,j02,fun d F R Z H Kn Ke Q s hw kn _=>?_⟩;exact kn () d () [] [] (fun _=>False) F (fun _=>False) F R H hw (Ch.refl _ _ _ _) s.std ⟨fun a=>⟨fun z=>.inr (.inl z),fun z=>z.elim (fun q=>q.elim) fun z=>z.elim id fun q=>q.elim⟩,fun _ z=>z.elim,fun _ z=>z.elim,fun _ _ z=>z⟩ ⟨rfl,fun _ z=>z⟩ s.rel ⟨rfl,fun _ z=>z⟩ fun b' l' G1 G2 G3 F'' R'' H'' p' h1 h2 h3 t=>Sls.fq h2 fun a=>⟨fun z=>(t.all a).mpr (.inr (.inl z)),fun z=>((t.all a).mp z).elim (fun q=>absurd q (h1.2 a)) fun z=>z.elim id fun q=>absurd q (h3.2 a)⟩
theorem j0d {e:Expr} {es:List Expr} {Y P PO B Lc:Type} [Rep Y] [Sls P] [Sls PO] [Sls B] [Sls Lc] {mrg:B->Lc->PO->D} {we:Wf D Y D} {wr:D->(P->B->Lc->Prop)->(Addr->D->Prop)->Prop}
  (ha:EW X E T e we) (hr:AL2 X E T es mrg wr) (hs:starEach (e :: es) X.env=(false,eval e X.env) :: starEach es X.env:=by rfl) :
  AL2 X E T (e :: es) (fun (b:B) (l:Lc) (p:Un×PO)=>mrg b l p.2) (fun (d:D) (Kn:Y×P->B->Lc->Prop) Ke=>we d (fun x d1=>wr d1 (fun p b l=>Kn (x,p) b l) Ke) Ke):=by
 obtain ⟨ta,a1,a2⟩:=ha;obtain ⟨tr,b1,b2⟩:=hr;refine ⟨_,j0k a1 b1 hs,fun d F R Z H Kn Ke Q s hw kn ke=>?_⟩;refine a2 d F R Z H _ Ke _ s hw (fun x d1 u F1 R1 H1 q1 c1 s1 r1=>?_) ke;refine b2 d1 F1 R1 Z H1 _ Ke _ s1 q1 (fun p b l vs us G1 G2 L F' R' H' q2 c2 s2 t2 h1 h2 hl k=>?_) fun C y d' F' R' H' k c s'=>ke C y d' F' R' H' k (Ch.trans s s1.tab c1 c) s';refine kn (x,p) b l (u :: vs) us G1 G2 L F' R' H' q2 (Ch.trans s s1.tab c1 c2) s2 t2 ⟨some u,vs.map some,fun _=>False,G1,rfl,j2l G1,⟨fun _ z=>z,u,rfl,Rep.st (s1.val c2 r1) ((j46 R' L H').wide fun _ z=>z.elim)⟩,h1⟩ h2 hl fun b' l' L1 L2 L3 F'' R'' H'' p' h3 h4 h5 t=>?_;obtain ⟨v',Z',M1,M2,z1,z2,z3,z4⟩:=h3;injection z1 with _ z5;subst z5;exact k b' l' L1 L2 L3 F'' R'' H'' p'.2 (Sls.fq z4 (j4f z2 z3)) h4 h5 t
theorem j04 {x:Str} {es:List Expr} {i:Nat} {τ D1 P PO B B1 Lc:Type} [Ow τ] [Hs τ] [Sls D1] [Sls P] [Sls PO] [Sls B] [Sls B1] [Sls Lc] {mrg:B->Lc->PO->D} {wr:D->(P->B->Lc->Prop)->(Addr->D->Prop)->Prop}
  [A0:At i D τ D1] [A:At i B τ B1] [U:Pt i B1 τ B] (he:PE X (.Name x pos) (tVar i)) (hr:AL2 X E T es mrg wr) (hs:starEach (.Name x pos :: es) X.env=(false,eval (.Name x pos) X.env) :: starEach es X.env:=by rfl) :
  AL2 X E T (.Name x pos :: es) (fun (b:B1) (l:Lc) (p:τ×PO)=>mrg (U.put b p.1) l p.2) (fun (d:D) (Kn:τ×P->B1->Lc->Prop) Ke=>wr d (fun p b l=>Kn (A.get b,p) (A.hole b) l) Ke):=by
 obtain ⟨tr,b1,b2⟩:=hr;refine ⟨_,j0k he b1 hs,fun d F R Z H Kn Ke Q s hw kn ke=>?_⟩;obtain ⟨v,_,_,hv,_,hsl,_⟩:=A0.take s.rel;obtain ⟨u,rfl⟩:=Hs.has hsl;refine ⟨u,hv,b2 d F R Z H _ Ke _ s hw (fun p b l vs us G1 G2 L F' R' H' q2 c2 s2 t2 h1 h2 hl k=>?_) ke⟩;obtain ⟨v',M1,M2,z1,z2,z3,z4⟩:=A.take h2;rw [hv] at z1;cases z1;have m1:∀ a,M1 a->G2 a:=fun a m=>(z2.all a).mpr (.inl m);have m2:∀ a,M2 a->G2 a:=fun a m=>(z2.all a).mpr (.inr m);refine kn (A.get b,p) (A.hole b) l (u :: vs) us (fun a=>M1 a\/G1 a) M2 L F' R' H' q2 c2 s2 ⟨fun a=>?_,fun a m n=>?_,fun a m n=>?_,fun a m n=>t2.d23 a (m2 a m) n⟩ ⟨some u,vs.map some,M1,G1,rfl,⟨fun _=>Iff.rfl,fun a m n=>t2.d12 a n (m1 a m)⟩,Ow.wk z3 (j46 R' L H'),h1⟩ z4 hl fun b' l' L1 L2 L3 F'' R'' H'' p' h3 h4 h5 t=>?_
 ·rw [t2.all,z2.all];exact ⟨fun z=>z.elim (fun q=>.inl (.inr q)) fun z=>z.elim (fun z=>z.elim (fun q=>.inl (.inl q)) fun q=>.inr (.inl q)) fun q=>.inr (.inr q),fun z=>z.elim (fun z=>z.elim (fun q=>.inr (.inl (.inl q))) .inl) fun z=>z.elim (fun q=>.inr (.inl (.inr q))) fun q=>.inr (.inr q)⟩
 ·rcases m with m | m
  ·exact z2.dis a m n
  ·exact t2.d12 a m (m2 a n)
 ·rcases m with m | m
  ·exact t2.d23 a (m1 a m) n
  ·exact t2.d13 a m n
 ·obtain ⟨v',Z',N1,N2,y1,y2,y3,y4⟩:=h3;injection y1 with y5 y6;subst y5;subst y6;have tt:Two (fun a=>N1 a\/L2 a) N1 L2:=⟨fun _=>Iff.rfl,fun a m n=>t.d12 a ((y2.all a).mpr (.inl m)) n⟩;refine k _ l' N2 (fun a=>N1 a\/L2 a) L3 F'' R'' H'' p'.2 y4 (Pt.same (A:=U) h4 hv tt y3) h5 ⟨fun a=>?_,fun a m n=>?_,fun a m n=>t.d13 a ((y2.all a).mpr (.inr m)) n,fun a m n=>?_⟩
  ·rw [t.all,y2.all];exact ⟨fun z=>z.elim (fun z=>z.elim (fun q=>.inr (.inl (.inl q))) .inl) fun z=>z.elim (fun q=>.inr (.inl (.inr q))) fun q=>.inr (.inr q),fun z=>z.elim (fun q=>.inl (.inr q)) fun z=>z.elim (fun z=>z.elim (fun q=>.inl (.inl q)) fun q=>.inr (.inl q)) fun q=>.inr (.inr q)⟩
  ·rcases n with n | n
   ·exact y2.dis a n m
   ·exact t.d12 a ((y2.all a).mpr (.inr m)) n
  ·rcases m with m | m
   ·exact t.d13 a ((y2.all a).mpr (.inl m)) n
   ·exact t.d23 a m n
theorem j0p {x:Str} {es:List Expr} {i:Nat} {Y D1 P PO B B1 Lc:Type} [Rep Y] [Sls D1] [Sls P] [Sls PO] [Sls B] [Sls B1] [Sls Lc] {mrg:B->Lc->PO->D} {wr:D->(P->B->Lc->Prop)->(Addr->D->Prop)->Prop}
  [A0:At i D (OL Y) D1] [A:At i B (OL Y) B1] [U:Pt i B1 (OL Y) B] (he:PE X (.Name x pos) (tVar i)) (hr:AL2 X E T es mrg wr) (hs:starEach (.Name x pos :: es) X.env=(false,eval (.Name x pos) X.env) :: starEach es X.env:=by rfl) :
  AL2 X E T (.Name x pos :: es) (fun (b:B1) (l:OL Y×Lc) (p:Un×PO)=>mrg (U.put b l.1) l.2 p.2) (fun (d:D) (Kn:List Y×P->B1->OL Y×Lc->Prop) Ke=>wr d (fun p b l=>Kn ((A.get b).l,p) (A.hole b) (A.get b,l)) Ke):=by
 obtain ⟨tr,b1,b2⟩:=hr;refine ⟨_,j0k he b1 hs,fun d F R Z H Kn Ke Q s hw kn ke=>?_⟩;obtain ⟨v,_,_,hv,_,⟨a0,_,rfl,_⟩,_⟩:=A0.take s.rel;refine ⟨_,hv,b2 d F R Z H _ Ke _ s hw (fun p b l vs us G1 G2 L F' R' H' q2 c2 s2 t2 h1 h2 hl k=>?_) ke⟩;obtain ⟨v',M1,M2,z1,z2,z3,z4⟩:=A.take h2;rw [hv] at z1;cases z1;obtain ⟨a,ws,e1,e2,e3,e4⟩:=id z3;cases e1;have m1:∀ a,M1 a->G2 a:=fun a m=>(z2.all a).mpr (.inl m);have m2:∀ a,M2 a->G2 a:=fun a m=>(z2.all a).mpr (.inr m);refine kn ((A.get b).l,p) (A.hole b) (A.get b,l) (.ref a0 :: vs) (some (.ref a0) :: us) G1 M2 (fun c=>M1 c\/L c) F' R' H' q2 c2 s2 ⟨fun a=>?_,fun a m n=>t2.d12 a m (m2 a n),fun a m n=>?_,fun a m n=>?_⟩ ⟨some (.ref a0),vs.map some,fun _=>False,G1,rfl,j2l G1,⟨fun _ z=>z,_,rfl,a0,ws,rfl,fun z=>z.2 (.inl ((e2 a0).mpr rfl)),e3,j05 ((j46 R' _ H').wide fun _ z=>z.elim) e4⟩,Sls.wk h1 (k8p fun _ z=>.inr z)⟩ z4 ⟨_,us,M1,L,rfl,⟨fun _=>Iff.rfl,fun a m n=>t2.d23 a (m1 a m) n⟩,z3,hl⟩ fun b' l' L1 L2 L3 F'' R'' H'' p' h3 h4 h5 t=>?_
 ·rw [t2.all,z2.all];exact ⟨fun z=>z.elim .inl fun z=>z.elim (fun z=>z.elim (fun q=>.inr (.inr (.inl q))) fun q=>.inr (.inl q)) fun q=>.inr (.inr (.inr q)),fun z=>z.elim .inl fun z=>z.elim (fun q=>.inr (.inl (.inr q))) fun z=>z.elim (fun q=>.inr (.inl (.inl q))) fun q=>.inr (.inr q)⟩
 ·rcases n with n | n
  ·exact t2.d12 a m (m1 a n)
  ·exact t2.d13 a m n
 ·rcases n with n | n
  ·exact z2.dis a n m
  ·exact t2.d23 a (m2 a m) n
 ·obtain ⟨v',Z',N1,N2,y1,y2,y3,y4⟩:=h3;injection y1 with _ y6;subst y6;obtain ⟨v2,Z2,K1,K2,x1,x2,x3,x4⟩:=h5;injection x1 with x5 x6;subst x5;subst x6;have tt:Two (fun a=>K1 a\/L2 a) K1 L2:=⟨fun _=>Iff.rfl,fun a m n=>t.d23 a n ((x2.all a).mpr (.inl m))⟩;refine k _ l'.2 L1 (fun a=>K1 a\/L2 a) K2 F'' R'' H'' p'.2 (Sls.fq y4 (j4f y2 y3)) (Pt.same (A:=U) h4 hv tt x3) x4 ⟨fun a=>?_,fun a m n=>?_,fun a m n=>t.d13 a m ((x2.all a).mpr (.inr n)),fun a m n=>?_⟩
  ·rw [t.all,x2.all];exact ⟨fun z=>z.elim .inl fun z=>z.elim (fun q=>.inr (.inl (.inr q))) fun z=>z.elim (fun q=>.inr (.inl (.inl q))) fun q=>.inr (.inr q),fun z=>z.elim .inl fun z=>z.elim (fun z=>z.elim (fun q=>.inr (.inr (.inl q))) fun q=>.inr (.inl q)) fun q=>.inr (.inr (.inr q))⟩
  ·rcases n with n | n
   ·exact t.d13 a m ((x2.all a).mpr (.inl n))
   ·exact t.d12 a m n
  ·rcases m with m | m
   ·exact x2.dis a m n
   ·exact t.d23 a m ((x2.all a).mpr (.inr n))
theorem j9y {P PO B Lc τ:Type} [Sls P] [Sls PO] [Sls B] [Sls Lc] [Ow τ] [Lb Lc τ PO] {mrg:B->Lc->PO->D} {wf:Wf P τ PO} {F R F1 F2 L:Rg} {H:Hp} {b:B} {l:Lc} {p:P} {Z:St} {vs:List V} {us:St} {Kn:τ->D->Prop} {Ke:Addr->D->Prop} {Q:VK}
  (s:Std T F R H) (t:Three F F1 F2 L) (hp:rel F1 (Wo R L) H p (vs.map some)) (hb:rel F2 R H b Z) (hl:rel L R H l us) (km:∀ b' l' G1 G2 G3 F'' R'' H'' p',rel G1 R'' H'' p' (vs.map some)->rel G2 R'' H'' b' Z->rel G3 R'' H'' l' us->Three F'' G1 G2 G3->rel F'' R'' H'' (mrg b' l' p') Z)
  (hw:wf p (fun x p'=>Kn x (mrg b l p')) (fun C p'=>Ke C (mrg b l p')))
  (kn:∀ x d' v M1 M2 R' H',Kn x d'->Ch T F R H (fun a=>M1 a\/M2 a) R' H'->Stt T M2 R' H' d' Z->Nw T M1 M2 R' H' x v->Q v H')
  (ke:∀ C y d' F' R' H',Ke C d'->Ch T F R H F' R' H'->Stt T F' R' H' d' Z->E (.ref C) (some y) H'):spW T wf vs H Q E:=by
 have i1:∀ a,F1 a->F a:=fun a h=>(t.all a).mpr (.inl h);have i2:∀ a,F2 a->F a:=fun a h=>(t.all a).mpr (.inr (.inl h));have i3:∀ a,L a->F a:=fun a h=>(t.all a).mpr (.inr (.inr h));have s1:Stt T F1 (Wo R L) H p (vs.map some):=⟨hp,fun a h=>⟨s.sub a (i1 a h),fun z=>t.d13 a h z⟩,fun a h=>s.liv a h.1,s.tab,⟨s.tabR,fun z=>s.tabF (i3 T z)⟩,fun h=>s.tabF (i1 T h)⟩
 -- the region behind it: what the callee left and what was lent
 have ex:∀ {G R':Rg} {H':Hp},Ch T F1 (Wo R L) H G R' H'->Ext (fun a=>F1 a\/a=T) R H (fun a=>R' a\/L a) H':=fun c=>⟨fun b o n h=>c.keep b o (fun z=>n (.inl z)) (fun z=>n (.inr z)) h,fun a h=>h.elim (fun z=>(c.newR a z).elim (fun q=>.inl q.1) .inr) fun z=>.inl (s.sub a (i3 a z))⟩;have gs:∀ a,(F1 a\/a=T)->R a:=fun a h=>h.elim (fun z=>s.sub a (i1 a z)) fun q=>by rw [q];exact s.tabR
 have fr:∀ {G R':Rg} {H':Hp},Ch T F1 (Wo R L) H G R' H'->rel F2 (fun a=>R' a\/L a) H' b Z:=fun c=>Sls.st hb (ex c) gs fun a h z=>z.elim (fun q=>t.d12 a q h) fun q=>s.tabF (by rw [<- q];exact i2 a h);have frl:∀ {G R':Rg} {H':Hp},Ch T F1 (Wo R L) H G R' H'->rel L (fun a=>R' a\/L a) H' l us:=fun c=>Sls.st hl (ex c) gs fun a h z=>z.elim (fun q=>t.d13 a q h) fun q=>s.tabF (by rw [<- q];exact i3 a h)
 have nF:∀ {G R':Rg} {H':Hp},Ch T F1 (Wo R L) H G R' H'->∀ a,G a->F2 a\/L a->False:=fun c a g f=>by
  rcases c.newF a g with q | q
  ·exact f.elim (t.d12 a q) (t.d13 a q)
  ·exact s.liv a (s.sub a (f.elim (i2 a) (i3 a))) q
 have nR:∀ {G R':Rg} {H':Hp},Ch T F1 (Wo R L) H G R' H'->∀ a,L a->¬R' a:=fun c a h z=>by
  rcases c.newR a z with q | q
  ·exact q.2 h
  ·exact s.liv a (s.sub a (i3 a h)) q
 have ch:∀ {G R':Rg} {H':Hp},Ch T F1 (Wo R L) H G R' H'->Ch T F R H (fun a=>G a\/F2 a\/L a) (fun a=>R' a\/L a) H':=fun c=>⟨fun b o n m h=>c.keep b o (fun z=>n (i1 b z)) m h,(ex c).new,fun a h=>h.elim (fun q=>(c.newF a q).elim (fun z=>.inl (i1 a z)) .inr) fun q=>.inl (q.elim (i2 a) (i3 a)),fun a h n=>.inl (c.left a ⟨h,fun z=>n (i3 a z)⟩ fun z=>n (i1 a z))⟩;have sF2:∀ {G R':Rg} {H':Hp},Ch T F1 (Wo R L) H G R' H'->∀ a,F2 a->R' a:=fun c a f=>c.left a ⟨s.sub a (i2 a f),fun z=>t.d23 a f z⟩ fun z=>t.d12 a z f
 have liv:∀ {G R':Rg} {H':Hp},Ch T F1 (Wo R L) H G R' H'->(∀ a,R' a->H' a≠none)->∀ a,R' a\/L a->H' a≠none:=fun c h a z=>z.elim (h a) fun q=>by
  cases e:H a with
  | none=>exact absurd e (s.liv a (s.sub a (i3 a q)))
  | some o=>rw [c.keep a o (fun z=>t.d13 a z q) (fun z=>s.tabF (by rw [<- z];exact i3 a q)) e];simp
 refine ⟨F1,Wo R L,p,_,_,s1,hw,fun x p' v M1 M2 R' H' q c s' n=>?_,fun C y p' F' R' H' q c s'=>?_⟩
 ·have nM:=nF c;have kl:=frl c;have key:=ch c;refine kn x _ v M1 (fun a=>M2 a\/F2 a\/L a) (fun a=>R' a\/L a) H' q ⟨key.keep,key.newR,fun a h=>key.newF a (h.elim (fun z=>.inl (.inl z)) fun z=>z.elim (fun q=>.inl (.inr q)) .inr),key.left⟩ ⟨km b l M2 F2 L _ _ H' p' (Lb.fs τ kl s'.rel) (fr c) (frl c) ⟨fun _=>Iff.rfl,fun a m f=>nM a (.inr m) (.inl f),fun a m f=>nM a (.inr m) (.inr f),t.d23⟩,fun a h=>h.elim (fun z=>.inl (s'.sub a z)) fun z=>z.elim (fun q=>.inl (sF2 c a q)) .inr,liv c s'.liv,s'.tab,.inl s'.tabR,fun h=>h.elim s'.tabF fun z=>z.elim (fun q=>s.tabF (i2 T q)) fun q=>s.tabF (i3 T q)⟩ ⟨Lb.fr PO kl n.is,fun a m=>.inl (n.sub a m),fun a m z=>z.elim (n.dis a m) fun z=>nM a (.inl m) z,n.tab⟩
 ·have nM:=nF c;have kl:=frl c;exact ke C y _ (fun a=>F' a\/F2 a\/L a) (fun a=>R' a\/L a) H' q (ch c) ⟨km b l F' F2 L _ _ H' p' (Lb.fs τ kl s'.rel) (fr c) (frl c) ⟨fun _=>Iff.rfl,fun a m f=>nM a m (.inl f),fun a m f=>nM a m (.inr f),t.d23⟩,fun a h=>h.elim (fun z=>.inl (s'.sub a z)) fun z=>z.elim (fun q=>.inl (sF2 c a q)) .inr,liv c s'.liv,s'.tab,.inl s'.tabR,fun h=>h.elim s'.tabF fun z=>z.elim (fun q=>s.tabF (i2 T q)) fun q=>s.tabF (i3 T q)⟩
theorem w1z {P PO B τ:Type} [Sls P] [Sls PO] [Sls B] [Ow τ] {mrg:B->PO->D} {wf:Wf P τ PO} {F R F1 F2:Rg} {H:Hp} {b:B} {p:P} {Z:St} {vs:List V} {Kn:τ->D->Prop} {Ke:Addr->D->Prop} {Q:VK}
  (s:Std T F R H) (t:Two F F1 F2) (hp:rel F1 R H p (vs.map some)) (hb:rel F2 R H b Z) (km:∀ b' G1 G2 F'' R'' H'' p',rel G1 R'' H'' p' (vs.map some)->rel G2 R'' H'' b' Z->Two F'' G1 G2->rel F'' R'' H'' (mrg b' p') Z)
  (hw:wf p (fun x p'=>Kn x (mrg b p')) (fun C p'=>Ke C (mrg b p')))
  (kn:∀ x d' v M1 M2 R' H',Kn x d'->Ch T F R H (fun a=>M1 a\/M2 a) R' H'->Stt T M2 R' H' d' Z->Nw T M1 M2 R' H' x v->Q v H')
  (ke:∀ C y d' F' R' H',Ke C d'->Ch T F R H F' R' H'->Stt T F' R' H' d' Z->E (.ref C) (some y) H'):spW T wf vs H Q E :=
 j9y (Lc:=Unit) (L:=fun _=>False) (l:=()) (us:=[]) (mrg:=fun b _ p=>mrg b p) s ⟨fun a=>(t.all a).trans ⟨fun z=>z.elim .inl fun q=>.inr (.inl q),fun z=>z.elim .inl fun q=>q.elim .inr False.elim⟩,t.dis,fun _ _ z=>z,fun _ _ z=>z⟩ (Sls.wk hp (j46 _ _ _)) hb ⟨rfl,fun _ z=>z⟩
  (fun b' _ G1 G2 G3 F'' R'' H'' p' h1 h2 h3 t'=>km b' G1 G2 F'' R'' H'' p' h1 h2 ⟨fun a=>(t'.all a).trans ⟨fun z=>z.elim .inl fun q=>q.elim .inr fun q=>absurd q (h3.2 a),fun z=>z.elim .inl fun q=>.inr (.inl q)⟩,t'.d12⟩) hw kn ke
theorem j6d {P PO B Lc τ:Type} [Sls P] [Sls PO] [Sls B] [Sls Lc] [Ow τ] [Lb Lc τ PO] {mrg:B->Lc->PO->D} {wf:Wf P τ PO} {wa:D->(P->B->Lc->Prop)->(Addr->D->Prop)->Prop} {k:Nat} {f:Addr} {fd:FuncData} {ps:List Str} {x:Str} {p pos:Pos} {e:Expr} {es:List Expr}
  (F:FnOk X.prog X.w X.K X.mg X.base (CX1 X.prog X.w) k f fd ps (spW T wf)) (hr:Room k X.A) (hg:Gl X x) (hm:X.mg x=some (.ref f)) (hk:PySem.W.keepIn X.K (.ref f)=true) (hb:Binds X.K fd ps []) (hx:j2u (CX1 X.prog X.w) X E)
  (ha:AL2 X E T (e :: es) mrg wa) (hdb:(x == ("__debug__":Str))=false:=by decide) (he:starEach (e :: es) X.env=(false,eval e X.env) :: starEach es X.env:=by rfl) (hpl:(backTo pos (starEach es X.env)).any (·.1)=false:=by rfl) :
  EO X E T (.Call (.Name x p) (e :: es) [] pos) (fun (d:D) (Kn:τ->D->Prop) Ke=>wa d (fun p b l=>wf p (fun x p'=>Kn x (mrg b l p')) (fun C p'=>Ke C (mrg b l p'))) Ke):=by
 obtain ⟨t,a1,a2⟩:=ha;refine ⟨_,w4y F hr hg hm hk hb .nil hx a1 hdb he hpl,fun d F' R Z H Kn Ke Q s hw kn ke=>?_⟩;refine a2 d F' R Z H _ Ke _ s hw (fun p b l vs us F1 F2 L G R' H' q c s' tw h1 h2 h3 km=>?_) ke;rw [List.append_nil];exact j9y s' tw h1 h2 h3 km q (fun x d' v M1 M2 R'' H'' q' c' s'' n=>kn x d' v M1 M2 R'' H'' q' (Ch.trans s s'.tab c c') s'' n) fun C y d' F'' R'' H'' q' c' s''=>ke C y d' F'' R'' H'' q' (Ch.trans s s'.tab c c') s''
class Obj (τ:Type) [Ow τ] (K:PySem.W.Frag) (C:Addr) (m:Str):Prop where
 ob:∀ {F R:Rg} {H:Hp} {x:τ} {v:V},sl F R H x (some v)->∃ a dx fs,v=.ref a/\H a=some (.ins C dx fs)/\fs.lookup m=none
end
section
variable {X:Cx} {E:XK} {T:Addr} {ms:List Nat} {n:Nat} {D PO τ:Type} [Sls D] [Sls PO] [Ow τ] {pos:Pos} {Y:Type} [Rep Y]
theorem j4i {F R:Rg} {H:Hp} {a:Addr} {o:HO}:Ext (fun c=>c=a) R H R (upd H a o):=⟨fun b u n h=>by rw [j0g n];exact h,fun _ h=>.inl h⟩
theorem j9f {i:Nat} {D0:Type} [Sls D0] [A:At i D (OL Y) D0] [U:Pt i D0 (OL Y) D] {F R:Rg} {H:Hp} {d:D} {Z:St} (s:Stt T F R H d Z):∃ a vs,Z[i]?=some (some (.ref a))/\H a=some (.lst vs)/\Paired (rp R H) (A.get d).l vs /\
  ∀ (ys:List Y) (us:List V),Paired (rp R H) ys us->Ch T F R H F R (upd H a (.lst us))/\Stt T F R (upd H a (.lst us)) (U.put (A.hole d) ⟨ys⟩) Z:=by
 obtain ⟨v,F1,F2,h1,h2,⟨a,vs,rfl,h4,h5,h6⟩,h7⟩:=A.take s.rel;have aF:F a:=(h2.all a).mpr (.inl ((h4 a).mpr rfl));have aT:a≠T:=fun z=>s.tabF (by rw [<- z];exact aF);refine ⟨a,vs,h1,h5,h6,fun ys us hp=>?_⟩;have ex:=j4i (F:=F) (R:=R) (H:=H) (a:=a) (o:=.lst us);have gs:∀ c,c=a->R c:=fun c z=>by rw [z];exact s.sub a aF
 have k:∀ b u,b≠a->H b=some u->upd H a (.lst us) b=some u:=fun b u z e=>by rw [j0g z];exact e
 refine ⟨⟨fun b o n _ e=>k b o (fun z=>n (by rw [z];exact aF)) e,fun _ h=>.inl h,fun _ h=>.inl h,fun _ h _=>h⟩,Pt.same (A:=U) (Sls.st h7 ex gs fun c z q=>h2.dis c ((h4 c).mpr q) z) h1 h2 ⟨a,us,rfl,h4,j0h,j05 (ex.wide gs) hp⟩,s.sub,fun c z=>?_,?_,s.tabR,s.tabF⟩
 ·by_cases e:c=a
  ·rw [e,j0h];simp
  ·rw [j0g e];exact s.liv c z
 ·obtain ⟨ps,e,t⟩:=s.tab;exact ⟨ps,k _ _ (fun z=>aT z.symm) e,t⟩
theorem j2n {x:Str} {e:Expr} (i:Nat) {p1 p2 p3:Pos} {D0:Type} [Sls D0] [A:At i D (OL Y) D0] [U:Pt i D0 (OL Y) D] [J:Pj D PO n] {we:Wf D Y D} (hn:PE X (.Name x p1) (tVar i)) (h:EW X E T e we)
  (hb:∀ {t:TA},PA X [e] t->PS X (.Expr (.Call (.Attribute (.Name x p1) "append" p2) [e] [] p3) pos) (k5u (tBM X.K "list" k1x (tVar i) t))) (hs:starEach [e] X.env=(false,eval e X.env) :: starEach [] X.env:=by rfl) :
  S1 X E T ms n (.Expr (.Call (.Attribute (.Name x p1) "append" p2) [e] [] p3) pos) (fun (d:D) (Kn:D->Prop) (Kr:τ->PO->Prop) Ke=>we d (fun y d'=>(A.get d').l.length < sizeLine/\Kn (U.put (A.hole d') ⟨(A.get d').l++[y]⟩)) fun C d'=>Ke C (J.pj d')):=by
 obtain ⟨t,h1,h2⟩:=h;refine ⟨_,hb (j0k h1 j02 hs),fun d F R Z H Kn Kr Ke En s hw kn kr ke=>?_⟩;obtain ⟨a,vs,g1,g2,g3,_⟩:=j9f (i:=i) s;refine ⟨_,g1,.inl ⟨rfl,vs,SqL.of g2⟩,h2 d F R Z H _ _ _ s hw (fun y d' v F' R' H' q c s' r=>?_) fun C y d' F' R' H' q c s'=>?_⟩
 ·obtain ⟨a',vs',k1,k2,k3,k4⟩:=j9f (i:=i) s';rw [g1] at k1;cases k1;obtain ⟨c2,s2⟩:=k4 _ _ (j2j k3 (.cons r .nil));exact ⟨a,vs',v,rfl,rfl,k2,by rw [<- Paired.length k3];exact q.1,kn _ F' R' _ Z q.2 (Ch.trans s s'.tab c c2) s2 (Ag.refl _ _)⟩
 ·obtain ⟨G,g1,g2⟩:=j1o (PO:=PO) s';exact ke C y _ G R' H' q (c.less g1) g2
theorem j70 {R:Rg} {H:Hp} {x:Y} {v:V} (r:rp R H x v):∀ {xs:List Y} {vs:List V} (j:Nat),Paired (rp R H) xs vs->Paired (rp R H) (xs.set j x) (vs.set j v)
 | _,_,_,.nil=>.nil
 | _,_,0,.cons _ t=>.cons r t
 | _,_,j + 1,.cons q t=>.cons q (j70 r j t)
theorem w39 {x:Str} {e k:Expr} (i:Nat) {p1 p2:Pos} {D0:Type} [Sls D0] [A:At i D (OL Y) D0] [U:Pt i D0 (OL Y) D] [J:Pj D PO n] {we:Wf D Y D} {wk:Wf D Int D} (hn:PE X (.Name x p1) (tVar i)) (h:EW X E T e we) (hk:EW X E T k wk)
  (hb:∀ {te ti:TE},PE X e te->PE X k ti->PS X (.Assign [.Subscript (.Name x p1) k p2] e pos) (tAsg te (gSub (tVar i) ti w7m))) :
  S1 X E T ms n (.Assign [.Subscript (.Name x p1) k p2] e pos) (fun (d:D) (Kn:D->Prop) (Kr:τ->PO->Prop) Ke=>we d (fun y d1=>wk d1 (fun j d2=>∃ m,ixN (A.get d2).l.length j=some m/\Kn (U.put (A.hole d2) ⟨(A.get d2).l.set m y⟩)) fun C d'=>Ke C (J.pj d')) fun C d'=>Ke C (J.pj d')):=by
 obtain ⟨t,h1,h2⟩:=h;obtain ⟨ti,i1,i2⟩:=hk
 have kp:∀ {F R F' R':Rg} {H H':Hp} {C y:Addr} {d':D} {Z:St} {Ke:Addr->PO->Prop},(∀ C y p' F' R' H',Ke C p'->Ch T F R H F' R' H'->Stt T F' R' H' p' (Z.take n)->E (.ref C) (some y) H')->Ke C (J.pj d')->Ch T F R H F' R' H'->Stt T F' R' H' d' Z->E (.ref C) (some y) H':=fun ke q c s'=>by obtain ⟨G,g1,g2⟩:=j1o (PO:=PO) s';exact ke _ _ _ G _ _ q (c.less g1) g2
 refine ⟨_,hb h1 i1,fun d F R Z H Kn Kr Ke En s hw kn kr ke=>?_⟩;refine h2 d F R Z H _ _ _ s hw (fun y d1 v F1 R1 H1 q1 c1 s1 r1=>?_) fun C y d' F' R' H' q c s'=>kp ke q c s';obtain ⟨a,vs,g1,g2,g3,_⟩:=j9f (i:=i) s1;refine ⟨_,g1,i2 d1 F1 R1 Z H1 _ _ _ s1 q1 (fun j d2 u F2 R2 H2 q2 c2 s2 r2=>?_) fun C y d' F' R' H' q c s'=>kp ke q (Ch.trans s s1.tab c1 c) s'⟩;obtain ⟨m,m1,m2⟩:=q2;obtain ⟨a',vs',k1,k2,k3,k4⟩:=j9f (i:=i) s2;rw [g1] at k1;cases k1;obtain ⟨c3,s3⟩:=k4 _ _ (j70 (s1.val c2 r1) m k3);have r2:u=V.int j:=r2;subst r2;exact ⟨a,vs',j,m,rfl,rfl,k2,by rw [<- Paired.length k3];exact m1,kn _ F2 R2 _ Z m2 (Ch.trans s s1.tab c1 (Ch.trans s1 s2.tab c2 c3)) s3 (Ag.refl _ _)⟩
end
def GW (X:Cx) (T:Addr) (ms:List Nat) (tg:Expr) {D D1 Y:Type} [Sls D] [Sls D1] [Rep Y] (g:D->Y->D1):Prop :=
 ∃ t,PG X tg t/\∀ (d:D) (F R:Rg) (Z:St) (H:Hp) (x:Y) (v:V) (Q:St->Hp->Prop),Stt T F R H d Z->rp R H x v->(∀ F' Z',(∀ a,F' a->F a)->Stt T F' R H (g d x) Z'->Ag ms Z Z'->Q Z' H)->t v Z H Q
section
variable {X:Cx} {T:Addr} {ms:List Nat} {D:Type} [Sls D] {pos:Pos} {Y β:Type} [Rep Y] [Rep β]
theorem k3x {i:Nat} {τ0 D0 D1:Type} [Ow τ0] [Sls D0] [Sls D1] [A:At i D τ0 D0] [U:Pt i D0 Y D1] {F R:Rg} {H:Hp} {d:D} {Z:St} {x:Y} {v:V} (s:Stt T F R H d Z) (r:rp R H x v) :
  ∃ F',(∀ a,F' a->F a)/\Stt T F' R H (U.put (A.hole d) x) (Z.set i (some v)):=by
 have m:Nw T (fun _=>False) F R H x v:=⟨⟨fun _ z=>z,v,rfl,r⟩,fun _ z=>z.elim,fun _ z=>z.elim,fun z=>z⟩;obtain ⟨G,g1,g2⟩:=w0i (i:=i) s m;exact ⟨G,fun a h=>(g1 a h).elim (fun z=>z.elim) id,g2⟩
theorem j03 {x:Str} (i:Nat) {τ0 D0 D1:Type} [Ow τ0] [Sls D0] [Sls D1] [A:At i D τ0 D0] [U:Pt i D0 Y D1] (hp:PG X (.Name x pos) (k0w i)) (hm:i∉ms):GW X T ms (.Name x pos) (fun (d:D) (x:Y)=>U.put (A.hole d) x) :=
 ⟨_,hp,fun d F R Z H x v Q s r k=>by
  obtain ⟨F',f1,f2⟩:=k3x (i:=i) s r
  exact k F' _ f1 f2 (Ag.set hm)⟩
theorem j9o {tg:Expr} (i j:Nat) {τ0 τ1 D0 D1 D2 D3:Type} [Ow τ0] [Ow τ1] [Sls D0] [Sls D1] [Sls D2] [Sls D3] [A:At i D τ0 D0] [U:Pt i D0 Y D1] [A2:At j D1 τ1 D2] [U2:Pt j D2 β D3] (hp:PG X tg (gTup X.K 2 (k8k (k0w i) (k8k (k0w j) gNil)))) (hi:i∉ms) (hj:j∉ms) :
  GW X T ms tg (fun (d:D) (x:Y×β)=>U2.put (A2.hole (U.put (A.hole d) x.1)) x.2) :=
 ⟨_,hp,fun d F R Z H x v Q s r k=>by
  obtain ⟨a,u,w,rfl,_,h3,h4,h5⟩:=r;obtain ⟨F',f1,f2⟩:=k3x (i:=i) s h4;obtain ⟨F2,f3,f4⟩:=k3x (i:=j) f2 h5
  exact ⟨a,[u,w],rfl,SqT.of h3,rfl,u,[w],rfl,w,[],rfl,rfl,k F2 _ (fun a h=>f1 a (f3 a h)) f4 ((Ag.set hi).trans (Ag.set hj))⟩⟩
end
structure ItP {Y:Type} [Rep Y] (J:It) (xs:List Y) (Ps:Rg->Hp->Prop):Prop where
 go:∀ {R:Rg} {H:Hp} {i:Nat},Ps R H->i < xs.length->J.go i H
 yld:∀ {R:Rg} {H:Hp} {i:Nat} {v:V} {H':Hp},Ps R H->(∀ a,R a->H a≠none)->i < xs.length->J.yld i H v H'->(H'=H\/∃ p o,H p=none/\H'=upd H p o)/\∃ x,xs[i]?=some x/\rp R H' x v
 stop:∀ {R:Rg} {H:Hp},Ps R H->J.stop xs.length H
def IW (X:Cx) (E:XK) (T:Addr) (is:List Nat) (tg e:Expr) {D B Y:Type} [Sls D] [Sls B] [Rep Y] (back:B->List Y->D) (w:D->(List Y->B->Prop)->(Addr->D->Prop)->Prop):Prop :=
 ∃ t,PI X tg e t/\∀ (d:D) (F R:Rg) (Z:St) (H:Hp) (Kn:List Y->B->Prop) (Ke:Addr->D->Prop) (Rk:It->Hp->Prop),Stt T F R H d Z->w d Kn Ke ->
  (∀ xs b J Ps F' F1 F2 R' H',Kn xs b->Ch T F R H F' R' H'->Std T F' R' H'->Two F' F1 F2->rel F2 R' H' b Z->ItP J xs Ps->Ps R' H' ->
   (∀ {G Ra Rb:Rg} {Ha Hb:Hp},Ps Ra Ha->(∀ a,G a->Ra a)->(∀ a,F1 a->¬G a)->Ext G Ra Ha Rb Hb->Ps Rb Hb) ->
   (∀ b' G2 F'' R'' H'' Z',Ps R'' H''->rel G2 R'' H'' b' Z'->Ag is Z Z'->Two F'' F1 G2->rel F'' R'' H'' (back b' xs) Z')->Rk J H') ->
  (∀ C y d' F' R' H',Ke C d'->Ch T F R H F' R' H'->Stt T F' R' H' d' Z->E (.ref C) (some y) H')->t Z H Rk
section
variable {X:Cx} {E:XK} {T:Addr} {is:List Nat} {D:Type} [Sls D] {pos:Pos} {Y β:Type} [Rep Y] [Rep β] {tg:Expr}
theorem itp_list {K:PySem.W.Frag} {a:Addr} {xs:List Y} {vs:List V}:ItP (Itl K a) xs (fun R H=>H a=some (.lst vs)/\Paired (rp R H) xs vs) where
 go:=fun {R H i} p h=>by obtain ⟨v,e,_⟩:=j1p (i:=i) (x:=xs[i]) p.2 (by simp [h]);exact ⟨vs,v,SqL.of p.1,e⟩
 yld:=fun {R H i v H'} p _ hi y=>by obtain ⟨e,y⟩:=y;subst e;have y':=y vs (SqL.of p.1);obtain ⟨u,e,r⟩:=j1p (i:=i) (x:=xs[i]) p.2 (by simp [hi]);rw [y'] at e;cases e;exact ⟨.inl rfl,_,by simp [hi],r⟩
 stop:=fun {R H} p=>⟨vs,SqL.of p.1,by rw [Paired.length p.2];exact Nat.le_refl _⟩
theorem j17 {e:Expr} {w:Wf D (List Y) D} (h:EW X E T e w):IW X E T is tg e (fun (b:D) (_:List Y)=>b) w:=by obtain ⟨t,h1,h2⟩:=h;refine ⟨_,k10 h1,fun d F R Z H Kn Ke Rk s hw kn ke=>h2 d F R Z H _ _ _ s hw (fun xs d' v F' R' H' q c s' r=>?_) ke⟩;obtain ⟨a,vs,rfl,r1,r2,r3⟩:=r;refine ⟨a,rfl,⟨vs,SqL.of r2⟩,kn xs d' _ (fun R H=>(H a=some (.lst vs)/\Paired (rp R H) xs vs)/\¬R a) F' (fun _=>False) F' R' H' q c s'.std (j2l F') s'.rel ⟨fun p=>itp_list.go p.1,fun p=>itp_list.yld p.1,fun p=>itp_list.stop p.1⟩ ⟨⟨r2,r3⟩,r1⟩ (fun p gs nf ex=>?_) fun b' G2 F'' R'' H'' Z' p h g t=>Sls.fq h (j4f t fun _ z=>z)⟩;have na:¬_:=fun z=>p.2 (gs a z);exact ⟨⟨ex.keep a _ na p.1.1,j05 (ex.wide gs) p.1.2⟩,ex.not p.2 p.1.1⟩
theorem k3u {x:Str} (i:Nat) {B:Type} [Sls B] [A:At i D (OL Y) B] [U:Pt i B (OL Y) D] (hn:PE X (.Name x pos) (tVar i)) (hi:i∈is):IW X E T is tg (.Name x pos) (fun (b:B) (xs:List Y)=>U.put b ⟨xs⟩) (fun (d:D) (Kn:List Y->B->Prop) _=>Kn (A.get d).l (A.hole d)):=by refine ⟨_,k10 hn,fun d F R Z H Kn Ke Rk s hw kn ke=>?_⟩;obtain ⟨v,F1,F2,h1,h2,⟨a,vs,rfl,h4,h5,h6⟩,h7⟩:=A.take s.rel;refine ⟨_,h1,a,rfl,⟨vs,SqL.of h5⟩,kn _ _ _ (fun R H=>H a=some (.lst vs)/\Paired (rp R H) (A.get d).l vs) F F1 F2 R H hw (Ch.refl _ _ _ _) s.std h2 h7 itp_list ⟨h5,h6⟩ (fun p gs nf ex=>⟨ex.keep a _ (nf a ((h4 a).mpr rfl)) p.1,j05 (ex.wide gs) p.2⟩) fun b' G2 F'' R'' H'' Z' p h g t=>?_⟩;exact Pt.same (A:=U) h (by rw [g.2 i hi];exact h1) t ⟨a,vs,rfl,h4,p.1,p.2⟩
def rng (lo hi:Int):List Int:=(List.range (hi - lo).toNat).map fun (i:Nat)=>lo + (i:Int)
theorem j1m (lo hi:Int):(rng lo hi).length=(hi - lo).toNat:=by unfold rng;rw [List.length_map,List.length_range]
theorem w4h {lo hi:Int} {i:Nat} (h:i < (hi - lo).toNat):(rng lo hi)[i]?=some (lo + (i:Int)):=by unfold rng;rw [List.getElem?_map,List.getElem?_range h];rfl
theorem k0u {lo hi:Int}:ItP (Itr lo (hi - lo).toNat) (rng lo hi) (fun _ _=>True) where
 go:=fun {R H i} _ h=>by rw [j1m] at h;exact h
 yld:=fun {R H i v H'} _ _ hi y=>by obtain ⟨e,y⟩:=y;subst e y;rw [j1m] at hi;exact ⟨.inl rfl,_,w4h hi,rfl⟩
 stop:=fun {R H} _=>by rw [j1m];exact Nat.le_refl _
theorem j29 {a:Expr} {p:Pos} {wa:Wf D Int D} (hg:Gl X "range") (hm:X.mg "range"=none) (ha:EW X E T a wa) (hs:starEach [a] X.env=(false,eval a X.env) :: starEach [] X.env:=by rfl) (hs1:starEach [a] X.env=[(false,eval a X.env)]:=by rfl) :
  IW X E T is tg (.Call (.Name "range" p) [a] [] pos) (fun (b:D) (_:List Int)=>b) (fun (d:D) Kn Ke=>wa d (fun j d'=>(-(2 ^ 62)<=j/\j < 2 ^ 62)/\Kn (rng 0 j) d') Ke):=by
 obtain ⟨t,h1,h2⟩:=ha;refine ⟨_,k60 hg hm (j0k h1 j02 hs) hs1,fun d F R Z H Kn Ke Rk s hw kn ke=>h2 d F R Z H _ _ _ s hw (fun j d' v F' R' H' q c s' r=>?_) ke⟩;have r:v=V.int j:=r;subst r;refine ⟨j,rfl,q.1.1,q.1.2,?_⟩;have:=kn (rng 0 j) d' (Itr 0 (j - 0).toNat) (fun _ _=>True) F' (fun _=>False) F' R' H' q.2 c s'.std (j2l F') s'.rel k0u trivial (fun _ _ _ _=>trivial) fun b' G2 F'' R'' H'' Z' p h g t=>Sls.fq h (j4f t fun _ z=>z);rw [Int.sub_zero] at this;exact this
theorem k0t {a b:Expr} {p:Pos} {wa wb:Wf D Int D} (hg:Gl X "range") (hm:X.mg "range"=none) (ha:EW X E T a wa) (hb:EW X E T b wb) (hpi:∀ {ta:TA},PA X [a,b] ta->PI X tg (.Call (.Name "range" p) [a,b] [] pos) (w8q ta))
  (hs:starEach [a,b] X.env=(false,eval a X.env) :: starEach [b] X.env:=by rfl) (hs2:starEach [b] X.env=(false,eval b X.env) :: starEach [] X.env:=by rfl) :
  IW X E T is tg (.Call (.Name "range" p) [a,b] [] pos) (fun (b:D) (_:List Int)=>b) (fun (d:D) Kn Ke=>wa d (fun i d1=>wb d1 (fun j d'=>(-(2 ^ 62)<=i/\i < 2 ^ 62/\-(2 ^ 62)<=j/\j < 2 ^ 62)/\Kn (rng i j) d') Ke) Ke):=by
 obtain ⟨t,h1,h2⟩:=ha;obtain ⟨tb,b1,b2⟩:=hb;refine ⟨_,hpi (j0k h1 (j0k b1 j02 hs2) hs),fun d F R Z H Kn Ke Rk s hw kn ke=>h2 d F R Z H _ _ _ s hw (fun i d1 u F1 R1 H1 q1 c1 s1 r1=>?_) ke⟩;refine b2 d1 F1 R1 Z H1 _ _ _ s1 q1 (fun j d' v F' R' H' q c s' r=>?_) fun C y d' F' R' H' k c s'=>ke C y d' F' R' H' k (Ch.trans s s1.tab c1 c) s';have r1:u=V.int i:=r1;have r:v=V.int j:=r;subst r;subst r1;exact ⟨i,j,rfl,q.1,kn (rng i j) d' (Itr i (j - i).toNat) (fun _ _=>True) F' (fun _=>False) F' R' H' q.2 (Ch.trans s s1.tab c1 c) s'.std (j2l F') s'.rel k0u trivial (fun _ _ _ _=>trivial) fun b' G2 F'' R'' H'' Z' p h g t=>Sls.fq h (j4f t fun _ z=>z)⟩
end
def wFor {Y B PO τ:Type} (b:Y->B->(B->Prop)->(τ->PO->Prop)->(Addr->PO->Prop)->Prop):List Y->B->(B->Prop)->(τ->PO->Prop)->(Addr->PO->Prop)->Prop
 | [],d,Kn,_,_=>Kn d
 | x :: xs,d,Kn,Kr,Ke=>b x d (fun d'=>wFor b xs d' Kn Kr Ke) Kr Ke
section
variable {X:Cx} {E:XK} {T:Addr} {ms mb is:List Nat} {n:Nat} {D B D1 D2 PO τ Y:Type} [Sls D] [Sls B] [Sls D1] [Sls D2] [Sls PO] [Ow τ] [Rep Y] {pos:Pos} {tg iter:Expr} {body:List Stmt}
theorem Ch.big {F G R F' R':Rg} {H H':Hp} (c:Ch T F R H F' R' H') (g:∀ a,F a->G a):Ch T G R H F' R' H':=⟨fun b o n m h=>c.keep b o (fun z=>n (g b z)) m h,c.newR,fun a h=>(c.newF a h).elim (fun z=>.inl (g a z)) .inr,fun a h n=>c.left a h fun z=>n (g a z)⟩
theorem Ch.beside {F F1 F2 R F' R':Rg} {H H':Hp} (t:Two F F1 F2) (c:Ch T F2 R H F' R' H'):Ch T F R H (fun a=>F1 a\/F' a) R' H':=⟨fun b o n m h=>c.keep b o (fun z=>n ((t.all b).mpr (.inr z))) m h,c.newR,fun a h=>h.elim (fun z=>.inl ((t.all a).mpr (.inl z))) fun z=>(c.newF a z).elim (fun z=>.inl ((t.all a).mpr (.inr z))) .inr,fun a h n=>c.left a h fun z=>n ((t.all a).mpr (.inr z))⟩
theorem Ch.trans' {F R F1 R1 F2 R2:Rg} {H H1 H2:Hp} (s:Std T F R H) (t1:j9z H1 T) (a:Ch T F R H F1 R1 H1) (b:Ch T F1 R1 H1 F2 R2 H2):Ch T F R H F2 R2 H2:=by
 have nF1:∀ c,¬F c->H c≠none->¬F1 c:=fun c n h z=>by
  rcases a.newF c z with q | q
  ·exact n q
  ·exact h q
 have back:∀ c,H1 c=none->¬ (F c)->H c=none:=fun c h n=>by
  cases e:H c with
  | none=>rfl
  | some o =>
   have nt:c≠T:=fun z=>by rw [z] at h;exact j31 t1 h
   rw [a.keep c o n nt e] at h;cases h
 refine ⟨fun c o n t h=>b.keep c o (nF1 c n (by rw [h];simp)) t (a.keep c o n t h),fun c h=>?_,fun c h=>?_,fun c h n=>b.left c (a.left c h n) (nF1 c n (s.liv c h))⟩
 ·rcases b.newR c h with q | q
  ·exact a.newR c q
  ·by_cases hf:F c
   ·exact .inl (s.sub c hf)
   ·exact .inr (back c q hf)
 ·rcases b.newF c h with q | q
  ·exact a.newF c q
  ·by_cases hf:F c
   ·exact .inl hf
   ·exact .inr (back c q hf)
theorem k0z {Y:Type} {xs:List Y} {i:Nat} {x:Y} (h:xs[i]?=some x):xs.drop i=x :: xs.drop (i + 1):=by have hi:=(List.getElem?_eq_some_iff.mp h);rw [List.drop_eq_getElem_cons hi.1,hi.2]
theorem Ag.sub {ms mb:List Nat} {Z Z':St} (a:Ag mb Z Z') (h:∀ i∈ms,i∈mb):Ag ms Z Z':=⟨a.1,fun i hi=>a.2 i (h i hi)⟩
theorem j2g {back:B->List Y->D} {wi:D->(List Y->B->Prop)->(Addr->D->Prop)->Prop} {g:B->Y->D1} {wb:D1->(D2->Prop)->(τ->PO->Prop)->(Addr->PO->Prop)->Prop} [Gf:Fg D2 B] [J:Pj D PO n] (dp:Dep PO ms n) (hp:PassesOwn (model X.prog X.w) X.A X.env X.xe) (hc:X.calm=true)
  (hi:IW X E T is tg iter back wi) (hg:GW X T mb tg g) (hb:SW X E T mb n body wb) (h1:∀ i∈ms,i∈mb) (h2:∀ i∈is,i∈mb) (hs:∀ x,foldedSetIterable iter X.env x=pure x:=by intro _;rfl) :
  S1 X E T ms n (.For tg iter body [] pos) (fun (d:D) (Kn:D->Prop) (Kr:τ->PO->Prop) Ke=>wi d (fun xs b=>wFor (fun x b Kn' Kr Ke=>wb (g b x) (fun d2=>Kn' (Gf.fg d2)) Kr Ke) xs b (fun b'=>Kn (back b' xs)) Kr Ke) fun C d'=>Ke C (J.pj d')):=by
 obtain ⟨ti,i1,i2⟩:=hi;obtain ⟨tg',g1,g2⟩:=hg;obtain ⟨tb,b1,b2⟩:=hb;refine ⟨_,k6t hp hc i1 g1 b1 hs,fun d F R Z H Kn Kr Ke En s hw kn kr ke=>?_⟩;refine i2 d F R Z H _ _ _ s hw (fun xs b Jt Ps F' F1 F2 R' H' q c s' tw hr ip ps pk pb=>?_) fun C y d' F' R' H' q c s'=>?_
 ·-- the loop
  refine ⟨fun i m Z1 H1=>m=xs.length - i/\i<=xs.length/\∃ b1 G F1' R1,Ch T F' R' H' G R1 H1/\Std T G R1 H1/\Two G F1 F1'/\rel F1' R1 H1 b1 Z1/\Ps R1 H1/\Ag mb Z Z1/\wFor (fun x b Kn' Kr Ke=>wb (g b x) (fun d2=>Kn' (Gf.fg d2)) Kr Ke) (xs.drop i) b1 (fun b'=>Kn (back b' xs)) Kr Ke,
   ⟨_,rfl,Nat.zero_le _,b,F',F2,R',Ch.refl _ _ _ _,s',tw,hr,ps,Ag.refl _ _,q⟩,?_⟩
  rintro i m Z1 H1 ⟨rfl,hi,b1,G,F1',R1,c1,s1,t1,r1,p1,a1,w1⟩;have cc:=Ch.trans s s'.tab c c1;by_cases hlt:i < xs.length
  ·refine .inr ⟨ip.go p1 hlt,fun Z' H2=>∃ b2 G2 F2' R2,Ch T F' R' H' G2 R2 H2/\Std T G2 R2 H2/\Two G2 F1 F2'/\rel F2' R2 H2 b2 Z'/\Ps R2 H2/\Ag mb Z Z'/\wFor (fun x b Kn' Kr Ke=>wb (g b x) (fun d2=>Kn' (Gf.fg d2)) Kr Ke) (xs.drop (i + 1)) b2 (fun b'=>Kn (back b' xs)) Kr Ke,fun Z' H2 p=>⟨xs.length - (i + 1),by omega,rfl,hlt,p⟩,fun x H2 y=>?_⟩;obtain ⟨hH,x',ex,rx⟩:=ip.yld p1 s1.liv hlt y
   -- the heap behind the iterator's step
   have st2:Ch T G R1 H1 G R1 H2/\Std T G R1 H2/\rel F1' R1 H2 b1 Z1/\Ps R1 H2:=by
    rcases hH with e | ⟨p,o,hp,e⟩
    ·subst e;exact ⟨Ch.refl _ _ _ _,s1,r1,p1⟩
    ·subst e;have k:∀ b u,H1 b=some u->upd H1 p o b=some u:=fun b u e=>by rw [j0g (j0m e hp)];exact e
     have ex:Ext (fun _=>False) R1 H1 R1 (upd H1 p o):=⟨fun b u _ e=>k b u e,fun a h=>.inl h⟩;refine ⟨⟨fun b u _ _ e=>k b u e,fun a h=>.inl h,fun a h=>.inl h,fun a h _=>h⟩,⟨s1.sub,fun a z=>?_,?_,s1.tabR,s1.tabF⟩,Sls.st r1 ex (fun _ z=>z.elim) (fun _ _ z=>z),pk p1 (fun _ z=>z.elim) (fun _ _ z=>z) ex⟩
     ·cases e:H1 a with
      | none=>exact absurd e (s1.liv a z)
      | some u=>rw [k a u e];simp
     ·obtain ⟨qs,e,t⟩:=s1.tab;exact ⟨qs,k _ _ e,t⟩
   obtain ⟨c2,s2,r2,p2⟩:=st2;have f1':∀ a,F1' a->G a:=fun a h=>(t1.all a).mpr (.inr h);have S2:Stt T F1' R1 H2 b1 Z1:=⟨r2,fun a h=>s2.sub a (f1' a h),s2.liv,s2.tab,s2.tabR,fun h=>s2.tabF (f1' T h)⟩;rw [k0z ex] at w1;refine g2 b1 F1' R1 Z1 H2 x' x _ S2 rx fun F3 Z2 f3 S3 a3=>?_;have c12:=Ch.trans' s' s1.tab c1 c2;have c012:=Ch.trans s s'.tab c c12;have t3:∀ a,F1 a->F3 a->False:=fun a h k=>t1.dis a h (f3 a k);refine b2 _ F3 R1 Z2 H2 _ Kr Ke _ S3 w1 (fun d2 F4 R4 H4 Z4 q4 c4 S4 a4=>?_) (fun x p' v M1 M2 R4 H4 q4 c4 S4 n4=>?_) fun C y p' F4 R4 H4 q4 c4 S4=>?_
   ·obtain ⟨F5,f5,r5⟩:=Gf.le S4.rel
    have t4:∀ a,F1 a->F4 a->False:=fun a h k=>by
     rcases c4.newF a k with z | z
     ·exact t3 a h z
     ·exact s2.liv a (s2.sub a ((t1.all a).mpr (.inl h))) z
    have c4':Ch T G R1 H2 (fun a=>F1 a\/F5 a) R4 H4:=(Ch.beside (F1:=F1) (F:=fun a=>F1 a\/F3 a) ⟨fun _=>Iff.rfl,t3⟩ (c4.less f5)).big fun a h=>h.elim (fun z=>(t1.all a).mpr (.inl z)) fun z=>f1' a (f3 a z);have sF1:∀ a,F1 a->R4 a:=fun a h=>c4.left a (s2.sub a ((t1.all a).mpr (.inl h))) fun z=>t3 a h z;refine ⟨Gf.fg d2,fun a=>F1 a\/F5 a,F5,R4,Ch.trans' s' s2.tab c12 c4',⟨fun a h=>h.elim (sF1 a) fun z=>S4.sub a (f5 a z),S4.liv,S4.tab,S4.tabR,fun h=>h.elim (fun z=>s2.tabF ((t1.all T).mpr (.inl z))) fun z=>S4.tabF (f5 T z)⟩,⟨fun _=>Iff.rfl,fun a h k=>t4 a h (f5 a k)⟩,r5,?_,(a1.trans a3).trans a4,q4⟩;exact pk p2 (G:=fun a=>F3 a\/a=T) (fun a h=>h.elim (S3.sub a) fun z=>by rw [z];exact s2.tabR) (fun a h z=>z.elim (t3 a h) fun z=>s2.tabF ((t1.all T).mpr (.inl (by rw [<- z];exact h)))) c4.ext
   ·refine kr x p' v M1 M2 R4 H4 q4 (Ch.trans s s2.tab c012 (c4.big fun a h=>f1' a (f3 a h))) ⟨dp.dp ((a1.trans a3).sub h1) S4.rel,S4.sub,S4.liv,S4.tab,S4.tabR,S4.tabF⟩ n4
   ·exact ke C y p' F4 R4 H4 q4 (Ch.trans s s2.tab c012 (c4.big fun a h=>f1' a (f3 a h))) ⟨dp.dp ((a1.trans a3).sub h1) S4.rel,S4.sub,S4.liv,S4.tab,S4.tabR,S4.tabF⟩
  ·have e:i=xs.length:=by omega
   subst e;rw [List.drop_length] at w1;exact .inl ⟨ip.stop p1,kn _ G R1 H1 Z1 w1 cc ⟨pb b1 F1' G R1 H1 Z1 p1 r1 (a1.sub h2) t1,s1.sub,s1.liv,s1.tab,s1.tabR,s1.tabF⟩ (a1.sub h1)⟩
 ·obtain ⟨G,g1,g2⟩:=j1o (PO:=PO) s';exact ke C y _ G R' H' q (c.less g1) g2
end
end WL
namespace L2
open PySem PySem.Spec PyProof.Rows
section
variable {X:Cx} {elt iter tg:Expr} {scope:Scope} {cl:List (Str×Addr)} {T Fr:List Str} {idx:List Nat} {wi:TI} {pos:Pos} {ifs:List Expr}
theorem j7i {pins:List (Addr×Obj)} {Z:St} {s2:Shared} {H2:Hp} {J:It} {fp:List Addr} {it:Addr} {tn:Nat->Heap->Prop} {E:Value->Shared->Prop} {RR:Value->Addr->Result->Shared->Prop} {P:List V->Hp->Prop} (hcm:X.calm=true)
  (B:BScope X scope cl T Fr idx) 
  (I2:Inv X pins Z H2 s2) (Tn:Turn X.prog X.w X.K tg J fp it tn) (st2:tn 0 s2.heap) (f2:∀ b∈fp,FpOk X pins H2 b)
  (hb:∀ s₀ H₀ C ex pn,∃ (g:TG) (tt:TT) (te:TE),(PG (blk X scope cl (T++Fr) s₀ H₀ C ex pn) tg g/\PTs (blk X scope cl (T++Fr) s₀ H₀ C ex pn) ifs tt/\PE (blk X scope cl (T++Fr) s₀ H₀ C ex pn) elt te)/\∃ W:Nat->Nat->List V->St->Hp->Prop,(∃ m,W 0 m [] (j2y T idx Z) H2)/\∀ i m ys Z' H,W i m ys Z' H->(J.stop i H/\P ys H)\/(J.go i H/\ys.length < sizeLine/\∀ x H',J.yld i H x H'->g x Z' H' fun Z2 H2=>tt Z2 H2 fun b H3=>if b=true then te Z2 H3 fun y H4=>∃ m',m' < m/\W (i + 1) m' (ys++[y]) Z2 H4 else ∃ m',m' < m/\W (i + 1) m' ys Z2 H3))
  (hRR:∀ (D C:Addr) (s':Shared) (H':Hp) (ys:List V),H' D=none->P ys H'->Inv X pins Z (upd H' D (.lst ys)) s'->(∃ m,s'.heap.Ns C m)->(upd H' D (.lst ys)) C=none->C≠X.env.locals->X.s₀.heap.objs.size<=C->(∀ x c,X.env.cells.lookup x=some c->c≠C)->(∀ p∈X.pn++pins,p.1≠C)->RR (.ref D) C (.ok .next) s') :
  wpAny (model X.prog X.w) X.A (newList []) (fun acc s₃=>wpAny (model X.prog X.w) X.A (newFunctionEnv scope X.env.globals cl [] X.env.qual none .none (some X.env)) (fun cenv s₄ =>
   codeAny (model X.prog X.w) X.A (.compStart (.ListComp elt [⟨tg,iter,ifs,0⟩] scope pos) 0 (.ref it) acc { cenv with scope:=relabel scope X.env}) (RR acc cenv.locals) s₄) E s₃) E s2:=by
 refine wpAny_newObj_type (wpAny_newFunctionEnv B.nocell (by intro y hy;simp at hy) (fun h4 ns4 sb4=>?_) B.kind);dsimp only at ns4 sb4 ⊢;have hk3:∀ b o,s2.heap.get? b=some o->(s2.heap.push { cls:=.type "list",dict:=none,data:=.seq ([]:List Value).toArray}).get? b=some o:=fun b o e=>Heap.get?_push_of_some _ e;have oD3:(s2.heap.push { cls:=.type "list",dict:=none,data:=.seq ([]:List Value).toArray}).get? s2.heap.objs.size=some { cls:=.type "list",dict:=none,data:=.seq ([]:List Value).toArray}:=Heap.get?_push_size _ rfl;have sz3:(s2.heap.push { cls:=.type "list",dict:=none,data:=.seq ([]:List Value).toArray}).objs.size=s2.heap.objs.size + 1:=Heap.size_push _ _;generalize s2.heap.push { cls:=.type "list",dict:=none,data:=.seq ([]:List Value).toArray}=h3 at ns4 sb4 hk3 oD3 sz3 ⊢;have I3:Inv X pins Z H2 { s2 with heap:=h3}:=I2.kept (t':=s2.toks) hk3;have Dfresh:H2 s2.heap.objs.size=none:=I2.hok.fresh (Nat.le_refl _);have hk4:∀ b o,h3.get? b=some o->h4.get? b=some o:=fun b o e=>sb4.extBut b o (Nat.ne_of_lt (Heap.lt_size e)) (Heap.get?_push_of_some _ e);have Cfresh:H2 h3.objs.size=none:=I3.hok.fresh (Nat.le_refl _);have neDC:s2.heap.objs.size≠h3.objs.size:=by rw [sz3];exact Nat.ne_of_lt (Nat.lt_succ_self _)
 -- facts about D,C,fp in X
 have fD:FpOk X pins H2 s2.heap.objs.size:=I2.fpOk (Nat.le_refl _) Dfresh;have fC:FpOk X pins H2 h3.objs.size:=I3.fpOk (Nat.le_refl _) Cfresh
 have exOf:∀ b∈s2.heap.objs.size :: fp,FpOk X pins H2 b/\b≠h3.objs.size:=fun b hb'=>by
  rcases List.mem_cons.mp hb' with e | e
  ·subst e;exact ⟨fD,neDC⟩
  ·refine ⟨f2 b e,?_⟩;obtain ⟨o,ho,_⟩:=Tn.obj 0 _ st2 b e;exact Nat.ne_of_lt (Heap.lt_size (hk3 b o ho))
 -- the block's context
 generalize hX':blk X scope cl (T++Fr) { s2 with heap:=h3} H2 h3.objs.size (s2.heap.objs.size :: fp) (X.pn++pins)=X';obtain ⟨g,tt,te,⟨hG,hT,hE⟩,W,w0,turn⟩:=hb { s2 with heap:=h3} H2 h3.objs.size (s2.heap.objs.size :: fp) (X.pn++pins);rw [hX'] at hG hT hE
 have ok':X'.Ok:=by
  subst hX'
  exact {
   mod:=I3.ok.mod
   kind:=B.kind
   glob:=I3.ok.glob
   blt:=I3.ok.blt
   above:=Nat.le_refl _
   inj:=fun x y c e1 e2=>I3.ok.inj x y c (B.sub x c e1) (B.sub y c e2)
   has:=fun x h=>B.has h
   cab:=fun x c h=>by cases h
   hd:=I3.ok.hd
   frames:=I3.ok.frames
   stk:=.inl rfl
   exf:=fun b hb'=>⟨(exOf b hb').2,fun x c e=>(exOf b hb').1.2.2.2.2.1 x c (B.sub x c e)⟩
   bs:=fun b o e=>I3.bs b o e
   bsz:=Nat.le_trans I3.ok.bsz I3.sz
   noex:=fun b o e hb'=>by
    rcases (exOf b hb').1.2.2.2.1 with z | z
    ·exact I3.ok.noex b o e z
    ·exact absurd (Nat.lt_of_lt_of_le (Heap.lt_size e) (Nat.le_trans I3.ok.bsz z)) (Nat.lt_irrefl _)
   exfs:=fun b hb' hf=>by
    rcases List.mem_cons.mp (I3.stkSub b hf) with z | z
    ·exact (exOf b hb').1.2.1 z
    ·exact (exOf b hb').1.2.2.1 z
   funs:=I3.stack
   frf:=fun b hb'=>I3.stkFree b hb'}
 have xA:X'.A=X.A:=by subst hX';rfl
 have xp:X'.prog=X.prog:=by subst hX';rfl
 have xw:X'.w=X.w:=by subst hX';rfl
 have xK:X'.K=X.K:=by subst hX';rfl
 have xc:X'.calm=true:=by subst hX';exact hcm
 have xe:X'.env=compEnvC scope cl h3.objs.size X.env:=by subst hX';rfl
 have I4:Inv X' [] (j2y T idx Z) H2 { s2 with heap:=h4}:=by
  have hN:X'.N=T++Fr:=by subst hX';rfl
  refine ⟨ok',by subst hX';rfl,I3.bare,by subst hX';exact Un.kept hk4,?_,?_,by subst hX';exact Cfresh,?_,?_,?_,?_⟩
  ·obtain ⟨m,hn,hl⟩:=I3.loc;refine ⟨_,by rw [xe];exact ns4,fun i x v e1 e2 e3=>?_⟩;rw [hN] at e1;unfold j2y at e2;by_cases hi:i < T.length
   ·rw [List.getElem?_append_left (by rw [List.length_map];exact hi),List.getElem?_map,List.getElem?_eq_getElem hi] at e2;cases e2
   ·rw [List.getElem?_append_right (by omega)] at e1;rw [List.getElem?_append_right (by rw [List.length_map];omega),List.length_map,List.getElem?_map] at e2;obtain ⟨i0,c,q1,q2,q3,q4,q5⟩:=B.fr _ x e1;rw [q1] at e2;have e2':(Z[i0]?).join=some v:=Option.some.inj e2
    have e2'':Z[i0]?=some (some v):=by
     cases z:Z[i0]? with
     | none=>rw [z] at e2';cases e2'
     | some y=>rw [z] at e2';have:y=some v:=e2';rw [this]
    obtain ⟨u,r,l⟩:=hl i0 x v q2 e2'' (by
     rcases q3 with z | z
     ·exact .inr (.inl z)
     ·exact .inr (.inr z))
    refine ⟨u,r,?_⟩;rcases l with ⟨k,_⟩ | ⟨k,c',e,z⟩
    ·rcases q3 with y | y<;>(rw [y] at k;cases k)
    ·have:=B.sub x c q4;rw [e] at this;cases this;refine .inr ⟨by rw [xe];exact q5,_,by rw [xe];exact q4,?_⟩;obtain ⟨o,ho,hd⟩:=z;exact ⟨o,hk4 _ _ ho,hd⟩
  ·intro x c e;rw [xe] at e;obtain ⟨v,o,ho,hd⟩:=I3.cell x c (B.sub x c e);exact ⟨v,o,hk4 _ _ ho,hd⟩
  ·intro x c e;rw [xe] at e;exact I3.freeC x c (B.sub x c e)
  ·intro p hp;have hp':p∈X.pn++pins:=by subst hX';simpa using hp
   obtain ⟨a1,a2,a3,a4,a5⟩:=I3.pin p hp';refine ⟨hk4 _ _ a1,a2,?_,?_,a5⟩
   ·rw [xe];exact Nat.ne_of_lt (Heap.lt_size a1)
   ·subst hX';intro hf;rcases List.mem_cons.mp (I3.stkSub _ hf) with z | z
    ·exact a3 z
    ·exact a4 z
  ·subst hX';exact I3.hok.kept hk4
  ·rw [hN];unfold j2y;rw [List.length_append,List.length_append,List.length_map,List.length_map,B.len]
 have oD4:=hk4 _ _ oD3;have st4:tn 0 h4:=Tn.keep _ _ _ st2 fun b _ o e=>hk4 b o (hk3 b o e)
 -- what stays true of the iterator's objects and of D
 have stat:∀ {H':Hp} {pins':List (Addr×Obj)},(∀ p∈pins',p.1∉s2.heap.objs.size :: fp)->(∀ b∈s2.heap.objs.size :: fp,H' b=none)->∀ b∈s2.heap.objs.size :: fp,FpOk X' pins' H' b:=by
  intro H' pins' hp hn b hb';subst hX';obtain ⟨⟨z1,z2,z3,z4,z5,z6⟩,z7⟩:=exOf b hb';refine ⟨hn b hb',z7,?_,.inl hb',fun x c e=>z5 x c (B.sub x c e),fun p hp'=>?_⟩
  ·intro hf;rcases List.mem_cons.mp (I3.stkSub b hf) with z | z
   ·exact z2 z
   ·exact z3 z
  ·rcases List.mem_append.mp hp' with q | q
   ·exact z6 p q
   ·intro e;exact hp p q (by rw [e];exact hb')
 have pinOut:∀ {h:Heap} {p:Addr×Obj},p∈j7y (s2.heap.objs.size :: fp) h->p.1∈s2.heap.objs.size :: fp:=fun hp=>(k0p hp).1
 -- the end
 have fin:∀ (s5:Shared) (Z5:St) (H5:Hp) (ys:List V) (its:List Value) (nD:Nat),Inv X' [] Z5 H5 s5->(∀ b∈s2.heap.objs.size :: fp,H5 b=none)->s5.heap.get? s2.heap.objs.size=some { cls:=.type "list",dict:=none,data:=.seq its.toArray nD}->Vals ys its->ys.length<=sizeLine->P ys H5->RR (.ref s2.heap.objs.size) h3.objs.size (.ok .next) s5:=by
  intro s5 Z5 H5 ys its nD I5 n5 oD5 v5 l5 q5;have D5:=n5 _ List.mem_cons_self;have hb5:Un (frs X.stack) (s2.heap.objs.size :: fp) H2 H5 h3 s5.heap:=by have z:=I5.base;subst hX';exact z
  have C5:H5 h3.objs.size=none:=by have z:=I5.free;rw [xe] at z;exact z
  have hok5:HOk X.prog X.w (upd H5 s2.heap.objs.size (.lst ys)) s5.heap:=HOk.track (by have z:=I5.hok;rw [xp,xw] at z;exact z) D5 ⟨l5,its,nD,v5,oD5⟩
  have u5:Un (frs X.stack) (s2.heap.objs.size :: fp) H2 (upd H5 s2.heap.objs.size (.lst ys)) h3 s5.heap:=by have nD':∀ b u,H2 b=some u->b≠s2.heap.objs.size:=fun b u e=>j0m e Dfresh;exact ⟨hb5.keep,hb5.slot,fun b o e n hx=>by rw [j0g (fun z=>hx (by rw [z];exact List.mem_cons_self))];exact hb5.free b o e n hx,hb5.there,fun b xs e=>by rw [j0g (nD' b _ e)];exact hb5.tups b xs e,fun b o u e=>by rw [j0g (nD' b _ e)];exact hb5.frzs b o u e,fun b ps e=>by rw [j0g (nD' b _ e)];exact hb5.tbls b ps e⟩
  have os5:s5.os=s2.os:=by have z:=I5.os;subst hX';exact z
  have IX:Inv X pins Z (upd H5 s2.heap.objs.size (.lst ys)) s5:=Inv.call' (s:={ s2 with heap:=h3}) I3 os5 u5 hok5 I5.bare fun b hb'=>by obtain ⟨⟨z1,z2,z3,z4,z5,z6⟩,z7⟩:=exOf b hb';exact ⟨z4,z2,z5,z6⟩
  obtain ⟨m5,ns5,_⟩:=I5.loc;rw [xe] at ns5;refine hRR s2.heap.objs.size h3.objs.size s5 H5 ys D5 q5 IX ⟨m5,ns5⟩ (by rw [j0g (Ne.symm neDC)];exact C5) fC.2.1 (Nat.le_trans I3.sz (Nat.le_refl _)) fC.2.2.2.2.1 fC.2.2.2.2.2
 obtain ⟨m0,w0⟩:=w0
 have loop:codeAny (model X.prog X.w) X.A (.compLoop (.ListComp elt [⟨tg,iter,ifs,0⟩] scope pos) 0 (.ref it) (.ref s2.heap.objs.size) (compEnvC scope cl h3.objs.size X.env)) (RR (.ref s2.heap.objs.size) h3.objs.size) { s2 with heap:=h4}:=by
  refine w1f (fun n s5=>∃ i ys its nD Z5 H5,Inv X' [] Z5 H5 s5/\tn i s5.heap/\(∀ b∈s2.heap.objs.size :: fp,H5 b=none)/\s5.heap.get? s2.heap.objs.size=some { cls:=.type "list",dict:=none,data:=.seq its.toArray nD}/\Vals ys its/\ys.length<=sizeLine/\W i n ys Z5 H5) ?_ m0
   ⟨0,[],[],0,j2y T idx Z,H2,I4,st4,fun b hb'=>(exOf b hb').1.1,oD4,.nil,Nat.zero_le _,w0⟩
  rintro n s5 ⟨i,ys,its,nD,Z5,H5,I5,st5,n5,oD5,v5,l5,w5⟩;have f5:=stat (pins':=[]) (fun p hp=>by cases hp) n5;rcases turn i n ys Z5 H5 w5 with ⟨stop,q⟩ | ⟨go,ll,step⟩
  ·have z:=Tn.done X' xp xw xK xc i [] s5 Z5 H5 (fun _ _=>False) I5 (fun b hb'=>f5 b (List.mem_cons_of_mem _ hb')) st5 stop;rw [xA] at z
   -- D is not touched by the end
   have z2:=Tn.done X' xp xw xK xc i [(s2.heap.objs.size,{ cls:=.type "list",dict:=none,data:=.seq its.toArray nD})] s5 Z5 H5 (fun _ _=>False) (I5.pins_of fun p hp=>by
    obtain rfl:=List.mem_singleton.mp hp;have fD5:=f5 _ List.mem_cons_self
    exact ⟨oD5,fD5.1,fD5.2.1,fD5.2.2.1,fun v z=>nomatch z⟩) (fun b hb'=>by
     obtain ⟨a1,a2,a3,a4,a5,a6⟩:=f5 b (List.mem_cons_of_mem _ hb');refine ⟨a1,a2,a3,a4,a5,fun p hp=>?_⟩;rcases List.mem_append.mp hp with y | y
     ·exact a6 p (List.mem_append_left _ y)
     ·obtain rfl:=List.mem_singleton.mp y;intro e;obtain ⟨o,ho,_⟩:=Tn.obj 0 _ st2 b hb'
      exact Nat.lt_irrefl _ (Nat.lt_of_lt_of_le (Heap.lt_size ho) (Nat.le_of_eq (show s2.heap.objs.size=b from e)))) st5 stop
   rw [xA] at z2;refine thn z2 fun r s6 ⟨hr,I6⟩=>?_;subst hr;have p6:=I6.pin _ (List.mem_append_right _ (List.mem_singleton.mpr rfl));exact fin s6 Z5 H5 ys its nD (I6.pins_of fun p hp=>by cases hp) n5 p6.1 v5 l5 q
  ·have fD5:=f5 _ List.mem_cons_self
   have I5p:=I5.pins_of (pins':=[(s2.heap.objs.size,{ cls:=.type "list",dict:=none,data:=.seq its.toArray nD})]) fun p hp=>by obtain rfl:=List.mem_singleton.mp hp;exact ⟨oD5,fD5.1,fD5.2.1,fD5.2.2.1,fun v z=>nomatch z⟩
   have fpD:∀ b∈fp,b≠s2.heap.objs.size:=fun b hb'=>by obtain ⟨o,ho,_⟩:=Tn.obj 0 _ st2 b hb';exact Nat.ne_of_lt (Heap.lt_size ho)
   have fpP:∀ {H':Hp},(∀ b∈fp,H' b=none)->∀ b∈fp,FpOk X' [(s2.heap.objs.size,{ cls:=.type "list",dict:=none,data:=.seq its.toArray nD})] H' b:=by
    intro H' hn b hb';obtain ⟨a1,a2,a3,a4,a5,a6⟩:=f5 b (List.mem_cons_of_mem _ hb');refine ⟨hn b hb',a2,a3,a4,a5,fun p hp=>?_⟩;rcases List.mem_append.mp hp with y | y
    ·exact a6 p (List.mem_append_left _ y)
    ·obtain rfl:=List.mem_singleton.mp y;exact Ne.symm (fpD b hb')
   have z:=Tn.item X' xp xw xK xc i _ s5 Z5 H5 (fun _ _=>False) I5p (fpP fun b hb'=>n5 b (List.mem_cons_of_mem _ hb')) st5 go;rw [xA] at z;refine thn z fun r s6 ⟨u,hr,h6⟩=>?_;subst hr;refine thn h6 fun _ s7 ⟨x,H7,I7,r7,y7,st7,n7⟩=>?_;have I7':=I7.pinned (fpP n7) (Tn.obj _ _ st7);have xx:X'.xe=fun _ _=>False:=by subst hX';rfl
   have zG:=hG _ s7 Z5 H7 x u _ I7' r7 (step x H7 y7);rw [xp,xw,xA,xe,xx] at zG;refine thn zG fun _ s8 ⟨Z8,H8,I8,q8⟩=>?_;have zT:=hT _ s8 Z8 H8 _ I8 q8;rw [xp,xw,xA,xe,xx] at zT;refine thn zT fun ok s9 ⟨H9,I9,q9⟩=>?_
   -- what holds behind the turn
   have behind:∀ {H':Hp} {s':Shared},Inv X' ([(s2.heap.objs.size,{ cls:=.type "list",dict:=none,data:=.seq its.toArray nD})]++j7y fp s7.heap) Z8 H' s'->s'.heap.get? s2.heap.objs.size=some { cls:=.type "list",dict:=none,data:=.seq its.toArray nD}/\tn (i + 1) s'.heap/\∀ b∈s2.heap.objs.size :: fp,H' b=none:=by
    intro H' s' I';have pD:=I'.pin _ (List.mem_append_right _ (List.mem_append_left _ (List.mem_singleton.mpr rfl)));refine ⟨pD.1,Tn.keep _ _ _ st7 fun b hb' o e=>(I'.pin (b,o) (List.mem_append_right _ (List.mem_append_right _ (j36 hb' e)))).1,fun b hb'=>?_⟩;rcases List.mem_cons.mp hb' with e | e
    ·rw [e];exact pD.2.1
    ·obtain ⟨o,e',_⟩:=Tn.obj _ _ st7 b e;exact (I'.pin (b,o) (List.mem_append_right _ (List.mem_append_right _ (j36 e e')))).2.1
   cases ok with
   | false =>
    rw [if_neg Bool.false_ne_true] at q9 ⊢;obtain ⟨m',hm,w'⟩:=q9;obtain ⟨b1,b2,b3⟩:=behind I9;exact ⟨m',hm,i + 1,ys,its,nD,Z8,H9,I9.pins_of (fun p hp=>by cases hp),b2,b3,b1,v5,l5,w'⟩
   | true =>
    rw [if_pos rfl] at q9 ⊢;have zE:=hE _ s9 Z8 H9 _ I9 q9;rw [xp,xw,xA,xe,xx] at zE;refine thn zE fun y s10 ⟨yv,H10,I10,r10,m',hm,w'⟩=>?_;obtain ⟨b1,b2,b3⟩:=behind I10;have hlen:=v5.length;refine wpAny_list_append_plain (items:=its.toArray) ⟨nD,b1⟩ (fun h11 pl11 sb11=>?_) (by rw [List.size_toArray];omega);obtain ⟨nD',o11⟩:=pl11;have I10':Inv X' [] Z8 H10 s10:=I10.pins_of fun p hp=>by cases hp
    obtain ⟨a1,a2,a3,a4,a5,a6⟩:=stat (pins':=[]) (fun p hp=>by cases hp) b3 _ List.mem_cons_self;have I11:Inv X' [] Z8 H10 { s10 with heap:=h11}:=I10'.turned (t':=s10.toks) (fun b o hb' e=>(sb11.2 b hb').trans e) a1 a2 a4 a5 a6;refine ⟨m',hm,i + 1,ys++[yv],its++[y],nD',Z8,H10,I11,Tn.keep _ _ _ b2 fun b hb' o e=>(sb11.2 b (fpD b hb')).trans e,b3,by simpa using o11,v5.append (.cons r10 .nil),by rw [List.length_append,List.length_singleton];omega,w'⟩
 exact codeAny_compStart_list loop (Tn.self _ 0 _ _ _ st4 loop)
def w7c (X:Cx) (elt tg:Expr) (ifs:List Expr) (scope:Scope) (cl:List (Str×Addr)) (T Fr:List Str) (idx:List Nat) (wi:TI):TE:=fun Z H Q=>wi Z H fun J H1=>∀ s₀ H₀ C ex pn,∃ (g:TG) (tt:TT) (te:TE),(PG (blk X scope cl (T++Fr) s₀ H₀ C ex pn) tg g/\PTs (blk X scope cl (T++Fr) s₀ H₀ C ex pn) ifs tt/\PE (blk X scope cl (T++Fr) s₀ H₀ C ex pn) elt te)/\∃ W:Nat->Nat->List V->St->Hp->Prop,(∃ m,W 0 m [] (j2y T idx Z) H1)/\∀ i m ys Z' H,W i m ys Z' H ->
 (J.stop i H/\∀ p,H p=none->Q (.ref p) (upd H p (.lst ys)))\/(J.go i H/\ys.length < sizeLine/\∀ x H',J.yld i H x H'->g x Z' H' fun Z2 H2=>tt Z2 H2 fun b H3=>if b=true then te Z2 H3 fun y H4=>∃ m',m' < m/\W (i + 1) m' (ys++[y]) Z2 H4 else ∃ m',m' < m/\W (i + 1) m' ys Z2 H3)
theorem w0r (hcm:X.calm=true) (hi:PI X tg iter wi) (B:BScope X scope cl T Fr idx) 
  (hs:∀ x,foldedSetIterable iter X.env x=pure x:=by intro _;rfl):PE X (.ListComp elt [⟨tg,iter,ifs,0⟩] scope pos) (w7c X elt tg ifs scope cl T Fr idx wi):=by
 intro pins s Z H Q I h;rw [eval_ListComp];refine wpAny_comprehension_free (use:=none) rfl hs B.clos B.kind B.names (thn (hi pins s Z H _ I h) fun v s1 h1=>thn h1 fun itv s2 h2=>?_);obtain ⟨it,fp,tn,J,H2,e,I2,Tn,st2,f2,hb⟩:=h2;subst e;refine j7i (RR:=fun acc C=>compPost (model X.prog X.w) X.A X.xe none (EP X pins Z Q) acc C) (P:=fun ys H=>∀ p,H p=none->Q (.ref p) (upd H p (.lst ys))) hcm B I2 Tn st2 f2 hb ?_;intro D C s' H' ys hD q IX ⟨m,ns⟩ hC c1 c2 c3 c4;exact ⟨m,ns,fun h' sb=>⟨.ref D,_,IX.turned (t':=s'.toks) (fun b o hb' e=>(sb.2 b hb').trans e) hC c1 (.inr c2) c3 c4,rfl,q D hD⟩⟩
def w3m (X:Cx) (elt tg:Expr) (ifs:List Expr) (scope:Scope) (cl:List (Str×Addr)) (T Fr:List Str) (idx:List Nat) (wi:TI) (j:Nat):TS:=fun D Z H=>wi Z H fun J H1=>∀ s₀ H₀ C ex pn,∃ (g:TG) (tt:TT) (te:TE),(PG (blk X scope cl (T++Fr) s₀ H₀ C ex pn) tg g/\PTs (blk X scope cl (T++Fr) s₀ H₀ C ex pn) ifs tt/\PE (blk X scope cl (T++Fr) s₀ H₀ C ex pn) elt te)/\∃ W:Nat->Nat->List V->St->Hp->Prop,(∃ m,W 0 m [] (j2y T idx Z) H1)/\∀ i m ys Z' H,W i m ys Z' H ->
 (J.stop i H/\∀ p,H p=none->D.nx (Z.set j (some (.ref p))) (upd H p (.lst ys)))\/(J.go i H/\ys.length < sizeLine/\∀ x H',J.yld i H x H'->g x Z' H' fun Z2 H2=>tt Z2 H2 fun b H3=>if b=true then te Z2 H3 fun y H4=>∃ m',m' < m/\W (i + 1) m' (ys++[y]) Z2 H4 else ∃ m',m' < m/\W (i + 1) m' ys Z2 H3)
theorem w0l {j:Nat} {y:Str} {py spos:Pos} (hN:X.N.Nodup) (hj:X.N[j]?=some y) (hy:X.env.scope.names.lookup y=some .local) (hsw:swapsWith (.ListComp elt [⟨tg,iter,ifs,0⟩] scope pos) (some (.Name y py)) spos.line X.env=pure true)
  (hcm:X.calm=true) (hi:PI X tg iter wi) (B:BScope X scope cl T Fr idx) 
  (hs:∀ x,foldedSetIterable iter X.env x=pure x:=by intro _;rfl):PS X (.Assign [.Name y py] (.ListComp elt [⟨tg,iter,ifs,0⟩] scope pos) spos) (w3m X elt tg ifs scope cl T Fr idx wi j):=by
 intro pins s Z H D I h;rw [exec_Assign_Name_used _ _ _ _ hsw];refine wB (wpAny_standAt (wB ?_));show wpAny _ X.A (do let _ <- comprehension (.ListComp elt [⟨tg,iter,ifs,0⟩] scope pos) scope X.env _ (newList []) false (eval iter X.env) (some (assign (.Name y py) X.env))) _ _ s;refine wB (thn (wpAny_comprehension_free (use:=some (assign (.Name y py) X.env)) (Q:=fun _ s'=>SP X pins D .next s') rfl hs B.clos B.kind B.names (thn (hi pins s Z H _ I h) fun v s1 h1=>thn h1 fun itv s2 h2=>?_)) fun _ s' hq=>wP (wP hq));obtain ⟨it,fp,tn,J,H2,e,I2,Tn,st2,f2,hb⟩:=h2;subst e;refine j7i (RR:=fun acc C=>compPost (model X.prog X.w) X.A X.xe (some (assign (.Name y py) X.env)) (fun _ s'=>SP X pins D .next s') acc C) (P:=fun ys H=>∀ p,H p=none->D.nx (Z.set j (some (.ref p))) (upd H p (.lst ys))) hcm B I2 Tn st2 f2 hb ?_;intro Dd C s' H' ys hD q IX ⟨m,ns⟩ hC c1 c2 c3 c4;show wpAny _ X.A (assign (.Name y py) X.env (.ref Dd)) _ _ _;refine wpAny_assign_Name (j95 IX hN hj (.inl hy) (v:=.ref Dd) rfl (fun s3 I3 ⟨a,sb3,ha⟩=>?_) (.inr hy))
 have hCa:C≠a:=by
  rcases ha with z | z
  ·rw [z];exact c1
  ·exact Ne.symm (c3 _ _ z)
 exact ⟨m,ns.sameBut sb3 hCa,fun h' sb=>⟨_,_,I3.turned (t':=s3.toks) (fun b o hb' e=>(sb.2 b hb').trans e) hC c1 (.inr c2) c3 c4,q Dd hD⟩⟩
end
end L2
namespace WL
open PySem L2
open Rep (rp)
open Ow (sl)
open Sls (rel)
class Pre (k:Nat) (S:Type) [Sls S] (Db:outParam Type) [Sls Db] where
 pre:S->Db
 suf:Db->S
 ok:∀ {F R:Rg} {H:Hp} {s:S} {Z:St} (τ:St),τ.length=k->rel F R H s Z->rel F R H (pre s) (τ++Z)
 un:∀ {F R:Rg} {H:Hp} {d:Db} {Z:St},rel F R H d Z->rel F R H (suf d) (Z.drop k)
 eta:∀ d,pre (suf d)=d
 eta2:∀ s,suf (pre s)=s
instance pre0 {S:Type} [Sls S]:Pre 0 S S:=⟨id,id,fun τ h r=>by rw [List.length_eq_zero_iff.mp h];exact r,fun r=>r,fun _=>rfl,fun _=>rfl⟩
instance preS {k:Nat} {S Db:Type} [Sls S] [Sls Db] [A:Pre k S Db]:Pre (k + 1) S (Un×Db):=⟨fun s=>(⟨⟩,A.pre s),fun d=>A.suf d.2,fun {F R H s Z} τ h r=>by
  cases τ with
  | nil=>cases h
  | cons v τ'=>exact ⟨v,τ'++Z,fun _=>False,F,rfl,j2l F,fun _ z=>z,A.ok τ' (by simpa using h) r⟩,
 fun {F R H d Z} r=>by
  obtain ⟨v,Z',F1,F2,rfl,h2,h3,h4⟩:=r
  exact A.un (Sls.fq h4 (j4f h2 h3)),
 fun d=>by
  obtain ⟨⟨⟩,d⟩:=d;show (_,_)=(_,_)
  rw [A.eta],
 fun s=>A.eta2 s⟩
def j8j {Y γ S:Type} (b:Y->S->(Option γ->S->Prop)->Prop):List Y->S->(List γ->S->Prop)->Prop
 | [],s,K=>K [] s
 | x :: xs,s,K=>b x s fun o s'=>j8j b xs s' fun ys s''=>K (o.toList++ys) s''
def TWs (X:Cx) (T:Addr) (ifs:List Expr) {D:Type} [Sls D] (w:Wf D Bool D):Prop :=
 ∃ t,PTs X ifs t/\∀ (d:D) (F R:Rg) (Z:St) (H:Hp) (Kn:Bool->D->Prop) (Q:Bool->Hp->Prop),Stt T F R H d Z->w d Kn (fun _ _=>False) ->
  (∀ x d' F' R' H',Kn x d'->Ch T F R H F' R' H'->Stt T F' R' H' d' Z->Q x H')->t Z H Q
abbrev XF:XK:=fun _ _ _=>False
theorem j6m {X:Cx} {T:Addr} {D:Type} [Sls D]:TWs X T [] (fun (d:D) Kn _=>Kn true d):=⟨_,w4n,fun d F R Z H Kn Q s hw kn=>kn true d F R H hw (Ch.refl _ _ _ _) s⟩
theorem j21 {X:Cx} {T:Addr} {D:Type} [Sls D] {c:Expr} {w:Wf D Bool D} (h:TW X XF T c w):TWs X T [c] w:=let ⟨t,a1,a2⟩:=h;⟨t,w4m a1,fun d F R Z H Kn Q s hw kn=>a2 d F R Z H Kn _ Q s hw kn fun _ _ _ _ _ _ z=>z.elim⟩
section
variable {X:Cx} {E:XK} {T:Addr} {ms mb is:List Nat} {n k:Nat} {D B S B0 Db D1 PO τ Y γ:Type} [Sls D] [Sls B] [Sls S] [Sls B0] [Sls Db] [Sls D1] [Sls PO] [Ow τ] [Rep Y] [Rep γ] {pos:Pos} {tg iter elt:Expr} {ifs:List Expr} {scope:Scope} {cl:List (Str×Addr)} {Ts Fr:List Str} {idx:List Nat}
abbrev stepC (P:Pre k S Db) (Gf:Fg D1 Db) (g:Db->Y->D1) (wt:Wf D1 Bool D1) (we:Wf D1 γ D1):Y->S->(Option γ->S->Prop)->Prop :=
 fun x s K=>wt (g (P.pre s) x) (fun t d1=>if t=true then we d1 (fun y d2=>K (some y) (P.suf (Gf.fg d2))) (fun _ _=>False) else K none (P.suf (Gf.fg d1))) fun _ _=>False
theorem k02 [P:Pre k S Db] [Gf:Fg D1 Db] {g:Db->Y->D1} {wt:Wf D1 Bool D1} {we:Wf D1 γ D1} {J:It} {Ps:Rg->Hp->Prop} {xs:List Y} {F1 Fs R':Rg} {H':Hp} {Z:St} {s0:S} {K:List γ->S->Prop} {End:List V->Hp->Prop}
  (hk:Ts.length=k) (hmb:∀ i,k<=i->i < k + idx.length->i∈mb)
  (hG:∀ s₀ H₀ C ex pn,GW (blk X scope cl (Ts++Fr) s₀ H₀ C ex pn) T mb tg g) (hT:∀ s₀ H₀ C ex pn,TWs (blk X scope cl (Ts++Fr) s₀ H₀ C ex pn) T ifs wt) (hE:∀ s₀ H₀ C ex pn,EW (blk X scope cl (Ts++Fr) s₀ H₀ C ex pn) XF T elt we)
  (hz:xs.length<=sizeLine) (ip:ItP J xs Ps) (ps:Ps R' H') (pk:∀ {G Ra Rb:Rg} {Ha Hb:Hp},Ps Ra Ha->(∀ a,G a->Ra a)->(∀ a,F1 a->¬G a)->Ext G Ra Ha Rb Hb->Ps Rb Hb)
  (s':Std T Fs R' H') (nF1:∀ a,F1 a->R' a/\¬Fs a/\a≠T) (hs0:rel Fs R' H' s0 (idx.map fun i=>Z[i]?.join)) (hw:j8j (stepC P Gf g wt we) xs s0 K)
  (fin:∀ zs s1 Gs R1 H1 ys,K zs s1->Ch T Fs R' H' Gs R1 H1->Std T Gs R1 H1->rel Gs R1 H1 s1 (idx.map fun i=>Z[i]?.join)->Ps R1 H1->Paired (rp R1 H1) zs ys->End ys H1) :
  ∀ s₀ H₀ C ex pn,∃ (g:TG) (tt:TT) (te:TE),(PG (blk X scope cl (Ts++Fr) s₀ H₀ C ex pn) tg g/\PTs (blk X scope cl (Ts++Fr) s₀ H₀ C ex pn) ifs tt/\PE (blk X scope cl (Ts++Fr) s₀ H₀ C ex pn) elt te)/\∃ W:Nat->Nat->List V->St->Hp->Prop,(∃ m,W 0 m [] (j2y Ts idx Z) H')/\∀ i m ys Z' H,W i m ys Z' H ->
   (J.stop i H/\End ys H)\/(J.go i H/\ys.length < sizeLine/\∀ x H',J.yld i H x H'->g x Z' H' fun Z2 H2=>tt Z2 H2 fun b H3=>if b=true then te Z2 H3 fun y H4=>∃ m',m' < m/\W (i + 1) m' (ys++[y]) Z2 H4 else ∃ m',m' < m/\W (i + 1) m' ys Z2 H3):=by
 intro s₀ H₀ C ex pn;obtain ⟨tg',g1,g2⟩:=hG s₀ H₀ C ex pn;obtain ⟨tt,t1,t2⟩:=hT s₀ H₀ C ex pn;obtain ⟨te,e1,e2⟩:=hE s₀ H₀ C ex pn;have lenf:(j2y Ts idx Z).length=k + idx.length:=by unfold j2y;rw [List.length_append,List.length_map,List.length_map,hk]
 have dropf:∀ {Z1:St},Ag mb (j2y Ts idx Z) Z1->Z1.drop k=idx.map fun i=>Z[i]?.join:=fun {Z1} a=>by
  apply List.ext_getElem?;intro j;rw [List.getElem?_drop];by_cases hj:j < idx.length
  ·rw [a.2 (k + j) (hmb _ (by omega) (by omega))];unfold j2y;rw [List.getElem?_append_right (by rw [List.length_map,hk];omega),List.length_map,hk,Nat.add_sub_cancel_left]
  ·rw [List.getElem?_eq_none (by have:=a.1;omega),List.getElem?_eq_none (by rw [List.length_map];omega)]
 refine ⟨tg',tt,te,⟨g1,t1,e1⟩,fun i m ys Z1 H1=>m=xs.length - i/\i<=xs.length/\∃ s1 Gs R1 zs,Ch T Fs R' H' Gs R1 H1/\Std T Gs R1 H1/\rel Gs R1 H1 (P.pre s1) Z1/\Ps R1 H1/\Ag mb (j2y Ts idx Z) Z1/\Paired (rp R1 H1) zs ys/\zs.length<=i/\j8j (stepC P Gf g wt we) (xs.drop i) s1 (fun ws s'=>K (zs++ws) s'),
  ⟨_,rfl,Nat.zero_le _,s0,Fs,R',[],Ch.refl _ _ _ _,s',P.ok _ (by rw [List.length_map,hk]) hs0,ps,Ag.refl _ _,.nil,Nat.zero_le _,by simpa using hw⟩,?_⟩
 rintro i m ys Z1 H1 ⟨rfl,hi,s1,Gs,R1,zs,c1,st1,r1,p1,a1,pz,lz,w1⟩;have lz':=Paired.length pz;by_cases hlt:i < xs.length
 ·refine .inr ⟨ip.go p1 hlt,by omega,fun x H2 y=>?_⟩;obtain ⟨hH,x',ex',rx⟩:=ip.yld p1 st1.liv hlt y;have nG1:∀ {G R1:Rg} {H1:Hp},Ch T Fs R' H' G R1 H1->∀ a,F1 a->R1 a/\¬G a:=fun c a h=>⟨c.left a (nF1 a h).1 (nF1 a h).2.1,fun z=>(c.newF a z).elim (nF1 a h).2.1 fun q=>s'.liv a (nF1 a h).1 q⟩
  have st2:Ch T Gs R1 H1 Gs R1 H2/\Std T Gs R1 H2/\rel Gs R1 H2 (P.pre s1) Z1/\Ps R1 H2/\Paired (rp R1 H2) zs ys:=by
   rcases hH with e | ⟨p,o,hp,e⟩
   ·subst e;exact ⟨Ch.refl _ _ _ _,st1,r1,p1,pz⟩
   ·subst e;have kk:∀ b u,H1 b=some u->upd H1 p o b=some u:=fun b u e=>by rw [j0g (j0m e hp)];exact e
    have ex:Ext (fun _=>False) R1 H1 R1 (upd H1 p o):=⟨fun b u _ e=>kk b u e,fun a h=>.inl h⟩;refine ⟨⟨fun b u _ _ e=>kk b u e,fun a h=>.inl h,fun a h=>.inl h,fun a h _=>h⟩,⟨st1.sub,fun a z=>?_,?_,st1.tabR,st1.tabF⟩,Sls.st r1 ex (fun _ z=>z.elim) (fun _ _ z=>z),pk p1 (fun _ z=>z.elim) (fun _ _ z=>z) ex,j05 (ex.wide fun _ z=>z.elim) pz⟩
    ·cases e:H1 a with
     | none=>exact absurd e (st1.liv a z)
     | some u=>rw [kk a u e];simp
    ·obtain ⟨qs,e,t⟩:=st1.tab;exact ⟨qs,kk _ _ e,t⟩
  obtain ⟨c2,S2,r2,p2,pz2⟩:=st2;have c12:=Ch.trans' s' st1.tab c1 c2;rw [k0z ex'] at w1;refine g2 (P.pre s1) Gs R1 Z1 H2 x' x _ (S2.stt r2) rx fun F3 Z2 f3 S3 a3=>?_;have c3:Ch T Fs R' H' F3 R1 H2:=c12.less f3
  -- how the block goes on behind an item
  have on:∀ {d2:D1} {F5 R5:Rg} {H5:Hp} {o:Option γ} {ys':List V},j8j (stepC P Gf g wt we) (xs.drop (i + 1)) (P.suf (Gf.fg d2)) (fun ws s'=>K (zs++(o.toList++ws)) s')->Ch T F3 R1 H2 F5 R5 H5->Stt T F5 R5 H5 d2 Z2->Paired (rp R5 H5) (zs++o.toList) ys'->(zs++o.toList).length<=i + 1 ->
    ∃ m',m' < xs.length - i/\m'=xs.length - (i + 1)/\i + 1<=xs.length/\∃ s1 Gs R1 zs,Ch T Fs R' H' Gs R1 H5/\Std T Gs R1 H5/\rel Gs R1 H5 (P.pre s1) Z2/\Ps R1 H5/\Ag mb (j2y Ts idx Z) Z2/\Paired (rp R1 H5) zs ys'/\zs.length<=i + 1/\j8j (stepC P Gf g wt we) (xs.drop (i + 1)) s1 (fun ws s'=>K (zs++ws) s'):=fun {d2 F5 R5 H5 o ys'} hw c5 S5 pz5 lz5=>by
   obtain ⟨F6,f6,r6⟩:=Gf.le S5.rel;have c35:=Ch.trans' s' S2.tab c3 c5;refine ⟨xs.length - (i + 1),by omega,rfl,hlt,P.suf (Gf.fg d2),F6,R5,zs++o.toList,c35.less f6,⟨fun a h=>S5.sub a (f6 a h),S5.liv,S5.tab,S5.tabR,fun h=>S5.tabF (f6 T h)⟩,by rw [P.eta];exact r6,?_,a1.trans a3,pz5,lz5,?_⟩
   ·refine pk p2 (G:=fun a=>F3 a\/a=T) (fun a h=>h.elim (S3.sub a) fun z=>by rw [z];exact S2.tabR) (fun a h z=>?_) c5.ext;rcases z with z | z
    ·exact (nG1 c3 a h).2 z
    ·exact (nF1 a h).2.2 z
   ·simp only [List.append_assoc];exact hw
  refine t2 _ F3 R1 Z2 H2 _ _ S3 w1 fun b d1 F4 R4 H4 q4 c4 S4=>?_
  cases b with
  | false =>
   rw [if_neg Bool.false_ne_true];exact on (o:=none) q4 c4 S4 (by simpa using S3.vals c4 pz2) (by simp;omega)
  | true =>
   rw [if_pos rfl];refine e2 _ F4 R4 Z2 H4 _ _ _ S4 q4 (fun y d2 v F5 R5 H5 q5 c5 S5 r5=>?_) fun _ _ _ _ _ _ z=>z.elim;have c45:=Ch.trans S3 S4.tab c4 c5;exact on (o:=some y) q5 c45 S5 (j2j (S3.vals c45 pz2) (.cons r5 .nil)) (by simp;omega)
 ·have e:i=xs.length:=by omega
  subst e;rw [List.drop_length] at w1;have w1':K (zs++[]) s1:=w1;rw [List.append_nil] at w1';have r1':=P.un r1;rw [dropf a1,P.eta2] at r1';refine .inl ⟨ip.stop p1,fin zs s1 Gs R1 H1 ys w1' c1 st1 r1' p1 pz⟩
theorem j8d [Se:Sel idx B S B0] {back:B->List Y->D} {xs:List Y} {b:B} {Ps:Rg->Hp->Prop} {F' F1 F2 R':Rg} {H':Hp} {Z:St} (s':Std T F' R' H') (tw:Two F' F1 F2) (hr:rel F2 R' H' b Z)
  (pb:∀ b' G2 F'' R'' H'' Z',Ps R'' H''->rel G2 R'' H'' b' Z'->Ag is Z Z'->Two F'' F1 G2->rel F'' R'' H'' (back b' xs) Z') :
  ∃ Fs,Std T Fs R' H'/\(∀ a,F1 a->R' a/\¬Fs a/\a≠T)/\rel Fs R' H' (Se.sel b) (idx.map fun i=>Z[i]?.join) /\
   ∀ {s1:S} {Gs R1:Rg} {H1:Hp},Ch T Fs R' H' Gs R1 H1->Std T Gs R1 H1->rel Gs R1 H1 s1 (idx.map fun i=>Z[i]?.join)->Ps R1 H1->∃ G,Ch T F' R' H' G R1 H1/\Stt T G R1 H1 (back (Se.mrg (Se.rest b) s1) xs) Z:=by
 obtain ⟨Fs,F0,t0,h1,h2,hl⟩:=Se.cut hr;have iS:∀ a,Fs a->F' a:=fun a h=>(tw.all a).mpr (.inr ((t0.all a).mpr (.inl h)));have i0:∀ a,F0 a->F' a:=fun a h=>(tw.all a).mpr (.inr ((t0.all a).mpr (.inr h)));have i1:∀ a,F1 a->F' a:=fun a h=>(tw.all a).mpr (.inl h);have d1S:∀ a,F1 a->Fs a->False:=fun a h k=>tw.dis a h ((t0.all a).mpr (.inl k));have d10:∀ a,F1 a->F0 a->False:=fun a h k=>tw.dis a h ((t0.all a).mpr (.inr k));refine ⟨Fs,⟨fun a h=>s'.sub a (iS a h),s'.liv,s'.tab,s'.tabR,fun h=>s'.tabF (iS T h)⟩,fun a h=>⟨s'.sub a (i1 a h),d1S a h,fun z=>s'.tabF (by rw [<- z];exact i1 a h)⟩,h1,fun {s1 Gs R1 H1} c S1 r1 p1=>?_⟩;have f0:rel F0 R1 H1 (Se.rest b) Z:=Sls.st h2 c.ext (fun a h=>h.elim (fun z=>s'.sub a (iS a z)) fun z=>by rw [z];exact s'.tabR) fun a h z=>z.elim (fun q=>t0.dis a q h) fun q=>s'.tabF (by rw [<- q];exact i0 a h)
 have nG:∀ a,Gs a->F1 a\/F0 a->False:=fun a g f=>by
  rcases c.newF a g with q | q
  ·exact f.elim (fun z=>d1S a z q) fun z=>t0.dis a q z
  ·exact s'.liv a (s'.sub a (f.elim (i1 a) (i0 a))) q
 have out:∀ a,F1 a\/F0 a->R1 a:=fun a f=>c.left a (s'.sub a (f.elim (i1 a) (i0 a))) fun z=>f.elim (fun q=>d1S a q z) fun q=>t0.dis a z q;refine ⟨fun a=>F1 a\/Gs a\/F0 a,⟨fun b o n m h=>c.keep b o (fun z=>n (iS b z)) m h,c.newR,fun a h=>h.elim (fun z=>.inl (i1 a z)) fun z=>z.elim (fun q=>(c.newF a q).elim (fun z=>.inl (iS a z)) .inr) fun q=>.inl (i0 a q),fun a h n=>c.left a h fun z=>n (iS a z)⟩,pb _ (fun a=>Gs a\/F0 a) _ R1 H1 Z p1 (Se.join ⟨fun _=>Iff.rfl,fun a m f=>nG a m (.inr f)⟩ r1 f0 hl) (Ag.refl _ _) ⟨fun _=>Iff.rfl,fun a h z=>z.elim (fun q=>nG a q (.inl h)) fun q=>d10 a h q⟩,fun a h=>h.elim (fun z=>out a (.inl z)) fun z=>z.elim (S1.sub a) fun q=>out a (.inr q),S1.liv,S1.tab,S1.tabR,fun h=>h.elim (fun z=>s'.tabF (i1 T z)) fun z=>z.elim S1.tabF fun q=>s'.tabF (i0 T q)⟩
theorem j3d [P:Pre k S Db] [Gf:Fg D1 Db] [Se:Sel idx B S B0] {back:B->List Y->D} {wi:D->(List Y->B->Prop)->(Addr->D->Prop)->Prop} {g:Db->Y->D1} {wt:Wf D1 Bool D1} {we:Wf D1 γ D1}
  (hcm:X.calm=true) (hi:IW X E T is tg iter back wi) (Bs:BScope X scope cl Ts Fr idx) (hk:Ts.length=k) (hmb:∀ i,k<=i->i < k + idx.length->i∈mb)
  (hG:∀ s₀ H₀ C ex pn,GW (blk X scope cl (Ts++Fr) s₀ H₀ C ex pn) T mb tg g) (hT:∀ s₀ H₀ C ex pn,TWs (blk X scope cl (Ts++Fr) s₀ H₀ C ex pn) T ifs wt) (hE:∀ s₀ H₀ C ex pn,EW (blk X scope cl (Ts++Fr) s₀ H₀ C ex pn) XF T elt we)
  (hs:∀ x,foldedSetIterable iter X.env x=pure x:=by intro _;rfl) :
  EO X E T (.ListComp elt [⟨tg,iter,ifs,0⟩] scope pos) (fun (d:D) (Kn:OL γ->D->Prop) Ke=>wi d (fun xs b=>xs.length<=sizeLine/\j8j (stepC P Gf g wt we) xs (Se.sel b) fun ys s1=>Kn ⟨ys⟩ (back (Se.mrg (Se.rest b) s1) xs)) Ke):=by
 obtain ⟨ti,i1,i2⟩:=hi;refine ⟨_,w0r hcm i1 Bs hs,fun d F R Z H Kn Ke Q s hw kn ke=>?_⟩;refine i2 d F R Z H _ _ _ s hw (fun xs b Jt Ps F' F1 F2 R' H' q c s' tw hr ip ps pk pb=>?_) ke;obtain ⟨Fs,S0,n0,r0,on⟩:=j8d (idx:=idx) (Se:=Se) s' tw hr pb;refine k02 hk hmb hG hT hE q.1 ip ps pk S0 n0 r0 q.2 fun zs s1 Gs R1 H1 ys kz c1 S1 r1 p1 pz p hp=>?_;obtain ⟨G,c2,S2⟩:=on c1 S1 r1 p1;obtain ⟨R2,c3,S3,n3⟩:=j3i S2 hp pz;exact kn _ _ _ _ G R2 _ kz (Ch.trans s S2.tab (Ch.trans s s'.tab c c2) c3) S3 n3
theorem j5h [P:Pre k S Db] [Gf:Fg D1 Db] [Se:Sel idx B S B0] (j:Nat) {τ0 D0 D2:Type} [Ow τ0] [Sls D0] [Sls D2] [A:At j D τ0 D0] [U:Pt j D0 (OL γ) D2] [Jp:Pj D PO n] {y:Str} {py spos:Pos} {back:B->List Y->D} {wi:D->(List Y->B->Prop)->(Addr->D->Prop)->Prop} {g:Db->Y->D1} {wt:Wf D1 Bool D1} {we:Wf D1 γ D1}
  (hN:X.N.Nodup) (hj:X.N[j]?=some y) (hy:X.env.scope.names.lookup y=some .local) (hsw:swapsWith (.ListComp elt [⟨tg,iter,ifs,0⟩] scope pos) (some (.Name y py)) spos.line X.env=pure true) (hm:j∉ms)
  (hcm:X.calm=true) (hi:IW X E T is tg iter back wi) (Bs:BScope X scope cl Ts Fr idx) (hk:Ts.length=k) (hmb:∀ i,k<=i->i < k + idx.length->i∈mb)
  (hG:∀ s₀ H₀ C ex pn,GW (blk X scope cl (Ts++Fr) s₀ H₀ C ex pn) T mb tg g) (hT:∀ s₀ H₀ C ex pn,TWs (blk X scope cl (Ts++Fr) s₀ H₀ C ex pn) T ifs wt) (hE:∀ s₀ H₀ C ex pn,EW (blk X scope cl (Ts++Fr) s₀ H₀ C ex pn) XF T elt we)
  (hs:∀ x,foldedSetIterable iter X.env x=pure x:=by intro _;rfl) :
  S1 X E T ms n (.Assign [.Name y py] (.ListComp elt [⟨tg,iter,ifs,0⟩] scope pos) spos) (fun (d:D) (Kn:D2->Prop) (Kr:τ->PO->Prop) Ke=>wi d (fun xs b=>xs.length<=sizeLine/\j8j (stepC P Gf g wt we) xs (Se.sel b) fun ys s1=>Kn (U.put (A.hole (back (Se.mrg (Se.rest b) s1) xs)) ⟨ys⟩)) fun C d'=>Ke C (Jp.pj d')):=by
 obtain ⟨ti,i1,i2⟩:=hi;refine ⟨_,w0l hN hj hy hsw hcm i1 Bs hs,fun d F R Z H Kn Kr Ke En s hw kn kr ke=>?_⟩;refine i2 d F R Z H _ _ _ s hw (fun xs b Jt Ps F' F1 F2 R' H' q c s' tw hr ip ps pk pb=>?_) fun C y d' F' R' H' q c s'=>?_
 ·obtain ⟨Fs,S0,n0,r0,on⟩:=j8d (idx:=idx) (Se:=Se) s' tw hr pb;refine k02 hk hmb hG hT hE q.1 ip ps pk S0 n0 r0 q.2 fun zs s1 Gs R1 H1 ys kz c1 S1 r1 p1 pz p hp=>?_;obtain ⟨G,c2,S2⟩:=on c1 S1 r1 p1;obtain ⟨R2,c3,S3,n3⟩:=j3i S2 hp pz;obtain ⟨G2,g2,S4⟩:=w0i (i:=j) S3 n3;exact kn _ G2 R2 _ _ kz ((Ch.trans s S2.tab (Ch.trans s s'.tab c c2) c3).less g2) S4 (Ag.set hm)
 ·obtain ⟨G,g1,g2⟩:=j1o (PO:=PO) s';exact ke C y _ G R' H' q (c.less g1) g2
end
def Kp (g:Addr) (H H':Hp):Prop:=∀ b o,b≠g->H b=some o->H' b=some o
theorem Kp.refl (g:Addr) (H:Hp):Kp g H H:=fun _ _ _ h=>h
theorem Kp.trans {g:Addr} {H H1 H2:Hp} (a:Kp g H H1) (b:Kp g H1 H2):Kp g H H2:=fun c o n h=>b c o n (a c o n h)
theorem Kp.at {g:Addr} {H:Hp} {o:HO}:Kp g H (upd H g o):=fun b u n e=>by rw [j0g n];exact e
theorem j4x {p:Addr} {H:Hp} {o:HO} (h:H p=none):Same H (upd H p o):=fun b u e=>by rw [j0g (j0m e h)];exact e
def bagL (q:Addr) (i z s:Int):List V:=[.ref q,.int i,.int z,.int s]
structure BagAt (H:Hp) (g q:Addr) (ns:List Int) (i z s:Int):Prop where
 ob:H g=some (.lst (bagL q i z s))
 sc:H q=some (.lst (ns.map V.int))
 i0:0<=i
 ne:q≠g
theorem BagAt.put {H:Hp} {g q:Addr} {ns:List Int} {i z s:Int} (B:BagAt H g q ns i z s) {i' z':Int} (h:0<=i'):BagAt (upd H g (.lst (bagL q i' z' s))) g q ns i' z' s:=⟨j0h,by rw [j0g B.ne];exact B.sc,h,B.ne⟩
theorem bat0 (q:Addr) (i z s:Int):atI (bagL q i z s) 0=some (.ref q):=rfl
theorem bat1 (q:Addr) (i z s:Int):atI (bagL q i z s) 1=some (.int i):=rfl
theorem bat2 (q:Addr) (i z s:Int):atI (bagL q i z s) 2=some (.int z):=rfl
theorem bat3 (q:Addr) (i z s:Int):atI (bagL q i z s) 3=some (.int s):=rfl
theorem w1a (x:Int):-(2 ^ 64) < x % 2147483647/\x % 2147483647 < 2 ^ 64:=by have h1:=Int.emod_nonneg x (show (2147483647:Int)≠0 by decide);have h2:=Int.emod_lt_of_pos x (show (0:Int) < 2147483647 by decide);omega
theorem w6k {ns:List Int} {i:Int} (h0:0<=i) (h1:i < (ns.length:Int)):∃ n,atI (ns.map V.int) i=some (.int n):=by
 have hl:i.toNat < ns.length:=by omega
 have e:(ns.map V.int)[i.toNat]?=some (.int ns[i.toNat]):=by rw [List.getElem?_map,List.getElem?_eq_getElem hl];rfl
 have:=k9n e;rw [show ((i.toNat:Nat):Int)=i by omega] at this;exact ⟨_,this⟩
structure Bg where
instance:Ow Bg:=⟨fun F _ H _ v=>∃ g q ns i z s,v=some (.ref g)/\(∀ b,F b↔b=g\/b=q)/\BagAt H g q ns i z s,
 fun {F G R H R' H' x v} h e s n=>by
  obtain ⟨g,q,ns,i,z,s',h1,h2,h3⟩:=h
  exact ⟨g,q,ns,i,z,s',h1,h2,⟨e.keep g _ (n g ((h2 g).mpr (.inl rfl))) h3.ob,e.keep q _ (n q ((h2 q).mpr (.inr rfl))) h3.sc,h3.i0,h3.ne⟩⟩,
 fun h e=>by
  obtain ⟨g,q,ns,i,z,s',h1,h2,h3⟩:=h
  exact ⟨g,q,ns,i,z,s',h1,fun b=>(e b).symm.trans (h2 b),h3⟩⟩
instance:Hs Bg:=⟨fun ⟨_,_,_,_,_,_,h,_⟩=>⟨_,h⟩⟩
instance:Frl Bg:=⟨fun h _=>h⟩
def w2c:Sp:=fun vs H Q _=>∃ (g q:Addr) (ns:List Int) (i z s many:Int),vs=[.ref g,.int many]/\BagAt H g q ns i z s/\0 < many/\many < 1073741824 /\
 ∀ H' i' z' r,Kp g H H'->BagAt H' g q ns i' z' s->0<=r->r < many->Q (.int r) H'
abbrev w60:Bg×Int×Unit->(Int->Bg×Un×Unit->Prop)->(Addr->Bg×Un×Unit->Prop)->Prop:=fun p Kn _=>0 < p.2.1/\p.2.1 < 1073741824/\∀ r,0<=r->r < p.2.1->Kn r (⟨⟩,⟨⟩,())
theorem w8s {P:Program} {w:World} {K:PySem.W.Frag} {mg:Str->Option Value} {base:Heap} {k:Nat} {f:Addr} {fd:FuncData} {ps:List Str} {sp:Sp} (F:FnOk P w K mg base CX0 k f fd ps sp):FnOk P w K mg base (CX1 P w) k f fd ps sp :=
 ⟨F.len,fun A outer s H args us vs Q E hr he hb hv hs=>codeAny_mono (F.run A outer s H args us vs Q E hr he hb hv hs) fun r s' h=>by
  cases r with
  | error e=>exact False.elim h
  | ok fl =>
   cases fl with
   | ret u=>exact h
   | next=>exact False.elim h
   | brk=>exact False.elim h
   | cont=>exact False.elim h⟩
theorem w7p {T:Addr} {P:Program} {w:World} {K:PySem.W.Frag} {mg:Str->Option Value} {base:Heap} {k:Nat} {f:Addr} {fd:FuncData} {ps:List Str} (F:FnOk P w K mg base CX0 k f fd ps w2c):FnOk P w K mg base (CX1 P w) k f fd ps (spW T w60):=by
 refine (w8s F).imp fun vs H Q E h=>?_;obtain ⟨Fo,R,p,Kn,Ke,s,⟨m0,m1,hw⟩,kn,_⟩:=h;obtain ⟨v1,Z1,F1,F2,e1,t1,⟨g,q,ns,i,z,s',rfl,hf,hb⟩,r1⟩:=s.rel;obtain ⟨v2,Z2,F3,F4,e2,t2,⟨n3,u,rfl,r2⟩,e3,n4⟩:=r1;have r2:u=V.int p.2.1:=r2;subst r2;subst e2 e3
 have ev:vs=[.ref g,.int p.2.1]:=by
  match vs,e1 with
  | [a,b],e1=>simp at e1;obtain ⟨rfl,rfl⟩:=e1;rfl
 subst ev;have F2n:∀ a,¬F2 a:=fun a h=>((t2.all a).mp h).elim (n3 a) (n4 a);have gF:Fo g:=(t1.all g).mpr (.inl ((hf g).mpr (.inl rfl)));have gT:g≠T:=fun e=>s.tabF (by rw [<- e];exact gF);refine ⟨g,q,ns,i,z,s',p.2.1,rfl,hb,m0,m1,fun H' i' z' r kp B' r0 r1=>?_⟩
 have liv:∀ a,R a->H' a≠none:=fun a h=>by
  by_cases e:a=g
  ·rw [e,B'.ob];simp
  ·cases e':H a with
   | none=>exact absurd e' (s.liv a h)
   | some o=>rw [kp a o e e'];simp
 refine kn r (⟨⟩,⟨⟩,()) _ (fun _=>False) Fo R H' (hw r r0 r1) ⟨fun b o n _ h=>kp b o (fun e=>n (by rw [e];exact gF)) h,fun _ h=>.inl h,fun a h=>h.elim (fun z=>z.elim) .inl,fun _ h _=>h⟩
  ⟨⟨_,_,F1,F2,rfl,t1,⟨g,q,ns,i',z',s',rfl,hf,B'⟩,_,_,F3,F4,rfl,t2,n3,rfl,n4⟩,s.sub,liv,?_,s.tabR,s.tabF⟩ ⟨⟨fun _ z=>z,_,rfl,rfl⟩,fun _ z=>z.elim,fun _ z=>z.elim,fun z=>z⟩
 obtain ⟨ps,e,t⟩:=s.tab;exact ⟨ps,kp T _ (fun e=>gT e.symm) e,t⟩
structure Fn (K:PySem.W.Frag) (mg:Str->Option Value) (x:Str) (st:Stmt) (ps:List Str) (f:Addr) (fd:FuncData):Prop where
 fn:Fun K x x st f fd
 at_:mg x=some (.ref f)
 bd:Binds K fd ps []
theorem j0n {P:Program} {w:World} {K:PySem.W.Frag} {mg:Str->Option Value} {base:Heap} {T:Addr} {k:Nat} {f:Addr} {fd:FuncData} {ps:List Str} {A PO τ:Type} [Sls A] [Sls PO] [Ow τ] {w1 w2:Wf A τ PO} (F:FnOk P w K mg base (CX1 P w) k f fd ps (spW T w1)) (h:∀ p Kn Ke,w2 p Kn Ke->w1 p Kn Ke):FnOk P w K mg base (CX1 P w) k f fd ps (spW T w2) :=
 F.imp fun vs H Q E ⟨F,R,p,Kn,Ke,s,hw,r⟩=>⟨F,R,p,Kn,Ke,s,h p Kn Ke hw,r⟩
theorem passF {P:Program} {w:World} {X:Cx}:j2u (CX1 P w) X XF:=fun pins Z H s e s' I h=>by obtain ⟨_,_,_,_,_,z⟩:=h;exact z.elim
theorem lkc {β:Type} {n x:Str} {c c':β} {r:List (Str×β)} (h:List.lookup x ((n,c) :: r)=some c'):(x=n/\c'=c)\/List.lookup x r=some c':=by
 rw [List.lookup_cons] at h
 cases q:x == n with
 | true=>rw [q] at h;exact .inl ⟨eq_of_beq q,(Option.some.inj h).symm⟩
 | false=>rw [q] at h;exact .inr h
theorem fc {Y:Type} {p:Y->Prop} {a:Y} {l:List Y} (h:p a) (t:∀ y∈l,p y):∀ y∈a :: l,p y:=fun y hy=>by
 rcases List.mem_cons.mp hy with e | e
 ·rw [e];exact h
 ·exact t y e
theorem j2s {k m:Nat} {mb:List Nat} (h:mb=(List.range m).map (k + ·)):∀ i,k<=i->i < k + m->i∈mb:=fun i h1 h2=>by rw [h];exact List.mem_map.mpr ⟨i - k,List.mem_range.mpr (by omega),by omega⟩
theorem fnil {Y:Type} {p:Y->Prop}:∀ y∈([]:List Y),p y:=fun _ h=>by cases h
section
variable {X:Cx} {E:XK} {T:Addr} {ms:List Nat} {n:Nat} {D PO τ:Type} [Sls D] [Sls PO] [Ow τ] {pos:Pos} {Y:Type} [Rep Y]
theorem k0y {a:Expr} {wa:Wf D Int D} (ha:EW X E T a wa):EW X E T (.UnaryOp .USub a pos) (fun (d:D) (Kn:Int->D->Prop) Ke=>wa d (fun x d1=>Kn (-x) d1) Ke):=by have h:=w8y (c:=fun _=>True) (γ:=Int) (g:=fun x:Int=>-x) (e:=.UnaryOp .USub a pos) ha (fun ta h1=>pe_un w62 h1) fun h1 _ k=>⟨_,h1,k _ rfl⟩;simp only [true_and] at h;exact h
theorem j3q {x:Str} {p1:Pos} (i:Nat) {D' D0:Type} [Sls D'] [Sls D0] [Hs τ] [A:At i D τ D0] [J:Pj D0 PO n] (hn:PE X (.Name x p1) (tVar i)):S1 X E T ms n (.Return (some (.Name x p1)) pos) (fun (d:D) (_:D'->Prop) (Kr:τ->PO->Prop) _=>Kr (A.get d) (J.pj (A.hole d))):=by refine ⟨_,j6w hn,fun d F R Z H Kn Kr Ke En s hw kn kr ke=>?_⟩;obtain ⟨v,F1,F2,g1,g2,g3,g4⟩:=A.take s.rel;obtain ⟨u,rfl⟩:=Hs.has g3;have f2:∀ a,F2 a->F a:=fun a h=>(g2.all a).mpr (.inr h);obtain ⟨G,k1,k2⟩:=J.le g4;exact ⟨u,g1,kr _ _ u F1 G R H hw ⟨fun b o _ _ h=>h,fun _ h=>.inl h,fun a h=>.inl (h.elim (fun z=>(g2.all a).mpr (.inl z)) fun z=>f2 a (k1 a z)),fun _ h _=>h⟩ ⟨k2,fun a h=>s.sub a (f2 a (k1 a h)),s.liv,s.tab,s.tabR,fun h=>s.tabF (f2 T (k1 T h))⟩ ⟨g3,fun a h=>s.sub a ((g2.all a).mpr (.inl h)),fun a h z=>g2.dis a h (k1 a z),fun h=>s.tabF ((g2.all T).mpr (.inl h))⟩⟩
theorem j7o {e:Expr} {es:List Expr} {τ1 P PO B Lc:Type} [Ow τ1] [Sls P] [Sls PO] [Sls B] [Sls Lc] {mrg:B->Lc->PO->D} {we:Wf D τ1 D} {wr:D->(P->B->Lc->Prop)->(Addr->D->Prop)->Prop}
  (ha:EO X E T e we) (hr:AL2 X E T es mrg wr) (hs:starEach (e :: es) X.env=(false,eval e X.env) :: starEach es X.env:=by rfl) :
  AL2 X E T (e :: es) (fun (b:B) (l:Lc) (p:Un×PO)=>mrg b l p.2) (fun (d:D) (Kn:τ1×P->B->Lc->Prop) Ke=>we d (fun x d1=>wr d1 (fun p b l=>Kn (x,p) b l) Ke) Ke):=by
 obtain ⟨ta,a1,a2⟩:=ha;obtain ⟨tr,b1,b2⟩:=hr;refine ⟨_,j0k a1 b1 hs,fun d F R Z H Kn Ke Q s hw kn ke=>?_⟩;refine a2 d F R Z H _ Ke _ s hw (fun x d1 u M1 F1 R1 H1 q1 c1 s1 m1=>?_) ke;have c1':Ch T F R H F1 R1 H1:=c1.less fun _ z=>.inr z;refine b2 d1 F1 R1 Z H1 _ Ke _ s1 q1 (fun p b l vs us G1 G2 L F' R' H' q2 c2 s2 t2 h1 h2 hl k=>?_) fun C y d' F' R' H' k c s'=>ke C y d' F' R' H' k (Ch.trans s s1.tab c1' c) s'
 -- the new thing beside
 have mF:∀ a,M1 a->F' a->False:=fun a m f=>by
  rcases c2.newF a f with q | q
  ·exact m1.dis a m q
  ·exact s1.liv a (m1.sub a m) q
 have mT:∀ a,M1 a->a≠T:=fun a m z=>m1.tab (by rw [<- z];exact m);have mx:sl M1 R' H' x (some u):=Ow.st m1.is c2.ext (fun a h=>h.elim (s1.sub a) fun q=>by rw [q];exact s1.tabR) fun a m z=>z.elim (m1.dis a m) (mT a m);have mR:∀ a,M1 a->R' a:=fun a m=>c2.left a (m1.sub a m) fun z=>m1.dis a m z;have g1:∀ a,G1 a->F' a:=fun a h=>(t2.all a).mpr (.inl h);have g2:∀ a,G2 a->F' a:=fun a h=>(t2.all a).mpr (.inr (.inl h));have g3:∀ a,L a->F' a:=fun a h=>(t2.all a).mpr (.inr (.inr h));have cc:=Ch.trans s s1.tab c1' c2
 refine kn (x,p) b l (u :: vs) us (fun a=>M1 a\/G1 a) G2 L (fun a=>M1 a\/F' a) R' H' q2 ⟨cc.keep,cc.newR,fun a h=>h.elim (fun z=>c1.newF a (.inl z)) (cc.newF a),cc.left⟩ ⟨fun a h=>h.elim (mR a) (s2.sub a),s2.liv,s2.tab,s2.tabR,fun h=>h.elim m1.tab s2.tabF⟩
  ⟨fun a=>?_,fun a m n=>m.elim (fun z=>mF a z (g2 a n)) fun z=>t2.d12 a z n,fun a m n=>m.elim (fun z=>mF a z (g3 a n)) fun z=>t2.d13 a z n,t2.d23⟩ ⟨some u,vs.map some,M1,G1,rfl,⟨fun _=>Iff.rfl,fun a m n=>mF a m (g1 a n)⟩,Ow.wk mx (j46 R' L H'),h1⟩ h2 hl fun b' l' L1 L2 L3 F'' R'' H'' p' h3 h4 h5 t=>?_
 ·rw [t2.all];exact ⟨fun z=>z.elim (fun q=>.inl (.inl q)) fun z=>z.elim (fun q=>.inl (.inr q)) .inr,fun z=>z.elim (fun z=>z.elim .inl fun q=>.inr (.inl q)) fun z=>.inr (.inr z)⟩
 ·obtain ⟨v',Z',N1,N2,z1,z2,z3,z4⟩:=h3;injection z1 with _ z5;subst z5;exact k b' l' L1 L2 L3 F'' R'' H'' p'.2 (Sls.fq z4 (j4f z2 z3)) h4 h5 t
class Ist (Y:Type) [Rep Y] (ty:String) (b:outParam Bool):Prop where
 ist:∀ {K:PySem.W.Frag} {R:Rg} {H:Hp} {x:Y} {v:V},rp R H x v->∃ t,TyOf K H v t/\PySem.W.kitOne K t (.type ty)=some b
instance:Ist Int "int" true:=⟨fun {K R H x v} h=>by
 have h:v=V.int x:=h;subst h
 exact ⟨_,TyOf.int x,by rfl⟩⟩
instance:Ist Int "bool" false:=⟨fun {K R H x v} h=>by
 have h:v=V.int x:=h;subst h
 exact ⟨_,TyOf.int x,by rfl⟩⟩
instance:Ist Bool "bool" true:=⟨fun {K R H x v} h=>by
 have h:v=V.bl x:=h;subst h
 exact ⟨_,TyOf.bl x,by rfl⟩⟩
instance:Ist (List Y) "list" true:=⟨fun {K R H x v} h=>by
 obtain ⟨a,vs,rfl,_,h3,_⟩:=h
 exact ⟨_,TyOf.lst h3,by rfl⟩⟩
theorem j47 {a:Expr} {ty:String} {x:Str} {b:Bool} {p q:Pos} [Ist Y ty b] {wa:Wf D Y D} (hg:Gl X "isinstance") (hm:X.mg "isinstance"=none) (hty:PE X (.Name x q) (tC (.ty ty))) (ha:EW X E T a wa)
  (hs:starEach [a,.Name x q] X.env=(false,eval a X.env) :: starEach [.Name x q] X.env:=by rfl) (hs2:starEach [.Name x q] X.env=(false,eval (.Name x q) X.env) :: starEach [] X.env:=by rfl) (hpl:(backTo pos (starEach [.Name x q] X.env)).any (·.1)=false:=by rfl) :
  EW X E T (.Call (.Name "isinstance" p) [a,.Name x q] [] pos) (fun (d:D) (Kn:Bool->D->Prop) Ke=>wa d (fun _ d1=>Kn b d1) Ke):=by
 obtain ⟨ta,a1,a2⟩:=ha;refine ⟨_,j1l k2y hg hm PyProof.Rows.boot_isinstance (j0k a1 (j0k hty j02 hs2) hs) (he:=hs) (hpl:=hpl),fun d F R Z H Kn Ke Q s hw kn ke=>a2 d F R Z H _ Ke _ s hw (fun y d1 u F1 R1 H1 q1 c1 s1 r1=>?_) ke⟩;obtain ⟨t,t1,t2⟩:=Ist.ist (ty:=ty) (K:=X.K) r1;exact ⟨u,ty,t,b,rfl,t1,t2,kn _ d1 _ F1 R1 H1 q1 c1 s1 rfl⟩
end
end WL
namespace ZT
open PySem PySem.Spec PyProof.Rows
section
variable {prog:Program} {w:World} {A:Around} {E:Value->Shared->Prop} {s:Shared}
theorem j8k {it t:Addr} {i:Nat} {xs:Array Value} {x:Value} {Q:Value->Shared->Prop} (hit:s.heap.IsTupleIter it t i) (ht:s.heap.IsTuple t xs) (hx:xs[i]?=some x)
  (hQ:∀ h',h'.IsTupleIter it t (i + 1)->Heap.SameBut it s.heap h'->Q x { s with heap:=h'}):wpAny (model prog w) A (Builtin.SmallTypes.nextOf (.ref it)) Q E s:=by
 obtain ⟨o,ho,hc,hd⟩:=id hit;obtain ⟨p,hp,_,m,hm⟩:=ht;unfold Builtin.SmallTypes.nextOf;refine wB (wpAny_callSpecial?_slot (name:=Str.ofString "__next__") hit.typeIs F.slot_tuple_iterator_next (wpAny_call_entry F.slot_tuple_iterator_next hit.typeIs F.entry_tuple_iterator_next ?_ (F.args_tuple_iterator_next_1 _)));show wpAny _ _ (field (.ref it) 0 >>= _) _ _ s;refine wB (wpAny_field ho hd (x:=.ref t) rfl ?_);show wpAny _ _ (if (Value.ref t == Value.none)=true then _ else _) _ _ s;rw [if_neg (show ¬ ((Value.ref t == Value.none)=true) from Bool.false_ne_true)];show wpAny _ _ (field (.ref it) 1 >>= _) _ _ s;refine wB (wpAny_field ho hd (x:=.int i 0) rfl ?_);show wpAny _ _ (seqItems? (.ref t) >>= _) _ _ s;refine wB (wpAny_seqItems hp hm ?_);simp only [Int.toNat_natCast,hx];have fin:Heap.IsTupleIter (s.heap.update it fun ob=>ob.mapFields (·.setIfInBounds 1 (rawInt ((i:Int) + 1)))) it t (i + 1):=⟨_,Heap.get?_update_self _ ho (Obj.isFreed_of_fields (Obj.data_mapFields hd _)),(Obj.cls_mapFields ..).trans hc,by rw [Obj.data_mapFields hd];simp [rawInt]⟩;exact wB (wpAny_setField ho hd (by simp) (wP ⟨x,rfl,wP (hQ _ fin (Heap.SameBut.update ..))⟩))
theorem k5q {it t:Addr} {i:Nat} {xs:Array Value} {Q:Value->Shared->Prop} (hh:A.handled=none) (hit:s.heap.IsTupleIter it t i) (ht:s.heap.IsTuple t xs) (hx:xs[i]?=none)
  (hE:∀ h' e,Heap.ExtBut it s.heap h'->(∃ o,h'.get? e=some o/\o.cls=.type "StopIteration")->E (.ref e) { s with heap:=h'}):wpAny (model prog w) A (Builtin.SmallTypes.nextOf (.ref it)) Q E s:=by
 obtain ⟨o,ho,hc,hd⟩:=id hit;obtain ⟨p,hp,_,m,hm⟩:=ht;unfold Builtin.SmallTypes.nextOf;refine wB (wpAny_callSpecial?_slot (name:=Str.ofString "__next__") hit.typeIs F.slot_tuple_iterator_next (wpAny_call_entry F.slot_tuple_iterator_next hit.typeIs F.entry_tuple_iterator_next ?_ (F.args_tuple_iterator_next_1 _)));show wpAny _ _ (field (.ref it) 0 >>= _) _ _ s;refine wB (wpAny_field ho hd (x:=.ref t) rfl ?_);show wpAny _ _ (if (Value.ref t == Value.none)=true then _ else _) _ _ s;rw [if_neg (show ¬ ((Value.ref t == Value.none)=true) from Bool.false_ne_true)];show wpAny _ _ (field (.ref it) 1 >>= _) _ _ s;refine wB (wpAny_field ho hd (x:=.int i 0) rfl ?_);show wpAny _ _ (seqItems? (.ref t) >>= _) _ _ s;refine wB (wpAny_seqItems hp hm ?_);simp only [Int.toNat_natCast,hx];refine wB (wpAny_rule (wB (wpAny_setField ho hd (by simp) ?_)));show wpAny _ _ (newExc (.type "StopIteration") [] >>= _) _ _ _;refine wB ?_;simp only [newExc,newTuple];refine wB (wpAny_newObj_type ?_ (by size_fits));refine wB (m:=firstArgMember _ _) (wpAny_of_eq (a:=Value.none) (by first | rfl | (simp only [firstArgMember];rfl)) (wpAny_newObj_type ?_ (by size_fits)))
 simp only [raiseNew];refine wB (wpAny_handled ?_);first | rw [show A.in1.handled=none from hh] | rw [hh]
 exact wB (wP (wpAny_throw (hE _ _ (((Heap.SameBut.update ..).extBut.push _).push _) ⟨_,Heap.get?_push_size _ rfl,rfl⟩)))
abbrev ZSt (h:Heap) (z TI TO i1 i2 l1 l2:Addr) (f:Value) (k:Nat) (xs ys:Array Value):Prop :=
 IsZip h z TI TO f/\IsPair h TI (.ref i1) (.ref i2)/\(∃ a b,IsPair h TO a b)/\h.IsTupleIter i1 l1 k/\h.IsTupleIter i2 l2 k/\h.IsTuple l1 xs/\h.IsTuple l2 ys
theorem w3b {z TI TO i1 i2 l1 l2:Addr} {k:Nat} {xs ys:Array Value} {x y:Value} {Q:Value->Shared->Prop} (D:ZipApart z TI TO i1 i2 l1 l2) (st:ZSt s.heap z TI TO i1 i2 l1 l2 .none k xs ys) (hx:xs[k]?=some x) (hy:ys[k]?=some y)
  (hQ:∀ h',IsZip h' z TI TO (rawInt s.heap.objs.size)->IsPair h' TO x y->h'.IsTupleIter i1 l1 (k + 1)->h'.IsTupleIter i2 l2 (k + 1)->IsPair h' s.heap.objs.size x y ->
   (∀ c o,c≠z->c≠TO->c≠i1->c≠i2->s.heap.get? c=some o->h'.get? c=some o)->Q (.ref s.heap.objs.size) { s with heap:=h'}) :
  wpAny (model prog w) A (Builtin.«zip.__next__» ⟨[.ref z],[]⟩) (fun fin s'=>∃ v,fin=.done (.ret v)/\Q v s') E s:=by
 obtain ⟨hz,hTI,⟨a,b,hTO⟩,h1,h2,hl1,hl2⟩:=st;show wpAny _ _ (field (.ref z) 2 >>= _) _ _ _;refine wB (wpAny_field hz rfl (x:=.bool false) rfl ?_);show wpAny _ _ (field (.ref z) 3 >>= _) _ _ _;refine wB (wpAny_field hz rfl (x:=.ref TI) rfl (wB (wpAny_seqItems hTI rfl ?_)));show wpAny _ _ (Builtin.SmallTypes.ownedTupleIsFree (.ref z) >>= _) _ _ _;refine wB ?_;unfold Builtin.SmallTypes.ownedTupleIsFree;refine wB (wpAny_field hz rfl (x:=.none) rfl (wP ?_));simp only [if_true];refine wB (wpAny_rule (wB (wpAny_field hz rfl (x:=.ref TO) rfl (wB (wpAny_setField_rec hz (by simp) fun g1 z1 e1=>?_)))))
 replace z1:IsZip g1 z TI TO .ellipsis:=z1;refine wB ?_;simp only [List.zipIdx_cons,List.zipIdx_nil,List.forIn_cons,List.forIn_nil]
 refine wB (wB (wpAny_onRaise ?_));show wpAny _ _ (Builtin.SmallTypes.nextOf (.ref i1) >>= _) _ _ _;refine wB (j8k (h1.extBut e1.extBut D.i1z) (hl1.extBut e1.extBut D.l1z) hx fun g2 a2 e2=>wP ?_);have p2:IsPair g2 TO a b:=e2.extBut _ _ D.TOi1 (e1.extBut _ _ D.TOz hTO);refine wB (wpAny_seqItems p2 rfl (wB (wpAny_updateSeq_pair p2 fun g3 p3 e3=>wB (wpAny_letGo (wP ?_)))))
 replace p3:IsPair g3 TO x b:=p3
 refine wB (wB (wpAny_onRaise ?_));show wpAny _ _ (Builtin.SmallTypes.nextOf (.ref i2) >>= _) _ _ _;refine wB (j8k (((h2.extBut e1.extBut D.i2z).extBut e2.extBut D.i12.symm).extBut e3.extBut D.TOi2.symm) (((hl2.extBut e1.extBut D.l2z).extBut e2.extBut D.l2i1).extBut e3.extBut D.l2TO) hy fun g4 a4 e4=>wP ?_);have p4:IsPair g4 TO x b:=e4.extBut _ _ D.TOi2 p3;refine wB (wpAny_seqItems p4 rfl (wB (wpAny_updateSeq_pair p4 fun g5 p5 e5=>wB (wpAny_letGo (wP (wP ?_))))))
 replace p5:IsPair g5 TO x y:=p5
 refine wB (wpAny_seqItems p5 rfl (wB (wpAny_newTuple ?_)));have sz:g5.objs.size=s.heap.objs.size:=by rw [e5.1,e4.1,e3.1,e2.1,e1.1]
 have z5:IsZip g5 z TI TO .ellipsis:=e5.extBut _ _ D.TOz.symm (e4.extBut _ _ D.i2z.symm (e3.extBut _ _ D.TOz.symm (e2.extBut _ _ D.i1z.symm z1)));have k5:∀ c o,c≠z->c≠TO->c≠i1->c≠i2->s.heap.get? c=some o->g5.get? c=some o:=fun c o c1 c2 c3 c4 e=>e5.extBut _ _ c2 (e4.extBut _ _ c4 (e3.extBut _ _ c2 (e2.extBut _ _ c3 (e1.extBut _ _ c1 e))));have q1:g5.IsTupleIter i1 l1 (k + 1):=((a2.extBut e3.extBut D.TOi1.symm).extBut e4.extBut D.i12).extBut e5.extBut D.TOi1.symm;have q2:g5.IsTupleIter i2 l2 (k + 1):=a4.extBut e5.extBut D.TOi2.symm;have lz:z < g5.objs.size:=Heap.lt_size z5;show wpAny _ _ (Builtin.SmallTypes.ownedTupleHandOut (.ref z) (.ref g5.objs.size) >>= _) _ _ _;refine wB ?_;unfold Builtin.SmallTypes.ownedTupleHandOut;have z6:IsZip (g5.push { cls:=.type "tuple",data:=.seq #[x,y]}) z TI TO .ellipsis:=Heap.get?_push_of_some _ z5;refine wB (wpAny_setField_rec z6 (by simp) fun g7 z7 e7=>?_);replace z7:IsZip g7 z TI TO (rawInt g5.objs.size):=z7;refine wpAny_setField_rec z7 (by simp) fun g8 z8 e8=>?_;replace z8:IsZip g8 z TI TO (rawInt g5.objs.size):=z8;have up:∀ c o,c≠z->g5.get? c=some o->g8.get? c=some o:=fun c o c1 e=>e8.extBut _ _ c1 (e7.extBut _ _ c1 (Heap.get?_push_of_some _ e));have t8:IsPair g8 g5.objs.size x y:=e8.extBut _ _ (Nat.ne_of_gt lz) (e7.extBut _ _ (Nat.ne_of_gt lz) (Heap.get?_push_size _ rfl));rw [sz] at z8 t8;refine wP ⟨_,rfl,?_⟩;show Q (.ref g5.objs.size) _;rw [sz];exact hQ g8 z8 (up _ _ D.TOz p5) (q1.at fun o e=>up _ o D.i1z e) (q2.at fun o e=>up _ o D.i2z e) t8 fun c o c1 c2 c3 c4 e=>up c o c1 (k5 c o c1 c2 c3 c4 e)
theorem w6v {z TI TO i1 i2 l1 l2:Addr} {k:Nat} {xs ys:Array Value} {Q:Fin->Shared->Prop} (hh:A.handled=none) (D:ZipApart z TI TO i1 i2 l1 l2) (st:ZSt s.heap z TI TO i1 i2 l1 l2 .none k xs ys) (hend:xs[k]?=none\/ys[k]?=none)
  (hE:∀ h' e,(∀ c o,c≠z->c≠TO->c≠i1->c≠i2->s.heap.get? c=some o->h'.get? c=some o)->(∃ o,h'.get? e=some o/\o.cls=.type "StopIteration")->E (.ref e) { s with heap:=h'}) :
  wpAny (model prog w) A (Builtin.«zip.__next__» ⟨[.ref z],[]⟩) Q E s:=by
 obtain ⟨hz,hTI,⟨a,b,hTO⟩,h1,h2,hl1,hl2⟩:=st;show wpAny _ _ (field (.ref z) 2 >>= _) _ _ _;refine wB (wpAny_field hz rfl (x:=.bool false) rfl ?_);show wpAny _ _ (field (.ref z) 3 >>= _) _ _ _;refine wB (wpAny_field hz rfl (x:=.ref TI) rfl (wB (wpAny_seqItems hTI rfl ?_)));show wpAny _ _ (Builtin.SmallTypes.ownedTupleIsFree (.ref z) >>= _) _ _ _;refine wB ?_;unfold Builtin.SmallTypes.ownedTupleIsFree;refine wB (wpAny_field hz rfl (x:=.none) rfl (wP ?_));simp only [if_true];refine wB (wpAny_rule (wB (wpAny_field hz rfl (x:=.ref TO) rfl (wB (wpAny_setField_rec hz (by simp) fun g1 z1 e1=>?_)))))
 replace z1:IsZip g1 z TI TO .ellipsis:=z1;refine wB ?_;simp only [List.zipIdx_cons,List.zipIdx_nil,List.forIn_cons,List.forIn_nil]
 refine wB (wB (wpAny_onRaise ?_));show wpAny _ _ (Builtin.SmallTypes.nextOf (.ref i1) >>= _) _ _ _
 cases hx:xs[k]? with
 | none =>
  refine wB (k5q hh (h1.extBut e1.extBut D.i1z) (hl1.extBut e1.extBut D.l1z) hx fun g2 e e2 he=>?_);obtain ⟨oe,ho,hc⟩:=he;have z2:IsZip g2 z TI TO .ellipsis:=e2 _ _ D.i1z.symm z1;have ne:e≠z:=fun q=>by subst q;rw [z2] at ho;cases ho;simp at hc
  exact wpAny_setField_rec z2 (by simp) fun g3 _ e3=>hE g3 e (fun c o c1 _ c3 _ q=>e3.extBut _ _ c1 (e2 _ _ c3 (e1.extBut _ _ c1 q))) ⟨oe,e3.extBut _ _ ne ho,hc⟩
 | some x =>
  have hy:ys[k]?=none:=by rcases hend with h | h;rw [hx] at h;cases h;exact h
  refine wB (j8k (h1.extBut e1.extBut D.i1z) (hl1.extBut e1.extBut D.l1z) hx fun g2 a2 e2=>wP ?_);have p2:IsPair g2 TO a b:=e2.extBut _ _ D.TOi1 (e1.extBut _ _ D.TOz hTO);refine wB (wpAny_seqItems p2 rfl (wB (wpAny_updateSeq_pair p2 fun g3 p3 e3=>wB (wpAny_letGo (wP ?_)))));refine wB (wB (wpAny_onRaise ?_));show wpAny _ _ (Builtin.SmallTypes.nextOf (.ref i2) >>= _) _ _ _;refine wB (k5q hh (((h2.extBut e1.extBut D.i2z).extBut e2.extBut D.i12.symm).extBut e3.extBut D.TOi2.symm) (((hl2.extBut e1.extBut D.l2z).extBut e2.extBut D.l2i1).extBut e3.extBut D.l2TO) hy fun g4 e e4 he=>?_);obtain ⟨oe,ho,hc⟩:=he;have z4:IsZip g4 z TI TO .ellipsis:=e4 _ _ D.i2z.symm (e3.extBut _ _ D.TOz.symm (e2.extBut _ _ D.i1z.symm z1));have ne:e≠z:=fun q=>by subst q;rw [z4] at ho;cases ho;simp at hc
  exact wpAny_setField_rec z4 (by simp) fun g5 _ e5=>hE g5 e (fun c o c1 c2 c3 c4 q=>e5.extBut _ _ c1 (e4 _ _ c4 (e3.extBut _ _ c2 (e2.extBut _ _ c3 (e1.extBut _ _ c1 q))))) ⟨oe,e5.extBut _ _ ne ho,hc⟩
abbrev tI (l:Addr):Obj:={ cls:=.type "tuple_iterator",data:=.fields #[.ref l,.int 0 0]}
abbrev H1 (h:Heap) (l1:Addr):Heap:=h.push (tI l1)
abbrev H2 (h:Heap) (l1 l2:Addr):Heap:=(H1 h l1).push (tI l2)
abbrev H3 (h:Heap) (l1 l2:Addr):Heap:=(H2 h l1 l2).push { cls:=.type "tuple",data:=.seq #[.ref h.objs.size,.ref (H1 h l1).objs.size]}
abbrev H4 (h:Heap) (l1 l2:Addr):Heap:=(H3 h l1 l2).push { cls:=.type "tuple",data:=.seq #[.none,.none]}
abbrev H5 (h:Heap) (l1 l2:Addr):Heap:=(H4 h l1 l2).push { cls:=.type "zip",data:=.fields #[.none,.bool false,.bool false,.ref (H2 h l1 l2).objs.size,.ref (H3 h l1 l2).objs.size]}
theorem made (l1 l2:Addr) (xs ys:Array Value):Meets (Builtin.«zip.__new__» ⟨[.type "zip",.ref l1,.ref l2],[]⟩) (fun _ R s=>s.heap.IsTuple l1 xs/\s.heap.IsTuple l2 ys/\R (.ok (.ret (.ref (H4 s.heap l1 l2).objs.size))) { s with heap:=H5 s.heap l1 l2}) :=
 .of_wp fun prog w A R s h=>by
  obtain ⟨hp,g,d,tk,os⟩:=s;obtain ⟨t1,t2,h⟩:=h;have hsub:=sub_zip;have L1:Heap.IsTuple (Shared.heap ⟨hp,g,d,tk,os⟩) l1 xs:=t1;have L2:Heap.IsTuple (Shared.heap ⟨hp.push (tI l1),g,d,tk,os⟩) l2 ys:=Heap.IsTuple.push t2 _
  wp_walk using wpAny_pyIter_tuple L1,wpAny_pyIter_tuple L2
  exact ⟨_,rfl,h⟩
theorem call_zip {l1 l2:Addr} {xs ys:Array Value} {Q:Value->Shared->Prop} (t1:s.heap.IsTuple l1 xs) (t2:s.heap.IsTuple l2 ys)
  (h:∀ h',ZSt h' (s.heap.objs.size + 4) (s.heap.objs.size + 2) (s.heap.objs.size + 3) s.heap.objs.size (s.heap.objs.size + 1) l1 l2 .none 0 xs ys->h'.objs.size=s.heap.objs.size + 5->(∀ c o,s.heap.get? c=some o->h'.get? c=some o)->Q (.ref (s.heap.objs.size + 4)) { s with heap:=h'}) :
  wpAny (model prog w) A (call (.type "zip") [.ref l1,.ref l2]) Q E s:=by
 refine callType_new F.called_zip (by decide) (F.typeCall_zip_2 _ _) (F.newCall_zip_2 _ _) (fun obj=>F.args_object_init_3 obj _ _) F.entry_zip_new (made l1 l2 xs ys) ⟨t1,t2,?_⟩;have z1:(H1 s.heap l1).objs.size=s.heap.objs.size + 1:=Heap.size_push ..;have z2:(H2 s.heap l1 l2).objs.size=s.heap.objs.size + 2:=by rw [Heap.size_push,z1]
 have z3:(H3 s.heap l1 l2).objs.size=s.heap.objs.size + 3:=by rw [Heap.size_push,z2]
 have z4:(H4 s.heap l1 l2).objs.size=s.heap.objs.size + 4:=by rw [Heap.size_push,z3]
 have z5:(H5 s.heap l1 l2).objs.size=s.heap.objs.size + 5:=by rw [Heap.size_push,z4]
 have g5:(H5 s.heap l1 l2).get? (H4 s.heap l1 l2).objs.size=some _:=Heap.get?_push_size _ rfl;have g4:(H5 s.heap l1 l2).get? (H3 s.heap l1 l2).objs.size=some _:=Heap.get?_push_of_some _ (Heap.get?_push_size _ rfl);have g3:(H5 s.heap l1 l2).get? (H2 s.heap l1 l2).objs.size=some _:=Heap.get?_push_of_some _ (Heap.get?_push_of_some _ (Heap.get?_push_size _ rfl));have g2:(H5 s.heap l1 l2).get? (H1 s.heap l1).objs.size=some _:=Heap.get?_push_of_some _ (Heap.get?_push_of_some _ (Heap.get?_push_of_some _ (Heap.get?_push_size _ rfl)));have g1:(H5 s.heap l1 l2).get? s.heap.objs.size=some _:=Heap.get?_push_of_some _ (Heap.get?_push_of_some _ (Heap.get?_push_of_some _ (Heap.get?_push_of_some _ (Heap.get?_push_size _ rfl))));have kp:∀ c o,s.heap.get? c=some o->(H5 s.heap l1 l2).get? c=some o:=fun c o x=>Heap.get?_push_of_some _ (Heap.get?_push_of_some _ (Heap.get?_push_of_some _ (Heap.get?_push_of_some _ (Heap.get?_push_of_some _ x))));show _/\_;rw [z2,z3,z4] at g5;rw [z1,z2] at g3;rw [z3] at g4;rw [z1] at g2;rw [z4];exact ⟨⟨_,g5,rfl⟩,h _ ⟨g5,g3,⟨_,_,g4⟩,⟨_,g1,rfl,rfl⟩,⟨_,g2,rfl,rfl⟩,t1.at fun o e=>kp _ o e,t2.at fun o e=>kp _ o e⟩ z5 kp⟩
theorem walk (hh:A.handled=none) (z TI TO i1 i2 l1 l2:Addr) (D:ZipApart z TI TO i1 i2 l1 l2) (xs ys:Array Value):WalksT prog w A z [z,TI,TO,i1,i2,l1,l2] [z,TO,i1,i2] (min xs.size ys.size)
   (fun i vals=>∃ x y,xs[i]?=some x/\ys[i]?=some y/\vals=#[x,y]) (fun i h=>ZSt h z TI TO i1 i2 l1 l2 .none i xs ys)
   (fun i T h=>ZSt h z TI TO i1 i2 l1 l2 (rawInt T) (i + 1) xs ys/\T≠z/\T≠TO/\T≠i1/\T≠i2) where
 sub:=fun c hc=>by simp only [List.mem_cons,List.not_mem_nil,or_false] at hc ⊢;rcases hc with q | q | q | q<;>simp [q]
 frame:=fun i h h' st k=>by obtain ⟨hz,hTI,⟨a,b,hTO⟩,h1,h2,hl1,hl2⟩:=st;exact ⟨k z (by simp) _ hz,k TI (by simp) _ hTI,⟨a,b,k TO (by simp) _ hTO⟩,h1.at fun o e=>k i1 (by simp) o e,h2.at fun o e=>k i2 (by simp) o e,hl1.at fun o e=>k l1 (by simp) o e,hl2.at fun o e=>k l2 (by simp) o e⟩
 item:=fun i s Q E hi st hQ=>by have ix:i < xs.size:=Nat.lt_of_lt_of_le hi (Nat.min_le_left ..);have iy:i < ys.size:=Nat.lt_of_lt_of_le hi (Nat.min_le_right ..);have hT:s.TypeIs (.ref z) "zip":=⟨_,st.1,rfl⟩;unfold pyNext;refine wB (wpAny_attempt (wpAny_callSpecial?_slot (name:=Str.ofString "__next__") hT F.slot_zip_next (wpAny_call_entry F.slot_zip_next hT F.entry_zip_next (w3b D st (Array.getElem?_eq_getElem ix) (Array.getElem?_eq_getElem iy) fun h' a1 a2 a3 a4 a5 k=>wP ?_) (F.args_zip_next_1 _))));obtain ⟨hz,hTI,⟨a,b,hTO⟩,h1,h2,hl1,hl2⟩:=st;have lt:∀ {c o},s.heap.get? c=some o->s.heap.objs.size≠c:=fun e=>Nat.ne_of_gt (Heap.lt_size e);refine hQ s.heap.objs.size #[xs[i],ys[i]] h' s.toks ⟨_,_,Array.getElem?_eq_getElem ix,Array.getElem?_eq_getElem iy,rfl⟩ (Nat.le_refl _) ⟨_,a5,rfl,_,rfl⟩ ⟨⟨a1,k _ _ D.TIz D.TITO D.TIi1 D.TIi2 hTI,⟨_,_,a2⟩,a3,a4,hl1.at fun o e=>k _ o D.l1z D.l1TO D.l1i1 D.l1i2 e,hl2.at fun o e=>k _ o D.l2z D.l2TO D.l2i1 D.l2i2 e⟩,lt hz,lt hTO,by obtain ⟨_,e,_⟩:=h1;exact lt e,by obtain ⟨_,e,_⟩:=h2;exact lt e⟩ ?_;exact fun c o hc e=>k c o (fun x=>hc (by simp [x])) (fun x=>hc (by simp [x])) (fun x=>hc (by simp [x])) (fun x=>hc (by simp [x])) e
 go:=fun elts k pos i T s Q E hm hQ=>by obtain ⟨⟨hz,hTI,⟨a,b,hTO⟩,h1,h2,hl1,hl2⟩,_⟩:=hm;refine wpAny_letOwnedTupleGo_zip hz fun h' hz' e=>hQ h' ⟨hz',e.extBut _ _ D.TIz hTI,⟨a,b,e.extBut _ _ D.TOz hTO⟩,h1.extBut e.extBut D.i1z,h2.extBut e.extBut D.i2z,hl1.extBut e.extBut D.l1z,hl2.extBut e.extBut D.l2z⟩ fun c o hc q=>e.extBut _ _ (fun x=>hc (by simp [x])) q
 apart:=fun i T h hm hT=>by obtain ⟨_,t1,t2,t3,t4⟩:=hm;simp only [List.mem_cons,List.not_mem_nil,or_false] at hT;rcases hT with q | q | q | q;exact t1 q;exact t2 q;exact t3 q;exact t4 q
 done:=fun s Q E st hQ=>by
  have hend:xs[min xs.size ys.size]?=none\/ys[min xs.size ys.size]?=none:=by
   rcases Nat.le_total xs.size ys.size with h | h
   ·rw [Nat.min_eq_left h];exact .inl (Array.getElem?_eq_none (Nat.le_refl _))
   ·rw [Nat.min_eq_right h];exact .inr (Array.getElem?_eq_none (Nat.le_refl _))
  have hT:s.TypeIs (.ref z) "zip":=⟨_,st.1,rfl⟩;unfold pyNext;refine wB (wpAny_attempt (wpAny_callSpecial?_slot (name:=Str.ofString "__next__") hT F.slot_zip_next (wpAny_call_entry F.slot_zip_next hT F.entry_zip_next (w6v hh D st hend fun h' e k he=>?_) (F.args_zip_next_1 _))));obtain ⟨o,ho,hc⟩:=he;exact wB (wpAny_isInstance (T:="StopIteration") (b:=true) ⟨o,ho,hc⟩ isSubtype_stop (wP (hQ _ s.toks fun c o hc e=>k c o (fun x=>hc (by simp [x])) (fun x=>hc (by simp [x])) (fun x=>hc (by simp [x])) (fun x=>hc (by simp [x])) e)))
 self:=fun i s Q E st hQ=>wpAny_pyIter_zip st.1 hQ
end
end ZT
namespace L2
open PySem PySem.Spec PyProof.Rows
theorem zipT {X:Cx} {P:Addr}:ZipOk X (SqT X.K) P:=⟨fun {pins Z H1 s1 a b us vs ps} I1 hh ha hb hP=>by
 obtain ⟨ia,va,pla,za⟩:=I1.tuple ha;obtain ⟨ib,vb,plb,zb⟩:=I1.tuple hb;have Pobj:s1.heap.get? P=some (PySem.W.tabObj ps):=I1.hok P _ hP;have pA:Heap.IsTuple s1.heap a ia.toArray:=pla;have pB:Heap.IsTuple s1.heap b ib.toArray:=plb
 have notP:∀ (l:Addr) (its:Array Value),s1.heap.IsTuple l its->l≠P:=fun l its ⟨o,e,c,_⟩ z=>by rw [z,Pobj] at e;cases e;cases c
 have lt:∀ (l:Addr) (its:Array Value),s1.heap.IsTuple l its->l < s1.heap.objs.size:=fun l its ⟨o,e,_⟩=>Heap.lt_size e;refine ⟨ia,ib,va,vb,lt _ _ pA,lt _ _ pB,notP _ _ pA,notP _ _ pB,fun Q E go=>ZT.call_zip pA pB fun h2 hst sz2 k2=>?_⟩
 exact go h2 _ _ (fun A' hA=>(ZT.walk (prog:=X.prog) (w:=X.w) hA _ _ _ _ _ _ _ (zipApart_new (lt _ _ pA) (lt _ _ pB)) ia.toArray ib.toArray).toU) hst sz2 k2⟩
end L2
namespace HT
open PySem PySem.Spec PyProof.Rows
section
variable {prog:Program} {w:World} {A:Around} {E:Value->Shared->Prop} {s:Shared}
theorem getItem_tuple_whole {t sl:Addr} {items:Array Value} {vl vu:Value} {lo hi:Option Int} {Q:Value->Shared->Prop} (ht:IsTup s.heap t items) (hs:s.heap.IsSliceOf sl vl vu .none) (pl:IsPart vl lo) (pu:IsPart vu hi)
  (hw:sIx items.size 0 lo=0/\sIx items.size items.size hi=items.size) (h:Q (.ref t) s):wpAny (model prog w) A (getItem (.ref t) (.ref sl)) Q E s:=by
 obtain ⟨os,hos,hcs,hds⟩:=id hs;have hTs:s.TypeIs (.ref sl) "slice":=⟨os,hos,hcs⟩;unfold getItem
 try with_reducible refine wpAny_holding ?_
 first | refine wB (wP ?_) | skip
 refine wB (wpAny_sequenceKey ht.typeIs (by decide) ?_)
 refine wB (wpAny_callSpecial?_slot (name:=Str.ofString "__getitem__") ht.typeIs PyProof.Rows.slot_tuple_getitem
  (wpAny_call_entry PyProof.Rows.slot_tuple_getitem ht.typeIs entry_tuple_getitem ?_ (args_tuple_getitem _ _)))
 show wpAny _ _ (Builtin.Tuple.tupleItemsOf (.ref t) >>= _) _ _ s;refine wB (tupleItemsOf_ ht ?_);refine wB (wpAny_typeOf hTs ?_);rw [if_pos (by decide)];refine wB (j3h hs pl pu ?_)
 have hno:(((sIx items.size 0 lo:Nat):Int) == 0&&(1:Int) == 1&&(sIx items.size items.size hi - sIx items.size 0 lo) == items.size)=true:=by rw [hw.1,hw.2];simp
 show wpAny _ _ (if (((sIx items.size 0 lo:Nat):Int) == 0&&(1:Int) == 1&&(sIx items.size items.size hi - sIx items.size 0 lo) == items.size)=true then _ else _) _ _ s;rw [if_pos hno];unfold Builtin.Tuple.tupleIsExact;refine wB (wB (wpAny_typeOf ht.typeIs (wP ?_)));rw [if_pos (by decide)]
 first
  | exact wB (wpAny_rule (wP ⟨_,rfl,wP h⟩))
  | exact wB (wpAny_rule (wB (wP (wP ⟨_,rfl,wP h⟩))))
  | exact wB (wB (wpAny_rule (wP (wP ⟨_,rfl,wP h⟩))))
end
end HT
namespace L2
open PySem PySem.Spec PyProof.Rows
def w97 (K:PySem.W.Frag):V->Option Int->Option Int->Hp->VK->Prop:=fun x lo hi H Q=>∃ a xs,x=.ref a/\SqT K H a xs/\(HT.sIx xs.length 0 lo=0/\HT.sIx xs.length xs.length hi=xs.length)/\Q (.ref a) H
theorem w3r {X:Cx}:SlR X (w97 X.K):=by
 intro pins s Z H x v vl vu lo hi sl Q I rx hs pl pu h;obtain ⟨a,xs,rfl,hx,hw,q⟩:=h;cases rx;obtain ⟨its,r,ht,hz⟩:=I.tuple hx;have hlen:its.toArray.size=xs.length:=by rw [List.size_toArray];exact r.length.symm
 refine ⟨"tuple",_,PyProof.Rows.slot_tuple_getitem.lookup,ht.typeIs,?_⟩;exact HT.getItem_tuple_whole ht hs pl pu (by rw [hlen];exact hw) ⟨.ref a,H,I,rfl,q⟩
end L2
namespace WL
open PySem L2
open Rep (rp)
open Ow (sl)
open Sls (rel)
section
variable {X:Cx} {E:XK} {T:Addr} {D:Type} [Sls D] {pos:Pos}
theorem Stt.tabbed {F R:Rg} {H H':Hp} {d:D} {Z:St} (s:Stt T F R H d Z) (k:∀ b o,b≠T->H b=some o->H' b=some o) (t:j9z H' T):Ch T F R H F R H'/\Stt T F R H' d Z:=by
 refine ⟨⟨fun b o _ n h=>k b o n h,fun _ h=>.inl h,fun _ h=>.inl h,fun _ h _=>h⟩,Sls.st s.rel (G:=fun a=>a=T) ⟨fun b o n h=>k b o n h,fun _ h=>.inl h⟩ (fun a h=>by rw [h];exact s.tabR) (fun a h z=>s.tabF (by rw [<- z];exact h)),s.sub,fun a h=>?_,t,s.tabR,s.tabF⟩;by_cases e:a=T
 ·rw [e];exact j31 t
 ·cases q:H a with
  | none=>exact absurd q (s.liv a h)
  | some o=>rw [k a o e q];simp
theorem j7z {R:Rg} {H:Hp} {x:Tp Int} {v:V} (h:rp R H x v):∃ a,v=.ref a/\H a=some (.tup (x.l.map V.int)):=by obtain ⟨a,vs,e,_,h3,h4⟩:=h;exact ⟨a,e,by rw [h3,j1b h4]⟩
theorem j71 {R:Rg} {H:Hp} {x:List Int} {v:V} (h:rp R H x v):∃ a,v=.ref a/\H a=some (.lst (x.map V.int)):=by obtain ⟨a,vs,e,_,h3,h4⟩:=h;exact ⟨a,e,by rw [h3,j1b h4]⟩
theorem w1p {e e1 e2:Expr} {w1 w2:Wf D (List Int) D} (h1:EW X E T e1 w1) (h2:EW X E T e2 w2) (hp:∀ {ta:TA},PA X [e1,e2] ta->PE X e (w9x X.K T ta))
  (hs:starEach [e1,e2] X.env=(false,eval e1 X.env) :: starEach [e2] X.env:=by rfl) (hs2:starEach [e2] X.env=(false,eval e2 X.env) :: starEach [] X.env:=by rfl) :
  EW X E T e (fun (d:D) (Kn:Bool->D->Prop) Ke=>w1 d (fun xs d1=>w2 d1 (fun ys d2=>Kn (j4p xs ys) d2) Ke) Ke):=by
 obtain ⟨ta,a1,a2⟩:=h1;obtain ⟨tb,b1,b2⟩:=h2;refine ⟨_,hp (j0k a1 (j0k b1 j02 hs2) hs),fun d F R Z H Kn Ke Q s hw kn ke=>?_⟩;refine a2 d F R Z H _ Ke _ s hw (fun x d1 u F1 R1 H1 q1 c1 s1 r1=>?_) ke;refine b2 d1 F1 R1 Z H1 _ Ke _ s1 q1 (fun y d2 v F2 R2 H2 q2 c2 s2 r2=>?_) fun C y d' F' R' H' k c s'=>ke C y d' F' R' H' k (Ch.trans s s1.tab c1 c) s';obtain ⟨a,rfl,ha⟩:=j71 (s1.val c2 r1);obtain ⟨b,rfl,hb⟩:=j71 r2;refine ⟨a,b,x,y,rfl,SqL.of ha,SqL.of hb,s2.tab,fun H' k _ t=>?_⟩;obtain ⟨c3,s3⟩:=s2.tabbed k t;exact kn _ d2 _ F2 R2 H' q2 (Ch.trans s s1.tab c1 (Ch.trans s1 s2.tab c2 c3)) s3 rfl
theorem w1o {e e1 e2:Expr} {w1 w2:Wf D (Tp Int) D} (h1:EW X E T e1 w1) (h2:EW X E T e2 w2) (hp:∀ {ta:TA},PA X [e1,e2] ta->PE X e (w7a X.K T ta))
  (hs:starEach [e1,e2] X.env=(false,eval e1 X.env) :: starEach [e2] X.env:=by rfl) (hs2:starEach [e2] X.env=(false,eval e2 X.env) :: starEach [] X.env:=by rfl) :
  EW X E T e (fun (d:D) (Kn:Bool->D->Prop) Ke=>w1 d (fun xs d1=>w2 d1 (fun ys d2=>Kn (j4p xs.l ys.l) d2) Ke) Ke):=by
 obtain ⟨ta,a1,a2⟩:=h1;obtain ⟨tb,b1,b2⟩:=h2;refine ⟨_,hp (j0k a1 (j0k b1 j02 hs2) hs),fun d F R Z H Kn Ke Q s hw kn ke=>?_⟩;refine a2 d F R Z H _ Ke _ s hw (fun x d1 u F1 R1 H1 q1 c1 s1 r1=>?_) ke;refine b2 d1 F1 R1 Z H1 _ Ke _ s1 q1 (fun y d2 v F2 R2 H2 q2 c2 s2 r2=>?_) fun C y d' F' R' H' k c s'=>ke C y d' F' R' H' k (Ch.trans s s1.tab c1 c) s';obtain ⟨a,rfl,ha⟩:=j7z (s1.val c2 r1);obtain ⟨b,rfl,hb⟩:=j7z r2;refine ⟨a,b,x.l,y.l,rfl,SqT.of ha,SqT.of hb,s2.tab,fun H' k _ t=>?_⟩;obtain ⟨c3,s3⟩:=s2.tabbed k t;exact kn _ d2 _ F2 R2 H' q2 (Ch.trans s s1.tab c1 (Ch.trans s1 s2.tab c2 c3)) s3 rfl
theorem k8q {a:Expr} {lo hi:Option Expr} {p2:Pos} {wa:Wf D (Tp Int) D} {wl wh:Wf D (Option Int) D} (ha:EW X E T a wa) (hl:OW X E T lo wl) (hh:OW X E T hi wh) :
  EW X E T (.Subscript a (.Slice lo hi none p2) pos) (fun (d:D) (Kn:Tp Int->D->Prop) Ke=>wa d (fun g d1=>wl d1 (fun l d2=>wh d2 (fun h d3=>Kn ⟨cutL g.l l h⟩ d3) Ke) Ke) Ke):=by
 obtain ⟨ta,a1,a2⟩:=ha;obtain ⟨tl,l1,l2⟩:=hl;obtain ⟨th,h1,h2⟩:=hh;refine ⟨_,j4y (sl_tup.or w3r) a1 l1 h1,fun d F R Z H Kn Ke Q s hw kn ke=>?_⟩;refine a2 d F R Z H _ Ke _ s hw (fun g d1 u F1 R1 H1 q1 c1 s1 r1=>?_) ke;refine l2 d1 F1 R1 Z H1 _ Ke _ s1 q1 (fun l d2 F2 R2 H2 q2 c2 s2=>?_) fun C y d' F' R' H' k c s'=>ke C y d' F' R' H' k (Ch.trans s s1.tab c1 c) s';refine h2 d2 F2 R2 Z H2 _ Ke _ s2 q2 (fun h d3 F3 R3 H3 q3 c3 s3=>?_) fun C y d' F' R' H' k c s'=>ke C y d' F' R' H' k (Ch.trans s s1.tab c1 (Ch.trans s1 s2.tab c2 c)) s';have c23:=Ch.trans s1 s2.tab c2 c3;have r3:=s1.val c23 r1;obtain ⟨q,vs,rfl,k1,k2,k3⟩:=id r3;have cc:=Ch.trans s s1.tab c1 c23;have le:=Paired.length k3;by_cases hw:HT.sIx vs.length 0 l=0/\HT.sIx vs.length vs.length h=vs.length
 ·refine .inr ⟨q,vs,rfl,SqT.of k2,hw,?_⟩;refine kn _ d3 _ F3 R3 H3 q3 cc s3 ⟨q,vs,rfl,k1,k2,?_⟩
  have e:cutL g.l l h=g.l:=by unfold cutL;rw [le,hw.1,hw.2,List.drop_zero,Nat.sub_zero,<- le,List.take_length]
  rw [e];exact k3
 ·refine .inl ⟨q,vs,rfl,SqT.of k2,hw,fun p hp=>?_⟩;obtain ⟨s4,c4,n4⟩:=s3.new (.tup (cutV vs l h)) hp;exact kn _ d3 _ F3 R3 _ q3 (Ch.trans s s3.tab cc c4) s4 ⟨p,_,rfl,n4,j0h,s3.vals c4 (j72 k3 l h)⟩
end
structure SI (w:World) where
 l:List Int
instance (w:World):Ow (SI w):=⟨fun F _ H x v=>∃ a ks,v=some (.ref a)/\(∀ b,F b↔b=a)/\H a=some (setO w a ks)/\ks.Nodup/\(∀ k,k∈ks↔k∈x.l)/\x.l.Pairwise (· < ·),
 fun h e s n=>by
  obtain ⟨a,ks,h1,h2,h3,h4⟩:=h
  exact ⟨a,ks,h1,h2,e.keep a _ (n a ((h2 a).mpr rfl)) h3,h4⟩,
 fun h e=>by
  obtain ⟨a,ks,h1,h2,h3,h4⟩:=h
  exact ⟨a,ks,h1,fun b=>(e b).symm.trans (h2 b),h3,h4⟩⟩
def sadd (k:Int) (l:List Int):List Int:=if k∈l then l else ins k l
def sdel (k:Int) (l:List Int):List Int:=l.filter fun x=>decide (x≠k)
theorem j1q {xs ys:List Int} (hx:xs.Nodup) (hy:ys.Nodup) (h:∀ k,k∈xs↔k∈ys):xs.Perm ys:=(List.perm_ext_iff_of_nodup hx hy).mpr h
theorem j0l {l:List Int} (h:l.Pairwise (· < ·)):l.Nodup:=h.imp fun q=>Int.ne_of_lt q
theorem w1e {l:List Int} (h:l.Pairwise (· < ·)):l.Pairwise (·<=·):=h.imp fun q=>Int.le_of_lt q
theorem w5q {l:List Int} (h:l.Pairwise (·<=·)) (n:l.Nodup):l.Pairwise (· < ·):=List.Pairwise.imp₂ (fun a b (q:a<=b) (n:a≠b)=>by omega) h n
theorem srt_mem {k:Int} {l:List Int}:k∈srt l↔k∈l:=(j32 l).mem_iff
theorem j7u {ks l:List Int} (n:ks.Nodup) (h:∀ k,k∈ks↔k∈l) (r:l.Pairwise (· < ·)):srt ks=l:=j4v ((j32 ks).trans (j1q n (j0l r) h)) (j6o ks) (w1e r)
theorem sadd_mem {k x:Int} {l:List Int}:x∈sadd k l↔x=k\/x∈l:=by
 unfold sadd;split
 ·rename_i h
  exact ⟨.inr,fun z=>z.elim (fun e=>by rw [e];exact h) id⟩
 ·rw [(j45 k l).mem_iff,List.mem_cons]
theorem j8t {k:Int} {l:List Int} (r:l.Pairwise (· < ·)):(sadd k l).Pairwise (· < ·):=by
 unfold sadd;split
 ·exact r
 ·rename_i h
  exact w5q (k2m k l (w1e r)) ((j45 k l).nodup_iff.mpr (List.nodup_cons.mpr ⟨h,j0l r⟩))
theorem sdel_mem {k x:Int} {l:List Int}:x∈sdel k l↔x∈l/\x≠k:=by unfold sdel;rw [List.mem_filter];simp
section
variable {X:Cx} {E:XK} {T:Addr} {ms:List Nat} {n:Nat} {D PO τ:Type} [Sls D] [Sls PO] [Ow τ] {pos:Pos} {Y:Type} [Rep Y] {is:List Nat} {tg:Expr}
theorem w57 {p:Pos} {w:World} (hW:X.w=w) (hg:Gl X "set") (hm:X.mg "set"=none):EO X E T (.Call (.Name "set" p) [] [] pos) (fun (d:D) (Kn:SI w->D->Prop) _=>Kn ⟨[]⟩ d):=by
 subst hW;refine ⟨_,k4k k9e hg hm PyProof.Rows.boot_set,fun d F R Z H Kn Ke Q s hw kn ke=>⟨rfl,fun p hp=>?_⟩⟩;obtain ⟨s1,c1,n1⟩:=s.new (setO X.w p []) hp;have nF:¬F p:=fun z=>n1 (s.sub p z);have ex:Ext (fun _=>False) R H (fun a=>R a\/a=p) (upd H p (setO X.w p [])):=⟨fun b o _ h=>by rw [j0g (j0m h hp)];exact h,fun a h=>h.elim .inl fun q=>.inr (by rw [q];exact hp)⟩;refine kn ⟨[]⟩ d _ (fun a=>a=p) F (fun a=>R a\/a=p) _ hw ⟨c1.keep,ex.new,fun a h=>h.elim (fun q=>.inr (by rw [q];exact hp)) .inl,fun a h _=>.inl h⟩ ⟨Sls.st s.rel ex (fun _ z=>z.elim) (fun _ _ z=>z),fun a h=>.inl (s.sub a h),fun a h=>?_,s1.tab,.inl s.tabR,s.tabF⟩ ⟨⟨p,[],rfl,fun b=>Iff.rfl,j0h,List.nodup_nil,fun _=>Iff.rfl,List.Pairwise.nil⟩,fun a h=>.inr h,fun a h k=>nF (by rw [<- h];exact k),fun h=>n1 (by rw [<- h];exact s.tabR)⟩;rcases h with h | h
 ·exact s1.liv a h
 ·rw [h,j0h];simp
theorem w65 {a:Expr} {x:Str} {p:Pos} (i:Nat) {w:World} (hW:X.w=w) {D0:Type} [Sls D0] {wa:Wf D Int D} [A:At i D (SI w) D0] (ha:EW X E T a wa) (hn:PE X (.Name x p) (tVar i)) (hm:behindInMarks .In (.Name x p)=false) :
  TW X E T (.Compare a [.In] [.Name x p] pos) (fun (d:D) Kn Ke=>wa d (fun k d1=>Kn (decide (k∈(A.get d1).l)) d1) Ke):=by
 subst hW;obtain ⟨ta,a1,a2⟩:=ha;refine ⟨_,j23 w72 a1 hn hm,fun d F R Z H Kn Ke Q s hw kn ke=>a2 d F R Z H _ Ke _ s hw (fun k d1 u F1 R1 H1 q1 c1 s1 r1=>?_) ke⟩;obtain ⟨v,G1,G2,h1,h2,⟨b,ks,rfl,g2,g3,g4,g5,g6⟩,_⟩:=A.take s1.rel;refine ⟨_,h1,k,b,ks,r1,rfl,g3,_,rfl,?_⟩;have e:decide (k∈ks)=decide (k∈(A.get d1).l):=by simp only [g5]
 rw [e];exact kn _ d1 F1 R1 H1 q1 c1 s1
theorem j8q {w:World} {i:Nat} {D0:Type} [Sls D0] [A:At i D (SI w) D0] [U:Pt i D0 (SI w) D] {F R:Rg} {H:Hp} {d:D} {Z:St} (s:Stt T F R H d Z):∃ a ks,Z[i]?=some (some (.ref a))/\H a=some (setO w a ks)/\ks.Nodup/\(∀ k,k∈ks↔k∈(A.get d).l)/\(A.get d).l.Pairwise (· < ·) /\
  ∀ (ys us:List Int),us.Nodup->(∀ k,k∈us↔k∈ys)->ys.Pairwise (· < ·)->Ch T F R H F R (upd H a (setO w a us))/\Stt T F R (upd H a (setO w a us)) (U.put (A.hole d) ⟨ys⟩) Z:=by
 obtain ⟨v,F1,F2,h1,h2,⟨a,ks,rfl,h4,h5,h6,h7,h8⟩,h9⟩:=A.take s.rel;have aF:F a:=(h2.all a).mpr (.inl ((h4 a).mpr rfl));have aT:a≠T:=fun z=>s.tabF (by rw [<- z];exact aF);refine ⟨a,ks,h1,h5,h6,h7,h8,fun ys us nu mu pu=>?_⟩;have ex:=j4i (F:=F) (R:=R) (H:=H) (a:=a) (o:=setO w a us);have gs:∀ c,c=a->R c:=fun c z=>by rw [z];exact s.sub a aF
 have k:∀ b u,b≠a->H b=some u->upd H a (setO w a us) b=some u:=fun b u z e=>by rw [j0g z];exact e
 refine ⟨⟨fun b o n _ e=>k b o (fun z=>n (by rw [z];exact aF)) e,fun _ h=>.inl h,fun _ h=>.inl h,fun _ h _=>h⟩,Pt.same (A:=U) (Sls.st h9 ex gs fun c z q=>h2.dis c ((h4 c).mpr q) z) h1 h2 ⟨a,us,rfl,h4,j0h,nu,mu,pu⟩,s.sub,fun c z=>?_,?_,s.tabR,s.tabF⟩
 ·by_cases e:c=a
  ·rw [e,j0h];simp
  ·rw [j0g e];exact s.liv c z
 ·obtain ⟨ps,e,t⟩:=s.tab;exact ⟨ps,k _ _ (fun z=>aT z.symm) e,t⟩
theorem w38 {x:Str} {e:Expr} (i:Nat) {w:World} (hW:X.w=w) {p1 p2 p3:Pos} {D0:Type} [Sls D0] [A:At i D (SI w) D0] [U:Pt i D0 (SI w) D] [J:Pj D PO n] {we:Wf D Int D} (h:EW X E T e we)
  (hb:∀ {t:TA},PA X [e] t->PS X (.Expr (.Call (.Attribute (.Name x p1) "add" p2) [e] [] p3) pos) (k5u (tBMS X.w (fun x vs H Q=>∃ (a:Addr) (ks:List Int) (k:Int),x=.ref a/\vs=[.int k]/\H a=some (setO X.w a ks)/\ks.length + 1<=127/\∀ ks':List Int,ks'.Nodup->ks'.Perm (if k∈ks then ks else k :: ks)->Q .non (upd H a (setO X.w a ks'))) (tVar i) t))) (hs:starEach [e] X.env=(false,eval e X.env) :: starEach [] X.env:=by rfl) :
  S1 X E T ms n (.Expr (.Call (.Attribute (.Name x p1) "add" p2) [e] [] p3) pos) (fun (d:D) (Kn:D->Prop) (Kr:τ->PO->Prop) Ke=>we d (fun y d'=>(A.get d').l.length < 127/\Kn (U.put (A.hole d') ⟨sadd y (A.get d').l⟩)) fun C d'=>Ke C (J.pj d')):=by
 subst hW;obtain ⟨t,h1,h2⟩:=h;refine ⟨_,hb (j0k h1 j02 hs),fun d F R Z H Kn Kr Ke En s hw kn kr ke=>?_⟩;obtain ⟨a,ks,g1,g2,g3,_⟩:=j8q (i:=i) s;refine ⟨_,g1,⟨a,ks,rfl,g2⟩,h2 d F R Z H _ _ _ s hw (fun y d' v F' R' H' q c s' r=>?_) fun C y d' F' R' H' q c s'=>?_⟩
 ·obtain ⟨a',ks',k1,k2,k3,k4,k5,k6⟩:=j8q (i:=i) s';rw [g1] at k1;cases k1;have r:v=V.int y:=r;subst r;have len:ks'.length=(A.get d').l.length:=(j1q k3 (j0l k5) k4).length_eq;refine ⟨a,ks',y,rfl,rfl,k2,by have:=q.1;omega,fun us nu pu=>?_⟩
  obtain ⟨c2,s2⟩:=k6 (sadd y (A.get d').l) us nu (fun k=>by
   rw [pu.mem_iff,sadd_mem];split
   ·rename_i hy
    rw [k4];exact ⟨.inr,fun z=>z.elim (fun e=>by rw [e];exact (k4 y).mp hy) id⟩
   ·rw [List.mem_cons,k4]) (j8t k5)
  exact kn _ F' R' _ Z q.2 (Ch.trans s s'.tab c c2) s2 (Ag.refl _ _)
 ·obtain ⟨G,g1,g2⟩:=j1o (PO:=PO) s';exact ke C y _ G R' H' q (c.less g1) g2
theorem w37 {x:Str} {e:Expr} (i:Nat) {w:World} (hW:X.w=w) {p1 p2 p3:Pos} {D0:Type} [Sls D0] [A:At i D (SI w) D0] [U:Pt i D0 (SI w) D] [J:Pj D PO n] {we:Wf D Int D} (h:EW X E T e we)
  (hb:∀ {t:TA},PA X [e] t->PS X (.Expr (.Call (.Attribute (.Name x p1) "discard" p2) [e] [] p3) pos) (k5u (tBMS X.w (fun x vs H Q=>∃ (a:Addr) (ks:List Int) (k:Int),x=.ref a/\vs=[.int k]/\H a=some (setO X.w a ks)/\∀ ks':List Int,ks'.Nodup->(if k∈ks then ks.Perm (k :: ks') else ks'=ks)->Q .non (upd H a (setO X.w a ks'))) (tVar i) t))) (hs:starEach [e] X.env=(false,eval e X.env) :: starEach [] X.env:=by rfl) :
  S1 X E T ms n (.Expr (.Call (.Attribute (.Name x p1) "discard" p2) [e] [] p3) pos) (fun (d:D) (Kn:D->Prop) (Kr:τ->PO->Prop) Ke=>we d (fun y d'=>Kn (U.put (A.hole d') ⟨sdel y (A.get d').l⟩)) fun C d'=>Ke C (J.pj d')):=by
 subst hW;obtain ⟨t,h1,h2⟩:=h;refine ⟨_,hb (j0k h1 j02 hs),fun d F R Z H Kn Kr Ke En s hw kn kr ke=>?_⟩;obtain ⟨a,ks,g1,g2,g3,_⟩:=j8q (i:=i) s;refine ⟨_,g1,⟨a,ks,rfl,g2⟩,h2 d F R Z H _ _ _ s hw (fun y d' v F' R' H' q c s' r=>?_) fun C y d' F' R' H' q c s'=>?_⟩
 ·obtain ⟨a',ks',k1,k2,k3,k4,k5,k6⟩:=j8q (i:=i) s';rw [g1] at k1;cases k1;have r:v=V.int y:=r;subst r;refine ⟨a,ks',y,rfl,rfl,k2,fun us nu pu=>?_⟩
  obtain ⟨c2,s2⟩:=k6 (sdel y (A.get d').l) us nu (fun k=>by
   rw [sdel_mem,<- k4];split at pu
   ·rename_i hy
    have nk:y∉us:=(List.nodup_cons.mp (pu.nodup_iff.mp k3)).1;rw [pu.mem_iff,List.mem_cons];exact ⟨fun z=>⟨.inr z,fun e=>nk (by rw [<- e];exact z)⟩,fun z=>z.1.elim (fun e=>absurd e z.2) id⟩
   ·rename_i hy
    rw [pu]
    exact ⟨fun z=>⟨z,fun e=>hy (by rw [<- e];exact z)⟩,fun z=>z.1⟩) (List.Pairwise.filter _ k5)
  exact kn _ F' R' _ Z q (Ch.trans s s'.tab c c2) s2 (Ag.refl _ _)
 ·obtain ⟨G,g1,g2⟩:=j1o (PO:=PO) s';exact ke C y _ G R' H' q (c.less g1) g2
theorem k40 {x:Str} {p p1:Pos} (i:Nat) {w:World} (hW:X.w=w) {D0:Type} [Sls D0] [A:At i D (SI w) D0] (hc:X.calm=true) (hg:Gl X "sorted") (hm:X.mg "sorted"=none) (hn:PE X (.Name x p1) (tVar i)) :
  EO X E T (.Call (.Name "sorted" p) [.Name x p1] [] pos) (fun (d:D) (Kn:OL Int->D->Prop) _=>(A.get d).l.length < 64/\Kn ⟨(A.get d).l⟩ d):=by
 subst hW;refine ⟨_,j1l (j54 hc) hg hm PyProof.Rows.boot_sorted (j0k hn j02),fun d F R Z H Kn Ke Q s hw kn ke=>?_⟩;obtain ⟨v,F1,F2,h1,h2,⟨a,ks,rfl,h4,h5,h6,h7,h8⟩,h9⟩:=A.take s.rel;have len:ks.length=(A.get d).l.length:=(j1q h6 (j0l h8) h7).length_eq;refine ⟨_,h1,a,ks,rfl,h5,by have:=hw.1;omega,fun l ns hl pn sn=>?_⟩;rw [j7v pn sn,j7u h6 h7 h8];obtain ⟨R',c3,s3,n3⟩:=j3i s hl (j10 (R:=R) (H:=H) (A.get d).l);exact kn _ d _ _ F R' _ hw.2 c3 s3 n3
theorem itp_tup {K:PySem.W.Frag} {a:Addr} {xs:List Y} {vs:List V}:ItP (Itt K a) xs (fun R H=>H a=some (.tup vs)/\Paired (rp R H) xs vs) where
 go:=fun {R H i} p h=>by obtain ⟨v,e,_⟩:=j1p (i:=i) (x:=xs[i]) p.2 (by simp [h]);exact ⟨vs,v,SqT.of p.1,e⟩
 yld:=fun {R H i v H'} p _ hi y=>by obtain ⟨e,y⟩:=y;subst e;have y':=y vs (SqT.of p.1);obtain ⟨u,e,r⟩:=j1p (i:=i) (x:=xs[i]) p.2 (by simp [hi]);rw [y'] at e;cases e;exact ⟨.inl rfl,_,by simp [hi],r⟩
 stop:=fun {R H} p=>⟨vs,SqT.of p.1,by rw [Paired.length p.2];exact Nat.le_refl _⟩
theorem w8n {e:Expr} {w:Wf D (Tp Y) D} (h:EW X E T e w):IW X E T is tg e (fun (b:D) (_:List Y)=>b) (fun (d:D) Kn Ke=>w d (fun x d'=>Kn x.l d') Ke):=by obtain ⟨t,h1,h2⟩:=h;refine ⟨_,w2m h1,fun d F R Z H Kn Ke Rk s hw kn ke=>h2 d F R Z H _ _ _ s hw (fun xs d' v F' R' H' q c s' r=>?_) ke⟩;obtain ⟨a,vs,rfl,r1,r2,r3⟩:=r;refine ⟨a,rfl,⟨vs,SqT.of r2⟩,kn xs.l d' _ (fun R H=>(H a=some (.tup vs)/\Paired (rp R H) xs.l vs)/\¬R a) F' (fun _=>False) F' R' H' q c s'.std (j2l F') s'.rel ⟨fun p=>itp_tup.go p.1,fun p=>itp_tup.yld p.1,fun p=>itp_tup.stop p.1⟩ ⟨⟨r2,r3⟩,r1⟩ (fun p gs nf ex=>?_) fun b' G2 F'' R'' H'' Z' p h g t=>Sls.fq h (j4f t fun _ z=>z)⟩;have na:¬_:=fun z=>p.2 (gs a z);exact ⟨⟨ex.keep a _ na p.1.1,j05 (ex.wide gs) p.1.2⟩,ex.not p.2 p.1.1⟩
theorem j81 {st:Stmt} {C:Addr} {x:V} {D':Type} [Sls D'] [J:Pj D PO n] (hp:PS X st (w2b C E (w7b (tC x) tNil))):S1 X E T ms n st (fun (d:D) (_:D'->Prop) (_:τ->PO->Prop) Ke=>Ke C (J.pj d)):=by refine ⟨_,hp,fun d F R Z H Kn Kr Ke En s hw kn kr ke=>⟨(by show 1<=sizeLine;decide),fun y=>?_⟩⟩;obtain ⟨G,g1,g2⟩:=j1o (PO:=PO) s;exact ke C y _ G R H hw ((Ch.refl _ _ _ _).less g1) g2
end
def Ris (l:List Int):Prop:=l.Pairwise (· < ·)
def asc (ns:List Int):Bool:=j4p ns (ns.drop 1)
theorem cut1 {Y:Type} (xs:List Y):cutL xs (some 1) none=xs.drop 1:=by
 unfold cutL;rw [HT.sIx_none,show (some (1:Int))=some ((1:Nat):Int) from rfl,HT.sIx_nat]
 cases xs with
 | nil=>rfl
 | cons a r =>
  rw [show min 1 (a :: r).length=1 by simp,List.take_of_length_le];rw [List.length_drop];exact Nat.le_refl _
theorem w12 {a b:Int} {r:List Int}:asc (a :: b :: r)=(decide (a < b)&&asc (b :: r)):=rfl
theorem j3e:∀ (ns:List Int),asc ns=true↔Ris ns
 | []=>⟨fun _=>List.Pairwise.nil,fun _=>rfl⟩
 | [a]=>⟨fun _=>List.pairwise_singleton _ _,fun _=>rfl⟩
 | a :: b :: r=>by
  rw [w12,Bool.and_eq_true,decide_eq_true_eq,j3e (b :: r)];unfold Ris;constructor
  ·rintro ⟨h1,h2⟩;refine List.pairwise_cons.mpr ⟨fun x hx=>?_,h2⟩;rcases List.mem_cons.mp hx with e | e
   ·rw [e];exact h1
   ·exact Int.lt_trans h1 ((List.pairwise_cons.mp h2).1 x e)
  ·intro h;exact ⟨(List.pairwise_cons.mp h).1 b List.mem_cons_self,(List.pairwise_cons.mp h).2⟩
theorem k1w {xs ys:List Int} (hx:Ris xs) (hy:Ris ys) (h:∀ k,k∈xs↔k∈ys):xs=ys:=j4v (j1q (j0l hx) (j0l hy) h) (w1e hx) (w1e hy)
def tog (l:List Int) (k:Int):List Int:=if k∈l then sdel k l else sadd k l
theorem k5r {l:List Int} {k:Int} (h:Ris l):Ris (tog l k):=by
 unfold tog;split
 ·exact List.Pairwise.filter _ h
 ·exact j8t h
theorem w3j {l:List Int} {k x:Int}:x∈tog l k↔((x∈l)↔¬ x=k):=by
 unfold tog;split
 ·rename_i h
  rw [sdel_mem];constructor
  ·intro ⟨a,b⟩;exact ⟨fun _=>b,fun _=>a⟩
  ·intro z;by_cases e:x=k
   ·rw [e] at z;exact absurd (z.mp h) (by simp)
   ·exact ⟨z.mpr e,e⟩
 ·rename_i h
  rw [sadd_mem];constructor
  ·rintro (a | a)
   ·subst a;exact ⟨fun z=>absurd z h,fun z=>absurd rfl z⟩
   ·exact ⟨fun _ e=>h (by rw [<- e];exact a),fun _=>a⟩
  ·intro z;by_cases e:x=k
   ·exact .inl e
   ·exact .inr (z.mpr e)
def xr (l r:List Int):List Int:=r.foldl tog l
theorem j1x:∀ {r l:List Int},Ris l->Ris (xr l r)
 | [],_,h=>h
 | _ :: r,_,h=>j1x (r:=r) (k5r h)
theorem j5v:∀ {r l:List Int} {x:Int},r.Nodup->(x∈xr l r↔((x∈l)↔¬ x∈r))
 | [],l,x,_=>by simp [xr]
 | k :: r,l,x,h=>by
  have h':=List.nodup_cons.mp h;show x∈xr (tog l k) r↔_;rw [j5v h'.2,w3j,List.mem_cons];by_cases e:x=k
  ·subst e;simp [h'.1]
  ·simp [e]
theorem j4r {r l:List Int} {x:Int} (hr:r.Nodup) (h:x∈xr l r):x∈l\/x∈r:=by
 rw [j5v hr] at h;by_cases q:x∈r
 ·exact .inr q
 ·exact .inl (h.mpr q)
def tot (rows:List (List Int)):List Int:=rows.foldl xr []
theorem j5y:∀ {rows:List (List Int)} {l:List Int},Ris l->Ris (rows.foldl xr l)
 | [],_,h=>h
 | _ :: r,_,h=>j5y (rows:=r) (j1x h)
theorem w3i (rows:List (List Int)):Ris (tot rows):=j5y List.Pairwise.nil
theorem j1h {l U:List Int} (h:Ris l) (s:∀ x∈l,x∈U):l.length<=U.length:=SX.j28 _ _ (j0l h) s
def jn (xs ys:List Int):List Int:=srt (xs.filter (fun k=>!decide (k∈ys))++ys.filter fun k=>!decide (k∈xs))
theorem jn_mem {xs ys:List Int} {k:Int}:k∈jn xs ys↔(k∈xs/\k∉ys)\/(k∈ys/\k∉xs):=by unfold jn;rw [srt_mem,List.mem_append,List.mem_filter,List.mem_filter];simp
theorem k0s {xs ys:List Int} (hx:Ris xs) (hy:Ris ys):Ris (jn xs ys):=by refine w5q (j6o _) ((j32 _).nodup_iff.mpr (List.nodup_append.mpr ⟨List.Pairwise.filter _ (j0l hx),List.Pairwise.filter _ (j0l hy),fun a ha b hb e=>?_⟩));subst e;have h1:=(List.mem_filter.mp ha).1;have h2:=(List.mem_filter.mp hb).2;simp [h1] at h2
theorem w8l {xs ys:List Int} (hx:Ris xs) (hy:Ris ys):jn xs ys=xr xs ys:=k1w (k0s hx hy) (j1x hx) fun k=>by rw [jn_mem,j5v (j0l hy)];by_cases a:k∈xs<;>by_cases b:k∈ys<;>simp [a,b]
theorem j1d {Y γ S:Type} {b:Y->S->(Option γ->S->Prop)->Prop} {f:Y->Option γ} {s:S}:∀ {xs:List Y} {K:List γ->S->Prop},(∀ x∈xs,∀ K:Option γ->S->Prop,K (f x) s->b x s K)->K (xs.filterMap f) s->j8j b xs s K
 | [],_,_,h=>h
 | x :: xs,K,hs,h=>by
  refine hs x List.mem_cons_self _ (j1d (fun y hy=>hs y (List.mem_cons_of_mem _ hy)) ?_)
  have e:(x :: xs).filterMap f=(f x).toList++xs.filterMap f:=by rw [List.filterMap_cons];cases f x<;>rfl
  rw [e] at h;exact h
theorem j2e {Y:Type} (p:Y->Bool):∀ xs:List Y,xs.filterMap (fun x=>if p x=true then some x else none)=xs.filter p
 | []=>rfl
 | x :: xs=>by rw [List.filterMap_cons,List.filter_cons,j2e p xs];cases p x<;>rfl
theorem j1a {Y B PO τ:Type} {b:Y->B->(B->Prop)->(τ->PO->Prop)->(Addr->PO->Prop)->Prop} {Kn:B->Prop} {Kr:τ->PO->Prop} {Ke:Addr->PO->Prop} (I:List Y->B->Prop):∀ (xs:List Y) {s:B},I xs s->(∀ x r s,(∃ p,xs=p++x :: r)->I (x :: r) s->∀ K:B->Prop,(∀ s',I r s'->K s')->b x s K Kr Ke)->(∀ s,I [] s->Kn s)->wFor b xs s Kn Kr Ke
 | [],s,h,_,hd=>hd s h
 | x :: xs,s,h,hs,hd=>hs x xs s ⟨[],rfl⟩ h _ fun s' h'=>j1a I xs h' (fun y r s2 ⟨p,e⟩ hi=>hs y r s2 ⟨x :: p,by rw [e];rfl⟩ hi) hd
theorem j08 {n:Nat} (h:n<=1000):n<=sizeLine:=Nat.le_of_lt (k5y h)
structure Bd (C:Addr) (fl:Bool) where
 rk:List (Int×Int)
 bd:List (Int×List Int)
 up:Int
 ht:List (Int×Int)
 th:List (Int×Int)
def lk {β:Type} (l:List (Int×β)) (k:Int):Option β:=(l.find? fun e=>decide (e.1=k)).map (·.2)
def kin (l:List (Int×Int)):List (Key×V):=l.map fun e=>(Sum.inl e.1,V.int e.2)
def Tups (R:Rg) (H:Hp):List (Int×List Int)->List (Key×V)->Prop:=Paired fun e u=>u.1=Sum.inl e.1/\rp R H (Tp.mk e.2) u.2
def j7e (d1 d2 d3 d4:Addr) (up:Int) (fl:Bool):List (Str×V):=("ranks",.ref d1) :: ("borders",.ref d2) :: ("upcoming",.int up) :: (if fl=true then [("head_by_tail",.ref d3),("tail_by_head",.ref d4)] else [])
def adr (p dx d1 d2 d3 d4:Addr) (fl:Bool):List Addr:=p :: dx :: d1 :: d2 :: (if fl=true then [d3,d4] else [])
structure BdAt (C:Addr) (fl:Bool) (R:Rg) (H:Hp) (x:Bd C fl) (p dx d1 d2 d3 d4:Addr) (us:List (Key×V)):Prop where
 nd:(adr p dx d1 d2 d3 d4 fl).Nodup
 ob:H p=some (.ins C dx (j7e d1 d2 d3 d4 x.up fl))
 ow:H dx=some (.own p)
 rk:H d1=some (.dK (kin x.rk))
 bd:H d2=some (.dK us)
 tu:Tups R H x.bd us
 ht:fl=true->H d3=some (.dK (kin x.ht))
 th:fl=true->H d4=some (.dK (kin x.th))
theorem j6n {R R':Rg} {H H':Hp} (e:Ext R R H R' H'):∀ {l:List (Int×List Int)} {us:List (Key×V)},Tups R H l us->Tups R' H' l us
 | _,_,.nil=>.nil
 | _,_,.cons h t=>.cons ⟨h.1,Rep.st h.2 e⟩ (j6n e t)
theorem BdAt.st {C:Addr} {fl:Bool} {G R R':Rg} {H H':Hp} {x:Bd C fl} {p dx d1 d2 d3 d4:Addr} {us:List (Key×V)} (b:BdAt C fl R H x p dx d1 d2 d3 d4 us) (e:Ext G R H R' H') (s:∀ a,G a->R a) (n:∀ a,a∈adr p dx d1 d2 d3 d4 fl->¬G a):BdAt C fl R' H' x p dx d1 d2 d3 d4 us :=
 ⟨b.nd,e.keep _ _ (n _ (by simp [adr])) b.ob,e.keep _ _ (n _ (by simp [adr])) b.ow,e.keep _ _ (n _ (by simp [adr])) b.rk,e.keep _ _ (n _ (by simp [adr])) b.bd,j6n (e.wide s) b.tu,fun h=>e.keep _ _ (n _ (by simp [adr,h])) (b.ht h),fun h=>e.keep _ _ (n _ (by simp [adr,h])) (b.th h)⟩
instance (C:Addr) (fl:Bool):Ow (Bd C fl):=⟨fun F R H x v=>∃ p dx d1 d2 d3 d4 us,v=some (.ref p)/\(∀ b,F b↔b∈adr p dx d1 d2 d3 d4 fl)/\BdAt C fl R H x p dx d1 d2 d3 d4 us,
 fun h e s n=>by
  obtain ⟨p,dx,d1,d2,d3,d4,us,h1,h2,h3⟩:=h
  exact ⟨p,dx,d1,d2,d3,d4,us,h1,h2,h3.st e s fun a z=>n a ((h2 a).mpr z)⟩,
 fun h e=>by
  obtain ⟨p,dx,d1,d2,d3,d4,us,h1,h2,h3⟩:=h
  exact ⟨p,dx,d1,d2,d3,d4,us,h1,fun b=>(e b).symm.trans (h2 b),h3⟩⟩
instance (C:Addr) (fl:Bool):Hs (Bd C fl):=⟨fun ⟨_,_,_,_,_,_,_,h,_⟩=>⟨_,h⟩⟩
theorem k3b {R L:Rg} {H:Hp} (k:∀ a,L a->∃ us,H a=some (.lst us)):∀ {l:List (Int×List Int)} {us:List (Key×V)},Tups R H l us->Tups (fun a=>R a\/L a) H l us
 | _,_,.nil=>.nil
 | _,_,.cons h t=>.cons ⟨h.1,Nol.no h.2 k⟩ (k3b k t)
instance (C:Addr) (fl:Bool):Frl (Bd C fl):=⟨fun {F R L H x v} h k=>by
 obtain ⟨p,dx,d1,d2,d3,d4,us,h1,h2,b⟩:=h
 exact ⟨p,dx,d1,d2,d3,d4,us,h1,h2,b.nd,b.ob,b.ow,b.rk,b.bd,k3b k b.tu,b.ht,b.th⟩⟩
structure CTx (K:PySem.W.Frag) (C:Addr):Prop where
 cl:Cls K C
 nR:NoAttr K C "ranks"
 nB:NoAttr K C "borders"
 nU:NoAttr K C "upcoming"
theorem j5d (k:Int):∀ l:List (Int×Int),valV (kin l) (Sum.inl k)=(lk l k).map V.int
 | []=>rfl
 | e :: l=>by
  by_cases h:e.1=k
  ·show valV ((Sum.inl e.1,V.int e.2) :: kin l) _=_;rw [j3z (by rw [h])];unfold lk;rw [List.find?_cons,decide_eq_true h];rfl
  ·show valV ((Sum.inl e.1,V.int e.2) :: kin l) _=_;rw [j30 (by intro z;exact h (Sum.inl.inj z)),j5d k l];unfold lk;rw [List.find?_cons,decide_eq_false h]
theorem j59 {R:Rg} {H:Hp} {k:Int}:∀ {l:List (Int×List Int)} {us:List (Key×V)},Tups R H l us->(∀ b,lk l k=some b->∃ v,valV us (Sum.inl k)=some v/\rp R H (Tp.mk b) v)/\(lk l k=none->valV us (Sum.inl k)=none)
 | _,_,.nil=>⟨(fun b h=>by cases h),fun _=>rfl⟩
 | e :: l,u :: us,.cons h t=>by
  obtain ⟨i1,i2⟩:=j59 (k:=k) t;by_cases q:e.1=k
  ·have e1:lk (e :: l) k=some e.2:=by unfold lk;rw [List.find?_cons,decide_eq_true q];rfl
   rw [e1];refine ⟨fun b hb=>?_,(fun z=>by cases z)⟩;cases hb;exact ⟨u.2,j3z (by rw [h.1,q]),h.2⟩
  ·have e1:lk (e :: l) k=lk l k:=by unfold lk;rw [List.find?_cons,decide_eq_false q]
   rw [e1,j30 (by rw [h.1];intro z;exact q (Sum.inl.inj z))];exact ⟨i1,i2⟩
def pk {β:Type} (l:List (Int×β)) (k:Int) (v:β):List (Int×β):=if (lk l k).isSome then l.map (fun e=>if e.1=k then (e.1,v) else e) else l++[(k,v)]
def dk {β:Type} (l:List (Int×β)) (k:Int):List (Int×β):=l.filter fun e=>decide (e.1≠k)
theorem w4l (l:List (Int×Int)) (k v:Int):putK (kin l) (Sum.inl k) (V.int v)=kin (pk l k v):=by
 unfold putK pk;rw [j4u,j5d,Option.isSome_map]
 cases (lk l k).isSome with
 | true =>
  rw [if_pos rfl,if_pos rfl];unfold kin;rw [List.map_map,List.map_map];refine List.map_congr_left fun e _=>?_;show (if (Sum.inl e.1:Key)=Sum.inl k then _ else _)=(fun e:Int×Int=>((Sum.inl e.1:Key),V.int e.2)) (if e.1=k then (e.1,v) else e);by_cases h:e.1=k
  ·rw [if_pos (by rw [h]),if_pos h]
  ·rw [if_neg (fun z=>h (Sum.inl.inj z)),if_neg h]
 | false =>
  rw [if_neg Bool.false_ne_true,if_neg Bool.false_ne_true];unfold kin;rw [List.map_append];rfl
theorem w1v (l:List (Int×Int)) (k:Int):j9u (kin l) (Sum.inl k)=kin (dk l k):=by
 unfold j9u dk kin;rw [List.filter_map];congr 1;refine List.filter_congr fun e _=>?_;show decide ((Sum.inl e.1:Key)≠Sum.inl k)=decide (e.1≠k);by_cases h:e.1=k
 ·simp [h]
 ·simp [h]
theorem k3c {R:Rg} {H:Hp} {k:Int} {b:List Int} {v:V} (h:rp R H (Tp.mk b) v):∀ {l:List (Int×List Int)} {us:List (Key×V)},Tups R H l us->Tups R H (l++[(k,b)]) (us++[(Sum.inl k,v)])
 | _,_,.nil=>.cons ⟨rfl,h⟩ .nil
 | _,_,.cons q t=>.cons q (k3c h t)
theorem k90 {R:Rg} {H:Hp} {l:List (Int×List Int)} {us:List (Key×V)} {k:Int} {b:List Int} {v:V} (t:Tups R H l us) (hn:lk l k=none) (h:rp R H (Tp.mk b) v):Tups R H (pk l k b) (putK us (Sum.inl k) v):=by unfold pk;rw [hn,w0j _ ((j59 t).2 hn)];exact k3c h t
theorem j94 {R:Rg} {H:Hp} {k:Int}:∀ {l:List (Int×List Int)} {us:List (Key×V)},Tups R H l us->Tups R H (dk l k) (j9u us (Sum.inl k))
 | _,_,.nil=>.nil
 | e :: l,u :: us,.cons h t=>by
  have ih:=j94 (k:=k) t;unfold dk j9u at ih ⊢;rw [List.filter_cons,List.filter_cons];by_cases q:e.1=k
  ·rw [if_neg (by simpa using q),if_neg (by rw [h.1];simpa using q)];exact ih
  ·rw [if_pos (by simpa using q),if_pos (by rw [h.1];simpa using q)];exact .cons h ih
inductive ID where
 | rk | ht | th
abbrev ID.nm:ID->Str
 | .rk=>"ranks" | .ht=>"head_by_tail" | .th=>"tail_by_head"
abbrev ID.get {C:Addr} {fl:Bool}:ID->Bd C fl->List (Int×Int)
 | .rk,x=>x.rk | .ht,x=>x.ht | .th,x=>x.th
abbrev ID.set {C:Addr} {fl:Bool}:ID->Bd C fl->List (Int×Int)->Bd C fl
 | .rk,x,l=>{ x with rk:=l} | .ht,x,l=>{ x with ht:=l} | .th,x,l=>{ x with th:=l}
def ID.ok:ID->Bool->Prop
 | .rk,_=>True | .ht,fl=>fl=true | .th,fl=>fl=true
section
variable {C:Addr} {fl:Bool} {R:Rg} {H:Hp} {x:Bd C fl} {p dx d1 d2 d3 d4:Addr} {us:List (Key×V)}
theorem nd4 {a b c d:Addr} {r:List Addr} (h:(a :: b :: c :: d :: r).Nodup):(a≠b/\a≠c/\a≠d/\∀ x∈r,a≠x)/\(b≠c/\b≠d/\∀ x∈r,b≠x)/\(c≠d/\∀ x∈r,c≠x)/\(∀ x∈r,d≠x)/\r.Nodup:=by have h1:=List.nodup_cons.mp h;have h2:=List.nodup_cons.mp h1.2;have h3:=List.nodup_cons.mp h2.2;have h4:=List.nodup_cons.mp h3.2;simp only [List.mem_cons,not_or] at h1 h2 h3;exact ⟨⟨h1.1.1,h1.1.2.1,h1.1.2.2.1,fun x hx e=>h1.1.2.2.2 (by rw [e];exact hx)⟩,⟨h2.1.1,h2.1.2.1,fun x hx e=>h2.1.2.2 (by rw [e];exact hx)⟩,⟨h3.1.1,fun x hx e=>h3.1.2 (by rw [e];exact hx)⟩,fun x hx e=>h4.1 (by rw [e];exact hx),h4.2⟩
theorem k2n (b:BdAt C fl R H x p dx d1 d2 d3 d4 us) (q:ID) (ok:q.ok fl):∃ d,(j7e d1 d2 d3 d4 x.up fl).lookup q.nm=some (.ref d)/\H d=some (.dK (kin (q.get x)))/\d∈adr p dx d1 d2 d3 d4 fl /\
  ∀ l',R d->BdAt C fl R (upd H d (.dK (kin l'))) (q.set x l') p dx d1 d2 d3 d4 us:=by
 have nd:=nd4 b.nd;have tu:∀ d l',R d->Tups R (upd H d (.dK (kin l'))) x.bd us:=fun d l' h=>j6n ((j4i (F:=R) (R:=R) (H:=H) (a:=d) (o:=.dK (kin l'))).wide fun c z=>by rw [z];exact h) b.tu
 cases q with
 | rk =>
  refine ⟨d1,rfl,b.rk,by simp [adr],fun l' h=>⟨b.nd,by rw [j0g nd.1.2.1];exact b.ob,by rw [j0g nd.2.1.1];exact b.ow,j0h,by rw [j0g nd.2.2.1.1.symm];exact b.bd,tu _ _ h,fun z=>?_,fun z=>?_⟩⟩
  ·rw [j0g (nd.2.2.1.2 d3 (by rw [if_pos z];simp)).symm];exact b.ht z
  ·rw [j0g (nd.2.2.1.2 d4 (by rw [if_pos z];simp)).symm];exact b.th z
 | ht =>
  have z:fl=true:=ok;subst z;have n5:=List.nodup_cons.mp nd.2.2.2.2;refine ⟨d3,rfl,b.ht rfl,by simp [adr],fun l' h=>⟨b.nd,by rw [j0g (nd.1.2.2.2 d3 (by simp))];exact b.ob,by rw [j0g (nd.2.1.2.2 d3 (by simp))];exact b.ow,by rw [j0g (nd.2.2.1.2 d3 (by simp))];exact b.rk,by rw [j0g (nd.2.2.2.1 d3 (by simp))];exact b.bd,tu _ _ h,fun _=>j0h,fun _=>?_⟩⟩;rw [j0g (fun e=>n5.1 (by rw [<- e];simp))];exact b.th rfl
 | th =>
  have z:fl=true:=ok;subst z;have n5:=List.nodup_cons.mp nd.2.2.2.2;refine ⟨d4,rfl,b.th rfl,by simp [adr],fun l' h=>⟨b.nd,by rw [j0g (nd.1.2.2.2 d4 (by simp))];exact b.ob,by rw [j0g (nd.2.1.2.2 d4 (by simp))];exact b.ow,by rw [j0g (nd.2.2.1.2 d4 (by simp))];exact b.rk,by rw [j0g (nd.2.2.2.1 d4 (by simp))];exact b.bd,tu _ _ h,fun _=>?_,fun _=>j0h⟩⟩;rw [j0g (fun e=>n5.1 (by rw [e];simp))];exact b.ht rfl
end
section
variable {X:Cx} {E:XK} {T:Addr} {ms:List Nat} {n:Nat} {D PO τ:Type} [Sls D] [Sls PO] [Ow τ] {pos:Pos} {C:Addr} {fl:Bool} {x:Str} {p1 p2:Pos}
theorem j2f {i:Nat} {D0:Type} [Sls D0] [A:At i D (Bd C fl) D0] {F R:Rg} {H:Hp} {d:D} {Z:St} (s:Stt T F R H d Z):∃ p dx d1 d2 d3 d4 us,Z[i]?=some (some (.ref p))/\BdAt C fl R H (A.get d) p dx d1 d2 d3 d4 us/\(∀ a∈adr p dx d1 d2 d3 d4 fl,R a) /\
  ∀ {U:Pt i D0 (Bd C fl) D} {a:Addr} {o:HO} {x':Bd C fl} {us':List (Key×V)},a∈adr p dx d1 d2 d3 d4 fl->BdAt C fl R (upd H a o) x' p dx d1 d2 d3 d4 us'->Ch T F R H F R (upd H a o)/\Stt T F R (upd H a o) (U.put (A.hole d) x') Z:=by
 obtain ⟨v,F1,F2,h1,h2,⟨p,dx,d1,d2,d3,d4,us,rfl,h4,h5⟩,h6⟩:=A.take s.rel;have aF:∀ a∈adr p dx d1 d2 d3 d4 fl,F a:=fun a h=>(h2.all a).mpr (.inl ((h4 a).mpr h));refine ⟨p,dx,d1,d2,d3,d4,us,h1,h5,fun a h=>s.sub a (aF a h),fun {U a o x' us'} ha hb=>?_⟩;have ex:=j4i (F:=F) (R:=R) (H:=H) (a:=a) (o:=o);have gs:∀ c,c=a->R c:=fun c z=>by rw [z];exact s.sub a (aF a ha)
 have k:∀ b u,b≠a->H b=some u->upd H a o b=some u:=fun b u z e=>by rw [j0g z];exact e
 refine ⟨⟨fun b o n _ e=>k b o (fun z=>n (by rw [z];exact aF a ha)) e,fun _ h=>.inl h,fun _ h=>.inl h,fun _ h _=>h⟩,Pt.same (A:=U) (Sls.st h6 ex gs fun c z q=>h2.dis c ((h4 c).mpr (by rw [q];exact ha)) z) h1 h2 ⟨p,dx,d1,d2,d3,d4,us',rfl,h4,hb⟩,s.sub,fun c z=>?_,?_,s.tabR,s.tabF⟩
 ·by_cases e:c=a
  ·rw [e,j0h];simp
  ·rw [j0g e];exact s.liv c z
 ·obtain ⟨ps,e,t⟩:=s.tab;exact ⟨ps,k _ _ (fun z=>s.tabF (by rw [z];exact aF a ha)) e,t⟩
theorem w80 {a:Expr} (q:ID) (neg:Bool) (i:Nat) {D0:Type} [Sls D0] [A:At i D (Bd C fl) D0] {wk:Wf D Int D} (ok:q.ok fl) (cl:Cls X.K C) (nf:NoAttr X.K C q.nm) (hu:X.A.units + 1 < cLine) (hk:EW X E T a wk) (hn:PE X (.Name x p1) (tVar i)) (hb:attributeBase (.Name x p1) q.nm X.env (eval (.Name x p1) X.env)=eval (.Name x p1) X.env:=by rfl)
  (hm:behindInMarks (if neg then .NotIn else .In) (.Attribute (.Name x p1) q.nm p2)=false:=by with_unfolding_all rfl):EW X E T (.Compare a [if neg then .NotIn else .In] [.Attribute (.Name x p1) q.nm p2] pos) (fun (d:D) (Kn:Bool->D->Prop) Ke=>wk d (fun k d1=>Kn (if neg then !(lk (q.get (A.get d1)) k).isSome else (lk (q.get (A.get d1)) k).isSome) d1) Ke):=by
 obtain ⟨ta,a1,a2⟩:=hk
 have rd:∀ {d1:D} {F1 R1:Rg} {H1:Hp} {Z:St} {k:Int} {Q:VK},Stt T F1 R1 H1 d1 Z->Q (.bl (if neg then !(lk (q.get (A.get d1)) k).isSome else (lk (q.get (A.get d1)) k).isSome)) H1->tFld X.K (tVar i) q.nm Z H1 fun y H2=>∃ a o,y=.ref a/\DGet H2 a (.int k) o/\Q (.bl (if neg then !o.isSome else o.isSome)) H2:=fun {d1 F1 R1 H1 Z k Q} s1 kn=>by obtain ⟨p,dx,e1,e2,e3,e4,us,g1,g2,_,_⟩:=j2f (i:=i) s1;obtain ⟨d,l1,l2,_,_⟩:=k2n g2 q ok;refine ⟨_,g1,p,C,dx,_,_,rfl,g2.ob,cl,nf,l1,d,_,rfl,DGet.k (k:=Sum.inl k) l2,?_⟩;rw [j5d,Option.isSome_map];exact kn
 cases neg with
 | false=>exact ⟨_,w2o (k64 hu a1 (j27 hn hb)) hm,fun d F R Z H Kn Ke Q s hw kn ke=>a2 d F R Z H _ Ke _ s hw (fun k d1 u F1 R1 H1 q1 c1 s1 r1=>by
   have r1:u=V.int k:=r1;subst r1
   exact rd s1 (kn _ d1 _ F1 R1 H1 q1 c1 s1 rfl)) ke⟩
 | true=>exact ⟨_,w2o (k0k hu a1 (j27 hn hb)) hm,fun d F R Z H Kn Ke Q s hw kn ke=>a2 d F R Z H _ Ke _ s hw (fun k d1 u F1 R1 H1 q1 c1 s1 r1=>by
   have r1:u=V.int k:=r1;subst r1
   exact rd s1 (kn _ d1 _ F1 R1 H1 q1 c1 s1 rfl)) ke⟩
theorem w66 {a:Expr} (q:ID) (neg:Bool) (i:Nat) {D0:Type} [Sls D0] [A:At i D (Bd C fl) D0] {wk:Wf D Int D} (ok:q.ok fl) (cl:Cls X.K C) (nf:NoAttr X.K C q.nm) (hu:X.A.units + 1 < cLine) (hk:EW X E T a wk) (hn:PE X (.Name x p1) (tVar i)) (hb:attributeBase (.Name x p1) q.nm X.env (eval (.Name x p1) X.env)=eval (.Name x p1) X.env:=by rfl)
  (hm:behindInMarks (if neg then .NotIn else .In) (.Attribute (.Name x p1) q.nm p2)=false:=by with_unfolding_all rfl):TW X E T (.Compare a [if neg then .NotIn else .In] [.Attribute (.Name x p1) q.nm p2] pos) (fun (d:D) (Kn:Bool->D->Prop) Ke=>wk d (fun k d1=>Kn (if neg then !(lk (q.get (A.get d1)) k).isSome else (lk (q.get (A.get d1)) k).isSome) d1) Ke):=by
 obtain ⟨ta,a1,a2⟩:=hk
 have rd:∀ {d1:D} {F1 R1:Rg} {H1:Hp} {Z:St} {k:Int} {Q:VK},Stt T F1 R1 H1 d1 Z->Q (.bl (if neg then !(lk (q.get (A.get d1)) k).isSome else (lk (q.get (A.get d1)) k).isSome)) H1->tFld X.K (tVar i) q.nm Z H1 fun y H2=>∃ a o,y=.ref a/\DGet H2 a (.int k) o/\Q (.bl (if neg then !o.isSome else o.isSome)) H2:=fun {d1 F1 R1 H1 Z k Q} s1 kn=>by obtain ⟨p,dx,e1,e2,e3,e4,us,g1,g2,_,_⟩:=j2f (i:=i) s1;obtain ⟨d,l1,l2,_,_⟩:=k2n g2 q ok;refine ⟨_,g1,p,C,dx,_,_,rfl,g2.ob,cl,nf,l1,d,_,rfl,DGet.k (k:=Sum.inl k) l2,?_⟩;rw [j5d,Option.isSome_map];exact kn
 cases neg with
 | false=>exact ⟨_,k6r (k64 hu a1 (j27 hn hb)) hm,fun d F R Z H Kn Ke Q s hw kn ke=>a2 d F R Z H _ Ke _ s hw (fun k d1 u F1 R1 H1 q1 c1 s1 r1=>by
   have r1:u=V.int k:=r1;subst r1
   exact rd (Q:=fun y H=>∃ c,y=.bl c/\Q c H) s1 ⟨_,rfl,kn _ d1 F1 R1 H1 q1 c1 s1⟩) ke⟩
 | true=>exact ⟨_,k6r (k0k hu a1 (j27 hn hb)) hm,fun d F R Z H Kn Ke Q s hw kn ke=>a2 d F R Z H _ Ke _ s hw (fun k d1 u F1 R1 H1 q1 c1 s1 r1=>by
   have r1:u=V.int k:=r1;subst r1
   exact rd (Q:=fun y H=>∃ c,y=.bl c/\Q c H) s1 ⟨_,rfl,kn _ d1 F1 R1 H1 q1 c1 s1⟩) ke⟩
def EV (X:Cx) (T:Addr) (e:Expr) {D Y:Type} [Sls D] [Rep Y] (f:D->Y):Prop :=
 ∃ t,PE X e t/\∀ (d:D) (F R:Rg) (Z:St) (H:Hp) (Q:VK),Stt T F R H d Z->(∀ v,rp R H (f d) v->Q v H)->t Z H Q
theorem j48 {y:Str} {Y D':Type} [Rep Y] [Sls D'] (i:Nat) [A:At i D Y D'] (he:PE X (.Name y pos) (tVar i)):EV X T (.Name y pos) (fun (d:D)=>A.get d):=by refine ⟨_,he,fun d F R Z H Q s kn=>?_⟩;obtain ⟨v,F1,F2,h1,h2,⟨_,u,rfl,h4⟩,_⟩:=A.take s.rel;exact ⟨u,h1,kn u h4⟩
theorem k8t {a:Expr} (q:ID) (i:Nat) {D0:Type} [Sls D0] [A:At i D (Bd C fl) D0] {f:D->Int} (ok:q.ok fl) (cl:Cls X.K C) (nf:NoAttr X.K C q.nm) (hu:X.A.units + 1 < cLine) (hn:PE X (.Name x p1) (tVar i)) (hk:EV X T a f) (hb:attributeBase (.Name x p1) q.nm X.env (eval (.Name x p1) X.env)=eval (.Name x p1) X.env:=by rfl) (hs:NoSl a:=by intro _ _;rfl) :
  EW X E T (.Subscript (.Attribute (.Name x p1) q.nm p2) a pos) (fun (d:D) (Kn:Int->D->Prop) _=>∃ v,lk (q.get (A.get d)) (f d)=some v/\Kn v d):=by
 obtain ⟨ta,a1,a2⟩:=hk;refine ⟨_,k11 hu (j27 hn hb) a1 hs,fun d F R Z H Kn Ke Q s hw kn ke=>?_⟩;obtain ⟨p,dx,e1,e2,e3,e4,us,g1,g2,_,_⟩:=j2f (i:=i) s;obtain ⟨y,l1,l2,_,_⟩:=k2n g2 q ok;refine ⟨_,g1,p,C,dx,_,_,rfl,g2.ob,cl,nf,l1,a2 d F R Z H _ s fun v r=>?_⟩;have r:v=V.int (f d):=r;subst r;obtain ⟨z,h1,h2⟩:=hw;have g:=DGet.k (k:=Sum.inl (f d)) l2;rw [j5d,h1] at g;exact ⟨y,_,rfl,g,kn z d _ F R H h2 (Ch.refl _ _ _ _) s rfl⟩
theorem k2s {a:Expr} (i:Nat) {D0:Type} [Sls D0] [A:At i D (Bd C fl) D0] {f:D->Int} (cl:Cls X.K C) (nf:NoAttr X.K C "borders") (hu:X.A.units + 1 < cLine) (hn:PE X (.Name x p1) (tVar i)) (hk:EV X T a f) (hb:attributeBase (.Name x p1) "borders" X.env (eval (.Name x p1) X.env)=eval (.Name x p1) X.env:=by rfl) (hs:NoSl a:=by intro _ _;rfl) :
  EW X E T (.Subscript (.Attribute (.Name x p1) "borders" p2) a pos) (fun (d:D) (Kn:Tp Int->D->Prop) _=>∃ v,lk (A.get d).bd (f d)=some v/\Kn ⟨v⟩ d):=by
 obtain ⟨ta,a1,a2⟩:=hk;refine ⟨_,k11 hu (j27 hn hb) a1 hs,fun d F R Z H Kn Ke Q s hw kn ke=>?_⟩;obtain ⟨p,dx,e1,e2,e3,e4,us,g1,g2,_,_⟩:=j2f (i:=i) s;refine ⟨_,g1,p,C,dx,_,_,rfl,g2.ob,cl,nf,rfl,a2 d F R Z H _ s fun v r=>?_⟩;have r:v=V.int (f d):=r;subst r;obtain ⟨z,h1,h2⟩:=hw;obtain ⟨w,w1,w2⟩:=(j59 g2.tu).1 z h1;have g:=DGet.k (k:=Sum.inl (f d)) g2.bd;rw [w1] at g;exact ⟨e2,w,rfl,g,kn ⟨z⟩ d _ F R H h2 (Ch.refl _ _ _ _) s w2⟩
theorem w53 {p3:Pos} (q:ID) (i:Nat) {D0:Type} [Sls D0] [A:At i D (Bd C fl) D0] (ok:q.ok fl) (cl:Cls X.K C) (nf:NoAttr X.K C q.nm) (hg:Gl X "len") (hm:X.mg "len"=none) (hn:PE X (.Name x p1) (tVar i)) (hb:attributeBase (.Name x p1) q.nm X.env (eval (.Name x p1) X.env)=eval (.Name x p1) X.env:=by rfl)
  (hs:starEach [.Attribute (.Name x p1) q.nm p2] X.env=(false,eval (.Attribute (.Name x p1) q.nm p2) X.env) :: starEach [] X.env:=by rfl) :
  EW X E T (.Call (.Name "len" p3) [.Attribute (.Name x p1) q.nm p2] [] pos) (fun (d:D) (Kn:Int->D->Prop) _=>Kn ((q.get (A.get d)).length:Int) d):=by
 refine ⟨_,j1l k9h hg hm PySem.boot_len (j0k (j27 hn hb) j02 hs) (he:=hs),fun d F R Z H Kn Ke Q s hw kn ke=>?_⟩;obtain ⟨p,dx,e1,e2,e3,e4,us,g1,g2,_,_⟩:=j2f (i:=i) s;obtain ⟨y,l1,l2,_,_⟩:=k2n g2 q ok;refine ⟨_,g1,p,C,dx,_,_,rfl,g2.ob,cl,nf,l1,y,_,rfl,l2,kn _ d _ F R H hw (Ch.refl _ _ _ _) s ?_⟩;show V.int _=V.int _;unfold kin;rw [List.length_map]
theorem w8w (i:Nat) {D0:Type} [Sls D0] [A:At i D (Bd C fl) D0] (cl:Cls X.K C) (nf:NoAttr X.K C "upcoming") (hn:PE X (.Name x p1) (tVar i)) (hb:attributeBase (.Name x p1) "upcoming" X.env (eval (.Name x p1) X.env)=eval (.Name x p1) X.env:=by rfl) :
  EW X E T (.Attribute (.Name x p1) "upcoming" pos) (fun (d:D) (Kn:Int->D->Prop) _=>Kn (A.get d).up d):=by
 refine ⟨_,j27 hn hb,fun d F R Z H Kn Ke Q s hw kn ke=>?_⟩;obtain ⟨p,dx,e1,e2,e3,e4,us,g1,g2,_,_⟩:=j2f (i:=i) s;exact ⟨_,g1,p,C,dx,_,_,rfl,g2.ob,cl,nf,rfl,kn _ d _ F R H hw (Ch.refl _ _ _ _) s rfl⟩
theorem w4a {a e:Expr} {p3:Pos} (q:ID) (i:Nat) {D0:Type} [Sls D0] [A:At i D (Bd C fl) D0] [U:Pt i D0 (Bd C fl) D] [J:Pj D PO n] {f:D->Int} {we:Wf D Int D} (ok:q.ok fl) (cl:Cls X.K C) (nf:NoAttr X.K C q.nm) (hu:X.A.units + 1 < cLine) (hn:PE X (.Name x p1) (tVar i)) (hk:EV X T a f) (he:EW X E T e we) (hb:attributeBase (.Name x p1) q.nm X.env (eval (.Name x p1) X.env)=eval (.Name x p1) X.env:=by rfl)
  (hs:swapsWith e (some (.Subscript (.Attribute (.Name x p1) q.nm p2) a p3)) pos.line X.env=pure false:=by rfl) :
  S1 X E T ms n (.Assign [.Subscript (.Attribute (.Name x p1) q.nm p2) a p3] e pos) (fun (d:D) (Kn:D->Prop) (Kr:τ->PO->Prop) Ke=>we d (fun v d1=>(q.get (A.get d1)).length < sizeLine/\Kn (U.put (A.hole d1) (q.set (A.get d1) (pk (q.get (A.get d1)) (f d1) v)))) fun C d'=>Ke C (J.pj d')):=by
 obtain ⟨ta,a1,a2⟩:=hk;obtain ⟨te,b1,b2⟩:=he;refine ⟨_,k1y hu (j27 hn hb) a1 b1 hs,fun d F R Z H Kn Kr Ke En s hw kn kr ke=>b2 d F R Z H _ _ _ s hw (fun v d1 u F1 R1 H1 q1 c1 s1 r1=>?_) fun C y d' F' R' H' q c s'=>?_⟩
 ·obtain ⟨p,dx,e1,e2,e3,e4,us,g1,g2,g3,g4⟩:=j2f (i:=i) s1;obtain ⟨y,l1,l2,l3,l4⟩:=k2n g2 q ok;have r1:u=V.int v:=r1;subst r1;refine ⟨_,g1,p,C,dx,_,_,rfl,g2.ob,cl,nf,l1,a2 d1 F1 R1 Z H1 _ s1 fun w r=>?_⟩;have r:w=V.int (f d1):=r;subst r;obtain ⟨c2,s2⟩:=g4 (U:=U) l3 (l4 (pk (q.get (A.get d1)) (f d1) v) (g3 y l3));refine ⟨y,_,rfl,DPut.k (k:=Sum.inl (f d1)) l2 (by unfold kin;rw [List.length_map];exact q1.1),?_⟩;rw [w4l];exact kn _ F1 R1 _ Z q1.2 (Ch.trans s s1.tab c1 c2) s2 (Ag.refl _ _)
 ·obtain ⟨G,g1,g2⟩:=j1o (PO:=PO) s';exact ke C y _ G R' H' q (c.less g1) g2
theorem j8e {R:Rg} {H:Hp} {y:Bd C fl} {p dx d1 d2 d3 d4:Addr} {us us':List (Key×V)} {l:List (Int×List Int)} (b:BdAt C fl R H y p dx d1 d2 d3 d4 us) (hR:R d2) (t:Tups R H l us'):BdAt C fl R (upd H d2 (.dK us')) { y with bd:=l} p dx d1 d2 d3 d4 us':=by have nd:=nd4 b.nd;exact ⟨b.nd,by rw [j0g nd.1.2.2.1];exact b.ob,by rw [j0g nd.2.1.2.1];exact b.ow,by rw [j0g nd.2.2.1.1];exact b.rk,j0h,j6n ((j4i (F:=R) (R:=R) (H:=H) (a:=d2) (o:=.dK us')).wide fun c z=>by rw [z];exact hR) t,fun z=>by rw [j0g (nd.2.2.2.1 d3 (by rw [if_pos z];simp)).symm];exact b.ht z,fun z=>by rw [j0g (nd.2.2.2.1 d4 (by rw [if_pos z];simp)).symm];exact b.th z⟩
theorem w4d {a e:Expr} {p3:Pos} (i:Nat) {D0:Type} [Sls D0] [A:At i D (Bd C fl) D0] [U:Pt i D0 (Bd C fl) D] [J:Pj D PO n] {f:D->Int} {we:Wf D (Tp Int) D} (cl:Cls X.K C) (nf:NoAttr X.K C "borders") (hu:X.A.units + 1 < cLine) (hn:PE X (.Name x p1) (tVar i)) (hk:EV X T a f) (he:EW X E T e we) (hb:attributeBase (.Name x p1) "borders" X.env (eval (.Name x p1) X.env)=eval (.Name x p1) X.env:=by rfl)
  (hs:swapsWith e (some (.Subscript (.Attribute (.Name x p1) "borders" p2) a p3)) pos.line X.env=pure false:=by rfl) :
  S1 X E T ms n (.Assign [.Subscript (.Attribute (.Name x p1) "borders" p2) a p3] e pos) (fun (d:D) (Kn:D->Prop) (Kr:τ->PO->Prop) Ke=>we d (fun v d1=>(A.get d1).bd.length < sizeLine/\lk (A.get d1).bd (f d1)=none/\Kn (U.put (A.hole d1) { A.get d1 with bd:=pk (A.get d1).bd (f d1) v.l})) fun C d'=>Ke C (J.pj d')):=by
 obtain ⟨ta,a1,a2⟩:=hk;obtain ⟨te,b1,b2⟩:=he;refine ⟨_,k1y hu (j27 hn hb) a1 b1 hs,fun d F R Z H Kn Kr Ke En s hw kn kr ke=>b2 d F R Z H _ _ _ s hw (fun v d1 u F1 R1 H1 q1 c1 s1 r1=>?_) fun C y d' F' R' H' q c s'=>?_⟩
 ·obtain ⟨p,dx,e1,e2,e3,e4,us,g1,g2,g3,g4⟩:=j2f (i:=i) s1;have l3:e2∈adr p dx e1 e2 e3 e4 fl:=by simp [adr]
  refine ⟨_,g1,p,C,dx,_,_,rfl,g2.ob,cl,nf,rfl,a2 d1 F1 R1 Z H1 _ s1 fun w r=>?_⟩;have r:w=V.int (f d1):=r;subst r;obtain ⟨c2,s2⟩:=g4 (U:=U) l3 (j8e g2 (g3 e2 l3) (k90 (b:=v.l) g2.tu q1.2.1 r1));exact ⟨e2,_,rfl,DPut.k (k:=Sum.inl (f d1)) g2.bd (by rw [<- Paired.length g2.tu];exact q1.1),kn _ F1 R1 _ Z q1.2.2 (Ch.trans s s1.tab c1 c2) s2 (Ag.refl _ _)⟩
 ·obtain ⟨G,g1,g2⟩:=j1o (PO:=PO) s';exact ke C y _ G R' H' q (c.less g1) g2
theorem w95 {e:Expr} (i:Nat) {D0:Type} [Sls D0] [A:At i D (Bd C fl) D0] [U:Pt i D0 (Bd C fl) D] [J:Pj D PO n] {we:Wf D Int D} (cl:Cls X.K C) (nf:NoAttr X.K C "upcoming") (hn:PE X (.Name x p1) (tVar i)) (he:EW X E T e we) (hs:swapsWith e (some (.Attribute (.Name x p1) "upcoming" p2)) pos.line X.env=pure false:=by rfl) :
  S1 X E T ms n (.Assign [.Attribute (.Name x p1) "upcoming" p2] e pos) (fun (d:D) (Kn:D->Prop) (Kr:τ->PO->Prop) Ke=>we d (fun v d1=>Kn (U.put (A.hole d1) { A.get d1 with up:=v})) fun C d'=>Ke C (J.pj d')):=by
 obtain ⟨te,b1,b2⟩:=he;refine ⟨_,k3k hn b1 hs,fun d F R Z H Kn Kr Ke En s hw kn kr ke=>b2 d F R Z H _ _ _ s hw (fun v d1 u F1 R1 H1 q1 c1 s1 r1=>?_) fun C y d' F' R' H' q c s'=>?_⟩
 ·obtain ⟨p,dx,e1,e2,e3,e4,us,g1,g2,g3,g4⟩:=j2f (i:=i) s1;have r1:u=V.int v:=r1;subst r1;have l3:p∈adr p dx e1 e2 e3 e4 fl:=by simp [adr]
  have nd:=nd4 g2.nd;have eq:putF "upcoming" (V.int v) (j7e e1 e2 e3 e4 (A.get d1).up fl)=j7e e1 e2 e3 e4 v fl:=rfl;have nb:BdAt C fl R1 (upd H1 p (.ins C dx (j7e e1 e2 e3 e4 v fl))) { A.get d1 with up:=v} p dx e1 e2 e3 e4 us:=⟨g2.nd,j0h,by rw [j0g nd.1.1.symm];exact g2.ow,by rw [j0g nd.1.2.1.symm];exact g2.rk,by rw [j0g nd.1.2.2.1.symm];exact g2.bd,j6n ((j4i (F:=R1) (R:=R1) (H:=H1) (a:=p)).wide fun c z=>by rw [z];exact g3 p l3) g2.tu,fun z=>by rw [j0g (nd.1.2.2.2 e3 (by rw [if_pos z];simp)).symm];exact g2.ht z,fun z=>by rw [j0g (nd.1.2.2.2 e4 (by rw [if_pos z];simp)).symm];exact g2.th z⟩;obtain ⟨c2,s2⟩:=g4 (U:=U) l3 nb;refine ⟨_,g1,p,C,dx,_,rfl,g2.ob,cl,nf,?_,?_⟩
  ·unfold j7e;split<;>(simp only [List.length_cons,List.length_nil];decide)
  ·rw [eq];exact kn _ F1 R1 _ Z q1 (Ch.trans s s1.tab c1 c2) s2 (Ag.refl _ _)
 ·obtain ⟨G,g1,g2⟩:=j1o (PO:=PO) s';exact ke C y _ G R' H' q (c.less g1) g2
theorem w4b {a:Expr} {p3:Pos} (q:ID) (i:Nat) {D0:Type} [Sls D0] [A:At i D (Bd C fl) D0] [U:Pt i D0 (Bd C fl) D] [J:Pj D PO n] {f:D->Int} (ok:q.ok fl) (cl:Cls X.K C) (nf:NoAttr X.K C q.nm) (hn:PE X (.Name x p1) (tVar i)) (hk:EV X T a f) (hd:∀ {td ty:TE},PE X (.Attribute (.Name x p1) q.nm p2) td->PE X a ty->PS X (.Delete [.Subscript (.Attribute (.Name x p1) q.nm p2) a p3] pos) (w35 td ty)) (hb:attributeBase (.Name x p1) q.nm X.env (eval (.Name x p1) X.env)=eval (.Name x p1) X.env:=by rfl) :
  S1 X E T ms n (.Delete [.Subscript (.Attribute (.Name x p1) q.nm p2) a p3] pos) (fun (d:D) (Kn:D->Prop) (Kr:τ->PO->Prop) (Ke:Addr->PO->Prop)=>(lk (q.get (A.get d)) (f d)).isSome=true/\Kn (U.put (A.hole d) (q.set (A.get d) (dk (q.get (A.get d)) (f d))))):=by
 obtain ⟨ta,a1,a2⟩:=hk;refine ⟨_,hd (j27 hn hb) a1,fun d F R Z H Kn Kr Ke En s hw kn kr ke=>?_⟩;obtain ⟨p,dx,e1,e2,e3,e4,us,g1,g2,g3,g4⟩:=j2f (i:=i) s;obtain ⟨y,l1,l2,l3,l4⟩:=k2n g2 q ok;refine ⟨_,g1,p,C,dx,_,_,rfl,g2.ob,cl,nf,l1,a2 d F R Z H _ s fun w r=>?_⟩;have r:w=V.int (f d):=r;subst r;obtain ⟨c2,s2⟩:=g4 (U:=U) l3 (l4 (dk (q.get (A.get d)) (f d)) (g3 y l3));refine ⟨y,_,Sum.inl (f d),rfl,l2,rfl,by rw [j5d,Option.isSome_map];exact hw.1,?_⟩;rw [w1v];exact kn _ F R _ Z hw.2 c2 s2 (Ag.refl _ _)
theorem w4e {a:Expr} {p3:Pos} (i:Nat) {D0:Type} [Sls D0] [A:At i D (Bd C fl) D0] [U:Pt i D0 (Bd C fl) D] [J:Pj D PO n] {f:D->Int} (cl:Cls X.K C) (nf:NoAttr X.K C "borders") (hn:PE X (.Name x p1) (tVar i)) (hk:EV X T a f) (hd:∀ {td ty:TE},PE X (.Attribute (.Name x p1) "borders" p2) td->PE X a ty->PS X (.Delete [.Subscript (.Attribute (.Name x p1) "borders" p2) a p3] pos) (w35 td ty)) (hb:attributeBase (.Name x p1) "borders" X.env (eval (.Name x p1) X.env)=eval (.Name x p1) X.env:=by rfl) :
  S1 X E T ms n (.Delete [.Subscript (.Attribute (.Name x p1) "borders" p2) a p3] pos) (fun (d:D) (Kn:D->Prop) (Kr:τ->PO->Prop) (Ke:Addr->PO->Prop)=>(lk (A.get d).bd (f d)).isSome=true/\Kn (U.put (A.hole d) { A.get d with bd:=dk (A.get d).bd (f d)})):=by
 obtain ⟨ta,a1,a2⟩:=hk;refine ⟨_,hd (j27 hn hb) a1,fun d F R Z H Kn Kr Ke En s hw kn kr ke=>?_⟩;obtain ⟨p,dx,e1,e2,e3,e4,us,g1,g2,g3,g4⟩:=j2f (i:=i) s;have l3:e2∈adr p dx e1 e2 e3 e4 fl:=by simp [adr]
 refine ⟨_,g1,p,C,dx,_,_,rfl,g2.ob,cl,nf,rfl,a2 d F R Z H _ s fun w r=>?_⟩;have r:w=V.int (f d):=r;subst r;obtain ⟨c2,s2⟩:=g4 (U:=U) l3 (j8e g2 (g3 e2 l3) (j94 (k:=f d) g2.tu));refine ⟨e2,us,Sum.inl (f d),rfl,g2.bd,rfl,?_,kn _ F R _ Z hw.2 c2 s2 (Ag.refl _ _)⟩
 cases z:lk (A.get d).bd (f d) with
 | none =>
  have h1:=hw.1;rw [z] at h1;cases h1
 | some b =>
  obtain ⟨v,v1,_⟩:=(j59 g2.tu).1 b z;rw [v1];rfl
end
section
variable {X:Cx} {E:XK} {T:Addr} {ms:List Nat} {n:Nat} {D PO τ:Type} [Sls D] [Sls PO] [Ow τ] {pos:Pos} {C:Addr} {fl:Bool} {x:Str} {p1 p2:Pos} {Y:Type} [Rep Y]
theorem w1q {m:Str} {apos:Pos} {e:Expr} {es:List Expr} (i:Nat) {D1 P QO B B1 Lc:Type} [Sls D1] [Sls P] [Sls QO] [Sls B] [Sls B1] [Sls Lc] [Lb Lc τ (Bd C fl×QO)] {mrg:B->Lc->QO->D} {wr:D->(P->B->Lc->Prop)->(Addr->D->Prop)->Prop}
  {wf:Wf (Bd C fl×P) τ (Bd C fl×QO)} [A0:At i D (Bd C fl) D1] [A:At i B (Bd C fl) B1] [U:Pt i B1 (Bd C fl) B] {k:Nat} {f:Addr} {fd:FuncData} {ps:List Str}
  (F:FnOk X.prog X.w X.K X.mg X.base (CX1 X.prog X.w) k f fd ps (spW T wf)) (hr:Room k X.A) (cl:Cls X.K C) (hm:Meth X.K C m f) (hb:Binds X.K fd ps []) (hx:j2u (CX1 X.prog X.w) X E) (hn:PE X (.Name x p1) (tVar i))
  (hl:∀ a b c d u,(j7e a b c d u fl).lookup m=none)
  (hp:∀ {t:TA},PA X (e :: es) t->PE X (.Call (.Attribute (.Name x p1) m apos) (e :: es) [] pos) (k91 C m (spW T wf) [] E (tVar i) t)) (ha:AL2 X E T (e :: es) mrg wr) :
  EO X E T (.Call (.Attribute (.Name x p1) m apos) (e :: es) [] pos) (fun (d:D) (Kn:τ->D->Prop) Ke=>wr d (fun p b l=>wf (A.get b,p) (fun y p'=>Kn y (mrg (U.put (A.hole b) p'.1) l p'.2)) (fun C p'=>Ke C (mrg (U.put (A.hole b) p'.1) l p'.2))) Ke):=by
 obtain ⟨tr,b1,b2⟩:=ha;refine ⟨_,hp b1,fun d F R Z H Kn Ke Q s hw kn ke=>?_⟩;obtain ⟨v,_,_,hv,_,⟨a,dx,d1,d2,d3,d4,us0,rfl,_,g⟩,_⟩:=A0.take s.rel;refine ⟨_,hv,a,dx,_,rfl,g.ob,hl _ _ _ _ _,b2 d F R Z H _ Ke _ s hw (fun p b l vs us G1 G2 L F' R' H' q2 c2 s2 t2 h1 h2 h3 km=>?_) ke⟩;rw [List.append_nil];obtain ⟨v',M1,M2,z1,z2,z3,z4⟩:=A.take h2;rw [hv] at z1;cases z1;have m1:∀ a,M1 a->G2 a:=fun a m=>(z2.all a).mpr (.inl m);have m2:∀ a,M2 a->G2 a:=fun a m=>(z2.all a).mpr (.inr m);refine j9y (F:=F') (F1:=fun a=>M1 a\/G1 a) (F2:=M2) (L:=L) (mrg:=fun (b:B1) (l:Lc) (p:Bd C fl×QO)=>mrg (U.put b p.1) l p.2) (wf:=wf) (p:=(A.get b,p)) (b:=A.hole b) (l:=l) (us:=us) (Z:=Z) (Kn:=Kn) (Ke:=Ke) s2 ⟨fun a=>?_,fun a m n=>?_,fun a m n=>?_,fun a m n=>t2.d23 a (m2 a m) n⟩ ⟨some (.ref a),vs.map some,M1,G1,rfl,⟨fun _=>Iff.rfl,fun a m n=>t2.d12 a n (m1 a m)⟩,Ow.wk z3 (j46 R' L H'),h1⟩ z4 h3 (fun b' l' L1 L2 L3 F'' R'' H'' p' h3 h4 h5 t=>?_) q2 (fun x d' v M1 M2 R'' H'' q' c' s'' n=>kn x d' v M1 M2 R'' H'' q' (Ch.trans s s2.tab c2 c') s'' n) fun C y d' F'' R'' H'' q' c' s''=>ke C y d' F'' R'' H'' q' (Ch.trans s s2.tab c2 c') s''
 ·rw [t2.all,z2.all];exact ⟨fun z=>z.elim (fun q=>.inl (.inr q)) fun z=>z.elim (fun z=>z.elim (fun q=>.inl (.inl q)) fun q=>.inr (.inl q)) fun q=>.inr (.inr q),fun z=>z.elim (fun z=>z.elim (fun q=>.inr (.inl (.inl q))) .inl) fun z=>z.elim (fun q=>.inr (.inl (.inr q))) fun q=>.inr (.inr q)⟩
 ·rcases m with m | m
  ·exact z2.dis a m n
  ·exact t2.d12 a m (m2 a n)
 ·rcases m with m | m
  ·exact t2.d23 a (m1 a m) n
  ·exact t2.d13 a m n
 ·obtain ⟨v',Z',N1,N2,y1,y2,y3,y4⟩:=h3;injection y1 with y5 y6;subst y5;subst y6;have tt:Two (fun a=>N1 a\/L2 a) N1 L2:=⟨fun _=>Iff.rfl,fun a m n=>t.d12 a ((y2.all a).mpr (.inl m)) n⟩;refine km _ l' N2 (fun a=>N1 a\/L2 a) L3 F'' R'' H'' p'.2 y4 (Pt.same (A:=U) h4 hv tt y3) h5 ⟨fun a=>?_,fun a m n=>?_,fun a m n=>t.d13 a ((y2.all a).mpr (.inr m)) n,fun a m n=>?_⟩
  ·rw [t.all,y2.all];exact ⟨fun z=>z.elim (fun z=>z.elim (fun q=>.inr (.inl (.inl q))) .inl) fun z=>z.elim (fun q=>.inr (.inl (.inr q))) fun q=>.inr (.inr q),fun z=>z.elim (fun q=>.inl (.inr q)) fun z=>z.elim (fun z=>z.elim (fun q=>.inl (.inl q)) fun q=>.inr (.inl q)) fun q=>.inr (.inr q)⟩
  ·rcases n with n | n
   ·exact y2.dis a n m
   ·exact t.d12 a ((y2.all a).mpr (.inr m)) n
  ·rcases m with m | m
   ·exact t.d13 a ((y2.all a).mpr (.inl m)) n
   ·exact t.d23 a m n
theorem w1r {m:Str} {apos:Pos} (i:Nat) {D1:Type} [Sls D1]
  {wf:Wf (Bd C fl×Unit) τ (Bd C fl×Unit)} [A:At i D (Bd C fl) D1] [U:Pt i D1 (Bd C fl) D] {k:Nat} {f:Addr} {fd:FuncData} {ps:List Str}
  (F:FnOk X.prog X.w X.K X.mg X.base (CX1 X.prog X.w) k f fd ps (spW T wf)) (hr:Room k X.A) (cl:Cls X.K C) (hm:Meth X.K C m f) (hb:Binds X.K fd ps []) (hx:j2u (CX1 X.prog X.w) X E) (hn:PE X (.Name x p1) (tVar i))
  (hl:∀ a b c d u,(j7e a b c d u fl).lookup m=none)
  (hp:PE X (.Call (.Attribute (.Name x p1) m apos) [] [] pos) (k91 C m (spW T wf) [] E (tVar i) tNil)) :
  EO X E T (.Call (.Attribute (.Name x p1) m apos) [] [] pos) (fun (d:D) (Kn:τ->D->Prop) Ke=>wf (A.get d,()) (fun y p'=>Kn y (U.put (A.hole d) p'.1)) (fun C p'=>Ke C (U.put (A.hole d) p'.1))):=by
 refine ⟨_,hp,fun d F R Z H Kn Ke Q s hw kn ke=>?_⟩;obtain ⟨v,M1,M2,hv,z2,z3,z4⟩:=A.take s.rel;obtain ⟨a,dx,d1,d2,d3,d4,us0,rfl,_,g⟩:=id z3;refine ⟨_,hv,a,dx,_,rfl,g.ob,hl _ _ _ _ _,?_⟩;refine w1z (F:=F) (F1:=M1) (F2:=M2) (mrg:=fun (b:D1) (p:Bd C fl×Unit)=>U.put b p.1) (wf:=wf) (p:=(A.get d,())) (b:=A.hole d) (Z:=Z) (Kn:=Kn) (Ke:=Ke) s.std z2 ⟨some (.ref a),[],M1,fun _=>False,rfl,⟨fun _=>⟨.inl,fun z=>z.elim id fun q=>q.elim⟩,fun _ _ z=>z⟩,z3,rfl,fun _ z=>z⟩ z4 (fun b' G1 G2 F'' R'' H'' p' h1 h2 t=>?_) hw kn ke;obtain ⟨v',Z',N1,N2,y1,y2,y3,y4⟩:=h1;injection y1 with y5 y6;subst y5;refine Pt.same (A:=U) h2 hv ⟨fun a=>?_,fun a m n=>t.dis a ((y2.all a).mpr (.inl m)) n⟩ y3;rw [t.all,y2.all];exact ⟨fun z=>z.elim (fun z=>z.elim .inl fun q=>absurd q (y4.2 a)) .inr,fun z=>z.elim (fun q=>.inl (.inl q)) .inr⟩
theorem k3a {a:Expr} {wa:Wf D (OL Y) D} (ha:EO X E T a wa) (he:∀ whole,isTrue a X.env whole=(do let v <- whole;standAt a.pos;holding [v] (truthy v)):=by intro _;rfl):TW X E T a (fun (d:D) Kn Ke=>wa d (fun xs d1=>Kn (!xs.l.isEmpty) d1) Ke):=by
 obtain ⟨ta,a1,a2⟩:=ha;refine ⟨_,k3j a1 he,fun d F R Z H Kn Ke Q s hw kn ke=>a2 d F R Z H _ Ke _ s hw (fun xs d1 u F1 F2 R1 H1 q1 c1 s1 n1=>?_) ke⟩;obtain ⟨b,vs,e,_,h3,h4⟩:=n1.is;cases e;refine ⟨!vs.isEmpty,.inl ⟨vs,SqL.of h3,rfl⟩,?_⟩;obtain ⟨l⟩:=xs
 have:vs.isEmpty=l.isEmpty:=by have h4:Paired (rp R1 H1) l vs:=h4;cases h4<;>rfl
 rw [this];exact kn _ d1 F2 R1 H1 q1 (c1.less fun _ z=>.inr z) s1
theorem w1u {a:Expr} {p:Pos} {wa:Wf D (Tp Y) D} (hg:Gl X "list") (hm:X.mg "list"=none) (ha:EW X E T a wa) (hs:starEach [a] X.env=(false,eval a X.env) :: starEach [] X.env:=by rfl) :
  EO X E T (.Call (.Name "list" p) [a] [] pos) (fun (d:D) (Kn:OL Y->D->Prop) Ke=>wa d (fun t d1=>Kn ⟨t.l⟩ d1) Ke):=by
 obtain ⟨ta,a1,a2⟩:=ha;refine ⟨_,j15 j3x hg hm PyProof.Rows.boot_list (j0k a1 j02 hs) (he:=hs),fun d F R Z H Kn Ke Q s hw kn ke=>a2 d F R Z H _ Ke _ s hw (fun t d1 u F1 R1 H1 q1 c1 s1 r1=>?_) ke⟩;obtain ⟨q,us,rfl,_,h1,h2⟩:=r1;refine ⟨_,_,rfl,.inr (SqT.of h1),fun l hl=>?_⟩;obtain ⟨R',c3,s3,n3⟩:=j3i s1 hl h2;exact kn _ d1 _ _ F1 R' _ q1 (Ch.trans s s1.tab c1 c3) s3 n3
theorem w52 {a:Expr} {p:Pos} {wa:Wf D (D->List Y) D} (hg:Gl X "tuple") (hm:X.mg "tuple"=none) (ha:ER X E T a wa) (hs:starEach [a] X.env=(false,eval a X.env) :: starEach [] X.env:=by rfl) :
  EW X E T (.Call (.Name "tuple" p) [a] [] pos) (fun (d:D) (Kn:Tp Y->D->Prop) Ke=>wa d (fun g d1=>Kn ⟨g d1⟩ d1) Ke):=by
 obtain ⟨ta,a1,a2⟩:=ha;refine ⟨_,j15 j9w hg hm PyProof.Rows.boot_tuple (j0k a1 j02 hs) (he:=hs),fun d F R Z H Kn Ke Q s hw kn ke=>a2 d F R Z H _ Ke _ s hw (fun g d1 u F1 R1 H1 q1 c1 s1 r1=>?_) ke⟩;obtain ⟨q,us,rfl,h1,h2⟩:=r1 d1 F1 R1 H1 (Ch.refl _ _ _ _) s1;refine ⟨_,_,rfl,.inl ⟨SqL.of h1,fun l hl=>?_⟩⟩;obtain ⟨s3,c3,n3⟩:=s1.new (.tup us) hl;exact kn _ d1 _ F1 R1 _ q1 (Ch.trans s s1.tab c1 c3) s3 ⟨l,us,rfl,n3,j0h,s1.vals c3 h2⟩
theorem k8f {R:Rg} {H:Hp}:∀ {xs:List Int} {vs:List V},Paired (rp R H) xs vs->vs=xs.map V.int
 | _,_,.nil=>rfl
 | _,_,.cons h t=>by have h:_=V.int _:=h;rw [h,k8f t];rfl
theorem w64 {a b:Expr} {wa:Wf D Int D} {wb:Wf D (Tp Int) D} (ha:EW X E T a wa) (hb:EW X E T b wb) (hm:behindInMarks .In b=false) :
  TW X E T (.Compare a [.In] [b] pos) (fun (d:D) Kn Ke=>wa d (fun k d1=>wb d1 (fun t d2=>Kn (decide (k∈t.l)) d2) Ke) Ke):=by
 obtain ⟨ta,a1,a2⟩:=ha;obtain ⟨tb,b1,b2⟩:=hb;refine ⟨_,j23 k0m a1 b1 hm,fun d F R Z H Kn Ke Q s hw kn ke=>a2 d F R Z H _ Ke _ s hw (fun k d1 u F1 R1 H1 q1 c1 s1 r1=>?_) ke⟩;refine b2 d1 F1 R1 Z H1 _ Ke _ s1 q1 (fun t d2 v F2 R2 H2 q2 c2 s2 r2=>?_) fun C y d' F' R' H' k c s'=>ke C y d' F' R' H' k (Ch.trans s s1.tab c1 c) s';have r1:u=V.int k:=r1;subst r1;obtain ⟨l⟩:=t;obtain ⟨q,us,rfl,_,h1,h2⟩:=r2;have e:=k8f (xs:=l) h2;subst e;refine ⟨q,_,rfl,.inr (SqT.of h1),rfl,j7f _,_,rfl,?_⟩;rw [if_neg Bool.false_ne_true,j9m];exact kn _ d2 F2 R2 H2 q2 (Ch.trans s s1.tab c1 c2) s2
theorem w0a {c:Expr} {body:List Stmt} {mb:List Nat} {D2:Type} [Sls D2] {wc:Wf D Bool D} {wb:D->(D2->Prop)->(τ->PO->Prop)->(Addr->PO->Prop)->Prop} [Gf:Fg D2 D] [J:Pj D PO n] (dp:Dep PO ms n) (hp:PassesOwn (model X.prog X.w) X.A X.env X.xe)
  (hc:TW X E T c wc) (hb:SW X E T mb n body wb) (h1:∀ i∈ms,i∈mb) :
  S1 X E T ms n (.While c body [] pos) (fun (d:D) (Kn:D->Prop) (Kr:τ->PO->Prop) Ke=>∃ W:Nat->D->Prop,(∃ m,W m d)/\∀ m d,W m d->wc d (fun b d1=>if b=true then wb d1 (fun d2=>∃ m',m' < m/\W m' (Gf.fg d2)) Kr Ke else Kn d1) fun C d'=>Ke C (J.pj d')):=by
 obtain ⟨tc,c1,c2⟩:=hc;obtain ⟨tb,b1,b2⟩:=hb;refine ⟨_,w0k hp c1 b1,fun d F R Z H Kn Kr Ke En s hw kn kr ke=>?_⟩;obtain ⟨W,⟨m0,w0⟩,turn⟩:=hw;refine ⟨fun m Z1 H1=>∃ d1 G R1,Ch T F R H G R1 H1/\Stt T G R1 H1 d1 Z1/\Ag mb Z Z1/\W m d1,⟨m0,d,F,R,Ch.refl _ _ _ _,s,Ag.refl _ _,w0⟩,?_⟩;rintro m Z1 H1 ⟨d1,G,R1,k1,s1,g1,w1⟩;refine c2 d1 G R1 Z1 H1 _ _ _ s1 (turn m d1 w1) (fun b d2 G2 R2 H2 q2 k2 s2=>?_) fun C y d' F' R' H' q c s'=>?_
 ·have k12:=Ch.trans s s1.tab k1 k2
  cases b with
  | false=>exact kn d2 G2 R2 H2 Z1 q2 k12 s2 (g1.sub h1)
  | true =>
   refine ⟨fun Z' H'=>∃ m',m' < m/\∃ d1 G R1,Ch T F R H G R1 H'/\Stt T G R1 H' d1 Z'/\Ag mb Z Z'/\W m' d1,fun Z' H' h=>h,?_⟩;refine b2 d2 G2 R2 Z1 H2 _ Kr Ke _ s2 q2 (fun d3 G3 R3 H3 Z3 q3 k3 s3 g3=>?_) (fun x p' v M1 M2 R4 H4 q4 c4 S4 n4=>?_) fun C y p' F4 R4 H4 q4 c4 S4=>?_
   ·obtain ⟨m',hm,w3⟩:=q3;obtain ⟨G5,f5,r5⟩:=Gf.le s3.rel;exact ⟨m',hm,_,G5,R3,(Ch.trans s s2.tab k12 k3).less f5,⟨r5,fun a h=>s3.sub a (f5 a h),s3.liv,s3.tab,s3.tabR,fun h=>s3.tabF (f5 T h)⟩,g1.trans g3,w3⟩
   ·exact kr x p' v M1 M2 R4 H4 q4 (Ch.trans s s2.tab k12 c4) ⟨dp.dp (g1.sub h1) S4.rel,S4.sub,S4.liv,S4.tab,S4.tabR,S4.tabF⟩ n4
   ·exact ke C y p' F4 R4 H4 q4 (Ch.trans s s2.tab k12 c4) ⟨dp.dp (g1.sub h1) S4.rel,S4.sub,S4.liv,S4.tab,S4.tabR,S4.tabF⟩
 ·obtain ⟨G',g1',g2'⟩:=j1o (PO:=PO) s';exact ke C y _ G' R' H' q ((Ch.trans s s1.tab k1 c).less g1') ⟨dp.dp (g1.sub h1) g2'.rel,g2'.sub,g2'.liv,g2'.tab,g2'.tabR,g2'.tabF⟩
end
end WL
namespace WL
open PySem L2 PyProof.Rows
open Rep (rp)
open Ow (sl)
open Sls (rel)
def Ite (K:PySem.W.Frag) (a:Addr):It :=
 ⟨fun i H=>∃ xs x,SqL K H a xs/\xs[i]?=some x,fun i H v H'=>∃ p x,v=.ref p/\H p=none/\H'=upd H p (.tup [.int i,x])/\∀ xs,SqL K H a xs->xs[i]?=some x,fun i H=>∃ xs,SqL K H a xs/\xs.length<=i⟩
section
variable {X:Cx} {pins:List (Addr×PySem.Obj)} {Z:L2.St} {H:Hp} {s:Shared} {h':Heap}
theorem w3h {e it a:Addr} {t':Nat} {xs:List V} {us:List Value} {nh:Nat} (I:Inv X pins Z H s) (fe:FpOk X pins H e) (fi:FpOk X pins H it) (ha:s.heap.objs.size<=a) (k:∀ b o,b≠e->b≠it->s.heap.get? b=some o->h'.get? b=some o) (hx:xs.length<=sizeLine) (r:Vals xs us) (ht:IsTup h' a us.toArray) :
  Inv X pins Z (upd H a (.tup xs)) { s with heap:=h',toks:=t'}:=by
 have hn:=I.hok.fresh ha;have nit:∀ b u,H b=some u->b≠e/\b≠it:=fun b u q=>⟨fun z=>(by rw [z,fe.1] at q;cases q),fun z=>(by rw [z,fi.1] at q;cases q)⟩;have kn:∀ b o,b∉[e,it]->s.heap.get? b=some o->h'.get? b=some o:=fun b o hb q=>k b o (fun z=>hb (by simp [z])) (fun z=>hb (by simp [z])) q;have up:∀ {b u},H b=some u->upd H a (.tup xs) b=some u:=fun {b u} q=>by rw [j0g (j0m q hn)];exact q
 refine I.step (g':=s.gens) (d':=s.drawn) (ch:=[e,it]) (fun b hb=>?_) (fun b o _ _ hc q _=>kn b o hc q) (fun b o _ _ hc q _=>⟨o.slots,kn b o hc q⟩) (fun b o hc q n=>?_)
  (fun b o hc q=>⟨o,kn b o hc q⟩) (fun _ _ q=>up q) (fun _ _ _ q=>up q) (fun b ps q=>⟨#[],by rw [up q];simp⟩) (fun m hm=>?_) (fun b u q=>?_) I.bare
 ·rcases List.mem_cons.mp hb with z | z
  ·subst z;exact ⟨fe.2.2.2.1,fe.2.1,fe.2.2.2.2.1,fe.2.2.2.2.2⟩
  ·have z:b=it:=by simpa using z
   subst z;exact ⟨fi.2.2.2.1,fi.2.1,fi.2.2.2.2.1,fi.2.2.2.2.2⟩
 ·rw [j0g (fun z=>absurd (Heap.lt_size q) (by rw [z];exact Nat.not_lt.mpr ha))];exact n
 ·obtain ⟨o,es,ep,ho,r⟩:=hm;exact ⟨o,es,ep,k _ o (Ne.symm fe.2.1) (Ne.symm fi.2.1) ho,r⟩
 ·by_cases hb:b=a
  ·subst hb;rw [j0h] at q;cases q;exact ⟨hx,us,r,ht⟩
  ·rw [j0g hb] at q;refine (I.hok b u q).stay (fun c v hc w=>?_) (fun c w=>up w) fun c ys w=>up w;rcases hc with z | z
   ·rw [z] at w ⊢;exact k b v (nit b u q).1 (nit b u q).2 w
   ·exact k c v (nit c _ z).1 (nit c _ z).2 w
end
theorem k5p {P:Program} {w:World} {K:PySem.W.Frag} {els:List Expr} {x1} {tp:Pos} (a e it:Addr) (hne:e≠it):Turn P w K (.Tuple els x1 tp) (Ite K a) [e,it] e (fun i h=>(∃ old,IsEnum h e it i old)/\h.IsListIter it a i) where
 mem:=by simp
 obj:=fun i h st b hb=>by
  obtain ⟨⟨old,h1⟩,⟨o,h2,c,d⟩⟩:=st;rcases List.mem_cons.mp hb with z | z
  ·subst z
   exact ⟨_,h1,fun v z=>by
    have z':Data.fields _=Data.cell v:=z
    cases z'⟩
  ·have z:b=it:=by simpa using z
   subst z;exact ⟨o,h2,fun v z=>by rw [d] at z;cases z⟩
 keep:=fun i h h' st k=>⟨let ⟨old,h1⟩:=st.1;⟨old,k e (by simp) _ h1⟩,st.2.at fun o q=>k it (by simp) o q⟩
 item:=by
  intro X hP hw hK hc i pins s Z H E I hf st hg;subst hP hw hK;obtain ⟨xs,x,hq,hx⟩:=hg;obtain ⟨its,rv,p,hz⟩:=I.list hq;obtain ⟨u,hu,ru⟩:=rv.get hx;obtain ⟨⟨old,h1⟩,h2⟩:=st;have fe:=hf e (by simp);have fi:=hf it (by simp);refine wpAny_pyNext_enum_item h1 h2 p.isList (x:=u) (by simpa using hu) hne fun h' a1 a2 a3 a4 a5=>⟨_,rfl,wpAny_letOwnedTupleGo_enum a1 fun h2' b1 b2=>?_⟩;have hel:e < s.heap.objs.size:=Heap.lt_size h1;have t2:h2'.get? s.heap.objs.size=some { cls:=.type "tuple",data:=.seq #[.int i s.toks,u]}:=b2.extBut _ _ (Nat.ne_of_gt hel) a3;refine ⟨.ref s.heap.objs.size,upd H s.heap.objs.size (.tup [.int i,x]),w3h (s:=s) (h':=h2') (t':=s.toks + 1) (xs:=[.int i,x]) (us:=[.int i s.toks,u]) (nh:=0) I fe fi (Nat.le_refl _) (fun b o n1 n2 q=>b2.extBut b o n1 (a5 b o n1 n2 q)) (by show 2<=sizeLine;decide) (.cons ⟨_,rfl⟩ (.cons ru .nil)) ⟨_,t2,rfl,_,rfl⟩,rfl,⟨_,x,rfl,I.hok.fresh (Nat.le_refl _),rfl,fun ys hy=>by rw [I.list_inj hy hq];exact hx⟩,⟨⟨_,b1⟩,a2.extBut b2.extBut (Ne.symm hne)⟩,fun b hb=>?_⟩;rw [j0g]
  ·exact (hf b hb).1
  ·obtain ⟨o,ho,_⟩:=h2;rcases List.mem_cons.mp hb with z | z
   ·rw [z];exact Nat.ne_of_lt hel
   ·have z:b=it:=by simpa using z
    rw [z];exact Nat.ne_of_lt (Heap.lt_size ho)
 done:=by intro X hP hw hK hc i pins s Z H E I hf st hg;subst hP hw hK;obtain ⟨xs,hq,hx⟩:=hg;obtain ⟨its,rv,p,hz⟩:=I.list hq;obtain ⟨⟨old,h1⟩,h2⟩:=st;obtain ⟨f0,f1,f2,f3,f4,f5⟩:=hf it (by simp);have hl:=rv.length;exact wpAny_pyNext_enum_end (I.ok.hd hc) h1 h2 p.isList (by simp;omega) fun h' eb=>⟨rfl,I.turned (t':=s.toks) (fun b o hb e=>eb b o hb e) f0 f1 f3 f4 f5⟩
 self:=fun _ _ _ _ _ st h=>wpAny_pyIter_enum st.1.choose_spec h
section
variable {X:Cx} {E:XK} {T:Addr} {is:List Nat} {D:Type} [Sls D] {pos:Pos} {Y:Type} [Rep Y]
def iEnum (K:PySem.W.Frag) (ta:TA):TI:=fun Z H R=>ta Z H fun vs H1=>∃ a,vs=[.ref a]/\(∃ xs,SqL K H1 a xs)/\R (Ite K a) H1
theorem w4v {a:Expr} {ta:TA} {p pos:Pos} {els:List Expr} {x1} {tp:Pos} (hg:Gl X "enumerate") (hm:X.mg "enumerate"=none) (ha:PA X [a] ta) (hs:starEach [a] X.env=[(false,eval a X.env)]:=by rfl):PI X (.Tuple els x1 tp) (.Call (.Name "enumerate" p) [a] [] pos) (iEnum X.K ta):=by
 intro pins s Z H R I h;refine PyProof.Rows.Call_ (j42 I hg hm PyProof.Rows.boot_enumerate (PyProof.Rows.callWith_type1 (thn (ha pos pins s Z H _ I h) fun us s1 ⟨vs,H1,I1,r1,q1⟩=>?_) hs rfl));obtain ⟨a,e,⟨xs,hq⟩,q⟩:=q1;subst e
 cases r1 with
 | cons r rr =>
  cases rr;cases r;obtain ⟨its,rv,p,hz⟩:=I1.list hq;refine call_enumerate_list p.isList fun h' b1 b2 b3 b4=>?_;refine wpAny_pyIter_enum b1 ?_;refine ⟨s1.heap.objs.size + 1,[s1.heap.objs.size + 1,s1.heap.objs.size],_,_,H1,rfl,I1.kept (t':=s1.toks) b4,k5p a _ _ (Nat.ne_of_gt (Nat.lt_succ_self _)),⟨⟨_,b1⟩,b2⟩,fun b hb=>?_,q⟩
  have e:s1.heap.objs.size<=b:=by
   rcases List.mem_cons.mp hb with z | z
   ·rw [z];exact Nat.le_succ _
   ·have z:b=s1.heap.objs.size:=by simpa using z
    rw [z];exact Nat.le_refl _
  exact I1.fpOk e (I1.hok.fresh e)
def enm:Nat->List Y->List (Int×Y)
 | _,[]=>[]
 | k,x :: r=>((k:Int),x) :: enm (k + 1) r
theorem j9t:∀ (k:Nat) (xs:List Y),(enm k xs).length=xs.length
 | _,[]=>rfl
 | k,x :: r=>by show (enm (k + 1) r).length + 1=r.length + 1;rw [j9t (k + 1) r]
theorem k80:∀ (k:Nat) (xs:List Y) (i:Nat),(enm k xs)[i]?=(xs[i]?).map fun x=>(((k + i:Nat):Int),x)
 | _,[],_=>by simp [enm]
 | k,x :: r,0=>by simp [enm]
 | k,x :: r,i + 1=>by
  show (((k:Int),x) :: enm (k + 1) r)[i + 1]?=_;rw [List.getElem?_cons_succ,List.getElem?_cons_succ,k80 (k + 1) r i];congr 1
  funext y
  rw [show k + 1 + i=k + (i + 1) by omega]
theorem itp_enum {K:PySem.W.Frag} {a:Addr} {xs:List Y} {vs:List V}:ItP (Ite K a) (enm 0 xs) (fun R H=>H a=some (.lst vs)/\Paired (rp R H) xs vs) where
 go:=fun {R H i} p h=>by rw [j9t] at h;obtain ⟨v,e,_⟩:=j1p (i:=i) (x:=xs[i]) p.2 (by simp [h]);exact ⟨vs,v,SqL.of p.1,e⟩
 yld:=fun {R H i v H'} p liv hi y=>by rw [j9t] at hi;obtain ⟨q,w,e,hq,e',y⟩:=y;subst e e';have y':=y vs (SqL.of p.1);obtain ⟨u,e,r⟩:=j1p (i:=i) (x:=xs[i]) p.2 (by simp [hi]);rw [y'] at e;cases e;have ex:Ext R R H R (upd H q (.tup [.int i,w])):=⟨fun b o _ z=>by rw [j0g (j0m z hq)];exact z,fun _ z=>.inl z⟩;refine ⟨.inr ⟨q,_,hq,rfl⟩,((i:Int),xs[i]),?_,q,.int i,w,rfl,fun z=>liv q z hq,j0h,rfl,Rep.st r ex⟩;rw [k80,List.getElem?_eq_getElem hi,Nat.zero_add];rfl
 stop:=fun {R H} p=>⟨vs,SqL.of p.1,by rw [j9t,Paired.length p.2];exact Nat.le_refl _⟩
theorem w5t {e:Expr} {p:Pos} {els:List Expr} {x1} {tp:Pos} {w:Wf D (List Y) D} (hg:Gl X "enumerate") (hm:X.mg "enumerate"=none) (h:EW X E T e w) (hs:starEach [e] X.env=(false,eval e X.env) :: starEach [] X.env:=by rfl) (hs1:starEach [e] X.env=[(false,eval e X.env)]:=by rfl) :
  IW X E T is (.Tuple els x1 tp) (.Call (.Name "enumerate" p) [e] [] pos) (fun (b:D) (_:List (Int×Y))=>b) (fun (d:D) Kn Ke=>w d (fun xs d'=>Kn (enm 0 xs) d') Ke):=by
 obtain ⟨t,h1,h2⟩:=h;refine ⟨_,w4v hg hm (j0k h1 j02 hs) hs1,fun d F R Z H Kn Ke Rk s hw kn ke=>h2 d F R Z H _ _ _ s hw (fun xs d' v F' R' H' q c s' r=>?_) ke⟩;obtain ⟨a,vs,rfl,r1,r2,r3⟩:=r;refine ⟨a,rfl,⟨vs,SqL.of r2⟩,kn (enm 0 xs) d' _ (fun R H=>(H a=some (.lst vs)/\Paired (rp R H) xs vs)/\¬R a) F' (fun _=>False) F' R' H' q c s'.std (j2l F') s'.rel ⟨fun p=>itp_enum.go p.1,fun p=>itp_enum.yld p.1,fun p=>itp_enum.stop p.1⟩ ⟨⟨r2,r3⟩,r1⟩ (fun p gs nf ex=>?_) fun b' G2 F'' R'' H'' Z' p h g t=>Sls.fq h (j4f t fun _ z=>z)⟩;have na:¬_:=fun z=>p.2 (gs a z);exact ⟨⟨ex.keep a _ na p.1.1,j05 (ex.wide gs) p.1.2⟩,ex.not p.2 p.1.1⟩
end
end WL
namespace WL
open PySem L2
open Rep (rp)
open Ow (sl)
open Sls (rel)
def k3g (C:Addr):Sp:=fun vs H Q E=>∃ p dx,vs=[.ref p]/\H p=some (.ins C dx []) /\
 ∀ d1 d2 H',H d1=none->H d2=none->d1≠d2->H' p=some (.ins C dx (j7e d1 d2 0 0 0 false))->H' d1=some (.dK [])->H' d2=some (.dK [])->(∀ b o,b≠p->H b=some o->H' b=some o)->Q .non H'
section
variable {P:Program} {w:World} {K:PySem.W.Frag} {mg:Str->Option Value} {base:Heap}
theorem w51 {C:Addr} {qual:Str} {st:Stmt} {f:Addr} {fd:FuncData} {k:Nat} (F:Fun K "__init__" qual st f fd) (S:FnScope ["self"] ["self"] (j0c st)) (ct:CTx K C)
  (hb:∀ (cdv:Value) (A:Around) (outer:List Env) (s:Shared) (H:Hp) (E:XK),PSs (cxOf (CX1 P w) P w K mg base ["self"] qual (j0c st) f cdv A outer s H E) (j1n st) (tSeq (sFld K (tVar 0) k5v "ranks") (tSeq (sFld K (tVar 0) k5v "borders") (sFld K (tVar 0) (tC (.int 0)) "upcoming")))) :
  FnOk P w K mg base (CX1 P w) (k + 1) f fd ["self"] (k3g C):=by
 obtain ⟨oc,od,kV,doc,pm,an,cdv,ct',osl,rfl,lk,hcd⟩:=F.ex;refine k8n lk hcd S (fun vs H Q E ⟨p,dx,e,_⟩=>by rw [e];rfl) fun Ar outer s H vs Q E hr hsp=>⟨_,hb cdv Ar outer s H E,?_⟩;obtain ⟨p,dx,rfl,hp,k⟩:=hsp;intro d1 h1;have n1:p≠d1:=j0m hp h1;have e1:upd H d1 (.dK []) p=some (.ins C dx []):=by rw [j0g n1];exact hp
 refine ⟨_,rfl,p,C,dx,[],rfl,e1,ct.cl,ct.nR,by decide,?_⟩;intro d2 h2;have n2:p≠d2:=fun z=>by rw [<- z,j0h] at h2;cases h2
 rw [j0g n2.symm] at h2;have n3:d2≠d1:=fun z=>by rw [z,j0h] at h2;cases h2
 rw [j0g n3] at h2;refine ⟨_,rfl,p,C,dx,[("ranks",.ref d1)],rfl,?_,ct.cl,ct.nB,(by show 1 < 1000;decide),?_⟩
 ·rw [j0g n2,j0h];rfl
 refine ⟨_,rfl,p,C,dx,[("ranks",.ref d1),("borders",.ref d2)],rfl,?_,ct.cl,ct.nU,(by show 2 < 1000;decide),?_⟩
 ·rw [j0h];rfl
 refine k d1 d2 _ h1 h2 n3.symm ?_ ?_ ?_ fun b o nb hb=>?_
 ·rw [j0h];rfl
 ·rw [j0g n1.symm,j0g n1.symm,j0g n3.symm,j0g n1.symm,j0h]
 ·rw [j0g n2.symm,j0g n2.symm,j0h]
 ·rw [j0g nb,j0g nb,j0g (j0m hb h2),j0g nb,j0g (j0m hb h1)];exact hb
end
section
variable {X:Cx} {E:XK} {T:Addr} {D:Type} [Sls D] {pos:Pos} {C:Addr}
theorem w1s {x:Str} {p:Pos} {k:Nat} {f:Addr} {fd:FuncData} (M:Mk X.K C f) (F:FnOk X.prog X.w X.K X.mg X.base (CX1 X.prog X.w) k f fd ["self"] (k3g C)) (hr:Room (k + 1) X.A) (hg:Gl X x) (hm:X.mg x=some (.ref C)) (hb:Binds X.K fd ["self"] []) (hx:j2u (CX1 X.prog X.w) X E) (hdb:(x == ("__debug__":Str))=false:=by decide) :
  EO X E T (.Call (.Name x p) [] [] pos) (fun (d:D) (Kn:Bd C false->D->Prop) _=>Kn ⟨[],[],0,[],[]⟩ d):=by
 refine ⟨_,w0q M F hr hg hm hb .nil hx hdb,fun d F' R Z H Kn Ke Q s hw kn _=>?_⟩;intro y dy hy hdy hne;refine ⟨y,dy,rfl,j0h,fun d1 d2 H' h1 h2 hn g1 g2 g3 g4=>⟨rfl,?_⟩⟩;have a1:d1≠y:=fun z=>by rw [z,j0h] at h1;cases h1
 have a2:d2≠y:=fun z=>by rw [z,j0h] at h2;cases h2
 rw [j0g a1] at h1;rw [j0g a2] at h2;have b1:d1≠dy:=fun z=>by rw [z,j0h] at h1;cases h1
 have b2:d2≠dy:=fun z=>by rw [z,j0h] at h2;cases h2
 rw [j0g b1] at h1;rw [j0g b2] at h2
 have hf:∀ a,a∈adr y dy d1 d2 0 0 false->H a=none:=fun a h=>by
  have h:a=y\/a=dy\/a=d1\/a=d2:=by simpa [adr] using h
  rcases h with z | z | z | z<;>rw [z]<;>assumption
 have kp:∀ b o,H b=some o->H' b=some o:=fun b o q=>g4 b o (j0m q hy) (by rw [j0g (j0m q hy),j0g (j0m q hdy)];exact q);have gd:H' dy=some (.own y):=g4 dy _ hne (by rw [j0g hne,j0h])
 have hl:∀ a,a∈adr y dy d1 d2 0 0 false->H' a≠none:=fun a h=>by
  have h:a=y\/a=dy\/a=d1\/a=d2:=by simpa [adr] using h
  rcases h with z | z | z | z<;>rw [z]
  ·rw [g1];simp
  ·rw [gd];simp
  ·rw [g2];simp
  ·rw [g3];simp
 have ex:Ext (fun _=>False) R H (fun a=>R a\/a∈adr y dy d1 d2 0 0 false) H':=⟨fun b o _ h=>kp b o h,fun a h=>h.elim .inl fun q=>.inr (hf a q)⟩
 refine kn _ d (.ref y) (fun a=>a∈adr y dy d1 d2 0 0 false) F' (fun a=>R a\/a∈adr y dy d1 d2 0 0 false) H' hw ⟨fun b o _ _ h=>kp b o h,ex.new,fun a h=>h.elim (fun q=>.inr (hf a q)) .inl,fun a h _=>.inl h⟩
  ⟨Sls.st s.rel ex (fun _ z=>z.elim) (fun _ _ z=>z),fun a h=>.inl (s.sub a h),fun a h=>h.elim (fun z=>?_) (hl a),?_,.inl s.tabR,s.tabF⟩ ⟨⟨y,dy,d1,d2,0,0,[],rfl,fun _=>Iff.rfl,⟨?_,g1,gd,g2,g3,.nil,(fun z=>by cases z),(fun z=>by cases z)⟩⟩,fun a h=>.inr h,fun a h z=>s.liv a (s.sub a z) (hf a h),fun h=>j31 s.tab (hf T h)⟩
 ·cases e:H a with
  | none=>exact absurd e (s.liv a z)
  | some u=>rw [kp a u e];simp
 ·obtain ⟨ps,e,t⟩:=s.tab;exact ⟨ps,kp _ _ e,t⟩
 ·show [y,dy,d1,d2].Nodup;simp only [List.nodup_cons,List.mem_cons,List.not_mem_nil,or_false,not_or,List.nodup_nil,and_true,not_false_eq_true];exact ⟨⟨hne.symm,a1.symm,a2.symm⟩,⟨b1.symm,b2.symm⟩,hn⟩
end
structure Mf (K:PySem.W.Frag) (C:Addr) (m qual:Str) (st:Stmt) (ps:List Str) (f:Addr) (fd:FuncData):Prop where
 fn:Fun K m qual st f fd
 me:Meth K C m f
 bd:Binds K fd ps []
structure Xc (K:PySem.W.Frag) (mg:Str->Option Value) (x:Str) (C:Addr):Prop where
 ex:∃ (bmB:List Value) (B newId initId:String),mg x=some (.ref C)/\PySem.W.excIn K C bmB newId=true/\ExcBaseFacts B newId initId bmB
theorem hu1 {k:Nat} {A:Around} (r:Room k A):A.units + 1 < cLine:=Nat.lt_of_le_of_lt (Nat.add_le_add_left (by decide) _) r.units
def clsB (s:Stmt):List Stmt:=match s with
 | .ClassDef _ _ _ body _ _ _ _ _ _ _=>body
 | _=>[]
def mth (s:Stmt) (i:Nat):Stmt:=(clsB s).getD i (.Pass ⟨0,0,0,0⟩)
section
variable {P:Program} {w:World} {K:PySem.W.Frag} {mg:Str->Option Value} {base:Heap} {N:List Str} {qual:Str} {scope:Scope} {f:Addr} {cd:Value} {A:Around} {outer:List Env} {s:Shared} {H:Hp} {E:XK} {T:Addr} {ms:List Nat} {n:Nat} {D D' PO τ:Type} [Sls D] [Sls D'] [Sls PO] [Ow τ] {pos:Pos}
theorem k4g {x m:Str} {np cpos mp:Pos} {k:Nat} {C:Addr} [J:Pj D PO n] (hg:Gl (cxOf (CX1 P w) P w K mg base N qual scope f cd A outer s H E) x) (h:Xc K mg x C) (hdb:(x == ("__debug__":Str))=false:=by decide)
  (he:starEach [.Constant (.str m) k mp] (cxOf (CX1 P w) P w K mg base N qual scope f cd A outer s H E).env=(false,eval (.Constant (.str m) k mp) (cxOf (CX1 P w) P w K mg base N qual scope f cd A outer s H E).env) :: starEach [] (cxOf (CX1 P w) P w K mg base N qual scope f cd A outer s H E).env:=by rfl)
  (hpl:(backTo cpos (starEach [] (cxOf (CX1 P w) P w K mg base N qual scope f cd A outer s H E).env)).any (·.1)=false:=by rfl) :
  S1 (cxOf (CX1 P w) P w K mg base N qual scope f cd A outer s H E) E T ms n (.Raise (some (.Call (.Name x np) [.Constant (.str m) k mp] [] cpos)) none pos) (fun (d:D) (_:D'->Prop) (_:τ->PO->Prop) Ke=>Ke C (J.pj d)):=by
 obtain ⟨bmB,B,newId,initId,hm,O,FB⟩:=h.ex;exact j81 (j84 hg hm O FB (j0k k63 j02 he) hdb he hpl)
end
section
variable {X:Cx} {E:XK} {T:Addr} {D:Type} [Sls D] {pos:Pos}
theorem w20 {x:Str} {i:Int} {t:Tok} (hg:Gl X x) (hm:X.mg x=some (.int i t)) (hd:(x == ("__debug__":Str))=false:=by decide):EW X E T (.Name x pos) (fun (d:D) (Kn:Int->D->Prop) _=>Kn i d) :=
 ⟨_,w4x (v:=.int i) hg hm ⟨t,rfl⟩ hd,fun d F R Z H Kn Ke Q s hw kn _=>kn i d _ F R H hw (Ch.refl _ _ _ _) s rfl⟩
end
def Sf (f:Int->List Int) (x:Int):List Int->Bool
 | []=>false
 | c :: l=>xor (decide (x∈f c)) (Sf f x l)
theorem k9r {f:Int->List Int} {x:Int} {a b:List Int} (p:a.Perm b):Sf f x a=Sf f x b:=by
 induction p with
 | nil=>rfl
 | cons c _ ih=>show xor _ _=xor _ _;rw [ih]
 | swap c d l=>show xor _ (xor _ _)=xor _ (xor _ _);rw [<- Bool.xor_assoc,<- Bool.xor_assoc,Bool.xor_comm (decide (x∈f d))]
 | trans _ _ h1 h2=>exact h1.trans h2
theorem w9i {f:Int->List Int} {x k:Int} {l:List Int} (h:Ris l):Sf f x (tog l k)=xor (decide (x∈f k)) (Sf f x l):=by
 by_cases q:k∈l
 ·have e:tog l k=sdel k l:=if_pos q
  have p:l.Perm (k :: sdel k l):=by
   refine j1q (j0l h) (List.nodup_cons.mpr ⟨fun z=>(sdel_mem.mp z).2 rfl,j0l (List.Pairwise.filter _ h)⟩) fun y=>?_;rw [List.mem_cons,sdel_mem];by_cases z:y=k
   ·rw [z];simp [q]
   ·simp [z]
  rw [e,k9r p];show _=xor _ (xor _ _);rw [<- Bool.xor_assoc,Bool.xor_self,Bool.false_xor]
 ·have e:tog l k=sadd k l:=if_neg q
  have p:(sadd k l).Perm (k :: l):=by refine j1q (j0l (j8t h)) (List.nodup_cons.mpr ⟨q,j0l h⟩) fun y=>?_;rw [List.mem_cons,sadd_mem]
  rw [e,k9r p];rfl
theorem w13 {f:Int->List Int} {x:Int}:∀ {b a:List Int},Ris a->Sf f x (xr a b)=xor (Sf f x a) (Sf f x b)
 | [],a,_=>by show Sf f x a=xor _ false;rw [Bool.xor_false]
 | k :: b,a,h=>by show Sf f x (xr (tog a k) b)=xor (Sf f x a) (xor (decide (x∈f k)) (Sf f x b));rw [w13 (k5r h),w9i h,<- Bool.xor_assoc,Bool.xor_comm (Sf f x a)]
theorem k3e {f:Int->List Int} {x:Int}:∀ {l:List Int} {a:List Int},(∀ c∈l,(f c).Nodup)->decide (x∈(l.map f).foldl xr a)=xor (decide (x∈a)) (Sf f x l)
 | [],a,_=>by show decide (x∈a)=xor _ false;rw [Bool.xor_false]
 | c :: l,a,h=>by show decide (x∈(l.map f).foldl xr (xr a (f c)))=xor _ (xor _ _);rw [k3e (fun y hy=>h y (List.mem_cons_of_mem _ hy)),<- Bool.xor_assoc];congr 1;have e:=j5v (l:=a) (x:=x) (h c List.mem_cons_self);by_cases p:x∈a<;>by_cases q:x∈f c<;>simp [p,q,e]
def bsum (f:Int->List Int) (l:List Int):List Int:=tot (l.map f)
theorem j4a {f:Int->List Int} {x:Int} {l:List Int} (h:∀ c∈l,(f c).Nodup):decide (x∈bsum f l)=Sf f x l:=by unfold bsum tot;rw [k3e h];show xor (decide (x∈([]:List Int))) _=_;rw [decide_eq_false (by simp),Bool.false_xor]
theorem j39 (f:Int->List Int) (l:List Int):Ris (bsum f l):=w3i _
theorem j35 {a b:List Int} (ha:Ris a) (hb:Ris b) (h:∀ x,decide (x∈a)=decide (x∈b)):a=b:=k1w ha hb fun k=>by have:=h k;by_cases p:k∈a<;>by_cases q:k∈b<;>simp [p,q] at this ⊢
theorem k36 {f:Int->List Int} {l:List Int} {x:Int} (h:∀ c∈l,(f c).Nodup) (hx:x∈bsum f l):∃ c∈l,x∈f c:=by
 have e:=j4a (x:=x) h;rw [decide_eq_true hx] at e;clear hx
 induction l with
 | nil=>cases e
 | cons c l ih =>
  by_cases q:x∈f c
  ·exact ⟨c,List.mem_cons_self,q⟩
  ·have e:true=xor (decide (x∈f c)) (Sf f x l):=e;rw [decide_eq_false q,Bool.false_xor] at e;obtain ⟨d,d1,d2⟩:=ih (fun y hy=>h y (List.mem_cons_of_mem _ hy)) e;exact ⟨d,List.mem_cons_of_mem _ d1,d2⟩
theorem k2z {f:Int->List Int} {a b:List Int} (ha:Ris a) (hb:Ris b) (na:∀ c∈a,(f c).Nodup) (nb:∀ c∈b,(f c).Nodup):bsum f (xr a b)=xr (bsum f a) (bsum f b) :=
 j35 (j39 _ _) (j1x (j39 _ _)) fun x=>by rw [j4a fun c hc=>(j4r (j0l hb) hc).elim (na c) (nb c),w13 ha,<- j4a na,<- j4a nb];have e:=j5v (l:=bsum f a) (x:=x) (j0l (j39 f b));by_cases p:x∈bsum f a<;>by_cases q:x∈bsum f b<;>simp [p,q,e]
theorem k9q {f:Int->List Int} {x:Int}:∀ {l a:List Int},Ris a->(∀ c∈l,Ris (f c)/\Sf f x (f c)=false)->Sf f x ((l.map f).foldl xr a)=Sf f x a
 | [],_,_,_=>rfl
 | c :: l,a,ha,h=>by show Sf f x ((l.map f).foldl xr (xr a (f c)))=_;rw [k9q (j1x ha) fun y hy=>h y (List.mem_cons_of_mem _ hy),w13 ha,(h c List.mem_cons_self).2,Bool.xor_false]
theorem k9k {f:Int->List Int} {l:List Int} (h:∀ c∈l,Ris (f c)/\(∀ d∈f c,(f d).Nodup)/\bsum f (f c)=[]):bsum f (bsum f l)=[] :=
 j35 (j39 _ _) List.Pairwise.nil fun x=>by
  rw [j4a,decide_eq_false (by simp)]
  ·exact k9q (x:=x) (l:=l) List.Pairwise.nil fun c hc=>⟨(h c hc).1,by rw [<- j4a (h c hc).2.1,(h c hc).2.2];rfl⟩
  ·intro d hd;obtain ⟨c,hc,hd⟩:=k36 (fun c hc=>j0l (h c hc).1) hd;exact (h c hc).2.1 d hd
theorem j11 {f g:Int->List Int} {l:List Int} (h:∀ c∈l,f c=g c):bsum f l=bsum g l:=by unfold bsum;rw [List.map_congr_left h]
structure Scr (K:PySem.W.Frag) where
def ScrAt (K:PySem.W.Frag) (R:Rg) (H:Hp) (a:Addr) (ns:List Int):Prop :=
 (¬R a/\Rd H a (.lst (ns.map V.int)))\/∃ (o:PySem.Obj) (its:Array Value) (n:Nat),K.lookup a=some o/\o.cls=.type "list"/\o.dict=none/\o.data=.seq its n/\its.size<=sizeLine/\Vals (ns.map V.int) its.toList
theorem ScrAt.sq {K:PySem.W.Frag} {R:Rg} {H:Hp} {a:Addr} {ns:List Int} (h:ScrAt K R H a ns):SqL K H a (ns.map V.int):=h.elim (fun z=>.inl z.2) .inr
instance (K:PySem.W.Frag):Rep (Scr K):=⟨fun R H _ v=>∃ a ns,v=.ref a/\ScrAt K R H a ns,fun {R H R' H' x v} h e=>by
 obtain ⟨a,ns,h1,h2⟩:=h;refine ⟨a,ns,h1,?_⟩;rcases h2 with ⟨n,r⟩ | r
 ·rcases r with r | ⟨o,r⟩
  ·exact .inl ⟨e.not n r,.inl (e.keep a _ n r)⟩
  ·exact .inl ⟨e.not n r,.inr ⟨o,e.keep a _ n r⟩⟩
 ·exact .inr r⟩
def w7e (K:PySem.W.Frag):Sp:=fun vs H Q _=>∃ (a:Addr) (ns:List Int),vs=[.ref a]/\SqL K H a (ns.map V.int)/\∀ H' g q ns' s,Same H H'->BagAt H' g q ns' 0 0 s->H g=none->H q=none->Q (.ref g) H'
def w3f (K:PySem.W.Frag):Wf (Scr K×Unit) Bg (Un×Unit):=fun _ Kn _=>Kn ⟨⟩ (⟨⟩,())
def w6z (K:PySem.W.Frag):Wf (Scr K×Unit) Bool (Un×Unit):=fun _ Kn _=>Kn true (⟨⟩,())
section
variable {P:Program} {w:World} {K:PySem.W.Frag} {mg:Str->Option Value} {base:Heap} {T:Addr} {k:Nat} {f:Addr} {fd:FuncData} {ps:List Str}
theorem bag_w (F:FnOk P w K mg base CX0 k f fd ps (w7e K)):FnOk P w K mg base (CX1 P w) k f fd ps (spW T (w3f K)) :=
 (w8s F).imp fun vs H Q E ⟨F,R,p,Kn,Ke,s,hw,kn,_⟩=>by
  obtain ⟨v,Z',F1,F2,h1,h2,⟨n1,u,e,a,ns,e2,h3⟩,h4⟩:=s.rel;subst e e2
  match vs,h1 with
  | [],h1=>cases h1
  | x :: r,h1 =>
   injection h1 with z1 z2;cases z1
   have hr:r=[]:=by have:=h4.1;rw [<- z2] at this;exact List.map_eq_nil_iff.mp this
   subst hr;refine ⟨a,ns,rfl,h3.sq,fun H' g q ns' s' sm B hg hq=>?_⟩;have ex:Ext (fun _=>False) R H (fun c=>R c\/c=g\/c=q) H':=⟨fun b o _ h=>sm b o h,fun c h=>h.elim .inl fun z=>.inr (z.elim (fun z=>by rw [z];exact hg) fun z=>by rw [z];exact hq)⟩;refine kn ⟨⟩ (⟨⟩,()) (.ref g) (fun c=>c=g\/c=q) (fun _=>False) (fun c=>R c\/c=g\/c=q) H' hw ⟨fun b o _ _ h=>sm b o h,ex.new,fun c h=>h.elim (fun z=>.inr (z.elim (fun z=>by rw [z];exact hg) fun z=>by rw [z];exact hq)) fun z=>z.elim,fun c h _=>.inl h⟩ ⟨⟨some (.ref a),[],fun _=>False,fun _=>False,rfl,⟨fun _=>⟨fun z=>z.elim,fun z=>z.elim id id⟩,fun _ z _=>z⟩,fun _ z=>z,rfl,fun _ z=>z⟩,fun _ z=>z.elim,fun c h=>?_,?_,.inl s.tabR,fun z=>z⟩ ⟨⟨g,q,ns',0,0,s',rfl,fun _=>Iff.rfl,B⟩,fun c h=>.inr h,fun _ _ z=>z,fun z=>?_⟩
   ·rcases h with h | h | h
    ·cases e:H c with
     | none=>exact absurd e (s.liv c h)
     | some o=>rw [sm c o e];simp
    ·rw [h,B.ob];simp
    ·rw [h,B.sc];simp
   ·obtain ⟨qs,e,t⟩:=s.tab;exact ⟨qs,sm _ _ e,t⟩
   ·have:=j31 s.tab;rcases z with z | z
    ·rw [z] at this;exact this hg
    ·rw [z] at this;exact this hq
def k92 (K:PySem.W.Frag) (tab:Addr):Sp:=fun vs H Q _=>∃ (a:Addr) (ns:List Int),vs=[.ref a]/\SqL K H a (ns.map V.int)/\j9z H tab/\∀ H',Q (.bl true) H'
theorem law_w (F:FnOk P w K mg base (CX1 P w) k f fd ps (spW T (w6z K))):FnOk P w K mg base (CX1 P w) k f fd ps (k92 K T) :=
 F.imp fun vs H Q E ⟨a,ns,e,hS,hT,kq⟩=>by
  subst e;refine ⟨fun _=>False,fun c=>c=T,(⟨⟩,()),fun x _=>x=true,fun _ _=>False,⟨⟨some (.ref a),[],fun _=>False,fun _=>False,rfl,⟨fun _=>⟨fun z=>z.elim,fun z=>z.elim id id⟩,fun _ z _=>z⟩,⟨fun _ z=>z,_,rfl,a,ns,rfl,?_⟩,rfl,fun _ z=>z⟩,fun _ z=>z.elim,fun c h=>by rw [h];exact j31 hT,hT,rfl,fun z=>z⟩,rfl,fun x p' v F1 F2 R' H' q c s' n=>?_,fun C y p' F' R' H' q=>q.elim⟩
  ·rcases hS with r | r
   ·refine .inl ⟨fun z=>?_,r⟩;obtain ⟨qs,e,_⟩:=hT;rcases r with r | ⟨o,r⟩
    ·rw [z,e] at r;cases r
    ·rw [z,e] at r;cases r
   ·exact .inr r
  ·obtain ⟨_,u,e,r⟩:=n.is;cases e;have r:v=V.bl x:=r;rw [r,q];exact kq H'
theorem fn_x0 {sp:Sp} (F:FnOk P w K mg base (CX1 P w) k f fd ps sp) (h:∀ vs H Q E,sp vs H Q E->sp vs H Q XF):FnOk P w K mg base CX0 k f fd ps sp :=
 ⟨F.len,fun A outer s H args us vs Q E hr he hb hv hs=>codeAny_mono (F.run A outer s H args us vs Q XF hr he hb hv (h _ _ _ _ hs)) fun r s' z=>by
  cases r with
  | error e =>
   obtain ⟨_,_,_,_,_,z⟩:=z;exact z.elim
  | ok fl =>
   cases fl with
   | ret u=>exact z
   | next=>exact False.elim z
   | brk=>exact False.elim z
   | cont=>exact False.elim z⟩
end
end WL
namespace SX
open PySem PySem.Spec PyProof.Rows
section
variable {prog:Program} {w:World} {A:Around} {E:Value->Shared->Prop} {s:Shared} {a0:Array Keyed}
theorem w7h {st:SortSt} {Q:Option Nat->SortSt->Prop} (hk:IntKeys a0) (hb:SBase a0 st) (h1:1<=a0.size) (hs:SortedTo (arrOf st) a0.size) (h:Q (some a0.size) st):wpS (model prog w) A E s (countRun' 0 a0.size) Q st:=by
 rw [countRun0_eq];refine wpS_bind (wpS_ascLoop hk (Nat.le_refl _) (Nat.le_refl 1) h1 hb (fun i j p q=>hs i j p (by omega)) fun n n1 n2 _ o=>?_)
 have e:n=a0.size:=o.elim id fun z=>by
  rcases Nat.lt_or_ge n a0.size with q | q
  ·exact absurd (hs (n - 1) n (by omega) q) (Int.not_le.mpr z)
  ·omega
 subst e;dsimp only;rw [if_pos (by simp)];exact wpS_pure h
theorem w4f {st:SortSt} {Q:Unit->SortSt->Prop} (hk:IntKeys a0) (hb:SBase a0 st) (h2:2<=a0.size) (hs:SortedTo (arrOf st) a0.size)
  (h:∀ t,(arrOf t).Perm a0/\failedOf t=none/\SortedTo (arrOf t) a0.size->Q () t):wpS (model prog w) A E s sortRuns' Q st:=by
 rw [sortRuns'_eq];refine wpS_bind (wpS_get ?_);dsimp only;generalize minRun' (arrOf st).size (arrOf st).size 0=mr;rw [hb.size];refine wpS_bind (wpS_mono (Q:=fun c t=>c=(none,a0.size)/\SDone a0 t) (wpS_forRange (I:=fun x c t=>if x=0 then c=(none,0)/\t=st else c=(none,a0.size)/\SDone a0 t) ?go ?fi ⟨rfl,rfl⟩) ?z)
 case fi =>
  intro c t g;rw [if_neg (by omega)] at g;exact g
 case go =>
  intro x c t _ hx g;by_cases x0:x=0
  ·rw [if_pos x0] at g;obtain ⟨rfl,rfl⟩:=g;subst x0;dsimp only;rw [if_neg (by omega)];simp only [Nat.sub_zero,Nat.zero_add];refine wpS_bind (w7h hk hb (by omega) hs ?_);dsimp only;have fin:∀ u:SortSt,SBase a0 u->SortedTo (arrOf u) a0.size->SDone a0 (setPending u ((pendingOf u).push (0,a0.size,0))):=fun u b z=>b.done z;by_cases m:a0.size < mr
   ·rw [if_pos m];simp only [Nat.min_eq_left (Nat.le_of_lt m)];refine wpS_bind (wpS_lift (wpAny_rule ⟨rfl,wpS_bind (wpS_binarySort hk (Nat.le_refl _) (Nat.le_refl _) hb hs fun u b z=>?_)⟩));simp only [Bool.not_true,Bool.false_eq_true,if_false];refine wpS_bind (wpS_get ?_);rw [show (pendingOf u).back?=none by rw [b.pend];rfl];dsimp only;exact wpS_bind (wpS_modify (wpS_pure (by show if 0 + 1=0 then _ else _;exact ⟨rfl,fin u b z⟩)))
   ·rw [if_neg m];refine wpS_bind (wpS_get ?_);rw [show (pendingOf t).back?=none by rw [hb.pend];rfl];dsimp only;exact wpS_bind (wpS_modify (wpS_pure (by show if 0 + 1=0 then _ else _;exact ⟨rfl,fin t hb hs⟩)))
  ·rw [if_neg x0] at g;obtain ⟨rfl,g⟩:=g;dsimp only;rw [if_pos (Nat.le_refl _)];exact wpS_pure ⟨rfl,g⟩
 case z =>
  rintro c t ⟨rfl,g⟩;dsimp only;refine wpS_bind (wpS_mono (Q:=fun c u=>u=t/\c=(none,())) (wpS_forRange (I:=fun _ c u=>u=t/\c=(none,())) (fun x c u _ _ g2=>?_) (fun _ _ z=>z) ⟨rfl,rfl⟩) ?_)
  ·obtain ⟨rfl,rfl⟩:=g2;refine wpS_bind (wpS_get ?_);rw [if_pos (by rw [g.2.2.1];exact Nat.le_refl 1)];exact wpS_pure ⟨rfl,rfl⟩
  ·rintro c u ⟨rfl,rfl⟩;exact wpS_pure (h _ ⟨g.1,g.2.1,g.2.2.2⟩)
theorem w0s {vs:List Value} {ns:List Int} (hi:IntsAre vs ns) (hu:ns.Pairwise (·<=·)):SortedTo (pairsOf vs) (pairsOf vs).size:=by
 intro i j hij hj;rw [pairsOf_size] at hj;rw [<- hi.nums,List.pairwise_map] at hu
 have g:∀ k (hk:k < vs.length),K (pairsOf vs) k=numOf vs[k]:=fun k hk=>by rw [K_eq (by rw [pairsOf_size];exact hk)];simp [pairsOf]
 rw [g i (by omega),g j hj];rcases Nat.lt_or_ge i j with q | q
 ·exact List.pairwise_iff_getElem.mp hu i j (by omega) hj q
 ·have:i=j:=by omega
  subst this;exact Int.le_refl _
theorem w3p {a:Addr} {vs:List Value} {ns:List Int} {n:Nat} {P:Fin->Shared->Prop} (ho:s.heap.get? a=some (seqObj "list" vs.toArray n)) (hi:IntsAre vs ns) (hu:ns.Pairwise (·<=·)) (hz:vs.length<=sizeLine)
  (h:∀ (out:Array Value) (ms:List Int),IntsAre out.toList ms/\ms.Perm ns/\ms.Pairwise (·<=·)->P (.done (.ret .none)) { s with heap:=sortedHeap s.heap a vs out}):wpAny (model prog w) A (Builtin.«list.sort» ⟨[.ref a],[]⟩) P E s:=by
 by_cases h64:vs.length < 64
 ·exact list_sort_tree ho hi h64 fun out ms a b c=>h out ms ⟨a,b,c⟩
 rw [list_sort_plain];have alt:=Heap.lt_size ho;refine wB (listItems_at ho rfl (wB (listUpdate_at ho rfl ?_ (hsz:=by simpa using hz))));obtain ⟨e1,o1⟩:∃ e1,(s.heap.update a (Obj.mapSeq fun _=>#[])).get? a=some (seqObj "list" #[] e1):=⟨_,get?_update_seq ho _⟩;refine wB (seqEpoch_at o1 rfl (wB (wpAny_newTuple (wB (wpAny_newList (wpAny_holding ?_))))));have o2:(((s.heap.update a (Obj.mapSeq fun _=>#[])).push (seqObj "tuple" vs.toArray 0)).push (seqObj "list" #[] 0)).get? a=some (seqObj "list" #[] e1):=Heap.get?_push_of_some _ (Heap.get?_push_of_some _ o1);dsimp only;have sz:vs.toArray.size=vs.length:=by simp
 rw [if_neg (by omega),if_neg (by omega)]
 obtain ⟨v1,v2,r,rfl⟩:∃ v1 v2 r,vs=v1 :: v2 :: r:=by
  match vs,h64 with
  | [],z=>simp at z
  | [_],z=>simp at z
  | v1 :: v2 :: r,_=>exact ⟨v1,v2,r,rfl⟩
 rw [keyKind_ints hi]
 refine wB (wP (wB (wpAny_mono (w4f (a0:=pairsOf (v1 :: v2 :: r)) (st:=SortSt.mk' oneType' ((v1 :: v2 :: r).toArray.zip (v1 :: v2 :: r).toArray) #[] 7 none) (Q:=fun _ t=>(arrOf t).Perm (pairsOf (v1 :: v2 :: r))/\failedOf t=none/\SortedTo (arrOf t) (pairsOf (v1 :: v2 :: r)).size)
  hi.intKeys ⟨Array.Perm.refl _,rfl,rfl,rfl⟩ (by rw [pairsOf_size];simp) (w0s hi hu) fun t z=>z) ?_ fun _ _ e=>e)))
 rintro ⟨⟨⟩,t⟩ s' ⟨rfl,p1,p2,p3⟩;dsimp only;refine wB (seqEpoch_at o2 rfl (wB (listUpdate_at o2 rfl ?_ (hsz2:=by rw [Array.size_map,p1.size_eq,pairsOf_size];omega))));rw [p2];simp only [bne_self_eq_false,Bool.false_eq_true,if_false];obtain ⟨ms,q⟩:=sorted_out hi p1 p3;exact wP (h _ ms q)
theorem k5x {v:Value} {ks:List Int} {Q:Value->Shared->Prop} (hu:ks.Pairwise (·<=·)) (hz:ks.length<=sizeLine)
  (hc:∀ (Q':List Value->Shared->Prop),(∀ h' tk vs,IntsAre vs ks->(∀ c o,s.heap.get? c=some o->h'.get? c=some o)->s.heap.objs.size<=h'.objs.size->Q' vs { s with heap:=h',toks:=tk})->wpAny (model prog w) A.in1 (collect v) Q' E s)
  (h:∀ h' tk r vs ns,s.heap.objs.size<=r->IntsAre vs ns->ns.Perm ks->ns.Pairwise (·<=·)->(∃ n,h'.get? r=some { cls:=.type "list",data:=.seq vs.toArray n})->(∀ c o,s.heap.get? c=some o->h'.get? c=some o)->Q (.ref r) { s with heap:=h',toks:=tk}) :
  wpAny (model prog w) A (call (.builtin "sorted") [v]) Q E s:=by
 refine Calls.call_function_entry kind_sorted plain_sorted entry_sorted (args_sorted1 _) ?_;unfold Builtin.«sorted»;refine wB (m:=checkCount "sorted" 1 1 _) (wP (wB (hc _ fun h1 tk vs hi k1 sz=>wB (wpAny_newList ?_))));have o1:(h1.push (seqObj "list" vs.toArray 0)).get? h1.objs.size=some (seqObj "list" vs.toArray 0):=Heap.get?_push_size _ rfl;refine wB (wpAny_holding (wpAny_call_entry slot_list_sort ⟨_,o1,rfl⟩ entry_list_sort (w3p o1 hi hu (by rw [hi.length];exact hz) fun out ms q=>⟨_,rfl,?_⟩) (args_list_sort _)));obtain ⟨ep,e2⟩:=sortedHeap_at (out:=out) o1;refine wP ⟨_,rfl,h _ tk h1.objs.size out.toList ms sz q.1 q.2.1 q.2.2 ⟨ep,by simpa using e2⟩ fun c o g=>?_⟩;have lt:=Heap.lt_size (k1 c o g);rw [sortedHeap_old (Nat.ne_of_lt lt) (by rw [size_push'];exact Nat.lt_succ_of_lt lt)];exact Heap.get?_push_of_some _ (k1 c o g)
end
end SX
namespace L2
open PySem PySem.Spec PyProof.Rows SX
section
variable {X:Cx}
theorem j9x (hc:X.calm=true):j3l X (.builtin "sorted") (fun xs H Q=>∃ (a:Addr) (kvs:List (Key×V)) (ks:List Int),xs=[.ref a]/\H a=some (.dK kvs)/\kvs.map (·.1)=ks.map Sum.inl/\ks.length < 1000/\ks.Pairwise (·<=·)/\∀ (p:Addr) (ns:List Int),H p=none->ns.Perm ks->ns.Pairwise (·<=·)->Q (.ref p) (upd H p (.lst (ns.map V.int)))):=by
 intro pins s Z H xs us Q I r h;obtain ⟨a,kvs,ks,rfl,ha,hks,hn,hu,q⟩:=h;obtain ⟨u,rfl,rx⟩:=j56 r;cases rx;obtain ⟨hz,hsys,vs,kv,hd⟩:=I.hok a _ ha;obtain ⟨o,es,ep,ho,hex,hdat,hrest⟩:=hd;have D:s.heap.DictAt (j1k X.prog X.w) a vs ep:=⟨o,es,ho,hex,hdat,hrest⟩;have lkv:kvs.length=vs.length:=Paired.length kv;have lks:kvs.length=ks.length:=by have:=congrArg List.length hks;simpa using this
 have sl:sizeLine=16777216:=sizeLine_eq;refine k5x hu (by omega) (fun Q' k=>k03 (by simp [I.ok.hd hc]) hsys D (by omega) (by omega) (fun i k0 x v hx his=>?_) fun h' tk vs' hi k1 sz=>k h' tk vs' hi k1 sz) fun h' tk r vs ns hr hi hp hs he hk=>?_
 ·obtain ⟨y,hy⟩:=k77 kv i hx;have h1:(kvs.map (·.1))[i]?=some k0:=by rw [List.getElem?_map,hy];rfl
  rw [hks,List.getElem?_map] at h1
  cases e:ks[i]? with
  | none=>rw [e] at h1;cases h1
  | some j =>
   rw [e] at h1;cases h1;obtain ⟨u,hu⟩:=k78 his;exact ⟨j,u,rfl,hu⟩
 ·obtain ⟨n,e⟩:=he;exact ⟨.ref r,_,I.laid (t':=tk) (o:=.lst (ns.map V.int)) hk hr ⟨by rw [List.length_map,hp.length_eq];omega,vs,n,k5n hi,e⟩,rfl,q r ns (I.hok.fresh hr) hp hs⟩
end
end L2
namespace WL
open PySem L2
open Rep (rp)
open Ow (sl)
open Sls (rel)
section
variable {X:Cx} {E:XK} {T:Addr} {ms:List Nat} {n:Nat} {D PO τ:Type} [Sls D] [Sls PO] [Ow τ] {pos:Pos}
variable {x:Str} {p1 p2:Pos} {C:Addr} {fl:Bool}
theorem k8w {p3:Pos} (q:ID) (i:Nat) {D0:Type} [Sls D0] [A:At i D (Bd C fl) D0] (ok:q.ok fl) (cl:Cls X.K C) (nf:NoAttr X.K C q.nm) (hc:X.calm=true) (hg:Gl X "sorted") (hm:X.mg "sorted"=none) (hn:PE X (.Name x p1) (tVar i)) (hb:attributeBase (.Name x p1) q.nm X.env (eval (.Name x p1) X.env)=eval (.Name x p1) X.env:=by rfl)
  (hs:starEach [.Attribute (.Name x p1) q.nm p2] X.env=(false,eval (.Attribute (.Name x p1) q.nm p2) X.env) :: starEach [] X.env:=by rfl) :
  EO X E T (.Call (.Name "sorted" p3) [.Attribute (.Name x p1) q.nm p2] [] pos) (fun (d:D) (Kn:OL Int->D->Prop) _=>(q.get (A.get d)).length < 1000/\((q.get (A.get d)).map (·.1)).Pairwise (·<=·)/\Kn ⟨(q.get (A.get d)).map (·.1)⟩ d):=by
 refine ⟨_,j1l (j9x hc) hg hm PyProof.Rows.boot_sorted (j0k (j27 hn hb) j02 hs) (he:=hs),fun d F R Z H Kn Ke Q s hw kn ke=>?_⟩;obtain ⟨p,dx,e1,e2,e3,e4,us,g1,g2,_,_⟩:=j2f (i:=i) s;obtain ⟨y,l1,l2,_,_⟩:=k2n g2 q ok;obtain ⟨w1,w2,w3⟩:=hw;refine ⟨_,g1,p,C,dx,_,_,rfl,g2.ob,cl,nf,l1,y,_,(q.get (A.get d)).map (·.1),rfl,l2,?_,by rw [List.length_map];exact w1,w2,fun l ns hl pn sn=>?_⟩
 ·unfold kin;rw [List.map_map,List.map_map];rfl
 ·rw [j7v pn sn,<- j7v (List.Perm.refl _) w2];obtain ⟨R',c3,s3,n3⟩:=j3i s hl (j10 (R:=R) (H:=H) ((q.get (A.get d)).map (·.1)));exact kn _ d _ _ F R' _ w3 c3 s3 n3
end
structure Fk (P:Program) (w:World) (K:PySem.W.Frag) (mg:Str->Option Value) (base:Heap) (T:Addr) (x:Str) (ps:List Str) {A PO τ:Type} [Sls A] [Sls PO] [Ow τ] (wf:Wf A τ PO) (k:Nat) where
 f:Addr
 fd:FuncData
 ok:FnOk P w K mg base (CX1 P w) k f fd ps (spW T wf)
 at_:mg x=some (.ref f)
 kp:PySem.W.keepIn K (.ref f)=true
 bd:Binds K fd ps []
structure Fm (P:Program) (w:World) (K:PySem.W.Frag) (mg:Str->Option Value) (base:Heap) (T C:Addr) (m:Str) (ps:List Str) {A PO τ:Type} [Sls A] [Sls PO] [Ow τ] (wf:Wf A τ PO) (k:Nat) where
 f:Addr
 fd:FuncData
 ok:FnOk P w K mg base (CX1 P w) k f fd ps (spW T wf)
 me:Meth K C m f
 bd:Binds K fd ps []
section
variable {P:Program} {w:World} {K:PySem.W.Frag} {mg:Str->Option Value} {base:Heap} {T C f:Addr} {fd:FuncData} {x:Str} {ps:List Str} {A PO τ:Type} [Sls A] [Sls PO] [Ow τ] {wf:Wf A τ PO} {j k:Nat}
def Fk.up (h:Fk P w K mg base T x ps wf j) (l:j<=k):Fk P w K mg base T x ps wf k:=⟨h.f,h.fd,h.ok.mono l,h.at_,h.kp,h.bd⟩
def Fm.up (h:Fm P w K mg base T C x ps wf j) (l:j<=k):Fm P w K mg base T C x ps wf k:=⟨h.f,h.fd,h.ok.mono l,h.me,h.bd⟩
end
section
variable {X:Cx} {E:XK} {T:Addr} {D:Type} [Sls D] {pos:Pos}
theorem j0o {P PO B Lc τ:Type} [Sls P] [Sls PO] [Sls B] [Sls Lc] [Ow τ] [Lb Lc τ PO] {mrg:B->Lc->PO->D} {wf:Wf P τ PO} {wa:D->(P->B->Lc->Prop)->(Addr->D->Prop)->Prop} {k:Nat} {ps:List Str} {x:Str} {p:Pos} {e:Expr} {es:List Expr}
  (h:Fk X.prog X.w X.K X.mg X.base T x ps wf k) (hr:Room k X.A) (hg:Gl X x) (hx:j2u (CX1 X.prog X.w) X E) (ha:AL2 X E T (e :: es) mrg wa) (hdb:(x == ("__debug__":Str))=false:=by decide) (he:starEach (e :: es) X.env=(false,eval e X.env) :: starEach es X.env:=by rfl) (hpl:(backTo pos (starEach es X.env)).any (·.1)=false:=by rfl) :
  EO X E T (.Call (.Name x p) (e :: es) [] pos) (fun (d:D) (Kn:τ->D->Prop) Ke=>wa d (fun p b l=>wf p (fun x p'=>Kn x (mrg b l p')) (fun C p'=>Ke C (mrg b l p'))) Ke):=j6d h.ok hr hg h.at_ h.kp h.bd hx ha hdb he hpl
variable {C:Addr} {fl:Bool} {x:Str} {p1:Pos} {τ:Type} [Ow τ]
theorem j2w {m:Str} {apos:Pos} {e:Expr} {es:List Expr} (i:Nat) {D1 P QO B B1 Lc:Type} [Sls D1] [Sls P] [Sls QO] [Sls B] [Sls B1] [Sls Lc] [Lb Lc τ (Bd C fl×QO)] {mrg:B->Lc->QO->D} {wr:D->(P->B->Lc->Prop)->(Addr->D->Prop)->Prop}
  {wf:Wf (Bd C fl×P) τ (Bd C fl×QO)} [A0:At i D (Bd C fl) D1] [A:At i B (Bd C fl) B1] [U:Pt i B1 (Bd C fl) B] {k:Nat} {ps:List Str} {pl:Sem Bool}
  (h:Fm X.prog X.w X.K X.mg X.base T C m ps wf k) (hr:Room k X.A) (cl:Cls X.K C) (hx:j2u (CX1 X.prog X.w) X E) (hn:PE X (.Name x p1) (tVar i)) (ha:AL2 X E T (e :: es) mrg wr) (hl:∀ a b c d u,(j7e a b c d u fl).lookup m=none:=by intros;rfl)
  (h1:starEach (e :: es) X.env=(false,eval e X.env) :: starEach es X.env:=by rfl) (h2:(backTo pos (starEach es X.env)).any (·.1)=false:=by rfl)
  (h3:eval (.Call (.Attribute (.Name x p1) m apos) (e :: es) [] pos) X.env=(do
   let ov <- eval (.Name x p1) X.env
   standAt apos.atName
   let (f,first) <- holding [ov] (getMethod ov m pl)
   callWith pos f first (backTo pos (starEach (e :: es) X.env)) (backToKw pos (keywordEach [] X.env))):=by rfl) :
  EO X E T (.Call (.Attribute (.Name x p1) m apos) (e :: es) [] pos) (fun (d:D) (Kn:τ->D->Prop) Ke=>wr d (fun p b l=>wf (A.get b,p) (fun y p'=>Kn y (mrg (U.put (A.hole b) p'.1) l p'.2)) (fun C p'=>Ke C (mrg (U.put (A.hole b) p'.1) l p'.2))) Ke) :=
 w1q i h.ok hr cl h.me h.bd hx hn hl (fun t=>w4w hn cl h.me h.ok hr h.bd .nil hx t h1 h2 h3) ha
theorem w1t {m:Str} {apos:Pos} (i:Nat) {D1:Type} [Sls D1] {wf:Wf (Bd C fl×Unit) τ (Bd C fl×Unit)} [A:At i D (Bd C fl) D1] [U:Pt i D1 (Bd C fl) D] {k:Nat} {ps:List Str} {pl:Sem Bool}
  (h:Fm X.prog X.w X.K X.mg X.base T C m ps wf k) (hr:Room k X.A) (cl:Cls X.K C) (hx:j2u (CX1 X.prog X.w) X E) (hn:PE X (.Name x p1) (tVar i)) (hl:∀ a b c d u,(j7e a b c d u fl).lookup m=none:=by intros;rfl)
  (h3:eval (.Call (.Attribute (.Name x p1) m apos) [] [] pos) X.env=(do
   let ov <- eval (.Name x p1) X.env
   standAt apos.atName
   let (f,first) <- holding [ov] (getMethod ov m pl)
   callWith pos f first (backTo pos (starEach [] X.env)) (backToKw pos (keywordEach [] X.env))):=by rfl) :
  EO X E T (.Call (.Attribute (.Name x p1) m apos) [] [] pos) (fun (d:D) (Kn:τ->D->Prop) Ke=>wf (A.get d,()) (fun y p'=>Kn y (U.put (A.hole d) p'.1)) (fun C p'=>Ke C (U.put (A.hole d) p'.1))) :=
 w1r i h.ok hr cl h.me h.bd hx hn hl (w0p hn cl h.me h.ok hr h.bd .nil hx h3)
end
structure Dc (Y:Type) where
 l:List (Int×Y)
def PK {Y:Type} [Rep Y] (R:Rg) (H:Hp):List (Int×Y)->List (Key×V)->Prop:=Paired fun e u=>u.1=Sum.inl e.1/\rp R H e.2 u.2
section
variable {Y:Type} [Rep Y] {R R' L:Rg} {H H':Hp}
theorem w4t (e:Ext R R H R' H'):∀ {l:List (Int×Y)} {us:List (Key×V)},PK R H l us->PK R' H' l us
 | _,_,.nil=>.nil
 | _,_,.cons h t=>.cons ⟨h.1,Rep.st h.2 e⟩ (w4t e t)
theorem k6x {k:Int}:∀ {l:List (Int×Y)} {us:List (Key×V)},PK R H l us->(∀ b,lk l k=some b->∃ v,valV us (Sum.inl k)=some v/\rp R H b v)/\(lk l k=none->valV us (Sum.inl k)=none)
 | _,_,.nil=>⟨(fun b h=>by cases h),fun _=>rfl⟩
 | e :: l,u :: us,.cons h t=>by
  have i:=k6x (k:=k) t;by_cases q:e.1=k
  ·have e1:lk (e :: l) k=some e.2:=by unfold lk;rw [List.find?_cons,decide_eq_true q];rfl
   rw [e1];refine ⟨fun b hb=>?_,(fun z=>by cases z)⟩;cases hb;exact ⟨u.2,j3z (by rw [h.1,q]),h.2⟩
  ·have e1:lk (e :: l) k=lk l k:=by unfold lk;rw [List.find?_cons,decide_eq_false q]
   rw [e1,j30 (by rw [h.1];intro z;exact q (Sum.inl.inj z))];exact i
theorem k6y {k:Int} {l:List (Int×Y)} {us:List (Key×V)} (h:PK R H l us):(valV us (Sum.inl k)).isSome=(lk l k).isSome:=by
 have i:=k6x (k:=k) h
 cases e:lk l k with
 | none=>rw [i.2 e];rfl
 | some b=>obtain ⟨v,hv,_⟩:=i.1 b e;rw [hv];rfl
theorem w2k:∀ {l:List (Int×Y)} {us:List (Key×V)},PK R H l us->us.length=l.length
 | _,_,.nil=>rfl
 | _,_,.cons _ t=>by rw [List.length_cons,List.length_cons,w2k t]
theorem k6z:∀ {l:List (Int×Y)} {us:List (Key×V)},PK R H l us->us.map (·.1)=(l.map (·.1)).map Sum.inl
 | _,_,.nil=>rfl
 | e :: l,u :: us,.cons h t=>by rw [List.map_cons,List.map_cons,List.map_cons,h.1,k6z t]
theorem w2l {k:Int} {x:Y} {v:V} (r:rp R H x v):∀ {l:List (Int×Y)} {us:List (Key×V)},PK R H l us->PK R H (l++[(k,x)]) (us++[(Sum.inl k,v)])
 | _,_,.nil=>.cons ⟨rfl,r⟩ .nil
 | _,_,.cons h t=>.cons h (w2l r t)
theorem w2j {k:Int} {x:Y} {v:V} (r:rp R H x v):∀ {l:List (Int×Y)} {us:List (Key×V)},PK R H l us->PK R H (l.map fun e=>if e.1=k then (e.1,x) else e) (us.map fun kv=>if kv.1=Sum.inl k then (kv.1,v) else kv)
 | _,_,.nil=>.nil
 | e :: l,u :: us,.cons h t=>by
  refine .cons ?_ (w2j r t);dsimp only;by_cases q:e.1=k
  ·rw [if_pos q,if_pos (by rw [h.1,q])];exact ⟨h.1,r⟩
  ·rw [if_neg q,if_neg (by rw [h.1];intro z;exact q (Sum.inl.inj z))];exact h
theorem w7s {k:Int} {x:Y} {v:V} (r:rp R H x v) {l:List (Int×Y)} {us:List (Key×V)} (h:PK R H l us):PK R H (pk l k x) (putK us (Sum.inl k) v):=by
 unfold putK pk;rw [j4u,k6y h]
 cases (lk l k).isSome with
 | true=>rw [if_pos rfl,if_pos rfl];exact w2j r h
 | false=>rw [if_neg Bool.false_ne_true,if_neg Bool.false_ne_true];exact w2l r h
end
instance {Y:Type} [Rep Y]:Ow (Dc Y):=⟨fun F R H x v=>∃ a us,v=some (.ref a)/\(∀ b,F b↔b=a)/\H a=some (.dK us)/\PK R H x.l us,
 fun h e s n=>by
  obtain ⟨a,us,h1,h2,h3,h4⟩:=h
  exact ⟨a,us,h1,h2,e.keep a _ (n a ((h2 a).mpr rfl)) h3,w4t (e.wide s) h4⟩,
 fun h e=>by
  obtain ⟨a,us,h1,h2,h3,h4⟩:=h
  exact ⟨a,us,h1,fun b=>(e b).symm.trans (h2 b),h3,h4⟩⟩
instance {Y:Type} [Rep Y]:Hs (Dc Y):=⟨fun ⟨_,_,h,_⟩=>⟨_,h⟩⟩
section
variable {X:Cx} {E:XK} {T:Addr} {ms:List Nat} {n:Nat} {D PO τ:Type} [Sls D] [Sls PO] [Ow τ] {pos:Pos} {Y:Type} [Rep Y] {x:Str} {p1 p2:Pos}
theorem eo_dc:EO X E T (.Dict [] [] pos) (fun (d:D) (Kn:Dc Y->D->Prop) _=>Kn ⟨[]⟩ d):=by
 refine ⟨_,j87,fun d F R Z H Kn Ke Q s hw kn ke p hp=>?_⟩;obtain ⟨s1,c1,n1⟩:=s.new (.dK []) hp;have nF:¬F p:=fun z=>n1 (s.sub p z);have ex:Ext (fun _=>False) R H (fun a=>R a\/a=p) (upd H p (.dK [])):=⟨fun b o _ h=>by rw [j0g (j0m h hp)];exact h,fun a h=>h.elim .inl fun q=>.inr (by rw [q];exact hp)⟩;refine kn _ d _ (fun a=>a=p) F (fun a=>R a\/a=p) _ hw ⟨c1.keep,ex.new,fun a h=>h.elim (fun q=>.inr (by rw [q];exact hp)) .inl,fun a h _=>.inl h⟩ ⟨Sls.st s.rel ex (fun _ z=>z.elim) (fun _ _ z=>z),fun a h=>.inl (s.sub a h),fun a h=>?_,s1.tab,.inl s.tabR,s.tabF⟩ ⟨⟨p,[],rfl,fun b=>Iff.rfl,j0h,.nil⟩,fun a h=>.inr h,fun a h k=>nF (by rw [<- h];exact k),fun h=>n1 (by rw [<- h];exact s.tabR)⟩;rcases h with h | h
 ·exact s1.liv a h
 ·rw [h,j0h];simp
theorem j7g {i:Nat} {D0:Type} [Sls D0] [A:At i D (Dc Y) D0] {F R:Rg} {H:Hp} {d:D} {Z:St} (s:Stt T F R H d Z):∃ a us,Z[i]?=some (some (.ref a))/\H a=some (.dK us)/\PK R H (A.get d).l us:=by obtain ⟨v,F1,F2,h1,h2,⟨a,us,rfl,h4,h5,h6⟩,h7⟩:=A.take s.rel;exact ⟨a,us,h1,h5,h6⟩
theorem w86 {i:Nat} {D0:Type} [Sls D0] [A:At i D (Dc Y) D0] [U:Pt i D0 (Dc Y) D] {F R:Rg} {H:Hp} {d:D} {Z:St} (s:Stt T F R H d Z):∃ a us,Z[i]?=some (some (.ref a))/\H a=some (.dK us)/\PK R H (A.get d).l us /\
  ∀ (ys:List (Int×Y)) (ws:List (Key×V)),PK R H ys ws->Ch T F R H F R (upd H a (.dK ws))/\Stt T F R (upd H a (.dK ws)) (U.put (A.hole d) ⟨ys⟩) Z:=by
 obtain ⟨v,F1,F2,h1,h2,⟨a,us,rfl,h4,h5,h6⟩,h7⟩:=A.take s.rel;have aF:F a:=(h2.all a).mpr (.inl ((h4 a).mpr rfl));have aT:a≠T:=fun z=>s.tabF (by rw [<- z];exact aF);refine ⟨a,us,h1,h5,h6,fun ys ws hp=>?_⟩;have ex:=j4i (F:=F) (R:=R) (H:=H) (a:=a) (o:=.dK ws);have gs:∀ c,c=a->R c:=fun c z=>by rw [z];exact s.sub a aF
 have k:∀ b u,b≠a->H b=some u->upd H a (.dK ws) b=some u:=fun b u z e=>by rw [j0g z];exact e
 refine ⟨⟨fun b o n _ e=>k b o (fun z=>n (by rw [z];exact aF)) e,fun _ h=>.inl h,fun _ h=>.inl h,fun _ h _=>h⟩,Pt.same (A:=U) (Sls.st h7 ex gs fun c z q=>h2.dis c ((h4 c).mpr q) z) h1 h2 ⟨a,ws,rfl,h4,j0h,w4t (ex.wide gs) hp⟩,s.sub,fun c z=>?_,?_,s.tabR,s.tabF⟩
 ·by_cases e:c=a
  ·rw [e,j0h];simp
  ·rw [j0g e];exact s.liv c z
 ·obtain ⟨ps,e,t⟩:=s.tab;exact ⟨ps,k _ _ (fun z=>aT z.symm) e,t⟩
theorem w3g {a:Expr} (i:Nat) {D0:Type} [Sls D0] [A:At i D (Dc Y) D0] {wk:Wf D Int D} (hu:X.A.units + 1 < cLine) (hk:EW X E T a wk) (hn:PE X (.Name x p1) (tVar i)) (hm:behindInMarks .In (.Name x p1)=false:=by with_unfolding_all rfl) :
  TW X E T (.Compare a [.In] [.Name x p1] pos) (fun (d:D) (Kn:Bool->D->Prop) Ke=>wk d (fun k d1=>Kn (lk (A.get d1).l k).isSome d1) Ke):=by
 obtain ⟨ta,a1,a2⟩:=hk;refine ⟨_,k6r (k64 hu a1 hn) hm,fun d F R Z H Kn Ke Q s hw kn ke=>a2 d F R Z H _ Ke _ s hw (fun k d1 u F1 R1 H1 q1 c1 s1 r1=>?_) ke⟩;have r1:u=V.int k:=r1;subst r1;obtain ⟨y,us,g1,g2,g3⟩:=j7g (i:=i) s1;refine ⟨_,g1,y,_,rfl,DGet.k (k:=Sum.inl k) g2,_,rfl,?_⟩;rw [k6y g3];exact kn _ d1 F1 R1 H1 q1 c1 s1
theorem k30 {a:Expr} (i:Nat) {D0:Type} [Sls D0] [A:At i D (Dc Y) D0] {wk:Wf D Int D} (hu:X.A.units + 1 < cLine) (hn:PE X (.Name x p1) (tVar i)) (hk:EW X E T a wk) (hs:NoSl a:=by intro _ _;rfl) :
  EW X E T (.Subscript (.Name x p1) a pos) (fun (d:D) (Kn:Y->D->Prop) Ke=>wk d (fun k d1=>∃ v,lk (A.get d1).l k=some v/\Kn v d1) Ke):=by
 obtain ⟨ta,a1,a2⟩:=hk;refine ⟨_,k11 hu hn a1 hs,fun d F R Z H Kn Ke Q s hw kn ke=>?_⟩;obtain ⟨y0,us0,h1,_,_⟩:=j7g (i:=i) s;refine ⟨_,h1,a2 d F R Z H _ Ke _ s hw (fun k d1 u F1 R1 H1 q1 c1 s1 r1=>?_) ke⟩;have r1:u=V.int k:=r1;subst r1;obtain ⟨y,us,g1,g2,g3⟩:=j7g (i:=i) s1;rw [h1] at g1;cases g1;obtain ⟨z,z1,z2⟩:=q1;obtain ⟨v,v1,v2⟩:=(k6x g3).1 z z1;have g:=DGet.k (k:=Sum.inl k) g2;rw [v1] at g;exact ⟨_,v,rfl,g,kn z d1 v F1 R1 H1 z2 c1 s1 v2⟩
theorem w0c {a e:Expr} {p3:Pos} (i:Nat) {D0:Type} [Sls D0] [A:At i D (Dc Y) D0] [U:Pt i D0 (Dc Y) D] [J:Pj D PO n] {wk:Wf D Int D} {we:Wf D Y D} (hu:X.A.units + 1 < cLine) (hn:PE X (.Name x p1) (tVar i)) (hk:EW X E T a wk) (he:EW X E T e we)
  (hs:swapsWith e (some (.Subscript (.Name x p1) a p3)) pos.line X.env=pure false:=by rfl) :
  S1 X E T ms n (.Assign [.Subscript (.Name x p1) a p3] e pos) (fun (d:D) (Kn:D->Prop) (Kr:τ->PO->Prop) Ke=>we d (fun v d1=>wk d1 (fun k d2=>(A.get d2).l.length < sizeLine/\Kn (U.put (A.hole d2) ⟨pk (A.get d2).l k v⟩)) fun C d'=>Ke C (J.pj d')) fun C d'=>Ke C (J.pj d')):=by
 obtain ⟨ta,a1,a2⟩:=hk;obtain ⟨te,b1,b2⟩:=he
 have kp:∀ {F R F' R':Rg} {H H':Hp} {C y:Addr} {d':D} {Z:St} {Ke:Addr->PO->Prop},(∀ C y p' F' R' H',Ke C p'->Ch T F R H F' R' H'->Stt T F' R' H' p' (Z.take n)->E (.ref C) (some y) H')->Ke C (J.pj d')->Ch T F R H F' R' H'->Stt T F' R' H' d' Z->E (.ref C) (some y) H':=fun ke q c s'=>by obtain ⟨G,g1,g2⟩:=j1o (PO:=PO) s';exact ke _ _ _ G _ _ q (c.less g1) g2
 refine ⟨_,k1y hu hn a1 b1 hs,fun d F R Z H Kn Kr Ke En s hw kn kr ke=>b2 d F R Z H _ _ _ s hw (fun v d1 u F1 R1 H1 q1 c1 s1 r1=>?_) fun C y d' F' R' H' q c s'=>kp ke q c s'⟩;obtain ⟨y0,us0,h1,_,_⟩:=j7g (i:=i) s1;refine ⟨_,h1,a2 d1 F1 R1 Z H1 _ _ _ s1 q1 (fun k d2 w F2 R2 H2 q2 c2 s2 r2=>?_) fun C y d' F' R' H' q c s'=>kp ke q (Ch.trans s s1.tab c1 c) s'⟩;have r2:w=V.int k:=r2;subst r2;obtain ⟨y,us,g1,g2,g3,g4⟩:=w86 (i:=i) s2;rw [h1] at g1;cases g1;obtain ⟨c3,s3⟩:=g4 _ _ (w7s (k:=k) (s1.val c2 r1) g3);exact ⟨_,_,rfl,DPut.k (k:=Sum.inl k) g2 (by rw [w2k g3];exact q2.1),kn _ F2 R2 _ Z q2.2 (Ch.trans s s1.tab c1 (Ch.trans s1 s2.tab c2 c3)) s3 (Ag.refl _ _)⟩
theorem k2t {p3:Pos} (i:Nat) {D0:Type} [Sls D0] [A:At i D (Dc Y) D0] (hc:X.calm=true) (hg:Gl X "sorted") (hm:X.mg "sorted"=none) (hn:PE X (.Name x p1) (tVar i)) (hs:starEach [.Name x p1] X.env=(false,eval (.Name x p1) X.env) :: starEach [] X.env:=by rfl) :
  EO X E T (.Call (.Name "sorted" p3) [.Name x p1] [] pos) (fun (d:D) (Kn:OL Int->D->Prop) _=>(A.get d).l.length < 64/\Kn ⟨srt ((A.get d).l.map (·.1))⟩ d):=by
 refine ⟨_,j1l (k05 hc) hg hm PyProof.Rows.boot_sorted (j0k hn j02 hs) (he:=hs),fun d F R Z H Kn Ke Q s hw kn ke=>?_⟩;obtain ⟨y,us,g1,g2,g3⟩:=j7g (i:=i) s;refine ⟨_,g1,y,us,(A.get d).l.map (·.1),rfl,g2,k6z g3,by rw [List.length_map];exact hw.1,fun l ns hl pn sn=>?_⟩;rw [j7v pn sn];obtain ⟨R',c3,s3,n3⟩:=j3i s hl (j10 (R:=R) (H:=H) (srt ((A.get d).l.map (·.1))));exact kn _ d _ _ F R' _ hw.2 c3 s3 n3
end
section
variable {X:Cx} {E:XK} {T:Addr} {ms:List Nat} {n:Nat} {D PO τ:Type} [Sls D] [Sls PO] [Ow τ] {pos:Pos} {Y β:Type} [Rep Y] [Rep β]
theorem j6a {a:Expr} {wa:Wf D (List Y) D} (ha:EW X E T a wa) (he:∀ whole,isTrue a X.env whole=(do let v <- whole;standAt a.pos;holding [v] (truthy v)):=by intro _;rfl):TW X E T a (fun (d:D) Kn Ke=>wa d (fun xs d1=>Kn (!xs.isEmpty) d1) Ke):=by
 obtain ⟨ta,a1,a2⟩:=ha;refine ⟨_,k3j a1 he,fun d F R Z H Kn Ke Q s hw kn ke=>a2 d F R Z H _ Ke _ s hw (fun xs d1 u F1 R1 H1 q1 c1 s1 r1=>?_) ke⟩;obtain ⟨b,vs,rfl,_,h3,h4⟩:=r1;refine ⟨!vs.isEmpty,.inl ⟨vs,SqL.of h3,rfl⟩,?_⟩;have:vs.isEmpty=xs.isEmpty:=by cases h4<;>rfl
 rw [this];exact kn _ d1 F1 R1 H1 q1 c1 s1
theorem w2f {tg e:Expr} {D1:Type} [Sls D1] [J:Pj D PO n] {g:D->Y->D1} {we:Wf D Y D} (hg:GW X T ms tg g) (he:EW X E T e we)
  (hb:∀ {te:TE} {t:TG},PE X e te->PG X tg t->PS X (.Assign [tg] e pos) (tAsg te t):=by intro te t h1 h2;exact k0f h1 h2) :
  S1 X E T ms n (.Assign [tg] e pos) (fun (d:D) (Kn:D1->Prop) (Kr:τ->PO->Prop) Ke=>we d (fun x d1=>Kn (g d1 x)) fun C d'=>Ke C (J.pj d')):=by
 obtain ⟨t,h1,h2⟩:=he;obtain ⟨tt,g1,g2⟩:=hg;refine ⟨_,hb h1 g1,fun d F R Z H Kn Kr Ke En s hw kn kr ke=>h2 d F R Z H _ _ _ s hw (fun x d1 v F1 R1 H1 q1 c1 s1 r1=>?_) fun C y d' F' R' H' q c s'=>?_⟩
 ·exact g2 d1 F1 R1 Z H1 x v _ s1 r1 fun F' Z' f1 s2 ag=>kn _ F' R1 H1 Z' q1 (c1.less f1) s2 ag
 ·obtain ⟨G,g1,g2⟩:=j1o (PO:=PO) s';exact ke C y _ G R' H' q (c.less g1) g2
variable {x y:Str} {p1 p2 q1 q2 q3 q4 q5 q6:Pos}
theorem j4w {i:Nat} {D1:Type} [Sls D1] [A:At i D (List Int) D1] {F R:Rg} {H:Hp} {d:D} {Z:St} (s:Stt T F R H d Z):∃ a,Z[i]?=some (some (.ref a))/\H a=some (.lst ((A.get d).map V.int)):=by obtain ⟨v,F1,F2,h1,_,⟨_,u,rfl,a,vs,rfl,_,h3,h4⟩,_⟩:=A.take s.rel;rw [j1b h4] at h3;exact ⟨a,h1,h3⟩
theorem w56 (i j:Nat) {D1 D2:Type} [Sls D1] [Sls D2] [A:At i D (List Int) D1] [B:At j D (List Int) D2] (hc:X.calm=true) (hgs:Gl X "sorted") (hms:X.mg "sorted"=none) (hg:Gl X "set") (hm:X.mg "set"=none) (hn:PE X (.Name x p1) (tVar i)) (hn2:PE X (.Name y p2) (tVar j))
  (hs1:starEach [.Name x p1] X.env=(false,eval (.Name x p1) X.env) :: starEach [] X.env:=by rfl) (hs2:starEach [.Name y p2] X.env=(false,eval (.Name y p2) X.env) :: starEach [] X.env:=by rfl)
  (hs3:starEach [.BinOp (.Call (.Name "set" q2) [.Name x p1] [] q3) .BitXor (.Call (.Name "set" q4) [.Name y p2] [] q5) q6] X.env=(false,eval (.BinOp (.Call (.Name "set" q2) [.Name x p1] [] q3) .BitXor (.Call (.Name "set" q4) [.Name y p2] [] q5) q6) X.env) :: starEach [] X.env:=by rfl) :
  EO X E T (.Call (.Name "sorted" q1) [.BinOp (.Call (.Name "set" q2) [.Name x p1] [] q3) .BitXor (.Call (.Name "set" q4) [.Name y p2] [] q5) q6] [] pos)
   (fun (d:D) (Kn:OL Int->D->Prop) _=>(Ris (A.get d)/\Ris (B.get d)/\∃ U:List Int,U.length < 64/\(∀ k∈A.get d,k∈U)/\∀ k∈B.get d,k∈U)/\Kn ⟨xr (A.get d) (B.get d)⟩ d):=by
 refine ⟨_,j1l (j54 hc) hgs hms PyProof.Rows.boot_sorted (j0k (j2i w46 (j15 (j6e hc) hg hm PyProof.Rows.boot_set (j0k hn j02 hs1) (he:=hs1)) (j15 (j6e hc) hg hm PyProof.Rows.boot_set (j0k hn2 j02 hs2) (he:=hs2))) j02 hs3) (he:=hs3),fun d F R Z H Kn Ke Q s hw kn ke=>?_⟩;obtain ⟨⟨ra,rb,U,hU,ua,ub⟩,hk⟩:=hw;have la:=j1h ra ua;have lb:=j1h rb ub;obtain ⟨a,a1,a2⟩:=j4w (i:=i) s;refine ⟨_,a1,a,A.get d,rfl,SqL.of a2,by omega,fun p ka hp nda lka ma=>?_⟩;obtain ⟨s1,c1,_⟩:=s.new (setO X.w p ka) hp;obtain ⟨b,b1,b2⟩:=j4w (i:=j) s1;refine ⟨_,b1,b,B.get d,rfl,SqL.of b2,by omega,fun q kb hq ndb lkb mb=>?_⟩;obtain ⟨s2,c2,_⟩:=s1.new (setO X.w q kb) hq;have npq:p≠q:=j0m j0h hq;refine ⟨p,q,ka,kb,rfl,rfl,by rw [j0g npq];exact j0h,j0h,by omega,fun r kc hr ndc mc=>?_⟩;obtain ⟨s3,c3,_⟩:=s2.new (setO X.w r kc) hr
 have mm:∀ k,k∈kc↔k∈xr (A.get d) (B.get d):=fun k=>by rw [mc,j5v (j0l rb),ma,mb];by_cases h1:k∈A.get d<;>by_cases h2:k∈B.get d<;>simp [h1,h2]
 have lc:kc.length < 64:=by
  have:=SX.j28 kc U ndc fun k hk=>by rw [mc,ma,mb] at hk;exact hk.elim (fun z=>ub k z.1) fun z=>ua k z.2
  omega
 refine ⟨r,kc,rfl,j0h,lc,fun l ns hl pn sn=>?_⟩;rw [j7v pn sn,j7u ndc mm (j1x ra)];obtain ⟨R',c4,s4,n4⟩:=j3i s3 hl (j10 (R:=R) (xr (A.get d) (B.get d)));exact kn _ d _ _ F R' _ hk (Ch.trans s s1.tab c1 (Ch.trans s1 s2.tab c2 (Ch.trans s2 s3.tab c3 c4))) s4 n4
theorem w55 (i j:Nat) {D1 D2:Type} [Sls D1] [Sls D2] [A:At i D (List Int) D1] [B:At j D (List Int) D2] (hc:X.calm=true) (hgs:Gl X "len") (hms:X.mg "len"=none) (hg:Gl X "set") (hm:X.mg "set"=none) (hn:PE X (.Name x p1) (tVar i)) (hn2:PE X (.Name y p2) (tVar j))
  (hs1:starEach [.Name x p1] X.env=(false,eval (.Name x p1) X.env) :: starEach [] X.env:=by rfl) (hs2:starEach [.Name y p2] X.env=(false,eval (.Name y p2) X.env) :: starEach [] X.env:=by rfl)
  (hs3:starEach [.BinOp (.Call (.Name "set" q2) [.Name x p1] [] q3) .BitAnd (.Call (.Name "set" q4) [.Name y p2] [] q5) q6] X.env=(false,eval (.BinOp (.Call (.Name "set" q2) [.Name x p1] [] q3) .BitAnd (.Call (.Name "set" q4) [.Name y p2] [] q5) q6) X.env) :: starEach [] X.env:=by rfl) :
  EW X E T (.Call (.Name "len" q1) [.BinOp (.Call (.Name "set" q2) [.Name x p1] [] q3) .BitAnd (.Call (.Name "set" q4) [.Name y p2] [] q5) q6] [] pos)
   (fun (d:D) (Kn:Int->D->Prop) _=>((A.get d).Nodup/\(A.get d).length<=126/\(B.get d).length<=126)/\Kn (((A.get d).filter fun k=>decide (k∈B.get d)).length:Int) d):=by
 refine ⟨_,j1l k9g hgs hms PySem.boot_len (j0k (j2i w47 (j15 (j6e hc) hg hm PyProof.Rows.boot_set (j0k hn j02 hs1) (he:=hs1)) (j15 (j6e hc) hg hm PyProof.Rows.boot_set (j0k hn2 j02 hs2) (he:=hs2))) j02 hs3) (he:=hs3),fun d F R Z H Kn Ke Q s hw kn ke=>?_⟩;obtain ⟨⟨na,la,lb⟩,hk⟩:=hw;obtain ⟨a,a1,a2⟩:=j4w (i:=i) s;refine ⟨_,a1,a,A.get d,rfl,SqL.of a2,la,fun p ka hp nda lka ma=>?_⟩;obtain ⟨s1,c1,_⟩:=s.new (setO X.w p ka) hp;obtain ⟨b,b1,b2⟩:=j4w (i:=j) s1;refine ⟨_,b1,b,B.get d,rfl,SqL.of b2,lb,fun q kb hq ndb lkb mb=>?_⟩;obtain ⟨s2,c2,_⟩:=s1.new (setO X.w q kb) hq;have npq:p≠q:=j0m j0h hq;refine ⟨p,q,ka,kb,rfl,rfl,by rw [j0g npq];exact j0h,j0h,npq,by omega,by omega,fun r kc hr ndc mc=>?_⟩;obtain ⟨s3,c3,_⟩:=s2.new (setO X.w r kc) hr;have e:kc.length=((A.get d).filter fun k=>decide (k∈B.get d)).length:=(j1q ndc (na.filter _) fun k=>by rw [mc,ma,mb,List.mem_filter,decide_eq_true_eq]).length_eq;refine ⟨r,kc,rfl,j0h,?_⟩;rw [e];exact kn _ d _ F R _ hk (Ch.trans s s1.tab c1 (Ch.trans s1 s2.tab c2 c3)) s3 rfl
end
structure Pq (Y β:Type) where
 a:Y
 b:List β
structure Oo (Y:Type) where
 o:Option (List Y)
instance {Y β:Type} [Rep Y] [Rep β]:Ow (Pq Y β):=⟨fun F R H x v=>∃ p u w,v=some (.ref p)/\¬R p/\H p=some (.tup [u,w])/\rp R H x.a u/\sl F R H (OL.mk x.b) (some w),
 fun h e s n=>by
  obtain ⟨p,u,w,h1,h2,h3,h4,h5⟩:=h
  exact ⟨p,u,w,h1,(e.wide s).not h2 h3,e.keep p _ (fun z=>h2 (s p z)) h3,Rep.st h4 (e.wide s),Ow.st h5 e s n⟩,
 fun h e=>by
  obtain ⟨p,u,w,h1,h2,h3,h4,h5⟩:=h
  exact ⟨p,u,w,h1,h2,h3,h4,Ow.fq h5 e⟩⟩
def slO {Y:Type} [Rep Y] (F R:Rg) (H:Hp) (x:Option (List Y)) (v:Option V):Prop:=match x with
 | none=>v=some .non/\∀ a,¬F a
 | some l=>sl F R H (OL.mk l) v
instance {Y:Type} [Rep Y]:Ow (Oo Y):=⟨fun F R H x v=>slO F R H x.o v,
 fun {F G R H R' H' x v} h e s n=>by
  cases x with
  | mk o =>
   cases o with
   | none=>exact h
   | some l=>exact Ow.st (τ:=OL Y) h e s n,
 fun {F F' R H x v} h e=>by
  cases x with
  | mk o =>
   cases o with
   | none=>exact ⟨h.1,fun a z=>h.2 a ((e a).mpr z)⟩
   | some l=>exact Ow.fq (τ:=OL Y) h e⟩
theorem k3q {Y:Type} [Rep Y] {F R:Rg} {H:Hp} {x:Oo Y} {v:Option V} (h:sl F R H x v):∃ u,v=some u/\(u=.non/\x.o=none/\(∀ a,¬F a)\/∃ a vs l,u=.ref a/\x.o=some l/\(∀ b,F b↔b=a)/\H a=some (.lst vs)/\Paired (rp R H) l vs):=by
 cases x with
 | mk o =>
  cases o with
  | none=>exact ⟨_,h.1,.inl ⟨rfl,rfl,h.2⟩⟩
  | some l =>
   obtain ⟨a,vs,h1,h2,h3,h4⟩:=h;exact ⟨_,h1,.inr ⟨a,vs,l,rfl,rfl,h2,h3,h4⟩⟩
instance {Y:Type} [Rep Y] [Nol Y]:Frl (Oo Y):=⟨fun {F R L H x v} h k=>by
 cases x with
 | mk o =>
  cases o with
  | none=>exact h
  | some l=>exact Frl.fr (τ:=OL Y) h k⟩
theorem k7l {Y:Type} [Rep Y] {F R L:Rg} {H:Hp} {x:Oo Y} {u:V} (h:sl F R H x (some u)) (f:∀ a,F a->L a):rp (Wo R L) H x.o u:=by
 cases x with
 | mk o =>
  cases o with
  | none=>exact Option.some.inj h.1
  | some l =>
   obtain ⟨a,vs,h1,h2,h3,h4⟩:=h;cases h1;exact ⟨(fun z=>by cases z),a,vs,rfl,fun z=>z.2 (f a ((h2 a).mpr rfl)),h3,j05 ((j46 R L H).wide fun _ z=>z.elim) h4⟩
instance {Y P:Type} [Rep Y] [Sls P] [LsO P]:LsO (Oo Y×P):=⟨fun {F R H x v} h a z=>by
 obtain ⟨v,Z',F1,F2,h1,h2,h3,h4⟩:=h;rcases (h2.all a).mp z with q | q
 ·obtain ⟨u,_,k⟩:=k3q h3;rcases k with ⟨_,_,n⟩ | ⟨b,vs,l,_,_,f,g,_⟩
  ·exact absurd q (n a)
  ·rw [(f a).mp q];exact ⟨vs,g⟩
 ·exact LsO.ls h4 a q⟩
section
variable {X:Cx} {E:XK} {T:Addr} {ms:List Nat} {n:Nat} {D PO τ:Type} [Sls D] [Sls PO] [Ow τ] {pos:Pos} {Y β:Type} [Rep Y] [Rep β]
theorem k1c {x:Str} {es:List Expr} {i:Nat} {D1 P QO B B1 Lc:Type} [Sls D1] [Sls P] [Sls QO] [Sls B] [Sls B1] [Sls Lc] {mrg:B->Lc->QO->D} {wr:D->(P->B->Lc->Prop)->(Addr->D->Prop)->Prop}
  [A0:At i D (Oo Y) D1] [A:At i B (Oo Y) B1] [U:Pt i B1 (Oo Y) B] (he:PE X (.Name x pos) (tVar i)) (hr:AL2 X E T es mrg wr) (hs:starEach (.Name x pos :: es) X.env=(false,eval (.Name x pos) X.env) :: starEach es X.env:=by rfl) :
  AL2 X E T (.Name x pos :: es) (fun (b:B1) (l:Oo Y×Lc) (p:Un×QO)=>mrg (U.put b l.1) l.2 p.2) (fun (d:D) (Kn:Option (List Y)×P->B1->Oo Y×Lc->Prop) Ke=>wr d (fun p b l=>Kn ((A.get b).o,p) (A.hole b) (A.get b,l)) Ke):=by
 obtain ⟨tr,b1,b2⟩:=hr;refine ⟨_,j0k he b1 hs,fun d F R Z H Kn Ke Q s hw kn ke=>?_⟩;obtain ⟨v,_,_,hv,_,hsl,_⟩:=A0.take s.rel;obtain ⟨u0,rfl,_⟩:=k3q hsl;refine ⟨_,hv,b2 d F R Z H _ Ke _ s hw (fun p b l vs us G1 G2 L F' R' H' q2 c2 s2 t2 h1 h2 hl k=>?_) ke⟩;obtain ⟨v',M1,M2,z1,z2,z3,z4⟩:=A.take h2;rw [hv] at z1;cases z1;have m1:∀ a,M1 a->G2 a:=fun a m=>(z2.all a).mpr (.inl m);have m2:∀ a,M2 a->G2 a:=fun a m=>(z2.all a).mpr (.inr m);refine kn ((A.get b).o,p) (A.hole b) (A.get b,l) (u0 :: vs) (some u0 :: us) G1 M2 (fun c=>M1 c\/L c) F' R' H' q2 c2 s2 ⟨fun a=>?_,fun a m n=>t2.d12 a m (m2 a n),fun a m n=>?_,fun a m n=>?_⟩ ⟨some u0,vs.map some,fun _=>False,G1,rfl,j2l G1,⟨fun _ z=>z,_,rfl,k7l z3 fun _ z=>.inl z⟩,Sls.wk h1 (k8p fun _ z=>.inr z)⟩ z4 ⟨_,us,M1,L,rfl,⟨fun _=>Iff.rfl,fun a m n=>t2.d23 a (m1 a m) n⟩,z3,hl⟩ fun b' l' L1 L2 L3 F'' R'' H'' p' h3 h4 h5 t=>?_
 ·rw [t2.all,z2.all];exact ⟨fun z=>z.elim .inl fun z=>z.elim (fun z=>z.elim (fun q=>.inr (.inr (.inl q))) fun q=>.inr (.inl q)) fun q=>.inr (.inr (.inr q)),fun z=>z.elim .inl fun z=>z.elim (fun q=>.inr (.inl (.inr q))) fun z=>z.elim (fun q=>.inr (.inl (.inl q))) fun q=>.inr (.inr q)⟩
 ·rcases n with n | n
  ·exact t2.d12 a m (m1 a n)
  ·exact t2.d13 a m n
 ·rcases n with n | n
  ·exact z2.dis a n m
  ·exact t2.d23 a (m2 a m) n
 ·obtain ⟨v',Z',N1,N2,y1,y2,y3,y4⟩:=h3;injection y1 with _ y6;subst y6;obtain ⟨v2,Z2,K1,K2,x1,x2,x3,x4⟩:=h5;injection x1 with x5 x6;subst x5;subst x6;have tt:Two (fun a=>K1 a\/L2 a) K1 L2:=⟨fun _=>Iff.rfl,fun a m n=>t.d23 a n ((x2.all a).mpr (.inl m))⟩;refine k _ l'.2 L1 (fun a=>K1 a\/L2 a) K2 F'' R'' H'' p'.2 (Sls.fq y4 (j4f y2 y3)) (Pt.same (A:=U) h4 hv tt x3) x4 ⟨fun a=>?_,fun a m n=>?_,fun a m n=>t.d13 a m ((x2.all a).mpr (.inr n)),fun a m n=>?_⟩
  ·rw [t.all,x2.all];exact ⟨fun z=>z.elim .inl fun z=>z.elim (fun q=>.inr (.inl (.inr q))) fun z=>z.elim (fun q=>.inr (.inl (.inl q))) fun q=>.inr (.inr q),fun z=>z.elim .inl fun z=>z.elim (fun z=>z.elim (fun q=>.inr (.inr (.inl q))) fun q=>.inr (.inl q)) fun q=>.inr (.inr (.inr q))⟩
  ·rcases n with n | n
   ·exact t.d13 a m ((x2.all a).mpr (.inl n))
   ·exact t.d12 a m n
  ·rcases m with m | m
   ·exact x2.dis a m n
   ·exact t.d23 a m ((x2.all a).mpr (.inr n))
theorem k7s {γ τ1:Type} [Rep γ] [Ow τ1] {F R F1 F2 R':Rg} {H H':Hp} {d d':D} {Z:St} {x:τ1} {y:γ} {v:V} (s:Stt T F R H d Z) (c:Ch T F R H (fun a=>F1 a\/F2 a) R' H') (s':Stt T F2 R' H' d' Z) (n:Nw T F1 F2 R' H' x v) (hr:rp (Wo R' F1) H' y v) :
  ∃ R'',Ch T F R H F2 R'' H'/\Stt T F2 R'' H' d' Z/\rp R'' H' y v:=by
 have ex:=j46 R' F1 H';refine ⟨Wo R' F1,⟨c.keep,fun a h=>c.newR a h.1,fun a h=>c.newF a (.inr h),fun a h k=>⟨c.left a h k,fun z=>?_⟩⟩,⟨Sls.st s'.rel ex (fun _ z=>z.elim) (fun _ _ z=>z),fun a h=>⟨s'.sub a h,fun z=>n.dis a z h⟩,fun a h=>s'.liv a h.1,s'.tab,⟨s'.tabR,n.tab⟩,s'.tabF⟩,hr⟩;rcases c.newF a (.inl z) with q | q
 ·exact k q
 ·exact s.liv a h q
theorem w1n {e:Expr} {w:Wf D (Oo Y) D} (h:EO X E T e w):EW X E T e (fun (d:D) (Kn:Option (List Y)->D->Prop) Ke=>w d (fun x d'=>Kn x.o d') Ke):=by obtain ⟨t,h1,h2⟩:=h;refine ⟨t,h1,fun d F R Z H Kn Ke Q s hw kn ke=>h2 d F R Z H _ Ke Q s hw (fun x d' v F1 F2 R' H' q c s' n=>?_) ke⟩;obtain ⟨R'',c2,s2,r⟩:=k7s s c s' n (k7l n.is fun _ z=>z);exact kn x.o d' v F2 R'' H' q c2 s2 r
theorem w8x {e:Expr} {w:Wf D (Pq Y β) D} (h:EO X E T e w):EW X E T e (fun (d:D) (Kn:Y×List β->D->Prop) Ke=>w d (fun x d'=>Kn (x.a,x.b) d') Ke):=by
 obtain ⟨t,h1,h2⟩:=h;refine ⟨t,h1,fun d F R Z H Kn Ke Q s hw kn ke=>h2 d F R Z H _ Ke Q s hw (fun x d' v F1 F2 R' H' q c s' n=>?_) ke⟩
 have r:rp (Wo R' F1) H' (x.a,x.b) v:=by obtain ⟨p,u,w,h1,h2,h3,h4,a,vs,k1,k2,k3,k4⟩:=n.is;cases h1;cases k1;have ex:=(j46 R' F1 H').wide fun _ z=>z.elim;exact ⟨p,u,_,rfl,fun z=>h2 z.1,h3,Rep.st h4 ex,a,vs,rfl,fun z=>z.2 ((k2 a).mpr rfl),k3,j05 ex k4⟩
 obtain ⟨R'',c2,s2,r⟩:=k7s s c s' n r;exact kn _ d' v F2 R'' H' q c2 s2 r
theorem w22 {k:Nat}:EO X E T (.Constant .none k pos) (fun (d:D) (Kn:Oo Y->D->Prop) _=>Kn ⟨none⟩ d) :=
 ⟨_,k3n,fun d F R Z H Kn Ke Q s hw kn _=>kn ⟨none⟩ d _ (fun _=>False) F R H hw ⟨fun _ _ _ _ h=>h,fun _ h=>.inl h,fun a h=>.inl (h.elim (fun z=>z.elim) id),fun _ h _=>h⟩ s ⟨⟨rfl,fun _ z=>z⟩,fun _ z=>z.elim,fun _ z=>z.elim,fun z=>z⟩⟩
theorem k3h {x:Str} {p1:Pos} (i:Nat) {D' D0:Type} [Sls D'] [Sls D0] [A:At i D (OL Y) D0] [J:Pj D0 PO n] (hn:PE X (.Name x p1) (tVar i)):S1 X E T ms n (.Return (some (.Name x p1)) pos) (fun (d:D) (_:D'->Prop) (Kr:Oo Y->PO->Prop) _=>Kr ⟨some (A.get d).l⟩ (J.pj (A.hole d))):=by refine ⟨_,j6w hn,fun d F R Z H Kn Kr Ke En s hw kn kr ke=>?_⟩;obtain ⟨v,F1,F2,g1,g2,g3,g4⟩:=A.take s.rel;obtain ⟨u,rfl⟩:=Hs.has g3;have f2:∀ a,F2 a->F a:=fun a h=>(g2.all a).mpr (.inr h);obtain ⟨G,k1,k2⟩:=J.le g4;exact ⟨u,g1,kr _ _ u F1 G R H hw ⟨fun b o _ _ h=>h,fun _ h=>.inl h,fun a h=>.inl (h.elim (fun z=>(g2.all a).mpr (.inl z)) fun z=>f2 a (k1 a z)),fun _ h _=>h⟩ ⟨k2,fun a h=>s.sub a (f2 a (k1 a h)),s.liv,s.tab,s.tabR,fun h=>s.tabF (f2 T (k1 T h))⟩ ⟨g3,fun a h=>s.sub a ((g2.all a).mpr (.inl h)),fun a h z=>g2.dis a h (k1 a z),fun h=>s.tabF ((g2.all T).mpr (.inl h))⟩⟩
theorem w0b {x y:Str} {p1 p2 p3:Pos} {x1} (i j:Nat) {D' D1 D0:Type} [Sls D'] [Sls D1] [Sls D0] [B:At i D Y D1] [A:At j D (OL β) D0] [J:Pj D0 PO n] (hn:PE X (.Name x p1) (tVar i)) (hn2:PE X (.Name y p2) (tVar j))
  (h1:starEach [.Name x p1,.Name y p2] X.env=(false,eval (.Name x p1) X.env) :: starEach [.Name y p2] X.env:=by rfl) (h2:starEach [.Name y p2] X.env=(false,eval (.Name y p2) X.env) :: starEach [] X.env:=by rfl) :
  S1 X E T ms n (.Return (some (.Tuple [.Name x p1,.Name y p2] x1 p3)) pos) (fun (d:D) (_:D'->Prop) (Kr:Pq Y β->PO->Prop) _=>Kr ⟨B.get d,(A.get d).l⟩ (J.pj (A.hole d))):=by
 refine ⟨_,j6w (k62 (j0k hn (j0k hn2 j02 h2) h1)),fun d F R Z H Kn Kr Ke En s hw kn kr ke=>?_⟩;obtain ⟨_,_,_,b1,_,⟨_,ub,rfl,b3⟩,_⟩:=B.take s.rel;obtain ⟨_,_,_,a1,_,g0,_⟩:=A.take s.rel;obtain ⟨u,rfl⟩:=Hs.has g0;refine ⟨ub,b1,u,a1,(by show 2<=sizeLine;decide),fun p hp=>?_⟩;obtain ⟨s1,c1,n1⟩:=s.new (.tup [ub,u]) hp;have b4:=s.val c1 b3;obtain ⟨v,F1,F2,g1,g2,g3,g4⟩:=A.take s1.rel;rw [a1] at g1;cases g1;have f2:∀ a,F2 a->F a:=fun a h=>(g2.all a).mpr (.inr h);obtain ⟨G,k1,k2⟩:=J.le g4;exact kr ⟨B.get d,(A.get d).l⟩ _ (.ref p) F1 G R _ hw ⟨c1.keep,fun _ h=>.inl h,fun a h=>.inl (h.elim (fun z=>(g2.all a).mpr (.inl z)) fun z=>f2 a (k1 a z)),fun _ h _=>h⟩ ⟨k2,fun a h=>s.sub a (f2 a (k1 a h)),s1.liv,s1.tab,s.tabR,fun h=>s.tabF (f2 T (k1 T h))⟩ ⟨⟨p,ub,u,rfl,n1,j0h,b4,g3⟩,fun a h=>s.sub a ((g2.all a).mpr (.inl h)),fun a h z=>g2.dis a h (k1 a z),fun h=>s.tabF ((g2.all T).mpr (.inl h))⟩
theorem w36 {tg e:Expr} (i j:Nat) {τ0 τ1 D0 D1 D2 D3:Type} [Ow τ0] [Ow τ1] [Sls D0] [Sls D1] [Sls D2] [Sls D3] [A:At i D τ0 D0] [U:Pt i D0 Y D1] [A2:At j D1 τ1 D2] [U2:Pt j D2 (OL β) D3] [J:Pj D PO n] {we:Wf D (Pq Y β) D}
  (hp:PG X tg (gTup X.K 2 (k8k (k0w i) (k8k (k0w j) gNil)))) (hi:i∉ms) (hj:j∉ms) (he:EO X E T e we)
  (hb:∀ {te:TE} {t:TG},PE X e te->PG X tg t->PS X (.Assign [tg] e pos) (tAsg te t):=by intro te t h1 h2;exact k0f h1 h2) :
  S1 X E T ms n (.Assign [tg] e pos) (fun (d:D) (Kn:D3->Prop) (Kr:τ->PO->Prop) Ke=>we d (fun x d1=>Kn (U2.put (A2.hole (U.put (A.hole d1) x.a)) ⟨x.b⟩)) fun C d'=>Ke C (J.pj d')):=by
 obtain ⟨t,h1,h2⟩:=he;refine ⟨_,hb h1 hp,fun d F R Z H Kn Kr Ke En s hw kn kr ke=>h2 d F R Z H _ _ _ s hw (fun x d1 v F1 F2 R1 H1 q1 c1 s1 m1=>?_) fun C y d' F' R' H' q c s'=>?_⟩
 ·obtain ⟨p,u,w,e1,e2,e3,e4,e5⟩:=m1.is;cases e1;obtain ⟨F3,f1,f2⟩:=k3x (i:=i) s1 e4;have m2:Nw T F1 F3 R1 H1 (OL.mk x.b) w:=⟨e5,m1.sub,fun a h k=>m1.dis a h (f1 a k),m1.tab⟩;obtain ⟨G,k1,k2⟩:=w0i (i:=j) f2 m2;exact ⟨p,[u,w],rfl,SqT.of e3,rfl,u,[w],rfl,w,[],rfl,rfl,kn _ G R1 H1 _ q1 (c1.less fun a h=>(k1 a h).elim .inl fun z=>.inr (f1 a z)) k2 ((Ag.set hi).trans (Ag.set hj))⟩
 ·obtain ⟨G,g1,g2⟩:=j1o (PO:=PO) s';exact ke C y _ G R' H' q (c.less g1) g2
end
theorem w7d {T:Addr} {A PO PO' τ:Type} [Sls A] [Sls PO] [Sls PO'] [Ow τ] [G:Fg PO PO'] {wf:Wf A τ PO} {vs:List V} {H:Hp} {Q:VK} {E:XK} (h:spW T (fun (p:A) (Kn:τ->PO'->Prop) Ke=>wf p (fun x p'=>Kn x (G.fg p')) fun C p'=>Ke C (G.fg p')) vs H Q E):spW T wf vs H Q E:=by
 obtain ⟨F,R,p,Kn,Ke,s,hw,kn,ke⟩:=h
 have st:∀ {F' R':Rg} {H':Hp} {p':PO},Stt T F' R' H' p' (vs.map some)->∃ F2,(∀ a,F2 a->F' a)/\Stt T F2 R' H' (G.fg p') (vs.map some):=fun s'=>by obtain ⟨F2,f1,f2⟩:=G.le s'.rel;exact ⟨F2,f1,f2,fun a h=>s'.sub a (f1 a h),s'.liv,s'.tab,s'.tabR,fun h=>s'.tabF (f1 _ h)⟩
 refine ⟨F,R,p,_,_,s,hw,fun x p' v F1 F2 R' H' q c s' n=>?_,fun C y p' F' R' H' q c s'=>?_⟩
 ·obtain ⟨F3,f1,f2⟩:=st s';exact kn x _ v F1 F3 R' H' q (c.less fun a h=>h.elim .inl fun z=>.inr (f1 a z)) f2 ⟨n.is,n.sub,fun a h k=>n.dis a h (f1 a k),n.tab⟩
 ·obtain ⟨F3,f1,f2⟩:=st s';exact ke C y _ F3 R' H' q (c.less f1) f2
theorem j5o:∀ {ns:List Int} {us:List Value},Vals (ns.map V.int) us->∃ xs:List (Int×Tok),us=xs.map (fun p=>Value.int p.1 p.2)/\xs.map (·.1)=ns
 | [],_,.nil=>⟨[],rfl,rfl⟩
 | n :: ns,u :: us,.cons h t=>by obtain ⟨k,rfl⟩:=h;obtain ⟨xs,rfl,e⟩:=j5o (ns:=ns) t;exact ⟨(n,k) :: xs,rfl,by rw [List.map_cons,e]⟩
theorem best {c:Int->Int->Prop} [DecidableRel c] (f:Nat->Int) (r:∀ a,¬c a a) (t:∀ {a b d},¬c a b->c d b->¬c a d):∀ k,argBest (fun i j=>decide (c (f i) (f j))) k<=k/\∀ i,i<=k->¬c (f i) (f (argBest (fun i j=>decide (c (f i) (f j))) k))
 | 0=>⟨by rw [argBest.eq_1];exact Nat.le_refl _,fun i h=>by rw [argBest.eq_1,show i=0 by omega];exact r _⟩
 | k + 1=>by
  obtain ⟨h1,h2⟩:=best f r t k;rw [argBest.eq_2];by_cases q:c (f (k + 1)) (f (argBest (fun i j=>decide (c (f i) (f j))) k))
  ·rw [if_pos (decide_eq_true q)];refine ⟨Nat.le_refl _,fun i h=>?_⟩;by_cases e:i=k + 1
   ·rw [e];exact r _
   ·exact t (h2 i (by omega)) q
  ·rw [if_neg (by rw [decide_eq_false q];simp)];refine ⟨by omega,fun i h=>?_⟩;by_cases e:i=k + 1
   ·rw [e];exact q
   ·exact h2 i (by omega)
def w4i (X:Cx) (c:Int->Int->Prop) (xs:List V) (H:Hp) (Q:VK):Prop:=∃ (a:Addr) (ns:List Int),xs=[.ref a]/\SqL X.K H a (ns.map V.int)/\ns≠[]/\∀ m,m∈ns->(∀ x∈ns,¬c x m)->Q (.int m) H
theorem k37 {c:Int->Int->Prop} [DecidableRel c] {ns:List Int} {xs:List (Int×Tok)} (e:xs.map (·.1)=ns) (hn:ns≠[]) (r:∀ a,¬c a a) (t:∀ {a b d},¬c a b->c d b->¬c a d) {v:Value} (h:(intItems xs.toArray)[argBest (fun i j=>decide (c (numAt xs.toArray i) (numAt xs.toArray j))) (xs.toArray.size - 1)]?=some v):∃ m k,v=.int m k/\m∈ns/\∀ x∈ns,¬c x m:=by
 have l0:xs≠[]:=fun z=>hn (by rw [<- e,z];rfl);have l1:0 < xs.length:=List.length_pos_iff.mpr l0;obtain ⟨b1,b2⟩:=best (c:=c) (numAt xs.toArray) r t (xs.toArray.size - 1);generalize argBest (fun i j=>decide (c (numAt xs.toArray i) (numAt xs.toArray j))) (xs.toArray.size - 1)=b at h b1 b2;rw [List.size_toArray] at b1 b2;have lb:b < xs.length:=by omega
 have na:∀ i (hi:i < xs.length),numAt xs.toArray i=(xs[i]).1:=fun i hi=>by unfold numAt;rw [show xs.toArray[i]?=some xs[i] by simp [hi]];rfl
 have hv:v=.int (xs[b]).1 (xs[b]).2:=by unfold intItems at h;simp [lb] at h;exact h.symm
 refine ⟨_,_,hv,by rw [<- e];exact List.mem_map.mpr ⟨_,List.getElem_mem lb,rfl⟩,fun x hx=>?_⟩;rw [<- e] at hx;obtain ⟨y,hy,rfl⟩:=List.mem_map.mp hx;obtain ⟨i,hi,rfl⟩:=List.mem_iff_getElem.mp hy;have:=b2 i (by omega);rw [na i hi,na b lb] at this;exact this
section
variable {X:Cx}
theorem k06 (hc:X.calm=true):j3l X (.builtin "max") (w4i X (fun a b=>a > b)):=by
 intro pins s Z H xs us Q I r h;obtain ⟨a,ns,rfl,ha,hn,q⟩:=h;obtain ⟨u,rfl,rx⟩:=j56 r;cases rx;obtain ⟨its,rv,pl,hz⟩:=I.list ha;obtain ⟨xs,rfl,e⟩:=j5o rv;have el:(xs.map (fun p=>Value.int p.1 p.2)).toArray=intItems xs.toArray:=by unfold intItems;simp
 rw [el] at pl;have l0:xs≠[]:=fun z=>hn (by rw [<- e,z];rfl);refine max_intList (I.ok.hd hc) pl.isList (by rw [List.size_toArray];exact List.length_pos_iff.mpr l0) fun v h' tk hv k=>?_;obtain ⟨m,t,rfl,m1,m2⟩:=k37 (c:=fun a b=>a > b) e hn (fun a=>by omega) (fun h1 h2=>by omega) hv;exact ⟨.int m,H,I.kept k,⟨t,rfl⟩,q m m1 m2⟩
theorem k9f (hc:X.calm=true):j3l X (.builtin "min") (w4i X (fun a b=>a < b)):=by
 intro pins s Z H xs us Q I r h;obtain ⟨a,ns,rfl,ha,hn,q⟩:=h;obtain ⟨u,rfl,rx⟩:=j56 r;cases rx;obtain ⟨its,rv,pl,hz⟩:=I.list ha;obtain ⟨xs,rfl,e⟩:=j5o rv;have el:(xs.map (fun p=>Value.int p.1 p.2)).toArray=intItems xs.toArray:=by unfold intItems;simp
 rw [el] at pl;have l0:xs≠[]:=fun z=>hn (by rw [<- e,z];rfl);refine min_intList (I.ok.hd hc) pl.isList (by rw [List.size_toArray];exact List.length_pos_iff.mpr l0) fun v h' tk hv k=>?_;obtain ⟨m,t,rfl,m1,m2⟩:=k37 (c:=fun a b=>a < b) e hn (fun a=>by omega) (fun h1 h2=>by omega) hv;exact ⟨.int m,H,I.kept k,⟨t,rfl⟩,q m m1 m2⟩
end
section
variable {X:Cx} {E:XK} {T:Addr} {ms:List Nat} {n:Nat} {D PO τ:Type} [Sls D] [Sls PO] [Ow τ] {pos:Pos} {Y β:Type} [Rep Y] [Rep β]
theorem k2r {a:Expr} {p:Pos} {c:Int->Int->Prop} {x:Str} {id:String} {wa:Wf D (D->List Int) D} (hb:j3l X (.builtin id) (w4i X c)) (hg:Gl X x) (hm:X.mg x=none) (hi:bootBuiltins x=some (.builtin id)) (ha:ER X E T a wa) (hs:starEach [a] X.env=(false,eval a X.env) :: starEach [] X.env:=by rfl) (hn:x≠Str.ofString "__name__":=by decide) (hd:(x == Str.ofString "__debug__")=false:=by decide) :
  EW X E T (.Call (.Name x p) [a] [] pos) (fun (d:D) (Kn:Int->D->Prop) Ke=>wa d (fun g d1=>g d1≠[]/\∀ m,m∈g d1->(∀ x∈g d1,¬c x m)->Kn m d1) Ke):=by
 obtain ⟨ta,a1,a2⟩:=ha;refine ⟨_,j1l hb hg hm hi (j0k a1 j02 hs) hn hd (he:=hs),fun d F R Z H Kn Ke Q s hw kn ke=>a2 d F R Z H _ Ke _ s hw (fun g d1 u F1 R1 H1 q1 c1 s1 r1=>?_) ke⟩;obtain ⟨q,us,rfl,h1,h2⟩:=r1 d1 F1 R1 H1 (Ch.refl _ _ _ _) s1;exact ⟨_,g d1,rfl,SqL.of (by rw [h1,j1b h2]),q1.1,fun m m1 m2=>kn m d1 _ F1 R1 H1 (q1.2 m m1 m2) c1 s1 rfl⟩
theorem w4c {x y z:Str} {p0 p1 p2 p3 p4 p5 p6 p7 p8 p9 p10 p11 p12:Pos} {x1 k1 k2:Nat} (i j k:Nat) {D1 D2 D3:Type} [Sls D1] [Sls D2] [Sls D3] [A:At i D (Oo Y) D1] [B:At j D1 (Oo Y) D2] [C:At k D2 Un D3] [U:Pt k D3 Un D2]
  (hp:PassesOwn (model X.prog X.w) X.A X.env X.xe) (hc:X.calm=true) (hk:k∉ms) (hx:PE X (.Name x p1) (tVar i)) (hy:PE X (.Name y p2) (tVar j)) (hz:PE X (.Name z p4) (tVar k)) (hg:PG X (.Name z p0) (k0w k))
  (ha:∀ {t:TA},PA X [.Constant (.int 0) k2 p9] t->PS X (.Expr (.Call (.Attribute (.Name z p7) "append" p8) [.Constant (.int 0) k2 p9] [] p10) p11) (k5u (tBM X.K "list" k1x (tVar k) t)))
  (h1:starEach [.Name x p1,.Name y p2] X.env=(false,eval (.Name x p1) X.env) :: starEach [.Name y p2] X.env:=by rfl) (h2:starEach [.Name y p2] X.env=(false,eval (.Name y p2) X.env) :: starEach [] X.env:=by rfl) (h3:starEach [.Constant (.int 0) k2 p9] X.env=(false,eval (.Constant (.int 0) k2 p9) X.env) :: starEach [] X.env:=by rfl)
  (hs:∀ v,foldedSetIterable (.Tuple [.Name x p1,.Name y p2] x1 p3) X.env v=pure v:=by intro _;rfl) :
  S1 X E T ms n (.For (.Name z p0) (.Tuple [.Name x p1,.Name y p2] x1 p3) [.If (.Compare (.Name z p4) [.IsNot] [.Constant .none k1 p5] p6) [.Expr (.Call (.Attribute (.Name z p7) "append" p8) [.Constant (.int 0) k2 p9] [] p10) p11] [] p12] [] pos)
   (fun (d:D) (Kn:D2->Prop) (Kr:τ->PO->Prop) _=>((∀ l,(A.get d).o=some l->l.length < 1000)/\∀ l,(B.get (A.hole d)).o=some l->l.length < 1000)/\Kn (U.put (C.hole (B.hole (A.hole d))) ⟨⟩)):=by
 refine ⟨_,k6t hp hc (w2m (k62 (j0k hx (j0k hy j02 h2) h1))) hg (j24 (k6s (j23 k7j hz k3n (j0u _)) (j24 (ha (j0k j01 j02 h3))) j6v)) hs,fun d F R Z H Kn Kr Ke En s hw kn kr ke=>?_⟩;obtain ⟨⟨lA,lB⟩,hw⟩:=hw;obtain ⟨_,F1,F2,a1,a2,a3,a4⟩:=A.take s.rel;obtain ⟨_,G1,G2,b1,b2,b3,b4⟩:=B.take a4;obtain ⟨v3,K1,K2,c1,c2,c3,c4⟩:=C.take b4;obtain ⟨u1,rfl,o1⟩:=k3q a3;obtain ⟨u2,rfl,o2⟩:=k3q b3;have kl:k < Z.length:=(List.getElem?_eq_some_iff.mp c1).1;have f1:∀ a,F1 a->F a:=fun a h=>(a2.all a).mpr (.inl h);have g1:∀ a,G1 a->F a:=fun a h=>(a2.all a).mpr (.inr ((b2.all a).mpr (.inl h)));have g2:∀ a,G2 a->F a:=fun a h=>(a2.all a).mpr (.inr ((b2.all a).mpr (.inr h)));have fg:∀ a,F1 a\/G1 a->F a:=fun a h=>h.elim (f1 a) (g1 a);refine ⟨u1,a1,u2,b1,(by show 2<=sizeLine;decide),fun p hpn=>⟨p,rfl,⟨_,SqT.of j0h⟩,?_⟩⟩;have np:¬(F1 p\/G1 p):=fun h=>s.liv p (s.sub p (fg p h)) hpn
 -- each of the two is None or a list
 have ok:∀ u,u=u1\/u=u2->u=.non\/∃ a,u=.ref a/\(F1 a\/G1 a):=fun u h=>by
  rcases h with rfl | rfl
  ·rcases o1 with ⟨e,_⟩ | ⟨a,vs,l,e,_,f,_⟩
   ·exact .inl e
   ·exact .inr ⟨a,e,.inl ((f a).mpr rfl)⟩
  ·rcases o2 with ⟨e,_⟩ | ⟨a,vs,l,e,_,f,_⟩
   ·exact .inl e
   ·exact .inr ⟨a,e,.inr ((f a).mpr rfl)⟩
 have ls:∀ b,F1 b\/G1 b->∃ us,H b=some (.lst us)/\us.length < 1000:=fun b h=>by
  rcases h with h | h
  ·rcases o1 with ⟨_,_,f⟩ | ⟨a,vs,l,_,e,f,g,q⟩
   ·exact absurd h (f b)
   ·rw [(f b).mp h];exact ⟨vs,g,by rw [<- Paired.length q];exact lA l e⟩
  ·rcases o2 with ⟨_,_,f⟩ | ⟨a,vs,l,_,e,f,g,q⟩
   ·exact absurd h (f b)
   ·rw [(f b).mp h];exact ⟨vs,g,by rw [<- Paired.length q];exact lB l e⟩
 have k0:∀ b o,H b=some o->upd H p (.tup [u1,u2]) b=some o:=fun b o e=>by rw [j0g (j0m e hpn)];exact e
 refine ⟨fun m r Z1 H1=>r=2 - m/\m<=2/\(∃ v,Z1=Z.set k v)/\H1 p=some (.tup [u1,u2])/\(∀ b o,¬(F1 b\/G1 b)->H b=some o->H1 b=some o)/\∀ b,F1 b\/G1 b->∃ us,H1 b=some (.lst us)/\us.length < 1000 + m,
  ⟨2,rfl,by omega,⟨v3,(j8r c1).symm⟩,j0h,fun b o _ e=>k0 b o e,fun b h=>?_⟩,?_⟩
 ·obtain ⟨us,e,l⟩:=ls b h;exact ⟨us,k0 _ _ e,by omega⟩
 rintro m r Z1 H1 ⟨rfl,hm,⟨v,rfl⟩,e1,e2,e3⟩;by_cases hlt:m < 2
 ·have hu:∃ u,[u1,u2][m]?=some u/\(u=u1\/u=u2):=by
   match m,hlt with
   | 0,_=>exact ⟨u1,rfl,.inl rfl⟩
   | 1,_=>exact ⟨u2,rfl,.inr rfl⟩
  obtain ⟨u,hu,hu2⟩:=hu;refine .inr ⟨⟨_,u,SqT.of e1,hu⟩,fun Z' H'=>(∃ v,Z'=Z.set k v)/\H' p=some (.tup [u1,u2])/\(∀ b o,¬(F1 b\/G1 b)->H b=some o->H' b=some o)/\∀ b,F1 b\/G1 b->∃ us,H' b=some (.lst us)/\us.length < 1000 + (m + 1),fun Z' H' q=>⟨2 - (m + 1),by omega,rfl,by omega,q⟩,fun x H2 yl=>?_⟩;obtain ⟨rfl,yl⟩:=yl;have:=yl _ (SqT.of e1);rw [hu] at this;cases this;have es:(Z.set k v).set k (some u)=Z.set k (some u):=List.set_set _;have ek:(Z.set k (some u))[k]?=some (some u):=by rw [List.getElem?_set_self kl]
  show tIfS _ _ _ _ ((Z.set k v).set k (some u)) H2;rw [es];refine ⟨u,ek,rfl,_,rfl,?_⟩;rcases ok u hu2 with rfl | ⟨a,rfl,fa⟩
  ·rw [if_neg (by simp)];exact ⟨⟨_,rfl⟩,e1,e2,fun b h=>let ⟨us,q1,q2⟩:=e3 b h;⟨us,q1,by omega⟩⟩
  ·rw [if_pos (by simp)];obtain ⟨us,q1,q2⟩:=e3 a fa;refine ⟨_,ek,.inl ⟨rfl,us,SqL.of q1⟩,a,us,_,rfl,rfl,q1,?_,⟨_,rfl⟩,?_,fun b o nb e=>?_,fun b h=>?_⟩
   ·have z:sizeLine=16777216:=sizeLine_eq;omega
   ·rw [j0g (fun z=>np (by rw [z];exact fa))];exact e1
   ·rw [j0g (fun z=>nb (by rw [z];exact fa))];exact e2 b o nb e
   ·by_cases z:b=a
    ·rw [z,j0h];exact ⟨_,rfl,by rw [List.length_append,List.length_singleton];omega⟩
    ·rw [j0g z];obtain ⟨us,r1,r2⟩:=e3 b h;exact ⟨us,r1,by omega⟩
 ·have e:m=2:=by omega
  subst e;refine .inl ⟨⟨_,SqT.of e1,Nat.le_refl _⟩,?_⟩;have ex:Ext (fun b=>F1 b\/G1 b) R H R H1:=⟨fun b o nb e=>e2 b o nb e,fun _ h=>.inl h⟩;have k2':∀ a,K2 a->G2 a:=fun a h=>(c2.all a).mpr (.inr h);have r1:=Sls.st c4 ex (fun a h=>s.sub a (fg a h)) fun a h z=>z.elim (fun q=>a2.dis a q ((b2.all a).mpr (.inr (k2' a h)))) fun q=>b2.dis a q (k2' a h);have r2:=U.back (F1:=fun _=>False) (F:=K2) (x:=⟨⟩) (v:=v) r1 (j2l K2) (fun _ z=>z);refine kn _ K2 R H1 _ hw ⟨fun b o nb _ e=>e2 b o (fun z=>nb (fg b z)) e,fun _ h=>.inl h,fun a h=>.inl (g2 a (k2' a h)),fun _ h _=>h⟩ ⟨r2,fun a h=>s.sub a (g2 a (k2' a h)),fun a h=>?_,?_,s.tabR,fun h=>s.tabF (g2 T (k2' T h))⟩ (Ag.set hk)
  ·by_cases q:F1 a\/G1 a
   ·obtain ⟨us,e,_⟩:=e3 a q;rw [e];simp
   ·cases e:H a with
    | none=>exact absurd e (s.liv a h)
    | some o=>rw [e2 a o q e];simp
  ·obtain ⟨ps,e,t⟩:=s.tab;exact ⟨ps,e2 T _ (fun z=>s.tabF (fg T z)) e,t⟩
end
section
variable {P:Program} {w:World} {K:PySem.W.Frag} {mg:Str->Option Value} {base h:Heap} {T C:Addr}
structure Dq (K:PySem.W.Frag) (x:Str) (st:Stmt):Prop where
 ex:∃ f fd,PySem.W.nsIn K mainGlobals x=some (some (.ref f))/\Fun K x x st f fd
structure Mq (K:PySem.W.Frag) (C:Addr) (m q:Str) (st:Stmt):Prop where
 ex:∃ f fd,Meth K C m f/\Fun K m q st f fd
theorem dq_mk {x:Str} {st:Stmt} {f:Addr} {oc:Value} {od an:Option Addr} {osl:Array (Option Value)} {kV doc pm cdv ct:Value} (a:PySem.W.nsIn K mainGlobals x=some (some (.ref f))) (l:K.lookup f=some ⟨oc,od,.func (PySem.W.fnOf x x (j2t st) (j1n st) (j0c st) .none kV doc pm an cdv ct),osl⟩)
  (c:PySem.W.codeIn K cdv x=true) (k:PySem.W.keepIn K (.ref f)=true):Dq K x st:=⟨_,_,a,k3y l c k⟩
theorem mq_mk {x q:Str} {st:Stmt} {f:Addr} {oc:Value} {od an:Option Addr} {osl:Array (Option Value)} {kV doc pm cdv ct:Value} (a:PySem.W.findIn K (.ref C) x=some (some (.ref f))) (i:PySem.W.isFn K (.ref f)=true) (l:K.lookup f=some ⟨oc,od,.func (PySem.W.fnOf x q (j2t st) (j1n st) (j0c st) .none kV doc pm an cdv ct),osl⟩)
  (c:PySem.W.codeIn K cdv q=true) (k:PySem.W.keepIn K (.ref f)=true):Mq K C x q st:=⟨_,_,⟨a,i,k⟩,k3y l c k⟩
noncomputable def Dq.f {x:Str} {st:Stmt} (q:Dq K x st):Addr:=q.ex.choose
noncomputable def Dq.d {x:Str} {st:Stmt} (q:Dq K x st):FuncData:=q.ex.choose_spec.choose
noncomputable def Mq.f {x q:Str} {st:Stmt} (m:Mq K C x q st):Addr:=m.ex.choose
noncomputable def Mq.d {x q:Str} {st:Stmt} (m:Mq K C x q st):FuncData:=m.ex.choose_spec.choose
theorem Dq.fn {x:Str} {st:Stmt} (q:Dq K x st) (X:K.In h) (G:h.Ns mainGlobals mg) (ps:List Str)
  (b:∀ (kV doc pm:Value) (an:Option Addr) (cdv ct:Value) (us:List Value),us.length=ps.length->bindArgs (PySem.W.fnOf x x (j2t st) (j1n st) (j0c st) .none kV doc pm an cdv ct) ⟨us,[]⟩=pure (ps.zip us)):Fn K mg x st ps q.f q.d :=
 have h:=q.ex.choose_spec.choose_spec;⟨h.2,PySem.W.mg_of X G h.1,h.2.binds b⟩
theorem Mq.fn {x q:Str} {st:Stmt} (m:Mq K C x q st) (ps:List Str)
  (b:∀ (kV doc pm:Value) (an:Option Addr) (cdv ct:Value) (us:List Value),us.length=ps.length->bindArgs (PySem.W.fnOf x q (j2t st) (j1n st) (j0c st) .none kV doc pm an cdv ct) ⟨us,[]⟩=pure (ps.zip us)):Mf K C x q st ps m.f m.d :=
 have h:=m.ex.choose_spec.choose_spec;⟨h.2,h.1,h.2.binds b⟩
def Fn.fk {x:Str} {st:Stmt} {ps:List Str} {f:Addr} {fd:FuncData} {A PO τ:Type} [Sls A] [Sls PO] [Ow τ] {wf:Wf A τ PO} {k:Nat} (N:Fn K mg x st ps f fd) (o:FnOk P w K mg base (CX1 P w) k f fd ps (spW T wf)):Fk P w K mg base T x ps wf k:=⟨f,fd,o,N.at_,N.fn.kp,N.bd⟩
def Mf.fm {x q:Str} {st:Stmt} {ps:List Str} {f:Addr} {fd:FuncData} {A PO τ:Type} [Sls A] [Sls PO] [Ow τ] {wf:Wf A τ PO} {k:Nat} (N:Mf K C x q st ps f fd) (o:FnOk P w K mg base (CX1 P w) k f fd ps (spW T wf)):Fm P w K mg base T C x ps wf k:=⟨f,fd,o,N.me,N.bd⟩
end
theorem j7x {X:Cx} {E:XK} {T:Addr} {ms:List Nat} {n:Nat} {D D1 PO τ:Type} [Sls D] [Sls D1] [Sls PO] [Ow τ] {st:Stmt} {w:D->(D1->Prop)->(τ->PO->Prop)->(Addr->PO->Prop)->Prop} (h:S1 X E T ms n st w) :
  S1 X E T ms n st (fun (d:D) (Kn:D1->Prop) (Kr:τ->PO->Prop) Ke=>∃ I:D1->Prop,w d I Kr Ke/\∀ d1,I d1->Kn d1) :=
 let ⟨t,h1,h2⟩:=h
 ⟨t,h1,fun d F R Z H _ Kr Ke En s ⟨I,hw,hi⟩ kn kr ke=>h2 d F R Z H I Kr Ke En s hw (fun d' F' R' H' Z' q=>kn d' F' R' H' Z' (hi d' q)) kr ke⟩
theorem j8l {X:Cx} {E:XK} {T:Addr} {ms:List Nat} {n:Nat} {D D1 PO τ:Type} [Sls D] [Sls D1] [Sls PO] [Ow τ] {sts:List Stmt} {w w':D->(D1->Prop)->(τ->PO->Prop)->(Addr->PO->Prop)->Prop} (h:SW X E T ms n sts w) (i:∀ d Kn Kr Ke,w' d Kn Kr Ke->w d Kn Kr Ke):SW X E T ms n sts w' :=
 let ⟨t,h1,h2⟩:=h
 ⟨t,h1,fun d F R Z H Kn Kr Ke En s hw=>h2 d F R Z H Kn Kr Ke En s (i d Kn Kr Ke hw)⟩
structure Cq where
 P:Program
 w:World
 K:PySem.W.Frag
 mg:Str->Option Value
 base:Heap
 T:Addr
abbrev Fkq (q:Cq) (x:Str) (ps:List Str) {A PO τ:Type} [Sls A] [Sls PO] [Ow τ] (wf:Wf A τ PO) (k:Nat):=Fk q.P q.w q.K q.mg q.base q.T x ps wf k
abbrev Fmq (q:Cq) (C:Addr) (x:Str) (ps:List Str) {A PO τ:Type} [Sls A] [Sls PO] [Ow τ] (wf:Wf A τ PO) (k:Nat):=Fm q.P q.w q.K q.mg q.base q.T C x ps wf k
abbrev Gq (q:Cq) (k:Nat) (f:Addr) (fd:FuncData) (ps:List Str) {A PO τ:Type} [Sls A] [Sls PO] [Ow τ] (wf:Wf A τ PO):Prop:=FnOk q.P q.w q.K q.mg q.base (CX1 q.P q.w) k f fd ps (spW q.T wf)
abbrev Dq1 (q:Cq) (x:Str) (st:Stmt) (f:Addr) (fd:FuncData):Prop:=Fun q.K x x st f fd
structure Bz (K:PySem.W.Frag):Prop where
 all:PySem.W.nsIn K mainGlobals "all"=some none
 zip:PySem.W.nsIn K mainGlobals "zip"=some none
 set:PySem.W.nsIn K mainGlobals "set"=some none
 sorted:PySem.W.nsIn K mainGlobals "sorted"=some none
 len:PySem.W.nsIn K mainGlobals "len"=some none
 list:PySem.W.nsIn K mainGlobals "list"=some none
 isinstance:PySem.W.nsIn K mainGlobals "isinstance"=some none
 int:PySem.W.nsIn K mainGlobals "int"=some none
 bool:PySem.W.nsIn K mainGlobals "bool"=some none
 range:PySem.W.nsIn K mainGlobals "range"=some none
 enumerate:PySem.W.nsIn K mainGlobals "enumerate"=some none
 tuple:PySem.W.nsIn K mainGlobals "tuple"=some none
 min:PySem.W.nsIn K mainGlobals "min"=some none
 max:PySem.W.nsIn K mainGlobals "max"=some none
structure Bn (mg:Str->Option Value):Prop where
 all:mg "all"=none
 zip:mg "zip"=none
 set:mg "set"=none
 sorted:mg "sorted"=none
 len:mg "len"=none
 list:mg "list"=none
 isinstance:mg "isinstance"=none
 int:mg "int"=none
 bool:mg "bool"=none
 range:mg "range"=none
 enumerate:mg "enumerate"=none
 tuple:mg "tuple"=none
 min:mg "min"=none
 max:mg "max"=none
theorem Bz.bn {K:PySem.W.Frag} {h:Heap} {mg:Str->Option Value} (X:K.In h) (G:h.Ns mainGlobals mg) (z:Bz K):Bn mg :=
 let f:=fun {x:Str} (e:PySem.W.nsIn K mainGlobals x=some none)=>PySem.W.mg_none_of X G e
 ⟨f z.all,f z.zip,f z.set,f z.sorted,f z.len,f z.list,f z.isinstance,f z.int,f z.bool,f z.range,f z.enumerate,f z.tuple,f z.min,f z.max⟩
@[reducible] def wSq {D D' D1 PO τ:Type} (w1:D->(D1->Prop)->(τ->PO->Prop)->(Addr->PO->Prop)->Prop) (w2:D1->(D'->Prop)->(τ->PO->Prop)->(Addr->PO->Prop)->Prop):D->(D'->Prop)->(τ->PO->Prop)->(Addr->PO->Prop)->Prop:=fun d Kn Kr Ke=>w1 d (fun d1=>w2 d1 Kn Kr Ke) Kr Ke
theorem sw_c {X:Cx} {E:XK} {T:Addr} {ms:List Nat} {n:Nat} {D D' D1 PO τ:Type} [Sls D] [Sls D'] [Sls D1] [Sls PO] [Ow τ] {st:Stmt} {rest:List Stmt} {w1:D->(D1->Prop)->(τ->PO->Prop)->(Addr->PO->Prop)->Prop} {w2:D1->(D'->Prop)->(τ->PO->Prop)->(Addr->PO->Prop)->Prop} (h1:S1 X E T ms n st w1) (h2:SW X E T ms n rest w2) (dp:Dep PO ms n:=by exact j1f (by decide)) :
  SW X E T ms n (st :: rest) (wSq w1 w2):=j8m (w1:=w1) (w2:=w2) dp h1 h2
end WL
set_option maxHeartbeats 4000000
namespace K7
open PySem L2 WL
open WL.Rep (rp)
open WL.Ow (sl)
open WL.Sls (rel)
local macro_rules | `(tactic| walk_at "wl") => `(tactic| dsimp only [At.get, At.hole, Pt.put, Ent.ent, Pj.pj, Fg.fg, Sel.sel, Sel.rest, Sel.mrg, Pre.pre, Pre.suf, at0, atS, pt0, ptS, ent0, entS, entC, pjNil, pjUn, pjCons, fgId, fgUn, fgCons, selNil, selCons, pre0, preS, stepC, id])
def top (i:Nat):Stmt:=PySem.Challenge.pw_slimbody_k40_whole_filling_or_bar.main.body.getD i (.Pass ⟨0,0,0,0⟩)
abbrev j12:Stmt:=top 11
abbrev k0c:Stmt:=top 12
abbrev k1p:Stmt:=top 14
def j92:Wf (List Int×Unit) Bool (Un×Unit):=fun p Kn _=>Kn (asc p.1) (⟨⟩,())
def j91:Wf (Tp Int×Unit) Bool (Un×Unit):=fun p Kn _=>Kn (asc p.1.l) (⟨⟩,())
def j6i (C:Addr):Wf (List Int×Unit) Unit (Un×Unit):=fun p Kn Ke=>(asc p.1=true->Kn () (⟨⟩,()))/\(asc p.1=false->Ke C (⟨⟩,()))
def k5h (C:Addr):Wf (Tp Int×Unit) Unit (Un×Unit):=fun p Kn Ke=>(asc p.1.l=true->Kn () (⟨⟩,()))/\(asc p.1.l=false->Ke C (⟨⟩,()))
def k5a:Wf (List (Tp Int)×Unit) (OL Int) (Un×Unit):=fun p Kn _=>∃ U:List Int,U.length < 64/\(∀ r∈p.1,Ris r.l/\∀ x∈r.l,x∈U)/\Kn ⟨tot (p.1.map (·.l))⟩ (⟨⟩,())
section
variable {P:Program} {w:World} {K:PySem.W.Frag} {mg:Str->Option Value} {base:Heap} {T:Addr}
theorem k0a:FnScope ["row"] ["row"] (j0c j12):=⟨rfl,rfl,rfl,by decide +kernel,rfl,by decide +kernel,by decide +kernel⟩
theorem k4m {f c:Addr} {fd:FuncData} (F:Fun K "is_sum" "is_sum" j12 f fd) (hc:fd.code=.ref c) (B:BaseT mg base c T) (hall:mg "all"=none) (hzip:mg "zip"=none):FnOk P w K mg base (CX1 P w) 1 f fd ["row"] (spW T j92):=by
 refine' j0n (w8r (A:=List Int×Unit) (PO:=Un×Unit) (τ:=Bool) (D':=Unit) (ms:=[]) (j:=0) F k0a rfl rfl fun A outer s H E hr=>?body) ?nice
 case body =>
  exact j0e (j0t (j0z (w1p (j0a 0 (pv 0)) (ew_o (k32 (er_w (j0a 0 (pv 0))) (k2c j0f) k2d)) (fun h=>k3o zipL (c:=c) (P:=T) rfl ⟨hc,B.hd,B.blt⟩ hr.depth rfl hall rfl hzip h rfl rfl rfl (by decide +kernel) rfl rfl rfl (by decide +kernel) (by decide +kernel) (by decide +kernel)))))
 case nice =>
  intro p Kn Ke h
  walk_at "wl"
  rw [cut1];exact h
theorem k4l {f c:Addr} {fd:FuncData} (F:Fun K "is_sum" "is_sum" j12 f fd) (hc:fd.code=.ref c) (B:BaseT mg base c T) (hall:mg "all"=none) (hzip:mg "zip"=none):FnOk P w K mg base (CX1 P w) 1 f fd ["row"] (spW T j91):=by
 refine' j0n (w8r (A:=Tp Int×Unit) (PO:=Un×Unit) (τ:=Bool) (D':=Unit) (ms:=[]) (j:=0) F k0a rfl rfl fun A outer s H E hr=>?body) ?nice
 case body =>
  exact j0e (j0t (j0z (w1o (j0a 0 (pv 0)) (k8q (j0a 0 (pv 0)) (k2c j0f) k2d) (fun h=>k3o zipT (c:=c) (P:=T) rfl ⟨hc,B.hd,B.blt⟩ hr.depth rfl hall rfl hzip h rfl rfl rfl (by decide +kernel) rfl rfl rfl (by decide +kernel) (by decide +kernel) (by decide +kernel)))))
 case nice =>
  intro p Kn Ke h
  walk_at "wl"
  rw [cut1];exact h
theorem k53:FnScope ["row"] ["row"] (j0c k0c):=⟨rfl,rfl,rfl,by decide +kernel,rfl,by decide +kernel,by decide +kernel⟩
theorem k0q {b:Bool} {p q:Prop} (h:(b=true->p)/\(b=false->q)):if (!b)=true then q else p:=by
 cases b
 ·exact h.2 rfl
 ·exact h.1 rfl
theorem w00 {f C f1:Addr} {fd fd1:FuncData} {bmB:List Value} {B newId initId:String} (F:Fun K "must_be_sum" "must_be_sum" k0c f fd) (F1:Fn K mg "is_sum" j12 ["row"] f1 fd1) (G1:FnOk P w K mg base (CX1 P w) 1 f1 fd1 ["row"] (spW T j92))
  (hC:mg "NotASum"=some (.ref C)) (O:PySem.W.excIn K C bmB newId=true) (FB:ExcBaseFacts B newId initId bmB):FnOk P w K mg base (CX1 P w) 2 f fd ["row"] (spW T (j6i C)):=by
 refine' j0n (k4z (j1f (by decide)) (A:=List Int×Unit) (PO:=Un×Unit) (D':=List Int×Unit) (ms:=[]) (j:=0) F k53 rfl rfl fun cdv A outer s H E hr=>?body) ?nice
 case body =>
  exact j0e (j07 (j14 (j1r (j0r (j6d G1 hr rfl F1.at_ F1.fn.kp F1.bd j0j (j0d (j0a 0 (pv 0)) j0b))))) (j0e (j81 (j84 rfl hC O FB (j0k k63 j02)))) j00)
 case nice =>
  intro p Kn Ke h
  walk_at "wl"
  exact k0q h
theorem w0z {f C f1:Addr} {fd fd1:FuncData} {bmB:List Value} {B newId initId:String} (F:Fun K "must_be_sum" "must_be_sum" k0c f fd) (F1:Fn K mg "is_sum" j12 ["row"] f1 fd1) (G1:FnOk P w K mg base (CX1 P w) 1 f1 fd1 ["row"] (spW T j91))
  (hC:mg "NotASum"=some (.ref C)) (O:PySem.W.excIn K C bmB newId=true) (FB:ExcBaseFacts B newId initId bmB):FnOk P w K mg base (CX1 P w) 2 f fd ["row"] (spW T (k5h C)):=by
 refine' j0n (k4z (j1f (by decide)) (A:=Tp Int×Unit) (PO:=Un×Unit) (D':=Tp Int×Unit) (ms:=[]) (j:=0) F k53 rfl rfl fun cdv A outer s H E hr=>?body) ?nice
 case body =>
  exact j0e (j07 (j14 (j1r (j0r (j6d G1 hr rfl F1.at_ F1.fn.kp F1.bd j0j (j0d (j0a 0 (pv 0)) j0b))))) (j0e (j81 (j84 rfl hC O FB (j0k k63 j02)))) j00)
 case nice =>
  intro p Kn Ke h
  walk_at "wl"
  exact k0q h
theorem sc_total:FnScope ["rows","odd","row","number"] ["rows"] (j0c k1p):=⟨rfl,rfl,rfl,by decide +kernel,rfl,by decide +kernel,by decide +kernel⟩
theorem w0v {f C f1:Addr} {fd fd1:FuncData} (F:Fun K "total" "total" k1p f fd) (F1:Fn K mg "must_be_sum" k0c ["row"] f1 fd1) (G1:FnOk P w K mg base (CX1 P w) 2 f1 fd1 ["row"] (spW T (k5h C))) (hset:mg "set"=none) (hsorted:mg "sorted"=none) :
  FnOk P w K mg base (CX1 P w) 3 f fd ["rows"] (spW T k5a):=by
 refine' j0n (fn_w (A:=List (Tp Int)×Unit) (PO:=Un×Unit) (τ:=OL Int) (D':=Unit) (ms:=[]) (j:=3) F sc_total rfl rfl fun cdv A outer s H E hr=>?body) ?nice
 case body =>
  have nd:=sc_total.nd
  exact j8m (j1f (by decide)) (j0y 1 nd rfl (Or.inl rfl) (by decide) (w57 (w:=w) rfl rfl hset))
   (j8m (j1f (by decide)) (j2g (is:=[]) (mb:=[]) (D1:=List (Tp Int)×SI w×Tp Int×Un×Unit) (D2:=List (Tp Int)×SI w×Tp Int×Un×Unit) (j1f (by decide)) own1 rfl (j17 (j0a 0 (pv 0))) (j03 2 (j0q (i:=2) nd rfl (Or.inl rfl)) (by decide))
    (j8m (j1f (by decide)) (j1e (j0r (j6d G1 hr rfl F1.at_ F1.fn.kp F1.bd j0j (j0d (j0a 2 (pv 2)) j0b))))
     (j0e (j2g (is:=[]) (mb:=[]) (D1:=List (Tp Int)×SI w×Tp Int×Int×Unit) (D2:=List (Tp Int)×SI w×Tp Int×Int×Unit) (j1f (by decide)) own1 rfl (w8n (j0a 2 (pv 2))) (j03 3 (j0q (i:=3) nd rfl (Or.inl rfl)) (by decide))
      (j0e (j07 (w65 1 (w:=w) rfl (j0a 3 (pv 3)) (pv 1) (by with_unfolding_all rfl))
       (j0e (w37 1 (w:=w) rfl (j0a 3 (pv 3)) (fun h=>j2p (w2p PySem.F.slot_set_discard PySem.F.type_set_discard w1b (pv 1) h))))
       (j0e (w38 1 (w:=w) rfl (j0a 3 (pv 3)) (fun h=>j2p (w2p PySem.F.slot_set_add PySem.F.type_set_add w5n (pv 1) h)))))) (by decide) (by decide)))) (by decide) (by decide))
    (j0e (j0t (k40 1 (w:=w) rfl rfl rfl hsorted (pv 1)))))
 case nice =>
  intro p Kn Ke h
  walk_at "wl"
  obtain ⟨U,hU,hr,hk⟩:=h;refine j1a (fun (r:List (Tp Int)) (b:List (Tp Int)×SI w×Un×Un×Unit)=>Ris b.2.1.l/\(∀ x∈b.2.1.l,x∈U)/\(r.map (·.l)).foldl xr b.2.1.l=tot (p.1.map (·.l))) p.1 ⟨List.Pairwise.nil,(fun _ h=>by cases h),rfl⟩ ?_ ?_
  ·rintro x r b ⟨pre,e⟩ ⟨h1,h2,h3⟩ K hK;have hx:=hr x (by rw [e];simp);refine ⟨fun _=>?_,fun z=>absurd ((j3e _).mpr hx.1) (by rw [z];simp)⟩;refine j1a (fun (q:List Int) (c:List (Tp Int)×SI w×Tp Int×Un×Unit)=>Ris c.2.1.l/\(∀ y∈c.2.1.l,y∈U)/\q.foldl tog c.2.1.l=xr b.2.1.l x.l) x.l ⟨h1,h2,rfl⟩ ?_ ?_
   ·rintro y q c ⟨pre2,e2⟩ ⟨g1,g2,g3⟩ K2 hK2;have hy:y∈x.l:=by rw [e2];simp
    have g3':q.foldl tog (tog c.2.1.l y)=xr b.2.1.l x.l:=g3;by_cases hc:y∈c.2.1.l
    ·rw [if_pos (decide_eq_true hc)];refine hK2 _ ⟨List.Pairwise.filter _ g1,fun z hz=>g2 z (sdel_mem.mp hz).1,?_⟩;rw [<- g3'];unfold tog;rw [if_pos hc]
    ·rw [if_neg (by simpa using hc)];refine ⟨by have:=j1h g1 g2;omega,hK2 _ ⟨j8t g1,fun z hz=>?_,?_⟩⟩
     ·rcases sadd_mem.mp hz with e3 | e3
      ·rw [e3];exact hx.2 y hy
      ·exact g2 z e3
     ·rw [<- g3'];show q.foldl tog (sadd y c.2.1.l)=q.foldl tog (tog c.2.1.l y);rw [show tog c.2.1.l y=sadd y c.2.1.l from if_neg hc]
   ·rintro c ⟨g1,g2,g3⟩;refine hK _ ⟨g1,g2,?_⟩;rw [<- h3];show (r.map (·.l)).foldl xr c.2.1.l=(r.map (·.l)).foldl xr (xr b.2.1.l x.l);rw [<- g3];rfl
  ·rintro b ⟨h1,h2,h3⟩;refine ⟨by have:=j1h h1 h2;omega,?_⟩;have h3':b.2.1.l=tot (p.1.map (·.l)):=h3;rw [h3'];exact hk
end
local macro_rules | `(tactic| walk_at "wl") => `(tactic| dsimp only [At.get, At.hole, Pt.put, Ent.ent, Pj.pj, Fg.fg, Sel.sel, Sel.rest, Sel.mrg, Pre.pre, Pre.suf, at0, atS, pt0, ptS, ent0, entS, entC, pjNil, pjUn, pjCons, fgId, fgUn, fgCons, selNil, selCons, pre0, preS, stepC, id, ID.get, ID.set, wSq])
local macro_rules | `(tactic| walk_at "sc") => `(tactic| exact ⟨rfl, rfl, rfl, by decide +kernel, rfl, by decide +kernel, by decide +kernel⟩)
section
variable (C:Addr)
abbrev B0:=Bd C false
def allIn {C:Addr} (x:B0 C) (row:List Int):Bool:=row.all fun c=>(lk x.rk c).isSome
def bdr {C:Addr} (x:B0 C) (c:Int):List Int:=(lk x.bd c).getD []
def ovr {C:Addr} (x:B0 C) (c:Int):List Int:=(x.rk.map (·.1)).filter fun h=>decide (c∈bdr x h)
def rks {C:Addr} (x:B0 C) (row:List Int) (r:Int):Bool:=row.all fun c=>decide (lk x.rk c=some r)
structure Okb {C:Addr} (x:B0 C):Prop where
 kb:∀ k,(lk x.rk k).isSome=true->(lk x.bd k).isSome=true
 bo:∀ k b,lk x.bd k=some b->Ris b/\∀ c∈b,0<=c/\c < 63
 ri:(x.rk.map (·.1)).Pairwise (·<=·)
 lr:x.rk.length < 120
 lb:x.bd.length < 120
def j5w (XC:Addr):Wf (B0 C×Int×Unit) Unit (B0 C×Un×Unit):=fun p Kn Ke =>
 if (lk p.1.rk p.2.1).isSome=true then Kn () (p.1,⟨⟩,()) else Ke XC (p.1,⟨⟩,())
def j3c (XS XC:Addr):Wf (B0 C×List Int×Unit) Unit (B0 C×Un×Unit):=fun p Kn Ke =>
 if asc p.2.1=true then (if allIn p.1 p.2.1=true then Kn () (p.1,⟨⟩,()) else Ke XC (p.1,⟨⟩,())) else Ke XS (p.1,⟨⟩,())
def j18 (XO:Addr):Wf (B0 C×List Int×Int×Unit) Unit (B0 C×Un×Un×Unit):=fun p Kn Ke =>
 allIn p.1 p.2.1=true/\if rks p.1 p.2.1 p.2.2.1=true then Kn () (p.1,⟨⟩,⟨⟩,()) else Ke XO (p.1,⟨⟩,⟨⟩,())
def j4h (XS XC:Addr):Wf (B0 C×List Int×Unit) (OL Int) (B0 C×Un×Unit):=fun p Kn Ke =>
 Okb p.1/\if asc p.2.1=true then (if allIn p.1 p.2.1=true then Kn ⟨tot (p.2.1.map (bdr p.1))⟩ (p.1,⟨⟩,()) else Ke XC (p.1,⟨⟩,())) else Ke XS (p.1,⟨⟩,())
def k5l:Wf (B0 C×Unit) (OL Int) (B0 C×Unit):=fun p Kn _=>Okb p.1/\Kn ⟨p.1.rk.map (·.1)⟩ (p.1,())
def w18 (XC:Addr):Wf (B0 C×Int×Unit) (OL Int) (B0 C×Un×Unit):=fun p Kn Ke =>
 Okb p.1/\if (lk p.1.rk p.2.1).isSome=true then Kn ⟨ovr p.1 p.2.1⟩ (p.1,⟨⟩,()) else Ke XC (p.1,⟨⟩,())
def w3e (XB XS XC XO XP:Addr):Wf (B0 C×Int×List Int×Unit) Int (B0 C×Un×Un×Unit):=fun p Kn Ke =>
 Okb p.1/\lk p.1.bd p.1.up=none/\if p.2.1 < 0\/12 < p.2.1 then Ke XB (p.1,⟨⟩,⟨⟩,()) else if asc p.2.2.1=true then (if allIn p.1 p.2.2.1=true then (if rks p.1 p.2.2.1 (p.2.1 - 1)=true then
  (if tot (p.2.2.1.map (bdr p.1))=[] then Kn p.1.up ({ p.1 with rk:=pk p.1.rk p.1.up p.2.1,bd:=pk p.1.bd p.1.up p.2.2.1,up:=p.1.up + 1},⟨⟩,⟨⟩,()) else Ke XP (p.1,⟨⟩,⟨⟩,())) else Ke XO (p.1,⟨⟩,⟨⟩,())) else Ke XC (p.1,⟨⟩,⟨⟩,())) else Ke XS (p.1,⟨⟩,⟨⟩,())
def k5b (XC XV:Addr):Wf (B0 C×Int×Unit) Unit (B0 C×Un×Unit):=fun p Kn Ke =>
 Okb p.1/\if (lk p.1.rk p.2.1).isSome=true then (if ovr p.1 p.2.1=[] then Kn () ({ p.1 with rk:=dk p.1.rk p.2.1,bd:=dk p.1.bd p.2.1},⟨⟩,()) else Ke XV (p.1,⟨⟩,())) else Ke XC (p.1,⟨⟩,())
def rkk {C:Addr} (x:B0 C) (c:Int):Int:=(lk x.rk c).getD 0
def k23:Wf (B0 C×Int×Unit) Bool (B0 C×Un×Unit):=fun p Kn _=>Kn (lk p.1.rk p.2.1).isSome (p.1,⟨⟩,())
def k28:Wf (B0 C×Unit) Int (B0 C×Unit):=fun p Kn _=>Kn p.1.up (p.1,())
def k1k (XC:Addr):Wf (B0 C×Int×Unit) Int (B0 C×Un×Unit):=fun p Kn Ke =>
 if (lk p.1.rk p.2.1).isSome=true then Kn (rkk p.1 p.2.1) (p.1,⟨⟩,()) else Ke XC (p.1,⟨⟩,())
def j58 (XC:Addr):Wf (B0 C×Int×Unit) (OL Int) (B0 C×Un×Unit):=fun p Kn Ke =>
 Okb p.1/\if (lk p.1.rk p.2.1).isSome=true then Kn ⟨bdr p.1 p.2.1⟩ (p.1,⟨⟩,()) else Ke XC (p.1,⟨⟩,())
end
theorem j5i {n k:Int} (h0:0<=k) (h1:k < n):k∈rng 0 n:=by unfold rng;exact List.mem_map.mpr ⟨k.toNat,List.mem_range.mpr (by omega),by omega⟩
theorem k73 {β:Type} {k:Int}:∀ {l:List (Int×β)},(lk l k).isSome=true->k∈l.map (·.1)
 | [],h=>by cases h
 | e :: l,h=>by
  by_cases q:e.1=k
  ·rw [<- q];simp
  ·have:lk (e :: l) k=lk l k:=by unfold lk;rw [List.find?_cons,decide_eq_false q]
   rw [this] at h;exact List.mem_cons_of_mem _ (k73 h)
theorem j53 {β:Type} {k:Int}:∀ {l:List (Int×β)},k∈l.map (·.1)->(lk l k).isSome=true
 | [],h=>by cases h
 | e :: l,h=>by
  by_cases q:e.1=k
  ·unfold lk;rw [List.find?_cons,decide_eq_true q];rfl
  ·have:lk (e :: l) k=lk l k:=by unfold lk;rw [List.find?_cons,decide_eq_false q]
   rw [this];rcases List.mem_cons.mp h with z | z
   ·exact absurd z.symm q
   ·exact j53 z
theorem j8g {C:Addr} {x:B0 C} {c:Int} {r:List Int}:allIn x (c :: r)=((lk x.rk c).isSome&&allIn x r):=by unfold allIn;rw [List.all_cons]
theorem w0g {C:Addr} {x:B0 C} {c k:Int} {r:List Int}:rks x (c :: r) k=(decide (lk x.rk c=some k)&&rks x r k):=by unfold rks;rw [List.all_cons]
theorem k9p {C:Addr} {x:B0 C} {row:List Int} (ok:Okb x) (ha:asc row=true) (h:allIn x row=true):row.length<=sizeLine:=by have:=j1h (U:=x.rk.map (·.1)) ((j3e row).mp ha) fun c hc=>k73 (List.all_eq_true.mp h c hc);rw [List.length_map] at this;have:=ok.lr;exact j08 (by omega)
theorem j3t {n:Nat} (h:n < 1000):n < sizeLine:=by have z:sizeLine=16777216:=sizeLine_eq;omega
theorem w8f {C:Addr} {x:B0 C} (ok:Okb x) {c:Int} (h:(lk x.rk c).isSome=true):lk x.bd c=some (bdr x c):=by obtain ⟨v,hv⟩:=Option.isSome_iff_exists.mp (ok.kb c h);unfold bdr;rw [hv];rfl
theorem w96 {C:Addr} {x:B0 C} {c:Int} (h:(lk x.rk c).isSome=true):lk x.rk c=some (rkk x c):=by obtain ⟨v,hv⟩:=Option.isSome_iff_exists.mp h;unfold rkk;rw [hv];rfl
theorem w8m {n:Nat} {v:Int} (h0:0<=v) (h:v.toNat < n):ixN n v=some v.toNat:=by unfold ixN;rw [if_pos h0,if_pos (by omega)]
theorem j1j {Y S:Type} {b:Y->S->(Option Y->S->Prop)->Prop} {q:Y->Bool} {s:S} {xs:List Y} {K:List Y->S->Prop} (hs:∀ x∈xs,∀ K:Option Y->S->Prop,(if q x=true then K (some x) s else K none s)->b x s K) (h:K (xs.filter q) s):j8j b xs s K:=by
 refine j1d (f:=fun x=>if q x=true then some x else none) (fun x hx K hK=>hs x hx K ?_) (by rw [j2e];exact h);by_cases z:q x=true
 ·rw [if_pos z] at hK ⊢;exact hK
 ·rw [if_neg z] at hK ⊢;exact hK
section
variable {q:Cq} {C XC XS XO XB XP XV XF0:Addr}
abbrev j3o:Stmt:=mth (top 19) 15
abbrev j3r:List Str:=["self","cell"]
theorem j8s:FnScope ["self","cell"] j3r (j0c j3o):=by walk_at "sc"
abbrev j20 (q:Cq) (C XC:Addr) (k:Nat):=Fmq q C "must_stand" j3r (j5w C XC) k
theorem j9g {f:Addr} {fd:FuncData} (F:Fun q.K "must_stand" "Body.must_stand" j3o f fd) (ct:CTx q.K C) (X_NoCell:Xc q.K q.mg "NoCell" XC):Gq q 2 f fd j3r (j5w C XC):=by
 refine' j0n (k4z (j1f (by decide)) (D':=(Bd C false)×Int×Unit) (ms:=[0]) (j:=0) F j8s rfl rfl fun cdv A outer s H E hr =>
   (j0e (j07 (w66 .rk true 0 trivial ct.cl ct.nR (hu1 hr) (j0a 1 (pv 1)) (pv 0))
   (j0e (k4g rfl X_NoCell))
   j00))) fun p Kn Ke h=>?_
 walk_at "wl"
 have h:if (lk p.1.rk p.2.1).isSome=true then Kn () (p.1,⟨⟩,()) else Ke XC (p.1,⟨⟩,()):=h
 cases q:(lk p.1.rk p.2.1).isSome with
 | true=>rw [q] at h;simpa using h
 | false=>rw [q] at h;simpa using h
abbrev j4k:Stmt:=mth (top 19) 16
abbrev j4m:List Str:=["self","row"]
theorem sc_must_hold:FnScope ["self","row","cell"] j4m (j0c j4k):=by walk_at "sc"
abbrev j3g (q:Cq) (C XS XC:Addr) (k:Nat):=Fmq q C "must_hold" j4m (j3c C XS XC) k
theorem k0n {f:Addr} {fd:FuncData} (F:Fun q.K "must_hold" "Body.must_hold" j4k f fd) (ct:CTx q.K C) (G_must_be_sum:Fkq q "must_be_sum" ["row"] (j6i XS) 2) (G_must_stand:j20 q C XC 2):Gq q 3 f fd j4m (j3c C XS XC):=by
 refine' j0n (k4z (j1f (by decide)) (D':=(Bd C false)×(List Int)×Un×Unit) (ms:=[0]) (j:=1) F sc_must_hold rfl rfl fun cdv A outer s H E hr =>
   (sw_c (j1e (j0r (j0o G_must_be_sum hr rfl j0j (j0d (j0a 1 (pv 1)) j0b))))
   (j0e (j2g (is:=[]) (mb:=[0]) (D1:=(Bd C false)×(List Int)×Int×Unit) (D2:=(Bd C false)×(List Int)×Int×Unit) (j1f (by decide)) own1 rfl (j17 (j0a 1 (pv 1))) (j03 2 (j0q (i:=2) sc_must_hold.nd rfl (Or.inl rfl)) (by decide))
   (j0e (j1e (j0r (j2w 0 G_must_stand hr ct.cl j0j (pv 0) (j0d (j0a 2 (pv 2)) j0b))))) (by decide) (by decide))))) fun p Kn Ke h=>?_
 walk_at "wl"
 have h:if asc p.2.1=true then (if allIn p.1 p.2.1=true then Kn () (p.1,⟨⟩,()) else Ke XC (p.1,⟨⟩,())) else Ke XS (p.1,⟨⟩,()):=h;refine ⟨fun ha=>?_,fun ha=>?_⟩
 ·have ha:asc p.2.1=true:=ha;rw [if_pos ha] at h;refine j1a (fun (r:List Int) (b:B0 C×List Int×WL.Un×Unit)=>b.1=p.1/\if allIn p.1 r=true then Kn () (p.1,⟨⟩,()) else Ke XC (p.1,⟨⟩,())) p.2.1 ⟨rfl,h⟩ ?_ ?_
  ·rintro c r b _ ⟨e,hb⟩ K2 hK;rw [j8g] at hb;show if (lk b.1.rk c).isSome=true then K2 _ else Ke XC (b.1,⟨⟩,());rw [e]
   cases q:(lk p.1.rk c).isSome with
   | false=>rw [q] at hb;simpa using hb
   | true =>
    rw [q,Bool.true_and] at hb;rw [if_pos rfl];exact hK _ ⟨rfl,hb⟩
  ·rintro b ⟨e,hb⟩;show Kn () (b.1,⟨⟩,());rw [e];exact hb
 ·have ha:asc p.2.1=false:=ha;rw [if_neg (by rw [ha];simp)] at h;exact h
abbrev j2a:Stmt:=mth (top 19) 17
abbrev j2c:List Str:=["self","row","rank"]
theorem sc_must_have_rank:FnScope ["self","row","rank","cell"] j2c (j0c j2a):=by walk_at "sc"
abbrev j57 (q:Cq) (C XO:Addr) (k:Nat):=Fmq q C "must_have_rank" j2c (j18 C XO) k
theorem j5l {f:Addr} {fd:FuncData} (F:Fun q.K "must_have_rank" "Body.must_have_rank" j2a f fd) (ct:CTx q.K C) (X_OtherRank:Xc q.K q.mg "OtherRank" XO):Gq q 2 f fd j2c (j18 C XO):=by
 refine' j0n (k4z (j1f (by decide)) (D':=(Bd C false)×(List Int)×Int×Un×Unit) (ms:=[0]) (j:=1) F sc_must_have_rank rfl rfl fun cdv A outer s H E hr =>
   (j0e (j2g (is:=[]) (mb:=[0]) (D1:=(Bd C false)×(List Int)×Int×Int×Unit) (D2:=(Bd C false)×(List Int)×Int×Int×Unit) (j1f (by decide)) own1 rfl (j17 (j0a 1 (pv 1))) (j03 3 (j0q (i:=3) sc_must_have_rank.nd rfl (Or.inl rfl)) (by decide))
   (j0e (j07 (j1w w6c (k8t .rk 0 trivial ct.cl ct.nR (hu1 hr) (pv 0) (j48 3 (pv 3))) (j0a 2 (pv 2)) (j0u _))
   (j0e (k4g rfl X_OtherRank))
   j00)) (by decide) (by decide)))) fun p Kn Ke h=>?_
 walk_at "wl"
 have h:allIn p.1 p.2.1=true/\if rks p.1 p.2.1 p.2.2.1=true then Kn () (p.1,⟨⟩,⟨⟩,()) else Ke XO (p.1,⟨⟩,⟨⟩,()):=h;refine j1a (fun (r:List Int) (b:B0 C×List Int×Int×WL.Un×Unit)=>b.1=p.1/\b.2.2.1=p.2.2.1/\allIn p.1 r=true/\if rks p.1 r p.2.2.1=true then Kn () (p.1,⟨⟩,⟨⟩,()) else Ke XO (p.1,⟨⟩,⟨⟩,())) p.2.1 ⟨rfl,rfl,h.1,h.2⟩ ?_ ?_
 ·rintro c r b _ ⟨e1,e2,hi,hb⟩ K2 hK;rw [j8g,Bool.and_eq_true] at hi;rw [w0g] at hb;obtain ⟨v,hv⟩:=Option.isSome_iff_exists.mp hi.1;refine ⟨v,by rw [e1];exact hv,?_⟩;rw [hv] at hb;rw [e2];by_cases q:v=p.2.2.1
  ·rw [if_neg (by simp [q])];refine hK _ ⟨e1,rfl,hi.2,?_⟩;rw [q] at hb;simpa using hb
  ·rw [if_pos (by simp [q]),e1];rw [if_neg (by simp [q])] at hb;exact hb
 ·rintro b ⟨e1,_,_,hb⟩;show Kn () (b.1,⟨⟩,⟨⟩,());rw [e1];exact hb
abbrev j4l:Stmt:=mth (top 19) 9
abbrev j4n:List Str:=["self","row"]
theorem k0b:FnScope ["self","row"] j4n (j0c j4l):=by walk_at "sc"
theorem j9i:(["cell","self"]:List Str).Nodup:=by decide +kernel
abbrev j7p (q:Cq) (C XS XC:Addr) (k:Nat):=Fmq q C "border_of" j4n (j4h C XS XC) k
theorem k0o {f:Addr} {fd:FuncData} (F:Fun q.K "border_of" "Body.border_of" j4l f fd) (ct:CTx q.K C) (G_total:Fkq q "total" ["rows"] k5a 3) (G_must_hold:j3g q C XS XC 3):Gq q 4 f fd j4n (j4h C XS XC):=by
 refine' j0n (fn_w (D':=Unit) (ms:=[0]) (j:=0) F k0b rfl rfl fun cdv A outer s H E hr =>
   (sw_c (j1e (j0r (j2w 0 G_must_hold hr ct.cl j0j (pv 0) (j0d (j0a 1 (pv 1)) j0b))))
   (j0e (j0t (j0o G_total hr rfl j0j (j0d (ew_o (j3d (Ts:=["cell"]) (Fr:=["self"]) (idx:=[0]) (k:=1) (mb:=[1]) (is:=[]) (cl:=[("self",s.heap.objs.size + 1)]) rfl (j17 (j0a 1 (pv 1))) ⟨rfl,rfl,by decide +kernel,by decide +kernel,(fun x c h=>by
    rcases lkc h with ⟨rfl,rfl⟩ | h
    ·rfl
    cases h),(fc (fun z=>by cases z) (fc (fun z=>by cases z) (fc (fun _=>⟨_,rfl⟩) fnil))),
    (fun j x h=>by
    match j,h with
    | 0,h=>cases h;exact ⟨0,_,rfl,rfl,.inl rfl,rfl,.inl rfl⟩
    | n + 1,h=>cases h),rfl⟩ rfl (j2s rfl) (fun s₀ H₀ C ex pn=>(j03 0 (j0q (i:=0) j9i rfl (Or.inl rfl)) (by decide))) (fun s₀ H₀ C ex pn=>j6m) (fun s₀ H₀ C ex pn=>(k2s 1 ct.cl ct.nB (hu1 hr) (pv 1) (j48 0 (pv 0)))))) j0b)))))) fun p Kn Ke h=>?_
 walk_at "wl"
 obtain ⟨ok,h⟩:=h;show if asc p.2.1=true then (if allIn p.1 p.2.1=true then _ else Ke XC (p.1,⟨⟩,())) else Ke XS (p.1,⟨⟩,());by_cases ha:asc p.2.1=true
 ·rw [if_pos ha] at h ⊢;by_cases hb:allIn p.1 p.2.1=true
  ·rw [if_pos hb] at h ⊢
   have lkb:∀ c∈p.2.1,lk p.1.bd c=some (bdr p.1 c):=fun c hc=>by obtain ⟨v,hv⟩:=Option.isSome_iff_exists.mp (ok.kb c (List.all_eq_true.mp hb c hc));unfold bdr;rw [hv];rfl
   refine ⟨k9p ok ha hb,j1d (f:=fun c=>some (Tp.mk (bdr p.1 c))) (fun c hc K hk=>⟨bdr p.1 c,lkb c hc,hk⟩) ?_⟩;refine ⟨rng 0 63,by rw [j1m];decide,fun r hr=>?_,?_⟩
   ·obtain ⟨c,hc,e⟩:=List.mem_filterMap.mp hr;cases e;obtain ⟨g1,g2⟩:=ok.bo c _ (lkb c hc);exact ⟨g1,fun x hx=>j5i (g2 x hx).1 (g2 x hx).2⟩
   ·have e:((p.2.1.filterMap fun c=>some (Tp.mk (bdr p.1 c))).map (·.l))=p.2.1.map (bdr p.1):=by rw [show (fun c=>some (Tp.mk (bdr p.1 c)))=some∘(fun c=>Tp.mk (bdr p.1 c)) from rfl,List.filterMap_eq_map,List.map_map];rfl
    show Kn ⟨tot ((p.2.1.filterMap fun c=>some (Tp.mk (bdr p.1 c))).map (·.l))⟩ _;rw [e];exact h
  ·rw [if_neg hb] at h ⊢;exact h
 ·rw [if_neg ha] at h ⊢;exact h
abbrev k1t:Stmt:=mth (top 19) 4
abbrev k19:List Str:=["self"]
theorem k98:FnScope ["self"] k19 (j0c k1t):=by walk_at "sc"
abbrev k20 (q:Cq) (C:Addr) (k:Nat):=Fmq q C "cells" k19 (k5l C) k
theorem w01 {f:Addr} {fd:FuncData} (F:Fun q.K "cells" "Body.cells" k1t f fd) (ct:CTx q.K C) (B:Bn q.mg):Gq q 2 f fd k19 (k5l C):=by
 refine' j0n (fn_w (D':=Unit) (ms:=[0]) (j:=0) F k98 rfl rfl fun cdv A outer s H E hr =>
   (j0e (j0t (k8w .rk 0 trivial ct.cl ct.nR rfl rfl B.sorted (pv 0))))) fun p Kn Ke h=>?_
 walk_at "wl"
 obtain ⟨ok,h⟩:=h;exact ⟨by have:=ok.lr;omega,ok.ri,h⟩
abbrev k1s:Stmt:=mth (top 19) 8
abbrev k18:List Str:=["self","cell"]
theorem k97:FnScope ["self","cell"] k18 (j0c k1s):=by walk_at "sc"
theorem k70:(["high","cell","self"]:List Str).Nodup:=by decide +kernel
abbrev w6s (q:Cq) (C XC:Addr) (k:Nat):=Fmq q C "over" k18 (w18 C XC) k
theorem w0y {f:Addr} {fd:FuncData} (F:Fun q.K "over" "Body.over" k1s f fd) (ct:CTx q.K C) (G_must_stand:j20 q C XC 2) (G_cells:k20 q C 2):Gq q 3 f fd k18 (w18 C XC):=by
 refine' j0n (fn_w (D':=Unit) (ms:=[0]) (j:=0) F k97 rfl rfl fun cdv A outer s H E hr =>
   (sw_c (j1e (j0r (j2w 0 G_must_stand hr ct.cl j0j (pv 0) (j0d (j0a 1 (pv 1)) j0b))))
   (j0e (j0t (j3d (Ts:=["high"]) (Fr:=["cell","self"]) (idx:=[1,0]) (k:=1) (mb:=[1,2]) (is:=[]) (cl:=[("self",s.heap.objs.size + 1),("cell",s.heap.objs.size + 1 + 1)]) rfl (j17 (ew_o (w1t 0 G_cells hr ct.cl j0j (pv 0)))) ⟨rfl,rfl,by decide +kernel,by decide +kernel,(fun x c h=>by
    rcases lkc h with ⟨rfl,rfl⟩ | h
    ·rfl
    rcases lkc h with ⟨rfl,rfl⟩ | h
    ·rfl
    cases h),(fc (fun z=>by cases z) (fc (fun z=>by cases z) (fc (fun _=>⟨_,rfl⟩) (fc (fun _=>⟨_,rfl⟩) fnil)))),
    (fun j x h=>by
    match j,h with
    | 0,h=>cases h;exact ⟨1,_,rfl,rfl,.inl rfl,rfl,.inl rfl⟩
    | 1,h=>cases h;exact ⟨0,_,rfl,rfl,.inl rfl,rfl,.inl rfl⟩
    | n + 2,h=>cases h),rfl⟩ rfl (j2s rfl) (fun s₀ H₀ C ex pn=>(j03 0 (j0q (i:=0) k70 rfl (Or.inl rfl)) (by decide))) (fun s₀ H₀ C ex pn=>(j21 (w64 (j0a 1 (pv 1)) (k2s 2 ct.cl ct.nB (hu1 hr) (pv 2) (j48 0 (pv 0))) (by with_unfolding_all rfl)))) (fun s₀ H₀ C ex pn=>(j0a 0 (pv 0)))))))) fun p Kn Ke h=>?_
 walk_at "wl"
 obtain ⟨ok,h⟩:=h;show if (lk p.1.rk p.2.1).isSome=true then _ else Ke XC (p.1,⟨⟩,());by_cases hs:(lk p.1.rk p.2.1).isSome=true
 ·rw [if_pos hs] at h ⊢;refine ⟨ok,?_,?_⟩
  ·show (p.1.rk.map (·.1)).length<=sizeLine;rw [List.length_map];have:=ok.lr;exact j08 (by omega)
  ·refine j1d (f:=fun k=>if decide (p.2.1∈bdr p.1 k)=true then some k else none) (fun k hk K hK=>?_) ?_
   ·obtain ⟨v,hv⟩:=Option.isSome_iff_exists.mp (ok.kb k (j53 hk));have e:bdr p.1 k=v:=by unfold bdr;rw [hv];rfl
    refine ⟨v,hv,?_⟩;rw [e] at hK;show if decide (p.2.1∈v)=true then _ else _;by_cases q:decide (p.2.1∈v)=true
    ·rw [if_pos q] at hK ⊢;exact hK
    ·rw [if_neg q] at hK ⊢;exact hK
   ·rw [j2e];exact h
 ·rw [if_neg hs] at h ⊢;exact h
abbrev w31:Stmt:=mth (top 19) 1
abbrev w41:List Str:=["self","rank","border"]
theorem sc_put:FnScope ["self","rank","border","cell"] w41 (j0c w31):=by walk_at "sc"
abbrev w9n (q:Cq) (C XB XS XC XO XP:Addr) (k:Nat):=Fmq q C "put" w41 (w3e C XB XS XC XO XP) k
theorem w78 {f:Addr} {fd:FuncData} (F:Fun q.K "put" "Body.put" w31 f fd) (ct:CTx q.K C) (G_must_hold:j3g q C XS XC 4) (G_must_have_rank:j57 q C XO 4) (G_border_of:j7p q C XS XC 4) (X_BadRank:Xc q.K q.mg "BadRank" XB) (X_Full:Xc q.K q.mg "Full" XF0) (X_OpenBorder:Xc q.K q.mg "OpenBorder" XP) {t_MOST_CELLS:Tok} (h_MOST_CELLS:q.mg "MOST_CELLS"=some (.int 120 t_MOST_CELLS)) {t_TOP_RANK:Tok} (h_TOP_RANK:q.mg "TOP_RANK"=some (.int 12 t_TOP_RANK)) (B:Bn q.mg):Gq q 5 f fd w41 (w3e C XB XS XC XO XP):=by
 refine' j0n (fn_w (D':=Unit) (ms:=[0]) (j:=1) F sc_put rfl rfl fun cdv A outer s H E hr =>
   (sw_c (j07 (tw_w (j8i (j1w w1y (j0a 1 (pv 1)) j0f (j0u _)) (j6f (j1w w6e (j0a 1 (pv 1)) (w20 rfl h_TOP_RANK) (j0u _)))))
   (j0e (k4g rfl X_BadRank))
   j00)
   (sw_c (j1e (j0r (j2w 0 G_must_hold hr ct.cl j0j (pv 0) (j0d (j0a 2 (pv 2)) j0b))))
   (sw_c (j1e (j0r (j2w 0 G_must_have_rank hr ct.cl j0j (pv 0) (j0d (j0a 2 (pv 2)) (j0d (j3v k3p (j0a 1 (pv 1)) j0f) j0b)))))
   (sw_c (j07 (k3a (j2w 0 G_border_of hr ct.cl j0j (pv 0) (j0d (j0a 2 (pv 2)) j0b)))
   (j0e (k4g rfl X_OpenBorder))
   j00)
   (sw_c (j07 (j1w w9b (w53 .rk 0 trivial ct.cl ct.nR rfl B.len (pv 0)) (w20 rfl h_MOST_CELLS) (j0u _))
   (j0e (k4g rfl X_Full))
   j00)
   (sw_c (j0y 3 sc_put.nd rfl (Or.inl rfl) (by decide) (j0z (w8w 0 ct.cl ct.nU (pv 0))))
   (sw_c (w4a .rk 0 trivial ct.cl ct.nR (hu1 hr) (pv 0) (j48 3 (pv 3)) (j0a 1 (pv 1)))
   (sw_c (w4d 0 ct.cl ct.nB (hu1 hr) (pv 0) (j48 3 (pv 3)) (w52 rfl B.tuple (er_w (j0a 2 (pv 2)))))
   (sw_c (w95 0 ct.cl ct.nU (pv 0) (j3v j4z (j0a 3 (pv 3)) j0f))
   (j0e (j0t (j0z (j0a 3 (pv 3))))))))))))))) fun p Kn Ke h=>?_
 walk_at "wl"
 obtain ⟨ok,hup,h⟩:=h
 have key:(if asc p.2.2.1=true then (if allIn p.1 p.2.2.1=true then (if rks p.1 p.2.2.1 (p.2.1 - 1)=true then
  (if tot (p.2.2.1.map (bdr p.1))=[] then Kn p.1.up ({ p.1 with rk:=pk p.1.rk p.1.up p.2.1,bd:=pk p.1.bd p.1.up p.2.2.1,up:=p.1.up + 1},⟨⟩,⟨⟩,()) else Ke XP (p.1,⟨⟩,⟨⟩,())) else Ke XO (p.1,⟨⟩,⟨⟩,())) else Ke XC (p.1,⟨⟩,⟨⟩,())) else Ke XS (p.1,⟨⟩,⟨⟩,())) ->
  j3c C XS XC (p.1,p.2.2.1,()) (fun y p'=>j18 C XO (p'.1,p.2.2.1,p.2.1 - 1,()) (fun y p'_1=>j4h C XS XC (p'_1.1,p.2.2.1,()) (fun y p'_2 =>
   if (!y.l.isEmpty)=true then Ke XP (p'_2.1,⟨⟩,⟨⟩,()) else if decide (120<=(p'_2.1.rk.length:Int))=true then Ke XF0 (p'_2.1,⟨⟩,⟨⟩,()) else p'_2.1.rk.length < sizeLine/\p'_2.1.bd.length < sizeLine/\lk p'_2.1.bd p'_2.1.up=none /\
    Kn p'_2.1.up ({ p'_2.1 with rk:=pk p'_2.1.rk p'_2.1.up p.2.1,bd:=pk p'_2.1.bd p'_2.1.up p.2.2.1,up:=p'_2.1.up + 1},⟨⟩,⟨⟩,()))
   fun C_1 p'=>Ke C_1 (p'.1,⟨⟩,⟨⟩,())) fun C_1 p'=>Ke C_1 (p'.1,⟨⟩,⟨⟩,())) fun C_1 p'=>Ke C_1 (p'.1,⟨⟩,⟨⟩,()):=by
  intro h;show if asc p.2.2.1=true then (if allIn p.1 p.2.2.1=true then _ else Ke XC (p.1,⟨⟩,⟨⟩,())) else Ke XS (p.1,⟨⟩,⟨⟩,());by_cases ha:asc p.2.2.1=true
  ·rw [if_pos ha] at h ⊢;by_cases hb:allIn p.1 p.2.2.1=true
   ·rw [if_pos hb] at h ⊢;refine ⟨hb,?_⟩;show if rks p.1 p.2.2.1 (p.2.1 - 1)=true then _ else Ke XO (p.1,⟨⟩,⟨⟩,());by_cases hc:rks p.1 p.2.2.1 (p.2.1 - 1)=true
    ·rw [if_pos hc] at h ⊢;refine ⟨ok,?_⟩;show if asc p.2.2.1=true then (if allIn p.1 p.2.2.1=true then _ else _) else _;rw [if_pos ha,if_pos hb];show if (!(tot (p.2.2.1.map (bdr p.1))).isEmpty)=true then _ else if decide (120<=(p.1.rk.length:Int))=true then _ else _;by_cases hd:tot (p.2.2.1.map (bdr p.1))=[]
     ·rw [if_pos hd] at h;have l1:=ok.lr;have l2:=ok.lb;have z:sizeLine=16777216:=sizeLine_eq;rw [hd,if_neg (by simp),if_neg (by simp;omega)];exact ⟨(by show p.1.rk.length < sizeLine;omega),(by show p.1.bd.length < sizeLine;omega),hup,h⟩
     ·rw [if_neg hd] at h;rw [if_pos (by simpa using hd)];exact h
    ·rw [if_neg hc] at h ⊢;exact h
   ·rw [if_neg hb] at h ⊢;exact h
  ·rw [if_neg ha] at h ⊢;exact h
 by_cases h1:p.2.1 < 0
 ·rw [if_pos (decide_eq_true h1),if_pos rfl];rw [if_pos (.inl h1)] at h;exact h
 ·rw [if_neg (by simpa using h1)];by_cases h2:12 < p.2.1
  ·rw [if_pos (decide_eq_true h2)];rw [if_pos (.inr h2)] at h;exact h
  ·rw [if_neg (by simpa using h2)];rw [if_neg (by intro z;rcases z with z | z;exact h1 z;exact h2 z)] at h;exact key h
abbrev k58:Stmt:=mth (top 19) 2
abbrev k66:List Str:=["self","cell"]
theorem w3t:FnScope ["self","cell"] k66 (j0c k58):=by walk_at "sc"
abbrev w29 (q:Cq) (C XC XV:Addr) (k:Nat):=Fmq q C "take" k66 (k5b C XC XV) k
theorem w48 {f:Addr} {fd:FuncData} (F:Fun q.K "take" "Body.take" k58 f fd) (ct:CTx q.K C) (G_overM:w6s q C XC 3) (X_Covered:Xc q.K q.mg "Covered" XV):Gq q 4 f fd k66 (k5b C XC XV):=by
 refine' j0n (k4z (j1f (by decide)) (D':=(Bd C false)×Int×Unit) (ms:=[0]) (j:=0) F w3t rfl rfl fun cdv A outer s H E hr =>
   (sw_c (j07 (k3a (j2w 0 G_overM hr ct.cl j0j (pv 0) (j0d (j0a 1 (pv 1)) j0b)))
   (j0e (k4g rfl X_Covered))
   j00)
   (sw_c (w4b .rk 0 trivial ct.cl ct.nR (pv 0) (j48 1 (pv 1)) (fun h1 h2=>k6u h1 h2))
   (j0e (w4e 0 ct.cl ct.nB (pv 0) (j48 1 (pv 1)) (fun h1 h2=>k6u h1 h2)))))) fun p Kn Ke h=>?_
 walk_at "wl"
 obtain ⟨ok,h⟩:=h;refine ⟨ok,?_⟩;show if (lk p.1.rk p.2.1).isSome=true then _ else Ke XC (p.1,⟨⟩,());by_cases hs:(lk p.1.rk p.2.1).isSome=true
 ·rw [if_pos hs] at h ⊢
  cases q:ovr p.1 p.2.1 with
  | nil =>
   rw [q,if_pos rfl] at h;exact ⟨hs,ok.kb _ hs,h⟩
  | cons a r =>
   rw [q,if_neg (by simp)] at h;exact h
 ·rw [if_neg hs] at h ⊢;exact h
abbrev j8u:Stmt:=mth (top 19) 3
abbrev j89:List Str:=["self","cell"]
theorem k51:FnScope ["self","cell"] j89 (j0c j8u):=by walk_at "sc"
abbrev w14 (q:Cq) (C:Addr) (k:Nat):=Fmq q C "stands" j89 (k23 C) k
theorem k7m {f:Addr} {fd:FuncData} (F:Fun q.K "stands" "Body.stands" j8u f fd) (ct:CTx q.K C):Gq q 2 f fd j89 (k23 C):=by
 refine' j0n (fn_w (D':=Unit) (ms:=[0]) (j:=0) F k51 rfl rfl fun cdv A outer s H E hr =>
   (j0e (j0t (j0z (w80 .rk false 0 trivial ct.cl ct.nR (hu1 hr) (j0a 1 (pv 1)) (pv 0)))))) fun p Kn Ke h=>?_
 walk_at "wl"
 exact h
abbrev j8z:Stmt:=mth (top 19) 5
abbrev j9d:List Str:=["self"]
theorem k55:FnScope ["self"] j9d (j0c j8z):=by walk_at "sc"
abbrev w17 (q:Cq) (C:Addr) (k:Nat):=Fmq q C "coming" j9d (k28 C) k
theorem k7q {f:Addr} {fd:FuncData} (F:Fun q.K "coming" "Body.coming" j8z f fd) (ct:CTx q.K C):Gq q 2 f fd j9d (k28 C):=by
 refine' j0n (fn_w (D':=Unit) (ms:=[0]) (j:=0) F k55 rfl rfl fun cdv A outer s H E hr =>
   (j0e (j0t (j0z (w8w 0 ct.cl ct.nU (pv 0)))))) fun p Kn Ke h=>?_
 walk_at "wl"
 exact h
abbrev k1r:Stmt:=mth (top 19) 6
abbrev k17:List Str:=["self","cell"]
theorem k96:FnScope ["self","cell"] k17 (j0c k1r):=by walk_at "sc"
abbrev w6r (q:Cq) (C XC:Addr) (k:Nat):=Fmq q C "rank" k17 (k1k C XC) k
theorem w0x {f:Addr} {fd:FuncData} (F:Fun q.K "rank" "Body.rank" k1r f fd) (ct:CTx q.K C) (G_must_stand:j20 q C XC 2):Gq q 3 f fd k17 (k1k C XC):=by
 refine' j0n (fn_w (D':=Unit) (ms:=[0]) (j:=0) F k96 rfl rfl fun cdv A outer s H E hr =>
   (sw_c (j1e (j0r (j2w 0 G_must_stand hr ct.cl j0j (pv 0) (j0d (j0a 1 (pv 1)) j0b))))
   (j0e (j0t (j0z (k8t .rk 0 trivial ct.cl ct.nR (hu1 hr) (pv 0) (j48 1 (pv 1)))))))) fun p Kn Ke h=>?_
 walk_at "wl"
 have h:if (lk p.1.rk p.2.1).isSome=true then Kn (rkk p.1 p.2.1) (p.1,⟨⟩,()) else Ke XC (p.1,⟨⟩,()):=h;show if (lk p.1.rk p.2.1).isSome=true then _ else Ke XC (p.1,⟨⟩,());by_cases q:(lk p.1.rk p.2.1).isSome=true
 ·rw [if_pos q] at h ⊢;exact ⟨_,w96 q,h⟩
 ·rw [if_neg q] at h ⊢;exact h
abbrev j80:Stmt:=mth (top 19) 7
abbrev j9e:List Str:=["self","cell"]
theorem k56:FnScope ["self","cell"] j9e (j0c j80):=by walk_at "sc"
abbrev k4b (q:Cq) (C XC:Addr) (k:Nat):=Fmq q C "border" j9e (j58 C XC) k
theorem k7r {f:Addr} {fd:FuncData} (F:Fun q.K "border" "Body.border" j80 f fd) (ct:CTx q.K C) (G_must_stand:j20 q C XC 2) (B:Bn q.mg):Gq q 3 f fd j9e (j58 C XC):=by
 refine' j0n (fn_w (D':=Unit) (ms:=[0]) (j:=0) F k56 rfl rfl fun cdv A outer s H E hr =>
   (sw_c (j1e (j0r (j2w 0 G_must_stand hr ct.cl j0j (pv 0) (j0d (j0a 1 (pv 1)) j0b))))
   (j0e (j0t (w1u rfl B.list (k2s 0 ct.cl ct.nB (hu1 hr) (pv 0) (j48 1 (pv 1)))))))) fun p Kn Ke h=>?_
 walk_at "wl"
 obtain ⟨ok,h⟩:=h;show if (lk p.1.rk p.2.1).isSome=true then _ else Ke XC (p.1,⟨⟩,());by_cases q:(lk p.1.rk p.2.1).isSome=true
 ·rw [if_pos q] at h ⊢;exact ⟨_,w8f ok q,h⟩
 ·rw [if_neg q] at h ⊢;exact h
end
theorem xr_b {a b:List Int} {x:Int} (hb:Ris b):decide (x∈xr a b)=xor (decide (x∈a)) (decide (x∈b)):=by have e:=j5v (l:=a) (x:=x) (j0l hb);by_cases p:x∈a<;>by_cases q:x∈b<;>simp [p,q,e]
theorem k22 {a b c:List Int} (ha:Ris a) (hb:Ris b) (hc:Ris c):xr (xr a b) c=xr a (xr b c):=j35 (j1x (j1x ha)) (j1x ha) fun x=>by rw [xr_b hc,xr_b hb,xr_b (j1x hb),xr_b hc,Bool.xor_assoc]
theorem j6t:Ris []:=List.Pairwise.nil
theorem k21 {b:List Int} (hb:Ris b):xr [] b=b:=j35 (j1x j6t) hb fun x=>by rw [xr_b hb,decide_eq_false (by simp),Bool.false_xor]
theorem j90 {a b:List Int} (ha:Ris a) (hb:Ris b) (h:xr a b=[]):a=b:=j35 ha hb fun x=>by have:=xr_b (a:=a) (x:=x) hb;rw [h,decide_eq_false (by simp)] at this;revert this;cases decide (x∈a)<;>cases decide (x∈b)<;>simp
def pgn (t:List Int) (c:Int):List Int:=if c∈t then [0] else []
def pr (t l:List Int):Bool:=Sf (pgn t) 0 l
theorem j5j {t l:List Int} {c:Int}:pr t (c :: l)=xor (decide (c∈t)) (pr t l):=by show xor (decide (0∈pgn t c)) _=_;congr 1;unfold pgn;by_cases q:c∈t<;>simp [q]
theorem w4p {t a b:List Int} (ha:Ris a):pr t (xr a b)=xor (pr t a) (pr t b):=w13 ha
theorem k0g {t:List Int}:∀ {l:List Int},pr t l=decide ((l.filter fun k=>decide (k∈t)).length % 2=1)
 | []=>rfl
 | c :: l=>by
  rw [j5j,k0g (l:=l)];by_cases q:c∈t
  ·rw [List.filter_cons_of_pos (by simpa using q),List.length_cons,decide_eq_true q];by_cases z:(l.filter fun k=>decide (k∈t)).length % 2=1
   ·rw [decide_eq_true z,decide_eq_false (by omega)];rfl
   ·rw [decide_eq_false z,decide_eq_true (by omega)];rfl
  ·rw [List.filter_cons_of_neg (by simpa using q),decide_eq_false q,Bool.false_xor]
theorem w6b {a b:List Int} (ha:Ris a) (hb:Ris b):(a.filter fun k=>decide (k∈b)).length=(b.filter fun k=>decide (k∈a)).length :=
 (j1q ((j0l ha).filter _) ((j0l hb).filter _) fun k=>by simp [List.mem_filter,and_comm]).length_eq
theorem k6v {t:List Int} {f:Int->List Int}:∀ {l a:List Int},Ris a->(∀ c∈l,pr t (f c)=false)->pr t ((l.map f).foldl xr a)=pr t a
 | [],_,_,_=>rfl
 | c :: l,a,ha,h=>by show pr t ((l.map f).foldl xr (xr a (f c)))=_;rw [k6v (j1x ha) fun y hy=>h y (List.mem_cons_of_mem _ hy),w4p ha,h c List.mem_cons_self,Bool.xor_false]
theorem w4s {t:List Int} {f:Int->List Int} {l:List Int} (h:∀ c∈l,pr t (f c)=false):pr t (bsum f l)=false:=k6v j6t h
theorem w0m {t:List Int} {k:Int}:∀ {l:List Int},k∉l->pr (t++[k]) l=pr t l
 | [],_=>rfl
 | c :: l,h=>by rw [j5j,j5j,w0m fun z=>h (List.mem_cons_of_mem _ z)];have:c≠k:=fun z=>h (by rw [z];exact List.mem_cons_self);simp [this]
theorem w4q {t:List Int} {k:Int} (nk:k∉t):∀ {l:List Int},l.Nodup->k∈l->pr (t++[k]) l=!pr t l
 | [],_,h=>by cases h
 | c :: l,n,h=>by
  have n':=List.nodup_cons.mp n;rw [j5j,j5j];by_cases e:c=k
  ·subst e;rw [w0m n'.1];simp [nk]
  ·have h':k∈l:=(List.mem_cons.mp h).elim (fun z=>absurd z.symm e) id;rw [w4q nk n'.2 h'];by_cases q:c∈t<;>simp [q,e]
theorem w4r {t:List Int}:∀ {l:List Int},pr t l=true->∃ c∈l,c∈t
 | [],h=>by cases h
 | c :: l,h=>by
  by_cases q:c∈t
  ·exact ⟨c,List.mem_cons_self,q⟩
  ·rw [j5j,decide_eq_false q,Bool.false_xor] at h;obtain ⟨d,d1,d2⟩:=w4r h;exact ⟨d,List.mem_cons_of_mem _ d1,d2⟩
structure I63 (l:List Int):Prop where
 ri:Ris l
 lt:∀ c∈l,0<=c/\c < 63
theorem I63.nil:I63 []:=⟨j6t,fun _ h=>by cases h⟩
theorem I63.one {c:Int} (h:0<=c/\c < 63):I63 [c]:=⟨List.pairwise_singleton _ _,fun d hd=>by rw [List.mem_singleton.mp hd];exact h⟩
theorem I63.xr {a b:List Int} (ha:I63 a) (hb:I63 b):I63 (xr a b):=⟨j1x ha.ri,fun c hc=>(j4r (j0l hb.ri) hc).elim (ha.lt c) (hb.lt c)⟩
theorem I63.mem {a:List Int} (ha:I63 a):∀ k∈a,k∈rng 0 63:=fun k hk=>j5i (ha.lt k hk).1 (ha.lt k hk).2
theorem I63.len {a:List Int} (ha:I63 a):a.length<=63:=by have:=j1h ha.ri ha.mem;rw [j1m] at this;exact this
theorem j1s {l:List Int} {m:Int} (h:Ris l) (e:l.getLast?=some m):m∈l/\∀ c∈l,c<=m:=by
 obtain ⟨r,rfl⟩:=List.getLast?_eq_some_iff.mp e;refine ⟨by simp,fun c hc=>?_⟩;rcases List.mem_append.mp hc with z | z
 ·exact Int.le_of_lt ((List.pairwise_append.mp h).2.2 c z m (by simp))
 ·rw [List.mem_singleton.mp z];exact Int.le_refl _
def topn (l:List Int):Nat:=(l.getLast?.map fun k=>(k + 1).toNat).getD 0
theorem w68 {a b:List Int} {k:Int} (ha:I63 a) (hb:I63 b) (ea:a.getLast?=some k) (eb:b.getLast?=some k):topn (xr a b) < topn a:=by
 obtain ⟨a1,a2⟩:=j1s ha.ri ea;obtain ⟨b1,b2⟩:=j1s hb.ri eb;have k0:=(ha.lt k a1).1;have et:topn a=(k + 1).toNat:=by unfold topn;rw [ea];rfl
 rw [et];unfold topn
 cases e:(xr a b).getLast? with
 | none=>show 0 < (k + 1).toNat;omega
 | some m =>
  show (m + 1).toNat < (k + 1).toNat;have m1:=(j1s (j1x ha.ri) e).1;have m2:m<=k:=(j4r (j0l hb.ri) m1).elim (a2 m) (b2 m)
  have m3:m≠k:=fun z=>by have q:=xr_b (a:=a) (x:=m) hb.ri;rw [decide_eq_true m1,z,decide_eq_true a1,decide_eq_true b1] at q;cases q
  omega
theorem atI_last {l:List Int} {k:Int} (e:l.getLast?=some k):atI l (-1)=some k:=by
 obtain ⟨r,rfl⟩:=List.getLast?_eq_some_iff.mp e
 have e1:ixN (r++[k]).length (-1)=some r.length:=by unfold ixN;rw [List.length_append,List.length_singleton,if_neg (by omega),if_pos (by omega)];congr 1;omega
 unfold atI;rw [e1];show (r++[k])[r.length]?=some k;rw [List.getElem?_append_right (Nat.le_refl _),Nat.sub_self];rfl
theorem j43 {l:List Int} (h:l≠[]):∃ k,l.getLast?=some k:=⟨l.getLast h,List.getLast?_eq_some_getLast h⟩
abbrev Rgs:=List (Int×List Int×List Int)
inductive Sp (L:Rgs):List Int->List Int->Prop
 | nil:Sp L [] []
 | add {k:Int} {b r x y:List Int}:(k,b,r)∈L->Sp L x y->Sp L (xr x b) (xr y r)
structure Rok (L:Rgs):Prop where
 el:∀ k b r,(k,b,r)∈L->I63 b/\I63 r/\b.getLast?=some k
 nd:(L.map (·.1)).Nodup
theorem Sp.mono {L L':Rgs} (h:∀ e∈L,e∈L') {x y:List Int} (s:Sp L x y):Sp L' x y:=by
 induction s with
 | nil=>exact .nil
 | add m _ ih=>exact .add (h _ m) ih
theorem Sp.i63 {L:Rgs} (h:Rok L) {x y:List Int} (s:Sp L x y):I63 x/\I63 y:=by
 induction s with
 | nil=>exact ⟨I63.nil,I63.nil⟩
 | add m _ ih=>exact ⟨ih.1.xr (h.el _ _ _ m).1,ih.2.xr (h.el _ _ _ m).2.1⟩
theorem k3t {β:Type} {k:Int} {v:β}:∀ {l:List (Int×β)},lk l k=some v->(k,v)∈l
 | [],h=>by cases h
 | e :: l,h=>by
  by_cases q:e.1=k
  ·unfold lk at h;rw [List.find?_cons,decide_eq_true q] at h;cases h;rw [<- q];exact List.mem_cons_self
  ·have:lk (e :: l) k=lk l k:=by unfold lk;rw [List.find?_cons,decide_eq_false q]
   rw [this] at h;exact List.mem_cons_of_mem _ (k3t h)
theorem k71 {β:Type} {k:Int} {v:β}:∀ {l:List (Int×β)},(l.map (·.1)).Nodup->(k,v)∈l->lk l k=some v
 | [],_,h=>by cases h
 | e :: l,n,h=>by
  rw [List.map_cons] at n;have n':=List.nodup_cons.mp n;rcases List.mem_cons.mp h with z | z
  ·unfold lk;rw [<- z,List.find?_cons,decide_eq_true rfl];rfl
  ·have q:e.1≠k:=fun q=>n'.1 (by rw [q];exact List.mem_map.mpr ⟨_,z,rfl⟩);have:lk (e :: l) k=lk l k:=by unfold lk;rw [List.find?_cons,decide_eq_false q]
   rw [this];exact k71 n'.2 z
theorem w8g {β:Type} {k:Int} {l:List (Int×β)} (h:lk l k=none):k∉l.map (·.1):=fun z=>by have:=j53 z;rw [h] at this;cases this
theorem w0n {β:Type} {l:List (Int×β)} {k:Int} {v:β} (h:lk l k=none):pk l k v=l++[(k,v)]:=by unfold pk;rw [h];rfl
theorem Rok.key {L:Rgs} (h:Rok L):∀ k∈L.map (·.1),0<=k/\k < 63:=fun k hk=>by obtain ⟨e,e1,rfl⟩:=List.mem_map.mp hk;have:=h.el e.1 e.2.1 e.2.2 e1;exact this.1.lt _ (j1s this.1.ri this.2.2).1
theorem Rok.len {L:Rgs} (h:Rok L):L.length<=63:=by have:=SX.j28 (L.map (·.1)) (rng 0 63) h.nd fun k hk=>j5i (h.key k hk).1 (h.key k hk).2;rw [List.length_map,j1m] at this;exact this
theorem Rok.add {L:Rgs} (h:Rok L) {k:Int} {b r:List Int} (hb:I63 b) (hr:I63 r) (e:b.getLast?=some k) (n:lk L k=none):Rok (L++[(k,b,r)]) where
 el:=fun k' b' r' m=>by
  rcases List.mem_append.mp m with z | z
  ·exact h.el _ _ _ z
  ·cases List.mem_singleton.mp z;exact ⟨hb,hr,e⟩
 nd:=by
  rw [List.map_append]
  exact List.nodup_append.mpr ⟨h.nd,by simp,fun x hx y hy z=>w8g n (by
   have q:y=k:=List.mem_singleton.mp hy
   rw [<- q,<- z];exact hx)⟩
def j7l (L:Rgs) (t:List Int) (k:Int):List Int:=if pr t ((lk L k).getD ([],[])).1=true then t++[k] else t
structure Bs (L:Rgs) (rest:List Int) (m:Int) (ks t:List Int):Prop where
 ri:Ris t
 me:m∈t
 ge:∀ c∈t,m<=c/\(c=m\/c∈L.map (·.1))
 lt:∀ c∈t,c=m\/∀ k∈ks,c < k
 ev:∀ k b r,(k,b,r)∈L->k∉ks->pr t b=false
 od:pr t rest=true
 up:∀ k∈L.map (·.1),k∉ks->∀ j∈ks,k < j
theorem Bs.step {L:Rgs} {rest t ks:List Int} {m k:Int} (hL:Rok L) (hr:I63 rest) (hm:rest.getLast?=some m) (hn:lk L m=none) (hk:k∈L.map (·.1)) (rk:Ris (k :: ks)) (h:Bs L rest m (k :: ks) t):Bs L rest m ks (j7l L t k):=by
 obtain ⟨⟨k',b,r⟩,e1,e2⟩:=List.mem_map.mp hk;have e2:k'=k:=e2;subst e2;have el:=hL.el _ _ _ e1;have ek:lk L k'=some (b,r):=k71 hL.nd e1;have lb:=j1s el.1.ri el.2.2;have rk':=List.pairwise_cons.mp rk
 have un:∀ b' r',(k',b',r')∈L->b'=b:=fun b' r' z=>by have:=k71 hL.nd z;rw [ek] at this;cases this;rfl
 have bs:j7l L t k'=if pr t b=true then t++[k'] else t:=by unfold j7l;rw [ek];rfl
 have up:∀ j∈L.map (·.1),j∉ks->∀ i∈ks,j < i:=fun j hj nj i hi=>by
  by_cases z:j=k'
  ·rw [z];exact rk'.1 i hi
  ·exact h.up j hj (fun q=>(List.mem_cons.mp q).elim z nj) i (List.mem_cons_of_mem _ hi)
 rw [bs];by_cases q:pr t b=true
 ·rw [if_pos q];obtain ⟨c,c1,c2⟩:=w4r q;have mk:m<=k':=Int.le_trans (h.ge c c2).1 (lb.2 c c1);have mk2:m≠k':=fun z=>w8g hn (by rw [z];exact hk);have mlt:m < k':=by omega
  have tl:∀ c∈t,c < k':=fun c hc=>(h.lt c hc).elim (fun z=>by rw [z];exact mlt) fun z=>z k' List.mem_cons_self;have kt:k'∉t:=fun z=>Int.lt_irrefl _ (tl _ z);refine ⟨List.pairwise_append.mpr ⟨h.ri,List.pairwise_singleton _ _,fun c hc d hd=>by rw [List.mem_singleton.mp hd];exact tl c hc⟩,List.mem_append_left _ h.me,fun c hc=>?_,fun c hc=>?_,fun j b' r' hj nj=>?_,?_,up⟩
  ·rcases List.mem_append.mp hc with z | z
   ·exact h.ge c z
   ·rw [List.mem_singleton.mp z];exact ⟨mk,.inr hk⟩
  ·rcases List.mem_append.mp hc with z | z
   ·exact (h.lt c z).elim .inl fun z=>.inr fun i hi=>z i (List.mem_cons_of_mem _ hi)
   ·rw [List.mem_singleton.mp z];exact .inr rk'.1
  ·by_cases z:j=k'
   ·subst z;rw [un _ _ hj,w4q kt (j0l el.1.ri) lb.1,q];rfl
   ·have nj':j∉k' :: ks:=fun q=>(List.mem_cons.mp q).elim z nj;have e':=hL.el _ _ _ hj;have jl:=h.up j (List.mem_map.mpr ⟨_,hj,rfl⟩) nj' k' List.mem_cons_self;rw [w0m (fun z=>by have:=(j1s e'.1.ri e'.2.2).2 _ z;omega)];exact h.ev _ _ _ hj nj'
  ·rw [w0m (fun z=>by have:=(j1s hr.ri hm).2 _ z;omega)];exact h.od
 ·rw [if_neg q];refine ⟨h.ri,h.me,h.ge,fun c hc=>(h.lt c hc).elim .inl fun z=>.inr fun i hi=>z i (List.mem_cons_of_mem _ hi),fun j b' r' hj nj=>?_,h.od,up⟩;by_cases z:j=k'
  ·subst z;rw [un _ _ hj];exact Bool.eq_false_iff.mpr q
  ·exact h.ev _ _ _ hj fun q=>(List.mem_cons.mp q).elim z nj
theorem Bs.start {L:Rgs} {rest ks:List Int} {m:Int} (hr:I63 rest) (hm:rest.getLast?=some m) (hk:∀ k,k∈ks↔k∈L.map (·.1)):Bs L rest m ks [m] where
 ri:=List.pairwise_singleton _ _
 me:=List.mem_singleton.mpr rfl
 ge:=fun c hc=>by rw [List.mem_singleton.mp hc];exact ⟨Int.le_refl _,.inl rfl⟩
 lt:=fun c hc=>.inl (List.mem_singleton.mp hc)
 ev:=fun k b r hj nj=>absurd ((hk k).mpr (List.mem_map.mpr ⟨_,hj,rfl⟩)) nj
 od:=by
  have:=w4q (t:=[]) (k:=m) (by simp) (j0l hr.ri) (j1s hr.ri hm).1;rw [List.nil_append] at this;rw [this]
  have z:∀ l:List Int,pr [] l=false:=fun l=>by
   cases q:pr [] l with
   | false=>rfl
   | true=>obtain ⟨c,_,h⟩:=w4r q;cases h
  rw [z];rfl
 up:=fun k hj nj=>absurd ((hk k).mpr hj) nj
theorem k5w {l:List Int} (h:l.Nodup):Ris (srt l):=w5q (j6o _) ((j32 l).nodup_iff.mpr h)
theorem Bs.fold {L:Rgs} {rest:List Int} {m:Int} (hL:Rok L) (hr:I63 rest) (hm:rest.getLast?=some m) (hn:lk L m=none):∀ {ks t:List Int},(∀ k∈ks,k∈L.map (·.1))->Ris ks->Bs L rest m ks t->Bs L rest m [] (ks.foldl (j7l L) t)
 | [],_,_,_,h=>h
 | k :: ks,t,hk,rk,h=>Bs.fold (ks:=ks) (t:=j7l L t k) hL hr hm hn (fun j hj=>hk j (List.mem_cons_of_mem k hj)) (List.pairwise_cons.mp rk).2 (h.step hL hr hm hn (hk k List.mem_cons_self) rk)
def k46 (L:Rgs) (m:Int):List Int:=(srt (L.map (·.1))).foldl (j7l L) [m]
theorem w9c {L:Rgs} {rest:List Int} {m:Int} (hL:Rok L) (hr:I63 rest) (hm:rest.getLast?=some m) (hn:lk L m=none):Bs L rest m [] (k46 L m) :=
 Bs.fold hL hr hm hn (fun k hk=>srt_mem.mp hk) (k5w hL.nd) (Bs.start hr hm fun k=>srt_mem)
section
variable (C:Addr)
def cls {C:Addr} (x:B0 C):List Int:=x.rk.map (·.1)
structure Gb {C:Addr} (x:B0 C):Prop where
 ok:Okb x
 ce:∀ k∈cls x,0<=k/\k < 63
 su:∀ k∈cls x,∀ c∈bdr x k,c∈cls x
theorem Gb.i63 {C:Addr} {x:B0 C} (h:Gb x) {c:Int} (hc:c∈cls x):I63 (bdr x c):=by have:=h.ok.bo c _ (w8f h.ok (j53 hc));exact ⟨this.1,this.2⟩
structure Rfl (f:Int->List Int) (cs:List Int) (L:Rgs):Prop where
 ok:Rok L
 su:∀ k b r,(k,b,r)∈L->bsum f r=b/\(∀ c∈r,c∈cs)/\∀ c∈b,c∈cs
theorem Rfl.sp {f:Int->List Int} {cs:List Int} {L:Rgs} (hf:∀ c∈cs,Ris (f c)) (h:Rfl f cs L) {x y:List Int} (s:Sp L x y):bsum f y=x/\(∀ c∈y,c∈cs)/\∀ c∈x,c∈cs:=by
 induction s with
 | nil=>exact ⟨rfl,fun _ z=>by (cases z),fun _ z=>by (cases z)⟩
 | add m t ih =>
  have i:=t.i63 h.ok;have e:=h.ok.el _ _ _ m;have u:=h.su _ _ _ m;refine ⟨?_,fun c hc=>(j4r (j0l e.2.1.ri) hc).elim (ih.2.1 c) (u.2.1 c),fun c hc=>(j4r (j0l e.1.ri) hc).elim (ih.2.2 c) (u.2.2 c)⟩;rw [k2z i.2.ri e.2.1.ri (fun c hc=>j0l (hf c (ih.2.1 c hc))) fun c hc=>j0l (hf c (u.2.1 c hc)),ih.1,u.1]
structure Fil (f:Int->List Int) (cs row l:List Int):Prop where
 ri:Ris l
 su:∀ c∈l,c∈cs
 eq:bsum f l=row
structure Bar (f:Int->List Int) (cs row t:List Int):Prop where
 ri:Ris t
 su:∀ c∈t,c∈cs
 ev:∀ c∈cs,pr t (f c)=false
 od:pr t row=true
theorem Fil.no {f:Int->List Int} {cs row l t:List Int} (h:Fil f cs row l) (b:Bar f cs row t):False:=by have:=w4s (t:=t) (f:=f) fun c hc=>b.ev c (h.su c hc);rw [h.eq,b.od] at this;cases this
theorem Sp.ev {L:Rgs} (h:Rok L) {t:List Int} (ht:∀ k b r,(k,b,r)∈L->pr t b=false) {x y:List Int} (s:Sp L x y):pr t x=false:=by
 induction s with
 | nil=>rfl
 | add m u ih=>rw [w4p (u.i63 h).1.ri,ih,ht _ _ _ m];rfl
theorem Rfl.bar {f:Int->List Int} {cs row x y:List Int} {L:Rgs} {m:Int} (hf:∀ c∈cs,I63 (f c)) (h:Rfl f cs L) (hs:∀ c∈cs,∃ y,Sp L (f c) y) (hr:I63 row) (hrc:∀ c∈row,c∈cs) (s:Sp L x y) (hm:(xr row x).getLast?=some m) (hn:lk L m=none):Bar f cs row (k46 L m):=by
 have i:=s.i63 h.ok;have b:=w9c h.ok (hr.xr i.1) hm hn;have ev:∀ k b' r,(k,b',r)∈L->pr (k46 L m) b'=false:=fun k b' r z=>b.ev k b' r z (by simp);refine ⟨b.ri,fun c hc=>?_,fun c hc=>(hs c hc).elim fun y sy=>sy.ev h.ok ev,?_⟩
 ·rcases (b.ge c hc).2 with z | z
  ·rw [z];rcases j4r (j0l i.1.ri) (j1s (j1x hr.ri) hm).1 with q | q
   ·exact hrc m q
   ·exact (h.sp (fun c hc=>(hf c hc).ri) s).2.2 m q
  ·obtain ⟨⟨k,b',r⟩,e1,rfl⟩:=List.mem_map.mp z;have e:=h.ok.el _ _ _ e1;exact (h.su _ _ _ e1).2.2 _ (j1s e.1.ri e.2.2).1
 ·have:=b.od;rw [w4p hr.ri,s.ev h.ok ev,Bool.xor_false] at this;exact this
theorem Rfl.fil {f:Int->List Int} {cs row x y:List Int} {L:Rgs} (hf:∀ c∈cs,I63 (f c)) (h:Rfl f cs L) (hr:I63 row) (s:Sp L x y) (e:xr row x=[]):Fil f cs row y:=by have i:=s.i63 h.ok;have z:=h.sp (fun c hc=>(hf c hc).ri) s;exact ⟨i.2.ri,z.2.1,by rw [z.1,j90 hr.ri i.1.ri e]⟩
theorem Rfl.add {f:Int->List Int} {cs x y:List Int} {L:Rgs} {c k:Int} (hf:∀ c∈cs,I63 (f c)) (hs:∀ c∈cs,∀ d∈f c,d∈cs) (h:Rfl f cs L) (hc:c∈cs) (hc0:0<=c/\c < 63) (s:Sp L x y) (e:(xr (f c) x).getLast?=some k) (n:lk L k=none):Rfl f cs (L++[(k,xr (f c) x,xr [c] y)])/\∃ y',Sp (L++[(k,xr (f c) x,xr [c] y)]) (f c) y':=by
 have i:=s.i63 h.ok;have z:=h.sp (fun c hc=>(hf c hc).ri) s;have hb:=(hf c hc).xr i.1;have hr:=(I63.one hc0).xr i.2;refine ⟨⟨h.ok.add hb hr e n,fun k' b' r' m=>?_⟩,?_⟩
 ·rcases List.mem_append.mp m with q | q
  ·exact h.su _ _ _ q
  ·cases List.mem_singleton.mp q;refine ⟨?_,fun d hd=>?_,fun d hd=>(j4r (j0l i.1.ri) hd).elim (hs c hc d) (z.2.2 d)⟩
   ·rw [k2z (I63.one hc0).ri i.2.ri (fun d hd=>by rw [List.mem_singleton.mp hd];exact j0l (hf c hc).ri) (fun d hd=>j0l (hf d (z.2.1 d hd)).ri),z.1];congr 1;exact k21 (hf c hc).ri
   ·rcases j4r (j0l i.2.ri) hd with q | q
    ·rw [List.mem_singleton.mp q];exact hc
    ·exact z.2.1 d q
 ·have s':=(s.mono (L':=L++[(k,xr (f c) x,xr [c] y)]) fun e he=>List.mem_append_left _ he);have:=Sp.add (L:=L++[(k,xr (f c) x,xr [c] y)]) (List.mem_append_right _ (List.mem_singleton.mpr rfl)) s';refine ⟨_,(?_:xr x (xr (f c) x)=f c)▸this⟩;refine j35 (j1x i.1.ri) (hf c hc).ri fun d=>?_;rw [xr_b hb.ri,xr_b i.1.ri];cases decide (d∈x)<;>cases decide (d∈f c)<;>rfl
def k5m:Wf (List Int×List Int×Unit) (OL Int) (WL.Un×WL.Un×Unit):=fun p Kn _=>I63 p.1/\I63 p.2.1/\Kn ⟨xr p.1 p.2.1⟩ (⟨⟩,⟨⟩,())
def k27:Wf (List Int×List Int×Unit) Bool (WL.Un×WL.Un×Unit):=fun p Kn _=>I63 p.1/\I63 p.2.1/\Kn (!pr p.2.1 p.1) (⟨⟩,⟨⟩,())
def j5c:Wf (B0 C×List Int×Unit) Bool (B0 C×WL.Un×Unit):=fun p Kn _=>Okb p.1/\asc p.2.1=true/\allIn p.1 p.2.1=true/\Kn (decide (bsum (bdr p.1) p.2.1=[])) (p.1,⟨⟩,())
def j6j:Wf (Dc (List Int×List Int)×List Int×OL Int×Unit) (Pq (List Int) Int) (Dc (List Int×List Int)×WL.Un×WL.Un×Unit):=fun p Kn _ =>
 Rok p.1.l/\I63 p.2.1/\I63 p.2.2.1.l/\∀ x y,Sp p.1.l x y->(∀ k,(xr p.2.1 x).getLast?=some k->lk p.1.l k=none)->Kn ⟨xr p.2.1 x,xr p.2.2.1.l y⟩ (p.1,⟨⟩,⟨⟩,())
def j7s:Wf (Dc (List Int×List Int)×List Int×OL Int×Unit) (Pq (List Int) Int) (WL.Un×WL.Un×WL.Un×Unit):=fun p Kn _ =>
 Rok p.1.l/\I63 p.2.1/\I63 p.2.2.1.l/\∀ x y,Sp p.1.l x y->(∀ k,(xr p.2.1 x).getLast?=some k->lk p.1.l k=none)->Kn ⟨xr p.2.1 x,xr p.2.2.1.l y⟩ (⟨⟩,⟨⟩,⟨⟩,())
def j25:Wf (B0 C×Unit) (Dc (List Int×List Int)) (B0 C×Unit):=fun p Kn _=>Gb p.1/\∀ L,Rfl (bdr p.1) (cls p.1) L->(∀ c∈cls p.1,∃ y,Sp L (bdr p.1 c) y)->Kn ⟨L⟩ (p.1,())
def j4s:Wf (B0 C×List Int×Unit) (Oo Int) (B0 C×WL.Un×Unit):=fun p Kn _=>Gb p.1/\Ris p.2.1/\(∀ c∈p.2.1,c∈cls p.1) /\
 (∀ t,Bar (bdr p.1) (cls p.1) p.2.1 t->Kn ⟨none⟩ (p.1,⟨⟩,()))/\∀ l,Fil (bdr p.1) (cls p.1) p.2.1 l->Kn ⟨some l⟩ (p.1,⟨⟩,())
def k9z:Wf (B0 C×List Int×Unit) (Oo Int) (B0 C×WL.Un×Unit):=fun p Kn _=>Gb p.1/\Ris p.2.1/\(∀ c∈p.2.1,c∈cls p.1) /\
 (∀ t,Bar (bdr p.1) (cls p.1) p.2.1 t->Kn ⟨some t⟩ (p.1,⟨⟩,()))/\∀ l,Fil (bdr p.1) (cls p.1) p.2.1 l->Kn ⟨none⟩ (p.1,⟨⟩,())
end
section
variable {C XC XS:Addr} {x:B0 C}
theorem j6c {row:List Int} {Kn:Unit->WL.Un×Unit->Prop} {Ke:Addr->WL.Un×Unit->Prop} (h:Ris row) (k:Kn () (⟨⟩,())):j6i XS (row,()) Kn Ke:=⟨fun _=>k,fun z=>by
 have z:asc row=false:=z;rw [(j3e row).mpr h] at z
 cases z⟩
theorem w10 {c:Int} {Kn:OL Int->B0 C×WL.Un×Unit->Prop} {Ke:Addr->B0 C×WL.Un×Unit->Prop} (g:Gb x) (hc:c∈cls x) (k:Kn ⟨bdr x c⟩ (x,⟨⟩,())):j58 C XC (x,c,()) Kn Ke:=by refine ⟨g.ok,?_⟩;show if (lk x.rk c).isSome=true then Kn ⟨bdr x c⟩ _ else _;rw [if_pos (j53 hc)];exact k
theorem w2v {row:List Int} {Kn:Unit->B0 C×WL.Un×Unit->Prop} {Ke:Addr->B0 C×WL.Un×Unit->Prop} (h:Ris row) (hs:∀ c∈row,c∈cls x) (k:Kn () (x,⟨⟩,())):j3c C XS XC (x,row,()) Kn Ke:=by show if asc row=true then (if allIn x row=true then _ else _) else _;rw [if_pos ((j3e row).mpr h),if_pos (show allIn x row=true from List.all_eq_true.mpr fun c hc=>j53 (hs c hc))];exact k
end
section
variable {q:Cq} {C XC XS XO XB XP XV XF0:Addr}
abbrev k1v:Stmt:=top 13
abbrev k2b:List Str:=["one","other"]
theorem k99:FnScope ["one","other"] k2b (j0c k1v):=by walk_at "sc"
abbrev w6u (q:Cq) (k:Nat):=Fkq q "added" k2b k5m k
theorem w03 {f:Addr} {fd:FuncData} (F:Dq1 q "added" k1v f fd) (G_must_be_sum:Fkq q "must_be_sum" ["row"] (j6i XS) 2) (B:Bn q.mg):Gq q 3 f fd k2b k5m:=by
 refine' j0n (fn_w (D':=Unit) (ms:=[]) (j:=0) F k99 rfl rfl fun cdv A outer s H E hr =>
   (sw_c (j1e (j0r (j0o G_must_be_sum hr rfl j0j (j0d (j0a 0 (pv 0)) j0b))))
   (sw_c (j1e (j0r (j0o G_must_be_sum hr rfl j0j (j0d (j0a 1 (pv 1)) j0b))))
   (j0e (j0t (w56 0 1 rfl rfl B.sorted rfl B.set (pv 0) (pv 1))))))) fun p Kn Ke h=>?_
 walk_at "wl"
 obtain ⟨h1,h2,hk⟩:=h;exact j6c h1.ri (j6c h2.ri ⟨⟨h1.ri,h2.ri,rng 0 63,by rw [j1m];decide,h1.mem,h2.mem⟩,hk⟩)
abbrev j8y:Stmt:=top 15
abbrev j9c:List Str:=["one","other"]
theorem k54:FnScope ["one","other"] j9c (j0c j8y):=by walk_at "sc"
abbrev w16 (q:Cq) (k:Nat):=Fkq q "evenly" j9c k27 k
theorem k7p {f:Addr} {fd:FuncData} (F:Dq1 q "evenly" j8y f fd) (G_must_be_sum:Fkq q "must_be_sum" ["row"] (j6i XS) 2) (B:Bn q.mg):Gq q 3 f fd j9c k27:=by
 refine' j0n (fn_w (D':=Unit) (ms:=[]) (j:=0) F k54 rfl rfl fun cdv A outer s H E hr =>
   (sw_c (j1e (j0r (j0o G_must_be_sum hr rfl j0j (j0d (j0a 0 (pv 0)) j0b))))
   (sw_c (j1e (j0r (j0o G_must_be_sum hr rfl j0j (j0d (j0a 1 (pv 1)) j0b))))
   (j0e (j0t (j0z (w54 j5u (k8r j52 (w55 0 1 rfl rfl B.len rfl B.set (pv 0) (pv 1)) j0f) j0f (j0u _)))))))) fun p Kn Ke h=>?_
 walk_at "wl"
 obtain ⟨h1,h2,hk⟩:=h;refine j6c h1.ri (j6c h2.ri ⟨⟨j0l h1.ri,by have:=h1.len;omega,by have:=h2.len;omega⟩,by decide,?_⟩)
 have e:(!pr p.2.1 p.1)=decide (((p.1.filter fun k=>decide (k∈p.2.1)).length:Int) % 2=0):=by
  rw [k0g];by_cases z:(p.1.filter fun k=>decide (k∈p.2.1)).length % 2=1
  ·rw [decide_eq_true z,decide_eq_false (by omega)];rfl
  ·rw [decide_eq_false z,decide_eq_true (by omega)];rfl
 rw [<- e];exact hk
abbrev j5g:Stmt:=top 21
abbrev j5k:List Str:=["body","row"]
theorem k1m:FnScope ["body","row"] j5k (j0c j5g):=by walk_at "sc"
abbrev k48 (q:Cq) (C:Addr) (k:Nat):=Fkq q "is_round" j5k (j5c C) k
theorem k2e {f:Addr} {fd:FuncData} (F:Dq1 q "is_round" j5g f fd) (ct:CTx q.K C) (G_border_of:j7p q C XS XC 4):Gq q 5 f fd j5k (j5c C):=by
 refine' j0n (fn_w (D':=Unit) (ms:=[0]) (j:=0) F k1m rfl rfl fun cdv A outer s H E hr =>
   (j0e (j0t (j0z (k31 (j7k hr.units) (er_w (ew_o (j2w 0 G_border_of hr ct.cl j0j (pv 0) (j0d (j0a 1 (pv 1)) j0b)))) (er_w (ew_o (j0w (Y:=Int) j0x))) (j0u _)))))) fun p Kn Ke h=>?_
 walk_at "wl"
 obtain ⟨h1,h2,h3,hk⟩:=h;refine ⟨h1,?_⟩;show if asc p.2.1=true then (if allIn p.1 p.2.1=true then _ else _) else _;rw [if_pos h2,if_pos h3];exact hk
abbrev j6s:Stmt:=top 25
abbrev j63:List Str:=["rungs","border","row"]
theorem sc_cleared:FnScope ["rungs","border","row","rung_border","rung_row"] j63 (j0c j6s):=by walk_at "sc"
abbrev k1g (q:Cq) (k:Nat):=Fkq q "cleared" j63 j6j k
theorem k4p {f:Addr} {fd:FuncData} (F:Dq1 q "cleared" j6s f fd) (G_added:w6u q 3):Gq q 4 f fd j63 j6j:=by
 refine' j0n (fn_w (D':=Unit) (ms:=[0]) (j:=2) F sc_cleared rfl rfl fun cdv A outer s H E hr =>
   (sw_c (w0a (mb:=[0]) (D2:=(Dc ((List Int)×(List Int)))×(List Int)×(OL Int)×(List Int)×(List Int)×Unit) (j1f (by decide)) own1 (tw_w (j6h (j6a (j0a 1 (pv 1))) (j6g (w3g 0 (hu1 hr) (j2v (er_w (j0a 1 (pv 1))) (k0y j0f)) (pv 0)))))
   (sw_c (w2f (j9o 3 4 (k0i rfl (j13 (j0q (i:=3) sc_cleared.nd rfl (Or.inl rfl)) (j13 (j0q (i:=4) sc_cleared.nd rfl (Or.inl rfl)) j6y))) (by decide) (by decide)) (k30 0 (hu1 hr) (pv 0) (j2v (er_w (j0a 1 (pv 1))) (k0y j0f))))
   (sw_c (j0y 1 sc_cleared.nd rfl (Or.inl rfl) (by decide) (j0z (ew_o (j0o G_added hr rfl j0j (j0d (j0a 1 (pv 1)) (j0d (j0a 3 (pv 3)) j0b))))))
   (j0e (j0y 2 sc_cleared.nd rfl (Or.inl rfl) (by decide) (j0o G_added hr rfl j0j (j0p (i:=2) (pv 2) (j0d (j0a 4 (pv 4)) j0b))))))) (by decide))
   (j0e (w0b 1 2 (pv 1) (pv 2))))) fun p Kn Ke h=>?_
 walk_at "wl"
 obtain ⟨h1,h2,h3,hk⟩:=h;refine ⟨fun m (d:Dc (List Int×List Int)×List Int×OL Int×WL.Un×WL.Un×Unit)=>d.1=p.1/\∃ x y,Sp p.1.l x y/\d.2.1=xr p.2.1 x/\d.2.2.1.l=xr p.2.2.1.l y/\m=topn d.2.1,⟨_,rfl,[],[],.nil,rfl,rfl,rfl⟩,?_⟩;rintro m ⟨d1,d2,⟨d3⟩,d4⟩ ⟨e1,x,y,s,e2,e3,e4⟩;dsimp only at e1 e2 e3 e4 ⊢;subst e1 e4 e2 e3;have i:=s.i63 h1;have bi:=h2.xr i.1;have ri:=h3.xr i.2;have fin:=hk x y s;by_cases q:xr p.2.1 x=[]
 ·rw [if_neg (by rw [q];decide),if_neg (by decide)];exact fin fun k z=>by rw [q] at z;cases z
 ·rw [if_pos (by simpa using q)];obtain ⟨k,ek⟩:=j43 q;refine ⟨k,atI_last ek,?_⟩;by_cases z:(lk p.1.l k).isSome=true
  ·rw [if_pos z];obtain ⟨v,hv⟩:=Option.isSome_iff_exists.mp z;have el:=h1.el k v.1 v.2 (k3t hv);refine ⟨k,atI_last ek,v,hv,bi,el.1,ri,el.2.1,_,w68 bi el.1 ek el.2.2,rfl,_,_,.add (k3t hv) s,?_,?_,rfl⟩
   ·exact k22 h2.ri i.1.ri el.1.ri
   ·exact k22 h3.ri i.2.ri el.2.1.ri
  ·rw [if_neg z]
   exact fin fun k' e=>by rw [ek] at e;cases e;exact Option.not_isSome_iff_eq_none.mp z
theorem k2f {f:Addr} {fd:FuncData} {k:Nat} (F:FnOk P w K mg base (CX1 P w) k f fd ["rungs","border","row"] (spW T j6j)):FnOk P w K mg base (CX1 P w) k f fd ["rungs","border","row"] (spW T j7s):=F.imp fun vs H Q E h=>w7d h
abbrev j1y:Stmt:=top 24
abbrev j1z:List Str:=["body"]
theorem sc_cleared_borders:FnScope ["body","rungs","cell","rest","row"] j1z (j0c j1y):=by walk_at "sc"
abbrev j3b (q:Cq) (C:Addr) (k:Nat):=Fkq q "cleared_borders" j1z (j25 C) k
theorem j40 {f:Addr} {fd:FuncData} (F:Dq1 q "cleared_borders" j1y f fd) (ct:CTx q.K C) (G_cleared:k1g q 4) (G_cells:k20 q C 4) (G_border:k4b q C XC 4):Gq q 5 f fd j1z (j25 C):=by
 refine' j0n (fn_w (D':=Unit) (ms:=[0]) (j:=4) F sc_cleared_borders rfl rfl fun cdv A outer s H E hr =>
   (sw_c (j0y 1 sc_cleared_borders.nd rfl (Or.inl rfl) (by decide) (eo_dc (Y:=((List Int)×(List Int)))))
   (sw_c (j2g (is:=[]) (mb:=[0]) (D1:=(Bd C false)×(Dc ((List Int)×(List Int)))×Int×Un×Un×Unit) (D2:=(Bd C false)×(Dc ((List Int)×(List Int)))×Int×(List Int)×(List Int)×Unit) (j1f (by decide)) own1 rfl (j17 (ew_o (w1t 0 G_cells hr ct.cl j0j (pv 0)))) (j03 2 (j0q (i:=2) sc_cleared_borders.nd rfl (Or.inl rfl)) (by decide))
   (sw_c (w2f (j9o 3 4 (k0i rfl (j13 (j0q (i:=3) sc_cleared_borders.nd rfl (Or.inl rfl)) (j13 (j0q (i:=4) sc_cleared_borders.nd rfl (Or.inl rfl)) j6y))) (by decide) (by decide)) (w8x (j0o G_cleared hr rfl j0j (j04 (i:=1) (pv 1) (j0d (ew_o (j2w 0 G_border hr ct.cl j0j (pv 0) (j0d (j0a 2 (pv 2)) j0b))) (j7o (j0w (j0i (j0a 2 (pv 2)) j0x)) j0b))))))
   (j0e (j07 (j6a (j0a 3 (pv 3)))
   (j0e (w0c 1 (hu1 hr) (pv 1) (j2v (er_w (j0a 3 (pv 3))) (k0y j0f)) (j1u (j0a 3 (pv 3)) (j0a 4 (pv 4)))))
   j00))) (by decide) (by decide))
   (j0e (j3q 1 (pv 1)))))) fun p Kn Ke h=>?_
 walk_at "wl"
 obtain ⟨g,hk⟩:=h;refine ⟨g.ok,?_⟩;have hf:∀ c∈cls p.1,I63 (bdr p.1 c):=fun c hc=>g.i63 hc;refine j1a (fun (r:List Int) (b:B0 C×Dc (List Int×List Int)×WL.Un×WL.Un×WL.Un×Unit)=>b.1=p.1/\(∀ c∈r,c∈cls p.1)/\Rfl (bdr p.1) (cls p.1) b.2.1.l/\∀ c∈cls p.1,c∈r\/∃ y,Sp b.2.1.l (bdr p.1 c) y) (cls p.1) (s:=(p.1,⟨[]⟩,⟨⟩,⟨⟩,⟨⟩,p.2)) ⟨rfl,fun c hc=>hc,⟨⟨(fun _ _ _ z=>by cases z),List.nodup_nil⟩,(fun _ _ _ z=>by cases z)⟩,fun c hc=>.inl hc⟩ ?_ ?_
 ·rintro c r ⟨b1,⟨L⟩,u3,u4,u5,u6⟩ _ ⟨e1,e2,e3,e4⟩ K hK;dsimp only at e1 e3 e4 ⊢;subst e1;have hc:=e2 c List.mem_cons_self;have nx:∀ L',Rfl (bdr p.1) (cls p.1) L'->(∀ e∈L,e∈L')->(∃ y,Sp L' (bdr p.1 c) y)->K (p.1,⟨L'⟩,⟨⟩,⟨⟩,⟨⟩,u6):=fun L' a1 a2 a3=>hK _ ⟨rfl,fun d hd=>e2 d (List.mem_cons_of_mem _ hd),a1,fun d hd=>(e4 d hd).elim (fun z=>(List.mem_cons.mp z).elim (fun z=>.inr (by rw [z];exact a3)) .inl) fun ⟨y,s⟩=>.inr ⟨y,s.mono a2⟩⟩;refine w10 g hc ⟨e3.ok,hf c hc,I63.one (g.ce c hc),fun x y s n=>?_⟩;dsimp only at n ⊢;by_cases q:xr (bdr p.1 c) x=[]
  ·rw [if_neg (by rw [q];decide)];exact nx L e3 (fun _ z=>z) ⟨y,by rw [j90 (hf c hc).ri (s.i63 e3.ok).1.ri q];exact s⟩
  ·rw [if_pos (by simpa using q)];obtain ⟨k,ek⟩:=j43 q;have ad:=e3.add hf g.su hc (g.ce c hc) s ek (n k ek);have ll:=e3.ok.len;refine ⟨k,atI_last ek,j3t (show L.length < 1000 by omega),?_⟩;rw [w0n (n k ek)];exact nx _ ad.1 (fun e he=>List.mem_append_left _ he) ad.2
 ·rintro ⟨b1,⟨L⟩,b3⟩ ⟨e1,_,e3,e4⟩;dsimp only at e1 e3 e4 ⊢;subst e1;exact hk L e3 fun c hc=>(e4 c hc).elim (fun z=>by cases z) id
abbrev j6q:Stmt:=top 22
abbrev j61:List Str:=["body","row"]
theorem sc_filling:FnScope ["body","row","rest","told"] j61 (j0c j6q):=by walk_at "sc"
abbrev k1f (q:Cq) (C:Addr) (k:Nat):=Fkq q "filling" j61 (j4s C) k
theorem k4n {f:Addr} {fd:FuncData} (F:Dq1 q "filling" j6q f fd) (ct:CTx q.K C) (G_clearedN:Fkq q "cleared" ["rungs","border","row"] j7s 5) (G_cleared_borders:j3b q C 5) (G_must_hold:j3g q C XS XC 5):Gq q 6 f fd j61 (j4s C):=by
 refine' j0n (fn_w (D':=Unit) (ms:=[0]) (j:=2) F sc_filling rfl rfl fun cdv A outer s H E hr =>
   (sw_c (j1e (j0r (j2w 0 G_must_hold hr ct.cl j0j (pv 0) (j0d (j0a 1 (pv 1)) j0b))))
   (sw_c (w36 2 3 (k0i rfl (j13 (j0q (i:=2) sc_filling.nd rfl (Or.inl rfl)) (j13 (j0q (i:=3) sc_filling.nd rfl (Or.inl rfl)) j6y))) (by decide) (by decide) (j0o G_clearedN hr rfl j0j (j7o (j0o G_cleared_borders hr rfl j0j (j04 (i:=0) (pv 0) j0b)) (j0d (j0a 1 (pv 1)) (j7o (j0w (Y:=Int) j0x) j0b)))))
   (sw_c (j07 (j6a (j0a 2 (pv 2)))
   (j0e (j0t w22))
   j00)
   (j0e (k3h 3 (pv 3))))))) fun p Kn Ke h=>?_
 walk_at "wl"
 obtain ⟨g,h1,h2,hb,hf⟩:=h;have ir:I63 p.2.1:=⟨h1,fun c hc=>g.ce c (h2 c hc)⟩;refine w2v h1 h2 ⟨g,fun L rf hs=>⟨rf.ok,ir,I63.nil,fun x y s n=>?_⟩⟩;dsimp only at n ⊢;by_cases q:xr p.2.1 x=[]
 ·rw [if_neg (by rw [q];decide),k21 (s.i63 rf.ok).2.ri];exact hf y (rf.fil (fun c hc=>g.i63 hc) ir s q)
 ·rw [if_pos (by simpa using q)];obtain ⟨k,ek⟩:=j43 q;exact hb _ (rf.bar (fun c hc=>g.i63 hc) hs ir h2 s ek (n k ek))
abbrev w33:Stmt:=top 23
abbrev w43:List Str:=["body","row"]
theorem sc_bar:FnScope ["body","row","rungs","rest","told","last","border"] w43 (j0c w33):=by walk_at "sc"
abbrev w9q (q:Cq) (C:Addr) (k:Nat):=Fkq q "bar" w43 (k9z C) k
theorem w8b {f:Addr} {fd:FuncData} (F:Dq1 q "bar" w33 f fd) (ct:CTx q.K C) (G_cleared_borders:j3b q C 5) (G_cleared:k1g q 5) (G_evenly:w16 q 5) (G_must_hold:j3g q C XS XC 5) (B:Bn q.mg):Gq q 6 f fd w43 (k9z C):=by
 refine' j0n (fn_w (D':=Unit) (ms:=[0]) (j:=5) F sc_bar rfl rfl fun cdv A outer s H E hr =>
   (sw_c (j1e (j0r (j2w 0 G_must_hold hr ct.cl j0j (pv 0) (j0d (j0a 1 (pv 1)) j0b))))
   (sw_c (j0y 2 sc_bar.nd rfl (Or.inl rfl) (by decide) (j0o G_cleared_borders hr rfl j0j (j04 (i:=0) (pv 0) j0b)))
   (sw_c (j0y 3 sc_bar.nd rfl (Or.inl rfl) (by decide) (j0z (j8a (w8x (j0o G_cleared hr rfl j0j (j04 (i:=2) (pv 2) (j0d (j0a 1 (pv 1)) (j7o (j0w (Y:=Int) j0x) j0b))))))))
   (sw_c (j07 (j14 (j6a (j0a 3 (pv 3))))
   (j0e (j0t w22))
   j00)
   (sw_c (j0y 4 sc_bar.nd rfl (Or.inl rfl) (by decide) (j0w (j0i (j2v (er_w (j0a 3 (pv 3))) (k0y j0f)) j0x)))
   (sw_c (j2g (is:=[]) (mb:=[0]) (D1:=(Bd C false)×(List Int)×(Dc ((List Int)×(List Int)))×(List Int)×(OL Int)×Int×Un×Unit) (D2:=(Bd C false)×(List Int)×(Dc ((List Int)×(List Int)))×(List Int)×(OL Int)×Int×(List Int)×Unit) (j1f (by decide)) own1 rfl (j17 (ew_o (k2t 2 rfl rfl B.sorted (pv 2)))) (j03 5 (j0q (i:=5) sc_bar.nd rfl (Or.inl rfl)) (by decide))
   (sw_c (j0y 6 sc_bar.nd rfl (Or.inl rfl) (by decide) (j0z (j8a (k30 2 (hu1 hr) (pv 2) (j0a 5 (pv 5))))))
   (j0e (j07 (j14 (j1r (j0r (j0o G_evenly hr rfl j0j (j0d (j0a 6 (pv 6)) (j0p (i:=4) (pv 4) j0b))))))
   (j0e (j2n 4 (pv 4) (j0a 5 (pv 5)) (fun h=>j2p (k0j PySem.F.plainAttrs_list PySem.F.slot_list_append PySem.F.type_list_append j16 (pv 4) h))))
   j00))) (by decide) (by decide))
   (j0e (k3h 4 (pv 4)))))))))) fun p Kn Ke h=>?_
 walk_at "wl"
 obtain ⟨g,h1,h2,hb,hf⟩:=h;have ir:I63 p.2.1:=⟨h1,fun c hc=>g.ce c (h2 c hc)⟩;refine w2v h1 h2 ⟨g,fun L rf hs=>⟨rf.ok,ir,I63.nil,fun x y s n=>?_⟩⟩;dsimp only at n ⊢;by_cases q:xr p.2.1 x=[]
 ·rw [if_pos (by rw [q];decide)];exact hf y (rf.fil (fun c hc=>g.i63 hc) ir s q)
 ·rw [if_neg (by simpa using q)];obtain ⟨k,ek⟩:=j43 q;have ll:=rf.ok.len;have i:=ir.xr (s.i63 rf.ok).1;have fin:=hb _ (rf.bar (fun c hc=>g.i63 hc) hs ir h2 s ek (n k ek));refine ⟨k,atI_last ek,(show L.length < 64 by omega),?_⟩;refine j1a (fun (r:List Int) (b:B0 C×List Int×Dc (List Int×List Int)×List Int×OL Int×WL.Un×WL.Un×Unit)=>b.1=p.1/\b.2.2.1.l=L/\(∀ j∈r,j∈L.map (·.1))/\Ris r/\Bs L (xr p.2.1 x) k r b.2.2.2.2.1.l/\r.foldl (j7l L) b.2.2.2.2.1.l=k46 L k) (srt (L.map (·.1))) (s:=(p.1,p.2.1,⟨L⟩,xr p.2.1 x,⟨[k]⟩,⟨⟩,⟨⟩,p.2.2)) ⟨rfl,rfl,fun j hj=>srt_mem.mp hj,k5w rf.ok.nd,Bs.start i ek fun j=>srt_mem,rfl⟩ ?_ ?_
  ·rintro j r ⟨b1,b2,⟨L'⟩,b4,⟨t⟩,b6⟩ _ ⟨e1,e2,e3,e4,e5,e6⟩ K hK;dsimp only at e1 e2 e5 e6 ⊢;subst e1 e2;obtain ⟨v,hv⟩:=Option.isSome_iff_exists.mp (j53 (e3 j List.mem_cons_self));have el:=rf.ok.el j v.1 v.2 (k3t hv);have st:=e5.step rf.ok i ek (n k ek) (e3 j List.mem_cons_self) e4;have ti:I63 t:=⟨e5.ri,fun c hc=>(e5.ge c hc).2.elim (fun z=>by rw [z];exact i.lt k (j1s i.ri ek).1) (rf.ok.key c)⟩;have tl:=ti.len;have bs:j7l L' t j=if pr t v.1=true then t++[j] else t:=by unfold j7l;rw [hv];rfl
   have e6:r.foldl (j7l L') (j7l L' t j)=k46 L' k:=e6;have e3':∀ i∈r,i∈L'.map (·.1):=fun i hi=>e3 i (List.mem_cons_of_mem _ hi);have e4':Ris r:=(List.pairwise_cons.mp e4).2;rw [bs] at st e6;refine ⟨v,hv,el.1,ti,?_⟩;dsimp only;by_cases q2:pr t v.1=true
   ·rw [if_pos (by rw [q2];rfl)];rw [if_pos q2] at st e6;exact ⟨j3t (show t.length < 1000 by omega),hK _ ⟨rfl,rfl,e3',e4',st,e6⟩⟩
   ·rw [if_neg (by rw [Bool.eq_false_iff.mpr q2];decide)];rw [if_neg q2] at st e6;exact hK _ ⟨rfl,rfl,e3',e4',st,e6⟩
  ·rintro ⟨b1,b2,⟨L'⟩,b4,⟨t⟩,b6⟩ ⟨e1,_,_,_,_,e6⟩;dsimp only at e1 e6 ⊢;subst e1;have e6:t=k46 L k:=e6;rw [e6];exact fin
end
abbrev k6d:Stmt:=top 38
abbrev j4e:=w60
abbrev RW:=Option (Int×List Int)
def j0s (rows:List RW) (k:Int):RW:=if 0<=k then (rows[k.toNat]?).join else none
def eb (rows:List RW) (k:Int):List Int:=((j0s rows k).map (·.2)).getD []
structure Vr (rows:List RW):Prop where
 ok:∀ k r e,j0s rows k=some (r,e)->0<=r/\r<=12/\Ris e/\(∀ c∈e,c < k/\∃ e',j0s rows c=some (r - 1,e'))/\bsum (eb rows) e=[]
 ln:rows.length<=95
 sm:∀ k r e,j0s rows k=some (r,e)->∀ c∈e,c < 35
def Lp (rows:List RW) (q:Int×List Int):Prop:=Ris q.2/\(∀ c∈q.2,∃ e,j0s rows c=some (q.1,e))/\bsum (eb rows) q.2=[]
def hrs (rows:List RW):List Int:=(rng 0 rows.length).filter fun k=>(j0s rows k).isSome
def stk:List RW:=[some (0,[]),some (0,[]),some (0,[]),some (0,[]),some (1,[0,1]),some (1,[0,2]),some (1,[0,3]),some (1,[1,2]),some (1,[1,3]),some (1,[2,3]),some (2,[4,5,7]),some (2,[4,6,8]),some (2,[5,6,9]),some (2,[7,8,9]),some (3,[10,11,12,13])]
def k24:Wf (Bg×Unit) Int (Bg×Unit):=fun p Kn _=>∀ r,0<=r->r<=12->Kn r (⟨⟩,())
def k5i:Wf (List Int×List Int×Unit) (OL Int) (WL.Un×WL.Un×Unit):=fun p Kn _=>(p.1.length<=1000/\p.2.1.length<=1000/\(p.1.filter fun k=>!decide (k∈p.2.1)).length + (p.2.1.filter fun k=>!decide (k∈p.1)).length < 64)/\Kn ⟨jn p.1 p.2.1⟩ (⟨⟩,⟨⟩,())
def k5j:Wf (List RW×Unit) (OL Int) (WL.Un×Unit):=fun p Kn _=>p.1.length < 1000/\Kn ⟨hrs p.1⟩ (⟨⟩,())
def k5d:Wf (Bg×List Int×Unit) (OL Int) (Bg×WL.Un×Unit):=fun p Kn _=>p.2.1.length < 60/\∀ l,Ris l->(∀ x∈l,x∈p.2.1)->Kn ⟨l⟩ (⟨⟩,⟨⟩,())
def k5k:Wf (List RW×List Int×Unit) (OL Int) (WL.Un×WL.Un×Unit):=fun p Kn _=>Vr p.1/\(∀ c∈p.2.1,(j0s p.1 c).isSome=true)/\Kn ⟨bsum (eb p.1) p.2.1⟩ (⟨⟩,⟨⟩,())
def k1i:Wf (Int×Unit) Bool (WL.Un×Unit):=fun p Kn _=>Kn true (⟨⟩,())
def w3d:Wf (List Int×Unit) Bool (WL.Un×Unit):=fun p Kn _=>Kn true (⟨⟩,())
def k5e:Wf (List Int×List Int×Unit) Bool (WL.Un×WL.Un×Unit):=fun p Kn _=>Kn (decide (p.1=p.2.1)) (⟨⟩,⟨⟩,())
def k5c:Wf (Int×Unit) (OL RW) (WL.Un×Unit):=fun p Kn _=>0<=p.1/\Kn ⟨stk.take p.1.toNat⟩ (⟨⟩,())
def j4t:Wf (OL RW×OL (Int×List Int)×Int×Bg×Unit) (OL Int) (OL RW×OL (Int×List Int)×WL.Un×Bg×Unit):=fun p Kn _ =>
 Vr p.1.l/\p.1.l.length<=34/\p.2.1.l.length<=100/\(∀ q∈p.2.1.l,Lp p.1.l q)/\0<=p.2.2.1/\p.2.2.1<=12 /\
 ∀ e q,Vr (p.1.l++[some (p.2.2.1,e)])->(∀ u∈p.2.1.l++q,Lp (p.1.l++[some (p.2.2.1,e)]) u)->q.length<=1->Kn ⟨e⟩ (p.1,⟨p.2.1.l++q⟩,⟨⟩,⟨⟩,())
def k5f:Wf (Bg×Int×Unit) (OL RW) (Bg×WL.Un×Unit):=fun p Kn _=>(0<=p.2.1/\p.2.1<=20)/\∀ rows,Vr rows->rows.length<=35->Kn ⟨rows⟩ (⟨⟩,⟨⟩,())
structure Cor {C:Addr} (x:B0 C) (rows:List RW):Prop where
 up:x.up=rows.length
 rk:∀ k,lk x.rk k=(j0s rows k).map (·.1)
 bd:∀ k,lk x.bd k=(j0s rows k).map (·.2)
 ks:x.rk.map (·.1)=hrs rows
 lb:x.bd.length<=rows.length
def w19 (C:Addr):Wf (B0 C×List RW×Unit) (B0 C) (WL.Un×WL.Un×Unit):=fun p Kn _=>p.1=⟨[],[],0,[],[]⟩/\Vr p.2.1/\∀ x,Cor x p.2.1->Kn x (⟨⟩,⟨⟩,())
def k1j:Wf (Bool×Bool×Unit) Bool (WL.Un×WL.Un×Unit):=fun p Kn _=>Kn (decide (p.1=p.2.1)) (⟨⟩,⟨⟩,())
def j3m (C:Addr):Wf (B0 C×List RW×Unit) Bool (B0 C×WL.Un×Unit):=fun p Kn _=>Cor p.1 p.2.1/\Vr p.2.1/\Kn true (p.1,⟨⟩,())
def ovl (rows:List RW) (c:Int):List Int:=(hrs rows).filter fun k=>decide (c∈eb rows k)
def k5g:Wf (List RW×Int×Unit) (OL Int) (WL.Un×WL.Un×Unit):=fun p Kn _=>p.1.length < 1000/\Kn ⟨ovl p.1 p.2.1⟩ (⟨⟩,⟨⟩,())
theorem j3y {Y:Type} {l:List Y} {i:Int} (h0:0<=i) (h1:i < (l.length:Int)):∃ x,atI l i=some x/\l[i.toNat]?=some x/\x∈l:=by
 have hl:i.toNat < l.length:=by omega
 have e:l[i.toNat]?=some l[i.toNat]:=List.getElem?_eq_getElem hl;have:=k9n e;rw [show ((i.toNat:Nat):Int)=i by omega] at this;exact ⟨_,this,e,List.getElem_mem hl⟩
theorem j9j {n k:Int} (h:k∈rng 0 n):0<=k/\k < n:=by unfold rng at h;obtain ⟨i,hi,e⟩:=List.mem_map.mp h;have:=List.mem_range.mp hi;omega
theorem j0v {rows:List RW} {k:Int} {y:Int×List Int} (h:j0s rows k=some y):0<=k/\k < (rows.length:Int)/\rows[k.toNat]?=some (some y)/\atI rows k=some (some y):=by
 unfold j0s at h;by_cases h0:0<=k
 ·rw [if_pos h0] at h
  cases e:rows[k.toNat]? with
  | none=>rw [e] at h;cases h
  | some z =>
   rw [e] at h;have h:z=some y:=h;subst h;have hl:=(List.getElem?_eq_some_iff.mp e).1;have h1:k < (rows.length:Int):=by omega
   obtain ⟨x,a1,a2,_⟩:=j3y h0 h1;rw [e] at a2;cases a2;exact ⟨h0,h1,rfl,a1⟩
 ·rw [if_neg h0] at h;cases h
theorem j82 {rows:List RW} {k:Int} (h0:0<=k) {z:RW} (e:rows[k.toNat]?=some z):j0s rows k=z:=by unfold j0s;rw [if_pos h0,e];rfl
theorem Vr.edge {rows:List RW} (v:Vr rows) {k:Int} {y:Int×List Int} (h:j0s rows k=some y):Ris y.2/\∀ x∈y.2,x∈rng 0 35:=by obtain ⟨_,_,h3,h4,_⟩:=v.ok k y.1 y.2 h;refine ⟨h3,fun x hx=>?_⟩;obtain ⟨_,e',h5⟩:=h4 x hx;obtain ⟨g0,g1,_⟩:=j0v h5;exact j5i g0 (v.sm k y.1 y.2 h x hx)
theorem j5b {rows:List RW} {k:Int} {y:Int×List Int} (h:j0s rows k=some y):eb rows k=y.2:=by unfold eb;rw [h];rfl
theorem w9a {Y:Type} (xs:List Y) {n:Int} (h:0<=n):cutL xs none (some n)=xs.take n.toNat:=by unfold cutL;rw [show (some n)=some ((n.toNat:Nat):Int) by rw [show ((n.toNat:Nat):Int)=n by omega],HT.sIx_nat,HT.sIx_none];simp
theorem j2h {g:Bg} {n:Int} {Kn:Int->Bg×WL.Un×Unit->Prop} {Ke:Addr->Bg×WL.Un×Unit->Prop} (h0:0 < n) (h1:n < 1073741824) (h:∀ r,0<=r->r < n->Kn r (⟨⟩,⟨⟩,())):j4e (g,n,()) Kn Ke:=⟨h0,h1,h⟩
theorem j09 {rows:List RW} {z:RW}:j0s (rows++[z]) (rows.length:Int)=z:=by refine j82 (by omega) ?_;rw [Int.toNat_natCast,List.getElem?_append_right (Nat.le_refl _),Nat.sub_self];rfl
theorem j1g {rows:List RW} {z:RW} {k:Int} (h:k≠(rows.length:Int)):j0s (rows++[z]) k=j0s rows k:=by
 unfold j0s;by_cases h0:0<=k
 ·rw [if_pos h0,if_pos h0];by_cases h1:k.toNat < rows.length
  ·rw [List.getElem?_append_left h1]
  ·rw [List.getElem?_eq_none (by rw [List.length_append,List.length_singleton];omega),List.getElem?_eq_none (by omega)]
 ·rw [if_neg h0,if_neg h0]
theorem k33 {rows:List RW} {z:RW} {k:Int} (h:k≠(rows.length:Int)):eb (rows++[z]) k=eb rows k:=by unfold eb;rw [j1g h]
theorem j2x {rows:List RW} {k:Int} {y:Int×List Int} (h:j0s rows k=some y):k≠(rows.length:Int):=fun z=>by have:=(j0v h).2.1;omega
theorem k1d {rows:List RW} {z:RW} (v:Vr rows) (hn:rows.length<=35) (hz:∀ r e,z=some (r,e)->0<=r/\r<=12/\Ris e/\(∀ c∈e,∃ e',j0s rows c=some (r - 1,e'))/\bsum (eb rows) e=[]):Vr (rows++[z]):=by
 refine ⟨fun k r e h=>?_,by rw [List.length_append,List.length_singleton];omega,fun k r e h c hc=>?_⟩
 rotate_left
 ·by_cases q:k=(rows.length:Int)
  ·rw [q,j09] at h;obtain ⟨e',q2⟩:=(hz r e h).2.2.2.1 c hc;have:=(j0v q2).2.1;omega
  ·rw [j1g q] at h;exact v.sm k r e h c hc
 have fin:∀ {k r e},0<=r/\r<=12/\Ris e/\(∀ c∈e,c < k/\∃ e',j0s rows c=some (r - 1,e'))/\bsum (eb rows) e=[]->0<=r/\r<=12/\Ris e/\(∀ c∈e,c < k/\∃ e',j0s (rows++[z]) c=some (r - 1,e'))/\bsum (eb (rows++[z])) e=[]:=fun {k r e} ⟨a,b,c,d,f⟩=>by
  refine ⟨a,b,c,fun x hx=>?_,?_⟩
  ·obtain ⟨q1,e',q2⟩:=d x hx;exact ⟨q1,e',by rw [j1g (j2x q2)];exact q2⟩
  ·rw [<- f];refine j11 fun x hx=>?_;obtain ⟨_,e',q2⟩:=d x hx;exact k33 (j2x q2)
 by_cases q:k=(rows.length:Int)
 ·rw [q,j09] at h;obtain ⟨a,b,c,d,f⟩:=hz r e h;refine fin ⟨a,b,c,fun x hx=>?_,f⟩;obtain ⟨e',q2⟩:=d x hx;exact ⟨by have:=(j0v q2).2.1;omega,e',q2⟩
 ·rw [j1g q] at h;exact fin (v.ok k r e h)
theorem k1e {rows:List RW} {z:RW} {u:Int×List Int} (h:Lp rows u):Lp (rows++[z]) u:=by
 obtain ⟨a,b,c⟩:=h;refine ⟨a,fun x hx=>?_,?_⟩
 ·obtain ⟨e,q⟩:=b x hx;exact ⟨e,by rw [j1g (j2x q)];exact q⟩
 ·rw [<- c];refine j11 fun x hx=>?_;obtain ⟨e,q⟩:=b x hx;exact k33 (j2x q)
theorem w27 {rows:List RW} {r:Int}:Lp (rows++[some (r,[])]) (r,[(rows.length:Int)]):=by
 refine ⟨List.pairwise_singleton _ _,fun x hx=>⟨[],?_⟩,?_⟩
 ·rw [List.mem_singleton.mp hx,j09]
 ·show xr [] (eb (rows++[some (r,[])]) (rows.length:Int))=[];rw [j5b (y:=(r,[])) j09];rfl
theorem w3c {e:List Int} (h:Ris e):xr e e=[]:=k1w (j1x h) List.Pairwise.nil fun k=>by rw [j5v (j0l h)];by_cases q:k∈e<;>simp [q]
theorem k9j {f:Int->List Int} {l:List Int} {c:Int}:bsum f (l++[c])=xr (bsum f l) (f c):=by unfold bsum tot;rw [List.map_append,List.foldl_append];rfl
theorem k9d {rows:List RW} {r:Int} {l:List Int} (v:Vr rows) (hl:Ris l) (h:∀ c∈l,∃ e,j0s rows c=some (r,e)) :
  (∀ c∈bsum (eb rows) l,∃ e',j0s rows c=some (r - 1,e'))/\bsum (eb rows) (bsum (eb rows) l)=[]/\Lp (rows++[some (r,bsum (eb rows) l)]) (r,l++[(rows.length:Int)]):=by
 have ed:∀ c∈l,Ris (eb rows c)/\(∀ d∈eb rows c,∃ e',j0s rows d=some (r - 1,e'))/\bsum (eb rows) (eb rows c)=[]:=fun c hc=>by obtain ⟨e,he⟩:=h c hc;obtain ⟨_,_,a,b,f⟩:=v.ok c r e he;rw [j5b he];exact ⟨a,fun d hd=>(b d hd).2,f⟩
 have nd:∀ {d q},j0s rows d=some q->(eb rows d).Nodup:=fun {d q} hd=>by rw [j5b hd];exact j0l (v.edge hd).1
 refine ⟨fun c hc=>?_,k9k fun c hc=>⟨(ed c hc).1,fun d hd=>?_,(ed c hc).2.2⟩,?_,fun x hx=>?_,?_⟩
 ·obtain ⟨d,hd,hx⟩:=k36 (fun c hc=>j0l (ed c hc).1) hc;exact (ed d hd).2.1 c hx
 ·obtain ⟨e',q⟩:=(ed c hc).2.1 d hd;exact nd q
 ·refine List.pairwise_append.mpr ⟨hl,List.pairwise_singleton _ _,fun a ha b hb=>?_⟩;obtain ⟨e,he⟩:=h a ha;rw [List.mem_singleton.mp hb];exact (j0v he).2.1
 ·rcases List.mem_append.mp hx with z | z
  ·obtain ⟨e,he⟩:=h x z;exact ⟨e,by rw [j1g (j2x he)];exact he⟩
  ·rw [List.mem_singleton.mp z];exact ⟨_,j09⟩
 ·show bsum _ (l++[(rows.length:Int)])=[];rw [k9j,j5b (y:=(r,bsum (eb rows) l)) j09,j11 (g:=eb rows) fun c hc=>?_]
  ·exact w3c (j39 _ _)
  ·obtain ⟨e,he⟩:=h c hc;exact k33 (j2x he)
theorem Lp.sub {rows:List RW} (hl:rows.length<=35) {u:Int×List Int} (h:Lp rows u):∀ x∈u.2,x∈rng 0 35:=fun x hx=>by obtain ⟨e,q⟩:=h.2.1 x hx;have:=j0v q;exact j5i (by omega) (by omega)
theorem hrs_mem {rows:List RW} {k:Int}:k∈hrs rows↔(j0s rows k).isSome=true:=by unfold hrs;rw [List.mem_filter];refine ⟨fun h=>h.2,fun h=>⟨?_,h⟩⟩;obtain ⟨y,hy⟩:=Option.isSome_iff_exists.mp h;have:=j0v hy;exact j5i this.1 this.2.1
theorem j2r (rows:List RW):(hrs rows).length<=rows.length:=by have:=List.length_filter_le (fun k=>(j0s rows k).isSome) (rng 0 rows.length);rw [j1m] at this;unfold hrs;omega
theorem w5u (rows:List RW):Ris (hrs rows):=by refine List.Pairwise.filter _ ?_;unfold rng;rw [List.pairwise_map];refine List.Pairwise.imp ?_ (List.pairwise_lt_range);intro a b h;omega
theorem w0f (n:Nat):rng 0 ((n + 1:Nat):Int)=rng 0 (n:Int)++[(n:Int)]:=by unfold rng;rw [show (((n + 1:Nat):Int) - 0).toNat=n + 1 by omega,show ((n:Int) - 0).toNat=n by omega,List.range_succ,List.map_append];simp
theorem w5v {rows:List RW} {z:RW}:hrs (rows++[z])=hrs rows++if z.isSome=true then [(rows.length:Int)] else []:=by
 unfold hrs;rw [List.length_append,List.length_singleton,w0f,List.filter_append];congr 1
 ·refine List.filter_congr fun k hk=>?_;rw [j1g (by have:=j9j hk;omega)]
 ·rw [List.filter_cons,j09];rfl
theorem k3v {rows:List RW} {y:Int×List Int}:hrs (rows++[some y])=hrs rows++[(rows.length:Int)]:=w5v
theorem j4o {β:Type} {e:Int×β} {l:List (Int×β)} {j:Int}:lk (e :: l) j=if e.1=j then some e.2 else lk l j:=by
 by_cases q:e.1=j
 ·rw [if_pos q];unfold lk;rw [List.find?_cons,decide_eq_true q];rfl
 ·rw [if_neg q];unfold lk;rw [List.find?_cons,decide_eq_false q]
theorem k74 {β:Type} {k j:Int} {v:β}:∀ {l:List (Int×β)},lk l k=none->lk (l++[(k,v)]) j=if j=k then some v else lk l j
 | [],_=>by
  rw [List.nil_append,j4o];by_cases q:j=k
  ·rw [if_pos q,if_pos q.symm]
  ·rw [if_neg q,if_neg (fun z=>q z.symm)]
 | e :: l,h=>by
  rw [j4o] at h;by_cases z:e.1=k
  ·rw [if_pos z] at h;cases h
  ·rw [if_neg z] at h;rw [List.cons_append,j4o,j4o,k74 h];by_cases q:e.1=j
   ·rw [if_pos q,if_pos q,if_neg (fun w=>z (q.trans w))]
   ·rw [if_neg q,if_neg q]
theorem k3l {β:Type} {l:List (Int×β)} {k:Int} {v:β} (h:lk l k=none):pk l k v=l++[(k,v)]:=by unfold pk;rw [h];rfl
theorem w5p {β:Type} {k j:Int}:∀ {l:List (Int×β)},lk (dk l k) j=if j=k then none else lk l j
 | []=>by unfold dk;rw [List.filter_nil];split<;>rfl
 | e :: l=>by
  have ih:=w5p (k:=k) (j:=j) (l:=l);unfold dk at ih ⊢;rw [List.filter_cons];by_cases z:e.1=k
  ·rw [if_neg (by simpa using z),ih,j4o];by_cases q:j=k
   ·rw [if_pos q,if_pos q]
   ·rw [if_neg q,if_neg q,if_neg (fun w=>q (w.symm.trans z))]
  ·rw [if_pos (by simpa using z),j4o,j4o,ih];by_cases q:e.1=j
   ·rw [if_pos q,if_pos q,if_neg (fun w=>z (q.trans w))]
   ·rw [if_neg q,if_neg q]
theorem k0e {rows:List RW} {k:Int} (h:(rows.length:Int)<=k):j0s rows k=none:=by
 cases e:j0s rows k with
 | none=>rfl
 | some y=>have:=(j0v e).2.1;omega
theorem j2o {rows:List RW} {j k:Int} (h0:0<=j):j0s (rows.set j.toNat none) k=if k=j then none else j0s rows k:=by
 by_cases q:k=j
 ·rw [if_pos q,q];unfold j0s;rw [if_pos h0];by_cases h1:j.toNat < rows.length
  ·rw [List.getElem?_set_self h1];rfl
  ·rw [List.getElem?_eq_none (by rw [List.length_set];omega)];rfl
 ·rw [if_neg q];unfold j0s;by_cases hk:0<=k
  ·rw [if_pos hk,if_pos hk,List.getElem?_set_ne (by omega)]
  ·rw [if_neg hk,if_neg hk]
theorem k3w {rows:List RW} {j:Int} (h0:0<=j):hrs (rows.set j.toNat none)=(hrs rows).filter fun k=>!decide (k=j):=by unfold hrs;rw [List.length_set,List.filter_filter];refine List.filter_congr fun k _=>?_;rw [j2o h0];by_cases q:k=j<;>simp [q]
section
variable {C XC XS XO XB XP XV:Addr} {x:B0 C} {rows:List RW}
theorem Cor.lr (c:Cor x rows):x.rk.length<=rows.length:=by have:=congrArg List.length c.ks;rw [List.length_map] at this;rw [this];exact j2r rows
theorem Cor.okb (c:Cor x rows) (v:Vr rows):Okb x:=by
 have l:=v.ln;have l1:=c.lr;have l2:=c.lb;refine ⟨fun k h=>?_,fun k b h=>?_,by rw [c.ks];exact (w5u rows).imp Int.le_of_lt,by omega,by omega⟩
 ·rw [c.rk,Option.isSome_map] at h;rw [c.bd,Option.isSome_map];exact h
 ·rw [c.bd] at h
  cases e:j0s rows k with
  | none=>rw [e] at h;cases h
  | some y =>
   rw [e] at h;cases h;obtain ⟨_,_,a,b,_⟩:=v.ok k y.1 y.2 e;refine ⟨a,fun d hd=>?_⟩;obtain ⟨e',q⟩:=(b d hd).2;have:=j0v q;exact ⟨this.1,by have:=v.sm k y.1 y.2 e d hd;omega⟩
theorem Cor.bdr (c:Cor x rows) (k:Int):bdr x k=eb rows k:=by unfold K7.bdr eb;rw [c.bd]
theorem Cor.put (c:Cor x rows) {r:Int} {e:List Int}:Cor ({ x with rk:=pk x.rk x.up r,bd:=pk x.bd x.up e,up:=x.up + 1}:B0 C) (rows++[some (r,e)]):=by
 have n:j0s rows x.up=none:=k0e (by rw [c.up];exact Int.le_refl _);have n1:lk x.rk x.up=none:=by rw [c.rk,n];rfl
 have n2:lk x.bd x.up=none:=by rw [c.bd,n];rfl
 have l1:=c.lr;have l2:=c.lb;refine ⟨?_,fun k=>?_,fun k=>?_,?_,?_⟩
 ·show x.up + 1=_;rw [c.up,List.length_append,List.length_singleton];omega
 ·show lk (pk x.rk x.up r) k=_;rw [k3l n1,k74 n1];by_cases q:k=x.up
  ·rw [if_pos q,q,c.up,j09];rfl
  ·rw [if_neg q,j1g (by rw [<- c.up];exact q),c.rk]
 ·show lk (pk x.bd x.up e) k=_;rw [k3l n2,k74 n2];by_cases q:k=x.up
  ·rw [if_pos q,q,c.up,j09];rfl
  ·rw [if_neg q,j1g (by rw [<- c.up];exact q),c.bd]
 ·show (pk x.rk x.up r).map (·.1)=_;rw [k3l n1,List.map_append,c.ks,k3v,<- c.up];rfl
 ·show (pk x.bd x.up e).length<=_;rw [k3l n2,List.length_append,List.length_append,List.length_singleton,List.length_singleton];omega
theorem Cor.take (c:Cor x rows) {j:Int} (h0:0<=j):Cor ({ x with rk:=dk x.rk j,bd:=dk x.bd j}:B0 C) (rows.set j.toNat none):=by
 have l1:=c.lr;have l2:=c.lb;refine ⟨by rw [List.length_set];exact c.up,fun k=>?_,fun k=>?_,?_,?_⟩
 ·show lk (dk x.rk j) k=_;rw [w5p,j2o h0,c.rk];split<;>rfl
 ·show lk (dk x.bd j) k=_;rw [w5p,j2o h0,c.bd];split<;>rfl
 ·show (dk x.rk j).map (·.1)=_;rw [k3w h0,<- c.ks];unfold dk;rw [List.filter_map];congr 1;refine List.filter_congr fun e _=>?_;by_cases q:e.1=j<;>simp [q]
 ·rw [List.length_set];exact Nat.le_trans (List.length_filter_le _ _) l2
theorem w9h (v:Vr rows) {j:Int} (h0:0<=j) (ho:∀ h,j∉eb rows h):Vr (rows.set j.toNat none):=by
 refine ⟨fun k r e h=>?_,by rw [List.length_set];exact v.ln,fun k r e h=>?_⟩
 rotate_left
 ·rw [j2o h0] at h;split at h
  ·cases h
  ·exact v.sm k r e h
 rw [j2o h0] at h;by_cases q:k=j
 ·rw [if_pos q] at h;cases h
 ·rw [if_neg q] at h;obtain ⟨a,b,c,d,f⟩:=v.ok k r e h;have hj:∀ x∈e,x≠j:=fun x hx z=>ho k (by rw [j5b h,<- z];exact hx);refine ⟨a,b,c,fun x hx=>⟨(d x hx).1,?_⟩,?_⟩
  ·obtain ⟨e',q2⟩:=(d x hx).2;exact ⟨e',by rw [j2o h0,if_neg (hj x hx)];exact q2⟩
  ·rw [<- f];refine j11 fun x hx=>?_;unfold eb;rw [j2o h0,if_neg (hj x hx)]
theorem Cor.allIn (c:Cor x rows) {row:List Int} (h:∀ k∈row,(j0s rows k).isSome=true):allIn x row=true:=List.all_eq_true.mpr fun k hk=>by rw [c.rk,Option.isSome_map];exact h k hk
theorem k6q {r:Int} {e:List Int} {Kn:Int->B0 C×WL.Un×WL.Un×Unit->Prop} {Ke:Addr->B0 C×WL.Un×WL.Un×Unit->Prop} (c:Cor x rows) (v:Vr rows) (r0:0<=r) (r1:r<=12) (he:Ris e) (hc:∀ d∈e,∃ e',j0s rows d=some (r - 1,e')) (hb:bsum (eb rows) e=[])
  (k:∀ x':B0 C,Cor x' (rows++[some (r,e)])->Kn x.up (x',⟨⟩,⟨⟩,())):w3e C XB XS XC XO XP (x,r,e,()) Kn Ke:=by
 have n:j0s rows x.up=none:=k0e (by rw [c.up];exact Int.le_refl _);refine ⟨c.okb v,(by show lk x.bd x.up=none;rw [c.bd,n];rfl),?_⟩;show if r < 0\/12 < r then _ else if asc e=true then (if K7.allIn x e=true then (if rks x e (r - 1)=true then (if tot (e.map (K7.bdr x))=[] then Kn x.up _ else _) else _) else _) else _;rw [if_neg (by omega),if_pos ((j3e e).mpr he),if_pos (c.allIn fun d hd=>by obtain ⟨e',q⟩:=hc d hd;rw [q];rfl),if_pos,if_pos]
 ·exact k _ c.put
 ·rw [List.map_congr_left fun d _=>c.bdr d];exact hb
 ·refine List.all_eq_true.mpr fun d hd=>decide_eq_true ?_;obtain ⟨e',q⟩:=hc d hd;rw [c.rk,q];rfl
theorem k7h (c:Cor x rows) {j h:Int}:h∈ovr x j↔(j0s rows h).isSome=true/\j∈eb rows h:=by
 unfold ovr;rw [List.mem_filter,decide_eq_true_eq,c.bdr];constructor
 ·rintro ⟨a,b⟩;have:=j53 a;rw [c.rk,Option.isSome_map] at this;exact ⟨this,b⟩
 ·rintro ⟨a,b⟩;exact ⟨k73 (by rw [c.rk,Option.isSome_map];exact a),b⟩
theorem k7g (c:Cor x rows) {j:Int}:ovr x j=[]↔∀ h,j∉eb rows h:=by
 rw [List.eq_nil_iff_forall_not_mem];constructor
 ·intro z h hj;refine z h ((k7h c).mpr ⟨?_,hj⟩)
  cases e:j0s rows h with
  | none=>unfold eb at hj;rw [e] at hj;cases hj
  | some y=>rfl
 ·intro z h hj;exact z h ((k7h c).mp hj).2
theorem k5s {j:Int} {Kn:Unit->B0 C×WL.Un×Unit->Prop} {Ke:Addr->B0 C×WL.Un×Unit->Prop} (c:Cor x rows) (v:Vr rows) (hs:(j0s rows j).isSome=true) (ho:∀ h,j∉eb rows h)
  (k:∀ x':B0 C,Cor x' (rows.set j.toNat none)->Kn () (x',⟨⟩,())):k5b C XC XV (x,j,()) Kn Ke:=by
 refine ⟨c.okb v,?_⟩;show if (lk x.rk j).isSome=true then (if ovr x j=[] then Kn () _ else _) else _;rw [if_pos (by rw [c.rk,Option.isSome_map];exact hs),if_pos ((k7g c).mpr ho)];obtain ⟨y,hy⟩:=Option.isSome_iff_exists.mp hs;exact k _ (c.take (j0v hy).1)
end
theorem j2k {rows:List RW} {n:Nat} {j:Int}:j0s (rows.take n) j=if j < (n:Int) then j0s rows j else none:=by
 unfold j0s;by_cases h0:0<=j
 ·rw [if_pos h0,if_pos h0,List.getElem?_take];by_cases h1:j < (n:Int)
  ·rw [if_pos h1,if_pos (by omega)]
  ·rw [if_neg h1,if_neg (by omega)];rfl
 ·rw [if_neg h0,if_neg h0];split<;>rfl
theorem w6o {rows:List RW} (v:Vr rows) (n:Nat):Vr (rows.take n):=by
 refine ⟨fun k r e h=>?_,Nat.le_trans (List.length_take_le' _ _) v.ln,fun k r e h=>?_⟩
 rotate_left
 ·rw [j2k] at h;split at h
  ·exact v.sm k r e h
  ·cases h
 rw [j2k] at h;by_cases q:k < (n:Int)
 ·rw [if_pos q] at h;obtain ⟨a,b,c,d,f⟩:=v.ok k r e h;refine ⟨a,b,c,fun x hx=>⟨(d x hx).1,?_⟩,?_⟩
  ·obtain ⟨q1,e',q2⟩:=d x hx;exact ⟨e',by rw [j2k,if_pos (by omega)];exact q2⟩
  ·rw [<- f];refine j11 fun x hx=>?_;have:=(d x hx).1;unfold eb;rw [j2k,if_pos (by omega)]
 ·rw [if_neg q] at h;cases h
def LpB (rows:List RW) (u:Int×List Int):Bool:=asc u.2&&u.2.all (fun c=>decide ((j0s rows c).map (·.1)=some u.1))&&decide (bsum (eb rows) u.2=[])
theorem k6o {rows:List RW} {c r:Int} (h:(j0s rows c).map (·.1)=some r):∃ e,j0s rows c=some (r,e):=by
 cases e:j0s rows c with
 | none=>rw [e] at h;cases h
 | some y=>rw [e] at h;cases h;exact ⟨y.2,rfl⟩
theorem w28 {rows:List RW} {u:Int×List Int} (h:LpB rows u=true):Lp rows u:=by unfold LpB at h;rw [Bool.and_eq_true,Bool.and_eq_true] at h;exact ⟨(j3e _).mp h.1.1,fun c hc=>k6o (of_decide_eq_true (List.all_eq_true.mp h.1.2 c hc)),of_decide_eq_true h.2⟩
def VrB (rows:List RW):Bool:=decide (rows.length<=27)&&(List.range rows.length).all fun k=>match j0s rows (k:Int) with
 | none=>true
 | some (r,e)=>decide (0<=r)&&decide (r<=12)&&asc e&&e.all (fun c=>decide (c < (k:Int))&&decide ((j0s rows c).map (·.1)=some (r - 1)))&&decide (bsum (eb rows) e=[])
theorem w26 {rows:List RW} (h:VrB rows=true):Vr rows:=by
 unfold VrB at h;rw [Bool.and_eq_true] at h;have hl:=of_decide_eq_true h.1
 suffices g:∀ k r e,j0s rows k=some (r,e)->0<=r/\r<=12/\Ris e/\(∀ c∈e,c < k/\∃ e',j0s rows c=some (r - 1,e'))/\bsum (eb rows) e=[] from ⟨g,by omega,fun k r e hk c hc=>by
  have:=((g k r e hk).2.2.2.1 c hc).1;have:=j0v hk
  omega⟩
 intro k r e hk;have q:=j0v hk;have z:=List.all_eq_true.mp h.2 k.toNat (List.mem_range.mpr (by omega));rw [show ((k.toNat:Nat):Int)=k by omega,hk] at z;simp only [Bool.and_eq_true,decide_eq_true_eq,List.all_eq_true] at z;exact ⟨z.1.1.1.1,z.1.1.1.2,(j3e _).mp z.1.1.2,fun c hc=>⟨(z.1.2 c hc).1,k6o (z.1.2 c hc).2⟩,z.2⟩
def lp0 (n:Nat):List (Int×List Int):=(rng 0 n).filterMap fun k=>if decide (k < 4)=true then some (0,[k]) else none
def lp1:List (Int×List Int):=[(1,[4,5,7]),(1,[4,6,8]),(1,[5,6,9])]
def chk (m:Nat):Bool:=VrB (stk.take m)&&(lp0 (stk.take m).length).all (LpB (stk.take m))&&decide ((lp0 (stk.take m).length).length<=4)&&decide ((stk.take m).length<=15)&&(decide ((stk.take m).length<=9)||lp1.all (LpB (stk.take m)))
theorem w6f:(List.range 16).all chk=true:=by decide +kernel
theorem w2t {a b:List Int} (ha:Ris a) (hb:Ris b) (sa:∀ k∈a,k∈rng 0 35) (sb:∀ k∈b,k∈rng 0 35):a.length<=1000/\b.length<=1000/\(a.filter fun k=>!decide (k∈b)).length + (b.filter fun k=>!decide (k∈a)).length < 64:=by
 have l1:=j1h ha sa;have l2:=j1h hb sb;have l3:=SX.j28 ((a.filter fun k=>!decide (k∈b))++b.filter fun k=>!decide (k∈a)) (rng 0 35) (List.nodup_append.mpr ⟨(j0l ha).filter _,(j0l hb).filter _,fun x hx y hy e=>?_⟩) fun k hk=>?_
 ·rw [List.length_append] at l3;rw [j1m] at l1 l2 l3;omega
 ·have q:=(List.mem_filter.mp hx).2;rw [e] at q;simp [(List.mem_filter.mp hy).1] at q
 ·rcases List.mem_append.mp hk with z | z
  ·exact sa k (List.mem_filter.mp z).1
  ·exact sb k (List.mem_filter.mp z).1
theorem k8b {a b:List Int} (h:a.length + b.length < 64):a.length<=1000/\b.length<=1000/\(a.filter fun k=>!decide (k∈b)).length + (b.filter fun k=>!decide (k∈a)).length < 64:=by have l1:=List.length_filter_le (fun k=>!decide (k∈b)) a;have l2:=List.length_filter_le (fun k=>!decide (k∈a)) b;omega
theorem k57 {a b:List Int} {Kn:Bool->WL.Un×WL.Un×Unit->Prop} {Ke:Addr->WL.Un×WL.Un×Unit->Prop} (e:a=b) (k:Kn true (⟨⟩,⟨⟩,())):k5e (a,b,()) Kn Ke:=by show Kn (decide (a=b)) _;rw [decide_eq_true e];exact k
theorem k3d {a b:Bool} {Kn:Bool->WL.Un×WL.Un×Unit->Prop} {Ke:Addr->WL.Un×WL.Un×Unit->Prop} (e:a=b) (k:Kn true (⟨⟩,⟨⟩,())):k1j (a,b,()) Kn Ke:=by show Kn (decide (a=b)) _;rw [decide_eq_true e];exact k
section
variable {C XC:Addr} {x:B0 C} {rows:List RW}
theorem Cor.stand (c:Cor x rows) (k:Int):(lk x.rk k).isSome=decide (k∈hrs rows):=by
 rw [c.rk,Option.isSome_map];by_cases q:(j0s rows k).isSome=true
 ·rw [q,decide_eq_true (hrs_mem.mpr q)]
 ·rw [decide_eq_false (fun z=>q (hrs_mem.mp z))];simpa using q
theorem Cor.rkk (c:Cor x rows) {k:Int} {y:Int×List Int} (h:j0s rows k=some y):rkk x k=y.1:=by unfold K7.rkk;rw [c.rk,h];rfl
theorem k6n {k:Int} {y:Int×List Int} {Kn:Int->B0 C×WL.Un×Unit->Prop} {Ke:Addr->B0 C×WL.Un×Unit->Prop} (c:Cor x rows) (h:j0s rows k=some y) (g:Kn y.1 (x,⟨⟩,())):k1k C XC (x,k,()) Kn Ke:=by show if (lk x.rk k).isSome=true then Kn (K7.rkk x k) _ else _;rw [if_pos (by rw [c.rk,h];rfl),c.rkk h];exact g
theorem k9l {k:Int} {y:Int×List Int} {Kn:OL Int->B0 C×WL.Un×Unit->Prop} {Ke:Addr->B0 C×WL.Un×Unit->Prop} (c:Cor x rows) (v:Vr rows) (h:j0s rows k=some y) (g:Kn ⟨y.2⟩ (x,⟨⟩,())):j58 C XC (x,k,()) Kn Ke:=by refine ⟨c.okb v,?_⟩;show if (lk x.rk k).isSome=true then Kn ⟨K7.bdr x k⟩ _ else _;rw [if_pos (by rw [c.rk,h];rfl),c.bdr,j5b h];exact g
end
theorem k9x {n:Int} {Kn:Bool->WL.Un×Unit->Prop} {Ke:Addr->WL.Un×Unit->Prop} (k:Kn true (⟨⟩,())):k1i (n,()) Kn Ke:=k
def rrk (rows:List RW) (k:Int):Int:=((j0s rows k).map (·.1)).getD 0
theorem w2g {rows:List RW} {k:Int} {y:Int×List Int} (h:j0s rows k=some y):rrk rows k=y.1:=by unfold rrk;rw [h];rfl
theorem Vr_pt {rows:List RW} (v:Vr rows) (hn:rows.length<=94):Vr (rows++[some (0,[])]):=by
 refine ⟨fun k r e h=>?_,by rw [List.length_append,List.length_singleton];omega,fun k r e h c hc=>?_⟩
 ·by_cases q:k=(rows.length:Int)
  ·rw [q,j09] at h;cases h;exact ⟨Int.le_refl 0,by decide,List.Pairwise.nil,(fun _ z=>by cases z),rfl⟩
  ·rw [j1g q] at h;obtain ⟨a,b,c,d,f⟩:=v.ok k r e h;refine ⟨a,b,c,fun x hx=>?_,?_⟩
   ·obtain ⟨q1,e',q2⟩:=d x hx;exact ⟨q1,e',by rw [j1g (j2x q2)];exact q2⟩
   ·rw [<- f];refine j11 fun x hx=>?_;obtain ⟨_,e',q2⟩:=d x hx;exact k33 (j2x q2)
 ·by_cases q:k=(rows.length:Int)
  ·rw [q,j09] at h;cases h;cases hc
  ·rw [j1g q] at h;exact v.sm k r e h c hc
theorem w6p {C:Addr}:Cor (⟨[],[],0,[],[]⟩:B0 C) []:=by
 have n:∀ k,j0s [] k=none:=fun k=>by unfold j0s;split<;>rfl
 exact ⟨rfl,(fun k=>by rw [n];rfl),(fun k=>by rw [n];rfl),rfl,Nat.le_refl _⟩
section
variable {C XC XV:Addr} {x:B0 C} {rows:List RW} {j:Int} {Kn:Str->B0 C×WL.Un×Unit->Prop} {Ke:Addr->B0 C×WL.Un×Unit->Prop}
theorem Cor.ovl (c:Cor x rows) (j:Int):ovr x j=ovl rows j:=by unfold ovr K7.ovl;rw [c.ks];exact List.filter_congr fun k _=>by rw [c.bdr]
end
def w6x:Wf (List Int×Unit) Bool (WL.Un×Unit):=fun p Kn _=>Ris p.1/\p.1.length<=1000/\Kn true (⟨⟩,())
def k25:Wf (List Int×List Int×Unit) (OL Int) (WL.Un×WL.Un×Unit):=fun p Kn _=>p.1.length<=1000/\Kn ⟨p.1.filter fun k=>decide (k∈p.2.1)⟩ (⟨⟩,⟨⟩,())
def w6y:Wf (List Int×List Int×Unit) Bool (WL.Un×WL.Un×Unit):=fun p Kn _=>p.1.length<=1000/\Kn (pr p.2.1 p.1) (⟨⟩,⟨⟩,())
def k26:Wf (List RW×List Int×List Int×Unit) Bool (WL.Un×WL.Un×WL.Un×Unit):=fun p Kn _=>Vr p.1/\Ris p.2.2.1/\p.2.1.length<=1000/\Bar (eb p.1) (hrs p.1) p.2.2.1 p.2.1/\Kn true (⟨⟩,⟨⟩,⟨⟩,())
inductive FB (rows:List RW) (row:List Int):Option (List Int)->Option (List Int)->Prop
 | fil {l:List Int} (h:Fil (eb rows) (hrs rows) row l):FB rows row (some l) none
 | bar {t:List Int} (h:Bar (eb rows) (hrs rows) row t):FB rows row none (some t)
def j19:Wf (List RW×Option (List Int)×Option (List Int)×List Int×Unit) Bool (WL.Un×WL.Un×WL.Un×WL.Un×Unit):=fun p Kn _=>Vr p.1/\Ris p.2.2.2.1/\FB p.1 p.2.2.2.1 p.2.1 p.2.2.1/\Kn true (⟨⟩,⟨⟩,⟨⟩,⟨⟩,())
def k1l (C:Addr):Wf (B0 C×List RW×List Int×Unit) Bool (B0 C×WL.Un×WL.Un×Unit):=fun p Kn _=>Cor p.1 p.2.1/\Vr p.2.1/\p.2.1.length<=60/\Ris p.2.2.1/\(∀ c∈p.2.2.1,c∈hrs p.2.1)/\Kn true (p.1,⟨⟩,⟨⟩,())
section
variable {C:Addr} {x:B0 C} {rows:List RW}
theorem Cor.cls (c:Cor x rows):K7.cls x=hrs rows:=c.ks
theorem Cor.bdf (c:Cor x rows):K7.bdr x=eb rows:=funext c.bdr
theorem Cor.gb (c:Cor x rows) (v:Vr rows) (hl:rows.length<=60):Gb x where
 ok:=c.okb v
 ce:=fun k hk=>by rw [c.cls] at hk;have:=j9j (List.mem_filter.mp hk).1;omega
 su:=fun k hk d hd=>by rw [c.cls] at hk ⊢;rw [c.bdr] at hd;obtain ⟨y,hy⟩:=Option.isSome_iff_exists.mp (hrs_mem.mp hk);rw [j5b hy] at hd;obtain ⟨e',h'⟩:=((v.ok k y.1 y.2 hy).2.2.2.1 d hd).2;exact hrs_mem.mpr (by rw [h'];rfl)
theorem j38 {row:List Int} {Kn:Oo Int->B0 C×WL.Un×Unit->Prop} {Ke:Addr->B0 C×WL.Un×Unit->Prop} (c:Cor x rows) (v:Vr rows) (hl:rows.length<=60) (hr:Ris row) (hs:∀ d∈row,d∈hrs rows)
  (kb:∀ t,Bar (eb rows) (hrs rows) row t->Kn ⟨none⟩ (x,⟨⟩,())) (kf:∀ l,Fil (eb rows) (hrs rows) row l->Kn ⟨some l⟩ (x,⟨⟩,())):j4s C (x,row,()) Kn Ke:=by
 refine ⟨c.gb v hl,hr,fun d hd=>by (rw [c.cls];exact hs d hd),fun t ht=>?_,fun l h=>?_⟩
 ·rw [c.cls,c.bdf] at ht;exact kb t ht
 ·rw [c.cls,c.bdf] at h;exact kf l h
theorem j8f {row:List Int} {Kn:Oo Int->B0 C×WL.Un×Unit->Prop} {Ke:Addr->B0 C×WL.Un×Unit->Prop} (c:Cor x rows) (v:Vr rows) (hl:rows.length<=60) (hr:Ris row) (hs:∀ d∈row,d∈hrs rows)
  (kb:∀ t,Bar (eb rows) (hrs rows) row t->Kn ⟨some t⟩ (x,⟨⟩,())) (kf:∀ l,Fil (eb rows) (hrs rows) row l->Kn ⟨none⟩ (x,⟨⟩,())):k9z C (x,row,()) Kn Ke:=by
 refine ⟨c.gb v hl,hr,fun d hd=>by (rw [c.cls];exact hs d hd),fun t ht=>?_,fun l h=>?_⟩
 ·rw [c.cls,c.bdf] at ht;exact kb t ht
 ·rw [c.cls,c.bdf] at h;exact kf l h
end
section
variable {C:Addr} {x:B0 C} {rows:List RW} {row:List Int}
theorem Fil.len {l:List Int} (h:Fil (eb rows) (hrs rows) row l) (hl:rows.length<=60):l.length<=60:=by have:=j1h h.ri h.su;have:=j2r rows;omega
theorem Bar.len {l:List Int} (h:Bar (eb rows) (hrs rows) row l) (hl:rows.length<=95):l.length<=95:=by have:=j1h h.ri h.su;have:=j2r rows;omega
theorem FB.len1 {a b:Option (List Int)} (h:FB rows row a b) (hl:rows.length<=60):∀ l,a=some l->l.length < 1000:=fun l e=>by
 cases h with
 | fil h=>cases e;have:=h.len hl;omega
 | bar h=>cases e
theorem FB.len2 {a b:Option (List Int)} (h:FB rows row a b) (hl:rows.length<=60):∀ l,b=some l->l.length < 1000:=fun l e=>by
 cases h with
 | fil h=>cases e
 | bar h=>cases e;have:=h.len (by omega);omega
theorem w2i {a b:List Int} (ha:Ris a) (hb:Ris b):pr a b=pr b a:=by rw [k0g,k0g,w6b ha hb]
theorem j78 {l k:List Int} (h:∀ c∈l,c∈k):(l.filter fun c=>decide (c∈k))=l:=List.filter_eq_self.mpr fun c hc=>decide_eq_true (h c hc)
theorem k8o {a b:Option (List Int)} {Kn:Bool->WL.Un×WL.Un×WL.Un×WL.Un×Unit->Prop} {Ke:Addr->WL.Un×WL.Un×WL.Un×WL.Un×Unit->Prop} (v:Vr rows) (hr:Ris row) (h:FB rows row a b) (k:Kn true (⟨⟩,⟨⟩,⟨⟩,⟨⟩,())):j19 (rows,a,b,row,()) Kn Ke:=⟨v,hr,h,k⟩
theorem w7j {l:List Int} (h:Ris l) {k:Int} (h0:1<=k) (h1:k < l.length):∃ a b,atI l (k - 1)=some a/\atI l k=some b/\a < b:=by obtain ⟨a,a1,a2,_⟩:=j3y (l:=l) (i:=k - 1) (by omega) (by omega);obtain ⟨b,b1,b2,_⟩:=j3y (l:=l) (i:=k) (by omega) h1;refine ⟨a,b,a1,b1,?_⟩;obtain ⟨i1,e1⟩:=List.getElem?_eq_some_iff.mp a2;obtain ⟨i2,e2⟩:=List.getElem?_eq_some_iff.mp b2;rw [<- e1,<- e2];exact List.pairwise_iff_getElem.mp h _ _ i1 i2 (by omega)
end
theorem w1c {n k:Int} (h:k∈rng 1 n):1<=k/\k < n:=by unfold rng at h;obtain ⟨i,hi,e⟩:=List.mem_map.mp h;have:=List.mem_range.mp hi;omega
theorem w7i {l:List Int} {Kn:Bool->WL.Un×Unit->Prop} {Ke:Addr->WL.Un×Unit->Prop} (k:Kn true (⟨⟩,())):w3d (l,()) Kn Ke:=k
section
variable {q:Cq} {C XC XS XO XB XP XV XF0:Addr}
abbrev k6c:Stmt:=top 40
abbrev k7a:List Str:=["_law_bag_here"]
theorem w3v:FnScope ["_law_bag_here"] k7a (j0c k6c):=by walk_at "sc"
abbrev w9m (q:Cq) (k:Nat):=Fkq q "_law_rank" k7a k24 k
theorem w5c {f:Addr} {fd:FuncData} (F:Dq1 q "_law_rank" k6c f fd) (G_pull:Fkq q "_law_pull" ["_law_bag_here","_law_many"] j4e 1):Gq q 2 f fd k7a k24:=by
 refine' j0n (fn_w (D':=Unit) (ms:=[0]) (j:=0) F w3v rfl rfl fun cdv A outer s H E hr =>
   (sw_c (j07 (j1w j5u (j0r (j0o G_pull hr rfl j0j (j04 (i:=0) (pv 0) (j0d j0f j0b)))) j0f (j0u _))
   (j0e (j0t (j0o G_pull hr rfl j0j (j04 (i:=0) (pv 0) (j0d j0f j0b)))))
   j00)
   (j0e (j0t (j0z (j2v (er_w (ew_o (j0w (j0i j0f (j0i j0f (j0i j0f (j0i j0f (j0i j0f (j0i j0f (j0i j0f (j0i j0f j0x))))))))))) (j0r (j0o G_pull hr rfl j0j (j04 (i:=0) (pv 0) (j0d j0f j0b)))))))))) fun p Kn Ke h=>?_
 walk_at "wl"
 have h:∀ r,0<=r->r<=12->Kn r (⟨⟩,()):=h;refine j2h (by decide) (by decide) fun r h0 h1=>?_
 try dsimp only
 by_cases q:r=11
 ·rw [if_pos (decide_eq_true q)];refine j2h (by decide) (by decide) fun s g0 g1=>h s g0 ?_;have g1:s < 13:=g1;omega
 ·rw [if_neg (by simpa using q)];refine j2h (by decide) (by decide) fun s g0 g1=>?_;have g1:s < 8:=g1;obtain ⟨x,a1,_,a3⟩:=j3y (l:=[(0:Int),0,1,1,1,2,2,3]) g0 (by simpa using g1);refine ⟨x,a1,h x ?_ ?_⟩
  ·simp at a3;omega
  ·simp at a3;omega
abbrev k6f:Stmt:=top 34
abbrev k7c:List Str:=["_law_one","_law_other"]
theorem sc_join:FnScope ["_law_one","_law_other","_law_left"] k7c (j0c k6f):=by walk_at "sc"
theorem w08:(["_law_x","_law_other"]:List Str).Nodup:=by decide +kernel
theorem w07:(["_law_x","_law_one"]:List Str).Nodup:=by decide +kernel
abbrev k4a (q:Cq) (k:Nat):=Fkq q "_law_join" k7c k5i k
theorem w5f {f:Addr} {fd:FuncData} (F:Dq1 q "_law_join" k6f f fd) (B:Bn q.mg):Gq q 2 f fd k7c k5i:=by
 refine' j0n (fn_w (D':=Unit) (ms:=[]) (j:=1) F sc_join rfl rfl fun cdv A outer s H E hr =>
   (sw_c (j5h (Ts:=["_law_x"]) (Fr:=["_law_other"]) (idx:=[1]) (k:=1) (mb:=[1]) (is:=[]) (cl:=[("_law_other",s.heap.objs.size + 1 + 1)]) 2 sc_join.nd rfl rfl rfl (by decide) rfl (j17 (j0a 0 (pv 0))) ⟨rfl,rfl,by decide +kernel,by decide +kernel,(fun x c h=>by
    rcases lkc h with ⟨rfl,rfl⟩ | h
    ·rfl
    cases h),(fc (fun z=>by cases z) (fc (fun z=>by cases z) (fc (fun _=>⟨_,rfl⟩) fnil))),
    (fun j x h=>by
    match j,h with
    | 0,h=>cases h;exact ⟨1,_,rfl,rfl,.inl rfl,rfl,.inl rfl⟩
    | n + 1,h=>cases h),rfl⟩ rfl (j2s rfl) (fun s₀ H₀ C ex pn=>(j03 0 (j0q (i:=0) w08 rfl (Or.inl rfl)) (by decide))) (fun s₀ H₀ C ex pn=>(j21 (j93 j9v (j0a 0 (pv 0)) (er_w (j0a 1 (pv 1))) (by with_unfolding_all rfl)))) (fun s₀ H₀ C ex pn=>(j0a 0 (pv 0))))
   (j0e (j0t (k8v rfl B.sorted (er_w (ew_o (j8b (j1v 2 (pv 2)) (er_w (ew_o (j3d (Ts:=["_law_x"]) (Fr:=["_law_one"]) (idx:=[0]) (k:=1) (mb:=[1]) (is:=[]) (cl:=[("_law_one",s.heap.objs.size + 1)]) rfl (j17 (j0a 1 (pv 1))) ⟨rfl,rfl,by decide +kernel,by decide +kernel,(fun x c h=>by
    rcases lkc h with ⟨rfl,rfl⟩ | h
    ·rfl
    cases h),(fc (fun z=>by cases z) (fc (fun z=>by cases z) (fc (fun _=>⟨_,rfl⟩) fnil))),
    (fun j x h=>by
    match j,h with
    | 0,h=>cases h;exact ⟨0,_,rfl,rfl,.inl rfl,rfl,.inl rfl⟩
    | n + 1,h=>cases h),rfl⟩ rfl (j2s rfl) (fun s₀ H₀ C ex pn=>(j03 0 (j0q (i:=0) w07 rfl (Or.inl rfl)) (by decide))) (fun s₀ H₀ C ex pn=>(j21 (j93 j9v (j0a 0 (pv 0)) (er_w (j0a 1 (pv 1))) (by with_unfolding_all rfl)))) (fun s₀ H₀ C ex pn=>(j0a 0 (pv 0)))))))))))))) fun p Kn Ke h=>?_
 walk_at "wl"
 obtain ⟨⟨ha,hb,hl⟩,hk⟩:=h;refine ⟨j08 (by omega),j1j (q:=fun k=>!decide (k∈p.2.1)) (fun k _ K hK=>hK) ?_⟩;refine ⟨j08 (show p.2.1.length<=1000 by omega),j1j (q:=fun k=>!decide (k∈p.1)) (fun k _ K hK=>hK) ?_⟩;have l1:=List.length_filter_le (fun k=>!decide (k∈p.2.1)) p.1;have l2:=List.length_filter_le (fun k=>!decide (k∈p.1)) p.2.1;refine ⟨j08 ?_,?_,hk⟩
 ·show (p.1.filter fun k=>!decide (k∈p.2.1)).length + (p.2.1.filter fun k=>!decide (k∈p.1)).length<=1000;omega
 ·rw [List.length_append];show (p.1.filter fun k=>!decide (k∈p.2.1)).length + (p.2.1.filter fun k=>!decide (k∈p.1)).length < 64;omega
abbrev k6h:Stmt:=top 27
abbrev k7d:List Str:=["_law_rows_here"]
theorem w3y:FnScope ["_law_rows_here"] k7d (j0c k6h):=by walk_at "sc"
theorem w09:(["_law_k","_law_rows_here"]:List Str).Nodup:=by decide +kernel
abbrev j8h (q:Cq) (k:Nat):=Fkq q "_law_here" k7d k5j k
theorem w5h {f:Addr} {fd:FuncData} (F:Dq1 q "_law_here" k6h f fd) (B:Bn q.mg):Gq q 2 f fd k7d k5j:=by
 refine' j0n (fn_w (D':=Unit) (ms:=[]) (j:=0) F w3y rfl rfl fun cdv A outer s H E hr =>
   (j0e (j0t (j3d (Ts:=["_law_k"]) (Fr:=["_law_rows_here"]) (idx:=[0]) (k:=1) (mb:=[1]) (is:=[]) (cl:=[("_law_rows_here",s.heap.objs.size + 1)]) rfl (j29 rfl B.range (j3a rfl B.len (er_w (j0a 0 (pv 0))))) ⟨rfl,rfl,by decide +kernel,by decide +kernel,(fun x c h=>by
    rcases lkc h with ⟨rfl,rfl⟩ | h
    ·rfl
    cases h),(fc (fun z=>by cases z) (fc (fun z=>by cases z) (fc (fun _=>⟨_,rfl⟩) fnil))),
    (fun j x h=>by
    match j,h with
    | 0,h=>cases h;exact ⟨0,_,rfl,rfl,.inl rfl,rfl,.inl rfl⟩
    | n + 1,h=>cases h),rfl⟩ rfl (j2s rfl) (fun s₀ H₀ C ex pn=>(j03 0 (j0q (i:=0) w09 rfl (Or.inl rfl)) (by decide))) (fun s₀ H₀ C ex pn=>(j21 (j1w k9b (j2v (er_w (j0a 1 (pv 1))) (j0a 0 (pv 0))) j79 (j0u _)))) (fun s₀ H₀ C ex pn=>(j0a 0 (pv 0))))))) fun p Kn Ke h=>?_
 walk_at "wl"
 obtain ⟨hl,hk⟩:=h;refine ⟨⟨by omega,by omega⟩,?_,j1j (q:=fun k=>(j0s p.1 k).isSome) (fun k hk' K hK=>?_) hk⟩
 ·rw [j1m];exact j08 (by omega)
 ·obtain ⟨h0,h1⟩:=j9j hk';obtain ⟨x,a1,a2,_⟩:=j3y (l:=p.1) h0 h1;rw [j82 h0 a2] at hK;refine ⟨x,a1,?_⟩
  cases x with
  | none=>exact hK
  | some y=>exact hK
abbrev k59:Stmt:=top 41
abbrev k67:List Str:=["_law_bag_here","_law_row_here"]
theorem sc_some:FnScope ["_law_bag_here","_law_row_here","_law_found","_law_count","_law_k"] k67 (j0c k59):=by walk_at "sc"
abbrev w3a (q:Cq) (k:Nat):=Fkq q "_law_some" k67 k5d k
theorem w49 {f:Addr} {fd:FuncData} (F:Dq1 q "_law_some" k59 f fd) (G_pull:Fkq q "_law_pull" ["_law_bag_here","_law_many"] j4e 2) (G_join:k4a q 2) (B:Bn q.mg):Gq q 3 f fd k67 k5d:=by
 refine' j0n (fn_w (D':=Unit) (ms:=[0]) (j:=3) F sc_some rfl rfl fun cdv A outer s H E hr =>
   (sw_c (j0y 2 sc_some.nd rfl (Or.inl rfl) (by decide) (j0w (Y:=Int) j0x))
   (sw_c (j07 (j4g (j7k hr.units) (er_w (j0a 1 (pv 1))) (er_w (ew_o (j0w (Y:=Int) j0x))) (j0u _))
   (j0e (j3q 2 (pv 2)))
   j00)
   (sw_c (j0y 3 sc_some.nd rfl (Or.inl rfl) (by decide) (j0o G_pull hr rfl j0j (j04 (i:=0) (pv 0) (j0d j0f j0b))))
   (sw_c (j07 (j1w j5u (j0a 3 (pv 3)) j0f (j0u _))
   (j0e (j0y 3 sc_some.nd rfl (Or.inl rfl) (by decide) (j0z (k8r j73 (j0r (j0o G_pull hr rfl j0j (j04 (i:=0) (pv 0) (j0d j0f j0b)))) (j3a rfl B.len (er_w (j0a 1 (pv 1))))))))
   j00)
   (sw_c (j2g (is:=[]) (mb:=[0]) (D1:=Bg×(List Int)×(OL Int)×Int×Int×Unit) (D2:=Bg×(List Int)×(OL Int)×Int×Int×Unit) (j1f (by decide)) own1 rfl (j29 rfl B.range (j0a 3 (pv 3))) (j03 4 (j0q (i:=4) sc_some.nd rfl (Or.inl rfl)) (by decide))
   (j0e (j0y 2 sc_some.nd rfl (Or.inl rfl) (by decide) (j0o G_join hr rfl j0j (j0p (i:=2) (pv 2) (j0d (ew_o (j0w (j0i (j2v (er_w (j0a 1 (pv 1))) (j0r (j0o G_pull hr rfl j0j (j04 (i:=0) (pv 0) (j0d (j3a rfl B.len (er_w (j0a 1 (pv 1)))) j0b))))) j0x))) j0b))))) (by decide) (by decide))
   (j0e (j3q 2 (pv 2))))))))) fun p Kn Ke h=>?_
 walk_at "wl"
 obtain ⟨hl,hk⟩:=h;by_cases hn:p.2.1=[]
 ·rw [if_pos (decide_eq_true hn)];exact hk [] List.Pairwise.nil fun _ z=>by cases z
 rw [if_neg (by simpa using hn)]
 have pos:0 < (p.2.1.length:Int):=by have:=List.length_pos_iff.mpr hn;omega
 have loop:∀ (n c:Int),wFor (fun (x:Int) (b:Bg×List Int×OL Int×Int×WL.Un×Unit) Kn' (Kr:OL Int->Bg×WL.Un×Unit->Prop) Ke=>j4e (b.1,(b.2.1.length:Int),()) (fun x p'=>∃ x_1,atI b.2.1 x=some x_1/\k5i (b.2.2.1.l,[x_1],()) (fun x p'_1=>Kn' (p'.1,b.2.1,x,b.2.2.2.1,⟨⟩,b.2.2.2.2.2)) fun C p'_1=>Ke C (p'.1,⟨⟩,())) fun C p'=>Ke C (p'.1,⟨⟩,()))
   (rng 0 n) (⟨⟩,p.2.1,⟨[]⟩,c,⟨⟩,p.2.2) (fun b'=>Kn b'.2.2.1 (b'.1,⟨⟩,())) Kn Ke:=by
  intro n c;refine j1a (fun (r:List Int) (b:Bg×List Int×OL Int×Int×WL.Un×Unit)=>b.2.1=p.2.1/\Ris b.2.2.1.l/\∀ x∈b.2.2.1.l,x∈p.2.1) (rng 0 n) ⟨rfl,List.Pairwise.nil,(fun _ z=>by cases z)⟩ ?_ ?_
  ·rintro x r b _ ⟨e,g1,g2⟩ K hK;rw [e];refine j2h pos (by omega) fun r h0 h1=>?_;obtain ⟨y,a1,_,a3⟩:=j3y (l:=p.2.1) h0 h1;have len:=j1h g1 g2;refine ⟨y,a1,k8b (show b.2.2.1.l.length + 1 < 64 by omega),hK _ ⟨rfl,k0s g1 (List.pairwise_singleton _ _),fun z hz=>?_⟩⟩;rcases jn_mem.mp hz with ⟨z1,_⟩ | ⟨z1,_⟩
   ·exact g2 z z1
   ·rw [List.mem_singleton.mp z1];exact a3
  ·rintro b ⟨_,g1,g2⟩;exact hk _ g1 g2
 refine j2h (by decide) (by decide) fun r h0 h1=>?_
 try dsimp only
 have h1:r < 7:=h1;by_cases q:r=6
 ·rw [if_pos (decide_eq_true q)];refine j2h (by decide) (by decide) fun s g0 g1=>?_;have g1:s < 3:=g1
  have b1:s * (p.2.1.length:Int)<=2 * 60:=by have:s * (p.2.1.length:Int)<=2 * (p.2.1.length:Int):=Int.mul_le_mul_of_nonneg_right (by omega) (by omega);omega
  have b0:0<=s * (p.2.1.length:Int):=Int.mul_nonneg g0 (by omega);exact ⟨.inl ⟨by omega,by omega⟩,⟨by omega,by omega⟩,loop _ _⟩
 ·rw [if_neg (by simpa using q)];exact ⟨⟨by omega,by omega⟩,loop _ _⟩
abbrev k6j:Stmt:=top 35
abbrev k7f:List Str:=["_law_rows_here","_law_row_here"]
theorem sc_edge:FnScope ["_law_rows_here","_law_row_here","_law_found","_law_cell"] k7f (j0c k6j):=by walk_at "sc"
abbrev k9w (q:Cq) (k:Nat):=Fkq q "_law_edge" k7f k5k k
theorem w5j {f:Addr} {fd:FuncData} (F:Dq1 q "_law_edge" k6j f fd) (G_join:k4a q 2):Gq q 3 f fd k7f k5k:=by
 refine' j0n (fn_w (D':=Unit) (ms:=[]) (j:=2) F sc_edge rfl rfl fun cdv A outer s H E hr =>
   (sw_c (j0y 2 sc_edge.nd rfl (Or.inl rfl) (by decide) (j0w (Y:=Int) j0x))
   (sw_c (j2g (is:=[]) (mb:=[]) (D1:=(List (Option (Int×(List Int))))×(List Int)×(OL Int)×Int×Unit) (D2:=(List (Option (Int×(List Int))))×(List Int)×(OL Int)×Int×Unit) (j1f (by decide)) own1 rfl (j17 (j0a 1 (pv 1))) (j03 3 (j0q (i:=3) sc_edge.nd rfl (Or.inl rfl)) (by decide))
   (j0e (j0y 2 sc_edge.nd rfl (Or.inl rfl) (by decide) (j0o G_join hr rfl j0j (j0p (i:=2) (pv 2) (j0d (k0x (j3u (j2v (er_w (j0a 0 (pv 0))) (j0a 3 (pv 3))))) j0b))))) (by decide) (by decide))
   (j0e (j3q 2 (pv 2)))))) fun p Kn Ke h=>?_
 walk_at "wl"
 obtain ⟨v,hs,hk⟩:=h;refine j1a (fun (r:List Int) (b:List RW×List Int×OL Int×WL.Un×Unit)=>b.1=p.1/\(∀ c∈r,(j0s p.1 c).isSome=true)/\Ris b.2.2.1.l/\(∀ x∈b.2.2.1.l,x∈rng 0 35)/\(r.map (eb p.1)).foldl xr b.2.2.1.l=bsum (eb p.1) p.2.1) p.2.1 ⟨rfl,hs,List.Pairwise.nil,(fun _ z=>by cases z),rfl⟩ ?_ ?_
 ·rintro c r b _ ⟨e,g0,g1,g2,g3⟩ K hK;obtain ⟨y,hy⟩:=Option.isSome_iff_exists.mp (g0 c List.mem_cons_self);obtain ⟨_,_,_,a1⟩:=j0v hy;obtain ⟨y1,y2⟩:=v.edge hy;rw [e];have l1:=j1h g1 g2;have l2:=j1h y1 y2;rw [j1m] at l1 l2;refine ⟨_,a1,y,rfl,w2t g1 y1 g2 y2,hK _ ⟨rfl,fun c hc=>g0 c (List.mem_cons_of_mem _ hc),k0s g1 y1,fun x hx=>?_,?_⟩⟩
  ·rcases jn_mem.mp hx with ⟨z,_⟩ | ⟨z,_⟩
   ·exact g2 x z
   ·exact y2 x z
  ·rw [<- g3];show (r.map (eb p.1)).foldl xr (jn b.2.2.1.l y.2)=(r.map (eb p.1)).foldl xr (xr b.2.2.1.l (eb p.1 c));rw [w8l g1 y1,j5b hy]
 ·rintro b ⟨_,_,_,_,g3⟩;have g3:b.2.2.1.l=bsum (eb p.1) p.2.1:=g3;show Kn b.2.2.1 _;rw [show b.2.2.1=OL.mk b.2.2.1.l from rfl,g3];exact hk
abbrev k1n:Stmt:=top 28
abbrev k14:List Str:=["_law_found"]
theorem k94:FnScope ["_law_found"] k14 (j0c k1n):=by walk_at "sc"
abbrev k9t (q:Cq) (k:Nat):=Fkq q "_law_whole" k14 k1i k
theorem w0t {f:Addr} {fd:FuncData} (F:Dq1 q "_law_whole" k1n f fd) (B:Bn q.mg):Gq q 2 f fd k14 k1i:=by
 refine' j0n (fn_w (D':=Unit) (ms:=[]) (j:=0) F k94 rfl rfl fun cdv A outer s H E hr =>
   (j0e (j0t (j0z (k8u (j47 (ty:="int") rfl B.isinstance (j88 (v:=.ty "int") rfl B.int PyProof.Rows.boot_int rfl) (j0a 0 (pv 0))) (k2q (w8z (j47 (ty:="bool") rfl B.isinstance (j88 (v:=.ty "bool") rfl B.bool PyProof.Rows.boot_bool rfl) (j0a 0 (pv 0)))))))))) fun p Kn Ke h=>?_
 walk_at "wl"
 exact h
abbrev w30:Stmt:=top 29
abbrev w40:List Str:=["_law_found"]
theorem sc_row:FnScope ["_law_found","_law_one"] w40 (j0c w30):=by walk_at "sc"
abbrev w9l (q:Cq) (k:Nat):=Fkq q "_law_row" w40 w3d k
theorem w77 {f:Addr} {fd:FuncData} (F:Dq1 q "_law_row" w30 f fd) (G_whole:k9t q 2) (B:Bn q.mg):Gq q 3 f fd w40 w3d:=by
 refine' j0n (fn_w (D':=Unit) (ms:=[]) (j:=1) F sc_row rfl rfl fun cdv A outer s H E hr =>
   (sw_c (j07 (j14 (j1r (j47 (ty:="list") rfl B.isinstance (j88 (v:=.ty "list") rfl B.list PyProof.Rows.boot_list rfl) (j0a 0 (pv 0)))))
   (j0e (j0t (j0z j3k)))
   j00)
   (sw_c (j2g (is:=[]) (mb:=[]) (D1:=(List Int)×Int×Unit) (D2:=(List Int)×Int×Unit) (j1f (by decide)) own1 rfl (j17 (j0a 0 (pv 0))) (j03 1 (j0q (i:=1) sc_row.nd rfl (Or.inl rfl)) (by decide))
   (j0e (j07 (j14 (j1r (j0r (j0o G_whole hr rfl j0j (j0d (j0a 1 (pv 1)) j0b)))))
   (j0e (j0t (j0z j3k)))
   j00)) (by decide) (by decide))
   (j0e (j0t (j0z j3k)))))) fun p Kn Ke h=>?_
 walk_at "wl"
 rw [if_neg (by decide)];exact j1a (fun (r:List Int) (b:List Int×WL.Un×Unit)=>True) p.1 trivial (fun x r b _ _ K hK=>hK _ trivial) fun _ _=>h
abbrev k6a:Stmt:=top 46
abbrev k68:List Str:=["_law_found","_law_due"]
theorem w3u:FnScope ["_law_found","_law_due"] k68 (j0c k6a):=by walk_at "sc"
abbrev w9j (q:Cq) (k:Nat):=Fkq q "_law_same" k68 k5e k
theorem w5a {f:Addr} {fd:FuncData} (F:Dq1 q "_law_same" k6a f fd) (G_row:w9l q 3):Gq q 4 f fd k68 k5e:=by
 refine' j0n (fn_w (D':=Unit) (ms:=[]) (j:=0) F w3u rfl rfl fun cdv A outer s H E hr =>
   (j0e (j0t (j0z (k8u (j0r (j0o G_row hr rfl j0j (j0d (j0a 0 (pv 0)) j0b))) (k2q (k31 (j7k hr.units) (er_w (j0a 0 (pv 0))) (er_w (j0a 1 (pv 1))) (j0u _)))))))) fun p Kn Ke h=>?_
 walk_at "wl"
 exact h
abbrev k1o:Stmt:=top 45
abbrev k15:List Str:=["_law_found","_law_due"]
theorem k95:FnScope ["_law_found","_law_due"] k15 (j0c k1o):=by walk_at "sc"
abbrev k9u (q:Cq) (k:Nat):=Fkq q "_law_truth" k15 k1j k
theorem w0u {f:Addr} {fd:FuncData} (F:Dq1 q "_law_truth" k1o f fd) (B:Bn q.mg):Gq q 2 f fd k15 k1j:=by
 refine' j0n (fn_w (D':=Unit) (ms:=[]) (j:=0) F k95 rfl rfl fun cdv A outer s H E hr =>
   (j0e (j0t (j0z (k8u (j47 (ty:="bool") rfl B.isinstance (j88 (v:=.ty "bool") rfl B.bool PyProof.Rows.boot_bool rfl) (j0a 0 (pv 0))) (k2q (w54 j5u (j0a 0 (pv 0)) (j0a 1 (pv 1)) (j0u _)))))))) fun p Kn Ke h=>?_
 walk_at "wl"
 rw [if_pos rfl];exact h
abbrev k1q:Stmt:=top 39
abbrev k16:List Str:=["_law_many"]
theorem sc_stock:FnScope ["_law_many","_law_pairs","_law_threes","_law_rows_here"] k16 (j0c k1q):=by walk_at "sc"
theorem k7z:(["_law_k"]:List Str).Nodup:=by decide +kernel
theorem k7y:(["_law_pair"]:List Str).Nodup:=by decide +kernel
theorem k7x:(["_law_three"]:List Str).Nodup:=by decide +kernel
abbrev w6q (q:Cq) (k:Nat):=Fkq q "_law_stock" k16 k5c k
theorem w0w {f:Addr} {fd:FuncData} (F:Dq1 q "_law_stock" k1q f fd) (B:Bn q.mg):Gq q 2 f fd k16 k5c:=by
 refine' j0n (fn_w (D':=Unit) (ms:=[]) (j:=3) F sc_stock rfl rfl fun cdv A outer s H E hr =>
   (sw_c (j0y 1 sc_stock.nd rfl (Or.inl rfl) (by decide) (j0w (j0i (ew_o (j0w (j0i j0f (j0i j0f j0x)))) (j0i (ew_o (j0w (j0i j0f (j0i j0f j0x)))) (j0i (ew_o (j0w (j0i j0f (j0i j0f j0x)))) (j0i (ew_o (j0w (j0i j0f (j0i j0f j0x)))) (j0i (ew_o (j0w (j0i j0f (j0i j0f j0x)))) (j0i (ew_o (j0w (j0i j0f (j0i j0f j0x)))) j0x))))))))
   (sw_c (j0y 2 sc_stock.nd rfl (Or.inl rfl) (by decide) (j0w (j0i (ew_o (j0w (j0i j0f (j0i j0f (j0i j0f j0x))))) (j0i (ew_o (j0w (j0i j0f (j0i j0f (j0i j0f j0x))))) (j0i (ew_o (j0w (j0i j0f (j0i j0f (j0i j0f j0x))))) (j0i (ew_o (j0w (j0i j0f (j0i j0f (j0i j0f j0x))))) j0x))))))
   (sw_c (j0y 3 sc_stock.nd rfl (Or.inl rfl) (by decide) (j8b (er_w (ew_o (j3d (Ts:=["_law_k"]) (Fr:=[]) (idx:=[]) (k:=1) (mb:=[]) (is:=[]) (cl:=[]) rfl (j29 rfl B.range j0f) ⟨rfl,rfl,by decide +kernel,by decide +kernel,(fun x c h=>by
    cases h),(fc (fun z=>by cases z) (fc (fun z=>by cases z) fnil)),
    (fun j x h=>by cases h),rfl⟩ rfl (j2s rfl) (fun s₀ H₀ C ex pn=>(j03 0 (j0q (i:=0) k7z rfl (Or.inl rfl)) (by decide))) (fun s₀ H₀ C ex pn=>j6m) (fun s₀ H₀ C ex pn=>(j5p (j1u j0f (ew_o (j0w (Y:=Int) j0x)))))))) (er_w (ew_o (j3d (Ts:=["_law_pair"]) (Fr:=[]) (idx:=[]) (k:=1) (mb:=[]) (is:=[1]) (cl:=[]) rfl (k3u 1 (pv 1) (by decide)) ⟨rfl,rfl,by decide +kernel,by decide +kernel,(fun x c h=>by
    cases h),(fc (fun z=>by cases z) (fc (fun z=>by cases z) fnil)),
    (fun j x h=>by cases h),rfl⟩ rfl (j2s rfl) (fun s₀ H₀ C ex pn=>(j03 0 (j0q (i:=0) k7y rfl (Or.inl rfl)) (by decide))) (fun s₀ H₀ C ex pn=>j6m) (fun s₀ H₀ C ex pn=>(j5p (j1u j0f (j0a 0 (pv 0))))))))))
   (sw_c (j0y 3 sc_stock.nd rfl (Or.inl rfl) (by decide) (j8b (er_w (ew_o (j8b (j1v 3 (pv 3)) (er_w (ew_o (j3d (Ts:=["_law_three"]) (Fr:=[]) (idx:=[]) (k:=1) (mb:=[]) (is:=[2]) (cl:=[]) rfl (k3u 2 (pv 2) (by decide)) ⟨rfl,rfl,by decide +kernel,by decide +kernel,(fun x c h=>by
    cases h),(fc (fun z=>by cases z) (fc (fun z=>by cases z) fnil)),
    (fun j x h=>by cases h),rfl⟩ rfl (j2s rfl) (fun s₀ H₀ C ex pn=>(j03 0 (j0q (i:=0) k7x rfl (Or.inl rfl)) (by decide))) (fun s₀ H₀ C ex pn=>j6m) (fun s₀ H₀ C ex pn=>(j5p (j1u j0f (j0a 0 (pv 0))))))))))) (er_w (ew_o (j0w (j0i (j5p (j1u j0f (ew_o (j0w (j0i j0f (j0i j0f (j0i j0f (j0i j0f j0x)))))))) j0x))))))
   (j0e (j0t (k32 (j1v 3 (pv 3)) k2d (k2c (j0a 0 (pv 0))))))))))) fun p Kn Ke h=>?_
 walk_at "wl"
 obtain ⟨h0,hk⟩:=h;refine ⟨by decide,(by rw [j1m];exact j08 (by decide)),j1d (f:=fun _=>some (some (0,[]))) (fun x _ K hK=>hK) ?_⟩;refine ⟨j08 (by decide),j1d (f:=fun x=>some (some (1,x))) (fun x _ K hK=>hK) ?_⟩;refine ⟨j08 (by decide),j08 (by decide),j1d (f:=fun x=>some (some (2,x))) (fun x _ K hK=>hK) ?_⟩;refine ⟨j08 (by decide),j08 (by decide),?_⟩;rw [w9a _ h0];exact hk
abbrev j6r:Stmt:=top 42
abbrev j62:List Str:=["_law_rows_here","_law_loops","_law_rank_here","_law_bag_here"]
theorem sc_edge_by:FnScope ["_law_rows_here","_law_loops","_law_rank_here","_law_bag_here","_law_number","_law_edge_here","_law_beneath","_law_k","_law_kin","_law_chosen"] j62 (j0c j6r):=by walk_at "sc"
theorem j64:(["_law_at","_law_one","_law_rank_here"]:List Str).Nodup:=by decide +kernel
theorem k2h:(["_law_k","_law_rank_here","_law_rows_here"]:List Str).Nodup:=by decide +kernel
abbrev k9v (q:Cq) (k:Nat):=Fkq q "_law_edge_by" j62 j4t k
theorem k4o {f:Addr} {fd:FuncData} (F:Dq1 q "_law_edge_by" j6r f fd) (G_pull:Fkq q "_law_pull" ["_law_bag_here","_law_many"] j4e 3) (G_join:k4a q 3) (G_here:j8h q 3) (G_some:w3a q 3) (G_edge:k9w q 3) (B:Bn q.mg):Gq q 4 f fd j62 j4t:=by
 refine' j0n (fn_w (D':=Unit) (ms:=[0,1,3]) (j:=6) F sc_edge_by rfl rfl fun cdv A outer s H E hr =>
   (sw_c (j0y 4 sc_edge_by.nd rfl (Or.inl rfl) (by decide) (j0z (j3a rfl B.len (j1v 0 (pv 0)))))
   (sw_c (j0y 5 sc_edge_by.nd rfl (Or.inl rfl) (by decide) (j0w (Y:=Int) j0x))
   (sw_c (j07 (j1w j5u (j0a 2 (pv 2)) j0f (j0u _))
   (sw_c (j2n 1 (pv 1) (j1u j0f (ew_o (j0w (j0i (j0a 4 (pv 4)) j0x)))) (fun h=>j2p (k0j PySem.F.plainAttrs_list PySem.F.slot_list_append PySem.F.type_list_append j16 (pv 1) h)))
   (j0e (j3q 5 (pv 5))))
   j00)
   (sw_c (j07 (j1w w1y (j0r (j0o G_pull hr rfl j0j (j04 (i:=3) (pv 3) (j0d j0f j0b)))) j0f (j0u _))
   (sw_c (j5h (Ts:=["_law_at","_law_one"]) (Fr:=["_law_rank_here"]) (idx:=[2]) (k:=2) (mb:=[2]) (is:=[1]) (cl:=[("_law_rank_here",s.heap.objs.size + 1 + 1)]) 6 sc_edge_by.nd rfl rfl rfl (by decide) rfl (k3u 1 (pv 1) (by decide)) ⟨rfl,rfl,by decide +kernel,by decide +kernel,(fun x c h=>by
    rcases lkc h with ⟨rfl,rfl⟩ | h
    ·rfl
    cases h),(fc (fun z=>by cases z) (fc (fun z=>by cases z) (fc (fun z=>by cases z) (fc (fun _=>⟨_,rfl⟩) fnil)))),
    (fun j x h=>by
    match j,h with
    | 0,h=>cases h;exact ⟨2,_,rfl,rfl,.inl rfl,rfl,.inl rfl⟩
    | n + 1,h=>cases h),rfl⟩ rfl (j2s rfl) (fun s₀ H₀ C ex pn=>(j9o 0 1 (k0i rfl (j13 (j0q (i:=0) j64 rfl (Or.inl rfl)) (j13 (j0q (i:=1) j64 rfl (Or.inl rfl)) j6y))) (by decide) (by decide))) (fun s₀ H₀ C ex pn=>(j21 (j1w j5u (j0a 0 (pv 0)) (j3v k3p (j0a 2 (pv 2)) j0f) (j0u _)))) (fun s₀ H₀ C ex pn=>(j0a 1 (pv 1))))
   (sw_c (j2g (is:=[]) (mb:=[0,1,3]) (D1:=(OL (Option (Int×(List Int))))×(OL (Int×(List Int)))×Int×Bg×Int×(OL Int)×(OL (List Int))×Int×Un×Un×Unit) (D2:=(OL (Option (Int×(List Int))))×(OL (Int×(List Int)))×Int×Bg×Int×(OL Int)×(OL (List Int))×Int×Un×Un×Unit) (j1f (by decide)) own1 rfl (j29 rfl B.range (j2v (er_w (ew_o (j0w (j0i j0f (j0i j0f (j0i j0f (j0i j0f (j0i j0f (j0i j0f (j0i j0f (j0i j0f j0x))))))))))) (j0r (j0o G_pull hr rfl j0j (j04 (i:=3) (pv 3) (j0d j0f j0b)))))) (j03 7 (j0q (i:=7) sc_edge_by.nd rfl (Or.inl rfl)) (by decide))
   (j0e (j07 (j4g (j7j hr.units) (j1v 6 (pv 6)) (er_w (ew_o (j0w (Y:=(List Int)) j0x))) (j0u _))
   (j0e (j0y 5 sc_edge_by.nd rfl (Or.inl rfl) (by decide) (j0o G_join hr rfl j0j (j0p (i:=5) (pv 5) (j0d (j2v (j1v 6 (pv 6)) (j0r (j0o G_pull hr rfl j0j (j04 (i:=3) (pv 3) (j0d (j3a rfl B.len (j1v 6 (pv 6))) j0b))))) j0b)))))
   j00)) (by decide) (by decide))
   (sw_c (j07 (j4g (j7k hr.units) (j1v 5 (pv 5)) (er_w (ew_o (j0w (Y:=Int) j0x))) (j0u _))
   (j0e (j2n 1 (pv 1) (j1u (j0a 2 (pv 2)) (ew_o (j0w (j0i (j0a 4 (pv 4)) j0x)))) (fun h=>j2p (k0j PySem.F.plainAttrs_list PySem.F.slot_list_append PySem.F.type_list_append j16 (pv 1) h))))
   j00)
   (j0e (j3q 5 (pv 5))))))
   j00)
   (sw_c (j5h (Ts:=["_law_k"]) (Fr:=["_law_rank_here","_law_rows_here"]) (idx:=[2,0]) (k:=1) (mb:=[1,2]) (is:=[]) (cl:=[("_law_rows_here",s.heap.objs.size + 1),("_law_rank_here",s.heap.objs.size + 1 + 1)]) 8 sc_edge_by.nd rfl rfl rfl (by decide) rfl (j17 (ew_o (j0o G_here hr rfl j0j (j0p (i:=0) (pv 0) j0b)))) ⟨rfl,rfl,by decide +kernel,by decide +kernel,(fun x c h=>by
    rcases lkc h with ⟨rfl,rfl⟩ | h
    ·rfl
    rcases lkc h with ⟨rfl,rfl⟩ | h
    ·rfl
    cases h),(fc (fun z=>by cases z) (fc (fun z=>by cases z) (fc (fun _=>⟨_,rfl⟩) (fc (fun _=>⟨_,rfl⟩) fnil)))),
    (fun j x h=>by
    match j,h with
    | 0,h=>cases h;exact ⟨2,_,rfl,rfl,.inl rfl,rfl,.inl rfl⟩
    | 1,h=>cases h;exact ⟨0,_,rfl,rfl,.inl rfl,rfl,.inl rfl⟩
    | n + 2,h=>cases h),rfl⟩ rfl (j2s rfl) (fun s₀ H₀ C ex pn=>(j03 0 (j0q (i:=0) k2h rfl (Or.inl rfl)) (by decide))) (fun s₀ H₀ C ex pn=>(j21 (j1w j5u (j8a (j3u (j2v (j1v 2 (pv 2)) (j0a 0 (pv 0))))) (j0a 1 (pv 1)) (j0u _)))) (fun s₀ H₀ C ex pn=>(j0a 0 (pv 0))))
   (sw_c (j0y 9 sc_edge_by.nd rfl (Or.inl rfl) (by decide) (j0o G_some hr rfl j0j (j04 (i:=3) (pv 3) (j0p (i:=8) (pv 8) j0b))))
   (sw_c (j2n 1 (pv 1) (j1u (j0a 2 (pv 2)) (ew_o (j8b (j1v 9 (pv 9)) (er_w (ew_o (j0w (j0i (j0a 4 (pv 4)) j0x))))))) (fun h=>j2p (k0j PySem.F.plainAttrs_list PySem.F.slot_list_append PySem.F.type_list_append j16 (pv 1) h)))
   (j0e (j0t (j0o G_edge hr rfl j0j (j0p (i:=0) (pv 0) (j0p (i:=9) (pv 9) j0b))))))))))))) fun p Kn Ke h=>?_
 walk_at "wl"
 obtain ⟨v,hn,hq,hL,r0,r1,hk⟩:=h;by_cases h0:p.2.2.1=0
 ·rw [if_pos (decide_eq_true h0)];refine ⟨j3t (by omega),?_⟩;refine hk [] [(0,[(p.1.l.length:Int)])] (k1d v (by omega) fun r e z=>?_) (fun u hu=>?_) (by simp)
  ·cases z;exact ⟨r0,r1,List.Pairwise.nil,(fun _ z=>by cases z),rfl⟩
  ·rcases List.mem_append.mp hu with z | z
   ·exact k1e (hL u z)
   ·rw [List.mem_singleton.mp z];have:=w27 (rows:=p.1.l) (r:=p.2.2.1);rw [h0] at this ⊢;exact this
 ·rw [if_neg (by simpa using h0)];refine j2h (by decide) (by decide) fun x g0 g1=>?_
  try dsimp only
  by_cases hx:x < 3
  ·rw [if_pos (decide_eq_true hx)];refine ⟨j08 (by omega),j1d (f:=fun u:Int×List Int=>if decide (u.1=p.2.2.1 - 1)=true then some u.2 else none) (fun u _ K hK=>?_) ?_⟩
   ·show if decide (u.1=p.2.2.1 - 1)=true then K (some u.2) _ else K none _;by_cases z:decide (u.1=p.2.2.1 - 1)=true
    ·rw [if_pos z] at hK ⊢;exact hK
    ·rw [if_neg z] at hK ⊢;exact hK
   ·have ly:(p.2.1.l.filterMap fun u:Int×List Int=>if decide (u.1=p.2.2.1 - 1)=true then some u.2 else none).length<=100:=Nat.le_trans (List.length_filterMap_le _ _) hq
    have hy:∀ z∈(p.2.1.l.filterMap fun u:Int×List Int=>if decide (u.1=p.2.2.1 - 1)=true then some u.2 else none),Lp p.1.l (p.2.2.1 - 1,z):=fun z hz=>by
     obtain ⟨u,hu,e⟩:=List.mem_filterMap.mp hz;by_cases q:decide (u.1=p.2.2.1 - 1)=true
     ·rw [if_pos q] at e;cases e;rw [<- of_decide_eq_true q];exact hL u hu
     ·rw [if_neg q] at e;cases e
    generalize (p.2.1.l.filterMap fun u:Int×List Int=>if decide (u.1=p.2.2.1 - 1)=true then some u.2 else none)=ys at ly hy;refine j2h (by decide) (by decide) fun s g2 g3=>?_;obtain ⟨m,m1,_,m3⟩:=j3y (l:=[(2:Int),2,2,2,0,1,3,4]) g2 (by simpa using g3);refine ⟨m,m1,⟨by simp at m3;omega,by simp at m3;omega⟩,?_⟩;refine j1a (fun (r:List Int) (b:OL RW×OL (Int×List Int)×Int×Bg×Int×OL Int×OL (List Int)×WL.Un×WL.Un×WL.Un×Unit)=>b.1=p.1/\b.2.1=p.2.1/\b.2.2.1=p.2.2.1/\b.2.2.2.2.1=(p.1.l.length:Int)/\b.2.2.2.2.2.2.1.l=ys/\Lp p.1.l (p.2.2.1 - 1,b.2.2.2.2.2.1.l)) (rng 0 m) ⟨rfl,rfl,rfl,rfl,rfl,List.Pairwise.nil,(fun _ z=>by cases z),rfl⟩ ?_ ?_
    ·rintro y r ⟨b1,b2,b3,b4,b5,b6,b7,b8⟩ _ ⟨e1,e2,e3,e4,e5,e6⟩ K hK;dsimp only at e1 e2 e3 e4 e5 e6 ⊢;subst e5;by_cases q:b7.l=[]
     ·rw [if_neg (by simp [q])];exact hK _ ⟨e1,e2,e3,e4,rfl,e6⟩
     ·rw [if_pos (by simp [q])];have:=List.length_pos_iff.mpr q;refine j2h (by omega) (by omega) fun t t0 t1=>?_;obtain ⟨z,z1,_,z3⟩:=j3y (l:=b7.l) t0 t1;have lz:=hy z z3;have s1:=j1h e6.1 (e6.sub (by omega));have s2:=j1h lz.1 (lz.sub (by omega));rw [j1m] at s1 s2;have s1:b6.l.length<=35:=s1;have s2:z.length<=35:=s2;refine ⟨z,z1,w2t e6.1 lz.1 (e6.sub (by omega)) (lz.sub (by omega)),hK _ ⟨e1,e2,e3,e4,rfl,?_⟩⟩;show Lp p.1.l (p.2.2.1 - 1,jn b6.l z);have nn:∀ c,(∃ e,j0s p.1.l c=some (p.2.2.1 - 1,e))->(eb p.1.l c).Nodup:=fun c ⟨e,he⟩=>by rw [j5b he];exact j0l (v.edge he).1
      refine ⟨k0s e6.1 lz.1,fun c hc=>?_,?_⟩
      ·rcases jn_mem.mp hc with ⟨w,_⟩ | ⟨w,_⟩
       ·exact e6.2.1 c w
       ·exact lz.2.1 c w
      ·show bsum (eb p.1.l) (jn b6.l z)=[];rw [w8l e6.1 lz.1,k2z e6.1 lz.1 (fun c hc=>nn c (e6.2.1 c hc)) (fun c hc=>nn c (lz.2.1 c hc)),show bsum (eb p.1.l) b6.l=[] from e6.2.2,show bsum (eb p.1.l) z=[] from lz.2.2];rfl
    ·rintro ⟨b1,b2,b3,b4,b5,b6,b7,b8⟩ ⟨e1,e2,e3,e4,e5,e6⟩;dsimp only at e1 e2 e3 e4 e5 e6 ⊢;subst e1 e2 e3 e4
     have va:Vr (p.1.l++[some (p.2.2.1,b6.l)]):=k1d v (by omega) fun r e z=>by
      cases z;exact ⟨r0,r1,e6.1,e6.2.1,e6.2.2⟩
     by_cases q:b6.l=[]
     ·rw [if_pos (decide_eq_true q)];refine ⟨j3t (by omega),hk b6.l [(p.2.2.1,[(p.1.l.length:Int)])] va (fun u hu=>?_) (by simp)⟩;rcases List.mem_append.mp hu with z | z
      ·exact k1e (hL u z)
      ·rw [List.mem_singleton.mp z,q];exact w27
     ·rw [if_neg (by simpa using q)];have:=hk b6.l [] va (fun u hu=>k1e (hL u (by simpa using hu))) (by simp);rw [List.append_nil] at this;exact this
  ·rw [if_neg (by simpa using hx)];refine ⟨(show p.1.l.length < 1000 by omega),j08 (by have:=j2r p.1.l;show (hrs p.1.l).length<=1000;omega),j1j (q:=fun k=>decide ((j0s p.1.l k).map (·.1)=some p.2.2.1)) (fun k hk' K hK=>?_) ?_⟩
   ·obtain ⟨y,hy⟩:=Option.isSome_iff_exists.mp (hrs_mem.mp hk');refine ⟨_,(j0v hy).2.2.2,y,rfl,?_⟩;rw [hy] at hK;show if decide (y.1=p.2.2.1)=true then _ else _;by_cases z:y.1=p.2.2.1
    ·rw [if_pos (by simp [z])] at hK ⊢;exact hK
    ·rw [if_neg (by simpa using z)] at hK ⊢;exact hK
   ·have hs:=List.length_filter_le (fun k=>decide ((j0s p.1.l k).map (·.1)=some p.2.2.1)) (hrs p.1.l);have hs2:=j2r p.1.l;refine ⟨(show ((hrs p.1.l).filter _).length < 60 by omega),fun l l1 l2=>?_⟩
    have hl:∀ c∈l,∃ e,j0s p.1.l c=some (p.2.2.1,e):=fun c hc=>by
     have:=(List.mem_filter.mp (l2 c hc)).2
     cases e:j0s p.1.l c with
     | none=>rw [e] at this;simp at this
     | some y =>
      rw [e] at this;have this:y.1=p.2.2.1:=by simpa using this
      exact ⟨y.2,by rw [<- this]⟩
    obtain ⟨c1,c2,c3⟩:=k9d v l1 hl;have ll:l.length<=((hrs p.1.l).filter fun k=>decide ((j0s p.1.l k).map (·.1)=some p.2.2.1)).length:=j1h l1 l2;refine ⟨j08 (show l.length + 1<=1000 by omega),j3t (by omega),v,fun c hc=>?_,?_⟩
    ·obtain ⟨e,he⟩:=hl c hc;show (j0s p.1.l c).isSome=true;rw [he];rfl
    ·refine hk _ [(p.2.2.1,l++[(p.1.l.length:Int)])] (k1d v (by omega) fun r e z=>?_) (fun u hu=>?_) (by simp)
     ·cases z;exact ⟨r0,r1,j39 _ _,c1,c2⟩
     ·rcases List.mem_append.mp hu with z | z
      ·exact k1e (hL u z)
      ·rw [List.mem_singleton.mp z];exact c3
abbrev k6b:Stmt:=top 43
abbrev k69:List Str:=["_law_bag_here","_law_most"]
theorem sc_rows:FnScope ["_law_bag_here","_law_most","_law_rows_here","_law_k","_law_loops","_law_rank_here"] k69 (j0c k6b):=by walk_at "sc"
theorem w05:(["_law_k"]:List Str).Nodup:=by decide +kernel
abbrev w9k (q:Cq) (k:Nat):=Fkq q "_law_rows" k69 k5f k
theorem w5b {f:Addr} {fd:FuncData} (F:Dq1 q "_law_rows" k6b f fd) (G_pull:Fkq q "_law_pull" ["_law_bag_here","_law_many"] j4e 4) (G_stock:w6q q 4) (G_rank:w9m q 4) (G_edge_by:k9v q 4) (B:Bn q.mg):Gq q 5 f fd k69 k5f:=by
 refine' j0n (fn_w (D':=Unit) (ms:=[0]) (j:=4) F sc_rows rfl rfl fun cdv A outer s H E hr =>
   (sw_c (j0y 2 sc_rows.nd rfl (Or.inl rfl) (by decide) (j0w (Y:=(Option (Int×(List Int)))) j0x))
   (sw_c (j07 (j1w j5u (j0r (j0o G_pull hr rfl j0j (j04 (i:=0) (pv 0) (j0d j0f j0b)))) j0f (j0u _))
   (j0e (j0y 2 sc_rows.nd rfl (Or.inl rfl) (by decide) (j0o G_stock hr rfl j0j (j0d (j0r (j0o G_pull hr rfl j0j (j04 (i:=0) (pv 0) (j0d j0f j0b)))) j0b))))
   j00)
   (sw_c (j5h (Ts:=["_law_k"]) (Fr:=[]) (idx:=[]) (k:=1) (mb:=[]) (is:=[]) (cl:=[]) 4 sc_rows.nd rfl rfl rfl (by decide) rfl (j29 rfl B.range (j3a rfl B.len (j1v 2 (pv 2)))) ⟨rfl,rfl,by decide +kernel,by decide +kernel,(fun x c h=>by
    cases h),(fc (fun z=>by cases z) (fc (fun z=>by cases z) fnil)),
    (fun j x h=>by cases h),rfl⟩ rfl (j2s rfl) (fun s₀ H₀ C ex pn=>(j03 0 (j0q (i:=0) w05 rfl (Or.inl rfl)) (by decide))) (fun s₀ H₀ C ex pn=>(j21 (j1w w1y (j0a 0 (pv 0)) j0f (j0u _)))) (fun s₀ H₀ C ex pn=>(j1u j0f (ew_o (j0w (j0i (j0a 0 (pv 0)) j0x))))))
   (sw_c (j07 (j1w w6e (j3a rfl B.len (j1v 2 (pv 2))) j0f (j0u _))
   (j0e (j0y 4 sc_rows.nd rfl (Or.inl rfl) (by decide) (j8b (j1v 4 (pv 4)) (er_w (ew_o (j0w (j0i (j1u j0f (ew_o (j0w (j0i j0f (j0i j0f (j0i j0f j0x)))))) (j0i (j1u j0f (ew_o (j0w (j0i j0f (j0i j0f (j0i j0f j0x)))))) (j0i (j1u j0f (ew_o (j0w (j0i j0f (j0i j0f (j0i j0f j0x)))))) j0x)))))))))
   j00)
   (sw_c (j2g (is:=[]) (mb:=[0]) (D1:=Bg×Int×(OL (Option (Int×(List Int))))×Int×(OL (Int×(List Int)))×Un×Unit) (D2:=Bg×Int×(OL (Option (Int×(List Int))))×Int×(OL (Int×(List Int)))×Un×Unit) (j1f (by decide)) own1 rfl (j29 rfl B.range (j0r (j0o G_pull hr rfl j0j (j04 (i:=0) (pv 0) (j0d (j3v j4z (j0a 1 (pv 1)) j0f) j0b))))) (j03 3 (j0q (i:=3) sc_rows.nd rfl (Or.inl rfl)) (by decide))
   (j0e (j07 (j1w j5u (j0r (j0o G_pull hr rfl j0j (j04 (i:=0) (pv 0) (j0d j0f j0b)))) j0f (j0u _))
   (j0e (j2n 2 (pv 2) k8s (fun h=>j2p (k0j PySem.F.plainAttrs_list PySem.F.slot_list_append PySem.F.type_list_append j16 (pv 2) h))))
   (w3n (D':=Bg×Int×(OL (Option (Int×(List Int))))×Int×(OL (Int×(List Int)))×Un×Unit) (sw_c (j0y 5 sc_rows.nd rfl (Or.inl rfl) (by decide) (j0o G_rank hr rfl j0j (j04 (i:=0) (pv 0) j0b)))
   (j0e (j2n 2 (pv 2) (j5p (j1u (j0a 5 (pv 5)) (ew_o (j0o G_edge_by hr rfl j0j (j04 (i:=2) (pv 2) (j04 (i:=4) (pv 4) (j0d (j0a 5 (pv 5)) (j04 (i:=0) (pv 0) j0b)))))))) (fun h=>j2p (k0j PySem.F.plainAttrs_list PySem.F.slot_list_append PySem.F.type_list_append j16 (pv 2) h)))))))) (by decide) (by decide))
   (j0e (j3q 2 (pv 2))))))))) fun p Kn Ke h=>?_
 walk_at "wl"
 obtain ⟨hm,hk⟩:=h
 have loop:∀ (rows:List RW) (loops:List (Int×List Int)) (n:Int),n<=20->Vr rows->rows.length<=15->(∀ u∈loops,Lp rows u)->loops.length<=20 ->
   wFor (fun (x:Int) (b:Bg×Int×OL RW×WL.Un×OL (Int×List Int)×WL.Un×Unit) Kn' (Kr:OL RW->Bg×WL.Un×Unit->Prop) Ke =>
    j4e (b.1,9,()) (fun x p'=>if decide (x=8)=true then b.2.2.1.l.length < sizeLine/\Kn' (p'.1,b.2.1,⟨b.2.2.1.l++[none]⟩,⟨⟩,b.2.2.2.2.1,b.2.2.2.2.2.1,b.2.2.2.2.2.2) else
     k24 (p'.1,()) (fun x p'=>j4t (b.2.2.1,b.2.2.2.2.1,x,p'.1,()) (fun x_2 p'=>p'.1.l.length < sizeLine/\Kn' (p'.2.2.2.1,b.2.1,⟨p'.1.l++[some (x,x_2.l)]⟩,⟨⟩,p'.2.1,⟨⟩,b.2.2.2.2.2.2)) fun C p'=>Ke C (p'.2.2.2.1,⟨⟩,())) fun C p'=>Ke C (p'.1,⟨⟩,())) fun C p'=>Ke C (p'.1,⟨⟩,()))
   (rng 0 n) (⟨⟩,p.2.1,⟨rows⟩,⟨⟩,⟨loops⟩,⟨⟩,p.2.2) (fun b'=>Kn b'.2.2.1 (b'.1,⟨⟩,())) Kn Ke:=by
  intro rows loops n hn v hl hL hl2;refine j1a (fun (r:List Int) (b:Bg×Int×OL RW×WL.Un×OL (Int×List Int)×WL.Un×Unit)=>Vr b.2.2.1.l/\(∀ u∈b.2.2.2.2.1.l,Lp b.2.2.1.l u)/\b.2.2.1.l.length + r.length<=35/\b.2.2.2.2.1.l.length + r.length<=100) (rng 0 n) ⟨v,hL,(by rw [j1m];show rows.length + _<=35;omega),(by rw [j1m];show loops.length + _<=100;omega)⟩ ?_ ?_
  ·rintro y r b _ ⟨g1,g2,g3,g4⟩ K hK;rw [List.length_cons] at g3 g4;refine j2h (by decide) (by decide) fun s s0 s1=>?_;dsimp only;by_cases q:s=8
   ·rw [if_pos (decide_eq_true q)];refine ⟨j3t (by omega),hK _ ⟨k1d g1 (by omega) (fun r e z=>by cases z),fun u hu=>k1e (g2 u hu),?_,?_⟩⟩
    ·show (b.2.2.1.l++[none]).length + r.length<=35;rw [List.length_append,List.length_singleton];omega
    ·show b.2.2.2.2.1.l.length + r.length<=100;omega
   ·rw [if_neg (by simpa using q)];intro t t0 t1;refine ⟨g1,(show b.2.2.1.l.length<=34 by omega),(show b.2.2.2.2.1.l.length<=100 by omega),g2,t0,t1,fun e u v1 v2 v3=>⟨j3t (show b.2.2.1.l.length < 1000 by omega),hK _ ⟨v1,v2,?_,?_⟩⟩⟩
    ·show (b.2.2.1.l++[some (t,e)]).length + r.length<=35;rw [List.length_append,List.length_singleton];omega
    ·show (b.2.2.2.2.1.l++u).length + r.length<=100;rw [List.length_append];omega
  ·rintro b ⟨g1,_,g3,_⟩;exact hk _ g1 (by omega)
 have fin:∀ (rows:List RW) (ys:List (Int×List Int)),Vr rows->rows.length<=15->(∀ u∈ys,Lp rows u)->ys.length<=20->∀ g:Bg,j4e (g,p.2.1 + 1,()) (fun x p'=>(-2 ^ 62<=x/\x < 2 ^ 62)/\wFor (fun (x:Int) (b:Bg×Int×OL RW×WL.Un×OL (Int×List Int)×WL.Un×Unit) Kn' (Kr:OL RW->Bg×WL.Un×Unit->Prop) Ke =>
    j4e (b.1,9,()) (fun x p'=>if decide (x=8)=true then b.2.2.1.l.length < sizeLine/\Kn' (p'.1,b.2.1,⟨b.2.2.1.l++[none]⟩,⟨⟩,b.2.2.2.2.1,b.2.2.2.2.2.1,b.2.2.2.2.2.2) else
     k24 (p'.1,()) (fun x p'=>j4t (b.2.2.1,b.2.2.2.2.1,x,p'.1,()) (fun x_2 p'=>p'.1.l.length < sizeLine/\Kn' (p'.2.2.2.1,b.2.1,⟨p'.1.l++[some (x,x_2.l)]⟩,⟨⟩,p'.2.1,⟨⟩,b.2.2.2.2.2.2)) fun C p'=>Ke C (p'.2.2.2.1,⟨⟩,())) fun C p'=>Ke C (p'.1,⟨⟩,())) fun C p'=>Ke C (p'.1,⟨⟩,()))
   (rng 0 x) (p'.1,p.2.1,⟨rows⟩,⟨⟩,⟨ys⟩,⟨⟩,p.2.2) (fun b'=>Kn b'.2.2.1 (b'.1,⟨⟩,())) Kn Ke) (fun C p'=>Ke C (p'.1,⟨⟩,())):=by
  intro rows ys v l1 hL l2 g;exact j2h (by omega) (by omega) fun r g0 g1=>⟨⟨by omega,by omega⟩,loop rows ys r (by omega) v l1 hL l2⟩
 refine j2h (by decide) (by decide) fun x g0 g1=>?_;dsimp only;by_cases hx:x=1
 ·rw [if_pos (decide_eq_true hx)];refine j2h (by decide) (by decide) fun m m0 m1=>⟨m0,?_⟩;dsimp only;have c:=List.all_eq_true.mp w6f m.toNat (List.mem_range.mpr (by omega));unfold chk at c;simp only [Bool.and_eq_true,Bool.or_eq_true,decide_eq_true_eq] at c;obtain ⟨⟨⟨⟨c1,c2⟩,c3⟩,c4⟩,c5⟩:=c;have v:=w26 c1;refine ⟨⟨by omega,by omega⟩,(by rw [j1m];exact j08 (by omega)),j1d (f:=fun k:Int=>if decide (k < 4)=true then some (0,[k]) else none) (fun k _ K hK=>?_) ?_⟩
  ·show if decide (k < 4)=true then K (some (0,[k])) _ else K none _;by_cases z:decide (k < 4)=true
   ·rw [if_pos z] at hK ⊢;exact hK
   ·rw [if_neg z] at hK ⊢;exact hK
  ·have l0:∀ u∈lp0 (stk.take m.toNat).length,Lp (stk.take m.toNat) u:=fun u hu=>w28 (List.all_eq_true.mp c2 u hu);by_cases h9:9 < ((stk.take m.toNat).length:Int)
   ·rw [if_pos (decide_eq_true h9)];have c5:lp1.all (LpB (stk.take m.toNat))=true:=c5.elim (fun z=>absurd z (by omega)) id;refine ⟨j08 (show (lp0 (stk.take m.toNat).length).length + 3<=1000 by omega),fin _ (lp0 (stk.take m.toNat).length++lp1) v c4 (fun u hu=>?_) ?_ _⟩
    ·rcases List.mem_append.mp hu with z | z
     ·exact l0 u z
     ·exact w28 (List.all_eq_true.mp c5 u z)
    ·rw [List.length_append];show _ + 3<=20;omega
   ·rw [if_neg (by simpa using h9)];exact fin _ (lp0 (stk.take m.toNat).length) v c4 l0 (by omega) _
 ·rw [if_neg (by simpa using hx)];refine ⟨⟨by decide,by decide⟩,j08 (by decide),j1d (f:=fun k:Int=>if decide (k < 4)=true then some (0,[k]) else none) (fun k _ K hK=>?_) ?_⟩
  ·show if decide (k < 4)=true then K (some (0,[k])) _ else K none _;by_cases z:decide (k < 4)=true
   ·rw [if_pos z] at hK ⊢;exact hK
   ·rw [if_neg z] at hK ⊢;exact hK
  ·exact fin [] [] (w26 rfl) (by decide) (fun u hu=>by cases hu) (by decide) _
abbrev k6i:Stmt:=top 44
abbrev k7e:List Str:=["_law_body","_law_rows_here"]
theorem sc_fill:FnScope ["_law_body","_law_rows_here","_law_number","_law_row_here"] k7e (j0c k6i):=by walk_at "sc"
abbrev w9p (q:Cq) (C:Addr) (k:Nat):=Fkq q "_law_fill" k7e (w19 C) k
theorem w5i {f:Addr} {fd:FuncData} (F:Dq1 q "_law_fill" k6i f fd) (ct:CTx q.K C) (G_put:w9n q C XB XS XC XO XP 5) (G_take:w29 q C XC XV 5) (B:Bn q.mg):Gq q 6 f fd k7e (w19 C):=by
 refine' j0n (fn_w (D':=Unit) (ms:=[]) (j:=2) F sc_fill rfl rfl fun cdv A outer s H E hr =>
   (sw_c (j2g (is:=[]) (mb:=[]) (D1:=(Bd C false)×(List (Option (Int×(List Int))))×Int×(Option (Int×(List Int)))×Unit) (D2:=(Bd C false)×(List (Option (Int×(List Int))))×Int×(Option (Int×(List Int)))×Unit) (j1f (by decide)) own1 rfl (w5t rfl B.enumerate (j0a 1 (pv 1))) (j9o 2 3 (k0i rfl (j13 (j0q (i:=2) sc_fill.nd rfl (Or.inl rfl)) (j13 (j0q (i:=3) sc_fill.nd rfl (Or.inl rfl)) j6y))) (by decide) (by decide))
   (j0e (j07 (j1w k34 (j0a 3 (pv 3)) j79 (j0u _))
   (sw_c (j1e (j0r (j2w 0 G_put hr ct.cl j0j (pv 0) (j0d j0f (j0d (ew_o (j0w (Y:=Int) j0x)) j0b)))))
   (j0e (j1e (j0r (j2w 0 G_take hr ct.cl j0j (pv 0) (j0d (j0a 2 (pv 2)) j0b))))))
   (j0e (j1e (j0r (j2w 0 G_put hr ct.cl j0j (pv 0) (j0d (j8a (j3u (j0a 3 (pv 3)))) (j0d (ew_o (j3w rfl B.list (er_w (k0x (j3u (j0a 3 (pv 3))))))) j0b)))))))) (by decide) (by decide))
   (j0e (j3q 0 (pv 0))))) fun p Kn Ke h=>?_
 walk_at "wl"
 obtain ⟨hx,v,hk⟩:=h;refine j1a (fun (r:List (Int×RW)) (b:B0 C×List RW×WL.Un×WL.Un×Unit)=>∃ k,r=enm k (p.2.1.drop k)/\k<=p.2.1.length/\Cor b.1 (p.2.1.take k)) (enm 0 p.2.1) ⟨0,rfl,Nat.zero_le _,?_⟩ ?_ ?_
 ·show Cor p.1 [];rw [hx];exact w6p
 ·rintro x r b _ ⟨k,e,hl,c⟩ K hK
  have hlt:k < p.2.1.length:=by
   rcases Nat.lt_or_ge k p.2.1.length with z | z
   ·exact z
   ·rw [List.drop_of_length_le z] at e;cases e
  rw [List.drop_eq_getElem_cons hlt] at e;have e1:x=((k:Int),p.2.1[k]):=by cases e;rfl
  have e2:r=enm (k + 1) (p.2.1.drop (k + 1)):=by cases e;rfl
  have tk:p.2.1.take (k + 1)=p.2.1.take k++[p.2.1[k]]:=(List.take_append_getElem hlt).symm;have lt:(p.2.1.take k).length=k:=List.length_take_of_le hl;have vt:=w6o v k;have next:∀ x':B0 C,Cor x' (p.2.1.take k++[p.2.1[k]])->K (x',b.2.1,⟨⟩,⟨⟩,b.2.2.2.2):=fun x' h=>hK _ ⟨k + 1,e2,hlt,by rw [tk];exact h⟩
  have ra:j0s p.2.1 (k:Int)=p.2.1[k]:=j82 (by omega) (by rw [Int.toNat_natCast];exact List.getElem?_eq_getElem hlt);have ln:=v.ln;subst e1;dsimp only
  cases z:p.2.1[k] with
  | none =>
   rw [if_pos (show (none:RW).isNone=true from rfl)];rw [z] at next
   refine k6q c vt (Int.le_refl 0) (by decide) List.Pairwise.nil (fun _ q=>by cases q) rfl fun x1 c1=>?_;have v1:Vr (p.2.1.take k++[some (0,[])]):=Vr_pt vt (by omega);refine k5s c1 v1 (by have:=j09 (rows:=p.2.1.take k) (z:=some (0,[]));rw [lt] at this;rw [this];rfl) (fun h hj=>?_) fun x2 c2=>next x2 ?_
   ·cases q:j0s (p.2.1.take k++[some (0,[])]) h with
    | none=>unfold eb at hj;rw [q] at hj;cases hj
    | some y =>
     rw [j5b q] at hj;have a1:=((v1.ok h y.1 y.2 q).2.2.2.1 _ hj).1;have a2:=(j0v q).2.1;rw [List.length_append,List.length_singleton,lt] at a2;omega
   ·rw [Int.toNat_natCast,List.set_append_right _ _ (by omega),lt,Nat.sub_self] at c2;exact c2
  | some y =>
   rw [if_neg (by simp)];rw [z] at next ra
   obtain ⟨a1,a2,a3,a4,a5⟩:=v.ok k y.1 y.2 ra;refine ⟨y,rfl,y,rfl,k6q c vt a1 a2 a3 (fun d hd=>?_) ?_ fun x1 c1=>next x1 c1⟩
   ·obtain ⟨q1,e',q2⟩:=a4 d hd;exact ⟨e',by rw [j2k,if_pos q1];exact q2⟩
   ·rw [<- a5];refine j11 fun d hd=>?_;unfold eb;rw [j2k,if_pos (a4 d hd).1]
 ·rintro b ⟨k,e,hl,c⟩
  have:k=p.2.1.length:=by
   rcases Nat.lt_or_ge k p.2.1.length with z | z
   ·rw [List.drop_eq_getElem_cons z] at e;cases e
   ·omega
  rw [this,List.take_length] at c;exact hk _ c
abbrev j3p:Stmt:=top 47
abbrev j3s:List Str:=["_law_body","_law_rows_here"]
theorem sc_cells_kept:FnScope ["_law_body","_law_rows_here","_law_cell"] j3s (j0c j3p):=by walk_at "sc"
abbrev k1h (q:Cq) (C:Addr) (k:Nat):=Fkq q "_law_cells_kept" j3s (j3m C) k
theorem j9h {f:Addr} {fd:FuncData} (F:Dq1 q "_law_cells_kept" j3p f fd) (ct:CTx q.K C) (G_same:w9j q 4) (G_here:j8h q 4) (G_truth:k9u q 4) (G_whole:k9t q 4) (G_cells:k20 q C 4) (G_coming:w17 q C 4) (G_stands:w14 q C 4) (G_rankM:w6r q C XC 4) (G_border:k4b q C XC 4) (B:Bn q.mg):Gq q 5 f fd j3s (j3m C):=by
 refine' j0n (fn_w (D':=Unit) (ms:=[0]) (j:=1) F sc_cells_kept rfl rfl fun cdv A outer s H E hr =>
   (sw_c (j07 (tw_w (j8i (j14 (j1r (j0r (j0o G_same hr rfl j0j (j0d (ew_o (w1t 0 G_cells hr ct.cl j0j (pv 0))) (j0d (ew_o (j0o G_here hr rfl j0j (j0d (j0a 1 (pv 1)) j0b))) j0b)))))) (j6f (j1w w6c (j0r (w1t 0 G_coming hr ct.cl j0j (pv 0))) (j3a rfl B.len (er_w (j0a 1 (pv 1)))) (j0u _)))))
   (j0e (j0t (j0z j3k)))
   j00)
   (sw_c (j2g (is:=[]) (mb:=[0]) (D1:=(Bd C false)×(List (Option (Int×(List Int))))×Int×Unit) (D2:=(Bd C false)×(List (Option (Int×(List Int))))×Int×Unit) (j1f (by decide)) own1 rfl (k0t rfl B.range (k0y j0f) (j3v j4z (j3a rfl B.len (er_w (j0a 1 (pv 1)))) j0f) (fun h=>k0h rfl B.range h)) (j03 2 (j0q (i:=2) sc_cells_kept.nd rfl (Or.inl rfl)) (by decide))
   (j0e (j07 (j14 (j1r (j0r (j0o G_truth hr rfl j0j (j0d (j0r (j2w 0 G_stands hr ct.cl j0j (pv 0) (j0d (j0a 2 (pv 2)) j0b))) (j0d (w81 w6d (j0a 2 (pv 2)) (er_w (ew_o (j0o G_here hr rfl j0j (j0d (j0a 1 (pv 1)) j0b)))) (by with_unfolding_all rfl)) j0b))))))
   (j0e (j0t (j0z j3k)))
   j00)) (by decide) (by decide))
   (sw_c (j2g (is:=[]) (mb:=[0]) (D1:=(Bd C false)×(List (Option (Int×(List Int))))×Int×Unit) (D2:=(Bd C false)×(List (Option (Int×(List Int))))×Int×Unit) (j1f (by decide)) own1 rfl (j17 (ew_o (j0o G_here hr rfl j0j (j0d (j0a 1 (pv 1)) j0b)))) (j03 2 (j0q (i:=2) sc_cells_kept.nd rfl (Or.inl rfl)) (by decide))
   (sw_c (j07 (tw_w (j8i (j1w w6c (j0r (j2w 0 G_rankM hr ct.cl j0j (pv 0) (j0d (j0a 2 (pv 2)) j0b))) (j8a (j3u (j2v (er_w (j0a 1 (pv 1))) (j0a 2 (pv 2))))) (j0u _)) (j6f (j14 (j1r (j0r (j0o G_whole hr rfl j0j (j0d (j0r (j2w 0 G_rankM hr ct.cl j0j (pv 0) (j0d (j0a 2 (pv 2)) j0b))) j0b))))))))
   (j0e (j0t (j0z j3k)))
   j00)
   (j0e (j07 (j14 (j1r (j0r (j0o G_same hr rfl j0j (j0d (ew_o (j2w 0 G_border hr ct.cl j0j (pv 0) (j0d (j0a 2 (pv 2)) j0b))) (j0d (k0x (j3u (j2v (er_w (j0a 1 (pv 1))) (j0a 2 (pv 2))))) j0b))))))
   (j0e (j0t (j0z j3k)))
   j00))) (by decide) (by decide))
   (j0e (j0t (j0z j3k))))))) fun p Kn Ke h=>?_
 walk_at "wl"
 obtain ⟨c,v,h⟩:=h;have ln:=v.ln;refine ⟨c.okb v,(show p.2.1.length < 1000 by omega),k57 c.ks ?_⟩;rw [if_neg (by decide)];show if (!decide (p.1.up=(p.2.1.length:Int)))=true then _ else _;rw [if_neg (by simp [c.up])];refine ⟨⟨by decide,by decide,by omega,by omega⟩,?_⟩;refine j1a (fun (r:List Int) (b:B0 C×List RW×WL.Un×Unit)=>b.1=p.1/\b.2.1=p.2.1) _ ⟨rfl,rfl⟩ ?_ ?_
 ·rintro k r ⟨b1,b2,b3⟩ _ ⟨e1,e2⟩ K hK;dsimp only at e1 e2 ⊢;subst e1 e2;refine ⟨(show p.2.1.length < 1000 by omega),k3d (c.stand k) ?_⟩;rw [if_neg (by decide)];exact hK _ ⟨rfl,rfl⟩
 ·rintro ⟨b1,b2,b3⟩ ⟨e1,e2⟩;dsimp only at e1 e2 ⊢;subst e1 e2;refine ⟨(show p.2.1.length < 1000 by omega),?_⟩;refine j1a (fun (r:List Int) (b:B0 C×List RW×WL.Un×Unit)=>b.1=p.1/\b.2.1=p.2.1/\∀ k∈r,(j0s p.2.1 k).isSome=true) _ ⟨rfl,rfl,fun k hk=>hrs_mem.mp hk⟩ ?_ ?_
  ·rintro k r ⟨b1,b2,b3⟩ _ ⟨e1,e2,hs⟩ K hK;dsimp only at e1 e2 ⊢;subst e1 e2;obtain ⟨y,hy⟩:=Option.isSome_iff_exists.mp (hs k List.mem_cons_self);refine k6n c hy ⟨_,(j0v hy).2.2.2,y,rfl,?_⟩;rw [if_neg (by simp)];refine k6n c hy (k9x ?_);rw [if_neg (by decide)];refine k9l c v hy ⟨_,(j0v hy).2.2.2,y,rfl,k57 rfl ?_⟩;rw [if_neg (by decide)];exact hK _ ⟨rfl,rfl,fun j hj=>hs j (List.mem_cons_of_mem _ hj)⟩
  ·rintro ⟨b1,b2,b3⟩ ⟨e1,e2,_⟩;dsimp only at e1 e2 ⊢;subst e1 e2;exact h
abbrev k6e:Stmt:=top 48
abbrev k7b:List Str:=["_law_rows_here","_law_cell"]
theorem w3w:FnScope ["_law_rows_here","_law_cell"] k7b (j0c k6e):=by walk_at "sc"
theorem w06:(["_law_k","_law_cell","_law_rows_here"]:List Str).Nodup:=by decide +kernel
abbrev w9o (q:Cq) (k:Nat):=Fkq q "_law_over" k7b k5g k
theorem w5e {f:Addr} {fd:FuncData} (F:Dq1 q "_law_over" k6e f fd) (G_here:j8h q 2):Gq q 3 f fd k7b k5g:=by
 refine' j0n (fn_w (D':=Unit) (ms:=[]) (j:=0) F w3w rfl rfl fun cdv A outer s H E hr =>
   (j0e (j0t (j3d (Ts:=["_law_k"]) (Fr:=["_law_cell","_law_rows_here"]) (idx:=[1,0]) (k:=1) (mb:=[1,2]) (is:=[]) (cl:=[("_law_rows_here",s.heap.objs.size + 1),("_law_cell",s.heap.objs.size + 1 + 1)]) rfl (j17 (ew_o (j0o G_here hr rfl j0j (j0d (j0a 0 (pv 0)) j0b)))) ⟨rfl,rfl,by decide +kernel,by decide +kernel,(fun x c h=>by
    rcases lkc h with ⟨rfl,rfl⟩ | h
    ·rfl
    rcases lkc h with ⟨rfl,rfl⟩ | h
    ·rfl
    cases h),(fc (fun z=>by cases z) (fc (fun z=>by cases z) (fc (fun _=>⟨_,rfl⟩) (fc (fun _=>⟨_,rfl⟩) fnil)))),
    (fun j x h=>by
    match j,h with
    | 0,h=>cases h;exact ⟨1,_,rfl,rfl,.inl rfl,rfl,.inl rfl⟩
    | 1,h=>cases h;exact ⟨0,_,rfl,rfl,.inl rfl,rfl,.inl rfl⟩
    | n + 2,h=>cases h),rfl⟩ rfl (j2s rfl) (fun s₀ H₀ C ex pn=>(j03 0 (j0q (i:=0) w06 rfl (Or.inl rfl)) (by decide))) (fun s₀ H₀ C ex pn=>(j21 (j93 w6d (j0a 1 (pv 1)) (er_w (k0x (j3u (j2v (er_w (j0a 2 (pv 2))) (j0a 0 (pv 0)))))) (by with_unfolding_all rfl)))) (fun s₀ H₀ C ex pn=>(j0a 0 (pv 0))))))) fun p Kn Ke h=>?_
 walk_at "wl"
 obtain ⟨hl,h⟩:=h;have ll:=j2r p.1;refine ⟨hl,j08 (show (hrs p.1).length<=1000 by omega),j1j (q:=fun k=>decide (p.2.1∈eb p.1 k)) (fun k hk K hK=>?_) h⟩;obtain ⟨y,hy⟩:=Option.isSome_iff_exists.mp (hrs_mem.mp hk);rw [j5b hy] at hK;exact ⟨_,(j0v hy).2.2.2,y,rfl,hK⟩
abbrev w3z:Stmt:=top 30
abbrev w4z:List Str:=["_law_found"]
theorem sc_sum:FnScope ["_law_found","_law_k"] w4z (j0c w3z):=by walk_at "sc"
abbrev A_sum (q:Cq) (k:Nat):=Fkq q "_law_sum" w4z w6x k
theorem w76 {f:Addr} {fd:FuncData} (F:Dq1 q "_law_sum" w3z f fd) (G_row:w9l q 3) (B:Bn q.mg):Gq q 4 f fd w4z w6x:=by
 refine' j0n (fn_w (D':=Unit) (ms:=[]) (j:=1) F sc_sum rfl rfl fun cdv A outer s H E hr =>
   (sw_c (j07 (j14 (j1r (j0r (j0o G_row hr rfl j0j (j0d (j0a 0 (pv 0)) j0b)))))
   (j0e (j0t (j0z j3k)))
   j00)
   (sw_c (j2g (is:=[]) (mb:=[]) (D1:=(List Int)×Int×Unit) (D2:=(List Int)×Int×Unit) (j1f (by decide)) own1 rfl (k0t rfl B.range j0f (j3a rfl B.len (er_w (j0a 0 (pv 0)))) (fun h=>k0h rfl B.range h)) (j03 1 (j0q (i:=1) sc_sum.nd rfl (Or.inl rfl)) (by decide))
   (j0e (j07 (j1w w9b (j2v (er_w (j0a 0 (pv 0))) (j3v k3p (j0a 1 (pv 1)) j0f)) (j2v (er_w (j0a 0 (pv 0))) (j0a 1 (pv 1))) (j0u _))
   (j0e (j0t (j0z j3k)))
   j00)) (by decide) (by decide))
   (j0e (j0t (j0z j3k)))))) fun p Kn Ke h=>?_
 walk_at "wl"
 obtain ⟨hr,hl,hk⟩:=h;refine w7i ?_;rw [if_neg (by decide)];refine ⟨⟨by decide,by decide,by omega,by omega⟩,?_⟩;refine j1a (fun (r:List Int) (b:List Int×WL.Un×Unit)=>b.1=p.1/\∀ k∈r,1<=k/\k < p.1.length) (rng 1 p.1.length) ⟨rfl,fun k hk=>w1c hk⟩ ?_ ?_
 ·rintro k r ⟨b1,b2⟩ _ ⟨e1,e2⟩ K hK;dsimp only at e1 ⊢;subst e1;obtain ⟨a,b,h1,h2,h3⟩:=w7j hr (e2 k List.mem_cons_self).1 (e2 k List.mem_cons_self).2;refine ⟨a,h1,b,h2,?_⟩;rw [if_neg (by simpa using h3)];exact hK _ ⟨rfl,fun j hj=>e2 j (List.mem_cons_of_mem _ hj)⟩
 ·exact fun _ _=>hk
abbrev j8v:Stmt:=top 31
abbrev j9a:List Str:=["_law_row_here","_law_keep"]
theorem k52:FnScope ["_law_row_here","_law_keep"] j9a (j0c j8v):=by walk_at "sc"
theorem k4q:(["_law_x","_law_keep"]:List Str).Nodup:=by decide +kernel
abbrev k39 (q:Cq) (k:Nat):=Fkq q "_law_parted" j9a k25 k
theorem k7n {f:Addr} {fd:FuncData} (F:Dq1 q "_law_parted" j8v f fd):Gq q 2 f fd j9a k25:=by
 refine' j0n (fn_w (D':=Unit) (ms:=[]) (j:=0) F k52 rfl rfl fun cdv A outer s H E hr =>
   (j0e (j0t (j3d (Ts:=["_law_x"]) (Fr:=["_law_keep"]) (idx:=[1]) (k:=1) (mb:=[1]) (is:=[]) (cl:=[("_law_keep",s.heap.objs.size + 1)]) rfl (j17 (j0a 0 (pv 0))) ⟨rfl,rfl,by decide +kernel,by decide +kernel,(fun x c h=>by
    rcases lkc h with ⟨rfl,rfl⟩ | h
    ·rfl
    cases h),(fc (fun z=>by cases z) (fc (fun z=>by cases z) (fc (fun _=>⟨_,rfl⟩) fnil))),
    (fun j x h=>by
    match j,h with
    | 0,h=>cases h;exact ⟨1,_,rfl,rfl,.inl rfl,rfl,.inl rfl⟩
    | n + 1,h=>cases h),rfl⟩ rfl (j2s rfl) (fun s₀ H₀ C ex pn=>(j03 0 (j0q (i:=0) k4q rfl (Or.inl rfl)) (by decide))) (fun s₀ H₀ C ex pn=>(j21 (j93 w6d (j0a 0 (pv 0)) (er_w (j0a 1 (pv 1))) (by with_unfolding_all rfl)))) (fun s₀ H₀ C ex pn=>(j0a 0 (pv 0))))))) fun p Kn Ke h=>?_
 walk_at "wl"
 obtain ⟨hl,hk⟩:=h;exact ⟨j08 hl,j1j (q:=fun k=>decide (k∈p.2.1)) (fun k _ K hK=>hK) hk⟩
abbrev w32:Stmt:=top 32
abbrev w42:List Str:=["_law_one","_law_other"]
theorem w7f:FnScope ["_law_one","_law_other"] w42 (j0c w32):=by walk_at "sc"
abbrev A_odd (q:Cq) (k:Nat):=Fkq q "_law_odd" w42 w6y k
theorem w79 {f:Addr} {fd:FuncData} (F:Dq1 q "_law_odd" w32 f fd) (G_parted:k39 q 2) (B:Bn q.mg):Gq q 3 f fd w42 w6y:=by
 refine' j0n (fn_w (D':=Unit) (ms:=[]) (j:=0) F w7f rfl rfl fun cdv A outer s H E hr =>
   (j0e (j0t (j0z (w54 j5u (k8r j52 (j3a rfl B.len (er_w (ew_o (j0o G_parted hr rfl j0j (j0d (j0a 0 (pv 0)) (j0d (j0a 1 (pv 1)) j0b)))))) j0f) j0f (j0u _)))))) fun p Kn Ke h=>?_
 walk_at "wl"
 obtain ⟨hl,hk⟩:=h;refine ⟨hl,by decide,?_⟩;show Kn (decide (((p.1.filter fun k=>decide (k∈p.2.1)).length:Int) % 2=1)) _
 have e:pr p.2.1 p.1=decide (((p.1.filter fun k=>decide (k∈p.2.1)).length:Int) % 2=1):=by
  rw [k0g];by_cases z:(p.1.filter fun k=>decide (k∈p.2.1)).length % 2=1
  ·rw [decide_eq_true z,decide_eq_true (by omega)]
  ·rw [decide_eq_false z,decide_eq_false (by omega)]
 rw [<- e];exact hk
abbrev j8x:Stmt:=top 33
abbrev j9b:List Str:=["_law_rows_here","_law_found","_law_row_here"]
theorem sc_is_bar:FnScope ["_law_rows_here","_law_found","_law_row_here","_law_cell"] j9b (j0c j8x):=by walk_at "sc"
abbrev w15 (q:Cq) (k:Nat):=Fkq q "_law_is_bar" j9b k26 k
theorem k7o {f:Addr} {fd:FuncData} (F:Dq1 q "_law_is_bar" j8x f fd) (G_here:j8h q 3) (G_odd:A_odd q 3):Gq q 4 f fd j9b k26:=by
 refine' j0n (fn_w (D':=Unit) (ms:=[]) (j:=1) F sc_is_bar rfl rfl fun cdv A outer s H E hr =>
   (sw_c (j2g (is:=[]) (mb:=[]) (D1:=(List (Option (Int×(List Int))))×(List Int)×(List Int)×Int×Unit) (D2:=(List (Option (Int×(List Int))))×(List Int)×(List Int)×Int×Unit) (j1f (by decide)) own1 rfl (j17 (ew_o (j0o G_here hr rfl j0j (j0d (j0a 0 (pv 0)) j0b)))) (j03 3 (j0q (i:=3) sc_is_bar.nd rfl (Or.inl rfl)) (by decide))
   (j0e (j07 (j1r (j0r (j0o G_odd hr rfl j0j (j0d (j0a 1 (pv 1)) (j0d (k0x (j3u (j2v (er_w (j0a 0 (pv 0))) (j0a 3 (pv 3))))) j0b)))))
   (j0e (j0t (j0z j3k)))
   j00)) (by decide) (by decide))
   (j0e (j0t (j0o G_odd hr rfl j0j (j0d (j0a 1 (pv 1)) (j0d (j0a 2 (pv 2)) j0b))))))) fun p Kn Ke h=>?_
 walk_at "wl"
 obtain ⟨v,hr,hl,hb,hk⟩:=h;have ln:=v.ln;refine ⟨(show p.1.length < 1000 by omega),?_⟩;refine j1a (fun (r:List Int) (b:List RW×List Int×List Int×WL.Un×Unit)=>b.1=p.1/\b.2.1=p.2.1/\b.2.2.1=p.2.2.1/\∀ k∈r,k∈hrs p.1) (hrs p.1) ⟨rfl,rfl,rfl,fun k hk=>hk⟩ ?_ ?_
 ·rintro k r ⟨b1,b2,b3,b4⟩ _ ⟨e1,e2,e3,e4⟩ K hK;dsimp only at e1 e2 e3 ⊢;subst e1 e2 e3;have hk:=e4 k List.mem_cons_self;obtain ⟨y,hy⟩:=Option.isSome_iff_exists.mp (hrs_mem.mp hk);have ev:=hb.ev k hk;rw [j5b hy,w2i hb.ri (v.edge hy).1] at ev;refine ⟨_,(j0v hy).2.2.2,y,rfl,hl,?_⟩;dsimp only;rw [ev,if_neg (by decide)];exact hK _ ⟨rfl,rfl,rfl,fun j hj=>e4 j (List.mem_cons_of_mem _ hj)⟩
 ·rintro ⟨b1,b2,b3,b4⟩ ⟨e1,e2,e3,_⟩;dsimp only at e1 e2 e3 ⊢;subst e1 e2 e3;refine ⟨hl,?_⟩;dsimp only;rw [w2i hr hb.ri,hb.od];exact hk
abbrev j2b:Stmt:=top 36
abbrev j2d:List Str:=["_law_rows_here","_law_found","_law_other","_law_row_here"]
theorem sc_filling_or_bar:FnScope ["_law_rows_here","_law_found","_law_other","_law_row_here","_law_here_here"] j2d (j0c j2b):=by walk_at "sc"
abbrev j3j (q:Cq) (k:Nat):=Fkq q "_law_filling_or_bar" j2d j19 k
theorem j5m {f:Addr} {fd:FuncData} (F:Dq1 q "_law_filling_or_bar" j2b f fd) (G_here:j8h q 4) (G_sum:A_sum q 4) (G_parted:k39 q 4) (G_is_bar:w15 q 4) (G_edge:k9w q 4):Gq q 5 f fd j2d j19:=by
 refine' j0n (fn_w (D':=Unit) (ms:=[]) (j:=1) F sc_filling_or_bar rfl rfl fun cdv A outer s H E hr =>
   (sw_c (j0y 4 sc_filling_or_bar.nd rfl (Or.inl rfl) (by decide) (j0o G_here hr rfl j0j (j0d (j0a 0 (pv 0)) j0b)))
   (sw_c (j07 (j1w k34 (j0a 1 (pv 1)) j79 (j0u _))
   (sw_c (j07 (tw_w (j8i (j1w k34 (j0a 2 (pv 2)) j79 (j0u _)) (j8i (j14 (j1r (j0r (j0o G_sum hr rfl j0j (j0d (j3u (j0a 2 (pv 2))) j0b))))) (j6f (j4g (j7j hr.units) (er_w (ew_o (j0o G_parted hr rfl j0j (j0d (j3u (j0a 2 (pv 2))) (j0p (i:=4) (pv 4) j0b))))) (er_w (j3u (j0a 2 (pv 2)))) (j0u _))))))
   (j0e (j0t (j0z j3k)))
   j00)
   (j0e (j0t (j0o G_is_bar hr rfl j0j (j0d (j0a 0 (pv 0)) (j0d (j3u (j0a 2 (pv 2))) (j0d (j0a 3 (pv 3)) j0b)))))))
   j00)
   (sw_c (j07 (tw_w (j8i (j1w k9b (j0a 2 (pv 2)) j79 (j0u _)) (j8i (j14 (j1r (j0r (j0o G_sum hr rfl j0j (j0d (j3u (j0a 1 (pv 1))) j0b))))) (j6f (j4g (j7j hr.units) (er_w (ew_o (j0o G_parted hr rfl j0j (j0d (j3u (j0a 1 (pv 1))) (j0p (i:=4) (pv 4) j0b))))) (er_w (j3u (j0a 1 (pv 1)))) (j0u _))))))
   (j0e (j0t (j0z j3k)))
   j00)
   (j0e (j0t (j0z (k31 (j7k hr.units) (er_w (ew_o (j0o G_edge hr rfl j0j (j0d (j0a 0 (pv 0)) (j0d (j3u (j0a 1 (pv 1))) j0b))))) (er_w (j0a 3 (pv 3))) (j0u _))))))))) fun p Kn Ke h=>?_
 walk_at "wl"
 obtain ⟨rows,a,b,row,u⟩:=p;obtain ⟨v,hr,hf,hk⟩:=h;dsimp only at v hr hf hk ⊢;have ln:=v.ln;refine ⟨(show rows.length < 1000 by omega),?_⟩
 cases hf with
 | @bar t hb =>
  have bl:=hb.len ln;have bl:t.length<=1000:=by omega
  simp only [Option.isNone_none,Option.isNone_some,Bool.false_eq_true,if_true,if_false];refine ⟨_,rfl,hb.ri,bl,?_⟩;simp only [Bool.not_true,Bool.false_eq_true,if_false];refine ⟨_,rfl,bl,_,rfl,?_⟩;dsimp only;rw [j78 hb.su,if_neg (by simp)];exact ⟨_,rfl,v,hr,bl,hb,hk⟩
 | @fil t hb =>
  have bl:t.length<=95:=Nat.le_trans (Nat.le_trans (j1h hb.ri hb.su) (j2r rows)) ln;have bl:t.length<=1000:=by omega
  simp only [Option.isNone_none,Option.isNone_some,Bool.not_true,Bool.false_eq_true,if_false];refine ⟨_,rfl,hb.ri,bl,?_⟩;simp only [Bool.not_true,Bool.false_eq_true,if_false];refine ⟨_,rfl,bl,_,rfl,?_⟩;dsimp only;rw [j78 hb.su,if_neg (by simp)];refine ⟨_,rfl,v,fun c hc=>hrs_mem.mp (hb.su c hc),?_⟩;dsimp only;rw [hb.eq,decide_eq_true rfl];exact hk
abbrev k1u:Stmt:=top 49
abbrev k2a:List Str:=["_law_body","_law_rows_here","_law_row_here"]
theorem sc_asked:FnScope ["_law_body","_law_rows_here","_law_row_here","_law_found","_law_other","_law_good","_law_told"] k2a (j0c k1u):=by walk_at "sc"
abbrev w6t (q:Cq) (C:Addr) (k:Nat):=Fkq q "_law_asked" k2a (k1l C) k
theorem w02 {f:Addr} {fd:FuncData} (F:Dq1 q "_law_asked" k1u f fd) (G_filling:k1f q C 6) (G_bar:w9q q C 6) (G_filling_or_bar:j3j q 6) (B:Bn q.mg):Gq q 7 f fd k2a (k1l C):=by
 refine' j0n (fn_w (D':=Unit) (ms:=[0]) (j:=4) F sc_asked rfl rfl fun cdv A outer s H E hr =>
   (sw_c (j0y 3 sc_asked.nd rfl (Or.inl rfl) (by decide) (j0o G_filling hr rfl j0j (j04 (i:=0) (pv 0) (j0d (ew_o (j3w rfl B.list (er_w (j0a 2 (pv 2))))) j0b))))
   (sw_c (j0y 4 sc_asked.nd rfl (Or.inl rfl) (by decide) (j0o G_bar hr rfl j0j (j04 (i:=0) (pv 0) (j0d (ew_o (j3w rfl B.list (er_w (j0a 2 (pv 2))))) j0b))))
   (sw_c (j0y 5 sc_asked.nd rfl (Or.inl rfl) (by decide) (j0o G_filling_or_bar hr rfl j0j (j0d (j0a 1 (pv 1)) (k1c (i:=3) (pv 3) (k1c (i:=4) (pv 4) (j0d (j0a 2 (pv 2)) j0b))))))
   (sw_c (j07 (j1r (j0a 5 (pv 5)))
   (sw_c (w4c 3 4 6 own1 rfl (by decide) (pv 3) (pv 4) (pv 6) (j0q (i:=6) sc_asked.nd rfl (Or.inl rfl)) (fun h=>j2p (k0j PySem.F.plainAttrs_list PySem.F.slot_list_append PySem.F.type_list_append j16 (pv 6) h)))
   (j0e (j0y 5 sc_asked.nd rfl (Or.inl rfl) (by decide) (j0o G_filling_or_bar hr rfl j0j (j0d (j0a 1 (pv 1)) (j0d (w1n (j0o G_filling hr rfl j0j (j04 (i:=0) (pv 0) (j0d (ew_o (j3w rfl B.list (er_w (j0a 2 (pv 2))))) j0b)))) (j0d (w1n (j0o G_bar hr rfl j0j (j04 (i:=0) (pv 0) (j0d (ew_o (j3w rfl B.list (er_w (j0a 2 (pv 2))))) j0b)))) (j0d (j0a 2 (pv 2)) j0b))))))))
   (w3n (D':=(Bd C false)×(List (Option (Int×(List Int))))×(List Int)×Un×Un×Bool×Un×Unit) j00))
   (j0e (j0t (j0z (j0a 5 (pv 5)))))))))) fun p Kn Ke h=>?_
 walk_at "wl"
 obtain ⟨x,rows,row,u⟩:=p;obtain ⟨c,v,hl,hr,hs,hk⟩:=h;dsimp only at c v hl hr hs hk ⊢;refine j38 c v hl hr hs (fun t ht=>?_) fun l h=>?_
 ·refine j8f c v hl hr hs (fun t ht=>?_) fun l h=>(h.no ht).elim;refine k8o v hr (.bar ht) ?_;dsimp only;rw [if_pos rfl];refine ⟨⟨(FB.bar ht).len1 hl,(FB.bar ht).len2 hl⟩,?_⟩;refine j38 c v hl hr hs (fun t ht=>?_) fun l h=>(h.no ht).elim;refine j8f c v hl hr hs (fun t ht=>?_) fun l h=>(h.no ht).elim;exact k8o v hr (.bar ht) hk
 ·refine j8f c v hl hr hs (fun t ht=>(h.no ht).elim) fun _ _=>?_;refine k8o v hr (.fil h) ?_;dsimp only;rw [if_pos rfl];refine ⟨⟨(FB.fil h).len1 hl,(FB.fil h).len2 hl⟩,?_⟩;refine j38 c v hl hr hs (fun t ht=>(h.no ht).elim) fun l h=>?_;refine j8f c v hl hr hs (fun t ht=>(h.no ht).elim) fun _ _=>?_;exact k8o v hr (.fil h) hk
end
abbrev w34:Stmt:=top 37
theorem w9d {K:PySem.W.Frag} {p:Scr K×Unit} {Kn:Bg->WL.Un×Unit->Prop} {Ke:Addr->WL.Un×Unit->Prop} (k:Kn ⟨⟩ (⟨⟩,())):w3f K p Kn Ke:=k
theorem w4g {g:Bg} {n:Int} {Kn:OL RW->Bg×WL.Un×Unit->Prop} {Ke:Addr->Bg×WL.Un×Unit->Prop} (h0:0<=n) (h1:n<=20) (k:∀ rows,Vr rows->rows.length<=35->Kn ⟨rows⟩ (⟨⟩,⟨⟩,())):k5f (g,n,()) Kn Ke:=⟨⟨h0,h1⟩,k⟩
structure J {C:Addr} (x:B0 C) (rows:List RW) (row:List Int):Prop where
 v:Vr rows
 c:Cor x rows
 ln:rows.length<=36
 ri:Ris row
 su:∀ d∈row,d∈hrs rows
section
variable {C:Addr} {x:B0 C} {rows:List RW} {row:List Int}
theorem J.st (j:J x rows row) {d:Int} (h:d∈row):(j0s rows d).isSome=true:=hrs_mem.mp (j.su d h)
theorem J.len (j:J x rows row):row.length<=36:=Nat.le_trans (Nat.le_trans (j1h j.ri j.su) (j2r rows)) j.ln
theorem k81 {Kn:OL Int->WL.Un×WL.Un×Unit->Prop} {Ke:Addr->WL.Un×WL.Un×Unit->Prop} (v:Vr rows) (h:∀ d∈row,(j0s rows d).isSome=true) (k:Kn ⟨bsum (eb rows) row⟩ (⟨⟩,⟨⟩,())):k5k (rows,row,()) Kn Ke:=⟨v,h,k⟩
theorem j7c {Kn:OL Int->WL.Un×Unit->Prop} {Ke:Addr->WL.Un×Unit->Prop} (h:rows.length<=95) (k:Kn ⟨hrs rows⟩ (⟨⟩,())):k5j (rows,()) Kn Ke:=⟨(show rows.length < 1000 by omega),k⟩
theorem w3q {g:Bg} {Kn:OL Int->Bg×WL.Un×Unit->Prop} {Ke:Addr->Bg×WL.Un×Unit->Prop} (h:row.length < 60) (k:∀ l,Ris l->(∀ x∈l,x∈row)->Kn ⟨l⟩ (⟨⟩,⟨⟩,())):k5d (g,row,()) Kn Ke:=⟨h,k⟩
theorem w5s {Kn:Bool->B0 C×WL.Un×Unit->Prop} {Ke:Addr->B0 C×WL.Un×Unit->Prop} (c:Cor x rows) (v:Vr rows) (k:Kn true (x,⟨⟩,())):j3m C (x,rows,()) Kn Ke:=⟨c,v,k⟩
theorem k38 {Kn:Bool->B0 C×WL.Un×WL.Un×Unit->Prop} {Ke:Addr->B0 C×WL.Un×WL.Un×Unit->Prop} (j:J x rows row) (k:Kn true (x,⟨⟩,⟨⟩,())):k1l C (x,rows,row,()) Kn Ke:=⟨j.c,j.v,(show rows.length<=60 by have:=j.ln;omega),j.ri,j.su,k⟩
theorem w0e {Kn:Bool->B0 C×WL.Un×Unit->Prop} {Ke:Addr->B0 C×WL.Un×Unit->Prop} (j:J x rows row) (k:Kn (decide (bsum (eb rows) row=[])) (x,⟨⟩,())):j5c C (x,row,()) Kn Ke:=by refine ⟨j.c.okb j.v,(j3e row).mpr j.ri,j.c.allIn fun d hd=>j.st hd,?_⟩;show Kn (decide (bsum (K7.bdr x) row=[])) _;rw [j.c.bdf];exact k
theorem w6i {Kn:Oo Int->B0 C×WL.Un×Unit->Oo Int->B0 C×WL.Un×Unit->Prop} {Ke Ke2:Addr->B0 C×WL.Un×Unit->Prop} (j:J x rows row)
  (k:∀ f o:Oo Int,FB rows row f.o o.o->Kn f (x,⟨⟩,()) o (x,⟨⟩,())):j4s C (x,row,()) (fun f p=>k9z C (p.1,row,()) (fun o p'=>Kn f p o p') Ke2) Ke:=by
 have hl:rows.length<=60:=by have:=j.ln;omega
 refine j38 j.c j.v hl j.ri j.su (fun t ht=>?_) fun l h=>?_
 ·exact j8f j.c j.v hl j.ri j.su (fun t ht=>k _ _ (.bar ht)) fun l h=>(h.no ht).elim
 ·exact j8f j.c j.v hl j.ri j.su (fun t ht=>(h.no ht).elim) fun l h'=>k _ _ (.fil h)
theorem FB.has {a b:Option (List Int)} {l:List Int} (h:FB rows row a b) (f:Fil (eb rows) (hrs rows) row l):¬a.isNone=true:=by
 cases h with
 | fil _=>exact fun z=>by cases z
 | bar hb=>exact (f.no hb).elim
theorem w25 {k:Int} (j:J x rows row) (hm:∀ d∈row,rrk rows d=k):∀ d∈row,∃ e',j0s rows d=some (k,e'):=fun d hd=>by obtain ⟨y,hy⟩:=Option.isSome_iff_exists.mp (j.st hd);have:=hm d hd;rw [w2g hy] at this;exact ⟨y.2,by rw [hy,<- this]⟩
theorem eb_su (v:Vr rows) {k c:Int} (h:c∈eb rows k):c∈hrs rows:=by
 cases e:j0s rows k with
 | none=>unfold eb at h;rw [e] at h;cases h
 | some y =>
  rw [j5b e] at h;obtain ⟨e',h'⟩:=((v.ok k y.1 y.2 e).2.2.2.1 c h).2;exact hrs_mem.mpr (by rw [h'];rfl)
theorem w84 (v:Vr rows) (k:Int):Ris (eb rows k):=by
 cases e:j0s rows k with
 | none=>unfold eb;rw [e];exact j6t
 | some y=>rw [j5b e];exact (v.edge e).1
theorem k9i {f:Int->List Int} {U:List Int} (hf:∀ k,(f k).Nodup) (h:∀ k,∀ c∈f k,c∈U):∀ {l a:List Int},(∀ c∈a,c∈U)->∀ c∈(l.map f).foldl xr a,c∈U
 | [],_,ha=>ha
 | k :: l,a,ha=>k9i (l:=l) (a:=xr a (f k)) hf h fun c hc=>(j4r (hf k) hc).elim (ha c) (h k c)
theorem w6h (v:Vr rows) {l:List Int}:∀ c∈bsum (eb rows) l,c∈hrs rows:=k9i (fun k=>j0l (w84 v k)) (fun k c h=>eb_su v h) fun _ z=>by cases z
theorem w6g {f:Int->List Int} {l:List Int}:Ris (bsum f l):=by
 have:∀ {l a:List Int},Ris a->Ris ((l.map f).foldl xr a):=fun {l}=>by
  induction l with
  | nil=>exact fun h=>h
  | cons k l ih=>exact fun h=>ih (j1x h)
 exact this j6t
theorem J.jn (j:J x rows row) {d:Int} (h:d∈hrs rows):J x rows (jn row [d]) :=
 ⟨j.v,j.c,j.ln,k0s j.ri (List.pairwise_singleton _ _),fun k hk=>(jn_mem.mp hk).elim (fun z=>j.su k z.1) fun z=>by rw [List.mem_singleton.mp z.1];exact h⟩
theorem J.put (j:J x rows row) (hl:rows.length<=35) {r:Int} (r0:0<=r) (r1:r<=12) (hc:∀ d∈row,∃ e',j0s rows d=some (r - 1,e')) (hb:bsum (eb rows) row=[]) {x':B0 C} (c:Cor x' (rows++[some (r,row)])):J x' (rows++[some (r,row)]) row :=
 ⟨k1d j.v hl (fun r' e' e=>by cases e;exact ⟨r0,r1,j.ri,hc,hb⟩),c,(by rw [List.length_append,List.length_singleton];omega),j.ri,fun d hd=>by rw [k3v];exact List.mem_append_left _ (j.su d hd)⟩
theorem J.take (j:J x rows row) {g:Int} (h0:0<=g) (ho:∀ h,g∉eb rows h) (hn:g∉row) {x':B0 C} (c:Cor x' (rows.set g.toNat none)):J x' (rows.set g.toNat none) row :=
 ⟨w9h j.v h0 ho,c,(by rw [List.length_set];exact j.ln),j.ri,fun d hd=>by
  rw [k3w h0];refine List.mem_filter.mpr ⟨j.su d hd,?_⟩;have:d≠g:=fun z=>hn (by rw [<- z];exact hd)
  simp [this]⟩
end
section
variable {q:Cq} {C XC XS XO XB XP XV XF0:Addr}
abbrev j8w:Stmt:=top 50
theorem sc_law:FnScope ["_law_script","_law_bag_here","_law_way","_law_rows_here","_law_body","_law_row_here","_law_handed","_law_due","_law_found","_law_other","_law_ranks","_law_free","_law_gone"] ["_law_script"] (j0c j8w):=by walk_at "sc"
theorem w5m:(["_law_k","_law_rows_here"]:List Str).Nodup:=by decide +kernel
theorem w5l:(["_law_k","_law_row_here","_law_rows_here"]:List Str).Nodup:=by decide +kernel
theorem w8a {f:Addr} {fd:FuncData} (F:Dq1 q "law" j8w f fd) (ct:CTx q.K C) {f_init:Addr} {fd_init:FuncData} (M_make:Mk q.K C f_init) (G_init:FnOk q.P q.w q.K q.mg q.base (CX1 q.P q.w) 6 f_init fd_init ["self"] (k3g C)) (B_init:Binds q.K fd_init ["self"] []) (h_Body:q.mg "Body"=some (.ref C)) (G_bag:Fkq q "_law_bag" ["_law_script"] (w3f q.K) 7) (G_pull:Fkq q "_law_pull" ["_law_bag_here","_law_many"] j4e 7) (G_rows:w9k q 7) (G_fill:w9p q C 7) (G_some:w3a q 7) (G_here:j8h q 7) (G_edge:k9w q 7) (G_join:k4a q 7) (G_truth:k9u q 7) (G_is_round:k48 q C 7) (G_filling:k1f q C 7) (G_bar:w9q q C 7) (G_cells_kept:k1h q C 7) (G_filling_or_bar:j3j q 7) (G_asked:w6t q C 7) (G_over:w9o q 7) (G_put:w9n q C XB XS XC XO XP 7) (G_take:w29 q C XC XV 7) (B:Bn q.mg):Gq q 8 f fd ["_law_script"] (w6z q.K):=by
  refine' j0n (fn_w (D':=Unit) (ms:=[]) (j:=12) F sc_law rfl rfl fun cdv A outer s H E hr =>
      (sw_c (j0y 1 sc_law.nd rfl (Or.inl rfl) (by decide) (j0o G_bag hr rfl j0j (j0d (j0a 0 (pv 0)) j0b)))
      (sw_c (j0y 2 sc_law.nd rfl (Or.inl rfl) (by decide) (j0o G_pull hr rfl j0j (j04 (i:=1) (pv 1) (j0d j0f j0b))))
      (sw_c (j0y 3 sc_law.nd rfl (Or.inr rfl) (by decide) (j0o G_rows hr rfl j0j (j04 (i:=1) (pv 1) (j0d j0f j0b))))
      (sw_c (j0y 4 sc_law.nd rfl (Or.inl rfl) (by decide) (j0o G_fill hr rfl j0j (j7o (w1s M_make G_init hr rfl h_Body B_init j0j) (j0p (i:=3) (pv 3) j0b))))
      (sw_c (j0y 5 sc_law.nd rfl (Or.inr rfl) (by decide) (j0o G_some hr rfl j0j (j04 (i:=1) (pv 1) (j0d (ew_o (j0o G_here hr rfl j0j (j0p (i:=3) (pv 3) j0b))) j0b))))
      (j8l (w':=fun (d:(Scr q.K)×Bg×Int×(OL (Option (Int×(List Int))))×(Bd C false)×(OL Int)×Un×Un×Un×Un×Un×Un×Un×Unit) (_:Unit->Prop) (Kr:Bool->Un×Unit->Prop) (_:Addr->Un×Unit->Prop)=>J d.2.2.2.2.1 d.2.2.2.1.l d.2.2.2.2.2.1.l/\d.2.2.2.1.l.length<=35/\0<=d.2.2.1/\Kr true (⟨⟩,())) (sw_c (j7x (j07 (j1w w6e (j0a 2 (pv 2)) j0f (j0u _))
      (j0e (j0y 5 sc_law.nd rfl (Or.inr rfl) (by decide) (j0o G_edge hr rfl j0j (j0p (i:=3) (pv 3) (j0p (i:=5) (pv 5) j0b)))))
      j00))
      (sw_c (j7x (j07 (tw_w (j6h (j1w j5u (j0a 2 (pv 2)) j0f (j0u _)) (j6g (j4g (j7j hr.units) (er_w (ew_o (j0o G_here hr rfl j0j (j0p (i:=3) (pv 3) j0b)))) (er_w (ew_o (j0w (Y:=Int) j0x))) (j0u _)))))
      (j0e (j0y 5 sc_law.nd rfl (Or.inr rfl) (by decide) (j0o G_join hr rfl j0j (j0p (i:=5) (pv 5) (j0d (ew_o (j0w (j0i (j2v (er_w (ew_o (j0o G_here hr rfl j0j (j0p (i:=3) (pv 3) j0b)))) (j0r (j0o G_pull hr rfl j0j (j04 (i:=1) (pv 1) (j0d (j3a rfl B.len (er_w (ew_o (j0o G_here hr rfl j0j (j0p (i:=3) (pv 3) j0b))))) j0b))))) j0x))) j0b)))))
      j00))
      (j8l (w':=fun (d:(Scr q.K)×Bg×Int×(OL (Option (Int×(List Int))))×(Bd C false)×(OL Int)×Un×Un×Un×Un×Un×Un×Un×Unit) (_:Unit->Prop) (Kr:Bool->Un×Unit->Prop) (_:Addr->Un×Unit->Prop)=>J d.2.2.2.2.1 d.2.2.2.1.l d.2.2.2.2.2.1.l/\d.2.2.2.1.l.length<=35/\(d.2.2.1=1->∃ l,Fil (eb d.2.2.2.1.l) (hrs d.2.2.2.1.l) d.2.2.2.2.2.1.l l)/\Kr true (⟨⟩,())) (sw_c (j0y 6 sc_law.nd rfl (Or.inl rfl) (by decide) (j3w rfl B.list (j1v 5 (pv 5))))
      (sw_c (j0y 7 sc_law.nd rfl (Or.inl rfl) (by decide) (j0z (k31 (j7k hr.units) (er_w (ew_o (j0o G_edge hr rfl j0j (j0p (i:=3) (pv 3) (j0p (i:=5) (pv 5) j0b))))) (er_w (ew_o (j0w (Y:=Int) j0x))) (j0u _))))
      (sw_c (j07 (j14 (j1r (j0r (j0o G_truth hr rfl j0j (j0d (j0r (j0o G_is_round hr rfl j0j (j04 (i:=4) (pv 4) (j0p (i:=6) (pv 6) j0b)))) (j0d (j0a 7 (pv 7)) j0b))))))
      (j0e (j0t (j0z j3k)))
      j00)
      (sw_c (j0y 8 sc_law.nd rfl (Or.inl rfl) (by decide) (j0z (w1n (j0o G_filling hr rfl j0j (j04 (i:=4) (pv 4) (j0p (i:=6) (pv 6) j0b))))))
      (sw_c (j0y 9 sc_law.nd rfl (Or.inl rfl) (by decide) (j0z (w1n (j0o G_bar hr rfl j0j (j04 (i:=4) (pv 4) (j0p (i:=6) (pv 6) j0b))))))
      (sw_c (j7x (j07 (tw_w (j8i (j4g (j7j hr.units) (j1v 6 (pv 6)) (j1v 5 (pv 5)) (j0u _)) (j6f (j14 (j1r (j0r (j0o G_cells_kept hr rfl j0j (j04 (i:=4) (pv 4) (j0p (i:=3) (pv 3) j0b)))))))))
      (j0e (j0t (j0z j3k)))
      j00))
      (sw_c (j7x (j07 (tw_w (j8i (j14 (j1r (j0r (j0o G_filling_or_bar hr rfl j0j (j0p (i:=3) (pv 3) (j0d (j0a 8 (pv 8)) (j0d (j0a 9 (pv 9)) (j0p (i:=5) (pv 5) j0b)))))))) (j6f (tw_w (j6h (j1w j5u (j0a 2 (pv 2)) j0f (j0u _)) (j6g (j1w k34 (j0a 8 (pv 8)) j79 (j0u _))))))))
      (j0e (j0t (j0z j3k)))
      j00))
      (j8l (w':=fun (d:(Scr q.K)×Bg×Int×(OL (Option (Int×(List Int))))×(Bd C false)×(OL Int)×(OL Int)×Bool×(Option (List Int))×(Option (List Int))×Un×Un×Un×Unit) (_:Unit->Prop) (Kr:Bool->Un×Unit->Prop) (_:Addr->Un×Unit->Prop)=>J d.2.2.2.2.1 d.2.2.2.1.l d.2.2.2.2.2.1.l/\d.2.2.2.1.l.length<=35/\d.2.2.2.2.2.2.2.1=decide (bsum (eb d.2.2.2.1.l) d.2.2.2.2.2.1.l=[])/\Kr true (⟨⟩,())) (sw_c (j5h (Ts:=["_law_k"]) (Fr:=["_law_rows_here"]) (idx:=[3]) (k:=1) (mb:=[1]) (is:=[5]) (cl:=[("_law_rows_here",s.heap.objs.size + 1)]) 10 sc_law.nd rfl rfl rfl (by decide) rfl (k3u 5 (pv 5) (by decide)) ⟨rfl,rfl,by decide +kernel,by decide +kernel,(fun x c h=>by
        rcases lkc h with ⟨rfl,rfl⟩ | h
        · rfl
        cases h),(fc (fun z=>by cases z) (fc (fun z=>by cases z) (fc (fun _=>⟨_,rfl⟩) fnil))),
        (fun j x h=>by
        match j,h with
        | 0,h=>cases h;exact ⟨3,_,rfl,rfl,.inl rfl,rfl,.inl rfl⟩
        | n + 1,h=>cases h),rfl⟩ rfl (j2s rfl) (fun s₀ H₀ C ex pn=>(j03 0 (j0q (i:=0) w5m rfl (Or.inl rfl)) (by decide))) (fun s₀ H₀ C ex pn=>j6m) (fun s₀ H₀ C ex pn=>(j8a (j3u (j2v (j1v 1 (pv 1)) (j0a 0 (pv 0)))))))
      (sw_c (j7x (j07 (tw_w (j6h (j1r (j0a 7 (pv 7))) (j6h (j4g (j7j hr.units) (j1v 5 (pv 5)) (er_w (ew_o (j0w (Y:=Int) j0x))) (j0u _)) (j6h (j1w j5u (k2r (k9f rfl) rfl B.min PyProof.Rows.boot_min (j1v 10 (pv 10))) (k2r (k06 rfl) rfl B.max PyProof.Rows.boot_max (j1v 10 (pv 10))) (j0u _)) (j6g (j1w w1y (k2r (k06 rfl) rfl B.max PyProof.Rows.boot_max (j1v 10 (pv 10))) j0f (j0u _)))))))
      (sw_c (j1e (j0r (j2w 4 G_put hr ct.cl j0j (pv 4) (j0d (j3v j4z (j2v (j1v 10 (pv 10)) j0f) j0f) (j0d (ew_o (j3w rfl B.list (j1v 5 (pv 5)))) j0b)))))
      (sw_c (j2n 3 (pv 3) (j5p (j1u (j3v j4z (j2v (j1v 10 (pv 10)) j0f) j0f) (ew_o (j3w rfl B.list (j1v 5 (pv 5)))))) (fun h=>j2p (k0j PySem.F.plainAttrs_list PySem.F.slot_list_append PySem.F.type_list_append j16 (pv 3) h)))
      (j0e (j07 (j14 (j1r (j0r (j0o G_asked hr rfl j0j (j04 (i:=4) (pv 4) (j0p (i:=3) (pv 3) (j0p (i:=5) (pv 5) j0b)))))))
      (j0e (j0t (j0z j3k)))
      j00))))
      j00))
      (j8l (w':=fun (d:(Scr q.K)×Bg×Int×(OL (Option (Int×(List Int))))×(Bd C false)×(OL Int)×(OL Int)×Bool×(Option (List Int))×(Option (List Int))×(OL Int)×Un×Un×Unit) (_:Unit->Prop) (Kr:Bool->Un×Unit->Prop) (_:Addr->Un×Unit->Prop)=>J d.2.2.2.2.1 d.2.2.2.1.l d.2.2.2.2.2.1.l/\Kr true (⟨⟩,())) (sw_c (j5h (Ts:=["_law_k"]) (Fr:=["_law_row_here","_law_rows_here"]) (idx:=[5,3]) (k:=1) (mb:=[1,2]) (is:=[]) (cl:=[("_law_rows_here",s.heap.objs.size + 1),("_law_row_here",s.heap.objs.size + 1 + 1)]) 11 sc_law.nd rfl rfl rfl (by decide) rfl (j17 (ew_o (j0o G_here hr rfl j0j (j0p (i:=3) (pv 3) j0b)))) ⟨rfl,rfl,by decide +kernel,by decide +kernel,(fun x c h=>by
        rcases lkc h with ⟨rfl,rfl⟩ | h
        · rfl
        rcases lkc h with ⟨rfl,rfl⟩ | h
        · rfl
        cases h),(fc (fun z=>by cases z) (fc (fun z=>by cases z) (fc (fun z=>by cases z) (fc (fun _=>⟨_,rfl⟩) (fc (fun _=>⟨_,rfl⟩) fnil))))),
        (fun j x h=>by
        match j,h with
        | 0,h=>cases h;exact ⟨5,_,rfl,rfl,.inl rfl,rfl,.inl rfl⟩
        | 1,h=>cases h;exact ⟨3,_,rfl,rfl,.inl rfl,rfl,.inl rfl⟩
        | n + 2,h=>cases h),rfl⟩ rfl (j2s rfl) (fun s₀ H₀ C ex pn=>(j03 0 (j0q (i:=0) w5l rfl (Or.inl rfl)) (by decide))) (fun s₀ H₀ C ex pn=>(j21 (tw_w (j6h (j4g (j7k hr.units) (er_w (ew_o (j0o G_over hr rfl passF (j0p (i:=2) (pv 2) (j0d (j0a 0 (pv 0)) j0b))))) (er_w (ew_o (j0w (Y:=Int) j0x))) (j0u _)) (j6g (j93 j9v (j0a 0 (pv 0)) (j1v 1 (pv 1)) (by with_unfolding_all rfl))))))) (fun s₀ H₀ C ex pn=>(j0a 0 (pv 0))))
      (sw_c (j7x (j07 (j4g (j7j hr.units) (j1v 11 (pv 11)) (er_w (ew_o (j0w (Y:=Int) j0x))) (j0u _))
      (w3n (D':=(Scr q.K)×Bg×Int×(OL (Option (Int×(List Int))))×(Bd C false)×(OL Int)×(OL Int)×Bool×(Option (List Int))×(Option (List Int))×(OL Int)×(OL Int)×Un×Unit) (sw_c (j0y 12 sc_law.nd rfl (Or.inl rfl) (by decide) (j0z (j2v (j1v 11 (pv 11)) (j0r (j0o G_pull hr rfl j0j (j04 (i:=1) (pv 1) (j0d (j3a rfl B.len (j1v 11 (pv 11))) j0b)))))))
      (sw_c (j1e (j0r (j2w 4 G_take hr ct.cl j0j (pv 4) (j0d (j0a 12 (pv 12)) j0b))))
      (j0e (w39 3 (pv 3) k8s (j0a 12 (pv 12)) (fun h1 h2=>k0f h1 (k61 (pv 3) h2 j6b)))))))
      j00))
      (j0e (j0t (j0o G_asked hr rfl j0j (j04 (i:=4) (pv 4) (j0p (i:=3) (pv 3) (j0p (i:=5) (pv 5) j0b)))))))) (by
   intro d Kn Kr Ke h
   walk_at "wl"
   obtain ⟨jj5,h⟩:=h
   obtain ⟨s1,s2,s3,⟨rs⟩,xs,⟨rw5⟩,s7,s8,s9,s10,s11⟩:=d
   dsimp only at jj5 h ⊢
   have jn:=jj5.ln
   have hl:=j2r rs
   refine j7c jj5.v.ln ?_
   refine ⟨j08 (show (hrs rs).length<=1000 by omega),j1j (q:=fun k=>decide (ovl rs k=[])&&!decide (k∈rw5)) (fun k hk K hK=>?_) ?_⟩
   · refine ⟨(show rs.length < 1000 by omega), ?_⟩
     dsimp only
     by_cases q:ovl rs k=[]
     · rw [if_pos (decide_eq_true q)]
       rw [decide_eq_true q,Bool.true_and] at hK
       exact hK
     · rw [if_neg (by simpa using q)]
       rw [decide_eq_false q,Bool.false_and] at hK
       exact hK
   dsimp only
   have fm:∀ k,k∈(hrs rs).filter (fun k=>decide (ovl rs k=[])&&!decide (k∈rw5))->k∈hrs rs/\ovl rs k=[]/\k∉rw5:=fun k hk=>by
     have:=List.mem_filter.mp hk
     simpa using this
   refine ⟨fun d=>J d.2.2.2.2.1 d.2.2.2.1.l d.2.2.2.2.2.1.l,?_,?_⟩
   · by_cases q : (hrs rs).filter (fun k => decide (ovl rs k = []) && !decide (k ∈ rw5)) = []
     · rw [if_neg (by rw [decide_eq_true q]; decide)]
       exact jj5
     · rw [if_pos (by rw [decide_eq_false q]; rfl)]
       have np:=List.length_pos_iff.mpr q
       have fl:=List.length_filter_le (fun k=>decide (ovl rs k=[])&&!decide (k∈rw5)) (hrs rs)
       refine j2h (by omega) (by omega) fun r h0 h1=>?_
       have am:=j3y (l:=(hrs rs).filter (fun k=>decide (ovl rs k=[])&&!decide (k∈rw5))) h0 h1
       have a2:=fm _ am.choose_spec.2.2
       have ho:=(k7g jj5.c).mp (by rw [jj5.c.ovl];exact a2.2.1)
       have g3:=j9j (List.mem_filter.mp a2.1).1
       refine ⟨am.choose,am.choose_spec.1,k5s jj5.c jj5.v (hrs_mem.mp a2.1) ho fun x' c'=>⟨am.choose.toNat,w8m g3.1 (by omega),?_⟩⟩
       exact jj5.take g3.1 ho a2.2.2 c'
   rintro ⟨s1,s2,s3,⟨rs⟩,xs,⟨rw5⟩,s7⟩ jj6
   exact k38 jj6 h
)))) (by
   intro d Kn Kr Ke h
   walk_at "wl"
   obtain ⟨jj4,l0,e4,h⟩:=h
   obtain ⟨t1,t2,t3,⟨rt⟩,xt,⟨rw4⟩,t7,t8,t9,t10,t11⟩:=d
   dsimp only at jj4 l0 e4 h ⊢
   rw [e4]
   have v:=jj4.v
   have jl:=jj4.len
   refine ⟨j08 (show rw4.length<=1000 by omega),j1d (f:=fun k=>some (rrk rt k)) (fun k hk K hK=>?_) ?_⟩
   · obtain ⟨y, hy⟩ := Option.isSome_iff_exists.mp (jj4.st hk)
     rw [w2g hy] at hK
     exact ⟨_,(j0v hy).2.2.2,y,rfl,hK⟩
   have em:∀ c,c∈rw4.filterMap (fun k=>some (rrk rt k))↔∃ d∈rw4,rrk rt d=c:=fun c=>by simp
   refine ⟨fun d=>J d.2.2.2.2.1 d.2.2.2.1.l d.2.2.2.2.2.1.l,?_,?_⟩
   · by_cases q1 : bsum (eb rt) rw4 = []
     · rw [if_pos (decide_eq_true q1)]
       by_cases q2:rw4=[]
       · rw [if_neg (by simpa using q2), if_neg (by decide)]
         exact jj4
       · rw [if_pos (by simpa using q2)]
         have ne:rw4.filterMap (fun k=>some (rrk rt k))≠[]:=by simpa using q2
         refine ⟨ne,fun m m1 m2=>⟨ne,fun n n1 n2=>?_⟩⟩
         by_cases q3:m=n
         · rw [if_pos (decide_eq_true q3)]
           refine ⟨ne,fun t t1 t2=>?_⟩
           by_cases q4:t < 12
           · rw [if_pos (decide_eq_true q4)]
             have same:∀ c∈rw4.filterMap (fun k=>some (rrk rt k)),c=m:=fun c hc=>by
               have a1:=m2 c hc
               have a2:=n2 c hc
               omega
             have hm:∀ d∈rw4,rrk rt d=m:=fun d hd=>same _ ((em _).mpr ⟨d,hd,rfl⟩)
             have np:=List.length_pos_iff.mpr ne
             have am:=j3y (l:=rw4.filterMap (fun k=>some (rrk rt k))) (i:=0) (by omega) (by omega)
             have hy:=same _ am.choose_spec.2.2
             have ht:=same _ t1
             have a1:=am.choose_spec.1
             rw [hy] at a1
             obtain ⟨d,d1,d2⟩:=(em m).mp m1
             obtain ⟨e',he'⟩:=w25 jj4 hm d d1
             have r0:=(v.ok _ _ _ he').1
             have hc:∀ d∈rw4,∃ e',j0s rt d=some (m + 1 - 1,e'):=by
               rw [show m + 1 - 1=m by omega]
               exact w25 jj4 hm
             refine ⟨m,a1,k6q jj4.c v (by omega) (by omega) jj4.ri hc q1 fun x' c'=>⟨m,a1,j3t (show rt.length < 1000 by omega),?_⟩⟩
             have j':=jj4.put l0 (show 0<=m + 1 by omega) (by omega) hc q1 c'
             refine k38 j' ?_
             dsimp only
             rw [if_neg (by decide)]
             exact j'
           · rw [if_neg (by simpa using q4)]
             exact jj4
         · rw [if_neg (by simpa using q3), if_neg (by decide)]
           exact jj4
     · rw [if_neg (by simpa using q1), if_neg (by decide)]
       exact jj4
   exact fun d j=>⟨j,h⟩
))))))))) (by
   intro d Kn Kr Ke h
   walk_at "wl"
   obtain ⟨jj2,l0,f1,h⟩:=h
   obtain ⟨u1,u2,u3,⟨ru⟩,xu,⟨rw2⟩,u7⟩:=d
   dsimp only at jj2 l0 f1 h ⊢
   have v:=jj2.v
   refine k81 v (fun d hd=>jj2.st hd) (w0e jj2 (k3d rfl ?_))
   dsimp only
   rw [if_neg (by decide)]
   refine w6i jj2 ?_
   intro f o hf
   dsimp only
   refine ⟨fun d=>d.2.2.1=u3/\d.2.2.2.1.l=ru/\J d.2.2.2.2.1 ru d.2.2.2.2.2.1.l/\d.2.2.2.2.2.1.l=rw2/\d.2.2.2.2.2.2.2.1=decide (bsum (eb ru) rw2=[])/\d.2.2.2.2.2.2.2.2.1=f.o/\d.2.2.2.2.2.2.2.2.2.1=o.o,?_,?_⟩
   · rw [if_neg (by simp)]
     refine w5s jj2.c v ?_
     dsimp only
     rw [if_neg (by decide)]
     exact ⟨rfl,rfl,jj2,rfl,rfl,rfl,rfl⟩
   rintro ⟨v1,v2,v3,⟨rv⟩,xv,⟨rw3⟩,v7,v8,v9,v10,v11⟩ ⟨e1,e2,jj3,e3,e4,e5,e6⟩
   dsimp only at e1 e2 jj3 e3 e4 e5 e6 ⊢
   subst e1 e2 e3 e4 e5 e6
   refine ⟨fun d=>d.2.2.2.1.l=rv/\J d.2.2.2.2.1 rv d.2.2.2.2.2.1.l/\d.2.2.2.2.2.1.l=rw3/\d.2.2.2.2.2.2.2.1=decide (bsum (eb rv) rw3=[]),?_,?_⟩
   · refine k8o v jj3.ri hf ?_
     dsimp only
     rw [if_neg (by decide)]
     by_cases q:v3=1
     · rw [if_pos (decide_eq_true q), if_neg (fun z => (f1 q).elim fun l hl => hf.has hl z)]
       exact ⟨rfl,jj3,rfl,rfl⟩
     · rw [if_neg (by simpa using q), if_neg (by decide)]
       exact ⟨rfl,jj3,rfl,rfl⟩
   rintro d ⟨e2,jj4,e3,e4⟩
   exact ⟨by rw [e2];exact jj4,by rw [e2];exact l0,by rw [e2,e3];exact e4,h⟩
)))) (by
   intro d Kn Kr Ke h
   walk_at "wl"
   obtain ⟨j0,l0,w0,h⟩:=h
   obtain ⟨d1,d2,way,⟨rows⟩,x,⟨l⟩,d7⟩:=d
   dsimp only at j0 l0 w0 h ⊢
   have v:=j0.v
   have c:=j0.c
   have lr:=j0.ri
   have ls:=j0.su
   have hl0:=j2r rows
   have j1:J x rows (bsum (eb rows) l):=⟨v,c,by omega,w6g,w6h v⟩
   refine ⟨fun d=>d.2.2.1=way/\d.2.2.2.1.l=rows/\J d.2.2.2.2.1 rows d.2.2.2.2.2.1.l/\(way=1->Fil (eb rows) (hrs rows) d.2.2.2.2.2.1.l l),?_,?_⟩
   · by_cases q : 0 < way
     · rw [if_pos (decide_eq_true q)]
       exact k81 v (fun d hd=>hrs_mem.mp (ls d hd)) ⟨rfl,rfl,j1,fun _=>⟨lr,ls,rfl⟩⟩
     · rw [if_neg (by simpa using q)]
       exact ⟨rfl,rfl,j0,fun z=>absurd z (by omega)⟩
   rintro ⟨d1,d2,d3,⟨rs⟩,xb,⟨rw'⟩,d7⟩ ⟨e1,e2,jj1,f1⟩
   dsimp only at e1 e2 jj1 f1 ⊢
   subst e1 e2
   refine ⟨fun d=>d.2.2.1=d3/\d.2.2.2.1.l=rs/\J d.2.2.2.2.1 rs d.2.2.2.2.2.1.l/\(d3=1->Fil (eb rs) (hrs rs) d.2.2.2.2.2.1.l l),?_,?_⟩
   · by_cases q : d3 = 3
     · rw [if_pos (decide_eq_true q)]
       refine j7c v.ln ?_
       dsimp only
       by_cases q2:hrs rs=[]
       · rw [if_neg (by simpa using q2)]
         exact ⟨rfl,rfl,jj1,f1⟩
       · rw [if_pos (by simpa using q2)]
         have hp:=List.length_pos_iff.mpr q2
         refine j7c v.ln (j7c v.ln (j2h (show (0:Int) < ((hrs rs).length:Int) by omega) (show ((hrs rs).length:Int) < 1073741824 by omega) fun r h0 h1=>?_))
         obtain ⟨y,a1,_,a3⟩:=j3y (l:=hrs rs) h0 h1
         have jl:=jj1.len
         exact ⟨y,a1,k8b (show rw'.length + 1 < 64 by omega),rfl,rfl,jj1.jn a3,fun z=>absurd z (by omega)⟩
     · rw [if_neg (by simpa using q), if_neg (by decide)]
       exact ⟨rfl,rfl,jj1,f1⟩
   rintro d ⟨e1,e2,jj2,f1⟩
   exact ⟨by rw [e2];exact jj2,by rw [e2];exact l0,fun z=>⟨l,by rw [e2];exact f1 (e1.symm.trans z)⟩,h⟩
)))))))) fun p Kn Ke h=>?_
  walk_at "wl"
  have h:Kn true (⟨⟩,()):=h
  refine w9d ?_
  refine j2h (by decide) (by decide) fun way w0 w1=>?_
  refine w4g (by decide) (by decide) fun rows v l0=>?_
  dsimp only
  refine ⟨rfl,v,fun x c=>?_⟩
  dsimp only
  refine j7c v.ln ?_
  dsimp only
  have hl0:=j2r rows
  refine w3q (show (hrs rows).length < 60 by omega) fun l lr ls=>?_
  dsimp only
  exact ⟨⟨v,c,by omega,lr,ls⟩,l0,w0,h⟩
end
section
variable {P:Program} {w:World} {K:PySem.W.Frag} {mg:Str->Option Value} {base:Heap}
theorem scPull:FnScope ["_law_bag_here","_law_many","_law_seed","_law_mixed","_law_drawn"] ["_law_bag_here","_law_many"] (j0c k6d):=⟨rfl,rfl,rfl,by decide +kernel,rfl,by decide +kernel,by decide +kernel⟩
theorem w5d {f:Addr} {fd:FuncData} (F:Fun K "_law_pull" "_law_pull" k6d f fd) (hlen:mg "len"=none):FnOk P w K mg base CX0 1 f fd ["_law_bag_here","_law_many"] WL.w2c:=by
 refine F.ok scPull (fun vs H Q E h=>?_) (fun cdv A outer s H vs Q E hr h=>?_)
 ·obtain ⟨g,q,ns,i,z,s,many,rfl,_⟩:=h;rfl
 ·obtain ⟨g,q,ns,i,z,s',many,rfl,B,m0,m1,k⟩:=h;have nd:=scPull.nd
  refine ⟨_,j1i (k6s (j23 w70 (j4c j1t (pv 0) j01 (fun _ _=>rfl)) j01 (j0u _))
    (j1i (w4o (pv 0) j01 w1k j01 w8p j6b)
    (j1i (j50 (i:=2) nd rfl (Or.inl rfl) (j4c j1t (pv 0) j01 (fun _ _=>rfl)))
    (j1i (k6s (j23 w70 (j4c j1t (pv 0) j01 (fun _ _=>rfl)) (j1l j2z (by rfl) hlen PySem.boot_len (j0k (j4c j1t (pv 0) j01 (fun _ _=>rfl)) j02)) (j0u _))
     (j24 (j50 (i:=2) nd rfl (Or.inl rfl) (j4c j1t (j4c j1t (pv 0) j01 (fun _ _=>rfl)) (j2i k3p (j4c j1t (pv 0) j01 (fun _ _=>rfl)) j01) (fun _ _=>rfl)))) j6v)
    (j1i (k6s (w7n (j23 w73 (j4c j1t (pv 0) j01 (fun _ _=>rfl)) (j1l j2z (by rfl) hlen PySem.boot_len (j0k (j4c j1t (pv 0) j01 (fun _ _=>rfl)) j02)) (j0u _)) (w2h (j23 w7z (pv 2) (j2i w7x j01 j01) (j0u _)))).pt
     (j1i (j50 (i:=3) nd rfl (Or.inl rfl) (j2i j52 (j2i j4z (j2i j4z (j2i j73 (pv 2) j01) (j2i j73 (j4c j1t (pv 0) j01 (fun _ _=>rfl)) j01)) j01) j01))
     (j1i (j50 (i:=3) nd rfl (Or.inl rfl) (j2i j52 (j2i j73 (pv 3) (pv 3)) j01))
     (j24 (j6w (j2i j52 (j2i k7k (j2i j52 (j2i j73 (j2i j4z (pv 3) (j4c j1t (pv 0) j01 (fun _ _=>rfl))) j01) j01) j01) (pv 1)))))) j6v)
    (j24 (k0f (pv 2) (k61 (pv 0) j01 j6b))))))) j6v)
   (j1i (j50 (i:=4) nd rfl (Or.inl rfl) (j2i j52 (j4c j1t (pv 0) j01 (fun _ _=>rfl)) (pv 1)))
   (j1i (k0f (j2i k7k (j4c j1t (pv 0) j01 (fun _ _=>rfl)) (pv 1)) (k61 (pv 0) j01 j6b))
   (j24 (j6w (pv 4))))),?_⟩
  refine ⟨_,rfl,g,_,_,_,rfl,rfl,SqL.of B.ob,bat2 _ _ _ _,_,_,rfl,rfl,_,rfl,?_⟩;refine ite2 (fun _=>?_) (fun _=>?_)
  ·-- bag[1] += 1;seed=bag[3]
   refine ⟨_,rfl,g,_,_,_,rfl,rfl,B.ob,by decide,rfl,_,_,rfl,rfl,g,_,_,1,rfl,rfl,B.ob,rfl,?_⟩;have B1:BagAt (upd H g (.lst (bagL q (i + 1) z s'))) g q ns (i + 1) z s':=B.put (by have:=B.i0;omega);refine ⟨_,rfl,g,_,_,_,rfl,rfl,SqL.of B1.ob,bat3 _ _ _ _,?_⟩;refine ⟨_,rfl,g,_,_,_,rfl,rfl,SqL.of B1.ob,bat1 _ _ _ _,_,rfl,g,_,_,_,rfl,rfl,SqL.of B1.ob,bat0 _ _ _ _,q,_,rfl,.inl (SqL.of B1.sc),_,_,rfl,rfl,_,rfl,?_⟩;have B2:=B1;refine ite2 (fun hc=>?_) (fun hc=>?_)
   ·have hc':i + 1<=((ns.map V.int).length:Int):=of_decide_eq_true hc;rw [List.length_map] at hc';obtain ⟨n,hn⟩:=w6k (ns:=ns) (i:=i + 1 - 1) (by have:=B.i0;omega) (by omega);refine ⟨_,rfl,g,_,_,_,rfl,rfl,SqL.of B1.ob,bat0 _ _ _ _,_,rfl,g,_,_,_,rfl,rfl,SqL.of B1.ob,bat1 _ _ _ _,_,_,rfl,rfl,q,_,_,_,rfl,rfl,SqL.of B1.sc,hn,?_⟩
    -- (the or,with this seed)
    refine ⟨_,rfl,g,_,_,_,rfl,rfl,SqL.of B1.ob,bat1 _ _ _ _,_,rfl,g,_,_,_,rfl,rfl,SqL.of B1.ob,bat0 _ _ _ _,q,_,rfl,.inl (SqL.of B1.sc),_,_,rfl,rfl,_,rfl,?_⟩;refine ite2 (fun _=>iteT ?_) (fun _=>?_)
    ·refine ⟨_,rfl,_,_,rfl,rfl,.inr ⟨by decide,by decide⟩,_,rfl,g,_,_,_,rfl,rfl,SqL.of B1.ob,bat1 _ _ _ _,_,_,rfl,rfl,.inr ⟨by decide,by decide⟩,_,_,rfl,rfl,_,_,rfl,rfl,_,_,rfl,rfl,(by show (0:Int) < 2147483647;decide),?_⟩;refine ⟨_,rfl,_,rfl,_,_,rfl,rfl,.inl (w1a _),_,_,rfl,rfl,(by show (0:Int) < 2147483629;decide),?_⟩;refine ⟨_,rfl,_,rfl,g,_,_,_,rfl,rfl,SqL.of B1.ob,bat1 _ _ _ _,_,_,rfl,rfl,_,_,rfl,rfl,.inr ⟨by decide,by decide⟩,_,_,rfl,rfl,(by show (0:Int) < 998244353;decide),_,_,rfl,rfl,⟨by decide,by decide⟩,_,rfl,_,_,rfl,rfl,m0,?_⟩;exact k _ _ _ _ Kp.at B1 (Int.emod_nonneg _ (by omega)) (Int.emod_lt_of_pos _ m0)
    ·refine ⟨_,rfl,_,_,rfl,rfl,⟨by decide,by decide,by decide⟩,_,_,rfl,rfl,_,rfl,?_⟩;refine ite2 (fun _=>?_) (fun _=>?_)
     ·refine ⟨_,rfl,_,_,rfl,rfl,.inr ⟨by decide,by decide⟩,_,rfl,g,_,_,_,rfl,rfl,SqL.of B1.ob,bat1 _ _ _ _,_,_,rfl,rfl,.inr ⟨by decide,by decide⟩,_,_,rfl,rfl,_,_,rfl,rfl,_,_,rfl,rfl,(by show (0:Int) < 2147483647;decide),?_⟩;refine ⟨_,rfl,_,rfl,_,_,rfl,rfl,.inl (w1a _),_,_,rfl,rfl,(by show (0:Int) < 2147483629;decide),?_⟩;refine ⟨_,rfl,_,rfl,g,_,_,_,rfl,rfl,SqL.of B1.ob,bat1 _ _ _ _,_,_,rfl,rfl,_,_,rfl,rfl,.inr ⟨by decide,by decide⟩,_,_,rfl,rfl,(by show (0:Int) < 998244353;decide),_,_,rfl,rfl,⟨by decide,by decide⟩,_,rfl,_,_,rfl,rfl,m0,?_⟩;exact k _ _ _ _ Kp.at B1 (Int.emod_nonneg _ (by omega)) (Int.emod_lt_of_pos _ m0)
     ·refine ⟨_,rfl,_,rfl,g,_,_,2,rfl,rfl,B1.ob,rfl,?_⟩;have B2:=B1.put (z':=n) B1.i0;have k2:=(Kp.at (g:=g) (H:=H) (o:=.lst (bagL q (i + 1) z s'))).trans (Kp.at (o:=.lst (bagL q (i + 1) n s')));refine ⟨_,rfl,g,_,_,_,rfl,rfl,SqL.of B2.ob,bat2 _ _ _ _,_,rfl,_,_,rfl,rfl,m0,?_⟩;refine ⟨_,rfl,g,_,_,_,rfl,rfl,SqL.of B2.ob,bat2 _ _ _ _,_,rfl,_,_,rfl,rfl,⟨m0,m1⟩,_,rfl,g,_,_,2,rfl,rfl,B2.ob,rfl,?_⟩;exact ⟨_,rfl,k _ _ _ _ (k2.trans Kp.at) (B2.put B2.i0) (Int.emod_nonneg _ (by omega)) (Int.emod_lt_of_pos _ m0)⟩
   ·-- (the or,with the salt)
    refine ⟨_,rfl,g,_,_,_,rfl,rfl,SqL.of B1.ob,bat1 _ _ _ _,_,rfl,g,_,_,_,rfl,rfl,SqL.of B1.ob,bat0 _ _ _ _,q,_,rfl,.inl (SqL.of B1.sc),_,_,rfl,rfl,_,rfl,?_⟩;refine ite2 (fun _=>iteT ?_) (fun _=>?_)
    ·refine ⟨_,rfl,_,_,rfl,rfl,.inr ⟨by decide,by decide⟩,_,rfl,g,_,_,_,rfl,rfl,SqL.of B1.ob,bat1 _ _ _ _,_,_,rfl,rfl,.inr ⟨by decide,by decide⟩,_,_,rfl,rfl,_,_,rfl,rfl,_,_,rfl,rfl,(by show (0:Int) < 2147483647;decide),?_⟩;refine ⟨_,rfl,_,rfl,_,_,rfl,rfl,.inl (w1a _),_,_,rfl,rfl,(by show (0:Int) < 2147483629;decide),?_⟩;refine ⟨_,rfl,_,rfl,g,_,_,_,rfl,rfl,SqL.of B1.ob,bat1 _ _ _ _,_,_,rfl,rfl,_,_,rfl,rfl,.inr ⟨by decide,by decide⟩,_,_,rfl,rfl,(by show (0:Int) < 998244353;decide),_,_,rfl,rfl,⟨by decide,by decide⟩,_,rfl,_,_,rfl,rfl,m0,?_⟩;exact k _ _ _ _ Kp.at B1 (Int.emod_nonneg _ (by omega)) (Int.emod_lt_of_pos _ m0)
    ·refine ⟨_,rfl,_,_,rfl,rfl,⟨by decide,by decide,by decide⟩,_,_,rfl,rfl,_,rfl,?_⟩;refine ite2 (fun _=>?_) (fun _=>?_)
     ·refine ⟨_,rfl,_,_,rfl,rfl,.inr ⟨by decide,by decide⟩,_,rfl,g,_,_,_,rfl,rfl,SqL.of B1.ob,bat1 _ _ _ _,_,_,rfl,rfl,.inr ⟨by decide,by decide⟩,_,_,rfl,rfl,_,_,rfl,rfl,_,_,rfl,rfl,(by show (0:Int) < 2147483647;decide),?_⟩;refine ⟨_,rfl,_,rfl,_,_,rfl,rfl,.inl (w1a _),_,_,rfl,rfl,(by show (0:Int) < 2147483629;decide),?_⟩;refine ⟨_,rfl,_,rfl,g,_,_,_,rfl,rfl,SqL.of B1.ob,bat1 _ _ _ _,_,_,rfl,rfl,_,_,rfl,rfl,.inr ⟨by decide,by decide⟩,_,_,rfl,rfl,(by show (0:Int) < 998244353;decide),_,_,rfl,rfl,⟨by decide,by decide⟩,_,rfl,_,_,rfl,rfl,m0,?_⟩;exact k _ _ _ _ Kp.at B1 (Int.emod_nonneg _ (by omega)) (Int.emod_lt_of_pos _ m0)
     ·refine ⟨_,rfl,_,rfl,g,_,_,2,rfl,rfl,B1.ob,rfl,?_⟩;have B2:=B1.put (z':=s') B1.i0;have k2:=(Kp.at (g:=g) (H:=H) (o:=.lst (bagL q (i + 1) z s'))).trans (Kp.at (o:=.lst (bagL q (i + 1) s' s')));refine ⟨_,rfl,g,_,_,_,rfl,rfl,SqL.of B2.ob,bat2 _ _ _ _,_,rfl,_,_,rfl,rfl,m0,?_⟩;refine ⟨_,rfl,g,_,_,_,rfl,rfl,SqL.of B2.ob,bat2 _ _ _ _,_,rfl,_,_,rfl,rfl,⟨m0,m1⟩,_,rfl,g,_,_,2,rfl,rfl,B2.ob,rfl,?_⟩;exact ⟨_,rfl,k _ _ _ _ (k2.trans Kp.at) (B2.put B2.i0) (Int.emod_nonneg _ (by omega)) (Int.emod_lt_of_pos _ m0)⟩
  ·have B2:=B;have k2:=Kp.refl g H;refine ⟨_,rfl,g,_,_,_,rfl,rfl,SqL.of B2.ob,bat2 _ _ _ _,_,rfl,_,_,rfl,rfl,m0,?_⟩;refine ⟨_,rfl,g,_,_,_,rfl,rfl,SqL.of B2.ob,bat2 _ _ _ _,_,rfl,_,_,rfl,rfl,⟨m0,m1⟩,_,rfl,g,_,_,2,rfl,rfl,B2.ob,rfl,?_⟩;exact ⟨_,rfl,k _ _ _ _ (k2.trans Kp.at) (B2.put B2.i0) (Int.emod_nonneg _ (by omega)) (Int.emod_lt_of_pos _ m0)⟩
theorem scBag:FnScope ["_law_script","_law_salt","_law_one"] ["_law_script"] (j0c w34):=⟨rfl,rfl,rfl,by decide +kernel,rfl,by decide +kernel,by decide +kernel⟩
theorem cutI (ns:List Int) (lo hi:Option Int):∃ ms:List Int,cutV (ns.map V.int) lo hi=ms.map V.int:=by unfold cutV;exact ⟨_,by rw [<- List.map_drop,<- List.map_take]⟩
theorem w8c {f:Addr} {fd:FuncData} (F:Fun K "_law_bag" "_law_bag" w34 f fd) (hlen:mg "len"=none) (hlist:mg "list"=none):FnOk P w K mg base CX0 1 f fd ["_law_script"] (WL.w7e K):=by
 refine F.ok scBag (fun vs H Q E h=>?_) (fun cdv A outer s H vs Q E hr h=>?_)
 ·obtain ⟨a,ns,rfl,_⟩:=h;rfl
 ·obtain ⟨a,ns,rfl,ha,k⟩:=h
  refine ⟨_,j1i (j50 (i:=1) scBag.nd rfl (Or.inl rfl) (j1l j2z (by rfl) hlen PySem.boot_len (j0k (j4y j8p (pv 0) j86 (j85 j01)) j02)))
   (j1i (k6t PassesOwn.never rfl (k10 (j4y j8p (pv 0) j86 (j85 j01))) (j0q (i:=2) scBag.nd rfl (Or.inl rfl))
    (j24 (j50 (i:=1) scBag.nd rfl (Or.inl rfl) (j2i j52 (j2i j4z (j2i j73 (pv 1) j01) (pv 2)) j01))))
   (j24 (j6w (w2n (j0k (j15 j3x rfl hlist PyProof.Rows.boot_list (j0k (j4y j8p (pv 0) j86 (j85 j01)) j02)) (j0k j01 (j0k j01 (j0k (pv 1) j02)))))))),?_⟩
  obtain ⟨ms,hms⟩:=cutI ns none (some 63);refine ⟨_,rfl,63,rfl,a,_,rfl,ha,fun p hp=>?_⟩;rw [hms];have s1:Same H (upd H p (.lst (ms.map V.int))):=j4x hp;refine ⟨p,_,rfl,.inl (SqL.of j0h),?_⟩;refine ⟨_,rfl,63,rfl,a,_,rfl,s1.seq ha,fun p2 hp2=>?_⟩;rw [hms];have s2:Same (upd H p (.lst (ms.map V.int))) (upd (upd H p (.lst (ms.map V.int))) p2 (.lst (ms.map V.int))):=j4x hp2;have s12:=s1.trans s2;generalize hH2:upd (upd H p (.lst (ms.map V.int))) p2 (.lst (ms.map V.int))=H2 at s12;have hq2:H2 p2=some (.lst (ms.map V.int)):=by rw [<- hH2];exact j0h
  refine ⟨p2,rfl,⟨_,SqL.of hq2⟩,w1m (K:=K) (a:=p2) (xs:=ms.map V.int) (fun i Z H3=>H3=H2/\∃ (sa:Int) (v:Option V),Z=[some (.ref a),some (.int sa),v]) ⟨rfl,_,none,rfl⟩ (fun i Z H3 _ ⟨e,_⟩=>by rw [e];exact SqL.of hq2) ?_ ?_⟩
  ·rintro i y Z H3 hi' ⟨rfl,sa,v,rfl⟩
   obtain ⟨z,rfl⟩:∃ z,y=V.int z:=by
    rw [List.getElem?_map] at hi'
    cases e:ms[i]? with
    | none=>rw [e] at hi';cases hi'
    | some z=>rw [e] at hi';exact ⟨z,(Option.some.inj hi').symm⟩
   exact ⟨_,rfl,_,_,rfl,rfl,.inr ⟨by decide,by decide⟩,_,rfl,_,_,rfl,rfl,_,_,rfl,rfl,(by show (0:Int) < 1000003;decide),rfl,_,_,rfl⟩
  ·rintro Z H3 ⟨rfl,sa,v,rfl⟩;refine ⟨_,rfl,63,rfl,a,_,rfl,s12.seq ha,fun p3 hp3=>?_⟩;rw [hms];refine ⟨p3,_,rfl,.inl (SqL.of j0h),fun p4 hp4=>⟨_,rfl,(by decide:4<=sizeLine),fun p5 hp5=>?_⟩⟩;have s3:=j4x (o:=.lst (ms.map V.int)) hp3;have s4:=j4x (o:=.lst (ms.map V.int)) hp4;have s5:=j4x (o:=.lst (bagL p4 0 0 sa)) hp5;have n45:p4≠p5:=j0m j0h hp5;refine k _ p5 p4 ms sa (((s12.trans s3).trans s4).trans s5) ⟨j0h,s5 _ _ j0h,Int.le_refl _,n45⟩ ?_ ?_
   ·exact (((s12.trans s3).trans s4).free hp5)
   ·exact ((s12.trans s3).free hp4)
end
abbrev k6g:Stmt:=mth (top 19) 0
theorem w3x:FnScope ["self"] ["self"] (j0c k6g):=⟨rfl,rfl,rfl,by decide +kernel,rfl,by decide +kernel,by decide +kernel⟩
theorem w5g {P:Program} {w:World} {K:PySem.W.Frag} {mg:Str->Option Value} {base:Heap} {C f:Addr} {fd:FuncData} (F:Fun K "__init__" "Body.__init__" k6g f fd) (ct:CTx K C):FnOk P w K mg base (CX1 P w) 1 f fd ["self"] (k3g C) :=
 w51 F w3x ct fun cdv A outer s H E=>j1i (k3k (pv 0) j87 rfl) (j1i (k3k (pv 0) j87 rfl) (j24 (k3k (pv 0) j01 rfl)))
abbrev bmV:List Value:=[.type "ValueError",.type "Exception",.type "BaseException",.type "object"]
local macro_rules | `(tactic| walk_at "b1") => `(tactic| exact fun _ _ _ _ _ _ us hl => match us, hl with | [_], _ => rfl)
local macro_rules | `(tactic| walk_at "b2") => `(tactic| exact fun _ _ _ _ _ _ us hl => match us, hl with | [_, _], _ => rfl)
local macro_rules | `(tactic| walk_at "b3") => `(tactic| exact fun _ _ _ _ _ _ us hl => match us, hl with | [_, _, _], _ => rfl)
local macro_rules | `(tactic| walk_at "b4") => `(tactic| exact fun _ _ _ _ _ _ us hl => match us, hl with | [_, _, _, _], _ => rfl)
local macro_rules | `(tactic| walk_at "b5") => `(tactic| exact fun _ _ _ _ _ _ us hl => match us, hl with | [_, _, _, _, _], _ => rfl)
theorem w9e {l:PySem.W.OpenLaw} {w:World} {K:PySem.W.Frag} {h:Heap} {mg:Str->Option Value} {fa c tab C f1 fL X0 X1 X2 X3 X4 X5 X6:Addr} {oc1 kV1 dc1 pm1 ct1 occ ocL kVL dcL pmL ctL cdL:Value} {od1 an1 odc odL anL:Option Addr} {sl1 slc slL:Array (Option Value)} {vsc:Array Value} {t_MOST_CELLS t_TOP_RANK:Tok} (X:K.In h) (G:h.Ns mainGlobals mg) (hfa:mg "law"=some (.ref fa))
  (a1:PySem.W.nsIn K mainGlobals "is_sum"=some (some (.ref f1)))
  (l1:K.lookup f1=some ⟨oc1,od1,.func (PySem.W.fnOf "is_sum" "is_sum" (j2t j12) (j1n j12) (j0c j12) .none kV1 dc1 pm1 an1 (.ref c) ct1),sl1⟩)
  (c1:PySem.W.codeIn K (.ref c) "is_sum"=true)
  (k1:PySem.W.keepIn K (.ref f1)=true)
  (lc:K.lookup c=some ⟨occ,odc,.fields vsc,slc⟩)
  (ev:vsc[11]?=some (.ref tab))
  (hKt:K.lookup tab=none)
  (aL:PySem.W.nsIn K mainGlobals "law"=some (some (.ref fL)))
  (lL:K.lookup fL=some ⟨ocL,odL,.func (PySem.W.fnOf "law" "law" (j2t j8w) (j1n j8w) (j0c j8w) .none kVL dcL pmL anL cdL ctL),slL⟩)
  (cL:PySem.W.codeIn K cdL "law"=true)
  (kL:PySem.W.keepIn K (.ref fL)=true)
  (q_must_be_sum:Dq K "must_be_sum" k0c)
  (q_total:Dq K "total" k1p)
  (q_added:Dq K "added" k1v)
  (q_evenly:Dq K "evenly" j8y)
  (q_is_round:Dq K "is_round" j5g)
  (q_cleared:Dq K "cleared" j6s)
  (q_cleared_borders:Dq K "cleared_borders" j1y)
  (q_filling:Dq K "filling" j6q)
  (q_bar:Dq K "bar" w33)
  (q_bag:Dq K "_law_bag" w34)
  (q_pull:Dq K "_law_pull" k6d)
  (q_rank:Dq K "_law_rank" k6c)
  (q_join:Dq K "_law_join" k6f)
  (q_here:Dq K "_law_here" k6h)
  (q_some:Dq K "_law_some" k59)
  (q_edge:Dq K "_law_edge" k6j)
  (q_whole:Dq K "_law_whole" k1n)
  (q_row:Dq K "_law_row" w30)
  (q_same:Dq K "_law_same" k6a)
  (q_truth:Dq K "_law_truth" k1o)
  (q_stock:Dq K "_law_stock" k1q)
  (q_edge_by:Dq K "_law_edge_by" j6r)
  (q_rows:Dq K "_law_rows" k6b)
  (q_fill:Dq K "_law_fill" k6i)
  (q_cells_kept:Dq K "_law_cells_kept" j3p)
  (q_over:Dq K "_law_over" k6e)
  (q_sum:Dq K "_law_sum" w3z)
  (q_parted:Dq K "_law_parted" j8v)
  (q_odd:Dq K "_law_odd" w32)
  (q_is_bar:Dq K "_law_is_bar" j8x)
  (q_filling_or_bar:Dq K "_law_filling_or_bar" j2b)
  (q_asked:Dq K "_law_asked" k1u)
  (aC:PySem.W.nsIn K mainGlobals "Body"=some (some (.ref C)))
  (m___init__:Mq K C "__init__" "Body.__init__" k6g)
  (m_must_stand:Mq K C "must_stand" "Body.must_stand" j3o)
  (m_must_hold:Mq K C "must_hold" "Body.must_hold" j4k)
  (m_must_have_rank:Mq K C "must_have_rank" "Body.must_have_rank" j2a)
  (m_border_of:Mq K C "border_of" "Body.border_of" j4l)
  (m_cells:Mq K C "cells" "Body.cells" k1t)
  (m_over:Mq K C "over" "Body.over" k1s)
  (m_put:Mq K C "put" "Body.put" w31)
  (m_take:Mq K C "take" "Body.take" k58)
  (m_stands:Mq K C "stands" "Body.stands" j8u)
  (m_coming:Mq K C "coming" "Body.coming" j8z)
  (m_rank:Mq K C "rank" "Body.rank" k1r)
  (m_border:Mq K C "border" "Body.border" j80)
  (pg:PySem.W.plainGet K C Str.empty=true)
  (hd:PySem.W.hasDictIn K C=true)
  (po:PySem.W.plainOver K C=true)
  (sa:PySem.W.findIn K (.ref C) "__setattr__"=some (some (.builtin "object.__setattr__")))
  (mk:PySem.W.makesIn K C=true)
  (kc:PySem.W.keepIn K (.ref C)=true)
  (nR:PySem.W.findIn K (.ref C) "ranks"=some none)
  (nB:PySem.W.findIn K (.ref C) "borders"=some none)
  (nU:PySem.W.findIn K (.ref C) "upcoming"=some none)
  (ax0:PySem.W.nsIn K mainGlobals "NotASum"=some (some (.ref X0)))
  (ex0:PySem.W.excIn K X0 bmV "ValueError.__new__"=true)
  (ax1:PySem.W.nsIn K mainGlobals "NoCell"=some (some (.ref X1)))
  (ex1:PySem.W.excIn K X1 bmV "ValueError.__new__"=true)
  (ax2:PySem.W.nsIn K mainGlobals "OtherRank"=some (some (.ref X2)))
  (ex2:PySem.W.excIn K X2 bmV "ValueError.__new__"=true)
  (ax3:PySem.W.nsIn K mainGlobals "BadRank"=some (some (.ref X3)))
  (ex3:PySem.W.excIn K X3 bmV "ValueError.__new__"=true)
  (ax4:PySem.W.nsIn K mainGlobals "OpenBorder"=some (some (.ref X4)))
  (ex4:PySem.W.excIn K X4 bmV "ValueError.__new__"=true)
  (ax5:PySem.W.nsIn K mainGlobals "Full"=some (some (.ref X5)))
  (ex5:PySem.W.excIn K X5 bmV "ValueError.__new__"=true)
  (ax6:PySem.W.nsIn K mainGlobals "Covered"=some (some (.ref X6)))
  (ex6:PySem.W.excIn K X6 bmV "ValueError.__new__"=true)
  (p_MOST_CELLS:PySem.W.nsIn K mainGlobals "MOST_CELLS"=some (some (.int 120 t_MOST_CELLS)))
  (p_TOP_RANK:PySem.W.nsIn K mainGlobals "TOP_RANK"=some (some (.int 12 t_TOP_RANK)))
  (zz:Bz K) :
  ∃ (c tab:Addr) (fd:FuncData),PySem.W.tabIn K "is_sum"=some (c,tab)/\K.lookup tab=none/\(∀ (s:Shared) (v:Value),BindsTo s fd ⟨[v],[]⟩ [("_law_script",v)])/\∀ base:Heap,K.In base->base.Ns mainGlobals mg->BaseT mg base c tab->FnOk l.prog w K mg base CX0 8 fa fd ["_law_script"] (k92 K tab):=by
 have e:=hfa.symm.trans (PySem.W.mg_of X G aL);cases e
 have ht:PySem.W.tabIn K "is_sum"=some (c,tab):=by unfold PySem.W.tabIn;rw [a1];dsimp only;rw [l1];dsimp only [PySem.W.fnOf];rw [lc];dsimp only;rw [ev]
 have F_is_sum:=k3y (st:=j12) l1 c1 k1;have N_is_sum:Fn K mg "is_sum" j12 ["row"] f1 _:=⟨F_is_sum,PySem.W.mg_of X G a1,F_is_sum.binds (ps:=["row"]) (by walk_at "b1")⟩;have F_law:=k3y (st:=j8w) lL cL kL;have N_must_be_sum:=q_must_be_sum.fn X G ["row"] (by walk_at "b1");have N_total:=q_total.fn X G ["rows"] (by walk_at "b1");have N_added:=q_added.fn X G ["one","other"] (by walk_at "b2");have N_evenly:=q_evenly.fn X G ["one","other"] (by walk_at "b2");have N_is_round:=q_is_round.fn X G ["body","row"] (by walk_at "b2");have N_cleared:=q_cleared.fn X G ["rungs","border","row"] (by walk_at "b3");have N_cleared_borders:=q_cleared_borders.fn X G ["body"] (by walk_at "b1");have N_filling:=q_filling.fn X G ["body","row"] (by walk_at "b2");have N_bar:=q_bar.fn X G ["body","row"] (by walk_at "b2");have N_bag:=q_bag.fn X G ["_law_script"] (by walk_at "b1");have N_pull:=q_pull.fn X G ["_law_bag_here","_law_many"] (by walk_at "b2");have N_rank:=q_rank.fn X G ["_law_bag_here"] (by walk_at "b1");have N_join:=q_join.fn X G ["_law_one","_law_other"] (by walk_at "b2");have N_here:=q_here.fn X G ["_law_rows_here"] (by walk_at "b1");have N_some:=q_some.fn X G ["_law_bag_here","_law_row_here"] (by walk_at "b2");have N_edge:=q_edge.fn X G ["_law_rows_here","_law_row_here"] (by walk_at "b2");have N_whole:=q_whole.fn X G ["_law_found"] (by walk_at "b1");have N_row:=q_row.fn X G ["_law_found"] (by walk_at "b1");have N_same:=q_same.fn X G ["_law_found","_law_due"] (by walk_at "b2");have N_truth:=q_truth.fn X G ["_law_found","_law_due"] (by walk_at "b2");have N_stock:=q_stock.fn X G ["_law_many"] (by walk_at "b1");have N_edge_by:=q_edge_by.fn X G ["_law_rows_here","_law_loops","_law_rank_here","_law_bag_here"] (by walk_at "b4");have N_rows:=q_rows.fn X G ["_law_bag_here","_law_most"] (by walk_at "b2");have N_fill:=q_fill.fn X G ["_law_body","_law_rows_here"] (by walk_at "b2");have N_cells_kept:=q_cells_kept.fn X G ["_law_body","_law_rows_here"] (by walk_at "b2");have N_over:=q_over.fn X G ["_law_rows_here","_law_cell"] (by walk_at "b2");have N_sum:=q_sum.fn X G ["_law_found"] (by walk_at "b1");have N_parted:=q_parted.fn X G ["_law_row_here","_law_keep"] (by walk_at "b2");have N_odd:=q_odd.fn X G ["_law_one","_law_other"] (by walk_at "b2");have N_is_bar:=q_is_bar.fn X G ["_law_rows_here","_law_found","_law_row_here"] (by walk_at "b3");have N_filling_or_bar:=q_filling_or_bar.fn X G ["_law_rows_here","_law_found","_law_other","_law_row_here"] (by walk_at "b4");have N_asked:=q_asked.fn X G ["_law_body","_law_rows_here","_law_row_here"] (by walk_at "b3");have M_init:=m___init__.fn ["self"] (by walk_at "b1");have M_must_stand:=m_must_stand.fn ["self","cell"] (by walk_at "b2");have M_must_hold:=m_must_hold.fn ["self","row"] (by walk_at "b2");have M_must_have_rank:=m_must_have_rank.fn ["self","row","rank"] (by walk_at "b3");have M_border_of:=m_border_of.fn ["self","row"] (by walk_at "b2");have M_cells:=m_cells.fn ["self"] (by walk_at "b1");have M_over:=m_over.fn ["self","cell"] (by walk_at "b2");have M_put:=m_put.fn ["self","rank","border"] (by walk_at "b3");have M_take:=m_take.fn ["self","cell"] (by walk_at "b2");have M_stands:=m_stands.fn ["self","cell"] (by walk_at "b2");have M_coming:=m_coming.fn ["self"] (by walk_at "b1");have M_rank:=m_rank.fn ["self","cell"] (by walk_at "b2");have M_border:=m_border.fn ["self","cell"] (by walk_at "b2");have B:=zz.bn X G;have h_MOST_CELLS:=PySem.W.mg_of X G p_MOST_CELLS;have h_TOP_RANK:=PySem.W.mg_of X G p_TOP_RANK;have X_NotASum:Xc K mg "NotASum" X0:=⟨_,_,_,_,PySem.W.mg_of X G ax0,ex0,PySem.F.excBase_ValueError⟩;have X_NoCell:Xc K mg "NoCell" X1:=⟨_,_,_,_,PySem.W.mg_of X G ax1,ex1,PySem.F.excBase_ValueError⟩;have X_OtherRank:Xc K mg "OtherRank" X2:=⟨_,_,_,_,PySem.W.mg_of X G ax2,ex2,PySem.F.excBase_ValueError⟩;have X_BadRank:Xc K mg "BadRank" X3:=⟨_,_,_,_,PySem.W.mg_of X G ax3,ex3,PySem.F.excBase_ValueError⟩;have X_OpenBorder:Xc K mg "OpenBorder" X4:=⟨_,_,_,_,PySem.W.mg_of X G ax4,ex4,PySem.F.excBase_ValueError⟩;have X_Full:Xc K mg "Full" X5:=⟨_,_,_,_,PySem.W.mg_of X G ax5,ex5,PySem.F.excBase_ValueError⟩;have X_Covered:Xc K mg "Covered" X6:=⟨_,_,_,_,PySem.W.mg_of X G ax6,ex6,PySem.F.excBase_ValueError⟩;have ct:CTx K C:=⟨⟨pg,hd,po,sa⟩,nR,nB,nU⟩;have h_Body:=PySem.W.mg_of X G aC;refine ⟨c,tab,PySem.W.fnOf "law" "law" (j2t j8w) (j1n j8w) (j0c j8w) .none kVL dcL pmL anL cdL ctL,ht,hKt,fun s v=>.of_eq rfl,fun base _ _ Bt=>?_⟩
 let q:Cq:=⟨l.prog,w,K,mg,base,tab⟩
 obtain ⟨bx,by_,bz,bw,hxm,hxe,hxf⟩:=X_NotASum.ex;have g_mustL:=w00 N_must_be_sum.fn N_is_sum (k4m (P:=l.prog) (w:=w) F_is_sum rfl Bt B.all B.zip) hxm hxe hxf;have g_mustT:=w0z N_must_be_sum.fn N_is_sum (k4l (P:=l.prog) (w:=w) F_is_sum rfl Bt B.all B.zip) hxm hxe hxf;have gm_init:=w5g (P:=l.prog) (w:=w) (mg:=mg) (base:=base) M_init.fn ct;have k_mustL:Fkq q _ _ _ _:=N_must_be_sum.fk g_mustL;have k_total:Fkq q _ _ _ _:=N_total.fk (w0v N_total.fn N_must_be_sum g_mustT B.set B.sorted);have km_must_stand:Fmq q C _ _ _ _:=M_must_stand.fm (j9g M_must_stand.fn ct X_NoCell);have km_must_hold:Fmq q C _ _ _ _:=M_must_hold.fm (k0n M_must_hold.fn ct (k_mustL.up (by decide)) (km_must_stand.up (by decide)));have km_must_have_rank:Fmq q C _ _ _ _:=M_must_have_rank.fm (j5l M_must_have_rank.fn ct X_OtherRank);have km_border_of:Fmq q C _ _ _ _:=M_border_of.fm (k0o M_border_of.fn ct (k_total.up (by decide)) (km_must_hold.up (by decide)));have km_cells:Fmq q C _ _ _ _:=M_cells.fm (w01 M_cells.fn ct B);have km_over:Fmq q C _ _ _ _:=M_over.fm (w0y M_over.fn ct (km_must_stand.up (by decide)) (km_cells.up (by decide)));have km_put:Fmq q C _ _ _ _:=M_put.fm (w78 M_put.fn ct (km_must_hold.up (by decide)) (km_must_have_rank.up (by decide)) (km_border_of.up (by decide)) X_BadRank X_Full X_OpenBorder h_MOST_CELLS h_TOP_RANK B);have km_take:Fmq q C _ _ _ _:=M_take.fm (w48 M_take.fn ct (km_over.up (by decide)) X_Covered);have km_stands:Fmq q C _ _ _ _:=M_stands.fm (k7m M_stands.fn ct);have km_coming:Fmq q C _ _ _ _:=M_coming.fm (k7q M_coming.fn ct);have km_rank:Fmq q C _ _ _ _:=M_rank.fm (w0x M_rank.fn ct (km_must_stand.up (by decide)));have km_border:Fmq q C _ _ _ _:=M_border.fm (k7r M_border.fn ct (km_must_stand.up (by decide)) B);have k_added:Fkq q _ _ _ _:=N_added.fk (w03 N_added.fn (k_mustL.up (by decide)) B);have k_evenly:Fkq q _ _ _ _:=N_evenly.fk (k7p N_evenly.fn (k_mustL.up (by decide)) B);have k_is_round:Fkq q _ _ _ _:=N_is_round.fk (k2e N_is_round.fn ct (km_border_of.up (by decide)));have k_cleared:Fkq q _ _ _ _:=N_cleared.fk (k4p N_cleared.fn (k_added.up (by decide)));have k_clearedN:Fkq q _ _ _ _:=⟨_,_,k2f k_cleared.ok,k_cleared.at_,k_cleared.kp,k_cleared.bd⟩;have k_cleared_borders:Fkq q _ _ _ _:=N_cleared_borders.fk (j40 N_cleared_borders.fn ct (k_cleared.up (by decide)) (km_cells.up (by decide)) (km_border.up (by decide)));have k_filling:Fkq q _ _ _ _:=N_filling.fk (k4n N_filling.fn ct (k_clearedN.up (by decide)) (k_cleared_borders.up (by decide)) (km_must_hold.up (by decide)));have k_bar:Fkq q _ _ _ _:=N_bar.fk (w8b N_bar.fn ct (k_cleared_borders.up (by decide)) (k_cleared.up (by decide)) (k_evenly.up (by decide)) (km_must_hold.up (by decide)) B);have k_bag:Fkq q _ _ _ _:=N_bag.fk (bag_w (w8c N_bag.fn B.len B.list));have k_pull:Fkq q _ _ _ _:=N_pull.fk (w7p (w5d N_pull.fn B.len));have k_rank:Fkq q _ _ _ _:=N_rank.fk (w5c N_rank.fn (k_pull.up (by decide)));have k_join:Fkq q _ _ _ _:=N_join.fk (w5f N_join.fn B);have k_here:Fkq q _ _ _ _:=N_here.fk (w5h N_here.fn B);have k_some:Fkq q _ _ _ _:=N_some.fk (w49 N_some.fn (k_pull.up (by decide)) (k_join.up (by decide)) B);have k_edge:Fkq q _ _ _ _:=N_edge.fk (w5j N_edge.fn (k_join.up (by decide)));have k_whole:Fkq q _ _ _ _:=N_whole.fk (w0t N_whole.fn B);have k_row:Fkq q _ _ _ _:=N_row.fk (w77 N_row.fn (k_whole.up (by decide)) B);have k_same:Fkq q _ _ _ _:=N_same.fk (w5a N_same.fn (k_row.up (by decide)));have k_truth:Fkq q _ _ _ _:=N_truth.fk (w0u N_truth.fn B);have k_stock:Fkq q _ _ _ _:=N_stock.fk (w0w N_stock.fn B);have k_edge_by:Fkq q _ _ _ _:=N_edge_by.fk (k4o N_edge_by.fn (k_pull.up (by decide)) (k_join.up (by decide)) (k_here.up (by decide)) (k_some.up (by decide)) (k_edge.up (by decide)) B);have k_rows:Fkq q _ _ _ _:=N_rows.fk (w5b N_rows.fn (k_pull.up (by decide)) (k_stock.up (by decide)) (k_rank.up (by decide)) (k_edge_by.up (by decide)) B);have k_fill:Fkq q _ _ _ _:=N_fill.fk (w5i N_fill.fn ct (km_put.up (by decide)) (km_take.up (by decide)) B);have k_cells_kept:Fkq q _ _ _ _:=N_cells_kept.fk (j9h N_cells_kept.fn ct (k_same.up (by decide)) (k_here.up (by decide)) (k_truth.up (by decide)) (k_whole.up (by decide)) (km_cells.up (by decide)) (km_coming.up (by decide)) (km_stands.up (by decide)) (km_rank.up (by decide)) (km_border.up (by decide)) B);have k_over:Fkq q _ _ _ _:=N_over.fk (w5e N_over.fn (k_here.up (by decide)));have k_sum:Fkq q _ _ _ _:=N_sum.fk (w76 N_sum.fn (k_row.up (by decide)) B);have k_parted:Fkq q _ _ _ _:=N_parted.fk (k7n N_parted.fn);have k_odd:Fkq q _ _ _ _:=N_odd.fk (w79 N_odd.fn (k_parted.up (by decide)) B);have k_is_bar:Fkq q _ _ _ _:=N_is_bar.fk (k7o N_is_bar.fn (k_here.up (by decide)) (k_odd.up (by decide)));have k_filling_or_bar:Fkq q _ _ _ _:=N_filling_or_bar.fk (j5m N_filling_or_bar.fn (k_here.up (by decide)) (k_sum.up (by decide)) (k_parted.up (by decide)) (k_is_bar.up (by decide)) (k_edge.up (by decide)));have k_asked:Fkq q _ _ _ _:=N_asked.fk (w02 N_asked.fn (k_filling.up (by decide)) (k_bar.up (by decide)) (k_filling_or_bar.up (by decide)) B);exact fn_x0 (law_w (w8a (q:=q) F_law ct ⟨mk,M_init.me.at_,M_init.me.fn,kc⟩ (gm_init.mono (by decide)) M_init.bd h_Body (k_bag.up (by decide)) (k_pull.up (by decide)) (k_rows.up (by decide)) (k_fill.up (by decide)) (k_some.up (by decide)) (k_here.up (by decide)) (k_edge.up (by decide)) (k_join.up (by decide)) (k_truth.up (by decide)) (k_is_round.up (by decide)) (k_filling.up (by decide)) (k_bar.up (by decide)) (k_cells_kept.up (by decide)) (k_filling_or_bar.up (by decide)) (k_asked.up (by decide)) (k_over.up (by decide)) (km_put.up (by decide)) (km_take.up (by decide)) B)) fun _ _ _ _ z=>z
theorem walk {l:PySem.W.OpenLaw} {q:Program} {loose:List Str} {XP:(Str->Option Value)->Heap->Prop} {YP:World->Heap->Prop} {d:DefRec} {K:Params->PySem.W.Frag} {dx:DefRec} (hn:l.most=some 63) (hdf:d.params.defaults=[])
  (hY:∀ (w:World) (h:Heap),YP w h->(K w.params).In h) (hrec:(PyProof.Rows.recsOf q).find? (fun e=>e.name == ("is_sum":Str))=some dx)
  (F:∀ (w:World) (mg:Str->Option Value) (fa:Addr) (h:Heap),(K w.params).In h->h.Ns mainGlobals mg->mg d.name=some (.ref fa) ->
   ∃ (c tab:Addr) (fd:FuncData),PySem.W.tabIn (K w.params) "is_sum"=some (c,tab)/\(K w.params).lookup tab=none/\(∀ (s:Shared) (u:Value),BindsTo s fd ⟨[u],[]⟩ [("_law_script",u)]) /\
    ∀ base:Heap,(K w.params).In base->base.Ns mainGlobals mg->BaseT mg base c tab->FnOk l.prog w (K w.params) mg base CX0 8 fa fd ["_law_script"] (k92 (K w.params) tab)) :
  PySem.W.WalkO q loose XP YP l.row.toRowW d [] (fun f vs=>PySem.call f vs) :=
 L2.k9y (n:=63) (k:=8) (x:="_law_script") (tx:="is_sum") (CX:=CX0) (sp:=fun _ K tab=>k92 K tab) hn (by decide) hdf ⟨rfl,by decide,by decide⟩ hY hrec F (fun _ K H a tab ns _ hS hH=>⟨a,ns,rfl,hS,⟨#[],hH,trivial⟩,fun _=>rfl⟩) fun _ _ _ _ z=>z
end K7
open WL
local macro_rules | `(tactic| walk_at "kf") => `(tactic| exact dq_mk (by k_is) (by k_is) (by k_is) (by k_is))
local macro_rules | `(tactic| walk_at "km") => `(tactic| exact mq_mk (by k_is) (by k_is) (by k_is) (by k_is) (by k_is))
def PySem.W.Fast.tw10170673247376781597:=0
def PySem.W.Fast.tw11547348256615449808:=0
def PySem.W.Fast.tw15945091781916955318:=0
def PySem.W.Fast.tw4274162992591800129:=0
def PySem.W.Fast.tw17482904326139395752:=0
def PySem.W.Fast.tw162440729049941340:=0
def PySem.W.Fast.tw17991981528275987411:=0
def PySem.W.Fast.tw8639466122962783387:=0
def PySem.W.Fast.tw17939160666218823064:=0
def PySem.W.Fast.tw5236671231746085842:=0
def PySem.W.Fast.tw14394836045679470558:=0
def PySem.W.Fast.tw10712104350200923303:=0
def PySem.W.Fast.tw17096450290956034587:=0
def PySem.W.Fast.tw1941622900749888612:=0
def PySem.W.Fast.tw18051089297760265483:=0
def PySem.W.Fast.tw11422195644427109512:=0
def PySem.W.Fast.tw12536278962134726614:=0
def PySem.W.Fast.tw14061086098081902663:=0
def PySem.W.Fast.tw8838139050580022612:=0
def PySem.W.Fast.tw8138371377584709414:=0
def PySem.W.Fast.tw17296547147834606935:=0
def PySem.W.Fast.tw10613742827525839679:=0
def PySem.W.Fast.tw4023007755847316861:=0
def PySem.W.Fast.tw1060593369103599109:=0
def PySem.W.Fast.tw17113126854994038052:=0
def PySem.W.Fast.tw3031950767753405180:=0
def PySem.W.Fast.tw16544958967762685483:=0
def PySem.W.Fast.tw9598726574807731729:=0
def PySem.W.Fast.tw15681936413712638294:=0
def PySem.W.Fast.tw17874220511006595992:=0
def PySem.W.Fast.tw11902157674629352954:=0
def PySem.W.Fast.tw4047752087894925239:=0
def PySem.W.Fast.tw5644773918491577869:=0
def PySem.W.Fast.tw2455646880145780337:=0
def PySem.W.Fast.tw1166954261803999046:=0
def PySem.W.Fast.tw11314426726727969999:=0
def PySem.W.Fast.tw4722215234349903272:=0
def PySem.W.Fast.tw1706673076573370132:=0
def PySem.W.Fast.tw15728304859859477446:=0
def PySem.W.Fast.tw6772686474479605046:=0
def PySem.W.Fast.tw10016991837753077188:=0
def PySem.W.Fast.tw1326030685961713079:=0
def PySem.W.Fast.tw7842115622200783465:=0
def PySem.W.Fast.tw16728257583201323127:=0
def PySem.W.Fast.tw3469810622869269678:=0
def PySem.W.Fast.tw6771756643146721956:=0
def PySem.W.Fast.tw9279106344604536025:=0
def PySem.W.Fast.tw222717278214724307:=0
def PySem.W.Fast.tw8515939267615045634:=0
def PySem.W.Fast.tw12695769979477499052:=0
def PySem.W.Fast.tw10818164693674342921:=0
def PySem.W.Fast.tw15695102201576895158:=0
def PySem.W.Fast.tw3748095706264206722:=0
def PySem.W.Fast.tw4011177186244317057:=0
def PySem.W.Fast.tw2073644698379234640:=0
def PySem.W.Fast.tw1226741570975007034:=0
def PySem.W.Fast.tw6217296177706886595:=0
def PySem.W.Fast.tw5820096569441559832:=0
def PySem.W.Fast.tw12033318349375625979:=0
def PySem.W.Fast.tw9765576091674721186:=0
def PySem.W.Fast.tw7989266146255018579:=0
def PySem.W.Fast.tw15827791979279284656:=0
def PySem.W.Fast.tw14515361991096122589:=0
def PySem.W.Fast.tw16171150779452661364:=0
def PySem.W.Fast.tw17090852150353120751:=0
def PySem.W.Fast.tw2318563413678442814:=0
def PySem.W.Fast.tw7807504869441830219:=0
def PySem.W.Fast.tw10912665454873160577:=0
def PySem.W.Fast.tw13420980641201185102:=0
def PySem.W.Fast.tw2230518496621826058:=0
def PySem.W.Fast.tw4894112001316429224:=0
def PySem.W.Fast.tw10829502847847254025:=0
def PySem.W.Fast.tw18250711053885854598:=0
def PySem.W.Fast.tw9482981381276061330:=0
def PySem.W.Fast.tw1297319963053052731:=0
def PySem.W.Fast.tw16032027023642020150:=0
def PySem.W.Fast.tw13255557082003971149:=0
def PySem.W.Fast.tw6456569485768100070:=0
def PySem.W.Fast.tw10638414158726130379:=0
def PySem.W.Fast.tw7810488714349116865:=0
def PySem.W.Fast.tw10882079694922409284:=0
def PySem.W.Fast.tw3128909966524233300:=0
def PySem.W.Fast.tw5459974511761070658:=0
def PySem.W.Fast.tw118895441485337121:=0
def PySem.W.Fast.tw16423682126475800835:=0
def PySem.W.Fast.tw4209139091573776829:=0
def PySem.W.Fast.tw1300894777133219290:=0
def PySem.W.Fast.tw14581166722139491188:=0
def PySem.W.Fast.tw8385165565215993709:=0
def PySem.W.Fast.tw12788368092940633400:=0
def PySem.W.Fast.tw8968031405199027968:=0
def PySem.W.Fast.tw1807448248867844730:=0
def PySem.W.Fast.tw3305996738840143437:=0
def PySem.W.Fast.tw16156677337119604635:=0
def PySem.W.Fast.tw11394606112585846521:=0
def PySem.W.Fast.tw11659316141686755124:=0
def PySem.W.Fast.tw13445738165478522615:=0
def PySem.W.Fast.tw1732025696315257214:=0
def PySem.W.Fast.tw17613428261275125746:=0
def PySem.W.Fast.tw292097178872517484:=0
def PySem.W.Fast.tw18137359227182574709:=0
def PySem.W.Fast.tw10717024929190064127:=0
def PySem.W.Fast.tw891395953878329446:=0
def PySem.W.Fast.tw4814477309731771274:=0
def PySem.W.Fast.tw10929157696110563827:=0
open PySem PySem.W PyProof.Rows
set_option maxRecDepth 100000 in
set_option maxHeartbeats 0 in
theorem PySem.Challenge.cw_slimbody_k40_whole_filling_or_bar_holds : PySem.Challenge.rw_slimbody_k40_whole_filling_or_bar.Holds := by
  w_on; o_law; k_head; (case hw => w_witness2)
  k_fill
  refine K7.walk (l := PySem.Challenge.rw_slimbody_k40_whole_filling_or_bar) rfl rfl (fun w h Yy => PySem.W.kIn_of Yy) (by rfl) ?F
  case F =>
    intro w mg fa h KX G hmg
    refine' K7.w9e KX G hmg ?a1 ?l1 ?c1 ?k1 ?lc ?ev ?hKt ?aL ?lL ?cL ?kL ?q_must_be_sum ?q_total ?q_added ?q_evenly ?q_is_round ?q_cleared ?q_cleared_borders ?q_filling ?q_bar ?q_bag ?q_pull ?q_rank ?q_join ?q_here ?q_some ?q_edge ?q_whole ?q_row ?q_same ?q_truth ?q_stock ?q_edge_by ?q_rows ?q_fill ?q_cells_kept ?q_over ?q_sum ?q_parted ?q_odd ?q_is_bar ?q_filling_or_bar ?q_asked ?aC ?m___init__ ?m_must_stand ?m_must_hold ?m_must_have_rank ?m_border_of ?m_cells ?m_over ?m_put ?m_take ?m_stands ?m_coming ?m_rank ?m_border ?pg ?hd ?po ?sa ?mk ?kc ?nR ?nB ?nU ?ax0 ?ex0 ?ax1 ?ex1 ?ax2 ?ex2 ?ax3 ?ex3 ?ax4 ?ex4 ?ax5 ?ex5 ?ax6 ?ex6 ?p_MOST_CELLS ?p_TOP_RANK ?zz
    (case a1 => k_is)
    (case l1 => k_is)
    (case c1 => k_is)
    (case k1 => k_is)
    (case lc => k_is)
    (case ev => rfl)
    (case hKt => rfl)
    (case aL => k_is)
    (case lL => k_is)
    (case cL => k_is)
    (case kL => k_is)
    (case q_must_be_sum => walk_at "kf")
    (case q_total => walk_at "kf")
    (case q_added => walk_at "kf")
    (case q_evenly => walk_at "kf")
    (case q_is_round => walk_at "kf")
    (case q_cleared => walk_at "kf")
    (case q_cleared_borders => walk_at "kf")
    (case q_filling => walk_at "kf")
    (case q_bar => walk_at "kf")
    (case q_bag => walk_at "kf")
    (case q_pull => walk_at "kf")
    (case q_rank => walk_at "kf")
    (case q_join => walk_at "kf")
    (case q_here => walk_at "kf")
    (case q_some => walk_at "kf")
    (case q_edge => walk_at "kf")
    (case q_whole => walk_at "kf")
    (case q_row => walk_at "kf")
    (case q_same => walk_at "kf")
    (case q_truth => walk_at "kf")
    (case q_stock => walk_at "kf")
    (case q_edge_by => walk_at "kf")
    (case q_rows => walk_at "kf")
    (case q_fill => walk_at "kf")
    (case q_cells_kept => walk_at "kf")
    (case q_over => walk_at "kf")
    (case q_sum => walk_at "kf")
    (case q_parted => walk_at "kf")
    (case q_odd => walk_at "kf")
    (case q_is_bar => walk_at "kf")
    (case q_filling_or_bar => walk_at "kf")
    (case q_asked => walk_at "kf")
    (case aC => k_is)
    (case m___init__ => walk_at "km")
    (case m_must_stand => walk_at "km")
    (case m_must_hold => walk_at "km")
    (case m_must_have_rank => walk_at "km")
    (case m_border_of => walk_at "km")
    (case m_cells => walk_at "km")
    (case m_over => walk_at "km")
    (case m_put => walk_at "km")
    (case m_take => walk_at "km")
    (case m_stands => walk_at "km")
    (case m_coming => walk_at "km")
    (case m_rank => walk_at "km")
    (case m_border => walk_at "km")
    (case pg => k_is)
    (case hd => k_is)
    (case po => k_is)
    (case sa => k_is)
    (case mk => k_is)
    (case kc => k_is)
    (case nR => k_is)
    (case nB => k_is)
    (case nU => k_is)
    (case ax0 => k_is)
    (case ex0 => k_exc)
    (case ax1 => k_is)
    (case ex1 => k_exc)
    (case ax2 => k_is)
    (case ex2 => k_exc)
    (case ax3 => k_is)
    (case ex3 => k_exc)
    (case ax4 => k_is)
    (case ex4 => k_exc)
    (case ax5 => k_is)
    (case ex5 => k_exc)
    (case ax6 => k_is)
    (case ex6 => k_exc)
    (case p_MOST_CELLS => k_is)
    (case p_TOP_RANK => k_is)
    (case zz => constructor <;> k_is)
