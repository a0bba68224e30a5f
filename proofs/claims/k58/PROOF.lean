import PyProof.Rows.All
import Wide.All
import OpenK.AllK
import Wide.FinOn
import Lean
import PyProof.EqAt
import PyProof.EqKinds
import PyProof.TupleCall
import PyProof.Rows.SetFrom
import PyProof.Rows.SortWalkRead
import PyProof.Rows.EqDataRows
import PyProof.CompFree
import PyProof.ZipIter
import PyProof.Rows.ZipGen
import PyProof.GenCompD
import PyProof.CodeObjX
import KE.KNest
import PyProof.DictWalks
import PyProof.AutoListH
import PyProof.WalksMore
import PyProof.Draws
import PyProof.EnumFor
import PyProof.EnumMake
import PyProof.EnumStmt
import PyProof.Rows.EnumRows
import PyProof.StrCalls2
import PyProof.StrBlock2
import PyProof.StrLawsIdx
import PyProof.StrLoop
import PyProof.StrWalks
import PyProof.SliceStr2
import KE.KIntText
import PyProof.Rows.StrItems
import KE.KSuper
import PyProof.ExcClass2
import PyProof.ExcInit
import PyProof.InstStore
import PyProof.ExcBaseAll.ValueError
import PyProof.InstStoreFacts
import PyProof.ExcArgs
import PyProof.Rows.StrSplitAre
import PyProof.StrLawsTight
import PySem.Challenge.RW_slimbody_k58_sums_written_and_read
set_option Elab.async false
set_option linter.all false
set_option maxRecDepth 100000
namespace L2
open PySem PySem.Spec PyProof.Rows
abbrev Key := Sum Int Str
def keyIs : Key → Value → Bool
  | .inl k, v => Value.isInt k v
  | .inr x, v => Value.isStrOf x v
def keyH (w : World) : Key → Int
  | .inl k => hashInt k
  | .inr x => hashStr w x
theorem keyIs_shape : ∀ {k : Key} {v : Value}, keyIs k v = true → (∃ i t, k = Sum.inl i ∧ v = Value.int i t) ∨ (∃ x t, k = Sum.inr x ∧ v = Value.str x t)
  | .inl i, v, h => by
    obtain ⟨t, e⟩ := Value.isInt_shape (k := i) (v := v) h
    exact .inl ⟨i, t, rfl, e⟩
  | .inr x, v, h => by
    obtain ⟨t, e⟩ := Value.isStrOf_shape (x := x) (v := v) h
    exact .inr ⟨x, t, rfl, e⟩
theorem key_ll (a b : Int) : decide ((Sum.inl a : Key) = Sum.inl b) = (a == b) := by
  by_cases e : a = b
  · subst e; simp
  · have h : ¬ (Sum.inl a : Key) = Sum.inl b := fun q => e (Sum.inl.inj q)
    rw [decide_eq_false h]
    exact (beq_eq_false_iff_ne.mpr e).symm
theorem key_rr (a b : Str) : decide ((Sum.inr a : Key) = Sum.inr b) = decide (a = b) := by
  by_cases e : a = b
  · subst e; simp
  · have h : ¬ (Sum.inr a : Key) = Sum.inr b := fun q => e (Sum.inr.inj q)
    rw [decide_eq_false h, decide_eq_false e]
theorem key_lr (a : Int) (b : Str) : decide ((Sum.inl a : Key) = Sum.inr b) = false := decide_eq_false (fun q => nomatch q)
theorem key_rl (a : Str) (b : Int) : decide ((Sum.inr a : Key) = Sum.inl b) = false := decide_eq_false (fun q => nomatch q)
def mixKind (prog : Program) (w : World) : PySem.KeyKind prog w Key where
  is := keyIs
  hash := keyH w
  inj := fun v a b ha hb => by
    rcases keyIs_shape ha with ⟨i, t, rfl, rfl⟩ | ⟨x, t, rfl, rfl⟩
    · rcases keyIs_shape hb with ⟨j, u, rfl, e⟩ | ⟨y, u, rfl, e⟩
      · injection e with e1 _; rw [e1]
      · exact nomatch e
    · rcases keyIs_shape hb with ⟨j, u, rfl, e⟩ | ⟨y, u, rfl, e⟩
      · exact nomatch e
      · injection e with e1 _; rw [e1]
  byValue := fun k v h => by
    rcases keyIs_shape h with ⟨i, t, rfl, rfl⟩ | ⟨x, t, rfl, rfl⟩ <;> rfl
  pyHash := fun hv h => by
    rcases keyIs_shape hv with ⟨i, t, rfl, rfl⟩ | ⟨x, t, rfl, rfl⟩
    · exact wpAny_pyHash_int h
    · exact wpAny_pyHash_str h
  eqBool := fun hu hv h => by
    rcases keyIs_shape hu with ⟨i, t, rfl, rfl⟩ | ⟨x, t, rfl, rfl⟩
    · rcases keyIs_shape hv with ⟨j, u, rfl, rfl⟩ | ⟨y, u, rfl, rfl⟩
      · rw [key_ll] at h; exact wpAny_eqBool_int h
      · rw [key_lr] at h; exact SeqAt.EqAt.int_str i t y u _ _ _ _ h
    · rcases keyIs_shape hv with ⟨j, u, rfl, rfl⟩ | ⟨y, u, rfl, rfl⟩
      · rw [key_rl] at h; exact SeqAt.EqAt.str_int x t j u _ _ _ _ h
      · rw [key_rr] at h; exact wpAny_eqBool_str h
  «strs» := fun k x t v h => by
    rcases keyIs_shape h with ⟨i, u, rfl, e⟩ | ⟨y, u, rfl, e⟩
    · exact nomatch e
    · injection e with e1 _
      subst e1
      cases v <;> rfl
end L2
namespace L2
open PySem PySem.Spec PyProof.Rows
inductive V where
  | non | bl (b : Bool) | int (i : Int) | str (x : Str) | byt (b : Array UInt8) | flt (b : UInt64) | ref (a : Addr) | ty (n : String)
  deriving DecidableEq
def RelV : V → Value → Prop
  | .non, u => u = Value.none
  | .bl b, u => u = Value.bool b
  | .int i, u => ∃ t, u = Value.int i t
  | .str x, u => ∃ t, u = Value.str x t
  | .byt b, u => ∃ t, u = Value.bytes b t
  | .flt b, u => ∃ t, u = Value.float b t
  | .ref a, u => u = Value.ref a
  | .ty n, u => u = Value.type n
abbrev Vals : List V → List Value → Prop := Paired RelV
theorem Vals.length {xs : List V} {us : List Value} (r : Vals xs us) : xs.length = us.length := Paired.length r
theorem Vals.get : ∀ {xs : List V} {us : List Value} {i : Nat} {x : V}, Vals xs us → xs[i]? = some x → ∃ u, us[i]? = some u ∧ RelV x u
  | _, _, _, _, .nil, e => by simp at e
  | _, _, 0, _, .cons r _, e => by simp at e; subst e; exact ⟨_, rfl, r⟩
  | _, _, i + 1, x, .cons _ t, e => by
    obtain ⟨u, h1, h2⟩ := Vals.get (i := i) (x := x) t (by simpa using e)
    exact ⟨u, by simpa using h1, h2⟩
theorem Vals.set {x : V} {u : Value} (r : RelV x u) : ∀ {xs : List V} {us : List Value} (i : Nat), Vals xs us → Vals (xs.set i x) (us.set i u)
  | _, _, _, .nil => .nil
  | _, _, 0, .cons _ t => .cons r t
  | _, _, i + 1, .cons q t => .cons q (Vals.set r i t)
theorem Vals.append : ∀ {xs ys : List V} {us ws : List Value}, Vals xs us → Vals ys ws → Vals (xs ++ ys) (us ++ ws)
  | _, _, _, _, .nil, s => s
  | _, _, _, _, .cons r t, s => .cons r (Vals.append t s)
theorem Vals.take : ∀ {xs : List V} {us : List Value} (n : Nat), Vals xs us → Vals (xs.take n) (us.take n)
  | _, _, 0, _ => .nil
  | _, _, _ + 1, .nil => .nil
  | _, _, n + 1, .cons r t => .cons r (Vals.take n t)
theorem Vals.drop : ∀ {xs : List V} {us : List Value} (n : Nat), Vals xs us → Vals (xs.drop n) (us.drop n)
  | _, _, 0, r => r
  | _, _, _ + 1, .nil => .nil
  | _, _, n + 1, .cons _ t => Vals.drop n t
def RelO : Option V → Option Value → Prop
  | some v, some u => RelV v u
  | none, none => True
  | _, _ => False
def KV {κ : Type} : List (κ × V) → List (κ × Value) → Prop := Paired fun (p : κ × V) (q : κ × Value) => p.1 = q.1 ∧ RelV p.2 q.2
def kV : Key → V
  | .inl i => .int i
  | .inr x => .str x
inductive HO where
  | lst (xs : List V)
  | tup (xs : List V)
  | dK (kvs : List (Key × V)) | dT (kvs : List (List Key × V))
  | set (S : Int → Bool) (n : Nat)
  | ins (C dx : Addr) (fs : List (Str × V))
  | own (x : Addr)
  | xd (fs : List (Str × V))
  | met (f x : Addr)
  | rng (lo hi : Int)
  | frz (o : Obj) (u : HO)
  | tbl (ps : Array Value)
  | ext (φ : Heap → Prop)
abbrev Hp := Addr → Option HO
def upd (H : Hp) (a : Addr) (o : HO) : Hp := fun b => if b = a then some o else H b
theorem upd_same {H : Hp} {a : Addr} {o : HO} : upd H a o a = some o := by unfold upd; rw [if_pos rfl]
theorem upd_ne {H : Hp} {a b : Addr} {o : HO} (h : b ≠ a) : upd H a o b = H b := by unfold upd; rw [if_neg h]
theorem ne_of_none {H : Hp} {a b : Addr} {o : HO} (h : H a = some o) (h' : H b = none) : a ≠ b := by
  intro e; subst e; rw [h] at h'; cases h'
section
variable (P : Program) (w : World)
def ObjOk (H : Hp) (h : Heap) (a : Addr) : HO → Prop
  | .lst xs => xs.length ≤ sizeLine ∧ ∃ (its : List Value) (n : Nat), Vals xs its ∧ h.get? a = some { cls := .type "list", data := .seq its.toArray n }
  | .tup xs => xs.length ≤ sizeLine ∧ ∃ its : List Value, Vals xs its ∧ IsTup h a its.toArray
  | .dK kvs => kvs.length ≤ sizeLine ∧ (a == sysModules) = false ∧ ∃ vs, KV kvs vs ∧ h.DictOf (mixKind P w) a vs
  | .dT kvs => kvs.length ≤ sizeLine ∧ (a == sysModules) = false ∧ ∃ xs : List (List Key × Addr × Value),
      Paired (fun (p : List Key × V) (q : List Key × Addr × Value) => p.1 = q.1 ∧ H q.2.1 = some (.tup (p.1.map kV)) ∧ RelV p.2 q.2.2) kvs xs ∧
      ∃ o es ep, h.get? a = some o ∧ o.ExactDict ∧ o.data = .dict es ep ∧ es.toList = xs.map (entryOfKey (tupleKind (mixKind P w))) ∧ (xs.map (·.1)).Nodup
  | .set S n => h.SetOf (intKind P w) a S n
  | .ins C dx fs => H dx = some (.own a) ∧ fs.length ≤ 1000 ∧ dx ≠ a ∧ h.get? a = some (PySem.W.instObj C dx) ∧
      ∃ mA, h.Ns1 dx mA ∧ (∀ f, RelO (fs.lookup f) (mA f)) ∧ PySem.Within mA (fs.map (·.1))
  | .own _ => ∃ o, h.get? a = some o
  | .xd fs => ∃ mA, h.Ns1 a mA ∧ ∀ f, RelO (fs.lookup f) (mA f)
  | .rng lo hi => ∃ t u v, h.get? a = some { cls := .type "range", data := .fields #[.int lo t, .int hi u, .int 1 v] }
  | .frz o u => h.get? a = some o ∧ ObjOk H h a u
  | .tbl ps => h.get? a = some { cls := .none, data := .fields ps }
  | .met f x => h.get? a = some (PySem.W.methodObj (.ref f) (.ref x))
  | .ext φ => φ h ∧ (∃ o, h.get? a = some o) ∧ ∀ h1 h2 : Heap, φ h1 → (∀ o, h1.get? a = some o → h2.get? a = some o) → φ h2
def HOk (H : Hp) (h : Heap) : Prop := ∀ a o, H a = some o → ObjOk P w H h a o
end
section
variable {P : Program} {w : World} {H H' : Hp} {h h' : Heap} {a : Addr} {o : HO}
theorem ObjOk.lt (x : ObjOk P w H h a o) : a < h.objs.size := by
  cases o with
  | lst xs => obtain ⟨_, _, _, _, e⟩ := x; exact Heap.lt_size e
  | tup xs => obtain ⟨_, _, _, p⟩ := x; exact p.lt
  | dK kvs => obtain ⟨_, _, _, _, o, _, _, e, _⟩ := x; exact Heap.lt_size e
  | dT kvs => obtain ⟨_, _, _, _, o, _, _, e, _⟩ := x; exact Heap.lt_size e
  | set S n => obtain ⟨o, _, _, _, e, _⟩ := x; exact Heap.lt_size e
  | ins C dx fs => obtain ⟨_, _, _, e, _⟩ := x; exact Heap.lt_size e
  | own y => obtain ⟨_, e⟩ := x; exact Heap.lt_size e
  | xd fs => obtain ⟨_, ⟨_, _, _, e, _⟩, _⟩ := x; exact Heap.lt_size e
  | rng lo hi => obtain ⟨_, _, _, e⟩ := x; exact Heap.lt_size e
  | frz ob u => obtain ⟨e, _⟩ := x; exact Heap.lt_size e
  | tbl ps => exact Heap.lt_size (show h.get? a = some _ from x)
  | met f y => exact Heap.lt_size (show h.get? a = some _ from x)
  | ext φ => obtain ⟨_, ⟨_, e⟩, _⟩ := x; exact Heap.lt_size e
theorem Paired.mapP {α β : Type} {F G : α → β → Prop} : ∀ {l₁ : List α} {l₂ : List β}, Paired F l₁ l₂ → (∀ a b, F a b → G a b) → Paired G l₁ l₂
  | _, _, .nil, _ => .nil
  | _, _, .cons r t, f => .cons (f _ _ r) (Paired.mapP t f)
theorem ObjOk.stay (x : ObjOk P w H h a o) (k : ∀ b u, (b = a ∨ H b = some (.own a)) → h.get? b = some u → h'.get? b = some u)
    (ho : ∀ b, H b = some (.own a) → H' b = some (.own a)) (ht : ∀ b xs, H b = some (.tup xs) → H' b = some (.tup xs)) : ObjOk P w H' h' a o := by
  induction o with
  | lst xs => obtain ⟨z, its, n, r, e⟩ := x; exact ⟨z, its, n, r, k _ _ (.inl rfl) e⟩
  | tup xs => obtain ⟨z, its, r, ob, e, c⟩ := x; exact ⟨z, its, r, ob, k _ _ (.inl rfl) e, c⟩
  | dK kvs => obtain ⟨z, y, vs, r, ob, es, ep, e, c⟩ := x; exact ⟨z, y, vs, r, ob, es, ep, k _ _ (.inl rfl) e, c⟩
  | dT kvs =>
    obtain ⟨z, y, xs, r, ob, es, ep, e, c⟩ := x
    exact ⟨z, y, xs, Paired.mapP r fun p q z => ⟨z.1, ht _ _ z.2.1, z.2.2⟩, ob, es, ep, k _ _ (.inl rfl) e, c⟩
  | set S n => obtain ⟨ob, es, ep, t, e, c⟩ := x; exact ⟨ob, es, ep, t, k _ _ (.inl rfl) e, c⟩
  | ins C dx fs =>
    obtain ⟨d, z, ne, e, mA, ⟨od, es, ep, e2, c⟩, r⟩ := x
    exact ⟨ho _ d, z, ne, k _ _ (.inl rfl) e, mA, ⟨od, es, ep, k _ _ (.inr d) e2, c⟩, r⟩
  | own y => obtain ⟨ob, e⟩ := x; exact ⟨ob, k _ _ (.inl rfl) e⟩
  | xd fs => obtain ⟨mA, ⟨od, es, ep, e, c⟩, r⟩ := x; exact ⟨mA, ⟨od, es, ep, k _ _ (.inl rfl) e, c⟩, r⟩
  | rng lo hi => obtain ⟨t, u, v, e⟩ := x; exact ⟨t, u, v, k _ _ (.inl rfl) e⟩
  | frz ob u ih => obtain ⟨e, q⟩ := x; exact ⟨k _ _ (.inl rfl) e, ih q⟩
  | tbl ps =>
    have e : h.get? a = some { cls := .none, data := .fields ps } := x
    show h'.get? a = some { cls := .none, data := .fields ps }
    exact k a _ (.inl rfl) e
  | met f y =>
    have e : h.get? a = some (PySem.W.methodObj (.ref f) (.ref y)) := x
    show h'.get? a = some (PySem.W.methodObj (.ref f) (.ref y))
    exact k a _ (.inl rfl) e
  | ext φ => obtain ⟨p, ⟨o, e⟩, st⟩ := x; exact ⟨st _ _ p fun o q => k _ _ (.inl rfl) q, ⟨o, k _ _ (.inl rfl) e⟩, st⟩
theorem HOk.lt (x : HOk P w H h) (e : H a = some o) : a < h.objs.size := (x a o e).lt
theorem HOk.fresh (x : HOk P w H h) (e : h.objs.size ≤ a) : H a = none := by
  cases q : H a with
  | none => rfl
  | some u => exact absurd (Nat.lt_of_lt_of_le (x.lt q) e) (Nat.lt_irrefl _)
theorem HOk.kept (x : HOk P w H h) (k : ∀ b u, h.get? b = some u → h'.get? b = some u) : HOk P w H h' := fun a o e =>
  (x a o e).stay (fun b u _ q => k b u q) (fun _ q => q) fun _ _ q => q
theorem HOk.laid (x : HOk P w H h) (k : ∀ b u, h.get? b = some u → h'.get? b = some u) (hp : h.objs.size ≤ a) (new : ObjOk P w (upd H a o) h' a o) : HOk P w (upd H a o) h' := fun b u e => by
  have hn := x.fresh hp
  by_cases hb : b = a
  · subst hb; rw [upd_same] at e; cases e; exact new
  · rw [upd_ne hb] at e
    exact (x b u e).stay (fun c v _ q => k c v q) (fun c q => by rw [upd_ne (ne_of_none q hn)]; exact q) fun c xs q => by rw [upd_ne (ne_of_none q hn)]; exact q
end
def Rd (H : Hp) (a : Addr) (u : HO) : Prop := H a = some u ∨ ∃ o, H a = some (.frz o u)
theorem Rd.ok {P : Program} {w : World} {H : Hp} {h : Heap} {a : Addr} {u : HO} (r : Rd H a u) (x : HOk P w H h) : ObjOk P w H h a u := by
  rcases r with r | ⟨o, r⟩
  · exact x a u r
  · obtain ⟨_, q⟩ := x a _ r
    exact q
def Mut : Option HO → Prop
  | some (.lst _) => True
  | some (.dK _) => True
  | some (.dT _) => True
  | some (.set _ _) => True
  | some (.ins _ _ _) => True
  | some (.ext _) => True
  | _ => False
section
variable {P : Program} {w : World} {H : Hp} {h h' : Heap} {x e : Addr} {o' : HO}
theorem HOk.write (ok : HOk P w H h) (mu : Mut (H x)) (he : e = x ∨ H e = some (.own x)) (k : ∀ b u, b ≠ e → h.get? b = some u → h'.get? b = some u) (heo : ∃ u, h'.get? e = some u)
    (new : ObjOk P w (upd H x o') h' x o') : HOk P w (upd H x o') h' := fun b u q => by
  have nown : ∀ c y, H c = some (.own y) → c ≠ x := fun c y r z => by subst z; rw [r] at mu; exact mu
  have ntup : ∀ c xs, H c = some (.tup xs) → c ≠ x := fun c xs r z => by subst z; rw [r] at mu; exact mu
  by_cases hb : b = x
  · subst hb; rw [upd_same] at q; cases q; exact new
  · rw [upd_ne hb] at q
    by_cases hbe : b = e
    · have q' : H b = some (.own x) := by
        rcases he with z | z
        · exact absurd (hbe.trans z) hb
        · rw [hbe]; exact z
      rw [q] at q'; cases q'
      obtain ⟨v, hv⟩ := heo
      exact ⟨v, by rw [hbe]; exact hv⟩
    · refine (ok b u q).stay (fun c v hc r => k c v ?_ r) (fun c r => by rw [upd_ne (nown c b r)]; exact r) fun c xs r => by rw [upd_ne (ntup c xs r)]; exact r
      rcases hc with rfl | hc
      · exact hbe
      · rintro rfl
        rcases he with z | z
        · exact nown c b hc z
        · rw [hc] at z; cases z; exact hb rfl
end
structure Un (fs ex : List Addr) (H H' : Hp) (h h' : Heap) : Prop where
  keep : ∀ b o, h.get? b = some o → H b = none → b ∉ fs → b ∉ ex → h'.get? b = some o
  slot : ∀ b o, h.get? b = some o → H b = none → b ∈ fs → b ∉ ex → ∃ sl, h'.get? b = some { o with slots := sl }
  free : ∀ b o, h.get? b = some o → H b = none → b ∉ ex → H' b = none
  there : ∀ b o, h.get? b = some o → b ∉ ex → ∃ o', h'.get? b = some o'
  tups : ∀ b xs, H b = some (.tup xs) → H' b = some (.tup xs)
  frzs : ∀ b o u, H b = some (.frz o u) → H' b = some (.frz o u)
  tbls : ∀ b ps, H b = some (.tbl ps) → ∃ more, H' b = some (.tbl (ps ++ more))
section
variable {fs fs' ex ex' : List Addr} {H H1 H2 : Hp} {h h1 h2 h' : Heap} {a x e : Addr} {o : HO}
theorem Un.any (u : Un fs ex H H1 h h1) {b : Addr} {ob : Obj} (q : h.get? b = some ob) (n : H b = none) (hx : b ∉ ex) : ∃ sl, h1.get? b = some { ob with slots := sl } := by
  by_cases hb : b ∈ fs
  · exact u.slot b ob q n hb hx
  · exact ⟨ob.slots, u.keep b ob q n hb hx⟩
theorem Un.trans (a : Un fs ex H H1 h h1) (b : Un fs ex H1 H2 h1 h2) : Un fs ex H H2 h h2 where
  keep := fun c ob q n hc hx => b.keep c ob (a.keep c ob q n hc hx) (a.free c ob q n hx) hc hx
  slot := fun c ob q n hc hx => by
    obtain ⟨sl, e1⟩ := a.slot c ob q n hc hx
    obtain ⟨sl', e2⟩ := b.slot c _ e1 (a.free c ob q n hx) hc hx
    exact ⟨sl', e2⟩
  free := fun c ob q n hx => by
    obtain ⟨o', e1⟩ := a.there c ob q hx
    exact b.free c o' e1 (a.free c ob q n hx) hx
  there := fun c ob q hx => by
    obtain ⟨o', e1⟩ := a.there c ob q hx
    exact b.there c o' e1 hx
  tups := fun c xs q => b.tups c xs (a.tups c xs q)
  frzs := fun c ob xs q => b.frzs c ob xs (a.frzs c ob xs q)
  tbls := fun c ps q => by
    obtain ⟨m1, e1⟩ := a.tbls c ps q
    obtain ⟨m2, e2⟩ := b.tbls c _ e1
    exact ⟨m1 ++ m2, by rw [e2, Array.append_assoc]⟩
theorem Un.kept (k : ∀ b u, h.get? b = some u → h'.get? b = some u) : Un fs ex H H h h' :=
  ⟨fun b ob q _ _ _ => k b ob q, fun b ob q _ _ _ => ⟨ob.slots, k b ob q⟩, fun _ _ _ n _ => n, fun b ob q _ => ⟨ob, k b ob q⟩, fun _ _ q => q, fun _ _ _ q => q, fun _ ps q => ⟨#[], by rw [q]; simp⟩⟩
theorem Un.refl : Un fs ex H H h h := Un.kept fun _ _ q => q
theorem Un.laid (k : ∀ b u, h.get? b = some u → h'.get? b = some u) (hp : h.objs.size ≤ a) (hn : H a = none) : Un fs ex H (upd H a o) h h' where
  keep := fun b u q _ _ _ => k b u q
  slot := fun b u q _ _ _ => ⟨u.slots, k b u q⟩
  free := fun b u q n _ => by rw [upd_ne (Nat.ne_of_lt (Nat.lt_of_lt_of_le (Heap.lt_size q) hp))]; exact n
  there := fun b u q _ => ⟨u, k b u q⟩
  tups := fun b xs q => by rw [upd_ne (ne_of_none q hn)]; exact q
  frzs := fun b u xs q => by rw [upd_ne (ne_of_none q hn)]; exact q
  tbls := fun b ps q => ⟨#[], by rw [upd_ne (ne_of_none q hn), q]; simp⟩
theorem Un.write (mu : Mut (H x)) (he : e = x ∨ H e = some (.own x)) (k : ∀ b u, b ≠ e → h.get? b = some u → h'.get? b = some u) (heo : ∃ u, h'.get? e = some u) : Un fs ex H (upd H x o) h h' := by
  have hx : ∀ b, H b = none → b ≠ x := fun b n z => by subst z; rw [n] at mu; exact mu
  have hb : ∀ b, H b = none → b ≠ e := fun b n z => by
    subst z
    rcases he with r | r
    · exact hx b n r
    · rw [n] at r; cases r
  have hm : ∀ b u, H b = some u → ¬ Mut (some u) → b ≠ x := fun b u q nm z => by subst z; rw [q] at mu; exact nm mu
  refine ⟨fun b u q n _ _ => k b u (hb b n) q, fun b u q n _ _ => ⟨u.slots, k b u (hb b n) q⟩, fun b u q n _ => by rw [upd_ne (hx b n)]; exact n, fun b u q _ => ?_,
    fun b xs q => by rw [upd_ne (hm b _ q fun z => z)]; exact q, fun b u xs q => by rw [upd_ne (hm b _ q fun z => z)]; exact q, fun b ps q => ⟨#[], by rw [upd_ne (hm b _ q fun z => z), q]; simp⟩⟩
  by_cases hbe : b = e
  · subst hbe; exact heo
  · exact ⟨u, k b u hbe q⟩
end
def trk (h : Heap) (H : Hp) : List Addr := (List.range h.objs.size).filter fun a => (H a).isSome
def hidT (h : Heap) (H : Hp) : Heap := PySem.W.hideAll h (trk h H)
theorem hidT_size (h : Heap) (H : Hp) : (hidT h H).objs.size = h.objs.size := PySem.W.hideAll_size _ _
theorem hidT_get {h : Heap} {H : Hp} {b : Addr} {o : Obj} (e : h.get? b = some o) (n : H b = none) : (hidT h H).get? b = some o :=
  PySem.W.hideAll_get _ e fun hm => by
    have q : (H b).isSome = true := (List.mem_filter.mp hm).2
    rw [n] at q; simp at q
theorem of_hidT {h : Heap} {H : Hp} {b : Addr} {o : Obj} (e : (hidT h H).get? b = some o) : h.get? b = some o ∧ H b = none := by
  have e' : h.get? b = some o := PySem.W.of_hideAll (trk h H) e
  refine ⟨e', ?_⟩
  cases q : H b with
  | none => rfl
  | some x =>
    have hm : b ∈ trk h H := List.mem_filter.mpr ⟨List.mem_range.mpr (Heap.lt_size e'), by simp [q]⟩
    have z : (hidT h H).get? b = none := PySem.W.hideAll_none (trk h H) hm
    rw [z] at e; cases e
def allNews (g h : Heap) (L : Addr) : List (Addr × Obj) := (List.range h.objs.size).filterMap fun a => if a = L ∨ (g.get? a).isSome = true then none else (h.get? a).map fun o => (a, o)
def rest (g h : Heap) (L d : Addr) : List (Addr × Obj) := (allNews g h L).filter fun p => decide (p.1 ≠ d)
end L2
namespace L2
open PySem PySem.Spec PyProof.Rows
structure Mod (K : PySem.W.Frag) (mg : Str → Option Value) (base : Heap) : Prop where
  kin : K.In base
  glob : base.Ns mainGlobals mg
  blt : ∃ mb, base.Ns builtinsNs mb ∧ ∀ x : Str, x ≠ "__name__" → mb x = bootBuiltins x
  nolimit : base.NoLimit
structure Cx where
  prog : Program
  w : World
  K : PySem.W.Frag
  mg : Str → Option Value
  base : Heap
  A : Around
  N : List Str
  s₀ : Shared
  H₀ : Hp
  env : Env
  outer : List Env
  stack : List Env
  ex : List Addr
  fn : Str → Bool
  calm : Bool
  pn : List (Addr × Obj)
  xe : Value → Shared → Prop
def frs (l : List Env) : List Addr := l.filterMap (·.frame)
abbrev Cx.fs (X : Cx) : List Addr := frs X.outer
def Vis (sc : Scope) (x : Str) : Prop := sc.names.lookup x = some .local ∨ sc.names.lookup x = some .cell ∨ sc.names.lookup x = some .free
def Loc (sc : Scope) (x : Str) : Prop := sc.names.lookup x = some .local ∨ sc.names.lookup x = some .cell
def Look (env : Env) (h : Heap) (m : Str → Option Value) (x : Str) (u : Value) : Prop :=
  (env.kindOf x = some .local ∧ m x = some u) ∨ ((env.kindOf x = some .cell ∨ env.kindOf x = some .free) ∧ ∃ c, env.cells.lookup x = some c ∧ h.IsCell c (some u))
structure Cx.Ok (X : Cx) : Prop where
  mod : Mod X.K X.mg X.base
  kind : X.env.scope.kind = .function
  glob : X.env.globals = mainGlobals
  blt : X.env.builtins = builtinsNs
  above : X.s₀.heap.objs.size ≤ X.env.locals
  inj : ∀ x y c, X.env.cells.lookup x = some c → X.env.cells.lookup y = some c → x = y
  has : ∀ x, (X.env.kindOf x = some .cell ∨ X.env.kindOf x = some .free) → ∃ c, X.env.cells.lookup x = some c
  cab : ∀ x c, X.fn x = true → X.env.cells.lookup x = some c → X.s₀.heap.objs.size ≤ c
  hd : X.calm = true → X.A.handled = none
  frames : X.A.frames = some X.stack
  stk : X.stack = X.outer ∨ (X.stack = X.env :: X.outer ∧ X.env.frame = some X.env.locals)
  exf : ∀ b ∈ X.ex, b ≠ X.env.locals ∧ ∀ x c, X.env.cells.lookup x = some c → c ≠ b
  bs : ∀ b o, X.base.get? b = some o → X.s₀.heap.get? b = some o ∧ X.H₀ b = none
  bsz : X.base.objs.size ≤ X.s₀.heap.objs.size
  noex : ∀ b o, X.base.get? b = some o → b ∉ X.ex
  exfs : ∀ b ∈ X.ex, b ∉ X.fs
  funs : X.s₀.heap.FunFrames X.base X.outer
  frf : ∀ b ∈ X.fs, X.H₀ b = none
structure Inv (X : Cx) (pins : List (Addr × Obj)) (σ : List (Option V)) (H : Hp) (s : Shared) : Prop where
  ok : X.Ok
  os : s.os = X.s₀.os
  bare : AllBare s.gens
  base : Un X.fs X.ex X.H₀ H X.s₀.heap s.heap
  loc : ∃ m, s.heap.Ns X.env.locals m ∧ ∀ (i : Nat) (x : Str) (v : V), X.N[i]? = some x → σ[i]? = some (some v) → Vis X.env.scope x → ∃ u, RelV v u ∧ Look X.env s.heap m x u
  cell : ∀ x c, X.env.cells.lookup x = some c → ∃ v, s.heap.IsCell c v
  free : H X.env.locals = none
  freeC : ∀ x c, X.env.cells.lookup x = some c → H c = none
  pin : ∀ p ∈ X.pn ++ pins, s.heap.get? p.1 = some p.2 ∧ H p.1 = none ∧ p.1 ≠ X.env.locals ∧ p.1 ∉ X.fs ∧ ∀ v, p.2.data ≠ .cell v
  hok : HOk X.prog X.w H s.heap
  len : σ.length = X.N.length
section
variable {X : Cx} {pins : List (Addr × Obj)} {σ : List (Option V)} {H H' : Hp} {s : Shared} {h' : Heap}
theorem Cx.Ok.nofr (ok : X.Ok) {b : Addr} {o : Obj} (e : X.base.get? b = some o) : b ∉ X.fs := fun hb => by
  have := (ok.funs.mem hb).1
  rw [e] at this; cases this
theorem Inv.bs (I : Inv X pins σ H s) : ∀ b o, X.base.get? b = some o → s.heap.get? b = some o ∧ H b = none := fun b o e =>
  ⟨I.base.keep b o (I.ok.bs b o e).1 (I.ok.bs b o e).2 (I.ok.nofr e) (I.ok.noex b o e), I.base.free b o (I.ok.bs b o e).1 (I.ok.bs b o e).2 (I.ok.noex b o e)⟩
theorem Inv.bk (I : Inv X pins σ H s) : ∀ b o, X.base.get? b = some o → s.heap.get? b = some o := fun b o e => (I.bs b o e).1
theorem Inv.mod (I : Inv X pins σ H s) : Mod X.K X.mg X.base := I.ok.mod
theorem Inv.kIn (I : Inv X pins σ H s) : X.K.In s.heap := I.ok.mod.kin.keeps I.bk
theorem Inv.nolimit (I : Inv X pins σ H s) : s.heap.NoLimit := I.ok.mod.nolimit.keeps I.bk
theorem Inv.lt (I : Inv X pins σ H s) : X.env.locals < s.heap.objs.size := let ⟨_, hn, _⟩ := I.loc; hn.lt
theorem Inv.sz (I : Inv X pins σ H s) : X.s₀.heap.objs.size ≤ s.heap.objs.size := Nat.le_trans I.ok.above (Nat.le_of_lt I.lt)
theorem Inv.nofs (I : Inv X pins σ H s) {a : Addr} (h : s.heap.objs.size ≤ a) : a ∉ X.fs := fun hb => by
  obtain ⟨_, o, ho, _⟩ := I.ok.funs.mem hb
  exact absurd (Nat.lt_of_lt_of_le (Heap.lt_size ho) (Nat.le_trans I.sz h)) (Nat.lt_irrefl _)
theorem Inv.cne (I : Inv X pins σ H s) : ∀ x c, X.env.cells.lookup x = some c → c ≠ X.env.locals := fun x c e z => by
  obtain ⟨v, o, ho, hd⟩ := I.cell x c e
  obtain ⟨m, ⟨o', es, ep, ho', hd', _⟩, _⟩ := I.loc
  rw [z, ho'] at ho; cases ho; rw [hd'] at hd; cases hd
theorem Inv.funs (I : Inv X pins σ H s) : s.heap.FunFrames X.base X.outer := by
  have all : ∀ (l : List Env), (∀ b ∈ frs l, b ∈ X.fs) → X.s₀.heap.FunFrames X.base l → s.heap.FunFrames X.base l := by
    intro l
    induction l with
    | nil => intro _ _; trivial
    | cons env r ih =>
      intro hs hl
      obtain ⟨hk, ⟨L, o, hf, hn, ho, hd⟩, hr⟩ := hl
      have hL : L ∈ X.fs := hs L (by unfold frs; rw [List.filterMap_cons, hf]; exact List.mem_cons_self)
      obtain ⟨sl, e⟩ := I.base.slot L o ho (I.ok.frf L hL) hL fun z => I.ok.exfs L z hL
      exact ⟨hk, ⟨L, _, hf, hn, e, hd⟩, ih (fun b hb => hs b (by unfold frs; rw [List.filterMap_cons, hf]; exact List.mem_cons_of_mem _ hb)) hr⟩
  exact all X.outer (fun _ hb => hb) I.ok.funs
theorem Inv.stack (I : Inv X pins σ H s) : s.heap.FunFrames X.base X.stack := by
  rcases I.ok.stk with e | ⟨e, hf⟩
  · rw [e]; exact I.funs
  · rw [e]
    obtain ⟨m, hn, _⟩ := I.loc
    refine .cons (by rw [I.ok.kind]; decide) hf hn ?_ I.funs
    exact Heap.get?_none_of_le (Nat.le_trans I.ok.bsz I.ok.above)
theorem Inv.stkSub (I : Inv X pins σ H s) : ∀ b ∈ frs X.stack, b ∈ X.env.locals :: X.fs := fun b hb => by
  rcases I.ok.stk with e | ⟨e, hf⟩
  · rw [e] at hb; exact List.mem_cons_of_mem _ hb
  · rw [e] at hb
    unfold frs at hb
    rw [List.filterMap_cons, hf] at hb
    exact hb
theorem Inv.stkFree (I : Inv X pins σ H s) : ∀ b ∈ frs X.stack, H b = none := fun b hb => by
  rcases List.mem_cons.mp (I.stkSub b hb) with e | hb
  · rw [e]; exact I.free
  · obtain ⟨_, o, ho, _⟩ := I.ok.funs.mem hb
    exact I.base.free b o ho (I.ok.frf b hb) fun z => I.ok.exfs b z hb
theorem Inv.step {g' : Array GenState} {t' : Nat} {d' : Drawn} {ch : List Addr} (I : Inv X pins σ H s)
    (hch : ∀ b ∈ ch, (b ∈ X.ex ∨ X.s₀.heap.objs.size ≤ b) ∧ b ≠ X.env.locals ∧ (∀ x c, X.env.cells.lookup x = some c → c ≠ b) ∧ ∀ p ∈ X.pn ++ pins, p.1 ≠ b)
    (keep : ∀ b o, b ≠ X.env.locals → b ∉ X.fs → b ∉ ch → s.heap.get? b = some o → H b = none → h'.get? b = some o)
    (slot : ∀ b o, b ≠ X.env.locals → b ∈ X.fs → b ∉ ch → s.heap.get? b = some o → H b = none → ∃ sl, h'.get? b = some { o with slots := sl }) (free : ∀ b o, b ∉ ch → s.heap.get? b = some o → H b = none → H' b = none)
    (there : ∀ b o, b ∉ ch → s.heap.get? b = some o → ∃ o', h'.get? b = some o')
    (tups : ∀ b xs, H b = some (.tup xs) → H' b = some (.tup xs)) (frzs : ∀ b o u, H b = some (.frz o u) → H' b = some (.frz o u)) (tbls : ∀ b ps, H b = some (.tbl ps) → ∃ more, H' b = some (.tbl (ps ++ more)))
    (ns : ∀ m, s.heap.Ns X.env.locals m → h'.Ns X.env.locals m) (hok : HOk X.prog X.w H' h') (hg : AllBare g') :
    Inv X pins σ H' { s with heap := h', gens := g', drawn := d', toks := t' } := by
  have neL : ∀ b o, X.s₀.heap.get? b = some o → b ≠ X.env.locals := fun b o e => Nat.ne_of_lt (Nat.lt_of_lt_of_le (Heap.lt_size e) I.ok.above)
  have neC : ∀ b o, X.s₀.heap.get? b = some o → b ∉ X.ex → b ∉ ch := fun b o e hx hb => by
    rcases (hch b hb).1 with z | z
    · exact hx z
    · exact absurd (Nat.lt_of_lt_of_le (Heap.lt_size e) z) (Nat.lt_irrefl _)
  have cellK : ∀ x c, X.env.cells.lookup x = some c → ∀ v, s.heap.IsCell c v → h'.IsCell c v := fun x c e v ⟨o, ho, hd⟩ => by
    have nch : c ∉ ch := fun z => (hch c z).2.2.1 x c e rfl
    by_cases hc : c ∈ X.fs
    · obtain ⟨sl, q⟩ := slot c o (I.cne x c e) hc nch ho (I.freeC x c e)
      exact ⟨_, q, hd⟩
    · exact ⟨o, keep c o (I.cne x c e) hc nch ho (I.freeC x c e), hd⟩
  refine ⟨I.ok, I.os, hg, ⟨fun b o e n hb hx => ?_, fun b o e n hb hx => ?_, fun b o e n hx => ?_, fun b o e hx => ?_, fun b xs e => tups b xs (I.base.tups b xs e), fun b o xs e => frzs b o xs (I.base.frzs b o xs e), fun b ps e => ?_⟩, ?_, fun x c e => ?_, ?_, fun x c e => ?_, fun p hp => ?_, hok, I.len⟩
  · exact keep b o (neL b o e) hb (neC b o e hx) (I.base.keep b o e n hb hx) (I.base.free b o e n hx)
  · obtain ⟨sl, e1⟩ := I.base.slot b o e n hb hx
    obtain ⟨sl', e2⟩ := slot b _ (neL b o e) hb (neC b o e hx) e1 (I.base.free b o e n hx)
    exact ⟨sl', e2⟩
  · obtain ⟨o', e1⟩ := I.base.there b o e hx
    exact free b o' (neC b o e hx) e1 (I.base.free b o e n hx)
  · obtain ⟨o', e1⟩ := I.base.there b o e hx
    exact there b o' (neC b o e hx) e1
  · obtain ⟨m1, e1⟩ := I.base.tbls b ps e
    obtain ⟨m2, e2⟩ := tbls b _ e1
    exact ⟨m1 ++ m2, by rw [e2, Array.append_assoc]⟩
  · obtain ⟨m, hn, hl⟩ := I.loc
    refine ⟨m, ns m hn, fun i x v e1 e2 e3 => ?_⟩
    obtain ⟨u, r, l⟩ := hl i x v e1 e2 e3
    refine ⟨u, r, ?_⟩
    rcases l with l | ⟨k, c, e, z⟩
    · exact .inl l
    · exact .inr ⟨k, c, e, cellK x c e _ z⟩
  · obtain ⟨v, z⟩ := I.cell x c e
    exact ⟨v, cellK x c e v z⟩
  · obtain ⟨m, ⟨o, _, _, ho, _⟩, _⟩ := I.loc
    exact free _ o (fun z => (hch _ z).2.1 rfl) ho I.free
  · obtain ⟨v, o, ho, hd⟩ := I.cell x c e
    exact free c o (fun z => (hch c z).2.2.1 x c e rfl) ho (I.freeC x c e)
  · obtain ⟨e, n, ne, nf, d⟩ := I.pin p hp
    have nch : p.1 ∉ ch := fun z => (hch p.1 z).2.2.2 p hp rfl
    exact ⟨keep p.1 p.2 ne nf nch e n, free p.1 p.2 nch e n, ne, nf, d⟩
theorem Inv.un {t' : Nat} (I : Inv X pins σ H s) (u : Un X.fs [] H H' s.heap h') (hok : HOk X.prog X.w H' h') : Inv X pins σ H' { s with heap := h', toks := t' } := by
  obtain ⟨m, ⟨o, es, ep, ho, r⟩, _⟩ := id I.loc
  obtain ⟨sl, hL⟩ := u.any ho I.free (by simp)
  exact I.step (g' := s.gens) (d' := s.drawn) (ch := []) (fun _ z => nomatch z) (fun b o _ hb _ e n => u.keep b o e n hb (by simp)) (fun b o _ hb _ e n => u.slot b o e n hb (by simp)) (fun b o _ e n => u.free b o e n (by simp)) (fun b o _ e => u.there b o e (by simp)) u.tups u.frzs u.tbls (fun m' hm => by
    obtain ⟨o', es', ep', ho', r'⟩ := hm
    rw [ho] at ho'; cases ho'
    exact ⟨_, es', ep', hL, r'⟩) hok I.bare
theorem Inv.call {g' : Array GenState} {t' : Nat} {d' : Drawn} {ch : List Addr} (I : Inv X pins σ H s) (u : Un (frs X.stack) ch H H' s.heap h') (hok : HOk X.prog X.w H' h') (hg : AllBare g')
    (hch : ∀ b ∈ ch, (b ∈ X.ex ∨ X.s₀.heap.objs.size ≤ b) ∧ b ≠ X.env.locals ∧ (∀ x c, X.env.cells.lookup x = some c → c ≠ b) ∧ ∀ p ∈ X.pn ++ pins, p.1 ≠ b) :
    Inv X pins σ H' { s with heap := h', gens := g', drawn := d', toks := t' } := by
  obtain ⟨m, ⟨o, es, ep, ho, r⟩, _⟩ := id I.loc
  obtain ⟨sl, hL⟩ := u.any ho I.free fun z => (hch _ z).2.1 rfl
  exact I.step (ch := ch) hch (fun b o hL hb hc e n => u.keep b o e n (fun z => (List.mem_cons.mp (I.stkSub b z)).elim hL hb) hc) (fun b o _ _ hc e n => u.any e n hc) (fun b o hc e n => u.free b o e n hc) (fun b o hc e => u.there b o e hc) u.tups u.frzs u.tbls (fun m' hm => by
    obtain ⟨o', es', ep', ho', r'⟩ := hm
    rw [ho] at ho'; cases ho'
    exact ⟨_, es', ep', hL, r'⟩) hok hg
theorem Inv.turned {t' : Nat} {it : Addr} (I : Inv X pins σ H s) (k : ∀ b o, b ≠ it → s.heap.get? b = some o → h'.get? b = some o) (hn : H it = none) (hL : it ≠ X.env.locals)
    (h1 : it ∈ X.ex ∨ X.s₀.heap.objs.size ≤ it) (h2 : ∀ x c, X.env.cells.lookup x = some c → c ≠ it) (h3 : ∀ p ∈ X.pn ++ pins, p.1 ≠ it) : Inv X pins σ H { s with heap := h', toks := t' } := by
  have nit : ∀ b u, H b = some u → b ≠ it := fun b u e z => by rw [z, hn] at e; cases e
  refine I.step (g' := s.gens) (d' := s.drawn) (ch := [it]) (fun b hb => ?_) (fun b o _ _ hc e _ => k b o (fun z => hc (by simp [z])) e) (fun b o _ _ hc e _ => ⟨o.slots, k b o (fun z => hc (by simp [z])) e⟩) (fun _ _ _ _ n => n)
    (fun b o hc e => ⟨o, k b o (fun z => hc (by simp [z])) e⟩) (fun _ _ e => e) (fun _ _ _ e => e) (fun b ps e => ⟨#[], by rw [e]; simp⟩) (fun m hm => ?_) (fun b u e => ?_) I.bare
  · have e : b = it := by simpa using hb
    subst e
    exact ⟨h1, hL, h2, h3⟩
  · obtain ⟨o, es, ep, ho, r⟩ := hm
    exact ⟨o, es, ep, k _ o (Ne.symm hL) ho, r⟩
  · refine (I.hok b u e).stay (fun c v hc q => k c v ?_ q) (fun _ q => q) fun _ _ q => q
    rcases hc with z | z
    · rw [z]; exact nit b u e
    · exact nit c _ z
theorem Inv.tok (I : Inv X pins σ H s) (t : Nat) : Inv X pins σ H { s with toks := t } := I.un (h' := s.heap) (t' := t) Un.refl I.hok
theorem Inv.kept {t' : Nat} (I : Inv X pins σ H s) (k : ∀ b u, s.heap.get? b = some u → h'.get? b = some u) : Inv X pins σ H { s with heap := h', toks := t' } := I.un (Un.kept k) (I.hok.kept k)
theorem Inv.laid {a : Addr} {o : HO} {t' : Nat} (I : Inv X pins σ H s) (k : ∀ b u, s.heap.get? b = some u → h'.get? b = some u) (hp : s.heap.objs.size ≤ a) (new : ObjOk X.prog X.w (upd H a o) h' a o) :
    Inv X pins σ (upd H a o) { s with heap := h', toks := t' } := I.un (Un.laid k hp (I.hok.fresh hp)) (I.hok.laid k hp new)
theorem Inv.write {x e : Addr} {o : HO} {t' : Nat} (I : Inv X pins σ H s) (mu : Mut (H x)) (he : e = x ∨ H e = some (.own x)) (k : ∀ b u, b ≠ e → s.heap.get? b = some u → h'.get? b = some u) (heo : ∃ u, h'.get? e = some u)
    (new : ObjOk X.prog X.w (upd H x o) h' x o) : Inv X pins σ (upd H x o) { s with heap := h', toks := t' } := I.un (Un.write mu he k heo) (I.hok.write mu he k heo new)
theorem Inv.pins_of {pins' : List (Addr × Obj)} (I : Inv X pins σ H s) (h : ∀ p ∈ pins', s.heap.get? p.1 = some p.2 ∧ H p.1 = none ∧ p.1 ≠ X.env.locals ∧ p.1 ∉ X.fs ∧ ∀ v, p.2.data ≠ .cell v) : Inv X pins' σ H s :=
  ⟨I.ok, I.os, I.bare, I.base, I.loc, I.cell, I.free, I.freeC, fun p hp => (List.mem_append.mp hp).elim (fun z => I.pin p (List.mem_append_left _ z)) (h p), I.hok, I.len⟩
theorem nodup_ix {N : List Str} (hN : N.Nodup) {i j : Nat} {x : Str} (a : N[i]? = some x) (b : N[j]? = some x) : i = j := by
  obtain ⟨h1, e1⟩ := List.getElem?_eq_some_iff.mp a
  obtain ⟨h2, e2⟩ := List.getElem?_eq_some_iff.mp b
  exact (List.getElem_inj hN).mp (e1.trans e2.symm)
theorem store_ok2 {M : Model} {A : Around} {E : Value → Shared → Prop} {i : Nat} {x : Str} {v : V} {u : Value} {Q : Unit → Shared → Prop} (I : Inv X pins σ H s) (hN : X.N.Nodup) (hi : X.N[i]? = some x) (hx : Loc X.env.scope x) (r : RelV v u)
    (h : ∀ s', Inv X pins (σ.set i (some v)) H s' → (∃ a, Heap.SameBut a s.heap s'.heap ∧ (a = X.env.locals ∨ X.env.cells.lookup x = some a)) → Q () s') (hf : X.fn x = true ∨ X.env.scope.names.lookup x = some .local := by first | exact .inl rfl | exact .inr rfl | assumption) : wpAny M A (storeName X.env x u) Q E s := by
  obtain ⟨m, hn, hl⟩ := id I.loc
  have hcls : (X.env.scope.kind == .class || (X.env.scope.kind == .module && X.env.locals != X.env.globals)) = false := by rw [I.ok.kind]; rfl
  have hiσ : i < σ.length := by rw [I.len]; exact (List.getElem?_eq_some_iff.mp hi).1
  have cne := I.cne
  have tracked : ∀ {a : Addr} {h' : Heap}, (∃ o, s.heap.get? a = some o ∧ H a = none) → Heap.SameBut a s.heap h' → HOk X.prog X.w H h' := fun {a h'} ha hs b ob e => by
    obtain ⟨_, _, hfree⟩ := ha
    refine (I.hok b ob e).stay (fun c w' hc q => (hs.2 c ?_).trans q) (fun _ q => q) fun _ _ q => q
    rintro rfl
    rcases hc with rfl | hc
    · rw [hfree] at e; cases e
    · rw [hfree] at hc; cases hc
  rcases hx with hk | hk
  · refine wpAny_storeName_local hk hn (fun h' hn' hs => ?_) hcls
    obtain ⟨oL, _, _, hoL, _⟩ := id hn
    refine h _ ⟨I.ok, I.os, I.bare, ⟨fun b o e n hb hx => ?_, fun b o e n hb hx => ?_, I.base.free, fun b o e hx => ?_, I.base.tups, I.base.frzs, I.base.tbls⟩, ⟨_, hn', fun j y v' e1 e2 e3 => ?_⟩, fun y c e => ?_, I.free, I.freeC, fun p hp => ?_, tracked ⟨oL, hoL, I.free⟩ hs, by simpa using I.len⟩ ⟨_, hs, .inl rfl⟩
    · exact (hs.2 b (Nat.ne_of_lt (Nat.lt_of_lt_of_le (Heap.lt_size e) I.ok.above))).trans (I.base.keep b o e n hb hx)
    · obtain ⟨sl, e1⟩ := I.base.slot b o e n hb hx
      exact ⟨sl, (hs.2 b (Nat.ne_of_lt (Nat.lt_of_lt_of_le (Heap.lt_size e) I.ok.above))).trans e1⟩
    · obtain ⟨o', e1⟩ := I.base.there b o e hx
      exact ⟨o', (hs.2 b (Nat.ne_of_lt (Nat.lt_of_lt_of_le (Heap.lt_size e) I.ok.above))).trans e1⟩
    · by_cases hj : j = i
      · subst hj
        rw [hi] at e1; cases e1
        rw [List.getElem?_set_self hiσ] at e2
        cases e2
        exact ⟨u, r, .inl ⟨hk, by simp⟩⟩
      · rw [List.getElem?_set_ne (Ne.symm hj)] at e2
        obtain ⟨u', r', q⟩ := hl j y v' e1 e2 e3
        refine ⟨u', r', ?_⟩
        rcases q with ⟨k, e⟩ | ⟨k, c, e, z⟩
        · refine .inl ⟨k, ?_⟩
          have : y ≠ x := fun e => hj (nodup_ix hN e1 (e ▸ hi))
          simp [this, e]
        · exact .inr ⟨k, c, e, z.sameBut hs (cne y c e)⟩
    · obtain ⟨w', z⟩ := I.cell y c e
      exact ⟨w', z.sameBut hs (cne y c e)⟩
    · obtain ⟨e, n, ne, nf, d⟩ := I.pin p hp
      exact ⟨(hs.2 p.1 ne).trans e, n, ne, nf, d⟩
  · have hfn : X.fn x = true := by
      rcases hf with z | z
      · exact z
      · rw [z] at hk; cases hk
    obtain ⟨c, hc⟩ := I.ok.has x (.inl hk)
    obtain ⟨w', z⟩ := I.cell x c hc
    refine wpAny_storeName_cell I.ok.kind hk hc z (fun h' hc' hs => ?_)
    obtain ⟨oc, hoc, hocd⟩ := id z
    refine h { s with heap := h' } ⟨I.ok, I.os, I.bare, ⟨fun b o e n hb hx => ?_, fun b o e n hb hx => ?_, I.base.free, fun b o e hx => ?_, I.base.tups, I.base.frzs, I.base.tbls⟩, ⟨m, hn.sameBut hs (Ne.symm (cne x c hc)), fun j y v' e1 e2 e3 => ?_⟩, fun y c' e => ?_, I.free, I.freeC, fun p hp => ?_, tracked ⟨oc, hoc, I.freeC x c hc⟩ hs, by simpa using I.len⟩ ⟨c, hs, .inr hc⟩
    · exact (hs.2 b (Nat.ne_of_lt (Nat.lt_of_lt_of_le (Heap.lt_size e) (I.ok.cab x c hfn hc)))).trans (I.base.keep b o e n hb hx)
    · obtain ⟨sl, e1⟩ := I.base.slot b o e n hb hx
      exact ⟨sl, (hs.2 b (Nat.ne_of_lt (Nat.lt_of_lt_of_le (Heap.lt_size e) (I.ok.cab x c hfn hc)))).trans e1⟩
    · obtain ⟨o', e1⟩ := I.base.there b o e hx
      exact ⟨o', (hs.2 b (Nat.ne_of_lt (Nat.lt_of_lt_of_le (Heap.lt_size e) (I.ok.cab x c hfn hc)))).trans e1⟩
    · by_cases hj : j = i
      · subst hj
        rw [hi] at e1; cases e1
        rw [List.getElem?_set_self hiσ] at e2
        cases e2
        exact ⟨u, r, .inr ⟨.inl hk, c, hc, hc'⟩⟩
      · rw [List.getElem?_set_ne (Ne.symm hj)] at e2
        obtain ⟨u', r', q⟩ := hl j y v' e1 e2 e3
        refine ⟨u', r', ?_⟩
        rcases q with q | ⟨k, c', e, z'⟩
        · exact .inl q
        · refine .inr ⟨k, c', e, z'.sameBut hs ?_⟩
          rintro rfl
          exact hj (nodup_ix hN e1 (I.ok.inj _ _ _ e hc ▸ hi))
    · by_cases hcc : c' = c
      · subst hcc; exact ⟨_, hc'⟩
      · obtain ⟨w2, z2⟩ := I.cell y c' e
        exact ⟨w2, z2.sameBut hs hcc⟩
    · obtain ⟨e, n, ne, nf, d⟩ := I.pin p hp
      refine ⟨(hs.2 p.1 ?_).trans e, n, ne, nf, d⟩
      intro q
      rw [q, hoc] at e
      have q' : oc = p.2 := Option.some.inj e
      exact d w' (by rw [← q']; exact hocd)
theorem store_ok {M : Model} {A : Around} {E : Value → Shared → Prop} {i : Nat} {x : Str} {v : V} {u : Value} {Q : Unit → Shared → Prop} (I : Inv X pins σ H s) (hN : X.N.Nodup) (hi : X.N[i]? = some x) (hx : Loc X.env.scope x) (r : RelV v u)
    (h : ∀ s', Inv X pins (σ.set i (some v)) H s' → Q () s') (hf : X.fn x = true ∨ X.env.scope.names.lookup x = some .local := by first | exact .inl rfl | exact .inr rfl | assumption) : wpAny M A (storeName X.env x u) Q E s :=
  store_ok2 I hN hi hx r (fun s' I' _ => h s' I') hf
theorem Inv.call' {s' : Shared} {ch : List Addr} (I : Inv X pins σ H s) (ho : s'.os = s.os) (u : Un (frs X.stack) ch H H' s.heap s'.heap) (hok : HOk X.prog X.w H' s'.heap) (hg : AllBare s'.gens)
    (hch : ∀ b ∈ ch, (b ∈ X.ex ∨ X.s₀.heap.objs.size ≤ b) ∧ b ≠ X.env.locals ∧ (∀ x c, X.env.cells.lookup x = some c → c ≠ b) ∧ ∀ p ∈ X.pn ++ pins, p.1 ≠ b) : Inv X pins σ H' s' := by
  obtain ⟨h', g', d', t', o'⟩ := s'
  have e : o' = s.os := ho
  subst e
  exact I.call (g' := g') (t' := t') (d' := d') u hok hg hch
end
abbrev XK := Value → Option Addr → Hp → Prop
abbrev St := List (Option V)
abbrev VK := V → Hp → Prop
abbrev TE := St → Hp → VK → Prop
abbrev TT := St → Hp → (Bool → Hp → Prop) → Prop
abbrev TA := St → Hp → (List V → Hp → Prop) → Prop
structure Ends where
  nx : St → Hp → Prop
  rt : VK
  bk : St → Hp → Prop := fun _ _ => False
  ct : St → Hp → Prop := fun _ _ => False
abbrev TS := Ends → St → Hp → Prop
def EP (X : Cx) (pins : List (Addr × Obj)) (σ : St) (Q : VK) (u : Value) (s' : Shared) : Prop := ∃ v H', Inv X pins σ H' s' ∧ RelV v u ∧ Q v H'
def TP (X : Cx) (pins : List (Addr × Obj)) (σ : St) (Q : Bool → Hp → Prop) (b : Bool) (s' : Shared) : Prop := ∃ H', Inv X pins σ H' s' ∧ Q b H'
def AP (X : Cx) (pins : List (Addr × Obj)) (σ : St) (Q : List V → Hp → Prop) (us : List Value) (s' : Shared) : Prop := ∃ vs H', Inv X pins σ H' s' ∧ Vals vs us ∧ Q vs H'
def SP (X : Cx) (pins : List (Addr × Obj)) (D : Ends) (f : Flow) (s' : Shared) : Prop :=
  match f with
  | .next => ∃ σ' H', Inv X pins σ' H' s' ∧ D.nx σ' H'
  | .brk => ∃ σ' H', Inv X pins σ' H' s' ∧ D.bk σ' H'
  | .cont => ∃ σ' H', Inv X pins σ' H' s' ∧ D.ct σ' H'
  | .ret u => ∃ v σ' H', Inv X pins σ' H' s' ∧ RelV v u ∧ D.rt v H'
def PE (X : Cx) (e : Expr) (t : TE) : Prop :=
  ∀ (pins : List (Addr × Obj)) (s : Shared) (σ : St) (H : Hp) (Q : VK), Inv X pins σ H s → t σ H Q → wpAny (model X.prog X.w) X.A (eval e X.env) (EP X pins σ Q) X.xe s
def PT (X : Cx) (e : Expr) (t : TT) : Prop :=
  ∀ (pins : List (Addr × Obj)) (s : Shared) (σ : St) (H : Hp) (Q : Bool → Hp → Prop), Inv X pins σ H s → t σ H Q → wpAny (model X.prog X.w) X.A (isTrue e X.env (eval e X.env)) (TP X pins σ Q) X.xe s
def PW (X : Cx) (e : Expr) (t : TT) : Prop :=
  ∀ (whole : Sem Value) (pins : List (Addr × Obj)) (s : Shared) (σ : St) (H : Hp) (Q : Bool → Hp → Prop), Inv X pins σ H s → t σ H Q → wpAny (model X.prog X.w) X.A (isTrue e X.env whole) (TP X pins σ Q) X.xe s
theorem PW.pt {X : Cx} {e : Expr} {t : TT} (h : PW X e t) : PT X e t := h _
def PA (X : Cx) (es : List Expr) (t : TA) : Prop :=
  ∀ (pos : Pos) (pins : List (Addr × Obj)) (s : Shared) (σ : St) (H : Hp) (Q : List V → Hp → Prop), Inv X pins σ H s → t σ H Q → wpAny (model X.prog X.w) X.A (spliced (backTo pos (starEach es X.env))) (AP X pins σ Q) X.xe s
def PS (X : Cx) (st : Stmt) (t : TS) : Prop :=
  ∀ (pins : List (Addr × Obj)) (s : Shared) (σ : St) (H : Hp) (D : Ends), Inv X pins σ H s → t D σ H → wpAny (model X.prog X.w) X.A (exec st X.env) (SP X pins D) X.xe s
def PSs (X : Cx) (st : List Stmt) (t : TS) : Prop :=
  ∀ (pins : List (Addr × Obj)) (s : Shared) (σ : St) (H : Hp) (D : Ends), Inv X pins σ H s → t D σ H → wpAny (model X.prog X.w) X.A (execs st X.env) (SP X pins D) X.xe s
theorem thn {α : Type} {t : Sem α} {Q Q' : α → Shared → Prop} {M : Model} {A : Around} {E : Value → Shared → Prop} {s : Shared} (h : wpAny M A t Q E s) (hQ : ∀ a s, Q a s → Q' a s) : wpAny M A t Q' E s := wpAny_mono h hQ fun _ _ x => x
end L2
namespace L2
open PySem PySem.Spec PyProof.Rows
section
variable {X : Cx}
def tVar (i : Nat) : TE := fun σ H Q => ∃ v, σ[i]? = some (some v) ∧ Q v H
def tC (v : V) : TE := fun _ H Q => Q v H
theorem pe_var {i : Nat} {x : Str} {pos : Pos} (hN : X.N[i]? = some x) (hv : Vis X.env.scope x) (hd : (x == ("__debug__" : Str)) = false := by decide) (hcd : (x == ("__classdict__" : Str)) = false := by decide) : PE X (.Name x pos) (tVar i) := by
  intro pins s σ H Q I h
  obtain ⟨v, e, h⟩ := h
  obtain ⟨m, hn, hl⟩ := I.loc
  obtain ⟨u, r, l⟩ := hl i x v hN e hv
  have fin : EP X pins σ Q u s := ⟨v, H, I, r, h⟩
  rcases l with ⟨hk, hm⟩ | ⟨hk, c, hc, hcell⟩
  · exact wpAny_Name (wpAny_loadName_local I.ok.kind hk hn hm fin) hd
  · rcases hk with hk | hk
    · exact wpAny_Name (wpAny_loadName_cell I.ok.kind hk hc hcell fin) hd
    · exact wpAny_Name (wpAny_loadName_free I.ok.kind hk hc hcell fin hcd) hd
theorem pe_int {i j pos} : PE X (.Constant (.int i) j pos) (tC (.int i)) := fun _ _ _ H _ I h => wpAny_Constant_int ⟨.int i, H, I.tok _, ⟨_, rfl⟩, h⟩
theorem pe_bl {b j pos} : PE X (.Constant (.bool b) j pos) (tC (.bl b)) := fun _ _ _ H _ I h => Constant_bool ⟨.bl b, H, I, rfl, h⟩
theorem pe_non {j pos} : PE X (.Constant .none j pos) (tC .non) := fun _ _ _ H _ I h => Constant_none ⟨.non, H, I, rfl, h⟩
theorem pe_str {x j pos} : PE X (.Constant (.str x) j pos) (tC (.str x)) := fun _ _ _ H _ I h => Calls.Constant_str ⟨.str x, H, I.tok _, ⟨_, rfl⟩, h⟩
def Gl (X : Cx) (x : Str) : Prop := X.env.kindOf x = some .globalImplicit
theorem ld_glob {E : Value → Shared → Prop} {pins : List (Addr × Obj)} {s : Shared} {σ : St} {H : Hp} {x : Str} {u : Value} {pos : Pos} {Q : Value → Shared → Prop} (I : Inv X pins σ H s) (hg : Gl X x) (hm : X.mg x = some u) (h : Q u s)
    (hd : (x == ("__debug__" : Str)) = false := by decide) : wpAny (model X.prog X.w) X.A (eval (.Name x pos) X.env) Q E s :=
  Calls.Name_function_global I.ok.kind hg (Calls.loadGlobal_global (by rw [I.ok.glob]; exact I.mod.glob.keeps I.bk) hm h) hd
theorem ld_blt {E : Value → Shared → Prop} {pins : List (Addr × Obj)} {s : Shared} {σ : St} {H : Hp} {x : Str} {u : Value} {pos : Pos} {Q : Value → Shared → Prop} (I : Inv X pins σ H s) (hg : Gl X x) (hm : X.mg x = none) (hv : bootBuiltins x = some u) (h : Q u s)
    (hn : x ≠ "__name__" := by decide) (hd : (x == ("__debug__" : Str)) = false := by decide) : wpAny (model X.prog X.w) X.A (eval (.Name x pos) X.env) Q E s := by
  obtain ⟨mb, h1, h2⟩ := I.mod.blt
  exact Calls.Name_function_global I.ok.kind hg (Calls.loadGlobal_builtin (by rw [I.ok.glob]; exact I.mod.glob.keeps I.bk) hm (by rw [I.ok.blt]; exact h1.keeps I.bk) ((h2 x hn).trans hv) h) hd
theorem pe_glob {x : Str} {v : V} {u : Value} {pos : Pos} (hg : Gl X x) (hm : X.mg x = some u) (r : RelV v u) (hd : (x == ("__debug__" : Str)) = false := by decide) : PE X (.Name x pos) (tC v) :=
  fun _ _ _ H _ I h => ld_glob I hg hm ⟨v, H, I, r, h⟩ hd
theorem pe_bltn {x : Str} {v : V} {u : Value} {pos : Pos} (hg : Gl X x) (hm : X.mg x = none) (hv : bootBuiltins x = some u) (r : RelV v u) (hn : x ≠ "__name__" := by decide) (hd : (x == ("__debug__" : Str)) = false := by decide) : PE X (.Name x pos) (tC v) :=
  fun _ _ _ H _ I h => ld_blt I hg hm hv ⟨v, H, I, r, h⟩ hn hd
variable {a b : Expr} {ta tb : TE} {pos : Pos}
def tB (t : TE) : TT := fun σ H Q => t σ H fun x H1 => ∃ c, x = .bl c ∧ Q c H1
theorem pt_val {e : Expr} {t : TE} (h : PE X e t) (he : ∀ whole, isTrue e X.env whole = (do let v ← whole; standAt e.pos; holding [v] (truthy v)) := by intro _; rfl) : PT X e (tB t) := by
  intro pins s σ H Q I hw
  refine isTrue_plain (thn (h pins s σ H _ I hw) fun v s1 ⟨x, H1, I1, r1, q1⟩ => ?_) (he _)
  obtain ⟨d, rfl, q⟩ := q1
  cases r1
  exact wpAny_truthy_bool ⟨H1, I1, q⟩
variable {tA tB' : TT} {rest : List Expr}
def tAnd (t u : TT) : TT := fun σ H Q => t σ H fun c H1 => if c = true then u σ H1 Q else Q false H1
def tOr (t u : TT) : TT := fun σ H Q => t σ H fun c H1 => if c = true then Q true H1 else u σ H1 Q
def tNot (t : TT) : TT := fun σ H Q => t σ H fun c H1 => Q (!c) H1
theorem pw_and1 (ha : PT X a tA) : PW X (.BoolOp .And [a] pos) tA := by
  intro wh pins s σ H Q I h
  refine isTrue_and (thn (ha pins s σ H Q I h) fun c s1 e => ?_)
  cases c with
  | true => exact isTrue_and_nil e
  | false => exact e
theorem pw_or1 (ha : PT X a tA) : PW X (.BoolOp .Or [a] pos) tA := by
  intro wh pins s σ H Q I h
  refine isTrue_or (thn (ha pins s σ H Q I h) fun c s1 e => ?_)
  cases c with
  | false => exact isTrue_or_nil e
  | true => exact e
theorem pw_and (ha : PT X a tA) (hb : PW X (.BoolOp .And (b :: rest) pos) tB') : PW X (.BoolOp .And (a :: b :: rest) pos) (tAnd tA tB') := by
  intro wh pins s σ H Q I h
  refine isTrue_and (thn (ha pins s σ H _ I h) fun c s1 ⟨H1, I1, q1⟩ => ?_)
  cases c with
  | true => exact hb wh pins s1 σ H1 Q I1 q1
  | false => exact ⟨H1, I1, q1⟩
theorem pw_or (ha : PT X a tA) (hb : PW X (.BoolOp .Or (b :: rest) pos) tB') : PW X (.BoolOp .Or (a :: b :: rest) pos) (tOr tA tB') := by
  intro wh pins s σ H Q I h
  refine isTrue_or (thn (ha pins s σ H _ I h) fun c s1 ⟨H1, I1, q1⟩ => ?_)
  cases c with
  | true => exact ⟨H1, I1, q1⟩
  | false => exact hb wh pins s1 σ H1 Q I1 q1
theorem pt_not (ha : PT X a tA) : PT X (.UnaryOp .Not a pos) (tNot tA) := by
  intro pins s σ H Q I h
  exact isTrue_not (ha pins s σ H (fun c H1 => Q (!c) H1) I h)
def tAndV (ta tb : TE) : TE := fun σ H Q => ta σ H fun x H1 => ∃ c, x = .bl c ∧ if c = true then tb σ H1 Q else Q (.bl false) H1
def tNotV (ta : TE) : TE := fun σ H Q => ta σ H fun x H1 => ∃ c, x = .bl c ∧ Q (.bl (!c)) H1
theorem pe_one {op} {t : TE} (h : PE X a t) : PE X (.BoolOp op [a] pos) t := fun pins s σ H Q I hw => BoolOp_one (h pins s σ H Q I hw)
theorem pe_and (ha : PE X a ta) (hb : PE X (.BoolOp .And (b :: rest) pos) tb) : PE X (.BoolOp .And (a :: b :: rest) pos) (tAndV ta tb) := by
  intro pins s σ H Q I h
  refine BoolOp_and (thn (ha pins s σ H _ I h) fun v s1 ⟨x, H1, I1, r1, q1⟩ => ?_)
  obtain ⟨c, rfl, q1⟩ := q1
  cases r1
  refine wpAny_truthy_bool ?_
  cases c with
  | true => exact hb pins s1 σ H1 Q I1 q1
  | false => exact ⟨.bl false, H1, I1, rfl, q1⟩
theorem pe_not (ha : PE X a ta) : PE X (.UnaryOp .Not a pos) (tNotV ta) := by
  intro pins s σ H Q I h
  refine UnaryOp_ (thn (ha pins s σ H _ I h) fun v s1 ⟨x, H1, I1, r1, q1⟩ => ?_)
  obtain ⟨c, rfl, q1⟩ := q1
  cases r1
  exact not_of (wpAny_truthy_bool ⟨.bl (!c), H1, I1, rfl, q1⟩)
end
end L2
namespace L2
open PySem PySem.Spec PyProof.Rows
def SqL (K : PySem.W.Frag) (H : Hp) (a : Addr) (xs : List V) : Prop :=
  Rd H a (.lst xs) ∨
    ∃ (o : Obj) (its : Array Value) (n : Nat), K.lookup a = some o ∧ o.cls = .type "list" ∧ o.dict = none ∧ o.data = .seq its n ∧ its.size ≤ sizeLine ∧ Vals xs its.toList
def SqT (K : PySem.W.Frag) (H : Hp) (a : Addr) (xs : List V) : Prop :=
  Rd H a (.tup xs) ∨
    ∃ (o : Obj) (its : Array Value) (n : Nat), K.lookup a = some o ∧ o.cls = .type "tuple" ∧ o.data = .seq its n ∧ its.size ≤ sizeLine ∧ Vals xs its.toList
def absV : Value → Option V
  | .none => some .non
  | .bool b => some (.bl b)
  | .int i _ => some (.int i)
  | .str x _ => some (.str x)
  | .bytes b _ => some (.byt b)
  | .float b _ => some (.flt b)
  | .ref a => some (.ref a)
  | .type n => some (.ty n)
  | _ => none
theorem RelV.abs {x : V} {u : Value} (r : RelV x u) : absV u = some x := by
  cases x with
  | non => cases r; rfl
  | bl _ => cases r; rfl
  | int _ => obtain ⟨t, rfl⟩ := r; rfl
  | str _ => obtain ⟨t, rfl⟩ := r; rfl
  | byt _ => obtain ⟨t, rfl⟩ := r; rfl
  | flt _ => obtain ⟨t, rfl⟩ := r; rfl
  | ref _ => cases r; rfl
  | ty _ => cases r; rfl
theorem RelV.inj {x y : V} {u : Value} (r : RelV x u) (q : RelV y u) : x = y := Option.some.inj (r.abs.symm.trans q.abs)
theorem Vals.inj : ∀ {xs ys : List V} {us : List Value}, Vals xs us → Vals ys us → xs = ys
  | _, _, _, .nil, .nil => rfl
  | _, _, _, .cons r t, .cons r' t' => by rw [r.inj r', Vals.inj t t']
section
variable {X : Cx} {pins : List (Addr × Obj)} {σ : St} {H : Hp} {s : Shared} {a : Addr} {xs ys : List V}
theorem SqL.of {K : PySem.W.Frag} (h : H a = some (.lst xs)) : SqL K H a xs := .inl (.inl h)
theorem SqT.of {K : PySem.W.Frag} (h : H a = some (.tup xs)) : SqT K H a xs := .inl (.inl h)
theorem Inv.list (I : Inv X pins σ H s) (h : SqL X.K H a xs) : ∃ its : List Value, Vals xs its ∧ PlainL s.heap a its.toArray ∧ xs.length ≤ sizeLine := by
  rcases h with h | ⟨o, its, n, hk, hc, hd, hs, hz, r⟩
  · obtain ⟨z, its, n, r, e⟩ := h.ok I.hok
    exact ⟨its, r, ⟨_, n, e, rfl, rfl, rfl⟩, z⟩
  · refine ⟨its.toList, r, ⟨o, n, I.kIn a o hk, hc, hd, by simpa using hs⟩, ?_⟩
    have e := r.length
    simp only [Array.length_toList] at e
    omega
theorem Inv.tuple (I : Inv X pins σ H s) (h : SqT X.K H a xs) : ∃ its : List Value, Vals xs its ∧ IsTup s.heap a its.toArray ∧ xs.length ≤ sizeLine := by
  rcases h with h | ⟨o, its, n, hk, hc, hs, hz, r⟩
  · obtain ⟨z, its, r, p⟩ := h.ok I.hok
    exact ⟨its, r, p, z⟩
  · refine ⟨its.toList, r, ⟨o, I.kIn a o hk, hc, n, by simpa using hs⟩, ?_⟩
    have e := r.length
    simp only [Array.length_toList] at e
    omega
theorem Inv.list_inj (I : Inv X pins σ H s) (h : SqL X.K H a xs) (h' : SqL X.K H a ys) : xs = ys := by
  obtain ⟨its, r, ⟨o, n, e, _, _, d⟩, _⟩ := I.list h
  obtain ⟨its', r', ⟨o', n', e', _, _, d'⟩, _⟩ := I.list h'
  rw [e] at e'; cases e'
  rw [d] at d'
  injection d' with d1 _
  have : its = its' := by simpa using congrArg Array.toList d1
  subst this
  exact r.inj r'
end
abbrev Cx.wish (X : Cx) (E : Value → Shared → Prop) : Cx := { X with xe := E }
abbrev Cx.nox (X : Cx) : Cx := X.wish fun _ _ => False
theorem Cx.Ok.wish {X : Cx} (ok : X.Ok) (E : Value → Shared → Prop) : (X.wish E).Ok :=
  ⟨ok.mod, ok.kind, ok.glob, ok.blt, ok.above, ok.inj, ok.has, ok.cab, ok.hd, ok.frames, ok.stk, ok.exf, ok.bs, ok.bsz, ok.noex, ok.exfs, ok.funs, ok.frf⟩
theorem Cx.Ok.unwish {X : Cx} {E : Value → Shared → Prop} (ok : (X.wish E).Ok) : X.Ok :=
  ⟨ok.mod, ok.kind, ok.glob, ok.blt, ok.above, ok.inj, ok.has, ok.cab, ok.hd, ok.frames, ok.stk, ok.exf, ok.bs, ok.bsz, ok.noex, ok.exfs, ok.funs, ok.frf⟩
section
variable {X : Cx} {pins : List (Addr × Obj)} {σ : St} {H : Hp} {s : Shared} {E : Value → Shared → Prop}
theorem Inv.wish (I : Inv X pins σ H s) (E : Value → Shared → Prop) : Inv (X.wish E) pins σ H s := ⟨I.ok.wish E, I.os, I.bare, I.base, I.loc, I.cell, I.free, I.freeC, I.pin, I.hok, I.len⟩
theorem Inv.unwish (I : Inv (X.wish E) pins σ H s) : Inv X pins σ H s := ⟨I.ok.unwish, I.os, I.bare, I.base, I.loc, I.cell, I.free, I.freeC, I.pin, I.hok, I.len⟩
theorem SP.unwish {D : Ends} {f : Flow} {s' : Shared} (h : SP (X.wish E) pins D f s') : SP X pins D f s' := by
  cases f with
  | next => obtain ⟨σ', H', I, q⟩ := h; exact ⟨σ', H', I.unwish, q⟩
  | brk => obtain ⟨σ', H', I, q⟩ := h; exact ⟨σ', H', I.unwish, q⟩
  | cont => obtain ⟨σ', H', I, q⟩ := h; exact ⟨σ', H', I.unwish, q⟩
  | ret u => obtain ⟨v, σ', H', I, r, q⟩ := h; exact ⟨v, σ', H', I.unwish, r, q⟩
theorem PSs.nox {st : List Stmt} {t : TS} (h : PSs X.nox st t) : PSs X st t := fun pins s σ H D I hw =>
  wpAny_mono (h pins s σ H D (I.wish _) hw) (fun _ _ q => q.unwish) fun _ _ z => False.elim z
end
section
variable {X : Cx} {st : Stmt} {rest : List Stmt} {t u : TS} {e : Expr} {te : TE} {pos : Pos}
def tNext : TS := fun D σ H => D.nx σ H
def tSeq (t u : TS) : TS := fun D σ H => t { D with nx := u D } σ H
theorem pss_nil : PSs X [] tNext := fun _ _ σ H _ I h => wpAny_execs_nil ⟨σ, H, I, h⟩
theorem pss_cons (h1 : PS X st t) (h2 : PSs X rest u) : PSs X (st :: rest) (tSeq t u) := by
  intro pins s σ H D I h
  refine wpAny_execs_cons (thn (h1 pins s σ H { D with nx := u D } I h) fun f s1 q => ?_)
  cases f with
  | next =>
    obtain ⟨σ', H', I', q⟩ := q
    exact h2 pins s1 σ' H' D I' q
  | ret v => exact q
  | brk => exact q
  | cont => exact q
theorem pss_one (h1 : PS X st t) : PSs X [st] t := by
  intro pins s σ H D I h
  refine wpAny_execs_cons (thn (h1 pins s σ H D I h) fun f s1 q => ?_)
  cases f with
  | next => exact wpAny_execs_nil q
  | ret v => exact q
  | brk => exact q
  | cont => exact q
theorem Inv.quiet {pins : List (Addr × Obj)} {σ : St} {H : Hp} {s : Shared} (I : Inv X pins σ H s) : interactive X.env = false := by simp [interactive, I.ok.kind]
def tDrop (te : TE) : TS := fun D σ H => te σ H fun _ H1 => D.nx σ H1
theorem ps_expr (he : PE X e te) (hs : swapsWith e none pos.line X.env = pure false := by rfl) : PS X (.Expr e pos) (tDrop te) := by
  intro pins s σ H D I h
  exact wpAny_Expr_any (thn (he pins s σ H _ I h) fun v s1 ⟨x, H1, I1, r1, q1⟩ => ⟨σ, H1, I1, q1⟩) I.quiet hs
def tRet (te : TE) : TS := fun D σ H => te σ H D.rt
theorem ps_ret (he : PE X e te) : PS X (.Return (some e) pos) (tRet te) := by
  intro pins s σ H D I h
  exact wpAny_Return_some (thn (he pins s σ H _ I h) fun v s1 ⟨x, H1, I1, r1, q1⟩ => ⟨x, σ, H1, I1, r1, q1⟩)
def tIfS (c : TT) (t u : TS) : TS := fun D σ H => c σ H fun b H1 => if b = true then t D σ H1 else u D σ H1
theorem ps_if {c : Expr} {a b : List Stmt} {tc : TT} (hc : PT X c tc) (ha : PSs X a t) (hb : PSs X b u) : PS X (.If c a b pos) (tIfS tc t u) := by
  intro pins s σ H D I h
  refine wpAny_If (thn (hc pins s σ H _ I h) fun d s1 ⟨H1, I1, q1⟩ => ?_)
  cases d with
  | true => exact ha pins s1 σ H1 D I1 q1
  | false => exact hb pins s1 σ H1 D I1 q1
end
abbrev TG := V → St → Hp → (St → Hp → Prop) → Prop
def PG (X : Cx) (target : Expr) (t : TG) : Prop :=
  ∀ (pins : List (Addr × Obj)) (s : Shared) (σ : St) (H : Hp) (v : V) (u : Value) (Q : St → Hp → Prop), Inv X pins σ H s → RelV v u → t v σ H Q →
    wpAny (model X.prog X.w) X.A (assign target X.env u) (fun _ s' => ∃ σ' H', Inv X pins σ' H' s' ∧ Q σ' H') X.xe s
abbrev TSet := V → V → V → Hp → (Hp → Prop) → Prop
def PSet (X : Cx) (t : TSet) : Prop :=
  ∀ (pins : List (Addr × Obj)) (s : Shared) (σ : St) (H : Hp) (o i v : V) (ov iv u : Value) (Q : Hp → Prop), Inv X pins σ H s → RelV o ov → RelV i iv → RelV v u → t o i v H Q →
    wpAny (model X.prog X.w) X.A (setItem ov iv u) (fun _ s' => ∃ H', Inv X pins σ H' s' ∧ Q H') X.xe s
abbrev TIp := V → V → Hp → VK → Prop
def PIp (X : Cx) (op : Operator) (t : TIp) : Prop :=
  ∀ (pins : List (Addr × Obj)) (s : Shared) (σ : St) (H : Hp) (x y : V) (v u : Value) (Q : VK), Inv X pins σ H s → RelV x v → RelV y u → t x y H Q →
    wpAny (model X.prog X.w) X.A (inplaceOp op v u) (EP X pins σ Q) X.xe s
section
variable {X : Cx} {pos : Pos}
def gName (i : Nat) : TG := fun v σ H Q => Q (σ.set i (some v)) H
theorem pg_name {i : Nat} {x : Str} (hN : X.N.Nodup) (hi : X.N[i]? = some x) (hx : Loc X.env.scope x) (hf : X.fn x = true ∨ X.env.scope.names.lookup x = some .local := by first | exact .inl rfl | exact .inr rfl | assumption) : PG X (.Name x pos) (gName i) := by
  intro pins s σ H v u Q I r h
  exact wpAny_assign_Name (store_ok I hN hi hx r (fun s' I' => ⟨_, H, I', h⟩) hf)
def gSub (to ti : TE) (t : TSet) : TG := fun v σ H Q => to σ H fun o H1 => ti σ H1 fun i H2 => t o i v H2 fun H3 => Q σ H3
theorem pg_sub {o i : Expr} {to ti : TE} {t : TSet} (ho : PE X o to) (hi : PE X i ti) (hs : PSet X t)
    (ha : ∀ v, assign (.Subscript o i pos) X.env v = (do
      let ov ← holding [v] (eval o X.env)
      let iv ← holding [v, ov] (eval i X.env)
      standAt pos
      holding [v, ov, iv] (setItem ov iv v)
      release [v, ov, iv] []) := by intro _; rfl) : PG X (.Subscript o i pos) (gSub to ti t) := by
  intro pins s σ H v u Q I r h
  rw [ha]
  refine wpAny_bind (wpAny_holding (thn (ho pins s σ H _ I h) fun ov s1 ⟨x, H1, I1, r1, q1⟩ => ?_))
  refine wpAny_bind (wpAny_holding (thn (hi pins s1 σ H1 _ I1 q1) fun iv s2 ⟨y, H2, I2, r2, q2⟩ => ?_))
  refine wpAny_bind (wpAny_standAt (wpAny_bind (wpAny_holding (thn (hs pins s2 σ H2 x y v ov iv u _ I2 r1 r2 r q2) fun _ s3 ⟨H3, I3, q3⟩ => ?_))))
  exact wpAny_release ⟨σ, H3, I3, q3⟩
def tAsg (te : TE) (g : TG) : TS := fun D σ H => te σ H fun x H1 => g x σ H1 D.nx
theorem ps_asg {tg e : Expr} {te : TE} {g : TG} (he : PE X e te) (hg : PG X tg g) (hs : swapsWithSole [tg] e pos.line X.env = pure false := by rfl) (hw : swappedStores [tg] e X.env = pure none := by rfl)
    (h1 : (assignEach [tg] X.env).map (·.2) = [assign tg X.env] := by rfl) : PS X (.Assign [tg] e pos) (tAsg te g) := by
  intro pins s σ H D I h
  refine wpAny_Assign_stores (thn (he pins s σ H _ I h) fun v s1 ⟨x, H1, I1, r1, q1⟩ => ?_) hs hw
  rw [h1]
  exact thn (hg pins s1 σ H1 x v _ I1 r1 q1) fun _ s2 q => q
theorem ps_set {i : Nat} {x : Str} {e : Expr} {te : TE} {pos' : Pos} (hN : X.N.Nodup) (hi : X.N[i]? = some x) (hx : Loc X.env.scope x) (he : PE X e te) (hs : swapsWith e (some (.Name x pos')) pos.line X.env = pure false := by rfl) (hf : X.fn x = true ∨ X.env.scope.names.lookup x = some .local := by first | exact .inl rfl | exact .inr rfl | assumption) :
    PS X (.Assign [.Name x pos'] e pos) (tAsg te (gName i)) := by
  intro pins s σ H D I h
  refine wpAny_Assign_Name (thn (he pins s σ H _ I h) fun v s1 ⟨y, H1, I1, r1, q1⟩ => ?_) hs
  exact store_ok I1 hN hi hx r1 (fun s2 I2 => ⟨_, H1, I2, q1⟩) hf
def tAugS (to ti te : TE) (tget : V → V → Hp → VK → Prop) (tip : TIp) (tset : TSet) : TS := fun D σ H => to σ H fun o H1 => ti σ H1 fun i H2 => tget o i H2 fun x H3 => te σ H3 fun y H4 => tip x y H4 fun z H5 => tset o i z H5 fun H6 => D.nx σ H6
def PGet (X : Cx) (t : V → V → Hp → VK → Prop) : Prop :=
  ∀ (pins : List (Addr × Obj)) (s : Shared) (σ : St) (H : Hp) (o i : V) (ov iv : Value) (Q : VK), Inv X pins σ H s → RelV o ov → RelV i iv → t o i H Q →
    wpAny (model X.prog X.w) X.A (getItem ov iv) (EP X pins σ Q) X.xe s
theorem ps_augS {o i e : Expr} {to ti te : TE} {tget : V → V → Hp → VK → Prop} {tip : TIp} {tset : TSet} {op : Operator} {tpos : Pos} (ho : PE X o to) (hi : PE X i ti) (hg : PGet X tget) (he : PE X e te) (hp : PIp X op tip) (hs : PSet X tset)
    (ha : ∀ ov iv new, augStore i ov iv new = (do holding [new, ov, iv] (setItem ov iv new); release [new, ov, iv] []; pure .next) := by intros; rfl) : PS X (.AugAssign (.Subscript o i tpos) op e pos) (tAugS to ti te tget tip tset) := by
  intro pins s σ H D I h
  refine wpAny_AugAssign_SubscriptAny (thn (ho pins s σ H _ I h) fun ov s1 ⟨x1, H1, I1, r1, q1⟩ => ?_) ha
  refine thn (hi pins s1 σ H1 _ I1 q1) fun iv s2 ⟨x2, H2, I2, r2, q2⟩ => ?_
  refine thn (hg pins s2 σ H2 x1 x2 ov iv _ I2 r1 r2 q2) fun old s3 ⟨x3, H3, I3, r3, q3⟩ => ?_
  refine thn (he pins s3 σ H3 _ I3 q3) fun v s4 ⟨x4, H4, I4, r4, q4⟩ => ?_
  refine thn (hp pins s4 σ H4 x3 x4 old v _ I4 r3 r4 q4) fun new s5 ⟨x5, H5, I5, r5, q5⟩ => ?_
  exact thn (hs pins s5 σ H5 x1 x2 x5 ov iv new _ I5 r1 r2 r5 q5) fun _ s6 ⟨H6, I6, q6⟩ => ⟨σ, H6, I6, q6⟩
def ipI (f : Int → Int → Int) : TIp := fun x y H Q => ∃ i j, x = .int i ∧ y = .int j ∧ Q (.int (f i j)) H
theorem ip_add : PIp X .Add (ipI fun i j => i + j) := by
  intro pins s σ H x y v u Q I r1 r2 h
  obtain ⟨i, j, e1, e2, q⟩ := h
  subst e1; subst e2
  obtain ⟨t, rfl⟩ := r1
  obtain ⟨t', rfl⟩ := r2
  exact iadd_int ⟨.int _, H, I.tok _, ⟨_, rfl⟩, q⟩
end
structure It where
  go : Nat → Hp → Prop
  yld : Nat → Hp → V → Hp → Prop
  stop : Nat → Hp → Prop
def FpOk (X : Cx) (pins : List (Addr × Obj)) (H : Hp) (b : Addr) : Prop :=
  H b = none ∧ b ≠ X.env.locals ∧ b ∉ X.fs ∧ (b ∈ X.ex ∨ X.s₀.heap.objs.size ≤ b) ∧ (∀ x c, X.env.cells.lookup x = some c → c ≠ b) ∧ ∀ p ∈ X.pn ++ pins, p.1 ≠ b
theorem Inv.fpOk {X : Cx} {pins : List (Addr × Obj)} {σ : St} {H H' : Hp} {s : Shared} {b : Addr} (I : Inv X pins σ H s) (hb : s.heap.objs.size ≤ b) (hn : H' b = none) : FpOk X pins H' b := by
  refine ⟨hn, Nat.ne_of_gt (Nat.lt_of_lt_of_le I.lt hb), I.nofs hb, .inr (Nat.le_trans I.sz hb), fun x c e z => ?_, fun p hp z => ?_⟩
  · obtain ⟨v, q⟩ := I.cell x c e
    exact absurd (Nat.lt_of_lt_of_le q.lt (by rw [z]; exact hb)) (Nat.lt_irrefl _)
  · exact absurd (Nat.lt_of_lt_of_le (Heap.lt_size (I.pin p hp).1) (by rw [z]; exact hb)) (Nat.lt_irrefl _)
structure Turn (P : Program) (w : World) (K : PySem.W.Frag) (tg : Expr) (J : It) (fp : List Addr) (it : Addr) (tn : Nat → Heap → Prop) : Prop where
  mem : it ∈ fp
  obj : ∀ i h, tn i h → ∀ b ∈ fp, ∃ o, h.get? b = some o ∧ ∀ v, o.data ≠ .cell v
  keep : ∀ i h h', tn i h → (∀ b ∈ fp, ∀ o, h.get? b = some o → h'.get? b = some o) → tn i h'
  item : ∀ (X : Cx), X.prog = P → X.w = w → X.K = K → X.calm = true → ∀ (i : Nat) (pins : List (Addr × Obj)) (s : Shared) (σ : St) (H : Hp) (E : Value → Shared → Prop), Inv X pins σ H s → (∀ b ∈ fp, FpOk X pins H b) → tn i s.heap → J.go i H →
    wpAny (model P w) X.A (pyNext (.ref it)) (fun r s1 => ∃ u, r = some u ∧
      wpAny (model P w) X.A (letOwnedTupleGo tg (.ref it) u) (fun _ s2 => ∃ x H', Inv X pins σ H' s2 ∧ RelV x u ∧ J.yld i H x H' ∧ tn (i + 1) s2.heap ∧ ∀ b ∈ fp, H' b = none) E s1) E s
  done : ∀ (X : Cx), X.prog = P → X.w = w → X.K = K → X.calm = true → ∀ (i : Nat) (pins : List (Addr × Obj)) (s : Shared) (σ : St) (H : Hp) (E : Value → Shared → Prop), Inv X pins σ H s → (∀ b ∈ fp, FpOk X pins H b) → tn i s.heap → J.stop i H →
    wpAny (model P w) X.A (pyNext (.ref it)) (fun r s1 => r = none ∧ Inv X pins σ H s1) E s
  self : ∀ (A : Around) (i : Nat) (s : Shared) (Q : Value → Shared → Prop) (E : Value → Shared → Prop), tn i s.heap → Q (.ref it) s → wpAny (model P w) A (pyIter (.ref it)) Q E s
abbrev TI := St → Hp → (It → Hp → Prop) → Prop
def PIE (X : Cx) (pins : List (Addr × Obj)) (σ : St) (tg : Expr) (R : It → Hp → Prop) (itv : Value) (s2 : Shared) : Prop :=
  ∃ (it : Addr) (fp : List Addr) (tn : Nat → Heap → Prop) (J : It) (H' : Hp), itv = .ref it ∧ Inv X pins σ H' s2 ∧ Turn X.prog X.w X.K tg J fp it tn ∧ tn 0 s2.heap ∧ (∀ b ∈ fp, FpOk X pins H' b) ∧ R J H'
def PI (X : Cx) (tg iter : Expr) (wi : TI) : Prop :=
  ∀ (pins : List (Addr × Obj)) (s : Shared) (σ : St) (H : Hp) (R : It → Hp → Prop), Inv X pins σ H s → wi σ H R →
    wpAny (model X.prog X.w) X.A (eval iter X.env) (fun v s1 => wpAny (model X.prog X.w) X.A (pyIter v) (PIE X pins σ tg R) X.xe s1) X.xe s
theorem go_of {M : Model} {A : Around} {E : Value → Shared → Prop} {s : Shared} {tg : Expr} {it : Addr} {u : Value} {o : Obj} {n : String} {vs : Array Value} {Q : Unit → Shared → Prop} (ho : s.heap.get? it = some o) (hc : o.cls = .type n) (hd : o.data = .fields vs)
    (hn : ["enumerate", "zip", "dict_itemiterator", "dict_reverseitemiterator", "odict_iterator", "itertools.zip_longest", "itertools.pairwise"].contains n = false) (hQ : Q () s) : wpAny M A (letOwnedTupleGo tg (.ref it) u) Q E s := by
  unfold letOwnedTupleGo
  cases tg <;> first
    | exact wpAny_pure hQ
    | (cases u <;> first
        | exact wpAny_pure hQ
        | (refine wpAny_bind (wpAny_load ho ?_)
           rw [hc, hd]
           show wpAny M A (if (["enumerate", "zip", "dict_itemiterator", "dict_reverseitemiterator", "odict_iterator", "itertools.zip_longest", "itertools.pairwise"].contains n && vs[0]? == some (rawInt _)) = true then _ else _) Q E s
           rw [if_neg (by intro h; rw [hn, Bool.false_and] at h; cases h)]
           exact wpAny_pure hQ))
def Itl (K : PySem.W.Frag) (a : Addr) : It :=
  ⟨fun i H => ∃ xs x, SqL K H a xs ∧ xs[i]? = some x, fun i H x H' => H' = H ∧ ∀ xs, SqL K H a xs → xs[i]? = some x, fun i H => ∃ xs, SqL K H a xs ∧ xs.length ≤ i⟩
def Itr (lo : Int) (n : Nat) : It := ⟨fun i _ => i < n, fun i H x H' => H' = H ∧ x = .int (lo + i), fun i _ => n ≤ i⟩
theorem turn_list {P : Program} {w : World} {K : PySem.W.Frag} {tg : Expr} (a it : Addr) : Turn P w K tg (Itl K a) [it] it (fun i h => h.IsListIter it a i) where
  mem := by simp
  obj := fun i h st b hb => by
    have e : b = it := by simpa using hb
    subst e
    obtain ⟨o, e, c, d⟩ := st
    exact ⟨o, e, fun v z => by rw [d] at z; cases z⟩
  keep := fun i h h' st k => st.at fun o e => k it (by simp) o e
  item := by
    intro X hP hw hK hc i pins s σ H E I hf st hg
    subst hP hw hK
    obtain ⟨xs, x, hq, hx⟩ := hg
    obtain ⟨its, rv, p, hz⟩ := I.list hq
    obtain ⟨u, hu, ru⟩ := rv.get hx
    obtain ⟨f0, f1, f2, f3, f4, f5⟩ := hf it (by simp)
    refine wpAny_pyNext_list_item st p.isList (x := u) (by simpa using hu) fun h' st' sb => ?_
    have I1 : Inv X pins σ H { s with heap := h' } := I.turned (t' := s.toks) (fun b o hb e => (sb.2 b hb).trans e) f0 f1 f3 f4 f5
    obtain ⟨o, e, c, d⟩ := id st'
    exact ⟨u, rfl, go_of (s := { s with heap := h' }) e c d (by decide) ⟨x, H, I1, ru, ⟨rfl, fun ys hy => by rw [I.list_inj hy hq]; exact hx⟩, st', fun b hb => (hf b hb).1⟩⟩
  done := by
    intro X hP hw hK hc i pins s σ H E I hf st hg
    subst hP hw hK
    obtain ⟨xs, hq, hx⟩ := hg
    obtain ⟨its, rv, p, hz⟩ := I.list hq
    obtain ⟨f0, f1, f2, f3, f4, f5⟩ := hf it (by simp)
    have hl := rv.length
    exact wpAny_pyNext_list_end (I.ok.hd hc) st p.isList (by simp; omega) fun h' eb => ⟨rfl, I.turned (t' := s.toks) (fun b o hb e => eb b o hb e) f0 f1 f3 f4 f5⟩
  self := fun _ _ _ _ _ st h => wpAny_pyIter_listiter st h
theorem turn_range {P : Program} {w : World} {K : PySem.W.Frag} {tg : Expr} (it : Addr) (lo : Int) (n : Nat) : Turn P w K tg (Itr lo n) [it] it (fun i h => IsRangeIter h it (lo + (i : Nat) * 1) ((n : Int) - (i : Nat)) 1) where
  mem := by simp
  obj := fun i h st b hb => by
    have e : b = it := by simpa using hb
    subst e
    exact ⟨_, st, fun v z => by
      have z' : Data.fields _ = Data.cell v := z
      cases z'⟩
  keep := fun i h h' st k => k it (by simp) _ st
  item := by
    intro X hP hw hK hc i pins s σ H E I hf st hg
    subst hP hw hK
    obtain ⟨f0, f1, f2, f3, f4, f5⟩ := hf it (by simp)
    have W := Walks.range (prog := X.prog) (w := X.w) (I.ok.hd hc) it lo 1 n
    refine W.item i s _ _ hg st fun v h' tk hv st' kk => ?_
    obtain ⟨t, rfl⟩ := hv
    have I1 : Inv X pins σ H { s with heap := h', toks := tk } := I.turned (fun b o hb e => kk b o (by simpa using hb) e) f0 f1 f3 f4 f5
    refine ⟨_, rfl, go_of (s := { s with heap := h', toks := tk }) (n := "range_iterator") st' rfl rfl (by decide) ⟨.int (lo + i), H, I1, ⟨t, ?_⟩, ⟨rfl, rfl⟩, st', fun b hb => (hf b hb).1⟩⟩
    rw [Int.mul_one]
  done := by
    intro X hP hw hK hc i pins s σ H E I hf st hg
    subst hP hw hK
    obtain ⟨f0, f1, f2, f3, f4, f5⟩ := hf it (by simp)
    exact wpAny_pyNext_range_end (I.ok.hd hc) st (by have : n ≤ i := hg; omega) fun h' eb => ⟨rfl, I.turned (t' := s.toks) (fun b o hb e => eb b o hb e) f0 f1 f3 f4 f5⟩
  self := fun _ _ _ _ _ st h => wpAny_pyIter_rangeiter st h
end L2
namespace L2
open PySem PySem.Spec PyProof.Rows
section
variable {X : Cx} {tg : Expr}
def iList (K : PySem.W.Frag) (tl : TE) : TI := fun σ H R => tl σ H fun x H1 => ∃ a, x = .ref a ∧ (∃ xs, SqL K H1 a xs) ∧ R (Itl K a) H1
theorem pi_list {l : Expr} {tl : TE} (hl : PE X l tl) : PI X tg l (iList X.K tl) := by
  intro pins s σ H R I h
  refine thn (hl pins s σ H _ I h) fun v s1 ⟨x, H1, I1, r1, q1⟩ => ?_
  obtain ⟨a, e, ⟨xs, hq⟩, q⟩ := q1
  subst e
  cases r1
  obtain ⟨its, rv, p, hz⟩ := I1.list hq
  refine wpAny_pyIter_list p.isList ?_
  refine ⟨s1.heap.objs.size, [s1.heap.objs.size], _, _, H1, rfl, I1.kept (t' := s1.toks) fun b o e => Heap.get?_push_of_some _ e, turn_list a _, ⟨_, Heap.get?_push_size _ rfl, rfl, rfl⟩, fun b hb => ?_, q⟩
  have e : b = s1.heap.objs.size := by simpa using hb
  subst e
  exact I1.fpOk (Nat.le_refl _) (I1.hok.fresh (Nat.le_refl _))
theorem range_it {pins : List (Addr × Obj)} {σ : St} {H : Hp} {s : Shared} {R : It → Hp → Prop} {E : Value → Shared → Prop} {lo hi : Int} {t u v : Tok} {tk : Nat} (I : Inv X pins σ H s) (h1 : -(2 ^ 62) ≤ lo) (h2 : lo < 2 ^ 62) (h3 : -(2 ^ 62) ≤ hi) (h4 : hi < 2 ^ 62)
    (q : R (Itr lo (hi - lo).toNat) H) : wpAny (model X.prog X.w) X.A (pyIter (.ref s.heap.objs.size)) (PIE X pins σ tg R) E { s with heap := s.heap.push { cls := .type "range", data := .fields #[.int lo t, .int hi u, .int 1 v] }, toks := tk } := by
  refine wpAny_pyIter_range (IsRange.new ..) (small_one h1 h2 h3 h4) ?_
  have I1 : Inv X pins σ H { s with heap := s.heap.push { cls := .type "range", data := .fields #[.int lo t, .int hi u, .int 1 v] }, toks := tk } := I.kept fun b o e => Heap.get?_push_of_some _ e
  refine ⟨(s.heap.push { cls := .type "range", data := .fields #[.int lo t, .int hi u, .int 1 v] }).objs.size, [(s.heap.push { cls := .type "range", data := .fields #[.int lo t, .int hi u, .int 1 v] }).objs.size], _, _, H, rfl,
    I1.kept (t' := tk) fun b o e => Heap.get?_push_of_some _ e, turn_range _ lo (hi - lo).toNat, ?_, fun b hb => ?_, q⟩
  · have e1 : lo + ((0 : Nat) : Int) * 1 = lo := by simp
    have e2 : (((hi - lo).toNat : Nat) : Int) - ((0 : Nat) : Int) = Builtin.Range.rangeSize lo hi 1 := by rw [rangeSize_one]; split <;> omega
    show IsRangeIter _ _ (lo + ((0 : Nat) : Int) * 1) ((((hi - lo).toNat : Nat) : Int) - ((0 : Nat) : Int)) 1
    rw [e1, e2]
    exact Heap.get?_push_size _ rfl
  · have e : b = (s.heap.push { cls := .type "range", data := .fields #[.int lo t, .int hi u, .int 1 v] }).objs.size := by simpa using hb
    subst e
    exact I1.fpOk (Nat.le_refl _) (I1.hok.fresh (Nat.le_refl _))
def iRng1 (ta : TA) : TI := fun σ H R => ta σ H fun vs H1 => ∃ j : Int, vs = [.int j] ∧ -(2 ^ 62) ≤ j ∧ j < 2 ^ 62 ∧ R (Itr 0 j.toNat) H1
def iRng2 (ta : TA) : TI := fun σ H R => ta σ H fun vs H1 => ∃ i j : Int, vs = [.int i, .int j] ∧ (-(2 ^ 62) ≤ i ∧ i < 2 ^ 62 ∧ -(2 ^ 62) ≤ j ∧ j < 2 ^ 62) ∧ R (Itr i (j - i).toNat) H1
theorem pi_range1 {a : Expr} {ta : TA} {p pos : Pos} (hg : Gl X "range") (hm : X.mg "range" = none) (ha : PA X [a] ta) (hs : starEach [a] X.env = [(false, eval a X.env)] := by rfl) : PI X tg (.Call (.Name "range" p) [a] [] pos) (iRng1 ta) := by
  intro pins s σ H R I h
  refine Call_ (ld_blt I hg hm boot_range (PyProof.Rows.callWith_type1 (thn (ha pos pins s σ H _ I h) fun us s1 ⟨vs, H1, I1, r1, q1⟩ => ?_) hs rfl))
  obtain ⟨j, e, q1, q2, q⟩ := q1
  subst e
  cases r1 with
  | cons r rr =>
    cases rr
    obtain ⟨t, rfl⟩ := r
    exact call_range_1 (range_it I1 (by omega) (by omega) q1 q2 (by simpa using q))
theorem pi_range2 {a b : Expr} {ta : TA} {p pos : Pos} (hg : Gl X "range") (hm : X.mg "range" = none) (ha : PA X [a, b] ta) (hs : starEach [a, b] X.env = [(false, eval a X.env), (false, eval b X.env)] := by rfl) (hs2 : starEach [b] X.env = [(false, eval b X.env)] := by rfl) :
    PI X tg (.Call (.Name "range" p) [a, b] [] pos) (iRng2 ta) := by
  intro pins s σ H R I h
  refine Call_ (ld_blt I hg hm boot_range (PyProof.Rows.callWith_type1 (thn (ha pos pins s σ H _ I h) fun us s1 ⟨vs, H1, I1, r1, q1⟩ => ?_) (by rw [hs, hs2]) (by rw [hs2]; rfl)))
  obtain ⟨i, j, e, ⟨q1, q2, q3, q4⟩, q⟩ := q1
  subst e
  cases r1 with
  | cons r rr =>
    cases rr with
    | cons r' rr =>
      cases rr
      obtain ⟨t, rfl⟩ := r
      obtain ⟨t', rfl⟩ := r'
      exact call_range_2 (range_it I1 q1 q2 q3 q4 q)
def tFor (wi : TI) (g : TG) (tb : TS) : TS := fun D σ H => wi σ H fun J H1 => ∃ W : Nat → Nat → St → Hp → Prop, (∃ m, W 0 m σ H1) ∧ ∀ i m σ H, W i m σ H →
  (J.stop i H ∧ D.nx σ H) ∨ (J.go i H ∧ ∃ N : St → Hp → Prop, (∀ σ' H', N σ' H' → ∃ m', m' < m ∧ W (i + 1) m' σ' H') ∧ ∀ x H', J.yld i H x H' → g x σ H' fun σ2 H2 => tb { D with nx := N, ct := N, bk := D.nx } σ2 H2)
def pinsAt (fp : List Addr) (h : Heap) : List (Addr × Obj) := fp.filterMap fun b => (h.get? b).map fun o => (b, o)
theorem mem_pinsAt {fp : List Addr} {h : Heap} {b : Addr} {o : Obj} (hb : b ∈ fp) (e : h.get? b = some o) : (b, o) ∈ pinsAt fp h := List.mem_filterMap.mpr ⟨b, hb, by rw [e]; rfl⟩
theorem of_pinsAt {fp : List Addr} {h : Heap} {p : Addr × Obj} (hp : p ∈ pinsAt fp h) : p.1 ∈ fp ∧ h.get? p.1 = some p.2 := by
  obtain ⟨b, hb, e⟩ := List.mem_filterMap.mp hp
  cases q : h.get? b with
  | none => rw [q] at e; cases e
  | some o =>
    rw [q] at e
    have e' : (b, o) = p := Option.some.inj e
    subst e'
    exact ⟨hb, q⟩
theorem Inv.pinned {pins : List (Addr × Obj)} {σ : St} {H : Hp} {s : Shared} {fp : List Addr} (I : Inv X pins σ H s) (hf : ∀ b ∈ fp, FpOk X pins H b) (ho : ∀ b ∈ fp, ∃ o, s.heap.get? b = some o ∧ ∀ v, o.data ≠ .cell v) : Inv X (pins ++ pinsAt fp s.heap) σ H s :=
  I.pins_of fun p hp => (List.mem_append.mp hp).elim (fun z => I.pin p (List.mem_append_right _ z)) fun z => by
    obtain ⟨hb, e⟩ := of_pinsAt z
    obtain ⟨f0, f1, f2, _⟩ := hf p.1 hb
    obtain ⟨o, e', d⟩ := ho p.1 hb
    rw [e] at e'; cases e'
    exact ⟨e, f0, f1, f2, d⟩
theorem Inv.unpinned {pins pl : List (Addr × Obj)} {σ : St} {H : Hp} {s : Shared} (I : Inv X (pins ++ pl) σ H s) : Inv X pins σ H s := I.pins_of fun p hp => I.pin p (List.mem_append_right _ (List.mem_append_left _ hp))
theorem ps_for {iter : Expr} {body : List Stmt} {wi : TI} {g : TG} {tb : TS} {pos : Pos} (hp : PassesOwn (model X.prog X.w) X.A X.env X.xe) (hc : X.calm = true) (hi : PI X tg iter wi) (hg : PG X tg g) (hb : PSs X body tb)
    (hs : ∀ x, foldedSetIterable iter X.env x = pure x := by intro _; rfl) : PS X (.For tg iter body [] pos) (tFor wi g tb) := by
  intro pins s σ H D I h
  refine wpAny_For (thn (hi pins s σ H _ I h) fun v s1 h1 => thn h1 fun itv s2 h2 => ?_) hs
  obtain ⟨it, fp, tn, J, H2, e, I2, T, st2, f2, W, ⟨m0, w0⟩, turn⟩ := h2
  subst e
  -- what stays true of the iterator's objects through the loop
  have stat : ∀ {H' : Hp}, (∀ b ∈ fp, H' b = none) → ∀ b ∈ fp, FpOk X pins H' b := fun hn b hb => ⟨hn b hb, (f2 b hb).2⟩
  refine codeAny_forLoop_any (fun n s' => ∃ i σ' H', Inv X pins σ' H' s' ∧ tn i s'.heap ∧ (∀ b ∈ fp, H' b = none) ∧ W i n σ' H') ?_ m0 ⟨0, σ, H2, I2, st2, fun b hb => (f2 b hb).1, w0⟩
  rintro n s3 ⟨i, σ3, H3, I3, st3, fr3, w3⟩
  rcases turn i n σ3 H3 w3 with ⟨stop, qn⟩ | ⟨go, N, hN, step⟩
  · refine wpAny_passesOwn hp (thn (T.done X rfl rfl rfl hc i pins s3 σ3 H3 X.xe I3 (stat fr3) st3 stop) fun r s4 ⟨hr, I4⟩ => ?_)
    subst hr
    exact wpAny_execs_nil ⟨σ3, H3, I4, qn⟩
  · refine wpAny_passesOwn hp (thn (T.item X rfl rfl rfl hc i pins s3 σ3 H3 X.xe I3 (stat fr3) st3 go) fun r s4 ⟨u, hr, h4⟩ => ?_)
    subst hr
    refine wpAny_passesOwn hp (thn h4 fun _ s5 ⟨x, H5, I5, r5, y5, st5, fr5⟩ => ?_)
    have I5' := I5.pinned (stat fr5) (T.obj _ _ st5)
    refine wpAny_passesOwn hp (thn (hg _ s5 σ3 H5 x u _ I5' r5 (step x H5 y5)) fun _ s6 ⟨σ6, H6, I6, q6⟩ => ?_)
    refine wpAny_passesOwn hp (thn (hb _ s6 σ6 H6 _ I6 q6) fun f s7 q7 => ?_)
    have again : ∀ {σ7 : St} {H7 : Hp}, Inv X (pins ++ pinsAt fp s5.heap) σ7 H7 s7 → N σ7 H7 → ∃ m, m < n ∧ ∃ i σ' H', Inv X pins σ' H' s7 ∧ tn i s7.heap ∧ (∀ b ∈ fp, H' b = none) ∧ W i m σ' H' := fun {σ7 H7} I7 n7 => by
      obtain ⟨m', hm, w7⟩ := hN σ7 H7 n7
      refine ⟨m', hm, i + 1, σ7, H7, I7.unpinned, T.keep _ _ _ st5 fun b hb o e => (I7.pin (b, o) (List.mem_append_right _ (List.mem_append_right _ (mem_pinsAt hb e)))).1, fun b hb => ?_, w7⟩
      obtain ⟨o, e, d⟩ := T.obj _ _ st5 b hb
      exact (I7.pin (b, o) (List.mem_append_right _ (List.mem_append_right _ (mem_pinsAt hb e)))).2.1
    cases f with
    | next => obtain ⟨σ7, H7, I7, n7⟩ := q7; exact again I7 n7
    | cont => obtain ⟨σ7, H7, I7, n7⟩ := q7; exact again I7 n7
    | brk => obtain ⟨σ7, H7, I7, q7⟩ := q7; exact ⟨σ7, H7, I7.unpinned, q7⟩
    | ret v => obtain ⟨x7, σ7, H7, I7, r7, q7⟩ := q7; exact ⟨x7, σ7, H7, I7.unpinned, r7, q7⟩
end
theorem for_list {K : PySem.W.Frag} {a : Addr} {xs : List V} {g : TG} {tb : TS} {D : Ends} {σ : St} {H : Hp} (Pv : Nat → St → Hp → Prop) (h0 : Pv 0 σ H) (hl : ∀ i σ H, i ≤ xs.length → Pv i σ H → SqL K H a xs)
    (hs : ∀ i x σ H, xs[i]? = some x → Pv i σ H → g x σ H fun σ2 H2 => tb { D with nx := Pv (i + 1), ct := Pv (i + 1), bk := D.nx } σ2 H2) (hd : ∀ σ H, Pv xs.length σ H → D.nx σ H) :
    ∃ W : Nat → Nat → St → Hp → Prop, (∃ m, W 0 m σ H) ∧ ∀ i m σ H, W i m σ H →
      ((Itl K a).stop i H ∧ D.nx σ H) ∨ ((Itl K a).go i H ∧ ∃ N : St → Hp → Prop, (∀ σ' H', N σ' H' → ∃ m', m' < m ∧ W (i + 1) m' σ' H') ∧ ∀ x H', (Itl K a).yld i H x H' → g x σ H' fun σ2 H2 => tb { D with nx := N, ct := N, bk := D.nx } σ2 H2) := by
  refine ⟨fun i m σ H => m = xs.length - i ∧ i ≤ xs.length ∧ Pv i σ H, ⟨xs.length, by simp, Nat.zero_le _, h0⟩, ?_⟩
  rintro i m σ H ⟨rfl, hi, p⟩
  have q := hl i σ H hi p
  by_cases hlt : i < xs.length
  · refine .inr ⟨⟨xs, xs[i], q, by simp [hlt]⟩, Pv (i + 1), fun σ' H' p' => ⟨xs.length - (i + 1), by omega, rfl, hlt, p'⟩, fun x H' y => ?_⟩
    obtain ⟨e, y⟩ := y
    subst e
    exact hs i x σ _ (y xs q) p
  · have e : i = xs.length := by omega
    subst e
    exact .inl ⟨⟨xs, q, Nat.le_refl _⟩, hd σ H p⟩
end L2
namespace L2
open PySem PySem.Spec PyProof.Rows
abbrev R2 := V → V → Hp → VK → Prop
def OpR (X : Cx) (f : Value → Value → Sem Value) (r : R2) : Prop :=
  ∀ (pins : List (Addr × Obj)) (s : Shared) (σ : St) (H : Hp) (x y : V) (v u : Value) (Q : VK), Inv X pins σ H s → RelV x v → RelV y u → r x y H Q →
    wpAny (model X.prog X.w) X.A (f v u) (EP X pins σ Q) X.xe s
def UnR (X : Cx) (f : Value → Sem Value) (r : V → Hp → VK → Prop) : Prop :=
  ∀ (pins : List (Addr × Obj)) (s : Shared) (σ : St) (H : Hp) (x : V) (v : Value) (Q : VK), Inv X pins σ H s → RelV x v → r x H Q →
    wpAny (model X.prog X.w) X.A (f v) (EP X pins σ Q) X.xe s
def CallR (X : Cx) (f : Value) (r : List V → Hp → VK → Prop) : Prop :=
  ∀ (pins : List (Addr × Obj)) (s : Shared) (σ : St) (H : Hp) (xs : List V) (us : List Value) (Q : VK), Inv X pins σ H s → Vals xs us → r xs H Q →
    wpAny (model X.prog X.w) X.A (call f us) (EP X pins σ Q) X.xe s
def TruR (X : Cx) (r : V → Hp → (Bool → Hp → Prop) → Prop) : Prop :=
  ∀ (pins : List (Addr × Obj)) (s : Shared) (σ : St) (H : Hp) (x : V) (v : Value) (Q : Bool → Hp → Prop), Inv X pins σ H s → RelV x v → r x H Q →
    wpAny (model X.prog X.w) X.A (truthy v) (TP X pins σ Q) X.xe s
def tOp (r : R2) (ta tb : TE) : TE := fun σ H Q => ta σ H fun x H1 => tb σ H1 fun y H2 => r x y H2 Q
def tUn (r : V → Hp → VK → Prop) (ta : TE) : TE := fun σ H Q => ta σ H fun x H1 => r x H1 Q
def rI (C : Int → Int → Prop) (g : Int → Int → V) : R2 := fun x y H Q => ∃ i j, x = .int i ∧ y = .int j ∧ C i j ∧ Q (g i j) H
def rI0 (g : Int → Int → V) : R2 := fun x y H Q => ∃ i j, x = .int i ∧ y = .int j ∧ Q (g i j) H
def rU (g : Int → V) : V → Hp → VK → Prop := fun x H Q => ∃ i, x = .int i ∧ Q (g i) H
section
variable {X : Cx} {a b c : Expr} {ta tb tc : TE} {pos : Pos}
theorem binT (ha : PE X a ta) (hb : PE X b tb) {pins : List (Addr × Obj)} {s : Shared} {σ : St} {H : Hp} {R : V → V → Hp → Prop} (I : Inv X pins σ H s)
    (h : ta σ H fun x H1 => tb σ H1 fun y H2 => R x y H2) {Q : Value → Shared → Prop} {f : Value → Value → Sem Value}
    (hf : ∀ v u s2 x y H2, Inv X pins σ H2 s2 → RelV x v → RelV y u → R x y H2 → wpAny (model X.prog X.w) X.A (f v u) Q X.xe s2) :
    wpAny (model X.prog X.w) X.A (eval a X.env) (fun v s₁ => wpAny (model X.prog X.w) X.A (eval b X.env) (fun u s₂ => wpAny (model X.prog X.w) X.A (f v u) Q X.xe s₂) X.xe s₁) X.xe s := by
  refine thn (ha pins s σ H _ I h) fun v s1 ⟨x, H1, I1, r1, q1⟩ => ?_
  refine thn (hb pins s1 σ H1 _ I1 q1) fun u s2 ⟨y, H2, I2, r2, q2⟩ => ?_
  exact hf v u s2 x y H2 I2 r1 r2 q2
theorem pe_op {op : Operator} {r : R2} (ho : OpR X (binaryOp op) r) (ha : PE X a ta) (hb : PE X b tb) : PE X (.BinOp a op b pos) (tOp r ta tb) := by
  intro pins s σ H Q I h
  exact wpAny_BinOp (binT ha hb I h fun v u s2 x y H2 I2 rx ry q => ho pins s2 σ H2 x y v u Q I2 rx ry q)
theorem pe_un {op : UnaryOp} {r : V → Hp → VK → Prop} (ho : UnR X (unaryOp op) r) (ha : PE X a ta) : PE X (.UnaryOp op a pos) (tUn r ta) := by
  intro pins s σ H Q I h
  exact UnaryOp_ (thn (ha pins s σ H _ I h) fun v s1 ⟨x, H1, I1, r1, q1⟩ => ho pins s1 σ H1 x v Q I1 r1 q1)
theorem opI {f : Value → Value → Sem Value} {C : Int → Int → Prop} {g : Int → Int → Int}
    (rule : ∀ (i j : Int) (t u : Tok) (s : Shared) (Q : Value → Shared → Prop) (E : Value → Shared → Prop), C i j → Q (.int (g i j) s.toks) { s with toks := s.toks + 1 } → wpAny (model X.prog X.w) X.A (f (.int i t) (.int j u)) Q E s) :
    OpR X f (rI C fun i j => .int (g i j)) := by
  intro pins s σ H x y v u Q I rx ry h
  obtain ⟨i, j, rfl, rfl, hc, q⟩ := h
  obtain ⟨t, rfl⟩ := rx
  obtain ⟨t', rfl⟩ := ry
  exact rule i j t t' s _ _ hc ⟨.int (g i j), H, I.tok _, ⟨_, rfl⟩, q⟩
theorem opI0 {f : Value → Value → Sem Value} {g : Int → Int → Int}
    (rule : ∀ (i j : Int) (t u : Tok) (s : Shared) (Q : Value → Shared → Prop) (E : Value → Shared → Prop), Q (.int (g i j) s.toks) { s with toks := s.toks + 1 } → wpAny (model X.prog X.w) X.A (f (.int i t) (.int j u)) Q E s) :
    OpR X f (rI0 fun i j => .int (g i j)) := by
  intro pins s σ H x y v u Q I rx ry h
  obtain ⟨i, j, rfl, rfl, q⟩ := h
  obtain ⟨t, rfl⟩ := rx
  obtain ⟨t', rfl⟩ := ry
  exact rule i j t t' s _ _ ⟨.int (g i j), H, I.tok _, ⟨_, rfl⟩, q⟩
theorem opB0 {f : Value → Value → Sem Value} {g : Int → Int → Bool}
    (rule : ∀ (i j : Int) (t u : Tok) (s : Shared) (Q : Value → Shared → Prop) (E : Value → Shared → Prop), Q (.bool (g i j)) s → wpAny (model X.prog X.w) X.A (f (.int i t) (.int j u)) Q E s) :
    OpR X f (rI0 fun i j => .bl (g i j)) := by
  intro pins s σ H x y v u Q I rx ry h
  obtain ⟨i, j, rfl, rfl, q⟩ := h
  obtain ⟨t, rfl⟩ := rx
  obtain ⟨t', rfl⟩ := ry
  exact rule i j t t' s _ _ ⟨.bl (g i j), H, I, rfl, q⟩
def CDiv (i j : Int) : Prop := 0 < j ∧ j < 1073741824
def CPow (i j : Int) : Prop := 0 ≤ j ∧ j ≤ 1000000 ∧ i.natAbs < 2 ^ 64
def CMul (i j : Int) : Prop := (-(2 ^ 64) < i ∧ i < 2 ^ 64) ∨ (-(2 ^ 64) < j ∧ j < 2 ^ 64)
theorem CMul.ok {i j : Int} (h : CMul i j) : IntMulOk i j := by
  rcases h with ⟨h1, h2⟩ | ⟨h1, h2⟩
  · exact .of_left (intBits_le_64 h1 h2)
  · exact .of_right (intBits_le_64 h1 h2)
theorem op_add : OpR X (binaryOp .Add) (rI0 fun i j => .int (i + j)) := opI0 fun _ _ _ _ _ _ _ q => add_int q
theorem op_sub : OpR X (binaryOp .Sub) (rI0 fun i j => .int (i - j)) := opI0 fun _ _ _ _ _ _ _ q => sub_int q
theorem op_mul : OpR X (binaryOp .Mult) (rI CMul fun i j => .int (i * j)) := opI fun _ _ _ _ _ _ _ hc q => mul_int q hc.ok
theorem op_fdiv : OpR X (binaryOp .FloorDiv) (rI CDiv fun i j => .int (i / j)) := opI fun i j _ _ _ _ _ hc q => by
  have h1 : (0 : Int) < j := hc.1
  have h2 : j < 1073741824 := hc.2
  exact floordiv_int (by omega) (by rw [Int.fdiv_eq_ediv_of_nonneg i (by omega)]; exact q) (.inl (PyProof.noPylong_small (by omega)))
theorem op_mod : OpR X (binaryOp .Mod) (rI (fun _ j => 0 < j) fun i j => .int (i % j)) := opI fun i j _ _ _ _ _ hc q => by
  have h1 : (0 : Int) < j := hc
  exact mod_int' (by omega) (by rw [Int.fmod_eq_emod_of_nonneg i (by omega)]; exact q)
theorem op_pow : OpR X (binaryOp .Pow) (rI CPow fun i j => .int (i ^ j.toNat)) := opI fun _ _ _ _ _ _ _ hc q => pow_int_small hc.1 hc.2.1 hc.2.2 q
theorem unI {f : Value → Sem Value} {g : Int → Int}
    (rule : ∀ (i : Int) (t : Tok) (s : Shared) (Q : Value → Shared → Prop) (E : Value → Shared → Prop), Q (.int (g i) s.toks) { s with toks := s.toks + 1 } → wpAny (model X.prog X.w) X.A (f (.int i t)) Q E s) :
    UnR X f (rU fun i => .int (g i)) := by
  intro pins s σ H x v Q I rx h
  obtain ⟨i, rfl, q⟩ := h
  obtain ⟨t, rfl⟩ := rx
  exact rule i t s _ _ ⟨.int (g i), H, I.tok _, ⟨_, rfl⟩, q⟩
theorem un_neg : UnR X (unaryOp .USub) (rU fun i => .int (-i)) := unI fun _ _ _ _ _ q => neg_int q
end
def scal : V → V → Bool
  | .non, .non => true | .non, .int _ => true | .int _, .non => true | .non, .bl _ => true | .bl _, .non => true | .non, .str _ => true | .str _, .non => true
  | .int _, .int _ => true | .bl _, .bl _ => true | .str _, .str _ => true | .byt _, .byt _ => true
  | .int _, .str _ => true | .str _, .int _ => true | .bl _, .str _ => true | .str _, .bl _ => true
  | _, _ => false
def rEq : R2 := fun x y H Q => scal x y = true ∧ Q (.bl (decide (x = y))) H
def rNe : R2 := fun x y H Q => scal x y = true ∧ Q (.bl (!decide (x = y))) H
theorem dec_int {i j : Int} : decide (V.int i = V.int j) = (i == j) := by
  rw [Bool.eq_iff_iff]
  simp
theorem dec_bl {i j : Bool} : decide (V.bl i = V.bl j) = (i == j) := by
  rw [Bool.eq_iff_iff]
  simp
theorem dec_str {i j : Str} : decide (V.str i = V.str j) = (i == j) := by
  rw [Bool.eq_iff_iff]
  simp
theorem dec_byt {i j : Array UInt8} : decide (V.byt i = V.byt j) = (i.toList == j.toList) := by
  rw [Bool.eq_iff_iff]
  cases i
  cases j
  simp
section
variable {X : Cx} {a b c : Expr} {ta tb tc : TE} {pos : Pos}
theorem fin_bl {pins : List (Addr × Obj)} {σ : St} {H : Hp} {s : Shared} {Q : VK} {k k' : Bool} (I : Inv X pins σ H s) (q : Q (.bl k) H) (e : k = k') : EP X pins σ Q (.bool k') s := by
  subst e
  exact ⟨.bl k, H, I, rfl, q⟩
theorem op_eq : OpR X (compareOp .Eq) rEq := by
  intro pins s σ H x y v u Q I rx ry h
  obtain ⟨hs, q⟩ := h
  cases x with
  | non =>
    cases rx
    cases y with
    | non => cases ry; exact PySem.EqNone.eq_none_none (fin_bl I q (by simp))
    | bl j => cases ry; exact PySem.EqNone.eq_none_bool (fin_bl I q (by simp))
    | int j => obtain ⟨t', rfl⟩ := ry; exact PySem.EqNone.eq_none_int (fin_bl I q (by simp))
    | str j => obtain ⟨t', rfl⟩ := ry; exact PySem.EqNone.eq_none_str (fin_bl I q (by simp))
    | _ => exact absurd (show false = true from hs) Bool.false_ne_true
  | bl i =>
    cases rx
    cases y with
    | non => cases ry; exact PySem.EqNone.eq_bool_none (fin_bl I q (by simp))
    | bl j => cases ry; exact eq_bool (fin_bl I q dec_bl)
    | str j => obtain ⟨t', rfl⟩ := ry; exact PySem.EqMixed.eq_bool_str (fin_bl I q (by simp))
    | _ => exact absurd (show false = true from hs) Bool.false_ne_true
  | int i =>
    obtain ⟨t, rfl⟩ := rx
    cases y with
    | non => cases ry; exact PySem.EqNone.eq_int_none (fin_bl I q (by simp))
    | int j => obtain ⟨t', rfl⟩ := ry; exact eq_int (fin_bl I q dec_int)
    | str j => obtain ⟨t', rfl⟩ := ry; exact PySem.EqMixed.eq_int_str (fin_bl I q (by simp))
    | _ => exact absurd (show false = true from hs) Bool.false_ne_true
  | str i =>
    obtain ⟨t, rfl⟩ := rx
    cases y with
    | non => cases ry; exact PySem.EqNone.eq_str_none (fin_bl I q (by simp))
    | bl j => cases ry; exact PySem.EqMixed.eq_str_bool (fin_bl I q (by simp))
    | int j => obtain ⟨t', rfl⟩ := ry; exact PySem.EqMixed.eq_str_int (fin_bl I q (by simp))
    | str j => obtain ⟨t', rfl⟩ := ry; exact eq_str (fin_bl I q dec_str)
    | _ => exact absurd (show false = true from hs) Bool.false_ne_true
  | byt i =>
    obtain ⟨t, rfl⟩ := rx
    cases y with
    | byt j => obtain ⟨t', rfl⟩ := ry; exact PySem.W.eq_bytes (fin_bl I q dec_byt)
    | _ => exact absurd (show false = true from hs) Bool.false_ne_true
  | _ => cases y <;> exact absurd (show false = true from hs) Bool.false_ne_true
theorem op_ne : OpR X (compareOp .NotEq) rNe := by
  intro pins s σ H x y v u Q I rx ry h
  obtain ⟨hs, q⟩ := h
  cases x with
  | non =>
    cases rx
    cases y with
    | non => cases ry; exact PySem.EqNone.ne_none_none (fin_bl I q (by simp))
    | bl j => cases ry; exact PySem.EqNone.ne_none_bool (fin_bl I q (by simp))
    | int j => obtain ⟨t', rfl⟩ := ry; exact PySem.EqNone.ne_none_int (fin_bl I q (by simp))
    | str j => obtain ⟨t', rfl⟩ := ry; exact PySem.EqNone.ne_none_str (fin_bl I q (by simp))
    | _ => exact absurd (show false = true from hs) Bool.false_ne_true
  | bl i =>
    cases rx
    cases y with
    | non => cases ry; exact PySem.EqNone.ne_bool_none (fin_bl I q (by simp))
    | bl j => cases ry; exact ne_bool (fin_bl I q (congrArg not dec_bl))
    | str j => obtain ⟨t', rfl⟩ := ry; exact PySem.EqMixed.ne_bool_str (fin_bl I q (by simp))
    | _ => exact absurd (show false = true from hs) Bool.false_ne_true
  | int i =>
    obtain ⟨t, rfl⟩ := rx
    cases y with
    | non => cases ry; exact PySem.EqNone.ne_int_none (fin_bl I q (by simp))
    | int j => obtain ⟨t', rfl⟩ := ry; exact ne_int (fin_bl I q (congrArg not dec_int))
    | str j => obtain ⟨t', rfl⟩ := ry; exact PySem.EqMixed.ne_int_str (fin_bl I q (by simp))
    | _ => exact absurd (show false = true from hs) Bool.false_ne_true
  | str i =>
    obtain ⟨t, rfl⟩ := rx
    cases y with
    | non => cases ry; exact PySem.EqNone.ne_str_none (fin_bl I q (by simp))
    | bl j => cases ry; exact PySem.EqMixed.ne_str_bool (fin_bl I q (by simp))
    | int j => obtain ⟨t', rfl⟩ := ry; exact PySem.EqMixed.ne_str_int (fin_bl I q (by simp))
    | str j => obtain ⟨t', rfl⟩ := ry; exact ne_str (fin_bl I q (congrArg not dec_str))
    | _ => exact absurd (show false = true from hs) Bool.false_ne_true
  | byt i =>
    obtain ⟨t, rfl⟩ := rx
    cases y with
    | byt j => obtain ⟨t', rfl⟩ := ry; exact PySem.W.ne_bytes (fin_bl I q (congrArg not dec_byt))
    | _ => exact absurd (show false = true from hs) Bool.false_ne_true
  | _ => cases y <;> exact absurd (show false = true from hs) Bool.false_ne_true
theorem op_lt : OpR X (compareOp .Lt) (rI0 fun i j => .bl (decide (i < j))) := opB0 fun _ _ _ _ _ _ _ q => lt_int q
theorem op_le : OpR X (compareOp .LtE) (rI0 fun i j => .bl (decide (i ≤ j))) := opB0 fun _ _ _ _ _ _ _ q => le_int q
theorem op_gt : OpR X (compareOp .Gt) (rI0 fun i j => .bl (decide (j < i))) := opB0 fun _ _ _ _ _ _ _ q => gt_int q
theorem op_ge : OpR X (compareOp .GtE) (rI0 fun i j => .bl (decide (j ≤ i))) := opB0 fun _ _ _ _ _ _ _ q => ge_int q
theorem op_isN : OpR X (compareOp .Is) (fun x y H Q => y = .non ∧ Q (.bl (decide (x = .non))) H) := by
  intro pins s σ H x y v u Q I rx ry h
  obtain ⟨rfl, q⟩ := h
  cases ry
  refine is_none_gen (fin_bl I q ?_)
  cases x <;> first
    | (cases rx; rfl)
    | (obtain ⟨t, rfl⟩ := rx; rfl)
theorem op_notin_str : OpR X (compareOp .NotIn) (fun x y H Q => ∃ i j, x = .str i ∧ y = .str j ∧ Q (.bl (!(!(Builtin.Str.occurrences j i 0 j.length 1).isEmpty))) H) := by
  intro pins s σ H x y v u Q I rx ry h
  obtain ⟨i, j, rfl, rfl, q⟩ := h
  obtain ⟨t, rfl⟩ := rx
  obtain ⟨t', rfl⟩ := ry
  exact notIn_str (fin_bl I q rfl)
theorem nomark (b : Expr) {op : CmpOp} (h : op ≠ .In := by decide) (h2 : op ≠ .NotIn := by decide) : behindInMarks op b = false := by
  have e1 : (op == CmpOp.In) = false := by cases op <;> first | rfl | exact absurd rfl h
  have e2 : (op == CmpOp.NotIn) = false := by cases op <;> first | rfl | exact absurd rfl h2
  cases b <;> simp [behindInMarks, e1, e2]
theorem pe_cmpR {op : CmpOp} {r : R2} (ho : OpR X (compareOp op) r) (ha : PE X a ta) (hb : PE X b tb) (hm : behindInMarks op b = false) : PE X (.Compare a [op] [b] pos) (tOp r ta tb) := by
  intro pins s σ H Q I h
  exact wpAny_Compare1 (binT ha hb I h fun v u s2 x y H2 I2 rx ry q => ho pins s2 σ H2 x y v u Q I2 rx ry q) hm
def tTest (t : TE) : TT := fun σ H Q => t σ H fun x H' => ∃ k, x = .bl k ∧ Q k H'
theorem pt_cmpR {op : CmpOp} {r : R2} (ho : OpR X (compareOp op) r) (ha : PE X a ta) (hb : PE X b tb) (hm : behindInMarks op b = false) : PT X (.Compare a [op] [b] pos) (tTest (tOp r ta tb)) := by
  intro pins s σ H Q I h
  refine wpAny_isTrue_Compare1 (thn (ha pins s σ H _ I h) fun v s1 ⟨x, H1, I1, r1, q1⟩ => thn (hb pins s1 σ H1 _ I1 q1) fun u s2 ⟨y, H2, I2, r2, q2⟩ =>
    thn (ho pins s2 σ H2 x y v u _ I2 r1 r2 q2) fun c s3 ⟨z, H3, I3, r3, k, e, q3⟩ => ?_) hm
  subst e
  cases r3
  exact wpAny_truthy_bool ⟨H3, I3, q3⟩
def TruV (K : PySem.W.Frag) (x : V) (H : Hp) (k : Bool) : Prop :=
  match x with
  | .non => k = false
  | .bl b => k = b
  | .int i => k = (i != 0)
  | .str y => y.length ≤ sizeLine ∧ k = ((y.length : Int) != 0)
  | .byt y => y.size ≤ sizeLine ∧ k = ((y.size : Int) != 0)
  | .ref p => (∃ xs, SqL K H p xs ∧ k = !xs.isEmpty) ∨ (∃ xs, SqT K H p xs ∧ k = !xs.isEmpty) ∨ ∃ kvs, H p = some (.dK kvs) ∧ k = !kvs.isEmpty
  | _ => False
theorem isEmpty_kv {κ : Type} {kvs : List (κ × V)} {vs : List (κ × Value)} (r : KV kvs vs) : (!vs.isEmpty) = !kvs.isEmpty := by
  cases r <;> rfl
theorem isEmpty_of {xs : List V} {its : List Value} (r : Vals xs its) : (!its.toArray.isEmpty) = !xs.isEmpty := by
  cases r <;> simp
theorem line63 : (sizeLine : Nat) < 2 ^ 63 := by rw [sizeLine_eq]; decide
theorem tru_ok : TruR X (fun x H Q => ∃ k, TruV X.K x H k ∧ Q k H) := by
  intro pins s σ H x v Q I rx h
  obtain ⟨k, e, q⟩ := h
  have hl := line63
  have hs : sizeLine = 16777216 := sizeLine_eq
  cases x with
  | non =>
    cases rx
    have e' : k = false := e
    subst e'
    exact truthy_none ⟨H, I, q⟩
  | bl b =>
    cases rx
    have e' : k = b := e
    subst e'
    exact wpAny_truthy_bool ⟨H, I, q⟩
  | int i =>
    obtain ⟨t, rfl⟩ := rx
    have e' : k = (i != 0) := e
    subst e'
    exact PySem.P.truthy_int ⟨H, I, q⟩
  | str y =>
    obtain ⟨t, rfl⟩ := rx
    obtain ⟨hy, e'⟩ : y.length ≤ sizeLine ∧ k = ((y.length : Int) != 0) := e
    subst e'
    exact PySem.P.truthy_str (by omega) ⟨H, I.tok _, q⟩
  | byt y =>
    obtain ⟨t, rfl⟩ := rx
    obtain ⟨hy, e'⟩ : y.size ≤ sizeLine ∧ k = ((y.size : Int) != 0) := e
    subst e'
    exact PySem.W.truthy_bytes (by omega) ⟨H, I.tok _, q⟩
  | ref p =>
    cases rx
    have e' : (∃ xs, SqL X.K H p xs ∧ k = !xs.isEmpty) ∨ (∃ xs, SqT X.K H p xs ∧ k = !xs.isEmpty) ∨ ∃ kvs, H p = some (.dK kvs) ∧ k = !kvs.isEmpty := e
    rcases e' with ⟨xs, hx, e'⟩ | ⟨xs, hx, e'⟩ | ⟨kvs, hx, e'⟩
    · subst e'
      obtain ⟨its, r, pl, hz⟩ := I.list hx
      have hlen := r.length
      exact wpAny_truthy_list pl.isList (by simp only [List.size_toArray]; omega) ⟨H, I.tok _, by rw [isEmpty_of r]; exact q⟩
    · subst e'
      obtain ⟨its, r, pl, hz⟩ := I.tuple hx
      have hlen := r.length
      exact truthy_tuple pl (by simp only [List.size_toArray]; omega) ⟨H, I.tok _, by rw [isEmpty_of r]; exact q⟩
    · subst e'
      obtain ⟨hz, hS, vs, r, m⟩ : kvs.length ≤ sizeLine ∧ (p == sysModules) = false ∧ ∃ vs, KV kvs vs ∧ s.heap.DictOf (mixKind X.prog X.w) p vs := I.hok p _ hx
      have hlen : kvs.length = vs.length := Paired.length r
      exact wpAny_truthy_dict hS m (by omega) ⟨H, I.tok _, by rw [isEmpty_kv r]; exact q⟩
  | _ => exact (show False from e).elim
theorem pt_truth (ha : PE X a ta) (he : ∀ whole, isTrue a X.env whole = (do let v ← whole; standAt a.pos; holding [v] (truthy v))) :
    PT X a (fun σ H Q => ta σ H fun x H' => ∃ k, TruV X.K x H' k ∧ Q k H') := by
  intro pins s σ H Q I h
  exact isTrue_plain (thn (ha pins s σ H _ I h) fun v s1 ⟨x, H1, I1, r1, q1⟩ => tru_ok pins s1 σ H1 x v Q I1 r1 q1) (he _)
theorem op_add_str : OpR X (binaryOp .Add) (fun x y H Q => ∃ i j, x = .str i ∧ y = .str j ∧ i.length + j.length ≤ sizeLine ∧ Q (.str (i ++ j)) H) := by
  intro pins s σ H x y v u Q I rx ry h
  obtain ⟨i, j, rfl, rfl, hz, q⟩ := h
  obtain ⟨t, rfl⟩ := rx
  obtain ⟨t', rfl⟩ := ry
  exact add_str (fun t' tk => ⟨.str (i ++ j), H, I.tok _, ⟨_, rfl⟩, q⟩) hz
theorem vals1 {x : V} {us : List Value} (r : Vals [x] us) : ∃ u, us = [u] ∧ RelV x u := by
  cases r with
  | cons r1 r2 => cases r2; exact ⟨_, rfl, r1⟩
theorem vals2 {x y : V} {us : List Value} (r : Vals [x, y] us) : ∃ u w', us = [u, w'] ∧ RelV x u ∧ RelV y w' := by
  cases r with
  | cons r1 r2 =>
    cases r2 with
    | cons r3 r4 => cases r4; exact ⟨_, _, rfl, r1, r3⟩
theorem call_str_int : CallR X (.type "str") (fun xs H Q => ∃ i, xs = [.int i] ∧ i.natAbs.log2 < 1920 ∧ Q (.str (toString i)) H) := by
  intro pins s σ H xs us Q I r h
  obtain ⟨i, rfl, hz, q⟩ := h
  obtain ⟨u, rfl, t, rfl⟩ := vals1 r
  exact PySem.P.str_of_int hz ⟨.str _, H, I.tok _, ⟨_, rfl⟩, q⟩
end
end L2
namespace L2
open PySem PySem.Spec PyProof.Rows
structure ObjM (h : Heap) (x dx C : Addr) (mA : Str → Option Value) : Prop where
  obj : h.get? x = some (PySem.W.instObj C dx)
  ns : h.Ns1 dx mA
  ne : dx ≠ x
theorem lookIn_ns {h : Heap} {dx : Addr} {mA : Str → Option Value} (n : h.Ns1 dx mA) : ∃ od, h.get? dx = some od ∧ ∀ name, PySem.W.lookIn name od = some (mA name) := by
  obtain ⟨o, es, ep, ho, hd, hk, _, hm⟩ := n
  refine ⟨o, ho, fun name => ?_⟩
  have e := hm name
  unfold nsFind findBy at e
  rw [← Array.find?_toList] at e
  unfold PySem.W.lookIn
  rw [hd]
  dsimp only
  split
  · rename_i y q
    rw [q] at e
    exact congrArg some e
  · rename_i q
    rw [q] at e
    have a : es.toList.any (·.refKey) = false := by
      rw [List.any_eq_false]
      intro y hy
      obtain ⟨z, t, hkey⟩ := hk y (Array.mem_toList_iff.mp hy)
      simp [DictEntry.refKey, hkey]
    have a' : ¬ es.toList.any (·.refKey) = true := by rw [a]; exact Bool.false_ne_true
    rw [if_neg a']
    exact congrArg some e
theorem ObjM.look {h : Heap} {x dx C : Addr} {mA : Str → Option Value} (I : ObjM h x dx C mA) : ∃ od, PySem.W.InstAt h x (PySem.W.instObj C dx) C (some od) ∧ ∀ name, PySem.W.lookIn name od = some (mA name) :=
  let ⟨od, ho, hl⟩ := lookIn_ns I.ns
  ⟨od, ⟨I.obj, rfl, rfl, ho⟩, hl⟩
theorem RelO.some_of {v : V} {o : Option Value} (r : RelO (some v) o) : ∃ u, o = some u ∧ RelV v u := by
  cases o with
  | none => exact (show False from r).elim
  | some u => exact ⟨u, rfl, r⟩
theorem handed_of {v : V} {u : Value} (r : RelV v u) : PySem.W.handedIn u = true := by
  cases v with
  | non => cases (show u = Value.none from r); rfl
  | bl b => cases (show u = Value.bool b from r); rfl
  | int i => obtain ⟨t, e⟩ := (show ∃ t, u = Value.int i t from r); cases e; rfl
  | str x => obtain ⟨t, e⟩ := (show ∃ t, u = Value.str x t from r); cases e; rfl
  | byt b => obtain ⟨t, e⟩ := (show ∃ t, u = Value.bytes b t from r); cases e; rfl
  | flt b => obtain ⟨t, e⟩ := (show ∃ t, u = Value.float b t from r); cases e; rfl
  | ref a => cases (show u = Value.ref a from r); rfl
  | ty n => cases (show u = Value.type n from r); rfl
section
variable {P : Program} {w : World} {H H' : Hp} {h h' : Heap} {a C dx : Addr} {fs fs' : List (Str × V)}
theorem ins_get (hok : HOk P w H h) (e : H a = some (.ins C dx fs)) : ∃ mA, ObjM h a dx C mA ∧ (∀ f, RelO (fs.lookup f) (mA f)) ∧ PySem.Within mA (fs.map (·.1)) ∧ fs.length ≤ 1000 ∧ H dx = some (.own a) := by
  obtain ⟨d, z, ne, ob, mA, n, r, q⟩ := (show ObjOk P w H h a (.ins C dx fs) from hok a _ e)
  exact ⟨mA, ⟨ob, n, ne⟩, r, q, z, d⟩
end
structure Cls (K : PySem.W.Frag) (C : Addr) : Prop where
  pg : PySem.W.plainGet K C Str.empty = true
  hd : PySem.W.hasDictIn K C = true
  po : PySem.W.plainOver K C = true
  sa : PySem.W.findIn K (.ref C) "__setattr__" = some (some (.builtin "object.__setattr__"))
theorem Cls.get {K : PySem.W.Frag} {C : Addr} (c : Cls K C) (f : Str) : PySem.W.plainGet K C f = true := c.pg
section
variable {X : Cx} {pins : List (Addr × Obj)} {σ : St} {H : Hp} {s : Shared} {a C dx : Addr} {fs : List (Str × V)} {f : Str} {v : V} {A : Around} {E : Value → Shared → Prop}
theorem attr_of {prog : Program} {w : World} {env : Env} {e : Expr} {f : Str} {pos : Pos} {s : Shared} {Q : Value → Shared → Prop} (hb : attributeBase e f env (eval e env) = eval e env)
    (h : wpAny (model prog w) A (eval e env) (fun o s₁ => wpAny (model prog w) A (getAttr o f true) Q E s₁) E s) : wpAny (model prog w) A (eval (.Attribute e f pos) env) Q E s :=
  Attribute_any_ h (by rw [arm_eval_Attribute, hb])
end
section
variable {X : Cx} {pins : List (Addr × Obj)} {σ : St} {H : Hp} {s : Shared} {A : Around} {E : Value → Shared → Prop} {Q : Value → Shared → Prop} {c : Value} {b : Bool}
inductive TyOf (K : PySem.W.Frag) (H : Hp) : V → Value → Prop where
  | non : TyOf K H .non (.type "NoneType")
  | bl (x : Bool) : TyOf K H (.bl x) (.type "bool")
  | int (i : Int) : TyOf K H (.int i) (.type "int")
  | str (x : Str) : TyOf K H (.str x) (.type "str")
  | flt (x : UInt64) : TyOf K H (.flt x) (.type "float")
  | lst {a : Addr} {xs : List V} (e : H a = some (.lst xs)) : TyOf K H (.ref a) (.type "list")
  | frz {a : Addr} {o : Obj} {xs : List V} (e : H a = some (.frz o (.lst xs))) : TyOf K H (.ref a) (.type "list")
  | tup {a : Addr} {xs : List V} (e : H a = some (.tup xs)) : TyOf K H (.ref a) (.type "tuple")
  | dK {a : Addr} {kvs : List (Key × V)} (e : H a = some (.dK kvs)) : TyOf K H (.ref a) (.type "dict")
  | dT {a : Addr} {kvs : List (List Key × V)} (e : H a = some (.dT kvs)) : TyOf K H (.ref a) (.type "dict")
  | ins {a C dx : Addr} {fs : List (Str × V)} (e : H a = some (.ins C dx fs)) (cl : Cls K C) (ha : PySem.W.findIn K (.ref C) "__class__" = some (some (.builtin "object.__class__")))
      (hn : PySem.W.specialIn K (.builtin "object.__class__") "__get__" = some (some (.builtin "getset_descriptor.__get__"))) (htk : PySem.W.takesIn K (.builtin "object.__class__") = some true)
      (hm : PySem.W.mroIn K C (.type "object") = some true) : TyOf K H (.ref a) (.ref C)
theorem isinst_ok {x : V} {u t : Value} (I : Inv X pins σ H s) (rx : RelV x u) (ty : TyOf X.K H x t) (e : PySem.W.kitOne X.K t c = some b) (h : ∀ tk, Q (.bool b) { s with toks := tk }) :
    wpAny (model X.prog X.w) A (call (.builtin "isinstance") [u, c]) Q E s := by
  cases ty with
  | non => cases (show u = Value.none from rx); exact PySem.W.kia_one PySem.W.kitx_none I.kIn True.intro e (fun z => nomatch z) h
  | bl y => cases (show u = Value.bool y from rx); exact PySem.W.kia_one PySem.W.kitx_bool I.kIn True.intro e (fun z => nomatch z) h
  | int i => obtain ⟨t, q⟩ := (show ∃ t, u = Value.int i t from rx); cases q; exact PySem.W.kia_one PySem.W.kitx_int I.kIn True.intro e (fun z => nomatch z) h
  | str y => obtain ⟨t, q⟩ := (show ∃ t, u = Value.str y t from rx); cases q; exact PySem.W.kia_one PySem.W.kitx_str I.kIn True.intro e (fun z => nomatch z) h
  | flt y => obtain ⟨t, q⟩ := (show ∃ t, u = Value.float y t from rx); cases q; exact PySem.W.kia_one PySem.W.kitx_float I.kIn True.intro e (fun z => nomatch z) h
  | @lst a xs ea =>
    cases (show u = Value.ref a from rx)
    obtain ⟨_, _, n, _, h1⟩ := (show ObjOk X.prog X.w H s.heap a (.lst xs) from I.hok a _ ea)
    exact PySem.W.kia_one PySem.W.kitx_list I.kIn ⟨_, h1, rfl⟩ e (fun z => nomatch z) h
  | @frz a ob xs ea =>
    cases (show u = Value.ref a from rx)
    obtain ⟨_, _, _, n, _, h1⟩ := (show ObjOk X.prog X.w H s.heap a (.frz ob (.lst xs)) from I.hok a _ ea)
    exact PySem.W.kia_one PySem.W.kitx_list I.kIn ⟨_, h1, rfl⟩ e (fun z => nomatch z) h
  | @tup a xs ea =>
    cases (show u = Value.ref a from rx)
    obtain ⟨_, _, _, p⟩ := (show ObjOk X.prog X.w H s.heap a (.tup xs) from I.hok a _ ea)
    obtain ⟨o, h1, h2, _⟩ := p
    exact PySem.W.kia_one PySem.W.kitx_tuple I.kIn ⟨o, h1, h2⟩ e (fun z => nomatch z) h
  | @dK a kvs ea =>
    cases (show u = Value.ref a from rx)
    obtain ⟨_, _, vs, _, p⟩ := (show ObjOk X.prog X.w H s.heap a (.dK kvs) from I.hok a _ ea)
    obtain ⟨o, es, ep, h1, h2, _⟩ := p
    exact PySem.W.kia_one PySem.W.kitx_dict I.kIn ⟨o, h1, h2.1⟩ e (fun z => nomatch z) h
  | @dT a kvs ea =>
    cases (show u = Value.ref a from rx)
    obtain ⟨_, _, xs, _, o, es, ep, h1, h2, _⟩ := (show ObjOk X.prog X.w H s.heap a (.dT kvs) from I.hok a _ ea)
    exact PySem.W.kia_one PySem.W.kitx_dict I.kIn ⟨o, h1, h2.1⟩ e (fun z => nomatch z) h
  | @ins a C dx fs ea cl ha hn htk hm =>
    cases (show u = Value.ref a from rx)
    obtain ⟨mA, O, _⟩ := ins_get I.hok ea
    obtain ⟨od, J, _⟩ := O.look
    exact PySem.W.kia_one (PySem.W.kitx_own (cl.get _) cl.hd ha hn htk hm) I.kIn J e (fun z => nomatch z) h
end
end L2
namespace L2
open PySem PySem.Spec PyProof.Rows
structure Room (k : Nat) (A : Around) : Prop where
  hd : A.handled = none
  dp : A.depth + 3 * k + 5 < recursionLimit
  un : A.units + 16 * k + 200 < cLine
theorem Room.mono {j k : Nat} {A : Around} (r : Room k A) (h : j ≤ k) : Room j A := ⟨r.hd, by have := r.dp; omega, by have := r.un; omega⟩
theorem Room.deeper {k : Nat} {A : Around} (r : Room (k + 1) A) (env : Env) : Room k (A.deeper env) :=
  ⟨r.hd, by have := r.dp; show A.depth + 1 + 3 * k + 5 < _; omega, by have := r.un; show A.units + 3 + 16 * k + 200 < _; omega⟩
theorem make_depth {A : Around} {C : Addr} {us : List Value} {kw : List (Str × Value)} : (A.under (.builtin "type.__call__" ⟨.ref C :: us, kw⟩)).depth = A.depth + 1 := by
  first | rfl | simp [Around.under, Code.weight, Code.isCreation, Code.isGuard, Code.isCaller, Code.frames, Code.isFrame, guardIds]
theorem make_units {A : Around} {C : Addr} {us : List Value} {kw : List (Str × Value)} : (A.under (.builtin "type.__call__" ⟨.ref C :: us, kw⟩)).units = A.units + 1 := by
  first | rfl | simp [Around.under, Code.cUnits, Code.frames, Code.isFrame]
theorem Room.make {k : Nat} {A : Around} (r : Room (k + 1) A) (C : Addr) (us : List Value) (kw : List (Str × Value)) : Room k (A.under (.builtin "type.__call__" ⟨.ref C :: us, kw⟩)) :=
  ⟨r.hd, by have := r.dp; rw [make_depth]; omega, by have := r.un; rw [make_units]; omega⟩
theorem Room.depth {k : Nat} {A : Around} (r : Room k A) : A.depth < recursionLimit := by have := r.dp; omega
theorem Room.units {k : Nat} {A : Around} (r : Room k A) : A.units + 64 < cLine := by have := r.un; omega
def tNil : TA := fun _ H Q => Q [] H
def tCons (ta : TE) (tr : TA) : TA := fun σ H Q => ta σ H fun x H1 => tr σ H1 fun xs H2 => Q (x :: xs) H2
section
variable {X : Cx} {e : Expr} {es : List Expr} {te : TE} {t : TA} {pos : Pos}
theorem pa_nil : PA X [] tNil := fun _ _ _ _ H Q I h => Calls.spliced_nil ⟨[], H, I, .nil, h⟩
theorem pa_cons (ha : PE X e te) (hr : PA X es t) (hs : starEach (e :: es) X.env = (false, eval e X.env) :: starEach es X.env := by rfl) : PA X (e :: es) (tCons te t) := by
  intro pos pins s σ H Q I h
  rw [hs]
  show wpAny _ _ (spliced ((false, eval e X.env) :: backTo pos (starEach es X.env))) _ _ s
  refine Calls.spliced_cons (thn (ha pins s σ H _ I h) fun u s1 ⟨x, H1, I1, r1, q1⟩ => ?_)
  exact thn (hr pos pins s1 σ H1 _ I1 q1) fun us s2 ⟨xs, H2, I2, r2, q2⟩ => ⟨x :: xs, H2, I2, .cons r1 r2, q2⟩
def tTup (t : TA) : TE := fun σ H Q => t σ H fun xs H1 => xs.length ≤ sizeLine ∧ ∀ p, H1 p = none → Q (.ref p) (upd H1 p (.tup xs))
def tLst (t : TA) : TE := fun σ H Q => t σ H fun xs H1 => xs.length ≤ sizeLine ∧ ∀ p, H1 p = none → Q (.ref p) (upd H1 p (.lst xs))
theorem pe_tup {x1} (h : PA X es t) : PE X (.Tuple es x1 pos) (tTup t) := by
  intro pins s σ H Q I hq
  refine wpAny_Tuple_spliced (thn (h pos pins s σ H _ I hq) fun us s1 ⟨xs, H1, I1, r, z, q⟩ => ⟨by rw [← r.length]; exact z, ?_⟩)
  have hf : H1 s1.heap.objs.size = none := I1.hok.fresh (Nat.le_refl _)
  refine ⟨.ref s1.heap.objs.size, upd H1 s1.heap.objs.size (.tup xs), I1.laid (t' := s1.toks) (fun b u e => Heap.get?_push_of_some _ e) (Nat.le_refl _) ?_, rfl, q _ hf⟩
  exact ⟨z, us, r, ⟨_, Heap.get?_push_size _ rfl, rfl, _, rfl⟩⟩
theorem pe_lst (h : PA X es t) : PE X (.List es pos) (tLst t) := by
  intro pins s σ H Q I hq
  refine wpAny_List_spliced (thn (h pos pins s σ H _ I hq) fun us s1 ⟨xs, H1, I1, r, z, q⟩ => ⟨by rw [← r.length]; exact z, ?_⟩)
  have hf : H1 s1.heap.objs.size = none := I1.hok.fresh (Nat.le_refl _)
  refine ⟨.ref s1.heap.objs.size, upd H1 s1.heap.objs.size (.lst xs), I1.laid (t' := s1.toks) (fun b u e => Heap.get?_push_of_some _ e) (Nat.le_refl _) ?_, rfl, q _ hf⟩
  exact ⟨z, us, 0, r, Heap.get?_push_size _ rfl⟩
end
abbrev Sp := List V → Hp → VK → XK → Prop
abbrev CXT := List Env → Hp → Shared → XK → Value → Shared → Prop
structure Env0 (P : Program) (w : World) (K : PySem.W.Frag) (mg : Str → Option Value) (base : Heap) (A : Around) (outer : List Env) (s : Shared) (H : Hp) : Prop where
  frames : A.frames = some outer
  mod : Mod K mg base
  bs : ∀ b o, base.get? b = some o → s.heap.get? b = some o ∧ H b = none
  bsz : base.objs.size ≤ s.heap.objs.size
  funs : s.heap.FunFrames base outer
  frf : ∀ b ∈ frs outer, H b = none
  hok : HOk P w H s.heap
  bare : AllBare s.gens
def CE (outer : List Env) (P : Program) (w : World) (H : Hp) (s : Shared) (Q : VK) (u : Value) (s' : Shared) : Prop :=
  ∃ v H', s'.os = s.os ∧ AllBare s'.gens ∧ Un (frs outer) [] H H' s.heap s'.heap ∧ HOk P w H' s'.heap ∧ RelV v u ∧ Q v H'
def CR (CX : CXT) (outer : List Env) (P : Program) (w : World) (H : Hp) (s : Shared) (Q : VK) (E : XK) (r : Result) (s' : Shared) : Prop :=
  match r with
  | .ok (.ret u) => CE outer P w H s Q u s'
  | .ok _ => False
  | .error e => CX outer H s E e s'
structure FnOk (P : Program) (w : World) (K : PySem.W.Frag) (mg : Str → Option Value) (base : Heap) (CX : CXT) (k : Nat) (f : Addr) (fd : FuncData) (ps : List Str) (sp : Sp) : Prop where
  len : ∀ vs H Q E, sp vs H Q E → vs.length = ps.length
  run : ∀ (A : Around) (outer : List Env) (s : Shared) (H : Hp) (args : Args) (us : List Value) (vs : List V) (Q : VK) (E : XK), Room k A → Env0 P w K mg base A outer s H → BindsTo s fd args (ps.zip us) → Vals vs us → sp vs H Q E →
    codeAny (model P w) A (.call (.ref f) args) (CR CX outer P w H s Q E) s
theorem FnOk.mono {P : Program} {w : World} {K : PySem.W.Frag} {mg : Str → Option Value} {base : Heap} {CX : CXT} {j k : Nat} {f : Addr} {fd : FuncData} {ps : List Str} {sp : Sp} (F : FnOk P w K mg base CX j f fd ps sp) (h : j ≤ k) :
    FnOk P w K mg base CX k f fd ps sp := ⟨F.len, fun A outer s H args us vs Q E hr => F.run A outer s H args us vs Q E (hr.mono h)⟩
theorem FnOk.imp {P : Program} {w : World} {K : PySem.W.Frag} {mg : Str → Option Value} {base : Heap} {CX : CXT} {k : Nat} {f : Addr} {fd : FuncData} {ps : List Str} {sp sp' : Sp} (F : FnOk P w K mg base CX k f fd ps sp)
    (h : ∀ vs H Q E, sp' vs H Q E → sp vs H Q E) : FnOk P w K mg base CX k f fd ps sp' :=
  ⟨fun vs H Q E q => F.len vs H Q E (h _ _ _ _ q), fun A outer s H args us vs Q E hr he hb hv hs => F.run A outer s H args us vs Q E hr he hb hv (h _ _ _ _ hs)⟩
theorem Env0.make {P : Program} {w : World} {K : PySem.W.Frag} {mg : Str → Option Value} {base : Heap} {A : Around} {outer : List Env} {s : Shared} {H : Hp} (e : Env0 P w K mg base A outer s H) (C : Addr) (us : List Value) (kw : List (Str × Value)) :
    Env0 P w K mg base (A.under (.builtin "type.__call__" ⟨.ref C :: us, kw⟩)) outer s H := ⟨by first | exact e.frames | (simpa [Around.under, Code.envs, Code.isFrame, pushEnvs] using e.frames), e.mod, e.bs, e.bsz, e.funs, e.frf, e.hok, e.bare⟩
section
variable {X : Cx} {pins : List (Addr × Obj)} {σ : St} {H : Hp} {s s' : Shared}
theorem Inv.env0 (I : Inv X pins σ H s) : Env0 X.prog X.w X.K X.mg X.base X.A X.stack s H :=
  ⟨I.ok.frames, I.ok.mod, I.bs, Nat.le_trans I.ok.bsz I.sz, I.stack, I.stkFree, I.hok, I.bare⟩
theorem Inv.after {Q : VK} {u : Value} (I : Inv X pins σ H s) (h : CE X.stack X.prog X.w H s Q u s') : EP X pins σ Q u s' := by
  obtain ⟨v, H', os, bare, un, hok, r, q⟩ := h
  obtain ⟨hh, g, d, t, os'⟩ := s'
  obtain rfl : os' = s.os := os
  exact ⟨v, H', I.call (h' := hh) (g' := g) (d' := d) (t' := t) (ch := []) un hok bare (fun b z => absurd z (by simp)), r, q⟩
end
def tCall (sp : Sp) (dvs : List V) (E : XK) (t : TA) : TE := fun σ H Q => t σ H fun vs H1 => sp (vs ++ dvs) H1 Q E
def Binds (K : PySem.W.Frag) (fd : FuncData) (ps : List Str) (ds : List Value) : Prop :=
  ∀ (s : Shared) (us : List Value), K.In s.heap → (us ++ ds).length = ps.length → BindsTo s fd ⟨us, []⟩ (ps.zip (us ++ ds))
theorem Binds.all {K : PySem.W.Frag} {fd : FuncData} {ps : List Str} (h : ∀ us : List Value, us.length = ps.length → bindArgs fd ⟨us, []⟩ = pure (ps.zip us)) : Binds K fd ps [] := fun s us _ hl => by
  rw [List.append_nil] at hl ⊢
  exact .of_eq (h us hl)
def Passes (CX : CXT) (X : Cx) (E : XK) : Prop := ∀ (pins : List (Addr × Obj)) (σ : St) (H : Hp) (s : Shared) (e : Value) (s' : Shared), Inv X pins σ H s → CX X.stack H s E e s' → X.xe e s'
section
variable {X : Cx} {CX : CXT} {k : Nat} {f C : Addr} {fd : FuncData} {ps : List Str} {sp : Sp} {dvs : List V} {ds : List Value} {E : XK} {x m : Str} {p pos apos : Pos} {e o : Expr} {es : List Expr} {ta : TE} {t : TA}
theorem run_fn {pins : List (Addr × Obj)} {σ : St} {H : Hp} {s : Shared} {Q : VK} {us : List Value} {vs : List V} (F : FnOk X.prog X.w X.K X.mg X.base CX k f fd ps sp) (hr : Room k X.A) (hb : Binds X.K fd ps ds) (hd : Vals dvs ds) (hx : Passes CX X E)
    (I : Inv X pins σ H s) (r : Vals vs us) (h : sp (vs ++ dvs) H Q E) : wpAny (model X.prog X.w) X.A (call (.ref f) us) (EP X pins σ Q) X.xe s := by
  have r2 : Vals (vs ++ dvs) (us ++ ds) := r.append hd
  have hl : (us ++ ds).length = ps.length := by rw [← r2.length]; exact F.len _ _ _ _ h
  refine wpAny_call (codeAny_mono (F.run X.A X.stack s H ⟨us, []⟩ (us ++ ds) (vs ++ dvs) Q E hr I.env0 (hb s us I.kIn hl) r2 h) fun r s' hq => ?_)
  cases r with
  | error e => exact hx pins σ H s e s' I hq
  | ok fl =>
    cases fl with
    | ret u => exact I.after hq
    | next => exact False.elim hq
    | brk => exact False.elim hq
    | cont => exact False.elim hq
theorem pe_call (F : FnOk X.prog X.w X.K X.mg X.base CX k f fd ps sp) (hr : Room k X.A) (hg : Gl X x) (hm : X.mg x = some (.ref f)) (hk : PySem.W.keepIn X.K (.ref f) = true) (hb : Binds X.K fd ps ds) (hd : Vals dvs ds) (hx : Passes CX X E)
    (ha : PA X (e :: es) t) (hdb : (x == ("__debug__" : Str)) = false := by decide) (he : starEach (e :: es) X.env = (false, eval e X.env) :: starEach es X.env := by rfl) (hpl : (backTo pos (starEach es X.env)).any (·.1) = false := by rfl) :
    PE X (.Call (.Name x p) (e :: es) [] pos) (tCall sp dvs E t) := by
  intro pins s σ H Q I h
  refine wpAny_Call_Name_kw (ld_glob I hg hm ?_ hdb)
  refine PySem.W.callWith_K (h₀ := X.base) I.ok.mod.kin hk (thn (ha pos pins s σ H _ I h) fun us s1 ⟨vs, H1, I1, r, q⟩ => ⟨I1.kIn, ?_⟩) he hpl
  exact run_fn F hr hb hd hx I1 r q
end
structure FnScope (N P : List Str) (sc : Scope) : Prop where
  kind : sc.kind = .function
  co : sc.isCoroutine = false
  gen : sc.isGenerator = false
  nd : N.Nodup
  pre : N.take P.length = P
  par : ∀ x ∈ P, sc.names.lookup x = some .local ∨ sc.names.lookup x = some .cell
  nofree : ∀ y ∈ sc.names, y.2 ≠ .free
theorem bindL_out {kindOf : Str → Option NameKind} {x : Str} : ∀ {binds : List (Str × Value)} {m : Str → Option Value}, (∀ v, (x, v) ∉ binds) → bindL kindOf binds m x = m x
  | [], _, _ => rfl
  | (n, v) :: r, m, h => by
    unfold bindL
    rw [bindL_out fun w hw => h w (List.mem_cons_of_mem _ hw)]
    split
    · have : x ≠ n := by rintro rfl; exact h v List.mem_cons_self
      simp [this]
    · rfl
theorem bindC_out {kindOf : Str → Option NameKind} {x : Str} : ∀ {binds : List (Str × Value)} {m : Str → Option Value}, (∀ v, (x, v) ∉ binds) → bindC kindOf binds m x = m x
  | [], _, _ => rfl
  | (n, v) :: r, m, h => by
    unfold bindC
    rw [bindC_out fun w hw => h w (List.mem_cons_of_mem _ hw)]
    split
    · rfl
    · have : x ≠ n := by rintro rfl; exact h v List.mem_cons_self
      simp [this]
theorem bindL_get {kindOf : Str → Option NameKind} {x : Str} {v : Value} : ∀ {P : List Str} {vs : List Value} {i : Nat} {m : Str → Option Value}, P.Nodup → P[i]? = some x → vs[i]? = some v → kindOf x = some .local →
    bindL kindOf (P.zip vs) m x = some v
  | [], _, _, _, _, h, _, _ => by simp at h
  | _ :: _, [], _, _, _, _, h, _ => by simp at h
  | p :: P, w :: vs, 0, m, nd, h1, h2, hk => by
    simp at h1 h2; subst h1; subst h2
    show bindL kindOf ((p, w) :: P.zip vs) m p = _
    unfold bindL
    rw [bindL_out fun v hv => (List.nodup_cons.mp nd).1 (List.of_mem_zip hv).1, if_pos hk]
    simp
  | p :: P, w :: vs, i + 1, m, nd, h1, h2, hk => by
    show bindL kindOf ((p, w) :: P.zip vs) m x = _
    unfold bindL
    exact bindL_get (i := i) (List.nodup_cons.mp nd).2 (by simpa using h1) (by simpa using h2) hk
theorem bindC_get {kindOf : Str → Option NameKind} {x : Str} {v : Value} : ∀ {P : List Str} {vs : List Value} {i : Nat} {m : Str → Option Value}, P.Nodup → P[i]? = some x → vs[i]? = some v → kindOf x ≠ some .local →
    bindC kindOf (P.zip vs) m x = some v
  | [], _, _, _, _, h, _, _ => by simp at h
  | _ :: _, [], _, _, _, _, h, _ => by simp at h
  | p :: P, w :: vs, 0, m, nd, h1, h2, hk => by
    simp at h1 h2; subst h1; subst h2
    show bindC kindOf ((p, w) :: P.zip vs) m p = _
    unfold bindC
    rw [bindC_out fun v hv => (List.nodup_cons.mp nd).1 (List.of_mem_zip hv).1, if_neg hk]
    simp
  | p :: P, w :: vs, i + 1, m, nd, h1, h2, hk => by
    show bindC kindOf ((p, w) :: P.zip vs) m x = _
    unfold bindC
    exact bindC_get (i := i) (List.nodup_cons.mp nd).2 (by simpa using h1) (by simpa using h2) hk
def start (N : List Str) (vs : List V) : St := vs.map some ++ List.replicate (N.length - vs.length) none
def cxOf (CX : CXT) (P : Program) (w : World) (K : PySem.W.Frag) (mg : Str → Option Value) (base : Heap) (N : List Str) (qual : Str) (scope : Scope) (f : Addr) (cd : Value) (A : Around) (outer : List Env) (s : Shared) (H : Hp) (E : XK) : Cx where
  prog := P
  w := w
  K := K
  mg := mg
  base := base
  A := A.deeper (envOfC qual scope s.heap.objs.size f cd)
  N := N
  s₀ := s
  H₀ := H
  env := envOfC qual scope s.heap.objs.size f cd
  outer := outer
  stack := envOfC qual scope s.heap.objs.size f cd :: outer
  ex := []
  calm := true
  fn := fun _ => true
  pn := []
  xe := fun e s' => wpAny (model P w) (A.deeper (envOfC qual scope s.heap.objs.size f cd)) (leaving (envOfC qual scope s.heap.objs.size f cd) e) (fun _ s'' => CX outer H s E e s'') (fun e' s'' => CX outer H s E e' s'') s'
theorem cell_has {sc : Scope} {n : Nat} {x : Str} (h : sc.names.lookup x = some .cell) : ∃ c, (cellsFrom n sc.names []).lookup x = some c := by
  have q := PySem.W.cellsFrom_some sc.names n [] (.inl h)
  exact Option.isSome_iff_exists.mp q
theorem inv_start {CX : CXT} {P : Program} {w : World} {K : PySem.W.Frag} {mg : Str → Option Value} {base : Heap} {N ps : List Str} {qual : Str} {scope : Scope} {f : Addr} {cd : Value} {A : Around} {outer : List Env} {s s1 : Shared} {H : Hp} {E : XK} {us : List Value} {vs : List V}
    (S : FnScope N ps scope) (hd : A.handled = none) (e0 : Env0 P w K mg base A outer s H) (hl : vs.length = ps.length) (r : Vals vs us)
    (x : InCallC s s.heap.objs.size (bindL (envOfC qual scope s.heap.objs.size f cd).kindOf (ps.zip us) fun _ => none) (cellsFrom (s.heap.objs.size + 1) scope.names []) (bindC (envOfC qual scope s.heap.objs.size f cd).kindOf (ps.zip us) fun _ => none) s1) :
    Inv (cxOf CX P w K mg base N qual scope f cd A outer s H E) [] (start N vs) H s1 := by
  have hpl : ps.length ≤ N.length := by have := congrArg List.length S.pre; rw [List.length_take] at this; omega
  obtain ⟨h1, tk, rfl, hk⟩ := x.done
  have noA : ∀ b : Addr, b ∉ (cxOf CX P w K mg base N qual scope f cd A outer s H E).ex := fun b z => absurd (show b ∈ ([] : List Addr) from z) (by simp)
  refine ⟨⟨e0.mod, S.kind, rfl, rfl, Nat.le_refl _, fun y z c h1 h2 => ?_, fun y hy => ?_, fun y c _ h => ?_, fun _ => hd, Around.frames_deeper e0.frames, .inr ⟨rfl, rfl⟩, fun b z => absurd z (noA b), e0.bs, e0.bsz, fun b _ _ => noA b, fun b z => absurd z (noA b), e0.funs, e0.frf⟩,
    rfl, e0.bare, Un.kept hk, ⟨_, x.toInCall.ns, fun i y v h1 h2 h3 => ?_⟩, fun y c h => ⟨_, x.cell y c h⟩, e0.hok.fresh (Nat.le_refl _), fun y c h => ?_, fun p hp => absurd (show p ∈ ([] : List (Addr × Obj)) from hp) (by simp), e0.hok.kept hk, ?_⟩
  · exact name_of_addr x.apart (PySem.mem_of_lookup h1) (PySem.mem_of_lookup h2)
  · have hy : scope.names.lookup y = some .cell ∨ scope.names.lookup y = some .free := hy
    rcases hy with hy | hy
    · exact cell_has hy
    · exact absurd rfl (S.nofree _ (PySem.mem_of_lookup hy))
  · exact Nat.le_of_lt (x.above y c (PySem.mem_of_lookup h))
  · have hi : i < vs.length := by
      unfold start at h2
      by_cases hi : i < vs.length
      · exact hi
      · rw [List.getElem?_append_right (by simpa using hi)] at h2
        rw [List.getElem?_replicate] at h2
        split at h2 <;> cases h2
    have ha : vs[i]? = some v := by
      unfold start at h2
      rw [List.getElem?_append_left (by simpa using hi), List.getElem?_map] at h2
      cases e : vs[i]? with
      | none => rw [e] at h2; cases h2
      | some a => rw [e] at h2; cases h2; rfl
    obtain ⟨u, hu, rv⟩ := r.get ha
    have hp : ps[i]? = some y := by
      rw [← S.pre, List.getElem?_take_of_lt (by omega)]; exact h1
    have ndP : ps.Nodup := by rw [← S.pre]; exact S.nd.sublist (List.take_sublist _ _)
    refine ⟨u, rv, ?_⟩
    rcases S.par y (List.mem_of_getElem? hp) with k | k
    · exact .inl ⟨k, bindL_get ndP hp hu k⟩
    · obtain ⟨c, e⟩ := cell_has (n := s.heap.objs.size + 1) k
      refine .inr ⟨.inl k, c, e, ?_⟩
      have q := x.cell y c e
      rw [bindC_get ndP hp hu (by show scope.names.lookup y ≠ _; rw [k]; decide)] at q
      exact q
  · exact e0.hok.fresh (Nat.le_of_lt (x.above y c (PySem.mem_of_lookup h)))
  · unfold start
    show _ = N.length
    rw [List.length_append, List.length_map, List.length_replicate]
    omega
theorem fn_of {CX : CXT} {P : Program} {w : World} {K : PySem.W.Frag} {mg : Str → Option Value} {base : Heap} {k : Nat} {f : Addr} {name qual : Str} {params : Arguments} {body : List Stmt} {scope : Scope} {dV kV doc pm cdv ct oc : Value} {an od : Option Addr}
    {osl : Array (Option Value)} {N ps : List Str} {sp : Sp} (lk : K.lookup f = some ⟨oc, od, .func (PySem.W.fnOf name qual params body scope dV kV doc pm an cdv ct), osl⟩) (hcd : PySem.W.codeIn K cdv qual = true) (S : FnScope N ps scope)
    (len : ∀ vs H Q E, sp vs H Q E → vs.length = ps.length)
    (hbody : ∀ (A : Around) (outer : List Env) (s : Shared) (H : Hp) (vs : List V) (Q : VK) (E : XK), Room k (A.deeper (envOfC qual scope s.heap.objs.size f cdv)) → sp vs H Q E →
      ∃ t, PSs (cxOf CX P w K mg base N qual scope f cdv A outer s H E) body t ∧ t { nx := fun _ H' => Q .non H', rt := Q } (start N vs) H) :
    FnOk P w K mg base CX (k + 1) f (PySem.W.fnOf name qual params body scope dV kV doc pm an cdv ct) ps sp := by
  refine ⟨len, fun A outer s H args us vs Q E hr e0 hb r hsp => ?_⟩
  have hl := len _ _ _ _ hsp
  have KX : K.In s.heap := e0.mod.kin.keeps fun b o e => (e0.bs b o e).1
  have lim : s.heap.NoLimit := e0.mod.nolimit.keeps fun b o e => (e0.bs b o e).1
  have hkind : ∀ y ∈ ps.zip us, scope.names.lookup y.1 = some .local ∨ (scope.names.lookup y.1 = some .cell ∧ ((cellsFrom (s.heap.objs.size + 1) scope.names []).lookup y.1).isSome = true) := fun ⟨n, v⟩ hy => by
    rcases S.par n (List.of_mem_zip hy).1 with q | q
    · exact .inl q
    · exact .inr ⟨q, PySem.W.cellsFrom_some _ _ _ (.inl q)⟩
  refine codeAny_call_function hr.depth (KX _ _ lk) rfl S.co S.gen rfl (PySem.W.codeRec_of KX hcd) (hb _ _ _ _ ?_)
  refine wpAny_newFunctionEnv_cells S.kind hkind fun env he s1 x => ?_
  subst he
  refine ⟨lim.keeps x.toInCall.keep, codeAny_func ?_⟩
  obtain ⟨t, ht, hq⟩ := hbody A outer s H vs Q E (hr.deeper _) hsp
  have I : Inv (cxOf CX P w K mg base N qual scope f cdv A outer s H E) [] (start N vs) H s1 := inv_start S hr.hd e0 hl r x
  refine wpAny_mono (ht [] s1 (start N vs) H _ I hq) (fun fl s' hs => ?_) fun e s' hs => hs
  have fin : ∀ {σ' : St} {H' : Hp} {v : V} {u : Value}, Inv (cxOf CX P w K mg base N qual scope f cdv A outer s H E) [] σ' H' s' → RelV v u → Q v H' → CE outer P w H s Q u s' :=
    fun {σ' H' v u} J rv q => ⟨v, H', J.os, J.bare, J.base, J.hok, rv, q⟩
  cases fl with
  | ret u =>
    obtain ⟨v, σ', H', J, rv, q⟩ := hs
    exact fin J rv q
  | next =>
    obtain ⟨σ', H', J, q⟩ := hs
    exact fin (v := V.non) (u := Value.none) J rfl q
  | brk =>
    obtain ⟨_, _, _, q⟩ := hs
    exact False.elim q
  | cont =>
    obtain ⟨_, _, _, q⟩ := hs
    exact False.elim q
end L2
namespace L2
open PySem PySem.Spec PyProof.Rows
section
variable {X : Cx} {x : Str} {p pos : Pos} {e : Expr} {es : List Expr} {t : TA} {id T : String} {r : List V → Hp → VK → Prop}
def tCB (r : List V → Hp → VK → Prop) (t : TA) : TE := fun σ H Q => t σ H fun vs H1 => r vs H1 Q
theorem pe_callB (hc : CallR X (.builtin id) r) (hg : Gl X x) (hm : X.mg x = none) (hv : bootBuiltins x = some (.builtin id)) (ha : PA X (e :: es) t) (hn : x ≠ "__name__" := by decide) (hdb : (x == ("__debug__" : Str)) = false := by decide)
    (he : starEach (e :: es) X.env = (false, eval e X.env) :: starEach es X.env := by rfl) (hpl : (backTo pos (starEach es X.env)).any (·.1) = false := by rfl) : PE X (.Call (.Name x p) (e :: es) [] pos) (tCB r t) := by
  intro pins s σ H Q I h
  refine wpAny_Call_Name_kw (ld_blt I hg hm hv ?_ hn hdb)
  exact PyProof.Rows.callWith_builtin1 (thn (ha pos pins s σ H _ I h) fun us s1 ⟨vs, H1, I1, r1, q1⟩ => hc pins s1 σ H1 vs us Q I1 r1 q1) he hpl
theorem pe_callTy (hc : CallR X (.type T) r) (hg : Gl X x) (hm : X.mg x = none) (hv : bootBuiltins x = some (.type T)) (ha : PA X (e :: es) t) (hn : x ≠ "__name__" := by decide) (hdb : (x == ("__debug__" : Str)) = false := by decide)
    (he : starEach (e :: es) X.env = (false, eval e X.env) :: starEach es X.env := by rfl) (hpl : (backTo pos (starEach es X.env)).any (·.1) = false := by rfl) : PE X (.Call (.Name x p) (e :: es) [] pos) (tCB r t) := by
  intro pins s σ H Q I h
  refine wpAny_Call_Name_kw (ld_blt I hg hm hv ?_ hn hdb)
  exact PyProof.Rows.callWith_type1 (thn (ha pos pins s σ H _ I h) fun us s1 ⟨vs, H1, I1, r1, q1⟩ => hc pins s1 σ H1 vs us Q I1 r1 q1) he hpl
end
end L2
namespace HT
open PySem PyProof.Rows
section
variable {prog : Program} {w : World} {A : Around} {E : Value → Shared → Prop} {s : Shared}
def sIx (n d : Nat) : Option Int → Nat
  | none => d
  | some v => if v < 0 then (v + (n : Int)).toNat else min v.toNat n
theorem sIx_none (n d : Nat) : sIx n d none = d := rfl
theorem sIx_nat (n d k : Nat) : sIx n d (some (k : Int)) = min k n := by
  show (if (k : Int) < 0 then ((k : Int) + (n : Int)).toNat else min (k : Int).toNat n) = min k n
  rw [if_neg (by omega), Int.toNat_natCast]
end
end HT
namespace L2
open PySem PySem.Spec PyProof.Rows
abbrev TO := St → Hp → (Option Int → Hp → Prop) → Prop
def PO (X : Cx) (e : Option Expr) (t : TO) : Prop :=
  ∀ (pins : List (Addr × Obj)) (s : Shared) (σ : St) (H : Hp) (Q : Option Int → Hp → Prop), Inv X pins σ H s → t σ H Q →
    wpAny (model X.prog X.w) X.A (evalPart e X.env) (fun u s' => ∃ o H', Inv X pins σ H' s' ∧ IsPart u o ∧ Q o H') X.xe s
def tNoPart : TO := fun _ H Q => Q none H
def tPart (t : TE) : TO := fun σ H Q => t σ H fun x H1 => ∃ i, x = .int i ∧ Q (some i) H1
theorem intsAre_of {ns : List Int} : ∀ {us : List Value}, Vals (ns.map V.int) us → IntsAre us ns := by
  induction ns with
  | nil => intro us r; rw [List.map_nil] at r; cases r; exact .nil
  | cons n ns ih =>
    intro us r
    rw [List.map_cons] at r
    cases r with
    | cons r1 r2 =>
      obtain ⟨t, e⟩ := r1
      subst e
      exact .cons n t (ih r2)
section
variable {X : Cx} {e : Expr} {te : TE} {lo hi : Option Expr} {tl th : TO} {pos p2 : Pos}
theorem po_none : PO X none tNoPart := by
  intro pins s σ H Q I h
  rw [evalPart_none]
  exact wpAny_pure ⟨none, H, I, .none, h⟩
theorem po_some (h : PE X e te) : PO X (some e) (tPart te) := by
  intro pins s σ H Q I hw
  rw [evalPart_some]
  refine thn (h pins s σ H _ I hw) fun u s1 ⟨x, H1, I1, r1, q1⟩ => ?_
  obtain ⟨i, rfl, q⟩ := q1
  obtain ⟨t, rfl⟩ := r1
  exact ⟨some i, H1, I1, .int i t, q⟩
def SlR (X : Cx) (r : V → Option Int → Option Int → Hp → VK → Prop) : Prop :=
  ∀ (pins : List (Addr × Obj)) (s : Shared) (σ : St) (H : Hp) (x : V) (v vl vu : Value) (lo hi : Option Int) (sl : Addr) (Q : VK), Inv X pins σ H s → RelV x v → s.heap.IsSliceOf sl vl vu .none → IsPart vl lo → IsPart vu hi → r x lo hi H Q →
    ∃ T id, typeLookup (.type T) "__getitem__" = pure (some (.builtin id)) ∧ s.TypeIs v T ∧ wpAny (model X.prog X.w) X.A (getItem v (.ref sl)) (EP X pins σ Q) X.xe s
def tSl (r : V → Option Int → Option Int → Hp → VK → Prop) (te : TE) (tl th : TO) : TE := fun σ H Q => te σ H fun x H1 => tl σ H1 fun l H2 => th σ H2 fun u H3 => r x l u H3 Q
theorem pe_slice {r : V → Option Int → Option Int → Hp → VK → Prop} (hr : SlR X r) (he : PE X e te) (hl : PO X lo tl) (hu : PO X hi th) : PE X (.Subscript e (.Slice lo hi none p2) pos) (tSl r te tl th) := by
  intro pins s σ H Q I h
  refine Subscript_ (thn (he pins s σ H _ I h) fun v s1 ⟨x, H1, I1, r1, q1⟩ => ?_)
  refine wpAny_Slice (thn (hl pins s1 σ H1 _ I1 q1) fun vl s2 ⟨l, H2, I2, pl, q2⟩ => thn (hu pins s2 σ H2 _ I2 q2) fun vu s3 ⟨u, H3, I3, pu, q3⟩ => ?_)
  rw [evalPart_none]
  refine wpAny_pure ?_
  have I4 : Inv X pins σ H3 { s3 with heap := s3.heap.push { cls := .type "slice", data := .fields #[vl, vu, .none] } } := I3.kept (t' := s3.toks) fun b ob q => Heap.get?_push_of_some _ q
  obtain ⟨T, id, hT, ht, hg⟩ := hr pins { s3 with heap := s3.heap.push { cls := .type "slice", data := .fields #[vl, vu, .none] } } σ H3 x v vl vu l u s3.heap.objs.size Q I4 r1 (Heap.IsSliceOf.new ..) pl pu q3
  show wpAny (model X.prog X.w) X.A (subscriptTail e (.Slice lo hi none p2) v (.ref s3.heap.objs.size)) (EP X pins σ Q) X.xe { s3 with heap := s3.heap.push { cls := .type "slice", data := .fields #[vl, vu, .none] } }
  exact tail_any (ops := [.ref s3.heap.objs.size, v]) ht hT hg (by with_unfolding_all rfl)
def cutV (xs : List V) (lo hi : Option Int) : List V := (xs.drop (HT.sIx xs.length 0 lo)).take (HT.sIx xs.length xs.length hi - HT.sIx xs.length 0 lo)
theorem cutV_length (xs : List V) (lo hi : Option Int) : (cutV xs lo hi).length ≤ xs.length := by
  unfold cutV
  rw [List.length_take, List.length_drop]
  omega
end
end L2
namespace L2
open PySem PySem.Spec PyProof.Rows
def ixN (n : Nat) (i : Int) : Option Nat := if 0 ≤ i then (if i < n then some i.toNat else none) else if -(n : Int) ≤ i then some (i + n).toNat else none
def atI {α : Type} (xs : List α) (i : Int) : Option α := (ixN xs.length i).bind fun j => xs[j]?
theorem ixN_seq {n : Nat} {i : Int} {j : Nat} (h : ixN n i = some j) : seqIndex? i n = some j ∧ j < n ∧ -(n : Int) ≤ i ∧ i < n := by
  unfold ixN at h
  by_cases h0 : 0 ≤ i
  · rw [if_pos h0] at h
    by_cases h1 : i < n
    · rw [if_pos h1] at h
      have e : i.toNat = j := Option.some.inj h
      exact ⟨by rw [seqIndex_of h0 h1, e], by omega, by omega, h1⟩
    · rw [if_neg h1] at h; cases h
  · rw [if_neg h0] at h
    by_cases h1 : -(n : Int) ≤ i
    · rw [if_pos h1] at h
      have e : (i + n).toNat = j := Option.some.inj h
      exact ⟨by rw [seqIndex_neg (by omega) h1, e], by omega, h1, by omega⟩
    · rw [if_neg h1] at h; cases h
theorem atI_get {α : Type} {xs : List α} {i : Int} {v : α} (h : atI xs i = some v) : ∃ j, seqIndex? i xs.length = some j ∧ xs[j]? = some v ∧ j < xs.length ∧ -(xs.length : Int) ≤ i ∧ i < xs.length := by
  unfold atI at h
  cases e : ixN xs.length i with
  | none => rw [e] at h; cases h
  | some j =>
    rw [e] at h
    obtain ⟨h1, h2, h3, h4⟩ := ixN_seq e
    exact ⟨j, h1, h, h2, h3, h4⟩
theorem atI_nat {α : Type} {xs : List α} {j : Nat} {v : α} (h : xs[j]? = some v) : atI xs (j : Int) = some v := by
  have hj : j < xs.length := (List.getElem?_eq_some_iff.mp h).1
  have e : ixN xs.length (j : Int) = some j := by
    unfold ixN
    rw [if_pos (by omega), if_pos (by omega)]; simp
  unfold atI; rw [e]; exact h
def PlainIx (b : Expr) : Prop := ∀ o i, subscripted b false o i = operate [o, i] (getItem o i)
def IxR (X : Cx) (r : R2) : Prop :=
  ∀ (value slice : Expr) (pins : List (Addr × Obj)) (s : Shared) (σ : St) (H : Hp) (x y : V) (v u : Value) (Q : VK), Inv X pins σ H s → RelV x v → RelV y u → r x y H Q →
    subscripted slice false v u = operate [v, u] (getItem v u) → wpAny (model X.prog X.w) X.A (subscriptTail value slice v u) (EP X pins σ Q) X.xe s
def MtR (X : Cx) (id : String) (r : V → List V → Hp → VK → Prop) : Prop :=
  ∀ (pins : List (Addr × Obj)) (s : Shared) (σ : St) (H : Hp) (x : V) (xs : List V) (v : Value) (us : List Value) (Q : VK), Inv X pins σ H s → RelV x v → Vals xs us → r x xs H Q →
    wpAny (model X.prog X.w) X.A (call (.builtin id) (v :: us)) (EP X pins σ Q) X.xe s
section
variable {X : Cx} {a b : Expr} {ta tb : TE} {pos : Pos}
theorem pe_ix {r : R2} (hr : IxR X r) (ha : PE X a ta) (hb : PE X b tb) (hs : PlainIx b) : PE X (.Subscript a b pos) (tOp r ta tb) := by
  intro pins s σ H Q I h
  exact Subscript_ (binT ha hb I h fun v u s2 x y H2 I2 rx ry q => hr a b pins s2 σ H2 x y v u Q I2 rx ry q (hs _ _))
def rIxL (K : PySem.W.Frag) : R2 := fun x y H Q => ∃ p xs i v, x = .ref p ∧ y = .int i ∧ SqL K H p xs ∧ atI xs i = some v ∧ Q v H
def rIxT (K : PySem.W.Frag) : R2 := fun x y H Q => ∃ p xs i v, x = .ref p ∧ y = .int i ∧ SqT K H p xs ∧ atI xs i = some v ∧ Q v H
def rIxS : R2 := fun x y H Q => ∃ z i c, x = .str z ∧ y = .int i ∧ z.length ≤ sizeLine ∧ atI z.cps.toList i = some c ∧ Q (.str ⟨#[c]⟩) H
theorem ix_list : IxR X (rIxL X.K) := by
  intro value slice pins s σ H x y v u Q I rx ry h hs
  obtain ⟨p, xs, i, z, rfl, rfl, hq, he, q⟩ := h
  cases rx
  obtain ⟨t, rfl⟩ := ry
  obtain ⟨its, r, pl, hz⟩ := I.list hq
  obtain ⟨j, h1, h2, h3, h4, h5⟩ := atI_get he
  obtain ⟨w, ew, rw'⟩ := r.get h2
  have hl := r.length
  have hn := line63
  have fin : EP X pins σ Q w s := ⟨z, H, I, rw', q⟩
  by_cases h0 : 0 ≤ i
  · have hj : i.toNat = j := by
      rw [seqIndex_of h0 h5] at h1
      exact Option.some.inj h1
    exact item_listR pl.isList h0 (by omega) (by rw [hj]; simpa using ew) fin hs
  · have hj : (i + (its.toArray.size : Int)).toNat = j := by
      rw [seqIndex_neg (by omega) h4] at h1
      rw [List.size_toArray, ← hl]
      exact Option.some.inj h1
    exact subscriptTail_builtinR (x := w) pl.isList.typeIs slot_list_getitem.lookup
      (wpAny_getItem_list_neg (Q := fun r s' => r = w ∧ EP X pins σ Q r s') pl.isList (by omega) (by rw [List.size_toArray] <;> omega) (by omega) (by rw [hj]; simpa using ew) ⟨rfl, fin⟩) hs
theorem ix_tup : IxR X (rIxT X.K) := by
  intro value slice pins s σ H x y v u Q I rx ry h hs
  obtain ⟨p, xs, i, z, rfl, rfl, hq, he, q⟩ := h
  cases rx
  obtain ⟨t, rfl⟩ := ry
  obtain ⟨its, r, pl, hz⟩ := I.tuple hq
  obtain ⟨j, h1, h2, h3, h4, h5⟩ := atI_get he
  obtain ⟨w, ew, rw'⟩ := r.get h2
  have hl := r.length
  have hn := line63
  have fin : EP X pins σ Q w s := ⟨z, H, I, rw', q⟩
  exact subscriptTail_builtinR (x := w) pl.typeIs slot_tuple_getitem.lookup
    (getItem_tuple (j := j) (Q := fun r s' => r = w ∧ EP X pins σ Q r s') pl (by omega) (by omega) (by rw [List.size_toArray, ← hl]; exact h1) (by simpa using ew) ⟨rfl, fin⟩) hs
theorem ix_str : IxR X rIxS := by
  intro value slice pins s σ H x y v u Q I rx ry h hs
  obtain ⟨z, i, c, rfl, rfl, hz, he, q⟩ := h
  obtain ⟨t, rfl⟩ := rx
  obtain ⟨t', rfl⟩ := ry
  obtain ⟨j, h1, h2, h3, h4, h5⟩ := atI_get he
  have hl : z.cps.toList.length = z.length := by simp [Str.length]
  rw [hl] at h1 h4 h5
  have hn := line63
  exact tail_any (typeIs_str s z t) slot_str_getitem.lookup (getItem_str (c := c) (by
    have e1 : decide (i < -(2 ^ 63 : Int)) = false := decide_eq_false (by omega)
    have e2 : decide (i ≥ 2 ^ 63) = false := decide_eq_false (by omega)
    rw [e1, e2, Bool.or_false]) (by rw [h1]; simpa using h2) ⟨.str ⟨#[c]⟩, H, I.tok _, ⟨_, rfl⟩, q⟩) hs
theorem mapSeq_set (its : List Value) (n j : Nat) (u : Value) : Obj.mapSeq (·.setIfInBounds j u) { cls := .type "list", data := .seq its.toArray n } = { cls := .type "list", data := .seq (its.set j u).toArray n } := by
  simp [Obj.mapSeq]
theorem Inv.lst {pins : List (Addr × Obj)} {σ : St} {H : Hp} {s : Shared} {p : Addr} {xs : List V} (I : Inv X pins σ H s) (h : H p = some (.lst xs)) :
    ∃ (its : List Value) (n : Nat), Vals xs its ∧ s.heap.get? p = some { cls := .type "list", data := .seq its.toArray n } ∧ xs.length ≤ sizeLine := by
  obtain ⟨z, its, n, r, e⟩ := I.hok p _ h
  exact ⟨its, n, r, e, z⟩
theorem Inv.lstUpd {pins : List (Addr × Obj)} {σ : St} {H : Hp} {s : Shared} {p : Addr} {xs ys : List V} {its its' : List Value} {n n' : Nat} {f : Obj → Obj} (I : Inv X pins σ H s) (h : H p = some (.lst xs))
    (ho : s.heap.get? p = some { cls := .type "list", data := .seq its.toArray n }) (hf : f { cls := .type "list", data := .seq its.toArray n } = { cls := .type "list", data := .seq its'.toArray n' }) (r : Vals ys its') (hz : ys.length ≤ sizeLine) (t : Nat) :
    Inv X pins σ (upd H p (.lst ys)) { s with heap := s.heap.update p f, toks := t } := by
  have e : (s.heap.update p f).get? p = some { cls := .type "list", data := .seq its'.toArray n' } := by
    rw [Heap.get?_update_self f ho (by rw [hf] <;> rfl), hf]
  refine I.write (x := p) (e := p) (by rw [h]; trivial) (.inl rfl) (fun b u hb q => (Heap.get?_update_other _ _ (Ne.symm hb)).trans q) ⟨_, e⟩ ?_
  exact ⟨hz, its', n', r, e⟩
def rSetL : V → V → V → Hp → (Hp → Prop) → Prop := fun o i v H Q => ∃ p xs k j, o = .ref p ∧ i = .int k ∧ H p = some (.lst xs) ∧ ixN xs.length k = some j ∧ Q (upd H p (.lst (xs.set j v)))
theorem set_list : PSet X rSetL := by
  intro pins s σ H o i v ov iv u Q I ro ri rv h
  obtain ⟨p, xs, k, j, rfl, rfl, hp, hj, q⟩ := h
  cases ro
  obtain ⟨t, rfl⟩ := ri
  obtain ⟨its, n, r, ho, hz⟩ := I.lst hp
  obtain ⟨h1, h2, h3, h4⟩ := ixN_seq hj
  have hl := r.length
  have hn := line63
  have I' : Inv X pins σ (upd H p (.lst (xs.set j v))) { s with heap := s.heap.update p (Obj.mapSeq (·.setIfInBounds j u)) } :=
    I.lstUpd hp ho (mapSeq_set its n j u) (r.set rv j) (by rw [List.length_set]; exact hz) s.toks
  by_cases h0 : 0 ≤ k
  · have hk : k.toNat = j := by
      rw [seqIndex_of h0 h4] at h1
      exact Option.some.inj h1
    exact PySem.W.ki_setAt ho h0 (by omega) (by rw [List.size_toArray, ← hl]; exact h4) (by rw [hk]; exact ⟨_, I', q⟩)
  · have hk : (k + (its.toArray.size : Int)).toNat = j := by
      rw [seqIndex_neg (by omega) h3] at h1
      rw [List.size_toArray, ← hl]
      exact Option.some.inj h1
    exact PySem.W.ki_setBack ho (by omega) (by rw [List.size_toArray, ← hl]; exact h3) (by omega) (by rw [hk]; exact ⟨_, I', q⟩)
theorem slice_bounds (lo hi : Option Int) (n : Nat) : (sliceBounds lo hi none n).1 = ((HT.sIx n 0 lo : Nat) : Int) ∧ (sliceBounds lo hi none n).2.1 = ((HT.sIx n n hi : Nat) : Int) ∧ (sliceBounds lo hi none n).2.2 = 1 := by
  refine ⟨?_, ?_, rfl⟩
  · cases lo with
    | none => simp [sliceBounds, HT.sIx]
    | some i =>
      simp only [sliceBounds, HT.sIx, Option.getD_none, show (1 : Int) > 0 by decide, if_true]
      by_cases h : i < 0
      · simp only [h, if_true] <;> omega
      · simp only [h, if_false] <;> omega
  · cases hi with
    | none => simp [sliceBounds, HT.sIx]
    | some i =>
      simp only [sliceBounds, HT.sIx, Option.getD_none, show (1 : Int) > 0 by decide, if_true]
      by_cases h : i < 0
      · simp only [h, if_true] <;> omega
      · simp only [h, if_false] <;> omega
theorem slicePick_cut (its : List Value) (lo hi : Option Int) : slicePick its.toArray lo hi none = ((its.drop (HT.sIx its.length 0 lo)).take (HT.sIx its.length its.length hi - HT.sIx its.length 0 lo)).toArray := by
  obtain ⟨h1, h2, h3⟩ := slice_bounds lo hi its.toArray.size
  unfold slicePick
  rw [h1, h2, h3]
  simp only [sliceRange_one, pick_run, List.size_toArray] <;> rfl
def rSlL (K : PySem.W.Frag) : V → Option Int → Option Int → Hp → VK → Prop := fun x lo hi H Q => ∃ a xs, x = .ref a ∧ SqL K H a xs ∧ ∀ p, H p = none → Q (.ref p) (upd H p (.lst (cutV xs lo hi)))
theorem sl_list : SlR X (rSlL X.K) := by
  intro pins s σ H x v vl vu lo hi sl Q I rx hs pl pu h
  obtain ⟨a, xs, rfl, hx, q⟩ := h
  cases rx
  obtain ⟨its, r, ht, hz⟩ := I.list hx
  have hlen := r.length
  refine ⟨"list", _, slot_list_getitem.lookup, ht.isList.typeIs, ?_⟩
  refine wpAny_getItem_list_slice ht.isList hs pl pu .none (by simp) ?_ (by rw [List.size_toArray] <;> omega)
  rw [slicePick_cut, ← hlen]
  refine ⟨.ref s.heap.objs.size, _, I.laid (t' := s.toks) (o := .lst (cutV xs lo hi)) (fun b ob q => Heap.get?_push_of_some _ q) (Nat.le_refl _) ?_, rfl, q _ (I.hok.fresh (Nat.le_refl _))⟩
  exact ⟨Nat.le_trans (cutV_length xs lo hi) hz, _, 0, (r.drop (HT.sIx xs.length 0 lo)).take (HT.sIx xs.length xs.length hi - HT.sIx xs.length 0 lo), Heap.get?_push_size _ rfl⟩
def flatV : V → Bool
  | .non => true
  | .bl _ => true
  | .int _ => true
  | .str _ => true
  | _ => false
def eqV : V → V → Bool
  | .non, .non => true
  | .bl a, .bl b => a == b
  | .bl a, .int b => (if a then 1 else 0) == b
  | .int a, .bl b => a == (if b then 1 else 0)
  | .int a, .int b => a == b
  | .str a, .str b => a == b
  | _, _ => false
theorem eqAt_V {A : Around} {s : Shared} {y x : V} {u v : Value} (ry : RelV y u) (rx : RelV x v) (fy : flatV y = true) (fx : flatV x = true) : SeqAt.EqAt A s u v (eqV y x) := by
  cases y with
  | non =>
    cases ry
    cases x with
    | non => cases rx; exact SeqAt.EqAt.same _
    | bl b => cases rx; exact SeqAt.EqAt.none_bool b
    | int b => obtain ⟨t, rfl⟩ := rx; exact SeqAt.EqAt.none_int b t
    | str b => obtain ⟨t, rfl⟩ := rx; exact SeqAt.EqAt.none_str b t
    | _ => exact absurd (show false = true from fx) Bool.false_ne_true
  | bl a =>
    cases ry
    cases x with
    | non => cases rx; exact SeqAt.EqAt.bool_none a
    | bl b => cases rx; exact SeqAt.EqAt.bool_bool a b
    | int b => obtain ⟨t, rfl⟩ := rx; exact SeqAt.EqAt.bool_int a b t
    | str b => obtain ⟨t, rfl⟩ := rx; exact SeqAt.EqAt.bool_str a b t
    | _ => exact absurd (show false = true from fx) Bool.false_ne_true
  | int a =>
    obtain ⟨t', rfl⟩ := ry
    cases x with
    | non => cases rx; exact SeqAt.EqAt.int_none a t'
    | bl b => cases rx; exact SeqAt.EqAt.int_bool a t' b
    | int b => obtain ⟨t, rfl⟩ := rx; exact SeqAt.EqAt.int_int a t' b t
    | str b => obtain ⟨t, rfl⟩ := rx; exact SeqAt.EqAt.int_str a t' b t
    | _ => exact absurd (show false = true from fx) Bool.false_ne_true
  | str a =>
    obtain ⟨t', rfl⟩ := ry
    cases x with
    | non => cases rx; exact SeqAt.EqAt.str_none a t'
    | bl b => cases rx; exact SeqAt.EqAt.str_bool a t' b
    | int b => obtain ⟨t, rfl⟩ := rx; exact SeqAt.EqAt.str_int a t' b t
    | str b => obtain ⟨t, rfl⟩ := rx; exact SeqAt.EqAt.str_str a t' b t
    | _ => exact absurd (show false = true from fx) Bool.false_ne_true
  | _ => exact absurd (show false = true from fy) Bool.false_ne_true
def eqU (x : V) (u : Value) : Bool := match u with
  | .none => eqV .non x
  | .bool b => eqV (.bl b) x
  | .int i _ => eqV (.int i) x
  | .str z _ => eqV (.str z) x
  | _ => false
theorem eqU_of {x y : V} {u : Value} (r : RelV y u) (f : flatV y = true) : eqU x u = eqV y x := by
  cases y with
  | non => cases r; rfl
  | bl b => cases r; rfl
  | int i => obtain ⟨t, rfl⟩ := r; rfl
  | str z => obtain ⟨t, rfl⟩ := r; rfl
  | _ => exact absurd (show false = true from f) Bool.false_ne_true
theorem any_eqU {x : V} : ∀ {xs : List V} {us : List Value}, Vals xs us → xs.all flatV = true → us.any (eqU x) = xs.any fun y => eqV y x
  | _, _, .nil, _ => rfl
  | y :: xs, u :: us, .cons r t, f => by
    rw [List.all_cons, Bool.and_eq_true] at f
    rw [List.any_cons, List.any_cons, eqU_of r f.1, any_eqU t f.2]
theorem mem_eqAt {A : Around} {s : Shared} {x : V} {v : Value} (rx : RelV x v) (fx : flatV x = true) : ∀ {xs : List V} {us : List Value}, Vals xs us → xs.all flatV = true → ∀ u ∈ us, SeqAt.EqAt A s u v (eqU x u)
  | _, _, .nil, _ => fun u hu => by cases hu
  | y :: xs, u :: us, .cons r t, f => fun u' hu => by
    rw [List.all_cons, Bool.and_eq_true] at f
    rcases List.mem_cons.mp hu with rfl | hu
    · rw [eqU_of r f.1]; exact eqAt_V r rx f.1 fx
    · exact mem_eqAt rx fx t f.2 u' hu
def inV (x : V) (xs : List V) : Bool := xs.any fun y => eqV y x
def rIn (K : PySem.W.Frag) (neg : Bool) : R2 := fun x y H Q => ∃ p xs, y = .ref p ∧ (SqL K H p xs ∨ SqT K H p xs) ∧ flatV x = true ∧ xs.all flatV = true ∧ Q (.bl (if neg then !inV x xs else inV x xs)) H
theorem op_notIn_seq : OpR X (compareOp .NotIn) (rIn X.K true) := by
  intro pins s σ H x y v u Q I rx ry h
  obtain ⟨p, xs, rfl, hq, fx, fs, q⟩ := h
  cases ry
  rcases hq with hq | hq
  · obtain ⟨its, r, pl, hz⟩ := I.list hq
    refine SeqAt.notIn_listAt (eqU x) pl.isList (fun w hw => mem_eqAt rx fx r fs w (by simpa using hw)) ⟨.bl _, H, I, rfl, ?_⟩
    rw [show its.toArray.any (eqU x) = its.any (eqU x) by simp, any_eqU r fs]
    exact q
  · obtain ⟨its, r, pl, hz⟩ := I.tuple hq
    refine SeqAt.notIn_tupleAt (eqU x) pl (fun w hw => mem_eqAt rx fx r fs w (by simpa using hw)) ⟨.bl _, H, I, rfl, ?_⟩
    rw [show its.toArray.any (eqU x) = its.any (eqU x) by simp, any_eqU r fs]
    exact q
theorem call_len_seq : CallR X (.builtin "len") (fun xs H Q => ∃ p ys, xs = [.ref p] ∧ (SqL X.K H p ys ∨ SqT X.K H p ys) ∧ Q (.int ys.length) H) := by
  intro pins s σ H xs us Q I r h
  obtain ⟨p, ys, rfl, hq, q⟩ := h
  obtain ⟨u, rfl, rx⟩ := vals1 r
  cases rx
  have hn := line63
  rcases hq with hq | hq
  · obtain ⟨its, r', pl, hz⟩ := I.list hq
    have hlen := r'.length
    exact Calls.call_len_list pl.isList (by simp only [List.size_toArray] <;> omega) ⟨.int ys.length, H, I.tok _, ⟨s.toks + 1, by rw [List.size_toArray, hlen]⟩, q⟩
  · obtain ⟨its, r', pl, hz⟩ := I.tuple hq
    have hlen := r'.length
    exact len_tuple pl (by simp only [List.size_toArray] <;> omega) ⟨.int ys.length, H, I.tok _, ⟨s.toks + 1, by rw [List.size_toArray, hlen]⟩, q⟩
theorem call_len_str : CallR X (.builtin "len") (fun xs H Q => ∃ z, xs = [.str z] ∧ z.length ≤ sizeLine ∧ Q (.int z.length) H) := by
  intro pins s σ H xs us Q I r h
  obtain ⟨z, rfl, hz, q⟩ := h
  obtain ⟨u, rfl, t, rfl⟩ := vals1 r
  have hn := line63
  exact len_str (by omega) ⟨.int z.length, H, I.tok _, ⟨_, rfl⟩, q⟩
theorem call_list_of : CallR X (.type "list") (fun xs H Q => ∃ p ys, xs = [.ref p] ∧ (SqL X.K H p ys ∨ SqT X.K H p ys) ∧ ∀ l, H l = none → Q (.ref l) (upd H l (.lst ys))) := by
  intro pins s σ H xs us Q I r h
  obtain ⟨p, ys, rfl, hq, q⟩ := h
  obtain ⟨u, rfl, rx⟩ := vals1 r
  cases rx
  have fin : ∀ (its : List Value), Vals ys its → ys.length ≤ sizeLine → ∀ (h' : Heap) (c' : Nat), (∀ b o', s.heap.get? b = some o' → h'.get? b = some o') →
      h'.get? s.heap.objs.size = some { cls := .type "list", dict := none, data := .seq its.toArray c', slots := #[] } → EP X pins σ Q (.ref s.heap.objs.size) { s with heap := h' } := fun its r' hz h' c' kp e =>
    ⟨.ref s.heap.objs.size, _, I.laid (t' := s.toks) kp (Nat.le_refl _) (show ObjOk X.prog X.w _ h' _ (.lst ys) from ⟨hz, its, c', r', e⟩), rfl, q _ (I.hok.fresh (Nat.le_refl _))⟩
  rcases hq with hq | hq
  · obtain ⟨its, r', pl, hz⟩ := I.list hq
    have hlen := r'.length
    obtain ⟨o, ho, hc, n, hd⟩ := pl.isList
    exact call_list_seq p (.inl rfl) ho hc hd (fun h' c' kp e => fin its r' hz h' c' kp e) (by simp only [List.size_toArray] <;> omega)
  · obtain ⟨its, r', pl, hz⟩ := I.tuple hq
    have hlen := r'.length
    obtain ⟨o, ho, hc, n, hd⟩ := pl
    exact call_list_seq p (.inr rfl) ho hc hd (fun h' c' kp e => fin its r' hz h' c' kp e) (by simp only [List.size_toArray] <;> omega)
def tyV (K : PySem.W.Frag) (T : String) (x : V) (H : Hp) : Prop := match x with
  | .str _ => T = "str"
  | .int _ => T = "int"
  | .ref p => (T = "list" ∧ ∃ xs, SqL K H p xs) ∨ (T = "tuple" ∧ ∃ o, K.lookup p = some o ∧ o.cls = .type "tuple" ∧ o.dict = none) ∨
      (T = "dict" ∧ ((∃ kvs, H p = some (.dK kvs)) ∨ ∃ kvs, H p = some (.dT kvs))) ∨ (T = "set" ∧ ∃ S n, H p = some (.set S n))
  | _ => False
theorem tyV_is {pins : List (Addr × Obj)} {σ : St} {H : Hp} {s : Shared} {T : String} {x : V} {v : Value} (I : Inv X pins σ H s) (r : RelV x v) (ty : tyV X.K T x H) :
    s.TypeIs v T ∧ ∀ a, v = .ref a → ∃ ob, s.heap.get? a = some ob ∧ ob.dict = none := by
  cases x with
  | str z =>
    obtain ⟨t, rfl⟩ := r
    cases (show T = "str" from ty)
    exact ⟨typeIs_str s z t, fun _ e => nomatch e⟩
  | int i =>
    obtain ⟨t, rfl⟩ := r
    cases (show T = "int" from ty)
    exact ⟨typeIs_int s i t, fun _ e => nomatch e⟩
  | ref p =>
    cases r
    rcases ty with ⟨rfl, xs, hq⟩ | ⟨rfl, o, hk, hc, hd⟩ | ⟨rfl, hk⟩ | ⟨rfl, S, n, hk⟩
    · obtain ⟨its, _, pl, _⟩ := I.list hq
      refine ⟨pl.isList.typeIs, fun a e => ?_⟩
      cases e
      obtain ⟨o, n, e, c, hd, _⟩ := pl
      exact ⟨o, e, hd⟩
    · refine ⟨⟨o, I.kIn p o hk, hc⟩, fun a e => ?_⟩
      cases e
      exact ⟨o, I.kIn _ o hk, hd⟩
    · have z : ∃ o, s.heap.get? p = some o ∧ o.ExactDict := by
        rcases hk with ⟨kvs, hk⟩ | ⟨kvs, hk⟩
        · obtain ⟨_, _, _, _, o, _, _, e, ex, _⟩ := I.hok p _ hk
          exact ⟨o, e, ex⟩
        · obtain ⟨_, _, _, _, o, _, _, e, ex, _⟩ := I.hok p _ hk
          exact ⟨o, e, ex⟩
      obtain ⟨o, e, ex⟩ := z
      refine ⟨⟨o, e, ex.1⟩, fun a e2 => ?_⟩
      cases e2
      exact ⟨o, e, ex.2.1⟩
    · obtain ⟨o, _, _, _, e, ex, _⟩ := I.hok p _ hk
      refine ⟨⟨o, e, ex.1⟩, fun a e2 => ?_⟩
      cases e2
      exact ⟨o, e, ex.2.1⟩
  | _ => exact False.elim ty
def tBM0 (K : PySem.W.Frag) (T : String) (r : V → List V → Hp → VK → Prop) (to : TE) : TE := fun σ H Q => to σ H fun x H1 => tyV K T x H1 ∧ r x [] H1 Q
def tBM (K : PySem.W.Frag) (T : String) (r : V → List V → Hp → VK → Prop) (to : TE) (t : TA) : TE := fun σ H Q => to σ H fun x H1 => tyV K T x H1 ∧ t σ H1 fun xs H2 => r x xs H2 Q
variable {o e : Expr} {es : List Expr} {to : TE} {t : TA} {name : Str} {apos cpos : Pos} {T id : String} {r : V → List V → Hp → VK → Prop}
theorem pe_bm0 (pa : PlainAttrs T) (slot : Slot T name id) (hty : typeOf (.builtin id) = pure (.type "method_descriptor")) (hm : MtR X id r) (ho : PE X o to)
    (hbase : attributeBase o name X.env (eval o X.env) = eval o X.env := by rfl) (hline : (apos.endLine == cpos.line) = true := by rfl) : PE X (.Call (.Attribute o name apos) [] [] cpos) (tBM0 X.K T r to) := by
  intro pins s σ H Q I h
  refine wpAny_Call_method0_late hbase hline (thn (ho pins s σ H _ I h) fun v s1 ⟨x, H1, I1, r1, ty, q1⟩ => ?_)
  obtain ⟨h1, h2⟩ := tyV_is I1 r1 ty
  exact ⟨T, id, pa, slot, hty, h1, h2, Calls.callWith_builtin rfl (PySem.evalArgs_none (hm pins s1 σ H1 x [] v [] Q I1 r1 .nil q1))⟩
theorem pe_bm (pa : PlainAttrs T) (slot : Slot T name id) (hty : typeOf (.builtin id) = pure (.type "method_descriptor")) (hm : MtR X id r) (ho : PE X o to) (ha : PA X (e :: es) t)
    (hbase : attributeBase o name X.env (eval o X.env) = eval o X.env := by rfl)
    (hfew : ((backTo cpos (starEach (e :: es) X.env)).all (fun x => !x.1) && (backToKw cpos (keywordEach [] X.env)).all (fun x => x.1.isSome)
      && decide ((e :: es).length + ([] : List Keyword).length + (if ([] : List Keyword).isEmpty then 0 else 1) < 30)) = true := by rfl)
    (hline : (apos.endLine == cpos.line) = true := by rfl) (hs : starEach (e :: es) X.env = (false, eval e X.env) :: starEach es X.env := by rfl) (hplain : (backTo cpos (starEach es X.env)).any (·.1) = false := by rfl) :
    PE X (.Call (.Attribute o name apos) (e :: es) [] cpos) (tBM X.K T r to t) := by
  intro pins s σ H Q I h
  refine wpAny_Call_method_late hbase hfew hline rfl (thn (ho pins s σ H _ I h) fun v s1 ⟨x, H1, I1, r1, ty, q1⟩ => ?_)
  obtain ⟨h1, h2⟩ := tyV_is I1 r1 ty
  refine ⟨T, id, pa, slot, hty, h1, h2, ?_⟩
  have hA := ha cpos pins s1 σ H1 _ I1 q1
  rw [hs] at hA ⊢
  refine Calls.callWith_builtin (by show (false || (backTo cpos (starEach es X.env)).any (·.1)) = false; rw [hplain] <;> rfl) (Calls.evalArgs_plain ?_)
  exact thn hA fun us s2 ⟨vs, H2, I2, r2, q2⟩ => hm pins s2 σ H2 x vs v us Q I2 r1 r2 q2
end
end L2
namespace L2
open PySem PySem.Spec PyProof.Rows
def MtM (X : Cx) (id : String) (r : V → List V → Hp → VK → Prop) : Prop :=
  ∀ (pins : List (Addr × Obj)) (s : Shared) (σ : St) (H : Hp) (x : V) (xs : List V) (v : Value) (us : List Value) (Q : VK), Inv X pins σ H s → RelV x v → Vals xs us → r x xs H Q →
    wpAny (model X.prog X.w) X.A (call (.builtin id) (v :: us)) (EP X pins σ Q) X.xe s
theorem Vals.one : ∀ {x : V} {us : List Value}, Vals [x] us → ∃ u, us = [u] ∧ RelV x u
  | _, _, .cons r .nil => ⟨_, rfl, r⟩
section
variable {X : Cx} {pins : List (Addr × Obj)} {σ : St} {H : Hp} {s : Shared} {l b : Addr} {xs ys zs : List V}
theorem Inv.lset {its its' : List Value} {n : Nat} {f : Array Value → Array Value} {t' : Nat} (I : Inv X pins σ H s) (hH : H l = some (.lst xs))
    (e : s.heap.get? l = some { cls := .type "list", data := .seq its.toArray n }) (hf : f its.toArray = its'.toArray) (hv : Vals ys its') (hz : ys.length ≤ sizeLine) :
    Inv X pins σ (upd H l (.lst ys)) { s with heap := s.heap.update l (Obj.mapSeq f), toks := t' } := by
  have q := PySem.IsL.update e f
  rw [hf] at q
  refine I.write (x := l) (e := l) (by rw [hH]; exact trivial) (.inl rfl) (fun b' u hb hu => (Heap.get?_update_other s.heap (Obj.mapSeq f) (Ne.symm hb)).trans hu) ⟨_, q⟩ ?_
  exact ⟨hz, its', _, hv, q⟩
theorem Inv.lnew {its : List Value} {t' : Nat} (I : Inv X pins σ H s) (hv : Vals ys its) (hz : ys.length ≤ sizeLine) :
    Inv X pins σ (upd H s.heap.objs.size (.lst ys)) { s with heap := s.heap.push { cls := .type "list", data := .seq its.toArray }, toks := t' } :=
  I.laid (fun _ _ q => Heap.get?_push_of_some _ q) (Nat.le_refl _) ⟨hz, its, 0, hv, Heap.get?_push_size _ rfl⟩
theorem Inv.fresh (I : Inv X pins σ H s) : H s.heap.objs.size = none := I.hok.fresh (Nat.le_refl _)
theorem Inv.lstM (I : Inv X pins σ H s) (hH : H l = some (.lst xs)) : xs.length ≤ sizeLine ∧ ∃ (its : List Value) (n : Nat), Vals xs its ∧ xs.length = its.length ∧ s.heap.get? l = some { cls := .type "list", data := .seq its.toArray n } := by
  obtain ⟨z, its, n, r, e⟩ := I.hok l _ hH
  exact ⟨z, its, n, r, r.length, e⟩
end
section
variable {X : Cx}
def rAppend : V → List V → Hp → VK → Prop := fun x vs H Q => ∃ l xs y, x = .ref l ∧ vs = [y] ∧ H l = some (.lst xs) ∧ xs.length < sizeLine ∧ Q .non (upd H l (.lst (xs ++ [y])))
theorem mt_append : MtM X "list.append" rAppend := by
  intro pins s σ H x vs v us Q I rx rv h
  obtain ⟨l, xs, y, rfl, rfl, hH, hz, q⟩ := h
  cases rx
  obtain ⟨u, rfl, ru⟩ := rv.one
  obtain ⟨z, its, n, r, hl, e⟩ := I.lstM hH
  refine call_meets F.slot_list_append ⟨_, e, rfl⟩ F.entry_list_append (F.args_list_append_2 _ _) (PySem.list_append l its.toArray n u (by rw [List.size_toArray]; omega)) ⟨e, ?_⟩
  refine ⟨.non, _, I.lset (its' := its ++ [u]) hH e (by simp) (r.append (.cons ru .nil)) ?_, rfl, q⟩
  rw [List.length_append, List.length_singleton]
  omega
def rCat : R2 := fun x y H Q => ∃ l b xs zs, x = .ref l ∧ y = .ref b ∧ H l = some (.lst xs) ∧ H b = some (.lst zs) ∧ xs.length + zs.length ≤ sizeLine ∧ ∀ p, H p = none → Q (.ref p) (upd H p (.lst (xs ++ zs)))
theorem op_cat : OpR X (binaryOp .Add) rCat := by
  intro pins s σ H x y v u Q I rx ry h
  obtain ⟨l, b, xs, zs, rfl, rfl, hH, hB, hz, q⟩ := h
  cases rx
  cases ry
  obtain ⟨z, its, n, r, hl, e⟩ := I.lstM hH
  obtain ⟨z2, its2, n2, r2, hl2, e2⟩ := I.lstM hB
  refine PySem.P.add_list e e2 ?_ (by rw [List.size_toArray, List.size_toArray]; omega)
  have ea : its.toArray ++ its2.toArray = (its ++ its2).toArray := by simp
  rw [ea]
  exact ⟨.ref _, _, I.lnew (t' := s.toks) (r.append r2) (by rw [List.length_append]; omega), rfl, q _ I.fresh⟩
end
end L2
namespace L2
open PySem PySem.Spec PyProof.Rows
structure M1 (X : Cx) (o : Expr) (m : Str) (apos : Pos) (e : Expr) (cpos : Pos) : Prop where
  base : attributeBase o m X.env (eval o X.env) = eval o X.env
  few : ((backTo cpos (starEach [e] X.env)).all (fun x => !x.1) && (backToKw cpos (keywordEach [] X.env)).all (fun x => x.1.isSome)
    && decide (([e] : List Expr).length + ([] : List Keyword).length + (if ([] : List Keyword).isEmpty then 0 else 1) < 30)) = true
  line : (apos.endLine == cpos.line) = true
  trees : backTo cpos (starEach [e] X.env) = [(false, eval e X.env)]
structure M2 (X : Cx) (o : Expr) (m : Str) (apos : Pos) (e f : Expr) (cpos : Pos) : Prop where
  base : attributeBase o m X.env (eval o X.env) = eval o X.env
  few : ((backTo cpos (starEach [e, f] X.env)).all (fun x => !x.1) && (backToKw cpos (keywordEach [] X.env)).all (fun x => x.1.isSome)
    && decide (([e, f] : List Expr).length + ([] : List Keyword).length + (if ([] : List Keyword).isEmpty then 0 else 1) < 30)) = true
  line : (apos.endLine == cpos.line) = true
  trees : backTo cpos (starEach [e, f] X.env) = [(false, eval e X.env), (false, eval f X.env)]
end L2
namespace Att
open PySem PySem.W PySem.Calls PyProof.Rows
theorem ints_of_wellAll {P : Params} {h : Heap} : ∀ (ns : List Int) (vs : List Value), WellAll P h vs (ns.map WData.int) → IntsAre vs ns := by
  intro ns
  induction ns with
  | nil =>
    intro vs w
    rw [List.map_nil] at w
    cases w
    exact .nil
  | cons n ns ih =>
    intro vs w
    rw [List.map_cons] at w
    cases w with
    | cons a b =>
      cases a
      exact .cons _ _ (ih _ b)
theorem script_of {l : OpenLaw} {n : Nat} (hn : l.most = some n) {P : Params} {h : Heap} {args : List WData} {vals : List Value}
    (hpre : l.row.toRowW.claim.pre args = true) (hwl : WellAll P h vals args) :
    ∃ a vs ns, vals = [Value.ref a] ∧ args = [WData.list (ns.map WData.int)] ∧ h.get? a = some { cls := .type "list", data := .seq vs.toArray } ∧ IntsAre vs ns ∧ ns.length ≤ n := by
  have hsh : WShape.hasAll [] args [.list .int] = true := (pre_splitW hpre).1
  have hc : l.pre.holds [] { args := args } = true := (pre_splitW hpre).2
  obtain ⟨d, r, rfl, h1, h2⟩ := hasAllW_cons hsh
  obtain rfl := hasAllW_nil h2
  obtain ⟨xs, rfl, h3⟩ := hasW_list h1
  obtain ⟨ns, rfl⟩ := items_int h3
  have hlen : ns.length ≤ n := by
    unfold OpenLaw.pre at hc
    have h4 : (WTm.not (.lt (.lit (.int (n : Int))) (.len (.arg 0)))).holds [] { args := [.list (ns.map .int)] } = true := by
      have h4 := (holds_andW hc).1
      rw [hn] at h4
      exact h4
    have h5 := condW_of h4 (w_not (w_lt w_lit (w_len_list (w_arg rfl))))
    rw [List.length_map] at h5
    refine Nat.le_of_not_lt fun q => ?_
    have q' : (n : Int) < ((ns.length : Nat) : Int) := by omega
    first
      | (rw [decide_eq_true q'] at h5; exact absurd h5 (by decide))
      | (simp at h5; omega)
  cases hwl with
  | cons w1 w2 =>
    cases w2
    cases w1 with
    | list ho hall => exact ⟨_, _, ns, rfl, rfl, ho, ints_of_wellAll ns _ hall, hlen⟩
theorem post_true (l : OpenLaw) (args : List WData) : l.row.toRowW.claim.post args (.bool true) args = true :=
  postW_of (r := l.row.toRowW) (X := (true == true))
    (show WShape.has [] (.bool true) .bool = true by first | rfl | decide | simp [WShape.has, WShape.arms, WShape.armsAll])
    (show (WTm.eq .res (.lit (.bool true))).value [] { args := args, res := some (.bool true), after := args } = some (.bool (true == true)) from w_eq_bool (w_res rfl) w_lit) rfl
theorem attach_call {l : OpenLaw} {n : Nat} {q : Program} {loose : List Str} {XP : (Str → Option Value) → Heap → Prop} {YP : World → Heap → Prop} {d : DefRec}
    (hn : l.most = some n) (hdf : d.params.defaults = [])
    (call : ∀ (w : World) (s₀ s₁ : Shared) (mg mb : Str → Option Value) (fa : Addr) (o : Obj) (pm cd doc : Value) (a : Addr) (vs : List Value) (ns : List Int),
      Ground q loose [] XP w s₀ mg mb s₁.heap → YP w s₁.heap →
      s₁.heap.get? fa = some o → o.data = .func (docDef d.name d.params d.body d.scope pm cd doc) → s₁.heap.CodeRec cd d.name → mg d.name = some (.ref fa) →
      s₁.heap.get? a = some { cls := .type "list", data := .seq vs.toArray } → IntsAre vs ns → ns.length ≤ n → s₁.gens = #[] →
      codeAny (model l.prog w) callerA (.call (.ref fa) ⟨[.ref a], []⟩) (fun r s' => r = .ok (.ret (.bool true)) ∧ OldK s₁.heap s'.heap ∧ s'.os = s₁.os ∧ AllBare s'.gens) s₁) :
    WalkO q loose XP YP l.row.toRowW d [] (fun f vs => PySem.call f vs) := by
  intro w s₀ s₁ mg mb G Y fa o pm cd doc dV kV ho hd hcd hD hmg hg args vals as hpre hlay hrd hwl hlo
  obtain rfl : dV = .none := Dflts.none hD hdf
  obtain rfl : kV = .none := Dflts.noKw hD
  obtain ⟨a, vs, ns, rfl, rfl, hobj, hints, hlen⟩ := script_of hn hpre hwl
  refine enter_call (codeAny_mono (call w s₀ s₁ mg mb fa o pm cd doc a vs ns G Y ho (fd_plain hd) hcd hmg hobj hints hlen hg) fun r s' hq => ?_)
  obtain ⟨rfl, h2, h3, h4⟩ := hq
  exact ⟨.inl ⟨.bool true, .bool true, [], rfl, fun _ => rfl, .bool true, post_true l _, fun _ => ⟨List.Pairwise.nil, fun _ hm => (nomatch hm)⟩⟩, h2, h3, h4⟩
end Att
namespace L2
open PySem PySem.Spec PyProof.Rows
theorem vals_ints : ∀ {vs : List Value} {ns : List Int}, IntsAre vs ns → Vals (ns.map V.int) vs
  | _, _, .nil => .nil
  | _, _, .cons n t h => .cons ⟨t, rfl⟩ (vals_ints h)
end L2
namespace L2
open PySem PySem.Spec PyProof.Rows
def defArgs (s : Stmt) : Arguments := match s with
  | .FunctionDef _ a _ _ _ _ _ _ _ _ => a
  | _ => { posonlyargs := [], args := [], vararg := none, kwonlyargs := [], kw_defaults := [], kwarg := none, defaults := [] }
def defBody (s : Stmt) : List Stmt := match s with
  | .FunctionDef _ _ b _ _ _ _ _ _ _ => b
  | _ => []
def defScope (s : Stmt) : Scope := match s with
  | .FunctionDef _ _ _ _ _ _ sc _ _ _ => sc
  | _ => { kind := .function, names := [], isGenerator := false, isCoroutine := false }
abbrev CX0 : CXT := fun _ _ _ _ _ _ => False
abbrev E0 : XK := fun _ _ _ => False
structure Fun (K : PySem.W.Frag) (x qual : Str) (st : Stmt) (f : Addr) (fd : FuncData) : Prop where
  ex : ∃ (oc : Value) (od : Option Addr) (kV doc pm : Value) (an : Option Addr) (cdv ct : Value) (osl : Array (Option Value)),
    fd = PySem.W.fnOf x qual (defArgs st) (defBody st) (defScope st) .none kV doc pm an cdv ct ∧ K.lookup f = some ⟨oc, od, .func fd, osl⟩ ∧ PySem.W.codeIn K cdv qual = true
  kp : PySem.W.keepIn K (.ref f) = true
section
variable {P : Program} {w : World} {K : PySem.W.Frag} {mg : Str → Option Value} {base : Heap}
theorem Fun.ok {x qual : Str} {st : Stmt} {f : Addr} {fd : FuncData} {N ps : List Str} {k : Nat} {sp : Sp} (F : Fun K x qual st f fd) (S : FnScope N ps (defScope st)) (len : ∀ vs H Q E, sp vs H Q E → vs.length = ps.length)
    (hbody : ∀ (cdv : Value) (A : Around) (outer : List Env) (s : Shared) (H : Hp) (vs : List V) (Q : VK) (E : XK), Room k (A.deeper (envOfC qual (defScope st) s.heap.objs.size f cdv)) → sp vs H Q E →
      ∃ t, PSs (cxOf CX0 P w K mg base N qual (defScope st) f cdv A outer s H E).nox (defBody st) t ∧ t { nx := fun _ H' => Q .non H', rt := Q } (start N vs) H) : FnOk P w K mg base CX0 (k + 1) f fd ps sp := by
  obtain ⟨oc, od, kV, doc, pm, an, cdv, ct, osl, rfl, lk, hcd⟩ := F.ex
  refine fn_of lk hcd S len fun A outer s H vs Q E hr hsp => ?_
  obtain ⟨t, h, q⟩ := hbody cdv A outer s H vs Q E hr hsp
  exact ⟨t, h.nox, q⟩
theorem Fun.binds {x qual : Str} {st : Stmt} {f : Addr} {fd : FuncData} {ps : List Str} (F : Fun K x qual st f fd)
    (h : ∀ (kV doc pm : Value) (an : Option Addr) (cdv ct : Value) (us : List Value), us.length = ps.length → bindArgs (PySem.W.fnOf x qual (defArgs st) (defBody st) (defScope st) .none kV doc pm an cdv ct) ⟨us, []⟩ = pure (ps.zip us)) : Binds K fd ps [] := by
  obtain ⟨oc, od, kV, doc, pm, an, cdv, ct, osl, rfl, lk, hcd⟩ := F.ex
  exact .all (h kV doc pm an cdv ct)
theorem fun_mk {x qual : Str} {st : Stmt} {f : Addr} {oc : Value} {od an : Option Addr} {osl : Array (Option Value)} {kV doc pm cdv ct : Value} (l : K.lookup f = some ⟨oc, od, .func (PySem.W.fnOf x qual (defArgs st) (defBody st) (defScope st) .none kV doc pm an cdv ct), osl⟩)
    (c : PySem.W.codeIn K cdv qual = true) (k : PySem.W.keepIn K (.ref f) = true) : Fun K x qual st f (PySem.W.fnOf x qual (defArgs st) (defBody st) (defScope st) .none kV doc pm an cdv ct) := ⟨⟨oc, od, kV, doc, pm, an, cdv, ct, osl, rfl, l, c⟩, k⟩
end
theorem small1000 {n : Nat} (h : n ≤ 1000) : n < sizeLine := Nat.lt_of_le_of_lt h (by decide)
section
variable {X : Cx}
theorem pv (i : Nat) {x : Str} {pos : Pos} (hN : X.N[i]? = some x := by rfl) (hv : Vis X.env.scope x := by first | exact Or.inl rfl | exact Or.inr (Or.inl rfl) | exact Or.inr (Or.inr rfl)) (hd : (x == ("__debug__" : Str)) = false := by decide)
    (hcd : (x == ("__classdict__" : Str)) = false := by decide) : PE X (.Name x pos) (tVar i) := pe_var hN hv hd hcd
end
theorem iteT {A B : Prop} (h : A) : if true = true then A else B := by
  rw [if_pos rfl]
  exact h
theorem ite2 {c A B : Prop} [Decidable c] (h1 : c → A) (h2 : ¬ c → B) : if c then A else B := by
  by_cases h : c
  · rw [if_pos h]
    exact h1 h
  · rw [if_neg h]
    exact h2 h
def Same (H H' : Hp) : Prop := ∀ b o, H b = some o → H' b = some o
theorem Same.trans {H H1 H2 : Hp} (a : Same H H1) (b : Same H1 H2) : Same H H2 := fun c o h => b c o (a c o h)
theorem Same.free {H H' : Hp} (e : Same H H') {l : Addr} (h : H' l = Option.none) : H l = Option.none := by
  cases q : H l with
  | none => rfl
  | some o =>
    rw [e l o q] at h
    cases h
theorem Same.seq {K : PySem.W.Frag} {H H' : Hp} {a : Addr} {xs : List V} (e : Same H H') (h : SqL K H a xs) : SqL K H' a xs := by
  rcases h with (h | ⟨o, h⟩) | h
  · exact .inl (.inl (e _ _ h))
  · exact .inl (.inr ⟨o, e _ _ h⟩)
  · exact .inr h
end L2
namespace SX
open PySem
def st5 (m i : Nat) : Nat := (i * 5 + 1) % (m + 1)
end SX
namespace SX
open PySem PyProof.Rows
section
variable {prog : Program} {w : World} {A : Around} {E : Value → Shared → Prop} {s : Shared} {a : Addr} {ks : List Int}
theorem sorted_of {v : Value} {ks : List Int} {Q : Value → Shared → Prop}
    (hc : ∀ (Q' : List Value → Shared → Prop), (∀ h' tk vs ns, IntsAre vs ns → ns.Perm ks → (∀ c o, s.heap.get? c = some o → h'.get? c = some o) → s.heap.objs.size ≤ h'.objs.size → Q' vs { s with heap := h', toks := tk }) → wpAny (model prog w) A.in1 (collect v) Q' E s)
    (h64 : ks.length < 64) (h : ∀ h' tk r vs ns, s.heap.objs.size ≤ r → IntsAre vs ns → ns.Perm ks → ns.Pairwise (· ≤ ·) → (∃ n, h'.get? r = some { cls := .type "list", data := .seq vs.toArray n }) → (∀ c o, s.heap.get? c = some o → h'.get? c = some o) → Q (.ref r) { s with heap := h', toks := tk }) :
    wpAny (model prog w) A (call (.builtin "sorted") [v]) Q E s := by
  refine Calls.call_function_entry kind_sorted plain_sorted entry_sorted (args_sorted1 _) ?_
  unfold Builtin.«sorted»
  refine wpAny_bind (m := checkCount "sorted" 1 1 _) (wpAny_pure ?_)
  refine wpAny_bind (hc _ fun h1 tk vs ns hi hp k1 sz => ?_)
  have hlen : vs.length < 64 := by rw [IntsAre.length hi, hp.length_eq]; exact h64
  refine wpAny_bind (wpAny_newList ?_)
  have o1 : (h1.push (seqObj "list" vs.toArray 0)).get? h1.objs.size = some (seqObj "list" vs.toArray 0) := Heap.get?_push_size _ rfl
  refine wpAny_bind (wpAny_holding (wpAny_call_entry slot_list_sort ⟨_, o1, rfl⟩ entry_list_sort (list_sort_tree o1 hi hlen fun out ns' a1 a2 a3 => ⟨_, rfl, ?_⟩) (args_list_sort _)))
  obtain ⟨ep, e2⟩ := sortedHeap_at (out := out) o1
  refine wpAny_pure ⟨_, rfl, h _ tk h1.objs.size out.toList ns' sz a1 (a2.trans hp) a3 ⟨ep, by simpa using e2⟩ fun c o q => ?_⟩
  have hlt := Heap.lt_size (k1 c o q)
  rw [sortedHeap_old (Nat.ne_of_lt hlt) (by rw [size_push']; exact Nat.lt_succ_of_lt hlt)]
  exact Heap.get?_push_of_some _ (k1 c o q)
theorem sorted_list_i {l : Addr} {vs₀ : List Value} {Q : Value → Shared → Prop} (hl : s.heap.IsList l vs₀.toArray) (hi₀ : IntsAre vs₀ ks) (h64 : ks.length < 64)
    (h : ∀ h' tk r vs ns, s.heap.objs.size ≤ r → IntsAre vs ns → ns.Perm ks → ns.Pairwise (· ≤ ·) → (∃ n, h'.get? r = some { cls := .type "list", data := .seq vs.toArray n }) → (∀ c o, s.heap.get? c = some o → h'.get? c = some o) → Q (.ref r) { s with heap := h', toks := tk }) :
    wpAny (model prog w) A (call (.builtin "sorted") [.ref l]) Q E s :=
  sorted_of (fun _ k => collect_list hl (k _ s.toks _ _ hi₀ (.refl _) (fun c o q => (Heap.get?_update_other _ _ (Nat.ne_of_gt (Heap.lt_size q))).trans (Heap.get?_push_of_some _ q)) (by rw [Heap.size_update, size_push']; exact Nat.le_succ _)) (by
    have := IntsAre.length hi₀
    have e : (64 : Nat) ≤ sizeLine := by rw [sizeLine_eq]; decide
    omega)) h64 h
end
end SX
namespace L2
open PySem PySem.Spec PyProof.Rows SX
theorem ints_vals {ns : List Int} {us : List Value} (h : Vals (ns.map V.int) us) : IntsAre us ns := intsAre_of h
theorem vals_of {us : List Value} {ns : List Int} (h : IntsAre us ns) : Vals (ns.map V.int) us := vals_ints h
section
variable {X : Cx}
theorem sorted_end {pins : List (Addr × Obj)} {σ : St} {H : Hp} {s : Shared} {Q : VK} {ks : List Int} (I : Inv X pins σ H s) (h64 : ks.length < 64) (q : ∀ (p : Addr) (ns : List Int), H p = none → ns.Perm ks → ns.Pairwise (· ≤ ·) → Q (.ref p) (upd H p (.lst (ns.map V.int)))) :
    ∀ (h' : Heap) (tk : Nat) (r : Addr) (vs : List Value) (ns : List Int), s.heap.objs.size ≤ r → IntsAre vs ns → ns.Perm ks → ns.Pairwise (· ≤ ·) → (∃ n, h'.get? r = some { cls := .type "list", data := .seq vs.toArray n }) → (∀ c o, s.heap.get? c = some o → h'.get? c = some o) → EP X pins σ Q (.ref r) { s with heap := h', toks := tk } := by
  intro h' tk r vs ns hr hi hp hs he hk
  obtain ⟨n, e⟩ := he
  have e64 : (64 : Nat) ≤ sizeLine := by rw [sizeLine_eq]; decide
  exact ⟨.ref r, _, I.laid (t' := tk) (o := .lst (ns.map V.int)) hk hr ⟨by rw [List.length_map, hp.length_eq]; omega, vs, n, vals_of hi, e⟩, rfl, q r ns (I.hok.fresh hr) hp hs⟩
theorem call_sortedL : CallR X (.builtin "sorted") (fun xs H Q => ∃ (a : Addr) (ks : List Int), xs = [.ref a] ∧ SqL X.K H a (ks.map V.int) ∧ ks.length < 64 ∧ ∀ (p : Addr) (ns : List Int), H p = none → ns.Perm ks → ns.Pairwise (· ≤ ·) → Q (.ref p) (upd H p (.lst (ns.map V.int)))) := by
  intro pins s σ H xs us Q I r h
  obtain ⟨a, ks, rfl, ha, h64, q⟩ := h
  obtain ⟨u, rfl, rx⟩ := vals1 r
  cases rx
  obtain ⟨its, rv, pl, hz⟩ := I.list ha
  exact sorted_list_i pl.isList (ints_vals rv) h64 (sorted_end I h64 q)
def RdS (X : Cx) (H : Hp) (x : V) (d : PyData) : Prop := ∀ (pins : List (Addr × Obj)) (σ : St) (s : Shared) (u : Value), Inv X pins σ H s → RelV x u → ∃ as, Reads s.heap u d as
theorem RdS.int {H : Hp} (i : Int) : RdS X H (.int i) (.int i) := fun _ _ _ _ _ r => by
  obtain ⟨t, rfl⟩ := r
  exact ⟨_, Reads.int i t⟩
theorem reads_all {H : Hp} {pins : List (Addr × Obj)} {σ : St} {s : Shared} (I : Inv X pins σ H s) : ∀ {xs : List V} {us : List Value} {ds : List PyData}, Vals xs us → Paired (RdS X H) xs ds → ∃ as, ReadsAll s.heap us ds as
  | _, _, _, .nil, .nil => ⟨_, .nil⟩
  | _, _, _, .cons r t, .cons q p => by
    obtain ⟨a1, h1⟩ := q pins σ s _ I r
    obtain ⟨a2, h2⟩ := reads_all I t p
    exact ⟨_, .cons h1 h2⟩
theorem RdS.lst {H : Hp} {a : Addr} {xs : List V} {ds : List PyData} (h : SqL X.K H a xs) (p : Paired (RdS X H) xs ds) : RdS X H (.ref a) (.list ds) := fun pins σ s u I r => by
  cases r
  obtain ⟨its, rv, pl, _⟩ := I.list h
  obtain ⟨as, h2⟩ := reads_all I rv p
  obtain ⟨o, ho, hc, n, hd⟩ := pl.isList
  exact ⟨_, Reads.list ho hc hd (by simpa using h2)⟩
def rEqD (X : Cx) (neg : Bool) : R2 := fun x y H Q => ∃ d e, RdS X H x d ∧ RdS X H y e ∧ SeqAt.shaped d = true ∧ SeqAt.shaped e = true ∧ SeqAt.noMix d e = true ∧ Q (.bl (if neg then !PySem.Spec.same d e else PySem.Spec.same d e)) H
theorem op_eqD (hu : X.A.units + 64 < cLine) : OpR X (compareOp .Eq) (rEqD X false) := by
  intro pins s σ H x y v u Q I rx ry h
  obtain ⟨d, e, h1, h2, s1, s2, nm, q⟩ := h
  obtain ⟨a1, r1⟩ := h1 pins σ s v I rx
  obtain ⟨a2, r2⟩ := h2 pins σ s u I ry
  exact eq_dataH_same r1 r2 s1 s2 hu nm ⟨.bl _, H, I, rfl, q⟩
theorem op_neD (hu : X.A.units + 64 < cLine) : OpR X (compareOp .NotEq) (rEqD X true) := by
  intro pins s σ H x y v u Q I rx ry h
  obtain ⟨d, e, h1, h2, s1, s2, nm, q⟩ := h
  obtain ⟨a1, r1⟩ := h1 pins σ s v I rx
  obtain ⟨a2, r2⟩ := h2 pins σ s u I ry
  exact ne_dataH_same r1 r2 s1 s2 hu nm ⟨.bl _, H, I, rfl, q⟩
theorem call_isinst : CallR X (.builtin "isinstance") (fun xs H Q => ∃ (x : V) (T : String) (t : Value) (b : Bool), xs = [x, .ty T] ∧ TyOf X.K H x t ∧ PySem.W.kitOne X.K t (.type T) = some b ∧ Q (.bl b) H) := by
  intro pins s σ H xs us Q I r h
  obtain ⟨x, T, t, b, rfl, ty, e, q⟩ := h
  obtain ⟨u, v, rfl, rx, ry⟩ := vals2 r
  cases ry
  exact isinst_ok I rx ty e fun tk => ⟨.bl b, H, I.tok tk, rfl, q⟩
def rGetL : V → V → Hp → VK → Prop := fun o i H Q => ∃ (p : Addr) (xs : List V) (k : Int) (v : V), o = .ref p ∧ i = .int k ∧ H p = some (.lst xs) ∧ 0 ≤ k ∧ xs[k.toNat]? = some v ∧ Q v H
theorem get_list : PGet X rGetL := by
  intro pins s σ H o i ov iv Q I ro ri h
  obtain ⟨p, xs, k, v, rfl, rfl, hp, h0, hv, q⟩ := h
  cases ro
  obtain ⟨t, rfl⟩ := ri
  obtain ⟨its, r, pl, hz⟩ := I.list (SqL.of (K := X.K) hp)
  obtain ⟨u, eu, ru⟩ := r.get hv
  have hn := line63
  have hlt := (List.getElem?_eq_some_iff.mp hv).1
  exact wpAny_getItem_list pl.isList h0 (by omega) (by simpa using eu) ⟨v, H, I, ru, q⟩
end
end L2
namespace L2
open PySem PySem.Spec PyProof.Rows
abbrev blk (X : Cx) (scope : Scope) (cl : List (Str × Addr)) (N' : List Str) (s₀ : Shared) (H₀ : Hp) (C : Addr) (ex : List Addr) (pn : List (Addr × Obj)) : Cx :=
  { X with N := N', s₀ := s₀, H₀ := H₀, env := compEnvC scope cl C X.env, outer := X.stack, stack := X.stack, ex := ex, fn := fun _ => false, pn := pn, xe := fun _ _ => False }
structure BScope (X : Cx) (scope : Scope) (cl : List (Str × Addr)) (T Fr : List Str) (idx : List Nat) : Prop where
  kind : scope.kind = .function
  clos : closureFor scope X.env = pure cl
  nocell : ∀ y ∈ scope.names, y.2 ≠ .cell
  names : ∀ y ∈ scope.names, y.2 = .local → scope.names.lookup y.1 = some .local
  sub : ∀ x c, cl.lookup x = some c → X.env.cells.lookup x = some c
  frl : ∀ y ∈ scope.names, y.2 = .free → ∃ c, cl.lookup y.1 = some c
  fr : ∀ (j : Nat) (x : Str), Fr[j]? = some x → ∃ i c, idx[j]? = some i ∧ X.N[i]? = some x ∧ (X.env.kindOf x = some .cell ∨ X.env.kindOf x = some .free) ∧ cl.lookup x = some c ∧ ((relabel scope X.env).names.lookup x = some .cell ∨ (relabel scope X.env).names.lookup x = some .free)
  len : idx.length = Fr.length
def frame0 (T : List Str) (idx : List Nat) (σ : St) : St := T.map (fun _ => none) ++ idx.map fun i => σ[i]?.join
theorem lookup_mem {β : Type} : ∀ {l : List (Str × β)} {x : Str} {v : β}, l.lookup x = some v → (x, v) ∈ l
  | [], _, _, h => by cases h
  | (y, z) :: r, x, v, h => by
    rw [List.lookup_cons] at h
    cases q : x == y with
    | true =>
      rw [q] at h
      cases h
      rw [eq_of_beq q]
      exact List.mem_cons_self
    | false =>
      rw [q] at h
      exact List.mem_cons_of_mem _ (lookup_mem h)
theorem BScope.has {X : Cx} {scope : Scope} {cl : List (Str × Addr)} {T Fr : List Str} {idx : List Nat} (B : BScope X scope cl T Fr idx) {x : Str} (h : (relabel scope X.env).names.lookup x = some .cell ∨ (relabel scope X.env).names.lookup x = some .free) : ∃ c, cl.lookup x = some c := by
  have hm : ∃ k, (x, k) ∈ (relabel scope X.env).names ∧ (k = .cell ∨ k = .free) := by
    rcases h with h | h
    · exact ⟨_, lookup_mem h, .inl rfl⟩
    · exact ⟨_, lookup_mem h, .inr rfl⟩
  obtain ⟨k, hm, hk⟩ := hm
  unfold relabel at hm
  obtain ⟨⟨n, k0⟩, hy, e⟩ := List.mem_map.mp hm
  dsimp only at e
  have : n = x ∧ k0 = .free := by
    by_cases hc : (k0 == NameKind.free && X.env.scope.kind == ScopeKind.function && X.env.kindOf n == some NameKind.cell) = true
    · rw [if_pos hc] at e
      have e1 : n = x := congrArg Prod.fst e
      simp only [Bool.and_eq_true, beq_iff_eq] at hc
      exact ⟨e1, hc.1.1⟩
    · rw [if_neg hc] at e
      have e1 : n = x := congrArg Prod.fst e
      have e2 : k0 = k := congrArg Prod.snd e
      rcases hk with q | q
      · exact absurd (e2.trans q) (B.nocell _ hy)
      · exact ⟨e1, e2.trans q⟩
  obtain ⟨rfl, rfl⟩ := this
  exact B.frl _ hy rfl
theorem HOk.track {P : Program} {w : World} {H : Hp} {h : Heap} {a : Addr} {o : HO} (x : HOk P w H h) (hn : H a = none) (new : ObjOk P w (upd H a o) h a o) : HOk P w (upd H a o) h := fun b u e => by
  by_cases hb : b = a
  · subst hb; rw [upd_same] at e; cases e; exact new
  · rw [upd_ne hb] at e
    exact (x b u e).stay (fun _ _ _ q => q) (fun c q => by rw [upd_ne (ne_of_none q hn)]; exact q) fun c xs q => by rw [upd_ne (ne_of_none q hn)]; exact q
section
variable {X : Cx} {elt iter tg : Expr} {scope : Scope} {cl : List (Str × Addr)} {T Fr : List Str} {idx : List Nat} {wi : TI} {g : TG} {tt : TT} {te : TE} {pos : Pos} {ifs : List Expr}
def PTs (X : Cx) (ifs : List Expr) (tt : TT) : Prop := ∀ (pins : List (Addr × Obj)) (s : Shared) (σ : St) (H : Hp) (Q : Bool → Hp → Prop), Inv X pins σ H s → tt σ H Q →
  wpAny (model X.prog X.w) X.A (forIn ifs true fun c r => if r = true then do let ok ← isTrue c X.env (eval c X.env); pure (ForInStep.yield ok) else pure (ForInStep.yield r)) (TP X pins σ Q) X.xe s
theorem pts_nil : PTs X [] (fun _ H Q => Q true H) := fun _ _ _ H _ I h => wpAny_tests_nil ⟨H, I, h⟩
theorem pts_one {c : Expr} {tc : TT} (h : PT X c tc) : PTs X [c] tc := fun pins s σ H Q I q => wpAny_tests_one (h pins s σ H Q I q)
theorem loop_any {prog : Program} {w : World} {A : Around} {R : Result → Shared → Prop} {s : Shared} {elt target iter : Expr} {ifs : List Expr} {scope : Scope} {pos : Pos} {it acc : Value} {env : Env} (Iv : Nat → Shared → Prop)
    (turn : ∀ n s, Iv n s → wpAny (model prog w) A (pyNext it) (fun r s₁ => match r with
      | none => R (.ok .next) s₁
      | some v => wpAny (model prog w) A (letOwnedTupleGo target it v) (fun _ s₂ => wpAny (model prog w) A (assign target env v) (fun _ s₃ =>
          wpAny (model prog w) A (forIn ifs true fun c r => if r = true then do let ok ← isTrue c env (eval c env); pure (ForInStep.yield ok) else pure (ForInStep.yield r)) (fun ok s₄ =>
            if ok = true then wpAny (model prog w) A (eval elt env) (fun x s₅ => wpAny (model prog w) A (call (.builtin "list.append") [acc, x]) (fun _ s₆ => ∃ m, m < n ∧ Iv m s₆) (fun _ _ => False) s₅) (fun _ _ => False) s₄
            else ∃ m, m < n ∧ Iv m s₄) (fun _ _ => False) s₃) (fun _ _ => False) s₂) (fun _ _ => False) s₁) (fun _ _ => False) s)
    (n : Nat) (h : Iv n s) : codeAny (model prog w) A (.compLoop (.ListComp elt [⟨target, iter, ifs, 0⟩] scope pos) 0 it acc env) R s := by
  refine codeAny_loop rfl Iv (fun n s hI => ?_) n h
  show wpAny _ A ((compTurn (.ListComp elt [⟨target, iter, ifs, 0⟩] scope pos) 0 it acc env).onRaise (fun x => do noteFrame x env; theTreesLotGoes x)) _ _ s
  refine wpAny_noted ?_
  rw [compTurn_list]
  have no : ∀ {α : Type} {t : Sem α} {Q : α → Shared → Prop} {E : Value → Shared → Prop} {s : Shared}, wpAny (model prog w) A t Q (fun _ _ => False) s → wpAny (model prog w) A t Q E s := fun h => wpAny_mono h (fun _ _ q => q) fun _ _ q => q.elim
  refine wpAny_bind (wpAny_standAt (wpAny_bind (no (thn (turn n s hI) fun r s₁ h₁ => ?_))))
  cases r with
  | none => exact no (wpAny_pure h₁)
  | some v =>
    refine wpAny_bind (no (thn h₁ fun _ s₂ h₂ => wpAny_bind (no (thn h₂ fun _ s₃ h₃ => wpAny_bind (no (thn h₃ fun ok s₄ h₄ => ?_))))))
    cases ok with
    | false => exact no (wpAny_pure ⟨rfl, h₄⟩)
    | true => exact wpAny_bind (wpAny_bind (no (thn h₄ fun x s₅ h₅ => wpAny_bind (no (thn h₅ fun _ s₆ h₆ => wpAny_pure (wpAny_pure ⟨rfl, h₆⟩))))))
end
end L2
namespace L2
open PySem PySem.Spec PyProof.Rows
structure GenTab (X : Cx) (c P : Addr) : Prop where
  code : X.env.code = .ref c
  hd : PySem.W.CodeHd X.base c P
  blt : ∃ bm ob, X.mg "__builtins__" = some (.ref bm) ∧ bm ≠ builtinsNs ∧ X.base.get? bm = some ob ∧ ob.cls = .type "module" ∧ ob.dict = some builtinsNs ∧ ob.data = .plain
def TabAt (H : Hp) (P : Addr) : Prop := ∃ ps, H P = some (.tbl ps) ∧ TriplesOk ps.toList
theorem triples_snoc {a b : Int} {c : Value} : ∀ (l : List Value), TriplesOk l → TriplesOk (l ++ [.int a 0, .int b 0, c])
  | [], _ => trivial
  | .int _ _ :: .int _ _ :: _ :: r, h => triples_snoc r h
def lessAll (ns ms : List Int) : Bool := (ns.zip ms).all fun p => decide (p.1 < p.2)
theorem all_zip (ns ms : List Int) : (List.range (min ns.length ms.length)).all (fun j => decide (ns.getD j 0 < ms.getD j 0)) = lessAll ns ms := by
  unfold lessAll
  rw [Bool.eq_iff_iff, List.all_eq_true, List.all_eq_true]
  constructor
  · intro h p hp
    obtain ⟨j, hj⟩ := List.getElem?_of_mem hp
    obtain ⟨h1, h2⟩ := List.getElem?_zip_eq_some.mp hj
    have l1 := (List.getElem?_eq_some_iff.mp h1).1
    have l2 := (List.getElem?_eq_some_iff.mp h2).1
    have := h j (List.mem_range.mpr (by omega))
    rw [List.getD_eq_getElem?_getD, List.getD_eq_getElem?_getD, h1, h2] at this
    exact this
  · intro h j hj
    have hj := List.mem_range.mp hj
    have e1 : ns[j]? = some (ns.getD j 0) := by rw [List.getD_eq_getElem?_getD, List.getElem?_eq_getElem (by omega)]; rfl
    have e2 : ms[j]? = some (ms.getD j 0) := by rw [List.getD_eq_getElem?_getD, List.getElem?_eq_getElem (by omega)]; rfl
    have hz : (ns.zip ms)[j]? = some (ns.getD j 0, ms.getD j 0) := List.getElem?_zip_eq_some.mpr ⟨e1, e2⟩
    exact h _ (List.mem_of_getElem? hz)
def tLessG (S : Hp → Addr → List V → Prop) (P : Addr) (ta : TA) : TE := fun σ H Q => ta σ H fun vs H1 => ∃ (a b : Addr) (ns ms : List Int), vs = [.ref a, .ref b] ∧ S H1 a (ns.map V.int) ∧ S H1 b (ms.map V.int) ∧ TabAt H1 P ∧
  ∀ H', (∀ b o, b ≠ P → H1 b = some o → H' b = some o) → (∀ b, b ≠ P → H1 b = none → H' b = none) → TabAt H' P → Q (.bl (lessAll ns ms)) H'
abbrev tLess (K : PySem.W.Frag) (P : Addr) (ta : TA) : TE := tLessG (SqL K) P ta
structure ZipOk (X : Cx) (S : Hp → Addr → List V → Prop) (P : Addr) : Prop where
  go : ∀ {pins : List (Addr × Obj)} {σ : St} {H1 : Hp} {s1 : Shared} {a b : Addr} {us vs : List V} {ps : Array Value}, Inv X pins σ H1 s1 → X.A.handled = none → S H1 a us → S H1 b vs → H1 P = some (.tbl ps) →
    ∃ ia ib : List Value, Vals us ia ∧ Vals vs ib ∧ a < s1.heap.objs.size ∧ b < s1.heap.objs.size ∧ a ≠ P ∧ b ≠ P ∧ ∀ (Q : Value → Shared → Prop) (E : Value → Shared → Prop),
      (∀ h2 St Mid, (∀ A' : Around, A'.handled = none → WalksU X.prog X.w A' (s1.heap.objs.size + 4) [s1.heap.objs.size + 4, s1.heap.objs.size + 2, s1.heap.objs.size + 3, s1.heap.objs.size, s1.heap.objs.size + 1, a, b] [s1.heap.objs.size + 4, s1.heap.objs.size + 3, s1.heap.objs.size, s1.heap.objs.size + 1] (min ia.toArray.size ib.toArray.size) (fun i vals => ∃ x y, ia.toArray[i]? = some x ∧ ib.toArray[i]? = some y ∧ vals = #[x, y]) St Mid) →
        St 0 h2 → h2.objs.size = s1.heap.objs.size + 5 → (∀ c o, s1.heap.get? c = some o → h2.get? c = some o) → Q (.ref (s1.heap.objs.size + 4)) { s1 with heap := h2 }) → wpAny (model X.prog X.w) X.A (call (.type "zip") [.ref a, .ref b]) Q E s1
section
variable {X : Cx}
theorem Inv.tabled {pins : List (Addr × Obj)} {σ : St} {H : Hp} {s s' : Shared} {P : Addr} {ps more : Array Value} (I : Inv X pins σ H s) (hP : H P = some (.tbl ps)) (ho : s'.os = s.os) (hg : AllBare s'.gens)
    (k : ∀ b o, b ≠ P → s.heap.get? b = some o → s'.heap.get? b = some o) (e : s'.heap.get? P = some { cls := .none, data := .fields (ps ++ more) }) : Inv X pins σ (upd H P (.tbl (ps ++ more))) s' := by
  have nP : ∀ b, H b = none → b ≠ P := fun b n z => by rw [z, hP] at n; cases n
  have nO : ∀ b u, H b = some u → (∀ q, u ≠ .tbl q) → b ≠ P := fun b u n f z => by rw [z, hP] at n; cases n; exact f _ rfl
  refine I.call' (ch := []) ho ⟨fun b o q n _ _ => k b o (nP b n) q, fun b o q n _ _ => ⟨o.slots, k b o (nP b n) q⟩, fun b o q n _ => by rw [upd_ne (nP b n)]; exact n, fun b o q _ => ?_, fun b xs q => by rw [upd_ne (nO b _ q (fun _ z => nomatch z))]; exact q, fun b o u q => by rw [upd_ne (nO b _ q (fun _ z => nomatch z))]; exact q, fun b qs q => ?_⟩ (fun b u q => ?_) hg fun b hb => by cases hb
  · by_cases hb : b = P
    · rw [hb]; exact ⟨_, e⟩
    · exact ⟨o, k b o hb q⟩
  · by_cases hb : b = P
    · subst hb
      rw [hP] at q
      cases q
      exact ⟨more, upd_same⟩
    · exact ⟨#[], by rw [upd_ne hb, q]; simp⟩
  · by_cases hb : b = P
    · subst hb
      rw [upd_same] at q
      cases q
      exact e
    · rw [upd_ne hb] at q
      refine (I.hok b u q).stay (fun c v hc z => k c v ?_ z) (fun c z => by rw [upd_ne (nO c _ z (fun _ y => nomatch y))]; exact z) fun c xs z => by rw [upd_ne (nO c _ z (fun _ y => nomatch y))]; exact z
      rcases hc with y | y
      · rw [y]; exact hb
      · exact nO c _ y (fun _ x => nomatch x)
theorem less_elt {prog : Program} {w : World} {A : Around} {E : Value → Shared → Prop} {s : Shared} {env : Env} {xa xb : Str} {q1 q2 q3 : Pos} {m : Str → Option Value} {i j : Int} {t u : Tok} {Q : Value → Shared → Prop} (hk : env.scope.kind = .function) (ka : env.kindOf xa = some .local) (kb : env.kindOf xb = some .local) (hn : s.heap.Ns env.locals m)
    (ha : m xa = some (.int i t)) (hb : m xb = some (.int j u)) (da : (xa == ("__debug__" : Str)) = false) (db : (xb == ("__debug__" : Str)) = false) (h : Q (.bool (decide (i < j))) s) : wpAny (model prog w) A (eval (.Compare (.Name xa q1) [.Lt] [.Name xb q2] q3) env) Q E s := by
  refine wpAny_Compare1 (wpAny_Name (wpAny_loadName_local hk ka hn ha (wpAny_Name (wpAny_loadName_local hk kb hn hb (lt_int h)) db)) da) (nomark _)
variable {e1 e2 : Expr} {ta : TA} {xa xb : Str} {p1 p2 p3 p4 q1 q2 q3 pa pb pt gpos : Pos} {kt : Nat} {gsc : Scope} {c P : Addr}
theorem pe_lessG {S : Hp → Addr → List V → Prop} (Z : ZipOk X S P) (hcm : X.calm = true) (G : GenTab X c P) (hroom : X.A.depth < recursionLimit) (hga : Gl X "all") (hma : X.mg "all" = none) (hgz : Gl X "zip") (hmz : X.mg "zip" = none) (hargs : PA X [e1, e2] ta)
    (hk : gsc.kind = .function) (hco : gsc.isCoroutine = false) (hclos : closureFor gsc X.env = pure []) (hcell : ∀ y ∈ gsc.names, y.2 ≠ .cell) (h0 : gsc.names.lookup (".0" : Str) = some NameKind.local) (hxa : gsc.names.lookup xa = some .local) (hxb : gsc.names.lookup xb = some .local) (hab : xa ≠ xb)
    (da : (xa == ("__debug__" : Str)) = false) (db : (xb == ("__debug__" : Str)) = false)
    (hs1 : starEach [e1, e2] X.env = (false, eval e1 X.env) :: starEach [e2] X.env := by rfl) (hs2 : (backTo p3 (starEach [e2] X.env)).any (·.1) = false := by rfl) :
    PE X (.Call (.Name "all" p1) [.GeneratorExp (.Compare (.Name xa q1) [.Lt] [.Name xb q2] q3) [⟨.Tuple [.Name xa pa, .Name xb pb] kt pt, .Call (.Name "zip" p2) [e1, e2] [] p3, [], 0⟩] gsc gpos] [] p4) (tLessG S P ta) := by
  intro pins s σ H Q I h
  have hh : X.A.handled = none := I.ok.hd hcm
  refine wpAny_Call_Name_kw (ld_blt I hga hma boot_all (PyProof.Rows.callWith_builtin1 ?_ rfl rfl))
  show wpAny _ _ (spliced [(false, eval (.GeneratorExp (.Compare (.Name xa q1) [.Lt] [.Name xb q2] q3) [⟨.Tuple [.Name xa pa, .Name xb pb] kt pt, .Call (.Name "zip" p2) [e1, e2] [] p3, [], 0⟩] gsc gpos) X.env)]) _ _ s
  refine Calls.spliced_cons (wpAny_GeneratorExp_walksQTD hh hco hclos hcell h0 hxa hxb hab hk hroom (wpAny_Call_Name_kw (ld_blt I hgz hmz boot_zip (PyProof.Rows.callWith_type1 (thn (hargs p3 pins s σ H _ I h) fun us s1 ⟨vs, H1, I1, r1, q1⟩ => ?_) hs1 hs2))) (fun _ => rfl))
  obtain ⟨a, b, ns, ms, rfl, ha, hb, ⟨ps, hP, tr⟩, q⟩ := q1
  obtain ⟨ua, ub, rfl, ra, rb⟩ := vals2 r1
  cases ra
  cases rb
  obtain ⟨ia, ib, va, vb, alt, blt, aP, bP, zip⟩ := Z.go I1 hh ha hb hP
  have Pobj : s1.heap.get? P = some (PySem.W.tabObj ps) := I1.hok P _ hP
  have Plt : P < s1.heap.objs.size := Heap.lt_size Pobj
  refine zip _ _ fun h2 St Mid W hst sz2 k2 => ?_
  refine (W X.A hh).self 0 { s1 with heap := h2 } _ _ hst ?_
  have I2 : Inv X pins σ H1 { s1 with heap := h2 } := I1.kept (t' := s1.toks) k2
  refine ⟨I2.nolimit, ?_⟩
  have hd2 : PySem.W.CodeHd h2 c P := G.hd.keeps fun b o e => I2.bk b o e
  have isC := hd2.code (k2 P _ Pobj) tr
  have isT := hd2.tab (k2 P _ Pobj)
  obtain ⟨bm, ob, b1, b2, b3, b4, b5, b6⟩ := G.blt
  -- behind the code: the table is ps ++ more, all else is kept
  have rest : ∀ (code : Value) (h3 : Heap) (tk : Nat) (more : Array Value), (∀ b o, b ≠ P → h2.get? b = some o → h3.get? b = some o) → h2.objs.size ≤ h3.objs.size → h3.get? P = some { cls := .none, data := .fields (ps ++ more) } → TriplesOk (ps ++ more).toList →
      wpAny (model X.prog X.w) X.A (builtinsFor X.env.globals X.env.builtins) (fun bi s₄ => ∃ I fp wr n₀ Pt St₀ Mid pz F, Value.ref (s1.heap.objs.size + 4) = .ref I ∧ (∀ A' : Around, A'.handled = none → WalksU X.prog X.w A' I fp wr n₀ Pt St₀ Mid) ∧ (∀ i vals, Pt i vals → ∃ va vb, vals = #[va, vb]) ∧ St₀ 0 s₄.heap ∧ (∀ b ∈ fp, b < s₄.heap.objs.size) ∧ s₄.heap.NoLimit ∧ cStatics ∉ wr ∧
          (∀ href : Heap, (∀ b o, s₄.heap.get? b = some o → href.get? b = some o) →
            QuietGenTD X.prog X.w (genEnv gsc [] s₄.heap.objs.size code bi X.env) xa xb [] (.Compare (.Name xa q1) [.Lt] [.Name xb q2] q3) (List.range s₄.heap.objs.size) wr Pt pz F href (X.A.depth + 1) (X.A.units + 8)) ∧
          (∀ a h₅ tk gs, gs.bare = true → s₄.heap.objs.size < a → h₅.objs.size = a + 1 → (∀ b o, s₄.heap.get? b = some o → h₅.get? b = some o) →
            WalksS X.prog X.w X.A.in4 a (a :: s₄.heap.objs.size :: List.range s₄.heap.objs.size) (s₄.heap.objs.size :: wr) (GenOnlyQ s₄.gens.size) (passing pz n₀ 0).length
              (fun j y => ∃ i, (passing pz n₀ 0)[j]? = some i ∧ F i y) (GenAt X.prog X.w X.A.in4 a s₄.gens.size s₄.heap.objs.size (List.range s₄.heap.objs.size) wr pz n₀ F) →
            GenAt X.prog X.w X.A.in4 a s₄.gens.size s₄.heap.objs.size (List.range s₄.heap.objs.size) wr pz n₀ F 0 { s₄ with gens := s₄.gens.push gs, toks := tk, heap := h₅ } →
            wpAny (model X.prog X.w) X.A (spliced []) (fun us s₆ => wpAny (model X.prog X.w) X.A (call (.builtin "all") (.ref a :: us)) (EP X pins σ Q) X.xe s₆) X.xe { s₄ with gens := s₄.gens.push gs, toks := tk, heap := h₅ })) X.xe { s1 with heap := h3, toks := tk } := by
    intro code h3 tk more k3 sz3 e3 tr3
    have I3 : Inv X pins σ (upd H1 P (.tbl (ps ++ more))) { s1 with heap := h3, toks := tk } := Inv.tabled (s := { s1 with heap := h2 }) (s' := { s1 with heap := h3, toks := tk }) I2 hP rfl I2.bare k3 e3
    have bk3 := I3.bk
    refine wpAny_builtinsFor (by rw [I3.ok.glob]; exact I3.mod.glob.keeps bk3) b1 b2 (bk3 _ _ b3) b4 b5 b6 ?_
    have nz : ∀ k, s1.heap.objs.size + k ≠ P := fun k => Nat.ne_of_gt (Nat.lt_of_lt_of_le Plt (Nat.le_add_right _ _))
    have cst : cStatics < s1.heap.objs.size := by obtain ⟨mc, hn, _⟩ := I1.nolimit; exact hn.lt
    have lenA := va.length
    have lenB := vb.length
    rw [List.length_map] at lenA lenB
    have atA : ∀ (i : Nat) (x : Value), ia.toArray[i]? = some x → ∃ t, x = .int (ns.getD i 0) t := fun i x hx => IntsAre.int_at (ints_vals va) i x (by simpa using hx)
    have atB : ∀ (i : Nat) (x : Value), ib.toArray[i]? = some x → ∃ t, x = .int (ms.getD i 0) t := fun i x hx => IntsAre.int_at (ints_vals vb) i x (by simpa using hx)
    have lt3 : ∀ k, k < 5 → s1.heap.objs.size + k < h3.objs.size := fun k hk => Nat.lt_of_lt_of_le (Nat.add_lt_add_left hk _) (Nat.le_trans (Nat.le_of_eq sz2.symm) sz3)
    refine ⟨_, _, _, _, _, _, _, (fun _ => true), (fun i y => y = .bool (decide (ns.getD i 0 < ms.getD i 0))), rfl, W, fun i vals ⟨x, y, _, _, e⟩ => ⟨x, y, e⟩, (W X.A hh).frame _ _ _ hst fun b hb o e => k3 b o ?_ e, fun b hb => ?_, I3.nolimit, ?_, fun href hk4 => ?_, fun g h5 tk5 gs gb g1 g2 k5 WS GA => ?_⟩
    · simp only [List.mem_cons, List.not_mem_nil, or_false] at hb
      rcases hb with z | z | z | z | z | z | z <;> rw [z]
      · exact nz 4
      · exact nz 2
      · exact nz 3
      · exact nz 0
      · exact nz 1
      · exact aP
      · exact bP
    · simp only [List.mem_cons, List.not_mem_nil, or_false] at hb
      rcases hb with z | z | z | z | z | z | z <;> rw [z]
      · exact lt3 4 (by decide)
      · exact lt3 2 (by decide)
      · exact lt3 3 (by decide)
      · exact lt3 0 (by decide)
      · exact lt3 1 (by decide)
      · exact Nat.lt_trans alt (lt3 0 (by decide))
      · exact Nat.lt_trans blt (lt3 0 (by decide))
    · intro hb
      simp only [List.mem_cons, List.not_mem_nil, or_false] at hb
      have big : ∀ k, cStatics ≠ s1.heap.objs.size + k := fun k => Nat.ne_of_lt (Nat.lt_of_lt_of_le cst (Nat.le_add_right _ _))
      rcases hb with z | z | z | z
      · exact big 4 z
      · exact big 3 z
      · exact big 0 z
      · exact big 1 z
    · refine ⟨fun A' E' i va' vb' s2 m2 _ _ _ _ _ _ _ _ => wpAny_tests_nil ⟨rfl, s2.heap, s2.toks, rfl, fun _ _ e => e⟩, fun A' E' i va' vb' s2 m2 hA _ _ hPt _ hn hma hmb _ => ?_⟩
      obtain ⟨x, y, hx, hy, e⟩ := hPt
      obtain ⟨ex, ey⟩ : va' = x ∧ vb' = y := by simpa using congrArg Array.toList e
      subst ex ey
      obtain ⟨t1, rfl⟩ := atA i _ hx
      obtain ⟨t2, rfl⟩ := atB i _ hy
      exact less_elt hk hxa hxb hn hma hmb da db ⟨rfl, s2.heap, s2.toks, rfl, fun _ _ e => e⟩
    · have hpass : passing (fun _ => true) (min ia.toArray.size ib.toArray.size) 0 = List.range (min ia.toArray.size ib.toArray.size) := by
        unfold passing
        simp
      rw [hpass] at WS
      have W1 := WS.in4_1
      refine Calls.spliced_nil (call_all_walkS (W1.self 0 _ _ _ GA ⟨g, _, _, _, _, _, _, (fun j => decide (ns.getD j 0 < ms.getD j 0)), rfl, W1, GA, fun j v s7 Q' E' hv hq => ?_, fun s7 mv => ?_⟩))
      · obtain ⟨i, hi, rfl⟩ := hv
        have : i = j := by
          obtain ⟨hl, he⟩ := List.getElem?_eq_some_iff.mp hi
          rw [List.getElem_range] at he
          exact he.symm
        subst this
        exact wpAny_truthy_bool hq
      · have k7 : ∀ b o, b < h3.objs.size → (∀ k, b ≠ s1.heap.objs.size + k) → h3.get? b = some o → s7.heap.get? b = some o := fun b o hb hn e => mv.heap b o (by
          simp only [List.mem_cons, List.not_mem_nil, or_false, not_or]
          exact ⟨Nat.ne_of_lt hb, hn 4, hn 3, hn 0, hn 1⟩) (k5 b o e)
        have small : ∀ b, b < s1.heap.objs.size → ∀ k, b ≠ s1.heap.objs.size + k := fun b hb k => Nat.ne_of_lt (Nat.lt_of_lt_of_le hb (Nat.le_add_right _ _))
        have e7 : s7.heap.get? P = some { cls := .none, data := .fields (ps ++ more) } := k7 P _ (Heap.lt_size e3) (small P Plt) e3
        have I7 : Inv X pins σ (upd H1 P (.tbl (ps ++ more))) s7 := Inv.tabled I1 hP mv.os (AllBare.movedS (s := { s1 with heap := h5, gens := s1.gens.push gs, toks := tk5 }) (I1.bare.push gb) mv) (fun b o hb e => k7 b o (Heap.lt_size (k3 b o hb (k2 b o e))) (small b (Heap.lt_size e)) (k3 b o hb (k2 b o e))) e7
        refine ⟨.bl _, _, I7, rfl, ?_⟩
        have hall : (List.range (List.range (min ia.toArray.size ib.toArray.size)).length).all (fun j => decide (ns.getD j 0 < ms.getD j 0)) = lessAll ns ms := by
          rw [List.length_range, List.size_toArray, List.size_toArray, ← lenA, ← lenB]
          exact all_zip ns ms
        rw [hall]
        exact q _ (fun b o hb e => by rw [upd_ne hb]; exact e) (fun b hb e => by rw [upd_ne hb]; exact e) ⟨_, upd_same, tr3⟩
  cases hcd : codeAmong gpos ps.toList with
  | none =>
    refine wpAny_genexprCodeX G.code isC isT hcd fun c' h3 tk hx hge hlt _ _ ht3 _ => ?_
    refine rest (.ref c') h3 tk #[rawInt gpos.line, rawInt gpos.col, .ref c'] (fun b o hb e => hx b o hb e) (Nat.le_trans hge (Nat.le_of_lt hlt)) ht3.2 ?_
    rw [Array.toList_append]
    exact triples_snoc _ tr
  | some cv =>
    refine wpAny_genexprCode_hit G.code isC hcd ?_
    have := rest cv h2 s1.toks #[] (fun b o _ e => e) (Nat.le_refl _) (by simpa using k2 P _ Pobj) (by simpa using tr)
    exact this
end
theorem zipL {X : Cx} {P : Addr} : ZipOk X (SqL X.K) P := ⟨fun {pins σ H1 s1 a b us vs ps} I1 hh ha hb hP => by
  obtain ⟨ia, va, pla, za⟩ := I1.list ha
  obtain ⟨ib, vb, plb, zb⟩ := I1.list hb
  have Pobj : s1.heap.get? P = some (PySem.W.tabObj ps) := I1.hok P _ hP
  have notP : ∀ (l : Addr) (its : Array Value), s1.heap.IsList l its → l ≠ P := fun l its ⟨o, e, c, _⟩ z => by
    rw [z, Pobj] at e
    cases e
    cases c
  have lt : ∀ (l : Addr) (its : Array Value), s1.heap.IsList l its → l < s1.heap.objs.size := fun l its ⟨o, e, _⟩ => Heap.lt_size e
  refine ⟨ia, ib, va, vb, lt _ _ pla.isList, lt _ _ plb.isList, notP _ _ pla.isList, notP _ _ plb.isList, fun Q E go => call_zip_2 pla.isList plb.isList fun h2 hz hTI hTO hi1 hi2 sz2 k2 => ?_⟩
  exact go h2 _ _ (fun A' hA => (WalksT.zip2 (prog := X.prog) (w := X.w) hA _ _ _ _ _ _ _ (zipApart_new (lt _ _ pla.isList) (lt _ _ plb.isList)) ia.toArray ib.toArray).toU) ⟨hz, hTI, ⟨_, _, hTO⟩, hi1, hi2, pla.isList.at fun o e => k2 _ o e, plb.isList.at fun o e => k2 _ o e⟩ sz2 k2⟩
end L2
namespace L2
open PySem PySem.Spec PyProof.Rows
theorem law_callT {P : Program} {w : World} {K : PySem.W.Frag} {mg mb : Str → Option Value} {CX : CXT} {k : Nat} {fa a : Addr} {fd : FuncData} {x : Str} {sp : Sp} {s₁ : Shared} {vs : List Value} {ns : List Int} {c tab : Addr}
    (KX : K.In s₁.heap) (hns : s₁.heap.Ns mainGlobals mg) (hb : s₁.heap.Ns builtinsNs mb) (hbb : ∀ x : Str, x ≠ "__name__" → mb x = bootBuiltins x) (hlim : s₁.heap.NoLimit) (hg : s₁.gens = #[])
    (ha : s₁.heap.get? a = some { cls := .type "list", data := .seq vs.toArray }) (hi : IntsAre vs ns) (hl : ns.length ≤ sizeLine) (hr : Room k callerA)
    (hT : s₁.heap.TableAt c tab #[]) (hKt : K.lookup tab = none)
    (F : ∀ base : Heap, K.In base → base.Ns mainGlobals mg → (∀ b o, s₁.heap.get? b = some o → o.cls ≠ .type "list" → o.cls ≠ .none → base.get? b = some o) → FnOk P w K mg base CX k fa fd [x] sp) (hbind : ∀ (s : Shared) (u : Value), BindsTo s fd ⟨[u], []⟩ [(x, u)])
    (hsp : ∀ H : Hp, SqL K H a (ns.map V.int) → H tab = some (.tbl #[]) → sp [.ref a] H (fun v _ => v = .bl true) fun _ _ _ => False)
    (hCX : ∀ H e s', CX [] H s₁ (fun _ _ _ => False) e s' → False) :
    codeAny (model P w) callerA (.call (.ref fa) ⟨[.ref a], []⟩) (fun r s' => r = .ok (.ret (.bool true)) ∧ OldK s₁.heap s'.heap ∧ s'.os = s₁.os ∧ AllBare s'.gens) s₁ := by
  have rv := vals_ints hi
  have lenV := hi.length
  have hto : s₁.heap.get? tab = some { cls := .none, data := .fields #[] } := hT.2
  have nat : a ≠ tab := fun z => by rw [z, hto] at ha; cases ha
  -- from an abstract heap in which nothing but the script and the table may be tracked
  have core : ∀ H : Hp, (∀ b, H b = none ∨ (b = a ∧ ∃ o xs, H b = some (.frz o (.lst xs))) ∨ (b = tab ∧ H b = some (.tbl #[]))) → SqL K H a (ns.map V.int) → H tab = some (.tbl #[]) → HOk P w H s₁.heap → (H a ≠ none → K.lookup a = none) →
      codeAny (model P w) callerA (.call (.ref fa) ⟨[.ref a], []⟩) (fun r s' => r = .ok (.ret (.bool true)) ∧ OldK s₁.heap s'.heap ∧ s'.os = s₁.os ∧ AllBare s'.gens) s₁ := by
    intro H hO hS hHt hok hK
    have freeOf : ∀ {b : Addr} {o : Obj}, s₁.heap.get? b = some o → o.cls ≠ .type "list" → o.cls ≠ .none → H b = none := fun {b o} e c1 c2 => by
      rcases hO b with z | ⟨z, _⟩ | ⟨z, _⟩
      · exact z
      · rw [z, ha] at e; cases e; exact absurd rfl c1
      · rw [z, hto] at e; cases e; exact absurd rfl c2
    have nsK : ∀ {b : Addr} {m : Str → Option Value}, s₁.heap.Ns b m → (hidT s₁.heap H).Ns b m := fun {b m} ⟨o, es, ep, e, d, r⟩ => by
      refine ⟨o, es, ep, hidT_get e ?_, d, r⟩
      rcases hO b with z | ⟨z, _⟩ | ⟨z, _⟩
      · exact z
      · rw [z, ha] at e; cases e; have d' : Data.seq vs.toArray _ = Data.dict es ep := d; cases d'
      · rw [z, hto] at e; cases e; have d' : Data.fields #[] = Data.dict es ep := d; cases d'
    have hKb : K.In (hidT s₁.heap H) := fun b o e => hidT_get (KX b o e) (by
      rcases hO b with z | ⟨z, _, _, z2⟩ | ⟨z, _⟩
      · exact z
      · rw [z] at e z2; rw [hK (by rw [z2]; simp)] at e; cases e
      · rw [z, hKt] at e; cases e)
    have hM : Mod K mg (hidT s₁.heap H) := ⟨hKb, nsK hns, ⟨mb, nsK hb, hbb⟩, let ⟨mc, h1, h2⟩ := hlim; ⟨mc, nsK h1, h2⟩⟩
    have e0 : Env0 P w K mg (hidT s₁.heap H) callerA [] s₁ H := ⟨rfl, hM, fun b o e => of_hidT e, Nat.le_of_eq (hidT_size _ _), trivial, fun b hb => absurd (show b ∈ ([] : List Addr) from hb) (by simp), hok, .of_eq hg⟩
    refine codeAny_mono ((F _ hKb (nsK hns) fun b o e c1 c2 => hidT_get e (freeOf e c1 c2)).run callerA [] s₁ H ⟨[.ref a], []⟩ [.ref a] [.ref a] _ _ hr e0 (hbind s₁ (.ref a)) (.cons rfl .nil) (hsp H hS hHt)) fun r s' h => ?_
    cases r with
    | error e => exact (hCX H e s' h).elim
    | ok fl =>
      cases fl with
      | next => exact False.elim h
      | brk => exact False.elim h
      | cont => exact False.elim h
      | ret u =>
        obtain ⟨v, H', os, bare, un, hok', r', q⟩ := h
        have q' : v = .bl true := q
        subst q'
        obtain rfl : u = Value.bool true := r'
        have keepN : ∀ b o, s₁.heap.get? b = some o → H b = none → s'.heap.get? b = some o := fun b o e n => un.keep b o e n (by intro z; exact absurd (show b ∈ ([] : List Addr) from z) (by simp)) (by simp)
        obtain ⟨more, hm⟩ := un.tbls tab _ hHt
        have ht' : s'.heap.get? tab = some { cls := .none, data := .fields (#[] ++ more) } := hok' tab _ hm
        have keepA : ∀ b o, s₁.heap.get? b = some o → b ≠ tab → s'.heap.get? b = some o := fun b o e n => by
          rcases hO b with z | ⟨_, ob, xs, z⟩ | ⟨z, _⟩
          · exact keepN b o e z
          · have z2 := un.frzs b ob _ z
            obtain ⟨e1, _⟩ := hok b _ z
            obtain ⟨e2, _⟩ := hok' b _ z2
            rw [e] at e1; cases e1
            exact e2
          · exact absurd z n
        refine ⟨rfl, ⟨fun b o e => ?_, fun b o e => ?_⟩, os, bare⟩
        · by_cases hbt : b = tab
          · subst hbt
            rw [hto] at e
            cases e
            exact .inr (.inl ⟨hT.isCodeTable, rfl, #[], more, rfl, ht'⟩)
          · exact .inl (keepA b o e hbt)
        · by_cases hbt : b = tab
          · rw [hbt]; exact ⟨_, ht'⟩
          · exact ⟨o, keepA b o e hbt⟩
  have okT : ∀ H : Hp, ObjOk P w H s₁.heap tab (.tbl #[]) := fun H => hto
  cases hk : K.lookup a with
  | some o =>
    have e := KX a o hk
    rw [ha] at e
    cases e
    refine core (fun b => if b = tab then some (.tbl #[]) else none) (fun b => ?_) (.inr ⟨_, vs.toArray, _, hk, rfl, rfl, rfl, by rw [List.size_toArray, lenV]; exact hl, by simpa using rv⟩) (if_pos rfl) (fun b u z => ?_) fun z => absurd (if_neg nat) z
    · by_cases hb' : b = tab
      · exact .inr (.inr ⟨hb', if_pos hb'⟩)
      · exact .inl (if_neg hb')
    · by_cases hb' : b = tab
      · have z' := (if_pos hb').symm.trans z
        cases z'
        rw [hb']
        exact okT _
      · have z' := (if_neg hb').symm.trans z
        cases z'
  | none =>
    refine core (fun b => if b = tab then some (.tbl #[]) else if b = a then some (.frz { cls := .type "list", data := .seq vs.toArray } (.lst (ns.map V.int))) else none) (fun b => ?_) (.inl (.inr ⟨{ cls := .type "list", data := .seq vs.toArray }, (if_neg nat).trans (if_pos rfl)⟩)) (if_pos rfl) (fun b u z => ?_) fun _ => hk
    · by_cases hb' : b = tab
      · exact .inr (.inr ⟨hb', if_pos hb'⟩)
      · by_cases hba : b = a
        · exact .inr (.inl ⟨hba, _, _, (if_neg hb').trans (if_pos hba)⟩)
        · exact .inl ((if_neg hb').trans (if_neg hba))
    · by_cases hb' : b = tab
      · have z' := (if_pos hb').symm.trans z
        cases z'
        rw [hb']
        exact okT _
      · by_cases hba : b = a
        · have z' := ((if_neg hb').trans (if_pos hba)).symm.trans z
          cases z'
          subst hba
          exact ⟨ha, by rw [List.length_map]; exact hl, vs, _, rv, ha⟩
        · have z' := ((if_neg hb').trans (if_neg hba)).symm.trans z
          cases z'
structure BaseT (mg : Str → Option Value) (base : Heap) (c tab : Addr) : Prop where
  hd : PySem.W.CodeHd base c tab
  blt : ∃ bm ob, mg "__builtins__" = some (.ref bm) ∧ bm ≠ builtinsNs ∧ base.get? bm = some ob ∧ ob.cls = .type "module" ∧ ob.dict = some builtinsNs ∧ ob.data = .plain
theorem walk_ofT {l : PySem.W.OpenLaw} {n k : Nat} {q : Program} {loose : List Str} {XP : (Str → Option Value) → Heap → Prop} {YP : World → Heap → Prop} {d : DefRec} {K : Params → PySem.W.Frag} {CX : CXT} {sp : World → PySem.W.Frag → Addr → Sp} {x tx : Str} {dx : DefRec}
    (hn : l.most = some n) (hn2 : n ≤ sizeLine) (hdf : d.params.defaults = []) (hr : Room k callerA)
    (hY : ∀ (w : World) (h : Heap), YP w h → (K w.params).In h) (hrec : (recsOf q).find? (fun e => e.name == tx) = some dx)
    (F : ∀ (w : World) (mg : Str → Option Value) (fa : Addr) (h : Heap), (K w.params).In h → h.Ns mainGlobals mg → mg d.name = some (.ref fa) →
      ∃ (c tab : Addr) (fd : FuncData), PySem.W.tabIn (K w.params) tx = some (c, tab) ∧ (K w.params).lookup tab = none ∧ (∀ (s : Shared) (u : Value), BindsTo s fd ⟨[u], []⟩ [(x, u)]) ∧
        ∀ base : Heap, (K w.params).In base → base.Ns mainGlobals mg → BaseT mg base c tab → FnOk l.prog w (K w.params) mg base CX k fa fd [x] (sp w (K w.params) tab))
    (hsp : ∀ (w : World) (K : PySem.W.Frag) (H : Hp) (a tab : Addr) (ns : List Int), ns.length ≤ n → SqL K H a (ns.map V.int) → H tab = some (.tbl #[]) → sp w K tab [.ref a] H (fun v _ => v = .bl true) fun _ _ _ => False)
    (hCX : ∀ (H : Hp) (s : Shared) (e : Value) (s' : Shared), CX [] H s (fun _ _ _ => False) e s' → False) :
    PySem.W.WalkO q loose XP YP l.row.toRowW d [] (fun f vs => PySem.call f vs) := by
  refine Att.attach_call hn hdf fun w s₀ s₁ mg mb fa o pm cd doc a vs ns G Y ho hd hcd hmg hobj hints hlen hg => ?_
  have KX := hY w _ Y
  obtain ⟨c, tab, fd, ht, hKt, hb, hF⟩ := F w mg fa _ KX G.T.g hmg
  obtain ⟨hd1, hP⟩ := PySem.W.tab_of G.T KX hrec ht
  obtain ⟨bm, ob, b1, b2, b3, b4, b5, b6⟩ := G.T.bmain
  refine law_callT KX G.T.g G.T.b G.T.builtins G.T.nolimit hg hobj hints (Nat.le_trans hlen hn2) hr (hd1.tab hP) hKt (fun base kb nb bk => hF base kb nb ⟨?_, bm, ob, b1, b2, bk _ _ b3 (by rw [b4]; simp) (by rw [b4]; simp), b4, b5, b6⟩) hb (fun H hS hH => hsp w _ H a tab ns hlen hS hH) fun H e s' => hCX H s₁ e s'
  obtain ⟨o, vs', file, tf, flags, tg, inF, text, tt, e1, r1, r2⟩ := hd1
  exact ⟨o, vs', file, tf, flags, tg, inF, text, tt, bk _ _ e1 (by rw [r1]; simp) (by rw [r1]; simp), r1, r2⟩
end L2
namespace L2
open PySem PySem.Spec PyProof.Rows
def DK (e : Addr) (d : Option Addr) (h : Heap) : Prop := ∃ o, h.get? e = some o ∧ o.dict = d
theorem dict_mf (o : Obj) (f : Array Value → Array Value) : (o.mapFields f).dict = o.dict := by
  obtain ⟨c, d, da, sl⟩ := o
  cases da <;> rfl
section
variable {M : Model} {A : Around} {E : Value → Shared → Prop} {s : Shared} {base : Heap} {env : Env} {outer : List Env} {L e : Addr} {oe : Obj} {vs : Array Value} {a0 cls : Value} {d : Option Addr}
theorem ent_d {head : Value} {hadNext : Bool} {Q : Unit → Shared → Prop} (hfr : A.frames = some (env :: outer)) (hl : s.heap.FunFrames base (env :: outer)) (hf : env.frame = some L) (he : s.heap.get? e = some oe) (hkb : base.StaysIn s.heap) (hen : base.get? e = none) (hd : oe.data = .fields vs) (hsz : 1 < vs.size) (h0 : vs[0]? = some a0)
    (h : ∀ h', Heap.NotedW base (env :: outer) e oe.cls a0 (rawInt L) s.heap h' → DK e oe.dict h' → Q () { s with heap := h' }) :
    wpAny M A (do setField (.ref e) 1 (← EntryCells.newEntry head (← frameOf env) .none (rawInt L) .none (← entryPlaceOf L hadNext))) Q E s := by
  have ne : e ∉ (env :: outer).filterMap (·.frame) := fun z => by
    obtain ⟨_, o, q1, q2⟩ := hl.mem z
    rw [he] at q1; cases q1; exact q2 _ hd
  refine wpAny_bind (wpAny_frameOf_fun hfr hl hf fun g1 k1 => wpAny_bind (wpAny_entryPlaceOf fun pl hpl => ?_))
  have h1 : g1.get? e = some oe := (k1.2.1 e ne).trans he
  have kb : base.StaysIn g1 := fun b o q => (k1.2.1 b fun z => by rw [(hl.mem z).1] at q; cases q).trans (hkb b o q)
  unfold EntryCells.newEntry newFields
  refine wpAny_bind (wpAny_newObj_type ?_ (hpl.sizeOk5 _ _ _ _ _))
  have tk : ∃ ts : Array Value, (([head, .ref L, .none, rawInt L, .none] ++ (if pl.isEmpty then List.replicate 6 Value.none else pl)).toArray = ts) ∧ ts[3]? = some (rawInt L) := ⟨_, rfl, by first | (simp; done) | (rcases hpl with rfl | ⟨_, _, _, _, _, _, _, rfl⟩ <;> simp)⟩
  obtain ⟨ts, t1, t2⟩ := tk
  rw [t1]
  have h2 := Heap.get?_push_of_some (h := g1) { cls := .type "traceback", dict := none, data := .fields ts } h1
  have tn : g1.objs.size ≠ e := Nat.ne_of_gt (Heap.lt_size h1)
  refine wpAny_setField h2 hd hsz (h _ ?_ ?_)
  · have d3 := Obj.data_mapFields hd (·.setIfInBounds 1 (Value.ref g1.objs.size))
    have h3 := Heap.get?_update_self (Obj.mapFields (·.setIfInBounds 1 (Value.ref g1.objs.size))) h2 (Obj.isFreed_of_fields d3)
    have q3 := (Heap.get?_update_other (g1.push { cls := .type "traceback", dict := none, data := .fields ts }) (Obj.mapFields (·.setIfInBounds 1 (Value.ref g1.objs.size))) (Ne.symm tn)).trans (Heap.get?_push_size g1 rfl)
    have kp : ∀ b o, b ≠ e → g1.get? b = some o → ((g1.push { cls := .type "traceback", dict := none, data := .fields ts }).update e (Obj.mapFields (·.setIfInBounds 1 (Value.ref g1.objs.size)))).get? b = some o := fun b o z q =>
      (Heap.get?_update_other _ _ (Ne.symm z)).trans (Heap.get?_push_of_some _ q)
    have nr : ∀ b o, s.heap.get? b = some o → (∀ vs, o.data ≠ .fields vs) → b ≠ e := fun b o q z y => by rw [y, he] at q; cases q; exact z _ hd
    refine ⟨fun b o q => kp b o (fun z => by rw [z, hen] at q; cases q) (kb b o q), hl.of_keeps fun b o q z => ?_, ?_, fun b o q z => ?_⟩
    · obtain ⟨sl, y⟩ := k1.2.2 b o q
      exact ⟨_, kp b _ (nr b o q z) y, rfl⟩
    · exact ⟨_, _, g1.objs.size, _, _, h3, ⟨Obj.cls_mapFields _ _, by rw [Array.getElem?_setIfInBounds_ne (by decide)]; exact h0⟩, d3, by simp [hsz], kb.fresh, tn, q3, rfl, t2⟩
    · obtain ⟨sl, y⟩ := k1.2.2 b o q
      exact ⟨sl, kp b _ (nr b o q z) y⟩
  · exact ⟨_, Heap.get?_update_self _ h2 (Obj.isFreed_of_fields (Obj.data_mapFields hd _)), dict_mf _ _⟩
theorem first_d {Q : Unit → Shared → Prop} (hfr : A.frames = some (env :: outer)) (hl : s.heap.FunFrames base (env :: outer)) (hf : env.frame = some L) (he : s.heap.get? e = some oe) (hkb : base.StaysIn s.heap) (hen : base.get? e = none) (hd : oe.data = .fields vs) (h1 : vs[1]? = some .none) (h0 : vs[0]? = some a0)
    (h : ∀ h', Heap.HeldW base (env :: outer) e oe.cls a0 L h' → s.heap.UpToSlots h' → DK e oe.dict h' → Q () { s with heap := h' }) : wpAny M A (noteFrame (.ref e) env) Q E s := by
  unfold noteFrame
  simp only [hf]
  refine wpAny_bind (wpAny_field he hd h1 ?_)
  rw [if_neg (by decide)]
  exact ent_d hfr hl hf he hkb hen hd (Array.getElem?_eq_some_iff.mp h1).1 h0 fun h' ⟨x1, x2, x3, x4⟩ y => h h' ⟨x1, hen, x2, x3⟩ x4 y
theorem looks_d {Q : Unit → Shared → Prop} (hfr : A.frames = some (env :: outer)) (hf : env.frame = some L) (hfl : Heap.FlyingW base (env :: outer) e cls a0 s.heap) (dk : DK e d s.heap)
    (hQ : ∀ h', Heap.HeldW base (env :: outer) e cls a0 L h' → s.heap.UpToSlots h' → DK e d h' → Q () { s with heap := h' }) : wpAny M A (noteFrame (.ref e) env) Q E s := by
  obtain ⟨hkb, hen, hl, oe, vs, T, oT, ts, he, ⟨rfl, h0⟩, hd, h1, hnT, hTe, hT, hdT, h3⟩ := hfl
  obtain ⟨o2, e2, rfl⟩ := dk
  rw [he] at e2; cases e2
  unfold noteFrame
  simp only [hf]
  refine wpAny_bind (wpAny_field he hd h1 ?_)
  rw [if_pos (show (Value.ref T != Value.none) = true from by simp)]
  refine wpAny_bind (wpAny_field hT hdT h3 ?_)
  rw [if_neg (show ¬ ((Value.none == rawInt L) = true) from by simp [rawInt])]
  refine wpAny_bind (wpAny_setField hT hdT (Array.getElem?_eq_some_iff.mp h3).1 ?_)
  have oth : ∀ b, b ≠ T → (s.heap.update T (Obj.mapFields (·.setIfInBounds 3 Value.none))).get? b = s.heap.get? b := fun b z => Heap.get?_update_other _ _ (Ne.symm z)
  have nr : ∀ b o, s.heap.get? b = some o → (∀ vs, o.data ≠ .fields vs) → b ≠ T := fun b o q z y => by rw [y, hT] at q; cases q; exact z _ hdT
  refine ent_d hfr (hl.of_keeps fun b o q z => ⟨o, (oth b (nr b o q z)).trans q, rfl⟩) hf ((oth e (Ne.symm hTe)).trans he) (fun b o q => (oth b fun z => by rw [z, hnT] at q; cases q).trans (hkb b o q)) hen hd (Array.getElem?_eq_some_iff.mp h1).1 h0
    fun h' ⟨x1, x2, x3, x4⟩ y => hQ h' ⟨x1, hen, x2, x3⟩ (fun b o q z => x4 b o ((oth b (nr b o q z)).trans q) z) y
theorem sf_d {l : List Env} {fl : Value} {Q : Unit → Shared → Prop} (hkb : base.StaysIn s.heap) (hen : base.get? e = none) (hl : s.heap.FunFrames base l) (ht : s.heap.TracedAtW base e cls a0 fl) (dk : DK e d s.heap)
    (h : ∀ h', Heap.FlyingW base l e cls a0 h' → s.heap.UpToSlots h' → DK e d h' → Q () { s with heap := h' }) : wpAny M A (setFlight (.ref e) none) Q E s := by
  obtain ⟨oe, vs, T, oT, ts, he, hcls, hd, h1, hnT, hTe, hT, hdT, h3⟩ := ht
  obtain ⟨o2, e2, rfl⟩ := dk
  rw [he] at e2; cases e2
  have h33 := (Array.getElem?_eq_some_iff.mp h3).1
  have oth : ∀ b, b ≠ T → (s.heap.update T (Obj.mapFields (·.setIfInBounds 3 ((none : Option Addr).elim Value.none fun f => rawInt f)))).get? b = s.heap.get? b := fun b z => Heap.get?_update_other _ _ (Ne.symm z)
  have nr : ∀ b o, s.heap.get? b = some o → (∀ vs, o.data ≠ .fields vs) → b ≠ T := fun b o q z y => by rw [y, hT] at q; cases q; exact z _ hdT
  have hE := (oth e (Ne.symm hTe)).trans he
  unfold setFlight
  refine wpAny_bind (wpAny_field he hd h1 ?_)
  rw [if_pos (show (Value.ref T != Value.none) = true from by simp)]
  refine wpAny_setField hT hdT h33 (h _ ⟨fun b o q => (oth b fun z => by rw [z, hnT] at q; cases q).trans (hkb b o q), hen, hl.of_keeps fun b o q z => ⟨o, (oth b (nr b o q z)).trans q, rfl⟩, ?_⟩ (fun b o q z => ⟨o.slots, (oth b (nr b o q z)).trans q⟩) ⟨_, hE, rfl⟩)
  exact ⟨oe, vs, T, _, _, hE, hcls, hd, h1, hnT, hTe, Heap.get?_update_self _ hT (Obj.isFreed_of_fields (Obj.data_mapFields hdT _)), Obj.data_mapFields hdT _, by simp [h33]⟩
theorem leave_first_d {Q : Unit → Shared → Prop} (hfr : A.frames = some (env :: outer)) (hl : s.heap.FunFrames base (env :: outer)) (hf : env.frame = some L) (he : s.heap.get? e = some oe) (hkb : base.StaysIn s.heap) (hen : base.get? e = none) (hd : oe.data = .fields vs) (h1 : vs[1]? = some .none) (h0 : vs[0]? = some a0)
    (h : ∀ h', Heap.FlyingW base outer e oe.cls a0 h' → s.heap.UpToSlots h' → DK e oe.dict h' → Q () { s with heap := h' }) : wpAny M A (leaving env (.ref e)) Q E s := by
  unfold leaving
  refine wpAny_bind (first_d hfr hl hf he hkb hen hd h1 h0 fun h4 ⟨x1, x2, x3, x4⟩ up dk => sf_d (s := { s with heap := h4 }) x1 x2 x3 x4 dk fun h5 ⟨y1, y2, ⟨_, _, y3⟩, y4⟩ up2 dk2 => ?_)
  exact h h5 ⟨y1, y2, y3, y4⟩ (up.trans up2) dk2
theorem leaves_d {Q : Unit → Shared → Prop} (hfr : A.frames = some (env :: outer)) (hf : env.frame = some L) (hfl : Heap.FlyingW base (env :: outer) e cls a0 s.heap) (dk : DK e d s.heap)
    (hQ : ∀ h', Heap.FlyingW base outer e cls a0 h' → s.heap.UpToSlots h' → DK e d h' → Q () { s with heap := h' }) : wpAny M A (leaving env (.ref e)) Q E s := by
  unfold leaving
  refine wpAny_bind (looks_d hfr hf hfl dk fun h4 ⟨x1, x2, x3, x4⟩ up dk4 => sf_d (s := { s with heap := h4 }) x1 x2 x3 x4 dk4 fun h5 ⟨y1, y2, ⟨_, _, y3⟩, y4⟩ up2 dk2 => ?_)
  exact hQ h5 ⟨y1, y2, y3, y4⟩ (up.trans up2) dk2
end
end L2
namespace L2
open PySem PySem.Spec PyProof.Rows SX
class GX where
  g : Addr → Option Addr → Hp → Prop
variable [GX]
structure Flies (P : Program) (w : World) (outer : List Env) (H : Hp) (s : Shared) (H' : Hp) (C x : Addr) (s' : Shared) : Prop where
  os : s'.os = s.os
  bare : AllBare s'.gens
  un : Un (frs outer) [] H H' s.heap s'.heap
  hok : HOk P w H' s'.heap
  dct : ∃ d, DK x d s'.heap ∧ GX.g C d H'
  fly : ∃ (B : Heap) (a0 : Value), Heap.FlyingW B outer x (.ref C) a0 s'.heap ∧ ∀ b o, s'.heap.get? b = some o → (H' b ≠ none ∨ ∃ o0, s.heap.get? b = some o0) → b ∉ frs outer → B.get? b = some o
def CX1 (P : Program) (w : World) : CXT := fun outer H s E e s' => ∃ (C x : Addr) (H' : Hp), e = .ref x ∧ Flies P w outer H s H' C x s' ∧ E (.ref C) (some x) H'
theorem hok_there {P : Program} {w : World} {H : Hp} {h : Heap} {a : Addr} {o : HO} (x : HOk P w H h) (e : H a = some o) : ∃ u, h.get? a = some u := by
  have aux : ∀ o : HO, ObjOk P w H h a o → ∃ u, h.get? a = some u := by
    intro o q
    cases o with
    | lst xs => obtain ⟨_, _, _, _, z⟩ := q; exact ⟨_, z⟩
    | tup xs => obtain ⟨_, _, _, ob, z, _⟩ := q; exact ⟨_, z⟩
    | dK kvs => obtain ⟨_, _, _, _, ob, _, _, z, _⟩ := q; exact ⟨_, z⟩
    | dT kvs => obtain ⟨_, _, _, _, ob, _, _, z, _⟩ := q; exact ⟨_, z⟩
    | set S n => obtain ⟨ob, _, _, _, z, _⟩ := q; exact ⟨_, z⟩
    | ins C dx fs => obtain ⟨_, _, _, z, _⟩ := q; exact ⟨_, z⟩
    | own b => exact q
    | xd fs => obtain ⟨mA, ⟨ob, _, _, z, _⟩, _⟩ := q; exact ⟨_, z⟩
    | rng lo hi => obtain ⟨_, _, _, z⟩ := q; exact ⟨_, z⟩
    | frz ob u => exact ⟨_, q.1⟩
    | tbl ps => exact ⟨_, q⟩
    | met f y => exact ⟨_, q⟩
    | ext φ => exact q.2.1
  exact aux o (x a o e)
section
variable {P : Program} {w : World} {l : List Env} {H H' : Hp} {s s2 : Shared} {B h' : Heap}
theorem fly_to (u : Un (frs l) [] H H' s.heap s2.heap) (hok : HOk P w H' s2.heap) (cov : ∀ b o, s2.heap.get? b = some o → (H' b ≠ none ∨ ∃ o0, s.heap.get? b = some o0) → b ∉ frs l → B.get? b = some o)
    (nfr : ∀ b ∈ frs l, H' b = none ∧ ∃ o, s2.heap.get? b = some o ∧ ∀ vs, o.data ≠ .fields vs) (st : B.StaysIn h') (up : s2.heap.UpToSlots h') : Un (frs l) [] H H' s.heap h' ∧ HOk P w H' h' := by
  have nx : ∀ b : Addr, b ∉ ([] : List Addr) := fun b z => by cases z
  have slots : ∀ b o, s2.heap.get? b = some o → b ∈ frs l → ∃ sl, h'.get? b = some { o with slots := sl } := fun b o e hb => by
    obtain ⟨_, o', e', n⟩ := nfr b hb
    rw [e] at e'
    cases e'
    exact up b o e n
  refine ⟨⟨fun b o e n hf hx => ?_, fun b o e n hf hx => ?_, fun b o e n hx => u.free b o e n hx, fun b o e hx => ?_, u.tups, u.frzs, u.tbls⟩, fun a o e => ?_⟩
  · exact st b o (cov b o (u.keep b o e n hf hx) (.inr ⟨o, e⟩) hf)
  · obtain ⟨sl, e1⟩ := u.slot b o e n hf hx
    obtain ⟨sl', e2⟩ := slots b _ e1 hf
    exact ⟨sl', e2⟩
  · obtain ⟨o', e1⟩ := u.there b o e hx
    by_cases hf : b ∈ frs l
    · obtain ⟨sl, e2⟩ := slots b _ e1 hf
      exact ⟨_, e2⟩
    · exact ⟨_, st b o' (cov b o' e1 (.inr ⟨o, e⟩) hf)⟩
  · have tr : ∀ c, H' c ≠ none → c ∉ frs l := fun c hc hf => hc (nfr c hf).1
    refine (hok a o e).stay (fun c v hc q => ?_) (fun _ q => q) fun _ _ q => q
    have hc' : H' c ≠ none := by
      rcases hc with z | z
      · rw [z, e]; simp
      · rw [z]; simp
    exact st c v (cov c v q (.inl hc') (tr c hc'))
end
section
variable {X : Cx} {pins : List (Addr × Obj)} {σ : St} {H1 H' : Hp} {s1 s2 : Shared} {C x : Addr} {B h' : Heap} {a0 : Value}
theorem stack_frame (I : Inv X pins σ H1 s1) (hst : X.stack = X.env :: X.outer) : X.env.frame = some X.env.locals := by
  rcases I.ok.stk with z | z
  · rw [hst] at z
    have := congrArg List.length z
    simp at this
  · exact z.2
theorem frs_stack (I : Inv X pins σ H1 s1) (hst : X.stack = X.env :: X.outer) : frs X.stack = X.env.locals :: frs X.outer := by
  rw [hst]
  unfold frs
  rw [List.filterMap_cons, stack_frame I hst]
theorem fly_mk (I : Inv X pins σ H1 s1) (hst : X.stack = X.env :: X.outer) (hex : X.ex = []) (os : s2.os = s1.os) (bare : AllBare s2.gens) (u : Un (frs X.stack) [] H1 H' s1.heap s2.heap) (hok : HOk X.prog X.w H' s2.heap)
    (cov : ∀ b o, s2.heap.get? b = some o → (H' b ≠ none ∨ ∃ o0, s1.heap.get? b = some o0) → b ∉ frs X.stack → B.get? b = some o) (nfr : ∀ b ∈ frs X.stack, H' b = none ∧ ∃ o, s2.heap.get? b = some o ∧ ∀ vs, o.data ≠ .fields vs)
    (up : s2.heap.UpToSlots h') (fl : Heap.FlyingW B X.outer x (.ref C) a0 h') (dct : ∃ d, DK x d h' ∧ GX.g C d H') : Flies X.prog X.w X.outer X.H₀ X.s₀ H' C x { s2 with heap := h' } := by
  obtain ⟨u2, hok2⟩ := fly_to u hok cov nfr fl.1 up
  have hfs := frs_stack I hst
  have base : Un (frs X.outer) [] X.H₀ H1 X.s₀.heap s1.heap := by have := I.base; rw [hex] at this; exact this
  have nx : ∀ b : Addr, b ∉ ([] : List Addr) := fun b z => by cases z
  have old : ∀ b o, X.s₀.heap.get? b = some o → b ≠ X.env.locals := fun b o e z => by
    have h1 := Heap.lt_size e
    have h2 := I.ok.above
    rw [← z] at h2
    exact absurd (Nat.lt_of_lt_of_le h1 h2) (Nat.lt_irrefl _)
  have out : ∀ b o, X.s₀.heap.get? b = some o → b ∉ frs X.outer → b ∉ frs X.stack := fun b o e n z => by
    rw [hfs] at z
    rcases List.mem_cons.mp z with q | q
    · exact old b o e q
    · exact n q
  refine ⟨os.trans I.os, bare, ⟨fun b o e n hf hx => ?_, fun b o e n hf hx => ?_, fun b o e n hx => ?_, fun b o e hx => ?_, fun b xs e => ?_, fun b o v e => ?_, fun b ps e => ?_⟩, hok2, dct, B, a0, fl, fun b o e hc hf => ?_⟩
  · exact u2.keep b o (base.keep b o e n hf hx) (base.free b o e n hx) (out b o e hf) hx
  · obtain ⟨sl, e1⟩ := base.slot b o e n hf hx
    obtain ⟨sl', e2⟩ := u2.slot b _ e1 (base.free b o e n hx) (by rw [hfs]; exact List.mem_cons_of_mem _ hf) hx
    exact ⟨sl', e2⟩
  · obtain ⟨o1, e1⟩ := base.there b o e hx
    exact u2.free b o1 e1 (base.free b o e n hx) hx
  · obtain ⟨o1, e1⟩ := base.there b o e hx
    exact u2.there b o1 e1 hx
  · exact u2.tups b xs (base.tups b xs e)
  · exact u2.frzs b o v (base.frzs b o v e)
  · obtain ⟨m1, e1⟩ := base.tbls b ps e
    obtain ⟨m2, e2⟩ := u2.tbls b _ e1
    exact ⟨m1 ++ m2, by rw [e2, Array.append_assoc]⟩
  · have fin : ∀ o2, s2.heap.get? b = some o2 → (H' b ≠ none ∨ ∃ o0, s1.heap.get? b = some o0) → b ∉ frs X.stack → B.get? b = some o := fun o2 e2 hc' hf' => by
      have q := cov b o2 e2 hc' hf'
      have q2 := fl.1 b o2 q
      have e' : h'.get? b = some o := e
      rw [e'] at q2
      cases q2
      exact q
    rcases hc with hc | ⟨o0, e0⟩
    · obtain ⟨ho, eh⟩ : ∃ ho, H' b = some ho := by
        cases z : H' b with
        | none => exact absurd z hc
        | some v => exact ⟨v, rfl⟩
      obtain ⟨o2, e2⟩ := hok_there hok eh
      exact fin o2 e2 (.inl hc) fun z => hc (nfr b z).1
    · obtain ⟨o1, e1⟩ := base.there b o0 e0 (nx b)
      obtain ⟨o2, e2⟩ := u.there b o1 e1 (nx b)
      exact fin o2 e2 (.inr ⟨o1, e1⟩) (out b o0 e0 hf)
theorem Flies.nfr {P : Program} {w : World} {l : List Env} {H : Hp} {s : Shared} (F : Flies P w l H s H' C x s2) (hn : ∀ b ∈ frs l, H b = none ∧ ∃ o, s.heap.get? b = some o) : ∀ b ∈ frs l, H' b = none ∧ ∃ o, s2.heap.get? b = some o ∧ ∀ vs, o.data ≠ .fields vs := fun b hb => by
  obtain ⟨B, a0, fl, _⟩ := F.fly
  obtain ⟨n, o, e⟩ := hn b hb
  exact ⟨F.un.free b o e n (by simp), (fl.2.2.1.mem hb).2⟩
theorem Inv.frn (I : Inv X pins σ H1 s1) : ∀ b ∈ frs X.stack, H1 b = none ∧ ∃ o, s1.heap.get? b = some o := fun b hb => by
  have e0 := I.env0
  exact ⟨e0.frf b hb, let ⟨o, e, _⟩ := (e0.funs.mem hb).2; ⟨o, e⟩⟩
theorem fly_up (I : Inv X pins σ H1 s1) (hst : X.stack = X.env :: X.outer) (hex : X.ex = []) (F : Flies X.prog X.w X.stack H1 s1 H' C x s2) {E : Value → Shared → Prop} :
    wpAny (model X.prog X.w) X.A (leaving X.env (.ref x)) (fun _ s'' => Flies X.prog X.w X.outer X.H₀ X.s₀ H' C x s'') E s2 := by
  have nf := F.nfr I.frn
  obtain ⟨B, a0, fl, cov⟩ := F.fly
  rw [hst] at fl
  obtain ⟨d, dk, gd⟩ := F.dct
  refine leaves_d (by rw [I.ok.frames, hst]) (stack_frame I hst) fl dk fun h' fl' up dk' => ?_
  exact fly_mk I hst hex F.os F.bare F.un F.hok cov nf up fl' ⟨d, dk', gd⟩
end
section
variable {P : Program} {w : World} {K : PySem.W.Frag} {mg : Str → Option Value} {base : Heap} {N : List Str} {qual : Str} {scope : Scope} {f : Addr} {cd : Value} {A : Around} {outer : List Env} {s : Shared} {H : Hp} {E : XK}
theorem pass1 : Passes (CX1 P w) (cxOf (CX1 P w) P w K mg base N qual scope f cd A outer s H E) E := by
  intro pins σ H1 s1 e s2 I h
  obtain ⟨C, x, H', rfl, F, hE⟩ := h
  exact wpAny_mono (fly_up I rfl rfl F) (fun _ s'' F' => ⟨C, x, H', rfl, F', hE⟩) fun _ _ z => z
theorem own1 : PassesOwn (model P w) (cxOf (CX1 P w) P w K mg base N qual scope f cd A outer s H E).A (cxOf (CX1 P w) P w K mg base N qual scope f cd A outer s H E).env (cxOf (CX1 P w) P w K mg base N qual scope f cd A outer s H E).xe := PassesOwn.leaving
end
end L2
namespace L2
variable [L2.GX]
open PySem PySem.Spec PyProof.Rows SX
theorem own_obj {K : PySem.W.Frag} {h : Heap} {C : Addr} {bmB : List Value} {newId : String} (Z : K.In h) (y : PySem.W.excIn K C bmB newId = true) :
    ∃ bm N nm q bs hdct sn sub ab col dd k0 k1 k2 k3 k5 mN, h.get? C = some (excClassObj nm q C N bs bm hdct sn sub ab col dd k0 k1 k2 k3 k5 newId) ∧ h.Ns N mN ∧ mN "__init__" = none ∧ OwnTail h bmB bm := by
  unfold PySem.W.excIn at y
  split at y
  · rename_i v1 v2 v3 look
    split at y
    · rename_i D tl a0 a1 a2 a3 nid a5 em es
      simp only [Bool.and_eq_true, beq_iff_eq, Bool.not_eq_true'] at y
      obtain ⟨⟨⟨⟨⟨y1, y2⟩, y3⟩, y4⟩, y5⟩, y6⟩ := y
      subst y1
      subst y2
      obtain ⟨u1, u2, u3, u4, u5, u6, u7, u8, u9, u10, u11⟩ := v2
      dsimp only at em y3 y5 y6
      subst em
      subst y3
      have e3 : v3 = #[a0, a1, a2, a3, some (.builtin nid), a5] := by
        obtain ⟨li⟩ := v3
        exact congrArg Array.mk es
      rw [e3] at look
      exact ⟨tl, u4, u1, u5, u2, u6, u7, u8, u9, u10, v1, a0, a1, a2, a3, a5, _, Z _ _ look, .of_isNs (PySem.W.isNs_of_in Z y5), PySem.W.nsMap_none_of_in Z y5 y6, PySem.W.tail_of_in Z y4⟩
    · cases y
  · cases y
def tRaise (C : Addr) (E : XK) (ta : TA) : TS := fun _ σ H => ta σ H fun vs H1 => vs.length ≤ sizeLine ∧ ∀ x : Addr, E (.ref C) (some x) H1
section
variable {P : Program} {w : World} {K : PySem.W.Frag} {mg : Str → Option Value} {base : Heap} {N : List Str} {qual : Str} {scope : Scope} {f : Addr} {cd : Value} {A : Around} {outer : List Env} {s : Shared} {H : Hp} {E : XK}
theorem ps_raise {x : Str} {np cpos pos : Pos} {e0 : Expr} {es : List Expr} {ta : TA} {C : Addr} {bmB : List Value} {B newId initId : String} (hg : Gl (cxOf (CX1 P w) P w K mg base N qual scope f cd A outer s H E) x) (hm : mg x = some (.ref C)) (O : PySem.W.excIn K C bmB newId = true)
    (FB : ExcBaseFacts B newId initId bmB) (g0 : ∀ H', GX.g C none H') (ha : PA (cxOf (CX1 P w) P w K mg base N qual scope f cd A outer s H E) (e0 :: es) ta) (hdb : (x == ("__debug__" : Str)) = false := by decide)
    (he : starEach (e0 :: es) (cxOf (CX1 P w) P w K mg base N qual scope f cd A outer s H E).env = (false, eval e0 (cxOf (CX1 P w) P w K mg base N qual scope f cd A outer s H E).env) :: starEach es (cxOf (CX1 P w) P w K mg base N qual scope f cd A outer s H E).env := by rfl)
    (hpl : (backTo cpos (starEach es (cxOf (CX1 P w) P w K mg base N qual scope f cd A outer s H E).env)).any (·.1) = false := by rfl) :
    PS (cxOf (CX1 P w) P w K mg base N qual scope f cd A outer s H E) (.Raise (some (.Call (.Name x np) (e0 :: es) [] cpos)) none pos) (tRaise C E ta) := by
  intro pins s1 σ H1 D I h
  obtain ⟨bm, N', nm, q, bs, hdct, sn, sub, ab, col, dd, k0, k1, k2, k3, k5, mN, hC, hN, hni, T⟩ := own_obj I.mod.kin O
  have hA := ha cpos pins s1 σ H1 _ I h
  refine wpAny_Raise_call_subT (prog := P) (w := w) (C := C) (nm := nm) (q := q) (N := N') (bs := bs) (bm := bm) (hdct := hdct) (sn := sn) (sub := sub) (ab := ab) (col := col) (dd := dd) (k0 := k0) (k1 := k1) (k2 := k2) (k3 := k3) (k5 := k5)
    FB (mN := mN) (T.hasType FB.hasBase) (I.ok.hd rfl) (by rw [he]; exact (Bool.false_or _).trans hpl) hni (ld_glob I hg hm ⟨rfl, ?_⟩ hdb)
  rw [he] at hA ⊢
  refine Calls.evalArgs_plain (wpAny_mono hA (fun us s2 q2 => ?_) fun _ _ z => z)
  obtain ⟨vs, H2, I2, r2, hl, hE⟩ := q2
  refine ⟨rfl, by show us.length ≤ sizeLine; rw [← r2.length]; exact hl, I2.bk _ _ hC, hN.keeps I2.bk, T.keeps I2.bk, fun h' e made => ?_⟩
  have hst : (cxOf (CX1 P w) P w K mg base N qual scope f cd A outer s H E).stack = (cxOf (CX1 P w) P w K mg base N qual scope f cd A outer s H E).env :: (cxOf (CX1 P w) P w K mg base N qual scope f cd A outer s H E).outer := rfl
  have fu := I2.env0.funs
  obtain ⟨t, het, _, _⟩ := made.there
  have hen : (PySem.W.hideAll s2.heap (frs (cxOf (CX1 P w) P w K mg base N qual scope f cd A outer s H E).stack)).get? e = none := by
    cases q : (PySem.W.hideAll s2.heap (frs (cxOf (CX1 P w) P w K mg base N qual scope f cd A outer s H E).stack)).get? e with
    | none => rfl
    | some o => have z := PySem.W.of_hideAll _ q; rw [made.new] at z; cases z
  refine wpAny_mono (leave_first_d (base := PySem.W.hideAll s2.heap (frs (cxOf (CX1 P w) P w K mg base N qual scope f cd A outer s H E).stack)) (a0 := .ref t) I2.ok.frames
    ((PySem.W.funFrames_hide fu fun env he b hb => List.mem_filterMap.mpr ⟨env, he, hb⟩).of_keeps fun b o hb _ => ⟨o, made.keeps b o hb, rfl⟩) (stack_frame I2 hst) het (fun b o z => made.keeps b o (PySem.W.of_hideAll _ z)) hen rfl rfl rfl (Q := fun _ s'' => CX1 P w outer H s E (.ref e) s'') fun h'' fl up dk => ?_) (fun _ _ z => z) fun _ _ z => z
  refine ⟨C, e, H2, rfl, ?_, hE e⟩
  refine fly_mk (s2 := s2) I2 hst rfl rfl I2.bare Un.refl I2.hok (fun b o z _ nf => PySem.W.hideAll_get _ z nf) (fun b hb => ?_) ((Heap.UpToSlots.of_keeps made.keeps).trans up) fl ⟨_, dk, g0 _⟩
  exact ⟨(I2.frn b hb).1, (fu.mem hb).2⟩
end
abbrev tryCx (X : Cx) (pn' : List (Addr × Obj)) (E1 : XK) : Cx :=
  { X with pn := pn', xe := fun e s2 => ∃ (pins : List (Addr × Obj)) (σ : St) (H1 : Hp) (s1 : Shared) (C x : Addr) (H' : Hp), e = .ref x ∧ Inv { X with pn := pn' } pins σ H1 s1 ∧ Flies X.prog X.w X.stack H1 s1 H' C x s2 ∧ E1 (.ref C) (some x) H' }
abbrev hand (X : Cx) (x : Addr) : Cx := { X with A := X.A.mark (some (.ref x)), calm := false, xe := fun _ _ => False }
section
variable {X : Cx} {pins pins' pn' : List (Addr × Obj)} {σ : St} {H : Hp} {s : Shared} {E1 : XK} {x : Addr}
theorem Inv.toTry (I : Inv X pins σ H s) : Inv (tryCx X (X.pn ++ pins) E1) [] σ H s :=
  ⟨⟨I.ok.mod, I.ok.kind, I.ok.glob, I.ok.blt, I.ok.above, I.ok.inj, I.ok.has, I.ok.cab, I.ok.hd, I.ok.frames, I.ok.stk, I.ok.exf, I.ok.bs, I.ok.bsz, I.ok.noex, I.ok.exfs, I.ok.funs, I.ok.frf⟩, I.os, I.bare, I.base, I.loc, I.cell, I.free, I.freeC, fun p hp => I.pin p (by simpa using hp), I.hok, I.len⟩
theorem Inv.ofTry (I : Inv (tryCx X (X.pn ++ pins) E1) pins' σ H s) : Inv X pins σ H s :=
  ⟨⟨I.ok.mod, I.ok.kind, I.ok.glob, I.ok.blt, I.ok.above, I.ok.inj, I.ok.has, I.ok.cab, I.ok.hd, I.ok.frames, I.ok.stk, I.ok.exf, I.ok.bs, I.ok.bsz, I.ok.noex, I.ok.exfs, I.ok.funs, I.ok.frf⟩, I.os, I.bare, I.base, I.loc, I.cell, I.free, I.freeC, fun p hp => I.pin p (List.mem_append_left _ hp), I.hok, I.len⟩
theorem Inv.ofPn (I : Inv { X with pn := X.pn ++ pins } pins' σ H s) : Inv X pins σ H s :=
  ⟨⟨I.ok.mod, I.ok.kind, I.ok.glob, I.ok.blt, I.ok.above, I.ok.inj, I.ok.has, I.ok.cab, I.ok.hd, I.ok.frames, I.ok.stk, I.ok.exf, I.ok.bs, I.ok.bsz, I.ok.noex, I.ok.exfs, I.ok.funs, I.ok.frf⟩, I.os, I.bare, I.base, I.loc, I.cell, I.free, I.freeC, fun p hp => I.pin p (List.mem_append_left _ hp), I.hok, I.len⟩
theorem Inv.toPn (I : Inv (tryCx X pn' E1) pins' σ H s) : Inv { X with pn := pn' } pins' σ H s :=
  ⟨⟨I.ok.mod, I.ok.kind, I.ok.glob, I.ok.blt, I.ok.above, I.ok.inj, I.ok.has, I.ok.cab, I.ok.hd, I.ok.frames, I.ok.stk, I.ok.exf, I.ok.bs, I.ok.bsz, I.ok.noex, I.ok.exfs, I.ok.funs, I.ok.frf⟩, I.os, I.bare, I.base, I.loc, I.cell, I.free, I.freeC, I.pin, I.hok, I.len⟩
theorem Inv.toHand (I : Inv X pins σ H s) : Inv (hand X x) pins σ H s :=
  ⟨⟨I.ok.mod, I.ok.kind, I.ok.glob, I.ok.blt, I.ok.above, I.ok.inj, I.ok.has, I.ok.cab, (fun z => by cases z), I.ok.frames, I.ok.stk, I.ok.exf, I.ok.bs, I.ok.bsz, I.ok.noex, I.ok.exfs, I.ok.funs, I.ok.frf⟩, I.os, I.bare, I.base, I.loc, I.cell, I.free, I.freeC, I.pin, I.hok, I.len⟩
theorem passT : Passes (CX1 X.prog X.w) (tryCx X pn' E1) E1 := by
  intro pins σ H1 s1 e s2 I h
  obtain ⟨C, x, H', rfl, F, hE⟩ := h
  exact ⟨pins, σ, H1, s1, C, x, H', rfl, I.toPn, F, hE⟩
end
end L2
namespace WL
open PySem L2
abbrev Rg := Addr → Prop
structure Ext (G R : Rg) (H : Hp) (R' : Rg) (H' : Hp) : Prop where
  keep : ∀ b o, ¬ G b → H b = some o → H' b = some o
  new : ∀ a, R' a → R a ∨ H a = none
theorem Ext.wide {G R R' : Rg} {H H' : Hp} (e : Ext G R H R' H') (s : ∀ a, G a → R a) : Ext R R H R' H' := ⟨fun b o n h => e.keep b o (fun g => n (s b g)) h, e.new⟩
theorem Ext.not {G R R' : Rg} {H H' : Hp} (e : Ext G R H R' H') {a : Addr} {o : HO} (n : ¬R a) (h : H a = some o) : ¬R' a := fun z => by
  rcases e.new a z with q | q
  · exact n q
  · rw [h] at q; cases q
class Rep (α : Type) where
  rp : Rg → Hp → α → V → Prop
  st : ∀ {R : Rg} {H : Hp} {R' : Rg} {H' : Hp} {x : α} {v : V}, rp R H x v → Ext R R H R' H' → rp R' H' x v
open Rep (rp)
instance : Rep Int := ⟨fun _ _ i v => v = .int i, fun h _ => h⟩
instance : Rep Bool := ⟨fun _ _ i v => v = .bl i, fun h _ => h⟩
instance : Rep Unit := ⟨fun _ _ _ v => v = .non, fun h _ => h⟩
instance : Rep Str := ⟨fun _ _ i v => v = .str i, fun h _ => h⟩
instance {α : Type} [Rep α] : Rep (Option α) := ⟨fun R H x v => match x with | none => v = .non | some y => v ≠ .non ∧ rp R H y v, fun {R H R' H' x v} h e => by
  cases x with
  | none => exact h
  | some y => exact ⟨h.1, Rep.st h.2 e⟩⟩
theorem paired_st {α : Type} [Rep α] {R R' : Rg} {H H' : Hp} (e : Ext R R H R' H') : ∀ {xs : List α} {vs : List V}, Paired (rp R H) xs vs → Paired (rp R' H') xs vs
  | _, _, .nil => .nil
  | _, _, .cons h t => .cons (Rep.st h e) (paired_st e t)
instance {α : Type} [Rep α] : Rep (List α) := ⟨fun R H xs v => ∃ a vs, v = .ref a ∧ ¬R a ∧ H a = some (.lst vs) ∧ Paired (rp R H) xs vs, fun {R H R' H' x v} h e => by
  obtain ⟨a, vs, h1, h2, h3, h4⟩ := h
  exact ⟨a, vs, h1, e.not h2 h3, e.keep a _ h2 h3, paired_st e h4⟩⟩
instance {α β : Type} [Rep α] [Rep β] : Rep (α × β) := ⟨fun R H x v => ∃ a u w, v = .ref a ∧ ¬R a ∧ H a = some (.tup [u, w]) ∧ rp R H x.1 u ∧ rp R H x.2 w, fun {R H R' H' x v} h e => by
  obtain ⟨a, u, w, h1, h2, h3, h4, h5⟩ := h
  exact ⟨a, u, w, h1, e.not h2 h3, e.keep a _ h2 h3, Rep.st h4 e, Rep.st h5 e⟩⟩
class Ow (τ : Type) where
  sl : Rg → Rg → Hp → τ → Option V → Prop
  st : ∀ {F G R : Rg} {H : Hp} {R' : Rg} {H' : Hp} {x : τ} {v : Option V}, sl F R H x v → Ext G R H R' H' → (∀ a, G a → R a) → (∀ a, F a → ¬G a) → sl F R' H' x v
  fq : ∀ {F F' R : Rg} {H : Hp} {x : τ} {v : Option V}, sl F R H x v → (∀ a, F a ↔ F' a) → sl F' R H x v
open Ow (sl)
structure Un where
instance : Ow Un := ⟨fun F _ _ _ _ => ∀ a, ¬F a, fun h _ _ _ => h, fun h e a z => h a ((e a).mpr z)⟩
instance repOw {α : Type} [Rep α] : Ow α := ⟨fun F R H x v => (∀ a, ¬F a) ∧ ∃ u, v = some u ∧ rp R H x u, fun h e s _ => ⟨h.1, let ⟨u, h1, h2⟩ := h.2; ⟨u, h1, Rep.st h2 (e.wide s)⟩⟩, fun h e => ⟨fun a z => h.1 a ((e a).mpr z), h.2⟩⟩
structure OL (α : Type) where
  l : List α
instance {α : Type} [Rep α] : Ow (OL α) := ⟨fun F R H x v => ∃ a vs, v = some (.ref a) ∧ (∀ b, F b ↔ b = a) ∧ H a = some (.lst vs) ∧ Paired (rp R H) x.l vs,
  fun h e s n => by
    obtain ⟨a, vs, h1, h2, h3, h4⟩ := h
    exact ⟨a, vs, h1, h2, e.keep a _ (n a ((h2 a).mpr rfl)) h3, paired_st (e.wide s) h4⟩,
  fun h e => by
    obtain ⟨a, vs, h1, h2, h3, h4⟩ := h
    exact ⟨a, vs, h1, fun b => (e b).symm.trans (h2 b), h3, h4⟩⟩
class Sls (D : Type) where
  rel : Rg → Rg → Hp → D → St → Prop
  st : ∀ {F G R : Rg} {H : Hp} {R' : Rg} {H' : Hp} {d : D} {σ : St}, rel F R H d σ → Ext G R H R' H' → (∀ a, G a → R a) → (∀ a, F a → ¬G a) → rel F R' H' d σ
  fq : ∀ {F F' R : Rg} {H : Hp} {d : D} {σ : St}, rel F R H d σ → (∀ a, F a ↔ F' a) → rel F' R H d σ
open Sls (rel)
instance : Sls Unit := ⟨fun F _ _ _ σ => σ = [] ∧ ∀ a, ¬F a, fun h _ _ _ => h, fun h e => ⟨h.1, fun a z => h.2 a ((e a).mpr z)⟩⟩
structure Two (F F1 F2 : Rg) : Prop where
  all : ∀ a, F a ↔ F1 a ∨ F2 a
  dis : ∀ a, F1 a → F2 a → False
instance {τ D : Type} [Ow τ] [Sls D] : Sls (τ × D) := ⟨fun F R H d σ => ∃ v σ' F1 F2, σ = v :: σ' ∧ Two F F1 F2 ∧ sl F1 R H d.1 v ∧ rel F2 R H d.2 σ',
  fun h e s n => by
    obtain ⟨v, σ', F1, F2, h1, h2, h3, h4⟩ := h
    exact ⟨v, σ', F1, F2, h1, h2, Ow.st h3 e s (fun a z => n a ((h2.all a).mpr (.inl z))), Sls.st h4 e s (fun a z => n a ((h2.all a).mpr (.inr z)))⟩,
  fun h e => by
    obtain ⟨v, σ', F1, F2, h1, h2, h3, h4⟩ := h
    exact ⟨v, σ', F1, F2, h1, ⟨fun a => (e a).symm.trans (h2.all a), h2.dis⟩, h3, h4⟩⟩
class At (i : Nat) (B : Type) [Sls B] (τ : outParam Type) [Ow τ] (B' : outParam Type) [Sls B'] where
  get : B → τ
  hole : B → B'
  take : ∀ {F R : Rg} {H : Hp} {b : B} {σ : St}, rel F R H b σ → ∃ v F1 F2, σ[i]? = some v ∧ Two F F1 F2 ∧ sl F1 R H (get b) v ∧ rel F2 R H (hole b) σ
class Pt (i : Nat) (B' : Type) [Sls B'] (τ : Type) [Ow τ] (B : outParam Type) [Sls B] where
  put : B' → τ → B
  back : ∀ {F F1 F2 R : Rg} {H : Hp} {b : B'} {x : τ} {v : Option V} {σ : St}, rel F2 R H b σ → Two F F1 F2 → sl F1 R H x v → rel F R H (put b x) (σ.set i v)
theorem set_same {α : Type} : ∀ {l : List α} {i : Nat} {v : α}, l[i]? = some v → l.set i v = l
  | [], _, _, h => by simp at h
  | _ :: _, 0, _, h => by simp at h; subst h; rfl
  | a :: r, i + 1, v, h => by
    show a :: r.set i v = a :: r
    rw [set_same (by simpa using h)]
theorem Pt.same {i : Nat} {B' τ B : Type} [Sls B'] [Ow τ] [Sls B] [A : Pt i B' τ B] {F F1 F2 R : Rg} {H : Hp} {b : B'} {x : τ} {v : Option V} {σ : St} (h : rel F2 R H b σ) (e : σ[i]? = some v) (t : Two F F1 F2) (s : sl F1 R H x v) : rel F R H (A.put b x) σ := by
  have := A.back h t s
  rw [set_same e] at this
  exact this
instance at0 {τ D : Type} [Ow τ] [Sls D] : At 0 (τ × D) τ (Un × D) where
  get b := b.1
  hole b := (⟨⟩, b.2)
  take := fun h => by
    obtain ⟨v, σ', F1, F2, h1, h2, h3, h4⟩ := h
    exact ⟨v, F1, F2, by rw [h1]; rfl, h2, h3, v, σ', fun _ => False, F2, h1, ⟨fun a => ⟨.inr, fun z => z.elim (fun q => q.elim) id⟩, fun _ z _ => z⟩, fun _ z => z, h4⟩
instance pt0 {τ D : Type} [Ow τ] [Sls D] : Pt 0 (Un × D) τ (τ × D) where
  put b x := (x, b.2)
  back := fun {F F1 F2 R H b x v σ} h t s => by
    obtain ⟨v', σ', G1, G2, h1, h2, h3, h4⟩ := h
    have e2 : ∀ a, G2 a ↔ F2 a := fun a => ⟨fun z => (h2.all a).mpr (.inr z), fun z => ((h2.all a).mp z).elim (fun q => absurd q (h3 a)) id⟩
    exact ⟨_, σ', F1, F2, by rw [h1]; rfl, t, s, Sls.fq h4 e2⟩
instance atS {i : Nat} {ρ τ D D' : Type} [Ow ρ] [Ow τ] [Sls D] [Sls D'] [A : At i D τ D'] : At (i + 1) (ρ × D) τ (ρ × D') where
  get b := A.get b.2
  hole b := (b.1, A.hole b.2)
  take := fun h => by
    obtain ⟨v, σ', F1, F2, h1, h2, h3, h4⟩ := h
    obtain ⟨u, G1, G2, k1, k2, k3, k4⟩ := A.take h4
    refine ⟨u, G1, fun a => F1 a ∨ G2 a, by rw [h1]; simpa using k1, ⟨fun a => ?_, fun a z q => ?_⟩, k3, v, σ', F1, G2, h1, ⟨fun a => Iff.rfl, fun a z q => h2.dis a z ((k2.all a).mpr (.inr q))⟩, h3, k4⟩
    · rw [h2.all, k2.all]
      exact ⟨fun z => z.elim (fun q => .inr (.inl q)) fun z => z.elim .inl fun q => .inr (.inr q), fun z => z.elim (fun q => .inr (.inl q)) fun z => z.elim .inl fun q => .inr (.inr q)⟩
    · rcases q with q | q
      · exact h2.dis a q ((k2.all a).mpr (.inl z))
      · exact k2.dis a z q
instance ptS {i : Nat} {ρ τ D D' : Type} [Ow ρ] [Ow τ] [Sls D] [Sls D'] [A : Pt i D' τ D] : Pt (i + 1) (ρ × D') τ (ρ × D) where
  put b x := (b.1, A.put b.2 x)
  back := fun {F F1 F2 R H b x v σ} h t s => by
    obtain ⟨v', σ', G1, G2, h1, h2, h3, h4⟩ := h
    have t' : Two (fun a => F1 a ∨ G2 a) F1 G2 := ⟨fun a => Iff.rfl, fun a z q => t.dis a z ((h2.all a).mpr (.inr q))⟩
    refine ⟨v', σ'.set i v, G1, fun a => F1 a ∨ G2 a, by rw [h1]; rfl, ⟨fun a => ?_, fun a z q => ?_⟩, h3, A.back h4 t' s⟩
    · rw [t.all, h2.all]
      exact ⟨fun z => z.elim (fun q => .inr (.inl q)) fun z => z.elim .inl fun q => .inr (.inr q), fun z => z.elim (fun q => .inr (.inl q)) fun z => z.elim .inl fun q => .inr (.inr q)⟩
    · rcases q with q | q
      · exact t.dis a q ((h2.all a).mpr (.inl z))
      · exact h2.dis a z q
class Fg (D : Type) [Sls D] (D' : Type) [Sls D'] where
  fg : D → D'
  le : ∀ {F R : Rg} {H : Hp} {d : D} {σ : St}, rel F R H d σ → ∃ F', (∀ a, F' a → F a) ∧ rel F' R H (fg d) σ
instance fgId {D : Type} [Sls D] : Fg D D := ⟨id, fun h => ⟨_, fun _ z => z, h⟩⟩
theorem two_le {F F1 F2 G1 G2 : Rg} (t : Two F F1 F2) (h1 : ∀ a, G1 a → F1 a) (h2 : ∀ a, G2 a → F2 a) : Two (fun a => G1 a ∨ G2 a) G1 G2 := ⟨fun _ => Iff.rfl, fun a x y => t.dis a (h1 a x) (h2 a y)⟩
instance (priority := low) fgUn {τ D D' : Type} [Ow τ] [Sls D] [Sls D'] [A : Fg D D'] : Fg (τ × D) (Un × D') := ⟨fun d => (⟨⟩, A.fg d.2), fun h => by
  obtain ⟨v, σ', F1, F2, h1, h2, h3, h4⟩ := h
  obtain ⟨F', k1, k2⟩ := A.le h4
  exact ⟨_, fun a z => (h2.all a).mpr (.inr (k1 a (z.elim (fun q => q.elim) id))), v, σ', fun _ => False, F', h1, ⟨fun a => Iff.rfl, fun _ z _ => z⟩, fun _ z => z, k2⟩⟩
instance fgCons {τ D D' : Type} [Ow τ] [Sls D] [Sls D'] [A : Fg D D'] : Fg (τ × D) (τ × D') := ⟨fun d => (d.1, A.fg d.2), fun h => by
  obtain ⟨v, σ', F1, F2, h1, h2, h3, h4⟩ := h
  obtain ⟨F', k1, k2⟩ := A.le h4
  exact ⟨_, fun a z => (h2.all a).mpr (z.elim .inl fun q => .inr (k1 a q)), v, σ', F1, F', h1, two_le h2 (fun _ z => z) k1, h3, k2⟩⟩
class Pj (D : Type) [Sls D] (P : Type) [Sls P] (n : outParam Nat) where
  pj : D → P
  le : ∀ {F R : Rg} {H : Hp} {d : D} {σ : St}, rel F R H d σ → ∃ F', (∀ a, F' a → F a) ∧ rel F' R H (pj d) (σ.take n)
instance pjNil {D : Type} [Sls D] : Pj D Unit 0 := ⟨fun _ => (), fun h => ⟨fun _ => False, fun _ z => z.elim, rfl, fun _ z => z⟩⟩
instance (priority := low) pjUn {τ D P : Type} {n : Nat} [Ow τ] [Sls D] [Sls P] [A : Pj D P n] : Pj (τ × D) (Un × P) (n + 1) := ⟨fun d => (⟨⟩, A.pj d.2), fun h => by
  obtain ⟨v, σ', F1, F2, h1, h2, h3, h4⟩ := h
  obtain ⟨F', k1, k2⟩ := A.le h4
  exact ⟨_, fun a z => (h2.all a).mpr (.inr (k1 a (z.elim (fun q => q.elim) id))), v, σ'.take n, fun _ => False, F', by rw [h1]; rfl, ⟨fun a => Iff.rfl, fun _ z _ => z⟩, fun _ z => z, k2⟩⟩
instance pjCons {τ D P : Type} {n : Nat} [Ow τ] [Sls D] [Sls P] [A : Pj D P n] : Pj (τ × D) (τ × P) (n + 1) := ⟨fun d => (d.1, A.pj d.2), fun h => by
  obtain ⟨v, σ', F1, F2, h1, h2, h3, h4⟩ := h
  obtain ⟨F', k1, k2⟩ := A.le h4
  exact ⟨_, fun a z => (h2.all a).mpr (z.elim .inl fun q => .inr (k1 a q)), v, σ'.take n, F1, F', by rw [h1]; rfl, two_le h2 (fun _ z => z) k1, h3, k2⟩⟩
class Sel (is : List Nat) (D : Type) [Sls D] (S : outParam Type) [Sls S] (D0 : outParam Type) [Sls D0] where
  sel : D → S
  rest : D → D0
  mrg : D0 → S → D
  cut : ∀ {F R : Rg} {H : Hp} {d : D} {σ : St}, rel F R H d σ → ∃ F1 F2, Two F F1 F2 ∧ rel F1 R H (sel d) (is.map fun i => σ[i]?.join) ∧ rel F2 R H (rest d) σ ∧ ∀ i ∈ is, i < σ.length
  join : ∀ {F F1 F2 R : Rg} {H : Hp} {d : D0} {s : S} {σ : St}, Two F F1 F2 → rel F1 R H s (is.map fun i => σ[i]?.join) → rel F2 R H d σ → (∀ i ∈ is, i < σ.length) → rel F R H (mrg d s) σ
instance selNil {D : Type} [Sls D] : Sel [] D Unit D where
  sel _ := ()
  rest d := d
  mrg d _ := d
  cut := fun {F R H d σ} h => ⟨fun _ => False, F, ⟨fun a => ⟨.inr, fun z => z.elim (fun q => q.elim) id⟩, fun _ z _ => z⟩, ⟨rfl, fun _ z => z⟩, h, fun _ z => by cases z⟩
  join := fun {F F1 F2 R H d s σ} t h1 h2 _ => Sls.fq h2 fun a => ⟨fun z => (t.all a).mpr (.inr z), fun z => ((t.all a).mp z).elim (fun q => absurd q (h1.2 a)) id⟩
instance selCons {i : Nat} {is : List Nat} {D τ D1 S D0 : Type} [Sls D] [Ow τ] [Sls D1] [Sls S] [Sls D0] [A : At i D τ D1] [P : Pt i D1 τ D] [B : Sel is D1 S D0] : Sel (i :: is) D (τ × S) D0 where
  sel d := (A.get d, B.sel (A.hole d))
  rest d := B.rest (A.hole d)
  mrg d s := P.put (B.mrg d s.2) s.1
  cut := fun {F R H d σ} h => by
    obtain ⟨v, F1, F2, h1, h2, h3, h4⟩ := A.take h
    obtain ⟨G1, G2, k1, k2, k3, k4⟩ := B.cut h4
    have hv : σ[i]?.join = v := by rw [h1]; rfl
    refine ⟨fun a => F1 a ∨ G1 a, G2, ⟨fun a => ?_, fun a z q => ?_⟩, ⟨v, _, F1, G1, by rw [List.map_cons, hv], ⟨fun _ => Iff.rfl, fun a z q => h2.dis a z ((k1.all a).mpr (.inl q))⟩, h3, k2⟩, k3, fun j hj => ?_⟩
    · rw [h2.all, k1.all]
      exact ⟨fun z => z.elim (fun q => .inl (.inl q)) fun z => z.elim (fun q => .inl (.inr q)) .inr, fun z => z.elim (fun z => z.elim .inl fun q => .inr (.inl q)) fun q => .inr (.inr q)⟩
    · rcases z with z | z
      · exact h2.dis a z ((k1.all a).mpr (.inr q))
      · exact k1.dis a z q
    · rcases List.mem_cons.mp hj with e | e
      · rw [e]; exact (List.getElem?_eq_some_iff.mp h1).1
      · exact k4 j e
  join := fun {F F1 F2 R H d s σ} t h1 h2 hl => by
    obtain ⟨v, σ', G1, G2, k1, k2, k3, k4⟩ := h1
    rw [List.map_cons] at k1
    injection k1 with e1 e2
    subst e2
    have hi : i < σ.length := hl i List.mem_cons_self
    have ev : σ[i]? = some v := by
      rw [List.getElem?_eq_getElem hi] at e1 ⊢
      exact congrArg some e1
    have t2 : Two (fun a => G2 a ∨ F2 a) G2 F2 := ⟨fun _ => Iff.rfl, fun a z q => t.dis a ((k2.all a).mpr (.inr z)) q⟩
    refine Pt.same (B.join t2 k4 h2 fun j hj => hl j (List.mem_cons_of_mem _ hj)) ev ⟨fun a => ?_, fun a z q => ?_⟩ k3
    · rw [t.all, k2.all]
      exact ⟨fun z => z.elim (fun z => z.elim .inl fun q => .inr (.inl q)) fun q => .inr (.inr q), fun z => z.elim (fun q => .inl (.inl q)) fun z => z.elim (fun q => .inl (.inr q)) .inr⟩
    · rcases q with q | q
      · exact k2.dis a z q
      · exact t.dis a ((k2.all a).mpr (.inl z)) q
structure Stt (T : Addr) {D : Type} [Sls D] (F R : Rg) (H : Hp) (d : D) (σ : St) : Prop where
  rel : rel F R H d σ
  sub : ∀ a, F a → R a
  liv : ∀ a, R a → H a ≠ none
  tab : TabAt H T
  tabR : R T
  tabF : ¬F T
theorem tab_some {H : Hp} {T : Addr} (t : TabAt H T) : H T ≠ none := by
  obtain ⟨ps, e, _⟩ := t
  rw [e]
  simp
structure Ch (T : Addr) (F R : Rg) (H : Hp) (F' R' : Rg) (H' : Hp) : Prop where
  keep : ∀ b o, ¬F b → b ≠ T → H b = some o → H' b = some o
  newR : ∀ a, R' a → R a ∨ H a = none
  newF : ∀ a, F' a → F a ∨ H a = none
  left : ∀ a, R a → ¬F a → R' a
theorem Ch.refl (T : Addr) (F R : Rg) (H : Hp) : Ch T F R H F R H := ⟨fun _ _ _ _ h => h, fun _ h => .inl h, fun _ h => .inl h, fun _ h _ => h⟩
theorem Ch.trans {T : Addr} {D : Type} [Sls D] {d : D} {σ : St} {F R F1 R1 F2 R2 : Rg} {H H1 H2 : Hp} (s : Stt T F R H d σ) (t1 : TabAt H1 T) (a : Ch T F R H F1 R1 H1) (b : Ch T F1 R1 H1 F2 R2 H2) : Ch T F R H F2 R2 H2 := by
  have nF1 : ∀ c, ¬F c → H c ≠ none → ¬F1 c := fun c n h z => by
    rcases a.newF c z with q | q
    · exact n q
    · exact h q
  have back : ∀ c, H1 c = none → ¬ (F c) → H c = none := fun c h n => by
    cases e : H c with
    | none => rfl
    | some o =>
      have nt : c ≠ T := fun z => by rw [z] at h; exact tab_some t1 h
      rw [a.keep c o n nt e] at h; cases h
  refine ⟨fun c o n t h => b.keep c o (nF1 c n (by rw [h]; simp)) t (a.keep c o n t h), fun c h => ?_, fun c h => ?_, fun c h n => b.left c (a.left c h n) (nF1 c n (s.liv c h))⟩
  · rcases b.newR c h with q | q
    · exact a.newR c q
    · by_cases hf : F c
      · exact .inl (s.sub c hf)
      · exact .inr (back c q hf)
  · rcases b.newF c h with q | q
    · exact a.newF c q
    · by_cases hf : F c
      · exact .inl hf
      · exact .inr (back c q hf)
theorem Ch.ext {T : Addr} {F R F' R' : Rg} {H H' : Hp} (c : Ch T F R H F' R' H') : Ext (fun a => F a ∨ a = T) R H R' H' := ⟨fun b o n h => c.keep b o (fun z => n (.inl z)) (fun z => n (.inr z)) h, c.newR⟩
theorem Stt.val {T : Addr} {D : Type} [Sls D] {d : D} {σ : St} {F R F' R' : Rg} {H H' : Hp} (s : Stt T F R H d σ) (c : Ch T F R H F' R' H') {α : Type} [Rep α] {x : α} {v : V} (h : rp R H x v) : rp R' H' x v :=
  Rep.st h (c.ext.wide fun a z => z.elim (s.sub a) fun q => by rw [q]; exact s.tabR)
theorem Stt.new {T : Addr} {D : Type} [Sls D] {d : D} {σ : St} {F R : Rg} {H : Hp} (s : Stt T F R H d σ) {p : Addr} (o : HO) (hp : H p = none) : Stt T F R (upd H p o) d σ ∧ Ch T F R H F R (upd H p o) ∧ ¬R p := by
  have nR : ¬R p := fun z => s.liv p z hp
  have k : ∀ b u, H b = some u → upd H p o b = some u := fun b u e => by rw [upd_ne (ne_of_none e hp)]; exact e
  refine ⟨⟨Sls.st s.rel (G := fun _ => False) ⟨fun b u _ e => k b u e, fun a h => .inl h⟩ (fun _ z => z.elim) (fun _ _ z => z), s.sub, fun a z => ?_, ?_, s.tabR, s.tabF⟩, ⟨fun b u _ _ e => k b u e, fun a h => .inl h, fun a h => .inl h, fun a h _ => h⟩, nR⟩
  · cases e : H a with
    | none => exact absurd e (s.liv a z)
    | some u => rw [k a u e]; simp
  · obtain ⟨ps, e, t⟩ := s.tab
    exact ⟨ps, k _ _ e, t⟩
end WL
namespace WL
open PySem L2
open Rep (rp)
open Ow (sl)
open Sls (rel)
def EW (X : Cx) (E : XK) (T : Addr) (e : Expr) {D α : Type} [Sls D] [Rep α] (w : D → (α → D → Prop) → (Addr → D → Prop) → Prop) : Prop :=
  ∃ t, PE X e t ∧ ∀ (d : D) (F R : Rg) (σ : St) (H : Hp) (Kn : α → D → Prop) (Ke : Addr → D → Prop) (Q : VK), Stt T F R H d σ → w d Kn Ke →
    (∀ x d' v F' R' H', Kn x d' → Ch T F R H F' R' H' → Stt T F' R' H' d' σ → rp R' H' x v → Q v H') →
    (∀ C y d' F' R' H', Ke C d' → Ch T F R H F' R' H' → Stt T F' R' H' d' σ → E (.ref C) (some y) H') → t σ H Q
structure Nw (T : Addr) {τ : Type} [Ow τ] (F1 F2 R : Rg) (H : Hp) (x : τ) (v : V) : Prop where
  is : sl F1 R H x (some v)
  sub : ∀ a, F1 a → R a
  dis : ∀ a, F1 a → F2 a → False
  tab : ¬F1 T
def EO (X : Cx) (E : XK) (T : Addr) (e : Expr) {D τ : Type} [Sls D] [Ow τ] (w : D → (τ → D → Prop) → (Addr → D → Prop) → Prop) : Prop :=
  ∃ t, PE X e t ∧ ∀ (d : D) (F R : Rg) (σ : St) (H : Hp) (Kn : τ → D → Prop) (Ke : Addr → D → Prop) (Q : VK), Stt T F R H d σ → w d Kn Ke →
    (∀ x d' v F1 F2 R' H', Kn x d' → Ch T F R H (fun a => F1 a ∨ F2 a) R' H' → Stt T F2 R' H' d' σ → Nw T F1 F2 R' H' x v → Q v H') →
    (∀ C y d' F' R' H', Ke C d' → Ch T F R H F' R' H' → Stt T F' R' H' d' σ → E (.ref C) (some y) H') → t σ H Q
def TW (X : Cx) (E : XK) (T : Addr) (e : Expr) {D : Type} [Sls D] (w : D → (Bool → D → Prop) → (Addr → D → Prop) → Prop) : Prop :=
  ∃ t, PT X e t ∧ ∀ (d : D) (F R : Rg) (σ : St) (H : Hp) (Kn : Bool → D → Prop) (Ke : Addr → D → Prop) (Q : Bool → Hp → Prop), Stt T F R H d σ → w d Kn Ke →
    (∀ x d' F' R' H', Kn x d' → Ch T F R H F' R' H' → Stt T F' R' H' d' σ → Q x H') →
    (∀ C y d' F' R' H', Ke C d' → Ch T F R H F' R' H' → Stt T F' R' H' d' σ → E (.ref C) (some y) H') → t σ H Q
section
variable {X : Cx} {E : XK} {T : Addr} {D : Type} [Sls D] {pos : Pos}
theorem nw_rep {F R F1 F2 R' : Rg} {H H' : Hp} {d d' : D} {σ : St} {α : Type} [Rep α] {x : OL α} {v : V} (s : Stt T F R H d σ) (c : Ch T F R H (fun a => F1 a ∨ F2 a) R' H') (s' : Stt T F2 R' H' d' σ) (n : Nw T F1 F2 R' H' x v) :
    ∃ R'', Ch T F R H F2 R'' H' ∧ Stt T F2 R'' H' d' σ ∧ rp R'' H' x.l v := by
  have ex : Ext (fun _ => False) R' H' (fun a => R' a ∧ ¬F1 a) H' := ⟨fun _ _ _ h => h, fun a h => .inl h.1⟩
  refine ⟨fun a => R' a ∧ ¬F1 a, ⟨c.keep, fun a h => c.newR a h.1, fun a h => c.newF a (.inr h), fun a h k => ⟨c.left a h k, fun z => ?_⟩⟩, ⟨Sls.st s'.rel ex (fun _ z => z.elim) (fun _ _ z => z), fun a h => ⟨s'.sub a h, fun z => n.dis a z h⟩, fun a h => s'.liv a h.1, s'.tab, ⟨s'.tabR, n.tab⟩, s'.tabF⟩, ?_⟩
  · rcases c.newF a (.inl z) with q | q
    · exact k q
    · exact s.liv a h q
  · obtain ⟨a, vs, h1, h2, h3, h4⟩ := n.is
    cases h1
    exact ⟨a, vs, rfl, fun z => z.2 ((h2 a).mpr rfl), h3, paired_st (ex.wide fun _ z => z.elim) h4⟩
theorem ew_o {e : Expr} {α : Type} [Rep α] {w : D → (OL α → D → Prop) → (Addr → D → Prop) → Prop} (h : EO X E T e w) : EW X E T e (fun d Kn Ke => w d (fun x d' => Kn x.l d') Ke) := by
  obtain ⟨t, h1, h2⟩ := h
  refine ⟨t, h1, fun d F R σ H Kn Ke Q s hw kn ke => h2 d F R σ H _ Ke Q s hw (fun x d' v F1 F2 R' H' q c s' n => ?_) ke⟩
  obtain ⟨R'', c2, s2, r⟩ := nw_rep s c s' n
  exact kn x.l d' v F2 R'' H' q c2 s2 r
theorem ol_new {F R : Rg} {H : Hp} {d : D} {σ : St} {α : Type} [Rep α] {xs : List α} {vs : List V} {p : Addr} (s : Stt T F R H d σ) (hp : H p = none) (h : Paired (rp R H) xs vs) :
    ∃ R', Ch T F R H (fun a => a = p ∨ F a) R' (upd H p (.lst vs)) ∧ Stt T F R' (upd H p (.lst vs)) d σ ∧ Nw T (fun a => a = p) F R' (upd H p (.lst vs)) (OL.mk xs) (.ref p) := by
  obtain ⟨s1, c1, n1⟩ := s.new (.lst vs) hp
  have nF : ¬F p := fun z => n1 (s.sub p z)
  have ex : Ext (fun _ => False) R H (fun a => R a ∨ a = p) (upd H p (.lst vs)) := ⟨fun b o _ h => by rw [upd_ne (ne_of_none h hp)]; exact h, fun a h => h.elim .inl fun q => .inr (by rw [q]; exact hp)⟩
  refine ⟨fun a => R a ∨ a = p, ⟨c1.keep, ex.new, fun a h => h.elim (fun q => .inr (by rw [q]; exact hp)) .inl, fun a h _ => .inl h⟩, ⟨Sls.st s.rel ex (fun _ z => z.elim) (fun _ _ z => z), fun a h => .inl (s.sub a h), fun a h => ?_, s1.tab, .inl s.tabR, s.tabF⟩, ⟨⟨p, vs, rfl, fun b => Iff.rfl, upd_same, paired_st (ex.wide fun _ z => z.elim) h⟩, fun a h => .inr h, fun a h k => nF (by rw [← h]; exact k), fun h => n1 (by rw [← h]; exact s.tabR)⟩⟩
  rcases h with h | h
  · exact s1.liv a h
  · rw [h, upd_same]; simp
theorem ew_var {x : Str} {α D' : Type} [Rep α] [Sls D'] (i : Nat) [A : At i D α D'] (he : PE X (.Name x pos) (fun σ H Q => ∃ v, σ[i]? = some (some v) ∧ Q v H)) : EW X E T (.Name x pos) (fun (d : D) (Kn : α → D → Prop) _ => Kn (A.get d) d) := by
  refine ⟨_, he, fun d F R σ H Kn Ke Q s hw kn _ => ?_⟩
  obtain ⟨v, F1, F2, h1, h2, ⟨_, u, rfl, h4⟩, _⟩ := A.take s.rel
  exact ⟨u, h1, kn _ d u F R H hw (Ch.refl _ _ _ _) s h4⟩
theorem ew_int {n : Int} {k : Nat} : EW X E T (.Constant (.int n) k pos) (fun (d : D) (Kn : Int → D → Prop) _ => Kn n d) :=
  ⟨_, pe_int, fun d F R σ H Kn Ke Q s hw kn _ => kn n d _ F R H hw (Ch.refl _ _ _ _) s rfl⟩
theorem ew_bl {b : Bool} {k : Nat} : EW X E T (.Constant (.bool b) k pos) (fun (d : D) (Kn : Bool → D → Prop) _ => Kn b d) :=
  ⟨_, pe_bl, fun d F R σ H Kn Ke Q s hw kn _ => kn b d _ F R H hw (Ch.refl _ _ _ _) s rfl⟩
theorem ew_non {k : Nat} : EW X E T (.Constant .none k pos) (fun (d : D) (Kn : Unit → D → Prop) _ => Kn () d) :=
  ⟨_, pe_non, fun d F R σ H Kn Ke Q s hw kn _ => kn () d _ F R H hw (Ch.refl _ _ _ _) s rfl⟩
theorem ew_two {a b e : Expr} {α β γ : Type} [Rep α] [Rep β] [Rep γ] {r : R2} {wa : D → (α → D → Prop) → (Addr → D → Prop) → Prop} {wb : D → (β → D → Prop) → (Addr → D → Prop) → Prop} {c : α → β → Prop} {g : α → β → γ}
    (ha : EW X E T a wa) (hb : EW X E T b wb) (he : ∀ ta tb, PE X a ta → PE X b tb → PE X e (tOp r ta tb))
    (hr : ∀ {R : Rg} {H : Hp} {x : α} {y : β} {u v : V} {Q : VK}, rp R H x u → rp R H y v → c x y → (∀ z, rp R H (g x y) z → Q z H) → r u v H Q) :
    EW X E T e (fun d Kn Ke => wa d (fun x d1 => wb d1 (fun y d2 => c x y ∧ Kn (g x y) d2) Ke) Ke) := by
  obtain ⟨ta, a1, a2⟩ := ha
  obtain ⟨tb, b1, b2⟩ := hb
  refine ⟨_, he ta tb a1 b1, fun d F R σ H Kn Ke Q s hw kn ke => ?_⟩
  refine a2 d F R σ H _ Ke _ s hw (fun x d1 u F1 R1 H1 q1 c1 s1 r1 => ?_) ke
  refine b2 d1 F1 R1 σ H1 _ Ke _ s1 q1 (fun y d2 v F2 R2 H2 q2 c2 s2 r2 => ?_) fun C y d' F' R' H' k c s' => ke C y d' F' R' H' k (Ch.trans s s1.tab c1 c) s'
  exact hr (s1.val c2 r1) r2 q2.1 fun z rz => kn _ d2 z F2 R2 H2 q2.2 (Ch.trans s s1.tab c1 c2) s2 rz
theorem ew_one {a e : Expr} {α γ : Type} [Rep α] [Rep γ] {r : V → Hp → VK → Prop} {wa : D → (α → D → Prop) → (Addr → D → Prop) → Prop} {c : α → Prop} {g : α → γ}
    (ha : EW X E T a wa) (he : ∀ ta, PE X a ta → PE X e (tUn r ta)) (hr : ∀ {R : Rg} {H : Hp} {x : α} {u : V} {Q : VK}, rp R H x u → c x → (∀ z, rp R H (g x) z → Q z H) → r u H Q) :
    EW X E T e (fun d Kn Ke => wa d (fun x d1 => c x ∧ Kn (g x) d1) Ke) := by
  obtain ⟨ta, a1, a2⟩ := ha
  refine ⟨_, he ta a1, fun d F R σ H Kn Ke Q s hw kn ke => ?_⟩
  refine a2 d F R σ H _ Ke _ s hw (fun x d1 u F1 R1 H1 q1 c1 s1 r1 => ?_) ke
  exact hr r1 q1.1 fun z rz => kn _ d1 z F1 R1 H1 q1.2 c1 s1 rz
theorem ew_opI {a b : Expr} {op : Operator} {c : Int → Int → Prop} {g : Int → Int → Int} {wa wb : D → (Int → D → Prop) → (Addr → D → Prop) → Prop} (ho : OpR X (binaryOp op) (rI c fun i j => .int (g i j))) (ha : EW X E T a wa) (hb : EW X E T b wb) :
    EW X E T (.BinOp a op b pos) (fun d Kn Ke => wa d (fun x d1 => wb d1 (fun y d2 => c x y ∧ Kn (g x y) d2) Ke) Ke) :=
  ew_two (γ := Int) ha hb (fun ta tb h1 h2 => pe_op ho h1 h2) fun h1 h2 h3 k => ⟨_, _, h1, h2, h3, k _ rfl⟩
theorem ew_opI0 {a b : Expr} {op : Operator} {g : Int → Int → Int} {wa wb : D → (Int → D → Prop) → (Addr → D → Prop) → Prop} (ho : OpR X (binaryOp op) (rI0 fun i j => .int (g i j))) (ha : EW X E T a wa) (hb : EW X E T b wb) :
    EW X E T (.BinOp a op b pos) (fun d Kn Ke => wa d (fun x d1 => wb d1 (fun y d2 => Kn (g x y) d2) Ke) Ke) := by
  have h := ew_two (c := fun _ _ => True) (γ := Int) (g := g) (e := .BinOp a op b pos) ha hb (fun ta tb h1 h2 => pe_op ho h1 h2) fun h1 h2 _ k => ⟨_, _, h1, h2, k _ rfl⟩
  simp only [true_and] at h
  exact h
class Scal (α : Type) [Rep α] [DecidableEq α] where
  sc : ∀ {R : Rg} {H : Hp} {x y : α} {u v : V}, rp R H x u → rp R H y v → scal u v = true ∧ decide (u = v) = decide (x = y)
instance : Scal Int := ⟨fun {R H x y u v} h1 h2 => by
  have h1 : u = V.int x := h1
  have h2 : v = V.int y := h2
  subst h1; subst h2
  refine ⟨rfl, ?_⟩
  by_cases e : x = y
  · rw [e]; simp
  · rw [decide_eq_false e, decide_eq_false (fun z => e (by cases z; rfl))]⟩
instance : Scal Str := ⟨fun {R H x y u v} h1 h2 => by
  have h1 : u = V.str x := h1
  have h2 : v = V.str y := h2
  subst h1; subst h2
  refine ⟨rfl, ?_⟩
  by_cases e : x = y
  · rw [e]; simp
  · rw [decide_eq_false e, decide_eq_false (fun z => e (by cases z; rfl))]⟩
theorem opt_non {α : Type} [Rep α] {R : Rg} {H : Hp} {x : Option α} {u : V} (h : rp R H x u) : decide (u = .non) = x.isNone := by
  cases x with
  | none => have h : u = .non := h; rw [h]; rfl
  | some y => exact decide_eq_false h.1
end
end WL
namespace WL
variable [L2.GX]
open PySem L2
open Rep (rp)
open Ow (sl)
open Sls (rel)
section
variable {X : Cx} {E : XK} {T : Addr} {D : Type} [Sls D] {pos : Pos}
theorem ew_rep {e : Expr} {α : Type} [Rep α] {w : D → (α → D → Prop) → (Addr → D → Prop) → Prop} (h : EO X E T e w) : EW X E T e w := by
  obtain ⟨t, h1, h2⟩ := h
  refine ⟨t, h1, fun d F R σ H Kn Ke Q s hw kn ke => h2 d F R σ H _ Ke Q s hw (fun x d' v F1 F2 R' H' q c s' n => ?_) ke⟩
  obtain ⟨n1, u, e, n2⟩ := n.is
  cases e
  exact kn x d' v F2 R' H' q ⟨c.keep, c.newR, fun a h => c.newF a (.inr h), c.left⟩ s' n2
theorem eo_rep {e : Expr} {α : Type} [Rep α] {w : D → (α → D → Prop) → (Addr → D → Prop) → Prop} (h : EW X E T e w) : EO X E T e w := by
  obtain ⟨t, h1, h2⟩ := h
  refine ⟨t, h1, fun d F R σ H Kn Ke Q s hw kn ke => h2 d F R σ H _ Ke Q s hw (fun x d' v F' R' H' q c s' r => ?_) ke⟩
  exact kn x d' v (fun _ => False) F' R' H' q ⟨c.keep, c.newR, fun a h => c.newF a (h.elim (fun z => z.elim) id), c.left⟩ s' ⟨⟨fun _ z => z, v, rfl, r⟩, fun _ z => z.elim, fun _ z => z.elim, fun z => z⟩
end
class Hs (τ : Type) [Ow τ] : Prop where
  has : ∀ {F R : Rg} {H : Hp} {x : τ} {v : Option V}, sl F R H x v → ∃ u, v = some u
instance {α : Type} [Rep α] : Hs (OL α) := ⟨fun ⟨a, _, h, _⟩ => ⟨_, h⟩⟩
structure Std (T : Addr) (F R : Rg) (H : Hp) : Prop where
  sub : ∀ a, F a → R a
  liv : ∀ a, R a → H a ≠ none
  tab : TabAt H T
  tabR : R T
  tabF : ¬F T
theorem Stt.std {T : Addr} {D : Type} [Sls D] {F R : Rg} {H : Hp} {d : D} {σ : St} (s : Stt T F R H d σ) : Std T F R H := ⟨s.sub, s.liv, s.tab, s.tabR, s.tabF⟩
theorem Std.stt {T : Addr} {D : Type} [Sls D] {F R : Rg} {H : Hp} {d : D} {σ : St} (s : Std T F R H) (h : rel F R H d σ) : Stt T F R H d σ := ⟨h, s.sub, s.liv, s.tab, s.tabR, s.tabF⟩
section
variable {X : Cx} {E : XK} {T : Addr} {D : Type} [Sls D] {pos : Pos}
theorem two_nil (F : Rg) : Two F (fun _ => False) F := ⟨fun _ => ⟨.inr, fun z => z.elim (fun q => q.elim) id⟩, fun _ z _ => z⟩
theorem two_eq {F F1 F2 : Rg} (t : Two F F1 F2) (n : ∀ a, ¬F1 a) : ∀ a, F2 a ↔ F a := fun a => ⟨fun z => (t.all a).mpr (.inr z), fun z => ((t.all a).mp z).elim (fun q => absurd q (n a)) id⟩
end
def spW (T : Addr) {P PO τ : Type} [Sls P] [Sls PO] [Ow τ] (w : P → (τ → PO → Prop) → (Addr → PO → Prop) → Prop) : Sp := fun vs H Q E => ∃ (F R : Rg) (p : P) (Kn : τ → PO → Prop) (Ke : Addr → PO → Prop), Stt T F R H p (vs.map some) ∧ w p Kn Ke ∧
  (∀ x p' v F1 F2 R' H', Kn x p' → Ch T F R H (fun a => F1 a ∨ F2 a) R' H' → Stt T F2 R' H' p' (vs.map some) → Nw T F1 F2 R' H' x v → Q v H') ∧
  (∀ C y p' F' R' H', Ke C p' → Ch T F R H F' R' H' → Stt T F' R' H' p' (vs.map some) → E (.ref C) (some y) H')
end WL
namespace WL
variable [L2.GX]
open PySem L2
open Rep (rp)
open Ow (sl)
open Sls (rel)
def Ag (ms : List Nat) (σ σ' : St) : Prop := σ'.length = σ.length ∧ ∀ i ∈ ms, σ'[i]? = σ[i]?
theorem Ag.refl (ms : List Nat) (σ : St) : Ag ms σ σ := ⟨rfl, fun _ _ => rfl⟩
theorem Ag.trans {ms : List Nat} {σ σ1 σ2 : St} (a : Ag ms σ σ1) (b : Ag ms σ1 σ2) : Ag ms σ σ2 := ⟨b.1.trans a.1, fun i h => (b.2 i h).trans (a.2 i h)⟩
theorem Ag.set {ms : List Nat} {σ : St} {i : Nat} {v : Option V} (h : i ∉ ms) : Ag ms σ (σ.set i v) := ⟨List.length_set, fun j hj => List.getElem?_set_ne fun e => h (by rw [e]; exact hj)⟩
structure Dep (P : Type) [Sls P] (ms : List Nat) (n : Nat) : Prop where
  dp : ∀ {F R : Rg} {H : Hp} {p : P} {σ σ' : St}, Ag ms σ σ' → rel F R H p (σ'.take n) → rel F R H p (σ.take n)
class Dp (P : Type) [Sls P] (n : outParam Nat) (l : outParam (List Nat)) : Prop where
  dp : Dep P l n
instance dp0 : Dp Unit 0 [] := ⟨⟨fun {F R H p σ σ'} _ h => ⟨rfl, h.2⟩⟩⟩
instance (priority := high) dpU {P : Type} {n : Nat} {l : List Nat} [Sls P] [A : Dp P n l] : Dp (Un × P) (n + 1) (l.map (· + 1)) := ⟨⟨fun {F R H p σ σ'} a r => by
  obtain ⟨v, σ1, F1, F2, h1, h2, h3, h4⟩ := r
  cases σ' with
  | nil => cases h1
  | cons v' r' =>
    cases σ with
    | nil => have := a.1; simp at this
    | cons u r =>
      injection h1 with e1 e2
      subst e2
      refine ⟨u, r.take n, F1, F2, rfl, h2, h3, A.dp.dp (σ' := r') ⟨by have := a.1; simpa using this, fun i hi => ?_⟩ h4⟩
      have := a.2 (i + 1) (List.mem_map.mpr ⟨i, hi, rfl⟩)
      simpa using this⟩⟩
instance dpO {τ P : Type} {n : Nat} {l : List Nat} [Ow τ] [Sls P] [A : Dp P n l] : Dp (τ × P) (n + 1) (0 :: l.map (· + 1)) := ⟨⟨fun {F R H p σ σ'} a r => by
  obtain ⟨v, σ1, F1, F2, h1, h2, h3, h4⟩ := r
  cases σ' with
  | nil => cases h1
  | cons v' r' =>
    cases σ with
    | nil => have := a.1; simp at this
    | cons u r =>
      injection h1 with e1 e2
      subst e2
      have e0 : v' = u := by
        have := a.2 0 List.mem_cons_self
        simpa using this
      subst e0
      subst e1
      refine ⟨v', r.take n, F1, F2, rfl, h2, h3, A.dp.dp (σ' := r') ⟨by have := a.1; simpa using this, fun i hi => ?_⟩ h4⟩
      have := a.2 (i + 1) (List.mem_cons_of_mem _ (List.mem_map.mpr ⟨i, hi, rfl⟩))
      simpa using this⟩⟩
theorem dep_of {P : Type} [Sls P] {n : Nat} {l ms : List Nat} [A : Dp P n l] (h : ∀ i ∈ l, i ∈ ms) : Dep P ms n := ⟨fun a r => A.dp.dp ⟨a.1, fun i hi => a.2 i (h i hi)⟩ r⟩
def SWt (E : XK) (T : Addr) (ms : List Nat) (n : Nat) (t : TS) {D D' PO τ : Type} [Sls D] [Sls D'] [Sls PO] [Ow τ] (w : D → (D' → Prop) → (τ → PO → Prop) → (Addr → PO → Prop) → Prop) : Prop :=
  ∀ (d : D) (F R : Rg) (σ : St) (H : Hp) (Kn : D' → Prop) (Kr : τ → PO → Prop) (Ke : Addr → PO → Prop) (En : Ends), Stt T F R H d σ → w d Kn Kr Ke →
    (∀ d' F' R' H' σ', Kn d' → Ch T F R H F' R' H' → Stt T F' R' H' d' σ' → Ag ms σ σ' → En.nx σ' H') →
    (∀ x p' v F1 F2 R' H', Kr x p' → Ch T F R H (fun a => F1 a ∨ F2 a) R' H' → Stt T F2 R' H' p' (σ.take n) → Nw T F1 F2 R' H' x v → En.rt v H') →
    (∀ C y p' F' R' H', Ke C p' → Ch T F R H F' R' H' → Stt T F' R' H' p' (σ.take n) → E (.ref C) (some y) H') → t En σ H
def S1 (X : Cx) (E : XK) (T : Addr) (ms : List Nat) (n : Nat) (st : Stmt) {D D' PO τ : Type} [Sls D] [Sls D'] [Sls PO] [Ow τ] (w : D → (D' → Prop) → (τ → PO → Prop) → (Addr → PO → Prop) → Prop) : Prop := ∃ t, PS X st t ∧ SWt E T ms n t w
def SW (X : Cx) (E : XK) (T : Addr) (ms : List Nat) (n : Nat) (sts : List Stmt) {D D' PO τ : Type} [Sls D] [Sls D'] [Sls PO] [Ow τ] (w : D → (D' → Prop) → (τ → PO → Prop) → (Addr → PO → Prop) → Prop) : Prop := ∃ t, PSs X sts t ∧ SWt E T ms n t w
section
variable {X : Cx} {E : XK} {T : Addr} {ms : List Nat} {n : Nat} {D D' D1 PO τ : Type} [Sls D] [Sls D'] [Sls D1] [Sls PO] [Ow τ] {pos : Pos}
theorem sw_nil : SW X E T ms n [] (fun (d : D) (Kn : D → Prop) (_ : τ → PO → Prop) _ => Kn d) :=
  ⟨_, pss_nil, fun d F R σ H Kn Kr Ke En s hw kn _ _ => kn d F R H σ hw (Ch.refl _ _ _ _) s (Ag.refl _ _)⟩
theorem seq_t {t1 t2 : TS} {w1 : D → (D1 → Prop) → (τ → PO → Prop) → (Addr → PO → Prop) → Prop} {w2 : D1 → (D' → Prop) → (τ → PO → Prop) → (Addr → PO → Prop) → Prop} (dp : Dep PO ms n) (a2 : SWt E T ms n t1 w1) (b2 : SWt E T ms n t2 w2) :
    SWt E T ms n (tSeq t1 t2) (fun d Kn Kr Ke => w1 d (fun d1 => w2 d1 Kn Kr Ke) Kr Ke) := by
  refine fun d F R σ H Kn Kr Ke En s hw kn kr ke => a2 d F R σ H _ Kr Ke _ s hw (fun d1 F1 R1 H1 σ1 q c1 s1 g1 => ?_) kr ke
  refine b2 d1 F1 R1 σ1 H1 Kn Kr Ke En s1 q (fun d' F' R' H' σ' q' c s' g => kn d' F' R' H' σ' q' (Ch.trans s s1.tab c1 c) s' (g1.trans g)) (fun x p' v M1 M2 R' H' q' c s' m => ?_) fun C y p' F' R' H' q' c s' => ?_
  · exact kr x p' v M1 M2 R' H' q' (Ch.trans s s1.tab c1 c) ⟨dp.dp g1 s'.rel, s'.sub, s'.liv, s'.tab, s'.tabR, s'.tabF⟩ m
  · exact ke C y p' F' R' H' q' (Ch.trans s s1.tab c1 c) ⟨dp.dp g1 s'.rel, s'.sub, s'.liv, s'.tab, s'.tabR, s'.tabF⟩
theorem sw_cons {st : Stmt} {rest : List Stmt} {w1 : D → (D1 → Prop) → (τ → PO → Prop) → (Addr → PO → Prop) → Prop} {w2 : D1 → (D' → Prop) → (τ → PO → Prop) → (Addr → PO → Prop) → Prop} (dp : Dep PO ms n) (h1 : S1 X E T ms n st w1) (h2 : SW X E T ms n rest w2) :
    SW X E T ms n (st :: rest) (fun d Kn Kr Ke => w1 d (fun d1 => w2 d1 Kn Kr Ke) Kr Ke) :=
  let ⟨t1, a1, a2⟩ := h1; let ⟨t2, b1, b2⟩ := h2; ⟨_, pss_cons a1 b1, seq_t dp a2 b2⟩
theorem sw_one {st : Stmt} {w1 : D → (D' → Prop) → (τ → PO → Prop) → (Addr → PO → Prop) → Prop} (h1 : S1 X E T ms n st w1) : SW X E T ms n [st] w1 :=
  let ⟨t1, a1, a2⟩ := h1; ⟨_, pss_one a1, a2⟩
theorem stt_pj [A : Pj D PO n] {F' R' : Rg} {H' : Hp} {d : D} {σ : St} (s : Stt T F' R' H' d σ) : ∃ G, (∀ a, G a → F' a) ∧ Stt T G R' H' (A.pj d) (σ.take n) := by
  obtain ⟨G, g1, g2⟩ := A.le s.rel
  exact ⟨G, g1, g2, fun a h => s.sub a (g1 a h), s.liv, s.tab, s.tabR, fun h => s.tabF (g1 _ h)⟩
theorem Ch.less {F R F' R' G : Rg} {H H' : Hp} (c : Ch T F R H F' R' H') (g : ∀ a, G a → F' a) : Ch T F R H G R' H' := ⟨c.keep, c.newR, fun a h => c.newF a (g a h), c.left⟩
theorem s1_ret {e : Expr} [A : Pj D PO n] {we : D → (τ → D → Prop) → (Addr → D → Prop) → Prop} (h : EO X E T e we) : S1 X E T ms n (.Return (some e) pos) (fun (d : D) (_ : D' → Prop) (Kr : τ → PO → Prop) Ke => we d (fun x d' => Kr x (A.pj d')) fun C d' => Ke C (A.pj d')) := by
  obtain ⟨t, h1, h2⟩ := h
  refine ⟨_, ps_ret h1, fun d F R σ H Kn Kr Ke En s hw kn kr ke => h2 d F R σ H _ _ _ s hw (fun x d' v F1 F2 R' H' q c s' m => ?_) fun C y d' F' R' H' q c s' => ?_⟩
  · obtain ⟨G, g1, g2⟩ := stt_pj (PO := PO) s'
    exact kr x _ v F1 G R' H' q (c.less fun a h => h.elim .inl fun z => .inr (g1 a z)) g2 ⟨m.is, m.sub, fun a h k => m.dis a h (g1 a k), m.tab⟩
  · obtain ⟨G, g1, g2⟩ := stt_pj (PO := PO) s'
    exact ke C y _ G R' H' q (c.less g1) g2
theorem s1_expr {e : Expr} {α : Type} [Rep α] [A : Pj D PO n] {we : D → (α → D → Prop) → (Addr → D → Prop) → Prop} (h : EW X E T e we) (hs : swapsWith e none pos.line X.env = pure false := by rfl) :
    S1 X E T ms n (.Expr e pos) (fun (d : D) (Kn : D → Prop) (Kr : τ → PO → Prop) Ke => we d (fun _ d' => Kn d') fun C d' => Ke C (A.pj d')) := by
  obtain ⟨t, h1, h2⟩ := h
  refine ⟨_, ps_expr h1 hs, fun d F R σ H Kn Kr Ke En s hw kn kr ke => h2 d F R σ H _ _ _ s hw (fun x d' v F' R' H' q c s' m => kn d' F' R' H' σ q c s' (Ag.refl _ _)) fun C y d' F' R' H' q c s' => ?_⟩
  obtain ⟨G, g1, g2⟩ := stt_pj (PO := PO) s'
  exact ke C y _ G R' H' q (c.less g1) g2
theorem s1_if {c : Expr} {a b : List Stmt} [A : Pj D PO n] {wc : D → (Bool → D → Prop) → (Addr → D → Prop) → Prop} {wa wb : D → (D' → Prop) → (τ → PO → Prop) → (Addr → PO → Prop) → Prop} (hc : TW X E T c wc) (ha : SW X E T ms n a wa) (hb : SW X E T ms n b wb) :
    S1 X E T ms n (.If c a b pos) (fun (d : D) (Kn : D' → Prop) (Kr : τ → PO → Prop) Ke => wc d (fun b d1 => if b = true then wa d1 Kn Kr Ke else wb d1 Kn Kr Ke) fun C d' => Ke C (A.pj d')) := by
  obtain ⟨tc, c1, c2⟩ := hc
  obtain ⟨ta, a1, a2⟩ := ha
  obtain ⟨tb, b1, b2⟩ := hb
  refine ⟨_, ps_if c1 a1 b1, fun d F R σ H Kn Kr Ke En s hw kn kr ke => c2 d F R σ H _ _ _ s hw (fun x d1 F1 R1 H1 q c s1 => ?_) fun C y d' F' R' H' q c s' => ?_⟩
  · cases x with
    | true => exact a2 d1 F1 R1 σ H1 Kn Kr Ke En s1 q (fun d' F' R' H' σ' q' c' s' g => kn d' F' R' H' σ' q' (Ch.trans s s1.tab c c') s' g) (fun x p' v M1 M2 R' H' q' c' s' m => kr x p' v M1 M2 R' H' q' (Ch.trans s s1.tab c c') s' m) fun C y p' F' R' H' q' c' s' => ke C y p' F' R' H' q' (Ch.trans s s1.tab c c') s'
    | false => exact b2 d1 F1 R1 σ H1 Kn Kr Ke En s1 q (fun d' F' R' H' σ' q' c' s' g => kn d' F' R' H' σ' q' (Ch.trans s s1.tab c c') s' g) (fun x p' v M1 M2 R' H' q' c' s' m => kr x p' v M1 M2 R' H' q' (Ch.trans s s1.tab c c') s' m) fun C y p' F' R' H' q' c' s' => ke C y p' F' R' H' q' (Ch.trans s s1.tab c c') s'
  · obtain ⟨G, g1, g2⟩ := stt_pj (PO := PO) s'
    exact ke C y _ G R' H' q (c.less g1) g2
theorem put_t {i : Nat} {τ0 τ1 D0 D2 : Type} [Ow τ0] [Ow τ1] [Sls D0] [Sls D2] [A : At i D τ0 D0] [U : Pt i D0 τ1 D2] {F1 F2 R : Rg} {H : Hp} {d : D} {x : τ1} {v : V} {σ : St} (s : Stt T F2 R H d σ) (m : Nw T F1 F2 R H x v) :
    ∃ G, (∀ a, G a → F1 a ∨ F2 a) ∧ Stt T G R H (U.put (A.hole d) x) (σ.set i (some v)) := by
  obtain ⟨v0, M1, M2, h1, h2, h3, h4⟩ := A.take s.rel
  refine ⟨fun a => F1 a ∨ M2 a, fun a h => h.elim .inl fun z => .inr ((h2.all a).mpr (.inr z)), U.back h4 ⟨fun _ => Iff.rfl, fun a z q => m.dis a z ((h2.all a).mpr (.inr q))⟩ m.is, fun a h => h.elim (m.sub a) fun z => s.sub a ((h2.all a).mpr (.inr z)), s.liv, s.tab, s.tabR, fun h => h.elim m.tab fun z => s.tabF ((h2.all T).mpr (.inr z))⟩
theorem s1_set {e : Expr} {x : Str} {pos' : Pos} (i : Nat) {τ0 τ1 D0 D2 : Type} [Ow τ0] [Ow τ1] [Sls D0] [Sls D2] [A : At i D τ0 D0] [U : Pt i D0 τ1 D2] [J : Pj D PO n] {we : D → (τ1 → D → Prop) → (Addr → D → Prop) → Prop} (hN : X.N.Nodup) (hi : X.N[i]? = some x) (hx : Loc X.env.scope x) (hm : i ∉ ms) (h : EO X E T e we)
    (hs : swapsWith e (some (.Name x pos')) pos.line X.env = pure false := by rfl) (hf : X.fn x = true ∨ X.env.scope.names.lookup x = some .local := by first | exact .inl rfl | exact .inr rfl) :
    S1 X E T ms n (.Assign [.Name x pos'] e pos) (fun (d : D) (Kn : D2 → Prop) (Kr : τ → PO → Prop) Ke => we d (fun x d' => Kn (U.put (A.hole d') x)) fun C d' => Ke C (J.pj d')) := by
  obtain ⟨t, h1, h2⟩ := h
  refine ⟨_, ps_set hN hi hx h1 hs hf, fun d F R σ H Kn Kr Ke En s hw kn kr ke => h2 d F R σ H _ _ _ s hw (fun x d' v F1 F2 R' H' q c s' m => ?_) fun C y d' F' R' H' q c s' => ?_⟩
  · obtain ⟨G, g1, g2⟩ := put_t (i := i) s' m
    exact kn _ G R' H' _ q (c.less g1) g2 (Ag.set hm)
  · obtain ⟨G, g1, g2⟩ := stt_pj (PO := PO) s'
    exact ke C y _ G R' H' q (c.less g1) g2
end
class Ent (P : Type) [Sls P] (k : Nat) (D : outParam Type) [Sls D] where
  ent : P → D
  ok : ∀ {F R : Rg} {H : Hp} {p : P} {σ : St}, rel F R H p σ → rel F R H (ent p) (σ ++ List.replicate k none)
instance ent0 : Ent Unit 0 Unit := ⟨id, fun h => by obtain ⟨rfl, h⟩ := h; exact ⟨rfl, h⟩⟩
instance entS {k : Nat} {D : Type} [Sls D] [A : Ent Unit k D] : Ent Unit (k + 1) (Un × D) := ⟨fun p => (⟨⟩, A.ent p), fun {F R H p σ} h => by
  obtain ⟨rfl, h⟩ := h
  exact ⟨none, List.replicate k none, fun _ => False, F, by rw [List.nil_append]; rfl, two_nil F, fun _ z => z, by simpa using A.ok (σ := []) (p := p) (F := F) (R := R) (H := H) ⟨rfl, h⟩⟩⟩
instance entC {k : Nat} {τ P D : Type} [Ow τ] [Sls P] [Sls D] [A : Ent P k D] : Ent (τ × P) k (τ × D) := ⟨fun p => (p.1, A.ent p.2), fun {F R H p σ} h => by
  obtain ⟨v, σ', F1, F2, rfl, h2, h3, h4⟩ := h
  exact ⟨v, σ' ++ List.replicate k none, F1, F2, rfl, h2, h3, A.ok h4⟩⟩
class Ln (P : Type) [Sls P] (n : outParam Nat) : Prop where
  ln : ∀ {F R : Rg} {H : Hp} {p : P} {σ : St}, rel F R H p σ → σ.length = n
instance ln0 : Ln Unit 0 := ⟨fun h => by rw [h.1]; rfl⟩
instance lnS {τ P : Type} {n : Nat} [Ow τ] [Sls P] [A : Ln P n] : Ln (τ × P) (n + 1) := ⟨fun h => by
  obtain ⟨v, σ', F1, F2, rfl, _, _, h4⟩ := h
  rw [List.length_cons, A.ln h4]⟩
section
variable {P : Program} {w : World} {K : PySem.W.Frag} {mg : Str → Option Value} {base : Heap} {T : Addr}
theorem fn_w {x qual : Str} {st : Stmt} {f : Addr} {fd : FuncData} {N ps : List Str} {k j n : Nat} {ms : List Nat} {A PO τ D D' : Type} [Sls A] [Sls PO] [Ow τ] [Sls D] [Sls D'] [L : Ln A n] [En : Ent A j D] {w0 : D → (D' → Prop) → (τ → PO → Prop) → (Addr → PO → Prop) → Prop}
    (F : Fun K x qual st f fd) (S : FnScope N ps (defScope st)) (hn : ps.length = n) (hj : N.length - n = j)
    (hbody : ∀ (cdv : Value) (A : Around) (outer : List Env) (s : Shared) (H : Hp) (E : XK), Room k (A.deeper (PyProof.Rows.envOfC qual (defScope st) s.heap.objs.size f cdv)) → SW (cxOf (CX1 P w) P w K mg base N qual (defScope st) f cdv A outer s H E) E T ms n (defBody st) w0) :
    FnOk P w K mg base (CX1 P w) (k + 1) f fd ps (spW T fun (p : A) (Kr : τ → PO → Prop) Ke => w0 (En.ent p) (fun _ => False) Kr Ke) := by
  have hlen : ∀ {vs : List V} {H : Hp} {Q : VK} {E : XK}, spW T (fun (p : A) (Kr : τ → PO → Prop) Ke => w0 (En.ent p) (fun _ => False) Kr Ke) vs H Q E → vs.length = n := fun h => by
    obtain ⟨F, R, p, Kn, Ke, s, _⟩ := h
    have := L.ln s.rel
    rwa [List.length_map] at this
  obtain ⟨oc, od, kV, doc, pm, an, cdv, ct, osl, rfl, lk, hcd⟩ := F.ex
  refine fn_of lk hcd S (fun vs H Q E h => (hlen h).trans hn.symm) fun Ar outer s H vs Q E hr hsp => ?_
  obtain ⟨t, h1, h2⟩ := hbody cdv Ar outer s H E hr
  refine ⟨t, h1, ?_⟩
  have hl := hlen hsp
  obtain ⟨F, R, p, Kn, Ke, s0, hw, kn, ke⟩ := hsp
  have est : start N vs = vs.map some ++ List.replicate j none := by unfold L2.start; rw [hl, hj]
  have etk : (start N vs).take n = vs.map some := by rw [est, List.take_append_of_le_length (by rw [List.length_map, hl]; exact Nat.le_refl _), List.take_of_length_le (by rw [List.length_map, hl]; exact Nat.le_refl _)]
  refine h2 (En.ent p) F R _ H _ Kn Ke _ ⟨by rw [est]; exact En.ok s0.rel, s0.sub, s0.liv, s0.tab, s0.tabR, s0.tabF⟩ hw (fun _ _ _ _ _ z => z.elim) (fun x p' v F1 F2 R' H' q c s' m => ?_) fun C y p' F' R' H' q c s' => ?_
  · rw [etk] at s'
    exact kn x p' v F1 F2 R' H' q c s' m
  · rw [etk] at s'
    exact ke C y p' F' R' H' q c s'
theorem fn_wC {x qual : Str} {st : Stmt} {f : Addr} {fd : FuncData} {N ps : List Str} {k j n : Nat} {ms : List Nat} {A PO τ D D' : Type} [Sls A] [Sls PO] [Ow τ] [Sls D] [Sls D'] [L : Ln A n] [En : Ent A j D] {w0 : D → (D' → Prop) → (τ → PO → Prop) → (Addr → PO → Prop) → Prop}
    (F : Fun K x qual st f fd) (S : FnScope N ps (defScope st)) (hn : ps.length = n) (hj : N.length - n = j)
    (hbody : ∀ (A : Around) (outer : List Env) (s : Shared) (H : Hp) (E : XK), Room k (A.deeper (PyProof.Rows.envOfC qual (defScope st) s.heap.objs.size f fd.code)) → SW (cxOf (CX1 P w) P w K mg base N qual (defScope st) f fd.code A outer s H E) E T ms n (defBody st) w0) :
    FnOk P w K mg base (CX1 P w) (k + 1) f fd ps (spW T fun (p : A) (Kr : τ → PO → Prop) Ke => w0 (En.ent p) (fun _ => False) Kr Ke) := by
  have hlen : ∀ {vs : List V} {H : Hp} {Q : VK} {E : XK}, spW T (fun (p : A) (Kr : τ → PO → Prop) Ke => w0 (En.ent p) (fun _ => False) Kr Ke) vs H Q E → vs.length = n := fun h => by
    obtain ⟨F, R, p, Kn, Ke, s, _⟩ := h
    have := L.ln s.rel
    rwa [List.length_map] at this
  obtain ⟨oc, od, kV, doc, pm, an, cdv, ct, osl, rfl, lk, hcd⟩ := F.ex
  refine fn_of lk hcd S (fun vs H Q E h => (hlen h).trans hn.symm) fun Ar outer s H vs Q E hr hsp => ?_
  obtain ⟨t, h1, h2⟩ := hbody Ar outer s H E hr
  refine ⟨t, h1, ?_⟩
  have hl := hlen hsp
  obtain ⟨F, R, p, Kn, Ke, s0, hw, kn, ke⟩ := hsp
  have est : start N vs = vs.map some ++ List.replicate j none := by unfold L2.start; rw [hl, hj]
  have etk : (start N vs).take n = vs.map some := by rw [est, List.take_append_of_le_length (by rw [List.length_map, hl]; exact Nat.le_refl _), List.take_of_length_le (by rw [List.length_map, hl]; exact Nat.le_refl _)]
  refine h2 (En.ent p) F R _ H _ Kn Ke _ ⟨by rw [est]; exact En.ok s0.rel, s0.sub, s0.liv, s0.tab, s0.tabR, s0.tabF⟩ hw (fun _ _ _ _ _ z => z.elim) (fun x p' v F1 F2 R' H' q c s' m => ?_) fun C y p' F' R' H' q c s' => ?_
  · rw [etk] at s'
    exact kn x p' v F1 F2 R' H' q c s' m
  · rw [etk] at s'
    exact ke C y p' F' R' H' q c s'
theorem fn_wN {x qual : Str} {st : Stmt} {f : Addr} {fd : FuncData} {N ps : List Str} {k j n : Nat} {ms : List Nat} {A PO D D' : Type} [Sls A] [Sls PO] [Sls D] [Sls D'] [L : Ln A n] [En : Ent A j D] [J : Pj D' PO n] (dp : Dep PO ms n) {w0 : D → (D' → Prop) → (Unit → PO → Prop) → (Addr → PO → Prop) → Prop}
    (F : Fun K x qual st f fd) (S : FnScope N ps (defScope st)) (hn : ps.length = n) (hj : N.length - n = j)
    (hbody : ∀ (cdv : Value) (A : Around) (outer : List Env) (s : Shared) (H : Hp) (E : XK), Room k (A.deeper (PyProof.Rows.envOfC qual (defScope st) s.heap.objs.size f cdv)) → SW (cxOf (CX1 P w) P w K mg base N qual (defScope st) f cdv A outer s H E) E T ms n (defBody st) w0) :
    FnOk P w K mg base (CX1 P w) (k + 1) f fd ps (spW T fun (p : A) (Kr : Unit → PO → Prop) Ke => w0 (En.ent p) (fun d' => Kr () (J.pj d')) Kr Ke) := by
  have hlen : ∀ {vs : List V} {H : Hp} {Q : VK} {E : XK}, spW T (fun (p : A) (Kr : Unit → PO → Prop) Ke => w0 (En.ent p) (fun d' => Kr () (J.pj d')) Kr Ke) vs H Q E → vs.length = n := fun h => by
    obtain ⟨F, R, p, Kn, Ke, s, _⟩ := h
    have := L.ln s.rel
    rwa [List.length_map] at this
  obtain ⟨oc, od, kV, doc, pm, an, cdv, ct, osl, rfl, lk, hcd⟩ := F.ex
  refine fn_of lk hcd S (fun vs H Q E h => (hlen h).trans hn.symm) fun Ar outer s H vs Q E hr hsp => ?_
  obtain ⟨t, h1, h2⟩ := hbody cdv Ar outer s H E hr
  refine ⟨t, h1, ?_⟩
  have hl := hlen hsp
  obtain ⟨F, R, p, Kn, Ke, s0, hw, kn, ke⟩ := hsp
  have est : start N vs = vs.map some ++ List.replicate j none := by unfold L2.start; rw [hl, hj]
  have etk : (start N vs).take n = vs.map some := by rw [est, List.take_append_of_le_length (by rw [List.length_map, hl]; exact Nat.le_refl _), List.take_of_length_le (by rw [List.length_map, hl]; exact Nat.le_refl _)]
  refine h2 (En.ent p) F R _ H _ Kn Ke _ ⟨by rw [est]; exact En.ok s0.rel, s0.sub, s0.liv, s0.tab, s0.tabR, s0.tabF⟩ hw (fun d' F' R' H' σ' q c s' g => ?_) (fun x p' v F1 F2 R' H' q c s' m => ?_) fun C y p' F' R' H' q c s' => ?_
  · obtain ⟨G, g1, g2⟩ := stt_pj (PO := PO) s'
    have g3 := dp.dp g g2.rel
    rw [etk] at g3
    exact kn () _ .non (fun _ => False) G R' H' q (c.less fun a h => h.elim (fun z => z.elim) (g1 a)) ⟨g3, g2.sub, g2.liv, g2.tab, g2.tabR, g2.tabF⟩ ⟨⟨fun _ z => z, .non, rfl, rfl⟩, fun _ z => z.elim, fun _ z => z.elim, fun z => z⟩
  · rw [etk] at s'
    exact kn x p' v F1 F2 R' H' q c s' m
  · rw [etk] at s'
    exact ke C y p' F' R' H' q c s'
end
end WL
namespace WL
open PySem L2
open Rep (rp)
open Ow (sl)
open Sls (rel)
class Dat (α : Type) [Rep α] [DecidableEq α] where
  dat : α → PyData
  dp : Nat
  rd : ∀ {X : Cx} {R : Rg} {H : Hp} {x : α} {v : V}, rp R H x v → RdS X H v (dat x)
  lay : ∀ x, (dat x).canLay0 = true
  dep : ∀ x, (dat x).depth ≤ dp
  nm : ∀ x y, SeqAt.noMix (dat x) (dat y) = true
  sm : ∀ x y, PySem.Spec.same (dat x) (dat y) = decide (x = y)
instance : Dat Int where
  dat := .int
  dp := 0
  rd h := by have h : _ = _ := h; subst h; exact RdS.int _
  lay _ := by simp [PyData.canLay0]
  dep _ := by simp [PyData.depth]
  nm _ _ := by simp [SeqAt.noMix]
  sm x y := by rw [PySem.Spec.same]; by_cases h : x = y <;> simp [h]
section
variable {α β : Type} [Rep α] [DecidableEq α] [Dat α] [Rep β] [DecidableEq β] [Dat β]
theorem dat_all {X : Cx} {R : Rg} {H : Hp} : ∀ {xs : List α} {vs : List V}, Paired (rp R H) xs vs → Paired (RdS X H) vs (xs.map Dat.dat)
  | _, _, .nil => .nil
  | _, _, .cons h t => .cons (Dat.rd h) (dat_all t)
theorem lay_all : ∀ xs : List α, PyData.canLayAll0 (xs.map Dat.dat) = true
  | [] => by simp [PyData.canLayAll0]
  | x :: xs => by simp only [List.map_cons, PyData.canLayAll0, Dat.lay x, lay_all xs, Bool.and_self]
theorem dep_all : ∀ xs : List α, PyData.depthAll (xs.map Dat.dat) ≤ Dat.dp α
  | [] => by simp [PyData.depthAll]
  | x :: xs => by
    have h1 := dep_all xs
    have h2 := Dat.dep x
    simp only [List.map_cons, PyData.depthAll]
    omega
theorem nm_all : ∀ xs ys : List α, SeqAt.noMixAll (xs.map Dat.dat) (ys.map Dat.dat) = true
  | [], [] => by simp [SeqAt.noMixAll]
  | [], _ :: _ => by simp [SeqAt.noMixAll]
  | _ :: _, [] => by simp [SeqAt.noMixAll]
  | x :: xs, y :: ys => by simp only [List.map_cons, SeqAt.noMixAll, Dat.nm x y, nm_all xs ys, Bool.and_self]
theorem sm_all : ∀ xs ys : List α, PySem.Spec.sameAll (xs.map Dat.dat) (ys.map Dat.dat) = decide (xs = ys)
  | [], [] => by simp [PySem.Spec.sameAll]
  | [], _ :: _ => by simp [PySem.Spec.sameAll]
  | _ :: _, [] => by simp [PySem.Spec.sameAll]
  | x :: xs, y :: ys => by
    simp only [List.map_cons, PySem.Spec.sameAll, Dat.sm x y, sm_all xs ys]
    by_cases h : x = y <;> simp [h]
instance : Dat (List α) where
  dat xs := .list (xs.map Dat.dat)
  dp := Dat.dp α + 1
  rd h := by
    obtain ⟨a, vs, rfl, _, h3, h4⟩ := h
    exact RdS.lst (SqL.of h3) (dat_all h4)
  lay xs := by simp only [PyData.canLay0]; exact lay_all xs
  dep xs := by simp only [PyData.depth]; have := dep_all xs; omega
  nm xs ys := by simp only [SeqAt.noMix]; exact nm_all xs ys
  sm xs ys := by simp only [PySem.Spec.same]; exact sm_all xs ys
theorem RdS.tup {X : Cx} {H : Hp} {a : Addr} {xs : List V} {ds : List PyData} (h : SqT X.K H a xs) (p : Paired (RdS X H) xs ds) : RdS X H (.ref a) (.tuple ds) := fun pins σ s u I r => by
  cases r
  obtain ⟨its, rv, pl, _⟩ := I.tuple h
  obtain ⟨as, h2⟩ := reads_all I rv p
  obtain ⟨o, ho, hc, n, hd⟩ := pl
  exact ⟨_, Reads.tuple ho hc hd (by simpa using h2)⟩
instance : Dat (α × β) where
  dat x := .tuple [Dat.dat x.1, Dat.dat x.2]
  dp := max (Dat.dp α) (Dat.dp β) + 1
  rd h := by
    obtain ⟨a, u, w, rfl, _, h3, h4, h5⟩ := h
    exact RdS.tup (SqT.of h3) (.cons (Dat.rd h4) (.cons (Dat.rd h5) .nil))
  lay x := by simp only [PyData.canLay0, PyData.canLayAll0, Dat.lay, Bool.and_self]
  dep x := by
    have h1 := Dat.dep x.1
    have h2 := Dat.dep x.2
    simp only [PyData.depth, PyData.depthAll]
    omega
  nm x y := by simp only [SeqAt.noMix, SeqAt.noMixAll, Dat.nm, Bool.and_self]
  sm x y := by
    simp only [PySem.Spec.same, PySem.Spec.sameAll, Dat.sm]
    obtain ⟨a, b⟩ := x
    obtain ⟨c, d⟩ := y
    by_cases h1 : a = c <;> by_cases h2 : b = d <;> simp [h1, h2]
class NoN (α : Type) [Rep α] [DecidableEq α] [Dat α] : Prop where
  nn : ∀ x : α, SeqAt.noMix (Dat.dat x) .none = true ∧ SeqAt.noMix .none (Dat.dat x) = true ∧ PySem.Spec.same (Dat.dat x) .none = false ∧ PySem.Spec.same .none (Dat.dat x) = false
instance : NoN (List α) := ⟨fun x => by show SeqAt.noMix (.list _) .none = true ∧ SeqAt.noMix .none (.list _) = true ∧ PySem.Spec.same (.list _) .none = false ∧ PySem.Spec.same .none (.list _) = false; simp [SeqAt.noMix, PySem.Spec.same]⟩
instance [NoN α] : Dat (Option α) where
  dat | none => .none | some x => Dat.dat x
  dp := Dat.dp α
  rd {X R H x v} h := by
    cases x with
    | none =>
      have h : v = .non := h
      subst h
      intro _ _ _ _ _ r
      cases r
      exact ⟨_, Reads.none⟩
    | some y => exact Dat.rd h.2
  lay x := by
    cases x with
    | none => simp [PyData.canLay0]
    | some y => exact Dat.lay y
  dep x := by
    cases x with
    | none => simp [PyData.depth]
    | some y => exact Dat.dep y
  nm x y := by
    cases x <;> cases y
    · simp [SeqAt.noMix]
    · exact (NoN.nn _).2.1
    · exact (NoN.nn _).1
    · exact Dat.nm _ _
  sm x y := by
    cases x with
    | none =>
      cases y with
      | none => simp [PySem.Spec.same]
      | some b =>
        have h2 := (NoN.nn b).2.2.2
        simpa using h2
    | some a =>
      cases y with
      | none =>
        have h2 := (NoN.nn a).2.2.1
        simpa using h2
      | some b =>
        have h2 := Dat.sm a b
        simpa using h2
end
def RdL {α : Type} [Rep α] {D : Type} [Sls D] (T : Addr) (F R : Rg) (H : Hp) (σ : St) (g : D → List α) (v : V) : Prop :=
  ∀ (d'' : D) (F'' R'' : Rg) (H'' : Hp), Ch T F R H F'' R'' H'' → Stt T F'' R'' H'' d'' σ → ∃ a vs, v = .ref a ∧ H'' a = some (.lst vs) ∧ Paired (rp R'' H'') (g d'') vs
def ER (X : Cx) (E : XK) (T : Addr) (e : Expr) {D α : Type} [Sls D] [Rep α] (w : D → ((D → List α) → D → Prop) → (Addr → D → Prop) → Prop) : Prop :=
  ∃ t, PE X e t ∧ ∀ (d : D) (F R : Rg) (σ : St) (H : Hp) (Kn : (D → List α) → D → Prop) (Ke : Addr → D → Prop) (Q : VK), Stt T F R H d σ → w d Kn Ke →
    (∀ g d' v F' R' H', Kn g d' → Ch T F R H F' R' H' → Stt T F' R' H' d' σ → RdL T F' R' H' σ g v → Q v H') →
    (∀ C y d' F' R' H', Ke C d' → Ch T F R H F' R' H' → Stt T F' R' H' d' σ → E (.ref C) (some y) H') → t σ H Q
section
variable {X : Cx} {E : XK} {T : Addr} {D : Type} [Sls D] {pos : Pos} {α β γ : Type} [Rep α] [Rep β] [Rep γ]
theorem er_w {e : Expr} {w : D → (List α → D → Prop) → (Addr → D → Prop) → Prop} (h : EW X E T e w) : ER X E T e (fun (d : D) (Kn : (D → List α) → D → Prop) Ke => w d (fun x d' => Kn (fun _ => x) d') Ke) := by
  obtain ⟨t, h1, h2⟩ := h
  refine ⟨t, h1, fun d F R σ H Kn Ke Q s hw kn ke => h2 d F R σ H _ Ke Q s hw (fun x d' v F' R' H' q c s' r => kn _ d' v F' R' H' q c s' fun d'' F'' R'' H'' c' s'' => ?_) ke⟩
  obtain ⟨a, vs, e1, e2, e3, e4⟩ := s'.val c' r
  exact ⟨a, vs, e1, e3, e4⟩
theorem er_ow {x : Str} (i : Nat) {D' : Type} [Sls D'] [A : At i D (OL α) D'] (he : PE X (.Name x pos) (tVar i)) : ER X E T (.Name x pos) (fun (d : D) (Kn : (D → List α) → D → Prop) _ => Kn (fun d => (A.get d).l) d) := by
  refine ⟨_, he, fun d F R σ H Kn Ke Q s hw kn _ => ?_⟩
  obtain ⟨v, F1, F2, h1, h2, ⟨a, vs, rfl, h4⟩, _⟩ := A.take s.rel
  refine ⟨_, h1, kn _ d _ F R H hw (Ch.refl _ _ _ _) s fun d'' F'' R'' H'' c' s'' => ?_⟩
  obtain ⟨v', M1, M2, k1, k2, ⟨a', vs', e', k4, k5, k6⟩, _⟩ := A.take s''.rel
  rw [h1] at k1
  cases k1
  cases e'
  exact ⟨_, vs', rfl, k5, k6⟩
theorem er_two {a b e : Expr} {r : R2} {wa : D → ((D → List α) → D → Prop) → (Addr → D → Prop) → Prop} {wb : D → (β → D → Prop) → (Addr → D → Prop) → Prop} {c : List α → β → γ → Prop}
    (ha : ER X E T a wa) (hb : EW X E T b wb) (he : ∀ ta tb, PE X a ta → PE X b tb → PE X e (tOp r ta tb))
    (hr : ∀ {R : Rg} {H : Hp} {xs : List α} {y : β} {z : γ} {p : Addr} {us : List V} {v : V} {Q : VK}, H p = some (.lst us) → Paired (rp R H) xs us → rp R H y v → c xs y z → (∀ w, rp R H z w → Q w H) → r (.ref p) v H Q) :
    EW X E T e (fun d Kn Ke => wa d (fun g d1 => wb d1 (fun y d2 => ∃ z, c (g d2) y z ∧ Kn z d2) Ke) Ke) := by
  obtain ⟨ta, a1, a2⟩ := ha
  obtain ⟨tb, b1, b2⟩ := hb
  refine ⟨_, he ta tb a1 b1, fun d F R σ H Kn Ke Q s hw kn ke => ?_⟩
  refine a2 d F R σ H _ Ke _ s hw (fun g d1 u F1 R1 H1 q1 c1 s1 r1 => ?_) ke
  refine b2 d1 F1 R1 σ H1 _ Ke _ s1 q1 (fun y d2 v F2 R2 H2 q2 c2 s2 r2 => ?_) fun C y d' F' R' H' k c s' => ke C y d' F' R' H' k (Ch.trans s s1.tab c1 c) s'
  obtain ⟨z, z1, z2⟩ := q2
  obtain ⟨p, us, rfl, h1, h2⟩ := r1 d2 F2 R2 H2 c2 s2
  exact hr h1 h2 r2 z1 fun w rw => kn _ d2 w F2 R2 H2 z2 (Ch.trans s s1.tab c1 c2) s2 rw
theorem paired_get {R : Rg} {H : Hp} : ∀ {xs : List α} {vs : List V} {i : Nat} {x : α}, Paired (rp R H) xs vs → xs[i]? = some x → ∃ v, vs[i]? = some v ∧ rp R H x v
  | _, _, _, _, .nil, e => by simp at e
  | _, _, 0, _, .cons r _, e => by simp at e; subst e; exact ⟨_, rfl, r⟩
  | _, _, i + 1, x, .cons _ t, e => by
    obtain ⟨u, h1, h2⟩ := paired_get (i := i) (x := x) t (by simpa using e)
    exact ⟨u, by simpa using h1, h2⟩
theorem paired_at {R : Rg} {H : Hp} {xs : List α} {vs : List V} {i : Int} {x : α} (h : Paired (rp R H) xs vs) (e : atI xs i = some x) : ∃ v, atI vs i = some v ∧ rp R H x v := by
  unfold atI at e ⊢
  rw [← Paired.length h]
  cases q : ixN xs.length i with
  | none => rw [q] at e; cases e
  | some j =>
    rw [q] at e
    exact paired_get h e
theorem ew_ix {a b : Expr} {wa : D → ((D → List α) → D → Prop) → (Addr → D → Prop) → Prop} {wb : D → (Int → D → Prop) → (Addr → D → Prop) → Prop} (ha : ER X E T a wa) (hb : EW X E T b wb) (hs : PlainIx b := by intro _ _; rfl) :
    EW X E T (.Subscript a b pos) (fun (d : D) (Kn : α → D → Prop) Ke => wa d (fun g d1 => wb d1 (fun i d2 => ∃ x, atI (g d2) i = some x ∧ Kn x d2) Ke) Ke) :=
  er_two (c := fun xs i x => atI xs i = some x) ha hb (fun ta tb h1 h2 => pe_ix ix_list h1 h2 hs) fun {R H xs y z p us v Q} h1 h2 h3 h4 k => by
    have h3 : v = V.int y := h3
    subst h3
    obtain ⟨w, e, r⟩ := paired_at h2 h4
    exact ⟨_, _, _, _, rfl, rfl, SqL.of h1, e, k _ r⟩
theorem ew_fst {a : Expr} {k : Nat} {p : Pos} {wa : D → (α × β → D → Prop) → (Addr → D → Prop) → Prop} (ha : EW X E T a wa) : EW X E T (.Subscript a (.Constant (.int 0) k p) pos) (fun (d : D) (Kn : α → D → Prop) Ke => wa d (fun x d1 => Kn x.1 d1) Ke) := by
  obtain ⟨ta, a1, a2⟩ := ha
  refine ⟨_, pe_ix ix_tup a1 pe_int (fun _ _ => rfl), fun d F R σ H Kn Ke Q s hw kn ke => a2 d F R σ H _ Ke _ s hw (fun x d1 u F1 R1 H1 q1 c1 s1 r1 => ?_) ke⟩
  obtain ⟨q, v, w, rfl, _, h3, h4, h5⟩ := r1
  exact ⟨_, _, _, v, rfl, rfl, SqT.of h3, rfl, kn _ d1 v F1 R1 H1 q1 c1 s1 h4⟩
theorem ew_snd {a : Expr} {k : Nat} {p : Pos} {wa : D → (α × β → D → Prop) → (Addr → D → Prop) → Prop} (ha : EW X E T a wa) : EW X E T (.Subscript a (.Constant (.int 1) k p) pos) (fun (d : D) (Kn : β → D → Prop) Ke => wa d (fun x d1 => Kn x.2 d1) Ke) := by
  obtain ⟨ta, a1, a2⟩ := ha
  refine ⟨_, pe_ix ix_tup a1 pe_int (fun _ _ => rfl), fun d F R σ H Kn Ke Q s hw kn ke => a2 d F R σ H _ Ke _ s hw (fun x d1 u F1 R1 H1 q1 c1 s1 r1 => ?_) ke⟩
  obtain ⟨q, v, w, rfl, _, h3, h4, h5⟩ := r1
  exact ⟨_, _, _, w, rfl, rfl, SqT.of h3, rfl, kn _ d1 w F1 R1 H1 q1 c1 s1 h5⟩
theorem ew_un {a : Expr} {wa : D → (Option α → D → Prop) → (Addr → D → Prop) → Prop} (ha : EW X E T a wa) : EW X E T a (fun (d : D) (Kn : α → D → Prop) Ke => wa d (fun x d1 => ∃ y, x = some y ∧ Kn y d1) Ke) := by
  obtain ⟨ta, a1, a2⟩ := ha
  refine ⟨_, a1, fun d F R σ H Kn Ke Q s hw kn ke => a2 d F R σ H _ Ke _ s hw (fun x d1 u F1 R1 H1 q1 c1 s1 r1 => ?_) ke⟩
  obtain ⟨y, rfl, q⟩ := q1
  exact kn y d1 u F1 R1 H1 q c1 s1 r1.2
class NV (α : Type) [Rep α] : Prop where
  nv : ∀ {R : Rg} {H : Hp} {x : α} {v : V}, rp R H x v → v ≠ .non
instance : NV (List α) := ⟨fun h z => by obtain ⟨a, u, e, _⟩ := h; rw [e] at z; cases z⟩
theorem ew_some [NV α] {a : Expr} {wa : D → (α → D → Prop) → (Addr → D → Prop) → Prop} (ha : EW X E T a wa) : EW X E T a (fun (d : D) (Kn : Option α → D → Prop) Ke => wa d (fun x d1 => Kn (some x) d1) Ke) := by
  obtain ⟨ta, a1, a2⟩ := ha
  exact ⟨_, a1, fun d F R σ H Kn Ke Q s hw kn ke => a2 d F R σ H _ Ke _ s hw (fun x d1 u F1 R1 H1 q1 c1 s1 r1 => kn (some x) d1 u F1 R1 H1 q1 c1 s1 ⟨NV.nv r1, r1⟩) ke⟩
theorem ew_none {k : Nat} : EW X E T (.Constant .none k pos) (fun (d : D) (Kn : Option α → D → Prop) _ => Kn none d) :=
  ⟨_, pe_non, fun d F R σ H Kn Ke Q s hw kn _ => kn none d _ F R H hw (Ch.refl _ _ _ _) s rfl⟩
theorem ew_len {a : Expr} {p : Pos} {wa : D → ((D → List α) → D → Prop) → (Addr → D → Prop) → Prop} (hg : Gl X "len") (hm : X.mg "len" = none) (ha : ER X E T a wa) (hs : starEach [a] X.env = (false, eval a X.env) :: starEach [] X.env := by rfl) :
    EW X E T (.Call (.Name "len" p) [a] [] pos) (fun (d : D) (Kn : Int → D → Prop) Ke => wa d (fun g d1 => Kn ((g d1).length : Int) d1) Ke) := by
  obtain ⟨ta, a1, a2⟩ := ha
  refine ⟨_, pe_callB call_len_seq hg hm PySem.boot_len (pa_cons a1 pa_nil hs) (he := hs), fun d F R σ H Kn Ke Q s hw kn ke => a2 d F R σ H _ Ke _ s hw (fun g d1 u F1 R1 H1 q1 c1 s1 r1 => ?_) ke⟩
  obtain ⟨q, us, rfl, h1, h2⟩ := r1 d1 F1 R1 H1 (Ch.refl _ _ _ _) s1
  refine ⟨_, _, rfl, .inl (SqL.of h1), kn _ d1 _ F1 R1 H1 q1 c1 s1 ?_⟩
  show V.int _ = V.int _
  rw [Paired.length h2]
end
end WL
namespace WL
open PySem L2
open Rep (rp)
open Ow (sl)
open Sls (rel)
def AL (X : Cx) (E : XK) (T : Addr) (es : List Expr) {D α : Type} [Sls D] [Rep α] (w : D → (List α → D → Prop) → (Addr → D → Prop) → Prop) : Prop :=
  ∃ t, PA X es t ∧ ∀ (d : D) (F R : Rg) (σ : St) (H : Hp) (Kn : List α → D → Prop) (Ke : Addr → D → Prop) (Q : List V → Hp → Prop), Stt T F R H d σ → w d Kn Ke →
    (∀ x d' vs F' R' H', Kn x d' → Ch T F R H F' R' H' → Stt T F' R' H' d' σ → Paired (rp R' H') x vs → vs.length = es.length → Q vs H') →
    (∀ C y d' F' R' H', Ke C d' → Ch T F R H F' R' H' → Stt T F' R' H' d' σ → E (.ref C) (some y) H') → t σ H Q
theorem Stt.vals {T : Addr} {D : Type} [Sls D] {d : D} {σ : St} {F R F' R' : Rg} {H H' : Hp} (s : Stt T F R H d σ) (c : Ch T F R H F' R' H') {α : Type} [Rep α] {x : List α} {v : List V} (h : Paired (rp R H) x v) : Paired (rp R' H') x v :=
  paired_st (c.ext.wide fun a z => z.elim (s.sub a) fun q => by rw [q]; exact s.tabR) h
section
variable {X : Cx} {E : XK} {T : Addr} {D : Type} [Sls D] {pos : Pos} {α β γ : Type} [Rep α] [Rep β] [Rep γ]
theorem al_nil : AL X E T [] (fun (d : D) (Kn : List α → D → Prop) _ => Kn [] d) :=
  ⟨_, pa_nil, fun d F R σ H Kn Ke Q s hw kn _ => kn [] d [] F R H hw (Ch.refl _ _ _ _) s .nil rfl⟩
theorem al_cons {e : Expr} {es : List Expr} {we : D → (α → D → Prop) → (Addr → D → Prop) → Prop} {wr : D → (List α → D → Prop) → (Addr → D → Prop) → Prop} (ha : EW X E T e we) (hr : AL X E T es wr) (hs : starEach (e :: es) X.env = (false, eval e X.env) :: starEach es X.env := by rfl) :
    AL X E T (e :: es) (fun d Kn Ke => we d (fun x d1 => wr d1 (fun xs d2 => Kn (x :: xs) d2) Ke) Ke) := by
  obtain ⟨ta, a1, a2⟩ := ha
  obtain ⟨tr, b1, b2⟩ := hr
  refine ⟨_, pa_cons a1 b1 hs, fun d F R σ H Kn Ke Q s hw kn ke => ?_⟩
  refine a2 d F R σ H _ Ke _ s hw (fun x d1 u F1 R1 H1 q1 c1 s1 r1 => ?_) ke
  refine b2 d1 F1 R1 σ H1 _ Ke _ s1 q1 (fun xs d2 vs F2 R2 H2 q2 c2 s2 r2 l2 => ?_) fun C y d' F' R' H' k c s' => ke C y d' F' R' H' k (Ch.trans s s1.tab c1 c) s'
  exact kn _ d2 (u :: vs) F2 R2 H2 q2 (Ch.trans s s1.tab c1 c2) s2 (.cons (s1.val c2 r1) r2) (by rw [List.length_cons, List.length_cons, l2])
theorem eo_lst {es : List Expr} {w : D → (List α → D → Prop) → (Addr → D → Prop) → Prop} (h : AL X E T es w) (hl : es.length ≤ sizeLine := by decide) : EO X E T (.List es pos) (fun (d : D) (Kn : OL α → D → Prop) Ke => w d (fun xs d' => Kn ⟨xs⟩ d') Ke) := by
  obtain ⟨t, a1, a2⟩ := h
  refine ⟨_, pe_lst a1, fun d F R σ H Kn Ke Q s hw kn ke => a2 d F R σ H _ Ke _ s hw (fun xs d1 vs F1 R1 H1 q1 c1 s1 r1 l1 => ⟨by rw [l1]; exact hl, fun p hp => ?_⟩) ke⟩
  obtain ⟨R', c2, s2, n2⟩ := ol_new s1 hp r1
  exact kn _ d1 _ _ F1 R' _ q1 (Ch.trans s s1.tab c1 c2) s2 n2
theorem ew_pair {a b : Expr} {x1} {wa : D → (α → D → Prop) → (Addr → D → Prop) → Prop} {wb : D → (β → D → Prop) → (Addr → D → Prop) → Prop} (ha : EW X E T a wa) (hb : EW X E T b wb)
    (h1 : starEach [a, b] X.env = (false, eval a X.env) :: starEach [b] X.env := by rfl) (h2 : starEach [b] X.env = (false, eval b X.env) :: starEach [] X.env := by rfl) :
    EW X E T (.Tuple [a, b] x1 pos) (fun (d : D) (Kn : α × β → D → Prop) Ke => wa d (fun x d1 => wb d1 (fun y d2 => Kn (x, y) d2) Ke) Ke) := by
  obtain ⟨ta, a1, a2⟩ := ha
  obtain ⟨tb, b1, b2⟩ := hb
  refine ⟨_, pe_tup (pa_cons a1 (pa_cons b1 pa_nil h2) h1), fun d F R σ H Kn Ke Q s hw kn ke => ?_⟩
  refine a2 d F R σ H _ Ke _ s hw (fun x d1 u F1 R1 H1 q1 c1 s1 r1 => ?_) ke
  refine b2 d1 F1 R1 σ H1 _ Ke _ s1 q1 (fun y d2 v F2 R2 H2 q2 c2 s2 r2 => ⟨(by show 2 ≤ sizeLine; decide), fun p hp => ?_⟩) fun C y d' F' R' H' k c s' => ke C y d' F' R' H' k (Ch.trans s s1.tab c1 c) s'
  obtain ⟨s3, c3, n3⟩ := s2.new (.tup [u, v]) hp
  exact kn _ d2 _ F2 R2 _ q2 (Ch.trans s s1.tab c1 (Ch.trans s1 s2.tab c2 c3)) s3 ⟨p, u, v, rfl, n3, upd_same, s2.val c3 (s1.val c2 r1), s2.val c3 r2⟩
theorem paired_append {R : Rg} {H : Hp} : ∀ {xs ys : List α} {us vs : List V}, Paired (rp R H) xs us → Paired (rp R H) ys vs → Paired (rp R H) (xs ++ ys) (us ++ vs)
  | _, _, _, _, .nil, s => s
  | _, _, _, _, .cons r t, s => .cons r (paired_append t s)
theorem eo_cat {a b : Expr} {wa wb : D → ((D → List α) → D → Prop) → (Addr → D → Prop) → Prop} (ha : ER X E T a wa) (hb : ER X E T b wb) :
    EO X E T (.BinOp a .Add b pos) (fun (d : D) (Kn : OL α → D → Prop) Ke => wa d (fun g d1 => wb d1 (fun k d2 => (g d2).length + (k d2).length ≤ sizeLine ∧ Kn ⟨g d2 ++ k d2⟩ d2) Ke) Ke) := by
  obtain ⟨ta, a1, a2⟩ := ha
  obtain ⟨tb, b1, b2⟩ := hb
  refine ⟨_, pe_op op_cat a1 b1, fun d F R σ H Kn Ke Q s hw kn ke => ?_⟩
  refine a2 d F R σ H _ Ke _ s hw (fun g d1 u F1 R1 H1 q1 c1 s1 r1 => ?_) ke
  refine b2 d1 F1 R1 σ H1 _ Ke _ s1 q1 (fun k d2 v F2 R2 H2 q2 c2 s2 r2 => ?_) fun C y d' F' R' H' k c s' => ke C y d' F' R' H' k (Ch.trans s s1.tab c1 c) s'
  obtain ⟨p, us, rfl, h1, h2⟩ := r1 d2 F2 R2 H2 c2 s2
  obtain ⟨q, vs, rfl, k1, k2⟩ := r2 d2 F2 R2 H2 (Ch.refl _ _ _ _) s2
  refine ⟨p, q, us, vs, rfl, rfl, h1, k1, by rw [← Paired.length h2, ← Paired.length k2]; exact q2.1, fun r hr => ?_⟩
  obtain ⟨R', c3, s3, n3⟩ := ol_new s2 hr (paired_append h2 k2)
  exact kn _ d2 _ _ F2 R' _ q2.2 (Ch.trans s s1.tab c1 (Ch.trans s1 s2.tab c2 c3)) s3 n3
theorem eo_list {a : Expr} {p : Pos} {wa : D → ((D → List α) → D → Prop) → (Addr → D → Prop) → Prop} (hg : Gl X "list") (hm : X.mg "list" = none) (ha : ER X E T a wa) (hs : starEach [a] X.env = (false, eval a X.env) :: starEach [] X.env := by rfl) :
    EO X E T (.Call (.Name "list" p) [a] [] pos) (fun (d : D) (Kn : OL α → D → Prop) Ke => wa d (fun g d1 => Kn ⟨g d1⟩ d1) Ke) := by
  obtain ⟨ta, a1, a2⟩ := ha
  refine ⟨_, pe_callTy call_list_of hg hm PyProof.Rows.boot_list (pa_cons a1 pa_nil hs) (he := hs), fun d F R σ H Kn Ke Q s hw kn ke => a2 d F R σ H _ Ke _ s hw (fun g d1 u F1 R1 H1 q1 c1 s1 r1 => ?_) ke⟩
  obtain ⟨q, us, rfl, h1, h2⟩ := r1 d1 F1 R1 H1 (Ch.refl _ _ _ _) s1
  refine ⟨_, _, rfl, .inl (SqL.of h1), fun l hl => ?_⟩
  obtain ⟨R', c3, s3, n3⟩ := ol_new s1 hl h2
  exact kn _ d1 _ _ F1 R' _ q1 (Ch.trans s s1.tab c1 c3) s3 n3
def ins (x : Int) : List Int → List Int
  | [] => [x]
  | y :: r => if x ≤ y then x :: y :: r else y :: ins x r
def srt : List Int → List Int
  | [] => []
  | x :: r => ins x (srt r)
theorem ins_perm (x : Int) : ∀ r : List Int, (ins x r).Perm (x :: r)
  | [] => List.Perm.refl _
  | y :: r => by
    unfold ins
    split
    · exact List.Perm.refl _
    · exact ((ins_perm x r).cons y).trans (List.Perm.swap x y r)
theorem srt_perm : ∀ r : List Int, (srt r).Perm r
  | [] => List.Perm.refl _
  | x :: r => (ins_perm x (srt r)).trans ((srt_perm r).cons x)
theorem ins_srt (x : Int) : ∀ r : List Int, r.Pairwise (· ≤ ·) → (ins x r).Pairwise (· ≤ ·)
  | [], _ => List.pairwise_singleton _ _
  | y :: r, h => by
    unfold ins
    have h' := List.pairwise_cons.mp h
    split
    · rename_i hxy
      refine List.pairwise_cons.mpr ⟨fun z hz => ?_, h⟩
      rcases List.mem_cons.mp hz with e | e
      · rw [e]; exact hxy
      · exact Int.le_trans hxy (h'.1 z e)
    · rename_i hxy
      refine List.pairwise_cons.mpr ⟨fun z hz => ?_, ins_srt x r h'.2⟩
      rcases List.mem_cons.mp ((ins_perm x r).mem_iff.mp hz) with e | e
      · rw [e]; omega
      · exact h'.1 z e
theorem srt_srt : ∀ r : List Int, (srt r).Pairwise (· ≤ ·)
  | [] => List.Pairwise.nil
  | x :: r => ins_srt x _ (srt_srt r)
theorem sorted_eq : ∀ {xs ys : List Int}, xs.Perm ys → xs.Pairwise (· ≤ ·) → ys.Pairwise (· ≤ ·) → xs = ys
  | [], ys, p, _, _ => (List.Perm.nil_eq p)
  | x :: xs, [], p, _, _ => absurd p.length_eq (by simp)
  | x :: xs, y :: ys, p, h1, h2 => by
    have e : x = y := by
      have a1 : x ∈ y :: ys := p.mem_iff.mp List.mem_cons_self
      have a2 : y ∈ x :: xs := p.mem_iff.mpr List.mem_cons_self
      rcases List.mem_cons.mp a1 with q | q
      · exact q
      · rcases List.mem_cons.mp a2 with z | z
        · exact z.symm
        · have := (List.pairwise_cons.mp h2).1 x q
          have := (List.pairwise_cons.mp h1).1 y z
          omega
    subst e
    rw [sorted_eq p.cons_inv (List.pairwise_cons.mp h1).2 (List.pairwise_cons.mp h2).2]
theorem srt_of {ys xs : List Int} (p : ys.Perm xs) (h : ys.Pairwise (· ≤ ·)) : ys = srt xs := sorted_eq (p.trans (srt_perm xs).symm) h (srt_srt xs)
theorem paired_ints {R : Rg} {H : Hp} : ∀ {xs : List Int} {vs : List V}, Paired (rp R H) xs vs → vs = xs.map V.int
  | _, _, .nil => rfl
  | _, _, .cons h t => by
    have h : _ = _ := h
    rw [h, paired_ints t]
    rfl
theorem ints_paired {R : Rg} {H : Hp} : ∀ xs : List Int, Paired (rp R H) xs (xs.map V.int)
  | [] => .nil
  | x :: r => .cons (rfl : rp R H x (V.int x)) (ints_paired r)
theorem eo_sorted {a : Expr} {p : Pos} {wa : D → ((D → List Int) → D → Prop) → (Addr → D → Prop) → Prop} (hg : Gl X "sorted") (hm : X.mg "sorted" = none) (ha : ER X E T a wa) (hs : starEach [a] X.env = (false, eval a X.env) :: starEach [] X.env := by rfl) :
    EO X E T (.Call (.Name "sorted" p) [a] [] pos) (fun (d : D) (Kn : OL Int → D → Prop) Ke => wa d (fun g d1 => (g d1).length < 64 ∧ Kn ⟨srt (g d1)⟩ d1) Ke) := by
  obtain ⟨ta, a1, a2⟩ := ha
  refine ⟨_, pe_callB call_sortedL hg hm PyProof.Rows.boot_sorted (pa_cons a1 pa_nil hs) (he := hs), fun d F R σ H Kn Ke Q s hw kn ke => a2 d F R σ H _ Ke _ s hw (fun g d1 u F1 R1 H1 q1 c1 s1 r1 => ?_) ke⟩
  obtain ⟨q, us, rfl, h1, h2⟩ := r1 d1 F1 R1 H1 (Ch.refl _ _ _ _) s1
  refine ⟨_, g d1, rfl, SqL.of (by rw [h1, paired_ints h2]), q1.1, fun l ns hl pn sn => ?_⟩
  rw [srt_of pn sn]
  obtain ⟨R', c3, s3, n3⟩ := ol_new s1 hl (ints_paired (R := R1) (H := H1) (srt (g d1)))
  exact kn _ d1 _ _ F1 R' _ q1.2 (Ch.trans s s1.tab c1 c3) s3 n3
def cutL {α : Type} (xs : List α) (lo hi : Option Int) : List α := (xs.drop (HT.sIx xs.length 0 lo)).take (HT.sIx xs.length xs.length hi - HT.sIx xs.length 0 lo)
theorem paired_drop {R : Rg} {H : Hp} : ∀ {xs : List α} {vs : List V} (n : Nat), Paired (rp R H) xs vs → Paired (rp R H) (xs.drop n) (vs.drop n)
  | _, _, 0, r => r
  | _, _, _ + 1, .nil => .nil
  | _, _, n + 1, .cons _ t => paired_drop n t
theorem paired_take {R : Rg} {H : Hp} : ∀ {xs : List α} {vs : List V} (n : Nat), Paired (rp R H) xs vs → Paired (rp R H) (xs.take n) (vs.take n)
  | _, _, 0, _ => .nil
  | _, _, _ + 1, .nil => .nil
  | _, _, n + 1, .cons r t => .cons r (paired_take n t)
theorem paired_cut {R : Rg} {H : Hp} {xs : List α} {vs : List V} (h : Paired (rp R H) xs vs) (lo hi : Option Int) : Paired (rp R H) (cutL xs lo hi) (cutV vs lo hi) := by
  unfold cutL cutV
  rw [← Paired.length h]
  exact paired_take _ (paired_drop _ h)
def OW (X : Cx) (E : XK) (T : Addr) (e : Option Expr) {D : Type} [Sls D] (w : D → (Option Int → D → Prop) → (Addr → D → Prop) → Prop) : Prop :=
  ∃ t, PO X e t ∧ ∀ (d : D) (F R : Rg) (σ : St) (H : Hp) (Kn : Option Int → D → Prop) (Ke : Addr → D → Prop) (Q : Option Int → Hp → Prop), Stt T F R H d σ → w d Kn Ke →
    (∀ x d' F' R' H', Kn x d' → Ch T F R H F' R' H' → Stt T F' R' H' d' σ → Q x H') →
    (∀ C y d' F' R' H', Ke C d' → Ch T F R H F' R' H' → Stt T F' R' H' d' σ → E (.ref C) (some y) H') → t σ H Q
theorem ow_none : OW X E T none (fun (d : D) Kn _ => Kn none d) := ⟨_, po_none, fun d F R σ H Kn Ke Q s hw kn _ => kn none d F R H hw (Ch.refl _ _ _ _) s⟩
theorem ow_some {e : Expr} {w : D → (Int → D → Prop) → (Addr → D → Prop) → Prop} (h : EW X E T e w) : OW X E T (some e) (fun (d : D) Kn Ke => w d (fun i d' => Kn (some i) d') Ke) := by
  obtain ⟨t, a1, a2⟩ := h
  exact ⟨_, po_some a1, fun d F R σ H Kn Ke Q s hw kn ke => a2 d F R σ H _ Ke _ s hw (fun x d1 u F1 R1 H1 q1 c1 s1 r1 => ⟨x, r1, kn _ d1 F1 R1 H1 q1 c1 s1⟩) ke⟩
theorem eo_slice {a : Expr} {lo hi : Option Expr} {p2 : Pos} {wa : D → ((D → List α) → D → Prop) → (Addr → D → Prop) → Prop} {wl wh : D → (Option Int → D → Prop) → (Addr → D → Prop) → Prop} (ha : ER X E T a wa) (hl : OW X E T lo wl) (hh : OW X E T hi wh) :
    EO X E T (.Subscript a (.Slice lo hi none p2) pos) (fun (d : D) (Kn : OL α → D → Prop) Ke => wa d (fun g d1 => wl d1 (fun l d2 => wh d2 (fun h d3 => Kn ⟨cutL (g d3) l h⟩ d3) Ke) Ke) Ke) := by
  obtain ⟨ta, a1, a2⟩ := ha
  obtain ⟨tl, l1, l2⟩ := hl
  obtain ⟨th, h1, h2⟩ := hh
  refine ⟨_, pe_slice sl_list a1 l1 h1, fun d F R σ H Kn Ke Q s hw kn ke => ?_⟩
  refine a2 d F R σ H _ Ke _ s hw (fun g d1 u F1 R1 H1 q1 c1 s1 r1 => ?_) ke
  refine l2 d1 F1 R1 σ H1 _ Ke _ s1 q1 (fun l d2 F2 R2 H2 q2 c2 s2 => ?_) fun C y d' F' R' H' k c s' => ke C y d' F' R' H' k (Ch.trans s s1.tab c1 c) s'
  refine h2 d2 F2 R2 σ H2 _ Ke _ s2 q2 (fun h d3 F3 R3 H3 q3 c3 s3 => ?_) fun C y d' F' R' H' k c s' => ke C y d' F' R' H' k (Ch.trans s s1.tab c1 (Ch.trans s1 s2.tab c2 c)) s'
  obtain ⟨q, us, rfl, k1, k2⟩ := r1 d3 F3 R3 H3 (Ch.trans s1 s2.tab c2 c3) s3
  refine ⟨q, us, rfl, SqL.of k1, fun p hp => ?_⟩
  obtain ⟨R', c4, s4, n4⟩ := ol_new s3 hp (paired_cut k2 l h)
  exact kn _ d3 _ _ F3 R' _ q3 (Ch.trans s s1.tab c1 (Ch.trans s1 s2.tab c2 (Ch.trans s2 s3.tab c3 c4))) s4 n4
def Cm (X : Cx) (op : CmpOp) (g : α → β → Bool) : Prop := ∃ r, OpR X (compareOp op) r ∧ ∀ {R : Rg} {H : Hp} {x : α} {y : β} {u v : V} {Q : VK}, rp R H x u → rp R H y v → Q (.bl (g x y)) H → r u v H Q
def CmL (X : Cx) (op : CmpOp) (g : List α → List β → Bool) : Prop := ∃ r, OpR X (compareOp op) r ∧ ∀ {R : Rg} {H : Hp} {x : List α} {y : List β} {p q : Addr} {us vs : List V} {Q : VK}, H p = some (.lst us) → Paired (rp R H) x us → H q = some (.lst vs) → Paired (rp R H) y vs → Q (.bl (g x y)) H → r (.ref p) (.ref q) H Q
def CmI (X : Cx) (op : CmpOp) (g : α → List β → Bool) : Prop := ∃ r, OpR X (compareOp op) r ∧ ∀ {R : Rg} {H : Hp} {x : α} {y : List β} {q : Addr} {u : V} {vs : List V} {Q : VK}, rp R H x u → H q = some (.lst vs) → Paired (rp R H) y vs → Q (.bl (g x y)) H → r u (.ref q) H Q
theorem cmpI {op : CmpOp} {g : Int → Int → Bool} (ho : OpR X (compareOp op) (rI0 fun i j => .bl (g i j))) : Cm X op g := ⟨_, ho, fun h1 h2 k => ⟨_, _, h1, h2, k⟩⟩
theorem cm_gt : Cm X .Gt (fun i j : Int => decide (j < i)) := cmpI op_gt
theorem cm_ge : Cm X .GtE (fun i j : Int => decide (j ≤ i)) := cmpI op_ge
theorem cm_eq [DecidableEq α] [Scal α] : Cm X .Eq (fun x y : α => decide (x = y)) := ⟨_, op_eq, fun h1 h2 k => ⟨(Scal.sc h1 h2).1, by rw [(Scal.sc h1 h2).2]; exact k⟩⟩
theorem cm_ne [DecidableEq α] [Scal α] : Cm X .NotEq (fun x y : α => !decide (x = y)) := ⟨_, op_ne, fun h1 h2 k => ⟨(Scal.sc h1 h2).1, by rw [(Scal.sc h1 h2).2]; exact k⟩⟩
theorem cm_isN : Cm X .Is (fun (x : Option α) (_ : Unit) => x.isNone) := ⟨_, op_isN, fun h1 h2 k => ⟨h2, by rw [opt_non h1]; exact k⟩⟩
theorem shaped_dat [DecidableEq α] [Dat α] (hd : Dat.dp α ≤ 64) (x : α) : SeqAt.shaped (Dat.dat x) = true := by
  show (PyData.canLay0 (Dat.dat x) && decide ((Dat.dat x).depth ≤ 64)) = true
  rw [Bool.and_eq_true]
  exact ⟨Dat.lay x, decide_eq_true (Nat.le_trans (Dat.dep x) hd)⟩
theorem cm_neD [DecidableEq α] [Dat α] (hu : X.A.units + 64 < cLine) (hd : Dat.dp α ≤ 64 := by decide) : Cm X .NotEq (fun x y : α => !decide (x = y)) := ⟨_, op_neD hu, fun {R H x y u v Q} h1 h2 k => ⟨_, _, Dat.rd h1, Dat.rd h2, shaped_dat hd x, shaped_dat hd y, Dat.nm x y, by rw [Dat.sm]; exact k⟩⟩
theorem cm_eqL [DecidableEq α] [Dat α] (hu : X.A.units + 64 < cLine) (hd : Dat.dp (List α) ≤ 64 := by decide) : CmL X .Eq (fun x y : List α => decide (x = y)) := ⟨_, op_eqD hu, fun {R H x y p q us vs Q} h1 h2 h3 h4 k => ⟨_, _, RdS.lst (SqL.of h1) (dat_all h2), RdS.lst (SqL.of h3) (dat_all h4), shaped_dat hd x, shaped_dat hd y, Dat.nm x y, by
  have := Dat.sm x y
  rw [show PySem.Spec.same (.list (x.map Dat.dat)) (.list (y.map Dat.dat)) = decide (x = y) from this]; exact k⟩⟩
theorem cm_neL [DecidableEq α] [Dat α] (hu : X.A.units + 64 < cLine) (hd : Dat.dp (List α) ≤ 64 := by decide) : CmL X .NotEq (fun x y : List α => !decide (x = y)) := ⟨_, op_neD hu, fun {R H x y p q us vs Q} h1 h2 h3 h4 k => ⟨_, _, RdS.lst (SqL.of h1) (dat_all h2), RdS.lst (SqL.of h3) (dat_all h4), shaped_dat hd x, shaped_dat hd y, Dat.nm x y, by
  have := Dat.sm x y
  rw [show PySem.Spec.same (.list (x.map Dat.dat)) (.list (y.map Dat.dat)) = decide (x = y) from this]; exact k⟩⟩
theorem inV_ints (k : Int) (ys : List Int) : inV (.int k) (ys.map V.int) = decide (k ∈ ys) := by
  unfold inV
  rw [List.any_map, Bool.eq_iff_iff, List.any_eq_true, decide_eq_true_eq]
  constructor
  · rintro ⟨y, hy, e⟩
    have : y = k := by simpa [eqV] using e
    rw [← this]; exact hy
  · intro h
    exact ⟨k, h, by simp [eqV]⟩
theorem flat_ints (ys : List Int) : (ys.map V.int).all flatV = true := by
  rw [List.all_map, List.all_eq_true]
  intro x _
  rfl
theorem cm_notin : CmI X .NotIn (fun (x : Int) (ys : List Int) => !decide (x ∈ ys)) := ⟨_, op_notIn_seq, fun {R H x y q u vs Q} h1 h2 h3 k => by
  have h1 : u = V.int x := h1
  subst h1
  refine ⟨q, vs, rfl, .inl (SqL.of h2), rfl, by rw [paired_ints h3]; exact flat_ints y, ?_⟩
  rw [paired_ints h3, inV_ints]
  exact k⟩
theorem tw_cm {a b : Expr} {op : CmpOp} {g : α → β → Bool} {wa : D → (α → D → Prop) → (Addr → D → Prop) → Prop} {wb : D → (β → D → Prop) → (Addr → D → Prop) → Prop} (C : Cm X op g) (ha : EW X E T a wa) (hb : EW X E T b wb) (hm : behindInMarks op b = false) :
    TW X E T (.Compare a [op] [b] pos) (fun (d : D) Kn Ke => wa d (fun x d1 => wb d1 (fun y d2 => Kn (g x y) d2) Ke) Ke) := by
  obtain ⟨r, o1, o2⟩ := C
  obtain ⟨ta, a1, a2⟩ := ha
  obtain ⟨tb, b1, b2⟩ := hb
  refine ⟨_, pt_cmpR o1 a1 b1 hm, fun d F R σ H Kn Ke Q s hw kn ke => ?_⟩
  refine a2 d F R σ H _ Ke _ s hw (fun x d1 u F1 R1 H1 q1 c1 s1 r1 => ?_) ke
  refine b2 d1 F1 R1 σ H1 _ Ke _ s1 q1 (fun y d2 v F2 R2 H2 q2 c2 s2 r2 => ?_) fun C y d' F' R' H' k c s' => ke C y d' F' R' H' k (Ch.trans s s1.tab c1 c) s'
  exact o2 (s1.val c2 r1) r2 ⟨_, rfl, kn _ d2 F2 R2 H2 q2 (Ch.trans s s1.tab c1 c2) s2⟩
theorem ew_cm {a b : Expr} {op : CmpOp} {g : α → β → Bool} {wa : D → (α → D → Prop) → (Addr → D → Prop) → Prop} {wb : D → (β → D → Prop) → (Addr → D → Prop) → Prop} (C : Cm X op g) (ha : EW X E T a wa) (hb : EW X E T b wb) (hm : behindInMarks op b = false) :
    EW X E T (.Compare a [op] [b] pos) (fun (d : D) (Kn : Bool → D → Prop) Ke => wa d (fun x d1 => wb d1 (fun y d2 => Kn (g x y) d2) Ke) Ke) := by
  obtain ⟨r, o1, o2⟩ := C
  obtain ⟨ta, a1, a2⟩ := ha
  obtain ⟨tb, b1, b2⟩ := hb
  refine ⟨_, pe_cmpR o1 a1 b1 hm, fun d F R σ H Kn Ke Q s hw kn ke => ?_⟩
  refine a2 d F R σ H _ Ke _ s hw (fun x d1 u F1 R1 H1 q1 c1 s1 r1 => ?_) ke
  refine b2 d1 F1 R1 σ H1 _ Ke _ s1 q1 (fun y d2 v F2 R2 H2 q2 c2 s2 r2 => ?_) fun C y d' F' R' H' k c s' => ke C y d' F' R' H' k (Ch.trans s s1.tab c1 c) s'
  exact o2 (s1.val c2 r1) r2 (kn _ d2 _ F2 R2 H2 q2 (Ch.trans s s1.tab c1 c2) s2 rfl)
theorem tw_cmL {a b : Expr} {op : CmpOp} {g : List α → List β → Bool} {wa : D → ((D → List α) → D → Prop) → (Addr → D → Prop) → Prop} {wb : D → ((D → List β) → D → Prop) → (Addr → D → Prop) → Prop} (C : CmL X op g) (ha : ER X E T a wa) (hb : ER X E T b wb) (hm : behindInMarks op b = false) :
    TW X E T (.Compare a [op] [b] pos) (fun (d : D) Kn Ke => wa d (fun x d1 => wb d1 (fun y d2 => Kn (g (x d2) (y d2)) d2) Ke) Ke) := by
  obtain ⟨r, o1, o2⟩ := C
  obtain ⟨ta, a1, a2⟩ := ha
  obtain ⟨tb, b1, b2⟩ := hb
  refine ⟨_, pt_cmpR o1 a1 b1 hm, fun d F R σ H Kn Ke Q s hw kn ke => ?_⟩
  refine a2 d F R σ H _ Ke _ s hw (fun x d1 u F1 R1 H1 q1 c1 s1 r1 => ?_) ke
  refine b2 d1 F1 R1 σ H1 _ Ke _ s1 q1 (fun y d2 v F2 R2 H2 q2 c2 s2 r2 => ?_) fun C y d' F' R' H' k c s' => ke C y d' F' R' H' k (Ch.trans s s1.tab c1 c) s'
  obtain ⟨p, us, rfl, h1, h2⟩ := r1 d2 F2 R2 H2 c2 s2
  obtain ⟨q, vs, rfl, k1, k2⟩ := r2 d2 F2 R2 H2 (Ch.refl _ _ _ _) s2
  exact o2 h1 h2 k1 k2 ⟨_, rfl, kn _ d2 F2 R2 H2 q2 (Ch.trans s s1.tab c1 c2) s2⟩
theorem ew_cmL {a b : Expr} {op : CmpOp} {g : List α → List β → Bool} {wa : D → ((D → List α) → D → Prop) → (Addr → D → Prop) → Prop} {wb : D → ((D → List β) → D → Prop) → (Addr → D → Prop) → Prop} (C : CmL X op g) (ha : ER X E T a wa) (hb : ER X E T b wb) (hm : behindInMarks op b = false) :
    EW X E T (.Compare a [op] [b] pos) (fun (d : D) (Kn : Bool → D → Prop) Ke => wa d (fun x d1 => wb d1 (fun y d2 => Kn (g (x d2) (y d2)) d2) Ke) Ke) := by
  obtain ⟨r, o1, o2⟩ := C
  obtain ⟨ta, a1, a2⟩ := ha
  obtain ⟨tb, b1, b2⟩ := hb
  refine ⟨_, pe_cmpR o1 a1 b1 hm, fun d F R σ H Kn Ke Q s hw kn ke => ?_⟩
  refine a2 d F R σ H _ Ke _ s hw (fun x d1 u F1 R1 H1 q1 c1 s1 r1 => ?_) ke
  refine b2 d1 F1 R1 σ H1 _ Ke _ s1 q1 (fun y d2 v F2 R2 H2 q2 c2 s2 r2 => ?_) fun C y d' F' R' H' k c s' => ke C y d' F' R' H' k (Ch.trans s s1.tab c1 c) s'
  obtain ⟨p, us, rfl, h1, h2⟩ := r1 d2 F2 R2 H2 c2 s2
  obtain ⟨q, vs, rfl, k1, k2⟩ := r2 d2 F2 R2 H2 (Ch.refl _ _ _ _) s2
  exact o2 h1 h2 k1 k2 (kn _ d2 _ F2 R2 H2 q2 (Ch.trans s s1.tab c1 c2) s2 rfl)
theorem tw_cmI {a b : Expr} {op : CmpOp} {g : α → List β → Bool} {wa : D → (α → D → Prop) → (Addr → D → Prop) → Prop} {wb : D → ((D → List β) → D → Prop) → (Addr → D → Prop) → Prop} (C : CmI X op g) (ha : EW X E T a wa) (hb : ER X E T b wb) (hm : behindInMarks op b = false) :
    TW X E T (.Compare a [op] [b] pos) (fun (d : D) Kn Ke => wa d (fun x d1 => wb d1 (fun y d2 => Kn (g x (y d2)) d2) Ke) Ke) := by
  obtain ⟨r, o1, o2⟩ := C
  obtain ⟨ta, a1, a2⟩ := ha
  obtain ⟨tb, b1, b2⟩ := hb
  refine ⟨_, pt_cmpR o1 a1 b1 hm, fun d F R σ H Kn Ke Q s hw kn ke => ?_⟩
  refine a2 d F R σ H _ Ke _ s hw (fun x d1 u F1 R1 H1 q1 c1 s1 r1 => ?_) ke
  refine b2 d1 F1 R1 σ H1 _ Ke _ s1 q1 (fun y d2 v F2 R2 H2 q2 c2 s2 r2 => ?_) fun C y d' F' R' H' k c s' => ke C y d' F' R' H' k (Ch.trans s s1.tab c1 c) s'
  obtain ⟨q, vs, rfl, k1, k2⟩ := r2 d2 F2 R2 H2 (Ch.refl _ _ _ _) s2
  exact o2 (s1.val c2 r1) k1 k2 ⟨_, rfl, kn _ d2 F2 R2 H2 q2 (Ch.trans s s1.tab c1 c2) s2⟩
theorem tw_val {e : Expr} {w : D → (Bool → D → Prop) → (Addr → D → Prop) → Prop} (h : EW X E T e w) (he : ∀ whole, isTrue e X.env whole = (do let v ← whole; standAt e.pos; holding [v] (truthy v)) := by intro _; rfl) : TW X E T e w := by
  obtain ⟨t, a1, a2⟩ := h
  exact ⟨_, pt_val a1 he, fun d F R σ H Kn Ke Q s hw kn ke => a2 d F R σ H _ Ke _ s hw (fun x d1 u F1 R1 H1 q1 c1 s1 r1 => ⟨x, r1, kn _ d1 F1 R1 H1 q1 c1 s1⟩) ke⟩
theorem tw_not {e : Expr} {w : D → (Bool → D → Prop) → (Addr → D → Prop) → Prop} (h : TW X E T e w) : TW X E T (.UnaryOp .Not e pos) (fun d Kn Ke => w d (fun b d1 => Kn (!b) d1) Ke) := by
  obtain ⟨t, a1, a2⟩ := h
  exact ⟨_, pt_not a1, fun d F R σ H Kn Ke Q s hw kn ke => a2 d F R σ H _ Ke _ s hw (fun x d1 F1 R1 H1 q1 c1 s1 => kn _ d1 F1 R1 H1 q1 c1 s1) ke⟩
def WW (X : Cx) (E : XK) (T : Addr) (e : Expr) {D : Type} [Sls D] (w : D → (Bool → D → Prop) → (Addr → D → Prop) → Prop) : Prop :=
  ∃ t, PW X e t ∧ ∀ (d : D) (F R : Rg) (σ : St) (H : Hp) (Kn : Bool → D → Prop) (Ke : Addr → D → Prop) (Q : Bool → Hp → Prop), Stt T F R H d σ → w d Kn Ke →
    (∀ x d' F' R' H', Kn x d' → Ch T F R H F' R' H' → Stt T F' R' H' d' σ → Q x H') →
    (∀ C y d' F' R' H', Ke C d' → Ch T F R H F' R' H' → Stt T F' R' H' d' σ → E (.ref C) (some y) H') → t σ H Q
theorem tw_w {e : Expr} {w : D → (Bool → D → Prop) → (Addr → D → Prop) → Prop} (h : WW X E T e w) : TW X E T e w := let ⟨t, a1, a2⟩ := h; ⟨t, a1.pt, a2⟩
theorem ww_and1 {a : Expr} {w : D → (Bool → D → Prop) → (Addr → D → Prop) → Prop} (h : TW X E T a w) : WW X E T (.BoolOp .And [a] pos) w := let ⟨t, a1, a2⟩ := h; ⟨_, pw_and1 a1, a2⟩
theorem ww_or1 {a : Expr} {w : D → (Bool → D → Prop) → (Addr → D → Prop) → Prop} (h : TW X E T a w) : WW X E T (.BoolOp .Or [a] pos) w := let ⟨t, a1, a2⟩ := h; ⟨_, pw_or1 a1, a2⟩
theorem ww_and {a b : Expr} {rest : List Expr} {wa wb : D → (Bool → D → Prop) → (Addr → D → Prop) → Prop} (ha : TW X E T a wa) (hb : WW X E T (.BoolOp .And (b :: rest) pos) wb) : WW X E T (.BoolOp .And (a :: b :: rest) pos) (fun d Kn Ke => wa d (fun x d1 => if x = true then wb d1 Kn Ke else Kn false d1) Ke) := by
  obtain ⟨ta, a1, a2⟩ := ha
  obtain ⟨tb, b1, b2⟩ := hb
  refine ⟨_, pw_and a1 b1, fun d F R σ H Kn Ke Q s hw kn ke => ?_⟩
  refine a2 d F R σ H _ Ke _ s hw (fun x d1 F1 R1 H1 q1 c1 s1 => ?_) ke
  cases x with
  | true => exact b2 d1 F1 R1 σ H1 _ Ke _ s1 q1 (fun y d2 F2 R2 H2 q2 c2 s2 => kn _ d2 F2 R2 H2 q2 (Ch.trans s s1.tab c1 c2) s2) fun C y d' F' R' H' k c s' => ke C y d' F' R' H' k (Ch.trans s s1.tab c1 c) s'
  | false => exact kn _ d1 F1 R1 H1 q1 c1 s1
theorem ww_or {a b : Expr} {rest : List Expr} {wa wb : D → (Bool → D → Prop) → (Addr → D → Prop) → Prop} (ha : TW X E T a wa) (hb : WW X E T (.BoolOp .Or (b :: rest) pos) wb) : WW X E T (.BoolOp .Or (a :: b :: rest) pos) (fun d Kn Ke => wa d (fun x d1 => if x = true then Kn true d1 else wb d1 Kn Ke) Ke) := by
  obtain ⟨ta, a1, a2⟩ := ha
  obtain ⟨tb, b1, b2⟩ := hb
  refine ⟨_, pw_or a1 b1, fun d F R σ H Kn Ke Q s hw kn ke => ?_⟩
  refine a2 d F R σ H _ Ke _ s hw (fun x d1 F1 R1 H1 q1 c1 s1 => ?_) ke
  cases x with
  | false => exact b2 d1 F1 R1 σ H1 _ Ke _ s1 q1 (fun y d2 F2 R2 H2 q2 c2 s2 => kn _ d2 F2 R2 H2 q2 (Ch.trans s s1.tab c1 c2) s2) fun C y d' F' R' H' k c s' => ke C y d' F' R' H' k (Ch.trans s s1.tab c1 c) s'
  | true => exact kn _ d1 F1 R1 H1 q1 c1 s1
theorem ew_bop1 {a : Expr} {op} {w : D → (Bool → D → Prop) → (Addr → D → Prop) → Prop} (h : EW X E T a w) : EW X E T (.BoolOp op [a] pos) w := let ⟨t, a1, a2⟩ := h; ⟨_, pe_one a1, a2⟩
theorem ew_and {a b : Expr} {rest : List Expr} {wa wb : D → (Bool → D → Prop) → (Addr → D → Prop) → Prop} (ha : EW X E T a wa) (hb : EW X E T (.BoolOp .And (b :: rest) pos) wb) : EW X E T (.BoolOp .And (a :: b :: rest) pos) (fun (d : D) (Kn : Bool → D → Prop) Ke => wa d (fun x d1 => if x = true then wb d1 Kn Ke else Kn false d1) Ke) := by
  obtain ⟨ta, a1, a2⟩ := ha
  obtain ⟨tb, b1, b2⟩ := hb
  refine ⟨_, pe_and a1 b1, fun d F R σ H Kn Ke Q s hw kn ke => ?_⟩
  refine a2 d F R σ H _ Ke _ s hw (fun x d1 u F1 R1 H1 q1 c1 s1 r1 => ⟨x, r1, ?_⟩) ke
  cases x with
  | true => exact b2 d1 F1 R1 σ H1 _ Ke _ s1 q1 (fun y d2 v F2 R2 H2 q2 c2 s2 r2 => kn _ d2 v F2 R2 H2 q2 (Ch.trans s s1.tab c1 c2) s2 r2) fun C y d' F' R' H' k c s' => ke C y d' F' R' H' k (Ch.trans s s1.tab c1 c) s'
  | false => exact kn _ d1 _ F1 R1 H1 q1 c1 s1 rfl
theorem ew_not {a : Expr} {w : D → (Bool → D → Prop) → (Addr → D → Prop) → Prop} (h : EW X E T a w) : EW X E T (.UnaryOp .Not a pos) (fun (d : D) (Kn : Bool → D → Prop) Ke => w d (fun b d1 => Kn (!b) d1) Ke) := by
  obtain ⟨t, a1, a2⟩ := h
  exact ⟨_, pe_not a1, fun d F R σ H Kn Ke Q s hw kn ke => a2 d F R σ H _ Ke _ s hw (fun x d1 u F1 R1 H1 q1 c1 s1 r1 => ⟨x, r1, kn _ d1 _ F1 R1 H1 q1 c1 s1 rfl⟩) ke⟩
end
end WL
namespace WL
variable [L2.GX]
open PySem L2
open Rep (rp)
open Ow (sl)
open Sls (rel)
class Frl (τ : Type) [Ow τ] : Prop where
  fr : ∀ {F R L : Rg} {H : Hp} {x : τ} {v : Option V}, sl F R H x v → (∀ a, L a → ∃ us, H a = some (.lst us)) → sl F (fun a => R a ∨ L a) H x v
class Nol (α : Type) [Rep α] : Prop where
  no : ∀ {R L : Rg} {H : Hp} {x : α} {v : V}, rp R H x v → (∀ a, L a → ∃ us, H a = some (.lst us)) → rp (fun a => R a ∨ L a) H x v
instance : Nol Int := ⟨fun h _ => h⟩
instance : Nol Bool := ⟨fun h _ => h⟩
instance : Nol Str := ⟨fun h _ => h⟩
theorem nol_all {α : Type} [Rep α] [Nol α] {R L : Rg} {H : Hp} (k : ∀ a, L a → ∃ us, H a = some (.lst us)) : ∀ {xs : List α} {vs : List V}, Paired (rp R H) xs vs → Paired (rp (fun a => R a ∨ L a) H) xs vs
  | _, _, .nil => .nil
  | _, _, .cons h t => .cons (Nol.no h k) (nol_all k t)
instance {α : Type} [Rep α] [Nol α] : Frl α := ⟨fun {F R L H x v} h k => by
  obtain ⟨h1, u, e, h2⟩ := h
  exact ⟨h1, u, e, Nol.no h2 k⟩⟩
instance {α : Type} [Rep α] [Nol α] : Frl (OL α) := ⟨fun {F R L H x v} h k => by
  obtain ⟨a, vs, h1, h2, h3, h4⟩ := h
  exact ⟨a, vs, h1, h2, h3, nol_all k h4⟩⟩
instance : Frl Un := ⟨fun h _ => h⟩
class FrS (P : Type) [Sls P] : Prop where
  fr : ∀ {F R L : Rg} {H : Hp} {x : P} {v : St}, rel F R H x v → (∀ a, L a → ∃ us, H a = some (.lst us)) → rel F (fun a => R a ∨ L a) H x v
instance : FrS Unit := ⟨fun h _ => h⟩
instance {τ P : Type} [Ow τ] [Sls P] [Frl τ] [FrS P] : FrS (τ × P) := ⟨fun h k => by
  obtain ⟨v, σ', F1, F2, h1, h2, h3, h4⟩ := h
  exact ⟨v, σ', F1, F2, h1, h2, Frl.fr h3 k, FrS.fr h4 k⟩⟩
class LsO (P : Type) [Sls P] : Prop where
  ls : ∀ {F R : Rg} {H : Hp} {x : P} {v : St}, rel F R H x v → ∀ a, F a → ∃ us, H a = some (.lst us)
instance : LsO Unit := ⟨fun h a z => absurd z (h.2 a)⟩
instance {α P : Type} [Rep α] [Sls P] [LsO P] : LsO (OL α × P) := ⟨fun {F R H x v} h a z => by
  obtain ⟨v, σ', F1, F2, h1, h2, ⟨b, vs, k1, k2, k3, k4⟩, h4⟩ := h
  rcases (h2.all a).mp z with q | q
  · rw [(k2 a).mp q]; exact ⟨vs, k3⟩
  · exact LsO.ls h4 a q⟩
abbrev Wo (R L : Rg) : Rg := fun a => R a ∧ ¬L a
theorem ext_wo (R L : Rg) (H : Hp) : Ext (fun _ => False) R H (Wo R L) H := ⟨fun _ _ _ h => h, fun a h => .inl h.1⟩
theorem ext_wo2 {R L L' : Rg} {H : Hp} (h : ∀ a, L a → L' a) : Ext (fun _ => False) (Wo R L) H (Wo R L') H := ⟨fun _ _ _ h => h, fun a z => .inl ⟨z.1, fun q => z.2 (h a q)⟩⟩
theorem Sls.wk {D : Type} [Sls D] {F R R' : Rg} {H : Hp} {d : D} {σ : St} (h : rel F R H d σ) (e : Ext (fun _ => False) R H R' H) : rel F R' H d σ := Sls.st h e (fun _ z => z.elim) (fun _ _ z => z)
theorem Ow.wk {τ : Type} [Ow τ] {F R R' : Rg} {H : Hp} {d : τ} {σ : Option V} (h : sl F R H d σ) (e : Ext (fun _ => False) R H R' H) : sl F R' H d σ := Ow.st h e (fun _ z => z.elim) (fun _ _ z => z)
class Lb (Lc τ PO : Type) [Sls Lc] [Ow τ] [Sls PO] : Prop where
  fr : ∀ {F R L R0 : Rg} {H : Hp} {x : τ} {v : Option V} {l : Lc} {us : St}, rel L R0 H l us → sl F R H x v → sl F (fun a => R a ∨ L a) H x v
  fs : ∀ {F R L R0 : Rg} {H : Hp} {x : PO} {v : St} {l : Lc} {us : St}, rel L R0 H l us → rel F R H x v → rel F (fun a => R a ∨ L a) H x v
instance {Lc τ PO : Type} [Sls Lc] [Ow τ] [Sls PO] [Frl τ] [FrS PO] [LsO Lc] : Lb Lc τ PO := ⟨fun h k => Frl.fr k (LsO.ls h), fun h k => FrS.fr k (LsO.ls h)⟩
theorem ext_or {R L : Rg} {H : Hp} (h : ∀ a, ¬L a) : Ext (fun _ => False) R H (fun a => R a ∨ L a) H := ⟨fun _ _ _ h => h, fun a z => z.elim .inl fun q => absurd q (h a)⟩
instance (priority := high) {τ PO : Type} [Ow τ] [Sls PO] : Lb Unit τ PO := ⟨fun h k => Ow.wk k (ext_or h.2), fun h k => Sls.wk k (ext_or h.2)⟩
structure Three (F F1 F2 F3 : Rg) : Prop where
  all : ∀ a, F a ↔ F1 a ∨ F2 a ∨ F3 a
  d12 : ∀ a, F1 a → F2 a → False
  d13 : ∀ a, F1 a → F3 a → False
  d23 : ∀ a, F2 a → F3 a → False
def AL2 (X : Cx) (E : XK) (T : Addr) (es : List Expr) {D P PO B Lc : Type} [Sls D] [Sls P] [Sls PO] [Sls B] [Sls Lc] (mrg : B → Lc → PO → D) (w : D → (P → B → Lc → Prop) → (Addr → D → Prop) → Prop) : Prop :=
  ∃ t, PA X es t ∧ ∀ (d : D) (F R : Rg) (σ : St) (H : Hp) (Kn : P → B → Lc → Prop) (Ke : Addr → D → Prop) (Q : List V → Hp → Prop), Stt T F R H d σ → w d Kn Ke →
    (∀ p b l vs us F1 F2 L F' R' H', Kn p b l → Ch T F R H F' R' H' → Std T F' R' H' → Three F' F1 F2 L → rel F1 (Wo R' L) H' p (vs.map some) → rel F2 R' H' b σ → rel L R' H' l us →
      (∀ b' l' G1 G2 G3 F'' R'' H'' p', rel G1 R'' H'' p' (vs.map some) → rel G2 R'' H'' b' σ → rel G3 R'' H'' l' us → Three F'' G1 G2 G3 → rel F'' R'' H'' (mrg b' l' p') σ) → Q vs H') →
    (∀ C y d' F' R' H', Ke C d' → Ch T F R H F' R' H' → Stt T F' R' H' d' σ → E (.ref C) (some y) H') → t σ H Q
section
variable {X : Cx} {E : XK} {T : Addr} {D : Type} [Sls D] {pos : Pos}
theorem al2_nil : AL2 X E T [] (fun (b : D) (_ : Unit) (_ : Unit) => b) (fun (d : D) (Kn : Unit → D → Unit → Prop) _ => Kn () d ()) := by
  refine ⟨_, pa_nil, fun d F R σ H Kn Ke Q s hw kn _ => ?_⟩
  exact kn () d () [] [] (fun _ => False) F (fun _ => False) F R H hw (Ch.refl _ _ _ _) s.std ⟨fun a => ⟨fun z => .inr (.inl z), fun z => z.elim (fun q => q.elim) fun z => z.elim id fun q => q.elim⟩, fun _ z => z.elim, fun _ z => z.elim, fun _ _ z => z⟩ ⟨rfl, fun _ z => z⟩ s.rel ⟨rfl, fun _ z => z⟩ fun b' l' G1 G2 G3 F'' R'' H'' p' h1 h2 h3 t => Sls.fq h2 fun a => ⟨fun z => (t.all a).mpr (.inr (.inl z)), fun z => ((t.all a).mp z).elim (fun q => absurd q (h1.2 a)) fun z => z.elim id fun q => absurd q (h3.2 a)⟩
theorem al2_im {e : Expr} {es : List Expr} {α P PO B Lc : Type} [Rep α] [Sls P] [Sls PO] [Sls B] [Sls Lc] {mrg : B → Lc → PO → D} {we : D → (α → D → Prop) → (Addr → D → Prop) → Prop} {wr : D → (P → B → Lc → Prop) → (Addr → D → Prop) → Prop}
    (ha : EW X E T e we) (hr : AL2 X E T es mrg wr) (hs : starEach (e :: es) X.env = (false, eval e X.env) :: starEach es X.env := by rfl) :
    AL2 X E T (e :: es) (fun (b : B) (l : Lc) (p : Un × PO) => mrg b l p.2) (fun (d : D) (Kn : α × P → B → Lc → Prop) Ke => we d (fun x d1 => wr d1 (fun p b l => Kn (x, p) b l) Ke) Ke) := by
  obtain ⟨ta, a1, a2⟩ := ha
  obtain ⟨tr, b1, b2⟩ := hr
  refine ⟨_, pa_cons a1 b1 hs, fun d F R σ H Kn Ke Q s hw kn ke => ?_⟩
  refine a2 d F R σ H _ Ke _ s hw (fun x d1 u F1 R1 H1 q1 c1 s1 r1 => ?_) ke
  refine b2 d1 F1 R1 σ H1 _ Ke _ s1 q1 (fun p b l vs us G1 G2 L F' R' H' q2 c2 s2 t2 h1 h2 hl k => ?_) fun C y d' F' R' H' k c s' => ke C y d' F' R' H' k (Ch.trans s s1.tab c1 c) s'
  refine kn (x, p) b l (u :: vs) us G1 G2 L F' R' H' q2 (Ch.trans s s1.tab c1 c2) s2 t2 ⟨some u, vs.map some, fun _ => False, G1, rfl, two_nil G1, ⟨fun _ z => z, u, rfl, Rep.st (s1.val c2 r1) ((ext_wo R' L H').wide fun _ z => z.elim)⟩, h1⟩ h2 hl fun b' l' L1 L2 L3 F'' R'' H'' p' h3 h4 h5 t => ?_
  obtain ⟨v', σ', M1, M2, z1, z2, z3, z4⟩ := h3
  injection z1 with _ z5
  subst z5
  exact k b' l' L1 L2 L3 F'' R'' H'' p'.2 (Sls.fq z4 (two_eq z2 z3)) h4 h5 t
theorem al2_ow {x : Str} {es : List Expr} {i : Nat} {τ D1 P PO B B1 Lc : Type} [Ow τ] [Hs τ] [Sls D1] [Sls P] [Sls PO] [Sls B] [Sls B1] [Sls Lc] {mrg : B → Lc → PO → D} {wr : D → (P → B → Lc → Prop) → (Addr → D → Prop) → Prop}
    [A0 : At i D τ D1] [A : At i B τ B1] [U : Pt i B1 τ B] (he : PE X (.Name x pos) (tVar i)) (hr : AL2 X E T es mrg wr) (hs : starEach (.Name x pos :: es) X.env = (false, eval (.Name x pos) X.env) :: starEach es X.env := by rfl) :
    AL2 X E T (.Name x pos :: es) (fun (b : B1) (l : Lc) (p : τ × PO) => mrg (U.put b p.1) l p.2) (fun (d : D) (Kn : τ × P → B1 → Lc → Prop) Ke => wr d (fun p b l => Kn (A.get b, p) (A.hole b) l) Ke) := by
  obtain ⟨tr, b1, b2⟩ := hr
  refine ⟨_, pa_cons he b1 hs, fun d F R σ H Kn Ke Q s hw kn ke => ?_⟩
  obtain ⟨v, _, _, hv, _, hsl, _⟩ := A0.take s.rel
  obtain ⟨u, rfl⟩ := Hs.has hsl
  refine ⟨u, hv, b2 d F R σ H _ Ke _ s hw (fun p b l vs us G1 G2 L F' R' H' q2 c2 s2 t2 h1 h2 hl k => ?_) ke⟩
  obtain ⟨v', M1, M2, z1, z2, z3, z4⟩ := A.take h2
  rw [hv] at z1
  cases z1
  have m1 : ∀ a, M1 a → G2 a := fun a m => (z2.all a).mpr (.inl m)
  have m2 : ∀ a, M2 a → G2 a := fun a m => (z2.all a).mpr (.inr m)
  refine kn (A.get b, p) (A.hole b) l (u :: vs) us (fun a => M1 a ∨ G1 a) M2 L F' R' H' q2 c2 s2 ⟨fun a => ?_, fun a m n => ?_, fun a m n => ?_, fun a m n => t2.d23 a (m2 a m) n⟩ ⟨some u, vs.map some, M1, G1, rfl, ⟨fun _ => Iff.rfl, fun a m n => t2.d12 a n (m1 a m)⟩, Ow.wk z3 (ext_wo R' L H'), h1⟩ z4 hl fun b' l' L1 L2 L3 F'' R'' H'' p' h3 h4 h5 t => ?_
  · rw [t2.all, z2.all]
    exact ⟨fun z => z.elim (fun q => .inl (.inr q)) fun z => z.elim (fun z => z.elim (fun q => .inl (.inl q)) fun q => .inr (.inl q)) fun q => .inr (.inr q), fun z => z.elim (fun z => z.elim (fun q => .inr (.inl (.inl q))) .inl) fun z => z.elim (fun q => .inr (.inl (.inr q))) fun q => .inr (.inr q)⟩
  · rcases m with m | m
    · exact z2.dis a m n
    · exact t2.d12 a m (m2 a n)
  · rcases m with m | m
    · exact t2.d23 a (m1 a m) n
    · exact t2.d13 a m n
  · obtain ⟨v', σ', N1, N2, y1, y2, y3, y4⟩ := h3
    injection y1 with y5 y6
    subst y5; subst y6
    have tt : Two (fun a => N1 a ∨ L2 a) N1 L2 := ⟨fun _ => Iff.rfl, fun a m n => t.d12 a ((y2.all a).mpr (.inl m)) n⟩
    refine k _ l' N2 (fun a => N1 a ∨ L2 a) L3 F'' R'' H'' p'.2 y4 (Pt.same (A := U) h4 hv tt y3) h5 ⟨fun a => ?_, fun a m n => ?_, fun a m n => t.d13 a ((y2.all a).mpr (.inr m)) n, fun a m n => ?_⟩
    · rw [t.all, y2.all]
      exact ⟨fun z => z.elim (fun z => z.elim (fun q => .inr (.inl (.inl q))) .inl) fun z => z.elim (fun q => .inr (.inl (.inr q))) fun q => .inr (.inr q), fun z => z.elim (fun q => .inl (.inr q)) fun z => z.elim (fun z => z.elim (fun q => .inl (.inl q)) fun q => .inr (.inl q)) fun q => .inr (.inr q)⟩
    · rcases n with n | n
      · exact y2.dis a n m
      · exact t.d12 a ((y2.all a).mpr (.inr m)) n
    · rcases m with m | m
      · exact t.d13 a ((y2.all a).mpr (.inl m)) n
      · exact t.d23 a m n
theorem al2_lend {x : Str} {es : List Expr} {i : Nat} {α D1 P PO B B1 Lc : Type} [Rep α] [Sls D1] [Sls P] [Sls PO] [Sls B] [Sls B1] [Sls Lc] {mrg : B → Lc → PO → D} {wr : D → (P → B → Lc → Prop) → (Addr → D → Prop) → Prop}
    [A0 : At i D (OL α) D1] [A : At i B (OL α) B1] [U : Pt i B1 (OL α) B] (he : PE X (.Name x pos) (tVar i)) (hr : AL2 X E T es mrg wr) (hs : starEach (.Name x pos :: es) X.env = (false, eval (.Name x pos) X.env) :: starEach es X.env := by rfl) :
    AL2 X E T (.Name x pos :: es) (fun (b : B1) (l : OL α × Lc) (p : Un × PO) => mrg (U.put b l.1) l.2 p.2) (fun (d : D) (Kn : List α × P → B1 → OL α × Lc → Prop) Ke => wr d (fun p b l => Kn ((A.get b).l, p) (A.hole b) (A.get b, l)) Ke) := by
  obtain ⟨tr, b1, b2⟩ := hr
  refine ⟨_, pa_cons he b1 hs, fun d F R σ H Kn Ke Q s hw kn ke => ?_⟩
  obtain ⟨v, _, _, hv, _, ⟨a0, _, rfl, _⟩, _⟩ := A0.take s.rel
  refine ⟨_, hv, b2 d F R σ H _ Ke _ s hw (fun p b l vs us G1 G2 L F' R' H' q2 c2 s2 t2 h1 h2 hl k => ?_) ke⟩
  obtain ⟨v', M1, M2, z1, z2, z3, z4⟩ := A.take h2
  rw [hv] at z1
  cases z1
  obtain ⟨a, ws, e1, e2, e3, e4⟩ := id z3
  cases e1
  have m1 : ∀ a, M1 a → G2 a := fun a m => (z2.all a).mpr (.inl m)
  have m2 : ∀ a, M2 a → G2 a := fun a m => (z2.all a).mpr (.inr m)
  refine kn ((A.get b).l, p) (A.hole b) (A.get b, l) (.ref a0 :: vs) (some (.ref a0) :: us) G1 M2 (fun c => M1 c ∨ L c) F' R' H' q2 c2 s2 ⟨fun a => ?_, fun a m n => t2.d12 a m (m2 a n), fun a m n => ?_, fun a m n => ?_⟩ ⟨some (.ref a0), vs.map some, fun _ => False, G1, rfl, two_nil G1, ⟨fun _ z => z, _, rfl, a0, ws, rfl, fun z => z.2 (.inl ((e2 a0).mpr rfl)), e3, paired_st ((ext_wo R' _ H').wide fun _ z => z.elim) e4⟩, Sls.wk h1 (ext_wo2 fun _ z => .inr z)⟩ z4 ⟨_, us, M1, L, rfl, ⟨fun _ => Iff.rfl, fun a m n => t2.d23 a (m1 a m) n⟩, z3, hl⟩ fun b' l' L1 L2 L3 F'' R'' H'' p' h3 h4 h5 t => ?_
  · rw [t2.all, z2.all]
    exact ⟨fun z => z.elim .inl fun z => z.elim (fun z => z.elim (fun q => .inr (.inr (.inl q))) fun q => .inr (.inl q)) fun q => .inr (.inr (.inr q)), fun z => z.elim .inl fun z => z.elim (fun q => .inr (.inl (.inr q))) fun z => z.elim (fun q => .inr (.inl (.inl q))) fun q => .inr (.inr q)⟩
  · rcases n with n | n
    · exact t2.d12 a m (m1 a n)
    · exact t2.d13 a m n
  · rcases n with n | n
    · exact z2.dis a n m
    · exact t2.d23 a (m2 a m) n
  · obtain ⟨v', σ', N1, N2, y1, y2, y3, y4⟩ := h3
    injection y1 with _ y6
    subst y6
    obtain ⟨v2, σ2, K1, K2, x1, x2, x3, x4⟩ := h5
    injection x1 with x5 x6
    subst x5; subst x6
    have tt : Two (fun a => K1 a ∨ L2 a) K1 L2 := ⟨fun _ => Iff.rfl, fun a m n => t.d23 a n ((x2.all a).mpr (.inl m))⟩
    refine k _ l'.2 L1 (fun a => K1 a ∨ L2 a) K2 F'' R'' H'' p'.2 (Sls.fq y4 (two_eq y2 y3)) (Pt.same (A := U) h4 hv tt x3) x4 ⟨fun a => ?_, fun a m n => ?_, fun a m n => t.d13 a m ((x2.all a).mpr (.inr n)), fun a m n => ?_⟩
    · rw [t.all, x2.all]
      exact ⟨fun z => z.elim .inl fun z => z.elim (fun q => .inr (.inl (.inr q))) fun z => z.elim (fun q => .inr (.inl (.inl q))) fun q => .inr (.inr q), fun z => z.elim .inl fun z => z.elim (fun z => z.elim (fun q => .inr (.inr (.inl q))) fun q => .inr (.inl q)) fun q => .inr (.inr (.inr q))⟩
    · rcases n with n | n
      · exact t.d13 a m ((x2.all a).mpr (.inl n))
      · exact t.d12 a m n
    · rcases m with m | m
      · exact x2.dis a m n
      · exact t.d23 a m ((x2.all a).mpr (.inr n))
theorem call_on2 {P PO B Lc τ : Type} [Sls P] [Sls PO] [Sls B] [Sls Lc] [Ow τ] [Lb Lc τ PO] {mrg : B → Lc → PO → D} {wf : P → (τ → PO → Prop) → (Addr → PO → Prop) → Prop} {F R F1 F2 L : Rg} {H : Hp} {b : B} {l : Lc} {p : P} {σ : St} {vs : List V} {us : St} {Kn : τ → D → Prop} {Ke : Addr → D → Prop} {Q : VK}
    (s : Std T F R H) (t : Three F F1 F2 L) (hp : rel F1 (Wo R L) H p (vs.map some)) (hb : rel F2 R H b σ) (hl : rel L R H l us) (km : ∀ b' l' G1 G2 G3 F'' R'' H'' p', rel G1 R'' H'' p' (vs.map some) → rel G2 R'' H'' b' σ → rel G3 R'' H'' l' us → Three F'' G1 G2 G3 → rel F'' R'' H'' (mrg b' l' p') σ)
    (hw : wf p (fun x p' => Kn x (mrg b l p')) (fun C p' => Ke C (mrg b l p')))
    (kn : ∀ x d' v M1 M2 R' H', Kn x d' → Ch T F R H (fun a => M1 a ∨ M2 a) R' H' → Stt T M2 R' H' d' σ → Nw T M1 M2 R' H' x v → Q v H')
    (ke : ∀ C y d' F' R' H', Ke C d' → Ch T F R H F' R' H' → Stt T F' R' H' d' σ → E (.ref C) (some y) H') : spW T wf vs H Q E := by
  have i1 : ∀ a, F1 a → F a := fun a h => (t.all a).mpr (.inl h)
  have i2 : ∀ a, F2 a → F a := fun a h => (t.all a).mpr (.inr (.inl h))
  have i3 : ∀ a, L a → F a := fun a h => (t.all a).mpr (.inr (.inr h))
  have s1 : Stt T F1 (Wo R L) H p (vs.map some) := ⟨hp, fun a h => ⟨s.sub a (i1 a h), fun z => t.d13 a h z⟩, fun a h => s.liv a h.1, s.tab, ⟨s.tabR, fun z => s.tabF (i3 T z)⟩, fun h => s.tabF (i1 T h)⟩
  -- the region behind it: what the callee left and what was lent
  have ex : ∀ {G R' : Rg} {H' : Hp}, Ch T F1 (Wo R L) H G R' H' → Ext (fun a => F1 a ∨ a = T) R H (fun a => R' a ∨ L a) H' := fun c => ⟨fun b o n h => c.keep b o (fun z => n (.inl z)) (fun z => n (.inr z)) h, fun a h => h.elim (fun z => (c.newR a z).elim (fun q => .inl q.1) .inr) fun z => .inl (s.sub a (i3 a z))⟩
  have gs : ∀ a, (F1 a ∨ a = T) → R a := fun a h => h.elim (fun z => s.sub a (i1 a z)) fun q => by rw [q]; exact s.tabR
  have fr : ∀ {G R' : Rg} {H' : Hp}, Ch T F1 (Wo R L) H G R' H' → rel F2 (fun a => R' a ∨ L a) H' b σ := fun c => Sls.st hb (ex c) gs fun a h z => z.elim (fun q => t.d12 a q h) fun q => s.tabF (by rw [← q]; exact i2 a h)
  have frl : ∀ {G R' : Rg} {H' : Hp}, Ch T F1 (Wo R L) H G R' H' → rel L (fun a => R' a ∨ L a) H' l us := fun c => Sls.st hl (ex c) gs fun a h z => z.elim (fun q => t.d13 a q h) fun q => s.tabF (by rw [← q]; exact i3 a h)
  have nF : ∀ {G R' : Rg} {H' : Hp}, Ch T F1 (Wo R L) H G R' H' → ∀ a, G a → F2 a ∨ L a → False := fun c a g f => by
    rcases c.newF a g with q | q
    · exact f.elim (t.d12 a q) (t.d13 a q)
    · exact s.liv a (s.sub a (f.elim (i2 a) (i3 a))) q
  have nR : ∀ {G R' : Rg} {H' : Hp}, Ch T F1 (Wo R L) H G R' H' → ∀ a, L a → ¬R' a := fun c a h z => by
    rcases c.newR a z with q | q
    · exact q.2 h
    · exact s.liv a (s.sub a (i3 a h)) q
  have ch : ∀ {G R' : Rg} {H' : Hp}, Ch T F1 (Wo R L) H G R' H' → Ch T F R H (fun a => G a ∨ F2 a ∨ L a) (fun a => R' a ∨ L a) H' := fun c => ⟨fun b o n m h => c.keep b o (fun z => n (i1 b z)) m h, (ex c).new, fun a h => h.elim (fun q => (c.newF a q).elim (fun z => .inl (i1 a z)) .inr) fun q => .inl (q.elim (i2 a) (i3 a)), fun a h n => .inl (c.left a ⟨h, fun z => n (i3 a z)⟩ fun z => n (i1 a z))⟩
  have sF2 : ∀ {G R' : Rg} {H' : Hp}, Ch T F1 (Wo R L) H G R' H' → ∀ a, F2 a → R' a := fun c a f => c.left a ⟨s.sub a (i2 a f), fun z => t.d23 a f z⟩ fun z => t.d12 a z f
  have liv : ∀ {G R' : Rg} {H' : Hp}, Ch T F1 (Wo R L) H G R' H' → (∀ a, R' a → H' a ≠ none) → ∀ a, R' a ∨ L a → H' a ≠ none := fun c h a z => z.elim (h a) fun q => by
    cases e : H a with
    | none => exact absurd e (s.liv a (s.sub a (i3 a q)))
    | some o => rw [c.keep a o (fun z => t.d13 a z q) (fun z => s.tabF (by rw [← z]; exact i3 a q)) e]; simp
  refine ⟨F1, Wo R L, p, _, _, s1, hw, fun x p' v M1 M2 R' H' q c s' n => ?_, fun C y p' F' R' H' q c s' => ?_⟩
  · have nM := nF c
    have kl := frl c
    have key := ch c
    refine kn x _ v M1 (fun a => M2 a ∨ F2 a ∨ L a) (fun a => R' a ∨ L a) H' q ⟨key.keep, key.newR, fun a h => key.newF a (h.elim (fun z => .inl (.inl z)) fun z => z.elim (fun q => .inl (.inr q)) .inr), key.left⟩ ⟨km b l M2 F2 L _ _ H' p' (Lb.fs τ kl s'.rel) (fr c) (frl c) ⟨fun _ => Iff.rfl, fun a m f => nM a (.inr m) (.inl f), fun a m f => nM a (.inr m) (.inr f), t.d23⟩, fun a h => h.elim (fun z => .inl (s'.sub a z)) fun z => z.elim (fun q => .inl (sF2 c a q)) .inr, liv c s'.liv, s'.tab, .inl s'.tabR, fun h => h.elim s'.tabF fun z => z.elim (fun q => s.tabF (i2 T q)) fun q => s.tabF (i3 T q)⟩ ⟨Lb.fr PO kl n.is, fun a m => .inl (n.sub a m), fun a m z => z.elim (n.dis a m) fun z => nM a (.inl m) z, n.tab⟩
  · have nM := nF c
    have kl := frl c
    exact ke C y _ (fun a => F' a ∨ F2 a ∨ L a) (fun a => R' a ∨ L a) H' q (ch c) ⟨km b l F' F2 L _ _ H' p' (Lb.fs τ kl s'.rel) (fr c) (frl c) ⟨fun _ => Iff.rfl, fun a m f => nM a m (.inl f), fun a m f => nM a m (.inr f), t.d23⟩, fun a h => h.elim (fun z => .inl (s'.sub a z)) fun z => z.elim (fun q => .inl (sF2 c a q)) .inr, liv c s'.liv, s'.tab, .inl s'.tabR, fun h => h.elim s'.tabF fun z => z.elim (fun q => s.tabF (i2 T q)) fun q => s.tabF (i3 T q)⟩
theorem eo_call2 {P PO B Lc τ : Type} [Sls P] [Sls PO] [Sls B] [Sls Lc] [Ow τ] [Lb Lc τ PO] {mrg : B → Lc → PO → D} {wf : P → (τ → PO → Prop) → (Addr → PO → Prop) → Prop} {wa : D → (P → B → Lc → Prop) → (Addr → D → Prop) → Prop} {k : Nat} {f : Addr} {fd : FuncData} {ps : List Str} {x : Str} {p pos : Pos} {e : Expr} {es : List Expr}
    (F : FnOk X.prog X.w X.K X.mg X.base (CX1 X.prog X.w) k f fd ps (spW T wf)) (hr : Room k X.A) (hg : Gl X x) (hm : X.mg x = some (.ref f)) (hk : PySem.W.keepIn X.K (.ref f) = true) (hb : Binds X.K fd ps []) (hx : Passes (CX1 X.prog X.w) X E)
    (ha : AL2 X E T (e :: es) mrg wa) (hdb : (x == ("__debug__" : Str)) = false := by decide) (he : starEach (e :: es) X.env = (false, eval e X.env) :: starEach es X.env := by rfl) (hpl : (backTo pos (starEach es X.env)).any (·.1) = false := by rfl) :
    EO X E T (.Call (.Name x p) (e :: es) [] pos) (fun (d : D) (Kn : τ → D → Prop) Ke => wa d (fun p b l => wf p (fun x p' => Kn x (mrg b l p')) (fun C p' => Ke C (mrg b l p'))) Ke) := by
  obtain ⟨t, a1, a2⟩ := ha
  refine ⟨_, pe_call F hr hg hm hk hb .nil hx a1 hdb he hpl, fun d F' R σ H Kn Ke Q s hw kn ke => ?_⟩
  refine a2 d F' R σ H _ Ke _ s hw (fun p b l vs us F1 F2 L G R' H' q c s' tw h1 h2 h3 km => ?_) ke
  rw [List.append_nil]
  exact call_on2 s' tw h1 h2 h3 km q (fun x d' v M1 M2 R'' H'' q' c' s'' n => kn x d' v M1 M2 R'' H'' q' (Ch.trans s s'.tab c c') s'' n) fun C y d' F'' R'' H'' q' c' s'' => ke C y d' F'' R'' H'' q' (Ch.trans s s'.tab c c') s''
class Obj (τ : Type) [Ow τ] (K : PySem.W.Frag) (C : Addr) (m : Str) : Prop where
  ob : ∀ {F R : Rg} {H : Hp} {x : τ} {v : V}, sl F R H x (some v) → ∃ a dx fs, v = .ref a ∧ H a = some (.ins C dx fs) ∧ fs.lookup m = none
end
end WL
namespace WL
variable [L2.GX]
open PySem L2
open Rep (rp)
open Ow (sl)
open Sls (rel)
section
variable {X : Cx} {E : XK} {T : Addr} {ms : List Nat} {n : Nat} {D PO τ : Type} [Sls D] [Sls PO] [Ow τ] {pos : Pos} {α : Type} [Rep α]
theorem upd_ext {F R : Rg} {H : Hp} {a : Addr} {o : HO} : Ext (fun c => c = a) R H R (upd H a o) := ⟨fun b u n h => by rw [upd_ne n]; exact h, fun _ h => .inl h⟩
theorem own_upd {i : Nat} {D0 : Type} [Sls D0] [A : At i D (OL α) D0] [U : Pt i D0 (OL α) D] {F R : Rg} {H : Hp} {d : D} {σ : St} (s : Stt T F R H d σ) : ∃ a vs, σ[i]? = some (some (.ref a)) ∧ H a = some (.lst vs) ∧ Paired (rp R H) (A.get d).l vs ∧
    ∀ (ys : List α) (us : List V), Paired (rp R H) ys us → Ch T F R H F R (upd H a (.lst us)) ∧ Stt T F R (upd H a (.lst us)) (U.put (A.hole d) ⟨ys⟩) σ := by
  obtain ⟨v, F1, F2, h1, h2, ⟨a, vs, rfl, h4, h5, h6⟩, h7⟩ := A.take s.rel
  have aF : F a := (h2.all a).mpr (.inl ((h4 a).mpr rfl))
  have aT : a ≠ T := fun z => s.tabF (by rw [← z]; exact aF)
  refine ⟨a, vs, h1, h5, h6, fun ys us hp => ?_⟩
  have ex := upd_ext (F := F) (R := R) (H := H) (a := a) (o := .lst us)
  have gs : ∀ c, c = a → R c := fun c z => by rw [z]; exact s.sub a aF
  have k : ∀ b u, b ≠ a → H b = some u → upd H a (.lst us) b = some u := fun b u z e => by rw [upd_ne z]; exact e
  refine ⟨⟨fun b o n _ e => k b o (fun z => n (by rw [z]; exact aF)) e, fun _ h => .inl h, fun _ h => .inl h, fun _ h _ => h⟩, Pt.same (A := U) (Sls.st h7 ex gs fun c z q => h2.dis c ((h4 c).mpr q) z) h1 h2 ⟨a, us, rfl, h4, upd_same, paired_st (ex.wide gs) hp⟩, s.sub, fun c z => ?_, ?_, s.tabR, s.tabF⟩
  · by_cases e : c = a
    · rw [e, upd_same]; simp
    · rw [upd_ne e]; exact s.liv c z
  · obtain ⟨ps, e, t⟩ := s.tab
    exact ⟨ps, k _ _ (fun z => aT z.symm) e, t⟩
theorem s1_append {x : Str} {e : Expr} (i : Nat) {p1 p2 p3 : Pos} {D0 : Type} [Sls D0] [A : At i D (OL α) D0] [U : Pt i D0 (OL α) D] [J : Pj D PO n] {we : D → (α → D → Prop) → (Addr → D → Prop) → Prop} (hn : PE X (.Name x p1) (tVar i)) (h : EW X E T e we)
    (hb : ∀ {t : TA}, PA X [e] t → PS X (.Expr (.Call (.Attribute (.Name x p1) "append" p2) [e] [] p3) pos) (tDrop (tBM X.K "list" rAppend (tVar i) t))) (hs : starEach [e] X.env = (false, eval e X.env) :: starEach [] X.env := by rfl) :
    S1 X E T ms n (.Expr (.Call (.Attribute (.Name x p1) "append" p2) [e] [] p3) pos) (fun (d : D) (Kn : D → Prop) (Kr : τ → PO → Prop) Ke => we d (fun y d' => (A.get d').l.length < sizeLine ∧ Kn (U.put (A.hole d') ⟨(A.get d').l ++ [y]⟩)) fun C d' => Ke C (J.pj d')) := by
  obtain ⟨t, h1, h2⟩ := h
  refine ⟨_, hb (pa_cons h1 pa_nil hs), fun d F R σ H Kn Kr Ke En s hw kn kr ke => ?_⟩
  obtain ⟨a, vs, g1, g2, g3, _⟩ := own_upd (i := i) s
  refine ⟨_, g1, .inl ⟨rfl, vs, SqL.of g2⟩, h2 d F R σ H _ _ _ s hw (fun y d' v F' R' H' q c s' r => ?_) fun C y d' F' R' H' q c s' => ?_⟩
  · obtain ⟨a', vs', k1, k2, k3, k4⟩ := own_upd (i := i) s'
    rw [g1] at k1
    cases k1
    obtain ⟨c2, s2⟩ := k4 _ _ (paired_append k3 (.cons r .nil))
    exact ⟨a, vs', v, rfl, rfl, k2, by rw [← Paired.length k3]; exact q.1, kn _ F' R' _ σ q.2 (Ch.trans s s'.tab c c2) s2 (Ag.refl _ _)⟩
  · obtain ⟨G, g1, g2⟩ := stt_pj (PO := PO) s'
    exact ke C y _ G R' H' q (c.less g1) g2
end
def GW (X : Cx) (T : Addr) (ms : List Nat) (tg : Expr) {D D1 α : Type} [Sls D] [Sls D1] [Rep α] (g : D → α → D1) : Prop :=
  ∃ t, PG X tg t ∧ ∀ (d : D) (F R : Rg) (σ : St) (H : Hp) (x : α) (v : V) (Q : St → Hp → Prop), Stt T F R H d σ → rp R H x v → (∀ F' σ', (∀ a, F' a → F a) → Stt T F' R H (g d x) σ' → Ag ms σ σ' → Q σ' H) → t v σ H Q
section
variable {X : Cx} {T : Addr} {ms : List Nat} {D : Type} [Sls D] {pos : Pos} {α β : Type} [Rep α] [Rep β]
theorem gw_set {i : Nat} {τ0 D0 D1 : Type} [Ow τ0] [Sls D0] [Sls D1] [A : At i D τ0 D0] [U : Pt i D0 α D1] {F R : Rg} {H : Hp} {d : D} {σ : St} {x : α} {v : V} (s : Stt T F R H d σ) (r : rp R H x v) :
    ∃ F', (∀ a, F' a → F a) ∧ Stt T F' R H (U.put (A.hole d) x) (σ.set i (some v)) := by
  have m : Nw T (fun _ => False) F R H x v := ⟨⟨fun _ z => z, v, rfl, r⟩, fun _ z => z.elim, fun _ z => z.elim, fun z => z⟩
  obtain ⟨G, g1, g2⟩ := put_t (i := i) s m
  exact ⟨G, fun a h => (g1 a h).elim (fun z => z.elim) id, g2⟩
theorem gw_name {x : Str} (i : Nat) {τ0 D0 D1 : Type} [Ow τ0] [Sls D0] [Sls D1] [A : At i D τ0 D0] [U : Pt i D0 α D1] (hp : PG X (.Name x pos) (gName i)) (hm : i ∉ ms) : GW X T ms (.Name x pos) (fun (d : D) (x : α) => U.put (A.hole d) x) :=
  ⟨_, hp, fun d F R σ H x v Q s r k => by
    obtain ⟨F', f1, f2⟩ := gw_set (i := i) s r
    exact k F' _ f1 f2 (Ag.set hm)⟩
end
structure ItP {α : Type} [Rep α] (J : It) (xs : List α) (Ps : Rg → Hp → Prop) : Prop where
  go : ∀ {R : Rg} {H : Hp} {i : Nat}, Ps R H → i < xs.length → J.go i H
  yld : ∀ {R : Rg} {H : Hp} {i : Nat} {v : V} {H' : Hp}, Ps R H → (∀ a, R a → H a ≠ none) → i < xs.length → J.yld i H v H' → (H' = H ∨ ∃ p o, H p = none ∧ H' = upd H p o) ∧ ∃ x, xs[i]? = some x ∧ rp R H' x v
  stop : ∀ {R : Rg} {H : Hp}, Ps R H → J.stop xs.length H
def IW (X : Cx) (E : XK) (T : Addr) (is : List Nat) (tg e : Expr) {D B α : Type} [Sls D] [Sls B] [Rep α] (back : B → List α → D) (w : D → (List α → B → Prop) → (Addr → D → Prop) → Prop) : Prop :=
  ∃ t, PI X tg e t ∧ ∀ (d : D) (F R : Rg) (σ : St) (H : Hp) (Kn : List α → B → Prop) (Ke : Addr → D → Prop) (Rk : It → Hp → Prop), Stt T F R H d σ → w d Kn Ke →
    (∀ xs b J Ps F' F1 F2 R' H', Kn xs b → Ch T F R H F' R' H' → Std T F' R' H' → Two F' F1 F2 → rel F2 R' H' b σ → ItP J xs Ps → Ps R' H' →
      (∀ {G Ra Rb : Rg} {Ha Hb : Hp}, Ps Ra Ha → (∀ a, G a → Ra a) → (∀ a, F1 a → ¬G a) → Ext G Ra Ha Rb Hb → Ps Rb Hb) →
      (∀ b' G2 F'' R'' H'' σ', Ps R'' H'' → rel G2 R'' H'' b' σ' → Ag is σ σ' → Two F'' F1 G2 → rel F'' R'' H'' (back b' xs) σ') → Rk J H') →
    (∀ C y d' F' R' H', Ke C d' → Ch T F R H F' R' H' → Stt T F' R' H' d' σ → E (.ref C) (some y) H') → t σ H Rk
section
variable {X : Cx} {E : XK} {T : Addr} {is : List Nat} {D : Type} [Sls D] {pos : Pos} {α β : Type} [Rep α] [Rep β] {tg : Expr}
theorem itp_list {K : PySem.W.Frag} {a : Addr} {xs : List α} {vs : List V} : ItP (Itl K a) xs (fun R H => H a = some (.lst vs) ∧ Paired (rp R H) xs vs) where
  go := fun {R H i} p h => by
    obtain ⟨v, e, _⟩ := paired_get (i := i) (x := xs[i]) p.2 (by simp [h])
    exact ⟨vs, v, SqL.of p.1, e⟩
  yld := fun {R H i v H'} p _ hi y => by
    obtain ⟨e, y⟩ := y
    subst e
    have y' := y vs (SqL.of p.1)
    obtain ⟨u, e, r⟩ := paired_get (i := i) (x := xs[i]) p.2 (by simp [hi])
    rw [y'] at e
    cases e
    exact ⟨.inl rfl, _, by simp [hi], r⟩
  stop := fun {R H} p => ⟨vs, SqL.of p.1, by rw [Paired.length p.2]; exact Nat.le_refl _⟩
theorem iw_val {e : Expr} {w : D → (List α → D → Prop) → (Addr → D → Prop) → Prop} (h : EW X E T e w) : IW X E T is tg e (fun (b : D) (_ : List α) => b) w := by
  obtain ⟨t, h1, h2⟩ := h
  refine ⟨_, pi_list h1, fun d F R σ H Kn Ke Rk s hw kn ke => h2 d F R σ H _ _ _ s hw (fun xs d' v F' R' H' q c s' r => ?_) ke⟩
  obtain ⟨a, vs, rfl, r1, r2, r3⟩ := r
  refine ⟨a, rfl, ⟨vs, SqL.of r2⟩, kn xs d' _ (fun R H => (H a = some (.lst vs) ∧ Paired (rp R H) xs vs) ∧ ¬R a) F' (fun _ => False) F' R' H' q c s'.std (two_nil F') s'.rel ⟨fun p => itp_list.go p.1, fun p => itp_list.yld p.1, fun p => itp_list.stop p.1⟩ ⟨⟨r2, r3⟩, r1⟩ (fun p gs nf ex => ?_) fun b' G2 F'' R'' H'' σ' p h g t => Sls.fq h (two_eq t fun _ z => z)⟩
  have na : ¬_ := fun z => p.2 (gs a z)
  exact ⟨⟨ex.keep a _ na p.1.1, paired_st (ex.wide gs) p.1.2⟩, ex.not p.2 p.1.1⟩
theorem iw_own {x : Str} (i : Nat) {B : Type} [Sls B] [A : At i D (OL α) B] [U : Pt i B (OL α) D] (hn : PE X (.Name x pos) (tVar i)) (hi : i ∈ is) : IW X E T is tg (.Name x pos) (fun (b : B) (xs : List α) => U.put b ⟨xs⟩) (fun (d : D) (Kn : List α → B → Prop) _ => Kn (A.get d).l (A.hole d)) := by
  refine ⟨_, pi_list hn, fun d F R σ H Kn Ke Rk s hw kn ke => ?_⟩
  obtain ⟨v, F1, F2, h1, h2, ⟨a, vs, rfl, h4, h5, h6⟩, h7⟩ := A.take s.rel
  refine ⟨_, h1, a, rfl, ⟨vs, SqL.of h5⟩, kn _ _ _ (fun R H => H a = some (.lst vs) ∧ Paired (rp R H) (A.get d).l vs) F F1 F2 R H hw (Ch.refl _ _ _ _) s.std h2 h7 itp_list ⟨h5, h6⟩ (fun p gs nf ex => ⟨ex.keep a _ (nf a ((h4 a).mpr rfl)) p.1, paired_st (ex.wide gs) p.2⟩) fun b' G2 F'' R'' H'' σ' p h g t => ?_⟩
  exact Pt.same (A := U) h (by rw [g.2 i hi]; exact h1) t ⟨a, vs, rfl, h4, p.1, p.2⟩
def rng (lo hi : Int) : List Int := (List.range (hi - lo).toNat).map fun (i : Nat) => lo + (i : Int)
theorem rng_len (lo hi : Int) : (rng lo hi).length = (hi - lo).toNat := by unfold rng; rw [List.length_map, List.length_range]
theorem rng_get {lo hi : Int} {i : Nat} (h : i < (hi - lo).toNat) : (rng lo hi)[i]? = some (lo + (i : Int)) := by
  unfold rng
  rw [List.getElem?_map, List.getElem?_range h]
  rfl
theorem itp_range {lo hi : Int} : ItP (Itr lo (hi - lo).toNat) (rng lo hi) (fun _ _ => True) where
  go := fun {R H i} _ h => by rw [rng_len] at h; exact h
  yld := fun {R H i v H'} _ _ hi y => by
    obtain ⟨e, y⟩ := y
    subst e y
    rw [rng_len] at hi
    exact ⟨.inl rfl, _, rng_get hi, rfl⟩
  stop := fun {R H} _ => by rw [rng_len]; exact Nat.le_refl _
theorem iw_range1 {a : Expr} {p : Pos} {wa : D → (Int → D → Prop) → (Addr → D → Prop) → Prop} (hg : Gl X "range") (hm : X.mg "range" = none) (ha : EW X E T a wa) (hs : starEach [a] X.env = (false, eval a X.env) :: starEach [] X.env := by rfl) (hs1 : starEach [a] X.env = [(false, eval a X.env)] := by rfl) :
    IW X E T is tg (.Call (.Name "range" p) [a] [] pos) (fun (b : D) (_ : List Int) => b) (fun (d : D) Kn Ke => wa d (fun j d' => (-(2 ^ 62) ≤ j ∧ j < 2 ^ 62) ∧ Kn (rng 0 j) d') Ke) := by
  obtain ⟨t, h1, h2⟩ := ha
  refine ⟨_, pi_range1 hg hm (pa_cons h1 pa_nil hs) hs1, fun d F R σ H Kn Ke Rk s hw kn ke => h2 d F R σ H _ _ _ s hw (fun j d' v F' R' H' q c s' r => ?_) ke⟩
  have r : v = V.int j := r
  subst r
  refine ⟨j, rfl, q.1.1, q.1.2, ?_⟩
  have := kn (rng 0 j) d' (Itr 0 (j - 0).toNat) (fun _ _ => True) F' (fun _ => False) F' R' H' q.2 c s'.std (two_nil F') s'.rel itp_range trivial (fun _ _ _ _ => trivial) fun b' G2 F'' R'' H'' σ' p h g t => Sls.fq h (two_eq t fun _ z => z)
  rw [Int.sub_zero] at this
  exact this
theorem iw_range2 {a b : Expr} {p : Pos} {wa wb : D → (Int → D → Prop) → (Addr → D → Prop) → Prop} (hg : Gl X "range") (hm : X.mg "range" = none) (ha : EW X E T a wa) (hb : EW X E T b wb) (hpi : ∀ {ta : TA}, PA X [a, b] ta → PI X tg (.Call (.Name "range" p) [a, b] [] pos) (iRng2 ta))
    (hs : starEach [a, b] X.env = (false, eval a X.env) :: starEach [b] X.env := by rfl) (hs2 : starEach [b] X.env = (false, eval b X.env) :: starEach [] X.env := by rfl) :
    IW X E T is tg (.Call (.Name "range" p) [a, b] [] pos) (fun (b : D) (_ : List Int) => b) (fun (d : D) Kn Ke => wa d (fun i d1 => wb d1 (fun j d' => (-(2 ^ 62) ≤ i ∧ i < 2 ^ 62 ∧ -(2 ^ 62) ≤ j ∧ j < 2 ^ 62) ∧ Kn (rng i j) d') Ke) Ke) := by
  obtain ⟨t, h1, h2⟩ := ha
  obtain ⟨tb, b1, b2⟩ := hb
  refine ⟨_, hpi (pa_cons h1 (pa_cons b1 pa_nil hs2) hs), fun d F R σ H Kn Ke Rk s hw kn ke => h2 d F R σ H _ _ _ s hw (fun i d1 u F1 R1 H1 q1 c1 s1 r1 => ?_) ke⟩
  refine b2 d1 F1 R1 σ H1 _ _ _ s1 q1 (fun j d' v F' R' H' q c s' r => ?_) fun C y d' F' R' H' k c s' => ke C y d' F' R' H' k (Ch.trans s s1.tab c1 c) s'
  have r1 : u = V.int i := r1
  have r : v = V.int j := r
  subst r; subst r1
  exact ⟨i, j, rfl, q.1, kn (rng i j) d' (Itr i (j - i).toNat) (fun _ _ => True) F' (fun _ => False) F' R' H' q.2 (Ch.trans s s1.tab c1 c) s'.std (two_nil F') s'.rel itp_range trivial (fun _ _ _ _ => trivial) fun b' G2 F'' R'' H'' σ' p h g t => Sls.fq h (two_eq t fun _ z => z)⟩
end
def wFor {α B PO τ : Type} (b : α → B → (B → Prop) → (τ → PO → Prop) → (Addr → PO → Prop) → Prop) : List α → B → (B → Prop) → (τ → PO → Prop) → (Addr → PO → Prop) → Prop
  | [], d, Kn, _, _ => Kn d
  | x :: xs, d, Kn, Kr, Ke => b x d (fun d' => wFor b xs d' Kn Kr Ke) Kr Ke
section
variable {X : Cx} {E : XK} {T : Addr} {ms mb is : List Nat} {n : Nat} {D B D1 D2 PO τ α : Type} [Sls D] [Sls B] [Sls D1] [Sls D2] [Sls PO] [Ow τ] [Rep α] {pos : Pos} {tg iter : Expr} {body : List Stmt}
theorem Ch.big {F G R F' R' : Rg} {H H' : Hp} (c : Ch T F R H F' R' H') (g : ∀ a, F a → G a) : Ch T G R H F' R' H' := ⟨fun b o n m h => c.keep b o (fun z => n (g b z)) m h, c.newR, fun a h => (c.newF a h).elim (fun z => .inl (g a z)) .inr, fun a h n => c.left a h fun z => n (g a z)⟩
theorem Ch.beside {F F1 F2 R F' R' : Rg} {H H' : Hp} (t : Two F F1 F2) (c : Ch T F2 R H F' R' H') : Ch T F R H (fun a => F1 a ∨ F' a) R' H' := ⟨fun b o n m h => c.keep b o (fun z => n ((t.all b).mpr (.inr z))) m h, c.newR, fun a h => h.elim (fun z => .inl ((t.all a).mpr (.inl z))) fun z => (c.newF a z).elim (fun z => .inl ((t.all a).mpr (.inr z))) .inr, fun a h n => c.left a h fun z => n ((t.all a).mpr (.inr z))⟩
theorem Ch.trans' {F R F1 R1 F2 R2 : Rg} {H H1 H2 : Hp} (s : Std T F R H) (t1 : TabAt H1 T) (a : Ch T F R H F1 R1 H1) (b : Ch T F1 R1 H1 F2 R2 H2) : Ch T F R H F2 R2 H2 := by
  have nF1 : ∀ c, ¬F c → H c ≠ none → ¬F1 c := fun c n h z => by
    rcases a.newF c z with q | q
    · exact n q
    · exact h q
  have back : ∀ c, H1 c = none → ¬ (F c) → H c = none := fun c h n => by
    cases e : H c with
    | none => rfl
    | some o =>
      have nt : c ≠ T := fun z => by rw [z] at h; exact tab_some t1 h
      rw [a.keep c o n nt e] at h; cases h
  refine ⟨fun c o n t h => b.keep c o (nF1 c n (by rw [h]; simp)) t (a.keep c o n t h), fun c h => ?_, fun c h => ?_, fun c h n => b.left c (a.left c h n) (nF1 c n (s.liv c h))⟩
  · rcases b.newR c h with q | q
    · exact a.newR c q
    · by_cases hf : F c
      · exact .inl (s.sub c hf)
      · exact .inr (back c q hf)
  · rcases b.newF c h with q | q
    · exact a.newF c q
    · by_cases hf : F c
      · exact .inl hf
      · exact .inr (back c q hf)
theorem drop_cons {α : Type} {xs : List α} {i : Nat} {x : α} (h : xs[i]? = some x) : xs.drop i = x :: xs.drop (i + 1) := by
  have hi := (List.getElem?_eq_some_iff.mp h)
  rw [List.drop_eq_getElem_cons hi.1, hi.2]
theorem Ag.sub {ms mb : List Nat} {σ σ' : St} (a : Ag mb σ σ') (h : ∀ i ∈ ms, i ∈ mb) : Ag ms σ σ' := ⟨a.1, fun i hi => a.2 i (h i hi)⟩
theorem s1_for {back : B → List α → D} {wi : D → (List α → B → Prop) → (Addr → D → Prop) → Prop} {g : B → α → D1} {wb : D1 → (D2 → Prop) → (τ → PO → Prop) → (Addr → PO → Prop) → Prop} [Gf : Fg D2 B] [J : Pj D PO n] (dp : Dep PO ms n) (hp : PassesOwn (model X.prog X.w) X.A X.env X.xe) (hc : X.calm = true)
    (hi : IW X E T is tg iter back wi) (hg : GW X T mb tg g) (hb : SW X E T mb n body wb) (h1 : ∀ i ∈ ms, i ∈ mb) (h2 : ∀ i ∈ is, i ∈ mb) (hs : ∀ x, foldedSetIterable iter X.env x = pure x := by intro _; rfl) :
    S1 X E T ms n (.For tg iter body [] pos) (fun (d : D) (Kn : D → Prop) (Kr : τ → PO → Prop) Ke => wi d (fun xs b => wFor (fun x b Kn' Kr Ke => wb (g b x) (fun d2 => Kn' (Gf.fg d2)) Kr Ke) xs b (fun b' => Kn (back b' xs)) Kr Ke) fun C d' => Ke C (J.pj d')) := by
  obtain ⟨ti, i1, i2⟩ := hi
  obtain ⟨tg', g1, g2⟩ := hg
  obtain ⟨tb, b1, b2⟩ := hb
  refine ⟨_, ps_for hp hc i1 g1 b1 hs, fun d F R σ H Kn Kr Ke En s hw kn kr ke => ?_⟩
  refine i2 d F R σ H _ _ _ s hw (fun xs b Jt Ps F' F1 F2 R' H' q c s' tw hr ip ps pk pb => ?_) fun C y d' F' R' H' q c s' => ?_
  · -- the loop
    refine ⟨fun i m σ1 H1 => m = xs.length - i ∧ i ≤ xs.length ∧ ∃ b1 G F1' R1, Ch T F' R' H' G R1 H1 ∧ Std T G R1 H1 ∧ Two G F1 F1' ∧ rel F1' R1 H1 b1 σ1 ∧ Ps R1 H1 ∧ Ag mb σ σ1 ∧ wFor (fun x b Kn' Kr Ke => wb (g b x) (fun d2 => Kn' (Gf.fg d2)) Kr Ke) (xs.drop i) b1 (fun b' => Kn (back b' xs)) Kr Ke,
      ⟨_, rfl, Nat.zero_le _, b, F', F2, R', Ch.refl _ _ _ _, s', tw, hr, ps, Ag.refl _ _, q⟩, ?_⟩
    rintro i m σ1 H1 ⟨rfl, hi, b1, G, F1', R1, c1, s1, t1, r1, p1, a1, w1⟩
    have cc := Ch.trans s s'.tab c c1
    by_cases hlt : i < xs.length
    · refine .inr ⟨ip.go p1 hlt, fun σ' H2 => ∃ b2 G2 F2' R2, Ch T F' R' H' G2 R2 H2 ∧ Std T G2 R2 H2 ∧ Two G2 F1 F2' ∧ rel F2' R2 H2 b2 σ' ∧ Ps R2 H2 ∧ Ag mb σ σ' ∧ wFor (fun x b Kn' Kr Ke => wb (g b x) (fun d2 => Kn' (Gf.fg d2)) Kr Ke) (xs.drop (i + 1)) b2 (fun b' => Kn (back b' xs)) Kr Ke, fun σ' H2 p => ⟨xs.length - (i + 1), by omega, rfl, hlt, p⟩, fun x H2 y => ?_⟩
      obtain ⟨hH, x', ex, rx⟩ := ip.yld p1 s1.liv hlt y
      -- the heap behind the iterator's step
      have st2 : Ch T G R1 H1 G R1 H2 ∧ Std T G R1 H2 ∧ rel F1' R1 H2 b1 σ1 ∧ Ps R1 H2 := by
        rcases hH with e | ⟨p, o, hp, e⟩
        · subst e; exact ⟨Ch.refl _ _ _ _, s1, r1, p1⟩
        · subst e
          have k : ∀ b u, H1 b = some u → upd H1 p o b = some u := fun b u e => by rw [upd_ne (ne_of_none e hp)]; exact e
          have ex : Ext (fun _ => False) R1 H1 R1 (upd H1 p o) := ⟨fun b u _ e => k b u e, fun a h => .inl h⟩
          refine ⟨⟨fun b u _ _ e => k b u e, fun a h => .inl h, fun a h => .inl h, fun a h _ => h⟩, ⟨s1.sub, fun a z => ?_, ?_, s1.tabR, s1.tabF⟩, Sls.st r1 ex (fun _ z => z.elim) (fun _ _ z => z), pk p1 (fun _ z => z.elim) (fun _ _ z => z) ex⟩
          · cases e : H1 a with
            | none => exact absurd e (s1.liv a z)
            | some u => rw [k a u e]; simp
          · obtain ⟨qs, e, t⟩ := s1.tab
            exact ⟨qs, k _ _ e, t⟩
      obtain ⟨c2, s2, r2, p2⟩ := st2
      have f1' : ∀ a, F1' a → G a := fun a h => (t1.all a).mpr (.inr h)
      have S2 : Stt T F1' R1 H2 b1 σ1 := ⟨r2, fun a h => s2.sub a (f1' a h), s2.liv, s2.tab, s2.tabR, fun h => s2.tabF (f1' T h)⟩
      rw [drop_cons ex] at w1
      refine g2 b1 F1' R1 σ1 H2 x' x _ S2 rx fun F3 σ2 f3 S3 a3 => ?_
      have c12 := Ch.trans' s' s1.tab c1 c2
      have c012 := Ch.trans s s'.tab c c12
      have t3 : ∀ a, F1 a → F3 a → False := fun a h k => t1.dis a h (f3 a k)
      refine b2 _ F3 R1 σ2 H2 _ Kr Ke _ S3 w1 (fun d2 F4 R4 H4 σ4 q4 c4 S4 a4 => ?_) (fun x p' v M1 M2 R4 H4 q4 c4 S4 n4 => ?_) fun C y p' F4 R4 H4 q4 c4 S4 => ?_
      · obtain ⟨F5, f5, r5⟩ := Gf.le S4.rel
        have t4 : ∀ a, F1 a → F4 a → False := fun a h k => by
          rcases c4.newF a k with z | z
          · exact t3 a h z
          · exact s2.liv a (s2.sub a ((t1.all a).mpr (.inl h))) z
        have c4' : Ch T G R1 H2 (fun a => F1 a ∨ F5 a) R4 H4 := (Ch.beside (F1 := F1) (F := fun a => F1 a ∨ F3 a) ⟨fun _ => Iff.rfl, t3⟩ (c4.less f5)).big fun a h => h.elim (fun z => (t1.all a).mpr (.inl z)) fun z => f1' a (f3 a z)
        have sF1 : ∀ a, F1 a → R4 a := fun a h => c4.left a (s2.sub a ((t1.all a).mpr (.inl h))) fun z => t3 a h z
        refine ⟨Gf.fg d2, fun a => F1 a ∨ F5 a, F5, R4, Ch.trans' s' s2.tab c12 c4', ⟨fun a h => h.elim (sF1 a) fun z => S4.sub a (f5 a z), S4.liv, S4.tab, S4.tabR, fun h => h.elim (fun z => s2.tabF ((t1.all T).mpr (.inl z))) fun z => S4.tabF (f5 T z)⟩, ⟨fun _ => Iff.rfl, fun a h k => t4 a h (f5 a k)⟩, r5, ?_, (a1.trans a3).trans a4, q4⟩
        exact pk p2 (G := fun a => F3 a ∨ a = T) (fun a h => h.elim (S3.sub a) fun z => by rw [z]; exact s2.tabR) (fun a h z => z.elim (t3 a h) fun z => s2.tabF ((t1.all T).mpr (.inl (by rw [← z]; exact h)))) c4.ext
      · refine kr x p' v M1 M2 R4 H4 q4 (Ch.trans s s2.tab c012 (c4.big fun a h => f1' a (f3 a h))) ⟨dp.dp ((a1.trans a3).sub h1) S4.rel, S4.sub, S4.liv, S4.tab, S4.tabR, S4.tabF⟩ n4
      · exact ke C y p' F4 R4 H4 q4 (Ch.trans s s2.tab c012 (c4.big fun a h => f1' a (f3 a h))) ⟨dp.dp ((a1.trans a3).sub h1) S4.rel, S4.sub, S4.liv, S4.tab, S4.tabR, S4.tabF⟩
    · have e : i = xs.length := by omega
      subst e
      rw [List.drop_length] at w1
      exact .inl ⟨ip.stop p1, kn _ G R1 H1 σ1 w1 cc ⟨pb b1 F1' G R1 H1 σ1 p1 r1 (a1.sub h2) t1, s1.sub, s1.liv, s1.tab, s1.tabR, s1.tabF⟩ (a1.sub h1)⟩
  · obtain ⟨G, g1, g2⟩ := stt_pj (PO := PO) s'
    exact ke C y _ G R' H' q (c.less g1) g2
end
end WL
namespace L2
open PySem PySem.Spec PyProof.Rows
section
variable {X : Cx} {elt iter tg : Expr} {scope : Scope} {cl : List (Str × Addr)} {T Fr : List Str} {idx : List Nat} {wi : TI} {pos : Pos} {ifs : List Expr}
theorem comp_block2 {pins : List (Addr × Obj)} {σ : St} {s2 : Shared} {H2 : Hp} {J : It} {fp : List Addr} {it : Addr} {tn : Nat → Heap → Prop} {E : Value → Shared → Prop} {RR : Value → Addr → Result → Shared → Prop} {P : List V → Hp → Prop} (hcm : X.calm = true)
    (B : BScope X scope cl T Fr idx) 
    (I2 : Inv X pins σ H2 s2) (Tn : Turn X.prog X.w X.K tg J fp it tn) (st2 : tn 0 s2.heap) (f2 : ∀ b ∈ fp, FpOk X pins H2 b)
    (hb : ∀ s₀ H₀ C ex pn, ∃ (g : TG) (tt : TT) (te : TE), (PG (blk X scope cl (T ++ Fr) s₀ H₀ C ex pn) tg g ∧ PTs (blk X scope cl (T ++ Fr) s₀ H₀ C ex pn) ifs tt ∧ PE (blk X scope cl (T ++ Fr) s₀ H₀ C ex pn) elt te) ∧ ∃ W : Nat → Nat → List V → St → Hp → Prop, (∃ m, W 0 m [] (frame0 T idx σ) H2) ∧ ∀ i m ys σ' H, W i m ys σ' H → (J.stop i H ∧ P ys H) ∨ (J.go i H ∧ ys.length < sizeLine ∧ ∀ x H', J.yld i H x H' → g x σ' H' fun σ2 H2 => tt σ2 H2 fun b H3 => if b = true then te σ2 H3 fun y H4 => ∃ m', m' < m ∧ W (i + 1) m' (ys ++ [y]) σ2 H4 else ∃ m', m' < m ∧ W (i + 1) m' ys σ2 H3))
    (hRR : ∀ (D C : Addr) (s' : Shared) (H' : Hp) (ys : List V), H' D = none → P ys H' → Inv X pins σ (upd H' D (.lst ys)) s' → (∃ m, s'.heap.Ns C m) → (upd H' D (.lst ys)) C = none → C ≠ X.env.locals → X.s₀.heap.objs.size ≤ C → (∀ x c, X.env.cells.lookup x = some c → c ≠ C) → (∀ p ∈ X.pn ++ pins, p.1 ≠ C) → RR (.ref D) C (.ok .next) s') :
    wpAny (model X.prog X.w) X.A (newList []) (fun acc s₃ => wpAny (model X.prog X.w) X.A (newFunctionEnv scope X.env.globals cl [] X.env.qual none .none (some X.env)) (fun cenv s₄ =>
      codeAny (model X.prog X.w) X.A (.compStart (.ListComp elt [⟨tg, iter, ifs, 0⟩] scope pos) 0 (.ref it) acc { cenv with scope := relabel scope X.env }) (RR acc cenv.locals) s₄) E s₃) E s2 := by
  refine wpAny_newObj_type (wpAny_newFunctionEnv B.nocell (by intro y hy; simp at hy) (fun h4 ns4 sb4 => ?_) B.kind)
  dsimp only at ns4 sb4 ⊢
  have hk3 : ∀ b o, s2.heap.get? b = some o → (s2.heap.push { cls := .type "list", dict := none, data := .seq ([] : List Value).toArray }).get? b = some o := fun b o e => Heap.get?_push_of_some _ e
  have oD3 : (s2.heap.push { cls := .type "list", dict := none, data := .seq ([] : List Value).toArray }).get? s2.heap.objs.size = some { cls := .type "list", dict := none, data := .seq ([] : List Value).toArray } := Heap.get?_push_size _ rfl
  have sz3 : (s2.heap.push { cls := .type "list", dict := none, data := .seq ([] : List Value).toArray }).objs.size = s2.heap.objs.size + 1 := Heap.size_push _ _
  generalize s2.heap.push { cls := .type "list", dict := none, data := .seq ([] : List Value).toArray } = h3 at ns4 sb4 hk3 oD3 sz3 ⊢
  have I3 : Inv X pins σ H2 { s2 with heap := h3 } := I2.kept (t' := s2.toks) hk3
  have Dfresh : H2 s2.heap.objs.size = none := I2.hok.fresh (Nat.le_refl _)
  have hk4 : ∀ b o, h3.get? b = some o → h4.get? b = some o := fun b o e => sb4.extBut b o (Nat.ne_of_lt (Heap.lt_size e)) (Heap.get?_push_of_some _ e)
  have Cfresh : H2 h3.objs.size = none := I3.hok.fresh (Nat.le_refl _)
  have neDC : s2.heap.objs.size ≠ h3.objs.size := by rw [sz3]; exact Nat.ne_of_lt (Nat.lt_succ_self _)
  -- facts about D, C, fp in X
  have fD : FpOk X pins H2 s2.heap.objs.size := I2.fpOk (Nat.le_refl _) Dfresh
  have fC : FpOk X pins H2 h3.objs.size := I3.fpOk (Nat.le_refl _) Cfresh
  have exOf : ∀ b ∈ s2.heap.objs.size :: fp, FpOk X pins H2 b ∧ b ≠ h3.objs.size := fun b hb' => by
    rcases List.mem_cons.mp hb' with e | e
    · subst e; exact ⟨fD, neDC⟩
    · refine ⟨f2 b e, ?_⟩
      obtain ⟨o, ho, _⟩ := Tn.obj 0 _ st2 b e
      exact Nat.ne_of_lt (Heap.lt_size (hk3 b o ho))
  -- the block's context
  generalize hX' : blk X scope cl (T ++ Fr) { s2 with heap := h3 } H2 h3.objs.size (s2.heap.objs.size :: fp) (X.pn ++ pins) = X'
  obtain ⟨g, tt, te, ⟨hG, hT, hE⟩, W, w0, turn⟩ := hb { s2 with heap := h3 } H2 h3.objs.size (s2.heap.objs.size :: fp) (X.pn ++ pins)
  rw [hX'] at hG hT hE
  have ok' : X'.Ok := by
    subst hX'
    exact {
      mod := I3.ok.mod
      kind := B.kind
      glob := I3.ok.glob
      blt := I3.ok.blt
      above := Nat.le_refl _
      inj := fun x y c e1 e2 => I3.ok.inj x y c (B.sub x c e1) (B.sub y c e2)
      has := fun x h => B.has h
      cab := fun x c h => by cases h
      hd := I3.ok.hd
      frames := I3.ok.frames
      stk := .inl rfl
      exf := fun b hb' => ⟨(exOf b hb').2, fun x c e => (exOf b hb').1.2.2.2.2.1 x c (B.sub x c e)⟩
      bs := fun b o e => I3.bs b o e
      bsz := Nat.le_trans I3.ok.bsz I3.sz
      noex := fun b o e hb' => by
        rcases (exOf b hb').1.2.2.2.1 with z | z
        · exact I3.ok.noex b o e z
        · exact absurd (Nat.lt_of_lt_of_le (Heap.lt_size e) (Nat.le_trans I3.ok.bsz z)) (Nat.lt_irrefl _)
      exfs := fun b hb' hf => by
        rcases List.mem_cons.mp (I3.stkSub b hf) with z | z
        · exact (exOf b hb').1.2.1 z
        · exact (exOf b hb').1.2.2.1 z
      funs := I3.stack
      frf := fun b hb' => I3.stkFree b hb' }
  have xA : X'.A = X.A := by subst hX'; rfl
  have xp : X'.prog = X.prog := by subst hX'; rfl
  have xw : X'.w = X.w := by subst hX'; rfl
  have xK : X'.K = X.K := by subst hX'; rfl
  have xc : X'.calm = true := by subst hX'; exact hcm
  have xe : X'.env = compEnvC scope cl h3.objs.size X.env := by subst hX'; rfl
  have I4 : Inv X' [] (frame0 T idx σ) H2 { s2 with heap := h4 } := by
    have hN : X'.N = T ++ Fr := by subst hX'; rfl
    refine ⟨ok', by subst hX'; rfl, I3.bare, by subst hX'; exact Un.kept hk4, ?_, ?_, by subst hX'; exact Cfresh, ?_, ?_, ?_, ?_⟩
    · obtain ⟨m, hn, hl⟩ := I3.loc
      refine ⟨_, by rw [xe]; exact ns4, fun i x v e1 e2 e3 => ?_⟩
      rw [hN] at e1
      unfold frame0 at e2
      by_cases hi : i < T.length
      · rw [List.getElem?_append_left (by rw [List.length_map]; exact hi), List.getElem?_map, List.getElem?_eq_getElem hi] at e2
        cases e2
      · rw [List.getElem?_append_right (by omega)] at e1
        rw [List.getElem?_append_right (by rw [List.length_map]; omega), List.length_map, List.getElem?_map] at e2
        obtain ⟨i0, c, q1, q2, q3, q4, q5⟩ := B.fr _ x e1
        rw [q1] at e2
        have e2' : (σ[i0]?).join = some v := Option.some.inj e2
        have e2'' : σ[i0]? = some (some v) := by
          cases z : σ[i0]? with
          | none => rw [z] at e2'; cases e2'
          | some y => rw [z] at e2'; have : y = some v := e2'; rw [this]
        obtain ⟨u, r, l⟩ := hl i0 x v q2 e2'' (by
          rcases q3 with z | z
          · exact .inr (.inl z)
          · exact .inr (.inr z))
        refine ⟨u, r, ?_⟩
        rcases l with ⟨k, _⟩ | ⟨k, c', e, z⟩
        · rcases q3 with y | y <;> (rw [y] at k; cases k)
        · have := B.sub x c q4
          rw [e] at this
          cases this
          refine .inr ⟨by rw [xe]; exact q5, _, by rw [xe]; exact q4, ?_⟩
          obtain ⟨o, ho, hd⟩ := z
          exact ⟨o, hk4 _ _ ho, hd⟩
    · intro x c e
      rw [xe] at e
      obtain ⟨v, o, ho, hd⟩ := I3.cell x c (B.sub x c e)
      exact ⟨v, o, hk4 _ _ ho, hd⟩
    · intro x c e
      rw [xe] at e
      exact I3.freeC x c (B.sub x c e)
    · intro p hp
      have hp' : p ∈ X.pn ++ pins := by subst hX'; simpa using hp
      obtain ⟨a1, a2, a3, a4, a5⟩ := I3.pin p hp'
      refine ⟨hk4 _ _ a1, a2, ?_, ?_, a5⟩
      · rw [xe]; exact Nat.ne_of_lt (Heap.lt_size a1)
      · subst hX'
        intro hf
        rcases List.mem_cons.mp (I3.stkSub _ hf) with z | z
        · exact a3 z
        · exact a4 z
    · subst hX'
      exact I3.hok.kept hk4
    · rw [hN]
      unfold frame0
      rw [List.length_append, List.length_append, List.length_map, List.length_map, B.len]
  have oD4 := hk4 _ _ oD3
  have st4 : tn 0 h4 := Tn.keep _ _ _ st2 fun b _ o e => hk4 b o (hk3 b o e)
  -- what stays true of the iterator's objects and of D
  have stat : ∀ {H' : Hp} {pins' : List (Addr × Obj)}, (∀ p ∈ pins', p.1 ∉ s2.heap.objs.size :: fp) → (∀ b ∈ s2.heap.objs.size :: fp, H' b = none) → ∀ b ∈ s2.heap.objs.size :: fp, FpOk X' pins' H' b := by
    intro H' pins' hp hn b hb'
    subst hX'
    obtain ⟨⟨z1, z2, z3, z4, z5, z6⟩, z7⟩ := exOf b hb'
    refine ⟨hn b hb', z7, ?_, .inl hb', fun x c e => z5 x c (B.sub x c e), fun p hp' => ?_⟩
    · intro hf
      rcases List.mem_cons.mp (I3.stkSub b hf) with z | z
      · exact z2 z
      · exact z3 z
    · rcases List.mem_append.mp hp' with q | q
      · exact z6 p q
      · intro e; exact hp p q (by rw [e]; exact hb')
  have pinOut : ∀ {h : Heap} {p : Addr × Obj}, p ∈ pinsAt (s2.heap.objs.size :: fp) h → p.1 ∈ s2.heap.objs.size :: fp := fun hp => (of_pinsAt hp).1
  -- the end
  have fin : ∀ (s5 : Shared) (σ5 : St) (H5 : Hp) (ys : List V) (its : List Value) (nD : Nat), Inv X' [] σ5 H5 s5 → (∀ b ∈ s2.heap.objs.size :: fp, H5 b = none) → s5.heap.get? s2.heap.objs.size = some { cls := .type "list", dict := none, data := .seq its.toArray nD } → Vals ys its → ys.length ≤ sizeLine → P ys H5 → RR (.ref s2.heap.objs.size) h3.objs.size (.ok .next) s5 := by
    intro s5 σ5 H5 ys its nD I5 n5 oD5 v5 l5 q5
    have D5 := n5 _ List.mem_cons_self
    have hb5 : Un (frs X.stack) (s2.heap.objs.size :: fp) H2 H5 h3 s5.heap := by have z := I5.base; subst hX'; exact z
    have C5 : H5 h3.objs.size = none := by have z := I5.free; rw [xe] at z; exact z
    have hok5 : HOk X.prog X.w (upd H5 s2.heap.objs.size (.lst ys)) s5.heap := HOk.track (by have z := I5.hok; rw [xp, xw] at z; exact z) D5 ⟨l5, its, nD, v5, oD5⟩
    have u5 : Un (frs X.stack) (s2.heap.objs.size :: fp) H2 (upd H5 s2.heap.objs.size (.lst ys)) h3 s5.heap := by
      have nD' : ∀ b u, H2 b = some u → b ≠ s2.heap.objs.size := fun b u e => ne_of_none e Dfresh
      exact ⟨hb5.keep, hb5.slot, fun b o e n hx => by rw [upd_ne (fun z => hx (by rw [z]; exact List.mem_cons_self))]; exact hb5.free b o e n hx, hb5.there, fun b xs e => by rw [upd_ne (nD' b _ e)]; exact hb5.tups b xs e, fun b o u e => by rw [upd_ne (nD' b _ e)]; exact hb5.frzs b o u e, fun b ps e => by rw [upd_ne (nD' b _ e)]; exact hb5.tbls b ps e⟩
    have os5 : s5.os = s2.os := by have z := I5.os; subst hX'; exact z
    have IX : Inv X pins σ (upd H5 s2.heap.objs.size (.lst ys)) s5 := Inv.call' (s := { s2 with heap := h3 }) I3 os5 u5 hok5 I5.bare fun b hb' => by
      obtain ⟨⟨z1, z2, z3, z4, z5, z6⟩, z7⟩ := exOf b hb'
      exact ⟨z4, z2, z5, z6⟩
    obtain ⟨m5, ns5, _⟩ := I5.loc
    rw [xe] at ns5
    refine hRR s2.heap.objs.size h3.objs.size s5 H5 ys D5 q5 IX ⟨m5, ns5⟩ (by rw [upd_ne (Ne.symm neDC)]; exact C5) fC.2.1 (Nat.le_trans I3.sz (Nat.le_refl _)) fC.2.2.2.2.1 fC.2.2.2.2.2
  obtain ⟨m0, w0⟩ := w0
  have loop : codeAny (model X.prog X.w) X.A (.compLoop (.ListComp elt [⟨tg, iter, ifs, 0⟩] scope pos) 0 (.ref it) (.ref s2.heap.objs.size) (compEnvC scope cl h3.objs.size X.env)) (RR (.ref s2.heap.objs.size) h3.objs.size) { s2 with heap := h4 } := by
    refine loop_any (fun n s5 => ∃ i ys its nD σ5 H5, Inv X' [] σ5 H5 s5 ∧ tn i s5.heap ∧ (∀ b ∈ s2.heap.objs.size :: fp, H5 b = none) ∧ s5.heap.get? s2.heap.objs.size = some { cls := .type "list", dict := none, data := .seq its.toArray nD } ∧ Vals ys its ∧ ys.length ≤ sizeLine ∧ W i n ys σ5 H5) ?_ m0
      ⟨0, [], [], 0, frame0 T idx σ, H2, I4, st4, fun b hb' => (exOf b hb').1.1, oD4, .nil, Nat.zero_le _, w0⟩
    rintro n s5 ⟨i, ys, its, nD, σ5, H5, I5, st5, n5, oD5, v5, l5, w5⟩
    have f5 := stat (pins' := []) (fun p hp => by cases hp) n5
    rcases turn i n ys σ5 H5 w5 with ⟨stop, q⟩ | ⟨go, ll, step⟩
    · have z := Tn.done X' xp xw xK xc i [] s5 σ5 H5 (fun _ _ => False) I5 (fun b hb' => f5 b (List.mem_cons_of_mem _ hb')) st5 stop
      rw [xA] at z
      -- D is not touched by the end
      have z2 := Tn.done X' xp xw xK xc i [(s2.heap.objs.size, { cls := .type "list", dict := none, data := .seq its.toArray nD })] s5 σ5 H5 (fun _ _ => False) (I5.pins_of fun p hp => by
        obtain rfl := List.mem_singleton.mp hp
        have fD5 := f5 _ List.mem_cons_self
        exact ⟨oD5, fD5.1, fD5.2.1, fD5.2.2.1, fun v z => nomatch z⟩) (fun b hb' => by
          obtain ⟨a1, a2, a3, a4, a5, a6⟩ := f5 b (List.mem_cons_of_mem _ hb')
          refine ⟨a1, a2, a3, a4, a5, fun p hp => ?_⟩
          rcases List.mem_append.mp hp with y | y
          · exact a6 p (List.mem_append_left _ y)
          · obtain rfl := List.mem_singleton.mp y
            intro e
            obtain ⟨o, ho, _⟩ := Tn.obj 0 _ st2 b hb'
            exact Nat.lt_irrefl _ (Nat.lt_of_lt_of_le (Heap.lt_size ho) (Nat.le_of_eq (show s2.heap.objs.size = b from e)))) st5 stop
      rw [xA] at z2
      refine thn z2 fun r s6 ⟨hr, I6⟩ => ?_
      subst hr
      have p6 := I6.pin _ (List.mem_append_right _ (List.mem_singleton.mpr rfl))
      exact fin s6 σ5 H5 ys its nD (I6.pins_of fun p hp => by cases hp) n5 p6.1 v5 l5 q
    · have fD5 := f5 _ List.mem_cons_self
      have I5p := I5.pins_of (pins' := [(s2.heap.objs.size, { cls := .type "list", dict := none, data := .seq its.toArray nD })]) fun p hp => by
        obtain rfl := List.mem_singleton.mp hp
        exact ⟨oD5, fD5.1, fD5.2.1, fD5.2.2.1, fun v z => nomatch z⟩
      have fpD : ∀ b ∈ fp, b ≠ s2.heap.objs.size := fun b hb' => by
        obtain ⟨o, ho, _⟩ := Tn.obj 0 _ st2 b hb'
        exact Nat.ne_of_lt (Heap.lt_size ho)
      have fpP : ∀ {H' : Hp}, (∀ b ∈ fp, H' b = none) → ∀ b ∈ fp, FpOk X' [(s2.heap.objs.size, { cls := .type "list", dict := none, data := .seq its.toArray nD })] H' b := by
        intro H' hn b hb'
        obtain ⟨a1, a2, a3, a4, a5, a6⟩ := f5 b (List.mem_cons_of_mem _ hb')
        refine ⟨hn b hb', a2, a3, a4, a5, fun p hp => ?_⟩
        rcases List.mem_append.mp hp with y | y
        · exact a6 p (List.mem_append_left _ y)
        · obtain rfl := List.mem_singleton.mp y
          exact Ne.symm (fpD b hb')
      have z := Tn.item X' xp xw xK xc i _ s5 σ5 H5 (fun _ _ => False) I5p (fpP fun b hb' => n5 b (List.mem_cons_of_mem _ hb')) st5 go
      rw [xA] at z
      refine thn z fun r s6 ⟨u, hr, h6⟩ => ?_
      subst hr
      refine thn h6 fun _ s7 ⟨x, H7, I7, r7, y7, st7, n7⟩ => ?_
      have I7' := I7.pinned (fpP n7) (Tn.obj _ _ st7)
      have xx : X'.xe = fun _ _ => False := by subst hX'; rfl
      have zG := hG _ s7 σ5 H7 x u _ I7' r7 (step x H7 y7)
      rw [xp, xw, xA, xe, xx] at zG
      refine thn zG fun _ s8 ⟨σ8, H8, I8, q8⟩ => ?_
      have zT := hT _ s8 σ8 H8 _ I8 q8
      rw [xp, xw, xA, xe, xx] at zT
      refine thn zT fun ok s9 ⟨H9, I9, q9⟩ => ?_
      -- what holds behind the turn
      have behind : ∀ {H' : Hp} {s' : Shared}, Inv X' ([(s2.heap.objs.size, { cls := .type "list", dict := none, data := .seq its.toArray nD })] ++ pinsAt fp s7.heap) σ8 H' s' → s'.heap.get? s2.heap.objs.size = some { cls := .type "list", dict := none, data := .seq its.toArray nD } ∧ tn (i + 1) s'.heap ∧ ∀ b ∈ s2.heap.objs.size :: fp, H' b = none := by
        intro H' s' I'
        have pD := I'.pin _ (List.mem_append_right _ (List.mem_append_left _ (List.mem_singleton.mpr rfl)))
        refine ⟨pD.1, Tn.keep _ _ _ st7 fun b hb' o e => (I'.pin (b, o) (List.mem_append_right _ (List.mem_append_right _ (mem_pinsAt hb' e)))).1, fun b hb' => ?_⟩
        rcases List.mem_cons.mp hb' with e | e
        · rw [e]; exact pD.2.1
        · obtain ⟨o, e', _⟩ := Tn.obj _ _ st7 b e
          exact (I'.pin (b, o) (List.mem_append_right _ (List.mem_append_right _ (mem_pinsAt e e')))).2.1
      cases ok with
      | false =>
        rw [if_neg Bool.false_ne_true] at q9 ⊢
        obtain ⟨m', hm, w'⟩ := q9
        obtain ⟨b1, b2, b3⟩ := behind I9
        exact ⟨m', hm, i + 1, ys, its, nD, σ8, H9, I9.pins_of (fun p hp => by cases hp), b2, b3, b1, v5, l5, w'⟩
      | true =>
        rw [if_pos rfl] at q9 ⊢
        have zE := hE _ s9 σ8 H9 _ I9 q9
        rw [xp, xw, xA, xe, xx] at zE
        refine thn zE fun y s10 ⟨yv, H10, I10, r10, m', hm, w'⟩ => ?_
        obtain ⟨b1, b2, b3⟩ := behind I10
        have hlen := v5.length
        refine wpAny_list_append_plain (items := its.toArray) ⟨nD, b1⟩ (fun h11 pl11 sb11 => ?_) (by rw [List.size_toArray]; omega)
        obtain ⟨nD', o11⟩ := pl11
        have I10' : Inv X' [] σ8 H10 s10 := I10.pins_of fun p hp => by cases hp
        obtain ⟨a1, a2, a3, a4, a5, a6⟩ := stat (pins' := []) (fun p hp => by cases hp) b3 _ List.mem_cons_self
        have I11 : Inv X' [] σ8 H10 { s10 with heap := h11 } := I10'.turned (t' := s10.toks) (fun b o hb' e => (sb11.2 b hb').trans e) a1 a2 a4 a5 a6
        refine ⟨m', hm, i + 1, ys ++ [yv], its ++ [y], nD', σ8, H10, I11, Tn.keep _ _ _ b2 fun b hb' o e => (sb11.2 b (fpD b hb')).trans e, b3, by simpa using o11, v5.append (.cons r10 .nil), by rw [List.length_append, List.length_singleton]; omega, w'⟩
  exact codeAny_compStart_list loop (Tn.self _ 0 _ _ _ st4 loop)
def tComp2 (X : Cx) (elt tg : Expr) (ifs : List Expr) (scope : Scope) (cl : List (Str × Addr)) (T Fr : List Str) (idx : List Nat) (wi : TI) : TE := fun σ H Q => wi σ H fun J H1 => ∀ s₀ H₀ C ex pn, ∃ (g : TG) (tt : TT) (te : TE), (PG (blk X scope cl (T ++ Fr) s₀ H₀ C ex pn) tg g ∧ PTs (blk X scope cl (T ++ Fr) s₀ H₀ C ex pn) ifs tt ∧ PE (blk X scope cl (T ++ Fr) s₀ H₀ C ex pn) elt te) ∧ ∃ W : Nat → Nat → List V → St → Hp → Prop, (∃ m, W 0 m [] (frame0 T idx σ) H1) ∧ ∀ i m ys σ' H, W i m ys σ' H →
  (J.stop i H ∧ ∀ p, H p = none → Q (.ref p) (upd H p (.lst ys))) ∨ (J.go i H ∧ ys.length < sizeLine ∧ ∀ x H', J.yld i H x H' → g x σ' H' fun σ2 H2 => tt σ2 H2 fun b H3 => if b = true then te σ2 H3 fun y H4 => ∃ m', m' < m ∧ W (i + 1) m' (ys ++ [y]) σ2 H4 else ∃ m', m' < m ∧ W (i + 1) m' ys σ2 H3)
theorem pe_comp2 (hcm : X.calm = true) (hi : PI X tg iter wi) (B : BScope X scope cl T Fr idx) 
    (hs : ∀ x, foldedSetIterable iter X.env x = pure x := by intro _; rfl) : PE X (.ListComp elt [⟨tg, iter, ifs, 0⟩] scope pos) (tComp2 X elt tg ifs scope cl T Fr idx wi) := by
  intro pins s σ H Q I h
  rw [eval_ListComp]
  refine wpAny_comprehension_free (use := none) rfl hs B.clos B.kind B.names (thn (hi pins s σ H _ I h) fun v s1 h1 => thn h1 fun itv s2 h2 => ?_)
  obtain ⟨it, fp, tn, J, H2, e, I2, Tn, st2, f2, hb⟩ := h2
  subst e
  refine comp_block2 (RR := fun acc C => compPost (model X.prog X.w) X.A X.xe none (EP X pins σ Q) acc C) (P := fun ys H => ∀ p, H p = none → Q (.ref p) (upd H p (.lst ys))) hcm B I2 Tn st2 f2 hb ?_
  intro D C s' H' ys hD q IX ⟨m, ns⟩ hC c1 c2 c3 c4
  exact ⟨m, ns, fun h' sb => ⟨.ref D, _, IX.turned (t' := s'.toks) (fun b o hb' e => (sb.2 b hb').trans e) hC c1 (.inr c2) c3 c4, rfl, q D hD⟩⟩
def tCompS2 (X : Cx) (elt tg : Expr) (ifs : List Expr) (scope : Scope) (cl : List (Str × Addr)) (T Fr : List Str) (idx : List Nat) (wi : TI) (j : Nat) : TS := fun D σ H => wi σ H fun J H1 => ∀ s₀ H₀ C ex pn, ∃ (g : TG) (tt : TT) (te : TE), (PG (blk X scope cl (T ++ Fr) s₀ H₀ C ex pn) tg g ∧ PTs (blk X scope cl (T ++ Fr) s₀ H₀ C ex pn) ifs tt ∧ PE (blk X scope cl (T ++ Fr) s₀ H₀ C ex pn) elt te) ∧ ∃ W : Nat → Nat → List V → St → Hp → Prop, (∃ m, W 0 m [] (frame0 T idx σ) H1) ∧ ∀ i m ys σ' H, W i m ys σ' H →
  (J.stop i H ∧ ∀ p, H p = none → D.nx (σ.set j (some (.ref p))) (upd H p (.lst ys))) ∨ (J.go i H ∧ ys.length < sizeLine ∧ ∀ x H', J.yld i H x H' → g x σ' H' fun σ2 H2 => tt σ2 H2 fun b H3 => if b = true then te σ2 H3 fun y H4 => ∃ m', m' < m ∧ W (i + 1) m' (ys ++ [y]) σ2 H4 else ∃ m', m' < m ∧ W (i + 1) m' ys σ2 H3)
theorem ps_comp2 {j : Nat} {y : Str} {py spos : Pos} (hN : X.N.Nodup) (hj : X.N[j]? = some y) (hy : X.env.scope.names.lookup y = some .local) (hsw : swapsWith (.ListComp elt [⟨tg, iter, ifs, 0⟩] scope pos) (some (.Name y py)) spos.line X.env = pure true)
    (hcm : X.calm = true) (hi : PI X tg iter wi) (B : BScope X scope cl T Fr idx) 
    (hs : ∀ x, foldedSetIterable iter X.env x = pure x := by intro _; rfl) : PS X (.Assign [.Name y py] (.ListComp elt [⟨tg, iter, ifs, 0⟩] scope pos) spos) (tCompS2 X elt tg ifs scope cl T Fr idx wi j) := by
  intro pins s σ H D I h
  rw [exec_Assign_Name_used _ _ _ _ hsw]
  refine wpAny_bind (wpAny_standAt (wpAny_bind ?_))
  show wpAny _ X.A (do let _ ← comprehension (.ListComp elt [⟨tg, iter, ifs, 0⟩] scope pos) scope X.env _ (newList []) false (eval iter X.env) (some (assign (.Name y py) X.env))) _ _ s
  refine wpAny_bind (thn (wpAny_comprehension_free (use := some (assign (.Name y py) X.env)) (Q := fun _ s' => SP X pins D .next s') rfl hs B.clos B.kind B.names (thn (hi pins s σ H _ I h) fun v s1 h1 => thn h1 fun itv s2 h2 => ?_)) fun _ s' hq => wpAny_pure (wpAny_pure hq))
  obtain ⟨it, fp, tn, J, H2, e, I2, Tn, st2, f2, hb⟩ := h2
  subst e
  refine comp_block2 (RR := fun acc C => compPost (model X.prog X.w) X.A X.xe (some (assign (.Name y py) X.env)) (fun _ s' => SP X pins D .next s') acc C) (P := fun ys H => ∀ p, H p = none → D.nx (σ.set j (some (.ref p))) (upd H p (.lst ys))) hcm B I2 Tn st2 f2 hb ?_
  intro Dd C s' H' ys hD q IX ⟨m, ns⟩ hC c1 c2 c3 c4
  show wpAny _ X.A (assign (.Name y py) X.env (.ref Dd)) _ _ _
  refine wpAny_assign_Name (store_ok2 IX hN hj (.inl hy) (v := .ref Dd) rfl (fun s3 I3 ⟨a, sb3, ha⟩ => ?_) (.inr hy))
  have hCa : C ≠ a := by
    rcases ha with z | z
    · rw [z]; exact c1
    · exact Ne.symm (c3 _ _ z)
  exact ⟨m, ns.sameBut sb3 hCa, fun h' sb => ⟨_, _, I3.turned (t' := s3.toks) (fun b o hb' e => (sb.2 b hb').trans e) hC c1 (.inr c2) c3 c4, q Dd hD⟩⟩
end
end L2
namespace WL
variable [L2.GX]
open PySem L2
open Rep (rp)
open Ow (sl)
open Sls (rel)
class Pre (k : Nat) (S : Type) [Sls S] (Db : outParam Type) [Sls Db] where
  pre : S → Db
  suf : Db → S
  ok : ∀ {F R : Rg} {H : Hp} {s : S} {σ : St} (τ : St), τ.length = k → rel F R H s σ → rel F R H (pre s) (τ ++ σ)
  un : ∀ {F R : Rg} {H : Hp} {d : Db} {σ : St}, rel F R H d σ → rel F R H (suf d) (σ.drop k)
  eta : ∀ d, pre (suf d) = d
  eta2 : ∀ s, suf (pre s) = s
instance pre0 {S : Type} [Sls S] : Pre 0 S S := ⟨id, id, fun τ h r => by rw [List.length_eq_zero_iff.mp h]; exact r, fun r => r, fun _ => rfl, fun _ => rfl⟩
instance preS {k : Nat} {S Db : Type} [Sls S] [Sls Db] [A : Pre k S Db] : Pre (k + 1) S (Un × Db) := ⟨fun s => (⟨⟩, A.pre s), fun d => A.suf d.2, fun {F R H s σ} τ h r => by
    cases τ with
    | nil => cases h
    | cons v τ' => exact ⟨v, τ' ++ σ, fun _ => False, F, rfl, two_nil F, fun _ z => z, A.ok τ' (by simpa using h) r⟩,
  fun {F R H d σ} r => by
    obtain ⟨v, σ', F1, F2, rfl, h2, h3, h4⟩ := r
    exact A.un (Sls.fq h4 (two_eq h2 h3)),
  fun d => by
    obtain ⟨⟨⟩, d⟩ := d
    show (_, _) = (_, _)
    rw [A.eta],
  fun s => A.eta2 s⟩
def wComp {α γ S : Type} (b : α → S → (Option γ → S → Prop) → Prop) : List α → S → (List γ → S → Prop) → Prop
  | [], s, K => K [] s
  | x :: xs, s, K => b x s fun o s' => wComp b xs s' fun ys s'' => K (o.toList ++ ys) s''
def TWs (X : Cx) (T : Addr) (ifs : List Expr) {D : Type} [Sls D] (w : D → (Bool → D → Prop) → (Addr → D → Prop) → Prop) : Prop :=
  ∃ t, PTs X ifs t ∧ ∀ (d : D) (F R : Rg) (σ : St) (H : Hp) (Kn : Bool → D → Prop) (Q : Bool → Hp → Prop), Stt T F R H d σ → w d Kn (fun _ _ => False) →
    (∀ x d' F' R' H', Kn x d' → Ch T F R H F' R' H' → Stt T F' R' H' d' σ → Q x H') → t σ H Q
abbrev XF : XK := fun _ _ _ => False
theorem tws_nil {X : Cx} {T : Addr} {D : Type} [Sls D] : TWs X T [] (fun (d : D) Kn _ => Kn true d) := ⟨_, pts_nil, fun d F R σ H Kn Q s hw kn => kn true d F R H hw (Ch.refl _ _ _ _) s⟩
theorem tws_one {X : Cx} {T : Addr} {D : Type} [Sls D] {c : Expr} {w : D → (Bool → D → Prop) → (Addr → D → Prop) → Prop} (h : TW X XF T c w) : TWs X T [c] w := let ⟨t, a1, a2⟩ := h; ⟨t, pts_one a1, fun d F R σ H Kn Q s hw kn => a2 d F R σ H Kn _ Q s hw kn fun _ _ _ _ _ _ z => z.elim⟩
section
variable {X : Cx} {E : XK} {T : Addr} {ms mb is : List Nat} {n k : Nat} {D B S B0 Db D1 PO τ α γ : Type} [Sls D] [Sls B] [Sls S] [Sls B0] [Sls Db] [Sls D1] [Sls PO] [Ow τ] [Rep α] [Rep γ] {pos : Pos} {tg iter elt : Expr} {ifs : List Expr} {scope : Scope} {cl : List (Str × Addr)} {Ts Fr : List Str} {idx : List Nat}
abbrev stepC (P : Pre k S Db) (Gf : Fg D1 Db) (g : Db → α → D1) (wt : D1 → (Bool → D1 → Prop) → (Addr → D1 → Prop) → Prop) (we : D1 → (γ → D1 → Prop) → (Addr → D1 → Prop) → Prop) : α → S → (Option γ → S → Prop) → Prop :=
  fun x s K => wt (g (P.pre s) x) (fun t d1 => if t = true then we d1 (fun y d2 => K (some y) (P.suf (Gf.fg d2))) (fun _ _ => False) else K none (P.suf (Gf.fg d1))) fun _ _ => False
theorem comp_core [P : Pre k S Db] [Gf : Fg D1 Db] {g : Db → α → D1} {wt : D1 → (Bool → D1 → Prop) → (Addr → D1 → Prop) → Prop} {we : D1 → (γ → D1 → Prop) → (Addr → D1 → Prop) → Prop} {J : It} {Ps : Rg → Hp → Prop} {xs : List α} {F1 Fs R' : Rg} {H' : Hp} {σ : St} {s0 : S} {K : List γ → S → Prop} {End : List V → Hp → Prop}
    (hk : Ts.length = k) (hmb : ∀ i, k ≤ i → i < k + idx.length → i ∈ mb)
    (hG : ∀ s₀ H₀ C ex pn, GW (blk X scope cl (Ts ++ Fr) s₀ H₀ C ex pn) T mb tg g) (hT : ∀ s₀ H₀ C ex pn, TWs (blk X scope cl (Ts ++ Fr) s₀ H₀ C ex pn) T ifs wt) (hE : ∀ s₀ H₀ C ex pn, EW (blk X scope cl (Ts ++ Fr) s₀ H₀ C ex pn) XF T elt we)
    (hz : xs.length ≤ sizeLine) (ip : ItP J xs Ps) (ps : Ps R' H') (pk : ∀ {G Ra Rb : Rg} {Ha Hb : Hp}, Ps Ra Ha → (∀ a, G a → Ra a) → (∀ a, F1 a → ¬G a) → Ext G Ra Ha Rb Hb → Ps Rb Hb)
    (s' : Std T Fs R' H') (nF1 : ∀ a, F1 a → R' a ∧ ¬Fs a ∧ a ≠ T) (hs0 : rel Fs R' H' s0 (idx.map fun i => σ[i]?.join)) (hw : wComp (stepC P Gf g wt we) xs s0 K)
    (fin : ∀ zs s1 Gs R1 H1 ys, K zs s1 → Ch T Fs R' H' Gs R1 H1 → Std T Gs R1 H1 → rel Gs R1 H1 s1 (idx.map fun i => σ[i]?.join) → Ps R1 H1 → Paired (rp R1 H1) zs ys → End ys H1) :
    ∀ s₀ H₀ C ex pn, ∃ (g : TG) (tt : TT) (te : TE), (PG (blk X scope cl (Ts ++ Fr) s₀ H₀ C ex pn) tg g ∧ PTs (blk X scope cl (Ts ++ Fr) s₀ H₀ C ex pn) ifs tt ∧ PE (blk X scope cl (Ts ++ Fr) s₀ H₀ C ex pn) elt te) ∧ ∃ W : Nat → Nat → List V → St → Hp → Prop, (∃ m, W 0 m [] (frame0 Ts idx σ) H') ∧ ∀ i m ys σ' H, W i m ys σ' H →
      (J.stop i H ∧ End ys H) ∨ (J.go i H ∧ ys.length < sizeLine ∧ ∀ x H', J.yld i H x H' → g x σ' H' fun σ2 H2 => tt σ2 H2 fun b H3 => if b = true then te σ2 H3 fun y H4 => ∃ m', m' < m ∧ W (i + 1) m' (ys ++ [y]) σ2 H4 else ∃ m', m' < m ∧ W (i + 1) m' ys σ2 H3) := by
  intro s₀ H₀ C ex pn
  obtain ⟨tg', g1, g2⟩ := hG s₀ H₀ C ex pn
  obtain ⟨tt, t1, t2⟩ := hT s₀ H₀ C ex pn
  obtain ⟨te, e1, e2⟩ := hE s₀ H₀ C ex pn
  have lenf : (frame0 Ts idx σ).length = k + idx.length := by unfold frame0; rw [List.length_append, List.length_map, List.length_map, hk]
  have dropf : ∀ {σ1 : St}, Ag mb (frame0 Ts idx σ) σ1 → σ1.drop k = idx.map fun i => σ[i]?.join := fun {σ1} a => by
    apply List.ext_getElem?
    intro j
    rw [List.getElem?_drop]
    by_cases hj : j < idx.length
    · rw [a.2 (k + j) (hmb _ (by omega) (by omega))]
      unfold frame0
      rw [List.getElem?_append_right (by rw [List.length_map, hk]; omega), List.length_map, hk, Nat.add_sub_cancel_left]
    · rw [List.getElem?_eq_none (by have := a.1; omega), List.getElem?_eq_none (by rw [List.length_map]; omega)]
  refine ⟨tg', tt, te, ⟨g1, t1, e1⟩, fun i m ys σ1 H1 => m = xs.length - i ∧ i ≤ xs.length ∧ ∃ s1 Gs R1 zs, Ch T Fs R' H' Gs R1 H1 ∧ Std T Gs R1 H1 ∧ rel Gs R1 H1 (P.pre s1) σ1 ∧ Ps R1 H1 ∧ Ag mb (frame0 Ts idx σ) σ1 ∧ Paired (rp R1 H1) zs ys ∧ zs.length ≤ i ∧ wComp (stepC P Gf g wt we) (xs.drop i) s1 (fun ws s' => K (zs ++ ws) s'),
    ⟨_, rfl, Nat.zero_le _, s0, Fs, R', [], Ch.refl _ _ _ _, s', P.ok _ (by rw [List.length_map, hk]) hs0, ps, Ag.refl _ _, .nil, Nat.zero_le _, by simpa using hw⟩, ?_⟩
  rintro i m ys σ1 H1 ⟨rfl, hi, s1, Gs, R1, zs, c1, st1, r1, p1, a1, pz, lz, w1⟩
  have lz' := Paired.length pz
  by_cases hlt : i < xs.length
  · refine .inr ⟨ip.go p1 hlt, by omega, fun x H2 y => ?_⟩
    obtain ⟨hH, x', ex', rx⟩ := ip.yld p1 st1.liv hlt y
    have nG1 : ∀ {G R1 : Rg} {H1 : Hp}, Ch T Fs R' H' G R1 H1 → ∀ a, F1 a → R1 a ∧ ¬G a := fun c a h => ⟨c.left a (nF1 a h).1 (nF1 a h).2.1, fun z => (c.newF a z).elim (nF1 a h).2.1 fun q => s'.liv a (nF1 a h).1 q⟩
    have st2 : Ch T Gs R1 H1 Gs R1 H2 ∧ Std T Gs R1 H2 ∧ rel Gs R1 H2 (P.pre s1) σ1 ∧ Ps R1 H2 ∧ Paired (rp R1 H2) zs ys := by
      rcases hH with e | ⟨p, o, hp, e⟩
      · subst e; exact ⟨Ch.refl _ _ _ _, st1, r1, p1, pz⟩
      · subst e
        have kk : ∀ b u, H1 b = some u → upd H1 p o b = some u := fun b u e => by rw [upd_ne (ne_of_none e hp)]; exact e
        have ex : Ext (fun _ => False) R1 H1 R1 (upd H1 p o) := ⟨fun b u _ e => kk b u e, fun a h => .inl h⟩
        refine ⟨⟨fun b u _ _ e => kk b u e, fun a h => .inl h, fun a h => .inl h, fun a h _ => h⟩, ⟨st1.sub, fun a z => ?_, ?_, st1.tabR, st1.tabF⟩, Sls.st r1 ex (fun _ z => z.elim) (fun _ _ z => z), pk p1 (fun _ z => z.elim) (fun _ _ z => z) ex, paired_st (ex.wide fun _ z => z.elim) pz⟩
        · cases e : H1 a with
          | none => exact absurd e (st1.liv a z)
          | some u => rw [kk a u e]; simp
        · obtain ⟨qs, e, t⟩ := st1.tab
          exact ⟨qs, kk _ _ e, t⟩
    obtain ⟨c2, S2, r2, p2, pz2⟩ := st2
    have c12 := Ch.trans' s' st1.tab c1 c2
    rw [drop_cons ex'] at w1
    refine g2 (P.pre s1) Gs R1 σ1 H2 x' x _ (S2.stt r2) rx fun F3 σ2 f3 S3 a3 => ?_
    have c3 : Ch T Fs R' H' F3 R1 H2 := c12.less f3
    -- how the block goes on behind an item
    have on : ∀ {d2 : D1} {F5 R5 : Rg} {H5 : Hp} {o : Option γ} {ys' : List V}, wComp (stepC P Gf g wt we) (xs.drop (i + 1)) (P.suf (Gf.fg d2)) (fun ws s' => K (zs ++ (o.toList ++ ws)) s') → Ch T F3 R1 H2 F5 R5 H5 → Stt T F5 R5 H5 d2 σ2 → Paired (rp R5 H5) (zs ++ o.toList) ys' → (zs ++ o.toList).length ≤ i + 1 →
        ∃ m', m' < xs.length - i ∧ m' = xs.length - (i + 1) ∧ i + 1 ≤ xs.length ∧ ∃ s1 Gs R1 zs, Ch T Fs R' H' Gs R1 H5 ∧ Std T Gs R1 H5 ∧ rel Gs R1 H5 (P.pre s1) σ2 ∧ Ps R1 H5 ∧ Ag mb (frame0 Ts idx σ) σ2 ∧ Paired (rp R1 H5) zs ys' ∧ zs.length ≤ i + 1 ∧ wComp (stepC P Gf g wt we) (xs.drop (i + 1)) s1 (fun ws s' => K (zs ++ ws) s') := fun {d2 F5 R5 H5 o ys'} hw c5 S5 pz5 lz5 => by
      obtain ⟨F6, f6, r6⟩ := Gf.le S5.rel
      have c35 := Ch.trans' s' S2.tab c3 c5
      refine ⟨xs.length - (i + 1), by omega, rfl, hlt, P.suf (Gf.fg d2), F6, R5, zs ++ o.toList, c35.less f6, ⟨fun a h => S5.sub a (f6 a h), S5.liv, S5.tab, S5.tabR, fun h => S5.tabF (f6 T h)⟩, by rw [P.eta]; exact r6, ?_, a1.trans a3, pz5, lz5, ?_⟩
      · refine pk p2 (G := fun a => F3 a ∨ a = T) (fun a h => h.elim (S3.sub a) fun z => by rw [z]; exact S2.tabR) (fun a h z => ?_) c5.ext
        rcases z with z | z
        · exact (nG1 c3 a h).2 z
        · exact (nF1 a h).2.2 z
      · simp only [List.append_assoc]
        exact hw
    refine t2 _ F3 R1 σ2 H2 _ _ S3 w1 fun b d1 F4 R4 H4 q4 c4 S4 => ?_
    cases b with
    | false =>
      rw [if_neg Bool.false_ne_true]
      exact on (o := none) q4 c4 S4 (by simpa using S3.vals c4 pz2) (by simp; omega)
    | true =>
      rw [if_pos rfl]
      refine e2 _ F4 R4 σ2 H4 _ _ _ S4 q4 (fun y d2 v F5 R5 H5 q5 c5 S5 r5 => ?_) fun _ _ _ _ _ _ z => z.elim
      have c45 := Ch.trans S3 S4.tab c4 c5
      exact on (o := some y) q5 c45 S5 (paired_append (S3.vals c45 pz2) (.cons r5 .nil)) (by simp; omega)
  · have e : i = xs.length := by omega
    subst e
    rw [List.drop_length] at w1
    have w1' : K (zs ++ []) s1 := w1
    rw [List.append_nil] at w1'
    have r1' := P.un r1
    rw [dropf a1, P.eta2] at r1'
    refine .inl ⟨ip.stop p1, fin zs s1 Gs R1 H1 ys w1' c1 st1 r1' p1 pz⟩
theorem comp_split [Se : Sel idx B S B0] {back : B → List α → D} {xs : List α} {b : B} {Ps : Rg → Hp → Prop} {F' F1 F2 R' : Rg} {H' : Hp} {σ : St} (s' : Std T F' R' H') (tw : Two F' F1 F2) (hr : rel F2 R' H' b σ)
    (pb : ∀ b' G2 F'' R'' H'' σ', Ps R'' H'' → rel G2 R'' H'' b' σ' → Ag is σ σ' → Two F'' F1 G2 → rel F'' R'' H'' (back b' xs) σ') :
    ∃ Fs, Std T Fs R' H' ∧ (∀ a, F1 a → R' a ∧ ¬Fs a ∧ a ≠ T) ∧ rel Fs R' H' (Se.sel b) (idx.map fun i => σ[i]?.join) ∧
      ∀ {s1 : S} {Gs R1 : Rg} {H1 : Hp}, Ch T Fs R' H' Gs R1 H1 → Std T Gs R1 H1 → rel Gs R1 H1 s1 (idx.map fun i => σ[i]?.join) → Ps R1 H1 → ∃ G, Ch T F' R' H' G R1 H1 ∧ Stt T G R1 H1 (back (Se.mrg (Se.rest b) s1) xs) σ := by
  obtain ⟨Fs, F0, t0, h1, h2, hl⟩ := Se.cut hr
  have iS : ∀ a, Fs a → F' a := fun a h => (tw.all a).mpr (.inr ((t0.all a).mpr (.inl h)))
  have i0 : ∀ a, F0 a → F' a := fun a h => (tw.all a).mpr (.inr ((t0.all a).mpr (.inr h)))
  have i1 : ∀ a, F1 a → F' a := fun a h => (tw.all a).mpr (.inl h)
  have d1S : ∀ a, F1 a → Fs a → False := fun a h k => tw.dis a h ((t0.all a).mpr (.inl k))
  have d10 : ∀ a, F1 a → F0 a → False := fun a h k => tw.dis a h ((t0.all a).mpr (.inr k))
  refine ⟨Fs, ⟨fun a h => s'.sub a (iS a h), s'.liv, s'.tab, s'.tabR, fun h => s'.tabF (iS T h)⟩, fun a h => ⟨s'.sub a (i1 a h), d1S a h, fun z => s'.tabF (by rw [← z]; exact i1 a h)⟩, h1, fun {s1 Gs R1 H1} c S1 r1 p1 => ?_⟩
  have f0 : rel F0 R1 H1 (Se.rest b) σ := Sls.st h2 c.ext (fun a h => h.elim (fun z => s'.sub a (iS a z)) fun z => by rw [z]; exact s'.tabR) fun a h z => z.elim (fun q => t0.dis a q h) fun q => s'.tabF (by rw [← q]; exact i0 a h)
  have nG : ∀ a, Gs a → F1 a ∨ F0 a → False := fun a g f => by
    rcases c.newF a g with q | q
    · exact f.elim (fun z => d1S a z q) fun z => t0.dis a q z
    · exact s'.liv a (s'.sub a (f.elim (i1 a) (i0 a))) q
  have out : ∀ a, F1 a ∨ F0 a → R1 a := fun a f => c.left a (s'.sub a (f.elim (i1 a) (i0 a))) fun z => f.elim (fun q => d1S a q z) fun q => t0.dis a z q
  refine ⟨fun a => F1 a ∨ Gs a ∨ F0 a, ⟨fun b o n m h => c.keep b o (fun z => n (iS b z)) m h, c.newR, fun a h => h.elim (fun z => .inl (i1 a z)) fun z => z.elim (fun q => (c.newF a q).elim (fun z => .inl (iS a z)) .inr) fun q => .inl (i0 a q), fun a h n => c.left a h fun z => n (iS a z)⟩, pb _ (fun a => Gs a ∨ F0 a) _ R1 H1 σ p1 (Se.join ⟨fun _ => Iff.rfl, fun a m f => nG a m (.inr f)⟩ r1 f0 hl) (Ag.refl _ _) ⟨fun _ => Iff.rfl, fun a h z => z.elim (fun q => nG a q (.inl h)) fun q => d10 a h q⟩, fun a h => h.elim (fun z => out a (.inl z)) fun z => z.elim (S1.sub a) fun q => out a (.inr q), S1.liv, S1.tab, S1.tabR, fun h => h.elim (fun z => s'.tabF (i1 T z)) fun z => z.elim S1.tabF fun q => s'.tabF (i0 T q)⟩
theorem eo_comp [P : Pre k S Db] [Gf : Fg D1 Db] [Se : Sel idx B S B0] {back : B → List α → D} {wi : D → (List α → B → Prop) → (Addr → D → Prop) → Prop} {g : Db → α → D1} {wt : D1 → (Bool → D1 → Prop) → (Addr → D1 → Prop) → Prop} {we : D1 → (γ → D1 → Prop) → (Addr → D1 → Prop) → Prop}
    (hcm : X.calm = true) (hi : IW X E T is tg iter back wi) (Bs : BScope X scope cl Ts Fr idx) (hk : Ts.length = k) (hmb : ∀ i, k ≤ i → i < k + idx.length → i ∈ mb)
    (hG : ∀ s₀ H₀ C ex pn, GW (blk X scope cl (Ts ++ Fr) s₀ H₀ C ex pn) T mb tg g) (hT : ∀ s₀ H₀ C ex pn, TWs (blk X scope cl (Ts ++ Fr) s₀ H₀ C ex pn) T ifs wt) (hE : ∀ s₀ H₀ C ex pn, EW (blk X scope cl (Ts ++ Fr) s₀ H₀ C ex pn) XF T elt we)
    (hs : ∀ x, foldedSetIterable iter X.env x = pure x := by intro _; rfl) :
    EO X E T (.ListComp elt [⟨tg, iter, ifs, 0⟩] scope pos) (fun (d : D) (Kn : OL γ → D → Prop) Ke => wi d (fun xs b => xs.length ≤ sizeLine ∧ wComp (stepC P Gf g wt we) xs (Se.sel b) fun ys s1 => Kn ⟨ys⟩ (back (Se.mrg (Se.rest b) s1) xs)) Ke) := by
  obtain ⟨ti, i1, i2⟩ := hi
  refine ⟨_, pe_comp2 hcm i1 Bs hs, fun d F R σ H Kn Ke Q s hw kn ke => ?_⟩
  refine i2 d F R σ H _ _ _ s hw (fun xs b Jt Ps F' F1 F2 R' H' q c s' tw hr ip ps pk pb => ?_) ke
  obtain ⟨Fs, S0, n0, r0, on⟩ := comp_split (idx := idx) (Se := Se) s' tw hr pb
  refine comp_core hk hmb hG hT hE q.1 ip ps pk S0 n0 r0 q.2 fun zs s1 Gs R1 H1 ys kz c1 S1 r1 p1 pz p hp => ?_
  obtain ⟨G, c2, S2⟩ := on c1 S1 r1 p1
  obtain ⟨R2, c3, S3, n3⟩ := ol_new S2 hp pz
  exact kn _ _ _ _ G R2 _ kz (Ch.trans s S2.tab (Ch.trans s s'.tab c c2) c3) S3 n3
theorem s1_comp [P : Pre k S Db] [Gf : Fg D1 Db] [Se : Sel idx B S B0] (j : Nat) {τ0 D0 D2 : Type} [Ow τ0] [Sls D0] [Sls D2] [A : At j D τ0 D0] [U : Pt j D0 (OL γ) D2] [Jp : Pj D PO n] {y : Str} {py spos : Pos} {back : B → List α → D} {wi : D → (List α → B → Prop) → (Addr → D → Prop) → Prop} {g : Db → α → D1} {wt : D1 → (Bool → D1 → Prop) → (Addr → D1 → Prop) → Prop} {we : D1 → (γ → D1 → Prop) → (Addr → D1 → Prop) → Prop}
    (hN : X.N.Nodup) (hj : X.N[j]? = some y) (hy : X.env.scope.names.lookup y = some .local) (hsw : swapsWith (.ListComp elt [⟨tg, iter, ifs, 0⟩] scope pos) (some (.Name y py)) spos.line X.env = pure true) (hm : j ∉ ms)
    (hcm : X.calm = true) (hi : IW X E T is tg iter back wi) (Bs : BScope X scope cl Ts Fr idx) (hk : Ts.length = k) (hmb : ∀ i, k ≤ i → i < k + idx.length → i ∈ mb)
    (hG : ∀ s₀ H₀ C ex pn, GW (blk X scope cl (Ts ++ Fr) s₀ H₀ C ex pn) T mb tg g) (hT : ∀ s₀ H₀ C ex pn, TWs (blk X scope cl (Ts ++ Fr) s₀ H₀ C ex pn) T ifs wt) (hE : ∀ s₀ H₀ C ex pn, EW (blk X scope cl (Ts ++ Fr) s₀ H₀ C ex pn) XF T elt we)
    (hs : ∀ x, foldedSetIterable iter X.env x = pure x := by intro _; rfl) :
    S1 X E T ms n (.Assign [.Name y py] (.ListComp elt [⟨tg, iter, ifs, 0⟩] scope pos) spos) (fun (d : D) (Kn : D2 → Prop) (Kr : τ → PO → Prop) Ke => wi d (fun xs b => xs.length ≤ sizeLine ∧ wComp (stepC P Gf g wt we) xs (Se.sel b) fun ys s1 => Kn (U.put (A.hole (back (Se.mrg (Se.rest b) s1) xs)) ⟨ys⟩)) fun C d' => Ke C (Jp.pj d')) := by
  obtain ⟨ti, i1, i2⟩ := hi
  refine ⟨_, ps_comp2 hN hj hy hsw hcm i1 Bs hs, fun d F R σ H Kn Kr Ke En s hw kn kr ke => ?_⟩
  refine i2 d F R σ H _ _ _ s hw (fun xs b Jt Ps F' F1 F2 R' H' q c s' tw hr ip ps pk pb => ?_) fun C y d' F' R' H' q c s' => ?_
  · obtain ⟨Fs, S0, n0, r0, on⟩ := comp_split (idx := idx) (Se := Se) s' tw hr pb
    refine comp_core hk hmb hG hT hE q.1 ip ps pk S0 n0 r0 q.2 fun zs s1 Gs R1 H1 ys kz c1 S1 r1 p1 pz p hp => ?_
    obtain ⟨G, c2, S2⟩ := on c1 S1 r1 p1
    obtain ⟨R2, c3, S3, n3⟩ := ol_new S2 hp pz
    obtain ⟨G2, g2, S4⟩ := put_t (i := j) S3 n3
    exact kn _ G2 R2 _ _ kz ((Ch.trans s S2.tab (Ch.trans s s'.tab c c2) c3).less g2) S4 (Ag.set hm)
  · obtain ⟨G, g1, g2⟩ := stt_pj (PO := PO) s'
    exact ke C y _ G R' H' q (c.less g1) g2
end
end WL
namespace WL
variable [L2.GX]
open PySem L2
open Rep (rp)
open Ow (sl)
open Sls (rel)
def Kp (g : Addr) (H H' : Hp) : Prop := ∀ b o, b ≠ g → H b = some o → H' b = some o
theorem Kp.refl (g : Addr) (H : Hp) : Kp g H H := fun _ _ _ h => h
theorem Kp.trans {g : Addr} {H H1 H2 : Hp} (a : Kp g H H1) (b : Kp g H1 H2) : Kp g H H2 := fun c o n h => b c o n (a c o n h)
theorem Kp.at {g : Addr} {H : Hp} {o : HO} : Kp g H (upd H g o) := fun b u n e => by rw [upd_ne n]; exact e
theorem same_new {p : Addr} {H : Hp} {o : HO} (h : H p = none) : Same H (upd H p o) := fun b u e => by rw [upd_ne (ne_of_none e h)]; exact e
def bagL (q : Addr) (i z s : Int) : List V := [.ref q, .int i, .int z, .int s]
structure BagAt (H : Hp) (g q : Addr) (ns : List Int) (i z s : Int) : Prop where
  ob : H g = some (.lst (bagL q i z s))
  sc : H q = some (.lst (ns.map V.int))
  i0 : 0 ≤ i
  ne : q ≠ g
theorem BagAt.put {H : Hp} {g q : Addr} {ns : List Int} {i z s : Int} (B : BagAt H g q ns i z s) {i' z' : Int} (h : 0 ≤ i') : BagAt (upd H g (.lst (bagL q i' z' s))) g q ns i' z' s := ⟨upd_same, by rw [upd_ne B.ne]; exact B.sc, h, B.ne⟩
theorem bat0 (q : Addr) (i z s : Int) : atI (bagL q i z s) 0 = some (.ref q) := rfl
theorem bat1 (q : Addr) (i z s : Int) : atI (bagL q i z s) 1 = some (.int i) := rfl
theorem bat2 (q : Addr) (i z s : Int) : atI (bagL q i z s) 2 = some (.int z) := rfl
theorem bat3 (q : Addr) (i z s : Int) : atI (bagL q i z s) 3 = some (.int s) := rfl
theorem mulOk (x : Int) : -(2 ^ 64) < x % 2147483647 ∧ x % 2147483647 < 2 ^ 64 := by
  have h1 := Int.emod_nonneg x (show (2147483647 : Int) ≠ 0 by decide)
  have h2 := Int.emod_lt_of_pos x (show (0 : Int) < 2147483647 by decide)
  omega
theorem at_ints {ns : List Int} {i : Int} (h0 : 0 ≤ i) (h1 : i < (ns.length : Int)) : ∃ n, atI (ns.map V.int) i = some (.int n) := by
  have hl : i.toNat < ns.length := by omega
  have e : (ns.map V.int)[i.toNat]? = some (.int ns[i.toNat]) := by rw [List.getElem?_map, List.getElem?_eq_getElem hl]; rfl
  have := atI_nat e
  rw [show ((i.toNat : Nat) : Int) = i by omega] at this
  exact ⟨_, this⟩
structure Bg where
instance : Ow Bg := ⟨fun F _ H _ v => ∃ g q ns i z s, v = some (.ref g) ∧ (∀ b, F b ↔ b = g ∨ b = q) ∧ BagAt H g q ns i z s,
  fun {F G R H R' H' x v} h e s n => by
    obtain ⟨g, q, ns, i, z, s', h1, h2, h3⟩ := h
    exact ⟨g, q, ns, i, z, s', h1, h2, ⟨e.keep g _ (n g ((h2 g).mpr (.inl rfl))) h3.ob, e.keep q _ (n q ((h2 q).mpr (.inr rfl))) h3.sc, h3.i0, h3.ne⟩⟩,
  fun h e => by
    obtain ⟨g, q, ns, i, z, s', h1, h2, h3⟩ := h
    exact ⟨g, q, ns, i, z, s', h1, fun b => (e b).symm.trans (h2 b), h3⟩⟩
instance : Hs Bg := ⟨fun ⟨_, _, _, _, _, _, h, _⟩ => ⟨_, h⟩⟩
def spPull : Sp := fun vs H Q _ => ∃ (g q : Addr) (ns : List Int) (i z s many : Int), vs = [.ref g, .int many] ∧ BagAt H g q ns i z s ∧ 0 < many ∧ many < 1073741824 ∧
  ∀ H' i' z' r, Kp g H H' → BagAt H' g q ns i' z' s → 0 ≤ r → r < many → Q (.int r) H'
abbrev wPull : Bg × Int × Unit → (Int → Bg × Un × Unit → Prop) → (Addr → Bg × Un × Unit → Prop) → Prop := fun p Kn _ => 0 < p.2.1 ∧ p.2.1 < 1073741824 ∧ ∀ r, 0 ≤ r → r < p.2.1 → Kn r (⟨⟩, ⟨⟩, ())
theorem fn_cx {P : Program} {w : World} {K : PySem.W.Frag} {mg : Str → Option Value} {base : Heap} {k : Nat} {f : Addr} {fd : FuncData} {ps : List Str} {sp : Sp} (F : FnOk P w K mg base CX0 k f fd ps sp) : FnOk P w K mg base (CX1 P w) k f fd ps sp :=
  ⟨F.len, fun A outer s H args us vs Q E hr he hb hv hs => codeAny_mono (F.run A outer s H args us vs Q E hr he hb hv hs) fun r s' h => by
    cases r with
    | error e => exact False.elim h
    | ok fl =>
      cases fl with
      | ret u => exact h
      | next => exact False.elim h
      | brk => exact False.elim h
      | cont => exact False.elim h⟩
theorem pull_w {T : Addr} {P : Program} {w : World} {K : PySem.W.Frag} {mg : Str → Option Value} {base : Heap} {k : Nat} {f : Addr} {fd : FuncData} {ps : List Str} (F : FnOk P w K mg base CX0 k f fd ps spPull) : FnOk P w K mg base (CX1 P w) k f fd ps (spW T wPull) := by
  refine (fn_cx F).imp fun vs H Q E h => ?_
  obtain ⟨Fo, R, p, Kn, Ke, s, ⟨m0, m1, hw⟩, kn, _⟩ := h
  obtain ⟨v1, σ1, F1, F2, e1, t1, ⟨g, q, ns, i, z, s', rfl, hf, hb⟩, r1⟩ := s.rel
  obtain ⟨v2, σ2, F3, F4, e2, t2, ⟨n3, u, rfl, r2⟩, e3, n4⟩ := r1
  have r2 : u = V.int p.2.1 := r2
  subst r2
  subst e2 e3
  have ev : vs = [.ref g, .int p.2.1] := by
    match vs, e1 with
    | [a, b], e1 => simp at e1; obtain ⟨rfl, rfl⟩ := e1; rfl
  subst ev
  have F2n : ∀ a, ¬F2 a := fun a h => ((t2.all a).mp h).elim (n3 a) (n4 a)
  have gF : Fo g := (t1.all g).mpr (.inl ((hf g).mpr (.inl rfl)))
  have gT : g ≠ T := fun e => s.tabF (by rw [← e]; exact gF)
  refine ⟨g, q, ns, i, z, s', p.2.1, rfl, hb, m0, m1, fun H' i' z' r kp B' r0 r1 => ?_⟩
  have liv : ∀ a, R a → H' a ≠ none := fun a h => by
    by_cases e : a = g
    · rw [e, B'.ob]; simp
    · cases e' : H a with
      | none => exact absurd e' (s.liv a h)
      | some o => rw [kp a o e e']; simp
  refine kn r (⟨⟩, ⟨⟩, ()) _ (fun _ => False) Fo R H' (hw r r0 r1) ⟨fun b o n _ h => kp b o (fun e => n (by rw [e]; exact gF)) h, fun _ h => .inl h, fun a h => h.elim (fun z => z.elim) .inl, fun _ h _ => h⟩
    ⟨⟨_, _, F1, F2, rfl, t1, ⟨g, q, ns, i', z', s', rfl, hf, B'⟩, _, _, F3, F4, rfl, t2, n3, rfl, n4⟩, s.sub, liv, ?_, s.tabR, s.tabF⟩ ⟨⟨fun _ z => z, _, rfl, rfl⟩, fun _ z => z.elim, fun _ z => z.elim, fun z => z⟩
  obtain ⟨ps, e, t⟩ := s.tab
  exact ⟨ps, kp T _ (fun e => gT e.symm) e, t⟩
end WL
namespace WL
variable [L2.GX]
open PySem L2
open Rep (rp)
open Ow (sl)
open Sls (rel)
structure Fn (K : PySem.W.Frag) (mg : Str → Option Value) (x : Str) (st : Stmt) (ps : List Str) (f : Addr) (fd : FuncData) : Prop where
  fn : Fun K x x st f fd
  at_ : mg x = some (.ref f)
  bd : Binds K fd ps []
theorem fn_nice {P : Program} {w : World} {K : PySem.W.Frag} {mg : Str → Option Value} {base : Heap} {T : Addr} {k : Nat} {f : Addr} {fd : FuncData} {ps : List Str} {A PO τ : Type} [Sls A] [Sls PO] [Ow τ] {w1 w2 : A → (τ → PO → Prop) → (Addr → PO → Prop) → Prop} (F : FnOk P w K mg base (CX1 P w) k f fd ps (spW T w1)) (h : ∀ p Kn Ke, w2 p Kn Ke → w1 p Kn Ke) : FnOk P w K mg base (CX1 P w) k f fd ps (spW T w2) :=
  F.imp fun vs H Q E ⟨F, R, p, Kn, Ke, s, hw, r⟩ => ⟨F, R, p, Kn, Ke, s, h p Kn Ke hw, r⟩
theorem lkc {β : Type} {n x : Str} {c c' : β} {r : List (Str × β)} (h : List.lookup x ((n, c) :: r) = some c') : (x = n ∧ c' = c) ∨ List.lookup x r = some c' := by
  rw [List.lookup_cons] at h
  cases q : x == n with
  | true => rw [q] at h; exact .inl ⟨eq_of_beq q, (Option.some.inj h).symm⟩
  | false => rw [q] at h; exact .inr h
theorem fc {α : Type} {p : α → Prop} {a : α} {l : List α} (h : p a) (t : ∀ y ∈ l, p y) : ∀ y ∈ a :: l, p y := fun y hy => by
  rcases List.mem_cons.mp hy with e | e
  · rw [e]; exact h
  · exact t y e
theorem hmb_of {k m : Nat} {mb : List Nat} (h : mb = (List.range m).map (k + ·)) : ∀ i, k ≤ i → i < k + m → i ∈ mb := fun i h1 h2 => by
  rw [h]
  exact List.mem_map.mpr ⟨i - k, List.mem_range.mpr (by omega), by omega⟩
theorem fnil {α : Type} {p : α → Prop} : ∀ y ∈ ([] : List α), p y := fun _ h => by cases h
section
variable {X : Cx} {E : XK} {T : Addr} {ms : List Nat} {n : Nat} {D PO τ : Type} [Sls D] [Sls PO] [Ow τ] {pos : Pos} {α : Type} [Rep α]
theorem ew_str {x : Str} {k : Nat} : EW X E T (.Constant (.str x) k pos) (fun (d : D) (Kn : Str → D → Prop) _ => Kn x d) :=
  ⟨_, pe_str, fun d F R σ H Kn Ke Q s hw kn _ => kn x d _ F R H hw (Ch.refl _ _ _ _) s rfl⟩
theorem ew_neg {a : Expr} {wa : D → (Int → D → Prop) → (Addr → D → Prop) → Prop} (ha : EW X E T a wa) : EW X E T (.UnaryOp .USub a pos) (fun (d : D) (Kn : Int → D → Prop) Ke => wa d (fun x d1 => Kn (-x) d1) Ke) := by
  have h := ew_one (c := fun _ => True) (γ := Int) (g := fun x : Int => -x) (e := .UnaryOp .USub a pos) ha (fun ta h1 => pe_un un_neg h1) fun h1 _ k => ⟨_, h1, k _ rfl⟩
  simp only [true_and] at h
  exact h
theorem s1_retO {x : Str} {p1 : Pos} (i : Nat) {D' D0 : Type} [Sls D'] [Sls D0] [Hs τ] [A : At i D τ D0] [J : Pj D0 PO n] (hn : PE X (.Name x p1) (tVar i)) : S1 X E T ms n (.Return (some (.Name x p1)) pos) (fun (d : D) (_ : D' → Prop) (Kr : τ → PO → Prop) _ => Kr (A.get d) (J.pj (A.hole d))) := by
  refine ⟨_, ps_ret hn, fun d F R σ H Kn Kr Ke En s hw kn kr ke => ?_⟩
  obtain ⟨v, F1, F2, g1, g2, g3, g4⟩ := A.take s.rel
  obtain ⟨u, rfl⟩ := Hs.has g3
  have f2 : ∀ a, F2 a → F a := fun a h => (g2.all a).mpr (.inr h)
  obtain ⟨G, k1, k2⟩ := J.le g4
  exact ⟨u, g1, kr _ _ u F1 G R H hw ⟨fun b o _ _ h => h, fun _ h => .inl h, fun a h => .inl (h.elim (fun z => (g2.all a).mpr (.inl z)) fun z => f2 a (k1 a z)), fun _ h _ => h⟩ ⟨k2, fun a h => s.sub a (f2 a (k1 a h)), s.liv, s.tab, s.tabR, fun h => s.tabF (f2 T (k1 T h))⟩ ⟨g3, fun a h => s.sub a ((g2.all a).mpr (.inl h)), fun a h z => g2.dis a h (k1 a z), fun h => s.tabF ((g2.all T).mpr (.inl h))⟩⟩
class Ist (α : Type) [Rep α] (ty : String) (b : outParam Bool) : Prop where
  ist : ∀ {K : PySem.W.Frag} {R : Rg} {H : Hp} {x : α} {v : V}, rp R H x v → ∃ t, TyOf K H v t ∧ PySem.W.kitOne K t (.type ty) = some b
instance : Ist Int "int" true := ⟨fun {K R H x v} h => by
  have h : v = V.int x := h
  subst h
  exact ⟨_, TyOf.int x, by rfl⟩⟩
instance : Ist Int "bool" false := ⟨fun {K R H x v} h => by
  have h : v = V.int x := h
  subst h
  exact ⟨_, TyOf.int x, by rfl⟩⟩
instance : Ist (List α) "list" true := ⟨fun {K R H x v} h => by
  obtain ⟨a, vs, rfl, _, h3, _⟩ := h
  exact ⟨_, TyOf.lst h3, by rfl⟩⟩
theorem ew_isinst {a : Expr} {ty : String} {x : Str} {b : Bool} {p q : Pos} [Ist α ty b] {wa : D → (α → D → Prop) → (Addr → D → Prop) → Prop} (hg : Gl X "isinstance") (hm : X.mg "isinstance" = none) (hty : PE X (.Name x q) (tC (.ty ty))) (ha : EW X E T a wa)
    (hs : starEach [a, .Name x q] X.env = (false, eval a X.env) :: starEach [.Name x q] X.env := by rfl) (hs2 : starEach [.Name x q] X.env = (false, eval (.Name x q) X.env) :: starEach [] X.env := by rfl) (hpl : (backTo pos (starEach [.Name x q] X.env)).any (·.1) = false := by rfl) :
    EW X E T (.Call (.Name "isinstance" p) [a, .Name x q] [] pos) (fun (d : D) (Kn : Bool → D → Prop) Ke => wa d (fun _ d1 => Kn b d1) Ke) := by
  obtain ⟨ta, a1, a2⟩ := ha
  refine ⟨_, pe_callB call_isinst hg hm PyProof.Rows.boot_isinstance (pa_cons a1 (pa_cons hty pa_nil hs2) hs) (he := hs) (hpl := hpl), fun d F R σ H Kn Ke Q s hw kn ke => a2 d F R σ H _ Ke _ s hw (fun y d1 u F1 R1 H1 q1 c1 s1 r1 => ?_) ke⟩
  obtain ⟨t, t1, t2⟩ := Ist.ist (ty := ty) (K := X.K) r1
  exact ⟨u, ty, t, b, rfl, t1, t2, kn _ d1 _ F1 R1 H1 q1 c1 s1 rfl⟩
end
end WL
namespace ZT
open PySem PySem.Spec PyProof.Rows
section
variable {prog : Program} {w : World} {A : Around} {E : Value → Shared → Prop} {s : Shared}
theorem tup_item {it t : Addr} {i : Nat} {xs : Array Value} {x : Value} {Q : Value → Shared → Prop} (hit : s.heap.IsTupleIter it t i) (ht : s.heap.IsTuple t xs) (hx : xs[i]? = some x)
    (hQ : ∀ h', h'.IsTupleIter it t (i + 1) → Heap.SameBut it s.heap h' → Q x { s with heap := h' }) : wpAny (model prog w) A (Builtin.SmallTypes.nextOf (.ref it)) Q E s := by
  obtain ⟨o, ho, hc, hd⟩ := id hit; obtain ⟨p, hp, _, m, hm⟩ := ht; unfold Builtin.SmallTypes.nextOf
  refine wpAny_bind (wpAny_callSpecial?_slot (name := Str.ofString "__next__") hit.typeIs F.slot_tuple_iterator_next (wpAny_call_entry F.slot_tuple_iterator_next hit.typeIs F.entry_tuple_iterator_next ?_ (F.args_tuple_iterator_next_1 _)))
  show wpAny _ _ (field (.ref it) 0 >>= _) _ _ s; refine wpAny_bind (wpAny_field ho hd (x := .ref t) rfl ?_)
  show wpAny _ _ (if (Value.ref t == Value.none) = true then _ else _) _ _ s; rw [if_neg (show ¬ ((Value.ref t == Value.none) = true) from Bool.false_ne_true)]
  show wpAny _ _ (field (.ref it) 1 >>= _) _ _ s; refine wpAny_bind (wpAny_field ho hd (x := .int i 0) rfl ?_)
  show wpAny _ _ (seqItems? (.ref t) >>= _) _ _ s; refine wpAny_bind (wpAny_seqItems hp hm ?_); simp only [Int.toNat_natCast, hx]
  have fin : Heap.IsTupleIter (s.heap.update it fun ob => ob.mapFields (·.setIfInBounds 1 (rawInt ((i : Int) + 1)))) it t (i + 1) := ⟨_, Heap.get?_update_self _ ho (Obj.isFreed_of_fields (Obj.data_mapFields hd _)), (Obj.cls_mapFields ..).trans hc, by rw [Obj.data_mapFields hd]; simp [rawInt]⟩
  exact wpAny_bind (wpAny_setField ho hd (by simp) (wpAny_pure ⟨x, rfl, wpAny_pure (hQ _ fin (Heap.SameBut.update ..))⟩))
theorem tup_end {it t : Addr} {i : Nat} {xs : Array Value} {Q : Value → Shared → Prop} (hh : A.handled = none) (hit : s.heap.IsTupleIter it t i) (ht : s.heap.IsTuple t xs) (hx : xs[i]? = none)
    (hE : ∀ h' e, Heap.ExtBut it s.heap h' → (∃ o, h'.get? e = some o ∧ o.cls = .type "StopIteration") → E (.ref e) { s with heap := h' }) : wpAny (model prog w) A (Builtin.SmallTypes.nextOf (.ref it)) Q E s := by
  obtain ⟨o, ho, hc, hd⟩ := id hit; obtain ⟨p, hp, _, m, hm⟩ := ht; unfold Builtin.SmallTypes.nextOf
  refine wpAny_bind (wpAny_callSpecial?_slot (name := Str.ofString "__next__") hit.typeIs F.slot_tuple_iterator_next (wpAny_call_entry F.slot_tuple_iterator_next hit.typeIs F.entry_tuple_iterator_next ?_ (F.args_tuple_iterator_next_1 _)))
  show wpAny _ _ (field (.ref it) 0 >>= _) _ _ s; refine wpAny_bind (wpAny_field ho hd (x := .ref t) rfl ?_)
  show wpAny _ _ (if (Value.ref t == Value.none) = true then _ else _) _ _ s; rw [if_neg (show ¬ ((Value.ref t == Value.none) = true) from Bool.false_ne_true)]
  show wpAny _ _ (field (.ref it) 1 >>= _) _ _ s; refine wpAny_bind (wpAny_field ho hd (x := .int i 0) rfl ?_)
  show wpAny _ _ (seqItems? (.ref t) >>= _) _ _ s; refine wpAny_bind (wpAny_seqItems hp hm ?_); simp only [Int.toNat_natCast, hx]
  refine wpAny_bind (wpAny_rule (wpAny_bind (wpAny_setField ho hd (by simp) ?_))); show wpAny _ _ (newExc (.type "StopIteration") [] >>= _) _ _ _
  refine wpAny_bind ?_; simp only [newExc, newTuple]; refine wpAny_bind (wpAny_newObj_type ?_ (by size_fits))
  refine wpAny_bind (m := firstArgMember _ _) (wpAny_of_eq (a := Value.none) (by first | rfl | (simp only [firstArgMember]; rfl)) (wpAny_newObj_type ?_ (by size_fits)))
  simp only [raiseNew]; refine wpAny_bind (wpAny_handled ?_); first | rw [show A.in1.handled = none from hh] | rw [hh]
  exact wpAny_bind (wpAny_pure (wpAny_throw (hE _ _ (((Heap.SameBut.update ..).extBut.push _).push _) ⟨_, Heap.get?_push_size _ rfl, rfl⟩)))
abbrev ZSt (h : Heap) (z TI TO i1 i2 l1 l2 : Addr) (f : Value) (k : Nat) (xs ys : Array Value) : Prop :=
  IsZip h z TI TO f ∧ IsPair h TI (.ref i1) (.ref i2) ∧ (∃ a b, IsPair h TO a b) ∧ h.IsTupleIter i1 l1 k ∧ h.IsTupleIter i2 l2 k ∧ h.IsTuple l1 xs ∧ h.IsTuple l2 ys
theorem zt_item {z TI TO i1 i2 l1 l2 : Addr} {k : Nat} {xs ys : Array Value} {x y : Value} {Q : Value → Shared → Prop} (D : ZipApart z TI TO i1 i2 l1 l2) (st : ZSt s.heap z TI TO i1 i2 l1 l2 .none k xs ys) (hx : xs[k]? = some x) (hy : ys[k]? = some y)
    (hQ : ∀ h', IsZip h' z TI TO (rawInt s.heap.objs.size) → IsPair h' TO x y → h'.IsTupleIter i1 l1 (k + 1) → h'.IsTupleIter i2 l2 (k + 1) → IsPair h' s.heap.objs.size x y →
      (∀ c o, c ≠ z → c ≠ TO → c ≠ i1 → c ≠ i2 → s.heap.get? c = some o → h'.get? c = some o) → Q (.ref s.heap.objs.size) { s with heap := h' }) :
    wpAny (model prog w) A (Builtin.«zip.__next__» ⟨[.ref z], []⟩) (fun fin s' => ∃ v, fin = .done (.ret v) ∧ Q v s') E s := by
  obtain ⟨hz, hTI, ⟨a, b, hTO⟩, h1, h2, hl1, hl2⟩ := st
  show wpAny _ _ (field (.ref z) 2 >>= _) _ _ _; refine wpAny_bind (wpAny_field hz rfl (x := .bool false) rfl ?_)
  show wpAny _ _ (field (.ref z) 3 >>= _) _ _ _; refine wpAny_bind (wpAny_field hz rfl (x := .ref TI) rfl (wpAny_bind (wpAny_seqItems hTI rfl ?_)))
  show wpAny _ _ (Builtin.SmallTypes.ownedTupleIsFree (.ref z) >>= _) _ _ _; refine wpAny_bind ?_; unfold Builtin.SmallTypes.ownedTupleIsFree
  refine wpAny_bind (wpAny_field hz rfl (x := .none) rfl (wpAny_pure ?_)); simp only [if_true]
  refine wpAny_bind (wpAny_rule (wpAny_bind (wpAny_field hz rfl (x := .ref TO) rfl (wpAny_bind (wpAny_setField_rec hz (by simp) fun g1 z1 e1 => ?_)))))
  replace z1 : IsZip g1 z TI TO .ellipsis := z1; refine wpAny_bind ?_; simp only [List.zipIdx_cons, List.zipIdx_nil, List.forIn_cons, List.forIn_nil]
  refine wpAny_bind (wpAny_bind (wpAny_onRaise ?_)); show wpAny _ _ (Builtin.SmallTypes.nextOf (.ref i1) >>= _) _ _ _
  refine wpAny_bind (tup_item (h1.extBut e1.extBut D.i1z) (hl1.extBut e1.extBut D.l1z) hx fun g2 a2 e2 => wpAny_pure ?_)
  have p2 : IsPair g2 TO a b := e2.extBut _ _ D.TOi1 (e1.extBut _ _ D.TOz hTO)
  refine wpAny_bind (wpAny_seqItems p2 rfl (wpAny_bind (wpAny_updateSeq_pair p2 fun g3 p3 e3 => wpAny_bind (wpAny_letGo (wpAny_pure ?_)))))
  replace p3 : IsPair g3 TO x b := p3
  refine wpAny_bind (wpAny_bind (wpAny_onRaise ?_)); show wpAny _ _ (Builtin.SmallTypes.nextOf (.ref i2) >>= _) _ _ _
  refine wpAny_bind (tup_item (((h2.extBut e1.extBut D.i2z).extBut e2.extBut D.i12.symm).extBut e3.extBut D.TOi2.symm) (((hl2.extBut e1.extBut D.l2z).extBut e2.extBut D.l2i1).extBut e3.extBut D.l2TO) hy fun g4 a4 e4 => wpAny_pure ?_)
  have p4 : IsPair g4 TO x b := e4.extBut _ _ D.TOi2 p3
  refine wpAny_bind (wpAny_seqItems p4 rfl (wpAny_bind (wpAny_updateSeq_pair p4 fun g5 p5 e5 => wpAny_bind (wpAny_letGo (wpAny_pure (wpAny_pure ?_))))))
  replace p5 : IsPair g5 TO x y := p5
  refine wpAny_bind (wpAny_seqItems p5 rfl (wpAny_bind (wpAny_newTuple ?_)))
  have sz : g5.objs.size = s.heap.objs.size := by rw [e5.1, e4.1, e3.1, e2.1, e1.1]
  have z5 : IsZip g5 z TI TO .ellipsis := e5.extBut _ _ D.TOz.symm (e4.extBut _ _ D.i2z.symm (e3.extBut _ _ D.TOz.symm (e2.extBut _ _ D.i1z.symm z1)))
  have k5 : ∀ c o, c ≠ z → c ≠ TO → c ≠ i1 → c ≠ i2 → s.heap.get? c = some o → g5.get? c = some o := fun c o c1 c2 c3 c4 e => e5.extBut _ _ c2 (e4.extBut _ _ c4 (e3.extBut _ _ c2 (e2.extBut _ _ c3 (e1.extBut _ _ c1 e))))
  have q1 : g5.IsTupleIter i1 l1 (k + 1) := ((a2.extBut e3.extBut D.TOi1.symm).extBut e4.extBut D.i12).extBut e5.extBut D.TOi1.symm
  have q2 : g5.IsTupleIter i2 l2 (k + 1) := a4.extBut e5.extBut D.TOi2.symm
  have lz : z < g5.objs.size := Heap.lt_size z5
  show wpAny _ _ (Builtin.SmallTypes.ownedTupleHandOut (.ref z) (.ref g5.objs.size) >>= _) _ _ _; refine wpAny_bind ?_; unfold Builtin.SmallTypes.ownedTupleHandOut
  have z6 : IsZip (g5.push { cls := .type "tuple", data := .seq #[x, y] }) z TI TO .ellipsis := Heap.get?_push_of_some _ z5
  refine wpAny_bind (wpAny_setField_rec z6 (by simp) fun g7 z7 e7 => ?_); replace z7 : IsZip g7 z TI TO (rawInt g5.objs.size) := z7
  refine wpAny_setField_rec z7 (by simp) fun g8 z8 e8 => ?_; replace z8 : IsZip g8 z TI TO (rawInt g5.objs.size) := z8
  have up : ∀ c o, c ≠ z → g5.get? c = some o → g8.get? c = some o := fun c o c1 e => e8.extBut _ _ c1 (e7.extBut _ _ c1 (Heap.get?_push_of_some _ e))
  have t8 : IsPair g8 g5.objs.size x y := e8.extBut _ _ (Nat.ne_of_gt lz) (e7.extBut _ _ (Nat.ne_of_gt lz) (Heap.get?_push_size _ rfl))
  rw [sz] at z8 t8; refine wpAny_pure ⟨_, rfl, ?_⟩; show Q (.ref g5.objs.size) _; rw [sz]
  exact hQ g8 z8 (up _ _ D.TOz p5) (q1.at fun o e => up _ o D.i1z e) (q2.at fun o e => up _ o D.i2z e) t8 fun c o c1 c2 c3 c4 e => up c o c1 (k5 c o c1 c2 c3 c4 e)
theorem zt_end {z TI TO i1 i2 l1 l2 : Addr} {k : Nat} {xs ys : Array Value} {Q : Fin → Shared → Prop} (hh : A.handled = none) (D : ZipApart z TI TO i1 i2 l1 l2) (st : ZSt s.heap z TI TO i1 i2 l1 l2 .none k xs ys) (hend : xs[k]? = none ∨ ys[k]? = none)
    (hE : ∀ h' e, (∀ c o, c ≠ z → c ≠ TO → c ≠ i1 → c ≠ i2 → s.heap.get? c = some o → h'.get? c = some o) → (∃ o, h'.get? e = some o ∧ o.cls = .type "StopIteration") → E (.ref e) { s with heap := h' }) :
    wpAny (model prog w) A (Builtin.«zip.__next__» ⟨[.ref z], []⟩) Q E s := by
  obtain ⟨hz, hTI, ⟨a, b, hTO⟩, h1, h2, hl1, hl2⟩ := st
  show wpAny _ _ (field (.ref z) 2 >>= _) _ _ _; refine wpAny_bind (wpAny_field hz rfl (x := .bool false) rfl ?_)
  show wpAny _ _ (field (.ref z) 3 >>= _) _ _ _; refine wpAny_bind (wpAny_field hz rfl (x := .ref TI) rfl (wpAny_bind (wpAny_seqItems hTI rfl ?_)))
  show wpAny _ _ (Builtin.SmallTypes.ownedTupleIsFree (.ref z) >>= _) _ _ _; refine wpAny_bind ?_; unfold Builtin.SmallTypes.ownedTupleIsFree
  refine wpAny_bind (wpAny_field hz rfl (x := .none) rfl (wpAny_pure ?_)); simp only [if_true]
  refine wpAny_bind (wpAny_rule (wpAny_bind (wpAny_field hz rfl (x := .ref TO) rfl (wpAny_bind (wpAny_setField_rec hz (by simp) fun g1 z1 e1 => ?_)))))
  replace z1 : IsZip g1 z TI TO .ellipsis := z1; refine wpAny_bind ?_; simp only [List.zipIdx_cons, List.zipIdx_nil, List.forIn_cons, List.forIn_nil]
  refine wpAny_bind (wpAny_bind (wpAny_onRaise ?_)); show wpAny _ _ (Builtin.SmallTypes.nextOf (.ref i1) >>= _) _ _ _
  cases hx : xs[k]? with
  | none =>
    refine wpAny_bind (tup_end hh (h1.extBut e1.extBut D.i1z) (hl1.extBut e1.extBut D.l1z) hx fun g2 e e2 he => ?_); obtain ⟨oe, ho, hc⟩ := he
    have z2 : IsZip g2 z TI TO .ellipsis := e2 _ _ D.i1z.symm z1
    have ne : e ≠ z := fun q => by subst q; rw [z2] at ho; cases ho; simp at hc
    exact wpAny_setField_rec z2 (by simp) fun g3 _ e3 => hE g3 e (fun c o c1 _ c3 _ q => e3.extBut _ _ c1 (e2 _ _ c3 (e1.extBut _ _ c1 q))) ⟨oe, e3.extBut _ _ ne ho, hc⟩
  | some x =>
    have hy : ys[k]? = none := by rcases hend with h | h; rw [hx] at h; cases h; exact h
    refine wpAny_bind (tup_item (h1.extBut e1.extBut D.i1z) (hl1.extBut e1.extBut D.l1z) hx fun g2 a2 e2 => wpAny_pure ?_)
    have p2 : IsPair g2 TO a b := e2.extBut _ _ D.TOi1 (e1.extBut _ _ D.TOz hTO)
    refine wpAny_bind (wpAny_seqItems p2 rfl (wpAny_bind (wpAny_updateSeq_pair p2 fun g3 p3 e3 => wpAny_bind (wpAny_letGo (wpAny_pure ?_)))))
    refine wpAny_bind (wpAny_bind (wpAny_onRaise ?_)); show wpAny _ _ (Builtin.SmallTypes.nextOf (.ref i2) >>= _) _ _ _
    refine wpAny_bind (tup_end hh (((h2.extBut e1.extBut D.i2z).extBut e2.extBut D.i12.symm).extBut e3.extBut D.TOi2.symm) (((hl2.extBut e1.extBut D.l2z).extBut e2.extBut D.l2i1).extBut e3.extBut D.l2TO) hy fun g4 e e4 he => ?_)
    obtain ⟨oe, ho, hc⟩ := he
    have z4 : IsZip g4 z TI TO .ellipsis := e4 _ _ D.i2z.symm (e3.extBut _ _ D.TOz.symm (e2.extBut _ _ D.i1z.symm z1))
    have ne : e ≠ z := fun q => by subst q; rw [z4] at ho; cases ho; simp at hc
    exact wpAny_setField_rec z4 (by simp) fun g5 _ e5 => hE g5 e (fun c o c1 c2 c3 c4 q => e5.extBut _ _ c1 (e4 _ _ c4 (e3.extBut _ _ c2 (e2.extBut _ _ c3 (e1.extBut _ _ c1 q))))) ⟨oe, e5.extBut _ _ ne ho, hc⟩
abbrev tI (l : Addr) : Obj := { cls := .type "tuple_iterator", data := .fields #[.ref l, .int 0 0] }
abbrev H1 (h : Heap) (l1 : Addr) : Heap := h.push (tI l1)
abbrev H2 (h : Heap) (l1 l2 : Addr) : Heap := (H1 h l1).push (tI l2)
abbrev H3 (h : Heap) (l1 l2 : Addr) : Heap := (H2 h l1 l2).push { cls := .type "tuple", data := .seq #[.ref h.objs.size, .ref (H1 h l1).objs.size] }
abbrev H4 (h : Heap) (l1 l2 : Addr) : Heap := (H3 h l1 l2).push { cls := .type "tuple", data := .seq #[.none, .none] }
abbrev H5 (h : Heap) (l1 l2 : Addr) : Heap := (H4 h l1 l2).push { cls := .type "zip", data := .fields #[.none, .bool false, .bool false, .ref (H2 h l1 l2).objs.size, .ref (H3 h l1 l2).objs.size] }
theorem made (l1 l2 : Addr) (xs ys : Array Value) : Meets (Builtin.«zip.__new__» ⟨[.type "zip", .ref l1, .ref l2], []⟩) (fun _ R s => s.heap.IsTuple l1 xs ∧ s.heap.IsTuple l2 ys ∧ R (.ok (.ret (.ref (H4 s.heap l1 l2).objs.size))) { s with heap := H5 s.heap l1 l2 }) :=
  .of_wp fun prog w A R s h => by
    obtain ⟨hp, g, d, tk, os⟩ := s; obtain ⟨t1, t2, h⟩ := h; have hsub := sub_zip
    have L1 : Heap.IsTuple (Shared.heap ⟨hp, g, d, tk, os⟩) l1 xs := t1
    have L2 : Heap.IsTuple (Shared.heap ⟨hp.push (tI l1), g, d, tk, os⟩) l2 ys := Heap.IsTuple.push t2 _
    wp_walk using wpAny_pyIter_tuple L1, wpAny_pyIter_tuple L2
    exact ⟨_, rfl, h⟩
theorem walk (hh : A.handled = none) (z TI TO i1 i2 l1 l2 : Addr) (D : ZipApart z TI TO i1 i2 l1 l2) (xs ys : Array Value) : WalksT prog w A z [z, TI, TO, i1, i2, l1, l2] [z, TO, i1, i2] (min xs.size ys.size)
      (fun i vals => ∃ x y, xs[i]? = some x ∧ ys[i]? = some y ∧ vals = #[x, y]) (fun i h => ZSt h z TI TO i1 i2 l1 l2 .none i xs ys)
      (fun i T h => ZSt h z TI TO i1 i2 l1 l2 (rawInt T) (i + 1) xs ys ∧ T ≠ z ∧ T ≠ TO ∧ T ≠ i1 ∧ T ≠ i2) where
  sub := fun c hc => by simp only [List.mem_cons, List.not_mem_nil, or_false] at hc ⊢; rcases hc with q | q | q | q <;> simp [q]
  frame := fun i h h' st k => by
    obtain ⟨hz, hTI, ⟨a, b, hTO⟩, h1, h2, hl1, hl2⟩ := st
    exact ⟨k z (by simp) _ hz, k TI (by simp) _ hTI, ⟨a, b, k TO (by simp) _ hTO⟩, h1.at fun o e => k i1 (by simp) o e, h2.at fun o e => k i2 (by simp) o e, hl1.at fun o e => k l1 (by simp) o e, hl2.at fun o e => k l2 (by simp) o e⟩
  item := fun i s Q E hi st hQ => by
    have ix : i < xs.size := Nat.lt_of_lt_of_le hi (Nat.min_le_left ..); have iy : i < ys.size := Nat.lt_of_lt_of_le hi (Nat.min_le_right ..)
    have hT : s.TypeIs (.ref z) "zip" := ⟨_, st.1, rfl⟩; unfold pyNext
    refine wpAny_bind (wpAny_attempt (wpAny_callSpecial?_slot (name := Str.ofString "__next__") hT F.slot_zip_next (wpAny_call_entry F.slot_zip_next hT F.entry_zip_next (zt_item D st (Array.getElem?_eq_getElem ix) (Array.getElem?_eq_getElem iy) fun h' a1 a2 a3 a4 a5 k => wpAny_pure ?_) (F.args_zip_next_1 _))))
    obtain ⟨hz, hTI, ⟨a, b, hTO⟩, h1, h2, hl1, hl2⟩ := st
    have lt : ∀ {c o}, s.heap.get? c = some o → s.heap.objs.size ≠ c := fun e => Nat.ne_of_gt (Heap.lt_size e)
    refine hQ s.heap.objs.size #[xs[i], ys[i]] h' s.toks ⟨_, _, Array.getElem?_eq_getElem ix, Array.getElem?_eq_getElem iy, rfl⟩ (Nat.le_refl _) ⟨_, a5, rfl, _, rfl⟩ ⟨⟨a1, k _ _ D.TIz D.TITO D.TIi1 D.TIi2 hTI, ⟨_, _, a2⟩, a3, a4, hl1.at fun o e => k _ o D.l1z D.l1TO D.l1i1 D.l1i2 e, hl2.at fun o e => k _ o D.l2z D.l2TO D.l2i1 D.l2i2 e⟩, lt hz, lt hTO, by obtain ⟨_, e, _⟩ := h1; exact lt e, by obtain ⟨_, e, _⟩ := h2; exact lt e⟩ ?_
    exact fun c o hc e => k c o (fun x => hc (by simp [x])) (fun x => hc (by simp [x])) (fun x => hc (by simp [x])) (fun x => hc (by simp [x])) e
  go := fun elts k pos i T s Q E hm hQ => by
    obtain ⟨⟨hz, hTI, ⟨a, b, hTO⟩, h1, h2, hl1, hl2⟩, _⟩ := hm
    refine wpAny_letOwnedTupleGo_zip hz fun h' hz' e => hQ h' ⟨hz', e.extBut _ _ D.TIz hTI, ⟨a, b, e.extBut _ _ D.TOz hTO⟩, h1.extBut e.extBut D.i1z, h2.extBut e.extBut D.i2z, hl1.extBut e.extBut D.l1z, hl2.extBut e.extBut D.l2z⟩ fun c o hc q => e.extBut _ _ (fun x => hc (by simp [x])) q
  apart := fun i T h hm hT => by
    obtain ⟨_, t1, t2, t3, t4⟩ := hm; simp only [List.mem_cons, List.not_mem_nil, or_false] at hT
    rcases hT with q | q | q | q; exact t1 q; exact t2 q; exact t3 q; exact t4 q
  done := fun s Q E st hQ => by
    have hend : xs[min xs.size ys.size]? = none ∨ ys[min xs.size ys.size]? = none := by
      rcases Nat.le_total xs.size ys.size with h | h
      · rw [Nat.min_eq_left h]; exact .inl (Array.getElem?_eq_none (Nat.le_refl _))
      · rw [Nat.min_eq_right h]; exact .inr (Array.getElem?_eq_none (Nat.le_refl _))
    have hT : s.TypeIs (.ref z) "zip" := ⟨_, st.1, rfl⟩; unfold pyNext
    refine wpAny_bind (wpAny_attempt (wpAny_callSpecial?_slot (name := Str.ofString "__next__") hT F.slot_zip_next (wpAny_call_entry F.slot_zip_next hT F.entry_zip_next (zt_end hh D st hend fun h' e k he => ?_) (F.args_zip_next_1 _))))
    obtain ⟨o, ho, hc⟩ := he
    exact wpAny_bind (wpAny_isInstance (T := "StopIteration") (b := true) ⟨o, ho, hc⟩ isSubtype_stop (wpAny_pure (hQ _ s.toks fun c o hc e => k c o (fun x => hc (by simp [x])) (fun x => hc (by simp [x])) (fun x => hc (by simp [x])) (fun x => hc (by simp [x])) e)))
  self := fun i s Q E st hQ => wpAny_pyIter_zip st.1 hQ
end
end ZT
namespace WL
variable [L2.GX]
open PySem L2
open Rep (rp)
open Ow (sl)
open Sls (rel)
section
variable {X : Cx} {E : XK} {T : Addr} {D : Type} [Sls D] {pos : Pos}
theorem Stt.tabbed {F R : Rg} {H H' : Hp} {d : D} {σ : St} (s : Stt T F R H d σ) (k : ∀ b o, b ≠ T → H b = some o → H' b = some o) (t : TabAt H' T) : Ch T F R H F R H' ∧ Stt T F R H' d σ := by
  refine ⟨⟨fun b o _ n h => k b o n h, fun _ h => .inl h, fun _ h => .inl h, fun _ h _ => h⟩, Sls.st s.rel (G := fun a => a = T) ⟨fun b o n h => k b o n h, fun _ h => .inl h⟩ (fun a h => by rw [h]; exact s.tabR) (fun a h z => s.tabF (by rw [← z]; exact h)), s.sub, fun a h => ?_, t, s.tabR, s.tabF⟩
  by_cases e : a = T
  · rw [e]; exact tab_some t
  · cases q : H a with
    | none => exact absurd q (s.liv a h)
    | some o => rw [k a o e q]; simp
theorem paired_lst {R : Rg} {H : Hp} {x : List Int} {v : V} (h : rp R H x v) : ∃ a, v = .ref a ∧ H a = some (.lst (x.map V.int)) := by
  obtain ⟨a, vs, e, _, h3, h4⟩ := h
  exact ⟨a, e, by rw [h3, paired_ints h4]⟩
theorem ew_lessL {e e1 e2 : Expr} {w1 w2 : D → (List Int → D → Prop) → (Addr → D → Prop) → Prop} (h1 : EW X E T e1 w1) (h2 : EW X E T e2 w2) (hp : ∀ {ta : TA}, PA X [e1, e2] ta → PE X e (tLess X.K T ta))
    (hs : starEach [e1, e2] X.env = (false, eval e1 X.env) :: starEach [e2] X.env := by rfl) (hs2 : starEach [e2] X.env = (false, eval e2 X.env) :: starEach [] X.env := by rfl) :
    EW X E T e (fun (d : D) (Kn : Bool → D → Prop) Ke => w1 d (fun xs d1 => w2 d1 (fun ys d2 => Kn (lessAll xs ys) d2) Ke) Ke) := by
  obtain ⟨ta, a1, a2⟩ := h1
  obtain ⟨tb, b1, b2⟩ := h2
  refine ⟨_, hp (pa_cons a1 (pa_cons b1 pa_nil hs2) hs), fun d F R σ H Kn Ke Q s hw kn ke => ?_⟩
  refine a2 d F R σ H _ Ke _ s hw (fun x d1 u F1 R1 H1 q1 c1 s1 r1 => ?_) ke
  refine b2 d1 F1 R1 σ H1 _ Ke _ s1 q1 (fun y d2 v F2 R2 H2 q2 c2 s2 r2 => ?_) fun C y d' F' R' H' k c s' => ke C y d' F' R' H' k (Ch.trans s s1.tab c1 c) s'
  obtain ⟨a, rfl, ha⟩ := paired_lst (s1.val c2 r1)
  obtain ⟨b, rfl, hb⟩ := paired_lst r2
  refine ⟨a, b, x, y, rfl, SqL.of ha, SqL.of hb, s2.tab, fun H' k _ t => ?_⟩
  obtain ⟨c3, s3⟩ := s2.tabbed k t
  exact kn _ d2 _ F2 R2 H' q2 (Ch.trans s s1.tab c1 (Ch.trans s1 s2.tab c2 c3)) s3 rfl
end
end WL
namespace WL
variable [L2.GX]
open PySem L2
open Rep (rp)
open Ow (sl)
open Sls (rel)
theorem lt_nodup {l : List Int} (h : l.Pairwise (· < ·)) : l.Nodup := h.imp fun q => Int.ne_of_lt q
theorem le_lt {l : List Int} (h : l.Pairwise (· ≤ ·)) (n : l.Nodup) : l.Pairwise (· < ·) := List.Pairwise.imp₂ (fun a b (q : a ≤ b) (n : a ≠ b) => by omega) h n
theorem srt_mem {k : Int} {l : List Int} : k ∈ srt l ↔ k ∈ l := (srt_perm l).mem_iff
section
variable {X : Cx} {E : XK} {T : Addr} {ms : List Nat} {n : Nat} {D PO τ : Type} [Sls D] [Sls PO] [Ow τ] {pos : Pos} {α : Type} [Rep α] {is : List Nat} {tg : Expr}
theorem s1_raise {st : Stmt} {C : Addr} {x : V} {D' : Type} [Sls D'] [J : Pj D PO n] (hp : PS X st (tRaise C E (tCons (tC x) tNil))) : S1 X E T ms n st (fun (d : D) (_ : D' → Prop) (_ : τ → PO → Prop) Ke => Ke C (J.pj d)) := by
  refine ⟨_, hp, fun d F R σ H Kn Kr Ke En s hw kn kr ke => ⟨(by show 1 ≤ sizeLine; decide), fun y => ?_⟩⟩
  obtain ⟨G, g1, g2⟩ := stt_pj (PO := PO) s
  exact ke C y _ G R H hw ((Ch.refl _ _ _ _).less g1) g2
end
end WL
namespace WL
variable [L2.GX]
open PySem L2
open Rep (rp)
open Ow (sl)
open Sls (rel)
def Ris (l : List Int) : Prop := l.Pairwise (· < ·)
def asc (ns : List Int) : Bool := lessAll ns (ns.drop 1)
theorem cut1 {α : Type} (xs : List α) : cutL xs (some 1) none = xs.drop 1 := by
  unfold cutL
  rw [HT.sIx_none, show (some (1 : Int)) = some ((1 : Nat) : Int) from rfl, HT.sIx_nat]
  cases xs with
  | nil => rfl
  | cons a r =>
    rw [show min 1 (a :: r).length = 1 by simp, List.take_of_length_le]
    rw [List.length_drop]
    exact Nat.le_refl _
theorem asc_cons {a b : Int} {r : List Int} : asc (a :: b :: r) = (decide (a < b) && asc (b :: r)) := rfl
theorem asc_iff : ∀ (ns : List Int), asc ns = true ↔ Ris ns
  | [] => ⟨fun _ => List.Pairwise.nil, fun _ => rfl⟩
  | [a] => ⟨fun _ => List.pairwise_singleton _ _, fun _ => rfl⟩
  | a :: b :: r => by
    rw [asc_cons, Bool.and_eq_true, decide_eq_true_eq, asc_iff (b :: r)]
    unfold Ris
    constructor
    · rintro ⟨h1, h2⟩
      refine List.pairwise_cons.mpr ⟨fun x hx => ?_, h2⟩
      rcases List.mem_cons.mp hx with e | e
      · rw [e]; exact h1
      · exact Int.lt_trans h1 ((List.pairwise_cons.mp h2).1 x e)
    · intro h
      exact ⟨(List.pairwise_cons.mp h).1 b List.mem_cons_self, (List.pairwise_cons.mp h).2⟩
def jn (xs ys : List Int) : List Int := srt (xs.filter (fun k => !decide (k ∈ ys)) ++ ys.filter fun k => !decide (k ∈ xs))
theorem jn_mem {xs ys : List Int} {k : Int} : k ∈ jn xs ys ↔ (k ∈ xs ∧ k ∉ ys) ∨ (k ∈ ys ∧ k ∉ xs) := by
  unfold jn
  rw [srt_mem, List.mem_append, List.mem_filter, List.mem_filter]
  simp
theorem jn_ris {xs ys : List Int} (hx : Ris xs) (hy : Ris ys) : Ris (jn xs ys) := by
  refine le_lt (srt_srt _) ((srt_perm _).nodup_iff.mpr (List.nodup_append.mpr ⟨List.Pairwise.filter _ (lt_nodup hx), List.Pairwise.filter _ (lt_nodup hy), fun a ha b hb e => ?_⟩))
  subst e
  have h1 := (List.mem_filter.mp ha).1
  have h2 := (List.mem_filter.mp hb).2
  simp [h1] at h2
theorem wFor_inv {α B PO τ : Type} {b : α → B → (B → Prop) → (τ → PO → Prop) → (Addr → PO → Prop) → Prop} {Kn : B → Prop} {Kr : τ → PO → Prop} {Ke : Addr → PO → Prop} (I : List α → B → Prop) : ∀ (xs : List α) {s : B}, I xs s → (∀ x r s, (∃ p, xs = p ++ x :: r) → I (x :: r) s → ∀ K : B → Prop, (∀ s', I r s' → K s') → b x s K Kr Ke) → (∀ s, I [] s → Kn s) → wFor b xs s Kn Kr Ke
  | [], s, h, _, hd => hd s h
  | x :: xs, s, h, hs, hd => hs x xs s ⟨[], rfl⟩ h _ fun s' h' => wFor_inv I xs h' (fun y r s2 ⟨p, e⟩ hi => hs y r s2 ⟨x :: p, by rw [e]; rfl⟩ hi) hd
theorem line_le {n : Nat} (h : n ≤ 1000) : n ≤ sizeLine := Nat.le_of_lt (small1000 h)
end WL
namespace WL
variable [L2.GX]
open PySem L2
open Rep (rp)
open Ow (sl)
open Sls (rel)
structure Bd (C : Addr) (fl : Bool) where
  rk : List (Int × Int)
  bd : List (Int × List Int)
  up : Int
  ht : List (Int × Int)
  th : List (Int × Int)
def lk {β : Type} (l : List (Int × β)) (k : Int) : Option β := (l.find? fun e => decide (e.1 = k)).map (·.2)
def kin (l : List (Int × Int)) : List (Key × V) := l.map fun e => (Sum.inl e.1, V.int e.2)
def pk {β : Type} (l : List (Int × β)) (k : Int) (v : β) : List (Int × β) := if (lk l k).isSome then l.map (fun e => if e.1 = k then (e.1, v) else e) else l ++ [(k, v)]
def dk {β : Type} (l : List (Int × β)) (k : Int) : List (Int × β) := l.filter fun e => decide (e.1 ≠ k)
end WL
namespace WL
variable [L2.GX]
open PySem L2
open Rep (rp)
open Ow (sl)
open Sls (rel)
inductive ID where
  | rk | ht | th
abbrev ID.get {C : Addr} {fl : Bool} : ID → Bd C fl → List (Int × Int)
  | .rk, x => x.rk | .ht, x => x.ht | .th, x => x.th
abbrev ID.set {C : Addr} {fl : Bool} : ID → Bd C fl → List (Int × Int) → Bd C fl
  | .rk, x, l => { x with rk := l } | .ht, x, l => { x with ht := l } | .th, x, l => { x with th := l }
end WL
namespace WL
variable [L2.GX]
open PySem L2
open Rep (rp)
open Ow (sl)
open Sls (rel)
def clsB (s : Stmt) : List Stmt := match s with
  | .ClassDef _ _ _ body _ _ _ _ _ _ _ => body
  | _ => []
def mth (s : Stmt) (i : Nat) : Stmt := (clsB s).getD i (.Pass ⟨0, 0, 0, 0⟩)
section
variable {X : Cx} {E : XK} {T : Addr} {D : Type} [Sls D] {pos : Pos}
theorem ew_con {x : Str} {i : Int} {t : Tok} (hg : Gl X x) (hm : X.mg x = some (.int i t)) (hd : (x == ("__debug__" : Str)) = false := by decide) : EW X E T (.Name x pos) (fun (d : D) (Kn : Int → D → Prop) _ => Kn i d) :=
  ⟨_, pe_glob (v := .int i) hg hm ⟨t, rfl⟩ hd, fun d F R σ H Kn Ke Q s hw kn _ => kn i d _ F R H hw (Ch.refl _ _ _ _) s rfl⟩
end
end WL
namespace WL
variable [L2.GX]
open PySem L2
open Rep (rp)
open Ow (sl)
open Sls (rel)
structure Scr (K : PySem.W.Frag) where
def ScrAt (K : PySem.W.Frag) (R : Rg) (H : Hp) (a : Addr) (ns : List Int) : Prop :=
  (¬R a ∧ Rd H a (.lst (ns.map V.int))) ∨ ∃ (o : PySem.Obj) (its : Array Value) (n : Nat), K.lookup a = some o ∧ o.cls = .type "list" ∧ o.dict = none ∧ o.data = .seq its n ∧ its.size ≤ sizeLine ∧ Vals (ns.map V.int) its.toList
theorem ScrAt.sq {K : PySem.W.Frag} {R : Rg} {H : Hp} {a : Addr} {ns : List Int} (h : ScrAt K R H a ns) : SqL K H a (ns.map V.int) := h.elim (fun z => .inl z.2) .inr
instance (K : PySem.W.Frag) : Rep (Scr K) := ⟨fun R H _ v => ∃ a ns, v = .ref a ∧ ScrAt K R H a ns, fun {R H R' H' x v} h e => by
  obtain ⟨a, ns, h1, h2⟩ := h
  refine ⟨a, ns, h1, ?_⟩
  rcases h2 with ⟨n, r⟩ | r
  · rcases r with r | ⟨o, r⟩
    · exact .inl ⟨e.not n r, .inl (e.keep a _ n r)⟩
    · exact .inl ⟨e.not n r, .inr ⟨o, e.keep a _ n r⟩⟩
  · exact .inr r⟩
def spBag (K : PySem.W.Frag) : Sp := fun vs H Q _ => ∃ (a : Addr) (ns : List Int), vs = [.ref a] ∧ SqL K H a (ns.map V.int) ∧ ∀ H' g q ns' s, Same H H' → BagAt H' g q ns' 0 0 s → H g = none → H q = none → Q (.ref g) H'
def w_bag (K : PySem.W.Frag) : Scr K × Unit → (Bg → Un × Unit → Prop) → (Addr → Un × Unit → Prop) → Prop := fun _ Kn _ => Kn ⟨⟩ (⟨⟩, ())
def w_law (K : PySem.W.Frag) : Scr K × Unit → (Bool → Un × Unit → Prop) → (Addr → Un × Unit → Prop) → Prop := fun _ Kn _ => Kn true (⟨⟩, ())
section
variable {P : Program} {w : World} {K : PySem.W.Frag} {mg : Str → Option Value} {base : Heap} {T : Addr} {k : Nat} {f : Addr} {fd : FuncData} {ps : List Str}
theorem bag_w (F : FnOk P w K mg base CX0 k f fd ps (spBag K)) : FnOk P w K mg base (CX1 P w) k f fd ps (spW T (w_bag K)) :=
  (fn_cx F).imp fun vs H Q E ⟨F, R, p, Kn, Ke, s, hw, kn, _⟩ => by
    obtain ⟨v, σ', F1, F2, h1, h2, ⟨n1, u, e, a, ns, e2, h3⟩, h4⟩ := s.rel
    subst e e2
    match vs, h1 with
    | [], h1 => cases h1
    | x :: r, h1 =>
      injection h1 with z1 z2
      cases z1
      have hr : r = [] := by
        have := h4.1
        rw [← z2] at this
        exact List.map_eq_nil_iff.mp this
      subst hr
      refine ⟨a, ns, rfl, h3.sq, fun H' g q ns' s' sm B hg hq => ?_⟩
      have ex : Ext (fun _ => False) R H (fun c => R c ∨ c = g ∨ c = q) H' := ⟨fun b o _ h => sm b o h, fun c h => h.elim .inl fun z => .inr (z.elim (fun z => by rw [z]; exact hg) fun z => by rw [z]; exact hq)⟩
      refine kn ⟨⟩ (⟨⟩, ()) (.ref g) (fun c => c = g ∨ c = q) (fun _ => False) (fun c => R c ∨ c = g ∨ c = q) H' hw ⟨fun b o _ _ h => sm b o h, ex.new, fun c h => h.elim (fun z => .inr (z.elim (fun z => by rw [z]; exact hg) fun z => by rw [z]; exact hq)) fun z => z.elim, fun c h _ => .inl h⟩ ⟨⟨some (.ref a), [], fun _ => False, fun _ => False, rfl, ⟨fun _ => ⟨fun z => z.elim, fun z => z.elim id id⟩, fun _ z _ => z⟩, fun _ z => z, rfl, fun _ z => z⟩, fun _ z => z.elim, fun c h => ?_, ?_, .inl s.tabR, fun z => z⟩ ⟨⟨g, q, ns', 0, 0, s', rfl, fun _ => Iff.rfl, B⟩, fun c h => .inr h, fun _ _ z => z, fun z => ?_⟩
      · rcases h with h | h | h
        · cases e : H c with
          | none => exact absurd e (s.liv c h)
          | some o => rw [sm c o e]; simp
        · rw [h, B.ob]; simp
        · rw [h, B.sc]; simp
      · obtain ⟨qs, e, t⟩ := s.tab
        exact ⟨qs, sm _ _ e, t⟩
      · have := tab_some s.tab
        rcases z with z | z
        · rw [z] at this; exact this hg
        · rw [z] at this; exact this hq
def spLaw (K : PySem.W.Frag) (tab : Addr) : Sp := fun vs H Q _ => ∃ (a : Addr) (ns : List Int), vs = [.ref a] ∧ SqL K H a (ns.map V.int) ∧ TabAt H tab ∧ ∀ H', Q (.bl true) H'
theorem law_w (F : FnOk P w K mg base (CX1 P w) k f fd ps (spW T (w_law K))) : FnOk P w K mg base (CX1 P w) k f fd ps (spLaw K T) :=
  F.imp fun vs H Q E ⟨a, ns, e, hS, hT, kq⟩ => by
    subst e
    refine ⟨fun _ => False, fun c => c = T, (⟨⟩, ()), fun x _ => x = true, fun _ _ => False, ⟨⟨some (.ref a), [], fun _ => False, fun _ => False, rfl, ⟨fun _ => ⟨fun z => z.elim, fun z => z.elim id id⟩, fun _ z _ => z⟩, ⟨fun _ z => z, _, rfl, a, ns, rfl, ?_⟩, rfl, fun _ z => z⟩, fun _ z => z.elim, fun c h => by rw [h]; exact tab_some hT, hT, rfl, fun z => z⟩, rfl, fun x p' v F1 F2 R' H' q c s' n => ?_, fun C y p' F' R' H' q => q.elim⟩
    · rcases hS with r | r
      · refine .inl ⟨fun z => ?_, r⟩
        obtain ⟨qs, e, _⟩ := hT
        rcases r with r | ⟨o, r⟩
        · rw [z, e] at r; cases r
        · rw [z, e] at r; cases r
      · exact .inr r
    · obtain ⟨_, u, e, r⟩ := n.is
      cases e
      have r : v = V.bl x := r
      rw [r, q]
      exact kq H'
theorem fn_x0 {sp : Sp} (F : FnOk P w K mg base (CX1 P w) k f fd ps sp) (h : ∀ vs H Q E, sp vs H Q E → sp vs H Q XF) : FnOk P w K mg base CX0 k f fd ps sp :=
  ⟨F.len, fun A outer s H args us vs Q E hr he hb hv hs => codeAny_mono (F.run A outer s H args us vs Q XF hr he hb hv (h _ _ _ _ hs)) fun r s' z => by
    cases r with
    | error e =>
      obtain ⟨_, _, _, _, _, z⟩ := z
      exact z.elim
    | ok fl =>
      cases fl with
      | ret u => exact z
      | next => exact False.elim z
      | brk => exact False.elim z
      | cont => exact False.elim z⟩
end
end WL
namespace WL
variable [L2.GX]
open PySem L2
open Rep (rp)
open Ow (sl)
open Sls (rel)
structure Fk (P : Program) (w : World) (K : PySem.W.Frag) (mg : Str → Option Value) (base : Heap) (T : Addr) (x : Str) (ps : List Str) {A PO τ : Type} [Sls A] [Sls PO] [Ow τ] (wf : A → (τ → PO → Prop) → (Addr → PO → Prop) → Prop) (k : Nat) where
  f : Addr
  fd : FuncData
  ok : FnOk P w K mg base (CX1 P w) k f fd ps (spW T wf)
  at_ : mg x = some (.ref f)
  kp : PySem.W.keepIn K (.ref f) = true
  bd : Binds K fd ps []
section
variable {P : Program} {w : World} {K : PySem.W.Frag} {mg : Str → Option Value} {base : Heap} {T C f : Addr} {fd : FuncData} {x : Str} {ps : List Str} {A PO τ : Type} [Sls A] [Sls PO] [Ow τ] {wf : A → (τ → PO → Prop) → (Addr → PO → Prop) → Prop} {j k : Nat}
def Fk.up (h : Fk P w K mg base T x ps wf j) (l : j ≤ k) : Fk P w K mg base T x ps wf k := ⟨h.f, h.fd, h.ok.mono l, h.at_, h.kp, h.bd⟩
end
section
variable {X : Cx} {E : XK} {T : Addr} {D : Type} [Sls D] {pos : Pos}
theorem eo_c2 {P PO B Lc τ : Type} [Sls P] [Sls PO] [Sls B] [Sls Lc] [Ow τ] [Lb Lc τ PO] {mrg : B → Lc → PO → D} {wf : P → (τ → PO → Prop) → (Addr → PO → Prop) → Prop} {wa : D → (P → B → Lc → Prop) → (Addr → D → Prop) → Prop} {k : Nat} {ps : List Str} {x : Str} {p : Pos} {e : Expr} {es : List Expr}
    (h : Fk X.prog X.w X.K X.mg X.base T x ps wf k) (hr : Room k X.A) (hg : Gl X x) (hx : Passes (CX1 X.prog X.w) X E) (ha : AL2 X E T (e :: es) mrg wa) (hdb : (x == ("__debug__" : Str)) = false := by decide) (he : starEach (e :: es) X.env = (false, eval e X.env) :: starEach es X.env := by rfl) (hpl : (backTo pos (starEach es X.env)).any (·.1) = false := by rfl) :
    EO X E T (.Call (.Name x p) (e :: es) [] pos) (fun (d : D) (Kn : τ → D → Prop) Ke => wa d (fun p b l => wf p (fun x p' => Kn x (mrg b l p')) (fun C p' => Ke C (mrg b l p'))) Ke) := eo_call2 h.ok hr hg h.at_ h.kp h.bd hx ha hdb he hpl
variable {C : Addr} {fl : Bool} {x : Str} {p1 : Pos} {τ : Type} [Ow τ]
end
end WL
namespace WL
open PySem L2
open Rep (rp)
open Ow (sl)
open Sls (rel)
section
variable {P : Program} {w : World} {K : PySem.W.Frag} {mg : Str → Option Value} {base h : Heap} {T C : Addr}
structure Dq (K : PySem.W.Frag) (x : Str) (st : Stmt) : Prop where
  ex : ∃ f fd, PySem.W.nsIn K mainGlobals x = some (some (.ref f)) ∧ Fun K x x st f fd
theorem dq_mk {x : Str} {st : Stmt} {f : Addr} {oc : Value} {od an : Option Addr} {osl : Array (Option Value)} {kV doc pm cdv ct : Value} (a : PySem.W.nsIn K mainGlobals x = some (some (.ref f))) (l : K.lookup f = some ⟨oc, od, .func (PySem.W.fnOf x x (defArgs st) (defBody st) (defScope st) .none kV doc pm an cdv ct), osl⟩)
    (c : PySem.W.codeIn K cdv x = true) (k : PySem.W.keepIn K (.ref f) = true) : Dq K x st := ⟨_, _, a, fun_mk l c k⟩
noncomputable def Dq.f {x : Str} {st : Stmt} (q : Dq K x st) : Addr := q.ex.choose
noncomputable def Dq.d {x : Str} {st : Stmt} (q : Dq K x st) : FuncData := q.ex.choose_spec.choose
theorem Dq.fn {x : Str} {st : Stmt} (q : Dq K x st) (X : K.In h) (G : h.Ns mainGlobals mg) (ps : List Str)
    (b : ∀ (kV doc pm : Value) (an : Option Addr) (cdv ct : Value) (us : List Value), us.length = ps.length → bindArgs (PySem.W.fnOf x x (defArgs st) (defBody st) (defScope st) .none kV doc pm an cdv ct) ⟨us, []⟩ = pure (ps.zip us)) : Fn K mg x st ps q.f q.d :=
  have h := q.ex.choose_spec.choose_spec; ⟨h.2, PySem.W.mg_of X G h.1, h.2.binds b⟩
variable [L2.GX]
def Fn.fk {x : Str} {st : Stmt} {ps : List Str} {f : Addr} {fd : FuncData} {A PO τ : Type} [Sls A] [Sls PO] [Ow τ] {wf : A → (τ → PO → Prop) → (Addr → PO → Prop) → Prop} {k : Nat} (N : Fn K mg x st ps f fd) (o : FnOk P w K mg base (CX1 P w) k f fd ps (spW T wf)) : Fk P w K mg base T x ps wf k := ⟨f, fd, o, N.at_, N.fn.kp, N.bd⟩
end
end WL
namespace WL
open PySem L2
open Rep (rp)
open Ow (sl)
open Sls (rel)
structure Cq where
  P : Program
  w : World
  K : PySem.W.Frag
  mg : Str → Option Value
  base : Heap
  T : Addr
structure Bz (K : PySem.W.Frag) : Prop where
  all : PySem.W.nsIn K mainGlobals "all" = some none
  zip : PySem.W.nsIn K mainGlobals "zip" = some none
  set : PySem.W.nsIn K mainGlobals "set" = some none
  sorted : PySem.W.nsIn K mainGlobals "sorted" = some none
  len : PySem.W.nsIn K mainGlobals "len" = some none
  list : PySem.W.nsIn K mainGlobals "list" = some none
  isinstance : PySem.W.nsIn K mainGlobals "isinstance" = some none
  int : PySem.W.nsIn K mainGlobals "int" = some none
  bool : PySem.W.nsIn K mainGlobals "bool" = some none
  range : PySem.W.nsIn K mainGlobals "range" = some none
  enumerate : PySem.W.nsIn K mainGlobals "enumerate" = some none
  tuple : PySem.W.nsIn K mainGlobals "tuple" = some none
  min : PySem.W.nsIn K mainGlobals "min" = some none
  max : PySem.W.nsIn K mainGlobals "max" = some none
  str : PySem.W.nsIn K mainGlobals "str" = some none
structure Bn (mg : Str → Option Value) : Prop where
  all : mg "all" = none
  zip : mg "zip" = none
  set : mg "set" = none
  sorted : mg "sorted" = none
  len : mg "len" = none
  list : mg "list" = none
  isinstance : mg "isinstance" = none
  int : mg "int" = none
  bool : mg "bool" = none
  range : mg "range" = none
  enumerate : mg "enumerate" = none
  tuple : mg "tuple" = none
  min : mg "min" = none
  max : mg "max" = none
  str : mg "str" = none
theorem Bz.bn {K : PySem.W.Frag} {h : Heap} {mg : Str → Option Value} (X : K.In h) (G : h.Ns mainGlobals mg) (z : Bz K) : Bn mg :=
  let f := fun {x : Str} (e : PySem.W.nsIn K mainGlobals x = some none) => PySem.W.mg_none_of X G e
  ⟨f z.all, f z.zip, f z.set, f z.sorted, f z.len, f z.list, f z.isinstance, f z.int, f z.bool, f z.range, f z.enumerate, f z.tuple, f z.min, f z.max, f z.str⟩
variable [L2.GX]
abbrev Fkq (q : Cq) (x : Str) (ps : List Str) {A PO τ : Type} [Sls A] [Sls PO] [Ow τ] (wf : A → (τ → PO → Prop) → (Addr → PO → Prop) → Prop) (k : Nat) := Fk q.P q.w q.K q.mg q.base q.T x ps wf k
abbrev Gq (q : Cq) (k : Nat) (f : Addr) (fd : FuncData) (ps : List Str) {A PO τ : Type} [Sls A] [Sls PO] [Ow τ] (wf : A → (τ → PO → Prop) → (Addr → PO → Prop) → Prop) : Prop := FnOk q.P q.w q.K q.mg q.base (CX1 q.P q.w) k f fd ps (spW q.T wf)
abbrev Dq1 (q : Cq) (x : Str) (st : Stmt) (f : Addr) (fd : FuncData) : Prop := Fun q.K x x st f fd
@[reducible] def wSq {D D' D1 PO τ : Type} (w1 : D → (D1 → Prop) → (τ → PO → Prop) → (Addr → PO → Prop) → Prop) (w2 : D1 → (D' → Prop) → (τ → PO → Prop) → (Addr → PO → Prop) → Prop) : D → (D' → Prop) → (τ → PO → Prop) → (Addr → PO → Prop) → Prop := fun d Kn Kr Ke => w1 d (fun d1 => w2 d1 Kn Kr Ke) Kr Ke
theorem sw_c {X : Cx} {E : XK} {T : Addr} {ms : List Nat} {n : Nat} {D D' D1 PO τ : Type} [Sls D] [Sls D'] [Sls D1] [Sls PO] [Ow τ] {st : Stmt} {rest : List Stmt} {w1 : D → (D1 → Prop) → (τ → PO → Prop) → (Addr → PO → Prop) → Prop} {w2 : D1 → (D' → Prop) → (τ → PO → Prop) → (Addr → PO → Prop) → Prop} (h1 : S1 X E T ms n st w1) (h2 : SW X E T ms n rest w2) (dp : Dep PO ms n := by exact dep_of (by decide)) :
    SW X E T ms n (st :: rest) (wSq w1 w2) := sw_cons (w1 := w1) (w2 := w2) dp h1 h2
end WL
namespace WL
variable [L2.GX]
open PySem L2
open Rep (rp)
open Ow (sl)
open Sls (rel)
section
variable {X : Cx} {E : XK} {T : Addr} {ms : List Nat} {n : Nat} {D PO τ : Type} [Sls D] [Sls PO] [Ow τ] {pos : Pos} {α β : Type} [Rep α] [Rep β]
theorem tw_trueV {a : Expr} {wa : D → (List α → D → Prop) → (Addr → D → Prop) → Prop} (ha : EW X E T a wa) (he : ∀ whole, isTrue a X.env whole = (do let v ← whole; standAt a.pos; holding [v] (truthy v)) := by intro _; rfl) : TW X E T a (fun (d : D) Kn Ke => wa d (fun xs d1 => Kn (!xs.isEmpty) d1) Ke) := by
  obtain ⟨ta, a1, a2⟩ := ha
  refine ⟨_, pt_truth a1 he, fun d F R σ H Kn Ke Q s hw kn ke => a2 d F R σ H _ Ke _ s hw (fun xs d1 u F1 R1 H1 q1 c1 s1 r1 => ?_) ke⟩
  obtain ⟨b, vs, rfl, _, h3, h4⟩ := r1
  refine ⟨!vs.isEmpty, .inl ⟨vs, SqL.of h3, rfl⟩, ?_⟩
  have : vs.isEmpty = xs.isEmpty := by cases h4 <;> rfl
  rw [this]
  exact kn _ d1 F1 R1 H1 q1 c1 s1
variable {x y : Str} {p1 p2 q1 q2 q3 q4 q5 q6 : Pos}
end
end WL
namespace WL
variable [L2.GX]
open PySem L2
open Rep (rp)
open Ow (sl)
open Sls (rel)
structure Oo (α : Type) where
  o : Option (List α)
def slO {α : Type} [Rep α] (F R : Rg) (H : Hp) (x : Option (List α)) (v : Option V) : Prop := match x with
  | none => v = some .non ∧ ∀ a, ¬F a
  | some l => sl F R H (OL.mk l) v
instance {α : Type} [Rep α] : Ow (Oo α) := ⟨fun F R H x v => slO F R H x.o v,
  fun {F G R H R' H' x v} h e s n => by
    cases x with
    | mk o =>
      cases o with
      | none => exact h
      | some l => exact Ow.st (τ := OL α) h e s n,
  fun {F F' R H x v} h e => by
    cases x with
    | mk o =>
      cases o with
      | none => exact ⟨h.1, fun a z => h.2 a ((e a).mpr z)⟩
      | some l => exact Ow.fq (τ := OL α) h e⟩
theorem oo_lend {α : Type} [Rep α] {F R L : Rg} {H : Hp} {x : Oo α} {u : V} (h : sl F R H x (some u)) (f : ∀ a, F a → L a) : rp (Wo R L) H x.o u := by
  cases x with
  | mk o =>
    cases o with
    | none => exact Option.some.inj h.1
    | some l =>
      obtain ⟨a, vs, h1, h2, h3, h4⟩ := h
      cases h1
      exact ⟨(fun z => by cases z), a, vs, rfl, fun z => z.2 (f a ((h2 a).mpr rfl)), h3, paired_st ((ext_wo R L H).wide fun _ z => z.elim) h4⟩
section
variable {X : Cx} {E : XK} {T : Addr} {ms : List Nat} {n : Nat} {D PO τ : Type} [Sls D] [Sls PO] [Ow τ] {pos : Pos} {α β : Type} [Rep α] [Rep β]
theorem nw_drop {γ τ1 : Type} [Rep γ] [Ow τ1] {F R F1 F2 R' : Rg} {H H' : Hp} {d d' : D} {σ : St} {x : τ1} {y : γ} {v : V} (s : Stt T F R H d σ) (c : Ch T F R H (fun a => F1 a ∨ F2 a) R' H') (s' : Stt T F2 R' H' d' σ) (n : Nw T F1 F2 R' H' x v) (hr : rp (Wo R' F1) H' y v) :
    ∃ R'', Ch T F R H F2 R'' H' ∧ Stt T F2 R'' H' d' σ ∧ rp R'' H' y v := by
  have ex := ext_wo R' F1 H'
  refine ⟨Wo R' F1, ⟨c.keep, fun a h => c.newR a h.1, fun a h => c.newF a (.inr h), fun a h k => ⟨c.left a h k, fun z => ?_⟩⟩, ⟨Sls.st s'.rel ex (fun _ z => z.elim) (fun _ _ z => z), fun a h => ⟨s'.sub a h, fun z => n.dis a z h⟩, fun a h => s'.liv a h.1, s'.tab, ⟨s'.tabR, n.tab⟩, s'.tabF⟩, hr⟩
  rcases c.newF a (.inl z) with q | q
  · exact k q
  · exact s.liv a h q
theorem ew_oo {e : Expr} {w : D → (Oo α → D → Prop) → (Addr → D → Prop) → Prop} (h : EO X E T e w) : EW X E T e (fun (d : D) (Kn : Option (List α) → D → Prop) Ke => w d (fun x d' => Kn x.o d') Ke) := by
  obtain ⟨t, h1, h2⟩ := h
  refine ⟨t, h1, fun d F R σ H Kn Ke Q s hw kn ke => h2 d F R σ H _ Ke Q s hw (fun x d' v F1 F2 R' H' q c s' n => ?_) ke⟩
  obtain ⟨R'', c2, s2, r⟩ := nw_drop s c s' n (oo_lend n.is fun _ z => z)
  exact kn x.o d' v F2 R'' H' q c2 s2 r
theorem eo_oon {k : Nat} : EO X E T (.Constant .none k pos) (fun (d : D) (Kn : Oo α → D → Prop) _ => Kn ⟨none⟩ d) :=
  ⟨_, pe_non, fun d F R σ H Kn Ke Q s hw kn _ => kn ⟨none⟩ d _ (fun _ => False) F R H hw ⟨fun _ _ _ _ h => h, fun _ h => .inl h, fun a h => .inl (h.elim (fun z => z.elim) id), fun _ h _ => h⟩ s ⟨⟨rfl, fun _ z => z⟩, fun _ z => z.elim, fun _ z => z.elim, fun z => z⟩⟩
theorem s1_retOo {x : Str} {p1 : Pos} (i : Nat) {D' D0 : Type} [Sls D'] [Sls D0] [A : At i D (OL α) D0] [J : Pj D0 PO n] (hn : PE X (.Name x p1) (tVar i)) : S1 X E T ms n (.Return (some (.Name x p1)) pos) (fun (d : D) (_ : D' → Prop) (Kr : Oo α → PO → Prop) _ => Kr ⟨some (A.get d).l⟩ (J.pj (A.hole d))) := by
  refine ⟨_, ps_ret hn, fun d F R σ H Kn Kr Ke En s hw kn kr ke => ?_⟩
  obtain ⟨v, F1, F2, g1, g2, g3, g4⟩ := A.take s.rel
  obtain ⟨u, rfl⟩ := Hs.has g3
  have f2 : ∀ a, F2 a → F a := fun a h => (g2.all a).mpr (.inr h)
  obtain ⟨G, k1, k2⟩ := J.le g4
  exact ⟨u, g1, kr _ _ u F1 G R H hw ⟨fun b o _ _ h => h, fun _ h => .inl h, fun a h => .inl (h.elim (fun z => (g2.all a).mpr (.inl z)) fun z => f2 a (k1 a z)), fun _ h _ => h⟩ ⟨k2, fun a h => s.sub a (f2 a (k1 a h)), s.liv, s.tab, s.tabR, fun h => s.tabF (f2 T (k1 T h))⟩ ⟨g3, fun a h => s.sub a ((g2.all a).mpr (.inl h)), fun a h z => g2.dis a h (k1 a z), fun h => s.tabF ((g2.all T).mpr (.inl h))⟩⟩
end
end WL
namespace L2
open PySem PySem.Spec PyProof.Rows Builtin Builtin.Str
section
variable {X : Cx}
theorem mt_isascii : MtR X "str.isascii" (fun x xs H Q => ∃ z, x = .str z ∧ xs = [] ∧ Q (.bl (Txt.isascii z)) H) := by
  intro pins s σ H x xs v us Q I rx rs h
  obtain ⟨z, rfl, rfl, q⟩ := h
  obtain ⟨t, rfl⟩ := rx
  cases rs
  exact SC.isascii ⟨.bl _, H, I, rfl, q⟩
theorem mt_isdigit : MtR X "str.isdigit" (fun x xs H Q => ∃ z, x = .str z ∧ xs = [] ∧ Q (.bl (Txt.isdigit z)) H) := by
  intro pins s σ H x xs v us Q I rx rs h
  obtain ⟨z, rfl, rfl, q⟩ := h
  obtain ⟨t, rfl⟩ := rx
  cases rs
  exact SC.isdigit ⟨.bl _, H, I, rfl, q⟩
theorem split_at {prog : Program} {w : World} {A : Around} {E : Value → Shared → Prop} {s : Shared} {x y : Str} {t u : Tok} {Q : Value → Shared → Prop} (hy : (y.length == 0) = false)
    (hq : ∀ l k, l.map (·.1) = Txt.split x y → Q (.ref s.heap.objs.size) { s with toks := k, heap := s.heap.push { cls := .type "list", data := .seq (strValues l).toArray } })
    (hsz : x.length ≤ sizeLine) (hsz2 : (partsBetween x (occurrences x y 0 x.length (x.length + 1)) y.length).length ≤ sizeLine) : wpAny (model prog w) A (call (.builtin "str.split") [.str x t, .str y u]) Q E s := by
  cases h1 : (decide (x.length < y.length) || decide (strKind x < strKind y)) with
  | true => exact call_meets F.slot_str_split (typeIs_str _ _ _) F.entry_str_split (F.args_str_split_2 _ _) (meets_str_split_cannot_occur x y t u h1) (hq [(x, t)] s.toks (if_pos h1).symm)
  | false =>
    have n1 := ne_true_of_eq_false h1
    cases h2 : (occurrences x y 0 x.length (x.length + 1)).isEmpty with
    | true => exact call_meets F.slot_str_split (typeIs_str _ _ _) F.entry_str_split (F.args_str_split_2 _ _) (meets_str_split_not_found x y t u h1 hy h2) (hq [(x, t)] s.toks ((if_neg n1).trans (if_pos h2)).symm)
    | false =>
      refine call_meets F.slot_str_split (typeIs_str _ _ _) F.entry_str_split (F.args_str_split_2 _ _) (meets_str_split_sep x y t u h1 hy h2 hsz hsz2) ?_
      have q := hq (numbered s.toks (partsBetween x (occurrences x y 0 x.length (x.length + 1)) y.length)) (s.toks + (partsBetween x (occurrences x y 0 x.length (x.length + 1)) y.length).length) ((numbered_texts _ _).trans ((if_neg n1).trans (if_neg (ne_true_of_eq_false h2))).symm)
      rw [← strsFrom_eq] at q
      exact q
theorem vals_strs : ∀ {l : List (Str × Tok)} {ts : List Str}, l.map (·.1) = ts → Vals (ts.map V.str) (strValues l)
  | [], _, rfl => .nil
  | p :: r, _, rfl => .cons ⟨p.2, rfl⟩ (vals_strs (l := r) rfl)
theorem strs_vals : ∀ {ts : List Str} {us : List Value}, Vals (ts.map V.str) us → ∃ l : List (Str × Tok), us = strValues l ∧ l.map (·.1) = ts
  | [], _, .nil => ⟨[], rfl, rfl⟩
  | z :: r, _, .cons h t => by
    obtain ⟨l, e1, e2⟩ := strs_vals (ts := r) t
    obtain ⟨k, rfl⟩ := h
    exact ⟨(z, k) :: l, by rw [e1]; rfl, by rw [List.map_cons, e2]⟩
theorem mt_split : MtR X "str.split" (fun x xs H Q => ∃ z y, x = .str z ∧ xs = [.str y] ∧ (y.length == 0) = false ∧ z.length ≤ sizeLine ∧ (partsBetween z (occurrences z y 0 z.length (z.length + 1)) y.length).length ≤ sizeLine ∧ (Txt.split z y).length ≤ sizeLine ∧ ∀ p, H p = none → Q (.ref p) (upd H p (.lst ((Txt.split z y).map V.str)))) := by
  intro pins s σ H x xs v us Q I rx rs h
  obtain ⟨z, y, rfl, rfl, hy, h1, h2, h3, q⟩ := h
  obtain ⟨t, rfl⟩ := rx
  obtain ⟨u, rfl, t', rfl⟩ := vals1 rs
  refine split_at hy (fun l k e => ?_) h1 h2
  refine ⟨.ref s.heap.objs.size, _, I.laid (t' := k) (o := .lst ((Txt.split z y).map V.str)) (fun b ob q => Heap.get?_push_of_some _ q) (Nat.le_refl _) ?_, rfl, q _ (I.hok.fresh (Nat.le_refl _))⟩
  exact ⟨by rw [List.length_map]; exact h3, _, 0, vals_strs e, Heap.get?_push_size _ rfl⟩
theorem mt_join : MtR X "str.join" (fun x xs H Q => ∃ z p ts, x = .str z ∧ xs = [.ref p] ∧ SqL X.K H p (ts.map V.str) ∧ JoinOk z ts = true ∧ Q (.str (Txt.join z ts)) H) := by
  intro pins s σ H x xs v us Q I rx rs h
  obtain ⟨z, p, ts, rfl, rfl, hl, hj, q⟩ := h
  obtain ⟨t, rfl⟩ := rx
  obtain ⟨u, rfl, ru⟩ := vals1 rs
  cases ru
  obtain ⟨its, r, pl, _⟩ := I.list hl
  obtain ⟨l, rfl, e⟩ := strs_vals r
  exact SC.join pl.isList e hj fun t' k => ⟨.str _, H, I.tok _, ⟨_, rfl⟩, q⟩
theorem call_int_str : CallR X (.type "int") (fun xs H Q => ∃ z n, xs = [.str z] ∧ z.length ≤ 640 ∧ PySem.intText? z = some n ∧ Q (.int n) H) := by
  intro pins s σ H xs us Q I r h
  obtain ⟨z, n, rfl, h1, h2, q⟩ := h
  obtain ⟨u, rfl, t, rfl⟩ := vals1 r
  exact PySem.W.KIN.call_text h2 h1 ⟨.int _, H, I.tok _, ⟨_, rfl⟩, q⟩
theorem op_mulS : OpR X (binaryOp .Mult) (fun x y H Q => ∃ z n, x = .str z ∧ y = .int n ∧ MulOk z n ∧ Q (.str (Txt.mul z n)) H) := by
  intro pins s σ H x y v u Q I rx ry h
  obtain ⟨z, n, rfl, rfl, hm, q⟩ := h
  obtain ⟨t, rfl⟩ := rx
  obtain ⟨t', rfl⟩ := ry
  exact SB.mul hm fun t' k => ⟨.str _, H, I.tok _, ⟨_, rfl⟩, q⟩
def rSlS : V → Option Int → Option Int → Hp → VK → Prop := fun x lo hi H Q => ∃ z, x = .str z ∧ z.length ≤ sizeLine ∧ Q (.str (StrLaws.sliceText z lo hi)) H
theorem part_of {v : Value} {o : Option Int} (h : IsPart v o) : ∃ p : Option (Int × Tok), v = partValue p ∧ p.map (·.1) = o := by
  cases h with
  | none => exact ⟨none, rfl, rfl⟩
  | int i t => exact ⟨some (i, t), rfl, rfl⟩
theorem range_len (a b : Int) : (sliceRange a b 1).length ≤ (b - a).toNat := by
  unfold sliceRange
  simp only []
  split <;> simp <;> omega
def clp (v : Option Int) (d : Int) (n : Nat) : Int := match v with
  | none => d
  | some i => Max.max (0 : Int) (Min.min (if i < 0 then i + (n : Int) else i) (n : Int))
theorem clip_le (v : Option Int) (d : Int) (n : Nat) (h0 : 0 ≤ d) (h1 : d ≤ n) : 0 ≤ clp v d n ∧ clp v d n ≤ n := by
  cases v with
  | none => exact ⟨h0, h1⟩
  | some i => unfold clp; dsimp only; split <;> omega
theorem sli_len (lo hi : Option Int) (n : Nat) : (strSliceIndices lo hi 1 n).length ≤ n := by
  have e : strSliceIndices lo hi 1 n = sliceRange (clp lo 0 n) (clp hi n n) 1 := by
    unfold strSliceIndices clp; cases lo <;> cases hi <;> simp
  rw [e]
  have a := clip_le lo 0 n (by omega) (by omega)
  have b := clip_le hi n n (by omega) (by omega)
  refine Nat.le_trans (range_len _ _) ?_
  omega
theorem sl_len (z : Str) (lo hi : Option Int) : (StrLaws.sliceText z lo hi).length ≤ z.length := by
  unfold StrLaws.sliceText
  split
  · exact Nat.le_refl _
  · show (List.toArray _).size ≤ _
    rw [List.size_toArray]
    exact Nat.le_trans (List.length_filterMap_le _ _) (sli_len lo hi z.length)
theorem sl_mem {z : Str} {lo hi : Option Int} {c : Nat} (h : c ∈ (StrLaws.sliceText z lo hi).cps.toList) : c ∈ z.cps.toList := by
  unfold StrLaws.sliceText at h
  split at h
  · exact h
  · have h : c ∈ List.filterMap (fun i => z.cps[i]?) (strSliceIndices lo hi 1 z.length) := by simpa using h
    obtain ⟨i, _, e⟩ := List.mem_filterMap.mp h
    obtain ⟨h1, h2⟩ := Array.getElem?_eq_some_iff.mp e
    rw [← h2]
    exact Array.mem_toList_iff.mpr (Array.getElem_mem _)
theorem sl_str : SlR X rSlS := by
  intro pins s σ H x v vl vu lo hi sl Q I rx hs pl pu h
  obtain ⟨z, rfl, hz, q⟩ := h
  obtain ⟨t, rfl⟩ := rx
  obtain ⟨p1, rfl, rfl⟩ := part_of pl
  obtain ⟨p2, rfl, rfl⟩ := part_of pu
  refine ⟨"str", _, F.slot_str_getitem.lookup, typeIs_str s z t, ?_⟩
  refine wpAny_getItem_str_slice (l := p1) (u := p2) (st := none) hs rfl ?_
  unfold sliceMade
  unfold StrLaws.sliceText at q
  split
  · rename_i e
    have e : ((1 : Int) == 1 && (strSliceIndices (p1.map (·.1)) (p2.map (·.1)) 1 z.length).length == z.length) = true := e
    rw [if_pos e] at q
    exact ⟨.str _, H, I, ⟨_, rfl⟩, q⟩
  · rename_i e
    have e : ¬ ((1 : Int) == 1 && (strSliceIndices (p1.map (·.1)) (p2.map (·.1)) 1 z.length).length == z.length) = true := e
    rw [if_neg e] at q
    refine ⟨?_, .str _, H, I.tok _, ⟨_, rfl⟩, q⟩
    have l := sl_len z (p1.map (·.1)) (p2.map (·.1))
    unfold StrLaws.sliceText at l
    rw [if_neg e] at l
    exact Nat.le_trans l hz
def Its (z : Str) : It := ⟨fun i _ => ∃ c, z.cps[i]? = some c, fun i H x H' => H' = H ∧ ∀ c, z.cps[i]? = some c → x = .str ⟨#[c]⟩, fun i _ => z.cps[i]? = none⟩
theorem turn_str {P : Program} {w : World} {K : PySem.W.Frag} {tg : Expr} (it : Addr) (z : Str) (t : Tok) : Turn P w K tg (Its z) [it] it (fun i h => h.IsStrIter it "str_ascii_iterator" z t i) where
  mem := by simp
  obj := fun i h st b hb => by
    have e : b = it := by simpa using hb
    subst e
    obtain ⟨o, e, c, d⟩ := st
    exact ⟨o, e, fun v z => by rw [d] at z; cases z⟩
  keep := fun i h h' ⟨o, e, c, d⟩ k => ⟨o, k it (by simp) o e, c, d⟩
  item := by
    intro X hP hw hK hc i pins s σ H E I hf st hg
    subst hP hw hK
    obtain ⟨c, hx⟩ := hg
    obtain ⟨f0, f1, f2, f3, f4, f5⟩ := hf it (by simp)
    refine wpAny_pyNext_ascii_item st hx fun h' st' sb => ?_
    have I1 : Inv X pins σ H { s with heap := h', toks := s.toks + 1 } := I.turned (t' := s.toks + 1) (fun b o hb e => (sb.2 b hb).trans e) f0 f1 f3 f4 f5
    obtain ⟨o, e, c1, d⟩ := id st'
    exact ⟨_, rfl, go_of (s := { s with heap := h', toks := s.toks + 1 }) e c1 d (by decide) ⟨.str ⟨#[c]⟩, H, I1, ⟨_, rfl⟩, ⟨rfl, fun c' h' => by rw [hx] at h'; cases h'; rfl⟩, st', fun b hb => (hf b hb).1⟩⟩
  done := by
    intro X hP hw hK hc i pins s σ H E I hf st hg
    subst hP hw hK
    obtain ⟨f0, f1, f2, f3, f4, f5⟩ := hf it (by simp)
    exact wpAny_pyNext_ascii_end (I.ok.hd hc) st hg fun h' eb => ⟨rfl, I.turned (t' := s.toks) (fun b o hb e => eb b o hb e) f0 f1 f3 f4 f5⟩
  self := fun _ _ _ _ _ st h => wpAny_pyIter_striter_ascii st h
def iStr (tl : TE) : TI := fun σ H R => tl σ H fun x H1 => ∃ z, x = .str z ∧ z.cps.all (· < 128) = true ∧ R (Its z) H1
theorem pi_str {tg l : Expr} {tl : TE} (hl : PE X l tl) : PI X tg l (iStr tl) := by
  intro pins s σ H R I h
  refine thn (hl pins s σ H _ I h) fun v s1 ⟨x, H1, I1, r1, q1⟩ => ?_
  obtain ⟨z, rfl, ha, q⟩ := q1
  obtain ⟨t, rfl⟩ := r1
  refine wpAny_pyIter_ascii ha ?_
  refine ⟨s1.heap.objs.size, [s1.heap.objs.size], _, _, H1, rfl, I1.kept (t' := s1.toks) fun b o e => Heap.get?_push_of_some _ e, turn_str _ z t, ⟨_, Heap.get?_push_size _ rfl, rfl, rfl⟩, fun b hb => ?_, q⟩
  have e : b = s1.heap.objs.size := by simpa using hb
  subst e
  exact I1.fpOk (Nat.le_refl _) (I1.hok.fresh (Nat.le_refl _))
end
end L2
namespace WL
open PySem L2 Builtin Builtin.Str
open Rep (rp)
open Ow (sl)
open Sls (rel)
structure OkS where
  s : Str
  ok : PyData.strOk s = true
theorem OkS.ext {a b : OkS} (h : a.s = b.s) : a = b := by cases a; cases b; cases h; rfl
instance : DecidableEq OkS := fun a b => if h : a.s = b.s then isTrue (OkS.ext h) else isFalse fun z => h (by rw [z])
instance : Rep OkS := ⟨fun _ _ i v => v = .str i.s, fun h _ => h⟩
instance : Dat OkS where
  dat x := .str x.s
  dp := 0
  rd h := by
    have h : _ = _ := h
    subst h
    intro _ _ _ _ _ r
    obtain ⟨t, rfl⟩ := r
    exact ⟨_, Reads.str _ _⟩
  lay x := by simp [PyData.canLay0, x.ok]
  dep _ := by simp [PyData.depth]
  nm _ _ := by simp [SeqAt.noMix]
  sm x y := by
    rw [PySem.Spec.same]
    by_cases h : x = y
    · simp [h]
    · rw [decide_eq_false h]; exact beq_false_of_ne fun z => h (OkS.ext z)
theorem oks : ∀ (xs : List Str), (∀ z ∈ xs, PyData.strOk z = true) → ∃ l : List OkS, l.map (·.s) = xs
  | [], _ => ⟨[], rfl⟩
  | z :: r, h => by
    obtain ⟨l, e⟩ := oks r fun y hy => h y (List.mem_cons_of_mem _ hy)
    exact ⟨⟨z, h z List.mem_cons_self⟩ :: l, by rw [List.map_cons, e]⟩
theorem oks_inj : ∀ {l m : List OkS}, l.map (·.s) = m.map (·.s) → l = m
  | [], [], _ => rfl
  | a :: l, b :: m, h => by
    rw [List.map_cons, List.map_cons] at h
    injection h with h1 h2
    rw [OkS.ext h1, oks_inj h2]
  | [], _ :: _, h => by cases h
  | _ :: _, [], h => by cases h
theorem oks_rp {R : Rg} {H : Hp} : ∀ {l : List OkS} {vs : List V}, Paired (rp R H) (l.map (·.s)) vs → Paired (rp R H) l vs
  | [], _, .nil => .nil
  | _ :: _, _, .cons h t => .cons h (oks_rp t)
instance : Ist Str "str" true := ⟨fun {K R H x v} h => by
  have h : v = V.str x := h
  subst h
  exact ⟨_, TyOf.str x, by rfl⟩⟩
theorem paired_strs {R : Rg} {H : Hp} : ∀ {xs : List Str} {vs : List V}, Paired (rp R H) xs vs → vs = xs.map V.str
  | [], _, .nil => rfl
  | _ :: r, _, .cons h t => by rw [paired_strs t]; have h : _ = _ := h; rw [h]; rfl
theorem strs_paired {R : Rg} {H : Hp} : ∀ xs : List Str, Paired (rp R H) xs (xs.map V.str)
  | [] => .nil
  | _ :: r => .cons rfl (strs_paired r)
variable [L2.GX]
theorem parts_len (x : Str) (w : Nat) : ∀ (cuts : List Nat) (a : Nat), (StrLaws.partsFrom x w a cuts).length = cuts.length + 1
  | [], _ => rfl
  | c :: r, a => by show (_ :: StrLaws.partsFrom x w _ r).length = _; rw [List.length_cons, parts_len x w r, List.length_cons]
theorem parts_le (x y : Str) : (partsBetween x (occurrences x y 0 x.length (x.length + 1)) y.length).length ≤ x.length + 2 := by
  rw [StrLaws.partsBetween_eq, parts_len]
  have := StrLaws.occ_length_le x y 0 x.length (x.length + 1)
  omega
section
variable {X : Cx} {E : XK} {T : Addr} {D : Type} [Sls D] {pos : Pos} {p : Pos} {a b o e : Expr} {apos cpos : Pos} {is : List Nat} {tg : Expr}
theorem ew_asc {wo : D → (Str → D → Prop) → (Addr → D → Prop) → Prop} (ho : EW X E T o wo) (hbase : attributeBase o "isascii" X.env (eval o X.env) = eval o X.env := by rfl) (hline : (apos.endLine == cpos.line) = true := by rfl) :
    EW X E T (.Call (.Attribute o "isascii" apos) [] [] cpos) (fun (d : D) (Kn : Bool → D → Prop) Ke => wo d (fun z d1 => Kn (Txt.isascii z) d1) Ke) := by
  have h := ew_one (c := fun _ => True) (γ := Bool) (g := Txt.isascii) (r := fun x H Q => tyV X.K "str" x H ∧ ∃ z, x = .str z ∧ ([] : List V) = [] ∧ Q (.bl (Txt.isascii z)) H) (e := .Call (.Attribute o "isascii" apos) [] [] cpos) ho (fun ta h1 => pe_bm0 F.plainAttrs_str F.slot_str_isascii F.type_str_isascii mt_isascii h1 hbase hline) fun {R H x u Q} h1 _ k => by
    have h1 : u = V.str x := h1
    subst h1
    exact ⟨rfl, x, rfl, rfl, k _ rfl⟩
  simp only [true_and] at h
  exact h
theorem ew_dig {wo : D → (Str → D → Prop) → (Addr → D → Prop) → Prop} (ho : EW X E T o wo) (hbase : attributeBase o "isdigit" X.env (eval o X.env) = eval o X.env := by rfl) (hline : (apos.endLine == cpos.line) = true := by rfl) :
    EW X E T (.Call (.Attribute o "isdigit" apos) [] [] cpos) (fun (d : D) (Kn : Bool → D → Prop) Ke => wo d (fun z d1 => Kn (Txt.isdigit z) d1) Ke) := by
  have h := ew_one (c := fun _ => True) (γ := Bool) (g := Txt.isdigit) (r := fun x H Q => tyV X.K "str" x H ∧ ∃ z, x = .str z ∧ ([] : List V) = [] ∧ Q (.bl (Txt.isdigit z)) H) (e := .Call (.Attribute o "isdigit" apos) [] [] cpos) ho (fun ta h1 => pe_bm0 F.plainAttrs_str F.slot_str_isdigit F.type_str_isdigit mt_isdigit h1 hbase hline) fun {R H x u Q} h1 _ k => by
    have h1 : u = V.str x := h1
    subst h1
    exact ⟨rfl, x, rfl, rfl, k _ rfl⟩
  simp only [true_and] at h
  exact h
theorem eo_split {wo we : D → (Str → D → Prop) → (Addr → D → Prop) → Prop} (ho : EW X E T o wo) (he : EW X E T e we) (hbase : attributeBase o "split" X.env (eval o X.env) = eval o X.env := by rfl)
    (hfew : ((backTo cpos (starEach [e] X.env)).all (fun x => !x.1) && (backToKw cpos (keywordEach [] X.env)).all (fun x => x.1.isSome) && decide ([e].length + ([] : List Keyword).length + (if ([] : List Keyword).isEmpty then 0 else 1) < 30)) = true := by rfl)
    (hline : (apos.endLine == cpos.line) = true := by rfl) (hs : starEach [e] X.env = (false, eval e X.env) :: starEach [] X.env := by rfl) :
    EO X E T (.Call (.Attribute o "split" apos) [e] [] cpos) (fun (d : D) (Kn : OL Str → D → Prop) Ke => wo d (fun z d1 => we d1 (fun y d2 => ((y.length == 0) = false ∧ z.length + 2 ≤ sizeLine) ∧ Kn ⟨Txt.split z y⟩ d2) Ke) Ke) := by
  obtain ⟨to, a1, a2⟩ := ho
  obtain ⟨te, b1, b2⟩ := he
  refine ⟨_, pe_bm F.plainAttrs_str F.slot_str_split F.type_str_split mt_split a1 (pa_cons b1 pa_nil hs) hbase hfew hline hs rfl, fun d F R σ H Kn Ke Q s hw kn ke => ?_⟩
  refine a2 d F R σ H _ Ke _ s hw (fun x d1 u F1 R1 H1 q1 c1 s1 r1 => ?_) ke
  have r1 : u = V.str x := r1
  subst r1
  refine ⟨rfl, b2 d1 F1 R1 σ H1 _ Ke _ s1 q1 (fun y d2 v F2 R2 H2 q2 c2 s2 r2 => ?_) fun C y d' F' R' H' k c s' => ke C y d' F' R' H' k (Ch.trans s s1.tab c1 c) s'⟩
  have r2 : v = V.str y := r2
  subst r2
  refine ⟨x, y, rfl, rfl, q2.1.1, Nat.le_trans (Nat.le_add_right _ 2) q2.1.2, Nat.le_trans (parts_le x y) q2.1.2, Nat.le_trans (PyProof.Rows.split_le x y) q2.1.2, fun p hp => ?_⟩
  obtain ⟨R', c4, s4, n4⟩ := ol_new s2 hp (strs_paired (Txt.split x y))
  exact kn _ d2 _ _ F2 R' _ q2.2 (Ch.trans s s1.tab c1 (Ch.trans s1 s2.tab c2 c4)) s4 n4
theorem ew_join {wo : D → (Str → D → Prop) → (Addr → D → Prop) → Prop} {we : D → (List Str → D → Prop) → (Addr → D → Prop) → Prop} (ho : EW X E T o wo) (he : EW X E T e we) (hbase : attributeBase o "join" X.env (eval o X.env) = eval o X.env := by rfl)
    (hfew : ((backTo cpos (starEach [e] X.env)).all (fun x => !x.1) && (backToKw cpos (keywordEach [] X.env)).all (fun x => x.1.isSome) && decide ([e].length + ([] : List Keyword).length + (if ([] : List Keyword).isEmpty then 0 else 1) < 30)) = true := by rfl)
    (hline : (apos.endLine == cpos.line) = true := by rfl) (hs : starEach [e] X.env = (false, eval e X.env) :: starEach [] X.env := by rfl) :
    EW X E T (.Call (.Attribute o "join" apos) [e] [] cpos) (fun (d : D) (Kn : Str → D → Prop) Ke => wo d (fun z d1 => we d1 (fun ts d2 => JoinOk z ts = true ∧ Kn (Txt.join z ts) d2) Ke) Ke) := by
  obtain ⟨to, a1, a2⟩ := ho
  obtain ⟨te, b1, b2⟩ := he
  refine ⟨_, pe_bm F.plainAttrs_str F.slot_str_join F.type_str_join mt_join a1 (pa_cons b1 pa_nil hs) hbase hfew hline hs rfl, fun d F R σ H Kn Ke Q s hw kn ke => ?_⟩
  refine a2 d F R σ H _ Ke _ s hw (fun x d1 u F1 R1 H1 q1 c1 s1 r1 => ?_) ke
  have r1 : u = V.str x := r1
  subst r1
  refine ⟨rfl, b2 d1 F1 R1 σ H1 _ Ke _ s1 q1 (fun y d2 v F2 R2 H2 q2 c2 s2 r2 => ?_) fun C y d' F' R' H' k c s' => ke C y d' F' R' H' k (Ch.trans s s1.tab c1 c) s'⟩
  obtain ⟨q, vs, rfl, _, h1, h2⟩ := r2
  have e := paired_strs h2
  subst e
  exact ⟨x, q, y, rfl, rfl, SqL.of h1, q2.1, kn _ d2 _ F2 R2 H2 q2.2 (Ch.trans s s1.tab c1 c2) s2 rfl⟩
theorem ew_strI {wa : D → (Int → D → Prop) → (Addr → D → Prop) → Prop} (hg : Gl X "str") (hm : X.mg "str" = none) (ha : EW X E T a wa) (hs : starEach [a] X.env = (false, eval a X.env) :: starEach [] X.env := by rfl) :
    EW X E T (.Call (.Name "str" p) [a] [] pos) (fun (d : D) (Kn : Str → D → Prop) Ke => wa d (fun x d1 => x.natAbs.log2 < 1920 ∧ Kn (toString x : String) d1) Ke) := by
  obtain ⟨ta, a1, a2⟩ := ha
  refine ⟨_, pe_callTy call_str_int hg hm PyProof.Rows.boot_str (pa_cons a1 pa_nil hs) (he := hs), fun d F R σ H Kn Ke Q s hw kn ke => a2 d F R σ H _ Ke _ s hw (fun x d1 u F1 R1 H1 q1 c1 s1 r1 => ?_) ke⟩
  have r1 : u = V.int x := r1
  subst r1
  exact ⟨x, rfl, q1.1, kn _ d1 _ F1 R1 H1 q1.2 c1 s1 rfl⟩
theorem ew_intS {wa : D → (Str → D → Prop) → (Addr → D → Prop) → Prop} (hg : Gl X "int") (hm : X.mg "int" = none) (ha : EW X E T a wa) (hs : starEach [a] X.env = (false, eval a X.env) :: starEach [] X.env := by rfl) :
    EW X E T (.Call (.Name "int" p) [a] [] pos) (fun (d : D) (Kn : Int → D → Prop) Ke => wa d (fun z d1 => z.length ≤ 640 ∧ ∃ n, PySem.intText? z = some n ∧ Kn n d1) Ke) := by
  obtain ⟨ta, a1, a2⟩ := ha
  refine ⟨_, pe_callTy call_int_str hg hm PyProof.Rows.boot_int (pa_cons a1 pa_nil hs) (he := hs), fun d F R σ H Kn Ke Q s hw kn ke => a2 d F R σ H _ Ke _ s hw (fun x d1 u F1 R1 H1 q1 c1 s1 r1 => ?_) ke⟩
  have r1 : u = V.str x := r1
  subst r1
  obtain ⟨h1, n, h2, h3⟩ := q1
  exact ⟨x, n, rfl, h1, h2, kn _ d1 _ F1 R1 H1 h3 c1 s1 rfl⟩
theorem ew_slen {wa : D → (Str → D → Prop) → (Addr → D → Prop) → Prop} (hg : Gl X "len") (hm : X.mg "len" = none) (ha : EW X E T a wa) (hs : starEach [a] X.env = (false, eval a X.env) :: starEach [] X.env := by rfl) :
    EW X E T (.Call (.Name "len" p) [a] [] pos) (fun (d : D) (Kn : Int → D → Prop) Ke => wa d (fun z d1 => z.length ≤ sizeLine ∧ Kn (z.length : Int) d1) Ke) := by
  obtain ⟨ta, a1, a2⟩ := ha
  refine ⟨_, pe_callB call_len_str hg hm PySem.boot_len (pa_cons a1 pa_nil hs) (he := hs), fun d F R σ H Kn Ke Q s hw kn ke => a2 d F R σ H _ Ke _ s hw (fun x d1 u F1 R1 H1 q1 c1 s1 r1 => ?_) ke⟩
  have r1 : u = V.str x := r1
  subst r1
  exact ⟨x, rfl, q1.1, kn _ d1 _ F1 R1 H1 q1.2 c1 s1 rfl⟩
theorem ew_six {wa : D → (Str → D → Prop) → (Addr → D → Prop) → Prop} {wb : D → (Int → D → Prop) → (Addr → D → Prop) → Prop} (ha : EW X E T a wa) (hb : EW X E T b wb) (hs : PlainIx b) :
    EW X E T (.Subscript a b pos) (fun (d : D) (Kn : Str → D → Prop) Ke => wa d (fun z d1 => wb d1 (fun i d2 => z.length ≤ sizeLine ∧ ∃ c, atI z.cps.toList i = some c ∧ Kn ⟨#[c]⟩ d2) Ke) Ke) := by
  obtain ⟨ta, a1, a2⟩ := ha
  obtain ⟨tb, b1, b2⟩ := hb
  refine ⟨_, pe_ix ix_str a1 b1 hs, fun d F R σ H Kn Ke Q s hw kn ke => ?_⟩
  refine a2 d F R σ H _ Ke _ s hw (fun x d1 u F1 R1 H1 q1 c1 s1 r1 => ?_) ke
  refine b2 d1 F1 R1 σ H1 _ Ke _ s1 q1 (fun y d2 v F2 R2 H2 q2 c2 s2 r2 => ?_) fun C y d' F' R' H' k c s' => ke C y d' F' R' H' k (Ch.trans s s1.tab c1 c) s'
  have r1 : u = V.str x := r1
  have r2 : v = V.int y := r2
  subst r1; subst r2
  obtain ⟨h1, c, h2, h3⟩ := q2
  exact ⟨x, y, c, rfl, rfl, h1, h2, kn _ d2 _ F2 R2 H2 h3 (Ch.trans s s1.tab c1 c2) s2 rfl⟩
theorem ew_scat {wa wb : D → (Str → D → Prop) → (Addr → D → Prop) → Prop} (ha : EW X E T a wa) (hb : EW X E T b wb) :
    EW X E T (.BinOp a .Add b pos) (fun (d : D) (Kn : Str → D → Prop) Ke => wa d (fun x d1 => wb d1 (fun y d2 => x.length + y.length ≤ sizeLine ∧ Kn (x ++ y) d2) Ke) Ke) :=
  ew_two (γ := Str) ha hb (fun ta tb h1 h2 => pe_op op_add_str h1 h2) fun h1 h2 h3 k => ⟨_, _, h1, h2, h3, k _ rfl⟩
theorem ew_smul {wa : D → (Str → D → Prop) → (Addr → D → Prop) → Prop} {wb : D → (Int → D → Prop) → (Addr → D → Prop) → Prop} (ha : EW X E T a wa) (hb : EW X E T b wb) :
    EW X E T (.BinOp a .Mult b pos) (fun (d : D) (Kn : Str → D → Prop) Ke => wa d (fun x d1 => wb d1 (fun y d2 => MulOk x y ∧ Kn (Txt.mul x y) d2) Ke) Ke) :=
  ew_two (γ := Str) ha hb (fun ta tb h1 h2 => pe_op op_mulS h1 h2) fun h1 h2 h3 k => ⟨_, _, h1, h2, h3, k _ rfl⟩
theorem ew_ssl {lo hi : Option Expr} {p2 : Pos} {wa : D → (Str → D → Prop) → (Addr → D → Prop) → Prop} {wl wh : D → (Option Int → D → Prop) → (Addr → D → Prop) → Prop} (ha : EW X E T a wa) (hl : OW X E T lo wl) (hh : OW X E T hi wh) :
    EW X E T (.Subscript a (.Slice lo hi none p2) pos) (fun (d : D) (Kn : Str → D → Prop) Ke => wa d (fun z d1 => wl d1 (fun l d2 => wh d2 (fun h d3 => z.length ≤ sizeLine ∧ Kn (StrLaws.sliceText z l h) d3) Ke) Ke) Ke) := by
  obtain ⟨ta, a1, a2⟩ := ha
  obtain ⟨tl, l1, l2⟩ := hl
  obtain ⟨th, h1, h2⟩ := hh
  refine ⟨_, pe_slice sl_str a1 l1 h1, fun d F R σ H Kn Ke Q s hw kn ke => ?_⟩
  refine a2 d F R σ H _ Ke _ s hw (fun z d1 u F1 R1 H1 q1 c1 s1 r1 => ?_) ke
  refine l2 d1 F1 R1 σ H1 _ Ke _ s1 q1 (fun l d2 F2 R2 H2 q2 c2 s2 => ?_) fun C y d' F' R' H' k c s' => ke C y d' F' R' H' k (Ch.trans s s1.tab c1 c) s'
  refine h2 d2 F2 R2 σ H2 _ Ke _ s2 q2 (fun h d3 F3 R3 H3 q3 c3 s3 => ?_) fun C y d' F' R' H' k c s' => ke C y d' F' R' H' k (Ch.trans s s1.tab c1 (Ch.trans s1 s2.tab c2 c)) s'
  have r1 : u = V.str z := r1
  subst r1
  exact ⟨z, rfl, q3.1, kn _ d3 _ F3 R3 H3 q3.2 (Ch.trans s s1.tab c1 (Ch.trans s1 s2.tab c2 c3)) s3 rfl⟩
theorem cm_snotin : Cm X .NotIn (fun x y : Str => !(!(occurrences y x 0 y.length 1).isEmpty)) := ⟨_, op_notin_str, fun h1 h2 k => ⟨_, _, h1, h2, k⟩⟩
theorem tw_neS {wa wb : D → (List Str → D → Prop) → (Addr → D → Prop) → Prop} (hu : X.A.units + 64 < cLine) (ha : EW X E T a wa) (hb : EW X E T b wb) (hm : behindInMarks .NotEq b = false) :
    TW X E T (.Compare a [.NotEq] [b] pos) (fun (d : D) Kn Ke => wa d (fun x d1 => wb d1 (fun y d2 => ((∀ z ∈ x, PyData.strOk z = true) ∧ ∀ z ∈ y, PyData.strOk z = true) ∧ Kn (!decide (x = y)) d2) Ke) Ke) := by
  obtain ⟨r, o1, o2⟩ := cm_neD (X := X) (α := List OkS) hu
  obtain ⟨ta, a1, a2⟩ := ha
  obtain ⟨tb, b1, b2⟩ := hb
  refine ⟨_, pt_cmpR o1 a1 b1 hm, fun d F R σ H Kn Ke Q s hw kn ke => ?_⟩
  refine a2 d F R σ H _ Ke _ s hw (fun x d1 u F1 R1 H1 q1 c1 s1 r1 => ?_) ke
  refine b2 d1 F1 R1 σ H1 _ Ke _ s1 q1 (fun y d2 v F2 R2 H2 q2 c2 s2 r2 => ?_) fun C y d' F' R' H' k c s' => ke C y d' F' R' H' k (Ch.trans s s1.tab c1 c) s'
  obtain ⟨l, rfl⟩ := oks x q2.1.1
  obtain ⟨m, rfl⟩ := oks y q2.1.2
  have cv : ∀ {l : List OkS} {u : V}, rp R2 H2 (l.map (·.s)) u → rp R2 H2 l u := fun {l u} ⟨a, vs, h1, h2, h3, h4⟩ => ⟨a, vs, h1, h2, h3, oks_rp h4⟩
  have e : (!decide (l = m)) = !decide (l.map (·.s) = m.map (·.s)) := by
    by_cases z : l = m
    · rw [z]; simp
    · rw [decide_eq_false z, decide_eq_false fun q => z (oks_inj q)]
  refine o2 (cv (s1.val c2 r1)) (cv r2) ⟨_, rfl, ?_⟩
  show Q (!decide (l = m)) H2
  rw [e]
  exact kn _ d2 F2 R2 H2 q2.2 (Ch.trans s s1.tab c1 c2) s2
theorem eo_oos {α : Type} [Rep α] {w : D → (OL α → D → Prop) → (Addr → D → Prop) → Prop} (h : EO X E T e w) : EO X E T e (fun (d : D) (Kn : Oo α → D → Prop) Ke => w d (fun x d' => Kn ⟨some x.l⟩ d') Ke) := by
  obtain ⟨t, h1, h2⟩ := h
  exact ⟨t, h1, fun d F R σ H Kn Ke Q s hw kn ke => h2 d F R σ H _ Ke Q s hw (fun x d' v F1 F2 R' H' q c s' n => kn ⟨some x.l⟩ d' v F1 F2 R' H' q c s' ⟨n.is, n.sub, n.dis, n.tab⟩) ke⟩
def sgn (z : Str) : List Str := z.cps.toList.map fun c => ⟨#[c]⟩
theorem itp_str {z : Str} : ItP (Its z) (sgn z) (fun _ _ => True) where
  go := fun {R H i} _ h => by
    have h : i < z.cps.size := by simpa [sgn] using h
    exact ⟨z.cps[i], by simp [h]⟩
  yld := fun {R H i v H'} _ _ hi y => by
    obtain ⟨e, y⟩ := y
    subst e
    have h : i < z.cps.size := by simpa [sgn] using hi
    refine ⟨.inl rfl, ⟨#[z.cps[i]]⟩, by simp [sgn, h], y _ (by simp [h])⟩
  stop := fun {R H} _ => by show z.cps[_]? = none; simp [sgn]
theorem iw_str {w : D → (Str → D → Prop) → (Addr → D → Prop) → Prop} (h : EW X E T e w) : IW X E T is tg e (fun (b : D) (_ : List Str) => b) (fun (d : D) (Kn : List Str → D → Prop) Ke => w d (fun z d' => z.cps.all (· < 128) = true ∧ Kn (sgn z) d') Ke) := by
  obtain ⟨t, h1, h2⟩ := h
  refine ⟨_, pi_str h1, fun d F R σ H Kn Ke Rk s hw kn ke => h2 d F R σ H _ _ _ s hw (fun z d' v F' R' H' q c s' r => ?_) ke⟩
  have r : v = V.str z := r
  subst r
  exact ⟨z, rfl, q.1, kn (sgn z) d' (Its z) (fun _ _ => True) F' (fun _ => False) F' R' H' q.2 c s'.std (two_nil F') s'.rel itp_str trivial (fun _ _ _ _ => trivial) fun b' G2 F'' R'' H'' σ' p h g t => Sls.fq h (two_eq t fun _ z => z)⟩
end
end WL
namespace L2
variable [L2.GX]
open PySem PySem.Spec PyProof.Rows
structure FnScX (N P : List Str) (sc : Scope) (cl : List (Str × Addr)) : Prop where
  kind : sc.kind = .function
  co : sc.isCoroutine = false
  gen : sc.isGenerator = false
  nd : N.Nodup
  pre : N.take P.length = P
  par : ∀ x ∈ P, sc.names.lookup x = some .local
  nocell : ∀ y ∈ sc.names, y.2 ≠ .cell
  has : ∀ x, sc.names.lookup x = some .free → ∃ c, cl.lookup x = some c
  inj : ∀ x y c, cl.lookup x = some c → cl.lookup y = some c → x = y
def cxX (CX : CXT) (P : Program) (w : World) (K : PySem.W.Frag) (mg : Str → Option Value) (base : Heap) (N : List Str) (qual : Str) (scope : Scope) (f : Addr) (cd : Value) (cl : List (Str × Addr)) (A : Around) (outer : List Env) (s : Shared) (H : Hp) (E : XK) : Cx where
  prog := P
  w := w
  K := K
  mg := mg
  base := base
  A := A.deeper (PySem.W.envX qual scope s.heap.objs.size f cd cl)
  N := N
  s₀ := s
  H₀ := H
  env := PySem.W.envX qual scope s.heap.objs.size f cd cl
  outer := outer
  stack := PySem.W.envX qual scope s.heap.objs.size f cd cl :: outer
  ex := []
  calm := true
  fn := fun _ => false
  pn := []
  xe := fun e s' => wpAny (model P w) (A.deeper (PySem.W.envX qual scope s.heap.objs.size f cd cl)) (leaving (PySem.W.envX qual scope s.heap.objs.size f cd cl) e) (fun _ s'' => CX outer H s E e s'') (fun e' s'' => CX outer H s E e' s'') s'
section
variable {P : Program} {w : World} {K : PySem.W.Frag} {mg : Str → Option Value} {base : Heap} {N ps : List Str} {qual : Str} {scope : Scope} {f : Addr} {cd : Value} {cl : List (Str × Addr)} {A : Around} {outer : List Env} {s : Shared} {H : Hp} {E : XK}
theorem look_mem {α : Type} {x : Str} {u : α} : ∀ {l : List (Str × α)}, (l.map (·.1)).Nodup → (x, u) ∈ l → l.lookup x = some u
  | [], _, h => by cases h
  | (y, v) :: l, nd, h => by
    rw [List.map_cons, List.nodup_cons] at nd
    rcases List.mem_cons.mp h with z | z
    · cases z
      rw [List.lookup_cons, beq_self_eq_true]
    · have ne : (x == y) = false := beq_eq_false_iff_ne.mpr fun e => nd.1 (by rw [← e]; exact List.mem_map.mpr ⟨_, z, rfl⟩)
      rw [List.lookup_cons, ne]
      exact look_mem nd.2 z
theorem zip_keys {α β : Type} : ∀ (ps : List α) (us : List β), ((ps.zip us).map (·.1)).Sublist ps
  | [], _ => by simp
  | _ :: _, [] => by simp
  | p :: ps, u :: us => by
    rw [List.zip_cons_cons, List.map_cons]
    exact (zip_keys ps us).cons₂ p
theorem rev_get {x : Str} {u : Value} {ps : List Str} {us : List Value} {i : Nat} (nd : ps.Nodup) (hp : ps[i]? = some x) (hu : us[i]? = some u) : (ps.zip us).reverse.lookup x = some u := by
  refine look_mem ?_ ?_
  · rw [List.map_reverse]
    refine List.pairwise_reverse.mpr (List.Pairwise.imp Ne.symm ?_)
    exact nd.sublist (zip_keys ps us)
  · rw [List.mem_reverse]
    refine List.mem_iff_getElem?.mpr ⟨i, ?_⟩
    rw [List.getElem?_zip_eq_some]
    exact ⟨hp, hu⟩
theorem inv_startX {CX : CXT} {h1 : Heap} {tk : Nat} {us : List Value} {vs : List V} (S : FnScX N ps scope cl) (hc : ∀ x c, cl.lookup x = some c → ∃ v, base.IsCell c v) (hd : A.handled = none) (e0 : Env0 P w K mg base A outer s H) (hl : vs.length = ps.length) (r : Vals vs us)
    (ns : h1.Ns s.heap.objs.size (fun x => (ps.zip us).reverse.lookup x)) (hk : ∀ b o, s.heap.get? b = some o → h1.get? b = some o) : Inv (cxX CX P w K mg base N qual scope f cd cl A outer s H E) [] (start N vs) H { s with heap := h1, toks := tk } := by
  have hpl : ps.length ≤ N.length := by have := congrArg List.length S.pre; rw [List.length_take] at this; omega
  have noA : ∀ b : Addr, b ∉ (cxX CX P w K mg base N qual scope f cd cl A outer s H E).ex := fun b z => absurd (show b ∈ ([] : List Addr) from z) (by simp)
  refine ⟨⟨e0.mod, S.kind, rfl, rfl, Nat.le_refl _, fun y z c h1 h2 => S.inj y z c h1 h2, fun y hy => ?_, fun y c z _ => (by cases z), fun _ => hd, Around.frames_deeper e0.frames, .inr ⟨rfl, rfl⟩, fun b z => absurd z (noA b), e0.bs, e0.bsz, fun b _ _ => noA b, fun b z => absurd z (noA b), e0.funs, e0.frf⟩,
    rfl, e0.bare, Un.kept hk, ⟨_, ns, fun i y v h1 h2 h3 => ?_⟩, fun y c h => ?_, e0.hok.fresh (Nat.le_refl _), fun y c h => ?_, fun p hp => absurd (show p ∈ ([] : List (Addr × Obj)) from hp) (by simp), e0.hok.kept hk, ?_⟩
  · have hy : scope.names.lookup y = some .cell ∨ scope.names.lookup y = some .free := hy
    rcases hy with hy | hy
    · exact absurd rfl (S.nocell _ (PySem.mem_of_lookup hy))
    · exact S.has y hy
  · have hi : i < vs.length := by
      unfold start at h2
      by_cases hi : i < vs.length
      · exact hi
      · rw [List.getElem?_append_right (by simpa using hi)] at h2
        rw [List.getElem?_replicate] at h2
        split at h2 <;> cases h2
    have ha : vs[i]? = some v := by
      unfold start at h2
      rw [List.getElem?_append_left (by simpa using hi), List.getElem?_map] at h2
      cases e : vs[i]? with
      | none => rw [e] at h2; cases h2
      | some a => rw [e] at h2; cases h2; rfl
    obtain ⟨u, hu, rv⟩ := r.get ha
    have hp : ps[i]? = some y := by rw [← S.pre, List.getElem?_take_of_lt (by omega)]; exact h1
    have ndP : ps.Nodup := by rw [← S.pre]; exact S.nd.sublist (List.take_sublist _ _)
    exact ⟨u, rv, .inl ⟨S.par y (List.mem_of_getElem? hp), rev_get ndP hp hu⟩⟩
  · obtain ⟨v, z⟩ := hc y c h
    exact ⟨v, z.keeps fun b o e => hk b o (e0.bs b o e).1⟩
  · obtain ⟨v, o, z, _⟩ := hc y c h
    exact (e0.bs c o z).2
  · unfold start
    show _ = N.length
    rw [List.length_append, List.length_map, List.length_replicate]
    omega
end
end L2
namespace L2
variable [L2.GX]
open PySem PySem.Spec PyProof.Rows
def PEA (X : Cx) (fb : List Stmt) (e : Expr) (t : TE) : Prop :=
  ∀ (pins : List (Addr × Obj)) (s : Shared) (σ : St) (H : Hp) (Q : VK), Inv X pins σ H s → t σ H Q → PySem.wpAt (model X.prog X.w) X.A (.func fb X.env) (eval e X.env) (EP X pins σ Q) X.xe s
def PSA (X : Cx) (fb : List Stmt) (st : Stmt) (t : TS) : Prop :=
  ∀ (pins : List (Addr × Obj)) (s : Shared) (σ : St) (H : Hp) (D : Ends), Inv X pins σ H s → t D σ H → PySem.wpAt (model X.prog X.w) X.A (.func fb X.env) (exec st X.env) (SP X pins D) X.xe s
def PSsA (X : Cx) (fb : List Stmt) (st : List Stmt) (t : TS) : Prop :=
  ∀ (pins : List (Addr × Obj)) (s : Shared) (σ : St) (H : Hp) (D : Ends), Inv X pins σ H s → t D σ H → PySem.wpAt (model X.prog X.w) X.A (.func fb X.env) (execs st X.env) (SP X pins D) X.xe s
section
variable {X : Cx} {fb : List Stmt} {pos : Pos}
theorem psa_of {st : Stmt} {t : TS} (h : PS X st t) : PSA X fb st t := fun pins s σ H D I q => wpAt_of_wpAny (h pins s σ H D I q)
theorem pssa_of {st : List Stmt} {t : TS} (h : PSs X st t) : PSsA X fb st t := fun pins s σ H D I q => wpAt_of_wpAny (h pins s σ H D I q)
theorem pssa_cons {st : Stmt} {rest : List Stmt} {t1 t2 : TS} (h1 : PSA X fb st t1) (h2 : PSsA X fb rest t2) : PSsA X fb (st :: rest) (tSeq t1 t2) := fun pins s σ H D I q => by
  refine ks_wpAt_execs_cons (ks_wpAt_mono (h1 pins s σ H _ I q) (fun f s' hs => ?_) fun _ _ z => z)
  cases f with
  | next => obtain ⟨σ', H', J, q'⟩ := hs; exact h2 pins s' σ' H' D J q'
  | brk => exact hs
  | cont => exact hs
  | ret u => exact hs
theorem psa_expr {e : Expr} {t : TE} (h : PEA X fb e t) (hs : swapsWith e none pos.line X.env = pure false := by rfl) : PSA X fb (.Expr e pos) (tDrop t) := fun pins s σ H D I q =>
  ks_wpAt_Expr_any (ks_wpAt_mono (h pins s σ H _ I q) (fun u s' ⟨v, H', J, r, q'⟩ => ⟨σ, H', J, q'⟩) fun _ _ z => z) I.quiet hs
end
structure SupD (P : Program) (K : PySem.W.Frag) (C f cda cc : Addr) (x0 : Str) : Prop where
  fn : ∃ (oc : Value) (od : Option Addr) (fd : FuncData) (osl : Array (Option Value)) (ar : Arg), K.lookup f = some ⟨oc, od, .func fd, osl⟩ ∧ (fd.params.posonlyargs ++ fd.params.args).head? = some ar ∧ ar.arg = x0
  code : ∃ (oc : Value) (od : Option Addr) (vs : Array Value) (osl : Array (Option Value)) (file : Str) (tf : Tok), K.lookup cda = some ⟨oc, od, .fields vs, osl⟩ ∧ vs[2]? = some (.str file tf) ∧ ((P.main.file : Str) == file) = true
  cell : ∃ (oc : Value) (od : Option Addr) (osl : Array (Option Value)), K.lookup cc = some ⟨oc, od, .cell (some (.ref C)), osl⟩
  cls : ∃ cd, PySem.W.clsIn K C = some cd
  sub : PySem.W.mroIn K C (.ref C) = some true
  opq : PySem.W.nsIn K cStatics "thirdparty.any" = some none
  top : (P.main.scope.names.lookup ("super" : Str)).isSome = false
def EvOk (p0 p1 apos pos : Pos) (m : Str) (es : List Expr) : Prop := ∀ env : Env, ∃ pl : Sem Bool, eval (.Call (.Attribute (.Call (.Name "super" p0) [] [] p1) m apos) es [] pos) env = (do
  let ov ← attributeBase (.Call (.Name "super" p0) [] [] p1) m env (eval (.Call (.Name "super" p0) [] [] p1) env)
  standAt apos.atName
  let (fv, first) ← holding [ov] (getMethod ov m pl)
  callWith pos fv first (backTo pos (starEach es env)) [])
section
variable {P : Program} {w : World} {K : PySem.W.Frag} {mg : Str → Option Value} {base : Heap} {N ps : List Str} {qual : Str} {scope : Scope} {f cda cc : Addr} {A : Around} {outer : List Env} {s : Shared} {H : Hp} {E E0 : XK} {C f2 : Addr} {x0 m : Str} {k : Nat} {fd2 : FuncData} {sp : Sp} {fb : List Stmt} {p0 p1 apos pos : Pos} {es : List Expr} {ta : TA}
theorem fn_ofA {name : Str} {params : Arguments} {body : List Stmt} {dV kV doc pm ct oc : Value} {an od : Option Addr} {osl : Array (Option Value)} {sp : Sp} {cl : List (Str × Addr)} {cdv : Value} (lk : K.lookup f = some ⟨oc, od, .func (PySem.W.fnX name qual params body scope cl dV kV doc pm an cdv ct), osl⟩) (hcd : PySem.W.codeIn K cdv qual = true)
    (S : FnScX N ps scope cl) (hc : ∀ x c, cl.lookup x = some c → ∃ o v, K.lookup c = some o ∧ o.data = .cell v) (len : ∀ vs H Q E, sp vs H Q E → vs.length = ps.length)
    (hbody : ∀ (A : Around) (outer : List Env) (s : Shared) (H : Hp) (vs : List V) (Q : VK) (E : XK), Room k (A.deeper (PySem.W.envX qual scope s.heap.objs.size f cdv cl)) → sp vs H Q E →
      ∃ t, PSsA (cxX (CX1 P w) P w K mg base N qual scope f cdv cl A outer s H E) body body t ∧ t { nx := fun _ H' => Q .non H', rt := Q } (start N vs) H) :
    FnOk P w K mg base (CX1 P w) (k + 1) f (PySem.W.fnX name qual params body scope cl dV kV doc pm an cdv ct) ps sp := by
  refine ⟨len, fun A outer s H args us vs Q E hr e0 hb r hsp => ?_⟩
  have hl := len _ _ _ _ hsp
  have KX : K.In s.heap := e0.mod.kin.keeps fun b o e => (e0.bs b o e).1
  have lim : s.heap.NoLimit := e0.mod.nolimit.keeps fun b o e => (e0.bs b o e).1
  have hcells : ∀ x c, cl.lookup x = some c → ∃ v, base.IsCell c v := fun x c h => by
    obtain ⟨o, v, q1, q2⟩ := hc x c h
    exact ⟨v, o, e0.mod.kin _ _ q1, q2⟩
  refine ks_codeAny_call_defAt (fd := PySem.W.fnX name qual params body scope cl dV kV doc pm an cdv ct) (body := body) (binds := ps.zip us) hr.depth (KX _ _ lk) rfl lim (PySem.W.codeRec_of KX hcd) rfl hb S.nocell (fun y hy => S.par y.1 (List.of_mem_zip hy).1) (fun h1 hns hk1 => ?_) S.co S.gen S.kind
  obtain ⟨t, ht, hq⟩ := hbody A outer s H vs Q E (hr.deeper _) hsp
  have I : Inv (cxX (CX1 P w) P w K mg base N qual scope f cdv cl A outer s H E) [] (start N vs) H { s with heap := h1, toks := s.toks + (ps.zip us).length } := inv_startX S hcells hr.hd e0 hl r hns hk1
  refine ks_wpAt_mono (ht [] _ (start N vs) H _ I hq) (fun fl s' hs => ?_) fun e s' hs => hs
  have fin : ∀ {σ' : St} {H' : Hp} {v : V} {u : Value}, Inv (cxX (CX1 P w) P w K mg base N qual scope f cdv cl A outer s H E) [] σ' H' s' → RelV v u → Q v H' → CE outer P w H s Q u s' :=
    fun {σ' H' v u} J rv q => ⟨v, H', J.os, J.bare, J.base, J.hok, rv, q⟩
  cases fl with
  | ret u =>
    obtain ⟨v, σ', H', J, rv, q⟩ := hs
    exact fin J rv q
  | next =>
    obtain ⟨σ', H', J, q⟩ := hs
    exact fin (v := V.non) (u := Value.none) J rfl q
  | brk =>
    obtain ⟨_, _, _, q⟩ := hs
    exact False.elim q
  | cont =>
    obtain ⟨_, _, _, q⟩ := hs
    exact False.elim q
end
end L2
namespace L2
variable [L2.GX]
open PySem PySem.Spec PyProof.Rows
theorem slot_wd_get : Slot "wrapper_descriptor" "__get__" "wrapper_descriptor.__get__" := .of (owner := "wrapper_descriptor") (n := "__get__") (by rw [typeLookup_type, builtinLookup_eq_fast]; kernel_rfl) (by decide +kernel) (by decide +kernel) (by decide +kernel)
  (.inl (by kernel_rfl)) (by rw [isSubtype_type]; kernel_rfl)
theorem entry_wd_get : entryFor table "wrapper_descriptor.__get__" = some Builtin.«wrapper_descriptor.__get__» := entryFor_of_tree (by kernel_rfl)
theorem args_wd_get (a b c : Value) : argsOk "wrapper_descriptor.__get__" ⟨[a, b, c], []⟩ := by unfold argsOk; kernel_rfl
theorem type_ve_init : typeOf (.builtin "ValueError.__init__") = pure (.type "wrapper_descriptor") := by kernel_rfl
def wdErr (obj cls : Value) (name : Str) : Sem Unit := do
    rule "descr.get.wrong-instance"
    raiseError "TypeError" s!"descriptor '{name.toString}' for '{← typeName cls}' objects doesn't apply to a '{← typeNameOf obj}' object"
theorem wd_get_eq (x C : Addr) : Builtin.«wrapper_descriptor.__get__» ⟨[.builtin "ValueError.__init__", .ref x, .ref C], []⟩ = ((isInstance (.ref x) (.type "ValueError") >>= fun b => if (!b) = true then wdErr (.ref x) (.type "ValueError") "__init__" else pure ()) >>= fun _ => newFields "method-wrapper" [.builtin "ValueError.__init__", .ref x] >>= ret) := by kernel_rfl
section
variable {prog : Program} {w : World} {A : Around} {E : Value → Shared → Prop} {h : Heap} {g : Array GenState} {d : Drawn} {t : Nat} {os : OsState} {so D x C : Addr} {ox : Obj} {l0 l : List Value} {K : PySem.W.Frag}
theorem codeAny_wd_get {R : Except Value Flow → Shared → Prop} (hx : h.get? x = some ox) (hoc : ox.cls = .ref C) (hsub : PySem.W.Looks (model prog w) h (isSubtype (.ref C) (.type "ValueError")) true)
    (hq : R (.ok (.ret (.ref h.objs.size))) ⟨h.push { cls := .type "method-wrapper", data := .fields #[.builtin "ValueError.__init__", .ref x] }, g, d, t, os⟩) :
    codeAny (model prog w) A (.call (.builtin "wrapper_descriptor.__get__") ⟨[.builtin "ValueError.__init__", .ref x, .ref C], []⟩) R ⟨h, g, d, t, os⟩ := by
  have ht : (⟨h, g, d, t, os⟩ : Shared).TypeIs (.builtin "ValueError.__init__") "wrapper_descriptor" := by first | exact Or.inl type_ve_init | exact type_ve_init
  refine codeAny_call_builtin slot_wd_get.plain entry_wd_get (slot_wd_get.check _ _ _ _ _ _ _ _ ht (args_wd_get _ _ _) ?_)
  rw [wd_get_eq]
  refine wpAny_bind (wpAny_bind ?_)
  unfold isInstance
  refine wpAny_bind (wpAny_typeOf_ref hx ?_)
  rw [hoc]
  refine PySem.W.Looks.at hsub ?_
  exact wpAny_pure (wpAny_bind (wpAny_newObj_type (wpAny_pure hq)))
theorem sup_ga_init {tk : Tok} {Q : Fin → Shared → Prop} (hso : h.get? so = some (PySem.W.ks_superObj D x C)) (hno : PySem.W.Looks (model prog w) h (opaqueClassAbove (.ref C)) none) (hC : PySem.W.Looks (model prog w) h (mroOf (.ref C)) l0) (hl : (l0.dropWhile (· != .ref D)).drop 1 = l) (X : K.In h)
    (hf : PySem.W.alongIn K "__init__" l = some (some (.builtin "ValueError.__init__"))) (hx : h.get? x = some ox) (hoc : ox.cls = .ref C) (hsub : PySem.W.Looks (model prog w) h (isSubtype (.ref C) (.type "ValueError")) true) (hxC : x ≠ C)
    (hq : Q (.done (.ret (.ref h.objs.size))) ⟨h.push { cls := .type "method-wrapper", data := .fields #[.builtin "ValueError.__init__", .ref x] }, g, d, t, os⟩) :
    wpAny (model prog w) A (Builtin.«super.__getattribute__» ⟨[.ref so, .str "__init__" tk], []⟩) Q E ⟨h, g, d, t, os⟩ := by
  have lk := slot_wd_get.lookup
  have ne : (Value.ref x == Value.ref C) = false := by simp [hxC]
  have n2 : (("__init__" : Str) == ("__class__" : Str)) = false := by decide
  have f0 : (#[.ref D, .ref x, .ref C] : Array Value)[0]? = some (.ref D) := rfl
  have f1 : (#[.ref D, .ref x, .ref C] : Array Value)[1]? = some (.ref x) := rfl
  have f2 : (#[.ref D, .ref x, .ref C] : Array Value)[2]? = some (.ref C) := rfl
  have dt : (PySem.W.ks_superObj D x C).data = .fields #[.ref D, .ref x, .ref C] := rfl
  have ty := type_ve_init
  unfold Builtin.«super.__getattribute__»
  repeat (first | (with_reducible refine wpAny_field hso dt f0 ?_) | (with_reducible refine wpAny_field hso dt f1 ?_) | (with_reducible refine wpAny_field hso dt f2 ?_) | (with_reducible refine ks_wpAny_notOpaque hno ?_) | (with_reducible refine PySem.W.Looks.at hC ?_; rw [hl]) | (refine ks_forIn_along X (fun _ _ => rfl) rfl ?_ hf) | (with_reducible refine wpAny_of_eq ty ?_) | (simp only [n2, ne, Bool.or_false, Bool.false_eq_true, if_false]) | wp_step | dsimp only)
  exact codeAny_wd_get hx hoc hsub (wpAny_bind (wpAny_pure (wpAny_pure (wpAny_pure hq))))
end
end L2
namespace L2
variable [L2.GX]
open PySem PySem.Spec PyProof.Rows
section
variable {prog : Program} {w : World} {A : Around} {E : Value → Shared → Prop} {h : Heap} {g : Array GenState} {d : Drawn} {t : Nat} {os : OsState}
variable {nm q : Str} {C N : Addr} {bs bm bmB : List Value} {hdct : Bool} {sn : List Str} {sub : List Value} {ab : Bool} {col : Option Bool} {dd : Option Addr} {k0 k1 k2 k3 k5 : Option Value} {B newId initId : String}
theorem type_call_exc_initT (F : ExcBaseFacts B newId initId bmB) (T : OwnTail h bmB bm) {mN : Str → Option Value} {rest : List Value} {fI : Addr} {oI : Obj} {Q : Fin → Shared → Prop}
    (hC : h.get? C = some (excClassObj nm q C N bs bm hdct sn sub ab col dd k0 k1 k2 k3 k5 newId)) (hn : h.Ns N mN) (hi : mN "__init__" = some (.ref fI))
    (hfI : h.get? fI = some oI) (hfc : oI.cls = .type "function")
    (hq : ∀ h' e, Heap.MadeExcOf h h' e (.ref C) rest →
      wpAny (model prog w) A (call (.ref fI) (.ref e :: rest)) (fun r s' => r = .none ∧ Q (.done (.ret (.ref e))) s') E ⟨h', g, d, t, os⟩) (hrest : rest.length ≤ sizeLine := by size_fits) :
    wpAny (model prog w) A (Builtin.«type.__call__» ⟨.ref C :: rest, []⟩) Q E ⟨h, g, d, t, os⟩ := by
  repeat (first | with_reducible refine wpAny_loadPart_at hC ?_ | with_reducible refine wpAny_madeBy_exc hC ?_ | wp_step)
  refine codeAny_call_builtin_code (Code.quiet_builtin _ F.quiet) (wpAny_check_new_subT F T hC ?_)
  refine codeAny_exc_new_subT F T hC ?_ hrest
  show wpAny _ _ _ _ _ _
  have kp : ∀ b o, h.get? b = some o → ((h.push { cls := .type "tuple", data := .seq rest.toArray }).push { cls := .ref C, data := .fields #[.ref h.objs.size, .none, .none, .none, .bool false, .none] }).get? b = some o := fun b o e => Heap.get?_push_of_some _ (Heap.get?_push_of_some _ e)
  have hC₁ := kp _ _ hC
  have hget : ((h.push { cls := .type "tuple", data := .seq rest.toArray }).push
      { cls := .ref C, data := .fields #[.ref h.objs.size, .none, .none, .none, .bool false, .none] }).get? (h.objs.size + 1) = some
      { cls := .ref C, data := .fields #[.ref h.objs.size, .none, .none, .none, .bool false, .none] } := by heap_get
  have hcC : (Value.ref C :: bm).contains (.ref C) = true := by simp
  unfold isInstance
  repeat (first | with_reducible refine wpAny_loadPart_at hget ?_ | (with_reducible refine wpAny_isSubtype_exc hC₁ ?_; rw [hcC]) | wp_step)
  show wpAny _ _ (typeLookup (.ref C) _) _ _ _
  refine wpAny_typeLookup_tail hC₁ (hn.keeps kp) (T.keeps kp) F.mroIs F.init.lookup ?_
  rw [hi]
  refine wpAny_holding (wpAny_bind ?_)
  unfold bindSpecial
  refine wpAny_bind (wpAny_typeOf (T := "function") ⟨_, kp _ _ hfI, hfc⟩ ?_)
  rw [if_pos (by decide)]
  refine wpAny_pure (wpAny_bind (wpAny_mono (hq _ (h.objs.size + 1) ⟨kp, Heap.get?_none_of_le (Nat.le_succ _), h.objs.size, hget, Heap.get?_none_of_le (Nat.le_refl _), Heap.get?_push_of_some _ (Heap.get?_push_at rfl rfl)⟩) (fun r s' hr => ?_) fun _ _ x => x))
  obtain ⟨rfl, hQ⟩ := hr
  wp_walk
  exact hQ
theorem call_exc_initT (F : ExcBaseFacts B newId initId bmB) (T : OwnTail h bmB bm) {mN : Str → Option Value} {rest : List Value} {fI : Addr} {oI : Obj} {Q : Value → Shared → Prop}
    (hC : h.get? C = some (excClassObj nm q C N bs bm hdct sn sub ab col dd k0 k1 k2 k3 k5 newId)) (hn : h.Ns N mN) (hi : mN "__init__" = some (.ref fI))
    (hfI : h.get? fI = some oI) (hfc : oI.cls = .type "function")
    (hq : ∀ h' e, Heap.MadeExcOf h h' e (.ref C) rest →
      wpAny (model prog w) (A.under (.builtin "type.__call__" ⟨.ref C :: rest, []⟩)) (call (.ref fI) (.ref e :: rest)) (fun r s' => r = .none ∧ Q (.ref e) s') E ⟨h', g, d, t, os⟩) (hrest : rest.length ≤ sizeLine := by size_fits) :
    wpAny (model prog w) A (call (.ref C) rest) Q E ⟨h, g, d, t, os⟩ := by
  have f1 := tc_lookup
  have f2 := tc_bind (.ref C)
  have hT : (⟨h, g, d, t, os⟩ : Shared).TypeIs (.ref C) "type" := ⟨_, hC, rfl⟩
  refine wpAny_call (codeAny_of_tree ?_)
  show wpAny _ _ (callAny (.ref C) _) _ _ _
  repeat (any_goals (first | assumption | with_reducible refine wpAny_loadPart_at hC ?_ | wp_step))
  refine ⟨rfl, ?_⟩
  exact codeAny_call_builtin_at (Code.quiet_builtin _ (by decide +kernel)) entry_typeCall (wpAny_check_type_call_sub hC (type_call_exc_initT (hrest := hrest) F T hC hn hi hfI hfc fun h' e hm => hq h' e hm))
end
end L2
namespace L2
variable [L2.GX]
open PySem PySem.Spec PyProof.Rows
def mwObj (x : Addr) : Obj := { cls := .type "method-wrapper", data := .fields #[.builtin "ValueError.__init__", .ref x] }
section
variable {prog : Program} {w : World} {A : Around} {E : Value → Shared → Prop} {h : Heap} {g : Array GenState} {d : Drawn} {t : Nat} {os : OsState} {so D x C : Addr} {ox : Obj} {l0 l : List Value} {K : PySem.W.Frag}
theorem getMethod_sup_init {pl : Sem Bool} {Q : Value × List Value → Shared → Prop} (hso : h.get? so = some (PySem.W.ks_superObj D x C)) (hno : PySem.W.Looks (model prog w) h (opaqueClassAbove (.ref C)) none) (hC : PySem.W.Looks (model prog w) h (mroOf (.ref C)) l0) (hl : (l0.dropWhile (· != .ref D)).drop 1 = l) (X : K.In h)
    (hf : PySem.W.alongIn K "__init__" l = some (some (.builtin "ValueError.__init__"))) (hx : h.get? x = some ox) (hoc : ox.cls = .ref C) (hsub : PySem.W.Looks (model prog w) h (isSubtype (.ref C) (.type "ValueError")) true) (hxC : x ≠ C)
    (hq : Q (.ref h.objs.size, []) ⟨h.push (mwObj x), g, d, t + 1, os⟩) : wpAny (model prog w) A (getMethod (.ref so) "__init__" pl) Q E ⟨h, g, d, t, os⟩ := by
  have hlk := F.ks_slot_super_ga.lookup
  have hcan := F.ks_canon_super_ga
  have hT : ∀ t', (⟨h, g, d, t', os⟩ : Shared).TypeIs (.ref so) "super" := fun _ => ⟨_, hso, rfl⟩
  unfold getMethod
  refine wpAny_bind (wpAny_specialOf (hT _) hlk ?_)
  show wpAny _ _ (if (Manifest.canonical "super.__getattribute__" != "object.__getattribute__") = true then _ else _) _ _ _
  rw [if_pos hcan]
  unfold getAttr getAttrBy
  refine wpAny_bind (wpAny_bind (wpAny_mkText (wpAny_holding (wpAny_bind (wpAny_typeOf (hT _) (wpAny_bind (wpAny_of_eq hlk ?_)))))))
  show wpAny _ _ (getAttrByItsOwn (.ref so) (.str "__init__" t) (.type "super") (.builtin "super.__getattribute__") true false) _ _ _
  unfold getAttrByItsOwn hookBefore callGetattribute boundAndCalled
  refine wpAny_bind (wpAny_of_eq (show (if onTheHeap (.type "super") then typeLookup (.type "super") "__getattr__" else pure none) = pure none from rfl) ?_)
  refine wpAny_bind (wpAny_attempt (wpAny_holding ?_))
  show wpAny _ _ (bindSpecial (.builtin "super.__getattribute__") (.ref so) >>= _) _ _ _
  refine wpAny_bind (wpAny_of_eq (F.ks_slot_super_ga.bind _) ?_)
  refine wpAny_mono (Q := fun v s' => v = .ref h.objs.size ∧ s' = ⟨h.push (mwObj x), g, d, t + 1, os⟩) (E := fun _ _ => False)
    (wpAny_call_entry F.ks_slot_super_ga (hT _) F.ks_entry_super_ga (sup_ga_init hso hno hC hl X hf hx hoc hsub hxC ⟨_, rfl, rfl, rfl⟩) (F.ks_gaArgs_super _ _)) (fun v s' hv => ?_) fun _ _ z => z.elim
  obtain ⟨rfl, rfl⟩ := hv
  exact wpAny_pure (wpAny_pure hq)
theorem keeps_mw {M : Model} {q : Addr} (h : Heap) (e : h.get? q = some (mwObj x)) : ∃ k, (k = Keeper.frame ∨ k = Keeper.machine ∨ k = Keeper.boundFrame) ∧ PySem.W.Looks M h (keeperOf (.ref q)) k :=
  ⟨.machine, .inr (.inl rfl), (PySem.W.Looks.ld (part := none) e).andThen .now⟩
variable {nm q : Str} {N : Addr} {bs bm bmB : List Value} {hdct : Bool} {sn : List Str} {sub : List Value} {ab : Bool} {col : Option Bool} {dd : Option Addr} {k0 k1 k2 k3 k5 : Option Value} {newId : String}
theorem check_bound_init {M : Model} (F : ExcBaseFacts "ValueError" newId "ValueError.__init__" bmB) {rest : List Value} {Q : Unit → Shared → Prop}
    (hC : h.get? C = some (excClassObj nm q C N bs bm hdct sn sub ab col dd k0 k1 k2 k3 k5 newId)) (hx : h.get? x = some ox) (hoc : ox.cls = .ref C) (hq : Q () ⟨h, g, d, t, os⟩) :
    wpAny M A (checkBoundCall "ValueError.__init__" ⟨.ref x :: rest, []⟩) Q E ⟨h, g, d, t, os⟩ := by
  have hshort := F.noStar
  simp only [checkBoundCall, F.initKind, F.initRow]
  rw [if_pos (by decide)]
  repeat (first | (with_reducible refine wpAny_loadPart_at hx ?_; rw [hoc]) | with_reducible refine wpAny_loadPart_at hC ?_ | wp_step)
  refine wpAny_onRaise ?_
  rw [show ∀ (a b : String) (n : Nat), Bind.check ⟨.positional, "*", "ValueError", .self, [⟨"args", .varPos, false⟩]⟩ a b n (List.map (fun x => x.fst) ({ pos := Value.ref x :: rest } : Args).kw) = pure () from
    fun a b n => check_star_args _ _ _ _ _ _]
  exact wpAny_pure hq
theorem call_mw (F : ExcBaseFacts "ValueError" newId "ValueError.__init__" bmB) {mw : Addr} {vs : Array Value} {t0 : Addr} {rest : List Value} {Q : Value → Shared → Prop} (hC : h.get? C = some (excClassObj nm q C N bs bm hdct sn sub ab col dd k0 k1 k2 k3 k5 newId)) (e : h.get? mw = some (mwObj x)) (hx : h.get? x = some ox) (hoc : ox.cls = .ref C) (hd : ox.data = .fields vs) (h0 : vs[0]? = some (.ref t0))
    (hq : Q .none ⟨(h.push { cls := .type "tuple", data := .seq rest.toArray }).update x (Obj.mapFields (·.setIfInBounds 0 (.ref h.objs.size))), g, d, t, os⟩) (hrest : rest.length ≤ sizeLine := by size_fits) :
    wpAny (model prog w) A (call (.ref mw) rest) Q E ⟨h, g, d, t, os⟩ := by
  refine wpAny_call (codeAny_of_tree ?_)
  show wpAny _ _ (callAny (.ref mw) ⟨rest, []⟩) _ _ _
  unfold callAny
  refine wpAny_bind (wpAny_load e ?_)
  have c1 : ((mwObj x).cls == .type "method" || (mwObj x).cls == .type "builtin_function_or_method" || (mwObj x).cls == .type "method-wrapper") = true := by rw [show (mwObj x).cls = .type "method-wrapper" from rfl]; decide
  have c2 : ((mwObj x).cls != .type "method") = true := by rw [show (mwObj x).cls = .type "method-wrapper" from rfl]; decide
  have dt : (mwObj x).data = .fields #[.builtin "ValueError.__init__", .ref x] := rfl
  simp only [dt, c1, if_true]
  have a0 : (#[.builtin "ValueError.__init__", .ref x] : Array Value)[0]? = some (.builtin "ValueError.__init__") := rfl
  have a1 : (#[.builtin "ValueError.__init__", .ref x] : Array Value)[1]? = some (.ref x) := rfl
  simp only [a0, a1, c2, if_true]
  refine wpAny_bind (check_bound_init F hC hx hoc (wpAny_pure ⟨plainId_quiet F.init.plain _, codeAny_builtin F.initEntry ?_⟩))
  rw [Around.under_plainId F.init.plain]
  unfold Builtin.«BaseException.__init__»
  dsimp only
  rw [if_neg (by simp)]
  unfold newTuple Builtin.BaseException.bexcPut
  have hsz : 0 < vs.size := (Array.getElem?_eq_some_iff.mp h0).1
  have he₁ := Heap.get?_push_of_some (h := h) { cls := .type "tuple", data := .seq rest.toArray } hx
  refine wpAny_bind (wpAny_newObj_type (wpAny_bind (wpAny_bind (wpAny_field he₁ hd h0 (wpAny_bind (wpAny_setField he₁ hd hsz ?_))))) (by show rest.toArray.size ≤ sizeLine; rw [List.size_toArray]; exact hrest))
  exact wpAny_letGo (wpAny_pure hq)
end
end L2
namespace L2
variable [L2.GX]
open PySem PySem.Spec PyProof.Rows Builtin Builtin.ObjectAttr
section
variable {prog : Program} {w : World} {A : Around} {E : Value → Shared → Prop} {h : Heap} {g : Array GenState} {d : Drawn} {t : Nat} {os : OsState} {x C N : Addr} {o : Obj} {v : Value} {name : Str}
variable {nm q : Str} {bs bm bmB : List Value} {sn : List Str} {sub : List Value} {ab : Bool} {col : Option Bool} {dd : Option Addr} {k0 k1 k2 k3 k5 : Option Value} {B newId sa owner : String}
theorem check_saT {M : Model} {nameV : Value} {Q : Unit → Shared → Prop} (SF : StoreFacts B bmB sa owner) (how : bm.contains (.type owner) = true)
    (hC : h.get? C = some (excClassObj nm q C N bs bm true sn sub ab col dd k0 k1 k2 k3 k5 newId)) (hx : h.get? x = some o) (hc : o.cls = .ref C) (hq : Q () ⟨h, g, d, t, os⟩) :
    wpAny M A (checkBuiltinCall sa ⟨[.ref x, nameV, v], []⟩) Q E ⟨h, g, d, t, os⟩ := by
  have hcB : (Value.ref C :: bm).contains (.type owner) = true := by rw [List.contains_cons, how, Bool.or_true]
  have ha := SF.args (.ref x) nameV v
  simp only [checkBuiltinCall, SF.kind, SF.split]
  refine wpAny_bind ?_
  unfold isInstance
  repeat (first | (with_reducible refine wpAny_loadPart_at hx ?_; rw [hc]) | (with_reducible refine wpAny_isSubtype_exc hC ?_; rw [hcB]) | wp_step)
  cases hsig : Manifest.signature? sa with
  | none => exact wpAny_pure hq
  | some sig =>
    simp only [argsOk, hsig] at ha
    have h2 : Bind.checkArgs sa sig ⟨[.ref x, nameV, v], []⟩ = pure () := ha
    show wpAny M A (Bind.checkArgs sa sig ⟨[.ref x, nameV, v], []⟩) Q E _
    rw [h2]; exact wpAny_pure hq
theorem store_excT {tk : Tok} {Q : Fin → Shared → Prop} (hps : refuseLoop (.ref x) "__setattr__" bm = pure ())
    (hC : h.get? C = some (excClassObj nm q C N bs bm true sn sub ab col dd k0 k1 k2 k3 k5 newId)) (L2 : PySem.W.Looks (model prog w) h (typeLookup (.ref C) name) none)
    (hx : h.get? x = some o) (hc : o.cls = .ref C) (hnc : ∀ c, o.data ≠ .cls c) (hdn : o.dict = none)
    (hq : ∀ h' tk' dx, h.get? dx = none → (∀ b ob, b ≠ x → h.get? b = some ob → h'.get? b = some ob) → h'.get? x = some { cls := o.cls, dict := some dx, data := o.data, slots := o.slots } → h'.Ns1 dx (fun y => if y = name then some v else none) → Q (.done (.ret .none)) ⟨h', g, d, tk', os⟩) :
    wpAny (model prog w) A (Builtin.«object.__setattr__» ⟨[.ref x, .str name tk, v], []⟩) Q E ⟨h, g, d, t, os⟩ := by
  unfold Builtin.«object.__setattr__»
  repeat (first | rw [refuse_eq] | (rw [refuseLoop_ref, hps]) | (with_reducible refine wpAny_loadPart_at hx ?_; rw [hc]) | with_reducible refine wpAny_mroOf_exc hC ?_ | (with_reducible refine PySem.W.Looks.at L2 ?_) | wp_step)
  rw [hdn, if_neg (by simp [typeHasDict])]
  split
  · rename_i hcd
    cases hcd
  split
  · rename_i c hcd
    exact absurd hcd (hnc c)
  · have hx₁ : (h.push { cls := .type "dict", data := .dict #[] }).get? x = some o := Heap.get?_push_of_some _ hx
    have hxs : x ≠ h.objs.size := Nat.ne_of_lt (Heap.lt_size hx)
    refine wpAny_bind (wpAny_alloc' ?_)
    refine wpAny_bind (wpAny_update' hx₁ ?_)
    refine wpAny_pure ?_
    have hgd : ((h.push { cls := .type "dict", data := .dict #[] }).update x fun o => { cls := o.cls, dict := some h.objs.size, data := o.data, slots := o.slots }).get? h.objs.size
        = some { cls := .type "dict", data := .dict #[] } :=
      (Heap.get?_update_ne _ _ _ _ hxs.symm).trans (Heap.get?_push_at rfl rfl)
    have hnd : ((h.push { cls := .type "dict", data := .dict #[] }).update x fun o => { cls := o.cls, dict := some h.objs.size, data := o.data, slots := o.slots }).Ns h.objs.size (fun _ => none) :=
      ⟨_, #[], _, hgd, rfl, fun e he => absurd he (by simp), fun _ => rfl⟩
    show wpAny _ _ (storeInDict h.objs.size (.str name tk) name v) _ _ _
    unfold storeInDict newKeyGuard
    refine wpAny_bind (wpAny_pure (wpAny_bind (wpAny_nsSet1 (Heap.Ns1.of_empty hnd) fun h' hn' hs => ?_)))
    obtain ⟨oD, esD, epD, hoD, hdD, hcD⟩ := hn'.count (Within.cons name v Within.nil)
    refine wpAny_bind (wpAny_lookBehind hoD (by rw [hdD]; exact pastItsLine_dict (Nat.le_trans hcD (by rw [List.length_cons, List.length_nil, sizeLine_eq]; omega))) ?_)
    wp_walk
    refine hq h' _ h.objs.size (Heap.get?_none_of_le (Nat.le_refl _)) (fun b ob hbx hb => ?_) ?_ hn'
    · exact (hs.2 b (Nat.ne_of_lt (Heap.lt_size hb))).trans ((Heap.get?_update_ne _ _ _ _ hbx).trans (Heap.get?_push_of_some _ hb))
    · refine (hs.2 x hxs).trans (Heap.get?_update_self _ hx₁ ?_)
      have hfr := (Heap.get?_some_iff.mp hx).2
      obtain ⟨oc, od, odt, osl⟩ := o
      cases odt <;> first | rfl | exact hfr
theorem store_attrT {Q : Unit → Shared → Prop} (SF : StoreFacts B bmB sa owner) (how : bm.contains (.type owner) = true) (hps : refuseLoop (.ref x) "__setattr__" bm = pure ())
    (hC : h.get? C = some (excClassObj nm q C N bs bm true sn sub ab col dd k0 k1 k2 k3 k5 newId)) (L1 : PySem.W.Looks (model prog w) h (typeLookup (.ref C) "__setattr__") (some (.builtin sa))) (L2 : PySem.W.Looks (model prog w) h (typeLookup (.ref C) name) none)
    (hx : h.get? x = some o) (hc : o.cls = .ref C) (hnc : ∀ c, o.data ≠ .cls c) (hdn : o.dict = none)
    (hq : ∀ h' tk' dx, h.get? dx = none → (∀ b ob, b ≠ x → h.get? b = some ob → h'.get? b = some ob) → h'.get? x = some { cls := o.cls, dict := some dx, data := o.data, slots := o.slots } → h'.Ns1 dx (fun y => if y = name then some v else none) → Q () ⟨h', g, d, tk', os⟩) :
    wpAny (model prog w) A (setAttr (.ref x) name v) Q E ⟨h, g, d, t, os⟩ := by
  have f3 := SF.slot.bind (.ref x)
  unfold setAttr callSpecial? specialOf
  repeat (any_goals (first | assumption | (with_reducible refine wpAny_loadPart_at hx ?_; rw [hc]) | (with_reducible refine PySem.W.Looks.at L1 ?_) | wp_step))
  refine codeAny_call_builtin SF.slot.plain SF.entry (check_saT SF how hC hx hc (store_excT hps hC L2 hx hc hnc hdn fun h' tk' dx z1 z2 z3 z4 => ?_))
  repeat (any_goals (first | assumption | wp_step))
  exact hq h' tk' dx z1 z2 z3 z4
end
end L2
namespace L2
variable [L2.GX]
open PySem PySem.Spec PyProof.Rows
def ExI (C x : Addr) (d : Option Addr) (h : Heap) : Prop := ∃ (t0 : Addr), h.get? x = some { cls := .ref C, dict := d, data := .fields #[.ref t0, .none, .none, .none, .bool false, .none] }
def exO (C x : Addr) (d : Option Addr) : HO := .ext (ExI C x d)
theorem exI_of {X : Cx} {pins : List (Addr × Obj)} {σ : St} {H : Hp} {s : Shared} {C x : Addr} {b : Option Addr} (I : Inv X pins σ H s) (h : H x = some (exO C x b)) : ExI C x b s.heap := (I.hok x _ h).1
theorem exI_ok {H : Hp} {h : Heap} {C x : Addr} {b : Option Addr} {P : Program} {w : World} (q : ExI C x b h) : ObjOk P w H h x (exO C x b) :=
  ⟨q, let ⟨_, e⟩ := q; ⟨_, e⟩, fun h1 h2 ⟨t0, e2⟩ k => ⟨t0, k _ e2⟩⟩
theorem cw_mw {M : Model} {B : Around} {Q Ee : Value → Shared → Prop} {s2 : Shared} {q a : Addr} {pos : Pos} {e : Expr} {es : List Expr} {env : Env} (he : starEach (e :: es) env = (false, eval e env) :: starEach es env) (hplain : (backTo pos (starEach es env)).any (·.1) = false)
    (h : wpAny M B (spliced (backTo pos (starEach (e :: es) env))) (fun vs s₁ => s₁.heap.get? q = some (mwObj a) ∧ wpAny M B (call (.ref q) vs) Q Ee s₁) Ee s2) : wpAny M B (callWith pos (.ref q) [] (backTo pos (starEach (e :: es) env)) []) Q Ee s2 := by
  rw [he] at h ⊢
  exact PySem.W.callWith_of (P := fun h => h.get? q = some (mwObj a)) (by show ((false || (backTo pos (starEach es env)).any (·.1)) || false) = false; rw [hplain]; rfl) keeps_mw (Calls.evalArgs_plain h)
def tSupI (C : Addr) (t : TA) : TE := fun σ H Q => ∃ a, σ[0]? = some (some (.ref a)) ∧ H a = some (exO C a none) ∧ t σ H fun vs H1 => vs.length ≤ sizeLine ∧ H1 a = some (exO C a none) ∧ Q .non H1
section
variable {P : Program} {w : World} {K : PySem.W.Frag} {mg : Str → Option Value} {base : Heap} {N : List Str} {qual : Str} {scope : Scope} {f cda cc : Addr} {A : Around} {outer : List Env} {s : Shared} {H : Hp} {E : XK} {C : Addr} {x0 : Str} {fb : List Stmt} {p0 p1 apos pos : Pos} {es : List Expr} {e0 : Expr} {ta : TA}
variable {nm q : Str} {Ns : Addr} {bs bm : List Value} {hdct : Bool} {sn : List Str} {sub : List Value} {ab : Bool} {col : Option Bool} {dd : Option Addr} {k0 k1 k2 k3 k5 : Option Value}
theorem pea_supI (S : SupD P K C f cda cc x0) (hx0 : N[0]? = some x0) (hks : scope.names.lookup ("super" : Str) = some .globalImplicit) (hkc : scope.names.lookup ("__class__" : Str) = some .free) (hka : scope.names.lookup x0 = some .local) (hsm : mg "super" = none)
    (lC : K.lookup C = some (excClassObj nm q C Ns bs bm hdct sn sub ab col dd k0 k1 k2 k3 k5 "ValueError.__new__")) (hm : PySem.W.ks_superIn K C C "__init__" = some (some (.builtin "ValueError.__init__"))) (hve : PySem.W.mroIn K C (.type "ValueError") = some true)
    (ha : PA (cxX (CX1 P w) P w K mg base N qual scope f (.ref cda) [("__class__", cc)] A outer s H E) (e0 :: es) ta)
    (he : starEach (e0 :: es) (PySem.W.envX qual scope s.heap.objs.size f (.ref cda) [("__class__", cc)]) = (false, eval e0 (PySem.W.envX qual scope s.heap.objs.size f (.ref cda) [("__class__", cc)])) :: starEach es (PySem.W.envX qual scope s.heap.objs.size f (.ref cda) [("__class__", cc)]))
    (hplain : (backTo pos (starEach es (PySem.W.envX qual scope s.heap.objs.size f (.ref cda) [("__class__", cc)]))).any (·.1) = false) (hev : EvOk p0 p1 apos pos "__init__" (e0 :: es)) :
    PEA (cxX (CX1 P w) P w K mg base N qual scope f (.ref cda) [("__class__", cc)] A outer s H E) fb (.Call (.Attribute (.Call (.Name "super" p0) [] [] p1) "__init__" apos) (e0 :: es) [] pos) (tSupI C ta) := by
  intro pins s1 σ H1 Q I h
  obtain ⟨a, h0, ea, h⟩ := h
  have KX := I.kIn
  obtain ⟨oc, od, fd, osl, ar, lf, hp, rfl⟩ := S.fn
  obtain ⟨oc', od', vs', osl', file, tf, lc, hv2, hfile⟩ := S.code
  obtain ⟨oc'', od'', osl'', lcell⟩ := S.cell
  obtain ⟨cd, hcd⟩ := S.cls
  obtain ⟨t0, O⟩ := exI_of I ea
  obtain ⟨mL, hn, hl⟩ := I.loc
  obtain ⟨u, ru, lk⟩ := hl 0 ar.arg (.ref a) hx0 h0 (.inl hka)
  obtain rfl : u = Value.ref a := ru
  have hmv : mL ar.arg = some (.ref a) := by
    rcases lk with ⟨_, q⟩ | ⟨q, _⟩
    · exact q
    · have q : scope.names.lookup ar.arg = some .cell ∨ scope.names.lookup ar.arg = some .free := q
      rw [hka] at q
      rcases q with q | q <;> cases q
  obtain ⟨oD, hD1, hD2⟩ : ∃ oD, s1.heap.get? C = some oD ∧ oD.data = .cls cd := by
    unfold PySem.W.clsIn at hcd
    split at hcd
    · rename_i c d cd' sl ho
      cases hcd
      exact ⟨_, KX _ _ ho, rfl⟩
    · cases hcd
  obtain ⟨mb, hb1, hb2⟩ := I.mod.blt
  have ne : a ≠ C := fun z => by
    rw [z, hD1] at O
    cases O
    cases hD2
  obtain ⟨pl, hev⟩ := hev (PySem.W.envX qual scope s.heap.objs.size f (.ref cda) [("__class__", cc)])
  refine ks_wpAt_MethodCall (pl := pl) (ks_wpAt_super_base (env := PySem.W.envX qual scope s.heap.objs.size f (.ref cda) [("__class__", cc)]) hks hkc (by decide) rfl (KX _ _ lf) rfl hp rfl (KX _ _ lc) rfl hv2 hfile S.top ?_) hev
  refine PySem.W.ks_loadName_global I.ok.kind hks (Calls.loadGlobal_builtin (env := PySem.W.envX qual scope s.heap.objs.size f (.ref cda) [("__class__", cc)]) (I.mod.glob.keeps I.bk) hsm (hb1.keeps I.bk) ((hb2 _ (by decide +kernel)).trans rfl) ⟨rfl, ?_⟩)
  refine wpAny_loadName_free I.ok.kind hkc rfl ⟨_, KX _ _ lcell, rfl⟩ ?_
  refine wpAny_loadName_local I.ok.kind hka hn hmv ?_
  refine ks_wpAny_isType_cls (h := s1.heap) (g := s1.gens) (d := s1.drawn) (t := s1.toks) (os := s1.os) hD1 hD2 ⟨rfl, ?_⟩
  refine ks_wpAny_call_super (h := s1.heap) (g := s1.gens) (d := s1.drawn) (t := s1.toks) (os := s1.os) hD1 hD2 O rfl (fun c e => by cases e) (PySem.W.looks_mroIn KX S.sub) fun h' e k' => ?_
  have I1 : Inv _ pins σ H1 ⟨h', s1.gens, s1.drawn, s1.toks, s1.os⟩ := I.kept (t' := s1.toks) k'
  unfold PySem.W.ks_superIn at hm
  rw [hcd] at hm
  refine getMethod_sup_init e (PySem.W.looks_opaque I1.kIn S.opq) (l0 := cd.mro) (fun A Q E s k q => wpAny_bind ((PySem.W.looks_clsIn I1.kIn hcd) A _ E s k (wpAny_pure q))) rfl I1.kIn hm (k' _ _ O) rfl (PySem.W.looks_mroIn I1.kIn hve) ne ?_
  have I2 : Inv _ pins σ H1 ⟨h'.push (mwObj a), s1.gens, s1.drawn, s1.toks + 1, s1.os⟩ := I1.kept (t' := s1.toks + 1) fun b o z => Heap.get?_push_of_some _ z
  have fr : H1 h'.objs.size = none := I1.hok.fresh (Nat.le_refl _)
  have gq : (h'.push (mwObj a)).get? h'.objs.size = some (mwObj a) := Heap.get?_push_at rfl rfl
  have I3 := I2.pinned (fp := [h'.objs.size]) (fun b hb => by rw [List.mem_singleton.mp hb]; exact I1.fpOk (Nat.le_refl _) fr) fun b hb => by rw [List.mem_singleton.mp hb]; exact ⟨_, gq, fun v z => by cases z⟩
  refine cw_mw (a := a) he hplain (thn (ha pos _ _ σ H1 _ I3 h) fun us s2 ⟨vs, H2, I4, r, q1, q2, q3⟩ => ?_)
  have g2 : s2.heap.get? h'.objs.size = some (mwObj a) := (I4.pin (h'.objs.size, mwObj a) (List.mem_append_right _ (List.mem_append_right _ (mem_pinsAt List.mem_cons_self gq)))).1
  refine ⟨g2, ?_⟩
  have I5 := I4.unpinned
  obtain ⟨t1, O1⟩ := exI_of I5 q2
  have KX5 := I5.kIn
  obtain ⟨hp5, g5, d5, t5, os5⟩ := s2
  refine call_mw PySem.F.excBase_ValueError (KX5 _ _ lC) g2 O1 rfl rfl rfl ?_ (by show us.length ≤ _; rw [← r.length]; exact q1)
  have hu : upd H2 a (exO C a none) = H2 := by
    funext b
    by_cases hb : b = a
    · rw [hb, upd_same, q2]
    · rw [upd_ne hb]
  have O2 := Heap.get?_update_self (f := Obj.mapFields (·.setIfInBounds 0 (.ref hp5.objs.size))) (Heap.get?_push_of_some { cls := .type "tuple", data := .seq us.toArray } O1) rfl
  have J := I5.write (x := a) (e := a) (o := exO C a none) (t' := t5) (h' := (hp5.push { cls := .type "tuple", data := .seq us.toArray }).update a (Obj.mapFields (·.setIfInBounds 0 (.ref hp5.objs.size)))) (by rw [q2]; trivial) (.inl rfl)
    (fun b u hb z => by rw [Heap.get?_update_ne _ _ _ _ hb]; exact Heap.get?_push_of_some _ z) ⟨_, O2⟩ (exI_ok ⟨hp5.objs.size, O2⟩)
  rw [hu] at J
  exact ⟨.non, H2, J, rfl, q3⟩
end
end L2
namespace L2
variable [L2.GX]
open PySem PySem.Spec PyProof.Rows
theorem HOk.fldX {P : Program} {w : World} {H : Hp} {h h' : Heap} {a C dx : Addr} {d : Option Addr} {y : V} {u : Value} {f : Str} (k : HOk P w H h) (ea : H a = some (exO C a none)) (n : h.get? dx = none) (kp : ∀ b o, b ≠ a → h.get? b = some o → h'.get? b = some o) (q : ExI C a d h') (ns : h'.Ns1 dx (fun z => if z = f then some u else none)) (r : RelV y u) :
    HOk P w (upd (upd H dx (.xd [(f, y)])) a (exO C a d)) h' ∧ ∀ fs, Un fs [] H (upd (upd H dx (.xd [(f, y)])) a (exO C a d)) h h' := by
  have nd : ∀ b v, H b = some v → b ≠ dx := fun b v z e => by
    obtain ⟨o, e2⟩ := hok_there k z
    rw [e, n] at e2; cases e2
  have oth : ∀ b v, H b = some v → (∀ φ, v ≠ .ext φ) → upd (upd H dx (.xd [(f, y)])) a (exO C a d) b = some v := fun b v z e => by
    rw [upd_ne fun e2 => by rw [e2, ea] at z; cases z; exact e _ rfl, upd_ne (nd b v z)]; exact z
  have xs : ∀ b φ o, H b = some o → o = .tup φ → b ≠ a := fun b φ o z e e2 => by rw [e2, ea, e] at z; cases z
  refine ⟨fun b o z => ?_, fun fs => ⟨fun b o z e _ _ => kp b o (fun e2 => by rw [e2, ea] at e; cases e) z, fun b o z e _ _ => ⟨o.slots, kp b o (fun e2 => by rw [e2, ea] at e; cases e) z⟩, fun b o z e _ => ?_, fun b o z _ => ?_, fun b φ z => oth b _ z (fun _ e => by cases e), fun b o v z => oth b _ z (fun _ e => by cases e), fun b ps z => ⟨#[], by rw [oth b _ z (fun _ e => by cases e)]; simp⟩⟩⟩
  · by_cases e : b = a
    · subst e; rw [upd_same] at z; cases z; exact exI_ok q
    · rw [upd_ne e] at z
      by_cases e2 : b = dx
      · subst e2; rw [upd_same] at z; cases z
        refine ⟨_, ns, fun g => ?_⟩
        by_cases e3 : g = f
        · rw [e3, List.lookup_cons_self, if_pos rfl]; exact r
        · rw [List.lookup_cons, beq_false_of_ne e3, if_neg e3]; exact True.intro
      · rw [upd_ne e2] at z
        refine (k b o z).stay (fun c v hc y => kp c v (fun e3 => ?_) y) (fun c y => oth c _ y fun _ e => by cases e) fun c xs y => oth c _ y fun _ e => by cases e
        rcases hc with hc | hc
        · exact e (hc ▸ e3)
        · rw [e3, ea] at hc; cases hc
  · have u1 : b ≠ a := fun e2 => by rw [e2, ea] at e; cases e
    have u2 : b ≠ dx := fun e2 => by rw [e2, n] at z; cases z
    rw [upd_ne u1, upd_ne u2]; exact e
  · by_cases e : b = a
    · obtain ⟨_, q⟩ := q; rw [e]; exact ⟨_, q⟩
    · exact ⟨_, kp b o e z⟩
def sFldX (C : Addr) (f : Str) (ta tv : TE) : TS := fun D σ H => tv σ H fun y H1 => ta σ H1 fun x H2 => ∃ a, x = .ref a ∧ H2 a = some (exO C a none) ∧ ∀ dx, H2 dx = none → dx ≠ a → D.nx σ (upd (upd H2 dx (.xd [(f, y)])) a (exO C a (some dx)))
section
variable {X : Cx} {o e value : Expr} {f : Str} {pos pos' : Pos} {ta tv : TE} {C : Addr}
variable {nm q : Str} {Ns : Addr} {bs bm : List Value} {sn : List Str} {sub : List Value} {ab : Bool} {col : Option Bool} {dd : Option Addr} {k0 k1 k2 k3 k5 : Option Value} {newId : String}
theorem ps_fldX (ha : PE X o ta) (hv : PE X value tv) (hs : swapsWith value (some (.Attribute o f pos')) pos.line X.env = pure false)
    (lC : X.K.lookup C = some (excClassObj nm q C Ns bs bm true sn sub ab col dd k0 k1 k2 k3 k5 newId)) (how : bm.contains (.type "object") = true) (hps : ∀ x : Addr, refuseLoop (.ref x) "__setattr__" bm = pure ())
    (l1 : PySem.W.findIn X.K (.ref C) "__setattr__" = some (some (.builtin "object.__setattr__"))) (l2 : PySem.W.findIn X.K (.ref C) f = some none) : PS X (.Assign [.Attribute o f pos'] value pos) (sFldX C f ta tv) := by
  intro pins s σ H D I h
  refine plainObj_wpAny_Assign_Attribute (thn (hv pins s σ H _ I h) fun u s1 ⟨y, H1, I1, ry, q⟩ => thn (ha pins s1 σ H1 _ I1 q) fun ov s2 ⟨x, H2, I2, rx, a, ex, ea, q2⟩ => ?_) hs
  subst ex
  obtain rfl : ov = Value.ref a := rx
  obtain ⟨t0, O⟩ := exI_of I2 ea
  have KX := I2.kIn
  obtain ⟨hp, g, d, t, os⟩ := s2
  refine store_attrT PySem.F.store_ValueError how (hps a) (KX _ _ lC) (PySem.W.looks_findIn KX l1) (PySem.W.looks_findIn KX l2) O rfl (fun c z => by cases z) rfl fun h' tk' dx z1 z2 z3 z4 => ?_
  have n1 : H2 dx = none := by
    cases z : H2 dx with
    | none => rfl
    | some o => obtain ⟨u, q⟩ := hok_there I2.hok z; rw [z1] at q; cases q
  have na : dx ≠ a := fun z => by rw [z, O] at z1; cases z1
  obtain ⟨k1, k2⟩ := HOk.fldX (d := some dx) I2.hok ea z1 z2 ⟨t0, z3⟩ z4 ry
  exact ⟨σ, _, I2.un (h' := h') (t' := tk') (k2 _) k1, q2 dx n1 na⟩
end
end L2
namespace L2
variable [L2.GX]
open PySem PySem.Spec PyProof.Rows
section
variable {prog : Program} {w : World} {M : Model} {A : Around} {E : Value → Shared → Prop} {s : Shared} {env : Env}
variable {nm q : Str} {C N : Addr} {bs bm bmB : List Value} {hdct : Bool} {sn : List Str} {sub : List Value} {ab : Bool} {col : Option Bool} {dd : Option Addr} {k0 k1 k2 k3 k5 : Option Value} {B newId initId : String}
theorem raiseStmt_X {x : Sem Value} {Q : Flow → Shared → Prop} (hbase : bm.contains (.type "BaseException") = true) (hh : A.handled = none)
    (h : wpAny M A x (fun v s₁ => ∃ e t dx, v = .ref e ∧ s₁.heap.get? C = some (excClassObj nm q C N bs bm hdct sn sub ab col dd k0 k1 k2 k3 k5 newId) ∧
      s₁.heap.get? e = some { cls := .ref C, dict := dx, data := .fields #[.ref t, .none, .none, .none, .bool false, .none] } ∧ E (.ref e) s₁) E s) :
    wpAny M A (raiseStmt env (some x) none) Q E s := by
  have hcB : (Value.ref C :: bm).contains (.type "BaseException") = true := by rw [List.contains_cons, hbase, Bool.or_true]
  unfold raiseStmt
  refine wpAny_bind (wpAny_mono h (fun v s₁ h₁ => ?_) fun _ _ x => x)
  obtain ⟨e, t, dx, rfl, hC, he, hE⟩ := h₁
  obtain ⟨hp, g, d, tk, os⟩ := s₁
  repeat (first | with_reducible refine wpAny_loadPart_at he ?_ | with_reducible refine wpAny_loadPart_at hC ?_ | (with_reducible refine wpAny_isSubtype_exc hC ?_; rw [hcB]) | wp_step)
  exact wpAny_raiseNew_none hh hE
theorem raise_initT (F : ExcBaseFacts B newId initId bmB) {x : Str} {np cpos pos : Pos} {args : List Expr} {fI : Addr} {Q : Flow → Shared → Prop}
    (hbase : bm.contains (.type "BaseException") = true) (hh : A.handled = none) (hplain : (backTo cpos (starEach args env)).any (·.1) = false)
    (h : wpAny (model prog w) A (eval (.Name x np) env) (fun f s₁ => f = .ref C ∧ wpAny (model prog w) A (evalArgs (.ref C) true (backTo cpos (starEach args env)) [])
      (fun a s₂ => a.kw = [] ∧ a.pos.length ≤ sizeLine ∧ s₂.heap.get? C = some (excClassObj nm q C N bs bm hdct sn sub ab col dd k0 k1 k2 k3 k5 newId) ∧ (∃ mN, s₂.heap.Ns N mN ∧ mN "__init__" = some (.ref fI)) ∧ (∃ oI, s₂.heap.get? fI = some oI ∧ oI.cls = .type "function") ∧ OwnTail s₂.heap bmB bm ∧
        ∀ h' e, Heap.MadeExcOf s₂.heap h' e (.ref C) a.pos → wpAny (model prog w) (A.under (.builtin "type.__call__" ⟨.ref C :: a.pos, []⟩)) (call (.ref fI) (.ref e :: a.pos)) (fun r s' => r = .none ∧ s'.heap.get? C = some (excClassObj nm q C N bs bm hdct sn sub ab col dd k0 k1 k2 k3 k5 newId) ∧
          (∃ t dx, s'.heap.get? e = some { cls := .ref C, dict := dx, data := .fields #[.ref t, .none, .none, .none, .bool false, .none] }) ∧ E (.ref e) s') E { s₂ with heap := h' }) E s₁) E s) :
    wpAny (model prog w) A (exec (.Raise (some (.Call (.Name x np) args [] cpos)) none pos) env) Q E s := by
  rw [arm_exec_Raise]
  refine wpAny_bind (wpAny_standAt (raiseStmt_X (C := C) (nm := nm) (q := q) (N := N) (bs := bs) (bm := bm) (hdct := hdct) (sn := sn) (sub := sub) (ab := ab) (col := col) (dd := dd) (k0 := k0) (k1 := k1) (k2 := k2) (k3 := k3) (k5 := k5) (newId := newId) hbase hh (wpAny_bind (wpAny_mono (wpAny_Call_ofName (wpAny_mono h (fun f s₁ h₁ => ?_) fun _ _ x => x)) (fun v s₃ h₃ => wpAny_bind (wpAny_standAt (wpAny_pure h₃))) fun _ _ x => x))))
  obtain ⟨rfl, h₁⟩ := h₁
  unfold callWith
  refine wpAny_bind (wpAny_holding (wpAny_mono h₁ (fun a s₂ h₂ => wpAny_bind (wpAny_standAt ?_)) fun _ _ x => x))
  obtain ⟨apos, akw⟩ := a
  obtain ⟨hkw, hlen, hC, ⟨mN, hn, hi⟩, ⟨oI, hfI, hfc⟩, T, h₂⟩ := h₂
  obtain rfl : akw = [] := hkw
  obtain ⟨hp, g, d, tk, os⟩ := s₂
  simp only [hplain]
  refine wpAny_bind (wpAny_keeperOf_exc hC ?_)
  refine wpAny_bind (call_exc_initT (hrest := hlen) F T hC hn hi hfI hfc fun h' e hm => wpAny_mono (h₂ h' e hm) (fun r s' hr => ⟨hr.1, ?_⟩) fun _ _ z => z)
  obtain ⟨_, c1, ⟨t, dx, c2⟩, c3⟩ := hr
  exact wpAny_bind (wpAny_holding (wpAny_point (wpAny_pure ⟨e, t, dx, rfl, c1, c2, c3⟩)))
end
end L2
namespace L2
variable [L2.GX]
open PySem PySem.Spec PyProof.Rows
def dropH (H : Hp) (x : Addr) : Hp := fun b => if b = x then none else H b
theorem dropH_same {H : Hp} {x : Addr} : dropH H x x = none := if_pos rfl
theorem dropH_ne {H : Hp} {x b : Addr} (h : b ≠ x) : dropH H x b = H b := if_neg h
section
variable {P : Program} {w : World} {H H3 H4 : Hp} {h h' h4 : Heap} {x C : Addr} {c : Option Addr}
theorem HOk.dropX (k : HOk P w H h) (e : H x = some (exO C x c)) : HOk P w (dropH H x) h := fun a o z => by
  have ne : a ≠ x := fun q => by rw [q, dropH_same] at z; cases z
  rw [dropH_ne ne] at z
  have oth : ∀ b u, H b = some u → (∀ φ, u ≠ .ext φ) → dropH H x b = some u := fun b u q n => by
    rw [dropH_ne fun y => by rw [y, e] at q; cases q; exact n _ rfl]; exact q
  exact (k a o z).stay (fun _ _ _ q => q) (fun b q => oth b _ q fun φ y => by cases y) fun b xs q => oth b _ q fun φ y => by cases y
theorem HOk.none_at (k : HOk P w H h) (e : h.get? x = none) : H x = none := by
  cases z : H x with
  | none => rfl
  | some o => obtain ⟨u, q⟩ := hok_there k z; rw [e] at q; cases q
theorem HOk.madeX (k : HOk P w H h) (e : h.get? x = none) (kp : ∀ b o, h.get? b = some o → h'.get? b = some o) (n : ExI C x c h') : HOk P w (upd H x (exO C x c)) h' := fun a o z => by
  by_cases q : a = x
  · subst q; rw [upd_same] at z; cases z; exact exI_ok n
  · rw [upd_ne q] at z
    have oth : ∀ b u, H b = some u → upd H x (exO C x c) b = some u := fun b u y => by rw [upd_ne fun y' => by rw [y', k.none_at e] at y; cases y]; exact y
    exact (k a o z).stay (fun _ _ _ y => kp _ _ y) (fun b y => oth b _ y) fun b xs y => oth b _ y
theorem Un.madeX {fs : List Addr} (k : HOk P w H h) (e : h.get? x = none) (kp : ∀ b o, h.get? b = some o → h'.get? b = some o) : Un fs [] H (upd H x (exO C x c)) h h' := by
  have oth : ∀ b u, H b = some u → upd H x (exO C x c) b = some u := fun b u y => by rw [upd_ne fun y' => by rw [y', k.none_at e] at y; cases y]; exact y
  refine ⟨fun b o z _ _ _ => kp b o z, fun b o z _ _ _ => ⟨o.slots, kp b o z⟩, fun b o z n _ => ?_, fun b o z _ => ⟨o, kp b o z⟩, fun b xs z => oth b _ z, fun b o u z => oth b _ z, fun b ps z => ⟨#[], by rw [oth b _ z]; simp⟩⟩
  rw [upd_ne fun y => by rw [y, e] at z; cases z]; exact n
theorem Un.dropX {fs : List Addr} (u : Un fs [] H H4 h h4) (e : h.get? x = none) (hx : H x = none) : Un fs [] H (dropH H4 x) h h4 := by
  have oth : ∀ b v, H b = some v → b ≠ x := fun b v y z => by rw [z, hx] at y; cases y
  refine ⟨u.keep, u.slot, fun b o z n hh => ?_, u.there, fun b xs z => ?_, fun b o v z => ?_, fun b ps z => ?_⟩
  · rw [dropH_ne fun y => by rw [y, e] at z; cases z]; exact u.free b o z n hh
  · rw [dropH_ne (oth b _ z)]; exact u.tups b xs z
  · rw [dropH_ne (oth b _ z)]; exact u.frzs b o v z
  · rw [dropH_ne (oth b _ z)]; exact u.tbls b ps z
end
def tRaiseI (C : Addr) (sp : Sp) (dvs : List V) (E : XK) (ta : TA) : TS := fun _ σ H => ta σ H fun vs H1 => vs.length ≤ sizeLine ∧ ∀ x : Addr, H1 x = none →
  sp (.ref x :: vs ++ dvs) (upd H1 x (exO C x none)) (fun v H2 => v = .non ∧ ∃ d, H2 x = some (exO C x d) ∧ GX.g C d (dropH H2 x) ∧ E (.ref C) (some x) (dropH H2 x)) fun _ _ _ => False
section
variable {P : Program} {w : World} {K : PySem.W.Frag} {mg : Str → Option Value} {base : Heap} {N : List Str} {qual : Str} {scope : Scope} {f : Addr} {cd : Value} {A : Around} {outer : List Env} {s : Shared} {H : Hp} {E : XK}
variable {nm q : Str} {Ns : Addr} {bs bm bmB : List Value} {hdct : Bool} {sn : List Str} {sub : List Value} {ab : Bool} {col : Option Bool} {dd : Option Addr} {k0 k1 k2 k3 k5 : Option Value} {B newId initId : String}
theorem ps_raiseI {x : Str} {np cpos pos : Pos} {args : List Expr} {ta : TA} {C fI : Addr} {k : Nat} {fd : FuncData} {ps : List Str} {sp : Sp} {oI : Obj} {dvs : List V} {ds : List Value} (hg : Gl (cxOf (CX1 P w) P w K mg base N qual scope f cd A outer s H E) x) (hm : mg x = some (.ref C))
    (lC : K.lookup C = some (excClassObj nm q C Ns bs bm hdct sn sub ab col dd k0 k1 k2 k3 k5 newId)) (hNs : ∀ h : Heap, K.In h → ∃ mN, h.Ns Ns mN ∧ mN "__init__" = some (.ref fI)) (hT : ∀ h : Heap, K.In h → OwnTail h bmB bm) (lI : K.lookup fI = some oI) (hIc : oI.cls = .type "function")
    (FB : ExcBaseFacts B newId initId bmB) (hbase : bm.contains (.type "BaseException") = true) (FI : FnOk P w K mg base (CX1 P w) k fI fd ps sp) (hb : Binds K fd ps ds) (hds : Vals dvs ds) (hr : Room (k + 1) (cxOf (CX1 P w) P w K mg base N qual scope f cd A outer s H E).A)
    (ha : PA (cxOf (CX1 P w) P w K mg base N qual scope f cd A outer s H E) args ta) (hdb : (x == ("__debug__" : Str)) = false)
    (hpl : (backTo cpos (starEach args (cxOf (CX1 P w) P w K mg base N qual scope f cd A outer s H E).env)).any (·.1) = false)
    (hev : ∀ (Q : Args → Shared → Prop) (E' : Value → Shared → Prop) (s9 : Shared), wpAny (model P w) (cxOf (CX1 P w) P w K mg base N qual scope f cd A outer s H E).A (spliced (backTo cpos (starEach args (cxOf (CX1 P w) P w K mg base N qual scope f cd A outer s H E).env))) (fun vs s' => Q ⟨vs, []⟩ s') E' s9 → wpAny (model P w) (cxOf (CX1 P w) P w K mg base N qual scope f cd A outer s H E).A (evalArgs (.ref C) true (backTo cpos (starEach args (cxOf (CX1 P w) P w K mg base N qual scope f cd A outer s H E).env)) []) Q E' s9) :
    PS (cxOf (CX1 P w) P w K mg base N qual scope f cd A outer s H E) (.Raise (some (.Call (.Name x np) args [] cpos)) none pos) (tRaiseI C sp dvs E ta) := by
  intro pins s1 σ H1 D I h
  have hA := ha cpos pins s1 σ H1 _ I h
  refine raise_initT (prog := P) (w := w) (C := C) (nm := nm) (q := q) (N := Ns) (bs := bs) (bm := bm) (hdct := hdct) (sn := sn) (sub := sub) (ab := ab) (col := col) (dd := dd) (k0 := k0) (k1 := k1) (k2 := k2) (k3 := k3) (k5 := k5) (fI := fI)
    FB hbase (I.ok.hd rfl) hpl (ld_glob I hg hm ⟨rfl, ?_⟩ hdb)
  refine hev _ _ _ (wpAny_mono hA (fun us s2 q2 => ?_) fun _ _ z => z)
  obtain ⟨vs, H2, I2, r2, hl, hsp⟩ := q2
  have KX := I2.kIn
  refine ⟨rfl, by show us.length ≤ sizeLine; rw [← r2.length]; exact hl, KX _ _ lC, hNs _ KX, ⟨oI, KX _ _ lI, hIc⟩, hT _ KX, fun h' e made => ?_⟩
  obtain ⟨t, hte, _, _⟩ := made.there
  have n2 : H2 e = none := I2.hok.none_at made.new
  have I3 : Inv (cxOf (CX1 P w) P w K mg base N qual scope f cd A outer s H E) pins σ (upd H2 e (exO C e none)) { s2 with heap := h', toks := s2.toks } := I2.un (Un.madeX I2.hok made.new made.keeps) (I2.hok.madeX made.new made.keeps ⟨t, hte⟩)
  have r3 : Vals (.ref e :: vs ++ dvs) (.ref e :: us ++ ds) := .cons rfl (Vals.append r2 hds)
  have hl3 : (Value.ref e :: us ++ ds).length = ps.length := by rw [← r3.length]; exact FI.len _ _ _ _ (hsp e n2)
  refine wpAny_call (codeAny_mono (FI.run _ _ { s2 with heap := h' } _ ⟨.ref e :: us, []⟩ (.ref e :: us ++ ds) (.ref e :: vs ++ dvs) _ _ (hr.make C us []) (I3.env0.make C us []) (hb { s2 with heap := h' } (.ref e :: us) I3.kIn hl3) r3 (hsp e n2)) fun r s' hq => ?_)
  cases r with
  | error e' => obtain ⟨_, _, _, _, _, z⟩ := hq; exact z.elim
  | ok fl =>
    cases fl with
    | next => exact False.elim hq
    | brk => exact False.elim hq
    | cont => exact False.elim hq
    | ret u =>
      obtain ⟨v, H4, os4, bare4, un4, hok4, rv, rfl, c, e4, gd, hE⟩ := id hq
      have hst : (cxOf (CX1 P w) P w K mg base N qual scope f cd A outer s H E).stack = (cxOf (CX1 P w) P w K mg base N qual scope f cd A outer s H E).env :: (cxOf (CX1 P w) P w K mg base N qual scope f cd A outer s H E).outer := rfl
      have I4 : Inv (cxOf (CX1 P w) P w K mg base N qual scope f cd A outer s H E) pins σ H4 s' := by
        obtain ⟨hh, g, d, tt, os'⟩ := s'
        obtain rfl : os' = s2.os := os4
        exact Inv.call (s := { s2 with heap := h' }) (h' := hh) (g' := g) (d' := d) (t' := tt) (ch := []) I3 un4 hok4 bare4 (fun b z => absurd z (by simp))
      obtain ⟨t4, O4⟩ := exI_of I4 e4
      refine ⟨rv, I4.kIn _ _ lC, ⟨t4, c, O4⟩, ?_⟩
      have fu := I4.env0.funs
      have hen : (PySem.W.hideAll s'.heap (e :: frs (cxOf (CX1 P w) P w K mg base N qual scope f cd A outer s H E).stack)).get? e = none := PySem.W.hideAll_none _ List.mem_cons_self
      refine wpAny_mono (leave_first_d (base := PySem.W.hideAll s'.heap (e :: frs (cxOf (CX1 P w) P w K mg base N qual scope f cd A outer s H E).stack)) (a0 := .ref t4) I4.ok.frames
        (PySem.W.funFrames_hide fu fun env he b hb => List.mem_cons_of_mem _ (List.mem_filterMap.mpr ⟨env, he, hb⟩)) (stack_frame I4 hst) O4 (fun b o z => PySem.W.of_hideAll _ z) hen rfl rfl rfl
        (Q := fun _ s'' => CX1 P w outer H s E (.ref e) s'') fun h'' fl up dk => ?_) (fun _ _ z => z) fun _ _ z => z
      refine ⟨C, e, dropH H4 e, rfl, ?_, hE⟩
      refine fly_mk (s2 := s') I2 hst rfl os4 bare4 (Un.dropX ((Un.madeX I2.hok made.new made.keeps).trans un4) made.new n2) (hok4.dropX e4) (fun b o z hc nf => PySem.W.hideAll_get _ z fun hb => ?_) (fun b hb => ?_) up fl ⟨_, dk, gd⟩
      · rcases List.mem_cons.mp hb with rfl | hb
        · rcases hc with hc | ⟨o0, hc⟩
          · exact hc dropH_same
          · rw [made.new] at hc; cases hc
        · exact nf hb
      · have z := I4.frn b hb
        refine ⟨?_, (fu.mem hb).2⟩
        by_cases q : b = e
        · rw [q, dropH_same]
        · rw [dropH_ne q]; exact z.1
end
end L2
namespace WL
variable [L2.GX]
open PySem L2
open Rep (rp)
open Ow (sl)
open Sls (rel)
structure FnScS (N P : List Str) (sc : Scope) : Prop where
  kind : sc.kind = .function
  co : sc.isCoroutine = false
  gen : sc.isGenerator = false
  nd : N.Nodup
  pre : N.take P.length = P
  par : ∀ x ∈ P, sc.names.lookup x = some .local
  nocell : ∀ y ∈ sc.names, y.2 ≠ .cell
  fr : ∀ y ∈ sc.names, y.2 = .free → y.1 = "__class__"
  ks : sc.names.lookup ("super" : Str) = some .globalImplicit
  kc : sc.names.lookup ("__class__" : Str) = some .free
theorem FnScS.x {N P : List Str} {sc : Scope} (S : FnScS N P sc) (cc : Addr) : FnScX N P sc [("__class__", cc)] :=
  ⟨S.kind, S.co, S.gen, S.nd, S.pre, S.par, S.nocell, fun x h => ⟨cc, by have e : x = "__class__" := S.fr _ (PySem.mem_of_lookup h) rfl; rw [e]; rfl⟩, fun x y c h1 h2 => by
    have q : ∀ {z : Str}, ([(("__class__" : Str), cc)] : List (Str × Addr)).lookup z = some c → z = "__class__" := fun {z} h => by
      by_cases e : (z == ("__class__" : Str)) = true
      · exact eq_of_beq e
      · rw [List.lookup_cons, Bool.eq_false_iff.mpr e] at h
        cases h
    rw [q h1, q h2]⟩
structure Sm (K : PySem.W.Frag) (C : Addr) (m : Str) (f2 : Addr) : Prop where
  find : PySem.W.ks_superIn K C C m = some (some (.ref f2))
  ty : PySem.W.typeIn K (.ref f2) = some (.type "function")
  fn : PySem.W.fnIn K f2 = true
structure Fs (P : Program) (w : World) (K : PySem.W.Frag) (mg : Str → Option Value) (base : Heap) (C : Addr) (m : Str) (ps : List Str) (sp : Sp) (k : Nat) : Prop where
  ex : ∃ f2 fd2, Sm K C m f2 ∧ FnOk P w K mg base (CX1 P w) k f2 fd2 ps sp ∧ Binds K fd2 ps [] ∧ mg "super" = none
end WL
namespace L2
variable [L2.GX]
open PySem PySem.Spec PyProof.Rows
def spEJ (C : Addr) (fl : Str) : Sp := fun vs H Q _ => ∃ x v, vs = [.ref x, v] ∧ H x = some (exO C x none) ∧ ∀ dx, H dx = none → dx ≠ x → Q .non (upd (upd H dx (.xd [(fl, v)])) x (exO C x (some dx)))
section
variable {P : Program} {w : World} {K : PySem.W.Frag} {mg : Str → Option Value} {base : Heap} {qual name : Str} {scope : Scope} {f cda cc : Addr} {C : Addr} {k : Nat} {p0 p1 p2 p3 p4 p5 p7 p9 apos pos : Pos} {r fl tx : Str} {j : Nat}
variable {nm q : Str} {Ns : Addr} {bs bm : List Value} {sn : List Str} {sub : List Value} {ab : Bool} {col : Option Bool} {dd : Option Addr} {k0 k1 k2 k3 k5 : Option Value} {params : Arguments} {dV kV doc pm ct oc : Value} {an od : Option Addr} {osl : Array (Option Value)} {body : List Stmt}
theorem fn_excJ (lk : K.lookup f = some ⟨oc, od, .func (PySem.W.fnX name qual params body scope [("__class__", cc)] dV kV doc pm an (.ref cda) ct), osl⟩) (hcd : PySem.W.codeIn K (.ref cda) qual = true)
    (hbd : body = [.Expr (.Call (.Attribute (.Call (.Name "super" p0) [] [] p1) "__init__" apos) [.Constant (.str tx) j p3] [] pos) p2, .Assign [.Attribute (.Name "self" p4) fl p5] (.Name r p7) p9])
    (S : WL.FnScS ["self", r] ["self", r] scope) (D : SupD P K C f cda cc "self") (hev : EvOk p0 p1 apos pos "__init__" [.Constant (.str tx) j p3]) (hsm : mg "super" = none)
    (lC : K.lookup C = some (excClassObj nm q C Ns bs bm true sn sub ab col dd k0 k1 k2 k3 k5 "ValueError.__new__")) (hm : PySem.W.ks_superIn K C C "__init__" = some (some (.builtin "ValueError.__init__"))) (hve : PySem.W.mroIn K C (.type "ValueError") = some true)
    (how : bm.contains (.type "object") = true) (hps : ∀ x : Addr, refuseLoop (.ref x) "__setattr__" bm = pure ()) (l1 : PySem.W.findIn K (.ref C) "__setattr__" = some (some (.builtin "object.__setattr__"))) (l2 : PySem.W.findIn K (.ref C) fl = some none)
    (hr1 : (r == ("__debug__" : Str)) = false) (hr2 : (r == ("__classdict__" : Str)) = false) :
    FnOk P w K mg base (CX1 P w) (k + 1) f (PySem.W.fnX name qual params body scope [("__class__", cc)] dV kV doc pm an (.ref cda) ct) ["self", r] (spEJ C fl) := by
  obtain ⟨o1, o2, o3, hcell⟩ := D.cell
  refine fn_ofA lk hcd (S.x cc) (fun y c h => ?_) (fun vs H Q E h => ?_) fun A outer s H vs Q E hr hsp => ?_
  · have e : c = cc := by
      by_cases e : (y == ("__class__" : Str)) = true
      · rw [List.lookup_cons, e] at h; cases h; rfl
      · rw [List.lookup_cons, Bool.eq_false_iff.mpr e] at h; cases h
    subst e
    exact ⟨_, _, hcell, rfl⟩
  · obtain ⟨x, v, rfl, _⟩ := h; rfl
  · obtain ⟨x, v, rfl, hx, hq⟩ := hsp
    rw [hbd]
    refine ⟨_, pssa_cons (psa_expr (pea_supI D rfl S.ks S.kc (S.par _ List.mem_cons_self) hsm lC hm hve (pa_cons pe_str pa_nil) rfl rfl hev)) (pssa_cons (psa_of (ps_fldX (pe_var (i := 0) rfl (.inl (S.par _ List.mem_cons_self)))
      (pe_var (i := 1) rfl (.inl (S.par _ (List.mem_cons_of_mem _ List.mem_cons_self))) hr1 hr2) rfl lC how hps l1 l2)) (pssa_of pss_nil)), ?_⟩
    have st : start ["self", r] [V.ref x, v] = [some (.ref x), some v] := rfl
    rw [st]
    refine ⟨x, rfl, hx, ?_, hx, ?_⟩
    · show (1 : Nat) ≤ sizeLine
      rw [sizeLine_eq]; omega
    · exact ⟨v, rfl, .ref x, rfl, x, rfl, hx, fun dx n1 n2 => hq dx n1 n2⟩
end
section
variable {X : Cx} {pins : List (Addr × Obj)} {σ : St} {H : Hp} {s : Shared}
theorem goes_ok {M : Model} {A : Around} {E : Value → Shared → Prop} {i : Nat} {x : Str} {pos : Pos} {Q : Unit → Shared → Prop} (I : Inv X pins σ H s) (hN : X.N.Nodup) (hi : X.N[i]? = some x) (hk : X.env.scope.names.lookup x = some .local)
    (h : ∀ s', Inv X pins (σ.set i none) H s' → Q () s') : wpAny M A (do bindName X.env x .none; unbindBehindTheSuite X.env x pos) Q E s := by
  obtain ⟨m, hn, hl⟩ := id I.loc
  have hcls : (X.env.scope.kind == .class || (X.env.scope.kind == .module && X.env.locals != X.env.globals)) = false := by rw [I.ok.kind]; rfl
  refine wpAny_nameGoes_keeps hk hn hcls fun h' v hn' hs => ?_
  obtain ⟨oL, _, _, hoL, _⟩ := id hn
  have ab : ∀ b o, X.s₀.heap.get? b = some o → b ≠ X.env.locals := fun b o e => Nat.ne_of_lt (Nat.lt_of_lt_of_le (Heap.lt_size e) I.ok.above)
  refine h _ ⟨I.ok, I.os, I.bare, ⟨fun b o e n hb hx => (hs.2 b (ab b o e)).trans (I.base.keep b o e n hb hx), fun b o e n hb hx => ?_, I.base.free, fun b o e hx => ?_, I.base.tups, I.base.frzs, I.base.tbls⟩, ⟨_, hn', fun j y v' e1 e2 e3 => ?_⟩, fun y c e => ?_, I.free, I.freeC, fun p hp => ?_, fun b ob e => ?_, by simpa using I.len⟩
  · obtain ⟨sl, e1⟩ := I.base.slot b o e n hb hx
    exact ⟨sl, (hs.2 b (ab b o e)).trans e1⟩
  · obtain ⟨o', e1⟩ := I.base.there b o e hx
    exact ⟨o', (hs.2 b (ab b o e)).trans e1⟩
  · by_cases hj : j = i
    · subst hj
      have : j < σ.length := by rw [I.len]; exact (List.getElem?_eq_some_iff.mp hi).1
      rw [List.getElem?_set_self this] at e2
      cases e2
    · rw [List.getElem?_set_ne (Ne.symm hj)] at e2
      obtain ⟨u', r', q⟩ := hl j y v' e1 e2 e3
      refine ⟨u', r', ?_⟩
      rcases q with ⟨k, e⟩ | ⟨k, c, e, z⟩
      · refine .inl ⟨k, ?_⟩
        have : y ≠ x := fun e => hj (nodup_ix hN e1 (e ▸ hi))
        simp [this, e]
      · exact .inr ⟨k, c, e, z.sameBut hs (I.cne y c e)⟩
  · obtain ⟨w', z⟩ := I.cell y c e
    exact ⟨w', z.sameBut hs (I.cne y c e)⟩
  · obtain ⟨e, n, ne, nf, d⟩ := I.pin p hp
    exact ⟨(hs.2 p.1 ne).trans e, n, ne, nf, d⟩
  · refine (I.hok b ob e).stay (fun c w' hc q => (hs.2 c ?_).trans q) (fun _ q => q) fun _ _ q => q
    rintro rfl
    rcases hc with hc | hc
    · rw [← hc, I.free] at e; cases e
    · rw [I.free] at hc; cases hc
end
end L2
namespace L2
open PySem PySem.Spec PyProof.Rows Builtin Builtin.ObjectAttr
section
variable {prog : Program} {w : World} {A : Around} {E : Value → Shared → Prop} {h : Heap} {g : Array GenState} {d : Drawn} {t : Nat} {os : OsState} {x C N : Addr} {o : Obj} {v : Value} {name : Str} {K : PySem.W.Frag} {od : Option Obj} {expr : Bool}
variable {nm q : Str} {bs bm bmB : List Value} {hdct : Bool} {sn : List Str} {sub : List Value} {ab : Bool} {col : Option Bool} {dd : Option Addr} {k0 k1 k2 k3 k5 : Option Value} {newId : String}
theorem ga_kind : builtinKind "BaseException.__getattribute__" = some .slot := by first | rfl | decide +kernel | (rw [builtinKind_eq_fast]; kernel_rfl)
theorem ga_split : splitId "BaseException.__getattribute__" = some ("BaseException", "__getattribute__") := by first | rfl | decide +kernel
theorem check_gaT {M : Model} {nameV : Value} {Q : Unit → Shared → Prop} (how : bm.contains (.type "BaseException") = true)
    (hC : h.get? C = some (excClassObj nm q C N bs bm hdct sn sub ab col dd k0 k1 k2 k3 k5 newId)) (hx : h.get? x = some o) (hc : o.cls = .ref C) (hq : Q () ⟨h, g, d, t, os⟩) :
    wpAny M A (checkBuiltinCall "BaseException.__getattribute__" ⟨[.ref x, nameV], []⟩) Q E ⟨h, g, d, t, os⟩ := by
  have hcB : (Value.ref C :: bm).contains (.type "BaseException") = true := by rw [List.contains_cons, how, Bool.or_true]
  have ha := PySem.F.args_bexc_ga (.ref x) nameV
  simp only [checkBuiltinCall, ga_kind, ga_split]
  refine wpAny_bind ?_
  unfold isInstance
  repeat (first | (with_reducible refine wpAny_loadPart_at hx ?_; rw [hc]) | (with_reducible refine wpAny_isSubtype_exc hC ?_; rw [hcB]) | wp_step)
  exact hq
theorem exc_ga {tk : Tok} {Q : Fin → Shared → Prop} (X : K.In h) (I : PySem.W.InstAt h x o C od) (hf : PySem.W.findObj K C od name = some (.value v)) (hq : Q (.done (.ret v)) ⟨h, g, d, t, os⟩) :
    wpAny (model prog w) A (Builtin.«object.__getattribute__» ⟨[.ref x, .str name tk], []⟩) Q E ⟨h, g, d, t, os⟩ := by
  have L0 := I.type (M := model prog w)
  have L1 := PySem.W.looks_find (M := model prog w) X I hf
  unfold Builtin.«object.__getattribute__»
  repeat (first | (with_reducible refine PySem.W.Looks.at L0 ?_) | (with_reducible refine PySem.W.Looks.at L1 ?_) | wp_step)
  exact hq
theorem exc_attr {Q : Value → Shared → Prop} (X : K.In h) (hC : h.get? C = some (excClassObj nm q C N bs bm hdct sn sub ab col dd k0 k1 k2 k3 k5 newId)) (how : bm.contains (.type "BaseException") = true) (I : PySem.W.InstAt h x o C od)
    (hga : PySem.W.findIn K (.ref C) "__getattribute__" = some (some (.builtin "BaseException.__getattribute__"))) (hgn : PySem.W.findIn K (.ref C) "__getattr__" = some none) (hf : PySem.W.findObj K C od name = some (.value v)) (hh : PySem.W.handedIn v = true)
    (hq : Q v ⟨h, g, d, t + 1, os⟩) : wpAny (model prog w) A (getAttr (.ref x) name expr) Q E ⟨h, g, d, t, os⟩ := by
  have L0 := I.type (M := model prog w)
  have L1 := PySem.W.looks_findIn (M := model prog w) X hga
  have L2 := PySem.W.looks_findIn (M := model prog w) X hgn
  have f3 := PySem.F.excAttr_ValueError.ga.bind (.ref x)
  have hx0 : (expr && onTheHeap (Value.builtin "BaseException.__getattribute__")) = false := by cases expr <;> rfl
  unfold getAttr getAttrBy
  refine wpAny_bind (wpAny_mkText (wpAny_holding (wpAny_bind (L0.at (wpAny_bind (L1.at ?_))))))
  show wpAny _ _ (getAttrByItsOwn _ _ _ _ _ _) _ _ _
  unfold getAttrByItsOwn hookBefore callGetattribute boundAndCalled
  repeat (any_goals (first | assumption | (with_reducible refine PySem.W.Looks.at L2 ?_) | wp_step))
  refine codeAny_call_builtin PySem.F.excAttr_ValueError.ga.plain PySem.F.entry_bexc_ga (check_gaT how hC I.at_ I.cls (exc_ga X I hf ?_))
  repeat (any_goals (first | assumption | wp_step))
  show wpAny _ _ (handedOut v) _ _ _
  rw [PySem.W.handedOut_of hh]
  exact wpAny_pure hq
end
end L2
namespace L2
variable [L2.GX]
open PySem PySem.Spec PyProof.Rows
abbrev handP (X : Cx) (x : Addr) (ob : Obj) : Cx := { X with A := X.A.mark (some (.ref x)), calm := false, pn := X.pn ++ [(x, ob)], xe := fun _ _ => False }
section
variable {X : Cx} {pins pins' pn' : List (Addr × Obj)} {σ : St} {H : Hp} {s : Shared} {E1 : XK} {x : Addr} {ob : Obj}
theorem Inv.toHandP (I : Inv X pins σ H s) (e : s.heap.get? x = some ob) (n : H x = none) (nl : x ≠ X.env.locals) (nf : x ∉ X.fs) (nc : ∀ v, ob.data ≠ .cell v) : Inv (handP X x ob) pins σ H s :=
  ⟨⟨I.ok.mod, I.ok.kind, I.ok.glob, I.ok.blt, I.ok.above, I.ok.inj, I.ok.has, I.ok.cab, (fun z => by cases z), I.ok.frames, I.ok.stk, I.ok.exf, I.ok.bs, I.ok.bsz, I.ok.noex, I.ok.exfs, I.ok.funs, I.ok.frf⟩, I.os, I.bare, I.base, I.loc, I.cell, I.free, I.freeC, fun p hp => by
    rcases List.mem_append.mp hp with z | z
    · rcases List.mem_append.mp z with z | z
      · exact I.pin p (List.mem_append_left _ z)
      · rw [List.mem_singleton.mp z]; exact ⟨e, n, nl, nf, nc⟩
    · exact I.pin p (List.mem_append_right _ z), I.hok, I.len⟩
theorem Inv.ofHandP (hd : X.calm = true → X.A.handled = none) (I : Inv (handP X x ob) pins σ H s) : Inv X pins σ H s :=
  ⟨⟨I.ok.mod, I.ok.kind, I.ok.glob, I.ok.blt, I.ok.above, I.ok.inj, I.ok.has, I.ok.cab, hd, I.ok.frames, I.ok.stk, I.ok.exf, I.ok.bs, I.ok.bsz, I.ok.noex, I.ok.exfs, I.ok.funs, I.ok.frf⟩, I.os, I.bare, I.base, I.loc, I.cell, I.free, I.freeC, fun p hp => I.pin p (by
    rcases List.mem_append.mp hp with z | z
    · exact List.mem_append_left _ (List.mem_append_left _ z)
    · exact List.mem_append_right _ z), I.hok, I.len⟩
structure ExAt (K : PySem.W.Frag) (C : Addr) (f : Str) : Prop where
  ga : PySem.W.findIn K (.ref C) "__getattribute__" = some (some (.builtin "BaseException.__getattribute__"))
  gn : PySem.W.findIn K (.ref C) "__getattr__" = some none
  ob : ∃ nm q Ns bs bm hdct sn sub ab col dd k0 k1 k2 k3 k5 newId, K.lookup C = some (excClassObj nm q C Ns bs bm hdct sn sub ab col dd k0 k1 k2 k3 k5 newId) ∧ bm.contains (.type "BaseException") = true
  hd : PySem.W.hasDictIn K C = true
  no : PySem.W.findIn K (.ref C) f = some none
def tExAt (x dx : Addr) (f : Str) (ta : TE) : TE := fun σ H Q => ta σ H fun y H1 => y = .ref x ∧ ∃ fs v, H1 dx = some (.xd fs) ∧ fs.lookup f = some v ∧ Q v H1
theorem pe_exAt {C dx : Addr} {f : Str} {e : Expr} {ta : TE} {pos : Pos} (hp : (x, ob) ∈ X.pn) (hc : ob.cls = .ref C) (hd : ob.dict = some dx) (hnc : ∀ c, ob.data ≠ .cls c) (F : ExAt X.K C f) (he : PE X e ta) (hb : attributeBase e f X.env (eval e X.env) = eval e X.env) :
    PE X (.Attribute e f pos) (tExAt x dx f ta) := by
  intro pins s σ H Q I h
  refine attr_of hb (thn (he pins s σ H _ I h) fun u s1 ⟨y, H1, I1, rx, ex, fs, v, ed, l, q⟩ => ?_)
  subst ex
  obtain rfl : u = Value.ref x := rx
  obtain ⟨mA, ns, r⟩ := I1.hok dx _ ed
  obtain ⟨od, h1, h2⟩ := lookIn_ns ns
  obtain ⟨u, hu, ru⟩ := RelO.some_of (v := v) (o := mA f) (by rw [← l]; exact r f)
  have at_ := (I1.pin (x, ob) (List.mem_append_left _ hp)).1
  obtain ⟨nm, q9, Ns, bs, bm, hdct, sn, sub, ab, col, dd, k0, k1, k2, k3, k5, newId, lC, hbm⟩ := F.ob
  have fin : EP X pins σ Q u { s1 with toks := s1.toks + 1 } := ⟨v, H1, I1.tok _, ru, q⟩
  have KX := I1.kIn
  obtain ⟨hp9, g9, d9, t9, os9⟩ := s1
  refine exc_attr (od := some od) (o := ob) KX (KX _ _ lC) hbm ⟨at_, hc, ?_, by rw [hd]; exact h1⟩ F.ga F.gn (PySem.W.findObj_own F.hd F.no rfl (by rw [h2, hu])) (handed_of ru) fin
  unfold PySem.W.notCls
  split
  · rename_i c z; exact absurd z (hnc _)
  · rfl
end
def goD (j : Nat) (D : Ends) : Ends := ⟨fun σ H => D.nx (σ.set j none) H, D.rt, fun σ H => D.bk (σ.set j none) H, fun σ H => D.ct (σ.set j none) H⟩
def tTryA (tb : XK → List (Addr × Obj) → TS) (C : Addr) (th : Addr → Option Addr → TS) (n j : Nat) : TS := fun D σ H => ∃ E1 : XK, (∀ c ox H', E1 c ox H' → c = .ref C) ∧ (∀ pn', tb E1 pn' D σ H) ∧
  ∀ (σ' : St) (ox : Option Addr) (H' : Hp) (x : Addr) (d : Option Addr), σ'.length = n → E1 (.ref C) ox H' → GX.g C d H' → th x d (goD j D) (σ'.set j (some (.ref x))) H'
section
variable {X : Cx} {nm q : Str} {Ns : Addr} {bs bm : List Value} {hdct : Bool} {sn : List Str} {sub : List Value} {ab : Bool} {col : Option Bool} {dd : Option Addr} {k0 k1 k2 k3 k5 : Option Value} {newId : String}
theorem ps_tryA {body suite : List Stmt} {b0 : Stmt} {tb : XK → List (Addr × Obj) → TS} {th : Addr → Option Addr → TS} {y e : Str} {np hp tp : Pos} {C : Addr} {j : Nat} (hst : X.stack = X.env :: X.outer) (hg : Gl X y) (hm : X.mg y = some (.ref C))
    (lC : X.K.lookup C = some (excClassObj nm q C Ns bs bm hdct sn sub ab col dd k0 k1 k2 k3 k5 newId)) (hbase : bm.contains (.type "BaseException") = true) (hN : X.N.Nodup) (hj : X.N[j]? = some e) (hk : X.env.scope.names.lookup e = some .local)
    (hb : ∀ E1 pn', PSs (tryCx X pn' E1) body (tb E1 pn')) (hs : ∀ x ob d, ob.cls = .ref C → ob.dict = d → (∀ c, ob.data ≠ .cls c) → PSs (handP X x ob) (b0 :: suite) (th x d)) (hdb : (y == ("__debug__" : Str)) = false := by decide) :
    PS X (.Try body [.ExceptHandler (some (.Name y np)) (some e) (b0 :: suite) hp] [] [] tp) (tTryA tb C th X.N.length j) := by
  intro pins s σ H D I h
  obtain ⟨E1, hE1, hB, hH⟩ := h
  refine wpAny_Try_except (wpAny_mono (hb E1 (X.pn ++ pins) [] s σ H D I.toTry (hB _)) (fun fl s1 q => ?_) (fun e s1 q => ?_))
  · cases fl with
    | next => obtain ⟨σ', H', J, z⟩ := q; exact wpAny_execs_nil ⟨σ', H', J.ofTry, z⟩
    | brk => obtain ⟨σ', H', J, z⟩ := q; exact ⟨σ', H', J.ofTry, z⟩
    | cont => obtain ⟨σ', H', J, z⟩ := q; exact ⟨σ', H', J.ofTry, z⟩
    | ret u => obtain ⟨v, σ', H', J, r, z⟩ := q; exact ⟨v, σ', H', J.ofTry, r, z⟩
  · obtain ⟨pins', σ1, H1, s0, C', x, H', rfl, J, F, hE⟩ := q
    have hc := hE1 _ _ _ hE
    cases hc
    have nf := F.nfr J.frn
    obtain ⟨d, dk, gd⟩ := F.dct
    obtain ⟨B, a0, fl, cov⟩ := F.fly
    have fl0 : Heap.FlyingW B (X.env :: X.outer) x (.ref C) a0 s1.heap := by rw [← hst]; exact fl
    have frm : X.A.frames = some (X.env :: X.outer) := by rw [← hst]; exact J.ok.frames
    have fre : X.env.frame = some X.env.locals := stack_frame I hst
    have xs : x ∉ frs X.stack := fun z => by
      obtain ⟨_, o, e1, e2⟩ := nf x z
      obtain ⟨_, _, _, oe, vs, _, _, _, he, _, hd, _⟩ := fl
      rw [he] at e1; cases e1; exact e2 _ hd
    have xn : H' x = none := by
      cases z : H' x with
      | none => rfl
      | some o =>
        obtain ⟨u, e1⟩ := hok_there F.hok z
        have e2 := cov x u e1 (.inl (by rw [z]; simp)) xs
        rw [fl.2.1] at e2; cases e2
    have fss := frs_stack I hst
    refine looks_d frm fre fl0 dk fun h4 ⟨x1, x2, x3, x4⟩ up4 dk4 => sf_d (s := { s1 with heap := h4 }) x1 x2 x3 x4 dk4 fun h5 fl5 up5 dk5 => ?_
    have up45 : s1.heap.UpToSlots h5 := up4.trans up5
    have at_ : ∀ (h6 : Heap) (t6 : Nat), B.StaysIn h6 → s1.heap.UpToSlots h6 → Inv X pins σ1 H' { s1 with heap := h6, toks := t6 } := fun h6 t6 st up => by
      obtain ⟨u6, ok6⟩ := fly_to F.un F.hok cov nf st up
      have J6 := J.call (h' := h6) (g' := s1.gens) (d' := s1.drawn) (t' := t6) (ch := []) u6 ok6 F.bare (fun b z => absurd z (by simp))
      have e6 : { s0 with heap := h6, gens := s1.gens, drawn := s1.drawn, toks := t6 } = { s1 with heap := h6, toks := t6 } := by
        have := F.os
        obtain ⟨_, _, _, _, os1⟩ := s1
        obtain ⟨_, _, _, _, os0⟩ := s0
        dsimp only at this ⊢
        rw [this]
      rw [← e6]
      exact J6.ofPn
    have I5 := (at_ h5 s1.toks fl5.1 up45).toHand (x := x)
    refine wpAny_handleBy_cons (codeAny_handlers_test (ld_glob I5 hg hm ?_ hdb)) (by intro q; cases q)
    obtain ⟨ob, hob, hobc⟩ := fl5.there
    refine wpAny_excMatches_sub_self (I5.kIn _ _ lC) hob hobc hbase (codeAny_handlers_suite_as ?_)
    refine sf_d (s := { s1 with heap := h5 }) fl5.1 fl5.2.1 fl5.2.2.1 fl5.2.2.2.at dk5 fun h6 fl6 up6 dk6 => ?_
    obtain ⟨ob6, hb6, hd6⟩ := dk6
    obtain ⟨_, _, _, oe, vs, _, _, _, he6, ⟨hcl, _⟩, hdt, _⟩ := id fl6
    rw [hb6] at he6; cases he6
    have I6 := (at_ h6 s1.toks fl6.1 (up45.trans up6)).toHandP hb6 xn (fun z => xs (by rw [fss, z]; exact List.mem_cons_self)) (fun z => xs (by rw [fss]; exact List.mem_cons_of_mem _ z)) (fun v z => by rw [hdt] at z; cases z)
    refine store_ok (X := handP X x ob6) (v := .ref x) I6 hN hj (.inl hk) rfl (fun s7 I7 => ?_) (.inr hk)
    refine wpAny_mono (hs x ob6 d hcl hd6 (fun c z => by rw [hdt] at z; cases z) pins _ _ H' (goD j D) I7 (hH σ1 _ H' x d I6.len hE gd)) (fun fl s7 q => ?_) fun _ _ z => z.elim
    cases fl with
    | next => obtain ⟨σ', H', J, z⟩ := q; exact goes_ok (J.ofHandP I.ok.hd) hN hj hk fun s8 J8 => ⟨_, H', J8, z⟩
    | brk => obtain ⟨σ', H', J, z⟩ := q; exact goes_ok (J.ofHandP I.ok.hd) hN hj hk fun s8 J8 => ⟨_, H', J8, z⟩
    | cont => obtain ⟨σ', H', J, z⟩ := q; exact goes_ok (J.ofHandP I.ok.hd) hN hj hk fun s8 J8 => ⟨_, H', J8, z⟩
    | ret u => obtain ⟨v, σ', H', J, r, z⟩ := q; exact goes_ok (J.ofHandP I.ok.hd) hN hj hk fun s8 J8 => ⟨v, _, H', J8, r, z⟩
end
end L2
namespace WL
variable [L2.GX]
open PySem L2
open Rep (rp)
open Ow (sl)
open Sls (rel)
structure XcJ (P : Program) (w : World) (K : PySem.W.Frag) (mg : Str → Option Value) (base : Heap) (k : Nat) (x : Str) (C : Addr) (fl : Str) (v0 : Int) : Prop where
  ex : ∃ (fI Ns : Addr) (fd : FuncData) (oI : PySem.Obj) (nm q : Str) (bs bm bmB : List Value) (hdct : Bool) (sn : List Str) (sub : List Value) (ab : Bool) (col : Option Bool) (dd : Option Addr) (k0 k1 k2 k3 k5 : Option Value) (B newId initId : String) (ps : List Str) (ds : List Value),
    mg x = some (.ref C) ∧ K.lookup C = some (excClassObj nm q C Ns bs bm hdct sn sub ab col dd k0 k1 k2 k3 k5 newId) ∧ (∀ h : Heap, K.In h → ∃ mN, h.Ns Ns mN ∧ mN "__init__" = some (.ref fI)) ∧ (∀ h : Heap, K.In h → OwnTail h bmB bm) ∧ K.lookup fI = some oI ∧ oI.cls = .type "function" ∧
    ExcBaseFacts B newId initId bmB ∧ bm.contains (.type "BaseException") = true ∧ FnOk P w K mg base (CX1 P w) k fI fd ps (spEJ C fl) ∧ Binds K fd ps ds ∧ Vals [.int v0] ds
  go : ∀ d H, GX.g C d H ↔ ∃ dx, d = some dx ∧ H dx = some (.xd [(fl, .int v0)])
  at_ : ExAt K C fl
theorem ea_nil {M : Model} {A : Around} {E : Value → Shared → Prop} {s : Shared} {f : Value} {Q : Args → Shared → Prop} (h : wpAny M A (spliced []) (fun vs s' => Q ⟨vs, []⟩ s') E s) : wpAny M A (evalArgs f true [] []) Q E s := by
  unfold evalArgs
  show wpAny M A (spliced [] >>= _) Q E s
  refine wpAny_bind (wpAny_mono h (fun vs s' h' => ?_) fun _ _ x => x)
  exact wpAny_bind (wpAny_pure (wpAny_holding (wpAny_bind (wpAny_pure (wpAny_bind (wpAny_pure (wpAny_pure h')))))))
section
variable {P : Program} {w : World} {K : PySem.W.Frag} {mg : Str → Option Value} {base : Heap} {N : List Str} {qual : Str} {scope : Scope} {f : Addr} {cd : Value} {A : Around} {outer : List Env} {s : Shared} {H : Hp} {E : XK} {T : Addr} {ms : List Nat} {n k : Nat} {D D' PO τ : Type} [Sls D] [Sls D'] [Sls PO] [Ow τ] {pos : Pos}
theorem s1_rzJ {x fl : Str} {v0 : Int} {np cpos : Pos} {C : Addr} [J : Pj D PO n] (hg : Gl (cxOf (CX1 P w) P w K mg base N qual scope f cd A outer s H E) x) (h : XcJ P w K mg base k x C fl v0) (hr : Room (k + 1) (cxOf (CX1 P w) P w K mg base N qual scope f cd A outer s H E).A) (hdb : (x == ("__debug__" : Str)) = false := by decide) :
    S1 (cxOf (CX1 P w) P w K mg base N qual scope f cd A outer s H E) E T ms n (.Raise (some (.Call (.Name x np) [] [] cpos)) none pos) (fun (d : D) (_ : D' → Prop) (_ : τ → PO → Prop) Ke => Ke C (J.pj d)) := by
  obtain ⟨fI, Ns, fd, oI, nm, q, bs, bm, bmB, hdct, sn, sub, ab, col, dd, k0, k1, k2, k3, k5, B, newId, initId, ps, ds, a1, a2, a3, a4, a5, a6, a7, a8, a9, a10, a11⟩ := h.ex
  refine ⟨_, ps_raiseI (np := np) (pos := pos) (cpos := cpos) (args := []) hg a1 a2 a3 a4 a5 a6 a7 a8 a9 a10 a11 hr pa_nil hdb rfl fun Q E' s9 z => ea_nil z, fun d F R σ H Kn Kr Ke En s hw kn kr ke => ?_⟩
  refine ⟨Nat.zero_le _, fun x hx => ⟨x, .int v0, rfl, upd_same, fun dx hd ne => ⟨rfl, some dx, upd_same, ?_⟩⟩⟩
  rw [upd_ne ne] at hd
  have q : dropH (upd (upd (upd H x (exO C x none)) dx (.xd [(fl, .int v0)])) x (exO C x (some dx))) x = upd H dx (.xd [(fl, .int v0)]) := by
    funext b
    by_cases hb : b = x
    · rw [hb, dropH_same, upd_ne (Ne.symm ne), hx]
    · rw [dropH_ne hb, upd_ne hb]
      by_cases hbp : b = dx
      · rw [hbp, upd_same, upd_same]
      · rw [upd_ne hbp, upd_ne hb, upd_ne hbp]
  rw [q]
  refine ⟨(h.go _ _).mpr ⟨dx, rfl, upd_same⟩, ?_⟩
  obtain ⟨s2, c2, _⟩ := s.new (.xd [(fl, .int v0)]) hd
  obtain ⟨G, g1, g2⟩ := stt_pj (PO := PO) s2
  exact ke C x _ G R _ hw (c2.less g1) g2
end
section
variable {X : Cx} {E : XK} {T : Addr} {ms : List Nat} {n k : Nat} {D D' D1 D0 PO α : Type} [Rep α] [Sls D] [Sls D'] [Sls D1] [Sls D0] [Sls PO]
theorem sw_tryA {body : List Stmt} {x y e fl : Str} {v0 : Int} {np hp tp q1 z1 r1 r2 r3 r4 p1 pos : Pos} {k1 : Nat} {x1 : Nat} {C : Addr} (i j : Nat) [A : At i D1 (Option α × Int) D0] [J : Pj D1 PO n] {wb : D → (D1 → Prop) → (Option α × Int → PO → Prop) → (Addr → PO → Prop) → Prop}
    (dp : Dep PO ms n) (hst : X.stack = X.env :: X.outer) (XJ : XcJ X.prog X.w X.K X.mg X.base k y C fl v0) (hg : Gl X y) (hN : X.N.Nodup) (hi : X.N[i]? = some x) (hx : Loc X.env.scope x) (hf : X.fn x = true ∨ X.env.scope.names.lookup x = some .local) (hj : X.N[j]? = some e) (hk : X.env.scope.names.lookup e = some .local) (hij : i ≠ j) (hn : PE X (.Name x p1) (tVar i))
    (hb : ∀ E1 pn', SW (tryCx X pn' E1) E1 T ms n body wb) (hab : attributeBase (.Name e r2) fl X.env (eval (.Name e r2) X.env) = eval (.Name e r2) X.env)
    (hw : swapsWith (.Tuple [.Constant .none k1 r1, .Attribute (.Name e r2) fl r3] x1 r4) (some (.Name x q1)) z1.line X.env = pure false) (he1 : starEach [.Constant .none k1 r1, .Attribute (.Name e r2) fl r3] X.env = (false, eval (.Constant .none k1 r1) X.env) :: starEach [.Attribute (.Name e r2) fl r3] X.env := by rfl) (he2 : starEach [.Attribute (.Name e r2) fl r3] X.env = (false, eval (.Attribute (.Name e r2) fl r3) X.env) :: starEach [] X.env := by rfl)
    (hd1 : (y == ("__debug__" : Str)) = false := by decide) (hd2 : (e == ("__debug__" : Str)) = false := by decide) (hd3 : (e == ("__classdict__" : Str)) = false := by decide) :
    SW X E T ms n [.Try body [.ExceptHandler (some (.Name y np)) (some e) [.Assign [.Name x q1] (.Tuple [.Constant .none k1 r1, .Attribute (.Name e r2) fl r3] x1 r4) z1] hp] [] [] tp, .Return (some (.Name x p1)) pos]
      (fun (d : D) (_ : D' → Prop) (Kr : Option α × Int → PO → Prop) _ => wb d (fun d1 => Kr (A.get d1) (J.pj d1)) Kr fun C' p' => C' = C ∧ Kr (none, v0) p') := by
  obtain ⟨fI, Ns, fd, oI, nm, q, bs, bm, bmB, hdct, sn, sub, ab, col, dd, k0, k1, k2, k3, k5, B, newId, initId, ps, ds, a1, a2, a3, a4, a5, a6, a7, a8, a9, a10, a11⟩ := XJ.ex
  have il : i < X.N.length := (List.getElem?_eq_some_iff.mp hi).1
  refine ⟨_, pss_cons (ps_tryA (tb := fun E1 pn' => (hb E1 pn').choose) (th := fun x' d D σ H => ∃ dx, d = some dx ∧ tAsg (tTup (tCons (tC .non) (tCons (tExAt x' dx fl (tVar j)) tNil))) (gName i) D σ H) (j := j) hst hg a1 a2 a8 hN hj hk (fun E1 pn' => (hb E1 pn').choose_spec.1) (fun x' ob d h1 h2 h3 => ?_) hd1) (pss_one (ps_ret hn)), fun d F R σ H Kn Kr Ke En s hw kn kr ke => ?_⟩
  · intro pins s σ H D I h
    obtain ⟨dx, e1, h⟩ := h
    exact pss_one (ps_set (X := handP X x' ob) hN hi hx (pe_tup (pa_cons pe_non (pa_cons (pe_exAt (X := handP X x' ob) (List.mem_append_right _ List.mem_cons_self) h1 (h2.trans e1) h3 XJ.at_ (pe_var (X := handP X x' ob) hj (.inl hk) hd2 hd3) hab) pa_nil he2) he1)) hw hf) pins s σ H D I h
  refine ⟨fun c _ H' => ∃ C' p' F' R', c = .ref C' ∧ (C' = C ∧ Kr (none, v0) p') ∧ Ch T F R H F' R' H' ∧ Stt T F' R' H' p' (σ.take n), ?_, fun pn' => ?_, fun σ' ox H' x' d' hl hE hG => ?_⟩
  · rintro c ox H' ⟨C', p', F', R', rfl, ⟨e, _⟩, _⟩
    rw [e]
  · refine (hb _ pn').choose_spec.2 d F R σ H _ Kr _ _ s hw (fun d1 F1 R1 H1 σ1 q c1 s1 g1 => ?_) kr fun C y p' F' R' H' q c s' => ⟨C, p', F', R', rfl, q, c, s'⟩
    obtain ⟨v, G1, G2, t1, t2, ⟨_, u, rfl, t3⟩, _⟩ := A.take s1.rel
    obtain ⟨G, j1, j2⟩ := stt_pj (PO := PO) s1
    exact ⟨u, t1, kr _ _ u (fun _ => False) G R1 H1 q (c1.less fun a h => h.elim (fun z => z.elim) (j1 a)) ⟨dp.dp g1 j2.rel, j2.sub, j2.liv, j2.tab, j2.tabR, j2.tabF⟩ ⟨⟨fun _ z => z, u, rfl, t3⟩, fun _ z => z.elim, fun _ z => z.elim, fun z => z⟩⟩
  · obtain ⟨C', p', F', R', e, ⟨_, hk⟩, ch, st⟩ := hE
    obtain ⟨dx, e1, e2⟩ := (XJ.go _ _).mp hG
    have jl : j < σ'.length := by rw [hl]; exact (List.getElem?_eq_some_iff.mp hj).1
    refine ⟨dx, e1, .ref x', List.getElem?_set_self jl, rfl, _, .int v0, e2, List.lookup_cons_self, (by show 2 ≤ sizeLine; decide), fun p hp => ?_⟩
    obtain ⟨s3, c3, n3⟩ := st.new (.tup [.non, .int v0]) hp
    refine ⟨.ref p, ?_, kr (none, v0) p' (.ref p) (fun _ => False) F' R' _ hk ((Ch.trans s st.tab ch c3).less fun a h => h.elim (fun z => z.elim) id) s3 ⟨⟨fun _ z => z, _, rfl, ⟨p, _, _, rfl, n3, upd_same, rfl, rfl⟩⟩, fun _ z => z.elim, fun _ z => z.elim, fun z => z⟩⟩
    rw [List.getElem?_set_ne (Ne.symm hij), List.getElem?_set_self (by simpa [hl] using il)]
end
end WL
namespace L2
variable [L2.GX]
open PySem PySem.Spec PyProof.Rows
section
variable {M : Model} {A : Around} {E : Value → Shared → Prop} {s : Shared} {base : Heap} {env : Env} {outer : List Env} {L e : Addr} {a0 cls fl : Value} {d : Option Addr}
theorem sf_any {l : List Env} {fr : Option Addr} {Q : Unit → Shared → Prop} (hkb : base.StaysIn s.heap) (hl : s.heap.FunFrames base l) (ht : s.heap.TracedAtW base e cls a0 fl) (dk : DK e d s.heap)
    (h : ∀ h', base.StaysIn h' → h'.FunFrames base l → h'.TracedAtW base e cls a0 (fr.elim .none fun f => rawInt f) → s.heap.UpToSlots h' → DK e d h' → Q () { s with heap := h' }) : wpAny M A (setFlight (.ref e) fr) Q E s := by
  obtain ⟨oe, vs, T, oT, ts, he, hcls, hd, h1, hnT, hTe, hT, hdT, h3⟩ := ht
  obtain ⟨o2, e2, rfl⟩ := dk
  rw [he] at e2; cases e2
  have h33 := (Array.getElem?_eq_some_iff.mp h3).1
  have oth : ∀ b, b ≠ T → (s.heap.update T (Obj.mapFields (·.setIfInBounds 3 (fr.elim Value.none fun f => rawInt f)))).get? b = s.heap.get? b := fun b z => Heap.get?_update_other _ _ (Ne.symm z)
  have nr : ∀ b o, s.heap.get? b = some o → (∀ vs, o.data ≠ .fields vs) → b ≠ T := fun b o q z y => by rw [y, hT] at q; cases q; exact z _ hdT
  have hE := (oth e (Ne.symm hTe)).trans he
  unfold setFlight
  refine wpAny_bind (wpAny_field he hd h1 ?_)
  rw [if_pos (show (Value.ref T != Value.none) = true from by simp)]
  refine wpAny_setField hT hdT h33 (h _ (fun b o q => (oth b fun z => by rw [z, hnT] at q; cases q).trans (hkb b o q)) (hl.of_keeps fun b o q z => ⟨o, (oth b (nr b o q z)).trans q, rfl⟩) ?_ (fun b o q z => ⟨o.slots, (oth b (nr b o q z)).trans q⟩) ⟨_, hE, rfl⟩)
  exact ⟨oe, vs, T, _, _, hE, hcls, hd, h1, hnT, hTe, Heap.get?_update_self _ hT (Obj.isFreed_of_fields (Obj.data_mapFields hdT _)), Obj.data_mapFields hdT _, by simp [h33]⟩
theorem pass_any {what : String} {l : List Env} {Q : Value → Shared → Prop} (hkb : base.StaysIn s.heap) (hl : s.heap.FunFrames base l) (ht : s.heap.TracedAtW base e cls a0 fl) (dk : DK e d s.heap)
    (h : ∀ h' fl', base.StaysIn h' → h'.FunFrames base l → h'.TracedAtW base e cls a0 fl' → s.heap.UpToSlots h' → DK e d h' → E (.ref e) { s with heap := h' }) : wpAny M A (PySem.passOn what (.ref e) env : Sem Value) Q E s := by
  obtain ⟨oe, vs, T, oT, ts, he, hcls, hd, h1, r⟩ := id ht
  unfold PySem.passOn
  refine wpAny_bind (wpAny_field he hd h1 ?_)
  rw [if_neg (show ¬ ((Value.ref T == Value.none) = true) from by simp)]
  exact wpAny_bind (sf_any hkb hl ht dk fun h' x1 x2 x3 x4 x5 => wpAny_throw (h h' _ x1 x2 x3 x4 x5))
theorem looks_any {Q : Unit → Shared → Prop} (hfr : A.frames = some (env :: outer)) (hf : env.frame = some L) (hkb : base.StaysIn s.heap) (hen : base.get? e = none) (hl : s.heap.FunFrames base (env :: outer)) (ht : s.heap.TracedAtW base e cls a0 fl) (dk : DK e d s.heap)
    (hQ : ∀ h', Heap.HeldW base (env :: outer) e cls a0 L h' → s.heap.UpToSlots h' → DK e d h' → Q () { s with heap := h' }) : wpAny M A (noteFrame (.ref e) env) Q E s := by
  by_cases hfl : (fl == rawInt L) = true
  · have z := eq_of_beq hfl
    subst z
    exact wpAny_noteFrame_againW hf ht (hQ s.heap ⟨hkb, hen, hl, ht⟩ (Heap.UpToSlots.refl _) dk)
  · obtain ⟨oe, vs, T, oT, ts, he, ⟨rfl, h0⟩, hd, h1, hnT, hTe, hT, hdT, h3⟩ := ht
    obtain ⟨o2, e2, rfl⟩ := dk
    rw [he] at e2; cases e2
    unfold noteFrame
    simp only [hf]
    refine wpAny_bind (wpAny_field he hd h1 ?_)
    rw [if_pos (show (Value.ref T != Value.none) = true from by simp)]
    refine wpAny_bind (wpAny_field hT hdT h3 ?_)
    rw [if_neg hfl]
    refine wpAny_bind (wpAny_setField hT hdT (Array.getElem?_eq_some_iff.mp h3).1 ?_)
    have oth : ∀ b, b ≠ T → (s.heap.update T (Obj.mapFields (·.setIfInBounds 3 Value.none))).get? b = s.heap.get? b := fun b z => Heap.get?_update_other _ _ (Ne.symm z)
    have nr : ∀ b o, s.heap.get? b = some o → (∀ vs, o.data ≠ .fields vs) → b ≠ T := fun b o q z y => by rw [y, hT] at q; cases q; exact z _ hdT
    refine ent_d hfr (hl.of_keeps fun b o q z => ⟨o, (oth b (nr b o q z)).trans q, rfl⟩) hf ((oth e (Ne.symm hTe)).trans he) (fun b o q => (oth b fun z => by rw [z, hnT] at q; cases q).trans (hkb b o q)) hen hd (Array.getElem?_eq_some_iff.mp h1).1 h0
      fun h' ⟨x1, x2, x3, x4⟩ y => hQ h' ⟨x1, hen, x2, x3⟩ (fun b o q z => x4 b o ((oth b (nr b o q z)).trans q) z) y
theorem leave_any {Q : Unit → Shared → Prop} (hfr : A.frames = some (env :: outer)) (hf : env.frame = some L) (hkb : base.StaysIn s.heap) (hen : base.get? e = none) (hl : s.heap.FunFrames base (env :: outer)) (ht : s.heap.TracedAtW base e cls a0 fl) (dk : DK e d s.heap)
    (hQ : ∀ h', Heap.FlyingW base outer e cls a0 h' → s.heap.UpToSlots h' → DK e d h' → Q () { s with heap := h' }) : wpAny M A (leaving env (.ref e)) Q E s := by
  unfold leaving
  refine wpAny_bind (looks_any hfr hf hkb hen hl ht dk fun h4 ⟨x1, x2, x3, x4⟩ up dk4 => sf_d (s := { s with heap := h4 }) x1 x2 x3 x4 dk4 fun h5 ⟨y1, y2, ⟨_, _, y3⟩, y4⟩ up2 dk2 => ?_)
  exact hQ h5 ⟨y1, y2, y3, y4⟩ (up.trans up2) dk2
end
section
variable {X : Cx} {pins : List (Addr × Obj)} {σ : St} {H1 H' : Hp} {s1 s2 : Shared} {C x K : Addr} {B h' : Heap} {a0 : Value}
theorem fly_mkC (I : Inv X pins σ H1 s1) (hst : X.stack = X.env :: X.outer) (hex : X.ex = []) (os : s2.os = s1.os) (bare : AllBare s2.gens) (u : Un (frs X.stack) [] H1 H' s1.heap s2.heap) (hok : HOk X.prog X.w H' s2.heap) (kn : H' K = none) (k0 : X.s₀.heap.objs.size ≤ K)
    (cov : ∀ b o, s2.heap.get? b = some o → (H' b ≠ none ∨ ∃ o0, s1.heap.get? b = some o0) → b ∉ frs X.stack → b ≠ K → B.get? b = some o) (nfr : ∀ b ∈ frs X.stack, H' b = none ∧ ∃ o, s2.heap.get? b = some o ∧ ∀ vs, o.data ≠ .fields vs)
    (up : ∀ b o, b ≠ K → s2.heap.get? b = some o → (∀ vs, o.data ≠ .fields vs) → ∃ sl, h'.get? b = some { o with slots := sl }) (fl : Heap.FlyingW B X.outer x (.ref C) a0 h') (dct : ∃ d, DK x d h' ∧ GX.g C d H') : Flies X.prog X.w X.outer X.H₀ X.s₀ H' C x { s2 with heap := h' } := by
  have hfs := frs_stack I hst
  have st := fl.1
  have base : Un (frs X.outer) [] X.H₀ H1 X.s₀.heap s1.heap := by have := I.base; rw [hex] at this; exact this
  have nx : ∀ b : Addr, b ∉ ([] : List Addr) := fun b z => by cases z
  have oldK : ∀ b o, X.s₀.heap.get? b = some o → b ≠ K := fun b o e z => absurd (Nat.lt_of_lt_of_le (Heap.lt_size e) (by rw [← z] at k0; exact k0)) (Nat.lt_irrefl _)
  have old : ∀ b o, X.s₀.heap.get? b = some o → b ≠ X.env.locals := fun b o e z => by
    have h2 := I.ok.above
    rw [← z] at h2
    exact absurd (Nat.lt_of_lt_of_le (Heap.lt_size e) h2) (Nat.lt_irrefl _)
  have out : ∀ b o, X.s₀.heap.get? b = some o → b ∉ frs X.outer → b ∉ frs X.stack := fun b o e n z => by
    rw [hfs] at z
    rcases List.mem_cons.mp z with q | q
    · exact old b o e q
    · exact n q
  have slots : ∀ b o, s2.heap.get? b = some o → b ∈ frs X.stack → b ≠ K → ∃ sl, h'.get? b = some { o with slots := sl } := fun b o e hb nk => by
    obtain ⟨_, o', e', n⟩ := nfr b hb
    rw [e] at e'; cases e'
    exact up b o nk e n
  have keep : ∀ b o, s1.heap.get? b = some o → H1 b = none → b ∉ frs X.stack → b ≠ K → h'.get? b = some o := fun b o e n hf nk => st b o (cov b o (u.keep b o e n hf (nx b)) (.inr ⟨o, e⟩) hf nk)
  have hok2 : HOk X.prog X.w H' h' := fun a o e => by
    have tr : ∀ c, H' c ≠ none → c ∉ frs X.stack ∧ c ≠ K := fun c hc => ⟨fun hf => hc (nfr c hf).1, fun z => hc (by rw [z]; exact kn)⟩
    refine (hok a o e).stay (fun c v hc q => ?_) (fun _ q => q) fun _ _ q => q
    have hc' : H' c ≠ none := by
      rcases hc with z | z
      · rw [z, e]; simp
      · rw [z]; simp
    exact st c v (cov c v q (.inl hc') (tr c hc').1 (tr c hc').2)
  refine ⟨os.trans I.os, bare, ⟨fun b o e n hf hx => ?_, fun b o e n hf hx => ?_, fun b o e n hx => ?_, fun b o e hx => ?_, fun b xs e => ?_, fun b o v e => ?_, fun b ps e => ?_⟩, hok2, dct, B, a0, fl, fun b o e hc hf => ?_⟩
  · exact keep b o (base.keep b o e n hf hx) (base.free b o e n hx) (out b o e hf) (oldK b o e)
  · obtain ⟨sl, e1⟩ := base.slot b o e n hf hx
    have hb : b ∈ frs X.stack := by rw [hfs]; exact List.mem_cons_of_mem _ hf
    obtain ⟨sl1, e2⟩ := u.slot b _ e1 (base.free b o e n hx) hb hx
    obtain ⟨sl', e3⟩ := slots b _ e2 hb (oldK b o e)
    exact ⟨sl', e3⟩
  · obtain ⟨o1, e1⟩ := base.there b o e hx
    exact u.free b o1 e1 (base.free b o e n hx) hx
  · obtain ⟨o1, e1⟩ := base.there b o e hx
    obtain ⟨o2, e2⟩ := u.there b o1 e1 hx
    by_cases hf : b ∈ frs X.stack
    · obtain ⟨sl, e3⟩ := slots b _ e2 hf (oldK b o e)
      exact ⟨_, e3⟩
    · exact ⟨_, st b o2 (cov b o2 e2 (.inr ⟨o1, e1⟩) hf (oldK b o e))⟩
  · exact u.tups b xs (base.tups b xs e)
  · exact u.frzs b o v (base.frzs b o v e)
  · obtain ⟨m1, e1⟩ := base.tbls b ps e
    obtain ⟨m2, e2⟩ := u.tbls b _ e1
    exact ⟨m1 ++ m2, by rw [e2, Array.append_assoc]⟩
  · have fin : ∀ o2, s2.heap.get? b = some o2 → (H' b ≠ none ∨ ∃ o0, s1.heap.get? b = some o0) → b ∉ frs X.stack → b ≠ K → B.get? b = some o := fun o2 e2 hc' hf' nk => by
      have q := cov b o2 e2 hc' hf' nk
      have q2 := fl.1 b o2 q
      have e' : h'.get? b = some o := e
      rw [e'] at q2
      cases q2
      exact q
    rcases hc with hc | ⟨o0, e0⟩
    · obtain ⟨ho, eh⟩ : ∃ ho, H' b = some ho := by
        cases z : H' b with
        | none => exact absurd z hc
        | some v => exact ⟨v, rfl⟩
      obtain ⟨o2, e2⟩ := hok_there hok eh
      exact fin o2 e2 (.inl hc) (fun z => hc (nfr b z).1) fun z => hc (by rw [z]; exact kn)
    · obtain ⟨o1, e1⟩ := base.there b o0 e0 (nx b)
      obtain ⟨o2, e2⟩ := u.there b o1 e1 (nx b)
      exact fin o2 e2 (.inr ⟨o1, e1⟩) (out b o0 e0 hf) (oldK b o0 e0)
end
end L2
namespace L2
variable [L2.GX]
open PySem PySem.Spec PyProof.Rows
abbrev blkE (X : Cx) (scope : Scope) (cl : List (Str × Addr)) (N' : List Str) (s₀ : Shared) (H₀ : Hp) (C : Addr) (ex : List Addr) (pn : List (Addr × Obj)) (E1 : XK) : Cx :=
  { blk X scope cl N' s₀ H₀ C ex pn with xe := fun e s2 => ∃ (pins : List (Addr × Obj)) (σ : St) (H1 : Hp) (s1 : Shared) (K x : Addr) (H' : Hp), e = .ref x ∧ Inv (blk X scope cl N' s₀ H₀ C ex pn) pins σ H1 s1 ∧ Flies X.prog X.w X.stack H1 s1 H' K x s2 ∧ E1 (.ref K) (some x) H' }
theorem passE {X : Cx} {scope : Scope} {cl : List (Str × Addr)} {N' : List Str} {s₀ : Shared} {H₀ : Hp} {C : Addr} {ex : List Addr} {pn : List (Addr × Obj)} {E1 : XK} : Passes (CX1 X.prog X.w) (blkE X scope cl N' s₀ H₀ C ex pn E1) E1 := by
  intro pins σ H1 s1 e s2 I h
  obtain ⟨K, x, H', rfl, F, hE⟩ := h
  exact ⟨pins, σ, H1, s1, K, x, H', rfl, ⟨⟨I.ok.mod, I.ok.kind, I.ok.glob, I.ok.blt, I.ok.above, I.ok.inj, I.ok.has, I.ok.cab, I.ok.hd, I.ok.frames, I.ok.stk, I.ok.exf, I.ok.bs, I.ok.bsz, I.ok.noex, I.ok.exfs, I.ok.funs, I.ok.frf⟩, I.os, I.bare, I.base, I.loc, I.cell, I.free, I.freeC, I.pin, I.hok, I.len⟩, F, hE⟩
section
variable {X : Cx} {elt iter tg : Expr} {scope : Scope} {cl : List (Str × Addr)} {T Fr : List Str} {idx : List Nat} {wi : TI} {pos : Pos} {ifs : List Expr}
theorem loop_anyE {prog : Program} {w : World} {A : Around} {R : Result → Shared → Prop} {s : Shared} {elt target iter : Expr} {ifs : List Expr} {scope : Scope} {pos : Pos} {it acc : Value} {env : Env} {E0 : Value → Shared → Prop} (hE0 : ∀ e s, E0 e s → notedBy (model prog w) A env (fun x s' => R (.error x) s') e s) (Iv : Nat → Shared → Prop)
    (turn : ∀ n s, Iv n s → wpAny (model prog w) A (pyNext it) (fun r s₁ => match r with
      | none => R (.ok .next) s₁
      | some v => wpAny (model prog w) A (letOwnedTupleGo target it v) (fun _ s₂ => wpAny (model prog w) A (assign target env v) (fun _ s₃ =>
          wpAny (model prog w) A (forIn ifs true fun c r => if r = true then do let ok ← isTrue c env (eval c env); pure (ForInStep.yield ok) else pure (ForInStep.yield r)) (fun ok s₄ =>
            if ok = true then wpAny (model prog w) A (eval elt env) (fun x s₅ => wpAny (model prog w) A (call (.builtin "list.append") [acc, x]) (fun _ s₆ => ∃ m, m < n ∧ Iv m s₆) E0 s₅) E0 s₄
            else ∃ m, m < n ∧ Iv m s₄) E0 s₃) E0 s₂) E0 s₁) E0 s)
    (n : Nat) (h : Iv n s) : codeAny (model prog w) A (.compLoop (.ListComp elt [⟨target, iter, ifs, 0⟩] scope pos) 0 it acc env) R s := by
  refine codeAny_loop rfl Iv (fun n s hI => ?_) n h
  show wpAny _ A ((compTurn (.ListComp elt [⟨target, iter, ifs, 0⟩] scope pos) 0 it acc env).onRaise (fun x => do noteFrame x env; theTreesLotGoes x)) _ _ s
  refine wpAny_noted ?_
  rw [compTurn_list]
  have no : ∀ {α : Type} {t : Sem α} {Q : α → Shared → Prop} {s : Shared}, wpAny (model prog w) A t Q E0 s → wpAny (model prog w) A t Q (notedBy (model prog w) A env fun e s' => R (.error e) s') s := fun h => wpAny_mono h (fun _ _ q => q) hE0
  refine wpAny_bind (wpAny_standAt (wpAny_bind (no (thn (turn n s hI) fun r s₁ h₁ => ?_))))
  cases r with
  | none => exact no (wpAny_pure h₁)
  | some v =>
    refine wpAny_bind (no (thn h₁ fun _ s₂ h₂ => wpAny_bind (no (thn h₂ fun _ s₃ h₃ => wpAny_bind (no (thn h₃ fun ok s₄ h₄ => ?_))))))
    cases ok with
    | false => exact no (wpAny_pure ⟨rfl, h₄⟩)
    | true => exact wpAny_bind (wpAny_bind (no (thn h₄ fun x s₅ h₅ => wpAny_bind (no (thn h₅ fun _ s₆ h₆ => wpAny_pure (wpAny_pure ⟨rfl, h₆⟩))))))
theorem comp_block2E {pins : List (Addr × Obj)} {σ : St} {s2 : Shared} {H2 : Hp} {J : It} {fp : List Addr} {it : Addr} {tn : Nat → Heap → Prop} {E : Value → Shared → Prop} {RR : Value → Addr → Result → Shared → Prop} {P : List V → Hp → Prop} {E1 : XK} (hcm : X.calm = true)
    (B : BScope X scope cl T Fr idx) 
    (I2 : Inv X pins σ H2 s2) (Tn : Turn X.prog X.w X.K tg J fp it tn) (st2 : tn 0 s2.heap) (f2 : ∀ b ∈ fp, FpOk X pins H2 b)
    (hb : ∀ s₀ H₀ C ex pn, ∃ (g : TG) (tt : TT) (te : TE), (PG (blkE X scope cl (T ++ Fr) s₀ H₀ C ex pn E1) tg g ∧ PTs (blkE X scope cl (T ++ Fr) s₀ H₀ C ex pn E1) ifs tt ∧ PE (blkE X scope cl (T ++ Fr) s₀ H₀ C ex pn E1) elt te) ∧ ∃ W : Nat → Nat → List V → St → Hp → Prop, (∃ m, W 0 m [] (frame0 T idx σ) H2) ∧ ∀ i m ys σ' H, W i m ys σ' H → (J.stop i H ∧ P ys H) ∨ (J.go i H ∧ ys.length < sizeLine ∧ ∀ x H', J.yld i H x H' → g x σ' H' fun σ2 H2 => tt σ2 H2 fun b H3 => if b = true then te σ2 H3 fun y H4 => ∃ m', m' < m ∧ W (i + 1) m' (ys ++ [y]) σ2 H4 else ∃ m', m' < m ∧ W (i + 1) m' ys σ2 H3))
    (hRR : ∀ (D C : Addr) (s' : Shared) (H' : Hp) (ys : List V), H' D = none → P ys H' → Inv X pins σ (upd H' D (.lst ys)) s' → (∃ m, s'.heap.Ns C m) → (upd H' D (.lst ys)) C = none → C ≠ X.env.locals → X.s₀.heap.objs.size ≤ C → (∀ x c, X.env.cells.lookup x = some c → c ≠ C) → (∀ p ∈ X.pn ++ pins, p.1 ≠ C) → RR (.ref D) C (.ok .next) s')
    (hErr : ∀ (D C : Addr) (s1 s' : Shared) (H1 H' : Hp) (K x : Addr), Inv X pins σ H1 s1 → Flies X.prog X.w X.stack H1 s1 H' K x s' → E1 (.ref K) (some x) H' → (∃ m, s1.heap.Ns C m) → H1 C = none → C ≠ X.env.locals → X.s₀.heap.objs.size ≤ C → C ∉ frs X.stack → notedBy (model X.prog X.w) X.A (compEnvC scope cl C X.env) (fun e s'' => RR (.ref D) C (.error e) s'') (.ref x) s') :
    wpAny (model X.prog X.w) X.A (newList []) (fun acc s₃ => wpAny (model X.prog X.w) X.A (newFunctionEnv scope X.env.globals cl [] X.env.qual none .none (some X.env)) (fun cenv s₄ =>
      codeAny (model X.prog X.w) X.A (.compStart (.ListComp elt [⟨tg, iter, ifs, 0⟩] scope pos) 0 (.ref it) acc { cenv with scope := relabel scope X.env }) (RR acc cenv.locals) s₄) E s₃) E s2 := by
  refine wpAny_newObj_type (wpAny_newFunctionEnv B.nocell (by intro y hy; simp at hy) (fun h4 ns4 sb4 => ?_) B.kind)
  dsimp only at ns4 sb4 ⊢
  have hk3 : ∀ b o, s2.heap.get? b = some o → (s2.heap.push { cls := .type "list", dict := none, data := .seq ([] : List Value).toArray }).get? b = some o := fun b o e => Heap.get?_push_of_some _ e
  have oD3 : (s2.heap.push { cls := .type "list", dict := none, data := .seq ([] : List Value).toArray }).get? s2.heap.objs.size = some { cls := .type "list", dict := none, data := .seq ([] : List Value).toArray } := Heap.get?_push_size _ rfl
  have sz3 : (s2.heap.push { cls := .type "list", dict := none, data := .seq ([] : List Value).toArray }).objs.size = s2.heap.objs.size + 1 := Heap.size_push _ _
  generalize s2.heap.push { cls := .type "list", dict := none, data := .seq ([] : List Value).toArray } = h3 at ns4 sb4 hk3 oD3 sz3 ⊢
  have I3 : Inv X pins σ H2 { s2 with heap := h3 } := I2.kept (t' := s2.toks) hk3
  have Dfresh : H2 s2.heap.objs.size = none := I2.hok.fresh (Nat.le_refl _)
  have hk4 : ∀ b o, h3.get? b = some o → h4.get? b = some o := fun b o e => sb4.extBut b o (Nat.ne_of_lt (Heap.lt_size e)) (Heap.get?_push_of_some _ e)
  have Cfresh : H2 h3.objs.size = none := I3.hok.fresh (Nat.le_refl _)
  have neDC : s2.heap.objs.size ≠ h3.objs.size := by rw [sz3]; exact Nat.ne_of_lt (Nat.lt_succ_self _)
  -- facts about D, C, fp in X
  have fD : FpOk X pins H2 s2.heap.objs.size := I2.fpOk (Nat.le_refl _) Dfresh
  have fC : FpOk X pins H2 h3.objs.size := I3.fpOk (Nat.le_refl _) Cfresh
  have exOf : ∀ b ∈ s2.heap.objs.size :: fp, FpOk X pins H2 b ∧ b ≠ h3.objs.size := fun b hb' => by
    rcases List.mem_cons.mp hb' with e | e
    · subst e; exact ⟨fD, neDC⟩
    · refine ⟨f2 b e, ?_⟩
      obtain ⟨o, ho, _⟩ := Tn.obj 0 _ st2 b e
      exact Nat.ne_of_lt (Heap.lt_size (hk3 b o ho))
  -- the block's context
  generalize hX' : blkE X scope cl (T ++ Fr) { s2 with heap := h3 } H2 h3.objs.size (s2.heap.objs.size :: fp) (X.pn ++ pins) E1 = X'
  obtain ⟨g, tt, te, ⟨hG, hT, hE⟩, W, w0, turn⟩ := hb { s2 with heap := h3 } H2 h3.objs.size (s2.heap.objs.size :: fp) (X.pn ++ pins)
  rw [hX'] at hG hT hE
  have ok' : X'.Ok := by
    subst hX'
    exact {
      mod := I3.ok.mod
      kind := B.kind
      glob := I3.ok.glob
      blt := I3.ok.blt
      above := Nat.le_refl _
      inj := fun x y c e1 e2 => I3.ok.inj x y c (B.sub x c e1) (B.sub y c e2)
      has := fun x h => B.has h
      cab := fun x c h => by cases h
      hd := I3.ok.hd
      frames := I3.ok.frames
      stk := .inl rfl
      exf := fun b hb' => ⟨(exOf b hb').2, fun x c e => (exOf b hb').1.2.2.2.2.1 x c (B.sub x c e)⟩
      bs := fun b o e => I3.bs b o e
      bsz := Nat.le_trans I3.ok.bsz I3.sz
      noex := fun b o e hb' => by
        rcases (exOf b hb').1.2.2.2.1 with z | z
        · exact I3.ok.noex b o e z
        · exact absurd (Nat.lt_of_lt_of_le (Heap.lt_size e) (Nat.le_trans I3.ok.bsz z)) (Nat.lt_irrefl _)
      exfs := fun b hb' hf => by
        rcases List.mem_cons.mp (I3.stkSub b hf) with z | z
        · exact (exOf b hb').1.2.1 z
        · exact (exOf b hb').1.2.2.1 z
      funs := I3.stack
      frf := fun b hb' => I3.stkFree b hb' }
  have xA : X'.A = X.A := by subst hX'; rfl
  have xp : X'.prog = X.prog := by subst hX'; rfl
  have xw : X'.w = X.w := by subst hX'; rfl
  have xK : X'.K = X.K := by subst hX'; rfl
  have xc : X'.calm = true := by subst hX'; exact hcm
  have xe : X'.env = compEnvC scope cl h3.objs.size X.env := by subst hX'; rfl
  have I4 : Inv X' [] (frame0 T idx σ) H2 { s2 with heap := h4 } := by
    have hN : X'.N = T ++ Fr := by subst hX'; rfl
    refine ⟨ok', by subst hX'; rfl, I3.bare, by subst hX'; exact Un.kept hk4, ?_, ?_, by subst hX'; exact Cfresh, ?_, ?_, ?_, ?_⟩
    · obtain ⟨m, hn, hl⟩ := I3.loc
      refine ⟨_, by rw [xe]; exact ns4, fun i x v e1 e2 e3 => ?_⟩
      rw [hN] at e1
      unfold frame0 at e2
      by_cases hi : i < T.length
      · rw [List.getElem?_append_left (by rw [List.length_map]; exact hi), List.getElem?_map, List.getElem?_eq_getElem hi] at e2
        cases e2
      · rw [List.getElem?_append_right (by omega)] at e1
        rw [List.getElem?_append_right (by rw [List.length_map]; omega), List.length_map, List.getElem?_map] at e2
        obtain ⟨i0, c, q1, q2, q3, q4, q5⟩ := B.fr _ x e1
        rw [q1] at e2
        have e2' : (σ[i0]?).join = some v := Option.some.inj e2
        have e2'' : σ[i0]? = some (some v) := by
          cases z : σ[i0]? with
          | none => rw [z] at e2'; cases e2'
          | some y => rw [z] at e2'; have : y = some v := e2'; rw [this]
        obtain ⟨u, r, l⟩ := hl i0 x v q2 e2'' (by
          rcases q3 with z | z
          · exact .inr (.inl z)
          · exact .inr (.inr z))
        refine ⟨u, r, ?_⟩
        rcases l with ⟨k, _⟩ | ⟨k, c', e, z⟩
        · rcases q3 with y | y <;> (rw [y] at k; cases k)
        · have := B.sub x c q4
          rw [e] at this
          cases this
          refine .inr ⟨by rw [xe]; exact q5, _, by rw [xe]; exact q4, ?_⟩
          obtain ⟨o, ho, hd⟩ := z
          exact ⟨o, hk4 _ _ ho, hd⟩
    · intro x c e
      rw [xe] at e
      obtain ⟨v, o, ho, hd⟩ := I3.cell x c (B.sub x c e)
      exact ⟨v, o, hk4 _ _ ho, hd⟩
    · intro x c e
      rw [xe] at e
      exact I3.freeC x c (B.sub x c e)
    · intro p hp
      have hp' : p ∈ X.pn ++ pins := by subst hX'; simpa using hp
      obtain ⟨a1, a2, a3, a4, a5⟩ := I3.pin p hp'
      refine ⟨hk4 _ _ a1, a2, ?_, ?_, a5⟩
      · rw [xe]; exact Nat.ne_of_lt (Heap.lt_size a1)
      · subst hX'
        intro hf
        rcases List.mem_cons.mp (I3.stkSub _ hf) with z | z
        · exact a3 z
        · exact a4 z
    · subst hX'
      exact I3.hok.kept hk4
    · rw [hN]
      unfold frame0
      rw [List.length_append, List.length_append, List.length_map, List.length_map, B.len]
  have oD4 := hk4 _ _ oD3
  have st4 : tn 0 h4 := Tn.keep _ _ _ st2 fun b _ o e => hk4 b o (hk3 b o e)
  -- what stays true of the iterator's objects and of D
  have stat : ∀ {H' : Hp} {pins' : List (Addr × Obj)}, (∀ p ∈ pins', p.1 ∉ s2.heap.objs.size :: fp) → (∀ b ∈ s2.heap.objs.size :: fp, H' b = none) → ∀ b ∈ s2.heap.objs.size :: fp, FpOk X' pins' H' b := by
    intro H' pins' hp hn b hb'
    subst hX'
    obtain ⟨⟨z1, z2, z3, z4, z5, z6⟩, z7⟩ := exOf b hb'
    refine ⟨hn b hb', z7, ?_, .inl hb', fun x c e => z5 x c (B.sub x c e), fun p hp' => ?_⟩
    · intro hf
      rcases List.mem_cons.mp (I3.stkSub b hf) with z | z
      · exact z2 z
      · exact z3 z
    · rcases List.mem_append.mp hp' with q | q
      · exact z6 p q
      · intro e; exact hp p q (by rw [e]; exact hb')
  have pinOut : ∀ {h : Heap} {p : Addr × Obj}, p ∈ pinsAt (s2.heap.objs.size :: fp) h → p.1 ∈ s2.heap.objs.size :: fp := fun hp => (of_pinsAt hp).1
  -- the end
  have fin : ∀ (s5 : Shared) (σ5 : St) (H5 : Hp) (ys : List V) (its : List Value) (nD : Nat), Inv X' [] σ5 H5 s5 → (∀ b ∈ s2.heap.objs.size :: fp, H5 b = none) → s5.heap.get? s2.heap.objs.size = some { cls := .type "list", dict := none, data := .seq its.toArray nD } → Vals ys its → ys.length ≤ sizeLine → P ys H5 → RR (.ref s2.heap.objs.size) h3.objs.size (.ok .next) s5 := by
    intro s5 σ5 H5 ys its nD I5 n5 oD5 v5 l5 q5
    have D5 := n5 _ List.mem_cons_self
    have hb5 : Un (frs X.stack) (s2.heap.objs.size :: fp) H2 H5 h3 s5.heap := by have z := I5.base; subst hX'; exact z
    have C5 : H5 h3.objs.size = none := by have z := I5.free; rw [xe] at z; exact z
    have hok5 : HOk X.prog X.w (upd H5 s2.heap.objs.size (.lst ys)) s5.heap := HOk.track (by have z := I5.hok; rw [xp, xw] at z; exact z) D5 ⟨l5, its, nD, v5, oD5⟩
    have u5 : Un (frs X.stack) (s2.heap.objs.size :: fp) H2 (upd H5 s2.heap.objs.size (.lst ys)) h3 s5.heap := by
      have nD' : ∀ b u, H2 b = some u → b ≠ s2.heap.objs.size := fun b u e => ne_of_none e Dfresh
      exact ⟨hb5.keep, hb5.slot, fun b o e n hx => by rw [upd_ne (fun z => hx (by rw [z]; exact List.mem_cons_self))]; exact hb5.free b o e n hx, hb5.there, fun b xs e => by rw [upd_ne (nD' b _ e)]; exact hb5.tups b xs e, fun b o u e => by rw [upd_ne (nD' b _ e)]; exact hb5.frzs b o u e, fun b ps e => by rw [upd_ne (nD' b _ e)]; exact hb5.tbls b ps e⟩
    have os5 : s5.os = s2.os := by have z := I5.os; subst hX'; exact z
    have IX : Inv X pins σ (upd H5 s2.heap.objs.size (.lst ys)) s5 := Inv.call' (s := { s2 with heap := h3 }) I3 os5 u5 hok5 I5.bare fun b hb' => by
      obtain ⟨⟨z1, z2, z3, z4, z5, z6⟩, z7⟩ := exOf b hb'
      exact ⟨z4, z2, z5, z6⟩
    obtain ⟨m5, ns5, _⟩ := I5.loc
    rw [xe] at ns5
    refine hRR s2.heap.objs.size h3.objs.size s5 H5 ys D5 q5 IX ⟨m5, ns5⟩ (by rw [upd_ne (Ne.symm neDC)]; exact C5) fC.2.1 (Nat.le_trans I3.sz (Nat.le_refl _)) fC.2.2.2.2.1 fC.2.2.2.2.2
  obtain ⟨m0, w0⟩ := w0
  have loop : codeAny (model X.prog X.w) X.A (.compLoop (.ListComp elt [⟨tg, iter, ifs, 0⟩] scope pos) 0 (.ref it) (.ref s2.heap.objs.size) (compEnvC scope cl h3.objs.size X.env)) (RR (.ref s2.heap.objs.size) h3.objs.size) { s2 with heap := h4 } := by
    refine loop_anyE (E0 := X'.xe) (fun e s5 q => ?err) (fun n s5 => ∃ i ys its nD σ5 H5, Inv X' [] σ5 H5 s5 ∧ tn i s5.heap ∧ (∀ b ∈ s2.heap.objs.size :: fp, H5 b = none) ∧ s5.heap.get? s2.heap.objs.size = some { cls := .type "list", dict := none, data := .seq its.toArray nD } ∧ Vals ys its ∧ ys.length ≤ sizeLine ∧ W i n ys σ5 H5) ?_ m0
      ⟨0, [], [], 0, frame0 T idx σ, H2, I4, st4, fun b hb' => (exOf b hb').1.1, oD4, .nil, Nat.zero_le _, w0⟩
    case err =>
      have q' : ∃ (pq : List (Addr × Obj)) (σ : St) (H1 : Hp) (s1 : Shared) (K x : Addr) (H' : Hp), e = .ref x ∧ Inv (blk X scope cl (T ++ Fr) { s2 with heap := h3 } H2 h3.objs.size (s2.heap.objs.size :: fp) (X.pn ++ pins)) pq σ H1 s1 ∧ Flies X.prog X.w X.stack H1 s1 H' K x s5 ∧ E1 (.ref K) (some x) H' := by subst hX'; exact q
      obtain ⟨pins9, σ9, H9, s9, K9, x9, H9', rfl, I9, F9, hE9⟩ := q'
      have os9 : s9.os = s2.os := I9.os
      have IX : Inv X pins σ H9 s9 := Inv.call' (s := { s2 with heap := h3 }) I3 os9 I9.base I9.hok I9.bare fun b hb' => by
        obtain ⟨⟨z1, z2, z3, z4, z5, z6⟩, z7⟩ := exOf b hb'
        exact ⟨z4, z2, z5, z6⟩
      obtain ⟨m9, ns9, _⟩ := I9.loc
      have nst : h3.objs.size ∉ frs X.stack := fun z => by
        obtain ⟨_, o, ho, _⟩ := I3.stack.mem z
        exact absurd (Heap.lt_size ho) (Nat.lt_irrefl _)
      exact hErr s2.heap.objs.size h3.objs.size s9 s5 H9 H9' K9 x9 IX F9 hE9 ⟨m9, ns9⟩ I9.free fC.2.1 I3.sz nst
    rintro n s5 ⟨i, ys, its, nD, σ5, H5, I5, st5, n5, oD5, v5, l5, w5⟩
    have f5 := stat (pins' := []) (fun p hp => by cases hp) n5
    rcases turn i n ys σ5 H5 w5 with ⟨stop, q⟩ | ⟨go, ll, step⟩
    · have z := Tn.done X' xp xw xK xc i [] s5 σ5 H5 X'.xe I5 (fun b hb' => f5 b (List.mem_cons_of_mem _ hb')) st5 stop
      rw [xA] at z
      -- D is not touched by the end
      have z2 := Tn.done X' xp xw xK xc i [(s2.heap.objs.size, { cls := .type "list", dict := none, data := .seq its.toArray nD })] s5 σ5 H5 X'.xe (I5.pins_of fun p hp => by
        obtain rfl := List.mem_singleton.mp hp
        have fD5 := f5 _ List.mem_cons_self
        exact ⟨oD5, fD5.1, fD5.2.1, fD5.2.2.1, fun v z => nomatch z⟩) (fun b hb' => by
          obtain ⟨a1, a2, a3, a4, a5, a6⟩ := f5 b (List.mem_cons_of_mem _ hb')
          refine ⟨a1, a2, a3, a4, a5, fun p hp => ?_⟩
          rcases List.mem_append.mp hp with y | y
          · exact a6 p (List.mem_append_left _ y)
          · obtain rfl := List.mem_singleton.mp y
            intro e
            obtain ⟨o, ho, _⟩ := Tn.obj 0 _ st2 b hb'
            exact Nat.lt_irrefl _ (Nat.lt_of_lt_of_le (Heap.lt_size ho) (Nat.le_of_eq (show s2.heap.objs.size = b from e)))) st5 stop
      rw [xA] at z2
      refine thn z2 fun r s6 ⟨hr, I6⟩ => ?_
      subst hr
      have p6 := I6.pin _ (List.mem_append_right _ (List.mem_singleton.mpr rfl))
      exact fin s6 σ5 H5 ys its nD (I6.pins_of fun p hp => by cases hp) n5 p6.1 v5 l5 q
    · have fD5 := f5 _ List.mem_cons_self
      have I5p := I5.pins_of (pins' := [(s2.heap.objs.size, { cls := .type "list", dict := none, data := .seq its.toArray nD })]) fun p hp => by
        obtain rfl := List.mem_singleton.mp hp
        exact ⟨oD5, fD5.1, fD5.2.1, fD5.2.2.1, fun v z => nomatch z⟩
      have fpD : ∀ b ∈ fp, b ≠ s2.heap.objs.size := fun b hb' => by
        obtain ⟨o, ho, _⟩ := Tn.obj 0 _ st2 b hb'
        exact Nat.ne_of_lt (Heap.lt_size ho)
      have fpP : ∀ {H' : Hp}, (∀ b ∈ fp, H' b = none) → ∀ b ∈ fp, FpOk X' [(s2.heap.objs.size, { cls := .type "list", dict := none, data := .seq its.toArray nD })] H' b := by
        intro H' hn b hb'
        obtain ⟨a1, a2, a3, a4, a5, a6⟩ := f5 b (List.mem_cons_of_mem _ hb')
        refine ⟨hn b hb', a2, a3, a4, a5, fun p hp => ?_⟩
        rcases List.mem_append.mp hp with y | y
        · exact a6 p (List.mem_append_left _ y)
        · obtain rfl := List.mem_singleton.mp y
          exact Ne.symm (fpD b hb')
      have z := Tn.item X' xp xw xK xc i _ s5 σ5 H5 X'.xe I5p (fpP fun b hb' => n5 b (List.mem_cons_of_mem _ hb')) st5 go
      rw [xA] at z
      refine thn z fun r s6 ⟨u, hr, h6⟩ => ?_
      subst hr
      refine thn h6 fun _ s7 ⟨x, H7, I7, r7, y7, st7, n7⟩ => ?_
      have I7' := I7.pinned (fpP n7) (Tn.obj _ _ st7)
      have zG := hG _ s7 σ5 H7 x u _ I7' r7 (step x H7 y7)
      rw [xp, xw, xA, xe] at zG
      refine thn zG fun _ s8 ⟨σ8, H8, I8, q8⟩ => ?_
      have zT := hT _ s8 σ8 H8 _ I8 q8
      rw [xp, xw, xA, xe] at zT
      refine thn zT fun ok s9 ⟨H9, I9, q9⟩ => ?_
      -- what holds behind the turn
      have behind : ∀ {H' : Hp} {s' : Shared}, Inv X' ([(s2.heap.objs.size, { cls := .type "list", dict := none, data := .seq its.toArray nD })] ++ pinsAt fp s7.heap) σ8 H' s' → s'.heap.get? s2.heap.objs.size = some { cls := .type "list", dict := none, data := .seq its.toArray nD } ∧ tn (i + 1) s'.heap ∧ ∀ b ∈ s2.heap.objs.size :: fp, H' b = none := by
        intro H' s' I'
        have pD := I'.pin _ (List.mem_append_right _ (List.mem_append_left _ (List.mem_singleton.mpr rfl)))
        refine ⟨pD.1, Tn.keep _ _ _ st7 fun b hb' o e => (I'.pin (b, o) (List.mem_append_right _ (List.mem_append_right _ (mem_pinsAt hb' e)))).1, fun b hb' => ?_⟩
        rcases List.mem_cons.mp hb' with e | e
        · rw [e]; exact pD.2.1
        · obtain ⟨o, e', _⟩ := Tn.obj _ _ st7 b e
          exact (I'.pin (b, o) (List.mem_append_right _ (List.mem_append_right _ (mem_pinsAt e e')))).2.1
      cases ok with
      | false =>
        rw [if_neg Bool.false_ne_true] at q9 ⊢
        obtain ⟨m', hm, w'⟩ := q9
        obtain ⟨b1, b2, b3⟩ := behind I9
        exact ⟨m', hm, i + 1, ys, its, nD, σ8, H9, I9.pins_of (fun p hp => by cases hp), b2, b3, b1, v5, l5, w'⟩
      | true =>
        rw [if_pos rfl] at q9 ⊢
        have zE := hE _ s9 σ8 H9 _ I9 q9
        rw [xp, xw, xA, xe] at zE
        refine thn zE fun y s10 ⟨yv, H10, I10, r10, m', hm, w'⟩ => ?_
        obtain ⟨b1, b2, b3⟩ := behind I10
        have hlen := v5.length
        refine wpAny_list_append_plain (items := its.toArray) ⟨nD, b1⟩ (fun h11 pl11 sb11 => ?_) (by rw [List.size_toArray]; omega)
        obtain ⟨nD', o11⟩ := pl11
        have I10' : Inv X' [] σ8 H10 s10 := I10.pins_of fun p hp => by cases hp
        obtain ⟨a1, a2, a3, a4, a5, a6⟩ := stat (pins' := []) (fun p hp => by cases hp) b3 _ List.mem_cons_self
        have I11 : Inv X' [] σ8 H10 { s10 with heap := h11 } := I10'.turned (t' := s10.toks) (fun b o hb' e => (sb11.2 b hb').trans e) a1 a2 a4 a5 a6
        refine ⟨m', hm, i + 1, ys ++ [yv], its ++ [y], nD', σ8, H10, I11, Tn.keep _ _ _ b2 fun b hb' o e => (sb11.2 b (fpD b hb')).trans e, b3, by simpa using o11, v5.append (.cons r10 .nil), by rw [List.length_append, List.length_singleton]; omega, w'⟩
  exact codeAny_compStart_list loop (Tn.self _ 0 _ _ _ st4 loop)
def tCompS2E (X : Cx) (elt tg : Expr) (ifs : List Expr) (scope : Scope) (cl : List (Str × Addr)) (T Fr : List Str) (idx : List Nat) (wi : TI) (j : Nat) (E1 : XK) : TS := fun D σ H => wi σ H fun J H1 => ∀ s₀ H₀ C ex pn, ∃ (g : TG) (tt : TT) (te : TE), (PG (blkE X scope cl (T ++ Fr) s₀ H₀ C ex pn E1) tg g ∧ PTs (blkE X scope cl (T ++ Fr) s₀ H₀ C ex pn E1) ifs tt ∧ PE (blkE X scope cl (T ++ Fr) s₀ H₀ C ex pn E1) elt te) ∧ ∃ W : Nat → Nat → List V → St → Hp → Prop, (∃ m, W 0 m [] (frame0 T idx σ) H1) ∧ ∀ i m ys σ' H, W i m ys σ' H →
  (J.stop i H ∧ ∀ p, H p = none → D.nx (σ.set j (some (.ref p))) (upd H p (.lst ys))) ∨ (J.go i H ∧ ys.length < sizeLine ∧ ∀ x H', J.yld i H x H' → g x σ' H' fun σ2 H2 => tt σ2 H2 fun b H3 => if b = true then te σ2 H3 fun y H4 => ∃ m', m' < m ∧ W (i + 1) m' (ys ++ [y]) σ2 H4 else ∃ m', m' < m ∧ W (i + 1) m' ys σ2 H3)
end
theorem traced_but {h4 h5 B : Heap} {x C : Addr} {cls a0 fl : Value} {oC : Obj} (ht : h4.TracedAtW B x cls a0 fl) (hC : h4.get? C = some oC) (hd : ∀ vs, oC.data ≠ .fields vs) (sb : Heap.SameBut C h4 h5) : h5.TracedAtW B x cls a0 fl := by
  obtain ⟨oe, vs, T, oT, ts, he, hcls, hd1, h1, hnT, hTe, hT, hdT, h3⟩ := ht
  have n1 : x ≠ C := fun z => by rw [z, hC] at he; cases he; exact hd _ hd1
  have n2 : T ≠ C := fun z => by rw [z, hC] at hT; cases hT; exact hd _ hdT
  exact ⟨oe, vs, T, oT, ts, (sb.2 x n1).trans he, hcls, hd1, h1, hnT, hTe, (sb.2 T n2).trans hT, hdT, h3⟩
section
variable {P : Program} {w : World} {K : PySem.W.Frag} {mg : Str → Option Value} {base : Heap} {N : List Str} {qual : Str} {scope0 : Scope} {f : Addr} {cd : Value} {A : Around} {outer : List Env} {s₀ : Shared} {H₀ : Hp} {E : XK}
theorem err_out {scope : Scope} {cl : List (Str × Addr)} {pins : List (Addr × Obj)} {σ : St} {use : Option (Value → Sem Unit)} {Q : Value → Shared → Prop} {X : Cx} (hX : X = cxOf (CX1 P w) P w K mg base N qual scope0 f cd A outer s₀ H₀ E) :
    ∀ (D C : Addr) (s1 s' : Shared) (H1 H' : Hp) (K x : Addr), Inv X pins σ H1 s1 → Flies X.prog X.w X.stack H1 s1 H' K x s' → E (.ref K) (some x) H' → (∃ m, s1.heap.Ns C m) → H1 C = none → C ≠ X.env.locals → X.s₀.heap.objs.size ≤ C → C ∉ frs X.stack →
      notedBy (model X.prog X.w) X.A (compEnvC scope cl C X.env) (fun e s'' => compPost (model X.prog X.w) X.A X.xe use Q (.ref D) C (.error e) s'') (.ref x) s' := by
  intro D C s1 s' H1 H' K x I F hE ⟨m, ns⟩ hC c1 c2 c3
  have hst : X.stack = X.env :: X.outer := by rw [hX]; rfl
  have hex : X.ex = [] := by rw [hX]; rfl
  have nf := F.nfr I.frn
  obtain ⟨d, dk, gd⟩ := F.dct
  obtain ⟨B, a0, fl, cov⟩ := F.fly
  have nx : ∀ b : Addr, b ∉ ([] : List Addr) := fun b z => by cases z
  obtain ⟨oC, esC, epC, hoC, hdC, rC⟩ := ns
  have nfd : ∀ vs, oC.data ≠ .fields vs := fun vs z => by rw [hdC] at z; cases z
  have hoC2 : s'.heap.get? C = some oC := F.un.keep C oC hoC hC c3 (nx C)
  have kn : H' C = none := F.un.free C oC hoC hC (nx C)
  have frm : X.A.frames = some (X.env :: X.outer) := by rw [← hst]; exact I.ok.frames
  have fre : X.env.frame = some X.env.locals := stack_frame I hst
  have hide : (PySem.W.hideAll B [C]).StaysIn B := fun b o z => PySem.W.of_hideAll _ z
  have hC0 : (PySem.W.hideAll B [C]).get? C = none := PySem.W.hideAll_none _ List.mem_cons_self
  have fl0 : Heap.FlyingW (PySem.W.hideAll B [C]) (X.env :: X.outer) x (.ref K) a0 s'.heap := by rw [← hst]; exact PySem.W.flyingW_base hide fl
  show wpAny _ _ (noteFrame (.ref x) X.env) _ _ _
  refine looks_d frm fre fl0 dk fun h4 ⟨x1, x2, x3, x4⟩ up4 dk4 => ?_
  obtain ⟨sl4, hC4⟩ := up4 C oC hoC2 nfd
  refine ⟨m, ⟨_, esC, epC, hC4, hdC, rC⟩, fun h5 sb cenv _ => ?_⟩
  have nC4 : ∀ vs, ({ oC with slots := sl4 } : Obj).data ≠ .fields vs := nfd
  have xC : x ≠ C := fun z => by
    obtain ⟨oe, vs, _, _, _, he, _, hd1, _⟩ := x4
    rw [z, hC4] at he; cases he; exact nfd _ hd1
  have y1 : (PySem.W.hideAll B [C]).StaysIn h5 := fun b o z => (sb.2 b fun e => by rw [e, hC0] at z; cases z).trans (x1 b o z)
  have y3 : h5.FunFrames (PySem.W.hideAll B [C]) (X.env :: X.outer) := by
    have : ∀ b o, h4.get? b = some o → b ≠ C → ∃ o', h5.get? b = some o' ∧ o'.data = o.data := fun b o z n => ⟨o, (sb.2 b n).trans z, rfl⟩
    have aux : ∀ l : List Env, (∀ b ∈ frs l, b ≠ C) → h4.FunFrames (PySem.W.hideAll B [C]) l → h5.FunFrames (PySem.W.hideAll B [C]) l := by
      intro l
      induction l with
      | nil => intro _ _; trivial
      | cons env r ih =>
        intro hn hl
        obtain ⟨k1, ⟨L, o, e1, e2, e3, e4⟩, k3⟩ := hl
        have nl : L ≠ C := hn L (List.mem_filterMap.mpr ⟨env, List.mem_cons_self, e1⟩)
        refine ⟨k1, ⟨L, o, e1, e2, (sb.2 L nl).trans e3, e4⟩, ih (fun b hb => hn b ?_) k3⟩
        obtain ⟨en, h1, h2⟩ := List.mem_filterMap.mp hb
        exact List.mem_filterMap.mpr ⟨en, List.mem_cons_of_mem _ h1, h2⟩
    refine aux _ (fun b hb z => c3 ?_) x3
    rw [hst, ← z]; exact hb
  have dk5 : DK x d h5 := let ⟨o, e1, e2⟩ := dk4; ⟨o, (sb.2 x xC).trans e1, e2⟩
  refine pass_any (s := { s' with heap := h5 }) y1 y3 (traced_but x4 hC4 nC4 sb) dk5 fun h6 fl6 z1 z2 z3 z4 z5 => ?_
  subst hX
  refine wpAny_mono (leave_any (s := { s' with heap := h6 }) (Q := fun _ s'' => CX1 P w outer H₀ s₀ E (.ref x) s'') frm fre z1 x2 z2 z3 z5 fun h7 fl7 up7 dk7 => ?_) (fun _ _ z => z) fun _ _ z => z
  refine ⟨K, x, H', rfl, fly_mkC (s2 := s') (K := C) (B := PySem.W.hideAll B [C]) I hst hex F.os F.bare F.un F.hok kn c2 (fun b o e1 e2 e3 nk => PySem.W.hideAll_get _ (cov b o e1 e2 e3) fun z => nk (List.mem_singleton.mp z)) nf (fun b o nk e1 e2 => ?_) fl7 ⟨d, dk7, gd⟩, hE⟩
  obtain ⟨sl1, q1⟩ := up4 b o e1 e2
  obtain ⟨sl2, q2⟩ := z4 b _ ((sb.2 b nk).trans q1) e2
  obtain ⟨sl3, q3⟩ := up7 b _ q2 e2
  exact ⟨sl3, q3⟩
theorem ps_comp2E {X : Cx} (hX : X = cxOf (CX1 P w) P w K mg base N qual scope0 f cd A outer s₀ H₀ E) {elt iter tg : Expr} {scope : Scope} {cl : List (Str × Addr)} {T Fr : List Str} {idx : List Nat} {wi : TI} {pos : Pos} {ifs : List Expr} {j : Nat} {y : Str} {py spos : Pos} (hN : X.N.Nodup) (hj : X.N[j]? = some y) (hy : X.env.scope.names.lookup y = some .local) (hsw : swapsWith (.ListComp elt [⟨tg, iter, ifs, 0⟩] scope pos) (some (.Name y py)) spos.line X.env = pure true)
    (hcm : X.calm = true) (hi : PI X tg iter wi) (B : BScope X scope cl T Fr idx) 
    (hs : ∀ x, foldedSetIterable iter X.env x = pure x := by intro _; rfl) : PS X (.Assign [.Name y py] (.ListComp elt [⟨tg, iter, ifs, 0⟩] scope pos) spos) (tCompS2E X elt tg ifs scope cl T Fr idx wi j E) := by
  intro pins s σ H D I h
  rw [exec_Assign_Name_used _ _ _ _ hsw]
  refine wpAny_bind (wpAny_standAt (wpAny_bind ?_))
  show wpAny _ X.A (do let _ ← comprehension (.ListComp elt [⟨tg, iter, ifs, 0⟩] scope pos) scope X.env _ (newList []) false (eval iter X.env) (some (assign (.Name y py) X.env))) _ _ s
  refine wpAny_bind (thn (wpAny_comprehension_free (use := some (assign (.Name y py) X.env)) (Q := fun _ s' => SP X pins D .next s') rfl hs B.clos B.kind B.names (thn (hi pins s σ H _ I h) fun v s1 h1 => thn h1 fun itv s2 h2 => ?_)) fun _ s' hq => wpAny_pure (wpAny_pure hq))
  obtain ⟨it, fp, tn, J, H2, e, I2, Tn, st2, f2, hb⟩ := h2
  subst e
  refine comp_block2E (E1 := E) (RR := fun acc C => compPost (model X.prog X.w) X.A X.xe (some (assign (.Name y py) X.env)) (fun _ s' => SP X pins D .next s') acc C) (P := fun ys H => ∀ p, H p = none → D.nx (σ.set j (some (.ref p))) (upd H p (.lst ys))) hcm B I2 Tn st2 f2 hb ?_ (err_out hX)
  intro Dd C s' H' ys hD q IX ⟨m, ns⟩ hC c1 c2 c3 c4
  show wpAny _ X.A (assign (.Name y py) X.env (.ref Dd)) _ _ _
  refine wpAny_assign_Name (store_ok2 IX hN hj (.inl hy) (v := .ref Dd) rfl (fun s3 I3 ⟨a, sb3, ha⟩ => ?_) (.inr hy))
  have hCa : C ≠ a := by
    rcases ha with z | z
    · rw [z]; exact c1
    · exact Ne.symm (c3 _ _ z)
  exact ⟨m, ns.sameBut sb3 hCa, fun h' sb => ⟨_, _, I3.turned (t' := s3.toks) (fun b o hb' e => (sb.2 b hb').trans e) hC c1 (.inr c2) c3 c4, q Dd hD⟩⟩
end
end L2
namespace WL
variable [L2.GX]
open PySem L2
open Rep (rp)
open Ow (sl)
open Sls (rel)
section
variable {X : Cx} {E : XK} {T : Addr} {ms mb is : List Nat} {n k : Nat} {D B S B0 Db D1 PO τ α γ : Type} [Sls D] [Sls B] [Sls S] [Sls B0] [Sls Db] [Sls D1] [Sls PO] [Ow τ] [Rep α] [Rep γ] {pos : Pos} {tg iter elt : Expr} {ifs : List Expr} {scope : Scope} {cl : List (Str × Addr)} {Ts Fr : List Str} {idx : List Nat}
abbrev stepCE (P : Pre k S Db) (Gf : Fg D1 Db) (g : Db → α → D1) (wt : D1 → (Bool → D1 → Prop) → (Addr → D1 → Prop) → Prop) (we : D1 → (γ → D1 → Prop) → (Addr → D1 → Prop) → Prop) (Ke : Addr → S → Prop) : α → S → (Option γ → S → Prop) → Prop :=
  fun x s K => wt (g (P.pre s) x) (fun t d1 => if t = true then we d1 (fun y d2 => K (some y) (P.suf (Gf.fg d2))) (fun C d2 => Ke C (P.suf (Gf.fg d2))) else K none (P.suf (Gf.fg d1))) fun _ _ => False
theorem comp_coreE [P : Pre k S Db] [Gf : Fg D1 Db] {g : Db → α → D1} {wt : D1 → (Bool → D1 → Prop) → (Addr → D1 → Prop) → Prop} {we : D1 → (γ → D1 → Prop) → (Addr → D1 → Prop) → Prop} {J : It} {Ps : Rg → Hp → Prop} {xs : List α} {F1 Fs R' : Rg} {H' : Hp} {σ : St} {s0 : S} {K : List γ → S → Prop} {End : List V → Hp → Prop} {Ke' : Addr → S → Prop}
    (hk : Ts.length = k) (hmb : ∀ i, k ≤ i → i < k + idx.length → i ∈ mb)
    (hG : ∀ s₀ H₀ C ex pn, GW (blkE X scope cl (Ts ++ Fr) s₀ H₀ C ex pn E) T mb tg g) (hT : ∀ s₀ H₀ C ex pn, TWs (blkE X scope cl (Ts ++ Fr) s₀ H₀ C ex pn E) T ifs wt) (hE : ∀ s₀ H₀ C ex pn, EW (blkE X scope cl (Ts ++ Fr) s₀ H₀ C ex pn E) E T elt we)
    (hz : xs.length ≤ sizeLine) (ip : ItP J xs Ps) (ps : Ps R' H') (pk : ∀ {G Ra Rb : Rg} {Ha Hb : Hp}, Ps Ra Ha → (∀ a, G a → Ra a) → (∀ a, F1 a → ¬G a) → Ext G Ra Ha Rb Hb → Ps Rb Hb)
    (s' : Std T Fs R' H') (nF1 : ∀ a, F1 a → R' a ∧ ¬Fs a ∧ a ≠ T) (hs0 : rel Fs R' H' s0 (idx.map fun i => σ[i]?.join)) (hw : wComp (stepCE P Gf g wt we Ke') xs s0 K)
    (fin : ∀ zs s1 Gs R1 H1 ys, K zs s1 → Ch T Fs R' H' Gs R1 H1 → Std T Gs R1 H1 → rel Gs R1 H1 s1 (idx.map fun i => σ[i]?.join) → Ps R1 H1 → Paired (rp R1 H1) zs ys → End ys H1)
    (finE : ∀ C y s1 Gs R1 H1, Ke' C s1 → Ch T Fs R' H' Gs R1 H1 → Std T Gs R1 H1 → rel Gs R1 H1 s1 (idx.map fun i => σ[i]?.join) → Ps R1 H1 → E (.ref C) (some y) H1) :
    ∀ s₀ H₀ C ex pn, ∃ (g : TG) (tt : TT) (te : TE), (PG (blkE X scope cl (Ts ++ Fr) s₀ H₀ C ex pn E) tg g ∧ PTs (blkE X scope cl (Ts ++ Fr) s₀ H₀ C ex pn E) ifs tt ∧ PE (blkE X scope cl (Ts ++ Fr) s₀ H₀ C ex pn E) elt te) ∧ ∃ W : Nat → Nat → List V → St → Hp → Prop, (∃ m, W 0 m [] (frame0 Ts idx σ) H') ∧ ∀ i m ys σ' H, W i m ys σ' H →
      (J.stop i H ∧ End ys H) ∨ (J.go i H ∧ ys.length < sizeLine ∧ ∀ x H', J.yld i H x H' → g x σ' H' fun σ2 H2 => tt σ2 H2 fun b H3 => if b = true then te σ2 H3 fun y H4 => ∃ m', m' < m ∧ W (i + 1) m' (ys ++ [y]) σ2 H4 else ∃ m', m' < m ∧ W (i + 1) m' ys σ2 H3) := by
  intro s₀ H₀ C ex pn
  obtain ⟨tg', g1, g2⟩ := hG s₀ H₀ C ex pn
  obtain ⟨tt, t1, t2⟩ := hT s₀ H₀ C ex pn
  obtain ⟨te, e1, e2⟩ := hE s₀ H₀ C ex pn
  have lenf : (frame0 Ts idx σ).length = k + idx.length := by unfold frame0; rw [List.length_append, List.length_map, List.length_map, hk]
  have dropf : ∀ {σ1 : St}, Ag mb (frame0 Ts idx σ) σ1 → σ1.drop k = idx.map fun i => σ[i]?.join := fun {σ1} a => by
    apply List.ext_getElem?
    intro j
    rw [List.getElem?_drop]
    by_cases hj : j < idx.length
    · rw [a.2 (k + j) (hmb _ (by omega) (by omega))]
      unfold frame0
      rw [List.getElem?_append_right (by rw [List.length_map, hk]; omega), List.length_map, hk, Nat.add_sub_cancel_left]
    · rw [List.getElem?_eq_none (by have := a.1; omega), List.getElem?_eq_none (by rw [List.length_map]; omega)]
  refine ⟨tg', tt, te, ⟨g1, t1, e1⟩, fun i m ys σ1 H1 => m = xs.length - i ∧ i ≤ xs.length ∧ ∃ s1 Gs R1 zs, Ch T Fs R' H' Gs R1 H1 ∧ Std T Gs R1 H1 ∧ rel Gs R1 H1 (P.pre s1) σ1 ∧ Ps R1 H1 ∧ Ag mb (frame0 Ts idx σ) σ1 ∧ Paired (rp R1 H1) zs ys ∧ zs.length ≤ i ∧ wComp (stepCE P Gf g wt we Ke') (xs.drop i) s1 (fun ws s' => K (zs ++ ws) s'),
    ⟨_, rfl, Nat.zero_le _, s0, Fs, R', [], Ch.refl _ _ _ _, s', P.ok _ (by rw [List.length_map, hk]) hs0, ps, Ag.refl _ _, .nil, Nat.zero_le _, by simpa using hw⟩, ?_⟩
  rintro i m ys σ1 H1 ⟨rfl, hi, s1, Gs, R1, zs, c1, st1, r1, p1, a1, pz, lz, w1⟩
  have lz' := Paired.length pz
  by_cases hlt : i < xs.length
  · refine .inr ⟨ip.go p1 hlt, by omega, fun x H2 y => ?_⟩
    obtain ⟨hH, x', ex', rx⟩ := ip.yld p1 st1.liv hlt y
    have nG1 : ∀ {G R1 : Rg} {H1 : Hp}, Ch T Fs R' H' G R1 H1 → ∀ a, F1 a → R1 a ∧ ¬G a := fun c a h => ⟨c.left a (nF1 a h).1 (nF1 a h).2.1, fun z => (c.newF a z).elim (nF1 a h).2.1 fun q => s'.liv a (nF1 a h).1 q⟩
    have st2 : Ch T Gs R1 H1 Gs R1 H2 ∧ Std T Gs R1 H2 ∧ rel Gs R1 H2 (P.pre s1) σ1 ∧ Ps R1 H2 ∧ Paired (rp R1 H2) zs ys := by
      rcases hH with e | ⟨p, o, hp, e⟩
      · subst e; exact ⟨Ch.refl _ _ _ _, st1, r1, p1, pz⟩
      · subst e
        have kk : ∀ b u, H1 b = some u → upd H1 p o b = some u := fun b u e => by rw [upd_ne (ne_of_none e hp)]; exact e
        have ex : Ext (fun _ => False) R1 H1 R1 (upd H1 p o) := ⟨fun b u _ e => kk b u e, fun a h => .inl h⟩
        refine ⟨⟨fun b u _ _ e => kk b u e, fun a h => .inl h, fun a h => .inl h, fun a h _ => h⟩, ⟨st1.sub, fun a z => ?_, ?_, st1.tabR, st1.tabF⟩, Sls.st r1 ex (fun _ z => z.elim) (fun _ _ z => z), pk p1 (fun _ z => z.elim) (fun _ _ z => z) ex, paired_st (ex.wide fun _ z => z.elim) pz⟩
        · cases e : H1 a with
          | none => exact absurd e (st1.liv a z)
          | some u => rw [kk a u e]; simp
        · obtain ⟨qs, e, t⟩ := st1.tab
          exact ⟨qs, kk _ _ e, t⟩
    obtain ⟨c2, S2, r2, p2, pz2⟩ := st2
    have c12 := Ch.trans' s' st1.tab c1 c2
    rw [drop_cons ex'] at w1
    refine g2 (P.pre s1) Gs R1 σ1 H2 x' x _ (S2.stt r2) rx fun F3 σ2 f3 S3 a3 => ?_
    have c3 : Ch T Fs R' H' F3 R1 H2 := c12.less f3
    -- how the block goes on behind an item
    have on : ∀ {d2 : D1} {F5 R5 : Rg} {H5 : Hp} {o : Option γ} {ys' : List V}, wComp (stepCE P Gf g wt we Ke') (xs.drop (i + 1)) (P.suf (Gf.fg d2)) (fun ws s' => K (zs ++ (o.toList ++ ws)) s') → Ch T F3 R1 H2 F5 R5 H5 → Stt T F5 R5 H5 d2 σ2 → Paired (rp R5 H5) (zs ++ o.toList) ys' → (zs ++ o.toList).length ≤ i + 1 →
        ∃ m', m' < xs.length - i ∧ m' = xs.length - (i + 1) ∧ i + 1 ≤ xs.length ∧ ∃ s1 Gs R1 zs, Ch T Fs R' H' Gs R1 H5 ∧ Std T Gs R1 H5 ∧ rel Gs R1 H5 (P.pre s1) σ2 ∧ Ps R1 H5 ∧ Ag mb (frame0 Ts idx σ) σ2 ∧ Paired (rp R1 H5) zs ys' ∧ zs.length ≤ i + 1 ∧ wComp (stepCE P Gf g wt we Ke') (xs.drop (i + 1)) s1 (fun ws s' => K (zs ++ ws) s') := fun {d2 F5 R5 H5 o ys'} hw c5 S5 pz5 lz5 => by
      obtain ⟨F6, f6, r6⟩ := Gf.le S5.rel
      have c35 := Ch.trans' s' S2.tab c3 c5
      refine ⟨xs.length - (i + 1), by omega, rfl, hlt, P.suf (Gf.fg d2), F6, R5, zs ++ o.toList, c35.less f6, ⟨fun a h => S5.sub a (f6 a h), S5.liv, S5.tab, S5.tabR, fun h => S5.tabF (f6 T h)⟩, by rw [P.eta]; exact r6, ?_, a1.trans a3, pz5, lz5, ?_⟩
      · refine pk p2 (G := fun a => F3 a ∨ a = T) (fun a h => h.elim (S3.sub a) fun z => by rw [z]; exact S2.tabR) (fun a h z => ?_) c5.ext
        rcases z with z | z
        · exact (nG1 c3 a h).2 z
        · exact (nF1 a h).2.2 z
      · simp only [List.append_assoc]
        exact hw
    refine t2 _ F3 R1 σ2 H2 _ _ S3 w1 fun b d1 F4 R4 H4 q4 c4 S4 => ?_
    cases b with
    | false =>
      rw [if_neg Bool.false_ne_true]
      exact on (o := none) q4 c4 S4 (by simpa using S3.vals c4 pz2) (by simp; omega)
    | true =>
      rw [if_pos rfl]
      refine e2 _ F4 R4 σ2 H4 _ _ _ S4 q4 (fun y d2 v F5 R5 H5 q5 c5 S5 r5 => ?_) fun C y d2 F5 R5 H5 q5 c5 S5 => ?_
      case refine_2 =>
        have c45 := Ch.trans S3 S4.tab c4 c5
        obtain ⟨F6, f6, r6⟩ := Gf.le S5.rel
        have c35 := Ch.trans' s' S2.tab c3 c45
        have a13 := a1.trans a3
        have r7 : rel F6 R5 H5 (P.pre (P.suf (Gf.fg d2))) σ2 := by rw [P.eta]; exact r6
        have r8 := P.un r7
        rw [dropf a13, P.eta2] at r8
        refine finE C y _ F6 R5 H5 q5 (c35.less f6) ⟨fun a h => S5.sub a (f6 a h), S5.liv, S5.tab, S5.tabR, fun h => S5.tabF (f6 T h)⟩ r8 ?_
        refine pk p2 (G := fun a => F3 a ∨ a = T) (fun a h => h.elim (S3.sub a) fun z => by rw [z]; exact S2.tabR) (fun a h z => ?_) c45.ext
        rcases z with z | z
        · exact (nG1 c3 a h).2 z
        · exact (nF1 a h).2.2 z
      have c45 := Ch.trans S3 S4.tab c4 c5
      exact on (o := some y) q5 c45 S5 (paired_append (S3.vals c45 pz2) (.cons r5 .nil)) (by simp; omega)
  · have e : i = xs.length := by omega
    subst e
    rw [List.drop_length] at w1
    have w1' : K (zs ++ []) s1 := w1
    rw [List.append_nil] at w1'
    have r1' := P.un r1
    rw [dropf a1, P.eta2] at r1'
    refine .inl ⟨ip.stop p1, fin zs s1 Gs R1 H1 ys w1' c1 st1 r1' p1 pz⟩
theorem s1_compE {P0 : Program} {w0 : World} {K0 : PySem.W.Frag} {mg0 : Str → Option Value} {base0 : Heap} {N0 : List Str} {qual0 : Str} {scope0 : Scope} {f0 : Addr} {cd0 : Value} {A0 : Around} {outer0 : List Env} {s0 : Shared} {H0 : Hp} (hX : X = cxOf (CX1 P0 w0) P0 w0 K0 mg0 base0 N0 qual0 scope0 f0 cd0 A0 outer0 s0 H0 E) [P : Pre k S Db] [Gf : Fg D1 Db] [Se : Sel idx B S B0] (j : Nat) {τ0 D0 D2 : Type} [Ow τ0] [Sls D0] [Sls D2] [A : At j D τ0 D0] [U : Pt j D0 (OL γ) D2] [Jp : Pj D PO n] {y : Str} {py spos : Pos} {back : B → List α → D} {wi : D → (List α → B → Prop) → (Addr → D → Prop) → Prop} {g : Db → α → D1} {wt : D1 → (Bool → D1 → Prop) → (Addr → D1 → Prop) → Prop} {we : D1 → (γ → D1 → Prop) → (Addr → D1 → Prop) → Prop}
    (hN : X.N.Nodup) (hj : X.N[j]? = some y) (hy : X.env.scope.names.lookup y = some .local) (hsw : swapsWith (.ListComp elt [⟨tg, iter, ifs, 0⟩] scope pos) (some (.Name y py)) spos.line X.env = pure true) (hm : j ∉ ms)
    (hcm : X.calm = true) (hi : IW X E T is tg iter back wi) (Bs : BScope X scope cl Ts Fr idx) (hk : Ts.length = k) (hmb : ∀ i, k ≤ i → i < k + idx.length → i ∈ mb)
    (hG : ∀ s₀ H₀ C ex pn, GW (blkE X scope cl (Ts ++ Fr) s₀ H₀ C ex pn E) T mb tg g) (hT : ∀ s₀ H₀ C ex pn, TWs (blkE X scope cl (Ts ++ Fr) s₀ H₀ C ex pn E) T ifs wt) (hE : ∀ s₀ H₀ C ex pn, EW (blkE X scope cl (Ts ++ Fr) s₀ H₀ C ex pn E) E T elt we)
    (hs : ∀ x, foldedSetIterable iter X.env x = pure x := by intro _; rfl) :
    S1 X E T ms n (.Assign [.Name y py] (.ListComp elt [⟨tg, iter, ifs, 0⟩] scope pos) spos) (fun (d : D) (Kn : D2 → Prop) (Kr : τ → PO → Prop) Ke => wi d (fun xs b => xs.length ≤ sizeLine ∧ wComp (stepCE P Gf g wt we fun C s1 => Ke C (Jp.pj (back (Se.mrg (Se.rest b) s1) xs))) xs (Se.sel b) fun ys s1 => Kn (U.put (A.hole (back (Se.mrg (Se.rest b) s1) xs)) ⟨ys⟩)) fun C d' => Ke C (Jp.pj d')) := by
  obtain ⟨ti, i1, i2⟩ := hi
  refine ⟨_, ps_comp2E hX hN hj hy hsw hcm i1 Bs hs, fun d F R σ H Kn Kr Ke En s hw kn kr ke => ?_⟩
  refine i2 d F R σ H _ _ _ s hw (fun xs b Jt Ps F' F1 F2 R' H' q c s' tw hr ip ps pk pb => ?_) fun C y d' F' R' H' q c s' => ?_
  · obtain ⟨Fs, S0, n0, r0, on⟩ := comp_split (idx := idx) (Se := Se) s' tw hr pb
    refine comp_coreE hk hmb hG hT hE q.1 ip ps pk S0 n0 r0 q.2 (fun zs s1 Gs R1 H1 ys kz c1 S1 r1 p1 pz p hp => ?_) fun C y s1 Gs R1 H1 kz c1 S1 r1 p1 => ?_
    case refine_2 =>
      obtain ⟨G, c2, S2⟩ := on c1 S1 r1 p1
      obtain ⟨G', g1, g2⟩ := stt_pj (PO := PO) S2
      exact ke C y _ G' R1 H1 kz ((Ch.trans s s'.tab c c2).less g1) g2
    obtain ⟨G, c2, S2⟩ := on c1 S1 r1 p1
    obtain ⟨R2, c3, S3, n3⟩ := ol_new S2 hp pz
    obtain ⟨G2, g2, S4⟩ := put_t (i := j) S3 n3
    exact kn _ G2 R2 _ _ kz ((Ch.trans s S2.tab (Ch.trans s s'.tab c c2) c3).less g2) S4 (Ag.set hm)
  · obtain ⟨G, g1, g2⟩ := stt_pj (PO := PO) s'
    exact ke C y _ G R' H' q (c.less g1) g2
end
end WL
set_option maxHeartbeats 4000000
namespace K7
variable [L2.GX]
open PySem L2 WL
open WL.Rep (rp)
open WL.Ow (sl)
open WL.Sls (rel)
local macro_rules | `(tactic| walk_at "wl") => `(tactic| dsimp only [At.get, At.hole, Pt.put, Ent.ent, Pj.pj, Fg.fg, Sel.sel, Sel.rest, Sel.mrg, Pre.pre, Pre.suf, at0, atS, pt0, ptS, ent0, entS, entC, pjNil, pjUn, pjCons, fgId, fgUn, fgCons, selNil, selCons, pre0, preS, stepC, id])
def top (i : Nat) : Stmt := PySem.Challenge.pw_slimbody_k58_sums_written_and_read.main.body.getD i (.Pass ⟨0, 0, 0, 0⟩)
abbrev s_is_sum : Stmt := top 5
abbrev s_must : Stmt := top 6
def w_is_sumL : List Int × Unit → (Bool → Un × Unit → Prop) → (Addr → Un × Unit → Prop) → Prop := fun p Kn _ => Kn (asc p.1) (⟨⟩, ())
def w_mustL (C : Addr) : List Int × Unit → (Unit → Un × Unit → Prop) → (Addr → Un × Unit → Prop) → Prop := fun p Kn Ke => (asc p.1 = true → Kn () (⟨⟩, ())) ∧ (asc p.1 = false → Ke C (⟨⟩, ()))
section
variable {P : Program} {w : World} {K : PySem.W.Frag} {mg : Str → Option Value} {base : Heap} {T : Addr}
theorem sc_is_sum : FnScope ["row"] ["row"] (defScope s_is_sum) := ⟨rfl, rfl, rfl, by decide +kernel, rfl, by decide +kernel, by decide +kernel⟩
theorem ok_is_sumL {f c : Addr} {fd : FuncData} (F : Fun K "is_sum" "is_sum" s_is_sum f fd) (hc : fd.code = .ref c) (B : BaseT mg base c T) (hall : mg "all" = none) (hzip : mg "zip" = none) : FnOk P w K mg base (CX1 P w) 1 f fd ["row"] (spW T w_is_sumL) := by
  refine' fn_nice (fn_wC (A := List Int × Unit) (PO := Un × Unit) (τ := Bool) (D' := Unit) (ms := []) (j := 0) F sc_is_sum rfl rfl fun A outer s H E hr => ?body) ?nice
  case body =>
    exact sw_one (s1_ret (eo_rep (ew_lessL (ew_var 0 (pv 0)) (ew_o (eo_slice (er_w (ew_var 0 (pv 0))) (ow_some ew_int) ow_none)) (fun h => pe_lessG zipL (c := c) (P := T) rfl ⟨hc, B.hd, B.blt⟩ hr.depth rfl hall rfl hzip h rfl rfl rfl (by decide +kernel) rfl rfl rfl (by decide +kernel) (by decide +kernel) (by decide +kernel)))))
  case nice =>
    intro p Kn Ke h
    walk_at "wl"
    rw [cut1]
    exact h
theorem sc_must : FnScope ["row"] ["row"] (defScope s_must) := ⟨rfl, rfl, rfl, by decide +kernel, rfl, by decide +kernel, by decide +kernel⟩
theorem must_nice {b : Bool} {p q : Prop} (h : (b = true → p) ∧ (b = false → q)) : if (!b) = true then q else p := by
  cases b
  · exact h.2 rfl
  · exact h.1 rfl
theorem ok_mustL {f C f1 : Addr} {fd fd1 : FuncData} {bmB : List Value} {B newId initId : String} (F : Fun K "must_be_sum" "must_be_sum" s_must f fd) (F1 : Fn K mg "is_sum" s_is_sum ["row"] f1 fd1) (G1 : FnOk P w K mg base (CX1 P w) 1 f1 fd1 ["row"] (spW T w_is_sumL))
    (hC : mg "NotASum" = some (.ref C)) (O : PySem.W.excIn K C bmB newId = true) (FB : ExcBaseFacts B newId initId bmB) (g0 : ∀ H', GX.g C none H') : FnOk P w K mg base (CX1 P w) 2 f fd ["row"] (spW T (w_mustL C)) := by
  refine' fn_nice (fn_wN (dep_of (by decide)) (A := List Int × Unit) (PO := Un × Unit) (D' := List Int × Unit) (ms := []) (j := 0) F sc_must rfl rfl fun cdv A outer s H E hr => ?body) ?nice
  case body =>
    exact sw_one (s1_if (tw_not (tw_val (ew_rep (eo_call2 G1 hr rfl F1.at_ F1.fn.kp F1.bd pass1 (al2_im (ew_var 0 (pv 0)) al2_nil))))) (sw_one (s1_raise (ps_raise rfl hC O FB g0 (pa_cons pe_str pa_nil)))) sw_nil)
  case nice =>
    intro p Kn Ke h
    walk_at "wl"
    exact must_nice h
end
end K7
set_option maxHeartbeats 4000000
namespace K7
variable [L2.GX]
open PySem L2 WL
open WL.Rep (rp)
open WL.Ow (sl)
open WL.Sls (rel)
local macro_rules | `(tactic| walk_at "wl") => `(tactic| dsimp only [At.get, At.hole, Pt.put, Ent.ent, Pj.pj, Fg.fg, Sel.sel, Sel.rest, Sel.mrg, Pre.pre, Pre.suf, at0, atS, pt0, ptS, ent0, entS, entC, pjNil, pjUn, pjCons, fgId, fgUn, fgCons, selNil, selCons, pre0, preS, stepC, stepCE, id, ID.get, ID.set, wSq])
local macro_rules | `(tactic| walk_at "sc") => `(tactic| exact ⟨rfl, rfl, rfl, by decide +kernel, rfl, by decide +kernel, by decide +kernel⟩)
abbrev s_pull : Stmt := top 13
abbrev w_pull := wPull
def plus : Str := ⟨#[43]⟩
def good (z : Str) : Bool := Txt.isascii z && Txt.isdigit z && decide (z.length ≤ 9) && !(decide (z.cps.toList.head? = some 48) && !decide (z = ("0" : Str)))
def rdN (z : Str) : Option Int := if good z = true then PySem.intText? z else none
def rdL : List Str → Option (List Int)
  | [] => some []
  | z :: r => match rdN z with
    | none => none
    | some n => (rdL r).map (n :: ·)
def rdS (z : Str) : Option (List Int) := if z = ("-" : Str) then some [] else match rdL (Txt.split z plus) with
  | none => none
  | some l => if asc l = true then some l else none
def num (x : Int) : Str := (toString x : String)
def shw (l : List Int) : Str := if l = [] then ("-" : Str) else Txt.join plus (l.map num)
def Few (l : List Int) : Prop := l.length ≤ 100 ∧ ∀ x ∈ l, 0 ≤ x ∧ x < 1000000000
def w_shown_sum : List Int × Unit → (Str → WL.Un × Unit → Prop) → (Addr → WL.Un × Unit → Prop) → Prop := fun p Kn _ => (Few p.1 ∧ asc p.1 = true) ∧ Kn (shw p.1) (⟨⟩, ())
def w_read_number (XB : Addr) : Str × Unit → (Int → WL.Un × Unit → Prop) → (Addr → WL.Un × Unit → Prop) → Prop := fun p Kn Ke => p.1.length ≤ 100000 ∧ match rdN p.1 with
  | some n => Kn n (⟨⟩, ())
  | none => Ke XB (⟨⟩, ())
def w_read_sum (XB : Addr) : Str × Unit → (OL Int → WL.Un × Unit → Prop) → (Addr → WL.Un × Unit → Prop) → Prop := fun p Kn Ke => p.1.length ≤ 100000 ∧ match rdS p.1 with
  | some l => Kn ⟨l⟩ (⟨⟩, ())
  | none => Ke XB (⟨⟩, ())
def w_join : List Int × List Int × Unit → (OL Int → WL.Un × WL.Un × Unit → Prop) → (Addr → WL.Un × WL.Un × Unit → Prop) → Prop := fun p Kn _ => (p.1.length ≤ 1000 ∧ p.2.1.length ≤ 1000 ∧ (p.1.filter fun k => !decide (k ∈ p.2.1)).length + (p.2.1.filter fun k => !decide (k ∈ p.1)).length < 64) ∧ Kn ⟨jn p.1 p.2.1⟩ (⟨⟩, ⟨⟩, ())
def w_rising : List Int × Unit → (Bool → WL.Un × Unit → Prop) → (Addr → WL.Un × Unit → Prop) → Prop := fun p Kn _ => p.1.length ≤ 1000000 ∧ Kn (asc p.1) (⟨⟩, ())
def w_whole : Int × Unit → (Bool → WL.Un × Unit → Prop) → (Addr → WL.Un × Unit → Prop) → Prop := fun p Kn _ => Kn true (⟨⟩, ())
def w_row : List Int × Unit → (Bool → WL.Un × Unit → Prop) → (Addr → WL.Un × Unit → Prop) → Prop := fun p Kn _ => Kn true (⟨⟩, ())
def w_same : List Int × List Int × Unit → (Bool → WL.Un × WL.Un × Unit → Prop) → (Addr → WL.Un × WL.Un × Unit → Prop) → Prop := fun p Kn _ => Kn (decide (p.1 = p.2.1)) (⟨⟩, ⟨⟩, ())
def w_wide : Bg × Unit → (OL Int → Bg × Unit → Prop) → (Addr → Bg × Unit → Prop) → Prop := fun p Kn _ => ∀ l : List Int, Ris l → Few l → Kn ⟨l⟩ (⟨⟩, ())
def w_read : Str × Unit → (Oo Int → WL.Un × Unit → Prop) → (Addr → WL.Un × Unit → Prop) → Prop := fun p Kn _ => (p.1.length ≤ 100000 ∧ Txt.isascii p.1 = true) ∧ Kn ⟨rdS p.1⟩ (⟨⟩, ())
def w_told : Str × Unit → (Option (List Int) × Int → WL.Un × Unit → Prop) → (Addr → WL.Un × Unit → Prop) → Prop := fun p Kn _ => p.1.length ≤ 100000 ∧ Kn (rdS p.1, if (rdS p.1).isNone = true then 0 else -1) (⟨⟩, ())
def w_spoilt : Bg × Str × Unit → (Str → Bg × WL.Un × Unit → Prop) → (Addr → Bg × WL.Un × Unit → Prop) → Prop := fun p Kn _ => (p.2.1.length ≤ 10000 ∧ Txt.isascii p.2.1 = true) ∧ ∀ z : Str, z.length ≤ 30000 → Txt.isascii z = true → Kn z (⟨⟩, ⟨⟩, ())
theorem plus_eq : (Str.ofString "+") = plus := by decide +kernel
theorem dig_iff : ∀ c : Nat, c < 128 → Unicode.isDigit c = (decide (48 ≤ c) && decide (c ≤ 57)) := by decide +kernel
theorem asc_all {z : Str} : Txt.isascii z = true ↔ ∀ c ∈ z.cps.toList, c < 128 := by
  show z.cps.all (fun c => decide (c < 128)) = true ↔ _
  rw [← Array.all_toList, List.all_eq_true]
  exact ⟨fun h c hc => of_decide_eq_true (h c hc), fun h c hc => decide_eq_true (h c hc)⟩
theorem dig_all {z : Str} (ha : Txt.isascii z = true) : Txt.isdigit z = true ↔ z.cps.toList ≠ [] ∧ PySem.NumText.AllDigits z.cps.toList := by
  show (decide (z.length > 0) && z.cps.all Unicode.isDigit) = true ↔ _
  rw [Bool.and_eq_true, ← Array.all_toList, List.all_eq_true, decide_eq_true_eq]
  have ha := asc_all.mp ha
  refine and_congr ?_ ⟨fun h c hc => ?_, fun h c hc => ?_⟩
  · have : z.length = z.cps.toList.length := by simp [Str.length]
    rw [this]
    exact ⟨fun h e => by rw [e] at h; simp at h, fun h => List.length_pos_iff.mpr h⟩
  · have := h c hc
    rw [dig_iff c (ha c hc), Bool.and_eq_true, decide_eq_true_eq, decide_eq_true_eq] at this
    exact this
  · rw [dig_iff c (ha c hc), decide_eq_true (h c hc).1, decide_eq_true (h c hc).2]; rfl
theorem good_iff {z : Str} : good z = true ↔ Txt.isascii z = true ∧ Txt.isdigit z = true ∧ z.length ≤ 9 ∧ ¬(z.cps.toList.head? = some 48 ∧ z ≠ ("0" : Str)) := by
  unfold good
  rw [Bool.and_eq_true, Bool.and_eq_true, Bool.and_eq_true, decide_eq_true_eq]
  constructor
  · rintro ⟨⟨⟨h1, h2⟩, h3⟩, h4⟩
    refine ⟨h1, h2, h3, fun ⟨a, b⟩ => ?_⟩
    rw [decide_eq_true a, decide_eq_false b] at h4
    cases h4
  · rintro ⟨h1, h2, h3, h4⟩
    refine ⟨⟨⟨h1, h2⟩, h3⟩, ?_⟩
    by_cases a : z.cps.toList.head? = some 48
    · by_cases b : z = ("0" : Str)
      · rw [decide_eq_true b]; simp
      · exact absurd ⟨a, b⟩ h4
    · rw [decide_eq_false a]; rfl
theorem good_reads {z : Str} (h : good z = true) : ∃ n, PySem.intText? z = some n := by
  obtain ⟨h1, h2, h3, _⟩ := good_iff.mp h
  obtain ⟨g1, g2⟩ := (dig_all h1).mp h2
  exact ⟨_, PySem.intText_digits g2 g1 (by omega)⟩
theorem rdN_no {z : Str} (h : ¬good z = true) : rdN z = none := if_neg h
theorem rdN_yes {z : Str} (h : good z = true) : rdN z = PySem.intText? z := if_pos h
theorem at0 {z : Str} (h : z.cps.toList ≠ []) : ∃ c, atI z.cps.toList 0 = some c ∧ z.cps.toList.head? = some c := by
  cases e : z.cps.toList with
  | nil => exact absurd e h
  | cons c r => exact ⟨c, atI_nat (xs := c :: r) (j := 0) rfl, rfl⟩
theorem one_zero {c : Nat} : (({ cps := #[c] } : Str) = Str.ofString "0") ↔ c = 48 := by
  have e : Str.ofString "0" = ⟨#[48]⟩ := by decide +kernel
  rw [e]
  constructor
  · intro h; injection h with h; injection h with h; injection h
  · intro h; rw [h]
theorem num_step {z : Str} {P : Int → Prop} {Q : Prop} (h1 : Txt.isascii z = true) (h2 : Txt.isdigit z = true) (h3 : z.length ≤ 9) (h : match rdN z with | some n => P n | none => Q) :
    z.length ≤ sizeLine ∧ ∃ c, atI z.cps.toList 0 = some c ∧ if decide (({ cps := #[c] } : Str) = Str.ofString "0") = true then if (!decide (z = Str.ofString "0")) = true then Q else z.length ≤ 640 ∧ ∃ n, PySem.intText? z = some n ∧ P n
      else if false = true then Q else z.length ≤ 640 ∧ ∃ n, PySem.intText? z = some n ∧ P n := by
  obtain ⟨g1, g2⟩ := (dig_all h1).mp h2
  obtain ⟨c, a1, a2⟩ := at0 g1
  refine ⟨by rw [sizeLine_eq]; omega, c, a1, ?_⟩
  have ok : good z = true → z.length ≤ 640 ∧ ∃ n, PySem.intText? z = some n ∧ P n := fun g => by
    obtain ⟨n, e⟩ := good_reads g
    rw [rdN_yes g, e] at h
    exact ⟨by omega, n, e, h⟩
  by_cases hc : c = 48
  · rw [if_pos (decide_eq_true (one_zero.mpr hc))]
    by_cases hz : z = Str.ofString "0"
    · rw [decide_eq_true hz]
      exact ok (good_iff.mpr ⟨h1, h2, h3, fun q => q.2 hz⟩)
    · rw [decide_eq_false hz]
      rw [rdN_no fun g => (good_iff.mp g).2.2.2 ⟨by rw [a2, hc], hz⟩] at h
      exact h
  · rw [if_neg (by rw [decide_eq_true_eq, one_zero]; exact hc), if_neg (by decide)]
    exact ok (good_iff.mpr ⟨h1, h2, h3, fun q => hc (by rw [a2] at q; exact Option.some.inj q.1)⟩)
theorem wComp_tot {α β S : Type} {b : α → S → (Option β → S → Prop) → Prop} {s : S} (f : α → β) : ∀ {xs : List α} {K : List β → S → Prop}, (∀ x ∈ xs, ∀ K : Option β → S → Prop, K (some (f x)) s → b x s K) → K (xs.map f) s → wComp b xs s K
  | [], _, _, h => h
  | x :: r, K, hb, h => hb x List.mem_cons_self _ (wComp_tot f (fun y hy => hb y (List.mem_cons_of_mem _ hy)) h)
theorem wComp_filter {α S : Type} {b : α → S → (Option α → S → Prop) → Prop} {q : α → Bool} {s : S} : ∀ {xs : List α} {K : List α → S → Prop}, (∀ x ∈ xs, ∀ K : Option α → S → Prop, (if q x = true then K (some x) s else K none s) → b x s K) → K (xs.filter q) s → wComp b xs s K
  | [], _, _, h => h
  | x :: r, K, hb, h => by
    refine hb x List.mem_cons_self _ ?_
    rw [List.filter_cons] at h
    cases e : q x with
    | true => rw [e, if_pos rfl] at h; rw [if_pos rfl]; exact wComp_filter (fun y hy => hb y (List.mem_cons_of_mem _ hy)) h
    | false => rw [e, if_neg Bool.false_ne_true] at h; rw [if_neg Bool.false_ne_true]; exact wComp_filter (fun y hy => hb y (List.mem_cons_of_mem _ hy)) h
theorem wComp_rd {S : Type} {b : Str → S → (Option Int → S → Prop) → Prop} {s : S} {Q : Prop} : ∀ {xs : List Str} {K : List Int → S → Prop}, (∀ z ∈ xs, ∀ K : Option Int → S → Prop, (match rdN z with | some n => K (some n) s | none => Q) → b z s K) → (match rdL xs with | some l => K l s | none => Q) → wComp b xs s K
  | [], _, _, h => h
  | z :: r, K, hb, h => by
    refine hb z List.mem_cons_self _ ?_
    unfold rdL at h
    cases e : rdN z with
    | none => rw [e] at h; exact h
    | some n =>
      rw [e] at h
      refine wComp_rd (fun y hy => hb y (List.mem_cons_of_mem _ hy)) ?_
      cases e2 : rdL r with
      | none => rw [e2] at h; exact h
      | some l => rw [e2] at h; exact h
theorem rdL_len : ∀ {xs : List Str} {l : List Int}, rdL xs = some l → l.length = xs.length
  | [], l, h => by cases h; rfl
  | z :: r, l, h => by
    unfold rdL at h
    cases e : rdN z with
    | none => rw [e] at h; cases h
    | some n =>
      rw [e] at h
      cases e2 : rdL r with
      | none => rw [e2] at h; cases h
      | some k => rw [e2] at h; cases h; rw [List.length_cons, rdL_len e2, List.length_cons]
theorem split_short {x y z : Str} (h : z ∈ Txt.split x y) : z.length ≤ x.length := PyProof.Rows.part_short h
theorem num_len {x : Int} (h : 0 ≤ x ∧ x < 1000000000) : (num x).length ≤ 9 := PyProof.Rows.toString_length_le h.1 (by decide) (by have := h.2; omega)
theorem rng_nil {a b : Int} (h : b ≤ a) : rng a b = [] := by
  unfold rng
  rw [show (b - a).toNat = 0 by omega]
  rfl
theorem rng_step {a b : Int} (h : a < b) : rng a b = a :: rng (a + 1) b := by
  unfold rng
  obtain ⟨n, e⟩ : ∃ n : Nat, (b - a).toNat = n + 1 := ⟨(b - a).toNat - 1, by omega⟩
  rw [e, show (b - (a + 1)).toNat = n by omega, List.range_succ_eq_map, List.map_cons, List.map_map]
  congr 1
  · simp
  · refine List.map_congr_left fun i _ => ?_
    show a + ((i + 1 : Nat) : Int) = a + 1 + (i : Int)
    omega
theorem rise_loop {l : List Int} {Kn : Bool → WL.Un × Unit → Prop} {Ke : Addr → WL.Un × Unit → Prop} {Kt : List Int × WL.Un × Unit → Prop} {b : Int → List Int × WL.Un × Unit → (List Int × WL.Un × Unit → Prop) → (Bool → WL.Un × Unit → Prop) → (Addr → WL.Un × Unit → Prop) → Prop}
    (hb : ∀ x s K, s.1 = l → (∃ x1, atI l (x - 1) = some x1 ∧ ∃ x2, atI l x = some x2 ∧ if decide (x2 ≤ x1) = true then Kn false (⟨⟩, ()) else K (l, ⟨⟩, s.2.2)) → b x s K Kn Ke) (ht : ∀ s, Kn true (⟨⟩, ()) → Kt s) :
    ∀ (m j : Nat) (s : List Int × WL.Un × Unit), s.1 = l → 1 ≤ j → l.length ≤ j + m → Kn (asc (l.drop (j - 1))) (⟨⟩, ()) → wFor b (rng j l.length) s Kt Kn Ke
  | m, j, s, es, h1, h2, hk => by
    by_cases hj : j < l.length
    · rw [rng_step (by omega)]
      have a1 : l[j - 1]? = some l[j - 1] := List.getElem?_eq_getElem (by omega)
      have a2 : l[j]? = some l[j] := List.getElem?_eq_getElem hj
      have d1 : l.drop (j - 1) = l[j - 1] :: l[j] :: l.drop (j + 1) := by
        rw [List.drop_eq_getElem_cons (by omega), show j - 1 + 1 = j by omega, List.drop_eq_getElem_cons hj]
      have d2 : l.drop j = l[j] :: l.drop (j + 1) := List.drop_eq_getElem_cons hj
      rw [d1, asc_cons] at hk
      refine hb _ _ _ es ⟨_, by rw [show ((j : Int) - 1) = ((j - 1 : Nat) : Int) by omega]; exact atI_nat a1, _, atI_nat a2, ?_⟩
      by_cases c : l[j] ≤ l[j - 1]
      · rw [if_pos (decide_eq_true c)]
        rw [decide_eq_false (show ¬l[j - 1] < l[j] by omega)] at hk
        exact hk
      · rw [if_neg (by rw [decide_eq_true_eq]; exact c)]
        rw [decide_eq_true (show l[j - 1] < l[j] by omega), Bool.true_and] at hk
        cases m with
        | zero => omega
        | succ m => exact rise_loop hb ht m (j + 1) _ rfl (by omega) (by omega) (by rw [show j + 1 - 1 = j by omega, d2]; exact hk)
    · rw [rng_nil (by omega)]
      refine ht _ ?_
      have e : asc (l.drop (j - 1)) = true := by
        cases q : l.drop (j - 1) with
        | nil => rfl
        | cons x r =>
          have := congrArg List.length q
          rw [List.length_drop, List.length_cons] at this
          cases r with
          | nil => rfl
          | cons y r => rw [List.length_cons] at this; omega
      rw [e] at hk
      exact hk
theorem pull_i {g : Bg} {n : Int} {Kn : Int → Bg × WL.Un × Unit → Prop} {Ke : Addr → Bg × WL.Un × Unit → Prop} (h0 : 0 < n) (h1 : n < 1073741824) (h : ∀ r, 0 ≤ r → r < n → Kn r (⟨⟩, ⟨⟩, ())) : w_pull (g, n, ()) Kn Ke := ⟨h0, h1, h⟩
theorem jn_len2 {a b : List Int} (h : a.length + b.length < 64) : a.length ≤ 1000 ∧ b.length ≤ 1000 ∧ (a.filter fun k => !decide (k ∈ b)).length + (b.filter fun k => !decide (k ∈ a)).length < 64 := by
  have l1 := List.length_filter_le (fun k => !decide (k ∈ b)) a
  have l2 := List.length_filter_le (fun k => !decide (k ∈ a)) b
  omega
theorem jn_le (a b : List Int) : (jn a b).length ≤ a.length + b.length := by
  unfold jn
  rw [(srt_perm _).length_eq, List.length_append]
  have l1 := List.length_filter_le (fun k => !decide (k ∈ b)) a
  have l2 := List.length_filter_le (fun k => !decide (k ∈ a)) b
  omega
theorem size_at {i : Int} (h0 : 0 ≤ i) (h1 : i < 5) : ∃ y : Int, atI [(10 : Int), 10, 100, 1000, 10 ^ Int.toNat 9] i = some y ∧ 0 < y ∧ y ≤ 1000000000 := by
  have : i = 0 ∨ i = 1 ∨ i = 2 ∨ i = 3 ∨ i = 4 := by omega
  rcases this with rfl | rfl | rfl | rfl | rfl
  · exact ⟨10, rfl, by decide, by decide⟩
  · exact ⟨10, rfl, by decide, by decide⟩
  · exact ⟨100, rfl, by decide, by decide⟩
  · exact ⟨1000, rfl, by decide, by decide⟩
  · exact ⟨10 ^ Int.toNat 9, rfl, by decide, by decide⟩
theorem mem_join {y : Str} {c : Nat} : ∀ {ps : List Str} {z : Str}, z ∈ ps → c ∈ z.cps.toList → c ∈ (Str.join y ps).cps.toList
  | [x], z, h, hc => by rw [List.mem_singleton.mp h] at hc; exact hc
  | x :: w :: r, z, h, hc => by
    show c ∈ (x ++ y ++ Str.join y (w :: r)).cps.toList
    rw [PySem.Str.cps_append, PySem.Str.cps_append, Array.toList_append, Array.toList_append]
    rcases List.mem_cons.mp h with e | e
    · rw [e] at hc; exact List.mem_append_left _ (List.mem_append_left _ hc)
    · exact List.mem_append_right _ (mem_join e hc)
theorem split_mem {x y z : Str} {c : Nat} (h : z ∈ Txt.split x y) (hc : c ∈ z.cps.toList) : c ∈ x.cps.toList := by
  have := mem_join (y := y) h hc
  rw [StrLaws.join_split] at this
  exact this
theorem split_asc {x y z : Str} (ha : Txt.isascii x = true) (h : z ∈ Txt.split x y) : Txt.isascii z = true := asc_all.mpr fun c hc => asc_all.mp ha c (split_mem h hc)
theorem figs : (Str.ofString "0123456789").cps.toList = [48, 49, 50, 51, 52, 53, 54, 55, 56, 57] := by decide +kernel
theorem fig_mem {c : Nat} : c ∈ (Str.ofString "0123456789").cps.toList ↔ 48 ≤ c ∧ c ≤ 57 := by
  rw [figs]
  simp
  omega
abbrev SR := Str × OL Int × WL.Un × Unit
theorem read_loop {Kt : SR → Prop} {Kr : Oo Int → WL.Un × Unit → Prop} {Ke : Addr → WL.Un × Unit → Prop} {b : Str → SR → (SR → Prop) → (Oo Int → WL.Un × Unit → Prop) → (Addr → WL.Un × Unit → Prop) → Prop} {Q : Prop} {N : Nat} {Pz : Str → Prop}
    (hb : ∀ z s K, Pz z → s.2.1.l.length < N → (match rdN z with | some n => K (s.1, ⟨s.2.1.l ++ [n]⟩, ⟨⟩, s.2.2.2) | none => Q) → b z s K Kr Ke) :
    ∀ (xs : List Str) (s : SR), (∀ z ∈ xs, Pz z) → s.2.1.l.length + xs.length ≤ N → (match rdL xs with | some l => Kt (s.1, ⟨s.2.1.l ++ l⟩, ⟨⟩, s.2.2.2) | none => Q) → wFor b xs s Kt Kr Ke
  | [], s, _, _, h => by
    have h : Kt (s.1, ⟨s.2.1.l ++ []⟩, ⟨⟩, s.2.2.2) := h
    rw [List.append_nil] at h
    exact h
  | z :: r, s, hz, hn, h => by
    rw [List.length_cons] at hn
    refine hb z s _ (hz z List.mem_cons_self) (by omega) ?_
    unfold rdL at h
    cases e : rdN z with
    | none => rw [e] at h; exact h
    | some n =>
      rw [e] at h
      refine read_loop hb r _ (fun y hy => hz y (List.mem_cons_of_mem _ hy)) (by show (s.2.1.l ++ [n]).length + _ ≤ N; rw [List.length_append, List.length_singleton]; omega) ?_
      cases e2 : rdL r with
      | none => rw [e2] at h; exact h
      | some l =>
        rw [e2] at h
        show Kt (s.1, ⟨(s.2.1.l ++ [n]) ++ l⟩, ⟨⟩, s.2.2.2)
        rw [List.append_assoc]
        exact h
theorem no_figs {z : Str} : (sgn z).filter (fun d => !!(Builtin.Str.occurrences (Str.ofString "0123456789") d 0 (Str.ofString "0123456789").length 1).isEmpty) = [] ↔ PySem.NumText.AllDigits z.cps.toList := by
  rw [List.filter_eq_nil_iff]
  unfold sgn
  constructor
  · intro h c hc
    have := h ⟨#[c]⟩ (List.mem_map.mpr ⟨c, hc, rfl⟩)
    rw [StrLaws.found_one, Bool.not_eq_true', Bool.not_eq_false, decide_eq_true_eq] at this
    exact fig_mem.mp this
  · intro h d hd
    obtain ⟨c, hc, rfl⟩ := List.mem_map.mp hd
    rw [StrLaws.found_one, decide_eq_true (fig_mem.mpr (h c hc))]
    decide
theorem nil_str {z : Str} : z = Str.ofString "" ↔ z.cps.toList = [] := by
  have e : Str.ofString "" = ⟨#[]⟩ := by decide +kernel
  rw [e]
  constructor
  · intro h; rw [h]
  · intro h; obtain ⟨⟨l⟩⟩ := z; have h : l = [] := h; rw [h]
theorem at_mem {α : Type} {l : List α} {i : Int} (h0 : 0 ≤ i) (h1 : i < l.length) : ∃ y, atI l i = some y ∧ y ∈ l := by
  have hj : i.toNat < l.length := by omega
  refine ⟨l[i.toNat], ?_, List.getElem_mem hj⟩
  have := atI_nat (xs := l) (j := i.toNat) (List.getElem?_eq_getElem hj)
  rw [show ((i.toNat : Nat) : Int) = i by omega] at this
  exact this
theorem sl_asc {z : Str} {lo hi : Option Int} (h : Txt.isascii z = true) : Txt.isascii (StrLaws.sliceText z lo hi) = true := asc_all.mpr fun c hc => asc_all.mp h c (sl_mem hc)
theorem app_asc {x y : Str} (h1 : Txt.isascii x = true) (h2 : Txt.isascii y = true) : Txt.isascii (x ++ y) = true := asc_all.mpr fun c hc => by
  rw [PySem.Str.cps_append, Array.toList_append] at hc
  rcases List.mem_append.mp hc with q | q
  · exact asc_all.mp h1 c q
  · exact asc_all.mp h2 c q
abbrev odd : List Str := [Str.ofString "", Str.ofString "+", Str.ofString "--", Str.ofString "0+", Str.ofString "-0", Str.ofString "00", Str.ofString "1+1", Str.ofString "2+1", Str.ofString " 1", Str.ofString "1 ", Str.ofString "0+01", Str.ofString "1234567890", Str.ofString "1 +2", Str.ofString "+1", Str.ofString "_1", Str.ofString "1_0"]
theorem odd_ok : ∀ z ∈ odd, z.length ≤ 30000 ∧ Txt.isascii z = true := by decide +kernel
theorem sign_ok : ∀ c ∈ (Str.ofString "0123456789+- ,ax_.").cps.toList, c < 128 := by decide +kernel
theorem sign_len : (Str.ofString "0123456789+- ,ax_.").cps.toList.length = 18 := by decide +kernel
theorem one_asc {c : Nat} (h : c < 128) : Txt.isascii ⟨#[c]⟩ = true := asc_all.mpr fun d hd => by
  have : d = c := by simpa using hd
  rw [this]; exact h
theorem log_ok {x : Int} (h : 0 ≤ x ∧ x < 1000000000) : x.natAbs.log2 < 1920 := by
  have h2 : x.natAbs < 1000000000 := by omega
  by_cases z : x.natAbs = 0
  · rw [z]; decide
  · exact Nat.lt_trans ((Nat.log2_lt z).mpr (Nat.lt_trans h2 (show 1000000000 < 2 ^ 30 by decide))) (by decide)
theorem join_ok {l : List Int} (hf : Few l) : JoinOk plus (l.map num) = true := by
  unfold JoinOk
  rw [Bool.not_eq_true']
  refine StrLaws.joinFits (B := 9) (fun y hy => ?_) ?_
  · obtain ⟨x, hxm, rfl⟩ := List.mem_map.mp hy
    exact num_len (hf.2 x hxm)
  · rw [List.length_map]
    have : plus.length = 1 := rfl
    rw [this]
    have := hf.1
    omega
section
variable {q : Cq} {XB XS : Addr}
abbrev s_read_number : Stmt := top 11
abbrev p_read_number : List Str := ["word"]
theorem sc_read_number : FnScope ["word"] p_read_number (defScope s_read_number) := by walk_at "sc"
abbrev A_read_number (q : Cq) (XB : Addr) (k : Nat) := Fkq q "read_number" p_read_number (w_read_number XB) k
theorem ok_read_number {f : Addr} {fd : FuncData} (F : Dq1 q "read_number" s_read_number f fd) (X_BadRow : XcJ q.P q.w q.K q.mg q.base 1 "BadRow" XB "at" 0) {t_MOST_FIGURES : Tok} (h_MOST_FIGURES : q.mg "MOST_FIGURES" = some (.int 9 t_MOST_FIGURES)) (B : Bn q.mg) : Gq q 3 f fd p_read_number (w_read_number XB) := by
  refine' fn_nice (fn_w (D' := Unit) (ms := []) (j := 0) F sc_read_number rfl rfl fun cdv A outer s H E hr =>
      (sw_c (s1_if (tw_w (ww_or (tw_not (tw_val (ew_asc (ew_var 0 (pv 0))))) (ww_or (tw_not (tw_val (ew_dig (ew_var 0 (pv 0))))) (ww_or1 (tw_cm cm_gt (ew_slen rfl B.len (ew_var 0 (pv 0))) (ew_con rfl h_MOST_FIGURES) (nomark _))))))
      (sw_one (s1_rzJ rfl X_BadRow hr))
      sw_nil)
      (sw_c (s1_if (tw_w (ww_and (tw_cm cm_eq (ew_six (ew_var 0 (pv 0)) ew_int (fun _ _ => rfl)) ew_str (nomark _)) (ww_and1 (tw_cm cm_ne (ew_var 0 (pv 0)) ew_str (nomark _)))))
      (sw_one (s1_rzJ rfl X_BadRow hr))
      sw_nil)
      (sw_one (s1_ret (eo_rep (ew_intS rfl B.int (ew_var 0 (pv 0))))))))) fun p Kn Ke h => ?_
  walk_at "wl"
  obtain ⟨hl, h⟩ := h
  by_cases h1 : Txt.isascii p.1 = true
  · rw [if_neg (by rw [h1]; decide)]
    by_cases h2 : Txt.isdigit p.1 = true
    · rw [if_neg (by rw [h2]; decide)]
      refine ⟨by rw [sizeLine_eq]; omega, ?_⟩
      by_cases h3 : p.1.length ≤ 9
      · rw [if_neg (by rw [decide_eq_true_eq]; omega)]
        exact num_step (P := fun n => Kn n (⟨⟩, ())) h1 h2 h3 h
      · rw [if_pos (decide_eq_true (by omega))]
        rw [rdN_no fun g => h3 (good_iff.mp g).2.2.1] at h
        exact h
    · rw [if_pos (by rw [Bool.not_eq_true] at h2; rw [h2]; rfl), if_pos rfl]
      rw [rdN_no fun g => h2 (good_iff.mp g).2.1] at h
      exact h
  · rw [if_pos (by rw [Bool.not_eq_true] at h1; rw [h1]; rfl), if_pos rfl]
    rw [rdN_no fun g => h1 (good_iff.mp g).1] at h
    exact h
abbrev s_read_sum : Stmt := top 10
abbrev p_read_sum : List Str := ["line"]
theorem sc_read_sum : FnScope ["line", "row"] p_read_sum (defScope s_read_sum) := by walk_at "sc"
theorem nd_read_sum1 : (["word"] : List Str).Nodup := by decide +kernel
abbrev A_read_sum (q : Cq) (XB : Addr) (k : Nat) := Fkq q "read_sum" p_read_sum (w_read_sum XB) k
theorem ok_read_sum {f : Addr} {fd : FuncData} (F : Dq1 q "read_sum" s_read_sum f fd) (G_read_number : A_read_number q XB 3) (G_is_sum : Fkq q "is_sum" ["row"] w_is_sumL 3) (X_BadRow : XcJ q.P q.w q.K q.mg q.base 2 "BadRow" XB "at" 0) : Gq q 4 f fd p_read_sum (w_read_sum XB) := by
  refine' fn_nice (fn_w (D' := Unit) (ms := []) (j := 1) F sc_read_sum rfl rfl fun cdv A outer s H E hr =>
      (sw_c (s1_if (tw_cm cm_eq (ew_var 0 (pv 0)) ew_str (nomark _))
      (sw_one (s1_ret (eo_lst (α := Int) al_nil)))
      sw_nil)
      (sw_c (s1_compE (Ts := ["word"]) (Fr := []) (idx := []) (k := 1) (mb := []) (is := []) (cl := []) rfl 1 sc_read_sum.nd rfl rfl rfl (by decide) rfl (iw_val (ew_o (eo_split (ew_var 0 (pv 0)) ew_str))) ⟨rfl, rfl, by decide +kernel, by decide +kernel, (fun x c h => by
        cases h), (fc (fun z => by cases z) (fc (fun z => by cases z) (fc (fun z => by cases z) fnil))),
        (fun j x h => by cases h), rfl⟩ rfl (hmb_of rfl) (fun s₀ H₀ C ex pn => (gw_name 0 (pg_name (i := 0) nd_read_sum1 rfl (Or.inl rfl)) (by decide))) (fun s₀ H₀ C ex pn => tws_nil) (fun s₀ H₀ C ex pn => (ew_rep (eo_c2 G_read_number hr rfl passE (al2_im (ew_var 0 (pv 0)) al2_nil)))))
      (sw_c (s1_if (tw_not (tw_val (ew_rep (eo_c2 G_is_sum hr rfl pass1 (al2_lend (i := 1) (pv 1) al2_nil)))))
      (sw_one (s1_rzJ rfl X_BadRow hr))
      sw_nil)
      (sw_one (s1_retO 1 (pv 1))))))) fun p Kn Ke h => ?_
  walk_at "wl"
  obtain ⟨hl, h⟩ := h
  by_cases h1 : p.1 = Str.ofString "-"
  · rw [if_pos (decide_eq_true h1)]
    unfold rdS at h
    rw [if_pos h1] at h
    exact h
  · rw [if_neg (by rw [decide_eq_true_eq]; exact h1)]
    unfold rdS at h
    rw [if_neg h1] at h
    rw [plus_eq]
    have sl := PyProof.Rows.split_le p.1 plus
    refine ⟨⟨by decide +kernel, by rw [sizeLine_eq]; omega⟩, by rw [sizeLine_eq]; omega, ?_⟩
    refine wComp_rd (Q := Ke XB (⟨⟩, ())) (fun z hz K hK => ?_) ?_
    · have := split_short hz
      show (if true = true then _ else _ : Prop)
      rw [if_pos rfl]
      refine ⟨by show z.length ≤ 100000; omega, ?_⟩
      show match rdN z with | some n => _ | none => _
      cases e : rdN z with
      | none => rw [e] at hK; exact hK
      | some n => rw [e] at hK; exact hK
    · cases e : rdL (Txt.split p.1 plus) with
      | none => rw [e] at h; exact h
      | some l =>
        rw [e] at h
        show if (!asc l) = true then _ else _
        cases ea : asc l with
        | true => rw [if_neg (by decide)]; dsimp only at h; rw [if_pos ea] at h; exact h
        | false => rw [if_pos (by decide)]; dsimp only at h; rw [if_neg (by rw [ea]; decide)] at h; exact h
abbrev s_shown_sum : Stmt := top 9
abbrev p_shown_sum : List Str := ["row"]
theorem sc_shown_sum : FnScope ["row"] p_shown_sum (defScope s_shown_sum) := by walk_at "sc"
theorem nd_shown_sum1 : (["number"] : List Str).Nodup := by decide +kernel
abbrev A_shown_sum (q : Cq) (k : Nat) := Fkq q "shown_sum" p_shown_sum w_shown_sum k
theorem ok_shown_sum {f : Addr} {fd : FuncData} (F : Dq1 q "shown_sum" s_shown_sum f fd) (G_must_be_sum : Fkq q "must_be_sum" ["row"] (w_mustL XS) 3) (B : Bn q.mg) : Gq q 4 f fd p_shown_sum w_shown_sum := by
  refine' fn_nice (fn_w (D' := Unit) (ms := []) (j := 0) F sc_shown_sum rfl rfl fun cdv A outer s H E hr =>
      (sw_c (s1_expr (ew_rep (eo_c2 G_must_be_sum hr rfl pass1 (al2_im (ew_var 0 (pv 0)) al2_nil))))
      (sw_c (s1_if (tw_not (tw_trueV (ew_var 0 (pv 0))))
      (sw_one (s1_ret (eo_rep ew_str)))
      sw_nil)
      (sw_one (s1_ret (eo_rep (ew_join ew_str (ew_o (eo_comp (Ts := ["number"]) (Fr := []) (idx := []) (k := 1) (mb := []) (is := []) (cl := []) rfl (iw_val (ew_var 0 (pv 0))) ⟨rfl, rfl, by decide +kernel, by decide +kernel, (fun x c h => by
        cases h), (fc (fun z => by cases z) (fc (fun z => by cases z) (fc (fun z => by cases z) fnil))),
        (fun j x h => by cases h), rfl⟩ rfl (hmb_of rfl) (fun s₀ H₀ C ex pn => (gw_name 0 (pg_name (i := 0) nd_shown_sum1 rfl (Or.inl rfl)) (by decide))) (fun s₀ H₀ C ex pn => tws_nil) (fun s₀ H₀ C ex pn => (ew_strI rfl B.str (ew_var 0 (pv 0))))))))))))) fun p Kn Ke h => ?_
  walk_at "wl"
  obtain ⟨⟨⟨hl, hx⟩, ha⟩, h⟩ := h
  refine ⟨fun _ => ?_, fun z => absurd ha (by show ¬asc p.1 = true; rw [z]; decide)⟩
  by_cases h1 : p.1 = []
  · rw [if_pos (by rw [h1]; rfl)]
    unfold shw at h
    rw [if_pos h1] at h
    exact h
  · rw [if_neg (by cases e : p.1 with | nil => exact absurd e h1 | cons a r => rw [List.isEmpty_cons]; decide)]
    unfold shw at h
    rw [if_neg h1] at h
    refine ⟨line_le (by omega), wComp_tot num (fun x hxm K hK => ?_) ?_⟩
    · have := hx x hxm
      show (if true = true then _ else _ : Prop)
      rw [if_pos rfl]
      exact ⟨log_ok this, hK⟩
    · rw [plus_eq]
      exact ⟨join_ok ⟨hl, hx⟩, h⟩
abbrev s_join : Stmt := top 14
abbrev p_join : List Str := ["_law_one", "_law_other"]
theorem sc_join : FnScope ["_law_one", "_law_other", "_law_left"] p_join (defScope s_join) := by walk_at "sc"
theorem nd_join1 : (["_law_x", "_law_other"] : List Str).Nodup := by decide +kernel
theorem nd_join2 : (["_law_x", "_law_one"] : List Str).Nodup := by decide +kernel
abbrev A_join (q : Cq) (k : Nat) := Fkq q "_law_join" p_join w_join k
theorem ok_join {f : Addr} {fd : FuncData} (F : Dq1 q "_law_join" s_join f fd) (B : Bn q.mg) : Gq q 2 f fd p_join w_join := by
  refine' fn_nice (fn_w (D' := Unit) (ms := []) (j := 1) F sc_join rfl rfl fun cdv A outer s H E hr =>
      (sw_c (s1_comp (Ts := ["_law_x"]) (Fr := ["_law_other"]) (idx := [1]) (k := 1) (mb := [1]) (is := []) (cl := [("_law_other", s.heap.objs.size + 1 + 1)]) 2 sc_join.nd rfl rfl rfl (by decide) rfl (iw_val (ew_var 0 (pv 0))) ⟨rfl, rfl, by decide +kernel, by decide +kernel, (fun x c h => by
        rcases lkc h with ⟨rfl, rfl⟩ | h
        · rfl
        cases h), (fc (fun z => by cases z) (fc (fun z => by cases z) (fc (fun _ => ⟨_, rfl⟩) fnil))),
        (fun j x h => by
        match j, h with
        | 0, h => cases h; exact ⟨1, _, rfl, rfl, .inl rfl, rfl, .inl rfl⟩
        | n + 1, h => cases h), rfl⟩ rfl (hmb_of rfl) (fun s₀ H₀ C ex pn => (gw_name 0 (pg_name (i := 0) nd_join1 rfl (Or.inl rfl)) (by decide))) (fun s₀ H₀ C ex pn => (tws_one (tw_cmI cm_notin (ew_var 0 (pv 0)) (er_w (ew_var 1 (pv 1))) (by with_unfolding_all rfl)))) (fun s₀ H₀ C ex pn => (ew_var 0 (pv 0))))
      (sw_one (s1_ret (eo_sorted rfl B.sorted (er_w (ew_o (eo_cat (er_ow 2 (pv 2)) (er_w (ew_o (eo_comp (Ts := ["_law_x"]) (Fr := ["_law_one"]) (idx := [0]) (k := 1) (mb := [1]) (is := []) (cl := [("_law_one", s.heap.objs.size + 1)]) rfl (iw_val (ew_var 1 (pv 1))) ⟨rfl, rfl, by decide +kernel, by decide +kernel, (fun x c h => by
        rcases lkc h with ⟨rfl, rfl⟩ | h
        · rfl
        cases h), (fc (fun z => by cases z) (fc (fun z => by cases z) (fc (fun _ => ⟨_, rfl⟩) fnil))),
        (fun j x h => by
        match j, h with
        | 0, h => cases h; exact ⟨0, _, rfl, rfl, .inl rfl, rfl, .inl rfl⟩
        | n + 1, h => cases h), rfl⟩ rfl (hmb_of rfl) (fun s₀ H₀ C ex pn => (gw_name 0 (pg_name (i := 0) nd_join2 rfl (Or.inl rfl)) (by decide))) (fun s₀ H₀ C ex pn => (tws_one (tw_cmI cm_notin (ew_var 0 (pv 0)) (er_w (ew_var 1 (pv 1))) (by with_unfolding_all rfl)))) (fun s₀ H₀ C ex pn => (ew_var 0 (pv 0)))))))))))))) fun p Kn Ke h => ?_
  walk_at "wl"
  obtain ⟨⟨ha, hb, hl⟩, hk⟩ := h
  refine ⟨line_le (by omega), wComp_filter (q := fun k => !decide (k ∈ p.2.1)) (fun k _ K hK => hK) ?_⟩
  refine ⟨line_le (show p.2.1.length ≤ 1000 by omega), wComp_filter (q := fun k => !decide (k ∈ p.1)) (fun k _ K hK => hK) ?_⟩
  have l1 := List.length_filter_le (fun k => !decide (k ∈ p.2.1)) p.1
  have l2 := List.length_filter_le (fun k => !decide (k ∈ p.1)) p.2.1
  refine ⟨line_le ?_, ?_, hk⟩
  · show (p.1.filter fun k => !decide (k ∈ p.2.1)).length + (p.2.1.filter fun k => !decide (k ∈ p.1)).length ≤ 1000
    omega
  · rw [List.length_append]
    show (p.1.filter fun k => !decide (k ∈ p.2.1)).length + (p.2.1.filter fun k => !decide (k ∈ p.1)).length < 64
    omega
abbrev s_rising : Stmt := top 15
abbrev p_rising : List Str := ["_law_row_here"]
theorem sc_rising : FnScope ["_law_row_here", "_law_k"] p_rising (defScope s_rising) := by walk_at "sc"
abbrev A_rising (q : Cq) (k : Nat) := Fkq q "_law_rising" p_rising w_rising k
theorem ok_rising {f : Addr} {fd : FuncData} (F : Dq1 q "_law_rising" s_rising f fd) (B : Bn q.mg) : Gq q 2 f fd p_rising w_rising := by
  refine' fn_nice (fn_w (D' := Unit) (ms := []) (j := 1) F sc_rising rfl rfl fun cdv A outer s H E hr =>
      (sw_c (s1_for (is := []) (mb := []) (D1 := (List Int) × Int × Unit) (D2 := (List Int) × Int × Unit) (dep_of (by decide)) own1 rfl (iw_range2 rfl B.range ew_int (ew_len rfl B.len (er_w (ew_var 0 (pv 0)))) (fun h => pi_range2 rfl B.range h)) (gw_name 1 (pg_name (i := 1) sc_rising.nd rfl (Or.inl rfl)) (by decide))
      (sw_one (s1_if (tw_cm cm_ge (ew_ix (er_w (ew_var 0 (pv 0))) (ew_opI0 op_sub (ew_var 1 (pv 1)) ew_int)) (ew_ix (er_w (ew_var 0 (pv 0))) (ew_var 1 (pv 1))) (nomark _))
      (sw_one (s1_ret (eo_rep ew_bl)))
      sw_nil)) (by decide) (by decide))
      (sw_one (s1_ret (eo_rep ew_bl))))) fun p Kn Ke h => ?_
  walk_at "wl"
  obtain ⟨hl, hk⟩ := h
  refine ⟨⟨by decide, by decide, by omega, by omega⟩, ?_⟩
  exact rise_loop (l := p.1) (fun x s K es hx => by rw [es]; exact hx) (fun _ h => h) p.1.length 1 _ rfl (Nat.le_refl 1) (by omega) hk
abbrev s_whole : Stmt := top 17
abbrev p_whole : List Str := ["_law_found"]
theorem sc_whole : FnScope ["_law_found"] p_whole (defScope s_whole) := by walk_at "sc"
abbrev A_whole (q : Cq) (k : Nat) := Fkq q "_law_whole" p_whole w_whole k
theorem ok_whole {f : Addr} {fd : FuncData} (F : Dq1 q "_law_whole" s_whole f fd) (B : Bn q.mg) : Gq q 2 f fd p_whole w_whole := by
  refine' fn_nice (fn_w (D' := Unit) (ms := []) (j := 0) F sc_whole rfl rfl fun cdv A outer s H E hr =>
      (sw_one (s1_ret (eo_rep (ew_and (ew_isinst (ty := "int") rfl B.isinstance (pe_bltn (v := .ty "int") rfl B.int PyProof.Rows.boot_int rfl) (ew_var 0 (pv 0))) (ew_bop1 (ew_not (ew_isinst (ty := "bool") rfl B.isinstance (pe_bltn (v := .ty "bool") rfl B.bool PyProof.Rows.boot_bool rfl) (ew_var 0 (pv 0)))))))))) fun p Kn Ke h => ?_
  walk_at "wl"
  exact h
abbrev s_row : Stmt := top 18
abbrev p_row : List Str := ["_law_found"]
theorem sc_row : FnScope ["_law_found", "_law_one"] p_row (defScope s_row) := by walk_at "sc"
abbrev A_row (q : Cq) (k : Nat) := Fkq q "_law_row" p_row w_row k
theorem ok_row {f : Addr} {fd : FuncData} (F : Dq1 q "_law_row" s_row f fd) (G_whole : A_whole q 2) (B : Bn q.mg) : Gq q 3 f fd p_row w_row := by
  refine' fn_nice (fn_w (D' := Unit) (ms := []) (j := 1) F sc_row rfl rfl fun cdv A outer s H E hr =>
      (sw_c (s1_if (tw_not (tw_val (ew_isinst (ty := "list") rfl B.isinstance (pe_bltn (v := .ty "list") rfl B.list PyProof.Rows.boot_list rfl) (ew_var 0 (pv 0)))))
      (sw_one (s1_ret (eo_rep ew_bl)))
      sw_nil)
      (sw_c (s1_for (is := []) (mb := []) (D1 := (List Int) × Int × Unit) (D2 := (List Int) × Int × Unit) (dep_of (by decide)) own1 rfl (iw_val (ew_var 0 (pv 0))) (gw_name 1 (pg_name (i := 1) sc_row.nd rfl (Or.inl rfl)) (by decide))
      (sw_one (s1_if (tw_not (tw_val (ew_rep (eo_c2 G_whole hr rfl pass1 (al2_im (ew_var 1 (pv 1)) al2_nil)))))
      (sw_one (s1_ret (eo_rep ew_bl)))
      sw_nil)) (by decide) (by decide))
      (sw_one (s1_ret (eo_rep ew_bl)))))) fun p Kn Ke h => ?_
  walk_at "wl"
  rw [if_neg (by decide)]
  exact wFor_inv (fun (r : List Int) (b : List Int × WL.Un × Unit) => True) p.1 trivial (fun x r b _ _ K hK => hK _ trivial) fun _ _ => h
abbrev s_same : Stmt := top 19
abbrev p_same : List Str := ["_law_found", "_law_due"]
theorem sc_same : FnScope ["_law_found", "_law_due"] p_same (defScope s_same) := by walk_at "sc"
abbrev A_same (q : Cq) (k : Nat) := Fkq q "_law_same" p_same w_same k
theorem ok_same {f : Addr} {fd : FuncData} (F : Dq1 q "_law_same" s_same f fd) (G_row : A_row q 3) : Gq q 4 f fd p_same w_same := by
  refine' fn_nice (fn_w (D' := Unit) (ms := []) (j := 0) F sc_same rfl rfl fun cdv A outer s H E hr =>
      (sw_one (s1_ret (eo_rep (ew_and (ew_rep (eo_c2 G_row hr rfl pass1 (al2_im (ew_var 0 (pv 0)) al2_nil))) (ew_bop1 (ew_cmL (cm_eqL hr.units) (er_w (ew_var 0 (pv 0))) (er_w (ew_var 1 (pv 1))) (nomark _)))))))) fun p Kn Ke h => ?_
  walk_at "wl"
  exact h
abbrev s_wide : Stmt := top 20
abbrev p_wide : List Str := ["_law_bag_here"]
theorem sc_wide : FnScope ["_law_bag_here", "_law_found", "_law_k", "_law_size"] p_wide (defScope s_wide) := by walk_at "sc"
abbrev A_wide (q : Cq) (k : Nat) := Fkq q "_law_wide" p_wide w_wide k
theorem ok_wide {f : Addr} {fd : FuncData} (F : Dq1 q "_law_wide" s_wide f fd) (G_pull : Fkq q "_law_pull" ["_law_bag_here", "_law_many"] w_pull 2) (G_join : A_join q 2) (B : Bn q.mg) : Gq q 3 f fd p_wide w_wide := by
  refine' fn_nice (fn_w (D' := Unit) (ms := [0]) (j := 3) F sc_wide rfl rfl fun cdv A outer s H E hr =>
      (sw_c (s1_set 1 sc_wide.nd rfl (Or.inl rfl) (by decide) (eo_lst (α := Int) al_nil))
      (sw_c (s1_for (is := []) (mb := [0]) (D1 := Bg × (OL Int) × Int × Un × Unit) (D2 := Bg × (OL Int) × Int × Int × Unit) (dep_of (by decide)) own1 rfl (iw_range1 rfl B.range (ew_rep (eo_c2 G_pull hr rfl pass1 (al2_ow (i := 0) (pv 0) (al2_im ew_int al2_nil))))) (gw_name 2 (pg_name (i := 2) sc_wide.nd rfl (Or.inl rfl)) (by decide))
      (sw_c (s1_set 3 sc_wide.nd rfl (Or.inl rfl) (by decide) (eo_rep (ew_ix (er_w (ew_o (eo_lst (al_cons ew_int (al_cons ew_int (al_cons ew_int (al_cons ew_int (al_cons (ew_opI op_pow ew_int ew_int) al_nil)))))))) (ew_rep (eo_c2 G_pull hr rfl pass1 (al2_ow (i := 0) (pv 0) (al2_im ew_int al2_nil)))))))
      (sw_one (s1_set 1 sc_wide.nd rfl (Or.inl rfl) (by decide) (eo_c2 G_join hr rfl pass1 (al2_lend (i := 1) (pv 1) (al2_im (ew_o (eo_lst (al_cons (ew_rep (eo_c2 G_pull hr rfl pass1 (al2_ow (i := 0) (pv 0) (al2_im (ew_var 3 (pv 3)) al2_nil)))) al_nil))) al2_nil)))))) (by decide) (by decide))
      (sw_one (s1_retO 1 (pv 1)))))) fun p Kn Ke h => ?_
  walk_at "wl"
  refine pull_i (by decide) (by decide) fun n h0 h1 => ⟨⟨by omega, by omega⟩, ?_⟩
  have h1 : n < 11 := h1
  refine wFor_inv (fun (r : List Int) (b : Bg × OL Int × WL.Un × WL.Un × Unit) => Ris b.2.1.l ∧ (∀ x ∈ b.2.1.l, 0 ≤ x ∧ x < 1000000000) ∧ b.2.1.l.length + r.length ≤ 11) (rng 0 n) ⟨List.Pairwise.nil, (fun _ z => by cases z), by rw [rng_len]; show 0 + _ ≤ 11; omega⟩ ?_ ?_
  · rintro x r b _ ⟨g1, g2, g3⟩ K hK
    rw [List.length_cons] at g3
    refine ⟨by unfold CPow; decide, pull_i (by decide) (by decide) fun i i0 i1 => ?_⟩
    obtain ⟨y, e, y0, y1⟩ := size_at i0 i1
    refine ⟨y, e, pull_i y0 (by omega) fun z z0 z1 => ?_⟩
    have z1 : z < y := z1
    have jl := jn_le b.2.1.l [z]
    rw [List.length_singleton] at jl
    refine ⟨jn_len2 (by rw [List.length_singleton]; show b.2.1.l.length + 1 < 64; omega), hK _ ⟨jn_ris g1 (List.pairwise_singleton _ _), fun k hk => ?_, by show (jn b.2.1.l [z]).length + r.length ≤ 11; omega⟩⟩
    rcases jn_mem.mp hk with ⟨q, _⟩ | ⟨q, _⟩
    · exact g2 k q
    · rw [List.mem_singleton.mp q]; exact ⟨z0, by omega⟩
  · rintro b ⟨g1, g2, g3⟩
    refine h _ g1 ⟨?_, g2⟩
    have g3 : b.2.1.l.length + ([] : List Int).length ≤ 11 := g3
    show b.2.1.l.length ≤ 100
    exact Nat.le_trans (Nat.le_trans (Nat.le_add_right _ _) g3) (by decide)
abbrev s_read : Stmt := top 21
abbrev p_read : List Str := ["_law_text"]
theorem sc_read : FnScope ["_law_text", "_law_row_here", "_law_word"] p_read (defScope s_read) := by walk_at "sc"
theorem nd_read2 : (["_law_x"] : List Str).Nodup := by decide +kernel
abbrev A_read (q : Cq) (k : Nat) := Fkq q "_law_read" p_read w_read k
theorem ok_read {f : Addr} {fd : FuncData} (F : Dq1 q "_law_read" s_read f fd) (G_rising : A_rising q 2) (B : Bn q.mg) : Gq q 3 f fd p_read w_read := by
  refine' fn_nice (fn_w (D' := Unit) (ms := []) (j := 2) F sc_read rfl rfl fun cdv A outer s H E hr =>
      (sw_c (s1_if (tw_cm cm_eq (ew_var 0 (pv 0)) ew_str (nomark _))
      (sw_one (s1_ret (eo_oos (eo_lst (α := Int) al_nil))))
      sw_nil)
      (sw_c (s1_set 1 sc_read.nd rfl (Or.inl rfl) (by decide) (eo_lst (α := Int) al_nil))
      (sw_c (s1_for (is := []) (mb := []) (D1 := Str × (OL Int) × Str × Unit) (D2 := Str × (OL Int) × Str × Unit) (dep_of (by decide)) own1 rfl (iw_val (ew_o (eo_split (ew_var 0 (pv 0)) ew_str))) (gw_name 2 (pg_name (i := 2) sc_read.nd rfl (Or.inl rfl)) (by decide))
      (sw_c (s1_if (tw_w (ww_or (tw_cm cm_eq (ew_var 2 (pv 2)) ew_str (nomark _)) (ww_or (tw_cm cm_gt (ew_slen rfl B.len (ew_var 2 (pv 2))) ew_int (nomark _)) (ww_or1 (tw_neS hr.units (ew_o (eo_comp (Ts := ["_law_x"]) (Fr := []) (idx := []) (k := 1) (mb := []) (is := []) (cl := []) rfl (iw_str (ew_var 2 (pv 2))) ⟨rfl, rfl, by decide +kernel, by decide +kernel, (fun x c h => by
        cases h), (fc (fun z => by cases z) (fc (fun z => by cases z) fnil)),
        (fun j x h => by cases h), rfl⟩ rfl (hmb_of rfl) (fun s₀ H₀ C ex pn => (gw_name 0 (pg_name (i := 0) nd_read2 rfl (Or.inl rfl)) (by decide))) (fun s₀ H₀ C ex pn => (tws_one (tw_cm cm_snotin (ew_var 0 (pv 0)) ew_str (by with_unfolding_all rfl)))) (fun s₀ H₀ C ex pn => (ew_var 0 (pv 0))))) (ew_o (eo_lst (α := Str) al_nil)) (nomark _))))))
      (sw_one (s1_ret eo_oon))
      sw_nil)
      (sw_c (s1_if (tw_w (ww_and (tw_cm cm_eq (ew_six (ew_var 2 (pv 2)) ew_int (fun _ _ => rfl)) ew_str (nomark _)) (ww_and1 (tw_cm cm_ne (ew_var 2 (pv 2)) ew_str (nomark _)))))
      (sw_one (s1_ret eo_oon))
      sw_nil)
      (sw_one (s1_append 1 (pv 1) (ew_intS rfl B.int (ew_var 2 (pv 2))) (fun h => ps_expr (pe_bm PySem.F.plainAttrs_list PySem.F.slot_list_append PySem.F.type_list_append mt_append (pv 1) h)))))) (by decide) (by decide))
      (sw_c (s1_if (tw_not (tw_val (ew_rep (eo_c2 G_rising hr rfl pass1 (al2_lend (i := 1) (pv 1) al2_nil)))))
      (sw_one (s1_ret eo_oon))
      sw_nil)
      (sw_one (s1_retOo 1 (pv 1)))))))) fun p Kn Ke h => ?_
  walk_at "wl"
  obtain ⟨⟨hl, ha⟩, h⟩ := h
  by_cases h1 : p.1 = Str.ofString "-"
  · rw [if_pos (decide_eq_true h1)]
    unfold rdS at h
    rw [if_pos h1] at h
    exact h
  rw [if_neg (by rw [decide_eq_true_eq]; exact h1)]
  unfold rdS at h
  rw [if_neg h1] at h
  rw [plus_eq]
  have sl := PyProof.Rows.split_le p.1 plus
  refine ⟨⟨by decide +kernel, by rw [sizeLine_eq]; omega⟩, ?_⟩
  refine read_loop (Q := Kn ⟨none⟩ (⟨⟩, ())) (N := 200000) (Pz := fun z => z.length ≤ 100000 ∧ Txt.isascii z = true) (fun z s K hz hs hK => ?_) _ _ (fun z hz => ⟨Nat.le_trans (split_short hz) hl, split_asc ha hz⟩) (by show 0 + _ ≤ 200000; omega) ?_
  · obtain ⟨z1, z2⟩ := hz
    by_cases e0 : z = Str.ofString ""
    · rw [if_pos (decide_eq_true e0), if_pos rfl]
      rw [rdN_no fun g => ((dig_all z2).mp (good_iff.mp g).2.1).1 (nil_str.mp e0)] at hK
      exact hK
    rw [if_neg (by rw [decide_eq_true_eq]; exact e0)]
    refine ⟨by rw [sizeLine_eq]; omega, ?_⟩
    by_cases e1 : z.length ≤ 9
    · rw [if_neg (by rw [decide_eq_true_eq]; omega)]
      refine ⟨z2, by unfold sgn; rw [List.length_map, Array.length_toList, sizeLine_eq]; exact Nat.le_trans z1 (by decide), ?_⟩
      refine wComp_filter (q := fun d => !!(Builtin.Str.occurrences (Str.ofString "0123456789") d 0 (Str.ofString "0123456789").length 1).isEmpty) (fun d _ K hK => hK) ?_
      refine ⟨⟨fun d hd => ?_, fun _ q => by cases q⟩, ?_⟩
      · have hd := (List.mem_filter.mp hd).1
        unfold sgn at hd
        obtain ⟨c, hc, rfl⟩ := List.mem_map.mp hd
        have : c < 128 := asc_all.mp z2 c hc
        show (#[c] : Array Nat).all (fun c => decide (c < 0x110000)) = true
        simp
        omega
      · by_cases e2 : PySem.NumText.AllDigits z.cps.toList
        · rw [if_neg (by rw [decide_eq_true (no_figs.mpr e2)]; decide)]
          refine num_step (P := fun n => s.2.1.l.length < sizeLine ∧ K (s.1, ⟨s.2.1.l ++ [n]⟩, ⟨⟩, s.2.2.2)) z2 ((dig_all z2).mpr ⟨fun q => e0 (nil_str.mpr q), e2⟩) e1 ?_
          cases e : rdN z with
          | none => rw [e] at hK; exact hK
          | some n => rw [e] at hK; exact ⟨by rw [sizeLine_eq]; omega, hK⟩
        · rw [if_pos (by rw [decide_eq_false (fun q => e2 (no_figs.mp q))]; rfl)]
          rw [rdN_no fun g => e2 ((dig_all z2).mp (good_iff.mp g).2.1).2] at hK
          exact hK
    · rw [if_pos (decide_eq_true (by omega)), if_pos rfl]
      rw [rdN_no fun g => e1 (good_iff.mp g).2.2.1] at hK
      exact hK
  · cases e : rdL (Txt.split p.1 plus) with
    | none => rw [e] at h; exact h
    | some l =>
      rw [e] at h
      have ll := rdL_len e
      refine ⟨by show ([] ++ l).length ≤ 1000000; rw [List.nil_append]; omega, ?_⟩
      show if (!asc l) = true then _ else _
      cases ea : asc l with
      | true => rw [if_neg (by decide)]; dsimp only at h; rw [if_pos ea] at h; exact h
      | false => rw [if_pos (by decide)]; dsimp only at h; rw [if_neg (by rw [ea]; decide)] at h; exact h
abbrev s_told : Stmt := top 22
abbrev p_told : List Str := ["_law_text"]
theorem sc_told : FnScope ["_law_text", "_law_told_here", "e"] p_told (defScope s_told) := by walk_at "sc"
abbrev A_told (q : Cq) (k : Nat) := Fkq q "_law_told" p_told w_told k
theorem ok_told {f : Addr} {fd : FuncData} (F : Dq1 q "_law_told" s_told f fd) (G_read_sum : A_read_sum q XB 4) (X_BadRow : XcJ q.P q.w q.K q.mg q.base 3 "BadRow" XB "at" 0) : Gq q 5 f fd p_told w_told := by
  refine' fn_nice (fn_w (D' := Unit) (ms := []) (j := 2) F sc_told rfl rfl fun cdv A outer s H E hr =>
      (sw_tryA (D1 := Str × ((Option (List Int)) × Int) × Un × Unit) (D' := Unit) 1 2 (dep_of (by decide)) rfl X_BadRow rfl sc_told.nd rfl (Or.inl rfl) (by first | exact .inl rfl | exact .inr rfl) rfl rfl (by decide) (pv 1) (fun E1 pn' =>
      (sw_one (s1_set 1 sc_told.nd rfl (Or.inl rfl) (by decide) (eo_rep (ew_pair (ew_some (ew_o (eo_c2 G_read_sum hr rfl passT (al2_im (ew_var 0 (pv 0)) al2_nil)))) (ew_neg ew_int)))))) rfl rfl)) fun p Kn Ke h => ?_
  walk_at "wl"
  obtain ⟨hl, h⟩ := h
  refine ⟨hl, ?_⟩
  show match rdS p.1 with | some l => _ | none => _
  cases e : rdS p.1 with
  | none => rw [e] at h; exact ⟨rfl, h⟩
  | some l => rw [e] at h; exact h
abbrev s_spoilt : Stmt := top 23
abbrev p_spoilt : List Str := ["_law_bag_here", "_law_text"]
theorem sc_spoilt : FnScope ["_law_bag_here", "_law_text", "_law_odd", "_law_way", "_law_at", "_law_sign"] p_spoilt (defScope s_spoilt) := by walk_at "sc"
abbrev A_spoilt (q : Cq) (k : Nat) := Fkq q "_law_spoilt" p_spoilt w_spoilt k
theorem ok_spoilt {f : Addr} {fd : FuncData} (F : Dq1 q "_law_spoilt" s_spoilt f fd) (G_pull : Fkq q "_law_pull" ["_law_bag_here", "_law_many"] w_pull 2) (B : Bn q.mg) : Gq q 3 f fd p_spoilt w_spoilt := by
  refine' fn_nice (fn_w (D' := Unit) (ms := [0]) (j := 4) F sc_spoilt rfl rfl fun cdv A outer s H E hr =>
      (sw_c (s1_set 2 sc_spoilt.nd rfl (Or.inl rfl) (by decide) (eo_lst (al_cons ew_str (al_cons ew_str (al_cons ew_str (al_cons ew_str (al_cons ew_str (al_cons ew_str (al_cons ew_str (al_cons ew_str (al_cons ew_str (al_cons ew_str (al_cons ew_str (al_cons ew_str (al_cons ew_str (al_cons ew_str (al_cons ew_str (al_cons ew_str al_nil))))))))))))))))))
      (sw_c (s1_set 3 sc_spoilt.nd rfl (Or.inl rfl) (by decide) (eo_c2 G_pull hr rfl pass1 (al2_ow (i := 0) (pv 0) (al2_im ew_int al2_nil))))
      (sw_c (s1_if (tw_cm cm_eq (ew_var 3 (pv 3)) ew_int (nomark _))
      (sw_one (s1_ret (eo_rep (ew_ix (er_ow 2 (pv 2)) (ew_rep (eo_c2 G_pull hr rfl pass1 (al2_ow (i := 0) (pv 0) (al2_im (ew_len rfl B.len (er_ow 2 (pv 2))) al2_nil))))))))
      sw_nil)
      (sw_c (s1_set 4 sc_spoilt.nd rfl (Or.inl rfl) (by decide) (eo_c2 G_pull hr rfl pass1 (al2_ow (i := 0) (pv 0) (al2_im (ew_opI0 op_add (ew_slen rfl B.len (ew_var 1 (pv 1))) ew_int) al2_nil))))
      (sw_c (s1_set 5 sc_spoilt.nd rfl (Or.inl rfl) (by decide) (eo_rep (ew_six ew_str (ew_rep (eo_c2 G_pull hr rfl pass1 (al2_ow (i := 0) (pv 0) (al2_im ew_int al2_nil)))) (fun _ _ => rfl))))
      (sw_c (s1_if (tw_cm cm_eq (ew_var 3 (pv 3)) ew_int (nomark _))
      (sw_one (s1_ret (eo_rep (ew_scat (ew_ssl (ew_var 1 (pv 1)) ow_none (ow_some (ew_var 4 (pv 4)))) (ew_ssl (ew_var 1 (pv 1)) (ow_some (ew_opI0 op_add (ew_var 4 (pv 4)) ew_int)) ow_none)))))
      sw_nil)
      (sw_c (s1_if (tw_cm cm_eq (ew_var 3 (pv 3)) ew_int (nomark _))
      (sw_one (s1_ret (eo_rep (ew_scat (ew_scat (ew_ssl (ew_var 1 (pv 1)) ow_none (ow_some (ew_var 4 (pv 4)))) (ew_var 5 (pv 5))) (ew_ssl (ew_var 1 (pv 1)) (ow_some (ew_opI0 op_add (ew_var 4 (pv 4)) ew_int)) ow_none)))))
      sw_nil)
      (sw_one (s1_ret (eo_rep (ew_scat (ew_scat (ew_ssl (ew_var 1 (pv 1)) ow_none (ow_some (ew_var 4 (pv 4)))) (ew_var 5 (pv 5))) (ew_ssl (ew_var 1 (pv 1)) (ow_some (ew_var 4 (pv 4))) ow_none))))))))))))) fun p Kn Ke h => ?_
  walk_at "wl"
  obtain ⟨⟨hl, ha⟩, h⟩ := h
  refine pull_i (by decide) (by decide) fun x x0 x1 => ?_
  by_cases e0 : x = 0
  · rw [if_pos (decide_eq_true e0)]
    refine pull_i (by decide) (by decide) fun i i0 i1 => ?_
    obtain ⟨z, e, zm⟩ := at_mem (l := odd) i0 i1
    exact ⟨z, e, h z (odd_ok z zm).1 (odd_ok z zm).2⟩
  rw [if_neg (by rw [decide_eq_true_eq]; exact e0)]
  have L : p.2.1.length ≤ sizeLine := by rw [sizeLine_eq]; omega
  refine ⟨L, pull_i (by omega) (by omega) fun a a0 a1 => pull_i (by decide) (by decide) fun k k0 k1 => ⟨by decide +kernel, ?_⟩⟩
  obtain ⟨c, e, cm⟩ := at_mem (l := (Str.ofString "0123456789+- ,ax_.").cps.toList) k0 (by rw [sign_len]; exact k1)
  refine ⟨c, e, ?_⟩
  have ca := one_asc (sign_ok c cm)
  have q1 := sl_len p.2.1 none (some a)
  have q2 := sl_len p.2.1 (some (a + 1)) none
  have q3 := sl_len p.2.1 (some a) none
  have s1 : Txt.isascii (StrLaws.sliceText p.2.1 none (some a)) = true := sl_asc ha
  have s2 : Txt.isascii (StrLaws.sliceText p.2.1 (some (a + 1)) none) = true := sl_asc ha
  have s3 : Txt.isascii (StrLaws.sliceText p.2.1 (some a) none) = true := sl_asc ha
  have lc : ({ cps := #[c] } : Str).length = 1 := rfl
  have la : ∀ x y : Str, (x ++ y).length = x.length + y.length := PySem.Str.length_append
  by_cases e1 : x = 1
  · rw [if_pos (decide_eq_true e1)]
    exact ⟨L, L, by rw [sizeLine_eq]; omega, h _ (by rw [la]; omega) (app_asc s1 s2)⟩
  rw [if_neg (by rw [decide_eq_true_eq]; exact e1)]
  by_cases e2 : x = 2
  · rw [if_pos (decide_eq_true e2)]
    exact ⟨L, by rw [sizeLine_eq]; omega, L, by rw [sizeLine_eq, la]; omega, h _ (by rw [la, la]; omega) (app_asc (app_asc s1 ca) s2)⟩
  rw [if_neg (by rw [decide_eq_true_eq]; exact e2)]
  exact ⟨L, by rw [sizeLine_eq]; omega, L, by rw [sizeLine_eq, la]; omega, h _ (by rw [la, la]; omega) (app_asc (app_asc s1 ca) s3)⟩
end
end K7
set_option maxHeartbeats 4000000
namespace K7
variable [L2.GX]
open PySem L2 WL
open WL.Rep (rp)
open WL.Ow (sl)
open WL.Sls (rel)
local macro_rules | `(tactic| walk_at "wl") => `(tactic| dsimp only [At.get, At.hole, Pt.put, Ent.ent, Pj.pj, Fg.fg, Sel.sel, Sel.rest, Sel.mrg, Pre.pre, Pre.suf, at0, atS, pt0, ptS, ent0, entS, entC, pjNil, pjUn, pjCons, fgId, fgUn, fgCons, selNil, selCons, pre0, preS, stepC, stepCE, id, ID.get, ID.set, wSq])
local macro_rules | `(tactic| walk_at "sc") => `(tactic| exact ⟨rfl, rfl, rfl, by decide +kernel, rfl, by decide +kernel, by decide +kernel⟩)
abbrev s_bag : Stmt := top 16
theorem bag_ok {K : PySem.W.Frag} {p : Scr K × Unit} {Kn : Bg → WL.Un × Unit → Prop} {Ke : Addr → WL.Un × Unit → Prop} (k : Kn ⟨⟩ (⟨⟩, ())) : w_bag K p Kn Ke := k
theorem num_signs {x : Int} (h : 0 ≤ x) : (num x).cps.toList = (Nat.toDigits 10 x.toNat).map Char.toNat := by
  obtain ⟨m, rfl⟩ := Int.eq_ofNat_of_zero_le h
  exact PySem.W.KIN.signs_num m
theorem num_dig {x : Int} (h : 0 ≤ x) : PySem.NumText.AllDigits (num x).cps.toList := by
  rw [num_signs h]
  intro c hc
  obtain ⟨ch, hch, e⟩ := List.mem_map.mp hc
  have r := PyProof.Rows.digit_range (Nat.isDigit_of_mem_toDigits (by decide) (by decide) hch)
  rw [← e]
  exact r
theorem digs_ne (m : Nat) : Nat.toDigits 10 m ≠ [] := by
  by_cases h : m < 10
  · rw [Nat.toDigits_of_lt_base h]; simp
  · have hm : m % 10 < 10 := Nat.mod_lt m (by decide)
    have t : Nat.toDigits 10 (m / 10) ++ Nat.toDigits 10 (m % 10) = Nat.toDigits 10 (10 * (m / 10) + m % 10) := Nat.toDigits_append_toDigits (by decide) (by omega) hm
    rw [Nat.div_add_mod] at t
    rw [← t, Nat.toDigits_of_lt_base hm]
    simp
theorem num_ne {x : Int} (h : 0 ≤ x) : (num x).cps.toList ≠ [] := by
  rw [num_signs h]
  exact fun e => digs_ne _ (List.map_eq_nil_iff.mp e)
theorem head_app {α : Type} {a b : List α} (h : a ≠ []) : (a ++ b).head? = a.head? := by
  cases a with
  | nil => exact absurd rfl h
  | cons x r => rfl
theorem dch : ∀ d : Nat, d < 10 → (Nat.digitChar d).toNat = 48 → d = 0 := by decide
theorem digs_head (m : Nat) : ((Nat.toDigits 10 m).map Char.toNat).head? = some 48 → m = 0 := by
  induction m using Nat.strongRecOn with
  | _ m ih =>
    intro e
    by_cases h : m < 10
    · rw [Nat.toDigits_of_lt_base h] at e
      exact dch m h (Option.some.inj e)
    · have hm : m % 10 < 10 := Nat.mod_lt m (by decide)
      have t : Nat.toDigits 10 (m / 10) ++ Nat.toDigits 10 (m % 10) = Nat.toDigits 10 (10 * (m / 10) + m % 10) := Nat.toDigits_append_toDigits (by decide) (by omega) hm
      rw [Nat.div_add_mod] at t
      rw [← t, List.map_append, head_app (fun q => digs_ne _ (List.map_eq_nil_iff.mp q))] at e
      have := ih (m / 10) (by omega) e
      omega
theorem num_good {x : Int} (h : 0 ≤ x ∧ x < 1000000000) : good (num x) = true := by
  have d := num_dig h.1
  have a : Txt.isascii (num x) = true := asc_all.mpr fun c hc => by have := d c hc; omega
  refine good_iff.mpr ⟨a, (dig_all a).mpr ⟨num_ne h.1, d⟩, num_len h, fun ⟨q1, q2⟩ => q2 ?_⟩
  rw [num_signs h.1] at q1
  have e := digs_head _ q1
  have : x = 0 := by omega
  rw [this]
  decide +kernel
theorem num_rd {x : Int} (h : 0 ≤ x ∧ x < 1000000000) : rdN (num x) = some x := by
  rw [rdN_yes (num_good h)]
  exact PySem.W.KIN.num_reads h.1 (by have := h.2; omega)
theorem nums_rd : ∀ {l : List Int}, (∀ x ∈ l, 0 ≤ x ∧ x < 1000000000) → rdL (l.map num) = some l
  | [], _ => rfl
  | x :: r, h => by
    rw [List.map_cons]
    unfold rdL
    rw [num_rd (h x List.mem_cons_self)]
    dsimp only
    rw [nums_rd fun y hy => h y (List.mem_cons_of_mem _ hy)]
    rfl
theorem cut_eq : ∀ {a b a' b' : List Nat}, 43 ∉ a → 43 ∉ a' → a ++ 43 :: b = a' ++ 43 :: b' → a = a' ∧ b = b'
  | [], b, [], b', _, _, e => ⟨rfl, by injection e⟩
  | [], b, x :: r, b', _, h, e => by
    rw [List.nil_append, List.cons_append] at e
    injection e with e1 _
    exact absurd (e1 ▸ List.mem_cons_self) h
  | x :: r, b, [], b', h, _, e => by
    rw [List.nil_append, List.cons_append] at e
    injection e with e1 _
    exact absurd (e1 ▸ List.mem_cons_self) h
  | x :: r, b, y :: r', b', h, h', e => by
    rw [List.cons_append, List.cons_append] at e
    injection e with e1 e2
    obtain ⟨q1, q2⟩ := cut_eq (fun z => h (List.mem_cons_of_mem _ z)) (fun z => h' (List.mem_cons_of_mem _ z)) e2
    rw [e1, q1]
    exact ⟨rfl, q2⟩
theorem str_ext {a b : Str} (h : a.cps.toList = b.cps.toList) : a = b := by
  obtain ⟨⟨x⟩⟩ := a
  obtain ⟨⟨y⟩⟩ := b
  have h : x = y := h
  rw [h]
theorem join_signs (x y : Str) (r : List Str) : (Str.join plus (x :: y :: r)).cps.toList = x.cps.toList ++ 43 :: (Str.join plus (y :: r)).cps.toList := by
  show (x ++ plus ++ Str.join plus (y :: r)).cps.toList = _
  rw [PySem.Str.cps_append, PySem.Str.cps_append, Array.toList_append, Array.toList_append]
  show x.cps.toList ++ [43] ++ _ = _
  rw [List.append_assoc]
  rfl
theorem join_inj : ∀ {ps qs : List Str}, ps ≠ [] → qs ≠ [] → (∀ z ∈ ps, 43 ∉ z.cps.toList) → (∀ z ∈ qs, 43 ∉ z.cps.toList) → Str.join plus ps = Str.join plus qs → ps = qs
  | [x], [y], _, _, _, _, e => by have e : x = y := e; rw [e]
  | [x], y :: w :: r, _, _, h, _, e => by
    have e : x = Str.join plus (y :: w :: r) := e
    refine absurd ?_ (h x List.mem_cons_self)
    rw [e, join_signs]
    exact List.mem_append_right _ List.mem_cons_self
  | x :: w :: r, [y], _, _, _, h, e => by
    have e : Str.join plus (x :: w :: r) = y := e
    refine absurd ?_ (h y List.mem_cons_self)
    rw [← e, join_signs]
    exact List.mem_append_right _ List.mem_cons_self
  | x :: w :: r, y :: w' :: r', _, _, h, h', e => by
    have e : (Str.join plus (x :: w :: r)).cps.toList = (Str.join plus (y :: w' :: r')).cps.toList := by rw [e]
    rw [join_signs, join_signs] at e
    obtain ⟨e1, e2⟩ := cut_eq (h x List.mem_cons_self) (h' y List.mem_cons_self) e
    rw [str_ext e1, join_inj (ps := w :: r) (qs := w' :: r') (by simp) (by simp) (fun z hz => h z (List.mem_cons_of_mem _ hz)) (fun z hz => h' z (List.mem_cons_of_mem _ hz)) (str_ext e2)]
  | [], _, h, _, _, _, _ => absurd rfl h
  | _, [], _, h, _, _, _ => absurd rfl h
theorem split_join {ps : List Str} (h : ps ≠ []) (hf : ∀ z ∈ ps, 43 ∉ z.cps.toList) : Txt.split (Str.join plus ps) plus = ps := by
  refine join_inj ?_ h (fun z hz => StrLaws.split_free _ 43 z hz) hf (StrLaws.join_split _ plus)
  intro e
  have := PyProof.Rows.split_pos (Str.join plus ps) plus
  rw [e] at this
  simp at this
theorem num_free {x : Int} (h : 0 ≤ x) : 43 ∉ (num x).cps.toList := fun q => by have := num_dig h 43 q; omega
theorem shw_rd {l : List Int} (hr : Ris l) (hf : Few l) : rdS (shw l) = some l := by
  unfold shw
  by_cases e : l = []
  · rw [if_pos e, e]
    unfold rdS
    rw [if_pos rfl]
  · rw [if_neg e]
    have ej : Txt.join plus (l.map num) = Str.join plus (l.map num) := StrLaws.glued_eq_join _ _
    have ne : l.map num ≠ [] := fun q => e (List.map_eq_nil_iff.mp q)
    have fr : ∀ z ∈ l.map num, 43 ∉ z.cps.toList := fun z hz => by
      obtain ⟨x, hx, rfl⟩ := List.mem_map.mp hz
      exact num_free (hf.2 x hx).1
    have nm : Str.join plus (l.map num) ≠ ("-" : Str) := fun q => by
      cases l with
      | nil => exact e rfl
      | cons x r =>
        have hx := (hf.2 x List.mem_cons_self).1
        cases c : (num x).cps.toList with
        | nil => exact num_ne hx c
        | cons y s =>
          have m : y ∈ (num x).cps.toList := by rw [c]; exact List.mem_cons_self
          have m2 := mem_join (y := plus) (ps := (x :: r).map num) (z := num x) (List.mem_map.mpr ⟨x, List.mem_cons_self, rfl⟩) m
          rw [q] at m2
          have d := num_dig hx y m
          have k : (Str.ofString "-").cps.toList = [45] := by decide +kernel
          rw [k] at m2
          have := List.mem_singleton.mp m2
          omega
    rw [ej]
    unfold rdS
    rw [if_neg nm, split_join ne fr, nums_rd hf.2]
    dsimp only
    rw [if_pos ((asc_iff _).mpr hr)]
theorem join_mem {y : Str} {c : Nat} : ∀ {ps : List Str}, c ∈ (Str.join y ps).cps.toList → (∃ z ∈ ps, c ∈ z.cps.toList) ∨ c ∈ y.cps.toList
  | [], h => by cases h
  | [x], h => .inl ⟨x, List.mem_cons_self, h⟩
  | x :: w :: r, h => by
    have h : c ∈ (x ++ y ++ Str.join y (w :: r)).cps.toList := h
    rw [PySem.Str.cps_append, PySem.Str.cps_append, Array.toList_append, Array.toList_append] at h
    rcases List.mem_append.mp h with q | q
    · rcases List.mem_append.mp q with q | q
      · exact .inl ⟨x, List.mem_cons_self, q⟩
      · exact .inr q
    · rcases join_mem q with ⟨z, hz, q⟩ | q
      · exact .inl ⟨z, List.mem_cons_of_mem _ hz, q⟩
      · exact .inr q
theorem shw_ok {l : List Int} (hf : Few l) : (shw l).length ≤ 10000 ∧ Txt.isascii (shw l) = true := by
  unfold shw
  by_cases e : l = []
  · rw [if_pos e]; exact ⟨by decide +kernel, by decide +kernel⟩
  · rw [if_neg e]
    have ej : Txt.join plus (l.map num) = Str.join plus (l.map num) := StrLaws.glued_eq_join _ _
    rw [ej]
    refine ⟨?_, asc_all.mpr fun c hc => ?_⟩
    · have a := StrLaws.join_length_le plus (l.map num)
      have b := StrLaws.sumLen_le (B := 9) (l.map num) fun y hy => by
        obtain ⟨x, hx, rfl⟩ := List.mem_map.mp hy
        exact num_len (hf.2 x hx)
      rw [List.length_map] at a b
      have p : plus.length = 1 := rfl
      rw [p] at a
      have := hf.1
      omega
    · rcases join_mem hc with ⟨z, hz, q⟩ | q
      · obtain ⟨x, hx, rfl⟩ := List.mem_map.mp hz
        have := num_dig (hf.2 x hx).1 c q
        omega
      · have : c = 43 := List.mem_singleton.mp q
        omega
theorem reps_size (a : Array Nat) : ∀ (n : Nat) (acc : Array Nat), ((List.replicate n a).foldl (· ++ ·) acc).size = acc.size + n * a.size
  | 0, acc => by simp
  | n + 1, acc => by
    rw [List.replicate_succ, List.foldl_cons, reps_size a n, Array.size_append, Nat.succ_mul]
    omega
theorem reps_mem {a : Array Nat} {c : Nat} : ∀ (n : Nat) (acc : Array Nat), c ∈ ((List.replicate n a).foldl (· ++ ·) acc).toList → c ∈ acc.toList ∨ c ∈ a.toList
  | 0, acc, h => .inl h
  | n + 1, acc, h => by
    rw [List.replicate_succ, List.foldl_cons] at h
    rcases reps_mem n _ h with q | q
    · rw [Array.toList_append] at q
      exact List.mem_append.mp q
    · exact .inr q
theorem rd_long {z : Str} (hm : 43 ∉ z.cps.toList) (hl : 9 < z.length) : rdS z = none := by
  have nm : z ≠ ("-" : Str) := fun q => by
    rw [q] at hl
    exact absurd hl (by decide +kernel)
  have sp : Txt.split z plus = [z] := split_join (ps := [z]) (by simp) fun y hy => by rw [List.mem_singleton.mp hy]; exact hm
  unfold rdS
  rw [if_neg nm, sp]
  unfold rdL
  rw [rdN_no fun g => by have := (good_iff.mp g).2.2.1; omega]
theorem sev (i : Int) (h : 10 ≤ i) : (Txt.mul (Str.ofString "7") i).length = i.toNat ∧ rdS (Txt.mul (Str.ofString "7") i) = none := by
  have e : (Str.ofString "7").cps = #[55] := by decide +kernel
  have el : (Str.ofString "7").length = 1 := by decide +kernel
  have s : Txt.mul (Str.ofString "7") i = ⟨(List.replicate i.toNat #[55]).foldl (· ++ ·) #[]⟩ := by
    unfold Txt.mul
    rw [if_neg (by omega), el, if_neg (by simp; omega), e]
  have hl : (Txt.mul (Str.ofString "7") i).length = i.toNat := by
    rw [s]
    unfold Str.length
    dsimp only
    rw [reps_size]
    simp
  refine ⟨hl, rd_long (fun q => ?_) (by rw [hl]; omega)⟩
  rw [s] at q
  rcases reps_mem _ _ q with q | q
  · cases q
  · have := List.mem_singleton.mp q; omega
theorem sev_ok : MulOk (Str.ofString "7") 5000 := by
  have e : (Str.ofString "7").length = 1 := by decide +kernel
  unfold MulOk
  rw [e]
  exact ⟨by decide, fun _ _ => by decide, fun _ _ => by decide +kernel⟩
theorem sev_len : (Txt.mul (Str.ofString "7") 5000).length ≤ 100000 := by rw [(sev 5000 (by decide)).1]; decide
theorem sev_rd : rdS (Txt.mul (Str.ofString "7") 5000) = none := (sev 5000 (by decide)).2
theorem law_rest {z0 : Str} {P0 : Prop} (p0 : P0) (zl : z0.length ≤ 100000) (zr : rdS z0 = none) {XB : Addr} {g : Bg} {l : List Int} {Kn : Bool → WL.Un × Unit → Prop} {Ke : Addr → WL.Un × Unit → Prop} (hr : Ris l) (hf : Few l) (h : Kn true (⟨⟩, ())) :
    w_read_sum XB (shw l, ()) (fun x _ => w_same (x.l, l, ()) (fun x _ => if (!x) = true then Kn false (⟨⟩, ()) else P0 ∧ w_told (z0, ()) (fun x _ => if (!decide (x = (none, 0))) = true then Kn false (⟨⟩, ()) else
      w_spoilt (g, shw l, ()) (fun z _ => w_read (z, ()) (fun x7 _ => w_told (z, ()) (fun x8 _ => if x7.o.isNone = true then if x8.1.isNone = true then w_whole (x8.2, ()) (fun x9 _ => if x9 = true then Kn (decide (x8.2 = 0)) (⟨⟩, ()) else Kn false (⟨⟩, ())) fun C _ => Ke C (⟨⟩, ()) else Kn false (⟨⟩, ())
        else ∃ y, x8.1 = some y ∧ ∃ y1, x7.o = some y1 ∧ w_same (y, y1, ()) (fun x _ => Kn x (⟨⟩, ())) fun C _ => Ke C (⟨⟩, ())) fun C _ => Ke C (⟨⟩, ())) fun C _ => Ke C (⟨⟩, ())) fun C _ => Ke C (⟨⟩, ())) fun C _ => Ke C (⟨⟩, ())) fun C _ => Ke C (⟨⟩, ())) fun C _ => Ke C (⟨⟩, ()) := by
  have ok := shw_ok hf
  refine ⟨Nat.le_trans ok.1 (by decide), ?_⟩
  show match rdS (shw l) with | some l => _ | none => _
  rw [shw_rd hr hf]
  show if (!decide (l = l)) = true then _ else _
  rw [if_neg (by rw [decide_eq_true rfl]; decide)]
  refine ⟨p0, zl, ?_⟩
  dsimp only
  rw [zr, if_neg (by decide)]
  refine ⟨ok, fun z z1 z2 => ⟨⟨Nat.le_trans z1 (by decide), z2⟩, ⟨Nat.le_trans z1 (by decide), ?_⟩⟩⟩
  dsimp only
  cases e : rdS z with
  | none => exact h
  | some k =>
    refine ⟨k, rfl, k, rfl, ?_⟩
    show Kn (decide (k = k)) _
    rw [decide_eq_true rfl]
    exact h
section
variable {q : Cq} {XB XS : Addr}
abbrev s_law : Stmt := top 24
theorem sc_law : FnScope ["_law_script", "_law_bag_here", "_law_row_here", "_law_due", "_law_handed", "_law_text", "_law_spoilt_here", "_law_told_here"] ["_law_script"] (defScope s_law) := by walk_at "sc"
theorem nd_law1 : (["_law_x"] : List Str).Nodup := by decide +kernel
theorem ok_law {f : Addr} {fd : FuncData} (F : Dq1 q "law" s_law f fd) (G_bag : Fkq q "_law_bag" ["_law_script"] (w_bag q.K) 5) (G_wide : A_wide q 5) (G_shown_sum : A_shown_sum q 5) (G_same : A_same q 5) (G_read_sum : A_read_sum q XB 5) (G_told : A_told q 5) (G_spoilt : A_spoilt q 5) (G_read : A_read q 5) (G_whole : A_whole q 5) (B : Bn q.mg) : Gq q 6 f fd ["_law_script"] (w_law q.K) := by
  refine' fn_nice (fn_w (D' := Unit) (ms := []) (j := 7) F sc_law rfl rfl fun cdv A outer s H E hr =>
      (sw_c (s1_set 1 sc_law.nd rfl (Or.inl rfl) (by decide) (eo_c2 G_bag hr rfl pass1 (al2_im (ew_var 0 (pv 0)) al2_nil)))
      (sw_c (s1_set 2 sc_law.nd rfl (Or.inl rfl) (by decide) (eo_c2 G_wide hr rfl pass1 (al2_ow (i := 1) (pv 1) al2_nil)))
      (sw_c (s1_set 3 sc_law.nd rfl (Or.inl rfl) (by decide) (eo_rep ew_str))
      (sw_c (s1_if (tw_cmL (cm_neL hr.units) (er_ow 2 (pv 2)) (er_w (ew_o (eo_lst (α := Int) al_nil))) (nomark _))
      (sw_one (s1_set 3 sc_law.nd rfl (Or.inl rfl) (by decide) (eo_rep (ew_join ew_str (ew_o (eo_comp (Ts := ["_law_x"]) (Fr := []) (idx := []) (k := 1) (mb := []) (is := [2]) (cl := []) rfl (iw_own 2 (pv 2) (by decide)) ⟨rfl, rfl, by decide +kernel, by decide +kernel, (fun x c h => by
        cases h), (fc (fun z => by cases z) (fc (fun z => by cases z) (fc (fun z => by cases z) fnil))),
        (fun j x h => by cases h), rfl⟩ rfl (hmb_of rfl) (fun s₀ H₀ C ex pn => (gw_name 0 (pg_name (i := 0) nd_law1 rfl (Or.inl rfl)) (by decide))) (fun s₀ H₀ C ex pn => tws_nil) (fun s₀ H₀ C ex pn => (ew_strI rfl B.str (ew_var 0 (pv 0))))))))))
      sw_nil)
      (sw_c (s1_set 4 sc_law.nd rfl (Or.inl rfl) (by decide) (eo_list rfl B.list (er_ow 2 (pv 2))))
      (sw_c (s1_set 5 sc_law.nd rfl (Or.inl rfl) (by decide) (eo_c2 G_shown_sum hr rfl pass1 (al2_lend (i := 4) (pv 4) al2_nil)))
      (sw_c (s1_if (tw_w (ww_or (tw_not (tw_val (ew_isinst (ty := "str") rfl B.isinstance (pe_bltn (v := .ty "str") rfl B.str PyProof.Rows.boot_str rfl) (ew_var 5 (pv 5))))) (ww_or (tw_cm cm_ne (ew_var 5 (pv 5)) (ew_var 3 (pv 3)) (nomark _)) (ww_or1 (tw_cmL (cm_neL hr.units) (er_ow 4 (pv 4)) (er_ow 2 (pv 2)) (nomark _))))))
      (sw_one (s1_ret (eo_rep ew_bl)))
      sw_nil)
      (sw_c (s1_if (tw_not (tw_val (ew_rep (eo_c2 G_same hr rfl pass1 (al2_im (ew_o (eo_c2 G_read_sum hr rfl pass1 (al2_im (ew_var 5 (pv 5)) al2_nil))) (al2_lend (i := 2) (pv 2) al2_nil))))))
      (sw_one (s1_ret (eo_rep ew_bl)))
      sw_nil)
      (sw_c (s1_if (tw_cm (cm_neD hr.units) (ew_rep (eo_c2 G_told hr rfl pass1 (al2_im (ew_smul ew_str ew_int) al2_nil))) (ew_pair ew_none ew_int) (nomark _))
      (sw_one (s1_ret (eo_rep ew_bl)))
      sw_nil)
      (sw_c (s1_set 6 sc_law.nd rfl (Or.inl rfl) (by decide) (eo_c2 G_spoilt hr rfl pass1 (al2_ow (i := 1) (pv 1) (al2_im (ew_var 5 (pv 5)) al2_nil))))
      (sw_c (s1_set 3 sc_law.nd rfl (Or.inl rfl) (by decide) (eo_rep (ew_oo (eo_c2 G_read hr rfl pass1 (al2_im (ew_var 6 (pv 6)) al2_nil)))))
      (sw_c (s1_set 7 sc_law.nd rfl (Or.inl rfl) (by decide) (eo_c2 G_told hr rfl pass1 (al2_im (ew_var 6 (pv 6)) al2_nil)))
      (sw_c (s1_if (tw_cm cm_isN (ew_var 3 (pv 3)) ew_non (nomark _))
      (sw_one (s1_ret (eo_rep (ew_and (ew_cm cm_isN (ew_fst (ew_var 7 (pv 7))) ew_non (nomark _)) (ew_and (ew_rep (eo_c2 G_whole hr rfl pass1 (al2_im (ew_snd (ew_var 7 (pv 7))) al2_nil))) (ew_bop1 (ew_cm cm_eq (ew_snd (ew_var 7 (pv 7))) ew_int (nomark _))))))))
      sw_nil)
      (sw_one (s1_ret (eo_c2 G_same hr rfl pass1 (al2_im (ew_un (ew_fst (ew_var 7 (pv 7)))) (al2_im (ew_un (ew_var 3 (pv 3))) al2_nil))))))))))))))))))) fun p Kn Ke h => ?_
  walk_at "wl"
  have h : Kn true (⟨⟩, ()) := h
  refine bag_ok ?_
  intro l hr hf
  dsimp only
  by_cases e : l = []
  · rw [if_neg (by rw [decide_eq_true e]; decide)]
    refine ⟨⟨hf, (asc_iff _).mpr hr⟩, ?_⟩
    dsimp only
    rw [if_neg (by decide), if_neg (by rw [decide_eq_true (by unfold shw; rw [if_pos e])]; decide), if_neg (by rw [decide_eq_true rfl]; decide)]
    exact law_rest sev_ok sev_len sev_rd hr hf h
  · rw [if_pos (by rw [decide_eq_false e]; rfl)]
    refine ⟨line_le (by have := hf.1; omega), wComp_tot num (fun x hxm K hK => ?_) ?_⟩
    · have := hf.2 x hxm
      show (if true = true then _ else _ : Prop)
      rw [if_pos rfl]
      exact ⟨log_ok this, hK⟩
    · rw [plus_eq]
      refine ⟨join_ok hf, ⟨⟨hf, (asc_iff _).mpr hr⟩, ?_⟩⟩
      dsimp only
      rw [if_neg (by decide), if_neg (by rw [decide_eq_true (by unfold shw; rw [if_neg e])]; decide), if_neg (by rw [decide_eq_true rfl]; decide)]
      exact law_rest sev_ok sev_len sev_rd hr hf h
end
end K7
set_option maxHeartbeats 4000000
namespace K7
variable [L2.GX]
open PySem L2 WL
open WL.Rep (rp)
open WL.Ow (sl)
open WL.Sls (rel)
section
variable {P : Program} {w : World} {K : PySem.W.Frag} {mg : Str → Option Value} {base : Heap}
theorem scPull : FnScope ["_law_bag_here", "_law_many", "_law_seed", "_law_mixed", "_law_drawn"] ["_law_bag_here", "_law_many"] (defScope s_pull) := ⟨rfl, rfl, rfl, by decide +kernel, rfl, by decide +kernel, by decide +kernel⟩
theorem ok_pull {f : Addr} {fd : FuncData} (F : Fun K "_law_pull" "_law_pull" s_pull f fd) (hlen : mg "len" = none) : FnOk P w K mg base CX0 1 f fd ["_law_bag_here", "_law_many"] WL.spPull := by
  refine F.ok scPull (fun vs H Q E h => ?_) (fun cdv A outer s H vs Q E hr h => ?_)
  · obtain ⟨g, q, ns, i, z, s, many, rfl, _⟩ := h
    rfl
  · obtain ⟨g, q, ns, i, z, s', many, rfl, B, m0, m1, k⟩ := h
    have nd := scPull.nd
    refine ⟨_, pss_cons (ps_if (pt_cmpR op_le (pe_ix ix_list (pv 0) pe_int (fun _ _ => rfl)) pe_int (nomark _))
        (pss_cons (ps_augS (pv 0) pe_int get_list pe_int ip_add set_list)
        (pss_cons (ps_set (i := 2) nd rfl (Or.inl rfl) (pe_ix ix_list (pv 0) pe_int (fun _ _ => rfl)))
        (pss_cons (ps_if (pt_cmpR op_le (pe_ix ix_list (pv 0) pe_int (fun _ _ => rfl)) (pe_callB call_len_seq (by rfl) hlen PySem.boot_len (pa_cons (pe_ix ix_list (pv 0) pe_int (fun _ _ => rfl)) pa_nil)) (nomark _))
          (pss_one (ps_set (i := 2) nd rfl (Or.inl rfl) (pe_ix ix_list (pe_ix ix_list (pv 0) pe_int (fun _ _ => rfl)) (pe_op op_sub (pe_ix ix_list (pv 0) pe_int (fun _ _ => rfl)) pe_int) (fun _ _ => rfl)))) pss_nil)
        (pss_cons (ps_if (pw_or (pt_cmpR op_gt (pe_ix ix_list (pv 0) pe_int (fun _ _ => rfl)) (pe_callB call_len_seq (by rfl) hlen PySem.boot_len (pa_cons (pe_ix ix_list (pv 0) pe_int (fun _ _ => rfl)) pa_nil)) (nomark _)) (pw_or1 (pt_cmpR op_lt (pv 2) (pe_op op_pow pe_int pe_int) (nomark _)))).pt
          (pss_cons (ps_set (i := 3) nd rfl (Or.inl rfl) (pe_op op_mod (pe_op op_add (pe_op op_add (pe_op op_mul (pv 2) pe_int) (pe_op op_mul (pe_ix ix_list (pv 0) pe_int (fun _ _ => rfl)) pe_int)) pe_int) pe_int))
          (pss_cons (ps_set (i := 3) nd rfl (Or.inl rfl) (pe_op op_mod (pe_op op_mul (pv 3) (pv 3)) pe_int))
          (pss_one (ps_ret (pe_op op_mod (pe_op op_fdiv (pe_op op_mod (pe_op op_mul (pe_op op_add (pv 3) (pe_ix ix_list (pv 0) pe_int (fun _ _ => rfl))) pe_int) pe_int) pe_int) (pv 1)))))) pss_nil)
        (pss_one (ps_asg (pv 2) (pg_sub (pv 0) pe_int set_list))))))) pss_nil)
      (pss_cons (ps_set (i := 4) nd rfl (Or.inl rfl) (pe_op op_mod (pe_ix ix_list (pv 0) pe_int (fun _ _ => rfl)) (pv 1)))
      (pss_cons (ps_asg (pe_op op_fdiv (pe_ix ix_list (pv 0) pe_int (fun _ _ => rfl)) (pv 1)) (pg_sub (pv 0) pe_int set_list))
      (pss_one (ps_ret (pv 4))))), ?_⟩
    refine ⟨_, rfl, g, _, _, _, rfl, rfl, SqL.of B.ob, bat2 _ _ _ _, _, _, rfl, rfl, _, rfl, ?_⟩
    refine ite2 (fun _ => ?_) (fun _ => ?_)
    · -- bag[1] += 1; seed = bag[3]
      refine ⟨_, rfl, g, _, _, _, rfl, rfl, B.ob, by decide, rfl, _, _, rfl, rfl, g, _, _, 1, rfl, rfl, B.ob, rfl, ?_⟩
      have B1 : BagAt (upd H g (.lst (bagL q (i + 1) z s'))) g q ns (i + 1) z s' := B.put (by have := B.i0; omega)
      refine ⟨_, rfl, g, _, _, _, rfl, rfl, SqL.of B1.ob, bat3 _ _ _ _, ?_⟩
      refine ⟨_, rfl, g, _, _, _, rfl, rfl, SqL.of B1.ob, bat1 _ _ _ _, _, rfl, g, _, _, _, rfl, rfl, SqL.of B1.ob, bat0 _ _ _ _, q, _, rfl, .inl (SqL.of B1.sc), _, _, rfl, rfl, _, rfl, ?_⟩
      have B2 := B1
      refine ite2 (fun hc => ?_) (fun hc => ?_)
      · have hc' : i + 1 ≤ ((ns.map V.int).length : Int) := of_decide_eq_true hc
        rw [List.length_map] at hc'
        obtain ⟨n, hn⟩ := at_ints (ns := ns) (i := i + 1 - 1) (by have := B.i0; omega) (by omega)
        refine ⟨_, rfl, g, _, _, _, rfl, rfl, SqL.of B1.ob, bat0 _ _ _ _, _, rfl, g, _, _, _, rfl, rfl, SqL.of B1.ob, bat1 _ _ _ _, _, _, rfl, rfl, q, _, _, _, rfl, rfl, SqL.of B1.sc, hn, ?_⟩
        -- (the or, with this seed)
        refine ⟨_, rfl, g, _, _, _, rfl, rfl, SqL.of B1.ob, bat1 _ _ _ _, _, rfl, g, _, _, _, rfl, rfl, SqL.of B1.ob, bat0 _ _ _ _, q, _, rfl, .inl (SqL.of B1.sc), _, _, rfl, rfl, _, rfl, ?_⟩
        refine ite2 (fun _ => iteT ?_) (fun _ => ?_)
        · refine ⟨_, rfl, _, _, rfl, rfl, .inr ⟨by decide, by decide⟩, _, rfl, g, _, _, _, rfl, rfl, SqL.of B1.ob, bat1 _ _ _ _, _, _, rfl, rfl, .inr ⟨by decide, by decide⟩, _, _, rfl, rfl, _, _, rfl, rfl, _, _, rfl, rfl, (by show (0 : Int) < 2147483647; decide), ?_⟩
          refine ⟨_, rfl, _, rfl, _, _, rfl, rfl, .inl (mulOk _), _, _, rfl, rfl, (by show (0 : Int) < 2147483629; decide), ?_⟩
          refine ⟨_, rfl, _, rfl, g, _, _, _, rfl, rfl, SqL.of B1.ob, bat1 _ _ _ _, _, _, rfl, rfl, _, _, rfl, rfl, .inr ⟨by decide, by decide⟩, _, _, rfl, rfl, (by show (0 : Int) < 998244353; decide), _, _, rfl, rfl, ⟨by decide, by decide⟩, _, rfl, _, _, rfl, rfl, m0, ?_⟩
          exact k _ _ _ _ Kp.at B1 (Int.emod_nonneg _ (by omega)) (Int.emod_lt_of_pos _ m0)
        · refine ⟨_, rfl, _, _, rfl, rfl, ⟨by decide, by decide, by decide⟩, _, _, rfl, rfl, _, rfl, ?_⟩
          refine ite2 (fun _ => ?_) (fun _ => ?_)
          · refine ⟨_, rfl, _, _, rfl, rfl, .inr ⟨by decide, by decide⟩, _, rfl, g, _, _, _, rfl, rfl, SqL.of B1.ob, bat1 _ _ _ _, _, _, rfl, rfl, .inr ⟨by decide, by decide⟩, _, _, rfl, rfl, _, _, rfl, rfl, _, _, rfl, rfl, (by show (0 : Int) < 2147483647; decide), ?_⟩
            refine ⟨_, rfl, _, rfl, _, _, rfl, rfl, .inl (mulOk _), _, _, rfl, rfl, (by show (0 : Int) < 2147483629; decide), ?_⟩
            refine ⟨_, rfl, _, rfl, g, _, _, _, rfl, rfl, SqL.of B1.ob, bat1 _ _ _ _, _, _, rfl, rfl, _, _, rfl, rfl, .inr ⟨by decide, by decide⟩, _, _, rfl, rfl, (by show (0 : Int) < 998244353; decide), _, _, rfl, rfl, ⟨by decide, by decide⟩, _, rfl, _, _, rfl, rfl, m0, ?_⟩
            exact k _ _ _ _ Kp.at B1 (Int.emod_nonneg _ (by omega)) (Int.emod_lt_of_pos _ m0)
          · refine ⟨_, rfl, _, rfl, g, _, _, 2, rfl, rfl, B1.ob, rfl, ?_⟩
            have B2 := B1.put (z' := n) B1.i0
            have k2 := (Kp.at (g := g) (H := H) (o := .lst (bagL q (i + 1) z s'))).trans (Kp.at (o := .lst (bagL q (i + 1) n s')))
            refine ⟨_, rfl, g, _, _, _, rfl, rfl, SqL.of B2.ob, bat2 _ _ _ _, _, rfl, _, _, rfl, rfl, m0, ?_⟩
            refine ⟨_, rfl, g, _, _, _, rfl, rfl, SqL.of B2.ob, bat2 _ _ _ _, _, rfl, _, _, rfl, rfl, ⟨m0, m1⟩, _, rfl, g, _, _, 2, rfl, rfl, B2.ob, rfl, ?_⟩
            exact ⟨_, rfl, k _ _ _ _ (k2.trans Kp.at) (B2.put B2.i0) (Int.emod_nonneg _ (by omega)) (Int.emod_lt_of_pos _ m0)⟩
      · -- (the or, with the salt)
        refine ⟨_, rfl, g, _, _, _, rfl, rfl, SqL.of B1.ob, bat1 _ _ _ _, _, rfl, g, _, _, _, rfl, rfl, SqL.of B1.ob, bat0 _ _ _ _, q, _, rfl, .inl (SqL.of B1.sc), _, _, rfl, rfl, _, rfl, ?_⟩
        refine ite2 (fun _ => iteT ?_) (fun _ => ?_)
        · refine ⟨_, rfl, _, _, rfl, rfl, .inr ⟨by decide, by decide⟩, _, rfl, g, _, _, _, rfl, rfl, SqL.of B1.ob, bat1 _ _ _ _, _, _, rfl, rfl, .inr ⟨by decide, by decide⟩, _, _, rfl, rfl, _, _, rfl, rfl, _, _, rfl, rfl, (by show (0 : Int) < 2147483647; decide), ?_⟩
          refine ⟨_, rfl, _, rfl, _, _, rfl, rfl, .inl (mulOk _), _, _, rfl, rfl, (by show (0 : Int) < 2147483629; decide), ?_⟩
          refine ⟨_, rfl, _, rfl, g, _, _, _, rfl, rfl, SqL.of B1.ob, bat1 _ _ _ _, _, _, rfl, rfl, _, _, rfl, rfl, .inr ⟨by decide, by decide⟩, _, _, rfl, rfl, (by show (0 : Int) < 998244353; decide), _, _, rfl, rfl, ⟨by decide, by decide⟩, _, rfl, _, _, rfl, rfl, m0, ?_⟩
          exact k _ _ _ _ Kp.at B1 (Int.emod_nonneg _ (by omega)) (Int.emod_lt_of_pos _ m0)
        · refine ⟨_, rfl, _, _, rfl, rfl, ⟨by decide, by decide, by decide⟩, _, _, rfl, rfl, _, rfl, ?_⟩
          refine ite2 (fun _ => ?_) (fun _ => ?_)
          · refine ⟨_, rfl, _, _, rfl, rfl, .inr ⟨by decide, by decide⟩, _, rfl, g, _, _, _, rfl, rfl, SqL.of B1.ob, bat1 _ _ _ _, _, _, rfl, rfl, .inr ⟨by decide, by decide⟩, _, _, rfl, rfl, _, _, rfl, rfl, _, _, rfl, rfl, (by show (0 : Int) < 2147483647; decide), ?_⟩
            refine ⟨_, rfl, _, rfl, _, _, rfl, rfl, .inl (mulOk _), _, _, rfl, rfl, (by show (0 : Int) < 2147483629; decide), ?_⟩
            refine ⟨_, rfl, _, rfl, g, _, _, _, rfl, rfl, SqL.of B1.ob, bat1 _ _ _ _, _, _, rfl, rfl, _, _, rfl, rfl, .inr ⟨by decide, by decide⟩, _, _, rfl, rfl, (by show (0 : Int) < 998244353; decide), _, _, rfl, rfl, ⟨by decide, by decide⟩, _, rfl, _, _, rfl, rfl, m0, ?_⟩
            exact k _ _ _ _ Kp.at B1 (Int.emod_nonneg _ (by omega)) (Int.emod_lt_of_pos _ m0)
          · refine ⟨_, rfl, _, rfl, g, _, _, 2, rfl, rfl, B1.ob, rfl, ?_⟩
            have B2 := B1.put (z' := s') B1.i0
            have k2 := (Kp.at (g := g) (H := H) (o := .lst (bagL q (i + 1) z s'))).trans (Kp.at (o := .lst (bagL q (i + 1) s' s')))
            refine ⟨_, rfl, g, _, _, _, rfl, rfl, SqL.of B2.ob, bat2 _ _ _ _, _, rfl, _, _, rfl, rfl, m0, ?_⟩
            refine ⟨_, rfl, g, _, _, _, rfl, rfl, SqL.of B2.ob, bat2 _ _ _ _, _, rfl, _, _, rfl, rfl, ⟨m0, m1⟩, _, rfl, g, _, _, 2, rfl, rfl, B2.ob, rfl, ?_⟩
            exact ⟨_, rfl, k _ _ _ _ (k2.trans Kp.at) (B2.put B2.i0) (Int.emod_nonneg _ (by omega)) (Int.emod_lt_of_pos _ m0)⟩
    · have B2 := B
      have k2 := Kp.refl g H
      refine ⟨_, rfl, g, _, _, _, rfl, rfl, SqL.of B2.ob, bat2 _ _ _ _, _, rfl, _, _, rfl, rfl, m0, ?_⟩
      refine ⟨_, rfl, g, _, _, _, rfl, rfl, SqL.of B2.ob, bat2 _ _ _ _, _, rfl, _, _, rfl, rfl, ⟨m0, m1⟩, _, rfl, g, _, _, 2, rfl, rfl, B2.ob, rfl, ?_⟩
      exact ⟨_, rfl, k _ _ _ _ (k2.trans Kp.at) (B2.put B2.i0) (Int.emod_nonneg _ (by omega)) (Int.emod_lt_of_pos _ m0)⟩
theorem scBag : FnScope ["_law_script", "_law_salt", "_law_one"] ["_law_script"] (defScope s_bag) := ⟨rfl, rfl, rfl, by decide +kernel, rfl, by decide +kernel, by decide +kernel⟩
theorem cutI (ns : List Int) (lo hi : Option Int) : ∃ ms : List Int, cutV (ns.map V.int) lo hi = ms.map V.int := by
  unfold cutV
  exact ⟨_, by rw [← List.map_drop, ← List.map_take]⟩
theorem ok_bag {f : Addr} {fd : FuncData} (F : Fun K "_law_bag" "_law_bag" s_bag f fd) (hlen : mg "len" = none) (hlist : mg "list" = none) : FnOk P w K mg base CX0 1 f fd ["_law_script"] (WL.spBag K) := by
  refine F.ok scBag (fun vs H Q E h => ?_) (fun cdv A outer s H vs Q E hr h => ?_)
  · obtain ⟨a, ns, rfl, _⟩ := h
    rfl
  · obtain ⟨a, ns, rfl, ha, k⟩ := h
    refine ⟨_, pss_cons (ps_set (i := 1) scBag.nd rfl (Or.inl rfl) (pe_callB call_len_seq (by rfl) hlen PySem.boot_len (pa_cons (pe_slice sl_list (pv 0) po_none (po_some pe_int)) pa_nil)))
      (pss_cons (ps_for PassesOwn.never rfl (pi_list (pe_slice sl_list (pv 0) po_none (po_some pe_int))) (pg_name (i := 2) scBag.nd rfl (Or.inl rfl))
        (pss_one (ps_set (i := 1) scBag.nd rfl (Or.inl rfl) (pe_op op_mod (pe_op op_add (pe_op op_mul (pv 1) pe_int) (pv 2)) pe_int))))
      (pss_one (ps_ret (pe_lst (pa_cons (pe_callTy call_list_of rfl hlist PyProof.Rows.boot_list (pa_cons (pe_slice sl_list (pv 0) po_none (po_some pe_int)) pa_nil)) (pa_cons pe_int (pa_cons pe_int (pa_cons (pv 1) pa_nil)))))))), ?_⟩
    obtain ⟨ms, hms⟩ := cutI ns none (some 63)
    refine ⟨_, rfl, 63, rfl, a, _, rfl, ha, fun p hp => ?_⟩
    rw [hms]
    have s1 : Same H (upd H p (.lst (ms.map V.int))) := same_new hp
    refine ⟨p, _, rfl, .inl (SqL.of upd_same), ?_⟩
    refine ⟨_, rfl, 63, rfl, a, _, rfl, s1.seq ha, fun p2 hp2 => ?_⟩
    rw [hms]
    have s2 : Same (upd H p (.lst (ms.map V.int))) (upd (upd H p (.lst (ms.map V.int))) p2 (.lst (ms.map V.int))) := same_new hp2
    have s12 := s1.trans s2
    generalize hH2 : upd (upd H p (.lst (ms.map V.int))) p2 (.lst (ms.map V.int)) = H2 at s12
    have hq2 : H2 p2 = some (.lst (ms.map V.int)) := by rw [← hH2]; exact upd_same
    refine ⟨p2, rfl, ⟨_, SqL.of hq2⟩, for_list (K := K) (a := p2) (xs := ms.map V.int) (fun i σ H3 => H3 = H2 ∧ ∃ (sa : Int) (v : Option V), σ = [some (.ref a), some (.int sa), v]) ⟨rfl, _, none, rfl⟩ (fun i σ H3 _ ⟨e, _⟩ => by rw [e]; exact SqL.of hq2) ?_ ?_⟩
    · rintro i y σ H3 hi' ⟨rfl, sa, v, rfl⟩
      obtain ⟨z, rfl⟩ : ∃ z, y = V.int z := by
        rw [List.getElem?_map] at hi'
        cases e : ms[i]? with
        | none => rw [e] at hi'; cases hi'
        | some z => rw [e] at hi'; exact ⟨z, (Option.some.inj hi').symm⟩
      exact ⟨_, rfl, _, _, rfl, rfl, .inr ⟨by decide, by decide⟩, _, rfl, _, _, rfl, rfl, _, _, rfl, rfl, (by show (0 : Int) < 1000003; decide), rfl, _, _, rfl⟩
    · rintro σ H3 ⟨rfl, sa, v, rfl⟩
      refine ⟨_, rfl, 63, rfl, a, _, rfl, s12.seq ha, fun p3 hp3 => ?_⟩
      rw [hms]
      refine ⟨p3, _, rfl, .inl (SqL.of upd_same), fun p4 hp4 => ⟨_, rfl, (by decide : 4 ≤ sizeLine), fun p5 hp5 => ?_⟩⟩
      have s3 := same_new (o := .lst (ms.map V.int)) hp3
      have s4 := same_new (o := .lst (ms.map V.int)) hp4
      have s5 := same_new (o := .lst (bagL p4 0 0 sa)) hp5
      have n45 : p4 ≠ p5 := ne_of_none upd_same hp5
      refine k _ p5 p4 ms sa (((s12.trans s3).trans s4).trans s5) ⟨upd_same, s5 _ _ upd_same, Int.le_refl _, n45⟩ ?_ ?_
      · exact (((s12.trans s3).trans s4).free hp5)
      · exact ((s12.trans s3).free hp4)
end
end K7
set_option maxHeartbeats 4000000
namespace K7
open PySem L2 WL
open WL.Rep (rp)
open WL.Ow (sl)
open WL.Sls (rel)
abbrev bmV : List Value := [.type "ValueError", .type "Exception", .type "BaseException", .type "object"]
abbrev s_badI : Stmt := mth (top 3) 0
local macro_rules | `(tactic| walk_at "kf") => `(tactic| exact dq_mk (by k_is) (by k_is) (by k_is) (by k_is))
def gx (XB : Addr) : L2.GX := ⟨fun C d H => C = XB → ∃ dx, d = some dx ∧ H dx = some (.xd [("at", .int 0)])⟩
theorem ns_some {K : PySem.W.Frag} {h : Heap} {N : Addr} {x : Str} {v : Value} (X : K.In h) (e : PySem.W.nsOkIn K N = true) (q : PySem.W.nsIn K N x = some (some v)) : h.nsMap N x = some v := by
  obtain ⟨o, es, ep, ho, hd, _, hf⟩ := Heap.Ns.of_isNs (PySem.W.isNs_of_in X e)
  unfold PySem.W.nsIn at q
  split at q
  · rename_i c d es' n' sl z
    have z2 := X _ _ z
    rw [ho] at z2
    cases z2
    cases hd
    split at q
    · rename_i en he
      cases q
      rw [← hf]
      unfold nsFind findBy
      rw [← Array.find?_toList, he]
      rfl
    · split at q <;> cases q
  · cases q
theorem sc_badI : FnScS ["self", "at"] ["self", "at"] (defScope s_badI) := ⟨rfl, rfl, rfl, by decide +kernel, rfl, by decide +kernel, by decide +kernel, by decide +kernel, rfl, rfl⟩
local macro_rules | `(tactic| walk_at "b1") => `(tactic| exact fun _ _ _ _ _ _ us hl => match us, hl with | [_], _ => rfl)
local macro_rules | `(tactic| walk_at "b2") => `(tactic| exact fun _ _ _ _ _ _ us hl => match us, hl with | [_, _], _ => rfl)
local macro_rules | `(tactic| walk_at "b3") => `(tactic| exact fun _ _ _ _ _ _ us hl => match us, hl with | [_, _, _], _ => rfl)
local macro_rules | `(tactic| walk_at "b4") => `(tactic| exact fun _ _ _ _ _ _ us hl => match us, hl with | [_, _, _, _], _ => rfl)
local macro_rules | `(tactic| walk_at "b5") => `(tactic| exact fun _ _ _ _ _ _ us hl => match us, hl with | [_, _, _, _, _], _ => rfl)
theorem all_mk {l : PySem.W.OpenLaw} {w : World} {K : PySem.W.Frag} {h : Heap} {mg : Str → Option Value} {fa c tab f1 fL XS XB XE fI NsB cda cc TD : Addr} {oc1 kV1 dc1 pm1 ct1 occ ocL kVL dcL pmL ctL cdL kVI dcI pmI ctI ocD occ2 ocT : Value} {od1 an1 odc odL anL odI anI odD odc2 odT : Option Addr} {sl1 slc slL slI slD slc2 slT : Array (Option Value)} {vsc vsD : Array Value} {fileD : Str} {tfD tT t_MF : Tok} {nT : Nat} {nmB qB : Str} {bsB subB : List Value} {snB : List Str} {abB : Bool} {colB : Option Bool} {ddB : Option Addr} {kaB kbB kcB kdB keB : Option Value} {cdB : ClassData} (X : K.In h) (G : h.Ns mainGlobals mg) (hfa : mg "law" = some (.ref fa))
    (a1 : PySem.W.nsIn K mainGlobals "is_sum" = some (some (.ref f1)))
    (l1 : K.lookup f1 = some ⟨oc1, od1, .func (PySem.W.fnOf "is_sum" "is_sum" (defArgs s_is_sum) (defBody s_is_sum) (defScope s_is_sum) .none kV1 dc1 pm1 an1 (.ref c) ct1), sl1⟩)
    (c1 : PySem.W.codeIn K (.ref c) "is_sum" = true)
    (k1 : PySem.W.keepIn K (.ref f1) = true)
    (lc : K.lookup c = some ⟨occ, odc, .fields vsc, slc⟩)
    (ev : vsc[11]? = some (.ref tab))
    (hKt : K.lookup tab = none)
    (aL : PySem.W.nsIn K mainGlobals "law" = some (some (.ref fL)))
    (lL : K.lookup fL = some ⟨ocL, odL, .func (PySem.W.fnOf "law" "law" (defArgs s_law) (defBody s_law) (defScope s_law) .none kVL dcL pmL anL cdL ctL), slL⟩)
    (cL : PySem.W.codeIn K cdL "law" = true)
    (kL : PySem.W.keepIn K (.ref fL) = true)
    (q_must_be_sum : Dq K "must_be_sum" s_must)
    (q_read_number : Dq K "read_number" s_read_number)
    (q_read_sum : Dq K "read_sum" s_read_sum)
    (q_shown_sum : Dq K "shown_sum" s_shown_sum)
    (q_bag : Dq K "_law_bag" s_bag)
    (q_pull : Dq K "_law_pull" s_pull)
    (q_join : Dq K "_law_join" s_join)
    (q_rising : Dq K "_law_rising" s_rising)
    (q_whole : Dq K "_law_whole" s_whole)
    (q_row : Dq K "_law_row" s_row)
    (q_same : Dq K "_law_same" s_same)
    (q_wide : Dq K "_law_wide" s_wide)
    (q_read : Dq K "_law_read" s_read)
    (q_told : Dq K "_law_told" s_told)
    (q_spoilt : Dq K "_law_spoilt" s_spoilt)
    (axS : PySem.W.nsIn K mainGlobals "NotASum" = some (some (.ref XS)))
    (exS : PySem.W.excIn K XS bmV "ValueError.__new__" = true)
    (axB : PySem.W.nsIn K mainGlobals "BadRow" = some (some (.ref XB)))
    (neB : XS ≠ XB)
    (axE : PySem.W.nsIn K mainGlobals "BodyError" = some (some (.ref XE)))
    (exE : PySem.W.excIn K XE bmV "ValueError.__new__" = true)
    (lB : K.lookup XB = some (excClassObj nmB qB XB NsB bsB (.ref XE :: bmV) true snB subB abB colB ddB kaB kbB kcB kdB keB "ValueError.__new__"))
    (nsB : PySem.W.nsIn K NsB "__init__" = some (some (.ref fI)))
    (nsO : PySem.W.nsOkIn K NsB = true)
    (tlB : PySem.W.tailIn K bmV (.ref XE :: bmV) = true)
    (lI : K.lookup fI = some ⟨.type "function", odI, .func (PySem.W.fnX "__init__" "BadRow.__init__" (defArgs s_badI) (defBody s_badI) (defScope s_badI) [("__class__", cc)] (.ref TD) kVI dcI pmI anI (.ref cda) ctI), slI⟩)
    (cI : PySem.W.codeIn K (.ref cda) "BadRow.__init__" = true)
    (lD : K.lookup cda = some ⟨ocD, odD, .fields vsD, slD⟩)
    (fD : vsD[2]? = some (.str fileD tfD))
    (pD : ((l.prog.main.file : Str) == fileD) = true)
    (lcc : K.lookup cc = some ⟨occ2, odc2, .cell (some (.ref XB)), slc2⟩)
    (clB : PySem.W.clsIn K XB = some cdB)
    (miB : PySem.W.mroIn K XB (.ref XB) = some true)
    (opB : PySem.W.nsIn K cStatics "thirdparty.any" = some none)
    (tpB : (l.prog.main.scope.names.lookup ("super" : Str)).isSome = false)
    (suB : PySem.W.ks_superIn K XB XB "__init__" = some (some (.builtin "ValueError.__init__")))
    (mvB : PySem.W.mroIn K XB (.type "ValueError") = some true)
    (sB : PySem.W.findIn K (.ref XB) "__setattr__" = some (some (.builtin "object.__setattr__")))
    (atB : PySem.W.findIn K (.ref XB) "at" = some none)
    (gB : PySem.W.findIn K (.ref XB) "__getattribute__" = some (some (.builtin "BaseException.__getattribute__")))
    (gnB : PySem.W.findIn K (.ref XB) "__getattr__" = some none)
    (hdB : PySem.W.hasDictIn K XB = true)
    (lT : K.lookup TD = some ⟨ocT, odT, .seq #[.int 0 tT] nT, slT⟩)
    (p_MF : PySem.W.nsIn K mainGlobals "MOST_FIGURES" = some (some (.int 9 t_MF)))
    (aSu : PySem.W.nsIn K mainGlobals "super" = some none)
    (zz : Bz K) :
    ∃ (c tab : Addr) (fd : FuncData), PySem.W.tabIn K "is_sum" = some (c, tab) ∧ K.lookup tab = none ∧ (∀ (s : Shared) (v : Value), BindsTo s fd ⟨[v], []⟩ [("_law_script", v)]) ∧ ∀ base : Heap, K.In base → base.Ns mainGlobals mg → BaseT mg base c tab → FnOk l.prog w K mg base CX0 6 fa fd ["_law_script"] (spLaw K tab) := by
  letI : L2.GX := gx XB
  have e := hfa.symm.trans (PySem.W.mg_of X G aL)
  cases e
  have ht : PySem.W.tabIn K "is_sum" = some (c, tab) := by
    unfold PySem.W.tabIn
    rw [a1]
    dsimp only
    rw [l1]
    dsimp only [PySem.W.fnOf]
    rw [lc]
    dsimp only
    rw [ev]
  have F_is_sum := fun_mk (st := s_is_sum) l1 c1 k1
  have N_is_sum : Fn K mg "is_sum" s_is_sum ["row"] f1 _ := ⟨F_is_sum, PySem.W.mg_of X G a1, F_is_sum.binds (ps := ["row"]) (by walk_at "b1")⟩
  have F_law := fun_mk (st := s_law) lL cL kL
  have N_must_be_sum := q_must_be_sum.fn X G ["row"] (by walk_at "b1")
  have N_read_number := q_read_number.fn X G ["word"] (by walk_at "b1")
  have N_read_sum := q_read_sum.fn X G ["line"] (by walk_at "b1")
  have N_shown_sum := q_shown_sum.fn X G ["row"] (by walk_at "b1")
  have N_bag := q_bag.fn X G ["_law_script"] (by walk_at "b1")
  have N_pull := q_pull.fn X G ["_law_bag_here", "_law_many"] (by walk_at "b2")
  have N_join := q_join.fn X G ["_law_one", "_law_other"] (by walk_at "b2")
  have N_rising := q_rising.fn X G ["_law_row_here"] (by walk_at "b1")
  have N_whole := q_whole.fn X G ["_law_found"] (by walk_at "b1")
  have N_row := q_row.fn X G ["_law_found"] (by walk_at "b1")
  have N_same := q_same.fn X G ["_law_found", "_law_due"] (by walk_at "b2")
  have N_wide := q_wide.fn X G ["_law_bag_here"] (by walk_at "b1")
  have N_read := q_read.fn X G ["_law_text"] (by walk_at "b1")
  have N_told := q_told.fn X G ["_law_text"] (by walk_at "b1")
  have N_spoilt := q_spoilt.fn X G ["_law_bag_here", "_law_text"] (by walk_at "b2")
  have B := zz.bn X G
  have h_MOST_FIGURES := PySem.W.mg_of X G p_MF
  have hsm := PySem.W.mg_none_of X G aSu
  have g0S : ∀ H', L2.GX.g XS none H' := fun H' z => absurd z neB
  refine ⟨c, tab, PySem.W.fnOf "law" "law" (defArgs s_law) (defBody s_law) (defScope s_law) .none kVL dcL pmL anL cdL ctL, ht, hKt, fun s v => .of_eq rfl, fun base _ _ Bt => ?_⟩
  let q : Cq := ⟨l.prog, w, K, mg, base, tab⟩
  have SD : L2.SupD l.prog K XB fI cda cc "self" := ⟨⟨_, _, _, _, _, lI, rfl, rfl⟩, ⟨_, _, _, _, _, _, lD, fD, pD⟩, ⟨_, _, _, lcc⟩, ⟨_, clB⟩, miB, opB, tpB⟩
  have ok_badI : ∀ k, FnOk l.prog w K mg base (CX1 l.prog w) (k + 1) fI _ ["self", "at"] (spEJ XB "at") := fun k => fn_excJ (P := l.prog) (w := w) (mg := mg) (base := base) (k := k) (r := "at") (fl := "at") lI cI rfl sc_badI SD (fun _ => ⟨_, rfl⟩) hsm lB suB mvB rfl (fun x => by rw [PySem.refuseLoop_ref]; exact PySem.F.store_ValueError.passes _) sB atB (by decide) (by decide)
  have hNs : ∀ h : Heap, K.In h → ∃ mN, h.Ns NsB mN ∧ mN "__init__" = some (.ref fI) := fun h Z => ⟨_, .of_isNs (PySem.W.isNs_of_in Z nsO), ns_some Z nsO nsB⟩
  have hB : Binds K (PySem.W.fnX "__init__" "BadRow.__init__" (defArgs s_badI) (defBody s_badI) (defScope s_badI) [("__class__", cc)] (.ref TD) kVI dcI pmI anI (.ref cda) ctI) ["self", "at"] [.int 0 tT] := fun s us Z hl => by
    have hl : us.length = 1 := by simpa using hl
    match us, hl with
    | [u], _ => exact PySem.W.binds_K Z rfl lT rfl rfl rfl
  have X_BadRow : ∀ k, XcJ l.prog w K mg base (k + 1) "BadRow" XB "at" 0 := fun k => ⟨⟨fI, NsB, _, _, _, _, _, _, bmV, _, _, _, _, _, _, _, _, _, _, _, _, _, _, _, _, PySem.W.mg_of X G axB, lB, hNs, fun h Z => PySem.W.tail_of_in Z tlB, lI, rfl, PySem.F.excBase_ValueError, rfl, ok_badI k, hB, .cons ⟨_, rfl⟩ .nil⟩, fun d H => ⟨fun z => z rfl, fun z _ => z⟩, ⟨gB, gnB, ⟨_, _, _, _, _, _, _, _, _, _, _, _, _, _, _, _, _, lB, rfl⟩, hdB, atB⟩⟩
  have g_is_sum := ok_is_sumL (P := l.prog) (w := w) F_is_sum rfl Bt B.all B.zip
  have g_mustL := ok_mustL N_must_be_sum.fn N_is_sum g_is_sum (PySem.W.mg_of X G axS) exS PySem.F.excBase_ValueError g0S
  have k_mustL : Fkq q _ _ _ _ := N_must_be_sum.fk g_mustL
  have k_is_sum : Fkq q _ _ _ _ := N_is_sum.fk g_is_sum
  have k_read_number : Fkq q _ _ _ _ := N_read_number.fk (ok_read_number (q := q) N_read_number.fn (X_BadRow 0) h_MOST_FIGURES B)
  have k_read_sum : Fkq q _ _ _ _ := N_read_sum.fk (ok_read_sum (q := q) N_read_sum.fn (k_read_number.up (by decide)) (k_is_sum.up (by decide)) (X_BadRow 1))
  have k_shown_sum : Fkq q _ _ _ _ := N_shown_sum.fk (ok_shown_sum (q := q) N_shown_sum.fn (k_mustL.up (by decide)) B)
  have k_bag : Fkq q _ _ _ _ := N_bag.fk (bag_w (ok_bag N_bag.fn B.len B.list))
  have k_pull : Fkq q _ _ _ _ := N_pull.fk (pull_w (ok_pull N_pull.fn B.len))
  have k_join : Fkq q _ _ _ _ := N_join.fk (ok_join (q := q) N_join.fn B)
  have k_rising : Fkq q _ _ _ _ := N_rising.fk (ok_rising (q := q) N_rising.fn B)
  have k_whole : Fkq q _ _ _ _ := N_whole.fk (ok_whole (q := q) N_whole.fn B)
  have k_row : Fkq q _ _ _ _ := N_row.fk (ok_row (q := q) N_row.fn (k_whole.up (by decide)) B)
  have k_same : Fkq q _ _ _ _ := N_same.fk (ok_same (q := q) N_same.fn (k_row.up (by decide)))
  have k_wide : Fkq q _ _ _ _ := N_wide.fk (ok_wide (q := q) N_wide.fn (k_pull.up (by decide)) (k_join.up (by decide)) B)
  have k_read : Fkq q _ _ _ _ := N_read.fk (ok_read (q := q) N_read.fn (k_rising.up (by decide)) B)
  have k_told : Fkq q _ _ _ _ := N_told.fk (ok_told (q := q) N_told.fn (k_read_sum.up (by decide)) (X_BadRow 2))
  have k_spoilt : Fkq q _ _ _ _ := N_spoilt.fk (ok_spoilt (q := q) N_spoilt.fn (k_pull.up (by decide)) B)
  exact fn_x0 (law_w (ok_law (q := q) F_law (k_bag.up (by decide)) (k_wide.up (by decide)) (k_shown_sum.up (by decide)) (k_same.up (by decide)) (k_read_sum.up (by decide)) (k_told.up (by decide)) (k_spoilt.up (by decide)) (k_read.up (by decide)) (k_whole.up (by decide)) B)) fun _ _ _ _ z => z
theorem walk {l : PySem.W.OpenLaw} {q : Program} {loose : List Str} {XP : (Str → Option Value) → Heap → Prop} {YP : World → Heap → Prop} {d : DefRec} {K : Params → PySem.W.Frag} {dx : DefRec} (hn : l.most = some 63) (hdf : d.params.defaults = [])
    (hY : ∀ (w : World) (h : Heap), YP w h → (K w.params).In h) (hrec : (PyProof.Rows.recsOf q).find? (fun e => e.name == ("is_sum" : Str)) = some dx)
    (F : ∀ (w : World) (mg : Str → Option Value) (fa : Addr) (h : Heap), (K w.params).In h → h.Ns mainGlobals mg → mg d.name = some (.ref fa) →
      ∃ (c tab : Addr) (fd : FuncData), PySem.W.tabIn (K w.params) "is_sum" = some (c, tab) ∧ (K w.params).lookup tab = none ∧ (∀ (s : Shared) (u : Value), BindsTo s fd ⟨[u], []⟩ [("_law_script", u)]) ∧
        ∀ base : Heap, (K w.params).In base → base.Ns mainGlobals mg → BaseT mg base c tab → FnOk l.prog w (K w.params) mg base CX0 6 fa fd ["_law_script"] (spLaw (K w.params) tab)) :
    PySem.W.WalkO q loose XP YP l.row.toRowW d [] (fun f vs => PySem.call f vs) :=
  L2.walk_ofT (n := 63) (k := 6) (x := "_law_script") (tx := "is_sum") (CX := CX0) (sp := fun _ K tab => spLaw K tab) hn (by decide) hdf ⟨rfl, by decide, by decide⟩ hY hrec F (fun _ K H a tab ns _ hS hH => ⟨a, ns, rfl, hS, ⟨#[], hH, trivial⟩, fun _ => rfl⟩) fun _ _ _ _ z => z
end K7
open WL
local macro_rules | `(tactic| walk_at "kf") => `(tactic| exact dq_mk (by k_is) (by k_is) (by k_is) (by k_is))
open PySem PySem.W PyProof.Rows
set_option maxRecDepth 100000 in
set_option maxHeartbeats 0 in
theorem PySem.Challenge.cw_slimbody_k58_sums_written_and_read_holds : PySem.Challenge.rw_slimbody_k58_sums_written_and_read.Holds := by
  w_on; o_law; k_head; (case hw => w_witness2)
  k_fill
  refine K7.walk (l := PySem.Challenge.rw_slimbody_k58_sums_written_and_read) rfl rfl (fun w h Y => PySem.W.kIn_of Y) (by rfl) ?F
  case F =>
    intro w mg fa h KX G hmg
    refine' K7.all_mk KX G hmg ?a1 ?l1 ?c1 ?k1 ?lc ?ev ?hKt ?aL ?lL ?cL ?kL ?q_must_be_sum ?q_read_number ?q_read_sum ?q_shown_sum ?q_bag ?q_pull ?q_join ?q_rising ?q_whole ?q_row ?q_same ?q_wide ?q_read ?q_told ?q_spoilt ?axS ?exS ?axB ?neB ?axE ?exE ?lB ?nsB ?nsO ?tlB ?lI ?cI ?lD ?fD ?pD ?lcc ?clB ?miB ?opB ?tpB ?suB ?mvB ?sB ?atB ?gB ?gnB ?hdB ?lT ?p_MF ?aSu ?zz
    (case a1 => k_is)
    (case l1 => k_is)
    (case c1 => k_is)
    (case k1 => k_is)
    (case lc => k_is)
    (case ev => rfl)
    (case hKt => rfl)
    (case aL => k_is)
    (case lL => k_is)
    (case cL => k_is)
    (case kL => k_is)
    (case q_must_be_sum => walk_at "kf")
    (case q_read_number => walk_at "kf")
    (case q_read_sum => walk_at "kf")
    (case q_shown_sum => walk_at "kf")
    (case q_bag => walk_at "kf")
    (case q_pull => walk_at "kf")
    (case q_join => walk_at "kf")
    (case q_rising => walk_at "kf")
    (case q_whole => walk_at "kf")
    (case q_row => walk_at "kf")
    (case q_same => walk_at "kf")
    (case q_wide => walk_at "kf")
    (case q_read => walk_at "kf")
    (case q_told => walk_at "kf")
    (case q_spoilt => walk_at "kf")
    (case axS => k_is)
    (case exS => k_exc)
    (case axB => k_is)
    (case neB => decide)
    (case axE => k_is)
    (case exE => k_exc)
    (case lB => k_is)
    (case nsB => k_is)
    (case nsO => kernel_rfl)
    (case tlB => kernel_rfl)
    (case lI => k_is)
    (case cI => k_is)
    (case lD => k_is)
    (case fD => rfl)
    (case pD => rfl)
    (case lcc => k_is)
    (case clB => k_is)
    (case miB => k_is)
    (case opB => k_is)
    (case tpB => rfl)
    (case suB => rfl)
    (case mvB => k_is)
    (case sB => k_is)
    (case atB => k_is)
    (case gB => k_is)
    (case gnB => k_is)
    (case hdB => k_is)
    (case lT => k_is)
    (case p_MF => k_is)
    (case aSu => k_is)
    (case zz => constructor <;> k_is)
