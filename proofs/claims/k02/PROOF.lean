import PyProof.Rows.All
import Wide.All
import OpenK.AllK
import Wide.FinOn
import Lean
import PyProof.EqAt
import PyProof.EqKinds
import PyProof.TupleCall
import PyProof.Rows.SetFrom
import PyProof.Rows.SortWalkRead
import PyProof.Rows.EqDataRows
import PyProof.CompFree
import PyProof.ZipIter
import PyProof.Rows.ZipGen
import PyProof.GenCompD
import PyProof.CodeObjX
import KE.KNest
import PyProof.AutoListH
import PyProof.ExcBaseAll.ValueError
import PySem.Challenge.RW_slimbody_k02_sums_or_refused
set_option Elab.async false
set_option linter.all false
set_option maxRecDepth 100000
/-! THE HAND LAYER, for ints, bools, texts, own classes, LISTS and tuples (index, slices, in, append, pop ..), calls, loops. Paste it whole ahead of your own text; what your proof does not reach may be deleted. -/
namespace L2
open PySem PySem.Spec PyProof.Rows

/-- a key: an int or a str -/
abbrev Key := Sum Int Str
def keyIs : Key → Value → Bool
  | .inl k, v => Value.isInt k v
  | .inr x, v => Value.isStrOf x v
def keyH (w : World) : Key → Int
  | .inl k => hashInt k
  | .inr x => hashStr w x
theorem keyIs_shape : ∀ {k : Key} {v : Value}, keyIs k v = true → (∃ i t, k = Sum.inl i ∧ v = Value.int i t) ∨ (∃ x t, k = Sum.inr x ∧ v = Value.str x t)
  | .inl i, v, h => by
    obtain ⟨t, e⟩ := Value.isInt_shape (k := i) (v := v) h
    exact .inl ⟨i, t, rfl, e⟩
  | .inr x, v, h => by
    obtain ⟨t, e⟩ := Value.isStrOf_shape (x := x) (v := v) h
    exact .inr ⟨x, t, rfl, e⟩
theorem keyIs_int (i : Int) (t : Tok) : keyIs (.inl i) (.int i t) = true := by simp [keyIs, Value.isInt]
theorem keyIs_str (x : Str) (t : Tok) : keyIs (.inr x) (.str x t) = true := by simp [keyIs, Value.isStrOf]
theorem key_ll (a b : Int) : decide ((Sum.inl a : Key) = Sum.inl b) = (a == b) := by
  by_cases e : a = b
  · subst e; simp
  · have h : ¬ (Sum.inl a : Key) = Sum.inl b := fun q => e (Sum.inl.inj q)
    rw [decide_eq_false h]
    exact (beq_eq_false_iff_ne.mpr e).symm
theorem key_rr (a b : Str) : decide ((Sum.inr a : Key) = Sum.inr b) = decide (a = b) := by
  by_cases e : a = b
  · subst e; simp
  · have h : ¬ (Sum.inr a : Key) = Sum.inr b := fun q => e (Sum.inr.inj q)
    rw [decide_eq_false h, decide_eq_false e]
theorem key_lr (a : Int) (b : Str) : decide ((Sum.inl a : Key) = Sum.inr b) = false := decide_eq_false (fun q => nomatch q)
theorem key_rl (a : Str) (b : Int) : decide ((Sum.inr a : Key) = Sum.inl b) = false := decide_eq_false (fun q => nomatch q)

def mixKind (prog : Program) (w : World) : PySem.KeyKind prog w Key where
  is := keyIs
  hash := keyH w
  inj := fun v a b ha hb => by
    rcases keyIs_shape ha with ⟨i, t, rfl, rfl⟩ | ⟨x, t, rfl, rfl⟩
    · rcases keyIs_shape hb with ⟨j, u, rfl, e⟩ | ⟨y, u, rfl, e⟩
      · injection e with e1 _; rw [e1]
      · exact nomatch e
    · rcases keyIs_shape hb with ⟨j, u, rfl, e⟩ | ⟨y, u, rfl, e⟩
      · exact nomatch e
      · injection e with e1 _; rw [e1]
  byValue := fun k v h => by
    rcases keyIs_shape h with ⟨i, t, rfl, rfl⟩ | ⟨x, t, rfl, rfl⟩ <;> rfl
  pyHash := fun hv h => by
    rcases keyIs_shape hv with ⟨i, t, rfl, rfl⟩ | ⟨x, t, rfl, rfl⟩
    · exact wpAny_pyHash_int h
    · exact wpAny_pyHash_str h
  eqBool := fun hu hv h => by
    rcases keyIs_shape hu with ⟨i, t, rfl, rfl⟩ | ⟨x, t, rfl, rfl⟩
    · rcases keyIs_shape hv with ⟨j, u, rfl, rfl⟩ | ⟨y, u, rfl, rfl⟩
      · rw [key_ll] at h; exact wpAny_eqBool_int h
      · rw [key_lr] at h; exact SeqAt.EqAt.int_str i t y u _ _ _ _ h
    · rcases keyIs_shape hv with ⟨j, u, rfl, rfl⟩ | ⟨y, u, rfl, rfl⟩
      · rw [key_rl] at h; exact SeqAt.EqAt.str_int x t j u _ _ _ _ h
      · rw [key_rr] at h; exact wpAny_eqBool_str h
  «strs» := fun k x t v h => by
    rcases keyIs_shape h with ⟨i, u, rfl, e⟩ | ⟨y, u, rfl, e⟩
    · exact nomatch e
    · injection e with e1 _
      subst e1
      cases v <;> rfl

theorem mixKind_is (prog : Program) (w : World) (k : Key) (v : Value) : (mixKind prog w).is k v = keyIs k v := rfl
theorem mixKind_int (prog : Program) (w : World) (i : Int) (t : Tok) : (mixKind prog w).is (.inl i) (.int i t) = true := keyIs_int i t
theorem mixKind_str (prog : Program) (w : World) (x : Str) (t : Tok) : (mixKind prog w).is (.inr x) (.str x t) = true := keyIs_str x t
end L2

namespace L2
open PySem PySem.Spec PyProof.Rows

/-- a value, without the heap -/
inductive V where
  | non | bl (b : Bool) | int (i : Int) | str (x : Str) | byt (b : Array UInt8) | flt (b : UInt64) | ref (a : Addr) | ty (n : String)
  deriving DecidableEq

def RelV : V → Value → Prop
  | .non, u => u = Value.none
  | .bl b, u => u = Value.bool b
  | .int i, u => ∃ t, u = Value.int i t
  | .str x, u => ∃ t, u = Value.str x t
  | .byt b, u => ∃ t, u = Value.bytes b t
  | .flt b, u => ∃ t, u = Value.float b t
  | .ref a, u => u = Value.ref a
  | .ty n, u => u = Value.type n

abbrev Vals : List V → List Value → Prop := Paired RelV
theorem Vals.length {xs : List V} {us : List Value} (r : Vals xs us) : xs.length = us.length := Paired.length r
theorem Vals.get : ∀ {xs : List V} {us : List Value} {i : Nat} {x : V}, Vals xs us → xs[i]? = some x → ∃ u, us[i]? = some u ∧ RelV x u
  | _, _, _, _, .nil, e => by simp at e
  | _, _, 0, _, .cons r _, e => by simp at e; subst e; exact ⟨_, rfl, r⟩
  | _, _, i + 1, x, .cons _ t, e => by
    obtain ⟨u, h1, h2⟩ := Vals.get (i := i) (x := x) t (by simpa using e)
    exact ⟨u, by simpa using h1, h2⟩
theorem Vals.set {x : V} {u : Value} (r : RelV x u) : ∀ {xs : List V} {us : List Value} (i : Nat), Vals xs us → Vals (xs.set i x) (us.set i u)
  | _, _, _, .nil => .nil
  | _, _, 0, .cons _ t => .cons r t
  | _, _, i + 1, .cons q t => .cons q (Vals.set r i t)
theorem Vals.append : ∀ {xs ys : List V} {us ws : List Value}, Vals xs us → Vals ys ws → Vals (xs ++ ys) (us ++ ws)
  | _, _, _, _, .nil, s => s
  | _, _, _, _, .cons r t, s => .cons r (Vals.append t s)
theorem Vals.take : ∀ {xs : List V} {us : List Value} (n : Nat), Vals xs us → Vals (xs.take n) (us.take n)
  | _, _, 0, _ => .nil
  | _, _, _ + 1, .nil => .nil
  | _, _, n + 1, .cons r t => .cons r (Vals.take n t)
theorem Vals.drop : ∀ {xs : List V} {us : List Value} (n : Nat), Vals xs us → Vals (xs.drop n) (us.drop n)
  | _, _, 0, r => r
  | _, _, _ + 1, .nil => .nil
  | _, _, n + 1, .cons _ t => Vals.drop n t
theorem Vals.none_of : ∀ {xs : List V} {us : List Value} {i : Nat}, Vals xs us → xs[i]? = none → us[i]? = none := fun {xs us i} r e => by
  have h1 := r.length
  have h2 : xs.length ≤ i := List.getElem?_eq_none_iff.mp e
  exact List.getElem?_eq_none_iff.mpr (by omega)

def RelO : Option V → Option Value → Prop
  | some v, some u => RelV v u
  | none, none => True
  | _, _ => False
def KV {κ : Type} : List (κ × V) → List (κ × Value) → Prop := Paired fun (p : κ × V) (q : κ × Value) => p.1 = q.1 ∧ RelV p.2 q.2

/-- a key of a dict (00_mix): an int or a text -/
def kV : Key → V
  | .inl i => .int i
  | .inr x => .str x

/-- what stands at a tracked address -/
inductive HO where
  /-- a list -/
  | lst (xs : List V)
  /-- a tuple (never changes) -/
  | tup (xs : List V)
  /-- a dict whose keys are ints and texts; one whose keys are tuples of ints and texts (the empty one is both) -/
  | dK (kvs : List (Key × V)) | dT (kvs : List (List Key × V))
  /-- a set of ints: its members, its size -/
  | set (S : Int → Bool) (n : Nat)
  /-- an instance of the class at C, its dict at dx, its attributes -/
  | ins (C dx : Addr) (fs : List (Str × V))
  /-- the dict of the instance at x -/
  | own (x : Addr)
  /-- the dict of an exception -/
  | xd (fs : List (Str × V))
  /-- a bound method, f of x -/
  | met (f x : Addr)
  /-- a range object lo, lo + 1, .. below hi -/
  | rng (lo hi : Int)
  /-- a thing that is known to the object (the script; a dict while a loop walks it): read, never written while it is so -/
  | frz (o : Obj) (u : HO)
  /-- a code object's table -/
  | tbl (ps : Array Value)
  /-- any other thing, by what is true of its one object (a def of one's own: SetO a S n := HO.ext fun h => ..) -/
  | ext (φ : Heap → Prop)

abbrev Hp := Addr → Option HO
def upd (H : Hp) (a : Addr) (o : HO) : Hp := fun b => if b = a then some o else H b
theorem upd_same {H : Hp} {a : Addr} {o : HO} : upd H a o a = some o := by unfold upd; rw [if_pos rfl]
theorem upd_ne {H : Hp} {a b : Addr} {o : HO} (h : b ≠ a) : upd H a o b = H b := by unfold upd; rw [if_neg h]
theorem upd_upd {H : Hp} {a : Addr} {o u : HO} : upd (upd H a o) a u = upd H a u := by
  funext b; unfold upd; split <;> rfl
/-- two objects of different content stand apart -/
theorem ne_of {H : Hp} {a b : Addr} {o u : HO} (h : H a = some o) (h' : H b = some u) (d : o ≠ u) : a ≠ b := by
  intro e; subst e; rw [h] at h'; exact d (Option.some.inj h')
theorem ne_of_none {H : Hp} {a b : Addr} {o : HO} (h : H a = some o) (h' : H b = none) : a ≠ b := by
  intro e; subst e; rw [h] at h'; cases h'

section
variable (P : Program) (w : World)
def ObjOk (H : Hp) (h : Heap) (a : Addr) : HO → Prop
  | .lst xs => xs.length ≤ sizeLine ∧ ∃ (its : List Value) (n : Nat), Vals xs its ∧ h.get? a = some { cls := .type "list", data := .seq its.toArray n }
  | .tup xs => xs.length ≤ sizeLine ∧ ∃ its : List Value, Vals xs its ∧ IsTup h a its.toArray
  | .dK kvs => kvs.length ≤ sizeLine ∧ (a == sysModules) = false ∧ ∃ vs, KV kvs vs ∧ h.DictOf (mixKind P w) a vs
  | .dT kvs => kvs.length ≤ sizeLine ∧ (a == sysModules) = false ∧ ∃ xs : List (List Key × Addr × Value),
      Paired (fun (p : List Key × V) (q : List Key × Addr × Value) => p.1 = q.1 ∧ H q.2.1 = some (.tup (p.1.map kV)) ∧ RelV p.2 q.2.2) kvs xs ∧
      ∃ o es ep, h.get? a = some o ∧ o.ExactDict ∧ o.data = .dict es ep ∧ es.toList = xs.map (entryOfKey (tupleKind (mixKind P w))) ∧ (xs.map (·.1)).Nodup
  | .set S n => h.SetOf (intKind P w) a S n
  | .ins C dx fs => H dx = some (.own a) ∧ fs.length ≤ 1000 ∧ dx ≠ a ∧ h.get? a = some (PySem.W.instObj C dx) ∧
      ∃ mA, h.Ns1 dx mA ∧ (∀ f, RelO (fs.lookup f) (mA f)) ∧ PySem.Within mA (fs.map (·.1))
  | .own _ => ∃ o, h.get? a = some o
  | .xd fs => ∃ mA, h.Ns1 a mA ∧ ∀ f, RelO (fs.lookup f) (mA f)
  | .rng lo hi => ∃ t u v, h.get? a = some { cls := .type "range", data := .fields #[.int lo t, .int hi u, .int 1 v] }
  | .frz o u => h.get? a = some o ∧ ObjOk H h a u
  | .tbl ps => h.get? a = some { cls := .none, data := .fields ps }
  | .met f x => h.get? a = some (PySem.W.methodObj (.ref f) (.ref x))
  | .ext φ => φ h ∧ (∃ o, h.get? a = some o) ∧ ∀ h1 h2 : Heap, φ h1 → (∀ o, h1.get? a = some o → h2.get? a = some o) → φ h2
/-- the abstract heap is held -/
def HOk (H : Hp) (h : Heap) : Prop := ∀ a o, H a = some o → ObjOk P w H h a o
end

section
variable {P : Program} {w : World} {H H' : Hp} {h h' : Heap} {a : Addr} {o : HO}
theorem ObjOk.lt (x : ObjOk P w H h a o) : a < h.objs.size := by
  cases o with
  | lst xs => obtain ⟨_, _, _, _, e⟩ := x; exact Heap.lt_size e
  | tup xs => obtain ⟨_, _, _, p⟩ := x; exact p.lt
  | dK kvs => obtain ⟨_, _, _, _, o, _, _, e, _⟩ := x; exact Heap.lt_size e
  | dT kvs => obtain ⟨_, _, _, _, o, _, _, e, _⟩ := x; exact Heap.lt_size e
  | set S n => obtain ⟨o, _, _, _, e, _⟩ := x; exact Heap.lt_size e
  | ins C dx fs => obtain ⟨_, _, _, e, _⟩ := x; exact Heap.lt_size e
  | own y => obtain ⟨_, e⟩ := x; exact Heap.lt_size e
  | xd fs => obtain ⟨_, ⟨_, _, _, e, _⟩, _⟩ := x; exact Heap.lt_size e
  | rng lo hi => obtain ⟨_, _, _, e⟩ := x; exact Heap.lt_size e
  | frz ob u => obtain ⟨e, _⟩ := x; exact Heap.lt_size e
  | tbl ps => exact Heap.lt_size (show h.get? a = some _ from x)
  | met f y => exact Heap.lt_size (show h.get? a = some _ from x)
  | ext φ => obtain ⟨_, ⟨_, e⟩, _⟩ := x; exact Heap.lt_size e
theorem Paired.mapP {α β : Type} {F G : α → β → Prop} : ∀ {l₁ : List α} {l₂ : List β}, Paired F l₁ l₂ → (∀ a b, F a b → G a b) → Paired G l₁ l₂
  | _, _, .nil, _ => .nil
  | _, _, .cons r t, f => .cons (f _ _ r) (Paired.mapP t f)
theorem Paired.imp' {α β : Type} {F G : α → β → Prop} (f : ∀ a b, F a b → G a b) {l₁ : List α} {l₂ : List β} (r : Paired F l₁ l₂) : Paired G l₁ l₂ := Paired.mapP r f
/-- what an object's description leans on: its own object, its own dict, the tuples -/
theorem ObjOk.stay (x : ObjOk P w H h a o) (k : ∀ b u, (b = a ∨ H b = some (.own a)) → h.get? b = some u → h'.get? b = some u)
    (ho : ∀ b, H b = some (.own a) → H' b = some (.own a)) (ht : ∀ b xs, H b = some (.tup xs) → H' b = some (.tup xs)) : ObjOk P w H' h' a o := by
  induction o with
  | lst xs => obtain ⟨z, its, n, r, e⟩ := x; exact ⟨z, its, n, r, k _ _ (.inl rfl) e⟩
  | tup xs => obtain ⟨z, its, r, ob, e, c⟩ := x; exact ⟨z, its, r, ob, k _ _ (.inl rfl) e, c⟩
  | dK kvs => obtain ⟨z, y, vs, r, ob, es, ep, e, c⟩ := x; exact ⟨z, y, vs, r, ob, es, ep, k _ _ (.inl rfl) e, c⟩
  | dT kvs =>
    obtain ⟨z, y, xs, r, ob, es, ep, e, c⟩ := x
    exact ⟨z, y, xs, Paired.mapP r fun p q z => ⟨z.1, ht _ _ z.2.1, z.2.2⟩, ob, es, ep, k _ _ (.inl rfl) e, c⟩
  | set S n => obtain ⟨ob, es, ep, t, e, c⟩ := x; exact ⟨ob, es, ep, t, k _ _ (.inl rfl) e, c⟩
  | ins C dx fs =>
    obtain ⟨d, z, ne, e, mA, ⟨od, es, ep, e2, c⟩, r⟩ := x
    exact ⟨ho _ d, z, ne, k _ _ (.inl rfl) e, mA, ⟨od, es, ep, k _ _ (.inr d) e2, c⟩, r⟩
  | own y => obtain ⟨ob, e⟩ := x; exact ⟨ob, k _ _ (.inl rfl) e⟩
  | xd fs => obtain ⟨mA, ⟨od, es, ep, e, c⟩, r⟩ := x; exact ⟨mA, ⟨od, es, ep, k _ _ (.inl rfl) e, c⟩, r⟩
  | rng lo hi => obtain ⟨t, u, v, e⟩ := x; exact ⟨t, u, v, k _ _ (.inl rfl) e⟩
  | frz ob u ih => obtain ⟨e, q⟩ := x; exact ⟨k _ _ (.inl rfl) e, ih q⟩
  | tbl ps =>
    have e : h.get? a = some { cls := .none, data := .fields ps } := x
    show h'.get? a = some { cls := .none, data := .fields ps }
    exact k a _ (.inl rfl) e
  | met f y =>
    have e : h.get? a = some (PySem.W.methodObj (.ref f) (.ref y)) := x
    show h'.get? a = some (PySem.W.methodObj (.ref f) (.ref y))
    exact k a _ (.inl rfl) e
  | ext φ => obtain ⟨p, ⟨o, e⟩, st⟩ := x; exact ⟨st _ _ p fun o q => k _ _ (.inl rfl) q, ⟨o, k _ _ (.inl rfl) e⟩, st⟩
theorem HOk.lt (x : HOk P w H h) (e : H a = some o) : a < h.objs.size := (x a o e).lt
theorem HOk.fresh (x : HOk P w H h) (e : h.objs.size ≤ a) : H a = none := by
  cases q : H a with
  | none => rfl
  | some u => exact absurd (Nat.lt_of_lt_of_le (x.lt q) e) (Nat.lt_irrefl _)
/-- every object of the heap is kept -/
theorem HOk.kept (x : HOk P w H h) (k : ∀ b u, h.get? b = some u → h'.get? b = some u) : HOk P w H h' := fun a o e =>
  (x a o e).stay (fun b u _ q => k b u q) (fun _ q => q) fun _ _ q => q
/-- a new object is laid and tracked -/
theorem HOk.laid (x : HOk P w H h) (k : ∀ b u, h.get? b = some u → h'.get? b = some u) (hp : h.objs.size ≤ a) (new : ObjOk P w (upd H a o) h' a o) : HOk P w (upd H a o) h' := fun b u e => by
  have hn := x.fresh hp
  by_cases hb : b = a
  · subst hb; rw [upd_same] at e; cases e; exact new
  · rw [upd_ne hb] at e
    exact (x b u e).stay (fun c v _ q => k c v q) (fun c q => by rw [upd_ne (ne_of_none q hn)]; exact q) fun c xs q => by rw [upd_ne (ne_of_none q hn)]; exact q
end

/-- what may be read as u: it is u, or a known u -/
def Rd (H : Hp) (a : Addr) (u : HO) : Prop := H a = some u ∨ ∃ o, H a = some (.frz o u)
theorem Rd.of {H : Hp} {a : Addr} {u : HO} (h : H a = some u) : Rd H a u := .inl h
theorem Rd.ok {P : Program} {w : World} {H : Hp} {h : Heap} {a : Addr} {u : HO} (r : Rd H a u) (x : HOk P w H h) : ObjOk P w H h a u := by
  rcases r with r | ⟨o, r⟩
  · exact x a u r
  · obtain ⟨_, q⟩ := x a _ r
    exact q
/-- what may be written -/
def Mut : Option HO → Prop
  | some (.lst _) => True
  | some (.dK _) => True
  | some (.dT _) => True
  | some (.set _ _) => True
  | some (.ins _ _ _) => True
  | some (.ext _) => True
  | _ => False
section
variable {P : Program} {w : World} {H : Hp} {h h' : Heap} {x e : Addr} {o' : HO}
/-- the object at e is changed: x itself, or the dict of the instance x -/
theorem HOk.write (ok : HOk P w H h) (mu : Mut (H x)) (he : e = x ∨ H e = some (.own x)) (k : ∀ b u, b ≠ e → h.get? b = some u → h'.get? b = some u) (heo : ∃ u, h'.get? e = some u)
    (new : ObjOk P w (upd H x o') h' x o') : HOk P w (upd H x o') h' := fun b u q => by
  have nown : ∀ c y, H c = some (.own y) → c ≠ x := fun c y r z => by subst z; rw [r] at mu; exact mu
  have ntup : ∀ c xs, H c = some (.tup xs) → c ≠ x := fun c xs r z => by subst z; rw [r] at mu; exact mu
  by_cases hb : b = x
  · subst hb; rw [upd_same] at q; cases q; exact new
  · rw [upd_ne hb] at q
    by_cases hbe : b = e
    · have q' : H b = some (.own x) := by
        rcases he with z | z
        · exact absurd (hbe.trans z) hb
        · rw [hbe]; exact z
      rw [q] at q'; cases q'
      obtain ⟨v, hv⟩ := heo
      exact ⟨v, by rw [hbe]; exact hv⟩
    · refine (ok b u q).stay (fun c v hc r => k c v ?_ r) (fun c r => by rw [upd_ne (nown c b r)]; exact r) fun c xs r => by rw [upd_ne (ntup c xs r)]; exact r
      rcases hc with rfl | hc
      · exact hbe
      · rintro rfl
        rcases he with z | z
        · exact nown c b hc z
        · rw [hc] at z; cases z; exact hb rfl
end

/-! ### kept unless tracked; of the frames at fs (the callers') the slots may change (an exception that passes writes there); of the records at ex (iterators) nothing is said -/
structure Un (fs ex : List Addr) (H H' : Hp) (h h' : Heap) : Prop where
  keep : ∀ b o, h.get? b = some o → H b = none → b ∉ fs → b ∉ ex → h'.get? b = some o
  slot : ∀ b o, h.get? b = some o → H b = none → b ∈ fs → b ∉ ex → ∃ sl, h'.get? b = some { o with slots := sl }
  free : ∀ b o, h.get? b = some o → H b = none → b ∉ ex → H' b = none
  there : ∀ b o, h.get? b = some o → b ∉ ex → ∃ o', h'.get? b = some o'
  tups : ∀ b xs, H b = some (.tup xs) → H' b = some (.tup xs)
  frzs : ∀ b o u, H b = some (.frz o u) → H' b = some (.frz o u)
  tbls : ∀ b ps, H b = some (.tbl ps) → ∃ more, H' b = some (.tbl (ps ++ more))
section
variable {fs fs' ex ex' : List Addr} {H H1 H2 : Hp} {h h1 h2 h' : Heap} {a x e : Addr} {o : HO}
theorem Un.any (u : Un fs ex H H1 h h1) {b : Addr} {ob : Obj} (q : h.get? b = some ob) (n : H b = none) (hx : b ∉ ex) : ∃ sl, h1.get? b = some { ob with slots := sl } := by
  by_cases hb : b ∈ fs
  · exact u.slot b ob q n hb hx
  · exact ⟨ob.slots, u.keep b ob q n hb hx⟩
theorem Un.trans (a : Un fs ex H H1 h h1) (b : Un fs ex H1 H2 h1 h2) : Un fs ex H H2 h h2 where
  keep := fun c ob q n hc hx => b.keep c ob (a.keep c ob q n hc hx) (a.free c ob q n hx) hc hx
  slot := fun c ob q n hc hx => by
    obtain ⟨sl, e1⟩ := a.slot c ob q n hc hx
    obtain ⟨sl', e2⟩ := b.slot c _ e1 (a.free c ob q n hx) hc hx
    exact ⟨sl', e2⟩
  free := fun c ob q n hx => by
    obtain ⟨o', e1⟩ := a.there c ob q hx
    exact b.free c o' e1 (a.free c ob q n hx) hx
  there := fun c ob q hx => by
    obtain ⟨o', e1⟩ := a.there c ob q hx
    exact b.there c o' e1 hx
  tups := fun c xs q => b.tups c xs (a.tups c xs q)
  frzs := fun c ob xs q => b.frzs c ob xs (a.frzs c ob xs q)
  tbls := fun c ps q => by
    obtain ⟨m1, e1⟩ := a.tbls c ps q
    obtain ⟨m2, e2⟩ := b.tbls c _ e1
    exact ⟨m1 ++ m2, by rw [e2, Array.append_assoc]⟩
theorem Un.kept (k : ∀ b u, h.get? b = some u → h'.get? b = some u) : Un fs ex H H h h' :=
  ⟨fun b ob q _ _ _ => k b ob q, fun b ob q _ _ _ => ⟨ob.slots, k b ob q⟩, fun _ _ _ n _ => n, fun b ob q _ => ⟨ob, k b ob q⟩, fun _ _ q => q, fun _ _ _ q => q, fun _ ps q => ⟨#[], by rw [q]; simp⟩⟩
theorem Un.refl : Un fs ex H H h h := Un.kept fun _ _ q => q
theorem Un.laid (k : ∀ b u, h.get? b = some u → h'.get? b = some u) (hp : h.objs.size ≤ a) (hn : H a = none) : Un fs ex H (upd H a o) h h' where
  keep := fun b u q _ _ _ => k b u q
  slot := fun b u q _ _ _ => ⟨u.slots, k b u q⟩
  free := fun b u q n _ => by rw [upd_ne (Nat.ne_of_lt (Nat.lt_of_lt_of_le (Heap.lt_size q) hp))]; exact n
  there := fun b u q _ => ⟨u, k b u q⟩
  tups := fun b xs q => by rw [upd_ne (ne_of_none q hn)]; exact q
  frzs := fun b u xs q => by rw [upd_ne (ne_of_none q hn)]; exact q
  tbls := fun b ps q => ⟨#[], by rw [upd_ne (ne_of_none q hn), q]; simp⟩
theorem Un.write (mu : Mut (H x)) (he : e = x ∨ H e = some (.own x)) (k : ∀ b u, b ≠ e → h.get? b = some u → h'.get? b = some u) (heo : ∃ u, h'.get? e = some u) : Un fs ex H (upd H x o) h h' := by
  have hx : ∀ b, H b = none → b ≠ x := fun b n z => by subst z; rw [n] at mu; exact mu
  have hb : ∀ b, H b = none → b ≠ e := fun b n z => by
    subst z
    rcases he with r | r
    · exact hx b n r
    · rw [n] at r; cases r
  have hm : ∀ b u, H b = some u → ¬ Mut (some u) → b ≠ x := fun b u q nm z => by subst z; rw [q] at mu; exact nm mu
  refine ⟨fun b u q n _ _ => k b u (hb b n) q, fun b u q n _ _ => ⟨u.slots, k b u (hb b n) q⟩, fun b u q n _ => by rw [upd_ne (hx b n)]; exact n, fun b u q _ => ?_,
    fun b xs q => by rw [upd_ne (hm b _ q fun z => z)]; exact q, fun b u xs q => by rw [upd_ne (hm b _ q fun z => z)]; exact q, fun b ps q => ⟨#[], by rw [upd_ne (hm b _ q fun z => z), q]; simp⟩⟩
  by_cases hbe : b = e
  · subst hbe; exact heo
  · exact ⟨u, k b u hbe q⟩
theorem Un.mono (u : Un fs ex H H1 h h1) (hs : ∀ b ∈ fs, b ∈ fs') (hx : ∀ b ∈ ex, b ∈ ex') : Un fs' ex' H H1 h h1 :=
  ⟨fun b ob q n hb he => u.keep b ob q n (fun z => hb (hs b z)) fun z => he (hx b z), fun _ _ q n _ he => u.any q n fun z => he (hx _ z), fun b ob q n he => u.free b ob q n fun z => he (hx b z), fun b ob q he => u.there b ob q fun z => he (hx b z), u.tups, u.frzs, u.tbls⟩
end

/-! ### the heap without what is tracked -/
def trk (h : Heap) (H : Hp) : List Addr := (List.range h.objs.size).filter fun a => (H a).isSome
def hidT (h : Heap) (H : Hp) : Heap := PySem.W.hideAll h (trk h H)
theorem hidT_size (h : Heap) (H : Hp) : (hidT h H).objs.size = h.objs.size := PySem.W.hideAll_size _ _
theorem hidT_get {h : Heap} {H : Hp} {b : Addr} {o : Obj} (e : h.get? b = some o) (n : H b = none) : (hidT h H).get? b = some o :=
  PySem.W.hideAll_get _ e fun hm => by
    have q : (H b).isSome = true := (List.mem_filter.mp hm).2
    rw [n] at q; simp at q
theorem of_hidT {h : Heap} {H : Hp} {b : Addr} {o : Obj} (e : (hidT h H).get? b = some o) : h.get? b = some o ∧ H b = none := by
  have e' : h.get? b = some o := PySem.W.of_hideAll (trk h H) e
  refine ⟨e', ?_⟩
  cases q : H b with
  | none => rfl
  | some x =>
    have hm : b ∈ trk h H := List.mem_filter.mpr ⟨List.mem_range.mpr (Heap.lt_size e'), by simp [q]⟩
    have z : (hidT h H).get? b = none := PySem.W.hideAll_none (trk h H) hm
    rw [z] at e; cases e

/-! ### OpenK's ledger, filled with every new object but one -/
def allNews (g h : Heap) (L : Addr) : List (Addr × Obj) := (List.range h.objs.size).filterMap fun a => if a = L ∨ (g.get? a).isSome = true then none else (h.get? a).map fun o => (a, o)
theorem mem_allNews {g h : Heap} {L a : Addr} {o : Obj} (h1 : a ≠ L) (h2 : g.get? a = none) (h3 : h.get? a = some o) : (a, o) ∈ allNews g h L :=
  List.mem_filterMap.mpr ⟨a, List.mem_range.mpr (Heap.lt_size h3), by simp [h1, h2, h3]⟩
theorem of_mem_allNews {g h : Heap} {L : Addr} {p : Addr × Obj} (hp : p ∈ allNews g h L) : p.1 ≠ L ∧ g.get? p.1 = none ∧ h.get? p.1 = some p.2 := by
  obtain ⟨b, _, e⟩ := List.mem_filterMap.mp hp
  split at e
  · cases e
  · rename_i hn
    cases q : h.get? b with
    | none => rw [q] at e; simp at e
    | some u =>
      rw [q] at e
      simp only [Option.map_some, Option.some.injEq] at e
      subst e
      refine ⟨fun z => hn (.inl z), ?_, q⟩
      show g.get? b = none
      cases r : g.get? b with
      | none => rfl
      | some v => exact (hn (.inr (by simp [r]))).elim
def rest (g h : Heap) (L d : Addr) : List (Addr × Obj) := (allNews g h L).filter fun p => decide (p.1 ≠ d)
theorem rest_ne {g h : Heap} {L d : Addr} : ∀ p ∈ rest g h L d, p.1 ≠ d := fun p hp => of_decide_eq_true (List.mem_filter.mp hp).2
theorem mem_rest {g h : Heap} {L d a : Addr} {o : Obj} (h1 : a ≠ L) (h2 : g.get? a = none) (h3 : h.get? a = some o) (h4 : a ≠ d) : (a, o) ∈ rest g h L d :=
  List.mem_filter.mpr ⟨mem_allNews h1 h2 h3, decide_eq_true h4⟩
theorem news_all {g h : Heap} {L : Addr} : News g L h (allNews g h L) := fun p hp => let ⟨a, b, c⟩ := of_mem_allNews hp; ⟨c, a, b⟩
theorem news_at {g h : Heap} {L d : Addr} {o : Obj} (h1 : d ≠ L) (h2 : g.get? d = none) (h3 : h.get? d = some o) : News g L h ((d, o) :: rest g h L d) := fun p hp => by
  rcases List.mem_cons.mp hp with rfl | hp
  · exact ⟨h3, h1, h2⟩
  · exact news_all p (List.mem_filter.mp hp).1
/-- behind a rule that changed d alone: all else but the frame is kept -/
theorem kept_of_news {g h h' : Heap} {L d : Addr} {m : Str → Option Value} (k : ∀ b o, g.get? b = some o → h.get? b = some o) (F : Fr g L h' m) (N : News g L h' (rest g h L d)) :
    ∀ b o, b ≠ L → b ≠ d → h.get? b = some o → h'.get? b = some o := fun b o h1 h2 e => by
  cases q : g.get? b with
  | some u =>
    have := k b u q
    rw [e] at this; cases this
    exact F.keep b _ q
  | none => exact (N (b, o) (mem_rest h1 q e h2)).1
end L2

namespace L2
open PySem PySem.Spec PyProof.Rows

/-- the module's facts, over the base: the heap at the law's entry without what is tracked there -/
structure Mod (K : PySem.W.Frag) (mg : Str → Option Value) (base : Heap) : Prop where
  kin : K.In base
  glob : base.Ns mainGlobals mg
  blt : ∃ mb, base.Ns builtinsNs mb ∧ ∀ x : Str, x ≠ "__name__" → mb x = bootBuiltins x
  nolimit : base.NoLimit

/-- the context: a def's body (or a comprehension's block) running. base: fixed through the whole law; s₀, H₀: the entry; outer: the frames whose slots others may change (a def's callers); stack: all frames that run;
   ex: iterators that were made ahead of the entry and are walked here (a comprehension's); fn: the names whose cells were made at the entry (a def: all; a comprehension's block: its own); calm: not within an except suite; pn: pins that every state bears; xe: what is wanted of an exception that leaves the code -/
structure Cx where
  prog : Program
  w : World
  K : PySem.W.Frag
  mg : Str → Option Value
  base : Heap
  A : Around
  N : List Str
  s₀ : Shared
  H₀ : Hp
  env : Env
  outer : List Env
  stack : List Env
  ex : List Addr
  fn : Str → Bool
  calm : Bool
  pn : List (Addr × Obj)
  xe : Value → Shared → Prop
/-- the callers' frames -/
def frs (l : List Env) : List Addr := l.filterMap (·.frame)
abbrev Cx.fs (X : Cx) : List Addr := frs X.outer

def Vis (sc : Scope) (x : Str) : Prop := sc.names.lookup x = some .local ∨ sc.names.lookup x = some .cell ∨ sc.names.lookup x = some .free
def Loc (sc : Scope) (x : Str) : Prop := sc.names.lookup x = some .local ∨ sc.names.lookup x = some .cell
def Look (env : Env) (h : Heap) (m : Str → Option Value) (x : Str) (u : Value) : Prop :=
  (env.kindOf x = some .local ∧ m x = some u) ∨ ((env.kindOf x = some .cell ∨ env.kindOf x = some .free) ∧ ∃ c, env.cells.lookup x = some c ∧ h.IsCell c (some u))

structure Cx.Ok (X : Cx) : Prop where
  mod : Mod X.K X.mg X.base
  kind : X.env.scope.kind = .function
  glob : X.env.globals = mainGlobals
  blt : X.env.builtins = builtinsNs
  above : X.s₀.heap.objs.size ≤ X.env.locals
  inj : ∀ x y c, X.env.cells.lookup x = some c → X.env.cells.lookup y = some c → x = y
  has : ∀ x, (X.env.kindOf x = some .cell ∨ X.env.kindOf x = some .free) → ∃ c, X.env.cells.lookup x = some c
  cab : ∀ x c, X.fn x = true → X.env.cells.lookup x = some c → X.s₀.heap.objs.size ≤ c
  hd : X.calm = true → X.A.handled = none
  frames : X.A.frames = some X.stack
  stk : X.stack = X.outer ∨ (X.stack = X.env :: X.outer ∧ X.env.frame = some X.env.locals)
  exf : ∀ b ∈ X.ex, b ≠ X.env.locals ∧ ∀ x c, X.env.cells.lookup x = some c → c ≠ b
  bs : ∀ b o, X.base.get? b = some o → X.s₀.heap.get? b = some o ∧ X.H₀ b = none
  bsz : X.base.objs.size ≤ X.s₀.heap.objs.size
  noex : ∀ b o, X.base.get? b = some o → b ∉ X.ex
  exfs : ∀ b ∈ X.ex, b ∉ X.fs
  funs : X.s₀.heap.FunFrames X.base X.outer
  frf : ∀ b ∈ X.fs, X.H₀ b = none

structure Inv (X : Cx) (pins : List (Addr × Obj)) (σ : List (Option V)) (H : Hp) (s : Shared) : Prop where
  ok : X.Ok
  os : s.os = X.s₀.os
  bare : AllBare s.gens
  base : Un X.fs X.ex X.H₀ H X.s₀.heap s.heap
  loc : ∃ m, s.heap.Ns X.env.locals m ∧ ∀ (i : Nat) (x : Str) (v : V), X.N[i]? = some x → σ[i]? = some (some v) → Vis X.env.scope x → ∃ u, RelV v u ∧ Look X.env s.heap m x u
  cell : ∀ x c, X.env.cells.lookup x = some c → ∃ v, s.heap.IsCell c v
  free : H X.env.locals = none
  freeC : ∀ x c, X.env.cells.lookup x = some c → H c = none
  pin : ∀ p ∈ X.pn ++ pins, s.heap.get? p.1 = some p.2 ∧ H p.1 = none ∧ p.1 ≠ X.env.locals ∧ p.1 ∉ X.fs ∧ ∀ v, p.2.data ≠ .cell v
  hok : HOk X.prog X.w H s.heap
  len : σ.length = X.N.length

section
variable {X : Cx} {pins : List (Addr × Obj)} {σ : List (Option V)} {H H' : Hp} {s : Shared} {h' : Heap}

theorem Cx.Ok.nofr (ok : X.Ok) {b : Addr} {o : Obj} (e : X.base.get? b = some o) : b ∉ X.fs := fun hb => by
  have := (ok.funs.mem hb).1
  rw [e] at this; cases this
theorem Inv.bs (I : Inv X pins σ H s) : ∀ b o, X.base.get? b = some o → s.heap.get? b = some o ∧ H b = none := fun b o e =>
  ⟨I.base.keep b o (I.ok.bs b o e).1 (I.ok.bs b o e).2 (I.ok.nofr e) (I.ok.noex b o e), I.base.free b o (I.ok.bs b o e).1 (I.ok.bs b o e).2 (I.ok.noex b o e)⟩
theorem Inv.bk (I : Inv X pins σ H s) : ∀ b o, X.base.get? b = some o → s.heap.get? b = some o := fun b o e => (I.bs b o e).1
theorem Inv.mod (I : Inv X pins σ H s) : Mod X.K X.mg X.base := I.ok.mod
theorem Inv.kIn (I : Inv X pins σ H s) : X.K.In s.heap := I.ok.mod.kin.keeps I.bk
theorem Inv.nolimit (I : Inv X pins σ H s) : s.heap.NoLimit := I.ok.mod.nolimit.keeps I.bk
/-- the frame over the base: for OpenK's rules (K.In X.base is I.mod.kin) -/
theorem Inv.fr (I : Inv X pins σ H s) : ∃ m, Fr X.base X.env.locals s.heap m :=
  let ⟨m, hn, _⟩ := I.loc
  ⟨m, hn, I.bk, Nat.le_trans I.ok.bsz I.ok.above⟩
theorem Inv.lt (I : Inv X pins σ H s) : X.env.locals < s.heap.objs.size := let ⟨_, hn, _⟩ := I.loc; hn.lt
theorem Inv.sz (I : Inv X pins σ H s) : X.s₀.heap.objs.size ≤ s.heap.objs.size := Nat.le_trans I.ok.above (Nat.le_of_lt I.lt)
theorem Inv.nofs (I : Inv X pins σ H s) {a : Addr} (h : s.heap.objs.size ≤ a) : a ∉ X.fs := fun hb => by
  obtain ⟨_, o, ho, _⟩ := I.ok.funs.mem hb
  exact absurd (Nat.lt_of_lt_of_le (Heap.lt_size ho) (Nat.le_trans I.sz h)) (Nat.lt_irrefl _)
theorem Inv.cne (I : Inv X pins σ H s) : ∀ x c, X.env.cells.lookup x = some c → c ≠ X.env.locals := fun x c e z => by
  obtain ⟨v, o, ho, hd⟩ := I.cell x c e
  obtain ⟨m, ⟨o', es, ep, ho', hd', _⟩, _⟩ := I.loc
  rw [z, ho'] at ho; cases ho; rw [hd'] at hd; cases hd
theorem Inv.funs (I : Inv X pins σ H s) : s.heap.FunFrames X.base X.outer := by
  have all : ∀ (l : List Env), (∀ b ∈ frs l, b ∈ X.fs) → X.s₀.heap.FunFrames X.base l → s.heap.FunFrames X.base l := by
    intro l
    induction l with
    | nil => intro _ _; trivial
    | cons env r ih =>
      intro hs hl
      obtain ⟨hk, ⟨L, o, hf, hn, ho, hd⟩, hr⟩ := hl
      have hL : L ∈ X.fs := hs L (by unfold frs; rw [List.filterMap_cons, hf]; exact List.mem_cons_self)
      obtain ⟨sl, e⟩ := I.base.slot L o ho (I.ok.frf L hL) hL fun z => I.ok.exfs L z hL
      exact ⟨hk, ⟨L, _, hf, hn, e, hd⟩, ih (fun b hb => hs b (by unfold frs; rw [List.filterMap_cons, hf]; exact List.mem_cons_of_mem _ hb)) hr⟩
  exact all X.outer (fun _ hb => hb) I.ok.funs

/-- the frames that run, for a call -/
theorem Inv.stack (I : Inv X pins σ H s) : s.heap.FunFrames X.base X.stack := by
  rcases I.ok.stk with e | ⟨e, hf⟩
  · rw [e]; exact I.funs
  · rw [e]
    obtain ⟨m, hn, _⟩ := I.loc
    refine .cons (by rw [I.ok.kind]; decide) hf hn ?_ I.funs
    exact Heap.get?_none_of_le (Nat.le_trans I.ok.bsz I.ok.above)
theorem Inv.stkSub (I : Inv X pins σ H s) : ∀ b ∈ frs X.stack, b ∈ X.env.locals :: X.fs := fun b hb => by
  rcases I.ok.stk with e | ⟨e, hf⟩
  · rw [e] at hb; exact List.mem_cons_of_mem _ hb
  · rw [e] at hb
    unfold frs at hb
    rw [List.filterMap_cons, hf] at hb
    exact hb
theorem Inv.stkFree (I : Inv X pins σ H s) : ∀ b ∈ frs X.stack, H b = none := fun b hb => by
  rcases List.mem_cons.mp (I.stkSub b hb) with e | hb
  · rw [e]; exact I.free
  · obtain ⟨_, o, ho, _⟩ := I.ok.funs.mem hb
    exact I.base.free b o ho (I.ok.frf b hb) fun z => I.ok.exfs b z hb

/-- THE STEP: the untracked objects but the frame and the records at ch are kept (the callers' frames up to slots), the frame's map is kept, the new abstract heap is held -/
theorem Inv.step {g' : Array GenState} {t' : Nat} {d' : Drawn} {ch : List Addr} (I : Inv X pins σ H s)
    (hch : ∀ b ∈ ch, (b ∈ X.ex ∨ X.s₀.heap.objs.size ≤ b) ∧ b ≠ X.env.locals ∧ (∀ x c, X.env.cells.lookup x = some c → c ≠ b) ∧ ∀ p ∈ X.pn ++ pins, p.1 ≠ b)
    (keep : ∀ b o, b ≠ X.env.locals → b ∉ X.fs → b ∉ ch → s.heap.get? b = some o → H b = none → h'.get? b = some o)
    (slot : ∀ b o, b ≠ X.env.locals → b ∈ X.fs → b ∉ ch → s.heap.get? b = some o → H b = none → ∃ sl, h'.get? b = some { o with slots := sl }) (free : ∀ b o, b ∉ ch → s.heap.get? b = some o → H b = none → H' b = none)
    (there : ∀ b o, b ∉ ch → s.heap.get? b = some o → ∃ o', h'.get? b = some o')
    (tups : ∀ b xs, H b = some (.tup xs) → H' b = some (.tup xs)) (frzs : ∀ b o u, H b = some (.frz o u) → H' b = some (.frz o u)) (tbls : ∀ b ps, H b = some (.tbl ps) → ∃ more, H' b = some (.tbl (ps ++ more)))
    (ns : ∀ m, s.heap.Ns X.env.locals m → h'.Ns X.env.locals m) (hok : HOk X.prog X.w H' h') (hg : AllBare g') :
    Inv X pins σ H' { s with heap := h', gens := g', drawn := d', toks := t' } := by
  have neL : ∀ b o, X.s₀.heap.get? b = some o → b ≠ X.env.locals := fun b o e => Nat.ne_of_lt (Nat.lt_of_lt_of_le (Heap.lt_size e) I.ok.above)
  have neC : ∀ b o, X.s₀.heap.get? b = some o → b ∉ X.ex → b ∉ ch := fun b o e hx hb => by
    rcases (hch b hb).1 with z | z
    · exact hx z
    · exact absurd (Nat.lt_of_lt_of_le (Heap.lt_size e) z) (Nat.lt_irrefl _)
  have cellK : ∀ x c, X.env.cells.lookup x = some c → ∀ v, s.heap.IsCell c v → h'.IsCell c v := fun x c e v ⟨o, ho, hd⟩ => by
    have nch : c ∉ ch := fun z => (hch c z).2.2.1 x c e rfl
    by_cases hc : c ∈ X.fs
    · obtain ⟨sl, q⟩ := slot c o (I.cne x c e) hc nch ho (I.freeC x c e)
      exact ⟨_, q, hd⟩
    · exact ⟨o, keep c o (I.cne x c e) hc nch ho (I.freeC x c e), hd⟩
  refine ⟨I.ok, I.os, hg, ⟨fun b o e n hb hx => ?_, fun b o e n hb hx => ?_, fun b o e n hx => ?_, fun b o e hx => ?_, fun b xs e => tups b xs (I.base.tups b xs e), fun b o xs e => frzs b o xs (I.base.frzs b o xs e), fun b ps e => ?_⟩, ?_, fun x c e => ?_, ?_, fun x c e => ?_, fun p hp => ?_, hok, I.len⟩
  · exact keep b o (neL b o e) hb (neC b o e hx) (I.base.keep b o e n hb hx) (I.base.free b o e n hx)
  · obtain ⟨sl, e1⟩ := I.base.slot b o e n hb hx
    obtain ⟨sl', e2⟩ := slot b _ (neL b o e) hb (neC b o e hx) e1 (I.base.free b o e n hx)
    exact ⟨sl', e2⟩
  · obtain ⟨o', e1⟩ := I.base.there b o e hx
    exact free b o' (neC b o e hx) e1 (I.base.free b o e n hx)
  · obtain ⟨o', e1⟩ := I.base.there b o e hx
    exact there b o' (neC b o e hx) e1
  · obtain ⟨m1, e1⟩ := I.base.tbls b ps e
    obtain ⟨m2, e2⟩ := tbls b _ e1
    exact ⟨m1 ++ m2, by rw [e2, Array.append_assoc]⟩
  · obtain ⟨m, hn, hl⟩ := I.loc
    refine ⟨m, ns m hn, fun i x v e1 e2 e3 => ?_⟩
    obtain ⟨u, r, l⟩ := hl i x v e1 e2 e3
    refine ⟨u, r, ?_⟩
    rcases l with l | ⟨k, c, e, z⟩
    · exact .inl l
    · exact .inr ⟨k, c, e, cellK x c e _ z⟩
  · obtain ⟨v, z⟩ := I.cell x c e
    exact ⟨v, cellK x c e v z⟩
  · obtain ⟨m, ⟨o, _, _, ho, _⟩, _⟩ := I.loc
    exact free _ o (fun z => (hch _ z).2.1 rfl) ho I.free
  · obtain ⟨v, o, ho, hd⟩ := I.cell x c e
    exact free c o (fun z => (hch c z).2.2.1 x c e rfl) ho (I.freeC x c e)
  · obtain ⟨e, n, ne, nf, d⟩ := I.pin p hp
    have nch : p.1 ∉ ch := fun z => (hch p.1 z).2.2.2 p hp rfl
    exact ⟨keep p.1 p.2 ne nf nch e n, free p.1 p.2 nch e n, ne, nf, d⟩
/-- .. where the frame's own object is kept too -/
theorem Inv.un {t' : Nat} (I : Inv X pins σ H s) (u : Un X.fs [] H H' s.heap h') (hok : HOk X.prog X.w H' h') : Inv X pins σ H' { s with heap := h', toks := t' } := by
  obtain ⟨m, ⟨o, es, ep, ho, r⟩, _⟩ := id I.loc
  obtain ⟨sl, hL⟩ := u.any ho I.free (by simp)
  exact I.step (g' := s.gens) (d' := s.drawn) (ch := []) (fun _ z => nomatch z) (fun b o _ hb _ e n => u.keep b o e n hb (by simp)) (fun b o _ hb _ e n => u.slot b o e n hb (by simp)) (fun b o _ e n => u.free b o e n (by simp)) (fun b o _ e => u.there b o e (by simp)) u.tups u.frzs u.tbls (fun m' hm => by
    obtain ⟨o', es', ep', ho', r'⟩ := hm
    rw [ho] at ho'; cases ho'
    exact ⟨_, es', ep', hL, r'⟩) hok I.bare
/-- behind a call (or a comprehension's block): the slots of this frame may have changed too, the records at ch may have turned -/
theorem Inv.call {g' : Array GenState} {t' : Nat} {d' : Drawn} {ch : List Addr} (I : Inv X pins σ H s) (u : Un (frs X.stack) ch H H' s.heap h') (hok : HOk X.prog X.w H' h') (hg : AllBare g')
    (hch : ∀ b ∈ ch, (b ∈ X.ex ∨ X.s₀.heap.objs.size ≤ b) ∧ b ≠ X.env.locals ∧ (∀ x c, X.env.cells.lookup x = some c → c ≠ b) ∧ ∀ p ∈ X.pn ++ pins, p.1 ≠ b) :
    Inv X pins σ H' { s with heap := h', gens := g', drawn := d', toks := t' } := by
  obtain ⟨m, ⟨o, es, ep, ho, r⟩, _⟩ := id I.loc
  obtain ⟨sl, hL⟩ := u.any ho I.free fun z => (hch _ z).2.1 rfl
  exact I.step (ch := ch) hch (fun b o hL hb hc e n => u.keep b o e n (fun z => (List.mem_cons.mp (I.stkSub b z)).elim hL hb) hc) (fun b o _ _ hc e n => u.any e n hc) (fun b o hc e n => u.free b o e n hc) (fun b o hc e => u.there b o e hc) u.tups u.frzs u.tbls (fun m' hm => by
    obtain ⟨o', es', ep', ho', r'⟩ := hm
    rw [ho] at ho'; cases ho'
    exact ⟨_, es', ep', hL, r'⟩) hok hg
/-- an untracked record of ours (an iterator) has turned -/
theorem Inv.turned {t' : Nat} {it : Addr} (I : Inv X pins σ H s) (k : ∀ b o, b ≠ it → s.heap.get? b = some o → h'.get? b = some o) (hn : H it = none) (hL : it ≠ X.env.locals)
    (h1 : it ∈ X.ex ∨ X.s₀.heap.objs.size ≤ it) (h2 : ∀ x c, X.env.cells.lookup x = some c → c ≠ it) (h3 : ∀ p ∈ X.pn ++ pins, p.1 ≠ it) : Inv X pins σ H { s with heap := h', toks := t' } := by
  have nit : ∀ b u, H b = some u → b ≠ it := fun b u e z => by rw [z, hn] at e; cases e
  refine I.step (g' := s.gens) (d' := s.drawn) (ch := [it]) (fun b hb => ?_) (fun b o _ _ hc e _ => k b o (fun z => hc (by simp [z])) e) (fun b o _ _ hc e _ => ⟨o.slots, k b o (fun z => hc (by simp [z])) e⟩) (fun _ _ _ _ n => n)
    (fun b o hc e => ⟨o, k b o (fun z => hc (by simp [z])) e⟩) (fun _ _ e => e) (fun _ _ _ e => e) (fun b ps e => ⟨#[], by rw [e]; simp⟩) (fun m hm => ?_) (fun b u e => ?_) I.bare
  · have e : b = it := by simpa using hb
    subst e
    exact ⟨h1, hL, h2, h3⟩
  · obtain ⟨o, es, ep, ho, r⟩ := hm
    exact ⟨o, es, ep, k _ o (Ne.symm hL) ho, r⟩
  · refine (I.hok b u e).stay (fun c v hc q => k c v ?_ q) (fun _ q => q) fun _ _ q => q
    rcases hc with z | z
    · rw [z]; exact nit b u e
    · exact nit c _ z
theorem Inv.tok (I : Inv X pins σ H s) (t : Nat) : Inv X pins σ H { s with toks := t } := I.un (h' := s.heap) (t' := t) Un.refl I.hok
/-- all objects kept -/
theorem Inv.kept {t' : Nat} (I : Inv X pins σ H s) (k : ∀ b u, s.heap.get? b = some u → h'.get? b = some u) : Inv X pins σ H { s with heap := h', toks := t' } := I.un (Un.kept k) (I.hok.kept k)
/-- a new object laid and tracked -/
theorem Inv.laid {a : Addr} {o : HO} {t' : Nat} (I : Inv X pins σ H s) (k : ∀ b u, s.heap.get? b = some u → h'.get? b = some u) (hp : s.heap.objs.size ≤ a) (new : ObjOk X.prog X.w (upd H a o) h' a o) :
    Inv X pins σ (upd H a o) { s with heap := h', toks := t' } := I.un (Un.laid k hp (I.hok.fresh hp)) (I.hok.laid k hp new)
/-- an object written -/
theorem Inv.write {x e : Addr} {o : HO} {t' : Nat} (I : Inv X pins σ H s) (mu : Mut (H x)) (he : e = x ∨ H e = some (.own x)) (k : ∀ b u, b ≠ e → s.heap.get? b = some u → h'.get? b = some u) (heo : ∃ u, h'.get? e = some u)
    (new : ObjOk X.prog X.w (upd H x o) h' x o) : Inv X pins σ (upd H x o) { s with heap := h', toks := t' } := I.un (Un.write mu he k heo) (I.hok.write mu he k heo new)
/-- forgetting slots, pins -/
theorem Inv.weak {σ' : List (Option V)} (I : Inv X pins σ H s) (hl : σ'.length = σ.length) (w : ∀ (i : Nat) v, σ'[i]? = some (some v) → σ[i]? = some (some v)) : Inv X pins σ' H s :=
  ⟨I.ok, I.os, I.bare, I.base, let ⟨m, hn, hl'⟩ := I.loc; ⟨m, hn, fun i x v e1 e2 e3 => hl' i x v e1 (w i v e2) e3⟩, I.cell, I.free, I.freeC, I.pin, I.hok, hl.trans I.len⟩
theorem Inv.pins_of {pins' : List (Addr × Obj)} (I : Inv X pins σ H s) (h : ∀ p ∈ pins', s.heap.get? p.1 = some p.2 ∧ H p.1 = none ∧ p.1 ≠ X.env.locals ∧ p.1 ∉ X.fs ∧ ∀ v, p.2.data ≠ .cell v) : Inv X pins' σ H s :=
  ⟨I.ok, I.os, I.bare, I.base, I.loc, I.cell, I.free, I.freeC, fun p hp => (List.mem_append.mp hp).elim (fun z => I.pin p (List.mem_append_left _ z)) (h p), I.hok, I.len⟩

theorem nodup_ix {N : List Str} (hN : N.Nodup) {i j : Nat} {x : Str} (a : N[i]? = some x) (b : N[j]? = some x) : i = j := by
  obtain ⟨h1, e1⟩ := List.getElem?_eq_some_iff.mp a
  obtain ⟨h2, e2⟩ := List.getElem?_eq_some_iff.mp b
  exact (List.getElem_inj hN).mp (e1.trans e2.symm)

/-- a name is stored; what changed -/
theorem store_ok2 {M : Model} {A : Around} {E : Value → Shared → Prop} {i : Nat} {x : Str} {v : V} {u : Value} {Q : Unit → Shared → Prop} (I : Inv X pins σ H s) (hN : X.N.Nodup) (hi : X.N[i]? = some x) (hx : Loc X.env.scope x) (r : RelV v u)
    (h : ∀ s', Inv X pins (σ.set i (some v)) H s' → (∃ a, Heap.SameBut a s.heap s'.heap ∧ (a = X.env.locals ∨ X.env.cells.lookup x = some a)) → Q () s') (hf : X.fn x = true ∨ X.env.scope.names.lookup x = some .local := by first | exact .inl rfl | exact .inr rfl | assumption) : wpAny M A (storeName X.env x u) Q E s := by
  obtain ⟨m, hn, hl⟩ := id I.loc
  have hcls : (X.env.scope.kind == .class || (X.env.scope.kind == .module && X.env.locals != X.env.globals)) = false := by rw [I.ok.kind]; rfl
  have hiσ : i < σ.length := by rw [I.len]; exact (List.getElem?_eq_some_iff.mp hi).1
  have cne := I.cne
  have tracked : ∀ {a : Addr} {h' : Heap}, (∃ o, s.heap.get? a = some o ∧ H a = none) → Heap.SameBut a s.heap h' → HOk X.prog X.w H h' := fun {a h'} ha hs b ob e => by
    obtain ⟨_, _, hfree⟩ := ha
    refine (I.hok b ob e).stay (fun c w' hc q => (hs.2 c ?_).trans q) (fun _ q => q) fun _ _ q => q
    rintro rfl
    rcases hc with rfl | hc
    · rw [hfree] at e; cases e
    · rw [hfree] at hc; cases hc
  rcases hx with hk | hk
  · refine wpAny_storeName_local hk hn (fun h' hn' hs => ?_) hcls
    obtain ⟨oL, _, _, hoL, _⟩ := id hn
    refine h _ ⟨I.ok, I.os, I.bare, ⟨fun b o e n hb hx => ?_, fun b o e n hb hx => ?_, I.base.free, fun b o e hx => ?_, I.base.tups, I.base.frzs, I.base.tbls⟩, ⟨_, hn', fun j y v' e1 e2 e3 => ?_⟩, fun y c e => ?_, I.free, I.freeC, fun p hp => ?_, tracked ⟨oL, hoL, I.free⟩ hs, by simpa using I.len⟩ ⟨_, hs, .inl rfl⟩
    · exact (hs.2 b (Nat.ne_of_lt (Nat.lt_of_lt_of_le (Heap.lt_size e) I.ok.above))).trans (I.base.keep b o e n hb hx)
    · obtain ⟨sl, e1⟩ := I.base.slot b o e n hb hx
      exact ⟨sl, (hs.2 b (Nat.ne_of_lt (Nat.lt_of_lt_of_le (Heap.lt_size e) I.ok.above))).trans e1⟩
    · obtain ⟨o', e1⟩ := I.base.there b o e hx
      exact ⟨o', (hs.2 b (Nat.ne_of_lt (Nat.lt_of_lt_of_le (Heap.lt_size e) I.ok.above))).trans e1⟩
    · by_cases hj : j = i
      · subst hj
        rw [hi] at e1; cases e1
        rw [List.getElem?_set_self hiσ] at e2
        cases e2
        exact ⟨u, r, .inl ⟨hk, by simp⟩⟩
      · rw [List.getElem?_set_ne (Ne.symm hj)] at e2
        obtain ⟨u', r', q⟩ := hl j y v' e1 e2 e3
        refine ⟨u', r', ?_⟩
        rcases q with ⟨k, e⟩ | ⟨k, c, e, z⟩
        · refine .inl ⟨k, ?_⟩
          have : y ≠ x := fun e => hj (nodup_ix hN e1 (e ▸ hi))
          simp [this, e]
        · exact .inr ⟨k, c, e, z.sameBut hs (cne y c e)⟩
    · obtain ⟨w', z⟩ := I.cell y c e
      exact ⟨w', z.sameBut hs (cne y c e)⟩
    · obtain ⟨e, n, ne, nf, d⟩ := I.pin p hp
      exact ⟨(hs.2 p.1 ne).trans e, n, ne, nf, d⟩
  · have hfn : X.fn x = true := by
      rcases hf with z | z
      · exact z
      · rw [z] at hk; cases hk
    obtain ⟨c, hc⟩ := I.ok.has x (.inl hk)
    obtain ⟨w', z⟩ := I.cell x c hc
    refine wpAny_storeName_cell I.ok.kind hk hc z (fun h' hc' hs => ?_)
    obtain ⟨oc, hoc, hocd⟩ := id z
    refine h { s with heap := h' } ⟨I.ok, I.os, I.bare, ⟨fun b o e n hb hx => ?_, fun b o e n hb hx => ?_, I.base.free, fun b o e hx => ?_, I.base.tups, I.base.frzs, I.base.tbls⟩, ⟨m, hn.sameBut hs (Ne.symm (cne x c hc)), fun j y v' e1 e2 e3 => ?_⟩, fun y c' e => ?_, I.free, I.freeC, fun p hp => ?_, tracked ⟨oc, hoc, I.freeC x c hc⟩ hs, by simpa using I.len⟩ ⟨c, hs, .inr hc⟩
    · exact (hs.2 b (Nat.ne_of_lt (Nat.lt_of_lt_of_le (Heap.lt_size e) (I.ok.cab x c hfn hc)))).trans (I.base.keep b o e n hb hx)
    · obtain ⟨sl, e1⟩ := I.base.slot b o e n hb hx
      exact ⟨sl, (hs.2 b (Nat.ne_of_lt (Nat.lt_of_lt_of_le (Heap.lt_size e) (I.ok.cab x c hfn hc)))).trans e1⟩
    · obtain ⟨o', e1⟩ := I.base.there b o e hx
      exact ⟨o', (hs.2 b (Nat.ne_of_lt (Nat.lt_of_lt_of_le (Heap.lt_size e) (I.ok.cab x c hfn hc)))).trans e1⟩
    · by_cases hj : j = i
      · subst hj
        rw [hi] at e1; cases e1
        rw [List.getElem?_set_self hiσ] at e2
        cases e2
        exact ⟨u, r, .inr ⟨.inl hk, c, hc, hc'⟩⟩
      · rw [List.getElem?_set_ne (Ne.symm hj)] at e2
        obtain ⟨u', r', q⟩ := hl j y v' e1 e2 e3
        refine ⟨u', r', ?_⟩
        rcases q with q | ⟨k, c', e, z'⟩
        · exact .inl q
        · refine .inr ⟨k, c', e, z'.sameBut hs ?_⟩
          rintro rfl
          exact hj (nodup_ix hN e1 (I.ok.inj _ _ _ e hc ▸ hi))
    · by_cases hcc : c' = c
      · subst hcc; exact ⟨_, hc'⟩
      · obtain ⟨w2, z2⟩ := I.cell y c' e
        exact ⟨w2, z2.sameBut hs hcc⟩
    · obtain ⟨e, n, ne, nf, d⟩ := I.pin p hp
      refine ⟨(hs.2 p.1 ?_).trans e, n, ne, nf, d⟩
      intro q
      rw [q, hoc] at e
      have q' : oc = p.2 := Option.some.inj e
      exact d w' (by rw [← q']; exact hocd)
theorem store_ok {M : Model} {A : Around} {E : Value → Shared → Prop} {i : Nat} {x : Str} {v : V} {u : Value} {Q : Unit → Shared → Prop} (I : Inv X pins σ H s) (hN : X.N.Nodup) (hi : X.N[i]? = some x) (hx : Loc X.env.scope x) (r : RelV v u)
    (h : ∀ s', Inv X pins (σ.set i (some v)) H s' → Q () s') (hf : X.fn x = true ∨ X.env.scope.names.lookup x = some .local := by first | exact .inl rfl | exact .inr rfl | assumption) : wpAny M A (storeName X.env x u) Q E s :=
  store_ok2 I hN hi hx r (fun s' I' _ => h s' I') hf
/-- behind a call or a block, the state as it is -/
theorem Inv.call' {s' : Shared} {ch : List Addr} (I : Inv X pins σ H s) (ho : s'.os = s.os) (u : Un (frs X.stack) ch H H' s.heap s'.heap) (hok : HOk X.prog X.w H' s'.heap) (hg : AllBare s'.gens)
    (hch : ∀ b ∈ ch, (b ∈ X.ex ∨ X.s₀.heap.objs.size ≤ b) ∧ b ≠ X.env.locals ∧ (∀ x c, X.env.cells.lookup x = some c → c ≠ b) ∧ ∀ p ∈ X.pn ++ pins, p.1 ≠ b) : Inv X pins σ H' s' := by
  obtain ⟨h', g', d', t', o'⟩ := s'
  have e : o' = s.os := ho
  subst e
  exact I.call (g' := g') (t' := t') (d' := d') u hok hg hch
end

/-! ### the judgements -/
/-- an exception: its class, its own dict's address (where it has one), the abstract heap behind it -/
abbrev XK := Value → Option Addr → Hp → Prop
abbrev St := List (Option V)
abbrev VK := V → Hp → Prop
/-- an expression's reading; a test's; an argument list's -/
abbrev TE := St → Hp → VK → Prop
abbrev TT := St → Hp → (Bool → Hp → Prop) → Prop
abbrev TA := St → Hp → (List V → Hp → Prop) → Prop
/-- what is wanted behind a statement -/
structure Ends where
  nx : St → Hp → Prop
  rt : VK
  bk : St → Hp → Prop := fun _ _ => False
  ct : St → Hp → Prop := fun _ _ => False
abbrev TS := Ends → St → Hp → Prop

def EP (X : Cx) (pins : List (Addr × Obj)) (σ : St) (Q : VK) (u : Value) (s' : Shared) : Prop := ∃ v H', Inv X pins σ H' s' ∧ RelV v u ∧ Q v H'
def TP (X : Cx) (pins : List (Addr × Obj)) (σ : St) (Q : Bool → Hp → Prop) (b : Bool) (s' : Shared) : Prop := ∃ H', Inv X pins σ H' s' ∧ Q b H'
def AP (X : Cx) (pins : List (Addr × Obj)) (σ : St) (Q : List V → Hp → Prop) (us : List Value) (s' : Shared) : Prop := ∃ vs H', Inv X pins σ H' s' ∧ Vals vs us ∧ Q vs H'
def SP (X : Cx) (pins : List (Addr × Obj)) (D : Ends) (f : Flow) (s' : Shared) : Prop :=
  match f with
  | .next => ∃ σ' H', Inv X pins σ' H' s' ∧ D.nx σ' H'
  | .brk => ∃ σ' H', Inv X pins σ' H' s' ∧ D.bk σ' H'
  | .cont => ∃ σ' H', Inv X pins σ' H' s' ∧ D.ct σ' H'
  | .ret u => ∃ v σ' H', Inv X pins σ' H' s' ∧ RelV v u ∧ D.rt v H'

def PE (X : Cx) (e : Expr) (t : TE) : Prop :=
  ∀ (pins : List (Addr × Obj)) (s : Shared) (σ : St) (H : Hp) (Q : VK), Inv X pins σ H s → t σ H Q → wpAny (model X.prog X.w) X.A (eval e X.env) (EP X pins σ Q) X.xe s
def PT (X : Cx) (e : Expr) (t : TT) : Prop :=
  ∀ (pins : List (Addr × Obj)) (s : Shared) (σ : St) (H : Hp) (Q : Bool → Hp → Prop), Inv X pins σ H s → t σ H Q → wpAny (model X.prog X.w) X.A (isTrue e X.env (eval e X.env)) (TP X pins σ Q) X.xe s
/-- a test whatever its 'whole' is (and, or) -/
def PW (X : Cx) (e : Expr) (t : TT) : Prop :=
  ∀ (whole : Sem Value) (pins : List (Addr × Obj)) (s : Shared) (σ : St) (H : Hp) (Q : Bool → Hp → Prop), Inv X pins σ H s → t σ H Q → wpAny (model X.prog X.w) X.A (isTrue e X.env whole) (TP X pins σ Q) X.xe s
theorem PW.pt {X : Cx} {e : Expr} {t : TT} (h : PW X e t) : PT X e t := h _
/-- an argument list (no star), from the left -/
def PA (X : Cx) (es : List Expr) (t : TA) : Prop :=
  ∀ (pos : Pos) (pins : List (Addr × Obj)) (s : Shared) (σ : St) (H : Hp) (Q : List V → Hp → Prop), Inv X pins σ H s → t σ H Q → wpAny (model X.prog X.w) X.A (spliced (backTo pos (starEach es X.env))) (AP X pins σ Q) X.xe s
def PS (X : Cx) (st : Stmt) (t : TS) : Prop :=
  ∀ (pins : List (Addr × Obj)) (s : Shared) (σ : St) (H : Hp) (D : Ends), Inv X pins σ H s → t D σ H → wpAny (model X.prog X.w) X.A (exec st X.env) (SP X pins D) X.xe s
def PSs (X : Cx) (st : List Stmt) (t : TS) : Prop :=
  ∀ (pins : List (Addr × Obj)) (s : Shared) (σ : St) (H : Hp) (D : Ends), Inv X pins σ H s → t D σ H → wpAny (model X.prog X.w) X.A (execs st X.env) (SP X pins D) X.xe s
/-- weaken the end -/
theorem thn {α : Type} {t : Sem α} {Q Q' : α → Shared → Prop} {M : Model} {A : Around} {E : Value → Shared → Prop} {s : Shared} (h : wpAny M A t Q E s) (hQ : ∀ a s, Q a s → Q' a s) : wpAny M A t Q' E s := wpAny_mono h hQ fun _ _ x => x
end L2

namespace L2
open PySem PySem.Spec PyProof.Rows
section
variable {X : Cx}

/-- two expressions in a row -/
theorem bin {a b : Expr} {ta tb : TE} (ha : PE X a ta) (hb : PE X b tb) {pins : List (Addr × Obj)} {s : Shared} {σ : St} {H : Hp} {R : V → V → Hp → Prop} (I : Inv X pins σ H s) (h : ta σ H fun x H1 => tb σ H1 fun y H2 => R x y H2)
    {α : Type} {Q : α → Shared → Prop} {f : Value → Value → Sem α}
    (hf : ∀ v u s2 x y H2, Inv X pins σ H2 s2 → RelV x v → RelV y u → R x y H2 → wpAny (model X.prog X.w) X.A (f v u) Q X.xe s2) :
    wpAny (model X.prog X.w) X.A (eval a X.env) (fun v s₁ => wpAny (model X.prog X.w) X.A (eval b X.env) (fun u s₂ => wpAny (model X.prog X.w) X.A (f v u) Q X.xe s₂) X.xe s₁) X.xe s := by
  refine thn (ha pins s σ H _ I h) fun v s1 ⟨x, H1, I1, r1, q1⟩ => ?_
  refine thn (hb pins s1 σ H1 _ I1 q1) fun u s2 ⟨y, H2, I2, r2, q2⟩ => ?_
  exact hf v u s2 x y H2 I2 r1 r2 q2

/-! ### names and constants -/
def tVar (i : Nat) : TE := fun σ H Q => ∃ v, σ[i]? = some (some v) ∧ Q v H
def tC (v : V) : TE := fun _ H Q => Q v H
theorem pe_var {i : Nat} {x : Str} {pos : Pos} (hN : X.N[i]? = some x) (hv : Vis X.env.scope x) (hd : (x == ("__debug__" : Str)) = false := by decide) (hcd : (x == ("__classdict__" : Str)) = false := by decide) : PE X (.Name x pos) (tVar i) := by
  intro pins s σ H Q I h
  obtain ⟨v, e, h⟩ := h
  obtain ⟨m, hn, hl⟩ := I.loc
  obtain ⟨u, r, l⟩ := hl i x v hN e hv
  have fin : EP X pins σ Q u s := ⟨v, H, I, r, h⟩
  rcases l with ⟨hk, hm⟩ | ⟨hk, c, hc, hcell⟩
  · exact wpAny_Name (wpAny_loadName_local I.ok.kind hk hn hm fin) hd
  · rcases hk with hk | hk
    · exact wpAny_Name (wpAny_loadName_cell I.ok.kind hk hc hcell fin) hd
    · exact wpAny_Name (wpAny_loadName_free I.ok.kind hk hc hcell fin hcd) hd
theorem pe_int {i j pos} : PE X (.Constant (.int i) j pos) (tC (.int i)) := fun _ _ _ H _ I h => wpAny_Constant_int ⟨.int i, H, I.tok _, ⟨_, rfl⟩, h⟩
theorem pe_bl {b j pos} : PE X (.Constant (.bool b) j pos) (tC (.bl b)) := fun _ _ _ H _ I h => Constant_bool ⟨.bl b, H, I, rfl, h⟩
theorem pe_non {j pos} : PE X (.Constant .none j pos) (tC .non) := fun _ _ _ H _ I h => Constant_none ⟨.non, H, I, rfl, h⟩
theorem pe_str {x j pos} : PE X (.Constant (.str x) j pos) (tC (.str x)) := fun _ _ _ H _ I h => Calls.Constant_str ⟨.str x, H, I.tok _, ⟨_, rfl⟩, h⟩

/-- a global name of the def -/
def Gl (X : Cx) (x : Str) : Prop := X.env.kindOf x = some .globalImplicit
theorem ld_glob {E : Value → Shared → Prop} {pins : List (Addr × Obj)} {s : Shared} {σ : St} {H : Hp} {x : Str} {u : Value} {pos : Pos} {Q : Value → Shared → Prop} (I : Inv X pins σ H s) (hg : Gl X x) (hm : X.mg x = some u) (h : Q u s)
    (hd : (x == ("__debug__" : Str)) = false := by decide) : wpAny (model X.prog X.w) X.A (eval (.Name x pos) X.env) Q E s :=
  Calls.Name_function_global I.ok.kind hg (Calls.loadGlobal_global (by rw [I.ok.glob]; exact I.mod.glob.keeps I.bk) hm h) hd
theorem ld_blt {E : Value → Shared → Prop} {pins : List (Addr × Obj)} {s : Shared} {σ : St} {H : Hp} {x : Str} {u : Value} {pos : Pos} {Q : Value → Shared → Prop} (I : Inv X pins σ H s) (hg : Gl X x) (hm : X.mg x = none) (hv : bootBuiltins x = some u) (h : Q u s)
    (hn : x ≠ "__name__" := by decide) (hd : (x == ("__debug__" : Str)) = false := by decide) : wpAny (model X.prog X.w) X.A (eval (.Name x pos) X.env) Q E s := by
  obtain ⟨mb, h1, h2⟩ := I.mod.blt
  exact Calls.Name_function_global I.ok.kind hg (Calls.loadGlobal_builtin (by rw [I.ok.glob]; exact I.mod.glob.keeps I.bk) hm (by rw [I.ok.blt]; exact h1.keeps I.bk) ((h2 x hn).trans hv) h) hd
/-- a module's constant, a class, a function, as a value -/
theorem pe_glob {x : Str} {v : V} {u : Value} {pos : Pos} (hg : Gl X x) (hm : X.mg x = some u) (r : RelV v u) (hd : (x == ("__debug__" : Str)) = false := by decide) : PE X (.Name x pos) (tC v) :=
  fun _ _ _ H _ I h => ld_glob I hg hm ⟨v, H, I, r, h⟩ hd
theorem pe_bltn {x : Str} {v : V} {u : Value} {pos : Pos} (hg : Gl X x) (hm : X.mg x = none) (hv : bootBuiltins x = some u) (r : RelV v u) (hn : x ≠ "__name__" := by decide) (hd : (x == ("__debug__" : Str)) = false := by decide) : PE X (.Name x pos) (tC v) :=
  fun _ _ _ H _ I h => ld_blt I hg hm hv ⟨v, H, I, r, h⟩ hn hd

/-! ### arithmetic -/
/-- two ints -/
def t2I (ta tb : TE) (k : Int → Int → Hp → Prop) : St → Hp → Prop := fun σ H => ta σ H fun x H1 => tb σ H1 fun y H2 => ∃ i j, x = .int i ∧ y = .int j ∧ k i j H2
def tAdd (ta tb : TE) : TE := fun σ H Q => t2I ta tb (fun i j H2 => Q (.int (i + j)) H2) σ H
def tSub (ta tb : TE) : TE := fun σ H Q => t2I ta tb (fun i j H2 => Q (.int (i - j)) H2) σ H
/-- the left factor below 2^64 -/
def tMul (ta tb : TE) : TE := fun σ H Q => t2I ta tb (fun i j H2 => (-(2 ^ 64) < i ∧ i < 2 ^ 64) ∧ Q (.int (i * j)) H2) σ H
variable {a b : Expr} {ta tb : TE} {pos : Pos}
theorem pe_add (ha : PE X a ta) (hb : PE X b tb) : PE X (.BinOp a .Add b pos) (tAdd ta tb) := by
  intro pins s σ H Q I h
  refine wpAny_BinOp (bin ha hb I h fun v u s2 x y H2 I2 rx ry q => ?_)
  obtain ⟨i, j, rfl, rfl, q⟩ := q
  obtain ⟨t, rfl⟩ := rx
  obtain ⟨t', rfl⟩ := ry
  exact add_int ⟨.int _, H2, I2.tok _, ⟨_, rfl⟩, q⟩
theorem pe_sub (ha : PE X a ta) (hb : PE X b tb) : PE X (.BinOp a .Sub b pos) (tSub ta tb) := by
  intro pins s σ H Q I h
  refine wpAny_BinOp (bin ha hb I h fun v u s2 x y H2 I2 rx ry q => ?_)
  obtain ⟨i, j, rfl, rfl, q⟩ := q
  obtain ⟨t, rfl⟩ := rx
  obtain ⟨t', rfl⟩ := ry
  exact sub_int ⟨.int _, H2, I2.tok _, ⟨_, rfl⟩, q⟩
theorem pe_mul (ha : PE X a ta) (hb : PE X b tb) : PE X (.BinOp a .Mult b pos) (tMul ta tb) := by
  intro pins s σ H Q I h
  refine wpAny_BinOp (bin ha hb I h fun v u s2 x y H2 I2 rx ry q => ?_)
  obtain ⟨i, j, rfl, rfl, ⟨q1, q2⟩, q⟩ := q
  obtain ⟨t, rfl⟩ := rx
  obtain ⟨t', rfl⟩ := ry
  exact mul_int ⟨.int _, H2, I2.tok _, ⟨_, rfl⟩, q⟩ (.of_left (intBits_le_64 q1 q2))

/-! ### comparisons -/
def PC (X : Cx) (op : CmpOp) (a b : Expr) (t : TE) : Prop :=
  ∀ (pins : List (Addr × Obj)) (s : Shared) (σ : St) (H : Hp) (Q : VK), Inv X pins σ H s → t σ H Q →
    wpAny (model X.prog X.w) X.A (eval a X.env) (fun v s₁ => wpAny (model X.prog X.w) X.A (eval b X.env) (fun u s₂ => wpAny (model X.prog X.w) X.A (compareOp op v u) (EP X pins σ Q) X.xe s₂) X.xe s₁) X.xe s
theorem nobehind (b : Expr) {op : CmpOp} (h : op ≠ .In) (h2 : op ≠ .NotIn) : behindInMarks op b = false := by
  have e1 : (op == CmpOp.In) = false := by cases op <;> first | rfl | exact absurd rfl h
  have e2 : (op == CmpOp.NotIn) = false := by cases op <;> first | rfl | exact absurd rfl h2
  cases b <;> simp [behindInMarks, e1, e2]
def tCmp (p : Int → Int → Bool) (ta tb : TE) : TE := fun σ H Q => t2I ta tb (fun i j H2 => Q (.bl (p i j)) H2) σ H
abbrev tLt : TE → TE → TE := tCmp fun i j => decide (i < j)
abbrev tLe : TE → TE → TE := tCmp fun i j => decide (i ≤ j)
abbrev tGt : TE → TE → TE := tCmp fun i j => decide (j < i)
abbrev tGe : TE → TE → TE := tCmp fun i j => decide (j ≤ i)
abbrev tEqI : TE → TE → TE := tCmp fun i j => decide (i = j)
abbrev tNeI : TE → TE → TE := tCmp fun i j => !decide (i = j)
/-- a comparison of two ints, by its rule -/
theorem pc_int {op : CmpOp} {p : Int → Int → Bool} (ha : PE X a ta) (hb : PE X b tb)
    (rule : ∀ (i j : Int) (t u : Tok) (Q : Value → Shared → Prop) (s : Shared), Q (.bool (p i j)) s → wpAny (model X.prog X.w) X.A (compareOp op (.int i t) (.int j u)) Q X.xe s) : PC X op a b (tCmp p ta tb) := by
  intro pins s σ H Q I h
  refine bin ha hb I h fun v u s2 x y H2 I2 rx ry q => ?_
  obtain ⟨i, j, rfl, rfl, q⟩ := q
  obtain ⟨t, rfl⟩ := rx
  obtain ⟨t', rfl⟩ := ry
  exact rule i j t t' _ s2 ⟨.bl _, H2, I2, rfl, q⟩
theorem pc_lt (ha : PE X a ta) (hb : PE X b tb) : PC X .Lt a b (tLt ta tb) := pc_int ha hb fun _ _ _ _ _ _ h => lt_int h
theorem pc_le (ha : PE X a ta) (hb : PE X b tb) : PC X .LtE a b (tLe ta tb) := pc_int ha hb fun _ _ _ _ _ _ h => le_int h
theorem pc_gt (ha : PE X a ta) (hb : PE X b tb) : PC X .Gt a b (tGt ta tb) := pc_int ha hb fun _ _ _ _ _ _ h => gt_int h
theorem pc_ge (ha : PE X a ta) (hb : PE X b tb) : PC X .GtE a b (tGe ta tb) := pc_int ha hb fun _ _ _ _ _ _ h => ge_int h
theorem pc_eqI (ha : PE X a ta) (hb : PE X b tb) : PC X .Eq a b (tEqI ta tb) := pc_int ha hb fun _ _ _ _ _ _ h => eq_int (by rw [Bool.beq_eq_decide_eq]; exact h)
theorem pc_neI (ha : PE X a ta) (hb : PE X b tb) : PC X .NotEq a b (tNeI ta tb) := pc_int ha hb fun _ _ _ _ _ _ h => ne_int (by rw [bne, Bool.beq_eq_decide_eq]; exact h)
/-- is None -/
def tIsN (ta : TE) : TE := fun σ H Q => ta σ H fun x H1 => Q (.bl (decide (x = .non))) H1
def tNotN (ta : TE) : TE := fun σ H Q => ta σ H fun x H1 => Q (.bl (!decide (x = .non))) H1
theorem RelV.none_iff {x : V} {v : Value} (r : RelV x v) : (v == Value.none) = decide (x = .non) := by
  cases x with
  | non => cases r; rfl
  | bl _ => cases r; rfl
  | int _ => obtain ⟨t, rfl⟩ := r; rfl
  | str _ => obtain ⟨t, rfl⟩ := r; rfl
  | byt _ => obtain ⟨t, rfl⟩ := r; rfl
  | flt _ => obtain ⟨t, rfl⟩ := r; rfl
  | ref _ => cases r; rfl
  | ty _ => cases r; rfl
theorem pc_isN {j pos'} (ha : PE X a ta) : PC X .Is a (.Constant .none j pos') (tIsN ta) := by
  intro pins s σ H Q I h
  refine thn (ha pins s σ H _ I h) fun v s1 ⟨x, H1, I1, r1, q1⟩ => ?_
  exact Constant_none (is_none_gen ⟨.bl _, H1, I1, by rw [r1.none_iff]; rfl, q1⟩)
theorem pc_notN {j pos'} (ha : PE X a ta) : PC X .IsNot a (.Constant .none j pos') (tNotN ta) := by
  intro pins s σ H Q I h
  refine thn (ha pins s σ H _ I h) fun v s1 ⟨x, H1, I1, r1, q1⟩ => ?_
  exact Constant_none (isnot_none_gen ⟨.bl _, H1, I1, by rw [r1.none_iff]; rfl, q1⟩)
/-- a comparison as a value, as a test -/
def tB (t : TE) : TT := fun σ H Q => t σ H fun x H1 => ∃ c, x = .bl c ∧ Q c H1
theorem pe_cmp {op : CmpOp} {t : TE} (h : PC X op a b t) (h1 : behindInMarks op b = false := by first | exact nobehind _ (by decide) (by decide) | rfl) : PE X (.Compare a [op] [b] pos) t := fun pins s σ H Q I hw => wpAny_Compare1 (h pins s σ H Q I hw) h1
theorem pt_cmp {op : CmpOp} {t : TE} (h : PC X op a b t) (h1 : behindInMarks op b = false := by first | exact nobehind _ (by decide) (by decide) | rfl) : PT X (.Compare a [op] [b] pos) (tB t) := by
  intro pins s σ H Q I hw
  refine wpAny_isTrue_Compare1 (thn (h pins s σ H _ I hw) fun v s1 h1 => thn h1 fun u s2 h2 => thn h2 fun c s3 ⟨x, H1, I1, r1, q1⟩ => ?_) h1
  obtain ⟨d, rfl, q⟩ := q1
  cases r1
  exact wpAny_truthy_bool ⟨H1, I1, q⟩
/-- an expression whose value is a bool, as a test -/
theorem pt_val {e : Expr} {t : TE} (h : PE X e t) (he : ∀ whole, isTrue e X.env whole = (do let v ← whole; standAt e.pos; holding [v] (truthy v)) := by intro _; rfl) : PT X e (tB t) := by
  intro pins s σ H Q I hw
  refine isTrue_plain (thn (h pins s σ H _ I hw) fun v s1 ⟨x, H1, I1, r1, q1⟩ => ?_) (he _)
  obtain ⟨d, rfl, q⟩ := q1
  cases r1
  exact wpAny_truthy_bool ⟨H1, I1, q⟩

/-! ### and, or, not -/
variable {tA tB' : TT} {rest : List Expr}
def tAnd (t u : TT) : TT := fun σ H Q => t σ H fun c H1 => if c = true then u σ H1 Q else Q false H1
def tOr (t u : TT) : TT := fun σ H Q => t σ H fun c H1 => if c = true then Q true H1 else u σ H1 Q
def tNot (t : TT) : TT := fun σ H Q => t σ H fun c H1 => Q (!c) H1
theorem pw_and1 (ha : PT X a tA) : PW X (.BoolOp .And [a] pos) tA := by
  intro wh pins s σ H Q I h
  refine isTrue_and (thn (ha pins s σ H Q I h) fun c s1 e => ?_)
  cases c with
  | true => exact isTrue_and_nil e
  | false => exact e
theorem pw_or1 (ha : PT X a tA) : PW X (.BoolOp .Or [a] pos) tA := by
  intro wh pins s σ H Q I h
  refine isTrue_or (thn (ha pins s σ H Q I h) fun c s1 e => ?_)
  cases c with
  | false => exact isTrue_or_nil e
  | true => exact e
theorem pw_and (ha : PT X a tA) (hb : PW X (.BoolOp .And (b :: rest) pos) tB') : PW X (.BoolOp .And (a :: b :: rest) pos) (tAnd tA tB') := by
  intro wh pins s σ H Q I h
  refine isTrue_and (thn (ha pins s σ H _ I h) fun c s1 ⟨H1, I1, q1⟩ => ?_)
  cases c with
  | true => exact hb wh pins s1 σ H1 Q I1 q1
  | false => exact ⟨H1, I1, q1⟩
theorem pw_or (ha : PT X a tA) (hb : PW X (.BoolOp .Or (b :: rest) pos) tB') : PW X (.BoolOp .Or (a :: b :: rest) pos) (tOr tA tB') := by
  intro wh pins s σ H Q I h
  refine isTrue_or (thn (ha pins s σ H _ I h) fun c s1 ⟨H1, I1, q1⟩ => ?_)
  cases c with
  | true => exact ⟨H1, I1, q1⟩
  | false => exact hb wh pins s1 σ H1 Q I1 q1
theorem pt_not (ha : PT X a tA) : PT X (.UnaryOp .Not a pos) (tNot tA) := by
  intro pins s σ H Q I h
  exact isTrue_not (ha pins s σ H (fun c H1 => Q (!c) H1) I h)
/-- .. as values (bools) -/
def tAndV (ta tb : TE) : TE := fun σ H Q => ta σ H fun x H1 => ∃ c, x = .bl c ∧ if c = true then tb σ H1 Q else Q (.bl false) H1
def tOrV (ta tb : TE) : TE := fun σ H Q => ta σ H fun x H1 => ∃ c, x = .bl c ∧ if c = true then Q (.bl true) H1 else tb σ H1 Q
def tNotV (ta : TE) : TE := fun σ H Q => ta σ H fun x H1 => ∃ c, x = .bl c ∧ Q (.bl (!c)) H1
theorem pe_one {op} {t : TE} (h : PE X a t) : PE X (.BoolOp op [a] pos) t := fun pins s σ H Q I hw => BoolOp_one (h pins s σ H Q I hw)
theorem pe_and (ha : PE X a ta) (hb : PE X (.BoolOp .And (b :: rest) pos) tb) : PE X (.BoolOp .And (a :: b :: rest) pos) (tAndV ta tb) := by
  intro pins s σ H Q I h
  refine BoolOp_and (thn (ha pins s σ H _ I h) fun v s1 ⟨x, H1, I1, r1, q1⟩ => ?_)
  obtain ⟨c, rfl, q1⟩ := q1
  cases r1
  refine wpAny_truthy_bool ?_
  cases c with
  | true => exact hb pins s1 σ H1 Q I1 q1
  | false => exact ⟨.bl false, H1, I1, rfl, q1⟩
theorem pe_or (ha : PE X a ta) (hb : PE X (.BoolOp .Or (b :: rest) pos) tb) : PE X (.BoolOp .Or (a :: b :: rest) pos) (tOrV ta tb) := by
  intro pins s σ H Q I h
  refine BoolOp_or (thn (ha pins s σ H _ I h) fun v s1 ⟨x, H1, I1, r1, q1⟩ => ?_)
  obtain ⟨c, rfl, q1⟩ := q1
  cases r1
  refine wpAny_truthy_bool ?_
  cases c with
  | false => exact hb pins s1 σ H1 Q I1 q1
  | true => exact ⟨.bl true, H1, I1, rfl, q1⟩
theorem pe_not (ha : PE X a ta) : PE X (.UnaryOp .Not a pos) (tNotV ta) := by
  intro pins s σ H Q I h
  refine UnaryOp_ (thn (ha pins s σ H _ I h) fun v s1 ⟨x, H1, I1, r1, q1⟩ => ?_)
  obtain ⟨c, rfl, q1⟩ := q1
  cases r1
  exact not_of (wpAny_truthy_bool ⟨.bl (!c), H1, I1, rfl, q1⟩)
/-- a if t else b -/
def tIf (t : TT) (ta tb : TE) : TE := fun σ H Q => t σ H fun c H1 => if c = true then ta σ H1 Q else tb σ H1 Q
theorem pe_ifExp {c : Expr} (hc : PT X c tA) (ha : PE X a ta) (hb : PE X b tb) : PE X (.IfExp c a b pos) (tIf tA ta tb) := by
  intro pins s σ H Q I h
  refine wpAny_IfExp (thn (hc pins s σ H _ I h) fun d s1 ⟨H1, I1, q1⟩ => ?_)
  cases d with
  | true => exact ha pins s1 σ H1 Q I1 q1
  | false => exact hb pins s1 σ H1 Q I1 q1
end
end L2

namespace L2
open PySem PySem.Spec PyProof.Rows

/-! ### a list, a tuple that is read: tracked, frozen, or an object of the module -/
def SqL (K : PySem.W.Frag) (H : Hp) (a : Addr) (xs : List V) : Prop :=
  Rd H a (.lst xs) ∨
    ∃ (o : Obj) (its : Array Value) (n : Nat), K.lookup a = some o ∧ o.cls = .type "list" ∧ o.dict = none ∧ o.data = .seq its n ∧ its.size ≤ sizeLine ∧ Vals xs its.toList
def SqT (K : PySem.W.Frag) (H : Hp) (a : Addr) (xs : List V) : Prop :=
  Rd H a (.tup xs) ∨
    ∃ (o : Obj) (its : Array Value) (n : Nat), K.lookup a = some o ∧ o.cls = .type "tuple" ∧ o.data = .seq its n ∧ its.size ≤ sizeLine ∧ Vals xs its.toList
def absV : Value → Option V
  | .none => some .non
  | .bool b => some (.bl b)
  | .int i _ => some (.int i)
  | .str x _ => some (.str x)
  | .bytes b _ => some (.byt b)
  | .float b _ => some (.flt b)
  | .ref a => some (.ref a)
  | .type n => some (.ty n)
  | _ => none
theorem RelV.abs {x : V} {u : Value} (r : RelV x u) : absV u = some x := by
  cases x with
  | non => cases r; rfl
  | bl _ => cases r; rfl
  | int _ => obtain ⟨t, rfl⟩ := r; rfl
  | str _ => obtain ⟨t, rfl⟩ := r; rfl
  | byt _ => obtain ⟨t, rfl⟩ := r; rfl
  | flt _ => obtain ⟨t, rfl⟩ := r; rfl
  | ref _ => cases r; rfl
  | ty _ => cases r; rfl
theorem RelV.inj {x y : V} {u : Value} (r : RelV x u) (q : RelV y u) : x = y := Option.some.inj (r.abs.symm.trans q.abs)
theorem Vals.inj : ∀ {xs ys : List V} {us : List Value}, Vals xs us → Vals ys us → xs = ys
  | _, _, _, .nil, .nil => rfl
  | _, _, _, .cons r t, .cons r' t' => by rw [r.inj r', Vals.inj t t']
section
variable {X : Cx} {pins : List (Addr × Obj)} {σ : St} {H : Hp} {s : Shared} {a : Addr} {xs ys : List V}
theorem SqL.of {K : PySem.W.Frag} (h : H a = some (.lst xs)) : SqL K H a xs := .inl (.inl h)
theorem SqT.of {K : PySem.W.Frag} (h : H a = some (.tup xs)) : SqT K H a xs := .inl (.inl h)
theorem Inv.list (I : Inv X pins σ H s) (h : SqL X.K H a xs) : ∃ its : List Value, Vals xs its ∧ PlainL s.heap a its.toArray ∧ xs.length ≤ sizeLine := by
  rcases h with h | ⟨o, its, n, hk, hc, hd, hs, hz, r⟩
  · obtain ⟨z, its, n, r, e⟩ := h.ok I.hok
    exact ⟨its, r, ⟨_, n, e, rfl, rfl, rfl⟩, z⟩
  · refine ⟨its.toList, r, ⟨o, n, I.kIn a o hk, hc, hd, by simpa using hs⟩, ?_⟩
    have e := r.length
    simp only [Array.length_toList] at e
    omega
theorem Inv.tuple (I : Inv X pins σ H s) (h : SqT X.K H a xs) : ∃ its : List Value, Vals xs its ∧ IsTup s.heap a its.toArray ∧ xs.length ≤ sizeLine := by
  rcases h with h | ⟨o, its, n, hk, hc, hs, hz, r⟩
  · obtain ⟨z, its, r, p⟩ := h.ok I.hok
    exact ⟨its, r, p, z⟩
  · refine ⟨its.toList, r, ⟨o, I.kIn a o hk, hc, n, by simpa using hs⟩, ?_⟩
    have e := r.length
    simp only [Array.length_toList] at e
    omega
theorem Inv.list_inj (I : Inv X pins σ H s) (h : SqL X.K H a xs) (h' : SqL X.K H a ys) : xs = ys := by
  obtain ⟨its, r, ⟨o, n, e, _, _, d⟩, _⟩ := I.list h
  obtain ⟨its', r', ⟨o', n', e', _, _, d'⟩, _⟩ := I.list h'
  rw [e] at e'; cases e'
  rw [d] at d'
  injection d' with d1 _
  have : its = its' := by simpa using congrArg Array.toList d1
  subst this
  exact r.inj r'
theorem Inv.tuple_inj (I : Inv X pins σ H s) (h : SqT X.K H a xs) (h' : SqT X.K H a ys) : xs = ys := by
  obtain ⟨its, r, ⟨o, e, _, n, d⟩, _⟩ := I.tuple h
  obtain ⟨its', r', ⟨o', e', _, n', d'⟩, _⟩ := I.tuple h'
  rw [e] at e'; cases e'
  rw [d] at d'
  injection d' with d1 _
  have : its = its' := by simpa using congrArg Array.toList d1
  subst this
  exact r.inj r'
end

/-! ### another wish about exceptions -/
abbrev Cx.wish (X : Cx) (E : Value → Shared → Prop) : Cx := { X with xe := E }
/-- no exception leaves -/
abbrev Cx.nox (X : Cx) : Cx := X.wish fun _ _ => False
theorem Cx.Ok.wish {X : Cx} (ok : X.Ok) (E : Value → Shared → Prop) : (X.wish E).Ok :=
  ⟨ok.mod, ok.kind, ok.glob, ok.blt, ok.above, ok.inj, ok.has, ok.cab, ok.hd, ok.frames, ok.stk, ok.exf, ok.bs, ok.bsz, ok.noex, ok.exfs, ok.funs, ok.frf⟩
theorem Cx.Ok.unwish {X : Cx} {E : Value → Shared → Prop} (ok : (X.wish E).Ok) : X.Ok :=
  ⟨ok.mod, ok.kind, ok.glob, ok.blt, ok.above, ok.inj, ok.has, ok.cab, ok.hd, ok.frames, ok.stk, ok.exf, ok.bs, ok.bsz, ok.noex, ok.exfs, ok.funs, ok.frf⟩
section
variable {X : Cx} {pins : List (Addr × Obj)} {σ : St} {H : Hp} {s : Shared} {E : Value → Shared → Prop}
theorem Inv.wish (I : Inv X pins σ H s) (E : Value → Shared → Prop) : Inv (X.wish E) pins σ H s := ⟨I.ok.wish E, I.os, I.bare, I.base, I.loc, I.cell, I.free, I.freeC, I.pin, I.hok, I.len⟩
theorem Inv.unwish (I : Inv (X.wish E) pins σ H s) : Inv X pins σ H s := ⟨I.ok.unwish, I.os, I.bare, I.base, I.loc, I.cell, I.free, I.freeC, I.pin, I.hok, I.len⟩
theorem SP.unwish {D : Ends} {f : Flow} {s' : Shared} (h : SP (X.wish E) pins D f s') : SP X pins D f s' := by
  cases f with
  | next => obtain ⟨σ', H', I, q⟩ := h; exact ⟨σ', H', I.unwish, q⟩
  | brk => obtain ⟨σ', H', I, q⟩ := h; exact ⟨σ', H', I.unwish, q⟩
  | cont => obtain ⟨σ', H', I, q⟩ := h; exact ⟨σ', H', I.unwish, q⟩
  | ret u => obtain ⟨v, σ', H', I, r, q⟩ := h; exact ⟨v, σ', H', I.unwish, r, q⟩
theorem PE.nox {e : Expr} {t : TE} (h : PE X.nox e t) : PE X e t := fun pins s σ H Q I hw =>
  wpAny_mono (h pins s σ H Q (I.wish _) hw) (fun _ _ ⟨v, H', I', r, q⟩ => ⟨v, H', I'.unwish, r, q⟩) fun _ _ z => False.elim z
theorem PT.nox {e : Expr} {t : TT} (h : PT X.nox e t) : PT X e t := fun pins s σ H Q I hw =>
  wpAny_mono (h pins s σ H Q (I.wish _) hw) (fun _ _ ⟨H', I', q⟩ => ⟨H', I'.unwish, q⟩) fun _ _ z => False.elim z
theorem PSs.nox {st : List Stmt} {t : TS} (h : PSs X.nox st t) : PSs X st t := fun pins s σ H D I hw =>
  wpAny_mono (h pins s σ H D (I.wish _) hw) (fun _ _ q => q.unwish) fun _ _ z => False.elim z
end

/-! ### blocks and small statements -/
section
variable {X : Cx} {st : Stmt} {rest : List Stmt} {t u : TS} {e : Expr} {te : TE} {pos : Pos}
def tNext : TS := fun D σ H => D.nx σ H
def tSeq (t u : TS) : TS := fun D σ H => t { D with nx := u D } σ H
theorem pss_nil : PSs X [] tNext := fun _ _ σ H _ I h => wpAny_execs_nil ⟨σ, H, I, h⟩
theorem pss_cons (h1 : PS X st t) (h2 : PSs X rest u) : PSs X (st :: rest) (tSeq t u) := by
  intro pins s σ H D I h
  refine wpAny_execs_cons (thn (h1 pins s σ H { D with nx := u D } I h) fun f s1 q => ?_)
  cases f with
  | next =>
    obtain ⟨σ', H', I', q⟩ := q
    exact h2 pins s1 σ' H' D I' q
  | ret v => exact q
  | brk => exact q
  | cont => exact q
theorem pss_one (h1 : PS X st t) : PSs X [st] t := by
  intro pins s σ H D I h
  refine wpAny_execs_cons (thn (h1 pins s σ H D I h) fun f s1 q => ?_)
  cases f with
  | next => exact wpAny_execs_nil q
  | ret v => exact q
  | brk => exact q
  | cont => exact q
def tBreak : TS := fun D σ H => D.bk σ H
def tCont : TS := fun D σ H => D.ct σ H
theorem ps_pass : PS X (.Pass pos) tNext := fun _ _ σ H _ I h => wpAny_Pass ⟨σ, H, I, h⟩
theorem ps_break : PS X (.Break pos) tBreak := fun _ _ σ H _ I h => wpAny_Break ⟨σ, H, I, h⟩
theorem ps_continue : PS X (.Continue pos) tCont := fun _ _ σ H _ I h => wpAny_Continue ⟨σ, H, I, h⟩
/-- in a def's body nothing is shown -/
theorem Inv.quiet {pins : List (Addr × Obj)} {σ : St} {H : Hp} {s : Shared} (I : Inv X pins σ H s) : interactive X.env = false := by simp [interactive, I.ok.kind]
/-- a docstring -/
theorem ps_doc {x j pos pos'} : PS X (.Expr (.Constant (.str x) j pos) pos') tNext := fun _ s σ H _ I h => wpAny_Expr (Calls.Constant_str (show SP X _ _ .next { s with toks := s.toks + 1 } from ⟨σ, H, I.tok _, h⟩)) I.quiet
/-- an expression whose value is dropped -/
def tDrop (te : TE) : TS := fun D σ H => te σ H fun _ H1 => D.nx σ H1
theorem ps_expr (he : PE X e te) (hs : swapsWith e none pos.line X.env = pure false := by rfl) : PS X (.Expr e pos) (tDrop te) := by
  intro pins s σ H D I h
  exact wpAny_Expr_any (thn (he pins s σ H _ I h) fun v s1 ⟨x, H1, I1, r1, q1⟩ => ⟨σ, H1, I1, q1⟩) I.quiet hs
def tRet (te : TE) : TS := fun D σ H => te σ H D.rt
theorem ps_ret (he : PE X e te) : PS X (.Return (some e) pos) (tRet te) := by
  intro pins s σ H D I h
  exact wpAny_Return_some (thn (he pins s σ H _ I h) fun v s1 ⟨x, H1, I1, r1, q1⟩ => ⟨x, σ, H1, I1, r1, q1⟩)
def tRetN : TS := fun D _ H => D.rt .non H
theorem ps_retN : PS X (.Return none pos) tRetN := fun _ _ σ H _ I h => wpAny_Return_none ⟨.non, σ, H, I, rfl, h⟩
def tIfS (c : TT) (t u : TS) : TS := fun D σ H => c σ H fun b H1 => if b = true then t D σ H1 else u D σ H1
theorem ps_if {c : Expr} {a b : List Stmt} {tc : TT} (hc : PT X c tc) (ha : PSs X a t) (hb : PSs X b u) : PS X (.If c a b pos) (tIfS tc t u) := by
  intro pins s σ H D I h
  refine wpAny_If (thn (hc pins s σ H _ I h) fun d s1 ⟨H1, I1, q1⟩ => ?_)
  cases d with
  | true => exact ha pins s1 σ H1 D I1 q1
  | false => exact hb pins s1 σ H1 D I1 q1
/-- code that the proof never comes to -/
def tNever : TS := fun _ _ _ => False
theorem ps_never : PS X st tNever := fun _ _ _ _ _ _ h => h.elim
theorem pss_never {sts : List Stmt} : PSs X sts tNever := fun _ _ _ _ _ _ h => h.elim
end

/-! ### targets -/
abbrev TG := V → St → Hp → (St → Hp → Prop) → Prop
abbrev TGs := List V → St → Hp → (St → Hp → Prop) → Prop
def PG (X : Cx) (target : Expr) (t : TG) : Prop :=
  ∀ (pins : List (Addr × Obj)) (s : Shared) (σ : St) (H : Hp) (v : V) (u : Value) (Q : St → Hp → Prop), Inv X pins σ H s → RelV v u → t v σ H Q →
    wpAny (model X.prog X.w) X.A (assign target X.env u) (fun _ s' => ∃ σ' H', Inv X pins σ' H' s' ∧ Q σ' H') X.xe s
/-- several targets, one after another -/
def PGs (X : Cx) (ts : List Expr) (t : TGs) : Prop :=
  ∀ (pins : List (Addr × Obj)) (s : Shared) (σ : St) (H : Hp) (vs : List V) (us : List Value) (Q : St → Hp → Prop), Inv X pins σ H s → Vals vs us → t vs σ H Q →
    wpAny (model X.prog X.w) X.A (assignInOrder ((assignEach ts X.env).map (·.2)) us) (fun _ s' => ∃ σ' H', Inv X pins σ' H' s' ∧ Q σ' H') X.xe s
/-- o[i] = v, by values -/
abbrev TSet := V → V → V → Hp → (Hp → Prop) → Prop
def PSet (X : Cx) (t : TSet) : Prop :=
  ∀ (pins : List (Addr × Obj)) (s : Shared) (σ : St) (H : Hp) (o i v : V) (ov iv u : Value) (Q : Hp → Prop), Inv X pins σ H s → RelV o ov → RelV i iv → RelV v u → t o i v H Q →
    wpAny (model X.prog X.w) X.A (setItem ov iv u) (fun _ s' => ∃ H', Inv X pins σ H' s' ∧ Q H') X.xe s
/-- a op= b, by values -/
abbrev TIp := V → V → Hp → VK → Prop
def PIp (X : Cx) (op : Operator) (t : TIp) : Prop :=
  ∀ (pins : List (Addr × Obj)) (s : Shared) (σ : St) (H : Hp) (x y : V) (v u : Value) (Q : VK), Inv X pins σ H s → RelV x v → RelV y u → t x y H Q →
    wpAny (model X.prog X.w) X.A (inplaceOp op v u) (EP X pins σ Q) X.xe s
section
variable {X : Cx} {pos : Pos}
def gName (i : Nat) : TG := fun v σ H Q => Q (σ.set i (some v)) H
theorem pg_name {i : Nat} {x : Str} (hN : X.N.Nodup) (hi : X.N[i]? = some x) (hx : Loc X.env.scope x) (hf : X.fn x = true ∨ X.env.scope.names.lookup x = some .local := by first | exact .inl rfl | exact .inr rfl | assumption) : PG X (.Name x pos) (gName i) := by
  intro pins s σ H v u Q I r h
  exact wpAny_assign_Name (store_ok I hN hi hx r (fun s' I' => ⟨_, H, I', h⟩) hf)
def gNil : TGs := fun vs σ H Q => vs = [] ∧ Q σ H
def gCons (t : TG) (u : TGs) : TGs := fun vs σ H Q => ∃ v r, vs = v :: r ∧ t v σ H fun σ' H' => u r σ' H' Q
theorem pgs_nil : PGs X [] gNil := by
  intro pins s σ H vs us Q I r h
  obtain ⟨e, h⟩ := h
  subst e
  cases r
  exact assignInOrder_nil ⟨σ, H, I, h⟩
theorem pgs_cons {e : Expr} {es : List Expr} {t : TG} {u : TGs} (h1 : PG X e t) (h2 : PGs X es u)
    (hs : (assignEach (e :: es) X.env).map (·.2) = assign e X.env :: (assignEach es X.env).map (·.2) := by rfl) : PGs X (e :: es) (gCons t u) := by
  intro pins s σ H vs us Q I r h
  obtain ⟨v, vr, e1, h⟩ := h
  subst e1
  cases r with
  | cons r rr =>
    rw [hs]
    refine assignInOrder_cons (thn (h1 pins s σ H _ _ _ I r h) fun _ s1 ⟨σ1, H1, I1, q1⟩ => ?_)
    exact h2 pins s1 σ1 H1 _ _ Q I1 rr q1
/-- (a, b, ..) = a tuple of that length -/
def gTup (K : PySem.W.Frag) (n : Nat) (t : TGs) : TG := fun v σ H Q => ∃ a xs, v = .ref a ∧ SqT K H a xs ∧ xs.length = n ∧ t xs σ H Q
theorem pg_tup {es : List Expr} {k : Nat} {t : TGs} {n : Nat} (hc : X.calm = true) (h : PGs X es t)
    (hn : (assignEach es X.env).length = n := by rfl) (hst : (assignEach es X.env).findIdx? (·.1) = none := by rfl) : PG X (.Tuple es k pos) (gTup X.K n t) := by
  intro pins s σ H v u Q I r hw
  obtain ⟨a, xs, e1, hq, hl, hw⟩ := hw
  subst e1
  cases r
  obtain ⟨its, rv, ht, hz⟩ := I.tuple hq
  refine assign_Tuple_tuple (I.ok.hd hc) ht (by simp [hn, ← hl, rv.length]) hst fun h' hx => ?_
  have I1 : Inv X pins σ H { s with heap := h' } := I.kept (t' := s.toks) fun b o e => hx b o (Nat.ne_of_lt (Heap.lt_size e)) e
  exact h pins _ σ H xs _ Q I1 (by simpa using rv) hw
/-- o[i] = .. -/
def gSub (to ti : TE) (t : TSet) : TG := fun v σ H Q => to σ H fun o H1 => ti σ H1 fun i H2 => t o i v H2 fun H3 => Q σ H3
theorem pg_sub {o i : Expr} {to ti : TE} {t : TSet} (ho : PE X o to) (hi : PE X i ti) (hs : PSet X t)
    (ha : ∀ v, assign (.Subscript o i pos) X.env v = (do
      let ov ← holding [v] (eval o X.env)
      let iv ← holding [v, ov] (eval i X.env)
      standAt pos
      holding [v, ov, iv] (setItem ov iv v)
      release [v, ov, iv] []) := by intro _; rfl) : PG X (.Subscript o i pos) (gSub to ti t) := by
  intro pins s σ H v u Q I r h
  rw [ha]
  refine wpAny_bind (wpAny_holding (thn (ho pins s σ H _ I h) fun ov s1 ⟨x, H1, I1, r1, q1⟩ => ?_))
  refine wpAny_bind (wpAny_holding (thn (hi pins s1 σ H1 _ I1 q1) fun iv s2 ⟨y, H2, I2, r2, q2⟩ => ?_))
  refine wpAny_bind (wpAny_standAt (wpAny_bind (wpAny_holding (thn (hs pins s2 σ H2 x y v ov iv u _ I2 r1 r2 r q2) fun _ s3 ⟨H3, I3, q3⟩ => ?_))))
  exact wpAny_release ⟨σ, H3, I3, q3⟩
/-- target = value -/
def tAsg (te : TE) (g : TG) : TS := fun D σ H => te σ H fun x H1 => g x σ H1 D.nx
theorem ps_asg {tg e : Expr} {te : TE} {g : TG} (he : PE X e te) (hg : PG X tg g) (hs : swapsWithSole [tg] e pos.line X.env = pure false := by rfl) (hw : swappedStores [tg] e X.env = pure none := by rfl)
    (h1 : (assignEach [tg] X.env).map (·.2) = [assign tg X.env] := by rfl) : PS X (.Assign [tg] e pos) (tAsg te g) := by
  intro pins s σ H D I h
  refine wpAny_Assign_stores (thn (he pins s σ H _ I h) fun v s1 ⟨x, H1, I1, r1, q1⟩ => ?_) hs hw
  rw [h1]
  exact thn (hg pins s1 σ H1 x v _ I1 r1 q1) fun _ s2 q => q
/-- name = value -/
theorem ps_set {i : Nat} {x : Str} {e : Expr} {te : TE} {pos' : Pos} (hN : X.N.Nodup) (hi : X.N[i]? = some x) (hx : Loc X.env.scope x) (he : PE X e te) (hs : swapsWith e (some (.Name x pos')) pos.line X.env = pure false := by rfl) (hf : X.fn x = true ∨ X.env.scope.names.lookup x = some .local := by first | exact .inl rfl | exact .inr rfl | assumption) :
    PS X (.Assign [.Name x pos'] e pos) (tAsg te (gName i)) := by
  intro pins s σ H D I h
  refine wpAny_Assign_Name (thn (he pins s σ H _ I h) fun v s1 ⟨y, H1, I1, r1, q1⟩ => ?_) hs
  exact store_ok I1 hN hi hx r1 (fun s2 I2 => ⟨_, H1, I2, q1⟩) hf
/-- a, b = x, y with plain local names: stored from the right; the pair itself is not tracked (the opening rows as in PyProof/Rows/TupAssign.lean:23) -/
def tPar (i j : Nat) (ta : TA) : TS := fun D σ H => ta σ H fun vs H1 => ∃ v w, vs = [v, w] ∧ D.nx ((σ.set i (some v)).set j (some w)) H1
theorem ps_par {i j : Nat} {x y : Str} {a b : Expr} {ta : TA} {px py pt : Pos} {kt k2 pt2} (hc : X.calm = true) (hN : X.N.Nodup) (hi : X.N[i]? = some x) (hj : X.N[j]? = some y) (hij : i ≠ j)
    (hx : X.env.scope.names.lookup x = some .local) (hy : X.env.scope.names.lookup y = some .local) (ha : PA X [a, b] ta)
    (hw : swappedStores [.Tuple [.Name x px, .Name y py] kt pt] (.Tuple [a, b] k2 pt2) X.env = pure (some [x, y]))
    (hs : swapsWithSole [.Tuple [.Name x px, .Name y py] kt pt] (.Tuple [a, b] k2 pt2) pos.line X.env = pure false := by rfl) :
    PS X (.Assign [.Tuple [.Name x px, .Name y py] kt pt] (.Tuple [a, b] k2 pt2) pos) (tPar i j ta) := by
  intro pins s σ H D I h
  rw [exec_Assign_arm]
  refine wpAny_bind (wpAny_standAt ?_)
  rw [hs]
  refine wpAny_bind (wpAny_pure ?_)
  rw [if_neg (by decide)]
  refine wpAny_bind (Tuple_ (thn (ha _ pins s σ H _ I h) fun us s1 ⟨vs, H1, I1, r1, q1⟩ => ?_))
  obtain ⟨v, w, e1, q1⟩ := q1
  subst e1
  obtain ⟨u1, u2, rfl, rv, rw'⟩ : ∃ u1 u2, us = [u1, u2] ∧ RelV v u1 ∧ RelV w u2 := by
    cases r1 with
    | cons p q =>
      cases q with
      | cons p' q' =>
        cases q'
        exact ⟨_, _, rfl, p, p'⟩
  refine wpAny_newObj_type ?_ (by show 2 ≤ sizeLine; decide)
  have I2 : Inv X pins σ H1 { s1 with heap := s1.heap.push { cls := .type "tuple", data := .seq [u1, u2].toArray } } := I1.kept (t' := s1.toks) fun b o e => Heap.get?_push_of_some _ e
  rw [hw]
  refine wpAny_bind (wpAny_pure ?_)
  show wpAny (model X.prog X.w) X.A (do rule "assign.swapped-stores"; let items ← unpackItems (.ref s1.heap.objs.size) 2 none; assignInOrder [fun v => bindName X.env y v, fun v => bindName X.env x v] items.reverse; pure Flow.next) _ _ _
  refine wpAny_bind (wpAny_rule (wpAny_bind (unpackItems_tuple (items := #[u1, u2]) (I.ok.hd hc) (IsTup.new s1.heap _) fun h' hx' => ?_)))
  have I3 := I2.kept (h' := h') (t' := s1.toks) fun b o e => hx' b o (Nat.ne_of_lt (Heap.lt_size e)) e
  show wpAny _ _ (assignInOrder [fun v => bindName X.env y v, fun v => bindName X.env x v] [u2, u1] >>= fun _ => pure Flow.next) _ _ _
  refine wpAny_bind (assignInOrder_cons (wpAny_bindName (store_ok I3 hN hj (.inl hy) rw' (fun s2 I4 => ?_) (.inr hy))))
  refine assignInOrder_cons (wpAny_bindName (store_ok I4 hN hi (.inl hx) rv (fun s3 I5 => assignInOrder_nil (wpAny_pure ?_)) (.inr hx)))
  rw [List.set_comm _ _ (Ne.symm hij)] at I5
  exact ⟨_, H1, I5, q1⟩
/-- name op= e -/
def tAug (i : Nat) (te : TE) (ti : TIp) : TS := fun D σ H => ∃ x, σ[i]? = some (some x) ∧ te σ H fun y H1 => ti x y H1 fun z H2 => D.nx (σ.set i (some z)) H2
theorem ps_aug {i : Nat} {x : Str} {e : Expr} {te : TE} {op : Operator} {ti : TIp} {pos' : Pos} (hN : X.N.Nodup) (hi : X.N[i]? = some x) (hx : Loc X.env.scope x) (he : PE X e te) (ho : PIp X op ti) (hf : X.fn x = true ∨ X.env.scope.names.lookup x = some .local := by first | exact .inl rfl | exact .inr rfl | assumption) :
    PS X (.AugAssign (.Name x pos') op e pos) (tAug i te ti) := by
  intro pins s σ H D I h
  obtain ⟨v, e1, h⟩ := h
  obtain ⟨m, hn, hl⟩ := I.loc
  have vis : Vis X.env.scope x := by rcases hx with k | k; exact .inl k; exact .inr (.inl k)
  obtain ⟨u, r, l⟩ := hl i x v hi e1 vis
  refine wpAny_AugAssign_Name ?_
  have go : wpAny (model X.prog X.w) X.A (eval e X.env) (fun w s₂ => wpAny (model X.prog X.w) X.A (inplaceOp op u w) (fun r s₃ => wpAny (model X.prog X.w) X.A (storeName X.env x r) (fun _ => SP X pins D .next) X.xe s₃) X.xe s₂) X.xe s := by
    refine thn (he pins s σ H _ I h) fun w s1 ⟨y, H1, I1, r1, q1⟩ => ?_
    refine thn (ho pins s1 σ H1 v y u w _ I1 r r1 q1) fun z s2 ⟨zv, H2, I2, r2, q2⟩ => ?_
    exact store_ok I2 hN hi hx r2 (fun s3 I3 => ⟨_, H2, I3, q2⟩) hf
  rcases l with ⟨hk, hm⟩ | ⟨hk, c, hc, hcell⟩
  · exact wpAny_loadName_local I.ok.kind hk hn hm go
  · rcases hk with hk | hk
    · exact wpAny_loadName_cell I.ok.kind hk hc hcell go
    · rcases hx with k | k
      · have : X.env.scope.names.lookup x = some .free := hk
        rw [k] at this; cases this
      · have : X.env.scope.names.lookup x = some .free := hk
        rw [k] at this; cases this
/-- o[i] op= e -/
def tAugS (to ti te : TE) (tget : V → V → Hp → VK → Prop) (tip : TIp) (tset : TSet) : TS := fun D σ H => to σ H fun o H1 => ti σ H1 fun i H2 => tget o i H2 fun x H3 => te σ H3 fun y H4 => tip x y H4 fun z H5 => tset o i z H5 fun H6 => D.nx σ H6
/-- o[i], by values -/
def PGet (X : Cx) (t : V → V → Hp → VK → Prop) : Prop :=
  ∀ (pins : List (Addr × Obj)) (s : Shared) (σ : St) (H : Hp) (o i : V) (ov iv : Value) (Q : VK), Inv X pins σ H s → RelV o ov → RelV i iv → t o i H Q →
    wpAny (model X.prog X.w) X.A (getItem ov iv) (EP X pins σ Q) X.xe s
theorem ps_augS {o i e : Expr} {to ti te : TE} {tget : V → V → Hp → VK → Prop} {tip : TIp} {tset : TSet} {op : Operator} {tpos : Pos} (ho : PE X o to) (hi : PE X i ti) (hg : PGet X tget) (he : PE X e te) (hp : PIp X op tip) (hs : PSet X tset)
    (ha : ∀ ov iv new, augStore i ov iv new = (do holding [new, ov, iv] (setItem ov iv new); release [new, ov, iv] []; pure .next) := by intros; rfl) : PS X (.AugAssign (.Subscript o i tpos) op e pos) (tAugS to ti te tget tip tset) := by
  intro pins s σ H D I h
  refine wpAny_AugAssign_SubscriptAny (thn (ho pins s σ H _ I h) fun ov s1 ⟨x1, H1, I1, r1, q1⟩ => ?_) ha
  refine thn (hi pins s1 σ H1 _ I1 q1) fun iv s2 ⟨x2, H2, I2, r2, q2⟩ => ?_
  refine thn (hg pins s2 σ H2 x1 x2 ov iv _ I2 r1 r2 q2) fun old s3 ⟨x3, H3, I3, r3, q3⟩ => ?_
  refine thn (he pins s3 σ H3 _ I3 q3) fun v s4 ⟨x4, H4, I4, r4, q4⟩ => ?_
  refine thn (hp pins s4 σ H4 x3 x4 old v _ I4 r3 r4 q4) fun new s5 ⟨x5, H5, I5, r5, q5⟩ => ?_
  exact thn (hs pins s5 σ H5 x1 x2 x5 ov iv new _ I5 r1 r2 r5 q5) fun _ s6 ⟨H6, I6, q6⟩ => ⟨σ, H6, I6, q6⟩
/-- ints -/
def ipI (f : Int → Int → Int) : TIp := fun x y H Q => ∃ i j, x = .int i ∧ y = .int j ∧ Q (.int (f i j)) H
theorem ip_add : PIp X .Add (ipI fun i j => i + j) := by
  intro pins s σ H x y v u Q I r1 r2 h
  obtain ⟨i, j, e1, e2, q⟩ := h
  subst e1; subst e2
  obtain ⟨t, rfl⟩ := r1
  obtain ⟨t', rfl⟩ := r2
  exact iadd_int ⟨.int _, H, I.tok _, ⟨_, rfl⟩, q⟩
theorem ip_sub : PIp X .Sub (ipI fun i j => i - j) := by
  intro pins s σ H x y v u Q I r1 r2 h
  obtain ⟨i, j, e1, e2, q⟩ := h
  subst e1; subst e2
  obtain ⟨t, rfl⟩ := r1
  obtain ⟨t', rfl⟩ := r2
  exact isub_int ⟨.int _, H, I.tok _, ⟨_, rfl⟩, q⟩
end

/-! ### while -/
section
variable {X : Cx} {pos : Pos}
/-- the invariant W with its measure -/
def tWhile (c : TT) (tb : TS) : TS := fun D σ H => ∃ W : Nat → St → Hp → Prop, (∃ m, W m σ H) ∧ ∀ m σ H, W m σ H →
  c σ H fun b H1 => if b = true then ∃ N : St → Hp → Prop, (∀ σ' H', N σ' H' → ∃ m', m' < m ∧ W m' σ' H') ∧ tb { D with nx := N, ct := N, bk := D.nx } σ H1 else D.nx σ H1
theorem ps_while {c : Expr} {body : List Stmt} {tc : TT} {tb : TS} (hp : PassesOwn (model X.prog X.w) X.A X.env X.xe) (hc : PT X c tc) (hb : PSs X body tb) : PS X (.While c body [] pos) (tWhile tc tb) := by
  intro pins s σ H D I h
  obtain ⟨W, ⟨m0, w0⟩, turn⟩ := h
  refine wpAny_While (codeAny_whileLoop (fun n s' => ∃ σ' H', Inv X pins σ' H' s' ∧ W n σ' H') ?_ m0 ⟨σ, H, I, w0⟩)
  rintro n s1 ⟨σ1, H1, I1, w1⟩
  refine wpAny_passesOwn hp (thn (hc pins s1 σ1 H1 _ I1 (turn n σ1 H1 w1)) fun b s2 ⟨H2, I2, q2⟩ => ?_)
  cases b with
  | true =>
    obtain ⟨N, hN, q2⟩ := q2
    rw [if_pos rfl]
    refine wpAny_passesOwn hp (thn (hb pins s2 σ1 H2 _ I2 q2) fun f s3 q3 => ?_)
    cases f with
    | next =>
      obtain ⟨σ3, H3, I3, n3⟩ := q3
      obtain ⟨m', hm, w3⟩ := hN σ3 H3 n3
      exact ⟨m', hm, σ3, H3, I3, w3⟩
    | cont =>
      obtain ⟨σ3, H3, I3, n3⟩ := q3
      obtain ⟨m', hm, w3⟩ := hN σ3 H3 n3
      exact ⟨m', hm, σ3, H3, I3, w3⟩
    | brk => exact q3
    | ret v => exact q3
  | false =>
    rw [if_neg Bool.false_ne_true]
    exact wpAny_execs_nil ⟨σ1, H2, I2, q2⟩
end

/-! ### what a loop or a comprehension walks -/
/-- at turn i: it yields x (the heap may grow), or it stops -/
structure It where
  go : Nat → Hp → Prop
  yld : Nat → Hp → V → Hp → Prop
  stop : Nat → Hp → Prop
/-- the iterator's own objects may turn: they are not the frame's, not pinned, younger than the entry (or a comprehension's own) -/
def FpOk (X : Cx) (pins : List (Addr × Obj)) (H : Hp) (b : Addr) : Prop :=
  H b = none ∧ b ≠ X.env.locals ∧ b ∉ X.fs ∧ (b ∈ X.ex ∨ X.s₀.heap.objs.size ≤ b) ∧ (∀ x c, X.env.cells.lookup x = some c → c ≠ b) ∧ ∀ p ∈ X.pn ++ pins, p.1 ≠ b
theorem Inv.fpOk {X : Cx} {pins : List (Addr × Obj)} {σ : St} {H H' : Hp} {s : Shared} {b : Addr} (I : Inv X pins σ H s) (hb : s.heap.objs.size ≤ b) (hn : H' b = none) : FpOk X pins H' b := by
  refine ⟨hn, Nat.ne_of_gt (Nat.lt_of_lt_of_le I.lt hb), I.nofs hb, .inr (Nat.le_trans I.sz hb), fun x c e z => ?_, fun p hp z => ?_⟩
  · obtain ⟨v, q⟩ := I.cell x c e
    exact absurd (Nat.lt_of_lt_of_le q.lt (by rw [z]; exact hb)) (Nat.lt_irrefl _)
  · exact absurd (Nat.lt_of_lt_of_le (Heap.lt_size (I.pin p hp).1) (by rw [z]; exact hb)) (Nat.lt_irrefl _)
structure Turn (P : Program) (w : World) (K : PySem.W.Frag) (tg : Expr) (J : It) (fp : List Addr) (it : Addr) (tn : Nat → Heap → Prop) : Prop where
  mem : it ∈ fp
  obj : ∀ i h, tn i h → ∀ b ∈ fp, ∃ o, h.get? b = some o ∧ ∀ v, o.data ≠ .cell v
  keep : ∀ i h h', tn i h → (∀ b ∈ fp, ∀ o, h.get? b = some o → h'.get? b = some o) → tn i h'
  item : ∀ (X : Cx), X.prog = P → X.w = w → X.K = K → X.calm = true → ∀ (i : Nat) (pins : List (Addr × Obj)) (s : Shared) (σ : St) (H : Hp) (E : Value → Shared → Prop), Inv X pins σ H s → (∀ b ∈ fp, FpOk X pins H b) → tn i s.heap → J.go i H →
    wpAny (model P w) X.A (pyNext (.ref it)) (fun r s1 => ∃ u, r = some u ∧
      wpAny (model P w) X.A (letOwnedTupleGo tg (.ref it) u) (fun _ s2 => ∃ x H', Inv X pins σ H' s2 ∧ RelV x u ∧ J.yld i H x H' ∧ tn (i + 1) s2.heap ∧ ∀ b ∈ fp, H' b = none) E s1) E s
  done : ∀ (X : Cx), X.prog = P → X.w = w → X.K = K → X.calm = true → ∀ (i : Nat) (pins : List (Addr × Obj)) (s : Shared) (σ : St) (H : Hp) (E : Value → Shared → Prop), Inv X pins σ H s → (∀ b ∈ fp, FpOk X pins H b) → tn i s.heap → J.stop i H →
    wpAny (model P w) X.A (pyNext (.ref it)) (fun r s1 => r = none ∧ Inv X pins σ H s1) E s
  self : ∀ (A : Around) (i : Nat) (s : Shared) (Q : Value → Shared → Prop) (E : Value → Shared → Prop), tn i s.heap → Q (.ref it) s → wpAny (model P w) A (pyIter (.ref it)) Q E s
abbrev TI := St → Hp → (It → Hp → Prop) → Prop
/-- an iterator has come -/
def PIE (X : Cx) (pins : List (Addr × Obj)) (σ : St) (tg : Expr) (R : It → Hp → Prop) (itv : Value) (s2 : Shared) : Prop :=
  ∃ (it : Addr) (fp : List Addr) (tn : Nat → Heap → Prop) (J : It) (H' : Hp), itv = .ref it ∧ Inv X pins σ H' s2 ∧ Turn X.prog X.w X.K tg J fp it tn ∧ tn 0 s2.heap ∧ (∀ b ∈ fp, FpOk X pins H' b) ∧ R J H'
def PI (X : Cx) (tg iter : Expr) (wi : TI) : Prop :=
  ∀ (pins : List (Addr × Obj)) (s : Shared) (σ : St) (H : Hp) (R : It → Hp → Prop), Inv X pins σ H s → wi σ H R →
    wpAny (model X.prog X.w) X.A (eval iter X.env) (fun v s1 => wpAny (model X.prog X.w) X.A (pyIter v) (PIE X pins σ tg R) X.xe s1) X.xe s

/-- the step ahead of the store is nothing for an iterator that keeps no tuple -/
theorem go_of {M : Model} {A : Around} {E : Value → Shared → Prop} {s : Shared} {tg : Expr} {it : Addr} {u : Value} {o : Obj} {n : String} {vs : Array Value} {Q : Unit → Shared → Prop} (ho : s.heap.get? it = some o) (hc : o.cls = .type n) (hd : o.data = .fields vs)
    (hn : ["enumerate", "zip", "dict_itemiterator", "dict_reverseitemiterator", "odict_iterator", "itertools.zip_longest", "itertools.pairwise"].contains n = false) (hQ : Q () s) : wpAny M A (letOwnedTupleGo tg (.ref it) u) Q E s := by
  unfold letOwnedTupleGo
  cases tg <;> first
    | exact wpAny_pure hQ
    | (cases u <;> first
        | exact wpAny_pure hQ
        | (refine wpAny_bind (wpAny_load ho ?_)
           rw [hc, hd]
           show wpAny M A (if (["enumerate", "zip", "dict_itemiterator", "dict_reverseitemiterator", "odict_iterator", "itertools.zip_longest", "itertools.pairwise"].contains n && vs[0]? == some (rawInt _)) = true then _ else _) Q E s
           rw [if_neg (by intro h; rw [hn, Bool.false_and] at h; cases h)]
           exact wpAny_pure hQ))

/-- the list at a, as it stands at each turn (a loop may append to it) -/
def Itl (K : PySem.W.Frag) (a : Addr) : It :=
  ⟨fun i H => ∃ xs x, SqL K H a xs ∧ xs[i]? = some x, fun i H x H' => H' = H ∧ ∀ xs, SqL K H a xs → xs[i]? = some x, fun i H => ∃ xs, SqL K H a xs ∧ xs.length ≤ i⟩
def Itt (K : PySem.W.Frag) (a : Addr) : It :=
  ⟨fun i H => ∃ xs x, SqT K H a xs ∧ xs[i]? = some x, fun i H x H' => H' = H ∧ ∀ xs, SqT K H a xs → xs[i]? = some x, fun i H => ∃ xs, SqT K H a xs ∧ xs.length ≤ i⟩
/-- lo, lo + 1, .. (n of them) -/
def Itr (lo : Int) (n : Nat) : It := ⟨fun i _ => i < n, fun i H x H' => H' = H ∧ x = .int (lo + i), fun i _ => n ≤ i⟩
theorem turn_list {P : Program} {w : World} {K : PySem.W.Frag} {tg : Expr} (a it : Addr) : Turn P w K tg (Itl K a) [it] it (fun i h => h.IsListIter it a i) where
  mem := by simp
  obj := fun i h st b hb => by
    have e : b = it := by simpa using hb
    subst e
    obtain ⟨o, e, c, d⟩ := st
    exact ⟨o, e, fun v z => by rw [d] at z; cases z⟩
  keep := fun i h h' st k => st.at fun o e => k it (by simp) o e
  item := by
    intro X hP hw hK hc i pins s σ H E I hf st hg
    subst hP hw hK
    obtain ⟨xs, x, hq, hx⟩ := hg
    obtain ⟨its, rv, p, hz⟩ := I.list hq
    obtain ⟨u, hu, ru⟩ := rv.get hx
    obtain ⟨f0, f1, f2, f3, f4, f5⟩ := hf it (by simp)
    refine wpAny_pyNext_list_item st p.isList (x := u) (by simpa using hu) fun h' st' sb => ?_
    have I1 : Inv X pins σ H { s with heap := h' } := I.turned (t' := s.toks) (fun b o hb e => (sb.2 b hb).trans e) f0 f1 f3 f4 f5
    obtain ⟨o, e, c, d⟩ := id st'
    exact ⟨u, rfl, go_of (s := { s with heap := h' }) e c d (by decide) ⟨x, H, I1, ru, ⟨rfl, fun ys hy => by rw [I.list_inj hy hq]; exact hx⟩, st', fun b hb => (hf b hb).1⟩⟩
  done := by
    intro X hP hw hK hc i pins s σ H E I hf st hg
    subst hP hw hK
    obtain ⟨xs, hq, hx⟩ := hg
    obtain ⟨its, rv, p, hz⟩ := I.list hq
    obtain ⟨f0, f1, f2, f3, f4, f5⟩ := hf it (by simp)
    have hl := rv.length
    exact wpAny_pyNext_list_end (I.ok.hd hc) st p.isList (by simp; omega) fun h' eb => ⟨rfl, I.turned (t' := s.toks) (fun b o hb e => eb b o hb e) f0 f1 f3 f4 f5⟩
  self := fun _ _ _ _ _ st h => wpAny_pyIter_listiter st h
theorem turn_tuple {P : Program} {w : World} {K : PySem.W.Frag} {tg : Expr} (a it : Addr) : Turn P w K tg (Itt K a) [it] it (fun i h => h.IsTupleIter it a i) where
  mem := by simp
  obj := fun i h st b hb => by
    have e : b = it := by simpa using hb
    subst e
    obtain ⟨o, e, c, d⟩ := st
    exact ⟨o, e, fun v z => by rw [d] at z; cases z⟩
  keep := fun i h h' st k => st.at fun o e => k it (by simp) o e
  item := by
    intro X hP hw hK hc i pins s σ H E I hf st hg
    subst hP hw hK
    obtain ⟨xs, x, hq, hx⟩ := hg
    obtain ⟨its, rv, p, hz⟩ := I.tuple hq
    obtain ⟨u, hu, ru⟩ := rv.get hx
    obtain ⟨f0, f1, f2, f3, f4, f5⟩ := hf it (by simp)
    refine wpAny_pyNext_tuple_item st (show s.heap.IsTuple a its.toArray from p) (x := u) (by simpa using hu) fun h' st' sb => ?_
    have I1 : Inv X pins σ H { s with heap := h' } := I.turned (t' := s.toks) (fun b o hb e => (sb.2 b hb).trans e) f0 f1 f3 f4 f5
    obtain ⟨o, e, c, d⟩ := id st'
    exact ⟨u, rfl, go_of (s := { s with heap := h' }) e c d (by decide) ⟨x, H, I1, ru, ⟨rfl, fun ys hy => by rw [I.tuple_inj hy hq]; exact hx⟩, st', fun b hb => (hf b hb).1⟩⟩
  done := by
    intro X hP hw hK hc i pins s σ H E I hf st hg
    subst hP hw hK
    obtain ⟨xs, hq, hx⟩ := hg
    obtain ⟨its, rv, p, hz⟩ := I.tuple hq
    obtain ⟨f0, f1, f2, f3, f4, f5⟩ := hf it (by simp)
    have hl := rv.length
    exact wpAny_pyNext_tuple_end (I.ok.hd hc) st (show s.heap.IsTuple a its.toArray from p) (by simp; omega) fun h' eb => ⟨rfl, I.turned (t' := s.toks) (fun b o hb e => eb b o hb e) f0 f1 f3 f4 f5⟩
  self := fun _ _ _ _ _ st h => wpAny_pyIter_tupleiter st h
theorem turn_range {P : Program} {w : World} {K : PySem.W.Frag} {tg : Expr} (it : Addr) (lo : Int) (n : Nat) : Turn P w K tg (Itr lo n) [it] it (fun i h => IsRangeIter h it (lo + (i : Nat) * 1) ((n : Int) - (i : Nat)) 1) where
  mem := by simp
  obj := fun i h st b hb => by
    have e : b = it := by simpa using hb
    subst e
    exact ⟨_, st, fun v z => by
      have z' : Data.fields _ = Data.cell v := z
      cases z'⟩
  keep := fun i h h' st k => k it (by simp) _ st
  item := by
    intro X hP hw hK hc i pins s σ H E I hf st hg
    subst hP hw hK
    obtain ⟨f0, f1, f2, f3, f4, f5⟩ := hf it (by simp)
    have W := Walks.range (prog := X.prog) (w := X.w) (I.ok.hd hc) it lo 1 n
    refine W.item i s _ _ hg st fun v h' tk hv st' kk => ?_
    obtain ⟨t, rfl⟩ := hv
    have I1 : Inv X pins σ H { s with heap := h', toks := tk } := I.turned (fun b o hb e => kk b o (by simpa using hb) e) f0 f1 f3 f4 f5
    refine ⟨_, rfl, go_of (s := { s with heap := h', toks := tk }) (n := "range_iterator") st' rfl rfl (by decide) ⟨.int (lo + i), H, I1, ⟨t, ?_⟩, ⟨rfl, rfl⟩, st', fun b hb => (hf b hb).1⟩⟩
    rw [Int.mul_one]
  done := by
    intro X hP hw hK hc i pins s σ H E I hf st hg
    subst hP hw hK
    obtain ⟨f0, f1, f2, f3, f4, f5⟩ := hf it (by simp)
    exact wpAny_pyNext_range_end (I.ok.hd hc) st (by have : n ≤ i := hg; omega) fun h' eb => ⟨rfl, I.turned (t' := s.toks) (fun b o hb e => eb b o hb e) f0 f1 f3 f4 f5⟩
  self := fun _ _ _ _ _ st h => wpAny_pyIter_rangeiter st h
end L2

namespace L2
open PySem PySem.Spec PyProof.Rows
section
variable {X : Cx} {tg : Expr}
def iList (K : PySem.W.Frag) (tl : TE) : TI := fun σ H R => tl σ H fun x H1 => ∃ a, x = .ref a ∧ (∃ xs, SqL K H1 a xs) ∧ R (Itl K a) H1
def iTup (K : PySem.W.Frag) (tl : TE) : TI := fun σ H R => tl σ H fun x H1 => ∃ a, x = .ref a ∧ (∃ xs, SqT K H1 a xs) ∧ R (Itt K a) H1
theorem pi_list {l : Expr} {tl : TE} (hl : PE X l tl) : PI X tg l (iList X.K tl) := by
  intro pins s σ H R I h
  refine thn (hl pins s σ H _ I h) fun v s1 ⟨x, H1, I1, r1, q1⟩ => ?_
  obtain ⟨a, e, ⟨xs, hq⟩, q⟩ := q1
  subst e
  cases r1
  obtain ⟨its, rv, p, hz⟩ := I1.list hq
  refine wpAny_pyIter_list p.isList ?_
  refine ⟨s1.heap.objs.size, [s1.heap.objs.size], _, _, H1, rfl, I1.kept (t' := s1.toks) fun b o e => Heap.get?_push_of_some _ e, turn_list a _, ⟨_, Heap.get?_push_size _ rfl, rfl, rfl⟩, fun b hb => ?_, q⟩
  have e : b = s1.heap.objs.size := by simpa using hb
  subst e
  exact I1.fpOk (Nat.le_refl _) (I1.hok.fresh (Nat.le_refl _))
theorem pi_tup {l : Expr} {tl : TE} (hl : PE X l tl) : PI X tg l (iTup X.K tl) := by
  intro pins s σ H R I h
  refine thn (hl pins s σ H _ I h) fun v s1 ⟨x, H1, I1, r1, q1⟩ => ?_
  obtain ⟨a, e, ⟨xs, hq⟩, q⟩ := q1
  subst e
  cases r1
  obtain ⟨its, rv, p, hz⟩ := I1.tuple hq
  refine wpAny_pyIter_tuple (show s1.heap.IsTuple a its.toArray from p) ?_
  refine ⟨s1.heap.objs.size, [s1.heap.objs.size], _, _, H1, rfl, I1.kept (t' := s1.toks) fun b o e => Heap.get?_push_of_some _ e, turn_tuple a _, ⟨_, Heap.get?_push_size _ rfl, rfl, rfl⟩, fun b hb => ?_, q⟩
  have e : b = s1.heap.objs.size := by simpa using hb
  subst e
  exact I1.fpOk (Nat.le_refl _) (I1.hok.fresh (Nat.le_refl _))
/-- a range object just made, walked -/
theorem range_it {pins : List (Addr × Obj)} {σ : St} {H : Hp} {s : Shared} {R : It → Hp → Prop} {E : Value → Shared → Prop} {lo hi : Int} {t u v : Tok} {tk : Nat} (I : Inv X pins σ H s) (h1 : -(2 ^ 62) ≤ lo) (h2 : lo < 2 ^ 62) (h3 : -(2 ^ 62) ≤ hi) (h4 : hi < 2 ^ 62)
    (q : R (Itr lo (hi - lo).toNat) H) : wpAny (model X.prog X.w) X.A (pyIter (.ref s.heap.objs.size)) (PIE X pins σ tg R) E { s with heap := s.heap.push { cls := .type "range", data := .fields #[.int lo t, .int hi u, .int 1 v] }, toks := tk } := by
  refine wpAny_pyIter_range (IsRange.new ..) (small_one h1 h2 h3 h4) ?_
  have I1 : Inv X pins σ H { s with heap := s.heap.push { cls := .type "range", data := .fields #[.int lo t, .int hi u, .int 1 v] }, toks := tk } := I.kept fun b o e => Heap.get?_push_of_some _ e
  refine ⟨(s.heap.push { cls := .type "range", data := .fields #[.int lo t, .int hi u, .int 1 v] }).objs.size, [(s.heap.push { cls := .type "range", data := .fields #[.int lo t, .int hi u, .int 1 v] }).objs.size], _, _, H, rfl,
    I1.kept (t' := tk) fun b o e => Heap.get?_push_of_some _ e, turn_range _ lo (hi - lo).toNat, ?_, fun b hb => ?_, q⟩
  · have e1 : lo + ((0 : Nat) : Int) * 1 = lo := by simp
    have e2 : (((hi - lo).toNat : Nat) : Int) - ((0 : Nat) : Int) = Builtin.Range.rangeSize lo hi 1 := by rw [rangeSize_one]; split <;> omega
    show IsRangeIter _ _ (lo + ((0 : Nat) : Int) * 1) ((((hi - lo).toNat : Nat) : Int) - ((0 : Nat) : Int)) 1
    rw [e1, e2]
    exact Heap.get?_push_size _ rfl
  · have e : b = (s.heap.push { cls := .type "range", data := .fields #[.int lo t, .int hi u, .int 1 v] }).objs.size := by simpa using hb
    subst e
    exact I1.fpOk (Nat.le_refl _) (I1.hok.fresh (Nat.le_refl _))
def iRng1 (ta : TA) : TI := fun σ H R => ta σ H fun vs H1 => ∃ j : Int, vs = [.int j] ∧ -(2 ^ 62) ≤ j ∧ j < 2 ^ 62 ∧ R (Itr 0 j.toNat) H1
def iRng2 (ta : TA) : TI := fun σ H R => ta σ H fun vs H1 => ∃ i j : Int, vs = [.int i, .int j] ∧ (-(2 ^ 62) ≤ i ∧ i < 2 ^ 62 ∧ -(2 ^ 62) ≤ j ∧ j < 2 ^ 62) ∧ R (Itr i (j - i).toNat) H1
theorem pi_range1 {a : Expr} {ta : TA} {p pos : Pos} (hg : Gl X "range") (hm : X.mg "range" = none) (ha : PA X [a] ta) (hs : starEach [a] X.env = [(false, eval a X.env)] := by rfl) : PI X tg (.Call (.Name "range" p) [a] [] pos) (iRng1 ta) := by
  intro pins s σ H R I h
  refine Call_ (ld_blt I hg hm boot_range (PyProof.Rows.callWith_type1 (thn (ha pos pins s σ H _ I h) fun us s1 ⟨vs, H1, I1, r1, q1⟩ => ?_) hs rfl))
  obtain ⟨j, e, q1, q2, q⟩ := q1
  subst e
  cases r1 with
  | cons r rr =>
    cases rr
    obtain ⟨t, rfl⟩ := r
    exact call_range_1 (range_it I1 (by omega) (by omega) q1 q2 (by simpa using q))
theorem pi_range2 {a b : Expr} {ta : TA} {p pos : Pos} (hg : Gl X "range") (hm : X.mg "range" = none) (ha : PA X [a, b] ta) (hs : starEach [a, b] X.env = [(false, eval a X.env), (false, eval b X.env)] := by rfl) (hs2 : starEach [b] X.env = [(false, eval b X.env)] := by rfl) :
    PI X tg (.Call (.Name "range" p) [a, b] [] pos) (iRng2 ta) := by
  intro pins s σ H R I h
  refine Call_ (ld_blt I hg hm boot_range (PyProof.Rows.callWith_type1 (thn (ha pos pins s σ H _ I h) fun us s1 ⟨vs, H1, I1, r1, q1⟩ => ?_) (by rw [hs, hs2]) (by rw [hs2]; rfl)))
  obtain ⟨i, j, e, ⟨q1, q2, q3, q4⟩, q⟩ := q1
  subst e
  cases r1 with
  | cons r rr =>
    cases rr with
    | cons r' rr =>
      cases rr
      obtain ⟨t, rfl⟩ := r
      obtain ⟨t', rfl⟩ := r'
      exact call_range_2 (range_it I1 q1 q2 q3 q4 q)

/-! ### for -/
/-- W: the invariant by the turn and a measure; N: what the body is to reach -/
def tFor (wi : TI) (g : TG) (tb : TS) : TS := fun D σ H => wi σ H fun J H1 => ∃ W : Nat → Nat → St → Hp → Prop, (∃ m, W 0 m σ H1) ∧ ∀ i m σ H, W i m σ H →
  (J.stop i H ∧ D.nx σ H) ∨ (J.go i H ∧ ∃ N : St → Hp → Prop, (∀ σ' H', N σ' H' → ∃ m', m' < m ∧ W (i + 1) m' σ' H') ∧ ∀ x H', J.yld i H x H' → g x σ H' fun σ2 H2 => tb { D with nx := N, ct := N, bk := D.nx } σ2 H2)
/-- the records at fp as they stand -/
def pinsAt (fp : List Addr) (h : Heap) : List (Addr × Obj) := fp.filterMap fun b => (h.get? b).map fun o => (b, o)
theorem mem_pinsAt {fp : List Addr} {h : Heap} {b : Addr} {o : Obj} (hb : b ∈ fp) (e : h.get? b = some o) : (b, o) ∈ pinsAt fp h := List.mem_filterMap.mpr ⟨b, hb, by rw [e]; rfl⟩
theorem of_pinsAt {fp : List Addr} {h : Heap} {p : Addr × Obj} (hp : p ∈ pinsAt fp h) : p.1 ∈ fp ∧ h.get? p.1 = some p.2 := by
  obtain ⟨b, hb, e⟩ := List.mem_filterMap.mp hp
  cases q : h.get? b with
  | none => rw [q] at e; cases e
  | some o =>
    rw [q] at e
    have e' : (b, o) = p := Option.some.inj e
    subst e'
    exact ⟨hb, q⟩
theorem Inv.pinned {pins : List (Addr × Obj)} {σ : St} {H : Hp} {s : Shared} {fp : List Addr} (I : Inv X pins σ H s) (hf : ∀ b ∈ fp, FpOk X pins H b) (ho : ∀ b ∈ fp, ∃ o, s.heap.get? b = some o ∧ ∀ v, o.data ≠ .cell v) : Inv X (pins ++ pinsAt fp s.heap) σ H s :=
  I.pins_of fun p hp => (List.mem_append.mp hp).elim (fun z => I.pin p (List.mem_append_right _ z)) fun z => by
    obtain ⟨hb, e⟩ := of_pinsAt z
    obtain ⟨f0, f1, f2, _⟩ := hf p.1 hb
    obtain ⟨o, e', d⟩ := ho p.1 hb
    rw [e] at e'; cases e'
    exact ⟨e, f0, f1, f2, d⟩
theorem Inv.unpinned {pins pl : List (Addr × Obj)} {σ : St} {H : Hp} {s : Shared} (I : Inv X (pins ++ pl) σ H s) : Inv X pins σ H s := I.pins_of fun p hp => I.pin p (List.mem_append_right _ (List.mem_append_left _ hp))
theorem ps_for {iter : Expr} {body : List Stmt} {wi : TI} {g : TG} {tb : TS} {pos : Pos} (hp : PassesOwn (model X.prog X.w) X.A X.env X.xe) (hc : X.calm = true) (hi : PI X tg iter wi) (hg : PG X tg g) (hb : PSs X body tb)
    (hs : ∀ x, foldedSetIterable iter X.env x = pure x := by intro _; rfl) : PS X (.For tg iter body [] pos) (tFor wi g tb) := by
  intro pins s σ H D I h
  refine wpAny_For (thn (hi pins s σ H _ I h) fun v s1 h1 => thn h1 fun itv s2 h2 => ?_) hs
  obtain ⟨it, fp, tn, J, H2, e, I2, T, st2, f2, W, ⟨m0, w0⟩, turn⟩ := h2
  subst e
  -- what stays true of the iterator's objects through the loop
  have stat : ∀ {H' : Hp}, (∀ b ∈ fp, H' b = none) → ∀ b ∈ fp, FpOk X pins H' b := fun hn b hb => ⟨hn b hb, (f2 b hb).2⟩
  refine codeAny_forLoop_any (fun n s' => ∃ i σ' H', Inv X pins σ' H' s' ∧ tn i s'.heap ∧ (∀ b ∈ fp, H' b = none) ∧ W i n σ' H') ?_ m0 ⟨0, σ, H2, I2, st2, fun b hb => (f2 b hb).1, w0⟩
  rintro n s3 ⟨i, σ3, H3, I3, st3, fr3, w3⟩
  rcases turn i n σ3 H3 w3 with ⟨stop, qn⟩ | ⟨go, N, hN, step⟩
  · refine wpAny_passesOwn hp (thn (T.done X rfl rfl rfl hc i pins s3 σ3 H3 X.xe I3 (stat fr3) st3 stop) fun r s4 ⟨hr, I4⟩ => ?_)
    subst hr
    exact wpAny_execs_nil ⟨σ3, H3, I4, qn⟩
  · refine wpAny_passesOwn hp (thn (T.item X rfl rfl rfl hc i pins s3 σ3 H3 X.xe I3 (stat fr3) st3 go) fun r s4 ⟨u, hr, h4⟩ => ?_)
    subst hr
    refine wpAny_passesOwn hp (thn h4 fun _ s5 ⟨x, H5, I5, r5, y5, st5, fr5⟩ => ?_)
    have I5' := I5.pinned (stat fr5) (T.obj _ _ st5)
    refine wpAny_passesOwn hp (thn (hg _ s5 σ3 H5 x u _ I5' r5 (step x H5 y5)) fun _ s6 ⟨σ6, H6, I6, q6⟩ => ?_)
    refine wpAny_passesOwn hp (thn (hb _ s6 σ6 H6 _ I6 q6) fun f s7 q7 => ?_)
    have again : ∀ {σ7 : St} {H7 : Hp}, Inv X (pins ++ pinsAt fp s5.heap) σ7 H7 s7 → N σ7 H7 → ∃ m, m < n ∧ ∃ i σ' H', Inv X pins σ' H' s7 ∧ tn i s7.heap ∧ (∀ b ∈ fp, H' b = none) ∧ W i m σ' H' := fun {σ7 H7} I7 n7 => by
      obtain ⟨m', hm, w7⟩ := hN σ7 H7 n7
      refine ⟨m', hm, i + 1, σ7, H7, I7.unpinned, T.keep _ _ _ st5 fun b hb o e => (I7.pin (b, o) (List.mem_append_right _ (List.mem_append_right _ (mem_pinsAt hb e)))).1, fun b hb => ?_, w7⟩
      obtain ⟨o, e, d⟩ := T.obj _ _ st5 b hb
      exact (I7.pin (b, o) (List.mem_append_right _ (List.mem_append_right _ (mem_pinsAt hb e)))).2.1
    cases f with
    | next => obtain ⟨σ7, H7, I7, n7⟩ := q7; exact again I7 n7
    | cont => obtain ⟨σ7, H7, I7, n7⟩ := q7; exact again I7 n7
    | brk => obtain ⟨σ7, H7, I7, q7⟩ := q7; exact ⟨σ7, H7, I7.unpinned, q7⟩
    | ret v => obtain ⟨x7, σ7, H7, I7, r7, q7⟩ := q7; exact ⟨x7, σ7, H7, I7.unpinned, r7, q7⟩
end

/-! ### the forms one uses -/
/-- over a list that the body leaves as it is -/
theorem for_list {K : PySem.W.Frag} {a : Addr} {xs : List V} {g : TG} {tb : TS} {D : Ends} {σ : St} {H : Hp} (Pv : Nat → St → Hp → Prop) (h0 : Pv 0 σ H) (hl : ∀ i σ H, i ≤ xs.length → Pv i σ H → SqL K H a xs)
    (hs : ∀ i x σ H, xs[i]? = some x → Pv i σ H → g x σ H fun σ2 H2 => tb { D with nx := Pv (i + 1), ct := Pv (i + 1), bk := D.nx } σ2 H2) (hd : ∀ σ H, Pv xs.length σ H → D.nx σ H) :
    ∃ W : Nat → Nat → St → Hp → Prop, (∃ m, W 0 m σ H) ∧ ∀ i m σ H, W i m σ H →
      ((Itl K a).stop i H ∧ D.nx σ H) ∨ ((Itl K a).go i H ∧ ∃ N : St → Hp → Prop, (∀ σ' H', N σ' H' → ∃ m', m' < m ∧ W (i + 1) m' σ' H') ∧ ∀ x H', (Itl K a).yld i H x H' → g x σ H' fun σ2 H2 => tb { D with nx := N, ct := N, bk := D.nx } σ2 H2) := by
  refine ⟨fun i m σ H => m = xs.length - i ∧ i ≤ xs.length ∧ Pv i σ H, ⟨xs.length, by simp, Nat.zero_le _, h0⟩, ?_⟩
  rintro i m σ H ⟨rfl, hi, p⟩
  have q := hl i σ H hi p
  by_cases hlt : i < xs.length
  · refine .inr ⟨⟨xs, xs[i], q, by simp [hlt]⟩, Pv (i + 1), fun σ' H' p' => ⟨xs.length - (i + 1), by omega, rfl, hlt, p'⟩, fun x H' y => ?_⟩
    obtain ⟨e, y⟩ := y
    subst e
    exact hs i x σ _ (y xs q) p
  · have e : i = xs.length := by omega
    subst e
    exact .inl ⟨⟨xs, q, Nat.le_refl _⟩, hd σ H p⟩
theorem for_tup {K : PySem.W.Frag} {a : Addr} {xs : List V} {g : TG} {tb : TS} {D : Ends} {σ : St} {H : Hp} (Pv : Nat → St → Hp → Prop) (h0 : Pv 0 σ H) (hl : ∀ i σ H, i ≤ xs.length → Pv i σ H → SqT K H a xs)
    (hs : ∀ i x σ H, xs[i]? = some x → Pv i σ H → g x σ H fun σ2 H2 => tb { D with nx := Pv (i + 1), ct := Pv (i + 1), bk := D.nx } σ2 H2) (hd : ∀ σ H, Pv xs.length σ H → D.nx σ H) :
    ∃ W : Nat → Nat → St → Hp → Prop, (∃ m, W 0 m σ H) ∧ ∀ i m σ H, W i m σ H →
      ((Itt K a).stop i H ∧ D.nx σ H) ∨ ((Itt K a).go i H ∧ ∃ N : St → Hp → Prop, (∀ σ' H', N σ' H' → ∃ m', m' < m ∧ W (i + 1) m' σ' H') ∧ ∀ x H', (Itt K a).yld i H x H' → g x σ H' fun σ2 H2 => tb { D with nx := N, ct := N, bk := D.nx } σ2 H2) := by
  refine ⟨fun i m σ H => m = xs.length - i ∧ i ≤ xs.length ∧ Pv i σ H, ⟨xs.length, by simp, Nat.zero_le _, h0⟩, ?_⟩
  rintro i m σ H ⟨rfl, hi, p⟩
  have q := hl i σ H hi p
  by_cases hlt : i < xs.length
  · refine .inr ⟨⟨xs, xs[i], q, by simp [hlt]⟩, Pv (i + 1), fun σ' H' p' => ⟨xs.length - (i + 1), by omega, rfl, hlt, p'⟩, fun x H' y => ?_⟩
    obtain ⟨e, y⟩ := y
    subst e
    exact hs i x σ _ (y xs q) p
  · have e : i = xs.length := by omega
    subst e
    exact .inl ⟨⟨xs, q, Nat.le_refl _⟩, hd σ H p⟩
theorem for_range {lo : Int} {n : Nat} {g : TG} {tb : TS} {D : Ends} {σ : St} {H : Hp} (Pv : Nat → St → Hp → Prop) (h0 : Pv 0 σ H)
    (hs : ∀ i σ H, i < n → Pv i σ H → g (.int (lo + i)) σ H fun σ2 H2 => tb { D with nx := Pv (i + 1), ct := Pv (i + 1), bk := D.nx } σ2 H2) (hd : ∀ σ H, Pv n σ H → D.nx σ H) :
    ∃ W : Nat → Nat → St → Hp → Prop, (∃ m, W 0 m σ H) ∧ ∀ i m σ H, W i m σ H →
      ((Itr lo n).stop i H ∧ D.nx σ H) ∨ ((Itr lo n).go i H ∧ ∃ N : St → Hp → Prop, (∀ σ' H', N σ' H' → ∃ m', m' < m ∧ W (i + 1) m' σ' H') ∧ ∀ x H', (Itr lo n).yld i H x H' → g x σ H' fun σ2 H2 => tb { D with nx := N, ct := N, bk := D.nx } σ2 H2) := by
  refine ⟨fun i m σ H => m = n - i ∧ i ≤ n ∧ Pv i σ H, ⟨n, by simp, Nat.zero_le _, h0⟩, ?_⟩
  rintro i m σ H ⟨rfl, hi, p⟩
  by_cases hlt : i < n
  · refine .inr ⟨hlt, Pv (i + 1), fun σ' H' p' => ⟨n - (i + 1), by omega, rfl, hlt, p'⟩, fun x H' y => ?_⟩
    obtain ⟨e, y⟩ := y
    subst e y
    exact hs i σ _ hlt p
  · have e : i = n := by omega
    subst e
    exact .inl ⟨Nat.le_refl _, hd σ H p⟩
/-- while, by a word and a measure of the state -/
theorem while_by {c : TT} {tb : TS} {D : Ends} {σ : St} {H : Hp} (Pv : St → Hp → Prop) (μ : St → Hp → Nat) (h0 : Pv σ H)
    (hs : ∀ σ H, Pv σ H → c σ H fun b H1 => if b = true then tb { D with nx := fun σ' H' => Pv σ' H' ∧ μ σ' H' < μ σ H, ct := fun σ' H' => Pv σ' H' ∧ μ σ' H' < μ σ H, bk := D.nx } σ H1 else D.nx σ H1)
    (mono : ∀ σ H Q Q', (∀ b H1, Q b H1 → Q' b H1) → c σ H Q → c σ H Q') : tWhile c tb D σ H := by
  refine ⟨fun m σ H => m = μ σ H ∧ Pv σ H, ⟨_, rfl, h0⟩, ?_⟩
  rintro m σ H ⟨rfl, p⟩
  refine mono σ H _ _ (fun b H1 q => ?_) (hs σ H p)
  cases b with
  | true => exact ⟨_, fun σ' H' ⟨p', l⟩ => ⟨_, l, rfl, p'⟩, q⟩
  | false => exact q
end L2

namespace L2
open PySem PySem.Spec PyProof.Rows

abbrev R2 := V → V → Hp → VK → Prop
/-- a two-place operation on values: f is binaryOp op, inplaceOp op or compareOp op -/
def OpR (X : Cx) (f : Value → Value → Sem Value) (r : R2) : Prop :=
  ∀ (pins : List (Addr × Obj)) (s : Shared) (σ : St) (H : Hp) (x y : V) (v u : Value) (Q : VK), Inv X pins σ H s → RelV x v → RelV y u → r x y H Q →
    wpAny (model X.prog X.w) X.A (f v u) (EP X pins σ Q) X.xe s
/-- a one-place operation -/
def UnR (X : Cx) (f : Value → Sem Value) (r : V → Hp → VK → Prop) : Prop :=
  ∀ (pins : List (Addr × Obj)) (s : Shared) (σ : St) (H : Hp) (x : V) (v : Value) (Q : VK), Inv X pins σ H s → RelV x v → r x H Q →
    wpAny (model X.prog X.w) X.A (f v) (EP X pins σ Q) X.xe s
/-- a call of a value that is known (a builtin, a type) with values -/
def CallR (X : Cx) (f : Value) (r : List V → Hp → VK → Prop) : Prop :=
  ∀ (pins : List (Addr × Obj)) (s : Shared) (σ : St) (H : Hp) (xs : List V) (us : List Value) (Q : VK), Inv X pins σ H s → Vals xs us → r xs H Q →
    wpAny (model X.prog X.w) X.A (call f us) (EP X pins σ Q) X.xe s
/-- a value's truth -/
def TruR (X : Cx) (r : V → Hp → (Bool → Hp → Prop) → Prop) : Prop :=
  ∀ (pins : List (Addr × Obj)) (s : Shared) (σ : St) (H : Hp) (x : V) (v : Value) (Q : Bool → Hp → Prop), Inv X pins σ H s → RelV x v → r x H Q →
    wpAny (model X.prog X.w) X.A (truthy v) (TP X pins σ Q) X.xe s

def tOp (r : R2) (ta tb : TE) : TE := fun σ H Q => ta σ H fun x H1 => tb σ H1 fun y H2 => r x y H2 Q
def tUn (r : V → Hp → VK → Prop) (ta : TE) : TE := fun σ H Q => ta σ H fun x H1 => r x H1 Q
/-- ints in, under C, and a value out -/
def rI (C : Int → Int → Prop) (g : Int → Int → V) : R2 := fun x y H Q => ∃ i j, x = .int i ∧ y = .int j ∧ C i j ∧ Q (g i j) H
def rI0 (g : Int → Int → V) : R2 := fun x y H Q => ∃ i j, x = .int i ∧ y = .int j ∧ Q (g i j) H
def rU (g : Int → V) : V → Hp → VK → Prop := fun x H Q => ∃ i, x = .int i ∧ Q (g i) H

section
variable {X : Cx} {a b c : Expr} {ta tb tc : TE} {pos : Pos}

theorem binT (ha : PE X a ta) (hb : PE X b tb) {pins : List (Addr × Obj)} {s : Shared} {σ : St} {H : Hp} {R : V → V → Hp → Prop} (I : Inv X pins σ H s)
    (h : ta σ H fun x H1 => tb σ H1 fun y H2 => R x y H2) {Q : Value → Shared → Prop} {f : Value → Value → Sem Value}
    (hf : ∀ v u s2 x y H2, Inv X pins σ H2 s2 → RelV x v → RelV y u → R x y H2 → wpAny (model X.prog X.w) X.A (f v u) Q X.xe s2) :
    wpAny (model X.prog X.w) X.A (eval a X.env) (fun v s₁ => wpAny (model X.prog X.w) X.A (eval b X.env) (fun u s₂ => wpAny (model X.prog X.w) X.A (f v u) Q X.xe s₂) X.xe s₁) X.xe s := by
  refine thn (ha pins s σ H _ I h) fun v s1 ⟨x, H1, I1, r1, q1⟩ => ?_
  refine thn (hb pins s1 σ H1 _ I1 q1) fun u s2 ⟨y, H2, I2, r2, q2⟩ => ?_
  exact hf v u s2 x y H2 I2 r1 r2 q2

theorem pe_op {op : Operator} {r : R2} (ho : OpR X (binaryOp op) r) (ha : PE X a ta) (hb : PE X b tb) : PE X (.BinOp a op b pos) (tOp r ta tb) := by
  intro pins s σ H Q I h
  exact wpAny_BinOp (binT ha hb I h fun v u s2 x y H2 I2 rx ry q => ho pins s2 σ H2 x y v u Q I2 rx ry q)
theorem pe_un {op : UnaryOp} {r : V → Hp → VK → Prop} (ho : UnR X (unaryOp op) r) (ha : PE X a ta) : PE X (.UnaryOp op a pos) (tUn r ta) := by
  intro pins s σ H Q I h
  exact UnaryOp_ (thn (ha pins s σ H _ I h) fun v s1 ⟨x, H1, I1, r1, q1⟩ => ho pins s1 σ H1 x v Q I1 r1 q1)
/-- a op= e at a name: the name's slot i -/
theorem augR {op : Operator} {r : R2} (ho : OpR X (inplaceOp op) r) {pins : List (Addr × Obj)} {s : Shared} {σ : St} {H : Hp} {x y : V} {v u : Value} {Q : VK} (I : Inv X pins σ H s)
    (rx : RelV x v) (ry : RelV y u) (q : r x y H Q) : wpAny (model X.prog X.w) X.A (inplaceOp op v u) (EP X pins σ Q) X.xe s := ho pins s σ H x y v u Q I rx ry q

/-! ### ints -/
theorem opI {f : Value → Value → Sem Value} {C : Int → Int → Prop} {g : Int → Int → Int}
    (rule : ∀ (i j : Int) (t u : Tok) (s : Shared) (Q : Value → Shared → Prop) (E : Value → Shared → Prop), C i j → Q (.int (g i j) s.toks) { s with toks := s.toks + 1 } → wpAny (model X.prog X.w) X.A (f (.int i t) (.int j u)) Q E s) :
    OpR X f (rI C fun i j => .int (g i j)) := by
  intro pins s σ H x y v u Q I rx ry h
  obtain ⟨i, j, rfl, rfl, hc, q⟩ := h
  obtain ⟨t, rfl⟩ := rx
  obtain ⟨t', rfl⟩ := ry
  exact rule i j t t' s _ _ hc ⟨.int (g i j), H, I.tok _, ⟨_, rfl⟩, q⟩
theorem opI0 {f : Value → Value → Sem Value} {g : Int → Int → Int}
    (rule : ∀ (i j : Int) (t u : Tok) (s : Shared) (Q : Value → Shared → Prop) (E : Value → Shared → Prop), Q (.int (g i j) s.toks) { s with toks := s.toks + 1 } → wpAny (model X.prog X.w) X.A (f (.int i t) (.int j u)) Q E s) :
    OpR X f (rI0 fun i j => .int (g i j)) := by
  intro pins s σ H x y v u Q I rx ry h
  obtain ⟨i, j, rfl, rfl, q⟩ := h
  obtain ⟨t, rfl⟩ := rx
  obtain ⟨t', rfl⟩ := ry
  exact rule i j t t' s _ _ ⟨.int (g i j), H, I.tok _, ⟨_, rfl⟩, q⟩
theorem opB0 {f : Value → Value → Sem Value} {g : Int → Int → Bool}
    (rule : ∀ (i j : Int) (t u : Tok) (s : Shared) (Q : Value → Shared → Prop) (E : Value → Shared → Prop), Q (.bool (g i j)) s → wpAny (model X.prog X.w) X.A (f (.int i t) (.int j u)) Q E s) :
    OpR X f (rI0 fun i j => .bl (g i j)) := by
  intro pins s σ H x y v u Q I rx ry h
  obtain ⟨i, j, rfl, rfl, q⟩ := h
  obtain ⟨t, rfl⟩ := rx
  obtain ⟨t', rfl⟩ := ry
  exact rule i j t t' s _ _ ⟨.bl (g i j), H, I, rfl, q⟩

def CDiv (i j : Int) : Prop := 0 < j ∧ j < 1073741824
def CDivN (i j : Int) : Prop := j ≠ 0 ∧ j.natAbs < 1073741824
def CPow (i j : Int) : Prop := 0 ≤ j ∧ j ≤ 1000000 ∧ i.natAbs < 2 ^ 64
def CMul (i j : Int) : Prop := (-(2 ^ 64) < i ∧ i < 2 ^ 64) ∨ (-(2 ^ 64) < j ∧ j < 2 ^ 64)
theorem CMul.ok {i j : Int} (h : CMul i j) : IntMulOk i j := by
  rcases h with ⟨h1, h2⟩ | ⟨h1, h2⟩
  · exact .of_left (intBits_le_64 h1 h2)
  · exact .of_right (intBits_le_64 h1 h2)
theorem two_pow_nn (k : Nat) : (0 : Int) ≤ 2 ^ k := by
  rw [two_pow_cast]
  exact Int.natCast_nonneg _

theorem op_add : OpR X (binaryOp .Add) (rI0 fun i j => .int (i + j)) := opI0 fun _ _ _ _ _ _ _ q => add_int q
theorem op_sub : OpR X (binaryOp .Sub) (rI0 fun i j => .int (i - j)) := opI0 fun _ _ _ _ _ _ _ q => sub_int q
theorem op_mul : OpR X (binaryOp .Mult) (rI CMul fun i j => .int (i * j)) := opI fun _ _ _ _ _ _ _ hc q => mul_int q hc.ok
/-- // by a positive divisor -/
theorem op_fdiv : OpR X (binaryOp .FloorDiv) (rI CDiv fun i j => .int (i / j)) := opI fun i j _ _ _ _ _ hc q => by
  have h1 : (0 : Int) < j := hc.1
  have h2 : j < 1073741824 := hc.2
  exact floordiv_int (by omega) (by rw [Int.fdiv_eq_ediv_of_nonneg i (by omega)]; exact q) (.inl (PyProof.noPylong_small (by omega)))
theorem op_fdivN : OpR X (binaryOp .FloorDiv) (rI CDivN fun i j => .int (i.fdiv j)) := opI fun _ _ _ _ _ _ _ hc q => floordiv_int hc.1 q (.inl (PyProof.noPylong_small hc.2))
/-- % by a positive divisor of any size -/
theorem op_mod : OpR X (binaryOp .Mod) (rI (fun _ j => 0 < j) fun i j => .int (i % j)) := opI fun i j _ _ _ _ _ hc q => by
  have h1 : (0 : Int) < j := hc
  exact mod_int' (by omega) (by rw [Int.fmod_eq_emod_of_nonneg i (by omega)]; exact q)
theorem op_modN : OpR X (binaryOp .Mod) (rI (fun _ j => j ≠ 0) fun i j => .int (i.fmod j)) := opI fun _ _ _ _ _ _ _ hc q => mod_int' hc q
theorem op_pow : OpR X (binaryOp .Pow) (rI CPow fun i j => .int (i ^ j.toNat)) := opI fun _ _ _ _ _ _ _ hc q => pow_int_small hc.1 hc.2.1 hc.2.2 q
theorem op_shl : OpR X (binaryOp .LShift) (rI CPow fun i j => .int (i * 2 ^ j.toNat)) := opI fun _ _ _ _ _ _ _ hc q => lshift_int_small hc.1 hc.2.1 hc.2.2 q
theorem op_shr : OpR X (binaryOp .RShift) (rI (fun _ j => 0 ≤ j) fun i j => .int (i / 2 ^ j.toNat)) := opI fun i j _ _ _ _ _ hc q =>
  rshift_int hc (by rw [Int.fdiv_eq_ediv_of_nonneg i (two_pow_nn _)]; exact q)
theorem op_and : OpR X (binaryOp .BitAnd) (rI0 fun i j => .int (Builtin.bitAnd i j)) := opI0 fun _ _ _ _ _ _ _ q => and_int q
theorem op_or : OpR X (binaryOp .BitOr) (rI0 fun i j => .int (Builtin.bitOr i j)) := opI0 fun _ _ _ _ _ _ _ q => or_int q
theorem op_xor : OpR X (binaryOp .BitXor) (rI0 fun i j => .int (Builtin.bitXor i j)) := opI0 fun _ _ _ _ _ _ _ q => xor_int q

theorem iop_add : OpR X (inplaceOp .Add) (rI0 fun i j => .int (i + j)) := opI0 fun _ _ _ _ _ _ _ q => iadd_int q
theorem iop_sub : OpR X (inplaceOp .Sub) (rI0 fun i j => .int (i - j)) := opI0 fun _ _ _ _ _ _ _ q => isub_int q
theorem iop_mul : OpR X (inplaceOp .Mult) (rI CMul fun i j => .int (i * j)) := opI fun _ _ _ _ _ _ _ hc q => imul_int q hc.ok
theorem iop_fdiv : OpR X (inplaceOp .FloorDiv) (rI CDiv fun i j => .int (i / j)) := opI fun i j _ _ _ _ _ hc q => by
  have h1 : (0 : Int) < j := hc.1
  have h2 : j < 1073741824 := hc.2
  exact ifloordiv_int (by omega) (by rw [Int.fdiv_eq_ediv_of_nonneg i (by omega)]; exact q) (.inl (PyProof.noPylong_small (by omega)))
theorem iop_mod : OpR X (inplaceOp .Mod) (rI (fun _ j => 0 < j) fun i j => .int (i % j)) := opI fun i j _ _ _ _ _ hc q => by
  have h1 : (0 : Int) < j := hc
  exact imod_int (by omega) (by rw [Int.fmod_eq_emod_of_nonneg i (by omega)]; exact q)
theorem iop_shl : OpR X (inplaceOp .LShift) (rI CPow fun i j => .int (i * 2 ^ j.toNat)) := opI fun _ _ _ _ _ _ _ hc q => ilshift_int_small hc.1 hc.2.1 hc.2.2 q
theorem iop_shr : OpR X (inplaceOp .RShift) (rI (fun _ j => 0 ≤ j) fun i j => .int (i / 2 ^ j.toNat)) := opI fun i j _ _ _ _ _ hc q =>
  irshift_int hc (by rw [Int.fdiv_eq_ediv_of_nonneg i (two_pow_nn _)]; exact q)
theorem iop_and : OpR X (inplaceOp .BitAnd) (rI0 fun i j => .int (Builtin.bitAnd i j)) := opI0 fun _ _ _ _ _ _ _ q => iand_int q
theorem iop_or : OpR X (inplaceOp .BitOr) (rI0 fun i j => .int (Builtin.bitOr i j)) := opI0 fun _ _ _ _ _ _ _ q => ior_int q
theorem iop_xor : OpR X (inplaceOp .BitXor) (rI0 fun i j => .int (Builtin.bitXor i j)) := opI0 fun _ _ _ _ _ _ _ q => ixor_int q

theorem unI {f : Value → Sem Value} {g : Int → Int}
    (rule : ∀ (i : Int) (t : Tok) (s : Shared) (Q : Value → Shared → Prop) (E : Value → Shared → Prop), Q (.int (g i) s.toks) { s with toks := s.toks + 1 } → wpAny (model X.prog X.w) X.A (f (.int i t)) Q E s) :
    UnR X f (rU fun i => .int (g i)) := by
  intro pins s σ H x v Q I rx h
  obtain ⟨i, rfl, q⟩ := h
  obtain ⟨t, rfl⟩ := rx
  exact rule i t s _ _ ⟨.int (g i), H, I.tok _, ⟨_, rfl⟩, q⟩
theorem un_neg : UnR X (unaryOp .USub) (rU fun i => .int (-i)) := unI fun _ _ _ _ _ q => neg_int q
theorem un_inv : UnR X (unaryOp .Invert) (rU fun i => .int (Builtin.bitNot i)) := unI fun _ _ _ _ _ q => invert_int q

/-! ### bools among ints: n += (a < b) -/
theorem op_add_ib : OpR X (binaryOp .Add) (fun x y H Q => ∃ i k, x = .int i ∧ y = .bl k ∧ Q (.int (i + b2i k)) H) := by
  intro pins s σ H x y v u Q I rx ry h
  obtain ⟨i, k, rfl, rfl, q⟩ := h
  obtain ⟨t, rfl⟩ := rx
  cases ry
  exact add_int_bool ⟨.int (i + b2i k), H, I.tok _, ⟨_, rfl⟩, q⟩
end

/-! ### comparisons -/
/-- the scalars that == tells apart as data does -/
def scal : V → V → Bool
  | .non, .non => true | .non, .int _ => true | .int _, .non => true | .non, .bl _ => true | .bl _, .non => true | .non, .str _ => true | .str _, .non => true
  | .int _, .int _ => true | .bl _, .bl _ => true | .str _, .str _ => true | .byt _, .byt _ => true
  | .int _, .str _ => true | .str _, .int _ => true | .bl _, .str _ => true | .str _, .bl _ => true
  | _, _ => false
def rEq : R2 := fun x y H Q => scal x y = true ∧ Q (.bl (decide (x = y))) H
def rNe : R2 := fun x y H Q => scal x y = true ∧ Q (.bl (!decide (x = y))) H

theorem dec_int {i j : Int} : decide (V.int i = V.int j) = (i == j) := by
  rw [Bool.eq_iff_iff]
  simp
theorem dec_bl {i j : Bool} : decide (V.bl i = V.bl j) = (i == j) := by
  rw [Bool.eq_iff_iff]
  simp
theorem dec_str {i j : Str} : decide (V.str i = V.str j) = (i == j) := by
  rw [Bool.eq_iff_iff]
  simp
theorem dec_byt {i j : Array UInt8} : decide (V.byt i = V.byt j) = (i.toList == j.toList) := by
  rw [Bool.eq_iff_iff]
  cases i
  cases j
  simp

section
variable {X : Cx} {a b c : Expr} {ta tb tc : TE} {pos : Pos}
theorem fin_bl {pins : List (Addr × Obj)} {σ : St} {H : Hp} {s : Shared} {Q : VK} {k k' : Bool} (I : Inv X pins σ H s) (q : Q (.bl k) H) (e : k = k') : EP X pins σ Q (.bool k') s := by
  subst e
  exact ⟨.bl k, H, I, rfl, q⟩
theorem op_eq : OpR X (compareOp .Eq) rEq := by
  intro pins s σ H x y v u Q I rx ry h
  obtain ⟨hs, q⟩ := h
  cases x with
  | non =>
    cases rx
    cases y with
    | non => cases ry; exact PySem.EqNone.eq_none_none (fin_bl I q (by simp))
    | bl j => cases ry; exact PySem.EqNone.eq_none_bool (fin_bl I q (by simp))
    | int j => obtain ⟨t', rfl⟩ := ry; exact PySem.EqNone.eq_none_int (fin_bl I q (by simp))
    | str j => obtain ⟨t', rfl⟩ := ry; exact PySem.EqNone.eq_none_str (fin_bl I q (by simp))
    | _ => exact absurd (show false = true from hs) Bool.false_ne_true
  | bl i =>
    cases rx
    cases y with
    | non => cases ry; exact PySem.EqNone.eq_bool_none (fin_bl I q (by simp))
    | bl j => cases ry; exact eq_bool (fin_bl I q dec_bl)
    | str j => obtain ⟨t', rfl⟩ := ry; exact PySem.EqMixed.eq_bool_str (fin_bl I q (by simp))
    | _ => exact absurd (show false = true from hs) Bool.false_ne_true
  | int i =>
    obtain ⟨t, rfl⟩ := rx
    cases y with
    | non => cases ry; exact PySem.EqNone.eq_int_none (fin_bl I q (by simp))
    | int j => obtain ⟨t', rfl⟩ := ry; exact eq_int (fin_bl I q dec_int)
    | str j => obtain ⟨t', rfl⟩ := ry; exact PySem.EqMixed.eq_int_str (fin_bl I q (by simp))
    | _ => exact absurd (show false = true from hs) Bool.false_ne_true
  | str i =>
    obtain ⟨t, rfl⟩ := rx
    cases y with
    | non => cases ry; exact PySem.EqNone.eq_str_none (fin_bl I q (by simp))
    | bl j => cases ry; exact PySem.EqMixed.eq_str_bool (fin_bl I q (by simp))
    | int j => obtain ⟨t', rfl⟩ := ry; exact PySem.EqMixed.eq_str_int (fin_bl I q (by simp))
    | str j => obtain ⟨t', rfl⟩ := ry; exact eq_str (fin_bl I q dec_str)
    | _ => exact absurd (show false = true from hs) Bool.false_ne_true
  | byt i =>
    obtain ⟨t, rfl⟩ := rx
    cases y with
    | byt j => obtain ⟨t', rfl⟩ := ry; exact PySem.W.eq_bytes (fin_bl I q dec_byt)
    | _ => exact absurd (show false = true from hs) Bool.false_ne_true
  | _ => cases y <;> exact absurd (show false = true from hs) Bool.false_ne_true
theorem op_ne : OpR X (compareOp .NotEq) rNe := by
  intro pins s σ H x y v u Q I rx ry h
  obtain ⟨hs, q⟩ := h
  cases x with
  | non =>
    cases rx
    cases y with
    | non => cases ry; exact PySem.EqNone.ne_none_none (fin_bl I q (by simp))
    | bl j => cases ry; exact PySem.EqNone.ne_none_bool (fin_bl I q (by simp))
    | int j => obtain ⟨t', rfl⟩ := ry; exact PySem.EqNone.ne_none_int (fin_bl I q (by simp))
    | str j => obtain ⟨t', rfl⟩ := ry; exact PySem.EqNone.ne_none_str (fin_bl I q (by simp))
    | _ => exact absurd (show false = true from hs) Bool.false_ne_true
  | bl i =>
    cases rx
    cases y with
    | non => cases ry; exact PySem.EqNone.ne_bool_none (fin_bl I q (by simp))
    | bl j => cases ry; exact ne_bool (fin_bl I q (congrArg not dec_bl))
    | str j => obtain ⟨t', rfl⟩ := ry; exact PySem.EqMixed.ne_bool_str (fin_bl I q (by simp))
    | _ => exact absurd (show false = true from hs) Bool.false_ne_true
  | int i =>
    obtain ⟨t, rfl⟩ := rx
    cases y with
    | non => cases ry; exact PySem.EqNone.ne_int_none (fin_bl I q (by simp))
    | int j => obtain ⟨t', rfl⟩ := ry; exact ne_int (fin_bl I q (congrArg not dec_int))
    | str j => obtain ⟨t', rfl⟩ := ry; exact PySem.EqMixed.ne_int_str (fin_bl I q (by simp))
    | _ => exact absurd (show false = true from hs) Bool.false_ne_true
  | str i =>
    obtain ⟨t, rfl⟩ := rx
    cases y with
    | non => cases ry; exact PySem.EqNone.ne_str_none (fin_bl I q (by simp))
    | bl j => cases ry; exact PySem.EqMixed.ne_str_bool (fin_bl I q (by simp))
    | int j => obtain ⟨t', rfl⟩ := ry; exact PySem.EqMixed.ne_str_int (fin_bl I q (by simp))
    | str j => obtain ⟨t', rfl⟩ := ry; exact ne_str (fin_bl I q (congrArg not dec_str))
    | _ => exact absurd (show false = true from hs) Bool.false_ne_true
  | byt i =>
    obtain ⟨t, rfl⟩ := rx
    cases y with
    | byt j => obtain ⟨t', rfl⟩ := ry; exact PySem.W.ne_bytes (fin_bl I q (congrArg not dec_byt))
    | _ => exact absurd (show false = true from hs) Bool.false_ne_true
  | _ => cases y <;> exact absurd (show false = true from hs) Bool.false_ne_true

theorem op_lt : OpR X (compareOp .Lt) (rI0 fun i j => .bl (decide (i < j))) := opB0 fun _ _ _ _ _ _ _ q => lt_int q
theorem op_le : OpR X (compareOp .LtE) (rI0 fun i j => .bl (decide (i ≤ j))) := opB0 fun _ _ _ _ _ _ _ q => le_int q
theorem op_gt : OpR X (compareOp .Gt) (rI0 fun i j => .bl (decide (j < i))) := opB0 fun _ _ _ _ _ _ _ q => gt_int q
theorem op_ge : OpR X (compareOp .GtE) (rI0 fun i j => .bl (decide (j ≤ i))) := opB0 fun _ _ _ _ _ _ _ q => ge_int q
theorem op_lt_str : OpR X (compareOp .Lt) (fun x y H Q => ∃ i j, x = .str i ∧ y = .str j ∧ Q (.bl (decide (i.cps.toList < j.cps.toList))) H) := by
  intro pins s σ H x y v u Q I rx ry h
  obtain ⟨i, j, rfl, rfl, q⟩ := h
  obtain ⟨t, rfl⟩ := rx
  obtain ⟨t', rfl⟩ := ry
  exact lt_str (fin_bl I q rfl)
/-- the one string within the other -/
theorem op_in_str : OpR X (compareOp .In) (fun x y H Q => ∃ i j, x = .str i ∧ y = .str j ∧ Q (.bl (!(Builtin.Str.occurrences j i 0 j.length 1).isEmpty)) H) := by
  intro pins s σ H x y v u Q I rx ry h
  obtain ⟨i, j, rfl, rfl, q⟩ := h
  obtain ⟨t, rfl⟩ := rx
  obtain ⟨t', rfl⟩ := ry
  exact in_str (fin_bl I q rfl)

/-- is None, is not None: the right side a value none -/
theorem op_isN : OpR X (compareOp .Is) (fun x y H Q => y = .non ∧ Q (.bl (decide (x = .non))) H) := by
  intro pins s σ H x y v u Q I rx ry h
  obtain ⟨rfl, q⟩ := h
  cases ry
  refine is_none_gen (fin_bl I q ?_)
  cases x <;> first
    | (cases rx; rfl)
    | (obtain ⟨t, rfl⟩ := rx; rfl)
theorem op_notN : OpR X (compareOp .IsNot) (fun x y H Q => y = .non ∧ Q (.bl (!decide (x = .non))) H) := by
  intro pins s σ H x y v u Q I rx ry h
  obtain ⟨rfl, q⟩ := h
  cases ry
  refine isnot_none_gen (fin_bl I q ?_)
  cases x <;> first
    | (cases rx; rfl)
    | (obtain ⟨t, rfl⟩ := rx; rfl)

theorem op_notin_str : OpR X (compareOp .NotIn) (fun x y H Q => ∃ i j, x = .str i ∧ y = .str j ∧ Q (.bl (!(!(Builtin.Str.occurrences j i 0 j.length 1).isEmpty))) H) := by
  intro pins s σ H x y v u Q I rx ry h
  obtain ⟨i, j, rfl, rfl, q⟩ := h
  obtain ⟨t, rfl⟩ := rx
  obtain ⟨t', rfl⟩ := ry
  exact notIn_str (fin_bl I q rfl)
/-- is, is not of two objects that are tracked lists or instances -/
def isObj : HO → Bool
  | .lst _ => true
  | .ins _ _ _ => true
  | _ => false
theorem obj_there {pins : List (Addr × Obj)} {s : Shared} {σ : St} {H : Hp} {a : Addr} {o : HO} (I : Inv X pins σ H s) (h : H a = some o) (p : isObj o = true) : ∃ ob, s.heap.get? a = some ob ∧ ob.cls ≠ .type "tuple" := by
  cases o with
  | lst xs =>
    obtain ⟨_, its, n, _, e⟩ : xs.length ≤ sizeLine ∧ ∃ (its : List Value) (n : Nat), Vals xs its ∧ s.heap.get? a = some { cls := .type "list", data := .seq its.toArray n } := I.hok a _ h
    exact ⟨_, e, (by show Value.type "list" ≠ .type "tuple"; decide +kernel)⟩
  | ins C dx fs =>
    have x := I.hok a _ h
    obtain ⟨_, _, _, e, _⟩ := x
    exact ⟨_, e, (by show Value.ref C ≠ .type "tuple"; exact fun z => by cases z)⟩
  | _ => exact absurd (show false = true from p) Bool.false_ne_true
theorem op_is_ref : OpR X (compareOp .Is) (fun x y H Q => ∃ a b oa ob, x = .ref a ∧ y = .ref b ∧ H a = some oa ∧ isObj oa = true ∧ H b = some ob ∧ isObj ob = true ∧ Q (.bl (decide (a = b))) H) := by
  intro pins s σ H x y v u Q I rx ry h
  obtain ⟨a, b, oa, ob, rfl, rfl, ha, pa, hb, pb, q⟩ := h
  cases rx
  cases ry
  obtain ⟨o1, e1, n1⟩ := obj_there I ha pa
  obtain ⟨o2, e2, _⟩ := obj_there I hb pb
  by_cases z : a = b
  · subst z
    exact wpAny_is_ref_self (fin_bl I q (by simp))
  · exact wpAny_is_ref_other z e1 e2 n1 (fin_bl I q (by simp [z]))
theorem op_isnot_ref : OpR X (compareOp .IsNot) (fun x y H Q => ∃ a b oa ob, x = .ref a ∧ y = .ref b ∧ H a = some oa ∧ isObj oa = true ∧ H b = some ob ∧ isObj ob = true ∧ Q (.bl (!decide (a = b))) H) := by
  intro pins s σ H x y v u Q I rx ry h
  obtain ⟨a, b, oa, ob, rfl, rfl, ha, pa, hb, pb, q⟩ := h
  cases rx
  cases ry
  obtain ⟨o1, e1, n1⟩ := obj_there I ha pa
  obtain ⟨o2, e2, _⟩ := obj_there I hb pb
  by_cases z : a = b
  · subst z
    exact wpAny_isNot_ref_self (fin_bl I q (by simp))
  · exact wpAny_isNot_ref_other z e1 e2 n1 (fin_bl I q (by simp [z]))

/-- two rules for one operation: by cases -/
theorem OpR.or {f : Value → Value → Sem Value} {r r' : R2} (h : OpR X f r) (h' : OpR X f r') : OpR X f (fun x y H Q => r x y H Q ∨ r' x y H Q) := by
  intro pins s σ H x y v u Q I rx ry q
  rcases q with q | q
  · exact h pins s σ H x y v u Q I rx ry q
  · exact h' pins s σ H x y v u Q I rx ry q

theorem nomark (b : Expr) {op : CmpOp} (h : op ≠ .In := by decide) (h2 : op ≠ .NotIn := by decide) : behindInMarks op b = false := by
  have e1 : (op == CmpOp.In) = false := by cases op <;> first | rfl | exact absurd rfl h
  have e2 : (op == CmpOp.NotIn) = false := by cases op <;> first | rfl | exact absurd rfl h2
  cases b <;> simp [behindInMarks, e1, e2]
/-- a comparison as a value; hm: nomark b, or (for in, not in) by with_unfolding_all rfl -/
theorem pe_cmpR {op : CmpOp} {r : R2} (ho : OpR X (compareOp op) r) (ha : PE X a ta) (hb : PE X b tb) (hm : behindInMarks op b = false) : PE X (.Compare a [op] [b] pos) (tOp r ta tb) := by
  intro pins s σ H Q I h
  exact wpAny_Compare1 (binT ha hb I h fun v u s2 x y H2 I2 rx ry q => ho pins s2 σ H2 x y v u Q I2 rx ry q) hm
/-- a reading of a value as a test -/
def tTest (t : TE) : TT := fun σ H Q => t σ H fun x H' => ∃ k, x = .bl k ∧ Q k H'
theorem pt_cmpR {op : CmpOp} {r : R2} (ho : OpR X (compareOp op) r) (ha : PE X a ta) (hb : PE X b tb) (hm : behindInMarks op b = false) : PT X (.Compare a [op] [b] pos) (tTest (tOp r ta tb)) := by
  intro pins s σ H Q I h
  refine wpAny_isTrue_Compare1 (thn (ha pins s σ H _ I h) fun v s1 ⟨x, H1, I1, r1, q1⟩ => thn (hb pins s1 σ H1 _ I1 q1) fun u s2 ⟨y, H2, I2, r2, q2⟩ =>
    thn (ho pins s2 σ H2 x y v u _ I2 r1 r2 q2) fun c s3 ⟨z, H3, I3, r3, k, e, q3⟩ => ?_) hm
  subst e
  cases r3
  exact wpAny_truthy_bool ⟨H3, I3, q3⟩
/-- a op1 b op2 c -/
def tChain (r r' : R2) (ta tb tc : TE) : TE := fun σ H Q => ta σ H fun x H1 => tb σ H1 fun y H2 => r x y H2 fun z H3 => ∃ k, z = .bl k ∧
  (if k = true then tc σ H3 fun w' H4 => r' y w' H4 Q else Q (.bl false) H3)
theorem pe_chain {op op' : CmpOp} {r r' : R2} (ho : OpR X (compareOp op) r) (ho' : OpR X (compareOp op') r') (ha : PE X a ta) (hb : PE X b tb) (hc : PE X c tc)
    (hm : lastMarks [op, op'] [b, c] = false := by with_unfolding_all rfl) : PE X (.Compare a [op, op'] [b, c] pos) (tChain r r' ta tb tc) := by
  intro pins s σ H Q I h
  refine Compare_chain (thn (ha pins s σ H _ I h) fun v s1 ⟨x, H1, I1, r1, q1⟩ => chain_link (thn (hb pins s1 σ H1 _ I1 q1) fun u s2 ⟨y, H2, I2, r2, q2⟩ =>
    thn (ho pins s2 σ H2 x y v u _ I2 r1 r2 q2) fun d s3 ⟨z, H3, I3, r3, k, e, q3⟩ => ?_)) hm
  subst e
  cases r3
  refine wpAny_truthy_bool ?_
  cases k with
  | false => exact ite_ff ⟨.bl false, H3, I3, rfl, q3⟩
  | true => exact ite_tt (chain_last (thn (hc pins s3 σ H3 _ I3 q3) fun w' s4 ⟨z', H4, I4, r4, q4⟩ => ho' pins s4 σ H4 y z' u w' Q I4 r2 r4 q4))
theorem pt_chain {op op' : CmpOp} {r r' : R2} (ho : OpR X (compareOp op) r) (ho' : OpR X (compareOp op') r') (ha : PE X a ta) (hb : PE X b tb) (hc : PE X c tc)
    (hm : lastMarks [op, op'] [b, c] = false := by with_unfolding_all rfl) : PT X (.Compare a [op, op'] [b, c] pos) (tTest (tChain r r' ta tb tc)) := by
  intro pins s σ H Q I h
  refine isTrue_chain (thn (ha pins s σ H _ I h) fun v s1 ⟨x, H1, I1, r1, q1⟩ => test_link (thn (hb pins s1 σ H1 _ I1 q1) fun u s2 ⟨y, H2, I2, r2, q2⟩ =>
    thn (ho pins s2 σ H2 x y v u _ I2 r1 r2 q2) fun d s3 ⟨z, H3, I3, r3, k, e, q3⟩ => ?_)) hm
  subst e
  cases r3
  refine wpAny_truthy_bool ?_
  cases k with
  | false =>
    obtain ⟨k', e', q'⟩ := q3
    cases e'
    exact ite_ff ⟨H3, I3, q'⟩
  | true =>
    refine ite_tt (test_last (thn (hc pins s3 σ H3 _ I3 q3) fun w' s4 ⟨z', H4, I4, r4, q4⟩ => thn (ho' pins s4 σ H4 y z' u w' _ I4 r2 r4 q4) fun d' s5 ⟨z2, H5, I5, r5, k2, e2, q5⟩ => ?_))
    subst e2
    cases r5
    exact wpAny_truthy_bool ⟨H5, I5, q5⟩

/-! ### truth -/
/-- a value's truth by the abstract heap -/
def TruV (K : PySem.W.Frag) (x : V) (H : Hp) (k : Bool) : Prop :=
  match x with
  | .non => k = false
  | .bl b => k = b
  | .int i => k = (i != 0)
  | .str y => y.length ≤ sizeLine ∧ k = ((y.length : Int) != 0)
  | .byt y => y.size ≤ sizeLine ∧ k = ((y.size : Int) != 0)
  | .ref p => (∃ xs, SqL K H p xs ∧ k = !xs.isEmpty) ∨ (∃ xs, SqT K H p xs ∧ k = !xs.isEmpty) ∨ ∃ kvs, H p = some (.dK kvs) ∧ k = !kvs.isEmpty
  | _ => False
theorem isEmpty_kv {κ : Type} {kvs : List (κ × V)} {vs : List (κ × Value)} (r : KV kvs vs) : (!vs.isEmpty) = !kvs.isEmpty := by
  cases r <;> rfl
theorem isEmpty_of {xs : List V} {its : List Value} (r : Vals xs its) : (!its.toArray.isEmpty) = !xs.isEmpty := by
  cases r <;> simp
theorem line63 : (sizeLine : Nat) < 2 ^ 63 := by rw [sizeLine_eq]; decide
theorem tru_ok : TruR X (fun x H Q => ∃ k, TruV X.K x H k ∧ Q k H) := by
  intro pins s σ H x v Q I rx h
  obtain ⟨k, e, q⟩ := h
  have hl := line63
  have hs : sizeLine = 16777216 := sizeLine_eq
  cases x with
  | non =>
    cases rx
    have e' : k = false := e
    subst e'
    exact truthy_none ⟨H, I, q⟩
  | bl b =>
    cases rx
    have e' : k = b := e
    subst e'
    exact wpAny_truthy_bool ⟨H, I, q⟩
  | int i =>
    obtain ⟨t, rfl⟩ := rx
    have e' : k = (i != 0) := e
    subst e'
    exact PySem.P.truthy_int ⟨H, I, q⟩
  | str y =>
    obtain ⟨t, rfl⟩ := rx
    obtain ⟨hy, e'⟩ : y.length ≤ sizeLine ∧ k = ((y.length : Int) != 0) := e
    subst e'
    exact PySem.P.truthy_str (by omega) ⟨H, I.tok _, q⟩
  | byt y =>
    obtain ⟨t, rfl⟩ := rx
    obtain ⟨hy, e'⟩ : y.size ≤ sizeLine ∧ k = ((y.size : Int) != 0) := e
    subst e'
    exact PySem.W.truthy_bytes (by omega) ⟨H, I.tok _, q⟩
  | ref p =>
    cases rx
    have e' : (∃ xs, SqL X.K H p xs ∧ k = !xs.isEmpty) ∨ (∃ xs, SqT X.K H p xs ∧ k = !xs.isEmpty) ∨ ∃ kvs, H p = some (.dK kvs) ∧ k = !kvs.isEmpty := e
    rcases e' with ⟨xs, hx, e'⟩ | ⟨xs, hx, e'⟩ | ⟨kvs, hx, e'⟩
    · subst e'
      obtain ⟨its, r, pl, hz⟩ := I.list hx
      have hlen := r.length
      exact wpAny_truthy_list pl.isList (by simp only [List.size_toArray]; omega) ⟨H, I.tok _, by rw [isEmpty_of r]; exact q⟩
    · subst e'
      obtain ⟨its, r, pl, hz⟩ := I.tuple hx
      have hlen := r.length
      exact truthy_tuple pl (by simp only [List.size_toArray]; omega) ⟨H, I.tok _, by rw [isEmpty_of r]; exact q⟩
    · subst e'
      obtain ⟨hz, hS, vs, r, m⟩ : kvs.length ≤ sizeLine ∧ (p == sysModules) = false ∧ ∃ vs, KV kvs vs ∧ s.heap.DictOf (mixKind X.prog X.w) p vs := I.hok p _ hx
      have hlen : kvs.length = vs.length := Paired.length r
      exact wpAny_truthy_dict hS m (by omega) ⟨H, I.tok _, by rw [isEmpty_kv r]; exact q⟩
  | _ => exact (show False from e).elim
/-- any expression whose test is its value's truth (a name, a call, a subscript, a field ..: he by fun _ => rfl) -/
theorem pt_truth (ha : PE X a ta) (he : ∀ whole, isTrue a X.env whole = (do let v ← whole; standAt a.pos; holding [v] (truthy v))) :
    PT X a (fun σ H Q => ta σ H fun x H' => ∃ k, TruV X.K x H' k ∧ Q k H') := by
  intro pins s σ H Q I h
  exact isTrue_plain (thn (ha pins s σ H _ I h) fun v s1 ⟨x, H1, I1, r1, q1⟩ => tru_ok pins s1 σ H1 x v Q I1 r1 q1) (he _)

/-! ### strs and bytes -/
theorem pe_byt {x : List UInt8} {k : Nat} : PE X (.Constant (.bytes x) k pos) (fun _ H Q => Q (.byt x.toArray) H) := fun _ _ _ H _ I h => PySem.W.Constant_bytes ⟨.byt x.toArray, H, I.tok _, ⟨_, rfl⟩, h⟩
theorem op_add_str : OpR X (binaryOp .Add) (fun x y H Q => ∃ i j, x = .str i ∧ y = .str j ∧ i.length + j.length ≤ sizeLine ∧ Q (.str (i ++ j)) H) := by
  intro pins s σ H x y v u Q I rx ry h
  obtain ⟨i, j, rfl, rfl, hz, q⟩ := h
  obtain ⟨t, rfl⟩ := rx
  obtain ⟨t', rfl⟩ := ry
  exact add_str (fun t' tk => ⟨.str (i ++ j), H, I.tok _, ⟨_, rfl⟩, q⟩) hz
theorem iop_add_str : OpR X (inplaceOp .Add) (fun x y H Q => ∃ i j, x = .str i ∧ y = .str j ∧ i.length + j.length ≤ sizeLine ∧ Q (.str (i ++ j)) H) := by
  intro pins s σ H x y v u Q I rx ry h
  obtain ⟨i, j, rfl, rfl, hz, q⟩ := h
  obtain ⟨t, rfl⟩ := rx
  obtain ⟨t', rfl⟩ := ry
  exact iadd_str (fun t' tk => ⟨.str (i ++ j), H, I.tok _, ⟨_, rfl⟩, q⟩) hz
theorem op_add_byt : OpR X (binaryOp .Add) (fun x y H Q => ∃ i j, x = .byt i ∧ y = .byt j ∧ i.size + j.size ≤ 16777216 ∧ Q (.byt (i ++ j)) H) := by
  intro pins s σ H x y v u Q I rx ry h
  obtain ⟨i, j, rfl, rfl, hz, q⟩ := h
  obtain ⟨t, rfl⟩ := rx
  obtain ⟨t', rfl⟩ := ry
  exact PySem.W.KBy.add_bytes hz (fun t' tk => ⟨.byt (i ++ j), H, I.tok _, ⟨_, rfl⟩, q⟩)

def PlainIxT (b : Expr) : Prop := ∀ o i, subscripted b false o i = operate [o, i] (getItem o i)
/-- s[i], 0 ≤ i < len -/
theorem pe_item_str (ha : PE X a ta) (hb : PE X b tb) (hs : PlainIxT b) :
    PE X (.Subscript a b pos) (tOp (fun x y H Q => ∃ z i c, x = .str z ∧ y = .int i ∧ 0 ≤ i ∧ i < 2 ^ 63 ∧ i < z.length ∧ z.cps[i.toNat]? = some c ∧ Q (.str ⟨#[c]⟩) H) ta tb) := by
  intro pins s σ H Q I h
  refine Subscript_ (binT ha hb I h fun v u s2 x y H2 I2 rx ry q => ?_)
  obtain ⟨z, i, c, rfl, rfl, h0, h63, h1, hc, q⟩ := q
  obtain ⟨t, rfl⟩ := rx
  obtain ⟨t', rfl⟩ := ry
  have e : seqIndex? i z.length = some i.toNat := PySem.StrLaws.seqIndex_nonneg h0 h1
  exact tail_any (typeIs_str s2 z t) slot_str_getitem.lookup (getItem_str (c := c) (by
    have e1 : decide (i < -(2 ^ 63 : Int)) = false := decide_eq_false (by omega)
    have e2 : decide (i ≥ 2 ^ 63) = false := decide_eq_false (by omega)
    rw [e1, e2] <;> rfl) (by rw [e]; exact hc) ⟨.str ⟨#[c]⟩, H2, I2.tok _, ⟨_, rfl⟩, q⟩) (hs _ _)
/-- b[i], 0 ≤ i < len -/
theorem pe_item_byt (ha : PE X a ta) (hb : PE X b tb) (hs : PlainIxT b) :
    PE X (.Subscript a b pos) (tOp (fun x y H Q => ∃ (z : List UInt8) (i : Int), x = .byt z.toArray ∧ y = .int i ∧ z.length ≤ sizeLine ∧ 0 ≤ i ∧ i < z.length ∧ Q (.int ((z.getD i.toNat 0).toNat : Nat)) H) ta tb) := by
  intro pins s σ H Q I h
  refine Subscript_ (binT ha hb I h fun v u s2 x y H2 I2 rx ry q => ?_)
  obtain ⟨z, i, rfl, rfl, hz, h0, h1, q⟩ := q
  obtain ⟨t, rfl⟩ := rx
  obtain ⟨t', rfl⟩ := ry
  have hl : sizeLine = 16777216 := sizeLine_eq
  exact tail_any (PySem.W.typeIs_bytes s2 z.toArray t) PySem.W.FB.slot_bytes_getitem.lookup (PySem.W.getItem_bytes (by omega) h0 h1 ⟨.int ((z.getD i.toNat 0).toNat : Nat), H2, I2.tok _, ⟨_, rfl⟩, q⟩) (hs _ _)

/-! ### scalar builtins, by CallR -/
theorem vals1 {x : V} {us : List Value} (r : Vals [x] us) : ∃ u, us = [u] ∧ RelV x u := by
  cases r with
  | cons r1 r2 => cases r2; exact ⟨_, rfl, r1⟩
theorem vals2 {x y : V} {us : List Value} (r : Vals [x, y] us) : ∃ u w', us = [u, w'] ∧ RelV x u ∧ RelV y w' := by
  cases r with
  | cons r1 r2 =>
    cases r2 with
    | cons r3 r4 => cases r4; exact ⟨_, _, rfl, r1, r3⟩
theorem call_abs : CallR X (.builtin "abs") (fun xs H Q => ∃ i, xs = [.int i] ∧ Q (.int (if i < 0 then -i else i)) H) := by
  intro pins s σ H xs us Q I r h
  obtain ⟨i, rfl, q⟩ := h
  obtain ⟨u, rfl, t, rfl⟩ := vals1 r
  exact call_abs_int fun u tk => ⟨.int (if i < 0 then -i else i), H, I.tok _, ⟨_, rfl⟩, q⟩
theorem call_max2 (hc : X.calm = true) : CallR X (.builtin "max") (fun xs H Q => ∃ i j, xs = [.int i, .int j] ∧ Q (.int (if j > i then j else i)) H) := by
  intro pins s σ H xs us Q I r h
  obtain ⟨i, j, rfl, q⟩ := h
  obtain ⟨u, w', rfl, ⟨t, rfl⟩, ⟨t', rfl⟩⟩ := vals2 r
  refine max_two_ints (I.ok.hd hc) fun h' tk k => ⟨_, H, I.kept k, ?_, q⟩
  by_cases hj : j > i
  · rw [if_pos hj, if_pos hj]; exact ⟨_, rfl⟩
  · rw [if_neg hj, if_neg hj]; exact ⟨_, rfl⟩
theorem call_min2 (hc : X.calm = true) : CallR X (.builtin "min") (fun xs H Q => ∃ i j, xs = [.int i, .int j] ∧ Q (.int (if j < i then j else i)) H) := by
  intro pins s σ H xs us Q I r h
  obtain ⟨i, j, rfl, q⟩ := h
  obtain ⟨u, w', rfl, ⟨t, rfl⟩, ⟨t', rfl⟩⟩ := vals2 r
  refine min_two_ints (I.ok.hd hc) fun h' tk k => ⟨_, H, I.kept k, ?_, q⟩
  by_cases hj : j < i
  · rw [if_pos hj, if_pos hj]; exact ⟨_, rfl⟩
  · rw [if_neg hj, if_neg hj]; exact ⟨_, rfl⟩
theorem call_int1 : CallR X (.type "int") (fun xs H Q => (∃ i, xs = [.int i] ∧ Q (.int i) H) ∨ ∃ k, xs = [.bl k] ∧ Q (.int (if k then 1 else 0)) H) := by
  intro pins s σ H xs us Q I r h
  rcases h with ⟨i, rfl, q⟩ | ⟨k, rfl, q⟩
  · obtain ⟨u, rfl, t, rfl⟩ := vals1 r
    exact call_int_int ⟨.int i, H, I, ⟨_, rfl⟩, q⟩
  · obtain ⟨u, rfl, r1⟩ := vals1 r
    cases r1
    exact call_int_bool ⟨.int (if k then 1 else 0), H, I.tok _, ⟨_, rfl⟩, q⟩
theorem call_bool1 : CallR X (.type "bool") (fun xs H Q => (∃ i, xs = [.int i] ∧ Q (.bl (i != 0)) H) ∨ ∃ k, xs = [.bl k] ∧ Q (.bl k) H) := by
  intro pins s σ H xs us Q I r h
  rcases h with ⟨i, rfl, q⟩ | ⟨k, rfl, q⟩
  · obtain ⟨u, rfl, t, rfl⟩ := vals1 r
    exact call_bool_int ⟨.bl (i != 0), H, I, rfl, q⟩
  · obtain ⟨u, rfl, r1⟩ := vals1 r
    cases r1
    exact call_bool_bool ⟨.bl k, H, I, rfl, q⟩
theorem call_str_int : CallR X (.type "str") (fun xs H Q => ∃ i, xs = [.int i] ∧ i.natAbs.log2 < 1920 ∧ Q (.str (toString i)) H) := by
  intro pins s σ H xs us Q I r h
  obtain ⟨i, rfl, hz, q⟩ := h
  obtain ⟨u, rfl, t, rfl⟩ := vals1 r
  exact PySem.P.str_of_int hz ⟨.str _, H, I.tok _, ⟨_, rfl⟩, q⟩
theorem call_ord : CallR X (.builtin "ord") (fun xs H Q => ∃ x, xs = [.str x] ∧ x.length = 1 ∧ Q (.int (x.cps.getD 0 0 : Nat)) H) := by
  intro pins s σ H xs us Q I r h
  obtain ⟨x, rfl, hz, q⟩ := h
  obtain ⟨u, rfl, t, rfl⟩ := vals1 r
  exact ord_of_one hz ⟨.int _, H, I.tok _, ⟨_, rfl⟩, q⟩
theorem call_chr : CallR X (.builtin "chr") (fun xs H Q => ∃ i, xs = [.int i] ∧ 0 ≤ i ∧ i ≤ 1114111 ∧ Q (.str ⟨#[i.toNat]⟩) H) := by
  intro pins s σ H xs us Q I r h
  obtain ⟨i, rfl, h0, h1, q⟩ := h
  obtain ⟨u, rfl, t, rfl⟩ := vals1 r
  exact chr_of_range h0 h1 ⟨.str _, H, I.tok _, ⟨_, rfl⟩, q⟩
/-- len of a str, a bytes, a list, a tuple -/
def LenV (K : PySem.W.Frag) (x : V) (H : Hp) (n : Nat) : Prop :=
  match x with
  | .str y => y.length ≤ sizeLine ∧ n = y.length
  | .byt y => y.size ≤ sizeLine ∧ n = y.size
  | .ref p => (∃ xs, SqL K H p xs ∧ n = xs.length) ∨ ∃ xs, SqT K H p xs ∧ n = xs.length
  | _ => False
theorem call_len : CallR X (.builtin "len") (fun xs H Q => ∃ x n, xs = [x] ∧ LenV X.K x H n ∧ Q (.int n) H) := by
  intro pins s σ H xs us Q I r h
  obtain ⟨x, n, rfl, e, q⟩ := h
  obtain ⟨u, rfl, rx⟩ := vals1 r
  have hl := line63
  have hs : sizeLine = 16777216 := sizeLine_eq
  cases x with
  | str y =>
    obtain ⟨t, rfl⟩ := rx
    obtain ⟨hy, e'⟩ : y.length ≤ sizeLine ∧ n = y.length := e
    subst e'
    exact len_str (by omega) ⟨.int _, H, I.tok _, ⟨_, rfl⟩, q⟩
  | byt y =>
    obtain ⟨t, rfl⟩ := rx
    obtain ⟨hy, e'⟩ : y.size ≤ sizeLine ∧ n = y.size := e
    subst e'
    exact PySem.W.len_bytes (by omega) ⟨.int _, H, I.tok _, ⟨_, rfl⟩, q⟩
  | ref p =>
    cases rx
    have e' : (∃ xs, SqL X.K H p xs ∧ n = xs.length) ∨ ∃ xs, SqT X.K H p xs ∧ n = xs.length := e
    rcases e' with ⟨xs, hx, e'⟩ | ⟨xs, hx, e'⟩
    · subst e'
      obtain ⟨its, r', pl, hz⟩ := I.list hx
      have hlen := r'.length
      exact Calls.call_len_list pl.isList (by simp only [List.size_toArray]; omega) ⟨.int xs.length, H, I.tok _, ⟨_, by simp only [List.size_toArray]; rw [hlen]⟩, q⟩
    · subst e'
      obtain ⟨its, r', pl, hz⟩ := I.tuple hx
      have hlen := r'.length
      exact len_tuple pl (by simp only [List.size_toArray]; omega) ⟨.int xs.length, H, I.tok _, ⟨_, by simp only [List.size_toArray]; rw [hlen]⟩, q⟩
  | _ => exact (show False from e).elim
/-- divmod: a new tuple -/
theorem call_divmod : CallR X (.builtin "divmod") (fun xs H Q => ∃ i j, xs = [.int i, .int j] ∧ CDiv i j ∧ ∀ p, H p = none → Q (.ref p) (upd H p (.tup [.int (i / j), .int (i % j)]))) := by
  intro pins s σ H xs us Q I r h
  obtain ⟨i, j, rfl, ⟨h1, h2⟩, q⟩ := h
  obtain ⟨u, w', rfl, ⟨t, rfl⟩, ⟨t', rfl⟩⟩ := vals2 r
  refine divmod_int (by omega) ?_ (.inl (PyProof.noPylong_small (by omega)))
  rw [Int.fdiv_eq_ediv_of_nonneg i (by omega), Int.fmod_eq_emod_of_nonneg i (by omega)]
  have hn : H s.heap.objs.size = none := I.hok.fresh (Nat.le_refl _)
  refine ⟨.ref s.heap.objs.size, _, ?_, rfl, q _ hn⟩
  refine I.laid (fun b o e => Heap.get?_push_of_some _ e) (Nat.le_refl _) ⟨by simp only [List.length_cons, List.length_nil]; rw [sizeLine_eq]; decide, [.int (i / j) s.toks, .int (i % j) (s.toks + 1)], .cons ⟨_, rfl⟩ (.cons ⟨_, rfl⟩ .nil), ?_⟩
  exact ⟨_, Heap.get?_push_size s.heap rfl, rfl, 0, rfl⟩
end
end L2

namespace L2
open PySem PySem.Spec PyProof.Rows

/-! ### an instance, its attributes a map -/
structure ObjM (h : Heap) (x dx C : Addr) (mA : Str → Option Value) : Prop where
  obj : h.get? x = some (PySem.W.instObj C dx)
  ns : h.Ns1 dx mA
  ne : dx ≠ x

theorem lookIn_ns {h : Heap} {dx : Addr} {mA : Str → Option Value} (n : h.Ns1 dx mA) : ∃ od, h.get? dx = some od ∧ ∀ name, PySem.W.lookIn name od = some (mA name) := by
  obtain ⟨o, es, ep, ho, hd, hk, _, hm⟩ := n
  refine ⟨o, ho, fun name => ?_⟩
  have e := hm name
  unfold nsFind findBy at e
  rw [← Array.find?_toList] at e
  unfold PySem.W.lookIn
  rw [hd]
  dsimp only
  split
  · rename_i y q
    rw [q] at e
    exact congrArg some e
  · rename_i q
    rw [q] at e
    have a : es.toList.any (·.refKey) = false := by
      rw [List.any_eq_false]
      intro y hy
      obtain ⟨z, t, hkey⟩ := hk y (Array.mem_toList_iff.mp hy)
      simp [DictEntry.refKey, hkey]
    have a' : ¬ es.toList.any (·.refKey) = true := by rw [a]; exact Bool.false_ne_true
    rw [if_neg a']
    exact congrArg some e

theorem ObjM.look {h : Heap} {x dx C : Addr} {mA : Str → Option Value} (I : ObjM h x dx C mA) : ∃ od, PySem.W.InstAt h x (PySem.W.instObj C dx) C (some od) ∧ ∀ name, PySem.W.lookIn name od = some (mA name) :=
  let ⟨od, ho, hl⟩ := lookIn_ns I.ns
  ⟨od, ⟨I.obj, rfl, rfl, ho⟩, hl⟩

section
variable {prog : Program} {w : World} {A : Around} {E : Value → Shared → Prop} {s : Shared} {K : PySem.W.Frag} {x dx C f : Addr} {mA : Str → Option Value} {name : Str} {v : Value}

theorem get_map {expr : Bool} {Q : Value → Shared → Prop} (X : K.In s.heap) (I : ObjM s.heap x dx C mA) (hg : PySem.W.plainGet K C name = true) (hh : PySem.W.hasDictIn K C = true)
    (ha : PySem.W.findIn K (.ref C) name = some none) (hv : mA name = some v) (hv' : PySem.W.handedIn v = true) (h : Q v { s with toks := s.toks + 1 }) :
    wpAny (model prog w) A (getAttr (.ref x) name expr) Q E s := by
  obtain ⟨od, J, hl⟩ := I.look
  exact PySem.W.get_value X J (PySem.W.plainGet_of hg).1 (PySem.W.findObj_own hh ha rfl (by rw [hl, hv])) hv' h

theorem get_const {expr : Bool} {a : Value} {Q : Value → Shared → Prop} (X : K.In s.heap) (I : ObjM s.heap x dx C mA) (hg : PySem.W.plainGet K C name = true) (hh : PySem.W.hasDictIn K C = true)
    (ha : PySem.W.findIn K (.ref C) name = some (some a)) (hn : PySem.W.specialIn K a "__get__" = some none) (hc : PySem.W.copiedNames.contains name = false) (hv : mA name = none) (hv' : PySem.W.handedIn a = true)
    (h : Q a { s with toks := s.toks + 1 }) : wpAny (model prog w) A (getAttr (.ref x) name expr) Q E s := by
  obtain ⟨od, J, hl⟩ := I.look
  exact PySem.W.get_value X J (PySem.W.plainGet_of hg).1 (PySem.W.findObj_cls hh ha hn hv' hc (by rw [hl, hv])) hv' h

theorem get_meth {pl : Sem Bool} {Q : Value × List Value → Shared → Prop} (X : K.In s.heap) (I : ObjM s.heap x dx C mA) (hg : PySem.W.plainGet K C name = true)
    (hf : PySem.W.findIn K (.ref C) name = some (some (.ref f))) (ht : PySem.W.isFn K (.ref f) = true) (hv : mA name = none) (h : Q (.ref f, [.ref x]) s) :
    wpAny (model prog w) A (getMethod (.ref x) name pl) Q E s := by
  obtain ⟨od, J, hl⟩ := I.look
  exact PySem.W.method_fn X J (PySem.W.plainGet_of hg).1 (PySem.W.plainGet_of hg).2 hf (beq_iff_eq.mp ht) (by show (PySem.W.lookIn name od).map (·.isSome) = some false; rw [hl, hv]; rfl) h

theorem set_map {ns : List Str} {Q : Unit → Shared → Prop} (X : K.In s.heap) (I : ObjM s.heap x dx C mA)
    (hs : PySem.W.findIn K (.ref C) "__setattr__" = some (some (.builtin "object.__setattr__"))) (hp : PySem.W.plainOver K C = true) (ht : PySem.W.takerIn K C name = some none) (hh : PySem.W.hasDictIn K C = true)
    (hw : PySem.Within mA ns) (hsz : ns.length ≤ sizeLine)
    (h : ∀ h', ObjM h' x dx C (fun y => if y = name then some v else mA y) → Heap.SameBut dx s.heap h' → Q () { s with heap := h', toks := s.toks + 2 }) :
    wpAny (model prog w) A (setAttr (.ref x) name v) Q E s := by
  obtain ⟨od, J, hl⟩ := I.look
  refine PySem.W.set_plain X J hs (PySem.W.osa_open (s := { s with toks := s.toks + 1 }) (r := none) X J hp ht fun b => ?_)
  obtain ⟨cd, hc, hd'⟩ := PySem.W.any_some hh
  have hx : s.heap.get? x = some ⟨.ref C, some dx, .plain, #[]⟩ := I.obj
  refine wpAny_bind (wpAny_pure (wpAny_bind (wpAny_bind (wpAny_loadPart hx (wpAny_bind (PySem.W.Looks.here (s := { s with toks := s.toks + 1 }) (PySem.W.looks_clsIn X hc) ?_))))))
  rw [hd']
  refine wpAny_pure (a := some dx) (wpAny_bind (wpAny_pure (wpAny_bind ?_)))
  refine wpAny_nsSet1 (s := { s with toks := s.toks + 1 }) I.ns fun h' hn2 hs2 => ?_
  obtain ⟨oD, esD, epD, hoD, hdD, hcD⟩ := hn2.count (PySem.Within.cons name v hw)
  refine wpAny_bind (wpAny_lookBehind hoD (by rw [hdD]; exact pastItsLine_dict (Nat.le_trans hcD (by rw [List.length_cons]; omega))) ?_)
  exact wpAny_pure (h _ ⟨(hs2.2 _ (Ne.symm I.ne)).trans I.obj, hn2, I.ne⟩ hs2)

/-- C(..): the dict at the heap's end, the instance behind it; then its __init__ -/
theorem make_map {R : Result → Shared → Prop} {vs : List Value} {kw : List (Str × Value)} (X : K.In s.heap) (hm : PySem.W.makesIn K C = true)
    (hi : PySem.W.findIn K (.ref C) "__init__" = some (some (.ref f))) (hf : PySem.W.typeIn K (.ref f) = some (.type "function"))
    (h : codeAny (model prog w) (A.under (.builtin "type.__call__" ⟨.ref C :: vs, kw⟩)) (.call (.ref f) ⟨.ref (s.heap.objs.size + 1) :: vs, kw⟩) (PySem.W.InitBack (s.heap.objs.size + 1) R)
      { s with heap := (s.heap.push PySem.W.emptyDict).push (PySem.W.instObj C s.heap.objs.size) }) :
    codeAny (model prog w) A (.call (.ref C) ⟨vs, kw⟩) R s := by
  obtain ⟨hh, g, d, t, os⟩ := s
  exact PySem.W.make_core (PySem.W.makes_of X hm) (PySem.W.looks_findIn X hi) (fun self => PySem.W.bind_fn X self hf) (.inl rfl) h
/-- C() where there is no __init__ but object's -/
theorem make_map0 {R : Result → Shared → Prop} (X : K.In s.heap) (hm : PySem.W.makesIn K C = true)
    (hi : PySem.W.findIn K (.ref C) "__init__" = some (some (.builtin "object.__init__")))
    (hb : ∀ self, PySem.W.Looks (model prog w) s.heap (bindSpecial (.builtin "object.__init__") self) (.builtin "object.__init__", [self]))
    (h : codeAny (model prog w) (A.under (.builtin "type.__call__" ⟨[.ref C], []⟩)) (.call (.builtin "object.__init__") ⟨[.ref (s.heap.objs.size + 1)], []⟩) (PySem.W.InitBack (s.heap.objs.size + 1) R)
      { s with heap := (s.heap.push PySem.W.emptyDict).push (PySem.W.instObj C s.heap.objs.size) }) :
    codeAny (model prog w) A (.call (.ref C) ⟨[], []⟩) R s := by
  obtain ⟨hh, g, d, t, os⟩ := s
  exact PySem.W.make_core (PySem.W.makes_of X hm) (PySem.W.looks_findIn X hi) hb (.inr ⟨rfl, rfl⟩) h
end

/-! ### the attributes as a list of pairs -/
def putF (f : Str) (v : V) : List (Str × V) → List (Str × V)
  | [] => [(f, v)]
  | (g, x) :: r => if g = f then (g, v) :: r else (g, x) :: putF f v r
theorem lookup_putF (f g : Str) (v : V) : ∀ fs : List (Str × V), (putF f v fs).lookup g = if g = f then some v else fs.lookup g
  | [] => by
    show List.lookup g [(f, v)] = _
    by_cases h : g = f
    · have hb : (g == f) = true := beq_iff_eq.mpr h
      simp only [List.lookup, hb, if_pos h]
    · have hb : (g == f) = false := beq_eq_false_iff_ne.mpr h
      simp only [List.lookup, hb, if_neg h]
  | (k, x) :: r => by
    have ih := lookup_putF f g v r
    rw [show putF f v ((k, x) :: r) = (if k = f then (k, v) :: r else (k, x) :: putF f v r) from rfl]
    by_cases hk : k = f
    · rw [if_pos hk]
      by_cases h : g = k
      · have hb : (g == k) = true := beq_iff_eq.mpr h
        simp only [List.lookup, hb, if_pos (h.trans hk)]
      · have hb : (g == k) = false := beq_eq_false_iff_ne.mpr h
        simp only [List.lookup, hb, if_neg (fun e : g = f => h (e.trans hk.symm))]
    · rw [if_neg hk]
      by_cases h : g = k
      · have hb : (g == k) = true := beq_iff_eq.mpr h
        simp only [List.lookup, hb, if_neg (fun e : g = f => hk (h.symm.trans e))]
      · have hb : (g == k) = false := beq_eq_false_iff_ne.mpr h
        simp only [List.lookup, hb]
        exact ih
theorem keys_putF (f : Str) (v : V) : ∀ fs : List (Str × V), f ∈ (putF f v fs).map (·.1) ∧ ∀ g, g ∈ fs.map (·.1) → g ∈ (putF f v fs).map (·.1)
  | [] => ⟨by simp [putF], fun g h => by simp at h⟩
  | (k, x) :: r => by
    obtain ⟨i1, i2⟩ := keys_putF f v r
    rw [show putF f v ((k, x) :: r) = (if k = f then (k, v) :: r else (k, x) :: putF f v r) from rfl]
    by_cases hk : k = f
    · rw [if_pos hk]
      subst hk
      exact ⟨by simp, fun g h => by simpa using h⟩
    · rw [if_neg hk]
      refine ⟨?_, fun g h => ?_⟩
      · rw [List.map_cons]
        exact List.mem_cons_of_mem _ i1
      · rw [List.map_cons] at h ⊢
        rcases List.mem_cons.mp h with e | e
        · exact List.mem_cons.mpr (.inl e)
        · exact List.mem_cons_of_mem _ (i2 g e)
theorem length_putF (f : Str) (v : V) : ∀ fs : List (Str × V), (putF f v fs).length ≤ fs.length + 1
  | [] => by simp [putF]
  | (k, x) :: r => by
    have ih := length_putF f v r
    rw [show putF f v ((k, x) :: r) = (if k = f then (k, v) :: r else (k, x) :: putF f v r) from rfl]
    by_cases hk : k = f
    · rw [if_pos hk, List.length_cons, List.length_cons]; omega
    · rw [if_neg hk, List.length_cons, List.length_cons]; omega

theorem RelO.some_of {v : V} {o : Option Value} (r : RelO (some v) o) : ∃ u, o = some u ∧ RelV v u := by
  cases o with
  | none => exact (show False from r).elim
  | some u => exact ⟨u, rfl, r⟩
theorem RelO.none_of {o : Option Value} (r : RelO none o) : o = none := by
  cases o with
  | none => rfl
  | some u => exact (show False from r).elim
theorem handed_of {v : V} {u : Value} (r : RelV v u) : PySem.W.handedIn u = true := by
  cases v with
  | non => cases (show u = Value.none from r); rfl
  | bl b => cases (show u = Value.bool b from r); rfl
  | int i => obtain ⟨t, e⟩ := (show ∃ t, u = Value.int i t from r); cases e; rfl
  | str x => obtain ⟨t, e⟩ := (show ∃ t, u = Value.str x t from r); cases e; rfl
  | byt b => obtain ⟨t, e⟩ := (show ∃ t, u = Value.bytes b t from r); cases e; rfl
  | flt b => obtain ⟨t, e⟩ := (show ∃ t, u = Value.float b t from r); cases e; rfl
  | ref a => cases (show u = Value.ref a from r); rfl
  | ty n => cases (show u = Value.type n from r); rfl

section
variable {P : Program} {w : World} {H H' : Hp} {h h' : Heap} {a C dx : Addr} {fs fs' : List (Str × V)}
theorem ins_get (hok : HOk P w H h) (e : H a = some (.ins C dx fs)) : ∃ mA, ObjM h a dx C mA ∧ (∀ f, RelO (fs.lookup f) (mA f)) ∧ PySem.Within mA (fs.map (·.1)) ∧ fs.length ≤ 1000 ∧ H dx = some (.own a) := by
  obtain ⟨d, z, ne, ob, mA, n, r, q⟩ := (show ObjOk P w H h a (.ins C dx fs) from hok a _ e)
  exact ⟨mA, ⟨ob, n, ne⟩, r, q, z, d⟩
end

/-! ### what of the text a class must have -/
structure Cls (K : PySem.W.Frag) (C : Addr) : Prop where
  pg : PySem.W.plainGet K C Str.empty = true
  hd : PySem.W.hasDictIn K C = true
  po : PySem.W.plainOver K C = true
  sa : PySem.W.findIn K (.ref C) "__setattr__" = some (some (.builtin "object.__setattr__"))
theorem Cls.get {K : PySem.W.Frag} {C : Addr} (c : Cls K C) (f : Str) : PySem.W.plainGet K C f = true := c.pg
/-- no class of it has the name -/
def NoAttr (K : PySem.W.Frag) (C : Addr) (f : Str) : Prop := PySem.W.findIn K (.ref C) f = some none
theorem NoAttr.taker {K : PySem.W.Frag} {C : Addr} {f : Str} (n : NoAttr K C f) : PySem.W.takerIn K C f = some none := by
  unfold PySem.W.takerIn
  rw [show PySem.W.findIn K (.ref C) f = some none from n]
  rfl
/-- a constant of the class -/
structure Con (K : PySem.W.Frag) (C : Addr) (f : Str) (v : V) (u : Value) : Prop where
  at_ : PySem.W.findIn K (.ref C) f = some (some u)
  rel : RelV v u
  get : PySem.W.specialIn K u "__get__" = some none
  cp : PySem.W.copiedNames.contains f = false
/-- a method: a plain def of the class or of one above it -/
structure Meth (K : PySem.W.Frag) (C : Addr) (m : Str) (f : Addr) : Prop where
  at_ : PySem.W.findIn K (.ref C) m = some (some (.ref f))
  fn : PySem.W.isFn K (.ref f) = true
  kp : PySem.W.keepIn K (.ref f) = true

section
variable {X : Cx} {pins : List (Addr × Obj)} {σ : St} {H : Hp} {s : Shared} {a C dx : Addr} {fs : List (Str × V)} {f : Str} {v : V} {A : Around} {E : Value → Shared → Prop}

theorem getattr_ok {b : Bool} {Q : Value → Shared → Prop} (I : Inv X pins σ H s) (e : H a = some (.ins C dx fs)) (c : Cls X.K C) (n : NoAttr X.K C f) (l : fs.lookup f = some v)
    (h : ∀ u s', Inv X pins σ H s' → RelV v u → Q u s') : wpAny (model X.prog X.w) A (getAttr (.ref a) f b) Q E s := by
  obtain ⟨mA, O, r, _, _, _⟩ := ins_get I.hok e
  obtain ⟨u, hu, ru⟩ := RelO.some_of (v := v) (o := mA f) (by rw [← l]; exact r f)
  exact get_map I.kIn O (c.get f) c.hd n hu (handed_of ru) (h u _ (I.tok _) ru)

theorem getcon_ok {b : Bool} {u : Value} {Q : Value → Shared → Prop} (I : Inv X pins σ H s) (e : H a = some (.ins C dx fs)) (c : Cls X.K C) (k : Con X.K C f v u) (l : fs.lookup f = none)
    (h : ∀ s', Inv X pins σ H s' → Q u s') : wpAny (model X.prog X.w) A (getAttr (.ref a) f b) Q E s := by
  obtain ⟨mA, O, r, _, _, _⟩ := ins_get I.hok e
  have hn : mA f = none := RelO.none_of (by rw [← l]; exact r f)
  exact get_const I.kIn O (c.get f) c.hd k.at_ k.get k.cp hn (handed_of k.rel) (h _ (I.tok _))

theorem getmeth_ok {m : Str} {g : Addr} {pl : Sem Bool} {Q : Value × List Value → Shared → Prop} (I : Inv X pins σ H s) (e : H a = some (.ins C dx fs)) (c : Cls X.K C) (k : Meth X.K C m g) (l : fs.lookup m = none)
    (h : Q (.ref g, [.ref a]) s) : wpAny (model X.prog X.w) A (getMethod (.ref a) m pl) Q E s := by
  obtain ⟨mA, O, r, _, _, _⟩ := ins_get I.hok e
  have hn : mA m = none := RelO.none_of (by rw [← l]; exact r m)
  exact get_meth I.kIn O (c.get m) k.at_ k.fn hn h

theorem setattr_ok {y : V} {u : Value} {Q : Unit → Shared → Prop} (I : Inv X pins σ H s) (e : H a = some (.ins C dx fs)) (c : Cls X.K C) (n : NoAttr X.K C f) (hl : fs.length < 1000) (ry : RelV y u)
    (h : ∀ s', Inv X pins σ (upd H a (.ins C dx (putF f y fs))) s' → Q () s') : wpAny (model X.prog X.w) A (setAttr (.ref a) f u) Q E s := by
  obtain ⟨mA, O, r, wi, _, ho⟩ := ins_get I.hok e
  have hz : (fs.map (·.1)).length ≤ sizeLine := by rw [List.length_map, sizeLine_eq]; omega
  refine set_map I.kIn O c.sa c.po n.taker c.hd wi hz fun h' O' sb => h _ ?_
  have hd : ∃ o, h'.get? dx = some o := let ⟨o, _, _, e', _⟩ := O'.ns; ⟨o, e'⟩
  refine I.write (x := a) (e := dx) (by rw [e]; exact True.intro) (.inr ho) (fun b q hb z => (sb.2 b hb).trans z) hd ?_
  refine ⟨by rw [upd_ne O.ne]; exact ho, ?_, O.ne, O'.obj, _, O'.ns, fun g => ?_, fun g hg => ?_⟩
  · have := length_putF f y fs; omega
  · show RelO ((putF f y fs).lookup g) (if g = f then some u else mA g)
    rw [lookup_putF]
    by_cases q : g = f
    · rw [if_pos q, if_pos q]; exact ry
    · rw [if_neg q, if_neg q]; exact r g
  · by_cases q : g = f
    · rw [q]; exact (keys_putF f y fs).1
    · refine (keys_putF f y fs).2 g (wi g fun z => hg ?_)
      show (if g = f then some u else mA g) = none
      rw [if_neg q]; exact z

/-- a new instance, tracked, without attributes -/
theorem Inv.made (I : Inv X pins σ H s) : Inv X pins σ (upd (upd H s.heap.objs.size (.own (s.heap.objs.size + 1))) (s.heap.objs.size + 1) (.ins C s.heap.objs.size []))
    { s with heap := (s.heap.push PySem.W.emptyDict).push (PySem.W.instObj C s.heap.objs.size) } := by
  have e1 : (s.heap.push PySem.W.emptyDict).get? s.heap.objs.size = some PySem.W.emptyDict := Heap.get?_push_size s.heap rfl
  have e2 : ((s.heap.push PySem.W.emptyDict).push (PySem.W.instObj C s.heap.objs.size)).get? (s.heap.objs.size + 1) = some (PySem.W.instObj C s.heap.objs.size) := by
    have := Heap.get?_push_size (s.heap.push PySem.W.emptyDict) (o := PySem.W.instObj C s.heap.objs.size) rfl
    rwa [Heap.size_push] at this
  have e3 : (s.heap.push PySem.W.emptyDict).Ns s.heap.objs.size (fun _ => none) := ⟨PySem.W.emptyDict, #[], _, e1, rfl, (fun e he => absurd he (by simp)), fun _ => rfl⟩
  have I1 := I.laid (a := s.heap.objs.size) (o := .own (s.heap.objs.size + 1)) (h' := s.heap.push PySem.W.emptyDict) (t' := s.toks) (fun b u q => Heap.get?_push_of_some _ q) (Nat.le_refl _) ⟨_, e1⟩
  refine I1.laid (a := s.heap.objs.size + 1) (o := .ins C s.heap.objs.size []) (t' := s.toks) (fun b u q => Heap.get?_push_of_some _ q) (Nat.le_of_eq (Heap.size_push _ _)) ?_
  have ne : s.heap.objs.size ≠ s.heap.objs.size + 1 := Nat.ne_of_lt (Nat.lt_succ_self _)
  refine ⟨by rw [upd_ne ne, upd_same], Nat.zero_le _, ne, e2, fun _ => none, (Heap.Ns1.of_empty e3).at fun o q => Heap.get?_push_of_some _ q, fun _ => True.intro, fun y hy => absurd rfl hy⟩

/-- e.f where nothing but the object is asked: through attributeBase (super) and the last hold -/
theorem attr_of {prog : Program} {w : World} {env : Env} {e : Expr} {f : Str} {pos : Pos} {s : Shared} {Q : Value → Shared → Prop} (hb : attributeBase e f env (eval e env) = eval e env)
    (h : wpAny (model prog w) A (eval e env) (fun o s₁ => wpAny (model prog w) A (getAttr o f true) Q E s₁) E s) : wpAny (model prog w) A (eval (.Attribute e f pos) env) Q E s :=
  Attribute_any_ h (by rw [arm_eval_Attribute, hb])
end

/-! ### readings and rules -/
/-- e.f, an attribute of the instance -/
def tFld (K : PySem.W.Frag) (ta : TE) (f : Str) : TE := fun σ H Q => ta σ H fun x H1 => ∃ a C dx fs v, x = .ref a ∧ H1 a = some (.ins C dx fs) ∧ Cls K C ∧ NoAttr K C f ∧ fs.lookup f = some v ∧ Q v H1
/-- e.f, a constant of the class -/
def tCon (K : PySem.W.Frag) (ta : TE) (f : Str) : TE := fun σ H Q => ta σ H fun x H1 => ∃ a C dx fs v u, x = .ref a ∧ H1 a = some (.ins C dx fs) ∧ Cls K C ∧ Con K C f v u ∧ fs.lookup f = none ∧ Q v H1
/-- e.f = value -/
def sFld (K : PySem.W.Frag) (ta tv : TE) (f : Str) : TS := fun D σ H => tv σ H fun y H1 => ta σ H1 fun x H2 => ∃ a C dx fs, x = .ref a ∧ H2 a = some (.ins C dx fs) ∧ Cls K C ∧ NoAttr K C f ∧ fs.length < 1000 ∧
  D.nx σ (upd H2 a (.ins C dx (putF f y fs)))
/-- an augmented operator on two values -/
def InOp (X : Cx) (op : Operator) (rd : V → V → Hp → VK → Prop) : Prop :=
  ∀ (pins : List (Addr × Obj)) (s : Shared) (σ : St) (H : Hp) (x y : V) (u v : Value) (Q : VK), Inv X pins σ H s → RelV x u → RelV y v → rd x y H Q → wpAny (model X.prog X.w) X.A (inplaceOp op u v) (EP X pins σ Q) X.xe s
/-- e.f op= value -/
def sFldAug (K : PySem.W.Frag) (ta tv : TE) (rd : V → V → Hp → VK → Prop) (f : Str) : TS := fun D σ H => ta σ H fun x H1 => ∃ a C dx fs v, x = .ref a ∧ H1 a = some (.ins C dx fs) ∧ Cls K C ∧ NoAttr K C f ∧ fs.lookup f = some v ∧
  tv σ H1 fun y H2 => rd v y H2 fun z H3 => ∃ dx' fs', H3 a = some (.ins C dx' fs') ∧ fs'.length < 1000 ∧ D.nx σ (upd H3 a (.ins C dx' (putF f z fs')))

section
variable {X : Cx} {o e value : Expr} {f : Str} {pos pos' tpos : Pos} {ta tv : TE}
theorem pe_fld (he : PE X e ta) (hb : attributeBase e f X.env (eval e X.env) = eval e X.env) : PE X (.Attribute e f pos) (tFld X.K ta f) := by
  intro pins s σ H Q I h
  refine attr_of hb (thn (he pins s σ H _ I h) fun u s1 ⟨x, H1, I1, rx, a, C, dx, fs, v, ex, ea, c, n, l, q⟩ => ?_)
  subst ex
  obtain rfl : u = Value.ref a := rx
  exact getattr_ok I1 ea c n l fun u' s2 I2 ru => ⟨v, H1, I2, ru, q⟩
theorem pe_con (he : PE X e ta) (hb : attributeBase e f X.env (eval e X.env) = eval e X.env) : PE X (.Attribute e f pos) (tCon X.K ta f) := by
  intro pins s σ H Q I h
  refine attr_of hb (thn (he pins s σ H _ I h) fun u s1 ⟨x, H1, I1, rx, a, C, dx, fs, v, u0, ex, ea, c, k, l, q⟩ => ?_)
  subst ex
  obtain rfl : u = Value.ref a := rx
  exact getcon_ok I1 ea c k l fun s2 I2 => ⟨v, H1, I2, k.rel, q⟩
theorem ps_fld (ha : PE X o ta) (hv : PE X value tv) (hs : swapsWith value (some (.Attribute o f pos')) pos.line X.env = pure false) : PS X (.Assign [.Attribute o f pos'] value pos) (sFld X.K ta tv f) := by
  intro pins s σ H D I h
  refine plainObj_wpAny_Assign_Attribute (thn (hv pins s σ H _ I h) fun u s1 ⟨y, H1, I1, ry, q⟩ => thn (ha pins s1 σ H1 _ I1 q) fun ov s2 ⟨x, H2, I2, rx, a, C, dx, fs, ex, ea, c, n, l, q2⟩ => ?_) hs
  subst ex
  obtain rfl : ov = Value.ref a := rx
  exact setattr_ok I2 ea c n l ry fun s3 I3 => ⟨σ, _, I3, q2⟩
theorem ps_fldaug {op : Operator} {rd : V → V → Hp → VK → Prop} (ha : PE X o ta) (hv : PE X value tv) (hop : InOp X op rd) : PS X (.AugAssign (.Attribute o f tpos) op value pos) (sFldAug X.K ta tv rd f) := by
  intro pins s σ H D I h
  refine wpAny_AugAssign_AttributeAny (thn (ha pins s σ H _ I h) fun ov s1 ⟨x, H1, I1, rx, a, C, dx, fs, v, ex, ea, c, n, l, q⟩ => ?_)
  subst ex
  obtain rfl : ov = Value.ref a := rx
  refine getattr_ok I1 ea c n l fun u s2 I2 ru => thn (hv pins s2 σ H1 _ I2 q) fun w3 s3 ⟨y, H2, I3, ry, q3⟩ => thn (hop pins s3 σ H2 v y u w3 _ I3 ru ry q3) fun w4 s4 ⟨z, H3, I4, rz, dx', fs', ea', l', q4⟩ => ?_
  exact setattr_ok I4 ea' c n l' rz fun s5 I5 => ⟨σ, _, I5, q4⟩
def rAdd : V → V → Hp → VK → Prop := fun x y H Q => ∃ i j, x = .int i ∧ y = .int j ∧ Q (.int (i + j)) H
def rSub : V → V → Hp → VK → Prop := fun x y H Q => ∃ i j, x = .int i ∧ y = .int j ∧ Q (.int (i - j)) H
theorem in_add : InOp X .Add rAdd := by
  rintro pins s σ H x y u v Q I rx ry ⟨i, j, rfl, rfl, q⟩
  obtain ⟨t, rfl⟩ := (show ∃ t, u = Value.int i t from rx)
  obtain ⟨t', rfl⟩ := (show ∃ t', v = Value.int j t' from ry)
  exact PyProof.Rows.iadd_int ⟨.int (i + j), H, I.tok _, ⟨_, rfl⟩, q⟩
theorem in_sub : InOp X .Sub rSub := by
  rintro pins s σ H x y u v Q I rx ry ⟨i, j, rfl, rfl, q⟩
  obtain ⟨t, rfl⟩ := (show ∃ t, u = Value.int i t from rx)
  obtain ⟨t', rfl⟩ := (show ∃ t', v = Value.int j t' from ry)
  exact PyProof.Rows.isub_int ⟨.int (i - j), H, I.tok _, ⟨_, rfl⟩, q⟩

/-- what is between an instance and its method: the tree of a method call -/
theorem methcall_of {pl : Sem Bool} {m : Str} {apos : Pos} {args : List Expr} {pins : List (Addr × Obj)} {s : Shared} {σ : St} {H : Hp} {Q : Value → Shared → Prop} {te : TE} (he : PE X e te) (I : Inv X pins σ H s)
    (h : te σ H fun x H1 => ∃ a C dx fs g, x = .ref a ∧ H1 a = some (.ins C dx fs) ∧ Cls X.K C ∧ Meth X.K C m g ∧ fs.lookup m = none ∧
      ∀ s1, Inv X pins σ H1 s1 → wpAny (model X.prog X.w) X.A (callWith pos (.ref g) [.ref a] (backTo pos (starEach args X.env)) (backToKw pos (keywordEach [] X.env))) Q X.xe s1)
    (ht : eval (.Call (.Attribute e m apos) args [] pos) X.env = (do
      let ov ← eval e X.env
      standAt apos.atName
      let (f, first) ← holding [ov] (getMethod ov m pl)
      callWith pos f first (backTo pos (starEach args X.env)) (backToKw pos (keywordEach [] X.env)))) :
    wpAny (model X.prog X.w) X.A (eval (.Call (.Attribute e m apos) args [] pos) X.env) Q X.xe s := by
  refine PySem.W.methodCall_KW (pl := pl) (thn (he pins s σ H _ I h) fun u s1 ⟨x, H1, I1, rx, a, C, dx, fs, g, ex, ea, c, k, l, q⟩ => ?_) ht
  subst ex
  obtain rfl : u = Value.ref a := rx
  exact getmeth_ok I1 ea c k l (q s1 I1)
end

/-! ### isinstance -/
section
variable {X : Cx} {pins : List (Addr × Obj)} {σ : St} {H : Hp} {s : Shared} {A : Around} {E : Value → Shared → Prop} {Q : Value → Shared → Prop} {c : Value} {b : Bool}
/-- the type of a value, as the fragment's deciders take it; for an instance its class -/
inductive TyOf (K : PySem.W.Frag) (H : Hp) : V → Value → Prop where
  | non : TyOf K H .non (.type "NoneType")
  | bl (x : Bool) : TyOf K H (.bl x) (.type "bool")
  | int (i : Int) : TyOf K H (.int i) (.type "int")
  | str (x : Str) : TyOf K H (.str x) (.type "str")
  | flt (x : UInt64) : TyOf K H (.flt x) (.type "float")
  | lst {a : Addr} {xs : List V} (e : H a = some (.lst xs)) : TyOf K H (.ref a) (.type "list")
  | frz {a : Addr} {o : Obj} {xs : List V} (e : H a = some (.frz o (.lst xs))) : TyOf K H (.ref a) (.type "list")
  | tup {a : Addr} {xs : List V} (e : H a = some (.tup xs)) : TyOf K H (.ref a) (.type "tuple")
  | dK {a : Addr} {kvs : List (Key × V)} (e : H a = some (.dK kvs)) : TyOf K H (.ref a) (.type "dict")
  | dT {a : Addr} {kvs : List (List Key × V)} (e : H a = some (.dT kvs)) : TyOf K H (.ref a) (.type "dict")
  | ins {a C dx : Addr} {fs : List (Str × V)} (e : H a = some (.ins C dx fs)) (cl : Cls K C) (ha : PySem.W.findIn K (.ref C) "__class__" = some (some (.builtin "object.__class__")))
      (hn : PySem.W.specialIn K (.builtin "object.__class__") "__get__" = some (some (.builtin "getset_descriptor.__get__"))) (htk : PySem.W.takesIn K (.builtin "object.__class__") = some true)
      (hm : PySem.W.mroIn K C (.type "object") = some true) : TyOf K H (.ref a) (.ref C)
/-- isinstance(x, c) for one class c, a built-in or an own one: kitOne's answer -/
theorem isinst_ok {x : V} {u t : Value} (I : Inv X pins σ H s) (rx : RelV x u) (ty : TyOf X.K H x t) (e : PySem.W.kitOne X.K t c = some b) (h : ∀ tk, Q (.bool b) { s with toks := tk }) :
    wpAny (model X.prog X.w) A (call (.builtin "isinstance") [u, c]) Q E s := by
  cases ty with
  | non => cases (show u = Value.none from rx); exact PySem.W.kia_one PySem.W.kitx_none I.kIn True.intro e (fun z => nomatch z) h
  | bl y => cases (show u = Value.bool y from rx); exact PySem.W.kia_one PySem.W.kitx_bool I.kIn True.intro e (fun z => nomatch z) h
  | int i => obtain ⟨t, q⟩ := (show ∃ t, u = Value.int i t from rx); cases q; exact PySem.W.kia_one PySem.W.kitx_int I.kIn True.intro e (fun z => nomatch z) h
  | str y => obtain ⟨t, q⟩ := (show ∃ t, u = Value.str y t from rx); cases q; exact PySem.W.kia_one PySem.W.kitx_str I.kIn True.intro e (fun z => nomatch z) h
  | flt y => obtain ⟨t, q⟩ := (show ∃ t, u = Value.float y t from rx); cases q; exact PySem.W.kia_one PySem.W.kitx_float I.kIn True.intro e (fun z => nomatch z) h
  | @lst a xs ea =>
    cases (show u = Value.ref a from rx)
    obtain ⟨_, _, n, _, h1⟩ := (show ObjOk X.prog X.w H s.heap a (.lst xs) from I.hok a _ ea)
    exact PySem.W.kia_one PySem.W.kitx_list I.kIn ⟨_, h1, rfl⟩ e (fun z => nomatch z) h
  | @frz a ob xs ea =>
    cases (show u = Value.ref a from rx)
    obtain ⟨_, _, _, n, _, h1⟩ := (show ObjOk X.prog X.w H s.heap a (.frz ob (.lst xs)) from I.hok a _ ea)
    exact PySem.W.kia_one PySem.W.kitx_list I.kIn ⟨_, h1, rfl⟩ e (fun z => nomatch z) h
  | @tup a xs ea =>
    cases (show u = Value.ref a from rx)
    obtain ⟨_, _, _, p⟩ := (show ObjOk X.prog X.w H s.heap a (.tup xs) from I.hok a _ ea)
    obtain ⟨o, h1, h2, _⟩ := p
    exact PySem.W.kia_one PySem.W.kitx_tuple I.kIn ⟨o, h1, h2⟩ e (fun z => nomatch z) h
  | @dK a kvs ea =>
    cases (show u = Value.ref a from rx)
    obtain ⟨_, _, vs, _, p⟩ := (show ObjOk X.prog X.w H s.heap a (.dK kvs) from I.hok a _ ea)
    obtain ⟨o, es, ep, h1, h2, _⟩ := p
    exact PySem.W.kia_one PySem.W.kitx_dict I.kIn ⟨o, h1, h2.1⟩ e (fun z => nomatch z) h
  | @dT a kvs ea =>
    cases (show u = Value.ref a from rx)
    obtain ⟨_, _, xs, _, o, es, ep, h1, h2, _⟩ := (show ObjOk X.prog X.w H s.heap a (.dT kvs) from I.hok a _ ea)
    exact PySem.W.kia_one PySem.W.kitx_dict I.kIn ⟨o, h1, h2.1⟩ e (fun z => nomatch z) h
  | @ins a C dx fs ea cl ha hn htk hm =>
    cases (show u = Value.ref a from rx)
    obtain ⟨mA, O, _⟩ := ins_get I.hok ea
    obtain ⟨od, J, _⟩ := O.look
    exact PySem.W.kia_one (PySem.W.kitx_own (cl.get _) cl.hd ha hn htk hm) I.kIn J e (fun z => nomatch z) h
end
end L2

namespace L2
open PySem PySem.Spec PyProof.Rows

/-! ### room -/
structure Room (k : Nat) (A : Around) : Prop where
  hd : A.handled = none
  dp : A.depth + 3 * k + 5 < recursionLimit
  un : A.units + 16 * k + 200 < cLine
theorem Room.mono {j k : Nat} {A : Around} (r : Room k A) (h : j ≤ k) : Room j A := ⟨r.hd, by have := r.dp; omega, by have := r.un; omega⟩
theorem Room.deeper {k : Nat} {A : Around} (r : Room (k + 1) A) (env : Env) : Room k (A.deeper env) :=
  ⟨r.hd, by have := r.dp; show A.depth + 1 + 3 * k + 5 < _; omega, by have := r.un; show A.units + 3 + 16 * k + 200 < _; omega⟩
theorem Room.in1 {k : Nat} {A : Around} (r : Room (k + 1) A) : Room k A.in1 :=
  ⟨r.hd, by have := r.dp; show A.depth + 3 * k + 5 < _; omega, by have := r.un; show A.units + 1 + 16 * k + 200 < _; omega⟩
theorem make_depth {A : Around} {C : Addr} {us : List Value} {kw : List (Str × Value)} : (A.under (.builtin "type.__call__" ⟨.ref C :: us, kw⟩)).depth = A.depth + 1 := by
  first | rfl | simp [Around.under, Code.weight, Code.isCreation, Code.isGuard, Code.isCaller, Code.frames, Code.isFrame, guardIds]
theorem make_units {A : Around} {C : Addr} {us : List Value} {kw : List (Str × Value)} : (A.under (.builtin "type.__call__" ⟨.ref C :: us, kw⟩)).units = A.units + 1 := by
  first | rfl | simp [Around.under, Code.cUnits, Code.frames, Code.isFrame]
theorem Room.make {k : Nat} {A : Around} (r : Room (k + 1) A) (C : Addr) (us : List Value) (kw : List (Str × Value)) : Room k (A.under (.builtin "type.__call__" ⟨.ref C :: us, kw⟩)) :=
  ⟨r.hd, by have := r.dp; rw [make_depth]; omega, by have := r.un; rw [make_units]; omega⟩
theorem Room.depth {k : Nat} {A : Around} (r : Room k A) : A.depth < recursionLimit := by have := r.dp; omega
theorem Room.units {k : Nat} {A : Around} (r : Room k A) : A.units + 64 < cLine := by have := r.un; omega
theorem Room.units0 {k : Nat} {A : Around} (r : Room k A) : A.units < cLine := by have := r.un; omega

/-! ### argument lists and displays -/
def tNil : TA := fun _ H Q => Q [] H
def tCons (ta : TE) (tr : TA) : TA := fun σ H Q => ta σ H fun x H1 => tr σ H1 fun xs H2 => Q (x :: xs) H2
section
variable {X : Cx} {e : Expr} {es : List Expr} {te : TE} {t : TA} {pos : Pos}
theorem pa_nil : PA X [] tNil := fun _ _ _ _ H Q I h => Calls.spliced_nil ⟨[], H, I, .nil, h⟩
theorem pa_cons (ha : PE X e te) (hr : PA X es t) (hs : starEach (e :: es) X.env = (false, eval e X.env) :: starEach es X.env := by rfl) : PA X (e :: es) (tCons te t) := by
  intro pos pins s σ H Q I h
  rw [hs]
  show wpAny _ _ (spliced ((false, eval e X.env) :: backTo pos (starEach es X.env))) _ _ s
  refine Calls.spliced_cons (thn (ha pins s σ H _ I h) fun u s1 ⟨x, H1, I1, r1, q1⟩ => ?_)
  exact thn (hr pos pins s1 σ H1 _ I1 q1) fun us s2 ⟨xs, H2, I2, r2, q2⟩ => ⟨x :: xs, H2, I2, .cons r1 r2, q2⟩

/-- a tuple, a list of written items -/
def tTup (t : TA) : TE := fun σ H Q => t σ H fun xs H1 => xs.length ≤ sizeLine ∧ ∀ p, H1 p = none → Q (.ref p) (upd H1 p (.tup xs))
def tLst (t : TA) : TE := fun σ H Q => t σ H fun xs H1 => xs.length ≤ sizeLine ∧ ∀ p, H1 p = none → Q (.ref p) (upd H1 p (.lst xs))
theorem pe_tup {x1} (h : PA X es t) : PE X (.Tuple es x1 pos) (tTup t) := by
  intro pins s σ H Q I hq
  refine wpAny_Tuple_spliced (thn (h pos pins s σ H _ I hq) fun us s1 ⟨xs, H1, I1, r, z, q⟩ => ⟨by rw [← r.length]; exact z, ?_⟩)
  have hf : H1 s1.heap.objs.size = none := I1.hok.fresh (Nat.le_refl _)
  refine ⟨.ref s1.heap.objs.size, upd H1 s1.heap.objs.size (.tup xs), I1.laid (t' := s1.toks) (fun b u e => Heap.get?_push_of_some _ e) (Nat.le_refl _) ?_, rfl, q _ hf⟩
  exact ⟨z, us, r, ⟨_, Heap.get?_push_size _ rfl, rfl, _, rfl⟩⟩
theorem pe_lst (h : PA X es t) : PE X (.List es pos) (tLst t) := by
  intro pins s σ H Q I hq
  refine wpAny_List_spliced (thn (h pos pins s σ H _ I hq) fun us s1 ⟨xs, H1, I1, r, z, q⟩ => ⟨by rw [← r.length]; exact z, ?_⟩)
  have hf : H1 s1.heap.objs.size = none := I1.hok.fresh (Nat.le_refl _)
  refine ⟨.ref s1.heap.objs.size, upd H1 s1.heap.objs.size (.lst xs), I1.laid (t' := s1.toks) (fun b u e => Heap.get?_push_of_some _ e) (Nat.le_refl _) ?_, rfl, q _ hf⟩
  exact ⟨z, us, 0, r, Heap.get?_push_size _ rfl⟩
end

/-! ### what a def promises -/
/-- a def's promise: the bound arguments in the parameters' order, the heap, the wanted end, the wanted exception -/
abbrev Sp := List V → Hp → VK → XK → Prop
/-- how an exception lies behind a call (file 08 gives it): the callers' frames, abstract heap and state ahead of the call, the wish, the exception, the state -/
abbrev CXT := List Env → Hp → Shared → XK → Value → Shared → Prop

/-- the state at a call -/
structure Env0 (P : Program) (w : World) (K : PySem.W.Frag) (mg : Str → Option Value) (base : Heap) (A : Around) (outer : List Env) (s : Shared) (H : Hp) : Prop where
  frames : A.frames = some outer
  mod : Mod K mg base
  bs : ∀ b o, base.get? b = some o → s.heap.get? b = some o ∧ H b = none
  bsz : base.objs.size ≤ s.heap.objs.size
  funs : s.heap.FunFrames base outer
  frf : ∀ b ∈ frs outer, H b = none
  hok : HOk P w H s.heap
  bare : AllBare s.gens
/-- a call's end -/
def CE (outer : List Env) (P : Program) (w : World) (H : Hp) (s : Shared) (Q : VK) (u : Value) (s' : Shared) : Prop :=
  ∃ v H', s'.os = s.os ∧ AllBare s'.gens ∧ Un (frs outer) [] H H' s.heap s'.heap ∧ HOk P w H' s'.heap ∧ RelV v u ∧ Q v H'
def CR (CX : CXT) (outer : List Env) (P : Program) (w : World) (H : Hp) (s : Shared) (Q : VK) (E : XK) (r : Result) (s' : Shared) : Prop :=
  match r with
  | .ok (.ret u) => CE outer P w H s Q u s'
  | .ok _ => False
  | .error e => CX outer H s E e s'
structure FnOk (P : Program) (w : World) (K : PySem.W.Frag) (mg : Str → Option Value) (base : Heap) (CX : CXT) (k : Nat) (f : Addr) (fd : FuncData) (ps : List Str) (sp : Sp) : Prop where
  len : ∀ vs H Q E, sp vs H Q E → vs.length = ps.length
  run : ∀ (A : Around) (outer : List Env) (s : Shared) (H : Hp) (args : Args) (us : List Value) (vs : List V) (Q : VK) (E : XK), Room k A → Env0 P w K mg base A outer s H → BindsTo s fd args (ps.zip us) → Vals vs us → sp vs H Q E →
    codeAny (model P w) A (.call (.ref f) args) (CR CX outer P w H s Q E) s
theorem FnOk.mono {P : Program} {w : World} {K : PySem.W.Frag} {mg : Str → Option Value} {base : Heap} {CX : CXT} {j k : Nat} {f : Addr} {fd : FuncData} {ps : List Str} {sp : Sp} (F : FnOk P w K mg base CX j f fd ps sp) (h : j ≤ k) :
    FnOk P w K mg base CX k f fd ps sp := ⟨F.len, fun A outer s H args us vs Q E hr => F.run A outer s H args us vs Q E (hr.mono h)⟩
/-- a weaker promise -/
theorem FnOk.imp {P : Program} {w : World} {K : PySem.W.Frag} {mg : Str → Option Value} {base : Heap} {CX : CXT} {k : Nat} {f : Addr} {fd : FuncData} {ps : List Str} {sp sp' : Sp} (F : FnOk P w K mg base CX k f fd ps sp)
    (h : ∀ vs H Q E, sp' vs H Q E → sp vs H Q E) : FnOk P w K mg base CX k f fd ps sp' :=
  ⟨fun vs H Q E q => F.len vs H Q E (h _ _ _ _ q), fun A outer s H args us vs Q E hr he hb hv hs => F.run A outer s H args us vs Q E hr he hb hv (h _ _ _ _ hs)⟩

theorem Env0.make {P : Program} {w : World} {K : PySem.W.Frag} {mg : Str → Option Value} {base : Heap} {A : Around} {outer : List Env} {s : Shared} {H : Hp} (e : Env0 P w K mg base A outer s H) (C : Addr) (us : List Value) (kw : List (Str × Value)) :
    Env0 P w K mg base (A.under (.builtin "type.__call__" ⟨.ref C :: us, kw⟩)) outer s H := ⟨by first | exact e.frames | (simpa [Around.under, Code.envs, Code.isFrame, pushEnvs] using e.frames), e.mod, e.bs, e.bsz, e.funs, e.frf, e.hok, e.bare⟩
theorem Env0.in1 {P : Program} {w : World} {K : PySem.W.Frag} {mg : Str → Option Value} {base : Heap} {A : Around} {outer : List Env} {s : Shared} {H : Hp} (e : Env0 P w K mg base A outer s H) :
    Env0 P w K mg base A.in1 outer s H := ⟨e.frames, e.mod, e.bs, e.bsz, e.funs, e.frf, e.hok, e.bare⟩

section
variable {X : Cx} {pins : List (Addr × Obj)} {σ : St} {H : Hp} {s s' : Shared}
/-- from a body: what a callee wants -/
theorem Inv.env0 (I : Inv X pins σ H s) : Env0 X.prog X.w X.K X.mg X.base X.A X.stack s H :=
  ⟨I.ok.frames, I.ok.mod, I.bs, Nat.le_trans I.ok.bsz I.sz, I.stack, I.stkFree, I.hok, I.bare⟩
/-- behind a call -/
theorem Inv.after {Q : VK} {u : Value} (I : Inv X pins σ H s) (h : CE X.stack X.prog X.w H s Q u s') : EP X pins σ Q u s' := by
  obtain ⟨v, H', os, bare, un, hok, r, q⟩ := h
  obtain ⟨hh, g, d, t, os'⟩ := s'
  obtain rfl : os' = s.os := os
  exact ⟨v, H', I.call (h' := hh) (g' := g) (d' := d) (t' := t) (ch := []) un hok bare (fun b z => absurd z (by simp)), r, q⟩
end

/-! ### calls -/
/-- f(..): the written arguments, then the defaults dvs; E: what is wanted of an exception -/
def tCall (sp : Sp) (dvs : List V) (E : XK) (t : TA) : TE := fun σ H Q => t σ H fun vs H1 => sp (vs ++ dvs) H1 Q E
/-- o.m(..) of an instance of the class at C -/
def tMeth (C : Addr) (m : Str) (sp : Sp) (dvs : List V) (E : XK) (ta : TE) (t : TA) : TE := fun σ H Q => ta σ H fun x H1 => ∃ a dx fs, x = .ref a ∧ H1 a = some (.ins C dx fs) ∧ fs.lookup m = none ∧
  t σ H1 fun vs H2 => sp (x :: (vs ++ dvs)) H2 Q E
/-- C(..): a new instance and its dict, then __init__ -/
def tMake (C : Addr) (sp : Sp) (dvs : List V) (E : XK) (t : TA) : TE := fun σ H Q => t σ H fun vs H1 => ∀ x dx, H1 x = none → H1 dx = none → dx ≠ x →
  sp (.ref x :: (vs ++ dvs)) (upd (upd H1 dx (.own x)) x (.ins C dx [])) (fun v H2 => v = .non ∧ Q (.ref x) H2) E

/-- how the parameters are bound: us the positional arguments, kw the keywords' values by name, ds the defaults that fill up -/
def Binds (K : PySem.W.Frag) (fd : FuncData) (ps : List Str) (ds : List Value) : Prop :=
  ∀ (s : Shared) (us : List Value), K.In s.heap → (us ++ ds).length = ps.length → BindsTo s fd ⟨us, []⟩ (ps.zip (us ++ ds))
/-- every parameter is given -/
theorem Binds.all {K : PySem.W.Frag} {fd : FuncData} {ps : List Str} (h : ∀ us : List Value, us.length = ps.length → bindArgs fd ⟨us, []⟩ = pure (ps.zip us)) : Binds K fd ps [] := fun s us _ hl => by
  rw [List.append_nil] at hl ⊢
  exact .of_eq (h us hl)

/-- an exception of a callee reaches what this body wants of exceptions -/
def Passes (CX : CXT) (X : Cx) (E : XK) : Prop := ∀ (pins : List (Addr × Obj)) (σ : St) (H : Hp) (s : Shared) (e : Value) (s' : Shared), Inv X pins σ H s → CX X.stack H s E e s' → X.xe e s'

section
variable {X : Cx} {CX : CXT} {k : Nat} {f C : Addr} {fd : FuncData} {ps : List Str} {sp : Sp} {dvs : List V} {ds : List Value} {E : XK} {x m : Str} {p pos apos : Pos} {e o : Expr} {es : List Expr} {ta : TE} {t : TA}

/-- the callee runs -/
theorem run_fn {pins : List (Addr × Obj)} {σ : St} {H : Hp} {s : Shared} {Q : VK} {us : List Value} {vs : List V} (F : FnOk X.prog X.w X.K X.mg X.base CX k f fd ps sp) (hr : Room k X.A) (hb : Binds X.K fd ps ds) (hd : Vals dvs ds) (hx : Passes CX X E)
    (I : Inv X pins σ H s) (r : Vals vs us) (h : sp (vs ++ dvs) H Q E) : wpAny (model X.prog X.w) X.A (call (.ref f) us) (EP X pins σ Q) X.xe s := by
  have r2 : Vals (vs ++ dvs) (us ++ ds) := r.append hd
  have hl : (us ++ ds).length = ps.length := by rw [← r2.length]; exact F.len _ _ _ _ h
  refine wpAny_call (codeAny_mono (F.run X.A X.stack s H ⟨us, []⟩ (us ++ ds) (vs ++ dvs) Q E hr I.env0 (hb s us I.kIn hl) r2 h) fun r s' hq => ?_)
  cases r with
  | error e => exact hx pins σ H s e s' I hq
  | ok fl =>
    cases fl with
    | ret u => exact I.after hq
    | next => exact False.elim hq
    | brk => exact False.elim hq
    | cont => exact False.elim hq

theorem pe_call (F : FnOk X.prog X.w X.K X.mg X.base CX k f fd ps sp) (hr : Room k X.A) (hg : Gl X x) (hm : X.mg x = some (.ref f)) (hk : PySem.W.keepIn X.K (.ref f) = true) (hb : Binds X.K fd ps ds) (hd : Vals dvs ds) (hx : Passes CX X E)
    (ha : PA X (e :: es) t) (hdb : (x == ("__debug__" : Str)) = false := by decide) (he : starEach (e :: es) X.env = (false, eval e X.env) :: starEach es X.env := by rfl) (hpl : (backTo pos (starEach es X.env)).any (·.1) = false := by rfl) :
    PE X (.Call (.Name x p) (e :: es) [] pos) (tCall sp dvs E t) := by
  intro pins s σ H Q I h
  refine wpAny_Call_Name_kw (ld_glob I hg hm ?_ hdb)
  refine PySem.W.callWith_K (h₀ := X.base) I.ok.mod.kin hk (thn (ha pos pins s σ H _ I h) fun us s1 ⟨vs, H1, I1, r, q⟩ => ⟨I1.kIn, ?_⟩) he hpl
  exact run_fn F hr hb hd hx I1 r q
theorem pe_call0 (F : FnOk X.prog X.w X.K X.mg X.base CX k f fd ps sp) (hr : Room k X.A) (hg : Gl X x) (hm : X.mg x = some (.ref f)) (hk : PySem.W.keepIn X.K (.ref f) = true) (hb : Binds X.K fd ps ds) (hd : Vals dvs ds) (hx : Passes CX X E)
    (hdb : (x == ("__debug__" : Str)) = false := by decide) : PE X (.Call (.Name x p) [] [] pos) (tCall sp dvs E tNil) := by
  intro pins s σ H Q I h
  refine wpAny_Call_Name_kw (ld_glob I hg hm ?_ hdb)
  exact PySem.W.callWith_K0 I.kIn hk (run_fn (us := []) F hr hb hd hx I .nil h)

/-- o.m(e, ..) -/
theorem pe_meth {pl : Sem Bool} (he : PE X o ta) (c : Cls X.K C) (hm : Meth X.K C m f) (F : FnOk X.prog X.w X.K X.mg X.base CX k f fd ps sp) (hr : Room k X.A) (hb : Binds X.K fd ps ds) (hd : Vals dvs ds) (hx : Passes CX X E) (ha : PA X (e :: es) t)
    (hst : starEach (e :: es) X.env = (false, eval e X.env) :: starEach es X.env := by rfl) (hpl : (backTo pos (starEach es X.env)).any (·.1) = false := by rfl)
    (ht : eval (.Call (.Attribute o m apos) (e :: es) [] pos) X.env = (do
      let ov ← eval o X.env
      standAt apos.atName
      let (f, first) ← holding [ov] (getMethod ov m pl)
      callWith pos f first (backTo pos (starEach (e :: es) X.env)) (backToKw pos (keywordEach [] X.env))) := by rfl) :
    PE X (.Call (.Attribute o m apos) (e :: es) [] pos) (tMeth C m sp dvs E ta t) := by
  intro pins s σ H Q I h
  refine PySem.W.methodCall_KW (pl := pl) (thn (he pins s σ H _ I h) fun u s1 ⟨x, H1, I1, rx, a, dx, fs, ex, ea, l, q⟩ => ?_) ht
  subst ex
  obtain rfl : u = Value.ref a := rx
  refine getmeth_ok I1 ea c hm l ?_
  refine PySem.W.callWith_K (first := [.ref a]) (h₀ := X.base) I.ok.mod.kin hm.kp (thn (ha pos pins s1 σ H1 _ I1 q) fun us s2 ⟨vs, H2, I2, r, q2⟩ => ⟨I2.kIn, ?_⟩) hst hpl
  exact run_fn (us := .ref a :: us) (vs := .ref a :: vs) F hr hb hd hx I2 (.cons rfl r) q2
/-- o.m() -/
theorem pe_meth0 {pl : Sem Bool} (he : PE X o ta) (c : Cls X.K C) (hm : Meth X.K C m f) (F : FnOk X.prog X.w X.K X.mg X.base CX k f fd ps sp) (hr : Room k X.A) (hb : Binds X.K fd ps ds) (hd : Vals dvs ds) (hx : Passes CX X E)
    (ht : eval (.Call (.Attribute o m apos) [] [] pos) X.env = (do
      let ov ← eval o X.env
      standAt apos.atName
      let (f, first) ← holding [ov] (getMethod ov m pl)
      callWith pos f first (backTo pos (starEach [] X.env)) (backToKw pos (keywordEach [] X.env))) := by rfl) :
    PE X (.Call (.Attribute o m apos) [] [] pos) (tMeth C m sp dvs E ta tNil) := by
  intro pins s σ H Q I h
  refine PySem.W.methodCall_KW (pl := pl) (thn (he pins s σ H _ I h) fun u s1 ⟨x, H1, I1, rx, a, dx, fs, ex, ea, l, q⟩ => ?_) ht
  subst ex
  obtain rfl : u = Value.ref a := rx
  refine getmeth_ok I1 ea c hm l ?_
  exact PySem.W.callWith_K0 (first := [.ref a]) I1.kIn hm.kp (run_fn (us := [.ref a]) (vs := [.ref a]) F hr hb hd hx I1 (.cons rfl .nil) q)

/-- what a class must have to be made -/
structure Mk (K : PySem.W.Frag) (C f : Addr) : Prop where
  makes : PySem.W.makesIn K C = true
  init : PySem.W.findIn K (.ref C) "__init__" = some (some (.ref f))
  fn : PySem.W.isFn K (.ref f) = true
  kp : PySem.W.keepIn K (.ref C) = true

theorem run_make {pins : List (Addr × Obj)} {σ : St} {H : Hp} {s : Shared} {Q : VK} {us : List Value} {vs : List V} (M : Mk X.K C f) (F : FnOk X.prog X.w X.K X.mg X.base CX k f fd ps sp) (hr : Room (k + 1) X.A) (hb : Binds X.K fd ps ds) (hd : Vals dvs ds)
    (hx : Passes CX X E) (I : Inv X pins σ H s) (r : Vals vs us)
    (h : ∀ x dx, H x = none → H dx = none → dx ≠ x → sp (.ref x :: (vs ++ dvs)) (upd (upd H dx (.own x)) x (.ins C dx [])) (fun v H2 => v = .non ∧ Q (.ref x) H2) E) :
    wpAny (model X.prog X.w) X.A (call (.ref C) us) (EP X pins σ Q) X.xe s := by
  have hq := h (s.heap.objs.size + 1) s.heap.objs.size (I.hok.fresh (Nat.le_succ _)) (I.hok.fresh (Nat.le_refl _)) (Nat.ne_of_lt (Nat.lt_succ_self _))
  have I2 := Inv.made (C := C) I
  have r2 : Vals (V.ref (s.heap.objs.size + 1) :: (vs ++ dvs)) (Value.ref (s.heap.objs.size + 1) :: (us ++ ds)) := .cons rfl (r.append hd)
  have hl : (Value.ref (s.heap.objs.size + 1) :: us ++ ds).length = ps.length := by
    have e := r2.length
    rw [F.len _ _ _ _ hq] at e
    exact e.symm
  refine wpAny_call (make_map (f := f) I.kIn M.makes M.init (beq_iff_eq.mp M.fn) (codeAny_mono (F.run _ X.stack _ _ ⟨Value.ref (s.heap.objs.size + 1) :: us, []⟩ (Value.ref (s.heap.objs.size + 1) :: (us ++ ds)) _ _ E (hr.make C us [])
    (I2.env0.make C us []) (hb _ (Value.ref (s.heap.objs.size + 1) :: us) I2.kIn hl) r2 hq) fun r s' hq' => ?_))
  cases r with
  | error e => exact hx pins σ _ _ e s' I2 hq'
  | ok fl =>
    cases fl with
    | ret u =>
      obtain ⟨v, H', I3, rv, ev, q3⟩ := I2.after hq'
      subst ev
      exact ⟨rv, ⟨V.ref (s.heap.objs.size + 1), H', I3, rfl, q3⟩⟩
    | next => exact False.elim hq'
    | brk => exact False.elim hq'
    | cont => exact False.elim hq'
theorem pe_make (M : Mk X.K C f) (F : FnOk X.prog X.w X.K X.mg X.base CX k f fd ps sp) (hr : Room (k + 1) X.A) (hg : Gl X x) (hm : X.mg x = some (.ref C)) (hb : Binds X.K fd ps ds) (hd : Vals dvs ds) (hx : Passes CX X E)
    (ha : PA X (e :: es) t) (hdb : (x == ("__debug__" : Str)) = false := by decide) (he : starEach (e :: es) X.env = (false, eval e X.env) :: starEach es X.env := by rfl) (hpl : (backTo pos (starEach es X.env)).any (·.1) = false := by rfl) :
    PE X (.Call (.Name x p) (e :: es) [] pos) (tMake C sp dvs E t) := by
  intro pins s σ H Q I h
  refine wpAny_Call_Name_kw (ld_glob I hg hm ?_ hdb)
  refine PySem.W.callWith_K (h₀ := X.base) I.ok.mod.kin M.kp (thn (ha pos pins s σ H _ I h) fun us s1 ⟨vs, H1, I1, r, q⟩ => ⟨I1.kIn, ?_⟩) he hpl
  exact run_make M F hr hb hd hx I1 r q
theorem pe_make0 (M : Mk X.K C f) (F : FnOk X.prog X.w X.K X.mg X.base CX k f fd ps sp) (hr : Room (k + 1) X.A) (hg : Gl X x) (hm : X.mg x = some (.ref C)) (hb : Binds X.K fd ps ds) (hd : Vals dvs ds) (hx : Passes CX X E)
    (hdb : (x == ("__debug__" : Str)) = false := by decide) : PE X (.Call (.Name x p) [] [] pos) (tMake C sp dvs E tNil) := by
  intro pins s σ H Q I h
  refine wpAny_Call_Name_kw (ld_glob I hg hm ?_ hdb)
  exact PySem.W.callWith_K0 I.kIn M.kp (run_make (us := []) M F hr hb hd hx I .nil h)
end

/-! ### keywords -/
/-- the values of the keywords, from the left -/
def PK (X : Cx) (kws : List Keyword) (t : TA) : Prop :=
  ∀ (pos : Pos) (pins : List (Addr × Obj)) (s : Shared) (σ : St) (H : Hp) (Q : List V → Hp → Prop), Inv X pins σ H s → t σ H Q → wpAny (model X.prog X.w) X.A (evalAll ((backToKw pos (keywordEach kws X.env)).map (·.2))) (AP X pins σ Q) X.xe s
section
variable {X : Cx} {CX : CXT} {k : Nat} {f C : Addr} {fd : FuncData} {ps ks : List Str} {sp : Sp} {E : XK} {x m : Str} {p pos apos kpos : Pos} {e o : Expr} {es : List Expr} {kws : List Keyword} {te ta : TE} {t tk : TA} {nm : Option Str}
theorem pk_nil : PK X [] tNil := fun _ _ _ _ H Q I h => wpAny_evalAll_nil ⟨[], H, I, .nil, h⟩
theorem pk_cons (ha : PE X e te) (hr : PK X kws t) : PK X (⟨nm, e, kpos⟩ :: kws) (tCons te t) := by
  intro pos pins s σ H Q I h
  show wpAny _ _ (evalAll ((do let v ← eval e X.env; standAt pos; pure v) :: (backToKw pos (keywordEach kws X.env)).map (·.2))) _ _ s
  refine wpAny_evalAll_cons (wpAny_bind (thn (ha pins s σ H _ I h) fun u s1 ⟨x, H1, I1, r1, q1⟩ => wpAny_bind (wpAny_standAt (wpAny_pure ?_))))
  exact thn (hr pos pins s1 σ H1 _ I1 q1) fun us s2 ⟨xs, H2, I2, r2, q2⟩ => ⟨x :: xs, H2, I2, .cons r1 r2, q2⟩

/-- how a call with keywords binds: g puts the positional values us and the keywords' values ws (names ks) in the parameters' order, defaults among them -/
structure KBinds (K : PySem.W.Frag) (fd : FuncData) (ps ks : List Str) (g : List Value → List Value → List Value) (gV : List V → List V → List V) : Prop where
  to : ∀ (s : Shared) (us ws : List Value), K.In s.heap → (g us ws).length = ps.length → BindsTo s fd ⟨us, ks.zip ws⟩ (ps.zip (g us ws))
  rel : ∀ {vs : List V} {us : List Value} {zs : List V} {ws : List Value}, Vals vs us → Vals zs ws → Vals (gV vs zs) (g us ws)
def tCallK (sp : Sp) (gV : List V → List V → List V) (E : XK) (t tk : TA) : TE := fun σ H Q => t σ H fun vs H1 => tk σ H1 fun zs H2 => sp (gV vs zs) H2 Q E
variable {g : List Value → List Value → List Value} {gV : List V → List V → List V}
theorem run_fnk {pins : List (Addr × Obj)} {σ : St} {H : Hp} {s : Shared} {Q : VK} {us ws : List Value} {vs zs : List V} (F : FnOk X.prog X.w X.K X.mg X.base CX k f fd ps sp) (hr : Room k X.A) (hb : KBinds X.K fd ps ks g gV) (hx : Passes CX X E)
    (I : Inv X pins σ H s) (r : Vals vs us) (rz : Vals zs ws) (h : sp (gV vs zs) H Q E) : wpAny (model X.prog X.w) X.A (call (.ref f) us (ks.zip ws)) (EP X pins σ Q) X.xe s := by
  have r2 := hb.rel r rz
  have hl : (g us ws).length = ps.length := by rw [← r2.length]; exact F.len _ _ _ _ h
  refine wpAny_call (codeAny_mono (F.run X.A X.stack s H ⟨us, ks.zip ws⟩ (g us ws) (gV vs zs) Q E hr I.env0 (hb.to s us ws I.kIn hl) r2 h) fun r s' hq => ?_)
  cases r with
  | error e => exact hx pins σ H s e s' I hq
  | ok fl =>
    cases fl with
    | ret u => exact I.after hq
    | next => exact False.elim hq
    | brk => exact False.elim hq
    | cont => exact False.elim hq
/-- f(e, .., k = v, ..) -/
theorem pe_callK (F : FnOk X.prog X.w X.K X.mg X.base CX k f fd ps sp) (hr : Room k X.A) (hg : Gl X x) (hm : X.mg x = some (.ref f)) (hk : PySem.W.keepIn X.K (.ref f) = true) (hb : KBinds X.K fd ps ks g gV) (hx : Passes CX X E)
    (ha : PA X (e :: es) t) (hkw : PK X kws tk) (hall : (backToKw pos (keywordEach kws X.env)).all (·.1.isSome) = true := by rfl) (hks : (backToKw pos (keywordEach kws X.env)).filterMap (·.1) = ks := by rfl)
    (hdb : (x == ("__debug__" : Str)) = false := by decide) (he : starEach (e :: es) X.env = (false, eval e X.env) :: starEach es X.env := by rfl)
    (hpl : ((backTo pos (starEach (e :: es) X.env)).any (·.1) || (backToKw pos (keywordEach kws X.env)).any (·.1.isNone)) = false := by rfl) :
    PE X (.Call (.Name x p) (e :: es) kws pos) (tCallK sp gV E t tk) := by
  intro pins s σ H Q I h
  refine wpAny_Call_Name_kw (ld_glob I hg hm ?_ hdb)
  refine PySem.W.callWith_KW (h₀ := X.base) I.ok.mod.kin hk hall (thn (ha pos pins s σ H _ I h) fun us s1 ⟨vs, H1, I1, r, q⟩ => ?_) hpl he
  refine thn (hkw pos pins s1 σ H1 _ I1 q) fun ws s2 ⟨zs, H2, I2, rz, q2⟩ => ⟨I2.kIn, ?_⟩
  rw [hks]
  exact run_fnk F hr hb hx I2 r rz q2
end

/-! ### a def's body keeps its promise -/
/-- names: the parameters first -/
structure FnScope (N P : List Str) (sc : Scope) : Prop where
  kind : sc.kind = .function
  co : sc.isCoroutine = false
  gen : sc.isGenerator = false
  nd : N.Nodup
  pre : N.take P.length = P
  par : ∀ x ∈ P, sc.names.lookup x = some .local ∨ sc.names.lookup x = some .cell
  nofree : ∀ y ∈ sc.names, y.2 ≠ .free

theorem bindL_out {kindOf : Str → Option NameKind} {x : Str} : ∀ {binds : List (Str × Value)} {m : Str → Option Value}, (∀ v, (x, v) ∉ binds) → bindL kindOf binds m x = m x
  | [], _, _ => rfl
  | (n, v) :: r, m, h => by
    unfold bindL
    rw [bindL_out fun w hw => h w (List.mem_cons_of_mem _ hw)]
    split
    · have : x ≠ n := by rintro rfl; exact h v List.mem_cons_self
      simp [this]
    · rfl
theorem bindC_out {kindOf : Str → Option NameKind} {x : Str} : ∀ {binds : List (Str × Value)} {m : Str → Option Value}, (∀ v, (x, v) ∉ binds) → bindC kindOf binds m x = m x
  | [], _, _ => rfl
  | (n, v) :: r, m, h => by
    unfold bindC
    rw [bindC_out fun w hw => h w (List.mem_cons_of_mem _ hw)]
    split
    · rfl
    · have : x ≠ n := by rintro rfl; exact h v List.mem_cons_self
      simp [this]
theorem bindL_get {kindOf : Str → Option NameKind} {x : Str} {v : Value} : ∀ {P : List Str} {vs : List Value} {i : Nat} {m : Str → Option Value}, P.Nodup → P[i]? = some x → vs[i]? = some v → kindOf x = some .local →
    bindL kindOf (P.zip vs) m x = some v
  | [], _, _, _, _, h, _, _ => by simp at h
  | _ :: _, [], _, _, _, _, h, _ => by simp at h
  | p :: P, w :: vs, 0, m, nd, h1, h2, hk => by
    simp at h1 h2; subst h1; subst h2
    show bindL kindOf ((p, w) :: P.zip vs) m p = _
    unfold bindL
    rw [bindL_out fun v hv => (List.nodup_cons.mp nd).1 (List.of_mem_zip hv).1, if_pos hk]
    simp
  | p :: P, w :: vs, i + 1, m, nd, h1, h2, hk => by
    show bindL kindOf ((p, w) :: P.zip vs) m x = _
    unfold bindL
    exact bindL_get (i := i) (List.nodup_cons.mp nd).2 (by simpa using h1) (by simpa using h2) hk
theorem bindC_get {kindOf : Str → Option NameKind} {x : Str} {v : Value} : ∀ {P : List Str} {vs : List Value} {i : Nat} {m : Str → Option Value}, P.Nodup → P[i]? = some x → vs[i]? = some v → kindOf x ≠ some .local →
    bindC kindOf (P.zip vs) m x = some v
  | [], _, _, _, _, h, _, _ => by simp at h
  | _ :: _, [], _, _, _, _, h, _ => by simp at h
  | p :: P, w :: vs, 0, m, nd, h1, h2, hk => by
    simp at h1 h2; subst h1; subst h2
    show bindC kindOf ((p, w) :: P.zip vs) m p = _
    unfold bindC
    rw [bindC_out fun v hv => (List.nodup_cons.mp nd).1 (List.of_mem_zip hv).1, if_neg hk]
    simp
  | p :: P, w :: vs, i + 1, m, nd, h1, h2, hk => by
    show bindC kindOf ((p, w) :: P.zip vs) m x = _
    unfold bindC
    exact bindC_get (i := i) (List.nodup_cons.mp nd).2 (by simpa using h1) (by simpa using h2) hk

/-- the names' values at the entry -/
def start (N : List Str) (vs : List V) : St := vs.map some ++ List.replicate (N.length - vs.length) none

/-- the context of a def's body, at its entry; an exception leaves the frame, then lies as CX says -/
def cxOf (CX : CXT) (P : Program) (w : World) (K : PySem.W.Frag) (mg : Str → Option Value) (base : Heap) (N : List Str) (qual : Str) (scope : Scope) (f : Addr) (cd : Value) (A : Around) (outer : List Env) (s : Shared) (H : Hp) (E : XK) : Cx where
  prog := P
  w := w
  K := K
  mg := mg
  base := base
  A := A.deeper (envOfC qual scope s.heap.objs.size f cd)
  N := N
  s₀ := s
  H₀ := H
  env := envOfC qual scope s.heap.objs.size f cd
  outer := outer
  stack := envOfC qual scope s.heap.objs.size f cd :: outer
  ex := []
  calm := true
  fn := fun _ => true
  pn := []
  xe := fun e s' => wpAny (model P w) (A.deeper (envOfC qual scope s.heap.objs.size f cd)) (leaving (envOfC qual scope s.heap.objs.size f cd) e) (fun _ s'' => CX outer H s E e s'') (fun e' s'' => CX outer H s E e' s'') s'

theorem cell_has {sc : Scope} {n : Nat} {x : Str} (h : sc.names.lookup x = some .cell) : ∃ c, (cellsFrom n sc.names []).lookup x = some c := by
  have q := PySem.W.cellsFrom_some sc.names n [] (.inl h)
  exact Option.isSome_iff_exists.mp q

theorem inv_start {CX : CXT} {P : Program} {w : World} {K : PySem.W.Frag} {mg : Str → Option Value} {base : Heap} {N ps : List Str} {qual : Str} {scope : Scope} {f : Addr} {cd : Value} {A : Around} {outer : List Env} {s s1 : Shared} {H : Hp} {E : XK} {us : List Value} {vs : List V}
    (S : FnScope N ps scope) (hd : A.handled = none) (e0 : Env0 P w K mg base A outer s H) (hl : vs.length = ps.length) (r : Vals vs us)
    (x : InCallC s s.heap.objs.size (bindL (envOfC qual scope s.heap.objs.size f cd).kindOf (ps.zip us) fun _ => none) (cellsFrom (s.heap.objs.size + 1) scope.names []) (bindC (envOfC qual scope s.heap.objs.size f cd).kindOf (ps.zip us) fun _ => none) s1) :
    Inv (cxOf CX P w K mg base N qual scope f cd A outer s H E) [] (start N vs) H s1 := by
  have hpl : ps.length ≤ N.length := by have := congrArg List.length S.pre; rw [List.length_take] at this; omega
  obtain ⟨h1, tk, rfl, hk⟩ := x.done
  have noA : ∀ b : Addr, b ∉ (cxOf CX P w K mg base N qual scope f cd A outer s H E).ex := fun b z => absurd (show b ∈ ([] : List Addr) from z) (by simp)
  refine ⟨⟨e0.mod, S.kind, rfl, rfl, Nat.le_refl _, fun y z c h1 h2 => ?_, fun y hy => ?_, fun y c _ h => ?_, fun _ => hd, Around.frames_deeper e0.frames, .inr ⟨rfl, rfl⟩, fun b z => absurd z (noA b), e0.bs, e0.bsz, fun b _ _ => noA b, fun b z => absurd z (noA b), e0.funs, e0.frf⟩,
    rfl, e0.bare, Un.kept hk, ⟨_, x.toInCall.ns, fun i y v h1 h2 h3 => ?_⟩, fun y c h => ⟨_, x.cell y c h⟩, e0.hok.fresh (Nat.le_refl _), fun y c h => ?_, fun p hp => absurd (show p ∈ ([] : List (Addr × Obj)) from hp) (by simp), e0.hok.kept hk, ?_⟩
  · exact name_of_addr x.apart (PySem.mem_of_lookup h1) (PySem.mem_of_lookup h2)
  · have hy : scope.names.lookup y = some .cell ∨ scope.names.lookup y = some .free := hy
    rcases hy with hy | hy
    · exact cell_has hy
    · exact absurd rfl (S.nofree _ (PySem.mem_of_lookup hy))
  · exact Nat.le_of_lt (x.above y c (PySem.mem_of_lookup h))
  · have hi : i < vs.length := by
      unfold start at h2
      by_cases hi : i < vs.length
      · exact hi
      · rw [List.getElem?_append_right (by simpa using hi)] at h2
        rw [List.getElem?_replicate] at h2
        split at h2 <;> cases h2
    have ha : vs[i]? = some v := by
      unfold start at h2
      rw [List.getElem?_append_left (by simpa using hi), List.getElem?_map] at h2
      cases e : vs[i]? with
      | none => rw [e] at h2; cases h2
      | some a => rw [e] at h2; cases h2; rfl
    obtain ⟨u, hu, rv⟩ := r.get ha
    have hp : ps[i]? = some y := by
      rw [← S.pre, List.getElem?_take_of_lt (by omega)]; exact h1
    have ndP : ps.Nodup := by rw [← S.pre]; exact S.nd.sublist (List.take_sublist _ _)
    refine ⟨u, rv, ?_⟩
    rcases S.par y (List.mem_of_getElem? hp) with k | k
    · exact .inl ⟨k, bindL_get ndP hp hu k⟩
    · obtain ⟨c, e⟩ := cell_has (n := s.heap.objs.size + 1) k
      refine .inr ⟨.inl k, c, e, ?_⟩
      have q := x.cell y c e
      rw [bindC_get ndP hp hu (by show scope.names.lookup y ≠ _; rw [k]; decide)] at q
      exact q
  · exact e0.hok.fresh (Nat.le_of_lt (x.above y c (PySem.mem_of_lookup h)))
  · unfold start
    show _ = N.length
    rw [List.length_append, List.length_map, List.length_replicate]
    omega

/-- THE RULE: a def (or a method) of the text, by its body. The body's reading t is chosen for each entry; it is run at the parameters' values -/
theorem fn_of {CX : CXT} {P : Program} {w : World} {K : PySem.W.Frag} {mg : Str → Option Value} {base : Heap} {k : Nat} {f : Addr} {name qual : Str} {params : Arguments} {body : List Stmt} {scope : Scope} {dV kV doc pm cdv ct oc : Value} {an od : Option Addr}
    {osl : Array (Option Value)} {N ps : List Str} {sp : Sp} (lk : K.lookup f = some ⟨oc, od, .func (PySem.W.fnOf name qual params body scope dV kV doc pm an cdv ct), osl⟩) (hcd : PySem.W.codeIn K cdv qual = true) (S : FnScope N ps scope)
    (len : ∀ vs H Q E, sp vs H Q E → vs.length = ps.length)
    (hbody : ∀ (A : Around) (outer : List Env) (s : Shared) (H : Hp) (vs : List V) (Q : VK) (E : XK), Room k (A.deeper (envOfC qual scope s.heap.objs.size f cdv)) → sp vs H Q E →
      ∃ t, PSs (cxOf CX P w K mg base N qual scope f cdv A outer s H E) body t ∧ t { nx := fun _ H' => Q .non H', rt := Q } (start N vs) H) :
    FnOk P w K mg base CX (k + 1) f (PySem.W.fnOf name qual params body scope dV kV doc pm an cdv ct) ps sp := by
  refine ⟨len, fun A outer s H args us vs Q E hr e0 hb r hsp => ?_⟩
  have hl := len _ _ _ _ hsp
  have KX : K.In s.heap := e0.mod.kin.keeps fun b o e => (e0.bs b o e).1
  have lim : s.heap.NoLimit := e0.mod.nolimit.keeps fun b o e => (e0.bs b o e).1
  have hkind : ∀ y ∈ ps.zip us, scope.names.lookup y.1 = some .local ∨ (scope.names.lookup y.1 = some .cell ∧ ((cellsFrom (s.heap.objs.size + 1) scope.names []).lookup y.1).isSome = true) := fun ⟨n, v⟩ hy => by
    rcases S.par n (List.of_mem_zip hy).1 with q | q
    · exact .inl q
    · exact .inr ⟨q, PySem.W.cellsFrom_some _ _ _ (.inl q)⟩
  refine codeAny_call_function hr.depth (KX _ _ lk) rfl S.co S.gen rfl (PySem.W.codeRec_of KX hcd) (hb _ _ _ _ ?_)
  refine wpAny_newFunctionEnv_cells S.kind hkind fun env he s1 x => ?_
  subst he
  refine ⟨lim.keeps x.toInCall.keep, codeAny_func ?_⟩
  obtain ⟨t, ht, hq⟩ := hbody A outer s H vs Q E (hr.deeper _) hsp
  have I : Inv (cxOf CX P w K mg base N qual scope f cdv A outer s H E) [] (start N vs) H s1 := inv_start S hr.hd e0 hl r x
  refine wpAny_mono (ht [] s1 (start N vs) H _ I hq) (fun fl s' hs => ?_) fun e s' hs => hs
  have fin : ∀ {σ' : St} {H' : Hp} {v : V} {u : Value}, Inv (cxOf CX P w K mg base N qual scope f cdv A outer s H E) [] σ' H' s' → RelV v u → Q v H' → CE outer P w H s Q u s' :=
    fun {σ' H' v u} J rv q => ⟨v, H', J.os, J.bare, J.base, J.hok, rv, q⟩
  cases fl with
  | ret u =>
    obtain ⟨v, σ', H', J, rv, q⟩ := hs
    exact fin J rv q
  | next =>
    obtain ⟨σ', H', J, q⟩ := hs
    exact fin (v := V.non) (u := Value.none) J rfl q
  | brk =>
    obtain ⟨_, _, _, q⟩ := hs
    exact False.elim q
  | cont =>
    obtain ⟨_, _, _, q⟩ := hs
    exact False.elim q
end L2

namespace L2
open PySem PySem.Spec PyProof.Rows
section
variable {X : Cx} {x : Str} {p pos : Pos} {e : Expr} {es : List Expr} {t : TA} {id T : String} {r : List V → Hp → VK → Prop}

def tCB (r : List V → Hp → VK → Prop) (t : TA) : TE := fun σ H Q => t σ H fun vs H1 => r vs H1 Q
/-- f(e, ..), f a built-in function -/
theorem pe_callB (hc : CallR X (.builtin id) r) (hg : Gl X x) (hm : X.mg x = none) (hv : bootBuiltins x = some (.builtin id)) (ha : PA X (e :: es) t) (hn : x ≠ "__name__" := by decide) (hdb : (x == ("__debug__" : Str)) = false := by decide)
    (he : starEach (e :: es) X.env = (false, eval e X.env) :: starEach es X.env := by rfl) (hpl : (backTo pos (starEach es X.env)).any (·.1) = false := by rfl) : PE X (.Call (.Name x p) (e :: es) [] pos) (tCB r t) := by
  intro pins s σ H Q I h
  refine wpAny_Call_Name_kw (ld_blt I hg hm hv ?_ hn hdb)
  exact PyProof.Rows.callWith_builtin1 (thn (ha pos pins s σ H _ I h) fun us s1 ⟨vs, H1, I1, r1, q1⟩ => hc pins s1 σ H1 vs us Q I1 r1 q1) he hpl
/-- T(e, ..), T a built-in type -/
theorem pe_callTy (hc : CallR X (.type T) r) (hg : Gl X x) (hm : X.mg x = none) (hv : bootBuiltins x = some (.type T)) (ha : PA X (e :: es) t) (hn : x ≠ "__name__" := by decide) (hdb : (x == ("__debug__" : Str)) = false := by decide)
    (he : starEach (e :: es) X.env = (false, eval e X.env) :: starEach es X.env := by rfl) (hpl : (backTo pos (starEach es X.env)).any (·.1) = false := by rfl) : PE X (.Call (.Name x p) (e :: es) [] pos) (tCB r t) := by
  intro pins s σ H Q I h
  refine wpAny_Call_Name_kw (ld_blt I hg hm hv ?_ hn hdb)
  exact PyProof.Rows.callWith_type1 (thn (ha pos pins s σ H _ I h) fun us s1 ⟨vs, H1, I1, r1, q1⟩ => hc pins s1 σ H1 vs us Q I1 r1 q1) he hpl
/-- T() -/
theorem pe_callTy0 (hc : CallR X (.type T) r) (hg : Gl X x) (hm : X.mg x = none) (hv : bootBuiltins x = some (.type T)) (hn : x ≠ "__name__" := by decide) (hdb : (x == ("__debug__" : Str)) = false := by decide) :
    PE X (.Call (.Name x p) [] [] pos) (tCB r tNil) := by
  intro pins s σ H Q I h
  refine wpAny_Call_Name_kw (ld_blt I hg hm hv ?_ hn hdb)
  exact PyProof.Rows.callWith_type0 (hc pins s σ H [] [] Q I .nil h)
end
end L2

namespace HT
open PySem PyProof.Rows

/-- t < u of tuples of ints -/
def lexLt : List Int → List Int → Bool
  | [], [] => false
  | [], _ :: _ => true
  | _ :: _, [] => false
  | x :: xs, y :: ys => if x = y then lexLt xs ys else decide (x < y)
theorem lexLt_cons (x y : Int) (xs ys : List Int) : lexLt (x :: xs) (y :: ys) = if x = y then lexLt xs ys else decide (x < y) := rfl
theorem lexLt_nil_nil : lexLt [] [] = false := rfl
theorem lexLt_nil_cons (y : Int) (ys : List Int) : lexLt [] (y :: ys) = true := rfl
theorem lexLt_cons_nil (x : Int) (xs : List Int) : lexLt (x :: xs) [] = false := rfl

theorem eqAt_int (A : Around) (s : Shared) (a : Int) (t : Tok) (c : Int) (u : Tok) : ∃ e, SeqAt.EqAt A s (.int a t) (.int c u) e ∧ (e = true ↔ a = c) :=
  ⟨(a == c), SeqAt.EqAt.int_int a t c u, by simp⟩
theorem rcLt_int (A : Around) (s : Shared) (a : Int) (t : Tok) (c : Int) (u : Tok) (prog : Program) (w : World) (E : Value → Shared → Prop) (Q : Value → Shared → Prop) (h : Q (.bool (decide (a < c))) s) :
    wpAny (model prog w) A (richCompare .Lt (.int a t) (.int c u)) Q E s :=
  (PyProof.Rows.lt_int h : wpAny (model prog w) A (compareOp .Lt (.int a t) (.int c u)) Q E s)

section
open PySem.SeqAt
open PySem.AutoSeq1 (wpAny_loadPart')
open PySem.MeetsSeq PySem.MeetsSeq2 PySem.MeetsSeq3

theorem tuple_lt_ints (l b : Addr) (items items2 : Array Value) (n n2 : Nat) (dd dd2 : Option Addr) (sl sl2 : Array (Option Value)) (ns ms : List Int) (hi : IntsAre items.toList ns) (hj : IntsAre items2.toList ms) :
    Meets (Builtin.«tuple.__lt__» ⟨[.ref l, .ref b], []⟩)
      (fun _ R s => s.heap.get? l = some { cls := .type "tuple", dict := dd, data := .seq items n, slots := sl } ∧ s.heap.get? b = some { cls := .type "tuple", dict := dd2, data := .seq items2 n2, slots := sl2 } ∧
        R (.ok (.ret (.bool (lexLt ns ms)))) s) :=
  .of_wp fun prog w A R s h => by
    obtain ⟨hp, g, d, tk, os⟩ := s; obtain ⟨hl, hb, h⟩ := h
    have f2 := AutoSeq1.sub_tuple_tuple
    have z1 : items.size = ns.length := by rw [← hi.length]; simp
    have z2 : items2.size = ms.length := by rw [← hj.length]; simp
    wp_walk using wpAny_loadPart' hl, wpAny_loadPart' hb, wpAny_forIn_list _ (fun rest b s' => b.1 = none ∧ s' = ⟨hp, g, d, tk, os⟩ ∧ ∃ (vs ws : List Value) (ns' ms' : List Int), rest = vs.zip ws ∧
      IntsAre vs ns' ∧ IntsAre ws ms' ∧ ns'.length + items2.size = ms'.length + items.size ∧ R (.ok (.ret (.bool (lexLt ns' ms')))) ⟨hp, g, d, tk, os⟩) _
    case turn =>
      rintro ⟨y, x⟩ rest b s' ⟨hb', rfl, vs, ws, ns', ms', hz, hvi, hwi, hlen, hR⟩
      cases hvi with
      | nil => rw [List.zip_nil_left] at hz; cases hz
      | cons a t hvi' =>
        cases hwi with
        | nil => rw [List.zip_nil_right] at hz; cases hz
        | cons c u hwi' =>
          rw [List.zip_cons_cons] at hz
          injection hz with hyx hrest
          injection hyx with hy hx
          subst hy hx
          rw [lexLt_cons] at hR
          simp only [List.length_cons] at hlen
          obtain ⟨e, he, hiff⟩ := eqAt_int A.in1 ⟨hp, g, d, tk, os⟩ a t c u
          refine wpAny_bind (he prog w _ _ ?_)
          cases e with
          | true =>
            rw [if_pos (hiff.mp rfl)] at hR
            wp_walk
            exact ⟨rfl, rfl, _, _, _, _, hrest, hvi', hwi', by omega, hR⟩
          | false =>
            rw [if_neg (fun q => absurd (hiff.mpr q) Bool.false_ne_true)] at hR
            have hri := rcLt_int A.in1 ⟨hp, g, d, tk, os⟩ a t c u prog w
            wp_walk using hri
            exact ⟨_, rfl, by simpa using hR⟩
    case fin =>
      rintro ⟨b1, b2⟩ s' ⟨hb', rfl, vs, ws, ns', ms', hz, hvi, hwi, hlen, hR⟩
      simp only at hb'
      subst hb'
      have hv : lexLt ns' ms' = decide (items.size < items2.size) := by
        cases hvi with
        | nil =>
          cases hwi with
          | nil =>
            simp only [List.length_nil] at hlen
            rw [lexLt_nil_nil]
            exact (decide_eq_false (by omega)).symm
          | cons c u hw =>
            simp only [List.length_nil, List.length_cons] at hlen
            rw [lexLt_nil_cons]
            exact (decide_eq_true (by omega)).symm
        | cons a t hv =>
          cases hwi with
          | nil =>
            simp only [List.length_nil, List.length_cons] at hlen
            rw [lexLt_cons_nil]
            exact (decide_eq_false (by omega)).symm
          | cons c u hw =>
            rw [List.zip_cons_cons] at hz
            cases hz
      rw [hv] at hR
      wp_walk
      exact ⟨_, rfl, by simpa [Builtin.Tuple.tupleCompareSizes] using hR⟩
    case h =>
      exact ⟨rfl, rfl, items.toList, items2.toList, ns, ms, rfl, hi, hj, by omega, h⟩
end

section
variable {prog : Program} {w : World} {A : Around} {E : Value → Shared → Prop} {s : Shared}

theorem lt_tupInts {l b : Addr} {items items2 : Array Value} {ns ms : List Int} {Q : Value → Shared → Prop} (hl : IsTup s.heap l items) (hb : IsTup s.heap b items2) (hi : IntsAre items.toList ns) (hj : IntsAre items2.toList ms)
    (hu : A.units < cLine) (h : Q (.bool (lexLt ns ms)) s) : wpAny (model prog w) A (compareOp .Lt (.ref l) (.ref b)) Q E s := by
  obtain ⟨⟨cls, dd, data, sl⟩, ho, hc, n, hd⟩ := id hl
  obtain ⟨⟨cls2, dd2, data2, sl2⟩, ho2, hc2, n2, hd2⟩ := id hb
  simp only at hc hd hc2 hd2
  subst hc hd hc2 hd2
  exact richCompare_meets_room (op := .Lt) ⟨_, ho, rfl⟩ ⟨_, ho2, rfl⟩ PySem.F.slot_tuple_lt PySem.F.entry_tuple_lt (PySem.F.args_tuple_lt_2 _ _) (tuple_lt_ints l b items items2 n n2 dd dd2 sl sl2 ns ms hi hj)
    ⟨ho, ho2, show Value.bool (lexLt ns ms) ≠ Value.notImplemented ∧ Q (.bool (lexLt ns ms)) s from ⟨(fun x => nomatch x), h⟩⟩ hu

/-- t + u, t not empty -/
theorem cat_tup {t b : Addr} {vs ws : List Value} {Q : Value → Shared → Prop} (ht : IsTup s.heap t vs.toArray) (hb : IsTup s.heap b ws.toArray) (hv : vs ≠ [])
    (h1 : ws = [] → Q (.ref t) s) (h2 : ws ≠ [] → Q (.ref s.heap.objs.size) { s with heap := s.heap.push { cls := .type "tuple", data := .seq (vs ++ ws).toArray } })
    (hsz : vs.length + ws.length ≤ sizeLine) : wpAny (model prog w) A (binaryOp .Add (.ref t) (.ref b)) Q E s := by
  obtain ⟨⟨cls, dd, data, sl⟩, ho, hc, n, hd⟩ := id ht
  obtain ⟨⟨cls2, dd2, data2, sl2⟩, ho2, hc2, n2, hd2⟩ := id hb
  simp only at hc hd hc2 hd2
  subst hc hd hc2 hd2
  have e : vs.toArray ++ ws.toArray = (vs ++ ws).toArray := by simp
  by_cases hw : ws = []
  · exact concat_meets ⟨_, ho, rfl⟩ ⟨_, ho2, rfl⟩ noFill_tuple_add seq_tuple_add PySem.F.slot_tuple_add PySem.F.entry_tuple_add (PySem.F.args_tuple_add_2 _ _)
      (tuple_addW1 t b vs.toArray ws.toArray n n2 dd dd2 sl sl2 (by simpa using hv) (by simp [hw])) ⟨ho, ho2, h1 hw⟩
  · refine concat_meets ⟨_, ho, rfl⟩ ⟨_, ho2, rfl⟩ noFill_tuple_add seq_tuple_add PySem.F.slot_tuple_add PySem.F.entry_tuple_add (PySem.F.args_tuple_add_2 _ _)
      (tuple_addW2 t b vs.toArray ws.toArray n n2 dd dd2 sl sl2 (by simpa using hv) (by simpa using hw) (by rw [List.size_toArray, List.size_toArray]; exact hsz)) ⟨ho, ho2, ?_⟩
    rw [e]
    exact h2 hw

/-! ### t[a:b], not the whole -/
/-- a slice's bound as a place among n (d where it is left out) -/
def sIx (n d : Nat) : Option Int → Nat
  | none => d
  | some v => if v < 0 then (v + (n : Int)).toNat else min v.toNat n
theorem sIx_none (n d : Nat) : sIx n d none = d := rfl
theorem sIx_nat (n d k : Nat) : sIx n d (some (k : Int)) = min k n := by
  show (if (k : Int) < 0 then ((k : Int) + (n : Int)).toNat else min (k : Int).toNat n) = min k n
  rw [if_neg (by omega), Int.toNat_natCast]
theorem sIx_le (n d : Nat) (hd : d ≤ n) (o : Option Int) : sIx n d o ≤ n := by
  cases o with
  | none => exact hd
  | some v =>
    show (if v < 0 then (v + (n : Int)).toNat else min v.toNat n) ≤ n
    by_cases hv : v < 0
    · rw [if_pos hv]; omega
    · rw [if_neg hv]; exact Nat.min_le_right _ _
theorem clip_eq (v : Int) (n d : Nat) : (if v < 0 then max (v + (n : Int)) 0 else min v (n : Int)) = ((sIx n d (some v) : Nat) : Int) := by
  show (if v < 0 then max (v + (n : Int)) 0 else min v (n : Int)) = (((if v < 0 then (v + (n : Int)).toNat else min v.toNat n) : Nat) : Int)
  by_cases hv : v < 0
  · simp only [if_pos hv]; omega
  · simp only [if_neg hv]; omega
theorem adjust_gen (lo hi : Option Int) (n : Nat) : Builtin.Slice.sliceAdjust lo hi 1 (n : Int) = (((sIx n 0 lo : Nat) : Int), ((sIx n n hi : Nat) : Int)) := by
  have h1 : ¬ ((1 : Int) < 0) := by omega
  unfold Builtin.Slice.sliceAdjust
  simp only [h1, if_false]
  refine Prod.ext ?_ ?_
  · cases lo with
    | none => rfl
    | some v => exact clip_eq v n 0
  · cases hi with
    | none => rfl
    | some v => exact clip_eq v n n
theorem places_gen (i j : Nat) : Builtin.Slice.slicePlaces (i : Int) (j : Int) 1 = j - i := by
  unfold Builtin.Slice.slicePlaces
  have h1 : (1 : Int) > 0 := by omega
  simp only [h1, if_true, Int.ediv_one]
  split <;> omega
theorem slicePart_ {v : Value} {o : Option Int} {Q : Option Int → Shared → Prop} (p : IsPart v o) (h : Q o s) : wpAny (model prog w) A (Builtin.Slice.slicePartIndex v) Q E s := by
  cases p with
  | none => exact slicePart_none h
  | int i t => exact slicePart_int h
theorem sliceApplied_gen {sl : Addr} {vl vu : Value} {lo hi : Option Int} {n : Nat} {Q : Int × Int × Nat → Shared → Prop} (hs : s.heap.IsSliceOf sl vl vu .none) (pl : IsPart vl lo) (pu : IsPart vu hi)
    (h : Q (((sIx n 0 lo : Nat) : Int), 1, sIx n n hi - sIx n 0 lo) s) : wpAny (model prog w) A (Builtin.Slice.sliceApplied (.ref sl) (pure (n : Int))) Q E s := by
  obtain ⟨os, hos, hcs, hds⟩ := id hs
  unfold Builtin.Slice.sliceApplied Builtin.Slice.sliceFields
  refine wpAny_bind (wpAny_bind (wpAny_field hos hds (x := vl) rfl (wpAny_bind (wpAny_field hos hds (x := vu) rfl (wpAny_bind (wpAny_field hos hds (x := .none) rfl (wpAny_pure ?_)))))))
  refine wpAny_bind (slicePart_none ?_)
  show wpAny _ _ (if ((1 : Int) == 0) = true then _ else _) _ _ s
  rw [if_neg (by decide)]
  refine wpAny_bind (slicePart_ pl (wpAny_bind (slicePart_ pu (wpAny_bind (wpAny_pure ?_)))))
  show wpAny _ _ (match Builtin.Slice.sliceAdjust lo hi 1 (n : Int) with | (lo, hi) => pure (lo, (1 : Int), Builtin.Slice.slicePlaces lo hi 1)) _ _ s
  rw [adjust_gen lo hi n]
  show wpAny _ _ (pure (((sIx n 0 lo : Nat) : Int), (1 : Int), Builtin.Slice.slicePlaces ((sIx n 0 lo : Nat) : Int) ((sIx n n hi : Nat) : Int) 1)) _ _ s
  rw [places_gen]
  exact wpAny_pure h
theorem pick_gen (xs : Array Value) (i k : Nat) : ((List.range k).filterMap fun (m : Nat) => xs[((i : Int) + (m : Int) * 1).toNat]?).toArray = ((xs.toList.drop i).take k).toArray := by
  have e : (fun (m : Nat) => xs[((i : Int) + (m : Int) * 1).toNat]?) = fun m => xs[i + m]? := by
    funext m
    have : ((i : Int) + (m : Int) * 1).toNat = i + m := by omega
    rw [this]
  rw [e]
  have := pick_run xs i k
  rw [List.filterMap_map] at this
  have e2 : ((fun x => xs[x]?) ∘ fun x => i + x) = fun m => xs[i + m]? := rfl
  rw [e2] at this
  rw [this]

theorem getItem_tuple_cut {t sl : Addr} {items : Array Value} {vl vu : Value} {lo hi : Option Int} {Q : Value → Shared → Prop} (ht : IsTup s.heap t items) (hs : s.heap.IsSliceOf sl vl vu .none) (pl : IsPart vl lo) (pu : IsPart vu hi)
    (hw : ¬ (sIx items.size 0 lo = 0 ∧ sIx items.size items.size hi = items.size))
    (h : Q (.ref s.heap.objs.size) { s with heap := s.heap.push { cls := .type "tuple", data := .seq ((items.toList.drop (sIx items.size 0 lo)).take (sIx items.size items.size hi - sIx items.size 0 lo)).toArray } })
    (hsz : items.size ≤ sizeLine) : wpAny (model prog w) A (getItem (.ref t) (.ref sl)) Q E s := by
  have htake : sizeOk (.seq ((items.toList.drop (sIx items.size 0 lo)).take (sIx items.size items.size hi - sIx items.size 0 lo)).toArray) := by
    show ((items.toList.drop (sIx items.size 0 lo)).take (sIx items.size items.size hi - sIx items.size 0 lo)).toArray.size ≤ sizeLine
    rw [List.size_toArray, List.length_take, List.length_drop, Array.length_toList]
    omega
  have hj : sIx items.size items.size hi ≤ items.size := sIx_le _ _ (Nat.le_refl _) hi
  obtain ⟨os, hos, hcs, hds⟩ := id hs
  have hTs : s.TypeIs (.ref sl) "slice" := ⟨os, hos, hcs⟩
  unfold getItem
  try with_reducible refine wpAny_holding ?_
  first | refine wpAny_bind (wpAny_pure ?_) | skip
  refine wpAny_bind (wpAny_sequenceKey ht.typeIs (by decide) ?_)
  refine wpAny_bind (wpAny_callSpecial?_slot (name := Str.ofString "__getitem__") ht.typeIs PyProof.Rows.slot_tuple_getitem
    (wpAny_call_entry PyProof.Rows.slot_tuple_getitem ht.typeIs entry_tuple_getitem ?_ (args_tuple_getitem _ _)))
  show wpAny _ _ (Builtin.Tuple.tupleItemsOf (.ref t) >>= _) _ _ s
  refine wpAny_bind (tupleItemsOf_ ht ?_)
  refine wpAny_bind (wpAny_typeOf hTs ?_)
  rw [if_pos (by decide)]
  refine wpAny_bind (sliceApplied_gen hs pl pu ?_)
  have hno : ¬ ((((sIx items.size 0 lo : Nat) : Int) == 0 && (1 : Int) == 1 && (sIx items.size items.size hi - sIx items.size 0 lo) == items.size) = true) := by
    intro q
    rw [Bool.and_eq_true, Bool.and_eq_true] at q
    have q1 : ((sIx items.size 0 lo : Nat) : Int) = 0 := eq_of_beq q.1.1
    have q2 : sIx items.size items.size hi - sIx items.size 0 lo = items.size := eq_of_beq q.2
    exact hw ⟨by omega, by omega⟩
  show wpAny _ _ (if (((sIx items.size 0 lo : Nat) : Int) == 0 && (1 : Int) == 1 && (sIx items.size items.size hi - sIx items.size 0 lo) == items.size) = true then _ else _) _ _ s
  rw [if_neg hno, pick_gen]
  first
    | exact wpAny_bind (m := Builtin.Tuple.tupleExact _) (wpAny_newObj_type (wpAny_pure ⟨_, rfl, wpAny_pure h⟩) htake)
    | exact wpAny_bind (m := Builtin.Tuple.tupleExact _) (wpAny_newObj_type (wpAny_bind (wpAny_pure (wpAny_pure ⟨_, rfl, wpAny_pure h⟩))) htake)
    | exact wpAny_bind (wpAny_bind (m := Builtin.Tuple.tupleExact _) (wpAny_newObj_type (wpAny_pure (wpAny_pure ⟨_, rfl, wpAny_pure h⟩)) htake))
    | exact wpAny_bind (wpAny_bind (m := Builtin.Tuple.tupleExact _) (wpAny_newObj_type (wpAny_pure ⟨_, rfl, wpAny_pure h⟩) htake))
end
end HT

namespace L2
open PySem PySem.Spec PyProof.Rows

/-! ### the parts of a slice -/
abbrev TO := St → Hp → (Option Int → Hp → Prop) → Prop
/-- a slice's part (left out, or an int) -/
def PO (X : Cx) (e : Option Expr) (t : TO) : Prop :=
  ∀ (pins : List (Addr × Obj)) (s : Shared) (σ : St) (H : Hp) (Q : Option Int → Hp → Prop), Inv X pins σ H s → t σ H Q →
    wpAny (model X.prog X.w) X.A (evalPart e X.env) (fun u s' => ∃ o H', Inv X pins σ H' s' ∧ IsPart u o ∧ Q o H') X.xe s
def tNoPart : TO := fun _ H Q => Q none H
def tPart (t : TE) : TO := fun σ H Q => t σ H fun x H1 => ∃ i, x = .int i ∧ Q (some i) H1

theorem intsAre_of {ns : List Int} : ∀ {us : List Value}, Vals (ns.map V.int) us → IntsAre us ns := by
  induction ns with
  | nil => intro us r; rw [List.map_nil] at r; cases r; exact .nil
  | cons n ns ih =>
    intro us r
    rw [List.map_cons] at r
    cases r with
    | cons r1 r2 =>
      obtain ⟨t, e⟩ := r1
      subst e
      exact .cons n t (ih r2)

section
variable {X : Cx} {e : Expr} {te : TE} {lo hi : Option Expr} {tl th : TO} {pos p2 : Pos}

theorem po_none : PO X none tNoPart := by
  intro pins s σ H Q I h
  rw [evalPart_none]
  exact wpAny_pure ⟨none, H, I, .none, h⟩
theorem po_some (h : PE X e te) : PO X (some e) (tPart te) := by
  intro pins s σ H Q I hw
  rw [evalPart_some]
  refine thn (h pins s σ H _ I hw) fun u s1 ⟨x, H1, I1, r1, q1⟩ => ?_
  obtain ⟨i, rfl, q⟩ := q1
  obtain ⟨t, rfl⟩ := r1
  exact ⟨some i, H1, I1, .int i t, q⟩

/-- what a slice of a value is, by values: the slice object stands at sl -/
def SlR (X : Cx) (r : V → Option Int → Option Int → Hp → VK → Prop) : Prop :=
  ∀ (pins : List (Addr × Obj)) (s : Shared) (σ : St) (H : Hp) (x : V) (v vl vu : Value) (lo hi : Option Int) (sl : Addr) (Q : VK), Inv X pins σ H s → RelV x v → s.heap.IsSliceOf sl vl vu .none → IsPart vl lo → IsPart vu hi → r x lo hi H Q →
    ∃ T id, typeLookup (.type T) "__getitem__" = pure (some (.builtin id)) ∧ s.TypeIs v T ∧ wpAny (model X.prog X.w) X.A (getItem v (.ref sl)) (EP X pins σ Q) X.xe s
theorem SlR.or {r r' : V → Option Int → Option Int → Hp → VK → Prop} (h : SlR X r) (h' : SlR X r') : SlR X (fun x lo hi H Q => r x lo hi H Q ∨ r' x lo hi H Q) := by
  intro pins s σ H x v vl vu lo hi sl Q I rx hs pl pu q
  rcases q with q | q
  · exact h pins s σ H x v vl vu lo hi sl Q I rx hs pl pu q
  · exact h' pins s σ H x v vl vu lo hi sl Q I rx hs pl pu q
def tSl (r : V → Option Int → Option Int → Hp → VK → Prop) (te : TE) (tl th : TO) : TE := fun σ H Q => te σ H fun x H1 => tl σ H1 fun l H2 => th σ H2 fun u H3 => r x l u H3 Q
/-- a[lo:hi], any a -/
theorem pe_slice {r : V → Option Int → Option Int → Hp → VK → Prop} (hr : SlR X r) (he : PE X e te) (hl : PO X lo tl) (hu : PO X hi th) : PE X (.Subscript e (.Slice lo hi none p2) pos) (tSl r te tl th) := by
  intro pins s σ H Q I h
  refine Subscript_ (thn (he pins s σ H _ I h) fun v s1 ⟨x, H1, I1, r1, q1⟩ => ?_)
  refine wpAny_Slice (thn (hl pins s1 σ H1 _ I1 q1) fun vl s2 ⟨l, H2, I2, pl, q2⟩ => thn (hu pins s2 σ H2 _ I2 q2) fun vu s3 ⟨u, H3, I3, pu, q3⟩ => ?_)
  rw [evalPart_none]
  refine wpAny_pure ?_
  have I4 : Inv X pins σ H3 { s3 with heap := s3.heap.push { cls := .type "slice", data := .fields #[vl, vu, .none] } } := I3.kept (t' := s3.toks) fun b ob q => Heap.get?_push_of_some _ q
  obtain ⟨T, id, hT, ht, hg⟩ := hr pins { s3 with heap := s3.heap.push { cls := .type "slice", data := .fields #[vl, vu, .none] } } σ H3 x v vl vu l u s3.heap.objs.size Q I4 r1 (Heap.IsSliceOf.new ..) pl pu q3
  show wpAny (model X.prog X.w) X.A (subscriptTail e (.Slice lo hi none p2) v (.ref s3.heap.objs.size)) (EP X pins σ Q) X.xe { s3 with heap := s3.heap.push { cls := .type "slice", data := .fields #[vl, vu, .none] } }
  exact tail_any (ops := [.ref s3.heap.objs.size, v]) ht hT hg (by with_unfolding_all rfl)

/-- the items of xs[lo:hi] -/
def cutV (xs : List V) (lo hi : Option Int) : List V := (xs.drop (HT.sIx xs.length 0 lo)).take (HT.sIx xs.length xs.length hi - HT.sIx xs.length 0 lo)
theorem cutV_length (xs : List V) (lo hi : Option Int) : (cutV xs lo hi).length ≤ xs.length := by
  unfold cutV
  rw [List.length_take, List.length_drop]
  omega
/-- t[lo:hi], not the whole of it (the whole would be t itself) -/
def rSlT (K : PySem.W.Frag) : V → Option Int → Option Int → Hp → VK → Prop := fun x lo hi H Q => ∃ a xs, x = .ref a ∧ SqT K H a xs ∧
  ¬ (HT.sIx xs.length 0 lo = 0 ∧ HT.sIx xs.length xs.length hi = xs.length) ∧ ∀ p, H p = none → Q (.ref p) (upd H p (.tup (cutV xs lo hi)))
theorem sl_tup : SlR X (rSlT X.K) := by
  intro pins s σ H x v vl vu lo hi sl Q I rx hs pl pu h
  obtain ⟨a, xs, rfl, hx, hw, q⟩ := h
  cases rx
  obtain ⟨its, r, ht, hz⟩ := I.tuple hx
  have hlen : its.toArray.size = xs.length := by rw [List.size_toArray]; exact r.length.symm
  refine ⟨"tuple", _, PyProof.Rows.slot_tuple_getitem.lookup, ht.typeIs, ?_⟩
  refine HT.getItem_tuple_cut ht hs pl pu (by rw [hlen]; exact hw) ?_ (by rw [hlen]; exact hz)
  rw [hlen]
  refine ⟨.ref s.heap.objs.size, _, I.laid (t' := s.toks) (o := .tup (cutV xs lo hi)) (fun b ob q => Heap.get?_push_of_some _ q) (Nat.le_refl _) ?_, rfl, q _ (I.hok.fresh (Nat.le_refl _))⟩
  exact ⟨Nat.le_trans (cutV_length xs lo hi) hz, _, (r.drop (HT.sIx xs.length 0 lo)).take (HT.sIx xs.length xs.length hi - HT.sIx xs.length 0 lo), IsTup.new _ _⟩

/-! ### t < u, t + u -/
def rLtT (K : PySem.W.Frag) : R2 := fun x y H Q => ∃ a b ns ms, x = .ref a ∧ y = .ref b ∧ SqT K H a (ns.map V.int) ∧ SqT K H b (ms.map V.int) ∧ Q (.bl (HT.lexLt ns ms)) H
theorem op_ltT (hu : X.A.units < cLine) : OpR X (compareOp .Lt) (rLtT X.K) := by
  intro pins s σ H x y v u Q I rx ry h
  obtain ⟨a, b, ns, ms, rfl, rfl, ha, hb, q⟩ := h
  cases rx
  cases ry
  obtain ⟨its, r1, p1, _⟩ := I.tuple ha
  obtain ⟨its2, r2, p2, _⟩ := I.tuple hb
  have i1 : IntsAre its.toArray.toList ns := intsAre_of r1
  have i2 : IntsAre its2.toArray.toList ms := intsAre_of r2
  exact HT.lt_tupInts p1 p2 i1 i2 hu ⟨.bl (HT.lexLt ns ms), H, I, rfl, q⟩
/-- t + u, t not empty: u empty gives t itself -/
def rCatT (K : PySem.W.Frag) : R2 := fun x y H Q => ∃ a b xs ys, x = .ref a ∧ y = .ref b ∧ SqT K H a xs ∧ SqT K H b ys ∧ xs ≠ [] ∧ xs.length + ys.length ≤ sizeLine ∧
  (ys = [] → Q (.ref a) H) ∧ (ys ≠ [] → ∀ p, H p = none → Q (.ref p) (upd H p (.tup (xs ++ ys))))
theorem Vals.nil_iff {xs : List V} {us : List Value} (r : Vals xs us) : us = [] ↔ xs = [] := by
  cases r with
  | nil => simp
  | cons _ _ => simp
theorem op_catT : OpR X (binaryOp .Add) (rCatT X.K) := by
  intro pins s σ H x y v u Q I rx ry h
  obtain ⟨a, b, xs, ys, rfl, rfl, ha, hb, hx, hz, q1, q2⟩ := h
  cases rx
  cases ry
  obtain ⟨its, r1, p1, _⟩ := I.tuple ha
  obtain ⟨its2, r2, p2, _⟩ := I.tuple hb
  refine HT.cat_tup p1 p2 (fun z => hx (r1.nil_iff.mp z)) (fun z => ⟨.ref a, H, I, rfl, q1 (r2.nil_iff.mp z)⟩) (fun z => ?_) (by rw [← r1.length, ← r2.length]; exact hz)
  refine ⟨.ref s.heap.objs.size, _, I.laid (t' := s.toks) (o := .tup (xs ++ ys)) (fun b ob q => Heap.get?_push_of_some _ q) (Nat.le_refl _) ?_, rfl, q2 (fun w => z (r2.nil_iff.mpr w)) _ (I.hok.fresh (Nat.le_refl _))⟩
  exact ⟨by rw [List.length_append]; exact hz, _, r1.append r2, IsTup.new _ _⟩
/-- tuple(t) -/
theorem call_tupleT : CallR X (.type "tuple") (fun xs H Q => ∃ a ys, xs = [.ref a] ∧ SqT X.K H a ys ∧ Q (.ref a) H) := by
  intro pins s σ H xs us Q I r h
  obtain ⟨a, ys, rfl, ha, q⟩ := h
  obtain ⟨u, rfl, ru⟩ := vals1 r
  cases ru
  obtain ⟨its, _, p1, _⟩ := I.tuple ha
  exact call_tuple_same (items := its.toArray) p1 ⟨.ref a, H, I, rfl, q⟩
end
end L2

namespace L2
open PySem PySem.Spec PyProof.Rows

/-! ### places -/
/-- the place that an index of any sign means -/
def ixN (n : Nat) (i : Int) : Option Nat := if 0 ≤ i then (if i < n then some i.toNat else none) else if -(n : Int) ≤ i then some (i + n).toNat else none
def atI {α : Type} (xs : List α) (i : Int) : Option α := (ixN xs.length i).bind fun j => xs[j]?
theorem ixN_seq {n : Nat} {i : Int} {j : Nat} (h : ixN n i = some j) : seqIndex? i n = some j ∧ j < n ∧ -(n : Int) ≤ i ∧ i < n := by
  unfold ixN at h
  by_cases h0 : 0 ≤ i
  · rw [if_pos h0] at h
    by_cases h1 : i < n
    · rw [if_pos h1] at h
      have e : i.toNat = j := Option.some.inj h
      exact ⟨by rw [seqIndex_of h0 h1, e], by omega, by omega, h1⟩
    · rw [if_neg h1] at h; cases h
  · rw [if_neg h0] at h
    by_cases h1 : -(n : Int) ≤ i
    · rw [if_pos h1] at h
      have e : (i + n).toNat = j := Option.some.inj h
      exact ⟨by rw [seqIndex_neg (by omega) h1, e], by omega, h1, by omega⟩
    · rw [if_neg h1] at h; cases h
theorem atI_get {α : Type} {xs : List α} {i : Int} {v : α} (h : atI xs i = some v) : ∃ j, seqIndex? i xs.length = some j ∧ xs[j]? = some v ∧ j < xs.length ∧ -(xs.length : Int) ≤ i ∧ i < xs.length := by
  unfold atI at h
  cases e : ixN xs.length i with
  | none => rw [e] at h; cases h
  | some j =>
    rw [e] at h
    obtain ⟨h1, h2, h3, h4⟩ := ixN_seq e
    exact ⟨j, h1, h, h2, h3, h4⟩
theorem atI_nat {α : Type} {xs : List α} {j : Nat} {v : α} (h : xs[j]? = some v) : atI xs (j : Int) = some v := by
  have hj : j < xs.length := (List.getElem?_eq_some_iff.mp h).1
  have e : ixN xs.length (j : Int) = some j := by
    unfold ixN
    rw [if_pos (by omega), if_pos (by omega)]; simp
  unfold atI; rw [e]; exact h
theorem atI_last {α : Type} (xs : List α) (v : α) : atI (xs ++ [v]) (-1) = some v := by
  have hl : (xs ++ [v]).length = xs.length + 1 := by simp
  have e : ixN (xs ++ [v]).length (-1) = some xs.length := by
    unfold ixN
    rw [hl, if_neg (by decide), if_pos (by omega)]
    congr 1
    omega
  unfold atI
  rw [e]
  show (xs ++ [v])[xs.length]? = some v
  simp

/-! ### what may be subscripted -/
/-- what stands as an index of a plain subscript -/
def PlainIx (b : Expr) : Prop := ∀ o i, subscripted b false o i = operate [o, i] (getItem o i)
/-- a subscript by values -/
def IxR (X : Cx) (r : R2) : Prop :=
  ∀ (value slice : Expr) (pins : List (Addr × Obj)) (s : Shared) (σ : St) (H : Hp) (x y : V) (v u : Value) (Q : VK), Inv X pins σ H s → RelV x v → RelV y u → r x y H Q →
    subscripted slice false v u = operate [v, u] (getItem v u) → wpAny (model X.prog X.w) X.A (subscriptTail value slice v u) (EP X pins σ Q) X.xe s
/-- a call of a builtin's method by values: the receiver, the arguments -/
def MtR (X : Cx) (id : String) (r : V → List V → Hp → VK → Prop) : Prop :=
  ∀ (pins : List (Addr × Obj)) (s : Shared) (σ : St) (H : Hp) (x : V) (xs : List V) (v : Value) (us : List Value) (Q : VK), Inv X pins σ H s → RelV x v → Vals xs us → r x xs H Q →
    wpAny (model X.prog X.w) X.A (call (.builtin id) (v :: us)) (EP X pins σ Q) X.xe s
section
variable {X : Cx} {a b : Expr} {ta tb : TE} {pos : Pos}
theorem IxR.or {r r' : R2} (h : IxR X r) (h' : IxR X r') : IxR X (fun x y H Q => r x y H Q ∨ r' x y H Q) := by
  intro value slice pins s σ H x y v u Q I rx ry q hs
  rcases q with q | q
  · exact h value slice pins s σ H x y v u Q I rx ry q hs
  · exact h' value slice pins s σ H x y v u Q I rx ry q hs
theorem MtR.or {id : String} {r r' : V → List V → Hp → VK → Prop} (h : MtR X id r) (h' : MtR X id r') : MtR X id (fun x xs H Q => r x xs H Q ∨ r' x xs H Q) := by
  intro pins s σ H x xs v us Q I rx rs q
  rcases q with q | q
  · exact h pins s σ H x xs v us Q I rx rs q
  · exact h' pins s σ H x xs v us Q I rx rs q
/-- a[b] -/
theorem pe_ix {r : R2} (hr : IxR X r) (ha : PE X a ta) (hb : PE X b tb) (hs : PlainIx b) : PE X (.Subscript a b pos) (tOp r ta tb) := by
  intro pins s σ H Q I h
  exact Subscript_ (binT ha hb I h fun v u s2 x y H2 I2 rx ry q => hr a b pins s2 σ H2 x y v u Q I2 rx ry q (hs _ _))

def rIxL (K : PySem.W.Frag) : R2 := fun x y H Q => ∃ p xs i v, x = .ref p ∧ y = .int i ∧ SqL K H p xs ∧ atI xs i = some v ∧ Q v H
def rIxT (K : PySem.W.Frag) : R2 := fun x y H Q => ∃ p xs i v, x = .ref p ∧ y = .int i ∧ SqT K H p xs ∧ atI xs i = some v ∧ Q v H
def rIxS : R2 := fun x y H Q => ∃ z i c, x = .str z ∧ y = .int i ∧ z.length ≤ sizeLine ∧ atI z.cps.toList i = some c ∧ Q (.str ⟨#[c]⟩) H
theorem ix_list : IxR X (rIxL X.K) := by
  intro value slice pins s σ H x y v u Q I rx ry h hs
  obtain ⟨p, xs, i, z, rfl, rfl, hq, he, q⟩ := h
  cases rx
  obtain ⟨t, rfl⟩ := ry
  obtain ⟨its, r, pl, hz⟩ := I.list hq
  obtain ⟨j, h1, h2, h3, h4, h5⟩ := atI_get he
  obtain ⟨w, ew, rw'⟩ := r.get h2
  have hl := r.length
  have hn := line63
  have fin : EP X pins σ Q w s := ⟨z, H, I, rw', q⟩
  by_cases h0 : 0 ≤ i
  · have hj : i.toNat = j := by
      rw [seqIndex_of h0 h5] at h1
      exact Option.some.inj h1
    exact item_listR pl.isList h0 (by omega) (by rw [hj]; simpa using ew) fin hs
  · have hj : (i + (its.toArray.size : Int)).toNat = j := by
      rw [seqIndex_neg (by omega) h4] at h1
      rw [List.size_toArray, ← hl]
      exact Option.some.inj h1
    exact subscriptTail_builtinR (x := w) pl.isList.typeIs slot_list_getitem.lookup
      (wpAny_getItem_list_neg (Q := fun r s' => r = w ∧ EP X pins σ Q r s') pl.isList (by omega) (by rw [List.size_toArray] <;> omega) (by omega) (by rw [hj]; simpa using ew) ⟨rfl, fin⟩) hs
theorem ix_tup : IxR X (rIxT X.K) := by
  intro value slice pins s σ H x y v u Q I rx ry h hs
  obtain ⟨p, xs, i, z, rfl, rfl, hq, he, q⟩ := h
  cases rx
  obtain ⟨t, rfl⟩ := ry
  obtain ⟨its, r, pl, hz⟩ := I.tuple hq
  obtain ⟨j, h1, h2, h3, h4, h5⟩ := atI_get he
  obtain ⟨w, ew, rw'⟩ := r.get h2
  have hl := r.length
  have hn := line63
  have fin : EP X pins σ Q w s := ⟨z, H, I, rw', q⟩
  exact subscriptTail_builtinR (x := w) pl.typeIs slot_tuple_getitem.lookup
    (getItem_tuple (j := j) (Q := fun r s' => r = w ∧ EP X pins σ Q r s') pl (by omega) (by omega) (by rw [List.size_toArray, ← hl]; exact h1) (by simpa using ew) ⟨rfl, fin⟩) hs
theorem ix_str : IxR X rIxS := by
  intro value slice pins s σ H x y v u Q I rx ry h hs
  obtain ⟨z, i, c, rfl, rfl, hz, he, q⟩ := h
  obtain ⟨t, rfl⟩ := rx
  obtain ⟨t', rfl⟩ := ry
  obtain ⟨j, h1, h2, h3, h4, h5⟩ := atI_get he
  have hl : z.cps.toList.length = z.length := by simp [Str.length]
  rw [hl] at h1 h4 h5
  have hn := line63
  exact tail_any (typeIs_str s z t) slot_str_getitem.lookup (getItem_str (c := c) (by
    have e1 : decide (i < -(2 ^ 63 : Int)) = false := decide_eq_false (by omega)
    have e2 : decide (i ≥ 2 ^ 63) = false := decide_eq_false (by omega)
    rw [e1, e2, Bool.or_false]) (by rw [h1]; simpa using h2) ⟨.str ⟨#[c]⟩, H, I.tok _, ⟨_, rfl⟩, q⟩) hs
/-- list, tuple or str -/
def rIx (K : PySem.W.Frag) : R2 := fun x y H Q => rIxL K x y H Q ∨ rIxT K x y H Q ∨ rIxS x y H Q
theorem ix_seq : IxR X (rIx X.K) := ix_list.or (ix_tup.or ix_str)

/-! ### xs[i] = v, any sign -/
/-- the list's object behind a store -/
theorem mapSeq_set (its : List Value) (n j : Nat) (u : Value) : Obj.mapSeq (·.setIfInBounds j u) { cls := .type "list", data := .seq its.toArray n } = { cls := .type "list", data := .seq (its.set j u).toArray n } := by
  simp [Obj.mapSeq]
theorem Inv.lst {pins : List (Addr × Obj)} {σ : St} {H : Hp} {s : Shared} {p : Addr} {xs : List V} (I : Inv X pins σ H s) (h : H p = some (.lst xs)) :
    ∃ (its : List Value) (n : Nat), Vals xs its ∧ s.heap.get? p = some { cls := .type "list", data := .seq its.toArray n } ∧ xs.length ≤ sizeLine := by
  obtain ⟨z, its, n, r, e⟩ := I.hok p _ h
  exact ⟨its, n, r, e, z⟩
/-- the list at p is written by an update of its object -/
theorem Inv.lstUpd {pins : List (Addr × Obj)} {σ : St} {H : Hp} {s : Shared} {p : Addr} {xs ys : List V} {its its' : List Value} {n n' : Nat} {f : Obj → Obj} (I : Inv X pins σ H s) (h : H p = some (.lst xs))
    (ho : s.heap.get? p = some { cls := .type "list", data := .seq its.toArray n }) (hf : f { cls := .type "list", data := .seq its.toArray n } = { cls := .type "list", data := .seq its'.toArray n' }) (r : Vals ys its') (hz : ys.length ≤ sizeLine) (t : Nat) :
    Inv X pins σ (upd H p (.lst ys)) { s with heap := s.heap.update p f, toks := t } := by
  have e : (s.heap.update p f).get? p = some { cls := .type "list", data := .seq its'.toArray n' } := by
    rw [Heap.get?_update_self f ho (by rw [hf] <;> rfl), hf]
  refine I.write (x := p) (e := p) (by rw [h]; trivial) (.inl rfl) (fun b u hb q => (Heap.get?_update_other _ _ (Ne.symm hb)).trans q) ⟨_, e⟩ ?_
  exact ⟨hz, its', n', r, e⟩
def rSetL : V → V → V → Hp → (Hp → Prop) → Prop := fun o i v H Q => ∃ p xs k j, o = .ref p ∧ i = .int k ∧ H p = some (.lst xs) ∧ ixN xs.length k = some j ∧ Q (upd H p (.lst (xs.set j v)))
theorem set_list : PSet X rSetL := by
  intro pins s σ H o i v ov iv u Q I ro ri rv h
  obtain ⟨p, xs, k, j, rfl, rfl, hp, hj, q⟩ := h
  cases ro
  obtain ⟨t, rfl⟩ := ri
  obtain ⟨its, n, r, ho, hz⟩ := I.lst hp
  obtain ⟨h1, h2, h3, h4⟩ := ixN_seq hj
  have hl := r.length
  have hn := line63
  have I' : Inv X pins σ (upd H p (.lst (xs.set j v))) { s with heap := s.heap.update p (Obj.mapSeq (·.setIfInBounds j u)) } :=
    I.lstUpd hp ho (mapSeq_set its n j u) (r.set rv j) (by rw [List.length_set]; exact hz) s.toks
  by_cases h0 : 0 ≤ k
  · have hk : k.toNat = j := by
      rw [seqIndex_of h0 h4] at h1
      exact Option.some.inj h1
    exact PySem.W.ki_setAt ho h0 (by omega) (by rw [List.size_toArray, ← hl]; exact h4) (by rw [hk]; exact ⟨_, I', q⟩)
  · have hk : (k + (its.toArray.size : Int)).toNat = j := by
      rw [seqIndex_neg (by omega) h3] at h1
      rw [List.size_toArray, ← hl]
      exact Option.some.inj h1
    exact PySem.W.ki_setBack ho (by omega) (by rw [List.size_toArray, ← hl]; exact h3) (by omega) (by rw [hk]; exact ⟨_, I', q⟩)

/-! ### slices -/
theorem slice_bounds (lo hi : Option Int) (n : Nat) : (sliceBounds lo hi none n).1 = ((HT.sIx n 0 lo : Nat) : Int) ∧ (sliceBounds lo hi none n).2.1 = ((HT.sIx n n hi : Nat) : Int) ∧ (sliceBounds lo hi none n).2.2 = 1 := by
  refine ⟨?_, ?_, rfl⟩
  · cases lo with
    | none => simp [sliceBounds, HT.sIx]
    | some i =>
      simp only [sliceBounds, HT.sIx, Option.getD_none, show (1 : Int) > 0 by decide, if_true]
      by_cases h : i < 0
      · simp only [h, if_true] <;> omega
      · simp only [h, if_false] <;> omega
  · cases hi with
    | none => simp [sliceBounds, HT.sIx]
    | some i =>
      simp only [sliceBounds, HT.sIx, Option.getD_none, show (1 : Int) > 0 by decide, if_true]
      by_cases h : i < 0
      · simp only [h, if_true] <;> omega
      · simp only [h, if_false] <;> omega
theorem slicePick_cut (its : List Value) (lo hi : Option Int) : slicePick its.toArray lo hi none = ((its.drop (HT.sIx its.length 0 lo)).take (HT.sIx its.length its.length hi - HT.sIx its.length 0 lo)).toArray := by
  obtain ⟨h1, h2, h3⟩ := slice_bounds lo hi its.toArray.size
  unfold slicePick
  rw [h1, h2, h3]
  simp only [sliceRange_one, pick_run, List.size_toArray] <;> rfl
/-- xs[lo:hi] of a list: a new list -/
def rSlL (K : PySem.W.Frag) : V → Option Int → Option Int → Hp → VK → Prop := fun x lo hi H Q => ∃ a xs, x = .ref a ∧ SqL K H a xs ∧ ∀ p, H p = none → Q (.ref p) (upd H p (.lst (cutV xs lo hi)))
theorem sl_list : SlR X (rSlL X.K) := by
  intro pins s σ H x v vl vu lo hi sl Q I rx hs pl pu h
  obtain ⟨a, xs, rfl, hx, q⟩ := h
  cases rx
  obtain ⟨its, r, ht, hz⟩ := I.list hx
  have hlen := r.length
  refine ⟨"list", _, slot_list_getitem.lookup, ht.isList.typeIs, ?_⟩
  refine wpAny_getItem_list_slice ht.isList hs pl pu .none (by simp) ?_ (by rw [List.size_toArray] <;> omega)
  rw [slicePick_cut, ← hlen]
  refine ⟨.ref s.heap.objs.size, _, I.laid (t' := s.toks) (o := .lst (cutV xs lo hi)) (fun b ob q => Heap.get?_push_of_some _ q) (Nat.le_refl _) ?_, rfl, q _ (I.hok.fresh (Nat.le_refl _))⟩
  exact ⟨Nat.le_trans (cutV_length xs lo hi) hz, _, 0, (r.drop (HT.sIx xs.length 0 lo)).take (HT.sIx xs.length xs.length hi - HT.sIx xs.length 0 lo), Heap.get?_push_size _ rfl⟩

/-! ### in, not in: flat items -/
def flatV : V → Bool
  | .non => true
  | .bl _ => true
  | .int _ => true
  | .str _ => true
  | _ => false
/-- == of flat values -/
def eqV : V → V → Bool
  | .non, .non => true
  | .bl a, .bl b => a == b
  | .bl a, .int b => (if a then 1 else 0) == b
  | .int a, .bl b => a == (if b then 1 else 0)
  | .int a, .int b => a == b
  | .str a, .str b => a == b
  | _, _ => false
theorem eqAt_V {A : Around} {s : Shared} {y x : V} {u v : Value} (ry : RelV y u) (rx : RelV x v) (fy : flatV y = true) (fx : flatV x = true) : SeqAt.EqAt A s u v (eqV y x) := by
  cases y with
  | non =>
    cases ry
    cases x with
    | non => cases rx; exact SeqAt.EqAt.same _
    | bl b => cases rx; exact SeqAt.EqAt.none_bool b
    | int b => obtain ⟨t, rfl⟩ := rx; exact SeqAt.EqAt.none_int b t
    | str b => obtain ⟨t, rfl⟩ := rx; exact SeqAt.EqAt.none_str b t
    | _ => exact absurd (show false = true from fx) Bool.false_ne_true
  | bl a =>
    cases ry
    cases x with
    | non => cases rx; exact SeqAt.EqAt.bool_none a
    | bl b => cases rx; exact SeqAt.EqAt.bool_bool a b
    | int b => obtain ⟨t, rfl⟩ := rx; exact SeqAt.EqAt.bool_int a b t
    | str b => obtain ⟨t, rfl⟩ := rx; exact SeqAt.EqAt.bool_str a b t
    | _ => exact absurd (show false = true from fx) Bool.false_ne_true
  | int a =>
    obtain ⟨t', rfl⟩ := ry
    cases x with
    | non => cases rx; exact SeqAt.EqAt.int_none a t'
    | bl b => cases rx; exact SeqAt.EqAt.int_bool a t' b
    | int b => obtain ⟨t, rfl⟩ := rx; exact SeqAt.EqAt.int_int a t' b t
    | str b => obtain ⟨t, rfl⟩ := rx; exact SeqAt.EqAt.int_str a t' b t
    | _ => exact absurd (show false = true from fx) Bool.false_ne_true
  | str a =>
    obtain ⟨t', rfl⟩ := ry
    cases x with
    | non => cases rx; exact SeqAt.EqAt.str_none a t'
    | bl b => cases rx; exact SeqAt.EqAt.str_bool a t' b
    | int b => obtain ⟨t, rfl⟩ := rx; exact SeqAt.EqAt.str_int a t' b t
    | str b => obtain ⟨t, rfl⟩ := rx; exact SeqAt.EqAt.str_str a t' b t
    | _ => exact absurd (show false = true from fx) Bool.false_ne_true
  | _ => exact absurd (show false = true from fy) Bool.false_ne_true
/-- the items' answers, read off the values (a value's own answer does not lean on its token) -/
def eqU (x : V) (u : Value) : Bool := match u with
  | .none => eqV .non x
  | .bool b => eqV (.bl b) x
  | .int i _ => eqV (.int i) x
  | .str z _ => eqV (.str z) x
  | _ => false
theorem eqU_of {x y : V} {u : Value} (r : RelV y u) (f : flatV y = true) : eqU x u = eqV y x := by
  cases y with
  | non => cases r; rfl
  | bl b => cases r; rfl
  | int i => obtain ⟨t, rfl⟩ := r; rfl
  | str z => obtain ⟨t, rfl⟩ := r; rfl
  | _ => exact absurd (show false = true from f) Bool.false_ne_true
theorem any_eqU {x : V} : ∀ {xs : List V} {us : List Value}, Vals xs us → xs.all flatV = true → us.any (eqU x) = xs.any fun y => eqV y x
  | _, _, .nil, _ => rfl
  | y :: xs, u :: us, .cons r t, f => by
    rw [List.all_cons, Bool.and_eq_true] at f
    rw [List.any_cons, List.any_cons, eqU_of r f.1, any_eqU t f.2]
theorem mem_eqAt {A : Around} {s : Shared} {x : V} {v : Value} (rx : RelV x v) (fx : flatV x = true) : ∀ {xs : List V} {us : List Value}, Vals xs us → xs.all flatV = true → ∀ u ∈ us, SeqAt.EqAt A s u v (eqU x u)
  | _, _, .nil, _ => fun u hu => by cases hu
  | y :: xs, u :: us, .cons r t, f => fun u' hu => by
    rw [List.all_cons, Bool.and_eq_true] at f
    rcases List.mem_cons.mp hu with rfl | hu
    · rw [eqU_of r f.1]; exact eqAt_V r rx f.1 fx
    · exact mem_eqAt rx fx t f.2 u' hu
def inV (x : V) (xs : List V) : Bool := xs.any fun y => eqV y x
/-- x in a list or tuple of flat items -/
def rIn (K : PySem.W.Frag) (neg : Bool) : R2 := fun x y H Q => ∃ p xs, y = .ref p ∧ (SqL K H p xs ∨ SqT K H p xs) ∧ flatV x = true ∧ xs.all flatV = true ∧ Q (.bl (if neg then !inV x xs else inV x xs)) H
theorem op_in_seq : OpR X (compareOp .In) (rIn X.K false) := by
  intro pins s σ H x y v u Q I rx ry h
  obtain ⟨p, xs, rfl, hq, fx, fs, q⟩ := h
  cases ry
  rcases hq with hq | hq
  · obtain ⟨its, r, pl, hz⟩ := I.list hq
    refine SeqAt.in_listAt (eqU x) pl.isList (fun w hw => mem_eqAt rx fx r fs w (by simpa using hw)) ⟨.bl _, H, I, rfl, ?_⟩
    rw [show its.toArray.any (eqU x) = its.any (eqU x) by simp, any_eqU r fs]
    exact q
  · obtain ⟨its, r, pl, hz⟩ := I.tuple hq
    refine SeqAt.in_tupleAt (eqU x) pl (fun w hw => mem_eqAt rx fx r fs w (by simpa using hw)) ⟨.bl _, H, I, rfl, ?_⟩
    rw [show its.toArray.any (eqU x) = its.any (eqU x) by simp, any_eqU r fs]
    exact q
theorem op_notIn_seq : OpR X (compareOp .NotIn) (rIn X.K true) := by
  intro pins s σ H x y v u Q I rx ry h
  obtain ⟨p, xs, rfl, hq, fx, fs, q⟩ := h
  cases ry
  rcases hq with hq | hq
  · obtain ⟨its, r, pl, hz⟩ := I.list hq
    refine SeqAt.notIn_listAt (eqU x) pl.isList (fun w hw => mem_eqAt rx fx r fs w (by simpa using hw)) ⟨.bl _, H, I, rfl, ?_⟩
    rw [show its.toArray.any (eqU x) = its.any (eqU x) by simp, any_eqU r fs]
    exact q
  · obtain ⟨its, r, pl, hz⟩ := I.tuple hq
    refine SeqAt.notIn_tupleAt (eqU x) pl (fun w hw => mem_eqAt rx fx r fs w (by simpa using hw)) ⟨.bl _, H, I, rfl, ?_⟩
    rw [show its.toArray.any (eqU x) = its.any (eqU x) by simp, any_eqU r fs]
    exact q
theorem op_notIn_str : OpR X (compareOp .NotIn) (fun x y H Q => ∃ i j, x = .str i ∧ y = .str j ∧ Q (.bl (!(!(Builtin.Str.occurrences j i 0 j.length 1).isEmpty))) H) := by
  intro pins s σ H x y v u Q I rx ry h
  obtain ⟨i, j, rfl, rfl, q⟩ := h
  obtain ⟨t, rfl⟩ := rx
  obtain ⟨t', rfl⟩ := ry
  exact notIn_str ⟨.bl _, H, I, rfl, q⟩

/-! ### len, list(x), tuple(x) of any list or tuple that is read -/
theorem call_len_seq : CallR X (.builtin "len") (fun xs H Q => ∃ p ys, xs = [.ref p] ∧ (SqL X.K H p ys ∨ SqT X.K H p ys) ∧ Q (.int ys.length) H) := by
  intro pins s σ H xs us Q I r h
  obtain ⟨p, ys, rfl, hq, q⟩ := h
  obtain ⟨u, rfl, rx⟩ := vals1 r
  cases rx
  have hn := line63
  rcases hq with hq | hq
  · obtain ⟨its, r', pl, hz⟩ := I.list hq
    have hlen := r'.length
    exact Calls.call_len_list pl.isList (by simp only [List.size_toArray] <;> omega) ⟨.int ys.length, H, I.tok _, ⟨s.toks + 1, by rw [List.size_toArray, hlen]⟩, q⟩
  · obtain ⟨its, r', pl, hz⟩ := I.tuple hq
    have hlen := r'.length
    exact len_tuple pl (by simp only [List.size_toArray] <;> omega) ⟨.int ys.length, H, I.tok _, ⟨s.toks + 1, by rw [List.size_toArray, hlen]⟩, q⟩
theorem call_len_str : CallR X (.builtin "len") (fun xs H Q => ∃ z, xs = [.str z] ∧ z.length ≤ sizeLine ∧ Q (.int z.length) H) := by
  intro pins s σ H xs us Q I r h
  obtain ⟨z, rfl, hz, q⟩ := h
  obtain ⟨u, rfl, t, rfl⟩ := vals1 r
  have hn := line63
  exact len_str (by omega) ⟨.int z.length, H, I.tok _, ⟨_, rfl⟩, q⟩
theorem CallR.or {f : Value} {r r' : List V → Hp → VK → Prop} (h : CallR X f r) (h' : CallR X f r') : CallR X f (fun xs H Q => r xs H Q ∨ r' xs H Q) := by
  intro pins s σ H xs us Q I rs q
  rcases q with q | q
  · exact h pins s σ H xs us Q I rs q
  · exact h' pins s σ H xs us Q I rs q
theorem call_list_of : CallR X (.type "list") (fun xs H Q => ∃ p ys, xs = [.ref p] ∧ (SqL X.K H p ys ∨ SqT X.K H p ys) ∧ ∀ l, H l = none → Q (.ref l) (upd H l (.lst ys))) := by
  intro pins s σ H xs us Q I r h
  obtain ⟨p, ys, rfl, hq, q⟩ := h
  obtain ⟨u, rfl, rx⟩ := vals1 r
  cases rx
  have fin : ∀ (its : List Value), Vals ys its → ys.length ≤ sizeLine → ∀ (h' : Heap) (c' : Nat), (∀ b o', s.heap.get? b = some o' → h'.get? b = some o') →
      h'.get? s.heap.objs.size = some { cls := .type "list", dict := none, data := .seq its.toArray c', slots := #[] } → EP X pins σ Q (.ref s.heap.objs.size) { s with heap := h' } := fun its r' hz h' c' kp e =>
    ⟨.ref s.heap.objs.size, _, I.laid (t' := s.toks) kp (Nat.le_refl _) (show ObjOk X.prog X.w _ h' _ (.lst ys) from ⟨hz, its, c', r', e⟩), rfl, q _ (I.hok.fresh (Nat.le_refl _))⟩
  rcases hq with hq | hq
  · obtain ⟨its, r', pl, hz⟩ := I.list hq
    have hlen := r'.length
    obtain ⟨o, ho, hc, n, hd⟩ := pl.isList
    exact call_list_seq p (.inl rfl) ho hc hd (fun h' c' kp e => fin its r' hz h' c' kp e) (by simp only [List.size_toArray] <;> omega)
  · obtain ⟨its, r', pl, hz⟩ := I.tuple hq
    have hlen := r'.length
    obtain ⟨o, ho, hc, n, hd⟩ := pl
    exact call_list_seq p (.inr rfl) ho hc hd (fun h' c' kp e => fin its r' hz h' c' kp e) (by simp only [List.size_toArray] <;> omega)
theorem call_tuple_of : CallR X (.type "tuple") (fun xs H Q => ∃ p ys, xs = [.ref p] ∧ ((SqL X.K H p ys ∧ ∀ l, H l = none → Q (.ref l) (upd H l (.tup ys))) ∨ (SqT X.K H p ys ∧ Q (.ref p) H))) := by
  intro pins s σ H xs us Q I r h
  obtain ⟨p, ys, rfl, h⟩ := h
  obtain ⟨u, rfl, rx⟩ := vals1 r
  cases rx
  rcases h with ⟨hq, q⟩ | ⟨hq, q⟩
  · obtain ⟨its, r', pl, hz⟩ := I.list hq
    have hlen := r'.length
    refine call_tuple_list pl.isList (fun h' kp => ?_) (by simp only [List.size_toArray] <;> omega)
    have I1 : Inv X pins σ H { s with heap := h' } := I.kept (t' := s.toks) kp
    have I2 : Inv X pins σ (upd H h'.objs.size (.tup ys)) { s with heap := h'.push { cls := .type "tuple", data := .seq its.toArray } } :=
      I1.laid (t' := s.toks) (fun b o e => Heap.get?_push_of_some _ e) (Nat.le_refl _) (show ObjOk X.prog X.w _ _ _ (.tup ys) from ⟨hz, its, r', IsTup.new _ _⟩)
    exact ⟨.ref h'.objs.size, _, I2, rfl, q _ (I1.hok.fresh (Nat.le_refl _))⟩
  · obtain ⟨its, r', pl, hz⟩ := I.tuple hq
    exact call_tuple_same pl ⟨.ref p, H, I, rfl, q⟩

/-! ### the call of a builtin's method: o.m(..) -/
/-- the value is of that builtin type -/
def tyV (K : PySem.W.Frag) (T : String) (x : V) (H : Hp) : Prop := match x with
  | .str _ => T = "str"
  | .int _ => T = "int"
  | .ref p => (T = "list" ∧ ∃ xs, SqL K H p xs) ∨ (T = "tuple" ∧ ∃ o, K.lookup p = some o ∧ o.cls = .type "tuple" ∧ o.dict = none) ∨
      (T = "dict" ∧ ((∃ kvs, H p = some (.dK kvs)) ∨ ∃ kvs, H p = some (.dT kvs))) ∨ (T = "set" ∧ ∃ S n, H p = some (.set S n))
  | _ => False
theorem tyV_is {pins : List (Addr × Obj)} {σ : St} {H : Hp} {s : Shared} {T : String} {x : V} {v : Value} (I : Inv X pins σ H s) (r : RelV x v) (ty : tyV X.K T x H) :
    s.TypeIs v T ∧ ∀ a, v = .ref a → ∃ ob, s.heap.get? a = some ob ∧ ob.dict = none := by
  cases x with
  | str z =>
    obtain ⟨t, rfl⟩ := r
    cases (show T = "str" from ty)
    exact ⟨typeIs_str s z t, fun _ e => nomatch e⟩
  | int i =>
    obtain ⟨t, rfl⟩ := r
    cases (show T = "int" from ty)
    exact ⟨typeIs_int s i t, fun _ e => nomatch e⟩
  | ref p =>
    cases r
    rcases ty with ⟨rfl, xs, hq⟩ | ⟨rfl, o, hk, hc, hd⟩ | ⟨rfl, hk⟩ | ⟨rfl, S, n, hk⟩
    · obtain ⟨its, _, pl, _⟩ := I.list hq
      refine ⟨pl.isList.typeIs, fun a e => ?_⟩
      cases e
      obtain ⟨o, n, e, c, hd, _⟩ := pl
      exact ⟨o, e, hd⟩
    · refine ⟨⟨o, I.kIn p o hk, hc⟩, fun a e => ?_⟩
      cases e
      exact ⟨o, I.kIn _ o hk, hd⟩
    · have z : ∃ o, s.heap.get? p = some o ∧ o.ExactDict := by
        rcases hk with ⟨kvs, hk⟩ | ⟨kvs, hk⟩
        · obtain ⟨_, _, _, _, o, _, _, e, ex, _⟩ := I.hok p _ hk
          exact ⟨o, e, ex⟩
        · obtain ⟨_, _, _, _, o, _, _, e, ex, _⟩ := I.hok p _ hk
          exact ⟨o, e, ex⟩
      obtain ⟨o, e, ex⟩ := z
      refine ⟨⟨o, e, ex.1⟩, fun a e2 => ?_⟩
      cases e2
      exact ⟨o, e, ex.2.1⟩
    · obtain ⟨o, _, _, _, e, ex, _⟩ := I.hok p _ hk
      refine ⟨⟨o, e, ex.1⟩, fun a e2 => ?_⟩
      cases e2
      exact ⟨o, e, ex.2.1⟩
  | _ => exact False.elim ty
def tBM0 (K : PySem.W.Frag) (T : String) (r : V → List V → Hp → VK → Prop) (to : TE) : TE := fun σ H Q => to σ H fun x H1 => tyV K T x H1 ∧ r x [] H1 Q
def tBM (K : PySem.W.Frag) (T : String) (r : V → List V → Hp → VK → Prop) (to : TE) (t : TA) : TE := fun σ H Q => to σ H fun x H1 => tyV K T x H1 ∧ t σ H1 fun xs H2 => r x xs H2 Q
variable {o e : Expr} {es : List Expr} {to : TE} {t : TA} {name : Str} {apos cpos : Pos} {T id : String} {r : V → List V → Hp → VK → Prop}
theorem pe_bm0 (pa : PlainAttrs T) (slot : Slot T name id) (hty : typeOf (.builtin id) = pure (.type "method_descriptor")) (hm : MtR X id r) (ho : PE X o to)
    (hbase : attributeBase o name X.env (eval o X.env) = eval o X.env := by rfl) (hline : (apos.endLine == cpos.line) = true := by rfl) : PE X (.Call (.Attribute o name apos) [] [] cpos) (tBM0 X.K T r to) := by
  intro pins s σ H Q I h
  refine wpAny_Call_method0_late hbase hline (thn (ho pins s σ H _ I h) fun v s1 ⟨x, H1, I1, r1, ty, q1⟩ => ?_)
  obtain ⟨h1, h2⟩ := tyV_is I1 r1 ty
  exact ⟨T, id, pa, slot, hty, h1, h2, Calls.callWith_builtin rfl (PySem.evalArgs_none (hm pins s1 σ H1 x [] v [] Q I1 r1 .nil q1))⟩
theorem pe_bm (pa : PlainAttrs T) (slot : Slot T name id) (hty : typeOf (.builtin id) = pure (.type "method_descriptor")) (hm : MtR X id r) (ho : PE X o to) (ha : PA X (e :: es) t)
    (hbase : attributeBase o name X.env (eval o X.env) = eval o X.env := by rfl)
    (hfew : ((backTo cpos (starEach (e :: es) X.env)).all (fun x => !x.1) && (backToKw cpos (keywordEach [] X.env)).all (fun x => x.1.isSome)
      && decide ((e :: es).length + ([] : List Keyword).length + (if ([] : List Keyword).isEmpty then 0 else 1) < 30)) = true := by rfl)
    (hline : (apos.endLine == cpos.line) = true := by rfl) (hs : starEach (e :: es) X.env = (false, eval e X.env) :: starEach es X.env := by rfl) (hplain : (backTo cpos (starEach es X.env)).any (·.1) = false := by rfl) :
    PE X (.Call (.Attribute o name apos) (e :: es) [] cpos) (tBM X.K T r to t) := by
  intro pins s σ H Q I h
  refine wpAny_Call_method_late hbase hfew hline rfl (thn (ho pins s σ H _ I h) fun v s1 ⟨x, H1, I1, r1, ty, q1⟩ => ?_)
  obtain ⟨h1, h2⟩ := tyV_is I1 r1 ty
  refine ⟨T, id, pa, slot, hty, h1, h2, ?_⟩
  have hA := ha cpos pins s1 σ H1 _ I1 q1
  rw [hs] at hA ⊢
  refine Calls.callWith_builtin (by show (false || (backTo cpos (starEach es X.env)).any (·.1)) = false; rw [hplain] <;> rfl) (Calls.evalArgs_plain ?_)
  exact thn hA fun us s2 ⟨vs, H2, I2, r2, q2⟩ => hm pins s2 σ H2 x vs v us Q I2 r1 r2 q2
/- xs.append(e), list.index on a module's tuple .. are MtR facts of 06m -/
end
end L2

namespace L2
open PySem PySem.Spec PyProof.Rows

def MtM (X : Cx) (id : String) (r : V → List V → Hp → VK → Prop) : Prop :=
  ∀ (pins : List (Addr × Obj)) (s : Shared) (σ : St) (H : Hp) (x : V) (xs : List V) (v : Value) (us : List Value) (Q : VK), Inv X pins σ H s → RelV x v → Vals xs us → r x xs H Q →
    wpAny (model X.prog X.w) X.A (call (.builtin id) (v :: us)) (EP X pins σ Q) X.xe s

/-! ### lists of values -/
theorem Vals.one : ∀ {x : V} {us : List Value}, Vals [x] us → ∃ u, us = [u] ∧ RelV x u
  | _, _, .cons r .nil => ⟨_, rfl, r⟩
theorem Vals.two : ∀ {x y : V} {us : List Value}, Vals [x, y] us → ∃ u v, us = [u, v] ∧ RelV x u ∧ RelV y v
  | _, _, _, .cons r (.cons q .nil) => ⟨_, _, rfl, r, q⟩
theorem Vals.zero : ∀ {us : List Value}, Vals [] us → us = []
  | _, .nil => rfl
theorem Vals.dropLast {xs : List V} {us : List Value} (h : Vals xs us) : Vals xs.dropLast us.dropLast := by
  induction h with
  | nil => exact .nil
  | cons r t ih =>
    cases t with
    | nil => exact .nil
    | cons q t' => exact .cons r ih
theorem Vals.eraseIdx : ∀ {xs : List V} {us : List Value} (i : Nat), Vals xs us → Vals (xs.eraseIdx i) (us.eraseIdx i)
  | _, _, _, .nil => .nil
  | _, _, 0, .cons _ t => t
  | _, _, i + 1, .cons r t => .cons r (Vals.eraseIdx i t)
theorem Vals.reverse {xs : List V} {us : List Value} (h : Vals xs us) : Vals xs.reverse us.reverse := by
  induction h with
  | nil => exact .nil
  | cons r t ih => rw [List.reverse_cons, List.reverse_cons]; exact Vals.append ih (.cons r .nil)
theorem Vals.rep {xs : List V} {us : List Value} (h : Vals xs us) : ∀ k : Nat, Vals (List.replicate k xs).flatten (List.replicate k us).flatten
  | 0 => .nil
  | k + 1 => by
    rw [List.replicate_succ, List.replicate_succ, List.flatten_cons, List.flatten_cons]
    exact Vals.append h (Vals.rep h k)
theorem erase_last {α : Type} (l : List α) : l.eraseIdx (l.length - 1) = l.dropLast := by
  induction l with
  | nil => rfl
  | cons a r ih =>
    cases r with
    | nil => rfl
    | cons b r =>
      have e : (a :: b :: r).length - 1 = ((b :: r).length - 1) + 1 := by
        have h1 : (a :: b :: r).length = r.length + 2 := rfl
        have h2 : (b :: r).length = r.length + 1 := rfl
        omega
      rw [e, List.eraseIdx_cons_succ, ih]
      all_goals rfl
theorem len_erase {α : Type} : ∀ (l : List α) (i : Nat), (l.eraseIdx i).length ≤ l.length
  | [], _ => Nat.le_refl _
  | _ :: _, 0 => Nat.le_succ _
  | _ :: r, i + 1 => Nat.succ_le_succ (len_erase r i)
theorem foldl_rep (its : List Value) : ∀ (k : Nat) (acc : List Value),
    List.foldl (fun x1 x2 => x1 ++ x2) acc.toArray (List.replicate k its.toArray) = (acc ++ (List.replicate k its).flatten).toArray
  | 0, acc => by simp
  | k + 1, acc => by
    have e : acc.toArray ++ its.toArray = (acc ++ its).toArray := by simp
    have e2 : (acc ++ its) ++ (List.replicate k its).flatten = acc ++ (List.replicate (k + 1) its).flatten := by
      rw [List.replicate_succ, List.flatten_cons, List.append_assoc]
    rw [← e2, ← foldl_rep its k (acc ++ its), ← e, List.replicate_succ, List.foldl_cons]

section
variable {X : Cx} {pins : List (Addr × Obj)} {σ : St} {H : Hp} {s : Shared} {l b : Addr} {xs ys zs : List V}

/-! ### the two steps: a tracked list is rewritten, a new list is laid -/
theorem Inv.lset {its its' : List Value} {n : Nat} {f : Array Value → Array Value} {t' : Nat} (I : Inv X pins σ H s) (hH : H l = some (.lst xs))
    (e : s.heap.get? l = some { cls := .type "list", data := .seq its.toArray n }) (hf : f its.toArray = its'.toArray) (hv : Vals ys its') (hz : ys.length ≤ sizeLine) :
    Inv X pins σ (upd H l (.lst ys)) { s with heap := s.heap.update l (Obj.mapSeq f), toks := t' } := by
  have q := PySem.IsL.update e f
  rw [hf] at q
  refine I.write (x := l) (e := l) (by rw [hH]; exact trivial) (.inl rfl) (fun b' u hb hu => (Heap.get?_update_other s.heap (Obj.mapSeq f) (Ne.symm hb)).trans hu) ⟨_, q⟩ ?_
  exact ⟨hz, its', _, hv, q⟩
theorem Inv.lnew {its : List Value} {t' : Nat} (I : Inv X pins σ H s) (hv : Vals ys its) (hz : ys.length ≤ sizeLine) :
    Inv X pins σ (upd H s.heap.objs.size (.lst ys)) { s with heap := s.heap.push { cls := .type "list", data := .seq its.toArray }, toks := t' } :=
  I.laid (fun _ _ q => Heap.get?_push_of_some _ q) (Nat.le_refl _) ⟨hz, its, 0, hv, Heap.get?_push_size _ rfl⟩
theorem Inv.fresh (I : Inv X pins σ H s) : H s.heap.objs.size = none := I.hok.fresh (Nat.le_refl _)
theorem Inv.lstM (I : Inv X pins σ H s) (hH : H l = some (.lst xs)) : xs.length ≤ sizeLine ∧ ∃ (its : List Value) (n : Nat), Vals xs its ∧ xs.length = its.length ∧ s.heap.get? l = some { cls := .type "list", data := .seq its.toArray n } := by
  obtain ⟨z, its, n, r, e⟩ := I.hok l _ hH
  exact ⟨z, its, n, r, r.length, e⟩

theorem notLongL {n : Nat} (h : n ≤ sizeLine) : Builtin.List.listTooLong n = false := by
  unfold Builtin.List.listTooLong
  exact decide_eq_false (by omega)
end

section
variable {X : Cx}

/-! ### methods -/
def rAppend : V → List V → Hp → VK → Prop := fun x vs H Q => ∃ l xs y, x = .ref l ∧ vs = [y] ∧ H l = some (.lst xs) ∧ xs.length < sizeLine ∧ Q .non (upd H l (.lst (xs ++ [y])))
theorem mt_append : MtM X "list.append" rAppend := by
  intro pins s σ H x vs v us Q I rx rv h
  obtain ⟨l, xs, y, rfl, rfl, hH, hz, q⟩ := h
  cases rx
  obtain ⟨u, rfl, ru⟩ := rv.one
  obtain ⟨z, its, n, r, hl, e⟩ := I.lstM hH
  refine call_meets F.slot_list_append ⟨_, e, rfl⟩ F.entry_list_append (F.args_list_append_2 _ _) (PySem.list_append l its.toArray n u (by rw [List.size_toArray]; omega)) ⟨e, ?_⟩
  refine ⟨.non, _, I.lset (its' := its ++ [u]) hH e (by simp) (r.append (.cons ru .nil)) ?_, rfl, q⟩
  rw [List.length_append, List.length_singleton]
  omega

def rExtend : V → List V → Hp → VK → Prop := fun x vs H Q => ∃ l b xs zs, x = .ref l ∧ vs = [.ref b] ∧ H l = some (.lst xs) ∧ H b = some (.lst zs) ∧ xs.length + zs.length ≤ sizeLine ∧ Q .non (upd H l (.lst (xs ++ zs)))
theorem mt_extend : MtM X "list.extend" rExtend := by
  intro pins s σ H x vs v us Q I rx rv h
  obtain ⟨l, b, xs, zs, rfl, rfl, hH, hB, hz, q⟩ := h
  cases rx
  obtain ⟨u, rfl, ru⟩ := rv.one
  cases ru
  obtain ⟨z, its, n, r, hl, e⟩ := I.lstM hH
  obtain ⟨z2, its2, n2, r2, hl2, e2⟩ := I.lstM hB
  have hsz : its.toArray.size + its2.toArray.size ≤ sizeLine := by rw [List.size_toArray, List.size_toArray]; omega
  have hlong : ¬ (!its.toArray.isEmpty && Builtin.List.listTooLong (its.toArray.size + its2.toArray.size)) = true := by
    rw [notLongL hsz, Bool.and_false]
    exact Bool.false_ne_true
  refine call_meets F.slot_list_extend ⟨_, e, rfl⟩ F.entry_list_extend (F.args_list_extend_2 _ _)
    (AutoSeq1.list_extend_list_list_0 l its.toArray n b its2.toArray n2 hlong (by rw [List.size_toArray]; omega) (by omega)) ⟨e, e2, ?_⟩
  refine ⟨.non, _, I.lset (its' := its ++ its2) hH e (by simp) (r.append r2) ?_, rfl, q⟩
  rw [List.length_append]
  omega

def rPop : V → List V → Hp → VK → Prop := fun x vs H Q => ∃ l xs y, x = .ref l ∧ vs = [] ∧ H l = some (.lst xs) ∧ xs[xs.length - 1]? = some y ∧ Q y (upd H l (.lst xs.dropLast))
theorem mt_pop : MtM X "list.pop" rPop := by
  intro pins s σ H x vs v us Q I rx rv h
  obtain ⟨l, xs, y, rfl, rfl, hH, hy, q⟩ := h
  cases rx
  have hus := rv.zero
  subst hus
  obtain ⟨z, its, n, r, hl, e⟩ := I.lstM hH
  obtain ⟨u, hu, ru⟩ := r.get hy
  have hy' : its.toArray[its.toArray.size - 1]? = some u := by
    show its.toArray[its.length - 1]? = some u
    rw [← Array.getElem?_toList, ← hl]
    exact hu
  refine call_meets F.slot_list_pop ⟨_, e, rfl⟩ F.entry_list_pop (F.args_list_pop_1 _) (MeetsSeq.list_pop_last l its.toArray n u hy' (by rw [List.size_toArray]; omega)) ⟨e, ?_⟩
  refine ⟨y, _, I.lset (its' := its.dropLast) hH e ?_ r.dropLast ?_, ru, q⟩
  · show its.toArray.eraseIdxIfInBounds (its.toArray.size - 1) = its.dropLast.toArray
    rw [List.size_toArray, List.eraseIdxIfInBounds_toArray, erase_last]
  · rw [List.length_dropLast]
    omega

def rPopAt : V → List V → Hp → VK → Prop := fun x vs H Q => ∃ l xs i k y, x = .ref l ∧ vs = [.int i] ∧ H l = some (.lst xs) ∧ -(2 ^ 63) ≤ i ∧ i < 2 ^ 63 ∧ seqIndex? i xs.length = some k ∧ xs[k]? = some y ∧ Q y (upd H l (.lst (xs.eraseIdx k)))
theorem mt_popAt : MtM X "list.pop" rPopAt := by
  intro pins s σ H x vs v us Q I rx rv h
  obtain ⟨l, xs, i, k, y, rfl, rfl, hH, h1, h2, hk, hy, q⟩ := h
  cases rx
  obtain ⟨u, rfl, ru⟩ := rv.one
  obtain ⟨t, rfl⟩ := ru
  obtain ⟨z, its, n, r, hl, e⟩ := I.lstM hH
  obtain ⟨w, hw, rw'⟩ := r.get hy
  refine call_meets F.slot_list_pop ⟨_, e, rfl⟩ F.entry_list_pop (F.args_list_pop_2 _ _)
    (MeetsSeq.list_pop_at l its.toArray n i t k w (fitsIndex_both h1 h2) (by rw [List.size_toArray, ← hl]; exact hk) (by rw [← Array.getElem?_toList]; exact hw) (by rw [List.size_toArray]; omega)) ⟨e, ?_⟩
  refine ⟨y, _, I.lset (its' := its.eraseIdx k) hH e ?_ (r.eraseIdx k) ?_, rw', q⟩
  · show its.toArray.eraseIdxIfInBounds k = (its.eraseIdx k).toArray
    rw [List.eraseIdxIfInBounds_toArray]
  · have := len_erase xs k
    omega

def rReverse : V → List V → Hp → VK → Prop := fun x vs H Q => ∃ l xs, x = .ref l ∧ vs = [] ∧ H l = some (.lst xs) ∧ Q .non (upd H l (.lst xs.reverse))
theorem mt_reverse : MtM X "list.reverse" rReverse := by
  intro pins s σ H x vs v us Q I rx rv h
  obtain ⟨l, xs, rfl, rfl, hH, q⟩ := h
  cases rx
  have hus := rv.zero
  subst hus
  obtain ⟨z, its, n, r, hl, e⟩ := I.lstM hH
  refine call_meets F.slot_list_reverse ⟨_, e, rfl⟩ F.entry_list_reverse (F.args_list_reverse_1 _) (AutoSeq1.list_reverse_list_0 l its.toArray n (by rw [List.size_toArray]; omega)) ⟨e, ?_⟩
  refine ⟨.non, _, I.lset (its' := its.reverse) hH e (by simp) r.reverse ?_, rfl, q⟩
  rw [List.length_reverse]
  omega

def rClear : V → List V → Hp → VK → Prop := fun x vs H Q => ∃ l xs, x = .ref l ∧ vs = [] ∧ H l = some (.lst xs) ∧ Q .non (upd H l (.lst []))
theorem mt_clear : MtM X "list.clear" rClear := by
  intro pins s σ H x vs v us Q I rx rv h
  obtain ⟨l, xs, rfl, rfl, hH, q⟩ := h
  cases rx
  have hus := rv.zero
  subst hus
  obtain ⟨z, its, n, r, hl, e⟩ := I.lstM hH
  refine call_meets F.slot_list_clear ⟨_, e, rfl⟩ F.entry_list_clear (F.args_list_clear_1 _) (AutoSeq1.list_clear_list_0 l its.toArray n (by rw [List.size_toArray]; omega)) ⟨e, ?_⟩
  exact ⟨.non, _, I.lset (its' := []) (ys := []) hH e rfl .nil (Nat.zero_le _), rfl, q⟩

/-! ### list + list, list += list, list * int -/
def rCat : R2 := fun x y H Q => ∃ l b xs zs, x = .ref l ∧ y = .ref b ∧ H l = some (.lst xs) ∧ H b = some (.lst zs) ∧ xs.length + zs.length ≤ sizeLine ∧ ∀ p, H p = none → Q (.ref p) (upd H p (.lst (xs ++ zs)))
theorem op_cat : OpR X (binaryOp .Add) rCat := by
  intro pins s σ H x y v u Q I rx ry h
  obtain ⟨l, b, xs, zs, rfl, rfl, hH, hB, hz, q⟩ := h
  cases rx
  cases ry
  obtain ⟨z, its, n, r, hl, e⟩ := I.lstM hH
  obtain ⟨z2, its2, n2, r2, hl2, e2⟩ := I.lstM hB
  refine PySem.P.add_list e e2 ?_ (by rw [List.size_toArray, List.size_toArray]; omega)
  have ea : its.toArray ++ its2.toArray = (its ++ its2).toArray := by simp
  rw [ea]
  exact ⟨.ref _, _, I.lnew (t' := s.toks) (r.append r2) (by rw [List.length_append]; omega), rfl, q _ I.fresh⟩
/-- a list times an int (a negative one is nothing) -/
def rRep : R2 := fun x y H Q => ∃ l k xs, x = .ref l ∧ y = .int k ∧ H l = some (.lst xs) ∧ -(2 ^ 63) ≤ k ∧ k < 2 ^ 63 ∧ xs.length * k.toNat ≤ sizeLine ∧
  ∀ p, H p = none → Q (.ref p) (upd H p (.lst (List.replicate k.toNat xs).flatten))
theorem len_rep {α : Type} (xs : List α) (k : Nat) : (List.replicate k xs).flatten.length = k * xs.length := by
  induction k with
  | zero => simp
  | succ k ih => rw [List.replicate_succ, List.flatten_cons, List.length_append, ih, Nat.succ_mul, Nat.add_comm]
theorem op_rep : OpR X (binaryOp .Mult) rRep := by
  intro pins s σ H x y v u Q I rx ry h
  obtain ⟨l, k, xs, rfl, rfl, hH, h1, h2, hz, q⟩ := h
  cases rx
  obtain ⟨t, rfl⟩ := ry
  obtain ⟨z, its, n, r, hl, e⟩ := I.lstM hH
  have hlen : its.toArray.size * k.toNat ≤ sizeLine := by rw [List.size_toArray, ← hl]; exact hz
  have hcap : ¬ its.toArray.size * k.toNat > (2 ^ 63 - 1) / 8 := by
    have : (sizeLine : Nat) ≤ (2 ^ 63 - 1) / 8 := by decide
    omega
  have hfit : ¬ (!Builtin.List.listFitsIndex k) = true := by
    rw [fitsIndex_both h1 h2]
    exact Bool.false_ne_true
  have hlong : ¬ Builtin.List.listTooLong (its.toArray.size * k.toNat) = true := by
    rw [notLongL hlen]
    exact Bool.false_ne_true
  have hnew : List.foldl (fun x1 x2 => x1 ++ x2) #[] (List.replicate (if its.toArray.isEmpty = true then 0 else k.toNat) its.toArray) = (List.replicate k.toNat its).flatten.toArray := by
    have f0 : ∀ m : Nat, List.foldl (fun x1 x2 => x1 ++ x2) #[] (List.replicate m its.toArray) = (List.replicate m its).flatten.toArray := fun m => by
      have := foldl_rep its m []
      rw [List.nil_append] at this
      exact this
    rw [f0]
    cases its with
    | nil => simp
    | cons a r' => rw [if_neg (by simp)]
  refine wpAny_binaryOp_repeat_ref (T := "list") (U := "int") (by decide) ⟨_, e, rfl⟩ (fun s' => typeIs_int s' k t) noFill_list_mul F.fills_int_mul F.slot_int_rmul repeat_list F.slot_int_index.lookup
    (call_meets F.slot_int_rmul (typeIs_int s k t) F.entry_int_rmul (F.args_int_rmul_2 _ _) (int___rmul___int_list k t l its.toArray n)
      ⟨e, rfl, ⟨_, e, rfl⟩, call_meets F.slot_list_mul ⟨_, e, rfl⟩ F.entry_list_mul (F.args_list_mul_2 _ _) (AutoListH.list___mul___list_int_3 l its.toArray n k t hfit hcap hlong) ⟨e, ?_⟩⟩)
  rw [hnew]
  exact ⟨.ref _, _, I.lnew (t' := s.toks) (r.rep k.toNat) (by rw [len_rep, Nat.mul_comm]; exact hz), rfl, q _ I.fresh⟩

/-! ### del xs[i] -/
theorem del_list {pins : List (Addr × Obj)} {s : Shared} {σ : St} {H : Hp} {l : Addr} {xs : List V} {i : Int} {t : Tok} {k : Nat} {Q : Unit → Shared → Prop} (I : Inv X pins σ H s) (hH : H l = some (.lst xs))
    (h1 : -(2 ^ 63) ≤ i) (h2 : i < 2 ^ 63) (hk : seqIndex? i xs.length = some k) (h : ∀ s', Inv X pins σ (upd H l (.lst (xs.eraseIdx k))) s' → Q () s') :
    wpAny (model X.prog X.w) X.A (delItem (.ref l) (.int i t)) Q X.xe s := by
  obtain ⟨z, its, n, r, hl, e⟩ := I.lstM hH
  refine PySem.P.delItem_list (k := k) e (fitsIndex_both h1 h2) (by rw [List.size_toArray, ← hl]; exact hk) (h _ ?_) (by rw [List.size_toArray]; omega)
  refine I.lset (its' := its.eraseIdx k) (t' := s.toks) hH e ?_ (r.eraseIdx k) ?_
  · show its.toArray.eraseIdxIfInBounds k = (its.eraseIdx k).toArray
    rw [List.eraseIdxIfInBounds_toArray]
  · have := len_erase xs k
    omega
end

/-! ### xs[a:b] = ys -/
section
variable {prog : Program} {w : World} {A : Around} {E : Value → Shared → Prop} {s : Shared}
theorem splice_eq (its its2 : List Value) (a c : Nat) : its.toArray.extract 0 a ++ its2.toArray ++ its.toArray.extract c its.toArray.size = (its.take a ++ its2 ++ its.drop c).toArray := by
  apply Array.toList_inj.mp
  first
    | (simp
       exact List.take_of_length_le (by simp))
    | simp [List.take_of_length_le]
    | simp
theorem bounds_run {a c n : Nat} (hac : a ≤ c) (hc : c ≤ n) : sliceBounds (some (a : Int)) (some (c : Int)) none n = ((a : Int), (c : Int), 1) := by
  simp only [sliceBounds, Option.getD_none]
  have h1 : ¬ ((a : Int) < 0) := by omega
  have h2 : ¬ ((c : Int) < 0) := by omega
  simp only [h1, h2, if_false, show (1 : Int) > 0 by decide, if_true]
  congr 1
  · omega
  · congr 1; omega
set_option maxRecDepth 100000 in
/-- list.__setitem__ with a slice of step one and another list -/
theorem setItem_slice {l b sl : Addr} {items new : Array Value} {n n2 : Nat} {vl vu : Value} {a c : Nat} {Q : Unit → Shared → Prop}
    (e : s.heap.get? l = some { cls := .type "list", data := .seq items n }) (e2 : s.heap.get? b = some { cls := .type "list", data := .seq new n2 }) (hne : l ≠ b)
    (hs : s.heap.IsSliceOf sl vl vu .none) (pl : IsPart vl (some (a : Int))) (pu : IsPart vu (some (c : Int))) (hac : a ≤ c) (hc : c ≤ items.size)
    (hsz : items.size + new.size ≤ sizeLine) (h : Q () { s with heap := s.heap.update l (Obj.mapSeq fun xs => xs.extract 0 a ++ new ++ xs.extract c xs.size) }) :
    wpAny (model prog w) A (setItem (.ref l) (.ref sl) (.ref b)) Q E s := by
  have hl : s.heap.IsList l items := PySem.IsL.isList e
  have hb : s.heap.IsList b new := PySem.IsL.isList e2
  obtain ⟨os, hos, hcs, hds⟩ := id hs
  have hTs : s.TypeIs (.ref sl) "slice" := ⟨os, hos, hcs⟩
  have hstep : ¬ ((rawPart none == rawInt 0) = true) := Bool.false_ne_true
  have hsame : Builtin.List.listSameRef (.ref l) (.ref b) = false := by
    unfold Builtin.List.listSameRef
    exact beq_eq_false_iff_ne.mpr hne
  have hmax : (max (a : Int) (c : Int)).toNat = c := by omega
  have hz' : ((fun xs : Array Value => xs.extract 0 a ++ new ++ xs.extract c xs.size) items).size ≤ sizeLine + 1 := by
    simp only [Array.size_append, Array.size_extract]
    omega
  unfold setItem
  try with_reducible refine wpAny_holding ?_
  first | refine wpAny_bind (wpAny_pure ?_) | skip
  refine wpAny_bind (wpAny_sequenceKey hl.typeIs (by decide) ?_)
  refine wpAny_bind (wpAny_callSpecial?_slot (name := Str.ofString "__setitem__") hl.typeIs slot_list_setitem
    (wpAny_call_entry slot_list_setitem hl.typeIs entry_list_setitem ?_ (args_list_setitem _ _ _)))
  show wpAny _ _ (Builtin.List.listSubscript? (.ref sl) >>= _) _ _ s
  refine wpAny_bind ?_
  unfold Builtin.List.listSubscript?
  refine wpAny_bind (wpAny_specialOf hTs slice_no_index ?_)
  simp only [Option.isNone_none, if_true]
  refine wpAny_pure ?_
  show wpAny _ _ (typeOf (.ref sl) >>= _) _ _ s
  refine wpAny_bind (wpAny_typeOf hTs ?_)
  first
    | rw [if_neg (by decide)]
    | refine PySem.W.KFB.if_not (by decide) ?_
  rw [listSliceParts_eq]
  refine wpAny_bind (wpAny_bind (wpAny_field hos hds (x := .none) rfl (wpAny_bind (wpAny_listPart .none ?_))))
  rw [if_neg hstep]
  refine wpAny_bind (wpAny_field hos hds (x := vl) rfl (wpAny_bind (wpAny_listPart pl ?_)))
  refine wpAny_bind (wpAny_field hos hds (x := vu) rfl (wpAny_bind (wpAny_listPart pu (wpAny_pure ?_))))
  first
    | simp only [hsame, Bool.false_eq_true, if_false]
    | refine PySem.W.KFB.if_not hsame ?_
    | (dsimp only
       rw [if_neg (by rw [hsame]; exact Bool.false_ne_true)])
  refine wpAny_bind (m := Builtin.List.listAllItems (.ref b) "must assign iterable to extended slice") ?_
  unfold Builtin.List.listAllItems
  refine wpAny_bind (wpAny_typeOf hb.typeIs ?_)
  first
    | refine PySem.W.KFB.if_so (by decide) ?_
    | rw [if_pos (by decide)]
    | simp only [beq_self_eq_true, Bool.true_or, if_true]
  unfold Builtin.List.listItems
  refine wpAny_bind (wpAny_seqItems e2 rfl (wpAny_pure ?_))
  refine wpAny_bind (wpAny_bind (wpAny_seqItems e rfl (wpAny_pure ?_)))
  refine wpAny_bind (wpAny_of_eq ((sliceIndices_raw (some (a : Int)) (some (c : Int)) none items.size (by simp)).trans (congrArg (pure : Int × Int × Int → Sem (Int × Int × Int)) (bounds_run hac hc))) ?_)
  show wpAny _ _ (if ((1 : Int) == 1) = true then _ else _) _ _ s
  rw [if_pos (by decide)]
  refine wpAny_bind (wpAny_rule ?_)
  first
    | simp only [notLongL hsz, Bool.false_eq_true, if_false]
    | refine PySem.W.KFB.if_not (notLongL hsz) ?_
  first | refine wpAny_bind (wpAny_pure ?_) | skip
  show wpAny _ _ (updateSeq l (fun xs => xs.extract 0 ((a : Int)).toNat ++ new ++ xs.extract (max (a : Int) (c : Int)).toNat xs.size) >>= _) _ _ s
  rw [hmax, Int.toNat_natCast]
  refine wpAny_bind (wpAny_updateSeq (hz := Nat.le_trans (Nat.le_add_right _ _) hsz) (_hz' := hz') e rfl ?_)
  refine wpAny_bind (wpAny_letGo ?_)
  first
    | exact wpAny_bind (wpAny_pure (wpAny_pure ⟨.none, rfl, wpAny_pure h⟩))
    | exact wpAny_pure ⟨.none, rfl, wpAny_pure h⟩
end

section
variable {X : Cx}
/-- xs[a:c] = ys of another list, at the value level: sl is the slice object that was just made -/
theorem set_slice {pins : List (Addr × Obj)} {s : Shared} {σ : St} {H : Hp} {l b sl : Addr} {xs ys : List V} {a c : Int} {vl vu : Value} {Q : Unit → Shared → Prop} (I : Inv X pins σ H s)
    (hH : H l = some (.lst xs)) (hB : H b = some (.lst ys)) (hne : l ≠ b) (hs : s.heap.IsSliceOf sl vl vu .none) (ra : RelV (.int a) vl) (rc : RelV (.int c) vu) (h0 : 0 ≤ a) (hac : a ≤ c) (hc : c ≤ xs.length)
    (hz : xs.length + ys.length ≤ sizeLine) (h : ∀ s', Inv X pins σ (upd H l (.lst (xs.take a.toNat ++ ys ++ xs.drop c.toNat))) s' → Q () s') :
    wpAny (model X.prog X.w) X.A (setItem (.ref l) (.ref sl) (.ref b)) Q X.xe s := by
  obtain ⟨ta, rfl⟩ := ra
  obtain ⟨tc, rfl⟩ := rc
  obtain ⟨z, its, n, r, hl, e⟩ := I.lstM hH
  obtain ⟨z2, its2, n2, r2, hl2, e2⟩ := I.lstM hB
  obtain ⟨a', rfl⟩ := Int.eq_ofNat_of_zero_le h0
  obtain ⟨c', rfl⟩ := Int.eq_ofNat_of_zero_le (Int.le_trans h0 hac)
  simp only [Int.toNat_natCast] at h
  refine setItem_slice (a := a') (c := c') e e2 hne hs (.int _ _) (.int _ _) (by omega) (by rw [List.size_toArray]; omega) (by rw [List.size_toArray, List.size_toArray]; omega) (h _ ?_)
  refine I.lset (its' := its.take a' ++ its2 ++ its.drop c') (t' := s.toks) hH e ?_ (Vals.append (Vals.append (r.take _) r2) (r.drop _)) ?_
  · exact splice_eq its its2 a' c'
  · rw [List.length_append, List.length_append, List.length_take, List.length_drop]
    omega
end
end L2

namespace Att
open PySem PySem.W PySem.Calls PyProof.Rows

/-! ### the script -/
theorem ints_of_wellAll {P : Params} {h : Heap} : ∀ (ns : List Int) (vs : List Value), WellAll P h vs (ns.map WData.int) → IntsAre vs ns := by
  intro ns
  induction ns with
  | nil =>
    intro vs w
    rw [List.map_nil] at w
    cases w
    exact .nil
  | cons n ns ih =>
    intro vs w
    rw [List.map_cons] at w
    cases w with
    | cons a b =>
      cases a
      exact .cons _ _ (ih _ b)

theorem script_of {l : OpenLaw} {n : Nat} (hn : l.most = some n) {P : Params} {h : Heap} {args : List WData} {vals : List Value}
    (hpre : l.row.toRowW.claim.pre args = true) (hwl : WellAll P h vals args) :
    ∃ a vs ns, vals = [Value.ref a] ∧ args = [WData.list (ns.map WData.int)] ∧ h.get? a = some { cls := .type "list", data := .seq vs.toArray } ∧ IntsAre vs ns ∧ ns.length ≤ n := by
  have hsh : WShape.hasAll [] args [.list .int] = true := (pre_splitW hpre).1
  have hc : l.pre.holds [] { args := args } = true := (pre_splitW hpre).2
  obtain ⟨d, r, rfl, h1, h2⟩ := hasAllW_cons hsh
  obtain rfl := hasAllW_nil h2
  obtain ⟨xs, rfl, h3⟩ := hasW_list h1
  obtain ⟨ns, rfl⟩ := items_int h3
  have hlen : ns.length ≤ n := by
    unfold OpenLaw.pre at hc
    have h4 : (WTm.not (.lt (.lit (.int (n : Int))) (.len (.arg 0)))).holds [] { args := [.list (ns.map .int)] } = true := by
      have h4 := (holds_andW hc).1
      rw [hn] at h4
      exact h4
    have h5 := condW_of h4 (w_not (w_lt w_lit (w_len_list (w_arg rfl))))
    rw [List.length_map] at h5
    refine Nat.le_of_not_lt fun q => ?_
    have q' : (n : Int) < ((ns.length : Nat) : Int) := by omega
    first
      | (rw [decide_eq_true q'] at h5; exact absurd h5 (by decide))
      | (simp at h5; omega)
  cases hwl with
  | cons w1 w2 =>
    cases w2
    cases w1 with
    | list ho hall => exact ⟨_, _, ns, rfl, rfl, ho, ints_of_wellAll ns _ hall, hlen⟩

theorem post_true (l : OpenLaw) (args : List WData) : l.row.toRowW.claim.post args (.bool true) args = true :=
  postW_of (r := l.row.toRowW) (X := (true == true))
    (show WShape.has [] (.bool true) .bool = true by first | rfl | decide | simp [WShape.has, WShape.arms, WShape.armsAll])
    (show (WTm.eq .res (.lit (.bool true))).value [] { args := args, res := some (.bool true), after := args } = some (.bool (true == true)) from w_eq_bool (w_res rfl) w_lit) rfl

/-! ### the attachment: holds_open's last premise (the goal 'hc' behind k_head) from a wpAny of the law's body -/
theorem attach {l : OpenLaw} {n : Nat} {q : Program} {loose : List Str} {XP : (Str → Option Value) → Heap → Prop} {YP : World → Heap → Prop} {d : DefRec} {x : Str}
    (hn : l.most = some n) (hdf : d.params.defaults = [])
    (hbind : ∀ pm cd doc v : Value, bindArgs (docDef d.name d.params d.body d.scope pm cd doc) ⟨[v], []⟩ = pure [(x, v)])
    (hx : d.scope.names.lookup x = some .local ∨ d.scope.names.lookup x = some .cell)
    (hk : d.scope.kind = .function) (hco : d.scope.isCoroutine = false) (hgen : d.scope.isGenerator = false)
    (body : ∀ (w : World) (s₀ s₁ s : Shared) (mg mb : Str → Option Value) (fa : Addr) (o : Obj) (pm cd doc : Value) (a : Addr) (vs : List Value) (ns : List Int),
      Ground q loose [] XP w s₀ mg mb s₁.heap → YP w s₁.heap →
      s₁.heap.get? fa = some o → o.data = .func (docDef d.name d.params d.body d.scope pm cd doc) → s₁.heap.CodeRec cd d.name → mg d.name = some (.ref fa) →
      s₁.heap.get? a = some { cls := .type "list", data := .seq vs.toArray } → IntsAre vs ns → ns.length ≤ n →
      s.gens = #[] → s.os = s₁.os →
      Fr s₁.heap s₁.heap.objs.size s.heap (bindL (envOfC d.name d.scope s₁.heap.objs.size fa cd).kindOf [(x, .ref a)] fun _ => none) →
      Cl s₁.heap.objs.size (cellsFrom (s₁.heap.objs.size + 1) d.scope.names []) s.heap (bindC (envOfC d.name d.scope s₁.heap.objs.size fa cd).kindOf [(x, .ref a)] fun _ => none) →
      wpAny (model l.prog w) (callerA.deeper (envOfC d.name d.scope s₁.heap.objs.size fa cd)) (execs d.body (envOfC d.name d.scope s₁.heap.objs.size fa cd))
        (fun f s' => f = .ret (.bool true) ∧ OldK s₁.heap s'.heap ∧ s'.os = s₁.os ∧ AllBare s'.gens) (fun _ _ => False) s) :
    WalkO q loose XP YP l.row.toRowW d [] (fun f vs => PySem.call f vs) := by
  intro w s₀ s₁ mg mb G Y fa o pm cd doc dV kV ho hd hcd hD hmg hg args vals as hpre hlay hrd hwl hlo
  obtain rfl : dV = .none := Dflts.none hD hdf
  obtain rfl : kV = .none := Dflts.noKw hD
  obtain ⟨a, vs, ns, rfl, rfl, hobj, hints, hlen⟩ := script_of hn hpre hwl
  refine enter_call ?_
  refine call_cells_ret (o := o) (by rw [depth_caller]; decide) ho (fd_plain hd) G.T.nolimit hcd (hbind pm cd doc (.ref a)) (fun y hy => ?_) (fun h₁ tk F X => ?_) hco hgen hk
  · obtain rfl : y = (x, Value.ref a) := List.mem_singleton.mp hy
    rcases hx with e | e
    · exact .inl e
    · exact .inr ⟨e, cellsFrom_some _ _ _ (.inl e)⟩
  · refine wpAny_mono (body w s₀ s₁ { s₁ with heap := h₁, toks := tk } mg mb fa o pm cd doc a vs ns G Y ho (fd_plain hd) hcd hmg hobj hints hlen hg rfl F X) (fun f s' hq => ?_) (fun _ _ hq => hq)
    obtain ⟨rfl, h2, h3, h4⟩ := hq
    exact ⟨.inl ⟨.bool true, .bool true, [], rfl, fun _ => rfl, .bool true, post_true l _, fun _ => ⟨List.Pairwise.nil, fun _ hm => (nomatch hm)⟩⟩, h2, h3, h4⟩

/-- the same from a codeAny of the CALL (for a layer whose function contracts speak of calls) -/
theorem attach_call {l : OpenLaw} {n : Nat} {q : Program} {loose : List Str} {XP : (Str → Option Value) → Heap → Prop} {YP : World → Heap → Prop} {d : DefRec}
    (hn : l.most = some n) (hdf : d.params.defaults = [])
    (call : ∀ (w : World) (s₀ s₁ : Shared) (mg mb : Str → Option Value) (fa : Addr) (o : Obj) (pm cd doc : Value) (a : Addr) (vs : List Value) (ns : List Int),
      Ground q loose [] XP w s₀ mg mb s₁.heap → YP w s₁.heap →
      s₁.heap.get? fa = some o → o.data = .func (docDef d.name d.params d.body d.scope pm cd doc) → s₁.heap.CodeRec cd d.name → mg d.name = some (.ref fa) →
      s₁.heap.get? a = some { cls := .type "list", data := .seq vs.toArray } → IntsAre vs ns → ns.length ≤ n → s₁.gens = #[] →
      codeAny (model l.prog w) callerA (.call (.ref fa) ⟨[.ref a], []⟩) (fun r s' => r = .ok (.ret (.bool true)) ∧ OldK s₁.heap s'.heap ∧ s'.os = s₁.os ∧ AllBare s'.gens) s₁) :
    WalkO q loose XP YP l.row.toRowW d [] (fun f vs => PySem.call f vs) := by
  intro w s₀ s₁ mg mb G Y fa o pm cd doc dV kV ho hd hcd hD hmg hg args vals as hpre hlay hrd hwl hlo
  obtain rfl : dV = .none := Dflts.none hD hdf
  obtain rfl : kV = .none := Dflts.noKw hD
  obtain ⟨a, vs, ns, rfl, rfl, hobj, hints, hlen⟩ := script_of hn hpre hwl
  refine enter_call (codeAny_mono (call w s₀ s₁ mg mb fa o pm cd doc a vs ns G Y ho (fd_plain hd) hcd hmg hobj hints hlen hg) fun r s' hq => ?_)
  obtain ⟨rfl, h2, h3, h4⟩ := hq
  exact ⟨.inl ⟨.bool true, .bool true, [], rfl, fun _ => rfl, .bool true, post_true l _, fun _ => ⟨List.Pairwise.nil, fun _ hm => (nomatch hm)⟩⟩, h2, h3, h4⟩

/-- the same where the top left finished generators (o_head chose holds_openN): nothing may have changed at all and no generator may be left -/
theorem attachN {l : OpenLaw} {n : Nat} {q : Program} {loose : List Str} {XP : (Str → Option Value) → Heap → Prop} {YP : World → Heap → Prop} {d : DefRec} {x : Str}
    (hn : l.most = some n) (hdf : d.params.defaults = [])
    (hbind : ∀ pm cd doc v : Value, bindArgs (docDef d.name d.params d.body d.scope pm cd doc) ⟨[v], []⟩ = pure [(x, v)])
    (hx : d.scope.names.lookup x = some .local ∨ d.scope.names.lookup x = some .cell)
    (hk : d.scope.kind = .function) (hco : d.scope.isCoroutine = false) (hgen : d.scope.isGenerator = false)
    (body : ∀ (w : World) (s₀ s₁ s : Shared) (mg mb : Str → Option Value) (fa : Addr) (o : Obj) (pm cd doc : Value) (a : Addr) (vs : List Value) (ns : List Int),
      Ground q loose [] XP w s₀ mg mb s₁.heap → YP w s₁.heap →
      s₁.heap.get? fa = some o → o.data = .func (docDef d.name d.params d.body d.scope pm cd doc) → s₁.heap.CodeRec cd d.name → mg d.name = some (.ref fa) →
      s₁.heap.get? a = some { cls := .type "list", data := .seq vs.toArray } → IntsAre vs ns → ns.length ≤ n →
      s.gens = #[] → s.os = s₁.os →
      Fr s₁.heap s₁.heap.objs.size s.heap (bindL (envOfC d.name d.scope s₁.heap.objs.size fa cd).kindOf [(x, .ref a)] fun _ => none) →
      Cl s₁.heap.objs.size (cellsFrom (s₁.heap.objs.size + 1) d.scope.names []) s.heap (bindC (envOfC d.name d.scope s₁.heap.objs.size fa cd).kindOf [(x, .ref a)] fun _ => none) →
      wpAny (model l.prog w) (callerA.deeper (envOfC d.name d.scope s₁.heap.objs.size fa cd)) (execs d.body (envOfC d.name d.scope s₁.heap.objs.size fa cd))
        (fun f s' => f = .ret (.bool true) ∧ (∀ b o, s₁.heap.get? b = some o → s'.heap.get? b = some o) ∧ s'.os = s₁.os ∧ s'.gens = #[]) (fun _ _ => False) s) :
    WalkN q loose XP YP l.row.toRowW d [] (fun f vs => PySem.call f vs) := by
  intro w s₀ s₁ mg mb G Y fa o pm cd doc dV kV ho hd hcd hD hmg hg args vals as hpre hlay hrd hwl hlo
  obtain rfl : dV = .none := Dflts.none hD hdf
  obtain rfl : kV = .none := Dflts.noKw hD
  obtain ⟨a, vs, ns, rfl, rfl, hobj, hints, hlen⟩ := script_of hn hpre hwl
  refine enter_callW ?_
  refine call_cells_ret (o := o) (by rw [depth_caller]; decide) ho (fd_plain hd) G.T.nolimit hcd (hbind pm cd doc (.ref a)) (fun y hy => ?_) (fun h₁ tk F X => ?_) hco hgen hk
  · obtain rfl : y = (x, Value.ref a) := List.mem_singleton.mp hy
    rcases hx with e | e
    · exact .inl e
    · exact .inr ⟨e, cellsFrom_some _ _ _ (.inl e)⟩
  · refine wpAny_mono (body w s₀ s₁ { s₁ with heap := h₁, toks := tk } mg mb fa o pm cd doc a vs ns G Y ho (fd_plain hd) hcd hmg hobj hints hlen hg rfl F X) (fun f s' hq => ?_) (fun _ _ hq => hq)
    obtain ⟨rfl, h2, h3, h4⟩ := hq
    exact ⟨.inl ⟨.bool true, .bool true, [], rfl, fun _ => rfl, .bool true, post_true l _, fun _ => ⟨List.Pairwise.nil, fun _ hm => (nomatch hm)⟩⟩, h2, h3, h4⟩

/-! ### rules over ANY heap (no ledger) from facts about the written part K: the library's own take a ledger (News) for what they write -/
section
variable {prog : Program} {w : World} {A : Around} {E : Value → Shared → Prop} {s : Shared} {K : Frag}

/-- a def of the module, or a method (qual 'C.m'), entered: the frame is the next address; cells behind it -/
theorem call_fn {R : Result → Shared → Prop} {name qual : Str} {params : Arguments} {body : List Stmt} {scope : Scope} {dV kV doc pm cdv ct oc : Value} {an od : Option Addr} {osl : Array (Option Value)} {f : Addr} {args : Args} {binds : List (Str × Value)}
    (X : K.In s.heap) (hlim : s.heap.NoLimit) (ho : K.lookup f = some ⟨oc, od, .func (fnOf name qual params body scope dV kV doc pm an cdv ct), osl⟩) (hcd : codeIn K cdv qual = true) (hroom : A.depth < recursionLimit)
    (hbind : BindsTo s (fnOf name qual params body scope dV kV doc pm an cdv ct) args binds)
    (hkind : (binds.all fun y => scope.names.lookup y.1 == some .local || scope.names.lookup y.1 == some .cell) = true)
    (h : ∀ s₁, InCallC s s.heap.objs.size (bindL (envOfC qual scope s.heap.objs.size f cdv).kindOf binds fun _ => none) (cellsFrom (s.heap.objs.size + 1) scope.names [])
        (bindC (envOfC qual scope s.heap.objs.size f cdv).kindOf binds fun _ => none) s₁ →
      wpAny (model prog w) (A.deeper (envOfC qual scope s.heap.objs.size f cdv)) (execs body (envOfC qual scope s.heap.objs.size f cdv))
        (fun fl s' => R (.ok (.ret (match fl with | .ret v => v | _ => .none))) s')
        (fun e s' => wpAny (model prog w) (A.deeper (envOfC qual scope s.heap.objs.size f cdv)) (leaving (envOfC qual scope s.heap.objs.size f cdv) e) (fun _ s'' => R (.error e) s'') (fun e' s'' => R (.error e') s'') s') s₁)
    (hco : scope.isCoroutine = false) (hgen : scope.isGenerator = false) (hk : scope.kind = .function) : codeAny (model prog w) A (.call (.ref f) args) R s := by
  refine codeAny_call_function hroom (X _ _ ho) rfl hco hgen rfl (codeRec_of X hcd) (hbind _ _ _ _ ?_)
  refine wpAny_newFunctionEnv_cells hk (kindsX hkind _) fun env he s₁ x => ?_
  subst he
  exact ⟨hlim.keeps x.toInCall.keep, codeAny_func (h s₁ x)⟩

/-- C(..): dict at size, instance at size + 1, then __init__ -/
theorem make_obj {R : Result → Shared → Prop} {C fI : Addr} {rest : List Value} {kw : List (Str × Value)}
    (X : K.In s.heap) (hm : makesIn K C = true) (hi : findIn K (.ref C) "__init__" = some (some (.ref fI))) (hf : isFn K (.ref fI) = true)
    (h : codeAny (model prog w) (A.under (.builtin "type.__call__" ⟨.ref C :: rest, kw⟩)) (.call (.ref fI) ⟨.ref (s.heap.objs.size + 1) :: rest, kw⟩) (InitBack (s.heap.objs.size + 1) R)
      { s with heap := (s.heap.push emptyDict).push (instObj C s.heap.objs.size) }) : codeAny (model prog w) A (.call (.ref C) ⟨rest, kw⟩) R s := by
  obtain ⟨hh, g, d, t, os⟩ := s
  exact make_core (makes_of X hm) (looks_findIn X hi) (fun self => bind_fn X self (beq_iff_eq.mp hf)) (.inl rfl) h

/-- x.name where the instance's dict holds the name and the class does not -/
theorem get_field {x C : Addr} {ox : Obj} {es : List DictEntry} {n : Nat} {name : Str} {expr : Bool} {v : Value} {Q : Value → Shared → Prop}
    (X : K.In s.heap) (I : PySem.W.InstAt s.heap x ox C (some (dictOf es n))) (hg : plainGet K C name = true) (hh : hasDictIn K C = true) (ha : findIn K (.ref C) name = some none)
    (hl : getL name es = some (some v)) (hv : handedIn v = true) (h : Q v { s with toks := s.toks + 1 }) : wpAny (model prog w) A (getAttr (.ref x) name expr) Q E s :=
  get_value X I (plainGet_of hg).1 (findObj_own hh ha rfl hl) hv h

/-- x.m(..): the method found in the class -/
theorem get_method {x C f : Addr} {ox : Obj} {es : List DictEntry} {n : Nat} {name : Str} {pl : Sem Bool} {Q : Value × List Value → Shared → Prop}
    (X : K.In s.heap) (I : PySem.W.InstAt s.heap x ox C (some (dictOf es n))) (hg : plainGet K C name = true) (hf : findIn K (.ref C) name = some (some (.ref f))) (ht : isFn K (.ref f) = true)
    (hl : getL name es = some none) (h : Q (.ref f, [.ref x]) s) : wpAny (model prog w) A (getMethod (.ref x) name pl) Q E s :=
  method_fn X I (plainGet_of hg).1 (plainGet_of hg).2 hf (beq_iff_eq.mp ht) (by show (lookIn name (dictOf es n)).map _ = _; rw [lookIn_dict, hl]; rfl) h

/-! the whole heap as the ledger: makes every rule that writes through a ledger a rule over any heap -/
def noObjs (h : Heap) : Heap := { h with objs := #[] }
theorem noObjs_get (h : Heap) (b : Addr) : (noObjs h).get? b = none := by
  cases e : (noObjs h).get? b with
  | none => rfl
  | some o => exact absurd (Heap.lt_size e) (Nat.not_lt_zero _)
def ledger (h : Heap) (L d : Addr) : List (Addr × Obj) := (List.range h.objs.size).filterMap fun a => if a = L ∨ a = d then none else (h.get? a).map fun o => (a, o)
theorem mem_ledger {h : Heap} {L d a : Addr} {o : Obj} : (a, o) ∈ ledger h L d ↔ a ≠ L ∧ a ≠ d ∧ h.get? a = some o := by
  unfold ledger
  rw [List.mem_filterMap]
  constructor
  · rintro ⟨b, _, e⟩
    split at e
    · cases e
    · rename_i hb
      obtain ⟨o', ho, e'⟩ := Option.map_eq_some_iff.mp e
      cases e'
      exact ⟨fun q => hb (.inl q), fun q => hb (.inr q), ho⟩
  · rintro ⟨n1, n2, ho⟩
    refine ⟨a, List.mem_range.mpr (Heap.lt_size ho), ?_⟩
    rw [if_neg (show ¬ (a = L ∨ a = d) from fun q => q.elim n1 n2), ho] <;> rfl
theorem news_ledger {h : Heap} {L d : Addr} {od : Obj} (hne : d ≠ L) (ho : h.get? d = some od) : News (noObjs h) L h ([] ++ (d, od) :: ledger h L d) := by
  rintro ⟨a, o⟩ hp
  rcases List.mem_cons.mp hp with e | hp
  · cases e
    exact ⟨ho, hne, noObjs_get _ _⟩
  · obtain ⟨n1, n2, e⟩ := mem_ledger.mp hp
    exact ⟨e, n1, noObjs_get _ _⟩
theorem fr_all {h : Heap} {L : Addr} {m : Str → Option Value} (n : h.Ns L m) : Fr (noObjs h) L h m :=
  ⟨n, fun b o e => (by rw [noObjs_get] at e; cases e), Nat.zero_le _⟩
/-- Upd of the head entry (for append_K, setItem_K ..) -/
theorem upd_ledger {h : Heap} {L d : Addr} {o o' : Obj} : Upd d o o' ((d, o) :: ledger h L d) ((d, o') :: ledger h L d) :=
  .head fun ⟨_, _⟩ hp => (mem_ledger.mp hp).2.1

/-- x.name = v over any heap: L is any namespace of the heap (the frame's, say): its map stays, its object is not told; all else but the dict stays -/
theorem set_field {x C dx L : Addr} {ox : Obj} {m : Str → Option Value} {es es' : List DictEntry} {n n' : Nat} {name : Str} {v : Value} {Q : Unit → Shared → Prop}
    (X : K.In s.heap) (I : PySem.W.InstAt s.heap x ox C (some (dictOf es n))) (hd : ox.dict = some dx) (hL : s.heap.Ns L m) (hne : dx ≠ L)
    (hs : findIn K (.ref C) "__setattr__" = some (some (.builtin "object.__setattr__"))) (hp : plainOver K C = true) (ht : takerIn K C name = some none) (hh : hasDictIn K C = true) (hl : (getL name es).isSome = true)
    (e : (putL name (PyData.keyHash w.params name) (.str name (s.toks + 1)) v es, putN name es n) = (es', n')) (hz : es'.length ≤ 1000)
    (h : ∀ h' : Heap, h'.Ns L m → h'.get? dx = some (dictOf es' n') → (∀ b o, b ≠ dx → b ≠ L → s.heap.get? b = some o → h'.get? b = some o) → Q () { s with heap := h', toks := s.toks + 2 }) :
    wpAny (model prog w) A (setAttr (.ref x) name v) Q E s := by
  obtain ⟨e1, e2⟩ := Prod.mk.inj e
  have hdx : s.heap.get? dx = some (dictOf es n) := by
    have := I.dict
    rw [hd] at this
    exact this
  refine set_plain X I hs (osa_dict (s := { s with toks := s.toks + 1 }) (h₀ := noObjs s.heap) (L := L) (m := m) (od := dictOf es n) (od' := dictOf es' n') (es := es') (n := n') (pre := []) (post := ledger s.heap L dx)
    (fr_all hL) (news_ledger hne hdx) X I hd hp ht hh hl (fun _ q => nomatch q) (fun ⟨_, _⟩ q => (mem_ledger.mp q).2.1) (by rw [putName_dict, e1, e2]) rfl hz fun h' F' N' => ?_)
  exact h h' F'.ns (N'.get (List.Mem.head _)) fun b o n1 n2 ho => N'.get (List.Mem.tail _ (mem_ledger.mpr ⟨n2, n1, ho⟩))
end
end Att

namespace L2
open PySem PySem.Spec PyProof.Rows

theorem vals_ints : ∀ {vs : List Value} {ns : List Int}, IntsAre vs ns → Vals (ns.map V.int) vs
  | _, _, .nil => .nil
  | _, _, .cons n t h => .cons ⟨t, rfl⟩ (vals_ints h)

/-- nothing is tracked but the script, known to the object (or it is an object of the module) -/
def Only (H : Hp) : Prop := ∀ b, H b = none ∨ ∃ o xs, H b = some (.frz o (.lst xs))

/-- THE HEAD: the law's promise, at the heap behind the top. F, the promise of the law's def, may use that base is part of the heap (so K.In base, base.Ns mainGlobals mg stand in Mod) -/
theorem law_call {P : Program} {w : World} {K : PySem.W.Frag} {mg mb : Str → Option Value} {CX : CXT} {k : Nat} {fa a : Addr} {fd : FuncData} {x : Str} {sp : Sp} {s₁ : Shared} {vs : List Value} {ns : List Int}
    (KX : K.In s₁.heap) (hns : s₁.heap.Ns mainGlobals mg) (hb : s₁.heap.Ns builtinsNs mb) (hbb : ∀ x : Str, x ≠ "__name__" → mb x = bootBuiltins x) (hlim : s₁.heap.NoLimit) (hg : s₁.gens = #[])
    (ha : s₁.heap.get? a = some { cls := .type "list", data := .seq vs.toArray }) (hi : IntsAre vs ns) (hl : ns.length ≤ sizeLine) (hr : Room k callerA)
    (F : ∀ base : Heap, K.In base → base.Ns mainGlobals mg → FnOk P w K mg base CX k fa fd [x] sp) (hbind : ∀ (s : Shared) (u : Value), BindsTo s fd ⟨[u], []⟩ [(x, u)])
    (hsp : ∀ H : Hp, Only H → SqL K H a (ns.map V.int) → sp [.ref a] H (fun v _ => v = .bl true) fun _ _ _ => False)
    (hCX : ∀ H e s', CX [] H s₁ (fun _ _ _ => False) e s' → False) :
    codeAny (model P w) callerA (.call (.ref fa) ⟨[.ref a], []⟩) (fun r s' => r = .ok (.ret (.bool true)) ∧ OldK s₁.heap s'.heap ∧ s'.os = s₁.os ∧ AllBare s'.gens) s₁ := by
  have rv := vals_ints hi
  have lenV := hi.length
  -- from an abstract heap in which nothing but the script may be tracked
  have core : ∀ H : Hp, Only H → SqL K H a (ns.map V.int) → HOk P w H s₁.heap → (∀ b, H b ≠ none → b = a) → (H a ≠ none → K.lookup a = none) →
      codeAny (model P w) callerA (.call (.ref fa) ⟨[.ref a], []⟩) (fun r s' => r = .ok (.ret (.bool true)) ∧ OldK s₁.heap s'.heap ∧ s'.os = s₁.os ∧ AllBare s'.gens) s₁ := by
    intro H hO hS hok hA hK
    have base_of : ∀ {b : Addr} {o : Obj}, s₁.heap.get? b = some o → H b = none → (hidT s₁.heap H).get? b = some o := fun e n => hidT_get e n
    have noA : ∀ {b : Addr} {o : Obj} {es : Array DictEntry} {ep : Nat}, s₁.heap.get? b = some o → o.data = .dict es ep → H b = none := fun {b o es ep} e d => by
      cases q : H b with
      | none => rfl
      | some u =>
        have e' : b = a := hA b (by rw [q]; simp)
        subst e'
        rw [ha] at e; cases e
        have d' : Data.seq vs.toArray _ = Data.dict es ep := d
        cases d'
    have nsK : ∀ {b : Addr} {m : Str → Option Value}, s₁.heap.Ns b m → (hidT s₁.heap H).Ns b m := fun {b m} ⟨o, es, ep, e, d, r⟩ => ⟨o, es, ep, base_of e (noA e d), d, r⟩
    have hKb : K.In (hidT s₁.heap H) := fun b o e => base_of (KX b o e) (by
      cases q : H b with
      | none => rfl
      | some u =>
        have e' : b = a := hA b (by rw [q]; simp)
        subst e'
        rw [hK (by rw [q]; simp)] at e; cases e)
    have hM : Mod K mg (hidT s₁.heap H) := ⟨hKb, nsK hns, ⟨mb, nsK hb, hbb⟩, let ⟨mc, h1, h2⟩ := hlim; ⟨mc, nsK h1, h2⟩⟩
    have e0 : Env0 P w K mg (hidT s₁.heap H) callerA [] s₁ H := ⟨rfl, hM, fun b o e => of_hidT e, Nat.le_of_eq (hidT_size _ _), trivial, fun b hb => absurd (show b ∈ ([] : List Addr) from hb) (by simp), hok, .of_eq hg⟩
    refine codeAny_mono ((F _ hKb (nsK hns)).run callerA [] s₁ H ⟨[.ref a], []⟩ [.ref a] [.ref a] _ _ hr e0 (hbind s₁ (.ref a)) (.cons rfl .nil) (hsp H hO hS)) fun r s' h => ?_
    cases r with
    | error e => exact (hCX H e s' h).elim
    | ok fl =>
      cases fl with
      | next => exact False.elim h
      | brk => exact False.elim h
      | cont => exact False.elim h
      | ret u =>
        obtain ⟨v, H', os, bare, un, hok', r', q⟩ := h
        have q' : v = .bl true := q
        subst q'
        obtain rfl : u = Value.bool true := r'
        refine ⟨rfl, OldK.of_keep fun b o e => ?_, os, bare⟩
        cases q : H b with
        | none => exact un.keep b o e q (by intro z; exact absurd (show b ∈ ([] : List Addr) from z) (by simp)) (by simp)
        | some u =>
          rcases hO b with z | ⟨ob, xs, z⟩
          · rw [q] at z; cases z
          · have z2 := un.frzs b ob _ z
            obtain ⟨e1, _⟩ := hok b _ z
            obtain ⟨e2, _⟩ := hok' b _ z2
            rw [e] at e1; cases e1
            exact e2
  cases hk : K.lookup a with
  | some o =>
    -- the script is one of the module's own objects
    have e := KX a o hk
    rw [ha] at e
    cases e
    refine core (fun _ => none) (fun _ => .inl rfl) (.inr ⟨_, vs.toArray, _, hk, rfl, rfl, rfl, by rw [List.size_toArray, lenV]; exact hl, by simpa using rv⟩) (fun b u z => by have z' : (none : Option HO) = some u := z; cases z') (fun b z => absurd rfl z) fun z => absurd rfl z
  | none =>
    refine core (fun b => if b = a then some (.frz { cls := .type "list", data := .seq vs.toArray } (.lst (ns.map V.int))) else none) (fun b => ?_) (.inl (.inr ⟨{ cls := .type "list", data := .seq vs.toArray }, if_pos rfl⟩)) (fun b u z => ?_) (fun b z => ?_) fun _ => hk
    · by_cases hb : b = a
      · exact .inr ⟨_, _, if_pos hb⟩
      · exact .inl (if_neg hb)
    · by_cases hb : b = a
      · have z' := (if_pos hb).symm.trans z
        cases z'
        subst hb
        exact ⟨ha, by rw [List.length_map]; exact hl, vs, _, rv, ha⟩
      · have z' := (if_neg hb).symm.trans z
        cases z'
    · by_cases hb : b = a
      · exact hb
      · exact absurd (if_neg hb) z
end L2

namespace L2
open PySem PySem.Spec PyProof.Rows

abbrev KOf {K : PySem.W.Frag} {h : Heap} (_ : K.In h) : PySem.W.Frag := K

/-- the goal that k_head leaves (case hc), from the law's promise. F gives the function object fd (K's own) once, then the promise over every base -/
theorem walk_of {l : PySem.W.OpenLaw} {n k : Nat} {q : Program} {loose : List Str} {XP : (Str → Option Value) → Heap → Prop} {YP : World → Heap → Prop} {d : DefRec} {K : Params → PySem.W.Frag} {CX : World → CXT} {sp : World → Sp} {x : Str}
    (hn : l.most = some n) (hn2 : n ≤ sizeLine) (hdf : d.params.defaults = []) (hr : Room k callerA)
    (hY : ∀ (w : World) (h : Heap), YP w h → (K w.params).In h)
    (F : ∀ (w : World) (mg : Str → Option Value) (fa : Addr) (h : Heap), (K w.params).In h → h.Ns mainGlobals mg → mg d.name = some (.ref fa) →
      ∃ fd : FuncData, (∀ (s : Shared) (u : Value), BindsTo s fd ⟨[u], []⟩ [(x, u)]) ∧
        ∀ base : Heap, (K w.params).In base → base.Ns mainGlobals mg → FnOk l.prog w (K w.params) mg base (CX w) k fa fd [x] (sp w))
    (hsp : ∀ (w : World) (H : Hp) (a : Addr) (ns : List Int), ns.length ≤ n → Only H → SqL (K w.params) H a (ns.map V.int) → sp w [.ref a] H (fun v _ => v = .bl true) fun _ _ _ => False)
    (hCX : ∀ (w : World) (H : Hp) (s : Shared) (e : Value) (s' : Shared), CX w [] H s (fun _ _ _ => False) e s' → False) :
    PySem.W.WalkO q loose XP YP l.row.toRowW d [] (fun f vs => PySem.call f vs) := by
  refine Att.attach_call hn hdf fun w s₀ s₁ mg mb fa o pm cd doc a vs ns G Y ho hd hcd hmg hobj hints hlen hg => ?_
  have KX := hY w _ Y
  obtain ⟨fd, hb, hF⟩ := F w mg fa _ KX G.T.g hmg
  exact law_call KX G.T.g G.T.b G.T.builtins G.T.nolimit hg hobj hints (Nat.le_trans hlen hn2) hr hF hb (fun H hO hS => hsp w H a ns hlen hO hS) fun H e s' => hCX w H s₁ e s'
/-- the same where the promise hangs on the written part alone: (sp := My.sp_law), no hole under a binder -/
theorem walk_ofK {l : PySem.W.OpenLaw} {n k : Nat} {q : Program} {loose : List Str} {XP : (Str → Option Value) → Heap → Prop} {YP : World → Heap → Prop} {d : DefRec} {K : Params → PySem.W.Frag} {CX : CXT} {sp : PySem.W.Frag → Sp} {x : Str}
    (hn : l.most = some n) (hn2 : n ≤ sizeLine) (hdf : d.params.defaults = []) (hr : Room k callerA)
    (hY : ∀ (w : World) (h : Heap), YP w h → (K w.params).In h)
    (F : ∀ (w : World) (mg : Str → Option Value) (fa : Addr) (h : Heap), (K w.params).In h → h.Ns mainGlobals mg → mg d.name = some (.ref fa) →
      ∃ fd : FuncData, (∀ (s : Shared) (u : Value), BindsTo s fd ⟨[u], []⟩ [(x, u)]) ∧
        ∀ base : Heap, (K w.params).In base → base.Ns mainGlobals mg → FnOk l.prog w (K w.params) mg base CX k fa fd [x] (sp (K w.params)))
    (hsp : ∀ (K : PySem.W.Frag) (H : Hp) (a : Addr) (ns : List Int), ns.length ≤ n → Only H → SqL K H a (ns.map V.int) → sp K [.ref a] H (fun v _ => v = .bl true) fun _ _ _ => False)
    (hCX : ∀ (H : Hp) (s : Shared) (e : Value) (s' : Shared), CX [] H s (fun _ _ _ => False) e s' → False) :
    PySem.W.WalkO q loose XP YP l.row.toRowW d [] (fun f vs => PySem.call f vs) :=
  walk_of (K := K) (CX := fun _ => CX) (sp := fun w => sp (K w.params)) hn hn2 hdf hr hY F (fun w H a ns h1 h2 h3 => hsp (K w.params) H a ns h1 h2 h3) fun _ H s e s' => hCX H s e s'
end L2

/- THE LAST THEOREM (shape; LID, My.* are yours):
   My.Adr: a structure of the addresses that your layer names (classes, functions); My.Txt K t: a structure (Prop) of the equations over K;
   My.txt_mk : {K} {implicit addresses ..} (e1 : nsIn K mainGlobals "law" = some (some (.ref f))) (e2 : K.lookup f = some ⟨oc, od, .func (fnOf "law" "law" params body scope dV kV doc pm an cdv ct), sl⟩) (e3 : codeIn K cdv "law" = true) .. : ∃ t, My.Txt K t

set_option maxRecDepth 100000 in
set_option maxHeartbeats 0 in
theorem PySem.Challenge.cw_LID_holds : PySem.Challenge.rw_LID.Holds := by
  w_on; o_law; k_head; (case hw => w_witness2)
  k_fill
  refine L2.walk_of (l := PySem.Challenge.rw_LID) (n := 63) (k := 40) (x := "script") (CX := fun w => ..) (sp := fun _ => My.sp_law) rfl (by decide) rfl ⟨rfl, by decide, by decide⟩ (fun w h Y => PySem.W.kIn_of Y) ?F ?S ?C
  case F =>
    intro w mg fa h KX G hmg
    have T : ∃ t, My.Txt (L2.KOf KX) t := by
      dsimp only [L2.KOf]                          -- K must stand as «<heap const> w.params» for k_is
      refine' My.txt_mk ?e1 ?e2 ?e3 ..
      (case e1 => PySem.W.k_is)                    -- in the order: a name -> its address -> its object -> its parts
      (case e2 => PySem.W.k_is)
      ..
    obtain ⟨t, T⟩ := T
    have e0 := hmg.symm.trans (PySem.W.mg_of KX G T.law)
    cases e0                                       -- fa is the law's own address
    exact ⟨_, fun s u => .of_eq rfl, fun base kb nb => My.law_fn T kb nb⟩     -- if «.of_eq rfl» comes too early: refine' ⟨_, ?b, fun base kb nb => My.law_fn T kb nb⟩; exact fun s u => .of_eq rfl
  case S => exact fun w H a ns hl hO hS => ..
  case C => exact ..
(the tactic k_is has no namespace: write k_is) -/

/-! SHORT WORDS over the layer: a def of the text, its body, what a loop and a test want. -/
namespace L2
open PySem PySem.Spec PyProof.Rows

/-! ### the text by places -/
/-- the j-th statement of a class's body -/
def inClass (s : Stmt) (j : Nat) : Stmt := match s with
  | .ClassDef _ _ _ body _ _ _ _ _ _ _ => body.getD j (.Pass ⟨0, 0, 0, 0⟩)
  | _ => .Pass ⟨0, 0, 0, 0⟩
def defArgs (s : Stmt) : Arguments := match s with
  | .FunctionDef _ a _ _ _ _ _ _ _ _ => a
  | _ => { posonlyargs := [], args := [], vararg := none, kwonlyargs := [], kw_defaults := [], kwarg := none, defaults := [] }
def defBody (s : Stmt) : List Stmt := match s with
  | .FunctionDef _ _ b _ _ _ _ _ _ _ => b
  | _ => []
def defScope (s : Stmt) : Scope := match s with
  | .FunctionDef _ _ _ _ _ _ sc _ _ _ => sc
  | _ => { kind := .function, names := [], isGenerator := false, isCoroutine := false }

/-! ### no exception leaves a def -/
abbrev CX0 : CXT := fun _ _ _ _ _ _ => False
abbrev E0 : XK := fun _ _ _ => False
theorem pass0 {X : Cx} : Passes CX0 X E0 := fun _ _ _ _ _ _ _ h => h.elim

/-! ### a def (or method) of the text as it stands behind the top -/
structure Fun (K : PySem.W.Frag) (x qual : Str) (st : Stmt) (f : Addr) (fd : FuncData) : Prop where
  ex : ∃ (oc : Value) (od : Option Addr) (kV doc pm : Value) (an : Option Addr) (cdv ct : Value) (osl : Array (Option Value)),
    fd = PySem.W.fnOf x qual (defArgs st) (defBody st) (defScope st) .none kV doc pm an cdv ct ∧ K.lookup f = some ⟨oc, od, .func fd, osl⟩ ∧ PySem.W.codeIn K cdv qual = true
  kp : PySem.W.keepIn K (.ref f) = true
section
variable {P : Program} {w : World} {K : PySem.W.Frag} {mg : Str → Option Value} {base : Heap}
/-- THE RULE for a def: its body as a term of rules, and the reading of that term -/
theorem Fun.ok {x qual : Str} {st : Stmt} {f : Addr} {fd : FuncData} {N ps : List Str} {k : Nat} {sp : Sp} (F : Fun K x qual st f fd) (S : FnScope N ps (defScope st)) (len : ∀ vs H Q E, sp vs H Q E → vs.length = ps.length)
    (hbody : ∀ (cdv : Value) (A : Around) (outer : List Env) (s : Shared) (H : Hp) (vs : List V) (Q : VK) (E : XK), Room k (A.deeper (envOfC qual (defScope st) s.heap.objs.size f cdv)) → sp vs H Q E →
      ∃ t, PSs (cxOf CX0 P w K mg base N qual (defScope st) f cdv A outer s H E).nox (defBody st) t ∧ t { nx := fun _ H' => Q .non H', rt := Q } (start N vs) H) : FnOk P w K mg base CX0 (k + 1) f fd ps sp := by
  obtain ⟨oc, od, kV, doc, pm, an, cdv, ct, osl, rfl, lk, hcd⟩ := F.ex
  refine fn_of lk hcd S len fun A outer s H vs Q E hr hsp => ?_
  obtain ⟨t, h, q⟩ := hbody cdv A outer s H vs Q E hr hsp
  exact ⟨t, h.nox, q⟩
/-- how its arguments bind (no defaults): h is «fun _ _ _ _ _ _ us hl => match us, hl with | [_, _], _ => rfl», one _ a parameter -/
theorem Fun.binds {x qual : Str} {st : Stmt} {f : Addr} {fd : FuncData} {ps : List Str} (F : Fun K x qual st f fd)
    (h : ∀ (kV doc pm : Value) (an : Option Addr) (cdv ct : Value) (us : List Value), us.length = ps.length → bindArgs (PySem.W.fnOf x qual (defArgs st) (defBody st) (defScope st) .none kV doc pm an cdv ct) ⟨us, []⟩ = pure (ps.zip us)) : Binds K fd ps [] := by
  obtain ⟨oc, od, kV, doc, pm, an, cdv, ct, osl, rfl, lk, hcd⟩ := F.ex
  exact .all (h kV doc pm an cdv ct)
theorem fun_mk {x qual : Str} {st : Stmt} {f : Addr} {oc : Value} {od an : Option Addr} {osl : Array (Option Value)} {kV doc pm cdv ct : Value} (l : K.lookup f = some ⟨oc, od, .func (PySem.W.fnOf x qual (defArgs st) (defBody st) (defScope st) .none kV doc pm an cdv ct), osl⟩)
    (c : PySem.W.codeIn K cdv qual = true) (k : PySem.W.keepIn K (.ref f) = true) : Fun K x qual st f (PySem.W.fnOf x qual (defArgs st) (defBody st) (defScope st) .none kV doc pm an cdv ct) := ⟨⟨oc, od, kV, doc, pm, an, cdv, ct, osl, rfl, l, c⟩, k⟩
end
theorem hu_of {A : Around} {k : Nat} (hr : Room k A) : A.units + 1 < cLine := Nat.lt_of_le_of_lt (Nat.add_le_add_left (by decide : 1 ≤ 64) _) hr.units
theorem small1000 {n : Nat} (h : n ≤ 1000) : n < sizeLine := Nat.lt_of_le_of_lt h (by decide)

/-! ### expressions in short: the name that stands in the i-th slot -/
section
variable {X : Cx}
theorem pv (i : Nat) {x : Str} {pos : Pos} (hN : X.N[i]? = some x := by rfl) (hv : Vis X.env.scope x := by first | exact Or.inl rfl | exact Or.inr (Or.inl rfl) | exact Or.inr (Or.inr rfl)) (hd : (x == ("__debug__" : Str)) = false := by decide)
    (hcd : (x == ("__classdict__" : Str)) = false := by decide) : PE X (.Name x pos) (tVar i) := pe_var hN hv hd hcd
end

/-! ### tests -/
theorem iteF {A B : Prop} (h : B) : if false = true then A else B := by
  rw [if_neg Bool.false_ne_true]
  exact h
theorem iteT {A B : Prop} (h : A) : if true = true then A else B := by
  rw [if_pos rfl]
  exact h
theorem ite2 {c A B : Prop} [Decidable c] (h1 : c → A) (h2 : ¬ c → B) : if c then A else B := by
  by_cases h : c
  · rw [if_pos h]
    exact h1 h
  · rw [if_neg h]
    exact h2 h
theorem iteNS {c A B : Prop} [Decidable c] (hc : c) (h : B) : if (!decide c) = true then A else B := by
  rw [decide_eq_true hc]
  exact iteF h

/-! ### heaps -/
/-- all that was tracked is as it was -/
def Same (H H' : Hp) : Prop := ∀ b o, H b = some o → H' b = some o
theorem Same.refl (H : Hp) : Same H H := fun _ _ h => h
theorem Same.trans {H H1 H2 : Hp} (a : Same H H1) (b : Same H1 H2) : Same H H2 := fun c o h => b c o (a c o h)
theorem Same.free {H H' : Hp} (e : Same H H') {l : Addr} (h : H' l = Option.none) : H l = Option.none := by
  cases q : H l with
  | none => rfl
  | some o =>
    rw [e l o q] at h
    cases h
theorem Same.seq {K : PySem.W.Frag} {H H' : Hp} {a : Addr} {xs : List V} (e : Same H H') (h : SqL K H a xs) : SqL K H' a xs := by
  rcases h with (h | ⟨o, h⟩) | h
  · exact .inl (.inl (e _ _ h))
  · exact .inl (.inr ⟨o, e _ _ h⟩)
  · exact .inr h

end L2

namespace SX
open PySem
/-! tables of sets: the places rise -/
def Rise (ps : Array Nat) : Prop := ps.toList.Pairwise (· < ·)

theorem rise_lt {ps : Array Nat} (r : Rise ps) {i j a b : Nat} (hi : ps.toList[i]? = some a) (hj : ps.toList[j]? = some b) (h : i < j) : a < b := by
  obtain ⟨h1, e1⟩ := List.getElem?_eq_some_iff.mp hi
  obtain ⟨h2, e2⟩ := List.getElem?_eq_some_iff.mp hj
  have := List.pairwise_iff_getElem.mp r i j h1 h2 h
  rw [e1, e2] at this
  exact this

theorem go_spec (ps : Array Nat) (j : Nat) (r : Rise ps) : ∀ (fuel lo hi : Nat), lo ≤ hi → hi ≤ ps.size → hi - lo ≤ fuel →
    (∀ i a, i < lo → ps.toList[i]? = some a → a < j) → (∀ i a, hi ≤ i → ps.toList[i]? = some a → j ≤ a) →
    SetTable.below.go ps j fuel lo hi ≤ ps.size ∧ (∀ i a, i < SetTable.below.go ps j fuel lo hi → ps.toList[i]? = some a → a < j) ∧
      (∀ i a, SetTable.below.go ps j fuel lo hi ≤ i → ps.toList[i]? = some a → j ≤ a) := by
  intro fuel
  induction fuel with
  | zero =>
    intro lo hi h1 h2 h3 hl hh
    have e : lo = hi := by omega
    subst e
    exact ⟨h2, hl, hh⟩
  | succ fuel ih =>
    intro lo hi h1 h2 h3 hl hh
    unfold SetTable.below.go
    by_cases hlt : lo < hi
    · rw [if_pos hlt]
      dsimp only
      have hm : (lo + hi) / 2 < hi := by omega
      have hm2 : lo ≤ (lo + hi) / 2 := by omega
      have hms : (lo + hi) / 2 < ps.size := by omega
      have hget : ps.toList[(lo + hi) / 2]? = some (ps.getD ((lo + hi) / 2) j) := by
        rw [Array.getElem?_toList, Array.getD_eq_getD_getElem?]
        rw [Array.getElem?_eq_getElem hms]
        rfl
      by_cases hc : ps.getD ((lo + hi) / 2) j < j
      · rw [if_pos hc]
        refine ih _ _ (by omega) h2 (by omega) (fun i a hi' e => ?_) hh
        by_cases he : i = (lo + hi) / 2
        · subst he
          rw [hget] at e
          cases e
          exact hc
        · have := rise_lt r e hget (by omega)
          omega
      · rw [if_neg hc]
        refine ih _ _ (by omega) (by omega) (by omega) hl (fun i a hi' e => ?_)
        by_cases he : i = (lo + hi) / 2
        · subst he
          rw [hget] at e
          cases e
          omega
        · have := rise_lt r hget e (by omega)
          omega
    · rw [if_neg hlt]
      have e : lo = hi := by omega
      subst e
      exact ⟨h2, hl, hh⟩

theorem below_spec {ps : Array Nat} (r : Rise ps) (j : Nat) : SetTable.below ps j ≤ ps.size ∧ (∀ i a, i < SetTable.below ps j → ps.toList[i]? = some a → a < j) ∧
    (∀ i a, SetTable.below ps j ≤ i → ps.toList[i]? = some a → j ≤ a) := by
  refine go_spec ps j r ps.size 0 ps.size (Nat.zero_le _) (Nat.le_refl _) (by omega) (fun i a h => by omega) (fun i a h e => ?_)
  have := (List.getElem?_eq_some_iff.mp e).1
  rw [Array.length_toList] at this
  omega

theorem below_at {ps : Array Nat} (r : Rise ps) {i j : Nat} (h : ps.toList[i]? = some j) : SetTable.below ps j = i := by
  obtain ⟨h1, h2, h3⟩ := below_spec r j
  rcases Nat.lt_trichotomy (SetTable.below ps j) i with q | q | q
  · cases e : ps.toList[SetTable.below ps j]? with
    | none =>
      have := List.getElem?_eq_none_iff.mp e
      have := (List.getElem?_eq_some_iff.mp h).1
      omega
    | some a =>
      have := rise_lt r e h q
      have := h3 _ a (Nat.le_refl _) e
      omega
  · exact q
  · have := h2 i j q h
    omega
/-- the first place at or above j + 1, where j stands at i -/
theorem below_next {ps : Array Nat} (r : Rise ps) {i j : Nat} (h : ps.toList[i]? = some j) : SetTable.below ps (j + 1) = i + 1 := by
  obtain ⟨h1, h2, h3⟩ := below_spec r (j + 1)
  rcases Nat.lt_trichotomy (SetTable.below ps (j + 1)) (i + 1) with q | q | q
  · have := h3 i j (by omega) h
    omega
  · exact q
  · cases e : ps.toList[i + 1]? with
    | none =>
      have := List.getElem?_eq_none_iff.mp e
      rw [Array.length_toList] at this
      omega
    | some a =>
      have := rise_lt r h e (by omega)
      have := h2 (i + 1) a q e
      omega
theorem below_zero {ps : Array Nat} (r : Rise ps) : SetTable.below ps 0 = 0 := by
  obtain ⟨h1, h2, h3⟩ := below_spec r 0
  cases e : SetTable.below ps 0 with
  | zero => rfl
  | succ k =>
    cases e2 : ps.toList[0]? with
    | none =>
      have := List.getElem?_eq_none_iff.mp e2
      rw [Array.length_toList] at this
      omega
    | some a =>
      have := h2 0 a (by omega) e2
      omega

theorem toList_erase {α : Type} (xs : Array α) (p : Nat) : (SetTable.eraseAt xs p).toList = xs.toList.take p ++ xs.toList.drop (p + 1) := by
  unfold SetTable.eraseAt
  rw [Array.toList_append, Array.toList_extract, Array.toList_extract]
  simp [List.take_of_length_le]
theorem toList_ins {α : Type} (xs : Array α) (p : Nat) (x : α) : (SetTable.insertAt xs p x).toList = xs.toList.take p ++ x :: xs.toList.drop p := by
  unfold SetTable.insertAt
  rw [Array.toList_append, Array.toList_push, Array.toList_extract, Array.toList_extract]
  simp [List.take_of_length_le]

theorem rise_erase {ps : Array Nat} (r : Rise ps) (p : Nat) : Rise (SetTable.eraseAt ps p) := by
  unfold Rise
  rw [toList_erase]
  refine List.Pairwise.sublist ?_ r
  conv => rhs; rw [← List.take_append_drop p ps.toList]
  exact List.Sublist.append (List.Sublist.refl _) (List.drop_sublist_drop_left _ (Nat.le_succ p))
theorem rise_ins {ps : Array Nat} (r : Rise ps) {j : Nat} (hj : j ∉ ps.toList) : Rise (SetTable.insertAt ps (SetTable.below ps j) j) := by
  obtain ⟨h1, h2, h3⟩ := below_spec r j
  unfold Rise
  rw [toList_ins]
  have r' : (ps.toList.take (SetTable.below ps j) ++ ps.toList.drop (SetTable.below ps j)).Pairwise (· < ·) := by rw [List.take_append_drop]; exact r
  obtain ⟨a1, a2, a3⟩ := List.pairwise_append.mp r'
  have lo : ∀ a ∈ ps.toList.take (SetTable.below ps j), a < j := fun a ha => by
    obtain ⟨i, e⟩ := List.getElem?_of_mem ha
    rw [List.getElem?_take] at e
    split at e
    · exact h2 i a (by assumption) e
    · cases e
  have hi : ∀ a ∈ ps.toList.drop (SetTable.below ps j), j < a := fun a ha => by
    obtain ⟨i, e⟩ := List.getElem?_of_mem ha
    rw [List.getElem?_drop] at e
    have := h3 _ a (Nat.le_add_right _ i) e
    have : j ≠ a := fun q => hj (by rw [q]; exact List.mem_of_mem_drop ha)
    omega
  refine List.pairwise_append.mpr ⟨a1, List.pairwise_cons.mpr ⟨hi, a2⟩, fun a ha b hb => ?_⟩
  rcases List.mem_cons.mp hb with q | q
  · rw [q]; exact lo a ha
  · exact a3 a ha b q
theorem rise_range (n : Nat) : Rise (Array.range n) := by
  unfold Rise
  rw [Array.toList_range]
  exact List.pairwise_lt_range

/-- a slot that is empty or a dummy is no place -/
theorem not_place {t : SetTable} (r : Rise t.place) {j : Nat} (h : ∀ i, t.slot j ≠ .live i) : j ∉ t.place.toList := fun hm => by
  obtain ⟨i, e⟩ := List.getElem?_of_mem hm
  have hb := below_at r e
  refine h (SetTable.below t.place j) ?_
  unfold SetTable.slot
  dsimp only
  rw [if_pos]
  rw [hb, ← Array.getElem?_toList, e]
  simp

theorem probe_free {t : SetTable} {ha : Nat → Int} {h : Int} : ∀ (fuel : Nat) (p : SetTable.Probe), (∀ d, p.dummy = some d → ∀ i, t.slot d ≠ .live i) →
    ∀ j dm, SetTable.probe.go t ha h fuel p = some (.empty j dm) → ∀ i, t.slot (dm.getD j) ≠ .live i := by
  intro fuel
  induction fuel with
  | zero => intro p _ j dm e; cases e
  | succ fuel ih =>
    intro p hd j dm e
    unfold SetTable.probe.go at e
    cases q : t.slot p.j with
    | empty =>
      rw [q] at e
      dsimp only at e
      injection e with e
      injection e with e1 e2
      subst e1 e2
      cases q2 : p.dummy with
      | none => intro i z; rw [Option.getD_none, q] at z; cases z
      | some d => exact hd d q2
    | dummy =>
      rw [q] at e
      dsimp only at e
      refine ih _ (fun d hd' i z => ?_) j dm e
      have : d = p.j := by
        unfold SetTable.advance at hd'
        split at hd'
        · injection hd' with hd'; exact hd'.symm
        · injection hd' with hd'; exact hd'.symm
      rw [this, q] at z
      cases z
    | live k =>
      rw [q] at e
      dsimp only at e
      split at e
      · cases e
      · refine ih _ (fun d hd' => ?_) j dm e
        have : p.dummy = some d := by
          unfold SetTable.advance at hd'
          split at hd' <;> exact hd'
        exact hd d this
theorem freeSlot_ok {t : SetTable} {h : Int} {j : Nat} {b : Bool} (r : Rise t.place) (e : t.freeSlot h = some (j, b)) : j ∉ t.place.toList := by
  refine not_place r ?_
  unfold SetTable.freeSlot SetTable.probe at e
  split at e
  · rename_i j' dm e'
    injection e with e
    injection e with e1 e2
    subst e1
    exact probe_free _ _ (fun d q => by cases q) j' dm e'
  · cases e
theorem layNew_rise {t : SetTable} {es : Array (Int × Value)} {h : Int} {x : Value} (r : Rise t.place) : Rise (layNew t es h x).2.1.place ∧ (layNew t es h x).2.1.led = t.led := by
  unfold layNew
  split
  · rename_i j b e
    dsimp only
    unfold SetTable.orStandIn
    split
    · refine ⟨?_, rfl⟩
      show Rise (SetTable.insertAt t.place (SetTable.below t.place j) j)
      exact rise_ins r (freeSlot_ok r e)
    · exact ⟨rise_range _, rfl⟩
  · exact ⟨rise_range _, rfl⟩

theorem laid_rise {mask fg mv : Nat} {led pl : Bool} {hs : Array Int} {t : SetTable} {od : Array Nat} (e : SetTable.laid mask fg mv led pl hs = some (t, od)) :
    Rise t.place ∧ t.led = led ∧ t.plain = pl ∧ t.mask = mask ∧ t.dummies = #[] ∧ t.place.size = od.size := by
  unfold SetTable.laid at e
  cases q : SetTable.layClean mask hs with
  | none => rw [q] at e; cases e
  | some ow =>
    rw [q] at e
    injection e with e
    injection e with e1 e2
    subst e1 e2
    refine ⟨?_, rfl, rfl, rfl, rfl, by simp⟩
    unfold Rise
    dsimp only
    rw [List.map_filterMap]
    show List.Pairwise (· < ·) (List.filterMap _ _)
    rw [List.pairwise_filterMap]
    refine List.Pairwise.imp ?_ List.pairwise_lt_range
    intro a b hab x hx y hy
    have hx' : x = a := by
      revert hx
      cases (ow.getD a none) <;> simp
      intro z; exact z.symm
    have hy' : y = b := by
      revert hy
      cases (ow.getD b none) <;> simp
      intro z; exact z.symm
    subst hx' hy'
    exact hab
theorem relayAll_rise {t : SetTable} {es : Array (Int × Value)} {n : Nat} : Rise (relayAll t es n).2.1.place ∧ (relayAll t es n).2.1.led = t.led := by
  unfold relayAll
  split
  · rename_i t' od e
    dsimp only
    split
    · obtain ⟨a, b, _⟩ := laid_rise e
      exact ⟨a, b⟩
    · exact ⟨rise_range _, rfl⟩
  · exact ⟨rise_range _, rfl⟩
end SX

namespace SX
open PySem
/-! a clean table always has room -/
def st5 (m i : Nat) : Nat := (i * 5 + 1) % (m + 1)
def itn (m : Nat) : Nat → Nat → Nat
  | 0, i => i
  | n + 1, i => itn m n (st5 m i)
def orb (m : Nat) : Nat → Nat → List Nat
  | 0, _ => []
  | n + 1, i => i :: orb m n (st5 m i)
theorem itn_add (m a b i : Nat) : itn m (a + b) i = itn m b (itn m a i) := by
  induction a generalizing i with
  | zero => rw [Nat.zero_add]; rfl
  | succ a ih => rw [Nat.succ_add]; exact ih _
theorem orb_mem (m : Nat) : ∀ (n i k : Nat), k ∈ orb m n i → ∃ a, a < n ∧ itn m a i = k := by
  intro n
  induction n with
  | zero => intro i k h; cases h
  | succ n ih =>
    intro i k h
    rcases List.mem_cons.mp h with q | q
    · exact ⟨0, by omega, q.symm⟩
    · obtain ⟨a, ha, e⟩ := ih _ _ q
      exact ⟨a + 1, by omega, e⟩
def cyc (m : Nat) : Bool := itn m (m + 1) 0 == 0 && (List.range (m + 1)).all fun k => (orb m (m + 1) 0).contains k
theorem cyc_reach {m : Nat} (h : cyc m = true) : ∀ i k, i ≤ m → k ≤ m → ∃ n, n ≤ m ∧ itn m n i = k := by
  obtain ⟨h0, h1⟩ := Bool.and_eq_true_iff.mp h
  have h0 : itn m (m + 1) 0 = 0 := by simpa using h0
  have hit : ∀ k, k ≤ m → ∃ a, a < m + 1 ∧ itn m a 0 = k := fun k hk => by
    have := List.all_eq_true.mp h1 k (List.mem_range.mpr (by omega))
    exact orb_mem m _ _ _ (by simpa using this)
  intro i k hi hk
  obtain ⟨a, ha, ea⟩ := hit i hi
  obtain ⟨b, hb, eb⟩ := hit k hk
  by_cases hab : a ≤ b
  · refine ⟨b - a, by omega, ?_⟩
    rw [← ea, ← itn_add, show a + (b - a) = b by omega, eb]
  · refine ⟨m + 1 - a + b, by omega, ?_⟩
    rw [← ea, ← itn_add, show a + (m + 1 - a + b) = (m + 1) + b by omega, itn_add, h0, eb]

theorem runEnd_le {m i : Nat} (h : i ≤ m) : SetTable.runEnd m i ≤ m ∧ i ≤ SetTable.runEnd m i := by
  unfold SetTable.runEnd
  split <;> omega

/-- what free tells is free -/
theorem free_ok {m : Nat} {ow : Array (Option Nat)} : ∀ (fuel i p : Nat), i ≤ m → ∀ j, SetTable.layClean.free m ow fuel i p = some j → j ≤ m ∧ ow.getD j (some 0) = none := by
  intro fuel
  induction fuel with
  | zero => intro i p _ j e; cases e
  | succ fuel ih =>
    intro i p hi j e
    unfold SetTable.layClean.free at e
    split at e
    · rename_i k hk
      injection e with e
      subst e
      have h1 := List.find?_some hk
      have h2 := List.mem_range.mp (List.mem_of_find?_eq_some hk)
      have := runEnd_le hi
      refine ⟨by omega, ?_⟩
      simpa [Option.isNone_iff_eq_none] using h1
    · dsimp only at e
      refine ih _ _ ?_ j e
      show (SetTable.leap m i p).1 ≤ m
      unfold SetTable.leap
      have := Nat.mod_lt (i * 5 + 1 + p / 32) (Nat.succ_pos m)
      exact Nat.le_of_lt_succ this
theorem free_some0 {m : Nat} {ow : Array (Option Nat)} {k : Nat} (hk : ow.getD k (some 0) = none) : ∀ (n fuel i : Nat), i ≤ m → n < fuel → itn m n i = k → ∃ j, SetTable.layClean.free m ow fuel i 0 = some j := by
  intro n
  induction n with
  | zero =>
    intro fuel i hi hf e
    obtain ⟨fuel, rfl⟩ : ∃ f, fuel = f + 1 := ⟨fuel - 1, by omega⟩
    have e : i = k := e
    subst e
    unfold SetTable.layClean.free
    split
    · exact ⟨_, rfl⟩
    · rename_i q
      have := List.find?_eq_none.mp q 0 (List.mem_range.mpr (by have := (runEnd_le hi).2; omega))
      rw [Nat.add_zero, hk] at this
      exact absurd rfl this
  | succ n ih =>
    intro fuel i hi hf e
    obtain ⟨fuel, rfl⟩ : ∃ f, fuel = f + 1 := ⟨fuel - 1, by omega⟩
    unfold SetTable.layClean.free
    split
    · exact ⟨_, rfl⟩
    · dsimp only
      have e1 : SetTable.leap m i 0 = (st5 m i, 0) := by
        unfold SetTable.leap st5
        simp
      rw [e1]
      exact ih fuel (st5 m i) (Nat.le_of_lt_succ (Nat.mod_lt _ (Nat.succ_pos m))) (by omega) e
theorem free_some {m : Nat} {ow : Array (Option Nat)} (hc : cyc m = true) {k : Nat} (hkm : k ≤ m) (hk : ow.getD k (some 0) = none) : ∀ (c fuel i p : Nat), i ≤ m → p < 32 ^ c → c + m + 1 ≤ fuel → ∃ j, SetTable.layClean.free m ow fuel i p = some j := by
  intro c
  induction c with
  | zero =>
    intro fuel i p hi hp hf
    have : p = 0 := by rw [Nat.pow_zero] at hp; omega
    subst this
    obtain ⟨n, hn, e⟩ := cyc_reach hc i k hi hkm
    exact free_some0 hk n fuel i hi (by omega) e
  | succ c ih =>
    intro fuel i p hi hp hf
    obtain ⟨fuel, rfl⟩ : ∃ f, fuel = f + 1 := ⟨fuel - 1, by omega⟩
    unfold SetTable.layClean.free
    split
    · exact ⟨_, rfl⟩
    · dsimp only
      unfold SetTable.leap
      dsimp only
      refine ih fuel _ (p / 32) (Nat.le_of_lt_succ (Nat.mod_lt _ (Nat.succ_pos m))) ?_ (by omega)
      rw [Nat.pow_succ] at hp
      exact Nat.div_lt_of_lt_mul (by rw [Nat.mul_comm]; exact hp)

theorem set_perm (x : Nat) : ∀ (l : List (Option Nat)) (j : Nat), l[j]? = some none → ((l.set j (some x)).filterMap id).Perm (x :: l.filterMap id) := by
  intro l
  induction l with
  | nil => intro j h; simp at h
  | cons a l ih =>
    intro j h
    cases j with
    | zero =>
      have : a = none := by simpa using h
      subst this
      simp
    | succ j =>
      have h' : l[j]? = some none := by simpa using h
      cases a with
      | none => simpa using ih j h'
      | some y =>
        have := ih j h'
        simp only [List.set_cons_succ, List.filterMap_cons, id]
        exact (List.Perm.cons y this).trans (List.Perm.swap x y _)
theorem has_none : ∀ (l : List (Option Nat)), (l.filterMap id).length < l.length → ∃ j : Nat, l[j]? = some none := by
  intro l
  induction l with
  | nil => intro h; simp at h
  | cons a l ih =>
    intro h
    cases a with
    | none => exact ⟨0, rfl⟩
    | some y =>
      obtain ⟨j, e⟩ := ih (by simpa using h)
      exact ⟨j + 1, by simpa using e⟩
theorem bits_lt (h : Int) : SetTable.bits h < 32 ^ 13 := by
  unfold SetTable.bits
  have h1 : h % (2 ^ 64 : Int) < 2 ^ 64 := Int.emod_lt_of_pos _ (by decide)
  have h2 : 0 ≤ h % (2 ^ 64 : Int) := Int.emod_nonneg _ (by decide)
  have h3 : (h % (2 ^ 64 : Int)).toNat < 2 ^ 64 := by omega
  exact Nat.lt_of_lt_of_le h3 (by decide)

theorem lay_fold {m : Nat} (hc : cyc m = true) : ∀ (hs : List Int) (ow : Array (Option Nat)) (k : Nat), ow.size = m + 1 → (ow.toList.filterMap id).Perm (List.range k) → k + hs.length ≤ m →
    ∃ ow', (hs.foldl (init := some (ow, k)) fun acc h => do
      let (owner, k) ← acc
      let j ← SetTable.layClean.free m owner (SetTable.turns m) (SetTable.bits h % (m + 1)) (SetTable.bits h)
      pure (owner.setIfInBounds j (some k), k + 1)) = some (ow', k + hs.length) ∧ ow'.size = m + 1 ∧ (ow'.toList.filterMap id).Perm (List.range (k + hs.length)) := by
  intro hs
  induction hs with
  | nil => intro ow k h1 h2 h3; exact ⟨ow, rfl, h1, h2⟩
  | cons h hs ih =>
    intro ow k h1 h2 h3
    have hlen : (ow.toList.filterMap id).length < ow.toList.length := by
      rw [h2.length_eq, List.length_range, Array.length_toList, h1]
      omega
    obtain ⟨k0, e0⟩ := has_none _ hlen
    have hk0 : k0 < m + 1 := by
      have := (List.getElem?_eq_some_iff.mp e0).1
      rw [Array.length_toList, h1] at this
      exact this
    have hn0 : ow.getD k0 (some 0) = none := by
      rw [Array.getD_eq_getD_getElem?, ← Array.getElem?_toList, e0]
      rfl
    have hi : SetTable.bits h % (m + 1) ≤ m := Nat.le_of_lt_succ (Nat.mod_lt _ (Nat.succ_pos m))
    obtain ⟨j, ej⟩ := free_some hc (Nat.le_of_lt_succ hk0) hn0 13 (SetTable.turns m) (SetTable.bits h % (m + 1)) (SetTable.bits h) hi (bits_lt h) (by unfold SetTable.turns; omega)
    obtain ⟨hjm, hj⟩ := free_ok _ _ _ hi j ej
    have hjl : ow.toList[j]? = some none := by
      rw [Array.getD_eq_getD_getElem?] at hj
      rw [Array.getElem?_toList]
      cases q : ow[j]? with
      | none => rw [q] at hj; cases hj
      | some z => rw [q] at hj; have hj' : z = none := hj; rw [hj']
    obtain ⟨ow', e', s', p'⟩ := ih (ow.setIfInBounds j (some k)) (k + 1) (by rw [Array.size_setIfInBounds]; exact h1) (by
      rw [Array.toList_setIfInBounds]
      refine (set_perm k _ _ hjl).trans ((List.Perm.cons k h2).trans ?_)
      rw [List.range_succ]
      exact (List.perm_append_comm (l₁ := [k]) (l₂ := List.range k))) (by simp at h3; omega)
    refine ⟨ow', ?_, s', ?_⟩
    · rw [List.foldl_cons]
      have : (do
          let (owner, k) ← some (ow, k)
          let j ← SetTable.layClean.free m owner (SetTable.turns m) (SetTable.bits h % (m + 1)) (SetTable.bits h)
          pure (owner.setIfInBounds j (some k), k + 1)) = some (ow.setIfInBounds j (some k), k + 1) := by
        show (SetTable.layClean.free m ow (SetTable.turns m) (SetTable.bits h % (m + 1)) (SetTable.bits h)).bind _ = _
        rw [ej]
        rfl
      rw [this, e']
      simp only [List.length_cons]
      congr 2
      omega
    · rw [List.length_cons, show k + (hs.length + 1) = k + 1 + hs.length by omega]
      exact p'

theorem range_get (l : List (Option Nat)) : (List.range l.length).map (fun j => l.getD j none) = l := by
  apply List.ext_getElem?
  intro i
  by_cases h : i < l.length
  · simp [List.getD_eq_getElem?_getD, h]
  · rw [List.getElem?_eq_none_iff.mpr (by simpa using Nat.le_of_not_lt h), List.getElem?_eq_none_iff.mpr (Nat.le_of_not_lt h)]
/-- the table of n hashes, none lost -/
theorem laid_some {m fg mv : Nat} {led pl : Bool} {hs : Array Int} (hc : cyc m = true) (hn : hs.size ≤ m) : ∃ t od, SetTable.laid m fg mv led pl hs = some (t, od) ∧ od.toList.Perm (List.range hs.size) := by
  obtain ⟨ow, e, s, p⟩ := lay_fold hc hs.toList (Array.replicate (m + 1) none) 0 (by simp) (by simp) (by simpa using hn)
  have hl : SetTable.layClean m hs = some ow := by
    unfold SetTable.layClean
    rw [← Array.foldl_toList]
    exact congrArg (Option.map Prod.fst) e
  refine ⟨_, _, by unfold SetTable.laid; rw [hl]; rfl, ?_⟩
  dsimp only
  rw [List.map_filterMap]
  have q : (List.range (m + 1)).filterMap (fun j => Option.map (fun x : Nat × Nat => x.2) (Option.map (fun x => (j, x)) (ow.getD j none))) = ow.toList.filterMap id := by
    conv => rhs; rw [← range_get ow.toList]
    rw [List.filterMap_map, Array.length_toList, s]
    congr 1
    funext j
    simp only [Function.comp, id, Option.map_map]
    rw [Array.getD_eq_getD_getElem?, List.getD_eq_getElem?_getD, Array.getElem?_toList]
    cases (ow[j]?.getD none) <;> rfl
  refine List.Perm.trans (List.Perm.of_eq q) ?_
  simpa using p
theorem picked {es : Array (Int × Value)} {od : Array Nat} (h : od.toList.Perm (List.range es.size)) : (od.filterMap (es[·]?)).toList.Perm es.toList := by
  rw [Array.toList_filterMap]
  refine (List.Perm.filterMap _ h).trans (List.Perm.of_eq ?_)
  apply List.ext_getElem?
  intro i
  have : (List.range es.size).filterMap (fun x => es[x]?) = es.toList := by
    have e : (List.range es.size).filterMap (fun x => es[x]?) = (List.range es.toList.length).filterMap (fun x => es.toList[x]?) := by simp
    rw [e]
    exact List.filterMap_getElem?_range_length es.toList
  rw [this]
theorem cyc7 : cyc 7 = true := by decide +kernel
theorem cyc15 : cyc 15 = true := by decide +kernel
theorem cyc31 : cyc 31 = true := by decide +kernel
theorem cyc63 : cyc 63 = true := by decide +kernel
theorem cyc127 : cyc 127 = true := by decide +kernel
theorem cyc255 : cyc 255 = true := by decide +kernel
theorem cyc511 : cyc 511 = true := by decide +kernel
theorem sizeAbove_cases {n : Nat} (h : n ≤ 300) : SetTable.sizeAbove n = 8 ∨ SetTable.sizeAbove n = 16 ∨ SetTable.sizeAbove n = 32 ∨ SetTable.sizeAbove n = 64 ∨ SetTable.sizeAbove n = 128 ∨ SetTable.sizeAbove n = 256 ∨ SetTable.sizeAbove n = 512 := by
  have : ((List.range 301).all fun n => [8, 16, 32, 64, 128, 256, 512].contains (SetTable.sizeAbove n) && decide (n < SetTable.sizeAbove n)) = true := by decide +kernel
  have := List.all_eq_true.mp this n (List.mem_range.mpr (by omega))
  simpa using (Bool.and_eq_true_iff.mp this).1
theorem sizeAbove_gt {n : Nat} (h : n ≤ 300) : n < SetTable.sizeAbove n := by
  have : ((List.range 301).all fun n => [8, 16, 32, 64, 128, 256, 512].contains (SetTable.sizeAbove n) && decide (n < SetTable.sizeAbove n)) = true := by decide +kernel
  have := List.all_eq_true.mp this n (List.mem_range.mpr (by omega))
  simpa using (Bool.and_eq_true_iff.mp this).2
theorem cyc_above {n : Nat} (h : n ≤ 300) : cyc (SetTable.sizeAbove n - 1) = true := by
  rcases sizeAbove_cases h with q | q | q | q | q | q | q <;> rw [q]
  · exact cyc7
  · exact cyc15
  · exact cyc31
  · exact cyc63
  · exact cyc127
  · exact cyc255
  · exact cyc511
end SX

namespace SX
open PySem
/-! probing a table that is not full always ends at a free slot -/
def Hit (t : SetTable) (h : Int) (fuel : Nat) (p : SetTable.Probe) : Prop := ∃ j d, SetTable.probe.go t (fun _ => h + 1) h fuel p = some (.empty j d)
def begin_ (m i pb : Nat) (dm : Option Nat) : SetTable.Probe := { j := i, more := SetTable.runEnd m i - i, i := i, perturb := pb, dummy := dm }
theorem hit_run {t : SetTable} {h : Int} : ∀ (k fuel : Nat) (p : SetTable.Probe), p.more = k → (∀ dm, Hit t h fuel (begin_ t.mask (SetTable.leap t.mask p.i p.perturb).1 (SetTable.leap t.mask p.i p.perturb).2 dm)) → Hit t h (fuel + k + 1) p := by
  intro k
  induction k with
  | zero =>
    intro fuel p hk hn
    have adv : ∀ dm, t.advance { p with dummy := dm } = begin_ t.mask (SetTable.leap t.mask p.i p.perturb).1 (SetTable.leap t.mask p.i p.perturb).2 dm := fun dm => by
      unfold SetTable.advance
      rw [if_neg (by show ¬ p.more > 0; omega)]
      rfl
    unfold Hit SetTable.probe.go
    cases q : t.slot p.j with
    | empty => exact ⟨_, _, rfl⟩
    | dummy => dsimp only; rw [adv]; exact hn _
    | live i =>
      dsimp only
      rw [if_neg (by simp; omega)]
      have := adv p.dummy
      have e : ({ p with dummy := p.dummy } : SetTable.Probe) = p := rfl
      rw [e] at this
      rw [this]
      exact hn _
  | succ k ih =>
    intro fuel p hk hn
    have go : ∀ dm, Hit t h (fuel + k + 1) (t.advance { p with dummy := dm }) := fun dm => by
      have e : t.advance { p with dummy := dm } = { p with j := p.j + 1, more := p.more - 1, dummy := dm } := by
        unfold SetTable.advance
        rw [if_pos (by show p.more > 0; omega)]
      rw [e]
      exact ih fuel _ (by show p.more - 1 = k; omega) hn
    unfold Hit SetTable.probe.go
    cases q : t.slot p.j with
    | empty => exact ⟨_, _, rfl⟩
    | dummy => exact go _
    | live i =>
      dsimp only
      rw [if_neg (by simp; omega)]
      exact go p.dummy
theorem hit_now {t : SetTable} {h : Int} {p : SetTable.Probe} (e : t.slot p.j = .empty) (fuel : Nat) : Hit t h (fuel + 1) p := by
  unfold Hit SetTable.probe.go
  rw [e]
  exact ⟨_, _, rfl⟩
theorem run_le9 (m i : Nat) : SetTable.runEnd m i - i ≤ 9 := by
  unfold SetTable.runEnd
  split <;> omega
theorem hit0 {t : SetTable} {h : Int} {k : Nat} (hk : t.slot k = .empty) : ∀ (n i fuel : Nat), itn t.mask n i = k → 10 * (n + 1) ≤ fuel → ∀ dm, Hit t h fuel (begin_ t.mask i 0 dm) := by
  intro n
  induction n with
  | zero =>
    intro i fuel e hf dm
    obtain ⟨f, rfl⟩ : ∃ f, fuel = f + 1 := ⟨fuel - 1, by omega⟩
    have e : i = k := e
    subst e
    exact hit_now hk f
  | succ n ih =>
    intro i fuel e hf dm
    have h9 := run_le9 t.mask i
    have z := hit_run (t := t) (h := h) (SetTable.runEnd t.mask i - i) (fuel - (SetTable.runEnd t.mask i - i) - 1) (begin_ t.mask i 0 dm) rfl (fun dm' => by
      have e1 : SetTable.leap t.mask i 0 = (st5 t.mask i, 0) := by
        unfold SetTable.leap st5
        simp
      show Hit t h _ (begin_ t.mask (SetTable.leap t.mask i 0).1 (SetTable.leap t.mask i 0).2 dm')
      rw [e1]
      exact ih (st5 t.mask i) _ e (by omega) dm')
    rw [show fuel - (SetTable.runEnd t.mask i - i) - 1 + (SetTable.runEnd t.mask i - i) + 1 = fuel by omega] at z
    exact z
theorem hitc {t : SetTable} {h : Int} {k : Nat} (hc : cyc t.mask = true) (hkm : k ≤ t.mask) (hk : t.slot k = .empty) : ∀ (c i pb fuel : Nat), i ≤ t.mask → pb < 32 ^ c → 10 * (c + t.mask + 1) ≤ fuel → ∀ dm, Hit t h fuel (begin_ t.mask i pb dm) := by
  intro c
  induction c with
  | zero =>
    intro i pb fuel hi hp hf dm
    have : pb = 0 := by rw [Nat.pow_zero] at hp; omega
    subst this
    obtain ⟨n, hn, e⟩ := cyc_reach hc i k hi hkm
    exact hit0 hk n i fuel e (by omega) dm
  | succ c ih =>
    intro i pb fuel hi hp hf dm
    have h9 := run_le9 t.mask i
    have z := hit_run (t := t) (h := h) (SetTable.runEnd t.mask i - i) (fuel - (SetTable.runEnd t.mask i - i) - 1) (begin_ t.mask i pb dm) rfl (fun dm' => by
      refine ih _ _ _ (Nat.le_of_lt_succ (Nat.mod_lt _ (Nat.succ_pos _))) ?_ (by omega) dm'
      show pb / 32 < 32 ^ c
      rw [Nat.pow_succ] at hp
      exact Nat.div_lt_of_lt_mul (by rw [Nat.mul_comm]; exact hp))
    rw [show fuel - (SetTable.runEnd t.mask i - i) - 1 + (SetTable.runEnd t.mask i - i) + 1 = fuel by omega] at z
    exact z

theorem nodup_len {α : Type} [DecidableEq α] : ∀ (l m : List α), l.Nodup → (∀ x ∈ l, x ∈ m) → l.length ≤ m.length := by
  intro l
  induction l with
  | nil => intro m _ _; exact Nat.zero_le _
  | cons x r ih =>
    intro m nd hs
    obtain ⟨hx, hr⟩ := List.nodup_cons.mp nd
    have hxm := hs x List.mem_cons_self
    have h1 := ih (m.erase x) hr fun y hy => (List.mem_erase_of_ne (fun (z : y = x) => hx (by rw [← z]; exact hy))).mpr (hs y (List.mem_cons_of_mem _ hy))
    rw [List.length_erase_of_mem hxm] at h1
    have : 0 < m.length := List.length_pos_of_mem hxm
    rw [List.length_cons]
    omega
theorem exists_free (l : List Nat) (m : Nat) (h : l.length ≤ m) : ∃ j, j ≤ m ∧ j ∉ l := by
  refine Classical.byContradiction fun hn => ?_
  have all : ∀ j, j ≤ m → j ∈ l := fun j hj => Classical.byContradiction fun q => hn ⟨j, hj, q⟩
  have := nodup_len (List.range (m + 1)) l List.nodup_range fun x hx => all x (Nat.le_of_lt_succ (List.mem_range.mp hx))
  rw [List.length_range] at this
  omega
theorem empty_slot {t : SetTable} {n : Nat} (hf : t.fits n = true) : ∃ j, j ≤ t.mask ∧ t.slot j = .empty := by
  have hf' : t.place.size + t.dummies.size ≤ t.mask := by
    simp only [SetTable.fits, Bool.and_eq_true, decide_eq_true_eq] at hf
    exact hf.2
  obtain ⟨j, hj, hn⟩ := exists_free (t.place.toList ++ t.dummies.toList) t.mask (by simpa using hf')
  refine ⟨j, hj, ?_⟩
  rw [List.mem_append, not_or] at hn
  have out : ∀ (ps : Array Nat), j ∉ ps.toList → (ps[SetTable.below ps j]? == some j) = false := fun ps hp => by
    cases q : ps[SetTable.below ps j]? with
    | none => rfl
    | some x =>
      have hx : x ∈ ps.toList := by rw [← Array.getElem?_toList] at q; exact List.mem_of_getElem? q
      have : x ≠ j := fun z => hp (z ▸ hx)
      simp [this]
  unfold SetTable.slot
  dsimp only
  rw [out _ hn.1]
  unfold SetTable.has
  rw [out _ hn.2]
  rfl
theorem freeSlot_some {t : SetTable} {n : Nat} (hc : cyc t.mask = true) (hf : t.fits n = true) (h : Int) : ∃ j b, t.freeSlot h = some (j, b) := by
  obtain ⟨k, hkm, hk⟩ := empty_slot hf
  obtain ⟨j, d, e⟩ := hitc (h := h) hc hkm hk 13 (SetTable.bits h % (t.mask + 1)) (SetTable.bits h) (10 * SetTable.turns t.mask) (Nat.le_of_lt_succ (Nat.mod_lt _ (Nat.succ_pos _))) (bits_lt h) (by unfold SetTable.turns; omega) none
  refine ⟨d.getD j, d.isSome, ?_⟩
  unfold SetTable.freeSlot SetTable.probe SetTable.probeStart
  dsimp only
  have e' : SetTable.probe.go t (fun _ => h + 1) h (10 * SetTable.turns t.mask) { j := SetTable.bits h % (t.mask + 1), more := SetTable.runEnd t.mask (SetTable.bits h % (t.mask + 1)) - SetTable.bits h % (t.mask + 1), i := SetTable.bits h % (t.mask + 1), perturb := SetTable.bits h, dummy := none } = some (.empty j d) := e
  rw [e']
/-- a dummy that was taken is among the dummies -/
theorem probe_dummy {t : SetTable} {ha : Nat → Int} {h : Int} : ∀ (fuel : Nat) (p : SetTable.Probe), (∀ d, p.dummy = some d → SetTable.has t.dummies d = true) →
    ∀ j d, SetTable.probe.go t ha h fuel p = some (.empty j (some d)) → SetTable.has t.dummies d = true := by
  intro fuel
  induction fuel with
  | zero => intro p _ j d e; cases e
  | succ fuel ih =>
    intro p hd j d e
    unfold SetTable.probe.go at e
    cases q : t.slot p.j with
    | empty =>
      rw [q] at e
      dsimp only at e
      injection e with e
      injection e with e1 e2
      exact hd d e2
    | dummy =>
      rw [q] at e
      dsimp only at e
      refine ih _ (fun d' hd' => ?_) j d e
      have : d' = p.j := by
        unfold SetTable.advance at hd'
        split at hd'
        · injection hd' with hd'; exact hd'.symm
        · injection hd' with hd'; exact hd'.symm
      rw [this]
      unfold SetTable.slot at q
      dsimp only at q
      split at q
      · cases q
      · split at q
        · assumption
        · cases q
    | live k =>
      rw [q] at e
      dsimp only at e
      split at e
      · cases e
      · refine ih _ (fun d' hd' => ?_) j d e
        have : p.dummy = some d' := by
          unfold SetTable.advance at hd'
          split at hd' <;> exact hd'
        exact hd d' this
theorem freeSlot_dummy {t : SetTable} {h : Int} {j : Nat} (e : t.freeSlot h = some (j, true)) : SetTable.has t.dummies j = true := by
  unfold SetTable.freeSlot SetTable.probe at e
  split at e
  · rename_i j' dm e'
    injection e with e
    injection e with e1 e2
    cases dm with
    | none => cases e2
    | some d =>
      subst e1
      exact probe_dummy _ _ (fun d q => by cases q) j' d e'
  · cases e
theorem has_lt {ps : Array Nat} {j : Nat} (h : SetTable.has ps j = true) : SetTable.below ps j < ps.size := by
  unfold SetTable.has at h
  have h' : ps[SetTable.below ps j]? = some j := by simpa using h
  exact (Array.getElem?_eq_some_iff.mp h').1
theorem erase_size {α : Type} (xs : Array α) (p : Nat) (h : p < xs.size) : (SetTable.eraseAt xs p).size = xs.size - 1 := by
  rw [← Array.length_toList, toList_erase, List.length_append, List.length_take, List.length_drop, Array.length_toList]
  omega
theorem ins_size {α : Type} (xs : Array α) (p : Nat) (x : α) : (SetTable.insertAt xs p x).size = xs.size + 1 := by
  rw [← Array.length_toList, toList_ins, List.length_append, List.length_cons, List.length_take, List.length_drop, Array.length_toList]
  omega
theorem fits_iff {t : SetTable} {n : Nat} : t.fits n = true ↔ t.place.size = n ∧ t.place.size + t.dummies.size ≤ t.mask := by
  unfold SetTable.fits SetTable.fill
  simp
/-- the tables that come about here -/
def Good (m : Nat) : Prop := m = 7 ∨ m = 15 ∨ m = 31 ∨ m = 63 ∨ m = 127 ∨ m = 255 ∨ m = 511
theorem Good.cyc {m : Nat} (h : Good m) : cyc m = true := by
  rcases h with q | q | q | q | q | q | q <;> rw [q]
  · exact cyc7
  · exact cyc15
  · exact cyc31
  · exact cyc63
  · exact cyc127
  · exact cyc255
  · exact cyc511
theorem good_above {n : Nat} (h : n ≤ 511) : Good (SetTable.sizeAbove n - 1) ∧ n < SetTable.sizeAbove n := by
  have q : ((List.range 512).all fun n => [8, 16, 32, 64, 128, 256, 512].contains (SetTable.sizeAbove n) && decide (n < SetTable.sizeAbove n)) = true := by decide +kernel
  have q := List.all_eq_true.mp q n (List.mem_range.mpr (by omega))
  obtain ⟨q1, q2⟩ := Bool.and_eq_true_iff.mp q
  refine ⟨?_, by simpa using q2⟩
  have q1 : SetTable.sizeAbove n = 8 ∨ SetTable.sizeAbove n = 16 ∨ SetTable.sizeAbove n = 32 ∨ SetTable.sizeAbove n = 64 ∨ SetTable.sizeAbove n = 128 ∨ SetTable.sizeAbove n = 256 ∨ SetTable.sizeAbove n = 512 := by simpa using q1
  unfold Good
  omega
/-- the whole word about a table -/
structure TOk (t : SetTable) (n : Nat) : Prop where
  fits : t.fits n = true
  rise : Rise t.place
  plain : t.plain = true
  good : Good t.mask
  room : t.fill * 5 < t.mask * 3
theorem lay_new {t : SetTable} {es : Array (Int × Value)} {h : Int} {x : Value} (k : TOk t es.size) (q : es.size ≤ 126) :
    ∃ t1 dum, layNew t es h x = (SetTable.insertAt es (SetTable.below t.place ((t.freeSlot h).getD (0, false)).1) (h, x), t1, dum, false) ∧ t1.led = t.led ∧ t1.plain = true ∧ t1.fits (es.size + 1) = true ∧ Rise t1.place ∧ Good t1.mask ∧ (dum = true → t1.fill * 5 < t1.mask * 3) := by
  obtain ⟨j, b, e⟩ := freeSlot_some k.good.cyc k.fits h
  obtain ⟨f1, f2⟩ := fits_iff.mp k.fits
  have hm : 7 ≤ t.mask := by rcases k.good with q | q | q | q | q | q | q <;> omega
  have hroom := k.room
  unfold SetTable.fill at hroom
  have dsz : (if SetTable.has t.dummies j = true then SetTable.eraseAt t.dummies (SetTable.below t.dummies j) else t.dummies).size ≤ t.dummies.size ∧ (b = true → (if SetTable.has t.dummies j = true then SetTable.eraseAt t.dummies (SetTable.below t.dummies j) else t.dummies).size + 1 ≤ t.dummies.size) := by
    split
    · rename_i hh
      rw [erase_size _ _ (has_lt hh)]
      have := has_lt hh
      exact ⟨by omega, fun _ => by omega⟩
    · rename_i hh
      refine ⟨Nat.le_refl _, fun hb => ?_⟩
      subst hb
      exact absurd (freeSlot_dummy e) hh
  have fit1 : (t.put j).1.fits (es.size + 1) = true := by
    refine fits_iff.mpr ⟨?_, ?_⟩
    · show (SetTable.insertAt t.place (SetTable.below t.place j) j).size = _
      rw [ins_size, f1]
    · show (SetTable.insertAt t.place (SetTable.below t.place j) j).size + (if SetTable.has t.dummies j = true then SetTable.eraseAt t.dummies (SetTable.below t.dummies j) else t.dummies).size ≤ t.mask
      rw [ins_size]
      omega
  refine ⟨(t.put j).1, b, ?_, rfl, k.plain, fit1, rise_ins k.rise (freeSlot_ok k.rise e), k.good, fun hb => ?_⟩
  · unfold layNew
    rw [e]
    dsimp only
    have e2 : (t.put j).2 = SetTable.below t.place j := rfl
    have e3 : (SetTable.insertAt es (SetTable.below t.place j) (h, x)).size = es.size + 1 := ins_size _ _ _
    rw [e2, e3]
    unfold SetTable.orStandIn
    rw [if_pos fit1, fit1]
    rfl
  · have := dsz.2 hb
    show ((SetTable.insertAt t.place (SetTable.below t.place j) j).size + (if SetTable.has t.dummies j = true then SetTable.eraseAt t.dummies (SetTable.below t.dummies j) else t.dummies).size) * 5 < t.mask * 3
    rw [ins_size]
    omega
theorem relay_all {t : SetTable} {es : Array (Int × Value)} (h1 : 1 ≤ es.size) (h : es.size ≤ 127) (hp : t.plain = true) : ∃ es' t', relayAll t es (SetTable.grown es.size) = (es', t', false) ∧ es'.toList.Perm es.toList ∧ TOk t' es'.size ∧ t'.led = t.led := by
  have hg : SetTable.grown es.size = es.size * 4 := by unfold SetTable.grown; rw [if_neg (by omega)]
  obtain ⟨g1, g2⟩ := good_above (n := es.size * 4) (by omega)
  obtain ⟨t', od, e, p⟩ := laid_some (fg := t.finger) (mv := t.movedTo (SetTable.sizeAbove (es.size * 4) - 1)) (led := t.led) (pl := t.plain) (hs := es.map (·.1)) g1.cyc (by rw [Array.size_map]; omega)
  obtain ⟨r1, r2, r3, r4, r5, r6⟩ := laid_rise e
  rw [Array.size_map] at p
  have pk := picked p
  have sz : (od.filterMap (es[·]?)).size = es.size := by rw [← Array.length_toList, pk.length_eq, Array.length_toList]
  have ods : od.size = es.size := by rw [← Array.length_toList, p.length_eq, List.length_range]
  have fit : t'.fits (od.filterMap (es[·]?)).size = true := by
    refine fits_iff.mpr ⟨by rw [r6, sz, ods], ?_⟩
    rw [r6, r5, ods, r4]
    show es.size + 0 ≤ _
    omega
  refine ⟨od.filterMap (es[·]?), t', ?_, pk, ⟨fit, r1, r3.trans hp, by rw [r4]; exact g1, ?_⟩, r2⟩
  · unfold relayAll
    rw [hg]
    unfold SetTable.relaid
    rw [e]
    dsimp only
    rw [if_pos]
    rw [fit, Bool.and_true]
    unfold coversAll
    exact List.isPerm_iff.mpr p
  · unfold SetTable.fill
    rw [r6, r5, ods, r4]
    show (es.size + 0) * 5 < _
    omega
end SX

namespace SX
open PySem PyProof.Rows
/-! sets of ints: what stands at an address -/
def EntOf (e : Int × Value) (k : Int) : Prop := e.1 = hashInt k ∧ ∃ t, e.2 = Value.int k t
abbrev setObj (es : Array (Int × Value)) (ep : Nat) (t : SetTable) : Obj := { cls := .type "set", dict := none, data := .set es ep t, slots := #[] }
structure SOk (w : World) (es : Array (Int × Value)) (t : SetTable) (ks : List Int) : Prop where
  ent : Paired EntOf es.toList ks
  nd : ks.Nodup
  small : es.size ≤ 127
  tab : TOk t es.size
  led : w.params.followText "set-order" = true ∨ t.led = true
theorem small_scan {n : Nat} (h : n ≤ 127) : n < scanBound := by
  have e : scanBound = 4096 := rfl
  rw [e]; omega
theorem small_line {n : Nat} (h : n ≤ 127) : n ≤ sizeLine := fits_of_scanBound (small_scan h)
def SetI (w : World) (a : Addr) (ks : List Int) (h : Heap) : Prop := ∃ es ep t, h.get? a = some (setObj es ep t) ∧ SOk w es t ks

theorem paired_perm {α β : Type} {F : α → β → Prop} {l l' : List α} (p : l.Perm l') : ∀ {m : List β}, Paired F l m → ∃ m', m.Perm m' ∧ Paired F l' m' := by
  induction p with
  | nil => intro m h; exact ⟨m, .refl _, h⟩
  | cons x _ ih =>
    intro m h
    cases h with
    | cons a b =>
      obtain ⟨m', h1, h2⟩ := ih b
      exact ⟨_, .cons _ h1, .cons a h2⟩
  | swap x y l =>
    intro m h
    cases h with
    | cons a b =>
      cases b with
      | cons c d => exact ⟨_, .swap _ _ _, .cons c (.cons a d)⟩
  | trans _ _ ih1 ih2 =>
    intro m h
    obtain ⟨m1, h1, h2⟩ := ih1 h
    obtain ⟨m2, h3, h4⟩ := ih2 h2
    exact ⟨m2, h1.trans h3, h4⟩
theorem ent_mem : ∀ {es : List (Int × Value)} {ks : List Int}, Paired EntOf es ks → ∀ k, (k ∈ ks ↔ ∃ e ∈ es, Value.isInt k e.2 = true)
  | _, _, .nil, k => by simp
  | _, _, .cons (a := e) (b := j) he r, k => by
    have ih := ent_mem r k
    obtain ⟨_, t, he2⟩ := he
    have hq : Value.isInt k e.2 = true ↔ k = j := by
      rw [he2]
      simp [Value.isInt]
      exact eq_comm
    rw [List.mem_cons, ih]
    constructor
    · rintro (z | ⟨e', h1, h2⟩)
      · exact ⟨e, List.mem_cons_self, hq.mpr z⟩
      · exact ⟨e', List.mem_cons_of_mem _ h1, h2⟩
    · rintro ⟨e', h1, h2⟩
      rcases List.mem_cons.mp h1 with z | z
      · rw [z] at h2; exact .inl (hq.mp h2)
      · exact .inr ⟨e', z, h2⟩
theorem ent_elems {prog : Program} {w : World} : ∀ {es : List (Int × Value)} {ks : List Int}, Paired EntOf es ks → ElemsOf (intKind prog w) es
  | _, _, .nil => fun e he => by cases he
  | _, _, .cons (a := x) (b := j) hx r => fun e he => by
    rcases List.mem_cons.mp he with z | z
    · subst z
      obtain ⟨h1, t, h2⟩ := hx
      refine ⟨⟨j, ?_, h1⟩, ?_⟩
      · rw [h2]; exact intKind_is _ _ _ _
      · rw [h2]; rfl
    · exact ent_elems r e z
theorem ent_len {es : List (Int × Value)} {ks : List Int} (h : Paired EntOf es ks) : es.length = ks.length := Paired.length h
theorem SOk.size {w : World} {es : Array (Int × Value)} {t : SetTable} {ks : List Int} (h : SOk w es t ks) : es.size = ks.length := by
  rw [← Array.length_toList]; exact ent_len h.ent
theorem SetI.len {w : World} {a : Addr} {ks : List Int} {h : Heap} (x : SetI w a ks h) : ks.length ≤ 127 := by
  obtain ⟨es, ep, t, e, k⟩ := x
  rw [← k.size]; exact k.small
theorem SetI.nodup {w : World} {a : Addr} {ks : List Int} {h : Heap} (x : SetI w a ks h) : ks.Nodup := by
  obtain ⟨es, ep, t, e, k⟩ := x
  exact k.nd
theorem SetI.of {prog : Program} {w : World} {a : Addr} {ks : List Int} {h : Heap} (x : SetI w a ks h) : h.SetOf (intKind prog w) a (fun k => decide (k ∈ ks)) ks.length := by
  obtain ⟨es, ep, t, e, k⟩ := x
  exact ⟨_, es, ep, t, e, ⟨rfl, rfl, rfl⟩, rfl, ent_elems k.ent, fun j => by rw [decide_eq_true_eq]; exact ent_mem k.ent j, small_scan k.small, k.tab.fits, k.size⟩
theorem SetI.keep {w : World} {a : Addr} {ks : List Int} {h h' : Heap} (x : SetI w a ks h) (k : ∀ o, h.get? a = some o → h'.get? a = some o) : SetI w a ks h' := by
  obtain ⟨es, ep, t, e, r⟩ := x
  exact ⟨es, ep, t, k _ e, r⟩
theorem SetI.lt {w : World} {a : Addr} {ks : List Int} {h : Heap} (x : SetI w a ks h) : a < h.objs.size := by
  obtain ⟨es, ep, t, e, r⟩ := x
  exact Heap.lt_size e
theorem SetI.typeIs {w : World} {a : Addr} {ks : List Int} {s : Shared} (x : SetI w a ks s.heap) : s.TypeIs (.ref a) "set" := by
  obtain ⟨es, ep, t, e, r⟩ := x
  exact ⟨_, e, rfl⟩
theorem perm_ok {w : World} {es es' : Array (Int × Value)} {t t' : SetTable} {ks : List Int} (k : SOk w es t ks) (p : es'.toList.Perm es.toList) (f : TOk t' es'.size) (l : t'.led = t.led) :
    ∃ ks', ks'.Perm ks ∧ SOk w es' t' ks' := by
  obtain ⟨ks', p1, e'⟩ := paired_perm p.symm k.ent
  have hs : es'.size = es.size := by rw [← Array.length_toList, p.length_eq, Array.length_toList]
  exact ⟨ks', p1.symm, e', p1.nodup_iff.mp k.nd, by rw [hs]; exact k.small, f, by rw [l]; exact k.led⟩
theorem put_obj {h : Heap} {a : Addr} {es es' : Array (Int × Value)} {ep : Nat} {t t' : SetTable} (e : h.get? a = some (setObj es ep t)) : (h.update a (Obj.putSet es' t')).get? a = some (setObj es' (ep + 1) t') := by
  have z := Heap.get?_update_self (Obj.putSet es' t') e (by rw [putSet_of es' t' rfl]; rfl)
  rw [putSet_of es' t' rfl] at z
  exact z

section
variable {prog : Program} {w : World} {A : Around} {E : Value → Shared → Prop} {s : Shared} {a : Addr} {ks : List Int}

/-- storing entries and a table -/
theorem store_i {es es' : Array (Int × Value)} {ep : Nat} {t t' : SetTable} {Q : Unit → Shared → Prop} (e : s.heap.get? a = some (setObj es ep t)) (hz : es'.size ≤ sizeLine)
    (h : ∀ h', Heap.SameBut a s.heap h' → h'.get? a = some (setObj es' (ep + 1) t') → Q () { s with heap := h' }) : wpAny (model prog w) A (storeSet a es' t') Q E s :=
  wpAny_storeSet_of e rfl (h _ (Heap.SameBut.update ..) (put_obj e)) hz

theorem add_i {k : Int} {u : Tok} {Q : Bool → Shared → Prop} (S : SetI w a ks s.heap) (room : ks.length + 1 ≤ 127)
    (h : ∀ h' ks', Heap.SameBut a s.heap h' → SetI w a ks' h' → ks'.Perm (if k ∈ ks then ks else k :: ks) → Q (!decide (k ∈ ks)) { s with heap := h' }) :
    wpAny (model prog w) A (setAddHashed a (.int k u) (hashInt k)) Q E s := by
  obtain ⟨es, ep, t, e, K⟩ := S
  have el : ElemsOf (intKind prog w) es.toList := ent_elems K.ent
  have hk : (intKind prog w).is k (.int k u) = true := intKind_is _ _ _ _
  have hkh : (intKind prog w).hash k = hashInt k := rfl
  unfold setAddHashed setAddHashedIn
  refine wpAny_holding (wpAny_bind (wpAny_setState_of e rfl K.tab.fits ?_))
  dsimp only
  rw [byScan_of (knd := intKind prog w) rfl (small_scan K.small) el, if_pos rfl]
  unfold setAddByScan
  refine wpAny_bind (wpAny_bind (wpAny_rule (wpAny_bind ?_)))
  rw [← hkh]
  refine wpAny_setScan_of (knd := intKind prog w) hk e rfl K.tab.fits el ?_
  have mem := ent_mem K.ent k
  cases hr : List.findIdx? (fun e => (intKind prog w).is k e.2) es.toList with
  | some j =>
    dsimp only
    obtain ⟨hj, hp, _⟩ := List.findIdx?_eq_some_iff_getElem.mp hr
    have hin : k ∈ ks := mem.mpr ⟨_, List.getElem_mem hj, hp⟩
    have z := h s.heap ks (Heap.SameBut.refl a s.heap) ⟨es, ep, t, e, K⟩ (by rw [if_pos hin])
    rw [decide_eq_true hin] at z
    exact wpAny_pure (wpAny_pure z)
  | none =>
    dsimp only
    have hout : k ∉ ks := fun q => by
      obtain ⟨x, hx, hxi⟩ := mem.mp q
      have := List.findIdx?_eq_none_iff.mp hr x hx
      rw [show (intKind prog w).is k x.2 = true from hxi] at this
      cases this
    have sz0 : es.size ≤ 126 := by rw [K.size]; omega
    obtain ⟨t1, dum, le, ll, lpl, lf, lr, lg, ld⟩ := lay_new (h := hashInt k) (x := .int k u) K.tab sz0
    have lp := layNew_perm t es (hashInt k) (.int k u)
    rw [hkh]
    rw [le] at lp ⊢
    generalize SetTable.insertAt es (SetTable.below t.place ((t.freeSlot (hashInt k)).getD (0, false)).1) (hashInt k, Value.int k u) = es1 at lp ⊢
    dsimp only at lp ⊢
    rw [Array.toList_push] at lp
    have p1 : Paired EntOf ((hashInt k, Value.int k u) :: es.toList) (k :: ks) := .cons ⟨rfl, u, rfl⟩ K.ent
    obtain ⟨ks1, pk, pe⟩ := paired_perm (lp.trans List.perm_append_comm).symm p1
    have sz1 : es1.size = es.size + 1 := by rw [← Array.length_toList, lp.length_eq]; simp
    rw [← sz1] at lf
    have sm1 : es1.size ≤ 127 := by omega
    have nd1 : ks1.Nodup := pk.nodup_iff.mp (List.nodup_cons.mpr ⟨hout, K.nd⟩)
    have line1 : es1.size ≤ sizeLine := small_line sm1
    -- what the end wants, for any table of these entries
    have fin : ∀ (h' : Heap) (es2 : Array (Int × Value)) (ep2 : Nat) (t2 : SetTable), Heap.SameBut a s.heap h' → h'.get? a = some (setObj es2 ep2 t2) → es2.toList.Perm es1.toList → TOk t2 es2.size → t2.led = t.led → Q true { s with heap := h' } := by
      intro h' es2 ep2 t2 sb o2 pp f2 l2
      obtain ⟨ks2, q1, q2⟩ := paired_perm pp.symm pe
      have hs : es2.size = es1.size := by rw [← Array.length_toList, pp.length_eq, Array.length_toList]
      have z := h h' ks2 sb ⟨es2, ep2, t2, o2, q2, q1.nodup_iff.mp nd1, by rw [hs]; exact sm1, f2, by rw [l2]; exact K.led⟩ (by rw [if_neg hout]; exact q1.symm.trans pk.symm)
      rw [decide_eq_false hout] at z
      exact z
    refine wpAny_bind (wpAny_pure ?_)
    have tail : wpAny (model prog w) A (do
        storeSet a es1 t1
        if (!dum && t1.tooFull) = true then do
            (match (relayAll t1 es1 (SetTable.grown es1.size)).2.2 with | true => rule "set.scan.the-table-gave-way" | false => pure ())
            storeSet a (relayAll t1 es1 (SetTable.grown es1.size)).1 (relayAll t1 es1 (SetTable.grown es1.size)).2.1
            pure (some true)
          else pure (some true)) (fun r s₁ => wpAny (model prog w) A (match r with | some added => pure added | none => setAddHashedIn a (.int k u) (hashInt k) 99999) Q E s₁) E s := by
      refine wpAny_bind (store_i e line1 fun h1 sb1 o1 => ?_)
      split
      · obtain ⟨es2, t2, re, rp, rt, rl⟩ := relay_all (t := t1) (es := es1) (by omega) sm1 lpl
        rw [re]
        refine wpAny_bind (wpAny_pure (wpAny_bind (store_i (s := { s with heap := h1 }) o1 ?_ fun h2 sb2 o2 => wpAny_pure (wpAny_pure (fin h2 _ _ _ (sb1.trans sb2) o2 rp rt (rl.trans ll))))))
        have : es2.size = es1.size := by rw [← Array.length_toList, rp.length_eq, Array.length_toList]
        rw [this]
        exact line1
      · rename_i hful
        refine wpAny_pure (wpAny_pure (fin h1 _ _ _ sb1 o1 (.refl _) ⟨lf, lr, lpl, lg, ?_⟩ ll))
        cases dum with
        | true => exact ld rfl
        | false =>
          have : t1.tooFull = false := by simpa using hful
          unfold SetTable.tooFull at this
          simpa using this
    split
    · rw [hashByValue_scannable 8 rfl]
      exact wpAny_bind (wpAny_pure tail)
    · exact wpAny_bind (wpAny_pure tail)

theorem add_v {k : Int} {u : Tok} {Q : Bool → Shared → Prop} (S : SetI w a ks s.heap) (room : ks.length + 1 ≤ 127)
    (h : ∀ h' ks' tk, Heap.SameBut a s.heap h' → SetI w a ks' h' → ks'.Perm (if k ∈ ks then ks else k :: ks) → s.toks ≤ tk → Q (!decide (k ∈ ks)) { s with heap := h', toks := tk }) :
    wpAny (model prog w) A (setAdd a (.int k u)) Q E s := by
  unfold setAdd
  refine wpAny_holding (wpAny_bind ((intKind prog w).pyHash (k := k) (intKind_is _ _ _ _) ?_))
  exact add_i (s := { s with toks := s.toks + 1 }) S room fun h' ks' sb S' p => h h' ks' _ sb S' p (Nat.le_succ _)

theorem found_at {es : Array (Int × Value)} {k : Int} : ∀ {ks : List Int}, Paired EntOf es.toList ks → ks.Nodup → ∀ {j : Nat}, List.findIdx? (fun e => (intKind prog w).is k e.2) es.toList = some j → ks[j]? = some k := by
  intro ks P _ j hr
  obtain ⟨hj, hp, _⟩ := List.findIdx?_eq_some_iff_getElem.mp hr
  have : ∀ {es : List (Int × Value)} {ks : List Int}, Paired EntOf es ks → ∀ (j : Nat) (e : Int × Value), es[j]? = some e → ∃ k', ks[j]? = some k' ∧ EntOf e k' := by
    intro es ks P
    induction P with
    | nil => intro j e z; simp at z
    | cons x _ ih =>
      intro j e z
      cases j with
      | zero =>
        have z' := Option.some.inj z
        subst z'
        exact ⟨_, rfl, x⟩
      | succ j => exact ih j e (by simpa using z)
  obtain ⟨k', e1, _, u, e2⟩ := this P j es.toList[j] (by simp [hj])
  have hp' : Value.isInt k es.toList[j].2 = true := hp
  rw [e2] at hp'
  have : k' = k := by simpa [Value.isInt] using hp'
  rw [← this]; exact e1
theorem paired_erase {α β : Type} {F : α → β → Prop} : ∀ {l : List α} {m : List β}, Paired F l m → ∀ i, Paired F (l.take i ++ l.drop (i + 1)) (m.take i ++ m.drop (i + 1))
  | _, _, .nil, i => by simpa using Paired.nil
  | _, _, .cons x r, 0 => by simpa using r
  | _, _, .cons x r, i + 1 => by simpa using Paired.cons x (paired_erase r i)
theorem erase_perm {k : Int} : ∀ {ks : List Int} {j : Nat}, ks[j]? = some k → ks.Perm (k :: (ks.take j ++ ks.drop (j + 1)))
  | [], j, e => by simp at e
  | x :: r, 0, e => by
    have : x = k := by simpa using e
    subst this
    simp
  | x :: r, j + 1, e => by
    have := erase_perm (ks := r) (j := j) (by simpa using e)
    simpa using (List.Perm.cons x this).trans (List.Perm.swap k x _)

theorem discard_i {k : Int} {u : Tok} {Q : Bool → Shared → Prop} (S : SetI w a ks s.heap)
    (h : ∀ h' ks', Heap.SameBut a s.heap h' → SetI w a ks' h' → (if k ∈ ks then ks.Perm (k :: ks') else ks' = ks) → Q (decide (k ∈ ks)) { s with heap := h' }) :
    wpAny (model prog w) A (setDiscardHashed a (.int k u) (hashInt k)) Q E s := by
  obtain ⟨es, ep, t, e, K⟩ := S
  have el : ElemsOf (intKind prog w) es.toList := ent_elems K.ent
  have hk : (intKind prog w).is k (.int k u) = true := intKind_is _ _ _ _
  unfold setDiscardHashed setFind setFindIn
  refine wpAny_bind (wpAny_bind (wpAny_setState_of e rfl K.tab.fits ?_))
  dsimp only
  rw [byScan_of (knd := intKind prog w) rfl (small_scan K.small) el, if_pos rfl]
  refine wpAny_bind (wpAny_rule (wpAny_bind ?_))
  rw [show hashInt k = (intKind prog w).hash k from rfl]
  refine wpAny_setScan_of (knd := intKind prog w) hk e rfl K.tab.fits el ?_
  have mem := ent_mem K.ent k
  cases hr : List.findIdx? (fun e => (intKind prog w).is k e.2) es.toList with
  | none =>
    dsimp only
    have hout : k ∉ ks := fun q => by
      obtain ⟨x, hx, hxi⟩ := mem.mp q
      have := List.findIdx?_eq_none_iff.mp hr x hx
      rw [show (intKind prog w).is k x.2 = true from hxi] at this
      cases this
    have z := h s.heap ks (Heap.SameBut.refl a s.heap) ⟨es, ep, t, e, K⟩ (by rw [if_neg hout])
    rw [decide_eq_false hout] at z
    exact wpAny_pure (wpAny_pure z)
  | some j =>
    dsimp only
    have hkj := found_at (prog := prog) (w := w) K.ent K.nd hr
    have hin : k ∈ ks := List.mem_of_getElem? hkj
    have hjl : j < es.size := by
      have := (List.findIdx?_eq_some_iff_getElem.mp hr).1
      rwa [Array.length_toList] at this
    rw [Nat.zero_add]
    refine wpAny_pure (wpAny_bind (wpAny_setState_of e rfl K.tab.fits ?_))
    dsimp only
    have hfit := fits_iff.mp K.tab.fits
    have hpl : t.place[j]? = some t.place[j]! := by
      rw [Array.getElem?_eq_getElem (by omega), getElem!_pos]
    have dr : t.drop j = { t with place := SetTable.eraseAt t.place j, dummies := SetTable.insertAt t.dummies (SetTable.below t.dummies t.place[j]!) t.place[j]! } := by
      unfold SetTable.drop
      rw [hpl]
    have es1 : (SetTable.eraseAt es j).size = es.size - 1 := erase_size _ _ hjl
    have ps1 : (SetTable.eraseAt t.place j).size = es.size - 1 := by rw [erase_size _ _ (by omega)]; omega
    have K' : SOk w (SetTable.eraseAt es j) (t.drop j) (ks.take j ++ ks.drop (j + 1)) := by
      refine ⟨by rw [toList_erase]; exact paired_erase K.ent j, ?_, by rw [es1]; have := K.small; omega, ?_, ?_⟩
      · have := (erase_perm hkj).nodup_iff.mp K.nd
        exact (List.nodup_cons.mp this).2
      · have hroom := K.tab.room
        unfold SetTable.fill at hroom
        rw [dr]
        refine ⟨fits_iff.mpr ⟨?_, ?_⟩, rise_erase K.tab.rise j, K.tab.plain, K.tab.good, ?_⟩
        · show (SetTable.eraseAt t.place j).size = _
          rw [ps1, es1]
        · show (SetTable.eraseAt t.place j).size + (SetTable.insertAt t.dummies _ _).size ≤ t.mask
          rw [ps1, ins_size]
          omega
        · show ((SetTable.eraseAt t.place j).size + (SetTable.insertAt t.dummies _ _).size) * 5 < t.mask * 3
          rw [ps1, ins_size]
          omega
      · rw [dr]; exact K.led
    refine wpAny_bind (store_i e (small_line K'.small) fun h1 sb1 o1 => ?_)
    refine wpAny_bind (wpAny_point ?_)
    have z := h h1 _ sb1 ⟨_, _, _, o1, K'⟩ (by rw [if_pos hin]; exact erase_perm hkj)
    rw [decide_eq_true hin] at z
    exact wpAny_pure z
end
end SX

namespace SX
open PySem PyProof.Rows
/-! walking a set, filling a fresh one from another -/
theorem cons_erase {α : Type} : ∀ (l : List α) (i : Nat) (x : α), l[i]? = some x → (x :: l.eraseIdx i).Perm l
  | [], i, x, e => by simp at e
  | y :: r, 0, x, e => by
    have : y = x := by simpa using e
    subst this
    simp
  | y :: r, i + 1, x, e => by
    have := cons_erase r i x (by simpa using e)
    rw [List.eraseIdx_cons_succ]
    exact (List.Perm.swap y x _).trans (List.Perm.cons y this)
theorem pick_go {α : Type} (nx : Nat → Nat) : ∀ (fuel k : Nat) (left : List α) (out : Array α), left.length ≤ fuel → (pickOrder.go nx fuel k left out).toList.Perm (out.toList ++ left) := by
  intro fuel
  induction fuel with
  | zero =>
    intro k left out h
    have : left = [] := List.length_eq_zero_iff.mp (by omega)
    subst this
    simp [pickOrder.go]
  | succ fuel ih =>
    intro k left out h
    unfold pickOrder.go
    split
    · rename_i x e
      have hlt := (List.getElem?_eq_some_iff.mp e).1
      refine (ih _ _ _ (by rw [List.length_eraseIdx]; split <;> omega)).trans ?_
      rw [Array.toList_push, List.append_assoc]
      refine List.Perm.append_left _ ?_
      exact cons_erase _ _ _ e
    · rename_i e
      cases left with
      | nil => simp
      | cons y r =>
        have := List.getElem?_eq_none_iff.mp e
        have h2 := Nat.mod_lt (nx k) (show 0 < (y :: r).length by simp)
        omega
theorem pick_perm {α : Type} (nx : Nat → Nat) (xs : Array α) : (pickOrder nx xs).toList.Perm xs.toList := by
  unfold pickOrder
  have := pick_go nx xs.size 0 xs.toList #[] (by simp)
  simpa using this

section
variable {prog : Program} {w : World} {A : Around} {E : Value → Shared → Prop} {s : Shared} {a : Addr} {ks : List Int}
theorem walk_i {Q : Array (Int × Value) → Shared → Prop} (S : SetI w a ks s.heap) (h : ∀ (es' : Array (Int × Value)) (ks' : List Int), Paired EntOf es'.toList ks' → ks'.Perm ks → Q es' s) : wpAny (model prog w) A (setWalk a) Q E s := by
  obtain ⟨es, ep, t, e, K⟩ := S
  unfold setWalk setsByText
  refine wpAny_bind (wpAny_setState_of e rfl K.tab.fits (wpAny_bind (wpAny_bind (wpAny_askSetting (wpAny_pure ?_)))))
  dsimp only
  split
  · refine wpAny_bind (wpAny_askSetting (wpAny_pure ?_))
    obtain ⟨ks', p, q⟩ := paired_perm (pick_perm _ es).symm K.ent
    exact h _ ks' q p.symm
  · rename_i hb
    rw [if_neg (by show ¬ ((!t.plain && decide (es.size > 1)) = true); rw [K.tab.plain]; simp)]
    have hl : t.led = true := by
      rcases K.led with z | z
      · exact absurd z hb
      · exact z
    refine wpAny_bind (show wpAny _ A (if (!t.led && decide (es.size > 1)) = true then unsupported "set:maker-not-led" else pure ()) _ _ _ from ?_)
    rw [hl, if_neg (by simp)]
    exact wpAny_pure (wpAny_pure (h es ks K.ent (.refl _)))
theorem unseen_i {Q : Array (Int × Value) → Shared → Prop} {others : List Addr} {filled : Option Addr} (S : SetI w a ks s.heap) (h : ∀ (es' : Array (Int × Value)) (ks' : List Int), Paired EntOf es'.toList ks' → ks'.Perm ks → Q es' s) :
    wpAny (model prog w) A (setWalkUnseen a others filled) Q E s := by
  obtain ⟨es, ep, t, e, K⟩ := id S
  unfold setWalkUnseen setsByText
  refine wpAny_bind (wpAny_setState_of e rfl K.tab.fits (wpAny_bind (wpAny_bind (wpAny_askSetting (wpAny_pure ?_)))))
  dsimp only
  rw [if_pos (by
    rcases K.led with z | z
    · have z' : (model prog w).w.params.followText "set-order" = true := z
      rw [z']; simp
    · rw [z, K.tab.plain]; simp)]
  exact walk_i S h
theorem epoch_i {Q : Nat → Shared → Prop} {es : Array (Int × Value)} {ep : Nat} {t : SetTable} {n : Nat} (e : s.heap.get? a = some (setObj es ep t)) (k : t.fits es.size = true) (h : Q ep s) : wpAny (model prog w) A (setEpoch a) Q E s :=
  wpAny_setEpoch_of e rfl k h
theorem find_i {k : Int} {u : Tok} {Q : Option Nat → Shared → Prop} (S : SetI w a ks s.heap) (h : ∀ r : Option Nat, r.isSome = decide (k ∈ ks) → Q r s) : wpAny (model prog w) A (setFind a (.int k u) (hashInt k)) Q E s :=
  wpAny_setFind_of (knd := intKind prog w) (k := k) (intKind_is _ _ _ _) rfl S.of h

theorem reord {es : Array (Int × Value)} {t' : SetTable} {od : Array Nat} {Q : Array (Int × Value) × SetTable → Shared → Prop} (p : od.toList.Perm (List.range es.size)) (h : Q (od.filterMap (es[·]?), t') s) :
    wpAny (model prog w) A (do
      let some (t, order) := some (t', od) | unsupported "internal:set-table-without-room"
      let es' := order.filterMap (es[·]?)
      if es'.size != es.size then unsupported "internal:set-table-lost-an-element"
      pure (es', t)) Q E s := by
  have sz : (od.filterMap (es[·]?)).size = es.size := by rw [← Array.length_toList, (picked p).length_eq, Array.length_toList]
  dsimp only
  rw [if_neg (by rw [sz]; simp)]
  exact wpAny_pure h
/-- a set just made -/
def Fresh (w : World) (r : Addr) (h : Heap) : Prop := ∃ ep led, h.get? r = some (setObj #[] ep (SetTable.fresh 0 0 led)) ∧ (w.params.followText "set-order" = true ∨ led = true)
theorem fresh_tok (led : Bool) : TOk (SetTable.fresh 0 0 led) 0 := ⟨rfl, List.Pairwise.nil, rfl, .inl rfl, by show 0 * 5 < 7 * 3; decide⟩
theorem Fresh.set {r : Addr} {h : Heap} (x : Fresh w r h) : SetI w r [] h := by
  obtain ⟨ep, led, e, l⟩ := x
  exact ⟨#[], ep, _, e, .nil, List.nodup_nil, by decide, fresh_tok led, l⟩

theorem merge_i {r : Addr} {each : Sem Unit} {Q : Unit → Shared → Prop} (F : Fresh w r s.heap) (S : SetI w a ks s.heap) (ne : r ≠ a)
    (h : ∀ h' ks', Heap.SameBut r s.heap h' → SetI w r ks' h' → ks'.Perm ks → Q () { s with heap := h' }) : wpAny (model prog w) A (setMerge r a each) Q E s := by
  obtain ⟨epr, led, er, lr⟩ := id F
  obtain ⟨es, ep, t, e, K⟩ := id S
  unfold setMerge
  rw [if_neg (by simpa using ne)]
  refine wpAny_bind (wpAny_setState_of e rfl K.tab.fits ?_)
  dsimp only
  by_cases hz : es.isEmpty = true
  · rw [if_pos hz]
    have hes : es = #[] := by simpa using hz
    subst hes
    have : ks = [] := by
      have := K.ent
      cases this
      rfl
    subst this
    exact wpAny_pure (h s.heap [] (Heap.SameBut.refl _ _) F.set (.refl _))
  · rw [if_neg hz]
    have hpos : 1 ≤ es.size := by
      have : es.size ≠ 0 := fun z => hz (by simpa using Array.size_eq_zero_iff.mp z)
      omega
    have sm := K.small
    -- the room
    have go : ∀ (h1 : Heap) (ep1 : Nat) (t1 : SetTable), Heap.SameBut r s.heap h1 → h1.get? r = some (setObj #[] ep1 t1) → t1.place = #[] → t1.dummies = #[] → t1.plain = true → t1.led = led → Good t1.mask → es.size * 5 < t1.mask * 3 →
        wpAny (model prog w) A (setState r >>= fun x => match x with
          | (_, _, ts) => match ts.road t with
            | .slotForSlot => storeSet r es { t with finger := ts.finger, led := ts.led && t.led, moves := ts.moves, plain := ts.plain && t.plain }
            | .clean => do
              let (es, t) ← (do
                let some (t, order) := (SetTable.laid ts.mask ts.finger ts.moves (led := ts.led && t.led) (plain := ts.plain && t.plain) (es.map (·.1))) | unsupported "internal:set-table-without-room"
                let es' := order.filterMap (es[·]?)
                if es'.size != es.size then unsupported "internal:set-table-lost-an-element"
                pure (es', t))
              storeSet r es t
            | .oneByOne => do
              for (h, x) in ← setWalkUnseen a [r] (some r) do
                let _ ← holding [x] (setAddHashed r x h)
                each
                if (← setState a).2.1 != ep then unsupported "set.changed-during-merge") Q E { s with heap := h1 } := by
      intro h1 ep1 t1 sb o1 p1 d1 pl1 l1 g1 rm
      have f1 : t1.fits (#[] : Array (Int × Value)).size = true := fits_iff.mpr ⟨by rw [p1]; rfl, by rw [p1, d1]; exact Nat.zero_le _⟩
      refine wpAny_bind (wpAny_setState_of (s := { s with heap := h1 }) o1 rfl f1 ?_)
      dsimp only
      have led2 : w.params.followText "set-order" = true ∨ (t1.led && t.led) = true := by
        rcases lr with z | z
        · exact .inl z
        · rcases K.led with y | y
          · exact .inl y
          · exact .inr (by rw [l1, z, y]; rfl)
      have hroad : t1.road t = .slotForSlot ∨ t1.road t = .clean := by
        unfold SetTable.road SetTable.fill
        rw [p1, d1]
        simp only [List.size_toArray, List.length_nil, Nat.add_zero, bne_self_eq_false, Bool.false_eq_true, if_false]
        split
        · exact .inl rfl
        · exact .inr rfl
      have hdm : t1.road t = .slotForSlot → t.dummies.isEmpty = true := fun z => by
        unfold SetTable.road at z
        split at z
        · cases z
        · split at z
          · rename_i q
            exact (Bool.and_eq_true_iff.mp q).2
          · cases z
      have up : ∀ h2, Heap.SameBut r h1 h2 → Heap.SameBut r s.heap h2 := fun h2 q => sb.trans q
      rcases hroad with z | z
      · have hd := hdm z
        rw [z]
        dsimp only
        refine store_i (s := { s with heap := h1 }) o1 (small_line sm) fun h2 sb2 o2 => ?_
        refine h h2 ks (up h2 sb2) ⟨es, _, _, o2, K.ent, K.nd, sm, ⟨K.tab.fits, K.tab.rise, ?_, K.tab.good, K.tab.room⟩, led2⟩ (.refl _)
        show (t1.plain && t.plain) = true
        rw [pl1, K.tab.plain]; rfl
      · rw [z]
        dsimp only
        have hmask : es.size ≤ t1.mask := by omega
        obtain ⟨t2, od, el, p⟩ := laid_some (fg := t1.finger) (mv := t1.moves) (led := t1.led && t.led) (pl := t1.plain && t.plain) (hs := es.map (·.1)) g1.cyc (by rw [Array.size_map]; exact hmask)
        obtain ⟨r1, r2, r3, r4, r5, r6⟩ := laid_rise el
        rw [el]
        rw [Array.size_map] at p
        have pk := picked p
        have sz : (od.filterMap (es[·]?)).size = es.size := by rw [← Array.length_toList, pk.length_eq, Array.length_toList]
        have ods : od.size = es.size := by rw [← Array.length_toList, p.length_eq, List.length_range]
        refine wpAny_bind (reord p ?_)
        dsimp only
        refine store_i (s := { s with heap := h1 }) o1 (by rw [sz]; exact small_line sm) fun h2 sb2 o2 => ?_
        obtain ⟨ks', q1, q2⟩ := paired_perm pk.symm K.ent
        refine h h2 ks' (up h2 sb2) ⟨_, _, _, o2, q2, q1.nodup_iff.mp K.nd, by rw [sz]; exact sm, ⟨fits_iff.mpr ⟨by rw [r6, sz, ods], ?_⟩, r1, ?_, by rw [r4]; exact g1, ?_⟩, by rw [r2]; exact led2⟩ q1.symm
        · rw [r6, r5, ods, r4]; exact hmask
        · rw [r3, pl1, K.tab.plain]; rfl
        · unfold SetTable.fill
          rw [r6, r5, ods, r4]
          exact rm
    unfold setRoomFor
    refine wpAny_bind (wpAny_bind (wpAny_setState_of er rfl (fresh_tok led).fits ?_))
    dsimp only
    by_cases hr : es.size * 5 ≥ 7 * 3
    · have e1 : (SetTable.fresh 0 0 led).roomFor es.size = some (es.size * 2) := by
        unfold SetTable.roomFor SetTable.fill SetTable.fresh
        dsimp only
        rw [if_pos (by simpa using hr)]
        simp
      rw [e1]
      dsimp only
      obtain ⟨g1, g2⟩ := good_above (n := es.size * 2) (by omega)
      obtain ⟨t2, od, el, p⟩ := laid_some (fg := 0) (mv := (SetTable.fresh 0 0 led).movedTo (SetTable.sizeAbove (es.size * 2) - 1)) (led := led) (pl := true) (hs := (#[] : Array (Int × Value)).map (·.1)) g1.cyc (by rw [Array.size_map]; exact Nat.zero_le _)
      obtain ⟨r1, r2, r3, r4, r5, r6⟩ := laid_rise el
      have el' : (SetTable.fresh 0 0 led).relaid ((#[] : Array (Int × Value)).map (·.1)) (es.size * 2) = some (t2, od) := el
      unfold setRelay
      refine wpAny_bind (wpAny_setState_of er rfl (fresh_tok led).fits ?_)
      dsimp only
      rw [if_neg (by
        have : SetTable.sizeAbove (es.size * 2) ≤ 512 := by rcases g1 with q | q | q | q | q | q | q <;> omega
        have e3 : (512 : Nat) ≤ sizeLine := by rw [sizeLine_eq]; decide
        omega), el']
      rw [Array.size_map] at p
      have pk := picked (es := #[]) p
      have sz : (od.filterMap ((#[] : Array (Int × Value))[·]?)).size = 0 := by rw [← Array.length_toList, pk.length_eq]; rfl
      have ods : od.size = 0 := by rw [← Array.length_toList, p.length_eq]; rfl
      refine wpAny_bind (reord (es := #[]) p ?_)
      dsimp only
      refine store_i er (by rw [sz]; exact Nat.zero_le _) fun h2 sb2 o2 => ?_
      have o3 : od.filterMap ((#[] : Array (Int × Value))[·]?) = #[] := Array.size_eq_zero_iff.mp sz
      rw [o3] at o2
      refine go h2 _ t2 sb2 o2 (Array.size_eq_zero_iff.mp (by rw [r6, ods])) r5 r3 r2 (by rw [r4]; exact g1) (by rw [r4]; omega)
    · have e1 : (SetTable.fresh 0 0 led).roomFor es.size = none := by
        unfold SetTable.roomFor SetTable.fill SetTable.fresh
        dsimp only
        rw [if_neg (by simpa using hr)]
      rw [e1]
      dsimp only
      refine wpAny_pure ?_
      exact go s.heap epr (SetTable.fresh 0 0 led) (Heap.SameBut.refl _ _) er rfl rfl rfl rfl (.inl rfl) (by show es.size * 5 < 7 * 3; omega)
end
end SX

namespace SX
open PySem PyProof.Rows
theorem entry_xor : entryFor table "set.__xor__" = some Builtin.«frozenset.__xor__» :=
  entryFor_alias (id' := "frozenset.__xor__") (by kernel_rfl) (by first | rfl | decide +kernel | (unfold String.splitOn; simp +decide [String.splitOnAux])) (by decide +kernel) (by kernel_rfl)
theorem entry_and : entryFor table "set.__and__" = some Builtin.«frozenset.__and__» :=
  entryFor_alias (id' := "frozenset.__and__") (by kernel_rfl) (by first | rfl | decide +kernel | (unfold String.splitOn; simp +decide [String.splitOnAux])) (by decide +kernel) (by kernel_rfl)
section
variable {prog : Program} {w : World} {A : Around} {E : Value → Shared → Prop} {s : Shared} {a b : Addr} {ka kb : List Int}
theorem new_i {Q : Value → Shared → Prop} (h : ∀ h', Fresh w s.heap.objs.size h' → (∀ c o, s.heap.get? c = some o → h'.get? c = some o) → Q (.ref s.heap.objs.size) { s with heap := h' }) : wpAny (model prog w) A (newSet (.type "set")) Q E s := by
  unfold newSet setsByText
  refine wpAny_bind (wpAny_bind (wpAny_askSetting (wpAny_pure ?_)))
  dsimp only
  simp only [newObj]
  refine wpAny_bind (wpAny_alloc (wpAny_pure (h _ ⟨0, _, Heap.get?_push_size _ rfl, ?_⟩ fun c o e => Heap.get?_push_of_some _ e)))
  cases q : w.params.followText "set-order" with
  | true => exact .inl rfl
  | false => exact .inr (by show (!(w.params.followText "set-order")) = true; rw [q]; rfl)
theorem anySet_i {Q : Bool → Shared → Prop} (S : SetI w a ka s.heap) (h : Q true s) : wpAny (model prog w) A (Builtin.Frozenset.isAnySet (.ref a)) Q E s := by
  unfold Builtin.Frozenset.isAnySet
  refine wpAny_bind (wpAny_isInstance S.typeIs sub_set_self (wpAny_pure ?_))
  exact h
theorem same_perm {ks ks' : List Int} (p : ks'.Perm ks) {k : Int} : k ∈ ks' ↔ k ∈ ks := p.mem_iff

/-- a set's twin, just made -/
theorem newFrom_i {id : String} {Q : Value → Shared → Prop} (S : SetI w a ka s.heap)
    (h : ∀ h' ks', SetI w s.heap.objs.size ks' h' → ks'.Perm ka → (∀ c o, s.heap.get? c = some o → h'.get? c = some o) → Q (.ref s.heap.objs.size) { s with heap := h' }) :
    wpAny (model prog w) A (Builtin.Frozenset.newFrom id (.type "set") (.ref a)) Q E s := by
  unfold Builtin.Frozenset.newFrom
  refine wpAny_bind (new_i fun h1 F1 k1 => ?_)
  have S1 : SetI w a ka h1 := S.keep fun o e => k1 a o e
  have ne : s.heap.objs.size ≠ a := Nat.ne_of_gt S.lt
  refine wpAny_bind (wpAny_pure (wpAny_bind (wpAny_holding ?_)))
  unfold Builtin.Frozenset.updateFrom
  refine wpAny_bind (anySet_i (s := { s with heap := h1 }) S1 ?_)
  rw [if_pos rfl]
  refine wpAny_bind (wpAny_pure ?_)
  unfold Builtin.Frozenset.merge
  have S1' := S1
  obtain ⟨es, ep, t, e, K⟩ := S1'
  refine wpAny_bind (epoch_i (n := 0) (s := { s with heap := h1 }) e K.tab.fits ?_)
  refine merge_i (s := { s with heap := h1 }) F1 S1 ne fun h2 ks' sb S2 p => ?_
  exact wpAny_pure (h h2 ks' S2 p fun c o q => sb.extBut c o (Nat.ne_of_lt (Heap.lt_size q)) (k1 c o q))

theorem xor_i {Q : Value → Shared → Prop} (Sa : SetI w a ka s.heap) (Sb : SetI w b kb s.heap) (hl : ka.length + kb.length ≤ 126)
    (h : ∀ h' ks, SetI w s.heap.objs.size ks h' → (∀ k, k ∈ ks ↔ ((k ∈ kb ∧ k ∉ ka) ∨ (k ∉ kb ∧ k ∈ ka))) → (∀ c o, s.heap.get? c = some o → h'.get? c = some o) → Q (.ref s.heap.objs.size) { s with heap := h' }) :
    wpAny (model prog w) A (binaryOp .BitXor (.ref a) (.ref b)) Q E s := by
  refine wpAny_binaryOp_same (op := .BitXor) (T := "set") Sa.typeIs Sb.typeIs F.fills_set_xor F.slot_set_xor ?_
  refine wpAny_call_entry F.slot_set_xor Sa.typeIs entry_xor ?_ (F.args_set_xor_2 _ _)
  show wpAny _ _ (Builtin.Frozenset.slot1 "__xor__" ⟨[.ref a, .ref b], []⟩ >>= _) _ _ _
  refine wpAny_bind (wpAny_bind (wpAny_pure (wpAny_pure ?_)))
  dsimp only
  rw [if_neg Bool.false_ne_true]
  dsimp only
  refine wpAny_bind (wpAny_bind (anySet_i Sa (anySet_i Sb ?_)))
  rw [if_neg (by simp)]
  refine wpAny_bind (wpAny_pure (wpAny_bind ?_))
  wp_delta
  unfold Builtin.Frozenset.baseOf
  refine wpAny_bind (wpAny_bind (wpAny_isInstance Sa.typeIs sub_set_self (wpAny_pure ?_)))
  rw [if_pos rfl]
  refine wpAny_bind (newFrom_i Sb fun h1 ks1 S1 p1 k1 => ?_)
  have Sa1 : SetI w a ka h1 := Sa.keep fun o e => k1 a o e
  have ne : s.heap.objs.size ≠ a := Nat.ne_of_gt Sa.lt
  refine wpAny_bind (wpAny_pure (wpAny_bind (wpAny_holding ?_)))
  unfold Builtin.Frozenset.symmetricDifferenceUpdate
  rw [if_neg (by simpa using Ne.symm ne)]
  dsimp only
  refine wpAny_bind (wpAny_typeOf (s := { s with heap := h1 }) (SetI.typeIs (s := { s with heap := h1 }) Sa1) ?_)
  rw [if_neg (by decide)]
  refine wpAny_bind (anySet_i (s := { s with heap := h1 }) Sa1 ?_)
  rw [if_pos rfl]
  refine wpAny_bind (wpAny_pure (wpAny_bind (wpAny_pure ?_)))
  have Sa1' := Sa1
  obtain ⟨es, ep, t, e, K⟩ := Sa1'
  refine wpAny_bind (epoch_i (n := 0) (s := { s with heap := h1 }) e K.tab.fits ?_)
  refine wpAny_holding (wpAny_bind (unseen_i (s := { s with heap := h1 }) Sa1 fun es' ks' P' p' => ?_))
  have nd' : ks'.Nodup := p'.nodup_iff.mpr Sa.nodup
  have len' := p'.length_eq
  have len1 := p1.length_eq
  refine wpAny_bind (wpAny_forIn_array' _ (fun rest _ s2 => ∃ dn kr h2 k2, ks' = dn ++ kr ∧ Paired EntOf rest kr ∧ s2 = { s with heap := h2 } ∧ Heap.SameBut s.heap.objs.size h1 h2 ∧ SetI w s.heap.objs.size k2 h2 ∧ k2.length ≤ ks1.length + dn.length ∧
      ∀ k, k ∈ k2 ↔ ((k ∈ ks1 ∧ k ∉ dn) ∨ (k ∉ ks1 ∧ k ∈ dn))) _ ?turn ?fin es' _ ⟨[], ks', h1, ks1, rfl, P', rfl, Heap.SameBut.refl _ _, S1, Nat.le_refl _, fun k => by simp⟩)
  case fin =>
    rintro _ s2 ⟨dn, kr, h2, k2, e0, P, rfl, sb, S2, _, m⟩
    cases P
    rw [List.append_nil] at e0
    subst e0
    refine wpAny_pure (wpAny_pure (wpAny_pure ⟨_, rfl, by simp, ?_⟩))
    refine h h2 k2 S2 (fun k => ?_) fun c o q => sb.extBut c o (Nat.ne_of_lt (Heap.lt_size q)) (k1 c o q)
    rw [m k, p1.mem_iff, p'.mem_iff]
  case turn =>
    rintro x rest _ s2 ⟨dn, kr, h2, k2, e0, P, rfl, sb, S2, l2, m⟩
    cases P with
    | cons hx hr =>
      rename_i k kr
      obtain ⟨hx1, u, hx2⟩ := hx
      rw [hx1, hx2]
      have nd2 := nd'
      rw [e0] at nd2
      have hkd : k ∉ dn := fun q => by
        have := (List.nodup_append.mp nd2).2.2 k q k List.mem_cons_self
        exact this rfl
      have lenk : dn.length + (kr.length + 1) = ks'.length := by rw [e0, List.length_append, List.length_cons]
      have ea : ∀ h3, Heap.SameBut s.heap.objs.size h2 h3 → h3.get? a = some (setObj es ep t) := fun h3 q => q.extBut a _ (Ne.symm ne) (sb.extBut a _ (Ne.symm ne) e)
      have rest' : ∀ (R : ForInStep PUnit → Shared → Prop) h3 k3, Heap.SameBut s.heap.objs.size h2 h3 → SetI w s.heap.objs.size k3 h3 → k3.length ≤ k2.length + 1 → (∀ j, j ∈ k3 ↔ ((j ∈ k2 ∧ j ≠ k) ∨ (j ∉ k2 ∧ j = k))) →
          (∀ s' : Shared, (∃ dn kr h2 k2, ks' = dn ++ kr ∧ Paired EntOf rest kr ∧ s' = { s with heap := h2 } ∧ Heap.SameBut s.heap.objs.size h1 h2 ∧ SetI w s.heap.objs.size k2 h2 ∧ k2.length ≤ ks1.length + dn.length ∧ ∀ k, k ∈ k2 ↔ ((k ∈ ks1 ∧ k ∉ dn) ∨ (k ∉ ks1 ∧ k ∈ dn))) → R (.yield ⟨⟩) s') →
          wpAny (model prog w) A.in1 (Builtin.Frozenset.unchanged (toString "frozenset." ++ toString "__xor__") a ep >>= fun _ => pure (ForInStep.yield PUnit.unit)) R E { s with heap := h3 } := by
        intro R h3 k3 sb3 S3 l3 m3 fin
        unfold Builtin.Frozenset.unchanged
        refine wpAny_bind (wpAny_bind (epoch_i (n := 0) (s := { s with heap := h3 }) (ea h3 sb3) K.tab.fits ?_))
        rw [if_neg (by simp)]
        refine wpAny_pure (wpAny_pure (fin _ ⟨dn ++ [k], kr, h3, k3, by rw [e0]; simp, hr, rfl, sb.trans sb3, S3, by rw [List.length_append]; simp; omega, fun j => ?_⟩))
        rw [m3 j, m j, List.mem_append, List.mem_singleton]
        by_cases q2 : j = k
        · subst q2
          by_cases q1 : j ∈ ks1 <;> simp [q1, hkd]
        · by_cases q1 : j ∈ ks1 <;> by_cases q3 : j ∈ dn <;> simp [q1, q2, q3]
      refine wpAny_bind (wpAny_holding (wpAny_bind ?_))
      refine discard_i (s := { s with heap := h2 }) S2 fun h3 k3 sb3 S3 p3 => ?_
      by_cases hin : k ∈ k2
      · rw [decide_eq_true hin, if_neg (by simp)]
        rw [if_pos hin] at p3
        have nd3 := p3.nodup_iff.mp S2.nodup
        refine wpAny_pure (rest' _ h3 k3 sb3 S3 (by have := p3.length_eq; rw [List.length_cons] at this; omega) (fun j => ?_) fun _ z => z)
        have q := p3.mem_iff (a := j)
        rw [List.mem_cons] at q
        rw [q]
        have hk1 := (List.nodup_cons.mp nd3).1
        by_cases q2 : j = k
        · subst q2; simp [hk1]
        · simp [q2]
      · rw [decide_eq_false hin, if_pos (by simp)]
        rw [if_neg hin] at p3
        subst p3
        refine wpAny_bind (add_i (s := { s with heap := h3 }) S3 (by omega) fun h4 k4 sb4 S4 p4 => ?_)
        rw [if_neg hin] at p4
        refine wpAny_pure (rest' _ h4 k4 (sb3.trans sb4) S4 (by have := p4.length_eq; rw [List.length_cons] at this; omega) (fun j => ?_) fun _ z => z)
        rw [p4.mem_iff, List.mem_cons]
        by_cases q2 : j = k
        · subst q2; simp [hin]
        · simp [q2]
end
end SX

namespace SX
open PySem PyProof.Rows
section
variable {prog : Program} {w : World} {A : Around} {E : Value → Shared → Prop} {R : Result → Shared → Prop} {I : Addr} {fp wr : List Addr} {G : Array GenState → Array GenState → Prop} {n : Nat} {P : Nat → Value → Prop} {St : Nat → Shared → Prop}
/-- the filling of a set from what is walked -/
theorem loop_i (W : WalksS prog w A.in1 I fp wr G n P St) (r : Addr) (hr : r ∉ fp) (val : Nat → Int) (hval : ∀ i v, P i v → ∃ t, v = .int (val i) t) (hb : n ≤ 126) :
    ∀ (m i : Nat) (s : Shared) (ks : List Int), i + m = n → St i s → SetI w r ks s.heap → (∀ k, k ∈ ks ↔ ∃ j, j < i ∧ val j = k) → ks.length ≤ i →
      (∀ s' ks', Moved (r :: wr) G s s' → SetI w r ks' s'.heap → (∀ k, k ∈ ks' ↔ ∃ j, j < n ∧ val j = k) → R (.ok (.ret .none)) s') →
      codeAny (model prog w) A (.builtin "set.update.loop" ⟨[.ref r, .ref I], []⟩) R s := by
  have nw : r ∉ wr := fun q => hr (W.sub _ q)
  have sub : ∀ c ∈ wr, c ∈ r :: wr := fun c hc => List.mem_cons_of_mem _ hc
  intro m
  induction m with
  | zero =>
    intro i s ks hi st S mem hl fin
    obtain rfl : i = n := by omega
    refine codeAny_builtin F.entry_set_update_loop ?_
    rw [Around.under_plainId F.plain_set_update_loop _]
    refine wpAny_bind (W.done s _ _ st fun s' mv => ?_)
    exact wpAny_pure (fin s' ks (mv.mono sub) (S.keep fun o e => mv.heap r o nw e) mem)
  | succ m ih =>
    intro i s ks hi st S mem hl fin
    refine codeAny_builtin F.entry_set_update_loop ?_
    rw [Around.under_plainId F.plain_set_update_loop _]
    refine wpAny_bind (W.item i s _ _ (by omega) st fun v s1 hP st1 mv => ?_)
    obtain ⟨u, rfl⟩ := hval i v hP
    have S1 : SetI w r ks s1.heap := S.keep fun o e => mv.heap r o nw e
    refine wpAny_bind (wpAny_holding (add_v S1 (by omega) fun h2 ks2 tk sb S2 p htk => ?_))
    have l2 : ks2.length ≤ i + 1 := by
      have := p.length_eq
      split at this
      · omega
      · rw [List.length_cons] at this; omega
    refine wpAny_pure ⟨plainId_quiet F.plain_set_update_loop _, ih (i + 1) _ ks2 (by omega) (W.frame _ s1 _ _ st1 htk fun c hc o e => ?_) S2 (fun k => ?_) l2 fun s3 ks3 mv3 S3 m3 => ?_⟩
    · rw [sb.2 c (fun z : c = r => hr (by rw [← z]; exact hc))]; exact e
    · rw [p.mem_iff]
      have q : (k ∈ if val i ∈ ks then ks else val i :: ks) ↔ (k = val i ∨ k ∈ ks) := by
        split
        · rename_i z
          constructor
          · exact .inr
          · rintro (y | y)
            · rw [y]; exact z
            · exact y
        · exact List.mem_cons
      rw [q, mem k]
      constructor
      · rintro (z | ⟨j, hj, e⟩)
        · exact ⟨i, by omega, z.symm⟩
        · exact ⟨j, by omega, e⟩
      · rintro ⟨j, hj, e⟩
        by_cases hji : j = i
        · subst hji; exact .inl e.symm
        · exact .inr ⟨j, by omega, e⟩
    · refine fin s3 ks3 (Moved.trans W.gtrans ((mv.mono sub).then_heap htk fun c o hc e => ?_) mv3) S3 m3
      rw [sb.2 c (fun z : c = r => hc (by rw [z]; exact List.mem_cons_self))]; exact e
end
section
variable {prog : Program} {w : World} {A : Around} {E : Value → Shared → Prop} {s : Shared}
theorem set_new_i (x : Value) {Q : Value → Shared → Prop} (h : ∀ h', Fresh w s.heap.objs.size h' → (∀ c o, s.heap.get? c = some o → h'.get? c = some o) → Q (.ref s.heap.objs.size) { s with heap := h' }) :
    codeAny (model prog w) A (.call (.builtin "set.__new__") ⟨[.type "set", x], []⟩) (wants Q E) s := by
  refine codeAny_of_tree ?_
  refine wpAny_bind (wpAny_of_eq (F.newCall_set_1 x) (wpAny_pure ⟨plainId_quiet F.plain_set_new _, codeAny_builtin F.entry_set_new ?_⟩))
  rw [Around.under_plainId F.plain_set_new _]
  unfold Builtin.«set.__new__» Builtin.Frozenset.newClass
  have q1 := sub_set_self
  obtain ⟨hp, gs, dr, tk, os⟩ := s
  dsimp only
  generalize hN : newSet = NS
  wp_walk
  subst hN
  refine new_i fun h' F' k' => ?_
  exact wpAny_pure (h h' F' k')
set_option maxHeartbeats 3200000 in
theorem call_set_i {l : Addr} {its : Array Value} {ns : List Int} {Q : Value → Shared → Prop} (hh : A.handled = none) (hl : s.heap.IsList l its) (hi : IntsAre its.toList ns) (hb : its.size ≤ 126)
    (h : ∀ h' tk ks, SetI w s.heap.objs.size ks h' → (∀ k, k ∈ ks ↔ k ∈ ns) → (∀ c o, s.heap.get? c = some o → h'.get? c = some o) → Q (.ref s.heap.objs.size) { s with heap := h', toks := tk }) :
    wpAny (model prog w) A (call (.type "set") [.ref l]) Q E s := by
  obtain ⟨c0, tl, hmro⟩ := F.called_set.mro
  have hmade := F.called_set.made
  have hsub := F.called_set.sub
  refine wpAny_call (codeAny_of_tree ?_)
  refine wpAny_pure ⟨Code.quiet_builtin _ (by decide +kernel), codeAny_builtin F.entry_type_call ?_⟩
  rw [Around.under_plain (weight_type_call_type "set" [.ref l] []) rfl]
  have hn1 := F.called_set.notType
  have hn2 := F.called_set.canCreate
  have hct := F.typeCall_set_1 (.ref l)
  repeat (any_goals (first | assumption | wp_step))
  refine codeAny_mono (set_new_i (.ref l) (E := E) (Q := fun obj s₁ => obj = .ref s.heap.objs.size ∧ ∃ h1, s₁ = { s with heap := h1 } ∧ Fresh w s.heap.objs.size h1 ∧ ∀ c o, s.heap.get? c = some o → h1.get? c = some o) fun h1 F1 k1 => ⟨rfl, h1, rfl, F1, k1⟩) fun r1 s1 hr1 => ?_
  cases r1 with
  | error e => exact hr1
  | ok f1 =>
    cases f1 with
    | ret obj =>
      obtain ⟨rfl, h1, rfl, F1, k1⟩ := hr1
      have S1 : SetI w s.heap.objs.size [] h1 := F1.set
      have hT : Shared.TypeIs { s with heap := h1 } (.ref s.heap.objs.size) "set" := SetI.typeIs (s := { s with heap := h1 }) S1
      have hli := F.called_set.init.lookup
      have hbi := F.called_set.init.bind (.ref s.heap.objs.size)
      repeat (any_goals (first | assumption | wp_step))
      refine codeAny_mono (codeAny_call_builtin (R := wants (fun r s₂ => r = .none ∧ ∃ h' tk ks, s₂ = { s with heap := h', toks := tk } ∧ SetI w s.heap.objs.size ks h' ∧ (∀ k, k ∈ ks ↔ k ∈ ns) ∧ ∀ c o, s.heap.get? c = some o → h'.get? c = some o) E) F.called_set.init.plain F.entry_set_init (check_set_init_1 hT ?_)) fun r2 s2 hr2 => ?_
      · obtain ⟨ol, hol, hcl, nl, hdl⟩ := id hl
        have hl1 : h1.IsList l its := ⟨ol, k1 l ol hol, hcl, nl, hdl⟩
        have hTl : Shared.TypeIs { s with heap := h1 } (.ref l) "list" := hl1.typeIs
        have q1 := F.sub_list_set
        have q2 := F.sub_list_frozenset
        have q3 : (Value.type "list" == Value.type "dict") = false := by decide
        obtain ⟨ep0, led0, e1, l1⟩ := id F1
        unfold Builtin.«set.__init__» noKeywords Builtin.Frozenset.updateFrom
        generalize hPI : pyIter = PI
        wp_walk
        subst hPI
        refine wpAny_pyIter_list hl1 (wpAny_bind (wpAny_runValue ?_))
        have lt1 : l < h1.objs.size := Heap.lt_size (k1 l ol hol)
        have rlt : s.heap.objs.size < h1.objs.size := S1.lt
        have hh3 : A.in1.in1.in1.handled = none := by simp [hh]
        have nr : s.heap.objs.size ∉ [h1.objs.size, l] := by
          simp only [List.mem_cons, List.not_mem_nil, or_false, not_or]
          exact ⟨Nat.ne_of_lt rlt, Nat.ne_of_gt (Heap.lt_size hol)⟩
        have hval : ∀ (i : Nat) (v : Value), its[i]? = some v → ∃ t, v = .int ((fun i => ns.getD i 0) i) t := fun i v hv => IntsAre.int_at hi i v (by rw [Array.getElem?_toList]; exact hv)
        have push1 : ∀ c o, h1.get? c = some o → (h1.push { cls := .type "list_iterator", data := .fields #[.ref l, .int 0 0] }).get? c = some o := fun c o e => Heap.get?_push_of_some _ e
        have hlen := IntsAre.length hi
        rw [Array.length_toList] at hlen
        refine loop_i ((Walks.list hh3 _ l (Nat.ne_of_lt lt1) its).toS) s.heap.objs.size nr (fun i => ns.getD i 0) hval hb its.size 0 _ [] (by omega) ⟨⟨_, Heap.get?_push_size _ rfl, rfl, rfl⟩, hl1.push _⟩ (S1.keep fun o e => push1 _ o e) (fun k => by simp) (Nat.zero_le _) fun s2 ks2 mv S2 m2 => ?_
        obtain ⟨h2, g2, d2, tk2, os2⟩ := s2
        have eg : g2 = s.gens := mv.gens
        have ed : d2 = s.drawn := mv.drawn
        have eo : os2 = s.os := mv.os
        subst eg ed eo
        refine wpAny_pure (wpAny_pure ⟨rfl, h2, tk2, ks2, rfl, S2, fun k => ?_, fun c o e => ?_⟩)
        · rw [m2 k]
          constructor
          · rintro ⟨j, hj, e⟩
            rw [← e]
            have : j < ns.length := by omega
            simp [List.getD_eq_getElem?_getD, this]
          · intro hk
            obtain ⟨j, hj⟩ := List.getElem?_of_mem hk
            refine ⟨j, by have := (List.getElem?_eq_some_iff.mp hj).1; omega, ?_⟩
            simp [List.getD_eq_getElem?_getD, hj]
        · refine mv.heap c o ?_ (push1 c o (k1 c o e))
          simp only [List.mem_cons, List.not_mem_nil, or_false, not_or]
          exact ⟨Nat.ne_of_lt (Heap.lt_size e), Nat.ne_of_lt (Heap.lt_size (k1 c o e))⟩
      · cases r2 with
        | error e => exact hr2
        | ok f2 =>
          cases f2 with
          | ret r =>
            obtain ⟨rfl, h', tk, ks, rfl, S', m', k'⟩ := hr2
            repeat (any_goals (first | assumption | wp_step))
            exact h _ _ ks S' m' k'
          | _ => exact hr2.elim
    | _ => exact hr1.elim
end
end SX

namespace SX
open PySem PyProof.Rows
/-! a set is walked by its iterator -/
theorem slot_si_next : Slot "set_iterator" "__next__" "set_iterator.__next__" :=
  .of (owner := "set_iterator") (n := "__next__") (by rw [typeLookup_type, builtinLookup_eq_fast]; kernel_rfl) (by decide +kernel) (by decide +kernel) (by decide +kernel) (by first | exact .inl (by decide +kernel) | exact .inr (by decide +kernel)) (by rw [isSubtype_type]; kernel_rfl)
theorem own_si : Manifest.owners.lookup (String.ofList ['r', 'o', 't', 'a', 'r', 'e', 't', 'i', '_', 't', 'e', 's'].reverse) = some Manifest.sig_set_iterator := by kernel_rfl
theorem args_si_next (a : Value) : argsOk "set_iterator.__next__" ⟨[a], []⟩ := by
  unfold argsOk; rw [signature?_of (id := "set_iterator.__next__") (n := ['_', '_', 't', 'x', 'e', 'n', '_', '_']) (o := ['r', 'o', 't', 'a', 'r', 'e', 't', 'i', '_', 't', 'e', 's']) (by kernel_rfl) own_si]; kernel_rfl
theorem entry_si_next : entryFor table "set_iterator.__next__" = some Builtin.«set_iterator.__next__» := entryFor_of_tree (by kernel_rfl)
theorem slot_si_iter : Slot "set_iterator" "__iter__" "set_iterator.__iter__" :=
  .of (owner := "set_iterator") (n := "__iter__") (by rw [typeLookup_type, builtinLookup_eq_fast]; kernel_rfl) (by decide +kernel) (by decide +kernel) (by decide +kernel) (by first | exact .inl (by decide +kernel) | exact .inr (by decide +kernel)) (by rw [isSubtype_type]; kernel_rfl)
theorem args_si_iter (a : Value) : argsOk "set_iterator.__iter__" ⟨[a], []⟩ := by
  unfold argsOk; rw [signature?_of (id := "set_iterator.__iter__") (n := ['_', '_', 'r', 'e', 't', 'i', '_', '_']) (o := ['r', 'o', 't', 'a', 'r', 'e', 't', 'i', '_', 't', 'e', 's']) (by kernel_rfl) own_si]; kernel_rfl
theorem entry_si_iter : entryFor table "set_iterator.__iter__" = some Builtin.«dict_keyiterator.__iter__» :=
  entryFor_alias (id' := "dict_keyiterator.__iter__") (by kernel_rfl) (by first | rfl | decide +kernel | (unfold String.splitOn; simp +decide [String.splitOnAux])) (by decide +kernel) (by kernel_rfl)
theorem entry_set_iter : entryFor table "set.__iter__" = some Builtin.«frozenset.__iter__» :=
  entryFor_alias (id' := "frozenset.__iter__") (by kernel_rfl) (by first | rfl | decide +kernel | (unfold String.splitOn; simp +decide [String.splitOnAux])) (by decide +kernel) (by kernel_rfl)
abbrev siObj (slot i n ep : Nat) (a : Addr) : Obj := { cls := .type "set_iterator", dict := none, data := .fields #[rawInt slot, rawInt i, .ref a, rawInt n, rawInt ep], slots := #[] }
/-- the order of the walk -/
def wOrd (w : World) (a : Addr) (es : Array (Int × Value)) (ep : Nat) : Array (Int × Value) := if w.params.followText "set-order" = true then pickOrder (w.params.setOrder a ep) es else es
theorem wOrd_perm (w : World) (a : Addr) (es : Array (Int × Value)) (ep : Nat) : (wOrd w a es ep).toList.Perm es.toList := by
  unfold wOrd
  split
  · exact pick_perm _ es
  · exact .refl _
def SIt (w : World) (it a : Addr) (es : Array (Int × Value)) (ep : Nat) (t : SetTable) (i : Nat) (h : Heap) : Prop :=
  ∃ slot, (w.params.followText "set-order" = false → SetTable.below t.place slot = i) ∧ h.get? it = some (siObj slot i es.size ep a) ∧ h.get? a = some (setObj es ep t)
section
variable {prog : Program} {w : World} {A : Around} {E : Value → Shared → Prop} {s : Shared} {a it : Addr} {ks : List Int} {es : Array (Int × Value)} {ep : Nat} {t : SetTable}
theorem fields_i {b : Addr} {vs : Array Value} {cls : Value} {Q : Array Value → Shared → Prop} (e : s.heap.get? b = some { cls := cls, dict := none, data := .fields vs, slots := #[] }) (h : Q vs s) : wpAny (model prog w) A (fieldsOf (.ref b)) Q E s := by
  unfold fieldsOf
  exact wpAny_bind (wpAny_load e (wpAny_pure h))
theorem next_some {slot i : Nat} {x : Int × Value} {Q : Option (Value × Nat) → Shared → Prop} (e : s.heap.get? a = some (setObj es ep t)) (K : SOk w es t ks) (hs : w.params.followText "set-order" = false → SetTable.below t.place slot = i)
    (hx : (wOrd w a es ep)[i]? = some x) (h : ∀ sl, (w.params.followText "set-order" = false → SetTable.below t.place sl = i + 1) → Q (some (x.2, sl)) s) : wpAny (model prog w) A (setNext a slot i ep) Q E s := by
  have hf := fits_iff.mp K.tab.fits
  unfold setNext setsByText
  refine wpAny_bind (wpAny_setState_of e rfl K.tab.fits (wpAny_bind (wpAny_bind (wpAny_askSetting (wpAny_pure ?_)))))
  dsimp only
  unfold wOrd at hx
  split
  · rename_i hb
    have hb' : w.params.followText "set-order" = true := hb
    rw [if_pos hb'] at hx
    rw [if_neg (by simp)]
    unfold setWalk setsByText
    refine wpAny_bind (wpAny_bind (wpAny_setState_of e rfl K.tab.fits (wpAny_bind (wpAny_bind (wpAny_askSetting (wpAny_pure ?_))))))
    dsimp only
    rw [if_pos hb]
    refine wpAny_bind (wpAny_askSetting (wpAny_pure (wpAny_pure ?_)))
    dsimp only
    rw [show (model prog w).w = w from rfl, hx]
    exact h slot fun z => by rw [hb'] at z; cases z
  · rename_i hb
    have hb' : w.params.followText "set-order" = false := Bool.eq_false_iff.mpr hb
    rw [if_neg (by rw [hb']; simp)] at hx
    rw [if_neg (by show ¬ ((!t.plain && decide (es.size > 1)) = true); rw [K.tab.plain]; simp)]
    have hl : t.led = true := by
      rcases K.led with z | z
      · rw [hb'] at z; cases z
      · exact z
    refine wpAny_bind (show wpAny _ A (if (!t.led && !es.isEmpty) = true then unsupported "set:maker-not-led" else pure ()) _ _ _ from ?_)
    rw [hl, if_neg (by simp)]
    have hi := (Array.getElem?_eq_some_iff.mp hx).1
    rw [hs hb', hx]
    have hp : t.place[i]? = some t.place[i]! := by rw [Array.getElem?_eq_getElem (by omega), getElem!_pos]
    rw [hp]
    refine wpAny_pure (wpAny_pure (h _ fun _ => ?_))
    exact below_next K.tab.rise (by rw [Array.getElem?_toList]; exact hp)
theorem next_none {slot : Nat} {Q : Option (Value × Nat) → Shared → Prop} (e : s.heap.get? a = some (setObj es ep t)) (K : SOk w es t ks) (hs : w.params.followText "set-order" = false → SetTable.below t.place slot = es.size) (h : Q none s) : wpAny (model prog w) A (setNext a slot es.size ep) Q E s := by
  unfold setNext setsByText
  refine wpAny_bind (wpAny_setState_of e rfl K.tab.fits (wpAny_bind (wpAny_bind (wpAny_askSetting (wpAny_pure ?_)))))
  dsimp only
  split
  · rename_i hb
    rw [if_neg (by simp)]
    unfold setWalk setsByText
    refine wpAny_bind (wpAny_bind (wpAny_setState_of e rfl K.tab.fits (wpAny_bind (wpAny_bind (wpAny_askSetting (wpAny_pure ?_))))))
    dsimp only
    rw [if_pos hb]
    refine wpAny_bind (wpAny_askSetting (wpAny_pure (wpAny_pure ?_)))
    dsimp only
    have : (pickOrder ((model prog w).w.params.setOrder a ep) es)[es.size]? = none := by
      rw [Array.getElem?_eq_none_iff, ← Array.length_toList, (pick_perm _ es).length_eq, Array.length_toList]
      exact Nat.le_refl _
    rw [this]
    exact h
  · rename_i hb
    have hb' : w.params.followText "set-order" = false := Bool.eq_false_iff.mpr hb
    rw [if_neg (by show ¬ ((!t.plain && decide (es.size > 1)) = true); rw [K.tab.plain]; simp)]
    have hl : t.led = true := by
      rcases K.led with z | z
      · rw [hb'] at z; cases z
      · exact z
    refine wpAny_bind (show wpAny _ A (if (!t.led && !es.isEmpty) = true then unsupported "set:maker-not-led" else pure ()) _ _ _ from ?_)
    rw [hl, if_neg (by simp), hs hb']
    rw [show es[es.size]? = none from by simp]
    exact wpAny_pure (wpAny_pure h)

theorem walks_set (hh : A.handled = none) (K : SOk w es t ks) (ne : a ≠ it) : Walks prog w A it [it, a] [it] es.size (fun i v => ∃ x, (wOrd w a es ep)[i]? = some x ∧ v = x.2) (SIt w it a es ep t) where
  sub := fun b hb => by simp at hb; simp [hb]
  frame := fun i h h' ⟨sl, z, e1, e2⟩ k => ⟨sl, z, k it (by simp) _ e1, k a (by simp) _ e2⟩
  item := by
    rintro i s Q E hi ⟨sl, z, e1, e2⟩ hQ
    have hT : s.TypeIs (.ref it) "set_iterator" := ⟨_, e1, rfl⟩
    unfold pyNext
    refine wpAny_bind (wpAny_attempt (wpAny_callSpecial?_slot (name := Str.ofString "__next__") hT slot_si_next (wpAny_call_entry slot_si_next hT entry_si_next ?_ (args_si_next _))))
    unfold Builtin.«set_iterator.__next__»
    refine wpAny_bind (wpAny_pure (wpAny_bind (fields_i e1 ?_)))
    dsimp only
    refine wpAny_bind (wpAny_setEntries_of e2 rfl K.tab.fits ?_)
    rw [if_neg (by simp)]
    obtain ⟨x, hx⟩ : ∃ x, (wOrd w a es ep)[i]? = some x := by
      have hl : i < (wOrd w a es ep).size := by rw [← Array.length_toList, (wOrd_perm w a es ep).length_eq, Array.length_toList]; exact hi
      exact ⟨_, Array.getElem?_eq_getElem hl⟩
    simp only [Int.toNat_natCast]
    refine wpAny_bind (next_some e2 K z hx fun sl' z' => ?_)
    dsimp only
    refine wpAny_bind (wpAny_setField_rec e1 (by simp) fun h1 o1 sb1 => wpAny_bind (wpAny_setField_rec (s := { s with heap := h1 }) o1 (by simp) fun h2 o2 sb2 => wpAny_pure ⟨_, rfl, wpAny_pure ?_⟩))
    have sb := sb1.trans sb2
    exact hQ _ h2 _ ⟨x, hx, rfl⟩ ⟨sl', z', o2, sb.extBut a _ ne e2⟩ fun b o hb q => sb.extBut b o (by simpa using hb) q
  done := by
    rintro s Q E ⟨sl, z, e1, e2⟩ hQ
    have hT : s.TypeIs (.ref it) "set_iterator" := ⟨_, e1, rfl⟩
    unfold pyNext
    refine wpAny_bind (wpAny_attempt (wpAny_callSpecial?_slot (name := Str.ofString "__next__") hT slot_si_next (wpAny_call_entry slot_si_next hT entry_si_next ?_ (args_si_next _))))
    unfold Builtin.«set_iterator.__next__»
    refine wpAny_bind (wpAny_pure (wpAny_bind (fields_i e1 ?_)))
    dsimp only
    refine wpAny_bind (wpAny_setEntries_of e2 rfl K.tab.fits ?_)
    rw [if_neg (by simp)]
    simp only [Int.toNat_natCast]
    refine wpAny_bind (next_none e2 K z ?_)
    dsimp only
    refine wpAny_bind (wpAny_setField_rec e1 (by simp) fun h1 o1 sb1 => wpAny_bind ?_)
    simp only [newExc, newTuple]
    refine wpAny_bind (wpAny_newObj_type ?_ (by size_fits))
    refine wpAny_bind (m := firstArgMember _ _) (wpAny_of_eq (a := Value.none) (by first | rfl | (simp only [firstArgMember]; rfl)) (wpAny_newObj_type ?_ (by size_fits)))
    refine wpAny_raiseNew_none hh (wpAny_bind (wpAny_isInstance (T := "StopIteration") (b := true) ⟨_, Heap.get?_push_size _ rfl, rfl⟩ isSubtype_stop (wpAny_pure ?_)))
    exact hQ _ _ fun b o hb q => Heap.get?_push_of_some _ (Heap.get?_push_of_some _ (sb1.extBut b o (by simpa using hb) q))
  self := by
    rintro i s Q E ⟨sl, z, e1, e2⟩ hQ
    have hT : s.TypeIs (.ref it) "set_iterator" := ⟨_, e1, rfl⟩
    refine wpAny_pyIter_slot hT slot_si_iter (wpAny_call_entry slot_si_iter hT entry_si_iter ?_ (args_si_iter _))
    exact wpAny_pure ⟨_, rfl, "set_iterator", _, hT, slot_si_next.lookup, hQ⟩
theorem iter_i {Q : Value → Shared → Prop} (e : s.heap.get? a = some (setObj es ep t)) (K : SOk w es t ks)
    (h : ∀ h', SIt w s.heap.objs.size a es ep t 0 h' → (∀ c o, s.heap.get? c = some o → h'.get? c = some o) → h'.objs.size = s.heap.objs.size + 1 → Q (.ref s.heap.objs.size) { s with heap := h' }) : wpAny (model prog w) A (pyIter (.ref a)) Q E s := by
  have hT : s.TypeIs (.ref a) "set" := ⟨_, e, rfl⟩
  refine wpAny_pyIter_slot hT F.slot_set_iter (wpAny_call_entry F.slot_set_iter hT entry_set_iter ?_ (F.args_set_iter_1 _))
  unfold Builtin.«frozenset.__iter__» Builtin.Frozenset.slot0 Builtin.Frozenset.sizeOf setDrawn setsByText
  refine wpAny_bind (wpAny_bind (wpAny_pure (wpAny_pure (wpAny_bind (wpAny_bind (wpAny_setEntries_of e rfl K.tab.fits (wpAny_pure ?_)))))))
  refine wpAny_bind (wpAny_bind (wpAny_setState_of e rfl K.tab.fits (wpAny_bind (wpAny_bind (wpAny_askSetting (wpAny_pure (wpAny_pure ?_)))))))
  dsimp only
  rw [if_neg (by show ¬ ((!(model prog w).w.params.followText "set-order" && (!t.plain && decide (es.size > 1))) = true); rw [K.tab.plain]; simp)]
  refine wpAny_bind (wpAny_pure (wpAny_bind (epoch_i (n := 0) e K.tab.fits ?_)))
  unfold newFields
  refine wpAny_bind (wpAny_newObj_type ?_ (by size_fits))
  refine wpAny_pure ⟨_, rfl, "set_iterator", _, ⟨_, Heap.get?_push_size _ rfl, rfl⟩, slot_si_next.lookup, ?_⟩
  exact h _ ⟨0, fun _ => below_zero K.tab.rise, Heap.get?_push_size _ rfl, Heap.get?_push_of_some _ e⟩ (fun c o q => Heap.get?_push_of_some _ q) (Heap.size_push _ _)
end
end SX

namespace SX
open PySem PyProof.Rows
/-! sorted(a set) -/
theorem set_len_look : typeLookup (.type "set") "__len__" = pure (some (.builtin "set.__len__")) := by rw [typeLookup_type, builtinLookup_eq_fast]; kernel_rfl
theorem ents_at {es : List (Int × Value)} {ks : List Int} (P : Paired EntOf es ks) : ∀ (j : Nat) (e : Int × Value), es[j]? = some e → ∃ k, ks[j]? = some k ∧ EntOf e k := by
  induction P with
  | nil => intro j e z; simp at z
  | cons x _ ih =>
    intro j e z
    cases j with
    | zero =>
      have z' := Option.some.inj z
      subst z'
      exact ⟨_, rfl, x⟩
    | succ j => exact ih j e (by simpa using z)
theorem intsAre_ext : ∀ {vs : List Value} {ns : List Int}, vs.length = ns.length → (∀ (i : Nat) (v : Value), vs[i]? = some v → ∃ k u, ns[i]? = some k ∧ v = Value.int k u) → IntsAre vs ns
  | [], [], _, _ => .nil
  | [], _ :: _, h, _ => by simp at h
  | _ :: _, [], h, _ => by simp at h
  | v :: vs, n :: ns, h, k => by
    obtain ⟨k0, u, e1, e2⟩ := k 0 v rfl
    have : n = k0 := by simpa using e1
    subst this
    subst e2
    exact .cons _ _ (intsAre_ext (by simpa using h) fun i v' e => by
      obtain ⟨k1, u1, f1, f2⟩ := k (i + 1) v' (by simpa using e)
      exact ⟨k1, u1, by simpa using f1, f2⟩)
section
variable {prog : Program} {w : World} {A : Around} {E : Value → Shared → Prop} {s : Shared} {a : Addr} {ks : List Int}
theorem collect_i {Q : List Value → Shared → Prop} (hh : A.handled = none) (S : SetI w a ks s.heap)
    (h : ∀ h' tk vs ns, IntsAre vs ns → ns.Perm ks → (∀ c o, s.heap.get? c = some o → h'.get? c = some o) → s.heap.objs.size ≤ h'.objs.size → Q vs { s with heap := h', toks := tk }) : wpAny (model prog w) A (collect (.ref a)) Q E s := by
  obtain ⟨es, ep, t, e, K⟩ := id S
  have alt : a < s.heap.objs.size := Heap.lt_size e
  unfold collect
  refine wpAny_bind (wpAny_runValue (codeAny_builtin F.entry_proto_collect ?_))
  rw [Around.under_plainId F.plain_proto_collect _]
  refine wpAny_bind (m := newList []) (wpAny_newObj_type (wpAny_pure ⟨plainId_quiet F.plain_list_iadd _, codeAny_builtin F.entry_list_iadd ?_⟩))
  rw [Around.under_plainId F.plain_list_iadd _]
  have k1 : ∀ c o, s.heap.get? c = some o → (s.heap.push { cls := .type "list", data := .seq ([] : List Value).toArray }).get? c = some o := fun c o q => Heap.get?_push_of_some _ q
  have oL : (s.heap.push { cls := .type "list", data := .seq ([] : List Value).toArray }).get? s.heap.objs.size = some { cls := .type "list", data := .seq ([] : List Value).toArray } := Heap.get?_push_size _ rfl
  have sz1 : (s.heap.push { cls := .type "list", data := .seq ([] : List Value).toArray }).objs.size = s.heap.objs.size + 1 := Heap.size_push _ _
  generalize s.heap.push { cls := .type "list", data := .seq ([] : List Value).toArray } = h1 at k1 oL sz1 ⊢
  show wpAny _ A.in1 (Builtin.List.listExtendWith (.ref s.heap.objs.size) (.ref a) (.ref s.heap.objs.size)) _ _ { s with heap := h1 }
  unfold Builtin.List.listExtendWith
  have hT : Shared.TypeIs { s with heap := h1 } (.ref a) "set" := ⟨_, k1 a _ e, rfl⟩
  refine wpAny_bind (wpAny_typeOf hT ?_)
  have n1 : Builtin.List.listSameRef (.ref s.heap.objs.size) (.ref a) = false := by simp [Builtin.List.listSameRef, Nat.ne_of_gt alt]
  have n2 : (Value.type "set" == Value.type "list") = false := by decide
  have n3 : (Value.type "set" == Value.type "tuple") = false := by decide
  simp only [n1, n2, n3, Bool.or_false, Bool.false_eq_true, if_false]
  refine wpAny_bind (iter_i (s := { s with heap := h1 }) (k1 a _ e) K fun h2 I2 k2 sz2 => ?_)
  have hT2 : Shared.TypeIs { s with heap := h2 } (.ref a) "set" := ⟨_, k2 a _ (k1 a _ e), rfl⟩
  refine wpAny_bind (wpAny_holding ?_)
  unfold Builtin.List.listLengthHint
  refine wpAny_bind (wpAny_specialOf hT2 set_len_look ?_)
  generalize hid : ("set.__len__" : String) = id0
  dsimp only
  rw [show splitId id0 = some ("set", "__len__") from by subst hid; decide +kernel]
  subst hid
  dsimp only
  refine wpAny_bind (wpAny_isInstance (b := true) hT2 sub_set_self ?_)
  rw [if_neg (by simp)]
  rw [if_pos (by decide +kernel)]
  refine wpAny_bind (wpAny_typeOf hT2 (wpAny_pure ?_))
  rw [if_pos (by decide +kernel)]
  refine wpAny_bind (wpAny_rule (wpAny_bind ?_))
  have oL2 := k2 _ _ oL
  have hh2 : A.in1.handled = none := by simp [hh]
  have ne : a ≠ h1.objs.size := Nat.ne_of_lt (Nat.lt_trans alt (by rw [sz1]; exact Nat.lt_succ_self _))
  have W := (walks_set (prog := prog) (A := A.in1) (ep := ep) hh2 K ne).toS
  show wpAny _ A.in1 (updateSeq s.heap.objs.size (·.push .none) >>= fun _ => updateSeq s.heap.objs.size (·.pop)) _ _ _
  refine wpAny_bind (wpAny_updateSeq oL2 rfl ?_)
  have oL3 := Heap.get?_update_self (Obj.mapSeq (·.push Value.none)) oL2 rfl
  refine wpAny_updateSeq oL3 rfl ?_
  have oL4 := Heap.get?_update_self (Obj.mapSeq (·.pop)) oL3 rfl
  have k4 : ∀ c o, c ≠ s.heap.objs.size → h2.get? c = some o → ((h2.update s.heap.objs.size (Obj.mapSeq (·.push Value.none))).update s.heap.objs.size (Obj.mapSeq (·.pop))).get? c = some o :=
    fun c o hc q => (Heap.get?_update_other _ _ (Ne.symm hc)).trans ((Heap.get?_update_other _ _ (Ne.symm hc)).trans q)
  have sz4 : ((h2.update s.heap.objs.size (Obj.mapSeq (·.push Value.none))).update s.heap.objs.size (Obj.mapSeq (·.pop))).objs.size = h2.objs.size := by rw [Heap.size_update, Heap.size_update]
  have nfp : s.heap.objs.size ∉ [h1.objs.size, a] := by
    simp only [List.mem_cons, List.not_mem_nil, or_false, not_or]
    exact ⟨by rw [sz1]; exact Nat.ne_of_lt (Nat.lt_succ_self _), Nat.ne_of_gt alt⟩
  generalize (h2.update s.heap.objs.size (Obj.mapSeq (·.push Value.none))).update s.heap.objs.size (Obj.mapSeq (·.pop)) = h4 at oL4 k4 sz4 ⊢
  obtain ⟨sl, z, i1, i2⟩ := I2
  have I4 : SIt w h1.objs.size a es ep t 0 h4 := ⟨sl, z, k4 _ _ (by rw [sz1]; exact Nat.ne_of_gt (Nat.lt_succ_self _)) i1, k4 _ _ (Nat.ne_of_lt alt) i2⟩
  refine wpAny_pure ⟨plainId_quiet F.plain_extend_loop _, codeAny_extend_loopS W (small_line K.small) _ nfp _ es.size 0 _ _ _ rfl (Nat.zero_le _) I4 oL4 (ItemsOf.nil _) fun s5 acc c5 mv oL5 hacc => ?_⟩
  show wpAny _ A (load s.heap.objs.size >>= _) _ _ s5
  refine wpAny_bind (wpAny_load oL5 (wpAny_pure ?_))
  obtain ⟨h5, g5, d5, tk5, os5⟩ := s5
  have eg : g5 = s.gens := mv.gens
  have ed : d5 = s.drawn := mv.drawn
  have eo : os5 = s.os := mv.os
  subst eg ed eo
  -- what came
  obtain ⟨ns, pp, pe⟩ := paired_perm (wOrd_perm w a es ep).symm K.ent
  have k5 : ∀ c o, s.heap.get? c = some o → h5.get? c = some o := fun c o q => mv.heap c o (by
    simp only [List.mem_cons, List.not_mem_nil, or_false, not_or]
    exact ⟨Nat.ne_of_lt (Heap.lt_size q), Nat.ne_of_lt (Heap.lt_size (k1 c o q))⟩) (k4 c o (Nat.ne_of_lt (Heap.lt_size q)) (k2 c o (k1 c o q)))
  refine h h5 tk5 acc.toList ns (intsAre_ext ?_ fun i v hv => ?_) pp.symm k5 (Nat.le_of_lt (Heap.lt_size oL5))
  · rw [Array.length_toList, hacc.1, ← ent_len pe, Array.length_toList, ← Array.length_toList, ← Array.length_toList, (wOrd_perm w a es ep).length_eq]
  · obtain ⟨x, hx, rfl⟩ := hacc.2 i v (by rw [← Array.getElem?_toList]; exact hv)
    obtain ⟨k, hk, _, u, hu⟩ := ents_at pe i x (by rw [Array.getElem?_toList]; exact hx)
    exact ⟨k, u, hk, hu⟩
theorem sorted_of {v : Value} {ks : List Int} {Q : Value → Shared → Prop}
    (hc : ∀ (Q' : List Value → Shared → Prop), (∀ h' tk vs ns, IntsAre vs ns → ns.Perm ks → (∀ c o, s.heap.get? c = some o → h'.get? c = some o) → s.heap.objs.size ≤ h'.objs.size → Q' vs { s with heap := h', toks := tk }) → wpAny (model prog w) A.in1 (collect v) Q' E s)
    (h64 : ks.length < 64) (h : ∀ h' tk r vs ns, s.heap.objs.size ≤ r → IntsAre vs ns → ns.Perm ks → ns.Pairwise (· ≤ ·) → (∃ n, h'.get? r = some { cls := .type "list", data := .seq vs.toArray n }) → (∀ c o, s.heap.get? c = some o → h'.get? c = some o) → Q (.ref r) { s with heap := h', toks := tk }) :
    wpAny (model prog w) A (call (.builtin "sorted") [v]) Q E s := by
  refine Calls.call_function_entry kind_sorted plain_sorted entry_sorted (args_sorted1 _) ?_
  unfold Builtin.«sorted»
  refine wpAny_bind (m := checkCount "sorted" 1 1 _) (wpAny_pure ?_)
  refine wpAny_bind (hc _ fun h1 tk vs ns hi hp k1 sz => ?_)
  have hlen : vs.length < 64 := by rw [IntsAre.length hi, hp.length_eq]; exact h64
  refine wpAny_bind (wpAny_newList ?_)
  have o1 : (h1.push (seqObj "list" vs.toArray 0)).get? h1.objs.size = some (seqObj "list" vs.toArray 0) := Heap.get?_push_size _ rfl
  refine wpAny_bind (wpAny_holding (wpAny_call_entry slot_list_sort ⟨_, o1, rfl⟩ entry_list_sort (list_sort_tree o1 hi hlen fun out ns' a1 a2 a3 => ⟨_, rfl, ?_⟩) (args_list_sort _)))
  obtain ⟨ep, e2⟩ := sortedHeap_at (out := out) o1
  refine wpAny_pure ⟨_, rfl, h _ tk h1.objs.size out.toList ns' sz a1 (a2.trans hp) a3 ⟨ep, by simpa using e2⟩ fun c o q => ?_⟩
  have hlt := Heap.lt_size (k1 c o q)
  rw [sortedHeap_old (Nat.ne_of_lt hlt) (by rw [size_push']; exact Nat.lt_succ_of_lt hlt)]
  exact Heap.get?_push_of_some _ (k1 c o q)
theorem sorted_set_i {Q : Value → Shared → Prop} (hh : A.handled = none) (S : SetI w a ks s.heap) (h64 : ks.length < 64)
    (h : ∀ h' tk r vs ns, s.heap.objs.size ≤ r → IntsAre vs ns → ns.Perm ks → ns.Pairwise (· ≤ ·) → (∃ n, h'.get? r = some { cls := .type "list", data := .seq vs.toArray n }) → (∀ c o, s.heap.get? c = some o → h'.get? c = some o) → Q (.ref r) { s with heap := h', toks := tk }) :
    wpAny (model prog w) A (call (.builtin "sorted") [.ref a]) Q E s :=
  sorted_of (fun _ k => collect_i (by simp [hh]) S k) h64 h
theorem sorted_list_i {l : Addr} {vs₀ : List Value} {Q : Value → Shared → Prop} (hl : s.heap.IsList l vs₀.toArray) (hi₀ : IntsAre vs₀ ks) (h64 : ks.length < 64)
    (h : ∀ h' tk r vs ns, s.heap.objs.size ≤ r → IntsAre vs ns → ns.Perm ks → ns.Pairwise (· ≤ ·) → (∃ n, h'.get? r = some { cls := .type "list", data := .seq vs.toArray n }) → (∀ c o, s.heap.get? c = some o → h'.get? c = some o) → Q (.ref r) { s with heap := h', toks := tk }) :
    wpAny (model prog w) A (call (.builtin "sorted") [.ref l]) Q E s :=
  sorted_of (fun _ k => collect_list hl (k _ s.toks _ _ hi₀ (.refl _) (fun c o q => (Heap.get?_update_other _ _ (Nat.ne_of_gt (Heap.lt_size q))).trans (Heap.get?_push_of_some _ q)) (by rw [Heap.size_update, size_push']; exact Nat.le_succ _)) (by
    have := IntsAre.length hi₀
    have e : (64 : Nat) ≤ sizeLine := by rw [sizeLine_eq]; decide
    omega)) h64 h
end
end SX

namespace SX
open PySem PyProof.Rows
section
variable {prog : Program} {w : World} {A : Around} {E : Value → Shared → Prop} {s : Shared} {a b : Addr} {ks ka kb : List Int}
/-! ### x in s, len(s), s.add(x), s.discard(x) -/
theorem in_i {k : Int} {u : Tok} {Q : Value → Shared → Prop} (S : SetI w a ks s.heap) (h : Q (.bool (decide (k ∈ ks))) { s with toks := s.toks + 1 }) : wpAny (model prog w) A (compareOp .In (.int k u) (.ref a)) Q E s :=
  wpAny_inSet_of (knd := intKind prog w) (k := k) (intKind_is _ _ _ _) rfl S.of h
theorem len_i {Q : Value → Shared → Prop} (S : SetI w a ks s.heap) (h : Q (.int ks.length (s.toks + 1)) { s with toks := s.toks + 1 + 1 }) : wpAny (model prog w) A (call (.builtin "len") [.ref a]) Q E s := by
  obtain ⟨es, ep, t, e, K⟩ := S
  have z := K.size
  have sm := K.small
  refine call_len_set e ⟨rfl, rfl, rfl⟩ rfl K.tab.fits (by omega) ?_
  rw [z]
  exact h
theorem addc_i {k : Int} {u : Tok} {Q : Value → Shared → Prop} (S : SetI w a ks s.heap) (room : ks.length + 1 ≤ 127)
    (h : ∀ h' ks' tk, Heap.SameBut a s.heap h' → SetI w a ks' h' → ks'.Perm (if k ∈ ks then ks else k :: ks) → Q .none { s with heap := h', toks := tk }) :
    wpAny (model prog w) A (call (.builtin "set.add") [.ref a, .int k u]) Q E s := by
  refine wpAny_call_entry F.slot_set_add S.typeIs F.entry_set_add ?_ (F.args_set_add_2 _ _)
  show wpAny _ _ (Builtin.Frozenset.oneOther "add" ⟨[.ref a, .int k u], []⟩ >>= _) _ _ _
  refine wpAny_bind (wpAny_bind (wpAny_pure (wpAny_pure (wpAny_bind ?_))))
  refine add_v S room fun h' ks' tk sb S' p _ => wpAny_pure ⟨_, rfl, h h' ks' tk sb S' p⟩
theorem discc_i {k : Int} {u : Tok} {Q : Value → Shared → Prop} (S : SetI w a ks s.heap)
    (h : ∀ h' ks' tk, Heap.SameBut a s.heap h' → SetI w a ks' h' → (if k ∈ ks then ks.Perm (k :: ks') else ks' = ks) → Q .none { s with heap := h', toks := tk }) :
    wpAny (model prog w) A (call (.builtin "set.discard") [.ref a, .int k u]) Q E s := by
  refine wpAny_call_entry F.slot_set_discard S.typeIs F.entry_set_discard ?_ (F.args_set_discard_2 _ _)
  show wpAny _ _ (Builtin.Frozenset.oneOther "discard" ⟨[.ref a, .int k u], []⟩ >>= _) _ _ _
  refine wpAny_bind (wpAny_bind (wpAny_pure (wpAny_pure (wpAny_bind ?_))))
  unfold Builtin.Frozenset.withSetAsKey setDiscard
  refine wpAny_tryCatch ?_
  refine wpAny_holding (wpAny_bind ((intKind prog w).pyHash (k := k) (intKind_is _ _ _ _) ?_))
  exact discard_i (s := { s with toks := s.toks + 1 }) S fun h' ks' sb S' p => wpAny_pure ⟨_, rfl, h h' ks' _ sb S' p⟩
/-! ### set() -/
theorem set_new_0i {Q : Value → Shared → Prop} (h : ∀ h', Fresh w s.heap.objs.size h' → (∀ c o, s.heap.get? c = some o → h'.get? c = some o) → Q (.ref s.heap.objs.size) { s with heap := h' }) :
    codeAny (model prog w) A (.call (.builtin "set.__new__") ⟨[.type "set"], []⟩) (wants Q E) s := by
  refine codeAny_of_tree (wpAny_bind (wpAny_of_eq F.newCall_set_0 (wpAny_pure ⟨plainId_quiet F.plain_set_new _, codeAny_builtin F.entry_set_new ?_⟩)))
  rw [Around.under_plainId F.plain_set_new _]
  unfold Builtin.«set.__new__» Builtin.Frozenset.newClass
  have q1 := sub_set_self
  obtain ⟨hp, gs, dr, tk, os⟩ := s
  dsimp only
  generalize hN : newSet = NS
  wp_walk
  subst hN
  refine new_i fun h' F' k' => ?_
  exact wpAny_pure (h h' F' k')
set_option maxHeartbeats 3200000 in
theorem call_set_0i {Q : Value → Shared → Prop} (h : ∀ h', SetI w s.heap.objs.size [] h' → (∀ c o, s.heap.get? c = some o → h'.get? c = some o) → Q (.ref s.heap.objs.size) { s with heap := h' }) : wpAny (model prog w) A (call (.type "set") []) Q E s := by
  obtain ⟨c0, tl, hmro⟩ := F.called_set.mro
  have hmade := F.called_set.made
  have hsub := F.called_set.sub
  refine wpAny_call (codeAny_of_tree (wpAny_pure ⟨Code.quiet_builtin _ (by decide +kernel), codeAny_builtin F.entry_type_call ?_⟩))
  rw [Around.under_plain (weight_type_call_type "set" [] []) rfl]
  have hn1 := F.called_set.notType
  have hn2 := F.called_set.canCreate
  have hct := F.typeCall_set_0
  repeat (any_goals (first | assumption | wp_step))
  refine codeAny_mono (set_new_0i (E := E) (Q := fun obj s₁ => obj = .ref s.heap.objs.size ∧ ∃ h1, s₁ = { s with heap := h1 } ∧ Fresh w s.heap.objs.size h1 ∧ ∀ c o, s.heap.get? c = some o → h1.get? c = some o) fun h1 F1 k1 => ⟨rfl, h1, rfl, F1, k1⟩) fun r1 s1 hr1 => ?_
  cases r1 with
  | error e => exact hr1
  | ok f1 =>
    cases f1 with
    | ret obj =>
      obtain ⟨rfl, h1, rfl, F1, k1⟩ := hr1
      have S1 : SetI w s.heap.objs.size [] h1 := F1.set
      have hT : Shared.TypeIs { s with heap := h1 } (.ref s.heap.objs.size) "set" := SetI.typeIs (s := { s with heap := h1 }) S1
      have hli := F.called_set.init.lookup
      have hbi := F.called_set.init.bind (.ref s.heap.objs.size)
      repeat (any_goals (first | assumption | wp_step))
      refine codeAny_mono (codeAny_call_builtin (R := wants (fun r s₂ => r = .none ∧ s₂ = { s with heap := h1 }) E) F.called_set.init.plain F.entry_set_init (check_set_init hT ?_)) fun r2 s2 hr2 => ?_
      · obtain ⟨ep0, led0, e1, l1⟩ := id F1
        unfold Builtin.«set.__init__» noKeywords
        wp_walk
        exact ⟨rfl, rfl⟩
      · cases r2 with
        | error e => exact hr2
        | ok f2 =>
          cases f2 with
          | ret r =>
            obtain ⟨rfl, rfl⟩ := hr2
            repeat (any_goals (first | assumption | wp_step))
            exact h _ S1 k1
          | _ => exact hr2.elim
    | _ => exact hr1.elim
/-! ### s & t -/
theorem size_i {Q : Nat → Shared → Prop} (S : SetI w a ks s.heap) (h : Q ks.length s) : wpAny (model prog w) A (Builtin.Frozenset.sizeOf a) Q E s := by
  obtain ⟨es, ep, t, e, K⟩ := S
  unfold Builtin.Frozenset.sizeOf
  refine wpAny_bind (wpAny_setEntries_of e rfl K.tab.fits (wpAny_pure ?_))
  rw [K.size]
  exact h
end
end SX

namespace SX
open PySem PyProof.Rows
section
variable {prog : Program} {w : World} {A : Around} {E : Value → Shared → Prop} {s : Shared} {a b : Addr} {ks ka kb : List Int}
/-- those of the one walked that the other has are put in -/
theorem meet_i {r : Addr} {h1 : Heap} {id : String} {Q : PUnit → Shared → Prop} (Sa : SetI w a ka h1) (Sb : SetI w b kb h1) (S1 : SetI w r [] h1) (nra : a ≠ r) (nrb : b ≠ r) (hl : kb.length ≤ 126)
    (h : ∀ h2 k2, Heap.SameBut r h1 h2 → SetI w r k2 h2 → (∀ k, k ∈ k2 ↔ (k ∈ ka ∧ k ∈ kb)) → Q ⟨⟩ { s with heap := h2 }) :
    wpAny (model prog w) A (do
      let was ← setEpoch b
      let xs ← setWalkUnseen b [a, r] (some r)
      let _ ← forIn xs PUnit.unit fun x _ => do
        holding [x.2] (do
          let q ← setFind a x.2 x.1
          if q.isSome = true then (do
            let _ ← setAddHashed r x.2 x.1
            pure ())
          else pure ())
        Builtin.Frozenset.unchanged id b was
        pure (ForInStep.yield PUnit.unit)
      pure ()) Q E { s with heap := h1 } := by
  obtain ⟨es, ep, t, e, K⟩ := _root_.id Sb
  refine wpAny_bind (epoch_i (n := 0) (s := { s with heap := h1 }) e K.tab.fits ?_)
  refine wpAny_bind (unseen_i (s := { s with heap := h1 }) Sb fun es' ks' P' p' => ?_)
  have nd' : ks'.Nodup := p'.nodup_iff.mpr Sb.nodup
  have len' := p'.length_eq
  refine wpAny_bind (wpAny_forIn_array' _ (fun rest _ s2 => ∃ dn kr h2 k2, ks' = dn ++ kr ∧ Paired EntOf rest kr ∧ s2 = { s with heap := h2 } ∧ Heap.SameBut r h1 h2 ∧ SetI w r k2 h2 ∧ k2.length ≤ dn.length ∧ ∀ k, k ∈ k2 ↔ (k ∈ ka ∧ k ∈ dn)) _ ?turn ?fin es' _ ⟨[], ks', h1, [], rfl, P', rfl, Heap.SameBut.refl _ _, S1, Nat.le_refl _, fun k => by simp⟩)
  case fin =>
    rintro _ s2 ⟨dn, kr, h2, k2, e0, P, rfl, sb, S2, _, m⟩
    cases P
    rw [List.append_nil] at e0
    subst e0
    refine wpAny_pure (h h2 k2 sb S2 fun k => ?_)
    rw [m k, p'.mem_iff]
  case turn =>
    rintro x rest _ s2 ⟨dn, kr, h2, k2, e0, P, rfl, sb, S2, l2, m⟩
    cases P with
    | cons hx hr =>
      rename_i k kr
      obtain ⟨hx1, u, hx2⟩ := hx
      rw [hx1, hx2]
      have lenk : dn.length + (kr.length + 1) = ks'.length := by rw [e0, List.length_append, List.length_cons]
      have Sa2 : SetI w a ka h2 := Sa.keep fun o q => sb.extBut a o nra q
      have eb : ∀ h3, Heap.SameBut r h2 h3 → h3.get? b = some (setObj es ep t) := fun h3 q => q.extBut b _ nrb (sb.extBut b _ nrb e)
      have last : ∀ (R : ForInStep PUnit → Shared → Prop) h3 k3, Heap.SameBut r h2 h3 → SetI w r k3 h3 → k3.length ≤ k2.length + 1 → (∀ j, j ∈ k3 ↔ (j ∈ k2 ∨ (j = k ∧ k ∈ ka))) →
          (∀ s' : Shared, (∃ dn kr h2 k2, ks' = dn ++ kr ∧ Paired EntOf rest kr ∧ s' = { s with heap := h2 } ∧ Heap.SameBut r h1 h2 ∧ SetI w r k2 h2 ∧ k2.length ≤ dn.length ∧ ∀ k, k ∈ k2 ↔ (k ∈ ka ∧ k ∈ dn)) → R (.yield ⟨⟩) s') →
          wpAny (model prog w) A (Builtin.Frozenset.unchanged id b ep >>= fun _ => pure (ForInStep.yield PUnit.unit)) R E { s with heap := h3 } := by
        intro R h3 k3 sb3 S3 l3 m3 fin
        unfold Builtin.Frozenset.unchanged
        refine wpAny_bind (wpAny_bind (epoch_i (n := 0) (s := { s with heap := h3 }) (eb h3 sb3) K.tab.fits ?_))
        rw [if_neg (by simp)]
        refine wpAny_pure (wpAny_pure (fin _ ⟨dn ++ [k], kr, h3, k3, by rw [e0]; simp, hr, rfl, sb.trans sb3, S3, by rw [List.length_append]; simp; omega, fun j => ?_⟩))
        rw [m3 j, m j, List.mem_append, List.mem_singleton]
        constructor
        · rintro (⟨q1, q2⟩ | ⟨q1, q2⟩)
          · exact ⟨q1, .inl q2⟩
          · exact ⟨by rw [q1]; exact q2, .inr q1⟩
        · rintro ⟨q1, q2 | q2⟩
          · exact .inl ⟨q1, q2⟩
          · exact .inr ⟨q2, by rw [← q2]; exact q1⟩
      refine wpAny_bind (wpAny_holding (wpAny_bind (find_i (s := { s with heap := h2 }) Sa2 fun rr hrr => ?_)))
      by_cases hin : k ∈ ka
      · rw [hrr, decide_eq_true hin, if_pos rfl]
        refine wpAny_bind (add_i (s := { s with heap := h2 }) S2 (by omega) fun h3 k3 sb3 S3 p3 => ?_)
        refine wpAny_pure (last _ h3 k3 sb3 S3 ?_ (fun j => ?_) fun _ z => z)
        · have q := p3.length_eq
          by_cases hk2 : k ∈ k2
          · rw [if_pos hk2] at q; omega
          · rw [if_neg hk2, List.length_cons] at q; omega
        · rw [p3.mem_iff]
          by_cases hk2 : k ∈ k2
          · rw [if_pos hk2]
            constructor
            · exact .inl
            · rintro (q | ⟨q, _⟩)
              · exact q
              · rw [q]; exact hk2
          · rw [if_neg hk2, List.mem_cons]
            constructor
            · rintro (q | q)
              · exact .inr ⟨q, hin⟩
              · exact .inl q
            · rintro (q | ⟨q, _⟩)
              · exact .inr q
              · exact .inl q
      · rw [hrr, decide_eq_false hin, if_neg (by simp)]
        refine wpAny_pure (last _ h2 k2 (Heap.SameBut.refl _ _) S2 (Nat.le_succ _) (fun j => ?_) fun _ z => z)
        constructor
        · exact .inl
        · rintro (q | ⟨_, q⟩)
          · exact q
          · exact absurd q hin
theorem and_i {Q : Value → Shared → Prop} (Sa : SetI w a ka s.heap) (Sb : SetI w b kb s.heap) (nab : a ≠ b) (hla : ka.length ≤ 126) (hlb : kb.length ≤ 126)
    (h : ∀ h' ks, SetI w s.heap.objs.size ks h' → (∀ k, k ∈ ks ↔ (k ∈ ka ∧ k ∈ kb)) → (∀ c o, s.heap.get? c = some o → h'.get? c = some o) → Q (.ref s.heap.objs.size) { s with heap := h' }) :
    wpAny (model prog w) A (binaryOp .BitAnd (.ref a) (.ref b)) Q E s := by
  refine wpAny_binaryOp_same (op := .BitAnd) (T := "set") Sa.typeIs Sb.typeIs F.fills_set_and F.slot_set_and ?_
  refine wpAny_call_entry F.slot_set_and Sa.typeIs entry_and ?_ (F.args_set_and_2 _ _)
  show wpAny _ _ (Builtin.Frozenset.slot1 "__and__" ⟨[.ref a, .ref b], []⟩ >>= _) _ _ _
  refine wpAny_bind (wpAny_bind (wpAny_pure (wpAny_pure ?_)))
  dsimp only
  rw [if_neg Bool.false_ne_true]
  dsimp only
  refine wpAny_bind (wpAny_bind (anySet_i Sa (anySet_i Sb ?_)))
  rw [if_neg (by simp)]
  refine wpAny_bind (wpAny_pure (wpAny_bind ?_))
  unfold Builtin.Frozenset.intersection
  rw [if_neg (by simpa using Ne.symm nab)]
  dsimp only
  unfold Builtin.Frozenset.baseOf
  refine wpAny_bind (wpAny_bind (wpAny_isInstance Sa.typeIs sub_set_self (wpAny_pure ?_)))
  rw [if_pos rfl]
  refine wpAny_bind (new_i fun h1 F1 k1 => ?_)
  have Sa1 : SetI w a ka h1 := Sa.keep fun o e => k1 a o e
  have Sb1 : SetI w b kb h1 := Sb.keep fun o e => k1 b o e
  have na : a ≠ s.heap.objs.size := Nat.ne_of_lt Sa.lt
  have nb : b ≠ s.heap.objs.size := Nat.ne_of_lt Sb.lt
  refine wpAny_bind (wpAny_pure (wpAny_bind (wpAny_holding ?_)))
  refine wpAny_bind (anySet_i (s := { s with heap := h1 }) Sb1 ?_)
  rw [if_pos rfl]
  refine wpAny_bind (wpAny_pure (wpAny_bind (size_i (s := { s with heap := h1 }) Sb1 (wpAny_bind (size_i (s := { s with heap := h1 }) Sa1 ?_)))))
  by_cases hgt : kb.length > ka.length
  · simp only [if_pos hgt]
    refine meet_i Sb1 Sa1 F1.set nb na hla fun h2 k2 sb S2 m => wpAny_pure (wpAny_pure ⟨_, rfl, by simp, ?_⟩)
    refine h h2 k2 S2 (fun k => ?_) fun c o q => sb.extBut c o (Nat.ne_of_lt (Heap.lt_size q)) (k1 c o q)
    rw [m k]
    exact And.comm
  · simp only [if_neg hgt]
    refine meet_i Sa1 Sb1 F1.set na nb hlb fun h2 k2 sb S2 m => wpAny_pure (wpAny_pure ⟨_, rfl, by simp, ?_⟩)
    exact h h2 k2 S2 m fun c o q => sb.extBut c o (Nat.ne_of_lt (Heap.lt_size q)) (k1 c o q)
end
end SX

namespace L2
open PySem PySem.Spec PyProof.Rows SX
/-! ### ints of a list -/
theorem ints_vals {ns : List Int} {us : List Value} (h : Vals (ns.map V.int) us) : IntsAre us ns := intsAre_of h
theorem vals_of {us : List Value} {ns : List Int} (h : IntsAre us ns) : Vals (ns.map V.int) us := vals_ints h
/-! ### sets -/
def setO (w : World) (p : Addr) (ks : List Int) : HO := .ext (SetI w p ks)
section
variable {X : Cx}
theorem setI_of {pins : List (Addr × Obj)} {σ : St} {H : Hp} {s : Shared} {p : Addr} {ks : List Int} (I : Inv X pins σ H s) (h : H p = some (setO X.w p ks)) : SetI X.w p ks s.heap := (I.hok p _ h).1
theorem set_ok {H : Hp} {h : Heap} {p : Addr} {ks : List Int} {P : Program} {w : World} (x : SetI w p ks h) : ObjOk P w H h p (setO w p ks) :=
  ⟨x, (let ⟨_, _, _, e, _⟩ := x; ⟨_, e⟩), fun _ _ q k => q.keep k⟩
theorem call_set (hc : X.calm = true) : CallR X (.type "set") (fun xs H Q => ∃ (a : Addr) (ns : List Int), xs = [.ref a] ∧ SqL X.K H a (ns.map V.int) ∧ ns.length ≤ 126 ∧ ∀ (p : Addr) (ks : List Int), H p = none → ks.Nodup → ks.length ≤ ns.length → (∀ k, k ∈ ks ↔ k ∈ ns) → Q (.ref p) (upd H p (setO X.w p ks))) := by
  intro pins s σ H xs us Q I r h
  obtain ⟨a, ns, rfl, hq, hl, q⟩ := h
  obtain ⟨u, rfl, rx⟩ := vals1 r
  cases rx
  obtain ⟨its, rv, pl, hz⟩ := I.list hq
  have hi := ints_vals rv
  have hlen := rv.length
  rw [List.length_map] at hlen
  refine call_set_i (I.ok.hd hc) pl.isList (by simpa using hi) (by rw [List.size_toArray]; omega) fun h' tk ks S m k => ?_
  refine ⟨.ref s.heap.objs.size, _, I.laid (t' := tk) k (Nat.le_refl _) (set_ok S), rfl, q _ ks (I.hok.fresh (Nat.le_refl _)) S.nodup (nodup_len _ _ S.nodup fun x hx => (m x).mp hx) m⟩
theorem op_xorS : OpR X (binaryOp .BitXor) (fun x y H Q => ∃ (a b : Addr) (ka kb : List Int), x = .ref a ∧ y = .ref b ∧ H a = some (setO X.w a ka) ∧ H b = some (setO X.w b kb) ∧ ka.length + kb.length ≤ 126 ∧
    ∀ (p : Addr) (ks : List Int), H p = none → ks.Nodup → (∀ k, k ∈ ks ↔ ((k ∈ kb ∧ k ∉ ka) ∨ (k ∉ kb ∧ k ∈ ka))) → Q (.ref p) (upd H p (setO X.w p ks))) := by
  intro pins s σ H x y v u Q I rx ry h
  obtain ⟨a, b, ka, kb, rfl, rfl, ha, hb, hl, q⟩ := h
  cases rx
  cases ry
  refine xor_i (setI_of I ha) (setI_of I hb) hl fun h' ks S m k => ?_
  exact ⟨.ref s.heap.objs.size, _, I.laid (t' := s.toks) k (Nat.le_refl _) (set_ok S), rfl, q _ ks (I.hok.fresh (Nat.le_refl _)) S.nodup m⟩
/-- what sorted leaves -/
theorem sorted_end {pins : List (Addr × Obj)} {σ : St} {H : Hp} {s : Shared} {Q : VK} {ks : List Int} (I : Inv X pins σ H s) (h64 : ks.length < 64) (q : ∀ (p : Addr) (ns : List Int), H p = none → ns.Perm ks → ns.Pairwise (· ≤ ·) → Q (.ref p) (upd H p (.lst (ns.map V.int)))) :
    ∀ (h' : Heap) (tk : Nat) (r : Addr) (vs : List Value) (ns : List Int), s.heap.objs.size ≤ r → IntsAre vs ns → ns.Perm ks → ns.Pairwise (· ≤ ·) → (∃ n, h'.get? r = some { cls := .type "list", data := .seq vs.toArray n }) → (∀ c o, s.heap.get? c = some o → h'.get? c = some o) → EP X pins σ Q (.ref r) { s with heap := h', toks := tk } := by
  intro h' tk r vs ns hr hi hp hs he hk
  obtain ⟨n, e⟩ := he
  have e64 : (64 : Nat) ≤ sizeLine := by rw [sizeLine_eq]; decide
  exact ⟨.ref r, _, I.laid (t' := tk) (o := .lst (ns.map V.int)) hk hr ⟨by rw [List.length_map, hp.length_eq]; omega, vs, n, vals_of hi, e⟩, rfl, q r ns (I.hok.fresh hr) hp hs⟩
theorem call_sortedS (hc : X.calm = true) : CallR X (.builtin "sorted") (fun xs H Q => ∃ (a : Addr) (ks : List Int), xs = [.ref a] ∧ H a = some (setO X.w a ks) ∧ ks.length < 64 ∧ ∀ (p : Addr) (ns : List Int), H p = none → ns.Perm ks → ns.Pairwise (· ≤ ·) → Q (.ref p) (upd H p (.lst (ns.map V.int)))) := by
  intro pins s σ H xs us Q I r h
  obtain ⟨a, ks, rfl, ha, h64, q⟩ := h
  obtain ⟨u, rfl, rx⟩ := vals1 r
  cases rx
  exact sorted_set_i (I.ok.hd hc) (setI_of I ha) h64 (sorted_end I h64 q)
theorem call_sortedL : CallR X (.builtin "sorted") (fun xs H Q => ∃ (a : Addr) (ks : List Int), xs = [.ref a] ∧ SqL X.K H a (ks.map V.int) ∧ ks.length < 64 ∧ ∀ (p : Addr) (ns : List Int), H p = none → ns.Perm ks → ns.Pairwise (· ≤ ·) → Q (.ref p) (upd H p (.lst (ns.map V.int)))) := by
  intro pins s σ H xs us Q I r h
  obtain ⟨a, ks, rfl, ha, h64, q⟩ := h
  obtain ⟨u, rfl, rx⟩ := vals1 r
  cases rx
  obtain ⟨its, rv, pl, hz⟩ := I.list ha
  exact sorted_list_i pl.isList (ints_vals rv) h64 (sorted_end I h64 q)

/-! ### == and != of lists, however deep -/
def RdS (X : Cx) (H : Hp) (x : V) (d : PyData) : Prop := ∀ (pins : List (Addr × Obj)) (σ : St) (s : Shared) (u : Value), Inv X pins σ H s → RelV x u → ∃ as, Reads s.heap u d as
theorem RdS.int {H : Hp} (i : Int) : RdS X H (.int i) (.int i) := fun _ _ _ _ _ r => by
  obtain ⟨t, rfl⟩ := r
  exact ⟨_, Reads.int i t⟩
theorem reads_all {H : Hp} {pins : List (Addr × Obj)} {σ : St} {s : Shared} (I : Inv X pins σ H s) : ∀ {xs : List V} {us : List Value} {ds : List PyData}, Vals xs us → Paired (RdS X H) xs ds → ∃ as, ReadsAll s.heap us ds as
  | _, _, _, .nil, .nil => ⟨_, .nil⟩
  | _, _, _, .cons r t, .cons q p => by
    obtain ⟨a1, h1⟩ := q pins σ s _ I r
    obtain ⟨a2, h2⟩ := reads_all I t p
    exact ⟨_, .cons h1 h2⟩
theorem RdS.lst {H : Hp} {a : Addr} {xs : List V} {ds : List PyData} (h : SqL X.K H a xs) (p : Paired (RdS X H) xs ds) : RdS X H (.ref a) (.list ds) := fun pins σ s u I r => by
  cases r
  obtain ⟨its, rv, pl, _⟩ := I.list h
  obtain ⟨as, h2⟩ := reads_all I rv p
  obtain ⟨o, ho, hc, n, hd⟩ := pl.isList
  exact ⟨_, Reads.list ho hc hd (by simpa using h2)⟩
theorem rd_ints {H : Hp} : ∀ ns : List Int, Paired (RdS X H) (ns.map V.int) (ns.map PyData.int)
  | [] => .nil
  | n :: r => .cons (RdS.int n) (rd_ints r)
theorem RdS.ints {H : Hp} {a : Addr} {ns : List Int} (h : SqL X.K H a (ns.map V.int)) : RdS X H (.ref a) (.list (ns.map .int)) := RdS.lst h (rd_ints ns)
def rEqD (X : Cx) (neg : Bool) : R2 := fun x y H Q => ∃ d e, RdS X H x d ∧ RdS X H y e ∧ SeqAt.shaped d = true ∧ SeqAt.shaped e = true ∧ SeqAt.noMix d e = true ∧ Q (.bl (if neg then !PySem.Spec.same d e else PySem.Spec.same d e)) H
theorem op_eqD (hu : X.A.units + 64 < cLine) : OpR X (compareOp .Eq) (rEqD X false) := by
  intro pins s σ H x y v u Q I rx ry h
  obtain ⟨d, e, h1, h2, s1, s2, nm, q⟩ := h
  obtain ⟨a1, r1⟩ := h1 pins σ s v I rx
  obtain ⟨a2, r2⟩ := h2 pins σ s u I ry
  exact eq_dataH_same r1 r2 s1 s2 hu nm ⟨.bl _, H, I, rfl, q⟩
theorem op_neD (hu : X.A.units + 64 < cLine) : OpR X (compareOp .NotEq) (rEqD X true) := by
  intro pins s σ H x y v u Q I rx ry h
  obtain ⟨d, e, h1, h2, s1, s2, nm, q⟩ := h
  obtain ⟨a1, r1⟩ := h1 pins σ s v I rx
  obtain ⟨a2, r2⟩ := h2 pins σ s u I ry
  exact ne_dataH_same r1 r2 s1 s2 hu nm ⟨.bl _, H, I, rfl, q⟩
/-! lists of ints, lists of such -/
def dInts (ns : List Int) : PyData := .list (ns.map .int)
def dRows (rs : List (List Int)) : PyData := .list (rs.map dInts)
theorem shaped_dInts (ns : List Int) : SeqAt.shaped (dInts ns) = true := PySem.W.shaped_ints ns
theorem canLay_rows : ∀ rs : List (List Int), PyData.canLayAll0 (rs.map dInts) = true
  | [] => by simp [PyData.canLayAll0]
  | r :: rs => by
    have h1 := SeqAt.canLay_of_shaped (shaped_dInts r)
    simp only [List.map_cons, PyData.canLayAll0, h1, canLay_rows rs, Bool.and_self]
theorem depth_rows : ∀ rs : List (List Int), PyData.depthAll (rs.map dInts) ≤ 3
  | [] => by simp [PyData.depthAll]
  | r :: rs => by
    have h1 := depth_rows rs
    have h2 := PySem.W.depthAll_ints r
    have h3 : (dInts r).depth ≤ 2 := by unfold dInts; simp only [PyData.depth]; omega
    simp only [List.map_cons, PyData.depthAll]
    omega
theorem shaped_dRows (rs : List (List Int)) : SeqAt.shaped (dRows rs) = true := by
  have h1 := depth_rows rs
  have h2 : (dRows rs).depth ≤ 64 := by unfold dRows; simp only [PyData.depth]; omega
  show (PyData.canLay0 (dRows rs) && decide ((dRows rs).depth ≤ 64)) = true
  rw [Bool.and_eq_true]
  exact ⟨by unfold dRows; simp only [PyData.canLay0]; exact canLay_rows rs, decide_eq_true h2⟩
theorem noMix_rows : ∀ rs qs : List (List Int), SeqAt.noMixAll (rs.map dInts) (qs.map dInts) = true
  | [], [] => by simp [SeqAt.noMixAll]
  | [], _ :: _ => by simp [SeqAt.noMixAll]
  | _ :: _, [] => by simp [SeqAt.noMixAll]
  | r :: rs, q :: qs => by simp [SeqAt.noMixAll, dInts, SeqAt.noMix, PySem.W.noMix_ints, noMix_rows rs qs]
theorem same_rows : ∀ rs qs : List (List Int), PySem.Spec.sameAll (rs.map dInts) (qs.map dInts) = decide (rs = qs)
  | [], [] => by simp [PySem.Spec.sameAll]
  | [], _ :: _ => by simp [PySem.Spec.sameAll]
  | _ :: _, [] => by simp [PySem.Spec.sameAll]
  | r :: rs, q :: qs => by
    simp only [List.map_cons, PySem.Spec.sameAll, dInts, PySem.Spec.same, PySem.W.same_ints]
    rw [same_rows rs qs]
    by_cases h : r = q <;> simp [h]
def rEqI (K : PySem.W.Frag) (neg : Bool) : R2 := fun x y H Q => ∃ (a b : Addr) (ns ms : List Int), x = .ref a ∧ y = .ref b ∧ SqL K H a (ns.map V.int) ∧ SqL K H b (ms.map V.int) ∧ Q (.bl (if neg then !decide (ns = ms) else decide (ns = ms))) H
theorem op_eqI (hu : X.A.units + 64 < cLine) : OpR X (compareOp .Eq) (rEqI X.K false) := by
  intro pins s σ H x y v u Q I rx ry h
  obtain ⟨a, b, ns, ms, rfl, rfl, h1, h2, q⟩ := h
  refine op_eqD hu pins s σ H _ _ v u Q I rx ry ⟨_, _, RdS.ints h1, RdS.ints h2, shaped_dInts ns, shaped_dInts ms, by simp only [SeqAt.noMix]; exact PySem.W.noMix_ints ns ms, ?_⟩
  simp only [PySem.Spec.same]
  rw [PySem.W.same_ints]
  exact q
theorem op_neI (hu : X.A.units + 64 < cLine) : OpR X (compareOp .NotEq) (rEqI X.K true) := by
  intro pins s σ H x y v u Q I rx ry h
  obtain ⟨a, b, ns, ms, rfl, rfl, h1, h2, q⟩ := h
  refine op_neD hu pins s σ H _ _ v u Q I rx ry ⟨_, _, RdS.ints h1, RdS.ints h2, shaped_dInts ns, shaped_dInts ms, by simp only [SeqAt.noMix]; exact PySem.W.noMix_ints ns ms, ?_⟩
  simp only [PySem.Spec.same]
  rw [PySem.W.same_ints]
  exact q
/-- a list of lists of ints: the addresses and the rows -/
def RowsAt (K : PySem.W.Frag) (H : Hp) (ps : List V) (rs : List (List Int)) : Prop := Paired (fun (p : V) (r : List Int) => ∃ a, p = .ref a ∧ SqL K H a (r.map V.int)) ps rs
theorem rd_rows {H : Hp} : ∀ {ps : List V} {rs : List (List Int)}, RowsAt X.K H ps rs → Paired (RdS X H) ps (rs.map dInts)
  | _, _, .nil => .nil
  | _, _, .cons ⟨a, e, h⟩ t => .cons (by rw [e]; exact RdS.ints h) (rd_rows t)
def rEqR (K : PySem.W.Frag) (neg : Bool) : R2 := fun x y H Q => ∃ (a b : Addr) (ps qs : List V) (rs ts : List (List Int)), x = .ref a ∧ y = .ref b ∧ SqL K H a ps ∧ RowsAt K H ps rs ∧ SqL K H b qs ∧ RowsAt K H qs ts ∧ Q (.bl (if neg then !decide (rs = ts) else decide (rs = ts))) H
theorem op_eqR (hu : X.A.units + 64 < cLine) : OpR X (compareOp .Eq) (rEqR X.K false) := by
  intro pins s σ H x y v u Q I rx ry h
  obtain ⟨a, b, ps, qs, rs, ts, rfl, rfl, h1, r1, h2, r2, q⟩ := h
  refine op_eqD hu pins s σ H _ _ v u Q I rx ry ⟨_, _, RdS.lst h1 (rd_rows r1), RdS.lst h2 (rd_rows r2), shaped_dRows rs, shaped_dRows ts, by simp only [SeqAt.noMix]; exact noMix_rows rs ts, ?_⟩
  simp only [PySem.Spec.same]
  rw [same_rows]
  exact q
theorem op_neR (hu : X.A.units + 64 < cLine) : OpR X (compareOp .NotEq) (rEqR X.K true) := by
  intro pins s σ H x y v u Q I rx ry h
  obtain ⟨a, b, ps, qs, rs, ts, rfl, rfl, h1, r1, h2, r2, q⟩ := h
  refine op_neD hu pins s σ H _ _ v u Q I rx ry ⟨_, _, RdS.lst h1 (rd_rows r1), RdS.lst h2 (rd_rows r2), shaped_dRows rs, shaped_dRows ts, by simp only [SeqAt.noMix]; exact noMix_rows rs ts, ?_⟩
  simp only [PySem.Spec.same]
  rw [same_rows]
  exact q

/-! ### isinstance(x, T), T a built-in type -/
theorem call_isinst : CallR X (.builtin "isinstance") (fun xs H Q => ∃ (x : V) (T : String) (t : Value) (b : Bool), xs = [x, .ty T] ∧ TyOf X.K H x t ∧ PySem.W.kitOne X.K t (.type T) = some b ∧ Q (.bl b) H) := by
  intro pins s σ H xs us Q I r h
  obtain ⟨x, T, t, b, rfl, ty, e, q⟩ := h
  obtain ⟨u, v, rfl, rx, ry⟩ := vals2 r
  cases ry
  exact isinst_ok I rx ty e fun tk => ⟨.bl b, H, I.tok tk, rfl, q⟩
/-! ### a list's item, for op= -/
def rGetL : V → V → Hp → VK → Prop := fun o i H Q => ∃ (p : Addr) (xs : List V) (k : Int) (v : V), o = .ref p ∧ i = .int k ∧ H p = some (.lst xs) ∧ 0 ≤ k ∧ xs[k.toNat]? = some v ∧ Q v H
theorem get_list : PGet X rGetL := by
  intro pins s σ H o i ov iv Q I ro ri h
  obtain ⟨p, xs, k, v, rfl, rfl, hp, h0, hv, q⟩ := h
  cases ro
  obtain ⟨t, rfl⟩ := ri
  obtain ⟨its, r, pl, hz⟩ := I.list (SqL.of (K := X.K) hp)
  obtain ⟨u, eu, ru⟩ := r.get hv
  have hn := line63
  have hlt := (List.getElem?_eq_some_iff.mp hv).1
  exact wpAny_getItem_list pl.isList h0 (by omega) (by simpa using eu) ⟨v, H, I, ru, q⟩
end
end L2

namespace L2
open PySem PySem.Spec PyProof.Rows
/-! ### list comprehensions: one clause, at most one test; the block runs as a context of its own -/
abbrev blk (X : Cx) (scope : Scope) (cl : List (Str × Addr)) (N' : List Str) (s₀ : Shared) (H₀ : Hp) (C : Addr) (ex : List Addr) (pn : List (Addr × Obj)) : Cx :=
  { X with N := N', s₀ := s₀, H₀ := H₀, env := compEnvC scope cl C X.env, outer := X.stack, stack := X.stack, ex := ex, fn := fun _ => false, pn := pn, xe := fun _ _ => False }
/-- what is to be known of the block's names: T are its own, Fr come from around (idx: their places there) -/
structure BScope (X : Cx) (scope : Scope) (cl : List (Str × Addr)) (T Fr : List Str) (idx : List Nat) : Prop where
  kind : scope.kind = .function
  clos : closureFor scope X.env = pure cl
  nocell : ∀ y ∈ scope.names, y.2 ≠ .cell
  names : ∀ y ∈ scope.names, y.2 = .local → scope.names.lookup y.1 = some .local
  sub : ∀ x c, cl.lookup x = some c → X.env.cells.lookup x = some c
  frl : ∀ y ∈ scope.names, y.2 = .free → ∃ c, cl.lookup y.1 = some c
  fr : ∀ (j : Nat) (x : Str), Fr[j]? = some x → ∃ i c, idx[j]? = some i ∧ X.N[i]? = some x ∧ (X.env.kindOf x = some .cell ∨ X.env.kindOf x = some .free) ∧ cl.lookup x = some c ∧ ((relabel scope X.env).names.lookup x = some .cell ∨ (relabel scope X.env).names.lookup x = some .free)
  len : idx.length = Fr.length
def frame0 (T : List Str) (idx : List Nat) (σ : St) : St := T.map (fun _ => none) ++ idx.map fun i => σ[i]?.join
theorem lookup_mem {β : Type} : ∀ {l : List (Str × β)} {x : Str} {v : β}, l.lookup x = some v → (x, v) ∈ l
  | [], _, _, h => by cases h
  | (y, z) :: r, x, v, h => by
    rw [List.lookup_cons] at h
    cases q : x == y with
    | true =>
      rw [q] at h
      cases h
      rw [eq_of_beq q]
      exact List.mem_cons_self
    | false =>
      rw [q] at h
      exact List.mem_cons_of_mem _ (lookup_mem h)
theorem BScope.has {X : Cx} {scope : Scope} {cl : List (Str × Addr)} {T Fr : List Str} {idx : List Nat} (B : BScope X scope cl T Fr idx) {x : Str} (h : (relabel scope X.env).names.lookup x = some .cell ∨ (relabel scope X.env).names.lookup x = some .free) : ∃ c, cl.lookup x = some c := by
  have hm : ∃ k, (x, k) ∈ (relabel scope X.env).names ∧ (k = .cell ∨ k = .free) := by
    rcases h with h | h
    · exact ⟨_, lookup_mem h, .inl rfl⟩
    · exact ⟨_, lookup_mem h, .inr rfl⟩
  obtain ⟨k, hm, hk⟩ := hm
  unfold relabel at hm
  obtain ⟨⟨n, k0⟩, hy, e⟩ := List.mem_map.mp hm
  dsimp only at e
  have : n = x ∧ k0 = .free := by
    by_cases hc : (k0 == NameKind.free && X.env.scope.kind == ScopeKind.function && X.env.kindOf n == some NameKind.cell) = true
    · rw [if_pos hc] at e
      have e1 : n = x := congrArg Prod.fst e
      simp only [Bool.and_eq_true, beq_iff_eq] at hc
      exact ⟨e1, hc.1.1⟩
    · rw [if_neg hc] at e
      have e1 : n = x := congrArg Prod.fst e
      have e2 : k0 = k := congrArg Prod.snd e
      rcases hk with q | q
      · exact absurd (e2.trans q) (B.nocell _ hy)
      · exact ⟨e1, e2.trans q⟩
  obtain ⟨rfl, rfl⟩ := this
  exact B.frl _ hy rfl

def tComp (wi : TI) (T : List Str) (idx : List Nat) (g : TG) (tt : TT) (te : TE) : TE := fun σ H Q => wi σ H fun J H1 => ∃ W : Nat → Nat → List V → St → Hp → Prop, (∃ m, W 0 m [] (frame0 T idx σ) H1) ∧ ∀ i m ys σ' H, W i m ys σ' H →
  (J.stop i H ∧ ∀ p, H p = none → Q (.ref p) (upd H p (.lst ys))) ∨ (J.go i H ∧ ys.length < sizeLine ∧ ∀ x H', J.yld i H x H' → g x σ' H' fun σ2 H2 => tt σ2 H2 fun b H3 => if b = true then te σ2 H3 fun y H4 => ∃ m', m' < m ∧ W (i + 1) m' (ys ++ [y]) σ2 H4 else ∃ m', m' < m ∧ W (i + 1) m' ys σ2 H3)

theorem HOk.track {P : Program} {w : World} {H : Hp} {h : Heap} {a : Addr} {o : HO} (x : HOk P w H h) (hn : H a = none) (new : ObjOk P w (upd H a o) h a o) : HOk P w (upd H a o) h := fun b u e => by
  by_cases hb : b = a
  · subst hb; rw [upd_same] at e; cases e; exact new
  · rw [upd_ne hb] at e
    exact (x b u e).stay (fun _ _ _ q => q) (fun c q => by rw [upd_ne (ne_of_none q hn)]; exact q) fun c xs q => by rw [upd_ne (ne_of_none q hn)]; exact q
theorem HOk.but {P : Program} {w : World} {H : Hp} {h h' : Heap} {C : Addr} (x : HOk P w H h) (hn : H C = none) (sb : Heap.SameBut C h h') : HOk P w H h' := fun b u e => by
  refine (x b u e).stay (fun c v hc q => (sb.2 c ?_).trans q) (fun _ q => q) fun _ _ q => q
  rcases hc with z | z
  · rw [z]; exact ne_of_none e hn
  · exact ne_of_none z hn

section
variable {X : Cx} {elt iter tg : Expr} {scope : Scope} {cl : List (Str × Addr)} {T Fr : List Str} {idx : List Nat} {wi : TI} {g : TG} {tt : TT} {te : TE} {pos : Pos} {ifs : List Expr}
/-- the tests -/
def PTs (X : Cx) (ifs : List Expr) (tt : TT) : Prop := ∀ (pins : List (Addr × Obj)) (s : Shared) (σ : St) (H : Hp) (Q : Bool → Hp → Prop), Inv X pins σ H s → tt σ H Q →
  wpAny (model X.prog X.w) X.A (forIn ifs true fun c r => if r = true then do let ok ← isTrue c X.env (eval c X.env); pure (ForInStep.yield ok) else pure (ForInStep.yield r)) (TP X pins σ Q) X.xe s
theorem pts_nil : PTs X [] (fun _ H Q => Q true H) := fun _ _ _ H _ I h => wpAny_tests_nil ⟨H, I, h⟩
theorem pts_one {c : Expr} {tc : TT} (h : PT X c tc) : PTs X [c] tc := fun pins s σ H Q I q => wpAny_tests_one (h pins s σ H Q I q)

theorem loop_any {prog : Program} {w : World} {A : Around} {R : Result → Shared → Prop} {s : Shared} {elt target iter : Expr} {ifs : List Expr} {scope : Scope} {pos : Pos} {it acc : Value} {env : Env} (Iv : Nat → Shared → Prop)
    (turn : ∀ n s, Iv n s → wpAny (model prog w) A (pyNext it) (fun r s₁ => match r with
      | none => R (.ok .next) s₁
      | some v => wpAny (model prog w) A (letOwnedTupleGo target it v) (fun _ s₂ => wpAny (model prog w) A (assign target env v) (fun _ s₃ =>
          wpAny (model prog w) A (forIn ifs true fun c r => if r = true then do let ok ← isTrue c env (eval c env); pure (ForInStep.yield ok) else pure (ForInStep.yield r)) (fun ok s₄ =>
            if ok = true then wpAny (model prog w) A (eval elt env) (fun x s₅ => wpAny (model prog w) A (call (.builtin "list.append") [acc, x]) (fun _ s₆ => ∃ m, m < n ∧ Iv m s₆) (fun _ _ => False) s₅) (fun _ _ => False) s₄
            else ∃ m, m < n ∧ Iv m s₄) (fun _ _ => False) s₃) (fun _ _ => False) s₂) (fun _ _ => False) s₁) (fun _ _ => False) s)
    (n : Nat) (h : Iv n s) : codeAny (model prog w) A (.compLoop (.ListComp elt [⟨target, iter, ifs, 0⟩] scope pos) 0 it acc env) R s := by
  refine codeAny_loop rfl Iv (fun n s hI => ?_) n h
  show wpAny _ A ((compTurn (.ListComp elt [⟨target, iter, ifs, 0⟩] scope pos) 0 it acc env).onRaise (fun x => do noteFrame x env; theTreesLotGoes x)) _ _ s
  refine wpAny_noted ?_
  rw [compTurn_list]
  have no : ∀ {α : Type} {t : Sem α} {Q : α → Shared → Prop} {E : Value → Shared → Prop} {s : Shared}, wpAny (model prog w) A t Q (fun _ _ => False) s → wpAny (model prog w) A t Q E s := fun h => wpAny_mono h (fun _ _ q => q) fun _ _ q => q.elim
  refine wpAny_bind (wpAny_standAt (wpAny_bind (no (thn (turn n s hI) fun r s₁ h₁ => ?_))))
  cases r with
  | none => exact no (wpAny_pure h₁)
  | some v =>
    refine wpAny_bind (no (thn h₁ fun _ s₂ h₂ => wpAny_bind (no (thn h₂ fun _ s₃ h₃ => wpAny_bind (no (thn h₃ fun ok s₄ h₄ => ?_))))))
    cases ok with
    | false => exact no (wpAny_pure ⟨rfl, h₄⟩)
    | true => exact wpAny_bind (wpAny_bind (no (thn h₄ fun x s₅ h₅ => wpAny_bind (no (thn h₅ fun _ s₆ h₆ => wpAny_pure (wpAny_pure ⟨rfl, h₆⟩))))))
theorem comp_block {pins : List (Addr × Obj)} {σ : St} {s2 : Shared} {H2 : Hp} {J : It} {fp : List Addr} {it : Addr} {tn : Nat → Heap → Prop} {E : Value → Shared → Prop} {RR : Value → Addr → Result → Shared → Prop} {P : List V → Hp → Prop} (hcm : X.calm = true)
    (B : BScope X scope cl T Fr idx) (hb : ∀ s₀ H₀ C ex pn, PG (blk X scope cl (T ++ Fr) s₀ H₀ C ex pn) tg g ∧ PTs (blk X scope cl (T ++ Fr) s₀ H₀ C ex pn) ifs tt ∧ PE (blk X scope cl (T ++ Fr) s₀ H₀ C ex pn) elt te)
    (I2 : Inv X pins σ H2 s2) (Tn : Turn X.prog X.w X.K tg J fp it tn) (st2 : tn 0 s2.heap) (f2 : ∀ b ∈ fp, FpOk X pins H2 b)
    (W : Nat → Nat → List V → St → Hp → Prop) (w0 : ∃ m, W 0 m [] (frame0 T idx σ) H2)
    (turn : ∀ i m ys σ' H, W i m ys σ' H → (J.stop i H ∧ P ys H) ∨ (J.go i H ∧ ys.length < sizeLine ∧ ∀ x H', J.yld i H x H' → g x σ' H' fun σ2 H2 => tt σ2 H2 fun b H3 => if b = true then te σ2 H3 fun y H4 => ∃ m', m' < m ∧ W (i + 1) m' (ys ++ [y]) σ2 H4 else ∃ m', m' < m ∧ W (i + 1) m' ys σ2 H3))
    (hRR : ∀ (D C : Addr) (s' : Shared) (H' : Hp) (ys : List V), H' D = none → P ys H' → Inv X pins σ (upd H' D (.lst ys)) s' → (∃ m, s'.heap.Ns C m) → (upd H' D (.lst ys)) C = none → C ≠ X.env.locals → X.s₀.heap.objs.size ≤ C → (∀ x c, X.env.cells.lookup x = some c → c ≠ C) → (∀ p ∈ X.pn ++ pins, p.1 ≠ C) → RR (.ref D) C (.ok .next) s') :
    wpAny (model X.prog X.w) X.A (newList []) (fun acc s₃ => wpAny (model X.prog X.w) X.A (newFunctionEnv scope X.env.globals cl [] X.env.qual none .none (some X.env)) (fun cenv s₄ =>
      codeAny (model X.prog X.w) X.A (.compStart (.ListComp elt [⟨tg, iter, ifs, 0⟩] scope pos) 0 (.ref it) acc { cenv with scope := relabel scope X.env }) (RR acc cenv.locals) s₄) E s₃) E s2 := by
  refine wpAny_newObj_type (wpAny_newFunctionEnv B.nocell (by intro y hy; simp at hy) (fun h4 ns4 sb4 => ?_) B.kind)
  dsimp only at ns4 sb4 ⊢
  have hk3 : ∀ b o, s2.heap.get? b = some o → (s2.heap.push { cls := .type "list", dict := none, data := .seq ([] : List Value).toArray }).get? b = some o := fun b o e => Heap.get?_push_of_some _ e
  have oD3 : (s2.heap.push { cls := .type "list", dict := none, data := .seq ([] : List Value).toArray }).get? s2.heap.objs.size = some { cls := .type "list", dict := none, data := .seq ([] : List Value).toArray } := Heap.get?_push_size _ rfl
  have sz3 : (s2.heap.push { cls := .type "list", dict := none, data := .seq ([] : List Value).toArray }).objs.size = s2.heap.objs.size + 1 := Heap.size_push _ _
  generalize s2.heap.push { cls := .type "list", dict := none, data := .seq ([] : List Value).toArray } = h3 at ns4 sb4 hk3 oD3 sz3 ⊢
  have I3 : Inv X pins σ H2 { s2 with heap := h3 } := I2.kept (t' := s2.toks) hk3
  have Dfresh : H2 s2.heap.objs.size = none := I2.hok.fresh (Nat.le_refl _)
  have hk4 : ∀ b o, h3.get? b = some o → h4.get? b = some o := fun b o e => sb4.extBut b o (Nat.ne_of_lt (Heap.lt_size e)) (Heap.get?_push_of_some _ e)
  have Cfresh : H2 h3.objs.size = none := I3.hok.fresh (Nat.le_refl _)
  have neDC : s2.heap.objs.size ≠ h3.objs.size := by rw [sz3]; exact Nat.ne_of_lt (Nat.lt_succ_self _)
  -- facts about D, C, fp in X
  have fD : FpOk X pins H2 s2.heap.objs.size := I2.fpOk (Nat.le_refl _) Dfresh
  have fC : FpOk X pins H2 h3.objs.size := I3.fpOk (Nat.le_refl _) Cfresh
  have exOf : ∀ b ∈ s2.heap.objs.size :: fp, FpOk X pins H2 b ∧ b ≠ h3.objs.size := fun b hb' => by
    rcases List.mem_cons.mp hb' with e | e
    · subst e; exact ⟨fD, neDC⟩
    · refine ⟨f2 b e, ?_⟩
      obtain ⟨o, ho, _⟩ := Tn.obj 0 _ st2 b e
      exact Nat.ne_of_lt (Heap.lt_size (hk3 b o ho))
  -- the block's context
  generalize hX' : blk X scope cl (T ++ Fr) { s2 with heap := h3 } H2 h3.objs.size (s2.heap.objs.size :: fp) (X.pn ++ pins) = X'
  obtain ⟨hG, hT, hE⟩ := hb { s2 with heap := h3 } H2 h3.objs.size (s2.heap.objs.size :: fp) (X.pn ++ pins)
  rw [hX'] at hG hT hE
  have ok' : X'.Ok := by
    subst hX'
    exact {
      mod := I3.ok.mod
      kind := B.kind
      glob := I3.ok.glob
      blt := I3.ok.blt
      above := Nat.le_refl _
      inj := fun x y c e1 e2 => I3.ok.inj x y c (B.sub x c e1) (B.sub y c e2)
      has := fun x h => B.has h
      cab := fun x c h => by cases h
      hd := I3.ok.hd
      frames := I3.ok.frames
      stk := .inl rfl
      exf := fun b hb' => ⟨(exOf b hb').2, fun x c e => (exOf b hb').1.2.2.2.2.1 x c (B.sub x c e)⟩
      bs := fun b o e => I3.bs b o e
      bsz := Nat.le_trans I3.ok.bsz I3.sz
      noex := fun b o e hb' => by
        rcases (exOf b hb').1.2.2.2.1 with z | z
        · exact I3.ok.noex b o e z
        · exact absurd (Nat.lt_of_lt_of_le (Heap.lt_size e) (Nat.le_trans I3.ok.bsz z)) (Nat.lt_irrefl _)
      exfs := fun b hb' hf => by
        rcases List.mem_cons.mp (I3.stkSub b hf) with z | z
        · exact (exOf b hb').1.2.1 z
        · exact (exOf b hb').1.2.2.1 z
      funs := I3.stack
      frf := fun b hb' => I3.stkFree b hb' }
  have xA : X'.A = X.A := by subst hX'; rfl
  have xp : X'.prog = X.prog := by subst hX'; rfl
  have xw : X'.w = X.w := by subst hX'; rfl
  have xK : X'.K = X.K := by subst hX'; rfl
  have xc : X'.calm = true := by subst hX'; exact hcm
  have xe : X'.env = compEnvC scope cl h3.objs.size X.env := by subst hX'; rfl
  have I4 : Inv X' [] (frame0 T idx σ) H2 { s2 with heap := h4 } := by
    have hN : X'.N = T ++ Fr := by subst hX'; rfl
    refine ⟨ok', by subst hX'; rfl, I3.bare, by subst hX'; exact Un.kept hk4, ?_, ?_, by subst hX'; exact Cfresh, ?_, ?_, ?_, ?_⟩
    · obtain ⟨m, hn, hl⟩ := I3.loc
      refine ⟨_, by rw [xe]; exact ns4, fun i x v e1 e2 e3 => ?_⟩
      rw [hN] at e1
      unfold frame0 at e2
      by_cases hi : i < T.length
      · rw [List.getElem?_append_left (by rw [List.length_map]; exact hi), List.getElem?_map, List.getElem?_eq_getElem hi] at e2
        cases e2
      · rw [List.getElem?_append_right (by omega)] at e1
        rw [List.getElem?_append_right (by rw [List.length_map]; omega), List.length_map, List.getElem?_map] at e2
        obtain ⟨i0, c, q1, q2, q3, q4, q5⟩ := B.fr _ x e1
        rw [q1] at e2
        have e2' : (σ[i0]?).join = some v := Option.some.inj e2
        have e2'' : σ[i0]? = some (some v) := by
          cases z : σ[i0]? with
          | none => rw [z] at e2'; cases e2'
          | some y => rw [z] at e2'; have : y = some v := e2'; rw [this]
        obtain ⟨u, r, l⟩ := hl i0 x v q2 e2'' (by
          rcases q3 with z | z
          · exact .inr (.inl z)
          · exact .inr (.inr z))
        refine ⟨u, r, ?_⟩
        rcases l with ⟨k, _⟩ | ⟨k, c', e, z⟩
        · rcases q3 with y | y <;> (rw [y] at k; cases k)
        · have := B.sub x c q4
          rw [e] at this
          cases this
          refine .inr ⟨by rw [xe]; exact q5, _, by rw [xe]; exact q4, ?_⟩
          obtain ⟨o, ho, hd⟩ := z
          exact ⟨o, hk4 _ _ ho, hd⟩
    · intro x c e
      rw [xe] at e
      obtain ⟨v, o, ho, hd⟩ := I3.cell x c (B.sub x c e)
      exact ⟨v, o, hk4 _ _ ho, hd⟩
    · intro x c e
      rw [xe] at e
      exact I3.freeC x c (B.sub x c e)
    · intro p hp
      have hp' : p ∈ X.pn ++ pins := by subst hX'; simpa using hp
      obtain ⟨a1, a2, a3, a4, a5⟩ := I3.pin p hp'
      refine ⟨hk4 _ _ a1, a2, ?_, ?_, a5⟩
      · rw [xe]; exact Nat.ne_of_lt (Heap.lt_size a1)
      · subst hX'
        intro hf
        rcases List.mem_cons.mp (I3.stkSub _ hf) with z | z
        · exact a3 z
        · exact a4 z
    · subst hX'
      exact I3.hok.kept hk4
    · rw [hN]
      unfold frame0
      rw [List.length_append, List.length_append, List.length_map, List.length_map, B.len]
  have oD4 := hk4 _ _ oD3
  have st4 : tn 0 h4 := Tn.keep _ _ _ st2 fun b _ o e => hk4 b o (hk3 b o e)
  -- what stays true of the iterator's objects and of D
  have stat : ∀ {H' : Hp} {pins' : List (Addr × Obj)}, (∀ p ∈ pins', p.1 ∉ s2.heap.objs.size :: fp) → (∀ b ∈ s2.heap.objs.size :: fp, H' b = none) → ∀ b ∈ s2.heap.objs.size :: fp, FpOk X' pins' H' b := by
    intro H' pins' hp hn b hb'
    subst hX'
    obtain ⟨⟨z1, z2, z3, z4, z5, z6⟩, z7⟩ := exOf b hb'
    refine ⟨hn b hb', z7, ?_, .inl hb', fun x c e => z5 x c (B.sub x c e), fun p hp' => ?_⟩
    · intro hf
      rcases List.mem_cons.mp (I3.stkSub b hf) with z | z
      · exact z2 z
      · exact z3 z
    · rcases List.mem_append.mp hp' with q | q
      · exact z6 p q
      · intro e; exact hp p q (by rw [e]; exact hb')
  have pinOut : ∀ {h : Heap} {p : Addr × Obj}, p ∈ pinsAt (s2.heap.objs.size :: fp) h → p.1 ∈ s2.heap.objs.size :: fp := fun hp => (of_pinsAt hp).1
  -- the end
  have fin : ∀ (s5 : Shared) (σ5 : St) (H5 : Hp) (ys : List V) (its : List Value) (nD : Nat), Inv X' [] σ5 H5 s5 → (∀ b ∈ s2.heap.objs.size :: fp, H5 b = none) → s5.heap.get? s2.heap.objs.size = some { cls := .type "list", dict := none, data := .seq its.toArray nD } → Vals ys its → ys.length ≤ sizeLine → P ys H5 → RR (.ref s2.heap.objs.size) h3.objs.size (.ok .next) s5 := by
    intro s5 σ5 H5 ys its nD I5 n5 oD5 v5 l5 q5
    have D5 := n5 _ List.mem_cons_self
    have hb5 : Un (frs X.stack) (s2.heap.objs.size :: fp) H2 H5 h3 s5.heap := by have z := I5.base; subst hX'; exact z
    have C5 : H5 h3.objs.size = none := by have z := I5.free; rw [xe] at z; exact z
    have hok5 : HOk X.prog X.w (upd H5 s2.heap.objs.size (.lst ys)) s5.heap := HOk.track (by have z := I5.hok; rw [xp, xw] at z; exact z) D5 ⟨l5, its, nD, v5, oD5⟩
    have u5 : Un (frs X.stack) (s2.heap.objs.size :: fp) H2 (upd H5 s2.heap.objs.size (.lst ys)) h3 s5.heap := by
      have nD' : ∀ b u, H2 b = some u → b ≠ s2.heap.objs.size := fun b u e => ne_of_none e Dfresh
      exact ⟨hb5.keep, hb5.slot, fun b o e n hx => by rw [upd_ne (fun z => hx (by rw [z]; exact List.mem_cons_self))]; exact hb5.free b o e n hx, hb5.there, fun b xs e => by rw [upd_ne (nD' b _ e)]; exact hb5.tups b xs e, fun b o u e => by rw [upd_ne (nD' b _ e)]; exact hb5.frzs b o u e, fun b ps e => by rw [upd_ne (nD' b _ e)]; exact hb5.tbls b ps e⟩
    have os5 : s5.os = s2.os := by have z := I5.os; subst hX'; exact z
    have IX : Inv X pins σ (upd H5 s2.heap.objs.size (.lst ys)) s5 := Inv.call' (s := { s2 with heap := h3 }) I3 os5 u5 hok5 I5.bare fun b hb' => by
      obtain ⟨⟨z1, z2, z3, z4, z5, z6⟩, z7⟩ := exOf b hb'
      exact ⟨z4, z2, z5, z6⟩
    obtain ⟨m5, ns5, _⟩ := I5.loc
    rw [xe] at ns5
    refine hRR s2.heap.objs.size h3.objs.size s5 H5 ys D5 q5 IX ⟨m5, ns5⟩ (by rw [upd_ne (Ne.symm neDC)]; exact C5) fC.2.1 (Nat.le_trans I3.sz (Nat.le_refl _)) fC.2.2.2.2.1 fC.2.2.2.2.2
  obtain ⟨m0, w0⟩ := w0
  have loop : codeAny (model X.prog X.w) X.A (.compLoop (.ListComp elt [⟨tg, iter, ifs, 0⟩] scope pos) 0 (.ref it) (.ref s2.heap.objs.size) (compEnvC scope cl h3.objs.size X.env)) (RR (.ref s2.heap.objs.size) h3.objs.size) { s2 with heap := h4 } := by
    refine loop_any (fun n s5 => ∃ i ys its nD σ5 H5, Inv X' [] σ5 H5 s5 ∧ tn i s5.heap ∧ (∀ b ∈ s2.heap.objs.size :: fp, H5 b = none) ∧ s5.heap.get? s2.heap.objs.size = some { cls := .type "list", dict := none, data := .seq its.toArray nD } ∧ Vals ys its ∧ ys.length ≤ sizeLine ∧ W i n ys σ5 H5) ?_ m0
      ⟨0, [], [], 0, frame0 T idx σ, H2, I4, st4, fun b hb' => (exOf b hb').1.1, oD4, .nil, Nat.zero_le _, w0⟩
    rintro n s5 ⟨i, ys, its, nD, σ5, H5, I5, st5, n5, oD5, v5, l5, w5⟩
    have f5 := stat (pins' := []) (fun p hp => by cases hp) n5
    rcases turn i n ys σ5 H5 w5 with ⟨stop, q⟩ | ⟨go, ll, step⟩
    · have z := Tn.done X' xp xw xK xc i [] s5 σ5 H5 (fun _ _ => False) I5 (fun b hb' => f5 b (List.mem_cons_of_mem _ hb')) st5 stop
      rw [xA] at z
      -- D is not touched by the end
      have z2 := Tn.done X' xp xw xK xc i [(s2.heap.objs.size, { cls := .type "list", dict := none, data := .seq its.toArray nD })] s5 σ5 H5 (fun _ _ => False) (I5.pins_of fun p hp => by
        obtain rfl := List.mem_singleton.mp hp
        have fD5 := f5 _ List.mem_cons_self
        exact ⟨oD5, fD5.1, fD5.2.1, fD5.2.2.1, fun v z => nomatch z⟩) (fun b hb' => by
          obtain ⟨a1, a2, a3, a4, a5, a6⟩ := f5 b (List.mem_cons_of_mem _ hb')
          refine ⟨a1, a2, a3, a4, a5, fun p hp => ?_⟩
          rcases List.mem_append.mp hp with y | y
          · exact a6 p (List.mem_append_left _ y)
          · obtain rfl := List.mem_singleton.mp y
            intro e
            obtain ⟨o, ho, _⟩ := Tn.obj 0 _ st2 b hb'
            exact Nat.lt_irrefl _ (Nat.lt_of_lt_of_le (Heap.lt_size ho) (Nat.le_of_eq (show s2.heap.objs.size = b from e)))) st5 stop
      rw [xA] at z2
      refine thn z2 fun r s6 ⟨hr, I6⟩ => ?_
      subst hr
      have p6 := I6.pin _ (List.mem_append_right _ (List.mem_singleton.mpr rfl))
      exact fin s6 σ5 H5 ys its nD (I6.pins_of fun p hp => by cases hp) n5 p6.1 v5 l5 q
    · have fD5 := f5 _ List.mem_cons_self
      have I5p := I5.pins_of (pins' := [(s2.heap.objs.size, { cls := .type "list", dict := none, data := .seq its.toArray nD })]) fun p hp => by
        obtain rfl := List.mem_singleton.mp hp
        exact ⟨oD5, fD5.1, fD5.2.1, fD5.2.2.1, fun v z => nomatch z⟩
      have fpD : ∀ b ∈ fp, b ≠ s2.heap.objs.size := fun b hb' => by
        obtain ⟨o, ho, _⟩ := Tn.obj 0 _ st2 b hb'
        exact Nat.ne_of_lt (Heap.lt_size ho)
      have fpP : ∀ {H' : Hp}, (∀ b ∈ fp, H' b = none) → ∀ b ∈ fp, FpOk X' [(s2.heap.objs.size, { cls := .type "list", dict := none, data := .seq its.toArray nD })] H' b := by
        intro H' hn b hb'
        obtain ⟨a1, a2, a3, a4, a5, a6⟩ := f5 b (List.mem_cons_of_mem _ hb')
        refine ⟨hn b hb', a2, a3, a4, a5, fun p hp => ?_⟩
        rcases List.mem_append.mp hp with y | y
        · exact a6 p (List.mem_append_left _ y)
        · obtain rfl := List.mem_singleton.mp y
          exact Ne.symm (fpD b hb')
      have z := Tn.item X' xp xw xK xc i _ s5 σ5 H5 (fun _ _ => False) I5p (fpP fun b hb' => n5 b (List.mem_cons_of_mem _ hb')) st5 go
      rw [xA] at z
      refine thn z fun r s6 ⟨u, hr, h6⟩ => ?_
      subst hr
      refine thn h6 fun _ s7 ⟨x, H7, I7, r7, y7, st7, n7⟩ => ?_
      have I7' := I7.pinned (fpP n7) (Tn.obj _ _ st7)
      have xx : X'.xe = fun _ _ => False := by subst hX'; rfl
      have zG := hG _ s7 σ5 H7 x u _ I7' r7 (step x H7 y7)
      rw [xp, xw, xA, xe, xx] at zG
      refine thn zG fun _ s8 ⟨σ8, H8, I8, q8⟩ => ?_
      have zT := hT _ s8 σ8 H8 _ I8 q8
      rw [xp, xw, xA, xe, xx] at zT
      refine thn zT fun ok s9 ⟨H9, I9, q9⟩ => ?_
      -- what holds behind the turn
      have behind : ∀ {H' : Hp} {s' : Shared}, Inv X' ([(s2.heap.objs.size, { cls := .type "list", dict := none, data := .seq its.toArray nD })] ++ pinsAt fp s7.heap) σ8 H' s' → s'.heap.get? s2.heap.objs.size = some { cls := .type "list", dict := none, data := .seq its.toArray nD } ∧ tn (i + 1) s'.heap ∧ ∀ b ∈ s2.heap.objs.size :: fp, H' b = none := by
        intro H' s' I'
        have pD := I'.pin _ (List.mem_append_right _ (List.mem_append_left _ (List.mem_singleton.mpr rfl)))
        refine ⟨pD.1, Tn.keep _ _ _ st7 fun b hb' o e => (I'.pin (b, o) (List.mem_append_right _ (List.mem_append_right _ (mem_pinsAt hb' e)))).1, fun b hb' => ?_⟩
        rcases List.mem_cons.mp hb' with e | e
        · rw [e]; exact pD.2.1
        · obtain ⟨o, e', _⟩ := Tn.obj _ _ st7 b e
          exact (I'.pin (b, o) (List.mem_append_right _ (List.mem_append_right _ (mem_pinsAt e e')))).2.1
      cases ok with
      | false =>
        rw [if_neg Bool.false_ne_true] at q9 ⊢
        obtain ⟨m', hm, w'⟩ := q9
        obtain ⟨b1, b2, b3⟩ := behind I9
        exact ⟨m', hm, i + 1, ys, its, nD, σ8, H9, I9.pins_of (fun p hp => by cases hp), b2, b3, b1, v5, l5, w'⟩
      | true =>
        rw [if_pos rfl] at q9 ⊢
        have zE := hE _ s9 σ8 H9 _ I9 q9
        rw [xp, xw, xA, xe, xx] at zE
        refine thn zE fun y s10 ⟨yv, H10, I10, r10, m', hm, w'⟩ => ?_
        obtain ⟨b1, b2, b3⟩ := behind I10
        have hlen := v5.length
        refine wpAny_list_append_plain (items := its.toArray) ⟨nD, b1⟩ (fun h11 pl11 sb11 => ?_) (by rw [List.size_toArray]; omega)
        obtain ⟨nD', o11⟩ := pl11
        have I10' : Inv X' [] σ8 H10 s10 := I10.pins_of fun p hp => by cases hp
        obtain ⟨a1, a2, a3, a4, a5, a6⟩ := stat (pins' := []) (fun p hp => by cases hp) b3 _ List.mem_cons_self
        have I11 : Inv X' [] σ8 H10 { s10 with heap := h11 } := I10'.turned (t' := s10.toks) (fun b o hb' e => (sb11.2 b hb').trans e) a1 a2 a4 a5 a6
        refine ⟨m', hm, i + 1, ys ++ [yv], its ++ [y], nD', σ8, H10, I11, Tn.keep _ _ _ b2 fun b hb' o e => (sb11.2 b (fpD b hb')).trans e, b3, by simpa using o11, v5.append (.cons r10 .nil), by rw [List.length_append, List.length_singleton]; omega, w'⟩
  exact codeAny_compStart_list loop (Tn.self _ 0 _ _ _ st4 loop)
theorem pe_comp (hcm : X.calm = true) (hi : PI X tg iter wi) (B : BScope X scope cl T Fr idx) (hb : ∀ s₀ H₀ C ex pn, PG (blk X scope cl (T ++ Fr) s₀ H₀ C ex pn) tg g ∧ PTs (blk X scope cl (T ++ Fr) s₀ H₀ C ex pn) ifs tt ∧ PE (blk X scope cl (T ++ Fr) s₀ H₀ C ex pn) elt te)
    (hs : ∀ x, foldedSetIterable iter X.env x = pure x := by intro _; rfl) : PE X (.ListComp elt [⟨tg, iter, ifs, 0⟩] scope pos) (tComp wi T idx g tt te) := by
  intro pins s σ H Q I h
  rw [eval_ListComp]
  refine wpAny_comprehension_free (use := none) rfl hs B.clos B.kind B.names (thn (hi pins s σ H _ I h) fun v s1 h1 => thn h1 fun itv s2 h2 => ?_)
  obtain ⟨it, fp, tn, J, H2, e, I2, Tn, st2, f2, W, w0, turn⟩ := h2
  subst e
  refine comp_block (RR := fun acc C => compPost (model X.prog X.w) X.A X.xe none (EP X pins σ Q) acc C) (P := fun ys H => ∀ p, H p = none → Q (.ref p) (upd H p (.lst ys))) hcm B hb I2 Tn st2 f2 W w0 turn ?_
  intro D C s' H' ys hD q IX ⟨m, ns⟩ hC c1 c2 c3 c4
  exact ⟨m, ns, fun h' sb => ⟨.ref D, _, IX.turned (t' := s'.toks) (fun b o hb' e => (sb.2 b hb').trans e) hC c1 (.inr c2) c3 c4, rfl, q D hD⟩⟩
def tCompS (wi : TI) (T : List Str) (idx : List Nat) (g : TG) (tt : TT) (te : TE) (j : Nat) : TS := fun D σ H => wi σ H fun J H1 => ∃ W : Nat → Nat → List V → St → Hp → Prop, (∃ m, W 0 m [] (frame0 T idx σ) H1) ∧ ∀ i m ys σ' H, W i m ys σ' H →
  (J.stop i H ∧ ∀ p, H p = none → D.nx (σ.set j (some (.ref p))) (upd H p (.lst ys))) ∨ (J.go i H ∧ ys.length < sizeLine ∧ ∀ x H', J.yld i H x H' → g x σ' H' fun σ2 H2 => tt σ2 H2 fun b H3 => if b = true then te σ2 H3 fun y H4 => ∃ m', m' < m ∧ W (i + 1) m' (ys ++ [y]) σ2 H4 else ∃ m', m' < m ∧ W (i + 1) m' ys σ2 H3)
/-- y = [..], the line and the name as usual -/
theorem ps_comp {j : Nat} {y : Str} {py spos : Pos} (hN : X.N.Nodup) (hj : X.N[j]? = some y) (hy : X.env.scope.names.lookup y = some .local) (hsw : swapsWith (.ListComp elt [⟨tg, iter, ifs, 0⟩] scope pos) (some (.Name y py)) spos.line X.env = pure true)
    (hcm : X.calm = true) (hi : PI X tg iter wi) (B : BScope X scope cl T Fr idx) (hb : ∀ s₀ H₀ C ex pn, PG (blk X scope cl (T ++ Fr) s₀ H₀ C ex pn) tg g ∧ PTs (blk X scope cl (T ++ Fr) s₀ H₀ C ex pn) ifs tt ∧ PE (blk X scope cl (T ++ Fr) s₀ H₀ C ex pn) elt te)
    (hs : ∀ x, foldedSetIterable iter X.env x = pure x := by intro _; rfl) : PS X (.Assign [.Name y py] (.ListComp elt [⟨tg, iter, ifs, 0⟩] scope pos) spos) (tCompS wi T idx g tt te j) := by
  intro pins s σ H D I h
  rw [exec_Assign_Name_used _ _ _ _ hsw]
  refine wpAny_bind (wpAny_standAt (wpAny_bind ?_))
  show wpAny _ X.A (do let _ ← comprehension (.ListComp elt [⟨tg, iter, ifs, 0⟩] scope pos) scope X.env _ (newList []) false (eval iter X.env) (some (assign (.Name y py) X.env))) _ _ s
  refine wpAny_bind (thn (wpAny_comprehension_free (use := some (assign (.Name y py) X.env)) (Q := fun _ s' => SP X pins D .next s') rfl hs B.clos B.kind B.names (thn (hi pins s σ H _ I h) fun v s1 h1 => thn h1 fun itv s2 h2 => ?_)) fun _ s' hq => wpAny_pure (wpAny_pure hq))
  obtain ⟨it, fp, tn, J, H2, e, I2, Tn, st2, f2, W, w0, turn⟩ := h2
  subst e
  refine comp_block (RR := fun acc C => compPost (model X.prog X.w) X.A X.xe (some (assign (.Name y py) X.env)) (fun _ s' => SP X pins D .next s') acc C) (P := fun ys H => ∀ p, H p = none → D.nx (σ.set j (some (.ref p))) (upd H p (.lst ys))) hcm B hb I2 Tn st2 f2 W w0 turn ?_
  intro Dd C s' H' ys hD q IX ⟨m, ns⟩ hC c1 c2 c3 c4
  show wpAny _ X.A (assign (.Name y py) X.env (.ref Dd)) _ _ _
  refine wpAny_assign_Name (store_ok2 IX hN hj (.inl hy) (v := .ref Dd) rfl (fun s3 I3 ⟨a, sb3, ha⟩ => ?_) (.inr hy))
  have hCa : C ≠ a := by
    rcases ha with z | z
    · rw [z]; exact c1
    · exact Ne.symm (c3 _ _ z)
  exact ⟨m, ns.sameBut sb3 hCa, fun h' sb => ⟨_, _, I3.turned (t' := s3.toks) (fun b o hb' e => (sb.2 b hb').trans e) hC c1 (.inr c2) c3 c4, q Dd hD⟩⟩
end
end L2

namespace L2
open PySem PySem.Spec PyProof.Rows
/-! ### all(x < y for x, y in zip(one, other)), lists of ints -/
/-- where the code of a generator expression is kept: the def's code object and its table -/
structure GenTab (X : Cx) (c P : Addr) : Prop where
  code : X.env.code = .ref c
  hd : PySem.W.CodeHd X.base c P
  blt : ∃ bm ob, X.mg "__builtins__" = some (.ref bm) ∧ bm ≠ builtinsNs ∧ X.base.get? bm = some ob ∧ ob.cls = .type "module" ∧ ob.dict = some builtinsNs ∧ ob.data = .plain
def TabAt (H : Hp) (P : Addr) : Prop := ∃ ps, H P = some (.tbl ps) ∧ TriplesOk ps.toList
theorem triples_snoc {a b : Int} {c : Value} : ∀ (l : List Value), TriplesOk l → TriplesOk (l ++ [.int a 0, .int b 0, c])
  | [], _ => trivial
  | .int _ _ :: .int _ _ :: _ :: r, h => triples_snoc r h
def lessAll (ns ms : List Int) : Bool := (ns.zip ms).all fun p => decide (p.1 < p.2)
theorem all_zip (ns ms : List Int) : (List.range (min ns.length ms.length)).all (fun j => decide (ns.getD j 0 < ms.getD j 0)) = lessAll ns ms := by
  unfold lessAll
  rw [Bool.eq_iff_iff, List.all_eq_true, List.all_eq_true]
  constructor
  · intro h p hp
    obtain ⟨j, hj⟩ := List.getElem?_of_mem hp
    obtain ⟨h1, h2⟩ := List.getElem?_zip_eq_some.mp hj
    have l1 := (List.getElem?_eq_some_iff.mp h1).1
    have l2 := (List.getElem?_eq_some_iff.mp h2).1
    have := h j (List.mem_range.mpr (by omega))
    rw [List.getD_eq_getElem?_getD, List.getD_eq_getElem?_getD, h1, h2] at this
    exact this
  · intro h j hj
    have hj := List.mem_range.mp hj
    have e1 : ns[j]? = some (ns.getD j 0) := by rw [List.getD_eq_getElem?_getD, List.getElem?_eq_getElem (by omega)]; rfl
    have e2 : ms[j]? = some (ms.getD j 0) := by rw [List.getD_eq_getElem?_getD, List.getElem?_eq_getElem (by omega)]; rfl
    have hz : (ns.zip ms)[j]? = some (ns.getD j 0, ms.getD j 0) := List.getElem?_zip_eq_some.mpr ⟨e1, e2⟩
    exact h _ (List.mem_of_getElem? hz)
def tLess (K : PySem.W.Frag) (P : Addr) (ta : TA) : TE := fun σ H Q => ta σ H fun vs H1 => ∃ (a b : Addr) (ns ms : List Int), vs = [.ref a, .ref b] ∧ SqL K H1 a (ns.map V.int) ∧ SqL K H1 b (ms.map V.int) ∧ TabAt H1 P ∧
  ∀ H', (∀ b o, b ≠ P → H1 b = some o → H' b = some o) → (∀ b, b ≠ P → H1 b = none → H' b = none) → TabAt H' P → Q (.bl (lessAll ns ms)) H'
section
variable {X : Cx}
/-- the table has grown (or not), all else is kept -/
theorem Inv.tabled {pins : List (Addr × Obj)} {σ : St} {H : Hp} {s s' : Shared} {P : Addr} {ps more : Array Value} (I : Inv X pins σ H s) (hP : H P = some (.tbl ps)) (ho : s'.os = s.os) (hg : AllBare s'.gens)
    (k : ∀ b o, b ≠ P → s.heap.get? b = some o → s'.heap.get? b = some o) (e : s'.heap.get? P = some { cls := .none, data := .fields (ps ++ more) }) : Inv X pins σ (upd H P (.tbl (ps ++ more))) s' := by
  have nP : ∀ b, H b = none → b ≠ P := fun b n z => by rw [z, hP] at n; cases n
  have nO : ∀ b u, H b = some u → (∀ q, u ≠ .tbl q) → b ≠ P := fun b u n f z => by rw [z, hP] at n; cases n; exact f _ rfl
  refine I.call' (ch := []) ho ⟨fun b o q n _ _ => k b o (nP b n) q, fun b o q n _ _ => ⟨o.slots, k b o (nP b n) q⟩, fun b o q n _ => by rw [upd_ne (nP b n)]; exact n, fun b o q _ => ?_, fun b xs q => by rw [upd_ne (nO b _ q (fun _ z => nomatch z))]; exact q, fun b o u q => by rw [upd_ne (nO b _ q (fun _ z => nomatch z))]; exact q, fun b qs q => ?_⟩ (fun b u q => ?_) hg fun b hb => by cases hb
  · by_cases hb : b = P
    · rw [hb]; exact ⟨_, e⟩
    · exact ⟨o, k b o hb q⟩
  · by_cases hb : b = P
    · subst hb
      rw [hP] at q
      cases q
      exact ⟨more, upd_same⟩
    · exact ⟨#[], by rw [upd_ne hb, q]; simp⟩
  · by_cases hb : b = P
    · subst hb
      rw [upd_same] at q
      cases q
      exact e
    · rw [upd_ne hb] at q
      refine (I.hok b u q).stay (fun c v hc z => k c v ?_ z) (fun c z => by rw [upd_ne (nO c _ z (fun _ y => nomatch y))]; exact z) fun c xs z => by rw [upd_ne (nO c _ z (fun _ y => nomatch y))]; exact z
      rcases hc with y | y
      · rw [y]; exact hb
      · exact nO c _ y (fun _ x => nomatch x)
theorem less_elt {prog : Program} {w : World} {A : Around} {E : Value → Shared → Prop} {s : Shared} {env : Env} {xa xb : Str} {q1 q2 q3 : Pos} {m : Str → Option Value} {i j : Int} {t u : Tok} {Q : Value → Shared → Prop} (hk : env.scope.kind = .function) (ka : env.kindOf xa = some .local) (kb : env.kindOf xb = some .local) (hn : s.heap.Ns env.locals m)
    (ha : m xa = some (.int i t)) (hb : m xb = some (.int j u)) (da : (xa == ("__debug__" : Str)) = false) (db : (xb == ("__debug__" : Str)) = false) (h : Q (.bool (decide (i < j))) s) : wpAny (model prog w) A (eval (.Compare (.Name xa q1) [.Lt] [.Name xb q2] q3) env) Q E s := by
  refine wpAny_Compare1 (wpAny_Name (wpAny_loadName_local hk ka hn ha (wpAny_Name (wpAny_loadName_local hk kb hn hb (lt_int h)) db)) da) (nomark _)
variable {e1 e2 : Expr} {ta : TA} {xa xb : Str} {p1 p2 p3 p4 q1 q2 q3 pa pb pt gpos : Pos} {kt : Nat} {gsc : Scope} {c P : Addr}
theorem pe_less (hcm : X.calm = true) (G : GenTab X c P) (hroom : X.A.depth < recursionLimit) (hga : Gl X "all") (hma : X.mg "all" = none) (hgz : Gl X "zip") (hmz : X.mg "zip" = none) (hargs : PA X [e1, e2] ta)
    (hk : gsc.kind = .function) (hco : gsc.isCoroutine = false) (hclos : closureFor gsc X.env = pure []) (hcell : ∀ y ∈ gsc.names, y.2 ≠ .cell) (h0 : gsc.names.lookup (".0" : Str) = some NameKind.local) (hxa : gsc.names.lookup xa = some .local) (hxb : gsc.names.lookup xb = some .local) (hab : xa ≠ xb)
    (da : (xa == ("__debug__" : Str)) = false) (db : (xb == ("__debug__" : Str)) = false)
    (hs1 : starEach [e1, e2] X.env = (false, eval e1 X.env) :: starEach [e2] X.env := by rfl) (hs2 : (backTo p3 (starEach [e2] X.env)).any (·.1) = false := by rfl) :
    PE X (.Call (.Name "all" p1) [.GeneratorExp (.Compare (.Name xa q1) [.Lt] [.Name xb q2] q3) [⟨.Tuple [.Name xa pa, .Name xb pb] kt pt, .Call (.Name "zip" p2) [e1, e2] [] p3, [], 0⟩] gsc gpos] [] p4) (tLess X.K P ta) := by
  intro pins s σ H Q I h
  have hh : X.A.handled = none := I.ok.hd hcm
  refine wpAny_Call_Name_kw (ld_blt I hga hma boot_all (PyProof.Rows.callWith_builtin1 ?_ rfl rfl))
  show wpAny _ _ (spliced [(false, eval (.GeneratorExp (.Compare (.Name xa q1) [.Lt] [.Name xb q2] q3) [⟨.Tuple [.Name xa pa, .Name xb pb] kt pt, .Call (.Name "zip" p2) [e1, e2] [] p3, [], 0⟩] gsc gpos) X.env)]) _ _ s
  refine Calls.spliced_cons (wpAny_GeneratorExp_walksQTD hh hco hclos hcell h0 hxa hxb hab hk hroom (wpAny_Call_Name_kw (ld_blt I hgz hmz boot_zip (PyProof.Rows.callWith_type1 (thn (hargs p3 pins s σ H _ I h) fun us s1 ⟨vs, H1, I1, r1, q1⟩ => ?_) hs1 hs2))) (fun _ => rfl))
  obtain ⟨a, b, ns, ms, rfl, ha, hb, ⟨ps, hP, tr⟩, q⟩ := q1
  obtain ⟨ua, ub, rfl, ra, rb⟩ := vals2 r1
  cases ra
  cases rb
  obtain ⟨ia, va, pla, za⟩ := I1.list ha
  obtain ⟨ib, vb, plb, zb⟩ := I1.list hb
  have alt : a < s1.heap.objs.size := by obtain ⟨o, e, _⟩ := pla.isList; exact Heap.lt_size e
  have blt : b < s1.heap.objs.size := by obtain ⟨o, e, _⟩ := plb.isList; exact Heap.lt_size e
  have Pobj : s1.heap.get? P = some (PySem.W.tabObj ps) := I1.hok P _ hP
  have Plt : P < s1.heap.objs.size := Heap.lt_size Pobj
  refine call_zip_2 pla.isList plb.isList fun h2 hz hTI hTO hi1 hi2 sz2 k2 => ?_
  have D := zipApart_new alt blt
  have W := fun (A' : Around) (hA : A'.handled = none) => (WalksT.zip2 (prog := X.prog) (w := X.w) hA _ _ _ _ _ _ _ D ia.toArray ib.toArray).toU
  have hst : IsZip h2 (s1.heap.objs.size + 4) (s1.heap.objs.size + 2) (s1.heap.objs.size + 3) .none ∧ IsPair h2 (s1.heap.objs.size + 2) (.ref s1.heap.objs.size) (.ref (s1.heap.objs.size + 1)) ∧ (∃ a b, IsPair h2 (s1.heap.objs.size + 3) a b) ∧ h2.IsListIter s1.heap.objs.size a 0 ∧ h2.IsListIter (s1.heap.objs.size + 1) b 0 ∧ h2.IsList a ia.toArray ∧ h2.IsList b ib.toArray :=
    ⟨hz, hTI, ⟨_, _, hTO⟩, hi1, hi2, pla.isList.at fun o e => k2 _ o e, plb.isList.at fun o e => k2 _ o e⟩
  refine (W X.A hh).self 0 { s1 with heap := h2 } _ _ hst ?_
  have I2 : Inv X pins σ H1 { s1 with heap := h2 } := I1.kept (t' := s1.toks) k2
  refine ⟨I2.nolimit, ?_⟩
  have hd2 : PySem.W.CodeHd h2 c P := G.hd.keeps fun b o e => I2.bk b o e
  have isC := hd2.code (k2 P _ Pobj) tr
  have isT := hd2.tab (k2 P _ Pobj)
  obtain ⟨bm, ob, b1, b2, b3, b4, b5, b6⟩ := G.blt
  -- behind the code: the table is ps ++ more, all else is kept
  have rest : ∀ (code : Value) (h3 : Heap) (tk : Nat) (more : Array Value), (∀ b o, b ≠ P → h2.get? b = some o → h3.get? b = some o) → h2.objs.size ≤ h3.objs.size → h3.get? P = some { cls := .none, data := .fields (ps ++ more) } → TriplesOk (ps ++ more).toList →
      wpAny (model X.prog X.w) X.A (builtinsFor X.env.globals X.env.builtins) (fun bi s₄ => ∃ I fp wr n₀ Pt St₀ Mid pz F, Value.ref (s1.heap.objs.size + 4) = .ref I ∧ (∀ A' : Around, A'.handled = none → WalksU X.prog X.w A' I fp wr n₀ Pt St₀ Mid) ∧ (∀ i vals, Pt i vals → ∃ va vb, vals = #[va, vb]) ∧ St₀ 0 s₄.heap ∧ (∀ b ∈ fp, b < s₄.heap.objs.size) ∧ s₄.heap.NoLimit ∧ cStatics ∉ wr ∧
          (∀ href : Heap, (∀ b o, s₄.heap.get? b = some o → href.get? b = some o) →
            QuietGenTD X.prog X.w (genEnv gsc [] s₄.heap.objs.size code bi X.env) xa xb [] (.Compare (.Name xa q1) [.Lt] [.Name xb q2] q3) (List.range s₄.heap.objs.size) wr Pt pz F href (X.A.depth + 1) (X.A.units + 8)) ∧
          (∀ a h₅ tk gs, gs.bare = true → s₄.heap.objs.size < a → h₅.objs.size = a + 1 → (∀ b o, s₄.heap.get? b = some o → h₅.get? b = some o) →
            WalksS X.prog X.w X.A.in4 a (a :: s₄.heap.objs.size :: List.range s₄.heap.objs.size) (s₄.heap.objs.size :: wr) (GenOnlyQ s₄.gens.size) (passing pz n₀ 0).length
              (fun j y => ∃ i, (passing pz n₀ 0)[j]? = some i ∧ F i y) (GenAt X.prog X.w X.A.in4 a s₄.gens.size s₄.heap.objs.size (List.range s₄.heap.objs.size) wr pz n₀ F) →
            GenAt X.prog X.w X.A.in4 a s₄.gens.size s₄.heap.objs.size (List.range s₄.heap.objs.size) wr pz n₀ F 0 { s₄ with gens := s₄.gens.push gs, toks := tk, heap := h₅ } →
            wpAny (model X.prog X.w) X.A (spliced []) (fun us s₆ => wpAny (model X.prog X.w) X.A (call (.builtin "all") (.ref a :: us)) (EP X pins σ Q) X.xe s₆) X.xe { s₄ with gens := s₄.gens.push gs, toks := tk, heap := h₅ })) X.xe { s1 with heap := h3, toks := tk } := by
    intro code h3 tk more k3 sz3 e3 tr3
    have I3 : Inv X pins σ (upd H1 P (.tbl (ps ++ more))) { s1 with heap := h3, toks := tk } := Inv.tabled (s := { s1 with heap := h2 }) (s' := { s1 with heap := h3, toks := tk }) I2 hP rfl I2.bare k3 e3
    have bk3 := I3.bk
    refine wpAny_builtinsFor (by rw [I3.ok.glob]; exact I3.mod.glob.keeps bk3) b1 b2 (bk3 _ _ b3) b4 b5 b6 ?_
    have nz : ∀ k, s1.heap.objs.size + k ≠ P := fun k => Nat.ne_of_gt (Nat.lt_of_lt_of_le Plt (Nat.le_add_right _ _))
    have notP : ∀ (l : Addr) (its : Array Value), s1.heap.IsList l its → l ≠ P := fun l its ⟨o, e, c, _⟩ z => by
      rw [z, Pobj] at e
      cases e
      cases c
    have cst : cStatics < s1.heap.objs.size := by obtain ⟨mc, hn, _⟩ := I1.nolimit; exact hn.lt
    have lenA := va.length
    have lenB := vb.length
    rw [List.length_map] at lenA lenB
    have atA : ∀ (i : Nat) (x : Value), ia.toArray[i]? = some x → ∃ t, x = .int (ns.getD i 0) t := fun i x hx => IntsAre.int_at (ints_vals va) i x (by simpa using hx)
    have atB : ∀ (i : Nat) (x : Value), ib.toArray[i]? = some x → ∃ t, x = .int (ms.getD i 0) t := fun i x hx => IntsAre.int_at (ints_vals vb) i x (by simpa using hx)
    have lt3 : ∀ k, k < 5 → s1.heap.objs.size + k < h3.objs.size := fun k hk => Nat.lt_of_lt_of_le (Nat.add_lt_add_left hk _) (Nat.le_trans (Nat.le_of_eq sz2.symm) sz3)
    refine ⟨_, _, _, _, _, _, _, (fun _ => true), (fun i y => y = .bool (decide (ns.getD i 0 < ms.getD i 0))), rfl, W, fun i vals ⟨x, y, _, _, e⟩ => ⟨x, y, e⟩, (W X.A hh).frame _ _ _ hst fun b hb o e => k3 b o ?_ e, fun b hb => ?_, I3.nolimit, ?_, fun href hk4 => ?_, fun g h5 tk5 gs gb g1 g2 k5 WS GA => ?_⟩
    · simp only [List.mem_cons, List.not_mem_nil, or_false] at hb
      rcases hb with z | z | z | z | z | z | z <;> rw [z]
      · exact nz 4
      · exact nz 2
      · exact nz 3
      · exact nz 0
      · exact nz 1
      · exact notP _ _ pla.isList
      · exact notP _ _ plb.isList
    · simp only [List.mem_cons, List.not_mem_nil, or_false] at hb
      rcases hb with z | z | z | z | z | z | z <;> rw [z]
      · exact lt3 4 (by decide)
      · exact lt3 2 (by decide)
      · exact lt3 3 (by decide)
      · exact lt3 0 (by decide)
      · exact lt3 1 (by decide)
      · exact Nat.lt_trans alt (lt3 0 (by decide))
      · exact Nat.lt_trans blt (lt3 0 (by decide))
    · intro hb
      simp only [List.mem_cons, List.not_mem_nil, or_false] at hb
      have big : ∀ k, cStatics ≠ s1.heap.objs.size + k := fun k => Nat.ne_of_lt (Nat.lt_of_lt_of_le cst (Nat.le_add_right _ _))
      rcases hb with z | z | z | z
      · exact big 4 z
      · exact big 3 z
      · exact big 0 z
      · exact big 1 z
    · refine ⟨fun A' E' i va' vb' s2 m2 _ _ _ _ _ _ _ _ => wpAny_tests_nil ⟨rfl, s2.heap, s2.toks, rfl, fun _ _ e => e⟩, fun A' E' i va' vb' s2 m2 hA _ _ hPt _ hn hma hmb _ => ?_⟩
      obtain ⟨x, y, hx, hy, e⟩ := hPt
      obtain ⟨ex, ey⟩ : va' = x ∧ vb' = y := by simpa using congrArg Array.toList e
      subst ex ey
      obtain ⟨t1, rfl⟩ := atA i _ hx
      obtain ⟨t2, rfl⟩ := atB i _ hy
      exact less_elt hk hxa hxb hn hma hmb da db ⟨rfl, s2.heap, s2.toks, rfl, fun _ _ e => e⟩
    · have hpass : passing (fun _ => true) (min ia.toArray.size ib.toArray.size) 0 = List.range (min ia.toArray.size ib.toArray.size) := by
        unfold passing
        simp
      rw [hpass] at WS
      have W1 := WS.in4_1
      refine Calls.spliced_nil (call_all_walkS (W1.self 0 _ _ _ GA ⟨g, _, _, _, _, _, _, (fun j => decide (ns.getD j 0 < ms.getD j 0)), rfl, W1, GA, fun j v s7 Q' E' hv hq => ?_, fun s7 mv => ?_⟩))
      · obtain ⟨i, hi, rfl⟩ := hv
        have : i = j := by
          obtain ⟨hl, he⟩ := List.getElem?_eq_some_iff.mp hi
          rw [List.getElem_range] at he
          exact he.symm
        subst this
        exact wpAny_truthy_bool hq
      · have k7 : ∀ b o, b < h3.objs.size → (∀ k, b ≠ s1.heap.objs.size + k) → h3.get? b = some o → s7.heap.get? b = some o := fun b o hb hn e => mv.heap b o (by
          simp only [List.mem_cons, List.not_mem_nil, or_false, not_or]
          exact ⟨Nat.ne_of_lt hb, hn 4, hn 3, hn 0, hn 1⟩) (k5 b o e)
        have small : ∀ b, b < s1.heap.objs.size → ∀ k, b ≠ s1.heap.objs.size + k := fun b hb k => Nat.ne_of_lt (Nat.lt_of_lt_of_le hb (Nat.le_add_right _ _))
        have e7 : s7.heap.get? P = some { cls := .none, data := .fields (ps ++ more) } := k7 P _ (Heap.lt_size e3) (small P Plt) e3
        have I7 : Inv X pins σ (upd H1 P (.tbl (ps ++ more))) s7 := Inv.tabled I1 hP mv.os (AllBare.movedS (s := { s1 with heap := h5, gens := s1.gens.push gs, toks := tk5 }) (I1.bare.push gb) mv) (fun b o hb e => k7 b o (Heap.lt_size (k3 b o hb (k2 b o e))) (small b (Heap.lt_size e)) (k3 b o hb (k2 b o e))) e7
        refine ⟨.bl _, _, I7, rfl, ?_⟩
        have hall : (List.range (List.range (min ia.toArray.size ib.toArray.size)).length).all (fun j => decide (ns.getD j 0 < ms.getD j 0)) = lessAll ns ms := by
          rw [List.length_range, List.size_toArray, List.size_toArray, ← lenA, ← lenB]
          exact all_zip ns ms
        rw [hall]
        exact q _ (fun b o hb e => by rw [upd_ne hb]; exact e) (fun b hb e => by rw [upd_ne hb]; exact e) ⟨_, upd_same, tr3⟩
  cases hcd : codeAmong gpos ps.toList with
  | none =>
    refine wpAny_genexprCodeX G.code isC isT hcd fun c' h3 tk hx hge hlt _ _ ht3 _ => ?_
    refine rest (.ref c') h3 tk #[rawInt gpos.line, rawInt gpos.col, .ref c'] (fun b o hb e => hx b o hb e) (Nat.le_trans hge (Nat.le_of_lt hlt)) ht3.2 ?_
    rw [Array.toList_append]
    exact triples_snoc _ tr
  | some cv =>
    refine wpAny_genexprCode_hit G.code isC hcd ?_
    have := rest cv h2 s1.toks #[] (fun b o _ e => e) (Nat.le_refl _) (by simpa using k2 P _ Pobj) (by simpa using tr)
    exact this
end
end L2

namespace L2
open PySem PySem.Spec PyProof.Rows
/-! ### the head of a law whose text has one generator expression, in the def tx: its table is tracked -/
theorem law_callT {P : Program} {w : World} {K : PySem.W.Frag} {mg mb : Str → Option Value} {CX : CXT} {k : Nat} {fa a : Addr} {fd : FuncData} {x : Str} {sp : Sp} {s₁ : Shared} {vs : List Value} {ns : List Int} {c tab : Addr}
    (KX : K.In s₁.heap) (hns : s₁.heap.Ns mainGlobals mg) (hb : s₁.heap.Ns builtinsNs mb) (hbb : ∀ x : Str, x ≠ "__name__" → mb x = bootBuiltins x) (hlim : s₁.heap.NoLimit) (hg : s₁.gens = #[])
    (ha : s₁.heap.get? a = some { cls := .type "list", data := .seq vs.toArray }) (hi : IntsAre vs ns) (hl : ns.length ≤ sizeLine) (hr : Room k callerA)
    (hT : s₁.heap.TableAt c tab #[]) (hKt : K.lookup tab = none)
    (F : ∀ base : Heap, K.In base → base.Ns mainGlobals mg → (∀ b o, s₁.heap.get? b = some o → o.cls ≠ .type "list" → o.cls ≠ .none → base.get? b = some o) → FnOk P w K mg base CX k fa fd [x] sp) (hbind : ∀ (s : Shared) (u : Value), BindsTo s fd ⟨[u], []⟩ [(x, u)])
    (hsp : ∀ H : Hp, SqL K H a (ns.map V.int) → H tab = some (.tbl #[]) → sp [.ref a] H (fun v _ => v = .bl true) fun _ _ _ => False)
    (hCX : ∀ H e s', CX [] H s₁ (fun _ _ _ => False) e s' → False) :
    codeAny (model P w) callerA (.call (.ref fa) ⟨[.ref a], []⟩) (fun r s' => r = .ok (.ret (.bool true)) ∧ OldK s₁.heap s'.heap ∧ s'.os = s₁.os ∧ AllBare s'.gens) s₁ := by
  have rv := vals_ints hi
  have lenV := hi.length
  have hto : s₁.heap.get? tab = some { cls := .none, data := .fields #[] } := hT.2
  have nat : a ≠ tab := fun z => by rw [z, hto] at ha; cases ha
  -- from an abstract heap in which nothing but the script and the table may be tracked
  have core : ∀ H : Hp, (∀ b, H b = none ∨ (b = a ∧ ∃ o xs, H b = some (.frz o (.lst xs))) ∨ (b = tab ∧ H b = some (.tbl #[]))) → SqL K H a (ns.map V.int) → H tab = some (.tbl #[]) → HOk P w H s₁.heap → (H a ≠ none → K.lookup a = none) →
      codeAny (model P w) callerA (.call (.ref fa) ⟨[.ref a], []⟩) (fun r s' => r = .ok (.ret (.bool true)) ∧ OldK s₁.heap s'.heap ∧ s'.os = s₁.os ∧ AllBare s'.gens) s₁ := by
    intro H hO hS hHt hok hK
    have freeOf : ∀ {b : Addr} {o : Obj}, s₁.heap.get? b = some o → o.cls ≠ .type "list" → o.cls ≠ .none → H b = none := fun {b o} e c1 c2 => by
      rcases hO b with z | ⟨z, _⟩ | ⟨z, _⟩
      · exact z
      · rw [z, ha] at e; cases e; exact absurd rfl c1
      · rw [z, hto] at e; cases e; exact absurd rfl c2
    have nsK : ∀ {b : Addr} {m : Str → Option Value}, s₁.heap.Ns b m → (hidT s₁.heap H).Ns b m := fun {b m} ⟨o, es, ep, e, d, r⟩ => by
      refine ⟨o, es, ep, hidT_get e ?_, d, r⟩
      rcases hO b with z | ⟨z, _⟩ | ⟨z, _⟩
      · exact z
      · rw [z, ha] at e; cases e; have d' : Data.seq vs.toArray _ = Data.dict es ep := d; cases d'
      · rw [z, hto] at e; cases e; have d' : Data.fields #[] = Data.dict es ep := d; cases d'
    have hKb : K.In (hidT s₁.heap H) := fun b o e => hidT_get (KX b o e) (by
      rcases hO b with z | ⟨z, _, _, z2⟩ | ⟨z, _⟩
      · exact z
      · rw [z] at e z2; rw [hK (by rw [z2]; simp)] at e; cases e
      · rw [z, hKt] at e; cases e)
    have hM : Mod K mg (hidT s₁.heap H) := ⟨hKb, nsK hns, ⟨mb, nsK hb, hbb⟩, let ⟨mc, h1, h2⟩ := hlim; ⟨mc, nsK h1, h2⟩⟩
    have e0 : Env0 P w K mg (hidT s₁.heap H) callerA [] s₁ H := ⟨rfl, hM, fun b o e => of_hidT e, Nat.le_of_eq (hidT_size _ _), trivial, fun b hb => absurd (show b ∈ ([] : List Addr) from hb) (by simp), hok, .of_eq hg⟩
    refine codeAny_mono ((F _ hKb (nsK hns) fun b o e c1 c2 => hidT_get e (freeOf e c1 c2)).run callerA [] s₁ H ⟨[.ref a], []⟩ [.ref a] [.ref a] _ _ hr e0 (hbind s₁ (.ref a)) (.cons rfl .nil) (hsp H hS hHt)) fun r s' h => ?_
    cases r with
    | error e => exact (hCX H e s' h).elim
    | ok fl =>
      cases fl with
      | next => exact False.elim h
      | brk => exact False.elim h
      | cont => exact False.elim h
      | ret u =>
        obtain ⟨v, H', os, bare, un, hok', r', q⟩ := h
        have q' : v = .bl true := q
        subst q'
        obtain rfl : u = Value.bool true := r'
        have keepN : ∀ b o, s₁.heap.get? b = some o → H b = none → s'.heap.get? b = some o := fun b o e n => un.keep b o e n (by intro z; exact absurd (show b ∈ ([] : List Addr) from z) (by simp)) (by simp)
        obtain ⟨more, hm⟩ := un.tbls tab _ hHt
        have ht' : s'.heap.get? tab = some { cls := .none, data := .fields (#[] ++ more) } := hok' tab _ hm
        have keepA : ∀ b o, s₁.heap.get? b = some o → b ≠ tab → s'.heap.get? b = some o := fun b o e n => by
          rcases hO b with z | ⟨_, ob, xs, z⟩ | ⟨z, _⟩
          · exact keepN b o e z
          · have z2 := un.frzs b ob _ z
            obtain ⟨e1, _⟩ := hok b _ z
            obtain ⟨e2, _⟩ := hok' b _ z2
            rw [e] at e1; cases e1
            exact e2
          · exact absurd z n
        refine ⟨rfl, ⟨fun b o e => ?_, fun b o e => ?_⟩, os, bare⟩
        · by_cases hbt : b = tab
          · subst hbt
            rw [hto] at e
            cases e
            exact .inr (.inl ⟨hT.isCodeTable, rfl, #[], more, rfl, ht'⟩)
          · exact .inl (keepA b o e hbt)
        · by_cases hbt : b = tab
          · rw [hbt]; exact ⟨_, ht'⟩
          · exact ⟨o, keepA b o e hbt⟩
  have okT : ∀ H : Hp, ObjOk P w H s₁.heap tab (.tbl #[]) := fun H => hto
  cases hk : K.lookup a with
  | some o =>
    have e := KX a o hk
    rw [ha] at e
    cases e
    refine core (fun b => if b = tab then some (.tbl #[]) else none) (fun b => ?_) (.inr ⟨_, vs.toArray, _, hk, rfl, rfl, rfl, by rw [List.size_toArray, lenV]; exact hl, by simpa using rv⟩) (if_pos rfl) (fun b u z => ?_) fun z => absurd (if_neg nat) z
    · by_cases hb' : b = tab
      · exact .inr (.inr ⟨hb', if_pos hb'⟩)
      · exact .inl (if_neg hb')
    · by_cases hb' : b = tab
      · have z' := (if_pos hb').symm.trans z
        cases z'
        rw [hb']
        exact okT _
      · have z' := (if_neg hb').symm.trans z
        cases z'
  | none =>
    refine core (fun b => if b = tab then some (.tbl #[]) else if b = a then some (.frz { cls := .type "list", data := .seq vs.toArray } (.lst (ns.map V.int))) else none) (fun b => ?_) (.inl (.inr ⟨{ cls := .type "list", data := .seq vs.toArray }, (if_neg nat).trans (if_pos rfl)⟩)) (if_pos rfl) (fun b u z => ?_) fun _ => hk
    · by_cases hb' : b = tab
      · exact .inr (.inr ⟨hb', if_pos hb'⟩)
      · by_cases hba : b = a
        · exact .inr (.inl ⟨hba, _, _, (if_neg hb').trans (if_pos hba)⟩)
        · exact .inl ((if_neg hb').trans (if_neg hba))
    · by_cases hb' : b = tab
      · have z' := (if_pos hb').symm.trans z
        cases z'
        rw [hb']
        exact okT _
      · by_cases hba : b = a
        · have z' := ((if_neg hb').trans (if_pos hba)).symm.trans z
          cases z'
          subst hba
          exact ⟨ha, by rw [List.length_map]; exact hl, vs, _, rv, ha⟩
        · have z' := ((if_neg hb').trans (if_neg hba)).symm.trans z
          cases z'
/-- what the promises of the text's defs may lean on, besides K -/
structure BaseT (mg : Str → Option Value) (base : Heap) (c tab : Addr) : Prop where
  hd : PySem.W.CodeHd base c tab
  blt : ∃ bm ob, mg "__builtins__" = some (.ref bm) ∧ bm ≠ builtinsNs ∧ base.get? bm = some ob ∧ ob.cls = .type "module" ∧ ob.dict = some builtinsNs ∧ ob.data = .plain
theorem walk_ofT {l : PySem.W.OpenLaw} {n k : Nat} {q : Program} {loose : List Str} {XP : (Str → Option Value) → Heap → Prop} {YP : World → Heap → Prop} {d : DefRec} {K : Params → PySem.W.Frag} {CX : CXT} {sp : World → PySem.W.Frag → Addr → Sp} {x tx : Str} {dx : DefRec}
    (hn : l.most = some n) (hn2 : n ≤ sizeLine) (hdf : d.params.defaults = []) (hr : Room k callerA)
    (hY : ∀ (w : World) (h : Heap), YP w h → (K w.params).In h) (hrec : (recsOf q).find? (fun e => e.name == tx) = some dx)
    (F : ∀ (w : World) (mg : Str → Option Value) (fa : Addr) (h : Heap), (K w.params).In h → h.Ns mainGlobals mg → mg d.name = some (.ref fa) →
      ∃ (c tab : Addr) (fd : FuncData), PySem.W.tabIn (K w.params) tx = some (c, tab) ∧ (K w.params).lookup tab = none ∧ (∀ (s : Shared) (u : Value), BindsTo s fd ⟨[u], []⟩ [(x, u)]) ∧
        ∀ base : Heap, (K w.params).In base → base.Ns mainGlobals mg → BaseT mg base c tab → FnOk l.prog w (K w.params) mg base CX k fa fd [x] (sp w (K w.params) tab))
    (hsp : ∀ (w : World) (K : PySem.W.Frag) (H : Hp) (a tab : Addr) (ns : List Int), ns.length ≤ n → SqL K H a (ns.map V.int) → H tab = some (.tbl #[]) → sp w K tab [.ref a] H (fun v _ => v = .bl true) fun _ _ _ => False)
    (hCX : ∀ (H : Hp) (s : Shared) (e : Value) (s' : Shared), CX [] H s (fun _ _ _ => False) e s' → False) :
    PySem.W.WalkO q loose XP YP l.row.toRowW d [] (fun f vs => PySem.call f vs) := by
  refine Att.attach_call hn hdf fun w s₀ s₁ mg mb fa o pm cd doc a vs ns G Y ho hd hcd hmg hobj hints hlen hg => ?_
  have KX := hY w _ Y
  obtain ⟨c, tab, fd, ht, hKt, hb, hF⟩ := F w mg fa _ KX G.T.g hmg
  obtain ⟨hd1, hP⟩ := PySem.W.tab_of G.T KX hrec ht
  obtain ⟨bm, ob, b1, b2, b3, b4, b5, b6⟩ := G.T.bmain
  refine law_callT KX G.T.g G.T.b G.T.builtins G.T.nolimit hg hobj hints (Nat.le_trans hlen hn2) hr (hd1.tab hP) hKt (fun base kb nb bk => hF base kb nb ⟨?_, bm, ob, b1, b2, bk _ _ b3 (by rw [b4]; simp) (by rw [b4]; simp), b4, b5, b6⟩) hb (fun H hS hH => hsp w _ H a tab ns hlen hS hH) fun H e s' => hCX H s₁ e s'
  obtain ⟨o, vs', file, tf, flags, tg, inF, text, tt, e1, r1, r2⟩ := hd1
  exact ⟨o, vs', file, tf, flags, tg, inF, text, tt, bk _ _ e1 (by rw [r1]; simp) (by rw [r1]; simp), r1, r2⟩
end L2

namespace L2
open PySem PySem.Spec PyProof.Rows SX
section
variable {X : Cx}
theorem call_set0 : CallR X (.type "set") (fun xs H Q => xs = [] ∧ ∀ p : Addr, H p = none → Q (.ref p) (upd H p (setO X.w p []))) := by
  intro pins s σ H xs us Q I r h
  obtain ⟨rfl, q⟩ := h
  cases r
  exact call_set_0i fun h' S k => ⟨.ref s.heap.objs.size, _, I.laid (t' := s.toks) k (Nat.le_refl _) (set_ok S), rfl, q _ (I.hok.fresh (Nat.le_refl _))⟩
def rInS (w : World) : R2 := fun x y H Q => ∃ (k : Int) (a : Addr) (ks : List Int), x = .int k ∧ y = .ref a ∧ H a = some (setO w a ks) ∧ Q (.bl (decide (k ∈ ks))) H
theorem op_inS : OpR X (compareOp .In) (rInS X.w) := by
  intro pins s σ H x y v u Q I rx ry h
  obtain ⟨k, a, ks, rfl, rfl, ha, q⟩ := h
  obtain ⟨t, rfl⟩ := rx
  cases ry
  exact in_i (setI_of I ha) ⟨.bl _, H, I.tok _, rfl, q⟩
theorem call_lenS : CallR X (.builtin "len") (fun xs H Q => ∃ (a : Addr) (ks : List Int), xs = [.ref a] ∧ H a = some (setO X.w a ks) ∧ Q (.int ks.length) H) := by
  intro pins s σ H xs us Q I r h
  obtain ⟨a, ks, rfl, ha, q⟩ := h
  obtain ⟨u, rfl, rx⟩ := vals1 r
  cases rx
  exact len_i (setI_of I ha) ⟨.int ks.length, H, I.tok _, ⟨_, rfl⟩, q⟩
def rAndS (w : World) : R2 := fun x y H Q => ∃ (a b : Addr) (ka kb : List Int), x = .ref a ∧ y = .ref b ∧ H a = some (setO w a ka) ∧ H b = some (setO w b kb) ∧ a ≠ b ∧ ka.length ≤ 126 ∧ kb.length ≤ 126 ∧
    ∀ (p : Addr) (ks : List Int), H p = none → ks.Nodup → (∀ k, k ∈ ks ↔ (k ∈ ka ∧ k ∈ kb)) → Q (.ref p) (upd H p (setO w p ks))
theorem op_andS : OpR X (binaryOp .BitAnd) (rAndS X.w) := by
  intro pins s σ H x y v u Q I rx ry h
  obtain ⟨a, b, ka, kb, rfl, rfl, ha, hb, nab, hla, hlb, q⟩ := h
  cases rx
  cases ry
  refine and_i (setI_of I ha) (setI_of I hb) nab hla hlb fun h' ks S m k => ?_
  exact ⟨.ref s.heap.objs.size, _, I.laid (t' := s.toks) k (Nat.le_refl _) (set_ok S), rfl, q _ ks (I.hok.fresh (Nat.le_refl _)) S.nodup m⟩
/-! ### s.add(x), s.discard(x) -/
theorem Inv.sset {pins : List (Addr × Obj)} {σ : St} {H : Hp} {s : Shared} {a : Addr} {ks ks' : List Int} {h' : Heap} {tk : Nat} (I : Inv X pins σ H s) (ha : H a = some (setO X.w a ks)) (sb : Heap.SameBut a s.heap h') (S : SetI X.w a ks' h') :
    Inv X pins σ (upd H a (setO X.w a ks')) { s with heap := h', toks := tk } :=
  I.write (t' := tk) (by rw [ha]; trivial) (.inl rfl) (fun b u n e => sb.extBut b u n e) (let ⟨_, _, _, e, _⟩ := S; ⟨_, e⟩) (set_ok S)
theorem mt_addS : MtM X "set.add" (fun x vs H Q => ∃ (a : Addr) (ks : List Int) (k : Int), x = .ref a ∧ vs = [.int k] ∧ H a = some (setO X.w a ks) ∧ ks.length + 1 ≤ 127 ∧ ∀ ks' : List Int, ks'.Nodup → ks'.Perm (if k ∈ ks then ks else k :: ks) → Q .non (upd H a (setO X.w a ks'))) := by
  intro pins s σ H x vs v us Q I rx rv h
  obtain ⟨a, ks, k, rfl, rfl, ha, hl, q⟩ := h
  cases rx
  obtain ⟨u, rfl, t, rfl⟩ := rv.one
  exact addc_i (setI_of I ha) hl fun h' ks' tk sb S p => ⟨.non, _, I.sset ha sb S, rfl, q ks' S.nodup p⟩
theorem mt_discS : MtM X "set.discard" (fun x vs H Q => ∃ (a : Addr) (ks : List Int) (k : Int), x = .ref a ∧ vs = [.int k] ∧ H a = some (setO X.w a ks) ∧ ∀ ks' : List Int, ks'.Nodup → (if k ∈ ks then ks.Perm (k :: ks') else ks' = ks) → Q .non (upd H a (setO X.w a ks'))) := by
  intro pins s σ H x vs v us Q I rx rv h
  obtain ⟨a, ks, k, rfl, rfl, ha, q⟩ := h
  cases rx
  obtain ⟨u, rfl, t, rfl⟩ := rv.one
  exact discc_i (setI_of I ha) fun h' ks' tk sb S p => ⟨.non, _, I.sset ha sb S, rfl, q ks' S.nodup p⟩
def tBMS (w : World) (r : V → List V → Hp → VK → Prop) (to : TE) (t : TA) : TE := fun σ H Q => to σ H fun x H1 => (∃ (a : Addr) (ks : List Int), x = .ref a ∧ H1 a = some (setO w a ks)) ∧ t σ H1 fun xs H2 => r x xs H2 Q
variable {o e : Expr} {es : List Expr} {to : TE} {t : TA} {name : Str} {apos cpos : Pos} {id : String} {r : V → List V → Hp → VK → Prop}
/-- a method of a set of ints -/
theorem pe_bmS (slot : Slot "set" name id) (hty : typeOf (.builtin id) = pure (.type "method_descriptor")) (hm : MtM X id r) (ho : PE X o to) (ha : PA X (e :: es) t)
    (hbase : attributeBase o name X.env (eval o X.env) = eval o X.env := by rfl)
    (hfew : ((backTo cpos (starEach (e :: es) X.env)).all (fun x => !x.1) && (backToKw cpos (keywordEach [] X.env)).all (fun x => x.1.isSome) && decide ((e :: es).length + ([] : List Keyword).length + (if ([] : List Keyword).isEmpty then 0 else 1) < 30)) = true := by rfl)
    (hline : (apos.endLine == cpos.line) = true := by rfl) (hs : starEach (e :: es) X.env = (false, eval e X.env) :: starEach es X.env := by rfl) (hplain : (backTo cpos (starEach es X.env)).any (·.1) = false := by rfl) :
    PE X (.Call (.Attribute o name apos) (e :: es) [] cpos) (tBMS X.w r to t) := by
  intro pins s σ H Q I h
  refine wpAny_Call_method_late hbase hfew hline rfl (thn (ho pins s σ H _ I h) fun v s1 ⟨x, H1, I1, r1, ty, q1⟩ => ?_)
  obtain ⟨a, ks, rfl, hk⟩ := ty
  cases r1
  have S := setI_of I1 hk
  refine ⟨"set", id, F.plainAttrs_set, slot, hty, S.typeIs, fun b e2 => ?_, ?_⟩
  · cases e2
    obtain ⟨_, _, _, e3, _⟩ := S
    exact ⟨_, e3, rfl⟩
  have hA := ha cpos pins s1 σ H1 _ I1 q1
  rw [hs] at hA ⊢
  refine Calls.callWith_builtin (by show (false || (backTo cpos (starEach es X.env)).any (·.1)) = false; rw [hplain] <;> rfl) (Calls.evalArgs_plain ?_)
  exact thn hA fun us s2 ⟨vs, H2, I2, r2, q2⟩ => hm pins s2 σ H2 (.ref a) vs (.ref a) us Q I2 rfl r2 q2
end
end L2

namespace L2
open PySem PySem.Spec PyProof.Rows SX
/-! ### exceptions of own classes: raised, gone through, caught -/
/-- an exception of the class at C flies: what was tracked is as H' says, B stays whatever frames it goes through -/
structure Flies (P : Program) (w : World) (outer : List Env) (H : Hp) (s : Shared) (H' : Hp) (C x : Addr) (s' : Shared) : Prop where
  os : s'.os = s.os
  bare : AllBare s'.gens
  un : Un (frs outer) [] H H' s.heap s'.heap
  hok : HOk P w H' s'.heap
  fly : ∃ (B : Heap) (a0 : Value), Heap.FlyingW B outer x (.ref C) a0 s'.heap ∧ ∀ b o, s'.heap.get? b = some o → (H' b ≠ none ∨ ∃ o0, s.heap.get? b = some o0) → b ∉ frs outer → B.get? b = some o
def CX1 (P : Program) (w : World) : CXT := fun outer H s E e s' => ∃ (C x : Addr) (H' : Hp), e = .ref x ∧ Flies P w outer H s H' C x s' ∧ E (.ref C) (some x) H'
theorem hok_there {P : Program} {w : World} {H : Hp} {h : Heap} {a : Addr} {o : HO} (x : HOk P w H h) (e : H a = some o) : ∃ u, h.get? a = some u := by
  have aux : ∀ o : HO, ObjOk P w H h a o → ∃ u, h.get? a = some u := by
    intro o q
    cases o with
    | lst xs => obtain ⟨_, _, _, _, z⟩ := q; exact ⟨_, z⟩
    | tup xs => obtain ⟨_, _, _, ob, z, _⟩ := q; exact ⟨_, z⟩
    | dK kvs => obtain ⟨_, _, _, _, ob, _, _, z, _⟩ := q; exact ⟨_, z⟩
    | dT kvs => obtain ⟨_, _, _, _, ob, _, _, z, _⟩ := q; exact ⟨_, z⟩
    | set S n => obtain ⟨ob, _, _, _, z, _⟩ := q; exact ⟨_, z⟩
    | ins C dx fs => obtain ⟨_, _, _, z, _⟩ := q; exact ⟨_, z⟩
    | own b => exact q
    | xd fs => obtain ⟨mA, ⟨ob, _, _, z, _⟩, _⟩ := q; exact ⟨_, z⟩
    | rng lo hi => obtain ⟨_, _, _, z⟩ := q; exact ⟨_, z⟩
    | frz ob u => exact ⟨_, q.1⟩
    | tbl ps => exact ⟨_, q⟩
    | met f y => exact ⟨_, q⟩
    | ext φ => exact q.2.1
  exact aux o (x a o e)
section
variable {P : Program} {w : World} {l : List Env} {H H' : Hp} {s s2 : Shared} {B h' : Heap}
/-- what stays while it goes on -/
theorem fly_to (u : Un (frs l) [] H H' s.heap s2.heap) (hok : HOk P w H' s2.heap) (cov : ∀ b o, s2.heap.get? b = some o → (H' b ≠ none ∨ ∃ o0, s.heap.get? b = some o0) → b ∉ frs l → B.get? b = some o)
    (nfr : ∀ b ∈ frs l, H' b = none ∧ ∃ o, s2.heap.get? b = some o ∧ ∀ vs, o.data ≠ .fields vs) (st : B.StaysIn h') (up : s2.heap.UpToSlots h') : Un (frs l) [] H H' s.heap h' ∧ HOk P w H' h' := by
  have nx : ∀ b : Addr, b ∉ ([] : List Addr) := fun b z => by cases z
  have slots : ∀ b o, s2.heap.get? b = some o → b ∈ frs l → ∃ sl, h'.get? b = some { o with slots := sl } := fun b o e hb => by
    obtain ⟨_, o', e', n⟩ := nfr b hb
    rw [e] at e'
    cases e'
    exact up b o e n
  refine ⟨⟨fun b o e n hf hx => ?_, fun b o e n hf hx => ?_, fun b o e n hx => u.free b o e n hx, fun b o e hx => ?_, u.tups, u.frzs, u.tbls⟩, fun a o e => ?_⟩
  · exact st b o (cov b o (u.keep b o e n hf hx) (.inr ⟨o, e⟩) hf)
  · obtain ⟨sl, e1⟩ := u.slot b o e n hf hx
    obtain ⟨sl', e2⟩ := slots b _ e1 hf
    exact ⟨sl', e2⟩
  · obtain ⟨o', e1⟩ := u.there b o e hx
    by_cases hf : b ∈ frs l
    · obtain ⟨sl, e2⟩ := slots b _ e1 hf
      exact ⟨_, e2⟩
    · exact ⟨_, st b o' (cov b o' e1 (.inr ⟨o, e⟩) hf)⟩
  · have tr : ∀ c, H' c ≠ none → c ∉ frs l := fun c hc hf => hc (nfr c hf).1
    refine (hok a o e).stay (fun c v hc q => ?_) (fun _ q => q) fun _ _ q => q
    have hc' : H' c ≠ none := by
      rcases hc with z | z
      · rw [z, e]; simp
      · rw [z]; simp
    exact st c v (cov c v q (.inl hc') (tr c hc'))
end
section
variable {X : Cx} {pins : List (Addr × Obj)} {σ : St} {H1 H' : Hp} {s1 s2 : Shared} {C x : Addr} {B h' : Heap} {a0 : Value}
theorem stack_frame (I : Inv X pins σ H1 s1) (hst : X.stack = X.env :: X.outer) : X.env.frame = some X.env.locals := by
  rcases I.ok.stk with z | z
  · rw [hst] at z
    have := congrArg List.length z
    simp at this
  · exact z.2
theorem frs_stack (I : Inv X pins σ H1 s1) (hst : X.stack = X.env :: X.outer) : frs X.stack = X.env.locals :: frs X.outer := by
  rw [hst]
  unfold frs
  rw [List.filterMap_cons, stack_frame I hst]
/-- one frame up -/
theorem fly_mk (I : Inv X pins σ H1 s1) (hst : X.stack = X.env :: X.outer) (hex : X.ex = []) (os : s2.os = s1.os) (bare : AllBare s2.gens) (u : Un (frs X.stack) [] H1 H' s1.heap s2.heap) (hok : HOk X.prog X.w H' s2.heap)
    (cov : ∀ b o, s2.heap.get? b = some o → (H' b ≠ none ∨ ∃ o0, s1.heap.get? b = some o0) → b ∉ frs X.stack → B.get? b = some o) (nfr : ∀ b ∈ frs X.stack, H' b = none ∧ ∃ o, s2.heap.get? b = some o ∧ ∀ vs, o.data ≠ .fields vs)
    (up : s2.heap.UpToSlots h') (fl : Heap.FlyingW B X.outer x (.ref C) a0 h') : Flies X.prog X.w X.outer X.H₀ X.s₀ H' C x { s2 with heap := h' } := by
  obtain ⟨u2, hok2⟩ := fly_to u hok cov nfr fl.1 up
  have hfs := frs_stack I hst
  have base : Un (frs X.outer) [] X.H₀ H1 X.s₀.heap s1.heap := by have := I.base; rw [hex] at this; exact this
  have nx : ∀ b : Addr, b ∉ ([] : List Addr) := fun b z => by cases z
  have old : ∀ b o, X.s₀.heap.get? b = some o → b ≠ X.env.locals := fun b o e z => by
    have h1 := Heap.lt_size e
    have h2 := I.ok.above
    rw [← z] at h2
    exact absurd (Nat.lt_of_lt_of_le h1 h2) (Nat.lt_irrefl _)
  have out : ∀ b o, X.s₀.heap.get? b = some o → b ∉ frs X.outer → b ∉ frs X.stack := fun b o e n z => by
    rw [hfs] at z
    rcases List.mem_cons.mp z with q | q
    · exact old b o e q
    · exact n q
  refine ⟨os.trans I.os, bare, ⟨fun b o e n hf hx => ?_, fun b o e n hf hx => ?_, fun b o e n hx => ?_, fun b o e hx => ?_, fun b xs e => ?_, fun b o v e => ?_, fun b ps e => ?_⟩, hok2, B, a0, fl, fun b o e hc hf => ?_⟩
  · exact u2.keep b o (base.keep b o e n hf hx) (base.free b o e n hx) (out b o e hf) hx
  · obtain ⟨sl, e1⟩ := base.slot b o e n hf hx
    obtain ⟨sl', e2⟩ := u2.slot b _ e1 (base.free b o e n hx) (by rw [hfs]; exact List.mem_cons_of_mem _ hf) hx
    exact ⟨sl', e2⟩
  · obtain ⟨o1, e1⟩ := base.there b o e hx
    exact u2.free b o1 e1 (base.free b o e n hx) hx
  · obtain ⟨o1, e1⟩ := base.there b o e hx
    exact u2.there b o1 e1 hx
  · exact u2.tups b xs (base.tups b xs e)
  · exact u2.frzs b o v (base.frzs b o v e)
  · obtain ⟨m1, e1⟩ := base.tbls b ps e
    obtain ⟨m2, e2⟩ := u2.tbls b _ e1
    exact ⟨m1 ++ m2, by rw [e2, Array.append_assoc]⟩
  · have fin : ∀ o2, s2.heap.get? b = some o2 → (H' b ≠ none ∨ ∃ o0, s1.heap.get? b = some o0) → b ∉ frs X.stack → B.get? b = some o := fun o2 e2 hc' hf' => by
      have q := cov b o2 e2 hc' hf'
      have q2 := fl.1 b o2 q
      have e' : h'.get? b = some o := e
      rw [e'] at q2
      cases q2
      exact q
    rcases hc with hc | ⟨o0, e0⟩
    · obtain ⟨ho, eh⟩ : ∃ ho, H' b = some ho := by
        cases z : H' b with
        | none => exact absurd z hc
        | some v => exact ⟨v, rfl⟩
      obtain ⟨o2, e2⟩ := hok_there hok eh
      exact fin o2 e2 (.inl hc) fun z => hc (nfr b z).1
    · obtain ⟨o1, e1⟩ := base.there b o0 e0 (nx b)
      obtain ⟨o2, e2⟩ := u.there b o1 e1 (nx b)
      exact fin o2 e2 (.inr ⟨o1, e1⟩) (out b o0 e0 hf)
theorem Flies.nfr {P : Program} {w : World} {l : List Env} {H : Hp} {s : Shared} (F : Flies P w l H s H' C x s2) (hn : ∀ b ∈ frs l, H b = none ∧ ∃ o, s.heap.get? b = some o) : ∀ b ∈ frs l, H' b = none ∧ ∃ o, s2.heap.get? b = some o ∧ ∀ vs, o.data ≠ .fields vs := fun b hb => by
  obtain ⟨B, a0, fl, _⟩ := F.fly
  obtain ⟨n, o, e⟩ := hn b hb
  exact ⟨F.un.free b o e n (by simp), (fl.2.2.1.mem hb).2⟩
theorem Inv.frn (I : Inv X pins σ H1 s1) : ∀ b ∈ frs X.stack, H1 b = none ∧ ∃ o, s1.heap.get? b = some o := fun b hb => by
  have e0 := I.env0
  exact ⟨e0.frf b hb, let ⟨o, e, _⟩ := (e0.funs.mem hb).2; ⟨o, e⟩⟩
/-- a call in a def's body: its exception leaves the def -/
theorem fly_up (I : Inv X pins σ H1 s1) (hst : X.stack = X.env :: X.outer) (hex : X.ex = []) (F : Flies X.prog X.w X.stack H1 s1 H' C x s2) {E : Value → Shared → Prop} :
    wpAny (model X.prog X.w) X.A (leaving X.env (.ref x)) (fun _ s'' => Flies X.prog X.w X.outer X.H₀ X.s₀ H' C x s'') E s2 := by
  have nf := F.nfr I.frn
  obtain ⟨B, a0, fl, cov⟩ := F.fly
  rw [hst] at fl
  refine wpAny_leaves_onW (by rw [I.ok.frames, hst]) (stack_frame I hst) fl fun h' fl' up => ?_
  exact fly_mk I hst hex F.os F.bare F.un F.hok cov nf up fl'
end
section
variable {P : Program} {w : World} {K : PySem.W.Frag} {mg : Str → Option Value} {base : Heap} {N : List Str} {qual : Str} {scope : Scope} {f : Addr} {cd : Value} {A : Around} {outer : List Env} {s : Shared} {H : Hp} {E : XK}
theorem pass1 : Passes (CX1 P w) (cxOf (CX1 P w) P w K mg base N qual scope f cd A outer s H E) E := by
  intro pins σ H1 s1 e s2 I h
  obtain ⟨C, x, H', rfl, F, hE⟩ := h
  exact wpAny_mono (fly_up I rfl rfl F) (fun _ s'' F' => ⟨C, x, H', rfl, F', hE⟩) fun _ _ z => z
theorem own1 : PassesOwn (model P w) (cxOf (CX1 P w) P w K mg base N qual scope f cd A outer s H E).A (cxOf (CX1 P w) P w K mg base N qual scope f cd A outer s H E).env (cxOf (CX1 P w) P w K mg base N qual scope f cd A outer s H E).xe := PassesOwn.leaving
end
end L2

namespace L2
open PySem PySem.Spec PyProof.Rows SX
/-- what a written part says of an own exception class -/
theorem own_obj {K : PySem.W.Frag} {h : Heap} {C : Addr} {bmB : List Value} {newId : String} (Z : K.In h) (y : PySem.W.excIn K C bmB newId = true) :
    ∃ bm N nm q bs hdct sn sub ab col dd k0 k1 k2 k3 k5 mN, h.get? C = some (excClassObj nm q C N bs bm hdct sn sub ab col dd k0 k1 k2 k3 k5 newId) ∧ h.Ns N mN ∧ mN "__init__" = none ∧ OwnTail h bmB bm := by
  unfold PySem.W.excIn at y
  split at y
  · rename_i v1 v2 v3 look
    split at y
    · rename_i D tl a0 a1 a2 a3 nid a5 em es
      simp only [Bool.and_eq_true, beq_iff_eq, Bool.not_eq_true'] at y
      obtain ⟨⟨⟨⟨⟨y1, y2⟩, y3⟩, y4⟩, y5⟩, y6⟩ := y
      subst y1
      subst y2
      obtain ⟨u1, u2, u3, u4, u5, u6, u7, u8, u9, u10, u11⟩ := v2
      dsimp only at em y3 y5 y6
      subst em
      subst y3
      have e3 : v3 = #[a0, a1, a2, a3, some (.builtin nid), a5] := by
        obtain ⟨li⟩ := v3
        exact congrArg Array.mk es
      rw [e3] at look
      exact ⟨tl, u4, u1, u5, u2, u6, u7, u8, u9, u10, v1, a0, a1, a2, a3, a5, _, Z _ _ look, .of_isNs (PySem.W.isNs_of_in Z y5), PySem.W.nsMap_none_of_in Z y5 y6, PySem.W.tail_of_in Z y4⟩
    · cases y
  · cases y
def tRaise (C : Addr) (E : XK) (ta : TA) : TS := fun _ σ H => ta σ H fun vs H1 => vs.length ≤ sizeLine ∧ ∀ x : Addr, E (.ref C) (some x) H1
section
variable {P : Program} {w : World} {K : PySem.W.Frag} {mg : Str → Option Value} {base : Heap} {N : List Str} {qual : Str} {scope : Scope} {f : Addr} {cd : Value} {A : Around} {outer : List Env} {s : Shared} {H : Hp} {E : XK}
/-- raise C(e, ..) -/
theorem ps_raise {x : Str} {np cpos pos : Pos} {e0 : Expr} {es : List Expr} {ta : TA} {C : Addr} {bmB : List Value} {B newId initId : String} (hg : Gl (cxOf (CX1 P w) P w K mg base N qual scope f cd A outer s H E) x) (hm : mg x = some (.ref C)) (O : PySem.W.excIn K C bmB newId = true)
    (FB : ExcBaseFacts B newId initId bmB) (ha : PA (cxOf (CX1 P w) P w K mg base N qual scope f cd A outer s H E) (e0 :: es) ta) (hdb : (x == ("__debug__" : Str)) = false := by decide)
    (he : starEach (e0 :: es) (cxOf (CX1 P w) P w K mg base N qual scope f cd A outer s H E).env = (false, eval e0 (cxOf (CX1 P w) P w K mg base N qual scope f cd A outer s H E).env) :: starEach es (cxOf (CX1 P w) P w K mg base N qual scope f cd A outer s H E).env := by rfl)
    (hpl : (backTo cpos (starEach es (cxOf (CX1 P w) P w K mg base N qual scope f cd A outer s H E).env)).any (·.1) = false := by rfl) :
    PS (cxOf (CX1 P w) P w K mg base N qual scope f cd A outer s H E) (.Raise (some (.Call (.Name x np) (e0 :: es) [] cpos)) none pos) (tRaise C E ta) := by
  intro pins s1 σ H1 D I h
  obtain ⟨bm, N', nm, q, bs, hdct, sn, sub, ab, col, dd, k0, k1, k2, k3, k5, mN, hC, hN, hni, T⟩ := own_obj I.mod.kin O
  have hA := ha cpos pins s1 σ H1 _ I h
  refine wpAny_Raise_call_subT (prog := P) (w := w) (C := C) (nm := nm) (q := q) (N := N') (bs := bs) (bm := bm) (hdct := hdct) (sn := sn) (sub := sub) (ab := ab) (col := col) (dd := dd) (k0 := k0) (k1 := k1) (k2 := k2) (k3 := k3) (k5 := k5)
    FB (mN := mN) (T.hasType FB.hasBase) (I.ok.hd rfl) (by rw [he]; exact (Bool.false_or _).trans hpl) hni (ld_glob I hg hm ⟨rfl, ?_⟩ hdb)
  rw [he] at hA ⊢
  refine Calls.evalArgs_plain (wpAny_mono hA (fun us s2 q2 => ?_) fun _ _ z => z)
  obtain ⟨vs, H2, I2, r2, hl, hE⟩ := q2
  refine ⟨rfl, by show us.length ≤ sizeLine; rw [← r2.length]; exact hl, I2.bk _ _ hC, hN.keeps I2.bk, T.keeps I2.bk, fun h' e made => ?_⟩
  have hst : (cxOf (CX1 P w) P w K mg base N qual scope f cd A outer s H E).stack = (cxOf (CX1 P w) P w K mg base N qual scope f cd A outer s H E).env :: (cxOf (CX1 P w) P w K mg base N qual scope f cd A outer s H E).outer := rfl
  have fu := I2.env0.funs
  refine wpAny_mono (wpAny_leaves_madeW (base := PySem.W.hideAll s2.heap (frs (cxOf (CX1 P w) P w K mg base N qual scope f cd A outer s H E).stack)) (h := s2.heap) I2.ok.frames (stack_frame I2 hst) (fun b o z => PySem.W.of_hideAll _ z)
    (PySem.W.funFrames_hide fu fun env he b hb => List.mem_filterMap.mpr ⟨env, he, hb⟩) made (Q := fun _ s'' => CX1 P w outer H s E (.ref e) s'') fun h'' t fl _ _ up => ?_) (fun _ _ z => z) fun _ _ z => z
  refine ⟨C, e, H2, rfl, ?_, hE e⟩
  refine fly_mk (s2 := s2) I2 hst rfl rfl I2.bare Un.refl I2.hok (fun b o z _ nf => PySem.W.hideAll_get _ z nf) (fun b hb => ?_) ((Heap.UpToSlots.of_keeps made.keeps).trans up) fl
  exact ⟨(I2.frn b hb).1, (fu.mem hb).2⟩
end
/-! ### try, one except of an own class -/
abbrev tryCx (X : Cx) (pn' : List (Addr × Obj)) (E1 : XK) : Cx :=
  { X with pn := pn', xe := fun e s2 => ∃ (pins : List (Addr × Obj)) (σ : St) (H1 : Hp) (s1 : Shared) (C x : Addr) (H' : Hp), e = .ref x ∧ Inv { X with pn := pn' } pins σ H1 s1 ∧ Flies X.prog X.w X.stack H1 s1 H' C x s2 ∧ E1 (.ref C) (some x) H' }
abbrev hand (X : Cx) (x : Addr) : Cx := { X with A := X.A.mark (some (.ref x)), calm := false, xe := fun _ _ => False }
def tTry (tb : TS) (E1 : XK) (th : TS) (n : Nat) : TS := fun D σ H => tb D σ H ∧ ∀ (σ' : St) (c : Value) (ox : Option Addr) (H' : Hp), σ'.length = n → E1 c ox H' → th D σ' H'
section
variable {X : Cx} {pins pins' pn' : List (Addr × Obj)} {σ : St} {H : Hp} {s : Shared} {E1 : XK} {x : Addr}
theorem Inv.toTry (I : Inv X pins σ H s) : Inv (tryCx X (X.pn ++ pins) E1) [] σ H s :=
  ⟨⟨I.ok.mod, I.ok.kind, I.ok.glob, I.ok.blt, I.ok.above, I.ok.inj, I.ok.has, I.ok.cab, I.ok.hd, I.ok.frames, I.ok.stk, I.ok.exf, I.ok.bs, I.ok.bsz, I.ok.noex, I.ok.exfs, I.ok.funs, I.ok.frf⟩, I.os, I.bare, I.base, I.loc, I.cell, I.free, I.freeC, fun p hp => I.pin p (by simpa using hp), I.hok, I.len⟩
theorem Inv.ofTry (I : Inv (tryCx X (X.pn ++ pins) E1) pins' σ H s) : Inv X pins σ H s :=
  ⟨⟨I.ok.mod, I.ok.kind, I.ok.glob, I.ok.blt, I.ok.above, I.ok.inj, I.ok.has, I.ok.cab, I.ok.hd, I.ok.frames, I.ok.stk, I.ok.exf, I.ok.bs, I.ok.bsz, I.ok.noex, I.ok.exfs, I.ok.funs, I.ok.frf⟩, I.os, I.bare, I.base, I.loc, I.cell, I.free, I.freeC, fun p hp => I.pin p (List.mem_append_left _ hp), I.hok, I.len⟩
theorem Inv.ofPn (I : Inv { X with pn := X.pn ++ pins } pins' σ H s) : Inv X pins σ H s :=
  ⟨⟨I.ok.mod, I.ok.kind, I.ok.glob, I.ok.blt, I.ok.above, I.ok.inj, I.ok.has, I.ok.cab, I.ok.hd, I.ok.frames, I.ok.stk, I.ok.exf, I.ok.bs, I.ok.bsz, I.ok.noex, I.ok.exfs, I.ok.funs, I.ok.frf⟩, I.os, I.bare, I.base, I.loc, I.cell, I.free, I.freeC, fun p hp => I.pin p (List.mem_append_left _ hp), I.hok, I.len⟩
theorem Inv.toPn (I : Inv (tryCx X pn' E1) pins' σ H s) : Inv { X with pn := pn' } pins' σ H s :=
  ⟨⟨I.ok.mod, I.ok.kind, I.ok.glob, I.ok.blt, I.ok.above, I.ok.inj, I.ok.has, I.ok.cab, I.ok.hd, I.ok.frames, I.ok.stk, I.ok.exf, I.ok.bs, I.ok.bsz, I.ok.noex, I.ok.exfs, I.ok.funs, I.ok.frf⟩, I.os, I.bare, I.base, I.loc, I.cell, I.free, I.freeC, I.pin, I.hok, I.len⟩
theorem Inv.toHand (I : Inv X pins σ H s) : Inv (hand X x) pins σ H s :=
  ⟨⟨I.ok.mod, I.ok.kind, I.ok.glob, I.ok.blt, I.ok.above, I.ok.inj, I.ok.has, I.ok.cab, (fun z => by cases z), I.ok.frames, I.ok.stk, I.ok.exf, I.ok.bs, I.ok.bsz, I.ok.noex, I.ok.exfs, I.ok.funs, I.ok.frf⟩, I.os, I.bare, I.base, I.loc, I.cell, I.free, I.freeC, I.pin, I.hok, I.len⟩
theorem Inv.ofHand (hd : X.calm = true → X.A.handled = none) (I : Inv (hand X x) pins σ H s) : Inv X pins σ H s :=
  ⟨⟨I.ok.mod, I.ok.kind, I.ok.glob, I.ok.blt, I.ok.above, I.ok.inj, I.ok.has, I.ok.cab, hd, I.ok.frames, I.ok.stk, I.ok.exf, I.ok.bs, I.ok.bsz, I.ok.noex, I.ok.exfs, I.ok.funs, I.ok.frf⟩, I.os, I.bare, I.base, I.loc, I.cell, I.free, I.freeC, I.pin, I.hok, I.len⟩
/-- a call in a try -/
theorem passT : Passes (CX1 X.prog X.w) (tryCx X pn' E1) E1 := by
  intro pins σ H1 s1 e s2 I h
  obtain ⟨C, x, H', rfl, F, hE⟩ := h
  exact ⟨pins, σ, H1, s1, C, x, H', rfl, I.toPn, F, hE⟩
theorem ps_try {body suite : List Stmt} {b0 : Stmt} {tb th : TS} {y : Str} {np hp tp : Pos} {C : Addr} {bmB : List Value} {newId : String} (hst : X.stack = X.env :: X.outer) (hg : Gl X y) (hm : X.mg y = some (.ref C)) (O : PySem.W.excIn X.K C bmB newId = true)
    (hbase : bmB.contains (.type "BaseException") = true) (hE1 : ∀ c ox H', E1 c ox H' → c = .ref C) (hb : ∀ pn', PSs (tryCx X pn' E1) body tb) (hs : ∀ x, PSs (hand X x) (b0 :: suite) th) (hdb : (y == ("__debug__" : Str)) = false := by decide) :
    PS X (.Try body [.ExceptHandler (some (.Name y np)) none (b0 :: suite) hp] [] [] tp) (tTry tb E1 th X.N.length) := by
  intro pins s σ H D I h
  refine wpAny_Try_except (wpAny_mono (hb (X.pn ++ pins) [] s σ H D I.toTry h.1) (fun fl s1 q => ?_) (fun e s1 q => ?_))
  · cases fl with
    | next => obtain ⟨σ', H', J, z⟩ := q; exact wpAny_execs_nil ⟨σ', H', J.ofTry, z⟩
    | brk => obtain ⟨σ', H', J, z⟩ := q; exact ⟨σ', H', J.ofTry, z⟩
    | cont => obtain ⟨σ', H', J, z⟩ := q; exact ⟨σ', H', J.ofTry, z⟩
    | ret u => obtain ⟨v, σ', H', J, r, z⟩ := q; exact ⟨v, σ', H', J.ofTry, r, z⟩
  · obtain ⟨pins', σ1, H1, s0, C', x, H', rfl, J, F, hE⟩ := q
    have hc := hE1 _ _ _ hE
    cases hc
    have nf := F.nfr J.frn
    obtain ⟨B, a0, fl, cov⟩ := F.fly
    have fl0 : Heap.FlyingW B (X.env :: X.outer) x (.ref C) a0 s1.heap := by rw [← hst]; exact fl
    have frm : X.A.frames = some (X.env :: X.outer) := by rw [← hst]; exact J.ok.frames
    have fre : X.env.frame = some X.env.locals := stack_frame I hst
    refine wpAny_looks_onW frm fre fl0 fun h4 held up4 => wpAny_landsW held fun h5 fl5 up5 => ?_
    have up45 : s1.heap.UpToSlots h5 := up4.trans up5
    -- the state behind, at any heap that it goes on to
    have at_ : ∀ (h6 : Heap) (t6 : Nat), B.StaysIn h6 → s1.heap.UpToSlots h6 → Inv X pins σ1 H' { s1 with heap := h6, toks := t6 } := fun h6 t6 st up => by
      obtain ⟨u6, ok6⟩ := fly_to F.un F.hok cov nf st up
      have J6 := J.call (h' := h6) (g' := s1.gens) (d' := s1.drawn) (t' := t6) (ch := []) u6 ok6 F.bare (fun b z => absurd z (by simp))
      have e6 : { s0 with heap := h6, gens := s1.gens, drawn := s1.drawn, toks := t6 } = { s1 with heap := h6, toks := t6 } := by
        have := F.os
        obtain ⟨_, _, _, _, os1⟩ := s1
        obtain ⟨_, _, _, _, os0⟩ := s0
        dsimp only at this ⊢
        rw [this]
      rw [← e6]
      exact J6.ofPn
    have I5 := (at_ h5 s1.toks fl5.1 up45).toHand (x := x)
    refine wpAny_handleBy_cons (codeAny_handlers_test (ld_glob I5 hg hm ?_ hdb)) (by intro q; cases q)
    obtain ⟨bm, N', nm, q, bs, hdct, sn, sub, ab, col, dd, k0, k1, k2, k3, k5, mN, hC, hN, hni, T⟩ := own_obj I5.kIn O
    obtain ⟨ob, hob, hobc⟩ := fl5.there
    refine wpAny_excMatches_sub_self hC hob hobc (T.hasType hbase) (codeAny_handlers_suite ?_)
    refine lands_againW (s := { s1 with heap := h5 }) fl5 fun h6 fl6 up6 => ?_
    have I6 := (at_ h6 s1.toks fl6.1 (up45.trans up6)).toHand (x := x)
    refine wpAny_mono (hs x pins _ σ1 H' D I6 (h.2 σ1 _ _ H' I6.len hE)) (fun fl s7 q => ?_) fun _ _ z => z.elim
    cases fl with
    | next => obtain ⟨σ', H', J, z⟩ := q; exact ⟨σ', H', J.ofHand I.ok.hd, z⟩
    | brk => obtain ⟨σ', H', J, z⟩ := q; exact ⟨σ', H', J.ofHand I.ok.hd, z⟩
    | cont => obtain ⟨σ', H', J, z⟩ := q; exact ⟨σ', H', J.ofHand I.ok.hd, z⟩
    | ret u => obtain ⟨v, σ', H', J, r, z⟩ := q; exact ⟨v, σ', H', J.ofHand I.ok.hd, r, z⟩
end
end L2

namespace L2
open PySem PySem.Spec PyProof.Rows SX
section
variable {X : Cx}
def rInsert : V → List V → Hp → VK → Prop := fun x vs H Q => ∃ (l : Addr) (xs : List V) (i : Int) (y : V), x = .ref l ∧ vs = [.int i, y] ∧ H l = some (.lst xs) ∧ 0 ≤ i ∧ i ≤ xs.length ∧ xs.length < sizeLine ∧ Q .non (upd H l (.lst (xs.take i.toNat ++ y :: xs.drop i.toNat)))
theorem mt_insert : MtM X "list.insert" rInsert := by
  intro pins s σ H x vs v us Q I rx rv h
  obtain ⟨l, xs, i, y, rfl, rfl, hH, h0, h1, hz', q⟩ := h
  cases rx
  obtain ⟨u1, u2, rfl, ⟨t, rfl⟩, r2⟩ := rv.two
  obtain ⟨z, its, n, r, hl, e⟩ := I.lstM hH
  have l63 := line63
  refine call_meets F.slot_list_insert ⟨_, e, rfl⟩ F.entry_list_insert (F.args_list_insert_3 _ _ _)
    (AutoListH.list_insert_list_int_val_1 l its.toArray n i t u2 (fun z => by rw [fitsIndex_both (show -(2 ^ 63) ≤ i by omega) (show i < 2 ^ 63 by omega)] at z; cases z) (by rw [List.size_toArray]; omega)) ⟨e, ?_⟩
  refine ⟨.non, _, I.lset (its' := its.take i.toNat ++ u2 :: its.drop i.toNat) hH e ?_ ((r.take i.toNat).append (.cons r2 (r.drop i.toNat))) ?_, rfl, q⟩
  · dsimp only
    rw [if_neg (by omega)]
    have hk : min i.toNat its.toArray.size = i.toNat := by rw [List.size_toArray]; omega
    rw [hk]
    apply Array.toList_inj.mp
    simp [List.take_of_length_le]
  · rw [List.length_append, List.length_cons, List.length_take, List.length_drop]
    omega
end
end L2

set_option maxHeartbeats 4000000
namespace K2
open PySem L2
/-! ### 1. the text by places -/
def top (i : Nat) : Stmt := PySem.Challenge.pw_slimbody_k02_sums_or_refused.main.body.getD i (.Pass ⟨0, 0, 0, 0⟩)
abbrev sIsSum : Stmt := top 4
abbrev sMust : Stmt := top 5
/-! ### a def with what calls of it ask -/
structure Fn (K : PySem.W.Frag) (mg : Str → Option Value) (x : Str) (st : Stmt) (ps : List Str) (f : Addr) (fd : FuncData) : Prop where
  fn : Fun K x x st f fd
  at_ : mg x = some (.ref f)
  bd : Binds K fd ps []
/-- all that was tracked is as it was, but what stands at g -/
def Kp (g : Addr) (H H' : Hp) : Prop := ∀ b o, b ≠ g → H b = some o → H' b = some o
theorem Kp.refl (g : Addr) (H : Hp) : Kp g H H := fun _ _ _ h => h
theorem Kp.trans {g : Addr} {H H1 H2 : Hp} (a : Kp g H H1) (b : Kp g H1 H2) : Kp g H H2 := fun c o n h => b c o n (a c o n h)
theorem Kp.new {g p : Addr} {H : Hp} {o : HO} (h : H p = none) : Kp g H (upd H p o) := fun b u _ e => by rw [upd_ne (ne_of_none e h)]; exact e
theorem Kp.at {g : Addr} {H : Hp} {o : HO} : Kp g H (upd H g o) := fun b u n e => by rw [upd_ne n]; exact e
theorem Kp.seq {K : PySem.W.Frag} {g a : Addr} {H H' : Hp} {xs : List V} (k : Kp g H H') (hg : ∀ ys, H g ≠ some (.lst ys)) (hg2 : ∀ o ys, H g ≠ some (.frz o (.lst ys))) (h : SqL K H a xs) : SqL K H' a xs := by
  rcases h with (h | ⟨o, h⟩) | h
  · exact .inl (.inl (k a _ (fun z => hg xs (by rw [← z]; exact h)) h))
  · exact .inl (.inr ⟨o, k a _ (fun z => hg2 o xs (by rw [← z]; exact h)) h⟩)
  · exact .inr h
theorem same_new {p : Addr} {H : Hp} {o : HO} (h : H p = none) : Same H (upd H p o) := fun b u e => by rw [upd_ne (ne_of_none e h)]; exact e
/-- TabAt keeps other lists -/
theorem kp_tab {K : PySem.W.Frag} {P a : Addr} {H H' : Hp} {xs : List V} (k : Kp P H H') (t : TabAt H P) (h : SqL K H a xs) : SqL K H' a xs := by
  obtain ⟨ps, e, _⟩ := t
  exact k.seq (fun ys z => by rw [e] at z; cases z) (fun o ys z => by rw [e] at z; cases z) h
/-! ### the sums -/
def spIsSum (K : PySem.W.Frag) (P : Addr) : Sp := fun vs H Q _ => ∃ (a : Addr) (ns : List Int), vs = [.ref a] ∧ SqL K H a (ns.map V.int) ∧ TabAt H P ∧ ∀ H', Kp P H H' → TabAt H' P → Q (.bl (lessAll ns (ns.drop 1))) H'
def spMust (K : PySem.W.Frag) (P : Addr) : Sp := fun vs H Q _ => ∃ (a : Addr) (ns : List Int), vs = [.ref a] ∧ SqL K H a (ns.map V.int) ∧ TabAt H P ∧ lessAll ns (ns.drop 1) = true ∧ ∀ H', Kp P H H' → TabAt H' P → Q .non H'
def Rising (ns : List Int) : Prop := ns.Pairwise (· < ·)
theorem less_rising : ∀ (ns : List Int), Rising ns → lessAll ns (ns.drop 1) = true
  | [], _ => rfl
  | [_], _ => rfl
  | a :: b :: r, h => by
    have h1 := less_rising (b :: r) (List.Pairwise.of_cons h)
    have h2 : a < b := (List.pairwise_cons.mp h).1 b List.mem_cons_self
    show (decide (a < b) && lessAll (b :: r) r) = true
    rw [decide_eq_true h2]
    simpa using h1
theorem rising_nodup {ns : List Int} (h : Rising ns) : ns.Nodup := h.imp fun q => Int.ne_of_lt q
theorem rising_of {ns : List Int} (h : ns.Pairwise (· ≤ ·)) (nd : ns.Nodup) : Rising ns := List.Pairwise.imp₂ (fun a b (q : a ≤ b) (n : a ≠ b) => by omega) h nd
/-- what is in just one of the two -/
def Sym (zs xs ys : List Int) : Prop := Rising zs ∧ ∀ k, k ∈ zs ↔ ((k ∈ xs ∧ k ∉ ys) ∨ (k ∉ xs ∧ k ∈ ys))
section
variable {P : Program} {w : World} {K : PySem.W.Frag} {mg : Str → Option Value} {base : Heap}
theorem okC {x : Str} {st : Stmt} {f : Addr} {fd : FuncData} {N ps : List Str} {k : Nat} {sp : Sp} (F : Fun K x x st f fd) (S : FnScope N ps (defScope st)) (len : ∀ vs H Q E, sp vs H Q E → vs.length = ps.length)
    (hbody : ∀ (A : Around) (outer : List Env) (s : Shared) (H : Hp) (vs : List V) (Q : VK) (E : XK), Room k (A.deeper (PyProof.Rows.envOfC x (defScope st) s.heap.objs.size f fd.code)) → sp vs H Q E →
      ∃ t, PSs (cxOf CX0 P w K mg base N x (defScope st) f fd.code A outer s H E).nox (defBody st) t ∧ t { nx := fun _ H' => Q .non H', rt := Q } (start N vs) H) : FnOk P w K mg base CX0 (k + 1) f fd ps sp := by
  obtain ⟨oc, od, kV, doc, pm, an, cdv, ct, osl, rfl, lk, hcd⟩ := F.ex
  refine fn_of lk hcd S len fun A outer s H vs Q E hr hsp => ?_
  obtain ⟨t, h, q⟩ := hbody A outer s H vs Q E hr hsp
  exact ⟨t, h.nox, q⟩
theorem cut1 (ns : List Int) : cutV (ns.map V.int) (some 1) none = (ns.drop 1).map V.int := by
  unfold cutV
  rw [HT.sIx_none, show (some (1 : Int)) = some ((1 : Nat) : Int) from rfl, HT.sIx_nat, List.length_map]
  cases ns with
  | nil => rfl
  | cons a r =>
    rw [show min 1 (a :: r).length = 1 by simp, List.map_drop, List.take_of_length_le]
    rw [List.length_drop, List.length_map]
    exact Nat.le_refl _
theorem scIs : FnScope ["row"] ["row"] (defScope sIsSum) := ⟨rfl, rfl, rfl, by decide +kernel, rfl, by decide +kernel, by decide +kernel⟩
theorem ok_isSum {f c tab : Addr} {fd : FuncData} (F : Fun K "is_sum" "is_sum" sIsSum f fd) (hc : fd.code = .ref c) (B : BaseT mg base c tab) (hall : mg "all" = none) (hzip : mg "zip" = none) : FnOk P w K mg base CX0 1 f fd ["row"] (spIsSum K tab) := by
  refine okC F scIs (fun vs H Q E h => ?_) (fun A outer s H vs Q E hr h => ?_)
  · obtain ⟨a, ns, rfl, _⟩ := h
    rfl
  · obtain ⟨a, ns, rfl, hS, hT, k⟩ := h
    refine ⟨_, pss_one (ps_ret (pe_less (c := c) (P := tab) rfl ⟨hc, B.hd, B.blt⟩ hr.depth rfl hall rfl hzip (pa_cons (pv 0) (pa_cons (pe_slice sl_list (pv 0) (po_some pe_int) po_none) pa_nil))
      rfl rfl rfl (by decide +kernel) rfl rfl rfl (by decide +kernel) (by decide +kernel) (by decide +kernel))), ?_⟩
    refine ⟨_, rfl, _, rfl, 1, rfl, a, _, rfl, hS, fun p hp => ?_⟩
    have s1 : Same H (upd H p (.lst (cutV (ns.map V.int) (some 1) none))) := same_new hp
    obtain ⟨ps, e, tr⟩ := id hT
    refine ⟨a, p, ns, ns.drop 1, rfl, s1.seq hS, SqL.of (by rw [upd_same, cut1]), ⟨ps, s1 _ _ e, tr⟩, fun H' k1 k2 t' => k H' (fun b o n z => k1 b o n (s1 b o z)) t'⟩
theorem scMu : FnScope ["row"] ["row"] (defScope sMust) := ⟨rfl, rfl, rfl, by decide +kernel, rfl, by decide +kernel, by decide +kernel⟩
end
end K2
namespace K2
open PySem L2
abbrev sBag : Stmt := top 10
abbrev sPull : Stmt := top 11
abbrev sScale : Stmt := top 12
abbrev sJoin : Stmt := top 13
abbrev sNumbers : Stmt := top 14
abbrev sLaw : Stmt := top 18
/-! ### the bag of draws -/
def bagL (q : Addr) (i z s : Int) : List V := [.ref q, .int i, .int z, .int s]
structure BagAt (H : Hp) (g q : Addr) (ns : List Int) (i z s : Int) : Prop where
  ob : H g = some (.lst (bagL q i z s))
  sc : H q = some (.lst (ns.map V.int))
  i0 : 0 ≤ i
  ne : q ≠ g
theorem BagAt.put {H : Hp} {g q : Addr} {ns : List Int} {i z s : Int} (B : BagAt H g q ns i z s) {i' z' : Int} (h : 0 ≤ i') : BagAt (upd H g (.lst (bagL q i' z' s))) g q ns i' z' s := ⟨upd_same, by rw [upd_ne B.ne]; exact B.sc, h, B.ne⟩
theorem BagAt.keep {H H' : Hp} {g q : Addr} {ns : List Int} {i z s : Int} (B : BagAt H g q ns i z s) (k : Same H H') : BagAt H' g q ns i z s := ⟨k _ _ B.ob, k _ _ B.sc, B.i0, B.ne⟩
theorem at0 (q : Addr) (i z s : Int) : atI (bagL q i z s) 0 = some (.ref q) := rfl
theorem at1 (q : Addr) (i z s : Int) : atI (bagL q i z s) 1 = some (.int i) := rfl
theorem at2 (q : Addr) (i z s : Int) : atI (bagL q i z s) 2 = some (.int z) := rfl
theorem at3 (q : Addr) (i z s : Int) : atI (bagL q i z s) 3 = some (.int s) := rfl
theorem mulOk (x : Int) : -(2 ^ 64) < x % 2147483647 ∧ x % 2147483647 < 2 ^ 64 := by
  have h1 := Int.emod_nonneg x (show (2147483647 : Int) ≠ 0 by decide)
  have h2 := Int.emod_lt_of_pos x (show (0 : Int) < 2147483647 by decide)
  omega
theorem at_ints {ns : List Int} {i : Int} (h0 : 0 ≤ i) (h1 : i < (ns.length : Int)) : ∃ n, atI (ns.map V.int) i = some (.int n) := by
  have hl : i.toNat < ns.length := by omega
  have e : (ns.map V.int)[i.toNat]? = some (.int ns[i.toNat]) := by rw [List.getElem?_map, List.getElem?_eq_getElem hl]; rfl
  have := atI_nat e
  rw [show ((i.toNat : Nat) : Int) = i by omega] at this
  exact ⟨_, this⟩
/-- a draw below many; only the bag's own list has changed -/
def spPull : Sp := fun vs H Q _ => ∃ (g q : Addr) (ns : List Int) (i z s many : Int), vs = [.ref g, .int many] ∧ BagAt H g q ns i z s ∧ 0 < many ∧ many < 1073741824 ∧
  ∀ H' i' z' r, Kp g H H' → BagAt H' g q ns i' z' s → 0 ≤ r → r < many → Q (.int r) H'
section
variable {P : Program} {w : World} {K : PySem.W.Frag} {mg : Str → Option Value} {base : Heap}
theorem scPull : FnScope ["_law_bag_here", "_law_many", "_law_seed", "_law_mixed", "_law_drawn"] ["_law_bag_here", "_law_many"] (defScope sPull) := ⟨rfl, rfl, rfl, by decide +kernel, rfl, by decide +kernel, by decide +kernel⟩
theorem ok_pull {f : Addr} {fd : FuncData} (F : Fun K "_law_pull" "_law_pull" sPull f fd) (hlen : mg "len" = none) : FnOk P w K mg base CX0 1 f fd ["_law_bag_here", "_law_many"] spPull := by
  refine F.ok scPull (fun vs H Q E h => ?_) (fun cdv A outer s H vs Q E hr h => ?_)
  · obtain ⟨g, q, ns, i, z, s, many, rfl, _⟩ := h
    rfl
  · obtain ⟨g, q, ns, i, z, s', many, rfl, B, m0, m1, k⟩ := h
    have nd := scPull.nd
    refine ⟨_, pss_cons (ps_if (pt_cmpR op_le (pe_ix ix_list (pv 0) pe_int (fun _ _ => rfl)) pe_int (nomark _))
        (pss_cons (ps_augS (pv 0) pe_int get_list pe_int ip_add set_list)
        (pss_cons (ps_set (i := 2) nd rfl (Or.inl rfl) (pe_ix ix_list (pv 0) pe_int (fun _ _ => rfl)))
        (pss_cons (ps_if (pt_cmpR op_le (pe_ix ix_list (pv 0) pe_int (fun _ _ => rfl)) (pe_callB call_len_seq (by rfl) hlen PySem.boot_len (pa_cons (pe_ix ix_list (pv 0) pe_int (fun _ _ => rfl)) pa_nil)) (nomark _))
          (pss_one (ps_set (i := 2) nd rfl (Or.inl rfl) (pe_ix ix_list (pe_ix ix_list (pv 0) pe_int (fun _ _ => rfl)) (pe_op op_sub (pe_ix ix_list (pv 0) pe_int (fun _ _ => rfl)) pe_int) (fun _ _ => rfl)))) pss_nil)
        (pss_cons (ps_if (pw_or (pt_cmpR op_gt (pe_ix ix_list (pv 0) pe_int (fun _ _ => rfl)) (pe_callB call_len_seq (by rfl) hlen PySem.boot_len (pa_cons (pe_ix ix_list (pv 0) pe_int (fun _ _ => rfl)) pa_nil)) (nomark _)) (pw_or1 (pt_cmpR op_lt (pv 2) (pe_op op_pow pe_int pe_int) (nomark _)))).pt
          (pss_cons (ps_set (i := 3) nd rfl (Or.inl rfl) (pe_op op_mod (pe_op op_add (pe_op op_add (pe_op op_mul (pv 2) pe_int) (pe_op op_mul (pe_ix ix_list (pv 0) pe_int (fun _ _ => rfl)) pe_int)) pe_int) pe_int))
          (pss_cons (ps_set (i := 3) nd rfl (Or.inl rfl) (pe_op op_mod (pe_op op_mul (pv 3) (pv 3)) pe_int))
          (pss_one (ps_ret (pe_op op_mod (pe_op op_fdiv (pe_op op_mod (pe_op op_mul (pe_op op_add (pv 3) (pe_ix ix_list (pv 0) pe_int (fun _ _ => rfl))) pe_int) pe_int) pe_int) (pv 1)))))) pss_nil)
        (pss_one (ps_asg (pv 2) (pg_sub (pv 0) pe_int set_list))))))) pss_nil)
      (pss_cons (ps_set (i := 4) nd rfl (Or.inl rfl) (pe_op op_mod (pe_ix ix_list (pv 0) pe_int (fun _ _ => rfl)) (pv 1)))
      (pss_cons (ps_asg (pe_op op_fdiv (pe_ix ix_list (pv 0) pe_int (fun _ _ => rfl)) (pv 1)) (pg_sub (pv 0) pe_int set_list))
      (pss_one (ps_ret (pv 4))))), ?_⟩
    refine ⟨_, rfl, g, _, _, _, rfl, rfl, SqL.of B.ob, at2 _ _ _ _, _, _, rfl, rfl, _, rfl, ?_⟩
    refine ite2 (fun _ => ?_) (fun _ => ?_)
    · -- bag[1] += 1; seed = bag[3]
      refine ⟨_, rfl, g, _, _, _, rfl, rfl, B.ob, by decide, rfl, _, _, rfl, rfl, g, _, _, 1, rfl, rfl, B.ob, rfl, ?_⟩
      have B1 : BagAt (upd H g (.lst (bagL q (i + 1) z s'))) g q ns (i + 1) z s' := B.put (by have := B.i0; omega)
      refine ⟨_, rfl, g, _, _, _, rfl, rfl, SqL.of B1.ob, at3 _ _ _ _, ?_⟩
      refine ⟨_, rfl, g, _, _, _, rfl, rfl, SqL.of B1.ob, at1 _ _ _ _, _, rfl, g, _, _, _, rfl, rfl, SqL.of B1.ob, at0 _ _ _ _, q, _, rfl, .inl (SqL.of B1.sc), _, _, rfl, rfl, _, rfl, ?_⟩
      have B2 := B1
      refine ite2 (fun hc => ?_) (fun hc => ?_)
      · have hc' : i + 1 ≤ ((ns.map V.int).length : Int) := of_decide_eq_true hc
        rw [List.length_map] at hc'
        obtain ⟨n, hn⟩ := at_ints (ns := ns) (i := i + 1 - 1) (by have := B.i0; omega) (by omega)
        refine ⟨_, rfl, g, _, _, _, rfl, rfl, SqL.of B1.ob, at0 _ _ _ _, _, rfl, g, _, _, _, rfl, rfl, SqL.of B1.ob, at1 _ _ _ _, _, _, rfl, rfl, q, _, _, _, rfl, rfl, SqL.of B1.sc, hn, ?_⟩
        -- (the or, with this seed)
        refine ⟨_, rfl, g, _, _, _, rfl, rfl, SqL.of B1.ob, at1 _ _ _ _, _, rfl, g, _, _, _, rfl, rfl, SqL.of B1.ob, at0 _ _ _ _, q, _, rfl, .inl (SqL.of B1.sc), _, _, rfl, rfl, _, rfl, ?_⟩
        refine ite2 (fun _ => iteT ?_) (fun _ => ?_)
        · refine ⟨_, rfl, _, _, rfl, rfl, .inr ⟨by decide, by decide⟩, _, rfl, g, _, _, _, rfl, rfl, SqL.of B1.ob, at1 _ _ _ _, _, _, rfl, rfl, .inr ⟨by decide, by decide⟩, _, _, rfl, rfl, _, _, rfl, rfl, _, _, rfl, rfl, (by show (0 : Int) < 2147483647; decide), ?_⟩
          refine ⟨_, rfl, _, rfl, _, _, rfl, rfl, .inl (mulOk _), _, _, rfl, rfl, (by show (0 : Int) < 2147483629; decide), ?_⟩
          refine ⟨_, rfl, _, rfl, g, _, _, _, rfl, rfl, SqL.of B1.ob, at1 _ _ _ _, _, _, rfl, rfl, _, _, rfl, rfl, .inr ⟨by decide, by decide⟩, _, _, rfl, rfl, (by show (0 : Int) < 998244353; decide), _, _, rfl, rfl, ⟨by decide, by decide⟩, _, rfl, _, _, rfl, rfl, m0, ?_⟩
          exact k _ _ _ _ Kp.at B1 (Int.emod_nonneg _ (by omega)) (Int.emod_lt_of_pos _ m0)
        · refine ⟨_, rfl, _, _, rfl, rfl, ⟨by decide, by decide, by decide⟩, _, _, rfl, rfl, _, rfl, ?_⟩
          refine ite2 (fun _ => ?_) (fun _ => ?_)
          · refine ⟨_, rfl, _, _, rfl, rfl, .inr ⟨by decide, by decide⟩, _, rfl, g, _, _, _, rfl, rfl, SqL.of B1.ob, at1 _ _ _ _, _, _, rfl, rfl, .inr ⟨by decide, by decide⟩, _, _, rfl, rfl, _, _, rfl, rfl, _, _, rfl, rfl, (by show (0 : Int) < 2147483647; decide), ?_⟩
            refine ⟨_, rfl, _, rfl, _, _, rfl, rfl, .inl (mulOk _), _, _, rfl, rfl, (by show (0 : Int) < 2147483629; decide), ?_⟩
            refine ⟨_, rfl, _, rfl, g, _, _, _, rfl, rfl, SqL.of B1.ob, at1 _ _ _ _, _, _, rfl, rfl, _, _, rfl, rfl, .inr ⟨by decide, by decide⟩, _, _, rfl, rfl, (by show (0 : Int) < 998244353; decide), _, _, rfl, rfl, ⟨by decide, by decide⟩, _, rfl, _, _, rfl, rfl, m0, ?_⟩
            exact k _ _ _ _ Kp.at B1 (Int.emod_nonneg _ (by omega)) (Int.emod_lt_of_pos _ m0)
          · refine ⟨_, rfl, _, rfl, g, _, _, 2, rfl, rfl, B1.ob, rfl, ?_⟩
            have B2 := B1.put (z' := n) B1.i0
            have k2 := (Kp.at (g := g) (H := H) (o := .lst (bagL q (i + 1) z s'))).trans (Kp.at (o := .lst (bagL q (i + 1) n s')))
            refine ⟨_, rfl, g, _, _, _, rfl, rfl, SqL.of B2.ob, at2 _ _ _ _, _, rfl, _, _, rfl, rfl, m0, ?_⟩
            refine ⟨_, rfl, g, _, _, _, rfl, rfl, SqL.of B2.ob, at2 _ _ _ _, _, rfl, _, _, rfl, rfl, ⟨m0, m1⟩, _, rfl, g, _, _, 2, rfl, rfl, B2.ob, rfl, ?_⟩
            exact ⟨_, rfl, k _ _ _ _ (k2.trans Kp.at) (B2.put B2.i0) (Int.emod_nonneg _ (by omega)) (Int.emod_lt_of_pos _ m0)⟩
      · -- (the or, with the salt)
        refine ⟨_, rfl, g, _, _, _, rfl, rfl, SqL.of B1.ob, at1 _ _ _ _, _, rfl, g, _, _, _, rfl, rfl, SqL.of B1.ob, at0 _ _ _ _, q, _, rfl, .inl (SqL.of B1.sc), _, _, rfl, rfl, _, rfl, ?_⟩
        refine ite2 (fun _ => iteT ?_) (fun _ => ?_)
        · refine ⟨_, rfl, _, _, rfl, rfl, .inr ⟨by decide, by decide⟩, _, rfl, g, _, _, _, rfl, rfl, SqL.of B1.ob, at1 _ _ _ _, _, _, rfl, rfl, .inr ⟨by decide, by decide⟩, _, _, rfl, rfl, _, _, rfl, rfl, _, _, rfl, rfl, (by show (0 : Int) < 2147483647; decide), ?_⟩
          refine ⟨_, rfl, _, rfl, _, _, rfl, rfl, .inl (mulOk _), _, _, rfl, rfl, (by show (0 : Int) < 2147483629; decide), ?_⟩
          refine ⟨_, rfl, _, rfl, g, _, _, _, rfl, rfl, SqL.of B1.ob, at1 _ _ _ _, _, _, rfl, rfl, _, _, rfl, rfl, .inr ⟨by decide, by decide⟩, _, _, rfl, rfl, (by show (0 : Int) < 998244353; decide), _, _, rfl, rfl, ⟨by decide, by decide⟩, _, rfl, _, _, rfl, rfl, m0, ?_⟩
          exact k _ _ _ _ Kp.at B1 (Int.emod_nonneg _ (by omega)) (Int.emod_lt_of_pos _ m0)
        · refine ⟨_, rfl, _, _, rfl, rfl, ⟨by decide, by decide, by decide⟩, _, _, rfl, rfl, _, rfl, ?_⟩
          refine ite2 (fun _ => ?_) (fun _ => ?_)
          · refine ⟨_, rfl, _, _, rfl, rfl, .inr ⟨by decide, by decide⟩, _, rfl, g, _, _, _, rfl, rfl, SqL.of B1.ob, at1 _ _ _ _, _, _, rfl, rfl, .inr ⟨by decide, by decide⟩, _, _, rfl, rfl, _, _, rfl, rfl, _, _, rfl, rfl, (by show (0 : Int) < 2147483647; decide), ?_⟩
            refine ⟨_, rfl, _, rfl, _, _, rfl, rfl, .inl (mulOk _), _, _, rfl, rfl, (by show (0 : Int) < 2147483629; decide), ?_⟩
            refine ⟨_, rfl, _, rfl, g, _, _, _, rfl, rfl, SqL.of B1.ob, at1 _ _ _ _, _, _, rfl, rfl, _, _, rfl, rfl, .inr ⟨by decide, by decide⟩, _, _, rfl, rfl, (by show (0 : Int) < 998244353; decide), _, _, rfl, rfl, ⟨by decide, by decide⟩, _, rfl, _, _, rfl, rfl, m0, ?_⟩
            exact k _ _ _ _ Kp.at B1 (Int.emod_nonneg _ (by omega)) (Int.emod_lt_of_pos _ m0)
          · refine ⟨_, rfl, _, rfl, g, _, _, 2, rfl, rfl, B1.ob, rfl, ?_⟩
            have B2 := B1.put (z' := s') B1.i0
            have k2 := (Kp.at (g := g) (H := H) (o := .lst (bagL q (i + 1) z s'))).trans (Kp.at (o := .lst (bagL q (i + 1) s' s')))
            refine ⟨_, rfl, g, _, _, _, rfl, rfl, SqL.of B2.ob, at2 _ _ _ _, _, rfl, _, _, rfl, rfl, m0, ?_⟩
            refine ⟨_, rfl, g, _, _, _, rfl, rfl, SqL.of B2.ob, at2 _ _ _ _, _, rfl, _, _, rfl, rfl, ⟨m0, m1⟩, _, rfl, g, _, _, 2, rfl, rfl, B2.ob, rfl, ?_⟩
            exact ⟨_, rfl, k _ _ _ _ (k2.trans Kp.at) (B2.put B2.i0) (Int.emod_nonneg _ (by omega)) (Int.emod_lt_of_pos _ m0)⟩
    · have B2 := B
      have k2 := Kp.refl g H
      refine ⟨_, rfl, g, _, _, _, rfl, rfl, SqL.of B2.ob, at2 _ _ _ _, _, rfl, _, _, rfl, rfl, m0, ?_⟩
      refine ⟨_, rfl, g, _, _, _, rfl, rfl, SqL.of B2.ob, at2 _ _ _ _, _, rfl, _, _, rfl, rfl, ⟨m0, m1⟩, _, rfl, g, _, _, 2, rfl, rfl, B2.ob, rfl, ?_⟩
      exact ⟨_, rfl, k _ _ _ _ (k2.trans Kp.at) (B2.put B2.i0) (Int.emod_nonneg _ (by omega)) (Int.emod_lt_of_pos _ m0)⟩
end
end K2
namespace K2
open PySem L2
def spScale : Sp := fun vs H Q _ => ∃ (g q : Addr) (ns : List Int) (i z s : Int), vs = [.ref g] ∧ BagAt H g q ns i z s ∧ ∀ H' i' z' v, Kp g H H' → BagAt H' g q ns i' z' s → Q (.int v) H'
def spBag (K : PySem.W.Frag) : Sp := fun vs H Q _ => ∃ (a : Addr) (ns : List Int), vs = [.ref a] ∧ SqL K H a (ns.map V.int) ∧ ∀ H' g q ns' s, Same H H' → BagAt H' g q ns' 0 0 s → H g = none → H q = none → Q (.ref g) H'
theorem pick5 {a b c d e : V} {r : Int} (h0 : 0 ≤ r) (h1 : r < 5) : atI [a, b, c, d, e] r = some a ∨ atI [a, b, c, d, e] r = some b ∨ atI [a, b, c, d, e] r = some c ∨ atI [a, b, c, d, e] r = some d ∨ atI [a, b, c, d, e] r = some e := by
  have : r = 0 ∨ r = 1 ∨ r = 2 ∨ r = 3 ∨ r = 4 := by omega
  rcases this with z | z | z | z | z <;> subst z
  · exact .inl rfl
  · exact .inr (.inl rfl)
  · exact .inr (.inr (.inl rfl))
  · exact .inr (.inr (.inr (.inl rfl)))
  · exact .inr (.inr (.inr (.inr rfl)))
section
variable {P : Program} {w : World} {K : PySem.W.Frag} {mg : Str → Option Value} {base : Heap}
theorem scScale : FnScope ["_law_bag_here"] ["_law_bag_here"] (defScope sScale) := ⟨rfl, rfl, rfl, by decide +kernel, rfl, by decide +kernel, by decide +kernel⟩
theorem ok_scale {f f1 : Addr} {fd fd1 : FuncData} (F : Fun K "_law_scale" "_law_scale" sScale f fd) (F1 : Fn K mg "_law_pull" sPull ["_law_bag_here", "_law_many"] f1 fd1) (G1 : FnOk P w K mg base CX0 1 f1 fd1 ["_law_bag_here", "_law_many"] spPull) : FnOk P w K mg base CX0 2 f fd ["_law_bag_here"] spScale := by
  refine F.ok scScale (fun vs H Q E h => ?_) (fun cdv A outer s H vs Q E hr h => ?_)
  · obtain ⟨g, q, ns, i, z, s, rfl, _⟩ := h
    rfl
  · obtain ⟨g, q, ns, i, z, s', rfl, B, k⟩ := h
    refine ⟨_, pss_one (ps_ret (pe_ix ix_list (pe_lst (pa_cons pe_int (pa_cons pe_int (pa_cons pe_int (pa_cons pe_int (pa_cons (pe_op op_pow pe_int pe_int) pa_nil))))))
      (pe_call G1 hr rfl F1.at_ F1.fn.kp F1.bd .nil pass0 (pa_cons (pv 0) (pa_cons pe_int pa_nil))) (fun _ _ => rfl))), ?_⟩
    refine ⟨_, _, rfl, rfl, ⟨by decide, by decide, by decide⟩, (by decide : 5 ≤ sizeLine), fun p hp => ?_⟩
    refine ⟨_, rfl, g, q, ns, i, z, s', 5, rfl, B.keep (same_new hp), by decide, by decide, fun H' i' z' r kp B' r0 r5 => ?_⟩
    have npg : p ≠ g := Ne.symm (ne_of_none B.ob hp)
    have hp' := kp p _ npg upd_same
    have fin : ∀ v, Q (.int v) H' := fun v => k H' i' z' v (fun b o n e => kp b o n (same_new hp b o e)) B'
    rcases pick5 r0 r5 with e | e | e | e | e <;> exact ⟨p, _, _, _, rfl, rfl, SqL.of hp', e, fin _⟩
theorem scBag : FnScope ["_law_script", "_law_salt", "_law_one"] ["_law_script"] (defScope sBag) := ⟨rfl, rfl, rfl, by decide +kernel, rfl, by decide +kernel, by decide +kernel⟩
theorem cutI (ns : List Int) (lo hi : Option Int) : ∃ ms : List Int, cutV (ns.map V.int) lo hi = ms.map V.int := by
  unfold cutV
  exact ⟨_, by rw [← List.map_drop, ← List.map_take]⟩
theorem ok_bag {f : Addr} {fd : FuncData} (F : Fun K "_law_bag" "_law_bag" sBag f fd) (hlen : mg "len" = none) (hlist : mg "list" = none) : FnOk P w K mg base CX0 1 f fd ["_law_script"] (spBag K) := by
  refine F.ok scBag (fun vs H Q E h => ?_) (fun cdv A outer s H vs Q E hr h => ?_)
  · obtain ⟨a, ns, rfl, _⟩ := h
    rfl
  · obtain ⟨a, ns, rfl, ha, k⟩ := h
    refine ⟨_, pss_cons (ps_set (i := 1) scBag.nd rfl (Or.inl rfl) (pe_callB call_len_seq (by rfl) hlen PySem.boot_len (pa_cons (pe_slice sl_list (pv 0) po_none (po_some pe_int)) pa_nil)))
      (pss_cons (ps_for PassesOwn.never rfl (pi_list (pe_slice sl_list (pv 0) po_none (po_some pe_int))) (pg_name (i := 2) scBag.nd rfl (Or.inl rfl))
        (pss_one (ps_set (i := 1) scBag.nd rfl (Or.inl rfl) (pe_op op_mod (pe_op op_add (pe_op op_mul (pv 1) pe_int) (pv 2)) pe_int))))
      (pss_one (ps_ret (pe_lst (pa_cons (pe_callTy call_list_of rfl hlist PyProof.Rows.boot_list (pa_cons (pe_slice sl_list (pv 0) po_none (po_some pe_int)) pa_nil)) (pa_cons pe_int (pa_cons pe_int (pa_cons (pv 1) pa_nil)))))))), ?_⟩
    obtain ⟨ms, hms⟩ := cutI ns none (some 63)
    refine ⟨_, rfl, 63, rfl, a, _, rfl, ha, fun p hp => ?_⟩
    rw [hms]
    have s1 : Same H (upd H p (.lst (ms.map V.int))) := same_new hp
    refine ⟨p, _, rfl, .inl (SqL.of upd_same), ?_⟩
    refine ⟨_, rfl, 63, rfl, a, _, rfl, s1.seq ha, fun p2 hp2 => ?_⟩
    rw [hms]
    have s2 : Same (upd H p (.lst (ms.map V.int))) (upd (upd H p (.lst (ms.map V.int))) p2 (.lst (ms.map V.int))) := same_new hp2
    have s12 := s1.trans s2
    generalize hH2 : upd (upd H p (.lst (ms.map V.int))) p2 (.lst (ms.map V.int)) = H2 at s12
    have hq2 : H2 p2 = some (.lst (ms.map V.int)) := by rw [← hH2]; exact upd_same
    refine ⟨p2, rfl, ⟨_, SqL.of hq2⟩, for_list (K := K) (a := p2) (xs := ms.map V.int) (fun i σ H3 => H3 = H2 ∧ ∃ (sa : Int) (v : Option V), σ = [some (.ref a), some (.int sa), v]) ⟨rfl, _, none, rfl⟩ (fun i σ H3 _ ⟨e, _⟩ => by rw [e]; exact SqL.of hq2) ?_ ?_⟩
    · rintro i y σ H3 hi' ⟨rfl, sa, v, rfl⟩
      obtain ⟨z, rfl⟩ : ∃ z, y = V.int z := by
        rw [List.getElem?_map] at hi'
        cases e : ms[i]? with
        | none => rw [e] at hi'; cases hi'
        | some z => rw [e] at hi'; exact ⟨z, (Option.some.inj hi').symm⟩
      exact ⟨_, rfl, _, _, rfl, rfl, .inr ⟨by decide, by decide⟩, _, rfl, _, _, rfl, rfl, _, _, rfl, rfl, (by show (0 : Int) < 1000003; decide), rfl, _, _, rfl⟩
    · rintro σ H3 ⟨rfl, sa, v, rfl⟩
      refine ⟨_, rfl, 63, rfl, a, _, rfl, s12.seq ha, fun p3 hp3 => ?_⟩
      rw [hms]
      refine ⟨p3, _, rfl, .inl (SqL.of upd_same), fun p4 hp4 => ⟨_, rfl, (by decide : 4 ≤ sizeLine), fun p5 hp5 => ?_⟩⟩
      have s3 := same_new (o := .lst (ms.map V.int)) hp3
      have s4 := same_new (o := .lst (ms.map V.int)) hp4
      have s5 := same_new (o := .lst (bagL p4 0 0 sa)) hp5
      have n45 : p4 ≠ p5 := ne_of_none upd_same hp5
      refine k _ p5 p4 ms sa (((s12.trans s3).trans s4).trans s5) ⟨upd_same, s5 _ _ upd_same, Int.le_refl _, n45⟩ ?_ ?_
      · exact (((s12.trans s3).trans s4).free hp5)
      · exact ((s12.trans s3).free hp4)
end
end K2
namespace K2
open PySem L2
/-- a comprehension over a list that stays as it is -/
theorem comp_list {K : PySem.W.Frag} {a : Addr} {xs : List V} {g : TG} {tt : TT} {te : TE} {σ0 : St} {H0 : Hp} {End : List V → Hp → Prop} (hz : xs.length ≤ sizeLine) (Pv : Nat → List V → St → Hp → Prop) (h0 : Pv 0 [] σ0 H0) (hl : ∀ i ys σ H, i ≤ xs.length → Pv i ys σ H → SqL K H a xs) (hn : ∀ i ys σ H, Pv i ys σ H → ys.length ≤ i)
    (hs : ∀ i x ys σ H (Kc : List V → St → Hp → Prop), xs[i]? = some x → Pv i ys σ H → (∀ ys' σ' H', Pv (i + 1) ys' σ' H' → Kc ys' σ' H') → g x σ H fun σ2 H2 => tt σ2 H2 fun b H3 => if b = true then te σ2 H3 fun y H4 => Kc (ys ++ [y]) σ2 H4 else Kc ys σ2 H3)
    (hd : ∀ ys σ H, Pv xs.length ys σ H → End ys H) :
    ∃ W : Nat → Nat → List V → St → Hp → Prop, (∃ m, W 0 m [] σ0 H0) ∧ ∀ i m ys σ' H, W i m ys σ' H → ((Itl K a).stop i H ∧ End ys H) ∨ ((Itl K a).go i H ∧ ys.length < sizeLine ∧ ∀ x H', (Itl K a).yld i H x H' → g x σ' H' fun σ2 H2 => tt σ2 H2 fun b H3 => if b = true then te σ2 H3 fun y H4 => ∃ m', m' < m ∧ W (i + 1) m' (ys ++ [y]) σ2 H4 else ∃ m', m' < m ∧ W (i + 1) m' ys σ2 H3) := by
  refine ⟨fun i m ys σ H => m = xs.length - i ∧ i ≤ xs.length ∧ Pv i ys σ H, ⟨xs.length, by simp, Nat.zero_le _, h0⟩, ?_⟩
  rintro i m ys σ H ⟨rfl, hi, p⟩
  have q := hl i ys σ H hi p
  by_cases hlt : i < xs.length
  · refine .inr ⟨⟨xs, xs[i], q, by simp [hlt]⟩, by have := hn i ys σ H p; omega, fun x H' y => ?_⟩
    obtain ⟨e, y⟩ := y
    subst e
    exact hs i x ys σ _ (fun ys' σ' H' => ∃ m', m' < xs.length - i ∧ m' = xs.length - (i + 1) ∧ i + 1 ≤ xs.length ∧ Pv (i + 1) ys' σ' H') (y xs q) p fun ys' σ' H' p' => ⟨xs.length - (i + 1), by omega, rfl, hlt, p'⟩
  · have e : i = xs.length := by omega
    subst e
    exact .inl ⟨⟨xs, q, Nat.le_refl _⟩, hd ys σ H p⟩
theorem inV_ints (k : Int) (ys : List Int) : inV (.int k) (ys.map V.int) = decide (k ∈ ys) := by
  unfold inV
  rw [List.any_map, Bool.eq_iff_iff, List.any_eq_true, decide_eq_true_eq]
  constructor
  · rintro ⟨y, hy, e⟩
    have : y = k := by simpa [eqV] using e
    rw [← this]; exact hy
  · intro h
    exact ⟨k, h, by simp [eqV]⟩
theorem flat_ints (ys : List Int) : (ys.map V.int).all flatV = true := by
  rw [List.all_map, List.all_eq_true]
  intro x _
  rfl
theorem line64 {n : Nat} (h : n ≤ 64) : n ≤ sizeLine := Nat.le_trans h (by decide)
/-- those of xs that are not in ys -/
def less (xs ys : List Int) : List Int := xs.filter fun k => !decide (k ∈ ys)
theorem mem_less {xs ys : List Int} {k : Int} : k ∈ less xs ys ↔ (k ∈ xs ∧ k ∉ ys) := by
  unfold less
  rw [List.mem_filter]
  simp
theorem look1 {n x : Str} {c c' : Addr} (h : List.lookup x [(n, c)] = some c') : x = n ∧ c' = c := by
  rw [List.lookup_cons] at h
  cases q : x == n with
  | true => rw [q] at h; exact ⟨eq_of_beq q, (Option.some.inj h).symm⟩
  | false => rw [q] at h; cases h
theorem mem3 {α : Type} {p : α → Prop} {a b c : α} (ha : p a) (hb : p b) (hc : p c) : ∀ y ∈ [a, b, c], p y := fun y h => by
  rcases List.mem_cons.mp h with e | h
  · rw [e]; exact ha
  rcases List.mem_cons.mp h with e | h
  · rw [e]; exact hb
  · rw [List.mem_singleton.mp h]; exact hc
theorem mapInt {ns : List Int} {i : Nat} {y : V} (h : (ns.map V.int)[i]? = some y) : ∃ z, y = V.int z ∧ ns[i]? = some z := by
  rw [List.getElem?_map] at h
  cases e : ns[i]? with
  | none => rw [e] at h; cases h
  | some z => rw [e] at h; exact ⟨z, (Option.some.inj h).symm, rfl⟩
theorem takeFilter {α : Type} {p : α → Bool} {xs : List α} {i : Nat} {x : α} (h : xs[i]? = some x) : (xs.take (i + 1)).filter p = (xs.take i).filter p ++ (if p x then [x] else []) := by
  rw [List.take_add_one, h, List.filter_append]
  congr 1
  by_cases q : p x = true
  · simp [q]
  · simp [q]
/-- [x for x in one if x not in other] -/
theorem comp_less {K : PySem.W.Frag} {a b : Addr} {xs ys : List Int} {H : Hp} {End : List V → Hp → Prop} (ha : SqL K H a (xs.map V.int)) (hb : SqL K H b (ys.map V.int)) (hz : xs.length ≤ 64) (hd : End ((less xs ys).map V.int) H) :
    ∃ W : Nat → Nat → List V → St → Hp → Prop, (∃ m, W 0 m [] [none, some (.ref b)] H) ∧ ∀ i m ys σ' H, W i m ys σ' H → ((Itl K a).stop i H ∧ End ys H) ∨ ((Itl K a).go i H ∧ ys.length < sizeLine ∧ ∀ x H', (Itl K a).yld i H x H' → gName 0 x σ' H' fun σ2 H2 => tTest (tOp (rIn K true) (tVar 0) (tVar 1)) σ2 H2 fun b H3 => if b = true then tVar 0 σ2 H3 fun y H4 => ∃ m', m' < m ∧ W (i + 1) m' (ys ++ [y]) σ2 H4 else ∃ m', m' < m ∧ W (i + 1) m' ys σ2 H3) := by
  refine comp_list (xs := xs.map V.int) (by rw [List.length_map]; exact line64 hz) (fun i zs σ H' => H' = H ∧ zs = (((xs.take i).filter fun k => !decide (k ∈ ys)).map V.int) ∧ ∃ v, σ = [v, some (.ref b)]) ⟨rfl, by simp, none, rfl⟩ (fun i zs σ H' _ ⟨e, _⟩ => by rw [e]; exact ha) (fun i zs σ H' ⟨_, e, _⟩ => ?_) ?_ ?_
  · rw [e, List.length_map]
    exact Nat.le_trans (List.length_filter_le _ _) (List.length_take_le _ _)
  · rintro i y zs σ H' Kc hi ⟨rfl, rfl, v, rfl⟩ kc
    obtain ⟨z, rfl, hz'⟩ := mapInt hi
    refine ⟨_, rfl, _, rfl, b, _, rfl, .inl hb, rfl, flat_ints ys, ?_⟩
    refine ⟨_, rfl, ?_⟩
    rw [inV_ints]
    by_cases hm : z ∈ ys
    · rw [decide_eq_true hm]
      refine kc _ _ _ ⟨rfl, ?_, _, rfl⟩
      rw [takeFilter hz', decide_eq_true hm]
      simp
    · rw [decide_eq_false hm]
      refine ⟨_, rfl, kc _ _ _ ⟨rfl, ?_, _, rfl⟩⟩
      rw [takeFilter hz', decide_eq_false hm]
      simp
  · rintro zs σ H' ⟨rfl, rfl, _⟩
    rw [List.length_map, List.take_length]
    exact hd
def spJoin (K : PySem.W.Frag) : Sp := fun vs H Q _ => ∃ (a b : Addr) (xs ys : List Int), vs = [.ref a, .ref b] ∧ SqL K H a (xs.map V.int) ∧ SqL K H b (ys.map V.int) ∧ xs.length + ys.length < 64 ∧
  ∀ (H' : Hp) (p : Addr) (zs : List Int), Same H H' → H p = none → H' p = some (.lst (zs.map V.int)) → zs.Perm (less xs ys ++ less ys xs) → zs.Pairwise (· ≤ ·) → Q (.ref p) H'
section
variable {P : Program} {w : World} {K : PySem.W.Frag} {mg : Str → Option Value} {base : Heap}
theorem scJoin : FnScope ["_law_one", "_law_other", "_law_left"] ["_law_one", "_law_other"] (defScope sJoin) := ⟨rfl, rfl, rfl, by decide +kernel, rfl, by decide +kernel, by decide +kernel⟩
theorem ndX : (["_law_x", "_law_other"] : List Str).Nodup := by decide +kernel
theorem ndY : (["_law_x", "_law_one"] : List Str).Nodup := by decide +kernel
theorem ok_join {f : Addr} {fd : FuncData} (F : Fun K "_law_join" "_law_join" sJoin f fd) (hsorted : mg "sorted" = none) : FnOk P w K mg base CX0 1 f fd ["_law_one", "_law_other"] (spJoin K) := by
  refine F.ok scJoin (fun vs H Q E h => ?_) (fun cdv A outer s H vs Q E hr h => ?_)
  · obtain ⟨a, b, xs, ys, rfl, _⟩ := h
    rfl
  · obtain ⟨a, b, xs, ys, rfl, ha, hb, hl, k⟩ := h
    refine ⟨_, pss_cons (ps_comp (j := 2) (T := ["_law_x"]) (Fr := ["_law_other"]) (idx := [1]) (cl := [("_law_other", s.heap.objs.size + 1 + 1)]) (g := gName 0) (tt := tTest (tOp (rIn K true) (tVar 0) (tVar 1))) (te := tVar 0) scJoin.nd rfl rfl rfl rfl (pi_list (pv 0))
        ⟨rfl, rfl, by decide +kernel, by decide +kernel, ?s1, ?s2, ?s3, rfl⟩ (fun s₀ H₀ C ex pn => ⟨pg_name (i := 0) ndX rfl (Or.inl rfl), pts_one (pt_cmpR op_notIn_seq (pv 0) (pv 1) (by with_unfolding_all rfl)), pv 0⟩))
      (pss_one (ps_ret (pe_callB call_sortedL rfl hsorted PyProof.Rows.boot_sorted (pa_cons (pe_op op_cat (pv 2)
        (pe_comp (T := ["_law_x"]) (Fr := ["_law_one"]) (idx := [0]) (cl := [("_law_one", s.heap.objs.size + 1)]) (g := gName 0) (tt := tTest (tOp (rIn K true) (tVar 0) (tVar 1))) (te := tVar 0) rfl (pi_list (pv 1)) ⟨rfl, rfl, by decide +kernel, by decide +kernel, ?r1, ?r2, ?r3, rfl⟩
          (fun s₀ H₀ C ex pn => ⟨pg_name (i := 0) ndY rfl (Or.inl rfl), pts_one (pt_cmpR op_notIn_seq (pv 0) (pv 1) (by with_unfolding_all rfl)), pv 0⟩))) pa_nil)))), ?_⟩
    case s1 => intro x c h; obtain ⟨e1, e2⟩ := look1 h; rw [e1, e2]; rfl
    case r1 => intro x c h; obtain ⟨e1, e2⟩ := look1 h; rw [e1, e2]; rfl
    case s2 => exact mem3 (fun z => by cases z) (fun z => by cases z) fun _ => ⟨_, rfl⟩
    case r2 => exact mem3 (fun z => by cases z) (fun z => by cases z) fun _ => ⟨_, rfl⟩
    case s3 =>
      intro j x h
      match j, h with
      | 0, h => cases h; exact ⟨1, _, rfl, rfl, .inl rfl, rfl, .inl rfl⟩
      | n + 1, h => cases h
    case r3 =>
      intro j x h
      match j, h with
      | 0, h => cases h; exact ⟨0, _, rfl, rfl, .inl rfl, rfl, .inl rfl⟩
      | n + 1, h => cases h
    refine ⟨_, rfl, a, rfl, ⟨_, ha⟩, comp_less ha hb (by omega) fun p hp => ?_⟩
    have s1 : Same H (upd H p (.lst ((less xs ys).map V.int))) := same_new hp
    refine ⟨_, rfl, _, rfl, b, rfl, ⟨_, s1.seq hb⟩, comp_less (s1.seq hb) (s1.seq ha) (by omega) fun q hq => ?_⟩
    have s2 := same_new (o := .lst ((less ys xs).map V.int)) hq
    have l1 : (less xs ys).length ≤ xs.length := List.length_filter_le _ _
    have l2 : (less ys xs).length ≤ ys.length := List.length_filter_le _ _
    refine ⟨p, q, _, _, rfl, rfl, s2 _ _ upd_same, upd_same, by rw [List.length_map, List.length_map]; exact line64 (by omega), fun r hr' => ?_⟩
    have s3 := same_new (o := .lst ((less xs ys).map V.int ++ (less ys xs).map V.int)) hr'
    refine ⟨r, less xs ys ++ less ys xs, rfl, SqL.of (by rw [upd_same, List.map_append]), by rw [List.length_append]; omega, fun u zs hu pz sz => ?_⟩
    have s4 := same_new (o := .lst (zs.map V.int)) hu
    exact k _ u zs (((s1.trans s2).trans s3).trans s4) (((s1.trans s2).trans s3).free hu) upd_same pz sz
end
end K2
namespace K2
open PySem L2
theorem BagAt.kept {H H' : Hp} {g q : Addr} {ns : List Int} {i z s : Int} (B : BagAt H g q ns i z s) (k : Kp g H H') (h : H' g = some (.lst (bagL q i z s))) : BagAt H' g q ns i z s := ⟨h, k _ _ B.ne B.sc, B.i0, B.ne⟩
/-- numbers that the draws below thirty can give -/
def few (sc : Int) : List Int := (List.range 30).map fun j : Nat => ((j : Int) - 9) * sc
def Num (sc : Int) (zs : List Int) : Prop := Rising zs ∧ ∀ k ∈ zs, k ∈ few sc
theorem Num.len {sc : Int} {zs : List Int} (h : Num sc zs) : zs.length ≤ 30 := by
  have := SX.nodup_len zs (few sc) (rising_nodup h.1) h.2
  rwa [show (few sc).length = 30 by unfold few; rw [List.length_map, List.length_range]] at this
theorem less_nodup {xs ys : List Int} (h : xs.Nodup) : (less xs ys).Nodup := List.Pairwise.filter _ h
theorem join_rising {xs ys zs : List Int} (hx : Rising xs) (hy : Rising ys) (pz : zs.Perm (less xs ys ++ less ys xs)) (sz : zs.Pairwise (· ≤ ·)) : Sym zs xs ys := by
  refine ⟨rising_of sz (pz.nodup_iff.mpr ?_), fun k => ?_⟩
  · refine List.nodup_append.mpr ⟨less_nodup (rising_nodup hx), less_nodup (rising_nodup hy), ?_⟩
    intro a ha b hb e
    subst e
    exact (mem_less.mp ha).2 (mem_less.mp hb).1
  · rw [pz.mem_iff, List.mem_append, mem_less, mem_less]
    constructor
    · rintro (h | ⟨h1, h2⟩)
      · exact .inl h
      · exact .inr ⟨h2, h1⟩
    · rintro (h | ⟨h1, h2⟩)
      · exact .inl h
      · exact .inr ⟨h2, h1⟩
theorem Num.join {sc c : Int} {xs zs : List Int} (h : Num sc xs) (hc : c ∈ few sc) (pz : zs.Perm (less xs [c] ++ less [c] xs)) (sz : zs.Pairwise (· ≤ ·)) : Num sc zs := by
  have hs := join_rising h.1 (show Rising [c] from List.pairwise_singleton _ _) pz sz
  refine ⟨hs.1, fun k hk => ?_⟩
  rcases (hs.2 k).mp hk with ⟨h1, _⟩ | ⟨_, h1⟩
  · exact h.2 k h1
  · rw [List.mem_singleton.mp h1]; exact hc
theorem few_mem {sc r : Int} (h0 : 0 ≤ r) (h1 : r < 30) : (r - 9) * sc ∈ few sc := by
  refine List.mem_map.mpr ⟨r.toNat, List.mem_range.mpr (by omega), ?_⟩
  rw [show ((r.toNat : Nat) : Int) = r by omega]
def lens : List V := [.int 3, .int 2, .int 1, .int 4, .int 0, .int 6, .int 12, .int 40]
theorem pick8 {r : Int} (h0 : 0 ≤ r) (h1 : r < 8) : ∃ n : Int, atI lens r = some (.int n) ∧ -(2 ^ 62) ≤ n ∧ n < 2 ^ 62 := by
  have : r = 0 ∨ r = 1 ∨ r = 2 ∨ r = 3 ∨ r = 4 ∨ r = 5 ∨ r = 6 ∨ r = 7 := by omega
  rcases this with z | z | z | z | z | z | z | z <;> subst z <;> exact ⟨_, rfl, by decide, by decide⟩
def spNumbers : Sp := fun vs H Q _ => ∃ (g q : Addr) (ns : List Int) (i z s sc : Int), vs = [.ref g, .int sc] ∧ BagAt H g q ns i z s ∧ ∀ (H' : Hp) (i' z' : Int) (p : Addr) (zs : List Int), Kp g H H' → BagAt H' g q ns i' z' s → H p = none → H' p = some (.lst (zs.map V.int)) → Num sc zs → Q (.ref p) H'
section
variable {P : Program} {w : World} {K : PySem.W.Frag} {mg : Str → Option Value} {base : Heap}
theorem scNumbers : FnScope ["_law_bag_here", "_law_scale_here", "_law_found", "_law_k"] ["_law_bag_here", "_law_scale_here"] (defScope sNumbers) := ⟨rfl, rfl, rfl, by decide +kernel, rfl, by decide +kernel, by decide +kernel⟩
theorem ok_numbers {f f1 f2 : Addr} {fd fd1 fd2 : FuncData} (F : Fun K "_law_numbers" "_law_numbers" sNumbers f fd) (F1 : Fn K mg "_law_pull" sPull ["_law_bag_here", "_law_many"] f1 fd1) (G1 : FnOk P w K mg base CX0 1 f1 fd1 ["_law_bag_here", "_law_many"] spPull)
    (F2 : Fn K mg "_law_join" sJoin ["_law_one", "_law_other"] f2 fd2) (G2 : FnOk P w K mg base CX0 1 f2 fd2 ["_law_one", "_law_other"] (spJoin K)) (hrange : mg "range" = none) : FnOk P w K mg base CX0 2 f fd ["_law_bag_here", "_law_scale_here"] spNumbers := by
  refine F.ok scNumbers (fun vs H Q E h => ?_) (fun cdv A outer s H vs Q E hr h => ?_)
  · obtain ⟨g, q, ns, i, z, s, sc, rfl, _⟩ := h
    rfl
  · obtain ⟨g, q, ns, i, z, s', sc, rfl, B, k⟩ := h
    have nd := scNumbers.nd
    refine ⟨_, pss_cons (ps_set (i := 2) nd rfl (Or.inl rfl) (pe_lst pa_nil))
      (pss_cons (ps_for PassesOwn.never rfl (pi_range1 rfl hrange (pa_cons (pe_ix ix_list (pe_lst (pa_cons pe_int (pa_cons pe_int (pa_cons pe_int (pa_cons pe_int (pa_cons pe_int (pa_cons pe_int (pa_cons pe_int (pa_cons pe_int pa_nil))))))))) (pe_call G1 hr rfl F1.at_ F1.fn.kp F1.bd .nil pass0 (pa_cons (pv 0) (pa_cons pe_int pa_nil))) (fun _ _ => rfl)) pa_nil))
          (pg_name (i := 3) nd rfl (Or.inl rfl))
          (pss_one (ps_set (i := 2) nd rfl (Or.inl rfl) (pe_call G2 hr rfl F2.at_ F2.fn.kp F2.bd .nil pass0 (pa_cons (pv 2) (pa_cons (pe_lst (pa_cons (pe_op op_mul (pe_op op_sub (pe_call G1 hr rfl F1.at_ F1.fn.kp F1.bd .nil pass0 (pa_cons (pv 0) (pa_cons pe_int pa_nil))) pe_int) (pv 1)) pa_nil)) pa_nil))))))
      (pss_one (ps_ret (pv 2)))), ?_⟩
    refine ⟨(by decide : 0 ≤ sizeLine), fun p hp => ?_⟩
    have s1 := same_new (o := .lst []) hp
    have npg : p ≠ g := Ne.symm (ne_of_none B.ob hp)
    refine ⟨(by decide : 8 ≤ sizeLine), fun p2 hp2 => ?_⟩
    have s2 := same_new (o := .lst lens) hp2
    have B2 := (B.keep s1).keep s2
    have n2g : p2 ≠ g := Ne.symm (ne_of_none (s1 _ _ B.ob) hp2)
    refine ⟨_, rfl, g, q, ns, i, z, s', 8, rfl, B2, by decide, by decide, fun H3 i3 z3 r k3 B3 r0 r8 => ?_⟩
    obtain ⟨n, en, n1, n2⟩ := pick8 r0 r8
    refine ⟨p2, _, _, _, rfl, rfl, SqL.of (k3 p2 _ n2g upd_same), en, n, rfl, n1, n2, ?_⟩
    have kAll : Kp g H H3 := fun b o nb e => k3 b o nb (s2 _ _ (s1 _ _ e))
    refine for_range (fun _ σ H4 => Kp g H H4 ∧ ∃ (p' : Addr) (zs : List Int) (i' z' : Int) (v : Option V), σ = [some (.ref g), some (.int sc), some (.ref p'), v] ∧ BagAt H4 g q ns i' z' s' ∧ H p' = none ∧ H4 p' = some (.lst (zs.map V.int)) ∧ Num sc zs) ?_ ?_ ?_
    · exact ⟨kAll, p, [], i3, z3, none, rfl, B3, hp, k3 p _ npg (s2 _ _ upd_same), List.Pairwise.nil, fun k hk => by cases hk⟩
    · rintro j σ H4 hj ⟨k4, p', zs, i', z', v, rfl, B4, hp', e4, hN⟩
      refine ⟨_, rfl, _, rfl, g, q, ns, i', z', s', 30, rfl, B4, by decide, by decide, fun H5 i5 z5 r' k5 B5 r0' r30 => ?_⟩
      have np'g : p' ≠ g := fun e => by rw [e, B.ob] at hp'; cases hp'
      refine ⟨_, _, rfl, rfl, _, rfl, _, _, rfl, rfl, .inl ⟨by omega, by omega⟩, (by decide : 1 ≤ sizeLine), fun p6 hp6 => ?_⟩
      have s6 := same_new (o := .lst [V.int ((r' - 9) * sc)]) hp6
      refine ⟨p', p6, zs, [(r' - 9) * sc], rfl, SqL.of (s6 _ _ (k5 _ _ np'g e4)), SqL.of upd_same, by have := hN.len; simp; omega, fun H7 p7 zs7 s7 hp7 e7 pz sz => ?_⟩
      refine ⟨fun b o nb e => s7 _ _ (s6 _ _ (k5 b o nb (k4 b o nb e))), p7, zs7, i5, z5, _, rfl, (B5.keep s6).keep s7, ?_, e7, hN.join (few_mem r0' r30) pz sz⟩
      cases e : H p7 with
      | none => rfl
      | some o =>
        have n7g : p7 ≠ g := fun e' => by rw [e', s6 _ _ B5.ob] at hp7; cases hp7
        rw [s6 _ _ (k5 _ _ n7g (k4 _ _ n7g e))] at hp7
        cases hp7
    · rintro σ H4 ⟨k4, p', zs, i', z', v, rfl, B4, hp', e4, hN⟩
      exact ⟨_, rfl, k H4 i' z' p' zs k4 B4 hp' e4 hN⟩
end
end K2

set_option maxHeartbeats 4000000
namespace K2
open PySem L2
abbrev sAdded : Stmt := top 6
abbrev sTotal : Stmt := top 7
abbrev sEvenly : Stmt := top 8
abbrev sRising : Stmt := top 15
abbrev sTruth : Stmt := top 16
abbrev sRefused : Stmt := top 17
/-- rises -/
def asc (ns : List Int) : Bool := lessAll ns (ns.drop 1)
theorem asc_cons {a b : Int} {r : List Int} : asc (a :: b :: r) = (decide (a < b) && asc (b :: r)) := rfl
theorem asc_iff : ∀ (ns : List Int), asc ns = true ↔ ∀ (j : Nat) (x y : Int), ns[j]? = some x → ns[j + 1]? = some y → x < y
  | [] => ⟨fun _ j x y h _ => by simp at h, fun _ => rfl⟩
  | [a] => ⟨fun _ j x y _ h => by simp at h, fun _ => rfl⟩
  | a :: b :: r => by
    rw [asc_cons, Bool.and_eq_true, decide_eq_true_eq, asc_iff (b :: r)]
    constructor
    · rintro ⟨h1, h2⟩ j x y hx hy
      cases j with
      | zero => simp at hx hy; omega
      | succ j => exact h2 j x y (by simpa using hx) (by simpa using hy)
    · intro h
      exact ⟨h 0 a b rfl rfl, fun j x y hx hy => h (j + 1) x y (by simpa using hx) (by simpa using hy)⟩
theorem asc_rising : ∀ (ns : List Int), asc ns = true → Rising ns
  | [], _ => List.Pairwise.nil
  | [a], _ => List.pairwise_singleton _ _
  | a :: b :: r, h => by
    rw [asc_cons, Bool.and_eq_true, decide_eq_true_eq] at h
    have ih := asc_rising (b :: r) h.2
    refine List.pairwise_cons.mpr ⟨fun x hx => ?_, ih⟩
    rcases List.mem_cons.mp hx with e | e
    · rw [e]; exact h.1
    · exact Int.lt_trans h.1 ((List.pairwise_cons.mp ih).1 x e)
theorem asc_of {ns : List Int} (h : Rising ns) : asc ns = true := less_rising ns h
def spTruth : Sp := fun vs H Q _ => ∃ x y : Bool, vs = [.bl x, .bl y] ∧ Q (.bl (x == y)) H
def spMust2 (K : PySem.W.Frag) (C tab : Addr) : Sp := fun vs H Q E => ∃ (a : Addr) (ns : List Int), vs = [.ref a] ∧ SqL K H a (ns.map V.int) ∧ TabAt H tab ∧ ∀ H', Kp tab H H' → TabAt H' tab → (asc ns = true → Q .non H') ∧ (asc ns = false → ∀ x : Addr, E (.ref C) (some x) H')
/-- of two lists: told something, or refused -/
def spTwo (K : PySem.W.Frag) (C tab : Addr) : Sp := fun vs H Q E => ∃ (a b : Addr) (xs ys : List Int), vs = [.ref a, .ref b] ∧ SqL K H a (xs.map V.int) ∧ SqL K H b (ys.map V.int) ∧ TabAt H tab ∧ xs.length ≤ 31 ∧ ys.length ≤ 31 ∧
  ∀ H', Kp tab H H' → TabAt H' tab → ((asc xs && asc ys) = true → ∀ v, Q v H') ∧ ((asc xs && asc ys) = false → ∀ x : Addr, E (.ref C) (some x) H')
def spTotal2 (K : PySem.W.Frag) (C tab : Addr) : Sp := fun vs H Q E => ∃ (a : Addr) (ps : List V) (rs : List (List Int)), vs = [.ref a] ∧ SqL K H a ps ∧ RowsAt K H ps rs ∧ TabAt H tab ∧ rs.flatten.length < 64 ∧
  ∀ H', Kp tab H H' → TabAt H' tab → (rs.all asc = true → ∀ v, Q v H') ∧ (rs.all asc = false → ∀ x : Addr, E (.ref C) (some x) H')
def spRising (K : PySem.W.Frag) : Sp := fun vs H Q _ => ∃ (a : Addr) (ns : List Int), vs = [.ref a] ∧ SqL K H a (ns.map V.int) ∧ ns.length ≤ 64 ∧ Q (.bl (asc ns)) H
theorem kp_fresh {tab p : Addr} {H H' : Hp} {o : HO} (k : Kp tab H H') (h : H' p = none) : Kp tab H (upd H' p o) := fun b u n e => same_new h b u (k b u n e)
theorem tab_new {tab p : Addr} {H : Hp} {o : HO} (t : TabAt H tab) (h : H p = none) : TabAt (upd H p o) tab := by
  obtain ⟨ps, e, r⟩ := t
  exact ⟨ps, same_new h _ _ e, r⟩
theorem take_get {α : Type} {xs : List α} {i : Nat} {x : α} (h : xs[i]? = some x) : xs.take (i + 1) = xs.take i ++ [x] := by rw [List.take_add_one, h]; rfl
theorem rows_get {K : PySem.W.Frag} {H : Hp} : ∀ {ps : List V} {rs : List (List Int)} {i : Nat} {v : V}, RowsAt K H ps rs → ps[i]? = some v → ∃ (a : Addr) (r : List Int), v = .ref a ∧ SqL K H a (r.map V.int) ∧ rs[i]? = some r
  | _, _, _, _, .nil, h => by cases h
  | _, _, 0, _, .cons ⟨a, e, h⟩ _, g => by cases g; exact ⟨a, _, e, h, rfl⟩
  | p :: ps, r :: rs, i + 1, v, .cons _ t, g => by
    obtain ⟨a, q, h1, h2, h3⟩ := rows_get (ps := ps) (rs := rs) (i := i) (v := v) t (by simpa using g)
    exact ⟨a, q, h1, h2, by simpa using h3⟩
theorem sq_keep {K : PySem.W.Frag} {H H' : Hp} {tab p a : Addr} {xs : List V} (t : TabAt H tab) (hp : H p = none) (k : ∀ b o, b ≠ tab → b ≠ p → H b = some o → H' b = some o) (h : SqL K H a xs) : SqL K H' a xs := by
  have f : ∀ o, H a = some o → (∀ ps, o ≠ .tbl ps) → H' a = some o := fun o e n => k a o (fun z => by
    obtain ⟨ps, e2, _⟩ := t
    rw [z, e2] at e
    exact n ps (Option.some.inj e).symm) (ne_of_none e hp) e
  rcases h with (h | ⟨o, h⟩) | h
  · exact .inl (.inl (f _ h fun _ z => by cases z))
  · exact .inl (.inr ⟨o, f _ h fun _ z => by cases z⟩)
  · exact .inr h
section
variable {P : Program} {w : World} {K : PySem.W.Frag} {mg : Str → Option Value} {base : Heap}
theorem okX {x : Str} {st : Stmt} {f : Addr} {fd : FuncData} {N ps : List Str} {k : Nat} {sp : Sp} (F : Fun K x x st f fd) (S : FnScope N ps (defScope st)) (len : ∀ vs H Q E, sp vs H Q E → vs.length = ps.length)
    (hbody : ∀ (cdv : Value) (A : Around) (outer : List Env) (s : Shared) (H : Hp) (vs : List V) (Q : VK) (E : XK), Room k (A.deeper (PyProof.Rows.envOfC x (defScope st) s.heap.objs.size f cdv)) → sp vs H Q E →
      ∃ t, PSs (cxOf (CX1 P w) P w K mg base N x (defScope st) f cdv A outer s H E) (defBody st) t ∧ t { nx := fun _ H' => Q .non H', rt := Q } (start N vs) H) : FnOk P w K mg base (CX1 P w) (k + 1) f fd ps sp := by
  obtain ⟨oc, od, kV, doc, pm, an, cdv, ct, osl, rfl, lk, hcd⟩ := F.ex
  exact fn_of lk hcd S len fun A outer s H vs Q E hr hsp => hbody cdv A outer s H vs Q E hr hsp
theorem ok_must2 {f f1 tab C : Addr} {fd fd1 : FuncData} {bmB : List Value} {B newId initId : String} (F : Fun K "must_be_sum" "must_be_sum" sMust f fd) (F1 : Fn K mg "is_sum" sIsSum ["row"] f1 fd1) (G1 : FnOk P w K mg base CX0 1 f1 fd1 ["row"] (spIsSum K tab))
    (hC : mg "NotASum" = some (.ref C)) (O : PySem.W.excIn K C bmB newId = true) (FB : ExcBaseFacts B newId initId bmB) : FnOk P w K mg base (CX1 P w) 2 f fd ["row"] (spMust2 K C tab) := by
  refine okX F scMu (fun vs H Q E h => ?_) (fun cdv A outer s H vs Q E hr h => ?_)
  · obtain ⟨a, ns, rfl, _⟩ := h
    rfl
  · obtain ⟨a, ns, rfl, hS, hT, k⟩ := h
    refine ⟨_, pss_one (ps_if (pt_not (pt_val (pe_call G1 hr rfl F1.at_ F1.fn.kp F1.bd .nil pass0 (pa_cons (pv 0) pa_nil)) (fun _ => rfl))) (pss_one (ps_raise rfl hC O FB (pa_cons pe_str pa_nil))) pss_nil), ?_⟩
    refine ⟨_, rfl, a, ns, rfl, hS, hT, fun H' k1 t' => ⟨_, rfl, ?_⟩⟩
    obtain ⟨q1, q2⟩ := k H' k1 t'
    cases e : lessAll ns (ns.drop 1) with
    | true => exact iteF (q1 e)
    | false => exact iteT ⟨(by decide : 1 ≤ sizeLine), q2 e⟩
theorem scAd : FnScope ["one", "other"] ["one", "other"] (defScope sAdded) := ⟨rfl, rfl, rfl, by decide +kernel, rfl, by decide +kernel, by decide +kernel⟩
theorem ok_added2 {f f1 tab C : Addr} {fd fd1 : FuncData} (F : Fun K "added" "added" sAdded f fd) (F1 : Fn K mg "must_be_sum" sMust ["row"] f1 fd1) (G1 : FnOk P w K mg base (CX1 P w) 2 f1 fd1 ["row"] (spMust2 K C tab)) (hset : mg "set" = none) (hsorted : mg "sorted" = none) : FnOk P w K mg base (CX1 P w) 3 f fd ["one", "other"] (spTwo K C tab) := by
  refine okX F scAd (fun vs H Q E h => ?_) (fun cdv A outer s H vs Q E hr h => ?_)
  · obtain ⟨a, b, xs, ys, rfl, _⟩ := h
    rfl
  · obtain ⟨a, b, xs, ys, rfl, hA, hB, hT, lx, ly, k⟩ := h
    refine ⟨_, pss_cons (ps_expr (pe_call G1 hr rfl F1.at_ F1.fn.kp F1.bd .nil pass1 (pa_cons (pv 0) pa_nil)))
      (pss_cons (ps_expr (pe_call G1 hr rfl F1.at_ F1.fn.kp F1.bd .nil pass1 (pa_cons (pv 1) pa_nil)))
      (pss_one (ps_ret (pe_callB (call_sortedS rfl) rfl hsorted PyProof.Rows.boot_sorted (pa_cons (pe_op op_xorS (pe_callTy (call_set rfl) rfl hset PyProof.Rows.boot_set (pa_cons (pv 0) pa_nil)) (pe_callTy (call_set rfl) rfl hset PyProof.Rows.boot_set (pa_cons (pv 1) pa_nil))) pa_nil))))), ?_⟩
    refine ⟨_, rfl, a, xs, rfl, hA, hT, fun H1 k1 t1 => ⟨fun ax => ?_, fun ax => (k H1 k1 t1).2 (by rw [ax]; rfl)⟩⟩
    refine ⟨_, rfl, b, ys, rfl, kp_tab k1 hT hB, t1, fun H2 k2 t2 => ⟨fun ay => ?_, fun ay => (k H2 (k1.trans k2) t2).2 (by rw [ax, ay]; rfl)⟩⟩
    have hA2 := kp_tab k2 t1 (kp_tab k1 hT hA)
    have hB2 := kp_tab k2 t1 (kp_tab k1 hT hB)
    refine ⟨_, rfl, a, xs, rfl, hA2, by omega, fun p ka hp nda lka ma => ?_⟩
    have s3 : Same H2 (upd H2 p (setO w p ka)) := same_new hp
    refine ⟨_, rfl, b, ys, rfl, s3.seq hB2, by omega, fun q kb hq ndb lkb mb => ?_⟩
    have s4 : Same (upd H2 p (setO w p ka)) (upd (upd H2 p (setO w p ka)) q (setO w q kb)) := same_new hq
    refine ⟨p, q, ka, kb, rfl, rfl, s4 _ _ upd_same, upd_same, by omega, fun r kc hr' ndc mc => ?_⟩
    have lkc : kc.length < 64 := by
      have : kc.length ≤ (xs ++ ys).length := SX.nodup_len _ _ ndc fun z hz => by
        rw [List.mem_append]
        rcases (mc z).mp hz with ⟨h1, _⟩ | ⟨_, h1⟩
        · exact .inr ((mb z).mp h1)
        · exact .inl ((ma z).mp h1)
      rw [List.length_append] at this
      omega
    refine ⟨r, kc, rfl, upd_same, lkc, fun u zs hu pz sz => ?_⟩
    exact (k _ (kp_fresh (kp_fresh (kp_fresh (kp_fresh (k1.trans k2) hp) hq) hr') hu) (tab_new (tab_new (tab_new (tab_new t2 hp) hq) hr') hu)).1 (by rw [ax, ay]; rfl) _
theorem scEvenly : FnScope ["one", "other"] ["one", "other"] (defScope sEvenly) := ⟨rfl, rfl, rfl, by decide +kernel, rfl, by decide +kernel, by decide +kernel⟩
theorem ok_evenly2 {f f1 tab C : Addr} {fd fd1 : FuncData} (F : Fun K "evenly" "evenly" sEvenly f fd) (F1 : Fn K mg "must_be_sum" sMust ["row"] f1 fd1) (G1 : FnOk P w K mg base (CX1 P w) 2 f1 fd1 ["row"] (spMust2 K C tab)) (hset : mg "set" = none) (hlen : mg "len" = none) : FnOk P w K mg base (CX1 P w) 3 f fd ["one", "other"] (spTwo K C tab) := by
  refine okX F scEvenly (fun vs H Q E h => ?_) (fun cdv A outer s H vs Q E hr h => ?_)
  · obtain ⟨a, b, xs, ys, rfl, _⟩ := h
    rfl
  · obtain ⟨a, b, xs, ys, rfl, hA, hB, hT, lx, ly, k⟩ := h
    refine ⟨_, pss_cons (ps_expr (pe_call G1 hr rfl F1.at_ F1.fn.kp F1.bd .nil pass1 (pa_cons (pv 0) pa_nil)))
      (pss_cons (ps_expr (pe_call G1 hr rfl F1.at_ F1.fn.kp F1.bd .nil pass1 (pa_cons (pv 1) pa_nil)))
      (pss_one (ps_ret (pe_cmpR op_eq (pe_op op_mod (pe_callB call_lenS rfl hlen PySem.boot_len (pa_cons (pe_op op_andS (pe_callTy (call_set rfl) rfl hset PyProof.Rows.boot_set (pa_cons (pv 0) pa_nil)) (pe_callTy (call_set rfl) rfl hset PyProof.Rows.boot_set (pa_cons (pv 1) pa_nil))) pa_nil)) pe_int) pe_int (nomark _))))), ?_⟩
    refine ⟨_, rfl, a, xs, rfl, hA, hT, fun H1 k1 t1 => ⟨fun ax => ?_, fun ax => (k H1 k1 t1).2 (by rw [ax]; rfl)⟩⟩
    refine ⟨_, rfl, b, ys, rfl, kp_tab k1 hT hB, t1, fun H2 k2 t2 => ⟨fun ay => ?_, fun ay => (k H2 (k1.trans k2) t2).2 (by rw [ax, ay]; rfl)⟩⟩
    have hA2 := kp_tab k2 t1 (kp_tab k1 hT hA)
    have hB2 := kp_tab k2 t1 (kp_tab k1 hT hB)
    refine ⟨_, rfl, a, xs, rfl, hA2, by omega, fun p ka hp nda lka ma => ?_⟩
    have s3 : Same H2 (upd H2 p (setO w p ka)) := same_new hp
    refine ⟨_, rfl, b, ys, rfl, s3.seq hB2, by omega, fun q kb hq ndb lkb mb => ?_⟩
    have npq : p ≠ q := ne_of_none upd_same hq
    have s4 : Same (upd H2 p (setO w p ka)) (upd (upd H2 p (setO w p ka)) q (setO w q kb)) := same_new hq
    refine ⟨p, q, ka, kb, rfl, rfl, s4 _ _ upd_same, upd_same, npq, by omega, by omega, fun r kc hr' ndc mc => ?_⟩
    refine ⟨r, kc, rfl, upd_same, _, _, rfl, rfl, (by show (0 : Int) < 2; decide), rfl, ?_⟩
    exact (k _ (kp_fresh (kp_fresh (kp_fresh (k1.trans k2) hp) hq) hr') (tab_new (tab_new (tab_new t2 hp) hq) hr')).1 (by rw [ax, ay]; rfl) _
theorem scTruth : FnScope ["_law_found", "_law_due"] ["_law_found", "_law_due"] (defScope sTruth) := ⟨rfl, rfl, rfl, by decide +kernel, rfl, by decide +kernel, by decide +kernel⟩
theorem ok_truth {f : Addr} {fd : FuncData} (F : Fun K "_law_truth" "_law_truth" sTruth f fd) (hi : mg "isinstance" = none) (hbool : mg "bool" = none) : FnOk P w K mg base CX0 1 f fd ["_law_found", "_law_due"] spTruth := by
  refine F.ok scTruth (fun vs H Q E h => ?_) (fun cdv A outer s H vs Q E hr h => ?_)
  · obtain ⟨x, y, rfl, _⟩ := h
    rfl
  · obtain ⟨x, y, rfl, k⟩ := h
    refine ⟨_, pss_one (ps_ret (pe_and (pe_callB call_isinst rfl hi PyProof.Rows.boot_isinstance (pa_cons (pv 0) (pa_cons (pe_bltn (v := .ty "bool") rfl hbool PyProof.Rows.boot_bool rfl) pa_nil)))
      (pe_one (pe_cmpR op_eq (pv 0) (pv 1) (nomark _))))), ?_⟩
    refine ⟨_, rfl, _, _, _, true, rfl, TyOf.bl x, by rfl, true, rfl, iteT ?_⟩
    refine ⟨_, rfl, _, rfl, rfl, ?_⟩
    have e : decide (V.bl x = V.bl y) = (x == y) := by cases x <;> cases y <;> rfl
    rw [e]
    exact k
theorem scRising : FnScope ["_law_row", "_law_k"] ["_law_row"] (defScope sRising) := ⟨rfl, rfl, rfl, by decide +kernel, rfl, by decide +kernel, by decide +kernel⟩
theorem ok_rising {f : Addr} {fd : FuncData} (F : Fun K "_law_rising" "_law_rising" sRising f fd) (hrange : mg "range" = none) (hlen : mg "len" = none) : FnOk P w K mg base CX0 1 f fd ["_law_row"] (spRising K) := by
  refine F.ok scRising (fun vs H Q E h => ?_) (fun cdv A outer s H vs Q E hr h => ?_)
  · obtain ⟨a, ns, rfl, _⟩ := h
    rfl
  · obtain ⟨a, ns, rfl, hS, l64, k⟩ := h
    have nd := scRising.nd
    refine ⟨_, pss_cons (ps_for PassesOwn.never rfl (pi_range2 rfl hrange (pa_cons pe_int (pa_cons (pe_callB call_len_seq (by rfl) hlen PySem.boot_len (pa_cons (pv 0) pa_nil)) pa_nil))) (pg_name (i := 1) nd rfl (Or.inl rfl))
        (pss_one (ps_if (pt_cmpR op_ge (pe_ix ix_list (pv 0) (pe_op op_sub (pv 1) pe_int) (fun _ _ => rfl)) (pe_ix ix_list (pv 0) (pv 1) (fun _ _ => rfl)) (nomark _)) (pss_one (ps_ret pe_bl)) pss_nil)))
      (pss_one (ps_ret pe_bl)), ?_⟩
    have lh : (ns.map V.int).length < 2 ^ 62 := by rw [List.length_map]; exact Nat.lt_of_le_of_lt l64 (by decide)
    refine ⟨_, rfl, a, _, rfl, .inl hS, 1, _, rfl, ⟨by decide, by decide, by omega, by omega⟩, ?_⟩
    rw [List.length_map]
    refine for_range (fun i σ H2 => H2 = H ∧ (∃ v, σ = [some (.ref a), v]) ∧ ∀ (j : Nat) (x y : Int), j < i → ns[j]? = some x → ns[j + 1]? = some y → x < y) ⟨rfl, ⟨none, rfl⟩, fun j _ _ h => by omega⟩ ?_ ?_
    · rintro i σ H2 hi ⟨rfl, ⟨v, rfl⟩, hj⟩
      have hi1 : i + 1 < ns.length := by omega
      obtain ⟨x, ex⟩ : ∃ x, ns[i]? = some x := ⟨_, List.getElem?_eq_getElem (by omega)⟩
      obtain ⟨y, ey⟩ : ∃ y, ns[i + 1]? = some y := ⟨_, List.getElem?_eq_getElem hi1⟩
      have ax : atI (ns.map V.int) (1 + (i : Int) - 1) = some (.int x) := by
        rw [show (1 + (i : Int) - 1) = ((i : Nat) : Int) by omega]
        exact atI_nat (by rw [List.getElem?_map, ex]; rfl)
      have ay : atI (ns.map V.int) (1 + (i : Int)) = some (.int y) := by
        rw [show (1 + (i : Int)) = ((i + 1 : Nat) : Int) by omega]
        exact atI_nat (by rw [List.getElem?_map, ey]; rfl)
      refine ⟨_, rfl, _, rfl, _, _, rfl, rfl, a, _, _, _, rfl, rfl, hS, ax, _, rfl, _, rfl, a, _, _, _, rfl, rfl, hS, ay, _, _, rfl, rfl, _, rfl, ?_⟩
      refine ite2 (fun hge => ?_) (fun hge => ?_)
      · have e : asc ns = false := by
          cases q : asc ns with
          | false => rfl
          | true =>
            have := (asc_iff ns).mp q i x y ex ey
            have h2 := of_decide_eq_true hge
            omega
        rw [e] at k
        exact k
      · refine ⟨rfl, ⟨_, rfl⟩, fun j x' y' hj' hx' hy' => ?_⟩
        by_cases hji : j = i
        · subst hji
          rw [ex] at hx'
          rw [ey] at hy'
          cases hx'
          cases hy'
          simpa using hge
        · exact hj j x' y' (by omega) hx' hy'
    · rintro σ H2 ⟨rfl, ⟨v, rfl⟩, hj⟩
      have e : asc ns = true := (asc_iff ns).mpr fun j x y hx hy => hj j x y (by
        have := (List.getElem?_eq_some_iff.mp hy).1
        omega) hx hy
      rw [e] at k
      exact k
end
end K2

set_option maxHeartbeats 4000000
namespace K2
open PySem L2
theorem rows_len {K : PySem.W.Frag} {H : Hp} {ps : List V} {rs : List (List Int)} (h : RowsAt K H ps rs) : ps.length = rs.length := Paired.length h
def E2 (C : Addr) (H : Hp) (tab : Addr) (b : Bool) : XK := fun c _ H' => c = .ref C ∧ Kp tab H H' ∧ TabAt H' tab ∧ b = false
def spRefused (K : PySem.W.Frag) (tab : Addr) : Sp := fun vs H Q _ => ∃ (a b : Addr) (xs ys : List Int) (way : Int), vs = [.ref a, .ref b, .int way] ∧ SqL K H a (xs.map V.int) ∧ SqL K H b (ys.map V.int) ∧ TabAt H tab ∧ xs.length ≤ 31 ∧ ys.length ≤ 31 ∧ Rising ys ∧
  ∀ H', Kp tab H H' → TabAt H' tab → Q (.bl (!asc xs)) H'
section
variable {P : Program} {w : World} {K : PySem.W.Frag} {mg : Str → Option Value} {base : Heap}
theorem scTotal : FnScope ["rows", "odd", "row", "number"] ["rows"] (defScope sTotal) := ⟨rfl, rfl, rfl, by decide +kernel, rfl, by decide +kernel, by decide +kernel⟩
theorem ok_total2 {f f1 tab C : Addr} {fd fd1 : FuncData} (F : Fun K "total" "total" sTotal f fd) (F1 : Fn K mg "must_be_sum" sMust ["row"] f1 fd1) (G1 : FnOk P w K mg base (CX1 P w) 2 f1 fd1 ["row"] (spMust2 K C tab)) (hset : mg "set" = none) (hsorted : mg "sorted" = none) : FnOk P w K mg base (CX1 P w) 3 f fd ["rows"] (spTotal2 K C tab) := by
  refine okX F scTotal (fun vs H Q E h => ?_) (fun cdv A outer s H vs Q E hr h => ?_)
  · obtain ⟨a, ps, rs, rfl, _⟩ := h
    rfl
  · obtain ⟨a, ps, rs, rfl, ha, hrs, hT, hU, k⟩ := h
    have nd := scTotal.nd
    refine ⟨_, pss_cons (ps_set (i := 1) nd rfl (Or.inl rfl) (pe_callTy0 call_set0 rfl hset PyProof.Rows.boot_set))
      (pss_cons (ps_for own1 rfl (pi_list (pv 0)) (pg_name (i := 2) nd rfl (Or.inl rfl))
        (pss_cons (ps_expr (pe_call G1 hr rfl F1.at_ F1.fn.kp F1.bd .nil pass1 (pa_cons (pv 2) pa_nil)))
        (pss_one (ps_for own1 rfl (pi_list (pv 2)) (pg_name (i := 3) nd rfl (Or.inl rfl))
          (pss_one (ps_if (pt_cmpR op_inS (pv 3) (pv 1) (by with_unfolding_all rfl))
            (pss_one (ps_expr (pe_bmS PySem.F.slot_set_discard PySem.F.type_set_discard mt_discS (pv 1) (pa_cons (pv 3) pa_nil))))
            (pss_one (ps_expr (pe_bmS PySem.F.slot_set_add PySem.F.type_set_add mt_addS (pv 1) (pa_cons (pv 3) pa_nil))))))))))
      (pss_one (ps_ret (pe_callB (call_sortedS rfl) rfl hsorted PyProof.Rows.boot_sorted (pa_cons (pv 1) pa_nil))))), ?_⟩
    refine ⟨rfl, fun p hp => ?_⟩
    have s1 : Same H (upd H p (setO w p [])) := same_new hp
    have npt : p ≠ tab := by
      obtain ⟨ps', e, _⟩ := hT
      exact Ne.symm (ne_of_none e hp)
    refine ⟨_, rfl, a, rfl, ⟨_, s1.seq ha⟩, ?_⟩
    refine for_list (K := K) (a := a) (xs := ps) (fun i σ H3 => (∀ b o, b ≠ tab → b ≠ p → H b = some o → H3 b = some o) ∧ TabAt H3 tab ∧ (rs.take i).all asc = true ∧ ∃ (ks : List Int) (v v2 : Option V), σ = [some (.ref a), some (.ref p), v, v2] ∧ H3 p = some (setO w p ks) ∧ ks.Nodup ∧ ∀ k ∈ ks, k ∈ rs.flatten) ?_ ?_ ?_ ?_
    · exact ⟨fun b o _ _ e => s1 b o e, tab_new hT hp, rfl, [], none, none, rfl, upd_same, List.nodup_nil, fun k hk => by cases hk⟩
    · rintro i σ H3 _ ⟨k3, _⟩
      exact sq_keep hT hp k3 ha
    · rintro i y σ H3 hi ⟨k3, t3, al, ks, v, v2, rfl, e3, nd3, m3⟩
      obtain ⟨b, r, rfl, hb, hr'⟩ := rows_get hrs hi
      have hrm : r ∈ rs := List.mem_of_getElem? hr'
      have ru : ∀ k ∈ r, k ∈ rs.flatten := fun k hk => List.mem_flatten.mpr ⟨r, hrm, hk⟩
      have hb3 := sq_keep hT hp k3 hb
      refine ⟨_, rfl, b, r, rfl, hb3, t3, fun H4 k4 t4 => ⟨fun ar => ?_, fun ar => ?_⟩⟩
      case refine_2 =>
        refine (k H4 (fun c o n e => k4 c o n (k3 c o n (ne_of_none e hp) e)) t4).2 ?_
        rw [List.all_eq_false]
        exact ⟨r, hrm, by rw [ar]; simp⟩
      have e4 : H4 p = some (setO w p ks) := k4 p _ npt e3
      have kk4 : ∀ b o, b ≠ tab → b ≠ p → H b = some o → H4 b = some o := fun c o n1 n2 e => k4 c o n1 (k3 c o n1 n2 e)
      have hb4 := sq_keep hT hp kk4 hb
      refine ⟨_, rfl, b, rfl, ⟨_, hb4⟩, ?_⟩
      refine for_list (K := K) (a := b) (xs := r.map V.int) (fun j σ H5 => ∃ (ks5 : List Int) (v2 : Option V), H5 = upd H4 p (setO w p ks5) ∧ σ = [some (.ref a), some (.ref p), some (.ref b), v2] ∧ ks5.Nodup ∧ ∀ k ∈ ks5, k ∈ rs.flatten) ?_ ?_ ?_ ?_
      · refine ⟨ks, v2, ?_, rfl, nd3, m3⟩
        funext c
        by_cases hc : c = p
        · rw [hc, upd_same, e4]
        · rw [upd_ne hc]
      · rintro j σ H5 _ ⟨ks5, _, rfl, _⟩
        refine sq_keep hT hp (fun c o n1 n2 e => ?_) hb
        rw [upd_ne n2]
        exact kk4 c o n1 n2 e
      · rintro j y σ H5 hj ⟨ks5, v5, rfl, rfl, nd5, m5⟩
        obtain ⟨z, rfl, hz⟩ := mapInt hj
        have zr : z ∈ r := List.mem_of_getElem? hz
        have twice : ∀ ks6, upd (upd H4 p (setO w p ks5)) p (setO w p ks6) = upd H4 p (setO w p ks6) := fun ks6 => by
          funext c
          by_cases hc : c = p
          · rw [hc, upd_same, upd_same]
          · rw [upd_ne hc, upd_ne hc, upd_ne hc]
        refine ⟨_, rfl, _, rfl, z, p, ks5, rfl, rfl, upd_same, _, rfl, ?_⟩
        by_cases hin : z ∈ ks5
        · rw [decide_eq_true hin]
          refine iteT ⟨_, rfl, ⟨p, ks5, rfl, upd_same⟩, _, rfl, p, ks5, z, rfl, rfl, upd_same, fun ks6 nd6 p6 => ?_⟩
          rw [if_pos hin] at p6
          exact ⟨ks6, _, twice ks6, rfl, nd6, fun k hk => m5 k (p6.mem_iff.mpr (List.mem_cons_of_mem _ hk))⟩
        · rw [decide_eq_false hin]
          have l5 : ks5.length + 1 ≤ 127 := by
            have := SX.nodup_len _ _ nd5 m5
            omega
          refine iteF ⟨_, rfl, ⟨p, ks5, rfl, upd_same⟩, _, rfl, p, ks5, z, rfl, rfl, upd_same, l5, fun ks6 nd6 p6 => ?_⟩
          rw [if_neg hin] at p6
          refine ⟨ks6, _, twice ks6, rfl, nd6, fun k hk => ?_⟩
          rcases List.mem_cons.mp (p6.mem_iff.mp hk) with q | q
          · rw [q]; exact ru z zr
          · exact m5 k q
      · rintro σ H5 ⟨ks5, v5, rfl, rfl, nd5, m5⟩
        refine ⟨fun c o n1 n2 e => ?_, ?_, ?_, ks5, _, _, rfl, upd_same, nd5, m5⟩
        · rw [upd_ne n2]; exact kk4 c o n1 n2 e
        · obtain ⟨ps', e, q⟩ := t4
          exact ⟨ps', by rw [upd_ne (Ne.symm npt)]; exact e, q⟩
        · rw [take_get hr', List.all_append, al]
          simp [ar]
    · rintro σ H3 ⟨k3, t3, al, ks, v, v2, rfl, e3, nd3, m3⟩
      rw [rows_len hrs, List.take_length] at al
      have l3 := SX.nodup_len _ _ nd3 m3
      refine ⟨_, rfl, p, ks, rfl, e3, by omega, fun q zs hq pz sz => ?_⟩
      exact (k _ (kp_fresh (fun c o n e => k3 c o n (ne_of_none e hp) e) hq) (tab_new t3 hq)).1 al _
theorem scRefused : FnScope ["_law_row", "_law_good", "_law_way", "_law_refused_here"] ["_law_row", "_law_good", "_law_way"] (defScope sRefused) := ⟨rfl, rfl, rfl, by decide +kernel, rfl, by decide +kernel, by decide +kernel⟩
theorem ok_refused {f f1 f2 f3 tab C : Addr} {fd fd1 fd2 fd3 : FuncData} {bmB : List Value} {newId : String} (F : Fun K "_law_refused" "_law_refused" sRefused f fd) (F1 : Fn K mg "added" sAdded ["one", "other"] f1 fd1) (G1 : FnOk P w K mg base (CX1 P w) 3 f1 fd1 ["one", "other"] (spTwo K C tab))
    (F2 : Fn K mg "total" sTotal ["rows"] f2 fd2) (G2 : FnOk P w K mg base (CX1 P w) 3 f2 fd2 ["rows"] (spTotal2 K C tab)) (F3 : Fn K mg "evenly" sEvenly ["one", "other"] f3 fd3) (G3 : FnOk P w K mg base (CX1 P w) 3 f3 fd3 ["one", "other"] (spTwo K C tab))
    (hC : mg "NotASum" = some (.ref C)) (O : PySem.W.excIn K C bmB newId = true) (hbase : bmB.contains (.type "BaseException") = true) : FnOk P w K mg base CX0 4 f fd ["_law_row", "_law_good", "_law_way"] (spRefused K tab) := by
  refine F.ok scRefused (fun vs H Q E h => ?_) (fun cdv A outer s H vs Q E hr h => ?_)
  · obtain ⟨a, b, xs, ys, way, rfl, _⟩ := h
    rfl
  · obtain ⟨a, b, xs, ys, way, rfl, hA, hB, hT, lx, ly, hy, k⟩ := h
    have nd := scRefused.nd
    refine ⟨_, pss_cons (ps_set (i := 3) nd rfl (Or.inl rfl) pe_bl)
      (pss_cons (ps_try (E1 := E2 C H tab (asc xs)) rfl rfl hC O hbase (fun c ox H' z => z.1)
        (fun pn' => pss_one (ps_if (pt_cmpR op_eq (pv 2) pe_int (nomark _)) (pss_one (ps_expr (pe_call G1 hr rfl F1.at_ F1.fn.kp F1.bd .nil passT (pa_cons (pv 0) (pa_cons (pv 1) pa_nil)))))
          (pss_one (ps_if (pt_cmpR op_eq (pv 2) pe_int (nomark _)) (pss_one (ps_expr (pe_call G1 hr rfl F1.at_ F1.fn.kp F1.bd .nil passT (pa_cons (pv 1) (pa_cons (pv 0) pa_nil)))))
          (pss_one (ps_if (pt_cmpR op_eq (pv 2) pe_int (nomark _)) (pss_one (ps_expr (pe_call G2 hr rfl F2.at_ F2.fn.kp F2.bd .nil passT (pa_cons (pe_lst (pa_cons (pv 1) (pa_cons (pv 0) pa_nil))) pa_nil))))
          (pss_one (ps_if (pt_cmpR op_eq (pv 2) pe_int (nomark _)) (pss_one (ps_expr (pe_call G2 hr rfl F2.at_ F2.fn.kp F2.bd .nil passT (pa_cons (pe_lst (pa_cons (pv 0) pa_nil)) pa_nil))))
          (pss_one (ps_if (pt_cmpR op_eq (pv 2) pe_int (nomark _)) (pss_one (ps_expr (pe_call G3 hr rfl F3.at_ F3.fn.kp F3.bd .nil passT (pa_cons (pv 0) (pa_cons (pv 1) pa_nil)))))
          (pss_one (ps_expr (pe_call G3 hr rfl F3.at_ F3.fn.kp F3.bd .nil passT (pa_cons (pv 1) (pa_cons (pv 0) pa_nil)))))))))))))))
        (fun y => pss_one (ps_set (i := 3) nd rfl (Or.inl rfl) pe_bl)))
      (pss_one (ps_ret (pv 3)))), ?_⟩
    have ay := asc_of hy
    have done : ∀ H', Kp tab H H' → TabAt H' tab → asc xs = true → Q (.bl false) H' := fun H' k' t' e => by
      have := k H' k' t'
      rwa [e] at this
    have two : ∀ (H' : Hp), Kp tab H H' → TabAt H' tab → ((asc xs && asc ys) = true → ∀ v : V, ∃ u, [some (V.ref a), some (V.ref b), some (V.int way), some (V.bl false)][3]? = some (some u) ∧ Q u H') ∧ ((asc xs && asc ys) = false → ∀ x : Addr, E2 C H tab (asc xs) (.ref C) (some x) H') := fun H' k' t' => by
      rw [ay, Bool.and_true]
      exact ⟨fun e v => ⟨_, rfl, done H' k' t' e⟩, fun e x => ⟨rfl, k', t', e⟩⟩
    have two' : ∀ (H' : Hp), Kp tab H H' → TabAt H' tab → ((asc ys && asc xs) = true → ∀ v : V, ∃ u, [some (V.ref a), some (V.ref b), some (V.int way), some (V.bl false)][3]? = some (some u) ∧ Q u H') ∧ ((asc ys && asc xs) = false → ∀ x : Addr, E2 C H tab (asc xs) (.ref C) (some x) H') := fun H' k' t' => by
      rw [Bool.and_comm]
      exact two H' k' t'
    refine ⟨?_, fun σ' c ox H' hl z => ?_⟩
    · refine ⟨_, rfl, rfl, _, rfl, ite2 (fun _ => ⟨_, rfl, _, rfl, a, b, xs, ys, rfl, hA, hB, hT, lx, ly, two⟩) (fun _ => ?_)⟩
      refine ⟨_, rfl, rfl, _, rfl, ite2 (fun _ => ⟨_, rfl, _, rfl, b, a, ys, xs, rfl, hB, hA, hT, ly, lx, two'⟩) (fun _ => ?_)⟩
      refine ⟨_, rfl, rfl, _, rfl, ite2 (fun _ => ?_) (fun _ => ?_)⟩
      · refine ⟨_, rfl, _, rfl, (by decide : 2 ≤ sizeLine), fun p hp => ⟨p, _, [ys, xs], rfl, SqL.of upd_same, .cons ⟨b, rfl, (same_new hp).seq hB⟩ (.cons ⟨a, rfl, (same_new hp).seq hA⟩ .nil), tab_new hT hp, ?_, fun H' k' t' => ?_⟩⟩
        · simp; omega
        · have e : [ys, xs].all asc = (asc ys && asc xs) := by simp
          rw [e]
          exact two' H' (fun c o n q => k' c o n (same_new hp _ _ q)) t'
      · refine ⟨_, rfl, rfl, _, rfl, ite2 (fun _ => ?_) (fun _ => ?_)⟩
        · refine ⟨_, rfl, (by decide : 1 ≤ sizeLine), fun p hp => ⟨p, _, [xs], rfl, SqL.of upd_same, .cons ⟨a, rfl, (same_new hp).seq hA⟩ .nil, tab_new hT hp, ?_, fun H' k' t' => ?_⟩⟩
          · simp; omega
          · have e : [xs].all asc = (asc xs && asc ys) := by simp [ay]
            rw [e]
            exact two H' (fun c o n q => k' c o n (same_new hp _ _ q)) t'
        · refine ⟨_, rfl, rfl, _, rfl, ite2 (fun _ => ⟨_, rfl, _, rfl, a, b, xs, ys, rfl, hA, hB, hT, lx, ly, two⟩) (fun _ => ⟨_, rfl, _, rfl, b, a, ys, xs, rfl, hB, hA, hT, ly, lx, two'⟩)⟩
    · obtain ⟨_, k', t', e⟩ := z
      have := k H' k' t'
      rw [e] at this
      refine ⟨_, ?_, this⟩
      have hl' : σ'.length = 4 := hl
      rw [List.getElem?_set_self (by omega)]
      rfl
end
end K2

set_option maxHeartbeats 4000000
namespace K2
open PySem L2
abbrev NL : List Str := ["_law_script", "_law_bag_here", "_law_spoil", "_law_scale_here", "_law_row", "_law_good", "_law_at", "_law_due", "_law_handed", "_law_found", "_law_way"]
structure T3 (H : Hp) (tab R G h : Addr) (xs ys : List Int) : Prop where
  t : TabAt H tab
  R : H R = some (.lst (xs.map V.int))
  G : H G = some (.lst (ys.map V.int))
  h : H h = some (.lst (xs.map V.int))
theorem not_tab {H : Hp} {tab p : Addr} {xs : List V} (t : TabAt H tab) (h : H p = some (.lst xs)) : p ≠ tab := fun e => by
  obtain ⟨ps, z, _⟩ := t
  rw [← e, h] at z
  cases z
theorem T3.kp {H H' : Hp} {tab R G h : Addr} {xs ys : List Int} (D : T3 H tab R G h xs ys) (k : Kp tab H H') (t : TabAt H' tab) : T3 H' tab R G h xs ys :=
  ⟨t, k _ _ (not_tab D.t D.R) D.R, k _ _ (not_tab D.t D.G) D.G, k _ _ (not_tab D.t D.h) D.h⟩
theorem T3.new {H : Hp} {tab R G h p : Addr} {xs ys : List Int} {o : HO} (D : T3 H tab R G h xs ys) (hp : H p = none) : T3 (upd H p o) tab R G h xs ys :=
  ⟨tab_new D.t hp, same_new hp _ _ D.R, same_new hp _ _ D.G, same_new hp _ _ D.h⟩
theorem not_same (b : Bool) : decide (V.bl (!b) = V.bl b) = false := by cases b <;> rfl
theorem ins_ints (xs : List Int) (i : Nat) (y : Int) : (xs.map V.int).take i ++ V.int y :: (xs.map V.int).drop i = (xs.take i ++ y :: xs.drop i).map V.int := by
  rw [List.map_append, List.map_cons, List.map_take, List.map_drop]
theorem erase_ints : ∀ (xs : List Int) (i : Nat), (xs.map V.int).eraseIdx i = (xs.eraseIdx i).map V.int
  | [], _ => rfl
  | _ :: _, 0 => rfl
  | x :: r, i + 1 => by
    show V.int x :: (r.map V.int).eraseIdx i = V.int x :: (r.eraseIdx i).map V.int
    rw [erase_ints r i]
theorem ins_len {xs : List Int} {i : Nat} {y : Int} (h : i ≤ xs.length) : (xs.take i ++ y :: xs.drop i).length = xs.length + 1 := by
  rw [List.length_append, List.length_cons, List.length_take, List.length_drop]
  omega
section
variable {P : Program} {w : World} {K : PySem.W.Frag} {mg : Str → Option Value} {base : Heap}
theorem ndL : (NL : List Str).Nodup := by decide +kernel
theorem tail {tab f f1 f2 f3 f4 : Addr} {fd1 fd2 fd3 fd4 : FuncData} {cdv : Value} {A : Around} {outer : List Env} {s : Shared} {H0 : Hp} {E : XK}
    (F1 : Fn K mg "is_sum" sIsSum ["row"] f1 fd1) (G1 : FnOk P w K mg base CX0 4 f1 fd1 ["row"] (spIsSum K tab))
    (F2 : Fn K mg "_law_rising" sRising ["_law_row"] f2 fd2) (G2 : FnOk P w K mg base CX0 4 f2 fd2 ["_law_row"] (spRising K))
    (F3 : Fn K mg "_law_truth" sTruth ["_law_found", "_law_due"] f3 fd3) (G3 : FnOk P w K mg base CX0 4 f3 fd3 ["_law_found", "_law_due"] spTruth)
    (F4 : Fn K mg "_law_refused" sRefused ["_law_row", "_law_good", "_law_way"] f4 fd4) (G4 : FnOk P w K mg base CX0 4 f4 fd4 ["_law_row", "_law_good", "_law_way"] (spRefused K tab))
    (hlist : mg "list" = none) (hrange : mg "range" = none) (hr : Room 4 (A.deeper (PyProof.Rows.envOfC "law" (defScope sLaw) s.heap.objs.size f cdv))) :
    ∃ t, PSs (cxOf CX0 P w K mg base NL "law" (defScope sLaw) f cdv A outer s H0 E).nox ((defBody sLaw).drop 6) t ∧
      ∀ (Q : VK) (H : Hp) (R G : Addr) (xs ys : List Int) (v0 v1 v2 v3 v6 v7 v8 v9 v10 : Option V), TabAt H tab → H R = some (.lst (xs.map V.int)) → H G = some (.lst (ys.map V.int)) → xs.length ≤ 31 → ys.length ≤ 31 → Rising ys → (∀ H', Q (.bl true) H') →
        t { nx := fun _ H' => Q .non H', rt := Q } [v0, v1, v2, v3, some (.ref R), some (.ref G), v6, v7, v8, v9, v10] H := by
  have nd := ndL
  refine ⟨_, pss_cons (ps_set (i := 7) nd rfl (Or.inl rfl) (pe_call G2 hr rfl F2.at_ F2.fn.kp F2.bd .nil pass0 (pa_cons (pv 4) pa_nil)))
    (pss_cons (ps_set (i := 8) nd rfl (Or.inl rfl) (pe_callTy call_list_of rfl hlist PyProof.Rows.boot_list (pa_cons (pv 4) pa_nil)))
    (pss_cons (ps_set (i := 9) nd rfl (Or.inl rfl) (pe_call G1 hr rfl F1.at_ F1.fn.kp F1.bd .nil pass0 (pa_cons (pv 8) pa_nil)))
    (pss_cons (ps_if (PW.pt (pw_or (pt_not (pt_val (pe_call G3 hr rfl F3.at_ F3.fn.kp F3.bd .nil pass0 (pa_cons (pv 9) (pa_cons (pv 7) pa_nil))) (fun _ => rfl))) (pw_or1 (pt_cmpR (op_neI hr.units) (pv 8) (pv 4) (nomark _))))) (pss_one (ps_ret pe_bl)) pss_nil)
    (pss_cons (ps_for PassesOwn.never rfl (pi_range1 rfl hrange (pa_cons pe_int pa_nil)) (pg_name (i := 10) nd rfl (Or.inl rfl))
      (pss_one (ps_if (PW.pt (pw_or (pt_cmpR op_eq (pe_call G4 hr rfl F4.at_ F4.fn.kp F4.bd .nil pass0 (pa_cons (pv 8) (pa_cons (pe_callTy call_list_of rfl hlist PyProof.Rows.boot_list (pa_cons (pv 5) pa_nil)) (pa_cons (pv 10) pa_nil)))) (pv 7) (nomark _)) (pw_or1 (pt_cmpR (op_neI hr.units) (pv 8) (pv 4) (nomark _))))) (pss_one (ps_ret pe_bl)) pss_nil)))
    (pss_one (ps_ret (pe_call G3 hr rfl F3.at_ F3.fn.kp F3.bd .nil pass0 (pa_cons (pe_call G1 hr rfl F1.at_ F1.fn.kp F1.bd .nil pass0 (pa_cons (pv 8) pa_nil)) (pa_cons (pv 7) pa_nil))))))))), ?_⟩
  intro Q H R G xs ys v0 v1 v2 v3 v6 v7 v8 v9 v10 hT hR hG lx ly hy k
  refine ⟨_, rfl, R, xs, rfl, SqL.of hR, by omega, ?_⟩
  refine ⟨_, rfl, R, _, rfl, .inl (SqL.of hR), fun h hh => ?_⟩
  have D1 : T3 _ tab R G h xs ys := ⟨tab_new hT hh, same_new hh _ _ hR, same_new hh _ _ hG, upd_same (o := .lst (xs.map V.int))⟩
  generalize upd H h (.lst (xs.map V.int)) = H1 at D1
  refine ⟨_, rfl, h, xs, rfl, SqL.of D1.h, D1.t, fun H2 k2 t2 => ?_⟩
  have D2 := D1.kp k2 t2
  refine ⟨_, rfl, _, rfl, _, _, rfl, _, rfl, ?_⟩
  rw [show (lessAll xs (xs.drop 1) == asc xs) = true from beq_self_eq_true _]
  refine iteF ⟨_, rfl, _, rfl, h, R, xs, xs, rfl, rfl, SqL.of D2.h, SqL.of D2.R, _, rfl, ?_⟩
  rw [decide_eq_true rfl]
  refine iteF ⟨6, rfl, by decide, by decide, for_range (fun _ σ H3 => T3 H3 tab R G h xs ys ∧ ∃ v9 v10, σ = [v0, v1, v2, v3, some (.ref R), some (.ref G), v6, some (.bl (asc xs)), some (.ref h), v9, v10]) ⟨D2, _, _, rfl⟩ ?_ ?_⟩
  · rintro i σ H3 _ ⟨D3, v9', v10', rfl⟩
    refine ⟨_, rfl, _, rfl, G, _, rfl, .inl (SqL.of D3.G), fun l hl => ⟨_, rfl, h, l, xs, ys, _, rfl, SqL.of (D3.new hl).h, SqL.of upd_same, (D3.new hl).t, lx, ly, hy, fun H4 k4 t4 => ?_⟩⟩
    have D4 := (D3.new hl).kp k4 t4
    refine ⟨_, rfl, rfl, _, rfl, ?_⟩
    rw [not_same]
    refine iteF ⟨_, rfl, _, rfl, h, R, xs, xs, rfl, rfl, SqL.of D4.h, SqL.of D4.R, _, rfl, ?_⟩
    rw [decide_eq_true rfl]
    exact iteF ⟨D4, _, _, rfl⟩
  · rintro σ H3 ⟨D3, v9', v10', rfl⟩
    refine ⟨_, rfl, h, xs, rfl, SqL.of D3.h, D3.t, fun H4 k4 t4 => ⟨_, rfl, _, _, rfl, ?_⟩⟩
    rw [show (lessAll xs (xs.drop 1) == asc xs) = true from beq_self_eq_true _]
    exact k _
def spLaw (K : PySem.W.Frag) (tab : Addr) : Sp := fun vs H Q _ => ∃ (a : Addr) (ns : List Int), vs = [.ref a] ∧ SqL K H a (ns.map V.int) ∧ TabAt H tab ∧ ∀ H', Q (.bl true) H'
theorem scLaw : FnScope NL ["_law_script"] (defScope sLaw) := ⟨rfl, rfl, rfl, by decide +kernel, rfl, by decide +kernel, by decide +kernel⟩
theorem ok_law {tab f f1 f2 f3 f4 f5 f6 f7 f8 : Addr} {fd fd1 fd2 fd3 fd4 fd5 fd6 fd7 fd8 : FuncData} (F : Fun K "law" "law" sLaw f fd)
    (F1 : Fn K mg "is_sum" sIsSum ["row"] f1 fd1) (G1 : FnOk P w K mg base CX0 4 f1 fd1 ["row"] (spIsSum K tab))
    (F2 : Fn K mg "_law_rising" sRising ["_law_row"] f2 fd2) (G2 : FnOk P w K mg base CX0 4 f2 fd2 ["_law_row"] (spRising K))
    (F3 : Fn K mg "_law_truth" sTruth ["_law_found", "_law_due"] f3 fd3) (G3 : FnOk P w K mg base CX0 4 f3 fd3 ["_law_found", "_law_due"] spTruth)
    (F4 : Fn K mg "_law_refused" sRefused ["_law_row", "_law_good", "_law_way"] f4 fd4) (G4 : FnOk P w K mg base CX0 4 f4 fd4 ["_law_row", "_law_good", "_law_way"] (spRefused K tab))
    (F5 : Fn K mg "_law_bag" sBag ["_law_script"] f5 fd5) (G5 : FnOk P w K mg base CX0 4 f5 fd5 ["_law_script"] (spBag K))
    (F6 : Fn K mg "_law_scale" sScale ["_law_bag_here"] f6 fd6) (G6 : FnOk P w K mg base CX0 4 f6 fd6 ["_law_bag_here"] spScale)
    (F7 : Fn K mg "_law_numbers" sNumbers ["_law_bag_here", "_law_scale_here"] f7 fd7) (G7 : FnOk P w K mg base CX0 4 f7 fd7 ["_law_bag_here", "_law_scale_here"] spNumbers)
    (F8 : Fn K mg "_law_pull" sPull ["_law_bag_here", "_law_many"] f8 fd8) (G8 : FnOk P w K mg base CX0 4 f8 fd8 ["_law_bag_here", "_law_many"] spPull)
    (hlen : mg "len" = none) (hlist : mg "list" = none) (hrange : mg "range" = none) : FnOk P w K mg base CX0 5 f fd ["_law_script"] (spLaw K tab) := by
  refine F.ok scLaw (fun vs H Q E h => ?_) (fun cdv A outer s H vs Q E hr h => ?_)
  · obtain ⟨a, ns, rfl, _⟩ := h
    rfl
  · obtain ⟨a, ns, rfl, hS, hT, k⟩ := h
    have nd := ndL
    obtain ⟨t1, T1, q1⟩ := tail (tab := tab) (outer := outer) (H0 := H) (E := E) F1 G1 F2 G2 F3 G3 F4 G4 hlist hrange hr
    refine ⟨_, pss_cons (ps_set (i := 1) nd rfl (Or.inl rfl) (pe_call G5 hr rfl F5.at_ F5.fn.kp F5.bd .nil pass0 (pa_cons (pv 0) pa_nil)))
      (pss_cons (ps_set (i := 2) nd rfl (Or.inl rfl) (pe_call G8 hr rfl F8.at_ F8.fn.kp F8.bd .nil pass0 (pa_cons (pv 1) (pa_cons pe_int pa_nil))))
      (pss_cons (ps_set (i := 3) nd rfl (Or.inl rfl) (pe_call G6 hr rfl F6.at_ F6.fn.kp F6.bd .nil pass0 (pa_cons (pv 1) pa_nil)))
      (pss_cons (ps_set (i := 4) nd rfl (Or.inl rfl) (pe_call G7 hr rfl F7.at_ F7.fn.kp F7.bd .nil pass0 (pa_cons (pv 1) (pa_cons (pv 3) pa_nil))))
      (pss_cons (ps_set (i := 5) nd rfl (Or.inl rfl) (pe_call G7 hr rfl F7.at_ F7.fn.kp F7.bd .nil pass0 (pa_cons (pv 1) (pa_cons (pv 3) pa_nil))))
      (pss_cons (ps_if (pt_cmpR (op_neI hr.units) (pv 4) (pe_lst pa_nil) (nomark _))
        (pss_cons (ps_set (i := 6) nd rfl (Or.inl rfl) (pe_call G8 hr rfl F8.at_ F8.fn.kp F8.bd .nil pass0 (pa_cons (pv 1) (pa_cons (pe_callB call_len_seq (by rfl) hlen PySem.boot_len (pa_cons (pv 4) pa_nil)) pa_nil))))
        (pss_cons (ps_if (pt_cmpR op_eq (pv 2) pe_int (nomark _)) (pss_one (ps_expr (pe_bm PySem.F.plainAttrs_list PySem.F.slot_list_insert PySem.F.type_list_insert mt_insert (pv 4) (pa_cons (pv 6) (pa_cons (pe_ix ix_list (pv 4) (pv 6) (fun _ _ => rfl)) pa_nil))))) pss_nil)
        (pss_cons (ps_if (pt_cmpR op_eq (pv 2) pe_int (nomark _)) (pss_one (ps_expr (pe_bm PySem.F.plainAttrs_list PySem.F.slot_list_insert PySem.F.type_list_insert mt_insert (pv 4) (pa_cons (pe_call G8 hr rfl F8.at_ F8.fn.kp F8.bd .nil pass0 (pa_cons (pv 1) (pa_cons (pe_op op_add (pe_callB call_len_seq (by rfl) hlen PySem.boot_len (pa_cons (pv 4) pa_nil)) pe_int) pa_nil))) (pa_cons (pe_ix ix_list (pv 4) (pv 6) (fun _ _ => rfl)) pa_nil))))) pss_nil)
        (pss_one (ps_if (pt_cmpR op_eq (pv 2) pe_int (nomark _)) (pss_one (ps_expr (pe_bm PySem.F.plainAttrs_list PySem.F.slot_list_append PySem.F.type_list_append mt_append (pv 4) (pa_cons (pe_bm PySem.F.plainAttrs_list PySem.F.slot_list_pop PySem.F.type_list_pop mt_popAt (pv 4) (pa_cons (pv 6) pa_nil)) pa_nil)))) pss_nil))))) pss_nil)
      T1))))), ?_⟩
    refine ⟨_, rfl, a, ns, rfl, hS, fun H1 g q ns' s' s1 B1 hg hq => ?_⟩
    have tg : tab ≠ g := by
      obtain ⟨ps, e, _⟩ := hT
      exact ne_of_none e hg
    have tk : ∀ {H H' : Hp}, Kp g H H' → TabAt H tab → TabAt H' tab := fun k t => by
      obtain ⟨ps, e, r⟩ := t
      exact ⟨ps, k _ _ tg e, r⟩
    refine ⟨_, rfl, g, q, ns', 0, 0, s', 4, rfl, B1, by decide, by decide, fun H2 i2 z2 sp k2 B2 _ _ => ?_⟩
    refine ⟨_, rfl, g, q, ns', i2, z2, s', rfl, B2, fun H3 i3 z3 sc k3 B3 => ?_⟩
    refine ⟨_, rfl, _, rfl, g, q, ns', i3, z3, s', sc, rfl, B3, fun H4 i4 z4 R xs k4 B4 hR4 o4 hx => ?_⟩
    have nR : R ≠ g := Ne.symm (ne_of_none B3.ob hR4)
    refine ⟨_, rfl, _, rfl, g, q, ns', i4, z4, s', sc, rfl, B4, fun H5 i5 z5 G ys k5 B5 hG5 o5 hy => ?_⟩
    have nG : G ≠ g := Ne.symm (ne_of_none B4.ob hG5)
    have nRG : R ≠ G := ne_of_none o4 hG5
    have t5 : TabAt H5 tab := tk k5 (tk k4 (tk k3 (tk k2 (by
      obtain ⟨ps, e, r⟩ := hT
      exact ⟨ps, s1 _ _ e, r⟩))))
    have oR := k5 _ _ nR o4
    have lx := hx.len
    have ly := hy.len
    refine ⟨_, rfl, (by decide : 0 ≤ sizeLine), fun n hn => ?_⟩
    have s6 := same_new (o := .lst []) hn
    have t6 := tab_new (o := .lst []) t5 hn
    have B6 := B5.keep s6
    have oR6 := s6 _ _ oR
    have oG6 := s6 _ _ o5
    have on6 : upd H5 n (.lst []) n = some (.lst []) := upd_same
    generalize upd H5 n (.lst []) = H6 at t6 B6 oR6 oG6 on6
    have fin : ∀ (H' : Hp) (zs : List Int) (v6 : Option V), TabAt H' tab → H' R = some (.lst (zs.map V.int)) → H' G = some (.lst (ys.map V.int)) → zs.length ≤ 31 → t1 { nx := fun _ H' => Q .non H', rt := Q } [some (.ref a), some (.ref g), some (.int sp), some (.int sc), some (.ref R), some (.ref G), v6, none, none, none, none] H' :=
      fun H' zs v6 a1 a2 a3 a4 => q1 Q H' R G zs ys _ _ _ _ _ _ _ _ _ a1 a2 a3 a4 (by omega) hy.1 k
    -- the row changed
    have ch : ∀ (H' : Hp) (zs : List Int) (v6 : Option V), TabAt H' tab → H' R = some (.lst (xs.map V.int)) → H' G = some (.lst (ys.map V.int)) → zs.length ≤ 31 → t1 { nx := fun _ H' => Q .non H', rt := Q } [some (.ref a), some (.ref g), some (.int sp), some (.int sc), some (.ref R), some (.ref G), v6, none, none, none, none] (upd H' R (.lst (zs.map V.int))) := fun H' zs v6 a1 a2 a3 a4 => by
      refine fin _ zs v6 ?_ upd_same (by rw [upd_ne (Ne.symm nRG)]; exact a3) a4
      have nt := not_tab a1 a2
      obtain ⟨ps, e, r⟩ := a1
      exact ⟨ps, by rw [upd_ne (Ne.symm nt)]; exact e, r⟩
    refine ⟨R, n, xs, [], rfl, rfl, SqL.of oR6, SqL.of on6, _, rfl, ?_⟩
    by_cases hxs : xs = []
    · rw [decide_eq_true hxs]
      exact iteF (fin _ xs _ t6 oR6 oG6 (by omega))
    · rw [decide_eq_false hxs]
      have hl0 : 0 < xs.length := List.length_pos_iff.mpr hxs
      refine iteT ⟨_, rfl, _, rfl, R, _, rfl, .inl (SqL.of oR6), g, q, ns', _, _, s', _, rfl, B6, by rw [List.length_map]; omega, by rw [List.length_map]; omega, fun H7 i7 z7 at_ k7 B7 a0 an => ?_⟩
      rw [List.length_map] at an
      have t7 := tk k7 t6
      have oR7 := k7 _ _ nR oR6
      have oG7 := k7 _ _ nG oG6
      obtain ⟨y, ey⟩ : ∃ y, xs[at_.toNat]? = some y := ⟨_, List.getElem?_eq_getElem (by omega)⟩
      have ay : atI (xs.map V.int) at_ = some (.int y) := by
        have := atI_nat (xs := xs.map V.int) (j := at_.toNat) (by rw [List.getElem?_map, ey]; rfl)
        rwa [show ((at_.toNat : Nat) : Int) = at_ by omega] at this
      have no : ∀ c : Int, sp ≠ c → decide (V.int sp = V.int c) = false := fun c hc => decide_eq_false fun z => by injection z with z; exact hc z
      have lz : xs.length < sizeLine := Nat.lt_of_le_of_lt lx (by decide)
      have lm : (xs.map V.int).length = xs.length := List.length_map ..
      refine ⟨_, rfl, rfl, _, rfl, ?_⟩
      by_cases h1 : sp = 1
      · rw [h1, decide_eq_true rfl]
        refine iteT ⟨_, rfl, .inl ⟨rfl, _, SqL.of oR7⟩, _, rfl, _, rfl, _, rfl, R, _, _, _, rfl, rfl, SqL.of oR7, ay, R, _, at_, _, rfl, rfl, oR7, a0, by omega, by omega, ?_⟩
        refine ⟨_, rfl, rfl, _, rfl, ?_⟩
        rw [decide_eq_false (by intro z; cases z)]
        refine iteF ⟨_, rfl, rfl, _, rfl, ?_⟩
        rw [decide_eq_false (by intro z; cases z)]
        rw [ins_ints]
        rw [h1] at ch
        exact iteF (ch _ _ _ t7 oR7 oG7 (by rw [ins_len (by omega)]; omega))
      · rw [no 1 h1]
        refine iteF ⟨_, rfl, rfl, _, rfl, ?_⟩
        by_cases h2 : sp = 2
        · rw [h2, decide_eq_true rfl]
          refine iteT ⟨_, rfl, .inl ⟨rfl, _, SqL.of oR7⟩, _, rfl, _, rfl, R, _, rfl, .inl (SqL.of oR7), _, _, rfl, rfl, g, q, ns', _, _, s', _, rfl, B7, by omega, by omega, fun H8 i8 z8 r8 k8 B8 r80 r8n => ?_⟩
          have oR8 := k8 _ _ nR oR7
          refine ⟨_, rfl, _, rfl, R, _, _, _, rfl, rfl, SqL.of oR8, ay, R, _, r8, _, rfl, rfl, oR8, r80, by omega, by omega, ?_⟩
          refine ⟨_, rfl, rfl, _, rfl, ?_⟩
          rw [decide_eq_false (by intro z; cases z)]
          rw [ins_ints]
          rw [h2] at ch
          exact iteF (ch _ _ _ (tk k8 t7) oR8 (k8 _ _ nG oG7) (by rw [ins_len (by omega)]; omega))
        · rw [no 2 h2]
          refine iteF ⟨_, rfl, rfl, _, rfl, ?_⟩
          by_cases h3 : sp = 3
          · rw [h3, decide_eq_true rfl]
            have sq : seqIndex? at_ (xs.map V.int).length = some at_.toNat := by
              refine (ixN_seq (i := at_) (j := at_.toNat) ?_).1
              unfold ixN
              rw [if_pos a0, if_pos (by omega)]
            refine iteT ⟨_, rfl, .inl ⟨rfl, _, SqL.of oR7⟩, _, rfl, .inl ⟨rfl, _, SqL.of oR7⟩, _, rfl, R, _, at_, at_.toNat, .int y, rfl, rfl, oR7, by omega, by omega, sq, by rw [List.getElem?_map, ey]; rfl, ?_⟩
            have nt := not_tab t7 oR7
            refine ⟨R, _, _, rfl, rfl, upd_same, ?_, ?_⟩
            · rw [erase_ints, List.length_map]
              exact Nat.lt_of_le_of_lt (len_erase _ _) lz
            · rw [erase_ints, show (xs.eraseIdx at_.toNat).map V.int ++ [V.int y] = (xs.eraseIdx at_.toNat ++ [y]).map V.int by rw [List.map_append]; rfl]
              have e2 : ∀ o1 o2 : HO, upd (upd H7 R o1) R o2 = upd H7 R o2 := fun o1 o2 => by
                funext c
                by_cases hc : c = R
                · rw [hc, upd_same, upd_same]
                · rw [upd_ne hc, upd_ne hc, upd_ne hc]
              rw [e2]
              rw [h3] at ch
              refine ch _ _ _ t7 oR7 oG7 ?_
              rw [List.length_append]
              have := len_erase xs at_.toNat
              show _ + 1 ≤ 31
              omega
          · rw [no 3 h3]
            exact iteF (fin _ xs _ t7 oR7 oG7 (by omega))
end
end K2

set_option maxHeartbeats 4000000
namespace K2
open PySem L2
abbrev bmV : List Value := [.type "ValueError", .type "Exception", .type "BaseException", .type "object"]
theorem all_mk {l : PySem.W.OpenLaw} {w : World} {K : PySem.W.Frag} {h : Heap} {mg : Str → Option Value} {fa c tab f1 f2 f3 f4 f5 f6 f7 f8 f9 f10 f11 f12 f13 f14 : Addr} (X : K.In h) (G : h.Ns mainGlobals mg) (hfa : mg "law" = some (.ref fa))
    {od1 an1 od2 an2 od3 an3 od4 an4 od5 an5 od6 an6 od7 an7 od8 an8 od9 an9 od10 an10 od11 an11 od12 an12 od13 an13 od14 an14 : Option Addr} {sl1 sl2 sl3 sl4 sl5 sl6 sl7 sl8 sl9 sl10 sl11 sl12 sl13 sl14 : Array (Option Value)} {oc1 kV1 dc1 pm1 ct1 oc2 kV2 dc2 pm2 ct2 oc3 kV3 dc3 pm3 ct3 oc4 kV4 dc4 pm4 ct4 oc5 kV5 dc5 pm5 ct5 oc6 kV6 dc6 pm6 ct6 oc7 kV7 dc7 pm7 ct7 oc8 kV8 dc8 pm8 ct8 oc9 kV9 dc9 pm9 ct9 oc10 kV10 dc10 pm10 ct10 oc11 kV11 dc11 pm11 ct11 oc12 kV12 dc12 pm12 ct12 oc13 kV13 dc13 pm13 ct13 oc14 kV14 dc14 pm14 ct14 cd2 cd3 cd4 cd5 cd6 cd7 cd8 cd9 cd10 cd11 cd12 cd13 cd14 : Value}
    (a1 : PySem.W.nsIn K mainGlobals "is_sum" = some (some (.ref f1))) (l1 : K.lookup f1 = some ⟨oc1, od1, .func (PySem.W.fnOf "is_sum" "is_sum" (defArgs sIsSum) (defBody sIsSum) (defScope sIsSum) .none kV1 dc1 pm1 an1 (.ref c) ct1), sl1⟩) (c1 : PySem.W.codeIn K (.ref c) "is_sum" = true) (k1 : PySem.W.keepIn K (.ref f1) = true)
    (a2 : PySem.W.nsIn K mainGlobals "must_be_sum" = some (some (.ref f2))) (l2 : K.lookup f2 = some ⟨oc2, od2, .func (PySem.W.fnOf "must_be_sum" "must_be_sum" (defArgs sMust) (defBody sMust) (defScope sMust) .none kV2 dc2 pm2 an2 cd2 ct2), sl2⟩) (c2 : PySem.W.codeIn K cd2 "must_be_sum" = true) (k2 : PySem.W.keepIn K (.ref f2) = true)
    (a3 : PySem.W.nsIn K mainGlobals "added" = some (some (.ref f3))) (l3 : K.lookup f3 = some ⟨oc3, od3, .func (PySem.W.fnOf "added" "added" (defArgs sAdded) (defBody sAdded) (defScope sAdded) .none kV3 dc3 pm3 an3 cd3 ct3), sl3⟩) (c3 : PySem.W.codeIn K cd3 "added" = true) (k3 : PySem.W.keepIn K (.ref f3) = true)
    (a4 : PySem.W.nsIn K mainGlobals "total" = some (some (.ref f4))) (l4 : K.lookup f4 = some ⟨oc4, od4, .func (PySem.W.fnOf "total" "total" (defArgs sTotal) (defBody sTotal) (defScope sTotal) .none kV4 dc4 pm4 an4 cd4 ct4), sl4⟩) (c4 : PySem.W.codeIn K cd4 "total" = true) (k4 : PySem.W.keepIn K (.ref f4) = true)
    (a5 : PySem.W.nsIn K mainGlobals "evenly" = some (some (.ref f5))) (l5 : K.lookup f5 = some ⟨oc5, od5, .func (PySem.W.fnOf "evenly" "evenly" (defArgs sEvenly) (defBody sEvenly) (defScope sEvenly) .none kV5 dc5 pm5 an5 cd5 ct5), sl5⟩) (c5 : PySem.W.codeIn K cd5 "evenly" = true) (k5 : PySem.W.keepIn K (.ref f5) = true)
    (a6 : PySem.W.nsIn K mainGlobals "_law_bag" = some (some (.ref f6))) (l6 : K.lookup f6 = some ⟨oc6, od6, .func (PySem.W.fnOf "_law_bag" "_law_bag" (defArgs sBag) (defBody sBag) (defScope sBag) .none kV6 dc6 pm6 an6 cd6 ct6), sl6⟩) (c6 : PySem.W.codeIn K cd6 "_law_bag" = true) (k6 : PySem.W.keepIn K (.ref f6) = true)
    (a7 : PySem.W.nsIn K mainGlobals "_law_pull" = some (some (.ref f7))) (l7 : K.lookup f7 = some ⟨oc7, od7, .func (PySem.W.fnOf "_law_pull" "_law_pull" (defArgs sPull) (defBody sPull) (defScope sPull) .none kV7 dc7 pm7 an7 cd7 ct7), sl7⟩) (c7 : PySem.W.codeIn K cd7 "_law_pull" = true) (k7 : PySem.W.keepIn K (.ref f7) = true)
    (a8 : PySem.W.nsIn K mainGlobals "_law_scale" = some (some (.ref f8))) (l8 : K.lookup f8 = some ⟨oc8, od8, .func (PySem.W.fnOf "_law_scale" "_law_scale" (defArgs sScale) (defBody sScale) (defScope sScale) .none kV8 dc8 pm8 an8 cd8 ct8), sl8⟩) (c8 : PySem.W.codeIn K cd8 "_law_scale" = true) (k8 : PySem.W.keepIn K (.ref f8) = true)
    (a9 : PySem.W.nsIn K mainGlobals "_law_join" = some (some (.ref f9))) (l9 : K.lookup f9 = some ⟨oc9, od9, .func (PySem.W.fnOf "_law_join" "_law_join" (defArgs sJoin) (defBody sJoin) (defScope sJoin) .none kV9 dc9 pm9 an9 cd9 ct9), sl9⟩) (c9 : PySem.W.codeIn K cd9 "_law_join" = true) (k9 : PySem.W.keepIn K (.ref f9) = true)
    (a10 : PySem.W.nsIn K mainGlobals "_law_numbers" = some (some (.ref f10))) (l10 : K.lookup f10 = some ⟨oc10, od10, .func (PySem.W.fnOf "_law_numbers" "_law_numbers" (defArgs sNumbers) (defBody sNumbers) (defScope sNumbers) .none kV10 dc10 pm10 an10 cd10 ct10), sl10⟩) (c10 : PySem.W.codeIn K cd10 "_law_numbers" = true) (k10 : PySem.W.keepIn K (.ref f10) = true)
    (a11 : PySem.W.nsIn K mainGlobals "_law_rising" = some (some (.ref f11))) (l11 : K.lookup f11 = some ⟨oc11, od11, .func (PySem.W.fnOf "_law_rising" "_law_rising" (defArgs sRising) (defBody sRising) (defScope sRising) .none kV11 dc11 pm11 an11 cd11 ct11), sl11⟩) (c11 : PySem.W.codeIn K cd11 "_law_rising" = true) (k11 : PySem.W.keepIn K (.ref f11) = true)
    (a12 : PySem.W.nsIn K mainGlobals "_law_truth" = some (some (.ref f12))) (l12 : K.lookup f12 = some ⟨oc12, od12, .func (PySem.W.fnOf "_law_truth" "_law_truth" (defArgs sTruth) (defBody sTruth) (defScope sTruth) .none kV12 dc12 pm12 an12 cd12 ct12), sl12⟩) (c12 : PySem.W.codeIn K cd12 "_law_truth" = true) (k12 : PySem.W.keepIn K (.ref f12) = true)
    (a13 : PySem.W.nsIn K mainGlobals "_law_refused" = some (some (.ref f13))) (l13 : K.lookup f13 = some ⟨oc13, od13, .func (PySem.W.fnOf "_law_refused" "_law_refused" (defArgs sRefused) (defBody sRefused) (defScope sRefused) .none kV13 dc13 pm13 an13 cd13 ct13), sl13⟩) (c13 : PySem.W.codeIn K cd13 "_law_refused" = true) (k13 : PySem.W.keepIn K (.ref f13) = true)
    (a14 : PySem.W.nsIn K mainGlobals "law" = some (some (.ref f14))) (l14 : K.lookup f14 = some ⟨oc14, od14, .func (PySem.W.fnOf "law" "law" (defArgs sLaw) (defBody sLaw) (defScope sLaw) .none kV14 dc14 pm14 an14 cd14 ct14), sl14⟩) (c14 : PySem.W.codeIn K cd14 "law" = true) (k14 : PySem.W.keepIn K (.ref f14) = true)
    {occ : Value} {odc : Option Addr} {vsc : Array Value} {slc : Array (Option Value)} (lc : K.lookup c = some ⟨occ, odc, .fields vsc, slc⟩) (ev : vsc[11]? = some (.ref tab)) (hKt : K.lookup tab = none)
    {C : Addr} (ca : PySem.W.nsIn K mainGlobals "NotASum" = some (some (.ref C))) (ce : PySem.W.excIn K C bmV "ValueError.__new__" = true)
    (z1 : PySem.W.nsIn K mainGlobals "all" = some none) (z2 : PySem.W.nsIn K mainGlobals "zip" = some none) (z3 : PySem.W.nsIn K mainGlobals "set" = some none) (z4 : PySem.W.nsIn K mainGlobals "sorted" = some none) (z5 : PySem.W.nsIn K mainGlobals "len" = some none) (z6 : PySem.W.nsIn K mainGlobals "list" = some none) (z7 : PySem.W.nsIn K mainGlobals "isinstance" = some none) (z8 : PySem.W.nsIn K mainGlobals "bool" = some none) (z9 : PySem.W.nsIn K mainGlobals "range" = some none) :
    ∃ (c tab : Addr) (fd : FuncData), PySem.W.tabIn K "is_sum" = some (c, tab) ∧ K.lookup tab = none ∧ (∀ (s : Shared) (v : Value), BindsTo s fd ⟨[v], []⟩ [("_law_script", v)]) ∧ ∀ base : Heap, K.In base → base.Ns mainGlobals mg → BaseT mg base c tab → FnOk l.prog w K mg base CX0 5 fa fd ["_law_script"] (spLaw K tab) := by
  have e := hfa.symm.trans (PySem.W.mg_of X G a14)
  cases e
  have ht : PySem.W.tabIn K "is_sum" = some (c, tab) := by
    unfold PySem.W.tabIn
    rw [a1]
    dsimp only
    rw [l1]
    dsimp only [PySem.W.fnOf]
    rw [lc]
    dsimp only
    rw [ev]
  have F1 := fun_mk (st := sIsSum) l1 c1 k1
  have N1 : Fn K mg "is_sum" sIsSum ["row"] f1 _ := ⟨F1, PySem.W.mg_of X G a1, F1.binds (ps := ["row"]) fun _ _ _ _ _ _ us hl => match us, hl with | [_], _ => rfl⟩
  have F2 := fun_mk (st := sMust) l2 c2 k2
  have N2 : Fn K mg "must_be_sum" sMust ["row"] f2 _ := ⟨F2, PySem.W.mg_of X G a2, F2.binds (ps := ["row"]) fun _ _ _ _ _ _ us hl => match us, hl with | [_], _ => rfl⟩
  have F3 := fun_mk (st := sAdded) l3 c3 k3
  have N3 : Fn K mg "added" sAdded ["one", "other"] f3 _ := ⟨F3, PySem.W.mg_of X G a3, F3.binds (ps := ["one", "other"]) fun _ _ _ _ _ _ us hl => match us, hl with | [_, _], _ => rfl⟩
  have F4 := fun_mk (st := sTotal) l4 c4 k4
  have N4 : Fn K mg "total" sTotal ["rows"] f4 _ := ⟨F4, PySem.W.mg_of X G a4, F4.binds (ps := ["rows"]) fun _ _ _ _ _ _ us hl => match us, hl with | [_], _ => rfl⟩
  have F5 := fun_mk (st := sEvenly) l5 c5 k5
  have N5 : Fn K mg "evenly" sEvenly ["one", "other"] f5 _ := ⟨F5, PySem.W.mg_of X G a5, F5.binds (ps := ["one", "other"]) fun _ _ _ _ _ _ us hl => match us, hl with | [_, _], _ => rfl⟩
  have F6 := fun_mk (st := sBag) l6 c6 k6
  have N6 : Fn K mg "_law_bag" sBag ["_law_script"] f6 _ := ⟨F6, PySem.W.mg_of X G a6, F6.binds (ps := ["_law_script"]) fun _ _ _ _ _ _ us hl => match us, hl with | [_], _ => rfl⟩
  have F7 := fun_mk (st := sPull) l7 c7 k7
  have N7 : Fn K mg "_law_pull" sPull ["_law_bag_here", "_law_many"] f7 _ := ⟨F7, PySem.W.mg_of X G a7, F7.binds (ps := ["_law_bag_here", "_law_many"]) fun _ _ _ _ _ _ us hl => match us, hl with | [_, _], _ => rfl⟩
  have F8 := fun_mk (st := sScale) l8 c8 k8
  have N8 : Fn K mg "_law_scale" sScale ["_law_bag_here"] f8 _ := ⟨F8, PySem.W.mg_of X G a8, F8.binds (ps := ["_law_bag_here"]) fun _ _ _ _ _ _ us hl => match us, hl with | [_], _ => rfl⟩
  have F9 := fun_mk (st := sJoin) l9 c9 k9
  have N9 : Fn K mg "_law_join" sJoin ["_law_one", "_law_other"] f9 _ := ⟨F9, PySem.W.mg_of X G a9, F9.binds (ps := ["_law_one", "_law_other"]) fun _ _ _ _ _ _ us hl => match us, hl with | [_, _], _ => rfl⟩
  have F10 := fun_mk (st := sNumbers) l10 c10 k10
  have N10 : Fn K mg "_law_numbers" sNumbers ["_law_bag_here", "_law_scale_here"] f10 _ := ⟨F10, PySem.W.mg_of X G a10, F10.binds (ps := ["_law_bag_here", "_law_scale_here"]) fun _ _ _ _ _ _ us hl => match us, hl with | [_, _], _ => rfl⟩
  have F11 := fun_mk (st := sRising) l11 c11 k11
  have N11 : Fn K mg "_law_rising" sRising ["_law_row"] f11 _ := ⟨F11, PySem.W.mg_of X G a11, F11.binds (ps := ["_law_row"]) fun _ _ _ _ _ _ us hl => match us, hl with | [_], _ => rfl⟩
  have F12 := fun_mk (st := sTruth) l12 c12 k12
  have N12 : Fn K mg "_law_truth" sTruth ["_law_found", "_law_due"] f12 _ := ⟨F12, PySem.W.mg_of X G a12, F12.binds (ps := ["_law_found", "_law_due"]) fun _ _ _ _ _ _ us hl => match us, hl with | [_, _], _ => rfl⟩
  have F13 := fun_mk (st := sRefused) l13 c13 k13
  have N13 : Fn K mg "_law_refused" sRefused ["_law_row", "_law_good", "_law_way"] f13 _ := ⟨F13, PySem.W.mg_of X G a13, F13.binds (ps := ["_law_row", "_law_good", "_law_way"]) fun _ _ _ _ _ _ us hl => match us, hl with | [_, _, _], _ => rfl⟩
  have F14 := fun_mk (st := sLaw) l14 c14 k14
  have m_all := PySem.W.mg_none_of X G z1
  have m_zip := PySem.W.mg_none_of X G z2
  have m_set := PySem.W.mg_none_of X G z3
  have m_sorted := PySem.W.mg_none_of X G z4
  have m_len := PySem.W.mg_none_of X G z5
  have m_list := PySem.W.mg_none_of X G z6
  have m_isinstance := PySem.W.mg_none_of X G z7
  have m_bool := PySem.W.mg_none_of X G z8
  have m_range := PySem.W.mg_none_of X G z9
  refine ⟨c, tab, PySem.W.fnOf "law" "law" (defArgs sLaw) (defBody sLaw) (defScope sLaw) .none kV14 dc14 pm14 an14 cd14 ct14, ht, hKt, fun s v => .of_eq rfl, fun base _ _ B => ?_⟩
  have mC := PySem.W.mg_of X G ca
  have FB := PySem.F.excBase_ValueError
  have g1 := ok_isSum (P := l.prog) (w := w) F1 rfl B m_all m_zip
  have g2 := ok_must2 F2 N1 g1 mC ce FB
  have g3 := ok_added2 F3 N2 g2 m_set m_sorted
  have g4 := ok_total2 F4 N2 g2 m_set m_sorted
  have g5 := ok_evenly2 F5 N2 g2 m_set m_len
  have g6 := ok_bag (P := l.prog) (w := w) (base := base) F6 m_len m_list
  have g7 := ok_pull (P := l.prog) (w := w) (base := base) F7 m_len
  have g8 := ok_scale F8 N7 g7
  have g9 := ok_join (P := l.prog) (w := w) (base := base) (mg := mg) F9 m_sorted
  have g10 := ok_numbers F10 N7 g7 N9 g9 m_range
  have g11 := ok_rising (P := l.prog) (w := w) (base := base) F11 m_range m_len
  have g12 := ok_truth (P := l.prog) (w := w) (base := base) F12 m_isinstance m_bool
  have g13 := ok_refused F13 N3 g3 N4 g4 N5 g5 mC ce FB.hasBase
  exact ok_law F14 N1 (g1.mono (by decide)) N11 (g11.mono (by decide)) N12 (g12.mono (by decide)) N13 g13 N6 (g6.mono (by decide)) N8 (g8.mono (by decide)) N10 (g10.mono (by decide)) N7 (g7.mono (by decide)) m_len m_list m_range
theorem walk {l : PySem.W.OpenLaw} {q : Program} {loose : List Str} {XP : (Str → Option Value) → Heap → Prop} {YP : World → Heap → Prop} {d : DefRec} {K : Params → PySem.W.Frag} {dx : DefRec} (hn : l.most = some 63) (hdf : d.params.defaults = [])
    (hY : ∀ (w : World) (h : Heap), YP w h → (K w.params).In h) (hrec : (PyProof.Rows.recsOf q).find? (fun e => e.name == ("is_sum" : Str)) = some dx)
    (F : ∀ (w : World) (mg : Str → Option Value) (fa : Addr) (h : Heap), (K w.params).In h → h.Ns mainGlobals mg → mg d.name = some (.ref fa) →
      ∃ (c tab : Addr) (fd : FuncData), PySem.W.tabIn (K w.params) "is_sum" = some (c, tab) ∧ (K w.params).lookup tab = none ∧ (∀ (s : Shared) (u : Value), BindsTo s fd ⟨[u], []⟩ [("_law_script", u)]) ∧
        ∀ base : Heap, (K w.params).In base → base.Ns mainGlobals mg → BaseT mg base c tab → FnOk l.prog w (K w.params) mg base CX0 5 fa fd ["_law_script"] (spLaw (K w.params) tab)) :
    PySem.W.WalkO q loose XP YP l.row.toRowW d [] (fun f vs => PySem.call f vs) :=
  L2.walk_ofT (n := 63) (k := 5) (x := "_law_script") (tx := "is_sum") (CX := CX0) (sp := fun _ K tab => spLaw K tab) hn (by decide) hdf ⟨rfl, by decide, by decide⟩ hY hrec F (fun _ K H a tab ns _ hS hH => ⟨a, ns, rfl, hS, ⟨#[], hH, trivial⟩, fun _ => rfl⟩) fun _ _ _ _ z => z
end K2
open PySem PySem.W PyProof.Rows
set_option maxRecDepth 100000 in
set_option maxHeartbeats 0 in
theorem PySem.Challenge.cw_slimbody_k02_sums_or_refused_holds : PySem.Challenge.rw_slimbody_k02_sums_or_refused.Holds := by
  w_on; o_law; k_head; (case hw => w_witness2)
  k_fill
  refine K2.walk (l := PySem.Challenge.rw_slimbody_k02_sums_or_refused) rfl rfl (fun w h Y => PySem.W.kIn_of Y) (by rfl) ?F
  case F =>
    intro w mg fa h KX G hmg
    refine' K2.all_mk KX G hmg ?a1 ?l1 ?c1 ?k1 ?a2 ?l2 ?c2 ?k2 ?a3 ?l3 ?c3 ?k3 ?a4 ?l4 ?c4 ?k4 ?a5 ?l5 ?c5 ?k5 ?a6 ?l6 ?c6 ?k6 ?a7 ?l7 ?c7 ?k7 ?a8 ?l8 ?c8 ?k8 ?a9 ?l9 ?c9 ?k9 ?a10 ?l10 ?c10 ?k10 ?a11 ?l11 ?c11 ?k11 ?a12 ?l12 ?c12 ?k12 ?a13 ?l13 ?c13 ?k13 ?a14 ?l14 ?c14 ?k14 ?lc ?ev ?hKt ?ca ?ce ?z1 ?z2 ?z3 ?z4 ?z5 ?z6 ?z7 ?z8 ?z9
    (case a1 => k_is)
    (case l1 => k_is)
    (case c1 => k_is)
    (case k1 => k_is)
    (case a2 => k_is)
    (case l2 => k_is)
    (case c2 => k_is)
    (case k2 => k_is)
    (case a3 => k_is)
    (case l3 => k_is)
    (case c3 => k_is)
    (case k3 => k_is)
    (case a4 => k_is)
    (case l4 => k_is)
    (case c4 => k_is)
    (case k4 => k_is)
    (case a5 => k_is)
    (case l5 => k_is)
    (case c5 => k_is)
    (case k5 => k_is)
    (case a6 => k_is)
    (case l6 => k_is)
    (case c6 => k_is)
    (case k6 => k_is)
    (case a7 => k_is)
    (case l7 => k_is)
    (case c7 => k_is)
    (case k7 => k_is)
    (case a8 => k_is)
    (case l8 => k_is)
    (case c8 => k_is)
    (case k8 => k_is)
    (case a9 => k_is)
    (case l9 => k_is)
    (case c9 => k_is)
    (case k9 => k_is)
    (case a10 => k_is)
    (case l10 => k_is)
    (case c10 => k_is)
    (case k10 => k_is)
    (case a11 => k_is)
    (case l11 => k_is)
    (case c11 => k_is)
    (case k11 => k_is)
    (case a12 => k_is)
    (case l12 => k_is)
    (case c12 => k_is)
    (case k12 => k_is)
    (case a13 => k_is)
    (case l13 => k_is)
    (case c13 => k_is)
    (case k13 => k_is)
    (case a14 => k_is)
    (case l14 => k_is)
    (case c14 => k_is)
    (case k14 => k_is)
    (case lc => k_is)
    (case ev => rfl)
    (case hKt => rfl)
    (case ca => k_is)
    (case ce => k_exc)
    (case z1 => k_is)
    (case z2 => k_is)
    (case z3 => k_is)
    (case z4 => k_is)
    (case z5 => k_is)
    (case z6 => k_is)
    (case z7 => k_is)
    (case z8 => k_is)
    (case z9 => k_is)

