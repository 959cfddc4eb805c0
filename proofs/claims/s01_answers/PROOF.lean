import PyProof.Rows.All
import Wide.All
import OpenK.AllK
import Wide.FinOn
import PyProof.EqAt
import PyProof.EqKinds
import PyProof.TupleCall
import KE.BitLaws
import Open.SpecLaws
import KE.OsHead
import KE.OsGo
import PyFlatLaws
import PySem.Challenge.RW_samecells_s01_answers
set_option Elab.async false
set_option linter.all false
set_option maxRecDepth 100000
/-! THE HAND LAYER, for ints, bools, texts, own classes, lists, tuples, dicts, comprehensions, walks over dicts, enumerate, zip, reversed, texts, calls, loops. Paste it whole ahead of your own text; what your proof does not reach may be deleted. -/
namespace L2
open PySem PySem.Spec PyProof.Rows

/-- a key: an int or a str -/
abbrev Key := Sum Int Str
def keyIs : Key → Value → Bool
  | .inl k, v => Value.isInt k v
  | .inr x, v => Value.isStrOf x v
def keyH (w : World) : Key → Int
  | .inl k => hashInt k
  | .inr x => hashStr w x
theorem keyIs_shape : ∀ {k : Key} {v : Value}, keyIs k v = true → (∃ i t, k = Sum.inl i ∧ v = Value.int i t) ∨ (∃ x t, k = Sum.inr x ∧ v = Value.str x t)
  | .inl i, v, h => by
    obtain ⟨t, e⟩ := Value.isInt_shape (k := i) (v := v) h
    exact .inl ⟨i, t, rfl, e⟩
  | .inr x, v, h => by
    obtain ⟨t, e⟩ := Value.isStrOf_shape (x := x) (v := v) h
    exact .inr ⟨x, t, rfl, e⟩
theorem key_ll (a b : Int) : decide ((Sum.inl a : Key) = Sum.inl b) = (a == b) := by
  by_cases e : a = b
  · subst e; simp
  · have h : ¬ (Sum.inl a : Key) = Sum.inl b := fun q => e (Sum.inl.inj q)
    rw [decide_eq_false h]
    exact (beq_eq_false_iff_ne.mpr e).symm
theorem key_rr (a b : Str) : decide ((Sum.inr a : Key) = Sum.inr b) = decide (a = b) := by
  by_cases e : a = b
  · subst e; simp
  · have h : ¬ (Sum.inr a : Key) = Sum.inr b := fun q => e (Sum.inr.inj q)
    rw [decide_eq_false h, decide_eq_false e]
theorem key_lr (a : Int) (b : Str) : decide ((Sum.inl a : Key) = Sum.inr b) = false := decide_eq_false (fun q => nomatch q)
theorem key_rl (a : Str) (b : Int) : decide ((Sum.inr a : Key) = Sum.inl b) = false := decide_eq_false (fun q => nomatch q)

def mixKind (prog : Program) (w : World) : PySem.KeyKind prog w Key where
  is := keyIs
  hash := keyH w
  inj := fun v a b ha hb => by
    rcases keyIs_shape ha with ⟨i, t, rfl, rfl⟩ | ⟨x, t, rfl, rfl⟩
    · rcases keyIs_shape hb with ⟨j, u, rfl, e⟩ | ⟨y, u, rfl, e⟩
      · injection e with e1 _; rw [e1]
      · exact nomatch e
    · rcases keyIs_shape hb with ⟨j, u, rfl, e⟩ | ⟨y, u, rfl, e⟩
      · exact nomatch e
      · injection e with e1 _; rw [e1]
  byValue := fun k v h => by
    rcases keyIs_shape h with ⟨i, t, rfl, rfl⟩ | ⟨x, t, rfl, rfl⟩ <;> rfl
  pyHash := fun hv h => by
    rcases keyIs_shape hv with ⟨i, t, rfl, rfl⟩ | ⟨x, t, rfl, rfl⟩
    · exact wpAny_pyHash_int h
    · exact wpAny_pyHash_str h
  eqBool := fun hu hv h => by
    rcases keyIs_shape hu with ⟨i, t, rfl, rfl⟩ | ⟨x, t, rfl, rfl⟩
    · rcases keyIs_shape hv with ⟨j, u, rfl, rfl⟩ | ⟨y, u, rfl, rfl⟩
      · rw [key_ll] at h; exact wpAny_eqBool_int h
      · rw [key_lr] at h; exact SeqAt.EqAt.int_str i t y u _ _ _ _ h
    · rcases keyIs_shape hv with ⟨j, u, rfl, rfl⟩ | ⟨y, u, rfl, rfl⟩
      · rw [key_rl] at h; exact SeqAt.EqAt.str_int x t j u _ _ _ _ h
      · rw [key_rr] at h; exact wpAny_eqBool_str h
  «strs» := fun k x t v h => by
    rcases keyIs_shape h with ⟨i, u, rfl, e⟩ | ⟨y, u, rfl, e⟩
    · exact nomatch e
    · injection e with e1 _
      subst e1
      cases v <;> rfl

end L2

namespace L2
open PySem PySem.Spec PyProof.Rows

/-- a value, without the heap -/
inductive V where
  | non | bl (b : Bool) | int (i : Int) | str (x : Str) | byt (b : Array UInt8) | flt (b : UInt64) | ref (a : Addr) | ty (n : String)
  deriving DecidableEq

def RelV : V → Value → Prop
  | .non, u => u = Value.none
  | .bl b, u => u = Value.bool b
  | .int i, u => ∃ t, u = Value.int i t
  | .str x, u => ∃ t, u = Value.str x t
  | .byt b, u => ∃ t, u = Value.bytes b t
  | .flt b, u => ∃ t, u = Value.float b t
  | .ref a, u => u = Value.ref a
  | .ty n, u => u = Value.type n

abbrev Vals : List V → List Value → Prop := Paired RelV
theorem Vals.length {xs : List V} {us : List Value} (r : Vals xs us) : xs.length = us.length := Paired.length r
theorem Vals.get : ∀ {xs : List V} {us : List Value} {i : Nat} {x : V}, Vals xs us → xs[i]? = some x → ∃ u, us[i]? = some u ∧ RelV x u
  | _, _, _, _, .nil, e => by simp at e
  | _, _, 0, _, .cons r _, e => by simp at e; subst e; exact ⟨_, rfl, r⟩
  | _, _, i + 1, x, .cons _ t, e => by
    obtain ⟨u, h1, h2⟩ := Vals.get (i := i) (x := x) t (by simpa using e)
    exact ⟨u, by simpa using h1, h2⟩
theorem Vals.set {x : V} {u : Value} (r : RelV x u) : ∀ {xs : List V} {us : List Value} (i : Nat), Vals xs us → Vals (xs.set i x) (us.set i u)
  | _, _, _, .nil => .nil
  | _, _, 0, .cons _ t => .cons r t
  | _, _, i + 1, .cons q t => .cons q (Vals.set r i t)
theorem Vals.append : ∀ {xs ys : List V} {us ws : List Value}, Vals xs us → Vals ys ws → Vals (xs ++ ys) (us ++ ws)
  | _, _, _, _, .nil, s => s
  | _, _, _, _, .cons r t, s => .cons r (Vals.append t s)
theorem Vals.take : ∀ {xs : List V} {us : List Value} (n : Nat), Vals xs us → Vals (xs.take n) (us.take n)
  | _, _, 0, _ => .nil
  | _, _, _ + 1, .nil => .nil
  | _, _, n + 1, .cons r t => .cons r (Vals.take n t)
theorem Vals.drop : ∀ {xs : List V} {us : List Value} (n : Nat), Vals xs us → Vals (xs.drop n) (us.drop n)
  | _, _, 0, r => r
  | _, _, _ + 1, .nil => .nil
  | _, _, n + 1, .cons _ t => Vals.drop n t
def RelO : Option V → Option Value → Prop
  | some v, some u => RelV v u
  | none, none => True
  | _, _ => False
def KV {κ : Type} : List (κ × V) → List (κ × Value) → Prop := Paired fun (p : κ × V) (q : κ × Value) => p.1 = q.1 ∧ RelV p.2 q.2

/-- a key of a dict (00_mix): an int or a text -/
def kV : Key → V
  | .inl i => .int i
  | .inr x => .str x

/-- what stands at a tracked address -/
inductive HO where
  /-- a list -/
  | lst (xs : List V)
  /-- a tuple (never changes) -/
  | tup (xs : List V)
  /-- a dict whose keys are ints and texts; one whose keys are tuples of ints and texts (the empty one is both) -/
  | dK (kvs : List (Key × V)) | dT (kvs : List (List Key × V))
  /-- a set of ints: its members, its size -/
  | set (S : Int → Bool) (n : Nat)
  /-- an instance of the class at C, its dict at dx, its attributes -/
  | ins (C dx : Addr) (fs : List (Str × V))
  /-- the dict of the instance at x -/
  | own (x : Addr)
  /-- the dict of an exception -/
  | xd (fs : List (Str × V))
  /-- a bound method, f of x -/
  | met (f x : Addr)
  /-- a range object lo, lo + 1, .. below hi -/
  | rng (lo hi : Int)
  /-- a thing that is known to the object (the script; a dict while a loop walks it): read, never written while it is so -/
  | frz (o : Obj) (u : HO)
  /-- a code object's table -/
  | tbl (ps : Array Value)
  /-- any other thing, by what is true of its one object (a def of one's own: SetO a S n := HO.ext fun h => ..) -/
  | ext (φ : Heap → Prop)

abbrev Hp := Addr → Option HO
def upd (H : Hp) (a : Addr) (o : HO) : Hp := fun b => if b = a then some o else H b
theorem upd_same {H : Hp} {a : Addr} {o : HO} : upd H a o a = some o := by unfold upd; rw [if_pos rfl]
theorem upd_ne {H : Hp} {a b : Addr} {o : HO} (h : b ≠ a) : upd H a o b = H b := by unfold upd; rw [if_neg h]
theorem upd_upd {H : Hp} {a : Addr} {o u : HO} : upd (upd H a o) a u = upd H a u := by
  funext b; unfold upd; split <;> rfl
/-- two objects of different content stand apart -/
theorem ne_of {H : Hp} {a b : Addr} {o u : HO} (h : H a = some o) (h' : H b = some u) (d : o ≠ u) : a ≠ b := by
  intro e; subst e; rw [h] at h'; exact d (Option.some.inj h')
theorem ne_of_none {H : Hp} {a b : Addr} {o : HO} (h : H a = some o) (h' : H b = none) : a ≠ b := by
  intro e; subst e; rw [h] at h'; cases h'

section
variable (P : Program) (w : World)
def ObjOk (H : Hp) (h : Heap) (a : Addr) : HO → Prop
  | .lst xs => xs.length ≤ sizeLine ∧ ∃ (its : List Value) (n : Nat), Vals xs its ∧ h.get? a = some { cls := .type "list", data := .seq its.toArray n }
  | .tup xs => xs.length ≤ sizeLine ∧ ∃ its : List Value, Vals xs its ∧ IsTup h a its.toArray
  | .dK kvs => kvs.length ≤ sizeLine ∧ (a == sysModules) = false ∧ ∃ vs, KV kvs vs ∧ h.DictOf (mixKind P w) a vs
  | .dT kvs => kvs.length ≤ sizeLine ∧ (a == sysModules) = false ∧ ∃ xs : List (List Key × Addr × Value),
      Paired (fun (p : List Key × V) (q : List Key × Addr × Value) => p.1 = q.1 ∧ H q.2.1 = some (.tup (p.1.map kV)) ∧ RelV p.2 q.2.2) kvs xs ∧
      ∃ o es ep, h.get? a = some o ∧ o.ExactDict ∧ o.data = .dict es ep ∧ es.toList = xs.map (entryOfKey (tupleKind (mixKind P w))) ∧ (xs.map (·.1)).Nodup
  | .set S n => h.SetOf (intKind P w) a S n
  | .ins C dx fs => H dx = some (.own a) ∧ fs.length ≤ 1000 ∧ dx ≠ a ∧ h.get? a = some (PySem.W.instObj C dx) ∧
      ∃ mA, h.Ns1 dx mA ∧ (∀ f, RelO (fs.lookup f) (mA f)) ∧ PySem.Within mA (fs.map (·.1))
  | .own _ => ∃ o, h.get? a = some o
  | .xd fs => ∃ mA, h.Ns1 a mA ∧ ∀ f, RelO (fs.lookup f) (mA f)
  | .rng lo hi => ∃ t u v, h.get? a = some { cls := .type "range", data := .fields #[.int lo t, .int hi u, .int 1 v] }
  | .frz o u => h.get? a = some o ∧ ObjOk H h a u
  | .tbl ps => h.get? a = some { cls := .none, data := .fields ps }
  | .met f x => h.get? a = some (PySem.W.methodObj (.ref f) (.ref x))
  | .ext φ => φ h ∧ (∃ o, h.get? a = some o) ∧ ∀ h1 h2 : Heap, φ h1 → (∀ o, h1.get? a = some o → h2.get? a = some o) → φ h2
/-- the abstract heap is held -/
def HOk (H : Hp) (h : Heap) : Prop := ∀ a o, H a = some o → ObjOk P w H h a o
end

section
variable {P : Program} {w : World} {H H' : Hp} {h h' : Heap} {a : Addr} {o : HO}
theorem ObjOk.lt (x : ObjOk P w H h a o) : a < h.objs.size := by
  cases o with
  | lst xs => obtain ⟨_, _, _, _, e⟩ := x; exact Heap.lt_size e
  | tup xs => obtain ⟨_, _, _, p⟩ := x; exact p.lt
  | dK kvs => obtain ⟨_, _, _, _, o, _, _, e, _⟩ := x; exact Heap.lt_size e
  | dT kvs => obtain ⟨_, _, _, _, o, _, _, e, _⟩ := x; exact Heap.lt_size e
  | set S n => obtain ⟨o, _, _, _, e, _⟩ := x; exact Heap.lt_size e
  | ins C dx fs => obtain ⟨_, _, _, e, _⟩ := x; exact Heap.lt_size e
  | own y => obtain ⟨_, e⟩ := x; exact Heap.lt_size e
  | xd fs => obtain ⟨_, ⟨_, _, _, e, _⟩, _⟩ := x; exact Heap.lt_size e
  | rng lo hi => obtain ⟨_, _, _, e⟩ := x; exact Heap.lt_size e
  | frz ob u => obtain ⟨e, _⟩ := x; exact Heap.lt_size e
  | tbl ps => exact Heap.lt_size (show h.get? a = some _ from x)
  | met f y => exact Heap.lt_size (show h.get? a = some _ from x)
  | ext φ => obtain ⟨_, ⟨_, e⟩, _⟩ := x; exact Heap.lt_size e
theorem Paired.mapP {α β : Type} {F G : α → β → Prop} : ∀ {l₁ : List α} {l₂ : List β}, Paired F l₁ l₂ → (∀ a b, F a b → G a b) → Paired G l₁ l₂
  | _, _, .nil, _ => .nil
  | _, _, .cons r t, f => .cons (f _ _ r) (Paired.mapP t f)
/-- what an object's description leans on: its own object, its own dict, the tuples -/
theorem ObjOk.stay (x : ObjOk P w H h a o) (k : ∀ b u, (b = a ∨ H b = some (.own a)) → h.get? b = some u → h'.get? b = some u)
    (ho : ∀ b, H b = some (.own a) → H' b = some (.own a)) (ht : ∀ b xs, H b = some (.tup xs) → H' b = some (.tup xs)) : ObjOk P w H' h' a o := by
  induction o with
  | lst xs => obtain ⟨z, its, n, r, e⟩ := x; exact ⟨z, its, n, r, k _ _ (.inl rfl) e⟩
  | tup xs => obtain ⟨z, its, r, ob, e, c⟩ := x; exact ⟨z, its, r, ob, k _ _ (.inl rfl) e, c⟩
  | dK kvs => obtain ⟨z, y, vs, r, ob, es, ep, e, c⟩ := x; exact ⟨z, y, vs, r, ob, es, ep, k _ _ (.inl rfl) e, c⟩
  | dT kvs =>
    obtain ⟨z, y, xs, r, ob, es, ep, e, c⟩ := x
    exact ⟨z, y, xs, Paired.mapP r fun p q z => ⟨z.1, ht _ _ z.2.1, z.2.2⟩, ob, es, ep, k _ _ (.inl rfl) e, c⟩
  | set S n => obtain ⟨ob, es, ep, t, e, c⟩ := x; exact ⟨ob, es, ep, t, k _ _ (.inl rfl) e, c⟩
  | ins C dx fs =>
    obtain ⟨d, z, ne, e, mA, ⟨od, es, ep, e2, c⟩, r⟩ := x
    exact ⟨ho _ d, z, ne, k _ _ (.inl rfl) e, mA, ⟨od, es, ep, k _ _ (.inr d) e2, c⟩, r⟩
  | own y => obtain ⟨ob, e⟩ := x; exact ⟨ob, k _ _ (.inl rfl) e⟩
  | xd fs => obtain ⟨mA, ⟨od, es, ep, e, c⟩, r⟩ := x; exact ⟨mA, ⟨od, es, ep, k _ _ (.inl rfl) e, c⟩, r⟩
  | rng lo hi => obtain ⟨t, u, v, e⟩ := x; exact ⟨t, u, v, k _ _ (.inl rfl) e⟩
  | frz ob u ih => obtain ⟨e, q⟩ := x; exact ⟨k _ _ (.inl rfl) e, ih q⟩
  | tbl ps =>
    have e : h.get? a = some { cls := .none, data := .fields ps } := x
    show h'.get? a = some { cls := .none, data := .fields ps }
    exact k a _ (.inl rfl) e
  | met f y =>
    have e : h.get? a = some (PySem.W.methodObj (.ref f) (.ref y)) := x
    show h'.get? a = some (PySem.W.methodObj (.ref f) (.ref y))
    exact k a _ (.inl rfl) e
  | ext φ => obtain ⟨p, ⟨o, e⟩, st⟩ := x; exact ⟨st _ _ p fun o q => k _ _ (.inl rfl) q, ⟨o, k _ _ (.inl rfl) e⟩, st⟩
theorem HOk.lt (x : HOk P w H h) (e : H a = some o) : a < h.objs.size := (x a o e).lt
theorem HOk.fresh (x : HOk P w H h) (e : h.objs.size ≤ a) : H a = none := by
  cases q : H a with
  | none => rfl
  | some u => exact absurd (Nat.lt_of_lt_of_le (x.lt q) e) (Nat.lt_irrefl _)
/-- every object of the heap is kept -/
theorem HOk.kept (x : HOk P w H h) (k : ∀ b u, h.get? b = some u → h'.get? b = some u) : HOk P w H h' := fun a o e =>
  (x a o e).stay (fun b u _ q => k b u q) (fun _ q => q) fun _ _ q => q
/-- a new object is laid and tracked -/
theorem HOk.laid (x : HOk P w H h) (k : ∀ b u, h.get? b = some u → h'.get? b = some u) (hp : h.objs.size ≤ a) (new : ObjOk P w (upd H a o) h' a o) : HOk P w (upd H a o) h' := fun b u e => by
  have hn := x.fresh hp
  by_cases hb : b = a
  · subst hb; rw [upd_same] at e; cases e; exact new
  · rw [upd_ne hb] at e
    exact (x b u e).stay (fun c v _ q => k c v q) (fun c q => by rw [upd_ne (ne_of_none q hn)]; exact q) fun c xs q => by rw [upd_ne (ne_of_none q hn)]; exact q
end

/-- what may be read as u: it is u, or a known u -/
def Rd (H : Hp) (a : Addr) (u : HO) : Prop := H a = some u ∨ ∃ o, H a = some (.frz o u)
theorem Rd.ok {P : Program} {w : World} {H : Hp} {h : Heap} {a : Addr} {u : HO} (r : Rd H a u) (x : HOk P w H h) : ObjOk P w H h a u := by
  rcases r with r | ⟨o, r⟩
  · exact x a u r
  · obtain ⟨_, q⟩ := x a _ r
    exact q
/-- what may be written -/
def Mut : Option HO → Prop
  | some (.lst _) => True
  | some (.dK _) => True
  | some (.dT _) => True
  | some (.set _ _) => True
  | some (.ins _ _ _) => True
  | some (.ext _) => True
  | _ => False
section
variable {P : Program} {w : World} {H : Hp} {h h' : Heap} {x e : Addr} {o' : HO}
/-- the object at e is changed: x itself, or the dict of the instance x -/
theorem HOk.write (ok : HOk P w H h) (mu : Mut (H x)) (he : e = x ∨ H e = some (.own x)) (k : ∀ b u, b ≠ e → h.get? b = some u → h'.get? b = some u) (heo : ∃ u, h'.get? e = some u)
    (new : ObjOk P w (upd H x o') h' x o') : HOk P w (upd H x o') h' := fun b u q => by
  have nown : ∀ c y, H c = some (.own y) → c ≠ x := fun c y r z => by subst z; rw [r] at mu; exact mu
  have ntup : ∀ c xs, H c = some (.tup xs) → c ≠ x := fun c xs r z => by subst z; rw [r] at mu; exact mu
  by_cases hb : b = x
  · subst hb; rw [upd_same] at q; cases q; exact new
  · rw [upd_ne hb] at q
    by_cases hbe : b = e
    · have q' : H b = some (.own x) := by
        rcases he with z | z
        · exact absurd (hbe.trans z) hb
        · rw [hbe]; exact z
      rw [q] at q'; cases q'
      obtain ⟨v, hv⟩ := heo
      exact ⟨v, by rw [hbe]; exact hv⟩
    · refine (ok b u q).stay (fun c v hc r => k c v ?_ r) (fun c r => by rw [upd_ne (nown c b r)]; exact r) fun c xs r => by rw [upd_ne (ntup c xs r)]; exact r
      rcases hc with rfl | hc
      · exact hbe
      · rintro rfl
        rcases he with z | z
        · exact nown c b hc z
        · rw [hc] at z; cases z; exact hb rfl
end

/-! ### kept unless tracked; of the frames at fs (the callers') the slots may change (an exception that passes writes there); of the records at ex (iterators) nothing is said -/
structure Un (fs ex : List Addr) (H H' : Hp) (h h' : Heap) : Prop where
  keep : ∀ b o, h.get? b = some o → H b = none → b ∉ fs → b ∉ ex → h'.get? b = some o
  slot : ∀ b o, h.get? b = some o → H b = none → b ∈ fs → b ∉ ex → ∃ sl, h'.get? b = some { o with slots := sl }
  free : ∀ b o, h.get? b = some o → H b = none → b ∉ ex → H' b = none
  there : ∀ b o, h.get? b = some o → b ∉ ex → ∃ o', h'.get? b = some o'
  tups : ∀ b xs, H b = some (.tup xs) → H' b = some (.tup xs)
  frzs : ∀ b o u, H b = some (.frz o u) → H' b = some (.frz o u)
  tbls : ∀ b ps, H b = some (.tbl ps) → ∃ more, H' b = some (.tbl (ps ++ more))
section
variable {fs fs' ex ex' : List Addr} {H H1 H2 : Hp} {h h1 h2 h' : Heap} {a x e : Addr} {o : HO}
theorem Un.any (u : Un fs ex H H1 h h1) {b : Addr} {ob : Obj} (q : h.get? b = some ob) (n : H b = none) (hx : b ∉ ex) : ∃ sl, h1.get? b = some { ob with slots := sl } := by
  by_cases hb : b ∈ fs
  · exact u.slot b ob q n hb hx
  · exact ⟨ob.slots, u.keep b ob q n hb hx⟩
theorem Un.kept (k : ∀ b u, h.get? b = some u → h'.get? b = some u) : Un fs ex H H h h' :=
  ⟨fun b ob q _ _ _ => k b ob q, fun b ob q _ _ _ => ⟨ob.slots, k b ob q⟩, fun _ _ _ n _ => n, fun b ob q _ => ⟨ob, k b ob q⟩, fun _ _ q => q, fun _ _ _ q => q, fun _ ps q => ⟨#[], by rw [q]; simp⟩⟩
theorem Un.refl : Un fs ex H H h h := Un.kept fun _ _ q => q
theorem Un.laid (k : ∀ b u, h.get? b = some u → h'.get? b = some u) (hp : h.objs.size ≤ a) (hn : H a = none) : Un fs ex H (upd H a o) h h' where
  keep := fun b u q _ _ _ => k b u q
  slot := fun b u q _ _ _ => ⟨u.slots, k b u q⟩
  free := fun b u q n _ => by rw [upd_ne (Nat.ne_of_lt (Nat.lt_of_lt_of_le (Heap.lt_size q) hp))]; exact n
  there := fun b u q _ => ⟨u, k b u q⟩
  tups := fun b xs q => by rw [upd_ne (ne_of_none q hn)]; exact q
  frzs := fun b u xs q => by rw [upd_ne (ne_of_none q hn)]; exact q
  tbls := fun b ps q => ⟨#[], by rw [upd_ne (ne_of_none q hn), q]; simp⟩
theorem Un.write (mu : Mut (H x)) (he : e = x ∨ H e = some (.own x)) (k : ∀ b u, b ≠ e → h.get? b = some u → h'.get? b = some u) (heo : ∃ u, h'.get? e = some u) : Un fs ex H (upd H x o) h h' := by
  have hx : ∀ b, H b = none → b ≠ x := fun b n z => by subst z; rw [n] at mu; exact mu
  have hb : ∀ b, H b = none → b ≠ e := fun b n z => by
    subst z
    rcases he with r | r
    · exact hx b n r
    · rw [n] at r; cases r
  have hm : ∀ b u, H b = some u → ¬ Mut (some u) → b ≠ x := fun b u q nm z => by subst z; rw [q] at mu; exact nm mu
  refine ⟨fun b u q n _ _ => k b u (hb b n) q, fun b u q n _ _ => ⟨u.slots, k b u (hb b n) q⟩, fun b u q n _ => by rw [upd_ne (hx b n)]; exact n, fun b u q _ => ?_,
    fun b xs q => by rw [upd_ne (hm b _ q fun z => z)]; exact q, fun b u xs q => by rw [upd_ne (hm b _ q fun z => z)]; exact q, fun b ps q => ⟨#[], by rw [upd_ne (hm b _ q fun z => z), q]; simp⟩⟩
  by_cases hbe : b = e
  · subst hbe; exact heo
  · exact ⟨u, k b u hbe q⟩
end

/-! ### the heap without what is tracked -/
def trk (h : Heap) (H : Hp) : List Addr := (List.range h.objs.size).filter fun a => (H a).isSome
def hidT (h : Heap) (H : Hp) : Heap := PySem.W.hideAll h (trk h H)
theorem hidT_size (h : Heap) (H : Hp) : (hidT h H).objs.size = h.objs.size := PySem.W.hideAll_size _ _
theorem hidT_get {h : Heap} {H : Hp} {b : Addr} {o : Obj} (e : h.get? b = some o) (n : H b = none) : (hidT h H).get? b = some o :=
  PySem.W.hideAll_get _ e fun hm => by
    have q : (H b).isSome = true := (List.mem_filter.mp hm).2
    rw [n] at q; simp at q
theorem of_hidT {h : Heap} {H : Hp} {b : Addr} {o : Obj} (e : (hidT h H).get? b = some o) : h.get? b = some o ∧ H b = none := by
  have e' : h.get? b = some o := PySem.W.of_hideAll (trk h H) e
  refine ⟨e', ?_⟩
  cases q : H b with
  | none => rfl
  | some x =>
    have hm : b ∈ trk h H := List.mem_filter.mpr ⟨List.mem_range.mpr (Heap.lt_size e'), by simp [q]⟩
    have z : (hidT h H).get? b = none := PySem.W.hideAll_none (trk h H) hm
    rw [z] at e; cases e

/-! ### OpenK's ledger, filled with every new object but one -/
def allNews (g h : Heap) (L : Addr) : List (Addr × Obj) := (List.range h.objs.size).filterMap fun a => if a = L ∨ (g.get? a).isSome = true then none else (h.get? a).map fun o => (a, o)
def rest (g h : Heap) (L d : Addr) : List (Addr × Obj) := (allNews g h L).filter fun p => decide (p.1 ≠ d)
end L2

namespace L2
open PySem PySem.Spec PyProof.Rows

/-- the module's facts, over the base: the heap at the law's entry without what is tracked there -/
structure Mod (K : PySem.W.Frag) (mg : Str → Option Value) (base : Heap) : Prop where
  kin : K.In base
  glob : base.Ns mainGlobals mg
  blt : ∃ mb, base.Ns builtinsNs mb ∧ ∀ x : Str, x ≠ "__name__" → mb x = bootBuiltins x
  nolimit : base.NoLimit

/-- the context: a def's body (or a comprehension's block) running. base: fixed through the whole law; s₀, H₀: the entry; outer: the frames whose slots others may change (a def's callers); stack: all frames that run;
   ex: iterators that were made ahead of the entry and are walked here (a comprehension's); fn: the names whose cells were made at the entry (a def: all; a comprehension's block: its own); calm: not within an except suite; pn: pins that every state bears; xe: what is wanted of an exception that leaves the code -/
structure Cx where
  prog : Program
  w : World
  K : PySem.W.Frag
  mg : Str → Option Value
  base : Heap
  A : Around
  N : List Str
  s_0 : Shared
  H_0 : Hp
  env : Env
  outer : List Env
  stack : List Env
  ex : List Addr
  fn : Str → Bool
  calm : Bool
  pn : List (Addr × Obj)
  xe : Value → Shared → Prop
/-- the callers' frames -/
def frs (l : List Env) : List Addr := l.filterMap (·.frame)
abbrev Cx.fs (X : Cx) : List Addr := frs X.outer

def Vis (sc : Scope) (x : Str) : Prop := sc.names.lookup x = some .local ∨ sc.names.lookup x = some .cell ∨ sc.names.lookup x = some .free
def Loc (sc : Scope) (x : Str) : Prop := sc.names.lookup x = some .local ∨ sc.names.lookup x = some .cell
def Look (env : Env) (h : Heap) (m : Str → Option Value) (x : Str) (u : Value) : Prop :=
  (env.kindOf x = some .local ∧ m x = some u) ∨ ((env.kindOf x = some .cell ∨ env.kindOf x = some .free) ∧ ∃ c, env.cells.lookup x = some c ∧ h.IsCell c (some u))

structure Cx.Ok (X : Cx) : Prop where
  mod : Mod X.K X.mg X.base
  kind : X.env.scope.kind = .function
  glob : X.env.globals = mainGlobals
  blt : X.env.builtins = builtinsNs
  above : X.s_0.heap.objs.size ≤ X.env.locals
  inj : ∀ x y c, X.env.cells.lookup x = some c → X.env.cells.lookup y = some c → x = y
  has : ∀ x, (X.env.kindOf x = some .cell ∨ X.env.kindOf x = some .free) → ∃ c, X.env.cells.lookup x = some c
  cab : ∀ x c, X.fn x = true → X.env.cells.lookup x = some c → X.s_0.heap.objs.size ≤ c
  hd : X.calm = true → X.A.handled = none
  frames : X.A.frames = some X.stack
  stk : X.stack = X.outer ∨ (X.stack = X.env :: X.outer ∧ X.env.frame = some X.env.locals)
  exf : ∀ b ∈ X.ex, b ≠ X.env.locals ∧ ∀ x c, X.env.cells.lookup x = some c → c ≠ b
  bs : ∀ b o, X.base.get? b = some o → X.s_0.heap.get? b = some o ∧ X.H_0 b = none
  bsz : X.base.objs.size ≤ X.s_0.heap.objs.size
  noex : ∀ b o, X.base.get? b = some o → b ∉ X.ex
  exfs : ∀ b ∈ X.ex, b ∉ X.fs
  funs : X.s_0.heap.FunFrames X.base X.outer
  frf : ∀ b ∈ X.fs, X.H_0 b = none

structure Inv (X : Cx) (pins : List (Addr × Obj)) (σ : List (Option V)) (H : Hp) (s : Shared) : Prop where
  ok : X.Ok
  os : s.os = X.s_0.os
  bare : AllBare s.gens
  base : Un X.fs X.ex X.H_0 H X.s_0.heap s.heap
  loc : ∃ m, s.heap.Ns X.env.locals m ∧ ∀ (i : Nat) (x : Str) (v : V), X.N[i]? = some x → σ[i]? = some (some v) → Vis X.env.scope x → ∃ u, RelV v u ∧ Look X.env s.heap m x u
  cell : ∀ x c, X.env.cells.lookup x = some c → ∃ v, s.heap.IsCell c v
  free : H X.env.locals = none
  freeC : ∀ x c, X.env.cells.lookup x = some c → H c = none
  pin : ∀ p ∈ X.pn ++ pins, s.heap.get? p.1 = some p.2 ∧ H p.1 = none ∧ p.1 ≠ X.env.locals ∧ p.1 ∉ X.fs ∧ ∀ v, p.2.data ≠ .cell v
  hok : HOk X.prog X.w H s.heap
  len : σ.length = X.N.length

section
variable {X : Cx} {pins : List (Addr × Obj)} {σ : List (Option V)} {H H' : Hp} {s : Shared} {h' : Heap}

theorem Cx.Ok.nofr (ok : X.Ok) {b : Addr} {o : Obj} (e : X.base.get? b = some o) : b ∉ X.fs := fun hb => by
  have := (ok.funs.mem hb).1
  rw [e] at this; cases this
theorem Inv.bs (I : Inv X pins σ H s) : ∀ b o, X.base.get? b = some o → s.heap.get? b = some o ∧ H b = none := fun b o e =>
  ⟨I.base.keep b o (I.ok.bs b o e).1 (I.ok.bs b o e).2 (I.ok.nofr e) (I.ok.noex b o e), I.base.free b o (I.ok.bs b o e).1 (I.ok.bs b o e).2 (I.ok.noex b o e)⟩
theorem Inv.bk (I : Inv X pins σ H s) : ∀ b o, X.base.get? b = some o → s.heap.get? b = some o := fun b o e => (I.bs b o e).1
theorem Inv.mod (I : Inv X pins σ H s) : Mod X.K X.mg X.base := I.ok.mod
theorem Inv.kIn (I : Inv X pins σ H s) : X.K.In s.heap := I.ok.mod.kin.keeps I.bk
/-- the frame over the base: for OpenK's rules (K.In X.base is I.mod.kin) -/
theorem Inv.fr (I : Inv X pins σ H s) : ∃ m, Fr X.base X.env.locals s.heap m :=
  let ⟨m, hn, _⟩ := I.loc
  ⟨m, hn, I.bk, Nat.le_trans I.ok.bsz I.ok.above⟩
theorem Inv.lt (I : Inv X pins σ H s) : X.env.locals < s.heap.objs.size := let ⟨_, hn, _⟩ := I.loc; hn.lt
theorem Inv.sz (I : Inv X pins σ H s) : X.s_0.heap.objs.size ≤ s.heap.objs.size := Nat.le_trans I.ok.above (Nat.le_of_lt I.lt)
theorem Inv.nofs (I : Inv X pins σ H s) {a : Addr} (h : s.heap.objs.size ≤ a) : a ∉ X.fs := fun hb => by
  obtain ⟨_, o, ho, _⟩ := I.ok.funs.mem hb
  exact absurd (Nat.lt_of_lt_of_le (Heap.lt_size ho) (Nat.le_trans I.sz h)) (Nat.lt_irrefl _)
theorem Inv.cne (I : Inv X pins σ H s) : ∀ x c, X.env.cells.lookup x = some c → c ≠ X.env.locals := fun x c e z => by
  obtain ⟨v, o, ho, hd⟩ := I.cell x c e
  obtain ⟨m, ⟨o', es, ep, ho', hd', _⟩, _⟩ := I.loc
  rw [z, ho'] at ho; cases ho; rw [hd'] at hd; cases hd
theorem Inv.funs (I : Inv X pins σ H s) : s.heap.FunFrames X.base X.outer := by
  have all : ∀ (l : List Env), (∀ b ∈ frs l, b ∈ X.fs) → X.s_0.heap.FunFrames X.base l → s.heap.FunFrames X.base l := by
    intro l
    induction l with
    | nil => intro _ _; trivial
    | cons env r ih =>
      intro hs hl
      obtain ⟨hk, ⟨L, o, hf, hn, ho, hd⟩, hr⟩ := hl
      have hL : L ∈ X.fs := hs L (by unfold frs; rw [List.filterMap_cons, hf]; exact List.mem_cons_self)
      obtain ⟨sl, e⟩ := I.base.slot L o ho (I.ok.frf L hL) hL fun z => I.ok.exfs L z hL
      exact ⟨hk, ⟨L, _, hf, hn, e, hd⟩, ih (fun b hb => hs b (by unfold frs; rw [List.filterMap_cons, hf]; exact List.mem_cons_of_mem _ hb)) hr⟩
  exact all X.outer (fun _ hb => hb) I.ok.funs

/-- the frames that run, for a call -/
theorem Inv.stack (I : Inv X pins σ H s) : s.heap.FunFrames X.base X.stack := by
  rcases I.ok.stk with e | ⟨e, hf⟩
  · rw [e]; exact I.funs
  · rw [e]
    obtain ⟨m, hn, _⟩ := I.loc
    refine .cons (by rw [I.ok.kind]; decide) hf hn ?_ I.funs
    exact Heap.get?_none_of_le (Nat.le_trans I.ok.bsz I.ok.above)
theorem Inv.stkSub (I : Inv X pins σ H s) : ∀ b ∈ frs X.stack, b ∈ X.env.locals :: X.fs := fun b hb => by
  rcases I.ok.stk with e | ⟨e, hf⟩
  · rw [e] at hb; exact List.mem_cons_of_mem _ hb
  · rw [e] at hb
    unfold frs at hb
    rw [List.filterMap_cons, hf] at hb
    exact hb
theorem Inv.stkFree (I : Inv X pins σ H s) : ∀ b ∈ frs X.stack, H b = none := fun b hb => by
  rcases List.mem_cons.mp (I.stkSub b hb) with e | hb
  · rw [e]; exact I.free
  · obtain ⟨_, o, ho, _⟩ := I.ok.funs.mem hb
    exact I.base.free b o ho (I.ok.frf b hb) fun z => I.ok.exfs b z hb

/-- THE STEP: the untracked objects but the frame and the records at ch are kept (the callers' frames up to slots), the frame's map is kept, the new abstract heap is held -/
theorem Inv.step {g' : Array GenState} {t' : Nat} {d' : Drawn} {ch : List Addr} (I : Inv X pins σ H s)
    (hch : ∀ b ∈ ch, (b ∈ X.ex ∨ X.s_0.heap.objs.size ≤ b) ∧ b ≠ X.env.locals ∧ (∀ x c, X.env.cells.lookup x = some c → c ≠ b) ∧ ∀ p ∈ X.pn ++ pins, p.1 ≠ b)
    (keep : ∀ b o, b ≠ X.env.locals → b ∉ X.fs → b ∉ ch → s.heap.get? b = some o → H b = none → h'.get? b = some o)
    (slot : ∀ b o, b ≠ X.env.locals → b ∈ X.fs → b ∉ ch → s.heap.get? b = some o → H b = none → ∃ sl, h'.get? b = some { o with slots := sl }) (free : ∀ b o, b ∉ ch → s.heap.get? b = some o → H b = none → H' b = none)
    (there : ∀ b o, b ∉ ch → s.heap.get? b = some o → ∃ o', h'.get? b = some o')
    (tups : ∀ b xs, H b = some (.tup xs) → H' b = some (.tup xs)) (frzs : ∀ b o u, H b = some (.frz o u) → H' b = some (.frz o u)) (tbls : ∀ b ps, H b = some (.tbl ps) → ∃ more, H' b = some (.tbl (ps ++ more)))
    (ns : ∀ m, s.heap.Ns X.env.locals m → h'.Ns X.env.locals m) (hok : HOk X.prog X.w H' h') (hg : AllBare g') :
    Inv X pins σ H' { s with heap := h', gens := g', drawn := d', toks := t' } := by
  have neL : ∀ b o, X.s_0.heap.get? b = some o → b ≠ X.env.locals := fun b o e => Nat.ne_of_lt (Nat.lt_of_lt_of_le (Heap.lt_size e) I.ok.above)
  have neC : ∀ b o, X.s_0.heap.get? b = some o → b ∉ X.ex → b ∉ ch := fun b o e hx hb => by
    rcases (hch b hb).1 with z | z
    · exact hx z
    · exact absurd (Nat.lt_of_lt_of_le (Heap.lt_size e) z) (Nat.lt_irrefl _)
  have cellK : ∀ x c, X.env.cells.lookup x = some c → ∀ v, s.heap.IsCell c v → h'.IsCell c v := fun x c e v ⟨o, ho, hd⟩ => by
    have nch : c ∉ ch := fun z => (hch c z).2.2.1 x c e rfl
    by_cases hc : c ∈ X.fs
    · obtain ⟨sl, q⟩ := slot c o (I.cne x c e) hc nch ho (I.freeC x c e)
      exact ⟨_, q, hd⟩
    · exact ⟨o, keep c o (I.cne x c e) hc nch ho (I.freeC x c e), hd⟩
  refine ⟨I.ok, I.os, hg, ⟨fun b o e n hb hx => ?_, fun b o e n hb hx => ?_, fun b o e n hx => ?_, fun b o e hx => ?_, fun b xs e => tups b xs (I.base.tups b xs e), fun b o xs e => frzs b o xs (I.base.frzs b o xs e), fun b ps e => ?_⟩, ?_, fun x c e => ?_, ?_, fun x c e => ?_, fun p hp => ?_, hok, I.len⟩
  · exact keep b o (neL b o e) hb (neC b o e hx) (I.base.keep b o e n hb hx) (I.base.free b o e n hx)
  · obtain ⟨sl, e1⟩ := I.base.slot b o e n hb hx
    obtain ⟨sl', e2⟩ := slot b _ (neL b o e) hb (neC b o e hx) e1 (I.base.free b o e n hx)
    exact ⟨sl', e2⟩
  · obtain ⟨o', e1⟩ := I.base.there b o e hx
    exact free b o' (neC b o e hx) e1 (I.base.free b o e n hx)
  · obtain ⟨o', e1⟩ := I.base.there b o e hx
    exact there b o' (neC b o e hx) e1
  · obtain ⟨m1, e1⟩ := I.base.tbls b ps e
    obtain ⟨m2, e2⟩ := tbls b _ e1
    exact ⟨m1 ++ m2, by rw [e2, Array.append_assoc]⟩
  · obtain ⟨m, hn, hl⟩ := I.loc
    refine ⟨m, ns m hn, fun i x v e1 e2 e3 => ?_⟩
    obtain ⟨u, r, l⟩ := hl i x v e1 e2 e3
    refine ⟨u, r, ?_⟩
    rcases l with l | ⟨k, c, e, z⟩
    · exact .inl l
    · exact .inr ⟨k, c, e, cellK x c e _ z⟩
  · obtain ⟨v, z⟩ := I.cell x c e
    exact ⟨v, cellK x c e v z⟩
  · obtain ⟨m, ⟨o, _, _, ho, _⟩, _⟩ := I.loc
    exact free _ o (fun z => (hch _ z).2.1 rfl) ho I.free
  · obtain ⟨v, o, ho, hd⟩ := I.cell x c e
    exact free c o (fun z => (hch c z).2.2.1 x c e rfl) ho (I.freeC x c e)
  · obtain ⟨e, n, ne, nf, d⟩ := I.pin p hp
    have nch : p.1 ∉ ch := fun z => (hch p.1 z).2.2.2 p hp rfl
    exact ⟨keep p.1 p.2 ne nf nch e n, free p.1 p.2 nch e n, ne, nf, d⟩
/-- .. where the frame's own object is kept too -/
theorem Inv.un {t' : Nat} (I : Inv X pins σ H s) (u : Un X.fs [] H H' s.heap h') (hok : HOk X.prog X.w H' h') : Inv X pins σ H' { s with heap := h', toks := t' } := by
  obtain ⟨m, ⟨o, es, ep, ho, r⟩, _⟩ := id I.loc
  obtain ⟨sl, hL⟩ := u.any ho I.free (by simp)
  exact I.step (g' := s.gens) (d' := s.drawn) (ch := []) (fun _ z => nomatch z) (fun b o _ hb _ e n => u.keep b o e n hb (by simp)) (fun b o _ hb _ e n => u.slot b o e n hb (by simp)) (fun b o _ e n => u.free b o e n (by simp)) (fun b o _ e => u.there b o e (by simp)) u.tups u.frzs u.tbls (fun m' hm => by
    obtain ⟨o', es', ep', ho', r'⟩ := hm
    rw [ho] at ho'; cases ho'
    exact ⟨_, es', ep', hL, r'⟩) hok I.bare
/-- behind a call (or a comprehension's block): the slots of this frame may have changed too, the records at ch may have turned -/
theorem Inv.call {g' : Array GenState} {t' : Nat} {d' : Drawn} {ch : List Addr} (I : Inv X pins σ H s) (u : Un (frs X.stack) ch H H' s.heap h') (hok : HOk X.prog X.w H' h') (hg : AllBare g')
    (hch : ∀ b ∈ ch, (b ∈ X.ex ∨ X.s_0.heap.objs.size ≤ b) ∧ b ≠ X.env.locals ∧ (∀ x c, X.env.cells.lookup x = some c → c ≠ b) ∧ ∀ p ∈ X.pn ++ pins, p.1 ≠ b) :
    Inv X pins σ H' { s with heap := h', gens := g', drawn := d', toks := t' } := by
  obtain ⟨m, ⟨o, es, ep, ho, r⟩, _⟩ := id I.loc
  obtain ⟨sl, hL⟩ := u.any ho I.free fun z => (hch _ z).2.1 rfl
  exact I.step (ch := ch) hch (fun b o hL hb hc e n => u.keep b o e n (fun z => (List.mem_cons.mp (I.stkSub b z)).elim hL hb) hc) (fun b o _ _ hc e n => u.any e n hc) (fun b o hc e n => u.free b o e n hc) (fun b o hc e => u.there b o e hc) u.tups u.frzs u.tbls (fun m' hm => by
    obtain ⟨o', es', ep', ho', r'⟩ := hm
    rw [ho] at ho'; cases ho'
    exact ⟨_, es', ep', hL, r'⟩) hok hg
/-- an untracked record of ours (an iterator) has turned -/
theorem Inv.turned {t' : Nat} {it : Addr} (I : Inv X pins σ H s) (k : ∀ b o, b ≠ it → s.heap.get? b = some o → h'.get? b = some o) (hn : H it = none) (hL : it ≠ X.env.locals)
    (h1 : it ∈ X.ex ∨ X.s_0.heap.objs.size ≤ it) (h2 : ∀ x c, X.env.cells.lookup x = some c → c ≠ it) (h3 : ∀ p ∈ X.pn ++ pins, p.1 ≠ it) : Inv X pins σ H { s with heap := h', toks := t' } := by
  have nit : ∀ b u, H b = some u → b ≠ it := fun b u e z => by rw [z, hn] at e; cases e
  refine I.step (g' := s.gens) (d' := s.drawn) (ch := [it]) (fun b hb => ?_) (fun b o _ _ hc e _ => k b o (fun z => hc (by simp [z])) e) (fun b o _ _ hc e _ => ⟨o.slots, k b o (fun z => hc (by simp [z])) e⟩) (fun _ _ _ _ n => n)
    (fun b o hc e => ⟨o, k b o (fun z => hc (by simp [z])) e⟩) (fun _ _ e => e) (fun _ _ _ e => e) (fun b ps e => ⟨#[], by rw [e]; simp⟩) (fun m hm => ?_) (fun b u e => ?_) I.bare
  · have e : b = it := by simpa using hb
    subst e
    exact ⟨h1, hL, h2, h3⟩
  · obtain ⟨o, es, ep, ho, r⟩ := hm
    exact ⟨o, es, ep, k _ o (Ne.symm hL) ho, r⟩
  · refine (I.hok b u e).stay (fun c v hc q => k c v ?_ q) (fun _ q => q) fun _ _ q => q
    rcases hc with z | z
    · rw [z]; exact nit b u e
    · exact nit c _ z
theorem Inv.tok (I : Inv X pins σ H s) (t : Nat) : Inv X pins σ H { s with toks := t } := I.un (h' := s.heap) (t' := t) Un.refl I.hok
/-- all objects kept -/
theorem Inv.kept {t' : Nat} (I : Inv X pins σ H s) (k : ∀ b u, s.heap.get? b = some u → h'.get? b = some u) : Inv X pins σ H { s with heap := h', toks := t' } := I.un (Un.kept k) (I.hok.kept k)
/-- a new object laid and tracked -/
theorem Inv.laid {a : Addr} {o : HO} {t' : Nat} (I : Inv X pins σ H s) (k : ∀ b u, s.heap.get? b = some u → h'.get? b = some u) (hp : s.heap.objs.size ≤ a) (new : ObjOk X.prog X.w (upd H a o) h' a o) :
    Inv X pins σ (upd H a o) { s with heap := h', toks := t' } := I.un (Un.laid k hp (I.hok.fresh hp)) (I.hok.laid k hp new)
/-- an object written -/
theorem Inv.write {x e : Addr} {o : HO} {t' : Nat} (I : Inv X pins σ H s) (mu : Mut (H x)) (he : e = x ∨ H e = some (.own x)) (k : ∀ b u, b ≠ e → s.heap.get? b = some u → h'.get? b = some u) (heo : ∃ u, h'.get? e = some u)
    (new : ObjOk X.prog X.w (upd H x o) h' x o) : Inv X pins σ (upd H x o) { s with heap := h', toks := t' } := I.un (Un.write mu he k heo) (I.hok.write mu he k heo new)
/-- forgetting slots, pins -/
theorem Inv.weak {σ' : List (Option V)} (I : Inv X pins σ H s) (hl : σ'.length = σ.length) (w : ∀ (i : Nat) v, σ'[i]? = some (some v) → σ[i]? = some (some v)) : Inv X pins σ' H s :=
  ⟨I.ok, I.os, I.bare, I.base, let ⟨m, hn, hl'⟩ := I.loc; ⟨m, hn, fun i x v e1 e2 e3 => hl' i x v e1 (w i v e2) e3⟩, I.cell, I.free, I.freeC, I.pin, I.hok, hl.trans I.len⟩
theorem Inv.pins_of {pins' : List (Addr × Obj)} (I : Inv X pins σ H s) (h : ∀ p ∈ pins', s.heap.get? p.1 = some p.2 ∧ H p.1 = none ∧ p.1 ≠ X.env.locals ∧ p.1 ∉ X.fs ∧ ∀ v, p.2.data ≠ .cell v) : Inv X pins' σ H s :=
  ⟨I.ok, I.os, I.bare, I.base, I.loc, I.cell, I.free, I.freeC, fun p hp => (List.mem_append.mp hp).elim (fun z => I.pin p (List.mem_append_left _ z)) (h p), I.hok, I.len⟩

theorem nodup_ix {N : List Str} (hN : N.Nodup) {i j : Nat} {x : Str} (a : N[i]? = some x) (b : N[j]? = some x) : i = j := by
  obtain ⟨h1, e1⟩ := List.getElem?_eq_some_iff.mp a
  obtain ⟨h2, e2⟩ := List.getElem?_eq_some_iff.mp b
  exact (List.getElem_inj hN).mp (e1.trans e2.symm)

/-- a name is stored; what changed -/
theorem store_ok2 {M : Model} {A : Around} {E : Value → Shared → Prop} {i : Nat} {x : Str} {v : V} {u : Value} {Q : Unit → Shared → Prop} (I : Inv X pins σ H s) (hN : X.N.Nodup) (hi : X.N[i]? = some x) (hx : Loc X.env.scope x) (r : RelV v u)
    (h : ∀ s', Inv X pins (σ.set i (some v)) H s' → (∃ a, Heap.SameBut a s.heap s'.heap ∧ (a = X.env.locals ∨ X.env.cells.lookup x = some a)) → Q () s') (hf : X.fn x = true ∨ X.env.scope.names.lookup x = some .local := by first | exact .inl rfl | exact .inr rfl | assumption) : wpAny M A (storeName X.env x u) Q E s := by
  obtain ⟨m, hn, hl⟩ := id I.loc
  have hcls : (X.env.scope.kind == .class || (X.env.scope.kind == .module && X.env.locals != X.env.globals)) = false := by rw [I.ok.kind]; rfl
  have hiσ : i < σ.length := by rw [I.len]; exact (List.getElem?_eq_some_iff.mp hi).1
  have cne := I.cne
  have tracked : ∀ {a : Addr} {h' : Heap}, (∃ o, s.heap.get? a = some o ∧ H a = none) → Heap.SameBut a s.heap h' → HOk X.prog X.w H h' := fun {a h'} ha hs b ob e => by
    obtain ⟨_, _, hfree⟩ := ha
    refine (I.hok b ob e).stay (fun c w' hc q => (hs.2 c ?_).trans q) (fun _ q => q) fun _ _ q => q
    rintro rfl
    rcases hc with rfl | hc
    · rw [hfree] at e; cases e
    · rw [hfree] at hc; cases hc
  rcases hx with hk | hk
  · refine wpAny_storeName_local hk hn (fun h' hn' hs => ?_) hcls
    obtain ⟨oL, _, _, hoL, _⟩ := id hn
    refine h _ ⟨I.ok, I.os, I.bare, ⟨fun b o e n hb hx => ?_, fun b o e n hb hx => ?_, I.base.free, fun b o e hx => ?_, I.base.tups, I.base.frzs, I.base.tbls⟩, ⟨_, hn', fun j y v' e1 e2 e3 => ?_⟩, fun y c e => ?_, I.free, I.freeC, fun p hp => ?_, tracked ⟨oL, hoL, I.free⟩ hs, by simpa using I.len⟩ ⟨_, hs, .inl rfl⟩
    · exact (hs.2 b (Nat.ne_of_lt (Nat.lt_of_lt_of_le (Heap.lt_size e) I.ok.above))).trans (I.base.keep b o e n hb hx)
    · obtain ⟨sl, e1⟩ := I.base.slot b o e n hb hx
      exact ⟨sl, (hs.2 b (Nat.ne_of_lt (Nat.lt_of_lt_of_le (Heap.lt_size e) I.ok.above))).trans e1⟩
    · obtain ⟨o', e1⟩ := I.base.there b o e hx
      exact ⟨o', (hs.2 b (Nat.ne_of_lt (Nat.lt_of_lt_of_le (Heap.lt_size e) I.ok.above))).trans e1⟩
    · by_cases hj : j = i
      · subst hj
        rw [hi] at e1; cases e1
        rw [List.getElem?_set_self hiσ] at e2
        cases e2
        exact ⟨u, r, .inl ⟨hk, by simp⟩⟩
      · rw [List.getElem?_set_ne (Ne.symm hj)] at e2
        obtain ⟨u', r', q⟩ := hl j y v' e1 e2 e3
        refine ⟨u', r', ?_⟩
        rcases q with ⟨k, e⟩ | ⟨k, c, e, z⟩
        · refine .inl ⟨k, ?_⟩
          have : y ≠ x := fun e => hj (nodup_ix hN e1 (e ▸ hi))
          simp [this, e]
        · exact .inr ⟨k, c, e, z.sameBut hs (cne y c e)⟩
    · obtain ⟨w', z⟩ := I.cell y c e
      exact ⟨w', z.sameBut hs (cne y c e)⟩
    · obtain ⟨e, n, ne, nf, d⟩ := I.pin p hp
      exact ⟨(hs.2 p.1 ne).trans e, n, ne, nf, d⟩
  · have hfn : X.fn x = true := by
      rcases hf with z | z
      · exact z
      · rw [z] at hk; cases hk
    obtain ⟨c, hc⟩ := I.ok.has x (.inl hk)
    obtain ⟨w', z⟩ := I.cell x c hc
    refine wpAny_storeName_cell I.ok.kind hk hc z (fun h' hc' hs => ?_)
    obtain ⟨oc, hoc, hocd⟩ := id z
    refine h { s with heap := h' } ⟨I.ok, I.os, I.bare, ⟨fun b o e n hb hx => ?_, fun b o e n hb hx => ?_, I.base.free, fun b o e hx => ?_, I.base.tups, I.base.frzs, I.base.tbls⟩, ⟨m, hn.sameBut hs (Ne.symm (cne x c hc)), fun j y v' e1 e2 e3 => ?_⟩, fun y c' e => ?_, I.free, I.freeC, fun p hp => ?_, tracked ⟨oc, hoc, I.freeC x c hc⟩ hs, by simpa using I.len⟩ ⟨c, hs, .inr hc⟩
    · exact (hs.2 b (Nat.ne_of_lt (Nat.lt_of_lt_of_le (Heap.lt_size e) (I.ok.cab x c hfn hc)))).trans (I.base.keep b o e n hb hx)
    · obtain ⟨sl, e1⟩ := I.base.slot b o e n hb hx
      exact ⟨sl, (hs.2 b (Nat.ne_of_lt (Nat.lt_of_lt_of_le (Heap.lt_size e) (I.ok.cab x c hfn hc)))).trans e1⟩
    · obtain ⟨o', e1⟩ := I.base.there b o e hx
      exact ⟨o', (hs.2 b (Nat.ne_of_lt (Nat.lt_of_lt_of_le (Heap.lt_size e) (I.ok.cab x c hfn hc)))).trans e1⟩
    · by_cases hj : j = i
      · subst hj
        rw [hi] at e1; cases e1
        rw [List.getElem?_set_self hiσ] at e2
        cases e2
        exact ⟨u, r, .inr ⟨.inl hk, c, hc, hc'⟩⟩
      · rw [List.getElem?_set_ne (Ne.symm hj)] at e2
        obtain ⟨u', r', q⟩ := hl j y v' e1 e2 e3
        refine ⟨u', r', ?_⟩
        rcases q with q | ⟨k, c', e, z'⟩
        · exact .inl q
        · refine .inr ⟨k, c', e, z'.sameBut hs ?_⟩
          rintro rfl
          exact hj (nodup_ix hN e1 (I.ok.inj _ _ _ e hc ▸ hi))
    · by_cases hcc : c' = c
      · subst hcc; exact ⟨_, hc'⟩
      · obtain ⟨w2, z2⟩ := I.cell y c' e
        exact ⟨w2, z2.sameBut hs hcc⟩
    · obtain ⟨e, n, ne, nf, d⟩ := I.pin p hp
      refine ⟨(hs.2 p.1 ?_).trans e, n, ne, nf, d⟩
      intro q
      rw [q, hoc] at e
      have q' : oc = p.2 := Option.some.inj e
      exact d w' (by rw [← q']; exact hocd)
theorem store_ok {M : Model} {A : Around} {E : Value → Shared → Prop} {i : Nat} {x : Str} {v : V} {u : Value} {Q : Unit → Shared → Prop} (I : Inv X pins σ H s) (hN : X.N.Nodup) (hi : X.N[i]? = some x) (hx : Loc X.env.scope x) (r : RelV v u)
    (h : ∀ s', Inv X pins (σ.set i (some v)) H s' → Q () s') (hf : X.fn x = true ∨ X.env.scope.names.lookup x = some .local := by first | exact .inl rfl | exact .inr rfl | assumption) : wpAny M A (storeName X.env x u) Q E s :=
  store_ok2 I hN hi hx r (fun s' I' _ => h s' I') hf
/-- behind a call or a block, the state as it is -/
theorem Inv.call' {s' : Shared} {ch : List Addr} (I : Inv X pins σ H s) (ho : s'.os = s.os) (u : Un (frs X.stack) ch H H' s.heap s'.heap) (hok : HOk X.prog X.w H' s'.heap) (hg : AllBare s'.gens)
    (hch : ∀ b ∈ ch, (b ∈ X.ex ∨ X.s_0.heap.objs.size ≤ b) ∧ b ≠ X.env.locals ∧ (∀ x c, X.env.cells.lookup x = some c → c ≠ b) ∧ ∀ p ∈ X.pn ++ pins, p.1 ≠ b) : Inv X pins σ H' s' := by
  obtain ⟨h', g', d', t', o'⟩ := s'
  have e : o' = s.os := ho
  subst e
  exact I.call (g' := g') (t' := t') (d' := d') u hok hg hch
end

/-! ### the judgements -/
/-- an exception: its class, its own dict's address (where it has one), the abstract heap behind it -/
abbrev XK := Value → Option Addr → Hp → Prop
abbrev St := List (Option V)
abbrev VK := V → Hp → Prop
/-- an expression's reading; a test's; an argument list's -/
abbrev TE := St → Hp → VK → Prop
abbrev TT := St → Hp → (Bool → Hp → Prop) → Prop
abbrev TA := St → Hp → (List V → Hp → Prop) → Prop
/-- what is wanted behind a statement -/
structure Ends where
  nx : St → Hp → Prop
  rt : VK
  bk : St → Hp → Prop := fun _ _ => False
  ct : St → Hp → Prop := fun _ _ => False
abbrev TS := Ends → St → Hp → Prop

def EP (X : Cx) (pins : List (Addr × Obj)) (σ : St) (Q : VK) (u : Value) (s' : Shared) : Prop := ∃ v H', Inv X pins σ H' s' ∧ RelV v u ∧ Q v H'
def TP (X : Cx) (pins : List (Addr × Obj)) (σ : St) (Q : Bool → Hp → Prop) (b : Bool) (s' : Shared) : Prop := ∃ H', Inv X pins σ H' s' ∧ Q b H'
def AP (X : Cx) (pins : List (Addr × Obj)) (σ : St) (Q : List V → Hp → Prop) (us : List Value) (s' : Shared) : Prop := ∃ vs H', Inv X pins σ H' s' ∧ Vals vs us ∧ Q vs H'
def SP (X : Cx) (pins : List (Addr × Obj)) (D : Ends) (f : Flow) (s' : Shared) : Prop :=
  match f with
  | .next => ∃ σ' H', Inv X pins σ' H' s' ∧ D.nx σ' H'
  | .brk => ∃ σ' H', Inv X pins σ' H' s' ∧ D.bk σ' H'
  | .cont => ∃ σ' H', Inv X pins σ' H' s' ∧ D.ct σ' H'
  | .ret u => ∃ v σ' H', Inv X pins σ' H' s' ∧ RelV v u ∧ D.rt v H'

def PE (X : Cx) (e : Expr) (t : TE) : Prop :=
  ∀ (pins : List (Addr × Obj)) (s : Shared) (σ : St) (H : Hp) (Q : VK), Inv X pins σ H s → t σ H Q → wpAny (model X.prog X.w) X.A (eval e X.env) (EP X pins σ Q) X.xe s
def PT (X : Cx) (e : Expr) (t : TT) : Prop :=
  ∀ (pins : List (Addr × Obj)) (s : Shared) (σ : St) (H : Hp) (Q : Bool → Hp → Prop), Inv X pins σ H s → t σ H Q → wpAny (model X.prog X.w) X.A (isTrue e X.env (eval e X.env)) (TP X pins σ Q) X.xe s
/-- a test whatever its 'whole' is (and, or) -/
def PW (X : Cx) (e : Expr) (t : TT) : Prop :=
  ∀ (whole : Sem Value) (pins : List (Addr × Obj)) (s : Shared) (σ : St) (H : Hp) (Q : Bool → Hp → Prop), Inv X pins σ H s → t σ H Q → wpAny (model X.prog X.w) X.A (isTrue e X.env whole) (TP X pins σ Q) X.xe s
theorem PW.pt {X : Cx} {e : Expr} {t : TT} (h : PW X e t) : PT X e t := h _
/-- an argument list (no star), from the left -/
def PA (X : Cx) (es : List Expr) (t : TA) : Prop :=
  ∀ (pos : Pos) (pins : List (Addr × Obj)) (s : Shared) (σ : St) (H : Hp) (Q : List V → Hp → Prop), Inv X pins σ H s → t σ H Q → wpAny (model X.prog X.w) X.A (spliced (backTo pos (starEach es X.env))) (AP X pins σ Q) X.xe s
def PS (X : Cx) (st : Stmt) (t : TS) : Prop :=
  ∀ (pins : List (Addr × Obj)) (s : Shared) (σ : St) (H : Hp) (D : Ends), Inv X pins σ H s → t D σ H → wpAny (model X.prog X.w) X.A (exec st X.env) (SP X pins D) X.xe s
def PSs (X : Cx) (st : List Stmt) (t : TS) : Prop :=
  ∀ (pins : List (Addr × Obj)) (s : Shared) (σ : St) (H : Hp) (D : Ends), Inv X pins σ H s → t D σ H → wpAny (model X.prog X.w) X.A (execs st X.env) (SP X pins D) X.xe s
/-- weaken the end -/
theorem thn {α : Type} {t : Sem α} {Q Q' : α → Shared → Prop} {M : Model} {A : Around} {E : Value → Shared → Prop} {s : Shared} (h : wpAny M A t Q E s) (hQ : ∀ a s, Q a s → Q' a s) : wpAny M A t Q' E s := wpAny_mono h hQ fun _ _ x => x
end L2

namespace L2
open PySem PySem.Spec PyProof.Rows
section
variable {X : Cx}

/-- two expressions in a row -/
theorem bin {a b : Expr} {ta tb : TE} (ha : PE X a ta) (hb : PE X b tb) {pins : List (Addr × Obj)} {s : Shared} {σ : St} {H : Hp} {R : V → V → Hp → Prop} (I : Inv X pins σ H s) (h : ta σ H fun x H1 => tb σ H1 fun y H2 => R x y H2)
    {α : Type} {Q : α → Shared → Prop} {f : Value → Value → Sem α}
    (hf : ∀ v u s2 x y H2, Inv X pins σ H2 s2 → RelV x v → RelV y u → R x y H2 → wpAny (model X.prog X.w) X.A (f v u) Q X.xe s2) :
    wpAny (model X.prog X.w) X.A (eval a X.env) (fun v s₁ => wpAny (model X.prog X.w) X.A (eval b X.env) (fun u s₂ => wpAny (model X.prog X.w) X.A (f v u) Q X.xe s₂) X.xe s₁) X.xe s := by
  refine thn (ha pins s σ H _ I h) fun v s1 ⟨x, H1, I1, r1, q1⟩ => ?_
  refine thn (hb pins s1 σ H1 _ I1 q1) fun u s2 ⟨y, H2, I2, r2, q2⟩ => ?_
  exact hf v u s2 x y H2 I2 r1 r2 q2

/-! ### names and constants -/
def tVar (i : Nat) : TE := fun σ H Q => ∃ v, σ[i]? = some (some v) ∧ Q v H
def tC (v : V) : TE := fun _ H Q => Q v H
theorem pe_var {i : Nat} {x : Str} {pos : Pos} (hN : X.N[i]? = some x) (hv : Vis X.env.scope x) (hd : (x == ("__debug__" : Str)) = false := by decide) (hcd : (x == ("__classdict__" : Str)) = false := by decide) : PE X (.Name x pos) (tVar i) := by
  intro pins s σ H Q I h
  obtain ⟨v, e, h⟩ := h
  obtain ⟨m, hn, hl⟩ := I.loc
  obtain ⟨u, r, l⟩ := hl i x v hN e hv
  have fin : EP X pins σ Q u s := ⟨v, H, I, r, h⟩
  rcases l with ⟨hk, hm⟩ | ⟨hk, c, hc, hcell⟩
  · exact wpAny_Name (wpAny_loadName_local I.ok.kind hk hn hm fin) hd
  · rcases hk with hk | hk
    · exact wpAny_Name (wpAny_loadName_cell I.ok.kind hk hc hcell fin) hd
    · exact wpAny_Name (wpAny_loadName_free I.ok.kind hk hc hcell fin hcd) hd
theorem pe_int {i j pos} : PE X (.Constant (.int i) j pos) (tC (.int i)) := fun _ _ _ H _ I h => wpAny_Constant_int ⟨.int i, H, I.tok _, ⟨_, rfl⟩, h⟩
theorem pe_bl {b j pos} : PE X (.Constant (.bool b) j pos) (tC (.bl b)) := fun _ _ _ H _ I h => Constant_bool ⟨.bl b, H, I, rfl, h⟩
theorem pe_non {j pos} : PE X (.Constant .none j pos) (tC .non) := fun _ _ _ H _ I h => Constant_none ⟨.non, H, I, rfl, h⟩
/-- a global name of the def -/
def Gl (X : Cx) (x : Str) : Prop := X.env.kindOf x = some .globalImplicit
theorem ld_glob {E : Value → Shared → Prop} {pins : List (Addr × Obj)} {s : Shared} {σ : St} {H : Hp} {x : Str} {u : Value} {pos : Pos} {Q : Value → Shared → Prop} (I : Inv X pins σ H s) (hg : Gl X x) (hm : X.mg x = some u) (h : Q u s)
    (hd : (x == ("__debug__" : Str)) = false := by decide) : wpAny (model X.prog X.w) X.A (eval (.Name x pos) X.env) Q E s :=
  Calls.Name_function_global I.ok.kind hg (Calls.loadGlobal_global (by rw [I.ok.glob]; exact I.mod.glob.keeps I.bk) hm h) hd
theorem ld_blt {E : Value → Shared → Prop} {pins : List (Addr × Obj)} {s : Shared} {σ : St} {H : Hp} {x : Str} {u : Value} {pos : Pos} {Q : Value → Shared → Prop} (I : Inv X pins σ H s) (hg : Gl X x) (hm : X.mg x = none) (hv : bootBuiltins x = some u) (h : Q u s)
    (hn : x ≠ "__name__" := by decide) (hd : (x == ("__debug__" : Str)) = false := by decide) : wpAny (model X.prog X.w) X.A (eval (.Name x pos) X.env) Q E s := by
  obtain ⟨mb, h1, h2⟩ := I.mod.blt
  exact Calls.Name_function_global I.ok.kind hg (Calls.loadGlobal_builtin (by rw [I.ok.glob]; exact I.mod.glob.keeps I.bk) hm (by rw [I.ok.blt]; exact h1.keeps I.bk) ((h2 x hn).trans hv) h) hd
/-- a module's constant, a class, a function, as a value -/
theorem pe_glob {x : Str} {v : V} {u : Value} {pos : Pos} (hg : Gl X x) (hm : X.mg x = some u) (r : RelV v u) (hd : (x == ("__debug__" : Str)) = false := by decide) : PE X (.Name x pos) (tC v) :=
  fun _ _ _ H _ I h => ld_glob I hg hm ⟨v, H, I, r, h⟩ hd
/-! ### arithmetic -/
/-- two ints -/
def t2I (ta tb : TE) (k : Int → Int → Hp → Prop) : St → Hp → Prop := fun σ H => ta σ H fun x H1 => tb σ H1 fun y H2 => ∃ i j, x = .int i ∧ y = .int j ∧ k i j H2
def tAdd (ta tb : TE) : TE := fun σ H Q => t2I ta tb (fun i j H2 => Q (.int (i + j)) H2) σ H
def tSub (ta tb : TE) : TE := fun σ H Q => t2I ta tb (fun i j H2 => Q (.int (i - j)) H2) σ H
/-- the left factor below 2^64 -/
def tMul (ta tb : TE) : TE := fun σ H Q => t2I ta tb (fun i j H2 => (-(2 ^ 64) < i ∧ i < 2 ^ 64) ∧ Q (.int (i * j)) H2) σ H
variable {a b : Expr} {ta tb : TE} {pos : Pos}
theorem pe_add (ha : PE X a ta) (hb : PE X b tb) : PE X (.BinOp a .Add b pos) (tAdd ta tb) := by
  intro pins s σ H Q I h
  refine wpAny_BinOp (bin ha hb I h fun v u s2 x y H2 I2 rx ry q => ?_)
  obtain ⟨i, j, rfl, rfl, q⟩ := q
  obtain ⟨t, rfl⟩ := rx
  obtain ⟨t', rfl⟩ := ry
  exact add_int ⟨.int _, H2, I2.tok _, ⟨_, rfl⟩, q⟩
theorem pe_sub (ha : PE X a ta) (hb : PE X b tb) : PE X (.BinOp a .Sub b pos) (tSub ta tb) := by
  intro pins s σ H Q I h
  refine wpAny_BinOp (bin ha hb I h fun v u s2 x y H2 I2 rx ry q => ?_)
  obtain ⟨i, j, rfl, rfl, q⟩ := q
  obtain ⟨t, rfl⟩ := rx
  obtain ⟨t', rfl⟩ := ry
  exact sub_int ⟨.int _, H2, I2.tok _, ⟨_, rfl⟩, q⟩
/-! ### comparisons -/
def PC (X : Cx) (op : CmpOp) (a b : Expr) (t : TE) : Prop :=
  ∀ (pins : List (Addr × Obj)) (s : Shared) (σ : St) (H : Hp) (Q : VK), Inv X pins σ H s → t σ H Q →
    wpAny (model X.prog X.w) X.A (eval a X.env) (fun v s₁ => wpAny (model X.prog X.w) X.A (eval b X.env) (fun u s₂ => wpAny (model X.prog X.w) X.A (compareOp op v u) (EP X pins σ Q) X.xe s₂) X.xe s₁) X.xe s
def tCmp (p : Int → Int → Bool) (ta tb : TE) : TE := fun σ H Q => t2I ta tb (fun i j H2 => Q (.bl (p i j)) H2) σ H
abbrev tLt : TE → TE → TE := tCmp fun i j => decide (i < j)
abbrev tLe : TE → TE → TE := tCmp fun i j => decide (i ≤ j)
abbrev tGt : TE → TE → TE := tCmp fun i j => decide (j < i)
abbrev tGe : TE → TE → TE := tCmp fun i j => decide (j ≤ i)
abbrev tEqI : TE → TE → TE := tCmp fun i j => decide (i = j)
abbrev tNeI : TE → TE → TE := tCmp fun i j => !decide (i = j)
/-- a comparison of two ints, by its rule -/
theorem pc_int {op : CmpOp} {p : Int → Int → Bool} (ha : PE X a ta) (hb : PE X b tb)
    (rule : ∀ (i j : Int) (t u : Tok) (Q : Value → Shared → Prop) (s : Shared), Q (.bool (p i j)) s → wpAny (model X.prog X.w) X.A (compareOp op (.int i t) (.int j u)) Q X.xe s) : PC X op a b (tCmp p ta tb) := by
  intro pins s σ H Q I h
  refine bin ha hb I h fun v u s2 x y H2 I2 rx ry q => ?_
  obtain ⟨i, j, rfl, rfl, q⟩ := q
  obtain ⟨t, rfl⟩ := rx
  obtain ⟨t', rfl⟩ := ry
  exact rule i j t t' _ s2 ⟨.bl _, H2, I2, rfl, q⟩
theorem pc_lt (ha : PE X a ta) (hb : PE X b tb) : PC X .Lt a b (tLt ta tb) := pc_int ha hb fun _ _ _ _ _ _ h => lt_int h
theorem pc_le (ha : PE X a ta) (hb : PE X b tb) : PC X .LtE a b (tLe ta tb) := pc_int ha hb fun _ _ _ _ _ _ h => le_int h
/-- is None -/
def tIsN (ta : TE) : TE := fun σ H Q => ta σ H fun x H1 => Q (.bl (decide (x = .non))) H1
def tNotN (ta : TE) : TE := fun σ H Q => ta σ H fun x H1 => Q (.bl (!decide (x = .non))) H1
/-- a comparison as a value, as a test -/
def tB (t : TE) : TT := fun σ H Q => t σ H fun x H1 => ∃ c, x = .bl c ∧ Q c H1
theorem pe_cmp {op : CmpOp} {t : TE} (h : PC X op a b t) (h1 : behindInMarks op b = false := by first | exact nobehind _ (by decide) (by decide) | rfl) : PE X (.Compare a [op] [b] pos) t := fun pins s σ H Q I hw => wpAny_Compare1 (h pins s σ H Q I hw) h1
theorem pt_cmp {op : CmpOp} {t : TE} (h : PC X op a b t) (h1 : behindInMarks op b = false := by first | exact nobehind _ (by decide) (by decide) | rfl) : PT X (.Compare a [op] [b] pos) (tB t) := by
  intro pins s σ H Q I hw
  refine wpAny_isTrue_Compare1 (thn (h pins s σ H _ I hw) fun v s1 h1 => thn h1 fun u s2 h2 => thn h2 fun c s3 ⟨x, H1, I1, r1, q1⟩ => ?_) h1
  obtain ⟨d, rfl, q⟩ := q1
  cases r1
  exact wpAny_truthy_bool ⟨H1, I1, q⟩
/-- an expression whose value is a bool, as a test -/
theorem pt_val {e : Expr} {t : TE} (h : PE X e t) (he : ∀ whole, isTrue e X.env whole = (do let v ← whole; standAt e.pos; holding [v] (truthy v)) := by intro _; rfl) : PT X e (tB t) := by
  intro pins s σ H Q I hw
  refine isTrue_plain (thn (h pins s σ H _ I hw) fun v s1 ⟨x, H1, I1, r1, q1⟩ => ?_) (he _)
  obtain ⟨d, rfl, q⟩ := q1
  cases r1
  exact wpAny_truthy_bool ⟨H1, I1, q⟩

/-! ### and, or, not -/
variable {tA tB' : TT} {rest : List Expr}
def tAnd (t u : TT) : TT := fun σ H Q => t σ H fun c H1 => if c = true then u σ H1 Q else Q false H1
def tOr (t u : TT) : TT := fun σ H Q => t σ H fun c H1 => if c = true then Q true H1 else u σ H1 Q
def tNot (t : TT) : TT := fun σ H Q => t σ H fun c H1 => Q (!c) H1
theorem pw_and1 (ha : PT X a tA) : PW X (.BoolOp .And [a] pos) tA := by
  intro wh pins s σ H Q I h
  refine isTrue_and (thn (ha pins s σ H Q I h) fun c s1 e => ?_)
  cases c with
  | true => exact isTrue_and_nil e
  | false => exact e
theorem pw_or1 (ha : PT X a tA) : PW X (.BoolOp .Or [a] pos) tA := by
  intro wh pins s σ H Q I h
  refine isTrue_or (thn (ha pins s σ H Q I h) fun c s1 e => ?_)
  cases c with
  | false => exact isTrue_or_nil e
  | true => exact e
theorem pw_and (ha : PT X a tA) (hb : PW X (.BoolOp .And (b :: rest) pos) tB') : PW X (.BoolOp .And (a :: b :: rest) pos) (tAnd tA tB') := by
  intro wh pins s σ H Q I h
  refine isTrue_and (thn (ha pins s σ H _ I h) fun c s1 ⟨H1, I1, q1⟩ => ?_)
  cases c with
  | true => exact hb wh pins s1 σ H1 Q I1 q1
  | false => exact ⟨H1, I1, q1⟩
theorem pw_or (ha : PT X a tA) (hb : PW X (.BoolOp .Or (b :: rest) pos) tB') : PW X (.BoolOp .Or (a :: b :: rest) pos) (tOr tA tB') := by
  intro wh pins s σ H Q I h
  refine isTrue_or (thn (ha pins s σ H _ I h) fun c s1 ⟨H1, I1, q1⟩ => ?_)
  cases c with
  | true => exact ⟨H1, I1, q1⟩
  | false => exact hb wh pins s1 σ H1 Q I1 q1
theorem pt_not (ha : PT X a tA) : PT X (.UnaryOp .Not a pos) (tNot tA) := by
  intro pins s σ H Q I h
  exact isTrue_not (ha pins s σ H (fun c H1 => Q (!c) H1) I h)
/-- .. as values (bools) -/
def tAndV (ta tb : TE) : TE := fun σ H Q => ta σ H fun x H1 => ∃ c, x = .bl c ∧ if c = true then tb σ H1 Q else Q (.bl false) H1
def tOrV (ta tb : TE) : TE := fun σ H Q => ta σ H fun x H1 => ∃ c, x = .bl c ∧ if c = true then Q (.bl true) H1 else tb σ H1 Q
def tNotV (ta : TE) : TE := fun σ H Q => ta σ H fun x H1 => ∃ c, x = .bl c ∧ Q (.bl (!c)) H1
theorem pe_one {op} {t : TE} (h : PE X a t) : PE X (.BoolOp op [a] pos) t := fun pins s σ H Q I hw => BoolOp_one (h pins s σ H Q I hw)
theorem pe_and (ha : PE X a ta) (hb : PE X (.BoolOp .And (b :: rest) pos) tb) : PE X (.BoolOp .And (a :: b :: rest) pos) (tAndV ta tb) := by
  intro pins s σ H Q I h
  refine BoolOp_and (thn (ha pins s σ H _ I h) fun v s1 ⟨x, H1, I1, r1, q1⟩ => ?_)
  obtain ⟨c, rfl, q1⟩ := q1
  cases r1
  refine wpAny_truthy_bool ?_
  cases c with
  | true => exact hb pins s1 σ H1 Q I1 q1
  | false => exact ⟨.bl false, H1, I1, rfl, q1⟩
/-- a if t else b -/
def tIf (t : TT) (ta tb : TE) : TE := fun σ H Q => t σ H fun c H1 => if c = true then ta σ H1 Q else tb σ H1 Q
theorem pe_ifExp {c : Expr} (hc : PT X c tA) (ha : PE X a ta) (hb : PE X b tb) : PE X (.IfExp c a b pos) (tIf tA ta tb) := by
  intro pins s σ H Q I h
  refine wpAny_IfExp (thn (hc pins s σ H _ I h) fun d s1 ⟨H1, I1, q1⟩ => ?_)
  cases d with
  | true => exact ha pins s1 σ H1 Q I1 q1
  | false => exact hb pins s1 σ H1 Q I1 q1
end
end L2

namespace L2
open PySem PySem.Spec PyProof.Rows

/-! ### a list, a tuple that is read: tracked, frozen, or an object of the module -/
def SqL (K : PySem.W.Frag) (H : Hp) (a : Addr) (xs : List V) : Prop :=
  Rd H a (.lst xs) ∨
    ∃ (o : Obj) (its : Array Value) (n : Nat), K.lookup a = some o ∧ o.cls = .type "list" ∧ o.dict = none ∧ o.data = .seq its n ∧ its.size ≤ sizeLine ∧ Vals xs its.toList
def SqT (K : PySem.W.Frag) (H : Hp) (a : Addr) (xs : List V) : Prop :=
  Rd H a (.tup xs) ∨
    ∃ (o : Obj) (its : Array Value) (n : Nat), K.lookup a = some o ∧ o.cls = .type "tuple" ∧ o.data = .seq its n ∧ its.size ≤ sizeLine ∧ Vals xs its.toList
def absV : Value → Option V
  | .none => some .non
  | .bool b => some (.bl b)
  | .int i _ => some (.int i)
  | .str x _ => some (.str x)
  | .bytes b _ => some (.byt b)
  | .float b _ => some (.flt b)
  | .ref a => some (.ref a)
  | .type n => some (.ty n)
  | _ => none
theorem RelV.abs {x : V} {u : Value} (r : RelV x u) : absV u = some x := by
  cases x with
  | non => cases r; rfl
  | bl _ => cases r; rfl
  | int _ => obtain ⟨t, rfl⟩ := r; rfl
  | str _ => obtain ⟨t, rfl⟩ := r; rfl
  | byt _ => obtain ⟨t, rfl⟩ := r; rfl
  | flt _ => obtain ⟨t, rfl⟩ := r; rfl
  | ref _ => cases r; rfl
  | ty _ => cases r; rfl
theorem RelV.inj {x y : V} {u : Value} (r : RelV x u) (q : RelV y u) : x = y := Option.some.inj (r.abs.symm.trans q.abs)
theorem Vals.inj : ∀ {xs ys : List V} {us : List Value}, Vals xs us → Vals ys us → xs = ys
  | _, _, _, .nil, .nil => rfl
  | _, _, _, .cons r t, .cons r' t' => by rw [r.inj r', Vals.inj t t']
section
variable {X : Cx} {pins : List (Addr × Obj)} {σ : St} {H : Hp} {s : Shared} {a : Addr} {xs ys : List V}
theorem SqL.of {K : PySem.W.Frag} (h : H a = some (.lst xs)) : SqL K H a xs := .inl (.inl h)
theorem SqT.of {K : PySem.W.Frag} (h : H a = some (.tup xs)) : SqT K H a xs := .inl (.inl h)
theorem Inv.list (I : Inv X pins σ H s) (h : SqL X.K H a xs) : ∃ its : List Value, Vals xs its ∧ PlainL s.heap a its.toArray ∧ xs.length ≤ sizeLine := by
  rcases h with h | ⟨o, its, n, hk, hc, hd, hs, hz, r⟩
  · obtain ⟨z, its, n, r, e⟩ := h.ok I.hok
    exact ⟨its, r, ⟨_, n, e, rfl, rfl, rfl⟩, z⟩
  · refine ⟨its.toList, r, ⟨o, n, I.kIn a o hk, hc, hd, by simpa using hs⟩, ?_⟩
    have e := r.length
    simp only [Array.length_toList] at e
    omega
theorem Inv.tuple (I : Inv X pins σ H s) (h : SqT X.K H a xs) : ∃ its : List Value, Vals xs its ∧ IsTup s.heap a its.toArray ∧ xs.length ≤ sizeLine := by
  rcases h with h | ⟨o, its, n, hk, hc, hs, hz, r⟩
  · obtain ⟨z, its, r, p⟩ := h.ok I.hok
    exact ⟨its, r, p, z⟩
  · refine ⟨its.toList, r, ⟨o, I.kIn a o hk, hc, n, by simpa using hs⟩, ?_⟩
    have e := r.length
    simp only [Array.length_toList] at e
    omega
theorem Inv.list_inj (I : Inv X pins σ H s) (h : SqL X.K H a xs) (h' : SqL X.K H a ys) : xs = ys := by
  obtain ⟨its, r, ⟨o, n, e, _, _, d⟩, _⟩ := I.list h
  obtain ⟨its', r', ⟨o', n', e', _, _, d'⟩, _⟩ := I.list h'
  rw [e] at e'; cases e'
  rw [d] at d'
  injection d' with d1 _
  have : its = its' := by simpa using congrArg Array.toList d1
  subst this
  exact r.inj r'
theorem Inv.tuple_inj (I : Inv X pins σ H s) (h : SqT X.K H a xs) (h' : SqT X.K H a ys) : xs = ys := by
  obtain ⟨its, r, ⟨o, e, _, n, d⟩, _⟩ := I.tuple h
  obtain ⟨its', r', ⟨o', e', _, n', d'⟩, _⟩ := I.tuple h'
  rw [e] at e'; cases e'
  rw [d] at d'
  injection d' with d1 _
  have : its = its' := by simpa using congrArg Array.toList d1
  subst this
  exact r.inj r'
end

/-! ### another wish about exceptions -/
abbrev Cx.wish (X : Cx) (E : Value → Shared → Prop) : Cx := { X with xe := E }
/-- no exception leaves -/
abbrev Cx.nox (X : Cx) : Cx := X.wish fun _ _ => False
theorem Cx.Ok.wish {X : Cx} (ok : X.Ok) (E : Value → Shared → Prop) : (X.wish E).Ok :=
  ⟨ok.mod, ok.kind, ok.glob, ok.blt, ok.above, ok.inj, ok.has, ok.cab, ok.hd, ok.frames, ok.stk, ok.exf, ok.bs, ok.bsz, ok.noex, ok.exfs, ok.funs, ok.frf⟩
theorem Cx.Ok.unwish {X : Cx} {E : Value → Shared → Prop} (ok : (X.wish E).Ok) : X.Ok :=
  ⟨ok.mod, ok.kind, ok.glob, ok.blt, ok.above, ok.inj, ok.has, ok.cab, ok.hd, ok.frames, ok.stk, ok.exf, ok.bs, ok.bsz, ok.noex, ok.exfs, ok.funs, ok.frf⟩
section
variable {X : Cx} {pins : List (Addr × Obj)} {σ : St} {H : Hp} {s : Shared} {E : Value → Shared → Prop}
theorem Inv.wish (I : Inv X pins σ H s) (E : Value → Shared → Prop) : Inv (X.wish E) pins σ H s := ⟨I.ok.wish E, I.os, I.bare, I.base, I.loc, I.cell, I.free, I.freeC, I.pin, I.hok, I.len⟩
theorem Inv.unwish (I : Inv (X.wish E) pins σ H s) : Inv X pins σ H s := ⟨I.ok.unwish, I.os, I.bare, I.base, I.loc, I.cell, I.free, I.freeC, I.pin, I.hok, I.len⟩
theorem SP.unwish {D : Ends} {f : Flow} {s' : Shared} (h : SP (X.wish E) pins D f s') : SP X pins D f s' := by
  cases f with
  | next => obtain ⟨σ', H', I, q⟩ := h; exact ⟨σ', H', I.unwish, q⟩
  | brk => obtain ⟨σ', H', I, q⟩ := h; exact ⟨σ', H', I.unwish, q⟩
  | cont => obtain ⟨σ', H', I, q⟩ := h; exact ⟨σ', H', I.unwish, q⟩
  | ret u => obtain ⟨v, σ', H', I, r, q⟩ := h; exact ⟨v, σ', H', I.unwish, r, q⟩
theorem PSs.nox {st : List Stmt} {t : TS} (h : PSs X.nox st t) : PSs X st t := fun pins s σ H D I hw =>
  wpAny_mono (h pins s σ H D (I.wish _) hw) (fun _ _ q => q.unwish) fun _ _ z => False.elim z
end

/-! ### blocks and small statements -/
section
variable {X : Cx} {st : Stmt} {rest : List Stmt} {t u : TS} {e : Expr} {te : TE} {pos : Pos}
def tNext : TS := fun D σ H => D.nx σ H
def tSeq (t u : TS) : TS := fun D σ H => t { D with nx := u D } σ H
theorem pss_nil : PSs X [] tNext := fun _ _ σ H _ I h => wpAny_execs_nil ⟨σ, H, I, h⟩
theorem pss_cons (h1 : PS X st t) (h2 : PSs X rest u) : PSs X (st :: rest) (tSeq t u) := by
  intro pins s σ H D I h
  refine wpAny_execs_cons (thn (h1 pins s σ H { D with nx := u D } I h) fun f s1 q => ?_)
  cases f with
  | next =>
    obtain ⟨σ', H', I', q⟩ := q
    exact h2 pins s1 σ' H' D I' q
  | ret v => exact q
  | brk => exact q
  | cont => exact q
theorem pss_one (h1 : PS X st t) : PSs X [st] t := by
  intro pins s σ H D I h
  refine wpAny_execs_cons (thn (h1 pins s σ H D I h) fun f s1 q => ?_)
  cases f with
  | next => exact wpAny_execs_nil q
  | ret v => exact q
  | brk => exact q
  | cont => exact q
def tBreak : TS := fun D σ H => D.bk σ H
def tCont : TS := fun D σ H => D.ct σ H
/-- in a def's body nothing is shown -/
theorem Inv.quiet {pins : List (Addr × Obj)} {σ : St} {H : Hp} {s : Shared} (I : Inv X pins σ H s) : interactive X.env = false := by simp [interactive, I.ok.kind]
/-- an expression whose value is dropped -/
def tDrop (te : TE) : TS := fun D σ H => te σ H fun _ H1 => D.nx σ H1
theorem ps_expr (he : PE X e te) (hs : swapsWith e none pos.line X.env = pure false := by rfl) : PS X (.Expr e pos) (tDrop te) := by
  intro pins s σ H D I h
  exact wpAny_Expr_any (thn (he pins s σ H _ I h) fun v s1 ⟨x, H1, I1, r1, q1⟩ => ⟨σ, H1, I1, q1⟩) I.quiet hs
def tRet (te : TE) : TS := fun D σ H => te σ H D.rt
theorem ps_ret (he : PE X e te) : PS X (.Return (some e) pos) (tRet te) := by
  intro pins s σ H D I h
  exact wpAny_Return_some (thn (he pins s σ H _ I h) fun v s1 ⟨x, H1, I1, r1, q1⟩ => ⟨x, σ, H1, I1, r1, q1⟩)
def tRetN : TS := fun D _ H => D.rt .non H
def tIfS (c : TT) (t u : TS) : TS := fun D σ H => c σ H fun b H1 => if b = true then t D σ H1 else u D σ H1
theorem ps_if {c : Expr} {a b : List Stmt} {tc : TT} (hc : PT X c tc) (ha : PSs X a t) (hb : PSs X b u) : PS X (.If c a b pos) (tIfS tc t u) := by
  intro pins s σ H D I h
  refine wpAny_If (thn (hc pins s σ H _ I h) fun d s1 ⟨H1, I1, q1⟩ => ?_)
  cases d with
  | true => exact ha pins s1 σ H1 D I1 q1
  | false => exact hb pins s1 σ H1 D I1 q1
/-- code that the proof never comes to -/
def tNever : TS := fun _ _ _ => False
end

/-! ### targets -/
abbrev TG := V → St → Hp → (St → Hp → Prop) → Prop
abbrev TGs := List V → St → Hp → (St → Hp → Prop) → Prop
def PG (X : Cx) (target : Expr) (t : TG) : Prop :=
  ∀ (pins : List (Addr × Obj)) (s : Shared) (σ : St) (H : Hp) (v : V) (u : Value) (Q : St → Hp → Prop), Inv X pins σ H s → RelV v u → t v σ H Q →
    wpAny (model X.prog X.w) X.A (assign target X.env u) (fun _ s' => ∃ σ' H', Inv X pins σ' H' s' ∧ Q σ' H') X.xe s
/-- several targets, one after another -/
def PGs (X : Cx) (ts : List Expr) (t : TGs) : Prop :=
  ∀ (pins : List (Addr × Obj)) (s : Shared) (σ : St) (H : Hp) (vs : List V) (us : List Value) (Q : St → Hp → Prop), Inv X pins σ H s → Vals vs us → t vs σ H Q →
    wpAny (model X.prog X.w) X.A (assignInOrder ((assignEach ts X.env).map (·.2)) us) (fun _ s' => ∃ σ' H', Inv X pins σ' H' s' ∧ Q σ' H') X.xe s
/-- o[i] = v, by values -/
abbrev TSet := V → V → V → Hp → (Hp → Prop) → Prop
def PSet (X : Cx) (t : TSet) : Prop :=
  ∀ (pins : List (Addr × Obj)) (s : Shared) (σ : St) (H : Hp) (o i v : V) (ov iv u : Value) (Q : Hp → Prop), Inv X pins σ H s → RelV o ov → RelV i iv → RelV v u → t o i v H Q →
    wpAny (model X.prog X.w) X.A (setItem ov iv u) (fun _ s' => ∃ H', Inv X pins σ H' s' ∧ Q H') X.xe s
/-- a op= b, by values -/
abbrev TIp := V → V → Hp → VK → Prop
def PIp (X : Cx) (op : Operator) (t : TIp) : Prop :=
  ∀ (pins : List (Addr × Obj)) (s : Shared) (σ : St) (H : Hp) (x y : V) (v u : Value) (Q : VK), Inv X pins σ H s → RelV x v → RelV y u → t x y H Q →
    wpAny (model X.prog X.w) X.A (inplaceOp op v u) (EP X pins σ Q) X.xe s
section
variable {X : Cx} {pos : Pos}
def gName (i : Nat) : TG := fun v σ H Q => Q (σ.set i (some v)) H
theorem pg_name {i : Nat} {x : Str} (hN : X.N.Nodup) (hi : X.N[i]? = some x) (hx : Loc X.env.scope x) (hf : X.fn x = true ∨ X.env.scope.names.lookup x = some .local := by first | exact .inl rfl | exact .inr rfl | assumption) : PG X (.Name x pos) (gName i) := by
  intro pins s σ H v u Q I r h
  exact wpAny_assign_Name (store_ok I hN hi hx r (fun s' I' => ⟨_, H, I', h⟩) hf)
def gNil : TGs := fun vs σ H Q => vs = [] ∧ Q σ H
def gCons (t : TG) (u : TGs) : TGs := fun vs σ H Q => ∃ v r, vs = v :: r ∧ t v σ H fun σ' H' => u r σ' H' Q
/-- (a, b, ..) = a tuple of that length -/
def gTup (K : PySem.W.Frag) (n : Nat) (t : TGs) : TG := fun v σ H Q => ∃ a xs, v = .ref a ∧ SqT K H a xs ∧ xs.length = n ∧ t xs σ H Q
/-- o[i] = .. -/
def gSub (to ti : TE) (t : TSet) : TG := fun v σ H Q => to σ H fun o H1 => ti σ H1 fun i H2 => t o i v H2 fun H3 => Q σ H3
theorem pg_sub {o i : Expr} {to ti : TE} {t : TSet} (ho : PE X o to) (hi : PE X i ti) (hs : PSet X t)
    (ha : ∀ v, assign (.Subscript o i pos) X.env v = (do
      let ov ← holding [v] (eval o X.env)
      let iv ← holding [v, ov] (eval i X.env)
      standAt pos
      holding [v, ov, iv] (setItem ov iv v)
      release [v, ov, iv] []) := by intro _; rfl) : PG X (.Subscript o i pos) (gSub to ti t) := by
  intro pins s σ H v u Q I r h
  rw [ha]
  refine wpAny_bind (wpAny_holding (thn (ho pins s σ H _ I h) fun ov s1 ⟨x, H1, I1, r1, q1⟩ => ?_))
  refine wpAny_bind (wpAny_holding (thn (hi pins s1 σ H1 _ I1 q1) fun iv s2 ⟨y, H2, I2, r2, q2⟩ => ?_))
  refine wpAny_bind (wpAny_standAt (wpAny_bind (wpAny_holding (thn (hs pins s2 σ H2 x y v ov iv u _ I2 r1 r2 r q2) fun _ s3 ⟨H3, I3, q3⟩ => ?_))))
  exact wpAny_release ⟨σ, H3, I3, q3⟩
/-- target = value -/
def tAsg (te : TE) (g : TG) : TS := fun D σ H => te σ H fun x H1 => g x σ H1 D.nx
theorem ps_asg {tg e : Expr} {te : TE} {g : TG} (he : PE X e te) (hg : PG X tg g) (hs : swapsWithSole [tg] e pos.line X.env = pure false := by rfl) (hw : swappedStores [tg] e X.env = pure none := by rfl)
    (h1 : (assignEach [tg] X.env).map (·.2) = [assign tg X.env] := by rfl) : PS X (.Assign [tg] e pos) (tAsg te g) := by
  intro pins s σ H D I h
  refine wpAny_Assign_stores (thn (he pins s σ H _ I h) fun v s1 ⟨x, H1, I1, r1, q1⟩ => ?_) hs hw
  rw [h1]
  exact thn (hg pins s1 σ H1 x v _ I1 r1 q1) fun _ s2 q => q
/-- name = value -/
theorem ps_set {i : Nat} {x : Str} {e : Expr} {te : TE} {pos' : Pos} (hN : X.N.Nodup) (hi : X.N[i]? = some x) (hx : Loc X.env.scope x) (he : PE X e te) (hs : swapsWith e (some (.Name x pos')) pos.line X.env = pure false := by rfl) (hf : X.fn x = true ∨ X.env.scope.names.lookup x = some .local := by first | exact .inl rfl | exact .inr rfl | assumption) :
    PS X (.Assign [.Name x pos'] e pos) (tAsg te (gName i)) := by
  intro pins s σ H D I h
  refine wpAny_Assign_Name (thn (he pins s σ H _ I h) fun v s1 ⟨y, H1, I1, r1, q1⟩ => ?_) hs
  exact store_ok I1 hN hi hx r1 (fun s2 I2 => ⟨_, H1, I2, q1⟩) hf
/-- a, b = x, y with plain local names: stored from the right; the pair itself is not tracked (the opening rows as in PyProof/Rows/TupAssign.lean:23) -/
def tPar (i j : Nat) (ta : TA) : TS := fun D σ H => ta σ H fun vs H1 => ∃ v w, vs = [v, w] ∧ D.nx ((σ.set i (some v)).set j (some w)) H1
/-- name op= e -/
def tAug (i : Nat) (te : TE) (ti : TIp) : TS := fun D σ H => ∃ x, σ[i]? = some (some x) ∧ te σ H fun y H1 => ti x y H1 fun z H2 => D.nx (σ.set i (some z)) H2
theorem ps_aug {i : Nat} {x : Str} {e : Expr} {te : TE} {op : Operator} {ti : TIp} {pos' : Pos} (hN : X.N.Nodup) (hi : X.N[i]? = some x) (hx : Loc X.env.scope x) (he : PE X e te) (ho : PIp X op ti) (hf : X.fn x = true ∨ X.env.scope.names.lookup x = some .local := by first | exact .inl rfl | exact .inr rfl | assumption) :
    PS X (.AugAssign (.Name x pos') op e pos) (tAug i te ti) := by
  intro pins s σ H D I h
  obtain ⟨v, e1, h⟩ := h
  obtain ⟨m, hn, hl⟩ := I.loc
  have vis : Vis X.env.scope x := by rcases hx with k | k; exact .inl k; exact .inr (.inl k)
  obtain ⟨u, r, l⟩ := hl i x v hi e1 vis
  refine wpAny_AugAssign_Name ?_
  have go : wpAny (model X.prog X.w) X.A (eval e X.env) (fun w s₂ => wpAny (model X.prog X.w) X.A (inplaceOp op u w) (fun r s₃ => wpAny (model X.prog X.w) X.A (storeName X.env x r) (fun _ => SP X pins D .next) X.xe s₃) X.xe s₂) X.xe s := by
    refine thn (he pins s σ H _ I h) fun w s1 ⟨y, H1, I1, r1, q1⟩ => ?_
    refine thn (ho pins s1 σ H1 v y u w _ I1 r r1 q1) fun z s2 ⟨zv, H2, I2, r2, q2⟩ => ?_
    exact store_ok I2 hN hi hx r2 (fun s3 I3 => ⟨_, H2, I3, q2⟩) hf
  rcases l with ⟨hk, hm⟩ | ⟨hk, c, hc, hcell⟩
  · exact wpAny_loadName_local I.ok.kind hk hn hm go
  · rcases hk with hk | hk
    · exact wpAny_loadName_cell I.ok.kind hk hc hcell go
    · rcases hx with k | k
      · have : X.env.scope.names.lookup x = some .free := hk
        rw [k] at this; cases this
      · have : X.env.scope.names.lookup x = some .free := hk
        rw [k] at this; cases this
/-- o[i] op= e -/
def tAugS (to ti te : TE) (tget : V → V → Hp → VK → Prop) (tip : TIp) (tset : TSet) : TS := fun D σ H => to σ H fun o H1 => ti σ H1 fun i H2 => tget o i H2 fun x H3 => te σ H3 fun y H4 => tip x y H4 fun z H5 => tset o i z H5 fun H6 => D.nx σ H6
/-- o[i], by values -/
def PGet (X : Cx) (t : V → V → Hp → VK → Prop) : Prop :=
  ∀ (pins : List (Addr × Obj)) (s : Shared) (σ : St) (H : Hp) (o i : V) (ov iv : Value) (Q : VK), Inv X pins σ H s → RelV o ov → RelV i iv → t o i H Q →
    wpAny (model X.prog X.w) X.A (getItem ov iv) (EP X pins σ Q) X.xe s
/-- ints -/
def ipI (f : Int → Int → Int) : TIp := fun x y H Q => ∃ i j, x = .int i ∧ y = .int j ∧ Q (.int (f i j)) H
theorem ip_add : PIp X .Add (ipI fun i j => i + j) := by
  intro pins s σ H x y v u Q I r1 r2 h
  obtain ⟨i, j, e1, e2, q⟩ := h
  subst e1; subst e2
  obtain ⟨t, rfl⟩ := r1
  obtain ⟨t', rfl⟩ := r2
  exact iadd_int ⟨.int _, H, I.tok _, ⟨_, rfl⟩, q⟩
end

/-! ### while -/
section
variable {X : Cx} {pos : Pos}
/-- the invariant W with its measure -/
def tWhile (c : TT) (tb : TS) : TS := fun D σ H => ∃ W : Nat → St → Hp → Prop, (∃ m, W m σ H) ∧ ∀ m σ H, W m σ H →
  c σ H fun b H1 => if b = true then ∃ N : St → Hp → Prop, (∀ σ' H', N σ' H' → ∃ m', m' < m ∧ W m' σ' H') ∧ tb { D with nx := N, ct := N, bk := D.nx } σ H1 else D.nx σ H1
theorem ps_while {c : Expr} {body : List Stmt} {tc : TT} {tb : TS} (hp : PassesOwn (model X.prog X.w) X.A X.env X.xe) (hc : PT X c tc) (hb : PSs X body tb) : PS X (.While c body [] pos) (tWhile tc tb) := by
  intro pins s σ H D I h
  obtain ⟨W, ⟨m0, w0⟩, turn⟩ := h
  refine wpAny_While (codeAny_whileLoop (fun n s' => ∃ σ' H', Inv X pins σ' H' s' ∧ W n σ' H') ?_ m0 ⟨σ, H, I, w0⟩)
  rintro n s1 ⟨σ1, H1, I1, w1⟩
  refine wpAny_passesOwn hp (thn (hc pins s1 σ1 H1 _ I1 (turn n σ1 H1 w1)) fun b s2 ⟨H2, I2, q2⟩ => ?_)
  cases b with
  | true =>
    obtain ⟨N, hN, q2⟩ := q2
    rw [if_pos rfl]
    refine wpAny_passesOwn hp (thn (hb pins s2 σ1 H2 _ I2 q2) fun f s3 q3 => ?_)
    cases f with
    | next =>
      obtain ⟨σ3, H3, I3, n3⟩ := q3
      obtain ⟨m', hm, w3⟩ := hN σ3 H3 n3
      exact ⟨m', hm, σ3, H3, I3, w3⟩
    | cont =>
      obtain ⟨σ3, H3, I3, n3⟩ := q3
      obtain ⟨m', hm, w3⟩ := hN σ3 H3 n3
      exact ⟨m', hm, σ3, H3, I3, w3⟩
    | brk => exact q3
    | ret v => exact q3
  | false =>
    rw [if_neg Bool.false_ne_true]
    exact wpAny_execs_nil ⟨σ1, H2, I2, q2⟩
end

/-! ### what a loop or a comprehension walks -/
/-- at turn i: it yields x (the heap may grow), or it stops -/
structure It where
  go : Nat → Hp → Prop
  yld : Nat → Hp → V → Hp → Prop
  stop : Nat → Hp → Prop
/-- the iterator's own objects may turn: they are not the frame's, not pinned, younger than the entry (or a comprehension's own) -/
def FpOk (X : Cx) (pins : List (Addr × Obj)) (H : Hp) (b : Addr) : Prop :=
  H b = none ∧ b ≠ X.env.locals ∧ b ∉ X.fs ∧ (b ∈ X.ex ∨ X.s_0.heap.objs.size ≤ b) ∧ (∀ x c, X.env.cells.lookup x = some c → c ≠ b) ∧ ∀ p ∈ X.pn ++ pins, p.1 ≠ b
theorem Inv.fpOk {X : Cx} {pins : List (Addr × Obj)} {σ : St} {H H' : Hp} {s : Shared} {b : Addr} (I : Inv X pins σ H s) (hb : s.heap.objs.size ≤ b) (hn : H' b = none) : FpOk X pins H' b := by
  refine ⟨hn, Nat.ne_of_gt (Nat.lt_of_lt_of_le I.lt hb), I.nofs hb, .inr (Nat.le_trans I.sz hb), fun x c e z => ?_, fun p hp z => ?_⟩
  · obtain ⟨v, q⟩ := I.cell x c e
    exact absurd (Nat.lt_of_lt_of_le q.lt (by rw [z]; exact hb)) (Nat.lt_irrefl _)
  · exact absurd (Nat.lt_of_lt_of_le (Heap.lt_size (I.pin p hp).1) (by rw [z]; exact hb)) (Nat.lt_irrefl _)
structure Turn (P : Program) (w : World) (K : PySem.W.Frag) (tg : Expr) (J : It) (fp : List Addr) (it : Addr) (tn : Nat → Heap → Prop) : Prop where
  mem : it ∈ fp
  obj : ∀ i h, tn i h → ∀ b ∈ fp, ∃ o, h.get? b = some o ∧ ∀ v, o.data ≠ .cell v
  keep : ∀ i h h', tn i h → (∀ b ∈ fp, ∀ o, h.get? b = some o → h'.get? b = some o) → tn i h'
  item : ∀ (X : Cx), X.prog = P → X.w = w → X.K = K → X.calm = true → ∀ (i : Nat) (pins : List (Addr × Obj)) (s : Shared) (σ : St) (H : Hp) (E : Value → Shared → Prop), Inv X pins σ H s → (∀ b ∈ fp, FpOk X pins H b) → tn i s.heap → J.go i H →
    wpAny (model P w) X.A (pyNext (.ref it)) (fun r s1 => ∃ u, r = some u ∧
      wpAny (model P w) X.A (letOwnedTupleGo tg (.ref it) u) (fun _ s2 => ∃ x H', Inv X pins σ H' s2 ∧ RelV x u ∧ J.yld i H x H' ∧ tn (i + 1) s2.heap ∧ ∀ b ∈ fp, H' b = none) E s1) E s
  done : ∀ (X : Cx), X.prog = P → X.w = w → X.K = K → X.calm = true → ∀ (i : Nat) (pins : List (Addr × Obj)) (s : Shared) (σ : St) (H : Hp) (E : Value → Shared → Prop), Inv X pins σ H s → (∀ b ∈ fp, FpOk X pins H b) → tn i s.heap → J.stop i H →
    wpAny (model P w) X.A (pyNext (.ref it)) (fun r s1 => r = none ∧ Inv X pins σ H s1) E s
  self : ∀ (A : Around) (i : Nat) (s : Shared) (Q : Value → Shared → Prop) (E : Value → Shared → Prop), tn i s.heap → Q (.ref it) s → wpAny (model P w) A (pyIter (.ref it)) Q E s
abbrev TI := St → Hp → (It → Hp → Prop) → Prop
/-- an iterator has come -/
def PIE (X : Cx) (pins : List (Addr × Obj)) (σ : St) (tg : Expr) (R : It → Hp → Prop) (itv : Value) (s2 : Shared) : Prop :=
  ∃ (it : Addr) (fp : List Addr) (tn : Nat → Heap → Prop) (J : It) (H' : Hp), itv = .ref it ∧ Inv X pins σ H' s2 ∧ Turn X.prog X.w X.K tg J fp it tn ∧ tn 0 s2.heap ∧ (∀ b ∈ fp, FpOk X pins H' b) ∧ R J H'
def PI (X : Cx) (tg iter : Expr) (wi : TI) : Prop :=
  ∀ (pins : List (Addr × Obj)) (s : Shared) (σ : St) (H : Hp) (R : It → Hp → Prop), Inv X pins σ H s → wi σ H R →
    wpAny (model X.prog X.w) X.A (eval iter X.env) (fun v s1 => wpAny (model X.prog X.w) X.A (pyIter v) (PIE X pins σ tg R) X.xe s1) X.xe s

/-- the step ahead of the store is nothing for an iterator that keeps no tuple -/
theorem go_of {M : Model} {A : Around} {E : Value → Shared → Prop} {s : Shared} {tg : Expr} {it : Addr} {u : Value} {o : Obj} {n : String} {vs : Array Value} {Q : Unit → Shared → Prop} (ho : s.heap.get? it = some o) (hc : o.cls = .type n) (hd : o.data = .fields vs)
    (hn : ["enumerate", "zip", "dict_itemiterator", "dict_reverseitemiterator", "odict_iterator", "itertools.zip_longest", "itertools.pairwise"].contains n = false) (hQ : Q () s) : wpAny M A (letOwnedTupleGo tg (.ref it) u) Q E s := by
  unfold letOwnedTupleGo
  cases tg <;> first
    | exact wpAny_pure hQ
    | (cases u <;> first
        | exact wpAny_pure hQ
        | (refine wpAny_bind (wpAny_load ho ?_)
           rw [hc, hd]
           show wpAny M A (if (["enumerate", "zip", "dict_itemiterator", "dict_reverseitemiterator", "odict_iterator", "itertools.zip_longest", "itertools.pairwise"].contains n && vs[0]? == some (rawInt _)) = true then _ else _) Q E s
           rw [if_neg (by intro h; rw [hn, Bool.false_and] at h; cases h)]
           exact wpAny_pure hQ))

/-- the list at a, as it stands at each turn (a loop may append to it) -/
def Itl (K : PySem.W.Frag) (a : Addr) : It :=
  ⟨fun i H => ∃ xs x, SqL K H a xs ∧ xs[i]? = some x, fun i H x H' => H' = H ∧ ∀ xs, SqL K H a xs → xs[i]? = some x, fun i H => ∃ xs, SqL K H a xs ∧ xs.length ≤ i⟩
def Itt (K : PySem.W.Frag) (a : Addr) : It :=
  ⟨fun i H => ∃ xs x, SqT K H a xs ∧ xs[i]? = some x, fun i H x H' => H' = H ∧ ∀ xs, SqT K H a xs → xs[i]? = some x, fun i H => ∃ xs, SqT K H a xs ∧ xs.length ≤ i⟩
/-- lo, lo + 1, .. (n of them) -/
def Itr (lo : Int) (n : Nat) : It := ⟨fun i _ => i < n, fun i H x H' => H' = H ∧ x = .int (lo + i), fun i _ => n ≤ i⟩
theorem turn_list {P : Program} {w : World} {K : PySem.W.Frag} {tg : Expr} (a it : Addr) : Turn P w K tg (Itl K a) [it] it (fun i h => h.IsListIter it a i) where
  mem := by simp
  obj := fun i h st b hb => by
    have e : b = it := by simpa using hb
    subst e
    obtain ⟨o, e, c, d⟩ := st
    exact ⟨o, e, fun v z => by rw [d] at z; cases z⟩
  keep := fun i h h' st k => st.at fun o e => k it (by simp) o e
  item := by
    intro X hP hw hK hc i pins s σ H E I hf st hg
    subst hP hw hK
    obtain ⟨xs, x, hq, hx⟩ := hg
    obtain ⟨its, rv, p, hz⟩ := I.list hq
    obtain ⟨u, hu, ru⟩ := rv.get hx
    obtain ⟨f0, f1, f2, f3, f4, f5⟩ := hf it (by simp)
    refine wpAny_pyNext_list_item st p.isList (x := u) (by simpa using hu) fun h' st' sb => ?_
    have I1 : Inv X pins σ H { s with heap := h' } := I.turned (t' := s.toks) (fun b o hb e => (sb.2 b hb).trans e) f0 f1 f3 f4 f5
    obtain ⟨o, e, c, d⟩ := id st'
    exact ⟨u, rfl, go_of (s := { s with heap := h' }) e c d (by decide) ⟨x, H, I1, ru, ⟨rfl, fun ys hy => by rw [I.list_inj hy hq]; exact hx⟩, st', fun b hb => (hf b hb).1⟩⟩
  done := by
    intro X hP hw hK hc i pins s σ H E I hf st hg
    subst hP hw hK
    obtain ⟨xs, hq, hx⟩ := hg
    obtain ⟨its, rv, p, hz⟩ := I.list hq
    obtain ⟨f0, f1, f2, f3, f4, f5⟩ := hf it (by simp)
    have hl := rv.length
    exact wpAny_pyNext_list_end (I.ok.hd hc) st p.isList (by simp; omega) fun h' eb => ⟨rfl, I.turned (t' := s.toks) (fun b o hb e => eb b o hb e) f0 f1 f3 f4 f5⟩
  self := fun _ _ _ _ _ st h => wpAny_pyIter_listiter st h
theorem turn_tuple {P : Program} {w : World} {K : PySem.W.Frag} {tg : Expr} (a it : Addr) : Turn P w K tg (Itt K a) [it] it (fun i h => h.IsTupleIter it a i) where
  mem := by simp
  obj := fun i h st b hb => by
    have e : b = it := by simpa using hb
    subst e
    obtain ⟨o, e, c, d⟩ := st
    exact ⟨o, e, fun v z => by rw [d] at z; cases z⟩
  keep := fun i h h' st k => st.at fun o e => k it (by simp) o e
  item := by
    intro X hP hw hK hc i pins s σ H E I hf st hg
    subst hP hw hK
    obtain ⟨xs, x, hq, hx⟩ := hg
    obtain ⟨its, rv, p, hz⟩ := I.tuple hq
    obtain ⟨u, hu, ru⟩ := rv.get hx
    obtain ⟨f0, f1, f2, f3, f4, f5⟩ := hf it (by simp)
    refine wpAny_pyNext_tuple_item st (show s.heap.IsTuple a its.toArray from p) (x := u) (by simpa using hu) fun h' st' sb => ?_
    have I1 : Inv X pins σ H { s with heap := h' } := I.turned (t' := s.toks) (fun b o hb e => (sb.2 b hb).trans e) f0 f1 f3 f4 f5
    obtain ⟨o, e, c, d⟩ := id st'
    exact ⟨u, rfl, go_of (s := { s with heap := h' }) e c d (by decide) ⟨x, H, I1, ru, ⟨rfl, fun ys hy => by rw [I.tuple_inj hy hq]; exact hx⟩, st', fun b hb => (hf b hb).1⟩⟩
  done := by
    intro X hP hw hK hc i pins s σ H E I hf st hg
    subst hP hw hK
    obtain ⟨xs, hq, hx⟩ := hg
    obtain ⟨its, rv, p, hz⟩ := I.tuple hq
    obtain ⟨f0, f1, f2, f3, f4, f5⟩ := hf it (by simp)
    have hl := rv.length
    exact wpAny_pyNext_tuple_end (I.ok.hd hc) st (show s.heap.IsTuple a its.toArray from p) (by simp; omega) fun h' eb => ⟨rfl, I.turned (t' := s.toks) (fun b o hb e => eb b o hb e) f0 f1 f3 f4 f5⟩
  self := fun _ _ _ _ _ st h => wpAny_pyIter_tupleiter st h
theorem turn_range {P : Program} {w : World} {K : PySem.W.Frag} {tg : Expr} (it : Addr) (lo : Int) (n : Nat) : Turn P w K tg (Itr lo n) [it] it (fun i h => IsRangeIter h it (lo + (i : Nat) * 1) ((n : Int) - (i : Nat)) 1) where
  mem := by simp
  obj := fun i h st b hb => by
    have e : b = it := by simpa using hb
    subst e
    exact ⟨_, st, fun v z => by
      have z' : Data.fields _ = Data.cell v := z
      cases z'⟩
  keep := fun i h h' st k => k it (by simp) _ st
  item := by
    intro X hP hw hK hc i pins s σ H E I hf st hg
    subst hP hw hK
    obtain ⟨f0, f1, f2, f3, f4, f5⟩ := hf it (by simp)
    have W := Walks.range (prog := X.prog) (w := X.w) (I.ok.hd hc) it lo 1 n
    refine W.item i s _ _ hg st fun v h' tk hv st' kk => ?_
    obtain ⟨t, rfl⟩ := hv
    have I1 : Inv X pins σ H { s with heap := h', toks := tk } := I.turned (fun b o hb e => kk b o (by simpa using hb) e) f0 f1 f3 f4 f5
    refine ⟨_, rfl, go_of (s := { s with heap := h', toks := tk }) (n := "range_iterator") st' rfl rfl (by decide) ⟨.int (lo + i), H, I1, ⟨t, ?_⟩, ⟨rfl, rfl⟩, st', fun b hb => (hf b hb).1⟩⟩
    rw [Int.mul_one]
  done := by
    intro X hP hw hK hc i pins s σ H E I hf st hg
    subst hP hw hK
    obtain ⟨f0, f1, f2, f3, f4, f5⟩ := hf it (by simp)
    exact wpAny_pyNext_range_end (I.ok.hd hc) st (by have : n ≤ i := hg; omega) fun h' eb => ⟨rfl, I.turned (t' := s.toks) (fun b o hb e => eb b o hb e) f0 f1 f3 f4 f5⟩
  self := fun _ _ _ _ _ st h => wpAny_pyIter_rangeiter st h
end L2

namespace L2
open PySem PySem.Spec PyProof.Rows
section
variable {X : Cx} {tg : Expr}
def iList (K : PySem.W.Frag) (tl : TE) : TI := fun σ H R => tl σ H fun x H1 => ∃ a, x = .ref a ∧ (∃ xs, SqL K H1 a xs) ∧ R (Itl K a) H1
def iTup (K : PySem.W.Frag) (tl : TE) : TI := fun σ H R => tl σ H fun x H1 => ∃ a, x = .ref a ∧ (∃ xs, SqT K H1 a xs) ∧ R (Itt K a) H1
theorem pi_list {l : Expr} {tl : TE} (hl : PE X l tl) : PI X tg l (iList X.K tl) := by
  intro pins s σ H R I h
  refine thn (hl pins s σ H _ I h) fun v s1 ⟨x, H1, I1, r1, q1⟩ => ?_
  obtain ⟨a, e, ⟨xs, hq⟩, q⟩ := q1
  subst e
  cases r1
  obtain ⟨its, rv, p, hz⟩ := I1.list hq
  refine wpAny_pyIter_list p.isList ?_
  refine ⟨s1.heap.objs.size, [s1.heap.objs.size], _, _, H1, rfl, I1.kept (t' := s1.toks) fun b o e => Heap.get?_push_of_some _ e, turn_list a _, ⟨_, Heap.get?_push_size _ rfl, rfl, rfl⟩, fun b hb => ?_, q⟩
  have e : b = s1.heap.objs.size := by simpa using hb
  subst e
  exact I1.fpOk (Nat.le_refl _) (I1.hok.fresh (Nat.le_refl _))
theorem pi_tup {l : Expr} {tl : TE} (hl : PE X l tl) : PI X tg l (iTup X.K tl) := by
  intro pins s σ H R I h
  refine thn (hl pins s σ H _ I h) fun v s1 ⟨x, H1, I1, r1, q1⟩ => ?_
  obtain ⟨a, e, ⟨xs, hq⟩, q⟩ := q1
  subst e
  cases r1
  obtain ⟨its, rv, p, hz⟩ := I1.tuple hq
  refine wpAny_pyIter_tuple (show s1.heap.IsTuple a its.toArray from p) ?_
  refine ⟨s1.heap.objs.size, [s1.heap.objs.size], _, _, H1, rfl, I1.kept (t' := s1.toks) fun b o e => Heap.get?_push_of_some _ e, turn_tuple a _, ⟨_, Heap.get?_push_size _ rfl, rfl, rfl⟩, fun b hb => ?_, q⟩
  have e : b = s1.heap.objs.size := by simpa using hb
  subst e
  exact I1.fpOk (Nat.le_refl _) (I1.hok.fresh (Nat.le_refl _))
/-- a range object just made, walked -/
theorem range_it {pins : List (Addr × Obj)} {σ : St} {H : Hp} {s : Shared} {R : It → Hp → Prop} {E : Value → Shared → Prop} {lo hi : Int} {t u v : Tok} {tk : Nat} (I : Inv X pins σ H s) (h1 : -(2 ^ 62) ≤ lo) (h2 : lo < 2 ^ 62) (h3 : -(2 ^ 62) ≤ hi) (h4 : hi < 2 ^ 62)
    (q : R (Itr lo (hi - lo).toNat) H) : wpAny (model X.prog X.w) X.A (pyIter (.ref s.heap.objs.size)) (PIE X pins σ tg R) E { s with heap := s.heap.push { cls := .type "range", data := .fields #[.int lo t, .int hi u, .int 1 v] }, toks := tk } := by
  refine wpAny_pyIter_range (IsRange.new ..) (small_one h1 h2 h3 h4) ?_
  have I1 : Inv X pins σ H { s with heap := s.heap.push { cls := .type "range", data := .fields #[.int lo t, .int hi u, .int 1 v] }, toks := tk } := I.kept fun b o e => Heap.get?_push_of_some _ e
  refine ⟨(s.heap.push { cls := .type "range", data := .fields #[.int lo t, .int hi u, .int 1 v] }).objs.size, [(s.heap.push { cls := .type "range", data := .fields #[.int lo t, .int hi u, .int 1 v] }).objs.size], _, _, H, rfl,
    I1.kept (t' := tk) fun b o e => Heap.get?_push_of_some _ e, turn_range _ lo (hi - lo).toNat, ?_, fun b hb => ?_, q⟩
  · have e1 : lo + ((0 : Nat) : Int) * 1 = lo := by simp
    have e2 : (((hi - lo).toNat : Nat) : Int) - ((0 : Nat) : Int) = Builtin.Range.rangeSize lo hi 1 := by rw [rangeSize_one]; split <;> omega
    show IsRangeIter _ _ (lo + ((0 : Nat) : Int) * 1) ((((hi - lo).toNat : Nat) : Int) - ((0 : Nat) : Int)) 1
    rw [e1, e2]
    exact Heap.get?_push_size _ rfl
  · have e : b = (s.heap.push { cls := .type "range", data := .fields #[.int lo t, .int hi u, .int 1 v] }).objs.size := by simpa using hb
    subst e
    exact I1.fpOk (Nat.le_refl _) (I1.hok.fresh (Nat.le_refl _))
def iRng1 (ta : TA) : TI := fun σ H R => ta σ H fun vs H1 => ∃ j : Int, vs = [.int j] ∧ -(2 ^ 62) ≤ j ∧ j < 2 ^ 62 ∧ R (Itr 0 j.toNat) H1
def iRng2 (ta : TA) : TI := fun σ H R => ta σ H fun vs H1 => ∃ i j : Int, vs = [.int i, .int j] ∧ (-(2 ^ 62) ≤ i ∧ i < 2 ^ 62 ∧ -(2 ^ 62) ≤ j ∧ j < 2 ^ 62) ∧ R (Itr i (j - i).toNat) H1
theorem pi_range1 {a : Expr} {ta : TA} {p pos : Pos} (hg : Gl X "range") (hm : X.mg "range" = none) (ha : PA X [a] ta) (hs : starEach [a] X.env = [(false, eval a X.env)] := by rfl) : PI X tg (.Call (.Name "range" p) [a] [] pos) (iRng1 ta) := by
  intro pins s σ H R I h
  refine Call_ (ld_blt I hg hm boot_range (PyProof.Rows.callWith_type1 (thn (ha pos pins s σ H _ I h) fun us s1 ⟨vs, H1, I1, r1, q1⟩ => ?_) hs rfl))
  obtain ⟨j, e, q1, q2, q⟩ := q1
  subst e
  cases r1 with
  | cons r rr =>
    cases rr
    obtain ⟨t, rfl⟩ := r
    exact call_range_1 (range_it I1 (by omega) (by omega) q1 q2 (by simpa using q))
/-! ### for -/
/-- W: the invariant by the turn and a measure; N: what the body is to reach -/
def tFor (wi : TI) (g : TG) (tb : TS) : TS := fun D σ H => wi σ H fun J H1 => ∃ W : Nat → Nat → St → Hp → Prop, (∃ m, W 0 m σ H1) ∧ ∀ i m σ H, W i m σ H →
  (J.stop i H ∧ D.nx σ H) ∨ (J.go i H ∧ ∃ N : St → Hp → Prop, (∀ σ' H', N σ' H' → ∃ m', m' < m ∧ W (i + 1) m' σ' H') ∧ ∀ x H', J.yld i H x H' → g x σ H' fun σ2 H2 => tb { D with nx := N, ct := N, bk := D.nx } σ2 H2)
/-- the records at fp as they stand -/
def pinsAt (fp : List Addr) (h : Heap) : List (Addr × Obj) := fp.filterMap fun b => (h.get? b).map fun o => (b, o)
theorem mem_pinsAt {fp : List Addr} {h : Heap} {b : Addr} {o : Obj} (hb : b ∈ fp) (e : h.get? b = some o) : (b, o) ∈ pinsAt fp h := List.mem_filterMap.mpr ⟨b, hb, by rw [e]; rfl⟩
theorem of_pinsAt {fp : List Addr} {h : Heap} {p : Addr × Obj} (hp : p ∈ pinsAt fp h) : p.1 ∈ fp ∧ h.get? p.1 = some p.2 := by
  obtain ⟨b, hb, e⟩ := List.mem_filterMap.mp hp
  cases q : h.get? b with
  | none => rw [q] at e; cases e
  | some o =>
    rw [q] at e
    have e' : (b, o) = p := Option.some.inj e
    subst e'
    exact ⟨hb, q⟩
theorem Inv.pinned {pins : List (Addr × Obj)} {σ : St} {H : Hp} {s : Shared} {fp : List Addr} (I : Inv X pins σ H s) (hf : ∀ b ∈ fp, FpOk X pins H b) (ho : ∀ b ∈ fp, ∃ o, s.heap.get? b = some o ∧ ∀ v, o.data ≠ .cell v) : Inv X (pins ++ pinsAt fp s.heap) σ H s :=
  I.pins_of fun p hp => (List.mem_append.mp hp).elim (fun z => I.pin p (List.mem_append_right _ z)) fun z => by
    obtain ⟨hb, e⟩ := of_pinsAt z
    obtain ⟨f0, f1, f2, _⟩ := hf p.1 hb
    obtain ⟨o, e', d⟩ := ho p.1 hb
    rw [e] at e'; cases e'
    exact ⟨e, f0, f1, f2, d⟩
theorem Inv.unpinned {pins pl : List (Addr × Obj)} {σ : St} {H : Hp} {s : Shared} (I : Inv X (pins ++ pl) σ H s) : Inv X pins σ H s := I.pins_of fun p hp => I.pin p (List.mem_append_right _ (List.mem_append_left _ hp))
theorem ps_for {iter : Expr} {body : List Stmt} {wi : TI} {g : TG} {tb : TS} {pos : Pos} (hp : PassesOwn (model X.prog X.w) X.A X.env X.xe) (hc : X.calm = true) (hi : PI X tg iter wi) (hg : PG X tg g) (hb : PSs X body tb)
    (hs : ∀ x, foldedSetIterable iter X.env x = pure x := by intro _; rfl) : PS X (.For tg iter body [] pos) (tFor wi g tb) := by
  intro pins s σ H D I h
  refine wpAny_For (thn (hi pins s σ H _ I h) fun v s1 h1 => thn h1 fun itv s2 h2 => ?_) hs
  obtain ⟨it, fp, tn, J, H2, e, I2, T, st2, f2, W, ⟨m0, w0⟩, turn⟩ := h2
  subst e
  -- what stays true of the iterator's objects through the loop
  have stat : ∀ {H' : Hp}, (∀ b ∈ fp, H' b = none) → ∀ b ∈ fp, FpOk X pins H' b := fun hn b hb => ⟨hn b hb, (f2 b hb).2⟩
  refine codeAny_forLoop_any (fun n s' => ∃ i σ' H', Inv X pins σ' H' s' ∧ tn i s'.heap ∧ (∀ b ∈ fp, H' b = none) ∧ W i n σ' H') ?_ m0 ⟨0, σ, H2, I2, st2, fun b hb => (f2 b hb).1, w0⟩
  rintro n s3 ⟨i, σ3, H3, I3, st3, fr3, w3⟩
  rcases turn i n σ3 H3 w3 with ⟨stop, qn⟩ | ⟨go, N, hN, step⟩
  · refine wpAny_passesOwn hp (thn (T.done X rfl rfl rfl hc i pins s3 σ3 H3 X.xe I3 (stat fr3) st3 stop) fun r s4 ⟨hr, I4⟩ => ?_)
    subst hr
    exact wpAny_execs_nil ⟨σ3, H3, I4, qn⟩
  · refine wpAny_passesOwn hp (thn (T.item X rfl rfl rfl hc i pins s3 σ3 H3 X.xe I3 (stat fr3) st3 go) fun r s4 ⟨u, hr, h4⟩ => ?_)
    subst hr
    refine wpAny_passesOwn hp (thn h4 fun _ s5 ⟨x, H5, I5, r5, y5, st5, fr5⟩ => ?_)
    have I5' := I5.pinned (stat fr5) (T.obj _ _ st5)
    refine wpAny_passesOwn hp (thn (hg _ s5 σ3 H5 x u _ I5' r5 (step x H5 y5)) fun _ s6 ⟨σ6, H6, I6, q6⟩ => ?_)
    refine wpAny_passesOwn hp (thn (hb _ s6 σ6 H6 _ I6 q6) fun f s7 q7 => ?_)
    have again : ∀ {σ7 : St} {H7 : Hp}, Inv X (pins ++ pinsAt fp s5.heap) σ7 H7 s7 → N σ7 H7 → ∃ m, m < n ∧ ∃ i σ' H', Inv X pins σ' H' s7 ∧ tn i s7.heap ∧ (∀ b ∈ fp, H' b = none) ∧ W i m σ' H' := fun {σ7 H7} I7 n7 => by
      obtain ⟨m', hm, w7⟩ := hN σ7 H7 n7
      refine ⟨m', hm, i + 1, σ7, H7, I7.unpinned, T.keep _ _ _ st5 fun b hb o e => (I7.pin (b, o) (List.mem_append_right _ (List.mem_append_right _ (mem_pinsAt hb e)))).1, fun b hb => ?_, w7⟩
      obtain ⟨o, e, d⟩ := T.obj _ _ st5 b hb
      exact (I7.pin (b, o) (List.mem_append_right _ (List.mem_append_right _ (mem_pinsAt hb e)))).2.1
    cases f with
    | next => obtain ⟨σ7, H7, I7, n7⟩ := q7; exact again I7 n7
    | cont => obtain ⟨σ7, H7, I7, n7⟩ := q7; exact again I7 n7
    | brk => obtain ⟨σ7, H7, I7, q7⟩ := q7; exact ⟨σ7, H7, I7.unpinned, q7⟩
    | ret v => obtain ⟨x7, σ7, H7, I7, r7, q7⟩ := q7; exact ⟨x7, σ7, H7, I7.unpinned, r7, q7⟩
end

/-! ### the forms one uses -/
/-- over a list that the body leaves as it is -/
theorem for_list {K : PySem.W.Frag} {a : Addr} {xs : List V} {g : TG} {tb : TS} {D : Ends} {σ : St} {H : Hp} (Pv : Nat → St → Hp → Prop) (h0 : Pv 0 σ H) (hl : ∀ i σ H, i ≤ xs.length → Pv i σ H → SqL K H a xs)
    (hs : ∀ i x σ H, xs[i]? = some x → Pv i σ H → g x σ H fun σ2 H2 => tb { D with nx := Pv (i + 1), ct := Pv (i + 1), bk := D.nx } σ2 H2) (hd : ∀ σ H, Pv xs.length σ H → D.nx σ H) :
    ∃ W : Nat → Nat → St → Hp → Prop, (∃ m, W 0 m σ H) ∧ ∀ i m σ H, W i m σ H →
      ((Itl K a).stop i H ∧ D.nx σ H) ∨ ((Itl K a).go i H ∧ ∃ N : St → Hp → Prop, (∀ σ' H', N σ' H' → ∃ m', m' < m ∧ W (i + 1) m' σ' H') ∧ ∀ x H', (Itl K a).yld i H x H' → g x σ H' fun σ2 H2 => tb { D with nx := N, ct := N, bk := D.nx } σ2 H2) := by
  refine ⟨fun i m σ H => m = xs.length - i ∧ i ≤ xs.length ∧ Pv i σ H, ⟨xs.length, by simp, Nat.zero_le _, h0⟩, ?_⟩
  rintro i m σ H ⟨rfl, hi, p⟩
  have q := hl i σ H hi p
  by_cases hlt : i < xs.length
  · refine .inr ⟨⟨xs, xs[i], q, by simp [hlt]⟩, Pv (i + 1), fun σ' H' p' => ⟨xs.length - (i + 1), by omega, rfl, hlt, p'⟩, fun x H' y => ?_⟩
    obtain ⟨e, y⟩ := y
    subst e
    exact hs i x σ _ (y xs q) p
  · have e : i = xs.length := by omega
    subst e
    exact .inl ⟨⟨xs, q, Nat.le_refl _⟩, hd σ H p⟩
theorem for_tup {K : PySem.W.Frag} {a : Addr} {xs : List V} {g : TG} {tb : TS} {D : Ends} {σ : St} {H : Hp} (Pv : Nat → St → Hp → Prop) (h0 : Pv 0 σ H) (hl : ∀ i σ H, i ≤ xs.length → Pv i σ H → SqT K H a xs)
    (hs : ∀ i x σ H, xs[i]? = some x → Pv i σ H → g x σ H fun σ2 H2 => tb { D with nx := Pv (i + 1), ct := Pv (i + 1), bk := D.nx } σ2 H2) (hd : ∀ σ H, Pv xs.length σ H → D.nx σ H) :
    ∃ W : Nat → Nat → St → Hp → Prop, (∃ m, W 0 m σ H) ∧ ∀ i m σ H, W i m σ H →
      ((Itt K a).stop i H ∧ D.nx σ H) ∨ ((Itt K a).go i H ∧ ∃ N : St → Hp → Prop, (∀ σ' H', N σ' H' → ∃ m', m' < m ∧ W (i + 1) m' σ' H') ∧ ∀ x H', (Itt K a).yld i H x H' → g x σ H' fun σ2 H2 => tb { D with nx := N, ct := N, bk := D.nx } σ2 H2) := by
  refine ⟨fun i m σ H => m = xs.length - i ∧ i ≤ xs.length ∧ Pv i σ H, ⟨xs.length, by simp, Nat.zero_le _, h0⟩, ?_⟩
  rintro i m σ H ⟨rfl, hi, p⟩
  have q := hl i σ H hi p
  by_cases hlt : i < xs.length
  · refine .inr ⟨⟨xs, xs[i], q, by simp [hlt]⟩, Pv (i + 1), fun σ' H' p' => ⟨xs.length - (i + 1), by omega, rfl, hlt, p'⟩, fun x H' y => ?_⟩
    obtain ⟨e, y⟩ := y
    subst e
    exact hs i x σ _ (y xs q) p
  · have e : i = xs.length := by omega
    subst e
    exact .inl ⟨⟨xs, q, Nat.le_refl _⟩, hd σ H p⟩
theorem for_range {lo : Int} {n : Nat} {g : TG} {tb : TS} {D : Ends} {σ : St} {H : Hp} (Pv : Nat → St → Hp → Prop) (h0 : Pv 0 σ H)
    (hs : ∀ i σ H, i < n → Pv i σ H → g (.int (lo + i)) σ H fun σ2 H2 => tb { D with nx := Pv (i + 1), ct := Pv (i + 1), bk := D.nx } σ2 H2) (hd : ∀ σ H, Pv n σ H → D.nx σ H) :
    ∃ W : Nat → Nat → St → Hp → Prop, (∃ m, W 0 m σ H) ∧ ∀ i m σ H, W i m σ H →
      ((Itr lo n).stop i H ∧ D.nx σ H) ∨ ((Itr lo n).go i H ∧ ∃ N : St → Hp → Prop, (∀ σ' H', N σ' H' → ∃ m', m' < m ∧ W (i + 1) m' σ' H') ∧ ∀ x H', (Itr lo n).yld i H x H' → g x σ H' fun σ2 H2 => tb { D with nx := N, ct := N, bk := D.nx } σ2 H2) := by
  refine ⟨fun i m σ H => m = n - i ∧ i ≤ n ∧ Pv i σ H, ⟨n, by simp, Nat.zero_le _, h0⟩, ?_⟩
  rintro i m σ H ⟨rfl, hi, p⟩
  by_cases hlt : i < n
  · refine .inr ⟨hlt, Pv (i + 1), fun σ' H' p' => ⟨n - (i + 1), by omega, rfl, hlt, p'⟩, fun x H' y => ?_⟩
    obtain ⟨e, y⟩ := y
    subst e y
    exact hs i σ _ hlt p
  · have e : i = n := by omega
    subst e
    exact .inl ⟨Nat.le_refl _, hd σ H p⟩
/-- while, by a word and a measure of the state -/
theorem while_by {c : TT} {tb : TS} {D : Ends} {σ : St} {H : Hp} (Pv : St → Hp → Prop) (μ : St → Hp → Nat) (h0 : Pv σ H)
    (hs : ∀ σ H, Pv σ H → c σ H fun b H1 => if b = true then tb { D with nx := fun σ' H' => Pv σ' H' ∧ μ σ' H' < μ σ H, ct := fun σ' H' => Pv σ' H' ∧ μ σ' H' < μ σ H, bk := D.nx } σ H1 else D.nx σ H1)
    (mono : ∀ σ H Q Q', (∀ b H1, Q b H1 → Q' b H1) → c σ H Q → c σ H Q') : tWhile c tb D σ H := by
  refine ⟨fun m σ H => m = μ σ H ∧ Pv σ H, ⟨_, rfl, h0⟩, ?_⟩
  rintro m σ H ⟨rfl, p⟩
  refine mono σ H _ _ (fun b H1 q => ?_) (hs σ H p)
  cases b with
  | true => exact ⟨_, fun σ' H' ⟨p', l⟩ => ⟨_, l, rfl, p'⟩, q⟩
  | false => exact q
end L2

namespace L2
open PySem PySem.Spec PyProof.Rows

abbrev R2 := V → V → Hp → VK → Prop
/-- a two-place operation on values: f is binaryOp op, inplaceOp op or compareOp op -/
def OpR (X : Cx) (f : Value → Value → Sem Value) (r : R2) : Prop :=
  ∀ (pins : List (Addr × Obj)) (s : Shared) (σ : St) (H : Hp) (x y : V) (v u : Value) (Q : VK), Inv X pins σ H s → RelV x v → RelV y u → r x y H Q →
    wpAny (model X.prog X.w) X.A (f v u) (EP X pins σ Q) X.xe s
/-- a one-place operation -/
def UnR (X : Cx) (f : Value → Sem Value) (r : V → Hp → VK → Prop) : Prop :=
  ∀ (pins : List (Addr × Obj)) (s : Shared) (σ : St) (H : Hp) (x : V) (v : Value) (Q : VK), Inv X pins σ H s → RelV x v → r x H Q →
    wpAny (model X.prog X.w) X.A (f v) (EP X pins σ Q) X.xe s
/-- a call of a value that is known (a builtin, a type) with values -/
def CallR (X : Cx) (f : Value) (r : List V → Hp → VK → Prop) : Prop :=
  ∀ (pins : List (Addr × Obj)) (s : Shared) (σ : St) (H : Hp) (xs : List V) (us : List Value) (Q : VK), Inv X pins σ H s → Vals xs us → r xs H Q →
    wpAny (model X.prog X.w) X.A (call f us) (EP X pins σ Q) X.xe s
/-- a value's truth -/
def TruR (X : Cx) (r : V → Hp → (Bool → Hp → Prop) → Prop) : Prop :=
  ∀ (pins : List (Addr × Obj)) (s : Shared) (σ : St) (H : Hp) (x : V) (v : Value) (Q : Bool → Hp → Prop), Inv X pins σ H s → RelV x v → r x H Q →
    wpAny (model X.prog X.w) X.A (truthy v) (TP X pins σ Q) X.xe s

def tOp (r : R2) (ta tb : TE) : TE := fun σ H Q => ta σ H fun x H1 => tb σ H1 fun y H2 => r x y H2 Q
def tUn (r : V → Hp → VK → Prop) (ta : TE) : TE := fun σ H Q => ta σ H fun x H1 => r x H1 Q
/-- ints in, under C, and a value out -/
def rI (C : Int → Int → Prop) (g : Int → Int → V) : R2 := fun x y H Q => ∃ i j, x = .int i ∧ y = .int j ∧ C i j ∧ Q (g i j) H
def rI0 (g : Int → Int → V) : R2 := fun x y H Q => ∃ i j, x = .int i ∧ y = .int j ∧ Q (g i j) H
def rU (g : Int → V) : V → Hp → VK → Prop := fun x H Q => ∃ i, x = .int i ∧ Q (g i) H

section
variable {X : Cx} {a b c : Expr} {ta tb tc : TE} {pos : Pos}

theorem binT (ha : PE X a ta) (hb : PE X b tb) {pins : List (Addr × Obj)} {s : Shared} {σ : St} {H : Hp} {R : V → V → Hp → Prop} (I : Inv X pins σ H s)
    (h : ta σ H fun x H1 => tb σ H1 fun y H2 => R x y H2) {Q : Value → Shared → Prop} {f : Value → Value → Sem Value}
    (hf : ∀ v u s2 x y H2, Inv X pins σ H2 s2 → RelV x v → RelV y u → R x y H2 → wpAny (model X.prog X.w) X.A (f v u) Q X.xe s2) :
    wpAny (model X.prog X.w) X.A (eval a X.env) (fun v s₁ => wpAny (model X.prog X.w) X.A (eval b X.env) (fun u s₂ => wpAny (model X.prog X.w) X.A (f v u) Q X.xe s₂) X.xe s₁) X.xe s := by
  refine thn (ha pins s σ H _ I h) fun v s1 ⟨x, H1, I1, r1, q1⟩ => ?_
  refine thn (hb pins s1 σ H1 _ I1 q1) fun u s2 ⟨y, H2, I2, r2, q2⟩ => ?_
  exact hf v u s2 x y H2 I2 r1 r2 q2

theorem pe_op {op : Operator} {r : R2} (ho : OpR X (binaryOp op) r) (ha : PE X a ta) (hb : PE X b tb) : PE X (.BinOp a op b pos) (tOp r ta tb) := by
  intro pins s σ H Q I h
  exact wpAny_BinOp (binT ha hb I h fun v u s2 x y H2 I2 rx ry q => ho pins s2 σ H2 x y v u Q I2 rx ry q)
/-! ### ints -/
theorem opI0 {f : Value → Value → Sem Value} {g : Int → Int → Int}
    (rule : ∀ (i j : Int) (t u : Tok) (s : Shared) (Q : Value → Shared → Prop) (E : Value → Shared → Prop), Q (.int (g i j) s.toks) { s with toks := s.toks + 1 } → wpAny (model X.prog X.w) X.A (f (.int i t) (.int j u)) Q E s) :
    OpR X f (rI0 fun i j => .int (g i j)) := by
  intro pins s σ H x y v u Q I rx ry h
  obtain ⟨i, j, rfl, rfl, q⟩ := h
  obtain ⟨t, rfl⟩ := rx
  obtain ⟨t', rfl⟩ := ry
  exact rule i j t t' s _ _ ⟨.int (g i j), H, I.tok _, ⟨_, rfl⟩, q⟩
theorem opB0 {f : Value → Value → Sem Value} {g : Int → Int → Bool}
    (rule : ∀ (i j : Int) (t u : Tok) (s : Shared) (Q : Value → Shared → Prop) (E : Value → Shared → Prop), Q (.bool (g i j)) s → wpAny (model X.prog X.w) X.A (f (.int i t) (.int j u)) Q E s) :
    OpR X f (rI0 fun i j => .bl (g i j)) := by
  intro pins s σ H x y v u Q I rx ry h
  obtain ⟨i, j, rfl, rfl, q⟩ := h
  obtain ⟨t, rfl⟩ := rx
  obtain ⟨t', rfl⟩ := ry
  exact rule i j t t' s _ _ ⟨.bl (g i j), H, I, rfl, q⟩

def CDiv (i j : Int) : Prop := 0 < j ∧ j < 1073741824
def CDivN (i j : Int) : Prop := j ≠ 0 ∧ j.natAbs < 1073741824
def CPow (i j : Int) : Prop := 0 ≤ j ∧ j ≤ 1000000 ∧ i.natAbs < 2 ^ 64
def CMul (i j : Int) : Prop := (-(2 ^ 64) < i ∧ i < 2 ^ 64) ∨ (-(2 ^ 64) < j ∧ j < 2 ^ 64)
theorem op_add : OpR X (binaryOp .Add) (rI0 fun i j => .int (i + j)) := opI0 fun _ _ _ _ _ _ _ q => add_int q
/-! ### bools among ints: n += (a < b) -/
end

/-! ### comparisons -/
/-- the scalars that == tells apart as data does -/
def scal : V → V → Bool
  | .non, .non => true | .non, .int _ => true | .int _, .non => true | .non, .bl _ => true | .bl _, .non => true | .non, .str _ => true | .str _, .non => true
  | .int _, .int _ => true | .bl _, .bl _ => true | .str _, .str _ => true | .byt _, .byt _ => true
  | .int _, .str _ => true | .str _, .int _ => true | .bl _, .str _ => true | .str _, .bl _ => true
  | _, _ => false
def rEq : R2 := fun x y H Q => scal x y = true ∧ Q (.bl (decide (x = y))) H
def rNe : R2 := fun x y H Q => scal x y = true ∧ Q (.bl (!decide (x = y))) H

theorem dec_int {i j : Int} : decide (V.int i = V.int j) = (i == j) := by
  rw [Bool.eq_iff_iff]
  simp
theorem dec_bl {i j : Bool} : decide (V.bl i = V.bl j) = (i == j) := by
  rw [Bool.eq_iff_iff]
  simp
theorem dec_str {i j : Str} : decide (V.str i = V.str j) = (i == j) := by
  rw [Bool.eq_iff_iff]
  simp
theorem dec_byt {i j : Array UInt8} : decide (V.byt i = V.byt j) = (i.toList == j.toList) := by
  rw [Bool.eq_iff_iff]
  cases i
  cases j
  simp

section
variable {X : Cx} {a b c : Expr} {ta tb tc : TE} {pos : Pos}
theorem fin_bl {pins : List (Addr × Obj)} {σ : St} {H : Hp} {s : Shared} {Q : VK} {k k' : Bool} (I : Inv X pins σ H s) (q : Q (.bl k) H) (e : k = k') : EP X pins σ Q (.bool k') s := by
  subst e
  exact ⟨.bl k, H, I, rfl, q⟩
theorem op_eq : OpR X (compareOp .Eq) rEq := by
  intro pins s σ H x y v u Q I rx ry h
  obtain ⟨hs, q⟩ := h
  cases x with
  | non =>
    cases rx
    cases y with
    | non => cases ry; exact PySem.EqNone.eq_none_none (fin_bl I q (by simp))
    | bl j => cases ry; exact PySem.EqNone.eq_none_bool (fin_bl I q (by simp))
    | int j => obtain ⟨t', rfl⟩ := ry; exact PySem.EqNone.eq_none_int (fin_bl I q (by simp))
    | str j => obtain ⟨t', rfl⟩ := ry; exact PySem.EqNone.eq_none_str (fin_bl I q (by simp))
    | _ => exact absurd (show false = true from hs) Bool.false_ne_true
  | bl i =>
    cases rx
    cases y with
    | non => cases ry; exact PySem.EqNone.eq_bool_none (fin_bl I q (by simp))
    | bl j => cases ry; exact eq_bool (fin_bl I q dec_bl)
    | str j => obtain ⟨t', rfl⟩ := ry; exact PySem.EqMixed.eq_bool_str (fin_bl I q (by simp))
    | _ => exact absurd (show false = true from hs) Bool.false_ne_true
  | int i =>
    obtain ⟨t, rfl⟩ := rx
    cases y with
    | non => cases ry; exact PySem.EqNone.eq_int_none (fin_bl I q (by simp))
    | int j => obtain ⟨t', rfl⟩ := ry; exact eq_int (fin_bl I q dec_int)
    | str j => obtain ⟨t', rfl⟩ := ry; exact PySem.EqMixed.eq_int_str (fin_bl I q (by simp))
    | _ => exact absurd (show false = true from hs) Bool.false_ne_true
  | str i =>
    obtain ⟨t, rfl⟩ := rx
    cases y with
    | non => cases ry; exact PySem.EqNone.eq_str_none (fin_bl I q (by simp))
    | bl j => cases ry; exact PySem.EqMixed.eq_str_bool (fin_bl I q (by simp))
    | int j => obtain ⟨t', rfl⟩ := ry; exact PySem.EqMixed.eq_str_int (fin_bl I q (by simp))
    | str j => obtain ⟨t', rfl⟩ := ry; exact eq_str (fin_bl I q dec_str)
    | _ => exact absurd (show false = true from hs) Bool.false_ne_true
  | byt i =>
    obtain ⟨t, rfl⟩ := rx
    cases y with
    | byt j => obtain ⟨t', rfl⟩ := ry; exact PySem.W.eq_bytes (fin_bl I q dec_byt)
    | _ => exact absurd (show false = true from hs) Bool.false_ne_true
  | _ => cases y <;> exact absurd (show false = true from hs) Bool.false_ne_true
theorem op_ne : OpR X (compareOp .NotEq) rNe := by
  intro pins s σ H x y v u Q I rx ry h
  obtain ⟨hs, q⟩ := h
  cases x with
  | non =>
    cases rx
    cases y with
    | non => cases ry; exact PySem.EqNone.ne_none_none (fin_bl I q (by simp))
    | bl j => cases ry; exact PySem.EqNone.ne_none_bool (fin_bl I q (by simp))
    | int j => obtain ⟨t', rfl⟩ := ry; exact PySem.EqNone.ne_none_int (fin_bl I q (by simp))
    | str j => obtain ⟨t', rfl⟩ := ry; exact PySem.EqNone.ne_none_str (fin_bl I q (by simp))
    | _ => exact absurd (show false = true from hs) Bool.false_ne_true
  | bl i =>
    cases rx
    cases y with
    | non => cases ry; exact PySem.EqNone.ne_bool_none (fin_bl I q (by simp))
    | bl j => cases ry; exact ne_bool (fin_bl I q (congrArg not dec_bl))
    | str j => obtain ⟨t', rfl⟩ := ry; exact PySem.EqMixed.ne_bool_str (fin_bl I q (by simp))
    | _ => exact absurd (show false = true from hs) Bool.false_ne_true
  | int i =>
    obtain ⟨t, rfl⟩ := rx
    cases y with
    | non => cases ry; exact PySem.EqNone.ne_int_none (fin_bl I q (by simp))
    | int j => obtain ⟨t', rfl⟩ := ry; exact ne_int (fin_bl I q (congrArg not dec_int))
    | str j => obtain ⟨t', rfl⟩ := ry; exact PySem.EqMixed.ne_int_str (fin_bl I q (by simp))
    | _ => exact absurd (show false = true from hs) Bool.false_ne_true
  | str i =>
    obtain ⟨t, rfl⟩ := rx
    cases y with
    | non => cases ry; exact PySem.EqNone.ne_str_none (fin_bl I q (by simp))
    | bl j => cases ry; exact PySem.EqMixed.ne_str_bool (fin_bl I q (by simp))
    | int j => obtain ⟨t', rfl⟩ := ry; exact PySem.EqMixed.ne_str_int (fin_bl I q (by simp))
    | str j => obtain ⟨t', rfl⟩ := ry; exact ne_str (fin_bl I q (congrArg not dec_str))
    | _ => exact absurd (show false = true from hs) Bool.false_ne_true
  | byt i =>
    obtain ⟨t, rfl⟩ := rx
    cases y with
    | byt j => obtain ⟨t', rfl⟩ := ry; exact PySem.W.ne_bytes (fin_bl I q (congrArg not dec_byt))
    | _ => exact absurd (show false = true from hs) Bool.false_ne_true
  | _ => cases y <;> exact absurd (show false = true from hs) Bool.false_ne_true

theorem op_lt : OpR X (compareOp .Lt) (rI0 fun i j => .bl (decide (i < j))) := opB0 fun _ _ _ _ _ _ _ q => lt_int q
theorem op_gt : OpR X (compareOp .Gt) (rI0 fun i j => .bl (decide (j < i))) := opB0 fun _ _ _ _ _ _ _ q => gt_int q
theorem op_ge : OpR X (compareOp .GtE) (rI0 fun i j => .bl (decide (j ≤ i))) := opB0 fun _ _ _ _ _ _ _ q => ge_int q
/-- is None, is not None: the right side a value none -/
theorem op_isN : OpR X (compareOp .Is) (fun x y H Q => y = .non ∧ Q (.bl (decide (x = .non))) H) := by
  intro pins s σ H x y v u Q I rx ry h
  obtain ⟨rfl, q⟩ := h
  cases ry
  refine is_none_gen (fin_bl I q ?_)
  cases x <;> first
    | (cases rx; rfl)
    | (obtain ⟨t, rfl⟩ := rx; rfl)
theorem op_notN : OpR X (compareOp .IsNot) (fun x y H Q => y = .non ∧ Q (.bl (!decide (x = .non))) H) := by
  intro pins s σ H x y v u Q I rx ry h
  obtain ⟨rfl, q⟩ := h
  cases ry
  refine isnot_none_gen (fin_bl I q ?_)
  cases x <;> first
    | (cases rx; rfl)
    | (obtain ⟨t, rfl⟩ := rx; rfl)

/-- is, is not of two objects that are tracked lists or instances -/
def isObj : HO → Bool
  | .lst _ => true
  | .ins _ _ _ => true
  | _ => false
theorem nomark (b : Expr) {op : CmpOp} (h : op ≠ .In := by decide) (h2 : op ≠ .NotIn := by decide) : behindInMarks op b = false := by
  have e1 : (op == CmpOp.In) = false := by cases op <;> first | rfl | exact absurd rfl h
  have e2 : (op == CmpOp.NotIn) = false := by cases op <;> first | rfl | exact absurd rfl h2
  cases b <;> simp [behindInMarks, e1, e2]
/-- a comparison as a value; hm: nomark b, or (for in, not in) by with_unfolding_all rfl -/
theorem pe_cmpR {op : CmpOp} {r : R2} (ho : OpR X (compareOp op) r) (ha : PE X a ta) (hb : PE X b tb) (hm : behindInMarks op b = false) : PE X (.Compare a [op] [b] pos) (tOp r ta tb) := by
  intro pins s σ H Q I h
  exact wpAny_Compare1 (binT ha hb I h fun v u s2 x y H2 I2 rx ry q => ho pins s2 σ H2 x y v u Q I2 rx ry q) hm
/-- a reading of a value as a test -/
def tTest (t : TE) : TT := fun σ H Q => t σ H fun x H' => ∃ k, x = .bl k ∧ Q k H'
theorem pt_cmpR {op : CmpOp} {r : R2} (ho : OpR X (compareOp op) r) (ha : PE X a ta) (hb : PE X b tb) (hm : behindInMarks op b = false) : PT X (.Compare a [op] [b] pos) (tTest (tOp r ta tb)) := by
  intro pins s σ H Q I h
  refine wpAny_isTrue_Compare1 (thn (ha pins s σ H _ I h) fun v s1 ⟨x, H1, I1, r1, q1⟩ => thn (hb pins s1 σ H1 _ I1 q1) fun u s2 ⟨y, H2, I2, r2, q2⟩ =>
    thn (ho pins s2 σ H2 x y v u _ I2 r1 r2 q2) fun c s3 ⟨z, H3, I3, r3, k, e, q3⟩ => ?_) hm
  subst e
  cases r3
  exact wpAny_truthy_bool ⟨H3, I3, q3⟩
/-- a op1 b op2 c -/
def tChain (r r' : R2) (ta tb tc : TE) : TE := fun σ H Q => ta σ H fun x H1 => tb σ H1 fun y H2 => r x y H2 fun z H3 => ∃ k, z = .bl k ∧
  (if k = true then tc σ H3 fun w' H4 => r' y w' H4 Q else Q (.bl false) H3)
/-! ### truth -/
/-- a value's truth by the abstract heap -/
def TruV (K : PySem.W.Frag) (x : V) (H : Hp) (k : Bool) : Prop :=
  match x with
  | .non => k = false
  | .bl b => k = b
  | .int i => k = (i != 0)
  | .str y => y.length ≤ sizeLine ∧ k = ((y.length : Int) != 0)
  | .byt y => y.size ≤ sizeLine ∧ k = ((y.size : Int) != 0)
  | .ref p => (∃ xs, SqL K H p xs ∧ k = !xs.isEmpty) ∨ (∃ xs, SqT K H p xs ∧ k = !xs.isEmpty) ∨ ∃ kvs, H p = some (.dK kvs) ∧ k = !kvs.isEmpty
  | _ => False
theorem line63 : (sizeLine : Nat) < 2 ^ 63 := by rw [sizeLine_eq]; decide
/-! ### strs and bytes -/
def PlainIxT (b : Expr) : Prop := ∀ o i, subscripted b false o i = operate [o, i] (getItem o i)
/-! ### scalar builtins, by CallR -/
theorem vals1 {x : V} {us : List Value} (r : Vals [x] us) : ∃ u, us = [u] ∧ RelV x u := by
  cases r with
  | cons r1 r2 => cases r2; exact ⟨_, rfl, r1⟩
/-- len of a str, a bytes, a list, a tuple -/
def LenV (K : PySem.W.Frag) (x : V) (H : Hp) (n : Nat) : Prop :=
  match x with
  | .str y => y.length ≤ sizeLine ∧ n = y.length
  | .byt y => y.size ≤ sizeLine ∧ n = y.size
  | .ref p => (∃ xs, SqL K H p xs ∧ n = xs.length) ∨ ∃ xs, SqT K H p xs ∧ n = xs.length
  | _ => False
end
end L2

namespace L2
open PySem PySem.Spec PyProof.Rows

/-! ### an instance, its attributes a map -/
structure ObjM (h : Heap) (x dx C : Addr) (mA : Str → Option Value) : Prop where
  obj : h.get? x = some (PySem.W.instObj C dx)
  ns : h.Ns1 dx mA
  ne : dx ≠ x

theorem lookIn_ns {h : Heap} {dx : Addr} {mA : Str → Option Value} (n : h.Ns1 dx mA) : ∃ od, h.get? dx = some od ∧ ∀ name, PySem.W.lookIn name od = some (mA name) := by
  obtain ⟨o, es, ep, ho, hd, hk, _, hm⟩ := n
  refine ⟨o, ho, fun name => ?_⟩
  have e := hm name
  unfold nsFind findBy at e
  rw [← Array.find?_toList] at e
  unfold PySem.W.lookIn
  rw [hd]
  dsimp only
  split
  · rename_i y q
    rw [q] at e
    exact congrArg some e
  · rename_i q
    rw [q] at e
    have a : es.toList.any (·.refKey) = false := by
      rw [List.any_eq_false]
      intro y hy
      obtain ⟨z, t, hkey⟩ := hk y (Array.mem_toList_iff.mp hy)
      simp [DictEntry.refKey, hkey]
    have a' : ¬ es.toList.any (·.refKey) = true := by rw [a]; exact Bool.false_ne_true
    rw [if_neg a']
    exact congrArg some e

theorem ObjM.look {h : Heap} {x dx C : Addr} {mA : Str → Option Value} (I : ObjM h x dx C mA) : ∃ od, PySem.W.InstAt h x (PySem.W.instObj C dx) C (some od) ∧ ∀ name, PySem.W.lookIn name od = some (mA name) :=
  let ⟨od, ho, hl⟩ := lookIn_ns I.ns
  ⟨od, ⟨I.obj, rfl, rfl, ho⟩, hl⟩

section
variable {prog : Program} {w : World} {A : Around} {E : Value → Shared → Prop} {s : Shared} {K : PySem.W.Frag} {x dx C f : Addr} {mA : Str → Option Value} {name : Str} {v : Value}

theorem get_map {expr : Bool} {Q : Value → Shared → Prop} (X : K.In s.heap) (I : ObjM s.heap x dx C mA) (hg : PySem.W.plainGet K C name = true) (hh : PySem.W.hasDictIn K C = true)
    (ha : PySem.W.findIn K (.ref C) name = some none) (hv : mA name = some v) (hv' : PySem.W.handedIn v = true) (h : Q v { s with toks := s.toks + 1 }) :
    wpAny (model prog w) A (getAttr (.ref x) name expr) Q E s := by
  obtain ⟨od, J, hl⟩ := I.look
  exact PySem.W.get_value X J (PySem.W.plainGet_of hg).1 (PySem.W.findObj_own hh ha rfl (by rw [hl, hv])) hv' h

theorem set_map {ns : List Str} {Q : Unit → Shared → Prop} (X : K.In s.heap) (I : ObjM s.heap x dx C mA)
    (hs : PySem.W.findIn K (.ref C) "__setattr__" = some (some (.builtin "object.__setattr__"))) (hp : PySem.W.plainOver K C = true) (ht : PySem.W.takerIn K C name = some none) (hh : PySem.W.hasDictIn K C = true)
    (hw : PySem.Within mA ns) (hsz : ns.length ≤ sizeLine)
    (h : ∀ h', ObjM h' x dx C (fun y => if y = name then some v else mA y) → Heap.SameBut dx s.heap h' → Q () { s with heap := h', toks := s.toks + 2 }) :
    wpAny (model prog w) A (setAttr (.ref x) name v) Q E s := by
  obtain ⟨od, J, hl⟩ := I.look
  refine PySem.W.set_plain X J hs (PySem.W.osa_open (s := { s with toks := s.toks + 1 }) (r := none) X J hp ht fun b => ?_)
  obtain ⟨cd, hc, hd'⟩ := PySem.W.any_some hh
  have hx : s.heap.get? x = some ⟨.ref C, some dx, .plain, #[]⟩ := I.obj
  refine wpAny_bind (wpAny_pure (wpAny_bind (wpAny_bind (wpAny_loadPart hx (wpAny_bind (PySem.W.Looks.here (s := { s with toks := s.toks + 1 }) (PySem.W.looks_clsIn X hc) ?_))))))
  rw [hd']
  refine wpAny_pure (a := some dx) (wpAny_bind (wpAny_pure (wpAny_bind ?_)))
  refine wpAny_nsSet1 (s := { s with toks := s.toks + 1 }) I.ns fun h' hn2 hs2 => ?_
  obtain ⟨oD, esD, epD, hoD, hdD, hcD⟩ := hn2.count (PySem.Within.cons name v hw)
  refine wpAny_bind (wpAny_lookBehind hoD (by rw [hdD]; exact pastItsLine_dict (Nat.le_trans hcD (by rw [List.length_cons]; omega))) ?_)
  exact wpAny_pure (h _ ⟨(hs2.2 _ (Ne.symm I.ne)).trans I.obj, hn2, I.ne⟩ hs2)

/-- C(..): the dict at the heap's end, the instance behind it; then its __init__ -/
theorem make_map {R : Result → Shared → Prop} {vs : List Value} {kw : List (Str × Value)} (X : K.In s.heap) (hm : PySem.W.makesIn K C = true)
    (hi : PySem.W.findIn K (.ref C) "__init__" = some (some (.ref f))) (hf : PySem.W.typeIn K (.ref f) = some (.type "function"))
    (h : codeAny (model prog w) (A.under (.builtin "type.__call__" ⟨.ref C :: vs, kw⟩)) (.call (.ref f) ⟨.ref (s.heap.objs.size + 1) :: vs, kw⟩) (PySem.W.InitBack (s.heap.objs.size + 1) R)
      { s with heap := (s.heap.push PySem.W.emptyDict).push (PySem.W.instObj C s.heap.objs.size) }) :
    codeAny (model prog w) A (.call (.ref C) ⟨vs, kw⟩) R s := by
  obtain ⟨hh, g, d, t, os⟩ := s
  exact PySem.W.make_core (PySem.W.makes_of X hm) (PySem.W.looks_findIn X hi) (fun self => PySem.W.bind_fn X self hf) (.inl rfl) h
end

/-! ### the attributes as a list of pairs -/
def putF (f : Str) (v : V) : List (Str × V) → List (Str × V)
  | [] => [(f, v)]
  | (g, x) :: r => if g = f then (g, v) :: r else (g, x) :: putF f v r
theorem lookup_putF (f g : Str) (v : V) : ∀ fs : List (Str × V), (putF f v fs).lookup g = if g = f then some v else fs.lookup g
  | [] => by
    show List.lookup g [(f, v)] = _
    by_cases h : g = f
    · have hb : (g == f) = true := beq_iff_eq.mpr h
      simp only [List.lookup, hb, if_pos h]
    · have hb : (g == f) = false := beq_eq_false_iff_ne.mpr h
      simp only [List.lookup, hb, if_neg h]
  | (k, x) :: r => by
    have ih := lookup_putF f g v r
    rw [show putF f v ((k, x) :: r) = (if k = f then (k, v) :: r else (k, x) :: putF f v r) from rfl]
    by_cases hk : k = f
    · rw [if_pos hk]
      by_cases h : g = k
      · have hb : (g == k) = true := beq_iff_eq.mpr h
        simp only [List.lookup, hb, if_pos (h.trans hk)]
      · have hb : (g == k) = false := beq_eq_false_iff_ne.mpr h
        simp only [List.lookup, hb, if_neg (fun e : g = f => h (e.trans hk.symm))]
    · rw [if_neg hk]
      by_cases h : g = k
      · have hb : (g == k) = true := beq_iff_eq.mpr h
        simp only [List.lookup, hb, if_neg (fun e : g = f => hk (h.symm.trans e))]
      · have hb : (g == k) = false := beq_eq_false_iff_ne.mpr h
        simp only [List.lookup, hb]
        exact ih
theorem keys_putF (f : Str) (v : V) : ∀ fs : List (Str × V), f ∈ (putF f v fs).map (·.1) ∧ ∀ g, g ∈ fs.map (·.1) → g ∈ (putF f v fs).map (·.1)
  | [] => ⟨by simp [putF], fun g h => by simp at h⟩
  | (k, x) :: r => by
    obtain ⟨i1, i2⟩ := keys_putF f v r
    rw [show putF f v ((k, x) :: r) = (if k = f then (k, v) :: r else (k, x) :: putF f v r) from rfl]
    by_cases hk : k = f
    · rw [if_pos hk]
      subst hk
      exact ⟨by simp, fun g h => by simpa using h⟩
    · rw [if_neg hk]
      refine ⟨?_, fun g h => ?_⟩
      · rw [List.map_cons]
        exact List.mem_cons_of_mem _ i1
      · rw [List.map_cons] at h ⊢
        rcases List.mem_cons.mp h with e | e
        · exact List.mem_cons.mpr (.inl e)
        · exact List.mem_cons_of_mem _ (i2 g e)
theorem length_putF (f : Str) (v : V) : ∀ fs : List (Str × V), (putF f v fs).length ≤ fs.length + 1
  | [] => by simp [putF]
  | (k, x) :: r => by
    have ih := length_putF f v r
    rw [show putF f v ((k, x) :: r) = (if k = f then (k, v) :: r else (k, x) :: putF f v r) from rfl]
    by_cases hk : k = f
    · rw [if_pos hk, List.length_cons, List.length_cons]; omega
    · rw [if_neg hk, List.length_cons, List.length_cons]; omega

theorem RelO.some_of {v : V} {o : Option Value} (r : RelO (some v) o) : ∃ u, o = some u ∧ RelV v u := by
  cases o with
  | none => exact (show False from r).elim
  | some u => exact ⟨u, rfl, r⟩
theorem handed_of {v : V} {u : Value} (r : RelV v u) : PySem.W.handedIn u = true := by
  cases v with
  | non => cases (show u = Value.none from r); rfl
  | bl b => cases (show u = Value.bool b from r); rfl
  | int i => obtain ⟨t, e⟩ := (show ∃ t, u = Value.int i t from r); cases e; rfl
  | str x => obtain ⟨t, e⟩ := (show ∃ t, u = Value.str x t from r); cases e; rfl
  | byt b => obtain ⟨t, e⟩ := (show ∃ t, u = Value.bytes b t from r); cases e; rfl
  | flt b => obtain ⟨t, e⟩ := (show ∃ t, u = Value.float b t from r); cases e; rfl
  | ref a => cases (show u = Value.ref a from r); rfl
  | ty n => cases (show u = Value.type n from r); rfl

section
variable {P : Program} {w : World} {H H' : Hp} {h h' : Heap} {a C dx : Addr} {fs fs' : List (Str × V)}
theorem ins_get (hok : HOk P w H h) (e : H a = some (.ins C dx fs)) : ∃ mA, ObjM h a dx C mA ∧ (∀ f, RelO (fs.lookup f) (mA f)) ∧ PySem.Within mA (fs.map (·.1)) ∧ fs.length ≤ 1000 ∧ H dx = some (.own a) := by
  obtain ⟨d, z, ne, ob, mA, n, r, q⟩ := (show ObjOk P w H h a (.ins C dx fs) from hok a _ e)
  exact ⟨mA, ⟨ob, n, ne⟩, r, q, z, d⟩
end

/-! ### what of the text a class must have -/
structure Cls (K : PySem.W.Frag) (C : Addr) : Prop where
  pg : PySem.W.plainGet K C Str.empty = true
  hd : PySem.W.hasDictIn K C = true
  po : PySem.W.plainOver K C = true
  sa : PySem.W.findIn K (.ref C) "__setattr__" = some (some (.builtin "object.__setattr__"))
theorem Cls.get {K : PySem.W.Frag} {C : Addr} (c : Cls K C) (f : Str) : PySem.W.plainGet K C f = true := c.pg
/-- no class of it has the name -/
def NoAttr (K : PySem.W.Frag) (C : Addr) (f : Str) : Prop := PySem.W.findIn K (.ref C) f = some none
theorem NoAttr.taker {K : PySem.W.Frag} {C : Addr} {f : Str} (n : NoAttr K C f) : PySem.W.takerIn K C f = some none := by
  unfold PySem.W.takerIn
  rw [show PySem.W.findIn K (.ref C) f = some none from n]
  rfl
/-- a constant of the class -/
structure Con (K : PySem.W.Frag) (C : Addr) (f : Str) (v : V) (u : Value) : Prop where
  at_ : PySem.W.findIn K (.ref C) f = some (some u)
  rel : RelV v u
  get : PySem.W.specialIn K u "__get__" = some none
  cp : PySem.W.copiedNames.contains f = false
/-- a method: a plain def of the class or of one above it -/
structure Meth (K : PySem.W.Frag) (C : Addr) (m : Str) (f : Addr) : Prop where
  at_ : PySem.W.findIn K (.ref C) m = some (some (.ref f))
  fn : PySem.W.isFn K (.ref f) = true
  kp : PySem.W.keepIn K (.ref f) = true

section
variable {X : Cx} {pins : List (Addr × Obj)} {σ : St} {H : Hp} {s : Shared} {a C dx : Addr} {fs : List (Str × V)} {f : Str} {v : V} {A : Around} {E : Value → Shared → Prop}

theorem getattr_ok {b : Bool} {Q : Value → Shared → Prop} (I : Inv X pins σ H s) (e : H a = some (.ins C dx fs)) (c : Cls X.K C) (n : NoAttr X.K C f) (l : fs.lookup f = some v)
    (h : ∀ u s', Inv X pins σ H s' → RelV v u → Q u s') : wpAny (model X.prog X.w) A (getAttr (.ref a) f b) Q E s := by
  obtain ⟨mA, O, r, _, _, _⟩ := ins_get I.hok e
  obtain ⟨u, hu, ru⟩ := RelO.some_of (v := v) (o := mA f) (by rw [← l]; exact r f)
  exact get_map I.kIn O (c.get f) c.hd n hu (handed_of ru) (h u _ (I.tok _) ru)

theorem setattr_ok {y : V} {u : Value} {Q : Unit → Shared → Prop} (I : Inv X pins σ H s) (e : H a = some (.ins C dx fs)) (c : Cls X.K C) (n : NoAttr X.K C f) (hl : fs.length < 1000) (ry : RelV y u)
    (h : ∀ s', Inv X pins σ (upd H a (.ins C dx (putF f y fs))) s' → Q () s') : wpAny (model X.prog X.w) A (setAttr (.ref a) f u) Q E s := by
  obtain ⟨mA, O, r, wi, _, ho⟩ := ins_get I.hok e
  have hz : (fs.map (·.1)).length ≤ sizeLine := by rw [List.length_map, sizeLine_eq]; omega
  refine set_map I.kIn O c.sa c.po n.taker c.hd wi hz fun h' O' sb => h _ ?_
  have hd : ∃ o, h'.get? dx = some o := let ⟨o, _, _, e', _⟩ := O'.ns; ⟨o, e'⟩
  refine I.write (x := a) (e := dx) (by rw [e]; exact True.intro) (.inr ho) (fun b q hb z => (sb.2 b hb).trans z) hd ?_
  refine ⟨by rw [upd_ne O.ne]; exact ho, ?_, O.ne, O'.obj, _, O'.ns, fun g => ?_, fun g hg => ?_⟩
  · have := length_putF f y fs; omega
  · show RelO ((putF f y fs).lookup g) (if g = f then some u else mA g)
    rw [lookup_putF]
    by_cases q : g = f
    · rw [if_pos q, if_pos q]; exact ry
    · rw [if_neg q, if_neg q]; exact r g
  · by_cases q : g = f
    · rw [q]; exact (keys_putF f y fs).1
    · refine (keys_putF f y fs).2 g (wi g fun z => hg ?_)
      show (if g = f then some u else mA g) = none
      rw [if_neg q]; exact z

/-- a new instance, tracked, without attributes -/
theorem Inv.made (I : Inv X pins σ H s) : Inv X pins σ (upd (upd H s.heap.objs.size (.own (s.heap.objs.size + 1))) (s.heap.objs.size + 1) (.ins C s.heap.objs.size []))
    { s with heap := (s.heap.push PySem.W.emptyDict).push (PySem.W.instObj C s.heap.objs.size) } := by
  have e1 : (s.heap.push PySem.W.emptyDict).get? s.heap.objs.size = some PySem.W.emptyDict := Heap.get?_push_size s.heap rfl
  have e2 : ((s.heap.push PySem.W.emptyDict).push (PySem.W.instObj C s.heap.objs.size)).get? (s.heap.objs.size + 1) = some (PySem.W.instObj C s.heap.objs.size) := by
    have := Heap.get?_push_size (s.heap.push PySem.W.emptyDict) (o := PySem.W.instObj C s.heap.objs.size) rfl
    rwa [Heap.size_push] at this
  have e3 : (s.heap.push PySem.W.emptyDict).Ns s.heap.objs.size (fun _ => none) := ⟨PySem.W.emptyDict, #[], _, e1, rfl, (fun e he => absurd he (by simp)), fun _ => rfl⟩
  have I1 := I.laid (a := s.heap.objs.size) (o := .own (s.heap.objs.size + 1)) (h' := s.heap.push PySem.W.emptyDict) (t' := s.toks) (fun b u q => Heap.get?_push_of_some _ q) (Nat.le_refl _) ⟨_, e1⟩
  refine I1.laid (a := s.heap.objs.size + 1) (o := .ins C s.heap.objs.size []) (t' := s.toks) (fun b u q => Heap.get?_push_of_some _ q) (Nat.le_of_eq (Heap.size_push _ _)) ?_
  have ne : s.heap.objs.size ≠ s.heap.objs.size + 1 := Nat.ne_of_lt (Nat.lt_succ_self _)
  refine ⟨by rw [upd_ne ne, upd_same], Nat.zero_le _, ne, e2, fun _ => none, (Heap.Ns1.of_empty e3).at fun o q => Heap.get?_push_of_some _ q, fun _ => True.intro, fun y hy => absurd rfl hy⟩

/-- e.f where nothing but the object is asked: through attributeBase (super) and the last hold -/
theorem attr_of {prog : Program} {w : World} {env : Env} {e : Expr} {f : Str} {pos : Pos} {s : Shared} {Q : Value → Shared → Prop} (hb : attributeBase e f env (eval e env) = eval e env)
    (h : wpAny (model prog w) A (eval e env) (fun o s₁ => wpAny (model prog w) A (getAttr o f true) Q E s₁) E s) : wpAny (model prog w) A (eval (.Attribute e f pos) env) Q E s :=
  Attribute_any_ h (by rw [arm_eval_Attribute, hb])
end

/-! ### readings and rules -/
/-- e.f, an attribute of the instance -/
def tFld (K : PySem.W.Frag) (ta : TE) (f : Str) : TE := fun σ H Q => ta σ H fun x H1 => ∃ a C dx fs v, x = .ref a ∧ H1 a = some (.ins C dx fs) ∧ Cls K C ∧ NoAttr K C f ∧ fs.lookup f = some v ∧ Q v H1
/-- e.f, a constant of the class -/
def tCon (K : PySem.W.Frag) (ta : TE) (f : Str) : TE := fun σ H Q => ta σ H fun x H1 => ∃ a C dx fs v u, x = .ref a ∧ H1 a = some (.ins C dx fs) ∧ Cls K C ∧ Con K C f v u ∧ fs.lookup f = none ∧ Q v H1
/-- e.f = value -/
def sFld (K : PySem.W.Frag) (ta tv : TE) (f : Str) : TS := fun D σ H => tv σ H fun y H1 => ta σ H1 fun x H2 => ∃ a C dx fs, x = .ref a ∧ H2 a = some (.ins C dx fs) ∧ Cls K C ∧ NoAttr K C f ∧ fs.length < 1000 ∧
  D.nx σ (upd H2 a (.ins C dx (putF f y fs)))
/-- an augmented operator on two values -/
def InOp (X : Cx) (op : Operator) (rd : V → V → Hp → VK → Prop) : Prop :=
  ∀ (pins : List (Addr × Obj)) (s : Shared) (σ : St) (H : Hp) (x y : V) (u v : Value) (Q : VK), Inv X pins σ H s → RelV x u → RelV y v → rd x y H Q → wpAny (model X.prog X.w) X.A (inplaceOp op u v) (EP X pins σ Q) X.xe s
/-- e.f op= value -/
def sFldAug (K : PySem.W.Frag) (ta tv : TE) (rd : V → V → Hp → VK → Prop) (f : Str) : TS := fun D σ H => ta σ H fun x H1 => ∃ a C dx fs v, x = .ref a ∧ H1 a = some (.ins C dx fs) ∧ Cls K C ∧ NoAttr K C f ∧ fs.lookup f = some v ∧
  tv σ H1 fun y H2 => rd v y H2 fun z H3 => ∃ dx' fs', H3 a = some (.ins C dx' fs') ∧ fs'.length < 1000 ∧ D.nx σ (upd H3 a (.ins C dx' (putF f z fs')))

section
variable {X : Cx} {o e value : Expr} {f : Str} {pos pos' tpos : Pos} {ta tv : TE}
theorem pe_fld (he : PE X e ta) (hb : attributeBase e f X.env (eval e X.env) = eval e X.env) : PE X (.Attribute e f pos) (tFld X.K ta f) := by
  intro pins s σ H Q I h
  refine attr_of hb (thn (he pins s σ H _ I h) fun u s1 ⟨x, H1, I1, rx, a, C, dx, fs, v, ex, ea, c, n, l, q⟩ => ?_)
  subst ex
  obtain rfl : u = Value.ref a := rx
  exact getattr_ok I1 ea c n l fun u' s2 I2 ru => ⟨v, H1, I2, ru, q⟩
theorem ps_fld (ha : PE X o ta) (hv : PE X value tv) (hs : swapsWith value (some (.Attribute o f pos')) pos.line X.env = pure false) : PS X (.Assign [.Attribute o f pos'] value pos) (sFld X.K ta tv f) := by
  intro pins s σ H D I h
  refine plainObj_wpAny_Assign_Attribute (thn (hv pins s σ H _ I h) fun u s1 ⟨y, H1, I1, ry, q⟩ => thn (ha pins s1 σ H1 _ I1 q) fun ov s2 ⟨x, H2, I2, rx, a, C, dx, fs, ex, ea, c, n, l, q2⟩ => ?_) hs
  subst ex
  obtain rfl : ov = Value.ref a := rx
  exact setattr_ok I2 ea c n l ry fun s3 I3 => ⟨σ, _, I3, q2⟩
def rAdd : V → V → Hp → VK → Prop := fun x y H Q => ∃ i j, x = .int i ∧ y = .int j ∧ Q (.int (i + j)) H
def rSub : V → V → Hp → VK → Prop := fun x y H Q => ∃ i j, x = .int i ∧ y = .int j ∧ Q (.int (i - j)) H
end

/-! ### isinstance -/
section
variable {X : Cx} {pins : List (Addr × Obj)} {σ : St} {H : Hp} {s : Shared} {A : Around} {E : Value → Shared → Prop} {Q : Value → Shared → Prop} {c : Value} {b : Bool}
/-- the type of a value, as the fragment's deciders take it; for an instance its class -/
inductive TyOf (K : PySem.W.Frag) (H : Hp) : V → Value → Prop where
  | non : TyOf K H .non (.type "NoneType")
  | bl (x : Bool) : TyOf K H (.bl x) (.type "bool")
  | int (i : Int) : TyOf K H (.int i) (.type "int")
  | str (x : Str) : TyOf K H (.str x) (.type "str")
  | flt (x : UInt64) : TyOf K H (.flt x) (.type "float")
  | lst {a : Addr} {xs : List V} (e : H a = some (.lst xs)) : TyOf K H (.ref a) (.type "list")
  | frz {a : Addr} {o : Obj} {xs : List V} (e : H a = some (.frz o (.lst xs))) : TyOf K H (.ref a) (.type "list")
  | tup {a : Addr} {xs : List V} (e : H a = some (.tup xs)) : TyOf K H (.ref a) (.type "tuple")
  | dK {a : Addr} {kvs : List (Key × V)} (e : H a = some (.dK kvs)) : TyOf K H (.ref a) (.type "dict")
  | dT {a : Addr} {kvs : List (List Key × V)} (e : H a = some (.dT kvs)) : TyOf K H (.ref a) (.type "dict")
  | ins {a C dx : Addr} {fs : List (Str × V)} (e : H a = some (.ins C dx fs)) (cl : Cls K C) (ha : PySem.W.findIn K (.ref C) "__class__" = some (some (.builtin "object.__class__")))
      (hn : PySem.W.specialIn K (.builtin "object.__class__") "__get__" = some (some (.builtin "getset_descriptor.__get__"))) (htk : PySem.W.takesIn K (.builtin "object.__class__") = some true)
      (hm : PySem.W.mroIn K C (.type "object") = some true) : TyOf K H (.ref a) (.ref C)
end
end L2

namespace L2
open PySem PySem.Spec PyProof.Rows

/-! ### room -/
structure Room (k : Nat) (A : Around) : Prop where
  hd : A.handled = none
  dp : A.depth + 3 * k + 5 < recursionLimit
  un : A.units + 16 * k + 200 < cLine
theorem Room.mono {j k : Nat} {A : Around} (r : Room k A) (h : j ≤ k) : Room j A := ⟨r.hd, by have := r.dp; omega, by have := r.un; omega⟩
theorem Room.deeper {k : Nat} {A : Around} (r : Room (k + 1) A) (env : Env) : Room k (A.deeper env) :=
  ⟨r.hd, by have := r.dp; show A.depth + 1 + 3 * k + 5 < _; omega, by have := r.un; show A.units + 3 + 16 * k + 200 < _; omega⟩
theorem make_depth {A : Around} {C : Addr} {us : List Value} {kw : List (Str × Value)} : (A.under (.builtin "type.__call__" ⟨.ref C :: us, kw⟩)).depth = A.depth + 1 := by
  first | rfl | simp [Around.under, Code.weight, Code.isCreation, Code.isGuard, Code.isCaller, Code.frames, Code.isFrame, guardIds]
theorem make_units {A : Around} {C : Addr} {us : List Value} {kw : List (Str × Value)} : (A.under (.builtin "type.__call__" ⟨.ref C :: us, kw⟩)).units = A.units + 1 := by
  first | rfl | simp [Around.under, Code.cUnits, Code.frames, Code.isFrame]
theorem Room.make {k : Nat} {A : Around} (r : Room (k + 1) A) (C : Addr) (us : List Value) (kw : List (Str × Value)) : Room k (A.under (.builtin "type.__call__" ⟨.ref C :: us, kw⟩)) :=
  ⟨r.hd, by have := r.dp; rw [make_depth]; omega, by have := r.un; rw [make_units]; omega⟩
theorem Room.depth {k : Nat} {A : Around} (r : Room k A) : A.depth < recursionLimit := by have := r.dp; omega
theorem Room.units {k : Nat} {A : Around} (r : Room k A) : A.units + 64 < cLine := by have := r.un; omega
/-! ### argument lists and displays -/
def tNil : TA := fun _ H Q => Q [] H
def tCons (ta : TE) (tr : TA) : TA := fun σ H Q => ta σ H fun x H1 => tr σ H1 fun xs H2 => Q (x :: xs) H2
section
variable {X : Cx} {e : Expr} {es : List Expr} {te : TE} {t : TA} {pos : Pos}
theorem pa_nil : PA X [] tNil := fun _ _ _ _ H Q I h => Calls.spliced_nil ⟨[], H, I, .nil, h⟩
theorem pa_cons (ha : PE X e te) (hr : PA X es t) (hs : starEach (e :: es) X.env = (false, eval e X.env) :: starEach es X.env := by rfl) : PA X (e :: es) (tCons te t) := by
  intro pos pins s σ H Q I h
  rw [hs]
  show wpAny _ _ (spliced ((false, eval e X.env) :: backTo pos (starEach es X.env))) _ _ s
  refine Calls.spliced_cons (thn (ha pins s σ H _ I h) fun u s1 ⟨x, H1, I1, r1, q1⟩ => ?_)
  exact thn (hr pos pins s1 σ H1 _ I1 q1) fun us s2 ⟨xs, H2, I2, r2, q2⟩ => ⟨x :: xs, H2, I2, .cons r1 r2, q2⟩

/-- a tuple, a list of written items -/
def tTup (t : TA) : TE := fun σ H Q => t σ H fun xs H1 => xs.length ≤ sizeLine ∧ ∀ p, H1 p = none → Q (.ref p) (upd H1 p (.tup xs))
def tLst (t : TA) : TE := fun σ H Q => t σ H fun xs H1 => xs.length ≤ sizeLine ∧ ∀ p, H1 p = none → Q (.ref p) (upd H1 p (.lst xs))
theorem pe_tup {x1} (h : PA X es t) : PE X (.Tuple es x1 pos) (tTup t) := by
  intro pins s σ H Q I hq
  refine wpAny_Tuple_spliced (thn (h pos pins s σ H _ I hq) fun us s1 ⟨xs, H1, I1, r, z, q⟩ => ⟨by rw [← r.length]; exact z, ?_⟩)
  have hf : H1 s1.heap.objs.size = none := I1.hok.fresh (Nat.le_refl _)
  refine ⟨.ref s1.heap.objs.size, upd H1 s1.heap.objs.size (.tup xs), I1.laid (t' := s1.toks) (fun b u e => Heap.get?_push_of_some _ e) (Nat.le_refl _) ?_, rfl, q _ hf⟩
  exact ⟨z, us, r, ⟨_, Heap.get?_push_size _ rfl, rfl, _, rfl⟩⟩
theorem pe_lst (h : PA X es t) : PE X (.List es pos) (tLst t) := by
  intro pins s σ H Q I hq
  refine wpAny_List_spliced (thn (h pos pins s σ H _ I hq) fun us s1 ⟨xs, H1, I1, r, z, q⟩ => ⟨by rw [← r.length]; exact z, ?_⟩)
  have hf : H1 s1.heap.objs.size = none := I1.hok.fresh (Nat.le_refl _)
  refine ⟨.ref s1.heap.objs.size, upd H1 s1.heap.objs.size (.lst xs), I1.laid (t' := s1.toks) (fun b u e => Heap.get?_push_of_some _ e) (Nat.le_refl _) ?_, rfl, q _ hf⟩
  exact ⟨z, us, 0, r, Heap.get?_push_size _ rfl⟩
end

/-! ### what a def promises -/
/-- a def's promise: the bound arguments in the parameters' order, the heap, the wanted end, the wanted exception -/
abbrev Sp := List V → Hp → VK → XK → Prop
/-- how an exception lies behind a call (file 08 gives it): the callers' frames, abstract heap and state ahead of the call, the wish, the exception, the state -/
abbrev CXT := List Env → Hp → Shared → XK → Value → Shared → Prop

/-- the state at a call -/
structure Env0 (P : Program) (w : World) (K : PySem.W.Frag) (mg : Str → Option Value) (base : Heap) (A : Around) (outer : List Env) (s : Shared) (H : Hp) : Prop where
  frames : A.frames = some outer
  mod : Mod K mg base
  bs : ∀ b o, base.get? b = some o → s.heap.get? b = some o ∧ H b = none
  bsz : base.objs.size ≤ s.heap.objs.size
  funs : s.heap.FunFrames base outer
  frf : ∀ b ∈ frs outer, H b = none
  hok : HOk P w H s.heap
  bare : AllBare s.gens
/-- a call's end -/
def CE (outer : List Env) (P : Program) (w : World) (H : Hp) (s : Shared) (Q : VK) (u : Value) (s' : Shared) : Prop :=
  ∃ v H', s'.os = s.os ∧ AllBare s'.gens ∧ Un (frs outer) [] H H' s.heap s'.heap ∧ HOk P w H' s'.heap ∧ RelV v u ∧ Q v H'
def CR (CX : CXT) (outer : List Env) (P : Program) (w : World) (H : Hp) (s : Shared) (Q : VK) (E : XK) (r : Result) (s' : Shared) : Prop :=
  match r with
  | .ok (.ret u) => CE outer P w H s Q u s'
  | .ok _ => False
  | .error e => CX outer H s E e s'
structure FnOk (P : Program) (w : World) (K : PySem.W.Frag) (mg : Str → Option Value) (base : Heap) (CX : CXT) (k : Nat) (f : Addr) (fd : FuncData) (ps : List Str) (sp : Sp) : Prop where
  len : ∀ vs H Q E, sp vs H Q E → vs.length = ps.length
  run : ∀ (A : Around) (outer : List Env) (s : Shared) (H : Hp) (args : Args) (us : List Value) (vs : List V) (Q : VK) (E : XK), Room k A → Env0 P w K mg base A outer s H → BindsTo s fd args (ps.zip us) → Vals vs us → sp vs H Q E →
    codeAny (model P w) A (.call (.ref f) args) (CR CX outer P w H s Q E) s
theorem FnOk.mono {P : Program} {w : World} {K : PySem.W.Frag} {mg : Str → Option Value} {base : Heap} {CX : CXT} {j k : Nat} {f : Addr} {fd : FuncData} {ps : List Str} {sp : Sp} (F : FnOk P w K mg base CX j f fd ps sp) (h : j ≤ k) :
    FnOk P w K mg base CX k f fd ps sp := ⟨F.len, fun A outer s H args us vs Q E hr => F.run A outer s H args us vs Q E (hr.mono h)⟩
theorem Env0.make {P : Program} {w : World} {K : PySem.W.Frag} {mg : Str → Option Value} {base : Heap} {A : Around} {outer : List Env} {s : Shared} {H : Hp} (e : Env0 P w K mg base A outer s H) (C : Addr) (us : List Value) (kw : List (Str × Value)) :
    Env0 P w K mg base (A.under (.builtin "type.__call__" ⟨.ref C :: us, kw⟩)) outer s H := ⟨by first | exact e.frames | (simpa [Around.under, Code.envs, Code.isFrame, pushEnvs] using e.frames), e.mod, e.bs, e.bsz, e.funs, e.frf, e.hok, e.bare⟩
section
variable {X : Cx} {pins : List (Addr × Obj)} {σ : St} {H : Hp} {s s' : Shared}
/-- from a body: what a callee wants -/
theorem Inv.env0 (I : Inv X pins σ H s) : Env0 X.prog X.w X.K X.mg X.base X.A X.stack s H :=
  ⟨I.ok.frames, I.ok.mod, I.bs, Nat.le_trans I.ok.bsz I.sz, I.stack, I.stkFree, I.hok, I.bare⟩
/-- behind a call -/
theorem Inv.after {Q : VK} {u : Value} (I : Inv X pins σ H s) (h : CE X.stack X.prog X.w H s Q u s') : EP X pins σ Q u s' := by
  obtain ⟨v, H', os, bare, un, hok, r, q⟩ := h
  obtain ⟨hh, g, d, t, os'⟩ := s'
  obtain rfl : os' = s.os := os
  exact ⟨v, H', I.call (h' := hh) (g' := g) (d' := d) (t' := t) (ch := []) un hok bare (fun b z => absurd z (by simp)), r, q⟩
end

/-! ### calls -/
/-- f(..): the written arguments, then the defaults dvs; E: what is wanted of an exception -/
def tCall (sp : Sp) (dvs : List V) (E : XK) (t : TA) : TE := fun σ H Q => t σ H fun vs H1 => sp (vs ++ dvs) H1 Q E
/-- o.m(..) of an instance of the class at C -/
def tMeth (C : Addr) (m : Str) (sp : Sp) (dvs : List V) (E : XK) (ta : TE) (t : TA) : TE := fun σ H Q => ta σ H fun x H1 => ∃ a dx fs, x = .ref a ∧ H1 a = some (.ins C dx fs) ∧ fs.lookup m = none ∧
  t σ H1 fun vs H2 => sp (x :: (vs ++ dvs)) H2 Q E
/-- C(..): a new instance and its dict, then __init__ -/
def tMake (C : Addr) (sp : Sp) (dvs : List V) (E : XK) (t : TA) : TE := fun σ H Q => t σ H fun vs H1 => ∀ x dx, H1 x = none → H1 dx = none → dx ≠ x →
  sp (.ref x :: (vs ++ dvs)) (upd (upd H1 dx (.own x)) x (.ins C dx [])) (fun v H2 => v = .non ∧ Q (.ref x) H2) E

/-- how the parameters are bound: us the positional arguments, kw the keywords' values by name, ds the defaults that fill up -/
def Binds (K : PySem.W.Frag) (fd : FuncData) (ps : List Str) (ds : List Value) : Prop :=
  ∀ (s : Shared) (us : List Value), K.In s.heap → (us ++ ds).length = ps.length → BindsTo s fd ⟨us, []⟩ (ps.zip (us ++ ds))
/-- every parameter is given -/
theorem Binds.all {K : PySem.W.Frag} {fd : FuncData} {ps : List Str} (h : ∀ us : List Value, us.length = ps.length → bindArgs fd ⟨us, []⟩ = pure (ps.zip us)) : Binds K fd ps [] := fun s us _ hl => by
  rw [List.append_nil] at hl ⊢
  exact .of_eq (h us hl)

/-- an exception of a callee reaches what this body wants of exceptions -/
def Passes (CX : CXT) (X : Cx) (E : XK) : Prop := ∀ (pins : List (Addr × Obj)) (σ : St) (H : Hp) (s : Shared) (e : Value) (s' : Shared), Inv X pins σ H s → CX X.stack H s E e s' → X.xe e s'

section
variable {X : Cx} {CX : CXT} {k : Nat} {f C : Addr} {fd : FuncData} {ps : List Str} {sp : Sp} {dvs : List V} {ds : List Value} {E : XK} {x m : Str} {p pos apos : Pos} {e o : Expr} {es : List Expr} {ta : TE} {t : TA}

/-- the callee runs -/
theorem run_fn {pins : List (Addr × Obj)} {σ : St} {H : Hp} {s : Shared} {Q : VK} {us : List Value} {vs : List V} (F : FnOk X.prog X.w X.K X.mg X.base CX k f fd ps sp) (hr : Room k X.A) (hb : Binds X.K fd ps ds) (hd : Vals dvs ds) (hx : Passes CX X E)
    (I : Inv X pins σ H s) (r : Vals vs us) (h : sp (vs ++ dvs) H Q E) : wpAny (model X.prog X.w) X.A (call (.ref f) us) (EP X pins σ Q) X.xe s := by
  have r2 : Vals (vs ++ dvs) (us ++ ds) := r.append hd
  have hl : (us ++ ds).length = ps.length := by rw [← r2.length]; exact F.len _ _ _ _ h
  refine wpAny_call (codeAny_mono (F.run X.A X.stack s H ⟨us, []⟩ (us ++ ds) (vs ++ dvs) Q E hr I.env0 (hb s us I.kIn hl) r2 h) fun r s' hq => ?_)
  cases r with
  | error e => exact hx pins σ H s e s' I hq
  | ok fl =>
    cases fl with
    | ret u => exact I.after hq
    | next => exact False.elim hq
    | brk => exact False.elim hq
    | cont => exact False.elim hq

theorem pe_call (F : FnOk X.prog X.w X.K X.mg X.base CX k f fd ps sp) (hr : Room k X.A) (hg : Gl X x) (hm : X.mg x = some (.ref f)) (hk : PySem.W.keepIn X.K (.ref f) = true) (hb : Binds X.K fd ps ds) (hd : Vals dvs ds) (hx : Passes CX X E)
    (ha : PA X (e :: es) t) (hdb : (x == ("__debug__" : Str)) = false := by decide) (he : starEach (e :: es) X.env = (false, eval e X.env) :: starEach es X.env := by rfl) (hpl : (backTo pos (starEach es X.env)).any (·.1) = false := by rfl) :
    PE X (.Call (.Name x p) (e :: es) [] pos) (tCall sp dvs E t) := by
  intro pins s σ H Q I h
  refine wpAny_Call_Name_kw (ld_glob I hg hm ?_ hdb)
  refine PySem.W.callWith_K (h₀ := X.base) I.ok.mod.kin hk (thn (ha pos pins s σ H _ I h) fun us s1 ⟨vs, H1, I1, r, q⟩ => ⟨I1.kIn, ?_⟩) he hpl
  exact run_fn F hr hb hd hx I1 r q
/-- what a class must have to be made -/
structure Mk (K : PySem.W.Frag) (C f : Addr) : Prop where
  makes : PySem.W.makesIn K C = true
  init : PySem.W.findIn K (.ref C) "__init__" = some (some (.ref f))
  fn : PySem.W.isFn K (.ref f) = true
  kp : PySem.W.keepIn K (.ref C) = true

theorem run_make {pins : List (Addr × Obj)} {σ : St} {H : Hp} {s : Shared} {Q : VK} {us : List Value} {vs : List V} (M : Mk X.K C f) (F : FnOk X.prog X.w X.K X.mg X.base CX k f fd ps sp) (hr : Room (k + 1) X.A) (hb : Binds X.K fd ps ds) (hd : Vals dvs ds)
    (hx : Passes CX X E) (I : Inv X pins σ H s) (r : Vals vs us)
    (h : ∀ x dx, H x = none → H dx = none → dx ≠ x → sp (.ref x :: (vs ++ dvs)) (upd (upd H dx (.own x)) x (.ins C dx [])) (fun v H2 => v = .non ∧ Q (.ref x) H2) E) :
    wpAny (model X.prog X.w) X.A (call (.ref C) us) (EP X pins σ Q) X.xe s := by
  have hq := h (s.heap.objs.size + 1) s.heap.objs.size (I.hok.fresh (Nat.le_succ _)) (I.hok.fresh (Nat.le_refl _)) (Nat.ne_of_lt (Nat.lt_succ_self _))
  have I2 := Inv.made (C := C) I
  have r2 : Vals (V.ref (s.heap.objs.size + 1) :: (vs ++ dvs)) (Value.ref (s.heap.objs.size + 1) :: (us ++ ds)) := .cons rfl (r.append hd)
  have hl : (Value.ref (s.heap.objs.size + 1) :: us ++ ds).length = ps.length := by
    have e := r2.length
    rw [F.len _ _ _ _ hq] at e
    exact e.symm
  refine wpAny_call (make_map (f := f) I.kIn M.makes M.init (beq_iff_eq.mp M.fn) (codeAny_mono (F.run _ X.stack _ _ ⟨Value.ref (s.heap.objs.size + 1) :: us, []⟩ (Value.ref (s.heap.objs.size + 1) :: (us ++ ds)) _ _ E (hr.make C us [])
    (I2.env0.make C us []) (hb _ (Value.ref (s.heap.objs.size + 1) :: us) I2.kIn hl) r2 hq) fun r s' hq' => ?_))
  cases r with
  | error e => exact hx pins σ _ _ e s' I2 hq'
  | ok fl =>
    cases fl with
    | ret u =>
      obtain ⟨v, H', I3, rv, ev, q3⟩ := I2.after hq'
      subst ev
      exact ⟨rv, ⟨V.ref (s.heap.objs.size + 1), H', I3, rfl, q3⟩⟩
    | next => exact False.elim hq'
    | brk => exact False.elim hq'
    | cont => exact False.elim hq'
theorem pe_make (M : Mk X.K C f) (F : FnOk X.prog X.w X.K X.mg X.base CX k f fd ps sp) (hr : Room (k + 1) X.A) (hg : Gl X x) (hm : X.mg x = some (.ref C)) (hb : Binds X.K fd ps ds) (hd : Vals dvs ds) (hx : Passes CX X E)
    (ha : PA X (e :: es) t) (hdb : (x == ("__debug__" : Str)) = false := by decide) (he : starEach (e :: es) X.env = (false, eval e X.env) :: starEach es X.env := by rfl) (hpl : (backTo pos (starEach es X.env)).any (·.1) = false := by rfl) :
    PE X (.Call (.Name x p) (e :: es) [] pos) (tMake C sp dvs E t) := by
  intro pins s σ H Q I h
  refine wpAny_Call_Name_kw (ld_glob I hg hm ?_ hdb)
  refine PySem.W.callWith_K (h₀ := X.base) I.ok.mod.kin M.kp (thn (ha pos pins s σ H _ I h) fun us s1 ⟨vs, H1, I1, r, q⟩ => ⟨I1.kIn, ?_⟩) he hpl
  exact run_make M F hr hb hd hx I1 r q
theorem pe_make0 (M : Mk X.K C f) (F : FnOk X.prog X.w X.K X.mg X.base CX k f fd ps sp) (hr : Room (k + 1) X.A) (hg : Gl X x) (hm : X.mg x = some (.ref C)) (hb : Binds X.K fd ps ds) (hd : Vals dvs ds) (hx : Passes CX X E)
    (hdb : (x == ("__debug__" : Str)) = false := by decide) : PE X (.Call (.Name x p) [] [] pos) (tMake C sp dvs E tNil) := by
  intro pins s σ H Q I h
  refine wpAny_Call_Name_kw (ld_glob I hg hm ?_ hdb)
  exact PySem.W.callWith_K0 I.kIn M.kp (run_make (us := []) M F hr hb hd hx I .nil h)
end

/-! ### keywords -/
/-- the values of the keywords, from the left -/
def PK (X : Cx) (kws : List Keyword) (t : TA) : Prop :=
  ∀ (pos : Pos) (pins : List (Addr × Obj)) (s : Shared) (σ : St) (H : Hp) (Q : List V → Hp → Prop), Inv X pins σ H s → t σ H Q → wpAny (model X.prog X.w) X.A (evalAll ((backToKw pos (keywordEach kws X.env)).map (·.2))) (AP X pins σ Q) X.xe s
section
variable {X : Cx} {CX : CXT} {k : Nat} {f C : Addr} {fd : FuncData} {ps ks : List Str} {sp : Sp} {E : XK} {x m : Str} {p pos apos kpos : Pos} {e o : Expr} {es : List Expr} {kws : List Keyword} {te ta : TE} {t tk : TA} {nm : Option Str}
/-- how a call with keywords binds: g puts the positional values us and the keywords' values ws (names ks) in the parameters' order, defaults among them -/
structure KBinds (K : PySem.W.Frag) (fd : FuncData) (ps ks : List Str) (g : List Value → List Value → List Value) (gV : List V → List V → List V) : Prop where
  to : ∀ (s : Shared) (us ws : List Value), K.In s.heap → (g us ws).length = ps.length → BindsTo s fd ⟨us, ks.zip ws⟩ (ps.zip (g us ws))
  rel : ∀ {vs : List V} {us : List Value} {zs : List V} {ws : List Value}, Vals vs us → Vals zs ws → Vals (gV vs zs) (g us ws)
def tCallK (sp : Sp) (gV : List V → List V → List V) (E : XK) (t tk : TA) : TE := fun σ H Q => t σ H fun vs H1 => tk σ H1 fun zs H2 => sp (gV vs zs) H2 Q E
variable {g : List Value → List Value → List Value} {gV : List V → List V → List V}
end

/-! ### a def's body keeps its promise -/
/-- names: the parameters first -/
structure FnScope (N P : List Str) (sc : Scope) : Prop where
  kind : sc.kind = .function
  co : sc.isCoroutine = false
  gen : sc.isGenerator = false
  nd : N.Nodup
  pre : N.take P.length = P
  par : ∀ x ∈ P, sc.names.lookup x = some .local ∨ sc.names.lookup x = some .cell
  nofree : ∀ y ∈ sc.names, y.2 ≠ .free

theorem bindL_out {kindOf : Str → Option NameKind} {x : Str} : ∀ {binds : List (Str × Value)} {m : Str → Option Value}, (∀ v, (x, v) ∉ binds) → bindL kindOf binds m x = m x
  | [], _, _ => rfl
  | (n, v) :: r, m, h => by
    unfold bindL
    rw [bindL_out fun w hw => h w (List.mem_cons_of_mem _ hw)]
    split
    · have : x ≠ n := by rintro rfl; exact h v List.mem_cons_self
      simp [this]
    · rfl
theorem bindC_out {kindOf : Str → Option NameKind} {x : Str} : ∀ {binds : List (Str × Value)} {m : Str → Option Value}, (∀ v, (x, v) ∉ binds) → bindC kindOf binds m x = m x
  | [], _, _ => rfl
  | (n, v) :: r, m, h => by
    unfold bindC
    rw [bindC_out fun w hw => h w (List.mem_cons_of_mem _ hw)]
    split
    · rfl
    · have : x ≠ n := by rintro rfl; exact h v List.mem_cons_self
      simp [this]
theorem bindL_get {kindOf : Str → Option NameKind} {x : Str} {v : Value} : ∀ {P : List Str} {vs : List Value} {i : Nat} {m : Str → Option Value}, P.Nodup → P[i]? = some x → vs[i]? = some v → kindOf x = some .local →
    bindL kindOf (P.zip vs) m x = some v
  | [], _, _, _, _, h, _, _ => by simp at h
  | _ :: _, [], _, _, _, _, h, _ => by simp at h
  | p :: P, w :: vs, 0, m, nd, h1, h2, hk => by
    simp at h1 h2; subst h1; subst h2
    show bindL kindOf ((p, w) :: P.zip vs) m p = _
    unfold bindL
    rw [bindL_out fun v hv => (List.nodup_cons.mp nd).1 (List.of_mem_zip hv).1, if_pos hk]
    simp
  | p :: P, w :: vs, i + 1, m, nd, h1, h2, hk => by
    show bindL kindOf ((p, w) :: P.zip vs) m x = _
    unfold bindL
    exact bindL_get (i := i) (List.nodup_cons.mp nd).2 (by simpa using h1) (by simpa using h2) hk
theorem bindC_get {kindOf : Str → Option NameKind} {x : Str} {v : Value} : ∀ {P : List Str} {vs : List Value} {i : Nat} {m : Str → Option Value}, P.Nodup → P[i]? = some x → vs[i]? = some v → kindOf x ≠ some .local →
    bindC kindOf (P.zip vs) m x = some v
  | [], _, _, _, _, h, _, _ => by simp at h
  | _ :: _, [], _, _, _, _, h, _ => by simp at h
  | p :: P, w :: vs, 0, m, nd, h1, h2, hk => by
    simp at h1 h2; subst h1; subst h2
    show bindC kindOf ((p, w) :: P.zip vs) m p = _
    unfold bindC
    rw [bindC_out fun v hv => (List.nodup_cons.mp nd).1 (List.of_mem_zip hv).1, if_neg hk]
    simp
  | p :: P, w :: vs, i + 1, m, nd, h1, h2, hk => by
    show bindC kindOf ((p, w) :: P.zip vs) m x = _
    unfold bindC
    exact bindC_get (i := i) (List.nodup_cons.mp nd).2 (by simpa using h1) (by simpa using h2) hk

/-- the names' values at the entry -/
def start (N : List Str) (vs : List V) : St := vs.map some ++ List.replicate (N.length - vs.length) none

/-- the context of a def's body, at its entry; an exception leaves the frame, then lies as CX says -/
def cxOf (CX : CXT) (P : Program) (w : World) (K : PySem.W.Frag) (mg : Str → Option Value) (base : Heap) (N : List Str) (qual : Str) (scope : Scope) (f : Addr) (cd : Value) (A : Around) (outer : List Env) (s : Shared) (H : Hp) (E : XK) : Cx where
  prog := P
  w := w
  K := K
  mg := mg
  base := base
  A := A.deeper (envOfC qual scope s.heap.objs.size f cd)
  N := N
  s_0 := s
  H_0 := H
  env := envOfC qual scope s.heap.objs.size f cd
  outer := outer
  stack := envOfC qual scope s.heap.objs.size f cd :: outer
  ex := []
  calm := true
  fn := fun _ => true
  pn := []
  xe := fun e s' => wpAny (model P w) (A.deeper (envOfC qual scope s.heap.objs.size f cd)) (leaving (envOfC qual scope s.heap.objs.size f cd) e) (fun _ s'' => CX outer H s E e s'') (fun e' s'' => CX outer H s E e' s'') s'

theorem cell_has {sc : Scope} {n : Nat} {x : Str} (h : sc.names.lookup x = some .cell) : ∃ c, (cellsFrom n sc.names []).lookup x = some c := by
  have q := PySem.W.cellsFrom_some sc.names n [] (.inl h)
  exact Option.isSome_iff_exists.mp q

theorem inv_start {CX : CXT} {P : Program} {w : World} {K : PySem.W.Frag} {mg : Str → Option Value} {base : Heap} {N ps : List Str} {qual : Str} {scope : Scope} {f : Addr} {cd : Value} {A : Around} {outer : List Env} {s s1 : Shared} {H : Hp} {E : XK} {us : List Value} {vs : List V}
    (S : FnScope N ps scope) (hd : A.handled = none) (e0 : Env0 P w K mg base A outer s H) (hl : vs.length = ps.length) (r : Vals vs us)
    (x : InCallC s s.heap.objs.size (bindL (envOfC qual scope s.heap.objs.size f cd).kindOf (ps.zip us) fun _ => none) (cellsFrom (s.heap.objs.size + 1) scope.names []) (bindC (envOfC qual scope s.heap.objs.size f cd).kindOf (ps.zip us) fun _ => none) s1) :
    Inv (cxOf CX P w K mg base N qual scope f cd A outer s H E) [] (start N vs) H s1 := by
  have hpl : ps.length ≤ N.length := by have := congrArg List.length S.pre; rw [List.length_take] at this; omega
  obtain ⟨h1, tk, rfl, hk⟩ := x.done
  have noA : ∀ b : Addr, b ∉ (cxOf CX P w K mg base N qual scope f cd A outer s H E).ex := fun b z => absurd (show b ∈ ([] : List Addr) from z) (by simp)
  refine ⟨⟨e0.mod, S.kind, rfl, rfl, Nat.le_refl _, fun y z c h1 h2 => ?_, fun y hy => ?_, fun y c _ h => ?_, fun _ => hd, Around.frames_deeper e0.frames, .inr ⟨rfl, rfl⟩, fun b z => absurd z (noA b), e0.bs, e0.bsz, fun b _ _ => noA b, fun b z => absurd z (noA b), e0.funs, e0.frf⟩,
    rfl, e0.bare, Un.kept hk, ⟨_, x.toInCall.ns, fun i y v h1 h2 h3 => ?_⟩, fun y c h => ⟨_, x.cell y c h⟩, e0.hok.fresh (Nat.le_refl _), fun y c h => ?_, fun p hp => absurd (show p ∈ ([] : List (Addr × Obj)) from hp) (by simp), e0.hok.kept hk, ?_⟩
  · exact name_of_addr x.apart (PySem.mem_of_lookup h1) (PySem.mem_of_lookup h2)
  · have hy : scope.names.lookup y = some .cell ∨ scope.names.lookup y = some .free := hy
    rcases hy with hy | hy
    · exact cell_has hy
    · exact absurd rfl (S.nofree _ (PySem.mem_of_lookup hy))
  · exact Nat.le_of_lt (x.above y c (PySem.mem_of_lookup h))
  · have hi : i < vs.length := by
      unfold start at h2
      by_cases hi : i < vs.length
      · exact hi
      · rw [List.getElem?_append_right (by simpa using hi)] at h2
        rw [List.getElem?_replicate] at h2
        split at h2 <;> cases h2
    have ha : vs[i]? = some v := by
      unfold start at h2
      rw [List.getElem?_append_left (by simpa using hi), List.getElem?_map] at h2
      cases e : vs[i]? with
      | none => rw [e] at h2; cases h2
      | some a => rw [e] at h2; cases h2; rfl
    obtain ⟨u, hu, rv⟩ := r.get ha
    have hp : ps[i]? = some y := by
      rw [← S.pre, List.getElem?_take_of_lt (by omega)]; exact h1
    have ndP : ps.Nodup := by rw [← S.pre]; exact S.nd.sublist (List.take_sublist _ _)
    refine ⟨u, rv, ?_⟩
    rcases S.par y (List.mem_of_getElem? hp) with k | k
    · exact .inl ⟨k, bindL_get ndP hp hu k⟩
    · obtain ⟨c, e⟩ := cell_has (n := s.heap.objs.size + 1) k
      refine .inr ⟨.inl k, c, e, ?_⟩
      have q := x.cell y c e
      rw [bindC_get ndP hp hu (by show scope.names.lookup y ≠ _; rw [k]; decide)] at q
      exact q
  · exact e0.hok.fresh (Nat.le_of_lt (x.above y c (PySem.mem_of_lookup h)))
  · unfold start
    show _ = N.length
    rw [List.length_append, List.length_map, List.length_replicate]
    omega

/-- THE RULE: a def (or a method) of the text, by its body. The body's reading t is chosen for each entry; it is run at the parameters' values -/
theorem fn_of {CX : CXT} {P : Program} {w : World} {K : PySem.W.Frag} {mg : Str → Option Value} {base : Heap} {k : Nat} {f : Addr} {name qual : Str} {params : Arguments} {body : List Stmt} {scope : Scope} {dV kV doc pm cdv ct oc : Value} {an od : Option Addr}
    {osl : Array (Option Value)} {N ps : List Str} {sp : Sp} (lk : K.lookup f = some ⟨oc, od, .func (PySem.W.fnOf name qual params body scope dV kV doc pm an cdv ct), osl⟩) (hcd : PySem.W.codeIn K cdv qual = true) (S : FnScope N ps scope)
    (len : ∀ vs H Q E, sp vs H Q E → vs.length = ps.length)
    (hbody : ∀ (A : Around) (outer : List Env) (s : Shared) (H : Hp) (vs : List V) (Q : VK) (E : XK), Room k (A.deeper (envOfC qual scope s.heap.objs.size f cdv)) → sp vs H Q E →
      ∃ t, PSs (cxOf CX P w K mg base N qual scope f cdv A outer s H E) body t ∧ t { nx := fun _ H' => Q .non H', rt := Q } (start N vs) H) :
    FnOk P w K mg base CX (k + 1) f (PySem.W.fnOf name qual params body scope dV kV doc pm an cdv ct) ps sp := by
  refine ⟨len, fun A outer s H args us vs Q E hr e0 hb r hsp => ?_⟩
  have hl := len _ _ _ _ hsp
  have KX : K.In s.heap := e0.mod.kin.keeps fun b o e => (e0.bs b o e).1
  have lim : s.heap.NoLimit := e0.mod.nolimit.keeps fun b o e => (e0.bs b o e).1
  have hkind : ∀ y ∈ ps.zip us, scope.names.lookup y.1 = some .local ∨ (scope.names.lookup y.1 = some .cell ∧ ((cellsFrom (s.heap.objs.size + 1) scope.names []).lookup y.1).isSome = true) := fun ⟨n, v⟩ hy => by
    rcases S.par n (List.of_mem_zip hy).1 with q | q
    · exact .inl q
    · exact .inr ⟨q, PySem.W.cellsFrom_some _ _ _ (.inl q)⟩
  refine codeAny_call_function hr.depth (KX _ _ lk) rfl S.co S.gen rfl (PySem.W.codeRec_of KX hcd) (hb _ _ _ _ ?_)
  refine wpAny_newFunctionEnv_cells S.kind hkind fun env he s1 x => ?_
  subst he
  refine ⟨lim.keeps x.toInCall.keep, codeAny_func ?_⟩
  obtain ⟨t, ht, hq⟩ := hbody A outer s H vs Q E (hr.deeper _) hsp
  have I : Inv (cxOf CX P w K mg base N qual scope f cdv A outer s H E) [] (start N vs) H s1 := inv_start S hr.hd e0 hl r x
  refine wpAny_mono (ht [] s1 (start N vs) H _ I hq) (fun fl s' hs => ?_) fun e s' hs => hs
  have fin : ∀ {σ' : St} {H' : Hp} {v : V} {u : Value}, Inv (cxOf CX P w K mg base N qual scope f cdv A outer s H E) [] σ' H' s' → RelV v u → Q v H' → CE outer P w H s Q u s' :=
    fun {σ' H' v u} J rv q => ⟨v, H', J.os, J.bare, J.base, J.hok, rv, q⟩
  cases fl with
  | ret u =>
    obtain ⟨v, σ', H', J, rv, q⟩ := hs
    exact fin J rv q
  | next =>
    obtain ⟨σ', H', J, q⟩ := hs
    exact fin (v := V.non) (u := Value.none) J rfl q
  | brk =>
    obtain ⟨_, _, _, q⟩ := hs
    exact False.elim q
  | cont =>
    obtain ⟨_, _, _, q⟩ := hs
    exact False.elim q
end L2

namespace L2
open PySem PySem.Spec PyProof.Rows
section
variable {X : Cx} {x : Str} {p pos : Pos} {e : Expr} {es : List Expr} {t : TA} {id T : String} {r : List V → Hp → VK → Prop}

def tCB (r : List V → Hp → VK → Prop) (t : TA) : TE := fun σ H Q => t σ H fun vs H1 => r vs H1 Q
/-- f(e, ..), f a built-in function -/
theorem pe_callB (hc : CallR X (.builtin id) r) (hg : Gl X x) (hm : X.mg x = none) (hv : bootBuiltins x = some (.builtin id)) (ha : PA X (e :: es) t) (hn : x ≠ "__name__" := by decide) (hdb : (x == ("__debug__" : Str)) = false := by decide)
    (he : starEach (e :: es) X.env = (false, eval e X.env) :: starEach es X.env := by rfl) (hpl : (backTo pos (starEach es X.env)).any (·.1) = false := by rfl) : PE X (.Call (.Name x p) (e :: es) [] pos) (tCB r t) := by
  intro pins s σ H Q I h
  refine wpAny_Call_Name_kw (ld_blt I hg hm hv ?_ hn hdb)
  exact PyProof.Rows.callWith_builtin1 (thn (ha pos pins s σ H _ I h) fun us s1 ⟨vs, H1, I1, r1, q1⟩ => hc pins s1 σ H1 vs us Q I1 r1 q1) he hpl
/-- T(e, ..), T a built-in type -/
theorem pe_callTy (hc : CallR X (.type T) r) (hg : Gl X x) (hm : X.mg x = none) (hv : bootBuiltins x = some (.type T)) (ha : PA X (e :: es) t) (hn : x ≠ "__name__" := by decide) (hdb : (x == ("__debug__" : Str)) = false := by decide)
    (he : starEach (e :: es) X.env = (false, eval e X.env) :: starEach es X.env := by rfl) (hpl : (backTo pos (starEach es X.env)).any (·.1) = false := by rfl) : PE X (.Call (.Name x p) (e :: es) [] pos) (tCB r t) := by
  intro pins s σ H Q I h
  refine wpAny_Call_Name_kw (ld_blt I hg hm hv ?_ hn hdb)
  exact PyProof.Rows.callWith_type1 (thn (ha pos pins s σ H _ I h) fun us s1 ⟨vs, H1, I1, r1, q1⟩ => hc pins s1 σ H1 vs us Q I1 r1 q1) he hpl
end
end L2

namespace HT
open PySem PyProof.Rows

/-- t < u of tuples of ints -/
def lexLt : List Int → List Int → Bool
  | [], [] => false
  | [], _ :: _ => true
  | _ :: _, [] => false
  | x :: xs, y :: ys => if x = y then lexLt xs ys else decide (x < y)
theorem lexLt_cons (x y : Int) (xs ys : List Int) : lexLt (x :: xs) (y :: ys) = if x = y then lexLt xs ys else decide (x < y) := rfl
theorem rcLt_int (A : Around) (s : Shared) (a : Int) (t : Tok) (c : Int) (u : Tok) (prog : Program) (w : World) (E : Value → Shared → Prop) (Q : Value → Shared → Prop) (h : Q (.bool (decide (a < c))) s) :
    wpAny (model prog w) A (richCompare .Lt (.int a t) (.int c u)) Q E s :=
  (PyProof.Rows.lt_int h : wpAny (model prog w) A (compareOp .Lt (.int a t) (.int c u)) Q E s)

section
open PySem.SeqAt
open PySem.AutoSeq1 (wpAny_loadPart')
open PySem.MeetsSeq PySem.MeetsSeq2 PySem.MeetsSeq3

end

section
variable {prog : Program} {w : World} {A : Around} {E : Value → Shared → Prop} {s : Shared}

/-! ### t[a:b], not the whole -/
/-- a slice's bound as a place among n (d where it is left out) -/
def sIx (n d : Nat) : Option Int → Nat
  | none => d
  | some v => if v < 0 then (v + (n : Int)).toNat else min v.toNat n
theorem sIx_none (n d : Nat) : sIx n d none = d := rfl
theorem sIx_nat (n d k : Nat) : sIx n d (some (k : Int)) = min k n := by
  show (if (k : Int) < 0 then ((k : Int) + (n : Int)).toNat else min (k : Int).toNat n) = min k n
  rw [if_neg (by omega), Int.toNat_natCast]
end
end HT

namespace L2
open PySem PySem.Spec PyProof.Rows

/-! ### the parts of a slice -/
abbrev TO := St → Hp → (Option Int → Hp → Prop) → Prop
/-- a slice's part (left out, or an int) -/
def PO (X : Cx) (e : Option Expr) (t : TO) : Prop :=
  ∀ (pins : List (Addr × Obj)) (s : Shared) (σ : St) (H : Hp) (Q : Option Int → Hp → Prop), Inv X pins σ H s → t σ H Q →
    wpAny (model X.prog X.w) X.A (evalPart e X.env) (fun u s' => ∃ o H', Inv X pins σ H' s' ∧ IsPart u o ∧ Q o H') X.xe s
def tNoPart : TO := fun _ H Q => Q none H
def tPart (t : TE) : TO := fun σ H Q => t σ H fun x H1 => ∃ i, x = .int i ∧ Q (some i) H1

section
variable {X : Cx} {e : Expr} {te : TE} {lo hi : Option Expr} {tl th : TO} {pos p2 : Pos}

theorem po_none : PO X none tNoPart := by
  intro pins s σ H Q I h
  rw [evalPart_none]
  exact wpAny_pure ⟨none, H, I, .none, h⟩
theorem po_some (h : PE X e te) : PO X (some e) (tPart te) := by
  intro pins s σ H Q I hw
  rw [evalPart_some]
  refine thn (h pins s σ H _ I hw) fun u s1 ⟨x, H1, I1, r1, q1⟩ => ?_
  obtain ⟨i, rfl, q⟩ := q1
  obtain ⟨t, rfl⟩ := r1
  exact ⟨some i, H1, I1, .int i t, q⟩

/-- what a slice of a value is, by values: the slice object stands at sl -/
def SlR (X : Cx) (r : V → Option Int → Option Int → Hp → VK → Prop) : Prop :=
  ∀ (pins : List (Addr × Obj)) (s : Shared) (σ : St) (H : Hp) (x : V) (v vl vu : Value) (lo hi : Option Int) (sl : Addr) (Q : VK), Inv X pins σ H s → RelV x v → s.heap.IsSliceOf sl vl vu .none → IsPart vl lo → IsPart vu hi → r x lo hi H Q →
    ∃ T id, typeLookup (.type T) "__getitem__" = pure (some (.builtin id)) ∧ s.TypeIs v T ∧ wpAny (model X.prog X.w) X.A (getItem v (.ref sl)) (EP X pins σ Q) X.xe s
def tSl (r : V → Option Int → Option Int → Hp → VK → Prop) (te : TE) (tl th : TO) : TE := fun σ H Q => te σ H fun x H1 => tl σ H1 fun l H2 => th σ H2 fun u H3 => r x l u H3 Q
/-- a[lo:hi], any a -/
theorem pe_slice {r : V → Option Int → Option Int → Hp → VK → Prop} (hr : SlR X r) (he : PE X e te) (hl : PO X lo tl) (hu : PO X hi th) : PE X (.Subscript e (.Slice lo hi none p2) pos) (tSl r te tl th) := by
  intro pins s σ H Q I h
  refine Subscript_ (thn (he pins s σ H _ I h) fun v s1 ⟨x, H1, I1, r1, q1⟩ => ?_)
  refine wpAny_Slice (thn (hl pins s1 σ H1 _ I1 q1) fun vl s2 ⟨l, H2, I2, pl, q2⟩ => thn (hu pins s2 σ H2 _ I2 q2) fun vu s3 ⟨u, H3, I3, pu, q3⟩ => ?_)
  rw [evalPart_none]
  refine wpAny_pure ?_
  have I4 : Inv X pins σ H3 { s3 with heap := s3.heap.push { cls := .type "slice", data := .fields #[vl, vu, .none] } } := I3.kept (t' := s3.toks) fun b ob q => Heap.get?_push_of_some _ q
  obtain ⟨T, id, hT, ht, hg⟩ := hr pins { s3 with heap := s3.heap.push { cls := .type "slice", data := .fields #[vl, vu, .none] } } σ H3 x v vl vu l u s3.heap.objs.size Q I4 r1 (Heap.IsSliceOf.new ..) pl pu q3
  show wpAny (model X.prog X.w) X.A (subscriptTail e (.Slice lo hi none p2) v (.ref s3.heap.objs.size)) (EP X pins σ Q) X.xe { s3 with heap := s3.heap.push { cls := .type "slice", data := .fields #[vl, vu, .none] } }
  exact tail_any (ops := [.ref s3.heap.objs.size, v]) ht hT hg (by with_unfolding_all rfl)

/-- the items of xs[lo:hi] -/
def cutV (xs : List V) (lo hi : Option Int) : List V := (xs.drop (HT.sIx xs.length 0 lo)).take (HT.sIx xs.length xs.length hi - HT.sIx xs.length 0 lo)
theorem cutV_length (xs : List V) (lo hi : Option Int) : (cutV xs lo hi).length ≤ xs.length := by
  unfold cutV
  rw [List.length_take, List.length_drop]
  omega
/-- t[lo:hi], not the whole of it (the whole would be t itself) -/
def rSlT (K : PySem.W.Frag) : V → Option Int → Option Int → Hp → VK → Prop := fun x lo hi H Q => ∃ a xs, x = .ref a ∧ SqT K H a xs ∧
  ¬ (HT.sIx xs.length 0 lo = 0 ∧ HT.sIx xs.length xs.length hi = xs.length) ∧ ∀ p, H p = none → Q (.ref p) (upd H p (.tup (cutV xs lo hi)))
/-! ### t < u, t + u -/
def rLtT (K : PySem.W.Frag) : R2 := fun x y H Q => ∃ a b ns ms, x = .ref a ∧ y = .ref b ∧ SqT K H a (ns.map V.int) ∧ SqT K H b (ms.map V.int) ∧ Q (.bl (HT.lexLt ns ms)) H
/-- t + u, t not empty: u empty gives t itself -/
def rCatT (K : PySem.W.Frag) : R2 := fun x y H Q => ∃ a b xs ys, x = .ref a ∧ y = .ref b ∧ SqT K H a xs ∧ SqT K H b ys ∧ xs ≠ [] ∧ xs.length + ys.length ≤ sizeLine ∧
  (ys = [] → Q (.ref a) H) ∧ (ys ≠ [] → ∀ p, H p = none → Q (.ref p) (upd H p (.tup (xs ++ ys))))
end
end L2

namespace L2
open PySem PySem.Spec PyProof.Rows

/-! ### places -/
/-- the place that an index of any sign means -/
def ixN (n : Nat) (i : Int) : Option Nat := if 0 ≤ i then (if i < n then some i.toNat else none) else if -(n : Int) ≤ i then some (i + n).toNat else none
def atI {α : Type} (xs : List α) (i : Int) : Option α := (ixN xs.length i).bind fun j => xs[j]?
theorem ixN_seq {n : Nat} {i : Int} {j : Nat} (h : ixN n i = some j) : seqIndex? i n = some j ∧ j < n ∧ -(n : Int) ≤ i ∧ i < n := by
  unfold ixN at h
  by_cases h0 : 0 ≤ i
  · rw [if_pos h0] at h
    by_cases h1 : i < n
    · rw [if_pos h1] at h
      have e : i.toNat = j := Option.some.inj h
      exact ⟨by rw [seqIndex_of h0 h1, e], by omega, by omega, h1⟩
    · rw [if_neg h1] at h; cases h
  · rw [if_neg h0] at h
    by_cases h1 : -(n : Int) ≤ i
    · rw [if_pos h1] at h
      have e : (i + n).toNat = j := Option.some.inj h
      exact ⟨by rw [seqIndex_neg (by omega) h1, e], by omega, h1, by omega⟩
    · rw [if_neg h1] at h; cases h
theorem atI_get {α : Type} {xs : List α} {i : Int} {v : α} (h : atI xs i = some v) : ∃ j, seqIndex? i xs.length = some j ∧ xs[j]? = some v ∧ j < xs.length ∧ -(xs.length : Int) ≤ i ∧ i < xs.length := by
  unfold atI at h
  cases e : ixN xs.length i with
  | none => rw [e] at h; cases h
  | some j =>
    rw [e] at h
    obtain ⟨h1, h2, h3, h4⟩ := ixN_seq e
    exact ⟨j, h1, h, h2, h3, h4⟩
theorem atI_nat {α : Type} {xs : List α} {j : Nat} {v : α} (h : xs[j]? = some v) : atI xs (j : Int) = some v := by
  have hj : j < xs.length := (List.getElem?_eq_some_iff.mp h).1
  have e : ixN xs.length (j : Int) = some j := by
    unfold ixN
    rw [if_pos (by omega), if_pos (by omega)]; simp
  unfold atI; rw [e]; exact h
/-! ### what may be subscripted -/
/-- what stands as an index of a plain subscript -/
def PlainIx (b : Expr) : Prop := ∀ o i, subscripted b false o i = operate [o, i] (getItem o i)
/-- a subscript by values -/
def IxR (X : Cx) (r : R2) : Prop :=
  ∀ (value slice : Expr) (pins : List (Addr × Obj)) (s : Shared) (σ : St) (H : Hp) (x y : V) (v u : Value) (Q : VK), Inv X pins σ H s → RelV x v → RelV y u → r x y H Q →
    subscripted slice false v u = operate [v, u] (getItem v u) → wpAny (model X.prog X.w) X.A (subscriptTail value slice v u) (EP X pins σ Q) X.xe s
/-- a call of a builtin's method by values: the receiver, the arguments -/
def MtR (X : Cx) (id : String) (r : V → List V → Hp → VK → Prop) : Prop :=
  ∀ (pins : List (Addr × Obj)) (s : Shared) (σ : St) (H : Hp) (x : V) (xs : List V) (v : Value) (us : List Value) (Q : VK), Inv X pins σ H s → RelV x v → Vals xs us → r x xs H Q →
    wpAny (model X.prog X.w) X.A (call (.builtin id) (v :: us)) (EP X pins σ Q) X.xe s
section
variable {X : Cx} {a b : Expr} {ta tb : TE} {pos : Pos}
/-- a[b] -/
theorem pe_ix {r : R2} (hr : IxR X r) (ha : PE X a ta) (hb : PE X b tb) (hs : PlainIx b) : PE X (.Subscript a b pos) (tOp r ta tb) := by
  intro pins s σ H Q I h
  exact Subscript_ (binT ha hb I h fun v u s2 x y H2 I2 rx ry q => hr a b pins s2 σ H2 x y v u Q I2 rx ry q (hs _ _))

def rIxL (K : PySem.W.Frag) : R2 := fun x y H Q => ∃ p xs i v, x = .ref p ∧ y = .int i ∧ SqL K H p xs ∧ atI xs i = some v ∧ Q v H
def rIxT (K : PySem.W.Frag) : R2 := fun x y H Q => ∃ p xs i v, x = .ref p ∧ y = .int i ∧ SqT K H p xs ∧ atI xs i = some v ∧ Q v H
def rIxS : R2 := fun x y H Q => ∃ z i c, x = .str z ∧ y = .int i ∧ z.length ≤ sizeLine ∧ atI z.cps.toList i = some c ∧ Q (.str ⟨#[c]⟩) H
theorem ix_list : IxR X (rIxL X.K) := by
  intro value slice pins s σ H x y v u Q I rx ry h hs
  obtain ⟨p, xs, i, z, rfl, rfl, hq, he, q⟩ := h
  cases rx
  obtain ⟨t, rfl⟩ := ry
  obtain ⟨its, r, pl, hz⟩ := I.list hq
  obtain ⟨j, h1, h2, h3, h4, h5⟩ := atI_get he
  obtain ⟨w, ew, rw'⟩ := r.get h2
  have hl := r.length
  have hn := line63
  have fin : EP X pins σ Q w s := ⟨z, H, I, rw', q⟩
  by_cases h0 : 0 ≤ i
  · have hj : i.toNat = j := by
      rw [seqIndex_of h0 h5] at h1
      exact Option.some.inj h1
    exact item_listR pl.isList h0 (by omega) (by rw [hj]; simpa using ew) fin hs
  · have hj : (i + (its.toArray.size : Int)).toNat = j := by
      rw [seqIndex_neg (by omega) h4] at h1
      rw [List.size_toArray, ← hl]
      exact Option.some.inj h1
    exact subscriptTail_builtinR (x := w) pl.isList.typeIs slot_list_getitem.lookup
      (wpAny_getItem_list_neg (Q := fun r s' => r = w ∧ EP X pins σ Q r s') pl.isList (by omega) (by rw [List.size_toArray] <;> omega) (by omega) (by rw [hj]; simpa using ew) ⟨rfl, fin⟩) hs
theorem ix_tup : IxR X (rIxT X.K) := by
  intro value slice pins s σ H x y v u Q I rx ry h hs
  obtain ⟨p, xs, i, z, rfl, rfl, hq, he, q⟩ := h
  cases rx
  obtain ⟨t, rfl⟩ := ry
  obtain ⟨its, r, pl, hz⟩ := I.tuple hq
  obtain ⟨j, h1, h2, h3, h4, h5⟩ := atI_get he
  obtain ⟨w, ew, rw'⟩ := r.get h2
  have hl := r.length
  have hn := line63
  have fin : EP X pins σ Q w s := ⟨z, H, I, rw', q⟩
  exact subscriptTail_builtinR (x := w) pl.typeIs slot_tuple_getitem.lookup
    (getItem_tuple (j := j) (Q := fun r s' => r = w ∧ EP X pins σ Q r s') pl (by omega) (by omega) (by rw [List.size_toArray, ← hl]; exact h1) (by simpa using ew) ⟨rfl, fin⟩) hs
/-- list, tuple or str -/
def rIx (K : PySem.W.Frag) : R2 := fun x y H Q => rIxL K x y H Q ∨ rIxT K x y H Q ∨ rIxS x y H Q
/-! ### xs[i] = v, any sign -/
/-- the list's object behind a store -/
theorem mapSeq_set (its : List Value) (n j : Nat) (u : Value) : Obj.mapSeq (·.setIfInBounds j u) { cls := .type "list", data := .seq its.toArray n } = { cls := .type "list", data := .seq (its.set j u).toArray n } := by
  simp [Obj.mapSeq]
theorem Inv.lst {pins : List (Addr × Obj)} {σ : St} {H : Hp} {s : Shared} {p : Addr} {xs : List V} (I : Inv X pins σ H s) (h : H p = some (.lst xs)) :
    ∃ (its : List Value) (n : Nat), Vals xs its ∧ s.heap.get? p = some { cls := .type "list", data := .seq its.toArray n } ∧ xs.length ≤ sizeLine := by
  obtain ⟨z, its, n, r, e⟩ := I.hok p _ h
  exact ⟨its, n, r, e, z⟩
/-- the list at p is written by an update of its object -/
theorem Inv.lstUpd {pins : List (Addr × Obj)} {σ : St} {H : Hp} {s : Shared} {p : Addr} {xs ys : List V} {its its' : List Value} {n n' : Nat} {f : Obj → Obj} (I : Inv X pins σ H s) (h : H p = some (.lst xs))
    (ho : s.heap.get? p = some { cls := .type "list", data := .seq its.toArray n }) (hf : f { cls := .type "list", data := .seq its.toArray n } = { cls := .type "list", data := .seq its'.toArray n' }) (r : Vals ys its') (hz : ys.length ≤ sizeLine) (t : Nat) :
    Inv X pins σ (upd H p (.lst ys)) { s with heap := s.heap.update p f, toks := t } := by
  have e : (s.heap.update p f).get? p = some { cls := .type "list", data := .seq its'.toArray n' } := by
    rw [Heap.get?_update_self f ho (by rw [hf] <;> rfl), hf]
  refine I.write (x := p) (e := p) (by rw [h]; trivial) (.inl rfl) (fun b u hb q => (Heap.get?_update_other _ _ (Ne.symm hb)).trans q) ⟨_, e⟩ ?_
  exact ⟨hz, its', n', r, e⟩
def rSetL : V → V → V → Hp → (Hp → Prop) → Prop := fun o i v H Q => ∃ p xs k j, o = .ref p ∧ i = .int k ∧ H p = some (.lst xs) ∧ ixN xs.length k = some j ∧ Q (upd H p (.lst (xs.set j v)))
theorem set_list : PSet X rSetL := by
  intro pins s σ H o i v ov iv u Q I ro ri rv h
  obtain ⟨p, xs, k, j, rfl, rfl, hp, hj, q⟩ := h
  cases ro
  obtain ⟨t, rfl⟩ := ri
  obtain ⟨its, n, r, ho, hz⟩ := I.lst hp
  obtain ⟨h1, h2, h3, h4⟩ := ixN_seq hj
  have hl := r.length
  have hn := line63
  have I' : Inv X pins σ (upd H p (.lst (xs.set j v))) { s with heap := s.heap.update p (Obj.mapSeq (·.setIfInBounds j u)) } :=
    I.lstUpd hp ho (mapSeq_set its n j u) (r.set rv j) (by rw [List.length_set]; exact hz) s.toks
  by_cases h0 : 0 ≤ k
  · have hk : k.toNat = j := by
      rw [seqIndex_of h0 h4] at h1
      exact Option.some.inj h1
    exact PySem.W.ki_setAt ho h0 (by omega) (by rw [List.size_toArray, ← hl]; exact h4) (by rw [hk]; exact ⟨_, I', q⟩)
  · have hk : (k + (its.toArray.size : Int)).toNat = j := by
      rw [seqIndex_neg (by omega) h3] at h1
      rw [List.size_toArray, ← hl]
      exact Option.some.inj h1
    exact PySem.W.ki_setBack ho (by omega) (by rw [List.size_toArray, ← hl]; exact h3) (by omega) (by rw [hk]; exact ⟨_, I', q⟩)

/-! ### slices -/
theorem slice_bounds (lo hi : Option Int) (n : Nat) : (sliceBounds lo hi none n).1 = ((HT.sIx n 0 lo : Nat) : Int) ∧ (sliceBounds lo hi none n).2.1 = ((HT.sIx n n hi : Nat) : Int) ∧ (sliceBounds lo hi none n).2.2 = 1 := by
  refine ⟨?_, ?_, rfl⟩
  · cases lo with
    | none => simp [sliceBounds, HT.sIx]
    | some i =>
      simp only [sliceBounds, HT.sIx, Option.getD_none, show (1 : Int) > 0 by decide, if_true]
      by_cases h : i < 0
      · simp only [h, if_true] <;> omega
      · simp only [h, if_false] <;> omega
  · cases hi with
    | none => simp [sliceBounds, HT.sIx]
    | some i =>
      simp only [sliceBounds, HT.sIx, Option.getD_none, show (1 : Int) > 0 by decide, if_true]
      by_cases h : i < 0
      · simp only [h, if_true] <;> omega
      · simp only [h, if_false] <;> omega
theorem slicePick_cut (its : List Value) (lo hi : Option Int) : slicePick its.toArray lo hi none = ((its.drop (HT.sIx its.length 0 lo)).take (HT.sIx its.length its.length hi - HT.sIx its.length 0 lo)).toArray := by
  obtain ⟨h1, h2, h3⟩ := slice_bounds lo hi its.toArray.size
  unfold slicePick
  rw [h1, h2, h3]
  simp only [sliceRange_one, pick_run, List.size_toArray] <;> rfl
/-- xs[lo:hi] of a list: a new list -/
def rSlL (K : PySem.W.Frag) : V → Option Int → Option Int → Hp → VK → Prop := fun x lo hi H Q => ∃ a xs, x = .ref a ∧ SqL K H a xs ∧ ∀ p, H p = none → Q (.ref p) (upd H p (.lst (cutV xs lo hi)))
theorem sl_list : SlR X (rSlL X.K) := by
  intro pins s σ H x v vl vu lo hi sl Q I rx hs pl pu h
  obtain ⟨a, xs, rfl, hx, q⟩ := h
  cases rx
  obtain ⟨its, r, ht, hz⟩ := I.list hx
  have hlen := r.length
  refine ⟨"list", _, slot_list_getitem.lookup, ht.isList.typeIs, ?_⟩
  refine wpAny_getItem_list_slice ht.isList hs pl pu .none (by simp) ?_ (by rw [List.size_toArray] <;> omega)
  rw [slicePick_cut, ← hlen]
  refine ⟨.ref s.heap.objs.size, _, I.laid (t' := s.toks) (o := .lst (cutV xs lo hi)) (fun b ob q => Heap.get?_push_of_some _ q) (Nat.le_refl _) ?_, rfl, q _ (I.hok.fresh (Nat.le_refl _))⟩
  exact ⟨Nat.le_trans (cutV_length xs lo hi) hz, _, 0, (r.drop (HT.sIx xs.length 0 lo)).take (HT.sIx xs.length xs.length hi - HT.sIx xs.length 0 lo), Heap.get?_push_size _ rfl⟩

/-! ### in, not in: flat items -/
def flatV : V → Bool
  | .non => true
  | .bl _ => true
  | .int _ => true
  | .str _ => true
  | _ => false
/-- == of flat values -/
def eqV : V → V → Bool
  | .non, .non => true
  | .bl a, .bl b => a == b
  | .bl a, .int b => (if a then 1 else 0) == b
  | .int a, .bl b => a == (if b then 1 else 0)
  | .int a, .int b => a == b
  | .str a, .str b => a == b
  | _, _ => false
/-- the items' answers, read off the values (a value's own answer does not lean on its token) -/
def eqU (x : V) (u : Value) : Bool := match u with
  | .none => eqV .non x
  | .bool b => eqV (.bl b) x
  | .int i _ => eqV (.int i) x
  | .str z _ => eqV (.str z) x
  | _ => false
def inV (x : V) (xs : List V) : Bool := xs.any fun y => eqV y x
/-- x in a list or tuple of flat items -/
def rIn (K : PySem.W.Frag) (neg : Bool) : R2 := fun x y H Q => ∃ p xs, y = .ref p ∧ (SqL K H p xs ∨ SqT K H p xs) ∧ flatV x = true ∧ xs.all flatV = true ∧ Q (.bl (if neg then !inV x xs else inV x xs)) H
/-! ### len, list(x), tuple(x) of any list or tuple that is read -/
theorem call_len_seq : CallR X (.builtin "len") (fun xs H Q => ∃ p ys, xs = [.ref p] ∧ (SqL X.K H p ys ∨ SqT X.K H p ys) ∧ Q (.int ys.length) H) := by
  intro pins s σ H xs us Q I r h
  obtain ⟨p, ys, rfl, hq, q⟩ := h
  obtain ⟨u, rfl, rx⟩ := vals1 r
  cases rx
  have hn := line63
  rcases hq with hq | hq
  · obtain ⟨its, r', pl, hz⟩ := I.list hq
    have hlen := r'.length
    exact Calls.call_len_list pl.isList (by simp only [List.size_toArray] <;> omega) ⟨.int ys.length, H, I.tok _, ⟨s.toks + 1, by rw [List.size_toArray, hlen]⟩, q⟩
  · obtain ⟨its, r', pl, hz⟩ := I.tuple hq
    have hlen := r'.length
    exact len_tuple pl (by simp only [List.size_toArray] <;> omega) ⟨.int ys.length, H, I.tok _, ⟨s.toks + 1, by rw [List.size_toArray, hlen]⟩, q⟩
theorem call_list_of : CallR X (.type "list") (fun xs H Q => ∃ p ys, xs = [.ref p] ∧ (SqL X.K H p ys ∨ SqT X.K H p ys) ∧ ∀ l, H l = none → Q (.ref l) (upd H l (.lst ys))) := by
  intro pins s σ H xs us Q I r h
  obtain ⟨p, ys, rfl, hq, q⟩ := h
  obtain ⟨u, rfl, rx⟩ := vals1 r
  cases rx
  have fin : ∀ (its : List Value), Vals ys its → ys.length ≤ sizeLine → ∀ (h' : Heap) (c' : Nat), (∀ b o', s.heap.get? b = some o' → h'.get? b = some o') →
      h'.get? s.heap.objs.size = some { cls := .type "list", dict := none, data := .seq its.toArray c', slots := #[] } → EP X pins σ Q (.ref s.heap.objs.size) { s with heap := h' } := fun its r' hz h' c' kp e =>
    ⟨.ref s.heap.objs.size, _, I.laid (t' := s.toks) kp (Nat.le_refl _) (show ObjOk X.prog X.w _ h' _ (.lst ys) from ⟨hz, its, c', r', e⟩), rfl, q _ (I.hok.fresh (Nat.le_refl _))⟩
  rcases hq with hq | hq
  · obtain ⟨its, r', pl, hz⟩ := I.list hq
    have hlen := r'.length
    obtain ⟨o, ho, hc, n, hd⟩ := pl.isList
    exact call_list_seq p (.inl rfl) ho hc hd (fun h' c' kp e => fin its r' hz h' c' kp e) (by simp only [List.size_toArray] <;> omega)
  · obtain ⟨its, r', pl, hz⟩ := I.tuple hq
    have hlen := r'.length
    obtain ⟨o, ho, hc, n, hd⟩ := pl
    exact call_list_seq p (.inr rfl) ho hc hd (fun h' c' kp e => fin its r' hz h' c' kp e) (by simp only [List.size_toArray] <;> omega)
/-! ### the call of a builtin's method: o.m(..) -/
/-- the value is of that builtin type -/
def tyV (K : PySem.W.Frag) (T : String) (x : V) (H : Hp) : Prop := match x with
  | .str _ => T = "str"
  | .int _ => T = "int"
  | .ref p => (T = "list" ∧ ∃ xs, SqL K H p xs) ∨ (T = "tuple" ∧ ∃ o, K.lookup p = some o ∧ o.cls = .type "tuple" ∧ o.dict = none) ∨
      (T = "dict" ∧ ((∃ kvs, H p = some (.dK kvs)) ∨ ∃ kvs, H p = some (.dT kvs))) ∨ (T = "set" ∧ ∃ S n, H p = some (.set S n))
  | _ => False
theorem tyV_is {pins : List (Addr × Obj)} {σ : St} {H : Hp} {s : Shared} {T : String} {x : V} {v : Value} (I : Inv X pins σ H s) (r : RelV x v) (ty : tyV X.K T x H) :
    s.TypeIs v T ∧ ∀ a, v = .ref a → ∃ ob, s.heap.get? a = some ob ∧ ob.dict = none := by
  cases x with
  | str z =>
    obtain ⟨t, rfl⟩ := r
    cases (show T = "str" from ty)
    exact ⟨typeIs_str s z t, fun _ e => nomatch e⟩
  | int i =>
    obtain ⟨t, rfl⟩ := r
    cases (show T = "int" from ty)
    exact ⟨typeIs_int s i t, fun _ e => nomatch e⟩
  | ref p =>
    cases r
    rcases ty with ⟨rfl, xs, hq⟩ | ⟨rfl, o, hk, hc, hd⟩ | ⟨rfl, hk⟩ | ⟨rfl, S, n, hk⟩
    · obtain ⟨its, _, pl, _⟩ := I.list hq
      refine ⟨pl.isList.typeIs, fun a e => ?_⟩
      cases e
      obtain ⟨o, n, e, c, hd, _⟩ := pl
      exact ⟨o, e, hd⟩
    · refine ⟨⟨o, I.kIn p o hk, hc⟩, fun a e => ?_⟩
      cases e
      exact ⟨o, I.kIn _ o hk, hd⟩
    · have z : ∃ o, s.heap.get? p = some o ∧ o.ExactDict := by
        rcases hk with ⟨kvs, hk⟩ | ⟨kvs, hk⟩
        · obtain ⟨_, _, _, _, o, _, _, e, ex, _⟩ := I.hok p _ hk
          exact ⟨o, e, ex⟩
        · obtain ⟨_, _, _, _, o, _, _, e, ex, _⟩ := I.hok p _ hk
          exact ⟨o, e, ex⟩
      obtain ⟨o, e, ex⟩ := z
      refine ⟨⟨o, e, ex.1⟩, fun a e2 => ?_⟩
      cases e2
      exact ⟨o, e, ex.2.1⟩
    · obtain ⟨o, _, _, _, e, ex, _⟩ := I.hok p _ hk
      refine ⟨⟨o, e, ex.1⟩, fun a e2 => ?_⟩
      cases e2
      exact ⟨o, e, ex.2.1⟩
  | _ => exact False.elim ty
def tBM0 (K : PySem.W.Frag) (T : String) (r : V → List V → Hp → VK → Prop) (to : TE) : TE := fun σ H Q => to σ H fun x H1 => tyV K T x H1 ∧ r x [] H1 Q
def tBM (K : PySem.W.Frag) (T : String) (r : V → List V → Hp → VK → Prop) (to : TE) (t : TA) : TE := fun σ H Q => to σ H fun x H1 => tyV K T x H1 ∧ t σ H1 fun xs H2 => r x xs H2 Q
variable {o e : Expr} {es : List Expr} {to : TE} {t : TA} {name : Str} {apos cpos : Pos} {T id : String} {r : V → List V → Hp → VK → Prop}
theorem pe_bm (pa : PlainAttrs T) (slot : Slot T name id) (hty : typeOf (.builtin id) = pure (.type "method_descriptor")) (hm : MtR X id r) (ho : PE X o to) (ha : PA X (e :: es) t)
    (hbase : attributeBase o name X.env (eval o X.env) = eval o X.env := by rfl)
    (hfew : ((backTo cpos (starEach (e :: es) X.env)).all (fun x => !x.1) && (backToKw cpos (keywordEach [] X.env)).all (fun x => x.1.isSome)
      && decide ((e :: es).length + ([] : List Keyword).length + (if ([] : List Keyword).isEmpty then 0 else 1) < 30)) = true := by rfl)
    (hline : (apos.endLine == cpos.line) = true := by rfl) (hs : starEach (e :: es) X.env = (false, eval e X.env) :: starEach es X.env := by rfl) (hplain : (backTo cpos (starEach es X.env)).any (·.1) = false := by rfl) :
    PE X (.Call (.Attribute o name apos) (e :: es) [] cpos) (tBM X.K T r to t) := by
  intro pins s σ H Q I h
  refine wpAny_Call_method_late hbase hfew hline rfl (thn (ho pins s σ H _ I h) fun v s1 ⟨x, H1, I1, r1, ty, q1⟩ => ?_)
  obtain ⟨h1, h2⟩ := tyV_is I1 r1 ty
  refine ⟨T, id, pa, slot, hty, h1, h2, ?_⟩
  have hA := ha cpos pins s1 σ H1 _ I1 q1
  rw [hs] at hA ⊢
  refine Calls.callWith_builtin (by show (false || (backTo cpos (starEach es X.env)).any (·.1)) = false; rw [hplain] <;> rfl) (Calls.evalArgs_plain ?_)
  exact thn hA fun us s2 ⟨vs, H2, I2, r2, q2⟩ => hm pins s2 σ H2 x vs v us Q I2 r1 r2 q2
end
end L2

namespace L2
open PySem PySem.Spec PyProof.Rows

def MtM (X : Cx) (id : String) (r : V → List V → Hp → VK → Prop) : Prop :=
  ∀ (pins : List (Addr × Obj)) (s : Shared) (σ : St) (H : Hp) (x : V) (xs : List V) (v : Value) (us : List Value) (Q : VK), Inv X pins σ H s → RelV x v → Vals xs us → r x xs H Q →
    wpAny (model X.prog X.w) X.A (call (.builtin id) (v :: us)) (EP X pins σ Q) X.xe s

/-! ### lists of values -/
theorem Vals.one : ∀ {x : V} {us : List Value}, Vals [x] us → ∃ u, us = [u] ∧ RelV x u
  | _, _, .cons r .nil => ⟨_, rfl, r⟩
theorem Vals.eraseIdx : ∀ {xs : List V} {us : List Value} (i : Nat), Vals xs us → Vals (xs.eraseIdx i) (us.eraseIdx i)
  | _, _, _, .nil => .nil
  | _, _, 0, .cons _ t => t
  | _, _, i + 1, .cons r t => .cons r (Vals.eraseIdx i t)
theorem len_erase {α : Type} : ∀ (l : List α) (i : Nat), (l.eraseIdx i).length ≤ l.length
  | [], _ => Nat.le_refl _
  | _ :: _, 0 => Nat.le_succ _
  | _ :: r, i + 1 => Nat.succ_le_succ (len_erase r i)
section
variable {X : Cx} {pins : List (Addr × Obj)} {σ : St} {H : Hp} {s : Shared} {l b : Addr} {xs ys zs : List V}

/-! ### the two steps: a tracked list is rewritten, a new list is laid -/
theorem Inv.lset {its its' : List Value} {n : Nat} {f : Array Value → Array Value} {t' : Nat} (I : Inv X pins σ H s) (hH : H l = some (.lst xs))
    (e : s.heap.get? l = some { cls := .type "list", data := .seq its.toArray n }) (hf : f its.toArray = its'.toArray) (hv : Vals ys its') (hz : ys.length ≤ sizeLine) :
    Inv X pins σ (upd H l (.lst ys)) { s with heap := s.heap.update l (Obj.mapSeq f), toks := t' } := by
  have q := PySem.IsL.update e f
  rw [hf] at q
  refine I.write (x := l) (e := l) (by rw [hH]; exact trivial) (.inl rfl) (fun b' u hb hu => (Heap.get?_update_other s.heap (Obj.mapSeq f) (Ne.symm hb)).trans hu) ⟨_, q⟩ ?_
  exact ⟨hz, its', _, hv, q⟩
theorem Inv.lnew {its : List Value} {t' : Nat} (I : Inv X pins σ H s) (hv : Vals ys its) (hz : ys.length ≤ sizeLine) :
    Inv X pins σ (upd H s.heap.objs.size (.lst ys)) { s with heap := s.heap.push { cls := .type "list", data := .seq its.toArray }, toks := t' } :=
  I.laid (fun _ _ q => Heap.get?_push_of_some _ q) (Nat.le_refl _) ⟨hz, its, 0, hv, Heap.get?_push_size _ rfl⟩
theorem Inv.fresh (I : Inv X pins σ H s) : H s.heap.objs.size = none := I.hok.fresh (Nat.le_refl _)
theorem Inv.lstM (I : Inv X pins σ H s) (hH : H l = some (.lst xs)) : xs.length ≤ sizeLine ∧ ∃ (its : List Value) (n : Nat), Vals xs its ∧ xs.length = its.length ∧ s.heap.get? l = some { cls := .type "list", data := .seq its.toArray n } := by
  obtain ⟨z, its, n, r, e⟩ := I.hok l _ hH
  exact ⟨z, its, n, r, r.length, e⟩

theorem notLongL {n : Nat} (h : n ≤ sizeLine) : Builtin.List.listTooLong n = false := by
  unfold Builtin.List.listTooLong
  exact decide_eq_false (by omega)
end

section
variable {X : Cx}

/-! ### methods -/
def rAppend : V → List V → Hp → VK → Prop := fun x vs H Q => ∃ l xs y, x = .ref l ∧ vs = [y] ∧ H l = some (.lst xs) ∧ xs.length < sizeLine ∧ Q .non (upd H l (.lst (xs ++ [y])))
theorem mt_append : MtM X "list.append" rAppend := by
  intro pins s σ H x vs v us Q I rx rv h
  obtain ⟨l, xs, y, rfl, rfl, hH, hz, q⟩ := h
  cases rx
  obtain ⟨u, rfl, ru⟩ := rv.one
  obtain ⟨z, its, n, r, hl, e⟩ := I.lstM hH
  refine call_meets F.slot_list_append ⟨_, e, rfl⟩ F.entry_list_append (F.args_list_append_2 _ _) (PySem.list_append l its.toArray n u (by rw [List.size_toArray]; omega)) ⟨e, ?_⟩
  refine ⟨.non, _, I.lset (its' := its ++ [u]) hH e (by simp) (r.append (.cons ru .nil)) ?_, rfl, q⟩
  rw [List.length_append, List.length_singleton]
  omega

def rExtend : V → List V → Hp → VK → Prop := fun x vs H Q => ∃ l b xs zs, x = .ref l ∧ vs = [.ref b] ∧ H l = some (.lst xs) ∧ H b = some (.lst zs) ∧ xs.length + zs.length ≤ sizeLine ∧ Q .non (upd H l (.lst (xs ++ zs)))
theorem mt_extend : MtM X "list.extend" rExtend := by
  intro pins s σ H x vs v us Q I rx rv h
  obtain ⟨l, b, xs, zs, rfl, rfl, hH, hB, hz, q⟩ := h
  cases rx
  obtain ⟨u, rfl, ru⟩ := rv.one
  cases ru
  obtain ⟨z, its, n, r, hl, e⟩ := I.lstM hH
  obtain ⟨z2, its2, n2, r2, hl2, e2⟩ := I.lstM hB
  have hsz : its.toArray.size + its2.toArray.size ≤ sizeLine := by rw [List.size_toArray, List.size_toArray]; omega
  have hlong : ¬ (!its.toArray.isEmpty && Builtin.List.listTooLong (its.toArray.size + its2.toArray.size)) = true := by
    rw [notLongL hsz, Bool.and_false]
    exact Bool.false_ne_true
  refine call_meets F.slot_list_extend ⟨_, e, rfl⟩ F.entry_list_extend (F.args_list_extend_2 _ _)
    (AutoSeq1.list_extend_list_list_0 l its.toArray n b its2.toArray n2 hlong (by rw [List.size_toArray]; omega) (by omega)) ⟨e, e2, ?_⟩
  refine ⟨.non, _, I.lset (its' := its ++ its2) hH e (by simp) (r.append r2) ?_, rfl, q⟩
  rw [List.length_append]
  omega

def rPop : V → List V → Hp → VK → Prop := fun x vs H Q => ∃ l xs y, x = .ref l ∧ vs = [] ∧ H l = some (.lst xs) ∧ xs[xs.length - 1]? = some y ∧ Q y (upd H l (.lst xs.dropLast))
def rPopAt : V → List V → Hp → VK → Prop := fun x vs H Q => ∃ l xs i k y, x = .ref l ∧ vs = [.int i] ∧ H l = some (.lst xs) ∧ -(2 ^ 63) ≤ i ∧ i < 2 ^ 63 ∧ seqIndex? i xs.length = some k ∧ xs[k]? = some y ∧ Q y (upd H l (.lst (xs.eraseIdx k)))
theorem mt_popAt : MtM X "list.pop" rPopAt := by
  intro pins s σ H x vs v us Q I rx rv h
  obtain ⟨l, xs, i, k, y, rfl, rfl, hH, h1, h2, hk, hy, q⟩ := h
  cases rx
  obtain ⟨u, rfl, ru⟩ := rv.one
  obtain ⟨t, rfl⟩ := ru
  obtain ⟨z, its, n, r, hl, e⟩ := I.lstM hH
  obtain ⟨w, hw, rw'⟩ := r.get hy
  refine call_meets F.slot_list_pop ⟨_, e, rfl⟩ F.entry_list_pop (F.args_list_pop_2 _ _)
    (MeetsSeq.list_pop_at l its.toArray n i t k w (fitsIndex_both h1 h2) (by rw [List.size_toArray, ← hl]; exact hk) (by rw [← Array.getElem?_toList]; exact hw) (by rw [List.size_toArray]; omega)) ⟨e, ?_⟩
  refine ⟨y, _, I.lset (its' := its.eraseIdx k) hH e ?_ (r.eraseIdx k) ?_, rw', q⟩
  · show its.toArray.eraseIdxIfInBounds k = (its.eraseIdx k).toArray
    rw [List.eraseIdxIfInBounds_toArray]
  · have := len_erase xs k
    omega

def rReverse : V → List V → Hp → VK → Prop := fun x vs H Q => ∃ l xs, x = .ref l ∧ vs = [] ∧ H l = some (.lst xs) ∧ Q .non (upd H l (.lst xs.reverse))
def rClear : V → List V → Hp → VK → Prop := fun x vs H Q => ∃ l xs, x = .ref l ∧ vs = [] ∧ H l = some (.lst xs) ∧ Q .non (upd H l (.lst []))
/-! ### list + list, list += list, list * int -/
def rCat : R2 := fun x y H Q => ∃ l b xs zs, x = .ref l ∧ y = .ref b ∧ H l = some (.lst xs) ∧ H b = some (.lst zs) ∧ xs.length + zs.length ≤ sizeLine ∧ ∀ p, H p = none → Q (.ref p) (upd H p (.lst (xs ++ zs)))
theorem op_cat : OpR X (binaryOp .Add) rCat := by
  intro pins s σ H x y v u Q I rx ry h
  obtain ⟨l, b, xs, zs, rfl, rfl, hH, hB, hz, q⟩ := h
  cases rx
  cases ry
  obtain ⟨z, its, n, r, hl, e⟩ := I.lstM hH
  obtain ⟨z2, its2, n2, r2, hl2, e2⟩ := I.lstM hB
  refine PySem.P.add_list e e2 ?_ (by rw [List.size_toArray, List.size_toArray]; omega)
  have ea : its.toArray ++ its2.toArray = (its ++ its2).toArray := by simp
  rw [ea]
  exact ⟨.ref _, _, I.lnew (t' := s.toks) (r.append r2) (by rw [List.length_append]; omega), rfl, q _ I.fresh⟩
/-- a list times an int (a negative one is nothing) -/
def rRep : R2 := fun x y H Q => ∃ l k xs, x = .ref l ∧ y = .int k ∧ H l = some (.lst xs) ∧ -(2 ^ 63) ≤ k ∧ k < 2 ^ 63 ∧ xs.length * k.toNat ≤ sizeLine ∧
  ∀ p, H p = none → Q (.ref p) (upd H p (.lst (List.replicate k.toNat xs).flatten))
/-! ### del xs[i] -/
end

/-! ### xs[a:b] = ys -/
section
variable {prog : Program} {w : World} {A : Around} {E : Value → Shared → Prop} {s : Shared}
end

section
variable {X : Cx}
end
end L2

namespace L2
open PySem PySem.Spec PyProof.Rows

theorem Vals.ints : ∀ {ns : List Int} {us : List Value}, Vals (ns.map V.int) us → IntsAre us ns
  | [], us, h => by
    rw [List.map_nil] at h
    cases h
    exact IntsAre.nil
  | n :: ns, us, h => by
    rw [List.map_cons] at h
    cases h with
    | cons r t =>
      obtain ⟨k, rfl⟩ := r
      exact IntsAre.cons n k (Vals.ints t)
theorem Vals.bls : ∀ {bs : List Bool} {us : List Value}, Vals (bs.map V.bl) us → us = bs.map Value.bool
  | [], us, h => by
    rw [List.map_nil] at h
    cases h
    rfl
  | b :: bs, us, h => by
    rw [List.map_cons] at h
    cases h with
    | cons r t =>
      cases r
      rw [Vals.bls t, List.map_cons]
theorem Vals.ref1 {a : Addr} {us : List Value} (r : Vals [V.ref a] us) : us = [Value.ref a] := by
  cases r with
  | cons r t =>
    cases t
    cases r
    rfl
/-! ### the library's walks over a list of ints, kept objects alone -/
section
variable {prog : Program} {w : World} {A : Around} {E : Value → Shared → Prop} {s : Shared} {l : Addr} {its : List Value} {ns : List Int} {Q : Value → Shared → Prop}
theorem sum_raw (hh : A.handled = none) (hl : s.heap.IsList l its.toArray) (hi : IntsAre its ns)
    (h : ∀ h' tk t', (∀ b o, s.heap.get? b = some o → h'.get? b = some o) → Q (.int ns.sum t') { s with heap := h', toks := tk }) : wpAny (model prog w) A (call (.builtin "sum") [.ref l]) Q E s := by
  obtain ⟨xs, e⟩ := hi.allInts.items
  have hn : numsOf (intItems xs).toList = ns := by rw [← e]; exact hi.numsOf
  rw [nums_intItems] at hn
  rw [e] at hl
  refine PySem.sum_intListG hh hl fun h' tk t' hk => ?_
  have := h h' tk t' hk
  rw [preSum_eq, List.take_of_length_le (by simp), hn]; exact this
end

/-! ### the calls, by values (CallR of 03t; MtR of 06l) -/
section
variable {X : Cx}
/-- sum(xs) of a list of ints -/
def rSum (K : PySem.W.Frag) : List V → Hp → VK → Prop := fun vs H Q => ∃ (a : Addr) (ns : List Int), vs = [V.ref a] ∧ SqL K H a (ns.map V.int) ∧ Q (.int ns.sum) H
/-- max(xs), min(xs) of a list of ints -/
def rMax (K : PySem.W.Frag) : List V → Hp → VK → Prop := fun vs H Q => ∃ (a : Addr) (ns : List Int), vs = [V.ref a] ∧ SqL K H a (ns.map V.int) ∧ 0 < ns.length ∧ ∀ m, m ∈ ns → (∀ y, y ∈ ns → y ≤ m) → Q (.int m) H
def rMin (K : PySem.W.Frag) : List V → Hp → VK → Prop := fun vs H Q => ∃ (a : Addr) (ns : List Int), vs = [V.ref a] ∧ SqL K H a (ns.map V.int) ∧ 0 < ns.length ∧ ∀ m, m ∈ ns → (∀ y, y ∈ ns → m ≤ y) → Q (.int m) H
theorem cr_sum (hc : X.calm = true) : CallR X (.builtin "sum") (rSum X.K) := by
  intro pins s σ H vs us Q I r h
  obtain ⟨a, ns, rfl, hs, q⟩ := h
  obtain ⟨its, rv, hl, _⟩ := I.list hs
  rw [Vals.ref1 r]
  exact sum_raw (I.ok.hd hc) hl.isList rv.ints fun h' tk t' hk => ⟨.int _, H, I.kept hk, ⟨_, rfl⟩, q⟩
/-! sorted, sort (fewer than 64 items: the library's own bound) -/
def rSorted (K : PySem.W.Frag) : List V → Hp → VK → Prop := fun vs H Q => ∃ (a : Addr) (ns : List Int), vs = [V.ref a] ∧ SqL K H a (ns.map V.int) ∧ ns.length < 64 ∧
  ∀ (ns' : List Int) (p : Addr), ns'.Perm ns → ns'.Pairwise (· ≤ ·) → H p = none → Q (.ref p) (upd H p (.lst (ns'.map V.int)))
def rSortedS (K : PySem.W.Frag) : List V → Hp → VK → Prop := fun vs H Q => ∃ (a : Addr) (xs : List Str), vs = [V.ref a] ∧ SqL K H a (xs.map V.str) ∧ xs.length < 64 ∧
  ∀ (ys : List Str) (p : Addr), ys.Perm xs → sortedS ys = true → H p = none → Q (.ref p) (upd H p (.lst (ys.map V.str)))
/-- xs.sort(), ints -/
def rSort : V → List V → Hp → VK → Prop := fun x xs H Q => ∃ (a : Addr) (ns : List Int), x = V.ref a ∧ xs = [] ∧ H a = some (.lst (ns.map V.int)) ∧ ns.length < 64 ∧
  ∀ ns' : List Int, ns'.Perm ns → ns'.Pairwise (· ≤ ·) → Q .non (upd H a (.lst (ns'.map V.int)))
end

/-! ### list.index, flat items -/
section
variable {X : Cx}
def rIndex (K : PySem.W.Frag) : V → List V → Hp → VK → Prop := fun x xs H Q => ∃ (a : Addr) (ys : List V) (y : V) (j : Nat) (z : V), x = V.ref a ∧ xs = [y] ∧ SqL K H a ys ∧ flatV y = true ∧ ys.all flatV = true ∧ ys[j]? = some z ∧ eqV z y = true ∧
  (∀ (m : Nat) (z' : V), m < j → ys[m]? = some z' → eqV z' y = false) ∧ Q (.int (j : Nat)) H
end

/-! ### type(x) of an own instance; is, is not of a module's class -/
section
variable {X : Cx}
end

/-! ### any(xs), all(xs) of a list of bools -/
theorem iter_any {prog : Program} {w : World} {A : Around} {E : Value → Shared → Prop} {s : Shared} {l : Addr} {items : Array Value} {Q : Value → Shared → Prop} (hl : s.heap.IsList l items)
    (h : ∀ s₂ : Shared, s₂ = { s with heap := s.heap.push { cls := .type "list_iterator", data := .fields #[.ref l, .int 0 0] } } →
      (s₂.heap.IsListIter s.heap.objs.size l 0 ∧ s₂.heap.IsList l items) → l ≠ s.heap.objs.size → Q (.ref s.heap.objs.size) s₂) : wpAny (model prog w) A (pyIter (.ref l)) Q E s := by
  have hlt : l < s.heap.objs.size := by obtain ⟨_, e, _⟩ := hl; exact Heap.lt_size e
  exact wpAny_pyIter_list hl (h _ rfl ⟨⟨_, Heap.get?_push_size _ rfl, rfl, rfl⟩, hl.push _⟩ (Nat.ne_of_lt hlt))
theorem truth_bools {prog : Program} {w : World} {A : Around} {bs : List Bool} {its : List Value} (e : its = bs.map Value.bool) :
    TruthOf prog w A (fun i v => its.toArray[i]? = some v) (fun i => bs.getD i false) := fun i v s Q E hv hq => by
  have hv' : its[i]? = some v := by simpa using hv
  rw [e, List.getElem?_map] at hv'
  obtain ⟨b, hb, rfl⟩ := Option.map_eq_some_iff.mp hv'
  have hg : bs.getD i false = b := by rw [List.getD_eq_getElem?_getD, hb] <;> rfl
  have hq' : Q (bs.getD i false) s := hq
  rw [hg] at hq'
  exact wpAny_truthy_bool hq'
theorem any_range : ∀ bs : List Bool, (List.range bs.length).any (fun i => bs.getD i false) = bs.any id
  | [] => rfl
  | b :: bs => by
    rw [List.length_cons, List.range_succ_eq_map, List.any_cons, List.any_map, List.any_cons, ← any_range bs]
    all_goals rfl
section
variable {X : Cx}
def rAny (K : PySem.W.Frag) : List V → Hp → VK → Prop := fun vs H Q => ∃ (a : Addr) (bs : List Bool), vs = [V.ref a] ∧ SqL K H a (bs.map V.bl) ∧ Q (.bl (bs.any id)) H
def rAll (K : PySem.W.Frag) : List V → Hp → VK → Prop := fun vs H Q => ∃ (a : Addr) (bs : List Bool), vs = [V.ref a] ∧ SqL K H a (bs.map V.bl) ∧ Q (.bl (bs.all id)) H
theorem cr_any (hc : X.calm = true) : CallR X (.builtin "any") (rAny X.K) := by
  intro pins s σ H vs us Q I r h
  obtain ⟨a, bs, rfl, hs, q⟩ := h
  obtain ⟨its, rv, hl, _⟩ := I.list hs
  rw [Vals.ref1 r]
  have hb := rv.bls
  refine call_any_walk (iter_any hl.isList fun s₂ e2 st hne => ?_)
  subst e2
  refine ⟨_, _, _, _, _, _, _, rfl, Walks.list (A := X.A.in1) (I.ok.hd hc) _ a hne its.toArray, st, truth_bools hb, fun h' tk hk => ?_⟩
  refine ⟨.bl _, H, I.kept fun b o eo => hk b o (fun hmem => ?_) (Heap.get?_push_of_some _ eo), ?_, q⟩
  · rcases List.mem_cons.mp hmem with e1 | hmem
    · exact absurd (e1 ▸ Heap.lt_size eo) (Nat.lt_irrefl _)
    · cases hmem
  · show Value.bool _ = Value.bool _
    rw [← any_range, hb, List.size_toArray, List.length_map]
end

/-! ### == and != of data at any depth: none, bools, ints, texts, lists, tuples -/
mutual
inductive Dp (K : PySem.W.Frag) (H : Hp) : V → PyData → Prop
  | non : Dp K H .non .none
  | bl (b : Bool) : Dp K H (.bl b) (.bool b)
  | int (i : Int) : Dp K H (.int i) (.int i)
  | str (x : Str) : Dp K H (.str x) (.str x)
  | lst {a : Addr} {xs : List V} {ds : List PyData} : SqL K H a xs → DpAll K H xs ds → Dp K H (.ref a) (.list ds)
  | tup {a : Addr} {xs : List V} {ds : List PyData} : SqT K H a xs → DpAll K H xs ds → Dp K H (.ref a) (.tuple ds)
inductive DpAll (K : PySem.W.Frag) (H : Hp) : List V → List PyData → Prop
  | nil : DpAll K H [] []
  | cons {v : V} {vs : List V} {d : PyData} {ds : List PyData} : Dp K H v d → DpAll K H vs ds → DpAll K H (v :: vs) (d :: ds)
end
section
variable {X : Cx} {pins : List (Addr × Obj)} {σ : St} {H : Hp} {s : Shared}
mutual
theorem Dp.reads (I : Inv X pins σ H s) : ∀ (d : PyData) (v : V) (u : Value), Dp X.K H v d → RelV v u → ∃ as, Reads s.heap u d as
  | .none, _, _, h, r => by
    cases h
    cases r
    exact ⟨_, Reads.none⟩
  | .bool b, _, _, h, r => by
    cases h
    cases r
    exact ⟨_, Reads.bool b⟩
  | .int i, _, _, h, r => by
    cases h
    obtain ⟨t, rfl⟩ := r
    exact ⟨_, Reads.int i t⟩
  | .str x, _, _, h, r => by
    cases h
    obtain ⟨t, rfl⟩ := r
    exact ⟨_, Reads.str x t⟩
  | .list ds, _, _, h, r => by
    cases h with
    | lst hs ha =>
      cases r
      obtain ⟨its, rv, ⟨o, n, ho, hc, _, hd⟩, _⟩ := I.list hs
      obtain ⟨as, hr⟩ := Dp.readsAll I ds _ its ha rv
      exact ⟨_, Reads.list ho hc hd hr⟩
  | .tuple ds, _, _, h, r => by
    cases h with
    | tup hs ha =>
      cases r
      obtain ⟨its, rv, ⟨o, ho, hc, n, hd⟩, _⟩ := I.tuple hs
      obtain ⟨as, hr⟩ := Dp.readsAll I ds _ its ha rv
      exact ⟨_, Reads.tuple ho hc hd hr⟩
  | .dict _, _, _, h, _ => by cases h
theorem Dp.readsAll (I : Inv X pins σ H s) : ∀ (ds : List PyData) (vs : List V) (us : List Value), DpAll X.K H vs ds → Vals vs us → ∃ as, ReadsAll s.heap us ds as
  | [], _, _, h, r => by
    cases h
    cases r
    exact ⟨_, ReadsAll.nil⟩
  | d :: ds, _, _, h, r => by
    cases h with
    | cons h1 h2 =>
      cases r with
      | cons r1 r2 =>
        obtain ⟨as, q1⟩ := Dp.reads I d _ _ h1 r1
        obtain ⟨bs, q2⟩ := Dp.readsAll I ds _ _ h2 r2
        exact ⟨_, ReadsAll.cons q1 q2⟩
end
end
section
variable {X : Cx}
def rEqD (K : PySem.W.Frag) : R2 := fun x y H Q => ∃ d e, Dp K H x d ∧ Dp K H y e ∧ SeqAt.shaped d = true ∧ SeqAt.shaped e = true ∧ Q (.bl (PyData.eqv d e)) H
def rNeD (K : PySem.W.Frag) : R2 := fun x y H Q => ∃ d e, Dp K H x d ∧ Dp K H y e ∧ SeqAt.shaped d = true ∧ SeqAt.shaped e = true ∧ Q (.bl (!PyData.eqv d e)) H
end
end L2

namespace L2
open PySem PySem.Spec PyProof.Rows
abbrev CellAt (h : Heap) (c : Addr) (v : Option Value) : Prop := h.IsCell c v
def relS (scope sc : Scope) : Scope :=
  { scope with names := scope.names.map fun (n, k) => if (k == .free && sc.kind == .function && sc.names.lookup n == some .cell) then (n, .cell) else (n, k) }

def cloFrom (cells : List (Str × Addr)) : List (Str × NameKind) → List (Str × Addr) → List (Str × Addr)
  | [], acc => acc
  | (n, k) :: r, acc => if k == .free then cloFrom cells r ((n, (cells.lookup n).getD 0) :: acc) else cloFrom cells r acc

theorem closure_loop (env : Env) (f : Str × NameKind → List (Str × Addr) → Sem (ForInStep (List (Str × Addr))))
    (hf : ∀ n k c, f (n, k) c = if k == .free then (do let a ← cellOf env n; pure (.yield ((n, a) :: c))) else pure (.yield c)) :
    ∀ (names : List (Str × NameKind)) (acc : List (Str × Addr)), (∀ y ∈ names, y.2 = .free → ∃ c, env.cells.lookup y.1 = some c) → forIn names acc f = pure (cloFrom env.cells names acc)
  | [], acc, _ => by rw [List.forIn_nil]; rfl
  | (n, k) :: r, acc, h => by
    rw [List.forIn_cons, hf]
    have ih := fun acc => closure_loop env f hf r acc fun y hy => h y (List.mem_cons_of_mem _ hy)
    unfold cloFrom
    by_cases hk : (k == NameKind.free) = true
    · rw [if_pos hk, if_pos hk]
      obtain ⟨c, hc⟩ := h (n, k) List.mem_cons_self (by simpa using hk)
      have e : cellOf env n = pure c := by unfold cellOf; rw [hc]
      rw [e]
      have e2 : (env.cells.lookup n).getD 0 = c := by rw [hc]; rfl
      rw [e2]
      exact ih _
    · rw [if_neg hk, if_neg hk]
      exact ih _
theorem closure_ok {scope : Scope} {env : Env} (h : ∀ y ∈ scope.names, y.2 = .free → ∃ c, env.cells.lookup y.1 = some c) : closureFor scope env = pure (cloFrom env.cells scope.names []) := by
  simp only [closureFor]
  rw [closure_loop env _ (fun n k c => rfl) scope.names [] h]
  rfl

theorem mem_lookup {α : Type} : ∀ {l : List (Str × α)} {n : Str} {c : α}, (n, c) ∈ l → ∃ c', l.lookup n = some c'
  | (k, v) :: r, n, c, h => by
    rw [List.lookup_cons]
    cases hb : n == k with
    | true => exact ⟨_, rfl⟩
    | false =>
      rcases List.mem_cons.mp h with e | h
      · cases e; simp at hb
      · exact mem_lookup h

theorem cloFrom_mem {cells : List (Str × Addr)} : ∀ {names : List (Str × NameKind)} {acc : List (Str × Addr)} {n : Str} {c : Addr}, (n, c) ∈ cloFrom cells names acc → (n, c) ∈ acc ∨ ((n, .free) ∈ names ∧ c = (cells.lookup n).getD 0)
  | [], _, _, _, h => .inl h
  | (m, k) :: r, acc, n, c, h => by
    unfold cloFrom at h
    split at h
    · rename_i hk
      have hk : k = .free := by simpa using hk
      rcases cloFrom_mem h with h | ⟨h1, h2⟩
      · rcases List.mem_cons.mp h with e | h
        · cases e; exact .inr ⟨hk ▸ List.mem_cons_self, rfl⟩
        · exact .inl h
      · exact .inr ⟨List.mem_cons_of_mem _ h1, h2⟩
    · rcases cloFrom_mem h with h | ⟨h1, h2⟩
      · exact .inl h
      · exact .inr ⟨List.mem_cons_of_mem _ h1, h2⟩
theorem cloFrom_acc {cells : List (Str × Addr)} : ∀ {names : List (Str × NameKind)} {acc : List (Str × Addr)} {p : Str × Addr}, p ∈ acc → p ∈ cloFrom cells names acc
  | [], _, _, h => h
  | (m, k) :: r, acc, p, h => by
    unfold cloFrom
    split
    · exact cloFrom_acc (List.mem_cons_of_mem _ h)
    · exact cloFrom_acc h
theorem cloFrom_has {cells : List (Str × Addr)} : ∀ {names : List (Str × NameKind)} {acc : List (Str × Addr)} {n : Str}, (n, .free) ∈ names → (n, (cells.lookup n).getD 0) ∈ cloFrom cells names acc
  | (m, k) :: r, acc, n, h => by
    unfold cloFrom
    rcases List.mem_cons.mp h with e | h
    · cases e
      exact cloFrom_acc List.mem_cons_self
    · split
      · exact cloFrom_has h
      · exact cloFrom_has h

theorem cells_mem : ∀ {names : List (Str × NameKind)} {h : Heap} {acc : List (Str × Addr)} {x : Str} {c : Addr}, (x, c) ∈ cellsFrom h.objs.size names acc →
    (x, c) ∈ acc ∨ ((x, .cell) ∈ names ∧ h.objs.size ≤ c ∧ CellAt (pushCells h names) c none)
  | [], _, _, _, _, h => .inl h
  | (n, k) :: r, h, acc, x, c, hm => by
    unfold cellsFrom at hm
    unfold pushCells
    split at hm
    · rename_i hk
      rw [if_pos hk]
      have hk : k = .cell := by simpa using hk
      rw [← Heap.size_push h { cls := .type "cell", data := .cell none }] at hm
      rcases cells_mem hm with hm | ⟨h1, h2, h3⟩
      · rcases List.mem_cons.mp hm with e | hm
        · cases e
          exact .inr ⟨hk ▸ List.mem_cons_self, Nat.le_refl _, _, pushCells_keeps r _ _ _ (Heap.get?_push_size _ rfl), rfl⟩
        · exact .inl hm
      · rw [Heap.size_push] at h2
        exact .inr ⟨List.mem_cons_of_mem _ h1, Nat.le_of_succ_le h2, h3⟩
    · rename_i hk
      rw [if_neg hk]
      rcases cells_mem hm with hm | ⟨h1, h2, h3⟩
      · exact .inl hm
      · exact .inr ⟨List.mem_cons_of_mem _ h1, h2, h3⟩
theorem cells_acc : ∀ {names : List (Str × NameKind)} {n : Nat} {acc : List (Str × Addr)} {p : Str × Addr}, p ∈ acc → p ∈ cellsFrom n names acc
  | [], _, _, _, h => h
  | (m, k) :: r, n, acc, p, h => by
    unfold cellsFrom
    split
    · exact cells_acc (List.mem_cons_of_mem _ h)
    · exact cells_acc h
theorem cells_has : ∀ {names : List (Str × NameKind)} {n : Nat} {acc : List (Str × Addr)} {x : Str}, (x, .cell) ∈ names → ∃ c, (x, c) ∈ cellsFrom n names acc
  | (m, k) :: r, n, acc, x, h => by
    unfold cellsFrom
    rcases List.mem_cons.mp h with e | h
    · cases e
      exact ⟨n, cells_acc List.mem_cons_self⟩
    · split
      · exact cells_has h
      · exact cells_has h
theorem cells_inj : ∀ {names : List (Str × NameKind)} {h : Heap} {acc : List (Str × Addr)} {x y : Str} {c : Addr}, (∀ p ∈ acc, p.2 < h.objs.size) → (∀ x y c, (x, c) ∈ acc → (y, c) ∈ acc → x = y) →
    (x, c) ∈ cellsFrom h.objs.size names acc → (y, c) ∈ cellsFrom h.objs.size names acc → x = y
  | [], _, _, _, _, _, _, hi, h1, h2 => hi _ _ _ h1 h2
  | (n, k) :: r, h, acc, x, y, c, hl, hi, h1, h2 => by
    unfold cellsFrom at h1 h2
    split at h1
    · rename_i hk
      rw [if_pos hk] at h2
      rw [← Heap.size_push h { cls := .type "cell", data := .cell none }] at h1 h2
      refine cells_inj (h := h.push _) (fun p hp => ?_) (fun x y c a b => ?_) h1 h2
      · rw [Heap.size_push]
        rcases List.mem_cons.mp hp with rfl | hp
        · exact Nat.lt_succ_self _
        · exact Nat.lt_succ_of_lt (hl p hp)
      · rcases List.mem_cons.mp a with e | a <;> rcases List.mem_cons.mp b with e' | b
        · cases e; cases e'; rfl
        · cases e; exact absurd (hl _ b) (Nat.lt_irrefl _)
        · cases e'; exact absurd (hl _ a) (Nat.lt_irrefl _)
        · exact hi _ _ _ a b
    · rename_i hk
      rw [if_neg hk] at h2
      exact cells_inj hl hi h1 h2

theorem newEnv_comp {M : Model} {A : Around} {E : Value → Shared → Prop} {s : Shared} {scope : Scope} {globals : Addr} {closure : List (Str × Addr)} {qual : Str} {func : Option Addr} {code : Value} {around : Env} {builtins : Addr} {Q : Env → Shared → Prop}
    (h : Q (newEnv scope s.heap.objs.size globals (cellsFrom (s.heap.objs.size + 1) scope.names closure) qual func code (some around) builtins)
      { s with heap := pushCells (s.heap.push { cls := .type "dict", data := .dict #[] }) scope.names }) :
    wpAny M A (newFunctionEnv scope globals closure [] qual func code (some around) builtins) Q E s := by
  simp only [newFunctionEnv, Option.isSome_some, if_true]
  refine wpAny_bind (wpAny_alloc ?_)
  refine wpAny_bind (wpAny_layCells _ (fun n k c => rfl) scope.names closure _ _ ?_)
  rw [show ({ s with heap := s.heap.push { cls := .type "dict", data := .dict #[] } } : Shared).heap.objs.size = s.heap.objs.size + 1 from Heap.size_push ..]
  rw [List.forIn_nil]
  exact wpAny_bind (wpAny_pure (wpAny_pure h))

/-- every name of the written scope, in the scope that runs -/
theorem lookup_relS {sc : Scope} : ∀ {names : List (Str × NameKind)} {x : Str} {k : NameKind},
    (names.map fun (n, k) => if (k == NameKind.free && sc.kind == .function && sc.names.lookup n == some .cell) then (n, NameKind.cell) else (n, k)).lookup x = some k →
    ∃ k', names.lookup x = some k' ∧ (k = k' ∨ (k' = .free ∧ k = .cell))
  | [], _, _, h => by simp at h
  | (n, k₀) :: r, x, k, h => by
    have ih := @lookup_relS sc r x k
    have h' : List.lookup x ((if (k₀ == NameKind.free && sc.kind == .function && sc.names.lookup n == some .cell) = true then (n, NameKind.cell) else (n, k₀)) :: (r.map _)) = some k := h
    cases hx : x == n with
    | true =>
      simp only [List.lookup_cons, hx]
      by_cases hc : (k₀ == NameKind.free && sc.kind == .function && sc.names.lookup n == some .cell) = true
      · rw [if_pos hc] at h'
        simp only [List.lookup_cons, hx] at h'
        cases h'
        simp only [Bool.and_eq_true, beq_iff_eq] at hc
        exact ⟨k₀, rfl, .inr ⟨hc.1.1, rfl⟩⟩
      · rw [if_neg hc] at h'
        simp only [List.lookup_cons, hx] at h'
        cases h'
        exact ⟨_, rfl, .inl rfl⟩
    | false =>
      simp only [List.lookup_cons, hx]
      by_cases hc : (k₀ == NameKind.free && sc.kind == .function && sc.names.lookup n == some .cell) = true
      · rw [if_pos hc] at h'
        simp only [List.lookup_cons, hx] at h'
        exact ih h'
      · rw [if_neg hc] at h'
        simp only [List.lookup_cons, hx] at h'
        exact ih h'
/-- the names of a comprehension's block: its own (with their places in N), or captured -/
structure BlkOk (N : List Str) (sc scope : Scope) (own : List (Str × Nat)) : Prop where
  kind : scope.kind = .function
  uniq : ∀ y ∈ scope.names, scope.names.lookup y.1 = some y.2
  ix : ∀ p ∈ own, N[p.2]? = some p.1
  free : ∀ y ∈ scope.names, y.2 = .free → sc.names.lookup y.1 = some .cell ∨ sc.names.lookup y.1 = some .free
  own : ∀ y ∈ scope.names, y.2 = .local ∨ y.2 = .cell → y.1 ∈ own.map (·.1) ∨ y.1 ∉ N
/-- the slots of the block's own names forgotten -/
def wipe (σ : St) : List Nat → St
  | [] => σ
  | v :: vs => (wipe σ vs).set v none
theorem wipe_length (σ : St) : ∀ vs : List Nat, (wipe σ vs).length = σ.length
  | [] => rfl
  | v :: vs => by unfold wipe; rw [List.length_set, wipe_length σ vs]
theorem wipe_some {σ : St} {i : Nat} {x : V} : ∀ {vs : List Nat}, (wipe σ vs)[i]? = some (some x) → σ[i]? = some (some x) ∧ i ∉ vs
  | [], h => ⟨h, by simp⟩
  | v :: vs, h => by
    unfold wipe at h
    by_cases hi : v = i
    · subst hi
      by_cases hv : v < (wipe σ vs).length
      · rw [List.getElem?_set_self hv] at h; cases h
      · rw [List.getElem?_eq_none (by simpa using hv)] at h; cases h
    · rw [List.getElem?_set_ne hi] at h
      obtain ⟨h1, h2⟩ := wipe_some h
      exact ⟨h1, by simp only [List.mem_cons, not_or]; exact ⟨fun e => hi e.symm, h2⟩⟩

/-- the context of a block that starts at s, its iterator's objects at fp -/
abbrev Cx.blk (X : Cx) (s : Shared) (H : Hp) (scope : Scope) (cenv : Env) (fp : List Addr) : Cx := { X with s_0 := s, H_0 := H, env := cenv, outer := X.stack, ex := fp, fn := fun x => scope.names.lookup x == some .cell, pn := [], xe := fun _ _ => False }
section
variable {X : Cx} {pins : List (Addr × Obj)} {σ : St} {H : Hp} {s : Shared}
theorem block_start {scope : Scope} {own : List (Str × Nat)} {fp : List Addr} (I : Inv X pins σ H s) (ok : BlkOk X.N X.env.scope scope own) (hN : X.N.Nodup) (hfp : ∀ b ∈ fp, FpOk X pins H b ∧ b < s.heap.objs.size) :
    Inv (X.blk s H scope (compEnvC scope (cellsFrom (s.heap.objs.size + 1) scope.names (cloFrom X.env.cells scope.names [])) s.heap.objs.size X.env) fp) [] (wipe σ (own.map (·.2))) H { s with heap := pushCells (s.heap.push { cls := .type "dict", data := .dict #[] }) scope.names } := by
  have hfree : ∀ y ∈ scope.names, y.2 = .free → ∃ c, X.env.cells.lookup y.1 = some c := fun y hy e => by
    rcases ok.free y hy e with k | k
    · exact I.ok.has _ (.inl k)
    · exact I.ok.has _ (.inr k)
  generalize hcenv : compEnvC scope (cellsFrom (s.heap.objs.size + 1) scope.names (cloFrom X.env.cells scope.names [])) s.heap.objs.size X.env = cenv
  have kp : ∀ b o, s.heap.get? b = some o → (pushCells (s.heap.push { cls := .type "dict", data := .dict #[] }) scope.names).get? b = some o := fun b o e => pushCells_keeps _ _ _ _ (Heap.get?_push_of_some _ e)
  have hL : cenv.locals = s.heap.objs.size := by rw [← hcenv]; rfl
  have hcl : cenv.cells = cellsFrom (s.heap.objs.size + 1) scope.names (cloFrom X.env.cells scope.names []) := by rw [← hcenv]; rfl
  have hsc : cenv.scope = relS scope X.env.scope := by rw [← hcenv]; rfl
  rw [← Heap.size_push s.heap { cls := .type "dict", data := .dict #[] }] at hcl
  have cm : ∀ {y c}, (y, c) ∈ cloFrom X.env.cells scope.names [] → X.env.cells.lookup y = some c ∧ c < s.heap.objs.size := fun {y c} hm => by
    rcases cloFrom_mem hm with hm | ⟨h1, rfl⟩
    · cases hm
    · obtain ⟨c, hc⟩ := hfree _ h1 rfl
      rw [hc]
      obtain ⟨w, z⟩ := I.cell _ _ hc
      exact ⟨rfl, z.lt⟩
  have mem : ∀ {y c}, cenv.cells.lookup y = some c → (X.env.cells.lookup y = some c ∧ c < s.heap.objs.size) ∨ (s.heap.objs.size + 1 ≤ c ∧ CellAt (pushCells (s.heap.push { cls := .type "dict", data := .dict #[] }) scope.names) c none) := fun {y c} e => by
    rw [hcl] at e
    rcases cells_mem (PySem.mem_of_lookup e) with hm | ⟨_, h2, h3⟩
    · exact .inl (cm hm)
    · rw [Heap.size_push] at h2; exact .inr ⟨h2, h3⟩
  have look : ∀ {y}, scope.names.lookup y = some .free → ∃ c, cenv.cells.lookup y = some c ∧ X.env.cells.lookup y = some c := fun {y} hl => by
    have hy : (y, NameKind.free) ∈ scope.names := PySem.mem_of_lookup hl
    obtain ⟨c', e'⟩ := mem_lookup (cells_acc (names := scope.names) (n := (s.heap.push { cls := .type "dict", data := .dict #[] }).objs.size) (cloFrom_has (cells := X.env.cells) (acc := []) hy))
    rw [← hcl] at e'
    refine ⟨c', e', ?_⟩
    rw [hcl] at e'
    rcases cells_mem (PySem.mem_of_lookup e') with hm | ⟨h1, _, _⟩
    · exact (cm hm).1
    · have := ok.uniq _ h1
      rw [hl] at this; cases this
  have okB : (X.blk s H scope cenv fp).Ok := by
    refine ⟨I.ok.mod, by show cenv.scope.kind = _; rw [hsc]; exact ok.kind, by show cenv.globals = _; rw [← hcenv]; exact I.ok.glob, by show cenv.builtins = _; rw [← hcenv]; exact I.ok.blt, by show s.heap.objs.size ≤ cenv.locals; rw [hL]; exact Nat.le_refl _,
      fun y z c e1 e2 => ?_, fun y hy => ?_, fun y c z e => ?_, I.ok.hd, I.ok.frames, .inl rfl, fun b hb => ⟨?_, fun y c e z => ?_⟩, I.bs, Nat.le_trans I.ok.bsz I.sz, fun b o e hb => ?_, fun b hb z => ?_, I.stack, I.stkFree⟩
    · have e1 : cenv.cells.lookup y = some c := e1
      have e2 : cenv.cells.lookup z = some c := e2
      rw [hcl] at e1 e2
      refine cells_inj (fun p hp => ?_) (fun y z c a b => I.ok.inj y z c (cm a).1 (cm b).1) (PySem.mem_of_lookup e1) (PySem.mem_of_lookup e2)
      rw [Heap.size_push]
      exact Nat.lt_succ_of_lt (cm (y := p.1) (c := p.2) hp).2
    · show ∃ c, cenv.cells.lookup y = some c
      have key : ∀ k, cenv.kindOf y = some k → (k = .cell ∨ k = .free) → ∃ c, cenv.cells.lookup y = some c := fun k hk hk' => by
        unfold Env.kindOf at hk
        rw [hsc] at hk
        obtain ⟨k', e, r⟩ := lookup_relS hk
        have : k' = .cell ∨ k' = .free := by
          rcases r with rfl | ⟨rfl, _⟩
          · exact hk'
          · exact .inr rfl
        rcases this with rfl | rfl
        · obtain ⟨c, hm⟩ := cells_has (n := (s.heap.push { cls := .type "dict", data := .dict #[] }).objs.size) (acc := cloFrom X.env.cells scope.names []) (PySem.mem_of_lookup e)
          obtain ⟨c', e'⟩ := mem_lookup hm
          exact ⟨c', by rw [hcl]; exact e'⟩
        · obtain ⟨c, h1, _⟩ := look e
          exact ⟨c, h1⟩
      rcases hy with hy | hy
      · exact key _ hy (.inl rfl)
      · exact key _ hy (.inr rfl)
    · have z : (scope.names.lookup y == some NameKind.cell) = true := z
      have z : scope.names.lookup y = some .cell := by simpa using z
      have e : cenv.cells.lookup y = some c := e
      rw [hcl] at e
      rcases cells_mem (PySem.mem_of_lookup e) with hm | ⟨_, h2, _⟩
      · rcases cloFrom_mem hm with hm | ⟨h1, _⟩
        · cases hm
        · have q := ok.uniq _ h1
          rw [z] at q; cases q
      · rw [Heap.size_push] at h2
        exact Nat.le_of_succ_le h2
    · show b ≠ cenv.locals
      rw [hL]; exact Nat.ne_of_lt (hfp b hb).2
    · have e : cenv.cells.lookup y = some c := e
      rcases mem e with ⟨h1, _⟩ | ⟨h1, _⟩
      · exact (hfp b hb).1.2.2.2.2.1 y c h1 z
      · have h2 : s.heap.objs.size + 1 ≤ b := by rw [← z]; exact h1
        exact absurd (Nat.lt_of_lt_of_le (hfp b hb).2 (Nat.le_of_succ_le h2)) (Nat.lt_irrefl _)
    · rcases (hfp b hb).1.2.2.2.1 with z | z
      · exact I.ok.noex b o e z
      · exact absurd (Nat.lt_of_lt_of_le (Heap.lt_size e) (Nat.le_trans I.ok.bsz z)) (Nat.lt_irrefl _)
    · rcases List.mem_cons.mp (I.stkSub b z) with z | z
      · exact (hfp b hb).1.2.1 z
      · exact (hfp b hb).1.2.2.1 z
  refine ⟨okB, rfl, I.bare, Un.kept kp, ⟨fun _ => none, ?_, fun i y av e1 e2 e3 => ?_⟩, fun y c e => ?_, ?_, fun y c e => ?_, fun p hp => ?_, I.hok.kept kp, by rw [wipe_length]; exact I.len⟩
  · show Heap.Ns _ cenv.locals _
    rw [hL]
    exact Heap.Ns.keeps (Heap.Ns.new ..) fun b o e => pushCells_keeps _ _ _ _ e
  · obtain ⟨e2, hne⟩ := wipe_some e2
    have hfr : scope.names.lookup y = some .free ∧ (cenv.kindOf y = some .cell ∨ cenv.kindOf y = some .free) := by
      have key : ∀ k, cenv.scope.names.lookup y = some k → k = .local ∨ k = .cell ∨ k = .free → scope.names.lookup y = some .free ∧ (cenv.kindOf y = some .cell ∨ cenv.kindOf y = some .free) := fun k hk hk' => by
        have hk0 := hk
        rw [hsc] at hk
        obtain ⟨k', e, r⟩ := lookup_relS hk
        have no : ¬ (k' = .local ∨ k' = .cell) := fun hh => by
          rcases ok.own _ (PySem.mem_of_lookup e) hh with e' | e'
          · obtain ⟨p, hp, hpy⟩ := List.mem_map.mp e'
            have e3 := ok.ix p hp
            have : p.1 = y := hpy
            rw [this] at e3
            exact hne (List.mem_map.mpr ⟨p, hp, nodup_ix hN e3 e1⟩)
          · exact e' (List.mem_of_getElem? e1)
        rcases r with rfl | ⟨rfl, rfl⟩
        · rcases hk' with rfl | rfl | rfl
          · exact absurd (.inl rfl) no
          · exact absurd (.inr rfl) no
          · exact ⟨e, .inr hk0⟩
        · exact ⟨e, .inl hk0⟩
      have e3 : Vis cenv.scope y := e3
      rcases e3 with e3 | e3 | e3
      · exact key _ e3 (.inl rfl)
      · exact key _ e3 (.inr (.inl rfl))
      · exact key _ e3 (.inr (.inr rfl))
    obtain ⟨m, hn, hl⟩ := I.loc
    have hvis : Vis X.env.scope y := (ok.free _ (PySem.mem_of_lookup hfr.1) rfl).elim (fun k => .inr (.inl k)) (fun k => .inr (.inr k))
    obtain ⟨w, r, q⟩ := hl i y av e1 e2 hvis
    refine ⟨w, r, .inr ⟨hfr.2, ?_⟩⟩
    obtain ⟨c, h1, h2⟩ := look hfr.1
    rcases q with ⟨k, _⟩ | ⟨_, c', e', z⟩
    · have k : X.env.scope.names.lookup y = some .local := k
      rcases ok.free _ (PySem.mem_of_lookup hfr.1) rfl with k' | k' <;> rw [show X.env.scope.names.lookup y = _ from k'] at k <;> cases k
    · rw [h2] at e'; cases e'
      exact ⟨c, h1, z.keeps kp⟩
  · have e : cenv.cells.lookup y = some c := e
    rcases mem e with ⟨h1, _⟩ | ⟨_, z⟩
    · obtain ⟨w, z⟩ := I.cell y c h1
      exact ⟨w, z.keeps kp⟩
    · exact ⟨_, z⟩
  · show H cenv.locals = none
    rw [hL]; exact I.hok.fresh (Nat.le_refl _)
  · have e : cenv.cells.lookup y = some c := e
    rcases mem e with ⟨h1, _⟩ | ⟨h1, _⟩
    · exact I.freeC y c h1
    · exact I.hok.fresh (Nat.le_of_succ_le h1)
  · exact absurd (show p ∈ ([] : List (Addr × Obj)) ++ [] from hp) (by simp)

/-- an item appended to a tracked list -/
theorem app_ok {E : Value → Shared → Prop} {D : Addr} {xs : List V} {y : V} {v : Value} {Q : Value → Shared → Prop} (I : Inv X pins σ H s) (hD : H D = some (.lst xs)) (hz : xs.length < sizeLine) (r : RelV y v)
    (h : ∀ s', Inv X pins σ (upd H D (.lst (xs ++ [y]))) s' → Q .none s') : wpAny (model X.prog X.w) X.A (call (.builtin "list.append") [.ref D, v]) Q E s := by
  obtain ⟨hz', its, n, ri, e⟩ := I.hok D _ hD
  have hl := ri.length
  refine append_at (hsz := by rw [List.size_toArray]; omega) e fun h' sb ho' => ?_
  refine h { s with heap := h' } (I.write (t' := s.toks) (by rw [hD]; trivial) (.inl rfl) (fun b u hb q => (sb.2 b hb).trans q) ⟨_, ho'⟩ ⟨by rw [List.length_append]; exact hz, its ++ [v], n + 1, ri.append (.cons r .nil), ?_⟩)
  rw [ho']
  simp

/-- a clause's tests -/
def PTs (X : Cx) (ifs : List Expr) (t : TT) : Prop :=
  ∀ (pins : List (Addr × Obj)) (s : Shared) (σ : St) (H : Hp) (Q : Bool → Hp → Prop), Inv X pins σ H s → t σ H Q →
    wpAny (model X.prog X.w) X.A (forIn ifs true fun c r => if r = true then do let ok ← isTrue c X.env (eval c X.env); pure (ForInStep.yield ok) else pure (ForInStep.yield r)) (TP X pins σ Q) X.xe s
def tYes : TT := fun _ H Q => Q true H
theorem pts_nil : PTs X [] tYes := fun _ _ _ H _ I h => wpAny_tests_nil ⟨H, I, h⟩
theorem pts_one {c : Expr} {t : TT} (h : PT X c t) : PTs X [c] t := fun pins s σ H Q I hw => wpAny_tests_one (h pins s σ H Q I hw)
end

theorem thnF {α : Type} {t : Sem α} {Q Q' : α → Shared → Prop} {M : Model} {A : Around} {E : Value → Shared → Prop} {s : Shared} (h : wpAny M A t Q (fun _ _ => False) s) (hQ : ∀ a s, Q a s → Q' a s) : wpAny M A t Q' E s := wpAny_mono h hQ fun _ _ z => False.elim z

/-- the loop of a list comprehension's block, the target of any form (codeAny_compLoop_tests asks a target that no tuple goes to; statement and proof follow it, PyProof/CompMap.lean:41-61, with the step letOwnedTupleGo kept) -/
theorem compLoop_any {prog : Program} {w : World} {A : Around} {R : Result → Shared → Prop} {s : Shared} {elt target iter : Expr} {ifs : List Expr} {scope : Scope} {pos : Pos} {it acc : Value} {env : Env} (I : Nat → Shared → Prop)
    (turn : ∀ n s, I n s → wpAny (model prog w) A (pyNext it) (fun r s₁ => match r with
      | none => R (.ok .next) s₁
      | some v => wpAny (model prog w) A (letOwnedTupleGo target it v) (fun _ s₁' => wpAny (model prog w) A (assign target env v) (fun _ s₂ =>
          wpAny (model prog w) A (forIn ifs true fun c r => if r = true then do let ok ← isTrue c env (eval c env); pure (ForInStep.yield ok) else pure (ForInStep.yield r)) (fun ok s₃ =>
            if ok = true then wpAny (model prog w) A (eval elt env) (fun x s₄ =>
              wpAny (model prog w) A (call (.builtin "list.append") [acc, x]) (fun _ s₅ => ∃ m, m < n ∧ I m s₅) (notedBy (model prog w) A env fun e s' => R (.error e) s') s₄) (notedBy (model prog w) A env fun e s' => R (.error e) s') s₃
            else ∃ m, m < n ∧ I m s₃) (notedBy (model prog w) A env fun e s' => R (.error e) s') s₂) (notedBy (model prog w) A env fun e s' => R (.error e) s') s₁') (notedBy (model prog w) A env fun e s' => R (.error e) s') s₁) (notedBy (model prog w) A env fun e s' => R (.error e) s') s)
    (n : Nat) (h : I n s) :
    codeAny (model prog w) A (.compLoop (.ListComp elt [⟨target, iter, ifs, 0⟩] scope pos) 0 it acc env) R s := by
  refine codeAny_loop rfl I (fun n s hI => ?_) n h
  show wpAny _ A ((compTurn (.ListComp elt [⟨target, iter, ifs, 0⟩] scope pos) 0 it acc env).onRaise (fun x => do noteFrame x env; theTreesLotGoes x)) _ _ s
  refine wpAny_noted ?_
  rw [compTurn_list]
  refine wpAny_bind (wpAny_standAt (wpAny_bind (wpAny_mono (turn n s hI) (fun r s₁ h₁ => ?_) fun _ _ h' => h')))
  cases r with
  | none => exact wpAny_pure h₁
  | some v =>
    refine wpAny_bind (wpAny_mono h₁ (fun _ s₁' h₁' => ?_) fun _ _ h' => h')
    refine wpAny_bind (wpAny_mono h₁' (fun _ s₂ h₂ => wpAny_bind (wpAny_mono h₂ (fun ok s₃ h₃ => ?_) fun _ _ h' => h')) fun _ _ h' => h')
    cases ok with
    | false => exact wpAny_pure ⟨rfl, h₃⟩
    | true =>
      exact wpAny_bind (wpAny_bind (wpAny_mono h₃ (fun x s₄ h₄ => wpAny_bind (wpAny_mono h₄ (fun _ s₅ h₅ => wpAny_pure (wpAny_pure ⟨rfl, h₅⟩)) fun _ _ h' => h')) fun _ _ h' => h'))

section
variable {X : Cx}
/-- [elt for target in iter if ..]: D the new list; W by the turn and a measure, Nx what a turn is to reach -/
def tLc (wi : TI) (g : TG) (tt : TT) (te : TE) (vs : List Nat) : TE := fun σ H Q => wi σ H fun J H1 => ∀ D, H1 D = none → ∃ W : Nat → Nat → Hp → Prop, (∃ m, W 0 m (upd H1 D (.lst []))) ∧ ∀ i m H, W i m H →
  (J.stop i H ∧ Q (.ref D) H) ∨ (J.go i H ∧ ∃ Nx : Hp → Prop, (∀ H', Nx H' → ∃ m', m' < m ∧ W (i + 1) m' H') ∧ ∀ x H', J.yld i H x H' → g x (wipe σ vs) H' fun σ2 H2 => wipe σ2 vs = wipe σ vs ∧ tt σ2 H2 fun b H3 =>
    if b = true then te σ2 H3 fun y H4 => ∃ acc, H4 D = some (.lst acc) ∧ acc.length < sizeLine ∧ Nx (upd H4 D (.lst (acc ++ [y]))) else Nx H3)
theorem lc_core {pins : List (Addr × Obj)} {s : Shared} {σ : St} {H : Hp} {Q : VK} {elt tg iter : Expr} {ifs : List Expr} {scope : Scope} {own : List (Str × Nat)} {pos pos' : Pos} {wi : TI} {g : TG} {tt : TT} {te : TE} {use : Option (Value → Sem Unit)} {Qf : Value → Shared → Prop}
    (hc : X.calm = true) (hN : X.N.Nodup) (I : Inv X pins σ H s) (hi : PI X tg iter wi) (ok : BlkOk X.N X.env.scope scope own)
    (hg : ∀ (s : Shared) (H : Hp) (C : Addr) (cl : List (Str × Addr)) (fp : List Addr), PG (X.blk s H scope (compEnvC scope cl C X.env) fp) tg g) (ht : ∀ (s : Shared) (H : Hp) (C : Addr) (cl : List (Str × Addr)) (fp : List Addr), PTs (X.blk s H scope (compEnvC scope cl C X.env) fp) ifs tt)
    (he : ∀ (s : Shared) (H : Hp) (C : Addr) (cl : List (Str × Addr)) (fp : List Addr), PE (X.blk s H scope (compEnvC scope cl C X.env) fp) elt te) (hs : ∀ x, foldedSetIterable iter X.env x = pure x)
    (h : tLc wi g tt te (own.map (·.2)) σ H Q)
    (hRR : ∀ D C s' m H', Inv X pins σ H' s' → Q (.ref D) H' → s'.heap.Ns C m → FpOk X pins H' C → compPost (model X.prog X.w) X.A X.xe use Qf (.ref D) C (.ok .next) s') :
    wpAny (model X.prog X.w) X.A (comprehension (.ListComp elt [⟨tg, iter, ifs, 0⟩] scope pos) scope X.env pos' (newList []) false (eval iter X.env) use) Qf X.xe s := by
  have hfree : ∀ y ∈ scope.names, y.2 = .free → ∃ c, X.env.cells.lookup y.1 = some c := fun y hy e => by
    rcases ok.free y hy e with k | k
    · exact I.ok.has _ (.inl k)
    · exact I.ok.has _ (.inr k)
  refine wpAny_comprehension_free (use := use) rfl hs (closure_ok hfree) ok.kind (fun y hy e => by rw [ok.uniq y hy, e])
    (thn (hi pins s σ H _ I h) fun xv s1 hx => thn hx fun itv s2 h2 => ?_)
  obtain ⟨it, fp, tn, J, H2, e, I2, T, st2, f2, q⟩ := h2
  subst e
  refine wpAny_newObj_type (newEnv_comp ?_) (by show 0 ≤ sizeLine; decide)
  generalize hD : s2.heap.objs.size = D
  have hDn : H2 D = none := I2.hok.fresh (Nat.le_of_eq hD)
  obtain ⟨W, ⟨m0, w0⟩, turn⟩ := q D hDn
  -- the new list
  generalize hs3 : ({ s2 with heap := s2.heap.push { cls := .type "list", data := .seq ([] : List Value).toArray } } : Shared) = s3
  have I3 : Inv X pins σ (upd H2 D (.lst [])) s3 := by
    rw [← hs3]
    refine I2.laid (t' := s2.toks) (fun b o e => Heap.get?_push_of_some _ e) (Nat.le_of_eq hD) ⟨Nat.zero_le _, [], 0, .nil, ?_⟩
    rw [← hD]
    exact Heap.get?_push_size _ rfl
  have h3 : s3.heap = s2.heap.push { cls := .type "list", data := .seq ([] : List Value).toArray } := by rw [← hs3]
  have sz : ∀ b ∈ fp, b < s2.heap.objs.size := fun b hb => by
    obtain ⟨o, e, _⟩ := T.obj _ _ st2 b hb
    exact Heap.lt_size e
  have f3 : ∀ b ∈ fp, FpOk X pins (upd H2 D (.lst [])) b ∧ b < s3.heap.objs.size := fun b hb => by
    have hlt := sz b hb
    refine ⟨⟨?_, (f2 b hb).2⟩, by rw [h3, Heap.size_push]; exact Nat.lt_succ_of_lt hlt⟩
    rw [upd_ne (by rw [← hD]; exact Nat.ne_of_lt hlt)]
    exact (f2 b hb).1
  have st3 : tn 0 s3.heap := T.keep _ _ _ st2 fun b _ o e => by rw [h3]; exact Heap.get?_push_of_some _ e
  have I4 := block_start I3 ok hN f3
  have pg := hg s3 (upd H2 D (.lst [])) s3.heap.objs.size (cellsFrom (s3.heap.objs.size + 1) scope.names (cloFrom X.env.cells scope.names [])) fp
  have pt := ht s3 (upd H2 D (.lst [])) s3.heap.objs.size (cellsFrom (s3.heap.objs.size + 1) scope.names (cloFrom X.env.cells scope.names [])) fp
  have pe := he s3 (upd H2 D (.lst [])) s3.heap.objs.size (cellsFrom (s3.heap.objs.size + 1) scope.names (cloFrom X.env.cells scope.names [])) fp
  show codeAny _ _ (.compStart (.ListComp elt [⟨tg, iter, ifs, 0⟩] scope pos) 0 (.ref it) (.ref D) (compEnvC scope (cellsFrom (s3.heap.objs.size + 1) scope.names (cloFrom X.env.cells scope.names [])) s3.heap.objs.size X.env)) (compPost (model X.prog X.w) X.A X.xe use Qf (.ref D) s3.heap.objs.size) { s3 with heap := pushCells (s3.heap.push { cls := .type "dict", data := .dict #[] }) scope.names }
  have nfp : ∀ b ∈ fp, (upd H2 D (.lst [])) b = none := fun b hb => (f3 b hb).1.1
  generalize hce : compEnvC scope (cellsFrom (s3.heap.objs.size + 1) scope.names (cloFrom X.env.cells scope.names [])) s3.heap.objs.size X.env = ce at I4 pg pt pe ⊢
  have cL : ce.locals = s3.heap.objs.size := by subst hce; rfl
  generalize hH3 : upd H2 D (.lst []) = H3 at I3 I4 pg pt pe w0 nfp f3
  generalize hs4 : ({ s3 with heap := pushCells (s3.heap.push { cls := .type "dict", data := .dict #[] }) scope.names } : Shared) = s4 at I4 ⊢
  have st4 : tn 0 s4.heap := T.keep _ _ _ st3 fun b _ o e => by rw [← hs4]; exact pushCells_keeps _ _ _ _ (Heap.get?_push_of_some _ e)
  have stat : ∀ {σ' : St} {H' : Hp} {s' : Shared}, Inv (X.blk s3 H3 scope ce fp) [] σ' H' s' → (∀ b ∈ fp, H' b = none) → ∀ b ∈ fp, FpOk (X.blk s3 H3 scope ce fp) [] H' b := fun {σ' H' s'} I' hn b hb =>
    ⟨hn b hb, (I'.ok.exf b hb).1, I'.ok.exfs b hb, .inl hb, fun x c e => (I'.ok.exf b hb).2 x c e, fun p hp => absurd (show p ∈ ([] : List (Addr × Obj)) ++ [] from hp) (by simp)⟩
  have loop : codeAny (model X.prog X.w) X.A (.compLoop (.ListComp elt [⟨tg, iter, ifs, 0⟩] scope pos) 0 (.ref it) (.ref D) ce) (compPost (model X.prog X.w) X.A X.xe use Qf (.ref D) s3.heap.objs.size) s4 := by
    refine compLoop_any (fun n s' => ∃ i H', Inv (X.blk s3 H3 scope ce fp) [] (wipe σ (own.map (·.2))) H' s' ∧ tn i s'.heap ∧ (∀ b ∈ fp, H' b = none) ∧ W i n H') ?_ m0 ⟨0, H3, I4, st4, nfp, w0⟩
    rintro n s5 ⟨i, H5, I5, st5, n5, w5⟩
    rcases turn i n H5 w5 with ⟨stop, qq⟩ | ⟨go, Nx, hNx, step⟩
    · have td := T.done (X.blk s3 H3 scope ce fp) rfl rfl rfl hc i [] s5 _ H5 (fun _ _ => False) I5 (stat I5 n5) st5 stop
      refine thnF td fun r s6 ⟨hr, I6⟩ => ?_
      subst hr
      -- back in the def's context
      have I7 : Inv X pins σ H5 s6 := I3.call' (ch := fp) I6.os I6.base I6.hok I6.bare fun b hb => ⟨(f3 b hb).1.2.2.2.1, (f3 b hb).1.2.1, (f3 b hb).1.2.2.2.2.1, (f3 b hb).1.2.2.2.2.2⟩
      have nC : H5 s3.heap.objs.size = none := by
        have z : H5 ce.locals = none := I6.free
        rw [cL] at z
        exact z
      obtain ⟨m, hn, _⟩ := I6.loc
      have hn : s6.heap.Ns ce.locals m := hn
      rw [cL] at hn
      exact hRR D s3.heap.objs.size s6 m H5 I7 qq hn (I3.fpOk (Nat.le_refl _) nC)
    · have ti := T.item (X.blk s3 H3 scope ce fp) rfl rfl rfl hc i [] s5 _ H5 (fun _ _ => False) I5 (stat I5 n5) st5 go
      refine thnF ti fun r s6 ⟨u, hr, h6⟩ => ?_
      subst hr
      refine thnF h6 fun _ s7 ⟨x, H7, I7, r7, y7, st7, n7⟩ => ?_
      have I7' := I7.pinned (stat I7 n7) (T.obj _ _ st7)
      refine thnF (pg _ s7 _ H7 x u _ I7' r7 (step x H7 y7)) fun _ s8 ⟨σ8, H8, I8, hw8, q8⟩ => ?_
      refine thnF (pt _ s8 σ8 H8 _ I8 q8) fun b s9 ⟨H9, I9, q9⟩ => ?_
      -- the turn's end
      have fin : ∀ {s' : Shared} {H' : Hp}, Inv (X.blk s3 H3 scope ce fp) ([] ++ pinsAt fp s7.heap) σ8 H' s' → Nx H' → ∃ m, m < n ∧ ∃ i H', Inv (X.blk s3 H3 scope ce fp) [] (wipe σ (own.map (·.2))) H' s' ∧ tn i s'.heap ∧ (∀ b ∈ fp, H' b = none) ∧ W i m H' := fun {s' H'} I' nx => by
        obtain ⟨m', hm, w'⟩ := hNx H' nx
        have pin' : ∀ b ∈ fp, ∀ o, s7.heap.get? b = some o → s'.heap.get? b = some o ∧ H' b = none := fun b hb o e =>
          let z := I'.pin (b, o) (List.mem_append_right _ (List.mem_append_right _ (mem_pinsAt hb e)))
          ⟨z.1, z.2.1⟩
        have hl : (wipe σ (own.map (·.2))).length = σ8.length := by rw [← hw8, wipe_length]
        refine ⟨m', hm, i + 1, H', (I'.unpinned (pins := [])).weak hl (fun j v e => ?_), T.keep _ _ _ st7 fun b hb o e => (pin' b hb o e).1, fun b hb => ?_, w'⟩
        · rw [← hw8] at e
          exact (wipe_some e).1
        · obtain ⟨o, e, _⟩ := T.obj _ _ st7 b hb
          exact (pin' b hb o e).2
      cases b with
      | false =>
        simp only [Bool.false_eq_true, if_false] at q9 ⊢
        exact fin I9 q9
      | true =>
        simp only [if_true] at q9 ⊢
        refine thnF (pe _ s9 σ8 H9 _ I9 q9) fun z s10 ⟨yv, H10, I10, r10, acc, hD10, hz10, nx⟩ => ?_
        exact app_ok (X := X.blk s3 H3 scope ce fp) I10 hD10 hz10 r10 fun s11 I11 => fin I11 nx
  exact codeAny_compStart_list loop (T.self X.A 0 _ _ _ st4 loop)
/-- as a value -/
theorem pe_lc {elt tg iter : Expr} {ifs : List Expr} {scope : Scope} {own : List (Str × Nat)} {pos : Pos} {wi : TI} {g : TG} {tt : TT} {te : TE} (hc : X.calm = true) (hN : X.N.Nodup) (hi : PI X tg iter wi) (ok : BlkOk X.N X.env.scope scope own)
    (hg : ∀ (s : Shared) (H : Hp) (C : Addr) (cl : List (Str × Addr)) (fp : List Addr), PG (X.blk s H scope (compEnvC scope cl C X.env) fp) tg g) (ht : ∀ (s : Shared) (H : Hp) (C : Addr) (cl : List (Str × Addr)) (fp : List Addr), PTs (X.blk s H scope (compEnvC scope cl C X.env) fp) ifs tt)
    (he : ∀ (s : Shared) (H : Hp) (C : Addr) (cl : List (Str × Addr)) (fp : List Addr), PE (X.blk s H scope (compEnvC scope cl C X.env) fp) elt te) (hs : ∀ x, foldedSetIterable iter X.env x = pure x := by intro _; rfl) :
    PE X (.ListComp elt [⟨tg, iter, ifs, 0⟩] scope pos) (tLc wi g tt te (own.map (·.2))) := by
  intro pins s σ H Q I h
  rw [eval_ListComp]
  refine lc_core hc hN I hi ok hg ht he hs h fun D C s' m H' I' q hn f => ⟨m, hn, fun h'' sb => ?_⟩
  obtain ⟨f0, f1, f2, f3, f4, f5⟩ := f
  exact ⟨.ref D, H', I'.turned (t' := s'.toks) (fun b o hb e => (sb.2 b hb).trans e) f0 f1 f3 f4 f5, rfl, q⟩
/-- name = [..] on one line, the name a local -/
theorem ps_setLc {i : Nat} {y : Str} {py : Pos} {elt tg iter : Expr} {ifs : List Expr} {scope : Scope} {own : List (Str × Nat)} {pos spos : Pos} {wi : TI} {g : TG} {tt : TT} {te : TE} (hc : X.calm = true) (hN : X.N.Nodup) (hy : X.N[i]? = some y) (hyl : X.env.scope.names.lookup y = some .local)
    (hsw : swapsWith (.ListComp elt [⟨tg, iter, ifs, 0⟩] scope pos) (some (.Name y py)) spos.line X.env = pure true) (hi : PI X tg iter wi) (ok : BlkOk X.N X.env.scope scope own)
    (hg : ∀ (s : Shared) (H : Hp) (C : Addr) (cl : List (Str × Addr)) (fp : List Addr), PG (X.blk s H scope (compEnvC scope cl C X.env) fp) tg g) (ht : ∀ (s : Shared) (H : Hp) (C : Addr) (cl : List (Str × Addr)) (fp : List Addr), PTs (X.blk s H scope (compEnvC scope cl C X.env) fp) ifs tt)
    (he : ∀ (s : Shared) (H : Hp) (C : Addr) (cl : List (Str × Addr)) (fp : List Addr), PE (X.blk s H scope (compEnvC scope cl C X.env) fp) elt te) (hs : ∀ x, foldedSetIterable iter X.env x = pure x := by intro _; rfl) :
    PS X (.Assign [.Name y py] (.ListComp elt [⟨tg, iter, ifs, 0⟩] scope pos) spos) (tAsg (tLc wi g tt te (own.map (·.2))) (gName i)) := by
  intro pins s σ H D I h
  rw [exec_Assign_Name_used _ _ _ _ hsw]
  refine wpAny_bind (wpAny_standAt (wpAny_bind ?_))
  show wpAny _ X.A (do let _ ← comprehension (.ListComp elt [⟨tg, iter, ifs, 0⟩] scope pos) scope X.env (firstIterPos [⟨tg, iter, ifs, 0⟩] pos) (newList []) false (eval iter X.env) (some (assign (.Name y py) X.env))) _ _ s
  have h : tLc wi g tt te (own.map (·.2)) σ H (fun x H1 => gName i x σ H1 D.nx) := h
  refine wpAny_bind (thn (lc_core (Qf := fun _ s' => SP X pins D .next s') hc hN I hi ok hg ht he hs h fun L C s' m H' I' q hn f => ?_) fun _ s' hq => wpAny_pure (wpAny_pure hq))
  show wpAny _ _ (assign (.Name y py) X.env (.ref L)) _ _ _
  refine wpAny_assign_Name (store_ok2 (v := V.ref L) I' hN hy (.inl hyl) rfl (fun s2 I2 ⟨a, sb, ha⟩ => ?_) (.inr hyl))
  obtain ⟨f0, f1, f2, f3, f4, f5⟩ := f
  have haC : C ≠ a := by
    rcases ha with z | z
    · rw [z]; exact f1
    · exact fun e => f4 y a z e.symm
  refine ⟨m, hn.sameBut sb haC, fun h3 sb3 => ?_⟩
  exact ⟨_, H', I2.turned (t' := s2.toks) (fun b o hb e => (sb3.2 b hb).trans e) f0 f1 f3 f4 f5, q⟩
theorem sw_true {elt : Expr} {gs : List Comprehension} {scope : Scope} {pos py : Pos} {y : Str} {l : Nat} {env : Env} (hk : env.scope.kind = .function) (hy : env.scope.names.lookup y = some .local) (hl : (py.line == pos.line) = true)
    (ha : (scope.names.any fun (n, k) => n == y && (k == .local || k == .cell)) = false) : swapsWith (.ListComp elt gs scope pos) (some (.Name y py)) l env = pure true := by
  have ky : env.kindOf y = some .local := hy
  have hb : env.blockKind = .function := by unfold Env.blockKind; rw [hk]; rfl
  unfold swapsWith
  simp only [hb, ky, ha, Expr.pos, hl]
  rfl
end

/-! ### the forms one uses -/
/-- over a range: Pv by the turn and the heap (the new list at D within) -/
theorem lc_range {lo : Int} {n : Nat} {g : TG} {tt : TT} {te : TE} {vs : List Nat} {σ : St} {H1 : Hp} {D : Addr} {Qd : Hp → Prop} (Pv : Nat → Hp → Prop) (h0 : Pv 0 (upd H1 D (.lst [])))
    (hs : ∀ i H, i < n → Pv i H → g (.int (lo + i)) (wipe σ vs) H fun σ2 H2 => wipe σ2 vs = wipe σ vs ∧ tt σ2 H2 fun b H3 =>
      if b = true then te σ2 H3 fun y H4 => ∃ acc, H4 D = some (.lst acc) ∧ acc.length < sizeLine ∧ Pv (i + 1) (upd H4 D (.lst (acc ++ [y]))) else Pv (i + 1) H3) (hd : ∀ H, Pv n H → Qd H) :
    ∃ W : Nat → Nat → Hp → Prop, (∃ m, W 0 m (upd H1 D (.lst []))) ∧ ∀ i m H, W i m H →
      ((Itr lo n).stop i H ∧ Qd H) ∨ ((Itr lo n).go i H ∧ ∃ Nx : Hp → Prop, (∀ H', Nx H' → ∃ m', m' < m ∧ W (i + 1) m' H') ∧ ∀ x H', (Itr lo n).yld i H x H' → g x (wipe σ vs) H' fun σ2 H2 => wipe σ2 vs = wipe σ vs ∧ tt σ2 H2 fun b H3 =>
        if b = true then te σ2 H3 fun y H4 => ∃ acc, H4 D = some (.lst acc) ∧ acc.length < sizeLine ∧ Nx (upd H4 D (.lst (acc ++ [y]))) else Nx H3) := by
  refine ⟨fun i m H => m = n - i ∧ i ≤ n ∧ Pv i H, ⟨n, by simp, Nat.zero_le _, h0⟩, ?_⟩
  rintro i m H ⟨rfl, hi, p⟩
  by_cases hlt : i < n
  · refine .inr ⟨hlt, Pv (i + 1), fun H' p' => ⟨n - (i + 1), by omega, rfl, hlt, p'⟩, fun x H' y => ?_⟩
    obtain ⟨e, y⟩ := y
    subst e y
    exact hs i _ hlt p
  · have e : i = n := by omega
    subst e
    exact .inl ⟨Nat.le_refl _, hd H p⟩
/-- over a list that the block leaves as it is -/
theorem lc_list {K : PySem.W.Frag} {a : Addr} {xs : List V} {g : TG} {tt : TT} {te : TE} {vs : List Nat} {σ : St} {H1 : Hp} {D : Addr} {Qd : Hp → Prop} (Pv : Nat → Hp → Prop) (h0 : Pv 0 (upd H1 D (.lst []))) (hl : ∀ i H, i ≤ xs.length → Pv i H → SqL K H a xs)
    (hs : ∀ i x H, xs[i]? = some x → Pv i H → g x (wipe σ vs) H fun σ2 H2 => wipe σ2 vs = wipe σ vs ∧ tt σ2 H2 fun b H3 =>
      if b = true then te σ2 H3 fun y H4 => ∃ acc, H4 D = some (.lst acc) ∧ acc.length < sizeLine ∧ Pv (i + 1) (upd H4 D (.lst (acc ++ [y]))) else Pv (i + 1) H3) (hd : ∀ H, Pv xs.length H → Qd H) :
    ∃ W : Nat → Nat → Hp → Prop, (∃ m, W 0 m (upd H1 D (.lst []))) ∧ ∀ i m H, W i m H →
      ((Itl K a).stop i H ∧ Qd H) ∨ ((Itl K a).go i H ∧ ∃ Nx : Hp → Prop, (∀ H', Nx H' → ∃ m', m' < m ∧ W (i + 1) m' H') ∧ ∀ x H', (Itl K a).yld i H x H' → g x (wipe σ vs) H' fun σ2 H2 => wipe σ2 vs = wipe σ vs ∧ tt σ2 H2 fun b H3 =>
        if b = true then te σ2 H3 fun y H4 => ∃ acc, H4 D = some (.lst acc) ∧ acc.length < sizeLine ∧ Nx (upd H4 D (.lst (acc ++ [y]))) else Nx H3) := by
  refine ⟨fun i m H => m = xs.length - i ∧ i ≤ xs.length ∧ Pv i H, ⟨xs.length, by simp, Nat.zero_le _, h0⟩, ?_⟩
  rintro i m H ⟨rfl, hi, p⟩
  have q := hl i H hi p
  by_cases hlt : i < xs.length
  · refine .inr ⟨⟨xs, xs[i], q, by simp [hlt]⟩, Pv (i + 1), fun H' p' => ⟨xs.length - (i + 1), by omega, rfl, hlt, p'⟩, fun x H' y => ?_⟩
    obtain ⟨e, y⟩ := y
    subst e
    exact hs i x _ (y xs q) p
  · have e : i = xs.length := by omega
    subst e
    exact .inl ⟨⟨xs, q, Nat.le_refl _⟩, hd H p⟩
def blkC (N : List Str) (sc scope : Scope) (own : List (Str × Nat)) : Bool :=
  (match scope.kind with | .function => true | _ => false) && (scope.names.all fun y => decide (scope.names.lookup y.1 = some y.2)) && (own.all fun p => decide (N[p.2]? = some p.1)) &&
    (scope.names.all fun y => match y.2 with
      | .free => (match sc.names.lookup y.1 with | some .cell => true | some .free => true | _ => false)
      | .local => decide (y.1 ∈ own.map (·.1)) || decide (y.1 ∉ N)
      | .cell => decide (y.1 ∈ own.map (·.1)) || decide (y.1 ∉ N)
      | _ => true)
theorem blkOk_by {N : List Str} {sc scope : Scope} {own : List (Str × Nat)} (h : blkC N sc scope own = true) : BlkOk N sc scope own := by
  unfold blkC at h
  simp only [Bool.and_eq_true, List.all_eq_true, decide_eq_true_eq] at h
  obtain ⟨⟨⟨h1, h2⟩, h3⟩, h4⟩ := h
  refine ⟨?_, h2, h3, fun y hy e => ?_, fun y hy e => ?_⟩
  · split at h1
    · assumption
    · cases h1
  · have q := h4 y hy
    simp only [e] at q
    split at q <;> first | exact .inl (by assumption) | exact .inr (by assumption) | cases q
  · have q := h4 y hy
    rcases e with e | e <;> (simp only [e, Bool.or_eq_true, decide_eq_true_eq] at q; exact q)
end L2

namespace L2
open PySem PySem.Spec PyProof.Rows

section
variable {prog : Program} {w : World} {A : Around} {R : Result → Shared → Prop} {s : Shared} {elt t0 i0 t1 i1 : Expr} {ifs0 ifs1 : List Expr} {scope : Scope} {pos : Pos} {it acc : Value} {env : Env}
end

section
variable {X : Cx}
/-- [elt for tg in iter if .. for tg1 in iter1 if ..]: behind the first clause's store and tests the second source's own loop, from which Nx is reached. vs: the block's names; vs1: those of the second target -/
def tLc2 (wi : TI) (g : TG) (tt : TT) (wi1 : TI) (g1 : TG) (tt1 : TT) (te : TE) (vs vs1 : List Nat) : TE := fun σ H Q => wi σ H fun J H1 => ∀ D, H1 D = none → ∃ W : Nat → Nat → Hp → Prop, (∃ m, W 0 m (upd H1 D (.lst []))) ∧ ∀ i m H, W i m H →
  (J.stop i H ∧ Q (.ref D) H) ∨ (J.go i H ∧ ∃ Nx : Hp → Prop, (∀ H', Nx H' → ∃ m', m' < m ∧ W (i + 1) m' H') ∧ ∀ x H', J.yld i H x H' → g x (wipe σ vs) H' fun σ2 H2 => wipe σ2 vs = wipe σ vs ∧ tt σ2 H2 fun b H3 =>
    if b = true then wi1 σ2 H3 fun J1 H4 => ∃ W1 : Nat → Nat → Hp → Prop, (∃ m, W1 0 m H4) ∧ ∀ j k H, W1 j k H →
      (J1.stop j H ∧ Nx H) ∨ (J1.go j H ∧ ∃ Nx1 : Hp → Prop, (∀ H', Nx1 H' → ∃ k', k' < k ∧ W1 (j + 1) k' H') ∧ ∀ x H', J1.yld j H x H' → g1 x (wipe σ2 vs1) H' fun σ3 H5 => wipe σ3 vs1 = wipe σ2 vs1 ∧ tt1 σ3 H5 fun b H6 =>
        if b = true then te σ3 H6 fun y H7 => ∃ acc, H7 D = some (.lst acc) ∧ acc.length < sizeLine ∧ Nx1 (upd H7 D (.lst (acc ++ [y]))) else Nx1 H6)
    else Nx H3)
end
end L2

namespace L2
open PySem PySem.Spec PyProof.Rows

/-! ### lists of pairs as tables -/
section
variable {κ : Type} [DecidableEq κ]
def valV (kvs : List (κ × V)) (k : κ) : Option V := (kvs.find? fun kv => decide (kv.1 = k)).map (·.2)
/-- in its place, or at the end -/
def putK (kvs : List (κ × V)) (k : κ) (v : V) : List (κ × V) :=
  if (kvs.any fun kv => decide (kv.1 = k)) = true then kvs.map (fun kv => if kv.1 = k then (kv.1, v) else kv) else kvs ++ [(k, v)]
def dropK (kvs : List (κ × V)) (k : κ) : List (κ × V) := kvs.filter fun kv => decide (kv.1 ≠ k)

end


/-! ### a tracked dict, its keys ints and texts or tuples of these -/
/-- raw entries of a dict with tuple keys -/
abbrev KT (H : Hp) : List (List Key × V) → List (List Key × Addr × Value) → Prop := Paired fun p q => p.1 = q.1 ∧ H q.2.1 = some (.tup (p.1.map kV)) ∧ RelV p.2 q.2.2
section
variable {P : Program} {w : World} {H : Hp} {h : Heap} {a : Addr}
end

/-- what the dict at a holds at the key y -/
def DGet (H : Hp) (a : Addr) (y : V) (r : Option V) : Prop :=
  (∃ kvs k, Rd H a (.dK kvs) ∧ y = kV k ∧ r = valV kvs k) ∨ ∃ kvs k b, Rd H a (.dT kvs) ∧ y = .ref b ∧ H b = some (.tup (k.map kV)) ∧ r = valV kvs k
/-- the heap behind a[y] = v -/
def DPut (H : Hp) (a : Addr) (y v : V) (H' : Hp) : Prop :=
  (∃ kvs k, H a = some (.dK kvs) ∧ y = kV k ∧ kvs.length < sizeLine ∧ H' = upd H a (.dK (putK kvs k v))) ∨
  ∃ kvs k b, H a = some (.dT kvs) ∧ y = .ref b ∧ H b = some (.tup (k.map kV)) ∧ kvs.length < sizeLine ∧ H' = upd H a (.dT (putK kvs k v))
section
variable {X : Cx} {pins : List (Addr × Obj)} {σ : St} {H : Hp} {s : Shared} {a : Addr} {y v : V} {u r : Value} {o : Option V} {A : Around} {E : Value → Shared → Prop}

end

section
variable {X : Cx} {pins : List (Addr × Obj)} {σ : St} {H : Hp} {s : Shared} {a : Addr} {kvs : List (Key × V)} {k : Key} {u : Value} {A : Around} {E : Value → Shared → Prop}
end


/-! ### readings and rules -/
/-- the element of a subscription, not a slice -/
def NoSl (i : Expr) : Prop := ∀ ov iv, subscripted i false ov iv = operate [ov, iv] (getItem ov iv)
/-- d[y] -/
def tDGet (td ty : TE) : TE := fun σ H Q => td σ H fun x H1 => ty σ H1 fun y H2 => ∃ a v, x = .ref a ∧ DGet H2 a y (some v) ∧ Q v H2
/-- y in d, y not in d -/
def tDIn (ty td : TE) : TE := fun σ H Q => ty σ H fun y H1 => td σ H1 fun x H2 => ∃ a o, x = .ref a ∧ DGet H2 a y o ∧ Q (.bl o.isSome) H2
def tDNotIn (ty td : TE) : TE := fun σ H Q => ty σ H fun y H1 => td σ H1 fun x H2 => ∃ a o, x = .ref a ∧ DGet H2 a y o ∧ Q (.bl (!o.isSome)) H2
/-- d[y] = v -/
def sDPut (td ty tv : TE) : TS := fun D σ H => tv σ H fun v H1 => td σ H1 fun x H2 => ty σ H2 fun y H3 => ∃ a H4, x = .ref a ∧ DPut H3 a y v H4 ∧ D.nx σ H4
/-- d[y] op= v -/
def sDAug (td ty tv : TE) (rd : V → V → Hp → VK → Prop) : TS := fun D σ H => td σ H fun x H1 => ty σ H1 fun y H2 => ∃ a v, x = .ref a ∧ DGet H2 a y (some v) ∧
  tv σ H2 fun y2 H3 => rd v y2 H3 fun z H4 => ∃ H5, DPut H4 a y z H5 ∧ D.nx σ H5
/-- del d[y] -/
def sDDel (td ty : TE) : TS := fun D σ H => td σ H fun x H1 => ty σ H1 fun y H2 => ∃ a kvs k, x = .ref a ∧ H2 a = some (.dK kvs) ∧ y = kV k ∧ (valV kvs k).isSome = true ∧ D.nx σ (upd H2 a (.dK (dropK kvs k)))

section
variable {X : Cx} {o i e value : Expr} {pos pos' tpos : Pos} {td ty tv : TE}
end


/-! ### displays -/
/-- {}, to be a dict of the kind that is wanted -/
def tDNewK : TE := fun _ H Q => ∀ p, H p = none → Q (.ref p) (upd H p (.dK []))
def tDNewT : TE := fun _ H Q => ∀ p, H p = none → Q (.ref p) (upd H p (.dT []))
section
variable {X : Cx} {pos : Pos}
end

/-- the pairs of a display, from the left -/
def tPairs : List (TE × TE) → St → Hp → (List (V × V) → Hp → Prop) → Prop
  | [], _, H, Q => Q [] H
  | (tk, tv) :: r, σ, H, Q => tk σ H fun x H1 => tv σ H1 fun y H2 => tPairs r σ H2 fun ps H3 => Q ((x, y) :: ps) H3
abbrev VV : List (V × V) → List (Value × Value) → Prop := Paired fun p q => RelV p.1 q.1 ∧ RelV p.2 q.2
def PPs (X : Cx) (pos : Pos) (keys : List (Option Expr)) (values : List Expr) (trs : List (TE × TE)) : Prop :=
  ∀ (pins : List (Addr × Obj)) (s : Shared) (σ : St) (H : Hp) (Q : List (V × V) → Hp → Prop), Inv X pins σ H s → tPairs trs σ H Q →
    wpAny (model X.prog X.w) X.A (evalPairs (pairTrees keys values X.env pos)) (fun vs s' => ∃ ps H', Inv X pins σ H' s' ∧ VV ps vs ∧ Q ps H') X.xe s
def mergeK (kvs more : List (Key × V)) : List (Key × V) := more.foldl (fun acc kv => putK acc kv.1 kv.2) kvs
/-- {k: v, ..} with keys ints and texts; the new dict stands empty while the pairs are made -/
def tDisp (trs : List (TE × TE)) : TE := fun σ H Q => ∀ p, H p = none → tPairs trs σ (upd H p (.dK [])) fun ps H2 => H2 p = some (.dK []) ∧ ∃ kvs : List (Key × V), ps = kvs.map (fun kv => (kV kv.1, kv.2)) ∧ kvs.length ≤ 15 ∧ Q (.ref p) (upd H2 p (.dK (mergeK [] kvs)))
/-! ### methods -/
/-- a method call o.m(e) of a built-in, with one argument: what must be seen of the text -/
structure M1 (X : Cx) (o : Expr) (m : Str) (apos : Pos) (e : Expr) (cpos : Pos) : Prop where
  base : attributeBase o m X.env (eval o X.env) = eval o X.env
  few : ((backTo cpos (starEach [e] X.env)).all (fun x => !x.1) && (backToKw cpos (keywordEach [] X.env)).all (fun x => x.1.isSome)
    && decide (([e] : List Expr).length + ([] : List Keyword).length + (if ([] : List Keyword).isEmpty then 0 else 1) < 30)) = true
  line : (apos.endLine == cpos.line) = true
  trees : backTo cpos (starEach [e] X.env) = [(false, eval e X.env)]
structure M2 (X : Cx) (o : Expr) (m : Str) (apos : Pos) (e f : Expr) (cpos : Pos) : Prop where
  base : attributeBase o m X.env (eval o X.env) = eval o X.env
  few : ((backTo cpos (starEach [e, f] X.env)).all (fun x => !x.1) && (backToKw cpos (keywordEach [] X.env)).all (fun x => x.1.isSome)
    && decide (([e, f] : List Expr).length + ([] : List Keyword).length + (if ([] : List Keyword).isEmpty then 0 else 1) < 30)) = true
  line : (apos.endLine == cpos.line) = true
  trees : backTo cpos (starEach [e, f] X.env) = [(false, eval e X.env), (false, eval f X.env)]

/-- a is a dict, whatever its keys -/
def IsD (H : Hp) (a : Addr) : Prop := (∃ kvs, Rd H a (.dK kvs)) ∨ ∃ kvs, Rd H a (.dT kvs)
section
variable {X : Cx} {pins : List (Addr × Obj)} {σ : St} {H : Hp} {s : Shared} {a : Addr} {y d : V} {u r : Value} {o : Option V} {A : Around} {E : Value → Shared → Prop}
end

def tDGet1 (td ty : TE) : TE := fun σ H Q => td σ H fun x H1 => ∃ a, x = .ref a ∧ IsD H1 a ∧ ty σ H1 fun y H2 => ∃ o, DGet H2 a y o ∧ Q (o.getD .non) H2
def tDGet2 (td ty tx : TE) : TE := fun σ H Q => td σ H fun x H1 => ∃ a, x = .ref a ∧ IsD H1 a ∧ ty σ H1 fun y H2 => tx σ H2 fun z H3 => ∃ o, DGet H3 a y o ∧ Q (o.getD z) H3
/-- d.pop(k): there; d.pop(k, x): there or not -/
def tDPop1 (td ty : TE) : TE := fun σ H Q => td σ H fun x H1 => ∃ a, x = .ref a ∧ IsD H1 a ∧ ty σ H1 fun y H2 => ∃ kvs k v, H2 a = some (.dK kvs) ∧ y = kV k ∧ valV kvs k = some v ∧ Q v (upd H2 a (.dK (dropK kvs k)))
def tDPop2 (td ty tx : TE) : TE := fun σ H Q => td σ H fun x H1 => ∃ a, x = .ref a ∧ IsD H1 a ∧ ty σ H1 fun y H2 => tx σ H2 fun z H3 => ∃ kvs k, H3 a = some (.dK kvs) ∧ y = kV k ∧
  (∀ v, valV kvs k = some v → Q v (upd H3 a (.dK (dropK kvs k)))) ∧ (valV kvs k = none → Q z H3)
section
variable {X : Cx} {o e f : Expr} {apos cpos : Pos} {td ty tx : TE}
end

/-! ### dict(d): a copy -/
section
variable {X : Cx} {pins : List (Addr × Obj)} {σ : St} {H : Hp} {s : Shared} {a : Addr} {kvs : List (Key × V)} {A : Around} {E : Value → Shared → Prop}
end


section
variable {X : Cx} {pins : List (Addr × Obj)} {σ : St} {H : Hp} {s : Shared} {a : Addr} {y : V} {u : Value} {A : Around} {E : Value → Shared → Prop}
end
end L2

namespace L2
open PySem PySem.Spec PyProof.Rows

section
variable {prog : Program} {w : World} {A : Around} {E : Value → Shared → Prop}
end

section
variable {X : Cx}
end
end L2

namespace L2
open PySem PySem.Spec PyProof.Rows

section
variable {X : Cx} {pins : List (Addr × Obj)} {σ : St} {H : Hp} {s : Shared} {h' : Heap}
/-! ### locking a thing while a statement runs -/
end
/-- the statement runs while the thing at d is locked (read, not written); d and what stands there are the reading's choice -/
def tLock (t : TS) : TS := fun D σ H => ∃ d u, H d = some u ∧ Mut (some u) ∧ ∀ od, t ⟨fun σ' H' => H' d = some (.frz od u) ∧ D.nx σ' (upd H' d u), fun v H' => H' d = some (.frz od u) ∧ D.rt v (upd H' d u), fun σ' H' => H' d = some (.frz od u) ∧ D.bk σ' (upd H' d u), fun σ' H' => H' d = some (.frz od u) ∧ D.ct σ' (upd H' d u)⟩ σ (upd H d (.frz od u))
def tLockE (t : TE) : TE := fun σ H Q => ∃ d u, H d = some u ∧ Mut (some u) ∧ ∀ od, t σ (upd H d (.frz od u)) fun v H' => H' d = some (.frz od u) ∧ Q v (upd H' d u)
section
variable {X : Cx}
/-! ### one iterator just laid -/
end

/-! ### range with a step -/
/-- lo, lo + c, .. (n of them) -/
def Itc (lo c : Int) (n : Nat) : It := ⟨fun i _ => i < n, fun i H x H' => H' = H ∧ x = .int (lo + (i : Nat) * c), fun i _ => n ≤ i⟩
/-- range(i, j, c): small bounds, n items -/
def RgC (i j c : Int) (n : Nat) : Prop := c ≠ 0 ∧ c.natAbs < 1073741824 ∧ Builtin.Range.small i j c = true ∧ Builtin.Range.rangeSize i j c = n
def iRng3 (ta : TA) : TI := fun σ H R => ta σ H fun vs H1 => ∃ (i j c : Int) (n : Nat), vs = [.int i, .int j, .int c] ∧ RgC i j c n ∧ R (Itc i c n) H1
section
variable {X : Cx} {tg : Expr}
end
/-! ### reversed(list) -/
/-- the list at a (n items at the start, which the loop leaves there), from its end -/
def Itv (K : PySem.W.Frag) (a : Addr) (n : Nat) : It :=
  ⟨fun i H => i < n ∧ ∃ (xs : List V) (x : V), SqL K H a xs ∧ xs[n - 1 - i]? = some x, fun i H x H' => H' = H ∧ ∀ xs, SqL K H a xs → xs[n - 1 - i]? = some x, fun i _ => n ≤ i⟩
def iRev (K : PySem.W.Frag) (ta : TA) : TI := fun σ H R => ta σ H fun vs H1 => ∃ (a : Addr) (xs : List V), vs = [.ref a] ∧ SqL K H1 a xs ∧ R (Itv K a xs.length) H1
section
variable {X : Cx} {tg : Expr}
end

/-! ### a str -/
def Its (x : Str) : It := ⟨fun i _ => i < x.cps.size, fun i H v H' => H' = H ∧ ∃ c, x.cps[i]? = some c ∧ v = .str ⟨#[c]⟩, fun i _ => x.cps.size ≤ i⟩
def iStr (te : TE) : TI := fun σ H R => te σ H fun v H1 => ∃ x, v = .str x ∧ R (Its x) H1
/-! ### a dict's keys: any dict's entries -/
section
variable {prog : Program} {w : World} {A : Around} {E : Value → Shared → Prop} {s : Shared}
end

/-! ### a locked dict -/
section
variable {X : Cx} {pins : List (Addr × Obj)} {σ : St} {H : Hp} {s : Shared} {d : Addr} {o : Obj}
end

/-- the keys of the locked dict at d, in their order -/
def Itk (d : Addr) (o : Obj) (kvs : List (Key × V)) : It :=
  ⟨fun i H => H d = some (.frz o (.dK kvs)) ∧ i < kvs.length, fun i H x H' => H' = H ∧ ∃ k v, kvs[i]? = some (k, v) ∧ x = kV k, fun i H => H d = some (.frz o (.dK kvs)) ∧ kvs.length ≤ i⟩
/-- .. of tuple keys: the key's own tuple -/
def Itkt (d : Addr) (o : Obj) (kvs : List (List Key × V)) : It :=
  ⟨fun i H => H d = some (.frz o (.dT kvs)) ∧ i < kvs.length, fun i H x H' => H' = H ∧ ∃ (k : List Key) (v : V) (q : Addr), kvs[i]? = some (k, v) ∧ x = .ref q ∧ H q = some (.tup (k.map kV)), fun i H => H d = some (.frz o (.dT kvs)) ∧ kvs.length ≤ i⟩
/-- the values -/
def Itd (d : Addr) (o : Obj) (kvs : List (Key × V)) : It :=
  ⟨fun i H => H d = some (.frz o (.dK kvs)) ∧ i < kvs.length, fun i H x H' => H' = H ∧ ∃ k, kvs[i]? = some (k, x), fun i H => H d = some (.frz o (.dK kvs)) ∧ kvs.length ≤ i⟩
/-- the pairs, each a new tuple -/
def Iti (d : Addr) (o : Obj) (kvs : List (Key × V)) : It :=
  ⟨fun i H => H d = some (.frz o (.dK kvs)) ∧ i < kvs.length, fun i H x H' => ∃ T k v, kvs[i]? = some (k, v) ∧ x = .ref T ∧ H T = none ∧ H' = upd H T (.tup [kV k, v]), fun i H => H d = some (.frz o (.dK kvs)) ∧ kvs.length ≤ i⟩
section
variable {P : Program} {w : World} {K : PySem.W.Frag} {tg : Expr} {d : Addr} {o : Obj} {es : Array DictEntry} {ep : Nat}
end

/-! ### for k in d, d.keys(), d.values(), d.items() -/
/-- the dict is locked (tLock, or by the caller) -/
def iKeys (td : TE) : TI := fun σ H R => td σ H fun x H1 => ∃ d o, x = .ref d ∧ ((∃ kvs, H1 d = some (.frz o (.dK kvs)) ∧ R (Itk d o kvs) H1) ∨ ∃ kvs, H1 d = some (.frz o (.dT kvs)) ∧ R (Itkt d o kvs) H1)
def iVals (td : TE) : TI := fun σ H R => td σ H fun x H1 => ∃ d o kvs, x = .ref d ∧ H1 d = some (.frz o (.dK kvs)) ∧ R (Itd d o kvs) H1
def iItems (td : TE) : TI := fun σ H R => td σ H fun x H1 => ∃ d o kvs, x = .ref d ∧ H1 d = some (.frz o (.dK kvs)) ∧ R (Iti d o kvs) H1
def iKeysM (td : TE) : TI := fun σ H R => td σ H fun x H1 => ∃ d o kvs, x = .ref d ∧ H1 d = some (.frz o (.dK kvs)) ∧ R (Itk d o kvs) H1
section
variable {X : Cx} {tg e : Expr} {td : TE} {apos cpos : Pos}
end

/-! ### enumerate(list) -/
/-- the list at a as it stands at each turn, each item in a new pair -/
def Ite (K : PySem.W.Frag) (a : Addr) : It :=
  ⟨fun i H => ∃ (xs : List V) (x : V), SqL K H a xs ∧ xs[i]? = some x, fun i H v H' => ∃ T x, v = .ref T ∧ H T = none ∧ H' = upd H T (.tup [.int (i : Nat), x]) ∧ ∀ xs, SqL K H a xs → xs[i]? = some x, fun i H => ∃ xs : List V, SqL K H a xs ∧ xs.length ≤ i⟩
def iEnum (K : PySem.W.Frag) (ta : TA) : TI := fun σ H R => ta σ H fun vs H1 => ∃ a xs, vs = [.ref a] ∧ SqL K H1 a xs ∧ R (Ite K a) H1
/-! ### zip(list, list) -/
/-- the lists at a and b as they stand at each turn, the items in new pairs -/
def Itz (K : PySem.W.Frag) (a b : Addr) : It :=
  ⟨fun i H => ∃ (xs ys : List V) (x y : V), SqL K H a xs ∧ SqL K H b ys ∧ xs[i]? = some x ∧ ys[i]? = some y,
    fun i H v H' => ∃ T x y, v = .ref T ∧ H T = none ∧ H' = upd H T (.tup [x, y]) ∧ (∀ xs, SqL K H a xs → xs[i]? = some x) ∧ ∀ ys, SqL K H b ys → ys[i]? = some y,
    fun i H => ∃ xs ys : List V, SqL K H a xs ∧ SqL K H b ys ∧ (xs.length ≤ i ∨ ys.length ≤ i)⟩
def iZip (K : PySem.W.Frag) (ta : TA) : TI := fun σ H R => ta σ H fun vs H1 => ∃ a b xs ys, vs = [.ref a, .ref b] ∧ SqL K H1 a xs ∧ SqL K H1 b ys ∧ R (Itz K a b) H1
end L2

section 
namespace Bits
open PySem PyProof.Rows

end Bits
end 

section 
namespace TL
open PySem PySem.Builtin PySem.Builtin.Str PySem.StrLaws

abbrev tl (x : Str) : List Nat := x.cps.toList
/-! ### the list functions -/
/-- S stands at the head of l -/
def pre (S l : List Nat) : Bool := l.take S.length == S
/-- l cut at each S from the left; k signs are still to be passed over -/
def spl (S : List Nat) : Nat → List Nat → List Nat → List (List Nat)
  | _, acc, [] => [acc]
  | 0, acc, c :: r => if pre S (c :: r) = true then acc :: spl S (S.length - 1) [] r else spl S 0 (acc ++ [c]) r
  | k + 1, acc, _ :: r => spl S k acc r
/-- what stands before the first S, and behind it -/
def par (S : List Nat) : List Nat → List Nat → Option (List Nat × List Nat)
  | _, [] => none
  | acc, c :: r => if pre S (c :: r) = true then some (acc, (c :: r).drop S.length) else par S (acc ++ [c]) r

/-! ### the model's split and partition are these -/
/-! ### computing spl and par -/
/-- joined lists -/
def joinL (S : List Nat) : List (List Nat) → List Nat
  | [] => []
  | [p] => p
  | p :: q :: r => p ++ (S ++ joinL S (q :: r))
/-! ### digits -/
/-- the signs of a number -/
def numL (n : Nat) : List Nat := (Nat.toDigits 10 n).map Char.toNat
/-! ### words: x.split() -/
def wstep (st : List (List Nat) × List Nat) (c : Nat) : List (List Nat) × List Nat :=
  if Unicode.isSpace c = true then (if st.2 = [] then st else (st.1 ++ [st.2], [])) else (st.1, st.2 ++ [c])
def wfin (st : List (List Nat) × List Nat) : List (List Nat) := if st.2 = [] then st.1 else st.1 ++ [st.2]
end TL
end 

namespace L2
open PySem PySem.Spec PyProof.Rows

/-- a new list of texts, tracked -/
def rNewStrs (ys : List Str) : Hp → VK → Prop := fun H Q => ∀ p, H p = none → Q (.ref p) (upd H p (.lst (ys.map V.str)))

section
variable {X : Cx} {pins : List (Addr × Obj)} {σ : St} {H : Hp} {s : Shared} {Q : VK}
end

section
variable {X : Cx}

/-! ### of a text alone -/
/-! ### of a text and a text -/
end

section
variable {X : Cx} {o e : Expr} {to te : TE}
def tM0 (r : V → List V → Hp → VK → Prop) (to : TE) : TE := fun σ H Q => to σ H fun x H1 => (∃ a, x = .str a) ∧ r x [] H1 Q
def tM1 (r : V → List V → Hp → VK → Prop) (to te : TE) : TE := fun σ H Q => to σ H fun x H1 => (∃ a, x = .str a) ∧ te σ H1 fun y H2 => r x [y] H2 Q
end
end L2

namespace L2
open PySem PySem.Spec PyProof.Rows

section
variable {X : Cx}
end

/-! ### slices of a text -/
/-- a part, clipped, as the text's slice reckons it -/
def clipS (n d : Nat) : Option Int → Int
  | none => (d : Int)
  | some i => max 0 (min (if i < 0 then i + (n : Int) else i) (n : Int))
/-- z[lo:hi] -/
def cutS (z : Str) (lo hi : Option Int) : Str :=
  ⟨((z.cps.toList.drop (HT.sIx z.length 0 lo)).take (HT.sIx z.length z.length hi - HT.sIx z.length 0 lo)).toArray⟩
def rSlS : V → Option Int → Option Int → Hp → VK → Prop := fun x lo hi H Q => ∃ z, x = .str z ∧ z.length ≤ sizeLine ∧ Q (.str (cutS z lo hi)) H
end L2

namespace Att
open PySem PySem.W PySem.Calls PyProof.Rows

/-! ### the script -/
/-! ### the attachment: holds_open's last premise (the goal 'hc' behind k_head) from a wpAny of the law's body -/
/-! ### rules over ANY heap (no ledger) from facts about the written part K: the library's own take a ledger (News) for what they write -/
section
variable {prog : Program} {w : World} {A : Around} {E : Value → Shared → Prop} {s : Shared} {K : Frag}

/-! the whole heap as the ledger: makes every rule that writes through a ledger a rule over any heap -/
def noObjs (h : Heap) : Heap := { h with objs := #[] }
def ledger (h : Heap) (L d : Addr) : List (Addr × Obj) := (List.range h.objs.size).filterMap fun a => if a = L ∨ a = d then none else (h.get? a).map fun o => (a, o)
end
end Att

namespace L2
open PySem PySem.Spec PyProof.Rows

/-- nothing is tracked but the script, known to the object (or it is an object of the module) -/
def Only (H : Hp) : Prop := ∀ b, H b = none ∨ ∃ o xs, H b = some (.frz o (.lst xs))

end L2

namespace L2
open PySem PySem.Spec PyProof.Rows

abbrev KOf {K : PySem.W.Frag} {h : Heap} (_ : K.In h) : PySem.W.Frag := K

end L2


/-! SHORT WORDS over the layer: a def of the text, its body, what a loop and a test want. -/
namespace L2
open PySem PySem.Spec PyProof.Rows

/-! ### the text by places -/
/-- the j-th statement of a class's body -/
def inClass (s : Stmt) (j : Nat) : Stmt := match s with
  | .ClassDef _ _ _ body _ _ _ _ _ _ _ => body.getD j (.Pass ⟨0, 0, 0, 0⟩)
  | _ => .Pass ⟨0, 0, 0, 0⟩
def defArgs (s : Stmt) : Arguments := match s with
  | .FunctionDef _ a _ _ _ _ _ _ _ _ => a
  | _ => { posonlyargs := [], args := [], vararg := none, kwonlyargs := [], kw_defaults := [], kwarg := none, defaults := [] }
def defBody (s : Stmt) : List Stmt := match s with
  | .FunctionDef _ _ b _ _ _ _ _ _ _ => b
  | _ => []
def defScope (s : Stmt) : Scope := match s with
  | .FunctionDef _ _ _ _ _ _ sc _ _ _ => sc
  | _ => { kind := .function, names := [], isGenerator := false, isCoroutine := false }

/-! ### no exception leaves a def -/
abbrev CX0 : CXT := fun _ _ _ _ _ _ => False
abbrev E0 : XK := fun _ _ _ => False
theorem pass0 {X : Cx} : Passes CX0 X E0 := fun _ _ _ _ _ _ _ h => h.elim

/-! ### a def (or method) of the text as it stands behind the top -/
structure Fun (K : PySem.W.Frag) (x qual : Str) (st : Stmt) (f : Addr) (fd : FuncData) : Prop where
  ex : ∃ (oc : Value) (od : Option Addr) (kV doc pm : Value) (an : Option Addr) (cdv ct : Value) (osl : Array (Option Value)),
    fd = PySem.W.fnOf x qual (defArgs st) (defBody st) (defScope st) .none kV doc pm an cdv ct ∧ K.lookup f = some ⟨oc, od, .func fd, osl⟩ ∧ PySem.W.codeIn K cdv qual = true
  kp : PySem.W.keepIn K (.ref f) = true
section
variable {P : Program} {w : World} {K : PySem.W.Frag} {mg : Str → Option Value} {base : Heap}
/-- THE RULE for a def: its body as a term of rules, and the reading of that term -/
theorem Fun.ok {x qual : Str} {st : Stmt} {f : Addr} {fd : FuncData} {N ps : List Str} {k : Nat} {sp : Sp} (F : Fun K x qual st f fd) (S : FnScope N ps (defScope st)) (len : ∀ vs H Q E, sp vs H Q E → vs.length = ps.length)
    (hbody : ∀ (cdv : Value) (A : Around) (outer : List Env) (s : Shared) (H : Hp) (vs : List V) (Q : VK) (E : XK), Room k (A.deeper (envOfC qual (defScope st) s.heap.objs.size f cdv)) → sp vs H Q E →
      ∃ t, PSs (cxOf CX0 P w K mg base N qual (defScope st) f cdv A outer s H E).nox (defBody st) t ∧ t { nx := fun _ H' => Q .non H', rt := Q } (start N vs) H) : FnOk P w K mg base CX0 (k + 1) f fd ps sp := by
  obtain ⟨oc, od, kV, doc, pm, an, cdv, ct, osl, rfl, lk, hcd⟩ := F.ex
  refine fn_of lk hcd S len fun A outer s H vs Q E hr hsp => ?_
  obtain ⟨t, h, q⟩ := hbody cdv A outer s H vs Q E hr hsp
  exact ⟨t, h.nox, q⟩
/-- how its arguments bind (no defaults): h is «fun _ _ _ _ _ _ us hl => match us, hl with | [_, _], _ => rfl», one _ a parameter -/
theorem Fun.binds {x qual : Str} {st : Stmt} {f : Addr} {fd : FuncData} {ps : List Str} (F : Fun K x qual st f fd)
    (h : ∀ (kV doc pm : Value) (an : Option Addr) (cdv ct : Value) (us : List Value), us.length = ps.length → bindArgs (PySem.W.fnOf x qual (defArgs st) (defBody st) (defScope st) .none kV doc pm an cdv ct) ⟨us, []⟩ = pure (ps.zip us)) : Binds K fd ps [] := by
  obtain ⟨oc, od, kV, doc, pm, an, cdv, ct, osl, rfl, lk, hcd⟩ := F.ex
  exact .all (h kV doc pm an cdv ct)
theorem fun_mk {x qual : Str} {st : Stmt} {f : Addr} {oc : Value} {od an : Option Addr} {osl : Array (Option Value)} {kV doc pm cdv ct : Value} (l : K.lookup f = some ⟨oc, od, .func (PySem.W.fnOf x qual (defArgs st) (defBody st) (defScope st) .none kV doc pm an cdv ct), osl⟩)
    (c : PySem.W.codeIn K cdv qual = true) (k : PySem.W.keepIn K (.ref f) = true) : Fun K x qual st f (PySem.W.fnOf x qual (defArgs st) (defBody st) (defScope st) .none kV doc pm an cdv ct) := ⟨⟨oc, od, kV, doc, pm, an, cdv, ct, osl, rfl, l, c⟩, k⟩
end
theorem hu_of {A : Around} {k : Nat} (hr : Room k A) : A.units + 1 < cLine := Nat.lt_of_le_of_lt (Nat.add_le_add_left (by decide : 1 ≤ 64) _) hr.units
theorem small1000 {n : Nat} (h : n ≤ 1000) : n < sizeLine := Nat.lt_of_le_of_lt h (by decide)

/-! ### expressions in short: the name that stands in the i-th slot -/
section
variable {X : Cx}
theorem pv (i : Nat) {x : Str} {pos : Pos} (hN : X.N[i]? = some x := by rfl) (hv : Vis X.env.scope x := by first | exact Or.inl rfl | exact Or.inr (Or.inl rfl) | exact Or.inr (Or.inr rfl)) (hd : (x == ("__debug__" : Str)) = false := by decide)
    (hcd : (x == ("__classdict__" : Str)) = false := by decide) : PE X (.Name x pos) (tVar i) := pe_var hN hv hd hcd
end

/-! ### tests -/
theorem iteF {A B : Prop} (h : B) : if false = true then A else B := by
  rw [if_neg Bool.false_ne_true]
  exact h
theorem iteT {A B : Prop} (h : A) : if true = true then A else B := by
  rw [if_pos rfl]
  exact h
theorem ite2 {c A B : Prop} [Decidable c] (h1 : c → A) (h2 : ¬ c → B) : if c then A else B := by
  by_cases h : c
  · rw [if_pos h]
    exact h1 h
  · rw [if_neg h]
    exact h2 h
/-! ### heaps -/
/-- all that was tracked is as it was -/
def Same (H H' : Hp) : Prop := ∀ b o, H b = some o → H' b = some o
theorem Same.refl (H : Hp) : Same H H := fun _ _ h => h
theorem Same.trans {H H1 H2 : Hp} (a : Same H H1) (b : Same H1 H2) : Same H H2 := fun c o h => b c o (a c o h)
theorem Same.free {H H' : Hp} (e : Same H H') {l : Addr} (h : H' l = Option.none) : H l = Option.none := by
  cases q : H l with
  | none => rfl
  | some o =>
    rw [e l o q] at h
    cases h
theorem Same.seq {K : PySem.W.Frag} {H H' : Hp} {a : Addr} {xs : List V} (e : Same H H') (h : SqL K H a xs) : SqL K H' a xs := by
  rcases h with (h | ⟨o, h⟩) | h
  · exact .inl (.inl (e _ _ h))
  · exact .inl (.inr ⟨o, e _ _ h⟩)
  · exact .inr h

/-! ### a dict's pairs: keys that differ -/
section
variable {κ : Type} [DecidableEq κ]
end
/-! ### lists -/
theorem at_of {xs : List V} {z : Int} {j : Nat} {v : V} (e : z = (j : Int)) (h : xs[j]? = some v) : atI xs z = some v := by
  rw [e]
  exact atI_nat h
/-- a new instance and its __init__ leave all that was tracked as it was -/
theorem Same.made {H H1 : Hp} {x dx C : Addr} (nx : H x = Option.none) (nd : H dx = Option.none) (k : ∀ b o, (upd (upd H dx (.own x)) x (.ins C dx [])) b = some o → b ≠ x → H1 b = some o) : Same H H1 := fun b o e =>
  k b o (by rw [upd_ne (ne_of_none e nx), upd_ne (ne_of_none e nd)]; exact e) (ne_of_none e nx)
end L2
section
set_option Elab.async false
set_option linter.all false
set_option maxRecDepth 100000
set_option maxHeartbeats 2000000
namespace L2
open PySem PySem.Spec PyProof.Rows
open PySem.W (WData Codec OpenSpec Well WellAll ReadsW ReadsAllW)
/-! ### an answer as data -/
mutual
/-- x stands for the datum d, lists and tuples all the way -/
inductive Dw (K : PySem.W.Frag) (H : Hp) : V → WData → Prop
  | non : Dw K H .non .none
  | bl (b : Bool) : Dw K H (.bl b) (.bool b)
  | int (i : Int) : Dw K H (.int i) (.int i)
  | str (x : Str) : Dw K H (.str x) (.str x)
  | byt (b : Array UInt8) : Dw K H (.byt b) (.bytes b.toList)
  | lst {a : Addr} {xs : List V} {ds : List WData} : SqL K H a xs → DwAll K H xs ds → Dw K H (.ref a) (.list ds)
  | tup {a : Addr} {xs : List V} {ds : List WData} : SqT K H a xs → DwAll K H xs ds → Dw K H (.ref a) (.tuple ds)
inductive DwAll (K : PySem.W.Frag) (H : Hp) : List V → List WData → Prop
  | nil : DwAll K H [] []
  | cons {v : V} {vs : List V} {d : WData} {ds : List WData} : Dw K H v d → DwAll K H vs ds → DwAll K H (v :: vs) (d :: ds)
end
theorem dw_ints {K : PySem.W.Frag} {H : Hp} : ∀ ns : List Int, DwAll K H (ns.map V.int) (ns.map WData.int)
  | [] => .nil
  | n :: r => .cons (.int n) (dw_ints r)
theorem ints_dw {K : PySem.W.Frag} {H : Hp} : ∀ (ns : List Int) (xs : List V), DwAll K H xs (ns.map WData.int) → xs = ns.map V.int
  | [], xs, h => by
    cases h
    rfl
  | n :: r, xs, h => by
    cases h with
    | cons h1 h2 =>
      cases h1
      rw [ints_dw r _ h2] <;> rfl
section
variable {P : Program} {w : World} {K : PySem.W.Frag} {H : Hp} {h : Heap} {R : PySem.W.WRecords} {cl : Str → Option Addr}
theorem sqL_at {a : Addr} {xs : List V} (hok : HOk P w H h) (KX : K.In h) (q : SqL K H a xs) : ∃ (its : List Value) (o : Obj) (n : Nat), Vals xs its ∧ h.get? a = some o ∧ o.cls = .type "list" ∧ o.data = .seq its.toArray n := by
  rcases q with q | ⟨o, its, n, e, hc, _, hd, _, hv⟩
  · obtain ⟨_, its, n, hv, e⟩ := (show ObjOk P w H h a (.lst xs) from q.ok hok)
    exact ⟨its, _, n, hv, e, rfl, rfl⟩
  · exact ⟨its.toList, o, n, hv, KX _ _ e, hc, by simp [hd]⟩
theorem sqT_at {a : Addr} {xs : List V} (hok : HOk P w H h) (KX : K.In h) (q : SqT K H a xs) : ∃ (its : List Value) (o : Obj) (n : Nat), Vals xs its ∧ h.get? a = some o ∧ o.cls = .type "tuple" ∧ o.data = .seq its.toArray n := by
  rcases q with q | ⟨o, its, n, e, hc, hd, _, hv⟩
  · obtain ⟨_, its, hv, o, e, hc, n, hd⟩ := (show ObjOk P w H h a (.tup xs) from q.ok hok)
    exact ⟨its, o, n, hv, e, hc, hd⟩
  · exact ⟨its.toList, o, n, hv, KX _ _ e, hc, by simp [hd]⟩
mutual
theorem Dw.reads (hok : HOk P w H h) (KX : K.In h) : ∀ (d : WData) (v : V) (u : Value), Dw K H v d → RelV v u → ∃ as, ReadsW R cl h u d as
  | .none, _, _, x, r => by
    cases x
    cases r
    exact ⟨_, ReadsW.none⟩
  | .bool b, _, _, x, r => by
    cases x
    cases r
    exact ⟨_, ReadsW.bool b⟩
  | .int i, _, _, x, r => by
    cases x
    obtain ⟨t, rfl⟩ := r
    exact ⟨_, ReadsW.int i t⟩
  | .str s, _, _, x, r => by
    cases x
    obtain ⟨t, rfl⟩ := r
    exact ⟨_, ReadsW.str s t⟩
  | .bytes b, _, _, x, r => by
    cases x
    obtain ⟨t, rfl⟩ := r
    exact ⟨_, ReadsW.bytes _ t⟩
  | .list ds, _, _, x, r => by
    cases x with
    | lst hs ha =>
      cases r
      obtain ⟨its, o, n, rv, ho, hc, hd⟩ := sqL_at hok KX hs
      obtain ⟨as, hr⟩ := Dw.readsAll hok KX ds _ its ha rv
      exact ⟨_, ReadsW.list ho hc hd hr⟩
  | .tuple ds, _, _, x, r => by
    cases x with
    | tup hs ha =>
      cases r
      obtain ⟨its, o, n, rv, ho, hc, hd⟩ := sqT_at hok KX hs
      obtain ⟨as, hr⟩ := Dw.readsAll hok KX ds _ its ha rv
      exact ⟨_, ReadsW.tuple ho hc hd hr⟩
  | .float _, _, _, x, _ => by cases x
  | .dict _, _, _, x, _ => by cases x
  | .bytearray _, _, _, x, _ => by cases x
  | .set _, _, _, x, _ => by cases x
  | .frozenset _, _, _, x, _ => by cases x
  | .obj _ _, _, _, x, _ => by cases x
theorem Dw.readsAll (hok : HOk P w H h) (KX : K.In h) : ∀ (ds : List WData) (vs : List V) (us : List Value), DwAll K H vs ds → Vals vs us → ∃ as, ReadsAllW R cl h us ds as
  | [], _, _, x, r => by
    cases x
    cases r
    exact ⟨_, ReadsAllW.nil⟩
  | d :: ds, _, _, x, r => by
    cases x with
    | cons h1 h2 =>
      cases r with
      | cons r1 r2 =>
        obtain ⟨as, q1⟩ := Dw.reads hok KX d _ _ h1 r1
        obtain ⟨bs, q2⟩ := Dw.readsAll hok KX ds _ _ h2 r2
        exact ⟨_, ReadsAllW.cons q1 q2⟩
end
end
/-! ### the arguments -/
mutual
/-- data that a codec tells -/
def plW : WData → Bool
  | .none => true
  | .bool _ => true
  | .int _ => true
  | .str _ => true
  | .bytes _ => true
  | .list xs => plWs xs
  | .tuple xs => plWs xs
  | _ => false
def plWs : List WData → Bool
  | [] => true
  | x :: r => plW x && plWs r
end
theorem plWs_map {α : Type} {f : α → WData} (h : ∀ a, plW (f a) = true) : ∀ l : List α, plWs (l.map f) = true
  | [] => rfl
  | x :: r => by
    show (plW (f x) && plWs (r.map f)) = true
    rw [h x, plWs_map h r] <;> rfl
theorem pl_enc : ∀ (c : Codec) (a : c.denote), plW (c.enc a) = true
  | .unit, _ => rfl
  | .bool, _ => rfl
  | .int _ _, _ => rfl
  | .nat _ _, _ => rfl
  | .u8, _ => rfl
  | .bytes _ _, _ => rfl
  | .text _ _ _ _, _ => rfl
  | .list _ _ c, a => plWs_map (fun x => pl_enc c x) a
  | .pair c d, a => by
    show (plW (c.enc a.1) && (plW (d.enc a.2) && true)) = true
    rw [pl_enc c a.1, pl_enc d a.2] <;> rfl
  | .triple c d e, a => by
    show (plW (c.enc a.1) && (plW (d.enc a.2.1) && (plW (e.enc a.2.2) && true))) = true
    rw [pl_enc c a.1, pl_enc d a.2.1, pl_enc e a.2.2] <;> rfl
  | .option c, none => rfl
  | .option c, some x => pl_enc c x
theorem pl_encAll : ∀ (cs : List Codec) (a : Codec.denoteAll cs), plWs (Codec.encAll cs a) = true
  | [], _ => rfl
  | c :: cs, a => by
    show (plW (c.enc a.1) && plWs (Codec.encAll cs a.2)) = true
    rw [pl_enc c a.1, pl_encAll cs a.2] <;> rfl
theorem weight_mem : ∀ {xs : List WData} {d : WData}, d ∈ xs → d.weight ≤ WData.weightAll xs
  | [], d, h => absurd h (by simp)
  | x :: r, d, h => by
    show d.weight ≤ x.weight + 1 + WData.weightAll r
    rcases List.mem_cons.mp h with e | m
    · rw [e]
      omega
    · have z := weight_mem m
      omega
def toV : Value → V
  | .none => .non
  | .bool b => .bl b
  | .int i _ => .int i
  | .str x _ => .str x
  | .bytes b _ => .byt b
  | .ref a => .ref a
  | _ => .non
/-- a value of the arguments, its objects among A -/
def OkU (A : List Addr) : Value → Prop
  | .none => True
  | .bool _ => True
  | .int _ _ => True
  | .str _ _ => True
  | .bytes _ _ => True
  | .ref a => a ∈ A
  | _ => False
theorem OkU.mono {A B : List Addr} (h : ∀ a ∈ A, a ∈ B) : ∀ {u : Value}, OkU A u → OkU B u := fun {u} x => by
  cases u with
  | ref a => exact h a x
  | none => trivial
  | bool b => trivial
  | int i t => trivial
  | str s t => trivial
  | bytes b t => trivial
  | _ => exact False.elim x
theorem relV_toV {A : List Addr} {u : Value} (x : OkU A u) : RelV (toV u) u := by
  cases u with
  | ref a => rfl
  | none => rfl
  | bool b => rfl
  | int i t => exact ⟨t, rfl⟩
  | str s t => exact ⟨t, rfl⟩
  | bytes b t => exact ⟨t, rfl⟩
  | _ => exact False.elim x
theorem vals_toV {A : List Addr} : ∀ {vs : List Value}, (∀ u ∈ vs, OkU A u) → Vals (vs.map toV) vs
  | [], _ => .nil
  | u :: r, h => .cons (relV_toV (h u (List.mem_cons_self ..))) (vals_toV fun x hx => h x (List.mem_cons_of_mem _ hx))
/-- an object of the arguments -/
def ArgOb (h : Heap) (A : List Addr) (a : Addr) : Prop := ∃ vs : List Value, vs.length ≤ sizeLine ∧ (∀ u ∈ vs, OkU A u) ∧
  (h.get? a = some { cls := .type "list", data := .seq vs.toArray } ∨ h.get? a = some { cls := .type "tuple", data := .seq vs.toArray })
theorem ArgOb.mono {h : Heap} {A B : List Addr} {a : Addr} (k : ∀ a ∈ A, a ∈ B) (x : ArgOb h A a) : ArgOb h B a := by
  obtain ⟨vs, h1, h2, h3⟩ := x
  exact ⟨vs, h1, fun u hu => (h2 u hu).mono k, h3⟩
theorem wellAll_len {P : Params} {h : Heap} : ∀ {vs : List Value} {ds : List WData}, WellAll P h vs ds → vs.length = ds.length
  | _, _, .nil => rfl
  | _, _, .cons _ b => by
    show _ + 1 = _ + 1
    rw [wellAll_len b]
theorem well_list {P : Params} {h : Heap} {v : Value} {ds : List WData} (x : Well P h v (.list ds)) : ∃ (a : Addr) (vs : List Value), v = .ref a ∧ h.get? a = some { cls := .type "list", data := .seq vs.toArray } ∧ WellAll P h vs ds := by
  cases x with
  | list ho hall => exact ⟨_, _, rfl, ho, hall⟩
theorem well_tuple {P : Params} {h : Heap} {v : Value} {ds : List WData} (x : Well P h v (.tuple ds)) : ∃ (a : Addr) (vs : List Value), v = .ref a ∧ h.get? a = some { cls := .type "tuple", data := .seq vs.toArray } ∧ WellAll P h vs ds := by
  cases x with
  | tuple ho hall => exact ⟨_, _, rfl, ho, hall⟩
theorem well_cons {P : Params} {h : Heap} {us : List Value} {d : WData} {ds : List WData} (x : WellAll P h us (d :: ds)) : ∃ (v : Value) (vs : List Value), us = v :: vs ∧ Well P h v d ∧ WellAll P h vs ds := by
  cases x with
  | cons a b => exact ⟨_, _, rfl, a, b⟩
theorem line_of {n : Nat} (h : n ≤ 1048576) : n ≤ sizeLine := Nat.le_trans h (by decide)
section
variable {P : Params} {h : Heap}
mutual
theorem area_one : ∀ (d : WData) (v : Value), Well P h v d → plW d = true → d.weight ≤ 1048576 → ∃ A : List Addr, OkU A v ∧ ∀ a ∈ A, ArgOb h A a
  | .none, _, x, _, _ => by
    cases x
    exact ⟨[], trivial, fun a m => absurd m (by simp)⟩
  | .bool b, _, x, _, _ => by
    cases x
    exact ⟨[], trivial, fun a m => absurd m (by simp)⟩
  | .int i, _, x, _, _ => by
    cases x
    exact ⟨[], trivial, fun a m => absurd m (by simp)⟩
  | .str s, _, x, _, _ => by
    cases x
    exact ⟨[], trivial, fun a m => absurd m (by simp)⟩
  | .bytes b, _, x, _, _ => by
    cases x
    exact ⟨[], trivial, fun a m => absurd m (by simp)⟩
  | .list ds, _, x, p, z => by
    obtain ⟨a, vs, rfl, ho, hall⟩ := well_list x
    have z2 : WData.weightAll ds ≤ 1048576 := z
    obtain ⟨A, h1, h2⟩ := area_all ds _ hall p fun d hd => Nat.le_trans (weight_mem hd) z2
    have k : ∀ b ∈ A, b ∈ a :: A := fun b hb => List.mem_cons_of_mem _ hb
    refine ⟨a :: A, List.mem_cons_self .., fun b hb => ?_⟩
    rcases List.mem_cons.mp hb with e | m
    · rw [e]
      exact ⟨vs, line_of (by rw [wellAll_len hall]; exact Nat.le_trans (PySem.W.length_le_weightAllW ds) z2), fun u hu => (h1 u hu).mono k, .inl ho⟩
    · exact (h2 b m).mono k
  | .tuple ds, _, x, p, z => by
    obtain ⟨a, vs, rfl, ho, hall⟩ := well_tuple x
    have z2 : WData.weightAll ds ≤ 1048576 := z
    obtain ⟨A, h1, h2⟩ := area_all ds _ hall p fun d hd => Nat.le_trans (weight_mem hd) z2
    have k : ∀ b ∈ A, b ∈ a :: A := fun b hb => List.mem_cons_of_mem _ hb
    refine ⟨a :: A, List.mem_cons_self .., fun b hb => ?_⟩
    rcases List.mem_cons.mp hb with e | m
    · rw [e]
      exact ⟨vs, line_of (by rw [wellAll_len hall]; exact Nat.le_trans (PySem.W.length_le_weightAllW ds) z2), fun u hu => (h1 u hu).mono k, .inr ho⟩
    · exact (h2 b m).mono k
  | .float _, _, _, p, _ => Bool.noConfusion (show false = true from p)
  | .dict _, _, _, p, _ => Bool.noConfusion (show false = true from p)
  | .bytearray _, _, _, p, _ => Bool.noConfusion (show false = true from p)
  | .set _, _, _, p, _ => Bool.noConfusion (show false = true from p)
  | .frozenset _, _, _, p, _ => Bool.noConfusion (show false = true from p)
  | .obj _ _, _, _, p, _ => Bool.noConfusion (show false = true from p)
theorem area_all : ∀ (ds : List WData) (vs : List Value), WellAll P h vs ds → plWs ds = true → (∀ d ∈ ds, d.weight ≤ 1048576) → ∃ A : List Addr, (∀ u ∈ vs, OkU A u) ∧ ∀ a ∈ A, ArgOb h A a
  | [], _, x, _, _ => by
    cases x
    exact ⟨[], fun u m => absurd m (by simp), fun a m => absurd m (by simp)⟩
  | d :: ds, _, x, p, z => by
    obtain ⟨v, vs, rfl, x1, x2⟩ := well_cons x
    have q : plW d = true ∧ plWs ds = true := Bool.and_eq_true_iff.mp p
    obtain ⟨A, a1, a2⟩ := area_one d v x1 q.1 (z d (List.mem_cons_self ..))
    obtain ⟨B, b1, b2⟩ := area_all ds vs x2 q.2 fun e he => z e (List.mem_cons_of_mem _ he)
    have kA : ∀ b ∈ A, b ∈ A ++ B := fun b hb => List.mem_append.mpr (.inl hb)
    have kB : ∀ b ∈ B, b ∈ A ++ B := fun b hb => List.mem_append.mpr (.inr hb)
    refine ⟨A ++ B, fun u hu => ?_, fun b hb => ?_⟩
    · rcases List.mem_cons.mp hu with e | m
      · rw [e]
        exact a1.mono kA
      · exact (b1 u m).mono kB
    · rcases List.mem_append.mp hb with m | m
      · exact (a2 b m).mono kA
      · exact (b2 b m).mono kB
end
end
/-- what is tracked of an argument's object -/
def hoOf (o : Obj) : Option HO := match o.data with
  | .seq vs _ => if (o.cls == Value.type "list") = true then some (.frz o (.lst (vs.toList.map toV))) else some (.frz o (.tup (vs.toList.map toV)))
  | _ => none
def argH (K : PySem.W.Frag) (h : Heap) (A : List Addr) : Hp := fun b => if b ∈ A then (if (K.lookup b).isNone = true then (h.get? b).bind hoOf else none) else none
/-- nothing is tracked but what is known to the object -/
def OnlyF (H : Hp) : Prop := ∀ b, H b = none ∨ ∃ o u, H b = some (.frz o u)
theorem hoOf_lst (vs : List Value) : hoOf { cls := .type "list", data := .seq vs.toArray } = some (.frz { cls := .type "list", data := .seq vs.toArray } (.lst (vs.map toV))) := by
  show (if (Value.type "list" == Value.type "list") = true then some (HO.frz { cls := .type "list", data := .seq vs.toArray } (.lst (vs.toArray.toList.map toV))) else some (HO.frz { cls := .type "list", data := .seq vs.toArray } (.tup (vs.toArray.toList.map toV)))) = _
  rw [if_pos (beq_self_eq_true _)]
theorem hoOf_tup (vs : List Value) : hoOf { cls := .type "tuple", data := .seq vs.toArray } = some (.frz { cls := .type "tuple", data := .seq vs.toArray } (.tup (vs.map toV))) := by
  show (if (Value.type "tuple" == Value.type "list") = true then some (HO.frz { cls := .type "tuple", data := .seq vs.toArray } (.lst (vs.toArray.toList.map toV))) else some (HO.frz { cls := .type "tuple", data := .seq vs.toArray } (.tup (vs.toArray.toList.map toV)))) = _
  rw [if_neg (by decide)]
section
variable {P : Program} {w : World} {K : PySem.W.Frag} {h : Heap} {A : List Addr}
theorem argH_at {b : Addr} {o : Obj} (hb : b ∈ A) (hk : K.lookup b = none) (e : h.get? b = some o) : argH K h A b = hoOf o := by
  unfold argH
  rw [if_pos hb, hk, if_pos (show (none : Option Obj).isNone = true from rfl), e] <;> rfl
theorem of_argH {b : Addr} {u : HO} (q : argH K h A b = some u) : b ∈ A ∧ K.lookup b = none := by
  unfold argH at q
  by_cases hb : b ∈ A
  · rw [if_pos hb] at q
    cases hk : K.lookup b with
    | none => exact ⟨hb, rfl⟩
    | some o =>
      rw [hk, if_neg (by simp)] at q
      cases q
  · rw [if_neg hb] at q
    cases q
/-- what stands tracked -/
theorem argH_is (ar : ∀ a ∈ A, ArgOb h A a) {b : Addr} {u : HO} (q : argH K h A b = some u) : K.lookup b = none ∧ ∃ vs : List Value, vs.length ≤ sizeLine ∧ (∀ u ∈ vs, OkU A u) ∧
    ((h.get? b = some { cls := .type "list", data := .seq vs.toArray } ∧ u = .frz { cls := .type "list", data := .seq vs.toArray } (.lst (vs.map toV))) ∨
     (h.get? b = some { cls := .type "tuple", data := .seq vs.toArray } ∧ u = .frz { cls := .type "tuple", data := .seq vs.toArray } (.tup (vs.map toV)))) := by
  obtain ⟨hb, hk⟩ := of_argH q
  obtain ⟨vs, h1, h2, h3⟩ := ar b hb
  refine ⟨hk, vs, h1, h2, ?_⟩
  rcases h3 with e | e
  · rw [argH_at hb hk e, hoOf_lst] at q
    exact .inl ⟨e, (Option.some.inj q).symm⟩
  · rw [argH_at hb hk e, hoOf_tup] at q
    exact .inr ⟨e, (Option.some.inj q).symm⟩
theorem argH_only (ar : ∀ a ∈ A, ArgOb h A a) : OnlyF (argH K h A) := fun b => by
  cases q : argH K h A b with
  | none => exact .inl rfl
  | some u =>
    obtain ⟨_, vs, _, _, ⟨_, e⟩ | ⟨_, e⟩⟩ := argH_is ar q
    · exact .inr ⟨_, _, by rw [e]⟩
    · exact .inr ⟨_, _, by rw [e]⟩
theorem argH_ok (ar : ∀ a ∈ A, ArgOb h A a) : HOk P w (argH K h A) h := fun b u q => by
  obtain ⟨_, vs, h1, h2, ⟨e, rfl⟩ | ⟨e, rfl⟩⟩ := argH_is ar q
  · exact ⟨e, by rw [List.length_map]; exact h1, vs, _, vals_toV h2, e⟩
  · exact ⟨e, by rw [List.length_map]; exact h1, vs, vals_toV h2, _, e, rfl, _, rfl⟩
theorem seq_inj {c c' : Value} {vs us : List Value} (e : (some { cls := c, data := .seq vs.toArray } : Option Obj) = some { cls := c', data := .seq us.toArray }) : c = c' ∧ vs = us := by
  have e1 := Option.some.inj e
  have e2 : c = c' := congrArg Obj.cls e1
  have e3 : Data.seq vs.toArray = Data.seq us.toArray := congrArg Obj.data e1
  injection e3 with e4
  refine ⟨e2, ?_⟩
  have e5 := congrArg Array.toList e4
  simpa using e5
/-- a list argument -/
theorem argL (KX : K.In h) (ar : ∀ a ∈ A, ArgOb h A a) {a : Addr} {vs : List Value} (ha : a ∈ A) (e : h.get? a = some { cls := .type "list", data := .seq vs.toArray }) : (∀ u ∈ vs, OkU A u) ∧ SqL K (argH K h A) a (vs.map toV) := by
  obtain ⟨us, h1, h2, h3⟩ := ar a ha
  have hu : us = vs := by
    rcases h3 with q | q
    · rw [e] at q
      exact (seq_inj q).2.symm
    · rw [e] at q
      exact absurd (Value.type.inj (seq_inj q).1) (by decide)
  subst hu
  refine ⟨h2, ?_⟩
  cases hk : K.lookup a with
  | none => exact .inl (.inr ⟨_, by rw [argH_at ha hk e, hoOf_lst]⟩)
  | some o =>
    have e2 := KX a o hk
    rw [e] at e2
    obtain rfl := Option.some.inj e2
    exact .inr ⟨_, us.toArray, _, hk, rfl, rfl, rfl, by rw [List.size_toArray]; exact h1, by simpa using vals_toV h2⟩
theorem argT (KX : K.In h) (ar : ∀ a ∈ A, ArgOb h A a) {a : Addr} {vs : List Value} (ha : a ∈ A) (e : h.get? a = some { cls := .type "tuple", data := .seq vs.toArray }) : (∀ u ∈ vs, OkU A u) ∧ SqT K (argH K h A) a (vs.map toV) := by
  obtain ⟨us, h1, h2, h3⟩ := ar a ha
  have hu : us = vs := by
    rcases h3 with q | q
    · rw [e] at q
      exact absurd (Value.type.inj (seq_inj q).1) (by decide)
    · rw [e] at q
      exact (seq_inj q).2.symm
  subst hu
  refine ⟨h2, ?_⟩
  cases hk : K.lookup a with
  | none => exact .inl (.inr ⟨_, by rw [argH_at ha hk e, hoOf_tup]⟩)
  | some o =>
    have e2 := KX a o hk
    rw [e] at e2
    obtain rfl := Option.some.inj e2
    exact .inr ⟨_, us.toArray, _, hk, rfl, rfl, by rw [List.size_toArray]; exact h1, by simpa using vals_toV h2⟩
mutual
theorem dw_one {Pm : Params} (KX : K.In h) (ar : ∀ a ∈ A, ArgOb h A a) : ∀ (d : WData) (v : Value), Well Pm h v d → plW d = true → OkU A v → Dw K (argH K h A) (toV v) d
  | .none, _, x, _, _ => by
    cases x
    exact .non
  | .bool b, _, x, _, _ => by
    cases x
    exact .bl b
  | .int i, _, x, _, _ => by
    cases x
    exact .int i
  | .str s, _, x, _, _ => by
    cases x
    exact .str s
  | .bytes b, _, x, _, _ => by
    cases x
    have z := Dw.byt (K := K) (H := argH K h A) b.toArray
    exact z
  | .list ds, _, x, p, hu => by
    obtain ⟨a, vs, rfl, ho, hall⟩ := well_list x
    obtain ⟨h2, hs⟩ := argL KX ar hu ho
    exact .lst hs (dw_all KX ar ds _ hall p h2)
  | .tuple ds, _, x, p, hu => by
    obtain ⟨a, vs, rfl, ho, hall⟩ := well_tuple x
    obtain ⟨h2, hs⟩ := argT KX ar hu ho
    exact .tup hs (dw_all KX ar ds _ hall p h2)
  | .float _, _, _, p, _ => Bool.noConfusion (show false = true from p)
  | .dict _, _, _, p, _ => Bool.noConfusion (show false = true from p)
  | .bytearray _, _, _, p, _ => Bool.noConfusion (show false = true from p)
  | .set _, _, _, p, _ => Bool.noConfusion (show false = true from p)
  | .frozenset _, _, _, p, _ => Bool.noConfusion (show false = true from p)
  | .obj _ _, _, _, p, _ => Bool.noConfusion (show false = true from p)
theorem dw_all {Pm : Params} (KX : K.In h) (ar : ∀ a ∈ A, ArgOb h A a) : ∀ (ds : List WData) (vs : List Value), WellAll Pm h vs ds → plWs ds = true → (∀ u ∈ vs, OkU A u) → DwAll K (argH K h A) (vs.map toV) ds
  | [], _, x, _, _ => by
    cases x
    exact .nil
  | d :: ds, _, x, p, hu => by
    obtain ⟨v, vs, rfl, x1, x2⟩ := well_cons x
    have q : plW d = true ∧ plWs ds = true := Bool.and_eq_true_iff.mp p
    exact .cons (dw_one KX ar d v x1 q.1 (hu _ (List.mem_cons_self ..))) (dw_all KX ar ds vs x2 q.2 fun u m => hu u (List.mem_cons_of_mem _ m))
end
end
/-! ### the call -/
theorem spec_call {P : Program} {w : World} {K : PySem.W.Frag} {mg mb : Str → Option Value} {CX : CXT} {k : Nat} {fa : Addr} {fd : FuncData} {ps : List Str} {sp : Sp} {s₁ : Shared} {vals : List Value} {ds : List WData} {R : PySem.W.WRecords} {cl : Str → Option Addr} {d0 : WData}
    (KX : K.In s₁.heap) (hns : s₁.heap.Ns mainGlobals mg) (hb : s₁.heap.Ns builtinsNs mb) (hbb : ∀ x : Str, x ≠ "__name__" → mb x = bootBuiltins x) (hlim : s₁.heap.NoLimit) (hg : s₁.gens = #[])
    (hwl : WellAll w.params s₁.heap vals ds) (hpl : plWs ds = true) (hwt : ∀ d ∈ ds, d.weight ≤ 1048576) (hr : Room k callerA)
    (F : ∀ base : Heap, K.In base → base.Ns mainGlobals mg → FnOk P w K mg base CX k fa fd ps sp) (hbind : ∀ (s : Shared) (us : List Value), us.length = ps.length → BindsTo s fd ⟨us, []⟩ (ps.zip us)) (hlen : ds.length = ps.length)
    (hsp : ∀ (H : Hp) (xs : List V), OnlyF H → DwAll K H xs ds → sp xs H (fun v H' => Dw K H' v d0) fun _ _ _ => False)
    (hCX : ∀ H e s', CX [] H s₁ (fun _ _ _ => False) e s' → False) :
    codeAny (model P w) callerA (.call (.ref fa) ⟨vals, []⟩) (fun r s' => ∃ u as, r = .ok (.ret u) ∧ ReadsW R cl s'.heap u d0 as ∧ OldK s₁.heap s'.heap ∧ s'.os = s₁.os ∧ AllBare s'.gens) s₁ := by
  obtain ⟨A, ho, ar⟩ := area_all ds vals hwl hpl hwt
  have hO : OnlyF (argH K s₁.heap A) := argH_only ar
  have hok : HOk P w (argH K s₁.heap A) s₁.heap := argH_ok ar
  have hS := dw_all KX ar ds vals hwl hpl ho
  have hV := vals_toV ho
  have hK : ∀ b u, argH K s₁.heap A b = some u → K.lookup b = none := fun b u q => (argH_is ar q).1
  have noA : ∀ {b : Addr} {o : Obj} {es : Array DictEntry} {ep : Nat}, s₁.heap.get? b = some o → o.data = .dict es ep → argH K s₁.heap A b = none := fun {b o es ep} e d => by
    cases q : argH K s₁.heap A b with
    | none => rfl
    | some u =>
      obtain ⟨_, vs, _, _, ⟨e2, _⟩ | ⟨e2, _⟩⟩ := argH_is ar q
      · rw [e2] at e
        cases e
        have d' : Data.seq vs.toArray _ = Data.dict es ep := d
        cases d'
      · rw [e2] at e
        cases e
        have d' : Data.seq vs.toArray _ = Data.dict es ep := d
        cases d'
  generalize argH K s₁.heap A = H at hO hok hS hK noA
  have base_of : ∀ {b : Addr} {o : Obj}, s₁.heap.get? b = some o → H b = none → (hidT s₁.heap H).get? b = some o := fun e n => hidT_get e n
  have nsK : ∀ {b : Addr} {m : Str → Option Value}, s₁.heap.Ns b m → (hidT s₁.heap H).Ns b m := fun {b m} ⟨o, es, ep, e, d, r⟩ => ⟨o, es, ep, base_of e (noA e d), d, r⟩
  have nK : ∀ b o, K.lookup b = some o → H b = none := fun b o e => by
    cases q : H b with
    | none => rfl
    | some u =>
      rw [hK b u q] at e
      cases e
  have hKb : K.In (hidT s₁.heap H) := fun b o e => base_of (KX b o e) (nK b o e)
  have hM : Mod K mg (hidT s₁.heap H) := ⟨hKb, nsK hns, ⟨mb, nsK hb, hbb⟩, let ⟨mc, h1, h2⟩ := hlim; ⟨mc, nsK h1, h2⟩⟩
  have e0 : Env0 P w K mg (hidT s₁.heap H) callerA [] s₁ H := ⟨rfl, hM, fun b o e => of_hidT e, Nat.le_of_eq (hidT_size _ _), trivial, fun b hb => absurd (show b ∈ ([] : List Addr) from hb) (by simp), hok, .of_eq hg⟩
  have hl : vals.length = ps.length := by rw [wellAll_len hwl]; exact hlen
  refine codeAny_mono ((F _ hKb (nsK hns)).run callerA [] s₁ H ⟨vals, []⟩ vals (vals.map toV) _ _ hr e0 (hbind s₁ vals hl) hV (hsp H _ hO hS)) fun r s' x => ?_
  cases r with
  | error e => exact (hCX H e s' x).elim
  | ok fl =>
    cases fl with
    | next => exact False.elim x
    | brk => exact False.elim x
    | cont => exact False.elim x
    | ret u =>
      obtain ⟨v, H', os, bare, un, hok', r', q⟩ := x
      have kept : ∀ b o, s₁.heap.get? b = some o → s'.heap.get? b = some o := fun b o e => by
        cases q2 : H b with
        | none => exact un.keep b o e q2 (by intro z; exact absurd (show b ∈ ([] : List Addr) from z) (by simp)) (by simp)
        | some u2 =>
          rcases hO b with z | ⟨ob, u3, z⟩
          · rw [q2] at z
            cases z
          · have z2 := un.frzs b ob _ z
            obtain ⟨e1, _⟩ := hok b _ z
            obtain ⟨e2, _⟩ := hok' b _ z2
            rw [e] at e1
            cases e1
            exact e2
      have KX' : K.In s'.heap := fun b o e => kept b o (KX b o e)
      obtain ⟨as, hrd⟩ := Dw.reads (R := R) (cl := cl) hok' KX' d0 v u q r'
      exact ⟨u, as, rfl, hrd, OldK.of_keep kept, os, bare⟩
/-! ### the row -/
theorem layable_weight {ds : List WData} (h : WData.layableAll ds = true) : ∀ d ∈ ds, d.weight ≤ 1048576 := fun d hd =>
  (PySem.W.layableW_iff.mp (List.all_eq_true.mp h d hd)).2.2
theorem encAll_len : ∀ (cs : List Codec) (a : Codec.denoteAll cs), (Codec.encAll cs a).length = cs.length
  | [], _ => rfl
  | c :: cs, a => by
    show (Codec.encAll cs a.2).length + 1 = cs.length + 1
    rw [encAll_len cs a.2]
/-- the goal that k_headS leaves (case hc), from the promise of the row's def: whatever the arguments that the codecs let and the row asks for, the def gives what stands for enc (f ..) -/
theorem walk_spec {r : OpenSpec} {k : Nat} {q : Program} {loose : List Str} {XP : (Str → Option Value) → Heap → Prop} {YP : World → Heap → Prop} {d : DefRec} {K : Params → PySem.W.Frag} {CX : World → CXT} {ps : List Str} {sp : World → Sp}
    (hwell : r.wellSaid = true) (hdf : d.params.defaults = []) (hlen : r.args.length = ps.length) (hr : Room k callerA)
    (hY : ∀ (w : World) (h : Heap), YP w h → (K w.params).In h)
    (F : ∀ (w : World) (mg : Str → Option Value) (fa : Addr) (h : Heap), YP w h → (K w.params).In h → h.Ns mainGlobals mg → mg d.name = some (.ref fa) →
      ∃ fd : FuncData, (∀ (s : Shared) (us : List Value), us.length = ps.length → BindsTo s fd ⟨us, []⟩ (ps.zip us)) ∧
        ∀ base : Heap, (K w.params).In base → base.Ns mainGlobals mg → FnOk r.prog w (K w.params) mg base (CX w) k fa fd ps (sp w))
    (hsp : ∀ (w : World) (H : Hp) (xs : List V) (a : Codec.denoteAll r.args), OnlyF H → Codec.withinAll r.args a = true → Codec.app r.args r.asked a = true → DwAll (K w.params) H xs (Codec.encAll r.args a) →
      sp w xs H (fun v H' => Dw (K w.params) H' v (r.ret.enc (Codec.app r.args r.f a))) fun _ _ _ => False)
    (hCX : ∀ (w : World) (H : Hp) (s : Shared) (e : Value) (s' : Shared), CX w [] H s (fun _ _ _ => False) e s' → False) :
    PySem.W.WalkOS q loose XP YP r d [] (fun f vs => PySem.call f vs) := by
  intro w s_0 s₁ mg mb G Y fa o pm cd doc dV kV ho hd hcd hD hmg hg args vals as hpre hlay hrd hwl hlo
  obtain ⟨a, e1, e2⟩ := PySem.W.os_pre_some hpre
  obtain ⟨e3, hwi⟩ := Codec.encAll_of_decAll r.args args a e1
  subst e3
  have KX := hY w _ Y
  obtain ⟨fd, hb, hF⟩ := F w mg fa _ Y KX G.T.g hmg
  refine PySem.W.enter_call (codeAny_mono (spec_call (R := []) (cl := classAt s_0.heap) (d0 := r.ret.enc (Codec.app r.args r.f a)) KX G.T.g G.T.b G.T.builtins G.T.nolimit hg hwl (pl_encAll _ _) (layable_weight hlay) hr hF hb (by rw [encAll_len]; exact hlen)
    (fun H xs hO hS => hsp w H xs a hO hwi e2 hS) fun H e s' => hCX w H s₁ e s') fun r' s' hq => ?_)
  obtain ⟨u, as', rfl, h1, h2, h3, h4⟩ := hq
  exact ⟨.inl ⟨u, _, as', rfl, fun _ => rfl, h1, (OpenSpec.post_iff hwell hwi _ _).mpr rfl, fun z => Bool.noConfusion (show false = true from z)⟩, h2, h3, h4⟩
/-- the same where the promise hangs on the written part alone -/
theorem walk_specK {r : OpenSpec} {k : Nat} {q : Program} {loose : List Str} {XP : (Str → Option Value) → Heap → Prop} {YP : World → Heap → Prop} {d : DefRec} {K : Params → PySem.W.Frag} {CX : CXT} {ps : List Str} {sp : PySem.W.Frag → Sp}
    (hwell : r.wellSaid = true) (hdf : d.params.defaults = []) (hlen : r.args.length = ps.length) (hr : Room k callerA)
    (hY : ∀ (w : World) (h : Heap), YP w h → (K w.params).In h)
    (F : ∀ (w : World) (mg : Str → Option Value) (fa : Addr) (h : Heap), YP w h → (K w.params).In h → h.Ns mainGlobals mg → mg d.name = some (.ref fa) →
      ∃ fd : FuncData, (∀ (s : Shared) (us : List Value), us.length = ps.length → BindsTo s fd ⟨us, []⟩ (ps.zip us)) ∧
        ∀ base : Heap, (K w.params).In base → base.Ns mainGlobals mg → FnOk r.prog w (K w.params) mg base CX k fa fd ps (sp (K w.params)))
    (hsp : ∀ (K : PySem.W.Frag) (H : Hp) (xs : List V) (a : Codec.denoteAll r.args), OnlyF H → Codec.withinAll r.args a = true → Codec.app r.args r.asked a = true → DwAll K H xs (Codec.encAll r.args a) →
      sp K xs H (fun v H' => Dw K H' v (r.ret.enc (Codec.app r.args r.f a))) fun _ _ _ => False)
    (hCX : ∀ (H : Hp) (s : Shared) (e : Value) (s' : Shared), CX [] H s (fun _ _ _ => False) e s' → False) :
    PySem.W.WalkOS q loose XP YP r d [] (fun f vs => PySem.call f vs) :=
  walk_spec (K := K) (CX := fun _ => CX) (sp := fun w => sp (K w.params)) hwell hdf hlen hr hY F (fun w H xs a h1 h2 h3 h4 => hsp (K w.params) H xs a h1 h2 h3 h4) fun _ H s e s' => hCX H s e s'
end L2
end
namespace M
open Km513
/-- what holds of every desk -/
structure WF (d : Desk) : Prop where
  ol : 1 ≤ d.old.length ∧ d.old.length ≤ 16
  nl : 1 ≤ d.new.length ∧ d.new.length ≤ 16
  sp : d.spare ≤ 16
  cl : d.copies.length ≤ 7
  ok : ∀ c ∈ d.copies, 1 ≤ c.n ∧ c.f + c.n ≤ d.old.length ∧ c.t + c.n ≤ d.new.length
  dj : d.copies.Pairwise (fun a b => a.t + a.n ≤ b.t ∨ b.t + b.n ≤ a.t)

def ov (a b c d : Nat) : Bool := decide (a < c + d) && decide (c < a + b)

theorem ov_any {p q : Nat → Bool} {a b c d : Nat} (hp : ∀ x, p x = (decide (a ≤ x) && decide (x < a + b))) (hq : ∀ x, q x = (decide (c ≤ x) && decide (x < c + d)))
    (hb : 1 ≤ b) (hd : 1 ≤ d) (h1 : a + b ≤ 16) (h2 : c + d ≤ 16) : (List.range 16).any (fun x => p x && q x) = ov a b c d := by
  rw [Bool.eq_iff_iff, List.any_eq_true]
  unfold ov
  rw [Bool.and_eq_true, decide_eq_true_eq, decide_eq_true_eq]
  constructor
  · rintro ⟨x, _, hx⟩
    rw [hp, hq] at hx
    simp only [Bool.and_eq_true, decide_eq_true_eq] at hx
    omega
  · rintro ⟨e1, e2⟩
    by_cases k : a ≤ c
    · refine ⟨c, List.mem_range.mpr (by omega), ?_⟩
      rw [hp, hq]
      simp only [Bool.and_eq_true, decide_eq_true_eq]
      omega
    · refine ⟨a, List.mem_range.mpr (by omega), ?_⟩
      rw [hp, hq]
      simp only [Bool.and_eq_true, decide_eq_true_eq]
      omega

theorem copy_eq {d : Desk} {i : Nat} (h : i < d.copies.length) : copy d i = d.copies[i] := by
  unfold copy
  rw [List.getD_eq_getElem?_getD, List.getElem?_eq_getElem h]
  rfl
theorem copy_at {d : Desk} {i : Nat} (h : i < d.copies.length) : d.copies[i]? = some (copy d i) := by
  rw [copy_eq h, List.getElem?_eq_getElem h]
theorem WF.copy {d : Desk} (W : WF d) {i : Nat} (h : i < d.copies.length) : 1 ≤ (copy d i).n ∧ (copy d i).f + (copy d i).n ≤ d.old.length ∧ (copy d i).t + (copy d i).n ≤ d.new.length := by
  rw [copy_eq h]
  exact W.ok _ (List.getElem_mem h)

/-- has_to_be_ahead, between two copies -/
def hb (a b : Copy) : Bool := ov a.f a.n b.t b.n
theorem ahead_eq {d : Desk} (W : WF d) {i j : Nat} (hi : i < d.copies.length) (hj : j < d.copies.length) : ahead d j i = (j != i && hb (copy d j) (copy d i)) := by
  unfold ahead hb
  have a := W.copy hi
  have b := W.copy hj
  have o := W.ol
  have n := W.nl
  rw [show CELLS = 16 from rfl, ov_any (p := reads (Km513.copy d j)) (q := writes (Km513.copy d i)) (a := (Km513.copy d j).f) (b := (Km513.copy d j).n) (c := (Km513.copy d i).t) (d := (Km513.copy d i).n) (fun x => rfl) (fun x => rfl) (by omega) (by omega) (by omega) (by omega)]

/-! ### the order -/
theorem table_at {d : Desk} {b : Nat} (hb : b < d.copies.length) : (table d).getD b [] = (numbers d).filter fun a => ahead d a b := by
  unfold table numbers
  rw [List.getD_eq_getElem?_getD, List.getElem?_map, List.getElem?_range hb]
  rfl
theorem table_has {d : Desk} {a b : Nat} (ha : a < d.copies.length) (hb : b < d.copies.length) : ((table d).getD b []).contains a = ahead d a b := by
  rw [table_at hb, Bool.eq_iff_iff, List.contains_iff_mem, List.mem_filter]
  unfold numbers
  rw [List.mem_range]
  exact ⟨fun h => h.2, fun h => ⟨ha, h⟩⟩

/-- ahead_of: of these numbers those that have to be ahead of i -/
def aheadOf (d : Desk) (i : Nat) (l : List Nat) : List Nat := l.filter fun j => j != i && hb (copy d j) (copy d i)
theorem aheadOf_eq {d : Desk} (W : WF d) {i : Nat} (hi : i < d.copies.length) {l : List Nat} (hl : ∀ j ∈ l, j < d.copies.length) : aheadOf d i l = l.filter fun j => ahead d j i := by
  unfold aheadOf
  apply List.filter_congr
  intro j hj
  rw [ahead_eq W hi (hl j hj)]
/-- first_free -/
def firstFree (d : Desk) (l : List Nat) : Option Nat := l.find? fun i => (aheadOf d i l).length == 0
theorem firstFree_eq {d : Desk} (W : WF d) {l : List Nat} (hl : ∀ j ∈ l, j < d.copies.length) : (l.find? fun b => !(l.any fun a => ((table d).getD b []).contains a)) = firstFree d l := by
  unfold firstFree
  have key : ∀ b ∈ l, (!(l.any fun a => ((table d).getD b []).contains a)) = ((aheadOf d b l).length == 0) := by
    intro b hb
    rw [aheadOf_eq W (hl b hb) hl, Bool.eq_iff_iff, Bool.not_eq_true', List.any_eq_false, beq_iff_eq, List.length_eq_zero_iff, List.filter_eq_nil_iff]
    constructor
    · intro h a ha
      rw [← table_has (hl a ha) (hl b hb)]
      exact h a ha
    · intro h a ha
      rw [table_has (hl a ha) (hl b hb)]
      exact h a ha
  have gen : ∀ m : List Nat, (∀ b ∈ m, b ∈ l) → (m.find? fun b => !(l.any fun a => ((table d).getD b []).contains a)) = m.find? fun i => (aheadOf d i l).length == 0 := by
    intro m
    induction m with
    | nil => intro _; rfl
    | cons b m ih =>
      intro hm
      rw [List.find?_cons, List.find?_cons, key b (hm b (List.mem_cons_self ..)), ih fun x hx => hm x (List.mem_cons_of_mem _ hx)]
  exact gen l fun _ h => h
theorem firstFree_mem {d : Desk} {l : List Nat} {i : Nat} (h : firstFree d l = some i) : i ∈ l := List.mem_of_find?_eq_some h

/-- one turn of the order's loop -/
theorem order_none {d : Desk} (W : WF d) {l : List Nat} (hl : ∀ j ∈ l, j < d.copies.length) (k : Nat) (h : firstFree d l = none) : orderUp (table d) k l = [] := by
  cases k with
  | zero => rfl
  | succ k =>
    show (match l.find? fun b => !(l.any fun a => ((table d).getD b []).contains a) with | none => [] | some b => b :: orderUp (table d) k (l.filter fun a => a != b)) = []
    rw [firstFree_eq W hl, h]
theorem order_some {d : Desk} (W : WF d) {l : List Nat} (hl : ∀ j ∈ l, j < d.copies.length) (k : Nat) {i : Nat} (h : firstFree d l = some i) : orderUp (table d) (k + 1) l = i :: orderUp (table d) k (l.filter fun a => a != i) := by
  show (match l.find? fun b => !(l.any fun a => ((table d).getD b []).contains a) with | none => [] | some b => b :: orderUp (table d) k (l.filter fun a => a != b)) = _
  rw [firstFree_eq W hl, h]
/-- a number taken out of a list that has it once -/
theorem erase_ne {l : List Nat} (nd : l.Nodup) (i : Nat) : l.erase i = l.filter fun a => a != i := by
  rw [List.Nodup.erase_eq_filter nd]
/-- order_of's answer -/
def orderOf (d : Desk) (l : List Nat) : Option (List Nat) := if noRing d l then some (order d l) else none
/-- what holds between two turns: order o, left l, of the numbers n -/
structure OrdInv (d : Desk) (n o l : List Nat) : Prop where
  eq : ∃ k, o.length + k = 7 ∧ orderUp (table d) 7 n = o ++ orderUp (table d) k l
  len : o.length + l.length = n.length
  nd : l.Nodup
  lt : ∀ j ∈ l, j < d.copies.length
theorem ordInv_start {d : Desk} {n : List Nat} (nd : n.Nodup) (lt : ∀ j ∈ n, j < d.copies.length) : OrdInv d n [] n := ⟨⟨7, rfl, rfl⟩, by simp, nd, lt⟩
theorem OrdInv.turn {d : Desk} (W : WF d) {n o l : List Nat} (I : OrdInv d n o l) (h7 : n.length ≤ 7) {i : Nat} (h : firstFree d l = some i) : OrdInv d n (o ++ [i]) (l.erase i) := by
  obtain ⟨⟨k, hk, e⟩, len, nd, lt⟩ := I
  have hi := firstFree_mem h
  have hpos : 0 < l.length := List.length_pos_of_mem hi
  obtain ⟨k', rfl⟩ : ∃ k', k = k' + 1 := ⟨k - 1, by omega⟩
  refine ⟨⟨k', by simp; omega, ?_⟩, by simp [List.length_erase_of_mem hi]; omega, nd.erase i, fun j hj => lt j (List.mem_of_mem_erase hj)⟩
  rw [e, order_some W lt k' h, erase_ne nd]
  simp
theorem OrdInv.none {d : Desk} (W : WF d) {n o l : List Nat} (I : OrdInv d n o l) (hl : 0 < l.length) (h : firstFree d l = none) : orderOf d n = none := by
  obtain ⟨⟨k, hk, e⟩, len, nd, lt⟩ := I
  rw [order_none W lt k h, List.append_nil] at e
  unfold orderOf noRing noRingBy
  rw [show COPIES = 7 from rfl, e, if_neg]
  intro z
  have := eq_of_beq z
  omega
theorem OrdInv.done {d : Desk} (W : WF d) {n o : List Nat} (I : OrdInv d n o []) : orderOf d n = some o := by
  obtain ⟨⟨k, hk, e⟩, len, nd, lt⟩ := I
  rw [order_none W lt k rfl, List.append_nil] at e
  unfold orderOf noRing noRingBy order
  rw [show COPIES = 7 from rfl, e, if_pos]
  exact beq_iff_eq.mpr (by simpa using len)
theorem orderOf_isSome {d : Desk} {l : List Nat} : (orderOf d l).isSome = noRing d l := by
  unfold orderOf
  cases noRing d l <;> rfl
end M
namespace M
open Km513
/-! ### all choices that leave out what doesn't fit -/
def addTo (cs : List Choice) (ns : List Nat) : List Choice := cs.flatMap fun c => ns.map fun k => c ++ [k]
def opts (b : Bool) : List Nat := if b then [0, 1, 2] else [2]
def choicesFor (fs : List Bool) : List Choice := fs.foldl (fun cs b => addTo cs (opts b)) [[]]
def cf : List Bool → List Choice
  | [] => [[]]
  | b :: bs => (opts b).flatMap fun k => (cf bs).map fun l => k :: l
theorem foldl_addTo : ∀ (fs : List Bool) (acc : List Choice), fs.foldl (fun cs b => addTo cs (opts b)) acc = acc.flatMap fun c => (cf fs).map fun l => c ++ l
  | [], acc => by
    show acc = acc.flatMap fun c => [c ++ []]
    simp
  | b :: bs, acc => by
    rw [List.foldl_cons, foldl_addTo bs]
    unfold addTo
    rw [List.flatMap_assoc]
    congr 1
    funext c
    show _ = ((opts b).flatMap fun k => (cf bs).map fun l => k :: l).map fun l => c ++ l
    rw [List.map_flatMap, List.flatMap_map]
    congr 1
    funext k
    rw [List.map_map]
    congr 1
    funext l
    simp
theorem choicesFor_eq (fs : List Bool) : choicesFor fs = cf fs := by
  unfold choicesFor
  rw [foldl_addTo]
  simp
def okC (fs : List Bool) (c : Choice) : Bool := (List.range fs.length).all fun i => fs.getD i false || c.getD i 2 == 2
theorem okC_cons (b : Bool) (bs : List Bool) (k : Nat) (l : Choice) : okC (b :: bs) (k :: l) = ((b || k == 2) && okC bs l) := by
  unfold okC
  rw [List.length_cons, List.range_succ_eq_map, List.all_cons, List.all_map]
  rfl
theorem choices_filter : ∀ fs : List Bool, (choices fs.length).filter (okC fs) = cf fs
  | [] => rfl
  | b :: bs => by
    have ih := choices_filter bs
    have e : ∀ k, ((choices bs.length).map fun l => k :: l).filter (okC (b :: bs)) = if (b || k == 2) then (cf bs).map fun l => k :: l else [] := by
      intro k
      rw [List.filter_map]
      by_cases q : (b || k == 2) = true
      · rw [if_pos q, ← ih]
        congr 1
        apply List.filter_congr
        intro l _
        show okC (b :: bs) (k :: l) = okC bs l
        rw [okC_cons, q, Bool.true_and]
      · rw [if_neg q]
        rw [List.map_eq_nil_iff, List.filter_eq_nil_iff]
        intro l _
        show ¬ okC (b :: bs) (k :: l) = true
        rw [okC_cons]
        simp [q]
    show ([0, 1, 2].flatMap fun k => (choices bs.length).map fun l => k :: l).filter (okC (b :: bs)) = (opts b).flatMap fun k => (cf bs).map fun l => k :: l
    simp only [List.flatMap_cons, List.flatMap_nil, List.filter_append, e, List.append_nil]
    cases b <;> simp [opts]
theorem cf_len : ∀ (fs : List Bool) (c : Choice), c ∈ cf fs → c.length = fs.length
  | [], c, h => by
    have : c = [] := List.mem_singleton.mp h
    rw [this]; rfl
  | b :: bs, c, h => by
    obtain ⟨k, hk, h2⟩ := List.mem_flatMap.mp h
    obtain ⟨l, hl, rfl⟩ := List.mem_map.mp h2
    rw [List.length_cons, List.length_cons, cf_len bs l hl]
theorem cf_le : ∀ (fs : List Bool) (c : Choice), c ∈ cf fs → ∀ k ∈ c, k ≤ 2
  | [], c, h => by
    have : c = [] := List.mem_singleton.mp h
    rw [this]; intro k hk; cases hk
  | b :: bs, c, h => by
    obtain ⟨k, hk, h2⟩ := List.mem_flatMap.mp h
    obtain ⟨l, hl, rfl⟩ := List.mem_map.mp h2
    intro j hj
    rcases List.mem_cons.mp hj with rfl | hj
    · cases b <;> simp [opts] at hk <;> omega
    · exact cf_le bs l hl j hj
theorem addTo_len (cs : List Choice) (ns : List Nat) : (addTo cs ns).length = cs.length * ns.length := by
  unfold addTo
  induction cs with
  | nil => simp
  | cons c cs ih => rw [List.flatMap_cons, List.length_append, ih, List.length_map, List.length_cons, Nat.succ_mul, Nat.add_comm]
/-! ### lists compared -/
def lexLt : List Nat → List Nat → Bool
  | [], [] => false
  | [], _ :: _ => true
  | _ :: _, [] => false
  | a :: as, b :: bs => decide (a < b) || (a == b && lexLt as bs)
theorem lexLt_asymm : ∀ a b : List Nat, lexLt a b = true → lexLt b a = false
  | [], [], h => by cases h
  | [], _ :: _, _ => rfl
  | _ :: _, [], h => by cases h
  | a :: as, b :: bs, h => by
    unfold lexLt at h ⊢
    simp only [Bool.or_eq_true, Bool.and_eq_true, decide_eq_true_eq, beq_iff_eq] at h
    simp only [Bool.or_eq_false_iff, Bool.and_eq_false_iff, decide_eq_false_iff_not, beq_eq_false_iff_ne]
    rcases h with h | ⟨rfl, h⟩
    · exact ⟨by omega, .inl (by omega)⟩
    · exact ⟨by omega, .inr (lexLt_asymm as bs h)⟩
theorem lexLt_irrefl (a : List Nat) : lexLt a a = false := by
  cases h : lexLt a a with
  | false => rfl
  | true => rw [lexLt_asymm a a h] at h; cases h
theorem cf_sorted : ∀ fs : List Bool, (cf fs).Pairwise fun a b => lexLt a b = true
  | [] => List.pairwise_singleton _ _
  | b :: bs => by
    have ih := cf_sorted bs
    have e : ∀ k, ((cf bs).map fun l => k :: l).Pairwise fun a b => lexLt a b = true := by
      intro k
      rw [List.pairwise_map]
      refine ih.imp ?_
      intro a b h
      unfold lexLt
      simp [h]
    have x : ∀ k j, k < j → ∀ a ∈ (cf bs).map (fun l => k :: l), ∀ b ∈ (cf bs).map (fun l => j :: l), lexLt a b = true := by
      intro k j hkj a ha b hb
      obtain ⟨a, _, rfl⟩ := List.mem_map.mp ha
      obtain ⟨b, _, rfl⟩ := List.mem_map.mp hb
      unfold lexLt
      simp [hkj]
    show ((opts b).flatMap fun k => (cf bs).map fun l => k :: l).Pairwise _
    cases b
    · show ([2].flatMap fun k => (cf bs).map fun l => k :: l).Pairwise _
      rw [List.flatMap_cons, List.flatMap_nil, List.append_nil]
      exact e 2
    · show ([0, 1, 2].flatMap fun k => (cf bs).map fun l => k :: l).Pairwise _
      rw [List.flatMap_cons, List.flatMap_cons, List.flatMap_cons, List.flatMap_nil, List.append_nil, List.pairwise_append, List.pairwise_append]
      refine ⟨e 0, ⟨e 1, e 2, x 1 2 (by decide)⟩, ?_⟩
      intro a ha b hb
      rcases List.mem_append.mp hb with hb | hb
      · exact x 0 1 (by decide) a ha b hb
      · exact x 0 2 (by decide) a ha b hb
/-! ### sums -/
theorem foldl_add (l : List Nat) : ∀ a : Nat, l.foldl (fun (a b : Nat) => a + b) a = a + l.sum := by
  induction l with
  | nil => intro a; rfl
  | cons x l ih => intro a; rw [List.foldl_cons, ih, List.sum_cons]; omega
theorem sum_eq (l : List Nat) : sum l = l.sum := by
  unfold sum
  rw [foldl_add]; omega
theorem lengths_eq (d : Desk) (l : List Nat) : lengths d l = (l.map fun i => (copy d i).n).sum := sum_eq _
theorem three (d : Desk) (g : Nat → Nat) : ∀ l : List Nat, (∀ i ∈ l, g i ≤ 2) → lengths d (l.filter fun i => g i == 0) + lengths d (l.filter fun i => g i == 1) + lengths d (l.filter fun i => g i == 2) = lengths d l
  | [], _ => rfl
  | i :: l, h => by
    have ih := three d g l fun j hj => h j (List.mem_cons_of_mem _ hj)
    have hi := h i (List.mem_cons_self ..)
    simp only [lengths_eq] at ih ⊢
    rw [List.filter_cons, List.filter_cons, List.filter_cons]
    have q : g i = 0 ∨ g i = 1 ∨ g i = 2 := by omega
    rcases q with q | q | q <;> simp [q] <;> omega
theorem two (d : Desk) (g : Nat → Bool) : ∀ l : List Nat, lengths d (l.filter fun i => !g i) + lengths d (l.filter g) = lengths d l
  | [] => rfl
  | i :: l => by
    have ih := two d g l
    simp only [lengths_eq] at ih ⊢
    rw [List.filter_cons, List.filter_cons]
    cases q : g i <;> simp <;> omega
/-! ### what is sent, counted -/
theorem countP_range (t n : Nat) : ∀ m : Nat, (List.range m).countP (fun x => decide (t ≤ x) && decide (x < t + n)) = min m (t + n) - min m t
  | 0 => by simp
  | m + 1 => by
    rw [List.range_succ, List.countP_append, countP_range t n m]
    simp only [List.countP_cons, List.countP_nil]
    by_cases h1 : t ≤ m <;> by_cases h2 : m < t + n <;> simp [h1, h2] <;> omega
theorem countP_or (p q : Nat → Bool) : ∀ l : List Nat, (∀ x ∈ l, p x = true → q x = false) → l.countP (fun x => p x || q x) = l.countP p + l.countP q
  | [], _ => rfl
  | x :: l, h => by
    have ih := countP_or p q l fun y hy => h y (List.mem_cons_of_mem _ hy)
    have hx := h x (List.mem_cons_self ..)
    simp only [List.countP_cons, ih]
    cases e : p x
    · simp; omega
    · rw [hx e]; simp; omega
theorem cov_count (d : Desk) (m : Nat) (g : Nat → Bool) : ∀ l : List Nat, (∀ i ∈ l, (copy d i).t + (copy d i).n ≤ m) → l.Pairwise (fun i j => (copy d i).t + (copy d i).n ≤ (copy d j).t ∨ (copy d j).t + (copy d j).n ≤ (copy d i).t) →
    (List.range m).countP (fun x => l.any fun i => g i && writes (copy d i) x) = lengths d (l.filter g)
  | [], _, _ => by
    show (List.range m).countP (fun x => false) = 0
    rw [List.countP_eq_zero]
    intro x _ h
    cases h
  | i :: l, h, pw => by
    have ih := cov_count d m g l (fun j hj => h j (List.mem_cons_of_mem _ hj)) (List.pairwise_cons.mp pw).2
    have hi := h i (List.mem_cons_self ..)
    have hp := (List.pairwise_cons.mp pw).1
    simp only [List.any_cons]
    rw [countP_or, ih, lengths_eq, lengths_eq, List.filter_cons]
    · cases e : g i
      · simp
      · have c := countP_range (copy d i).t (copy d i).n m
        simp only [Bool.true_and]
        rw [show (fun x => writes (copy d i) x) = fun x => decide ((copy d i).t ≤ x) && decide (x < (copy d i).t + (copy d i).n) from rfl, c]
        simp
        omega
    · intro x _ hx
      rw [List.any_eq_false]
      intro j hj hc
      have q := hp j hj
      unfold writes at hx hc
      simp only [Bool.and_eq_true, decide_eq_true_eq] at hx hc
      omega
theorem filter_not_len (p : Nat → Bool) (l : List Nat) : (l.filter fun x => !p x).length + l.countP p = l.length := by
  induction l with
  | nil => rfl
  | cons x l ih =>
    rw [List.filter_cons, List.countP_cons]
    cases e : p x <;> simp <;> omega
theorem numbers_pw {d : Desk} (W : WF d) : (numbers d).Pairwise (fun i j => (copy d i).t + (copy d i).n ≤ (copy d j).t ∨ (copy d j).t + (copy d j).n ≤ (copy d i).t) := by
  unfold numbers
  rw [List.pairwise_iff_getElem]
  intro i j hi hj hij
  rw [List.length_range] at hi hj
  rw [List.getElem_range, List.getElem_range, copy_eq hi, copy_eq hj]
  exact (List.pairwise_iff_getElem.mp W.dj) i j hi hj hij
theorem sent_len {d : Desk} (W : WF d) (c : Choice) : (sent d c).length + lengths d ((numbers d).filter fun i => c.getD i 2 != 2) = d.new.length := by
  have k := cov_count d d.new.length (fun i => c.getD i 2 != 2) (numbers d) (fun i hi => (W.copy (List.mem_range.mp hi)).2.2) (numbers_pw W)
  rw [← k]
  unfold sent
  rw [filter_not_len, List.length_range]
theorem getD_le {c : Choice} (h : ∀ k ∈ c, k ≤ 2) (i : Nat) : c.getD i 2 ≤ 2 := by
  rw [List.getD_eq_getElem?_getD]
  cases e : c[i]? with
  | none => exact Nat.le_refl 2
  | some k => exact h k (List.mem_of_getElem? e)
theorem sent_len2 {d : Desk} (W : WF d) {c : Choice} (h : ∀ k ∈ c, k ≤ 2) : (sent d c).length + lengths d (of_ d c 0) + lengths d (of_ d c 1) = d.new.length := by
  have a := sent_len W c
  have g := getD_le h
  have b := three d (fun i => c.getD i 2) (numbers d) fun i _ => g i
  have f : lengths d ((numbers d).filter fun i => c.getD i 2 != 2) + lengths d ((numbers d).filter fun i => c.getD i 2 == 2) = lengths d (numbers d) := two d (fun i => c.getD i 2 == 2) (numbers d)
  unfold of_
  omega
theorem sent_lo {d : Desk} (W : WF d) {c : Choice} (h : ∀ k ∈ c, k ≤ 2) : (sent d c).length + lengths d (numbers d) = d.new.length + lengths d (of_ d c 2) := by
  have a := sent_len2 W h
  have b := three d (fun i => c.getD i 2) (numbers d) fun i _ => getD_le h i
  unfold of_ at *
  omega
end M
namespace M
open Km513
/-! ### the best choice -/
def fitsL (d : Desk) : List Bool := d.copies.map (fits d)
def lo (d : Desk) (c : Choice) (k : Nat) : Nat := lengths d (of_ d c k)
def rankLt (d : Desk) (c m : Choice) : Bool := decide (lo d c 2 < lo d m 2) || (lo d c 2 == lo d m 2 && (decide (lo d c 1 < lo d m 1) || (lo d c 1 == lo d m 1 && lexLt c m)))
def mayP (d : Desk) (c : Choice) : Bool := decide (lo d c 1 ≤ d.spare) && noRing d (of_ d c 0)
def all2 (d : Desk) : Choice := d.copies.map fun _ => 2
def bestStep (d : Desk) (m c : Choice) : Choice := if (rankLt d c m && mayP d c) = true then c else m
def bestP (d : Desk) : Choice := (cf (fitsL d)).foldl (bestStep d) (all2 d)
theorem fitsL_at {d : Desk} {i : Nat} (h : i < d.copies.length) : (fitsL d).getD i false = fits d (copy d i) := by
  unfold fitsL
  rw [List.getD_eq_getElem?_getD, List.getElem?_map, copy_at h]
  rfl
theorem okC_eq (d : Desk) (c : Choice) : okC (fitsL d) c = (numbers d).all fun i => fits d (copy d i) || c.getD i 2 == 2 := by
  unfold okC numbers
  rw [show (fitsL d).length = d.copies.length from List.length_map ..]
  rw [Bool.eq_iff_iff, List.all_eq_true, List.all_eq_true]
  constructor
  · intro h i hi
    rw [← fitsL_at (List.mem_range.mp hi)]
    exact h i hi
  · intro h i hi
    rw [fitsL_at (List.mem_range.mp hi)]
    exact h i hi
theorem mayBy_eq (d : Desk) (c : Choice) : mayBy (table d) d c = (okC (fitsL d) c && mayP d c) := by
  rw [okC_eq]
  rfl
theorem best_fold (d : Desk) : best d = (cf (fitsL d)).foldl (fun m c => if mayP d c = true then (if better d c m = true then c else m) else m) (all2 d) := by
  show ((choices d.copies.length).filter fun c => mayBy (table d) d c).foldl (fun (m c : Choice) => if better d c m = true then c else m) (all2 d) = _
  have e : ((choices d.copies.length).filter fun c => mayBy (table d) d c) = (cf (fitsL d)).filter (mayP d) := by
    rw [← choices_filter, List.filter_filter, show (fitsL d).length = d.copies.length from List.length_map ..]
    apply List.filter_congr
    intro c _
    rw [mayBy_eq, Bool.and_comm]
  rw [e, List.foldl_filter]
theorem all2_le (d : Desk) : ∀ k ∈ all2 d, k ≤ 2 := by
  intro k hk
  obtain ⟨_, _, rfl⟩ := List.mem_map.mp hk
  exact Nat.le_refl 2
theorem all2_at (d : Desk) (i : Nat) : (all2 d).getD i 2 = 2 := by
  unfold all2
  rw [List.getD_eq_getElem?_getD, List.getElem?_map]
  cases d.copies[i]? <;> rfl
theorem all2_of (d : Desk) {k : Nat} (h : k ≠ 2) : of_ d (all2 d) k = [] := by
  unfold of_
  rw [List.filter_eq_nil_iff]
  intro i _ z
  rw [all2_at] at z
  exact h (eq_of_beq z).symm
theorem lengths_nil (d : Desk) : lengths d [] = 0 := rfl
theorem lengths_pos {d : Desk} (W : WF d) {l : List Nat} (hl : ∀ i ∈ l, i < d.copies.length) (h : lengths d l = 0) : l = [] := by
  cases l with
  | nil => rfl
  | cons i l =>
    rw [lengths_eq, List.map_cons, List.sum_cons] at h
    have := (W.copy (hl i (List.mem_cons_self ..))).1
    omega
theorem of_lt {d : Desk} {c : Choice} {k : Nat} : ∀ i ∈ of_ d c k, i < d.copies.length := fun _ hi => List.mem_range.mp (List.mem_filter.mp hi).1
theorem all2_only {d : Desk} (W : WF d) {c : Choice} (hc : c.length = d.copies.length) (h2 : ∀ k ∈ c, k ≤ 2) (h : lo d c 2 = lo d (all2 d) 2) : c = all2 d := by
  have a := three d (fun i => c.getD i 2) (numbers d) fun i _ => getD_le h2 i
  have b := three d (fun i => (all2 d).getD i 2) (numbers d) fun i _ => getD_le (all2_le d) i
  have z0 : lo d (all2 d) 0 = 0 := by unfold lo; rw [all2_of d (by decide)]; rfl
  have z1 : lo d (all2 d) 1 = 0 := by unfold lo; rw [all2_of d (by decide)]; rfl
  have a' : lo d c 0 + lo d c 1 + lo d c 2 = lengths d (numbers d) := a
  have b' : lo d (all2 d) 0 + lo d (all2 d) 1 + lo d (all2 d) 2 = lengths d (numbers d) := b
  have n0 : of_ d c 0 = [] := lengths_pos W of_lt (show lo d c 0 = 0 by omega)
  have n1 : of_ d c 1 = [] := lengths_pos W of_lt (show lo d c 1 = 0 by omega)
  apply List.ext_getElem?
  intro i
  by_cases hi : i < d.copies.length
  · have q := getD_le h2 i
    have q0 : ¬ c.getD i 2 = 0 := fun z => by
      have := (List.filter_eq_nil_iff.mp n0) i (List.mem_range.mpr hi)
      rw [z] at this
      exact this rfl
    have q1 : ¬ c.getD i 2 = 1 := fun z => by
      have := (List.filter_eq_nil_iff.mp n1) i (List.mem_range.mpr hi)
      rw [z] at this
      exact this rfl
    have e1 : c.getD i 2 = 2 := by omega
    have e2 := all2_at d i
    have l2 : i < (all2 d).length := by unfold all2; rw [List.length_map]; exact hi
    have l1 : i < c.length := by omega
    rw [List.getD_eq_getElem?_getD, List.getElem?_eq_getElem l1] at e1
    rw [List.getD_eq_getElem?_getD, List.getElem?_eq_getElem l2] at e2
    rw [List.getElem?_eq_getElem l1, List.getElem?_eq_getElem l2]
    exact congrArg some (e1.trans e2.symm)
  · rw [List.getElem?_eq_none (by omega), List.getElem?_eq_none (by unfold all2; rw [List.length_map]; omega)]
theorem rank_better {d : Desk} (W : WF d) {c m : Choice} (hc : c.length = d.copies.length) (c2 : ∀ k ∈ c, k ≤ 2) (m2 : ∀ k ∈ m, k ≤ 2) (h : m = all2 d ∨ lexLt m c = true) : rankLt d c m = better d c m := by
  have sc := sent_lo W c2
  have sm := sent_lo W m2
  have sc' : (sent d c).length + lengths d (numbers d) = d.new.length + lo d c 2 := sc
  have sm' : (sent d m).length + lengths d (numbers d) = d.new.length + lo d m 2 := sm
  unfold rankLt better
  show _ = (decide ((sent d c).length < (sent d m).length) || ((sent d c).length == (sent d m).length && decide (lo d c 1 < lo d m 1)))
  by_cases q : lo d c 2 = lo d m 2
  · have x : lexLt c m = false := by
      rcases h with h | h
      · subst h
        rw [all2_only W hc c2 q]
        exact lexLt_irrefl _
      · exact lexLt_asymm _ _ h
    have e : (sent d c).length = (sent d m).length := by omega
    rw [x, q, e]
    simp
  · have e : ¬ (sent d c).length = (sent d m).length := by omega
    have b1 : (lo d c 2 == lo d m 2) = false := beq_eq_false_iff_ne.mpr q
    have b2 : ((sent d c).length == (sent d m).length) = false := beq_eq_false_iff_ne.mpr e
    rw [b1, b2]
    simp only [Bool.false_and, Bool.or_false]
    rw [decide_eq_decide]
    omega
theorem best_gen {d : Desk} (W : WF d) : ∀ (l : List Choice) (m : Choice), (∀ c ∈ l, c.length = d.copies.length ∧ ∀ k ∈ c, k ≤ 2) → l.Pairwise (fun a b => lexLt a b = true) → (∀ k ∈ m, k ≤ 2) → (m = all2 d ∨ ∀ c ∈ l, lexLt m c = true) →
    l.foldl (fun m c => if mayP d c = true then (if better d c m = true then c else m) else m) m = l.foldl (bestStep d) m
  | [], _, _, _, _, _ => rfl
  | c :: l, m, hl, pw, m2, h => by
    have hc := hl c (List.mem_cons_self ..)
    have pw' := List.pairwise_cons.mp pw
    have r : rankLt d c m = better d c m := rank_better W hc.1 hc.2 m2 (h.imp id fun z => z c (List.mem_cons_self ..))
    rw [List.foldl_cons, List.foldl_cons]
    have e : (if mayP d c = true then (if better d c m = true then c else m) else m) = bestStep d m c := by
      unfold bestStep
      rw [r]
      cases mayP d c <;> cases better d c m <;> rfl
    rw [e]
    have hl' := fun c' (hc' : c' ∈ l) => hl c' (List.mem_cons_of_mem _ hc')
    by_cases q : (rankLt d c m && mayP d c) = true
    · have b : bestStep d m c = c := if_pos q
      rw [b]
      exact best_gen W l c hl' pw'.2 hc.2 (.inr pw'.1)
    · have b : bestStep d m c = m := if_neg q
      rw [b]
      exact best_gen W l m hl' pw'.2 m2 (h.imp id fun z c' hc' => z c' (List.mem_cons_of_mem _ hc'))
theorem cf_fits_len {d : Desk} {c : Choice} (h : c ∈ cf (fitsL d)) : c.length = d.copies.length := by
  rw [cf_len _ c h]
  exact List.length_map ..
theorem best_eq {d : Desk} (W : WF d) : best d = bestP d := by
  rw [best_fold]
  exact best_gen W _ _ (fun c hc => ⟨cf_fits_len hc, cf_le _ c hc⟩) (cf_sorted _) (all2_le d) (.inl rfl)
/-- the best choice is one of them, or all are left out -/
theorem bestFold_ok {d : Desk} (l : List Choice) : ∀ (m : Choice), (∀ c ∈ l, c.length = d.copies.length ∧ ∀ k ∈ c, k ≤ 2) → (m.length = d.copies.length ∧ ∀ k ∈ m, k ≤ 2) → (l.foldl (bestStep d) m).length = d.copies.length ∧ ∀ k ∈ l.foldl (bestStep d) m, k ≤ 2 := by
  induction l with
  | nil => intro m _ h; exact h
  | cons c l ih =>
    intro m hl hm
    rw [List.foldl_cons]
    refine ih _ (fun c' hc' => hl c' (List.mem_cons_of_mem _ hc')) ?_
    unfold bestStep
    split
    · exact hl c (List.mem_cons_self ..)
    · exact hm
theorem bestP_ok (d : Desk) : (bestP d).length = d.copies.length ∧ ∀ k ∈ bestP d, k ≤ 2 :=
  bestFold_ok _ _ (fun c hc => ⟨cf_fits_len hc, cf_le _ c hc⟩) ⟨List.length_map .., all2_le d⟩
theorem best_ok {d : Desk} (W : WF d) : (best d).length = d.copies.length ∧ ∀ k ∈ best d, k ≤ 2 := by
  rw [best_eq W]; exact bestP_ok d
end M
namespace M
open Km513
/-! ### stretches -/
theorem alike_go {d : Desk} {k f t : Nat} (h : f < d.old.length ∧ t < d.new.length ∧ at_ d.old f = at_ d.new t) : alike d (k + 1) f t = 1 + alike d k (f + 1) (t + 1) := if_pos h
theorem alike_end {d : Desk} {k f t : Nat} (h : ¬ (f < d.old.length ∧ t < d.new.length ∧ at_ d.old f = at_ d.new t)) : alike d k f t = 0 := by
  cases k with
  | zero => rfl
  | succ k => exact if_neg h
/-- between two turns of stretch: n cells so far -/
structure StrInv (d : Desk) (f t n : Nat) : Prop where
  eq : ∃ k, n + k = 16 ∧ alike d CELLS f t = n + alike d k (f + n) (t + n)
theorem strInv_start (d : Desk) (f t : Nat) : StrInv d f t 0 := ⟨16, rfl, by show alike d 16 f t = 0 + alike d 16 f t; omega⟩
theorem StrInv.turn {d : Desk} (W : WF d) {f t n : Nat} (I : StrInv d f t n) (h : f + n < d.old.length ∧ t + n < d.new.length ∧ at_ d.old (f + n) = at_ d.new (t + n)) : StrInv d f t (n + 1) := by
  obtain ⟨k, hk, e⟩ := I.eq
  have := W.ol.2
  obtain ⟨k', rfl⟩ : ∃ k', k = k' + 1 := ⟨k - 1, by omega⟩
  refine ⟨k', by omega, ?_⟩
  rw [e, alike_go h, show f + (n + 1) = f + n + 1 by omega, show t + (n + 1) = t + n + 1 by omega]
  omega
theorem StrInv.done {d : Desk} {f t n : Nat} (I : StrInv d f t n) (h : ¬ (f + n < d.old.length ∧ t + n < d.new.length ∧ at_ d.old (f + n) = at_ d.new (t + n))) : alike d CELLS f t = n := by
  obtain ⟨k, hk, e⟩ := I.eq
  rw [e, alike_end h]
  omega
theorem alike_le (d : Desk) : ∀ k f t, alike d k f t = 0 ∨ (f + alike d k f t ≤ d.old.length ∧ t + alike d k f t ≤ d.new.length)
  | 0, _, _ => .inl rfl
  | k + 1, f, t => by
    by_cases h : f < d.old.length ∧ t < d.new.length ∧ at_ d.old f = at_ d.new t
    · rw [alike_go h]
      rcases alike_le d k (f + 1) (t + 1) with e | e <;> right <;> omega
    · exact .inl (alike_end h)
/-! ### the longest -/
def longStep (d : Desk) (t : Nat) (c : Copy) (f : Nat) : Copy := if c.n < alike d CELLS f t then ⟨f, t, alike d CELLS f t⟩ else c
def longTo (d : Desk) (t i : Nat) : Copy := (List.range i).foldl (longStep d t) ⟨0, t, 0⟩
theorem longTo_zero (d : Desk) (t : Nat) : longTo d t 0 = ⟨0, t, 0⟩ := rfl
theorem longTo_succ (d : Desk) (t i : Nat) : longTo d t (i + 1) = longStep d t (longTo d t i) i := by
  unfold longTo
  rw [List.range_succ, List.foldl_append]
  rfl
theorem longTo_all (d : Desk) (t : Nat) : longTo d t d.old.length = longest d t := rfl
theorem longTo_ok (d : Desk) (t : Nat) : ∀ i, (longTo d t i).t = t ∧ ((longTo d t i).n = 0 ∧ (longTo d t i).f = 0 ∨ ((longTo d t i).f + (longTo d t i).n ≤ d.old.length ∧ t + (longTo d t i).n ≤ d.new.length))
  | 0 => ⟨rfl, .inl ⟨rfl, rfl⟩⟩
  | i + 1 => by
    rw [longTo_succ]
    unfold longStep
    split
    · rename_i h
      refine ⟨rfl, .inr ?_⟩
      rcases alike_le d CELLS i t with e | e
      · omega
      · exact e
    · exact longTo_ok d t i
theorem longest_t (d : Desk) (t : Nat) : (longest d t).t = t := (longTo_ok d t d.old.length).1
theorem longest_ok {d : Desk} {t : Nat} (h : 1 ≤ (longest d t).n) : (longest d t).f + (longest d t).n ≤ d.old.length ∧ t + (longest d t).n ≤ d.new.length := by
  have q := (longTo_ok d t d.old.length).2
  rw [longTo_all] at q
  rcases q with ⟨e, _⟩ | e
  · omega
  · exact e
/-! ### found -/
theorem foundUp_end {d : Desk} {k t : Nat} (h : d.new.length ≤ t) : foundUp d k t = [] := by
  cases k with
  | zero => rfl
  | succ k => exact if_pos h
theorem foundUp_two {d : Desk} {k t : Nat} (h : t < d.new.length) (h2 : 2 ≤ (longest d t).n) : foundUp d (k + 1) t = longest d t :: foundUp d k (t + (longest d t).n) := by
  show (if d.new.length ≤ t then [] else if 2 ≤ (longest d t).n then longest d t :: foundUp d k (t + (longest d t).n) else foundUp d k (t + 1)) = _
  rw [if_neg (by omega), if_pos h2]
theorem foundUp_one {d : Desk} {k t : Nat} (h : t < d.new.length) (h2 : ¬ 2 ≤ (longest d t).n) : foundUp d (k + 1) t = foundUp d k (t + 1) := by
  show (if d.new.length ≤ t then [] else if 2 ≤ (longest d t).n then longest d t :: foundUp d k (t + (longest d t).n) else foundUp d k (t + 1)) = _
  rw [if_neg (by omega), if_neg h2]
/-- between two turns of found_copies: these so far, on from t -/
structure FndInv (d : Desk) (cs : List Copy) (t : Nat) : Prop where
  eq : ∃ k, d.new.length ≤ t + k ∧ found d = (cs ++ foundUp d k t).take 7
  le : cs.length ≤ 7
theorem fndInv_start {d : Desk} (W : WF d) : FndInv d [] 0 := ⟨⟨16, by have := W.nl.2; omega, rfl⟩, by simp⟩
theorem FndInv.two {d : Desk} {cs : List Copy} {t : Nat} (I : FndInv d cs t) (h : t < d.new.length) (h7 : cs.length < 7) (h2 : 2 ≤ (longest d t).n) : FndInv d (cs ++ [longest d t]) (t + (longest d t).n) := by
  obtain ⟨⟨k, hk, e⟩, _⟩ := I
  obtain ⟨k', rfl⟩ : ∃ k', k = k' + 1 := ⟨k - 1, by omega⟩
  refine ⟨⟨k', by omega, ?_⟩, by simp; omega⟩
  rw [e, foundUp_two h h2]
  simp
theorem FndInv.one {d : Desk} {cs : List Copy} {t : Nat} (I : FndInv d cs t) (h : t < d.new.length) (h2 : ¬ 2 ≤ (longest d t).n) : FndInv d cs (t + 1) := by
  obtain ⟨⟨k, hk, e⟩, h7⟩ := I
  obtain ⟨k', rfl⟩ : ∃ k', k = k' + 1 := ⟨k - 1, by omega⟩
  exact ⟨⟨k', by omega, by rw [e, foundUp_one h h2]⟩, h7⟩
theorem FndInv.done {d : Desk} {cs : List Copy} {t : Nat} (I : FndInv d cs t) (h : d.new.length ≤ t ∨ cs.length = 7) : found d = cs := by
  obtain ⟨⟨k, hk, e⟩, h7⟩ := I
  rw [e]
  rcases h with h | h
  · rw [foundUp_end h, List.append_nil, List.take_of_length_le h7]
  · rw [← h, List.take_left]
theorem foundUp_ok (d : Desk) : ∀ k t, (∀ c ∈ foundUp d k t, t ≤ c.t ∧ 1 ≤ c.n ∧ c.f + c.n ≤ d.old.length ∧ c.t + c.n ≤ d.new.length) ∧ (foundUp d k t).Pairwise (fun a b => a.t + a.n ≤ b.t ∨ b.t + b.n ≤ a.t)
  | 0, _ => ⟨fun c h => (by cases h), List.Pairwise.nil⟩
  | k + 1, t => by
    by_cases h : t < d.new.length
    · by_cases h2 : 2 ≤ (longest d t).n
      · rw [foundUp_two h h2]
        obtain ⟨a, b⟩ := foundUp_ok d k (t + (longest d t).n)
        have q := longest_ok (d := d) (t := t) (by omega)
        have qt := longest_t d t
        refine ⟨fun c hc => ?_, List.pairwise_cons.mpr ⟨fun c hc => ?_, b⟩⟩
        · rcases List.mem_cons.mp hc with rfl | hc
          · omega
          · have := a c hc; omega
        · have := a c hc
          left
          omega
      · rw [foundUp_one h h2]
        obtain ⟨a, b⟩ := foundUp_ok d k (t + 1)
        exact ⟨fun c hc => by have := a c hc; omega, b⟩
    · rw [foundUp_end (by omega)]
      exact ⟨fun c h => (by cases h), List.Pairwise.nil⟩
/-! ### every call keeps the desk in order -/
theorem writes_any {c : Copy} (cs : List Copy) (hc : c.t + c.n ≤ 16) (h1 : 1 ≤ c.n) (h2 : ∀ e ∈ cs, 1 ≤ e.n ∧ e.t + e.n ≤ 16) : ((List.range CELLS).any fun x => writes c x && cs.any fun e => writes e x) = cs.any fun e => ov c.t c.n e.t e.n := by
  rw [Bool.eq_iff_iff, List.any_eq_true, List.any_eq_true]
  constructor
  · rintro ⟨x, hx, h⟩
    rw [Bool.and_eq_true, List.any_eq_true] at h
    obtain ⟨h, e, he, hw⟩ := h
    refine ⟨e, he, ?_⟩
    unfold writes at h hw
    unfold ov
    simp only [Bool.and_eq_true, decide_eq_true_eq] at h hw ⊢
    omega
  · rintro ⟨e, he, h⟩
    have q := h2 e he
    rw [← ov_any (p := writes c) (q := writes e) (fun _ => rfl) (fun _ => rfl) h1 q.1 hc q.2, List.any_eq_true] at h
    obtain ⟨x, hx, h⟩ := h
    rw [Bool.and_eq_true] at h
    refine ⟨x, hx, ?_⟩
    rw [Bool.and_eq_true, List.any_eq_true]
    exact ⟨h.1, e, he, h.2⟩
def WFS : State → Prop
  | none => True
  | some d => WF d
theorem wf_found {d : Desk} (W : WF d) : WF { d with copies := found d } := by
  obtain ⟨a, b⟩ := foundUp_ok d CELLS 0
  refine ⟨W.ol, W.nl, W.sp, ?_, ?_, ?_⟩
  · show ((foundUp d CELLS 0).take COPIES).length ≤ 7
    rw [List.length_take]
    exact Nat.min_le_left _ _
  · intro c hc
    have := a c (List.mem_of_mem_take hc)
    exact ⟨this.2.1, this.2.2.1, this.2.2.2⟩
  · exact b.sublist (List.take_sublist _ _)
theorem wf_drop {d : Desk} (W : WF d) (i : Nat) : WF { d with copies := d.copies.take i ++ d.copies.drop (i + 1) } := by
  have sl : List.Sublist (d.copies.take i ++ d.copies.drop (i + 1)) d.copies := by
    rw [← List.eraseIdx_eq_take_drop_succ]
    exact List.eraseIdx_sublist _ _
  exact ⟨W.ol, W.nl, W.sp, Nat.le_trans sl.length_le W.cl, fun c hc => W.ok c (sl.subset hc), W.dj.sublist sl⟩
theorem wf_spare {d : Desk} (W : WF d) {s : Nat} (h : s ≤ 16) : WF { d with spare := s } := ⟨W.ol, W.nl, h, W.cl, W.ok, W.dj⟩
theorem wf_old {d : Desk} (W : WF d) (i v : Nat) : WF { d with old := d.old.set i v } := by
  refine ⟨?_, W.nl, W.sp, W.cl, ?_, W.dj⟩
  · show 1 ≤ (d.old.set i v).length ∧ (d.old.set i v).length ≤ 16
    rw [List.length_set]; exact W.ol
  · intro c hc
    show _ ∧ _ ≤ (d.old.set i v).length ∧ _
    rw [List.length_set]; exact W.ok c hc
theorem wf_new {d : Desk} (W : WF d) (i v : Nat) : WF { d with new := d.new.set i v } := by
  refine ⟨W.ol, ?_, W.sp, W.cl, ?_, W.dj⟩
  · show 1 ≤ (d.new.set i v).length ∧ (d.new.set i v).length ≤ 16
    rw [List.length_set]; exact W.nl
  · intro c hc
    show _ ∧ _ ∧ _ ≤ (d.new.set i v).length
    rw [List.length_set]; exact W.ok c hc
theorem wf_begin {n m s : Nat} (h : ¬ (n = 0 ∨ CELLS < n ∨ m = 0 ∨ CELLS < m ∨ CELLS < s)) : WF ⟨List.replicate n 0, List.replicate m 0, s, []⟩ := by
  have e : CELLS = 16 := rfl
  rw [e] at h
  refine ⟨?_, ?_, ?_, Nat.zero_le _, fun c hc => (by cases hc), List.Pairwise.nil⟩
  · show 1 ≤ (List.replicate n 0).length ∧ (List.replicate n 0).length ≤ 16
    rw [List.length_replicate]; omega
  · show 1 ≤ (List.replicate m 0).length ∧ (List.replicate m 0).length ≤ 16
    rw [List.length_replicate]; omega
  · show s ≤ 16
    omega
theorem wf_copy {d : Desk} (W : WF d) {f t n : Nat} (h1 : ¬ (n = 0 ∨ d.old.length < f + n ∨ d.new.length < t + n)) (h2 : ¬ (((List.range CELLS).any fun x => writes ⟨f, t, n⟩ x && d.copies.any fun c => writes c x) = true)) (h3 : ¬ COPIES ≤ d.copies.length) : WF { d with copies := d.copies ++ [⟨f, t, n⟩] } := by
  have nl := W.nl
  rw [writes_any (c := ⟨f, t, n⟩) d.copies (show t + n ≤ 16 by omega) (show 1 ≤ n by omega) (fun e he => by have := W.ok e he; omega), List.any_eq_true] at h2
  have e7 : COPIES = 7 := rfl
  refine ⟨W.ol, W.nl, W.sp, ?_, ?_, ?_⟩
  · show (d.copies ++ [(⟨f, t, n⟩ : Copy)]).length ≤ 7
    rw [List.length_append]
    simp
    omega
  · intro c hc
    rcases List.mem_append.mp hc with hc | hc
    · exact W.ok c hc
    · rw [List.mem_singleton.mp hc]
      show 1 ≤ n ∧ f + n ≤ d.old.length ∧ t + n ≤ d.new.length
      omega
  · refine List.pairwise_append.mpr ⟨W.dj, List.pairwise_singleton _ _, fun a ha b hb => ?_⟩
    rw [List.mem_singleton.mp hb]
    show a.t + a.n ≤ t ∨ t + n ≤ a.t
    have q : ¬ ov t n a.t a.n = true := fun z => h2 ⟨a, ha, z⟩
    unfold ov at q
    simp only [Bool.and_eq_true, decide_eq_true_eq] at q
    omega
theorem wf_step {st : State} (W : WFS st) (c : Call) : WFS (step st c).1 := by
  cases c with
  | begin_ n m s =>
    show WFS (if n = 0 ∨ CELLS < n ∨ m = 0 ∨ CELLS < m ∨ CELLS < s then (st, say (-22)) else (some ⟨List.replicate n 0, List.replicate m 0, s, []⟩, say 0)).1
    split
    · exact W
    · rename_i h
      exact wf_begin h
  | _ =>
    cases st with
    | none => exact trivial
    | some d =>
      have W' : WF d := W
      simp only [step]
      repeat' split
      all_goals first | exact W | exact wf_old W' _ _ | exact wf_new W' _ _ | exact wf_drop W' _ | exact wf_found W' | exact wf_spare W' (by rename_i h; have e : CELLS = 16 := rfl; rw [e] at h; omega) | exact wf_copy W' ‹_› ‹_› ‹_›
end M
namespace M
open Km513
/-! ### the calls, as they are read -/
def ar (k : Nat) : Nat := [3, 2, 2, 3, 1, 0, 0, 1, 1, 0, 0, 0, 0, 0, 0, 0, 1, 0, 1, 1, 1, 1, 0].getD k 0
def mkK (k : Nat) (l : List Nat) : Call := match k with
  | 0 => .begin_ (l.getD 0 0) (l.getD 1 0) (l.getD 2 0)
  | 1 => .old (l.getD 0 0) (l.getD 1 0)
  | 2 => .want (l.getD 0 0) (l.getD 1 0)
  | 3 => .copy (l.getD 0 0) (l.getD 1 0) (l.getD 2 0)
  | 4 => .drop (l.getD 0 0)
  | 5 => .found
  | 6 => .take
  | 7 => .fits (l.getD 0 0)
  | 8 => .ahead (l.getD 0 0)
  | 9 => .ring
  | 10 => .best
  | 11 => .choice
  | 12 => .order
  | 13 => .sent
  | 14 => .done
  | 15 => .careless
  | 16 => .ifSpare (l.getD 0 0)
  | 17 => .leastSpare
  | 18 => .without (l.getD 0 0)
  | 19 => .spare (l.getD 0 0)
  | 20 => .longest (l.getD 0 0)
  | 21 => .told (l.getD 0 0)
  | _ => .rows
theorem k_cases {k : Nat} (h : k < 23) : k = 0 ∨ k = 1 ∨ k = 2 ∨ k = 3 ∨ k = 4 ∨ k = 5 ∨ k = 6 ∨ k = 7 ∨ k = 8 ∨ k = 9 ∨ k = 10 ∨ k = 11 ∨ k = 12 ∨ k = 13 ∨ k = 14 ∨ k = 15 ∨ k = 16 ∨ k = 17 ∨ k = 18 ∨ k = 19 ∨ k = 20 ∨ k = 21 ∨ k = 22 := by omega
abbrev CallN := Nat × List Nat
def zs (l : List Nat) : List Int := l.map fun (n : Nat) => (n : Int)
def raw1 (c : CallN) : List (List Int) := [((c.1 : Nat) : Int) :: zs c.2]
def flat1 (c : CallN) : List Nat := c.1 :: c.2
def Good (c : CallN) : Prop := c.1 < 23 ∧ c.2.length = ar c.1
theorem shape_at {p : Int} {n m : Nat} (h : PyKm513.shape p = some (n, m)) : ∃ k : Nat, k < 23 ∧ p = (k : Int) ∧ n = ar k ∧ m = 0 := by
  have hp : 0 ≤ p ∧ p < 23 := by
    apply Decidable.byContradiction
    intro z
    have e : PyKm513.shape p = none := by
      unfold PyKm513.shape
      repeat rw [if_neg (by omega)]
    rw [e] at h
    cases h
  obtain ⟨k, rfl⟩ : ∃ k : Nat, p = (k : Int) := ⟨p.toNat, by omega⟩
  have hk : k < 23 := by omega
  refine ⟨k, hk, rfl, ?_⟩
  rcases k_cases hk with rfl | rfl | rfl | rfl | rfl | rfl | rfl | rfl | rfl | rfl | rfl | rfl | rfl | rfl | rfl | rfl | rfl | rfl | rfl | rfl | rfl | rfl | rfl <;>
    (obtain ⟨e1, e2⟩ := Prod.mk.inj (Option.some.inj h); exact ⟨e1.symm, e2.symm⟩)
theorem nats : ∀ l : List Int, (∀ x ∈ l, 0 ≤ x) → ∃ ns : List Nat, l = zs ns
  | [], _ => ⟨[], rfl⟩
  | x :: l, h => by
    obtain ⟨ns, rfl⟩ := nats l fun y hy => h y (List.mem_cons_of_mem _ hy)
    have := h x (List.mem_cons_self ..)
    exact ⟨x.toNat :: ns, by show x :: zs ns = ((x.toNat : Nat) : Int) :: zs ns; rw [show ((x.toNat : Nat) : Int) = x by omega]⟩
theorem zs_len (l : List Nat) : (zs l).length = l.length := List.length_map ..
theorem zs_app (a b : List Nat) : zs (a ++ b) = zs a ++ zs b := List.map_append ..
theorem parse_raw : ∀ (raw : List (List (List Int))), (∀ c ∈ raw, PyFlat.okCall PyKm513.shape c) → (∀ x ∈ PyFlat.put raw, 0 ≤ x) → ∃ cs : List CallN, raw = cs.map raw1 ∧ PyFlat.put raw = zs (cs.flatMap flat1) ∧ ∀ c ∈ cs, Good c
  | [], _, _ => ⟨[], rfl, rfl, fun c hc => by cases hc⟩
  | c :: raw, h, hx => by
    obtain ⟨p, a, xs, rfl, hs⟩ := h c (List.mem_cons_self ..)
    obtain ⟨k, hk, rfl, e1, e2⟩ := shape_at hs
    have : xs = [] := List.length_eq_zero_iff.mp e2
    subst this
    have e3 : PyFlat.put ([(k : Int) :: a] :: raw) = (k : Int) :: (a ++ PyFlat.put raw) := by
      show ((k : Int) :: a ++ []) ++ PyFlat.put raw = _
      rw [List.append_nil]
      rfl
    rw [e3] at hx
    obtain ⟨ns, rfl⟩ := nats a fun y hy => hx y (List.mem_cons_of_mem _ (List.mem_append_left _ hy))
    obtain ⟨cs, rfl, e4, hg⟩ := parse_raw raw (fun d hd => h d (List.mem_cons_of_mem _ hd)) fun y hy => hx y (List.mem_cons_of_mem _ (List.mem_append_right _ hy))
    refine ⟨(k, ns) :: cs, rfl, ?_, fun d hd => ?_⟩
    · rw [e3, e4, List.flatMap_cons, zs_app]
      rfl
    · rcases List.mem_cons.mp hd with rfl | hd
      · exact ⟨hk, by rw [zs_len] at e1; exact e1⟩
      · exact hg d hd
theorem parse {l : List Int} {raw : List (List (List Int))} (h : PyFlat.calls PyKm513.shape l.length l = some raw) (hl : ∀ x ∈ l, 0 ≤ x) : ∃ cs : List CallN, raw = cs.map raw1 ∧ l = zs (cs.flatMap flat1) ∧ ∀ c ∈ cs, Good c := by
  obtain ⟨e, ho⟩ := PyFlat.put_calls _ _ _ h
  rw [e] at hl
  obtain ⟨cs, a, b, c⟩ := parse_raw raw ho hl
  exact ⟨cs, a, e.trans b, c⟩
theorem whole_id (c : List (List Int)) : PyKm513.whole c = c := by
  unfold PyKm513.whole
  split <;> rfl
theorem l3 {l : List Nat} (h : l.length = 3) : ∃ a b c, l = [a, b, c] := by
  match l, h with
  | [a, b, c], _ => exact ⟨a, b, c, rfl⟩
theorem l2 {l : List Nat} (h : l.length = 2) : ∃ a b, l = [a, b] := by
  match l, h with
  | [a, b], _ => exact ⟨a, b, rfl⟩
theorem l1 {l : List Nat} (h : l.length = 1) : ∃ a, l = [a] := by
  match l, h with
  | [a], _ => exact ⟨a, rfl⟩
theorem l0 {l : List Nat} (h : l.length = 0) : l = [] := List.length_eq_zero_iff.mp h
theorem callOf_raw {c : CallN} (h : Good c) : Km513Neutral.callOf (raw1 c) = some (mkK c.1 c.2) := by
  obtain ⟨k, l⟩ := c
  obtain ⟨hk, hl⟩ := h
  dsimp only at hk hl
  rcases k_cases hk with rfl | rfl | rfl | rfl | rfl | rfl | rfl | rfl | rfl | rfl | rfl | rfl | rfl | rfl | rfl | rfl | rfl | rfl | rfl | rfl | rfl | rfl | rfl
  case inr.inl => obtain ⟨a, b, rfl⟩ := l2 hl; rfl
  all_goals first
    | (obtain rfl := l0 hl; rfl)
    | (obtain ⟨a, rfl⟩ := l1 hl; rfl)
    | (obtain ⟨a, b, rfl⟩ := l2 hl; rfl)
    | (obtain ⟨a, b, c, rfl⟩ := l3 hl; rfl)
/-! ### what is answered -/
def ans1 (y : State × Ans) : List Int := (((y.2.num :: y.2.nums).length : Nat) : Int) :: y.2.num :: y.2.nums
def stp (st : State) (c : CallN) : State × Ans := step st (mkK c.1 c.2)
def outs : State → List CallN → List Int
  | _, [] => []
  | st, c :: cs => ans1 (stp st c) ++ outs (stp st c).1 cs
def runS : State → List CallN → State
  | st, [] => st
  | st, c :: cs => runS (stp st c).1 cs
theorem outs_snoc : ∀ (cs : List CallN) (st : State) (c : CallN), outs st (cs ++ [c]) = outs st cs ++ ans1 (stp (runS st cs) c)
  | [], st, c => by
    show ans1 (stp st c) ++ [] = [] ++ ans1 (stp st c)
    rw [List.append_nil, List.nil_append]
  | d :: cs, st, c => by
    show ans1 (stp st d) ++ outs (stp st d).1 (cs ++ [c]) = (ans1 (stp st d) ++ outs (stp st d).1 cs) ++ _
    rw [outs_snoc cs, List.append_assoc]
    rfl
theorem runS_snoc : ∀ (cs : List CallN) (st : State) (c : CallN), runS st (cs ++ [c]) = (stp (runS st cs) c).1
  | [], _, _ => rfl
  | d :: cs, st, c => runS_snoc cs (stp st d).1 c
theorem outs_pre (cs ds : List CallN) (st : State) : (outs st cs).length ≤ (outs st (cs ++ ds)).length := by
  induction cs generalizing st with
  | nil => exact Nat.zero_le _
  | cons c cs ih =>
    show (ans1 (stp st c) ++ outs (stp st c).1 cs).length ≤ (ans1 (stp st c) ++ outs (stp st c).1 (cs ++ ds)).length
    rw [List.length_append, List.length_append]
    exact Nat.add_le_add_left (ih _) _
theorem told_outs : ∀ (cs : List CallN) (st : State), (∀ c ∈ cs, Good c) → PyFlat.told (PyFlat.played Km513Neutral.step st (cs.map raw1)) = outs st cs
  | [], _, _ => rfl
  | c :: cs, st, h => by
    have e : Km513Neutral.step st (raw1 c) = ((stp st c).1, (stp st c).2.num :: (stp st c).2.nums) := by
      unfold Km513Neutral.step
      rw [callOf_raw (h c (List.mem_cons_self ..))]
      rfl
    show PyFlat.told ((Km513Neutral.step st (raw1 c)).2 :: PyFlat.played Km513Neutral.step (Km513Neutral.step st (raw1 c)).1 (cs.map raw1)) = _
    rw [e]
    show ((((stp st c).2.num :: (stp st c).2.nums).length : Nat) : Int) :: ((stp st c).2.num :: (stp st c).2.nums) ++ PyFlat.told (PyFlat.played Km513Neutral.step (stp st c).1 (cs.map raw1)) = _
    rw [told_outs cs _ fun d hd => h d (List.mem_cons_of_mem _ hd)]
    rfl
/-- what is asked of the list, and what is due -/
theorem asked_parse {l : List Int} (h : PyKm513.answers_asked l = true) (hl : ∀ x ∈ l, 0 ≤ x) : ∃ cs : List CallN, l = zs (cs.flatMap flat1) ∧ (∀ c ∈ cs, Good c) ∧ PyKm513.answers l = outs none cs ∧ (outs none cs).length ≤ 10000000 := by
  unfold PyKm513.answers_asked at h
  cases e : PyFlat.calls PyKm513.shape l.length l with
  | none => rw [e] at h; cases h
  | some raw =>
    rw [e] at h
    obtain ⟨cs, rfl, el, hg⟩ := parse e hl
    have ea : PyKm513.answers l = outs none cs := by
      unfold PyKm513.answers PyKm513.calls
      rw [e]
      show PyFlat.told (PyFlat.played Km513Neutral.step Km513Neutral.start ((cs.map raw1).map PyKm513.whole)) = _
      rw [show PyKm513.whole = id from funext whole_id, List.map_id]
      exact told_outs cs none hg
    refine ⟨cs, el, hg, ea, ?_⟩
    dsimp only at h
    rw [Bool.and_eq_true] at h
    have h2 := of_decide_eq_true h.2
    rw [ea] at h2
    exact h2
end M
namespace M
open Km513
/-! ### no choice that may be made sends less than the best one -/
theorem step_le (d : Desk) (m c : Choice) : lo d (bestStep d m c) 2 ≤ lo d m 2 ∧ (mayP d c = true → lo d (bestStep d m c) 2 ≤ lo d c 2) := by
  unfold bestStep
  by_cases h : (rankLt d c m && mayP d c) = true
  · rw [if_pos h]
    rw [Bool.and_eq_true] at h
    refine ⟨?_, fun _ => Nat.le_refl _⟩
    have r := h.1
    unfold rankLt at r
    simp only [Bool.or_eq_true, Bool.and_eq_true, decide_eq_true_eq, beq_iff_eq] at r
    omega
  · rw [if_neg h]
    refine ⟨Nat.le_refl _, fun hm => ?_⟩
    rw [hm, Bool.and_true] at h
    unfold rankLt at h
    simp only [Bool.or_eq_true, Bool.and_eq_true, decide_eq_true_eq, beq_iff_eq] at h
    omega
theorem fold_le (d : Desk) : ∀ (l : List Choice) (m : Choice), lo d (l.foldl (bestStep d) m) 2 ≤ lo d m 2 ∧ ∀ c ∈ l, mayP d c = true → lo d (l.foldl (bestStep d) m) 2 ≤ lo d c 2
  | [], m => ⟨Nat.le_refl _, fun c hc => by cases hc⟩
  | c :: l, m => by
    obtain ⟨a, b⟩ := fold_le d l (bestStep d m c)
    obtain ⟨e, f⟩ := step_le d m c
    rw [List.foldl_cons]
    refine ⟨Nat.le_trans a e, fun x hx hm => ?_⟩
    rcases List.mem_cons.mp hx with rfl | hx
    · exact Nat.le_trans a (f hm)
    · exact b x hx hm
theorem best_least {d : Desk} (W : WF d) {c : Choice} (hc : c ∈ cf (fitsL d)) (hm : mayP d c = true) : (sent d (best d)).length ≤ (sent d c).length := by
  rw [best_eq W]
  have a := (fold_le d (cf (fitsL d)) (all2 d)).2 c hc hm
  have b := sent_lo W (bestP_ok d).2
  have e := sent_lo W (cf_le _ c hc)
  have b' : (sent d (bestP d)).length + lengths d (numbers d) = d.new.length + lo d (bestP d) 2 := b
  have e' : (sent d c).length + lengths d (numbers d) = d.new.length + lo d c 2 := e
  have a' : lo d (bestP d) 2 ≤ lo d c 2 := a
  omega
/-- the best choice leaves out what doesn't fit -/
theorem fold_mem (d : Desk) : ∀ (l : List Choice) (m : Choice), l.foldl (bestStep d) m = m ∨ l.foldl (bestStep d) m ∈ l
  | [], _ => .inl rfl
  | c :: l, m => by
    rw [List.foldl_cons]
    rcases fold_mem d l (bestStep d m c) with h | h
    · rw [h]
      unfold bestStep
      split
      · exact .inr (List.mem_cons_self ..)
      · exact .inl rfl
    · exact .inr (List.mem_cons_of_mem _ h)
theorem mem_cf {fs : List Bool} {c : Choice} (h : c ∈ cf fs) : okC fs c = true := by
  rw [← choices_filter] at h
  exact (List.mem_filter.mp h).2
theorem best_fits {d : Desk} (W : WF d) : ∀ i, i < d.copies.length → (best d).getD i 2 ≠ 2 → fits d (copy d i) = true := by
  intro i hi hn
  rw [best_eq W] at hn
  rcases fold_mem d (cf (fitsL d)) (all2 d) with h | h
  · unfold bestP at hn
    rw [h, all2_at] at hn
    exact absurd rfl hn
  · have q := mem_cf h
    unfold okC at q
    rw [List.all_eq_true] at q
    have z := q i (List.mem_range.mpr (by rw [show (fitsL d).length = d.copies.length from List.length_map ..]; exact hi))
    rw [fitsL_at hi, Bool.or_eq_true] at z
    rcases z with z | z
    · exact z
    · exact absurd (eq_of_beq z) hn
/-! ### the least room -/
/-- all that fit, done where they lie: what is sent then is what no copy has that fits -/
def fit0 (d : Desk) : Choice := (numbers d).map fun i => if fits d (copy d i) = true then 0 else 2
def fit1 (d : Desk) : Choice := (numbers d).map fun i => if fits d (copy d i) = true then 1 else 2
theorem mapN_at {d : Desk} (g : Nat → Nat) {i : Nat} (h : i < d.copies.length) : ((numbers d).map g).getD i 2 = g i := by
  unfold numbers
  rw [List.getD_eq_getElem?_getD, List.getElem?_map, List.getElem?_range h]
  rfl
theorem sent_congr (d : Desk) (a b : Choice) (h : ∀ i, i < d.copies.length → ((a.getD i 2 != 2) = (b.getD i 2 != 2))) : sent d a = sent d b := by
  unfold sent
  apply List.filter_congr
  intro x _
  congr 1
  rw [Bool.eq_iff_iff, List.any_eq_true, List.any_eq_true]
  constructor
  · rintro ⟨i, hi, z⟩
    exact ⟨i, hi, by rw [← h i (List.mem_range.mp hi)]; exact z⟩
  · rintro ⟨i, hi, z⟩
    exact ⟨i, hi, by rw [h i (List.mem_range.mp hi)]; exact z⟩
theorem fit01 (d : Desk) : sent d (fit0 d) = sent d (fit1 d) := by
  apply sent_congr
  intro i hi
  unfold fit0 fit1
  rw [mapN_at _ hi, mapN_at _ hi]
  cases fits d (copy d i) <;> rfl
theorem mem_choices : ∀ (n : Nat) (c : Choice), c.length = n → (∀ k ∈ c, k ≤ 2) → c ∈ choices n
  | 0, c, h, _ => by rw [List.length_eq_zero_iff.mp h]; exact List.mem_singleton.mpr rfl
  | n + 1, c, h, h2 => by
    cases c with
    | nil => cases h
    | cons k c =>
      show k :: c ∈ [0, 1, 2].flatMap fun k => (choices n).map fun l => k :: l
      rw [List.mem_flatMap]
      refine ⟨k, ?_, List.mem_map.mpr ⟨c, mem_choices n c (Nat.succ.inj h) fun j hj => h2 j (List.mem_cons_of_mem _ hj), rfl⟩⟩
      have := h2 k (List.mem_cons_self ..)
      have q : k = 0 ∨ k = 1 ∨ k = 2 := by omega
      rcases q with rfl | rfl | rfl <;> simp
theorem fit1_mem (d : Desk) : fit1 d ∈ cf (fitsL d) := by
  have eL : (fitsL d).length = d.copies.length := List.length_map ..
  rw [← choices_filter, List.mem_filter]
  refine ⟨mem_choices _ _ ?_ ?_, ?_⟩
  · unfold fit1 numbers
    rw [List.length_map, List.length_range, eL]
  · intro k hk
    obtain ⟨i, _, rfl⟩ := List.mem_map.mp hk
    split <;> omega
  · unfold okC
    rw [List.all_eq_true]
    intro i hi
    have hi' : i < d.copies.length := by rw [← eL]; exact List.mem_range.mp hi
    rw [fitsL_at hi']
    unfold fit1
    rw [mapN_at _ hi']
    cases fits d (copy d i) <;> rfl
theorem noRing_nil (d : Desk) : noRing d [] = true := rfl
theorem fit1_may {d : Desk} (W : WF d) (h : d.spare = 16) : mayP d (fit1 d) = true := by
  have e0 : of_ d (fit1 d) 0 = [] := by
    unfold of_
    rw [List.filter_eq_nil_iff]
    intro i hi z
    unfold fit1 at z
    rw [mapN_at _ (List.mem_range.mp hi)] at z
    have := eq_of_beq z
    split at this <;> omega
  have hle : ∀ k ∈ fit1 d, k ≤ 2 := by
    intro k hk
    obtain ⟨i, _, rfl⟩ := List.mem_map.mp hk
    split <;> omega
  have s := sent_len2 W hle
  have n := W.nl.2
  have s' : (sent d (fit1 d)).length + lo d (fit1 d) 0 + lo d (fit1 d) 1 = d.new.length := s
  unfold mayP
  rw [e0, noRing_nil, Bool.and_true]
  exact decide_eq_true (by omega)
/-- whatever the room, no less is sent than what no copy has that fits -/
theorem need_le {d : Desk} (W : WF d) : (sent d (fit0 d)).length ≤ (sent d (best d)).length := by
  apply List.Sublist.length_le
  unfold sent
  have e : ∀ x, (!((numbers d).any fun i => (fit0 d).getD i 2 != 2 && writes (copy d i) x)) = true → (!((numbers d).any fun i => (best d).getD i 2 != 2 && writes (copy d i) x)) = true := by
    intro x h
    rw [Bool.not_eq_true', List.any_eq_false] at h ⊢
    intro i hi z
    rw [Bool.and_eq_true] at z
    have hi' := List.mem_range.mp hi
    have f := best_fits W i hi' (bne_iff_ne.mp z.1)
    apply h i hi
    rw [Bool.and_eq_true]
    refine ⟨?_, z.2⟩
    unfold fit0
    rw [mapN_at _ hi', if_pos f]
    rfl
  generalize List.range d.new.length = l
  induction l with
  | nil => exact List.Sublist.slnil
  | cons x l ih =>
    rw [List.filter_cons, List.filter_cons]
    by_cases h : (!((numbers d).any fun i => (fit0 d).getD i 2 != 2 && writes (copy d i) x)) = true
    · rw [if_pos h, if_pos (e x h)]
      exact ih.cons_cons x
    · rw [if_neg h]
      split
      · exact ih.cons x
      · exact ih
/-- with room for 16 no more -/
theorem need_16 {d : Desk} (W : WF d) (h : d.spare = 16) : (sent d (best d)).length = (sent d (fit0 d)).length := by
  have a := need_le W
  have b := best_least W (fit1_mem d) (fit1_may W h)
  rw [← fit01] at b
  omega
end M
namespace M
open Km513
/-! ### which new cells some copies have -/
theorem ov_one (c : Copy) (x : Nat) : ov c.t c.n x 1 = writes c x := by
  unfold ov writes
  congr 1
  rw [decide_eq_decide]
  omega
def has (cs : List Copy) (x : Nat) : Bool := cs.any fun c => writes c x
theorem has_map (d : Desk) (l : List Nat) (x : Nat) : has (l.map (copy d)) x = l.any fun i => writes (copy d i) x := by
  unfold has
  rw [List.any_map]
  rfl
def madeN (c : Choice) (m : Nat) : List Nat := (List.range m).filter fun i => c.getD i 2 != 2
theorem sent_made (d : Desk) (c : Choice) : ((List.range d.new.length).filter fun x => !(has ((madeN c d.copies.length).map (copy d)) x)) = sent d c := by
  unfold sent
  apply List.filter_congr
  intro x _
  congr 1
  rw [has_map]
  unfold madeN numbers
  rw [List.any_filter]
/-! ### the best choice may be made, and no other one is better -/
def le2 (d : Desk) (a b : Choice) : Prop := lo d a 2 < lo d b 2 ∨ (lo d a 2 = lo d b 2 ∧ lo d a 1 ≤ lo d b 1)
theorem le2_refl (d : Desk) (a : Choice) : le2 d a a := .inr ⟨rfl, Nat.le_refl _⟩
theorem le2_trans {d : Desk} {a b c : Choice} (h : le2 d a b) (k : le2 d b c) : le2 d a c := by
  unfold le2 at *
  omega
theorem step_min (d : Desk) (m c : Choice) : le2 d (bestStep d m c) m ∧ (mayP d c = true → le2 d (bestStep d m c) c) := by
  unfold bestStep
  by_cases h : (rankLt d c m && mayP d c) = true
  · rw [if_pos h]
    rw [Bool.and_eq_true] at h
    refine ⟨?_, fun _ => le2_refl d c⟩
    have r := h.1
    unfold rankLt at r
    simp only [Bool.or_eq_true, Bool.and_eq_true, decide_eq_true_eq, beq_iff_eq] at r
    unfold le2
    omega
  · rw [if_neg h]
    refine ⟨le2_refl d m, fun hm => ?_⟩
    rw [hm, Bool.and_true] at h
    unfold rankLt at h
    simp only [Bool.or_eq_true, Bool.and_eq_true, decide_eq_true_eq, beq_iff_eq] at h
    unfold le2
    omega
theorem fold_min (d : Desk) : ∀ (l : List Choice) (m : Choice), le2 d (l.foldl (bestStep d) m) m ∧ ∀ c ∈ l, mayP d c = true → le2 d (l.foldl (bestStep d) m) c
  | [], m => ⟨le2_refl d m, fun c hc => by cases hc⟩
  | c :: l, m => by
    obtain ⟨a, b⟩ := fold_min d l (bestStep d m c)
    obtain ⟨e, f⟩ := step_min d m c
    rw [List.foldl_cons]
    refine ⟨le2_trans a e, fun x hx hm => ?_⟩
    rcases List.mem_cons.mp hx with rfl | hx
    · exact le2_trans a (f hm)
    · exact b x hx hm
theorem best_min {d : Desk} (W : WF d) {c : Choice} (hc : c ∈ cf (fitsL d)) (hm : mayP d c = true) : le2 d (best d) c := by
  rw [best_eq W]
  exact (fold_min d (cf (fitsL d)) (all2 d)).2 c hc hm
theorem fold_may (d : Desk) : ∀ (l : List Choice) (m : Choice), mayP d m = true → mayP d (l.foldl (bestStep d) m) = true
  | [], _, h => h
  | c :: l, m, h => by
    rw [List.foldl_cons]
    refine fold_may d l _ ?_
    unfold bestStep
    by_cases q : (rankLt d c m && mayP d c) = true
    · rw [if_pos q]
      rw [Bool.and_eq_true] at q
      exact q.2
    · rw [if_neg q]
      exact h
theorem all2_may (d : Desk) : mayP d (all2 d) = true := by
  unfold mayP lo
  rw [all2_of d (by decide : (1 : Nat) ≠ 2), all2_of d (by decide : (0 : Nat) ≠ 2), noRing_nil, Bool.and_true, lengths_nil]
  exact decide_eq_true (Nat.zero_le _)
theorem best_may {d : Desk} (W : WF d) : mayP d (best d) = true := by
  rw [best_eq W]
  exact fold_may d _ _ (all2_may d)
theorem best_noRing {d : Desk} (W : WF d) : noRing d (of_ d (best d) 0) = true := by
  have h := best_may W
  unfold mayP at h
  rw [Bool.and_eq_true] at h
  exact h.2
theorem best_order {d : Desk} (W : WF d) : orderOf d (of_ d (best d) 0) = some (order d (of_ d (best d) 0)) := by
  unfold orderOf
  rw [if_pos (best_noRing W)]
theorem all2_mem (d : Desk) : all2 d ∈ cf (fitsL d) := by
  have eL : (fitsL d).length = d.copies.length := List.length_map ..
  rw [← choices_filter, List.mem_filter]
  refine ⟨mem_choices _ _ ?_ (all2_le d), ?_⟩
  · rw [eL]
    exact List.length_map ..
  · unfold okC
    rw [List.all_eq_true]
    intro i _
    rw [all2_at]
    simp
theorem best_mem {d : Desk} (W : WF d) : best d ∈ cf (fitsL d) := by
  rw [best_eq W]
  rcases fold_mem d (cf (fitsL d)) (all2 d) with h | h
  · unfold bestP
    rw [h]
    exact all2_mem d
  · exact h
/-! ### the least room -/
theorem least_eq {d : Desk} (W : WF d) : leastSpare d = lo { d with spare := 16 } (best { d with spare := 16 }) 1 := by
  have We : ∀ s, s ≤ 16 → WF { d with spare := s } := fun s hs => wf_spare W hs
  have W16 := We 16 (Nat.le_refl _)
  have n16 : (sent { d with spare := 16 } (best { d with spare := 16 })).length = (sent d (fit0 d)).length := need_16 W16 rfl
  have m16 : best { d with spare := 16 } ∈ cf (fitsL d) := best_mem W16
  have y16 : mayP { d with spare := 16 } (best { d with spare := 16 }) = true := best_may W16
  have min16 : ∀ c, c ∈ cf (fitsL d) → mayP { d with spare := 16 } c = true → le2 d (best { d with spare := 16 }) c := fun c hc hm => best_min W16 hc hm
  have s16 := sent_lo W16 (cf_le _ _ m16)
  show _ = lo d (best { d with spare := 16 }) 1
  generalize best { d with spare := 16 } = b at *
  have y : (decide (lo d b 1 ≤ 16) && noRing d (of_ d b 0)) = true := y16
  rw [Bool.and_eq_true, decide_eq_true_eq] at y
  have s16' : (sent d b).length + lengths d (numbers d) = d.new.length + lo d b 2 := s16
  have n16' : (sent d b).length = (sent d (fit0 d)).length := n16
  have key : ((List.range (CELLS + 1)).find? fun s => (sent { d with spare := s } (best { d with spare := s })).length == (sent d (fit0 d)).length) = some (lo d b 1) := by
    rw [List.find?_range_eq_some]
    refine ⟨?_, List.mem_range.mpr (by show lo d b 1 < 17; omega), fun s hs => ?_⟩
    · have WL := We (lo d b 1) y.1
      have mL : mayP { d with spare := lo d b 1 } b = true := by
        show (decide (lo d b 1 ≤ lo d b 1) && noRing d (of_ d b 0)) = true
        rw [y.2, decide_eq_true (Nat.le_refl _)]
        rfl
      have h1 : (sent { d with spare := lo d b 1 } (best { d with spare := lo d b 1 })).length ≤ (sent d b).length := best_least WL (c := b) m16 mL
      have h2 : (sent d (fit0 d)).length ≤ (sent { d with spare := lo d b 1 } (best { d with spare := lo d b 1 })).length := need_le WL
      exact beq_iff_eq.mpr (by omega)
    · have Ws := We s (by omega)
      have ms : best { d with spare := s } ∈ cf (fitsL d) := best_mem Ws
      have ys : (decide (lo d (best { d with spare := s }) 1 ≤ s) && noRing d (of_ d (best { d with spare := s }) 0)) = true := best_may Ws
      have ss := sent_lo Ws (cf_le _ _ ms)
      have ss' : (sent d (best { d with spare := s })).length + lengths d (numbers d) = d.new.length + lo d (best { d with spare := s }) 2 := ss
      show (!((sent d (best { d with spare := s })).length == (sent d (fit0 d)).length)) = true
      generalize best { d with spare := s } = c at *
      rw [Bool.and_eq_true, decide_eq_true_eq] at ys
      have q := min16 c ms (by
        show (decide (lo d c 1 ≤ 16) && noRing d (of_ d c 0)) = true
        rw [ys.2, decide_eq_true (by omega)]
        rfl)
      unfold le2 at q
      rw [Bool.not_eq_true', beq_eq_false_iff_ne]
      omega
  unfold leastSpare
  show (((List.range (CELLS + 1)).find? fun s => (sent { d with spare := s } (best { d with spare := s })).length == (sent d (fit0 d)).length).getD CELLS) = _
  rw [key]
  rfl
/-! ### rows of cells -/
theorem at_lt {l : List Nat} {i : Nat} (h : i < l.length) : at_ l i = l[i] := by
  unfold at_
  rw [List.getD_eq_getElem?_getD, List.getElem?_eq_getElem h]
  rfl
theorem at_ge {l : List Nat} {i : Nat} (h : l.length ≤ i) : at_ l i = 0 := by
  unfold at_
  rw [List.getD_eq_getElem?_getD, List.getElem?_eq_none h]
  rfl
theorem row_ext {a b : List Nat} (hl : a.length = b.length) (h : ∀ x, x < a.length → at_ a x = at_ b x) : a = b := by
  apply List.ext_getElem hl
  intro i h1 h2
  rw [← at_lt h1, ← at_lt h2]
  exact h i h1
theorem at_map {g : Nat → Nat} {n x : Nat} (h : x < n) : at_ ((List.range n).map g) x = g x := by
  rw [at_lt (by simpa using h)]
  simp
theorem at_set {l : List Nat} {i v x : Nat} (h : x < l.length) : at_ (l.set i v) x = if i = x then v else at_ l x := by
  rw [at_lt (by simpa using h), List.getElem_set]
  split
  · rfl
  · rw [at_lt h]
theorem row_eq {d : Desk} (W : WF d) : row d = d.old ++ List.replicate (16 - d.old.length) 0 := by
  have := W.ol.2
  have e : (d.old ++ List.replicate (16 - d.old.length) 0).length = 16 := by
    rw [List.length_append, List.length_replicate]
    omega
  apply row_ext
  · rw [e]
    unfold row
    rw [List.length_map, List.length_range]
    rfl
  · intro x hx
    unfold row at hx
    rw [List.length_map, List.length_range] at hx
    unfold row
    rw [at_map hx]
    have hx' : x < 16 := hx
    by_cases h : x < d.old.length
    · rw [at_lt h, at_lt (by omega), List.getElem_append_left h]
    · rw [at_ge (by omega), at_lt (by omega), List.getElem_append_right (by omega), List.getElem_replicate]
theorem row_len (d : Desk) : (row d).length = 16 := by
  unfold row
  rw [List.length_map, List.length_range]
  rfl
theorem put_len (r : Row) (c : Copy) (vs : List Nat) : (put r c vs).length = r.length := by
  unfold put
  rw [List.length_map, List.length_range]
theorem take_len (r : Row) (c : Copy) : (take r c).length = c.n := by
  unfold take
  rw [List.length_map, List.length_range]
theorem take_eq {r : Row} {c : Copy} (h : c.f + c.n ≤ r.length) : take r c = (r.drop c.f).take c.n := by
  have e : ((r.drop c.f).take c.n).length = c.n := by
    rw [List.length_take, List.length_drop]
    omega
  apply row_ext
  · rw [e, take_len]
  · intro x hx
    rw [take_len] at hx
    unfold take
    rw [at_map hx, at_lt (by omega), at_lt (by omega)]
    simp
/-- a row behind k writes of a copy -/
def wTo (r : Row) (c : Copy) (vs : List Nat) : Nat → Row
  | 0 => r
  | k + 1 => (wTo r c vs k).set (c.t + k) (vs.getD k 0)
theorem wTo_len (r : Row) (c : Copy) (vs : List Nat) : ∀ k, (wTo r c vs k).length = r.length
  | 0 => rfl
  | k + 1 => by
    unfold wTo
    rw [List.length_set, wTo_len r c vs k]
theorem wTo_at (r : Row) (c : Copy) (vs : List Nat) {x : Nat} (hx : x < r.length) : ∀ k, at_ (wTo r c vs k) x = if c.t ≤ x ∧ x < c.t + k then vs.getD (x - c.t) 0 else at_ r x
  | 0 => by
    rw [if_neg (by omega)]
    rfl
  | k + 1 => by
    unfold wTo
    rw [at_set (by rw [wTo_len]; exact hx), wTo_at r c vs hx k]
    by_cases h : c.t + k = x
    · rw [if_pos h, if_pos (by omega), show x - c.t = k by omega]
    · rw [if_neg h]
      by_cases h2 : c.t ≤ x ∧ x < c.t + k
      · rw [if_pos h2, if_pos (by omega)]
      · rw [if_neg h2, if_neg (by omega)]
theorem wTo_put (r : Row) (c : Copy) (vs : List Nat) : wTo r c vs c.n = put r c vs := by
  apply row_ext
  · rw [wTo_len, put_len]
  · intro x hx
    rw [wTo_len] at hx
    rw [wTo_at r c vs hx]
    unfold put
    rw [at_map hx]
    unfold writes
    by_cases h : c.t ≤ x ∧ x < c.t + c.n
    · rw [if_pos h, if_pos (by rw [decide_eq_true h.1, decide_eq_true h.2]; rfl)]
    · rw [if_neg h, if_neg (by rw [Bool.and_eq_true, decide_eq_true_eq, decide_eq_true_eq]; exact h)]
/-- a copy done where it lies -/
def doIn (r : Row) (c : Copy) : Row := put r c (take r c)
theorem doIn_len (r : Row) (c : Copy) : (doIn r c).length = r.length := put_len ..
theorem foldIn_len : ∀ (cs : List Copy) (r : Row), (cs.foldl doIn r).length = r.length
  | [], _ => rfl
  | c :: cs, r => by rw [List.foldl_cons, foldIn_len cs, doIn_len]
def asideIn (r0 r : Row) (c : Copy) : Row := put r c (take r0 c)
theorem foldAs_len (r0 : Row) : ∀ (cs : List Copy) (r : Row), (cs.foldl (asideIn r0) r).length = r.length
  | [], _ => rfl
  | c :: cs, r => by rw [List.foldl_cons, foldAs_len r0 cs]; exact put_len ..
/-- what is sent, written -/
def sTo (new : List Nat) (r : Row) (l : List Nat) : Row := l.foldl (fun r t => r.set t (at_ new t)) r
theorem sTo_len (new : List Nat) : ∀ (l : List Nat) (r : Row), (sTo new r l).length = r.length
  | [], _ => rfl
  | t :: l, r => by
    show (sTo new (r.set t (at_ new t)) l).length = _
    rw [sTo_len new l, List.length_set]
theorem sTo_at (new : List Nat) : ∀ (l : List Nat) (r : Row) {x : Nat}, x < r.length → at_ (sTo new r l) x = if l.contains x = true then at_ new x else at_ r x
  | [], _, _, _ => rfl
  | t :: l, r, x, h => by
    show at_ (sTo new (r.set t (at_ new t)) l) x = _
    rw [sTo_at new l _ (by rw [List.length_set]; exact h), at_set h, List.contains_cons]
    by_cases e : t = x
    · subst e
      rw [if_pos rfl, beq_self_eq_true, Bool.true_or, if_pos rfl]
      split <;> rfl
    · rw [if_neg e, show (x == t) = false from beq_eq_false_iff_ne.mpr (Ne.symm e), Bool.false_or]
theorem foldl_copy {α : Type} (f : Row → Copy → Row) (g : α → Copy) : ∀ (l : List α) (r : Row), (l.map g).foldl f r = l.foldl (fun r i => f r (g i)) r
  | [], _ => rfl
  | a :: l, r => by rw [List.map_cons, List.foldl_cons, List.foldl_cons, foldl_copy f g l]
theorem done_eq (d : Desk) (c : Choice) : doneUp d c = sTo d.new (((of_ d c 1).map (copy d)).foldl (asideIn (row d)) (((order d (of_ d c 0)).map (copy d)).foldl doIn (row d))) (sent d c) := by
  rw [foldl_copy, foldl_copy]
  unfold doneUp
  show (List.range (List.foldl (fun r i => asideIn (row d) r (copy d i)) (List.foldl (fun r i => doIn r (copy d i)) (row d) (order d (of_ d c 0))) (of_ d c 1)).length).map (fun x => if (sent d c).contains x = true then at_ d.new x else at_ (List.foldl (fun r i => asideIn (row d) r (copy d i)) (List.foldl (fun r i => doIn r (copy d i)) (row d) (order d (of_ d c 0))) (of_ d c 1)) x) = _
  generalize List.foldl (fun r i => asideIn (row d) r (copy d i)) (List.foldl (fun r i => doIn r (copy d i)) (row d) (order d (of_ d c 0))) (of_ d c 1) = r
  apply row_ext
  · rw [List.length_map, List.length_range, sTo_len]
  · intro x hx
    rw [List.length_map, List.length_range] at hx
    rw [at_map hx, sTo_at _ _ _ hx]
theorem done_len (d : Desk) (c : Choice) : (doneUp d c).length = 16 := by
  rw [done_eq, sTo_len, foldAs_len, foldIn_len, row_len]
/-- the cells that are wrong when all that fit are done without care -/
theorem wrong_eq (d : Desk) : ((List.range d.new.length).filter fun x => at_ (((fitting d).map (copy d)).foldl doIn (row d)) x != at_ d.new x && has ((fitting d).map (copy d)) x) = wrong d := by
  unfold wrong
  apply List.filter_congr
  intro x _
  rw [has_map, foldl_copy, Bool.and_comm]
  rfl
end M
set_option Elab.async false
set_option linter.all false
set_option maxRecDepth 100000
namespace R
open PySem PySem.Spec PyProof.Rows L2
section
variable {X : Cx}
/-! ### xs.remove(i), whole numbers -/
def intIs (i : Int) : Value → Bool
  | .int a _ => a == i
  | _ => false
theorem vals_int : ∀ {ns : List Int} {its : List Value}, Vals (ns.map V.int) its → ∀ y ∈ its, ∃ a t, y = Value.int a t
  | [], _, .nil, y, hy => by cases hy
  | n :: ns, _, .cons r t, y, hy => by
    rcases List.mem_cons.mp hy with rfl | hy
    · obtain ⟨tk, rfl⟩ := r
      exact ⟨_, _, rfl⟩
    · exact vals_int t y hy
theorem vals_at {ns : List Int} {its : List Value} (r : Vals (ns.map V.int) its) {j : Nat} {n : Int} (h : ns[j]? = some n) : ∃ t, its[j]? = some (Value.int n t) := by
  obtain ⟨u, hu, ru⟩ := r.get (i := j) (x := V.int n) (by rw [List.getElem?_map, h]; rfl)
  obtain ⟨t, rfl⟩ := ru
  exact ⟨t, hu⟩
def rRemove : V → List V → Hp → VK → Prop := fun x vs H Q => ∃ (l : Addr) (ns : List Int) (i : Int), x = .ref l ∧ vs = [.int i] ∧ H l = some (.lst (ns.map V.int)) ∧ i ∈ ns ∧ Q .non (upd H l (.lst ((ns.erase i).map V.int)))
theorem mt_remove : MtM X "list.remove" rRemove := by
  intro pins s σ H x vs v us Q I rx rv h
  obtain ⟨l, ns, i, rfl, rfl, hH, hi, q⟩ := h
  cases rx
  obtain ⟨u, rfl, ru⟩ := rv.one
  obtain ⟨t, rfl⟩ := ru
  obtain ⟨z, its, n, r, hl, e⟩ := I.lstM hH
  obtain ⟨p1, p2, hp, rfl, her⟩ := List.exists_erase_eq hi
  have hj : p1.length < its.length := by
    rw [← hl]; simp
  obtain ⟨tj, hjv⟩ := vals_at r (j := p1.length) (n := i) (by simp)
  have hjv' : its[p1.length] = Value.int i tj := (List.getElem?_eq_some_iff.mp hjv).2
  refine call_meets PySem.F.slot_list_remove ⟨_, e, rfl⟩ PySem.F.entry_list_remove (PySem.F.args_list_remove_2 _ _)
    (MeetsSeq.list_remove l its.toArray n (.int i t) (intIs i) (fun y hy => ?_) p1.length (by simpa using hj) ?_ ?_ (by rw [List.size_toArray]; omega)) ⟨e, ?_⟩
  · obtain ⟨a, ta, rfl⟩ := vals_int r y (by simpa using hy)
    exact MeetsSeq.EqGives.int a i ta t
  · show intIs i its[p1.length] = true
    rw [hjv']
    exact beq_self_eq_true i
  · intro m hm hlt
    have hm' : m < its.length := by simpa using hm
    obtain ⟨tm, hmv⟩ := vals_at r (j := m) (n := p1[m]) (by rw [List.getElem?_append_left hlt, List.getElem?_eq_getElem hlt])
    show intIs i its[m] = false
    rw [(List.getElem?_eq_some_iff.mp hmv).2]
    exact beq_eq_false_iff_ne.mpr fun z => hp (z ▸ List.getElem_mem hlt)
  · have q' : (((p1 ++ i :: p2).map V.int).eraseIdx p1.length) = ((p1 ++ i :: p2).erase i).map V.int := by
      rw [her, List.map_append, List.map_cons, List.map_append]
      have e3 : p1.length = (p1.map V.int).length := (List.length_map ..).symm
      rw [e3, List.eraseIdx_append_of_length_le (Nat.le_refl _), Nat.sub_self]
      rfl
    refine ⟨.non, _, I.lset (its' := its.eraseIdx p1.length) (ys := ((p1 ++ i :: p2).erase i).map V.int) hH e ?_ ?_ ?_, rfl, q⟩
    · show its.toArray.eraseIdxIfInBounds p1.length = (its.eraseIdx p1.length).toArray
      rw [List.eraseIdxIfInBounds_toArray]
    · rw [← q']
      exact r.eraseIdx _
    · rw [← q']
      have := len_erase ((p1 ++ i :: p2).map V.int) p1.length
      omega
/-! ### list(range(n)) -/
theorem call_range : CallR X (.type "range") (fun xs H Q => ∃ j : Int, xs = [.int j] ∧ ∀ p, H p = none → Q (.ref p) (upd H p (.rng 0 j))) := by
  intro pins s σ H xs us Q I r h
  obtain ⟨j, rfl, q⟩ := h
  obtain ⟨u, rfl, ru⟩ := r.one
  obtain ⟨t, rfl⟩ := ru
  refine call_range_1 ?_
  refine ⟨.ref s.heap.objs.size, _, I.laid (t' := s.toks + 1 + 1) (o := .rng 0 j) (fun b ob q => Heap.get?_push_of_some _ q) (Nat.le_refl _) ?_, rfl, q _ (I.hok.fresh (Nat.le_refl _))⟩
  exact ⟨_, _, _, Heap.get?_push_size _ rfl⟩
theorem rangeSize_nat (n : Nat) : Builtin.Range.rangeSize 0 (n : Int) 1 = (n : Int) := by
  unfold Builtin.Range.rangeSize
  rw [if_pos (by decide)]
  by_cases h : (0 : Int) < n
  · rw [if_pos h]; omega
  · rw [if_neg h]; omega
theorem range_small {n : Nat} (h : n ≤ 1000) : Builtin.Range.small 0 (n : Int) 1 = true := by
  exact small_one (by omega) (by omega) (by omega) (by omega)
theorem vals_range : ∀ (n : Nat) (its : List Value), its.length = n → (∀ (j : Nat) (v : Value), its[j]? = some v → ∃ t, v = Value.int (j : Int) t) → Vals ((List.range n).map fun (k : Nat) => V.int (k : Int)) its := by
  intro n
  induction n with
  | zero =>
    intro its hl _
    rw [List.length_eq_zero_iff.mp hl]
    exact .nil
  | succ n ih =>
    intro its hl h
    have hne : its ≠ [] := fun z => by rw [z] at hl; cases hl
    have e := List.dropLast_concat_getLast hne
    have hd : its.dropLast.length = n := by rw [List.length_dropLast]; omega
    rw [← e, List.range_succ, List.map_append]
    refine (ih its.dropLast hd fun j v hv => h j v ?_).append ?_
    · rw [← e, List.getElem?_append_left (List.getElem?_eq_some_iff.mp hv).1]
      exact hv
    · obtain ⟨t, ht⟩ := h n (its.getLast hne) (by rw [← List.getLast?_eq_getLast hne, List.getLast?_eq_getElem?, hl]; rfl)
      exact .cons ⟨t, ht⟩ .nil
theorem call_list_rng (hh : X.A.handled = none) : CallR X (.type "list") (fun xs H Q => ∃ (p : Addr) (n : Nat), xs = [.ref p] ∧ H p = some (.rng 0 (n : Int)) ∧ n ≤ 1000 ∧ ∀ l, H l = none → Q (.ref l) (upd H l (.lst ((List.range n).map fun (k : Nat) => V.int (k : Int))))) := by
  intro pins s σ H xs us Q I r h
  obtain ⟨p, n, rfl, hp, hn, q⟩ := h
  obtain ⟨u, rfl, ru⟩ := r.one
  cases ru
  obtain ⟨t1, t2, t3, e⟩ := I.hok p _ hp
  refine call_list_range (n := n) hh e (range_small hn) (rangeSize_nat n) (by omega) fun h' tk acc c' kp hS hI => ?_
  refine ⟨.ref s.heap.objs.size, _, I.laid (t' := tk) kp (Nat.le_refl _) (show ObjOk X.prog X.w _ h' _ (.lst ((List.range n).map fun (k : Nat) => V.int (k : Int))) from ⟨?_, acc.toList, c', ?_, by simpa using hS⟩), rfl, q _ (I.hok.fresh (Nat.le_refl _))⟩
  · rw [List.length_map, List.length_range]
    exact Nat.le_of_lt (small1000 hn)
  · refine vals_range n acc.toList (by simpa using hI.1) fun j v hv => ?_
    obtain ⟨t, ht⟩ := hI.2 j v (by simpa using hv)
    exact ⟨t, by simpa using ht⟩
end
end R
set_option Elab.async false
set_option linter.all false
set_option maxRecDepth 100000
namespace R
open PySem PyProof.Rows
section
open PySem.SeqAt
open PySem.AutoSeq1 (wpAny_loadPart')
open PySem.MeetsSeq PySem.MeetsSeq2 PySem.MeetsSeq3
/-- each item of the array is the whole number there -/
def Ints (items : Array Value) (ns : List Int) : Prop := items.size = ns.length ∧ ∀ (j : Nat) (h : j < items.size) (h2 : j < ns.length), ∃ t, items[j] = Value.int ns[j] t
theorem lt_loop (l b : Addr) (items items2 : Array Value) (n n2 : Nat) (dd dd2 : Option Addr) (sl sl2 : Array (Option Value)) (ns ms : List Int) (h1 : Ints items ns) (h2 : Ints items2 ms) (hsz : items.size = items2.size) (k : Nat) :
    ∀ i : Nat, items.size - i = k → Meets (Builtin.«list.__eq__.loop» ⟨[.ref l, .ref b, rawInt i, rawInt 0], []⟩)
      (fun A R s => s.heap.get? l = some { cls := .type "list", dict := dd, data := .seq items n, slots := sl } ∧ s.heap.get? b = some { cls := .type "list", dict := dd2, data := .seq items2 n2, slots := sl2 } ∧
        R (.ok (.ret (.bool (HT.lexLt (ns.drop i) (ms.drop i))))) s) := by
  induction k with
  | zero =>
    intro i hk prog w A R s h
    obtain ⟨hp, g, d, tk, os⟩ := s
    obtain ⟨hl, hb, h⟩ := h
    wp_walk using wpAny_loadPart' hl, wpAny_loadPart' hb
    have z1 := h1.1
    have z2 := h2.1
    have hi1 : items[((i : Nat) : Int).toNat]? = none := by simp; omega
    have hi2 : items2[((i : Nat) : Int).toNat]? = none := by simp; omega
    rw [List.drop_of_length_le (by omega), List.drop_of_length_le (by omega)] at h
    rw [hi1, hi2]
    wp_walk using wpAny_loadPart' hl, wpAny_loadPart' hb
    show R (.ok (.ret (.bool (decide (items.size < items2.size))))) _
    rw [decide_eq_false (by omega)]
    exact h
  | succ k ih =>
    intro i hk prog w A R s h
    obtain ⟨hp, g, d, tk, os⟩ := s
    obtain ⟨hl, hb, h⟩ := h
    wp_walk using wpAny_loadPart' hl, wpAny_loadPart' hb
    have z1 := h1.1
    have z2 := h2.1
    have hlt : i < items.size := by omega
    have hlt2 : i < items2.size := by omega
    have hi1 : items[((i : Nat) : Int).toNat]? = some items[i] := by simp [hlt]
    have hi2 : items2[((i : Nat) : Int).toNat]? = some items2[i] := by simp [hlt2]
    have hc : ((i : Int) + 1) = ((i + 1 : Nat) : Int) := by push_cast; rfl
    obtain ⟨t1, e1⟩ := h1.2 i hlt (by omega)
    obtain ⟨t2, e2⟩ := h2.2 i hlt2 (by omega)
    have lt1 : i < ns.length := by omega
    have lt2 : i < ms.length := by omega
    rw [List.drop_eq_getElem_cons lt1, List.drop_eq_getElem_cons lt2, HT.lexLt_cons] at h
    rw [hi1, hi2, e1, e2]
    refine wpAny_bind (EqAt.int_int (A := A.in1) (s := ⟨hp, g, d, tk, os⟩) ns[i] t1 ms[i] t2 prog w _ _ ?_)
    by_cases q : ns[i] = ms[i]
    · rw [if_pos q] at h
      rw [beq_iff_eq.mpr q]
      wp_walk
      rw [hc]
      exact ⟨plainId_quiet plain_eq_loop _, codeAny_builtin entry_eq_loop (by
        rw [Around.under_plainId plain_eq_loop _]
        exact ih (i + 1) (by omega) prog w A R _ ⟨hl, hb, h⟩)⟩
    · rw [if_neg q] at h
      rw [beq_eq_false_iff_ne.mpr q]
      have hri := HT.rcLt_int A.in1 ⟨hp, g, d, tk, os⟩ ns[i] t1 ms[i] t2 prog w
      wp_walk using wpAny_loadPart' hl, wpAny_loadPart' hb
      rw [hi1, hi2, e1, e2]
      wp_walk using hri
      exact h
theorem list_lt (l b : Addr) (items items2 : Array Value) (n n2 : Nat) (dd dd2 : Option Addr) (sl sl2 : Array (Option Value)) (ns ms : List Int) (h1 : Ints items ns) (h2 : Ints items2 ms) (hsz : items.size = items2.size) :
    Meets (Builtin.«list.__lt__» ⟨[.ref l, .ref b], []⟩)
      (fun A R s => s.heap.get? l = some { cls := .type "list", dict := dd, data := .seq items n, slots := sl } ∧ s.heap.get? b = some { cls := .type "list", dict := dd2, data := .seq items2 n2, slots := sl2 } ∧
        R (.ok (.ret (.bool (HT.lexLt ns ms)))) s) := by
  intro prog w A R s h
  obtain ⟨hp, g, d, tk, os⟩ := s
  obtain ⟨hl, hb, h⟩ := h
  have f3 := AutoSeq1.sub_list_list
  wp_walk using wpAny_loadPart' hl, wpAny_loadPart' hb
  exact ⟨plainId_quiet plain_eq_loop _, codeAny_builtin entry_eq_loop (by
    rw [Around.under_plainId plain_eq_loop _]
    exact lt_loop l b items items2 n n2 dd dd2 sl sl2 ns ms h1 h2 hsz _ 0 rfl prog w A R _ ⟨hl, hb, by simpa using h⟩)⟩
/-- how two rows of one length compare: like ones first, then one pair that differs, or none -/
inductive LtRun (A : Around) (s : Shared) : List Value → List Value → Bool → Prop
  | nil : LtRun A s [] [] false
  | eq {x y : Value} {xs ys : List Value} {r : Bool} : EqAt A s x y true → LtRun A s xs ys r → LtRun A s (x :: xs) (y :: ys) r
  | lt {x y : Value} {xs ys : List Value} {r : Bool} : EqAt A s x y false → (∀ (prog : Program) (w : World) (E : Value → Shared → Prop) (Q : Value → Shared → Prop), Q (.bool r) s → wpAny (model prog w) A (richCompare .Lt x y) Q E s) → LtRun A s (x :: xs) (y :: ys) r
theorem tuple_lt_run (l b : Addr) (items items2 : Array Value) (n n2 : Nat) (dd dd2 : Option Addr) (sl sl2 : Array (Option Value)) (r : Bool) (hsz : items.size = items2.size) :
    Meets (Builtin.«tuple.__lt__» ⟨[.ref l, .ref b], []⟩)
      (fun A R s => s.heap.get? l = some { cls := .type "tuple", dict := dd, data := .seq items n, slots := sl } ∧ s.heap.get? b = some { cls := .type "tuple", dict := dd2, data := .seq items2 n2, slots := sl2 } ∧
        LtRun A.in1 s items.toList items2.toList r ∧ R (.ok (.ret (.bool r))) s) :=
  .of_wp fun prog w A R s h => by
    obtain ⟨hp, g, d, tk, os⟩ := s
    obtain ⟨hl, hb, hrun, h⟩ := h
    have f2 := AutoSeq1.sub_tuple_tuple
    wp_walk using wpAny_loadPart' hl, wpAny_loadPart' hb, wpAny_forIn_list _ (fun rest b s' => b.1 = none ∧ s' = ⟨hp, g, d, tk, os⟩ ∧ ∃ (vs ws : List Value), rest = vs.zip ws ∧ LtRun A.in1 ⟨hp, g, d, tk, os⟩ vs ws r) _
    case turn =>
      rintro ⟨y, x⟩ rest b s' ⟨hb', rfl, vs, ws, hz, hR⟩
      cases hR with
      | nil => cases hz
      | eq he hR' =>
        rw [List.zip_cons_cons] at hz
        injection hz with hyx hrest
        injection hyx with hy hx
        subst hy hx
        refine wpAny_bind (he prog w _ _ ?_)
        wp_walk
        exact ⟨rfl, rfl, _, _, hrest, hR'⟩
      | lt he hri =>
        rw [List.zip_cons_cons] at hz
        injection hz with hyx hrest
        injection hyx with hy hx
        subst hy hx
        refine wpAny_bind (he prog w _ _ ?_)
        have hri' := hri prog w
        wp_walk using hri'
        exact ⟨_, rfl, by simpa using h⟩
    case fin =>
      rintro ⟨b1, b2⟩ s' ⟨hb', rfl, vs, ws, hz, hR⟩
      simp only at hb'
      subst hb'
      cases hR with
      | nil =>
        wp_walk
        refine ⟨_, rfl, ?_⟩
        have e : decide (items.size < items2.size) = false := decide_eq_false (by omega)
        simpa [Builtin.Tuple.tupleCompareSizes, e] using h
      | eq he hR' => rw [List.zip_cons_cons] at hz; cases hz
      | lt he hri => rw [List.zip_cons_cons] at hz; cases hz
    case h =>
      exact ⟨rfl, rfl, items.toList, items2.toList, rfl, hrun⟩
end
section
variable {prog : Program} {w : World} {A : Around} {E : Value → Shared → Prop} {s : Shared}
theorem rc_lists {l b : Addr} {items items2 : Array Value} {ns ms : List Int} {Q : Value → Shared → Prop} (hl : s.heap.IsList l items) (hb : s.heap.IsList b items2) (h1 : Ints items ns) (h2 : Ints items2 ms) (hsz : items.size = items2.size)
    (hu : A.units < cLine) (h : Q (.bool (HT.lexLt ns ms)) s) : wpAny (model prog w) A (richCompare .Lt (.ref l) (.ref b)) Q E s := by
  obtain ⟨⟨cls, dd, data, sl⟩, ho, hc, n, hd⟩ := id hl
  obtain ⟨⟨cls2, dd2, data2, sl2⟩, ho2, hc2, n2, hd2⟩ := id hb
  simp only at hc hd hc2 hd2
  subst hc hd hc2 hd2
  exact richCompare_meets_room (op := .Lt) ⟨_, ho, rfl⟩ ⟨_, ho2, rfl⟩ PySem.F.slot_list_lt PySem.F.entry_list_lt (PySem.F.args_list_lt_2 _ _) (list_lt l b items items2 n n2 dd dd2 sl sl2 ns ms h1 h2 hsz)
    ⟨ho, ho2, show Value.bool (HT.lexLt ns ms) ≠ Value.notImplemented ∧ Q (.bool (HT.lexLt ns ms)) s from ⟨(fun x => nomatch x), h⟩⟩ hu
theorem lt_tuples {l b : Addr} {items items2 : Array Value} {r : Bool} {Q : Value → Shared → Prop} (hl : IsTup s.heap l items) (hb : IsTup s.heap b items2) (hsz : items.size = items2.size) (hr : LtRun A.in1 s items.toList items2.toList r)
    (hu : A.units < cLine) (h : Q (.bool r) s) : wpAny (model prog w) A (compareOp .Lt (.ref l) (.ref b)) Q E s := by
  obtain ⟨⟨cls, dd, data, sl⟩, ho, hc, n, hd⟩ := id hl
  obtain ⟨⟨cls2, dd2, data2, sl2⟩, ho2, hc2, n2, hd2⟩ := id hb
  simp only at hc hd hc2 hd2
  subst hc hd hc2 hd2
  exact richCompare_meets_room (op := .Lt) ⟨_, ho, rfl⟩ ⟨_, ho2, rfl⟩ PySem.F.slot_tuple_lt PySem.F.entry_tuple_lt (PySem.F.args_tuple_lt_2 _ _) (tuple_lt_run l b items items2 n n2 dd dd2 sl sl2 r hsz)
    ⟨ho, ho2, hr, show Value.bool r ≠ Value.notImplemented ∧ Q (.bool r) s from ⟨(fun x => nomatch x), h⟩⟩ hu
end
open PySem PySem.Spec PyProof.Rows L2
theorem ints_of {ns : List Int} {its : List Value} (r : Vals (ns.map V.int) its) : Ints its.toArray ns := by
  have hl := r.length
  rw [List.length_map] at hl
  refine ⟨by simpa using hl.symm, fun j h h2 => ?_⟩
  obtain ⟨t, ht⟩ := vals_at r (List.getElem?_eq_getElem h2)
  exact ⟨t, by simpa using (List.getElem?_eq_some_iff.mp ht).2⟩
theorem all_eq {ns ms : List Int} (hl : ns.length = ms.length) : ((List.range ns.length).all fun j => ns.getD j 0 == ms.getD j 0) = decide (ns = ms) := by
  rw [Bool.eq_iff_iff, List.all_eq_true, decide_eq_true_eq]
  constructor
  · intro h
    apply List.ext_getElem hl
    intro j h1 h2
    have e := eq_of_beq (h j (List.mem_range.mpr h1))
    rw [List.getD_eq_getElem?_getD, List.getD_eq_getElem?_getD, List.getElem?_eq_getElem h1, List.getElem?_eq_getElem h2] at e
    exact e
  · rintro rfl j _
    exact beq_self_eq_true _
/-- (a, b, xs) < (c, d, ys), xs and ys of one length -/
def lt3 (a b : Int) (xs : List Int) (c d : Int) (ys : List Int) : Bool := if a = c then (if b = d then HT.lexLt xs ys else decide (b < d)) else decide (a < c)
def rLt3 (K : PySem.W.Frag) : R2 := fun x y H Q => ∃ (p q l m : Addr) (a b c d : Int) (xs ys : List Int), x = .ref p ∧ y = .ref q ∧ SqT K H p [.int a, .int b, .ref l] ∧ SqT K H q [.int c, .int d, .ref m] ∧ SqL K H l (xs.map V.int) ∧ SqL K H m (ys.map V.int) ∧ xs.length = ys.length ∧
  Q (.bl (lt3 a b xs c d ys)) H
theorem lexLt_self : ∀ xs : List Int, HT.lexLt xs xs = false
  | [] => rfl
  | x :: xs => by rw [HT.lexLt_cons, if_pos rfl, lexLt_self xs]
theorem op_lt3 {X : Cx} (hu : X.A.units + 1 < cLine) : OpR X (compareOp .Lt) (rLt3 X.K) := by
  intro pins s σ H x y v u Q I rx ry h
  obtain ⟨p, q, l, m, a, b, c, d, xs, ys, rfl, rfl, hp, hq, hl, hm, hlen, hQ⟩ := h
  cases rx
  cases ry
  obtain ⟨its, r1, p1, _⟩ := I.tuple hp
  obtain ⟨its2, r2, p2, _⟩ := I.tuple hq
  obtain ⟨jts, r3, p3, _⟩ := I.list hl
  obtain ⟨jts2, r4, p4, _⟩ := I.list hm
  cases r1 with
  | cons x1 r1 => cases r1 with
  | cons x2 r1 => cases r1 with
  | cons x3 r1 =>
  cases r1
  cases r2 with
  | cons y1 r2 => cases r2 with
  | cons y2 r2 => cases r2 with
  | cons y3 r2 =>
  cases r2
  obtain ⟨t1, rfl⟩ := x1
  obtain ⟨t2, rfl⟩ := x2
  cases x3
  obtain ⟨t3, rfl⟩ := y1
  obtain ⟨t4, rfl⟩ := y2
  cases y3
  have i3 := ints_of r3
  have i4 := ints_of r4
  have hz : jts.toArray.size = jts2.toArray.size := by rw [i3.1, i4.1, hlen]
  have e3 : SeqAt.EqAt X.A.in1 s (.ref l) (.ref m) (decide (xs = ys)) := by
    by_cases hlm : l = m
    · subst hlm
      have : xs = ys := by
        have e := I.list_inj hl hm
        exact (List.map_inj_right fun a b (z : V.int a = V.int b) => V.int.inj z).mp e
      rw [decide_eq_true this]
      exact SeqAt.EqAt.same _
    · refine SeqAt.EqAt.of_refs hlm ?_
      rw [← all_eq hlen, ← i3.1]
      refine SeqAt.RcAt.lists p3.isList p4.isList hz (show X.A.units + 1 < cLine from hu) fun j h1 h2 => ?_
      have l1 : j < xs.length := by rw [← i3.1]; exact h1
      have l2 : j < ys.length := by rw [← i4.1]; exact h2
      obtain ⟨ta, ea⟩ := i3.2 j h1 l1
      obtain ⟨tb, eb⟩ := i4.2 j h2 l2
      rw [ea, eb, List.getD_eq_getElem?_getD, List.getD_eq_getElem?_getD, List.getElem?_eq_getElem l1, List.getElem?_eq_getElem l2]
      exact SeqAt.EqAt.int_int _ _ _ _
  refine lt_tuples (r := lt3 a b xs c d ys) p1 p2 rfl ?_ (by omega) ⟨.bl (lt3 a b xs c d ys), H, I, rfl, hQ⟩
  unfold lt3
  by_cases q1 : a = c
  · rw [if_pos q1]
    refine .eq (by have := SeqAt.EqAt.int_int (A := X.A.in1) (s := s) a t1 c t3; rw [beq_iff_eq.mpr q1] at this; exact this) ?_
    by_cases q2 : b = d
    · rw [if_pos q2]
      refine .eq (by have := SeqAt.EqAt.int_int (A := X.A.in1) (s := s) b t2 d t4; rw [beq_iff_eq.mpr q2] at this; exact this) ?_
      by_cases q3 : xs = ys
      · rw [decide_eq_true q3] at e3
        subst q3
        rw [lexLt_self]
        exact .eq e3 .nil
      · rw [decide_eq_false q3] at e3
        exact .lt e3 fun prog w E Q hq => rc_lists p3.isList p4.isList i3 i4 hz (show X.A.units + 1 < cLine from hu) hq
    · rw [if_neg q2]
      exact .lt (by have := SeqAt.EqAt.int_int (A := X.A.in1) (s := s) b t2 d t4; rw [beq_eq_false_iff_ne.mpr q2] at this; exact this) fun prog w E Q hq => HT.rcLt_int X.A.in1 s b t2 d t4 prog w E Q hq
  · rw [if_neg q1]
    exact .lt (by have := SeqAt.EqAt.int_int (A := X.A.in1) (s := s) a t1 c t3; rw [beq_eq_false_iff_ne.mpr q1] at this; exact this) fun prog w E Q hq => HT.rcLt_int X.A.in1 s a t1 c t3 prog w E Q hq
end R
set_option Elab.async false
set_option linter.all false
set_option maxRecDepth 100000
namespace R
open PySem PySem.Spec PyProof.Rows L2
section
variable {X : Cx} {x : Str} {p pos : Pos} {e : Expr} {es : List Expr} {t : TA}
/-- h(e, ..), h a local name that holds one of several defs of the text: spk is the promise of the k-th one, adr says where it stands -/
def tCallI (adr : Nat → Addr → Prop) (spk : Nat → Sp) (i : Nat) (t : TA) : TE := fun σ H Q => ∃ (k : Nat) (f : Addr), σ[i]? = some (some (.ref f)) ∧ adr k f ∧ t σ H fun vs H1 => spk k vs H1 Q E0
theorem pe_callI {d i : Nat} {adr : Nat → Addr → Prop} {spk : Nat → Sp} (hN : X.N[i]? = some x) (hv : Vis X.env.scope x) (hr : Room d X.A)
    (F : ∀ k f, adr k f → ∃ (fd : FuncData) (ps : List Str), FnOk X.prog X.w X.K X.mg X.base CX0 d f fd ps (spk k) ∧ Binds X.K fd ps [] ∧ PySem.W.keepIn X.K (.ref f) = true)
    (ha : PA X (e :: es) t) (hd : (x == ("__debug__" : Str)) = false := by decide) (hcd : (x == ("__classdict__" : Str)) = false := by decide)
    (he : starEach (e :: es) X.env = (false, eval e X.env) :: starEach es X.env := by rfl) (hpl : (backTo pos (starEach es X.env)).any (·.1) = false := by rfl) :
    PE X (.Call (.Name x p) (e :: es) [] pos) (tCallI adr spk i t) := by
  intro pins s σ H Q I h
  obtain ⟨k, f, hf, hG, h⟩ := h
  obtain ⟨fd, ps, FO, hb, hk⟩ := F k f hG
  refine wpAny_Call_Name_kw (thn (pe_var (pos := p) hN hv hd hcd pins s σ H (fun v H' => v = .ref f ∧ H' = H) I ⟨.ref f, hf, rfl, rfl⟩) fun u s1 ⟨v, H', I', rv, ev, eH⟩ => ?_)
  subst ev eH
  obtain rfl : u = Value.ref f := rv
  refine PySem.W.callWith_K (h₀ := X.base) I.ok.mod.kin hk (thn (ha pos pins s1 σ H' _ I' h) fun us s2 ⟨vs, H1, I1, r, q⟩ => ⟨I1.kIn, ?_⟩) he hpl
  exact run_fn (dvs := []) (ds := []) FO hr hb .nil pass0 I1 r (by rw [List.append_nil]; exact q)
end
end R
set_option Elab.async false
set_option linter.all false
set_option maxRecDepth 100000
namespace T
open PySem PySem.Spec PyProof.Rows L2 R
open Km513 (Copy Desk)
/-! ### defs of the text -/
def top (i : Nat) : Stmt := PySem.Challenge.pw_samecells_s01_answers.main.body.getD i (.Pass ⟨0, 0, 0, 0⟩)
/-- a def of the text's top, as it stands behind the top -/
structure Def (K : PySem.W.Frag) (mg : Str → Option Value) (x : Str) (st : Stmt) (ps : List Str) : Prop where
  ex : ∃ (f : Addr) (fd : FuncData), Fun K x x st f fd ∧ mg x = some (.ref f) ∧ Binds K fd ps []
/-- a def that may be called: its promise sp, k deep -/
structure Cal (P : Program) (w : World) (K : PySem.W.Frag) (mg : Str → Option Value) (base : Heap) (k : Nat) (x : Str) (ps : List Str) (sp : Sp) : Prop where
  ex : ∃ (f : Addr) (fd : FuncData), FnOk P w K mg base CX0 k f fd ps sp ∧ mg x = some (.ref f) ∧ PySem.W.keepIn K (.ref f) = true ∧ Binds K fd ps []
section
variable {P : Program} {w : World} {K : PySem.W.Frag} {mg : Str → Option Value} {base : Heap}
theorem Cal.mono {j k : Nat} {x : Str} {ps : List Str} {sp : Sp} (c : Cal P w K mg base j x ps sp) (h : j ≤ k) : Cal P w K mg base k x ps sp := by
  obtain ⟨f, fd, F, r⟩ := c.ex
  exact ⟨f, fd, F.mono h, r⟩
/-- the rule for a def of the top -/
theorem Def.cal {x : Str} {st : Stmt} {N ps : List Str} {k : Nat} {sp : Sp} (D : Def K mg x st ps) (S : FnScope N ps (defScope st)) (len : ∀ vs H Q E, sp vs H Q E → vs.length = ps.length)
    (hbody : ∀ (f : Addr) (cdv : Value) (A : Around) (outer : List Env) (s : Shared) (H : Hp) (vs : List V) (Q : VK) (E : XK), Room k (A.deeper (envOfC x (defScope st) s.heap.objs.size f cdv)) → sp vs H Q E →
      ∃ t, PSs (cxOf CX0 P w K mg base N x (defScope st) f cdv A outer s H E).nox (defBody st) t ∧ t { nx := fun _ H' => Q .non H', rt := Q } (start N vs) H) : Cal P w K mg base (k + 1) x ps sp := by
  obtain ⟨f, fd, F, m, b⟩ := D.ex
  exact ⟨f, fd, F.ok S len (hbody f), m, F.kp, b⟩
end
section
variable {X : Cx} {k : Nat} {ps : List Str} {sp : Sp} {x : Str} {p pos : Pos} {e : Expr} {es : List Expr} {t : TA}
theorem pe_callC (c : Cal X.prog X.w X.K X.mg X.base k x ps sp) (hr : Room k X.A) (hg : Gl X x) (ha : PA X (e :: es) t) (hdb : (x == ("__debug__" : Str)) = false := by decide)
    (he : starEach (e :: es) X.env = (false, eval e X.env) :: starEach es X.env := by rfl) (hpl : (backTo pos (starEach es X.env)).any (·.1) = false := by rfl) :
    PE X (.Call (.Name x p) (e :: es) [] pos) (tCall sp [] E0 t) := by
  obtain ⟨f, fd, F, m, kp, b⟩ := c.ex
  exact pe_call F hr hg m kp b .nil pass0 ha hdb he hpl
end
/-! ### rules that read the text's part of the heap, with that part named (within a comprehension) -/
theorem ixK (K : PySem.W.Frag) {X : Cx} (h : X.K = K := by rfl) : IxR X (rIxL K) := h ▸ ix_list
theorem ixTK (K : PySem.W.Frag) {X : Cx} (h : X.K = K := by rfl) : IxR X (rIxT K) := h ▸ ix_tup
theorem pe_fldK (K : PySem.W.Frag) {X : Cx} {e : Expr} {f : Str} {ta : TE} {pos : Pos} (he : PE X e ta) (ht : attributeBase e f X.env (eval e X.env) = eval e X.env) (h : X.K = K := by rfl) : PE X (.Attribute e f pos) (tFld K ta f) := h ▸ pe_fld he ht
/-! ### data -/
def nV (l : List Nat) : List V := l.map fun (n : Nat) => V.int (n : Int)
theorem nV_at {l : List Nat} {i : Nat} {n : Nat} (h : l[i]? = some n) : (nV l)[i]? = some (V.int (n : Int)) := by
  unfold nV
  rw [List.getElem?_map, h]
  rfl
theorem nV_ints (l : List Nat) : nV l = (l.map fun (n : Nat) => (n : Int)).map V.int := by
  unfold nV
  rw [List.map_map]
  rfl
theorem nV_len (l : List Nat) : (nV l).length = l.length := List.length_map ..
theorem nV_app (l m : List Nat) : nV (l ++ m) = nV l ++ nV m := List.map_append ..
theorem nV_inv {l : List Nat} {i : Nat} {x : V} (h : (nV l)[i]? = some x) : ∃ n, l[i]? = some n ∧ x = V.int (n : Int) := by
  unfold nV at h
  rw [List.getElem?_map] at h
  cases e : l[i]? with
  | none => rw [e] at h; cases h
  | some n => rw [e] at h; exact ⟨n, rfl, (Option.some.inj h).symm⟩
theorem at_of_lt {l : List Nat} {i : Nat} (h : i < l.length) : l[i]? = some (Km513.at_ l i) := by
  unfold Km513.at_
  rw [List.getD_eq_getElem?_getD, List.getElem?_eq_getElem h]
  rfl
/-- a list's item at a place that is a natural number -/
theorem atI_of {xs : List V} {z : Int} {j : Nat} {v : V} (e : z = (j : Int)) (h : xs[j]? = some v) : atI xs z = some v := at_of e h
/-- the attributes of a Copy -/
def cfs (c : Copy) : List (Str × V) := [("source", .int (c.f : Int)), ("target", .int (c.t : Int)), ("length", .int (c.n : Int))]
theorem cfs_s (c : Copy) : (cfs c).lookup ("source" : Str) = some (.int (c.f : Int)) := rfl
theorem cfs_t (c : Copy) : (cfs c).lookup ("target" : Str) = some (.int (c.t : Int)) := rfl
theorem cfs_l (c : Copy) : (cfs c).lookup ("length" : Str) = some (.int (c.n : Int)) := rfl
/-- a Copy stands at a -/
def CopyAt (C : Addr) (H : Hp) (a : Addr) (c : Copy) : Prop := ∃ dx, H a = some (.ins C dx (cfs c))
theorem CopyAt.same {C : Addr} {H H' : Hp} {a : Addr} {c : Copy} (h : CopyAt C H a c) (s : Same H H') : CopyAt C H' a c := by
  obtain ⟨dx, e⟩ := h
  exact ⟨dx, s _ _ e⟩
/-- a list of Copies stands at l -/
structure CopiesAt (C : Addr) (H : Hp) (l : Addr) (as : List Addr) (cs : List Copy) : Prop where
  lst : H l = some (.lst (as.map V.ref))
  len : as.length = cs.length
  at_ : ∀ (j : Nat) (a : Addr) (c : Copy), as[j]? = some a → cs[j]? = some c → CopyAt C H a c
theorem CopiesAt.same {C : Addr} {H H' : Hp} {l : Addr} {as : List Addr} {cs : List Copy} (h : CopiesAt C H l as cs) (s : Same H H') : CopiesAt C H' l as cs :=
  ⟨s _ _ h.lst, h.len, fun j a c h1 h2 => (h.at_ j a c h1 h2).same s⟩
theorem CopiesAt.get {C : Addr} {H : Hp} {l : Addr} {as : List Addr} {d : Desk} (h : CopiesAt C H l as d.copies) {i : Nat} (hi : i < d.copies.length) : ∃ a, as[i]? = some a ∧ (as.map V.ref)[i]? = some (V.ref a) ∧ CopyAt C H a (Km513.copy d i) := by
  have hi' : i < as.length := by rw [h.len]; exact hi
  refine ⟨as[i], List.getElem?_eq_getElem hi', ?_, h.at_ i _ _ (List.getElem?_eq_getElem hi') (M.copy_at hi)⟩
  rw [List.getElem?_map, List.getElem?_eq_getElem hi']
  rfl
/-- the classes and the names of the text -/
structure Txt (K : PySem.W.Frag) (mg : Str → Option Value) (C : Addr) : Prop where
  cl : Cls K C
  nS : NoAttr K C "source"
  nT : NoAttr K C "target"
  nL : NoAttr K C "length"
  len : mg "len" = none
  range : mg "range" = none
  list : mg "list" = none
  sum : mg "sum" = none
  any : mg "any" = none
  c7 : ∃ t, mg "MOST_COPIES" = some (.int 7 t)
  c0 : ∃ t, mg "IN_PLACE" = some (.int 0 t)
  c1 : ∃ t, mg "ASIDE" = some (.int 1 t)
  c2 : ∃ t, mg "LEFT_OUT" = some (.int 2 t)
  cf2 : ∃ t, mg "LEAST_FOUND" = some (.int 2 t)
end T
set_option Elab.async false
set_option linter.all false
set_option maxRecDepth 100000
namespace T
open PySem PySem.Spec PyProof.Rows L2 R
open Km513 (Copy Desk)
section
variable {P : Program} {w : World} {K : PySem.W.Frag} {mg : Str → Option Value} {base : Heap} {C : Addr}
/-! ### overlap -/
abbrev sOverlap : Stmt := top 3
def spOverlap : Sp := fun vs H Q _ => ∃ a b c d : Nat, vs = [.int a, .int b, .int c, .int d] ∧ Q (.bl (M.ov a b c d)) H
theorem scOverlap : FnScope ["start", "length", "other_start", "other_length"] ["start", "length", "other_start", "other_length"] (defScope sOverlap) := ⟨rfl, rfl, rfl, by decide +kernel, rfl, by decide +kernel, by decide +kernel⟩
theorem ok_overlap (D : Def K mg "overlap" sOverlap ["start", "length", "other_start", "other_length"]) : Cal P w K mg base 1 "overlap" ["start", "length", "other_start", "other_length"] spOverlap := by
  refine D.cal scOverlap (fun vs H Q E h => ?_) (fun f cdv A outer s H vs Q E hr h => ?_)
  · obtain ⟨a, b, c, d, rfl, _⟩ := h
    rfl
  · obtain ⟨a, b, c, d, rfl, k⟩ := h
    refine ⟨_, pss_one (ps_ret (pe_and (pe_cmp (pc_lt (pv 0) (pe_add (pv 2) (pv 3))) rfl) (pe_one (pe_cmp (pc_lt (pv 2) (pe_add (pv 0) (pv 1))) rfl)))), ?_⟩
    refine ⟨_, rfl, _, rfl, _, rfl, _, _, rfl, rfl, _, _, rfl, rfl, _, rfl, ?_⟩
    have e1 : decide ((a : Int) < (c : Int) + (d : Int)) = decide (a < c + d) := by rw [decide_eq_decide]; omega
    have e2 : decide ((c : Int) < (a : Int) + (b : Int)) = decide (c < a + b) := by rw [decide_eq_decide]; omega
    unfold M.ov at k
    refine ite2 (fun h1 => ?_) (fun h1 => ?_)
    · refine ⟨_, rfl, _, rfl, _, rfl, _, _, rfl, rfl, _, _, rfl, rfl, ?_⟩
      rw [← e1, show decide ((a : Int) < (c : Int) + (d : Int)) = true from h1, Bool.true_and, ← e2] at k
      exact k
    · rw [← e1, show decide ((a : Int) < (c : Int) + (d : Int)) = false from Bool.eq_false_iff.mpr h1, Bool.false_and] at k
      exact k
/-! ### share_new_cell, has_to_be_ahead -/
abbrev sShare : Stmt := top 4
abbrev sAhead : Stmt := top 6
def spShare (C : Addr) : Sp := fun vs H Q _ => ∃ (p q : Addr) (c e : Copy), vs = [.ref p, .ref q] ∧ CopyAt C H p c ∧ CopyAt C H q e ∧ Q (.bl (M.ov c.t c.n e.t e.n)) H
def spHb (C : Addr) : Sp := fun vs H Q _ => ∃ (p q : Addr) (c e : Copy), vs = [.ref p, .ref q] ∧ CopyAt C H p c ∧ CopyAt C H q e ∧ Q (.bl (M.hb c e)) H
theorem scShare : FnScope ["copy", "other"] ["copy", "other"] (defScope sShare) := ⟨rfl, rfl, rfl, by decide +kernel, rfl, by decide +kernel, by decide +kernel⟩
theorem scAhead : FnScope ["copy", "other"] ["copy", "other"] (defScope sAhead) := ⟨rfl, rfl, rfl, by decide +kernel, rfl, by decide +kernel, by decide +kernel⟩
theorem ok_share (D : Def K mg "share_new_cell" sShare ["copy", "other"]) (T : Txt K mg C) (G : Cal P w K mg base 1 "overlap" ["start", "length", "other_start", "other_length"] spOverlap) : Cal P w K mg base 2 "share_new_cell" ["copy", "other"] (spShare C) := by
  refine D.cal scShare (fun vs H Q E h => ?_) (fun f cdv A outer s H vs Q E hr h => ?_)
  · obtain ⟨p, q, c, e, rfl, _⟩ := h
    rfl
  · obtain ⟨p, q, c, e, rfl, ⟨dx, hp⟩, ⟨dy, hq⟩, k⟩ := h
    refine ⟨_, pss_one (ps_ret (pe_callC G hr rfl (pa_cons (pe_fld (pv 0) rfl) (pa_cons (pe_fld (pv 0) rfl) (pa_cons (pe_fld (pv 1) rfl) (pa_cons (pe_fld (pv 1) rfl) pa_nil)))))), ?_⟩
    exact ⟨_, rfl, p, C, dx, _, _, rfl, hp, T.cl, T.nT, cfs_t c, _, rfl, p, C, dx, _, _, rfl, hp, T.cl, T.nL, cfs_l c, _, rfl, q, C, dy, _, _, rfl, hq, T.cl, T.nT, cfs_t e, _, rfl, q, C, dy, _, _, rfl, hq, T.cl, T.nL, cfs_l e,
      c.t, c.n, e.t, e.n, rfl, k⟩
theorem ok_hb (D : Def K mg "has_to_be_ahead" sAhead ["copy", "other"]) (T : Txt K mg C) (G : Cal P w K mg base 1 "overlap" ["start", "length", "other_start", "other_length"] spOverlap) : Cal P w K mg base 2 "has_to_be_ahead" ["copy", "other"] (spHb C) := by
  refine D.cal scAhead (fun vs H Q E h => ?_) (fun f cdv A outer s H vs Q E hr h => ?_)
  · obtain ⟨p, q, c, e, rfl, _⟩ := h
    rfl
  · obtain ⟨p, q, c, e, rfl, ⟨dx, hp⟩, ⟨dy, hq⟩, k⟩ := h
    refine ⟨_, pss_one (ps_ret (pe_callC G hr rfl (pa_cons (pe_fld (pv 0) rfl) (pa_cons (pe_fld (pv 0) rfl) (pa_cons (pe_fld (pv 1) rfl) (pa_cons (pe_fld (pv 1) rfl) pa_nil)))))), ?_⟩
    exact ⟨_, rfl, p, C, dx, _, _, rfl, hp, T.cl, T.nS, cfs_s c, _, rfl, p, C, dx, _, _, rfl, hp, T.cl, T.nL, cfs_l c, _, rfl, q, C, dy, _, _, rfl, hq, T.cl, T.nT, cfs_t e, _, rfl, q, C, dy, _, _, rfl, hq, T.cl, T.nL, cfs_l e,
      c.f, c.n, e.t, e.n, rfl, k⟩
end
end T
set_option Elab.async false
set_option linter.all false
set_option maxRecDepth 100000
namespace T
open PySem PySem.Spec PyProof.Rows L2 R
open Km513 (Copy Desk)
section
variable {P : Program} {w : World} {K : PySem.W.Frag} {mg : Str → Option Value} {base : Heap} {C : Addr}
theorem int_ne {a b : Nat} : (!decide (V.int (a : Int) = V.int (b : Int))) = true ↔ a ≠ b := by
  rw [Bool.not_eq_true', decide_eq_false_iff_not]
  constructor
  · intro h e
    exact h (by rw [e])
  · intro h e
    exact h (by have := V.int.inj e; omega)
/-! ### fits -/
abbrev sFits : Stmt := top 7
def spFits (C : Addr) : Sp := fun vs H Q _ => ∃ (p lo lw : Addr) (c : Copy) (d : Desk), vs = [.ref p, .ref lo, .ref lw] ∧ CopyAt C H p c ∧ H lo = some (.lst (nV d.old)) ∧ H lw = some (.lst (nV d.new)) ∧ c.n ≤ 16 ∧ c.f + c.n ≤ d.old.length ∧ c.t + c.n ≤ d.new.length ∧ Q (.bl (Km513.fits d c)) H
theorem scFits : FnScope ["copy", "old", "wanted", "k"] ["copy", "old", "wanted"] (defScope sFits) := ⟨rfl, rfl, rfl, by decide +kernel, rfl, by decide +kernel, by decide +kernel⟩
theorem ok_fits (D : Def K mg "fits" sFits ["copy", "old", "wanted"]) (T : Txt K mg C) : Cal P w K mg base 1 "fits" ["copy", "old", "wanted"] (spFits C) := by
  refine D.cal scFits (fun vs H Q E h => ?_) (fun f cdv A outer s H vs Q E hr h => ?_)
  · obtain ⟨p, lo, lw, c, d, rfl, _⟩ := h
    rfl
  · obtain ⟨p, lo, lw, c, d, rfl, ⟨dx, hp⟩, hlo, hlw, h16, hf, ht, k⟩ := h
    refine ⟨_, pss_cons (ps_for PassesOwn.never rfl (pi_range1 rfl T.range (pa_cons (pe_fld (pv 0) rfl) pa_nil)) (pg_name (i := 3) scFits.nd rfl (Or.inl rfl))
      (pss_one (ps_if (pt_cmpR op_ne (pe_ix ix_list (pv 1) (pe_op op_add (pe_fld (pv 0) rfl) (pv 3)) (fun _ _ => rfl)) (pe_ix ix_list (pv 2) (pe_op op_add (pe_fld (pv 0) rfl) (pv 3)) (fun _ _ => rfl)) (nomark _)) (pss_one (ps_ret pe_bl)) pss_nil))) (pss_one (ps_ret pe_bl)), ?_⟩
    refine ⟨_, rfl, p, C, dx, _, _, rfl, hp, T.cl, T.nL, cfs_l c, (c.n : Int), rfl, by omega, by omega, for_range (lo := 0) (n := c.n)
      (fun i σ H' => H' = H ∧ (∃ v, σ = [some (.ref p), some (.ref lo), some (.ref lw), v]) ∧ ∀ j, j < i → Km513.at_ d.old (c.f + j) = Km513.at_ d.new (c.t + j)) ⟨rfl, ⟨none, rfl⟩, fun j hj => absurd hj (Nat.not_lt_zero _)⟩ ?_ ?_⟩
    · rintro i σ H' hi ⟨rfl, ⟨v, rfl⟩, hall⟩
      refine ⟨_, rfl, _, rfl, p, C, dx, _, _, rfl, hp, T.cl, T.nS, cfs_s c, _, rfl, _, _, rfl, rfl, lo, _, _, _, rfl, rfl, SqL.of hlo, atI_of (j := c.f + i) (by omega) (nV_at (at_of_lt (by omega))),
        _, rfl, _, rfl, p, C, dx, _, _, rfl, hp, T.cl, T.nT, cfs_t c, _, rfl, _, _, rfl, rfl, lw, _, _, _, rfl, rfl, SqL.of hlw, atI_of (j := c.t + i) (by omega) (nV_at (at_of_lt (by omega))), rfl, _, rfl, ?_⟩
      refine ite2 (fun h1 => ?_) (fun h1 => ?_)
      · have q := int_ne.mp h1
        have e : Km513.fits d c = false := by
          unfold Km513.fits
          rw [List.all_eq_false]
          exact ⟨i, List.mem_range.mpr hi, by simpa using q⟩
        rw [e] at k
        exact k
      · refine ⟨rfl, ⟨_, rfl⟩, fun j hj => ?_⟩
        by_cases e : j = i
        · subst e
          exact Decidable.not_not.mp fun z => h1 (int_ne.mpr z)
        · exact hall j (by omega)
    · rintro σ H' ⟨rfl, ⟨v, rfl⟩, hall⟩
      have e : Km513.fits d c = true := by
        unfold Km513.fits
        rw [List.all_eq_true]
        intro j hj
        exact beq_iff_eq.mpr (hall j (List.mem_range.mp hj))
      rw [e] at k
      exact k
/-! ### ahead_of -/
abbrev sAheadOf : Stmt := top 8
def spAheadOf (C : Addr) : Sp := fun vs H Q _ => ∃ (lc ln : Addr) (as : List Addr) (d : Desk) (i : Nat) (l : List Nat), vs = [.ref lc, .int i, .ref ln] ∧ CopiesAt C H lc as d.copies ∧ H ln = some (.lst (nV l)) ∧ i < d.copies.length ∧ (∀ j ∈ l, j < d.copies.length) ∧ l.length ≤ 1000 ∧
  ∀ (r : Addr) (H' : Hp), H r = none → Same H H' → H' r = some (.lst (nV (M.aheadOf d i l))) → Q (.ref r) H'
theorem scAheadOf : FnScope ["copies", "i", "numbers", "j"] ["copies", "i", "numbers"] (defScope sAheadOf) := ⟨rfl, rfl, rfl, by decide +kernel, rfl, by decide +kernel, by decide +kernel⟩
theorem take_snoc {α : Type} {l : List α} {i : Nat} {x : α} (h : l[i]? = some x) : l.take (i + 1) = l.take i ++ [x] := by
  rw [List.take_add_one, h]
  rfl
theorem aheadOf_snoc (d : Desk) (i : Nat) (l : List Nat) (j : Nat) : M.aheadOf d i (l ++ [j]) = M.aheadOf d i l ++ (if (j != i && M.hb (Km513.copy d j) (Km513.copy d i)) = true then [j] else []) := by
  unfold M.aheadOf
  rw [List.filter_append, List.filter_cons, List.filter_nil]
theorem ok_aheadOf (D : Def K mg "ahead_of" sAheadOf ["copies", "i", "numbers"]) (T : Txt K mg C) (G : Cal P w K mg base 2 "has_to_be_ahead" ["copy", "other"] (spHb C)) : Cal P w K mg base 3 "ahead_of" ["copies", "i", "numbers"] (spAheadOf C) := by
  refine D.cal scAheadOf (fun vs H Q E h => ?_) (fun f cdv A outer s H vs Q E hr h => ?_)
  · obtain ⟨lc, ln, as, d, i, l, rfl, _⟩ := h
    rfl
  · obtain ⟨lc, ln, as, d, i, l, rfl, hC, hn, hi, hl, hs, k⟩ := h
    refine ⟨_, pss_one (ps_ret (pe_lc (own := [("j", 3)]) (g := gName 3) (by rfl) scAheadOf.nd (pi_list (pv 2)) (blkOk_by (own := [("j", 3)]) (N := ["copies", "i", "numbers", "j"]) (sc := defScope sAheadOf) (by decide +kernel))
      (fun _ _ _ _ _ => pg_name (i := 3) scAheadOf.nd rfl (Or.inl rfl))
      (fun _ _ _ _ _ => pts_one (PW.pt (pw_and (pt_cmpR op_ne (pv 3) (pv 1) (nomark _)) (pw_and1 (pt_val (pe_callC G hr rfl (pa_cons (pe_ix (ixK K) (pv 0) (pv 3) (fun _ _ => rfl)) (pa_cons (pe_ix (ixK K) (pv 0) (pv 1) (fun _ _ => rfl)) pa_nil))))))))
      (fun _ _ _ _ _ => pv 3))), ?_⟩
    refine ⟨_, rfl, ln, rfl, ⟨_, SqL.of hn⟩, fun r hr0 => lc_list (K := K) (a := ln) (xs := nV l) (fun m H' => Same H H' ∧ H' r = some (.lst (nV (M.aheadOf d i (l.take m))))) ⟨fun b o e => by rw [upd_ne (ne_of_none e hr0)]; exact e, upd_same⟩
      (fun m H' _ ⟨s1, _⟩ => SqL.of (s1 _ _ hn)) ?_ ?_⟩
    · rintro m x H' hx ⟨s1, hr1⟩
      obtain ⟨j, hj, rfl⟩ := nV_inv hx
      have hjl : j < d.copies.length := hl j (List.mem_of_getElem? hj)
      obtain ⟨aj, haj, hvj, cj⟩ := hC.get hjl
      obtain ⟨ai, hai, hvi, ci⟩ := hC.get hi
      have tk := take_snoc hj
      refine ⟨rfl, _, rfl, _, rfl, rfl, _, rfl, ?_⟩
      have fin : ∀ (b : Bool), b = (j != i && M.hb (Km513.copy d j) (Km513.copy d i)) → (if b = true then ∃ acc, H' r = some (.lst acc) ∧ acc.length < sizeLine ∧ (Same H (upd H' r (.lst (acc ++ [V.int (j : Int)]))) ∧ upd H' r (.lst (acc ++ [V.int (j : Int)])) r = some (.lst (nV (M.aheadOf d i (l.take (m + 1)))))) else (Same H H' ∧ H' r = some (.lst (nV (M.aheadOf d i (l.take (m + 1))))))) := by
        rintro b rfl
        rw [tk, aheadOf_snoc]
        refine ite2 (fun h1 => ?_) (fun h1 => ?_)
        · rw [if_pos h1]
          refine ⟨_, hr1, ?_, fun b o e => by rw [upd_ne (ne_of_none e hr0)]; exact s1 b o e, ?_⟩
          · rw [nV_len]
            unfold M.aheadOf
            have q1 := List.length_filter_le (fun j => j != i && M.hb (Km513.copy d j) (Km513.copy d i)) (l.take m)
            rw [List.length_take] at q1
            exact small1000 (by omega)
          · rw [upd_same, nV_app]
            rfl
        · rw [if_neg h1, List.append_nil]
          exact ⟨s1, hr1⟩
      refine ite2 (fun h1 => ?_) (fun h1 => ?_)
      · have q := int_ne.mp h1
        refine ⟨_, rfl, _, rfl, lc, _, _, _, rfl, rfl, SqL.of (s1 _ _ hC.lst), atI_of rfl hvj, _, rfl, _, rfl, lc, _, _, _, rfl, rfl, SqL.of (s1 _ _ hC.lst), atI_of rfl hvi, aj, ai, _, _, rfl, cj.same s1, ci.same s1, _, rfl, ?_⟩
        have z := fin (M.hb (Km513.copy d j) (Km513.copy d i)) (by rw [show (j != i) = true from bne_iff_ne.mpr q, Bool.true_and])
        refine ite2 (fun h2 => ?_) (fun h2 => ?_)
        · rw [if_pos h2] at z
          exact ⟨_, rfl, z⟩
        · rw [if_neg h2] at z
          exact z
      · have q : j = i := Decidable.not_not.mp fun z => h1 (int_ne.mpr z)
        have z := fin false (by rw [show (j != i) = false by simp [q], Bool.false_and])
        rw [if_neg Bool.false_ne_true] at z
        refine iteF ?_
        exact z
    · rintro H' ⟨s1, hr1⟩
      rw [nV_len, List.take_length] at hr1
      exact k r H' hr0 s1 hr1
end
end T
set_option Elab.async false
set_option linter.all false
set_option maxRecDepth 100000
namespace T
open PySem PySem.Spec PyProof.Rows L2 R
open Km513 (Copy Desk)
section
variable {P : Program} {w : World} {K : PySem.W.Frag} {mg : Str → Option Value} {base : Heap} {C : Addr}
theorem Same.upd {H H' : Hp} {r : Addr} {o : HO} (s : Same H H') (h : H r = none) : Same H (upd H' r o) := fun b u e => by
  rw [upd_ne (ne_of_none e h)]
  exact s b u e
/-! ### first_free -/
abbrev sFirst : Stmt := top 9
def optV : Option Nat → V
  | some i => .int (i : Int)
  | none => .non
def spFirst (C : Addr) : Sp := fun vs H Q _ => ∃ (lc ln : Addr) (as : List Addr) (d : Desk) (l : List Nat), vs = [.ref lc, .ref ln] ∧ CopiesAt C H lc as d.copies ∧ H ln = some (.lst (nV l)) ∧ (∀ j ∈ l, j < d.copies.length) ∧ l.length ≤ 1000 ∧
  ∀ (H' : Hp), Same H H' → Q (optV (M.firstFree d l)) H'
theorem scFirst : FnScope ["copies", "left", "i"] ["copies", "left"] (defScope sFirst) := ⟨rfl, rfl, rfl, by decide +kernel, rfl, by decide +kernel, by decide +kernel⟩
theorem split_at {l : List Nat} {m i : Nat} (h : l[m]? = some i) : l = l.take m ++ i :: l.drop (m + 1) := by
  obtain ⟨hm, e⟩ := List.getElem?_eq_some_iff.mp h
  rw [← e, ← List.drop_eq_getElem_cons hm, List.take_append_drop]
theorem ok_first (D : Def K mg "first_free" sFirst ["copies", "left"]) (T : Txt K mg C) (G : Cal P w K mg base 3 "ahead_of" ["copies", "i", "numbers"] (spAheadOf C)) : Cal P w K mg base 4 "first_free" ["copies", "left"] (spFirst C) := by
  refine D.cal scFirst (fun vs H Q E h => ?_) (fun f cdv A outer s H vs Q E hr h => ?_)
  · obtain ⟨lc, ln, as, d, l, rfl, _⟩ := h
    rfl
  · obtain ⟨lc, ln, as, d, l, rfl, hC, hn, hl, hs, k⟩ := h
    refine ⟨_, pss_cons (ps_for PassesOwn.never rfl (pi_list (pv 1)) (pg_name (i := 2) scFirst.nd rfl (Or.inl rfl))
      (pss_one (ps_if (pt_cmpR op_eq (pe_callB call_len_seq (by rfl) T.len PySem.boot_len (pa_cons (pe_callC G hr rfl (pa_cons (pv 0) (pa_cons (pv 2) (pa_cons (pv 1) pa_nil)))) pa_nil)) pe_int (nomark _)) (pss_one (ps_ret (pv 2))) pss_nil))) (pss_one (ps_ret pe_non)), ?_⟩
    refine ⟨_, rfl, ln, rfl, ⟨_, SqL.of hn⟩, for_list (K := K) (a := ln) (xs := nV l) (fun m σ H' => Same H H' ∧ (∃ v, σ = [some (.ref lc), some (.ref ln), v]) ∧ ∀ b ∈ l.take m, ¬ ((M.aheadOf d b l).length == 0) = true)
      ⟨Same.refl H, ⟨none, rfl⟩, fun b hb => by simp at hb⟩ (fun m σ H' _ ⟨s1, _⟩ => SqL.of (s1 _ _ hn)) ?_ ?_⟩
    · rintro m x σ H' hx ⟨s1, ⟨v, rfl⟩, hall⟩
      obtain ⟨i, hi, rfl⟩ := nV_inv hx
      have him : i ∈ l := List.mem_of_getElem? hi
      refine ⟨_, rfl, _, rfl, _, rfl, lc, ln, as, d, i, l, rfl, hC.same s1, s1 _ _ hn, hl i him, hl, hs, fun r H2 hr0 s2 hr2 => ⟨r, _, rfl, .inl (SqL.of hr2), rfl, _, rfl, ?_⟩⟩
      refine ite2 (fun h1 => ?_) (fun h1 => ?_)
      · have e0 : (M.aheadOf d i l).length = 0 := by
          have := V.int.inj (of_decide_eq_true h1)
          rw [nV_len] at this
          omega
        have e : M.firstFree d l = some i := by
          unfold M.firstFree
          rw [List.find?_eq_some_iff_append]
          refine ⟨beq_iff_eq.mpr e0, l.take m, l.drop (m + 1), split_at hi, fun a ha => ?_⟩
          have := hall a ha
          simpa using this
        have q := k H2 (s1.trans s2)
        rw [e] at q
        exact ⟨_, rfl, q⟩
      · refine ⟨s1.trans s2, ⟨_, rfl⟩, fun b hb => ?_⟩
        rw [take_snoc hi] at hb
        rcases List.mem_append.mp hb with hb | hb
        · exact hall b hb
        · rw [List.mem_singleton.mp hb]
          intro z
          have z' := eq_of_beq z
          exact h1 (decide_eq_true (by rw [nV_len, z']; rfl))
    · rintro σ H' ⟨s1, ⟨v, rfl⟩, hall⟩
      rw [nV_len, List.take_length] at hall
      have e : M.firstFree d l = none := by
        unfold M.firstFree
        rw [List.find?_eq_none]
        exact hall
      have q := k H' s1
      rw [e] at q
      exact q
/-! ### order_of -/
abbrev sOrder : Stmt := top 10
def spOrder (C : Addr) : Sp := fun vs H Q _ => ∃ (lc ln : Addr) (as : List Addr) (d : Desk) (l : List Nat), vs = [.ref lc, .ref ln] ∧ M.WF d ∧ CopiesAt C H lc as d.copies ∧ H ln = some (.lst (nV l)) ∧ (∀ j ∈ l, j < d.copies.length) ∧ l.Nodup ∧ l.length ≤ 7 ∧
  match M.orderOf d l with
  | none => ∀ (H' : Hp), Same H H' → Q .non H'
  | some o => ∀ (r : Addr) (H' : Hp), H r = none → Same H H' → H' r = some (.lst (nV o)) → Q (.ref r) H'
theorem scOrder : FnScope ["copies", "numbers", "left", "order", "i"] ["copies", "numbers"] (defScope sOrder) := ⟨rfl, rfl, rfl, by decide +kernel, rfl, by decide +kernel, by decide +kernel⟩
/-- how long the list in a slot is -/
def lenIn (i : Nat) (σ : L2.St) (H : Hp) : Nat := match σ[i]? with
  | some (some (.ref a)) => (match H a with | some (.lst xs) => xs.length | _ => 0)
  | _ => 0
theorem lenIn_at {i : Nat} {σ : L2.St} {H : Hp} {a : Addr} {xs : List V} (h : σ[i]? = some (some (.ref a))) (h2 : H a = some (.lst xs)) : lenIn i σ H = xs.length := by
  unfold lenIn
  rw [h]
  simp only [h2]
theorem lt_by {a b c d : Nat} (h1 : a = c) (h2 : b = d) (h : c < d) : a < b := by omega
theorem erase_cast (l : List Nat) (i : Nat) : ((l.map fun (n : Nat) => (n : Int)).erase (i : Int)).map V.int = nV (l.erase i) := by
  induction l with
  | nil => rfl
  | cons a l ih =>
    rw [List.map_cons, List.erase_cons, List.erase_cons]
    by_cases h : a = i
    · subst h
      rw [if_pos (beq_self_eq_true _), if_pos (beq_self_eq_true _)]
      exact (nV_ints l).symm
    · rw [if_neg (by intro z; have := eq_of_beq z; omega), if_neg (by intro z; have := eq_of_beq z; omega), List.map_cons, ih]
      rfl
theorem ok_order (D : Def K mg "order_of" sOrder ["copies", "numbers"]) (T : Txt K mg C) (G : Cal P w K mg base 4 "first_free" ["copies", "left"] (spFirst C)) : Cal P w K mg base 5 "order_of" ["copies", "numbers"] (spOrder C) := by
  refine D.cal scOrder (fun vs H Q E h => ?_) (fun f cdv A outer s H vs Q E hr h => ?_)
  · obtain ⟨lc, ln, as, d, l, rfl, _⟩ := h
    rfl
  · obtain ⟨lc, ln, as, d, l, rfl, W, hC, hn, hl, hnd, hs, k⟩ := h
    refine ⟨_, pss_cons (ps_set (i := 2) scOrder.nd rfl (Or.inl rfl) (pe_callTy call_list_of (by rfl) T.list (by decide +kernel) (pa_cons (pv 1) pa_nil)))
      (pss_cons (ps_set (i := 3) scOrder.nd rfl (Or.inl rfl) (pe_lst pa_nil))
      (pss_cons (ps_while PassesOwn.never (pt_cmpR op_gt (pe_callB call_len_seq (by rfl) T.len PySem.boot_len (pa_cons (pv 2) pa_nil)) pe_int (nomark _))
        (pss_cons (ps_set (i := 4) scOrder.nd rfl (Or.inl rfl) (pe_callC G hr rfl (pa_cons (pv 0) (pa_cons (pv 2) pa_nil))))
        (pss_cons (ps_if (pt_cmpR op_isN (pv 4) pe_non (nomark _)) (pss_one (ps_ret pe_non)) pss_nil)
        (pss_cons (ps_expr (pe_bm PySem.F.plainAttrs_list PySem.F.slot_list_remove PySem.F.type_list_remove mt_remove (pv 2) (pa_cons (pv 4) pa_nil)))
        (pss_one (ps_expr (pe_bm PySem.F.plainAttrs_list PySem.F.slot_list_append PySem.F.type_list_append mt_append (pv 3) (pa_cons (pv 4) pa_nil))))))))
      (pss_one (ps_ret (pv 3))))), ?_⟩
    refine ⟨_, rfl, ln, _, rfl, .inl (SqL.of hn), fun q hq => ⟨Nat.zero_le _, fun r hr0 => ?_⟩⟩
    have hqr : q ≠ r := fun e => by rw [e, upd_same] at hr0; cases hr0
    have hrH : H r = none := by rw [upd_ne (Ne.symm hqr)] at hr0; exact hr0
    have s0 : Same H (upd (upd H q (.lst (nV l))) r (.lst [])) := Same.upd (Same.upd (Same.refl H) hq) hrH
    refine while_by (fun σ H' => ∃ (v : Option V) (o lf : List Nat), σ = [some (.ref lc), some (.ref ln), some (.ref q), some (.ref r), v] ∧ Same H H' ∧ H' q = some (.lst (nV lf)) ∧ H' r = some (.lst (nV o)) ∧ M.OrdInv d l o lf) (lenIn 2) ⟨none, [], l, rfl, s0, ?_, upd_same, M.ordInv_start hnd hl⟩ ?_ ?_
    · rw [upd_ne hqr, upd_same]
    · rintro σ H' ⟨v, o, lf, rfl, s1, hq1, hr1, I⟩
      refine ⟨_, rfl, q, _, rfl, .inl (SqL.of hq1), _, _, rfl, rfl, _, rfl, ?_⟩
      refine ite2 (fun h1 => ?_) (fun h1 => ?_)
      · have hpos : 0 < lf.length := by
          have := of_decide_eq_true h1
          rw [nV_len] at this
          omega
        have hlen := I.len
        refine ⟨_, rfl, _, rfl, lc, q, as, d, lf, rfl, hC.same s1, hq1, I.lt, by omega, fun H2 s2 => ?_⟩
        cases e : M.firstFree d lf with
        | none =>
          have eo := I.none W hpos e
          rw [eo] at k
          refine ⟨_, rfl, rfl, _, rfl, iteT ?_⟩
          exact k H2 (s1.trans s2)
        | some i =>
          have him := M.firstFree_mem e
          have I2 := I.turn W hs e
          refine ⟨_, rfl, rfl, _, rfl, iteF ?_⟩
          have hq2 := s2 _ _ hq1
          have hr2 := s2 _ _ hr1
          refine ⟨_, rfl, .inl ⟨rfl, _, SqL.of hq2⟩, _, rfl, q, lf.map (fun (n : Nat) => (n : Int)), (i : Int), rfl, rfl, by rw [← nV_ints]; exact hq2, List.mem_map.mpr ⟨i, him, rfl⟩, ?_⟩
          rw [erase_cast]
          have hr3 : (upd H2 q (.lst (nV (lf.erase i)))) r = some (.lst (nV o)) := by rw [upd_ne (Ne.symm hqr)]; exact hr2
          refine ⟨_, rfl, .inl ⟨rfl, _, SqL.of hr3⟩, _, rfl, r, _, _, rfl, rfl, hr3, by rw [nV_len]; exact small1000 (by omega), ?_⟩
          have hq4 : (upd (upd H2 q (.lst (nV (lf.erase i)))) r (.lst (nV o ++ [V.int (i : Int)]))) q = some (.lst (nV (lf.erase i))) := by rw [upd_ne hqr, upd_same]
          refine ⟨⟨_, o ++ [i], lf.erase i, rfl, Same.upd (Same.upd (s1.trans s2) hq) hrH, hq4, ?_, I2⟩, ?_⟩
          · rw [upd_same, nV_app]
            rfl
          · refine lt_by (lenIn_at (i := 2) (a := q) rfl hq4) (lenIn_at (i := 2) (a := q) rfl hq1) ?_
            rw [nV_len, nV_len, List.length_erase_of_mem him]
            omega
      · have hz : lf = [] := by
          apply List.length_eq_zero_iff.mp
          have : ¬ (0 < ((nV lf).length : Int)) := fun z => h1 (decide_eq_true z)
          rw [nV_len] at this
          omega
        subst hz
        have eo := I.done W
        rw [eo] at k
        exact ⟨_, rfl, k r H' hrH s1 hr1⟩
    · rintro σ H' Q1 Q2 h ⟨v, e, p, ys, e1, e2, i, j, e3, e4, kk, e5, q⟩
      exact ⟨v, e, p, ys, e1, e2, i, j, e3, e4, kk, e5, h _ _ q⟩
end
end T
set_option Elab.async false
set_option linter.all false
set_option maxRecDepth 100000
namespace T
open PySem PySem.Spec PyProof.Rows L2 R
open Km513 (Copy Desk Choice)
section
variable {P : Program} {w : World} {K : PySem.W.Frag} {mg : Str → Option Value} {base : Heap} {C : Addr}
/-- a list of lists of whole numbers stands at l -/
structure ChoicesAt (H : Hp) (l : Addr) (as : List Addr) (cs : List Choice) : Prop where
  lst : H l = some (.lst (as.map V.ref))
  len : as.length = cs.length
  at_ : ∀ (j : Nat) (a : Addr) (c : Choice), as[j]? = some a → cs[j]? = some c → H a = some (.lst (nV c))
theorem ChoicesAt.same {H H' : Hp} {l : Addr} {as : List Addr} {cs : List Choice} (h : ChoicesAt H l as cs) (s : Same H H') : ChoicesAt H' l as cs :=
  ⟨s _ _ h.lst, h.len, fun j a c h1 h2 => s _ _ (h.at_ j a c h1 h2)⟩
theorem refs_ne {as : List Addr} {l : List Nat} {a : Addr} (h : a ∈ as) : HO.lst (as.map V.ref) ≠ HO.lst (nV l) := by
  intro e
  have e2 := HO.lst.inj e
  cases as with
  | nil => cases h
  | cons b as =>
    cases l with
    | nil => cases e2
    | cons n l =>
      rw [List.map_cons] at e2
      have := (List.cons.inj e2).1
      cases this
/-- one more -/
theorem ChoicesAt.snoc {H : Hp} {l p : Addr} {as : List Addr} {cs : List Choice} {c : Choice} (h : ChoicesAt H l as cs) (hp : H p = some (.lst (nV c))) (hne : l ≠ p) : ChoicesAt (upd H l (.lst (as.map V.ref ++ [V.ref p]))) l (as ++ [p]) (cs ++ [c]) := by
  have hlen := h.len
  refine ⟨by rw [upd_same, List.map_append]; rfl, by simp [hlen], fun j a c' h1 h2 => ?_⟩
  by_cases hj : j < as.length
  · rw [List.getElem?_append_left hj] at h1
    rw [List.getElem?_append_left (by omega)] at h2
    have e := h.at_ j a c' h1 h2
    rw [upd_ne (ne_of e h.lst (Ne.symm (refs_ne (List.mem_of_getElem? h1))))]
    exact e
  · have hj2 : j = as.length := by
      have := (List.getElem?_eq_some_iff.mp h1).1
      simp at this
      omega
    subst hj2
    rw [List.getElem?_append_right (Nat.le_refl _), Nat.sub_self] at h1
    rw [hlen, List.getElem?_append_right (Nat.le_refl _), Nat.sub_self] at h2
    have e1 : p = a := Option.some.inj h1
    have e2 : c = c' := Option.some.inj h2
    subst e1 e2
    rw [upd_ne (Ne.symm hne)]
    exact hp
/-! ### lengthened -/
abbrev sLen : Stmt := top 15
def spLen (K : PySem.W.Frag) : Sp := fun vs H Q _ => ∃ (l t : Addr) (as : List Addr) (cs : List Choice) (ns : List Nat), vs = [.ref l, .ref t] ∧ ChoicesAt H l as cs ∧ H t = some (.tup (nV ns)) ∧ cs.length * ns.length ≤ 3000 ∧ (∀ c ∈ cs, c.length ≤ 100) ∧
  ∀ (r : Addr) (as' : List Addr) (H' : Hp), H r = none → Same H H' → ChoicesAt H' r as' (M.addTo cs ns) → Q (.ref r) H'
theorem scLen : FnScope ["choices", "numbers", "longer", "choice", "number"] ["choices", "numbers"] (defScope sLen) := ⟨rfl, rfl, rfl, by decide +kernel, rfl, by decide +kernel, by decide +kernel⟩
theorem addTo_snoc (cs : List Choice) (ns : List Nat) (c : Choice) : M.addTo (cs ++ [c]) ns = M.addTo cs ns ++ ns.map fun k => c ++ [k] := by
  unfold M.addTo
  rw [List.flatMap_append, List.flatMap_cons, List.flatMap_nil, List.append_nil]
theorem refs_inv {as : List Addr} {i : Nat} {x : V} (h : (as.map V.ref)[i]? = some x) : ∃ a, as[i]? = some a ∧ x = V.ref a := by
  rw [List.getElem?_map] at h
  cases e : as[i]? with
  | none => rw [e] at h; cases h
  | some a => rw [e] at h; exact ⟨a, rfl, (Option.some.inj h).symm⟩
theorem ok_len (D : Def K mg "lengthened" sLen ["choices", "numbers"]) (T : Txt K mg C) : Cal P w K mg base 1 "lengthened" ["choices", "numbers"] (spLen K) := by
  refine D.cal scLen (fun vs H Q E h => ?_) (fun f cdv A outer s H vs Q E hr h => ?_)
  · obtain ⟨l, t, as, cs, ns, rfl, _⟩ := h
    rfl
  · obtain ⟨l, t, as, cs, ns, rfl, hL, ht, hz, hcl, k⟩ := h
    refine ⟨_, pss_cons (ps_set (i := 2) scLen.nd rfl (Or.inl rfl) (pe_lst pa_nil))
      (pss_cons (ps_for PassesOwn.never rfl (pi_list (pv 0)) (pg_name (i := 3) scLen.nd rfl (Or.inl rfl))
        (pss_one (ps_for PassesOwn.never rfl (pi_tup (pv 1)) (pg_name (i := 4) scLen.nd rfl (Or.inl rfl))
          (pss_one (ps_expr (pe_bm PySem.F.plainAttrs_list PySem.F.slot_list_append PySem.F.type_list_append mt_append (pv 2) (pa_cons (pe_op op_cat (pv 3) (pe_lst (pa_cons (pv 4) pa_nil))) pa_nil)))))))
      (pss_one (ps_ret (pv 2)))), ?_⟩
    refine ⟨Nat.zero_le _, fun r hr0 => ?_⟩
    refine ⟨_, rfl, l, rfl, ⟨_, SqL.of (Same.upd (Same.refl H) hr0 _ _ hL.lst)⟩, for_list (K := K) (a := l) (xs := as.map V.ref)
      (fun m σ H' => Same H H' ∧ ∃ (v3 v4 : Option V) (as' : List Addr), σ = [some (.ref l), some (.ref t), some (.ref r), v3, v4] ∧ ChoicesAt H' r as' (M.addTo (cs.take m) ns))
      ⟨Same.upd (Same.refl H) hr0, none, none, [], rfl, ⟨upd_same, rfl, fun j a c h1 => by simp at h1⟩⟩ (fun m σ H' _ ⟨s1, _⟩ => SqL.of (s1 _ _ hL.lst)) ?_ ?_⟩
    · rintro m x σ H' hx ⟨s1, v3, v4, as', rfl, hR⟩
      obtain ⟨a, ha, rfl⟩ := refs_inv hx
      have hm : m < cs.length := by
        have := (List.getElem?_eq_some_iff.mp ha).1
        have := hL.len
        omega
      have hc : cs[m]? = some cs[m] := List.getElem?_eq_getElem hm
      have hcm : cs[m] ∈ cs := List.getElem_mem hm
      generalize cs[m] = c at hc hcm
      have hac := hL.at_ m a c ha hc
      refine ⟨_, rfl, t, rfl, ⟨_, SqT.of (s1 _ _ ht)⟩, for_tup (K := K) (a := t) (xs := nV ns)
        (fun n σ H' => Same H H' ∧ ∃ (v4 : Option V) (as' : List Addr), σ = [some (.ref l), some (.ref t), some (.ref r), some (.ref a), v4] ∧ ChoicesAt H' r as' (M.addTo (cs.take m) ns ++ (ns.take n).map fun k => c ++ [k]))
        ⟨s1, v4, as', rfl, by simpa using hR⟩ (fun n σ H' _ ⟨s1, _⟩ => SqT.of (s1 _ _ ht)) ?_ ?_⟩
      · rintro n x σ H2 hx ⟨s2, v4', as2, rfl, hR2⟩
        obtain ⟨y, hy, rfl⟩ := nV_inv hx
        have hn : n < ns.length := (List.getElem?_eq_some_iff.mp hy).1
        refine ⟨_, rfl, .inl ⟨rfl, _, SqL.of hR2.lst⟩, _, rfl, _, rfl, by show 1 ≤ sizeLine; decide, fun q hq => ?_⟩
        have hac2 := s2 _ _ hac
        have haq : a ≠ q := ne_of_none hac2 hq
        have hrq : r ≠ q := ne_of_none hR2.lst hq
        refine ⟨a, q, _, _, rfl, rfl, by rw [upd_ne haq]; exact hac2, upd_same, ?_, fun p hp => ?_⟩
        · rw [nV_len]
          have := hcl c hcm
          exact Nat.le_of_lt (small1000 (by show c.length + 1 ≤ 1000; omega))
        have hpq : p ≠ q := fun e => by rw [e, upd_same] at hp; cases hp
        have hp2 : H2 p = none := by rw [upd_ne hpq] at hp; exact hp
        have hrp : r ≠ p := ne_of_none hR2.lst hp2
        have s3 : Same H2 (upd (upd H2 q (.lst [V.int (y : Int)])) p (.lst (nV c ++ [V.int (y : Int)]))) := Same.upd (Same.upd (Same.refl H2) hq) hp2
        have hR3 := hR2.same s3
        have hlen2 := hR2.len
        have hle : as2.length < 3000 := by
          rw [hlen2, List.length_append, M.addTo_len, List.length_map, List.length_take, List.length_take]
          have e1 : min m cs.length = m := by omega
          have e2 : min n ns.length = n := by omega
          rw [e1, e2]
          have : (m + 1) * ns.length ≤ cs.length * ns.length := Nat.mul_le_mul_right _ hm
          rw [Nat.add_mul] at this
          omega
        refine ⟨r, _, _, rfl, rfl, hR3.lst, by rw [List.length_map]; exact Nat.lt_trans hle (by decide), ?_⟩
        refine ⟨Same.upd (s2.trans s3) hr0, _, as2 ++ [p], rfl, ?_⟩
        have e : nV c ++ [V.int (y : Int)] = nV (c ++ [y]) := (nV_app c [y]).symm
        have hpp : (upd (upd H2 q (.lst [V.int (y : Int)])) p (.lst (nV c ++ [V.int (y : Int)]))) p = some (.lst (nV (c ++ [y]))) := by rw [upd_same, e]
        have z := hR3.snoc hpp hrp
        rw [take_snoc hy, List.map_append, ← List.append_assoc]
        exact z
      · rintro σ H2 ⟨s2, v4', as2, rfl, hR2⟩
        refine ⟨s2, _, _, as2, rfl, ?_⟩
        rw [nV_len, List.take_length] at hR2
        rw [take_snoc hc, addTo_snoc]
        exact hR2
    · rintro σ H' ⟨s1, v3, v4, as', rfl, hR⟩
      refine ⟨_, rfl, k r as' H' hr0 s1 ?_⟩
      rw [List.length_map, hL.len, List.take_length] at hR
      exact hR
end
end T
set_option Elab.async false
set_option linter.all false
set_option maxRecDepth 100000
namespace T
open PySem PySem.Spec PyProof.Rows L2 R
open Km513 (Copy Desk Choice)
section
variable {P : Program} {w : World} {K : PySem.W.Frag} {mg : Str → Option Value} {base : Heap} {C : Addr}
/-! ### choices_for -/
abbrev sChF : Stmt := top 16
def bV (l : List Bool) : List V := l.map V.bl
theorem bV_inv {l : List Bool} {i : Nat} {x : V} (h : (bV l)[i]? = some x) : ∃ b, l[i]? = some b ∧ x = V.bl b := by
  unfold bV at h
  rw [List.getElem?_map] at h
  cases e : l[i]? with
  | none => rw [e] at h; cases h
  | some a => rw [e] at h; exact ⟨a, rfl, (Option.some.inj h).symm⟩
theorem bV_at {l : List Bool} {i : Nat} {b : Bool} (h : l[i]? = some b) : (bV l)[i]? = some (V.bl b) := by
  unfold bV
  rw [List.getElem?_map, h]
  rfl
theorem bV_len (l : List Bool) : (bV l).length = l.length := List.length_map ..
def spChF : Sp := fun vs H Q _ => ∃ (l : Addr) (fs : List Bool), vs = [.ref l] ∧ H l = some (.lst (bV fs)) ∧ fs.length ≤ 7 ∧
  ∀ (r : Addr) (as' : List Addr) (H' : Hp), Same H H' → ChoicesAt H' r as' (M.cf fs) → Q (.ref r) H'
theorem scChF : FnScope ["fitting", "choices", "fit"] ["fitting"] (defScope sChF) := ⟨rfl, rfl, rfl, by decide +kernel, rfl, by decide +kernel, by decide +kernel⟩
theorem cf_count : ∀ fs : List Bool, (M.cf fs).length ≤ 3 ^ fs.length
  | [] => Nat.le_refl _
  | b :: bs => by
    have ih := cf_count bs
    show ((M.opts b).flatMap fun k => (M.cf bs).map fun l => k :: l).length ≤ 3 ^ (bs.length + 1)
    rw [Nat.pow_succ]
    cases b
    · show ([2].flatMap fun k => (M.cf bs).map fun l => k :: l).length ≤ _
      rw [List.flatMap_cons, List.flatMap_nil, List.append_nil, List.length_map]
      omega
    · show ([0, 1, 2].flatMap fun k => (M.cf bs).map fun l => k :: l).length ≤ _
      simp only [List.flatMap_cons, List.flatMap_nil, List.append_nil, List.length_append, List.length_map]
      omega
theorem choicesFor_snoc (fs : List Bool) (b : Bool) : M.choicesFor (fs ++ [b]) = M.addTo (M.choicesFor fs) (M.opts b) := by
  unfold M.choicesFor
  rw [List.foldl_append]
  rfl
theorem pow3 {n : Nat} (h : n ≤ 7) : 3 ^ n ≤ 2187 := Nat.le_trans (Nat.pow_le_pow_right (by decide) h) (by decide)
theorem pow3' {n : Nat} (h : n < 7) : 3 ^ n ≤ 729 := Nat.le_trans (Nat.pow_le_pow_right (by decide) (Nat.le_of_lt_succ h)) (by decide)
theorem ok_chF (D : Def K mg "choices_for" sChF ["fitting"]) (T : Txt K mg C) (G : Cal P w K mg base 1 "lengthened" ["choices", "numbers"] (spLen K)) : Cal P w K mg base 2 "choices_for" ["fitting"] spChF := by
  obtain ⟨t0, c0⟩ := T.c0
  obtain ⟨t1, c1⟩ := T.c1
  obtain ⟨t2, c2⟩ := T.c2
  refine D.cal scChF (fun vs H Q E h => ?_) (fun f cdv A outer s H vs Q E hr h => ?_)
  · obtain ⟨l, fs, rfl, _⟩ := h
    rfl
  · obtain ⟨l, fs, rfl, hl, h7, k⟩ := h
    refine ⟨_, pss_cons (ps_set (i := 1) scChF.nd rfl (Or.inl rfl) (pe_lst (pa_cons (pe_lst pa_nil) pa_nil)))
      (pss_cons (ps_for PassesOwn.never rfl (pi_list (pv 0)) (pg_name (i := 2) scChF.nd rfl (Or.inl rfl))
        (pss_one (ps_set (i := 1) scChF.nd rfl (Or.inl rfl) (pe_callC G hr rfl (pa_cons (pv 1) (pa_cons (pe_ifExp (pt_val (pv 2))
          (pe_tup (pa_cons (pe_glob (v := .int 0) (by rfl) c0 ⟨t0, rfl⟩) (pa_cons (pe_glob (v := .int 1) (by rfl) c1 ⟨t1, rfl⟩) (pa_cons (pe_glob (v := .int 2) (by rfl) c2 ⟨t2, rfl⟩) pa_nil))))
          (pe_tup (pa_cons (pe_glob (v := .int 2) (by rfl) c2 ⟨t2, rfl⟩) pa_nil))) pa_nil))))))
      (pss_one (ps_ret (pv 1)))), ?_⟩
    refine ⟨Nat.zero_le _, fun q hq => ⟨by show 1 ≤ sizeLine; decide, fun r hr0 => ?_⟩⟩
    have hrq : r ≠ q := fun e => by rw [e, upd_same] at hr0; cases hr0
    have hrH : H r = none := by rw [upd_ne hrq] at hr0; exact hr0
    have s0 : Same H (upd (upd H q (.lst [])) r (.lst [V.ref q])) := Same.upd (Same.upd (Same.refl H) hq) hrH
    refine ⟨_, rfl, l, rfl, ⟨_, SqL.of (s0 _ _ hl)⟩, for_list (K := K) (a := l) (xs := bV fs)
      (fun m σ H' => Same H H' ∧ ∃ (r : Addr) (v : Option V) (as' : List Addr), σ = [some (.ref l), some (.ref r), v] ∧ ChoicesAt H' r as' (M.choicesFor (fs.take m)))
      ⟨s0, r, none, [q], rfl, ⟨upd_same, rfl, fun j a c h1 h2 => ?_⟩⟩ (fun m σ H' _ ⟨s1, _⟩ => SqL.of (s1 _ _ hl)) ?_ ?_⟩
    · match j, h1, h2 with
      | 0, h1, h2 =>
        have e1 : q = a := Option.some.inj h1
        have e2 : [] = c := Option.some.inj h2
        subst e1 e2
        rw [upd_ne (Ne.symm hrq), upd_same]
        rfl
      | j + 1, h1, _ => simp at h1
    · rintro m x σ H' hx ⟨s1, r1, v, as', rfl, hR⟩
      obtain ⟨b, hb, rfl⟩ := bV_inv hx
      have hm : m < fs.length := (List.getElem?_eq_some_iff.mp hb).1
      have hcnt : (M.choicesFor (fs.take m)).length ≤ 729 := by
        rw [M.choicesFor_eq]
        refine Nat.le_trans (cf_count _) ?_
        rw [List.length_take]
        exact pow3' (by omega)
      have hcl : ∀ c ∈ M.choicesFor (fs.take m), c.length ≤ 100 := by
        intro c hc
        rw [M.choicesFor_eq] at hc
        rw [M.cf_len _ c hc, List.length_take]
        omega
      refine ⟨_, rfl, _, rfl, b, rfl, ?_⟩
      have go : ∀ (tt : Addr) (H2 : Hp), H' tt = none → H2 = upd H' tt (.tup (nV (M.opts b))) → spLen K ([V.ref r1, V.ref tt] ++ []) H2 (fun v H1 => Same H H1 ∧ ∃ (r : Addr) (v2 : Option V) (as' : List Addr), [some (V.ref l), some v, some (V.bl b)] = [some (V.ref l), some (V.ref r), v2] ∧ ChoicesAt H1 r as' (M.choicesFor (fs.take (m + 1)))) E0 := by
        rintro tt H2 htt rfl
        have s2 : Same H' (upd H' tt (.tup (nV (M.opts b)))) := Same.upd (Same.refl H') htt
        refine ⟨r1, tt, as', _, M.opts b, rfl, hR.same s2, upd_same, ?_, hcl, fun r2 as2 H3 _ s3 h3 => ⟨(s1.trans s2).trans s3, r2, _, as2, rfl, ?_⟩⟩
        · have : (M.opts b).length ≤ 3 := by cases b <;> decide
          have := Nat.mul_le_mul hcnt this
          omega
        · rw [take_snoc hb, choicesFor_snoc]
          exact h3
      cases b with
      | true =>
        refine iteT ?_
        exact ⟨by show 3 ≤ sizeLine; decide, fun tt htt => go tt _ htt rfl⟩
      | false =>
        refine iteF ?_
        exact ⟨by show 1 ≤ sizeLine; decide, fun tt htt => go tt _ htt rfl⟩
    · rintro σ H' ⟨s1, r1, v, as', rfl, hR⟩
      refine ⟨_, rfl, k r1 as' H' s1 ?_⟩
      rw [bV_len, List.take_length, M.choicesFor_eq] at hR
      exact hR
/-! ### numbers_with -/
theorem int_eq {a b : Nat} : decide (V.int (a : Int) = V.int (b : Int)) = true ↔ a = b := by
  rw [decide_eq_true_eq]
  exact ⟨fun e => by have := V.int.inj e; omega, fun e => by rw [e]⟩
theorem getD_of {c : Choice} {i k : Nat} (h : c[i]? = some k) : c.getD i 2 = k := by
  rw [List.getD_eq_getElem?_getD, h]
  rfl
theorem sum_cast : ∀ l : List Nat, (l.map fun (n : Nat) => (n : Int)).sum = ((l.sum : Nat) : Int)
  | [] => rfl
  | a :: l => by rw [List.map_cons, List.sum_cons, List.sum_cons, sum_cast l]; omega
theorem filter_snoc (p : Nat → Bool) (m : Nat) : (List.range (m + 1)).filter p = (List.range m).filter p ++ (if p m = true then [m] else []) := by
  rw [List.range_succ, List.filter_append, List.filter_cons, List.filter_nil]
abbrev sDip : Stmt := top 17
def nw (c : Choice) (x : Nat) : List Nat := (List.range c.length).filter fun i => c.getD i 2 == x
theorem nw_of {d : Desk} {c : Choice} (h : c.length = d.copies.length) (x : Nat) : nw c x = Km513.of_ d c x := by
  unfold nw Km513.of_ Km513.numbers
  rw [h]
theorem nw_lt {c : Choice} {x : Nat} : ∀ j ∈ nw c x, j < c.length := fun j hj => List.mem_range.mp (List.mem_filter.mp hj).1
theorem nw_len (c : Choice) (x : Nat) : (nw c x).length ≤ c.length := by
  have := List.length_filter_le (fun i => c.getD i 2 == x) (List.range c.length)
  rw [List.length_range] at this
  exact this
theorem nw_nodup (c : Choice) (x : Nat) : (nw c x).Nodup := List.Nodup.sublist (List.filter_sublist ..) List.nodup_range
def spDip : Sp := fun vs H Q _ => ∃ (lh : Addr) (c : Choice) (x : Nat), vs = [.ref lh, .int x] ∧ H lh = some (.lst (nV c)) ∧ c.length ≤ 7 ∧
  ∀ (r : Addr) (H' : Hp), H r = none → Same H H' → H' r = some (.lst (nV (nw c x))) → Q (.ref r) H'
theorem scDip : FnScope ["choice", "number", "i"] ["choice", "number"] (defScope sDip) := ⟨rfl, rfl, rfl, by decide +kernel, rfl, by decide +kernel, by decide +kernel⟩
theorem ok_dip (D : Def K mg "numbers_with" sDip ["choice", "number"]) (T : Txt K mg C) : Cal P w K mg base 1 "numbers_with" ["choice", "number"] spDip := by
  refine D.cal scDip (fun vs H Q E h => ?_) (fun f cdv A outer s H vs Q E hr h => ?_)
  · obtain ⟨lh, c, x, rfl, _⟩ := h
    rfl
  · obtain ⟨lh, c, x, rfl, hh, h7, k⟩ := h
    refine ⟨_, pss_one (ps_ret (pe_lc (own := [("i", 2)]) (g := gName 2) (by rfl) scDip.nd (pi_range1 rfl T.range (pa_cons (pe_callB call_len_seq (by rfl) T.len PySem.boot_len (pa_cons (pv 0) pa_nil)) pa_nil))
      (blkOk_by (own := [("i", 2)]) (N := ["choice", "number", "i"]) (sc := defScope sDip) (by decide +kernel))
      (fun _ _ _ _ _ => pg_name (i := 2) scDip.nd rfl (Or.inl rfl))
      (fun _ _ _ _ _ => pts_one (pt_cmpR op_eq (pe_ix (ixK K) (pv 0) (pv 2) (fun _ _ => rfl)) (pv 1) (nomark _)))
      (fun _ _ _ _ _ => pv 2))), ?_⟩
    have hal : (nV c).length = c.length := nV_len c
    refine ⟨_, rfl, lh, _, rfl, .inl (SqL.of hh), _, rfl, by omega, ?_, fun r hr0 => lc_range (lo := 0) (n := (nV c).length) (fun m H' => Same H H' ∧ H' r = some (.lst (nV ((List.range m).filter fun i => c.getD i 2 == x)))) ⟨Same.upd (Same.refl H) hr0, upd_same⟩ ?_ ?_⟩
    · rw [hal]; omega
    · rintro m H' hm ⟨s1, hr1⟩
      rw [hal] at hm
      have hcm : c[m]? = some c[m] := List.getElem?_eq_getElem hm
      generalize c[m] = y at hcm
      refine ⟨rfl, _, rfl, _, rfl, lh, _, _, _, rfl, rfl, SqL.of (s1 _ _ hh), atI_of (j := m) (by omega) (nV_at hcm), _, rfl, rfl, _, rfl, ?_⟩
      rw [filter_snoc]
      have e0 : (c.getD m 2 == x) = decide (y = x) := by rw [getD_of hcm]; rfl
      refine ite2 (fun h1 => ?_) (fun h1 => ?_)
      · have q : y = x := int_eq.mp h1
        refine ⟨_, rfl, _, hr1, ?_, Same.upd s1 hr0, ?_⟩
        · rw [nV_len]
          have := List.length_filter_le (fun i => c.getD i 2 == x) (List.range m)
          rw [List.length_range] at this
          exact small1000 (by omega)
        · rw [upd_same, if_pos (by rw [e0]; exact decide_eq_true q), nV_app]
          have e : ((0 : Int) + (m : Int)) = (m : Int) := by omega
          rw [e]
          rfl
      · have q : ¬ y = x := fun z => h1 (int_eq.mpr z)
        rw [if_neg (by rw [e0]; simpa using q), List.append_nil]
        exact ⟨s1, hr1⟩
    · rintro H' ⟨s1, hr1⟩
      rw [hal] at hr1
      exact k r H' hr0 s1 hr1
/-! ### cells_with -/
abbrev sCw : Stmt := top 18
def spCw (C : Addr) : Sp := fun vs H Q _ => ∃ (lc lh : Addr) (as : List Addr) (d : Desk) (c : Choice) (x : Nat), vs = [.ref lc, .ref lh, .int x] ∧ CopiesAt C H lc as d.copies ∧ H lh = some (.lst (nV c)) ∧ c.length = d.copies.length ∧ d.copies.length ≤ 7 ∧
  ∀ (H' : Hp), Same H H' → Q (.int (M.lo d c x)) H'
theorem scCw : FnScope ["copies", "choice", "number", "i"] ["copies", "choice", "number"] (defScope sCw) := ⟨rfl, rfl, rfl, by decide +kernel, rfl, by decide +kernel, by decide +kernel⟩
theorem ok_cw (D : Def K mg "cells_with" sCw ["copies", "choice", "number"]) (T : Txt K mg C) (G : Cal P w K mg base 1 "numbers_with" ["choice", "number"] spDip) : Cal P w K mg base 2 "cells_with" ["copies", "choice", "number"] (spCw C) := by
  refine D.cal scCw (fun vs H Q E h => ?_) (fun f cdv A outer s H vs Q E hr h => ?_)
  · obtain ⟨lc, lh, as, d, c, x, rfl, _⟩ := h
    rfl
  · obtain ⟨lc, lh, as, d, c, x, rfl, hC, hh, hlen, h7, k⟩ := h
    refine ⟨_, pss_one (ps_ret (pe_callB (cr_sum rfl) (by rfl) T.sum (by decide +kernel) (pa_cons (pe_lc (own := [("i", 3)]) (g := gName 3) (by rfl) scCw.nd (pi_list (pe_callC G hr rfl (pa_cons (pv 1) (pa_cons (pv 2) pa_nil))))
      (blkOk_by (own := [("i", 3)]) (N := ["copies", "choice", "number", "i"]) (sc := defScope sCw) (by decide +kernel))
      (fun _ _ _ _ _ => pg_name (i := 3) scCw.nd rfl (Or.inl rfl))
      (fun _ _ _ _ _ => pts_nil)
      (fun _ _ _ _ _ => pe_fldK K (pe_ix (ixK K) (pv 0) (pv 3) (fun _ _ => rfl)) rfl)) pa_nil))), ?_⟩
    refine ⟨_, rfl, _, rfl, lh, c, x, rfl, hh, by omega, fun q H1 hq0 s1 hq => ?_⟩
    refine ⟨q, rfl, ⟨_, SqL.of hq⟩, fun r hr0 => lc_list (K := K) (a := q) (xs := nV (nw c x)) (fun m H' => Same H1 H' ∧ H' r = some (.lst (nV (((nw c x).take m).map fun i => (Km513.copy d i).n)))) ⟨Same.upd (Same.refl H1) hr0, upd_same⟩
      (fun m H' _ ⟨s2, _⟩ => SqL.of (s2 _ _ hq)) ?_ ?_⟩
    · rintro m y H' hy ⟨s2, hr1⟩
      obtain ⟨i, hi, rfl⟩ := nV_inv hy
      have hil : i < d.copies.length := by
        have := nw_lt i (List.mem_of_getElem? hi)
        omega
      obtain ⟨a, ha, hv, dx, hc⟩ := hC.get hil
      have s12 := s1.trans s2
      refine ⟨rfl, ?_⟩
      show (tFld K (tOp (rIxL K) (tVar 0) (tVar 3)) "length") _ H' fun y H4 => ∃ acc, H4 r = some (.lst acc) ∧ acc.length < sizeLine ∧ (Same H1 (upd H4 r (.lst (acc ++ [y]))) ∧ upd H4 r (.lst (acc ++ [y])) r = some (.lst (nV (((nw c x).take (m + 1)).map fun i => (Km513.copy d i).n))))
      refine ⟨_, rfl, _, rfl, lc, _, _, _, rfl, rfl, SqL.of (s12 _ _ hC.lst), atI_of rfl hv, a, C, dx, _, _, rfl, s12 _ _ hc, T.cl, T.nL, cfs_l _, _, hr1, ?_, Same.upd s2 hr0, ?_⟩
      · rw [nV_len, List.length_map, List.length_take]
        have := nw_len c x
        exact small1000 (by omega)
      · rw [upd_same, take_snoc hi, List.map_append, nV_app]
        rfl
    · rintro H' ⟨s2, hr1⟩
      rw [nV_len, List.take_length] at hr1
      refine ⟨r, ((nw c x).map fun i => (Km513.copy d i).n).map (fun (n : Nat) => (n : Int)), rfl, SqL.of (by rw [← nV_ints]; exact hr1), ?_⟩
      rw [sum_cast]
      have q := k H' (s1.trans s2)
      unfold M.lo at q
      rw [M.lengths_eq, ← nw_of hlen] at q
      exact q
end
end T
set_option Elab.async false
set_option linter.all false
set_option maxRecDepth 100000
namespace T
open PySem PySem.Spec PyProof.Rows L2 R
open Km513 (Copy Desk Choice)
section
variable {P : Program} {w : World} {K : PySem.W.Frag} {mg : Str → Option Value} {base : Heap} {C : Addr}
/-! ### may_be_made -/
abbrev sMay : Stmt := top 19
def spMay (C : Addr) : Sp := fun vs H Q _ => ∃ (lc lh : Addr) (as : List Addr) (d : Desk) (c : Choice), vs = [.ref lc, .ref lh, .int d.spare] ∧ M.WF d ∧ CopiesAt C H lc as d.copies ∧ H lh = some (.lst (nV c)) ∧ c.length = d.copies.length ∧
  ∀ (H' : Hp), Same H H' → Q (.bl (M.mayP d c)) H'
theorem scMay : FnScope ["copies", "choice", "room"] ["copies", "choice", "room"] (defScope sMay) := ⟨rfl, rfl, rfl, by decide +kernel, rfl, by decide +kernel, by decide +kernel⟩
theorem ok_may (D : Def K mg "may_be_made" sMay ["copies", "choice", "room"]) (T : Txt K mg C) (G1 : Cal P w K mg base 2 "cells_with" ["copies", "choice", "number"] (spCw C)) (G2 : Cal P w K mg base 1 "numbers_with" ["choice", "number"] spDip)
    (G3 : Cal P w K mg base 5 "order_of" ["copies", "numbers"] (spOrder C)) : Cal P w K mg base 6 "may_be_made" ["copies", "choice", "room"] (spMay C) := by
  obtain ⟨t1, c1⟩ := T.c1
  obtain ⟨t0, c0⟩ := T.c0
  refine D.cal scMay (fun vs H Q E h => ?_) (fun f cdv A outer s H vs Q E hr h => ?_)
  · obtain ⟨lc, lh, as, d, c, rfl, _⟩ := h
    rfl
  · obtain ⟨lc, lh, as, d, c, rfl, W, hC, hh, hlen, k⟩ := h
    have h7 := W.cl
    refine ⟨_, pss_cons (ps_if (pt_cmpR op_gt (pe_callC G1 (hr.mono (by decide)) rfl (pa_cons (pv 0) (pa_cons (pv 1) (pa_cons (pe_glob (v := .int 1) (by rfl) c1 ⟨t1, rfl⟩) pa_nil)))) (pv 2) (nomark _)) (pss_one (ps_ret pe_bl)) pss_nil)
      (pss_one (ps_ret (pe_cmpR op_notN (pe_callC G3 hr rfl (pa_cons (pv 0) (pa_cons (pe_callC G2 (hr.mono (by decide)) rfl (pa_cons (pv 1) (pa_cons (pe_glob (v := .int 0) (by rfl) c0 ⟨t0, rfl⟩) pa_nil))) pa_nil))) pe_non (nomark _)))), ?_⟩
    refine ⟨_, rfl, _, rfl, lc, lh, as, d, c, 1, rfl, hC, hh, hlen, h7, fun H1 s1 => ?_⟩
    refine ⟨_, rfl, _, _, rfl, rfl, _, rfl, ?_⟩
    refine ite2 (fun h1 => ?_) (fun h1 => ?_)
    · have q := of_decide_eq_true h1
      have e : M.mayP d c = false := by
        unfold M.mayP
        rw [decide_eq_false (by omega), Bool.false_and]
      rw [e] at k
      exact k H1 s1
    · have q : ¬ ((d.spare : Int) < (M.lo d c 1 : Int)) := fun z => h1 (decide_eq_true z)
      have e : M.mayP d c = Km513.noRing d (Km513.of_ d c 0) := by
        unfold M.mayP
        rw [decide_eq_true (by omega), Bool.true_and]
      rw [e, ← M.orderOf_isSome] at k
      refine ⟨_, rfl, _, rfl, lh, c, 0, rfl, s1 _ _ hh, by omega, fun r H2 hr0 s2 hr2 => ?_⟩
      rw [nw_of hlen] at hr2
      have s12 := s1.trans s2
      refine ⟨lc, r, as, d, Km513.of_ d c 0, rfl, W, hC.same s12, hr2, M.of_lt, ?_, ?_, ?_⟩
      · exact List.Nodup.sublist (List.filter_sublist ..) List.nodup_range
      · unfold Km513.of_ Km513.numbers
        have := List.length_filter_le (fun i => c.getD i 2 == 0) (List.range d.copies.length)
        rw [List.length_range] at this
        omega
      · cases eq : M.orderOf d (Km513.of_ d c 0) with
        | none =>
          rw [eq] at k
          exact fun H3 s3 => ⟨rfl, k H3 (s12.trans s3)⟩
        | some o =>
          rw [eq] at k
          exact fun r3 H3 _ s3 _ => ⟨rfl, k H3 (s12.trans s3)⟩
/-! ### rank -/
abbrev sRank : Stmt := top 20
def spRank (C : Addr) : Sp := fun vs H Q _ => ∃ (lc lh : Addr) (as : List Addr) (d : Desk) (c : Choice), vs = [.ref lc, .ref lh] ∧ CopiesAt C H lc as d.copies ∧ H lh = some (.lst (nV c)) ∧ c.length = d.copies.length ∧ d.copies.length ≤ 7 ∧
  ∀ (r : Addr) (H' : Hp), H r = none → Same H H' → H' r = some (.tup [.int (M.lo d c 2), .int (M.lo d c 1), .ref lh]) → Q (.ref r) H'
theorem scRank : FnScope ["copies", "choice"] ["copies", "choice"] (defScope sRank) := ⟨rfl, rfl, rfl, by decide +kernel, rfl, by decide +kernel, by decide +kernel⟩
theorem ok_rank (D : Def K mg "rank" sRank ["copies", "choice"]) (T : Txt K mg C) (G : Cal P w K mg base 2 "cells_with" ["copies", "choice", "number"] (spCw C)) : Cal P w K mg base 3 "rank" ["copies", "choice"] (spRank C) := by
  obtain ⟨t1, c1⟩ := T.c1
  obtain ⟨t2, c2⟩ := T.c2
  refine D.cal scRank (fun vs H Q E h => ?_) (fun f cdv A outer s H vs Q E hr h => ?_)
  · obtain ⟨lc, lh, as, d, c, rfl, _⟩ := h
    rfl
  · obtain ⟨lc, lh, as, d, c, rfl, hC, hh, hlen, h7, k⟩ := h
    refine ⟨_, pss_one (ps_ret (pe_tup (pa_cons (pe_callC G hr rfl (pa_cons (pv 0) (pa_cons (pv 1) (pa_cons (pe_glob (v := .int 2) (by rfl) c2 ⟨t2, rfl⟩) pa_nil))))
      (pa_cons (pe_callC G hr rfl (pa_cons (pv 0) (pa_cons (pv 1) (pa_cons (pe_glob (v := .int 1) (by rfl) c1 ⟨t1, rfl⟩) pa_nil)))) (pa_cons (pv 1) pa_nil))))), ?_⟩
    refine ⟨_, rfl, _, rfl, lc, lh, as, d, c, 2, rfl, hC, hh, hlen, h7, fun H1 s1 => ?_⟩
    refine ⟨_, rfl, _, rfl, lc, lh, as, d, c, 1, rfl, hC.same s1, s1 _ _ hh, hlen, h7, fun H2 s2 => ?_⟩
    refine ⟨_, rfl, by show 3 ≤ sizeLine; decide, fun r hr0 => ?_⟩
    exact k r _ ((s1.trans s2).free hr0) (Same.upd (s1.trans s2) ((s1.trans s2).free hr0)) upd_same
/-! ### best_choice -/
abbrev sBc : Stmt := top 21
def spBc (C : Addr) : Sp := fun vs H Q _ => ∃ (lc lf : Addr) (as : List Addr) (d : Desk), vs = [.ref lc, .ref lf, .int d.spare] ∧ M.WF d ∧ CopiesAt C H lc as d.copies ∧ H lf = some (.lst (bV (M.fitsL d))) ∧
  ∀ (r : Addr) (H' : Hp), Same H H' → H' r = some (.lst (nV (M.bestP d))) → Q (.ref r) H'
theorem scBc : FnScope ["copies", "fitting", "room", "best", "least", "choice", "ranked", "i"] ["copies", "fitting", "room"] (defScope sBc) := ⟨rfl, rfl, rfl, by decide +kernel, rfl, by decide +kernel, by decide +kernel⟩
theorem lex_cast : ∀ a b : List Nat, HT.lexLt (a.map fun (n : Nat) => (n : Int)) (b.map fun (n : Nat) => (n : Int)) = M.lexLt a b
  | [], [] => rfl
  | [], _ :: _ => rfl
  | _ :: _, [] => rfl
  | a :: as, b :: bs => by
    rw [List.map_cons, List.map_cons, HT.lexLt_cons, lex_cast as bs, show M.lexLt (a :: as) (b :: bs) = (decide (a < b) || (a == b && M.lexLt as bs)) from rfl]
    by_cases h : a = b
    · subst h
      rw [if_pos rfl]
      simp
    · rw [if_neg (by omega)]
      have e : (a == b) = false := beq_eq_false_iff_ne.mpr h
      rw [e, Bool.false_and, Bool.or_false, decide_eq_decide]
      omega
theorem lt3_rank (d : Desk) (c m : Choice) : lt3 (M.lo d c 2) (M.lo d c 1) (c.map fun (n : Nat) => (n : Int)) (M.lo d m 2) (M.lo d m 1) (m.map fun (n : Nat) => (n : Int)) = M.rankLt d c m := by
  unfold lt3 M.rankLt
  rw [lex_cast]
  by_cases h : M.lo d c 2 = M.lo d m 2
  · rw [if_pos (by rw [h])]
    by_cases h1 : M.lo d c 1 = M.lo d m 1
    · rw [if_pos (by rw [h1]), h, h1]
      simp
    · rw [if_neg (by omega), h]
      have e : (M.lo d c 1 == M.lo d m 1) = false := beq_eq_false_iff_ne.mpr h1
      rw [e]
      simp
  · rw [if_neg (by omega)]
    have e : (M.lo d c 2 == M.lo d m 2) = false := beq_eq_false_iff_ne.mpr h
    rw [e]
    simp
theorem ok_bc (D : Def K mg "best_choice" sBc ["copies", "fitting", "room"]) (T : Txt K mg C) (G1 : Cal P w K mg base 3 "rank" ["copies", "choice"] (spRank C)) (G2 : Cal P w K mg base 2 "choices_for" ["fitting"] spChF)
    (G3 : Cal P w K mg base 6 "may_be_made" ["copies", "choice", "room"] (spMay C)) : Cal P w K mg base 7 "best_choice" ["copies", "fitting", "room"] (spBc C) := by
  obtain ⟨t2, c2⟩ := T.c2
  refine D.cal scBc (fun vs H Q E h => ?_) (fun f cdv A outer s H vs Q E hr h => ?_)
  · obtain ⟨lc, lf, as, d, rfl, _⟩ := h
    rfl
  · obtain ⟨lc, lf, as, d, rfl, W, hC, hf, k⟩ := h
    have h7 := W.cl
    refine ⟨_, pss_cons (ps_setLc (i := 3) (own := [("i", 7)]) (g := gName 7) (by rfl) scBc.nd rfl rfl (sw_true rfl rfl rfl (by decide +kernel)) (pi_range1 rfl T.range (pa_cons (pe_callB call_len_seq (by rfl) T.len PySem.boot_len (pa_cons (pv 0) pa_nil)) pa_nil))
        (blkOk_by (own := [("i", 7)]) (N := ["copies", "fitting", "room", "best", "least", "choice", "ranked", "i"]) (sc := defScope sBc) (by decide +kernel))
        (fun _ _ _ _ _ => pg_name (i := 7) scBc.nd rfl (Or.inl rfl)) (fun _ _ _ _ _ => pts_nil) (fun _ _ _ _ _ => pe_glob (v := .int 2) (by rfl) c2 ⟨t2, rfl⟩))
      (pss_cons (ps_set (i := 4) scBc.nd rfl (Or.inl rfl) (pe_callC G1 (hr.mono (by decide)) rfl (pa_cons (pv 0) (pa_cons (pv 3) pa_nil))))
      (pss_cons (ps_for PassesOwn.never rfl (pi_list (pe_callC G2 (hr.mono (by decide)) rfl (pa_cons (pv 1) pa_nil))) (pg_name (i := 5) scBc.nd rfl (Or.inl rfl))
        (pss_cons (ps_set (i := 6) scBc.nd rfl (Or.inl rfl) (pe_callC G1 (hr.mono (by decide)) rfl (pa_cons (pv 0) (pa_cons (pv 5) pa_nil))))
        (pss_one (ps_if (PW.pt (pw_and (pt_cmpR (op_lt3 (hu_of hr)) (pv 6) (pv 4) (nomark _)) (pw_and1 (pt_val (pe_callC G3 hr rfl (pa_cons (pv 0) (pa_cons (pv 5) (pa_cons (pv 2) pa_nil))))))))
          (pss_cons (ps_set (i := 3) scBc.nd rfl (Or.inl rfl) (pv 5)) (pss_one (ps_set (i := 4) scBc.nd rfl (Or.inl rfl) (pv 6)))) pss_nil))))
      (pss_one (ps_ret (pv 3))))), ?_⟩
    have hal : (as.map V.ref).length = d.copies.length := by rw [List.length_map, hC.len]
    refine ⟨_, rfl, lc, _, rfl, .inl (SqL.of hC.lst), _, rfl, by omega, ?_, fun b hb0 => lc_range (lo := 0) (n := (as.map V.ref).length) (fun m H' => Same H H' ∧ H' b = some (.lst (nV (List.replicate m 2)))) ⟨Same.upd (Same.refl H) hb0, upd_same⟩ ?_ ?_⟩
    · rw [hal]; omega
    · rintro m H' hm ⟨s1, hr1⟩
      refine ⟨rfl, ?_⟩
      show ∃ acc, H' b = some (.lst acc) ∧ acc.length < sizeLine ∧ (Same H (upd H' b (.lst (acc ++ [V.int 2]))) ∧ upd H' b (.lst (acc ++ [V.int 2])) b = some (.lst (nV (List.replicate (m + 1) 2))))
      refine ⟨_, hr1, ?_, Same.upd s1 hb0, ?_⟩
      · rw [nV_len, List.length_replicate]
        exact small1000 (by omega)
      · rw [upd_same, List.replicate_succ', nV_app]
        rfl
    rintro H1 ⟨s1, hb1⟩
    rw [hal] at hb1
    have e2 : List.replicate d.copies.length 2 = M.all2 d := by
      unfold M.all2
      rw [List.map_const']
    rw [e2] at hb1
    have l2 : (M.all2 d).length = d.copies.length := List.length_map ..
    refine ⟨_, rfl, _, rfl, lc, b, as, d, M.all2 d, rfl, hC.same s1, hb1, l2, h7, fun q H2 hq1 s2 hq2 => ?_⟩
    have s12 := s1.trans s2
    refine ⟨_, rfl, lf, M.fitsL d, rfl, s12 _ _ hf, by rw [show (M.fitsL d).length = d.copies.length from List.length_map ..]; exact h7, fun z bs H3 s3 hz => ?_⟩
    have s13 := s12.trans s3
    refine ⟨z, rfl, ⟨_, SqL.of hz.lst⟩, for_list (K := K) (a := z) (xs := bs.map V.ref)
      (fun m σ H' => Same H3 H' ∧ ∃ (lb lq : Addr) (mc : Choice) (v5 v6 v7 : Option V), σ = [some (.ref lc), some (.ref lf), some (.int d.spare), some (.ref lb), some (.ref lq), v5, v6, v7] ∧ H' lb = some (.lst (nV mc)) ∧ H' lq = some (.tup [.int (M.lo d mc 2), .int (M.lo d mc 1), .ref lb]) ∧ mc.length = d.copies.length ∧
        mc = ((M.cf (M.fitsL d)).take m).foldl (M.bestStep d) (M.all2 d))
      ⟨Same.refl H3, b, q, M.all2 d, none, none, none, rfl, s3 _ _ (s2 _ _ hb1), s3 _ _ hq2, l2, rfl⟩ (fun m σ H' _ ⟨s4, _⟩ => SqL.of (s4 _ _ hz.lst)) ?_ ?_⟩
    · rintro m x σ H4 hx ⟨s4, lb, lq, mc, v5, v6, v7, rfl, hlb, hlq, hml, hmc⟩
      obtain ⟨a, ha, rfl⟩ := refs_inv hx
      have hzl := hz.len
      have hm : m < (M.cf (M.fitsL d)).length := by
        have := (List.getElem?_eq_some_iff.mp ha).1
        omega
      have hcm : (M.cf (M.fitsL d))[m]? = some (M.cf (M.fitsL d))[m] := List.getElem?_eq_getElem hm
      generalize (M.cf (M.fitsL d))[m] = c at hcm
      have hcin := List.mem_of_getElem? hcm
      have hcl := M.cf_fits_len hcin
      have hac := s4 _ _ (hz.at_ m a c ha hcm)
      have s14 := s13.trans s4
      refine ⟨_, rfl, _, rfl, lc, a, as, d, c, rfl, hC.same s14, hac, hcl, h7, fun q2 H5 hq5 s5 hq6 => ?_⟩
      have s15 := s14.trans s5
      refine ⟨_, rfl, _, rfl, q2, lq, a, lb, _, _, _, _, c.map (fun (n : Nat) => (n : Int)), mc.map (fun (n : Nat) => (n : Int)), rfl, rfl, SqT.of hq6, SqT.of (s5 _ _ hlq), SqL.of (by rw [← nV_ints]; exact s5 _ _ hac), SqL.of (by rw [← nV_ints]; exact s5 _ _ hlb), by rw [List.length_map, List.length_map]; omega, _, rfl, ?_⟩
      rw [lt3_rank]
      have stp : ((M.cf (M.fitsL d)).take (m + 1)).foldl (M.bestStep d) (M.all2 d) = M.bestStep d mc c := by
        rw [take_snoc hcm, List.foldl_append, ← hmc]
        rfl
      refine ite2 (fun h1 => ?_) (fun h1 => ?_)
      · refine ⟨_, rfl, _, rfl, _, rfl, lc, a, as, d, c, rfl, W, hC.same s15, s5 _ _ hac, hcl, fun H6 s6 => ⟨_, rfl, ?_⟩⟩
        have s46 := (s4.trans s5).trans s6
        refine ite2 (fun h2 => ?_) (fun h2 => ?_)
        · refine ⟨_, rfl, _, rfl, s46, a, q2, c, _, _, _, rfl, s6 _ _ (s5 _ _ hac), s6 _ _ hq6, hcl, ?_⟩
          rw [stp]
          unfold M.bestStep
          rw [if_pos (by rw [h1, h2]; rfl)]
        · refine ⟨s46, lb, lq, mc, _, _, _, rfl, s6 _ _ (s5 _ _ hlb), s6 _ _ (s5 _ _ hlq), hml, ?_⟩
          rw [stp]
          unfold M.bestStep
          rw [if_neg (by rw [Bool.and_eq_true]; exact fun z => h2 z.2)]
      · refine iteF ?_
        refine ⟨s4.trans s5, lb, lq, mc, _, _, _, rfl, s5 _ _ hlb, s5 _ _ hlq, hml, ?_⟩
        rw [stp]
        unfold M.bestStep
        rw [if_neg (by rw [Bool.and_eq_true]; exact fun z => h1 z.1)]
    · rintro σ H4 ⟨s4, lb, lq, mc, v5, v6, v7, rfl, hlb, hlq, hml, hmc⟩
      rw [List.length_map, hz.len, List.take_length] at hmc
      refine ⟨_, rfl, k lb H4 (s13.trans s4) ?_⟩
      rw [hmc] at hlb
      exact hlb
end
end T
set_option Elab.async false
set_option linter.all false
set_option maxRecDepth 100000
namespace T
open PySem PySem.Spec PyProof.Rows L2 R
open Km513 (Copy Desk Choice)
/-! ### tests that ask for less are asked for less -/
def MonE (t : TE) : Prop := ∀ σ H Q Q', (∀ v H1, Q v H1 → Q' v H1) → t σ H Q → t σ H Q'
def MonT (t : TT) : Prop := ∀ σ H Q Q', (∀ b H1, Q b H1 → Q' b H1) → t σ H Q → t σ H Q'
def MonR (r : R2) : Prop := ∀ x y H Q Q', (∀ v H1, Q v H1 → Q' v H1) → r x y H Q → r x y H Q'
theorem monE_var (i : Nat) : MonE (tVar i) := fun σ H Q Q' h ⟨v, e, q⟩ => ⟨v, e, h _ _ q⟩
theorem monE_c (v : V) : MonE (tC v) := fun σ H Q Q' h q => h _ _ q
theorem monE_op {r : R2} {a b : TE} (hr : MonR r) (ha : MonE a) (hb : MonE b) : MonE (tOp r a b) := fun σ H Q Q' h q => ha σ H _ _ (fun x H1 q1 => hb σ H1 _ _ (fun y H2 q2 => hr _ _ _ _ _ h q2) q1) q
theorem monT_test {t : TE} (h : MonE t) : MonT (tTest t) := fun σ H Q Q' hq q => h σ H _ _ (fun v H1 ⟨k, e, z⟩ => ⟨k, e, hq _ _ z⟩) q
theorem monT_and {t u : TT} (h1 : MonT t) (h2 : MonT u) : MonT (tAnd t u) := fun σ H Q Q' hq q => h1 σ H _ _ (fun c H1 z => by
  cases c with
  | true => exact iteT (h2 _ _ _ _ hq (by rwa [if_pos rfl] at z))
  | false => exact iteF (hq _ _ (by rwa [if_neg Bool.false_ne_true] at z))) q
theorem monR_rI0 {g : Int → Int → V} : MonR (rI0 g) := fun x y H Q Q' h ⟨i, j, e1, e2, q⟩ => ⟨i, j, e1, e2, h _ _ q⟩
theorem monR_ixL {K : PySem.W.Frag} : MonR (rIxL K) := fun x y H Q Q' h ⟨p, xs, i, v, e1, e2, e3, e4, q⟩ => ⟨p, xs, i, v, e1, e2, e3, e4, h _ _ q⟩
theorem monR_eq : MonR rEq := fun x y H Q Q' h ⟨e, q⟩ => ⟨e, h _ _ q⟩
theorem monE_len {K : PySem.W.Frag} {i : Nat} : MonE (tCB (fun xs H Q => ∃ p ys, xs = [V.ref p] ∧ (SqL K H p ys ∨ SqT K H p ys) ∧ Q (.int ys.length) H) (tCons (tVar i) tNil)) := fun σ H Q Q' h ⟨v, e, p, ys, e1, e2, q⟩ => ⟨v, e, p, ys, e1, e2, h _ _ q⟩
section
variable {P : Program} {w : World} {K : PySem.W.Frag} {mg : Str → Option Value} {base : Heap} {C : Addr}
/-! ### a class of the text, made -/
structure MkC (P : Program) (w : World) (K : PySem.W.Frag) (mg : Str → Option Value) (base : Heap) (k : Nat) (C : Addr) (x : Str) (ps : List Str) (sp : Sp) : Prop where
  ex : ∃ (f : Addr) (fd : FuncData), Mk K C f ∧ FnOk P w K mg base CX0 k f fd ps sp ∧ mg x = some (.ref C) ∧ Binds K fd ps []
theorem pe_makeC {X : Cx} {k : Nat} {ps : List Str} {sp : Sp} {x : Str} {p pos : Pos} {e : Expr} {es : List Expr} {t : TA} (c : MkC X.prog X.w X.K X.mg X.base k C x ps sp) (hr : Room (k + 1) X.A) (hg : Gl X x) (ha : PA X (e :: es) t) (hdb : (x == ("__debug__" : Str)) = false := by decide)
    (he : starEach (e :: es) X.env = (false, eval e X.env) :: starEach es X.env := by rfl) (hpl : (backTo pos (starEach es X.env)).any (·.1) = false := by rfl) :
    PE X (.Call (.Name x p) (e :: es) [] pos) (tMake C sp [] E0 t) := by
  obtain ⟨f, fd, Mm, F, m, b⟩ := c.ex
  exact pe_make Mm F hr hg m b .nil pass0 ha hdb he hpl
abbrev sInitC : Stmt := inClass (top 2) 0
def spInitC (C : Addr) : Sp := fun vs H Q _ => ∃ (p dx : Addr) (f t n : Nat), vs = [.ref p, .int f, .int t, .int n] ∧ H p = some (.ins C dx []) ∧ ∀ H' : Hp, CopyAt C H' p ⟨f, t, n⟩ → (∀ b o, H b = some o → b ≠ p → H' b = some o) → Q .non H'
theorem scInitC : FnScope ["self", "source", "target", "length"] ["self", "source", "target", "length"] (defScope sInitC) := ⟨rfl, rfl, rfl, by decide +kernel, rfl, by decide +kernel, by decide +kernel⟩
theorem ok_initC {f : Addr} {fd : FuncData} (F : Fun K "__init__" "Copy.__init__" sInitC f fd) (T : Txt K mg C) : FnOk P w K mg base CX0 1 f fd ["self", "source", "target", "length"] (spInitC C) := by
  refine F.ok scInitC (fun vs H Q E h => ?_) (fun cdv A outer s H vs Q E hr h => ?_)
  · obtain ⟨p, dx, f, t, n, rfl, _⟩ := h
    rfl
  · obtain ⟨p, dx, f, t, n, rfl, hp, k⟩ := h
    refine ⟨_, pss_cons (ps_fld (pv 0) (pv 1) rfl) (pss_cons (ps_fld (pv 0) (pv 2) rfl) (pss_one (ps_fld (pv 0) (pv 3) rfl))), ?_⟩
    refine ⟨_, rfl, _, rfl, p, C, dx, [], rfl, hp, T.cl, T.nS, (by show 0 < 1000; decide), ?_⟩
    refine ⟨_, rfl, _, rfl, p, C, dx, _, rfl, upd_same, T.cl, T.nT, (by show 1 < 1000; decide), ?_⟩
    refine ⟨_, rfl, _, rfl, p, C, dx, _, rfl, upd_same, T.cl, T.nL, (by show 2 < 1000; decide), ?_⟩
    refine k _ ⟨dx, upd_same⟩ fun b o e hb => ?_
    rw [upd_ne hb, upd_ne hb, upd_ne hb]
    exact e
/-- Copy(f, t, n) -/
theorem mk_copy {H : Hp} {Q : VK} {f t n : Nat} (k : ∀ (x : Addr) (H' : Hp), H x = none → Same H H' → CopyAt C H' x ⟨f, t, n⟩ → Q (.ref x) H') :
    ∀ x dx, H x = none → H dx = none → dx ≠ x → spInitC C (.ref x :: ([V.int f, V.int t, V.int n] ++ [])) (upd (upd H dx (.own x)) x (.ins C dx [])) (fun v H2 => v = .non ∧ Q (.ref x) H2) E0 := by
  intro x dx hx hdx hne
  exact ⟨x, dx, f, t, n, rfl, upd_same, fun H' hc kp => ⟨rfl, k x H' hx (Same.made hx hdx kp) hc⟩⟩
/-! ### stretch -/
abbrev sStr : Stmt := top 33
def spStr : Sp := fun vs H Q _ => ∃ (lo lw : Addr) (d : Desk) (f t : Nat), vs = [.ref lo, .ref lw, .int f, .int t] ∧ M.WF d ∧ H lo = some (.lst (nV d.old)) ∧ H lw = some (.lst (nV d.new)) ∧ Q (.int (Km513.alike d Km513.CELLS f t : Nat)) H
theorem scStr : FnScope ["old", "wanted", "f", "t", "n"] ["old", "wanted", "f", "t"] (defScope sStr) := ⟨rfl, rfl, rfl, by decide +kernel, rfl, by decide +kernel, by decide +kernel⟩
/-- what lies between the whole number in a slot and 16 -/
def upTo (i : Nat) (σ : L2.St) (_ : Hp) : Nat := match σ[i]? with
  | some (some (.int z)) => 16 - z.toNat
  | _ => 0
theorem ok_str (D : Def K mg "stretch" sStr ["old", "wanted", "f", "t"]) (T : Txt K mg C) : Cal P w K mg base 1 "stretch" ["old", "wanted", "f", "t"] spStr := by
  refine D.cal scStr (fun vs H Q E h => ?_) (fun fa cdv A outer s H vs Q E hr h => ?_)
  · obtain ⟨lo, lw, d, f, t, rfl, _⟩ := h
    rfl
  · obtain ⟨lo, lw, d, f, t, rfl, W, hlo, hlw, k⟩ := h
    refine ⟨_, pss_cons (ps_set (i := 4) scStr.nd rfl (Or.inl rfl) pe_int)
      (pss_cons (ps_while PassesOwn.never (PW.pt (pw_and (pt_cmpR op_lt (pe_op op_add (pv 2) (pv 4)) (pe_callB call_len_seq (by rfl) T.len PySem.boot_len (pa_cons (pv 0) pa_nil)) (nomark _))
          (pw_and (pt_cmpR op_lt (pe_op op_add (pv 3) (pv 4)) (pe_callB call_len_seq (by rfl) T.len PySem.boot_len (pa_cons (pv 1) pa_nil)) (nomark _))
          (pw_and1 (pt_cmpR op_eq (pe_ix ix_list (pv 0) (pe_op op_add (pv 2) (pv 4)) (fun _ _ => rfl)) (pe_ix ix_list (pv 1) (pe_op op_add (pv 3) (pv 4)) (fun _ _ => rfl)) (nomark _))))))
        (pss_one (ps_aug (i := 4) scStr.nd rfl (Or.inl rfl) pe_int ip_add)))
      (pss_one (ps_ret (pv 4)))), ?_⟩
    have ho := W.ol
    refine while_by (fun σ H' => H' = H ∧ ∃ n : Nat, σ = [some (.ref lo), some (.ref lw), some (.int f), some (.int t), some (.int n)] ∧ M.StrInv d f t n) (upTo 4) ⟨rfl, 0, rfl, M.strInv_start d f t⟩ ?_ ?_
    · rintro σ H' ⟨rfl, n, rfl, I⟩
      refine ⟨_, rfl, _, rfl, _, _, rfl, rfl, _, rfl, lo, _, rfl, .inl (SqL.of hlo), _, _, rfl, rfl, _, rfl, ?_⟩
      have fin : ∀ b : Bool, b = decide (f + n < d.old.length ∧ t + n < d.new.length ∧ Km513.at_ d.old (f + n) = Km513.at_ d.new (t + n)) → b = false → ∃ v, ([some (V.ref lo), some (V.ref lw), some (V.int f), some (V.int t), some (V.int n)] : L2.St)[4]? = some (some v) ∧ Q v H' := by
        rintro b rfl hb
        have e := I.done (of_decide_eq_false hb)
        rw [e] at k
        exact ⟨_, rfl, k⟩
      refine ite2 (fun h1 => ?_) (fun h1 => ?_)
      · have q1 : f + n < d.old.length := by
          have := of_decide_eq_true h1
          rw [nV_len] at this
          omega
        refine ⟨_, rfl, _, rfl, _, _, rfl, rfl, _, rfl, lw, _, rfl, .inl (SqL.of hlw), _, _, rfl, rfl, _, rfl, ?_⟩
        refine ite2 (fun h2 => ?_) (fun h2 => ?_)
        · have q2 : t + n < d.new.length := by
            have := of_decide_eq_true h2
            rw [nV_len] at this
            omega
          refine ⟨_, rfl, _, rfl, _, rfl, _, _, rfl, rfl, lo, _, _, _, rfl, rfl, SqL.of hlo, atI_of (j := f + n) (by omega) (nV_at (at_of_lt q1)),
            _, rfl, _, rfl, _, rfl, _, _, rfl, rfl, lw, _, _, _, rfl, rfl, SqL.of hlw, atI_of (j := t + n) (by omega) (nV_at (at_of_lt q2)), rfl, _, rfl, ?_⟩
          refine ite2 (fun h3 => ?_) (fun h3 => ?_)
          · have q3 := int_eq.mp h3
            refine ⟨_, rfl, _, _, rfl, rfl, ⟨rfl, n + 1, ?_, I.turn W ⟨q1, q2, q3⟩⟩, ?_⟩
            · show [some (V.ref lo), some (V.ref lw), some (V.int f), some (V.int t), some (V.int ((n : Int) + 1))] = _
              rw [show ((n : Int) + 1) = ((n + 1 : Nat) : Int) by omega]
            · show 16 - ((n : Int) + 1).toNat < 16 - (n : Int).toNat
              omega
          · exact fin false (by symm; apply decide_eq_false; rintro ⟨_, _, z⟩; exact h3 (int_eq.mpr z)) rfl
        · refine iteF ?_
          exact fin false (by symm; apply decide_eq_false; rintro ⟨_, z, _⟩; apply h2; apply decide_eq_true; rw [nV_len]; omega) rfl
      · refine iteF ?_
        exact fin false (by symm; apply decide_eq_false; rintro ⟨z, _, _⟩; apply h1; apply decide_eq_true; rw [nV_len]; omega) rfl
    · exact monT_and (monT_test (monE_op monR_rI0 (monE_op monR_rI0 (monE_var _) (monE_var _)) monE_len)) (monT_and (monT_test (monE_op monR_rI0 (monE_op monR_rI0 (monE_var _) (monE_var _)) monE_len)) (monT_test (monE_op monR_eq (monE_op monR_ixL (monE_var _) (monE_op monR_rI0 (monE_var _) (monE_var _))) (monE_op monR_ixL (monE_var _) (monE_op monR_rI0 (monE_var _) (monE_var _))))))
end
end T
set_option Elab.async false
set_option linter.all false
set_option maxRecDepth 100000
namespace T
open PySem PySem.Spec PyProof.Rows L2 R
open Km513 (Copy Desk Choice)
section
variable {P : Program} {w : World} {K : PySem.W.Frag} {mg : Str → Option Value} {base : Heap} {C : Addr}
abbrev psInitC : List Str := ["self", "source", "target", "length"]
/-! ### longest -/
abbrev sLong : Stmt := top 34
def spLong (C : Addr) : Sp := fun vs H Q _ => ∃ (lo lw : Addr) (d : Desk) (t : Nat), vs = [.ref lo, .ref lw, .int t] ∧ M.WF d ∧ H lo = some (.lst (nV d.old)) ∧ H lw = some (.lst (nV d.new)) ∧
  ∀ (x : Addr) (H' : Hp), H x = none → Same H H' → CopyAt C H' x (Km513.longest d t) → Q (.ref x) H'
theorem scLong : FnScope ["old", "wanted", "t", "best", "f", "n"] ["old", "wanted", "t"] (defScope sLong) := ⟨rfl, rfl, rfl, by decide +kernel, rfl, by decide +kernel, by decide +kernel⟩
theorem ok_long (D : Def K mg "longest" sLong ["old", "wanted", "t"]) (T : Txt K mg C) (G1 : MkC P w K mg base 1 C "Copy" psInitC (spInitC C)) (G2 : Cal P w K mg base 1 "stretch" ["old", "wanted", "f", "t"] spStr) : Cal P w K mg base 3 "longest" ["old", "wanted", "t"] (spLong C) := by
  refine D.cal scLong (fun vs H Q E h => ?_) (fun fa cdv A outer s H vs Q E hr h => ?_)
  · obtain ⟨lo, lw, d, t, rfl, _⟩ := h
    rfl
  · obtain ⟨lo, lw, d, t, rfl, W, hlo, hlw, k⟩ := h
    refine ⟨_, pss_cons (ps_set (i := 3) scLong.nd rfl (Or.inl rfl) (pe_makeC G1 hr rfl (pa_cons pe_int (pa_cons (pv 2) (pa_cons pe_int pa_nil)))))
      (pss_cons (ps_for PassesOwn.never rfl (pi_range1 rfl T.range (pa_cons (pe_callB call_len_seq (by rfl) T.len PySem.boot_len (pa_cons (pv 0) pa_nil)) pa_nil)) (pg_name (i := 4) scLong.nd rfl (Or.inl rfl))
        (pss_cons (ps_set (i := 5) scLong.nd rfl (Or.inl rfl) (pe_callC G2 (hr.mono (by decide)) rfl (pa_cons (pv 0) (pa_cons (pv 1) (pa_cons (pv 4) (pa_cons (pv 2) pa_nil))))))
        (pss_one (ps_if (pt_cmpR op_gt (pv 5) (pe_fld (pv 3) rfl) (nomark _)) (pss_one (ps_set (i := 3) scLong.nd rfl (Or.inl rfl) (pe_makeC G1 hr rfl (pa_cons (pv 4) (pa_cons (pv 2) (pa_cons (pv 5) pa_nil)))))) pss_nil))))
      (pss_one (ps_ret (pv 3)))), ?_⟩
    have ho := W.ol
    have hal : (nV d.old).length = d.old.length := nV_len _
    refine ⟨_, rfl, ?_⟩
    intro x dx hx hdx hne
    refine ⟨x, dx, 0, t, 0, rfl, upd_same, fun H1 hc kp => ⟨rfl, ?_⟩⟩
    have s1 := Same.made hx hdx kp
    refine ⟨_, rfl, lo, _, rfl, .inl (SqL.of (s1 _ _ hlo)), _, rfl, by omega, by omega, for_range (lo := 0) (n := (nV d.old).length)
      (fun i σ H' => Same H H' ∧ ∃ (x : Addr) (v4 v5 : Option V), σ = [some (.ref lo), some (.ref lw), some (.int t), some (.ref x), v4, v5] ∧ H x = none ∧ CopyAt C H' x (M.longTo d t i))
      ⟨s1, x, none, none, rfl, hx, hc⟩ ?_ ?_⟩
    · rintro i σ H' hi ⟨s2, x2, v4, v5, rfl, hx2, dx, hc2⟩
      refine ⟨_, rfl, _, rfl, _, rfl, _, rfl, lo, lw, d, i, t, by rw [show (0 : Int) + (i : Int) = (i : Int) by omega]; rfl, W, s2 _ _ hlo, s2 _ _ hlw, ?_⟩
      refine ⟨_, rfl, _, rfl, x2, C, dx, _, _, rfl, hc2, T.cl, T.nL, cfs_l _, _, _, rfl, rfl, _, rfl, ?_⟩
      have stp := M.longTo_succ d t i
      unfold M.longStep at stp
      refine ite2 (fun h1 => ?_) (fun h1 => ?_)
      · have q := of_decide_eq_true h1
        rw [if_pos (by omega)] at stp
        refine ⟨_, rfl, _, rfl, _, rfl, ?_⟩
        intro x3 dx3 h3 h4 h5
        refine ⟨x3, dx3, i, t, Km513.alike d Km513.CELLS i t, by rw [show (0 : Int) + (i : Int) = (i : Int) by omega]; rfl, upd_same, fun H3 hc3 kp => ⟨rfl, ?_⟩⟩
        have s3 := Same.made h3 h4 kp
        exact ⟨s2.trans s3, x3, _, _, rfl, s2.free h3, by rw [stp]; exact hc3⟩
      · have q : ¬ ((M.longTo d t i).n : Int) < (Km513.alike d Km513.CELLS i t : Int) := fun z => h1 (decide_eq_true z)
        rw [if_neg (by omega)] at stp
        exact ⟨s2, x2, _, _, rfl, hx2, by rw [stp]; exact ⟨dx, hc2⟩⟩
    · rintro σ H' ⟨s2, x2, v4, v5, rfl, hx2, hc2⟩
      rw [hal, M.longTo_all] at hc2
      exact ⟨_, rfl, k x2 H' hx2 s2 hc2⟩
/-! ### found_copies -/
abbrev sFound : Stmt := top 35
def spFound (C : Addr) : Sp := fun vs H Q _ => ∃ (lo lw : Addr) (d : Desk), vs = [.ref lo, .ref lw] ∧ M.WF d ∧ H lo = some (.lst (nV d.old)) ∧ H lw = some (.lst (nV d.new)) ∧
  ∀ (r : Addr) (as : List Addr) (H' : Hp), H r = none → Same H H' → CopiesAt C H' r as (Km513.found d) → Q (.ref r) H'
theorem scFound : FnScope ["old", "wanted", "copies", "t", "copy"] ["old", "wanted"] (defScope sFound) := ⟨rfl, rfl, rfl, by decide +kernel, rfl, by decide +kernel, by decide +kernel⟩
theorem CopiesAt.snoc {H : Hp} {l p : Addr} {as : List Addr} {cs : List Copy} {c : Copy} (h : CopiesAt C H l as cs) (hp : CopyAt C H p c) : CopiesAt C (upd H l (.lst (as.map V.ref ++ [V.ref p]))) l (as ++ [p]) (cs ++ [c]) := by
  have hlen := h.len
  refine ⟨by rw [upd_same, List.map_append]; rfl, by simp [hlen], fun j a c' h1 h2 => ?_⟩
  have keep : ∀ {a : Addr} {c : Copy}, CopyAt C H a c → CopyAt C (upd H l (.lst (as.map V.ref ++ [V.ref p]))) a c := fun {a c} ⟨dx, e⟩ => ⟨dx, by rw [upd_ne (ne_of e h.lst (by intro z; cases z))]; exact e⟩
  by_cases hj : j < as.length
  · rw [List.getElem?_append_left hj] at h1
    rw [List.getElem?_append_left (by omega)] at h2
    exact keep (h.at_ j a c' h1 h2)
  · have hj2 : j = as.length := by
      have := (List.getElem?_eq_some_iff.mp h1).1
      simp at this
      omega
    subst hj2
    rw [List.getElem?_append_right (Nat.le_refl _), Nat.sub_self] at h1
    rw [hlen, List.getElem?_append_right (Nat.le_refl _), Nat.sub_self] at h2
    have e1 : p = a := Option.some.inj h1
    have e2 : c = c' := Option.some.inj h2
    subst e1 e2
    exact keep hp
theorem ok_found (D : Def K mg "found_copies" sFound ["old", "wanted"]) (T : Txt K mg C) (G : Cal P w K mg base 3 "longest" ["old", "wanted", "t"] (spLong C)) : Cal P w K mg base 4 "found_copies" ["old", "wanted"] (spFound C) := by
  obtain ⟨t7, c7⟩ := T.c7
  obtain ⟨t2, c2⟩ := T.cf2
  refine D.cal scFound (fun vs H Q E h => ?_) (fun fa cdv A outer s H vs Q E hr h => ?_)
  · obtain ⟨lo, lw, d, rfl, _⟩ := h
    rfl
  · obtain ⟨lo, lw, d, rfl, W, hlo, hlw, k⟩ := h
    have hn := W.nl
    refine ⟨_, pss_cons (ps_set (i := 2) scFound.nd rfl (Or.inl rfl) (pe_lst pa_nil))
      (pss_cons (ps_set (i := 3) scFound.nd rfl (Or.inl rfl) pe_int)
      (pss_cons (ps_while PassesOwn.never (PW.pt (pw_and (pt_cmpR op_lt (pv 3) (pe_callB call_len_seq (by rfl) T.len PySem.boot_len (pa_cons (pv 1) pa_nil)) (nomark _))
          (pw_and1 (pt_cmpR op_lt (pe_callB call_len_seq (by rfl) T.len PySem.boot_len (pa_cons (pv 2) pa_nil)) (pe_glob (v := .int 7) (by rfl) c7 ⟨t7, rfl⟩) (nomark _)))))
        (pss_cons (ps_set (i := 4) scFound.nd rfl (Or.inl rfl) (pe_callC G hr rfl (pa_cons (pv 0) (pa_cons (pv 1) (pa_cons (pv 3) pa_nil)))))
        (pss_one (ps_if (pt_cmpR op_ge (pe_fld (pv 4) rfl) (pe_glob (v := .int 2) (by rfl) c2 ⟨t2, rfl⟩) (nomark _))
          (pss_cons (ps_expr (pe_bm PySem.F.plainAttrs_list PySem.F.slot_list_append PySem.F.type_list_append mt_append (pv 2) (pa_cons (pv 4) pa_nil)))
            (pss_one (ps_aug (i := 3) scFound.nd rfl (Or.inl rfl) (pe_fld (pv 4) rfl) ip_add)))
          (pss_one (ps_aug (i := 3) scFound.nd rfl (Or.inl rfl) pe_int ip_add))))))
      (pss_one (ps_ret (pv 2))))), ?_⟩
    refine ⟨Nat.zero_le _, fun r hr0 => ?_⟩
    refine while_by (fun σ H' => Same H H' ∧ ∃ (t : Nat) (v : Option V) (as : List Addr) (cs : List Copy), σ = [some (.ref lo), some (.ref lw), some (.ref r), some (.int t), v] ∧ CopiesAt C H' r as cs ∧ M.FndInv d cs t) (upTo 3)
      ⟨Same.upd (Same.refl H) hr0, 0, none, [], [], rfl, ⟨upd_same, rfl, fun j a c h1 => by simp at h1⟩, M.fndInv_start W⟩ ?_ ?_
    · rintro σ H' ⟨s1, t, v, as, cs, rfl, hC, I⟩
      have hcl := hC.len
      refine ⟨_, rfl, _, rfl, lw, _, rfl, .inl (SqL.of (s1 _ _ hlw)), _, _, rfl, rfl, _, rfl, ?_⟩
      refine ite2 (fun h1 => ?_) (fun h1 => ?_)
      · have q1 : t < d.new.length := by
          have := of_decide_eq_true h1
          rw [nV_len] at this
          omega
        refine ⟨_, rfl, r, _, rfl, .inl (SqL.of hC.lst), _, _, rfl, rfl, _, rfl, ?_⟩
        refine ite2 (fun h2 => ?_) (fun h2 => ?_)
        · have q2 : cs.length < 7 := by
            have := of_decide_eq_true h2
            rw [List.length_map] at this
            omega
          refine ⟨_, rfl, _, rfl, _, rfl, lo, lw, d, t, rfl, W, s1 _ _ hlo, s1 _ _ hlw, fun x H2 hx s2 ⟨dx, hc⟩ => ?_⟩
          have hC2 := hC.same s2
          refine ⟨_, rfl, x, C, dx, _, _, rfl, hc, T.cl, T.nL, cfs_l _, _, _, rfl, rfl, _, rfl, ?_⟩
          refine ite2 (fun h3 => ?_) (fun h3 => ?_)
          · have q3 : 2 ≤ (Km513.longest d t).n := by
              have := of_decide_eq_true h3
              omega
            have hx2 : x ≠ r := ne_of hc hC2.lst (by intro z; cases z)
            refine ⟨_, rfl, .inl ⟨rfl, _, SqL.of hC2.lst⟩, _, rfl, r, _, _, rfl, rfl, hC2.lst, by rw [List.length_map]; exact small1000 (by omega), ?_⟩
            refine ⟨_, rfl, _, rfl, x, C, dx, _, _, rfl, by rw [upd_ne hx2]; exact hc, T.cl, T.nL, cfs_l _, _, _, rfl, rfl, ⟨Same.upd (s1.trans s2) hr0, t + (Km513.longest d t).n, some (V.ref x), as ++ [x], cs ++ [Km513.longest d t], ?_, hC2.snoc ⟨dx, hc⟩, I.two q1 q2 q3⟩, ?_⟩
            · show [some (V.ref lo), some (V.ref lw), some (V.ref r), some (V.int ((t : Int) + ((Km513.longest d t).n : Int))), some (V.ref x)] = _
              rw [show ((t : Int) + ((Km513.longest d t).n : Int)) = ((t + (Km513.longest d t).n : Nat) : Int) by omega]
            · show 16 - ((t : Int) + ((Km513.longest d t).n : Int)).toNat < 16 - (t : Int).toNat
              omega
          · have q3 : ¬ 2 ≤ (Km513.longest d t).n := fun z => h3 (decide_eq_true (by omega))
            refine ⟨_, rfl, _, _, rfl, rfl, ⟨s1.trans s2, t + 1, some (V.ref x), as, cs, ?_, hC2, I.one q1 q3⟩, ?_⟩
            · show [some (V.ref lo), some (V.ref lw), some (V.ref r), some (V.int ((t : Int) + 1)), some (V.ref x)] = _
              rw [show ((t : Int) + 1) = ((t + 1 : Nat) : Int) by omega]
            · show 16 - ((t : Int) + 1).toNat < 16 - (t : Int).toNat
              omega
        · have q2 : cs.length = 7 := by
            have h7 := I.le
            have : ¬ (((as.map V.ref).length : Int) < 7) := fun z => h2 (decide_eq_true z)
            rw [List.length_map] at this
            omega
          rw [I.done (.inr q2)] at k
          exact ⟨_, rfl, k r as H' hr0 s1 hC⟩
      · have q1 : d.new.length ≤ t := by
          have : ¬ ((t : Int) < ((nV d.new).length : Int)) := fun z => h1 (decide_eq_true z)
          rw [nV_len] at this
          omega
        rw [I.done (.inl q1)] at k
        refine iteF ?_
        exact ⟨_, rfl, k r as H' hr0 s1 hC⟩
    · exact monT_and (monT_test (monE_op monR_rI0 (monE_var _) monE_len)) (monT_test (monE_op monR_rI0 monE_len (monE_c _)))
end
end T
set_option Elab.async false
set_option linter.all false
set_option maxRecDepth 100000
namespace T
open PySem PySem.Spec PyProof.Rows L2 R
open Km513 (Copy Desk Choice State Ans)
/-! ### the desk -/
def dfs (b : Bool) (lo lw : Addr) (s : Int) (lc : Addr) : List (Str × V) := [("begun", .bl b), ("old", .ref lo), ("wanted", .ref lw), ("room", .int s), ("copies", .ref lc)]
theorem dfs_b (b : Bool) (lo lw : Addr) (s : Int) (lc : Addr) : (dfs b lo lw s lc).lookup ("begun" : Str) = some (.bl b) := rfl
theorem dfs_o (b : Bool) (lo lw : Addr) (s : Int) (lc : Addr) : (dfs b lo lw s lc).lookup ("old" : Str) = some (.ref lo) := rfl
theorem dfs_w (b : Bool) (lo lw : Addr) (s : Int) (lc : Addr) : (dfs b lo lw s lc).lookup ("wanted" : Str) = some (.ref lw) := rfl
theorem dfs_r (b : Bool) (lo lw : Addr) (s : Int) (lc : Addr) : (dfs b lo lw s lc).lookup ("room" : Str) = some (.int s) := rfl
theorem dfs_c (b : Bool) (lo lw : Addr) (s : Int) (lc : Addr) : (dfs b lo lw s lc).lookup ("copies" : Str) = some (.ref lc) := rfl
/-- a desk that has begun stands at p, and holds d: its lists at lo, lw, lc -/
structure Begun (C CD : Addr) (H : Hp) (p lo lw lc dx : Addr) (as : List Addr) (d : Desk) : Prop where
  at_ : H p = some (.ins CD dx (dfs true lo lw d.spare lc))
  old : H lo = some (.lst (nV d.old))
  new : H lw = some (.lst (nV d.new))
  cps : CopiesAt C H lc as d.copies
  ne : lo ≠ lw
  wf : M.WF d
theorem Begun.same {C CD : Addr} {H H' : Hp} {p lo lw lc dx : Addr} {as : List Addr} {d : Desk} (B : Begun C CD H p lo lw lc dx as d) (s : Same H H') : Begun C CD H' p lo lw lc dx as d :=
  ⟨s _ _ B.at_, s _ _ B.old, s _ _ B.new, B.cps.same s, B.ne, B.wf⟩
/-- a desk stands at p, in this state; F: the addresses that are its own -/
def DeskAt (C CD : Addr) (H : Hp) (p : Addr) (st : State) (F : List Addr) : Prop := match st with
  | none => F = [p] ∧ ∃ (dx lo lw lc : Addr) (s : Int), H p = some (.ins CD dx (dfs false lo lw s lc))
  | some d => ∃ (lo lw lc dx : Addr) (as : List Addr), F = [p, lo, lw, lc] ∧ Begun C CD H p lo lw lc dx as d
theorem DeskAt.same {C CD : Addr} {H H' : Hp} {p : Addr} {st : State} {F : List Addr} (D : DeskAt C CD H p st F) (s : Same H H') : DeskAt C CD H' p st F := by
  cases st with
  | none =>
    obtain ⟨e, dx, lo, lw, lc, z, h⟩ := D
    exact ⟨e, dx, lo, lw, lc, z, s _ _ h⟩
  | some d =>
    obtain ⟨lo, lw, lc, dx, as, e, B⟩ := D
    exact ⟨lo, lw, lc, dx, as, e, B.same s⟩
def iV (l : List Int) : List V := l.map V.int
def ansV (a : Ans) : List V := iV (a.num :: a.nums)
/-- what is left of the rest -/
def Kept (F : List Addr) (H H' : Hp) : Prop := ∀ b o, H b = some o → b ∉ F → H' b = some o
theorem Same.kept {H H' : Hp} (s : Same H H') (F : List Addr) : Kept F H H' := fun b o h _ => s b o h
/-- how a call ends: a list at r, and the desk behind it -/
def Ends1 (C CD : Addr) (H : Hp) (p : Addr) (F : List Addr) (y : State × Ans) (Q : VK) : Prop :=
  ∀ (r : Addr) (H' : Hp) (F' : List Addr), DeskAt C CD H' p y.1 F' → Kept F H H' → (∀ b ∈ F', b ∈ F ∨ H b = none) → H' r = some (.lst (ansV y.2)) → Q (.ref r) H'
/-- the promise of a call of n numbers -/
def spH (C CD : Addr) (n : Nat) (begun : Bool) (mk : List Nat → Km513.Call) : Sp := fun vs H Q _ => ∃ (p a : Addr) (st : State) (F : List Addr) (args : List Nat), vs = [.ref p, .ref a] ∧ DeskAt C CD H p st F ∧ H a = some (.lst (nV args)) ∧ a ∉ F ∧ args.length = n ∧ (begun = true → st ≠ none) ∧
  Ends1 C CD H p F (Km513.step st (mk args)) Q
structure TxtD (K : PySem.W.Frag) (mg : Str → Option Value) (CD : Addr) : Prop where
  cl : Cls K CD
  nB : NoAttr K CD "begun"
  nO : NoAttr K CD "old"
  nW : NoAttr K CD "wanted"
  nR : NoAttr K CD "room"
  nC : NoAttr K CD "copies"
  c16 : ∃ t, mg "MOST_CELLS" = some (.int 16 t)
  r16 : ∃ t, mg "MOST_ROOM" = some (.int 16 t)
  h999 : ∃ t, mg "MOST_HELD" = some (.int 999 t)
  e2 : ∃ t, mg "NO_SUCH" = some (.int (-2) t)
  e11 : ∃ t, mg "NOT_BEGUN" = some (.int (-11) t)
  e17 : ∃ t, mg "TAKEN" = some (.int (-17) t)
  e22 : ∃ t, mg "WRONG" = some (.int (-22) t)
  e28 : ∃ t, mg "FULL" = some (.int (-28) t)
  c0 : ∃ t, mg "BEGIN" = some (.int 0 t)
/-- a call that only reads -/
theorem Ends1.reads {C CD : Addr} {H : Hp} {p : Addr} {F : List Addr} {st : State} {a : Ans} {Q : VK} (k : Ends1 C CD H p F (st, a) Q) (D : DeskAt C CD H p st F) {r : Addr} {H' : Hp} (s : Same H H') (h : H' r = some (.lst (ansV a))) : Q (.ref r) H' :=
  k r H' F (D.same s) (Same.kept s F) (fun b hb => .inl hb) h
section
variable {P : Program} {w : World} {K : PySem.W.Frag} {mg : Str → Option Value} {base : Heap} {C CD : Addr}
/-! ### Desk() -/
abbrev sInitD : Stmt := inClass (top 46) 0
def spInitD (CD : Addr) : Sp := fun vs H Q _ => ∃ (p dx : Addr), vs = [.ref p] ∧ H p = some (.ins CD dx []) ∧ ∀ (H' : Hp) (lo lw lc : Addr), H' p = some (.ins CD dx (dfs false lo lw 0 lc)) → (∀ b o, H b = some o → b ≠ p → H' b = some o) → Q .non H'
theorem scInitD : FnScope ["self"] ["self"] (defScope sInitD) := ⟨rfl, rfl, rfl, by decide +kernel, rfl, by decide +kernel, by decide +kernel⟩
theorem ok_initD {f : Addr} {fd : FuncData} (F : Fun K "__init__" "Desk.__init__" sInitD f fd) (T : TxtD K mg CD) : FnOk P w K mg base CX0 1 f fd ["self"] (spInitD CD) := by
  refine F.ok scInitD (fun vs H Q E h => ?_) (fun cdv A outer s H vs Q E hr h => ?_)
  · obtain ⟨p, dx, rfl, _⟩ := h
    rfl
  · obtain ⟨p, dx, rfl, hp, k⟩ := h
    refine ⟨_, pss_cons (ps_fld (pv 0) pe_bl rfl) (pss_cons (ps_fld (pv 0) (pe_lst pa_nil) rfl) (pss_cons (ps_fld (pv 0) (pe_lst pa_nil) rfl) (pss_cons (ps_fld (pv 0) pe_int rfl) (pss_one (ps_fld (pv 0) (pe_lst pa_nil) rfl))))), ?_⟩
    refine ⟨_, rfl, p, CD, dx, [], rfl, hp, T.cl, T.nB, (by show 0 < 1000; decide), ?_⟩
    refine ⟨Nat.zero_le _, fun lo hlo => ?_⟩
    have n1 : p ≠ lo := ne_of_none upd_same hlo
    refine ⟨_, rfl, p, CD, dx, _, rfl, by rw [upd_ne n1]; exact upd_same, T.cl, T.nO, (by show 1 < 1000; decide), ?_⟩
    refine ⟨Nat.zero_le _, fun lw hlw => ?_⟩
    have n2 : p ≠ lw := ne_of_none upd_same hlw
    refine ⟨_, rfl, p, CD, dx, _, rfl, by rw [upd_ne n2]; exact upd_same, T.cl, T.nW, (by show 2 < 1000; decide), ?_⟩
    refine ⟨_, rfl, p, CD, dx, _, rfl, upd_same, T.cl, T.nR, (by show 3 < 1000; decide), ?_⟩
    refine ⟨Nat.zero_le _, fun lc hlc => ?_⟩
    have n3 : p ≠ lc := ne_of_none upd_same hlc
    refine ⟨_, rfl, p, CD, dx, _, rfl, by rw [upd_ne n3]; exact upd_same, T.cl, T.nC, (by show 4 < 1000; decide), ?_⟩
    refine k _ lo lw lc upd_same fun b o e hb => ?_
    have w1 : b ≠ lo := fun z => by
      rw [← z, upd_ne hb] at hlo
      rw [hlo] at e
      cases e
    have e1 := e
    have w2 : b ≠ lw := fun z => by
      rw [← z, upd_ne hb, upd_ne w1, upd_ne hb] at hlw
      rw [hlw] at e
      cases e
    have w3 : b ≠ lc := fun z => by
      rw [← z, upd_ne hb, upd_ne hb, upd_ne w2, upd_ne hb, upd_ne w1, upd_ne hb] at hlc
      rw [hlc] at e
      cases e
    rw [upd_ne hb, upd_ne w3, upd_ne hb, upd_ne hb, upd_ne w2, upd_ne hb, upd_ne w1, upd_ne hb]
    exact e
/-! ### counted, one_or_zero, is_cell_count -/
abbrev sCounted : Stmt := top 47
def spCounted : Sp := fun vs H Q _ => ∃ (l : Addr) (xs : List Int), vs = [.ref l] ∧ H l = some (.lst (iV xs)) ∧ xs.length < sizeLine ∧
  ∀ (r : Addr) (H' : Hp), H r = none → Same H H' → H' r = some (.lst (iV ((xs.length : Int) :: xs))) → Q (.ref r) H'
theorem scCounted : FnScope ["numbers"] ["numbers"] (defScope sCounted) := ⟨rfl, rfl, rfl, by decide +kernel, rfl, by decide +kernel, by decide +kernel⟩
theorem iV_len (l : List Int) : (iV l).length = l.length := List.length_map ..
theorem nV_iV (l : List Nat) : nV l = iV (l.map fun (n : Nat) => (n : Int)) := nV_ints l
theorem ok_counted (D : Def K mg "counted" sCounted ["numbers"]) (T : Txt K mg C) : Cal P w K mg base 1 "counted" ["numbers"] spCounted := by
  refine D.cal scCounted (fun vs H Q E h => ?_) (fun fa cdv A outer s H vs Q E hr h => ?_)
  · obtain ⟨l, xs, rfl, _⟩ := h
    rfl
  · obtain ⟨l, xs, rfl, hl, hz, k⟩ := h
    refine ⟨_, pss_one (ps_ret (pe_op op_cat (pe_lst (pa_cons (pe_callB call_len_seq (by rfl) T.len PySem.boot_len (pa_cons (pv 0) pa_nil)) pa_nil)) (pv 0))), ?_⟩
    refine ⟨_, rfl, l, _, rfl, .inl (SqL.of hl), by show 1 ≤ sizeLine; decide, fun q hq => ?_⟩
    have n1 : l ≠ q := ne_of_none hl hq
    refine ⟨_, rfl, q, l, _, _, rfl, rfl, upd_same, by rw [upd_ne n1]; exact hl, by rw [iV_len]; show 1 + xs.length ≤ sizeLine; omega, fun r hr0 => ?_⟩
    have n2 : r ≠ q := fun z => by rw [z, upd_same] at hr0; cases hr0
    have hr1 : H r = none := by rw [upd_ne n2] at hr0; exact hr0
    refine k r _ hr1 (Same.upd (Same.upd (Same.refl H) hq) hr1) ?_
    rw [upd_same, iV_len]
    rfl
abbrev sOoz : Stmt := top 48
def spOoz : Sp := fun vs H Q _ => ∃ b : Bool, vs = [.bl b] ∧ ∀ (r : Addr) (H' : Hp), H r = none → Same H H' → H' r = some (.lst (iV [if b = true then 1 else 0])) → Q (.ref r) H'
theorem scOoz : FnScope ["answer"] ["answer"] (defScope sOoz) := ⟨rfl, rfl, rfl, by decide +kernel, rfl, by decide +kernel, by decide +kernel⟩
theorem ok_ooz (D : Def K mg "one_or_zero" sOoz ["answer"]) : Cal P w K mg base 1 "one_or_zero" ["answer"] spOoz := by
  refine D.cal scOoz (fun vs H Q E h => ?_) (fun fa cdv A outer s H vs Q E hr h => ?_)
  · obtain ⟨b, rfl, _⟩ := h
    rfl
  · obtain ⟨b, rfl, k⟩ := h
    refine ⟨_, pss_one (ps_ret (pe_ifExp (pt_val (pv 0)) (pe_lst (pa_cons pe_int pa_nil)) (pe_lst (pa_cons pe_int pa_nil)))), ?_⟩
    refine ⟨_, rfl, b, rfl, ?_⟩
    cases b with
    | true => exact iteT ⟨by show 1 ≤ sizeLine; decide, fun r hr0 => k r _ hr0 (Same.upd (Same.refl H) hr0) upd_same⟩
    | false => exact iteF ⟨by show 1 ≤ sizeLine; decide, fun r hr0 => k r _ hr0 (Same.upd (Same.refl H) hr0) upd_same⟩
abbrev sIcc : Stmt := top 49
def spIcc : Sp := fun vs H Q _ => ∃ n : Nat, vs = [.int n] ∧ Q (.bl (decide (1 ≤ n ∧ n ≤ 16))) H
theorem scIcc : FnScope ["n"] ["n"] (defScope sIcc) := ⟨rfl, rfl, rfl, by decide +kernel, rfl, by decide +kernel, by decide +kernel⟩
theorem ok_icc (D : Def K mg "is_cell_count" sIcc ["n"]) (T : TxtD K mg CD) : Cal P w K mg base 1 "is_cell_count" ["n"] spIcc := by
  obtain ⟨t16, c16⟩ := T.c16
  refine D.cal scIcc (fun vs H Q E h => ?_) (fun fa cdv A outer s H vs Q E hr h => ?_)
  · obtain ⟨b, rfl, _⟩ := h
    rfl
  · obtain ⟨n, rfl, k⟩ := h
    refine ⟨_, pss_one (ps_ret (pe_and (pe_cmp (pc_le pe_int (pv 0)) rfl) (pe_one (pe_cmp (pc_le (pv 0) (pe_glob (v := .int 16) (by rfl) c16 ⟨t16, rfl⟩)) rfl)))), ?_⟩
    refine ⟨_, rfl, _, _, rfl, rfl, _, rfl, ?_⟩
    refine ite2 (fun h1 => ?_) (fun h1 => ?_)
    · have q1 : (1 : Int) ≤ (n : Int) := of_decide_eq_true h1
      refine ⟨_, rfl, _, _, rfl, rfl, ?_⟩
      have e : decide (1 ≤ n ∧ n ≤ 16) = decide ((n : Int) ≤ 16) := by rw [decide_eq_decide]; omega
      rw [e] at k
      exact k
    · have q1 : ¬ (1 : Int) ≤ (n : Int) := fun z => h1 (decide_eq_true z)
      have e : decide (1 ≤ n ∧ n ≤ 16) = false := decide_eq_false (by omega)
      rw [e] at k
      exact k
end
end T
set_option Elab.async false
set_option linter.all false
set_option maxRecDepth 100000
namespace T
open PySem PySem.Spec PyProof.Rows L2 R
open Km513 (Copy Desk Choice State Ans)
/-- all but p is as it was -/
def But (p : Addr) (H H' : Hp) : Prop := ∀ b o, H b = some o → b ≠ p → H' b = some o
theorem But.of {p : Addr} {H H' : Hp} (s : Same H H') : But p H H' := fun b o h _ => s b o h
theorem But.trans {p : Addr} {H H1 H2 : Hp} (a : But p H H1) (b : But p H1 H2) : But p H H2 := fun c o h n => b c o (a c o h n) n
theorem But.upd {p : Addr} {H H1 : Hp} {o : HO} (a : But p H H1) : But p H (upd H1 p o) := fun b u h n => by
  rw [upd_ne n]
  exact a b u h n
theorem But.new {p q : Addr} {H H1 : Hp} {o : HO} (a : But p H H1) (h : H1 q = none) : But p H (L2.upd H1 q o) := fun b u e n => by
  have e1 := a b u e n
  rw [upd_ne (ne_of_none e1 h)]
  exact e1
theorem But.free {p q : Addr} {H H1 : Hp} {o : HO} (a : But p H H1) (hp : H1 p = some o) (h : H1 q = none) : H q = none ∧ q ≠ p := by
  have n : q ≠ p := fun z => by rw [z, hp] at h; cases h
  refine ⟨?_, n⟩
  cases e : H q with
  | none => rfl
  | some u => rw [a q u e n] at h; cases h
theorem DeskAt.head {C CD : Addr} {H : Hp} {p : Addr} {st : State} {F : List Addr} (D : DeskAt C CD H p st F) : p ∈ F ∧ ∃ (b : Bool) (dx lo lw lc : Addr) (s : Int), H p = some (.ins CD dx (dfs b lo lw s lc)) := by
  cases st with
  | none =>
    obtain ⟨e, dx, lo, lw, lc, z, h⟩ := D
    exact ⟨by rw [e]; exact List.mem_singleton.mpr rfl, false, dx, lo, lw, lc, z, h⟩
  | some d =>
    obtain ⟨lo, lw, lc, dx, as, e, B⟩ := D
    exact ⟨by rw [e]; exact List.mem_cons_self .., true, dx, lo, lw, lc, _, B.at_⟩
section
variable {P : Program} {w : World} {K : PySem.W.Frag} {mg : Str → Option Value} {base : Heap} {C CD : Addr}
theorem notT {c : Prop} [Decidable c] (h : (!decide c) = true) : ¬ c := by
  rw [Bool.not_eq_true'] at h
  exact of_decide_eq_false h
theorem notF {c : Prop} [Decidable c] (h : ¬ (!decide c) = true) : c := Decidable.not_not.mp fun z => h (by rw [decide_eq_false z]; rfl)
theorem args3 {l : List Nat} (h : l.length = 3) : ∃ a b c, l = [a, b, c] := by
  match l, h with
  | [a, b, c], _ => exact ⟨a, b, c, rfl⟩
theorem args2 {l : List Nat} (h : l.length = 2) : ∃ a b, l = [a, b] := by
  match l, h with
  | [a, b], _ => exact ⟨a, b, rfl⟩
theorem args1 {l : List Nat} (h : l.length = 1) : ∃ a, l = [a] := by
  match l, h with
  | [a], _ => exact ⟨a, rfl⟩
/-! ### begin -/
abbrev sBegin : Stmt := top 50
def mkBegin (l : List Nat) : Km513.Call := .begin_ (l.getD 0 0) (l.getD 1 0) (l.getD 2 0)
theorem scBegin : FnScope ["desk", "arguments", "n", "m", "s", "i"] ["desk", "arguments"] (defScope sBegin) := ⟨rfl, rfl, rfl, by decide +kernel, rfl, by decide +kernel, by decide +kernel⟩
theorem ok_begin (D : Def K mg "begin" sBegin ["desk", "arguments"]) (T : Txt K mg C) (TD : TxtD K mg CD) (G : Cal P w K mg base 1 "is_cell_count" ["n"] spIcc) : Cal P w K mg base 2 "begin" ["desk", "arguments"] (spH C CD 3 false mkBegin) := by
  obtain ⟨t16, r16⟩ := TD.r16
  obtain ⟨t22, e22⟩ := TD.e22
  refine D.cal scBegin (fun vs H Q E h => ?_) (fun fa cdv A outer s H vs Q E hr h => ?_)
  · obtain ⟨p, a, st, F, args, rfl, _⟩ := h
    rfl
  · obtain ⟨p, a, st, F, args, rfl, hD, ha, haF, hlen, _, k⟩ := h
    obtain ⟨n, m, sr, rfl⟩ := args3 hlen
    obtain ⟨hpF, b0, dx, lo, lw, lc, z0, hp⟩ := hD.head
    refine ⟨_, pss_cons (ps_set (i := 2) scBegin.nd rfl (Or.inl rfl) (pe_ix ix_list (pv 1) pe_int (fun _ _ => rfl)))
      (pss_cons (ps_set (i := 3) scBegin.nd rfl (Or.inl rfl) (pe_ix ix_list (pv 1) pe_int (fun _ _ => rfl)))
      (pss_cons (ps_set (i := 4) scBegin.nd rfl (Or.inl rfl) (pe_ix ix_list (pv 1) pe_int (fun _ _ => rfl)))
      (pss_cons (ps_if (PW.pt (pw_or (pt_not (pt_val (pe_callC G hr rfl (pa_cons (pv 2) pa_nil)))) (pw_or (pt_not (pt_val (pe_callC G hr rfl (pa_cons (pv 3) pa_nil)))) (pw_or1 (pt_cmpR op_gt (pv 4) (pe_glob (v := .int 16) (by rfl) r16 ⟨t16, rfl⟩) (nomark _))))))
        (pss_one (ps_ret (pe_lst (pa_cons (pe_glob (v := .int (-22)) (by rfl) e22 ⟨t22, rfl⟩) pa_nil)))) pss_nil)
      (pss_cons (ps_fld (pv 0) pe_bl rfl)
      (pss_cons (ps_fld (pv 0) (pe_lc (own := [("i", 5)]) (g := gName 5) (by rfl) scBegin.nd (pi_range1 rfl T.range (pa_cons (pv 2) pa_nil)) (blkOk_by (own := [("i", 5)]) (N := ["desk", "arguments", "n", "m", "s", "i"]) (sc := defScope sBegin) (by decide +kernel)) (fun _ _ _ _ _ => pg_name (i := 5) scBegin.nd rfl (Or.inl rfl)) (fun _ _ _ _ _ => pts_nil) (fun _ _ _ _ _ => pe_int)) rfl)
      (pss_cons (ps_fld (pv 0) (pe_lc (own := [("i", 5)]) (g := gName 5) (by rfl) scBegin.nd (pi_range1 rfl T.range (pa_cons (pv 3) pa_nil)) (blkOk_by (own := [("i", 5)]) (N := ["desk", "arguments", "n", "m", "s", "i"]) (sc := defScope sBegin) (by decide +kernel)) (fun _ _ _ _ _ => pg_name (i := 5) scBegin.nd rfl (Or.inl rfl)) (fun _ _ _ _ _ => pts_nil) (fun _ _ _ _ _ => pe_int)) rfl)
      (pss_cons (ps_fld (pv 0) (pv 4) rfl)
      (pss_cons (ps_fld (pv 0) (pe_lst pa_nil) rfl)
      (pss_one (ps_ret (pe_lst (pa_cons pe_int pa_nil)))))))))))), ?_⟩
    refine ⟨_, rfl, a, _, _, _, rfl, rfl, SqL.of ha, atI_of (j := 0) rfl rfl, _, rfl, a, _, _, _, rfl, rfl, SqL.of ha, atI_of (j := 1) rfl rfl, _, rfl, a, _, _, _, rfl, rfl, SqL.of ha, atI_of (j := 2) rfl rfl, ?_⟩
    have k' : Ends1 C CD H p F (if n = 0 ∨ Km513.CELLS < n ∨ m = 0 ∨ Km513.CELLS < m ∨ Km513.CELLS < sr then (st, Km513.say (-22)) else (some ⟨List.replicate n 0, List.replicate m 0, sr, []⟩, Km513.say 0)) Q := k
    have e16 : Km513.CELLS = 16 := rfl
    rw [e16] at k'
    have bad : (n = 0 ∨ 16 < n ∨ m = 0 ∨ 16 < m ∨ 16 < sr) → 1 ≤ sizeLine ∧ ∀ r, H r = none → Q (.ref r) (upd H r (.lst [V.int (-22)])) := by
      intro h
      rw [if_pos h] at k'
      exact ⟨by decide, fun r hr0 => k'.reads hD (Same.upd (Same.refl H) hr0) upd_same⟩
    refine ⟨_, rfl, n, rfl, _, rfl, ?_⟩
    refine ite2 (fun h1 => ?_) (fun h1 => ?_)
    · exact iteT (bad (by have : ¬ (1 ≤ n ∧ n ≤ 16) := notT h1
                          omega))
    have q1 : 1 ≤ n ∧ n ≤ 16 := notF h1
    refine ⟨_, rfl, m, rfl, _, rfl, ?_⟩
    refine ite2 (fun h2 => ?_) (fun h2 => ?_)
    · exact iteT (bad (by have : ¬ (1 ≤ m ∧ m ≤ 16) := notT h2
                          omega))
    have q2 : 1 ≤ m ∧ m ≤ 16 := notF h2
    refine ⟨_, rfl, _, _, rfl, rfl, _, rfl, ?_⟩
    refine ite2 (fun h3 => ?_) (fun h3 => ?_)
    · have := of_decide_eq_true h3
      exact bad (by omega)
    have q3 : ¬ (16 : Int) < (sr : Int) := fun z => h3 (decide_eq_true z)
    have ng : ¬ (n = 0 ∨ 16 < n ∨ m = 0 ∨ 16 < m ∨ 16 < sr) := by omega
    rw [if_neg ng] at k'
    have W : M.WF ⟨List.replicate n 0, List.replicate m 0, sr, []⟩ := M.wf_begin (by rw [e16]; exact ng)
    refine ⟨_, rfl, p, CD, dx, _, rfl, hp, TD.cl, TD.nB, (by show 5 < 1000; decide), ?_⟩
    have b1 : But p H (upd H p (.ins CD dx (dfs true lo lw z0 lc))) := (But.of (Same.refl H)).upd
    have a1 : (upd H p (.ins CD dx (dfs true lo lw z0 lc))) p = some (.ins CD dx (dfs true lo lw z0 lc)) := upd_same
    refine (?_ : ∀ H1 : Hp, But p H H1 → H1 p = some (.ins CD dx (dfs true lo lw z0 lc)) → _) _ b1 a1
    intro H1 b1 a1
    refine ⟨_, rfl, _, rfl, by omega, by omega, fun q hq => lc_range (lo := 0) (n := n) (fun i H' => Same H1 H' ∧ H' q = some (.lst (nV (List.replicate i 0)))) ⟨Same.upd (Same.refl H1) hq, upd_same⟩ ?_ ?_⟩
    · rintro i H' hi ⟨s1, hq1⟩
      refine ⟨rfl, ?_⟩
      show ∃ acc, H' q = some (.lst acc) ∧ acc.length < sizeLine ∧ (Same H1 (upd H' q (.lst (acc ++ [V.int 0]))) ∧ upd H' q (.lst (acc ++ [V.int 0])) q = some (.lst (nV (List.replicate (i + 1) 0))))
      refine ⟨_, hq1, ?_, Same.upd s1 hq, ?_⟩
      · rw [nV_len, List.length_replicate]
        exact small1000 (by omega)
      · rw [upd_same, List.replicate_succ', nV_app]
        rfl
    rintro H2 ⟨s2, hq2⟩
    obtain ⟨fq, nq⟩ := b1.free a1 hq
    have b2 := b1.trans (But.of s2)
    refine ⟨_, rfl, p, CD, dx, _, rfl, s2 _ _ a1, TD.cl, TD.nO, (by show 5 < 1000; decide), ?_⟩
    have b3 : But p H (upd H2 p (.ins CD dx (dfs true q lw z0 lc))) := b2.upd
    have a3 : (upd H2 p (.ins CD dx (dfs true q lw z0 lc))) p = some (.ins CD dx (dfs true q lw z0 lc)) := upd_same
    have g3 : (upd H2 p (.ins CD dx (dfs true q lw z0 lc))) q = some (.lst (nV (List.replicate n 0))) := by rw [upd_ne nq]; exact hq2
    refine (?_ : ∀ H3 : Hp, But p H H3 → H3 p = some (.ins CD dx (dfs true q lw z0 lc)) → H3 q = some (.lst (nV (List.replicate n 0))) → _) _ b3 a3 g3
    intro H3 b3 a3 g3
    refine ⟨_, rfl, _, rfl, by omega, by omega, fun q' hq' => lc_range (lo := 0) (n := m) (fun i H' => Same H3 H' ∧ H' q' = some (.lst (nV (List.replicate i 0)))) ⟨Same.upd (Same.refl H3) hq', upd_same⟩ ?_ ?_⟩
    · rintro i H' hi ⟨s1, hq1⟩
      refine ⟨rfl, ?_⟩
      show ∃ acc, H' q' = some (.lst acc) ∧ acc.length < sizeLine ∧ (Same H3 (upd H' q' (.lst (acc ++ [V.int 0]))) ∧ upd H' q' (.lst (acc ++ [V.int 0])) q' = some (.lst (nV (List.replicate (i + 1) 0))))
      refine ⟨_, hq1, ?_, Same.upd s1 hq', ?_⟩
      · rw [nV_len, List.length_replicate]
        exact small1000 (by omega)
      · rw [upd_same, List.replicate_succ', nV_app]
        rfl
    rintro H4 ⟨s4, hq4⟩
    obtain ⟨fq', nq'⟩ := b3.free a3 hq'
    have nqq : q ≠ q' := ne_of_none g3 hq'
    have b4 := b3.trans (But.of s4)
    refine ⟨_, rfl, p, CD, dx, _, rfl, s4 _ _ a3, TD.cl, TD.nW, (by show 5 < 1000; decide), ?_⟩
    refine ⟨_, rfl, _, rfl, p, CD, dx, _, rfl, upd_same, TD.cl, TD.nR, (by show 5 < 1000; decide), ?_⟩
    rw [upd_upd]
    have b5 : But p H (upd H4 p (.ins CD dx (dfs true q q' sr lc))) := b4.upd
    have a5 : (upd H4 p (.ins CD dx (dfs true q q' sr lc))) p = some (.ins CD dx (dfs true q q' sr lc)) := upd_same
    have g5 : (upd H4 p (.ins CD dx (dfs true q q' sr lc))) q = some (.lst (nV (List.replicate n 0))) := by rw [upd_ne nq]; exact s4 _ _ g3
    have g5' : (upd H4 p (.ins CD dx (dfs true q q' sr lc))) q' = some (.lst (nV (List.replicate m 0))) := by rw [upd_ne nq']; exact hq4
    refine (?_ : ∀ H5 : Hp, But p H H5 → H5 p = some (.ins CD dx (dfs true q q' sr lc)) → H5 q = some (.lst (nV (List.replicate n 0))) → H5 q' = some (.lst (nV (List.replicate m 0))) → _) _ b5 a5 g5 g5'
    intro H5 b5 a5 g5 g5'
    refine ⟨Nat.zero_le _, fun q3 hq3 => ?_⟩
    obtain ⟨fq3, nq3⟩ := b5.free a5 hq3
    have m1 : p ≠ q3 := Ne.symm nq3
    refine ⟨_, rfl, p, CD, dx, _, rfl, by rw [upd_ne m1]; exact a5, TD.cl, TD.nC, (by show 5 < 1000; decide), ?_⟩
    refine ⟨by show 1 ≤ sizeLine; decide, fun r hr0 => ?_⟩
    have b6 : But p H (upd (upd H5 q3 (.lst [])) p (.ins CD dx (dfs true q q' sr q3))) := (b5.new hq3).upd
    have nqr : q ≠ q3 := ne_of_none g5 hq3
    have nqr' : q' ≠ q3 := ne_of_none g5' hq3
    have s6 : Same (upd (upd H5 q3 (.lst [])) p (.ins CD dx (dfs true q q' sr q3))) (upd (upd (upd H5 q3 (.lst [])) p (.ins CD dx (dfs true q q' sr q3))) r (.lst [V.int 0])) := Same.upd (Same.refl _) hr0
    refine k' r _ [p, q, q', q3] ⟨q, q', q3, dx, [], rfl, Begun.same ⟨upd_same, ?_, ?_, ⟨?_, rfl, fun j a c h1 => by simp at h1⟩, nqq, W⟩ s6⟩ ?_ ?_ upd_same
    · rw [upd_ne nq, upd_ne nqr]; exact g5
    · rw [upd_ne nq', upd_ne nqr']; exact g5'
    · rw [upd_ne nq3, upd_same]; rfl
    · intro b o e hb
      exact s6 _ _ (b6 b o e fun z => hb (z ▸ hpF))
    · intro b hb
      simp only [List.mem_cons, List.not_mem_nil, or_false] at hb
      rcases hb with rfl | rfl | rfl | rfl
      · exact .inl hpF
      · exact .inr fq
      · exact .inr fq'
      · exact .inr fq3
end
end T
set_option Elab.async false
set_option linter.all false
set_option maxRecDepth 100000
namespace T
open PySem PySem.Spec PyProof.Rows L2 R
open Km513 (Copy Desk Choice State Ans)
section
variable {P : Program} {w : World} {K : PySem.W.Frag} {mg : Str → Option Value} {base : Heap} {C CD : Addr}
/-! ### put -/
abbrev sPut : Stmt := top 51
def spPut : Sp := fun vs H Q _ => ∃ (l : Addr) (xs : List Nat) (i v : Nat), vs = [.ref l, .int i, .int v] ∧ H l = some (.lst (nV xs)) ∧
  if xs.length ≤ i then (∀ (r : Addr) (H' : Hp), Same H H' → H' r = some (.lst (iV [-2])) → Q (.ref r) H')
  else if 999 < v then (∀ (r : Addr) (H' : Hp), Same H H' → H' r = some (.lst (iV [-22])) → Q (.ref r) H')
  else ∀ (r : Addr) (H' : Hp), H' l = some (.lst (nV (xs.set i v))) → But l H H' → H' r = some (.lst (iV [(Km513.at_ xs i : Nat)])) → Q (.ref r) H'
theorem scPut : FnScope ["cells", "i", "v", "was"] ["cells", "i", "v"] (defScope sPut) := ⟨rfl, rfl, rfl, by decide +kernel, rfl, by decide +kernel, by decide +kernel⟩
theorem nV_set (l : List Nat) (i v : Nat) : (nV l).set i (V.int (v : Int)) = nV (l.set i v) := by
  unfold nV
  rw [List.map_set]
theorem ixN_nat {n i : Nat} (h : i < n) : ixN n (i : Int) = some i := by
  unfold ixN
  first | rfl | (simp; omega)
theorem ok_put (D : Def K mg "put" sPut ["cells", "i", "v"]) (T : Txt K mg C) (TD : TxtD K mg CD) : Cal P w K mg base 1 "put" ["cells", "i", "v"] spPut := by
  obtain ⟨t2, e2⟩ := TD.e2
  obtain ⟨t22, e22⟩ := TD.e22
  obtain ⟨t9, h9⟩ := TD.h999
  refine D.cal scPut (fun vs H Q E h => ?_) (fun fa cdv A outer s H vs Q E hr h => ?_)
  · obtain ⟨l, xs, i, v, rfl, _⟩ := h
    rfl
  · obtain ⟨l, xs, i, v, rfl, hl, k⟩ := h
    refine ⟨_, pss_cons (ps_if (pt_cmpR op_ge (pv 1) (pe_callB call_len_seq (by rfl) T.len PySem.boot_len (pa_cons (pv 0) pa_nil)) (nomark _)) (pss_one (ps_ret (pe_lst (pa_cons (pe_glob (v := .int (-2)) (by rfl) e2 ⟨t2, rfl⟩) pa_nil)))) pss_nil)
      (pss_cons (ps_if (pt_cmpR op_gt (pv 2) (pe_glob (v := .int 999) (by rfl) h9 ⟨t9, rfl⟩) (nomark _)) (pss_one (ps_ret (pe_lst (pa_cons (pe_glob (v := .int (-22)) (by rfl) e22 ⟨t22, rfl⟩) pa_nil)))) pss_nil)
      (pss_cons (ps_set (i := 3) scPut.nd rfl (Or.inl rfl) (pe_ix ix_list (pv 0) (pv 1) (fun _ _ => rfl)))
      (pss_cons (ps_asg (pv 2) (pg_sub (pv 0) (pv 1) set_list))
      (pss_one (ps_ret (pe_lst (pa_cons (pv 3) pa_nil))))))), ?_⟩
    refine ⟨_, rfl, _, rfl, l, _, rfl, .inl (SqL.of hl), _, _, rfl, rfl, _, rfl, ?_⟩
    refine ite2 (fun h1 => ?_) (fun h1 => ?_)
    · have q : xs.length ≤ i := by
        have := of_decide_eq_true h1
        rw [nV_len] at this
        omega
      rw [if_pos q] at k
      exact ⟨by show 1 ≤ sizeLine; decide, fun r hr0 => k r _ (Same.upd (Same.refl H) hr0) upd_same⟩
    have q : ¬ xs.length ≤ i := fun z => h1 (decide_eq_true (by rw [nV_len]; omega))
    rw [if_neg q] at k
    refine ⟨_, rfl, _, _, rfl, rfl, _, rfl, ?_⟩
    refine ite2 (fun h2 => ?_) (fun h2 => ?_)
    · have q2 : 999 < v := by
        have := of_decide_eq_true h2
        omega
      rw [if_pos q2] at k
      exact ⟨by show 1 ≤ sizeLine; decide, fun r hr0 => k r _ (Same.upd (Same.refl H) hr0) upd_same⟩
    have q2 : ¬ 999 < v := fun z => h2 (decide_eq_true (by omega))
    rw [if_neg q2] at k
    refine ⟨_, rfl, _, rfl, l, _, _, _, rfl, rfl, SqL.of hl, atI_of (j := i) rfl (nV_at (at_of_lt (by omega))), ?_⟩
    refine ⟨_, rfl, _, rfl, _, rfl, l, _, _, i, rfl, rfl, hl, ixN_nat (by rw [nV_len]; omega), ?_⟩
    refine ⟨_, rfl, by show 1 ≤ sizeLine; decide, fun r hr0 => ?_⟩
    have n1 : l ≠ r := ne_of_none upd_same hr0
    refine k r _ ?_ ?_ upd_same
    · rw [upd_ne n1, upd_same, nV_set]
    · exact fun b o e n => by
        have n2 : b ≠ r := fun z => by rw [← z, upd_ne n, e] at hr0; cases hr0
        rw [upd_ne n2, upd_ne n]
        exact e
/-! ### put_old, put_wanted -/
abbrev sPutO : Stmt := top 52
abbrev sPutW : Stmt := top 53
def mkOld (l : List Nat) : Km513.Call := .old (l.getD 0 0) (l.getD 1 0)
def mkWant (l : List Nat) : Km513.Call := .want (l.getD 0 0) (l.getD 1 0)
theorem scPutO : FnScope ["desk", "arguments"] ["desk", "arguments"] (defScope sPutO) := ⟨rfl, rfl, rfl, by decide +kernel, rfl, by decide +kernel, by decide +kernel⟩
theorem scPutW : FnScope ["desk", "arguments"] ["desk", "arguments"] (defScope sPutW) := ⟨rfl, rfl, rfl, by decide +kernel, rfl, by decide +kernel, by decide +kernel⟩
/-- the lists of a desk stand apart -/
theorem Begun.apart {H : Hp} {p lo lw lc dx : Addr} {as : List Addr} {d : Desk} (B : Begun C CD H p lo lw lc dx as d) : p ≠ lo ∧ p ≠ lw ∧ p ≠ lc ∧ lo ≠ lc ∧ lw ≠ lc := by
  have wo := B.wf.ol
  have wn := B.wf.nl
  have key : ∀ l : List Nat, 1 ≤ l.length → HO.lst (nV l) ≠ HO.lst (as.map V.ref) := by
    intro l hl e
    have e2 := HO.lst.inj e
    cases l with
    | nil => simp at hl
    | cons n l =>
      cases as with
      | nil => cases e2
      | cons a as => exact absurd (List.cons.inj e2).1 (by intro z; cases z)
  exact ⟨ne_of B.at_ B.old (by intro z; cases z), ne_of B.at_ B.new (by intro z; cases z), ne_of B.at_ B.cps.lst (by intro z; cases z), ne_of B.old B.cps.lst (key _ wo.1), ne_of B.new B.cps.lst (key _ wn.1)⟩
theorem CopiesAt.but {H H' : Hp} {l q : Addr} {as : List Addr} {cs : List Copy} (h : CopiesAt C H l as cs) (b : But q H H') (hl : l ≠ q) (hq : ∃ xs, H q = some (.lst xs)) : CopiesAt C H' l as cs := by
  obtain ⟨xs, hq⟩ := hq
  refine ⟨b _ _ h.lst hl, h.len, fun j a c h1 h2 => ?_⟩
  obtain ⟨dx, e⟩ := h.at_ j a c h1 h2
  exact ⟨dx, b _ _ e (ne_of e hq (by intro z; cases z))⟩
theorem Begun.old_but {H H' : Hp} {p lo lw lc dx : Addr} {as : List Addr} {d : Desk} (B : Begun C CD H p lo lw lc dx as d) (b : But lo H H') {i v : Nat} (h : H' lo = some (.lst (nV (d.old.set i v)))) : Begun C CD H' p lo lw lc dx as { d with old := d.old.set i v } := by
  obtain ⟨n1, n2, n3, n4, n5⟩ := B.apart
  exact ⟨b _ _ B.at_ n1, h, b _ _ B.new (Ne.symm B.ne), B.cps.but b (Ne.symm n4) ⟨_, B.old⟩, B.ne, M.wf_old B.wf i v⟩
theorem Begun.new_but {H H' : Hp} {p lo lw lc dx : Addr} {as : List Addr} {d : Desk} (B : Begun C CD H p lo lw lc dx as d) (b : But lw H H') {i v : Nat} (h : H' lw = some (.lst (nV (d.new.set i v)))) : Begun C CD H' p lo lw lc dx as { d with new := d.new.set i v } := by
  obtain ⟨n1, n2, n3, n4, n5⟩ := B.apart
  exact ⟨b _ _ B.at_ n2, b _ _ B.old B.ne, h, B.cps.but b (Ne.symm n5) ⟨_, B.new⟩, B.ne, M.wf_new B.wf i v⟩
theorem But.kept {q : Addr} {F : List Addr} {H H' : Hp} (b : But q H H') (h : q ∈ F) : Kept F H H' := fun c o e hc => b c o e fun z => hc (z ▸ h)
/-- a desk that has begun -/
theorem DeskAt.open {H : Hp} {p : Addr} {st : State} {F : List Addr} (D : DeskAt C CD H p st F) (h : st ≠ none) : ∃ (d : Desk) (lo lw lc dx : Addr) (as : List Addr), st = some d ∧ F = [p, lo, lw, lc] ∧ Begun C CD H p lo lw lc dx as d := by
  cases st with
  | none => exact absurd rfl h
  | some d =>
    obtain ⟨lo, lw, lc, dx, as, e, B⟩ := D
    exact ⟨d, lo, lw, lc, dx, as, rfl, e, B⟩
theorem ok_putO (D : Def K mg "put_old" sPutO ["desk", "arguments"]) (TD : TxtD K mg CD) (G : Cal P w K mg base 1 "put" ["cells", "i", "v"] spPut) : Cal P w K mg base 2 "put_old" ["desk", "arguments"] (spH C CD 2 true mkOld) := by
  refine D.cal scPutO (fun vs H Q E h => ?_) (fun fa cdv A outer s H vs Q E hr h => ?_)
  · obtain ⟨p, a, st, F, args, rfl, _⟩ := h
    rfl
  · obtain ⟨p, a, st, F, args, rfl, hD, ha, haF, hlen, hst, k⟩ := h
    obtain ⟨i, v, rfl⟩ := args2 hlen
    obtain ⟨d, lo, lw, lc, dx, as, rfl, rfl, B⟩ := hD.open (hst rfl)
    refine ⟨_, pss_one (ps_ret (pe_callC G hr rfl (pa_cons (pe_fld (pv 0) rfl) (pa_cons (pe_ix ix_list (pv 1) pe_int (fun _ _ => rfl)) (pa_cons (pe_ix ix_list (pv 1) pe_int (fun _ _ => rfl)) pa_nil))))), ?_⟩
    refine ⟨_, rfl, p, CD, dx, _, _, rfl, B.at_, TD.cl, TD.nO, dfs_o _ _ _ _ _, _, rfl, a, _, _, _, rfl, rfl, SqL.of ha, atI_of (j := 0) rfl rfl, _, rfl, a, _, _, _, rfl, rfl, SqL.of ha, atI_of (j := 1) rfl rfl, lo, d.old, i, v, rfl, B.old, ?_⟩
    have k' : Ends1 C CD H p [p, lo, lw, lc] (if d.old.length ≤ i then (some d, Km513.say (-2)) else if 999 < v then (some d, Km513.say (-22)) else (some { d with old := d.old.set i v }, Km513.say (Km513.at_ d.old i : Nat))) Q := k
    by_cases h1 : d.old.length ≤ i
    · rw [if_pos h1] at k' ⊢
      exact fun r H' s1 hr1 => k'.reads hD s1 hr1
    rw [if_neg h1] at k' ⊢
    by_cases h2 : 999 < v
    · rw [if_pos h2] at k' ⊢
      exact fun r H' s1 hr1 => k'.reads hD s1 hr1
    rw [if_neg h2] at k' ⊢
    exact fun r H' hl b hr1 => k' r H' _ ⟨lo, lw, lc, dx, as, rfl, B.old_but b hl⟩ (But.kept b (by simp)) (fun b hb => .inl hb) hr1
theorem ok_putW (D : Def K mg "put_wanted" sPutW ["desk", "arguments"]) (TD : TxtD K mg CD) (G : Cal P w K mg base 1 "put" ["cells", "i", "v"] spPut) : Cal P w K mg base 2 "put_wanted" ["desk", "arguments"] (spH C CD 2 true mkWant) := by
  refine D.cal scPutW (fun vs H Q E h => ?_) (fun fa cdv A outer s H vs Q E hr h => ?_)
  · obtain ⟨p, a, st, F, args, rfl, _⟩ := h
    rfl
  · obtain ⟨p, a, st, F, args, rfl, hD, ha, haF, hlen, hst, k⟩ := h
    obtain ⟨i, v, rfl⟩ := args2 hlen
    obtain ⟨d, lo, lw, lc, dx, as, rfl, rfl, B⟩ := hD.open (hst rfl)
    refine ⟨_, pss_one (ps_ret (pe_callC G hr rfl (pa_cons (pe_fld (pv 0) rfl) (pa_cons (pe_ix ix_list (pv 1) pe_int (fun _ _ => rfl)) (pa_cons (pe_ix ix_list (pv 1) pe_int (fun _ _ => rfl)) pa_nil))))), ?_⟩
    refine ⟨_, rfl, p, CD, dx, _, _, rfl, B.at_, TD.cl, TD.nW, dfs_w _ _ _ _ _, _, rfl, a, _, _, _, rfl, rfl, SqL.of ha, atI_of (j := 0) rfl rfl, _, rfl, a, _, _, _, rfl, rfl, SqL.of ha, atI_of (j := 1) rfl rfl, lw, d.new, i, v, rfl, B.new, ?_⟩
    have k' : Ends1 C CD H p [p, lo, lw, lc] (if d.new.length ≤ i then (some d, Km513.say (-2)) else if 999 < v then (some d, Km513.say (-22)) else (some { d with new := d.new.set i v }, Km513.say (Km513.at_ d.new i : Nat))) Q := k
    by_cases h1 : d.new.length ≤ i
    · rw [if_pos h1] at k' ⊢
      exact fun r H' s1 hr1 => k'.reads hD s1 hr1
    rw [if_neg h1] at k' ⊢
    by_cases h2 : 999 < v
    · rw [if_pos h2] at k' ⊢
      exact fun r H' s1 hr1 => k'.reads hD s1 hr1
    rw [if_neg h2] at k' ⊢
    exact fun r H' hl b hr1 => k' r H' _ ⟨lo, lw, lc, dx, as, rfl, B.new_but b hl⟩ (But.kept b (by simp)) (fun b hb => .inl hb) hr1
/-! ### does_fit -/
abbrev sDf : Stmt := top 54
def spDf (C CD : Addr) : Sp := fun vs H Q _ => ∃ (p q lo lw lc dx : Addr) (as : List Addr) (d : Desk) (c : Copy), vs = [.ref p, .ref q] ∧ Begun C CD H p lo lw lc dx as d ∧ CopyAt C H q c ∧ c.f + c.n ≤ d.old.length ∧ c.t + c.n ≤ d.new.length ∧ Q (.bl (Km513.fits d c)) H
theorem scDf : FnScope ["desk", "copy"] ["desk", "copy"] (defScope sDf) := ⟨rfl, rfl, rfl, by decide +kernel, rfl, by decide +kernel, by decide +kernel⟩
theorem ok_df (D : Def K mg "does_fit" sDf ["desk", "copy"]) (TD : TxtD K mg CD) (G : Cal P w K mg base 1 "fits" ["copy", "old", "wanted"] (spFits C)) : Cal P w K mg base 2 "does_fit" ["desk", "copy"] (spDf C CD) := by
  refine D.cal scDf (fun vs H Q E h => ?_) (fun fa cdv A outer s H vs Q E hr h => ?_)
  · obtain ⟨p, q, lo, lw, lc, dx, as, d, c, rfl, _⟩ := h
    rfl
  · obtain ⟨p, q, lo, lw, lc, dx, as, d, c, rfl, B, hc, h1, h2, k⟩ := h
    have := B.wf.ol
    refine ⟨_, pss_one (ps_ret (pe_callC G hr rfl (pa_cons (pv 1) (pa_cons (pe_fld (pv 0) rfl) (pa_cons (pe_fld (pv 0) rfl) pa_nil))))), ?_⟩
    exact ⟨_, rfl, _, rfl, p, CD, dx, _, _, rfl, B.at_, TD.cl, TD.nO, dfs_o _ _ _ _ _, _, rfl, p, CD, dx, _, _, rfl, B.at_, TD.cl, TD.nW, dfs_w _ _ _ _ _, q, lo, lw, c, d, rfl, hc, B.old, B.new, by omega, h1, h2, k⟩
end
end T
set_option Elab.async false
set_option linter.all false
set_option maxRecDepth 100000
namespace T
open PySem PySem.Spec PyProof.Rows L2 R
open Km513 (Copy Desk Choice State Ans)
section
variable {P : Program} {w : World} {K : PySem.W.Frag} {mg : Str → Option Value} {base : Heap} {C CD : Addr}
/-! ### add_copy -/
abbrev sAdd : Stmt := top 55
def mkCopy (l : List Nat) : Km513.Call := .copy (l.getD 0 0) (l.getD 1 0) (l.getD 2 0)
theorem scAdd : FnScope ["desk", "arguments", "copy", "other"] ["desk", "arguments"] (defScope sAdd) := ⟨rfl, rfl, rfl, by decide +kernel, rfl, by decide +kernel, by decide +kernel⟩
theorem Begun.copies_but {H H' : Hp} {p lo lw lc dx : Addr} {as as' : List Addr} {d : Desk} {cs : List Copy} (B : Begun C CD H p lo lw lc dx as d) (b : But lc H H') (h : CopiesAt C H' lc as' cs) (W : M.WF { d with copies := cs }) : Begun C CD H' p lo lw lc dx as' { d with copies := cs } := by
  obtain ⟨n1, n2, n3, n4, n5⟩ := B.apart
  exact ⟨b _ _ B.at_ n3, b _ _ B.old n4, b _ _ B.new n5, h, B.ne, W⟩
theorem ok_add (D : Def K mg "add_copy" sAdd ["desk", "arguments"]) (T : Txt K mg C) (TD : TxtD K mg CD) (G1 : MkC P w K mg base 1 C "Copy" psInitC (spInitC C)) (G2 : Cal P w K mg base 2 "share_new_cell" ["copy", "other"] (spShare C))
    (G3 : Cal P w K mg base 2 "does_fit" ["desk", "copy"] (spDf C CD)) (G4 : Cal P w K mg base 1 "one_or_zero" ["answer"] spOoz) : Cal P w K mg base 3 "add_copy" ["desk", "arguments"] (spH C CD 3 true mkCopy) := by
  obtain ⟨t17, e17⟩ := TD.e17
  obtain ⟨t22, e22⟩ := TD.e22
  obtain ⟨t28, e28⟩ := TD.e28
  obtain ⟨t7, c7⟩ := T.c7
  refine D.cal scAdd (fun vs H Q E h => ?_) (fun fa cdv A outer s H vs Q E hr h => ?_)
  · obtain ⟨p, a, st, F, args, rfl, _⟩ := h
    rfl
  · obtain ⟨p, a, st, F, args, rfl, hD, ha, haF, hlen, hst, k⟩ := h
    obtain ⟨f, t, n, rfl⟩ := args3 hlen
    obtain ⟨d, lo, lw, lc, dx, as, rfl, rfl, B⟩ := hD.open (hst rfl)
    refine ⟨_, pss_cons (ps_set (i := 2) scAdd.nd rfl (Or.inr rfl) (pe_makeC G1 hr rfl (pa_cons (pe_ix ix_list (pv 1) pe_int (fun _ _ => rfl)) (pa_cons (pe_ix ix_list (pv 1) pe_int (fun _ _ => rfl)) (pa_cons (pe_ix ix_list (pv 1) pe_int (fun _ _ => rfl)) pa_nil)))))
      (pss_cons (ps_if (pt_cmpR op_eq (pe_fld (pv 2) rfl) pe_int (nomark _)) (pss_one (ps_ret (pe_lst (pa_cons (pe_glob (v := .int (-22)) (by rfl) e22 ⟨t22, rfl⟩) pa_nil)))) pss_nil)
      (pss_cons (ps_if (PW.pt (pw_or (pt_cmpR op_gt (pe_op op_add (pe_fld (pv 2) rfl) (pe_fld (pv 2) rfl)) (pe_callB call_len_seq (by rfl) T.len PySem.boot_len (pa_cons (pe_fld (pv 0) rfl) pa_nil)) (nomark _))
          (pw_or1 (pt_cmpR op_gt (pe_op op_add (pe_fld (pv 2) rfl) (pe_fld (pv 2) rfl)) (pe_callB call_len_seq (by rfl) T.len PySem.boot_len (pa_cons (pe_fld (pv 0) rfl) pa_nil)) (nomark _)))))
        (pss_one (ps_ret (pe_lst (pa_cons (pe_glob (v := .int (-22)) (by rfl) e22 ⟨t22, rfl⟩) pa_nil)))) pss_nil)
      (pss_cons (ps_if (pt_val (pe_callB (cr_any rfl) (by rfl) T.any (by decide +kernel) (pa_cons (pe_lc (own := [("other", 3)]) (g := gName 3) (by rfl) scAdd.nd (pi_list (pe_fld (pv 0) rfl)) (blkOk_by (own := [("other", 3)]) (N := ["desk", "arguments", "copy", "other"]) (sc := defScope sAdd) (by decide +kernel))
          (fun _ _ _ _ _ => pg_name (i := 3) scAdd.nd rfl (Or.inl rfl)) (fun _ _ _ _ _ => pts_nil) (fun _ _ _ _ _ => pe_callC G2 hr rfl (pa_cons (pv 2) (pa_cons (pv 3) pa_nil)))) pa_nil)))
        (pss_one (ps_ret (pe_lst (pa_cons (pe_glob (v := .int (-17)) (by rfl) e17 ⟨t17, rfl⟩) pa_nil)))) pss_nil)
      (pss_cons (ps_if (pt_cmpR op_eq (pe_callB call_len_seq (by rfl) T.len PySem.boot_len (pa_cons (pe_fld (pv 0) rfl) pa_nil)) (pe_glob (v := .int 7) (by rfl) c7 ⟨t7, rfl⟩) (nomark _)) (pss_one (ps_ret (pe_lst (pa_cons (pe_glob (v := .int (-28)) (by rfl) e28 ⟨t28, rfl⟩) pa_nil)))) pss_nil)
      (pss_cons (ps_expr (pe_bm PySem.F.plainAttrs_list PySem.F.slot_list_append PySem.F.type_list_append mt_append (pe_fld (pv 0) rfl) (pa_cons (pv 2) pa_nil)))
      (pss_one (ps_ret (pe_callC G4 (hr.mono (by decide)) rfl (pa_cons (pe_callC G3 hr rfl (pa_cons (pv 0) (pa_cons (pv 2) pa_nil))) pa_nil))))))))), ?_⟩
    have k' : Ends1 C CD H p [p, lo, lw, lc] (if n = 0 ∨ d.old.length < f + n ∨ d.new.length < t + n then (some d, Km513.say (-22)) else if ((List.range Km513.CELLS).any fun x => Km513.writes ⟨f, t, n⟩ x && d.copies.any fun c => Km513.writes c x) = true then (some d, Km513.say (-17)) else if Km513.COPIES ≤ d.copies.length then (some d, Km513.say (-28))
      else (some { d with copies := d.copies ++ [⟨f, t, n⟩] }, Km513.say (if Km513.fits d ⟨f, t, n⟩ = true then 1 else 0))) Q := k
    refine ⟨_, rfl, a, _, _, _, rfl, rfl, SqL.of ha, atI_of (j := 0) rfl rfl, _, rfl, a, _, _, _, rfl, rfl, SqL.of ha, atI_of (j := 1) rfl rfl, _, rfl, a, _, _, _, rfl, rfl, SqL.of ha, atI_of (j := 2) rfl rfl, ?_⟩
    intro x dy hx hdy hne
    refine ⟨x, dy, f, t, n, rfl, upd_same, fun H1 hc kp => ⟨rfl, ?_⟩⟩
    have s1 := Same.made hx hdy kp
    obtain ⟨dz, hc⟩ := hc
    have B1 := B.same s1
    have bad : ∀ z : Int, Ends1 C CD H p [p, lo, lw, lc] (some d, Km513.say z) Q → ∀ H', Same H H' → 1 ≤ sizeLine ∧ ∀ r, H' r = none → Q (.ref r) (upd H' r (.lst [V.int z])) := by
      intro z k2 H' s2
      exact ⟨by decide, fun r hr0 => k2.reads hD (s2.trans (Same.upd (Same.refl H') hr0)) upd_same⟩
    refine ⟨_, rfl, x, C, dz, _, _, rfl, hc, T.cl, T.nL, cfs_l _, rfl, _, rfl, ?_⟩
    refine ite2 (fun h1 => ?_) (fun h1 => ?_)
    · have q1 : n = 0 := int_eq.mp h1
      rw [if_pos (.inl q1)] at k'
      exact bad _ k' H1 s1
    have q1 : ¬ n = 0 := fun z => h1 (int_eq.mpr z)
    refine ⟨_, rfl, x, C, dz, _, _, rfl, hc, T.cl, T.nS, cfs_s _, _, rfl, x, C, dz, _, _, rfl, hc, T.cl, T.nL, cfs_l _, _, _, rfl, rfl, _, rfl, p, CD, dx, _, _, rfl, B1.at_, TD.cl, TD.nO, dfs_o _ _ _ _ _, lo, _, rfl, .inl (SqL.of B1.old), _, _, rfl, rfl, _, rfl, ?_⟩
    refine ite2 (fun h2 => ?_) (fun h2 => ?_)
    · have q2 : d.old.length < f + n := by
        have := of_decide_eq_true h2
        rw [nV_len] at this
        have e : (((⟨f, t, n⟩ : Copy).f : Int) + ((⟨f, t, n⟩ : Copy).n : Int)) = (f : Int) + (n : Int) := rfl
        omega
      rw [if_pos (.inr (.inl q2))] at k'
      exact iteT (bad _ k' H1 s1)
    have q2 : ¬ d.old.length < f + n := fun z => h2 (decide_eq_true (by rw [nV_len]; show (d.old.length : Int) < (f : Int) + (n : Int); omega))
    refine ⟨_, rfl, x, C, dz, _, _, rfl, hc, T.cl, T.nT, cfs_t _, _, rfl, x, C, dz, _, _, rfl, hc, T.cl, T.nL, cfs_l _, _, _, rfl, rfl, _, rfl, p, CD, dx, _, _, rfl, B1.at_, TD.cl, TD.nW, dfs_w _ _ _ _ _, lw, _, rfl, .inl (SqL.of B1.new), _, _, rfl, rfl, _, rfl, ?_⟩
    refine ite2 (fun h3 => ?_) (fun h3 => ?_)
    · have q3 : d.new.length < t + n := by
        have := of_decide_eq_true h3
        rw [nV_len] at this
        have e : (((⟨f, t, n⟩ : Copy).t : Int) + ((⟨f, t, n⟩ : Copy).n : Int)) = (t : Int) + (n : Int) := rfl
        omega
      rw [if_pos (.inr (.inr q3))] at k'
      exact bad _ k' H1 s1
    have q3 : ¬ d.new.length < t + n := fun z => h3 (decide_eq_true (by rw [nV_len]; show (d.new.length : Int) < (t : Int) + (n : Int); omega))
    have ng : ¬ (n = 0 ∨ d.old.length < f + n ∨ d.new.length < t + n) := by omega
    have k0 := k'
    rw [if_neg ng] at k'
    have nl := B.wf.nl
    rw [M.writes_any (c := ⟨f, t, n⟩) d.copies (show t + n ≤ 16 by omega) (show 1 ≤ n by omega) (fun e he => by have := B.wf.ok e he; omega)] at k'
    refine ⟨_, rfl, p, CD, dx, _, _, rfl, B1.at_, TD.cl, TD.nC, dfs_c _ _ _ _ _, lc, rfl, ⟨_, SqL.of B1.cps.lst⟩, fun r hr0 => lc_list (K := K) (a := lc) (xs := as.map V.ref) (fun m H' => Same H1 H' ∧ H' r = some (.lst (bV ((d.copies.take m).map fun e => M.ov t n e.t e.n))))
      ⟨Same.upd (Same.refl H1) hr0, upd_same⟩ (fun m H' _ ⟨s2, _⟩ => SqL.of (s2 _ _ B1.cps.lst)) ?_ ?_⟩
    · rintro m y H' hy ⟨s2, hr1⟩
      obtain ⟨b, hb, rfl⟩ := refs_inv hy
      have hm : m < d.copies.length := by
        have := (List.getElem?_eq_some_iff.mp hb).1
        have := B.cps.len
        omega
      have hcm : d.copies[m]? = some d.copies[m] := List.getElem?_eq_getElem hm
      generalize d.copies[m] = e at hcm
      refine ⟨rfl, ?_⟩
      show (tCall (spShare C) [] E0 (tCons (tVar 2) (tCons (tVar 3) tNil))) _ H' fun y H4 => ∃ acc, H4 r = some (.lst acc) ∧ acc.length < sizeLine ∧ (Same H1 (upd H4 r (.lst (acc ++ [y]))) ∧ upd H4 r (.lst (acc ++ [y])) r = some (.lst (bV ((d.copies.take (m + 1)).map fun e => M.ov t n e.t e.n))))
      refine ⟨_, rfl, _, rfl, x, b, ⟨f, t, n⟩, e, rfl, ⟨dz, s2 _ _ hc⟩, ((B1.cps.same s2).at_ m b e hb hcm), _, hr1, ?_, Same.upd s2 hr0, ?_⟩
      · rw [bV_len, List.length_map, List.length_take]
        have := B.wf.cl
        exact small1000 (by omega)
      · rw [upd_same, take_snoc hcm, List.map_append]
        show _ = some (HO.lst ((_ : List Bool).map V.bl))
        rw [List.map_append]
        rfl
    rintro H2 ⟨s2, hr2⟩
    have eL : (as.map V.ref).length = d.copies.length := by rw [List.length_map, B.cps.len]
    rw [eL, List.take_length] at hr2
    refine ⟨r, _, rfl, SqL.of hr2, _, rfl, ?_⟩
    have s12 := s1.trans s2
    have B2 := B.same s12
    have eany : ((d.copies.map fun e => M.ov t n e.t e.n).any id) = d.copies.any fun e => M.ov t n e.t e.n := by
      rw [List.any_map]
      rfl
    rw [eany]
    refine ite2 (fun h4 => ?_) (fun h4 => ?_)
    · rw [if_pos h4] at k'
      exact bad _ k' H2 s12
    rw [if_neg h4] at k'
    refine ⟨_, rfl, p, CD, dx, _, _, rfl, B2.at_, TD.cl, TD.nC, dfs_c _ _ _ _ _, lc, _, rfl, .inl (SqL.of B2.cps.lst), rfl, _, rfl, ?_⟩
    have h7 := B.wf.cl
    refine ite2 (fun h5 => ?_) (fun h5 => ?_)
    · have q5 : (as.map V.ref).length = 7 := int_eq.mp h5
      rw [if_pos (by show 7 ≤ d.copies.length; omega)] at k'
      exact bad _ k' H2 s12
    have q5 : ¬ (as.map V.ref).length = 7 := fun z => h5 (int_eq.mpr z)
    have q7 : ¬ Km513.COPIES ≤ d.copies.length := by show ¬ 7 ≤ d.copies.length; omega
    rw [if_neg q7] at k'
    refine ⟨_, rfl, p, CD, dx, _, _, rfl, B2.at_, TD.cl, TD.nC, dfs_c _ _ _ _ _, .inl ⟨rfl, _, SqL.of B2.cps.lst⟩, _, rfl, lc, _, _, rfl, rfl, B2.cps.lst, by rw [List.length_map]; have := B.cps.len; exact small1000 (by omega), ?_⟩
    have b3 : But lc H2 (upd H2 lc (.lst (as.map V.ref ++ [V.ref x]))) := (But.of (Same.refl H2)).upd
    have W : M.WF { d with copies := d.copies ++ [⟨f, t, n⟩] } := by
      refine M.wf_copy B.wf ng ?_ q7
      rw [M.writes_any (c := ⟨f, t, n⟩) d.copies (show t + n ≤ 16 by omega) (show 1 ≤ n by omega) (fun e he => by have := B.wf.ok e he; omega)]
      exact h4
    have B3 := B2.copies_but b3 (B2.cps.snoc ⟨dz, s2 _ _ hc⟩) W
    have hxl : x ≠ lc := ne_of (s2 _ _ hc) B2.cps.lst (by intro z; cases z)
    refine ⟨_, rfl, _, rfl, p, x, lo, lw, lc, dx, _, _, ⟨f, t, n⟩, rfl, B3, ⟨dz, by rw [upd_ne hxl]; exact s2 _ _ hc⟩, by show f + n ≤ d.old.length; omega, by show t + n ≤ d.new.length; omega, ?_⟩
    refine ⟨Km513.fits d ⟨f, t, n⟩, rfl, fun r4 H4 hr4 s4 e4 => ?_⟩
    refine k' r4 H4 [p, lo, lw, lc] ⟨lo, lw, lc, dx, _, rfl, B3.same s4⟩ ?_ (fun b hb => .inl hb) ?_
    · intro b o e hb
      exact s4 _ _ (b3 _ _ (s12 _ _ e) fun z => hb (by rw [z]; simp))
    · rw [e4]
      rfl
/-! ### drop -/
abbrev sDrop : Stmt := top 56
def mkDrop (l : List Nat) : Km513.Call := .drop (l.getD 0 0)
theorem scDrop : FnScope ["desk", "arguments", "i"] ["desk", "arguments"] (defScope sDrop) := ⟨rfl, rfl, rfl, by decide +kernel, rfl, by decide +kernel, by decide +kernel⟩
theorem map_erase : ∀ (as : List Addr) (i : Nat), (as.map V.ref).eraseIdx i = (as.eraseIdx i).map V.ref
  | [], _ => rfl
  | _ :: _, 0 => rfl
  | a :: as, i + 1 => by
    show V.ref a :: (as.map V.ref).eraseIdx i = V.ref a :: (as.eraseIdx i).map V.ref
    rw [map_erase as i]
theorem CopiesAt.erase {H : Hp} {l : Addr} {as : List Addr} {cs : List Copy} (h : CopiesAt C H l as cs) (i : Nat) : CopiesAt C (upd H l (.lst ((as.map V.ref).eraseIdx i))) l (as.eraseIdx i) (cs.eraseIdx i) := by
  refine ⟨by rw [upd_same, map_erase], by rw [List.length_eraseIdx, List.length_eraseIdx, h.len], fun j a c h1 h2 => ?_⟩
  have keep : ∀ {a : Addr} {c : Copy}, CopyAt C H a c → CopyAt C (upd H l (.lst ((as.map V.ref).eraseIdx i))) a c := fun {a c} ⟨dx, e⟩ => ⟨dx, by rw [upd_ne (ne_of e h.lst (by intro z; cases z))]; exact e⟩
  rw [List.getElem?_eraseIdx] at h1 h2
  by_cases hj : j < i
  · rw [if_pos hj] at h1 h2
    exact keep (h.at_ _ _ _ h1 h2)
  · rw [if_neg hj] at h1 h2
    exact keep (h.at_ _ _ _ h1 h2)
theorem seqIndex_nat {i n : Nat} (h : i < n) : seqIndex? (i : Int) n = some i := by
  unfold seqIndex?
  simp
  omega
theorem ok_drop (D : Def K mg "drop" sDrop ["desk", "arguments"]) (T : Txt K mg C) (TD : TxtD K mg CD) : Cal P w K mg base 1 "drop" ["desk", "arguments"] (spH C CD 1 true mkDrop) := by
  obtain ⟨t2, e2⟩ := TD.e2
  refine D.cal scDrop (fun vs H Q E h => ?_) (fun fa cdv A outer s H vs Q E hr h => ?_)
  · obtain ⟨p, a, st, F, args, rfl, _⟩ := h
    rfl
  · obtain ⟨p, a, st, F, args, rfl, hD, ha, haF, hlen, hst, k⟩ := h
    obtain ⟨i, rfl⟩ := args1 hlen
    obtain ⟨d, lo, lw, lc, dx, as, rfl, rfl, B⟩ := hD.open (hst rfl)
    refine ⟨_, pss_cons (ps_set (i := 2) scDrop.nd rfl (Or.inl rfl) (pe_ix ix_list (pv 1) pe_int (fun _ _ => rfl)))
      (pss_cons (ps_if (pt_cmpR op_ge (pv 2) (pe_callB call_len_seq (by rfl) T.len PySem.boot_len (pa_cons (pe_fld (pv 0) rfl) pa_nil)) (nomark _)) (pss_one (ps_ret (pe_lst (pa_cons (pe_glob (v := .int (-2)) (by rfl) e2 ⟨t2, rfl⟩) pa_nil)))) pss_nil)
      (pss_cons (ps_expr (pe_bm PySem.F.plainAttrs_list PySem.F.slot_list_pop PySem.F.type_list_pop mt_popAt (pe_fld (pv 0) rfl) (pa_cons (pv 2) pa_nil)))
      (pss_one (ps_ret (pe_lst (pa_cons (pe_callB call_len_seq (by rfl) T.len PySem.boot_len (pa_cons (pe_fld (pv 0) rfl) pa_nil)) pa_nil)))))), ?_⟩
    have k' : Ends1 C CD H p [p, lo, lw, lc] (if d.copies.length ≤ i then (some d, Km513.say (-2)) else (some { d with copies := d.copies.take i ++ d.copies.drop (i + 1) }, Km513.say (d.copies.length - 1 : Nat))) Q := k
    have eL : (as.map V.ref).length = d.copies.length := by rw [List.length_map, B.cps.len]
    have h7 := B.wf.cl
    refine ⟨_, rfl, a, _, _, _, rfl, rfl, SqL.of ha, atI_of (j := 0) rfl rfl, _, rfl, _, rfl, p, CD, dx, _, _, rfl, B.at_, TD.cl, TD.nC, dfs_c _ _ _ _ _, lc, _, rfl, .inl (SqL.of B.cps.lst), _, _, rfl, rfl, _, rfl, ?_⟩
    refine ite2 (fun h1 => ?_) (fun h1 => ?_)
    · have q1 : d.copies.length ≤ i := by
        have := of_decide_eq_true h1
        rw [eL] at this
        omega
      rw [if_pos q1] at k'
      exact ⟨by show 1 ≤ sizeLine; decide, fun r hr0 => k'.reads hD (Same.upd (Same.refl H) hr0) upd_same⟩
    have q1 : ¬ d.copies.length ≤ i := fun z => h1 (decide_eq_true (by rw [eL]; omega))
    rw [if_neg q1] at k'
    have hi : i < (as.map V.ref).length := by rw [eL]; omega
    refine ⟨_, rfl, p, CD, dx, _, _, rfl, B.at_, TD.cl, TD.nC, dfs_c _ _ _ _ _, .inl ⟨rfl, _, SqL.of B.cps.lst⟩, _, rfl, lc, _, (i : Int), i, _, rfl, rfl, B.cps.lst, by omega, by omega, seqIndex_nat hi, List.getElem?_eq_getElem hi, ?_⟩
    have b3 : But lc H (upd H lc (.lst ((as.map V.ref).eraseIdx i))) := (But.of (Same.refl H)).upd
    have e3 : d.copies.take i ++ d.copies.drop (i + 1) = d.copies.eraseIdx i := (List.eraseIdx_eq_take_drop_succ ..).symm
    have W := M.wf_drop B.wf i
    rw [e3] at W k'
    have B3 := B.copies_but b3 (B.cps.erase i) W
    refine ⟨_, rfl, p, CD, dx, _, _, rfl, B3.at_, TD.cl, TD.nC, dfs_c _ _ _ _ _, lc, _, rfl, .inl (SqL.of B3.cps.lst), by show 1 ≤ sizeLine; decide, fun r hr0 => ?_⟩
    have s4 := Same.upd (o := HO.lst [V.int (((as.eraseIdx i).map V.ref).length : Nat)]) (Same.refl (upd H lc (.lst ((as.map V.ref).eraseIdx i)))) hr0
    refine k' r _ [p, lo, lw, lc] ⟨lo, lw, lc, dx, _, rfl, B3.same s4⟩ ?_ (fun b hb => .inl hb) ?_
    · intro b o e hb
      exact s4 _ _ (b3 _ _ e fun z => hb (by rw [z]; simp))
    · rw [upd_same]
      show some (HO.lst [V.int (((as.eraseIdx i).map V.ref).length : Nat)]) = some (HO.lst [V.int ((d.copies.length - 1 : Nat) : Int)])
      rw [List.length_map, List.length_eraseIdx, if_pos (by rw [B.cps.len]; omega), B.cps.len]
end
end T
set_option Elab.async false
set_option linter.all false
set_option maxRecDepth 100000
namespace T
open PySem PySem.Spec PyProof.Rows L2 R
open Km513 (Copy Desk Choice State Ans)
section
variable {P : Program} {w : World} {K : PySem.W.Frag} {mg : Str → Option Value} {base : Heap} {C CD : Addr}
/-! ### as_told -/
abbrev sTold0 : Stmt := top 57
def told3 (c : Copy) : List Int := [(c.f : Int), (c.t : Int), (c.n : Int)]
def spTold0 (C : Addr) : Sp := fun vs H Q _ => ∃ (p : Addr) (c : Copy), vs = [.ref p] ∧ CopyAt C H p c ∧ ∀ (r : Addr) (H' : Hp), H r = none → Same H H' → H' r = some (.lst (iV (told3 c))) → Q (.ref r) H'
theorem scTold0 : FnScope ["copy"] ["copy"] (defScope sTold0) := ⟨rfl, rfl, rfl, by decide +kernel, rfl, by decide +kernel, by decide +kernel⟩
theorem ok_told0 (D : Def K mg "as_told" sTold0 ["copy"]) (T : Txt K mg C) : Cal P w K mg base 1 "as_told" ["copy"] (spTold0 C) := by
  refine D.cal scTold0 (fun vs H Q E h => ?_) (fun fa cdv A outer s H vs Q E hr h => ?_)
  · obtain ⟨p, c, rfl, _⟩ := h
    rfl
  · obtain ⟨p, c, rfl, ⟨dz, hc⟩, k⟩ := h
    refine ⟨_, pss_one (ps_ret (pe_lst (pa_cons (pe_fld (pv 0) rfl) (pa_cons (pe_fld (pv 0) rfl) (pa_cons (pe_fld (pv 0) rfl) pa_nil))))), ?_⟩
    refine ⟨_, rfl, p, C, dz, _, _, rfl, hc, T.cl, T.nS, cfs_s c, _, rfl, p, C, dz, _, _, rfl, hc, T.cl, T.nT, cfs_t c, _, rfl, p, C, dz, _, _, rfl, hc, T.cl, T.nL, cfs_l c, by show 3 ≤ sizeLine; decide, fun z hz => ?_⟩
    exact k z _ hz (Same.upd (Same.refl H) hz) upd_same
/-! ### found -/
abbrev sFnd : Stmt := top 58
def mkFound (_ : List Nat) : Km513.Call := .found
theorem scFnd : FnScope ["desk", "arguments", "copies", "answer", "copy"] ["desk", "arguments"] (defScope sFnd) := ⟨rfl, rfl, rfl, by decide +kernel, rfl, by decide +kernel, by decide +kernel⟩
def tri (l : List Copy) : List Int := l.flatMap fun c => [(c.f : Int), (c.t : Int), (c.n : Int)]
theorem tri_snoc (l : List Copy) (c : Copy) : tri (l ++ [c]) = tri l ++ [(c.f : Int), (c.t : Int), (c.n : Int)] := by
  unfold tri
  rw [List.flatMap_append, List.flatMap_cons, List.flatMap_nil, List.append_nil]
theorem tri_len : ∀ l : List Copy, (tri l).length = 3 * l.length
  | [] => rfl
  | c :: l => by
    show ([(c.f : Int), (c.t : Int), (c.n : Int)] ++ tri l).length = 3 * (l.length + 1)
    rw [List.length_append, tri_len l]
    show 3 + 3 * l.length = _
    omega
theorem found_len {d : Desk} (W : M.WF d) : (Km513.found d).length ≤ 7 := (M.wf_found W).cl
theorem iV_app (a b : List Int) : iV (a ++ b) = iV a ++ iV b := List.map_append ..
theorem ok_fnd (D : Def K mg "found" sFnd ["desk", "arguments"]) (T : Txt K mg C) (TD : TxtD K mg CD) (G : Cal P w K mg base 4 "found_copies" ["old", "wanted"] (spFound C)) (G2 : Cal P w K mg base 1 "as_told" ["copy"] (spTold0 C)) : Cal P w K mg base 5 "found" ["desk", "arguments"] (spH C CD 0 true mkFound) := by
  refine D.cal scFnd (fun vs H Q E h => ?_) (fun fa cdv A outer s H vs Q E hr h => ?_)
  · obtain ⟨p, a, st, F, args, rfl, _⟩ := h
    rfl
  · obtain ⟨p, a, st, F, args, rfl, hD, ha, haF, hlen, hst, k⟩ := h
    obtain ⟨d, lo, lw, lc, dx, as, rfl, rfl, B⟩ := hD.open (hst rfl)
    refine ⟨_, pss_cons (ps_set (i := 2) scFnd.nd rfl (Or.inl rfl) (pe_callC G hr rfl (pa_cons (pe_fld (pv 0) rfl) (pa_cons (pe_fld (pv 0) rfl) pa_nil))))
      (pss_cons (ps_set (i := 3) scFnd.nd rfl (Or.inl rfl) (pe_lst (pa_cons (pe_callB call_len_seq (by rfl) T.len PySem.boot_len (pa_cons (pv 2) pa_nil)) pa_nil)))
      (pss_cons (ps_for PassesOwn.never rfl (pi_list (pv 2)) (pg_name (i := 4) scFnd.nd rfl (Or.inl rfl))
        (pss_one (ps_expr (pe_bm PySem.F.plainAttrs_list PySem.F.slot_list_extend PySem.F.type_list_extend mt_extend (pv 3) (pa_cons (pe_callC G2 (hr.mono (by decide)) rfl (pa_cons (pv 4) pa_nil)) pa_nil)))))
      (pss_one (ps_ret (pv 3))))), ?_⟩
    refine ⟨_, rfl, p, CD, dx, _, _, rfl, B.at_, TD.cl, TD.nO, dfs_o _ _ _ _ _, _, rfl, p, CD, dx, _, _, rfl, B.at_, TD.cl, TD.nW, dfs_w _ _ _ _ _, lo, lw, d, rfl, B.wf, B.old, B.new, fun r bs H1 hr0 s1 hC => ?_⟩
    have h7 := found_len B.wf
    have hcl := hC.len
    have k' : Ends1 C CD H p [p, lo, lw, lc] (some d, Km513.triples (Km513.found d)) Q := k
    refine ⟨_, rfl, r, _, rfl, .inl (SqL.of hC.lst), by show 1 ≤ sizeLine; decide, fun q hq => ?_⟩
    have hqH := s1.free hq
    have s2 : Same H1 (upd H1 q (.lst [V.int ((bs.map V.ref).length : Nat)])) := Same.upd (Same.refl H1) hq
    refine ⟨_, rfl, r, rfl, ⟨_, SqL.of (s2 _ _ hC.lst)⟩, for_list (K := K) (a := r) (xs := bs.map V.ref)
      (fun m σ H' => Same H1 H' ∧ (∃ v, σ = [some (.ref p), some (.ref a), some (.ref r), some (.ref q), v]) ∧ H' q = some (.lst (iV (((Km513.found d).length : Int) :: tri ((Km513.found d).take m)))))
      ⟨s2, ⟨none, rfl⟩, ?_⟩ (fun m σ H' _ ⟨s3, _⟩ => SqL.of (s3 _ _ hC.lst)) ?_ ?_⟩
    · rw [upd_same, List.length_map, hcl]
      rfl
    · rintro m x σ H' hx ⟨s3, ⟨v, rfl⟩, hq3⟩
      obtain ⟨b, hb, rfl⟩ := refs_inv hx
      have hm : m < (Km513.found d).length := by
        have := (List.getElem?_eq_some_iff.mp hb).1
        omega
      have hcm : (Km513.found d)[m]? = some (Km513.found d)[m] := List.getElem?_eq_getElem hm
      generalize (Km513.found d)[m] = c at hcm
      refine ⟨_, rfl, .inl ⟨rfl, _, SqL.of hq3⟩, _, rfl, b, c, rfl, (hC.same s3).at_ m b c hb hcm, fun z H4 hz s4 hz4 => ?_⟩
      refine ⟨q, z, _, _, rfl, rfl, s4 _ _ hq3, hz4, ?_, ?_⟩
      · rw [iV_len, List.length_cons, tri_len, List.length_take]
        exact Nat.le_of_lt (small1000 (by show _ + 3 ≤ 1000; omega))
      · refine ⟨Same.upd (s3.trans s4) hq, ⟨_, rfl⟩, ?_⟩
        rw [upd_same, take_snoc hcm, tri_snoc, ← List.cons_append, iV_app]
        rfl
    · rintro σ H' ⟨s3, ⟨v, rfl⟩, hq3⟩
      rw [List.length_map, hcl, List.take_length] at hq3
      exact ⟨_, rfl, k'.reads hD (s1.trans s3) hq3⟩
/-! ### take -/
abbrev sTake : Stmt := top 59
def mkTake (_ : List Nat) : Km513.Call := .take
theorem scTake : FnScope ["desk", "arguments"] ["desk", "arguments"] (defScope sTake) := ⟨rfl, rfl, rfl, by decide +kernel, rfl, by decide +kernel, by decide +kernel⟩
theorem ok_take (D : Def K mg "take" sTake ["desk", "arguments"]) (T : Txt K mg C) (TD : TxtD K mg CD) (G : Cal P w K mg base 4 "found_copies" ["old", "wanted"] (spFound C)) : Cal P w K mg base 5 "take" ["desk", "arguments"] (spH C CD 0 true mkTake) := by
  refine D.cal scTake (fun vs H Q E h => ?_) (fun fa cdv A outer s H vs Q E hr h => ?_)
  · obtain ⟨p, a, st, F, args, rfl, _⟩ := h
    rfl
  · obtain ⟨p, a, st, F, args, rfl, hD, ha, haF, hlen, hst, k⟩ := h
    obtain ⟨d, lo, lw, lc, dx, as, rfl, rfl, B⟩ := hD.open (hst rfl)
    refine ⟨_, pss_cons (ps_fld (pv 0) (pe_callC G hr rfl (pa_cons (pe_fld (pv 0) rfl) (pa_cons (pe_fld (pv 0) rfl) pa_nil))) rfl)
      (pss_one (ps_ret (pe_lst (pa_cons (pe_callB call_len_seq (by rfl) T.len PySem.boot_len (pa_cons (pe_fld (pv 0) rfl) pa_nil)) pa_nil)))), ?_⟩
    refine ⟨_, rfl, p, CD, dx, _, _, rfl, B.at_, TD.cl, TD.nO, dfs_o _ _ _ _ _, _, rfl, p, CD, dx, _, _, rfl, B.at_, TD.cl, TD.nW, dfs_w _ _ _ _ _, lo, lw, d, rfl, B.wf, B.old, B.new, fun r bs H1 hr0 s1 hC => ?_⟩
    have k' : Ends1 C CD H p [p, lo, lw, lc] (some { d with copies := Km513.found d }, Km513.say ((Km513.found d).length : Nat)) Q := k
    have B1 := B.same s1
    obtain ⟨n1, n2, n3, n4, n5⟩ := B1.apart
    have hpr : p ≠ r := ne_of_none B.at_ hr0
    refine ⟨_, rfl, p, CD, dx, _, rfl, B1.at_, TD.cl, TD.nC, (by show 5 < 1000; decide), ?_⟩
    have b2 : But p H1 (upd H1 p (.ins CD dx (dfs true lo lw d.spare r))) := (But.of (Same.refl H1)).upd
    have hC2 : CopiesAt C (upd H1 p (.ins CD dx (dfs true lo lw d.spare r))) r bs (Km513.found d) := by
      refine ⟨b2 _ _ hC.lst (Ne.symm hpr), hC.len, fun j b c h1 h2 => ?_⟩
      obtain ⟨dz, e⟩ := hC.at_ j b c h1 h2
      refine ⟨dz, b2 _ _ e (ne_of e B1.at_ ?_)⟩
      intro z
      have := (HO.ins.inj z).2.2
      cases this
    have B2 : Begun C CD (upd H1 p (.ins CD dx (dfs true lo lw d.spare r))) p lo lw r dx bs { d with copies := Km513.found d } :=
      ⟨upd_same, b2 _ _ B1.old (Ne.symm n1), b2 _ _ B1.new (Ne.symm n2), hC2, B.ne, M.wf_found B.wf⟩
    refine ⟨_, rfl, p, CD, dx, _, _, rfl, B2.at_, TD.cl, TD.nC, dfs_c _ _ _ _ _, r, _, rfl, .inl (SqL.of B2.cps.lst), by show 1 ≤ sizeLine; decide, fun q hq => ?_⟩
    have s3 := Same.upd (o := HO.lst [V.int ((bs.map V.ref).length : Nat)]) (Same.refl (upd H1 p (.ins CD dx (dfs true lo lw d.spare r)))) hq
    refine k' q _ [p, lo, lw, r] ⟨lo, lw, r, dx, bs, rfl, B2.same s3⟩ ?_ ?_ ?_
    · intro b o e hb
      exact s3 _ _ (b2 _ _ (s1 _ _ e) fun z => hb (by rw [z]; simp))
    · intro b hb
      simp only [List.mem_cons, List.not_mem_nil, or_false] at hb
      rcases hb with rfl | rfl | rfl | rfl
      · exact .inl (by simp)
      · exact .inl (by simp)
      · exact .inl (by simp)
      · exact .inr hr0
    · rw [upd_same, List.length_map, hC.len]
      rfl
/-! ### tell_fits -/
abbrev sTf : Stmt := top 60
def mkFits (l : List Nat) : Km513.Call := .fits (l.getD 0 0)
theorem scTf : FnScope ["desk", "arguments", "i"] ["desk", "arguments"] (defScope sTf) := ⟨rfl, rfl, rfl, by decide +kernel, rfl, by decide +kernel, by decide +kernel⟩
theorem ok_tf (D : Def K mg "tell_fits" sTf ["desk", "arguments"]) (T : Txt K mg C) (TD : TxtD K mg CD) (G3 : Cal P w K mg base 2 "does_fit" ["desk", "copy"] (spDf C CD)) (G4 : Cal P w K mg base 1 "one_or_zero" ["answer"] spOoz) : Cal P w K mg base 3 "tell_fits" ["desk", "arguments"] (spH C CD 1 true mkFits) := by
  obtain ⟨t2, e2⟩ := TD.e2
  refine D.cal scTf (fun vs H Q E h => ?_) (fun fa cdv A outer s H vs Q E hr h => ?_)
  · obtain ⟨p, a, st, F, args, rfl, _⟩ := h
    rfl
  · obtain ⟨p, a, st, F, args, rfl, hD, ha, haF, hlen, hst, k⟩ := h
    obtain ⟨i, rfl⟩ := args1 hlen
    obtain ⟨d, lo, lw, lc, dx, as, rfl, rfl, B⟩ := hD.open (hst rfl)
    refine ⟨_, pss_cons (ps_set (i := 2) scTf.nd rfl (Or.inl rfl) (pe_ix ix_list (pv 1) pe_int (fun _ _ => rfl)))
      (pss_cons (ps_if (pt_cmpR op_ge (pv 2) (pe_callB call_len_seq (by rfl) T.len PySem.boot_len (pa_cons (pe_fld (pv 0) rfl) pa_nil)) (nomark _)) (pss_one (ps_ret (pe_lst (pa_cons (pe_glob (v := .int (-2)) (by rfl) e2 ⟨t2, rfl⟩) pa_nil)))) pss_nil)
      (pss_one (ps_ret (pe_callC G4 (hr.mono (by decide)) rfl (pa_cons (pe_callC G3 hr rfl (pa_cons (pv 0) (pa_cons (pe_ix ix_list (pe_fld (pv 0) rfl) (pv 2) (fun _ _ => rfl)) pa_nil))) pa_nil))))), ?_⟩
    have k' : Ends1 C CD H p [p, lo, lw, lc] (some d, if d.copies.length ≤ i then Km513.say (-2) else Km513.say (if Km513.fits d (Km513.copy d i) = true then 1 else 0)) Q := k
    have eL : (as.map V.ref).length = d.copies.length := by rw [List.length_map, B.cps.len]
    refine ⟨_, rfl, a, _, _, _, rfl, rfl, SqL.of ha, atI_of (j := 0) rfl rfl, _, rfl, _, rfl, p, CD, dx, _, _, rfl, B.at_, TD.cl, TD.nC, dfs_c _ _ _ _ _, lc, _, rfl, .inl (SqL.of B.cps.lst), _, _, rfl, rfl, _, rfl, ?_⟩
    refine ite2 (fun h1 => ?_) (fun h1 => ?_)
    · have q1 : d.copies.length ≤ i := by
        have := of_decide_eq_true h1
        rw [eL] at this
        omega
      rw [if_pos q1] at k'
      exact ⟨by show 1 ≤ sizeLine; decide, fun r hr0 => k'.reads hD (Same.upd (Same.refl H) hr0) upd_same⟩
    have q1 : ¬ d.copies.length ≤ i := fun z => h1 (decide_eq_true (by rw [eL]; omega))
    rw [if_neg q1] at k'
    obtain ⟨b, hb, hv, hc⟩ := B.cps.get (d := d) (i := i) (by omega)
    have wc := B.wf.copy (i := i) (by omega)
    refine ⟨_, rfl, _, rfl, p, CD, dx, _, _, rfl, B.at_, TD.cl, TD.nC, dfs_c _ _ _ _ _, _, rfl, lc, _, _, _, rfl, rfl, SqL.of B.cps.lst, atI_of rfl hv, p, b, lo, lw, lc, dx, as, d, _, rfl, B, hc, wc.2.1, wc.2.2, ?_⟩
    refine ⟨_, rfl, fun r4 H4 hr4 s4 e4 => k'.reads hD s4 ?_⟩
    rw [e4]
    rfl
/-! ### ahead -/
abbrev sAh : Stmt := top 61
def mkAhead (l : List Nat) : Km513.Call := .ahead (l.getD 0 0)
theorem scAh : FnScope ["desk", "arguments", "i"] ["desk", "arguments"] (defScope sAh) := ⟨rfl, rfl, rfl, by decide +kernel, rfl, by decide +kernel, by decide +kernel⟩
theorem ok_ah (D : Def K mg "ahead" sAh ["desk", "arguments"]) (T : Txt K mg C) (TD : TxtD K mg CD) (G1 : Cal P w K mg base 3 "ahead_of" ["copies", "i", "numbers"] (spAheadOf C)) (G2 : Cal P w K mg base 1 "counted" ["numbers"] spCounted) : Cal P w K mg base 4 "ahead" ["desk", "arguments"] (spH C CD 1 true mkAhead) := by
  obtain ⟨t2, e2⟩ := TD.e2
  refine D.cal scAh (fun vs H Q E h => ?_) (fun fa cdv A outer s H vs Q E hr h => ?_)
  · obtain ⟨p, a, st, F, args, rfl, _⟩ := h
    rfl
  · obtain ⟨p, a, st, F, args, rfl, hD, ha, haF, hlen, hst, k⟩ := h
    obtain ⟨i, rfl⟩ := args1 hlen
    obtain ⟨d, lo, lw, lc, dx, as, rfl, rfl, B⟩ := hD.open (hst rfl)
    refine ⟨_, pss_cons (ps_set (i := 2) scAh.nd rfl (Or.inl rfl) (pe_ix ix_list (pv 1) pe_int (fun _ _ => rfl)))
      (pss_cons (ps_if (pt_cmpR op_ge (pv 2) (pe_callB call_len_seq (by rfl) T.len PySem.boot_len (pa_cons (pe_fld (pv 0) rfl) pa_nil)) (nomark _)) (pss_one (ps_ret (pe_lst (pa_cons (pe_glob (v := .int (-2)) (by rfl) e2 ⟨t2, rfl⟩) pa_nil)))) pss_nil)
      (pss_one (ps_ret (pe_callC G2 (hr.mono (by decide)) rfl (pa_cons (pe_callC G1 hr rfl (pa_cons (pe_fld (pv 0) rfl) (pa_cons (pv 2) (pa_cons (pe_callTy (call_list_rng hr.hd) (by rfl) T.list (by decide +kernel) (pa_cons (pe_callTy call_range (by rfl) T.range (by decide +kernel) (pa_cons (pe_callB call_len_seq (by rfl) T.len PySem.boot_len (pa_cons (pe_fld (pv 0) rfl) pa_nil)) pa_nil)) pa_nil)) pa_nil)))) pa_nil))))), ?_⟩
    have k' : Ends1 C CD H p [p, lo, lw, lc] (some d, if d.copies.length ≤ i then Km513.say (-2) else Km513.tellAll ((Km513.numbers d).filter fun a => Km513.ahead d a i)) Q := k
    have eL : (as.map V.ref).length = d.copies.length := by rw [List.length_map, B.cps.len]
    have h7 := B.wf.cl
    refine ⟨_, rfl, a, _, _, _, rfl, rfl, SqL.of ha, atI_of (j := 0) rfl rfl, _, rfl, _, rfl, p, CD, dx, _, _, rfl, B.at_, TD.cl, TD.nC, dfs_c _ _ _ _ _, lc, _, rfl, .inl (SqL.of B.cps.lst), _, _, rfl, rfl, _, rfl, ?_⟩
    refine ite2 (fun h1 => ?_) (fun h1 => ?_)
    · have q1 : d.copies.length ≤ i := by
        have := of_decide_eq_true h1
        rw [eL] at this
        omega
      rw [if_pos q1] at k'
      exact ⟨by show 1 ≤ sizeLine; decide, fun r hr0 => k'.reads hD (Same.upd (Same.refl H) hr0) upd_same⟩
    have q1 : ¬ d.copies.length ≤ i := fun z => h1 (decide_eq_true (by rw [eL]; omega))
    rw [if_neg q1] at k'
    refine ⟨_, rfl, p, CD, dx, _, _, rfl, B.at_, TD.cl, TD.nC, dfs_c _ _ _ _ _, _, rfl, _, rfl, p, CD, dx, _, _, rfl, B.at_, TD.cl, TD.nC, dfs_c _ _ _ _ _, lc, _, rfl, .inl (SqL.of B.cps.lst), _, rfl, fun g hg => ?_⟩
    refine ⟨g, (as.map V.ref).length, rfl, upd_same, by omega, fun z hz => ?_⟩
    have ngz : z ≠ g := fun e => by rw [e, upd_same] at hz; cases hz
    have hzH : H z = none := by rw [upd_ne ngz] at hz; exact hz
    have s2 : Same H (upd (upd H g (.rng 0 ((as.map V.ref).length : Int))) z (.lst ((List.range (as.map V.ref).length).map fun (k : Nat) => V.int (k : Int)))) := Same.upd (Same.upd (Same.refl H) hg) hzH
    refine ⟨lc, z, as, d, i, List.range d.copies.length, rfl, B.cps.same s2, by rw [upd_same, eL]; rfl, by omega, fun j hj => List.mem_range.mp hj, by rw [List.length_range]; omega, fun r H3 hr3 s3 h3 => ?_⟩
    have ee : M.aheadOf d i (List.range d.copies.length) = (Km513.numbers d).filter fun a => Km513.ahead d a i := M.aheadOf_eq B.wf (by omega) fun j hj => List.mem_range.mp hj
    rw [ee] at h3
    have hle : ((Km513.numbers d).filter fun a => Km513.ahead d a i).length ≤ 7 := by
      have := List.length_filter_le (fun a => Km513.ahead d a i) (Km513.numbers d)
      unfold Km513.numbers at this
      rw [List.length_range] at this
      exact Nat.le_trans this h7
    refine ⟨r, ((Km513.numbers d).filter fun a => Km513.ahead d a i).map (fun (n : Nat) => (n : Int)), rfl, by rw [← nV_iV]; exact h3, by rw [List.length_map]; exact small1000 (by omega), fun r4 H4 hr4 s4 e4 => ?_⟩
    refine k'.reads hD ((s2.trans s3).trans s4) ?_
    rw [e4, List.length_map]
    rfl
end
end T
set_option Elab.async false
set_option linter.all false
set_option maxRecDepth 100000
namespace T
open PySem PySem.Spec PyProof.Rows L2 R
open Km513 (Copy Desk Choice State Ans)
section
variable {P : Program} {w : World} {K : PySem.W.Frag} {mg : Str → Option Value} {base : Heap} {C CD : Addr}
theorem bV_app (a b : List Bool) : bV (a ++ b) = bV a ++ bV b := List.map_append ..
/-- copies of a list of numbers -/
theorem CopiesAt.getC {H : Hp} {l : Addr} {as : List Addr} {cs : List Copy} (h : CopiesAt C H l as cs) {i : Nat} (hi : i < cs.length) : ∃ (a : Addr) (c : Copy), as[i]? = some a ∧ cs[i]? = some c ∧ (as.map V.ref)[i]? = some (V.ref a) ∧ CopyAt C H a c := by
  have hi' : i < as.length := by rw [h.len]; exact hi
  refine ⟨as[i], cs[i], List.getElem?_eq_getElem hi', List.getElem?_eq_getElem hi, ?_, h.at_ i _ _ (List.getElem?_eq_getElem hi') (List.getElem?_eq_getElem hi)⟩
  rw [List.getElem?_map, List.getElem?_eq_getElem hi']
  rfl
/-- a new list of the copies so far, one more copy behind it -/
theorem CopiesAt.push {H : Hp} {l p : Addr} {as : List Addr} {cs : List Copy} {c : Copy} (h : CopiesAt C H l as cs) (hp : CopyAt C H p c) : CopiesAt C (upd H l (.lst (as.map V.ref ++ [V.ref p]))) l (as ++ [p]) (cs ++ [c]) := h.snoc hp
/-! ### has_new_cell -/
abbrev sHnc : Stmt := top 5
def spHnc (C : Addr) : Sp := fun vs H Q _ => ∃ (l : Addr) (as : List Addr) (cs : List Copy) (x : Nat), vs = [.ref l, .int x] ∧ CopiesAt C H l as cs ∧ cs.length ≤ 7 ∧ ∀ (H' : Hp), Same H H' → Q (.bl (M.has cs x)) H'
theorem scHnc : FnScope ["copies", "t", "copy"] ["copies", "t"] (defScope sHnc) := ⟨rfl, rfl, rfl, by decide +kernel, rfl, by decide +kernel, by decide +kernel⟩
theorem ok_hnc (D : Def K mg "has_new_cell" sHnc ["copies", "t"]) (T : Txt K mg C) (G : Cal P w K mg base 1 "overlap" ["start", "length", "other_start", "other_length"] spOverlap) : Cal P w K mg base 2 "has_new_cell" ["copies", "t"] (spHnc C) := by
  refine D.cal scHnc (fun vs H Q E h => ?_) (fun fa cdv A outer s H vs Q E hr h => ?_)
  · obtain ⟨l, as, cs, x, rfl, _⟩ := h
    rfl
  · obtain ⟨l, as, cs, x, rfl, hC, h7, k⟩ := h
    refine ⟨_, pss_one (ps_ret (pe_callB (cr_any rfl) (by rfl) T.any (by decide +kernel) (pa_cons (pe_lc (own := [("copy", 2)]) (g := gName 2) (by rfl) scHnc.nd (pi_list (pv 0)) (blkOk_by (own := [("copy", 2)]) (N := ["copies", "t", "copy"]) (sc := defScope sHnc) (by decide +kernel))
      (fun _ _ _ _ _ => pg_name (i := 2) scHnc.nd rfl (Or.inl rfl)) (fun _ _ _ _ _ => pts_nil) (fun _ _ _ _ _ => pe_callC G hr rfl (pa_cons (pe_fldK K (pv 2) rfl) (pa_cons (pe_fldK K (pv 2) rfl) (pa_cons (pv 1) (pa_cons pe_int pa_nil)))))) pa_nil))), ?_⟩
    refine ⟨_, rfl, l, rfl, ⟨_, SqL.of hC.lst⟩, fun r hr0 => lc_list (K := K) (a := l) (xs := as.map V.ref) (fun m H' => Same H H' ∧ H' r = some (.lst (bV ((cs.take m).map fun e => M.ov e.t e.n x 1))))
      ⟨Same.upd (Same.refl H) hr0, upd_same⟩ (fun m H' _ ⟨s2, _⟩ => SqL.of (s2 _ _ hC.lst)) ?_ ?_⟩
    · rintro m y H' hy ⟨s2, hr1⟩
      obtain ⟨b, hb, rfl⟩ := refs_inv hy
      have hm : m < cs.length := by
        have := (List.getElem?_eq_some_iff.mp hb).1
        have := hC.len
        omega
      have hcm : cs[m]? = some cs[m] := List.getElem?_eq_getElem hm
      generalize cs[m] = e at hcm
      obtain ⟨dz, hc⟩ := (hC.same s2).at_ m b e hb hcm
      refine ⟨rfl, ?_⟩
      show (tCall spOverlap [] E0 (tCons (tFld K (tVar 2) "target") (tCons (tFld K (tVar 2) "length") (tCons (tVar 1) (tCons (tC (.int 1)) tNil))))) _ H' fun y H4 => ∃ acc, H4 r = some (.lst acc) ∧ acc.length < sizeLine ∧ (Same H (upd H4 r (.lst (acc ++ [y]))) ∧ upd H4 r (.lst (acc ++ [y])) r = some (.lst (bV ((cs.take (m + 1)).map fun e => M.ov e.t e.n x 1))))
      refine ⟨_, rfl, b, C, dz, _, _, rfl, hc, T.cl, T.nT, cfs_t e, _, rfl, b, C, dz, _, _, rfl, hc, T.cl, T.nL, cfs_l e, _, rfl, e.t, e.n, x, 1, rfl, _, hr1, ?_, Same.upd s2 hr0, ?_⟩
      · rw [bV_len, List.length_map, List.length_take]
        exact small1000 (by omega)
      · rw [upd_same, take_snoc hcm, List.map_append, bV_app]
        rfl
    rintro H2 ⟨s2, hr2⟩
    have eL : (as.map V.ref).length = cs.length := by rw [List.length_map, hC.len]
    rw [eL, List.take_length] at hr2
    refine ⟨r, _, rfl, SqL.of hr2, ?_⟩
    have eany : ((cs.map fun e => M.ov e.t e.n x 1).any id) = M.has cs x := by
      rw [List.any_map]
      unfold M.has
      congr 1
      funext e
      exact M.ov_one e x
    rw [eany]
    exact k H2 s2
/-! ### sent_cells -/
abbrev sSc : Stmt := top 22
def spSc (C : Addr) : Sp := fun vs H Q _ => ∃ (lc lh : Addr) (as : List Addr) (d : Desk) (c : Choice), vs = [.ref lc, .ref lh, .int d.new.length] ∧ M.WF d ∧ CopiesAt C H lc as d.copies ∧ H lh = some (.lst (nV c)) ∧ c.length = d.copies.length ∧
  ∀ (r : Addr) (H' : Hp), H r = none → Same H H' → H' r = some (.lst (nV (Km513.sent d c))) → Q (.ref r) H'
theorem scSc : FnScope ["copies", "choice", "new_count", "made", "i", "t"] ["copies", "choice", "new_count"] (defScope sSc) := ⟨rfl, rfl, rfl, by decide +kernel, rfl, by decide +kernel, by decide +kernel⟩
theorem made_snoc (c : Choice) (m : Nat) : M.madeN c (m + 1) = M.madeN c m ++ (if (c.getD m 2 != 2) = true then [m] else []) := filter_snoc _ _
theorem made_len (c : Choice) (m : Nat) : (M.madeN c m).length ≤ m := by
  have := List.length_filter_le (fun i => c.getD i 2 != 2) (List.range m)
  rw [List.length_range] at this
  exact this
theorem ok_sc (D : Def K mg "sent_cells" sSc ["copies", "choice", "new_count"]) (T : Txt K mg C) (G : Cal P w K mg base 2 "has_new_cell" ["copies", "t"] (spHnc C)) : Cal P w K mg base 3 "sent_cells" ["copies", "choice", "new_count"] (spSc C) := by
  obtain ⟨t2, c2⟩ := T.c2
  refine D.cal scSc (fun vs H Q E h => ?_) (fun fa cdv A outer s H vs Q E hr h => ?_)
  · obtain ⟨lc, lh, as, d, c, rfl, _⟩ := h
    rfl
  · obtain ⟨lc, lh, as, d, c, rfl, W, hC, hh, hlen, k⟩ := h
    have h7 := W.cl
    have h16 := W.nl
    refine ⟨_, pss_cons (ps_set (i := 3) scSc.nd rfl (Or.inr rfl) (pe_lc (own := [("i", 4)]) (g := gName 4) (by rfl) scSc.nd (pi_range1 rfl T.range (pa_cons (pe_callB call_len_seq (by rfl) T.len PySem.boot_len (pa_cons (pv 0) pa_nil)) pa_nil))
        (blkOk_by (own := [("i", 4)]) (N := ["copies", "choice", "new_count", "made", "i", "t"]) (sc := defScope sSc) (by decide +kernel))
        (fun _ _ _ _ _ => pg_name (i := 4) scSc.nd rfl (Or.inl rfl))
        (fun _ _ _ _ _ => pts_one (pt_cmpR op_ne (pe_ix (ixK K) (pv 1) (pv 4) (fun _ _ => rfl)) (pe_glob (v := .int 2) (by rfl) c2 ⟨t2, rfl⟩) (nomark _)))
        (fun _ _ _ _ _ => pe_ix (ixK K) (pv 0) (pv 4) (fun _ _ => rfl))))
      (pss_one (ps_ret (pe_lc (own := [("t", 5)]) (g := gName 5) (by rfl) scSc.nd (pi_range1 rfl T.range (pa_cons (pv 2) pa_nil))
        (blkOk_by (own := [("t", 5)]) (N := ["copies", "choice", "new_count", "made", "i", "t"]) (sc := defScope sSc) (by decide +kernel))
        (fun _ _ _ _ _ => pg_name (i := 5) scSc.nd rfl (Or.inl rfl))
        (fun _ _ _ _ _ => pts_one (pt_not (pt_val (pe_callC G hr rfl (pa_cons (pv 3) (pa_cons (pv 5) pa_nil))))))
        (fun _ _ _ _ _ => pv 5)))), ?_⟩
    have hal : (as.map V.ref).length = d.copies.length := by rw [List.length_map, hC.len]
    refine ⟨_, rfl, lc, _, rfl, .inl (SqL.of hC.lst), _, rfl, by omega, by omega, fun b hb0 => lc_range (lo := 0) (n := (as.map V.ref).length) (fun m H' => Same H H' ∧ ∃ bs, CopiesAt C H' b bs ((M.madeN c m).map (Km513.copy d))) ⟨Same.upd (Same.refl H) hb0, [], ⟨upd_same, rfl, fun j a e h1 _ => by simp at h1⟩⟩ ?_ ?_⟩
    · rintro m H' hm ⟨s1, bs, hB⟩
      rw [hal] at hm
      obtain ⟨a, ha, hv, hc⟩ := hC.get hm
      have hm2 : m < c.length := by omega
      have hcm : c[m]? = some c[m] := List.getElem?_eq_getElem hm2
      generalize c[m] = y at hcm
      refine ⟨rfl, _, rfl, _, rfl, lh, _, _, _, rfl, rfl, SqL.of (s1 _ _ hh), atI_of (j := m) (by omega) (nV_at hcm), rfl, _, rfl, ?_⟩
      rw [made_snoc]
      have e0 : (c.getD m 2 != 2) = (y != 2) := by rw [getD_of hcm]
      refine ite2 (fun h1 => ?_) (fun h1 => ?_)
      · have q : y ≠ 2 := int_ne.mp h1
        rw [if_pos (by rw [e0]; exact bne_iff_ne.mpr q), List.map_append]
        refine ⟨_, rfl, _, rfl, lc, _, _, _, rfl, rfl, SqL.of (s1 _ _ hC.lst), atI_of (j := m) (by omega) hv, _, hB.lst, ?_, Same.upd s1 hb0, bs ++ [a], hB.snoc (hc.same s1)⟩
        rw [List.length_map, hB.len, List.length_map]
        have := made_len c m
        exact small1000 (by omega)
      · have q : ¬ y ≠ 2 := fun z => h1 (int_ne.mpr z)
        rw [if_neg (by rw [e0, bne_iff_ne]; exact q), List.append_nil]
        exact ⟨s1, bs, hB⟩
    rintro H1 ⟨s1, bs, hB⟩
    rw [hal] at hB
    have hBl : ((M.madeN c d.copies.length).map (Km513.copy d)).length ≤ 7 := by
      rw [List.length_map]
      have := made_len c d.copies.length
      omega
    refine ⟨_, rfl, _, rfl, by omega, by omega, fun r hr0 => lc_range (lo := 0) (n := d.new.length) (fun m H' => Same H1 H' ∧ H' r = some (.lst (nV ((List.range m).filter fun x => !(M.has ((M.madeN c d.copies.length).map (Km513.copy d)) x))))) ⟨Same.upd (Same.refl H1) hr0, upd_same⟩ ?_ ?_⟩
    · rintro m H' hm ⟨s2, hr1⟩
      refine ⟨rfl, _, rfl, _, rfl, b, bs, _, m, by rw [show (0 : Int) + (m : Int) = (m : Int) by omega]; rfl, hB.same s2, hBl, fun H3 s3 => ⟨_, rfl, ?_⟩⟩
      rw [filter_snoc]
      have s23 := s2.trans s3
      refine ite2 (fun h1 => ?_) (fun h1 => ?_)
      · rw [if_pos h1]
        refine ⟨_, rfl, _, s3 _ _ hr1, ?_, Same.upd s23 hr0, ?_⟩
        · rw [nV_len]
          have := List.length_filter_le (fun x => !(M.has ((M.madeN c d.copies.length).map (Km513.copy d)) x)) (List.range m)
          rw [List.length_range] at this
          exact small1000 (by omega)
        · rw [upd_same, nV_app]
          have e : ((0 : Int) + (m : Int)) = (m : Int) := by omega
          rw [e]
          rfl
      · rw [if_neg h1, List.append_nil]
        exact ⟨s23, s3 _ _ hr1⟩
    · rintro H' ⟨s2, hr1⟩
      rw [M.sent_made] at hr1
      exact k r H' (s1.free hr0) (s1.trans s2) hr1
end
end T
set_option Elab.async false
set_option linter.all false
set_option maxRecDepth 100000
namespace T
open PySem PySem.Spec PyProof.Rows L2 R
open Km513 (Copy Desk Choice State Ans)
section
variable {P : Program} {w : World} {K : PySem.W.Frag} {mg : Str → Option Value} {base : Heap} {C CD : Addr}
/-! ### all_cells -/
abbrev sAll : Stmt := top 25
def spAll : Sp := fun vs H Q _ => ∃ (lo : Addr) (d : Desk), vs = [.ref lo] ∧ M.WF d ∧ H lo = some (.lst (nV d.old)) ∧
  ∀ (r : Addr) (H' : Hp), H r = none → Same H H' → H' r = some (.lst (nV (Km513.row d))) → Q (.ref r) H'
theorem scAll : FnScope ["old", "i"] ["old"] (defScope sAll) := ⟨rfl, rfl, rfl, by decide +kernel, rfl, by decide +kernel, by decide +kernel⟩
theorem ok_all (D : Def K mg "all_cells" sAll ["old"]) (T : Txt K mg C) (TD : TxtD K mg CD) : Cal P w K mg base 1 "all_cells" ["old"] spAll := by
  obtain ⟨t16, c16⟩ := TD.c16
  refine D.cal scAll (fun vs H Q E h => ?_) (fun fa cdv A outer s H vs Q E hr h => ?_)
  · obtain ⟨lo, d, rfl, _⟩ := h
    rfl
  · obtain ⟨lo, d, rfl, W, hlo, k⟩ := h
    have h16 := W.ol
    refine ⟨_, pss_one (ps_ret (pe_op op_cat (pv 0) (pe_lc (own := [("i", 1)]) (g := gName 1) (by rfl) scAll.nd (pi_range1 rfl T.range (pa_cons (pe_sub (pe_glob (v := .int 16) (by rfl) c16 ⟨t16, rfl⟩) (pe_callB call_len_seq (by rfl) T.len PySem.boot_len (pa_cons (pv 0) pa_nil))) pa_nil))
      (blkOk_by (own := [("i", 1)]) (N := ["old", "i"]) (sc := defScope sAll) (by decide +kernel))
      (fun _ _ _ _ _ => pg_name (i := 1) scAll.nd rfl (Or.inl rfl)) (fun _ _ _ _ _ => pts_nil) (fun _ _ _ _ _ => pe_int)))), ?_⟩
    have hal : (nV d.old).length = d.old.length := nV_len _
    have ej : ((16 : Int) - (((nV d.old).length : Nat) : Int)).toNat = 16 - d.old.length := by omega
    refine ⟨_, rfl, _, rfl, lo, _, rfl, .inl (SqL.of hlo), _, _, rfl, rfl, _, rfl, by omega, by omega, fun b hb0 => ?_⟩
    rw [ej]
    refine lc_range (lo := 0) (n := 16 - d.old.length) (fun m H' => Same H H' ∧ H' b = some (.lst (nV (List.replicate m 0)))) ⟨Same.upd (Same.refl H) hb0, upd_same⟩ ?_ ?_
    · rintro m H' hm ⟨s1, hr1⟩
      refine ⟨rfl, ?_⟩
      show ∃ acc, H' b = some (.lst acc) ∧ acc.length < sizeLine ∧ (Same H (upd H' b (.lst (acc ++ [V.int 0]))) ∧ upd H' b (.lst (acc ++ [V.int 0])) b = some (.lst (nV (List.replicate (m + 1) 0))))
      refine ⟨_, hr1, ?_, Same.upd s1 hb0, ?_⟩
      · rw [nV_len, List.length_replicate]
        exact small1000 (by omega)
      · rw [upd_same, List.replicate_succ', nV_app]
        rfl
    · rintro H1 ⟨s1, hb1⟩
      refine ⟨lo, b, _, _, rfl, rfl, s1 _ _ hlo, hb1, ?_, fun q hq => ?_⟩
      · rw [nV_len, nV_len, List.length_replicate]
        exact Nat.le_of_lt (small1000 (by omega))
      · refine k q _ (s1.free hq) (Same.upd s1 (s1.free hq)) ?_
        rw [upd_same, ← nV_app, ← M.row_eq W]
/-! ### read_by, write_by, do_in_place -/
abbrev sRb : Stmt := top 26
def spRb (C : Addr) : Sp := fun vs H Q _ => ∃ (p lz : Addr) (c : Copy) (r : List Nat), vs = [.ref p, .ref lz] ∧ CopyAt C H p c ∧ H lz = some (.lst (nV r)) ∧ c.f + c.n ≤ r.length ∧
  ∀ (q : Addr) (H' : Hp), H q = none → Same H H' → H' q = some (.lst (nV (Km513.take r c))) → Q (.ref q) H'
theorem scRb : FnScope ["copy", "cells"] ["copy", "cells"] (defScope sRb) := ⟨rfl, rfl, rfl, by decide +kernel, rfl, by decide +kernel, by decide +kernel⟩
theorem cut_take {r : List Nat} {c : Copy} (h : c.f + c.n ≤ r.length) : cutV (nV r) (some (c.f : Int)) (some ((c.f : Int) + (c.n : Int))) = nV (Km513.take r c) := by
  have e : ((c.f : Int) + (c.n : Int)) = ((c.f + c.n : Nat) : Int) := by omega
  unfold cutV
  rw [e, HT.sIx_nat, HT.sIx_nat, nV_len, Nat.min_eq_left (by omega), Nat.min_eq_left (by omega), Nat.add_sub_cancel_left, M.take_eq h]
  unfold nV
  rw [← List.map_drop, ← List.map_take]
theorem ok_rb (D : Def K mg "read_by" sRb ["copy", "cells"]) (T : Txt K mg C) : Cal P w K mg base 1 "read_by" ["copy", "cells"] (spRb C) := by
  refine D.cal scRb (fun vs H Q E h => ?_) (fun fa cdv A outer s H vs Q E hr h => ?_)
  · obtain ⟨p, lz, c, r, rfl, _⟩ := h
    rfl
  · obtain ⟨p, lz, c, r, rfl, ⟨dx, hp⟩, hz, hf, k⟩ := h
    refine ⟨_, pss_one (ps_ret (pe_slice sl_list (pv 1) (po_some (pe_fld (pv 0) rfl)) (po_some (pe_op op_add (pe_fld (pv 0) rfl) (pe_fld (pv 0) rfl))))), ?_⟩
    refine ⟨_, rfl, _, rfl, p, C, dx, _, _, rfl, hp, T.cl, T.nS, cfs_s c, _, rfl, _, rfl, p, C, dx, _, _, rfl, hp, T.cl, T.nS, cfs_s c, _, rfl, p, C, dx, _, _, rfl, hp, T.cl, T.nL, cfs_l c, _, _, rfl, rfl, _, rfl, lz, _, rfl, SqL.of hz, fun q hq => ?_⟩
    rw [cut_take hf]
    exact k q _ hq (Same.upd (Same.refl H) hq) upd_same
abbrev sWb : Stmt := top 27
def spWb (C : Addr) : Sp := fun vs H Q _ => ∃ (p lz ln : Addr) (c : Copy) (r ns : List Nat), vs = [.ref p, .ref lz, .ref ln] ∧ CopyAt C H p c ∧ H lz = some (.lst (nV r)) ∧ H ln = some (.lst (nV ns)) ∧ ln ≠ lz ∧ c.n ≤ ns.length ∧ c.t + c.n ≤ r.length ∧ r.length ≤ 16 ∧
  ∀ (H' : Hp), But lz H H' → H' lz = some (.lst (nV (Km513.put r c ns))) → Q .non H'
theorem scWb : FnScope ["copy", "cells", "numbers", "k"] ["copy", "cells", "numbers"] (defScope sWb) := ⟨rfl, rfl, rfl, by decide +kernel, rfl, by decide +kernel, by decide +kernel⟩
theorem getD0 {l : List Nat} {i : Nat} (h : i < l.length) : l[i]? = some (l.getD i 0) := at_of_lt h
theorem ok_wb (D : Def K mg "write_by" sWb ["copy", "cells", "numbers"]) (T : Txt K mg C) : Cal P w K mg base 1 "write_by" ["copy", "cells", "numbers"] (spWb C) := by
  refine D.cal scWb (fun vs H Q E h => ?_) (fun fa cdv A outer s H vs Q E hr h => ?_)
  · obtain ⟨p, lz, ln, c, r, ns, rfl, _⟩ := h
    rfl
  · obtain ⟨p, lz, ln, c, r, ns, rfl, ⟨dx, hp⟩, hz, hn, hne, hl, ht, h16, k⟩ := h
    have hpz : p ≠ lz := ne_of hp hz (by intro z; cases z)
    refine ⟨_, pss_one (ps_for PassesOwn.never rfl (pi_range1 rfl T.range (pa_cons (pe_fld (pv 0) rfl) pa_nil)) (pg_name (i := 3) scWb.nd rfl (Or.inl rfl))
      (pss_one (ps_asg (pe_ix ix_list (pv 2) (pv 3) (fun _ _ => rfl)) (pg_sub (pv 1) (pe_op op_add (pe_fld (pv 0) rfl) (pv 3)) set_list)))), ?_⟩
    refine ⟨_, rfl, p, C, dx, _, _, rfl, hp, T.cl, T.nL, cfs_l c, (c.n : Int), rfl, by omega, by omega, for_range (lo := 0) (n := c.n)
      (fun i σ H' => But lz H H' ∧ H' lz = some (.lst (nV (M.wTo r c ns i))) ∧ ∃ v, σ = [some (.ref p), some (.ref lz), some (.ref ln), v]) ⟨But.of (Same.refl H), hz, none, rfl⟩ ?_ ?_⟩
    · rintro i σ H' hi ⟨b, hz1, v, rfl⟩
      have hp1 := b _ _ hp hpz
      refine ⟨_, rfl, _, rfl, ln, _, _, _, rfl, rfl, SqL.of (b _ _ hn hne), atI_of (j := i) (by omega) (nV_at (getD0 (by omega))), ?_⟩
      refine ⟨_, rfl, _, rfl, p, C, dx, _, _, rfl, hp1, T.cl, T.nT, cfs_t c, _, rfl, _, _, rfl, rfl, lz, _, _, c.t + i, rfl, rfl, hz1, ?_, ?_⟩
      · have e : ((c.t : Int) + ((0 : Int) + (i : Int))) = ((c.t + i : Nat) : Int) := by omega
        rw [e]
        exact ixN_nat (by rw [nV_len, M.wTo_len]; omega)
      · refine ⟨b.upd, ?_, _, rfl⟩
        rw [upd_same, nV_set]
        rfl
    · rintro σ H' ⟨b, hz1, v, rfl⟩
      rw [M.wTo_put] at hz1
      exact k H' b hz1
abbrev sDp : Stmt := top 28
def spDp (C : Addr) : Sp := fun vs H Q _ => ∃ (p lz : Addr) (c : Copy) (r : List Nat), vs = [.ref p, .ref lz] ∧ CopyAt C H p c ∧ H lz = some (.lst (nV r)) ∧ c.f + c.n ≤ r.length ∧ c.t + c.n ≤ r.length ∧ r.length ≤ 16 ∧
  ∀ (H' : Hp), But lz H H' → H' lz = some (.lst (nV (M.doIn r c))) → Q .non H'
theorem scDp : FnScope ["copy", "cells"] ["copy", "cells"] (defScope sDp) := ⟨rfl, rfl, rfl, by decide +kernel, rfl, by decide +kernel, by decide +kernel⟩
theorem ok_dp (D : Def K mg "do_in_place" sDp ["copy", "cells"]) (G1 : Cal P w K mg base 1 "read_by" ["copy", "cells"] (spRb C)) (G2 : Cal P w K mg base 1 "write_by" ["copy", "cells", "numbers"] (spWb C)) : Cal P w K mg base 2 "do_in_place" ["copy", "cells"] (spDp C) := by
  refine D.cal scDp (fun vs H Q E h => ?_) (fun fa cdv A outer s H vs Q E hr h => ?_)
  · obtain ⟨p, lz, c, r, rfl, _⟩ := h
    rfl
  · obtain ⟨p, lz, c, r, rfl, hp, hz, hf, ht, h16, k⟩ := h
    refine ⟨_, pss_one (ps_expr (pe_callC G2 hr rfl (pa_cons (pv 0) (pa_cons (pv 1) (pa_cons (pe_callC G1 hr rfl (pa_cons (pv 0) (pa_cons (pv 1) pa_nil))) pa_nil))))), ?_⟩
    refine ⟨_, rfl, _, rfl, _, rfl, _, rfl, p, lz, c, r, rfl, hp, hz, hf, fun q H1 hq s1 hq1 => ?_⟩
    refine ⟨p, lz, q, c, r, Km513.take r c, rfl, hp.same s1, s1 _ _ hz, hq1, Ne.symm (ne_of_none hz hq), by rw [M.take_len]; omega, ht, h16, fun H2 b2 h2 => ?_⟩
    exact k H2 ((But.of s1).trans b2) h2
/-! ### careless_cells -/
abbrev sCc : Stmt := top 30
def spCc (C : Addr) : Sp := fun vs H Q _ => ∃ (lo lw l : Addr) (as : List Addr) (cs : List Copy) (d : Desk), vs = [.ref lo, .ref lw, .ref l] ∧ M.WF d ∧ H lo = some (.lst (nV d.old)) ∧ H lw = some (.lst (nV d.new)) ∧ CopiesAt C H l as cs ∧ cs.length ≤ 7 ∧ (∀ c ∈ cs, c.f + c.n ≤ 16 ∧ c.t + c.n ≤ 16) ∧
  ∀ (r : Addr) (H' : Hp), H r = none → Same H H' → H' r = some (.lst (nV ((List.range d.new.length).filter fun x => Km513.at_ (cs.foldl M.doIn (Km513.row d)) x != Km513.at_ d.new x && M.has cs x))) → Q (.ref r) H'
theorem scCc : FnScope ["old", "wanted", "copies", "cells", "copy", "t"] ["old", "wanted", "copies"] (defScope sCc) := ⟨rfl, rfl, rfl, by decide +kernel, rfl, by decide +kernel, by decide +kernel⟩
/-- what was tracked stays, but for a list of its own -/
theorem But.same {p : Addr} {H0 H H' : Hp} (s : Same H0 H) (b : But p H H') (h : H0 p = none) : Same H0 H' := fun c o e => b c o (s c o e) fun z => by rw [z, h] at e; cases e
theorem ok_cc (D : Def K mg "careless_cells" sCc ["old", "wanted", "copies"]) (T : Txt K mg C) (G1 : Cal P w K mg base 1 "all_cells" ["old"] spAll) (G2 : Cal P w K mg base 2 "do_in_place" ["copy", "cells"] (spDp C)) (G3 : Cal P w K mg base 2 "has_new_cell" ["copies", "t"] (spHnc C)) : Cal P w K mg base 3 "careless_cells" ["old", "wanted", "copies"] (spCc C) := by
  refine D.cal scCc (fun vs H Q E h => ?_) (fun fa cdv A outer s H vs Q E hr h => ?_)
  · obtain ⟨lo, lw, l, as, cs, d, rfl, _⟩ := h
    rfl
  · obtain ⟨lo, lw, l, as, cs, d, rfl, W, hlo, hlw, hC, h7, hok, k⟩ := h
    have h16 := W.nl
    refine ⟨_, pss_cons (ps_set (i := 3) scCc.nd rfl (Or.inr rfl) (pe_callC G1 (hr.mono (by decide)) rfl (pa_cons (pv 0) pa_nil)))
      (pss_cons (ps_for PassesOwn.never rfl (pi_list (pv 2)) (pg_name (i := 4) scCc.nd rfl (Or.inl rfl)) (pss_one (ps_expr (pe_callC G2 hr rfl (pa_cons (pv 4) (pa_cons (pv 3) pa_nil))))))
      (pss_one (ps_ret (pe_lc (own := [("t", 5)]) (g := gName 5) (by rfl) scCc.nd (pi_range1 rfl T.range (pa_cons (pe_callB call_len_seq (by rfl) T.len PySem.boot_len (pa_cons (pv 1) pa_nil)) pa_nil))
        (blkOk_by (own := [("t", 5)]) (N := ["old", "wanted", "copies", "cells", "copy", "t"]) (sc := defScope sCc) (by decide +kernel))
        (fun _ _ _ _ _ => pg_name (i := 5) scCc.nd rfl (Or.inl rfl))
        (fun _ _ _ _ _ => pts_one (PW.pt (pw_and (pt_cmpR op_ne (pe_ix (ixK K) (pv 3) (pv 5) (fun _ _ => rfl)) (pe_ix (ixK K) (pv 1) (pv 5) (fun _ _ => rfl)) (nomark _)) (pw_and1 (pt_val (pe_callC G3 hr rfl (pa_cons (pv 2) (pa_cons (pv 5) pa_nil))))))))
        (fun _ _ _ _ _ => pv 5))))), ?_⟩
    refine ⟨_, rfl, lo, d, rfl, W, hlo, fun lz H1 hz0 s1 hz1 => ?_⟩
    have nl : l ≠ lz := ne_of_none hC.lst hz0
    have nw : lw ≠ lz := ne_of_none hlw hz0
    have hC1 := hC.same s1
    have hw1 := s1 _ _ hlw
    refine ⟨_, rfl, l, rfl, ⟨_, SqL.of hC1.lst⟩, for_list (K := K) (a := l) (xs := as.map V.ref)
      (fun m σ H' => But lz H1 H' ∧ H' lz = some (.lst (nV ((cs.take m).foldl M.doIn (Km513.row d)))) ∧ ∃ v, σ = [some (.ref lo), some (.ref lw), some (.ref l), some (.ref lz), v, none])
      ⟨But.of (Same.refl H1), hz1, none, rfl⟩ (fun m σ H' _ ⟨b, _⟩ => SqL.of (b _ _ hC1.lst nl)) ?_ ?_⟩
    · rintro m x σ H' hx ⟨b, hz2, v, rfl⟩
      obtain ⟨q, hq, rfl⟩ := refs_inv hx
      have hm : m < cs.length := by
        have := (List.getElem?_eq_some_iff.mp hq).1
        have := hC.len
        omega
      have hcm : cs[m]? = some cs[m] := List.getElem?_eq_getElem hm
      generalize cs[m] = c at hcm
      have hc16 := hok c (List.mem_of_getElem? hcm)
      have hrl : ((cs.take m).foldl M.doIn (Km513.row d)).length = 16 := by rw [M.foldIn_len, M.row_len]
      refine ⟨_, rfl, _, rfl, q, lz, c, _, rfl, (hC1.but b nl ⟨_, hz1⟩).at_ m q c hq hcm, hz2, by omega, by omega, by omega, fun H3 b3 h3 => ⟨b.trans b3, ?_, _, rfl⟩⟩
      rw [take_snoc hcm, List.foldl_append]
      exact h3
    · rintro σ H2 ⟨b, hz2, v, rfl⟩
      rw [List.length_map, hC.len, List.take_length] at hz2
      have s2 : Same H H2 := But.same s1 b hz0
      have hrl : (cs.foldl M.doIn (Km513.row d)).length = 16 := by rw [M.foldIn_len, M.row_len]
      generalize cs.foldl M.doIn (Km513.row d) = R at hz2 hrl k
      have hw2 := s2 _ _ hlw
      have hC2 := hC.same s2
      have hal : (nV d.new).length = d.new.length := nV_len _
      refine ⟨_, rfl, lw, _, rfl, .inl (SqL.of hw2), _, rfl, by omega, by omega, fun r hr0 => lc_range (lo := 0) (n := (nV d.new).length) (fun m H' => Same H2 H' ∧ H' r = some (.lst (nV ((List.range m).filter fun x => Km513.at_ R x != Km513.at_ d.new x && M.has cs x)))) ⟨Same.upd (Same.refl H2) hr0, upd_same⟩ ?_ ?_⟩
      · rintro m H' hm ⟨s3, hr1⟩
        rw [hal] at hm
        have e : ((0 : Int) + (m : Int)) = (m : Int) := by omega
        refine ⟨rfl, _, rfl, _, rfl, lz, _, _, _, rfl, rfl, SqL.of (s3 _ _ hz2), atI_of (j := m) (by omega) (nV_at (at_of_lt (by omega))), _, rfl, _, rfl, lw, _, _, _, rfl, rfl, SqL.of (s3 _ _ hw2), atI_of (j := m) (by omega) (nV_at (at_of_lt (by omega))), rfl, _, rfl, ?_⟩
        have fin : ∀ (H4 : Hp) (bb : Bool), Same H' H4 → bb = (Km513.at_ R m != Km513.at_ d.new m && M.has cs m) → (if bb = true then ∃ acc, H4 r = some (.lst acc) ∧ acc.length < sizeLine ∧ (Same H2 (upd H4 r (.lst (acc ++ [V.int ((0 : Int) + (m : Int))]))) ∧ upd H4 r (.lst (acc ++ [V.int ((0 : Int) + (m : Int))])) r = some (.lst (nV ((List.range (m + 1)).filter fun x => Km513.at_ R x != Km513.at_ d.new x && M.has cs x)))) else (Same H2 H4 ∧ H4 r = some (.lst (nV ((List.range (m + 1)).filter fun x => Km513.at_ R x != Km513.at_ d.new x && M.has cs x))))) := by
          rintro H4 bb s4 rfl
          rw [filter_snoc]
          refine ite2 (fun h1 => ?_) (fun h1 => ?_)
          · rw [if_pos h1]
            refine ⟨_, s4 _ _ hr1, ?_, Same.upd (s3.trans s4) hr0, ?_⟩
            · rw [nV_len]
              have := List.length_filter_le (fun x => Km513.at_ R x != Km513.at_ d.new x && M.has cs x) (List.range m)
              rw [List.length_range] at this
              exact small1000 (by omega)
            · rw [upd_same, nV_app, e]
              rfl
          · rw [if_neg h1, List.append_nil]
            exact ⟨s3.trans s4, s4 _ _ hr1⟩
        refine ite2 (fun h1 => ?_) (fun h1 => ?_)
        · have q := int_ne.mp h1
          refine ⟨_, rfl, _, rfl, l, as, cs, m, by rw [e]; rfl, hC2.same s3, h7, fun H4 s4 => ⟨_, rfl, ?_⟩⟩
          have z := fin H4 (M.has cs m) s4 (by rw [show (Km513.at_ R m != Km513.at_ d.new m) = true from bne_iff_ne.mpr q, Bool.true_and])
          refine ite2 (fun h2 => ?_) (fun h2 => ?_)
          · rw [if_pos h2] at z
            exact ⟨_, rfl, z⟩
          · rw [if_neg h2] at z
            exact z
        · have q : ¬ (Km513.at_ R m ≠ Km513.at_ d.new m) := fun z => h1 (int_ne.mpr z)
          have z := fin H' false (Same.refl H') (by rw [show (Km513.at_ R m != Km513.at_ d.new m) = false by rw [bne_eq_false_iff_eq]; exact Decidable.not_not.mp q, Bool.false_and])
          rw [if_neg Bool.false_ne_true] at z
          refine iteF ?_
          exact z
      · rintro H' ⟨s3, hr1⟩
        rw [hal] at hr1
        exact k r H' (s2.free hr0) (s2.trans s3) hr1
end
end T
set_option Elab.async false
set_option linter.all false
set_option maxRecDepth 100000
namespace T
open PySem PySem.Spec PyProof.Rows L2 R
open Km513 (Copy Desk Choice State Ans)
section
variable {P : Program} {w : World} {K : PySem.W.Frag} {mg : Str → Option Value} {base : Heap} {C CD : Addr}
/-! ### done_cells -/
abbrev sDc : Stmt := top 29
def spDc (C : Addr) : Sp := fun vs H Q _ => ∃ (lo lw lc lh : Addr) (as : List Addr) (d : Desk) (c : Choice), vs = [.ref lo, .ref lw, .ref lc, .ref lh] ∧ M.WF d ∧ H lo = some (.lst (nV d.old)) ∧ H lw = some (.lst (nV d.new)) ∧ CopiesAt C H lc as d.copies ∧ H lh = some (.lst (nV c)) ∧ c.length = d.copies.length ∧ Km513.noRing d (Km513.of_ d c 0) = true ∧
  ∀ (r : Addr) (H' : Hp), H r = none → Same H H' → H' r = some (.lst (nV (Km513.doneUp d c))) → Q (.ref r) H'
theorem scDc : FnScope ["old", "wanted", "copies", "choice", "cells", "aside", "kept", "i", "k", "t", "copy"] ["old", "wanted", "copies", "choice"] (defScope sDc) := ⟨rfl, rfl, rfl, by decide +kernel, rfl, by decide +kernel, by decide +kernel⟩
theorem order_lt {d : Desk} {l : List Nat} (hl : ∀ j ∈ l, j < d.copies.length) : ∀ (t : List (List Nat)) (f : Nat) (m : List Nat), (∀ j ∈ m, j < d.copies.length) → ∀ j ∈ Km513.orderUp t f m, j < d.copies.length
  | _, 0, _, _, j, hj => by cases hj
  | t, f + 1, m, hm, j, hj => by
    unfold Km513.orderUp at hj
    cases e : m.find? fun b => !(m.any fun a => (t.getD b []).contains a) with
    | none => rw [e] at hj; cases hj
    | some b =>
      rw [e] at hj
      rcases List.mem_cons.mp hj with rfl | hj
      · exact hm _ (List.mem_of_find?_eq_some e)
      · exact order_lt hl t f _ (fun i hi => hm i (List.mem_filter.mp hi).1) j hj
theorem sent_lt {d : Desk} {c : Choice} : ∀ j ∈ Km513.sent d c, j < d.new.length := fun j hj => List.mem_range.mp (List.mem_filter.mp hj).1
theorem sent_len16 {d : Desk} (W : M.WF d) (c : Choice) : (Km513.sent d c).length ≤ 16 := by
  have h := List.length_filter_le (fun x => !((Km513.numbers d).any fun i => c.getD i 2 != 2 && Km513.writes (Km513.copy d i) x)) (List.range d.new.length)
  rw [List.length_range] at h
  have := W.nl
  unfold Km513.sent
  omega
theorem ok_dc (D : Def K mg "done_cells" sDc ["old", "wanted", "copies", "choice"]) (T : Txt K mg C) (G1 : Cal P w K mg base 1 "all_cells" ["old"] spAll) (G2 : Cal P w K mg base 1 "numbers_with" ["choice", "number"] spDip) (G3 : Cal P w K mg base 1 "read_by" ["copy", "cells"] (spRb C))
    (G4 : Cal P w K mg base 5 "order_of" ["copies", "numbers"] (spOrder C)) (G5 : Cal P w K mg base 2 "do_in_place" ["copy", "cells"] (spDp C)) (G6 : Cal P w K mg base 1 "write_by" ["copy", "cells", "numbers"] (spWb C)) (G7 : Cal P w K mg base 3 "sent_cells" ["copies", "choice", "new_count"] (spSc C)) : Cal P w K mg base 6 "done_cells" ["old", "wanted", "copies", "choice"] (spDc C) := by
  obtain ⟨t1, c1⟩ := T.c1
  obtain ⟨t0, c0⟩ := T.c0
  refine D.cal scDc (fun vs H Q E h => ?_) (fun fa cdv A outer s H vs Q E hr h => ?_)
  · obtain ⟨lo, lw, lc, lh, as, d, c, rfl, _⟩ := h
    rfl
  · obtain ⟨lo, lw, lc, lh, as, d, c, rfl, W, hlo, hlw, hC, hh, hlen, hnr, k⟩ := h
    have h7 := W.cl
    have h16 := W.nl
    have o16 := W.ol
    refine ⟨_, pss_cons (ps_set (i := 4) scDc.nd rfl (Or.inr rfl) (pe_callC G1 (hr.mono (by decide)) rfl (pa_cons (pv 0) pa_nil)))
      (pss_cons (ps_setLc (i := 5) (own := [("i", 7)]) (g := gName 7) (by rfl) scDc.nd rfl rfl (sw_true rfl rfl rfl (by decide +kernel)) (pi_list (pe_callC G2 (hr.mono (by decide)) rfl (pa_cons (pv 3) (pa_cons (pe_glob (v := .int 1) (by rfl) c1 ⟨t1, rfl⟩) pa_nil))))
        (blkOk_by (own := [("i", 7)]) (N := ["old", "wanted", "copies", "choice", "cells", "aside", "kept", "i", "k", "t", "copy"]) (sc := defScope sDc) (by decide +kernel))
        (fun _ _ _ _ _ => pg_name (i := 7) scDc.nd rfl (Or.inl rfl)) (fun _ _ _ _ _ => pts_nil) (fun _ _ _ _ _ => pe_ix (ixK K) (pv 2) (pv 7) (fun _ _ => rfl)))
      (pss_cons (ps_setLc (i := 6) (own := [("copy", 10)]) (g := gName 10) (by rfl) scDc.nd rfl rfl (sw_true rfl rfl rfl (by decide +kernel)) (pi_list (pv 5))
        (blkOk_by (own := [("copy", 10)]) (N := ["old", "wanted", "copies", "choice", "cells", "aside", "kept", "i", "k", "t", "copy"]) (sc := defScope sDc) (by decide +kernel))
        (fun _ _ _ _ _ => pg_name (i := 10) scDc.nd rfl (Or.inl rfl)) (fun _ _ _ _ _ => pts_nil) (fun _ _ _ _ _ => pe_callC G3 (hr.mono (by decide)) rfl (pa_cons (pv 10) (pa_cons (pv 4) pa_nil))))
      (pss_cons (ps_for PassesOwn.never rfl (pi_list (pe_callC G4 hr rfl (pa_cons (pv 2) (pa_cons (pe_callC G2 (hr.mono (by decide)) rfl (pa_cons (pv 3) (pa_cons (pe_glob (v := .int 0) (by rfl) c0 ⟨t0, rfl⟩) pa_nil))) pa_nil)))) (pg_name (i := 7) scDc.nd rfl (Or.inl rfl))
        (pss_one (ps_expr (pe_callC G5 (hr.mono (by decide)) rfl (pa_cons (pe_ix ix_list (pv 2) (pv 7) (fun _ _ => rfl)) (pa_cons (pv 4) pa_nil))))))
      (pss_cons (ps_for PassesOwn.never rfl (pi_range1 rfl T.range (pa_cons (pe_callB call_len_seq (by rfl) T.len PySem.boot_len (pa_cons (pv 5) pa_nil)) pa_nil)) (pg_name (i := 8) scDc.nd rfl (Or.inl rfl))
        (pss_one (ps_expr (pe_callC G6 (hr.mono (by decide)) rfl (pa_cons (pe_ix ix_list (pv 5) (pv 8) (fun _ _ => rfl)) (pa_cons (pv 4) (pa_cons (pe_ix ix_list (pv 6) (pv 8) (fun _ _ => rfl)) pa_nil)))))))
      (pss_cons (ps_for PassesOwn.never rfl (pi_list (pe_callC G7 (hr.mono (by decide)) rfl (pa_cons (pv 2) (pa_cons (pv 3) (pa_cons (pe_callB call_len_seq (by rfl) T.len PySem.boot_len (pa_cons (pv 1) pa_nil)) pa_nil))))) (pg_name (i := 9) scDc.nd rfl (Or.inl rfl))
        (pss_one (ps_asg (pe_ix ix_list (pv 1) (pv 9) (fun _ _ => rfl)) (pg_sub (pv 4) (pv 9) set_list))))
      (pss_one (ps_ret (pv 4)))))))), ?_⟩
    -- cells
    refine ⟨_, rfl, lo, d, rfl, W, hlo, fun lz H1 hz0 s1 hz1 => ?_⟩
    have nlc : lc ≠ lz := ne_of_none hC.lst hz0
    have nlw : lw ≠ lz := ne_of_none hlw hz0
    have nlh : lh ≠ lz := ne_of_none hh hz0
    -- aside
    refine ⟨_, rfl, lh, c, 1, rfl, s1 _ _ hh, by omega, fun ln H2 hn0 s2 hn2 => ?_⟩
    have s12 := s1.trans s2
    have hn1 := nw_len c 1
    refine ⟨ln, rfl, ⟨_, SqL.of hn2⟩, fun ra hra0 => lc_list (K := K) (a := ln) (xs := nV (nw c 1)) (fun m H' => Same H2 H' ∧ ∃ bs, CopiesAt C H' ra bs (((nw c 1).take m).map (Km513.copy d))) ⟨Same.upd (Same.refl H2) hra0, [], ⟨upd_same, rfl, fun j a e h1 _ => by simp at h1⟩⟩
      (fun m H' _ ⟨s3, _⟩ => SqL.of (s3 _ _ hn2)) ?_ ?_⟩
    · rintro m y H' hy ⟨s3, bs, hB⟩
      obtain ⟨i, hi, rfl⟩ := nV_inv hy
      have hil : i < d.copies.length := by
        have := nw_lt i (List.mem_of_getElem? hi)
        omega
      obtain ⟨a, ha, hv, hc⟩ := hC.get hil
      have s13 := s12.trans s3
      refine ⟨rfl, ?_⟩
      show (tOp (rIxL K) (tVar 2) (tVar 7)) _ H' fun y H4 => ∃ acc, H4 ra = some (.lst acc) ∧ acc.length < sizeLine ∧ (Same H2 (upd H4 ra (.lst (acc ++ [y]))) ∧ ∃ bs, CopiesAt C (upd H4 ra (.lst (acc ++ [y]))) ra bs (((nw c 1).take (m + 1)).map (Km513.copy d)))
      refine ⟨_, rfl, _, rfl, lc, _, _, _, rfl, rfl, SqL.of (s13 _ _ hC.lst), atI_of rfl hv, _, hB.lst, ?_, Same.upd s3 hra0, bs ++ [a], ?_⟩
      · rw [List.length_map, hB.len, List.length_map, List.length_take]
        exact small1000 (by omega)
      · rw [take_snoc hi, List.map_append]
        exact hB.snoc (hc.same s13)
    rintro H3 ⟨s3, bs, hB⟩
    rw [nV_len, List.take_length, nw_of hlen] at hB
    have s13 := s12.trans s3
    have hz3 : H3 lz = some (.lst (nV (Km513.row d))) := s3 _ _ (s2 _ _ hz1)
    have nra : ra ≠ lz := Ne.symm (ne_of_none (s2 _ _ hz1) hra0)
    have hol : (Km513.of_ d c 1).length ≤ 7 := by
      rw [← nw_of hlen]
      omega
    have hcsl : ((Km513.of_ d c 1).map (Km513.copy d)).length ≤ 7 := by rw [List.length_map]; exact hol
    have hcs : ∀ e ∈ (Km513.of_ d c 1).map (Km513.copy d), e.f + e.n ≤ 16 ∧ e.t + e.n ≤ 16 := by
      intro e he
      obtain ⟨i, hi, rfl⟩ := List.mem_map.mp he
      have := W.copy (M.of_lt i hi)
      omega
    have rl := M.row_len d
    -- kept
    refine ⟨_, rfl, ra, rfl, ⟨_, SqL.of hB.lst⟩, fun rk hrk0 => lc_list (K := K) (a := ra) (xs := bs.map V.ref) (fun m H' => Same H3 H' ∧ ∃ ks, ChoicesAt H' rk ks ((((Km513.of_ d c 1).map (Km513.copy d)).take m).map (Km513.take (Km513.row d))) ∧ ∀ a ∈ ks, a ≠ lz)
      ⟨Same.upd (Same.refl H3) hrk0, [], ⟨upd_same, rfl, fun j a e h1 _ => by simp at h1⟩, fun a ha => by cases ha⟩ (fun m H' _ ⟨s4, _⟩ => SqL.of (s4 _ _ hB.lst)) ?_ ?_⟩
    · rintro m y H' hy ⟨s4, ks, hK, hkz⟩
      obtain ⟨b, hb, rfl⟩ := refs_inv hy
      have hm : m < ((Km513.of_ d c 1).map (Km513.copy d)).length := by
        have := (List.getElem?_eq_some_iff.mp hb).1
        have := hB.len
        omega
      have hcm := List.getElem?_eq_getElem hm
      generalize ((Km513.of_ d c 1).map (Km513.copy d))[m] = e at hcm
      have he := hcs e (List.mem_of_getElem? hcm)
      have hz4 := s4 _ _ hz3
      refine ⟨rfl, ?_⟩
      show (tCall (spRb C) [] E0 (tCons (tVar 10) (tCons (tVar 4) tNil))) _ H' fun y H4 => ∃ acc, H4 rk = some (.lst acc) ∧ acc.length < sizeLine ∧ (Same H3 (upd H4 rk (.lst (acc ++ [y]))) ∧ ∃ ks, ChoicesAt (upd H4 rk (.lst (acc ++ [y]))) rk ks ((((Km513.of_ d c 1).map (Km513.copy d)).take (m + 1)).map (Km513.take (Km513.row d))) ∧ ∀ a ∈ ks, a ≠ lz)
      refine ⟨_, rfl, _, rfl, b, lz, e, Km513.row d, rfl, (hB.same s4).at_ m b e hb hcm, hz4, by omega, fun q H5 hq0 s5 hq5 => ?_⟩
      have hK5 := hK.same s5
      refine ⟨_, hK5.lst, ?_, Same.upd (s4.trans s5) hrk0, ks ++ [q], ?_, ?_⟩
      · rw [List.length_map, hK.len, List.length_map, List.length_take]
        exact small1000 (by omega)
      · rw [take_snoc hcm, List.map_append]
        exact hK5.snoc hq5 (ne_of_none hK.lst hq0)
      · intro a ha
        rcases List.mem_append.mp ha with ha | ha
        · exact hkz a ha
        · rw [List.mem_singleton.mp ha]
          exact Ne.symm (ne_of_none hz4 hq0)
    rintro H4 ⟨s4, ks, hK, hkz⟩
    rw [List.length_map, hB.len, List.take_length] at hK
    have s14 := s13.trans s4
    have hz4 := s4 _ _ hz3
    have nrk : rk ≠ lz := Ne.symm (ne_of_none hz3 hrk0)
    -- in place
    refine ⟨_, rfl, _, rfl, lh, c, 0, rfl, s14 _ _ hh, by omega, fun l0 H5 h50 s5 h5 => ?_⟩
    rw [nw_of hlen] at h5
    have s15 := s14.trans s5
    have hz5 := s5 _ _ hz4
    have hor : M.orderOf d (Km513.of_ d c 0) = some (Km513.order d (Km513.of_ d c 0)) := by
      unfold M.orderOf
      rw [if_pos hnr]
    have hnd := nw_nodup c 0
    have hl0 := nw_len c 0
    rw [nw_of hlen] at hnd hl0
    refine ⟨lc, l0, as, d, Km513.of_ d c 0, rfl, W, hC.same s15, h5, M.of_lt, hnd, by omega, ?_⟩
    rw [hor]
    have hlt : ∀ j ∈ Km513.order d (Km513.of_ d c 0), j < d.copies.length := order_lt (l := []) (fun j hj => by cases hj) _ _ _ M.of_lt
    generalize hoo : Km513.order d (Km513.of_ d c 0) = o at hlt
    intro lq H6 h60 s6 h6
    have s16 := s15.trans s6
    have hz6 := s6 _ _ hz5
    have nlq : lq ≠ lz := Ne.symm (ne_of_none hz5 h60)
    have hC6 := hC.same s16
    have hB6 := (hB.same s4).same (s5.trans s6)
    have hK6 := hK.same (s5.trans s6)
    have hw6 := s16 _ _ hlw
    have hh6 := s16 _ _ hh
    have hW : ∀ i, i < d.copies.length → (Km513.copy d i).f + (Km513.copy d i).n ≤ 16 ∧ (Km513.copy d i).t + (Km513.copy d i).n ≤ 16 := by
      intro i hi
      have := W.copy hi
      omega
    refine ⟨lq, rfl, ⟨_, SqL.of h6⟩, for_list (K := K) (a := lq) (xs := nV o)
      (fun m σ H' => But lz H6 H' ∧ H' lz = some (.lst (nV (((o.take m).map (Km513.copy d)).foldl M.doIn (Km513.row d)))) ∧ ∃ v7, σ = [some (.ref lo), some (.ref lw), some (.ref lc), some (.ref lh), some (.ref lz), some (.ref ra), some (.ref rk), v7, none, none, none])
      ⟨But.of (Same.refl H6), hz6, none, rfl⟩ (fun m σ H' _ ⟨b, _⟩ => SqL.of (b _ _ h6 nlq)) ?_ ?_⟩
    · rintro m x σ H' hx ⟨b, hz, v7, rfl⟩
      obtain ⟨i, hi, rfl⟩ := nV_inv hx
      have hil := hlt i (List.mem_of_getElem? hi)
      obtain ⟨a, ha, hv, hc⟩ := (hC6.but b nlc ⟨_, hz6⟩).get hil
      have hrl : (((o.take m).map (Km513.copy d)).foldl M.doIn (Km513.row d)).length = 16 := by rw [M.foldIn_len, rl]
      have h2 := hW i hil
      refine ⟨_, rfl, _, rfl, lc, _, _, _, rfl, rfl, SqL.of (b _ _ hC6.lst nlc), atI_of rfl hv, _, rfl, a, lz, _, _, rfl, hc, hz, by omega, by omega, by omega, fun H8 b8 h8 => ⟨b.trans b8, ?_, _, rfl⟩⟩
      rw [take_snoc hi, List.map_append, List.foldl_append]
      exact h8
    rintro σ H7 ⟨b7, hz7, v7, rfl⟩
    rw [nV_len, List.take_length] at hz7
    have hrl : ((o.map (Km513.copy d)).foldl M.doIn (Km513.row d)).length = 16 := by rw [M.foldIn_len, rl]
    have hde : Km513.doneUp d c = M.sTo d.new (((Km513.of_ d c 1).map (Km513.copy d)).foldl (M.asideIn (Km513.row d)) ((o.map (Km513.copy d)).foldl M.doIn (Km513.row d))) (Km513.sent d c) := by rw [← hoo, M.done_eq]
    rw [hde] at k
    generalize (o.map (Km513.copy d)).foldl M.doIn (Km513.row d) = R1 at hz7 hrl k
    generalize (Km513.of_ d c 1).map (Km513.copy d) = cs at hB6 hK6 hcs hcsl k
    -- those kept aside
    have hbl : (bs.map V.ref).length = cs.length := by rw [List.length_map, hB6.len]
    refine ⟨_, rfl, ra, _, rfl, .inl (SqL.of (b7 _ _ hB6.lst nra)), _, rfl, by omega, by omega, for_range (lo := 0) (n := (bs.map V.ref).length)
      (fun m σ H' => But lz H6 H' ∧ H' lz = some (.lst (nV ((cs.take m).foldl (M.asideIn (Km513.row d)) R1))) ∧ ∃ v7 v8, σ = [some (.ref lo), some (.ref lw), some (.ref lc), some (.ref lh), some (.ref lz), some (.ref ra), some (.ref rk), v7, v8, none, none])
      ⟨b7, hz7, v7, none, rfl⟩ ?_ ?_⟩
    · rintro m σ H' hm ⟨b, hz, w7, w8, rfl⟩
      rw [hbl] at hm
      obtain ⟨a, e, ha, he, hv, hc⟩ := (hB6.but b nra ⟨_, hz6⟩).getC hm
      have hml : m < ks.length := by
        rw [hK6.len, List.length_map]
        exact hm
      have hks := List.getElem?_eq_getElem hml
      have hkm : ks[m] ∈ ks := List.getElem_mem hml
      generalize ks[m] = q at hks hkm
      have hkv : (ks.map V.ref)[m]? = some (V.ref q) := by rw [List.getElem?_map, hks]; rfl
      have hq6 := hK6.at_ m q (Km513.take (Km513.row d) e) hks (by rw [List.getElem?_map, he]; rfl)
      have nq := hkz q hkm
      have hel := hcs e (List.mem_of_getElem? he)
      have hrl2 : ((cs.take m).foldl (M.asideIn (Km513.row d)) R1).length = 16 := by rw [M.foldAs_len, hrl]
      refine ⟨_, rfl, _, rfl, ra, _, _, _, rfl, rfl, SqL.of (b _ _ hB6.lst nra), atI_of (j := m) (by omega) hv, _, rfl, _, rfl, _, rfl, rk, _, _, _, rfl, rfl, SqL.of (b _ _ hK6.lst nrk), atI_of (j := m) (by omega) hkv,
        a, lz, q, e, _, _, rfl, hc, hz, b _ _ hq6 nq, nq, by rw [M.take_len]; omega, by omega, by omega, fun H8 b8 h8 => ⟨b.trans b8, ?_, _, _, rfl⟩⟩
      rw [take_snoc he, List.foldl_append]
      exact h8
    rintro σ H8 ⟨b8, hz8, w7, w8, rfl⟩
    rw [hbl, List.take_length] at hz8
    have hrl2 : (cs.foldl (M.asideIn (Km513.row d)) R1).length = 16 := by rw [M.foldAs_len, hrl]
    generalize cs.foldl (M.asideIn (Km513.row d)) R1 = R2 at hz8 hrl2 k
    -- what is sent
    refine ⟨_, rfl, _, rfl, _, rfl, lw, _, rfl, .inl (SqL.of (b8 _ _ hw6 nlw)), lc, lh, as, d, c, by rw [nV_len]; rfl, W, hC6.but b8 nlc ⟨_, hz6⟩, b8 _ _ hh6 nlh, hlen, fun ls H9 hs0 s9 hs9 => ?_⟩
    have nls : ls ≠ lz := Ne.symm (ne_of_none hz8 hs0)
    have hw9 := s9 _ _ (b8 _ _ hw6 nlw)
    have hz9 := s9 _ _ hz8
    have hsl := sent_len16 W c
    have hslt := sent_lt (d := d) (c := c)
    generalize Km513.sent d c = S at hs9 hsl hslt k
    refine ⟨ls, rfl, ⟨_, SqL.of hs9⟩, for_list (K := K) (a := ls) (xs := nV S)
      (fun m σ H' => But lz H9 H' ∧ H' lz = some (.lst (nV (M.sTo d.new R2 (S.take m)))) ∧ ∃ v7 v8 v9, σ = [some (.ref lo), some (.ref lw), some (.ref lc), some (.ref lh), some (.ref lz), some (.ref ra), some (.ref rk), v7, v8, v9, none])
      ⟨But.of (Same.refl H9), hz9, _, _, none, rfl⟩ (fun m σ H' _ ⟨b, _⟩ => SqL.of (b _ _ hs9 nls)) ?_ ?_⟩
    · rintro m x σ H' hx ⟨b, hz, u7, u8, u9, rfl⟩
      obtain ⟨i, hi, rfl⟩ := nV_inv hx
      have hil := hslt i (List.mem_of_getElem? hi)
      refine ⟨_, rfl, _, rfl, lw, _, _, _, rfl, rfl, SqL.of (b _ _ hw9 nlw), atI_of rfl (nV_at (at_of_lt hil)), ?_⟩
      refine ⟨_, rfl, _, rfl, lz, _, _, i, rfl, rfl, hz, ixN_nat (by rw [nV_len, M.sTo_len]; omega), ?_⟩
      refine ⟨b.upd, ?_, _, _, _, rfl⟩
      rw [upd_same, nV_set, take_snoc hi]
      unfold M.sTo
      rw [List.foldl_append]
      rfl
    rintro σ H10 ⟨b10, hz10, u7, u8, u9, rfl⟩
    rw [nV_len, List.take_length] at hz10
    exact ⟨_, rfl, k lz H10 hz0 (But.same (But.same s16 b8 hz0 |>.trans s9) b10 hz0) hz10⟩
end
end T
set_option Elab.async false
set_option linter.all false
set_option maxRecDepth 100000
namespace T
open PySem PySem.Spec PyProof.Rows L2 R
open Km513 (Copy Desk Choice State Ans)
section
variable {P : Program} {w : World} {K : PySem.W.Frag} {mg : Str → Option Value} {base : Heap} {C CD : Addr}
/-! ### those_fitting -/
abbrev sFtg : Stmt := top 62
def spFtg (C CD : Addr) : Sp := fun vs H Q _ => ∃ (p lo lw lc dx : Addr) (as : List Addr) (d : Desk), vs = [.ref p] ∧ Begun C CD H p lo lw lc dx as d ∧
  ∀ (r : Addr) (H' : Hp), H r = none → Same H H' → H' r = some (.lst (nV (Km513.fitting d))) → Q (.ref r) H'
theorem scFtg : FnScope ["desk", "i"] ["desk"] (defScope sFtg) := ⟨rfl, rfl, rfl, by decide +kernel, rfl, by decide +kernel, by decide +kernel⟩
theorem fitting_lt {d : Desk} : ∀ j ∈ Km513.fitting d, j < d.copies.length := fun j hj => List.mem_range.mp (List.mem_filter.mp hj).1
theorem fitting_len (d : Desk) : (Km513.fitting d).length ≤ d.copies.length := by
  have := List.length_filter_le (fun i => Km513.fits d (Km513.copy d i)) (Km513.numbers d)
  unfold Km513.numbers at this
  rw [List.length_range] at this
  exact this
theorem fitting_nodup (d : Desk) : (Km513.fitting d).Nodup := List.Nodup.sublist (List.filter_sublist ..) List.nodup_range
theorem ok_ftg (D : Def K mg "those_fitting" sFtg ["desk"]) (T : Txt K mg C) (TD : TxtD K mg CD) (G : Cal P w K mg base 2 "does_fit" ["desk", "copy"] (spDf C CD)) : Cal P w K mg base 3 "those_fitting" ["desk"] (spFtg C CD) := by
  refine D.cal scFtg (fun vs H Q E h => ?_) (fun fa cdv A outer s H vs Q E hr h => ?_)
  · obtain ⟨p, lo, lw, lc, dx, as, d, rfl, _⟩ := h
    rfl
  · obtain ⟨p, lo, lw, lc, dx, as, d, rfl, B, k⟩ := h
    refine ⟨_, pss_one (ps_ret (pe_lc (own := [("i", 1)]) (g := gName 1) (by rfl) scFtg.nd (pi_range1 rfl T.range (pa_cons (pe_callB call_len_seq (by rfl) T.len PySem.boot_len (pa_cons (pe_fld (pv 0) rfl) pa_nil)) pa_nil)) (blkOk_by (own := [("i", 1)]) (N := ["desk", "i"]) (sc := defScope sFtg) (by decide +kernel))
      (fun _ _ _ _ _ => pg_name (i := 1) scFtg.nd rfl (Or.inl rfl)) (fun _ _ _ _ _ => pts_one (pt_val (pe_callC G hr rfl (pa_cons (pv 0) (pa_cons (pe_ix (ixK K) (pe_fldK K (pv 0) rfl) (pv 1) (fun _ _ => rfl)) pa_nil))))) (fun _ _ _ _ _ => pv 1))), ?_⟩
    have h7 := B.wf.cl
    have hal : (as.map V.ref).length = d.copies.length := by rw [List.length_map, B.cps.len]
    refine ⟨_, rfl, p, CD, dx, _, _, rfl, B.at_, TD.cl, TD.nC, dfs_c _ _ _ _ _, lc, _, rfl, .inl (SqL.of B.cps.lst), _, rfl, by omega, by omega, fun r hr0 => lc_range (lo := 0) (n := (as.map V.ref).length) (fun m H' => Same H H' ∧ H' r = some (.lst (nV ((List.range m).filter fun i => Km513.fits d (Km513.copy d i))))) ⟨Same.upd (Same.refl H) hr0, upd_same⟩ ?_ ?_⟩
    · rintro m H' hm ⟨s2, hr1⟩
      rw [hal] at hm
      have B2 := B.same s2
      obtain ⟨b, hb, hv, hc⟩ := B2.cps.get (d := d) hm
      have wc := B.wf.copy hm
      refine ⟨rfl, _, rfl, _, rfl, p, CD, dx, _, _, rfl, B2.at_, TD.cl, TD.nC, dfs_c _ _ _ _ _, _, rfl, lc, _, _, _, rfl, rfl, SqL.of B2.cps.lst, atI_of (j := m) (by omega) hv, p, b, lo, lw, lc, dx, as, d, _, rfl, B2, hc, wc.2.1, wc.2.2, _, rfl, ?_⟩
      rw [filter_snoc]
      refine ite2 (fun h1 => ?_) (fun h1 => ?_)
      · rw [if_pos h1]
        refine ⟨_, rfl, _, hr1, ?_, Same.upd s2 hr0, ?_⟩
        · rw [nV_len]
          have := List.length_filter_le (fun i => Km513.fits d (Km513.copy d i)) (List.range m)
          rw [List.length_range] at this
          exact small1000 (by omega)
        · rw [upd_same, nV_app]
          have e : ((0 : Int) + (m : Int)) = (m : Int) := by omega
          rw [e]
          rfl
      · rw [if_neg h1, List.append_nil]
        exact ⟨s2, hr1⟩
    · rintro H2 ⟨s2, hr2⟩
      rw [hal] at hr2
      exact k r H2 hr0 s2 hr2
/-! ### ring -/
abbrev sRing : Stmt := top 63
def mkRing (_ : List Nat) : Km513.Call := .ring
theorem scRing : FnScope ["desk", "arguments"] ["desk", "arguments"] (defScope sRing) := ⟨rfl, rfl, rfl, by decide +kernel, rfl, by decide +kernel, by decide +kernel⟩
theorem ok_ring (D : Def K mg "ring" sRing ["desk", "arguments"]) (T : Txt K mg C) (TD : TxtD K mg CD) (G1 : Cal P w K mg base 3 "those_fitting" ["desk"] (spFtg C CD)) (G2 : Cal P w K mg base 5 "order_of" ["copies", "numbers"] (spOrder C)) (G3 : Cal P w K mg base 1 "one_or_zero" ["answer"] spOoz) : Cal P w K mg base 6 "ring" ["desk", "arguments"] (spH C CD 0 true mkRing) := by
  refine D.cal scRing (fun vs H Q E h => ?_) (fun fa cdv A outer s H vs Q E hr h => ?_)
  · obtain ⟨p, a, st, F, args, rfl, _⟩ := h
    rfl
  · obtain ⟨p, a, st, F, args, rfl, hD, ha, haF, hlen, hst, k⟩ := h
    obtain ⟨d, lo, lw, lc, dx, as, rfl, rfl, B⟩ := hD.open (hst rfl)
    refine ⟨_, pss_one (ps_ret (pe_callC G3 (hr.mono (by decide)) rfl (pa_cons (pe_cmpR op_isN (pe_callC G2 hr rfl (pa_cons (pe_fld (pv 0) rfl) (pa_cons (pe_callC G1 (hr.mono (by decide)) rfl (pa_cons (pv 0) pa_nil)) pa_nil))) pe_non (nomark _)) pa_nil))), ?_⟩
    have k' : Ends1 C CD H p [p, lo, lw, lc] (some d, Km513.say (if Km513.noRing d (Km513.fitting d) = true then 0 else 1)) Q := k
    have h7 := B.wf.cl
    refine ⟨_, rfl, p, CD, dx, _, _, rfl, B.at_, TD.cl, TD.nC, dfs_c _ _ _ _ _, _, rfl, p, lo, lw, lc, dx, as, d, rfl, B, fun q H1 hr0 s1 hq1 => ?_⟩
    have B1 := B.same s1
    refine ⟨lc, q, as, d, Km513.fitting d, rfl, B.wf, B1.cps, hq1, fitting_lt, fitting_nodup d, Nat.le_trans (fitting_len d) h7, ?_⟩
    rw [← M.orderOf_isSome] at k'
    cases eq : M.orderOf d (Km513.fitting d) with
    | none =>
      rw [eq] at k'
      intro H3 s3
      exact ⟨rfl, true, rfl, fun r4 H4 hr4 s4 e4 => k'.reads hD ((s1.trans s3).trans s4) e4⟩
    | some o =>
      rw [eq] at k'
      intro r3 H3 hr3 s3 e3
      exact ⟨rfl, false, rfl, fun r4 H4 hr4 s4 e4 => k'.reads hD ((s1.trans s3).trans s4) e4⟩
/-! ### best_with, sent_with -/
abbrev sBw : Stmt := top 64
def spBw (C CD : Addr) : Sp := fun vs H Q _ => ∃ (p lo lw lc dx l : Addr) (as bs : List Addr) (d : Desk) (cs : List Copy) (s : Nat), vs = [.ref p, .ref l, .int s] ∧ Begun C CD H p lo lw lc dx as d ∧ CopiesAt C H l bs cs ∧ M.WF { d with copies := cs, spare := s } ∧
  ∀ (r : Addr) (H' : Hp), Same H H' → H' r = some (.lst (nV (Km513.best { d with copies := cs, spare := s }))) → Q (.ref r) H'
theorem scBw : FnScope ["desk", "copies", "room", "copy"] ["desk", "copies", "room"] (defScope sBw) := ⟨rfl, rfl, rfl, by decide +kernel, rfl, by decide +kernel, by decide +kernel⟩
theorem ok_bw (D : Def K mg "best_with" sBw ["desk", "copies", "room"]) (G1 : Cal P w K mg base 2 "does_fit" ["desk", "copy"] (spDf C CD)) (G2 : Cal P w K mg base 7 "best_choice" ["copies", "fitting", "room"] (spBc C)) : Cal P w K mg base 8 "best_with" ["desk", "copies", "room"] (spBw C CD) := by
  refine D.cal scBw (fun vs H Q E h => ?_) (fun fa cdv A outer s H vs Q E hr h => ?_)
  · obtain ⟨p, lo, lw, lc, dx, l, as, bs, d, cs, s, rfl, _⟩ := h
    rfl
  · obtain ⟨p, lo, lw, lc, dx, l, as, bs, d, cs, sp, rfl, B, hC, W, k⟩ := h
    refine ⟨_, pss_one (ps_ret (pe_callC G2 hr rfl (pa_cons (pv 1) (pa_cons (pe_lc (own := [("copy", 3)]) (g := gName 3) (by rfl) scBw.nd (pi_list (pv 1)) (blkOk_by (own := [("copy", 3)]) (N := ["desk", "copies", "room", "copy"]) (sc := defScope sBw) (by decide +kernel))
      (fun _ _ _ _ _ => pg_name (i := 3) scBw.nd rfl (Or.inl rfl)) (fun _ _ _ _ _ => pts_nil) (fun _ _ _ _ _ => pe_callC G1 (hr.mono (by decide)) rfl (pa_cons (pv 0) (pa_cons (pv 3) pa_nil)))) (pa_cons (pv 2) pa_nil))))), ?_⟩
    have h7 : cs.length ≤ 7 := W.cl
    refine ⟨_, rfl, _, rfl, l, rfl, ⟨_, SqL.of hC.lst⟩, fun r hr0 => lc_list (K := K) (a := l) (xs := bs.map V.ref) (fun m H' => Same H H' ∧ H' r = some (.lst (bV ((cs.take m).map (Km513.fits d)))))
      ⟨Same.upd (Same.refl H) hr0, upd_same⟩ (fun m H' _ ⟨s2, _⟩ => SqL.of (s2 _ _ hC.lst)) ?_ ?_⟩
    · rintro m y H' hy ⟨s2, hr1⟩
      obtain ⟨b, hb, rfl⟩ := refs_inv hy
      have hm : m < cs.length := by
        have := (List.getElem?_eq_some_iff.mp hb).1
        have := hC.len
        omega
      have hcm : cs[m]? = some cs[m] := List.getElem?_eq_getElem hm
      generalize cs[m] = e at hcm
      have wc := W.ok e (List.mem_of_getElem? hcm)
      refine ⟨rfl, ?_⟩
      show (tCall (spDf C CD) [] E0 (tCons (tVar 0) (tCons (tVar 3) tNil))) _ H' fun y H4 => ∃ acc, H4 r = some (.lst acc) ∧ acc.length < sizeLine ∧ (Same H (upd H4 r (.lst (acc ++ [y]))) ∧ upd H4 r (.lst (acc ++ [y])) r = some (.lst (bV ((cs.take (m + 1)).map (Km513.fits d)))))
      refine ⟨_, rfl, _, rfl, p, b, lo, lw, lc, dx, as, d, e, rfl, B.same s2, (hC.same s2).at_ m b e hb hcm, wc.2.1, wc.2.2, _, hr1, ?_, Same.upd s2 hr0, ?_⟩
      · rw [bV_len, List.length_map, List.length_take]
        exact small1000 (by omega)
      · rw [upd_same, take_snoc hcm, List.map_append, bV_app]
        rfl
    · rintro H2 ⟨s2, hr2⟩
      have eL : (bs.map V.ref).length = cs.length := by rw [List.length_map, hC.len]
      rw [eL, List.take_length] at hr2
      refine ⟨_, rfl, l, r, bs, { d with copies := cs, spare := sp }, rfl, W, hC.same s2, hr2, fun r2 H3 s3 hr3 => ?_⟩
      rw [← M.best_eq W] at hr3
      exact k r2 H3 (s2.trans s3) hr3
abbrev sSw : Stmt := top 65
def spSw (C CD : Addr) : Sp := fun vs H Q _ => ∃ (p lo lw lc dx l : Addr) (as bs : List Addr) (d : Desk) (cs : List Copy) (s : Nat), vs = [.ref p, .ref l, .int s] ∧ Begun C CD H p lo lw lc dx as d ∧ CopiesAt C H l bs cs ∧ M.WF { d with copies := cs, spare := s } ∧
  ∀ (H' : Hp), Same H H' → Q (.int ((Km513.sent { d with copies := cs, spare := s } (Km513.best { d with copies := cs, spare := s })).length : Nat)) H'
theorem scSw : FnScope ["desk", "copies", "room"] ["desk", "copies", "room"] (defScope sSw) := ⟨rfl, rfl, rfl, by decide +kernel, rfl, by decide +kernel, by decide +kernel⟩
theorem ok_sw (D : Def K mg "sent_with" sSw ["desk", "copies", "room"]) (T : Txt K mg C) (TD : TxtD K mg CD) (G1 : Cal P w K mg base 8 "best_with" ["desk", "copies", "room"] (spBw C CD)) (G2 : Cal P w K mg base 3 "sent_cells" ["copies", "choice", "new_count"] (spSc C)) : Cal P w K mg base 9 "sent_with" ["desk", "copies", "room"] (spSw C CD) := by
  refine D.cal scSw (fun vs H Q E h => ?_) (fun fa cdv A outer s H vs Q E hr h => ?_)
  · obtain ⟨p, lo, lw, lc, dx, l, as, bs, d, cs, s, rfl, _⟩ := h
    rfl
  · obtain ⟨p, lo, lw, lc, dx, l, as, bs, d, cs, sp, rfl, B, hC, W, k⟩ := h
    refine ⟨_, pss_one (ps_ret (pe_callB call_len_seq (by rfl) T.len PySem.boot_len (pa_cons (pe_callC G2 (hr.mono (by decide)) rfl (pa_cons (pv 1) (pa_cons (pe_callC G1 hr rfl (pa_cons (pv 0) (pa_cons (pv 1) (pa_cons (pv 2) pa_nil)))) (pa_cons (pe_callB call_len_seq (by rfl) T.len PySem.boot_len (pa_cons (pe_fld (pv 0) rfl) pa_nil)) pa_nil)))) pa_nil))), ?_⟩
    obtain ⟨bl, b2⟩ := M.best_ok W
    refine ⟨_, rfl, _, rfl, _, rfl, _, rfl, p, lo, lw, lc, dx, l, as, bs, d, cs, sp, rfl, B, hC, W, fun r H1 s1 hr1 => ?_⟩
    have B1 := B.same s1
    refine ⟨_, rfl, p, CD, dx, _, _, rfl, B1.at_, TD.cl, TD.nW, dfs_w _ _ _ _ _, lw, _, rfl, .inl (SqL.of B1.new), l, r, bs, { d with copies := cs, spare := sp }, _, by rw [nV_len]; rfl, W, hC.same s1, hr1, bl, fun q H2 hq0 s2 hq2 => ?_⟩
    refine ⟨q, _, rfl, .inl (SqL.of hq2), ?_⟩
    rw [nV_len]
    exact k H2 (s1.trans s2)
/-! ### chosen -/
abbrev sCho : Stmt := top 66
def spCho (C CD : Addr) : Sp := fun vs H Q _ => ∃ (p lo lw lc dx : Addr) (as : List Addr) (d : Desk), vs = [.ref p] ∧ Begun C CD H p lo lw lc dx as d ∧
  ∀ (r : Addr) (H' : Hp), Same H H' → H' r = some (.lst (nV (Km513.best d))) → Q (.ref r) H'
theorem scCho : FnScope ["desk"] ["desk"] (defScope sCho) := ⟨rfl, rfl, rfl, by decide +kernel, rfl, by decide +kernel, by decide +kernel⟩
theorem ok_cho (D : Def K mg "chosen" sCho ["desk"]) (TD : TxtD K mg CD) (G1 : Cal P w K mg base 8 "best_with" ["desk", "copies", "room"] (spBw C CD)) : Cal P w K mg base 9 "chosen" ["desk"] (spCho C CD) := by
  refine D.cal scCho (fun vs H Q E h => ?_) (fun fa cdv A outer s H vs Q E hr h => ?_)
  · obtain ⟨p, lo, lw, lc, dx, as, d, rfl, _⟩ := h
    rfl
  · obtain ⟨p, lo, lw, lc, dx, as, d, rfl, B, k⟩ := h
    refine ⟨_, pss_one (ps_ret (pe_callC G1 hr rfl (pa_cons (pv 0) (pa_cons (pe_fld (pv 0) rfl) (pa_cons (pe_fld (pv 0) rfl) pa_nil))))), ?_⟩
    exact ⟨_, rfl, _, rfl, p, CD, dx, _, _, rfl, B.at_, TD.cl, TD.nC, dfs_c _ _ _ _ _, _, rfl, p, CD, dx, _, _, rfl, B.at_, TD.cl, TD.nR, dfs_r _ _ _ _ _, p, lo, lw, lc, dx, lc, as, as, d, d.copies, d.spare, rfl, B, B.cps, B.wf, k⟩
/-! ### best, tell_choice -/
abbrev sBest : Stmt := top 67
def mkBest (_ : List Nat) : Km513.Call := .best
theorem scBest : FnScope ["desk", "arguments", "choice", "cells"] ["desk", "arguments"] (defScope sBest) := ⟨rfl, rfl, rfl, by decide +kernel, rfl, by decide +kernel, by decide +kernel⟩
theorem ok_best (D : Def K mg "best" sBest ["desk", "arguments"]) (T : Txt K mg C) (TD : TxtD K mg CD) (G1 : Cal P w K mg base 9 "chosen" ["desk"] (spCho C CD)) (G2 : Cal P w K mg base 3 "sent_cells" ["copies", "choice", "new_count"] (spSc C)) (G3 : Cal P w K mg base 2 "cells_with" ["copies", "choice", "number"] (spCw C)) : Cal P w K mg base 10 "best" ["desk", "arguments"] (spH C CD 0 true mkBest) := by
  obtain ⟨t1, c1⟩ := T.c1
  refine D.cal scBest (fun vs H Q E h => ?_) (fun fa cdv A outer s H vs Q E hr h => ?_)
  · obtain ⟨p, a, st, F, args, rfl, _⟩ := h
    rfl
  · obtain ⟨p, a, st, F, args, rfl, hD, ha, haF, hlen, hst, k⟩ := h
    obtain ⟨d, lo, lw, lc, dx, as, rfl, rfl, B⟩ := hD.open (hst rfl)
    refine ⟨_, pss_cons (ps_set (i := 2) scBest.nd rfl (Or.inl rfl) (pe_callC G1 hr rfl (pa_cons (pv 0) pa_nil)))
      (pss_cons (ps_set (i := 3) scBest.nd rfl (Or.inl rfl) (pe_callC G2 (hr.mono (by decide)) rfl (pa_cons (pe_fld (pv 0) rfl) (pa_cons (pv 2) (pa_cons (pe_callB call_len_seq (by rfl) T.len PySem.boot_len (pa_cons (pe_fld (pv 0) rfl) pa_nil)) pa_nil)))))
      (pss_one (ps_ret (pe_lst (pa_cons (pe_callB call_len_seq (by rfl) T.len PySem.boot_len (pa_cons (pv 3) pa_nil)) (pa_cons (pe_callC G3 (hr.mono (by decide)) rfl (pa_cons (pe_fld (pv 0) rfl) (pa_cons (pv 2) (pa_cons (pe_glob (v := .int 1) (by rfl) c1 ⟨t1, rfl⟩) pa_nil)))) pa_nil)))))), ?_⟩
    have k' : Ends1 C CD H p [p, lo, lw, lc] (some d, ⟨((Km513.sent d (Km513.best d)).length : Int), [(Km513.lengths d (Km513.of_ d (Km513.best d) 1) : Int)]⟩) Q := k
    obtain ⟨bl, b2⟩ := M.best_ok B.wf
    refine ⟨_, rfl, p, lo, lw, lc, dx, as, d, rfl, B, fun r H1 s1 hr1 => ?_⟩
    have B1 := B.same s1
    refine ⟨_, rfl, p, CD, dx, _, _, rfl, B1.at_, TD.cl, TD.nC, dfs_c _ _ _ _ _, _, rfl, _, rfl, p, CD, dx, _, _, rfl, B1.at_, TD.cl, TD.nW, dfs_w _ _ _ _ _, lw, _, rfl, .inl (SqL.of B1.new), lc, r, as, d, Km513.best d, by rw [nV_len]; rfl, B.wf, B1.cps, hr1, bl, fun q H2 hq0 s2 hq2 => ?_⟩
    have B2 := B1.same s2
    refine ⟨_, rfl, q, _, rfl, .inl (SqL.of hq2), _, rfl, p, CD, dx, _, _, rfl, B2.at_, TD.cl, TD.nC, dfs_c _ _ _ _ _, _, rfl, lc, r, as, d, Km513.best d, 1, rfl, B2.cps, s2 _ _ hr1, bl, B.wf.cl, fun H3 s3 => ?_⟩
    refine ⟨by show 2 ≤ sizeLine; decide, fun z hz => k'.reads hD (((s1.trans s2).trans s3).trans (Same.upd (Same.refl H3) hz)) ?_⟩
    rw [upd_same, nV_len]
    rfl
abbrev sTc : Stmt := top 68
def mkChoice (_ : List Nat) : Km513.Call := .choice
theorem scTc : FnScope ["desk", "arguments"] ["desk", "arguments"] (defScope sTc) := ⟨rfl, rfl, rfl, by decide +kernel, rfl, by decide +kernel, by decide +kernel⟩
theorem ok_tc (D : Def K mg "tell_choice" sTc ["desk", "arguments"]) (TD : TxtD K mg CD) (G1 : Cal P w K mg base 9 "chosen" ["desk"] (spCho C CD)) (G2 : Cal P w K mg base 1 "counted" ["numbers"] spCounted) : Cal P w K mg base 10 "tell_choice" ["desk", "arguments"] (spH C CD 0 true mkChoice) := by
  refine D.cal scTc (fun vs H Q E h => ?_) (fun fa cdv A outer s H vs Q E hr h => ?_)
  · obtain ⟨p, a, st, F, args, rfl, _⟩ := h
    rfl
  · obtain ⟨p, a, st, F, args, rfl, hD, ha, haF, hlen, hst, k⟩ := h
    obtain ⟨d, lo, lw, lc, dx, as, rfl, rfl, B⟩ := hD.open (hst rfl)
    refine ⟨_, pss_one (ps_ret (pe_callC G2 (hr.mono (by decide)) rfl (pa_cons (pe_callC G1 hr rfl (pa_cons (pv 0) pa_nil)) pa_nil))), ?_⟩
    have k' : Ends1 C CD H p [p, lo, lw, lc] (some d, Km513.tellAll (Km513.best d)) Q := k
    obtain ⟨bl, b2⟩ := M.best_ok B.wf
    have h7 := B.wf.cl
    refine ⟨_, rfl, p, lo, lw, lc, dx, as, d, rfl, B, fun r H1 s1 hr1 => ?_⟩
    refine ⟨r, (Km513.best d).map (fun (n : Nat) => (n : Int)), rfl, by rw [← nV_iV]; exact hr1, by rw [List.length_map]; exact small1000 (by omega), fun r4 H4 hr4 s4 e4 => k'.reads hD (s1.trans s4) ?_⟩
    rw [e4, List.length_map]
    rfl
end
end T
set_option Elab.async false
set_option linter.all false
set_option maxRecDepth 100000
namespace T
open PySem PySem.Spec PyProof.Rows L2 R
open Km513 (Copy Desk Choice State Ans)
section
variable {P : Program} {w : World} {K : PySem.W.Frag} {mg : Str → Option Value} {base : Heap} {C CD : Addr}
/-! ### order, sent, done -/
abbrev sOrd : Stmt := top 69
def mkOrder (_ : List Nat) : Km513.Call := .order
theorem scOrd : FnScope ["desk", "arguments"] ["desk", "arguments"] (defScope sOrd) := ⟨rfl, rfl, rfl, by decide +kernel, rfl, by decide +kernel, by decide +kernel⟩
theorem ok_ord (D : Def K mg "order" sOrd ["desk", "arguments"]) (T : Txt K mg C) (TD : TxtD K mg CD) (G1 : Cal P w K mg base 9 "chosen" ["desk"] (spCho C CD)) (G2 : Cal P w K mg base 1 "numbers_with" ["choice", "number"] spDip) (G3 : Cal P w K mg base 5 "order_of" ["copies", "numbers"] (spOrder C)) (G4 : Cal P w K mg base 1 "counted" ["numbers"] spCounted) : Cal P w K mg base 10 "order" ["desk", "arguments"] (spH C CD 0 true mkOrder) := by
  obtain ⟨t0, c0⟩ := T.c0
  refine D.cal scOrd (fun vs H Q E h => ?_) (fun fa cdv A outer s H vs Q E hr h => ?_)
  · obtain ⟨p, a, st, F, args, rfl, _⟩ := h
    rfl
  · obtain ⟨p, a, st, F, args, rfl, hD, ha, haF, hlen, hst, k⟩ := h
    obtain ⟨d, lo, lw, lc, dx, as, rfl, rfl, B⟩ := hD.open (hst rfl)
    refine ⟨_, pss_one (ps_ret (pe_callC G4 (hr.mono (by decide)) rfl (pa_cons (pe_callC G3 (hr.mono (by decide)) rfl (pa_cons (pe_fld (pv 0) rfl) (pa_cons (pe_callC G2 (hr.mono (by decide)) rfl (pa_cons (pe_callC G1 hr rfl (pa_cons (pv 0) pa_nil)) (pa_cons (pe_glob (v := .int 0) (by rfl) c0 ⟨t0, rfl⟩) pa_nil))) pa_nil))) pa_nil))), ?_⟩
    have k' : Ends1 C CD H p [p, lo, lw, lc] (some d, Km513.tellAll (Km513.order d (Km513.of_ d (Km513.best d) 0))) Q := k
    obtain ⟨bl, b2⟩ := M.best_ok B.wf
    have h7 := B.wf.cl
    refine ⟨_, rfl, p, CD, dx, _, _, rfl, B.at_, TD.cl, TD.nC, dfs_c _ _ _ _ _, _, rfl, p, lo, lw, lc, dx, as, d, rfl, B, fun r H1 s1 hr1 => ?_⟩
    refine ⟨r, Km513.best d, 0, rfl, hr1, by omega, fun q H2 hq0 s2 hq2 => ?_⟩
    have s12 := s1.trans s2
    have hnd := nw_nodup (Km513.best d) 0
    have hl0 := nw_len (Km513.best d) 0
    rw [nw_of bl] at hnd hl0 hq2
    refine ⟨lc, q, as, d, Km513.of_ d (Km513.best d) 0, rfl, B.wf, B.cps.same s12, hq2, M.of_lt, hnd, by omega, ?_⟩
    rw [M.best_order B.wf]
    intro r3 H3 h30 s3 e3
    have hol : (Km513.order d (Km513.of_ d (Km513.best d) 0)).length = (Km513.of_ d (Km513.best d) 0).length := eq_of_beq (M.best_noRing B.wf)
    refine ⟨r3, (Km513.order d (Km513.of_ d (Km513.best d) 0)).map (fun (n : Nat) => (n : Int)), rfl, by rw [← nV_iV]; exact e3, by rw [List.length_map]; exact small1000 (by omega), fun r4 H4 hr4 s4 e4 => k'.reads hD ((s12.trans s3).trans s4) ?_⟩
    rw [e4, List.length_map]
    rfl
abbrev sSent : Stmt := top 70
def mkSent (_ : List Nat) : Km513.Call := .sent
theorem scSent : FnScope ["desk", "arguments"] ["desk", "arguments"] (defScope sSent) := ⟨rfl, rfl, rfl, by decide +kernel, rfl, by decide +kernel, by decide +kernel⟩
theorem ok_sent (D : Def K mg "sent" sSent ["desk", "arguments"]) (T : Txt K mg C) (TD : TxtD K mg CD) (G1 : Cal P w K mg base 9 "chosen" ["desk"] (spCho C CD)) (G2 : Cal P w K mg base 3 "sent_cells" ["copies", "choice", "new_count"] (spSc C)) (G4 : Cal P w K mg base 1 "counted" ["numbers"] spCounted) : Cal P w K mg base 10 "sent" ["desk", "arguments"] (spH C CD 0 true mkSent) := by
  refine D.cal scSent (fun vs H Q E h => ?_) (fun fa cdv A outer s H vs Q E hr h => ?_)
  · obtain ⟨p, a, st, F, args, rfl, _⟩ := h
    rfl
  · obtain ⟨p, a, st, F, args, rfl, hD, ha, haF, hlen, hst, k⟩ := h
    obtain ⟨d, lo, lw, lc, dx, as, rfl, rfl, B⟩ := hD.open (hst rfl)
    refine ⟨_, pss_one (ps_ret (pe_callC G4 (hr.mono (by decide)) rfl (pa_cons (pe_callC G2 (hr.mono (by decide)) rfl (pa_cons (pe_fld (pv 0) rfl) (pa_cons (pe_callC G1 hr rfl (pa_cons (pv 0) pa_nil)) (pa_cons (pe_callB call_len_seq (by rfl) T.len PySem.boot_len (pa_cons (pe_fld (pv 0) rfl) pa_nil)) pa_nil)))) pa_nil))), ?_⟩
    have k' : Ends1 C CD H p [p, lo, lw, lc] (some d, Km513.tellAll (Km513.sent d (Km513.best d))) Q := k
    obtain ⟨bl, b2⟩ := M.best_ok B.wf
    refine ⟨_, rfl, p, CD, dx, _, _, rfl, B.at_, TD.cl, TD.nC, dfs_c _ _ _ _ _, _, rfl, p, lo, lw, lc, dx, as, d, rfl, B, fun r H1 s1 hr1 => ?_⟩
    have B1 := B.same s1
    refine ⟨_, rfl, p, CD, dx, _, _, rfl, B1.at_, TD.cl, TD.nW, dfs_w _ _ _ _ _, lw, _, rfl, .inl (SqL.of B1.new), lc, r, as, d, Km513.best d, by rw [nV_len]; rfl, B.wf, B1.cps, hr1, bl, fun q H2 hq0 s2 hq2 => ?_⟩
    have h16 := sent_len16 B.wf (Km513.best d)
    refine ⟨q, (Km513.sent d (Km513.best d)).map (fun (n : Nat) => (n : Int)), rfl, by rw [← nV_iV]; exact hq2, by rw [List.length_map]; exact small1000 (by omega), fun r4 H4 hr4 s4 e4 => k'.reads hD ((s1.trans s2).trans s4) ?_⟩
    rw [e4, List.length_map]
    rfl
abbrev sDone : Stmt := top 71
def mkDone (_ : List Nat) : Km513.Call := .done
theorem scDone : FnScope ["desk", "arguments"] ["desk", "arguments"] (defScope sDone) := ⟨rfl, rfl, rfl, by decide +kernel, rfl, by decide +kernel, by decide +kernel⟩
theorem ok_done (D : Def K mg "done" sDone ["desk", "arguments"]) (T : Txt K mg C) (TD : TxtD K mg CD) (G1 : Cal P w K mg base 9 "chosen" ["desk"] (spCho C CD)) (G2 : Cal P w K mg base 6 "done_cells" ["old", "wanted", "copies", "choice"] (spDc C)) (G4 : Cal P w K mg base 1 "counted" ["numbers"] spCounted) : Cal P w K mg base 10 "done" ["desk", "arguments"] (spH C CD 0 true mkDone) := by
  refine D.cal scDone (fun vs H Q E h => ?_) (fun fa cdv A outer s H vs Q E hr h => ?_)
  · obtain ⟨p, a, st, F, args, rfl, _⟩ := h
    rfl
  · obtain ⟨p, a, st, F, args, rfl, hD, ha, haF, hlen, hst, k⟩ := h
    obtain ⟨d, lo, lw, lc, dx, as, rfl, rfl, B⟩ := hD.open (hst rfl)
    refine ⟨_, pss_one (ps_ret (pe_callC G4 (hr.mono (by decide)) rfl (pa_cons (pe_callC G2 (hr.mono (by decide)) rfl (pa_cons (pe_fld (pv 0) rfl) (pa_cons (pe_fld (pv 0) rfl) (pa_cons (pe_fld (pv 0) rfl) (pa_cons (pe_callC G1 hr rfl (pa_cons (pv 0) pa_nil)) pa_nil))))) pa_nil))), ?_⟩
    have k' : Ends1 C CD H p [p, lo, lw, lc] (some d, Km513.tellAll (Km513.doneUp d (Km513.best d))) Q := k
    obtain ⟨bl, b2⟩ := M.best_ok B.wf
    refine ⟨_, rfl, p, CD, dx, _, _, rfl, B.at_, TD.cl, TD.nO, dfs_o _ _ _ _ _, _, rfl, p, CD, dx, _, _, rfl, B.at_, TD.cl, TD.nW, dfs_w _ _ _ _ _, _, rfl, p, CD, dx, _, _, rfl, B.at_, TD.cl, TD.nC, dfs_c _ _ _ _ _, _, rfl, p, lo, lw, lc, dx, as, d, rfl, B, fun r H1 s1 hr1 => ?_⟩
    have B1 := B.same s1
    refine ⟨lo, lw, lc, r, as, d, Km513.best d, rfl, B.wf, B1.old, B1.new, B1.cps, hr1, bl, M.best_noRing B.wf, fun q H2 hq0 s2 hq2 => ?_⟩
    have h16 := M.done_len d (Km513.best d)
    refine ⟨q, (Km513.doneUp d (Km513.best d)).map (fun (n : Nat) => (n : Int)), rfl, by rw [← nV_iV]; exact hq2, by rw [List.length_map]; exact small1000 (by omega), fun r4 H4 hr4 s4 e4 => k'.reads hD ((s1.trans s2).trans s4) ?_⟩
    rw [e4, List.length_map]
    rfl
/-! ### careless -/
abbrev sCare : Stmt := top 72
def mkCare (_ : List Nat) : Km513.Call := .careless
theorem scCare : FnScope ["desk", "arguments", "copies", "i"] ["desk", "arguments"] (defScope sCare) := ⟨rfl, rfl, rfl, by decide +kernel, rfl, by decide +kernel, by decide +kernel⟩
theorem ok_care (D : Def K mg "careless" sCare ["desk", "arguments"]) (TD : TxtD K mg CD) (G1 : Cal P w K mg base 3 "those_fitting" ["desk"] (spFtg C CD)) (G2 : Cal P w K mg base 3 "careless_cells" ["old", "wanted", "copies"] (spCc C)) (G4 : Cal P w K mg base 1 "counted" ["numbers"] spCounted) : Cal P w K mg base 4 "careless" ["desk", "arguments"] (spH C CD 0 true mkCare) := by
  refine D.cal scCare (fun vs H Q E h => ?_) (fun fa cdv A outer s H vs Q E hr h => ?_)
  · obtain ⟨p, a, st, F, args, rfl, _⟩ := h
    rfl
  · obtain ⟨p, a, st, F, args, rfl, hD, ha, haF, hlen, hst, k⟩ := h
    obtain ⟨d, lo, lw, lc, dx, as, rfl, rfl, B⟩ := hD.open (hst rfl)
    refine ⟨_, pss_cons (ps_setLc (i := 2) (own := [("i", 3)]) (g := gName 3) (by rfl) scCare.nd rfl rfl (sw_true rfl rfl rfl (by decide +kernel)) (pi_list (pe_callC G1 hr rfl (pa_cons (pv 0) pa_nil)))
        (blkOk_by (own := [("i", 3)]) (N := ["desk", "arguments", "copies", "i"]) (sc := defScope sCare) (by decide +kernel))
        (fun _ _ _ _ _ => pg_name (i := 3) scCare.nd rfl (Or.inl rfl)) (fun _ _ _ _ _ => pts_nil) (fun _ _ _ _ _ => pe_ix (ixK K) (pe_fldK K (pv 0) rfl) (pv 3) (fun _ _ => rfl)))
      (pss_one (ps_ret (pe_callC G4 (hr.mono (by decide)) rfl (pa_cons (pe_callC G2 hr rfl (pa_cons (pe_fld (pv 0) rfl) (pa_cons (pe_fld (pv 0) rfl) (pa_cons (pv 2) pa_nil)))) pa_nil)))), ?_⟩
    have k' : Ends1 C CD H p [p, lo, lw, lc] (some d, Km513.tellAll (Km513.wrong d)) Q := k
    have h7 := B.wf.cl
    have n16 := B.wf.nl
    have hfl := fitting_len d
    refine ⟨_, rfl, p, lo, lw, lc, dx, as, d, rfl, B, fun ln H1 hn0 s1 hn1 => ?_⟩
    refine ⟨ln, rfl, ⟨_, SqL.of hn1⟩, fun ra hra0 => lc_list (K := K) (a := ln) (xs := nV (Km513.fitting d)) (fun m H' => Same H1 H' ∧ ∃ bs, CopiesAt C H' ra bs (((Km513.fitting d).take m).map (Km513.copy d))) ⟨Same.upd (Same.refl H1) hra0, [], ⟨upd_same, rfl, fun j a e h1 _ => by simp at h1⟩⟩
      (fun m H' _ ⟨s3, _⟩ => SqL.of (s3 _ _ hn1)) ?_ ?_⟩
    · rintro m y H' hy ⟨s3, bs, hB⟩
      obtain ⟨i, hi, rfl⟩ := nV_inv hy
      have hil := fitting_lt i (List.mem_of_getElem? hi)
      have s13 := s1.trans s3
      have B3 := B.same s13
      obtain ⟨b, hb, hv, hc⟩ := B3.cps.get (d := d) hil
      refine ⟨rfl, ?_⟩
      show (tOp (rIxL K) (tFld K (tVar 0) "copies") (tVar 3)) _ H' fun y H4 => ∃ acc, H4 ra = some (.lst acc) ∧ acc.length < sizeLine ∧ (Same H1 (upd H4 ra (.lst (acc ++ [y]))) ∧ ∃ bs, CopiesAt C (upd H4 ra (.lst (acc ++ [y]))) ra bs (((Km513.fitting d).take (m + 1)).map (Km513.copy d)))
      refine ⟨_, rfl, p, CD, dx, _, _, rfl, B3.at_, TD.cl, TD.nC, dfs_c _ _ _ _ _, _, rfl, lc, _, _, _, rfl, rfl, SqL.of B3.cps.lst, atI_of rfl hv, _, hB.lst, ?_, Same.upd s3 hra0, bs ++ [b], ?_⟩
      · rw [List.length_map, hB.len, List.length_map, List.length_take]
        exact small1000 (by omega)
      · rw [take_snoc hi, List.map_append]
        exact hB.snoc hc
    rintro H2 ⟨s2, bs, hB⟩
    rw [nV_len, List.take_length] at hB
    have s12 := s1.trans s2
    have B2 := B.same s12
    have hok : ∀ c ∈ (Km513.fitting d).map (Km513.copy d), c.f + c.n ≤ 16 ∧ c.t + c.n ≤ 16 := by
      intro c hc
      obtain ⟨i, hi, rfl⟩ := List.mem_map.mp hc
      have := B.wf.copy (fitting_lt i hi)
      have := B.wf.ol
      omega
    refine ⟨_, rfl, p, CD, dx, _, _, rfl, B2.at_, TD.cl, TD.nO, dfs_o _ _ _ _ _, _, rfl, p, CD, dx, _, _, rfl, B2.at_, TD.cl, TD.nW, dfs_w _ _ _ _ _, _, rfl, lo, lw, ra, bs, _, d, rfl, B.wf, B2.old, B2.new, hB, by rw [List.length_map]; omega, hok, fun q H3 hq0 s3 hq3 => ?_⟩
    rw [M.wrong_eq] at hq3
    have hwl : (Km513.wrong d).length ≤ 16 := by
      unfold Km513.wrong
      have := List.length_filter_le (fun x => ((Km513.fitting d).any fun i => Km513.writes (Km513.copy d i) x) && Km513.at_ (Km513.careless d) x != Km513.at_ d.new x) (List.range d.new.length)
      rw [List.length_range] at this
      omega
    refine ⟨q, (Km513.wrong d).map (fun (n : Nat) => (n : Int)), rfl, by rw [← nV_iV]; exact hq3, by rw [List.length_map]; exact small1000 (by omega), fun r4 H4 hr4 s4 e4 => k'.reads hD ((s12.trans s3).trans s4) ?_⟩
    rw [e4, List.length_map]
    rfl
/-! ### if_room, least_room -/
abbrev sIfr : Stmt := top 73
def mkIfr (l : List Nat) : Km513.Call := .ifSpare (l.getD 0 0)
theorem scIfr : FnScope ["desk", "arguments", "s"] ["desk", "arguments"] (defScope sIfr) := ⟨rfl, rfl, rfl, by decide +kernel, rfl, by decide +kernel, by decide +kernel⟩
theorem ok_ifr (D : Def K mg "if_room" sIfr ["desk", "arguments"]) (TD : TxtD K mg CD) (G1 : Cal P w K mg base 9 "sent_with" ["desk", "copies", "room"] (spSw C CD)) : Cal P w K mg base 10 "if_room" ["desk", "arguments"] (spH C CD 1 true mkIfr) := by
  obtain ⟨t22, e22⟩ := TD.e22
  obtain ⟨t16, r16⟩ := TD.r16
  refine D.cal scIfr (fun vs H Q E h => ?_) (fun fa cdv A outer s H vs Q E hr h => ?_)
  · obtain ⟨p, a, st, F, args, rfl, _⟩ := h
    rfl
  · obtain ⟨p, a, st, F, args, rfl, hD, ha, haF, hlen, hst, k⟩ := h
    obtain ⟨i, rfl⟩ := args1 hlen
    obtain ⟨d, lo, lw, lc, dx, as, rfl, rfl, B⟩ := hD.open (hst rfl)
    refine ⟨_, pss_cons (ps_set (i := 2) scIfr.nd rfl (Or.inl rfl) (pe_ix ix_list (pv 1) pe_int (fun _ _ => rfl)))
      (pss_cons (ps_if (pt_cmpR op_gt (pv 2) (pe_glob (v := .int 16) (by rfl) r16 ⟨t16, rfl⟩) (nomark _)) (pss_one (ps_ret (pe_lst (pa_cons (pe_glob (v := .int (-22)) (by rfl) e22 ⟨t22, rfl⟩) pa_nil)))) pss_nil)
      (pss_one (ps_ret (pe_lst (pa_cons (pe_callC G1 hr rfl (pa_cons (pv 0) (pa_cons (pe_fld (pv 0) rfl) (pa_cons (pv 2) pa_nil)))) pa_nil))))), ?_⟩
    have k' : Ends1 C CD H p [p, lo, lw, lc] (some d, if 16 < i then Km513.say (-22) else Km513.say ((Km513.sent { d with spare := i } (Km513.best { d with spare := i })).length : Nat)) Q := k
    refine ⟨_, rfl, a, _, _, _, rfl, rfl, SqL.of ha, atI_of (j := 0) rfl rfl, _, rfl, _, _, rfl, rfl, _, rfl, ?_⟩
    refine ite2 (fun h1 => ?_) (fun h1 => ?_)
    · have q1 : 16 < i := by
        have := of_decide_eq_true h1
        omega
      rw [if_pos q1] at k'
      exact ⟨by show 1 ≤ sizeLine; decide, fun r hr0 => k'.reads hD (Same.upd (Same.refl H) hr0) upd_same⟩
    have q1 : ¬ 16 < i := fun z => h1 (decide_eq_true (by omega))
    rw [if_neg q1] at k'
    refine ⟨_, rfl, _, rfl, p, CD, dx, _, _, rfl, B.at_, TD.cl, TD.nC, dfs_c _ _ _ _ _, _, rfl, p, lo, lw, lc, dx, lc, as, as, d, d.copies, i, rfl, B, B.cps, M.wf_spare B.wf (by omega), fun H1 s1 => ?_⟩
    exact ⟨by show 1 ≤ sizeLine; decide, fun r hr0 => k'.reads hD (s1.trans (Same.upd (Same.refl H1) hr0)) upd_same⟩
abbrev sLr : Stmt := top 74
def mkLr (_ : List Nat) : Km513.Call := .leastSpare
theorem scLr : FnScope ["desk", "arguments", "choice"] ["desk", "arguments"] (defScope sLr) := ⟨rfl, rfl, rfl, by decide +kernel, rfl, by decide +kernel, by decide +kernel⟩
theorem ok_lr (D : Def K mg "least_room" sLr ["desk", "arguments"]) (T : Txt K mg C) (TD : TxtD K mg CD) (G1 : Cal P w K mg base 8 "best_with" ["desk", "copies", "room"] (spBw C CD)) (G3 : Cal P w K mg base 2 "cells_with" ["copies", "choice", "number"] (spCw C)) : Cal P w K mg base 9 "least_room" ["desk", "arguments"] (spH C CD 0 true mkLr) := by
  obtain ⟨t1, c1⟩ := T.c1
  obtain ⟨t16, r16⟩ := TD.r16
  refine D.cal scLr (fun vs H Q E h => ?_) (fun fa cdv A outer s H vs Q E hr h => ?_)
  · obtain ⟨p, a, st, F, args, rfl, _⟩ := h
    rfl
  · obtain ⟨p, a, st, F, args, rfl, hD, ha, haF, hlen, hst, k⟩ := h
    obtain ⟨d, lo, lw, lc, dx, as, rfl, rfl, B⟩ := hD.open (hst rfl)
    refine ⟨_, pss_cons (ps_set (i := 2) scLr.nd rfl (Or.inl rfl) (pe_callC G1 hr rfl (pa_cons (pv 0) (pa_cons (pe_fld (pv 0) rfl) (pa_cons (pe_glob (v := .int 16) (by rfl) r16 ⟨t16, rfl⟩) pa_nil)))))
      (pss_one (ps_ret (pe_lst (pa_cons (pe_callC G3 (hr.mono (by decide)) rfl (pa_cons (pe_fld (pv 0) rfl) (pa_cons (pv 2) (pa_cons (pe_glob (v := .int 1) (by rfl) c1 ⟨t1, rfl⟩) pa_nil)))) pa_nil)))), ?_⟩
    have k' : Ends1 C CD H p [p, lo, lw, lc] (some d, Km513.say (Km513.leastSpare d : Nat)) Q := k
    rw [M.least_eq B.wf] at k'
    have W16 := M.wf_spare B.wf (Nat.le_refl 16)
    obtain ⟨bl, b2⟩ := M.best_ok W16
    refine ⟨_, rfl, _, rfl, p, CD, dx, _, _, rfl, B.at_, TD.cl, TD.nC, dfs_c _ _ _ _ _, p, lo, lw, lc, dx, lc, as, as, d, d.copies, 16, rfl, B, B.cps, W16, fun r H1 s1 hr1 => ?_⟩
    have B1 := B.same s1
    refine ⟨_, rfl, p, CD, dx, _, _, rfl, B1.at_, TD.cl, TD.nC, dfs_c _ _ _ _ _, _, rfl, lc, r, as, { d with spare := 16 }, _, 1, rfl, B1.cps, hr1, bl, B.wf.cl, fun H2 s2 => ?_⟩
    exact ⟨by show 1 ≤ sizeLine; decide, fun q hq0 => k'.reads hD ((s1.trans s2).trans (Same.upd (Same.refl H2) hq0)) upd_same⟩
/-! ### without -/
abbrev sWo : Stmt := top 75
def mkWo (l : List Nat) : Km513.Call := .without (l.getD 0 0)
theorem scWo : FnScope ["desk", "arguments", "i"] ["desk", "arguments"] (defScope sWo) := ⟨rfl, rfl, rfl, by decide +kernel, rfl, by decide +kernel, by decide +kernel⟩
theorem cut_to {xs : List V} {i : Nat} (h : i < xs.length) : cutV xs none (some (i : Int)) = xs.take i := by
  unfold cutV
  rw [HT.sIx_none, HT.sIx_nat, Nat.min_eq_left (by omega), List.drop_zero, Nat.sub_zero]
theorem cut_from {xs : List V} {i : Nat} (h : i < xs.length) : cutV xs (some ((i : Int) + 1)) none = xs.drop (i + 1) := by
  unfold cutV
  have e : ((i : Int) + 1) = ((i + 1 : Nat) : Int) := by omega
  rw [e, HT.sIx_none, HT.sIx_nat, Nat.min_eq_left (by omega)]
  exact List.take_of_length_le (by rw [List.length_drop]; omega)
theorem CopiesAt.less {H : Hp} {l q : Addr} {as : List Addr} {cs : List Copy} (h : CopiesAt C H l as cs) (i : Nat) (hq : H q = some (.lst ((as.map V.ref).take i ++ (as.map V.ref).drop (i + 1)))) : CopiesAt C H q (as.eraseIdx i) (cs.take i ++ cs.drop (i + 1)) := by
  rw [← List.eraseIdx_eq_take_drop_succ] at hq ⊢
  refine ⟨by rw [hq, map_erase], by rw [List.length_eraseIdx, List.length_eraseIdx, h.len], fun j a c h1 h2 => ?_⟩
  rw [List.getElem?_eraseIdx] at h1 h2
  by_cases hj : j < i
  · rw [if_pos hj] at h1 h2
    exact h.at_ _ _ _ h1 h2
  · rw [if_neg hj] at h1 h2
    exact h.at_ _ _ _ h1 h2
theorem ok_wo (D : Def K mg "without" sWo ["desk", "arguments"]) (T : Txt K mg C) (TD : TxtD K mg CD) (G1 : Cal P w K mg base 9 "sent_with" ["desk", "copies", "room"] (spSw C CD)) : Cal P w K mg base 10 "without" ["desk", "arguments"] (spH C CD 1 true mkWo) := by
  obtain ⟨t2, e2⟩ := TD.e2
  refine D.cal scWo (fun vs H Q E h => ?_) (fun fa cdv A outer s H vs Q E hr h => ?_)
  · obtain ⟨p, a, st, F, args, rfl, _⟩ := h
    rfl
  · obtain ⟨p, a, st, F, args, rfl, hD, ha, haF, hlen, hst, k⟩ := h
    obtain ⟨i, rfl⟩ := args1 hlen
    obtain ⟨d, lo, lw, lc, dx, as, rfl, rfl, B⟩ := hD.open (hst rfl)
    refine ⟨_, pss_cons (ps_set (i := 2) scWo.nd rfl (Or.inl rfl) (pe_ix ix_list (pv 1) pe_int (fun _ _ => rfl)))
      (pss_cons (ps_if (pt_cmpR op_ge (pv 2) (pe_callB call_len_seq (by rfl) T.len PySem.boot_len (pa_cons (pe_fld (pv 0) rfl) pa_nil)) (nomark _)) (pss_one (ps_ret (pe_lst (pa_cons (pe_glob (v := .int (-2)) (by rfl) e2 ⟨t2, rfl⟩) pa_nil)))) pss_nil)
      (pss_one (ps_ret (pe_lst (pa_cons (pe_callC G1 hr rfl (pa_cons (pv 0) (pa_cons (pe_op op_cat (pe_slice sl_list (pe_fld (pv 0) rfl) po_none (po_some (pv 2))) (pe_slice sl_list (pe_fld (pv 0) rfl) (po_some (pe_op op_add (pv 2) pe_int)) po_none)) (pa_cons (pe_fld (pv 0) rfl) pa_nil)))) pa_nil))))), ?_⟩
    have k' : Ends1 C CD H p [p, lo, lw, lc] (some d, if d.copies.length ≤ i then Km513.say (-2) else Km513.say ((Km513.sent { d with copies := d.copies.take i ++ d.copies.drop (i + 1) } (Km513.best { d with copies := d.copies.take i ++ d.copies.drop (i + 1) })).length : Nat)) Q := k
    have eL : (as.map V.ref).length = d.copies.length := by rw [List.length_map, B.cps.len]
    have h7 := B.wf.cl
    refine ⟨_, rfl, a, _, _, _, rfl, rfl, SqL.of ha, atI_of (j := 0) rfl rfl, _, rfl, _, rfl, p, CD, dx, _, _, rfl, B.at_, TD.cl, TD.nC, dfs_c _ _ _ _ _, lc, _, rfl, .inl (SqL.of B.cps.lst), _, _, rfl, rfl, _, rfl, ?_⟩
    refine ite2 (fun h1 => ?_) (fun h1 => ?_)
    · have q1 : d.copies.length ≤ i := by
        have := of_decide_eq_true h1
        rw [eL] at this
        omega
      rw [if_pos q1] at k'
      exact ⟨by show 1 ≤ sizeLine; decide, fun r hr0 => k'.reads hD (Same.upd (Same.refl H) hr0) upd_same⟩
    have q1 : ¬ d.copies.length ≤ i := fun z => h1 (decide_eq_true (by rw [eL]; omega))
    rw [if_neg q1] at k'
    refine ⟨_, rfl, _, rfl, p, CD, dx, _, _, rfl, B.at_, TD.cl, TD.nC, dfs_c _ _ _ _ _, _, rfl, _, rfl, lc, _, rfl, SqL.of B.cps.lst, fun r1 hr1 => ?_⟩
    have s1 : Same H (upd H r1 (.lst (cutV (as.map V.ref) none (some (i : Int))))) := Same.upd (Same.refl H) hr1
    have B1 := B.same s1
    refine ⟨_, rfl, p, CD, dx, _, _, rfl, B1.at_, TD.cl, TD.nC, dfs_c _ _ _ _ _, _, rfl, _, _, rfl, rfl, _, rfl, lc, _, rfl, SqL.of B1.cps.lst, fun r2 hr2 => ?_⟩
    have s2 := Same.upd (o := HO.lst (cutV (as.map V.ref) (some ((i : Int) + 1)) none)) (Same.refl (upd H r1 (.lst (cutV (as.map V.ref) none (some (i : Int)))))) hr2
    have l1 := cutV_length (as.map V.ref) none (some (i : Int))
    have l2 := cutV_length (as.map V.ref) (some ((i : Int) + 1)) none
    refine ⟨r1, r2, _, _, rfl, rfl, s2 _ _ upd_same, upd_same, Nat.le_of_lt (small1000 (by omega)), fun r3 hr3 => ?_⟩
    have s12 := s1.trans s2
    have s3 := Same.upd (o := HO.lst (cutV (as.map V.ref) none (some (i : Int)) ++ cutV (as.map V.ref) (some ((i : Int) + 1)) none)) s12 (s12.free hr3)
    have B3 := B.same s3
    have hC3 := B3.cps.less (q := r3) i (by rw [upd_same, cut_to (by omega), cut_from (by omega)])
    refine ⟨_, rfl, p, CD, dx, _, _, rfl, B3.at_, TD.cl, TD.nR, dfs_r _ _ _ _ _, p, lo, lw, lc, dx, r3, as, _, d, _, d.spare, rfl, B3, hC3, M.wf_drop B.wf i, fun H4 s4 => ?_⟩
    exact ⟨by show 1 ≤ sizeLine; decide, fun r hr0 => k'.reads hD ((s3.trans s4).trans (Same.upd (Same.refl H4) hr0)) upd_same⟩
/-! ### put_room -/
abbrev sPr : Stmt := top 76
def mkPr (l : List Nat) : Km513.Call := .spare (l.getD 0 0)
theorem scPr : FnScope ["desk", "arguments", "s", "was"] ["desk", "arguments"] (defScope sPr) := ⟨rfl, rfl, rfl, by decide +kernel, rfl, by decide +kernel, by decide +kernel⟩
theorem ok_pr (D : Def K mg "put_room" sPr ["desk", "arguments"]) (TD : TxtD K mg CD) : Cal P w K mg base 1 "put_room" ["desk", "arguments"] (spH C CD 1 true mkPr) := by
  obtain ⟨t22, e22⟩ := TD.e22
  obtain ⟨t16, r16⟩ := TD.r16
  refine D.cal scPr (fun vs H Q E h => ?_) (fun fa cdv A outer s H vs Q E hr h => ?_)
  · obtain ⟨p, a, st, F, args, rfl, _⟩ := h
    rfl
  · obtain ⟨p, a, st, F, args, rfl, hD, ha, haF, hlen, hst, k⟩ := h
    obtain ⟨i, rfl⟩ := args1 hlen
    obtain ⟨d, lo, lw, lc, dx, as, rfl, rfl, B⟩ := hD.open (hst rfl)
    refine ⟨_, pss_cons (ps_set (i := 2) scPr.nd rfl (Or.inl rfl) (pe_ix ix_list (pv 1) pe_int (fun _ _ => rfl)))
      (pss_cons (ps_if (pt_cmpR op_gt (pv 2) (pe_glob (v := .int 16) (by rfl) r16 ⟨t16, rfl⟩) (nomark _)) (pss_one (ps_ret (pe_lst (pa_cons (pe_glob (v := .int (-22)) (by rfl) e22 ⟨t22, rfl⟩) pa_nil)))) pss_nil)
      (pss_cons (ps_set (i := 3) scPr.nd rfl (Or.inl rfl) (pe_fld (pv 0) rfl))
      (pss_cons (ps_fld (pv 0) (pv 2) rfl)
      (pss_one (ps_ret (pe_lst (pa_cons (pv 3) pa_nil))))))), ?_⟩
    have k' : Ends1 C CD H p [p, lo, lw, lc] (if 16 < i then (some d, Km513.say (-22)) else (some { d with spare := i }, Km513.say (d.spare : Nat))) Q := k
    refine ⟨_, rfl, a, _, _, _, rfl, rfl, SqL.of ha, atI_of (j := 0) rfl rfl, _, rfl, _, _, rfl, rfl, _, rfl, ?_⟩
    refine ite2 (fun h1 => ?_) (fun h1 => ?_)
    · have q1 : 16 < i := by
        have := of_decide_eq_true h1
        omega
      rw [if_pos q1] at k'
      exact ⟨by show 1 ≤ sizeLine; decide, fun r hr0 => k'.reads hD (Same.upd (Same.refl H) hr0) upd_same⟩
    have q1 : ¬ 16 < i := fun z => h1 (decide_eq_true (by omega))
    rw [if_neg q1] at k'
    obtain ⟨n1, n2, n3, n4, n5⟩ := B.apart
    refine ⟨_, rfl, p, CD, dx, _, _, rfl, B.at_, TD.cl, TD.nR, dfs_r _ _ _ _ _, ?_⟩
    refine ⟨_, rfl, _, rfl, p, CD, dx, _, rfl, B.at_, TD.cl, TD.nR, (by show 5 < 1000; decide), ?_⟩
    have b2 : But p H (upd H p (.ins CD dx (dfs true lo lw i lc))) := (But.of (Same.refl H)).upd
    have hC2 : CopiesAt C (upd H p (.ins CD dx (dfs true lo lw i lc))) lc as d.copies := by
      refine ⟨b2 _ _ B.cps.lst (Ne.symm n3), B.cps.len, fun j b c h1 h2 => ?_⟩
      obtain ⟨dz, e⟩ := B.cps.at_ j b c h1 h2
      refine ⟨dz, b2 _ _ e (ne_of e B.at_ ?_)⟩
      intro z
      have := (HO.ins.inj z).2.2
      cases this
    have B2 : Begun C CD (upd H p (.ins CD dx (dfs true lo lw i lc))) p lo lw lc dx as { d with spare := i } :=
      ⟨upd_same, b2 _ _ B.old (Ne.symm n1), b2 _ _ B.new (Ne.symm n2), hC2, B.ne, M.wf_spare B.wf (by omega)⟩
    refine ⟨_, rfl, by show 1 ≤ sizeLine; decide, fun q hq => ?_⟩
    have s3 := Same.upd (o := HO.lst [V.int (d.spare : Int)]) (Same.refl (upd H p (.ins CD dx (dfs true lo lw i lc)))) hq
    refine k' q _ [p, lo, lw, lc] ⟨lo, lw, lc, dx, as, rfl, B2.same s3⟩ ?_ (fun b hb => .inl hb) upd_same
    intro b o e hb
    exact s3 _ _ (b2 _ _ e fun z => hb (by rw [z]; simp))
/-! ### tell_longest, told, rows -/
abbrev sTl : Stmt := top 77
def mkTl (l : List Nat) : Km513.Call := .longest (l.getD 0 0)
theorem scTl : FnScope ["desk", "arguments", "t", "copy"] ["desk", "arguments"] (defScope sTl) := ⟨rfl, rfl, rfl, by decide +kernel, rfl, by decide +kernel, by decide +kernel⟩
theorem ok_tl (D : Def K mg "tell_longest" sTl ["desk", "arguments"]) (T : Txt K mg C) (TD : TxtD K mg CD) (G1 : Cal P w K mg base 3 "longest" ["old", "wanted", "t"] (spLong C)) : Cal P w K mg base 4 "tell_longest" ["desk", "arguments"] (spH C CD 1 true mkTl) := by
  obtain ⟨t2, e2⟩ := TD.e2
  refine D.cal scTl (fun vs H Q E h => ?_) (fun fa cdv A outer s H vs Q E hr h => ?_)
  · obtain ⟨p, a, st, F, args, rfl, _⟩ := h
    rfl
  · obtain ⟨p, a, st, F, args, rfl, hD, ha, haF, hlen, hst, k⟩ := h
    obtain ⟨i, rfl⟩ := args1 hlen
    obtain ⟨d, lo, lw, lc, dx, as, rfl, rfl, B⟩ := hD.open (hst rfl)
    refine ⟨_, pss_cons (ps_set (i := 2) scTl.nd rfl (Or.inl rfl) (pe_ix ix_list (pv 1) pe_int (fun _ _ => rfl)))
      (pss_cons (ps_if (pt_cmpR op_ge (pv 2) (pe_callB call_len_seq (by rfl) T.len PySem.boot_len (pa_cons (pe_fld (pv 0) rfl) pa_nil)) (nomark _)) (pss_one (ps_ret (pe_lst (pa_cons (pe_glob (v := .int (-2)) (by rfl) e2 ⟨t2, rfl⟩) pa_nil)))) pss_nil)
      (pss_cons (ps_set (i := 3) scTl.nd rfl (Or.inl rfl) (pe_callC G1 hr rfl (pa_cons (pe_fld (pv 0) rfl) (pa_cons (pe_fld (pv 0) rfl) (pa_cons (pv 2) pa_nil)))))
      (pss_one (ps_ret (pe_lst (pa_cons (pe_fld (pv 3) rfl) (pa_cons (pe_fld (pv 3) rfl) pa_nil))))))), ?_⟩
    have k' : Ends1 C CD H p [p, lo, lw, lc] (some d, if d.new.length ≤ i then Km513.say (-2) else ⟨((Km513.longest d i).n : Int), [((Km513.longest d i).f : Int)]⟩) Q := k
    have eL : (nV d.new).length = d.new.length := nV_len _
    refine ⟨_, rfl, a, _, _, _, rfl, rfl, SqL.of ha, atI_of (j := 0) rfl rfl, _, rfl, _, rfl, p, CD, dx, _, _, rfl, B.at_, TD.cl, TD.nW, dfs_w _ _ _ _ _, lw, _, rfl, .inl (SqL.of B.new), _, _, rfl, rfl, _, rfl, ?_⟩
    refine ite2 (fun h1 => ?_) (fun h1 => ?_)
    · have q1 : d.new.length ≤ i := by
        have := of_decide_eq_true h1
        rw [eL] at this
        omega
      rw [if_pos q1] at k'
      exact ⟨by show 1 ≤ sizeLine; decide, fun r hr0 => k'.reads hD (Same.upd (Same.refl H) hr0) upd_same⟩
    have q1 : ¬ d.new.length ≤ i := fun z => h1 (decide_eq_true (by rw [eL]; omega))
    rw [if_neg q1] at k'
    refine ⟨_, rfl, p, CD, dx, _, _, rfl, B.at_, TD.cl, TD.nO, dfs_o _ _ _ _ _, _, rfl, p, CD, dx, _, _, rfl, B.at_, TD.cl, TD.nW, dfs_w _ _ _ _ _, _, rfl, lo, lw, d, i, rfl, B.wf, B.old, B.new, fun x H1 hx0 s1 hx => ?_⟩
    obtain ⟨dz, hc⟩ := hx
    refine ⟨_, rfl, x, C, dz, _, _, rfl, hc, T.cl, T.nL, cfs_l _, _, rfl, x, C, dz, _, _, rfl, hc, T.cl, T.nS, cfs_s _, by show 2 ≤ sizeLine; decide, fun r hr0 => ?_⟩
    exact k'.reads hD (s1.trans (Same.upd (Same.refl H1) hr0)) upd_same
abbrev sTold : Stmt := top 78
def mkTold (l : List Nat) : Km513.Call := .told (l.getD 0 0)
theorem scTold : FnScope ["desk", "arguments", "i"] ["desk", "arguments"] (defScope sTold) := ⟨rfl, rfl, rfl, by decide +kernel, rfl, by decide +kernel, by decide +kernel⟩
theorem ok_told (D : Def K mg "told" sTold ["desk", "arguments"]) (T : Txt K mg C) (TD : TxtD K mg CD) (G1 : Cal P w K mg base 1 "as_told" ["copy"] (spTold0 C)) : Cal P w K mg base 2 "told" ["desk", "arguments"] (spH C CD 1 true mkTold) := by
  obtain ⟨t2, e2⟩ := TD.e2
  refine D.cal scTold (fun vs H Q E h => ?_) (fun fa cdv A outer s H vs Q E hr h => ?_)
  · obtain ⟨p, a, st, F, args, rfl, _⟩ := h
    rfl
  · obtain ⟨p, a, st, F, args, rfl, hD, ha, haF, hlen, hst, k⟩ := h
    obtain ⟨i, rfl⟩ := args1 hlen
    obtain ⟨d, lo, lw, lc, dx, as, rfl, rfl, B⟩ := hD.open (hst rfl)
    refine ⟨_, pss_cons (ps_set (i := 2) scTold.nd rfl (Or.inl rfl) (pe_ix ix_list (pv 1) pe_int (fun _ _ => rfl)))
      (pss_cons (ps_if (pt_cmpR op_ge (pv 2) (pe_callB call_len_seq (by rfl) T.len PySem.boot_len (pa_cons (pe_fld (pv 0) rfl) pa_nil)) (nomark _)) (pss_one (ps_ret (pe_lst (pa_cons (pe_glob (v := .int (-2)) (by rfl) e2 ⟨t2, rfl⟩) pa_nil)))) pss_nil)
      (pss_one (ps_ret (pe_callC G1 hr rfl (pa_cons (pe_ix ix_list (pe_fld (pv 0) rfl) (pv 2) (fun _ _ => rfl)) pa_nil))))), ?_⟩
    have k' : Ends1 C CD H p [p, lo, lw, lc] (some d, if d.copies.length ≤ i then Km513.say (-2) else ⟨((Km513.copy d i).f : Int), [((Km513.copy d i).t : Int), ((Km513.copy d i).n : Int)]⟩) Q := k
    have eL : (as.map V.ref).length = d.copies.length := by rw [List.length_map, B.cps.len]
    refine ⟨_, rfl, a, _, _, _, rfl, rfl, SqL.of ha, atI_of (j := 0) rfl rfl, _, rfl, _, rfl, p, CD, dx, _, _, rfl, B.at_, TD.cl, TD.nC, dfs_c _ _ _ _ _, lc, _, rfl, .inl (SqL.of B.cps.lst), _, _, rfl, rfl, _, rfl, ?_⟩
    refine ite2 (fun h1 => ?_) (fun h1 => ?_)
    · have q1 : d.copies.length ≤ i := by
        have := of_decide_eq_true h1
        rw [eL] at this
        omega
      rw [if_pos q1] at k'
      exact ⟨by show 1 ≤ sizeLine; decide, fun r hr0 => k'.reads hD (Same.upd (Same.refl H) hr0) upd_same⟩
    have q1 : ¬ d.copies.length ≤ i := fun z => h1 (decide_eq_true (by rw [eL]; omega))
    rw [if_neg q1] at k'
    obtain ⟨b, hb, hv, hc⟩ := B.cps.get (d := d) (i := i) (by omega)
    refine ⟨_, rfl, p, CD, dx, _, _, rfl, B.at_, TD.cl, TD.nC, dfs_c _ _ _ _ _, _, rfl, lc, _, _, _, rfl, rfl, SqL.of B.cps.lst, atI_of rfl hv, b, _, rfl, hc, fun r H1 hr0 s1 hr1 => ?_⟩
    exact k'.reads hD s1 hr1
abbrev sRows : Stmt := top 79
def mkRows (_ : List Nat) : Km513.Call := .rows
theorem scRows : FnScope ["desk", "arguments"] ["desk", "arguments"] (defScope sRows) := ⟨rfl, rfl, rfl, by decide +kernel, rfl, by decide +kernel, by decide +kernel⟩
theorem ok_rows (D : Def K mg "rows" sRows ["desk", "arguments"]) (TD : TxtD K mg CD) (G1 : Cal P w K mg base 1 "counted" ["numbers"] spCounted) : Cal P w K mg base 2 "rows" ["desk", "arguments"] (spH C CD 0 true mkRows) := by
  refine D.cal scRows (fun vs H Q E h => ?_) (fun fa cdv A outer s H vs Q E hr h => ?_)
  · obtain ⟨p, a, st, F, args, rfl, _⟩ := h
    rfl
  · obtain ⟨p, a, st, F, args, rfl, hD, ha, haF, hlen, hst, k⟩ := h
    obtain ⟨d, lo, lw, lc, dx, as, rfl, rfl, B⟩ := hD.open (hst rfl)
    refine ⟨_, pss_one (ps_ret (pe_op op_cat (pe_callC G1 hr rfl (pa_cons (pe_fld (pv 0) rfl) pa_nil)) (pe_callC G1 hr rfl (pa_cons (pe_fld (pv 0) rfl) pa_nil)))), ?_⟩
    have k' : Ends1 C CD H p [p, lo, lw, lc] (some d, ⟨(d.old.length : Int), Km513.n2i d.old ++ ((d.new.length : Int) :: Km513.n2i d.new)⟩) Q := k
    have ol := B.wf.ol
    have nl := B.wf.nl
    refine ⟨_, rfl, p, CD, dx, _, _, rfl, B.at_, TD.cl, TD.nO, dfs_o _ _ _ _ _, lo, Km513.n2i d.old, rfl, by rw [B.old, nV_iV]; rfl, by unfold Km513.n2i; rw [List.length_map]; exact small1000 (by omega), fun r1 H1 hr1 s1 e1 => ?_⟩
    have B1 := B.same s1
    refine ⟨_, rfl, p, CD, dx, _, _, rfl, B1.at_, TD.cl, TD.nW, dfs_w _ _ _ _ _, lw, Km513.n2i d.new, rfl, by rw [B1.new, nV_iV]; rfl, by unfold Km513.n2i; rw [List.length_map]; exact small1000 (by omega), fun r2 H2 hr2 s2 e2 => ?_⟩
    have l1 : (Km513.n2i d.old).length = d.old.length := List.length_map ..
    have l2 : (Km513.n2i d.new).length = d.new.length := List.length_map ..
    refine ⟨r1, r2, _, _, rfl, rfl, s2 _ _ e1, e2, ?_, fun r3 hr3 => ?_⟩
    · rw [iV_len, iV_len, List.length_cons, List.length_cons]
      exact Nat.le_of_lt (small1000 (by omega))
    · refine k'.reads hD ((s1.trans s2).trans (Same.upd (Same.refl H2) hr3)) ?_
      rw [upd_same, ← iV_app, l1, l2]
      rfl
end
end T
set_option Elab.async false
set_option linter.all false
set_option maxRecDepth 100000
namespace T
open PySem PySem.Spec PyProof.Rows L2 R
open Km513 (Copy Desk Choice State Ans)
/-- the tables of the text's top: the defs of the calls, and how many numbers each call has -/
structure Hands (P : Program) (w : World) (K : PySem.W.Frag) (mg : Str → Option Value) (base : Heap) (C CD aH : Addr) (fs : List Addr) : Prop where
  mgH : mg "HANDLERS" = some (.ref aH)
  tup : ∀ H : Hp, SqT K H aH (fs.map V.ref)
  len : fs.length = 23
  ok : ∀ k f, fs[k]? = some f → ∃ (fd : FuncData) (ps : List Str), FnOk P w K mg base CX0 10 f fd ps (spH C CD (M.ar k) (k != 0) (M.mkK k)) ∧ Binds K fd ps [] ∧ PySem.W.keepIn K (.ref f) = true
section
variable {P : Program} {w : World} {K : PySem.W.Frag} {mg : Str → Option Value} {base : Heap} {C CD aH aA : Addr} {fs : List Addr}
/-! ### answer_to -/
abbrev sAt : Stmt := top 81
def spAt (C CD : Addr) : Sp := fun vs H Q _ => ∃ (p a : Addr) (st : State) (F : List Addr) (c : M.CallN), vs = [.ref p, .int c.1, .ref a] ∧ DeskAt C CD H p st F ∧ H a = some (.lst (nV c.2)) ∧ a ∉ F ∧ M.Good c ∧ Ends1 C CD H p F (M.stp st c) Q
theorem scAt : FnScope ["desk", "number", "arguments", "handler"] ["desk", "number", "arguments"] (defScope sAt) := ⟨rfl, rfl, rfl, by decide +kernel, rfl, by decide +kernel, by decide +kernel⟩
theorem step_none {k : Nat} (h : k ≠ 0) (l : List Nat) : Km513.step none (M.mkK k l) = (none, Km513.say (-11)) := by
  unfold M.mkK
  split
  · exact absurd rfl h
  all_goals rfl
theorem ok_at (D : Def K mg "answer_to" sAt ["desk", "number", "arguments"]) (T : Txt K mg C) (TD : TxtD K mg CD) (G : Hands P w K mg base C CD aH fs) : Cal P w K mg base 11 "answer_to" ["desk", "number", "arguments"] (spAt C CD) := by
  obtain ⟨t11, e11⟩ := TD.e11
  obtain ⟨t0, c0⟩ := TD.c0
  refine D.cal scAt (fun vs H Q E h => ?_) (fun fa cdv A outer s H vs Q E hr h => ?_)
  · obtain ⟨p, a, st, F, c, rfl, _⟩ := h
    rfl
  · obtain ⟨p, a, st, F, ⟨n, args⟩, rfl, hD, ha, haF, ⟨hn, hlen⟩, k⟩ := h
    dsimp only at hn hlen ha
    obtain ⟨hpF, b0, dx, lo, lw, lc, z0, hp⟩ := hD.head
    refine ⟨_, pss_cons (ps_if (PW.pt (pw_and (pt_cmpR op_ne (pv 1) (pe_glob (v := .int 0) (by rfl) c0 ⟨t0, rfl⟩) (nomark _)) (pw_and1 (pt_not (pt_val (pe_fld (pv 0) rfl)))))) (pss_one (ps_ret (pe_lst (pa_cons (pe_glob (v := .int (-11)) (by rfl) e11 ⟨t11, rfl⟩) pa_nil)))) pss_nil)
      (pss_cons (ps_set (i := 3) scAt.nd rfl (Or.inl rfl) (pe_ix ix_tup (pe_glob (v := .ref aH) (by rfl) G.mgH rfl) (pv 1) (fun _ _ => rfl)))
      (pss_one (ps_ret (pe_callI (d := 10) (i := 3) (adr := fun k f => fs[k]? = some f) (spk := fun k => spH C CD (M.ar k) (k != 0) (M.mkK k)) rfl (Or.inl rfl) hr G.ok (pa_cons (pv 0) (pa_cons (pv 2) pa_nil)))))), ?_⟩
    have go : ¬ (n ≠ 0 ∧ st = none) → tSeq (tAsg (tOp (rIxT K) (tC (.ref aH)) (tVar 1)) (gName 3)) (tRet (tCallI (fun k f => fs[k]? = some f) (fun k => spH C CD (M.ar k) (k != 0) (M.mkK k)) 3 (tCons (tVar 0) (tCons (tVar 2) tNil)))) { nx := fun _ H' => Q .non H', rt := Q } [some (V.ref p), some (V.int (n : Int)), some (V.ref a), none] H := by
      intro hns
      have hl := G.len
      have hnf : n < fs.length := by omega
      have hf : fs[n]? = some fs[n] := List.getElem?_eq_getElem hnf
      have hfv : (fs.map V.ref)[n]? = some (V.ref fs[n]) := by rw [List.getElem?_map, hf]; rfl
      refine ⟨_, rfl, aH, _, _, _, rfl, rfl, G.tup H, atI_of rfl hfv, ?_⟩
      refine ⟨n, fs[n], rfl, hf, _, rfl, _, rfl, p, a, st, F, args, rfl, hD, ha, haF, hlen, fun h2 => ?_, k⟩
      intro h3
      exact hns ⟨bne_iff_ne.mp h2, h3⟩
    refine ⟨_, rfl, rfl, _, rfl, ?_⟩
    refine ite2 (fun h1 => ?_) (fun h1 => ?_)
    · have q1 : n ≠ 0 := int_ne.mp h1
      cases st with
      | none =>
        obtain ⟨eF, dx, lo, lw, lc, z, hp⟩ := hD
        refine ⟨_, rfl, p, CD, dx, _, _, rfl, hp, TD.cl, TD.nB, dfs_b _ _ _ _ _, false, rfl, iteT ?_⟩
        have k' : Ends1 C CD H p F (none, Km513.say (-11)) Q := by
          have e := step_none q1 args
          unfold M.stp at k
          rw [e] at k
          exact k
        exact ⟨by show 1 ≤ sizeLine; decide, fun r hr0 => k'.reads ⟨eF, dx, lo, lw, lc, z, hp⟩ (Same.upd (Same.refl H) hr0) upd_same⟩
      | some d =>
        obtain ⟨lo, lw, lc, dx, as, eF, B⟩ := id hD
        refine ⟨_, rfl, p, CD, dx, _, _, rfl, B.at_, TD.cl, TD.nB, dfs_b _ _ _ _ _, true, rfl, iteF ?_⟩
        exact go fun z => (by cases z.2)
    · refine iteF ?_
      exact go fun z => h1 (int_ne.mpr z.1)
/-! ### answers -/
theorem DeskAt.tracked {H : Hp} {p : Addr} {st : State} {F : List Addr} (D : DeskAt C CD H p st F) : ∀ b ∈ F, H b ≠ none := by
  intro b hb e
  cases st with
  | none =>
    obtain ⟨rfl, dx, lo, lw, lc, z, h⟩ := D
    rw [List.mem_singleton.mp hb, h] at e
    cases e
  | some d =>
    obtain ⟨lo, lw, lc, dx, as, rfl, B⟩ := D
    simp only [List.mem_cons, List.not_mem_nil, or_false] at hb
    rcases hb with rfl | rfl | rfl | rfl
    · rw [B.at_] at e; cases e
    · rw [B.old] at e; cases e
    · rw [B.new] at e; cases e
    · rw [B.cps.lst] at e; cases e
theorem DeskAt.but {H H' : Hp} {p q : Addr} {st : State} {F : List Addr} (D : DeskAt C CD H p st F) (b : But q H H') (hq : ∃ xs, H q = some (.lst xs)) (hF : q ∉ F) : DeskAt C CD H' p st F := by
  cases st with
  | none =>
    obtain ⟨rfl, dx, lo, lw, lc, z, h⟩ := D
    exact ⟨rfl, dx, lo, lw, lc, z, b _ _ h fun z => hF (by rw [z]; simp)⟩
  | some d =>
    obtain ⟨lo, lw, lc, dx, as, rfl, B⟩ := D
    simp only [List.mem_cons, List.not_mem_nil, or_false, not_or] at hF
    obtain ⟨f1, f2, f3, f4⟩ := hF
    exact ⟨lo, lw, lc, dx, as, rfl, b _ _ B.at_ (Ne.symm f1), b _ _ B.old (Ne.symm f2), b _ _ B.new (Ne.symm f3), B.cps.but b (Ne.symm f4) hq, B.ne, B.wf⟩
abbrev sAns : Stmt := top 82
def spAns (K : PySem.W.Frag) : Sp := fun vs H Q _ => ∃ (a : Addr) (l : List Int), vs = [.ref a] ∧ SqL K H a (iV l) ∧ l.length ≤ 240 ∧ (∀ x ∈ l, 0 ≤ x) ∧ PyKm513.answers_asked l = true ∧
  ∀ (H' : Hp) (g : Addr), H' g = some (.lst (iV (PyKm513.answers l))) → Q (.ref g) H'
theorem scAns : FnScope ["calls", "desk", "given", "at", "number", "behind"] ["calls"] (defScope sAns) := ⟨rfl, rfl, rfl, by decide +kernel, rfl, by decide +kernel, by decide +kernel⟩
def leftIn (n i : Nat) (σ : L2.St) (_ : Hp) : Nat := match σ[i]? with
  | some (some (.int z)) => n - z.toNat
  | _ => 0
theorem cut_mid (x y z : List Nat) : cutV (nV (x ++ (y ++ z))) (some (x.length : Int)) (some ((x.length + y.length : Nat) : Int)) = nV y := by
  unfold cutV
  rw [HT.sIx_nat, HT.sIx_nat, nV_len, List.length_append, List.length_append, Nat.min_eq_left (by omega), Nat.min_eq_left (by omega), Nat.add_sub_cancel_left]
  unfold nV
  rw [← List.map_drop, ← List.map_take, List.drop_left, List.take_left]
theorem ar_at {k : Nat} (h : k < 23) : ([3, 2, 2, 3, 1, 0, 0, 1, 1, 0, 0, 0, 0, 0, 0, 0, 1, 0, 1, 1, 1, 1, 0] : List Nat)[k]? = some (M.ar k) := by
  unfold M.ar
  rw [List.getD_eq_getElem?_getD, List.getElem?_eq_getElem (show k < ([3, 2, 2, 3, 1, 0, 0, 1, 1, 0, 0, 0, 0, 0, 0, 0, 1, 0, 1, 1, 1, 1, 0] : List Nat).length from h)]
  rfl
theorem ok_ans {f : Addr} {fd : FuncData} (F : Fun K "answers" "answers" sAns f fd) (T : Txt K mg C) (TD : TxtD K mg CD) (G1 : MkC P w K mg base 1 CD "Desk" ["self"] (spInitD CD)) (G2 : Cal P w K mg base 11 "answer_to" ["desk", "number", "arguments"] (spAt C CD)) (G3 : Cal P w K mg base 1 "counted" ["numbers"] spCounted)
    (mgA : mg "ARGUMENTS" = some (.ref aA)) (tA : ∀ H : Hp, SqT K H aA (nV [3, 2, 2, 3, 1, 0, 0, 1, 1, 0, 0, 0, 0, 0, 0, 0, 1, 0, 1, 1, 1, 1, 0])) : FnOk P w K mg base CX0 12 f fd ["calls"] (spAns K) := by
  obtain ⟨fI, fdI, Mm, FI, mI, bI⟩ := G1.ex
  refine F.ok scAns (fun vs H Q E h => ?_) (fun cdv A outer s H vs Q E hr h => ?_)
  · obtain ⟨a, l, rfl, _⟩ := h
    rfl
  · obtain ⟨a, l, rfl, hl, h240, hpos, hask, k⟩ := h
    obtain ⟨cs, rfl, hg, ea, hshort⟩ := M.asked_parse hask hpos
    rw [ea] at k
    have hl' : SqL K H a (nV (cs.flatMap M.flat1)) := by rw [nV_iV]; exact hl
    refine ⟨_, pss_cons (ps_set (i := 1) scAns.nd rfl (Or.inl rfl) (pe_make0 Mm FI (hr.mono (by decide)) rfl mI bI .nil pass0))
      (pss_cons (ps_set (i := 2) scAns.nd rfl (Or.inl rfl) (pe_lst pa_nil))
      (pss_cons (ps_set (i := 3) scAns.nd rfl (Or.inl rfl) pe_int)
      (pss_cons (ps_while PassesOwn.never (pt_cmpR op_lt (pv 3) (pe_callB call_len_seq (by rfl) T.len PySem.boot_len (pa_cons (pv 0) pa_nil)) (nomark _))
        (pss_cons (ps_set (i := 4) scAns.nd rfl (Or.inl rfl) (pe_ix ix_list (pv 0) (pv 3) (fun _ _ => rfl)))
        (pss_cons (ps_set (i := 5) scAns.nd rfl (Or.inl rfl) (pe_op op_add (pe_op op_add (pv 3) pe_int) (pe_ix ix_tup (pe_glob (v := .ref aA) (by rfl) mgA rfl) (pv 4) (fun _ _ => rfl))))
        (pss_cons (ps_expr (pe_bm PySem.F.plainAttrs_list PySem.F.slot_list_extend PySem.F.type_list_extend mt_extend (pv 2) (pa_cons (pe_callC G3 (hr.mono (by decide)) rfl (pa_cons (pe_callC G2 hr rfl (pa_cons (pv 1) (pa_cons (pv 4) (pa_cons (pe_slice sl_list (pv 0) (po_some (pe_op op_add (pv 3) pe_int)) (po_some (pv 5))) pa_nil)))) pa_nil)) pa_nil)))
        (pss_one (ps_set (i := 3) scAns.nd rfl (Or.inl rfl) (pv 5)))))))
      (pss_one (ps_ret (pv 2)))))), ?_⟩
    intro p dx hp0 hdx hne
    refine ⟨p, dx, rfl, upd_same, fun H1 lo lw lc hp1 kp => ⟨rfl, ?_⟩⟩
    have s1 := Same.made hp0 hdx kp
    refine ⟨Nat.zero_le _, fun g hg0 => ?_⟩
    have hgH := s1.free hg0
    have hgp : g ≠ p := fun z => by rw [z, hp1] at hg0; cases hg0
    have s2 : Same H1 (upd H1 g (.lst [])) := Same.upd (Same.refl H1) hg0
    refine while_by (fun σ H' => ∃ (i : Nat) (F : List Addr) (v4 v5 : Option V), σ = [some (.ref a), some (.ref p), some (.ref g), some (.int (((cs.take i).flatMap M.flat1).length : Nat)), v4, v5] ∧ i ≤ cs.length ∧ Same H H' ∧ DeskAt C CD H' p (M.runS none (cs.take i)) F ∧ H' g = some (.lst (iV (M.outs none (cs.take i)))) ∧ g ∉ F ∧ ∀ b ∈ F, H b = none)
      (leftIn (cs.flatMap M.flat1).length 3) ⟨0, [p], none, none, rfl, Nat.zero_le _, s1.trans s2, ⟨rfl, dx, lo, lw, lc, 0, s2 _ _ hp1⟩, upd_same, by simpa using hgp, fun b hb => by rw [List.mem_singleton.mp hb]; exact hp0⟩ ?_ ?_
    · rintro σ H2 ⟨i, F, v4, v5, rfl, hi, s3, hD, hg2, hgF, hF⟩
      have hl2 := s3.seq hl'
      refine ⟨_, rfl, _, rfl, a, _, rfl, .inl hl2, _, _, rfl, rfl, _, rfl, ?_⟩
      by_cases hic : i < cs.length
      · -- a call is left
        have hci : cs[i]? = some cs[i] := List.getElem?_eq_getElem hic
        have hgood := hg cs[i] (List.getElem_mem hic)
        have hflat : cs.flatMap M.flat1 = (cs.take i).flatMap M.flat1 ++ (M.flat1 cs[i] ++ (cs.drop (i + 1)).flatMap M.flat1) := by
          have : cs = cs.take i ++ cs[i] :: cs.drop (i + 1) := by rw [← List.drop_eq_getElem_cons hic, List.take_append_drop]
          have e2 := congrArg (fun z => z.flatMap M.flat1) this
          rw [List.flatMap_append, List.flatMap_cons] at e2
          exact e2
        have htk := take_snoc hci
        generalize hc : cs[i] = c at hci hgood hflat htk
        obtain ⟨n, args⟩ := c
        obtain ⟨hn, hlen⟩ := id hgood
        dsimp only at hn hlen
        generalize hpre : (cs.take i).flatMap M.flat1 = pre at hflat ⊢
        generalize (cs.drop (i + 1)).flatMap M.flat1 = post at hflat
        have hfl : M.flat1 (n, args) = n :: args := rfl
        rw [hfl] at hflat
        have hL : (cs.flatMap M.flat1).length = pre.length + (1 + args.length + post.length) := by
          rw [hflat, List.length_append, List.length_append, List.length_cons]
          omega
        refine ite2 (fun _ => ?_) (fun h1 => ?_)
        · have hnum : (nV (cs.flatMap M.flat1))[pre.length]? = some (V.int (n : Int)) := by
            refine nV_at ?_
            rw [hflat, List.getElem?_append_right (Nat.le_refl _), Nat.sub_self]
            rfl
          refine ⟨_, rfl, _, rfl, a, _, _, _, rfl, rfl, hl2, atI_of (j := pre.length) rfl hnum, ?_⟩
          refine ⟨_, rfl, _, _, rfl, rfl, _, rfl, aA, _, _, _, rfl, rfl, tA H2, atI_of (j := n) rfl (nV_at (ar_at hn)), _, _, rfl, rfl, ?_⟩
          refine ⟨_, rfl, .inl ⟨rfl, _, SqL.of hg2⟩, _, rfl, _, rfl, _, rfl, _, rfl, _, _, rfl, rfl, _, rfl, _, rfl, _, rfl, a, _, rfl, hl2, fun q hq => ?_⟩
          have ecut : cutV (nV (cs.flatMap M.flat1)) (some ((pre.length : Int) + 1)) (some ((pre.length : Int) + 1 + (M.ar n : Int))) = nV args := by
            have e := cut_mid (pre ++ [n]) args post
            rw [List.length_append, List.length_singleton, ← hlen] at *
            have e1 : (((pre.length + 1 : Nat)) : Int) = (pre.length : Int) + 1 := by omega
            have e2 : (((pre.length + 1 + args.length : Nat)) : Int) = (pre.length : Int) + 1 + (args.length : Int) := by omega
            rw [e1, e2] at e
            rw [hflat]
            have e3 : pre ++ (n :: args ++ post) = pre ++ [n] ++ (args ++ post) := by simp
            rw [e3]
            exact e
          rw [ecut]
          have s4 : Same H2 (upd H2 q (.lst (nV args))) := Same.upd (Same.refl H2) hq
          have hqF : q ∉ F := fun z => hD.tracked q z hq
          refine ⟨p, q, _, F, (n, args), rfl, hD.same s4, upd_same, hqF, hgood, fun r H3 F' hD3 kp3 hF3 hr3 => ?_⟩
          have hg3 : H3 g = some (.lst (iV (M.outs none (cs.take i)))) := kp3 _ _ (s4 _ _ hg2) hgF
          have hgF3 : g ∉ F' := fun z => by
            rcases hF3 g z with z | z
            · exact hgF z
            · rw [s4 _ _ hg2] at z; cases z
          have s5 : Same H H3 := fun b o e => kp3 _ _ (s4 _ _ (s3 _ _ e)) fun z => by rw [hF b z] at e; cases e
          have hF5 : ∀ b ∈ F', H b = none := fun b hb => by
            rcases hF3 b hb with z | z
            · exact hF b z
            · exact s3.free (s4.free z)
          have esn : M.outs none (cs.take (i + 1)) = M.outs none (cs.take i) ++ M.ans1 (M.stp (M.runS none (cs.take i)) (n, args)) := by
            rw [htk, M.outs_snoc]
          have ern : M.runS none (cs.take (i + 1)) = (M.stp (M.runS none (cs.take i)) (n, args)).1 := by
            rw [htk, M.runS_snoc]
          have hsz : (M.outs none (cs.take (i + 1))).length ≤ 10000000 := by
            have := M.outs_pre (cs.take (i + 1)) (cs.drop (i + 1)) none
            rw [List.take_append_drop] at this
            omega
          generalize hy : M.stp (M.runS none (cs.take i)) (n, args) = y at hD3 hr3 esn ern
          have hsz2 : (M.outs none (cs.take i)).length + (M.ans1 y).length ≤ 10000000 := by
            rw [esn, List.length_append] at hsz
            exact hsz
          have hlz : (y.2.num :: y.2.nums).length + 1 = (M.ans1 y).length := rfl
          have sl : sizeLine = 16777216 := by decide
          refine ⟨r, y.2.num :: y.2.nums, rfl, hr3, by omega, fun r4 H4 hr4 s6 e4 => ?_⟩
          refine ⟨g, r4, _, _, rfl, rfl, s6 _ _ hg3, e4, ?_, ?_⟩
          · rw [iV_len, iV_len]
            show (M.outs none (cs.take i)).length + (M.ans1 y).length ≤ sizeLine
            omega
          have b5 : But g H4 (upd H4 g (.lst (iV (M.outs none (cs.take i)) ++ iV ((((y.2.num :: y.2.nums).length : Nat) : Int) :: y.2.num :: y.2.nums)))) := (But.of (Same.refl H4)).upd
          have hnext : pre.length + 1 + M.ar n = ((cs.take (i + 1)).flatMap M.flat1).length := by
            rw [htk, List.flatMap_append, List.flatMap_cons, List.flatMap_nil, List.append_nil, hpre, hfl, List.length_append, List.length_cons, hlen]
            omega
          refine ⟨_, rfl, ⟨i + 1, F', some (V.int (n : Int)), some (V.int ((pre.length : Int) + 1 + (M.ar n : Int))), ?_, hic, ?_, ?_, ?_, hgF3, hF5⟩, ?_⟩
          · show [some (V.ref a), some (V.ref p), some (V.ref g), some (V.int ((pre.length : Int) + 1 + (M.ar n : Int))), some (V.int (n : Int)), some (V.int ((pre.length : Int) + 1 + (M.ar n : Int)))] = _
            rw [← hnext, show (((pre.length + 1 + M.ar n : Nat)) : Int) = (pre.length : Int) + 1 + (M.ar n : Int) by omega]
          · exact Same.upd (s5.trans s6) hgH
          · rw [ern]
            exact (hD3.same s6).but b5 ⟨_, s6 _ _ hg3⟩ hgF3
          · rw [upd_same, ← iV_app, esn]
            rfl
          · show (cs.flatMap M.flat1).length - ((pre.length : Int) + 1 + (M.ar n : Int)).toNat < (cs.flatMap M.flat1).length - (pre.length : Int).toNat
            omega
        · exact absurd (decide_eq_true (by rw [nV_len, hL]; omega)) h1
      · have hi2 : i = cs.length := by omega
        subst hi2
        rw [List.take_length] at *
        refine ite2 (fun h1 => ?_) (fun _ => ?_)
        · have := of_decide_eq_true h1
          rw [nV_len] at this
          omega
        · exact ⟨_, rfl, k H2 g hg2⟩
    · exact monT_test (monE_op monR_rI0 (monE_var _) monE_len)
end
end T
set_option Elab.async false
set_option linter.all false
set_option maxRecDepth 100000
namespace T
open PySem PySem.Spec PyProof.Rows L2 R
/-! ### what the top has written -/
section
variable {K : PySem.W.Frag} {h : Heap} {mg : Str → Option Value}
theorem def_mk {x : Str} {st : Stmt} {ps : List Str} {f : Addr} {oc : Value} {od an : Option Addr} {osl : Array (Option Value)} {kV doc pm cdv ct : Value} (X : K.In h) (G : h.Ns mainGlobals mg) (a : PySem.W.nsIn K mainGlobals x = some (some (.ref f)))
    (l : K.lookup f = some ⟨oc, od, .func (PySem.W.fnOf x x (defArgs st) (defBody st) (defScope st) .none kV doc pm an cdv ct), osl⟩) (c : PySem.W.codeIn K cdv x = true) (k : PySem.W.keepIn K (.ref f) = true)
    (b : ∀ (kV doc pm : Value) (an : Option Addr) (cdv ct : Value) (us : List Value), us.length = ps.length → bindArgs (PySem.W.fnOf x x (defArgs st) (defBody st) (defScope st) .none kV doc pm an cdv ct) ⟨us, []⟩ = pure (ps.zip us)) : Def K mg x st ps := by
  have F := fun_mk (st := st) l c k
  exact ⟨f, _, F, PySem.W.mg_of X G a, F.binds b⟩
/-- a class with an __init__ -/
structure ClsI (K : PySem.W.Frag) (mg : Str → Option Value) (C : Addr) (x q : Str) (st : Stmt) (ps : List Str) : Prop where
  ex : ∃ (f : Addr) (fd : FuncData), Mk K C f ∧ Fun K "__init__" q st f fd ∧ mg x = some (.ref C) ∧ Binds K fd ps []
  cl : Cls K C
theorem cls_mk {x q : Str} {st : Stmt} {ps : List Str} {C f : Addr} {oc : Value} {od an : Option Addr} {osl : Array (Option Value)} {kV doc pm cdv ct : Value} (X : K.In h) (G : h.Ns mainGlobals mg) (aC : PySem.W.nsIn K mainGlobals x = some (some (.ref C)))
    (a : PySem.W.findIn K (.ref C) "__init__" = some (some (.ref f))) (i : PySem.W.isFn K (.ref f) = true)
    (l : K.lookup f = some ⟨oc, od, .func (PySem.W.fnOf "__init__" q (defArgs st) (defBody st) (defScope st) .none kV doc pm an cdv ct), osl⟩) (c : PySem.W.codeIn K cdv q = true) (k : PySem.W.keepIn K (.ref f) = true)
    (pg : PySem.W.plainGet K C Str.empty = true) (hd : PySem.W.hasDictIn K C = true) (po : PySem.W.plainOver K C = true) (sa : PySem.W.findIn K (.ref C) "__setattr__" = some (some (.builtin "object.__setattr__"))) (mk : PySem.W.makesIn K C = true) (kc : PySem.W.keepIn K (.ref C) = true)
    (b : ∀ (kV doc pm : Value) (an : Option Addr) (cdv ct : Value) (us : List Value), us.length = ps.length → bindArgs (PySem.W.fnOf "__init__" q (defArgs st) (defBody st) (defScope st) .none kV doc pm an cdv ct) ⟨us, []⟩ = pure (ps.zip us)) : ClsI K mg C x q st ps := by
  have F := fun_mk (st := st) l c k
  exact ⟨⟨f, _, ⟨mk, a, i, kc⟩, F, PySem.W.mg_of X G aC, F.binds b⟩, ⟨pg, hd, po, sa⟩⟩
theorem int_mk {x : Str} {z : Int} {t : Tok} (X : K.In h) (G : h.Ns mainGlobals mg) (a : PySem.W.nsIn K mainGlobals x = some (some (.int z t))) : ∃ t, mg x = some (.int z t) := ⟨t, PySem.W.mg_of X G a⟩
theorem no_mk {x : Str} (X : K.In h) (G : h.Ns mainGlobals mg) (a : PySem.W.nsIn K mainGlobals x = some none) : mg x = none := PySem.W.mg_none_of X G a
/-- a tuple of the top -/
theorem tup_mk {a : Addr} {xs : List V} {o : Obj} {its : Array Value} {n : Nat} (l : K.lookup a = some o) (hc : o.cls = .type "tuple") (hd : o.data = .seq its n) (hz : its.size ≤ sizeLine) (hv : Vals xs its.toList) (H : Hp) : SqT K H a xs := .inr ⟨o, its, n, l, hc, hd, hz, hv⟩
theorem cls3 {C : Addr} {x q : Str} {st : Stmt} {ps : List Str} {a b c : Str} (I : ClsI K mg C x q st ps) (h1 : PySem.W.findIn K (.ref C) a = some none) (h2 : PySem.W.findIn K (.ref C) b = some none) (h3 : PySem.W.findIn K (.ref C) c = some none) :
    ∃ C, ClsI K mg C x q st ps ∧ NoAttr K C a ∧ NoAttr K C b ∧ NoAttr K C c := ⟨C, I, h1, h2, h3⟩
theorem cls5 {C : Addr} {x q : Str} {st : Stmt} {ps : List Str} {a b c d e : Str} (I : ClsI K mg C x q st ps) (h1 : PySem.W.findIn K (.ref C) a = some none) (h2 : PySem.W.findIn K (.ref C) b = some none) (h3 : PySem.W.findIn K (.ref C) c = some none) (h4 : PySem.W.findIn K (.ref C) d = some none) (h5 : PySem.W.findIn K (.ref C) e = some none) :
    ∃ C, ClsI K mg C x q st ps ∧ NoAttr K C a ∧ NoAttr K C b ∧ NoAttr K C c ∧ NoAttr K C d ∧ NoAttr K C e := ⟨C, I, h1, h2, h3, h4, h5⟩
theorem tup2 {x : Str} {A : Addr} {xs : List V} {od : Option Addr} {sl : Array (Option Value)} {its : Array Value} {n : Nat} (X : K.In h) (G : h.Ns mainGlobals mg) (a : PySem.W.nsIn K mainGlobals x = some (some (.ref A))) (l : K.lookup A = some ⟨.type "tuple", od, .seq its n, sl⟩)
    (hz : its.size ≤ sizeLine) (hv : Vals xs its.toList) : ∃ A, mg x = some (.ref A) ∧ ∀ H, SqT K H A xs := ⟨A, PySem.W.mg_of X G a, tup_mk l rfl rfl hz hv⟩
theorem ans_mk {P : Program} {w : World} {fa f : Addr} {oc : Value} {od an : Option Addr} {osl : Array (Option Value)} {kV doc pm cdv ct : Value} (X : K.In h) (G : h.Ns mainGlobals mg) (hfa : mg "answers" = some (.ref fa)) (a : PySem.W.nsIn K mainGlobals "answers" = some (some (.ref f)))
    (l : K.lookup f = some ⟨oc, od, .func (PySem.W.fnOf "answers" "answers" (defArgs sAns) (defBody sAns) (defScope sAns) .none kV doc pm an cdv ct), osl⟩) (c : PySem.W.codeIn K cdv "answers" = true) (k : PySem.W.keepIn K (.ref f) = true)
    (body : ∀ (base : Heap) (f : Addr) (fd : FuncData), Fun K "answers" "answers" sAns f fd → FnOk P w K mg base CX0 12 f fd ["calls"] (spAns K)) :
    ∃ fd : FuncData, (∀ (s : Shared) (us : List Value), us.length = (["calls"] : List Str).length → BindsTo s fd ⟨us, []⟩ ((["calls"] : List Str).zip us)) ∧ ∀ base : Heap, K.In base → base.Ns mainGlobals mg → FnOk P w K mg base CX0 12 fa fd ["calls"] (spAns K) := by
  have e := hfa.symm.trans (PySem.W.mg_of X G a)
  cases e
  have F := fun_mk (st := sAns) l c k
  exact ⟨_, fun s us hu => match us, hu with | [_], _ => .of_eq rfl, fun base _ _ => body base _ _ F⟩
end
end T
set_option Elab.async false
set_option linter.all false
set_option maxRecDepth 100000
namespace T
open PySem PySem.Spec PyProof.Rows L2 R
/-! ### the table of the calls' defs -/
section
variable {K : PySem.W.Frag} {h : Heap} {mg : Str → Option Value}
def Named (mg : Str → Option Value) (fs : List Addr) (names : List Str) : Prop := ∀ (k : Nat) (f : Addr) (x : Str), fs[k]? = some f → names[k]? = some x → mg x = some (.ref f)
theorem named_nil {mg : Str → Option Value} : Named mg [] [] := fun k f x h => by simp at h
theorem named_cons {mg : Str → Option Value} {f : Addr} {fs : List Addr} {x : Str} {xs : List Str} (h : mg x = some (.ref f)) (t : Named mg fs xs) : Named mg (f :: fs) (x :: xs) := by
  intro k g y h1 h2
  cases k with
  | zero =>
    have e1 : f = g := Option.some.inj h1
    have e2 : x = y := Option.some.inj h2
    subst e1 e2
    exact h
  | succ k => exact t k g y h1 h2
theorem vals_refs : ∀ fs : List Addr, Vals (fs.map V.ref) (fs.map Value.ref)
  | [] => .nil
  | f :: fs => .cons rfl (vals_refs fs)
def handNames : List Str := ["begin", "put_old", "put_wanted", "add_copy", "drop", "found", "take", "tell_fits", "ahead", "ring", "best", "tell_choice", "order", "sent", "done", "careless", "if_room", "least_room", "without", "put_room", "tell_longest", "told", "rows"]
theorem hands_mk {A f0 f1 f2 f3 f4 f5 f6 f7 f8 f9 f10 f11 f12 f13 f14 f15 f16 f17 f18 f19 f20 f21 f22 : Addr} {od : Option Addr} {sl : Array (Option Value)} {its : Array Value} {n : Nat} (X : K.In h) (G : h.Ns mainGlobals mg) (a : PySem.W.nsIn K mainGlobals "HANDLERS" = some (some (.ref A))) (l : K.lookup A = some ⟨.type "tuple", od, .seq its n, sl⟩)
    (b0 : PySem.W.nsIn K mainGlobals "begin" = some (some (.ref f0)))
    (b1 : PySem.W.nsIn K mainGlobals "put_old" = some (some (.ref f1)))
    (b2 : PySem.W.nsIn K mainGlobals "put_wanted" = some (some (.ref f2)))
    (b3 : PySem.W.nsIn K mainGlobals "add_copy" = some (some (.ref f3)))
    (b4 : PySem.W.nsIn K mainGlobals "drop" = some (some (.ref f4)))
    (b5 : PySem.W.nsIn K mainGlobals "found" = some (some (.ref f5)))
    (b6 : PySem.W.nsIn K mainGlobals "take" = some (some (.ref f6)))
    (b7 : PySem.W.nsIn K mainGlobals "tell_fits" = some (some (.ref f7)))
    (b8 : PySem.W.nsIn K mainGlobals "ahead" = some (some (.ref f8)))
    (b9 : PySem.W.nsIn K mainGlobals "ring" = some (some (.ref f9)))
    (b10 : PySem.W.nsIn K mainGlobals "best" = some (some (.ref f10)))
    (b11 : PySem.W.nsIn K mainGlobals "tell_choice" = some (some (.ref f11)))
    (b12 : PySem.W.nsIn K mainGlobals "order" = some (some (.ref f12)))
    (b13 : PySem.W.nsIn K mainGlobals "sent" = some (some (.ref f13)))
    (b14 : PySem.W.nsIn K mainGlobals "done" = some (some (.ref f14)))
    (b15 : PySem.W.nsIn K mainGlobals "careless" = some (some (.ref f15)))
    (b16 : PySem.W.nsIn K mainGlobals "if_room" = some (some (.ref f16)))
    (b17 : PySem.W.nsIn K mainGlobals "least_room" = some (some (.ref f17)))
    (b18 : PySem.W.nsIn K mainGlobals "without" = some (some (.ref f18)))
    (b19 : PySem.W.nsIn K mainGlobals "put_room" = some (some (.ref f19)))
    (b20 : PySem.W.nsIn K mainGlobals "tell_longest" = some (some (.ref f20)))
    (b21 : PySem.W.nsIn K mainGlobals "told" = some (some (.ref f21)))
    (b22 : PySem.W.nsIn K mainGlobals "rows" = some (some (.ref f22)))
    (e : its = #[.ref f0, .ref f1, .ref f2, .ref f3, .ref f4, .ref f5, .ref f6, .ref f7, .ref f8, .ref f9, .ref f10, .ref f11, .ref f12, .ref f13, .ref f14, .ref f15, .ref f16, .ref f17, .ref f18, .ref f19, .ref f20, .ref f21, .ref f22]) :
    ∃ (A : Addr) (fs : List Addr), mg "HANDLERS" = some (.ref A) ∧ (∀ H, SqT K H A (fs.map V.ref)) ∧ fs.length = 23 ∧ Named mg fs handNames := by
  subst e
  refine ⟨A, [f0, f1, f2, f3, f4, f5, f6, f7, f8, f9, f10, f11, f12, f13, f14, f15, f16, f17, f18, f19, f20, f21, f22], PySem.W.mg_of X G a, tup_mk l rfl rfl (show 23 ≤ sizeLine by decide) (vals_refs [f0, f1, f2, f3, f4, f5, f6, f7, f8, f9, f10, f11, f12, f13, f14, f15, f16, f17, f18, f19, f20, f21, f22]), rfl, ?_⟩
  exact (named_cons (PySem.W.mg_of X G b0) (named_cons (PySem.W.mg_of X G b1) (named_cons (PySem.W.mg_of X G b2) (named_cons (PySem.W.mg_of X G b3) (named_cons (PySem.W.mg_of X G b4) (named_cons (PySem.W.mg_of X G b5) (named_cons (PySem.W.mg_of X G b6) (named_cons (PySem.W.mg_of X G b7) (named_cons (PySem.W.mg_of X G b8) (named_cons (PySem.W.mg_of X G b9) (named_cons (PySem.W.mg_of X G b10) (named_cons (PySem.W.mg_of X G b11) (named_cons (PySem.W.mg_of X G b12) (named_cons (PySem.W.mg_of X G b13) (named_cons (PySem.W.mg_of X G b14) (named_cons (PySem.W.mg_of X G b15) (named_cons (PySem.W.mg_of X G b16) (named_cons (PySem.W.mg_of X G b17) (named_cons (PySem.W.mg_of X G b18) (named_cons (PySem.W.mg_of X G b19) (named_cons (PySem.W.mg_of X G b20) (named_cons (PySem.W.mg_of X G b21) (named_cons (PySem.W.mg_of X G b22) named_nil)))))))))))))))))))))))
variable {P : Program} {w : World} {base : Heap} {C CD aH : Addr} {fs : List Addr}
theorem hand_ok {j : Nat} {x : Str} {ps : List Str} {sp : Sp} {f : Addr} (c : Cal P w K mg base j x ps sp) (hj : j ≤ 10) (m : mg x = some (.ref f)) : ∃ (fd : FuncData) (ps : List Str), FnOk P w K mg base CX0 10 f fd ps sp ∧ Binds K fd ps [] ∧ PySem.W.keepIn K (.ref f) = true := by
  obtain ⟨g, fd, F, m2, kp, b⟩ := c.ex
  have e := m.symm.trans m2
  cases e
  exact ⟨fd, ps, F.mono hj, b, kp⟩
theorem hands_all (mH : mg "HANDLERS" = some (.ref aH)) (tH : ∀ H : Hp, SqT K H aH (fs.map V.ref)) (lH : fs.length = 23) (nH : Named mg fs handNames)
    (c0 : Cal P w K mg base 2 "begin" ["desk", "arguments"] (spH C CD 3 false mkBegin))
    (c1 : Cal P w K mg base 2 "put_old" ["desk", "arguments"] (spH C CD 2 true mkOld))
    (c2 : Cal P w K mg base 2 "put_wanted" ["desk", "arguments"] (spH C CD 2 true mkWant))
    (c3 : Cal P w K mg base 3 "add_copy" ["desk", "arguments"] (spH C CD 3 true mkCopy))
    (c4 : Cal P w K mg base 1 "drop" ["desk", "arguments"] (spH C CD 1 true mkDrop))
    (c5 : Cal P w K mg base 5 "found" ["desk", "arguments"] (spH C CD 0 true mkFound))
    (c6 : Cal P w K mg base 5 "take" ["desk", "arguments"] (spH C CD 0 true mkTake))
    (c7 : Cal P w K mg base 3 "tell_fits" ["desk", "arguments"] (spH C CD 1 true mkFits))
    (c8 : Cal P w K mg base 4 "ahead" ["desk", "arguments"] (spH C CD 1 true mkAhead))
    (c9 : Cal P w K mg base 6 "ring" ["desk", "arguments"] (spH C CD 0 true mkRing))
    (c10 : Cal P w K mg base 10 "best" ["desk", "arguments"] (spH C CD 0 true mkBest))
    (c11 : Cal P w K mg base 10 "tell_choice" ["desk", "arguments"] (spH C CD 0 true mkChoice))
    (c12 : Cal P w K mg base 10 "order" ["desk", "arguments"] (spH C CD 0 true mkOrder))
    (c13 : Cal P w K mg base 10 "sent" ["desk", "arguments"] (spH C CD 0 true mkSent))
    (c14 : Cal P w K mg base 10 "done" ["desk", "arguments"] (spH C CD 0 true mkDone))
    (c15 : Cal P w K mg base 4 "careless" ["desk", "arguments"] (spH C CD 0 true mkCare))
    (c16 : Cal P w K mg base 10 "if_room" ["desk", "arguments"] (spH C CD 1 true mkIfr))
    (c17 : Cal P w K mg base 9 "least_room" ["desk", "arguments"] (spH C CD 0 true mkLr))
    (c18 : Cal P w K mg base 10 "without" ["desk", "arguments"] (spH C CD 1 true mkWo))
    (c19 : Cal P w K mg base 1 "put_room" ["desk", "arguments"] (spH C CD 1 true mkPr))
    (c20 : Cal P w K mg base 4 "tell_longest" ["desk", "arguments"] (spH C CD 1 true mkTl))
    (c21 : Cal P w K mg base 2 "told" ["desk", "arguments"] (spH C CD 1 true mkTold))
    (c22 : Cal P w K mg base 2 "rows" ["desk", "arguments"] (spH C CD 0 true mkRows))
    : Hands P w K mg base C CD aH fs := by
  refine ⟨mH, tH, lH, fun k f hf => ?_⟩
  have hk : k < 23 := by
    have := (List.getElem?_eq_some_iff.mp hf).1
    omega
  rcases M.k_cases hk with rfl | rfl | rfl | rfl | rfl | rfl | rfl | rfl | rfl | rfl | rfl | rfl | rfl | rfl | rfl | rfl | rfl | rfl | rfl | rfl | rfl | rfl | rfl
  · exact hand_ok c0 (by decide) (nH 0 f _ hf rfl)
  · exact hand_ok c1 (by decide) (nH 1 f _ hf rfl)
  · exact hand_ok c2 (by decide) (nH 2 f _ hf rfl)
  · exact hand_ok c3 (by decide) (nH 3 f _ hf rfl)
  · exact hand_ok c4 (by decide) (nH 4 f _ hf rfl)
  · exact hand_ok c5 (by decide) (nH 5 f _ hf rfl)
  · exact hand_ok c6 (by decide) (nH 6 f _ hf rfl)
  · exact hand_ok c7 (by decide) (nH 7 f _ hf rfl)
  · exact hand_ok c8 (by decide) (nH 8 f _ hf rfl)
  · exact hand_ok c9 (by decide) (nH 9 f _ hf rfl)
  · exact hand_ok c10 (by decide) (nH 10 f _ hf rfl)
  · exact hand_ok c11 (by decide) (nH 11 f _ hf rfl)
  · exact hand_ok c12 (by decide) (nH 12 f _ hf rfl)
  · exact hand_ok c13 (by decide) (nH 13 f _ hf rfl)
  · exact hand_ok c14 (by decide) (nH 14 f _ hf rfl)
  · exact hand_ok c15 (by decide) (nH 15 f _ hf rfl)
  · exact hand_ok c16 (by decide) (nH 16 f _ hf rfl)
  · exact hand_ok c17 (by decide) (nH 17 f _ hf rfl)
  · exact hand_ok c18 (by decide) (nH 18 f _ hf rfl)
  · exact hand_ok c19 (by decide) (nH 19 f _ hf rfl)
  · exact hand_ok c20 (by decide) (nH 20 f _ hf rfl)
  · exact hand_ok c21 (by decide) (nH 21 f _ hf rfl)
  · exact hand_ok c22 (by decide) (nH 22 f _ hf rfl)
end
end T
open PySem PySem.W PyProof.Rows
set_option Elab.async false
set_option linter.all false
set_option maxRecDepth 100000 in
set_option maxHeartbeats 0 in
theorem PySem.Challenge.cw_samecells_s01_answers_holds : PySem.Challenge.rw_samecells_s01_answers.Holds := by
  w_on; k_headS; (case hw => exact ⟨[.list [.int 5]], by decide +kernel, by decide +kernel⟩)
  k_fillS
  refine L2.walk_specK (r := PySem.Challenge.rw_samecells_s01_answers) (k := 12) (CX := L2.CX0) (ps := ["calls"]) (sp := T.spAns) (by decide +kernel) rfl rfl ⟨rfl, by decide, by decide⟩ (fun w h Y => PySem.W.kIn_of Y) ?F ?S (fun _ _ _ _ z => z)
  case F =>
    intro w mg fa h Y KX G hmg
    obtain ⟨CC, IC, nS, nT, nL⟩ : ∃ C, T.ClsI (PySem.Challenge.cw_samecells_s01_answers_holds.heap_1 w.params) mg C "Copy" "Copy.__init__" T.sInitC T.psInitC ∧ _ := by
      refine' T.cls3 (a := "source") (b := "target") (c := "length") (T.cls_mk KX G ?aC ?a ?i ?l ?c ?k ?pg ?hd ?po ?sa ?mk ?kc (fun _ _ _ _ _ _ us hl => match us, hl with | [_, _, _, _], _ => rfl)) ?n1 ?n2 ?n3
      (case aC => k_is); (case a => k_is); (case i => k_is); (case l => k_is); (case c => k_is); (case k => k_is); (case pg => k_is); (case hd => k_is); (case po => k_is); (case sa => k_is); (case mk => k_is); (case kc => k_is)
      (case n1 => k_is); (case n2 => k_is); (case n3 => k_is)
    obtain ⟨CD, ID, dB, dO, dW, dR, dC⟩ : ∃ C, T.ClsI (PySem.Challenge.cw_samecells_s01_answers_holds.heap_1 w.params) mg C "Desk" "Desk.__init__" T.sInitD ["self"] ∧ _ := by
      refine' T.cls5 (a := "begun") (b := "old") (c := "wanted") (d := "room") (e := "copies") (T.cls_mk KX G ?aC ?a ?i ?l ?c ?k ?pg ?hd ?po ?sa ?mk ?kc (fun _ _ _ _ _ _ us hl => match us, hl with | [_], _ => rfl)) ?n1 ?n2 ?n3 ?n4 ?n5
      (case aC => k_is); (case a => k_is); (case i => k_is); (case l => k_is); (case c => k_is); (case k => k_is); (case pg => k_is); (case hd => k_is); (case po => k_is); (case sa => k_is); (case mk => k_is); (case kc => k_is)
      (case n1 => k_is); (case n2 => k_is); (case n3 => k_is); (case n4 => k_is); (case n5 => k_is)
    have TT : T.Txt (PySem.Challenge.cw_samecells_s01_answers_holds.heap_1 w.params) mg CC := ⟨IC.cl, nS, nT, nL, (by refine' T.no_mk (x := "len") KX G ?a; (case a => k_is)), (by refine' T.no_mk (x := "range") KX G ?a; (case a => k_is)), (by refine' T.no_mk (x := "list") KX G ?a; (case a => k_is)), (by refine' T.no_mk (x := "sum") KX G ?a; (case a => k_is)), (by refine' T.no_mk (x := "any") KX G ?a; (case a => k_is)), (by refine' T.int_mk (x := "MOST_COPIES") (z := 7) KX G ?a; (case a => k_is)), (by refine' T.int_mk (x := "IN_PLACE") (z := 0) KX G ?a; (case a => k_is)), (by refine' T.int_mk (x := "ASIDE") (z := 1) KX G ?a; (case a => k_is)), (by refine' T.int_mk (x := "LEFT_OUT") (z := 2) KX G ?a; (case a => k_is)), (by refine' T.int_mk (x := "LEAST_FOUND") (z := 2) KX G ?a; (case a => k_is))⟩
    have TD : T.TxtD (PySem.Challenge.cw_samecells_s01_answers_holds.heap_1 w.params) mg CD := ⟨ID.cl, dB, dO, dW, dR, dC, (by refine' T.int_mk (x := "MOST_CELLS") (z := 16) KX G ?a; (case a => k_is)), (by refine' T.int_mk (x := "MOST_ROOM") (z := 16) KX G ?a; (case a => k_is)), (by refine' T.int_mk (x := "MOST_HELD") (z := 999) KX G ?a; (case a => k_is)), (by refine' T.int_mk (x := "NO_SUCH") (z := -2) KX G ?a; (case a => k_is)), (by refine' T.int_mk (x := "NOT_BEGUN") (z := -11) KX G ?a; (case a => k_is)), (by refine' T.int_mk (x := "TAKEN") (z := -17) KX G ?a; (case a => k_is)), (by refine' T.int_mk (x := "WRONG") (z := -22) KX G ?a; (case a => k_is)), (by refine' T.int_mk (x := "FULL") (z := -28) KX G ?a; (case a => k_is)), (by refine' T.int_mk (x := "BEGIN") (z := 0) KX G ?a; (case a => k_is))⟩
    have D_overlap : T.Def (PySem.Challenge.cw_samecells_s01_answers_holds.heap_1 w.params) mg "overlap" T.sOverlap ["start", "length", "other_start", "other_length"] := by
      refine' T.def_mk KX G ?a ?l ?c ?k (fun _ _ _ _ _ _ us hl => match us, hl with | [_, _, _, _], _ => rfl)
      (case a => k_is); (case l => k_is); (case c => k_is); (case k => k_is)
    have D_share_new_cell : T.Def (PySem.Challenge.cw_samecells_s01_answers_holds.heap_1 w.params) mg "share_new_cell" T.sShare ["copy", "other"] := by
      refine' T.def_mk KX G ?a ?l ?c ?k (fun _ _ _ _ _ _ us hl => match us, hl with | [_, _], _ => rfl)
      (case a => k_is); (case l => k_is); (case c => k_is); (case k => k_is)
    have D_has_new_cell : T.Def (PySem.Challenge.cw_samecells_s01_answers_holds.heap_1 w.params) mg "has_new_cell" T.sHnc ["copies", "t"] := by
      refine' T.def_mk KX G ?a ?l ?c ?k (fun _ _ _ _ _ _ us hl => match us, hl with | [_, _], _ => rfl)
      (case a => k_is); (case l => k_is); (case c => k_is); (case k => k_is)
    have D_has_to_be_ahead : T.Def (PySem.Challenge.cw_samecells_s01_answers_holds.heap_1 w.params) mg "has_to_be_ahead" T.sAhead ["copy", "other"] := by
      refine' T.def_mk KX G ?a ?l ?c ?k (fun _ _ _ _ _ _ us hl => match us, hl with | [_, _], _ => rfl)
      (case a => k_is); (case l => k_is); (case c => k_is); (case k => k_is)
    have D_fits : T.Def (PySem.Challenge.cw_samecells_s01_answers_holds.heap_1 w.params) mg "fits" T.sFits ["copy", "old", "wanted"] := by
      refine' T.def_mk KX G ?a ?l ?c ?k (fun _ _ _ _ _ _ us hl => match us, hl with | [_, _, _], _ => rfl)
      (case a => k_is); (case l => k_is); (case c => k_is); (case k => k_is)
    have D_ahead_of : T.Def (PySem.Challenge.cw_samecells_s01_answers_holds.heap_1 w.params) mg "ahead_of" T.sAheadOf ["copies", "i", "numbers"] := by
      refine' T.def_mk KX G ?a ?l ?c ?k (fun _ _ _ _ _ _ us hl => match us, hl with | [_, _, _], _ => rfl)
      (case a => k_is); (case l => k_is); (case c => k_is); (case k => k_is)
    have D_first_free : T.Def (PySem.Challenge.cw_samecells_s01_answers_holds.heap_1 w.params) mg "first_free" T.sFirst ["copies", "left"] := by
      refine' T.def_mk KX G ?a ?l ?c ?k (fun _ _ _ _ _ _ us hl => match us, hl with | [_, _], _ => rfl)
      (case a => k_is); (case l => k_is); (case c => k_is); (case k => k_is)
    have D_order_of : T.Def (PySem.Challenge.cw_samecells_s01_answers_holds.heap_1 w.params) mg "order_of" T.sOrder ["copies", "numbers"] := by
      refine' T.def_mk KX G ?a ?l ?c ?k (fun _ _ _ _ _ _ us hl => match us, hl with | [_, _], _ => rfl)
      (case a => k_is); (case l => k_is); (case c => k_is); (case k => k_is)
    have D_lengthened : T.Def (PySem.Challenge.cw_samecells_s01_answers_holds.heap_1 w.params) mg "lengthened" T.sLen ["choices", "numbers"] := by
      refine' T.def_mk KX G ?a ?l ?c ?k (fun _ _ _ _ _ _ us hl => match us, hl with | [_, _], _ => rfl)
      (case a => k_is); (case l => k_is); (case c => k_is); (case k => k_is)
    have D_choices_for : T.Def (PySem.Challenge.cw_samecells_s01_answers_holds.heap_1 w.params) mg "choices_for" T.sChF ["fitting"] := by
      refine' T.def_mk KX G ?a ?l ?c ?k (fun _ _ _ _ _ _ us hl => match us, hl with | [_], _ => rfl)
      (case a => k_is); (case l => k_is); (case c => k_is); (case k => k_is)
    have D_numbers_with : T.Def (PySem.Challenge.cw_samecells_s01_answers_holds.heap_1 w.params) mg "numbers_with" T.sDip ["choice", "number"] := by
      refine' T.def_mk KX G ?a ?l ?c ?k (fun _ _ _ _ _ _ us hl => match us, hl with | [_, _], _ => rfl)
      (case a => k_is); (case l => k_is); (case c => k_is); (case k => k_is)
    have D_cells_with : T.Def (PySem.Challenge.cw_samecells_s01_answers_holds.heap_1 w.params) mg "cells_with" T.sCw ["copies", "choice", "number"] := by
      refine' T.def_mk KX G ?a ?l ?c ?k (fun _ _ _ _ _ _ us hl => match us, hl with | [_, _, _], _ => rfl)
      (case a => k_is); (case l => k_is); (case c => k_is); (case k => k_is)
    have D_may_be_made : T.Def (PySem.Challenge.cw_samecells_s01_answers_holds.heap_1 w.params) mg "may_be_made" T.sMay ["copies", "choice", "room"] := by
      refine' T.def_mk KX G ?a ?l ?c ?k (fun _ _ _ _ _ _ us hl => match us, hl with | [_, _, _], _ => rfl)
      (case a => k_is); (case l => k_is); (case c => k_is); (case k => k_is)
    have D_rank : T.Def (PySem.Challenge.cw_samecells_s01_answers_holds.heap_1 w.params) mg "rank" T.sRank ["copies", "choice"] := by
      refine' T.def_mk KX G ?a ?l ?c ?k (fun _ _ _ _ _ _ us hl => match us, hl with | [_, _], _ => rfl)
      (case a => k_is); (case l => k_is); (case c => k_is); (case k => k_is)
    have D_best_choice : T.Def (PySem.Challenge.cw_samecells_s01_answers_holds.heap_1 w.params) mg "best_choice" T.sBc ["copies", "fitting", "room"] := by
      refine' T.def_mk KX G ?a ?l ?c ?k (fun _ _ _ _ _ _ us hl => match us, hl with | [_, _, _], _ => rfl)
      (case a => k_is); (case l => k_is); (case c => k_is); (case k => k_is)
    have D_sent_cells : T.Def (PySem.Challenge.cw_samecells_s01_answers_holds.heap_1 w.params) mg "sent_cells" T.sSc ["copies", "choice", "new_count"] := by
      refine' T.def_mk KX G ?a ?l ?c ?k (fun _ _ _ _ _ _ us hl => match us, hl with | [_, _, _], _ => rfl)
      (case a => k_is); (case l => k_is); (case c => k_is); (case k => k_is)
    have D_all_cells : T.Def (PySem.Challenge.cw_samecells_s01_answers_holds.heap_1 w.params) mg "all_cells" T.sAll ["old"] := by
      refine' T.def_mk KX G ?a ?l ?c ?k (fun _ _ _ _ _ _ us hl => match us, hl with | [_], _ => rfl)
      (case a => k_is); (case l => k_is); (case c => k_is); (case k => k_is)
    have D_read_by : T.Def (PySem.Challenge.cw_samecells_s01_answers_holds.heap_1 w.params) mg "read_by" T.sRb ["copy", "cells"] := by
      refine' T.def_mk KX G ?a ?l ?c ?k (fun _ _ _ _ _ _ us hl => match us, hl with | [_, _], _ => rfl)
      (case a => k_is); (case l => k_is); (case c => k_is); (case k => k_is)
    have D_write_by : T.Def (PySem.Challenge.cw_samecells_s01_answers_holds.heap_1 w.params) mg "write_by" T.sWb ["copy", "cells", "numbers"] := by
      refine' T.def_mk KX G ?a ?l ?c ?k (fun _ _ _ _ _ _ us hl => match us, hl with | [_, _, _], _ => rfl)
      (case a => k_is); (case l => k_is); (case c => k_is); (case k => k_is)
    have D_do_in_place : T.Def (PySem.Challenge.cw_samecells_s01_answers_holds.heap_1 w.params) mg "do_in_place" T.sDp ["copy", "cells"] := by
      refine' T.def_mk KX G ?a ?l ?c ?k (fun _ _ _ _ _ _ us hl => match us, hl with | [_, _], _ => rfl)
      (case a => k_is); (case l => k_is); (case c => k_is); (case k => k_is)
    have D_done_cells : T.Def (PySem.Challenge.cw_samecells_s01_answers_holds.heap_1 w.params) mg "done_cells" T.sDc ["old", "wanted", "copies", "choice"] := by
      refine' T.def_mk KX G ?a ?l ?c ?k (fun _ _ _ _ _ _ us hl => match us, hl with | [_, _, _, _], _ => rfl)
      (case a => k_is); (case l => k_is); (case c => k_is); (case k => k_is)
    have D_careless_cells : T.Def (PySem.Challenge.cw_samecells_s01_answers_holds.heap_1 w.params) mg "careless_cells" T.sCc ["old", "wanted", "copies"] := by
      refine' T.def_mk KX G ?a ?l ?c ?k (fun _ _ _ _ _ _ us hl => match us, hl with | [_, _, _], _ => rfl)
      (case a => k_is); (case l => k_is); (case c => k_is); (case k => k_is)
    have D_stretch : T.Def (PySem.Challenge.cw_samecells_s01_answers_holds.heap_1 w.params) mg "stretch" T.sStr ["old", "wanted", "f", "t"] := by
      refine' T.def_mk KX G ?a ?l ?c ?k (fun _ _ _ _ _ _ us hl => match us, hl with | [_, _, _, _], _ => rfl)
      (case a => k_is); (case l => k_is); (case c => k_is); (case k => k_is)
    have D_longest : T.Def (PySem.Challenge.cw_samecells_s01_answers_holds.heap_1 w.params) mg "longest" T.sLong ["old", "wanted", "t"] := by
      refine' T.def_mk KX G ?a ?l ?c ?k (fun _ _ _ _ _ _ us hl => match us, hl with | [_, _, _], _ => rfl)
      (case a => k_is); (case l => k_is); (case c => k_is); (case k => k_is)
    have D_found_copies : T.Def (PySem.Challenge.cw_samecells_s01_answers_holds.heap_1 w.params) mg "found_copies" T.sFound ["old", "wanted"] := by
      refine' T.def_mk KX G ?a ?l ?c ?k (fun _ _ _ _ _ _ us hl => match us, hl with | [_, _], _ => rfl)
      (case a => k_is); (case l => k_is); (case c => k_is); (case k => k_is)
    have D_counted : T.Def (PySem.Challenge.cw_samecells_s01_answers_holds.heap_1 w.params) mg "counted" T.sCounted ["numbers"] := by
      refine' T.def_mk KX G ?a ?l ?c ?k (fun _ _ _ _ _ _ us hl => match us, hl with | [_], _ => rfl)
      (case a => k_is); (case l => k_is); (case c => k_is); (case k => k_is)
    have D_one_or_zero : T.Def (PySem.Challenge.cw_samecells_s01_answers_holds.heap_1 w.params) mg "one_or_zero" T.sOoz ["answer"] := by
      refine' T.def_mk KX G ?a ?l ?c ?k (fun _ _ _ _ _ _ us hl => match us, hl with | [_], _ => rfl)
      (case a => k_is); (case l => k_is); (case c => k_is); (case k => k_is)
    have D_is_cell_count : T.Def (PySem.Challenge.cw_samecells_s01_answers_holds.heap_1 w.params) mg "is_cell_count" T.sIcc ["n"] := by
      refine' T.def_mk KX G ?a ?l ?c ?k (fun _ _ _ _ _ _ us hl => match us, hl with | [_], _ => rfl)
      (case a => k_is); (case l => k_is); (case c => k_is); (case k => k_is)
    have D_begin : T.Def (PySem.Challenge.cw_samecells_s01_answers_holds.heap_1 w.params) mg "begin" T.sBegin ["desk", "arguments"] := by
      refine' T.def_mk KX G ?a ?l ?c ?k (fun _ _ _ _ _ _ us hl => match us, hl with | [_, _], _ => rfl)
      (case a => k_is); (case l => k_is); (case c => k_is); (case k => k_is)
    have D_put : T.Def (PySem.Challenge.cw_samecells_s01_answers_holds.heap_1 w.params) mg "put" T.sPut ["cells", "i", "v"] := by
      refine' T.def_mk KX G ?a ?l ?c ?k (fun _ _ _ _ _ _ us hl => match us, hl with | [_, _, _], _ => rfl)
      (case a => k_is); (case l => k_is); (case c => k_is); (case k => k_is)
    have D_put_old : T.Def (PySem.Challenge.cw_samecells_s01_answers_holds.heap_1 w.params) mg "put_old" T.sPutO ["desk", "arguments"] := by
      refine' T.def_mk KX G ?a ?l ?c ?k (fun _ _ _ _ _ _ us hl => match us, hl with | [_, _], _ => rfl)
      (case a => k_is); (case l => k_is); (case c => k_is); (case k => k_is)
    have D_put_wanted : T.Def (PySem.Challenge.cw_samecells_s01_answers_holds.heap_1 w.params) mg "put_wanted" T.sPutW ["desk", "arguments"] := by
      refine' T.def_mk KX G ?a ?l ?c ?k (fun _ _ _ _ _ _ us hl => match us, hl with | [_, _], _ => rfl)
      (case a => k_is); (case l => k_is); (case c => k_is); (case k => k_is)
    have D_does_fit : T.Def (PySem.Challenge.cw_samecells_s01_answers_holds.heap_1 w.params) mg "does_fit" T.sDf ["desk", "copy"] := by
      refine' T.def_mk KX G ?a ?l ?c ?k (fun _ _ _ _ _ _ us hl => match us, hl with | [_, _], _ => rfl)
      (case a => k_is); (case l => k_is); (case c => k_is); (case k => k_is)
    have D_add_copy : T.Def (PySem.Challenge.cw_samecells_s01_answers_holds.heap_1 w.params) mg "add_copy" T.sAdd ["desk", "arguments"] := by
      refine' T.def_mk KX G ?a ?l ?c ?k (fun _ _ _ _ _ _ us hl => match us, hl with | [_, _], _ => rfl)
      (case a => k_is); (case l => k_is); (case c => k_is); (case k => k_is)
    have D_drop : T.Def (PySem.Challenge.cw_samecells_s01_answers_holds.heap_1 w.params) mg "drop" T.sDrop ["desk", "arguments"] := by
      refine' T.def_mk KX G ?a ?l ?c ?k (fun _ _ _ _ _ _ us hl => match us, hl with | [_, _], _ => rfl)
      (case a => k_is); (case l => k_is); (case c => k_is); (case k => k_is)
    have D_as_told : T.Def (PySem.Challenge.cw_samecells_s01_answers_holds.heap_1 w.params) mg "as_told" T.sTold0 ["copy"] := by
      refine' T.def_mk KX G ?a ?l ?c ?k (fun _ _ _ _ _ _ us hl => match us, hl with | [_], _ => rfl)
      (case a => k_is); (case l => k_is); (case c => k_is); (case k => k_is)
    have D_found : T.Def (PySem.Challenge.cw_samecells_s01_answers_holds.heap_1 w.params) mg "found" T.sFnd ["desk", "arguments"] := by
      refine' T.def_mk KX G ?a ?l ?c ?k (fun _ _ _ _ _ _ us hl => match us, hl with | [_, _], _ => rfl)
      (case a => k_is); (case l => k_is); (case c => k_is); (case k => k_is)
    have D_take : T.Def (PySem.Challenge.cw_samecells_s01_answers_holds.heap_1 w.params) mg "take" T.sTake ["desk", "arguments"] := by
      refine' T.def_mk KX G ?a ?l ?c ?k (fun _ _ _ _ _ _ us hl => match us, hl with | [_, _], _ => rfl)
      (case a => k_is); (case l => k_is); (case c => k_is); (case k => k_is)
    have D_tell_fits : T.Def (PySem.Challenge.cw_samecells_s01_answers_holds.heap_1 w.params) mg "tell_fits" T.sTf ["desk", "arguments"] := by
      refine' T.def_mk KX G ?a ?l ?c ?k (fun _ _ _ _ _ _ us hl => match us, hl with | [_, _], _ => rfl)
      (case a => k_is); (case l => k_is); (case c => k_is); (case k => k_is)
    have D_ahead : T.Def (PySem.Challenge.cw_samecells_s01_answers_holds.heap_1 w.params) mg "ahead" T.sAh ["desk", "arguments"] := by
      refine' T.def_mk KX G ?a ?l ?c ?k (fun _ _ _ _ _ _ us hl => match us, hl with | [_, _], _ => rfl)
      (case a => k_is); (case l => k_is); (case c => k_is); (case k => k_is)
    have D_those_fitting : T.Def (PySem.Challenge.cw_samecells_s01_answers_holds.heap_1 w.params) mg "those_fitting" T.sFtg ["desk"] := by
      refine' T.def_mk KX G ?a ?l ?c ?k (fun _ _ _ _ _ _ us hl => match us, hl with | [_], _ => rfl)
      (case a => k_is); (case l => k_is); (case c => k_is); (case k => k_is)
    have D_ring : T.Def (PySem.Challenge.cw_samecells_s01_answers_holds.heap_1 w.params) mg "ring" T.sRing ["desk", "arguments"] := by
      refine' T.def_mk KX G ?a ?l ?c ?k (fun _ _ _ _ _ _ us hl => match us, hl with | [_, _], _ => rfl)
      (case a => k_is); (case l => k_is); (case c => k_is); (case k => k_is)
    have D_best_with : T.Def (PySem.Challenge.cw_samecells_s01_answers_holds.heap_1 w.params) mg "best_with" T.sBw ["desk", "copies", "room"] := by
      refine' T.def_mk KX G ?a ?l ?c ?k (fun _ _ _ _ _ _ us hl => match us, hl with | [_, _, _], _ => rfl)
      (case a => k_is); (case l => k_is); (case c => k_is); (case k => k_is)
    have D_sent_with : T.Def (PySem.Challenge.cw_samecells_s01_answers_holds.heap_1 w.params) mg "sent_with" T.sSw ["desk", "copies", "room"] := by
      refine' T.def_mk KX G ?a ?l ?c ?k (fun _ _ _ _ _ _ us hl => match us, hl with | [_, _, _], _ => rfl)
      (case a => k_is); (case l => k_is); (case c => k_is); (case k => k_is)
    have D_chosen : T.Def (PySem.Challenge.cw_samecells_s01_answers_holds.heap_1 w.params) mg "chosen" T.sCho ["desk"] := by
      refine' T.def_mk KX G ?a ?l ?c ?k (fun _ _ _ _ _ _ us hl => match us, hl with | [_], _ => rfl)
      (case a => k_is); (case l => k_is); (case c => k_is); (case k => k_is)
    have D_best : T.Def (PySem.Challenge.cw_samecells_s01_answers_holds.heap_1 w.params) mg "best" T.sBest ["desk", "arguments"] := by
      refine' T.def_mk KX G ?a ?l ?c ?k (fun _ _ _ _ _ _ us hl => match us, hl with | [_, _], _ => rfl)
      (case a => k_is); (case l => k_is); (case c => k_is); (case k => k_is)
    have D_tell_choice : T.Def (PySem.Challenge.cw_samecells_s01_answers_holds.heap_1 w.params) mg "tell_choice" T.sTc ["desk", "arguments"] := by
      refine' T.def_mk KX G ?a ?l ?c ?k (fun _ _ _ _ _ _ us hl => match us, hl with | [_, _], _ => rfl)
      (case a => k_is); (case l => k_is); (case c => k_is); (case k => k_is)
    have D_order : T.Def (PySem.Challenge.cw_samecells_s01_answers_holds.heap_1 w.params) mg "order" T.sOrd ["desk", "arguments"] := by
      refine' T.def_mk KX G ?a ?l ?c ?k (fun _ _ _ _ _ _ us hl => match us, hl with | [_, _], _ => rfl)
      (case a => k_is); (case l => k_is); (case c => k_is); (case k => k_is)
    have D_sent : T.Def (PySem.Challenge.cw_samecells_s01_answers_holds.heap_1 w.params) mg "sent" T.sSent ["desk", "arguments"] := by
      refine' T.def_mk KX G ?a ?l ?c ?k (fun _ _ _ _ _ _ us hl => match us, hl with | [_, _], _ => rfl)
      (case a => k_is); (case l => k_is); (case c => k_is); (case k => k_is)
    have D_done : T.Def (PySem.Challenge.cw_samecells_s01_answers_holds.heap_1 w.params) mg "done" T.sDone ["desk", "arguments"] := by
      refine' T.def_mk KX G ?a ?l ?c ?k (fun _ _ _ _ _ _ us hl => match us, hl with | [_, _], _ => rfl)
      (case a => k_is); (case l => k_is); (case c => k_is); (case k => k_is)
    have D_careless : T.Def (PySem.Challenge.cw_samecells_s01_answers_holds.heap_1 w.params) mg "careless" T.sCare ["desk", "arguments"] := by
      refine' T.def_mk KX G ?a ?l ?c ?k (fun _ _ _ _ _ _ us hl => match us, hl with | [_, _], _ => rfl)
      (case a => k_is); (case l => k_is); (case c => k_is); (case k => k_is)
    have D_if_room : T.Def (PySem.Challenge.cw_samecells_s01_answers_holds.heap_1 w.params) mg "if_room" T.sIfr ["desk", "arguments"] := by
      refine' T.def_mk KX G ?a ?l ?c ?k (fun _ _ _ _ _ _ us hl => match us, hl with | [_, _], _ => rfl)
      (case a => k_is); (case l => k_is); (case c => k_is); (case k => k_is)
    have D_least_room : T.Def (PySem.Challenge.cw_samecells_s01_answers_holds.heap_1 w.params) mg "least_room" T.sLr ["desk", "arguments"] := by
      refine' T.def_mk KX G ?a ?l ?c ?k (fun _ _ _ _ _ _ us hl => match us, hl with | [_, _], _ => rfl)
      (case a => k_is); (case l => k_is); (case c => k_is); (case k => k_is)
    have D_without : T.Def (PySem.Challenge.cw_samecells_s01_answers_holds.heap_1 w.params) mg "without" T.sWo ["desk", "arguments"] := by
      refine' T.def_mk KX G ?a ?l ?c ?k (fun _ _ _ _ _ _ us hl => match us, hl with | [_, _], _ => rfl)
      (case a => k_is); (case l => k_is); (case c => k_is); (case k => k_is)
    have D_put_room : T.Def (PySem.Challenge.cw_samecells_s01_answers_holds.heap_1 w.params) mg "put_room" T.sPr ["desk", "arguments"] := by
      refine' T.def_mk KX G ?a ?l ?c ?k (fun _ _ _ _ _ _ us hl => match us, hl with | [_, _], _ => rfl)
      (case a => k_is); (case l => k_is); (case c => k_is); (case k => k_is)
    have D_tell_longest : T.Def (PySem.Challenge.cw_samecells_s01_answers_holds.heap_1 w.params) mg "tell_longest" T.sTl ["desk", "arguments"] := by
      refine' T.def_mk KX G ?a ?l ?c ?k (fun _ _ _ _ _ _ us hl => match us, hl with | [_, _], _ => rfl)
      (case a => k_is); (case l => k_is); (case c => k_is); (case k => k_is)
    have D_told : T.Def (PySem.Challenge.cw_samecells_s01_answers_holds.heap_1 w.params) mg "told" T.sTold ["desk", "arguments"] := by
      refine' T.def_mk KX G ?a ?l ?c ?k (fun _ _ _ _ _ _ us hl => match us, hl with | [_, _], _ => rfl)
      (case a => k_is); (case l => k_is); (case c => k_is); (case k => k_is)
    have D_rows : T.Def (PySem.Challenge.cw_samecells_s01_answers_holds.heap_1 w.params) mg "rows" T.sRows ["desk", "arguments"] := by
      refine' T.def_mk KX G ?a ?l ?c ?k (fun _ _ _ _ _ _ us hl => match us, hl with | [_, _], _ => rfl)
      (case a => k_is); (case l => k_is); (case c => k_is); (case k => k_is)
    have D_answer_to : T.Def (PySem.Challenge.cw_samecells_s01_answers_holds.heap_1 w.params) mg "answer_to" T.sAt ["desk", "number", "arguments"] := by
      refine' T.def_mk KX G ?a ?l ?c ?k (fun _ _ _ _ _ _ us hl => match us, hl with | [_, _, _], _ => rfl)
      (case a => k_is); (case l => k_is); (case c => k_is); (case k => k_is)
    have D_answers : T.Def (PySem.Challenge.cw_samecells_s01_answers_holds.heap_1 w.params) mg "answers" T.sAns ["calls"] := by
      refine' T.def_mk KX G ?a ?l ?c ?k (fun _ _ _ _ _ _ us hl => match us, hl with | [_], _ => rfl)
      (case a => k_is); (case l => k_is); (case c => k_is); (case k => k_is)
    obtain ⟨aH, fs, mH, tH, lH, nH⟩ : ∃ (A : Addr) (fs : List Addr), mg "HANDLERS" = some (.ref A) ∧ (∀ H, L2.SqT (PySem.Challenge.cw_samecells_s01_answers_holds.heap_1 w.params) H A (fs.map L2.V.ref)) ∧ fs.length = 23 ∧ T.Named mg fs T.handNames := by
      refine' T.hands_mk KX G ?a ?l ?b0 ?b1 ?b2 ?b3 ?b4 ?b5 ?b6 ?b7 ?b8 ?b9 ?b10 ?b11 ?b12 ?b13 ?b14 ?b15 ?b16 ?b17 ?b18 ?b19 ?b20 ?b21 ?b22 ?e
      (case a => k_is); (case l => k_is)
      (case b0 => k_is); (case b1 => k_is); (case b2 => k_is); (case b3 => k_is); (case b4 => k_is); (case b5 => k_is); (case b6 => k_is); (case b7 => k_is); (case b8 => k_is); (case b9 => k_is); (case b10 => k_is); (case b11 => k_is); (case b12 => k_is); (case b13 => k_is); (case b14 => k_is); (case b15 => k_is); (case b16 => k_is); (case b17 => k_is); (case b18 => k_is); (case b19 => k_is); (case b20 => k_is); (case b21 => k_is); (case b22 => k_is)
      (case e => rfl)
    obtain ⟨aA, mA, tA⟩ : ∃ a, mg "ARGUMENTS" = some (.ref a) ∧ ∀ H, L2.SqT (PySem.Challenge.cw_samecells_s01_answers_holds.heap_1 w.params) H a (T.nV [3, 2, 2, 3, 1, 0, 0, 1, 1, 0, 0, 0, 0, 0, 0, 0, 1, 0, 1, 1, 1, 1, 0]) := by
      refine' T.tup2 KX G ?a ?l ?z ?v
      (case a => k_is); (case l => k_is)
      case z => decide +kernel
      case v => repeat (first | exact .nil | refine .cons ⟨_, rfl⟩ ?_)
    obtain ⟨fI, fdI, MI, FI, mI, bI⟩ := IC.ex
    obtain ⟨fJ, fdJ, MJ, FJ, mJ, bJ⟩ := ID.ex
    refine' T.ans_mk KX G hmg ?a ?l ?c ?k ?body
    (case a => k_is); (case l => k_is); (case c => k_is); (case k => k_is)
    case body =>
      intro base f fd F
      have cMk : T.MkC PySem.Challenge.rw_samecells_s01_answers.prog w _ mg base 1 CC "Copy" T.psInitC (T.spInitC CC) := ⟨fI, fdI, MI, T.ok_initC FI TT, mI, bI⟩
      have cDk : T.MkC PySem.Challenge.rw_samecells_s01_answers.prog w _ mg base 1 CD "Desk" ["self"] (T.spInitD CD) := ⟨fJ, fdJ, MJ, T.ok_initD FJ TD, mJ, bJ⟩
      have c_overlap := T.ok_overlap (P := PySem.Challenge.rw_samecells_s01_answers.prog) (w := w) (base := base) D_overlap
      have c_share := T.ok_share D_share_new_cell TT c_overlap
      have c_hnc := T.ok_hnc D_has_new_cell TT c_overlap
      have c_hb := T.ok_hb D_has_to_be_ahead TT c_overlap
      have c_fits := T.ok_fits (P := PySem.Challenge.rw_samecells_s01_answers.prog) (w := w) (base := base) D_fits TT
      have c_ao := T.ok_aheadOf D_ahead_of TT c_hb
      have c_ff := T.ok_first D_first_free TT c_ao
      have c_oo := T.ok_order D_order_of TT c_ff
      have c_len := T.ok_len (P := PySem.Challenge.rw_samecells_s01_answers.prog) (w := w) (base := base) D_lengthened TT
      have c_chF := T.ok_chF D_choices_for TT c_len
      have c_dip := T.ok_dip (P := PySem.Challenge.rw_samecells_s01_answers.prog) (w := w) (base := base) D_numbers_with TT
      have c_cw := T.ok_cw D_cells_with TT c_dip
      have c_may := T.ok_may D_may_be_made TT c_cw c_dip c_oo
      have c_rank := T.ok_rank D_rank TT c_cw
      have c_bc := T.ok_bc D_best_choice TT c_rank c_chF c_may
      have c_sc := T.ok_sc D_sent_cells TT c_hnc
      have c_all := T.ok_all (P := PySem.Challenge.rw_samecells_s01_answers.prog) (w := w) (base := base) D_all_cells TT TD
      have c_rb := T.ok_rb (P := PySem.Challenge.rw_samecells_s01_answers.prog) (w := w) (base := base) D_read_by TT
      have c_wb := T.ok_wb (P := PySem.Challenge.rw_samecells_s01_answers.prog) (w := w) (base := base) D_write_by TT
      have c_dp := T.ok_dp D_do_in_place c_rb c_wb
      have c_dc := T.ok_dc D_done_cells TT c_all c_dip c_rb c_oo c_dp c_wb c_sc
      have c_cc := T.ok_cc D_careless_cells TT c_all c_dp c_hnc
      have c_str := T.ok_str (P := PySem.Challenge.rw_samecells_s01_answers.prog) (w := w) (base := base) D_stretch TT
      have c_long := T.ok_long D_longest TT cMk c_str
      have c_found := T.ok_found D_found_copies TT c_long
      have c_counted := T.ok_counted (P := PySem.Challenge.rw_samecells_s01_answers.prog) (w := w) (base := base) D_counted TT
      have c_ooz := T.ok_ooz (P := PySem.Challenge.rw_samecells_s01_answers.prog) (w := w) (base := base) D_one_or_zero
      have c_icc := T.ok_icc (P := PySem.Challenge.rw_samecells_s01_answers.prog) (w := w) (base := base) D_is_cell_count TD
      have c_begin := T.ok_begin D_begin TT TD c_icc
      have c_put := T.ok_put (P := PySem.Challenge.rw_samecells_s01_answers.prog) (w := w) (base := base) D_put TT TD
      have c_putO := T.ok_putO (C := CC) D_put_old TD c_put
      have c_putW := T.ok_putW (C := CC) D_put_wanted TD c_put
      have c_df := T.ok_df D_does_fit TD c_fits
      have c_add := T.ok_add D_add_copy TT TD cMk c_share c_df c_ooz
      have c_drop := T.ok_drop (P := PySem.Challenge.rw_samecells_s01_answers.prog) (w := w) (base := base) D_drop TT TD
      have c_told0 := T.ok_told0 (P := PySem.Challenge.rw_samecells_s01_answers.prog) (w := w) (base := base) D_as_told TT
      have c_fnd := T.ok_fnd D_found TT TD c_found c_told0
      have c_take := T.ok_take D_take TT TD c_found
      have c_tf := T.ok_tf D_tell_fits TT TD c_df c_ooz
      have c_ah := T.ok_ah D_ahead TT TD c_ao c_counted
      have c_ftg := T.ok_ftg D_those_fitting TT TD c_df
      have c_ring := T.ok_ring D_ring TT TD c_ftg c_oo c_ooz
      have c_bw := T.ok_bw D_best_with c_df c_bc
      have c_sw := T.ok_sw D_sent_with TT TD c_bw c_sc
      have c_cho := T.ok_cho D_chosen TD c_bw
      have c_best := T.ok_best D_best TT TD c_cho c_sc c_cw
      have c_tc := T.ok_tc D_tell_choice TD c_cho c_counted
      have c_ord := T.ok_ord D_order TT TD c_cho c_dip c_oo c_counted
      have c_sent := T.ok_sent D_sent TT TD c_cho c_sc c_counted
      have c_done := T.ok_done D_done TT TD c_cho c_dc c_counted
      have c_care := T.ok_care D_careless TD c_ftg c_cc c_counted
      have c_ifr := T.ok_ifr D_if_room TD c_sw
      have c_lr := T.ok_lr D_least_room TT TD c_bw c_cw
      have c_wo := T.ok_wo D_without TT TD c_sw
      have c_pr := T.ok_pr (C := CC) (P := PySem.Challenge.rw_samecells_s01_answers.prog) (w := w) (base := base) D_put_room TD
      have c_tl := T.ok_tl D_tell_longest TT TD c_long
      have c_told := T.ok_told D_told TT TD c_told0
      have c_rows := T.ok_rows (C := CC) D_rows TD c_counted
      have hands := T.hands_all mH tH lH nH c_begin c_putO c_putW c_add c_drop c_fnd c_take c_tf c_ah c_ring c_best c_tc c_ord c_sent c_done c_care c_ifr c_lr c_wo c_pr c_tl c_told c_rows
      have c_at := T.ok_at D_answer_to TT TD hands
      exact T.ok_ans F TT TD cDk c_at c_counted mA tA
  case S =>
    intro K H xs a hO hwi hask hx
    cases hx with
    | cons h1 h2 =>
      cases h2
      cases h1 with
      | lst hs ha =>
        have e := L2.ints_dw a.1 _ ha
        subst e
        have q : ((Codec.inLen 0 240 a.1 && a.1.all (Codec.inInt 0 4294967295)) && true) = true := hwi
        rw [Bool.and_eq_true, Bool.and_eq_true] at q
        refine ⟨_, a.1, rfl, hs, (Codec.inNat_iff.mp q.1.1).2, fun x hx => ?_, hask, fun H' p hp => .lst (L2.SqL.of hp) (L2.dw_ints _)⟩
        exact (Codec.inInt_iff.mp (List.all_eq_true.mp q.1.2 x hx)).1
