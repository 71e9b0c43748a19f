import PyProof.Rows.All
import Wide.All
import OpenK.AllK
import Wide.FinOn
import PyProof.EqAt
import PyProof.EqKinds
import PyProof.TupleCall
import KE.BitLaws
import Open.SpecLaws
import KE.OsHead
import KE.OsGo
import PySem.Challenge.RW_triesroom_s01_answers
set_option Elab.async false
set_option linter.all false
set_option maxRecDepth 100000
/-! THE HAND LAYER, for ints, bools, texts, own classes, lists, tuples, dicts, comprehensions, walks over dicts, enumerate, zip, reversed, texts, calls, loops. Paste it whole ahead of your own text; what your proof does not reach may be deleted. -/
namespace L2
open PySem PySem.Spec PyProof.Rows

/-- a key: an int or a str -/
abbrev Key := Sum Int Str
def keyIs : Key → Value → Bool
  | .inl k, v => Value.isInt k v
  | .inr x, v => Value.isStrOf x v
def keyH (w : World) : Key → Int
  | .inl k => hashInt k
  | .inr x => hashStr w x
theorem keyIs_shape : ∀ {k : Key} {v : Value}, keyIs k v = true → (∃ i t, k = Sum.inl i ∧ v = Value.int i t) ∨ (∃ x t, k = Sum.inr x ∧ v = Value.str x t)
  | .inl i, v, h => by
    obtain ⟨t, e⟩ := Value.isInt_shape (k := i) (v := v) h
    exact .inl ⟨i, t, rfl, e⟩
  | .inr x, v, h => by
    obtain ⟨t, e⟩ := Value.isStrOf_shape (x := x) (v := v) h
    exact .inr ⟨x, t, rfl, e⟩
theorem keyIs_int (i : Int) (t : Tok) : keyIs (.inl i) (.int i t) = true := by simp [keyIs, Value.isInt]
theorem keyIs_str (x : Str) (t : Tok) : keyIs (.inr x) (.str x t) = true := by simp [keyIs, Value.isStrOf]
theorem key_ll (a b : Int) : decide ((Sum.inl a : Key) = Sum.inl b) = (a == b) := by
  by_cases e : a = b
  · subst e; simp
  · have h : ¬ (Sum.inl a : Key) = Sum.inl b := fun q => e (Sum.inl.inj q)
    rw [decide_eq_false h]
    exact (beq_eq_false_iff_ne.mpr e).symm
theorem key_rr (a b : Str) : decide ((Sum.inr a : Key) = Sum.inr b) = decide (a = b) := by
  by_cases e : a = b
  · subst e; simp
  · have h : ¬ (Sum.inr a : Key) = Sum.inr b := fun q => e (Sum.inr.inj q)
    rw [decide_eq_false h, decide_eq_false e]
theorem key_lr (a : Int) (b : Str) : decide ((Sum.inl a : Key) = Sum.inr b) = false := decide_eq_false (fun q => nomatch q)
theorem key_rl (a : Str) (b : Int) : decide ((Sum.inr a : Key) = Sum.inl b) = false := decide_eq_false (fun q => nomatch q)

def mixKind (prog : Program) (w : World) : PySem.KeyKind prog w Key where
  is := keyIs
  hash := keyH w
  inj := fun v a b ha hb => by
    rcases keyIs_shape ha with ⟨i, t, rfl, rfl⟩ | ⟨x, t, rfl, rfl⟩
    · rcases keyIs_shape hb with ⟨j, u, rfl, e⟩ | ⟨y, u, rfl, e⟩
      · injection e with e1 _; rw [e1]
      · exact nomatch e
    · rcases keyIs_shape hb with ⟨j, u, rfl, e⟩ | ⟨y, u, rfl, e⟩
      · exact nomatch e
      · injection e with e1 _; rw [e1]
  byValue := fun k v h => by
    rcases keyIs_shape h with ⟨i, t, rfl, rfl⟩ | ⟨x, t, rfl, rfl⟩ <;> rfl
  pyHash := fun hv h => by
    rcases keyIs_shape hv with ⟨i, t, rfl, rfl⟩ | ⟨x, t, rfl, rfl⟩
    · exact wpAny_pyHash_int h
    · exact wpAny_pyHash_str h
  eqBool := fun hu hv h => by
    rcases keyIs_shape hu with ⟨i, t, rfl, rfl⟩ | ⟨x, t, rfl, rfl⟩
    · rcases keyIs_shape hv with ⟨j, u, rfl, rfl⟩ | ⟨y, u, rfl, rfl⟩
      · rw [key_ll] at h; exact wpAny_eqBool_int h
      · rw [key_lr] at h; exact SeqAt.EqAt.int_str i t y u _ _ _ _ h
    · rcases keyIs_shape hv with ⟨j, u, rfl, rfl⟩ | ⟨y, u, rfl, rfl⟩
      · rw [key_rl] at h; exact SeqAt.EqAt.str_int x t j u _ _ _ _ h
      · rw [key_rr] at h; exact wpAny_eqBool_str h
  «strs» := fun k x t v h => by
    rcases keyIs_shape h with ⟨i, u, rfl, e⟩ | ⟨y, u, rfl, e⟩
    · exact nomatch e
    · injection e with e1 _
      subst e1
      cases v <;> rfl

theorem mixKind_int (prog : Program) (w : World) (i : Int) (t : Tok) : (mixKind prog w).is (.inl i) (.int i t) = true := keyIs_int i t
theorem mixKind_str (prog : Program) (w : World) (x : Str) (t : Tok) : (mixKind prog w).is (.inr x) (.str x t) = true := keyIs_str x t
end L2

namespace L2
open PySem PySem.Spec PyProof.Rows

/-- a value, without the heap -/
inductive V where
  | non | bl (b : Bool) | int (i : Int) | str (x : Str) | byt (b : Array UInt8) | flt (b : UInt64) | ref (a : Addr) | ty (n : String)
  deriving DecidableEq

def RelV : V → Value → Prop
  | .non, u => u = Value.none
  | .bl b, u => u = Value.bool b
  | .int i, u => ∃ t, u = Value.int i t
  | .str x, u => ∃ t, u = Value.str x t
  | .byt b, u => ∃ t, u = Value.bytes b t
  | .flt b, u => ∃ t, u = Value.float b t
  | .ref a, u => u = Value.ref a
  | .ty n, u => u = Value.type n

abbrev Vals : List V → List Value → Prop := Paired RelV
theorem Vals.length {xs : List V} {us : List Value} (r : Vals xs us) : xs.length = us.length := Paired.length r
theorem Vals.get : ∀ {xs : List V} {us : List Value} {i : Nat} {x : V}, Vals xs us → xs[i]? = some x → ∃ u, us[i]? = some u ∧ RelV x u
  | _, _, _, _, .nil, e => by simp at e
  | _, _, 0, _, .cons r _, e => by simp at e; subst e; exact ⟨_, rfl, r⟩
  | _, _, i + 1, x, .cons _ t, e => by
    obtain ⟨u, h1, h2⟩ := Vals.get (i := i) (x := x) t (by simpa using e)
    exact ⟨u, by simpa using h1, h2⟩
theorem Vals.append : ∀ {xs ys : List V} {us ws : List Value}, Vals xs us → Vals ys ws → Vals (xs ++ ys) (us ++ ws)
  | _, _, _, _, .nil, s => s
  | _, _, _, _, .cons r t, s => .cons r (Vals.append t s)
theorem Vals.take : ∀ {xs : List V} {us : List Value} (n : Nat), Vals xs us → Vals (xs.take n) (us.take n)
  | _, _, 0, _ => .nil
  | _, _, _ + 1, .nil => .nil
  | _, _, n + 1, .cons r t => .cons r (Vals.take n t)
theorem Vals.drop : ∀ {xs : List V} {us : List Value} (n : Nat), Vals xs us → Vals (xs.drop n) (us.drop n)
  | _, _, 0, r => r
  | _, _, _ + 1, .nil => .nil
  | _, _, n + 1, .cons _ t => Vals.drop n t

def RelO : Option V → Option Value → Prop
  | some v, some u => RelV v u
  | none, none => True
  | _, _ => False
def KV {κ : Type} : List (κ × V) → List (κ × Value) → Prop := Paired fun (p : κ × V) (q : κ × Value) => p.1 = q.1 ∧ RelV p.2 q.2

/-- a key of a dict (00_mix): an int or a text -/
def kV : Key → V
  | .inl i => .int i
  | .inr x => .str x

/-- what stands at a tracked address -/
inductive HO where
  /-- a list -/
  | lst (xs : List V)
  /-- a tuple (never changes) -/
  | tup (xs : List V)
  /-- a dict whose keys are ints and texts; one whose keys are tuples of ints and texts (the empty one is both) -/
  | dK (kvs : List (Key × V)) | dT (kvs : List (List Key × V))
  /-- a set of ints: its members, its size -/
  | set (S : Int → Bool) (n : Nat)
  /-- an instance of the class at C, its dict at dx, its attributes -/
  | ins (C dx : Addr) (fs : List (Str × V))
  /-- the dict of the instance at x -/
  | own (x : Addr)
  /-- the dict of an exception -/
  | xd (fs : List (Str × V))
  /-- a bound method, f of x -/
  | met (f x : Addr)
  /-- a range object lo, lo + 1, .. below hi -/
  | rng (lo hi : Int)
  /-- a thing that is known to the object (the script; a dict while a loop walks it): read, never written while it is so -/
  | frz (o : Obj) (u : HO)
  /-- a code object's table -/
  | tbl (ps : Array Value)
  /-- any other thing, by what is true of its one object (a def of one's own: SetO a S n := HO.ext fun h => ..) -/
  | ext (φ : Heap → Prop)

abbrev Hp := Addr → Option HO
def upd (H : Hp) (a : Addr) (o : HO) : Hp := fun b => if b = a then some o else H b
theorem upd_same {H : Hp} {a : Addr} {o : HO} : upd H a o a = some o := by unfold upd; rw [if_pos rfl]
theorem upd_ne {H : Hp} {a b : Addr} {o : HO} (h : b ≠ a) : upd H a o b = H b := by unfold upd; rw [if_neg h]
/-- two objects of different content stand apart -/
theorem ne_of {H : Hp} {a b : Addr} {o u : HO} (h : H a = some o) (h' : H b = some u) (d : o ≠ u) : a ≠ b := by
  intro e; subst e; rw [h] at h'; exact d (Option.some.inj h')
theorem ne_of_none {H : Hp} {a b : Addr} {o : HO} (h : H a = some o) (h' : H b = none) : a ≠ b := by
  intro e; subst e; rw [h] at h'; cases h'

section
variable (P : Program) (w : World)
def ObjOk (H : Hp) (h : Heap) (a : Addr) : HO → Prop
  | .lst xs => xs.length ≤ sizeLine ∧ ∃ (its : List Value) (n : Nat), Vals xs its ∧ h.get? a = some { cls := .type "list", data := .seq its.toArray n }
  | .tup xs => xs.length ≤ sizeLine ∧ ∃ its : List Value, Vals xs its ∧ IsTup h a its.toArray
  | .dK kvs => kvs.length ≤ sizeLine ∧ (a == sysModules) = false ∧ ∃ vs, KV kvs vs ∧ h.DictOf (mixKind P w) a vs
  | .dT kvs => kvs.length ≤ sizeLine ∧ (a == sysModules) = false ∧ ∃ xs : List (List Key × Addr × Value),
      Paired (fun (p : List Key × V) (q : List Key × Addr × Value) => p.1 = q.1 ∧ H q.2.1 = some (.tup (p.1.map kV)) ∧ RelV p.2 q.2.2) kvs xs ∧
      ∃ o es ep, h.get? a = some o ∧ o.ExactDict ∧ o.data = .dict es ep ∧ es.toList = xs.map (entryOfKey (tupleKind (mixKind P w))) ∧ (xs.map (·.1)).Nodup
  | .set S n => h.SetOf (intKind P w) a S n
  | .ins C dx fs => H dx = some (.own a) ∧ fs.length ≤ 1000 ∧ dx ≠ a ∧ h.get? a = some (PySem.W.instObj C dx) ∧
      ∃ mA, h.Ns1 dx mA ∧ (∀ f, RelO (fs.lookup f) (mA f)) ∧ PySem.Within mA (fs.map (·.1))
  | .own _ => ∃ o, h.get? a = some o
  | .xd fs => ∃ mA, h.Ns1 a mA ∧ ∀ f, RelO (fs.lookup f) (mA f)
  | .rng lo hi => ∃ t u v, h.get? a = some { cls := .type "range", data := .fields #[.int lo t, .int hi u, .int 1 v] }
  | .frz o u => h.get? a = some o ∧ ObjOk H h a u
  | .tbl ps => h.get? a = some { cls := .none, data := .fields ps }
  | .met f x => h.get? a = some (PySem.W.methodObj (.ref f) (.ref x))
  | .ext φ => φ h ∧ (∃ o, h.get? a = some o) ∧ ∀ h1 h2 : Heap, φ h1 → (∀ o, h1.get? a = some o → h2.get? a = some o) → φ h2
/-- the abstract heap is held -/
def HOk (H : Hp) (h : Heap) : Prop := ∀ a o, H a = some o → ObjOk P w H h a o
end

section
variable {P : Program} {w : World} {H H' : Hp} {h h' : Heap} {a : Addr} {o : HO}
theorem ObjOk.lt (x : ObjOk P w H h a o) : a < h.objs.size := by
  cases o with
  | lst xs => obtain ⟨_, _, _, _, e⟩ := x; exact Heap.lt_size e
  | tup xs => obtain ⟨_, _, _, p⟩ := x; exact p.lt
  | dK kvs => obtain ⟨_, _, _, _, o, _, _, e, _⟩ := x; exact Heap.lt_size e
  | dT kvs => obtain ⟨_, _, _, _, o, _, _, e, _⟩ := x; exact Heap.lt_size e
  | set S n => obtain ⟨o, _, _, _, e, _⟩ := x; exact Heap.lt_size e
  | ins C dx fs => obtain ⟨_, _, _, e, _⟩ := x; exact Heap.lt_size e
  | own y => obtain ⟨_, e⟩ := x; exact Heap.lt_size e
  | xd fs => obtain ⟨_, ⟨_, _, _, e, _⟩, _⟩ := x; exact Heap.lt_size e
  | rng lo hi => obtain ⟨_, _, _, e⟩ := x; exact Heap.lt_size e
  | frz ob u => obtain ⟨e, _⟩ := x; exact Heap.lt_size e
  | tbl ps => exact Heap.lt_size (show h.get? a = some _ from x)
  | met f y => exact Heap.lt_size (show h.get? a = some _ from x)
  | ext φ => obtain ⟨_, ⟨_, e⟩, _⟩ := x; exact Heap.lt_size e
theorem Paired.mapP {α β : Type} {F G : α → β → Prop} : ∀ {l₁ : List α} {l₂ : List β}, Paired F l₁ l₂ → (∀ a b, F a b → G a b) → Paired G l₁ l₂
  | _, _, .nil, _ => .nil
  | _, _, .cons r t, f => .cons (f _ _ r) (Paired.mapP t f)
/-- what an object's description leans on: its own object, its own dict, the tuples -/
theorem ObjOk.stay (x : ObjOk P w H h a o) (k : ∀ b u, (b = a ∨ H b = some (.own a)) → h.get? b = some u → h'.get? b = some u)
    (ho : ∀ b, H b = some (.own a) → H' b = some (.own a)) (ht : ∀ b xs, H b = some (.tup xs) → H' b = some (.tup xs)) : ObjOk P w H' h' a o := by
  induction o with
  | lst xs => obtain ⟨z, its, n, r, e⟩ := x; exact ⟨z, its, n, r, k _ _ (.inl rfl) e⟩
  | tup xs => obtain ⟨z, its, r, ob, e, c⟩ := x; exact ⟨z, its, r, ob, k _ _ (.inl rfl) e, c⟩
  | dK kvs => obtain ⟨z, y, vs, r, ob, es, ep, e, c⟩ := x; exact ⟨z, y, vs, r, ob, es, ep, k _ _ (.inl rfl) e, c⟩
  | dT kvs =>
    obtain ⟨z, y, xs, r, ob, es, ep, e, c⟩ := x
    exact ⟨z, y, xs, Paired.mapP r fun p q z => ⟨z.1, ht _ _ z.2.1, z.2.2⟩, ob, es, ep, k _ _ (.inl rfl) e, c⟩
  | set S n => obtain ⟨ob, es, ep, t, e, c⟩ := x; exact ⟨ob, es, ep, t, k _ _ (.inl rfl) e, c⟩
  | ins C dx fs =>
    obtain ⟨d, z, ne, e, mA, ⟨od, es, ep, e2, c⟩, r⟩ := x
    exact ⟨ho _ d, z, ne, k _ _ (.inl rfl) e, mA, ⟨od, es, ep, k _ _ (.inr d) e2, c⟩, r⟩
  | own y => obtain ⟨ob, e⟩ := x; exact ⟨ob, k _ _ (.inl rfl) e⟩
  | xd fs => obtain ⟨mA, ⟨od, es, ep, e, c⟩, r⟩ := x; exact ⟨mA, ⟨od, es, ep, k _ _ (.inl rfl) e, c⟩, r⟩
  | rng lo hi => obtain ⟨t, u, v, e⟩ := x; exact ⟨t, u, v, k _ _ (.inl rfl) e⟩
  | frz ob u ih => obtain ⟨e, q⟩ := x; exact ⟨k _ _ (.inl rfl) e, ih q⟩
  | tbl ps =>
    have e : h.get? a = some { cls := .none, data := .fields ps } := x
    show h'.get? a = some { cls := .none, data := .fields ps }
    exact k a _ (.inl rfl) e
  | met f y =>
    have e : h.get? a = some (PySem.W.methodObj (.ref f) (.ref y)) := x
    show h'.get? a = some (PySem.W.methodObj (.ref f) (.ref y))
    exact k a _ (.inl rfl) e
  | ext φ => obtain ⟨p, ⟨o, e⟩, st⟩ := x; exact ⟨st _ _ p fun o q => k _ _ (.inl rfl) q, ⟨o, k _ _ (.inl rfl) e⟩, st⟩
theorem HOk.lt (x : HOk P w H h) (e : H a = some o) : a < h.objs.size := (x a o e).lt
theorem HOk.fresh (x : HOk P w H h) (e : h.objs.size ≤ a) : H a = none := by
  cases q : H a with
  | none => rfl
  | some u => exact absurd (Nat.lt_of_lt_of_le (x.lt q) e) (Nat.lt_irrefl _)
/-- every object of the heap is kept -/
theorem HOk.kept (x : HOk P w H h) (k : ∀ b u, h.get? b = some u → h'.get? b = some u) : HOk P w H h' := fun a o e =>
  (x a o e).stay (fun b u _ q => k b u q) (fun _ q => q) fun _ _ q => q
/-- a new object is laid and tracked -/
theorem HOk.laid (x : HOk P w H h) (k : ∀ b u, h.get? b = some u → h'.get? b = some u) (hp : h.objs.size ≤ a) (new : ObjOk P w (upd H a o) h' a o) : HOk P w (upd H a o) h' := fun b u e => by
  have hn := x.fresh hp
  by_cases hb : b = a
  · subst hb; rw [upd_same] at e; cases e; exact new
  · rw [upd_ne hb] at e
    exact (x b u e).stay (fun c v _ q => k c v q) (fun c q => by rw [upd_ne (ne_of_none q hn)]; exact q) fun c xs q => by rw [upd_ne (ne_of_none q hn)]; exact q
end

/-- what may be read as u: it is u, or a known u -/
def Rd (H : Hp) (a : Addr) (u : HO) : Prop := H a = some u ∨ ∃ o, H a = some (.frz o u)
theorem Rd.ok {P : Program} {w : World} {H : Hp} {h : Heap} {a : Addr} {u : HO} (r : Rd H a u) (x : HOk P w H h) : ObjOk P w H h a u := by
  rcases r with r | ⟨o, r⟩
  · exact x a u r
  · obtain ⟨_, q⟩ := x a _ r
    exact q
/-- what may be written -/
def Mut : Option HO → Prop
  | some (.lst _) => True
  | some (.dK _) => True
  | some (.dT _) => True
  | some (.set _ _) => True
  | some (.ins _ _ _) => True
  | some (.ext _) => True
  | _ => False
section
variable {P : Program} {w : World} {H : Hp} {h h' : Heap} {x e : Addr} {o' : HO}
/-- the object at e is changed: x itself, or the dict of the instance x -/
theorem HOk.write (ok : HOk P w H h) (mu : Mut (H x)) (he : e = x ∨ H e = some (.own x)) (k : ∀ b u, b ≠ e → h.get? b = some u → h'.get? b = some u) (heo : ∃ u, h'.get? e = some u)
    (new : ObjOk P w (upd H x o') h' x o') : HOk P w (upd H x o') h' := fun b u q => by
  have nown : ∀ c y, H c = some (.own y) → c ≠ x := fun c y r z => by subst z; rw [r] at mu; exact mu
  have ntup : ∀ c xs, H c = some (.tup xs) → c ≠ x := fun c xs r z => by subst z; rw [r] at mu; exact mu
  by_cases hb : b = x
  · subst hb; rw [upd_same] at q; cases q; exact new
  · rw [upd_ne hb] at q
    by_cases hbe : b = e
    · have q' : H b = some (.own x) := by
        rcases he with z | z
        · exact absurd (hbe.trans z) hb
        · rw [hbe]; exact z
      rw [q] at q'; cases q'
      obtain ⟨v, hv⟩ := heo
      exact ⟨v, by rw [hbe]; exact hv⟩
    · refine (ok b u q).stay (fun c v hc r => k c v ?_ r) (fun c r => by rw [upd_ne (nown c b r)]; exact r) fun c xs r => by rw [upd_ne (ntup c xs r)]; exact r
      rcases hc with rfl | hc
      · exact hbe
      · rintro rfl
        rcases he with z | z
        · exact nown c b hc z
        · rw [hc] at z; cases z; exact hb rfl
end

/-! ### kept unless tracked; of the frames at fs (the callers') the slots may change (an exception that passes writes there); of the records at ex (iterators) nothing is said -/
structure Un (fs ex : List Addr) (H H' : Hp) (h h' : Heap) : Prop where
  keep : ∀ b o, h.get? b = some o → H b = none → b ∉ fs → b ∉ ex → h'.get? b = some o
  slot : ∀ b o, h.get? b = some o → H b = none → b ∈ fs → b ∉ ex → ∃ sl, h'.get? b = some { o with slots := sl }
  free : ∀ b o, h.get? b = some o → H b = none → b ∉ ex → H' b = none
  there : ∀ b o, h.get? b = some o → b ∉ ex → ∃ o', h'.get? b = some o'
  tups : ∀ b xs, H b = some (.tup xs) → H' b = some (.tup xs)
  frzs : ∀ b o u, H b = some (.frz o u) → H' b = some (.frz o u)
  tbls : ∀ b ps, H b = some (.tbl ps) → ∃ more, H' b = some (.tbl (ps ++ more))
section
variable {fs fs' ex ex' : List Addr} {H H1 H2 : Hp} {h h1 h2 h' : Heap} {a x e : Addr} {o : HO}
theorem Un.any (u : Un fs ex H H1 h h1) {b : Addr} {ob : Obj} (q : h.get? b = some ob) (n : H b = none) (hx : b ∉ ex) : ∃ sl, h1.get? b = some { ob with slots := sl } := by
  by_cases hb : b ∈ fs
  · exact u.slot b ob q n hb hx
  · exact ⟨ob.slots, u.keep b ob q n hb hx⟩
theorem Un.kept (k : ∀ b u, h.get? b = some u → h'.get? b = some u) : Un fs ex H H h h' :=
  ⟨fun b ob q _ _ _ => k b ob q, fun b ob q _ _ _ => ⟨ob.slots, k b ob q⟩, fun _ _ _ n _ => n, fun b ob q _ => ⟨ob, k b ob q⟩, fun _ _ q => q, fun _ _ _ q => q, fun _ ps q => ⟨#[], by rw [q]; simp⟩⟩
theorem Un.refl : Un fs ex H H h h := Un.kept fun _ _ q => q
theorem Un.laid (k : ∀ b u, h.get? b = some u → h'.get? b = some u) (hp : h.objs.size ≤ a) (hn : H a = none) : Un fs ex H (upd H a o) h h' where
  keep := fun b u q _ _ _ => k b u q
  slot := fun b u q _ _ _ => ⟨u.slots, k b u q⟩
  free := fun b u q n _ => by rw [upd_ne (Nat.ne_of_lt (Nat.lt_of_lt_of_le (Heap.lt_size q) hp))]; exact n
  there := fun b u q _ => ⟨u, k b u q⟩
  tups := fun b xs q => by rw [upd_ne (ne_of_none q hn)]; exact q
  frzs := fun b u xs q => by rw [upd_ne (ne_of_none q hn)]; exact q
  tbls := fun b ps q => ⟨#[], by rw [upd_ne (ne_of_none q hn), q]; simp⟩
theorem Un.write (mu : Mut (H x)) (he : e = x ∨ H e = some (.own x)) (k : ∀ b u, b ≠ e → h.get? b = some u → h'.get? b = some u) (heo : ∃ u, h'.get? e = some u) : Un fs ex H (upd H x o) h h' := by
  have hx : ∀ b, H b = none → b ≠ x := fun b n z => by subst z; rw [n] at mu; exact mu
  have hb : ∀ b, H b = none → b ≠ e := fun b n z => by
    subst z
    rcases he with r | r
    · exact hx b n r
    · rw [n] at r; cases r
  have hm : ∀ b u, H b = some u → ¬ Mut (some u) → b ≠ x := fun b u q nm z => by subst z; rw [q] at mu; exact nm mu
  refine ⟨fun b u q n _ _ => k b u (hb b n) q, fun b u q n _ _ => ⟨u.slots, k b u (hb b n) q⟩, fun b u q n _ => by rw [upd_ne (hx b n)]; exact n, fun b u q _ => ?_,
    fun b xs q => by rw [upd_ne (hm b _ q fun z => z)]; exact q, fun b u xs q => by rw [upd_ne (hm b _ q fun z => z)]; exact q, fun b ps q => ⟨#[], by rw [upd_ne (hm b _ q fun z => z), q]; simp⟩⟩
  by_cases hbe : b = e
  · subst hbe; exact heo
  · exact ⟨u, k b u hbe q⟩
end

/-! ### the heap without what is tracked -/
def trk (h : Heap) (H : Hp) : List Addr := (List.range h.objs.size).filter fun a => (H a).isSome
def hidT (h : Heap) (H : Hp) : Heap := PySem.W.hideAll h (trk h H)
theorem hidT_size (h : Heap) (H : Hp) : (hidT h H).objs.size = h.objs.size := PySem.W.hideAll_size _ _
theorem hidT_get {h : Heap} {H : Hp} {b : Addr} {o : Obj} (e : h.get? b = some o) (n : H b = none) : (hidT h H).get? b = some o :=
  PySem.W.hideAll_get _ e fun hm => by
    have q : (H b).isSome = true := (List.mem_filter.mp hm).2
    rw [n] at q; simp at q
theorem of_hidT {h : Heap} {H : Hp} {b : Addr} {o : Obj} (e : (hidT h H).get? b = some o) : h.get? b = some o ∧ H b = none := by
  have e' : h.get? b = some o := PySem.W.of_hideAll (trk h H) e
  refine ⟨e', ?_⟩
  cases q : H b with
  | none => rfl
  | some x =>
    have hm : b ∈ trk h H := List.mem_filter.mpr ⟨List.mem_range.mpr (Heap.lt_size e'), by simp [q]⟩
    have z : (hidT h H).get? b = none := PySem.W.hideAll_none (trk h H) hm
    rw [z] at e; cases e

/-! ### OpenK's ledger, filled with every new object but one -/
end L2

namespace L2
open PySem PySem.Spec PyProof.Rows

/-- the module's facts, over the base: the heap at the law's entry without what is tracked there -/
structure Mod (K : PySem.W.Frag) (mg : Str → Option Value) (base : Heap) : Prop where
  kin : K.In base
  glob : base.Ns mainGlobals mg
  blt : ∃ mb, base.Ns builtinsNs mb ∧ ∀ x : Str, x ≠ "__name__" → mb x = bootBuiltins x
  nolimit : base.NoLimit

/-- the context: a def's body (or a comprehension's block) running. base: fixed through the whole law; s₀, H₀: the entry; outer: the frames whose slots others may change (a def's callers); stack: all frames that run;
   ex: iterators that were made ahead of the entry and are walked here (a comprehension's); fn: the names whose cells were made at the entry (a def: all; a comprehension's block: its own); calm: not within an except suite; pn: pins that every state bears; xe: what is wanted of an exception that leaves the code -/
structure Cx where
  prog : Program
  w : World
  K : PySem.W.Frag
  mg : Str → Option Value
  base : Heap
  A : Around
  N : List Str
  s_0 : Shared
  H_0 : Hp
  env : Env
  outer : List Env
  stack : List Env
  ex : List Addr
  fn : Str → Bool
  calm : Bool
  pn : List (Addr × Obj)
  xe : Value → Shared → Prop
/-- the callers' frames -/
def frs (l : List Env) : List Addr := l.filterMap (·.frame)
abbrev Cx.fs (X : Cx) : List Addr := frs X.outer

def Vis (sc : Scope) (x : Str) : Prop := sc.names.lookup x = some .local ∨ sc.names.lookup x = some .cell ∨ sc.names.lookup x = some .free
def Loc (sc : Scope) (x : Str) : Prop := sc.names.lookup x = some .local ∨ sc.names.lookup x = some .cell
def Look (env : Env) (h : Heap) (m : Str → Option Value) (x : Str) (u : Value) : Prop :=
  (env.kindOf x = some .local ∧ m x = some u) ∨ ((env.kindOf x = some .cell ∨ env.kindOf x = some .free) ∧ ∃ c, env.cells.lookup x = some c ∧ h.IsCell c (some u))

structure Cx.Ok (X : Cx) : Prop where
  mod : Mod X.K X.mg X.base
  kind : X.env.scope.kind = .function
  glob : X.env.globals = mainGlobals
  blt : X.env.builtins = builtinsNs
  above : X.s_0.heap.objs.size ≤ X.env.locals
  inj : ∀ x y c, X.env.cells.lookup x = some c → X.env.cells.lookup y = some c → x = y
  has : ∀ x, (X.env.kindOf x = some .cell ∨ X.env.kindOf x = some .free) → ∃ c, X.env.cells.lookup x = some c
  cab : ∀ x c, X.fn x = true → X.env.cells.lookup x = some c → X.s_0.heap.objs.size ≤ c
  hd : X.calm = true → X.A.handled = none
  frames : X.A.frames = some X.stack
  stk : X.stack = X.outer ∨ (X.stack = X.env :: X.outer ∧ X.env.frame = some X.env.locals)
  exf : ∀ b ∈ X.ex, b ≠ X.env.locals ∧ ∀ x c, X.env.cells.lookup x = some c → c ≠ b
  bs : ∀ b o, X.base.get? b = some o → X.s_0.heap.get? b = some o ∧ X.H_0 b = none
  bsz : X.base.objs.size ≤ X.s_0.heap.objs.size
  noex : ∀ b o, X.base.get? b = some o → b ∉ X.ex
  exfs : ∀ b ∈ X.ex, b ∉ X.fs
  funs : X.s_0.heap.FunFrames X.base X.outer
  frf : ∀ b ∈ X.fs, X.H_0 b = none

structure Inv (X : Cx) (pins : List (Addr × Obj)) (σ : List (Option V)) (H : Hp) (s : Shared) : Prop where
  ok : X.Ok
  os : s.os = X.s_0.os
  bare : AllBare s.gens
  base : Un X.fs X.ex X.H_0 H X.s_0.heap s.heap
  loc : ∃ m, s.heap.Ns X.env.locals m ∧ ∀ (i : Nat) (x : Str) (v : V), X.N[i]? = some x → σ[i]? = some (some v) → Vis X.env.scope x → ∃ u, RelV v u ∧ Look X.env s.heap m x u
  cell : ∀ x c, X.env.cells.lookup x = some c → ∃ v, s.heap.IsCell c v
  free : H X.env.locals = none
  freeC : ∀ x c, X.env.cells.lookup x = some c → H c = none
  pin : ∀ p ∈ X.pn ++ pins, s.heap.get? p.1 = some p.2 ∧ H p.1 = none ∧ p.1 ≠ X.env.locals ∧ p.1 ∉ X.fs ∧ ∀ v, p.2.data ≠ .cell v
  hok : HOk X.prog X.w H s.heap
  len : σ.length = X.N.length

section
variable {X : Cx} {pins : List (Addr × Obj)} {σ : List (Option V)} {H H' : Hp} {s : Shared} {h' : Heap}

theorem Cx.Ok.nofr (ok : X.Ok) {b : Addr} {o : Obj} (e : X.base.get? b = some o) : b ∉ X.fs := fun hb => by
  have := (ok.funs.mem hb).1
  rw [e] at this; cases this
theorem Inv.bs (I : Inv X pins σ H s) : ∀ b o, X.base.get? b = some o → s.heap.get? b = some o ∧ H b = none := fun b o e =>
  ⟨I.base.keep b o (I.ok.bs b o e).1 (I.ok.bs b o e).2 (I.ok.nofr e) (I.ok.noex b o e), I.base.free b o (I.ok.bs b o e).1 (I.ok.bs b o e).2 (I.ok.noex b o e)⟩
theorem Inv.bk (I : Inv X pins σ H s) : ∀ b o, X.base.get? b = some o → s.heap.get? b = some o := fun b o e => (I.bs b o e).1
theorem Inv.mod (I : Inv X pins σ H s) : Mod X.K X.mg X.base := I.ok.mod
theorem Inv.kIn (I : Inv X pins σ H s) : X.K.In s.heap := I.ok.mod.kin.keeps I.bk
theorem Inv.lt (I : Inv X pins σ H s) : X.env.locals < s.heap.objs.size := let ⟨_, hn, _⟩ := I.loc; hn.lt
theorem Inv.sz (I : Inv X pins σ H s) : X.s_0.heap.objs.size ≤ s.heap.objs.size := Nat.le_trans I.ok.above (Nat.le_of_lt I.lt)
theorem Inv.nofs (I : Inv X pins σ H s) {a : Addr} (h : s.heap.objs.size ≤ a) : a ∉ X.fs := fun hb => by
  obtain ⟨_, o, ho, _⟩ := I.ok.funs.mem hb
  exact absurd (Nat.lt_of_lt_of_le (Heap.lt_size ho) (Nat.le_trans I.sz h)) (Nat.lt_irrefl _)
theorem Inv.cne (I : Inv X pins σ H s) : ∀ x c, X.env.cells.lookup x = some c → c ≠ X.env.locals := fun x c e z => by
  obtain ⟨v, o, ho, hd⟩ := I.cell x c e
  obtain ⟨m, ⟨o', es, ep, ho', hd', _⟩, _⟩ := I.loc
  rw [z, ho'] at ho; cases ho; rw [hd'] at hd; cases hd
theorem Inv.funs (I : Inv X pins σ H s) : s.heap.FunFrames X.base X.outer := by
  have all : ∀ (l : List Env), (∀ b ∈ frs l, b ∈ X.fs) → X.s_0.heap.FunFrames X.base l → s.heap.FunFrames X.base l := by
    intro l
    induction l with
    | nil => intro _ _; trivial
    | cons env r ih =>
      intro hs hl
      obtain ⟨hk, ⟨L, o, hf, hn, ho, hd⟩, hr⟩ := hl
      have hL : L ∈ X.fs := hs L (by unfold frs; rw [List.filterMap_cons, hf]; exact List.mem_cons_self)
      obtain ⟨sl, e⟩ := I.base.slot L o ho (I.ok.frf L hL) hL fun z => I.ok.exfs L z hL
      exact ⟨hk, ⟨L, _, hf, hn, e, hd⟩, ih (fun b hb => hs b (by unfold frs; rw [List.filterMap_cons, hf]; exact List.mem_cons_of_mem _ hb)) hr⟩
  exact all X.outer (fun _ hb => hb) I.ok.funs

/-- the frames that run, for a call -/
theorem Inv.stack (I : Inv X pins σ H s) : s.heap.FunFrames X.base X.stack := by
  rcases I.ok.stk with e | ⟨e, hf⟩
  · rw [e]; exact I.funs
  · rw [e]
    obtain ⟨m, hn, _⟩ := I.loc
    refine .cons (by rw [I.ok.kind]; decide) hf hn ?_ I.funs
    exact Heap.get?_none_of_le (Nat.le_trans I.ok.bsz I.ok.above)
theorem Inv.stkSub (I : Inv X pins σ H s) : ∀ b ∈ frs X.stack, b ∈ X.env.locals :: X.fs := fun b hb => by
  rcases I.ok.stk with e | ⟨e, hf⟩
  · rw [e] at hb; exact List.mem_cons_of_mem _ hb
  · rw [e] at hb
    unfold frs at hb
    rw [List.filterMap_cons, hf] at hb
    exact hb
theorem Inv.stkFree (I : Inv X pins σ H s) : ∀ b ∈ frs X.stack, H b = none := fun b hb => by
  rcases List.mem_cons.mp (I.stkSub b hb) with e | hb
  · rw [e]; exact I.free
  · obtain ⟨_, o, ho, _⟩ := I.ok.funs.mem hb
    exact I.base.free b o ho (I.ok.frf b hb) fun z => I.ok.exfs b z hb

/-- THE STEP: the untracked objects but the frame and the records at ch are kept (the callers' frames up to slots), the frame's map is kept, the new abstract heap is held -/
theorem Inv.step {g' : Array GenState} {t' : Nat} {d' : Drawn} {ch : List Addr} (I : Inv X pins σ H s)
    (hch : ∀ b ∈ ch, (b ∈ X.ex ∨ X.s_0.heap.objs.size ≤ b) ∧ b ≠ X.env.locals ∧ (∀ x c, X.env.cells.lookup x = some c → c ≠ b) ∧ ∀ p ∈ X.pn ++ pins, p.1 ≠ b)
    (keep : ∀ b o, b ≠ X.env.locals → b ∉ X.fs → b ∉ ch → s.heap.get? b = some o → H b = none → h'.get? b = some o)
    (slot : ∀ b o, b ≠ X.env.locals → b ∈ X.fs → b ∉ ch → s.heap.get? b = some o → H b = none → ∃ sl, h'.get? b = some { o with slots := sl }) (free : ∀ b o, b ∉ ch → s.heap.get? b = some o → H b = none → H' b = none)
    (there : ∀ b o, b ∉ ch → s.heap.get? b = some o → ∃ o', h'.get? b = some o')
    (tups : ∀ b xs, H b = some (.tup xs) → H' b = some (.tup xs)) (frzs : ∀ b o u, H b = some (.frz o u) → H' b = some (.frz o u)) (tbls : ∀ b ps, H b = some (.tbl ps) → ∃ more, H' b = some (.tbl (ps ++ more)))
    (ns : ∀ m, s.heap.Ns X.env.locals m → h'.Ns X.env.locals m) (hok : HOk X.prog X.w H' h') (hg : AllBare g') :
    Inv X pins σ H' { s with heap := h', gens := g', drawn := d', toks := t' } := by
  have neL : ∀ b o, X.s_0.heap.get? b = some o → b ≠ X.env.locals := fun b o e => Nat.ne_of_lt (Nat.lt_of_lt_of_le (Heap.lt_size e) I.ok.above)
  have neC : ∀ b o, X.s_0.heap.get? b = some o → b ∉ X.ex → b ∉ ch := fun b o e hx hb => by
    rcases (hch b hb).1 with z | z
    · exact hx z
    · exact absurd (Nat.lt_of_lt_of_le (Heap.lt_size e) z) (Nat.lt_irrefl _)
  have cellK : ∀ x c, X.env.cells.lookup x = some c → ∀ v, s.heap.IsCell c v → h'.IsCell c v := fun x c e v ⟨o, ho, hd⟩ => by
    have nch : c ∉ ch := fun z => (hch c z).2.2.1 x c e rfl
    by_cases hc : c ∈ X.fs
    · obtain ⟨sl, q⟩ := slot c o (I.cne x c e) hc nch ho (I.freeC x c e)
      exact ⟨_, q, hd⟩
    · exact ⟨o, keep c o (I.cne x c e) hc nch ho (I.freeC x c e), hd⟩
  refine ⟨I.ok, I.os, hg, ⟨fun b o e n hb hx => ?_, fun b o e n hb hx => ?_, fun b o e n hx => ?_, fun b o e hx => ?_, fun b xs e => tups b xs (I.base.tups b xs e), fun b o xs e => frzs b o xs (I.base.frzs b o xs e), fun b ps e => ?_⟩, ?_, fun x c e => ?_, ?_, fun x c e => ?_, fun p hp => ?_, hok, I.len⟩
  · exact keep b o (neL b o e) hb (neC b o e hx) (I.base.keep b o e n hb hx) (I.base.free b o e n hx)
  · obtain ⟨sl, e1⟩ := I.base.slot b o e n hb hx
    obtain ⟨sl', e2⟩ := slot b _ (neL b o e) hb (neC b o e hx) e1 (I.base.free b o e n hx)
    exact ⟨sl', e2⟩
  · obtain ⟨o', e1⟩ := I.base.there b o e hx
    exact free b o' (neC b o e hx) e1 (I.base.free b o e n hx)
  · obtain ⟨o', e1⟩ := I.base.there b o e hx
    exact there b o' (neC b o e hx) e1
  · obtain ⟨m1, e1⟩ := I.base.tbls b ps e
    obtain ⟨m2, e2⟩ := tbls b _ e1
    exact ⟨m1 ++ m2, by rw [e2, Array.append_assoc]⟩
  · obtain ⟨m, hn, hl⟩ := I.loc
    refine ⟨m, ns m hn, fun i x v e1 e2 e3 => ?_⟩
    obtain ⟨u, r, l⟩ := hl i x v e1 e2 e3
    refine ⟨u, r, ?_⟩
    rcases l with l | ⟨k, c, e, z⟩
    · exact .inl l
    · exact .inr ⟨k, c, e, cellK x c e _ z⟩
  · obtain ⟨v, z⟩ := I.cell x c e
    exact ⟨v, cellK x c e v z⟩
  · obtain ⟨m, ⟨o, _, _, ho, _⟩, _⟩ := I.loc
    exact free _ o (fun z => (hch _ z).2.1 rfl) ho I.free
  · obtain ⟨v, o, ho, hd⟩ := I.cell x c e
    exact free c o (fun z => (hch c z).2.2.1 x c e rfl) ho (I.freeC x c e)
  · obtain ⟨e, n, ne, nf, d⟩ := I.pin p hp
    have nch : p.1 ∉ ch := fun z => (hch p.1 z).2.2.2 p hp rfl
    exact ⟨keep p.1 p.2 ne nf nch e n, free p.1 p.2 nch e n, ne, nf, d⟩
/-- .. where the frame's own object is kept too -/
theorem Inv.un {t' : Nat} (I : Inv X pins σ H s) (u : Un X.fs [] H H' s.heap h') (hok : HOk X.prog X.w H' h') : Inv X pins σ H' { s with heap := h', toks := t' } := by
  obtain ⟨m, ⟨o, es, ep, ho, r⟩, _⟩ := id I.loc
  obtain ⟨sl, hL⟩ := u.any ho I.free (by simp)
  exact I.step (g' := s.gens) (d' := s.drawn) (ch := []) (fun _ z => nomatch z) (fun b o _ hb _ e n => u.keep b o e n hb (by simp)) (fun b o _ hb _ e n => u.slot b o e n hb (by simp)) (fun b o _ e n => u.free b o e n (by simp)) (fun b o _ e => u.there b o e (by simp)) u.tups u.frzs u.tbls (fun m' hm => by
    obtain ⟨o', es', ep', ho', r'⟩ := hm
    rw [ho] at ho'; cases ho'
    exact ⟨_, es', ep', hL, r'⟩) hok I.bare
/-- behind a call (or a comprehension's block): the slots of this frame may have changed too, the records at ch may have turned -/
theorem Inv.call {g' : Array GenState} {t' : Nat} {d' : Drawn} {ch : List Addr} (I : Inv X pins σ H s) (u : Un (frs X.stack) ch H H' s.heap h') (hok : HOk X.prog X.w H' h') (hg : AllBare g')
    (hch : ∀ b ∈ ch, (b ∈ X.ex ∨ X.s_0.heap.objs.size ≤ b) ∧ b ≠ X.env.locals ∧ (∀ x c, X.env.cells.lookup x = some c → c ≠ b) ∧ ∀ p ∈ X.pn ++ pins, p.1 ≠ b) :
    Inv X pins σ H' { s with heap := h', gens := g', drawn := d', toks := t' } := by
  obtain ⟨m, ⟨o, es, ep, ho, r⟩, _⟩ := id I.loc
  obtain ⟨sl, hL⟩ := u.any ho I.free fun z => (hch _ z).2.1 rfl
  exact I.step (ch := ch) hch (fun b o hL hb hc e n => u.keep b o e n (fun z => (List.mem_cons.mp (I.stkSub b z)).elim hL hb) hc) (fun b o _ _ hc e n => u.any e n hc) (fun b o hc e n => u.free b o e n hc) (fun b o hc e => u.there b o e hc) u.tups u.frzs u.tbls (fun m' hm => by
    obtain ⟨o', es', ep', ho', r'⟩ := hm
    rw [ho] at ho'; cases ho'
    exact ⟨_, es', ep', hL, r'⟩) hok hg
/-- an untracked record of ours (an iterator) has turned -/
theorem Inv.turned {t' : Nat} {it : Addr} (I : Inv X pins σ H s) (k : ∀ b o, b ≠ it → s.heap.get? b = some o → h'.get? b = some o) (hn : H it = none) (hL : it ≠ X.env.locals)
    (h1 : it ∈ X.ex ∨ X.s_0.heap.objs.size ≤ it) (h2 : ∀ x c, X.env.cells.lookup x = some c → c ≠ it) (h3 : ∀ p ∈ X.pn ++ pins, p.1 ≠ it) : Inv X pins σ H { s with heap := h', toks := t' } := by
  have nit : ∀ b u, H b = some u → b ≠ it := fun b u e z => by rw [z, hn] at e; cases e
  refine I.step (g' := s.gens) (d' := s.drawn) (ch := [it]) (fun b hb => ?_) (fun b o _ _ hc e _ => k b o (fun z => hc (by simp [z])) e) (fun b o _ _ hc e _ => ⟨o.slots, k b o (fun z => hc (by simp [z])) e⟩) (fun _ _ _ _ n => n)
    (fun b o hc e => ⟨o, k b o (fun z => hc (by simp [z])) e⟩) (fun _ _ e => e) (fun _ _ _ e => e) (fun b ps e => ⟨#[], by rw [e]; simp⟩) (fun m hm => ?_) (fun b u e => ?_) I.bare
  · have e : b = it := by simpa using hb
    subst e
    exact ⟨h1, hL, h2, h3⟩
  · obtain ⟨o, es, ep, ho, r⟩ := hm
    exact ⟨o, es, ep, k _ o (Ne.symm hL) ho, r⟩
  · refine (I.hok b u e).stay (fun c v hc q => k c v ?_ q) (fun _ q => q) fun _ _ q => q
    rcases hc with z | z
    · rw [z]; exact nit b u e
    · exact nit c _ z
theorem Inv.tok (I : Inv X pins σ H s) (t : Nat) : Inv X pins σ H { s with toks := t } := I.un (h' := s.heap) (t' := t) Un.refl I.hok
/-- all objects kept -/
theorem Inv.kept {t' : Nat} (I : Inv X pins σ H s) (k : ∀ b u, s.heap.get? b = some u → h'.get? b = some u) : Inv X pins σ H { s with heap := h', toks := t' } := I.un (Un.kept k) (I.hok.kept k)
/-- a new object laid and tracked -/
theorem Inv.laid {a : Addr} {o : HO} {t' : Nat} (I : Inv X pins σ H s) (k : ∀ b u, s.heap.get? b = some u → h'.get? b = some u) (hp : s.heap.objs.size ≤ a) (new : ObjOk X.prog X.w (upd H a o) h' a o) :
    Inv X pins σ (upd H a o) { s with heap := h', toks := t' } := I.un (Un.laid k hp (I.hok.fresh hp)) (I.hok.laid k hp new)
/-- an object written -/
theorem Inv.write {x e : Addr} {o : HO} {t' : Nat} (I : Inv X pins σ H s) (mu : Mut (H x)) (he : e = x ∨ H e = some (.own x)) (k : ∀ b u, b ≠ e → s.heap.get? b = some u → h'.get? b = some u) (heo : ∃ u, h'.get? e = some u)
    (new : ObjOk X.prog X.w (upd H x o) h' x o) : Inv X pins σ (upd H x o) { s with heap := h', toks := t' } := I.un (Un.write mu he k heo) (I.hok.write mu he k heo new)
/-- forgetting slots, pins -/
theorem Inv.weak {σ' : List (Option V)} (I : Inv X pins σ H s) (hl : σ'.length = σ.length) (w : ∀ (i : Nat) v, σ'[i]? = some (some v) → σ[i]? = some (some v)) : Inv X pins σ' H s :=
  ⟨I.ok, I.os, I.bare, I.base, let ⟨m, hn, hl'⟩ := I.loc; ⟨m, hn, fun i x v e1 e2 e3 => hl' i x v e1 (w i v e2) e3⟩, I.cell, I.free, I.freeC, I.pin, I.hok, hl.trans I.len⟩
theorem Inv.pins_of {pins' : List (Addr × Obj)} (I : Inv X pins σ H s) (h : ∀ p ∈ pins', s.heap.get? p.1 = some p.2 ∧ H p.1 = none ∧ p.1 ≠ X.env.locals ∧ p.1 ∉ X.fs ∧ ∀ v, p.2.data ≠ .cell v) : Inv X pins' σ H s :=
  ⟨I.ok, I.os, I.bare, I.base, I.loc, I.cell, I.free, I.freeC, fun p hp => (List.mem_append.mp hp).elim (fun z => I.pin p (List.mem_append_left _ z)) (h p), I.hok, I.len⟩

theorem nodup_ix {N : List Str} (hN : N.Nodup) {i j : Nat} {x : Str} (a : N[i]? = some x) (b : N[j]? = some x) : i = j := by
  obtain ⟨h1, e1⟩ := List.getElem?_eq_some_iff.mp a
  obtain ⟨h2, e2⟩ := List.getElem?_eq_some_iff.mp b
  exact (List.getElem_inj hN).mp (e1.trans e2.symm)

/-- a name is stored; what changed -/
theorem store_ok2 {M : Model} {A : Around} {E : Value → Shared → Prop} {i : Nat} {x : Str} {v : V} {u : Value} {Q : Unit → Shared → Prop} (I : Inv X pins σ H s) (hN : X.N.Nodup) (hi : X.N[i]? = some x) (hx : Loc X.env.scope x) (r : RelV v u)
    (h : ∀ s', Inv X pins (σ.set i (some v)) H s' → (∃ a, Heap.SameBut a s.heap s'.heap ∧ (a = X.env.locals ∨ X.env.cells.lookup x = some a)) → Q () s') (hf : X.fn x = true ∨ X.env.scope.names.lookup x = some .local := by first | exact .inl rfl | exact .inr rfl | assumption) : wpAny M A (storeName X.env x u) Q E s := by
  obtain ⟨m, hn, hl⟩ := id I.loc
  have hcls : (X.env.scope.kind == .class || (X.env.scope.kind == .module && X.env.locals != X.env.globals)) = false := by rw [I.ok.kind]; rfl
  have hiσ : i < σ.length := by rw [I.len]; exact (List.getElem?_eq_some_iff.mp hi).1
  have cne := I.cne
  have tracked : ∀ {a : Addr} {h' : Heap}, (∃ o, s.heap.get? a = some o ∧ H a = none) → Heap.SameBut a s.heap h' → HOk X.prog X.w H h' := fun {a h'} ha hs b ob e => by
    obtain ⟨_, _, hfree⟩ := ha
    refine (I.hok b ob e).stay (fun c w' hc q => (hs.2 c ?_).trans q) (fun _ q => q) fun _ _ q => q
    rintro rfl
    rcases hc with rfl | hc
    · rw [hfree] at e; cases e
    · rw [hfree] at hc; cases hc
  rcases hx with hk | hk
  · refine wpAny_storeName_local hk hn (fun h' hn' hs => ?_) hcls
    obtain ⟨oL, _, _, hoL, _⟩ := id hn
    refine h _ ⟨I.ok, I.os, I.bare, ⟨fun b o e n hb hx => ?_, fun b o e n hb hx => ?_, I.base.free, fun b o e hx => ?_, I.base.tups, I.base.frzs, I.base.tbls⟩, ⟨_, hn', fun j y v' e1 e2 e3 => ?_⟩, fun y c e => ?_, I.free, I.freeC, fun p hp => ?_, tracked ⟨oL, hoL, I.free⟩ hs, by simpa using I.len⟩ ⟨_, hs, .inl rfl⟩
    · exact (hs.2 b (Nat.ne_of_lt (Nat.lt_of_lt_of_le (Heap.lt_size e) I.ok.above))).trans (I.base.keep b o e n hb hx)
    · obtain ⟨sl, e1⟩ := I.base.slot b o e n hb hx
      exact ⟨sl, (hs.2 b (Nat.ne_of_lt (Nat.lt_of_lt_of_le (Heap.lt_size e) I.ok.above))).trans e1⟩
    · obtain ⟨o', e1⟩ := I.base.there b o e hx
      exact ⟨o', (hs.2 b (Nat.ne_of_lt (Nat.lt_of_lt_of_le (Heap.lt_size e) I.ok.above))).trans e1⟩
    · by_cases hj : j = i
      · subst hj
        rw [hi] at e1; cases e1
        rw [List.getElem?_set_self hiσ] at e2
        cases e2
        exact ⟨u, r, .inl ⟨hk, by simp⟩⟩
      · rw [List.getElem?_set_ne (Ne.symm hj)] at e2
        obtain ⟨u', r', q⟩ := hl j y v' e1 e2 e3
        refine ⟨u', r', ?_⟩
        rcases q with ⟨k, e⟩ | ⟨k, c, e, z⟩
        · refine .inl ⟨k, ?_⟩
          have : y ≠ x := fun e => hj (nodup_ix hN e1 (e ▸ hi))
          simp [this, e]
        · exact .inr ⟨k, c, e, z.sameBut hs (cne y c e)⟩
    · obtain ⟨w', z⟩ := I.cell y c e
      exact ⟨w', z.sameBut hs (cne y c e)⟩
    · obtain ⟨e, n, ne, nf, d⟩ := I.pin p hp
      exact ⟨(hs.2 p.1 ne).trans e, n, ne, nf, d⟩
  · have hfn : X.fn x = true := by
      rcases hf with z | z
      · exact z
      · rw [z] at hk; cases hk
    obtain ⟨c, hc⟩ := I.ok.has x (.inl hk)
    obtain ⟨w', z⟩ := I.cell x c hc
    refine wpAny_storeName_cell I.ok.kind hk hc z (fun h' hc' hs => ?_)
    obtain ⟨oc, hoc, hocd⟩ := id z
    refine h { s with heap := h' } ⟨I.ok, I.os, I.bare, ⟨fun b o e n hb hx => ?_, fun b o e n hb hx => ?_, I.base.free, fun b o e hx => ?_, I.base.tups, I.base.frzs, I.base.tbls⟩, ⟨m, hn.sameBut hs (Ne.symm (cne x c hc)), fun j y v' e1 e2 e3 => ?_⟩, fun y c' e => ?_, I.free, I.freeC, fun p hp => ?_, tracked ⟨oc, hoc, I.freeC x c hc⟩ hs, by simpa using I.len⟩ ⟨c, hs, .inr hc⟩
    · exact (hs.2 b (Nat.ne_of_lt (Nat.lt_of_lt_of_le (Heap.lt_size e) (I.ok.cab x c hfn hc)))).trans (I.base.keep b o e n hb hx)
    · obtain ⟨sl, e1⟩ := I.base.slot b o e n hb hx
      exact ⟨sl, (hs.2 b (Nat.ne_of_lt (Nat.lt_of_lt_of_le (Heap.lt_size e) (I.ok.cab x c hfn hc)))).trans e1⟩
    · obtain ⟨o', e1⟩ := I.base.there b o e hx
      exact ⟨o', (hs.2 b (Nat.ne_of_lt (Nat.lt_of_lt_of_le (Heap.lt_size e) (I.ok.cab x c hfn hc)))).trans e1⟩
    · by_cases hj : j = i
      · subst hj
        rw [hi] at e1; cases e1
        rw [List.getElem?_set_self hiσ] at e2
        cases e2
        exact ⟨u, r, .inr ⟨.inl hk, c, hc, hc'⟩⟩
      · rw [List.getElem?_set_ne (Ne.symm hj)] at e2
        obtain ⟨u', r', q⟩ := hl j y v' e1 e2 e3
        refine ⟨u', r', ?_⟩
        rcases q with q | ⟨k, c', e, z'⟩
        · exact .inl q
        · refine .inr ⟨k, c', e, z'.sameBut hs ?_⟩
          rintro rfl
          exact hj (nodup_ix hN e1 (I.ok.inj _ _ _ e hc ▸ hi))
    · by_cases hcc : c' = c
      · subst hcc; exact ⟨_, hc'⟩
      · obtain ⟨w2, z2⟩ := I.cell y c' e
        exact ⟨w2, z2.sameBut hs hcc⟩
    · obtain ⟨e, n, ne, nf, d⟩ := I.pin p hp
      refine ⟨(hs.2 p.1 ?_).trans e, n, ne, nf, d⟩
      intro q
      rw [q, hoc] at e
      have q' : oc = p.2 := Option.some.inj e
      exact d w' (by rw [← q']; exact hocd)
theorem store_ok {M : Model} {A : Around} {E : Value → Shared → Prop} {i : Nat} {x : Str} {v : V} {u : Value} {Q : Unit → Shared → Prop} (I : Inv X pins σ H s) (hN : X.N.Nodup) (hi : X.N[i]? = some x) (hx : Loc X.env.scope x) (r : RelV v u)
    (h : ∀ s', Inv X pins (σ.set i (some v)) H s' → Q () s') (hf : X.fn x = true ∨ X.env.scope.names.lookup x = some .local := by first | exact .inl rfl | exact .inr rfl | assumption) : wpAny M A (storeName X.env x u) Q E s :=
  store_ok2 I hN hi hx r (fun s' I' _ => h s' I') hf
/-- behind a call or a block, the state as it is -/
theorem Inv.call' {s' : Shared} {ch : List Addr} (I : Inv X pins σ H s) (ho : s'.os = s.os) (u : Un (frs X.stack) ch H H' s.heap s'.heap) (hok : HOk X.prog X.w H' s'.heap) (hg : AllBare s'.gens)
    (hch : ∀ b ∈ ch, (b ∈ X.ex ∨ X.s_0.heap.objs.size ≤ b) ∧ b ≠ X.env.locals ∧ (∀ x c, X.env.cells.lookup x = some c → c ≠ b) ∧ ∀ p ∈ X.pn ++ pins, p.1 ≠ b) : Inv X pins σ H' s' := by
  obtain ⟨h', g', d', t', o'⟩ := s'
  have e : o' = s.os := ho
  subst e
  exact I.call (g' := g') (t' := t') (d' := d') u hok hg hch
end

/-! ### the judgements -/
/-- an exception: its class, its own dict's address (where it has one), the abstract heap behind it -/
abbrev XK := Value → Option Addr → Hp → Prop
abbrev St := List (Option V)
abbrev VK := V → Hp → Prop
/-- an expression's reading; a test's; an argument list's -/
abbrev TE := St → Hp → VK → Prop
abbrev TT := St → Hp → (Bool → Hp → Prop) → Prop
abbrev TA := St → Hp → (List V → Hp → Prop) → Prop
/-- what is wanted behind a statement -/
structure Ends where
  nx : St → Hp → Prop
  rt : VK
  bk : St → Hp → Prop := fun _ _ => False
  ct : St → Hp → Prop := fun _ _ => False
abbrev TS := Ends → St → Hp → Prop

def EP (X : Cx) (pins : List (Addr × Obj)) (σ : St) (Q : VK) (u : Value) (s' : Shared) : Prop := ∃ v H', Inv X pins σ H' s' ∧ RelV v u ∧ Q v H'
def TP (X : Cx) (pins : List (Addr × Obj)) (σ : St) (Q : Bool → Hp → Prop) (b : Bool) (s' : Shared) : Prop := ∃ H', Inv X pins σ H' s' ∧ Q b H'
def AP (X : Cx) (pins : List (Addr × Obj)) (σ : St) (Q : List V → Hp → Prop) (us : List Value) (s' : Shared) : Prop := ∃ vs H', Inv X pins σ H' s' ∧ Vals vs us ∧ Q vs H'
def SP (X : Cx) (pins : List (Addr × Obj)) (D : Ends) (f : Flow) (s' : Shared) : Prop :=
  match f with
  | .next => ∃ σ' H', Inv X pins σ' H' s' ∧ D.nx σ' H'
  | .brk => ∃ σ' H', Inv X pins σ' H' s' ∧ D.bk σ' H'
  | .cont => ∃ σ' H', Inv X pins σ' H' s' ∧ D.ct σ' H'
  | .ret u => ∃ v σ' H', Inv X pins σ' H' s' ∧ RelV v u ∧ D.rt v H'

def PE (X : Cx) (e : Expr) (t : TE) : Prop :=
  ∀ (pins : List (Addr × Obj)) (s : Shared) (σ : St) (H : Hp) (Q : VK), Inv X pins σ H s → t σ H Q → wpAny (model X.prog X.w) X.A (eval e X.env) (EP X pins σ Q) X.xe s
def PT (X : Cx) (e : Expr) (t : TT) : Prop :=
  ∀ (pins : List (Addr × Obj)) (s : Shared) (σ : St) (H : Hp) (Q : Bool → Hp → Prop), Inv X pins σ H s → t σ H Q → wpAny (model X.prog X.w) X.A (isTrue e X.env (eval e X.env)) (TP X pins σ Q) X.xe s
/-- a test whatever its 'whole' is (and, or) -/
def PW (X : Cx) (e : Expr) (t : TT) : Prop :=
  ∀ (whole : Sem Value) (pins : List (Addr × Obj)) (s : Shared) (σ : St) (H : Hp) (Q : Bool → Hp → Prop), Inv X pins σ H s → t σ H Q → wpAny (model X.prog X.w) X.A (isTrue e X.env whole) (TP X pins σ Q) X.xe s
theorem PW.pt {X : Cx} {e : Expr} {t : TT} (h : PW X e t) : PT X e t := h _
/-- an argument list (no star), from the left -/
def PA (X : Cx) (es : List Expr) (t : TA) : Prop :=
  ∀ (pos : Pos) (pins : List (Addr × Obj)) (s : Shared) (σ : St) (H : Hp) (Q : List V → Hp → Prop), Inv X pins σ H s → t σ H Q → wpAny (model X.prog X.w) X.A (spliced (backTo pos (starEach es X.env))) (AP X pins σ Q) X.xe s
def PS (X : Cx) (st : Stmt) (t : TS) : Prop :=
  ∀ (pins : List (Addr × Obj)) (s : Shared) (σ : St) (H : Hp) (D : Ends), Inv X pins σ H s → t D σ H → wpAny (model X.prog X.w) X.A (exec st X.env) (SP X pins D) X.xe s
def PSs (X : Cx) (st : List Stmt) (t : TS) : Prop :=
  ∀ (pins : List (Addr × Obj)) (s : Shared) (σ : St) (H : Hp) (D : Ends), Inv X pins σ H s → t D σ H → wpAny (model X.prog X.w) X.A (execs st X.env) (SP X pins D) X.xe s
/-- weaken the end -/
theorem thn {α : Type} {t : Sem α} {Q Q' : α → Shared → Prop} {M : Model} {A : Around} {E : Value → Shared → Prop} {s : Shared} (h : wpAny M A t Q E s) (hQ : ∀ a s, Q a s → Q' a s) : wpAny M A t Q' E s := wpAny_mono h hQ fun _ _ x => x
end L2

namespace L2
open PySem PySem.Spec PyProof.Rows
section
variable {X : Cx}

/-- two expressions in a row -/
theorem bin {a b : Expr} {ta tb : TE} (ha : PE X a ta) (hb : PE X b tb) {pins : List (Addr × Obj)} {s : Shared} {σ : St} {H : Hp} {R : V → V → Hp → Prop} (I : Inv X pins σ H s) (h : ta σ H fun x H1 => tb σ H1 fun y H2 => R x y H2)
    {α : Type} {Q : α → Shared → Prop} {f : Value → Value → Sem α}
    (hf : ∀ v u s2 x y H2, Inv X pins σ H2 s2 → RelV x v → RelV y u → R x y H2 → wpAny (model X.prog X.w) X.A (f v u) Q X.xe s2) :
    wpAny (model X.prog X.w) X.A (eval a X.env) (fun v s₁ => wpAny (model X.prog X.w) X.A (eval b X.env) (fun u s₂ => wpAny (model X.prog X.w) X.A (f v u) Q X.xe s₂) X.xe s₁) X.xe s := by
  refine thn (ha pins s σ H _ I h) fun v s1 ⟨x, H1, I1, r1, q1⟩ => ?_
  refine thn (hb pins s1 σ H1 _ I1 q1) fun u s2 ⟨y, H2, I2, r2, q2⟩ => ?_
  exact hf v u s2 x y H2 I2 r1 r2 q2

/-! ### names and constants -/
def tVar (i : Nat) : TE := fun σ H Q => ∃ v, σ[i]? = some (some v) ∧ Q v H
def tC (v : V) : TE := fun _ H Q => Q v H
theorem pe_var {i : Nat} {x : Str} {pos : Pos} (hN : X.N[i]? = some x) (hv : Vis X.env.scope x) (hd : (x == ("__debug__" : Str)) = false := by decide) (hcd : (x == ("__classdict__" : Str)) = false := by decide) : PE X (.Name x pos) (tVar i) := by
  intro pins s σ H Q I h
  obtain ⟨v, e, h⟩ := h
  obtain ⟨m, hn, hl⟩ := I.loc
  obtain ⟨u, r, l⟩ := hl i x v hN e hv
  have fin : EP X pins σ Q u s := ⟨v, H, I, r, h⟩
  rcases l with ⟨hk, hm⟩ | ⟨hk, c, hc, hcell⟩
  · exact wpAny_Name (wpAny_loadName_local I.ok.kind hk hn hm fin) hd
  · rcases hk with hk | hk
    · exact wpAny_Name (wpAny_loadName_cell I.ok.kind hk hc hcell fin) hd
    · exact wpAny_Name (wpAny_loadName_free I.ok.kind hk hc hcell fin hcd) hd
theorem pe_int {i j pos} : PE X (.Constant (.int i) j pos) (tC (.int i)) := fun _ _ _ H _ I h => wpAny_Constant_int ⟨.int i, H, I.tok _, ⟨_, rfl⟩, h⟩
theorem pe_bl {b j pos} : PE X (.Constant (.bool b) j pos) (tC (.bl b)) := fun _ _ _ H _ I h => Constant_bool ⟨.bl b, H, I, rfl, h⟩

/-- a global name of the def -/
def Gl (X : Cx) (x : Str) : Prop := X.env.kindOf x = some .globalImplicit
theorem ld_glob {E : Value → Shared → Prop} {pins : List (Addr × Obj)} {s : Shared} {σ : St} {H : Hp} {x : Str} {u : Value} {pos : Pos} {Q : Value → Shared → Prop} (I : Inv X pins σ H s) (hg : Gl X x) (hm : X.mg x = some u) (h : Q u s)
    (hd : (x == ("__debug__" : Str)) = false := by decide) : wpAny (model X.prog X.w) X.A (eval (.Name x pos) X.env) Q E s :=
  Calls.Name_function_global I.ok.kind hg (Calls.loadGlobal_global (by rw [I.ok.glob]; exact I.mod.glob.keeps I.bk) hm h) hd
theorem ld_blt {E : Value → Shared → Prop} {pins : List (Addr × Obj)} {s : Shared} {σ : St} {H : Hp} {x : Str} {u : Value} {pos : Pos} {Q : Value → Shared → Prop} (I : Inv X pins σ H s) (hg : Gl X x) (hm : X.mg x = none) (hv : bootBuiltins x = some u) (h : Q u s)
    (hn : x ≠ "__name__" := by decide) (hd : (x == ("__debug__" : Str)) = false := by decide) : wpAny (model X.prog X.w) X.A (eval (.Name x pos) X.env) Q E s := by
  obtain ⟨mb, h1, h2⟩ := I.mod.blt
  exact Calls.Name_function_global I.ok.kind hg (Calls.loadGlobal_builtin (by rw [I.ok.glob]; exact I.mod.glob.keeps I.bk) hm (by rw [I.ok.blt]; exact h1.keeps I.bk) ((h2 x hn).trans hv) h) hd
/-- a module's constant, a class, a function, as a value -/
theorem pe_glob {x : Str} {v : V} {u : Value} {pos : Pos} (hg : Gl X x) (hm : X.mg x = some u) (r : RelV v u) (hd : (x == ("__debug__" : Str)) = false := by decide) : PE X (.Name x pos) (tC v) :=
  fun _ _ _ H _ I h => ld_glob I hg hm ⟨v, H, I, r, h⟩ hd

/-! ### arithmetic -/
/-- two ints -/
def t2I (ta tb : TE) (k : Int → Int → Hp → Prop) : St → Hp → Prop := fun σ H => ta σ H fun x H1 => tb σ H1 fun y H2 => ∃ i j, x = .int i ∧ y = .int j ∧ k i j H2
variable {a b : Expr} {ta tb : TE} {pos : Pos}

/-! ### comparisons -/
def PC (X : Cx) (op : CmpOp) (a b : Expr) (t : TE) : Prop :=
  ∀ (pins : List (Addr × Obj)) (s : Shared) (σ : St) (H : Hp) (Q : VK), Inv X pins σ H s → t σ H Q →
    wpAny (model X.prog X.w) X.A (eval a X.env) (fun v s₁ => wpAny (model X.prog X.w) X.A (eval b X.env) (fun u s₂ => wpAny (model X.prog X.w) X.A (compareOp op v u) (EP X pins σ Q) X.xe s₂) X.xe s₁) X.xe s
theorem nobehind (b : Expr) {op : CmpOp} (h : op ≠ .In) (h2 : op ≠ .NotIn) : behindInMarks op b = false := by
  have e1 : (op == CmpOp.In) = false := by cases op <;> first | rfl | exact absurd rfl h
  have e2 : (op == CmpOp.NotIn) = false := by cases op <;> first | rfl | exact absurd rfl h2
  cases b <;> simp [behindInMarks, e1, e2]
def tCmp (p : Int → Int → Bool) (ta tb : TE) : TE := fun σ H Q => t2I ta tb (fun i j H2 => Q (.bl (p i j)) H2) σ H
abbrev tLt : TE → TE → TE := tCmp fun i j => decide (i < j)
abbrev tLe : TE → TE → TE := tCmp fun i j => decide (i ≤ j)
abbrev tGt : TE → TE → TE := tCmp fun i j => decide (j < i)
abbrev tGe : TE → TE → TE := tCmp fun i j => decide (j ≤ i)
abbrev tEqI : TE → TE → TE := tCmp fun i j => decide (i = j)
/-- a comparison of two ints, by its rule -/
theorem pc_int {op : CmpOp} {p : Int → Int → Bool} (ha : PE X a ta) (hb : PE X b tb)
    (rule : ∀ (i j : Int) (t u : Tok) (Q : Value → Shared → Prop) (s : Shared), Q (.bool (p i j)) s → wpAny (model X.prog X.w) X.A (compareOp op (.int i t) (.int j u)) Q X.xe s) : PC X op a b (tCmp p ta tb) := by
  intro pins s σ H Q I h
  refine bin ha hb I h fun v u s2 x y H2 I2 rx ry q => ?_
  obtain ⟨i, j, rfl, rfl, q⟩ := q
  obtain ⟨t, rfl⟩ := rx
  obtain ⟨t', rfl⟩ := ry
  exact rule i j t t' _ s2 ⟨.bl _, H2, I2, rfl, q⟩
theorem pc_lt (ha : PE X a ta) (hb : PE X b tb) : PC X .Lt a b (tLt ta tb) := pc_int ha hb fun _ _ _ _ _ _ h => lt_int h
theorem pc_le (ha : PE X a ta) (hb : PE X b tb) : PC X .LtE a b (tLe ta tb) := pc_int ha hb fun _ _ _ _ _ _ h => le_int h
theorem pc_gt (ha : PE X a ta) (hb : PE X b tb) : PC X .Gt a b (tGt ta tb) := pc_int ha hb fun _ _ _ _ _ _ h => gt_int h
theorem pc_ge (ha : PE X a ta) (hb : PE X b tb) : PC X .GtE a b (tGe ta tb) := pc_int ha hb fun _ _ _ _ _ _ h => ge_int h
theorem pc_eqI (ha : PE X a ta) (hb : PE X b tb) : PC X .Eq a b (tEqI ta tb) := pc_int ha hb fun _ _ _ _ _ _ h => eq_int (by rw [Bool.beq_eq_decide_eq]; exact h)
/-- a comparison as a value, as a test -/
def tB (t : TE) : TT := fun σ H Q => t σ H fun x H1 => ∃ c, x = .bl c ∧ Q c H1
theorem pe_cmp {op : CmpOp} {t : TE} (h : PC X op a b t) (h1 : behindInMarks op b = false := by first | exact nobehind _ (by decide) (by decide) | rfl) : PE X (.Compare a [op] [b] pos) t := fun pins s σ H Q I hw => wpAny_Compare1 (h pins s σ H Q I hw) h1
theorem pt_cmp {op : CmpOp} {t : TE} (h : PC X op a b t) (h1 : behindInMarks op b = false := by first | exact nobehind _ (by decide) (by decide) | rfl) : PT X (.Compare a [op] [b] pos) (tB t) := by
  intro pins s σ H Q I hw
  refine wpAny_isTrue_Compare1 (thn (h pins s σ H _ I hw) fun v s1 h1 => thn h1 fun u s2 h2 => thn h2 fun c s3 ⟨x, H1, I1, r1, q1⟩ => ?_) h1
  obtain ⟨d, rfl, q⟩ := q1
  cases r1
  exact wpAny_truthy_bool ⟨H1, I1, q⟩
/-- an expression whose value is a bool, as a test -/
theorem pt_val {e : Expr} {t : TE} (h : PE X e t) (he : ∀ whole, isTrue e X.env whole = (do let v ← whole; standAt e.pos; holding [v] (truthy v)) := by intro _; rfl) : PT X e (tB t) := by
  intro pins s σ H Q I hw
  refine isTrue_plain (thn (h pins s σ H _ I hw) fun v s1 ⟨x, H1, I1, r1, q1⟩ => ?_) (he _)
  obtain ⟨d, rfl, q⟩ := q1
  cases r1
  exact wpAny_truthy_bool ⟨H1, I1, q⟩

/-! ### and, or, not -/
variable {tA tB' : TT} {rest : List Expr}
def tAnd (t u : TT) : TT := fun σ H Q => t σ H fun c H1 => if c = true then u σ H1 Q else Q false H1
def tOr (t u : TT) : TT := fun σ H Q => t σ H fun c H1 => if c = true then Q true H1 else u σ H1 Q
def tNot (t : TT) : TT := fun σ H Q => t σ H fun c H1 => Q (!c) H1
theorem pw_and1 (ha : PT X a tA) : PW X (.BoolOp .And [a] pos) tA := by
  intro wh pins s σ H Q I h
  refine isTrue_and (thn (ha pins s σ H Q I h) fun c s1 e => ?_)
  cases c with
  | true => exact isTrue_and_nil e
  | false => exact e
theorem pw_or1 (ha : PT X a tA) : PW X (.BoolOp .Or [a] pos) tA := by
  intro wh pins s σ H Q I h
  refine isTrue_or (thn (ha pins s σ H Q I h) fun c s1 e => ?_)
  cases c with
  | false => exact isTrue_or_nil e
  | true => exact e
theorem pw_and (ha : PT X a tA) (hb : PW X (.BoolOp .And (b :: rest) pos) tB') : PW X (.BoolOp .And (a :: b :: rest) pos) (tAnd tA tB') := by
  intro wh pins s σ H Q I h
  refine isTrue_and (thn (ha pins s σ H _ I h) fun c s1 ⟨H1, I1, q1⟩ => ?_)
  cases c with
  | true => exact hb wh pins s1 σ H1 Q I1 q1
  | false => exact ⟨H1, I1, q1⟩
theorem pw_or (ha : PT X a tA) (hb : PW X (.BoolOp .Or (b :: rest) pos) tB') : PW X (.BoolOp .Or (a :: b :: rest) pos) (tOr tA tB') := by
  intro wh pins s σ H Q I h
  refine isTrue_or (thn (ha pins s σ H _ I h) fun c s1 ⟨H1, I1, q1⟩ => ?_)
  cases c with
  | true => exact ⟨H1, I1, q1⟩
  | false => exact hb wh pins s1 σ H1 Q I1 q1
theorem pt_not (ha : PT X a tA) : PT X (.UnaryOp .Not a pos) (tNot tA) := by
  intro pins s σ H Q I h
  exact isTrue_not (ha pins s σ H (fun c H1 => Q (!c) H1) I h)
/-- .. as values (bools) -/
def tAndV (ta tb : TE) : TE := fun σ H Q => ta σ H fun x H1 => ∃ c, x = .bl c ∧ if c = true then tb σ H1 Q else Q (.bl false) H1
def tOrV (ta tb : TE) : TE := fun σ H Q => ta σ H fun x H1 => ∃ c, x = .bl c ∧ if c = true then Q (.bl true) H1 else tb σ H1 Q
theorem pe_one {op} {t : TE} (h : PE X a t) : PE X (.BoolOp op [a] pos) t := fun pins s σ H Q I hw => BoolOp_one (h pins s σ H Q I hw)
theorem pe_and (ha : PE X a ta) (hb : PE X (.BoolOp .And (b :: rest) pos) tb) : PE X (.BoolOp .And (a :: b :: rest) pos) (tAndV ta tb) := by
  intro pins s σ H Q I h
  refine BoolOp_and (thn (ha pins s σ H _ I h) fun v s1 ⟨x, H1, I1, r1, q1⟩ => ?_)
  obtain ⟨c, rfl, q1⟩ := q1
  cases r1
  refine wpAny_truthy_bool ?_
  cases c with
  | true => exact hb pins s1 σ H1 Q I1 q1
  | false => exact ⟨.bl false, H1, I1, rfl, q1⟩
theorem pe_or (ha : PE X a ta) (hb : PE X (.BoolOp .Or (b :: rest) pos) tb) : PE X (.BoolOp .Or (a :: b :: rest) pos) (tOrV ta tb) := by
  intro pins s σ H Q I h
  refine BoolOp_or (thn (ha pins s σ H _ I h) fun v s1 ⟨x, H1, I1, r1, q1⟩ => ?_)
  obtain ⟨c, rfl, q1⟩ := q1
  cases r1
  refine wpAny_truthy_bool ?_
  cases c with
  | false => exact hb pins s1 σ H1 Q I1 q1
  | true => exact ⟨.bl true, H1, I1, rfl, q1⟩
/-- a if t else b -/
def tIf (t : TT) (ta tb : TE) : TE := fun σ H Q => t σ H fun c H1 => if c = true then ta σ H1 Q else tb σ H1 Q
theorem pe_ifExp {c : Expr} (hc : PT X c tA) (ha : PE X a ta) (hb : PE X b tb) : PE X (.IfExp c a b pos) (tIf tA ta tb) := by
  intro pins s σ H Q I h
  refine wpAny_IfExp (thn (hc pins s σ H _ I h) fun d s1 ⟨H1, I1, q1⟩ => ?_)
  cases d with
  | true => exact ha pins s1 σ H1 Q I1 q1
  | false => exact hb pins s1 σ H1 Q I1 q1
end
end L2

namespace L2
open PySem PySem.Spec PyProof.Rows

/-! ### a list, a tuple that is read: tracked, frozen, or an object of the module -/
def SqL (K : PySem.W.Frag) (H : Hp) (a : Addr) (xs : List V) : Prop :=
  Rd H a (.lst xs) ∨
    ∃ (o : Obj) (its : Array Value) (n : Nat), K.lookup a = some o ∧ o.cls = .type "list" ∧ o.dict = none ∧ o.data = .seq its n ∧ its.size ≤ sizeLine ∧ Vals xs its.toList
def SqT (K : PySem.W.Frag) (H : Hp) (a : Addr) (xs : List V) : Prop :=
  Rd H a (.tup xs) ∨
    ∃ (o : Obj) (its : Array Value) (n : Nat), K.lookup a = some o ∧ o.cls = .type "tuple" ∧ o.data = .seq its n ∧ its.size ≤ sizeLine ∧ Vals xs its.toList
def absV : Value → Option V
  | .none => some .non
  | .bool b => some (.bl b)
  | .int i _ => some (.int i)
  | .str x _ => some (.str x)
  | .bytes b _ => some (.byt b)
  | .float b _ => some (.flt b)
  | .ref a => some (.ref a)
  | .type n => some (.ty n)
  | _ => none
theorem RelV.abs {x : V} {u : Value} (r : RelV x u) : absV u = some x := by
  cases x with
  | non => cases r; rfl
  | bl _ => cases r; rfl
  | int _ => obtain ⟨t, rfl⟩ := r; rfl
  | str _ => obtain ⟨t, rfl⟩ := r; rfl
  | byt _ => obtain ⟨t, rfl⟩ := r; rfl
  | flt _ => obtain ⟨t, rfl⟩ := r; rfl
  | ref _ => cases r; rfl
  | ty _ => cases r; rfl
theorem RelV.inj {x y : V} {u : Value} (r : RelV x u) (q : RelV y u) : x = y := Option.some.inj (r.abs.symm.trans q.abs)
theorem Vals.inj : ∀ {xs ys : List V} {us : List Value}, Vals xs us → Vals ys us → xs = ys
  | _, _, _, .nil, .nil => rfl
  | _, _, _, .cons r t, .cons r' t' => by rw [r.inj r', Vals.inj t t']
section
variable {X : Cx} {pins : List (Addr × Obj)} {σ : St} {H : Hp} {s : Shared} {a : Addr} {xs ys : List V}
theorem SqL.of {K : PySem.W.Frag} (h : H a = some (.lst xs)) : SqL K H a xs := .inl (.inl h)
theorem SqT.of {K : PySem.W.Frag} (h : H a = some (.tup xs)) : SqT K H a xs := .inl (.inl h)
theorem Inv.list (I : Inv X pins σ H s) (h : SqL X.K H a xs) : ∃ its : List Value, Vals xs its ∧ PlainL s.heap a its.toArray ∧ xs.length ≤ sizeLine := by
  rcases h with h | ⟨o, its, n, hk, hc, hd, hs, hz, r⟩
  · obtain ⟨z, its, n, r, e⟩ := h.ok I.hok
    exact ⟨its, r, ⟨_, n, e, rfl, rfl, rfl⟩, z⟩
  · refine ⟨its.toList, r, ⟨o, n, I.kIn a o hk, hc, hd, by simpa using hs⟩, ?_⟩
    have e := r.length
    simp only [Array.length_toList] at e
    omega
theorem Inv.tuple (I : Inv X pins σ H s) (h : SqT X.K H a xs) : ∃ its : List Value, Vals xs its ∧ IsTup s.heap a its.toArray ∧ xs.length ≤ sizeLine := by
  rcases h with h | ⟨o, its, n, hk, hc, hs, hz, r⟩
  · obtain ⟨z, its, r, p⟩ := h.ok I.hok
    exact ⟨its, r, p, z⟩
  · refine ⟨its.toList, r, ⟨o, I.kIn a o hk, hc, n, by simpa using hs⟩, ?_⟩
    have e := r.length
    simp only [Array.length_toList] at e
    omega
theorem Inv.list_inj (I : Inv X pins σ H s) (h : SqL X.K H a xs) (h' : SqL X.K H a ys) : xs = ys := by
  obtain ⟨its, r, ⟨o, n, e, _, _, d⟩, _⟩ := I.list h
  obtain ⟨its', r', ⟨o', n', e', _, _, d'⟩, _⟩ := I.list h'
  rw [e] at e'; cases e'
  rw [d] at d'
  injection d' with d1 _
  have : its = its' := by simpa using congrArg Array.toList d1
  subst this
  exact r.inj r'
end

/-! ### another wish about exceptions -/
abbrev Cx.wish (X : Cx) (E : Value → Shared → Prop) : Cx := { X with xe := E }
/-- no exception leaves -/
abbrev Cx.nox (X : Cx) : Cx := X.wish fun _ _ => False
theorem Cx.Ok.wish {X : Cx} (ok : X.Ok) (E : Value → Shared → Prop) : (X.wish E).Ok :=
  ⟨ok.mod, ok.kind, ok.glob, ok.blt, ok.above, ok.inj, ok.has, ok.cab, ok.hd, ok.frames, ok.stk, ok.exf, ok.bs, ok.bsz, ok.noex, ok.exfs, ok.funs, ok.frf⟩
theorem Cx.Ok.unwish {X : Cx} {E : Value → Shared → Prop} (ok : (X.wish E).Ok) : X.Ok :=
  ⟨ok.mod, ok.kind, ok.glob, ok.blt, ok.above, ok.inj, ok.has, ok.cab, ok.hd, ok.frames, ok.stk, ok.exf, ok.bs, ok.bsz, ok.noex, ok.exfs, ok.funs, ok.frf⟩
section
variable {X : Cx} {pins : List (Addr × Obj)} {σ : St} {H : Hp} {s : Shared} {E : Value → Shared → Prop}
theorem Inv.wish (I : Inv X pins σ H s) (E : Value → Shared → Prop) : Inv (X.wish E) pins σ H s := ⟨I.ok.wish E, I.os, I.bare, I.base, I.loc, I.cell, I.free, I.freeC, I.pin, I.hok, I.len⟩
theorem Inv.unwish (I : Inv (X.wish E) pins σ H s) : Inv X pins σ H s := ⟨I.ok.unwish, I.os, I.bare, I.base, I.loc, I.cell, I.free, I.freeC, I.pin, I.hok, I.len⟩
theorem SP.unwish {D : Ends} {f : Flow} {s' : Shared} (h : SP (X.wish E) pins D f s') : SP X pins D f s' := by
  cases f with
  | next => obtain ⟨σ', H', I, q⟩ := h; exact ⟨σ', H', I.unwish, q⟩
  | brk => obtain ⟨σ', H', I, q⟩ := h; exact ⟨σ', H', I.unwish, q⟩
  | cont => obtain ⟨σ', H', I, q⟩ := h; exact ⟨σ', H', I.unwish, q⟩
  | ret u => obtain ⟨v, σ', H', I, r, q⟩ := h; exact ⟨v, σ', H', I.unwish, r, q⟩
theorem PSs.nox {st : List Stmt} {t : TS} (h : PSs X.nox st t) : PSs X st t := fun pins s σ H D I hw =>
  wpAny_mono (h pins s σ H D (I.wish _) hw) (fun _ _ q => q.unwish) fun _ _ z => False.elim z
end

/-! ### blocks and small statements -/
section
variable {X : Cx} {st : Stmt} {rest : List Stmt} {t u : TS} {e : Expr} {te : TE} {pos : Pos}
def tNext : TS := fun D σ H => D.nx σ H
def tSeq (t u : TS) : TS := fun D σ H => t { D with nx := u D } σ H
theorem pss_nil : PSs X [] tNext := fun _ _ σ H _ I h => wpAny_execs_nil ⟨σ, H, I, h⟩
theorem pss_cons (h1 : PS X st t) (h2 : PSs X rest u) : PSs X (st :: rest) (tSeq t u) := by
  intro pins s σ H D I h
  refine wpAny_execs_cons (thn (h1 pins s σ H { D with nx := u D } I h) fun f s1 q => ?_)
  cases f with
  | next =>
    obtain ⟨σ', H', I', q⟩ := q
    exact h2 pins s1 σ' H' D I' q
  | ret v => exact q
  | brk => exact q
  | cont => exact q
theorem pss_one (h1 : PS X st t) : PSs X [st] t := by
  intro pins s σ H D I h
  refine wpAny_execs_cons (thn (h1 pins s σ H D I h) fun f s1 q => ?_)
  cases f with
  | next => exact wpAny_execs_nil q
  | ret v => exact q
  | brk => exact q
  | cont => exact q
def tBreak : TS := fun D σ H => D.bk σ H
theorem ps_break : PS X (.Break pos) tBreak := fun _ _ σ H _ I h => wpAny_Break ⟨σ, H, I, h⟩
/-- in a def's body nothing is shown -/
theorem Inv.quiet {pins : List (Addr × Obj)} {σ : St} {H : Hp} {s : Shared} (I : Inv X pins σ H s) : interactive X.env = false := by simp [interactive, I.ok.kind]
/-- an expression whose value is dropped -/
def tDrop (te : TE) : TS := fun D σ H => te σ H fun _ H1 => D.nx σ H1
theorem ps_expr (he : PE X e te) (hs : swapsWith e none pos.line X.env = pure false := by rfl) : PS X (.Expr e pos) (tDrop te) := by
  intro pins s σ H D I h
  exact wpAny_Expr_any (thn (he pins s σ H _ I h) fun v s1 ⟨x, H1, I1, r1, q1⟩ => ⟨σ, H1, I1, q1⟩) I.quiet hs
def tRet (te : TE) : TS := fun D σ H => te σ H D.rt
theorem ps_ret (he : PE X e te) : PS X (.Return (some e) pos) (tRet te) := by
  intro pins s σ H D I h
  exact wpAny_Return_some (thn (he pins s σ H _ I h) fun v s1 ⟨x, H1, I1, r1, q1⟩ => ⟨x, σ, H1, I1, r1, q1⟩)
def tIfS (c : TT) (t u : TS) : TS := fun D σ H => c σ H fun b H1 => if b = true then t D σ H1 else u D σ H1
theorem ps_if {c : Expr} {a b : List Stmt} {tc : TT} (hc : PT X c tc) (ha : PSs X a t) (hb : PSs X b u) : PS X (.If c a b pos) (tIfS tc t u) := by
  intro pins s σ H D I h
  refine wpAny_If (thn (hc pins s σ H _ I h) fun d s1 ⟨H1, I1, q1⟩ => ?_)
  cases d with
  | true => exact ha pins s1 σ H1 D I1 q1
  | false => exact hb pins s1 σ H1 D I1 q1
/-- code that the proof never comes to -/
def tNever : TS := fun _ _ _ => False
theorem ps_never : PS X st tNever := fun _ _ _ _ _ _ h => h.elim
end

/-! ### targets -/
abbrev TG := V → St → Hp → (St → Hp → Prop) → Prop
abbrev TGs := List V → St → Hp → (St → Hp → Prop) → Prop
def PG (X : Cx) (target : Expr) (t : TG) : Prop :=
  ∀ (pins : List (Addr × Obj)) (s : Shared) (σ : St) (H : Hp) (v : V) (u : Value) (Q : St → Hp → Prop), Inv X pins σ H s → RelV v u → t v σ H Q →
    wpAny (model X.prog X.w) X.A (assign target X.env u) (fun _ s' => ∃ σ' H', Inv X pins σ' H' s' ∧ Q σ' H') X.xe s
/-- several targets, one after another -/
def PGs (X : Cx) (ts : List Expr) (t : TGs) : Prop :=
  ∀ (pins : List (Addr × Obj)) (s : Shared) (σ : St) (H : Hp) (vs : List V) (us : List Value) (Q : St → Hp → Prop), Inv X pins σ H s → Vals vs us → t vs σ H Q →
    wpAny (model X.prog X.w) X.A (assignInOrder ((assignEach ts X.env).map (·.2)) us) (fun _ s' => ∃ σ' H', Inv X pins σ' H' s' ∧ Q σ' H') X.xe s
/-- a op= b, by values -/
abbrev TIp := V → V → Hp → VK → Prop
def PIp (X : Cx) (op : Operator) (t : TIp) : Prop :=
  ∀ (pins : List (Addr × Obj)) (s : Shared) (σ : St) (H : Hp) (x y : V) (v u : Value) (Q : VK), Inv X pins σ H s → RelV x v → RelV y u → t x y H Q →
    wpAny (model X.prog X.w) X.A (inplaceOp op v u) (EP X pins σ Q) X.xe s
section
variable {X : Cx} {pos : Pos}
def gName (i : Nat) : TG := fun v σ H Q => Q (σ.set i (some v)) H
theorem pg_name {i : Nat} {x : Str} (hN : X.N.Nodup) (hi : X.N[i]? = some x) (hx : Loc X.env.scope x) (hf : X.fn x = true ∨ X.env.scope.names.lookup x = some .local := by first | exact .inl rfl | exact .inr rfl | assumption) : PG X (.Name x pos) (gName i) := by
  intro pins s σ H v u Q I r h
  exact wpAny_assign_Name (store_ok I hN hi hx r (fun s' I' => ⟨_, H, I', h⟩) hf)
def gNil : TGs := fun vs σ H Q => vs = [] ∧ Q σ H
def gCons (t : TG) (u : TGs) : TGs := fun vs σ H Q => ∃ v r, vs = v :: r ∧ t v σ H fun σ' H' => u r σ' H' Q
theorem pgs_nil : PGs X [] gNil := by
  intro pins s σ H vs us Q I r h
  obtain ⟨e, h⟩ := h
  subst e
  cases r
  exact assignInOrder_nil ⟨σ, H, I, h⟩
theorem pgs_cons {e : Expr} {es : List Expr} {t : TG} {u : TGs} (h1 : PG X e t) (h2 : PGs X es u)
    (hs : (assignEach (e :: es) X.env).map (·.2) = assign e X.env :: (assignEach es X.env).map (·.2) := by rfl) : PGs X (e :: es) (gCons t u) := by
  intro pins s σ H vs us Q I r h
  obtain ⟨v, vr, e1, h⟩ := h
  subst e1
  cases r with
  | cons r rr =>
    rw [hs]
    refine assignInOrder_cons (thn (h1 pins s σ H _ _ _ I r h) fun _ s1 ⟨σ1, H1, I1, q1⟩ => ?_)
    exact h2 pins s1 σ1 H1 _ _ Q I1 rr q1
/-- (a, b, ..) = a tuple of that length -/
def gTup (K : PySem.W.Frag) (n : Nat) (t : TGs) : TG := fun v σ H Q => ∃ a xs, v = .ref a ∧ SqT K H a xs ∧ xs.length = n ∧ t xs σ H Q
theorem pg_tup {es : List Expr} {k : Nat} {t : TGs} {n : Nat} (hc : X.calm = true) (h : PGs X es t)
    (hn : (assignEach es X.env).length = n := by rfl) (hst : (assignEach es X.env).findIdx? (·.1) = none := by rfl) : PG X (.Tuple es k pos) (gTup X.K n t) := by
  intro pins s σ H v u Q I r hw
  obtain ⟨a, xs, e1, hq, hl, hw⟩ := hw
  subst e1
  cases r
  obtain ⟨its, rv, ht, hz⟩ := I.tuple hq
  refine assign_Tuple_tuple (I.ok.hd hc) ht (by simp [hn, ← hl, rv.length]) hst fun h' hx => ?_
  have I1 : Inv X pins σ H { s with heap := h' } := I.kept (t' := s.toks) fun b o e => hx b o (Nat.ne_of_lt (Heap.lt_size e)) e
  exact h pins _ σ H xs _ Q I1 (by simpa using rv) hw
/-- target = value -/
def tAsg (te : TE) (g : TG) : TS := fun D σ H => te σ H fun x H1 => g x σ H1 D.nx
/-- name = value -/
theorem ps_set {i : Nat} {x : Str} {e : Expr} {te : TE} {pos' : Pos} (hN : X.N.Nodup) (hi : X.N[i]? = some x) (hx : Loc X.env.scope x) (he : PE X e te) (hs : swapsWith e (some (.Name x pos')) pos.line X.env = pure false := by rfl) (hf : X.fn x = true ∨ X.env.scope.names.lookup x = some .local := by first | exact .inl rfl | exact .inr rfl | assumption) :
    PS X (.Assign [.Name x pos'] e pos) (tAsg te (gName i)) := by
  intro pins s σ H D I h
  refine wpAny_Assign_Name (thn (he pins s σ H _ I h) fun v s1 ⟨y, H1, I1, r1, q1⟩ => ?_) hs
  exact store_ok I1 hN hi hx r1 (fun s2 I2 => ⟨_, H1, I2, q1⟩) hf
/-- name op= e -/
def tAug (i : Nat) (te : TE) (ti : TIp) : TS := fun D σ H => ∃ x, σ[i]? = some (some x) ∧ te σ H fun y H1 => ti x y H1 fun z H2 => D.nx (σ.set i (some z)) H2
theorem ps_aug {i : Nat} {x : Str} {e : Expr} {te : TE} {op : Operator} {ti : TIp} {pos' : Pos} (hN : X.N.Nodup) (hi : X.N[i]? = some x) (hx : Loc X.env.scope x) (he : PE X e te) (ho : PIp X op ti) (hf : X.fn x = true ∨ X.env.scope.names.lookup x = some .local := by first | exact .inl rfl | exact .inr rfl | assumption) :
    PS X (.AugAssign (.Name x pos') op e pos) (tAug i te ti) := by
  intro pins s σ H D I h
  obtain ⟨v, e1, h⟩ := h
  obtain ⟨m, hn, hl⟩ := I.loc
  have vis : Vis X.env.scope x := by rcases hx with k | k; exact .inl k; exact .inr (.inl k)
  obtain ⟨u, r, l⟩ := hl i x v hi e1 vis
  refine wpAny_AugAssign_Name ?_
  have go : wpAny (model X.prog X.w) X.A (eval e X.env) (fun w s₂ => wpAny (model X.prog X.w) X.A (inplaceOp op u w) (fun r s₃ => wpAny (model X.prog X.w) X.A (storeName X.env x r) (fun _ => SP X pins D .next) X.xe s₃) X.xe s₂) X.xe s := by
    refine thn (he pins s σ H _ I h) fun w s1 ⟨y, H1, I1, r1, q1⟩ => ?_
    refine thn (ho pins s1 σ H1 v y u w _ I1 r r1 q1) fun z s2 ⟨zv, H2, I2, r2, q2⟩ => ?_
    exact store_ok I2 hN hi hx r2 (fun s3 I3 => ⟨_, H2, I3, q2⟩) hf
  rcases l with ⟨hk, hm⟩ | ⟨hk, c, hc, hcell⟩
  · exact wpAny_loadName_local I.ok.kind hk hn hm go
  · rcases hk with hk | hk
    · exact wpAny_loadName_cell I.ok.kind hk hc hcell go
    · rcases hx with k | k
      · have : X.env.scope.names.lookup x = some .free := hk
        rw [k] at this; cases this
      · have : X.env.scope.names.lookup x = some .free := hk
        rw [k] at this; cases this
/-- ints -/
def ipI (f : Int → Int → Int) : TIp := fun x y H Q => ∃ i j, x = .int i ∧ y = .int j ∧ Q (.int (f i j)) H
theorem ip_add : PIp X .Add (ipI fun i j => i + j) := by
  intro pins s σ H x y v u Q I r1 r2 h
  obtain ⟨i, j, e1, e2, q⟩ := h
  subst e1; subst e2
  obtain ⟨t, rfl⟩ := r1
  obtain ⟨t', rfl⟩ := r2
  exact iadd_int ⟨.int _, H, I.tok _, ⟨_, rfl⟩, q⟩
end

/-! ### while -/
section
variable {X : Cx} {pos : Pos}
/-- the invariant W with its measure -/
def tWhile (c : TT) (tb : TS) : TS := fun D σ H => ∃ W : Nat → St → Hp → Prop, (∃ m, W m σ H) ∧ ∀ m σ H, W m σ H →
  c σ H fun b H1 => if b = true then ∃ N : St → Hp → Prop, (∀ σ' H', N σ' H' → ∃ m', m' < m ∧ W m' σ' H') ∧ tb { D with nx := N, ct := N, bk := D.nx } σ H1 else D.nx σ H1
theorem ps_while {c : Expr} {body : List Stmt} {tc : TT} {tb : TS} (hp : PassesOwn (model X.prog X.w) X.A X.env X.xe) (hc : PT X c tc) (hb : PSs X body tb) : PS X (.While c body [] pos) (tWhile tc tb) := by
  intro pins s σ H D I h
  obtain ⟨W, ⟨m0, w0⟩, turn⟩ := h
  refine wpAny_While (codeAny_whileLoop (fun n s' => ∃ σ' H', Inv X pins σ' H' s' ∧ W n σ' H') ?_ m0 ⟨σ, H, I, w0⟩)
  rintro n s1 ⟨σ1, H1, I1, w1⟩
  refine wpAny_passesOwn hp (thn (hc pins s1 σ1 H1 _ I1 (turn n σ1 H1 w1)) fun b s2 ⟨H2, I2, q2⟩ => ?_)
  cases b with
  | true =>
    obtain ⟨N, hN, q2⟩ := q2
    rw [if_pos rfl]
    refine wpAny_passesOwn hp (thn (hb pins s2 σ1 H2 _ I2 q2) fun f s3 q3 => ?_)
    cases f with
    | next =>
      obtain ⟨σ3, H3, I3, n3⟩ := q3
      obtain ⟨m', hm, w3⟩ := hN σ3 H3 n3
      exact ⟨m', hm, σ3, H3, I3, w3⟩
    | cont =>
      obtain ⟨σ3, H3, I3, n3⟩ := q3
      obtain ⟨m', hm, w3⟩ := hN σ3 H3 n3
      exact ⟨m', hm, σ3, H3, I3, w3⟩
    | brk => exact q3
    | ret v => exact q3
  | false =>
    rw [if_neg Bool.false_ne_true]
    exact wpAny_execs_nil ⟨σ1, H2, I2, q2⟩
end

/-! ### what a loop or a comprehension walks -/
/-- at turn i: it yields x (the heap may grow), or it stops -/
structure It where
  go : Nat → Hp → Prop
  yld : Nat → Hp → V → Hp → Prop
  stop : Nat → Hp → Prop
/-- the iterator's own objects may turn: they are not the frame's, not pinned, younger than the entry (or a comprehension's own) -/
def FpOk (X : Cx) (pins : List (Addr × Obj)) (H : Hp) (b : Addr) : Prop :=
  H b = none ∧ b ≠ X.env.locals ∧ b ∉ X.fs ∧ (b ∈ X.ex ∨ X.s_0.heap.objs.size ≤ b) ∧ (∀ x c, X.env.cells.lookup x = some c → c ≠ b) ∧ ∀ p ∈ X.pn ++ pins, p.1 ≠ b
theorem Inv.fpOk {X : Cx} {pins : List (Addr × Obj)} {σ : St} {H H' : Hp} {s : Shared} {b : Addr} (I : Inv X pins σ H s) (hb : s.heap.objs.size ≤ b) (hn : H' b = none) : FpOk X pins H' b := by
  refine ⟨hn, Nat.ne_of_gt (Nat.lt_of_lt_of_le I.lt hb), I.nofs hb, .inr (Nat.le_trans I.sz hb), fun x c e z => ?_, fun p hp z => ?_⟩
  · obtain ⟨v, q⟩ := I.cell x c e
    exact absurd (Nat.lt_of_lt_of_le q.lt (by rw [z]; exact hb)) (Nat.lt_irrefl _)
  · exact absurd (Nat.lt_of_lt_of_le (Heap.lt_size (I.pin p hp).1) (by rw [z]; exact hb)) (Nat.lt_irrefl _)
structure Turn (P : Program) (w : World) (K : PySem.W.Frag) (tg : Expr) (J : It) (fp : List Addr) (it : Addr) (tn : Nat → Heap → Prop) : Prop where
  mem : it ∈ fp
  obj : ∀ i h, tn i h → ∀ b ∈ fp, ∃ o, h.get? b = some o ∧ ∀ v, o.data ≠ .cell v
  keep : ∀ i h h', tn i h → (∀ b ∈ fp, ∀ o, h.get? b = some o → h'.get? b = some o) → tn i h'
  item : ∀ (X : Cx), X.prog = P → X.w = w → X.K = K → X.calm = true → ∀ (i : Nat) (pins : List (Addr × Obj)) (s : Shared) (σ : St) (H : Hp) (E : Value → Shared → Prop), Inv X pins σ H s → (∀ b ∈ fp, FpOk X pins H b) → tn i s.heap → J.go i H →
    wpAny (model P w) X.A (pyNext (.ref it)) (fun r s1 => ∃ u, r = some u ∧
      wpAny (model P w) X.A (letOwnedTupleGo tg (.ref it) u) (fun _ s2 => ∃ x H', Inv X pins σ H' s2 ∧ RelV x u ∧ J.yld i H x H' ∧ tn (i + 1) s2.heap ∧ ∀ b ∈ fp, H' b = none) E s1) E s
  done : ∀ (X : Cx), X.prog = P → X.w = w → X.K = K → X.calm = true → ∀ (i : Nat) (pins : List (Addr × Obj)) (s : Shared) (σ : St) (H : Hp) (E : Value → Shared → Prop), Inv X pins σ H s → (∀ b ∈ fp, FpOk X pins H b) → tn i s.heap → J.stop i H →
    wpAny (model P w) X.A (pyNext (.ref it)) (fun r s1 => r = none ∧ Inv X pins σ H s1) E s
  self : ∀ (A : Around) (i : Nat) (s : Shared) (Q : Value → Shared → Prop) (E : Value → Shared → Prop), tn i s.heap → Q (.ref it) s → wpAny (model P w) A (pyIter (.ref it)) Q E s
abbrev TI := St → Hp → (It → Hp → Prop) → Prop
/-- an iterator has come -/
def PIE (X : Cx) (pins : List (Addr × Obj)) (σ : St) (tg : Expr) (R : It → Hp → Prop) (itv : Value) (s2 : Shared) : Prop :=
  ∃ (it : Addr) (fp : List Addr) (tn : Nat → Heap → Prop) (J : It) (H' : Hp), itv = .ref it ∧ Inv X pins σ H' s2 ∧ Turn X.prog X.w X.K tg J fp it tn ∧ tn 0 s2.heap ∧ (∀ b ∈ fp, FpOk X pins H' b) ∧ R J H'
def PI (X : Cx) (tg iter : Expr) (wi : TI) : Prop :=
  ∀ (pins : List (Addr × Obj)) (s : Shared) (σ : St) (H : Hp) (R : It → Hp → Prop), Inv X pins σ H s → wi σ H R →
    wpAny (model X.prog X.w) X.A (eval iter X.env) (fun v s1 => wpAny (model X.prog X.w) X.A (pyIter v) (PIE X pins σ tg R) X.xe s1) X.xe s

/-- the step ahead of the store is nothing for an iterator that keeps no tuple -/
theorem go_of {M : Model} {A : Around} {E : Value → Shared → Prop} {s : Shared} {tg : Expr} {it : Addr} {u : Value} {o : Obj} {n : String} {vs : Array Value} {Q : Unit → Shared → Prop} (ho : s.heap.get? it = some o) (hc : o.cls = .type n) (hd : o.data = .fields vs)
    (hn : ["enumerate", "zip", "dict_itemiterator", "dict_reverseitemiterator", "odict_iterator", "itertools.zip_longest", "itertools.pairwise"].contains n = false) (hQ : Q () s) : wpAny M A (letOwnedTupleGo tg (.ref it) u) Q E s := by
  unfold letOwnedTupleGo
  cases tg <;> first
    | exact wpAny_pure hQ
    | (cases u <;> first
        | exact wpAny_pure hQ
        | (refine wpAny_bind (wpAny_load ho ?_)
           rw [hc, hd]
           show wpAny M A (if (["enumerate", "zip", "dict_itemiterator", "dict_reverseitemiterator", "odict_iterator", "itertools.zip_longest", "itertools.pairwise"].contains n && vs[0]? == some (rawInt _)) = true then _ else _) Q E s
           rw [if_neg (by intro h; rw [hn, Bool.false_and] at h; cases h)]
           exact wpAny_pure hQ))

/-- the list at a, as it stands at each turn (a loop may append to it) -/
def Itl (K : PySem.W.Frag) (a : Addr) : It :=
  ⟨fun i H => ∃ xs x, SqL K H a xs ∧ xs[i]? = some x, fun i H x H' => H' = H ∧ ∀ xs, SqL K H a xs → xs[i]? = some x, fun i H => ∃ xs, SqL K H a xs ∧ xs.length ≤ i⟩
/-- lo, lo + 1, .. (n of them) -/
def Itr (lo : Int) (n : Nat) : It := ⟨fun i _ => i < n, fun i H x H' => H' = H ∧ x = .int (lo + i), fun i _ => n ≤ i⟩
theorem turn_list {P : Program} {w : World} {K : PySem.W.Frag} {tg : Expr} (a it : Addr) : Turn P w K tg (Itl K a) [it] it (fun i h => h.IsListIter it a i) where
  mem := by simp
  obj := fun i h st b hb => by
    have e : b = it := by simpa using hb
    subst e
    obtain ⟨o, e, c, d⟩ := st
    exact ⟨o, e, fun v z => by rw [d] at z; cases z⟩
  keep := fun i h h' st k => st.at fun o e => k it (by simp) o e
  item := by
    intro X hP hw hK hc i pins s σ H E I hf st hg
    subst hP hw hK
    obtain ⟨xs, x, hq, hx⟩ := hg
    obtain ⟨its, rv, p, hz⟩ := I.list hq
    obtain ⟨u, hu, ru⟩ := rv.get hx
    obtain ⟨f0, f1, f2, f3, f4, f5⟩ := hf it (by simp)
    refine wpAny_pyNext_list_item st p.isList (x := u) (by simpa using hu) fun h' st' sb => ?_
    have I1 : Inv X pins σ H { s with heap := h' } := I.turned (t' := s.toks) (fun b o hb e => (sb.2 b hb).trans e) f0 f1 f3 f4 f5
    obtain ⟨o, e, c, d⟩ := id st'
    exact ⟨u, rfl, go_of (s := { s with heap := h' }) e c d (by decide) ⟨x, H, I1, ru, ⟨rfl, fun ys hy => by rw [I.list_inj hy hq]; exact hx⟩, st', fun b hb => (hf b hb).1⟩⟩
  done := by
    intro X hP hw hK hc i pins s σ H E I hf st hg
    subst hP hw hK
    obtain ⟨xs, hq, hx⟩ := hg
    obtain ⟨its, rv, p, hz⟩ := I.list hq
    obtain ⟨f0, f1, f2, f3, f4, f5⟩ := hf it (by simp)
    have hl := rv.length
    exact wpAny_pyNext_list_end (I.ok.hd hc) st p.isList (by simp; omega) fun h' eb => ⟨rfl, I.turned (t' := s.toks) (fun b o hb e => eb b o hb e) f0 f1 f3 f4 f5⟩
  self := fun _ _ _ _ _ st h => wpAny_pyIter_listiter st h
theorem turn_range {P : Program} {w : World} {K : PySem.W.Frag} {tg : Expr} (it : Addr) (lo : Int) (n : Nat) : Turn P w K tg (Itr lo n) [it] it (fun i h => IsRangeIter h it (lo + (i : Nat) * 1) ((n : Int) - (i : Nat)) 1) where
  mem := by simp
  obj := fun i h st b hb => by
    have e : b = it := by simpa using hb
    subst e
    exact ⟨_, st, fun v z => by
      have z' : Data.fields _ = Data.cell v := z
      cases z'⟩
  keep := fun i h h' st k => k it (by simp) _ st
  item := by
    intro X hP hw hK hc i pins s σ H E I hf st hg
    subst hP hw hK
    obtain ⟨f0, f1, f2, f3, f4, f5⟩ := hf it (by simp)
    have W := Walks.range (prog := X.prog) (w := X.w) (I.ok.hd hc) it lo 1 n
    refine W.item i s _ _ hg st fun v h' tk hv st' kk => ?_
    obtain ⟨t, rfl⟩ := hv
    have I1 : Inv X pins σ H { s with heap := h', toks := tk } := I.turned (fun b o hb e => kk b o (by simpa using hb) e) f0 f1 f3 f4 f5
    refine ⟨_, rfl, go_of (s := { s with heap := h', toks := tk }) (n := "range_iterator") st' rfl rfl (by decide) ⟨.int (lo + i), H, I1, ⟨t, ?_⟩, ⟨rfl, rfl⟩, st', fun b hb => (hf b hb).1⟩⟩
    rw [Int.mul_one]
  done := by
    intro X hP hw hK hc i pins s σ H E I hf st hg
    subst hP hw hK
    obtain ⟨f0, f1, f2, f3, f4, f5⟩ := hf it (by simp)
    exact wpAny_pyNext_range_end (I.ok.hd hc) st (by have : n ≤ i := hg; omega) fun h' eb => ⟨rfl, I.turned (t' := s.toks) (fun b o hb e => eb b o hb e) f0 f1 f3 f4 f5⟩
  self := fun _ _ _ _ _ st h => wpAny_pyIter_rangeiter st h
end L2

namespace L2
open PySem PySem.Spec PyProof.Rows
section
variable {X : Cx} {tg : Expr}
def iList (K : PySem.W.Frag) (tl : TE) : TI := fun σ H R => tl σ H fun x H1 => ∃ a, x = .ref a ∧ (∃ xs, SqL K H1 a xs) ∧ R (Itl K a) H1
theorem pi_list {l : Expr} {tl : TE} (hl : PE X l tl) : PI X tg l (iList X.K tl) := by
  intro pins s σ H R I h
  refine thn (hl pins s σ H _ I h) fun v s1 ⟨x, H1, I1, r1, q1⟩ => ?_
  obtain ⟨a, e, ⟨xs, hq⟩, q⟩ := q1
  subst e
  cases r1
  obtain ⟨its, rv, p, hz⟩ := I1.list hq
  refine wpAny_pyIter_list p.isList ?_
  refine ⟨s1.heap.objs.size, [s1.heap.objs.size], _, _, H1, rfl, I1.kept (t' := s1.toks) fun b o e => Heap.get?_push_of_some _ e, turn_list a _, ⟨_, Heap.get?_push_size _ rfl, rfl, rfl⟩, fun b hb => ?_, q⟩
  have e : b = s1.heap.objs.size := by simpa using hb
  subst e
  exact I1.fpOk (Nat.le_refl _) (I1.hok.fresh (Nat.le_refl _))
/-- a range object just made, walked -/
theorem range_it {pins : List (Addr × Obj)} {σ : St} {H : Hp} {s : Shared} {R : It → Hp → Prop} {E : Value → Shared → Prop} {lo hi : Int} {t u v : Tok} {tk : Nat} (I : Inv X pins σ H s) (h1 : -(2 ^ 62) ≤ lo) (h2 : lo < 2 ^ 62) (h3 : -(2 ^ 62) ≤ hi) (h4 : hi < 2 ^ 62)
    (q : R (Itr lo (hi - lo).toNat) H) : wpAny (model X.prog X.w) X.A (pyIter (.ref s.heap.objs.size)) (PIE X pins σ tg R) E { s with heap := s.heap.push { cls := .type "range", data := .fields #[.int lo t, .int hi u, .int 1 v] }, toks := tk } := by
  refine wpAny_pyIter_range (IsRange.new ..) (small_one h1 h2 h3 h4) ?_
  have I1 : Inv X pins σ H { s with heap := s.heap.push { cls := .type "range", data := .fields #[.int lo t, .int hi u, .int 1 v] }, toks := tk } := I.kept fun b o e => Heap.get?_push_of_some _ e
  refine ⟨(s.heap.push { cls := .type "range", data := .fields #[.int lo t, .int hi u, .int 1 v] }).objs.size, [(s.heap.push { cls := .type "range", data := .fields #[.int lo t, .int hi u, .int 1 v] }).objs.size], _, _, H, rfl,
    I1.kept (t' := tk) fun b o e => Heap.get?_push_of_some _ e, turn_range _ lo (hi - lo).toNat, ?_, fun b hb => ?_, q⟩
  · have e1 : lo + ((0 : Nat) : Int) * 1 = lo := by simp
    have e2 : (((hi - lo).toNat : Nat) : Int) - ((0 : Nat) : Int) = Builtin.Range.rangeSize lo hi 1 := by rw [rangeSize_one]; split <;> omega
    show IsRangeIter _ _ (lo + ((0 : Nat) : Int) * 1) ((((hi - lo).toNat : Nat) : Int) - ((0 : Nat) : Int)) 1
    rw [e1, e2]
    exact Heap.get?_push_size _ rfl
  · have e : b = (s.heap.push { cls := .type "range", data := .fields #[.int lo t, .int hi u, .int 1 v] }).objs.size := by simpa using hb
    subst e
    exact I1.fpOk (Nat.le_refl _) (I1.hok.fresh (Nat.le_refl _))
def iRng1 (ta : TA) : TI := fun σ H R => ta σ H fun vs H1 => ∃ j : Int, vs = [.int j] ∧ -(2 ^ 62) ≤ j ∧ j < 2 ^ 62 ∧ R (Itr 0 j.toNat) H1
theorem pi_range1 {a : Expr} {ta : TA} {p pos : Pos} (hg : Gl X "range") (hm : X.mg "range" = none) (ha : PA X [a] ta) (hs : starEach [a] X.env = [(false, eval a X.env)] := by rfl) : PI X tg (.Call (.Name "range" p) [a] [] pos) (iRng1 ta) := by
  intro pins s σ H R I h
  refine Call_ (ld_blt I hg hm boot_range (PyProof.Rows.callWith_type1 (thn (ha pos pins s σ H _ I h) fun us s1 ⟨vs, H1, I1, r1, q1⟩ => ?_) hs rfl))
  obtain ⟨j, e, q1, q2, q⟩ := q1
  subst e
  cases r1 with
  | cons r rr =>
    cases rr
    obtain ⟨t, rfl⟩ := r
    exact call_range_1 (range_it I1 (by omega) (by omega) q1 q2 (by simpa using q))

/-! ### for -/
/-- W: the invariant by the turn and a measure; N: what the body is to reach -/
def tFor (wi : TI) (g : TG) (tb : TS) : TS := fun D σ H => wi σ H fun J H1 => ∃ W : Nat → Nat → St → Hp → Prop, (∃ m, W 0 m σ H1) ∧ ∀ i m σ H, W i m σ H →
  (J.stop i H ∧ D.nx σ H) ∨ (J.go i H ∧ ∃ N : St → Hp → Prop, (∀ σ' H', N σ' H' → ∃ m', m' < m ∧ W (i + 1) m' σ' H') ∧ ∀ x H', J.yld i H x H' → g x σ H' fun σ2 H2 => tb { D with nx := N, ct := N, bk := D.nx } σ2 H2)
/-- the records at fp as they stand -/
def pinsAt (fp : List Addr) (h : Heap) : List (Addr × Obj) := fp.filterMap fun b => (h.get? b).map fun o => (b, o)
theorem mem_pinsAt {fp : List Addr} {h : Heap} {b : Addr} {o : Obj} (hb : b ∈ fp) (e : h.get? b = some o) : (b, o) ∈ pinsAt fp h := List.mem_filterMap.mpr ⟨b, hb, by rw [e]; rfl⟩
theorem of_pinsAt {fp : List Addr} {h : Heap} {p : Addr × Obj} (hp : p ∈ pinsAt fp h) : p.1 ∈ fp ∧ h.get? p.1 = some p.2 := by
  obtain ⟨b, hb, e⟩ := List.mem_filterMap.mp hp
  cases q : h.get? b with
  | none => rw [q] at e; cases e
  | some o =>
    rw [q] at e
    have e' : (b, o) = p := Option.some.inj e
    subst e'
    exact ⟨hb, q⟩
theorem Inv.pinned {pins : List (Addr × Obj)} {σ : St} {H : Hp} {s : Shared} {fp : List Addr} (I : Inv X pins σ H s) (hf : ∀ b ∈ fp, FpOk X pins H b) (ho : ∀ b ∈ fp, ∃ o, s.heap.get? b = some o ∧ ∀ v, o.data ≠ .cell v) : Inv X (pins ++ pinsAt fp s.heap) σ H s :=
  I.pins_of fun p hp => (List.mem_append.mp hp).elim (fun z => I.pin p (List.mem_append_right _ z)) fun z => by
    obtain ⟨hb, e⟩ := of_pinsAt z
    obtain ⟨f0, f1, f2, _⟩ := hf p.1 hb
    obtain ⟨o, e', d⟩ := ho p.1 hb
    rw [e] at e'; cases e'
    exact ⟨e, f0, f1, f2, d⟩
theorem Inv.unpinned {pins pl : List (Addr × Obj)} {σ : St} {H : Hp} {s : Shared} (I : Inv X (pins ++ pl) σ H s) : Inv X pins σ H s := I.pins_of fun p hp => I.pin p (List.mem_append_right _ (List.mem_append_left _ hp))
theorem ps_for {iter : Expr} {body : List Stmt} {wi : TI} {g : TG} {tb : TS} {pos : Pos} (hp : PassesOwn (model X.prog X.w) X.A X.env X.xe) (hc : X.calm = true) (hi : PI X tg iter wi) (hg : PG X tg g) (hb : PSs X body tb)
    (hs : ∀ x, foldedSetIterable iter X.env x = pure x := by intro _; rfl) : PS X (.For tg iter body [] pos) (tFor wi g tb) := by
  intro pins s σ H D I h
  refine wpAny_For (thn (hi pins s σ H _ I h) fun v s1 h1 => thn h1 fun itv s2 h2 => ?_) hs
  obtain ⟨it, fp, tn, J, H2, e, I2, T, st2, f2, W, ⟨m0, w0⟩, turn⟩ := h2
  subst e
  -- what stays true of the iterator's objects through the loop
  have stat : ∀ {H' : Hp}, (∀ b ∈ fp, H' b = none) → ∀ b ∈ fp, FpOk X pins H' b := fun hn b hb => ⟨hn b hb, (f2 b hb).2⟩
  refine codeAny_forLoop_any (fun n s' => ∃ i σ' H', Inv X pins σ' H' s' ∧ tn i s'.heap ∧ (∀ b ∈ fp, H' b = none) ∧ W i n σ' H') ?_ m0 ⟨0, σ, H2, I2, st2, fun b hb => (f2 b hb).1, w0⟩
  rintro n s3 ⟨i, σ3, H3, I3, st3, fr3, w3⟩
  rcases turn i n σ3 H3 w3 with ⟨stop, qn⟩ | ⟨go, N, hN, step⟩
  · refine wpAny_passesOwn hp (thn (T.done X rfl rfl rfl hc i pins s3 σ3 H3 X.xe I3 (stat fr3) st3 stop) fun r s4 ⟨hr, I4⟩ => ?_)
    subst hr
    exact wpAny_execs_nil ⟨σ3, H3, I4, qn⟩
  · refine wpAny_passesOwn hp (thn (T.item X rfl rfl rfl hc i pins s3 σ3 H3 X.xe I3 (stat fr3) st3 go) fun r s4 ⟨u, hr, h4⟩ => ?_)
    subst hr
    refine wpAny_passesOwn hp (thn h4 fun _ s5 ⟨x, H5, I5, r5, y5, st5, fr5⟩ => ?_)
    have I5' := I5.pinned (stat fr5) (T.obj _ _ st5)
    refine wpAny_passesOwn hp (thn (hg _ s5 σ3 H5 x u _ I5' r5 (step x H5 y5)) fun _ s6 ⟨σ6, H6, I6, q6⟩ => ?_)
    refine wpAny_passesOwn hp (thn (hb _ s6 σ6 H6 _ I6 q6) fun f s7 q7 => ?_)
    have again : ∀ {σ7 : St} {H7 : Hp}, Inv X (pins ++ pinsAt fp s5.heap) σ7 H7 s7 → N σ7 H7 → ∃ m, m < n ∧ ∃ i σ' H', Inv X pins σ' H' s7 ∧ tn i s7.heap ∧ (∀ b ∈ fp, H' b = none) ∧ W i m σ' H' := fun {σ7 H7} I7 n7 => by
      obtain ⟨m', hm, w7⟩ := hN σ7 H7 n7
      refine ⟨m', hm, i + 1, σ7, H7, I7.unpinned, T.keep _ _ _ st5 fun b hb o e => (I7.pin (b, o) (List.mem_append_right _ (List.mem_append_right _ (mem_pinsAt hb e)))).1, fun b hb => ?_, w7⟩
      obtain ⟨o, e, d⟩ := T.obj _ _ st5 b hb
      exact (I7.pin (b, o) (List.mem_append_right _ (List.mem_append_right _ (mem_pinsAt hb e)))).2.1
    cases f with
    | next => obtain ⟨σ7, H7, I7, n7⟩ := q7; exact again I7 n7
    | cont => obtain ⟨σ7, H7, I7, n7⟩ := q7; exact again I7 n7
    | brk => obtain ⟨σ7, H7, I7, q7⟩ := q7; exact ⟨σ7, H7, I7.unpinned, q7⟩
    | ret v => obtain ⟨x7, σ7, H7, I7, r7, q7⟩ := q7; exact ⟨x7, σ7, H7, I7.unpinned, r7, q7⟩
end

/-! ### the forms one uses -/
/-- over a list that the body leaves as it is -/
theorem for_list {K : PySem.W.Frag} {a : Addr} {xs : List V} {g : TG} {tb : TS} {D : Ends} {σ : St} {H : Hp} (Pv : Nat → St → Hp → Prop) (h0 : Pv 0 σ H) (hl : ∀ i σ H, i ≤ xs.length → Pv i σ H → SqL K H a xs)
    (hs : ∀ i x σ H, xs[i]? = some x → Pv i σ H → g x σ H fun σ2 H2 => tb { D with nx := Pv (i + 1), ct := Pv (i + 1), bk := D.nx } σ2 H2) (hd : ∀ σ H, Pv xs.length σ H → D.nx σ H) :
    ∃ W : Nat → Nat → St → Hp → Prop, (∃ m, W 0 m σ H) ∧ ∀ i m σ H, W i m σ H →
      ((Itl K a).stop i H ∧ D.nx σ H) ∨ ((Itl K a).go i H ∧ ∃ N : St → Hp → Prop, (∀ σ' H', N σ' H' → ∃ m', m' < m ∧ W (i + 1) m' σ' H') ∧ ∀ x H', (Itl K a).yld i H x H' → g x σ H' fun σ2 H2 => tb { D with nx := N, ct := N, bk := D.nx } σ2 H2) := by
  refine ⟨fun i m σ H => m = xs.length - i ∧ i ≤ xs.length ∧ Pv i σ H, ⟨xs.length, by simp, Nat.zero_le _, h0⟩, ?_⟩
  rintro i m σ H ⟨rfl, hi, p⟩
  have q := hl i σ H hi p
  by_cases hlt : i < xs.length
  · refine .inr ⟨⟨xs, xs[i], q, by simp [hlt]⟩, Pv (i + 1), fun σ' H' p' => ⟨xs.length - (i + 1), by omega, rfl, hlt, p'⟩, fun x H' y => ?_⟩
    obtain ⟨e, y⟩ := y
    subst e
    exact hs i x σ _ (y xs q) p
  · have e : i = xs.length := by omega
    subst e
    exact .inl ⟨⟨xs, q, Nat.le_refl _⟩, hd σ H p⟩
theorem for_range {lo : Int} {n : Nat} {g : TG} {tb : TS} {D : Ends} {σ : St} {H : Hp} (Pv : Nat → St → Hp → Prop) (h0 : Pv 0 σ H)
    (hs : ∀ i σ H, i < n → Pv i σ H → g (.int (lo + i)) σ H fun σ2 H2 => tb { D with nx := Pv (i + 1), ct := Pv (i + 1), bk := D.nx } σ2 H2) (hd : ∀ σ H, Pv n σ H → D.nx σ H) :
    ∃ W : Nat → Nat → St → Hp → Prop, (∃ m, W 0 m σ H) ∧ ∀ i m σ H, W i m σ H →
      ((Itr lo n).stop i H ∧ D.nx σ H) ∨ ((Itr lo n).go i H ∧ ∃ N : St → Hp → Prop, (∀ σ' H', N σ' H' → ∃ m', m' < m ∧ W (i + 1) m' σ' H') ∧ ∀ x H', (Itr lo n).yld i H x H' → g x σ H' fun σ2 H2 => tb { D with nx := N, ct := N, bk := D.nx } σ2 H2) := by
  refine ⟨fun i m σ H => m = n - i ∧ i ≤ n ∧ Pv i σ H, ⟨n, by simp, Nat.zero_le _, h0⟩, ?_⟩
  rintro i m σ H ⟨rfl, hi, p⟩
  by_cases hlt : i < n
  · refine .inr ⟨hlt, Pv (i + 1), fun σ' H' p' => ⟨n - (i + 1), by omega, rfl, hlt, p'⟩, fun x H' y => ?_⟩
    obtain ⟨e, y⟩ := y
    subst e y
    exact hs i σ _ hlt p
  · have e : i = n := by omega
    subst e
    exact .inl ⟨Nat.le_refl _, hd σ H p⟩
end L2

namespace L2
open PySem PySem.Spec PyProof.Rows

abbrev R2 := V → V → Hp → VK → Prop
/-- a two-place operation on values: f is binaryOp op, inplaceOp op or compareOp op -/
def OpR (X : Cx) (f : Value → Value → Sem Value) (r : R2) : Prop :=
  ∀ (pins : List (Addr × Obj)) (s : Shared) (σ : St) (H : Hp) (x y : V) (v u : Value) (Q : VK), Inv X pins σ H s → RelV x v → RelV y u → r x y H Q →
    wpAny (model X.prog X.w) X.A (f v u) (EP X pins σ Q) X.xe s
/-- a call of a value that is known (a builtin, a type) with values -/
def CallR (X : Cx) (f : Value) (r : List V → Hp → VK → Prop) : Prop :=
  ∀ (pins : List (Addr × Obj)) (s : Shared) (σ : St) (H : Hp) (xs : List V) (us : List Value) (Q : VK), Inv X pins σ H s → Vals xs us → r xs H Q →
    wpAny (model X.prog X.w) X.A (call f us) (EP X pins σ Q) X.xe s
/-- a value's truth -/
def TruR (X : Cx) (r : V → Hp → (Bool → Hp → Prop) → Prop) : Prop :=
  ∀ (pins : List (Addr × Obj)) (s : Shared) (σ : St) (H : Hp) (x : V) (v : Value) (Q : Bool → Hp → Prop), Inv X pins σ H s → RelV x v → r x H Q →
    wpAny (model X.prog X.w) X.A (truthy v) (TP X pins σ Q) X.xe s

def tOp (r : R2) (ta tb : TE) : TE := fun σ H Q => ta σ H fun x H1 => tb σ H1 fun y H2 => r x y H2 Q
/-- ints in, under C, and a value out -/
def rI (C : Int → Int → Prop) (g : Int → Int → V) : R2 := fun x y H Q => ∃ i j, x = .int i ∧ y = .int j ∧ C i j ∧ Q (g i j) H
def rI0 (g : Int → Int → V) : R2 := fun x y H Q => ∃ i j, x = .int i ∧ y = .int j ∧ Q (g i j) H

section
variable {X : Cx} {a b c : Expr} {ta tb tc : TE} {pos : Pos}

theorem binT (ha : PE X a ta) (hb : PE X b tb) {pins : List (Addr × Obj)} {s : Shared} {σ : St} {H : Hp} {R : V → V → Hp → Prop} (I : Inv X pins σ H s)
    (h : ta σ H fun x H1 => tb σ H1 fun y H2 => R x y H2) {Q : Value → Shared → Prop} {f : Value → Value → Sem Value}
    (hf : ∀ v u s2 x y H2, Inv X pins σ H2 s2 → RelV x v → RelV y u → R x y H2 → wpAny (model X.prog X.w) X.A (f v u) Q X.xe s2) :
    wpAny (model X.prog X.w) X.A (eval a X.env) (fun v s₁ => wpAny (model X.prog X.w) X.A (eval b X.env) (fun u s₂ => wpAny (model X.prog X.w) X.A (f v u) Q X.xe s₂) X.xe s₁) X.xe s := by
  refine thn (ha pins s σ H _ I h) fun v s1 ⟨x, H1, I1, r1, q1⟩ => ?_
  refine thn (hb pins s1 σ H1 _ I1 q1) fun u s2 ⟨y, H2, I2, r2, q2⟩ => ?_
  exact hf v u s2 x y H2 I2 r1 r2 q2

theorem pe_op {op : Operator} {r : R2} (ho : OpR X (binaryOp op) r) (ha : PE X a ta) (hb : PE X b tb) : PE X (.BinOp a op b pos) (tOp r ta tb) := by
  intro pins s σ H Q I h
  exact wpAny_BinOp (binT ha hb I h fun v u s2 x y H2 I2 rx ry q => ho pins s2 σ H2 x y v u Q I2 rx ry q)

/-! ### ints -/
theorem opI {f : Value → Value → Sem Value} {C : Int → Int → Prop} {g : Int → Int → Int}
    (rule : ∀ (i j : Int) (t u : Tok) (s : Shared) (Q : Value → Shared → Prop) (E : Value → Shared → Prop), C i j → Q (.int (g i j) s.toks) { s with toks := s.toks + 1 } → wpAny (model X.prog X.w) X.A (f (.int i t) (.int j u)) Q E s) :
    OpR X f (rI C fun i j => .int (g i j)) := by
  intro pins s σ H x y v u Q I rx ry h
  obtain ⟨i, j, rfl, rfl, hc, q⟩ := h
  obtain ⟨t, rfl⟩ := rx
  obtain ⟨t', rfl⟩ := ry
  exact rule i j t t' s _ _ hc ⟨.int (g i j), H, I.tok _, ⟨_, rfl⟩, q⟩
theorem opI0 {f : Value → Value → Sem Value} {g : Int → Int → Int}
    (rule : ∀ (i j : Int) (t u : Tok) (s : Shared) (Q : Value → Shared → Prop) (E : Value → Shared → Prop), Q (.int (g i j) s.toks) { s with toks := s.toks + 1 } → wpAny (model X.prog X.w) X.A (f (.int i t) (.int j u)) Q E s) :
    OpR X f (rI0 fun i j => .int (g i j)) := by
  intro pins s σ H x y v u Q I rx ry h
  obtain ⟨i, j, rfl, rfl, q⟩ := h
  obtain ⟨t, rfl⟩ := rx
  obtain ⟨t', rfl⟩ := ry
  exact rule i j t t' s _ _ ⟨.int (g i j), H, I.tok _, ⟨_, rfl⟩, q⟩
theorem opB0 {f : Value → Value → Sem Value} {g : Int → Int → Bool}
    (rule : ∀ (i j : Int) (t u : Tok) (s : Shared) (Q : Value → Shared → Prop) (E : Value → Shared → Prop), Q (.bool (g i j)) s → wpAny (model X.prog X.w) X.A (f (.int i t) (.int j u)) Q E s) :
    OpR X f (rI0 fun i j => .bl (g i j)) := by
  intro pins s σ H x y v u Q I rx ry h
  obtain ⟨i, j, rfl, rfl, q⟩ := h
  obtain ⟨t, rfl⟩ := rx
  obtain ⟨t', rfl⟩ := ry
  exact rule i j t t' s _ _ ⟨.bl (g i j), H, I, rfl, q⟩

def CMul (i j : Int) : Prop := (-(2 ^ 64) < i ∧ i < 2 ^ 64) ∨ (-(2 ^ 64) < j ∧ j < 2 ^ 64)
theorem CMul.ok {i j : Int} (h : CMul i j) : IntMulOk i j := by
  rcases h with ⟨h1, h2⟩ | ⟨h1, h2⟩
  · exact .of_left (intBits_le_64 h1 h2)
  · exact .of_right (intBits_le_64 h1 h2)

theorem op_add : OpR X (binaryOp .Add) (rI0 fun i j => .int (i + j)) := opI0 fun _ _ _ _ _ _ _ q => add_int q
theorem op_sub : OpR X (binaryOp .Sub) (rI0 fun i j => .int (i - j)) := opI0 fun _ _ _ _ _ _ _ q => sub_int q
theorem op_mul : OpR X (binaryOp .Mult) (rI CMul fun i j => .int (i * j)) := opI fun _ _ _ _ _ _ _ hc q => mul_int q hc.ok
/-- % by a positive divisor of any size -/
theorem op_mod : OpR X (binaryOp .Mod) (rI (fun _ j => 0 < j) fun i j => .int (i % j)) := opI fun i j _ _ _ _ _ hc q => by
  have h1 : (0 : Int) < j := hc
  exact mod_int' (by omega) (by rw [Int.fmod_eq_emod_of_nonneg i (by omega)]; exact q)



/-! ### bools among ints: n += (a < b) -/
end

/-! ### comparisons -/
/-- the scalars that == tells apart as data does -/
def scal : V → V → Bool
  | .non, .non => true | .non, .int _ => true | .int _, .non => true | .non, .bl _ => true | .bl _, .non => true | .non, .str _ => true | .str _, .non => true
  | .int _, .int _ => true | .bl _, .bl _ => true | .str _, .str _ => true | .byt _, .byt _ => true
  | .int _, .str _ => true | .str _, .int _ => true | .bl _, .str _ => true | .str _, .bl _ => true
  | _, _ => false
def rEq : R2 := fun x y H Q => scal x y = true ∧ Q (.bl (decide (x = y))) H

theorem dec_int {i j : Int} : decide (V.int i = V.int j) = (i == j) := by
  rw [Bool.eq_iff_iff]
  simp
theorem dec_bl {i j : Bool} : decide (V.bl i = V.bl j) = (i == j) := by
  rw [Bool.eq_iff_iff]
  simp
theorem dec_str {i j : Str} : decide (V.str i = V.str j) = (i == j) := by
  rw [Bool.eq_iff_iff]
  simp
theorem dec_byt {i j : Array UInt8} : decide (V.byt i = V.byt j) = (i.toList == j.toList) := by
  rw [Bool.eq_iff_iff]
  cases i
  cases j
  simp

section
variable {X : Cx} {a b c : Expr} {ta tb tc : TE} {pos : Pos}
theorem fin_bl {pins : List (Addr × Obj)} {σ : St} {H : Hp} {s : Shared} {Q : VK} {k k' : Bool} (I : Inv X pins σ H s) (q : Q (.bl k) H) (e : k = k') : EP X pins σ Q (.bool k') s := by
  subst e
  exact ⟨.bl k, H, I, rfl, q⟩
theorem op_eq : OpR X (compareOp .Eq) rEq := by
  intro pins s σ H x y v u Q I rx ry h
  obtain ⟨hs, q⟩ := h
  cases x with
  | non =>
    cases rx
    cases y with
    | non => cases ry; exact PySem.EqNone.eq_none_none (fin_bl I q (by simp))
    | bl j => cases ry; exact PySem.EqNone.eq_none_bool (fin_bl I q (by simp))
    | int j => obtain ⟨t', rfl⟩ := ry; exact PySem.EqNone.eq_none_int (fin_bl I q (by simp))
    | str j => obtain ⟨t', rfl⟩ := ry; exact PySem.EqNone.eq_none_str (fin_bl I q (by simp))
    | _ => exact absurd (show false = true from hs) Bool.false_ne_true
  | bl i =>
    cases rx
    cases y with
    | non => cases ry; exact PySem.EqNone.eq_bool_none (fin_bl I q (by simp))
    | bl j => cases ry; exact eq_bool (fin_bl I q dec_bl)
    | str j => obtain ⟨t', rfl⟩ := ry; exact PySem.EqMixed.eq_bool_str (fin_bl I q (by simp))
    | _ => exact absurd (show false = true from hs) Bool.false_ne_true
  | int i =>
    obtain ⟨t, rfl⟩ := rx
    cases y with
    | non => cases ry; exact PySem.EqNone.eq_int_none (fin_bl I q (by simp))
    | int j => obtain ⟨t', rfl⟩ := ry; exact eq_int (fin_bl I q dec_int)
    | str j => obtain ⟨t', rfl⟩ := ry; exact PySem.EqMixed.eq_int_str (fin_bl I q (by simp))
    | _ => exact absurd (show false = true from hs) Bool.false_ne_true
  | str i =>
    obtain ⟨t, rfl⟩ := rx
    cases y with
    | non => cases ry; exact PySem.EqNone.eq_str_none (fin_bl I q (by simp))
    | bl j => cases ry; exact PySem.EqMixed.eq_str_bool (fin_bl I q (by simp))
    | int j => obtain ⟨t', rfl⟩ := ry; exact PySem.EqMixed.eq_str_int (fin_bl I q (by simp))
    | str j => obtain ⟨t', rfl⟩ := ry; exact eq_str (fin_bl I q dec_str)
    | _ => exact absurd (show false = true from hs) Bool.false_ne_true
  | byt i =>
    obtain ⟨t, rfl⟩ := rx
    cases y with
    | byt j => obtain ⟨t', rfl⟩ := ry; exact PySem.W.eq_bytes (fin_bl I q dec_byt)
    | _ => exact absurd (show false = true from hs) Bool.false_ne_true
  | _ => cases y <;> exact absurd (show false = true from hs) Bool.false_ne_true

theorem op_lt : OpR X (compareOp .Lt) (rI0 fun i j => .bl (decide (i < j))) := opB0 fun _ _ _ _ _ _ _ q => lt_int q
theorem op_le : OpR X (compareOp .LtE) (rI0 fun i j => .bl (decide (i ≤ j))) := opB0 fun _ _ _ _ _ _ _ q => le_int q




theorem nomark (b : Expr) {op : CmpOp} (h : op ≠ .In := by decide) (h2 : op ≠ .NotIn := by decide) : behindInMarks op b = false := by
  have e1 : (op == CmpOp.In) = false := by cases op <;> first | rfl | exact absurd rfl h
  have e2 : (op == CmpOp.NotIn) = false := by cases op <;> first | rfl | exact absurd rfl h2
  cases b <;> simp [behindInMarks, e1, e2]
/-- a reading of a value as a test -/
def tTest (t : TE) : TT := fun σ H Q => t σ H fun x H' => ∃ k, x = .bl k ∧ Q k H'
theorem pt_cmpR {op : CmpOp} {r : R2} (ho : OpR X (compareOp op) r) (ha : PE X a ta) (hb : PE X b tb) (hm : behindInMarks op b = false) : PT X (.Compare a [op] [b] pos) (tTest (tOp r ta tb)) := by
  intro pins s σ H Q I h
  refine wpAny_isTrue_Compare1 (thn (ha pins s σ H _ I h) fun v s1 ⟨x, H1, I1, r1, q1⟩ => thn (hb pins s1 σ H1 _ I1 q1) fun u s2 ⟨y, H2, I2, r2, q2⟩ =>
    thn (ho pins s2 σ H2 x y v u _ I2 r1 r2 q2) fun c s3 ⟨z, H3, I3, r3, k, e, q3⟩ => ?_) hm
  subst e
  cases r3
  exact wpAny_truthy_bool ⟨H3, I3, q3⟩
/-- a op1 b op2 c -/
def tChain (r r' : R2) (ta tb tc : TE) : TE := fun σ H Q => ta σ H fun x H1 => tb σ H1 fun y H2 => r x y H2 fun z H3 => ∃ k, z = .bl k ∧
  (if k = true then tc σ H3 fun w' H4 => r' y w' H4 Q else Q (.bl false) H3)
theorem pe_chain {op op' : CmpOp} {r r' : R2} (ho : OpR X (compareOp op) r) (ho' : OpR X (compareOp op') r') (ha : PE X a ta) (hb : PE X b tb) (hc : PE X c tc)
    (hm : lastMarks [op, op'] [b, c] = false := by with_unfolding_all rfl) : PE X (.Compare a [op, op'] [b, c] pos) (tChain r r' ta tb tc) := by
  intro pins s σ H Q I h
  refine Compare_chain (thn (ha pins s σ H _ I h) fun v s1 ⟨x, H1, I1, r1, q1⟩ => chain_link (thn (hb pins s1 σ H1 _ I1 q1) fun u s2 ⟨y, H2, I2, r2, q2⟩ =>
    thn (ho pins s2 σ H2 x y v u _ I2 r1 r2 q2) fun d s3 ⟨z, H3, I3, r3, k, e, q3⟩ => ?_)) hm
  subst e
  cases r3
  refine wpAny_truthy_bool ?_
  cases k with
  | false => exact ite_ff ⟨.bl false, H3, I3, rfl, q3⟩
  | true => exact ite_tt (chain_last (thn (hc pins s3 σ H3 _ I3 q3) fun w' s4 ⟨z', H4, I4, r4, q4⟩ => ho' pins s4 σ H4 y z' u w' Q I4 r2 r4 q4))
theorem pt_chain {op op' : CmpOp} {r r' : R2} (ho : OpR X (compareOp op) r) (ho' : OpR X (compareOp op') r') (ha : PE X a ta) (hb : PE X b tb) (hc : PE X c tc)
    (hm : lastMarks [op, op'] [b, c] = false := by with_unfolding_all rfl) : PT X (.Compare a [op, op'] [b, c] pos) (tTest (tChain r r' ta tb tc)) := by
  intro pins s σ H Q I h
  refine isTrue_chain (thn (ha pins s σ H _ I h) fun v s1 ⟨x, H1, I1, r1, q1⟩ => test_link (thn (hb pins s1 σ H1 _ I1 q1) fun u s2 ⟨y, H2, I2, r2, q2⟩ =>
    thn (ho pins s2 σ H2 x y v u _ I2 r1 r2 q2) fun d s3 ⟨z, H3, I3, r3, k, e, q3⟩ => ?_)) hm
  subst e
  cases r3
  refine wpAny_truthy_bool ?_
  cases k with
  | false =>
    obtain ⟨k', e', q'⟩ := q3
    cases e'
    exact ite_ff ⟨H3, I3, q'⟩
  | true =>
    refine ite_tt (test_last (thn (hc pins s3 σ H3 _ I3 q3) fun w' s4 ⟨z', H4, I4, r4, q4⟩ => thn (ho' pins s4 σ H4 y z' u w' _ I4 r2 r4 q4) fun d' s5 ⟨z2, H5, I5, r5, k2, e2, q5⟩ => ?_))
    subst e2
    cases r5
    exact wpAny_truthy_bool ⟨H5, I5, q5⟩

/-! ### truth -/
/-- a value's truth by the abstract heap -/
def TruV (K : PySem.W.Frag) (x : V) (H : Hp) (k : Bool) : Prop :=
  match x with
  | .non => k = false
  | .bl b => k = b
  | .int i => k = (i != 0)
  | .str y => y.length ≤ sizeLine ∧ k = ((y.length : Int) != 0)
  | .byt y => y.size ≤ sizeLine ∧ k = ((y.size : Int) != 0)
  | .ref p => (∃ xs, SqL K H p xs ∧ k = !xs.isEmpty) ∨ (∃ xs, SqT K H p xs ∧ k = !xs.isEmpty) ∨ ∃ kvs, H p = some (.dK kvs) ∧ k = !kvs.isEmpty
  | _ => False
theorem isEmpty_kv {κ : Type} {kvs : List (κ × V)} {vs : List (κ × Value)} (r : KV kvs vs) : (!vs.isEmpty) = !kvs.isEmpty := by
  cases r <;> rfl
theorem isEmpty_of {xs : List V} {its : List Value} (r : Vals xs its) : (!its.toArray.isEmpty) = !xs.isEmpty := by
  cases r <;> simp
theorem line63 : (sizeLine : Nat) < 2 ^ 63 := by rw [sizeLine_eq]; decide
theorem tru_ok : TruR X (fun x H Q => ∃ k, TruV X.K x H k ∧ Q k H) := by
  intro pins s σ H x v Q I rx h
  obtain ⟨k, e, q⟩ := h
  have hl := line63
  have hs : sizeLine = 16777216 := sizeLine_eq
  cases x with
  | non =>
    cases rx
    have e' : k = false := e
    subst e'
    exact truthy_none ⟨H, I, q⟩
  | bl b =>
    cases rx
    have e' : k = b := e
    subst e'
    exact wpAny_truthy_bool ⟨H, I, q⟩
  | int i =>
    obtain ⟨t, rfl⟩ := rx
    have e' : k = (i != 0) := e
    subst e'
    exact PySem.P.truthy_int ⟨H, I, q⟩
  | str y =>
    obtain ⟨t, rfl⟩ := rx
    obtain ⟨hy, e'⟩ : y.length ≤ sizeLine ∧ k = ((y.length : Int) != 0) := e
    subst e'
    exact PySem.P.truthy_str (by omega) ⟨H, I.tok _, q⟩
  | byt y =>
    obtain ⟨t, rfl⟩ := rx
    obtain ⟨hy, e'⟩ : y.size ≤ sizeLine ∧ k = ((y.size : Int) != 0) := e
    subst e'
    exact PySem.W.truthy_bytes (by omega) ⟨H, I.tok _, q⟩
  | ref p =>
    cases rx
    have e' : (∃ xs, SqL X.K H p xs ∧ k = !xs.isEmpty) ∨ (∃ xs, SqT X.K H p xs ∧ k = !xs.isEmpty) ∨ ∃ kvs, H p = some (.dK kvs) ∧ k = !kvs.isEmpty := e
    rcases e' with ⟨xs, hx, e'⟩ | ⟨xs, hx, e'⟩ | ⟨kvs, hx, e'⟩
    · subst e'
      obtain ⟨its, r, pl, hz⟩ := I.list hx
      have hlen := r.length
      exact wpAny_truthy_list pl.isList (by simp only [List.size_toArray]; omega) ⟨H, I.tok _, by rw [isEmpty_of r]; exact q⟩
    · subst e'
      obtain ⟨its, r, pl, hz⟩ := I.tuple hx
      have hlen := r.length
      exact truthy_tuple pl (by simp only [List.size_toArray]; omega) ⟨H, I.tok _, by rw [isEmpty_of r]; exact q⟩
    · subst e'
      obtain ⟨hz, hS, vs, r, m⟩ : kvs.length ≤ sizeLine ∧ (p == sysModules) = false ∧ ∃ vs, KV kvs vs ∧ s.heap.DictOf (mixKind X.prog X.w) p vs := I.hok p _ hx
      have hlen : kvs.length = vs.length := Paired.length r
      exact wpAny_truthy_dict hS m (by omega) ⟨H, I.tok _, by rw [isEmpty_kv r]; exact q⟩
  | _ => exact (show False from e).elim
/-- any expression whose test is its value's truth (a name, a call, a subscript, a field ..: he by fun _ => rfl) -/
theorem pt_truth (ha : PE X a ta) (he : ∀ whole, isTrue a X.env whole = (do let v ← whole; standAt a.pos; holding [v] (truthy v))) :
    PT X a (fun σ H Q => ta σ H fun x H' => ∃ k, TruV X.K x H' k ∧ Q k H') := by
  intro pins s σ H Q I h
  exact isTrue_plain (thn (ha pins s σ H _ I h) fun v s1 ⟨x, H1, I1, r1, q1⟩ => tru_ok pins s1 σ H1 x v Q I1 r1 q1) (he _)

/-! ### strs and bytes -/


/-! ### scalar builtins, by CallR -/
theorem vals1 {x : V} {us : List Value} (r : Vals [x] us) : ∃ u, us = [u] ∧ RelV x u := by
  cases r with
  | cons r1 r2 => cases r2; exact ⟨_, rfl, r1⟩
theorem vals2 {x y : V} {us : List Value} (r : Vals [x, y] us) : ∃ u w', us = [u, w'] ∧ RelV x u ∧ RelV y w' := by
  cases r with
  | cons r1 r2 =>
    cases r2 with
    | cons r3 r4 => cases r4; exact ⟨_, _, rfl, r1, r3⟩
theorem call_min2 (hc : X.calm = true) : CallR X (.builtin "min") (fun xs H Q => ∃ i j, xs = [.int i, .int j] ∧ Q (.int (if j < i then j else i)) H) := by
  intro pins s σ H xs us Q I r h
  obtain ⟨i, j, rfl, q⟩ := h
  obtain ⟨u, w', rfl, ⟨t, rfl⟩, ⟨t', rfl⟩⟩ := vals2 r
  refine min_two_ints (I.ok.hd hc) fun h' tk k => ⟨_, H, I.kept k, ?_, q⟩
  by_cases hj : j < i
  · rw [if_pos hj, if_pos hj]; exact ⟨_, rfl⟩
  · rw [if_neg hj, if_neg hj]; exact ⟨_, rfl⟩
end
end L2

namespace L2
open PySem PySem.Spec PyProof.Rows

/-! ### an instance, its attributes a map -/
structure ObjM (h : Heap) (x dx C : Addr) (mA : Str → Option Value) : Prop where
  obj : h.get? x = some (PySem.W.instObj C dx)
  ns : h.Ns1 dx mA
  ne : dx ≠ x

theorem lookIn_ns {h : Heap} {dx : Addr} {mA : Str → Option Value} (n : h.Ns1 dx mA) : ∃ od, h.get? dx = some od ∧ ∀ name, PySem.W.lookIn name od = some (mA name) := by
  obtain ⟨o, es, ep, ho, hd, hk, _, hm⟩ := n
  refine ⟨o, ho, fun name => ?_⟩
  have e := hm name
  unfold nsFind findBy at e
  rw [← Array.find?_toList] at e
  unfold PySem.W.lookIn
  rw [hd]
  dsimp only
  split
  · rename_i y q
    rw [q] at e
    exact congrArg some e
  · rename_i q
    rw [q] at e
    have a : es.toList.any (·.refKey) = false := by
      rw [List.any_eq_false]
      intro y hy
      obtain ⟨z, t, hkey⟩ := hk y (Array.mem_toList_iff.mp hy)
      simp [DictEntry.refKey, hkey]
    have a' : ¬ es.toList.any (·.refKey) = true := by rw [a]; exact Bool.false_ne_true
    rw [if_neg a']
    exact congrArg some e

theorem ObjM.look {h : Heap} {x dx C : Addr} {mA : Str → Option Value} (I : ObjM h x dx C mA) : ∃ od, PySem.W.InstAt h x (PySem.W.instObj C dx) C (some od) ∧ ∀ name, PySem.W.lookIn name od = some (mA name) :=
  let ⟨od, ho, hl⟩ := lookIn_ns I.ns
  ⟨od, ⟨I.obj, rfl, rfl, ho⟩, hl⟩

section
variable {prog : Program} {w : World} {A : Around} {E : Value → Shared → Prop} {s : Shared} {K : PySem.W.Frag} {x dx C f : Addr} {mA : Str → Option Value} {name : Str} {v : Value}

theorem get_map {expr : Bool} {Q : Value → Shared → Prop} (X : K.In s.heap) (I : ObjM s.heap x dx C mA) (hg : PySem.W.plainGet K C name = true) (hh : PySem.W.hasDictIn K C = true)
    (ha : PySem.W.findIn K (.ref C) name = some none) (hv : mA name = some v) (hv' : PySem.W.handedIn v = true) (h : Q v { s with toks := s.toks + 1 }) :
    wpAny (model prog w) A (getAttr (.ref x) name expr) Q E s := by
  obtain ⟨od, J, hl⟩ := I.look
  exact PySem.W.get_value X J (PySem.W.plainGet_of hg).1 (PySem.W.findObj_own hh ha rfl (by rw [hl, hv])) hv' h


theorem get_meth {pl : Sem Bool} {Q : Value × List Value → Shared → Prop} (X : K.In s.heap) (I : ObjM s.heap x dx C mA) (hg : PySem.W.plainGet K C name = true)
    (hf : PySem.W.findIn K (.ref C) name = some (some (.ref f))) (ht : PySem.W.isFn K (.ref f) = true) (hv : mA name = none) (h : Q (.ref f, [.ref x]) s) :
    wpAny (model prog w) A (getMethod (.ref x) name pl) Q E s := by
  obtain ⟨od, J, hl⟩ := I.look
  exact PySem.W.method_fn X J (PySem.W.plainGet_of hg).1 (PySem.W.plainGet_of hg).2 hf (beq_iff_eq.mp ht) (by show (PySem.W.lookIn name od).map (·.isSome) = some false; rw [hl, hv]; rfl) h

theorem set_map {ns : List Str} {Q : Unit → Shared → Prop} (X : K.In s.heap) (I : ObjM s.heap x dx C mA)
    (hs : PySem.W.findIn K (.ref C) "__setattr__" = some (some (.builtin "object.__setattr__"))) (hp : PySem.W.plainOver K C = true) (ht : PySem.W.takerIn K C name = some none) (hh : PySem.W.hasDictIn K C = true)
    (hw : PySem.Within mA ns) (hsz : ns.length ≤ sizeLine)
    (h : ∀ h', ObjM h' x dx C (fun y => if y = name then some v else mA y) → Heap.SameBut dx s.heap h' → Q () { s with heap := h', toks := s.toks + 2 }) :
    wpAny (model prog w) A (setAttr (.ref x) name v) Q E s := by
  obtain ⟨od, J, hl⟩ := I.look
  refine PySem.W.set_plain X J hs (PySem.W.osa_open (s := { s with toks := s.toks + 1 }) (r := none) X J hp ht fun b => ?_)
  obtain ⟨cd, hc, hd'⟩ := PySem.W.any_some hh
  have hx : s.heap.get? x = some ⟨.ref C, some dx, .plain, #[]⟩ := I.obj
  refine wpAny_bind (wpAny_pure (wpAny_bind (wpAny_bind (wpAny_loadPart hx (wpAny_bind (PySem.W.Looks.here (s := { s with toks := s.toks + 1 }) (PySem.W.looks_clsIn X hc) ?_))))))
  rw [hd']
  refine wpAny_pure (a := some dx) (wpAny_bind (wpAny_pure (wpAny_bind ?_)))
  refine wpAny_nsSet1 (s := { s with toks := s.toks + 1 }) I.ns fun h' hn2 hs2 => ?_
  obtain ⟨oD, esD, epD, hoD, hdD, hcD⟩ := hn2.count (PySem.Within.cons name v hw)
  refine wpAny_bind (wpAny_lookBehind hoD (by rw [hdD]; exact pastItsLine_dict (Nat.le_trans hcD (by rw [List.length_cons]; omega))) ?_)
  exact wpAny_pure (h _ ⟨(hs2.2 _ (Ne.symm I.ne)).trans I.obj, hn2, I.ne⟩ hs2)

/-- C(..): the dict at the heap's end, the instance behind it; then its __init__ -/
theorem make_map {R : Result → Shared → Prop} {vs : List Value} {kw : List (Str × Value)} (X : K.In s.heap) (hm : PySem.W.makesIn K C = true)
    (hi : PySem.W.findIn K (.ref C) "__init__" = some (some (.ref f))) (hf : PySem.W.typeIn K (.ref f) = some (.type "function"))
    (h : codeAny (model prog w) (A.under (.builtin "type.__call__" ⟨.ref C :: vs, kw⟩)) (.call (.ref f) ⟨.ref (s.heap.objs.size + 1) :: vs, kw⟩) (PySem.W.InitBack (s.heap.objs.size + 1) R)
      { s with heap := (s.heap.push PySem.W.emptyDict).push (PySem.W.instObj C s.heap.objs.size) }) :
    codeAny (model prog w) A (.call (.ref C) ⟨vs, kw⟩) R s := by
  obtain ⟨hh, g, d, t, os⟩ := s
  exact PySem.W.make_core (PySem.W.makes_of X hm) (PySem.W.looks_findIn X hi) (fun self => PySem.W.bind_fn X self hf) (.inl rfl) h
end

/-! ### the attributes as a list of pairs -/
def putF (f : Str) (v : V) : List (Str × V) → List (Str × V)
  | [] => [(f, v)]
  | (g, x) :: r => if g = f then (g, v) :: r else (g, x) :: putF f v r
theorem lookup_putF (f g : Str) (v : V) : ∀ fs : List (Str × V), (putF f v fs).lookup g = if g = f then some v else fs.lookup g
  | [] => by
    show List.lookup g [(f, v)] = _
    by_cases h : g = f
    · have hb : (g == f) = true := beq_iff_eq.mpr h
      simp only [List.lookup, hb, if_pos h]
    · have hb : (g == f) = false := beq_eq_false_iff_ne.mpr h
      simp only [List.lookup, hb, if_neg h]
  | (k, x) :: r => by
    have ih := lookup_putF f g v r
    rw [show putF f v ((k, x) :: r) = (if k = f then (k, v) :: r else (k, x) :: putF f v r) from rfl]
    by_cases hk : k = f
    · rw [if_pos hk]
      by_cases h : g = k
      · have hb : (g == k) = true := beq_iff_eq.mpr h
        simp only [List.lookup, hb, if_pos (h.trans hk)]
      · have hb : (g == k) = false := beq_eq_false_iff_ne.mpr h
        simp only [List.lookup, hb, if_neg (fun e : g = f => h (e.trans hk.symm))]
    · rw [if_neg hk]
      by_cases h : g = k
      · have hb : (g == k) = true := beq_iff_eq.mpr h
        simp only [List.lookup, hb, if_neg (fun e : g = f => hk (h.symm.trans e))]
      · have hb : (g == k) = false := beq_eq_false_iff_ne.mpr h
        simp only [List.lookup, hb]
        exact ih
theorem keys_putF (f : Str) (v : V) : ∀ fs : List (Str × V), f ∈ (putF f v fs).map (·.1) ∧ ∀ g, g ∈ fs.map (·.1) → g ∈ (putF f v fs).map (·.1)
  | [] => ⟨by simp [putF], fun g h => by simp at h⟩
  | (k, x) :: r => by
    obtain ⟨i1, i2⟩ := keys_putF f v r
    rw [show putF f v ((k, x) :: r) = (if k = f then (k, v) :: r else (k, x) :: putF f v r) from rfl]
    by_cases hk : k = f
    · rw [if_pos hk]
      subst hk
      exact ⟨by simp, fun g h => by simpa using h⟩
    · rw [if_neg hk]
      refine ⟨?_, fun g h => ?_⟩
      · rw [List.map_cons]
        exact List.mem_cons_of_mem _ i1
      · rw [List.map_cons] at h ⊢
        rcases List.mem_cons.mp h with e | e
        · exact List.mem_cons.mpr (.inl e)
        · exact List.mem_cons_of_mem _ (i2 g e)
theorem length_putF (f : Str) (v : V) : ∀ fs : List (Str × V), (putF f v fs).length ≤ fs.length + 1
  | [] => by simp [putF]
  | (k, x) :: r => by
    have ih := length_putF f v r
    rw [show putF f v ((k, x) :: r) = (if k = f then (k, v) :: r else (k, x) :: putF f v r) from rfl]
    by_cases hk : k = f
    · rw [if_pos hk, List.length_cons, List.length_cons]; omega
    · rw [if_neg hk, List.length_cons, List.length_cons]; omega

theorem RelO.some_of {v : V} {o : Option Value} (r : RelO (some v) o) : ∃ u, o = some u ∧ RelV v u := by
  cases o with
  | none => exact (show False from r).elim
  | some u => exact ⟨u, rfl, r⟩
theorem RelO.none_of {o : Option Value} (r : RelO none o) : o = none := by
  cases o with
  | none => rfl
  | some u => exact (show False from r).elim
theorem handed_of {v : V} {u : Value} (r : RelV v u) : PySem.W.handedIn u = true := by
  cases v with
  | non => cases (show u = Value.none from r); rfl
  | bl b => cases (show u = Value.bool b from r); rfl
  | int i => obtain ⟨t, e⟩ := (show ∃ t, u = Value.int i t from r); cases e; rfl
  | str x => obtain ⟨t, e⟩ := (show ∃ t, u = Value.str x t from r); cases e; rfl
  | byt b => obtain ⟨t, e⟩ := (show ∃ t, u = Value.bytes b t from r); cases e; rfl
  | flt b => obtain ⟨t, e⟩ := (show ∃ t, u = Value.float b t from r); cases e; rfl
  | ref a => cases (show u = Value.ref a from r); rfl
  | ty n => cases (show u = Value.type n from r); rfl

section
variable {P : Program} {w : World} {H H' : Hp} {h h' : Heap} {a C dx : Addr} {fs fs' : List (Str × V)}
theorem ins_get (hok : HOk P w H h) (e : H a = some (.ins C dx fs)) : ∃ mA, ObjM h a dx C mA ∧ (∀ f, RelO (fs.lookup f) (mA f)) ∧ PySem.Within mA (fs.map (·.1)) ∧ fs.length ≤ 1000 ∧ H dx = some (.own a) := by
  obtain ⟨d, z, ne, ob, mA, n, r, q⟩ := (show ObjOk P w H h a (.ins C dx fs) from hok a _ e)
  exact ⟨mA, ⟨ob, n, ne⟩, r, q, z, d⟩
end

/-! ### what of the text a class must have -/
structure Cls (K : PySem.W.Frag) (C : Addr) : Prop where
  pg : PySem.W.plainGet K C Str.empty = true
  hd : PySem.W.hasDictIn K C = true
  po : PySem.W.plainOver K C = true
  sa : PySem.W.findIn K (.ref C) "__setattr__" = some (some (.builtin "object.__setattr__"))
theorem Cls.get {K : PySem.W.Frag} {C : Addr} (c : Cls K C) (f : Str) : PySem.W.plainGet K C f = true := c.pg
/-- no class of it has the name -/
def NoAttr (K : PySem.W.Frag) (C : Addr) (f : Str) : Prop := PySem.W.findIn K (.ref C) f = some none
theorem NoAttr.taker {K : PySem.W.Frag} {C : Addr} {f : Str} (n : NoAttr K C f) : PySem.W.takerIn K C f = some none := by
  unfold PySem.W.takerIn
  rw [show PySem.W.findIn K (.ref C) f = some none from n]
  rfl
/-- a method: a plain def of the class or of one above it -/
structure Meth (K : PySem.W.Frag) (C : Addr) (m : Str) (f : Addr) : Prop where
  at_ : PySem.W.findIn K (.ref C) m = some (some (.ref f))
  fn : PySem.W.isFn K (.ref f) = true
  kp : PySem.W.keepIn K (.ref f) = true

section
variable {X : Cx} {pins : List (Addr × Obj)} {σ : St} {H : Hp} {s : Shared} {a C dx : Addr} {fs : List (Str × V)} {f : Str} {v : V} {A : Around} {E : Value → Shared → Prop}

theorem getattr_ok {b : Bool} {Q : Value → Shared → Prop} (I : Inv X pins σ H s) (e : H a = some (.ins C dx fs)) (c : Cls X.K C) (n : NoAttr X.K C f) (l : fs.lookup f = some v)
    (h : ∀ u s', Inv X pins σ H s' → RelV v u → Q u s') : wpAny (model X.prog X.w) A (getAttr (.ref a) f b) Q E s := by
  obtain ⟨mA, O, r, _, _, _⟩ := ins_get I.hok e
  obtain ⟨u, hu, ru⟩ := RelO.some_of (v := v) (o := mA f) (by rw [← l]; exact r f)
  exact get_map I.kIn O (c.get f) c.hd n hu (handed_of ru) (h u _ (I.tok _) ru)


theorem getmeth_ok {m : Str} {g : Addr} {pl : Sem Bool} {Q : Value × List Value → Shared → Prop} (I : Inv X pins σ H s) (e : H a = some (.ins C dx fs)) (c : Cls X.K C) (k : Meth X.K C m g) (l : fs.lookup m = none)
    (h : Q (.ref g, [.ref a]) s) : wpAny (model X.prog X.w) A (getMethod (.ref a) m pl) Q E s := by
  obtain ⟨mA, O, r, _, _, _⟩ := ins_get I.hok e
  have hn : mA m = none := RelO.none_of (by rw [← l]; exact r m)
  exact get_meth I.kIn O (c.get m) k.at_ k.fn hn h

theorem setattr_ok {y : V} {u : Value} {Q : Unit → Shared → Prop} (I : Inv X pins σ H s) (e : H a = some (.ins C dx fs)) (c : Cls X.K C) (n : NoAttr X.K C f) (hl : fs.length < 1000) (ry : RelV y u)
    (h : ∀ s', Inv X pins σ (upd H a (.ins C dx (putF f y fs))) s' → Q () s') : wpAny (model X.prog X.w) A (setAttr (.ref a) f u) Q E s := by
  obtain ⟨mA, O, r, wi, _, ho⟩ := ins_get I.hok e
  have hz : (fs.map (·.1)).length ≤ sizeLine := by rw [List.length_map, sizeLine_eq]; omega
  refine set_map I.kIn O c.sa c.po n.taker c.hd wi hz fun h' O' sb => h _ ?_
  have hd : ∃ o, h'.get? dx = some o := let ⟨o, _, _, e', _⟩ := O'.ns; ⟨o, e'⟩
  refine I.write (x := a) (e := dx) (by rw [e]; exact True.intro) (.inr ho) (fun b q hb z => (sb.2 b hb).trans z) hd ?_
  refine ⟨by rw [upd_ne O.ne]; exact ho, ?_, O.ne, O'.obj, _, O'.ns, fun g => ?_, fun g hg => ?_⟩
  · have := length_putF f y fs; omega
  · show RelO ((putF f y fs).lookup g) (if g = f then some u else mA g)
    rw [lookup_putF]
    by_cases q : g = f
    · rw [if_pos q, if_pos q]; exact ry
    · rw [if_neg q, if_neg q]; exact r g
  · by_cases q : g = f
    · rw [q]; exact (keys_putF f y fs).1
    · refine (keys_putF f y fs).2 g (wi g fun z => hg ?_)
      show (if g = f then some u else mA g) = none
      rw [if_neg q]; exact z

/-- a new instance, tracked, without attributes -/
theorem Inv.made (I : Inv X pins σ H s) : Inv X pins σ (upd (upd H s.heap.objs.size (.own (s.heap.objs.size + 1))) (s.heap.objs.size + 1) (.ins C s.heap.objs.size []))
    { s with heap := (s.heap.push PySem.W.emptyDict).push (PySem.W.instObj C s.heap.objs.size) } := by
  have e1 : (s.heap.push PySem.W.emptyDict).get? s.heap.objs.size = some PySem.W.emptyDict := Heap.get?_push_size s.heap rfl
  have e2 : ((s.heap.push PySem.W.emptyDict).push (PySem.W.instObj C s.heap.objs.size)).get? (s.heap.objs.size + 1) = some (PySem.W.instObj C s.heap.objs.size) := by
    have := Heap.get?_push_size (s.heap.push PySem.W.emptyDict) (o := PySem.W.instObj C s.heap.objs.size) rfl
    rwa [Heap.size_push] at this
  have e3 : (s.heap.push PySem.W.emptyDict).Ns s.heap.objs.size (fun _ => none) := ⟨PySem.W.emptyDict, #[], _, e1, rfl, (fun e he => absurd he (by simp)), fun _ => rfl⟩
  have I1 := I.laid (a := s.heap.objs.size) (o := .own (s.heap.objs.size + 1)) (h' := s.heap.push PySem.W.emptyDict) (t' := s.toks) (fun b u q => Heap.get?_push_of_some _ q) (Nat.le_refl _) ⟨_, e1⟩
  refine I1.laid (a := s.heap.objs.size + 1) (o := .ins C s.heap.objs.size []) (t' := s.toks) (fun b u q => Heap.get?_push_of_some _ q) (Nat.le_of_eq (Heap.size_push _ _)) ?_
  have ne : s.heap.objs.size ≠ s.heap.objs.size + 1 := Nat.ne_of_lt (Nat.lt_succ_self _)
  refine ⟨by rw [upd_ne ne, upd_same], Nat.zero_le _, ne, e2, fun _ => none, (Heap.Ns1.of_empty e3).at fun o q => Heap.get?_push_of_some _ q, fun _ => True.intro, fun y hy => absurd rfl hy⟩

/-- e.f where nothing but the object is asked: through attributeBase (super) and the last hold -/
theorem attr_of {prog : Program} {w : World} {env : Env} {e : Expr} {f : Str} {pos : Pos} {s : Shared} {Q : Value → Shared → Prop} (hb : attributeBase e f env (eval e env) = eval e env)
    (h : wpAny (model prog w) A (eval e env) (fun o s₁ => wpAny (model prog w) A (getAttr o f true) Q E s₁) E s) : wpAny (model prog w) A (eval (.Attribute e f pos) env) Q E s :=
  Attribute_any_ h (by rw [arm_eval_Attribute, hb])
end

/-! ### readings and rules -/
/-- e.f, an attribute of the instance -/
def tFld (K : PySem.W.Frag) (ta : TE) (f : Str) : TE := fun σ H Q => ta σ H fun x H1 => ∃ a C dx fs v, x = .ref a ∧ H1 a = some (.ins C dx fs) ∧ Cls K C ∧ NoAttr K C f ∧ fs.lookup f = some v ∧ Q v H1
/-- e.f = value -/
def sFld (K : PySem.W.Frag) (ta tv : TE) (f : Str) : TS := fun D σ H => tv σ H fun y H1 => ta σ H1 fun x H2 => ∃ a C dx fs, x = .ref a ∧ H2 a = some (.ins C dx fs) ∧ Cls K C ∧ NoAttr K C f ∧ fs.length < 1000 ∧
  D.nx σ (upd H2 a (.ins C dx (putF f y fs)))

section
variable {X : Cx} {o e value : Expr} {f : Str} {pos pos' tpos : Pos} {ta tv : TE}
theorem pe_fld (he : PE X e ta) (hb : attributeBase e f X.env (eval e X.env) = eval e X.env) : PE X (.Attribute e f pos) (tFld X.K ta f) := by
  intro pins s σ H Q I h
  refine attr_of hb (thn (he pins s σ H _ I h) fun u s1 ⟨x, H1, I1, rx, a, C, dx, fs, v, ex, ea, c, n, l, q⟩ => ?_)
  subst ex
  obtain rfl : u = Value.ref a := rx
  exact getattr_ok I1 ea c n l fun u' s2 I2 ru => ⟨v, H1, I2, ru, q⟩
theorem ps_fld (ha : PE X o ta) (hv : PE X value tv) (hs : swapsWith value (some (.Attribute o f pos')) pos.line X.env = pure false) : PS X (.Assign [.Attribute o f pos'] value pos) (sFld X.K ta tv f) := by
  intro pins s σ H D I h
  refine plainObj_wpAny_Assign_Attribute (thn (hv pins s σ H _ I h) fun u s1 ⟨y, H1, I1, ry, q⟩ => thn (ha pins s1 σ H1 _ I1 q) fun ov s2 ⟨x, H2, I2, rx, a, C, dx, fs, ex, ea, c, n, l, q2⟩ => ?_) hs
  subst ex
  obtain rfl : ov = Value.ref a := rx
  exact setattr_ok I2 ea c n l ry fun s3 I3 => ⟨σ, _, I3, q2⟩

end

/-! ### isinstance -/
section
variable {X : Cx} {pins : List (Addr × Obj)} {σ : St} {H : Hp} {s : Shared} {A : Around} {E : Value → Shared → Prop} {Q : Value → Shared → Prop} {c : Value} {b : Bool}
end
end L2

namespace L2
open PySem PySem.Spec PyProof.Rows

/-! ### room -/
structure Room (k : Nat) (A : Around) : Prop where
  hd : A.handled = none
  dp : A.depth + 3 * k + 5 < recursionLimit
  un : A.units + 16 * k + 200 < cLine
theorem Room.mono {j k : Nat} {A : Around} (r : Room k A) (h : j ≤ k) : Room j A := ⟨r.hd, by have := r.dp; omega, by have := r.un; omega⟩
theorem Room.deeper {k : Nat} {A : Around} (r : Room (k + 1) A) (env : Env) : Room k (A.deeper env) :=
  ⟨r.hd, by have := r.dp; show A.depth + 1 + 3 * k + 5 < _; omega, by have := r.un; show A.units + 3 + 16 * k + 200 < _; omega⟩
theorem make_depth {A : Around} {C : Addr} {us : List Value} {kw : List (Str × Value)} : (A.under (.builtin "type.__call__" ⟨.ref C :: us, kw⟩)).depth = A.depth + 1 := by
  first | rfl | simp [Around.under, Code.weight, Code.isCreation, Code.isGuard, Code.isCaller, Code.frames, Code.isFrame, guardIds]
theorem make_units {A : Around} {C : Addr} {us : List Value} {kw : List (Str × Value)} : (A.under (.builtin "type.__call__" ⟨.ref C :: us, kw⟩)).units = A.units + 1 := by
  first | rfl | simp [Around.under, Code.cUnits, Code.frames, Code.isFrame]
theorem Room.make {k : Nat} {A : Around} (r : Room (k + 1) A) (C : Addr) (us : List Value) (kw : List (Str × Value)) : Room k (A.under (.builtin "type.__call__" ⟨.ref C :: us, kw⟩)) :=
  ⟨r.hd, by have := r.dp; rw [make_depth]; omega, by have := r.un; rw [make_units]; omega⟩
theorem Room.depth {k : Nat} {A : Around} (r : Room k A) : A.depth < recursionLimit := by have := r.dp; omega
theorem Room.units {k : Nat} {A : Around} (r : Room k A) : A.units + 64 < cLine := by have := r.un; omega

/-! ### argument lists and displays -/
def tNil : TA := fun _ H Q => Q [] H
def tCons (ta : TE) (tr : TA) : TA := fun σ H Q => ta σ H fun x H1 => tr σ H1 fun xs H2 => Q (x :: xs) H2
section
variable {X : Cx} {e : Expr} {es : List Expr} {te : TE} {t : TA} {pos : Pos}
theorem pa_nil : PA X [] tNil := fun _ _ _ _ H Q I h => Calls.spliced_nil ⟨[], H, I, .nil, h⟩
theorem pa_cons (ha : PE X e te) (hr : PA X es t) (hs : starEach (e :: es) X.env = (false, eval e X.env) :: starEach es X.env := by rfl) : PA X (e :: es) (tCons te t) := by
  intro pos pins s σ H Q I h
  rw [hs]
  show wpAny _ _ (spliced ((false, eval e X.env) :: backTo pos (starEach es X.env))) _ _ s
  refine Calls.spliced_cons (thn (ha pins s σ H _ I h) fun u s1 ⟨x, H1, I1, r1, q1⟩ => ?_)
  exact thn (hr pos pins s1 σ H1 _ I1 q1) fun us s2 ⟨xs, H2, I2, r2, q2⟩ => ⟨x :: xs, H2, I2, .cons r1 r2, q2⟩

/-- a tuple, a list of written items -/
def tTup (t : TA) : TE := fun σ H Q => t σ H fun xs H1 => xs.length ≤ sizeLine ∧ ∀ p, H1 p = none → Q (.ref p) (upd H1 p (.tup xs))
def tLst (t : TA) : TE := fun σ H Q => t σ H fun xs H1 => xs.length ≤ sizeLine ∧ ∀ p, H1 p = none → Q (.ref p) (upd H1 p (.lst xs))
theorem pe_tup {x1} (h : PA X es t) : PE X (.Tuple es x1 pos) (tTup t) := by
  intro pins s σ H Q I hq
  refine wpAny_Tuple_spliced (thn (h pos pins s σ H _ I hq) fun us s1 ⟨xs, H1, I1, r, z, q⟩ => ⟨by rw [← r.length]; exact z, ?_⟩)
  have hf : H1 s1.heap.objs.size = none := I1.hok.fresh (Nat.le_refl _)
  refine ⟨.ref s1.heap.objs.size, upd H1 s1.heap.objs.size (.tup xs), I1.laid (t' := s1.toks) (fun b u e => Heap.get?_push_of_some _ e) (Nat.le_refl _) ?_, rfl, q _ hf⟩
  exact ⟨z, us, r, ⟨_, Heap.get?_push_size _ rfl, rfl, _, rfl⟩⟩
theorem pe_lst (h : PA X es t) : PE X (.List es pos) (tLst t) := by
  intro pins s σ H Q I hq
  refine wpAny_List_spliced (thn (h pos pins s σ H _ I hq) fun us s1 ⟨xs, H1, I1, r, z, q⟩ => ⟨by rw [← r.length]; exact z, ?_⟩)
  have hf : H1 s1.heap.objs.size = none := I1.hok.fresh (Nat.le_refl _)
  refine ⟨.ref s1.heap.objs.size, upd H1 s1.heap.objs.size (.lst xs), I1.laid (t' := s1.toks) (fun b u e => Heap.get?_push_of_some _ e) (Nat.le_refl _) ?_, rfl, q _ hf⟩
  exact ⟨z, us, 0, r, Heap.get?_push_size _ rfl⟩
end

/-! ### what a def promises -/
/-- a def's promise: the bound arguments in the parameters' order, the heap, the wanted end, the wanted exception -/
abbrev Sp := List V → Hp → VK → XK → Prop
/-- how an exception lies behind a call (file 08 gives it): the callers' frames, abstract heap and state ahead of the call, the wish, the exception, the state -/
abbrev CXT := List Env → Hp → Shared → XK → Value → Shared → Prop

/-- the state at a call -/
structure Env0 (P : Program) (w : World) (K : PySem.W.Frag) (mg : Str → Option Value) (base : Heap) (A : Around) (outer : List Env) (s : Shared) (H : Hp) : Prop where
  frames : A.frames = some outer
  mod : Mod K mg base
  bs : ∀ b o, base.get? b = some o → s.heap.get? b = some o ∧ H b = none
  bsz : base.objs.size ≤ s.heap.objs.size
  funs : s.heap.FunFrames base outer
  frf : ∀ b ∈ frs outer, H b = none
  hok : HOk P w H s.heap
  bare : AllBare s.gens
/-- a call's end -/
def CE (outer : List Env) (P : Program) (w : World) (H : Hp) (s : Shared) (Q : VK) (u : Value) (s' : Shared) : Prop :=
  ∃ v H', s'.os = s.os ∧ AllBare s'.gens ∧ Un (frs outer) [] H H' s.heap s'.heap ∧ HOk P w H' s'.heap ∧ RelV v u ∧ Q v H'
def CR (CX : CXT) (outer : List Env) (P : Program) (w : World) (H : Hp) (s : Shared) (Q : VK) (E : XK) (r : Result) (s' : Shared) : Prop :=
  match r with
  | .ok (.ret u) => CE outer P w H s Q u s'
  | .ok _ => False
  | .error e => CX outer H s E e s'
structure FnOk (P : Program) (w : World) (K : PySem.W.Frag) (mg : Str → Option Value) (base : Heap) (CX : CXT) (k : Nat) (f : Addr) (fd : FuncData) (ps : List Str) (sp : Sp) : Prop where
  len : ∀ vs H Q E, sp vs H Q E → vs.length = ps.length
  run : ∀ (A : Around) (outer : List Env) (s : Shared) (H : Hp) (args : Args) (us : List Value) (vs : List V) (Q : VK) (E : XK), Room k A → Env0 P w K mg base A outer s H → BindsTo s fd args (ps.zip us) → Vals vs us → sp vs H Q E →
    codeAny (model P w) A (.call (.ref f) args) (CR CX outer P w H s Q E) s

theorem Env0.make {P : Program} {w : World} {K : PySem.W.Frag} {mg : Str → Option Value} {base : Heap} {A : Around} {outer : List Env} {s : Shared} {H : Hp} (e : Env0 P w K mg base A outer s H) (C : Addr) (us : List Value) (kw : List (Str × Value)) :
    Env0 P w K mg base (A.under (.builtin "type.__call__" ⟨.ref C :: us, kw⟩)) outer s H := ⟨by first | exact e.frames | (simpa [Around.under, Code.envs, Code.isFrame, pushEnvs] using e.frames), e.mod, e.bs, e.bsz, e.funs, e.frf, e.hok, e.bare⟩

section
variable {X : Cx} {pins : List (Addr × Obj)} {σ : St} {H : Hp} {s s' : Shared}
/-- from a body: what a callee wants -/
theorem Inv.env0 (I : Inv X pins σ H s) : Env0 X.prog X.w X.K X.mg X.base X.A X.stack s H :=
  ⟨I.ok.frames, I.ok.mod, I.bs, Nat.le_trans I.ok.bsz I.sz, I.stack, I.stkFree, I.hok, I.bare⟩
/-- behind a call -/
theorem Inv.after {Q : VK} {u : Value} (I : Inv X pins σ H s) (h : CE X.stack X.prog X.w H s Q u s') : EP X pins σ Q u s' := by
  obtain ⟨v, H', os, bare, un, hok, r, q⟩ := h
  obtain ⟨hh, g, d, t, os'⟩ := s'
  obtain rfl : os' = s.os := os
  exact ⟨v, H', I.call (h' := hh) (g' := g) (d' := d) (t' := t) (ch := []) un hok bare (fun b z => absurd z (by simp)), r, q⟩
end

/-! ### calls -/
/-- f(..): the written arguments, then the defaults dvs; E: what is wanted of an exception -/
def tCall (sp : Sp) (dvs : List V) (E : XK) (t : TA) : TE := fun σ H Q => t σ H fun vs H1 => sp (vs ++ dvs) H1 Q E
/-- o.m(..) of an instance of the class at C -/
def tMeth (C : Addr) (m : Str) (sp : Sp) (dvs : List V) (E : XK) (ta : TE) (t : TA) : TE := fun σ H Q => ta σ H fun x H1 => ∃ a dx fs, x = .ref a ∧ H1 a = some (.ins C dx fs) ∧ fs.lookup m = none ∧
  t σ H1 fun vs H2 => sp (x :: (vs ++ dvs)) H2 Q E
/-- C(..): a new instance and its dict, then __init__ -/
def tMake (C : Addr) (sp : Sp) (dvs : List V) (E : XK) (t : TA) : TE := fun σ H Q => t σ H fun vs H1 => ∀ x dx, H1 x = none → H1 dx = none → dx ≠ x →
  sp (.ref x :: (vs ++ dvs)) (upd (upd H1 dx (.own x)) x (.ins C dx [])) (fun v H2 => v = .non ∧ Q (.ref x) H2) E

/-- how the parameters are bound: us the positional arguments, kw the keywords' values by name, ds the defaults that fill up -/
def Binds (K : PySem.W.Frag) (fd : FuncData) (ps : List Str) (ds : List Value) : Prop :=
  ∀ (s : Shared) (us : List Value), K.In s.heap → (us ++ ds).length = ps.length → BindsTo s fd ⟨us, []⟩ (ps.zip (us ++ ds))
/-- every parameter is given -/
theorem Binds.all {K : PySem.W.Frag} {fd : FuncData} {ps : List Str} (h : ∀ us : List Value, us.length = ps.length → bindArgs fd ⟨us, []⟩ = pure (ps.zip us)) : Binds K fd ps [] := fun s us _ hl => by
  rw [List.append_nil] at hl ⊢
  exact .of_eq (h us hl)

/-- an exception of a callee reaches what this body wants of exceptions -/
def Passes (CX : CXT) (X : Cx) (E : XK) : Prop := ∀ (pins : List (Addr × Obj)) (σ : St) (H : Hp) (s : Shared) (e : Value) (s' : Shared), Inv X pins σ H s → CX X.stack H s E e s' → X.xe e s'

section
variable {X : Cx} {CX : CXT} {k : Nat} {f C : Addr} {fd : FuncData} {ps : List Str} {sp : Sp} {dvs : List V} {ds : List Value} {E : XK} {x m : Str} {p pos apos : Pos} {e o : Expr} {es : List Expr} {ta : TE} {t : TA}

/-- the callee runs -/
theorem run_fn {pins : List (Addr × Obj)} {σ : St} {H : Hp} {s : Shared} {Q : VK} {us : List Value} {vs : List V} (F : FnOk X.prog X.w X.K X.mg X.base CX k f fd ps sp) (hr : Room k X.A) (hb : Binds X.K fd ps ds) (hd : Vals dvs ds) (hx : Passes CX X E)
    (I : Inv X pins σ H s) (r : Vals vs us) (h : sp (vs ++ dvs) H Q E) : wpAny (model X.prog X.w) X.A (call (.ref f) us) (EP X pins σ Q) X.xe s := by
  have r2 : Vals (vs ++ dvs) (us ++ ds) := r.append hd
  have hl : (us ++ ds).length = ps.length := by rw [← r2.length]; exact F.len _ _ _ _ h
  refine wpAny_call (codeAny_mono (F.run X.A X.stack s H ⟨us, []⟩ (us ++ ds) (vs ++ dvs) Q E hr I.env0 (hb s us I.kIn hl) r2 h) fun r s' hq => ?_)
  cases r with
  | error e => exact hx pins σ H s e s' I hq
  | ok fl =>
    cases fl with
    | ret u => exact I.after hq
    | next => exact False.elim hq
    | brk => exact False.elim hq
    | cont => exact False.elim hq

theorem pe_call (F : FnOk X.prog X.w X.K X.mg X.base CX k f fd ps sp) (hr : Room k X.A) (hg : Gl X x) (hm : X.mg x = some (.ref f)) (hk : PySem.W.keepIn X.K (.ref f) = true) (hb : Binds X.K fd ps ds) (hd : Vals dvs ds) (hx : Passes CX X E)
    (ha : PA X (e :: es) t) (hdb : (x == ("__debug__" : Str)) = false := by decide) (he : starEach (e :: es) X.env = (false, eval e X.env) :: starEach es X.env := by rfl) (hpl : (backTo pos (starEach es X.env)).any (·.1) = false := by rfl) :
    PE X (.Call (.Name x p) (e :: es) [] pos) (tCall sp dvs E t) := by
  intro pins s σ H Q I h
  refine wpAny_Call_Name_kw (ld_glob I hg hm ?_ hdb)
  refine PySem.W.callWith_K (h₀ := X.base) I.ok.mod.kin hk (thn (ha pos pins s σ H _ I h) fun us s1 ⟨vs, H1, I1, r, q⟩ => ⟨I1.kIn, ?_⟩) he hpl
  exact run_fn F hr hb hd hx I1 r q

/-- o.m(e, ..) -/
theorem pe_meth {pl : Sem Bool} (he : PE X o ta) (c : Cls X.K C) (hm : Meth X.K C m f) (F : FnOk X.prog X.w X.K X.mg X.base CX k f fd ps sp) (hr : Room k X.A) (hb : Binds X.K fd ps ds) (hd : Vals dvs ds) (hx : Passes CX X E) (ha : PA X (e :: es) t)
    (hst : starEach (e :: es) X.env = (false, eval e X.env) :: starEach es X.env := by rfl) (hpl : (backTo pos (starEach es X.env)).any (·.1) = false := by rfl)
    (ht : eval (.Call (.Attribute o m apos) (e :: es) [] pos) X.env = (do
      let ov ← eval o X.env
      standAt apos.atName
      let (f, first) ← holding [ov] (getMethod ov m pl)
      callWith pos f first (backTo pos (starEach (e :: es) X.env)) (backToKw pos (keywordEach [] X.env))) := by rfl) :
    PE X (.Call (.Attribute o m apos) (e :: es) [] pos) (tMeth C m sp dvs E ta t) := by
  intro pins s σ H Q I h
  refine PySem.W.methodCall_KW (pl := pl) (thn (he pins s σ H _ I h) fun u s1 ⟨x, H1, I1, rx, a, dx, fs, ex, ea, l, q⟩ => ?_) ht
  subst ex
  obtain rfl : u = Value.ref a := rx
  refine getmeth_ok I1 ea c hm l ?_
  refine PySem.W.callWith_K (first := [.ref a]) (h₀ := X.base) I.ok.mod.kin hm.kp (thn (ha pos pins s1 σ H1 _ I1 q) fun us s2 ⟨vs, H2, I2, r, q2⟩ => ⟨I2.kIn, ?_⟩) hst hpl
  exact run_fn (us := .ref a :: us) (vs := .ref a :: vs) F hr hb hd hx I2 (.cons rfl r) q2
/-- o.m() -/
theorem pe_meth0 {pl : Sem Bool} (he : PE X o ta) (c : Cls X.K C) (hm : Meth X.K C m f) (F : FnOk X.prog X.w X.K X.mg X.base CX k f fd ps sp) (hr : Room k X.A) (hb : Binds X.K fd ps ds) (hd : Vals dvs ds) (hx : Passes CX X E)
    (ht : eval (.Call (.Attribute o m apos) [] [] pos) X.env = (do
      let ov ← eval o X.env
      standAt apos.atName
      let (f, first) ← holding [ov] (getMethod ov m pl)
      callWith pos f first (backTo pos (starEach [] X.env)) (backToKw pos (keywordEach [] X.env))) := by rfl) :
    PE X (.Call (.Attribute o m apos) [] [] pos) (tMeth C m sp dvs E ta tNil) := by
  intro pins s σ H Q I h
  refine PySem.W.methodCall_KW (pl := pl) (thn (he pins s σ H _ I h) fun u s1 ⟨x, H1, I1, rx, a, dx, fs, ex, ea, l, q⟩ => ?_) ht
  subst ex
  obtain rfl : u = Value.ref a := rx
  refine getmeth_ok I1 ea c hm l ?_
  exact PySem.W.callWith_K0 (first := [.ref a]) I1.kIn hm.kp (run_fn (us := [.ref a]) (vs := [.ref a]) F hr hb hd hx I1 (.cons rfl .nil) q)

/-- what a class must have to be made -/
structure Mk (K : PySem.W.Frag) (C f : Addr) : Prop where
  makes : PySem.W.makesIn K C = true
  init : PySem.W.findIn K (.ref C) "__init__" = some (some (.ref f))
  fn : PySem.W.isFn K (.ref f) = true
  kp : PySem.W.keepIn K (.ref C) = true

theorem run_make {pins : List (Addr × Obj)} {σ : St} {H : Hp} {s : Shared} {Q : VK} {us : List Value} {vs : List V} (M : Mk X.K C f) (F : FnOk X.prog X.w X.K X.mg X.base CX k f fd ps sp) (hr : Room (k + 1) X.A) (hb : Binds X.K fd ps ds) (hd : Vals dvs ds)
    (hx : Passes CX X E) (I : Inv X pins σ H s) (r : Vals vs us)
    (h : ∀ x dx, H x = none → H dx = none → dx ≠ x → sp (.ref x :: (vs ++ dvs)) (upd (upd H dx (.own x)) x (.ins C dx [])) (fun v H2 => v = .non ∧ Q (.ref x) H2) E) :
    wpAny (model X.prog X.w) X.A (call (.ref C) us) (EP X pins σ Q) X.xe s := by
  have hq := h (s.heap.objs.size + 1) s.heap.objs.size (I.hok.fresh (Nat.le_succ _)) (I.hok.fresh (Nat.le_refl _)) (Nat.ne_of_lt (Nat.lt_succ_self _))
  have I2 := Inv.made (C := C) I
  have r2 : Vals (V.ref (s.heap.objs.size + 1) :: (vs ++ dvs)) (Value.ref (s.heap.objs.size + 1) :: (us ++ ds)) := .cons rfl (r.append hd)
  have hl : (Value.ref (s.heap.objs.size + 1) :: us ++ ds).length = ps.length := by
    have e := r2.length
    rw [F.len _ _ _ _ hq] at e
    exact e.symm
  refine wpAny_call (make_map (f := f) I.kIn M.makes M.init (beq_iff_eq.mp M.fn) (codeAny_mono (F.run _ X.stack _ _ ⟨Value.ref (s.heap.objs.size + 1) :: us, []⟩ (Value.ref (s.heap.objs.size + 1) :: (us ++ ds)) _ _ E (hr.make C us [])
    (I2.env0.make C us []) (hb _ (Value.ref (s.heap.objs.size + 1) :: us) I2.kIn hl) r2 hq) fun r s' hq' => ?_))
  cases r with
  | error e => exact hx pins σ _ _ e s' I2 hq'
  | ok fl =>
    cases fl with
    | ret u =>
      obtain ⟨v, H', I3, rv, ev, q3⟩ := I2.after hq'
      subst ev
      exact ⟨rv, ⟨V.ref (s.heap.objs.size + 1), H', I3, rfl, q3⟩⟩
    | next => exact False.elim hq'
    | brk => exact False.elim hq'
    | cont => exact False.elim hq'
theorem pe_make (M : Mk X.K C f) (F : FnOk X.prog X.w X.K X.mg X.base CX k f fd ps sp) (hr : Room (k + 1) X.A) (hg : Gl X x) (hm : X.mg x = some (.ref C)) (hb : Binds X.K fd ps ds) (hd : Vals dvs ds) (hx : Passes CX X E)
    (ha : PA X (e :: es) t) (hdb : (x == ("__debug__" : Str)) = false := by decide) (he : starEach (e :: es) X.env = (false, eval e X.env) :: starEach es X.env := by rfl) (hpl : (backTo pos (starEach es X.env)).any (·.1) = false := by rfl) :
    PE X (.Call (.Name x p) (e :: es) [] pos) (tMake C sp dvs E t) := by
  intro pins s σ H Q I h
  refine wpAny_Call_Name_kw (ld_glob I hg hm ?_ hdb)
  refine PySem.W.callWith_K (h₀ := X.base) I.ok.mod.kin M.kp (thn (ha pos pins s σ H _ I h) fun us s1 ⟨vs, H1, I1, r, q⟩ => ⟨I1.kIn, ?_⟩) he hpl
  exact run_make M F hr hb hd hx I1 r q
theorem pe_make0 (M : Mk X.K C f) (F : FnOk X.prog X.w X.K X.mg X.base CX k f fd ps sp) (hr : Room (k + 1) X.A) (hg : Gl X x) (hm : X.mg x = some (.ref C)) (hb : Binds X.K fd ps ds) (hd : Vals dvs ds) (hx : Passes CX X E)
    (hdb : (x == ("__debug__" : Str)) = false := by decide) : PE X (.Call (.Name x p) [] [] pos) (tMake C sp dvs E tNil) := by
  intro pins s σ H Q I h
  refine wpAny_Call_Name_kw (ld_glob I hg hm ?_ hdb)
  exact PySem.W.callWith_K0 I.kIn M.kp (run_make (us := []) M F hr hb hd hx I .nil h)
end

/-! ### keywords -/
section
variable {X : Cx} {CX : CXT} {k : Nat} {f C : Addr} {fd : FuncData} {ps ks : List Str} {sp : Sp} {E : XK} {x m : Str} {p pos apos kpos : Pos} {e o : Expr} {es : List Expr} {kws : List Keyword} {te ta : TE} {t tk : TA} {nm : Option Str}

variable {g : List Value → List Value → List Value} {gV : List V → List V → List V}
end

/-! ### a def's body keeps its promise -/
/-- names: the parameters first -/
structure FnScope (N P : List Str) (sc : Scope) : Prop where
  kind : sc.kind = .function
  co : sc.isCoroutine = false
  gen : sc.isGenerator = false
  nd : N.Nodup
  pre : N.take P.length = P
  par : ∀ x ∈ P, sc.names.lookup x = some .local ∨ sc.names.lookup x = some .cell
  nofree : ∀ y ∈ sc.names, y.2 ≠ .free

theorem bindL_out {kindOf : Str → Option NameKind} {x : Str} : ∀ {binds : List (Str × Value)} {m : Str → Option Value}, (∀ v, (x, v) ∉ binds) → bindL kindOf binds m x = m x
  | [], _, _ => rfl
  | (n, v) :: r, m, h => by
    unfold bindL
    rw [bindL_out fun w hw => h w (List.mem_cons_of_mem _ hw)]
    split
    · have : x ≠ n := by rintro rfl; exact h v List.mem_cons_self
      simp [this]
    · rfl
theorem bindC_out {kindOf : Str → Option NameKind} {x : Str} : ∀ {binds : List (Str × Value)} {m : Str → Option Value}, (∀ v, (x, v) ∉ binds) → bindC kindOf binds m x = m x
  | [], _, _ => rfl
  | (n, v) :: r, m, h => by
    unfold bindC
    rw [bindC_out fun w hw => h w (List.mem_cons_of_mem _ hw)]
    split
    · rfl
    · have : x ≠ n := by rintro rfl; exact h v List.mem_cons_self
      simp [this]
theorem bindL_get {kindOf : Str → Option NameKind} {x : Str} {v : Value} : ∀ {P : List Str} {vs : List Value} {i : Nat} {m : Str → Option Value}, P.Nodup → P[i]? = some x → vs[i]? = some v → kindOf x = some .local →
    bindL kindOf (P.zip vs) m x = some v
  | [], _, _, _, _, h, _, _ => by simp at h
  | _ :: _, [], _, _, _, _, h, _ => by simp at h
  | p :: P, w :: vs, 0, m, nd, h1, h2, hk => by
    simp at h1 h2; subst h1; subst h2
    show bindL kindOf ((p, w) :: P.zip vs) m p = _
    unfold bindL
    rw [bindL_out fun v hv => (List.nodup_cons.mp nd).1 (List.of_mem_zip hv).1, if_pos hk]
    simp
  | p :: P, w :: vs, i + 1, m, nd, h1, h2, hk => by
    show bindL kindOf ((p, w) :: P.zip vs) m x = _
    unfold bindL
    exact bindL_get (i := i) (List.nodup_cons.mp nd).2 (by simpa using h1) (by simpa using h2) hk
theorem bindC_get {kindOf : Str → Option NameKind} {x : Str} {v : Value} : ∀ {P : List Str} {vs : List Value} {i : Nat} {m : Str → Option Value}, P.Nodup → P[i]? = some x → vs[i]? = some v → kindOf x ≠ some .local →
    bindC kindOf (P.zip vs) m x = some v
  | [], _, _, _, _, h, _, _ => by simp at h
  | _ :: _, [], _, _, _, _, h, _ => by simp at h
  | p :: P, w :: vs, 0, m, nd, h1, h2, hk => by
    simp at h1 h2; subst h1; subst h2
    show bindC kindOf ((p, w) :: P.zip vs) m p = _
    unfold bindC
    rw [bindC_out fun v hv => (List.nodup_cons.mp nd).1 (List.of_mem_zip hv).1, if_neg hk]
    simp
  | p :: P, w :: vs, i + 1, m, nd, h1, h2, hk => by
    show bindC kindOf ((p, w) :: P.zip vs) m x = _
    unfold bindC
    exact bindC_get (i := i) (List.nodup_cons.mp nd).2 (by simpa using h1) (by simpa using h2) hk

/-- the names' values at the entry -/
def start (N : List Str) (vs : List V) : St := vs.map some ++ List.replicate (N.length - vs.length) none

/-- the context of a def's body, at its entry; an exception leaves the frame, then lies as CX says -/
def cxOf (CX : CXT) (P : Program) (w : World) (K : PySem.W.Frag) (mg : Str → Option Value) (base : Heap) (N : List Str) (qual : Str) (scope : Scope) (f : Addr) (cd : Value) (A : Around) (outer : List Env) (s : Shared) (H : Hp) (E : XK) : Cx where
  prog := P
  w := w
  K := K
  mg := mg
  base := base
  A := A.deeper (envOfC qual scope s.heap.objs.size f cd)
  N := N
  s_0 := s
  H_0 := H
  env := envOfC qual scope s.heap.objs.size f cd
  outer := outer
  stack := envOfC qual scope s.heap.objs.size f cd :: outer
  ex := []
  calm := true
  fn := fun _ => true
  pn := []
  xe := fun e s' => wpAny (model P w) (A.deeper (envOfC qual scope s.heap.objs.size f cd)) (leaving (envOfC qual scope s.heap.objs.size f cd) e) (fun _ s'' => CX outer H s E e s'') (fun e' s'' => CX outer H s E e' s'') s'

theorem cell_has {sc : Scope} {n : Nat} {x : Str} (h : sc.names.lookup x = some .cell) : ∃ c, (cellsFrom n sc.names []).lookup x = some c := by
  have q := PySem.W.cellsFrom_some sc.names n [] (.inl h)
  exact Option.isSome_iff_exists.mp q

theorem inv_start {CX : CXT} {P : Program} {w : World} {K : PySem.W.Frag} {mg : Str → Option Value} {base : Heap} {N ps : List Str} {qual : Str} {scope : Scope} {f : Addr} {cd : Value} {A : Around} {outer : List Env} {s s1 : Shared} {H : Hp} {E : XK} {us : List Value} {vs : List V}
    (S : FnScope N ps scope) (hd : A.handled = none) (e0 : Env0 P w K mg base A outer s H) (hl : vs.length = ps.length) (r : Vals vs us)
    (x : InCallC s s.heap.objs.size (bindL (envOfC qual scope s.heap.objs.size f cd).kindOf (ps.zip us) fun _ => none) (cellsFrom (s.heap.objs.size + 1) scope.names []) (bindC (envOfC qual scope s.heap.objs.size f cd).kindOf (ps.zip us) fun _ => none) s1) :
    Inv (cxOf CX P w K mg base N qual scope f cd A outer s H E) [] (start N vs) H s1 := by
  have hpl : ps.length ≤ N.length := by have := congrArg List.length S.pre; rw [List.length_take] at this; omega
  obtain ⟨h1, tk, rfl, hk⟩ := x.done
  have noA : ∀ b : Addr, b ∉ (cxOf CX P w K mg base N qual scope f cd A outer s H E).ex := fun b z => absurd (show b ∈ ([] : List Addr) from z) (by simp)
  refine ⟨⟨e0.mod, S.kind, rfl, rfl, Nat.le_refl _, fun y z c h1 h2 => ?_, fun y hy => ?_, fun y c _ h => ?_, fun _ => hd, Around.frames_deeper e0.frames, .inr ⟨rfl, rfl⟩, fun b z => absurd z (noA b), e0.bs, e0.bsz, fun b _ _ => noA b, fun b z => absurd z (noA b), e0.funs, e0.frf⟩,
    rfl, e0.bare, Un.kept hk, ⟨_, x.toInCall.ns, fun i y v h1 h2 h3 => ?_⟩, fun y c h => ⟨_, x.cell y c h⟩, e0.hok.fresh (Nat.le_refl _), fun y c h => ?_, fun p hp => absurd (show p ∈ ([] : List (Addr × Obj)) from hp) (by simp), e0.hok.kept hk, ?_⟩
  · exact name_of_addr x.apart (PySem.mem_of_lookup h1) (PySem.mem_of_lookup h2)
  · have hy : scope.names.lookup y = some .cell ∨ scope.names.lookup y = some .free := hy
    rcases hy with hy | hy
    · exact cell_has hy
    · exact absurd rfl (S.nofree _ (PySem.mem_of_lookup hy))
  · exact Nat.le_of_lt (x.above y c (PySem.mem_of_lookup h))
  · have hi : i < vs.length := by
      unfold start at h2
      by_cases hi : i < vs.length
      · exact hi
      · rw [List.getElem?_append_right (by simpa using hi)] at h2
        rw [List.getElem?_replicate] at h2
        split at h2 <;> cases h2
    have ha : vs[i]? = some v := by
      unfold start at h2
      rw [List.getElem?_append_left (by simpa using hi), List.getElem?_map] at h2
      cases e : vs[i]? with
      | none => rw [e] at h2; cases h2
      | some a => rw [e] at h2; cases h2; rfl
    obtain ⟨u, hu, rv⟩ := r.get ha
    have hp : ps[i]? = some y := by
      rw [← S.pre, List.getElem?_take_of_lt (by omega)]; exact h1
    have ndP : ps.Nodup := by rw [← S.pre]; exact S.nd.sublist (List.take_sublist _ _)
    refine ⟨u, rv, ?_⟩
    rcases S.par y (List.mem_of_getElem? hp) with k | k
    · exact .inl ⟨k, bindL_get ndP hp hu k⟩
    · obtain ⟨c, e⟩ := cell_has (n := s.heap.objs.size + 1) k
      refine .inr ⟨.inl k, c, e, ?_⟩
      have q := x.cell y c e
      rw [bindC_get ndP hp hu (by show scope.names.lookup y ≠ _; rw [k]; decide)] at q
      exact q
  · exact e0.hok.fresh (Nat.le_of_lt (x.above y c (PySem.mem_of_lookup h)))
  · unfold start
    show _ = N.length
    rw [List.length_append, List.length_map, List.length_replicate]
    omega

/-- THE RULE: a def (or a method) of the text, by its body. The body's reading t is chosen for each entry; it is run at the parameters' values -/
theorem fn_of {CX : CXT} {P : Program} {w : World} {K : PySem.W.Frag} {mg : Str → Option Value} {base : Heap} {k : Nat} {f : Addr} {name qual : Str} {params : Arguments} {body : List Stmt} {scope : Scope} {dV kV doc pm cdv ct oc : Value} {an od : Option Addr}
    {osl : Array (Option Value)} {N ps : List Str} {sp : Sp} (lk : K.lookup f = some ⟨oc, od, .func (PySem.W.fnOf name qual params body scope dV kV doc pm an cdv ct), osl⟩) (hcd : PySem.W.codeIn K cdv qual = true) (S : FnScope N ps scope)
    (len : ∀ vs H Q E, sp vs H Q E → vs.length = ps.length)
    (hbody : ∀ (A : Around) (outer : List Env) (s : Shared) (H : Hp) (vs : List V) (Q : VK) (E : XK), Room k (A.deeper (envOfC qual scope s.heap.objs.size f cdv)) → sp vs H Q E →
      ∃ t, PSs (cxOf CX P w K mg base N qual scope f cdv A outer s H E) body t ∧ t { nx := fun _ H' => Q .non H', rt := Q } (start N vs) H) :
    FnOk P w K mg base CX (k + 1) f (PySem.W.fnOf name qual params body scope dV kV doc pm an cdv ct) ps sp := by
  refine ⟨len, fun A outer s H args us vs Q E hr e0 hb r hsp => ?_⟩
  have hl := len _ _ _ _ hsp
  have KX : K.In s.heap := e0.mod.kin.keeps fun b o e => (e0.bs b o e).1
  have lim : s.heap.NoLimit := e0.mod.nolimit.keeps fun b o e => (e0.bs b o e).1
  have hkind : ∀ y ∈ ps.zip us, scope.names.lookup y.1 = some .local ∨ (scope.names.lookup y.1 = some .cell ∧ ((cellsFrom (s.heap.objs.size + 1) scope.names []).lookup y.1).isSome = true) := fun ⟨n, v⟩ hy => by
    rcases S.par n (List.of_mem_zip hy).1 with q | q
    · exact .inl q
    · exact .inr ⟨q, PySem.W.cellsFrom_some _ _ _ (.inl q)⟩
  refine codeAny_call_function hr.depth (KX _ _ lk) rfl S.co S.gen rfl (PySem.W.codeRec_of KX hcd) (hb _ _ _ _ ?_)
  refine wpAny_newFunctionEnv_cells S.kind hkind fun env he s1 x => ?_
  subst he
  refine ⟨lim.keeps x.toInCall.keep, codeAny_func ?_⟩
  obtain ⟨t, ht, hq⟩ := hbody A outer s H vs Q E (hr.deeper _) hsp
  have I : Inv (cxOf CX P w K mg base N qual scope f cdv A outer s H E) [] (start N vs) H s1 := inv_start S hr.hd e0 hl r x
  refine wpAny_mono (ht [] s1 (start N vs) H _ I hq) (fun fl s' hs => ?_) fun e s' hs => hs
  have fin : ∀ {σ' : St} {H' : Hp} {v : V} {u : Value}, Inv (cxOf CX P w K mg base N qual scope f cdv A outer s H E) [] σ' H' s' → RelV v u → Q v H' → CE outer P w H s Q u s' :=
    fun {σ' H' v u} J rv q => ⟨v, H', J.os, J.bare, J.base, J.hok, rv, q⟩
  cases fl with
  | ret u =>
    obtain ⟨v, σ', H', J, rv, q⟩ := hs
    exact fin J rv q
  | next =>
    obtain ⟨σ', H', J, q⟩ := hs
    exact fin (v := V.non) (u := Value.none) J rfl q
  | brk =>
    obtain ⟨_, _, _, q⟩ := hs
    exact False.elim q
  | cont =>
    obtain ⟨_, _, _, q⟩ := hs
    exact False.elim q
end L2

namespace L2
open PySem PySem.Spec PyProof.Rows
section
variable {X : Cx} {x : Str} {p pos : Pos} {e : Expr} {es : List Expr} {t : TA} {id T : String} {r : List V → Hp → VK → Prop}

def tCB (r : List V → Hp → VK → Prop) (t : TA) : TE := fun σ H Q => t σ H fun vs H1 => r vs H1 Q
/-- f(e, ..), f a built-in function -/
theorem pe_callB (hc : CallR X (.builtin id) r) (hg : Gl X x) (hm : X.mg x = none) (hv : bootBuiltins x = some (.builtin id)) (ha : PA X (e :: es) t) (hn : x ≠ "__name__" := by decide) (hdb : (x == ("__debug__" : Str)) = false := by decide)
    (he : starEach (e :: es) X.env = (false, eval e X.env) :: starEach es X.env := by rfl) (hpl : (backTo pos (starEach es X.env)).any (·.1) = false := by rfl) : PE X (.Call (.Name x p) (e :: es) [] pos) (tCB r t) := by
  intro pins s σ H Q I h
  refine wpAny_Call_Name_kw (ld_blt I hg hm hv ?_ hn hdb)
  exact PyProof.Rows.callWith_builtin1 (thn (ha pos pins s σ H _ I h) fun us s1 ⟨vs, H1, I1, r1, q1⟩ => hc pins s1 σ H1 vs us Q I1 r1 q1) he hpl
/-- T(e, ..), T a built-in type -/
theorem pe_callTy (hc : CallR X (.type T) r) (hg : Gl X x) (hm : X.mg x = none) (hv : bootBuiltins x = some (.type T)) (ha : PA X (e :: es) t) (hn : x ≠ "__name__" := by decide) (hdb : (x == ("__debug__" : Str)) = false := by decide)
    (he : starEach (e :: es) X.env = (false, eval e X.env) :: starEach es X.env := by rfl) (hpl : (backTo pos (starEach es X.env)).any (·.1) = false := by rfl) : PE X (.Call (.Name x p) (e :: es) [] pos) (tCB r t) := by
  intro pins s σ H Q I h
  refine wpAny_Call_Name_kw (ld_blt I hg hm hv ?_ hn hdb)
  exact PyProof.Rows.callWith_type1 (thn (ha pos pins s σ H _ I h) fun us s1 ⟨vs, H1, I1, r1, q1⟩ => hc pins s1 σ H1 vs us Q I1 r1 q1) he hpl
end
end L2

namespace HT
open PySem PyProof.Rows



section
open PySem.SeqAt
open PySem.AutoSeq1 (wpAny_loadPart')
open PySem.MeetsSeq PySem.MeetsSeq2 PySem.MeetsSeq3

end

section
variable {prog : Program} {w : World} {A : Around} {E : Value → Shared → Prop} {s : Shared}



/-! ### t[a:b], not the whole -/
/-- a slice's bound as a place among n (d where it is left out) -/
def sIx (n d : Nat) : Option Int → Nat
  | none => d
  | some v => if v < 0 then (v + (n : Int)).toNat else min v.toNat n
theorem sIx_none (n d : Nat) : sIx n d none = d := rfl
theorem sIx_nat (n d k : Nat) : sIx n d (some (k : Int)) = min k n := by
  show (if (k : Int) < 0 then ((k : Int) + (n : Int)).toNat else min (k : Int).toNat n) = min k n
  rw [if_neg (by omega), Int.toNat_natCast]

end
end HT

namespace L2
open PySem PySem.Spec PyProof.Rows

/-! ### the parts of a slice -/
abbrev TO := St → Hp → (Option Int → Hp → Prop) → Prop
/-- a slice's part (left out, or an int) -/
def PO (X : Cx) (e : Option Expr) (t : TO) : Prop :=
  ∀ (pins : List (Addr × Obj)) (s : Shared) (σ : St) (H : Hp) (Q : Option Int → Hp → Prop), Inv X pins σ H s → t σ H Q →
    wpAny (model X.prog X.w) X.A (evalPart e X.env) (fun u s' => ∃ o H', Inv X pins σ H' s' ∧ IsPart u o ∧ Q o H') X.xe s
def tNoPart : TO := fun _ H Q => Q none H
def tPart (t : TE) : TO := fun σ H Q => t σ H fun x H1 => ∃ i, x = .int i ∧ Q (some i) H1


section
variable {X : Cx} {e : Expr} {te : TE} {lo hi : Option Expr} {tl th : TO} {pos p2 : Pos}

theorem po_none : PO X none tNoPart := by
  intro pins s σ H Q I h
  rw [evalPart_none]
  exact wpAny_pure ⟨none, H, I, .none, h⟩
theorem po_some (h : PE X e te) : PO X (some e) (tPart te) := by
  intro pins s σ H Q I hw
  rw [evalPart_some]
  refine thn (h pins s σ H _ I hw) fun u s1 ⟨x, H1, I1, r1, q1⟩ => ?_
  obtain ⟨i, rfl, q⟩ := q1
  obtain ⟨t, rfl⟩ := r1
  exact ⟨some i, H1, I1, .int i t, q⟩

/-- what a slice of a value is, by values: the slice object stands at sl -/
def SlR (X : Cx) (r : V → Option Int → Option Int → Hp → VK → Prop) : Prop :=
  ∀ (pins : List (Addr × Obj)) (s : Shared) (σ : St) (H : Hp) (x : V) (v vl vu : Value) (lo hi : Option Int) (sl : Addr) (Q : VK), Inv X pins σ H s → RelV x v → s.heap.IsSliceOf sl vl vu .none → IsPart vl lo → IsPart vu hi → r x lo hi H Q →
    ∃ T id, typeLookup (.type T) "__getitem__" = pure (some (.builtin id)) ∧ s.TypeIs v T ∧ wpAny (model X.prog X.w) X.A (getItem v (.ref sl)) (EP X pins σ Q) X.xe s
def tSl (r : V → Option Int → Option Int → Hp → VK → Prop) (te : TE) (tl th : TO) : TE := fun σ H Q => te σ H fun x H1 => tl σ H1 fun l H2 => th σ H2 fun u H3 => r x l u H3 Q
/-- a[lo:hi], any a -/
theorem pe_slice {r : V → Option Int → Option Int → Hp → VK → Prop} (hr : SlR X r) (he : PE X e te) (hl : PO X lo tl) (hu : PO X hi th) : PE X (.Subscript e (.Slice lo hi none p2) pos) (tSl r te tl th) := by
  intro pins s σ H Q I h
  refine Subscript_ (thn (he pins s σ H _ I h) fun v s1 ⟨x, H1, I1, r1, q1⟩ => ?_)
  refine wpAny_Slice (thn (hl pins s1 σ H1 _ I1 q1) fun vl s2 ⟨l, H2, I2, pl, q2⟩ => thn (hu pins s2 σ H2 _ I2 q2) fun vu s3 ⟨u, H3, I3, pu, q3⟩ => ?_)
  rw [evalPart_none]
  refine wpAny_pure ?_
  have I4 : Inv X pins σ H3 { s3 with heap := s3.heap.push { cls := .type "slice", data := .fields #[vl, vu, .none] } } := I3.kept (t' := s3.toks) fun b ob q => Heap.get?_push_of_some _ q
  obtain ⟨T, id, hT, ht, hg⟩ := hr pins { s3 with heap := s3.heap.push { cls := .type "slice", data := .fields #[vl, vu, .none] } } σ H3 x v vl vu l u s3.heap.objs.size Q I4 r1 (Heap.IsSliceOf.new ..) pl pu q3
  show wpAny (model X.prog X.w) X.A (subscriptTail e (.Slice lo hi none p2) v (.ref s3.heap.objs.size)) (EP X pins σ Q) X.xe { s3 with heap := s3.heap.push { cls := .type "slice", data := .fields #[vl, vu, .none] } }
  exact tail_any (ops := [.ref s3.heap.objs.size, v]) ht hT hg (by with_unfolding_all rfl)

/-- the items of xs[lo:hi] -/
def cutV (xs : List V) (lo hi : Option Int) : List V := (xs.drop (HT.sIx xs.length 0 lo)).take (HT.sIx xs.length xs.length hi - HT.sIx xs.length 0 lo)
theorem cutV_length (xs : List V) (lo hi : Option Int) : (cutV xs lo hi).length ≤ xs.length := by
  unfold cutV
  rw [List.length_take, List.length_drop]
  omega

/-! ### t < u, t + u -/
end
end L2

namespace L2
open PySem PySem.Spec PyProof.Rows

/-! ### places -/
/-- the place that an index of any sign means -/
def ixN (n : Nat) (i : Int) : Option Nat := if 0 ≤ i then (if i < n then some i.toNat else none) else if -(n : Int) ≤ i then some (i + n).toNat else none
def atI {α : Type} (xs : List α) (i : Int) : Option α := (ixN xs.length i).bind fun j => xs[j]?
theorem ixN_seq {n : Nat} {i : Int} {j : Nat} (h : ixN n i = some j) : seqIndex? i n = some j ∧ j < n ∧ -(n : Int) ≤ i ∧ i < n := by
  unfold ixN at h
  by_cases h0 : 0 ≤ i
  · rw [if_pos h0] at h
    by_cases h1 : i < n
    · rw [if_pos h1] at h
      have e : i.toNat = j := Option.some.inj h
      exact ⟨by rw [seqIndex_of h0 h1, e], by omega, by omega, h1⟩
    · rw [if_neg h1] at h; cases h
  · rw [if_neg h0] at h
    by_cases h1 : -(n : Int) ≤ i
    · rw [if_pos h1] at h
      have e : (i + n).toNat = j := Option.some.inj h
      exact ⟨by rw [seqIndex_neg (by omega) h1, e], by omega, h1, by omega⟩
    · rw [if_neg h1] at h; cases h
theorem atI_get {α : Type} {xs : List α} {i : Int} {v : α} (h : atI xs i = some v) : ∃ j, seqIndex? i xs.length = some j ∧ xs[j]? = some v ∧ j < xs.length ∧ -(xs.length : Int) ≤ i ∧ i < xs.length := by
  unfold atI at h
  cases e : ixN xs.length i with
  | none => rw [e] at h; cases h
  | some j =>
    rw [e] at h
    obtain ⟨h1, h2, h3, h4⟩ := ixN_seq e
    exact ⟨j, h1, h, h2, h3, h4⟩
theorem atI_nat {α : Type} {xs : List α} {j : Nat} {v : α} (h : xs[j]? = some v) : atI xs (j : Int) = some v := by
  have hj : j < xs.length := (List.getElem?_eq_some_iff.mp h).1
  have e : ixN xs.length (j : Int) = some j := by
    unfold ixN
    rw [if_pos (by omega), if_pos (by omega)]; simp
  unfold atI; rw [e]; exact h

/-! ### what may be subscripted -/
/-- what stands as an index of a plain subscript -/
def PlainIx (b : Expr) : Prop := ∀ o i, subscripted b false o i = operate [o, i] (getItem o i)
/-- a subscript by values -/
def IxR (X : Cx) (r : R2) : Prop :=
  ∀ (value slice : Expr) (pins : List (Addr × Obj)) (s : Shared) (σ : St) (H : Hp) (x y : V) (v u : Value) (Q : VK), Inv X pins σ H s → RelV x v → RelV y u → r x y H Q →
    subscripted slice false v u = operate [v, u] (getItem v u) → wpAny (model X.prog X.w) X.A (subscriptTail value slice v u) (EP X pins σ Q) X.xe s
/-- a call of a builtin's method by values: the receiver, the arguments -/
def MtR (X : Cx) (id : String) (r : V → List V → Hp → VK → Prop) : Prop :=
  ∀ (pins : List (Addr × Obj)) (s : Shared) (σ : St) (H : Hp) (x : V) (xs : List V) (v : Value) (us : List Value) (Q : VK), Inv X pins σ H s → RelV x v → Vals xs us → r x xs H Q →
    wpAny (model X.prog X.w) X.A (call (.builtin id) (v :: us)) (EP X pins σ Q) X.xe s
section
variable {X : Cx} {a b : Expr} {ta tb : TE} {pos : Pos}
/-- a[b] -/
theorem pe_ix {r : R2} (hr : IxR X r) (ha : PE X a ta) (hb : PE X b tb) (hs : PlainIx b) : PE X (.Subscript a b pos) (tOp r ta tb) := by
  intro pins s σ H Q I h
  exact Subscript_ (binT ha hb I h fun v u s2 x y H2 I2 rx ry q => hr a b pins s2 σ H2 x y v u Q I2 rx ry q (hs _ _))

def rIxL (K : PySem.W.Frag) : R2 := fun x y H Q => ∃ p xs i v, x = .ref p ∧ y = .int i ∧ SqL K H p xs ∧ atI xs i = some v ∧ Q v H
theorem ix_list : IxR X (rIxL X.K) := by
  intro value slice pins s σ H x y v u Q I rx ry h hs
  obtain ⟨p, xs, i, z, rfl, rfl, hq, he, q⟩ := h
  cases rx
  obtain ⟨t, rfl⟩ := ry
  obtain ⟨its, r, pl, hz⟩ := I.list hq
  obtain ⟨j, h1, h2, h3, h4, h5⟩ := atI_get he
  obtain ⟨w, ew, rw'⟩ := r.get h2
  have hl := r.length
  have hn := line63
  have fin : EP X pins σ Q w s := ⟨z, H, I, rw', q⟩
  by_cases h0 : 0 ≤ i
  · have hj : i.toNat = j := by
      rw [seqIndex_of h0 h5] at h1
      exact Option.some.inj h1
    exact item_listR pl.isList h0 (by omega) (by rw [hj]; simpa using ew) fin hs
  · have hj : (i + (its.toArray.size : Int)).toNat = j := by
      rw [seqIndex_neg (by omega) h4] at h1
      rw [List.size_toArray, ← hl]
      exact Option.some.inj h1
    exact subscriptTail_builtinR (x := w) pl.isList.typeIs slot_list_getitem.lookup
      (wpAny_getItem_list_neg (Q := fun r s' => r = w ∧ EP X pins σ Q r s') pl.isList (by omega) (by rw [List.size_toArray] <;> omega) (by omega) (by rw [hj]; simpa using ew) ⟨rfl, fin⟩) hs

/-! ### xs[i] = v, any sign -/

/-! ### slices -/
theorem slice_bounds (lo hi : Option Int) (n : Nat) : (sliceBounds lo hi none n).1 = ((HT.sIx n 0 lo : Nat) : Int) ∧ (sliceBounds lo hi none n).2.1 = ((HT.sIx n n hi : Nat) : Int) ∧ (sliceBounds lo hi none n).2.2 = 1 := by
  refine ⟨?_, ?_, rfl⟩
  · cases lo with
    | none => simp [sliceBounds, HT.sIx]
    | some i =>
      simp only [sliceBounds, HT.sIx, Option.getD_none, show (1 : Int) > 0 by decide, if_true]
      by_cases h : i < 0
      · simp only [h, if_true] <;> omega
      · simp only [h, if_false] <;> omega
  · cases hi with
    | none => simp [sliceBounds, HT.sIx]
    | some i =>
      simp only [sliceBounds, HT.sIx, Option.getD_none, show (1 : Int) > 0 by decide, if_true]
      by_cases h : i < 0
      · simp only [h, if_true] <;> omega
      · simp only [h, if_false] <;> omega
theorem slicePick_cut (its : List Value) (lo hi : Option Int) : slicePick its.toArray lo hi none = ((its.drop (HT.sIx its.length 0 lo)).take (HT.sIx its.length its.length hi - HT.sIx its.length 0 lo)).toArray := by
  obtain ⟨h1, h2, h3⟩ := slice_bounds lo hi its.toArray.size
  unfold slicePick
  rw [h1, h2, h3]
  simp only [sliceRange_one, pick_run, List.size_toArray] <;> rfl
/-- xs[lo:hi] of a list: a new list -/
def rSlL (K : PySem.W.Frag) : V → Option Int → Option Int → Hp → VK → Prop := fun x lo hi H Q => ∃ a xs, x = .ref a ∧ SqL K H a xs ∧ ∀ p, H p = none → Q (.ref p) (upd H p (.lst (cutV xs lo hi)))
theorem sl_list : SlR X (rSlL X.K) := by
  intro pins s σ H x v vl vu lo hi sl Q I rx hs pl pu h
  obtain ⟨a, xs, rfl, hx, q⟩ := h
  cases rx
  obtain ⟨its, r, ht, hz⟩ := I.list hx
  have hlen := r.length
  refine ⟨"list", _, slot_list_getitem.lookup, ht.isList.typeIs, ?_⟩
  refine wpAny_getItem_list_slice ht.isList hs pl pu .none (by simp) ?_ (by rw [List.size_toArray] <;> omega)
  rw [slicePick_cut, ← hlen]
  refine ⟨.ref s.heap.objs.size, _, I.laid (t' := s.toks) (o := .lst (cutV xs lo hi)) (fun b ob q => Heap.get?_push_of_some _ q) (Nat.le_refl _) ?_, rfl, q _ (I.hok.fresh (Nat.le_refl _))⟩
  exact ⟨Nat.le_trans (cutV_length xs lo hi) hz, _, 0, (r.drop (HT.sIx xs.length 0 lo)).take (HT.sIx xs.length xs.length hi - HT.sIx xs.length 0 lo), Heap.get?_push_size _ rfl⟩

/-! ### in, not in: flat items -/

/-! ### len, list(x), tuple(x) of any list or tuple that is read -/
theorem call_len_seq : CallR X (.builtin "len") (fun xs H Q => ∃ p ys, xs = [.ref p] ∧ (SqL X.K H p ys ∨ SqT X.K H p ys) ∧ Q (.int ys.length) H) := by
  intro pins s σ H xs us Q I r h
  obtain ⟨p, ys, rfl, hq, q⟩ := h
  obtain ⟨u, rfl, rx⟩ := vals1 r
  cases rx
  have hn := line63
  rcases hq with hq | hq
  · obtain ⟨its, r', pl, hz⟩ := I.list hq
    have hlen := r'.length
    exact Calls.call_len_list pl.isList (by simp only [List.size_toArray] <;> omega) ⟨.int ys.length, H, I.tok _, ⟨s.toks + 1, by rw [List.size_toArray, hlen]⟩, q⟩
  · obtain ⟨its, r', pl, hz⟩ := I.tuple hq
    have hlen := r'.length
    exact len_tuple pl (by simp only [List.size_toArray] <;> omega) ⟨.int ys.length, H, I.tok _, ⟨s.toks + 1, by rw [List.size_toArray, hlen]⟩, q⟩
theorem call_list_of : CallR X (.type "list") (fun xs H Q => ∃ p ys, xs = [.ref p] ∧ (SqL X.K H p ys ∨ SqT X.K H p ys) ∧ ∀ l, H l = none → Q (.ref l) (upd H l (.lst ys))) := by
  intro pins s σ H xs us Q I r h
  obtain ⟨p, ys, rfl, hq, q⟩ := h
  obtain ⟨u, rfl, rx⟩ := vals1 r
  cases rx
  have fin : ∀ (its : List Value), Vals ys its → ys.length ≤ sizeLine → ∀ (h' : Heap) (c' : Nat), (∀ b o', s.heap.get? b = some o' → h'.get? b = some o') →
      h'.get? s.heap.objs.size = some { cls := .type "list", dict := none, data := .seq its.toArray c', slots := #[] } → EP X pins σ Q (.ref s.heap.objs.size) { s with heap := h' } := fun its r' hz h' c' kp e =>
    ⟨.ref s.heap.objs.size, _, I.laid (t' := s.toks) kp (Nat.le_refl _) (show ObjOk X.prog X.w _ h' _ (.lst ys) from ⟨hz, its, c', r', e⟩), rfl, q _ (I.hok.fresh (Nat.le_refl _))⟩
  rcases hq with hq | hq
  · obtain ⟨its, r', pl, hz⟩ := I.list hq
    have hlen := r'.length
    obtain ⟨o, ho, hc, n, hd⟩ := pl.isList
    exact call_list_seq p (.inl rfl) ho hc hd (fun h' c' kp e => fin its r' hz h' c' kp e) (by simp only [List.size_toArray] <;> omega)
  · obtain ⟨its, r', pl, hz⟩ := I.tuple hq
    have hlen := r'.length
    obtain ⟨o, ho, hc, n, hd⟩ := pl
    exact call_list_seq p (.inr rfl) ho hc hd (fun h' c' kp e => fin its r' hz h' c' kp e) (by simp only [List.size_toArray] <;> omega)

/-! ### the call of a builtin's method: o.m(..) -/
/-- the value is of that builtin type -/
def tyV (K : PySem.W.Frag) (T : String) (x : V) (H : Hp) : Prop := match x with
  | .str _ => T = "str"
  | .int _ => T = "int"
  | .ref p => (T = "list" ∧ ∃ xs, SqL K H p xs) ∨ (T = "tuple" ∧ ∃ o, K.lookup p = some o ∧ o.cls = .type "tuple" ∧ o.dict = none) ∨
      (T = "dict" ∧ ((∃ kvs, H p = some (.dK kvs)) ∨ ∃ kvs, H p = some (.dT kvs))) ∨ (T = "set" ∧ ∃ S n, H p = some (.set S n))
  | _ => False
theorem tyV_is {pins : List (Addr × Obj)} {σ : St} {H : Hp} {s : Shared} {T : String} {x : V} {v : Value} (I : Inv X pins σ H s) (r : RelV x v) (ty : tyV X.K T x H) :
    s.TypeIs v T ∧ ∀ a, v = .ref a → ∃ ob, s.heap.get? a = some ob ∧ ob.dict = none := by
  cases x with
  | str z =>
    obtain ⟨t, rfl⟩ := r
    cases (show T = "str" from ty)
    exact ⟨typeIs_str s z t, fun _ e => nomatch e⟩
  | int i =>
    obtain ⟨t, rfl⟩ := r
    cases (show T = "int" from ty)
    exact ⟨typeIs_int s i t, fun _ e => nomatch e⟩
  | ref p =>
    cases r
    rcases ty with ⟨rfl, xs, hq⟩ | ⟨rfl, o, hk, hc, hd⟩ | ⟨rfl, hk⟩ | ⟨rfl, S, n, hk⟩
    · obtain ⟨its, _, pl, _⟩ := I.list hq
      refine ⟨pl.isList.typeIs, fun a e => ?_⟩
      cases e
      obtain ⟨o, n, e, c, hd, _⟩ := pl
      exact ⟨o, e, hd⟩
    · refine ⟨⟨o, I.kIn p o hk, hc⟩, fun a e => ?_⟩
      cases e
      exact ⟨o, I.kIn _ o hk, hd⟩
    · have z : ∃ o, s.heap.get? p = some o ∧ o.ExactDict := by
        rcases hk with ⟨kvs, hk⟩ | ⟨kvs, hk⟩
        · obtain ⟨_, _, _, _, o, _, _, e, ex, _⟩ := I.hok p _ hk
          exact ⟨o, e, ex⟩
        · obtain ⟨_, _, _, _, o, _, _, e, ex, _⟩ := I.hok p _ hk
          exact ⟨o, e, ex⟩
      obtain ⟨o, e, ex⟩ := z
      refine ⟨⟨o, e, ex.1⟩, fun a e2 => ?_⟩
      cases e2
      exact ⟨o, e, ex.2.1⟩
    · obtain ⟨o, _, _, _, e, ex, _⟩ := I.hok p _ hk
      refine ⟨⟨o, e, ex.1⟩, fun a e2 => ?_⟩
      cases e2
      exact ⟨o, e, ex.2.1⟩
  | _ => exact False.elim ty
def tBM (K : PySem.W.Frag) (T : String) (r : V → List V → Hp → VK → Prop) (to : TE) (t : TA) : TE := fun σ H Q => to σ H fun x H1 => tyV K T x H1 ∧ t σ H1 fun xs H2 => r x xs H2 Q
variable {o e : Expr} {es : List Expr} {to : TE} {t : TA} {name : Str} {apos cpos : Pos} {T id : String} {r : V → List V → Hp → VK → Prop}
theorem pe_bm (pa : PlainAttrs T) (slot : Slot T name id) (hty : typeOf (.builtin id) = pure (.type "method_descriptor")) (hm : MtR X id r) (ho : PE X o to) (ha : PA X (e :: es) t)
    (hbase : attributeBase o name X.env (eval o X.env) = eval o X.env := by rfl)
    (hfew : ((backTo cpos (starEach (e :: es) X.env)).all (fun x => !x.1) && (backToKw cpos (keywordEach [] X.env)).all (fun x => x.1.isSome)
      && decide ((e :: es).length + ([] : List Keyword).length + (if ([] : List Keyword).isEmpty then 0 else 1) < 30)) = true := by rfl)
    (hline : (apos.endLine == cpos.line) = true := by rfl) (hs : starEach (e :: es) X.env = (false, eval e X.env) :: starEach es X.env := by rfl) (hplain : (backTo cpos (starEach es X.env)).any (·.1) = false := by rfl) :
    PE X (.Call (.Attribute o name apos) (e :: es) [] cpos) (tBM X.K T r to t) := by
  intro pins s σ H Q I h
  refine wpAny_Call_method_late hbase hfew hline rfl (thn (ho pins s σ H _ I h) fun v s1 ⟨x, H1, I1, r1, ty, q1⟩ => ?_)
  obtain ⟨h1, h2⟩ := tyV_is I1 r1 ty
  refine ⟨T, id, pa, slot, hty, h1, h2, ?_⟩
  have hA := ha cpos pins s1 σ H1 _ I1 q1
  rw [hs] at hA ⊢
  refine Calls.callWith_builtin (by show (false || (backTo cpos (starEach es X.env)).any (·.1)) = false; rw [hplain] <;> rfl) (Calls.evalArgs_plain ?_)
  exact thn hA fun us s2 ⟨vs, H2, I2, r2, q2⟩ => hm pins s2 σ H2 x vs v us Q I2 r1 r2 q2
/- xs.append(e), list.index on a module's tuple .. are MtR facts of 06m -/
end
end L2

namespace L2
open PySem PySem.Spec PyProof.Rows

def MtM (X : Cx) (id : String) (r : V → List V → Hp → VK → Prop) : Prop :=
  ∀ (pins : List (Addr × Obj)) (s : Shared) (σ : St) (H : Hp) (x : V) (xs : List V) (v : Value) (us : List Value) (Q : VK), Inv X pins σ H s → RelV x v → Vals xs us → r x xs H Q →
    wpAny (model X.prog X.w) X.A (call (.builtin id) (v :: us)) (EP X pins σ Q) X.xe s

/-! ### lists of values -/
theorem Vals.one : ∀ {x : V} {us : List Value}, Vals [x] us → ∃ u, us = [u] ∧ RelV x u
  | _, _, .cons r .nil => ⟨_, rfl, r⟩

section
variable {X : Cx} {pins : List (Addr × Obj)} {σ : St} {H : Hp} {s : Shared} {l b : Addr} {xs ys zs : List V}

/-! ### the two steps: a tracked list is rewritten, a new list is laid -/
theorem Inv.lset {its its' : List Value} {n : Nat} {f : Array Value → Array Value} {t' : Nat} (I : Inv X pins σ H s) (hH : H l = some (.lst xs))
    (e : s.heap.get? l = some { cls := .type "list", data := .seq its.toArray n }) (hf : f its.toArray = its'.toArray) (hv : Vals ys its') (hz : ys.length ≤ sizeLine) :
    Inv X pins σ (upd H l (.lst ys)) { s with heap := s.heap.update l (Obj.mapSeq f), toks := t' } := by
  have q := PySem.IsL.update e f
  rw [hf] at q
  refine I.write (x := l) (e := l) (by rw [hH]; exact trivial) (.inl rfl) (fun b' u hb hu => (Heap.get?_update_other s.heap (Obj.mapSeq f) (Ne.symm hb)).trans hu) ⟨_, q⟩ ?_
  exact ⟨hz, its', _, hv, q⟩
theorem Inv.lnew {its : List Value} {t' : Nat} (I : Inv X pins σ H s) (hv : Vals ys its) (hz : ys.length ≤ sizeLine) :
    Inv X pins σ (upd H s.heap.objs.size (.lst ys)) { s with heap := s.heap.push { cls := .type "list", data := .seq its.toArray }, toks := t' } :=
  I.laid (fun _ _ q => Heap.get?_push_of_some _ q) (Nat.le_refl _) ⟨hz, its, 0, hv, Heap.get?_push_size _ rfl⟩
theorem Inv.fresh (I : Inv X pins σ H s) : H s.heap.objs.size = none := I.hok.fresh (Nat.le_refl _)
theorem Inv.lstM (I : Inv X pins σ H s) (hH : H l = some (.lst xs)) : xs.length ≤ sizeLine ∧ ∃ (its : List Value) (n : Nat), Vals xs its ∧ xs.length = its.length ∧ s.heap.get? l = some { cls := .type "list", data := .seq its.toArray n } := by
  obtain ⟨z, its, n, r, e⟩ := I.hok l _ hH
  exact ⟨z, its, n, r, r.length, e⟩

theorem notLongL {n : Nat} (h : n ≤ sizeLine) : Builtin.List.listTooLong n = false := by
  unfold Builtin.List.listTooLong
  exact decide_eq_false (by omega)
end

section
variable {X : Cx}

/-! ### methods -/
def rAppend : V → List V → Hp → VK → Prop := fun x vs H Q => ∃ l xs y, x = .ref l ∧ vs = [y] ∧ H l = some (.lst xs) ∧ xs.length < sizeLine ∧ Q .non (upd H l (.lst (xs ++ [y])))
theorem mt_append : MtM X "list.append" rAppend := by
  intro pins s σ H x vs v us Q I rx rv h
  obtain ⟨l, xs, y, rfl, rfl, hH, hz, q⟩ := h
  cases rx
  obtain ⟨u, rfl, ru⟩ := rv.one
  obtain ⟨z, its, n, r, hl, e⟩ := I.lstM hH
  refine call_meets F.slot_list_append ⟨_, e, rfl⟩ F.entry_list_append (F.args_list_append_2 _ _) (PySem.list_append l its.toArray n u (by rw [List.size_toArray]; omega)) ⟨e, ?_⟩
  refine ⟨.non, _, I.lset (its' := its ++ [u]) hH e (by simp) (r.append (.cons ru .nil)) ?_, rfl, q⟩
  rw [List.length_append, List.length_singleton]
  omega

def rExtend : V → List V → Hp → VK → Prop := fun x vs H Q => ∃ l b xs zs, x = .ref l ∧ vs = [.ref b] ∧ H l = some (.lst xs) ∧ H b = some (.lst zs) ∧ xs.length + zs.length ≤ sizeLine ∧ Q .non (upd H l (.lst (xs ++ zs)))
theorem mt_extend : MtM X "list.extend" rExtend := by
  intro pins s σ H x vs v us Q I rx rv h
  obtain ⟨l, b, xs, zs, rfl, rfl, hH, hB, hz, q⟩ := h
  cases rx
  obtain ⟨u, rfl, ru⟩ := rv.one
  cases ru
  obtain ⟨z, its, n, r, hl, e⟩ := I.lstM hH
  obtain ⟨z2, its2, n2, r2, hl2, e2⟩ := I.lstM hB
  have hsz : its.toArray.size + its2.toArray.size ≤ sizeLine := by rw [List.size_toArray, List.size_toArray]; omega
  have hlong : ¬ (!its.toArray.isEmpty && Builtin.List.listTooLong (its.toArray.size + its2.toArray.size)) = true := by
    rw [notLongL hsz, Bool.and_false]
    exact Bool.false_ne_true
  refine call_meets F.slot_list_extend ⟨_, e, rfl⟩ F.entry_list_extend (F.args_list_extend_2 _ _)
    (AutoSeq1.list_extend_list_list_0 l its.toArray n b its2.toArray n2 hlong (by rw [List.size_toArray]; omega) (by omega)) ⟨e, e2, ?_⟩
  refine ⟨.non, _, I.lset (its' := its ++ its2) hH e (by simp) (r.append r2) ?_, rfl, q⟩
  rw [List.length_append]
  omega





/-! ### list + list, list += list, list * int -/
def rCat : R2 := fun x y H Q => ∃ l b xs zs, x = .ref l ∧ y = .ref b ∧ H l = some (.lst xs) ∧ H b = some (.lst zs) ∧ xs.length + zs.length ≤ sizeLine ∧ ∀ p, H p = none → Q (.ref p) (upd H p (.lst (xs ++ zs)))
theorem op_cat : OpR X (binaryOp .Add) rCat := by
  intro pins s σ H x y v u Q I rx ry h
  obtain ⟨l, b, xs, zs, rfl, rfl, hH, hB, hz, q⟩ := h
  cases rx
  cases ry
  obtain ⟨z, its, n, r, hl, e⟩ := I.lstM hH
  obtain ⟨z2, its2, n2, r2, hl2, e2⟩ := I.lstM hB
  refine PySem.P.add_list e e2 ?_ (by rw [List.size_toArray, List.size_toArray]; omega)
  have ea : its.toArray ++ its2.toArray = (its ++ its2).toArray := by simp
  rw [ea]
  exact ⟨.ref _, _, I.lnew (t' := s.toks) (r.append r2) (by rw [List.length_append]; omega), rfl, q _ I.fresh⟩

/-! ### del xs[i] -/
end

/-! ### xs[a:b] = ys -/
section
variable {prog : Program} {w : World} {A : Around} {E : Value → Shared → Prop} {s : Shared}
set_option maxRecDepth 100000 in
end

section
variable {X : Cx}
end
end L2

namespace L2
open PySem PySem.Spec PyProof.Rows

theorem Vals.ints : ∀ {ns : List Int} {us : List Value}, Vals (ns.map V.int) us → IntsAre us ns
  | [], us, h => by
    rw [List.map_nil] at h
    cases h
    exact IntsAre.nil
  | n :: ns, us, h => by
    rw [List.map_cons] at h
    cases h with
    | cons r t =>
      obtain ⟨k, rfl⟩ := r
      exact IntsAre.cons n k (Vals.ints t)
theorem Vals.bls : ∀ {bs : List Bool} {us : List Value}, Vals (bs.map V.bl) us → us = bs.map Value.bool
  | [], us, h => by
    rw [List.map_nil] at h
    cases h
    rfl
  | b :: bs, us, h => by
    rw [List.map_cons] at h
    cases h with
    | cons r t =>
      cases r
      rw [Vals.bls t, List.map_cons]
theorem Vals.ref1 {a : Addr} {us : List Value} (r : Vals [V.ref a] us) : us = [Value.ref a] := by
  cases r with
  | cons r t =>
    cases t
    cases r
    rfl

/-! ### the library's walks over a list of ints, kept objects alone -/
section
variable {prog : Program} {w : World} {A : Around} {E : Value → Shared → Prop} {s : Shared} {l : Addr} {its : List Value} {ns : List Int} {Q : Value → Shared → Prop}
theorem sum_raw (hh : A.handled = none) (hl : s.heap.IsList l its.toArray) (hi : IntsAre its ns)
    (h : ∀ h' tk t', (∀ b o, s.heap.get? b = some o → h'.get? b = some o) → Q (.int ns.sum t') { s with heap := h', toks := tk }) : wpAny (model prog w) A (call (.builtin "sum") [.ref l]) Q E s := by
  obtain ⟨xs, e⟩ := hi.allInts.items
  have hn : numsOf (intItems xs).toList = ns := by rw [← e]; exact hi.numsOf
  rw [nums_intItems] at hn
  rw [e] at hl
  refine PySem.sum_intListG hh hl fun h' tk t' hk => ?_
  have := h h' tk t' hk
  rw [preSum_eq, List.take_of_length_le (by simp), hn]; exact this
end

/-! ### the calls, by values (CallR of 03t; MtR of 06l) -/
section
variable {X : Cx}
/-- sum(xs) of a list of ints -/
def rSum (K : PySem.W.Frag) : List V → Hp → VK → Prop := fun vs H Q => ∃ (a : Addr) (ns : List Int), vs = [V.ref a] ∧ SqL K H a (ns.map V.int) ∧ Q (.int ns.sum) H
theorem cr_sum (hc : X.calm = true) : CallR X (.builtin "sum") (rSum X.K) := by
  intro pins s σ H vs us Q I r h
  obtain ⟨a, ns, rfl, hs, q⟩ := h
  obtain ⟨its, rv, hl, _⟩ := I.list hs
  rw [Vals.ref1 r]
  exact sum_raw (I.ok.hd hc) hl.isList rv.ints fun h' tk t' hk => ⟨.int _, H, I.kept hk, ⟨_, rfl⟩, q⟩

/-! sorted, sort (fewer than 64 items: the library's own bound) -/
end

/-! ### list.index, flat items -/
section
variable {X : Cx}
end

/-! ### type(x) of an own instance; is, is not of a module's class -/
section
variable {X : Cx}
end

/-! ### any(xs), all(xs) of a list of bools -/
theorem iter_any {prog : Program} {w : World} {A : Around} {E : Value → Shared → Prop} {s : Shared} {l : Addr} {items : Array Value} {Q : Value → Shared → Prop} (hl : s.heap.IsList l items)
    (h : ∀ s₂ : Shared, s₂ = { s with heap := s.heap.push { cls := .type "list_iterator", data := .fields #[.ref l, .int 0 0] } } →
      (s₂.heap.IsListIter s.heap.objs.size l 0 ∧ s₂.heap.IsList l items) → l ≠ s.heap.objs.size → Q (.ref s.heap.objs.size) s₂) : wpAny (model prog w) A (pyIter (.ref l)) Q E s := by
  have hlt : l < s.heap.objs.size := by obtain ⟨_, e, _⟩ := hl; exact Heap.lt_size e
  exact wpAny_pyIter_list hl (h _ rfl ⟨⟨_, Heap.get?_push_size _ rfl, rfl, rfl⟩, hl.push _⟩ (Nat.ne_of_lt hlt))
theorem truth_bools {prog : Program} {w : World} {A : Around} {bs : List Bool} {its : List Value} (e : its = bs.map Value.bool) :
    TruthOf prog w A (fun i v => its.toArray[i]? = some v) (fun i => bs.getD i false) := fun i v s Q E hv hq => by
  have hv' : its[i]? = some v := by simpa using hv
  rw [e, List.getElem?_map] at hv'
  obtain ⟨b, hb, rfl⟩ := Option.map_eq_some_iff.mp hv'
  have hg : bs.getD i false = b := by rw [List.getD_eq_getElem?_getD, hb] <;> rfl
  have hq' : Q (bs.getD i false) s := hq
  rw [hg] at hq'
  exact wpAny_truthy_bool hq'
theorem all_range : ∀ bs : List Bool, (List.range bs.length).all (fun i => bs.getD i false) = bs.all id
  | [] => rfl
  | b :: bs => by
    rw [List.length_cons, List.range_succ_eq_map, List.all_cons, List.all_map, List.all_cons, ← all_range bs]
    all_goals rfl
section
variable {X : Cx}
def rAll (K : PySem.W.Frag) : List V → Hp → VK → Prop := fun vs H Q => ∃ (a : Addr) (bs : List Bool), vs = [V.ref a] ∧ SqL K H a (bs.map V.bl) ∧ Q (.bl (bs.all id)) H
theorem cr_all (hc : X.calm = true) : CallR X (.builtin "all") (rAll X.K) := by
  intro pins s σ H vs us Q I r h
  obtain ⟨a, bs, rfl, hs, q⟩ := h
  obtain ⟨its, rv, hl, _⟩ := I.list hs
  rw [Vals.ref1 r]
  have hb := rv.bls
  refine call_all_walk (iter_any hl.isList fun s₂ e2 st hne => ?_)
  subst e2
  refine ⟨_, _, _, _, _, _, _, rfl, Walks.list (A := X.A.in1) (I.ok.hd hc) _ a hne its.toArray, st, truth_bools hb, fun h' tk hk => ?_⟩
  refine ⟨.bl _, H, I.kept fun b o eo => hk b o (fun hmem => ?_) (Heap.get?_push_of_some _ eo), ?_, q⟩
  · rcases List.mem_cons.mp hmem with e1 | hmem
    · exact absurd (e1 ▸ Heap.lt_size eo) (Nat.lt_irrefl _)
    · cases hmem
  · show Value.bool _ = Value.bool _
    rw [← all_range, hb, List.size_toArray, List.length_map]
end

/-! ### == and != of data at any depth: none, bools, ints, texts, lists, tuples -/
mutual
inductive Dp (K : PySem.W.Frag) (H : Hp) : V → PyData → Prop
  | non : Dp K H .non .none
  | bl (b : Bool) : Dp K H (.bl b) (.bool b)
  | int (i : Int) : Dp K H (.int i) (.int i)
  | str (x : Str) : Dp K H (.str x) (.str x)
  | lst {a : Addr} {xs : List V} {ds : List PyData} : SqL K H a xs → DpAll K H xs ds → Dp K H (.ref a) (.list ds)
  | tup {a : Addr} {xs : List V} {ds : List PyData} : SqT K H a xs → DpAll K H xs ds → Dp K H (.ref a) (.tuple ds)
inductive DpAll (K : PySem.W.Frag) (H : Hp) : List V → List PyData → Prop
  | nil : DpAll K H [] []
  | cons {v : V} {vs : List V} {d : PyData} {ds : List PyData} : Dp K H v d → DpAll K H vs ds → DpAll K H (v :: vs) (d :: ds)
end
section
variable {X : Cx} {pins : List (Addr × Obj)} {σ : St} {H : Hp} {s : Shared}
mutual
theorem Dp.reads (I : Inv X pins σ H s) : ∀ (d : PyData) (v : V) (u : Value), Dp X.K H v d → RelV v u → ∃ as, Reads s.heap u d as
  | .none, _, _, h, r => by
    cases h
    cases r
    exact ⟨_, Reads.none⟩
  | .bool b, _, _, h, r => by
    cases h
    cases r
    exact ⟨_, Reads.bool b⟩
  | .int i, _, _, h, r => by
    cases h
    obtain ⟨t, rfl⟩ := r
    exact ⟨_, Reads.int i t⟩
  | .str x, _, _, h, r => by
    cases h
    obtain ⟨t, rfl⟩ := r
    exact ⟨_, Reads.str x t⟩
  | .list ds, _, _, h, r => by
    cases h with
    | lst hs ha =>
      cases r
      obtain ⟨its, rv, ⟨o, n, ho, hc, _, hd⟩, _⟩ := I.list hs
      obtain ⟨as, hr⟩ := Dp.readsAll I ds _ its ha rv
      exact ⟨_, Reads.list ho hc hd hr⟩
  | .tuple ds, _, _, h, r => by
    cases h with
    | tup hs ha =>
      cases r
      obtain ⟨its, rv, ⟨o, ho, hc, n, hd⟩, _⟩ := I.tuple hs
      obtain ⟨as, hr⟩ := Dp.readsAll I ds _ its ha rv
      exact ⟨_, Reads.tuple ho hc hd hr⟩
  | .dict _, _, _, h, _ => by cases h
theorem Dp.readsAll (I : Inv X pins σ H s) : ∀ (ds : List PyData) (vs : List V) (us : List Value), DpAll X.K H vs ds → Vals vs us → ∃ as, ReadsAll s.heap us ds as
  | [], _, _, h, r => by
    cases h
    cases r
    exact ⟨_, ReadsAll.nil⟩
  | d :: ds, _, _, h, r => by
    cases h with
    | cons h1 h2 =>
      cases r with
      | cons r1 r2 =>
        obtain ⟨as, q1⟩ := Dp.reads I d _ _ h1 r1
        obtain ⟨bs, q2⟩ := Dp.readsAll I ds _ _ h2 r2
        exact ⟨_, ReadsAll.cons q1 q2⟩
end
end
section
variable {X : Cx}
end
end L2

namespace L2
open PySem PySem.Spec PyProof.Rows
abbrev CellAt (h : Heap) (c : Addr) (v : Option Value) : Prop := h.IsCell c v
def relS (scope sc : Scope) : Scope :=
  { scope with names := scope.names.map fun (n, k) => if (k == .free && sc.kind == .function && sc.names.lookup n == some .cell) then (n, .cell) else (n, k) }

def cloFrom (cells : List (Str × Addr)) : List (Str × NameKind) → List (Str × Addr) → List (Str × Addr)
  | [], acc => acc
  | (n, k) :: r, acc => if k == .free then cloFrom cells r ((n, (cells.lookup n).getD 0) :: acc) else cloFrom cells r acc

theorem closure_loop (env : Env) (f : Str × NameKind → List (Str × Addr) → Sem (ForInStep (List (Str × Addr))))
    (hf : ∀ n k c, f (n, k) c = if k == .free then (do let a ← cellOf env n; pure (.yield ((n, a) :: c))) else pure (.yield c)) :
    ∀ (names : List (Str × NameKind)) (acc : List (Str × Addr)), (∀ y ∈ names, y.2 = .free → ∃ c, env.cells.lookup y.1 = some c) → forIn names acc f = pure (cloFrom env.cells names acc)
  | [], acc, _ => by rw [List.forIn_nil]; rfl
  | (n, k) :: r, acc, h => by
    rw [List.forIn_cons, hf]
    have ih := fun acc => closure_loop env f hf r acc fun y hy => h y (List.mem_cons_of_mem _ hy)
    unfold cloFrom
    by_cases hk : (k == NameKind.free) = true
    · rw [if_pos hk, if_pos hk]
      obtain ⟨c, hc⟩ := h (n, k) List.mem_cons_self (by simpa using hk)
      have e : cellOf env n = pure c := by unfold cellOf; rw [hc]
      rw [e]
      have e2 : (env.cells.lookup n).getD 0 = c := by rw [hc]; rfl
      rw [e2]
      exact ih _
    · rw [if_neg hk, if_neg hk]
      exact ih _
theorem closure_ok {scope : Scope} {env : Env} (h : ∀ y ∈ scope.names, y.2 = .free → ∃ c, env.cells.lookup y.1 = some c) : closureFor scope env = pure (cloFrom env.cells scope.names []) := by
  simp only [closureFor]
  rw [closure_loop env _ (fun n k c => rfl) scope.names [] h]
  rfl

theorem mem_lookup {α : Type} : ∀ {l : List (Str × α)} {n : Str} {c : α}, (n, c) ∈ l → ∃ c', l.lookup n = some c'
  | (k, v) :: r, n, c, h => by
    rw [List.lookup_cons]
    cases hb : n == k with
    | true => exact ⟨_, rfl⟩
    | false =>
      rcases List.mem_cons.mp h with e | h
      · cases e; simp at hb
      · exact mem_lookup h

theorem cloFrom_mem {cells : List (Str × Addr)} : ∀ {names : List (Str × NameKind)} {acc : List (Str × Addr)} {n : Str} {c : Addr}, (n, c) ∈ cloFrom cells names acc → (n, c) ∈ acc ∨ ((n, .free) ∈ names ∧ c = (cells.lookup n).getD 0)
  | [], _, _, _, h => .inl h
  | (m, k) :: r, acc, n, c, h => by
    unfold cloFrom at h
    split at h
    · rename_i hk
      have hk : k = .free := by simpa using hk
      rcases cloFrom_mem h with h | ⟨h1, h2⟩
      · rcases List.mem_cons.mp h with e | h
        · cases e; exact .inr ⟨hk ▸ List.mem_cons_self, rfl⟩
        · exact .inl h
      · exact .inr ⟨List.mem_cons_of_mem _ h1, h2⟩
    · rcases cloFrom_mem h with h | ⟨h1, h2⟩
      · exact .inl h
      · exact .inr ⟨List.mem_cons_of_mem _ h1, h2⟩
theorem cloFrom_acc {cells : List (Str × Addr)} : ∀ {names : List (Str × NameKind)} {acc : List (Str × Addr)} {p : Str × Addr}, p ∈ acc → p ∈ cloFrom cells names acc
  | [], _, _, h => h
  | (m, k) :: r, acc, p, h => by
    unfold cloFrom
    split
    · exact cloFrom_acc (List.mem_cons_of_mem _ h)
    · exact cloFrom_acc h
theorem cloFrom_has {cells : List (Str × Addr)} : ∀ {names : List (Str × NameKind)} {acc : List (Str × Addr)} {n : Str}, (n, .free) ∈ names → (n, (cells.lookup n).getD 0) ∈ cloFrom cells names acc
  | (m, k) :: r, acc, n, h => by
    unfold cloFrom
    rcases List.mem_cons.mp h with e | h
    · cases e
      exact cloFrom_acc List.mem_cons_self
    · split
      · exact cloFrom_has h
      · exact cloFrom_has h

theorem cells_mem : ∀ {names : List (Str × NameKind)} {h : Heap} {acc : List (Str × Addr)} {x : Str} {c : Addr}, (x, c) ∈ cellsFrom h.objs.size names acc →
    (x, c) ∈ acc ∨ ((x, .cell) ∈ names ∧ h.objs.size ≤ c ∧ CellAt (pushCells h names) c none)
  | [], _, _, _, _, h => .inl h
  | (n, k) :: r, h, acc, x, c, hm => by
    unfold cellsFrom at hm
    unfold pushCells
    split at hm
    · rename_i hk
      rw [if_pos hk]
      have hk : k = .cell := by simpa using hk
      rw [← Heap.size_push h { cls := .type "cell", data := .cell none }] at hm
      rcases cells_mem hm with hm | ⟨h1, h2, h3⟩
      · rcases List.mem_cons.mp hm with e | hm
        · cases e
          exact .inr ⟨hk ▸ List.mem_cons_self, Nat.le_refl _, _, pushCells_keeps r _ _ _ (Heap.get?_push_size _ rfl), rfl⟩
        · exact .inl hm
      · rw [Heap.size_push] at h2
        exact .inr ⟨List.mem_cons_of_mem _ h1, Nat.le_of_succ_le h2, h3⟩
    · rename_i hk
      rw [if_neg hk]
      rcases cells_mem hm with hm | ⟨h1, h2, h3⟩
      · exact .inl hm
      · exact .inr ⟨List.mem_cons_of_mem _ h1, h2, h3⟩
theorem cells_acc : ∀ {names : List (Str × NameKind)} {n : Nat} {acc : List (Str × Addr)} {p : Str × Addr}, p ∈ acc → p ∈ cellsFrom n names acc
  | [], _, _, _, h => h
  | (m, k) :: r, n, acc, p, h => by
    unfold cellsFrom
    split
    · exact cells_acc (List.mem_cons_of_mem _ h)
    · exact cells_acc h
theorem cells_has : ∀ {names : List (Str × NameKind)} {n : Nat} {acc : List (Str × Addr)} {x : Str}, (x, .cell) ∈ names → ∃ c, (x, c) ∈ cellsFrom n names acc
  | (m, k) :: r, n, acc, x, h => by
    unfold cellsFrom
    rcases List.mem_cons.mp h with e | h
    · cases e
      exact ⟨n, cells_acc List.mem_cons_self⟩
    · split
      · exact cells_has h
      · exact cells_has h
theorem cells_inj : ∀ {names : List (Str × NameKind)} {h : Heap} {acc : List (Str × Addr)} {x y : Str} {c : Addr}, (∀ p ∈ acc, p.2 < h.objs.size) → (∀ x y c, (x, c) ∈ acc → (y, c) ∈ acc → x = y) →
    (x, c) ∈ cellsFrom h.objs.size names acc → (y, c) ∈ cellsFrom h.objs.size names acc → x = y
  | [], _, _, _, _, _, _, hi, h1, h2 => hi _ _ _ h1 h2
  | (n, k) :: r, h, acc, x, y, c, hl, hi, h1, h2 => by
    unfold cellsFrom at h1 h2
    split at h1
    · rename_i hk
      rw [if_pos hk] at h2
      rw [← Heap.size_push h { cls := .type "cell", data := .cell none }] at h1 h2
      refine cells_inj (h := h.push _) (fun p hp => ?_) (fun x y c a b => ?_) h1 h2
      · rw [Heap.size_push]
        rcases List.mem_cons.mp hp with rfl | hp
        · exact Nat.lt_succ_self _
        · exact Nat.lt_succ_of_lt (hl p hp)
      · rcases List.mem_cons.mp a with e | a <;> rcases List.mem_cons.mp b with e' | b
        · cases e; cases e'; rfl
        · cases e; exact absurd (hl _ b) (Nat.lt_irrefl _)
        · cases e'; exact absurd (hl _ a) (Nat.lt_irrefl _)
        · exact hi _ _ _ a b
    · rename_i hk
      rw [if_neg hk] at h2
      exact cells_inj hl hi h1 h2

theorem newEnv_comp {M : Model} {A : Around} {E : Value → Shared → Prop} {s : Shared} {scope : Scope} {globals : Addr} {closure : List (Str × Addr)} {qual : Str} {func : Option Addr} {code : Value} {around : Env} {builtins : Addr} {Q : Env → Shared → Prop}
    (h : Q (newEnv scope s.heap.objs.size globals (cellsFrom (s.heap.objs.size + 1) scope.names closure) qual func code (some around) builtins)
      { s with heap := pushCells (s.heap.push { cls := .type "dict", data := .dict #[] }) scope.names }) :
    wpAny M A (newFunctionEnv scope globals closure [] qual func code (some around) builtins) Q E s := by
  simp only [newFunctionEnv, Option.isSome_some, if_true]
  refine wpAny_bind (wpAny_alloc ?_)
  refine wpAny_bind (wpAny_layCells _ (fun n k c => rfl) scope.names closure _ _ ?_)
  rw [show ({ s with heap := s.heap.push { cls := .type "dict", data := .dict #[] } } : Shared).heap.objs.size = s.heap.objs.size + 1 from Heap.size_push ..]
  rw [List.forIn_nil]
  exact wpAny_bind (wpAny_pure (wpAny_pure h))

/-- every name of the written scope, in the scope that runs -/
theorem lookup_relS {sc : Scope} : ∀ {names : List (Str × NameKind)} {x : Str} {k : NameKind},
    (names.map fun (n, k) => if (k == NameKind.free && sc.kind == .function && sc.names.lookup n == some .cell) then (n, NameKind.cell) else (n, k)).lookup x = some k →
    ∃ k', names.lookup x = some k' ∧ (k = k' ∨ (k' = .free ∧ k = .cell))
  | [], _, _, h => by simp at h
  | (n, k₀) :: r, x, k, h => by
    have ih := @lookup_relS sc r x k
    have h' : List.lookup x ((if (k₀ == NameKind.free && sc.kind == .function && sc.names.lookup n == some .cell) = true then (n, NameKind.cell) else (n, k₀)) :: (r.map _)) = some k := h
    cases hx : x == n with
    | true =>
      simp only [List.lookup_cons, hx]
      by_cases hc : (k₀ == NameKind.free && sc.kind == .function && sc.names.lookup n == some .cell) = true
      · rw [if_pos hc] at h'
        simp only [List.lookup_cons, hx] at h'
        cases h'
        simp only [Bool.and_eq_true, beq_iff_eq] at hc
        exact ⟨k₀, rfl, .inr ⟨hc.1.1, rfl⟩⟩
      · rw [if_neg hc] at h'
        simp only [List.lookup_cons, hx] at h'
        cases h'
        exact ⟨_, rfl, .inl rfl⟩
    | false =>
      simp only [List.lookup_cons, hx]
      by_cases hc : (k₀ == NameKind.free && sc.kind == .function && sc.names.lookup n == some .cell) = true
      · rw [if_pos hc] at h'
        simp only [List.lookup_cons, hx] at h'
        exact ih h'
      · rw [if_neg hc] at h'
        simp only [List.lookup_cons, hx] at h'
        exact ih h'



/-- the names of a comprehension's block: its own (with their places in N), or captured -/
structure BlkOk (N : List Str) (sc scope : Scope) (own : List (Str × Nat)) : Prop where
  kind : scope.kind = .function
  uniq : ∀ y ∈ scope.names, scope.names.lookup y.1 = some y.2
  ix : ∀ p ∈ own, N[p.2]? = some p.1
  free : ∀ y ∈ scope.names, y.2 = .free → sc.names.lookup y.1 = some .cell ∨ sc.names.lookup y.1 = some .free
  own : ∀ y ∈ scope.names, y.2 = .local ∨ y.2 = .cell → y.1 ∈ own.map (·.1) ∨ y.1 ∉ N
/-- the slots of the block's own names forgotten -/
def wipe (σ : St) : List Nat → St
  | [] => σ
  | v :: vs => (wipe σ vs).set v none
theorem wipe_length (σ : St) : ∀ vs : List Nat, (wipe σ vs).length = σ.length
  | [] => rfl
  | v :: vs => by unfold wipe; rw [List.length_set, wipe_length σ vs]
theorem wipe_some {σ : St} {i : Nat} {x : V} : ∀ {vs : List Nat}, (wipe σ vs)[i]? = some (some x) → σ[i]? = some (some x) ∧ i ∉ vs
  | [], h => ⟨h, by simp⟩
  | v :: vs, h => by
    unfold wipe at h
    by_cases hi : v = i
    · subst hi
      by_cases hv : v < (wipe σ vs).length
      · rw [List.getElem?_set_self hv] at h; cases h
      · rw [List.getElem?_eq_none (by simpa using hv)] at h; cases h
    · rw [List.getElem?_set_ne hi] at h
      obtain ⟨h1, h2⟩ := wipe_some h
      exact ⟨h1, by simp only [List.mem_cons, not_or]; exact ⟨fun e => hi e.symm, h2⟩⟩

/-- the context of a block that starts at s, its iterator's objects at fp -/
abbrev Cx.blk (X : Cx) (s : Shared) (H : Hp) (scope : Scope) (cenv : Env) (fp : List Addr) : Cx := { X with s_0 := s, H_0 := H, env := cenv, outer := X.stack, ex := fp, fn := fun x => scope.names.lookup x == some .cell, pn := [], xe := fun _ _ => False }
section
variable {X : Cx} {pins : List (Addr × Obj)} {σ : St} {H : Hp} {s : Shared}
theorem block_start {scope : Scope} {own : List (Str × Nat)} {fp : List Addr} (I : Inv X pins σ H s) (ok : BlkOk X.N X.env.scope scope own) (hN : X.N.Nodup) (hfp : ∀ b ∈ fp, FpOk X pins H b ∧ b < s.heap.objs.size) :
    Inv (X.blk s H scope (compEnvC scope (cellsFrom (s.heap.objs.size + 1) scope.names (cloFrom X.env.cells scope.names [])) s.heap.objs.size X.env) fp) [] (wipe σ (own.map (·.2))) H { s with heap := pushCells (s.heap.push { cls := .type "dict", data := .dict #[] }) scope.names } := by
  have hfree : ∀ y ∈ scope.names, y.2 = .free → ∃ c, X.env.cells.lookup y.1 = some c := fun y hy e => by
    rcases ok.free y hy e with k | k
    · exact I.ok.has _ (.inl k)
    · exact I.ok.has _ (.inr k)
  generalize hcenv : compEnvC scope (cellsFrom (s.heap.objs.size + 1) scope.names (cloFrom X.env.cells scope.names [])) s.heap.objs.size X.env = cenv
  have kp : ∀ b o, s.heap.get? b = some o → (pushCells (s.heap.push { cls := .type "dict", data := .dict #[] }) scope.names).get? b = some o := fun b o e => pushCells_keeps _ _ _ _ (Heap.get?_push_of_some _ e)
  have hL : cenv.locals = s.heap.objs.size := by rw [← hcenv]; rfl
  have hcl : cenv.cells = cellsFrom (s.heap.objs.size + 1) scope.names (cloFrom X.env.cells scope.names []) := by rw [← hcenv]; rfl
  have hsc : cenv.scope = relS scope X.env.scope := by rw [← hcenv]; rfl
  rw [← Heap.size_push s.heap { cls := .type "dict", data := .dict #[] }] at hcl
  have cm : ∀ {y c}, (y, c) ∈ cloFrom X.env.cells scope.names [] → X.env.cells.lookup y = some c ∧ c < s.heap.objs.size := fun {y c} hm => by
    rcases cloFrom_mem hm with hm | ⟨h1, rfl⟩
    · cases hm
    · obtain ⟨c, hc⟩ := hfree _ h1 rfl
      rw [hc]
      obtain ⟨w, z⟩ := I.cell _ _ hc
      exact ⟨rfl, z.lt⟩
  have mem : ∀ {y c}, cenv.cells.lookup y = some c → (X.env.cells.lookup y = some c ∧ c < s.heap.objs.size) ∨ (s.heap.objs.size + 1 ≤ c ∧ CellAt (pushCells (s.heap.push { cls := .type "dict", data := .dict #[] }) scope.names) c none) := fun {y c} e => by
    rw [hcl] at e
    rcases cells_mem (PySem.mem_of_lookup e) with hm | ⟨_, h2, h3⟩
    · exact .inl (cm hm)
    · rw [Heap.size_push] at h2; exact .inr ⟨h2, h3⟩
  have look : ∀ {y}, scope.names.lookup y = some .free → ∃ c, cenv.cells.lookup y = some c ∧ X.env.cells.lookup y = some c := fun {y} hl => by
    have hy : (y, NameKind.free) ∈ scope.names := PySem.mem_of_lookup hl
    obtain ⟨c', e'⟩ := mem_lookup (cells_acc (names := scope.names) (n := (s.heap.push { cls := .type "dict", data := .dict #[] }).objs.size) (cloFrom_has (cells := X.env.cells) (acc := []) hy))
    rw [← hcl] at e'
    refine ⟨c', e', ?_⟩
    rw [hcl] at e'
    rcases cells_mem (PySem.mem_of_lookup e') with hm | ⟨h1, _, _⟩
    · exact (cm hm).1
    · have := ok.uniq _ h1
      rw [hl] at this; cases this
  have okB : (X.blk s H scope cenv fp).Ok := by
    refine ⟨I.ok.mod, by show cenv.scope.kind = _; rw [hsc]; exact ok.kind, by show cenv.globals = _; rw [← hcenv]; exact I.ok.glob, by show cenv.builtins = _; rw [← hcenv]; exact I.ok.blt, by show s.heap.objs.size ≤ cenv.locals; rw [hL]; exact Nat.le_refl _,
      fun y z c e1 e2 => ?_, fun y hy => ?_, fun y c z e => ?_, I.ok.hd, I.ok.frames, .inl rfl, fun b hb => ⟨?_, fun y c e z => ?_⟩, I.bs, Nat.le_trans I.ok.bsz I.sz, fun b o e hb => ?_, fun b hb z => ?_, I.stack, I.stkFree⟩
    · have e1 : cenv.cells.lookup y = some c := e1
      have e2 : cenv.cells.lookup z = some c := e2
      rw [hcl] at e1 e2
      refine cells_inj (fun p hp => ?_) (fun y z c a b => I.ok.inj y z c (cm a).1 (cm b).1) (PySem.mem_of_lookup e1) (PySem.mem_of_lookup e2)
      rw [Heap.size_push]
      exact Nat.lt_succ_of_lt (cm (y := p.1) (c := p.2) hp).2
    · show ∃ c, cenv.cells.lookup y = some c
      have key : ∀ k, cenv.kindOf y = some k → (k = .cell ∨ k = .free) → ∃ c, cenv.cells.lookup y = some c := fun k hk hk' => by
        unfold Env.kindOf at hk
        rw [hsc] at hk
        obtain ⟨k', e, r⟩ := lookup_relS hk
        have : k' = .cell ∨ k' = .free := by
          rcases r with rfl | ⟨rfl, _⟩
          · exact hk'
          · exact .inr rfl
        rcases this with rfl | rfl
        · obtain ⟨c, hm⟩ := cells_has (n := (s.heap.push { cls := .type "dict", data := .dict #[] }).objs.size) (acc := cloFrom X.env.cells scope.names []) (PySem.mem_of_lookup e)
          obtain ⟨c', e'⟩ := mem_lookup hm
          exact ⟨c', by rw [hcl]; exact e'⟩
        · obtain ⟨c, h1, _⟩ := look e
          exact ⟨c, h1⟩
      rcases hy with hy | hy
      · exact key _ hy (.inl rfl)
      · exact key _ hy (.inr rfl)
    · have z : (scope.names.lookup y == some NameKind.cell) = true := z
      have z : scope.names.lookup y = some .cell := by simpa using z
      have e : cenv.cells.lookup y = some c := e
      rw [hcl] at e
      rcases cells_mem (PySem.mem_of_lookup e) with hm | ⟨_, h2, _⟩
      · rcases cloFrom_mem hm with hm | ⟨h1, _⟩
        · cases hm
        · have q := ok.uniq _ h1
          rw [z] at q; cases q
      · rw [Heap.size_push] at h2
        exact Nat.le_of_succ_le h2
    · show b ≠ cenv.locals
      rw [hL]; exact Nat.ne_of_lt (hfp b hb).2
    · have e : cenv.cells.lookup y = some c := e
      rcases mem e with ⟨h1, _⟩ | ⟨h1, _⟩
      · exact (hfp b hb).1.2.2.2.2.1 y c h1 z
      · have h2 : s.heap.objs.size + 1 ≤ b := by rw [← z]; exact h1
        exact absurd (Nat.lt_of_lt_of_le (hfp b hb).2 (Nat.le_of_succ_le h2)) (Nat.lt_irrefl _)
    · rcases (hfp b hb).1.2.2.2.1 with z | z
      · exact I.ok.noex b o e z
      · exact absurd (Nat.lt_of_lt_of_le (Heap.lt_size e) (Nat.le_trans I.ok.bsz z)) (Nat.lt_irrefl _)
    · rcases List.mem_cons.mp (I.stkSub b z) with z | z
      · exact (hfp b hb).1.2.1 z
      · exact (hfp b hb).1.2.2.1 z
  refine ⟨okB, rfl, I.bare, Un.kept kp, ⟨fun _ => none, ?_, fun i y av e1 e2 e3 => ?_⟩, fun y c e => ?_, ?_, fun y c e => ?_, fun p hp => ?_, I.hok.kept kp, by rw [wipe_length]; exact I.len⟩
  · show Heap.Ns _ cenv.locals _
    rw [hL]
    exact Heap.Ns.keeps (Heap.Ns.new ..) fun b o e => pushCells_keeps _ _ _ _ e
  · obtain ⟨e2, hne⟩ := wipe_some e2
    have hfr : scope.names.lookup y = some .free ∧ (cenv.kindOf y = some .cell ∨ cenv.kindOf y = some .free) := by
      have key : ∀ k, cenv.scope.names.lookup y = some k → k = .local ∨ k = .cell ∨ k = .free → scope.names.lookup y = some .free ∧ (cenv.kindOf y = some .cell ∨ cenv.kindOf y = some .free) := fun k hk hk' => by
        have hk0 := hk
        rw [hsc] at hk
        obtain ⟨k', e, r⟩ := lookup_relS hk
        have no : ¬ (k' = .local ∨ k' = .cell) := fun hh => by
          rcases ok.own _ (PySem.mem_of_lookup e) hh with e' | e'
          · obtain ⟨p, hp, hpy⟩ := List.mem_map.mp e'
            have e3 := ok.ix p hp
            have : p.1 = y := hpy
            rw [this] at e3
            exact hne (List.mem_map.mpr ⟨p, hp, nodup_ix hN e3 e1⟩)
          · exact e' (List.mem_of_getElem? e1)
        rcases r with rfl | ⟨rfl, rfl⟩
        · rcases hk' with rfl | rfl | rfl
          · exact absurd (.inl rfl) no
          · exact absurd (.inr rfl) no
          · exact ⟨e, .inr hk0⟩
        · exact ⟨e, .inl hk0⟩
      have e3 : Vis cenv.scope y := e3
      rcases e3 with e3 | e3 | e3
      · exact key _ e3 (.inl rfl)
      · exact key _ e3 (.inr (.inl rfl))
      · exact key _ e3 (.inr (.inr rfl))
    obtain ⟨m, hn, hl⟩ := I.loc
    have hvis : Vis X.env.scope y := (ok.free _ (PySem.mem_of_lookup hfr.1) rfl).elim (fun k => .inr (.inl k)) (fun k => .inr (.inr k))
    obtain ⟨w, r, q⟩ := hl i y av e1 e2 hvis
    refine ⟨w, r, .inr ⟨hfr.2, ?_⟩⟩
    obtain ⟨c, h1, h2⟩ := look hfr.1
    rcases q with ⟨k, _⟩ | ⟨_, c', e', z⟩
    · have k : X.env.scope.names.lookup y = some .local := k
      rcases ok.free _ (PySem.mem_of_lookup hfr.1) rfl with k' | k' <;> rw [show X.env.scope.names.lookup y = _ from k'] at k <;> cases k
    · rw [h2] at e'; cases e'
      exact ⟨c, h1, z.keeps kp⟩
  · have e : cenv.cells.lookup y = some c := e
    rcases mem e with ⟨h1, _⟩ | ⟨_, z⟩
    · obtain ⟨w, z⟩ := I.cell y c h1
      exact ⟨w, z.keeps kp⟩
    · exact ⟨_, z⟩
  · show H cenv.locals = none
    rw [hL]; exact I.hok.fresh (Nat.le_refl _)
  · have e : cenv.cells.lookup y = some c := e
    rcases mem e with ⟨h1, _⟩ | ⟨h1, _⟩
    · exact I.freeC y c h1
    · exact I.hok.fresh (Nat.le_of_succ_le h1)
  · exact absurd (show p ∈ ([] : List (Addr × Obj)) ++ [] from hp) (by simp)

/-- an item appended to a tracked list -/
theorem app_ok {E : Value → Shared → Prop} {D : Addr} {xs : List V} {y : V} {v : Value} {Q : Value → Shared → Prop} (I : Inv X pins σ H s) (hD : H D = some (.lst xs)) (hz : xs.length < sizeLine) (r : RelV y v)
    (h : ∀ s', Inv X pins σ (upd H D (.lst (xs ++ [y]))) s' → Q .none s') : wpAny (model X.prog X.w) X.A (call (.builtin "list.append") [.ref D, v]) Q E s := by
  obtain ⟨hz', its, n, ri, e⟩ := I.hok D _ hD
  have hl := ri.length
  refine append_at (hsz := by rw [List.size_toArray]; omega) e fun h' sb ho' => ?_
  refine h { s with heap := h' } (I.write (t' := s.toks) (by rw [hD]; trivial) (.inl rfl) (fun b u hb q => (sb.2 b hb).trans q) ⟨_, ho'⟩ ⟨by rw [List.length_append]; exact hz, its ++ [v], n + 1, ri.append (.cons r .nil), ?_⟩)
  rw [ho']
  simp

/-- a clause's tests -/
def PTs (X : Cx) (ifs : List Expr) (t : TT) : Prop :=
  ∀ (pins : List (Addr × Obj)) (s : Shared) (σ : St) (H : Hp) (Q : Bool → Hp → Prop), Inv X pins σ H s → t σ H Q →
    wpAny (model X.prog X.w) X.A (forIn ifs true fun c r => if r = true then do let ok ← isTrue c X.env (eval c X.env); pure (ForInStep.yield ok) else pure (ForInStep.yield r)) (TP X pins σ Q) X.xe s
def tYes : TT := fun _ H Q => Q true H
theorem pts_nil : PTs X [] tYes := fun _ _ _ H _ I h => wpAny_tests_nil ⟨H, I, h⟩
theorem pts_one {c : Expr} {t : TT} (h : PT X c t) : PTs X [c] t := fun pins s σ H Q I hw => wpAny_tests_one (h pins s σ H Q I hw)
end

theorem thnF {α : Type} {t : Sem α} {Q Q' : α → Shared → Prop} {M : Model} {A : Around} {E : Value → Shared → Prop} {s : Shared} (h : wpAny M A t Q (fun _ _ => False) s) (hQ : ∀ a s, Q a s → Q' a s) : wpAny M A t Q' E s := wpAny_mono h hQ fun _ _ z => False.elim z

/-- the loop of a list comprehension's block, the target of any form (codeAny_compLoop_tests asks a target that no tuple goes to; statement and proof follow it, PyProof/CompMap.lean:41-61, with the step letOwnedTupleGo kept) -/
theorem compLoop_any {prog : Program} {w : World} {A : Around} {R : Result → Shared → Prop} {s : Shared} {elt target iter : Expr} {ifs : List Expr} {scope : Scope} {pos : Pos} {it acc : Value} {env : Env} (I : Nat → Shared → Prop)
    (turn : ∀ n s, I n s → wpAny (model prog w) A (pyNext it) (fun r s₁ => match r with
      | none => R (.ok .next) s₁
      | some v => wpAny (model prog w) A (letOwnedTupleGo target it v) (fun _ s₁' => wpAny (model prog w) A (assign target env v) (fun _ s₂ =>
          wpAny (model prog w) A (forIn ifs true fun c r => if r = true then do let ok ← isTrue c env (eval c env); pure (ForInStep.yield ok) else pure (ForInStep.yield r)) (fun ok s₃ =>
            if ok = true then wpAny (model prog w) A (eval elt env) (fun x s₄ =>
              wpAny (model prog w) A (call (.builtin "list.append") [acc, x]) (fun _ s₅ => ∃ m, m < n ∧ I m s₅) (notedBy (model prog w) A env fun e s' => R (.error e) s') s₄) (notedBy (model prog w) A env fun e s' => R (.error e) s') s₃
            else ∃ m, m < n ∧ I m s₃) (notedBy (model prog w) A env fun e s' => R (.error e) s') s₂) (notedBy (model prog w) A env fun e s' => R (.error e) s') s₁') (notedBy (model prog w) A env fun e s' => R (.error e) s') s₁) (notedBy (model prog w) A env fun e s' => R (.error e) s') s)
    (n : Nat) (h : I n s) :
    codeAny (model prog w) A (.compLoop (.ListComp elt [⟨target, iter, ifs, 0⟩] scope pos) 0 it acc env) R s := by
  refine codeAny_loop rfl I (fun n s hI => ?_) n h
  show wpAny _ A ((compTurn (.ListComp elt [⟨target, iter, ifs, 0⟩] scope pos) 0 it acc env).onRaise (fun x => do noteFrame x env; theTreesLotGoes x)) _ _ s
  refine wpAny_noted ?_
  rw [compTurn_list]
  refine wpAny_bind (wpAny_standAt (wpAny_bind (wpAny_mono (turn n s hI) (fun r s₁ h₁ => ?_) fun _ _ h' => h')))
  cases r with
  | none => exact wpAny_pure h₁
  | some v =>
    refine wpAny_bind (wpAny_mono h₁ (fun _ s₁' h₁' => ?_) fun _ _ h' => h')
    refine wpAny_bind (wpAny_mono h₁' (fun _ s₂ h₂ => wpAny_bind (wpAny_mono h₂ (fun ok s₃ h₃ => ?_) fun _ _ h' => h')) fun _ _ h' => h')
    cases ok with
    | false => exact wpAny_pure ⟨rfl, h₃⟩
    | true =>
      exact wpAny_bind (wpAny_bind (wpAny_mono h₃ (fun x s₄ h₄ => wpAny_bind (wpAny_mono h₄ (fun _ s₅ h₅ => wpAny_pure (wpAny_pure ⟨rfl, h₅⟩)) fun _ _ h' => h')) fun _ _ h' => h'))

section
variable {X : Cx}
/-- [elt for target in iter if ..]: D the new list; W by the turn and a measure, Nx what a turn is to reach -/
def tLc (wi : TI) (g : TG) (tt : TT) (te : TE) (vs : List Nat) : TE := fun σ H Q => wi σ H fun J H1 => ∀ D, H1 D = none → ∃ W : Nat → Nat → Hp → Prop, (∃ m, W 0 m (upd H1 D (.lst []))) ∧ ∀ i m H, W i m H →
  (J.stop i H ∧ Q (.ref D) H) ∨ (J.go i H ∧ ∃ Nx : Hp → Prop, (∀ H', Nx H' → ∃ m', m' < m ∧ W (i + 1) m' H') ∧ ∀ x H', J.yld i H x H' → g x (wipe σ vs) H' fun σ2 H2 => wipe σ2 vs = wipe σ vs ∧ tt σ2 H2 fun b H3 =>
    if b = true then te σ2 H3 fun y H4 => ∃ acc, H4 D = some (.lst acc) ∧ acc.length < sizeLine ∧ Nx (upd H4 D (.lst (acc ++ [y]))) else Nx H3)
theorem lc_core {pins : List (Addr × Obj)} {s : Shared} {σ : St} {H : Hp} {Q : VK} {elt tg iter : Expr} {ifs : List Expr} {scope : Scope} {own : List (Str × Nat)} {pos pos' : Pos} {wi : TI} {g : TG} {tt : TT} {te : TE} {use : Option (Value → Sem Unit)} {Qf : Value → Shared → Prop}
    (hc : X.calm = true) (hN : X.N.Nodup) (I : Inv X pins σ H s) (hi : PI X tg iter wi) (ok : BlkOk X.N X.env.scope scope own)
    (hg : ∀ (s : Shared) (H : Hp) (C : Addr) (cl : List (Str × Addr)) (fp : List Addr), PG (X.blk s H scope (compEnvC scope cl C X.env) fp) tg g) (ht : ∀ (s : Shared) (H : Hp) (C : Addr) (cl : List (Str × Addr)) (fp : List Addr), PTs (X.blk s H scope (compEnvC scope cl C X.env) fp) ifs tt)
    (he : ∀ (s : Shared) (H : Hp) (C : Addr) (cl : List (Str × Addr)) (fp : List Addr), PE (X.blk s H scope (compEnvC scope cl C X.env) fp) elt te) (hs : ∀ x, foldedSetIterable iter X.env x = pure x)
    (h : tLc wi g tt te (own.map (·.2)) σ H Q)
    (hRR : ∀ D C s' m H', Inv X pins σ H' s' → Q (.ref D) H' → s'.heap.Ns C m → FpOk X pins H' C → compPost (model X.prog X.w) X.A X.xe use Qf (.ref D) C (.ok .next) s') :
    wpAny (model X.prog X.w) X.A (comprehension (.ListComp elt [⟨tg, iter, ifs, 0⟩] scope pos) scope X.env pos' (newList []) false (eval iter X.env) use) Qf X.xe s := by
  have hfree : ∀ y ∈ scope.names, y.2 = .free → ∃ c, X.env.cells.lookup y.1 = some c := fun y hy e => by
    rcases ok.free y hy e with k | k
    · exact I.ok.has _ (.inl k)
    · exact I.ok.has _ (.inr k)
  refine wpAny_comprehension_free (use := use) rfl hs (closure_ok hfree) ok.kind (fun y hy e => by rw [ok.uniq y hy, e])
    (thn (hi pins s σ H _ I h) fun xv s1 hx => thn hx fun itv s2 h2 => ?_)
  obtain ⟨it, fp, tn, J, H2, e, I2, T, st2, f2, q⟩ := h2
  subst e
  refine wpAny_newObj_type (newEnv_comp ?_) (by show 0 ≤ sizeLine; decide)
  generalize hD : s2.heap.objs.size = D
  have hDn : H2 D = none := I2.hok.fresh (Nat.le_of_eq hD)
  obtain ⟨W, ⟨m0, w0⟩, turn⟩ := q D hDn
  -- the new list
  generalize hs3 : ({ s2 with heap := s2.heap.push { cls := .type "list", data := .seq ([] : List Value).toArray } } : Shared) = s3
  have I3 : Inv X pins σ (upd H2 D (.lst [])) s3 := by
    rw [← hs3]
    refine I2.laid (t' := s2.toks) (fun b o e => Heap.get?_push_of_some _ e) (Nat.le_of_eq hD) ⟨Nat.zero_le _, [], 0, .nil, ?_⟩
    rw [← hD]
    exact Heap.get?_push_size _ rfl
  have h3 : s3.heap = s2.heap.push { cls := .type "list", data := .seq ([] : List Value).toArray } := by rw [← hs3]
  have sz : ∀ b ∈ fp, b < s2.heap.objs.size := fun b hb => by
    obtain ⟨o, e, _⟩ := T.obj _ _ st2 b hb
    exact Heap.lt_size e
  have f3 : ∀ b ∈ fp, FpOk X pins (upd H2 D (.lst [])) b ∧ b < s3.heap.objs.size := fun b hb => by
    have hlt := sz b hb
    refine ⟨⟨?_, (f2 b hb).2⟩, by rw [h3, Heap.size_push]; exact Nat.lt_succ_of_lt hlt⟩
    rw [upd_ne (by rw [← hD]; exact Nat.ne_of_lt hlt)]
    exact (f2 b hb).1
  have st3 : tn 0 s3.heap := T.keep _ _ _ st2 fun b _ o e => by rw [h3]; exact Heap.get?_push_of_some _ e
  have I4 := block_start I3 ok hN f3
  have pg := hg s3 (upd H2 D (.lst [])) s3.heap.objs.size (cellsFrom (s3.heap.objs.size + 1) scope.names (cloFrom X.env.cells scope.names [])) fp
  have pt := ht s3 (upd H2 D (.lst [])) s3.heap.objs.size (cellsFrom (s3.heap.objs.size + 1) scope.names (cloFrom X.env.cells scope.names [])) fp
  have pe := he s3 (upd H2 D (.lst [])) s3.heap.objs.size (cellsFrom (s3.heap.objs.size + 1) scope.names (cloFrom X.env.cells scope.names [])) fp
  show codeAny _ _ (.compStart (.ListComp elt [⟨tg, iter, ifs, 0⟩] scope pos) 0 (.ref it) (.ref D) (compEnvC scope (cellsFrom (s3.heap.objs.size + 1) scope.names (cloFrom X.env.cells scope.names [])) s3.heap.objs.size X.env)) (compPost (model X.prog X.w) X.A X.xe use Qf (.ref D) s3.heap.objs.size) { s3 with heap := pushCells (s3.heap.push { cls := .type "dict", data := .dict #[] }) scope.names }
  have nfp : ∀ b ∈ fp, (upd H2 D (.lst [])) b = none := fun b hb => (f3 b hb).1.1
  generalize hce : compEnvC scope (cellsFrom (s3.heap.objs.size + 1) scope.names (cloFrom X.env.cells scope.names [])) s3.heap.objs.size X.env = ce at I4 pg pt pe ⊢
  have cL : ce.locals = s3.heap.objs.size := by subst hce; rfl
  generalize hH3 : upd H2 D (.lst []) = H3 at I3 I4 pg pt pe w0 nfp f3
  generalize hs4 : ({ s3 with heap := pushCells (s3.heap.push { cls := .type "dict", data := .dict #[] }) scope.names } : Shared) = s4 at I4 ⊢
  have st4 : tn 0 s4.heap := T.keep _ _ _ st3 fun b _ o e => by rw [← hs4]; exact pushCells_keeps _ _ _ _ (Heap.get?_push_of_some _ e)
  have stat : ∀ {σ' : St} {H' : Hp} {s' : Shared}, Inv (X.blk s3 H3 scope ce fp) [] σ' H' s' → (∀ b ∈ fp, H' b = none) → ∀ b ∈ fp, FpOk (X.blk s3 H3 scope ce fp) [] H' b := fun {σ' H' s'} I' hn b hb =>
    ⟨hn b hb, (I'.ok.exf b hb).1, I'.ok.exfs b hb, .inl hb, fun x c e => (I'.ok.exf b hb).2 x c e, fun p hp => absurd (show p ∈ ([] : List (Addr × Obj)) ++ [] from hp) (by simp)⟩
  have loop : codeAny (model X.prog X.w) X.A (.compLoop (.ListComp elt [⟨tg, iter, ifs, 0⟩] scope pos) 0 (.ref it) (.ref D) ce) (compPost (model X.prog X.w) X.A X.xe use Qf (.ref D) s3.heap.objs.size) s4 := by
    refine compLoop_any (fun n s' => ∃ i H', Inv (X.blk s3 H3 scope ce fp) [] (wipe σ (own.map (·.2))) H' s' ∧ tn i s'.heap ∧ (∀ b ∈ fp, H' b = none) ∧ W i n H') ?_ m0 ⟨0, H3, I4, st4, nfp, w0⟩
    rintro n s5 ⟨i, H5, I5, st5, n5, w5⟩
    rcases turn i n H5 w5 with ⟨stop, qq⟩ | ⟨go, Nx, hNx, step⟩
    · have td := T.done (X.blk s3 H3 scope ce fp) rfl rfl rfl hc i [] s5 _ H5 (fun _ _ => False) I5 (stat I5 n5) st5 stop
      refine thnF td fun r s6 ⟨hr, I6⟩ => ?_
      subst hr
      -- back in the def's context
      have I7 : Inv X pins σ H5 s6 := I3.call' (ch := fp) I6.os I6.base I6.hok I6.bare fun b hb => ⟨(f3 b hb).1.2.2.2.1, (f3 b hb).1.2.1, (f3 b hb).1.2.2.2.2.1, (f3 b hb).1.2.2.2.2.2⟩
      have nC : H5 s3.heap.objs.size = none := by
        have z : H5 ce.locals = none := I6.free
        rw [cL] at z
        exact z
      obtain ⟨m, hn, _⟩ := I6.loc
      have hn : s6.heap.Ns ce.locals m := hn
      rw [cL] at hn
      exact hRR D s3.heap.objs.size s6 m H5 I7 qq hn (I3.fpOk (Nat.le_refl _) nC)
    · have ti := T.item (X.blk s3 H3 scope ce fp) rfl rfl rfl hc i [] s5 _ H5 (fun _ _ => False) I5 (stat I5 n5) st5 go
      refine thnF ti fun r s6 ⟨u, hr, h6⟩ => ?_
      subst hr
      refine thnF h6 fun _ s7 ⟨x, H7, I7, r7, y7, st7, n7⟩ => ?_
      have I7' := I7.pinned (stat I7 n7) (T.obj _ _ st7)
      refine thnF (pg _ s7 _ H7 x u _ I7' r7 (step x H7 y7)) fun _ s8 ⟨σ8, H8, I8, hw8, q8⟩ => ?_
      refine thnF (pt _ s8 σ8 H8 _ I8 q8) fun b s9 ⟨H9, I9, q9⟩ => ?_
      -- the turn's end
      have fin : ∀ {s' : Shared} {H' : Hp}, Inv (X.blk s3 H3 scope ce fp) ([] ++ pinsAt fp s7.heap) σ8 H' s' → Nx H' → ∃ m, m < n ∧ ∃ i H', Inv (X.blk s3 H3 scope ce fp) [] (wipe σ (own.map (·.2))) H' s' ∧ tn i s'.heap ∧ (∀ b ∈ fp, H' b = none) ∧ W i m H' := fun {s' H'} I' nx => by
        obtain ⟨m', hm, w'⟩ := hNx H' nx
        have pin' : ∀ b ∈ fp, ∀ o, s7.heap.get? b = some o → s'.heap.get? b = some o ∧ H' b = none := fun b hb o e =>
          let z := I'.pin (b, o) (List.mem_append_right _ (List.mem_append_right _ (mem_pinsAt hb e)))
          ⟨z.1, z.2.1⟩
        have hl : (wipe σ (own.map (·.2))).length = σ8.length := by rw [← hw8, wipe_length]
        refine ⟨m', hm, i + 1, H', (I'.unpinned (pins := [])).weak hl (fun j v e => ?_), T.keep _ _ _ st7 fun b hb o e => (pin' b hb o e).1, fun b hb => ?_, w'⟩
        · rw [← hw8] at e
          exact (wipe_some e).1
        · obtain ⟨o, e, _⟩ := T.obj _ _ st7 b hb
          exact (pin' b hb o e).2
      cases b with
      | false =>
        simp only [Bool.false_eq_true, if_false] at q9 ⊢
        exact fin I9 q9
      | true =>
        simp only [if_true] at q9 ⊢
        refine thnF (pe _ s9 σ8 H9 _ I9 q9) fun z s10 ⟨yv, H10, I10, r10, acc, hD10, hz10, nx⟩ => ?_
        exact app_ok (X := X.blk s3 H3 scope ce fp) I10 hD10 hz10 r10 fun s11 I11 => fin I11 nx
  exact codeAny_compStart_list loop (T.self X.A 0 _ _ _ st4 loop)
/-- as a value -/
theorem pe_lc {elt tg iter : Expr} {ifs : List Expr} {scope : Scope} {own : List (Str × Nat)} {pos : Pos} {wi : TI} {g : TG} {tt : TT} {te : TE} (hc : X.calm = true) (hN : X.N.Nodup) (hi : PI X tg iter wi) (ok : BlkOk X.N X.env.scope scope own)
    (hg : ∀ (s : Shared) (H : Hp) (C : Addr) (cl : List (Str × Addr)) (fp : List Addr), PG (X.blk s H scope (compEnvC scope cl C X.env) fp) tg g) (ht : ∀ (s : Shared) (H : Hp) (C : Addr) (cl : List (Str × Addr)) (fp : List Addr), PTs (X.blk s H scope (compEnvC scope cl C X.env) fp) ifs tt)
    (he : ∀ (s : Shared) (H : Hp) (C : Addr) (cl : List (Str × Addr)) (fp : List Addr), PE (X.blk s H scope (compEnvC scope cl C X.env) fp) elt te) (hs : ∀ x, foldedSetIterable iter X.env x = pure x := by intro _; rfl) :
    PE X (.ListComp elt [⟨tg, iter, ifs, 0⟩] scope pos) (tLc wi g tt te (own.map (·.2))) := by
  intro pins s σ H Q I h
  rw [eval_ListComp]
  refine lc_core hc hN I hi ok hg ht he hs h fun D C s' m H' I' q hn f => ⟨m, hn, fun h'' sb => ?_⟩
  obtain ⟨f0, f1, f2, f3, f4, f5⟩ := f
  exact ⟨.ref D, H', I'.turned (t' := s'.toks) (fun b o hb e => (sb.2 b hb).trans e) f0 f1 f3 f4 f5, rfl, q⟩
/-- name = [..] on one line, the name a local -/
theorem ps_setLc {i : Nat} {y : Str} {py : Pos} {elt tg iter : Expr} {ifs : List Expr} {scope : Scope} {own : List (Str × Nat)} {pos spos : Pos} {wi : TI} {g : TG} {tt : TT} {te : TE} (hc : X.calm = true) (hN : X.N.Nodup) (hy : X.N[i]? = some y) (hyl : X.env.scope.names.lookup y = some .local)
    (hsw : swapsWith (.ListComp elt [⟨tg, iter, ifs, 0⟩] scope pos) (some (.Name y py)) spos.line X.env = pure true) (hi : PI X tg iter wi) (ok : BlkOk X.N X.env.scope scope own)
    (hg : ∀ (s : Shared) (H : Hp) (C : Addr) (cl : List (Str × Addr)) (fp : List Addr), PG (X.blk s H scope (compEnvC scope cl C X.env) fp) tg g) (ht : ∀ (s : Shared) (H : Hp) (C : Addr) (cl : List (Str × Addr)) (fp : List Addr), PTs (X.blk s H scope (compEnvC scope cl C X.env) fp) ifs tt)
    (he : ∀ (s : Shared) (H : Hp) (C : Addr) (cl : List (Str × Addr)) (fp : List Addr), PE (X.blk s H scope (compEnvC scope cl C X.env) fp) elt te) (hs : ∀ x, foldedSetIterable iter X.env x = pure x := by intro _; rfl) :
    PS X (.Assign [.Name y py] (.ListComp elt [⟨tg, iter, ifs, 0⟩] scope pos) spos) (tAsg (tLc wi g tt te (own.map (·.2))) (gName i)) := by
  intro pins s σ H D I h
  rw [exec_Assign_Name_used _ _ _ _ hsw]
  refine wpAny_bind (wpAny_standAt (wpAny_bind ?_))
  show wpAny _ X.A (do let _ ← comprehension (.ListComp elt [⟨tg, iter, ifs, 0⟩] scope pos) scope X.env (firstIterPos [⟨tg, iter, ifs, 0⟩] pos) (newList []) false (eval iter X.env) (some (assign (.Name y py) X.env))) _ _ s
  have h : tLc wi g tt te (own.map (·.2)) σ H (fun x H1 => gName i x σ H1 D.nx) := h
  refine wpAny_bind (thn (lc_core (Qf := fun _ s' => SP X pins D .next s') hc hN I hi ok hg ht he hs h fun L C s' m H' I' q hn f => ?_) fun _ s' hq => wpAny_pure (wpAny_pure hq))
  show wpAny _ _ (assign (.Name y py) X.env (.ref L)) _ _ _
  refine wpAny_assign_Name (store_ok2 (v := V.ref L) I' hN hy (.inl hyl) rfl (fun s2 I2 ⟨a, sb, ha⟩ => ?_) (.inr hyl))
  obtain ⟨f0, f1, f2, f3, f4, f5⟩ := f
  have haC : C ≠ a := by
    rcases ha with z | z
    · rw [z]; exact f1
    · exact fun e => f4 y a z e.symm
  refine ⟨m, hn.sameBut sb haC, fun h3 sb3 => ?_⟩
  exact ⟨_, H', I2.turned (t' := s2.toks) (fun b o hb e => (sb3.2 b hb).trans e) f0 f1 f3 f4 f5, q⟩
end

/-! ### the forms one uses -/
/-- over a range: Pv by the turn and the heap (the new list at D within) -/
theorem lc_range {lo : Int} {n : Nat} {g : TG} {tt : TT} {te : TE} {vs : List Nat} {σ : St} {H1 : Hp} {D : Addr} {Qd : Hp → Prop} (Pv : Nat → Hp → Prop) (h0 : Pv 0 (upd H1 D (.lst [])))
    (hs : ∀ i H, i < n → Pv i H → g (.int (lo + i)) (wipe σ vs) H fun σ2 H2 => wipe σ2 vs = wipe σ vs ∧ tt σ2 H2 fun b H3 =>
      if b = true then te σ2 H3 fun y H4 => ∃ acc, H4 D = some (.lst acc) ∧ acc.length < sizeLine ∧ Pv (i + 1) (upd H4 D (.lst (acc ++ [y]))) else Pv (i + 1) H3) (hd : ∀ H, Pv n H → Qd H) :
    ∃ W : Nat → Nat → Hp → Prop, (∃ m, W 0 m (upd H1 D (.lst []))) ∧ ∀ i m H, W i m H →
      ((Itr lo n).stop i H ∧ Qd H) ∨ ((Itr lo n).go i H ∧ ∃ Nx : Hp → Prop, (∀ H', Nx H' → ∃ m', m' < m ∧ W (i + 1) m' H') ∧ ∀ x H', (Itr lo n).yld i H x H' → g x (wipe σ vs) H' fun σ2 H2 => wipe σ2 vs = wipe σ vs ∧ tt σ2 H2 fun b H3 =>
        if b = true then te σ2 H3 fun y H4 => ∃ acc, H4 D = some (.lst acc) ∧ acc.length < sizeLine ∧ Nx (upd H4 D (.lst (acc ++ [y]))) else Nx H3) := by
  refine ⟨fun i m H => m = n - i ∧ i ≤ n ∧ Pv i H, ⟨n, by simp, Nat.zero_le _, h0⟩, ?_⟩
  rintro i m H ⟨rfl, hi, p⟩
  by_cases hlt : i < n
  · refine .inr ⟨hlt, Pv (i + 1), fun H' p' => ⟨n - (i + 1), by omega, rfl, hlt, p'⟩, fun x H' y => ?_⟩
    obtain ⟨e, y⟩ := y
    subst e y
    exact hs i _ hlt p
  · have e : i = n := by omega
    subst e
    exact .inl ⟨Nat.le_refl _, hd H p⟩
/-- over a list that the block leaves as it is -/
theorem lc_list {K : PySem.W.Frag} {a : Addr} {xs : List V} {g : TG} {tt : TT} {te : TE} {vs : List Nat} {σ : St} {H1 : Hp} {D : Addr} {Qd : Hp → Prop} (Pv : Nat → Hp → Prop) (h0 : Pv 0 (upd H1 D (.lst []))) (hl : ∀ i H, i ≤ xs.length → Pv i H → SqL K H a xs)
    (hs : ∀ i x H, xs[i]? = some x → Pv i H → g x (wipe σ vs) H fun σ2 H2 => wipe σ2 vs = wipe σ vs ∧ tt σ2 H2 fun b H3 =>
      if b = true then te σ2 H3 fun y H4 => ∃ acc, H4 D = some (.lst acc) ∧ acc.length < sizeLine ∧ Pv (i + 1) (upd H4 D (.lst (acc ++ [y]))) else Pv (i + 1) H3) (hd : ∀ H, Pv xs.length H → Qd H) :
    ∃ W : Nat → Nat → Hp → Prop, (∃ m, W 0 m (upd H1 D (.lst []))) ∧ ∀ i m H, W i m H →
      ((Itl K a).stop i H ∧ Qd H) ∨ ((Itl K a).go i H ∧ ∃ Nx : Hp → Prop, (∀ H', Nx H' → ∃ m', m' < m ∧ W (i + 1) m' H') ∧ ∀ x H', (Itl K a).yld i H x H' → g x (wipe σ vs) H' fun σ2 H2 => wipe σ2 vs = wipe σ vs ∧ tt σ2 H2 fun b H3 =>
        if b = true then te σ2 H3 fun y H4 => ∃ acc, H4 D = some (.lst acc) ∧ acc.length < sizeLine ∧ Nx (upd H4 D (.lst (acc ++ [y]))) else Nx H3) := by
  refine ⟨fun i m H => m = xs.length - i ∧ i ≤ xs.length ∧ Pv i H, ⟨xs.length, by simp, Nat.zero_le _, h0⟩, ?_⟩
  rintro i m H ⟨rfl, hi, p⟩
  have q := hl i H hi p
  by_cases hlt : i < xs.length
  · refine .inr ⟨⟨xs, xs[i], q, by simp [hlt]⟩, Pv (i + 1), fun H' p' => ⟨xs.length - (i + 1), by omega, rfl, hlt, p'⟩, fun x H' y => ?_⟩
    obtain ⟨e, y⟩ := y
    subst e
    exact hs i x _ (y xs q) p
  · have e : i = xs.length := by omega
    subst e
    exact .inl ⟨⟨xs, q, Nat.le_refl _⟩, hd H p⟩
def blkC (N : List Str) (sc scope : Scope) (own : List (Str × Nat)) : Bool :=
  (match scope.kind with | .function => true | _ => false) && (scope.names.all fun y => decide (scope.names.lookup y.1 = some y.2)) && (own.all fun p => decide (N[p.2]? = some p.1)) &&
    (scope.names.all fun y => match y.2 with
      | .free => (match sc.names.lookup y.1 with | some .cell => true | some .free => true | _ => false)
      | .local => decide (y.1 ∈ own.map (·.1)) || decide (y.1 ∉ N)
      | .cell => decide (y.1 ∈ own.map (·.1)) || decide (y.1 ∉ N)
      | _ => true)
theorem blkOk_by {N : List Str} {sc scope : Scope} {own : List (Str × Nat)} (h : blkC N sc scope own = true) : BlkOk N sc scope own := by
  unfold blkC at h
  simp only [Bool.and_eq_true, List.all_eq_true, decide_eq_true_eq] at h
  obtain ⟨⟨⟨h1, h2⟩, h3⟩, h4⟩ := h
  refine ⟨?_, h2, h3, fun y hy e => ?_, fun y hy e => ?_⟩
  · split at h1
    · assumption
    · cases h1
  · have q := h4 y hy
    simp only [e] at q
    split at q <;> first | exact .inl (by assumption) | exact .inr (by assumption) | cases q
  · have q := h4 y hy
    rcases e with e | e <;> (simp only [e, Bool.or_eq_true, decide_eq_true_eq] at q; exact q)
end L2

namespace L2
open PySem PySem.Spec PyProof.Rows


section
variable {prog : Program} {w : World} {A : Around} {R : Result → Shared → Prop} {s : Shared} {elt t0 i0 t1 i1 : Expr} {ifs0 ifs1 : List Expr} {scope : Scope} {pos : Pos} {it acc : Value} {env : Env}
end

section
variable {X : Cx}
end
end L2

namespace L2
open PySem PySem.Spec PyProof.Rows

/-! ### lists of pairs as tables -/
section
variable {κ : Type} [DecidableEq κ]
def valV (kvs : List (κ × V)) (k : κ) : Option V := (kvs.find? fun kv => decide (kv.1 = k)).map (·.2)
/-- in its place, or at the end -/
def putK (kvs : List (κ × V)) (k : κ) (v : V) : List (κ × V) :=
  if (kvs.any fun kv => decide (kv.1 = k)) = true then kvs.map (fun kv => if kv.1 = k then (kv.1, v) else kv) else kvs ++ [(k, v)]

theorem valV_pos {p : κ × V} {r : List (κ × V)} {k : κ} (e : p.1 = k) : valV (p :: r) k = some p.2 := by simp [valV, List.find?_cons, e]
theorem valV_neg {p : κ × V} {r : List (κ × V)} {k : κ} (e : ¬ p.1 = k) : valV (p :: r) k = valV r k := by simp [valV, List.find?_cons, e]
theorem valV_any (k : κ) : ∀ kvs : List (κ × V), (kvs.any fun kv => decide (kv.1 = k)) = (valV kvs k).isSome
  | [] => rfl
  | p :: r => by
    rw [List.any_cons]
    by_cases e : p.1 = k
    · simp only [valV_pos e, decide_eq_true e, Bool.true_or, Option.isSome_some]
    · rw [valV_neg e, decide_eq_false e, Bool.false_or]; exact valV_any k r
theorem valV_map (k j : κ) (y : V) : ∀ kvs : List (κ × V), valV (kvs.map fun kv => if kv.1 = k then (kv.1, y) else kv) j = (valV kvs j).map fun x => if j = k then y else x
  | [] => rfl
  | p :: r => by
    have ih := valV_map k j y r
    rw [List.map_cons]
    by_cases h : p.1 = k
    · rw [if_pos h]
      by_cases e : p.1 = j
      · rw [valV_pos (p := (p.1, y)) e, valV_pos e, Option.map_some, if_pos (e.symm.trans h)]
      · rw [valV_neg (p := (p.1, y)) e, valV_neg e, ih]
    · rw [if_neg h]
      by_cases e : p.1 = j
      · rw [valV_pos (p := p) e, valV_pos e, Option.map_some, if_neg (fun z => h (e.trans z))]
      · rw [valV_neg (p := p) e, valV_neg e, ih]
theorem valV_snoc (k j : κ) (y : V) : ∀ kvs : List (κ × V), valV kvs k = none → valV (kvs ++ [(k, y)]) j = if j = k then some y else valV kvs j
  | [], _ => by
    by_cases e : k = j
    · rw [if_pos e.symm]; exact valV_pos (p := (k, y)) e
    · rw [if_neg (fun z => e z.symm)]; exact valV_neg (p := (k, y)) e
  | p :: r, hn => by
    rw [List.cons_append]
    have hk : ¬ p.1 = k := fun z => by rw [valV_pos z] at hn; cases hn
    rw [valV_neg hk] at hn
    have ih := valV_snoc k j y r hn
    by_cases e : p.1 = j
    · rw [valV_pos e, valV_pos e, if_neg (fun z => hk (e.trans z))]
    · rw [valV_neg e, valV_neg e, ih]
theorem valV_put (kvs : List (κ × V)) (k j : κ) (y : V) : valV (putK kvs k y) j = if j = k then some y else valV kvs j := by
  unfold putK
  by_cases a : (kvs.any fun kv => decide (kv.1 = k)) = true
  · rw [if_pos a, valV_map]
    rw [valV_any] at a
    by_cases e : j = k
    · obtain ⟨x, hx⟩ := Option.isSome_iff_exists.mp a
      rw [if_pos e, e, hx, Option.map_some, if_pos rfl]
    · rw [if_neg e]
      cases valV kvs j with
      | none => rfl
      | some x => rw [Option.map_some, if_neg e]
  · rw [if_neg a]
    refine valV_snoc k j y kvs ?_
    rw [valV_any] at a
    cases q : valV kvs k with
    | none => rfl
    | some x => rw [q] at a; exact (a rfl).elim
theorem length_putK (kvs : List (κ × V)) (k : κ) (v : V) : (putK kvs k v).length ≤ kvs.length + 1 := by
  unfold putK
  split
  · rw [List.length_map]; omega
  · rw [List.length_append, List.length_cons, List.length_nil]; omega

theorem RelO.isSome_eq {o : Option V} {u : Option Value} (r : RelO o u) : o.isSome = u.isSome := by
  cases o with
  | none => cases u with
    | none => rfl
    | some _ => exact (show False from r).elim
  | some _ => cases u with
    | none => exact (show False from r).elim
    | some _ => rfl
theorem RelO.getD {o : Option V} {u : Option Value} {d : V} {d' : Value} (r : RelO o u) (rd : RelV d d') : RelV (o.getD d) (u.getD d') := by
  cases o with
  | none => cases u with
    | none => exact rd
    | some _ => exact (show False from r).elim
  | some _ => cases u with
    | none => exact (show False from r).elim
    | some _ => exact r

/-- raw tables of the same keys -/
theorem KV.val {kvs : List (κ × V)} {vs : List (κ × Value)} (r : KV kvs vs) (k : κ) : RelO (valV kvs k) (valueAt vs k) := by
  unfold KV at r
  induction r with
  | nil => exact True.intro
  | @cons p q ps qs h t ih =>
    obtain ⟨h1, h2⟩ := h
    by_cases e : p.1 = k
    · have e' : q.1 = k := h1.symm.trans e
      have b : valueAt (q :: qs) k = some q.2 := by simp [valueAt, List.find?_cons, e']
      rw [valV_pos e, b]; exact h2
    · have e' : ¬ q.1 = k := fun z => e (h1.trans z)
      have b : valueAt (q :: qs) k = valueAt qs k := by simp [valueAt, List.find?_cons, e']
      rw [valV_neg e, b]; exact ih
theorem KV.any {kvs : List (κ × V)} {vs : List (κ × Value)} (r : KV kvs vs) (k : κ) : (kvs.any fun kv => decide (kv.1 = k)) = vs.any fun kv => decide (kv.1 = k) := by
  unfold KV at r
  induction r with
  | nil => rfl
  | cons h t ih => rw [List.any_cons, List.any_cons, ih, h.1]
theorem KV.repl {kvs : List (κ × V)} {vs : List (κ × Value)} (r : KV kvs vs) (k : κ) {y : V} {u : Value} (ry : RelV y u) :
    KV (kvs.map fun kv => if kv.1 = k then (kv.1, y) else kv) (vs.map fun kv => if kv.1 = k then (kv.1, u) else kv) := by
  unfold KV at r ⊢
  induction r with
  | nil => exact .nil
  | @cons p q ps qs h t ih =>
    rw [List.map_cons, List.map_cons]
    refine .cons ?_ ih
    obtain ⟨h1, h2⟩ := h
    by_cases e : p.1 = k
    · rw [if_pos e, if_pos (h1.symm.trans e)]; exact ⟨h1, ry⟩
    · rw [if_neg e, if_neg (fun z => e (h1.trans z))]; exact ⟨h1, h2⟩
theorem KV.put {kvs : List (κ × V)} {vs : List (κ × Value)} (r : KV kvs vs) (k : κ) {y : V} {u : Value} (ry : RelV y u) : KV (putK kvs k y) (stored vs k u) := by
  unfold putK stored
  rw [r.any k]
  by_cases e : (vs.any fun kv => decide (kv.1 = k)) = true
  · rw [if_pos e, if_pos e]; exact r.repl k ry
  · rw [if_neg e, if_neg e]; exact Paired.snoc r ⟨rfl, ry⟩
theorem KV.length {kvs : List (κ × V)} {vs : List (κ × Value)} (r : KV kvs vs) : kvs.length = vs.length := Paired.length r
end


/-! ### a tracked dict, its keys ints and texts or tuples of these -/
theorem kV_is {P : Program} {w : World} {k : Key} {u : Value} (r : RelV (kV k) u) : (mixKind P w).is k u = true := by
  cases k with
  | inl i => obtain ⟨t, e⟩ := (show ∃ t, u = Value.int i t from r); subst e; exact mixKind_int P w i t
  | inr x => obtain ⟨t, e⟩ := (show ∃ t, u = Value.str x t from r); subst e; exact mixKind_str P w x t
theorem items_are {P : Program} {w : World} : ∀ {ks : List Key} {us : List Value}, Vals (ks.map kV) us → ItemsAre (mixKind P w) ks us
  | [], _, r => by rw [List.map_nil] at r; cases r; exact .nil
  | k :: ks, _, r => by
    rw [List.map_cons] at r
    cases r with
    | cons h t => exact .cons (kV_is h) (items_are t)

/-- raw entries of a dict with tuple keys -/
abbrev KT (H : Hp) : List (List Key × V) → List (List Key × Addr × Value) → Prop := Paired fun p q => p.1 = q.1 ∧ H q.2.1 = some (.tup (p.1.map kV)) ∧ RelV p.2 q.2.2
theorem KT.val {H : Hp} {kvs : List (List Key × V)} {xs : List (List Key × Addr × Value)} (r : KT H kvs xs) (k : List Key) : RelO (valV kvs k) ((atKey xs k).map (·.2)) := by
  induction r with
  | nil => exact True.intro
  | @cons p q ps qs h t ih =>
    obtain ⟨h1, _, h2⟩ := h
    by_cases e : p.1 = k
    · have e' : q.1 = k := h1.symm.trans e
      have b : atKey (q :: qs) k = some q.2 := by simp [atKey, List.find?_cons, e']
      rw [valV_pos e, b]; exact h2
    · have e' : ¬ q.1 = k := fun z => e (h1.trans z)
      have b : atKey (q :: qs) k = atKey qs k := by simp [atKey, List.find?_cons, e']
      rw [valV_neg e, b]; exact ih
theorem KT.repl {H : Hp} {kvs : List (List Key × V)} {xs : List (List Key × Addr × Value)} (r : KT H kvs xs) (k : List Key) {y : V} {u : Value} (ry : RelV y u) :
    KT H (kvs.map fun kv => if kv.1 = k then (kv.1, y) else kv) (xs.map (putAt k u)) := by
  induction r with
  | nil => exact .nil
  | @cons p q ps qs h t ih =>
    rw [List.map_cons, List.map_cons]
    refine .cons ?_ ih
    obtain ⟨h1, h2, h3⟩ := h
    unfold putAt
    by_cases e : p.1 = k
    · rw [if_pos e, if_pos (h1.symm.trans e)]; exact ⟨h1, h2, ry⟩
    · rw [if_neg e, if_neg (fun z => e (h1.trans z))]; exact ⟨h1, h2, h3⟩
theorem KT.put {H : Hp} {kvs : List (List Key × V)} {xs : List (List Key × Addr × Value)} (r : KT H kvs xs) (k : List Key) {b : Addr} {y : V} {u : Value} (hb : H b = some (.tup (k.map kV))) (ry : RelV y u) :
    KT H (putK kvs k y) (storedH xs k b u) := by
  have e : (kvs.any fun kv => decide (kv.1 = k)) = (atKey xs k).isSome := by
    rw [valV_any, (r.val k).isSome_eq, Option.isSome_map]
  unfold putK storedH
  rw [e]
  by_cases q : (atKey xs k).isSome = true
  · rw [if_pos q, if_pos q]; exact r.repl k ry
  · rw [if_neg q, if_neg q]; exact Paired.snoc r ⟨rfl, hb, ry⟩
theorem KT.keeps {H H' : Hp} {kvs : List (List Key × V)} {xs : List (List Key × Addr × Value)} (r : KT H kvs xs) (ht : ∀ b ys, H b = some (.tup ys) → H' b = some (.tup ys)) : KT H' kvs xs :=
  Paired.mapP r fun _ _ z => ⟨z.1, ht _ _ z.2.1, z.2.2⟩

section
variable {P : Program} {w : World} {H : Hp} {h : Heap} {a : Addr}
theorem rd_of {u : HO} (ok : HOk P w H h) (e : Rd H a u) : ObjOk P w H h a u := e.ok ok
theorem dk_rd {kvs : List (Key × V)} (ok : HOk P w H h) (e : Rd H a (.dK kvs)) : kvs.length ≤ sizeLine ∧ (a == sysModules) = false ∧ ∃ vs, KV kvs vs ∧ h.DictOf (mixKind P w) a vs :=
  show ObjOk P w H h a (.dK kvs) from rd_of ok e
theorem dk_of {kvs : List (Key × V)} (ok : HOk P w H h) (e : H a = some (.dK kvs)) : kvs.length ≤ sizeLine ∧ (a == sysModules) = false ∧ ∃ vs, KV kvs vs ∧ h.DictOf (mixKind P w) a vs := dk_rd ok (.inl e)
/-- a tracked tuple of ints and texts is a key -/
theorem key_of {ks : List Key} (ok : HOk P w H h) (e : H a = some (.tup (ks.map kV))) : (tupleKind (mixKind P w)).is h ks a := by
  obtain ⟨_, its, r, o, h1, h2, n, h3⟩ := (show ObjOk P w H h a (.tup (ks.map kV)) from ok a _ e)
  exact ⟨o, its.toArray, n, h1, h2, h3, by simpa using items_are r⟩
theorem dt_rd {kvs : List (List Key × V)} (ok : HOk P w H h) (e : Rd H a (.dT kvs)) : kvs.length ≤ sizeLine ∧ (a == sysModules) = false ∧
    ∃ xs, KT H kvs xs ∧ h.DictOfH (tupleKind (mixKind P w)) a xs := by
  obtain ⟨z, y, xs, r, o, es, ep, h1, h2, h3, h4, h5⟩ := (show ObjOk P w H h a (.dT kvs) from rd_of ok e)
  refine ⟨z, y, xs, r, o, es, ep, h1, h2, h3, h4, fun x hx => ?_, h5⟩
  have all : ∀ {l : List (List Key × V)} {m : List (List Key × Addr × Value)}, KT H l m → ∀ x ∈ m, (tupleKind (mixKind P w)).is h x.1 x.2.1 := by
    intro l m q
    induction q with
    | nil => intro x hx; exact nomatch hx
    | @cons p q ps qs hq t ih =>
      intro x hx
      rcases List.mem_cons.mp hx with e | hx
      · subst e
        exact key_of ok (by rw [← hq.1]; exact hq.2.1)
      · exact ih x hx
  exact all r x hx
theorem dt_of {kvs : List (List Key × V)} (ok : HOk P w H h) (e : H a = some (.dT kvs)) : kvs.length ≤ sizeLine ∧ (a == sysModules) = false ∧
    ∃ xs, KT H kvs xs ∧ h.DictOfH (tupleKind (mixKind P w)) a xs := dt_rd ok (.inl e)
end

/-- what the dict at a holds at the key y -/
def DGet (H : Hp) (a : Addr) (y : V) (r : Option V) : Prop :=
  (∃ kvs k, Rd H a (.dK kvs) ∧ y = kV k ∧ r = valV kvs k) ∨ ∃ kvs k b, Rd H a (.dT kvs) ∧ y = .ref b ∧ H b = some (.tup (k.map kV)) ∧ r = valV kvs k
/-- the heap behind a[y] = v -/
def DPut (H : Hp) (a : Addr) (y v : V) (H' : Hp) : Prop :=
  (∃ kvs k, H a = some (.dK kvs) ∧ y = kV k ∧ kvs.length < sizeLine ∧ H' = upd H a (.dK (putK kvs k v))) ∨
  ∃ kvs k b, H a = some (.dT kvs) ∧ y = .ref b ∧ H b = some (.tup (k.map kV)) ∧ kvs.length < sizeLine ∧ H' = upd H a (.dT (putK kvs k v))
theorem DGet.t {H : Hp} {a b : Addr} {kvs : List (List Key × V)} {k : List Key} (e : H a = some (.dT kvs)) (eb : H b = some (.tup (k.map kV))) : DGet H a (.ref b) (valV kvs k) := .inr ⟨kvs, k, b, .inl e, rfl, eb, rfl⟩
theorem DPut.t {H : Hp} {a b : Addr} {kvs : List (List Key × V)} {k : List Key} {v : V} (e : H a = some (.dT kvs)) (eb : H b = some (.tup (k.map kV))) (hl : kvs.length < sizeLine) :
    DPut H a (.ref b) v (upd H a (.dT (putK kvs k v))) := .inr ⟨kvs, k, b, e, rfl, eb, hl, rfl⟩


section
variable {X : Cx} {pins : List (Addr × Obj)} {σ : St} {H : Hp} {s : Shared} {a : Addr} {y v : V} {u r : Value} {o : Option V} {A : Around} {E : Value → Shared → Prop}

theorem Inv.big (I : Inv X pins σ H s) : sysModules < s.heap.objs.size := by
  have h : mainGlobals < s.heap.objs.size := (I.mod.glob.keeps I.bk).lt
  exact Nat.lt_trans (by decide) h

theorem d_notIn {Q : Value → Shared → Prop} (hu : A.units + 1 < cLine) (I : Inv X pins σ H s) (g : DGet H a y o) (ry : RelV y u) (h : ∀ s', Inv X pins σ H s' → Q (.bool (!o.isSome)) s') :
    wpAny (model X.prog X.w) A (compareOp .NotIn u (.ref a)) Q E s := by
  rcases g with ⟨kvs, k, e, ey, l⟩ | ⟨kvs, k, b, e, ey, eb, l⟩
  · subst ey
    obtain ⟨z, hd, vs, rel, dd⟩ := dk_rd I.hok e
    refine wpAny_notIn_of (kV_is ry) hd dd.mapOf ?_
    rw [← (rel.val k).isSome_eq, ← l]
    exact h _ (I.tok _)
  · subst ey
    cases (show u = Value.ref b from ry)
    obtain ⟨z, hd, xs, rel, dd⟩ := dt_rd I.hok e
    refine wpAny_notIn_heap (tupleKind_room_in1 hu) (key_of I.hok eb) hd dd ?_
    have q := (rel.val k).isSome_eq
    rw [Option.isSome_map] at q
    rw [← q, ← l]
    exact h _ (I.tok _)
/-- a dict's object is replaced -/
theorem d_write {h' : Heap} {t' : Nat} {ob : HO} (I : Inv X pins σ H s) (mu : Mut (H a)) (hs : Heap.SameBut a s.heap h') (he : ∃ q, h'.get? a = some q) (new : ObjOk X.prog X.w (upd H a ob) h' a ob) :
    Inv X pins σ (upd H a ob) { s with heap := h', toks := t' } :=
  I.write (x := a) (e := a) mu (.inl rfl) (fun b q hb z => (hs.2 b hb).trans z) he new
theorem dk_new {P : Program} {w : World} {H' : Hp} {h' : Heap} {kvs : List (Key × V)} {vs : List (Key × Value)} (z : kvs.length ≤ sizeLine) (hd : (a == sysModules) = false) (rel : KV kvs vs) (dd : h'.DictOf (mixKind P w) a vs) :
    ObjOk P w H' h' a (.dK kvs) := ⟨z, hd, vs, rel, dd⟩
/-- d[y] = v -/
theorem d_setItem {H' : Hp} {Q : Unit → Shared → Prop} (hu : A.units + 1 < cLine) (I : Inv X pins σ H s) (g : DPut H a y v H') (ry : RelV y u) (rv : RelV v r) (h : ∀ s', Inv X pins σ H' s' → Q () s') :
    wpAny (model X.prog X.w) A (setItem (.ref a) u r) Q E s := by
  rcases g with ⟨kvs, k, e, ey, l, eH⟩ | ⟨kvs, k, b, e, ey, eb, l, eH⟩
  · subst ey eH
    obtain ⟨z, hd, vs, rel, dd⟩ := dk_of I.hok e
    have hz : vs.length ≤ sizeLine := by rw [← rel.length]; exact z
    have hl : (putK kvs k v).length ≤ sizeLine := by have := length_putK kvs k v; omega
    refine wpAny_setItem_pairs (hsz := hz) (kV_is ry) dd fun h' dd' hs => h _ ?_
    have he : ∃ q, h'.get? a = some q := let ⟨q, _, _, hq, _⟩ := dd'; ⟨q, hq⟩
    exact d_write I (by rw [e]; exact True.intro) hs he (dk_new hl hd (rel.put k rv) dd')
  · subst ey eH
    cases (show u = Value.ref b from ry)
    obtain ⟨z, hd, xs, rel, dd⟩ := dt_of I.hok e
    have hz : xs.length ≤ sizeLine := by rw [← Paired.length rel]; exact z
    have hl : (putK kvs k v).length ≤ sizeLine := by have := length_putK kvs k v; omega
    refine wpAny_setItem_heap (hsz := hz) (tupleKind_room_in1 hu) (key_of I.hok eb) dd fun h' dd' hs => h _ ?_
    obtain ⟨q, es, ep, hq, h2, h3, h4, _, h5⟩ := dd'
    refine d_write I (by rw [e]; exact True.intro) hs ⟨q, hq⟩ ⟨hl, hd, _, (rel.put k eb rv).keeps fun c ys ec => ?_, q, es, ep, hq, h2, h3, h4, h5⟩
    rw [upd_ne (ne_of ec e (fun z => nomatch z))]
    exact ec
end

section
variable {X : Cx} {pins : List (Addr × Obj)} {σ : St} {H : Hp} {s : Shared} {a : Addr} {kvs : List (Key × V)} {k : Key} {u : Value} {A : Around} {E : Value → Shared → Prop}
end


/-! ### readings and rules -/
/-- the element of a subscription, not a slice -/
def NoSl (i : Expr) : Prop := ∀ ov iv, subscripted i false ov iv = operate [ov, iv] (getItem ov iv)
theorem subD_of {prog : Program} {w : World} {A : Around} {E : Value → Shared → Prop} {s : Shared} {env : Env} {value slice : Expr} {pos : Pos} {T id : String} {Q : Value → Shared → Prop}
    (hl : typeLookup (.type T) "__getitem__" = pure (some (.builtin id))) (hs : NoSl slice)
    (h : wpAny (model prog w) A (eval value env) (fun o s₁ => wpAny (model prog w) A (eval slice env) (fun i s₂ => s₂.TypeIs o T ∧ wpAny (model prog w) A (getItem o i) Q E s₂) E s₁) E s) :
    wpAny (model prog w) A (eval (.Subscript value slice pos) env) Q E s := by
  refine Subscript_ (wpAny_mono h (fun o s₁ h₁ => wpAny_mono h₁ (fun i s₂ h₂ => ?_) fun _ _ x => x) fun _ _ x => x)
  obtain ⟨hT, h₂⟩ := h₂
  unfold subscriptTail
  refine wpAny_bind ?_
  rw [getitemInPython_of_ne hT.not_modules]
  refine wpAny_bind (wpAny_specialOf hT hl ?_)
  have fin : wpAny (model prog w) A (subscripted slice false o i) (fun r s₃ => wpAny (model prog w) A (letTemporaryGo value o r >>= fun _ => pure r) Q E s₃) E s₂ := by
    rw [hs o i]
    exact wpAny_operating (wpAny_mono h₂ (fun r s₃ h₃ => wpAny_bind (wpAny_letTemporaryGo (wpAny_pure h₃))) fun _ _ x => x)
  first
    | exact wpAny_pure (wpAny_bind fin)
    | exact wpAny_bind (wpAny_pure (wpAny_bind fin))
    | exact wpAny_bind fin


def tDNotIn (ty td : TE) : TE := fun σ H Q => ty σ H fun y H1 => td σ H1 fun x H2 => ∃ a o, x = .ref a ∧ DGet H2 a y o ∧ Q (.bl (!o.isSome)) H2
/-- d[y] = v -/
def sDPut (td ty tv : TE) : TS := fun D σ H => tv σ H fun v H1 => td σ H1 fun x H2 => ty σ H2 fun y H3 => ∃ a H4, x = .ref a ∧ DPut H3 a y v H4 ∧ D.nx σ H4

section
variable {X : Cx} {o i e value : Expr} {pos pos' tpos : Pos} {td ty tv : TE}
theorem pc_dnotin (hu : X.A.units + 1 < cLine) (hi : PE X i ty) (ho : PE X o td) : PC X .NotIn i o (tDNotIn ty td) := by
  intro pins s σ H Q I h
  refine thn (hi pins s σ H _ I h) fun iv s1 ⟨y, H1, I1, ry, q1⟩ => thn (ho pins s1 σ H1 _ I1 q1) fun u s2 ⟨x, H2, I2, rx, a, ov, ex, g, q2⟩ => ?_
  subst ex
  obtain rfl : u = Value.ref a := rx
  exact d_notIn hu I2 g ry fun s3 I3 => ⟨.bl (!ov.isSome), H2, I3, rfl, q2⟩
theorem ps_dput (hu : X.A.units + 1 < cLine) (ho : PE X o td) (hi : PE X i ty) (hv : PE X value tv) (hs : swapsWith value (some (.Subscript o i pos')) pos.line X.env = pure false) :
    PS X (.Assign [.Subscript o i pos'] value pos) (sDPut td ty tv) := by
  intro pins s σ H D I h
  refine wpAny_Assign_Subscript (thn (hv pins s σ H _ I h) fun r s1 ⟨v, H1, I1, rv, q1⟩ => thn (ho pins s1 σ H1 _ I1 q1) fun u s2 ⟨x, H2, I2, rx, q2⟩ => thn (hi pins s2 σ H2 _ I2 q2) fun iv s3 ⟨y, H3, I3, ry, a, H4, ex, g, q3⟩ => ?_) hs
  subst ex
  obtain rfl : u = Value.ref a := rx
  exact d_setItem hu I3 g ry rv fun s4 I4 => ⟨σ, H4, I4, q3⟩
end


/-! ### displays -/
theorem dt_empty {P : Program} {w : World} {H : Hp} (h : Heap) (hb : sysModules < h.objs.size) : ObjOk P w H (h.push { cls := .type "dict", data := .dict #[] }) h.objs.size (.dT []) :=
  ⟨Nat.zero_le _, beq_eq_false_iff_ne.mpr (Ne.symm (Nat.ne_of_lt hb)), [], .nil, _, #[], 0, Heap.get?_push_size _ rfl, ⟨rfl, rfl, rfl⟩, rfl, rfl, List.nodup_nil⟩
def tDNewT : TE := fun _ H Q => ∀ p, H p = none → Q (.ref p) (upd H p (.dT []))
section
variable {X : Cx} {pos : Pos}
theorem pe_dnewT : PE X (.Dict [] [] pos) tDNewT := fun pins s σ H Q I h =>
  wpAny_Dict_empty ⟨.ref s.heap.objs.size, _, I.laid (a := s.heap.objs.size) (o := .dT []) (t' := s.toks) (fun _ _ q => Heap.get?_push_of_some _ q) (Nat.le_refl _) (dt_empty s.heap I.big), rfl, h _ (I.hok.fresh (Nat.le_refl _))⟩
end




/-! ### methods -/
structure M2 (X : Cx) (o : Expr) (m : Str) (apos : Pos) (e f : Expr) (cpos : Pos) : Prop where
  base : attributeBase o m X.env (eval o X.env) = eval o X.env
  few : ((backTo cpos (starEach [e, f] X.env)).all (fun x => !x.1) && (backToKw cpos (keywordEach [] X.env)).all (fun x => x.1.isSome)
    && decide (([e, f] : List Expr).length + ([] : List Keyword).length + (if ([] : List Keyword).isEmpty then 0 else 1) < 30)) = true
  line : (apos.endLine == cpos.line) = true
  trees : backTo cpos (starEach [e, f] X.env) = [(false, eval e X.env), (false, eval f X.env)]

/-- a is a dict, whatever its keys -/
def IsD (H : Hp) (a : Addr) : Prop := (∃ kvs, Rd H a (.dK kvs)) ∨ ∃ kvs, Rd H a (.dT kvs)
theorem isD_at {X : Cx} {pins : List (Addr × Obj)} {σ : St} {H : Hp} {s : Shared} {a : Addr} (I : Inv X pins σ H s) (d : IsD H a) :
    s.TypeIs (.ref a) "dict" ∧ (∀ b, Value.ref a = .ref b → ∃ ob, s.heap.get? b = some ob ∧ ob.dict = none) ∧ (a == sysModules) = false := by
  rcases d with ⟨kvs, e⟩ | ⟨kvs, e⟩
  · obtain ⟨_, hd, vs, _, dd⟩ := dk_rd I.hok e
    refine ⟨dd.typeIs, fun b q => ?_, hd⟩
    cases q
    obtain ⟨ob, _, _, h1, h2, _⟩ := dd
    exact ⟨ob, h1, h2.2.1⟩
  · obtain ⟨_, hd, xs, _, dd⟩ := dt_rd I.hok e
    refine ⟨dd.typeIs, fun b q => ?_, hd⟩
    cases q
    obtain ⟨ob, _, _, h1, h2, _⟩ := dd
    exact ⟨ob, h1, h2.2.1⟩

section
variable {X : Cx} {pins : List (Addr × Obj)} {σ : St} {H : Hp} {s : Shared} {a : Addr} {y d : V} {u r : Value} {o : Option V} {A : Around} {E : Value → Shared → Prop}
/-- d.get(y, x) -/
theorem d_get2 {Q : Value → Shared → Prop} (hu : A.units + 1 < cLine) (I : Inv X pins σ H s) (g : DGet H a y o) (ry : RelV y u) (rd : RelV d r) (h : ∀ w' s', Inv X pins σ H s' → RelV (o.getD d) w' → Q w' s') :
    wpAny (model X.prog X.w) A (call (.builtin "dict.get") [.ref a, u, r]) Q E s := by
  rcases g with ⟨kvs, k, e, ey, l⟩ | ⟨kvs, k, b, e, ey, eb, l⟩
  · subst ey
    obtain ⟨z, hd, vs, rel, dd⟩ := dk_rd I.hok e
    refine call_meetsIn PySem.F.slot_dict_get dd.typeIs PySem.F.entry_dict_get (PySem.F.args_dict_get_3 _ _ _) (meets_dict_get_default (mixKind X.prog X.w) a (kV_is ry) hd r) ⟨_, dd.mapOf, h _ _ (I.tok _) ?_⟩
    rw [l]
    exact (rel.val k).getD rd
  · subst ey
    cases (show u = Value.ref b from ry)
    obtain ⟨z, hd, xs, rel, dd⟩ := dt_rd I.hok e
    refine call_meetsIn PySem.F.slot_dict_get dd.typeIs PySem.F.entry_dict_get (PySem.F.args_dict_get_3 _ _ _) (meetsH_dict_get_default (tupleKind (mixKind X.prog X.w)) a b hd r) ⟨tupleKind_room_in1 hu, k, xs, key_of I.hok eb, dd, h _ _ (I.tok _) ?_⟩
    rw [l]
    exact (rel.val k).getD rd
end

def tDGet2 (td ty tx : TE) : TE := fun σ H Q => td σ H fun x H1 => ∃ a, x = .ref a ∧ IsD H1 a ∧ ty σ H1 fun y H2 => tx σ H2 fun z H3 => ∃ o, DGet H3 a y o ∧ Q (o.getD z) H3
section
variable {X : Cx} {o e f : Expr} {apos cpos : Pos} {td ty tx : TE}
theorem pe_dget2 (hu : X.A.units + 1 < cLine) (ho : PE X o td) (he : PE X e ty) (hf : PE X f tx) (m : M2 X o "get" apos e f cpos) : PE X (.Call (.Attribute o "get" apos) [e, f] [] cpos) (tDGet2 td ty tx) := by
  intro pins s σ H Q I h
  refine wpAny_Call_method m.base m.few m.line PySem.F.plainAttrs_dict PySem.F.slot_dict_get PySem.F.type_dict_get (thn (ho pins s σ H _ I h) fun u s1 ⟨x, H1, I1, rx, a, ex, d, q1⟩ => ?_)
  subst ex
  obtain rfl : u = Value.ref a := rx
  obtain ⟨t1, t2, _⟩ := isD_at I1 d
  refine ⟨t1, t2, ?_⟩
  rw [m.trees]
  refine Calls.callWith_builtin rfl (Calls.evalArgs_plain (Calls.spliced_cons (thn (he pins s1 σ H1 _ I1 q1) fun iv s2 ⟨y, H2, I2, ry, q2⟩ =>
    Calls.spliced_cons (thn (hf pins s2 σ H2 _ I2 q2) fun fv s3 ⟨z, H3, I3, rz, ov, g, q3⟩ => Calls.spliced_nil ?_))))
  exact d_get2 hu I3 g ry rz fun w' s4 I4 rw' => ⟨_, H3, I4, rw', q3⟩
end

/-! ### dict(d): a copy -/
section
variable {X : Cx} {pins : List (Addr × Obj)} {σ : St} {H : Hp} {s : Shared} {a : Addr} {kvs : List (Key × V)} {A : Around} {E : Value → Shared → Prop}
end


section
variable {X : Cx} {pins : List (Addr × Obj)} {σ : St} {H : Hp} {s : Shared} {a : Addr} {y : V} {u : Value} {A : Around} {E : Value → Shared → Prop}
end
end L2

namespace L2
open PySem PySem.Spec PyProof.Rows


section
variable {prog : Program} {w : World} {A : Around} {E : Value → Shared → Prop}


end

section
variable {X : Cx}
end
end L2

namespace L2
open PySem PySem.Spec PyProof.Rows


section
variable {X : Cx} {pins : List (Addr × Obj)} {σ : St} {H : Hp} {s : Shared} {h' : Heap}
/-- several records of ours have turned -/
theorem Inv.turnedL {t' : Nat} {ch : List Addr} (I : Inv X pins σ H s) (k : ∀ b o, b ∉ ch → s.heap.get? b = some o → h'.get? b = some o) (hf : ∀ b ∈ ch, FpOk X pins H b) : Inv X pins σ H { s with heap := h', toks := t' } := by
  have nit : ∀ b u, H b = some u → b ∉ ch := fun b u e z => by
    have q := (hf b z).1
    rw [q] at e; cases e
  refine I.step (g' := s.gens) (d' := s.drawn) (ch := ch) (fun b hb => ⟨(hf b hb).2.2.2.1, (hf b hb).2.1, (hf b hb).2.2.2.2.1, (hf b hb).2.2.2.2.2⟩) (fun b o _ _ hc e _ => k b o hc e) (fun b o _ _ hc e _ => ⟨o.slots, k b o hc e⟩)
    (fun _ _ _ _ n => n) (fun b o hc e => ⟨o, k b o hc e⟩) (fun _ _ e => e) (fun _ _ _ e => e) (fun b ps e => ⟨#[], by rw [e]; simp⟩) (fun m hm => ?_) (fun b u e => ?_) I.bare
  · obtain ⟨o, es, ep, ho, r⟩ := hm
    exact ⟨o, es, ep, k _ o (fun z => (hf _ z).2.1 rfl) ho, r⟩
  · refine (I.hok b u e).stay (fun c v hc q => k c v ?_ q) (fun _ q => q) fun _ _ q => q
    rcases hc with z | z
    · rw [z]; exact nit b u e
    · exact nit c _ z
/-- .. and one new object is laid -/
theorem Inv.turnedNew {t' : Nat} {ch : List Addr} {T : Addr} {ob : HO} (I : Inv X pins σ H s) (k : ∀ b o, b ∉ ch → s.heap.get? b = some o → h'.get? b = some o) (hf : ∀ b ∈ ch, FpOk X pins H b) (hT : s.heap.objs.size ≤ T)
    (new : ObjOk X.prog X.w (upd H T ob) h' T ob) : Inv X pins σ (upd H T ob) { s with heap := h', toks := t' } := by
  have hn : H T = none := I.hok.fresh hT
  have nit : ∀ b u, H b = some u → b ∉ ch := fun b u e z => by
    have q := (hf b z).1
    rw [q] at e; cases e
  refine I.step (g' := s.gens) (d' := s.drawn) (ch := ch) (fun b hb => ⟨(hf b hb).2.2.2.1, (hf b hb).2.1, (hf b hb).2.2.2.2.1, (hf b hb).2.2.2.2.2⟩) (fun b o _ _ hc e _ => k b o hc e) (fun b o _ _ hc e _ => ⟨o.slots, k b o hc e⟩)
    (fun b o _ e n => ?_) (fun b o hc e => ⟨o, k b o hc e⟩) (fun b xs e => ?_) (fun b o u e => ?_) (fun b ps e => ⟨#[], ?_⟩) (fun m hm => ?_) (fun b u e => ?_) I.bare
  · rw [upd_ne (Nat.ne_of_lt (Nat.lt_of_lt_of_le (Heap.lt_size e) hT))]; exact n
  · rw [upd_ne (ne_of_none e hn)]; exact e
  · rw [upd_ne (ne_of_none e hn)]; exact e
  · rw [upd_ne (ne_of_none e hn), e]; simp
  · obtain ⟨o, es, ep, ho, r⟩ := hm
    exact ⟨o, es, ep, k _ o (fun z => (hf _ z).2.1 rfl) ho, r⟩
  · by_cases hb : b = T
    · subst hb
      rw [upd_same] at e
      cases e
      exact new
    · rw [upd_ne hb] at e
      refine (I.hok b u e).stay (fun c v hc q => k c v ?_ q) (fun c q => by rw [upd_ne (ne_of_none q hn)]; exact q) fun c xs q => by rw [upd_ne (ne_of_none q hn)]; exact q
      rcases hc with z | z
      · rw [z]; exact nit b u e
      · exact nit c _ z

/-! ### locking a thing while a statement runs -/
end
section
variable {X : Cx}

/-! ### one iterator just laid -/
end

/-! ### range with a step -/
section
variable {X : Cx} {tg : Expr}
end

/-! ### reversed(list) -/
section
variable {X : Cx} {tg : Expr}
end

/-! ### a str -/

/-! ### a dict's keys: any dict's entries -/
section
variable {prog : Program} {w : World} {A : Around} {E : Value → Shared → Prop} {s : Shared}
end

/-! ### a locked dict -/
section
variable {X : Cx} {pins : List (Addr × Obj)} {σ : St} {H : Hp} {s : Shared} {d : Addr} {o : Obj}
end

section
variable {P : Program} {w : World} {K : PySem.W.Frag} {tg : Expr} {d : Addr} {o : Obj} {es : Array DictEntry} {ep : Nat}
end

/-! ### for k in d, d.keys(), d.values(), d.items() -/
section
variable {X : Cx} {tg e : Expr} {td : TE} {apos cpos : Pos}
end

/-! ### enumerate(list) -/
/-- the list at a as it stands at each turn, each item in a new pair -/
def Ite (K : PySem.W.Frag) (a : Addr) : It :=
  ⟨fun i H => ∃ (xs : List V) (x : V), SqL K H a xs ∧ xs[i]? = some x, fun i H v H' => ∃ T x, v = .ref T ∧ H T = none ∧ H' = upd H T (.tup [.int (i : Nat), x]) ∧ ∀ xs, SqL K H a xs → xs[i]? = some x, fun i H => ∃ xs : List V, SqL K H a xs ∧ xs.length ≤ i⟩
theorem turn_enum {P : Program} {w : World} {K : PySem.W.Frag} {elts : List Expr} {kk : Nat} {tpos : Pos} (a e it : Addr) :
    Turn P w K (.Tuple elts kk tpos) (Ite K a) [e, it] e (fun i h => (∃ old, IsEnum h e it ((i : Nat) : Int) old) ∧ h.IsListIter it a i ∧ e ≠ it) where
  mem := by simp
  obj := fun i h st b hb => by
    obtain ⟨⟨old, he⟩, ⟨o, ho, hc, hd⟩, _⟩ := st
    have e' : b = e ∨ b = it := by simpa using hb
    rcases e' with z | z
    · rw [z]; exact ⟨_, he, fun v q => nomatch q⟩
    · rw [z]; exact ⟨o, ho, fun v q => by rw [hd] at q; cases q⟩
  keep := fun i h h' st k => let ⟨⟨old, he⟩, hi, hne⟩ := st; ⟨⟨old, k e (by simp) _ he⟩, hi.at fun o q => k it (by simp) o q, hne⟩
  item := by
    intro X hP hw hK hc i pins s σ H E I hf st hg
    subst hP hw hK
    obtain ⟨⟨old, he⟩, hit, hne⟩ := st
    obtain ⟨xs, x, hq, hx⟩ := hg
    obtain ⟨its, rv, p, hz⟩ := I.list hq
    obtain ⟨u, hu, ru⟩ := rv.get hx
    have hel : e < s.heap.objs.size := Heap.lt_size he
    have hil : it < s.heap.objs.size := by obtain ⟨_, q, _⟩ := hit; exact Heap.lt_size q
    refine wpAny_pyNext_enum_item he hit p.isList (x := u) (by simpa using hu) hne fun h' ho hit' hT hsz hk => ?_
    refine ⟨_, rfl, wpAny_letOwnedTupleGo_enum (s := { s with heap := h', toks := s.toks + 1 }) ho fun h'' he' sb => ?_⟩
    have hT2 : h''.get? s.heap.objs.size = some { cls := .type "tuple", data := .seq #[.int i s.toks, u] } := (sb.2 _ (Nat.ne_of_gt hel)).trans hT
    have new : ObjOk X.prog X.w (upd H s.heap.objs.size (.tup [.int (i : Nat), x])) h'' s.heap.objs.size (.tup [.int (i : Nat), x]) :=
      ⟨by show 2 ≤ sizeLine; decide, [.int i s.toks, u], .cons ⟨_, rfl⟩ (.cons ru .nil), ⟨_, hT2, rfl, _, rfl⟩⟩
    have I1 : Inv X pins σ (upd H s.heap.objs.size (.tup [.int (i : Nat), x])) { s with heap := h'', toks := s.toks + 1 } :=
      I.turnedNew (ch := [e, it]) (fun b ob hb q => (sb.2 b (fun z => hb (by simp [z]))).trans (hk b ob (fun z => hb (by simp [z])) (fun z => hb (by simp [z])) q)) hf (Nat.le_refl _) new
    refine ⟨.ref s.heap.objs.size, _, I1, rfl, ⟨_, x, rfl, I.hok.fresh (Nat.le_refl _), rfl, fun ys hy => by rw [I.list_inj hy hq]; exact hx⟩, ⟨⟨u, ?_⟩, hit'.at fun o q => (sb.2 it (Ne.symm hne)).trans q, hne⟩, fun b hb => ?_⟩
    · have e1 : ((i + 1 : Nat) : Int) = (i : Int) + 1 := by omega
      rw [e1]; exact he'
    · have hb' : b < s.heap.objs.size := by
        have e' : b = e ∨ b = it := by simpa using hb
        rcases e' with z | z
        · rw [z]; exact hel
        · rw [z]; exact hil
      rw [upd_ne (Nat.ne_of_lt hb')]
      exact (hf b hb).1
  done := by
    intro X hP hw hK hc i pins s σ H E I hf st hg
    subst hP hw hK
    obtain ⟨⟨old, he⟩, hit, hne⟩ := st
    obtain ⟨xs, hq, hx⟩ := hg
    obtain ⟨its, rv, p, hz⟩ := I.list hq
    obtain ⟨f0, f1, f2, f3, f4, f5⟩ := hf it (by simp)
    have hl := rv.length
    exact wpAny_pyNext_enum_end (I.ok.hd hc) he hit p.isList (by simp; omega) fun h' eb => ⟨rfl, I.turned (t' := s.toks) (fun b o hb q => eb b o hb q) f0 f1 f3 f4 f5⟩
  self := fun A i s Q E st h => let ⟨⟨_, he⟩, _⟩ := st; wpAny_pyIter_enum he h
def iEnum (K : PySem.W.Frag) (ta : TA) : TI := fun σ H R => ta σ H fun vs H1 => ∃ a xs, vs = [.ref a] ∧ SqL K H1 a xs ∧ R (Ite K a) H1
theorem pi_enum {X : Cx} {e : Expr} {ta : TA} {p pos tpos : Pos} {elts : List Expr} {kk : Nat} (hg : Gl X "enumerate") (hm : X.mg "enumerate" = none) (ha : PA X [e] ta) (hs : starEach [e] X.env = [(false, eval e X.env)] := by rfl) :
    PI X (.Tuple elts kk tpos) (.Call (.Name "enumerate" p) [e] [] pos) (iEnum X.K ta) := by
  intro pins s σ H R I h
  refine Call_ (ld_blt I hg hm boot_enumerate (PyProof.Rows.callWith_type1 (thn (ha pos pins s σ H _ I h) fun us s1 ⟨vs, H1, I1, r1, q1⟩ => ?_) hs rfl))
  obtain ⟨a, xs, ex, hq, q⟩ := q1
  subst ex
  cases r1 with
  | cons r rr =>
    cases rr
    cases r
    obtain ⟨its, rv, p', hz⟩ := I1.list hq
    refine call_enumerate_list p'.isList fun h' he hit hsz hk => wpAny_pyIter_enum he ?_
    have I2 : Inv X pins σ H1 { s1 with heap := h' } := I1.kept (t' := s1.toks) hk
    refine ⟨s1.heap.objs.size + 1, [s1.heap.objs.size + 1, s1.heap.objs.size], _, _, H1, rfl, I2, turn_enum a (s1.heap.objs.size + 1) s1.heap.objs.size, ⟨⟨.none, he⟩, hit, Nat.succ_ne_self _⟩, fun b hb => ?_, q⟩
    have e' : b = s1.heap.objs.size + 1 ∨ b = s1.heap.objs.size := by simpa using hb
    have hle : s1.heap.objs.size ≤ b := by
      rcases e' with z | z
      · rw [z]; exact Nat.le_add_right _ _
      · rw [z]; exact Nat.le_refl _
    exact I1.fpOk hle (I1.hok.fresh hle)
/-! ### zip(list, list) -/
theorem boot_zip5 : bootBuiltins "zip" = some (.type "zip") := by decide +kernel
/-- the lists at a and b as they stand at each turn, the items in new pairs -/
def Itz (K : PySem.W.Frag) (a b : Addr) : It :=
  ⟨fun i H => ∃ (xs ys : List V) (x y : V), SqL K H a xs ∧ SqL K H b ys ∧ xs[i]? = some x ∧ ys[i]? = some y,
    fun i H v H' => ∃ T x y, v = .ref T ∧ H T = none ∧ H' = upd H T (.tup [x, y]) ∧ (∀ xs, SqL K H a xs → xs[i]? = some x) ∧ ∀ ys, SqL K H b ys → ys[i]? = some y,
    fun i H => ∃ xs ys : List V, SqL K H a xs ∧ SqL K H b ys ∧ (xs.length ≤ i ∨ ys.length ≤ i)⟩
theorem turn_zip {P : Program} {w : World} {K : PySem.W.Frag} {elts : List Expr} {kk : Nat} {tpos : Pos} {a b z TI TO i1 i2 : Addr} (D : ZipApart z TI TO i1 i2 a b) :
    Turn P w K (.Tuple elts kk tpos) (Itz K a b) [z, TI, TO, i1, i2] z (fun i h => IsZip h z TI TO .none ∧ IsPair h TI (.ref i1) (.ref i2) ∧ (∃ x y, IsPair h TO x y) ∧ h.IsListIter i1 a i ∧ h.IsListIter i2 b i) where
  mem := by simp
  obj := fun i h st c hc => by
    obtain ⟨hz, hTI, ⟨x, y, hTO⟩, ⟨o1, e1, _, d1⟩, ⟨o2, e2, _, d2⟩⟩ := st
    have e' : c = z ∨ c = TI ∨ c = TO ∨ c = i1 ∨ c = i2 := by simpa using hc
    rcases e' with q | q | q | q | q
    · rw [q]; exact ⟨_, hz, fun v q => nomatch q⟩
    · rw [q]; exact ⟨_, hTI, fun v q => nomatch q⟩
    · rw [q]; exact ⟨_, hTO, fun v q => nomatch q⟩
    · rw [q]; exact ⟨o1, e1, fun v q => by rw [d1] at q; cases q⟩
    · rw [q]; exact ⟨o2, e2, fun v q => by rw [d2] at q; cases q⟩
  keep := fun i h h' st k => by
    obtain ⟨hz, hTI, ⟨x, y, hTO⟩, h1, h2⟩ := st
    exact ⟨k z (by simp) _ hz, k TI (by simp) _ hTI, ⟨x, y, k TO (by simp) _ hTO⟩, h1.at fun o q => k i1 (by simp) o q, h2.at fun o q => k i2 (by simp) o q⟩
  item := by
    intro X hP hw hK hc i pins s σ H E I hf st hg
    subst hP hw hK
    obtain ⟨hz, hTI, ⟨x0, y0, hTO⟩, h1, h2⟩ := st
    obtain ⟨xs, ys, x, y, hqx, hqy, hx, hy⟩ := hg
    obtain ⟨its, rv, p, _⟩ := I.list hqx
    obtain ⟨its2, rv2, p2, _⟩ := I.list hqy
    obtain ⟨u, hu, ru⟩ := rv.get hx
    obtain ⟨u2, hu2, ru2⟩ := rv2.get hy
    have hzl : z < s.heap.objs.size := Heap.lt_size hz
    refine wpAny_pyNext_zip_item D hz hTI hTO h1 h2 p.isList p2.isList (x := u) (y := u2) (by simpa using hu) (by simpa using hu2) fun h' z' TO' h1' h2' hT hsz hk => ?_
    refine ⟨_, rfl, wpAny_letOwnedTupleGo_zip (s := { s with heap := h' }) z' fun h'' z'' sb => ?_⟩
    have hT2 : h''.get? s.heap.objs.size = some { cls := .type "tuple", data := .seq #[u, u2] } := (sb.2 _ (Nat.ne_of_gt hzl)).trans hT
    have new : ObjOk X.prog X.w (upd H s.heap.objs.size (.tup [x, y])) h'' s.heap.objs.size (.tup [x, y]) :=
      ⟨by show 2 ≤ sizeLine; decide, [u, u2], .cons ru (.cons ru2 .nil), ⟨_, hT2, rfl, _, rfl⟩⟩
    have I1 : Inv X pins σ (upd H s.heap.objs.size (.tup [x, y])) { s with heap := h'' } :=
      I.turnedNew (t' := s.toks) (ch := [z, TI, TO, i1, i2]) (fun c o hb q => (sb.2 c (fun q' => hb (by simp [q']))).trans (hk c o (fun q' => hb (by simp [q'])) (fun q' => hb (by simp [q'])) (fun q' => hb (by simp [q'])) (fun q' => hb (by simp [q'])) q)) hf (Nat.le_refl _) new
    refine ⟨.ref s.heap.objs.size, _, I1, rfl, ⟨_, x, y, rfl, I.hok.fresh (Nat.le_refl _), rfl, fun l hl => by rw [I.list_inj hl hqx]; exact hx, fun l hl => by rw [I.list_inj hl hqy]; exact hy⟩, ⟨z'', ?_, ⟨u, u2, ?_⟩, ?_, ?_⟩, fun c hcm => ?_⟩
    · exact (sb.2 _ D.TIz).trans (hk _ _ D.TIz D.TITO D.TIi1 D.TIi2 hTI)
    · exact (sb.2 _ D.TOz).trans TO'
    · exact h1'.at fun o q => (sb.2 _ D.i1z).trans q
    · exact h2'.at fun o q => (sb.2 _ D.i2z).trans q
    · have hlt : c < s.heap.objs.size := by
        have e' : c = z ∨ c = TI ∨ c = TO ∨ c = i1 ∨ c = i2 := by simpa using hcm
        rcases e' with q | q | q | q | q
        · rw [q]; exact hzl
        · rw [q]; exact Heap.lt_size hTI
        · rw [q]; exact Heap.lt_size hTO
        · rw [q]; obtain ⟨_, e1, _⟩ := h1; exact Heap.lt_size e1
        · rw [q]; obtain ⟨_, e2, _⟩ := h2; exact Heap.lt_size e2
      rw [upd_ne (Nat.ne_of_lt hlt)]
      exact (hf c hcm).1
  done := by
    intro X hP hw hK hc i pins s σ H E I hf st hg
    subst hP hw hK
    obtain ⟨hz, hTI, ⟨x0, y0, hTO⟩, h1, h2⟩ := st
    obtain ⟨xs, ys, hqx, hqy, hend⟩ := hg
    obtain ⟨its, rv, p, _⟩ := I.list hqx
    obtain ⟨its2, rv2, p2, _⟩ := I.list hqy
    have l1 := rv.length
    have l2 := rv2.length
    have he : its.toArray[i]? = none ∨ its2.toArray[i]? = none := by
      rcases hend with q | q
      · exact .inl (by simp; omega)
      · exact .inr (by simp; omega)
    exact wpAny_pyNext_zip_end (I.ok.hd hc) D hz hTI hTO h1 h2 p.isList p2.isList he fun h' hk => ⟨rfl, I.turnedL (t' := s.toks) (ch := [z, TI, TO, i1, i2]) (fun c o hb q =>
      hk c o (fun q' => hb (by simp [q'])) (fun q' => hb (by simp [q'])) (fun q' => hb (by simp [q'])) (fun q' => hb (by simp [q'])) q) hf⟩
  self := fun A i s Q E st h => wpAny_pyIter_zip st.1 h
def iZip (K : PySem.W.Frag) (ta : TA) : TI := fun σ H R => ta σ H fun vs H1 => ∃ a b xs ys, vs = [.ref a, .ref b] ∧ SqL K H1 a xs ∧ SqL K H1 b ys ∧ R (Itz K a b) H1
theorem pi_zip {X : Cx} {e e2 : Expr} {ta : TA} {p pos tpos : Pos} {elts : List Expr} {kk : Nat} (hg : Gl X "zip") (hm : X.mg "zip" = none) (ha : PA X [e, e2] ta)
    (hs : starEach [e, e2] X.env = (false, eval e X.env) :: starEach [e2] X.env := by rfl) (hpl : (backTo pos (starEach [e2] X.env)).any (·.1) = false := by rfl) :
    PI X (.Tuple elts kk tpos) (.Call (.Name "zip" p) [e, e2] [] pos) (iZip X.K ta) := by
  intro pins s σ H R I h
  refine Call_ (ld_blt I hg hm boot_zip5 (PyProof.Rows.callWith_type1 (thn (ha pos pins s σ H _ I h) fun us s1 ⟨vs, H1, I1, r1, q1⟩ => ?_) hs hpl))
  obtain ⟨a, b, xs, ys, ex, hqx, hqy, q⟩ := q1
  subst ex
  cases r1 with
  | cons r rr =>
    cases rr with
    | cons r' rr =>
      cases rr
      cases r
      cases r'
      obtain ⟨its, rv, p1, _⟩ := I1.list hqx
      obtain ⟨its2, rv2, p2, _⟩ := I1.list hqy
      have la : a < s1.heap.objs.size := p1.lt
      have lb : b < s1.heap.objs.size := p2.lt
      refine call_zip_2 p1.isList p2.isList fun h' hz hTI hTO h1 h2 hsz hk => wpAny_pyIter_zip hz ?_
      have I2 : Inv X pins σ H1 { s1 with heap := h' } := I1.kept (t' := s1.toks) hk
      refine ⟨s1.heap.objs.size + 4, [s1.heap.objs.size + 4, s1.heap.objs.size + 2, s1.heap.objs.size + 3, s1.heap.objs.size, s1.heap.objs.size + 1], _, _, H1, rfl, I2, turn_zip (PySem.W.ktu_apart s1.heap.objs.size a b la lb), ⟨hz, hTI, ⟨_, _, hTO⟩, h1, h2⟩, fun c hcm => ?_, q⟩
      have e' : c = s1.heap.objs.size + 4 ∨ c = s1.heap.objs.size + 2 ∨ c = s1.heap.objs.size + 3 ∨ c = s1.heap.objs.size ∨ c = s1.heap.objs.size + 1 := by simpa using hcm
      have hle : s1.heap.objs.size ≤ c := by
        rcases e' with z | z | z | z | z
        · rw [z]; exact Nat.le_add_right _ _
        · rw [z]; exact Nat.le_add_right _ _
        · rw [z]; exact Nat.le_add_right _ _
        · rw [z]; exact Nat.le_refl _
        · rw [z]; exact Nat.le_add_right _ _
      exact I1.fpOk hle (I1.hok.fresh hle)
end L2

section 
namespace Bits
open PySem PyProof.Rows








end Bits
end 

section 
namespace TL
open PySem PySem.Builtin PySem.Builtin.Str PySem.StrLaws


/-! ### the list functions -/




/-! ### the model's split and partition are these -/




/-! ### computing spl and par -/


/-! ### digits -/

/-! ### words: x.split() -/
end TL
end 

namespace L2
open PySem PySem.Spec PyProof.Rows




section
variable {X : Cx} {pins : List (Addr × Obj)} {σ : St} {H : Hp} {s : Shared} {Q : VK}
end

section
variable {X : Cx}





/-! ### of a text alone -/

/-! ### of a text and a text -/

end

section
variable {X : Cx} {o e : Expr} {to te : TE}

end
end L2

namespace L2
open PySem PySem.Spec PyProof.Rows

section
variable {X : Cx}
end

/-! ### slices of a text -/


end L2

namespace Att
open PySem PySem.W PySem.Calls PyProof.Rows

/-! ### the script -/



/-! ### the attachment: holds_open's last premise (the goal 'hc' behind k_head) from a wpAny of the law's body -/



/-! ### rules over ANY heap (no ledger) from facts about the written part K: the library's own take a ledger (News) for what they write -/
section
variable {prog : Program} {w : World} {A : Around} {E : Value → Shared → Prop} {s : Shared} {K : Frag}





/-! the whole heap as the ledger: makes every rule that writes through a ledger a rule over any heap -/

end
end Att

namespace L2
open PySem PySem.Spec PyProof.Rows



end L2

namespace L2
open PySem PySem.Spec PyProof.Rows


end L2

/- THE LAST THEOREM (shape; LID, My.* are yours):
   My.Adr: a structure of the addresses that your layer names (classes, functions); My.Txt K t: a structure (Prop) of the equations over K;
   My.txt_mk : {K} {implicit addresses ..} (e1 : nsIn K mainGlobals "law" = some (some (.ref f))) (e2 : K.lookup f = some ⟨oc, od, .func (fnOf "law" "law" params body scope dV kV doc pm an cdv ct), sl⟩) (e3 : codeIn K cdv "law" = true) .. : ∃ t, My.Txt K t

set_option maxRecDepth 100000 in
set_option maxHeartbeats 0 in
theorem PySem.Challenge.cw_LID_holds : PySem.Challenge.rw_LID.Holds := by
  w_on; o_law; k_head; (case hw => w_witness2)
  k_fill
  refine L2.walk_of (l := PySem.Challenge.rw_LID) (n := 63) (k := 40) (x := "script") (CX := fun w => ..) (sp := fun _ => My.sp_law) rfl (by decide) rfl ⟨rfl, by decide, by decide⟩ (fun w h Y => PySem.W.kIn_of Y) ?F ?S ?C
  case F =>
    intro w mg fa h KX G hmg
    have T : ∃ t, My.Txt (L2.KOf KX) t := by
      dsimp only [L2.KOf]                          -- K must stand as «<heap const> w.params» for k_is
      refine' My.txt_mk ?e1 ?e2 ?e3 ..
      (case e1 => PySem.W.k_is)                    -- in the order: a name -> its address -> its object -> its parts
      (case e2 => PySem.W.k_is)
      ..
    obtain ⟨t, T⟩ := T
    have e0 := hmg.symm.trans (PySem.W.mg_of KX G T.law)
    cases e0                                       -- fa is the law's own address
    exact ⟨_, fun s u => .of_eq rfl, fun base kb nb => My.law_fn T kb nb⟩     -- if «.of_eq rfl» comes too early: refine' ⟨_, ?b, fun base kb nb => My.law_fn T kb nb⟩; exact fun s u => .of_eq rfl
  case S => exact fun w H a ns hl hO hS => ..
  case C => exact ..
(the tactic k_is has no namespace: write k_is) -/

/-! SHORT WORDS over the layer: a def of the text, its body, what a loop and a test want. -/
namespace L2
open PySem PySem.Spec PyProof.Rows

/-! ### the text by places -/
/-- the j-th statement of a class's body -/
def inClass (s : Stmt) (j : Nat) : Stmt := match s with
  | .ClassDef _ _ _ body _ _ _ _ _ _ _ => body.getD j (.Pass ⟨0, 0, 0, 0⟩)
  | _ => .Pass ⟨0, 0, 0, 0⟩
def defArgs (s : Stmt) : Arguments := match s with
  | .FunctionDef _ a _ _ _ _ _ _ _ _ => a
  | _ => { posonlyargs := [], args := [], vararg := none, kwonlyargs := [], kw_defaults := [], kwarg := none, defaults := [] }
def defBody (s : Stmt) : List Stmt := match s with
  | .FunctionDef _ _ b _ _ _ _ _ _ _ => b
  | _ => []
def defScope (s : Stmt) : Scope := match s with
  | .FunctionDef _ _ _ _ _ _ sc _ _ _ => sc
  | _ => { kind := .function, names := [], isGenerator := false, isCoroutine := false }

/-! ### no exception leaves a def -/
abbrev CX0 : CXT := fun _ _ _ _ _ _ => False
abbrev E0 : XK := fun _ _ _ => False
theorem pass0 {X : Cx} : Passes CX0 X E0 := fun _ _ _ _ _ _ _ h => h.elim

/-! ### a def (or method) of the text as it stands behind the top -/
structure Fun (K : PySem.W.Frag) (x qual : Str) (st : Stmt) (f : Addr) (fd : FuncData) : Prop where
  ex : ∃ (oc : Value) (od : Option Addr) (kV doc pm : Value) (an : Option Addr) (cdv ct : Value) (osl : Array (Option Value)),
    fd = PySem.W.fnOf x qual (defArgs st) (defBody st) (defScope st) .none kV doc pm an cdv ct ∧ K.lookup f = some ⟨oc, od, .func fd, osl⟩ ∧ PySem.W.codeIn K cdv qual = true
  kp : PySem.W.keepIn K (.ref f) = true
section
variable {P : Program} {w : World} {K : PySem.W.Frag} {mg : Str → Option Value} {base : Heap}
/-- THE RULE for a def: its body as a term of rules, and the reading of that term -/
theorem Fun.ok {x qual : Str} {st : Stmt} {f : Addr} {fd : FuncData} {N ps : List Str} {k : Nat} {sp : Sp} (F : Fun K x qual st f fd) (S : FnScope N ps (defScope st)) (len : ∀ vs H Q E, sp vs H Q E → vs.length = ps.length)
    (hbody : ∀ (cdv : Value) (A : Around) (outer : List Env) (s : Shared) (H : Hp) (vs : List V) (Q : VK) (E : XK), Room k (A.deeper (envOfC qual (defScope st) s.heap.objs.size f cdv)) → sp vs H Q E →
      ∃ t, PSs (cxOf CX0 P w K mg base N qual (defScope st) f cdv A outer s H E).nox (defBody st) t ∧ t { nx := fun _ H' => Q .non H', rt := Q } (start N vs) H) : FnOk P w K mg base CX0 (k + 1) f fd ps sp := by
  obtain ⟨oc, od, kV, doc, pm, an, cdv, ct, osl, rfl, lk, hcd⟩ := F.ex
  refine fn_of lk hcd S len fun A outer s H vs Q E hr hsp => ?_
  obtain ⟨t, h, q⟩ := hbody cdv A outer s H vs Q E hr hsp
  exact ⟨t, h.nox, q⟩
/-- how its arguments bind (no defaults): h is «fun _ _ _ _ _ _ us hl => match us, hl with | [_, _], _ => rfl», one _ a parameter -/
theorem Fun.binds {x qual : Str} {st : Stmt} {f : Addr} {fd : FuncData} {ps : List Str} (F : Fun K x qual st f fd)
    (h : ∀ (kV doc pm : Value) (an : Option Addr) (cdv ct : Value) (us : List Value), us.length = ps.length → bindArgs (PySem.W.fnOf x qual (defArgs st) (defBody st) (defScope st) .none kV doc pm an cdv ct) ⟨us, []⟩ = pure (ps.zip us)) : Binds K fd ps [] := by
  obtain ⟨oc, od, kV, doc, pm, an, cdv, ct, osl, rfl, lk, hcd⟩ := F.ex
  exact .all (h kV doc pm an cdv ct)
theorem fun_mk {x qual : Str} {st : Stmt} {f : Addr} {oc : Value} {od an : Option Addr} {osl : Array (Option Value)} {kV doc pm cdv ct : Value} (l : K.lookup f = some ⟨oc, od, .func (PySem.W.fnOf x qual (defArgs st) (defBody st) (defScope st) .none kV doc pm an cdv ct), osl⟩)
    (c : PySem.W.codeIn K cdv qual = true) (k : PySem.W.keepIn K (.ref f) = true) : Fun K x qual st f (PySem.W.fnOf x qual (defArgs st) (defBody st) (defScope st) .none kV doc pm an cdv ct) := ⟨⟨oc, od, kV, doc, pm, an, cdv, ct, osl, rfl, l, c⟩, k⟩
end
theorem hu_of {A : Around} {k : Nat} (hr : Room k A) : A.units + 1 < cLine := Nat.lt_of_le_of_lt (Nat.add_le_add_left (by decide : 1 ≤ 64) _) hr.units

/-! ### expressions in short: the name that stands in the i-th slot -/
section
variable {X : Cx}
theorem pv (i : Nat) {x : Str} {pos : Pos} (hN : X.N[i]? = some x := by rfl) (hv : Vis X.env.scope x := by first | exact Or.inl rfl | exact Or.inr (Or.inl rfl) | exact Or.inr (Or.inr rfl)) (hd : (x == ("__debug__" : Str)) = false := by decide)
    (hcd : (x == ("__classdict__" : Str)) = false := by decide) : PE X (.Name x pos) (tVar i) := pe_var hN hv hd hcd
end

/-! ### tests -/
theorem iteF {A B : Prop} (h : B) : if false = true then A else B := by
  rw [if_neg Bool.false_ne_true]
  exact h
theorem iteT {A B : Prop} (h : A) : if true = true then A else B := by
  rw [if_pos rfl]
  exact h
theorem ite2 {c A B : Prop} [Decidable c] (h1 : c → A) (h2 : ¬ c → B) : if c then A else B := by
  by_cases h : c
  · rw [if_pos h]
    exact h1 h
  · rw [if_neg h]
    exact h2 h

/-! ### heaps -/
/-- all that was tracked is as it was -/
def Same (H H' : Hp) : Prop := ∀ b o, H b = some o → H' b = some o
theorem Same.refl (H : Hp) : Same H H := fun _ _ h => h
theorem Same.trans {H H1 H2 : Hp} (a : Same H H1) (b : Same H1 H2) : Same H H2 := fun c o h => b c o (a c o h)
theorem Same.free {H H' : Hp} (e : Same H H') {l : Addr} (h : H' l = Option.none) : H l = Option.none := by
  cases q : H l with
  | none => rfl
  | some o =>
    rw [e l o q] at h
    cases h
theorem Same.seq {K : PySem.W.Frag} {H H' : Hp} {a : Addr} {xs : List V} (e : Same H H') (h : SqL K H a xs) : SqL K H' a xs := by
  rcases h with (h | ⟨o, h⟩) | h
  · exact .inl (.inl (e _ _ h))
  · exact .inl (.inr ⟨o, e _ _ h⟩)
  · exact .inr h

/-! ### a dict's pairs: keys that differ -/
section
variable {κ : Type} [DecidableEq κ]
end
/-! ### lists -/
theorem at_of {xs : List V} {z : Int} {j : Nat} {v : V} (e : z = (j : Int)) (h : xs[j]? = some v) : atI xs z = some v := by
  rw [e]
  exact atI_nat h
/-- a new instance and its __init__ leave all that was tracked as it was -/
theorem Same.made {H H1 : Hp} {x dx C : Addr} (nx : H x = Option.none) (nd : H dx = Option.none) (k : ∀ b o, (upd (upd H dx (.own x)) x (.ins C dx [])) b = some o → b ≠ x → H1 b = some o) : Same H H1 := fun b o e =>
  k b o (by rw [upd_ne (ne_of_none e nx), upd_ne (ne_of_none e nd)]; exact e) (ne_of_none e nx)
end L2

set_option maxHeartbeats 2000000
namespace L2
open PySem PySem.Spec PyProof.Rows
open PySem.W (WData Codec OpenSpec Well WellAll ReadsW ReadsAllW)
/-! ### an answer as data -/
mutual
/-- x stands for the datum d, lists and tuples all the way -/
inductive Dw (K : PySem.W.Frag) (H : Hp) : V → WData → Prop
  | non : Dw K H .non .none
  | bl (b : Bool) : Dw K H (.bl b) (.bool b)
  | int (i : Int) : Dw K H (.int i) (.int i)
  | str (x : Str) : Dw K H (.str x) (.str x)
  | byt (b : Array UInt8) : Dw K H (.byt b) (.bytes b.toList)
  | lst {a : Addr} {xs : List V} {ds : List WData} : SqL K H a xs → DwAll K H xs ds → Dw K H (.ref a) (.list ds)
  | tup {a : Addr} {xs : List V} {ds : List WData} : SqT K H a xs → DwAll K H xs ds → Dw K H (.ref a) (.tuple ds)
inductive DwAll (K : PySem.W.Frag) (H : Hp) : List V → List WData → Prop
  | nil : DwAll K H [] []
  | cons {v : V} {vs : List V} {d : WData} {ds : List WData} : Dw K H v d → DwAll K H vs ds → DwAll K H (v :: vs) (d :: ds)
end
theorem dw_ints {K : PySem.W.Frag} {H : Hp} : ∀ ns : List Int, DwAll K H (ns.map V.int) (ns.map WData.int)
  | [] => .nil
  | n :: r => .cons (.int n) (dw_ints r)
theorem ints_dw {K : PySem.W.Frag} {H : Hp} : ∀ (ns : List Int) (xs : List V), DwAll K H xs (ns.map WData.int) → xs = ns.map V.int
  | [], xs, h => by
    cases h
    rfl
  | n :: r, xs, h => by
    cases h with
    | cons h1 h2 =>
      cases h1
      rw [ints_dw r _ h2] <;> rfl
section
variable {P : Program} {w : World} {K : PySem.W.Frag} {H : Hp} {h : Heap} {R : PySem.W.WRecords} {cl : Str → Option Addr}
theorem sqL_at {a : Addr} {xs : List V} (hok : HOk P w H h) (KX : K.In h) (q : SqL K H a xs) : ∃ (its : List Value) (o : Obj) (n : Nat), Vals xs its ∧ h.get? a = some o ∧ o.cls = .type "list" ∧ o.data = .seq its.toArray n := by
  rcases q with q | ⟨o, its, n, e, hc, _, hd, _, hv⟩
  · obtain ⟨_, its, n, hv, e⟩ := (show ObjOk P w H h a (.lst xs) from q.ok hok)
    exact ⟨its, _, n, hv, e, rfl, rfl⟩
  · exact ⟨its.toList, o, n, hv, KX _ _ e, hc, by simp [hd]⟩
theorem sqT_at {a : Addr} {xs : List V} (hok : HOk P w H h) (KX : K.In h) (q : SqT K H a xs) : ∃ (its : List Value) (o : Obj) (n : Nat), Vals xs its ∧ h.get? a = some o ∧ o.cls = .type "tuple" ∧ o.data = .seq its.toArray n := by
  rcases q with q | ⟨o, its, n, e, hc, hd, _, hv⟩
  · obtain ⟨_, its, hv, o, e, hc, n, hd⟩ := (show ObjOk P w H h a (.tup xs) from q.ok hok)
    exact ⟨its, o, n, hv, e, hc, hd⟩
  · exact ⟨its.toList, o, n, hv, KX _ _ e, hc, by simp [hd]⟩
mutual
theorem Dw.reads (hok : HOk P w H h) (KX : K.In h) : ∀ (d : WData) (v : V) (u : Value), Dw K H v d → RelV v u → ∃ as, ReadsW R cl h u d as
  | .none, _, _, x, r => by
    cases x
    cases r
    exact ⟨_, ReadsW.none⟩
  | .bool b, _, _, x, r => by
    cases x
    cases r
    exact ⟨_, ReadsW.bool b⟩
  | .int i, _, _, x, r => by
    cases x
    obtain ⟨t, rfl⟩ := r
    exact ⟨_, ReadsW.int i t⟩
  | .str s, _, _, x, r => by
    cases x
    obtain ⟨t, rfl⟩ := r
    exact ⟨_, ReadsW.str s t⟩
  | .bytes b, _, _, x, r => by
    cases x
    obtain ⟨t, rfl⟩ := r
    exact ⟨_, ReadsW.bytes _ t⟩
  | .list ds, _, _, x, r => by
    cases x with
    | lst hs ha =>
      cases r
      obtain ⟨its, o, n, rv, ho, hc, hd⟩ := sqL_at hok KX hs
      obtain ⟨as, hr⟩ := Dw.readsAll hok KX ds _ its ha rv
      exact ⟨_, ReadsW.list ho hc hd hr⟩
  | .tuple ds, _, _, x, r => by
    cases x with
    | tup hs ha =>
      cases r
      obtain ⟨its, o, n, rv, ho, hc, hd⟩ := sqT_at hok KX hs
      obtain ⟨as, hr⟩ := Dw.readsAll hok KX ds _ its ha rv
      exact ⟨_, ReadsW.tuple ho hc hd hr⟩
  | .float _, _, _, x, _ => by cases x
  | .dict _, _, _, x, _ => by cases x
  | .bytearray _, _, _, x, _ => by cases x
  | .set _, _, _, x, _ => by cases x
  | .frozenset _, _, _, x, _ => by cases x
  | .obj _ _, _, _, x, _ => by cases x
theorem Dw.readsAll (hok : HOk P w H h) (KX : K.In h) : ∀ (ds : List WData) (vs : List V) (us : List Value), DwAll K H vs ds → Vals vs us → ∃ as, ReadsAllW R cl h us ds as
  | [], _, _, x, r => by
    cases x
    cases r
    exact ⟨_, ReadsAllW.nil⟩
  | d :: ds, _, _, x, r => by
    cases x with
    | cons h1 h2 =>
      cases r with
      | cons r1 r2 =>
        obtain ⟨as, q1⟩ := Dw.reads hok KX d _ _ h1 r1
        obtain ⟨bs, q2⟩ := Dw.readsAll hok KX ds _ _ h2 r2
        exact ⟨_, ReadsAllW.cons q1 q2⟩
end
end
/-! ### the arguments -/
mutual
/-- data that a codec tells -/
def plW : WData → Bool
  | .none => true
  | .bool _ => true
  | .int _ => true
  | .str _ => true
  | .bytes _ => true
  | .list xs => plWs xs
  | .tuple xs => plWs xs
  | _ => false
def plWs : List WData → Bool
  | [] => true
  | x :: r => plW x && plWs r
end
theorem plWs_map {α : Type} {f : α → WData} (h : ∀ a, plW (f a) = true) : ∀ l : List α, plWs (l.map f) = true
  | [] => rfl
  | x :: r => by
    show (plW (f x) && plWs (r.map f)) = true
    rw [h x, plWs_map h r] <;> rfl
theorem pl_enc : ∀ (c : Codec) (a : c.denote), plW (c.enc a) = true
  | .unit, _ => rfl
  | .bool, _ => rfl
  | .int _ _, _ => rfl
  | .nat _ _, _ => rfl
  | .u8, _ => rfl
  | .bytes _ _, _ => rfl
  | .text _ _ _ _, _ => rfl
  | .list _ _ c, a => plWs_map (fun x => pl_enc c x) a
  | .pair c d, a => by
    show (plW (c.enc a.1) && (plW (d.enc a.2) && true)) = true
    rw [pl_enc c a.1, pl_enc d a.2] <;> rfl
  | .triple c d e, a => by
    show (plW (c.enc a.1) && (plW (d.enc a.2.1) && (plW (e.enc a.2.2) && true))) = true
    rw [pl_enc c a.1, pl_enc d a.2.1, pl_enc e a.2.2] <;> rfl
  | .option c, none => rfl
  | .option c, some x => pl_enc c x
theorem pl_encAll : ∀ (cs : List Codec) (a : Codec.denoteAll cs), plWs (Codec.encAll cs a) = true
  | [], _ => rfl
  | c :: cs, a => by
    show (plW (c.enc a.1) && plWs (Codec.encAll cs a.2)) = true
    rw [pl_enc c a.1, pl_encAll cs a.2] <;> rfl
theorem weight_mem : ∀ {xs : List WData} {d : WData}, d ∈ xs → d.weight ≤ WData.weightAll xs
  | [], d, h => absurd h (by simp)
  | x :: r, d, h => by
    show d.weight ≤ x.weight + 1 + WData.weightAll r
    rcases List.mem_cons.mp h with e | m
    · rw [e]
      omega
    · have z := weight_mem m
      omega
def toV : Value → V
  | .none => .non
  | .bool b => .bl b
  | .int i _ => .int i
  | .str x _ => .str x
  | .bytes b _ => .byt b
  | .ref a => .ref a
  | _ => .non
/-- a value of the arguments, its objects among A -/
def OkU (A : List Addr) : Value → Prop
  | .none => True
  | .bool _ => True
  | .int _ _ => True
  | .str _ _ => True
  | .bytes _ _ => True
  | .ref a => a ∈ A
  | _ => False
theorem OkU.mono {A B : List Addr} (h : ∀ a ∈ A, a ∈ B) : ∀ {u : Value}, OkU A u → OkU B u := fun {u} x => by
  cases u with
  | ref a => exact h a x
  | none => trivial
  | bool b => trivial
  | int i t => trivial
  | str s t => trivial
  | bytes b t => trivial
  | _ => exact False.elim x
theorem relV_toV {A : List Addr} {u : Value} (x : OkU A u) : RelV (toV u) u := by
  cases u with
  | ref a => rfl
  | none => rfl
  | bool b => rfl
  | int i t => exact ⟨t, rfl⟩
  | str s t => exact ⟨t, rfl⟩
  | bytes b t => exact ⟨t, rfl⟩
  | _ => exact False.elim x
theorem vals_toV {A : List Addr} : ∀ {vs : List Value}, (∀ u ∈ vs, OkU A u) → Vals (vs.map toV) vs
  | [], _ => .nil
  | u :: r, h => .cons (relV_toV (h u (List.mem_cons_self ..))) (vals_toV fun x hx => h x (List.mem_cons_of_mem _ hx))
/-- an object of the arguments -/
def ArgOb (h : Heap) (A : List Addr) (a : Addr) : Prop := ∃ vs : List Value, vs.length ≤ sizeLine ∧ (∀ u ∈ vs, OkU A u) ∧
  (h.get? a = some { cls := .type "list", data := .seq vs.toArray } ∨ h.get? a = some { cls := .type "tuple", data := .seq vs.toArray })
theorem ArgOb.mono {h : Heap} {A B : List Addr} {a : Addr} (k : ∀ a ∈ A, a ∈ B) (x : ArgOb h A a) : ArgOb h B a := by
  obtain ⟨vs, h1, h2, h3⟩ := x
  exact ⟨vs, h1, fun u hu => (h2 u hu).mono k, h3⟩
theorem wellAll_len {P : Params} {h : Heap} : ∀ {vs : List Value} {ds : List WData}, WellAll P h vs ds → vs.length = ds.length
  | _, _, .nil => rfl
  | _, _, .cons _ b => by
    show _ + 1 = _ + 1
    rw [wellAll_len b]
theorem well_list {P : Params} {h : Heap} {v : Value} {ds : List WData} (x : Well P h v (.list ds)) : ∃ (a : Addr) (vs : List Value), v = .ref a ∧ h.get? a = some { cls := .type "list", data := .seq vs.toArray } ∧ WellAll P h vs ds := by
  cases x with
  | list ho hall => exact ⟨_, _, rfl, ho, hall⟩
theorem well_tuple {P : Params} {h : Heap} {v : Value} {ds : List WData} (x : Well P h v (.tuple ds)) : ∃ (a : Addr) (vs : List Value), v = .ref a ∧ h.get? a = some { cls := .type "tuple", data := .seq vs.toArray } ∧ WellAll P h vs ds := by
  cases x with
  | tuple ho hall => exact ⟨_, _, rfl, ho, hall⟩
theorem well_cons {P : Params} {h : Heap} {us : List Value} {d : WData} {ds : List WData} (x : WellAll P h us (d :: ds)) : ∃ (v : Value) (vs : List Value), us = v :: vs ∧ Well P h v d ∧ WellAll P h vs ds := by
  cases x with
  | cons a b => exact ⟨_, _, rfl, a, b⟩
theorem line_of {n : Nat} (h : n ≤ 1048576) : n ≤ sizeLine := Nat.le_trans h (by decide)
section
variable {P : Params} {h : Heap}
mutual
theorem area_one : ∀ (d : WData) (v : Value), Well P h v d → plW d = true → d.weight ≤ 1048576 → ∃ A : List Addr, OkU A v ∧ ∀ a ∈ A, ArgOb h A a
  | .none, _, x, _, _ => by
    cases x
    exact ⟨[], trivial, fun a m => absurd m (by simp)⟩
  | .bool b, _, x, _, _ => by
    cases x
    exact ⟨[], trivial, fun a m => absurd m (by simp)⟩
  | .int i, _, x, _, _ => by
    cases x
    exact ⟨[], trivial, fun a m => absurd m (by simp)⟩
  | .str s, _, x, _, _ => by
    cases x
    exact ⟨[], trivial, fun a m => absurd m (by simp)⟩
  | .bytes b, _, x, _, _ => by
    cases x
    exact ⟨[], trivial, fun a m => absurd m (by simp)⟩
  | .list ds, _, x, p, z => by
    obtain ⟨a, vs, rfl, ho, hall⟩ := well_list x
    have z2 : WData.weightAll ds ≤ 1048576 := z
    obtain ⟨A, h1, h2⟩ := area_all ds _ hall p fun d hd => Nat.le_trans (weight_mem hd) z2
    have k : ∀ b ∈ A, b ∈ a :: A := fun b hb => List.mem_cons_of_mem _ hb
    refine ⟨a :: A, List.mem_cons_self .., fun b hb => ?_⟩
    rcases List.mem_cons.mp hb with e | m
    · rw [e]
      exact ⟨vs, line_of (by rw [wellAll_len hall]; exact Nat.le_trans (PySem.W.length_le_weightAllW ds) z2), fun u hu => (h1 u hu).mono k, .inl ho⟩
    · exact (h2 b m).mono k
  | .tuple ds, _, x, p, z => by
    obtain ⟨a, vs, rfl, ho, hall⟩ := well_tuple x
    have z2 : WData.weightAll ds ≤ 1048576 := z
    obtain ⟨A, h1, h2⟩ := area_all ds _ hall p fun d hd => Nat.le_trans (weight_mem hd) z2
    have k : ∀ b ∈ A, b ∈ a :: A := fun b hb => List.mem_cons_of_mem _ hb
    refine ⟨a :: A, List.mem_cons_self .., fun b hb => ?_⟩
    rcases List.mem_cons.mp hb with e | m
    · rw [e]
      exact ⟨vs, line_of (by rw [wellAll_len hall]; exact Nat.le_trans (PySem.W.length_le_weightAllW ds) z2), fun u hu => (h1 u hu).mono k, .inr ho⟩
    · exact (h2 b m).mono k
  | .float _, _, _, p, _ => Bool.noConfusion (show false = true from p)
  | .dict _, _, _, p, _ => Bool.noConfusion (show false = true from p)
  | .bytearray _, _, _, p, _ => Bool.noConfusion (show false = true from p)
  | .set _, _, _, p, _ => Bool.noConfusion (show false = true from p)
  | .frozenset _, _, _, p, _ => Bool.noConfusion (show false = true from p)
  | .obj _ _, _, _, p, _ => Bool.noConfusion (show false = true from p)
theorem area_all : ∀ (ds : List WData) (vs : List Value), WellAll P h vs ds → plWs ds = true → (∀ d ∈ ds, d.weight ≤ 1048576) → ∃ A : List Addr, (∀ u ∈ vs, OkU A u) ∧ ∀ a ∈ A, ArgOb h A a
  | [], _, x, _, _ => by
    cases x
    exact ⟨[], fun u m => absurd m (by simp), fun a m => absurd m (by simp)⟩
  | d :: ds, _, x, p, z => by
    obtain ⟨v, vs, rfl, x1, x2⟩ := well_cons x
    have q : plW d = true ∧ plWs ds = true := Bool.and_eq_true_iff.mp p
    obtain ⟨A, a1, a2⟩ := area_one d v x1 q.1 (z d (List.mem_cons_self ..))
    obtain ⟨B, b1, b2⟩ := area_all ds vs x2 q.2 fun e he => z e (List.mem_cons_of_mem _ he)
    have kA : ∀ b ∈ A, b ∈ A ++ B := fun b hb => List.mem_append.mpr (.inl hb)
    have kB : ∀ b ∈ B, b ∈ A ++ B := fun b hb => List.mem_append.mpr (.inr hb)
    refine ⟨A ++ B, fun u hu => ?_, fun b hb => ?_⟩
    · rcases List.mem_cons.mp hu with e | m
      · rw [e]
        exact a1.mono kA
      · exact (b1 u m).mono kB
    · rcases List.mem_append.mp hb with m | m
      · exact (a2 b m).mono kA
      · exact (b2 b m).mono kB
end
end
/-- what is tracked of an argument's object -/
def hoOf (o : Obj) : Option HO := match o.data with
  | .seq vs _ => if (o.cls == Value.type "list") = true then some (.frz o (.lst (vs.toList.map toV))) else some (.frz o (.tup (vs.toList.map toV)))
  | _ => none
def argH (K : PySem.W.Frag) (h : Heap) (A : List Addr) : Hp := fun b => if b ∈ A then (if (K.lookup b).isNone = true then (h.get? b).bind hoOf else none) else none
/-- nothing is tracked but what is known to the object -/
def OnlyF (H : Hp) : Prop := ∀ b, H b = none ∨ ∃ o u, H b = some (.frz o u)
theorem hoOf_lst (vs : List Value) : hoOf { cls := .type "list", data := .seq vs.toArray } = some (.frz { cls := .type "list", data := .seq vs.toArray } (.lst (vs.map toV))) := by
  show (if (Value.type "list" == Value.type "list") = true then some (HO.frz { cls := .type "list", data := .seq vs.toArray } (.lst (vs.toArray.toList.map toV))) else some (HO.frz { cls := .type "list", data := .seq vs.toArray } (.tup (vs.toArray.toList.map toV)))) = _
  rw [if_pos (beq_self_eq_true _)]
theorem hoOf_tup (vs : List Value) : hoOf { cls := .type "tuple", data := .seq vs.toArray } = some (.frz { cls := .type "tuple", data := .seq vs.toArray } (.tup (vs.map toV))) := by
  show (if (Value.type "tuple" == Value.type "list") = true then some (HO.frz { cls := .type "tuple", data := .seq vs.toArray } (.lst (vs.toArray.toList.map toV))) else some (HO.frz { cls := .type "tuple", data := .seq vs.toArray } (.tup (vs.toArray.toList.map toV)))) = _
  rw [if_neg (by decide)]
section
variable {P : Program} {w : World} {K : PySem.W.Frag} {h : Heap} {A : List Addr}
theorem argH_at {b : Addr} {o : Obj} (hb : b ∈ A) (hk : K.lookup b = none) (e : h.get? b = some o) : argH K h A b = hoOf o := by
  unfold argH
  rw [if_pos hb, hk, if_pos (show (none : Option Obj).isNone = true from rfl), e] <;> rfl
theorem of_argH {b : Addr} {u : HO} (q : argH K h A b = some u) : b ∈ A ∧ K.lookup b = none := by
  unfold argH at q
  by_cases hb : b ∈ A
  · rw [if_pos hb] at q
    cases hk : K.lookup b with
    | none => exact ⟨hb, rfl⟩
    | some o =>
      rw [hk, if_neg (by simp)] at q
      cases q
  · rw [if_neg hb] at q
    cases q
/-- what stands tracked -/
theorem argH_is (ar : ∀ a ∈ A, ArgOb h A a) {b : Addr} {u : HO} (q : argH K h A b = some u) : K.lookup b = none ∧ ∃ vs : List Value, vs.length ≤ sizeLine ∧ (∀ u ∈ vs, OkU A u) ∧
    ((h.get? b = some { cls := .type "list", data := .seq vs.toArray } ∧ u = .frz { cls := .type "list", data := .seq vs.toArray } (.lst (vs.map toV))) ∨
     (h.get? b = some { cls := .type "tuple", data := .seq vs.toArray } ∧ u = .frz { cls := .type "tuple", data := .seq vs.toArray } (.tup (vs.map toV)))) := by
  obtain ⟨hb, hk⟩ := of_argH q
  obtain ⟨vs, h1, h2, h3⟩ := ar b hb
  refine ⟨hk, vs, h1, h2, ?_⟩
  rcases h3 with e | e
  · rw [argH_at hb hk e, hoOf_lst] at q
    exact .inl ⟨e, (Option.some.inj q).symm⟩
  · rw [argH_at hb hk e, hoOf_tup] at q
    exact .inr ⟨e, (Option.some.inj q).symm⟩
theorem argH_only (ar : ∀ a ∈ A, ArgOb h A a) : OnlyF (argH K h A) := fun b => by
  cases q : argH K h A b with
  | none => exact .inl rfl
  | some u =>
    obtain ⟨_, vs, _, _, ⟨_, e⟩ | ⟨_, e⟩⟩ := argH_is ar q
    · exact .inr ⟨_, _, by rw [e]⟩
    · exact .inr ⟨_, _, by rw [e]⟩
theorem argH_ok (ar : ∀ a ∈ A, ArgOb h A a) : HOk P w (argH K h A) h := fun b u q => by
  obtain ⟨_, vs, h1, h2, ⟨e, rfl⟩ | ⟨e, rfl⟩⟩ := argH_is ar q
  · exact ⟨e, by rw [List.length_map]; exact h1, vs, _, vals_toV h2, e⟩
  · exact ⟨e, by rw [List.length_map]; exact h1, vs, vals_toV h2, _, e, rfl, _, rfl⟩
theorem seq_inj {c c' : Value} {vs us : List Value} (e : (some { cls := c, data := .seq vs.toArray } : Option Obj) = some { cls := c', data := .seq us.toArray }) : c = c' ∧ vs = us := by
  have e1 := Option.some.inj e
  have e2 : c = c' := congrArg Obj.cls e1
  have e3 : Data.seq vs.toArray = Data.seq us.toArray := congrArg Obj.data e1
  injection e3 with e4
  refine ⟨e2, ?_⟩
  have e5 := congrArg Array.toList e4
  simpa using e5
/-- a list argument -/
theorem argL (KX : K.In h) (ar : ∀ a ∈ A, ArgOb h A a) {a : Addr} {vs : List Value} (ha : a ∈ A) (e : h.get? a = some { cls := .type "list", data := .seq vs.toArray }) : (∀ u ∈ vs, OkU A u) ∧ SqL K (argH K h A) a (vs.map toV) := by
  obtain ⟨us, h1, h2, h3⟩ := ar a ha
  have hu : us = vs := by
    rcases h3 with q | q
    · rw [e] at q
      exact (seq_inj q).2.symm
    · rw [e] at q
      exact absurd (Value.type.inj (seq_inj q).1) (by decide)
  subst hu
  refine ⟨h2, ?_⟩
  cases hk : K.lookup a with
  | none => exact .inl (.inr ⟨_, by rw [argH_at ha hk e, hoOf_lst]⟩)
  | some o =>
    have e2 := KX a o hk
    rw [e] at e2
    obtain rfl := Option.some.inj e2
    exact .inr ⟨_, us.toArray, _, hk, rfl, rfl, rfl, by rw [List.size_toArray]; exact h1, by simpa using vals_toV h2⟩
theorem argT (KX : K.In h) (ar : ∀ a ∈ A, ArgOb h A a) {a : Addr} {vs : List Value} (ha : a ∈ A) (e : h.get? a = some { cls := .type "tuple", data := .seq vs.toArray }) : (∀ u ∈ vs, OkU A u) ∧ SqT K (argH K h A) a (vs.map toV) := by
  obtain ⟨us, h1, h2, h3⟩ := ar a ha
  have hu : us = vs := by
    rcases h3 with q | q
    · rw [e] at q
      exact absurd (Value.type.inj (seq_inj q).1) (by decide)
    · rw [e] at q
      exact (seq_inj q).2.symm
  subst hu
  refine ⟨h2, ?_⟩
  cases hk : K.lookup a with
  | none => exact .inl (.inr ⟨_, by rw [argH_at ha hk e, hoOf_tup]⟩)
  | some o =>
    have e2 := KX a o hk
    rw [e] at e2
    obtain rfl := Option.some.inj e2
    exact .inr ⟨_, us.toArray, _, hk, rfl, rfl, by rw [List.size_toArray]; exact h1, by simpa using vals_toV h2⟩
mutual
theorem dw_one {Pm : Params} (KX : K.In h) (ar : ∀ a ∈ A, ArgOb h A a) : ∀ (d : WData) (v : Value), Well Pm h v d → plW d = true → OkU A v → Dw K (argH K h A) (toV v) d
  | .none, _, x, _, _ => by
    cases x
    exact .non
  | .bool b, _, x, _, _ => by
    cases x
    exact .bl b
  | .int i, _, x, _, _ => by
    cases x
    exact .int i
  | .str s, _, x, _, _ => by
    cases x
    exact .str s
  | .bytes b, _, x, _, _ => by
    cases x
    have z := Dw.byt (K := K) (H := argH K h A) b.toArray
    exact z
  | .list ds, _, x, p, hu => by
    obtain ⟨a, vs, rfl, ho, hall⟩ := well_list x
    obtain ⟨h2, hs⟩ := argL KX ar hu ho
    exact .lst hs (dw_all KX ar ds _ hall p h2)
  | .tuple ds, _, x, p, hu => by
    obtain ⟨a, vs, rfl, ho, hall⟩ := well_tuple x
    obtain ⟨h2, hs⟩ := argT KX ar hu ho
    exact .tup hs (dw_all KX ar ds _ hall p h2)
  | .float _, _, _, p, _ => Bool.noConfusion (show false = true from p)
  | .dict _, _, _, p, _ => Bool.noConfusion (show false = true from p)
  | .bytearray _, _, _, p, _ => Bool.noConfusion (show false = true from p)
  | .set _, _, _, p, _ => Bool.noConfusion (show false = true from p)
  | .frozenset _, _, _, p, _ => Bool.noConfusion (show false = true from p)
  | .obj _ _, _, _, p, _ => Bool.noConfusion (show false = true from p)
theorem dw_all {Pm : Params} (KX : K.In h) (ar : ∀ a ∈ A, ArgOb h A a) : ∀ (ds : List WData) (vs : List Value), WellAll Pm h vs ds → plWs ds = true → (∀ u ∈ vs, OkU A u) → DwAll K (argH K h A) (vs.map toV) ds
  | [], _, x, _, _ => by
    cases x
    exact .nil
  | d :: ds, _, x, p, hu => by
    obtain ⟨v, vs, rfl, x1, x2⟩ := well_cons x
    have q : plW d = true ∧ plWs ds = true := Bool.and_eq_true_iff.mp p
    exact .cons (dw_one KX ar d v x1 q.1 (hu _ (List.mem_cons_self ..))) (dw_all KX ar ds vs x2 q.2 fun u m => hu u (List.mem_cons_of_mem _ m))
end
end
/-! ### the call -/
theorem spec_call {P : Program} {w : World} {K : PySem.W.Frag} {mg mb : Str → Option Value} {CX : CXT} {k : Nat} {fa : Addr} {fd : FuncData} {ps : List Str} {sp : Sp} {s₁ : Shared} {vals : List Value} {ds : List WData} {R : PySem.W.WRecords} {cl : Str → Option Addr} {d0 : WData}
    (KX : K.In s₁.heap) (hns : s₁.heap.Ns mainGlobals mg) (hb : s₁.heap.Ns builtinsNs mb) (hbb : ∀ x : Str, x ≠ "__name__" → mb x = bootBuiltins x) (hlim : s₁.heap.NoLimit) (hg : s₁.gens = #[])
    (hwl : WellAll w.params s₁.heap vals ds) (hpl : plWs ds = true) (hwt : ∀ d ∈ ds, d.weight ≤ 1048576) (hr : Room k callerA)
    (F : ∀ base : Heap, K.In base → base.Ns mainGlobals mg → FnOk P w K mg base CX k fa fd ps sp) (hbind : ∀ (s : Shared) (us : List Value), us.length = ps.length → BindsTo s fd ⟨us, []⟩ (ps.zip us)) (hlen : ds.length = ps.length)
    (hsp : ∀ (H : Hp) (xs : List V), OnlyF H → DwAll K H xs ds → sp xs H (fun v H' => Dw K H' v d0) fun _ _ _ => False)
    (hCX : ∀ H e s', CX [] H s₁ (fun _ _ _ => False) e s' → False) :
    codeAny (model P w) callerA (.call (.ref fa) ⟨vals, []⟩) (fun r s' => ∃ u as, r = .ok (.ret u) ∧ ReadsW R cl s'.heap u d0 as ∧ OldK s₁.heap s'.heap ∧ s'.os = s₁.os ∧ AllBare s'.gens) s₁ := by
  obtain ⟨A, ho, ar⟩ := area_all ds vals hwl hpl hwt
  have hO : OnlyF (argH K s₁.heap A) := argH_only ar
  have hok : HOk P w (argH K s₁.heap A) s₁.heap := argH_ok ar
  have hS := dw_all KX ar ds vals hwl hpl ho
  have hV := vals_toV ho
  have hK : ∀ b u, argH K s₁.heap A b = some u → K.lookup b = none := fun b u q => (argH_is ar q).1
  have noA : ∀ {b : Addr} {o : Obj} {es : Array DictEntry} {ep : Nat}, s₁.heap.get? b = some o → o.data = .dict es ep → argH K s₁.heap A b = none := fun {b o es ep} e d => by
    cases q : argH K s₁.heap A b with
    | none => rfl
    | some u =>
      obtain ⟨_, vs, _, _, ⟨e2, _⟩ | ⟨e2, _⟩⟩ := argH_is ar q
      · rw [e2] at e
        cases e
        have d' : Data.seq vs.toArray _ = Data.dict es ep := d
        cases d'
      · rw [e2] at e
        cases e
        have d' : Data.seq vs.toArray _ = Data.dict es ep := d
        cases d'
  generalize argH K s₁.heap A = H at hO hok hS hK noA
  have base_of : ∀ {b : Addr} {o : Obj}, s₁.heap.get? b = some o → H b = none → (hidT s₁.heap H).get? b = some o := fun e n => hidT_get e n
  have nsK : ∀ {b : Addr} {m : Str → Option Value}, s₁.heap.Ns b m → (hidT s₁.heap H).Ns b m := fun {b m} ⟨o, es, ep, e, d, r⟩ => ⟨o, es, ep, base_of e (noA e d), d, r⟩
  have nK : ∀ b o, K.lookup b = some o → H b = none := fun b o e => by
    cases q : H b with
    | none => rfl
    | some u =>
      rw [hK b u q] at e
      cases e
  have hKb : K.In (hidT s₁.heap H) := fun b o e => base_of (KX b o e) (nK b o e)
  have hM : Mod K mg (hidT s₁.heap H) := ⟨hKb, nsK hns, ⟨mb, nsK hb, hbb⟩, let ⟨mc, h1, h2⟩ := hlim; ⟨mc, nsK h1, h2⟩⟩
  have e0 : Env0 P w K mg (hidT s₁.heap H) callerA [] s₁ H := ⟨rfl, hM, fun b o e => of_hidT e, Nat.le_of_eq (hidT_size _ _), trivial, fun b hb => absurd (show b ∈ ([] : List Addr) from hb) (by simp), hok, .of_eq hg⟩
  have hl : vals.length = ps.length := by rw [wellAll_len hwl]; exact hlen
  refine codeAny_mono ((F _ hKb (nsK hns)).run callerA [] s₁ H ⟨vals, []⟩ vals (vals.map toV) _ _ hr e0 (hbind s₁ vals hl) hV (hsp H _ hO hS)) fun r s' x => ?_
  cases r with
  | error e => exact (hCX H e s' x).elim
  | ok fl =>
    cases fl with
    | next => exact False.elim x
    | brk => exact False.elim x
    | cont => exact False.elim x
    | ret u =>
      obtain ⟨v, H', os, bare, un, hok', r', q⟩ := x
      have kept : ∀ b o, s₁.heap.get? b = some o → s'.heap.get? b = some o := fun b o e => by
        cases q2 : H b with
        | none => exact un.keep b o e q2 (by intro z; exact absurd (show b ∈ ([] : List Addr) from z) (by simp)) (by simp)
        | some u2 =>
          rcases hO b with z | ⟨ob, u3, z⟩
          · rw [q2] at z
            cases z
          · have z2 := un.frzs b ob _ z
            obtain ⟨e1, _⟩ := hok b _ z
            obtain ⟨e2, _⟩ := hok' b _ z2
            rw [e] at e1
            cases e1
            exact e2
      have KX' : K.In s'.heap := fun b o e => kept b o (KX b o e)
      obtain ⟨as, hrd⟩ := Dw.reads (R := R) (cl := cl) hok' KX' d0 v u q r'
      exact ⟨u, as, rfl, hrd, OldK.of_keep kept, os, bare⟩
/-! ### the row -/
theorem layable_weight {ds : List WData} (h : WData.layableAll ds = true) : ∀ d ∈ ds, d.weight ≤ 1048576 := fun d hd =>
  (PySem.W.layableW_iff.mp (List.all_eq_true.mp h d hd)).2.2
theorem encAll_len : ∀ (cs : List Codec) (a : Codec.denoteAll cs), (Codec.encAll cs a).length = cs.length
  | [], _ => rfl
  | c :: cs, a => by
    show (Codec.encAll cs a.2).length + 1 = cs.length + 1
    rw [encAll_len cs a.2]
/-- the goal that k_headS leaves (case hc), from the promise of the row's def: whatever the arguments that the codecs let and the row asks for, the def gives what stands for enc (f ..) -/
theorem walk_spec {r : OpenSpec} {k : Nat} {q : Program} {loose : List Str} {XP : (Str → Option Value) → Heap → Prop} {YP : World → Heap → Prop} {d : DefRec} {K : Params → PySem.W.Frag} {CX : World → CXT} {ps : List Str} {sp : World → Sp}
    (hwell : r.wellSaid = true) (hdf : d.params.defaults = []) (hlen : r.args.length = ps.length) (hr : Room k callerA)
    (hY : ∀ (w : World) (h : Heap), YP w h → (K w.params).In h)
    (F : ∀ (w : World) (mg : Str → Option Value) (fa : Addr) (h : Heap), YP w h → (K w.params).In h → h.Ns mainGlobals mg → mg d.name = some (.ref fa) →
      ∃ fd : FuncData, (∀ (s : Shared) (us : List Value), us.length = ps.length → BindsTo s fd ⟨us, []⟩ (ps.zip us)) ∧
        ∀ base : Heap, (K w.params).In base → base.Ns mainGlobals mg → FnOk r.prog w (K w.params) mg base (CX w) k fa fd ps (sp w))
    (hsp : ∀ (w : World) (H : Hp) (xs : List V) (a : Codec.denoteAll r.args), OnlyF H → Codec.withinAll r.args a = true → Codec.app r.args r.asked a = true → DwAll (K w.params) H xs (Codec.encAll r.args a) →
      sp w xs H (fun v H' => Dw (K w.params) H' v (r.ret.enc (Codec.app r.args r.f a))) fun _ _ _ => False)
    (hCX : ∀ (w : World) (H : Hp) (s : Shared) (e : Value) (s' : Shared), CX w [] H s (fun _ _ _ => False) e s' → False) :
    PySem.W.WalkOS q loose XP YP r d [] (fun f vs => PySem.call f vs) := by
  intro w s_0 s₁ mg mb G Y fa o pm cd doc dV kV ho hd hcd hD hmg hg args vals as hpre hlay hrd hwl hlo
  obtain ⟨a, e1, e2⟩ := PySem.W.os_pre_some hpre
  obtain ⟨e3, hwi⟩ := Codec.encAll_of_decAll r.args args a e1
  subst e3
  have KX := hY w _ Y
  obtain ⟨fd, hb, hF⟩ := F w mg fa _ Y KX G.T.g hmg
  refine PySem.W.enter_call (codeAny_mono (spec_call (R := []) (cl := classAt s_0.heap) (d0 := r.ret.enc (Codec.app r.args r.f a)) KX G.T.g G.T.b G.T.builtins G.T.nolimit hg hwl (pl_encAll _ _) (layable_weight hlay) hr hF hb (by rw [encAll_len]; exact hlen)
    (fun H xs hO hS => hsp w H xs a hO hwi e2 hS) fun H e s' => hCX w H s₁ e s') fun r' s' hq => ?_)
  obtain ⟨u, as', rfl, h1, h2, h3, h4⟩ := hq
  exact ⟨.inl ⟨u, _, as', rfl, fun _ => rfl, h1, (OpenSpec.post_iff hwell hwi _ _).mpr rfl, fun z => Bool.noConfusion (show false = true from z)⟩, h2, h3, h4⟩
/-- the same where the promise hangs on the written part alone -/
theorem walk_specK {r : OpenSpec} {k : Nat} {q : Program} {loose : List Str} {XP : (Str → Option Value) → Heap → Prop} {YP : World → Heap → Prop} {d : DefRec} {K : Params → PySem.W.Frag} {CX : CXT} {ps : List Str} {sp : PySem.W.Frag → Sp}
    (hwell : r.wellSaid = true) (hdf : d.params.defaults = []) (hlen : r.args.length = ps.length) (hr : Room k callerA)
    (hY : ∀ (w : World) (h : Heap), YP w h → (K w.params).In h)
    (F : ∀ (w : World) (mg : Str → Option Value) (fa : Addr) (h : Heap), YP w h → (K w.params).In h → h.Ns mainGlobals mg → mg d.name = some (.ref fa) →
      ∃ fd : FuncData, (∀ (s : Shared) (us : List Value), us.length = ps.length → BindsTo s fd ⟨us, []⟩ (ps.zip us)) ∧
        ∀ base : Heap, (K w.params).In base → base.Ns mainGlobals mg → FnOk r.prog w (K w.params) mg base CX k fa fd ps (sp (K w.params)))
    (hsp : ∀ (K : PySem.W.Frag) (H : Hp) (xs : List V) (a : Codec.denoteAll r.args), OnlyF H → Codec.withinAll r.args a = true → Codec.app r.args r.asked a = true → DwAll K H xs (Codec.encAll r.args a) →
      sp K xs H (fun v H' => Dw K H' v (r.ret.enc (Codec.app r.args r.f a))) fun _ _ _ => False)
    (hCX : ∀ (H : Hp) (s : Shared) (e : Value) (s' : Shared), CX [] H s (fun _ _ _ => False) e s' → False) :
    PySem.W.WalkOS q loose XP YP r d [] (fun f vs => PySem.call f vs) :=
  walk_spec (K := K) (CX := fun _ => CX) (sp := fun w => sp (K w.params)) hwell hdf hlen hr hY F (fun w H xs a h1 h2 h3 h4 => hsp (K w.params) H xs a h1 h2 h3 h4) fun _ H s e s' => hCX H s e s'
end L2
-- TRMath
section
set_option Elab.async false
namespace TR
open Vamrqj

/-! ### the calls of a line -/
def enc : Call → List Int
  | .policy a b c d e => [0, a, b, c, d, e]
  | .tests n => [1, n]
  | .tell x v bits => 2 :: x :: v :: (bits.length : Int) :: bits
  | .outcome x v k => [3, x, v, k]
  | .dry x v => [4, x, v]
  | .run x v => [5, x, v]
  | .check v => [6, v]
  | .history x => [7, x]
  | .score x => [8, x]
  | .held => [9]
  | .hold x on => [10, x, on]
  | .odds a q => [11, a, q]
def fits : Call → Prop
  | .tell _ _ bits => bits.length ≤ 20
  | _ => True
theorem calls_cons {f : Nat} {p : Int} {r : List Int} {cs : List (List (List Int))} (h : PyFlat.calls PyVamrqj.shape f (p :: r) = some cs) :
    ∃ f' c t cs', PyFlat.call PyVamrqj.shape (p :: r) = some (c, t) ∧ PyFlat.calls PyVamrqj.shape f' t = some cs' ∧ cs = c :: cs' := by
  cases f with
  | zero => simp [PyFlat.calls] at h
  | succ f =>
    unfold PyFlat.calls at h
    split at h
    · cases h
    · rename_i c t e
      split at h
      · cases h
      · rename_i cs' e'
        exact ⟨f, c, t, cs', e, e', (Option.some.inj h).symm⟩

theorem one_more {n : Nat} : ∀ {r : List Int}, ¬ r.length < n + 1 → ∃ a r', r = a :: r' ∧ ¬ r'.length < n := fun {r} h => by
  cases r with
  | nil => exact absurd (Nat.succ_pos n) h
  | cons a r => exact ⟨a, r, rfl, fun z => h (Nat.succ_lt_succ z)⟩
set_option maxHeartbeats 4000000 in
theorem call_form {p : Int} {r t : List Int} {c : List (List Int)} (h : PyFlat.call PyVamrqj.shape (p :: r) = some (c, t)) :
    ∃ k, p :: r = enc k ++ t ∧ VamrqjNeutral.callOf c = some k ∧ PyVamrqj.whole c = c ∧ (VamrqjNeutral.asked1 c = true → fits k) := by
  simp only [PyFlat.call] at h
  split at h
  · cases h
  rename_i n k hs
  unfold PyVamrqj.shape at hs
  split at h
  · cases h
  rename_i hlen
  split at h
  · cases h
  rename_i xs t' hrows
  obtain ⟨h1, h2⟩ := Prod.mk.inj (Option.some.inj h)
  subst h1 h2
  clear h
  split at hs
  · rename_i e
    obtain ⟨rfl, rfl⟩ := Prod.mk.inj (Option.some.inj hs)
    subst e
    obtain ⟨a, r1, e1, hl1⟩ := one_more hlen
    subst e1
    obtain ⟨b, r2, e2, hl2⟩ := one_more hl1
    subst e2
    obtain ⟨c, r3, e3, hl3⟩ := one_more hl2
    subst e3
    obtain ⟨d, r4, e4, hl4⟩ := one_more hl3
    subst e4
    obtain ⟨e, r5, e5, hl5⟩ := one_more hl4
    subst e5
    obtain ⟨h1, h2⟩ := Prod.mk.inj (Option.some.inj hrows)
    subst h1 h2
    exact ⟨.policy a b c d e, rfl, rfl, rfl, fun _ => trivial⟩
  split at hs
  · rename_i e
    obtain ⟨rfl, rfl⟩ := Prod.mk.inj (Option.some.inj hs)
    subst e
    obtain ⟨a, r1, e1, hl1⟩ := one_more hlen
    subst e1
    obtain ⟨h1, h2⟩ := Prod.mk.inj (Option.some.inj hrows)
    subst h1 h2
    exact ⟨.tests a, rfl, rfl, rfl, fun _ => trivial⟩
  split at hs
  · rename_i e
    obtain ⟨rfl, rfl⟩ := Prod.mk.inj (Option.some.inj hs)
    subst e
    obtain ⟨a, r1, e1, hl1⟩ := one_more hlen
    subst e1
    obtain ⟨b, r2, e2, hl2⟩ := one_more hl1
    subst e2
    have hrows : PyFlat.rows 1 r2 = some (xs, t') := hrows
    unfold PyFlat.rows at hrows
    split at hrows
    · cases hrows
    rename_i x s hrow
    have hrows : some ([x], s) = some (xs, t') := hrows
    obtain ⟨h1, h2⟩ := Prod.mk.inj (Option.some.inj hrows)
    subst h1 h2
    cases r2 with
    | nil => cases hrow
    | cons n r =>
      have hrow : (if 0 ≤ n ∧ n.toNat ≤ r.length then some (r.take n.toNat, r.drop n.toNat) else none) = some (x, s) := hrow
      by_cases hn : 0 ≤ n ∧ n.toNat ≤ r.length
      · rw [if_pos hn] at hrow
        obtain ⟨h1, h2⟩ := Prod.mk.inj (Option.some.inj hrow)
        subst h1 h2
        have hl : (r.take n.toNat).length = n.toNat := by rw [List.length_take]; omega
        refine ⟨.tell a b (r.take n.toNat), ?_, rfl, rfl, fun ha => ?_⟩
        · show (2 : Int) :: a :: b :: n :: r = 2 :: a :: b :: (((r.take n.toNat).length : Nat) : Int) :: (r.take n.toNat ++ r.drop n.toNat)
          rw [List.take_append_drop, hl, Int.toNat_of_nonneg hn.1]
        · have ha : (VamrqjNeutral.whole60 a && (VamrqjNeutral.whole60 b && ((r.take n.toNat).all (fun (z : Int) => VamrqjNeutral.whole60 z) && decide ((r.take n.toNat).length ≤ 20)))) = true := ha
          rw [Bool.and_eq_true, Bool.and_eq_true, Bool.and_eq_true] at ha
          have hb : (r.take n.toNat).length ≤ 20 := of_decide_eq_true ha.2.2.2
          exact hb
      · rw [if_neg hn] at hrow
        cases hrow
  split at hs
  · rename_i e
    obtain ⟨rfl, rfl⟩ := Prod.mk.inj (Option.some.inj hs)
    subst e
    obtain ⟨a, r1, e1, hl1⟩ := one_more hlen
    subst e1
    obtain ⟨b, r2, e2, hl2⟩ := one_more hl1
    subst e2
    obtain ⟨c, r3, e3, hl3⟩ := one_more hl2
    subst e3
    obtain ⟨h1, h2⟩ := Prod.mk.inj (Option.some.inj hrows)
    subst h1 h2
    exact ⟨.outcome a b c, rfl, rfl, rfl, fun _ => trivial⟩
  split at hs
  · rename_i e
    obtain ⟨rfl, rfl⟩ := Prod.mk.inj (Option.some.inj hs)
    subst e
    obtain ⟨a, r1, e1, hl1⟩ := one_more hlen
    subst e1
    obtain ⟨b, r2, e2, hl2⟩ := one_more hl1
    subst e2
    obtain ⟨h1, h2⟩ := Prod.mk.inj (Option.some.inj hrows)
    subst h1 h2
    exact ⟨.dry a b, rfl, rfl, rfl, fun _ => trivial⟩
  split at hs
  · rename_i e
    obtain ⟨rfl, rfl⟩ := Prod.mk.inj (Option.some.inj hs)
    subst e
    obtain ⟨a, r1, e1, hl1⟩ := one_more hlen
    subst e1
    obtain ⟨b, r2, e2, hl2⟩ := one_more hl1
    subst e2
    obtain ⟨h1, h2⟩ := Prod.mk.inj (Option.some.inj hrows)
    subst h1 h2
    exact ⟨.run a b, rfl, rfl, rfl, fun _ => trivial⟩
  split at hs
  · rename_i e
    obtain ⟨rfl, rfl⟩ := Prod.mk.inj (Option.some.inj hs)
    subst e
    obtain ⟨a, r1, e1, hl1⟩ := one_more hlen
    subst e1
    obtain ⟨h1, h2⟩ := Prod.mk.inj (Option.some.inj hrows)
    subst h1 h2
    exact ⟨.check a, rfl, rfl, rfl, fun _ => trivial⟩
  split at hs
  · rename_i e
    obtain ⟨rfl, rfl⟩ := Prod.mk.inj (Option.some.inj hs)
    subst e
    obtain ⟨a, r1, e1, hl1⟩ := one_more hlen
    subst e1
    obtain ⟨h1, h2⟩ := Prod.mk.inj (Option.some.inj hrows)
    subst h1 h2
    exact ⟨.history a, rfl, rfl, rfl, fun _ => trivial⟩
  split at hs
  · rename_i e
    obtain ⟨rfl, rfl⟩ := Prod.mk.inj (Option.some.inj hs)
    subst e
    obtain ⟨a, r1, e1, hl1⟩ := one_more hlen
    subst e1
    obtain ⟨h1, h2⟩ := Prod.mk.inj (Option.some.inj hrows)
    subst h1 h2
    exact ⟨.score a, rfl, rfl, rfl, fun _ => trivial⟩
  split at hs
  · rename_i e
    obtain ⟨rfl, rfl⟩ := Prod.mk.inj (Option.some.inj hs)
    subst e
    obtain ⟨h1, h2⟩ := Prod.mk.inj (Option.some.inj hrows)
    subst h1 h2
    exact ⟨.held, rfl, rfl, rfl, fun _ => trivial⟩
  split at hs
  · rename_i e
    obtain ⟨rfl, rfl⟩ := Prod.mk.inj (Option.some.inj hs)
    subst e
    obtain ⟨a, r1, e1, hl1⟩ := one_more hlen
    subst e1
    obtain ⟨b, r2, e2, hl2⟩ := one_more hl1
    subst e2
    obtain ⟨h1, h2⟩ := Prod.mk.inj (Option.some.inj hrows)
    subst h1 h2
    exact ⟨.hold a b, rfl, rfl, rfl, fun _ => trivial⟩
  split at hs
  · rename_i e
    obtain ⟨rfl, rfl⟩ := Prod.mk.inj (Option.some.inj hs)
    subst e
    obtain ⟨a, r1, e1, hl1⟩ := one_more hlen
    subst e1
    obtain ⟨b, r2, e2, hl2⟩ := one_more hl1
    subst e2
    obtain ⟨h1, h2⟩ := Prod.mk.inj (Option.some.inj hrows)
    subst h1 h2
    exact ⟨.odds a b, rfl, rfl, rfl, fun _ => trivial⟩
  · cases hs
theorem map_whole : ∀ {f : Nat} {l : List Int} {cs : List (List (List Int))}, PyFlat.calls PyVamrqj.shape f l = some cs → cs.map PyVamrqj.whole = cs
  | f, [], cs, h => by
    have : cs = [] := by
      cases f <;> exact (Option.some.inj h).symm
    subst this
    rfl
  | 0, p :: r, cs, h => by cases h
  | f + 1, p :: r, cs, h => by
    unfold PyFlat.calls at h
    split at h
    · cases h
    · rename_i c t e
      split at h
      · cases h
      · rename_i cs' e'
        have := Option.some.inj h
        subst this
        obtain ⟨_, _, _, ew, _⟩ := call_form e
        rw [List.map_cons, ew, map_whole e']

/-- what is left of a line: the numbers behind the place, the state, how many calls are left, what is still due -/
def Left (l : List Int) (s : State) (n : Nat) (due : List Int) : Prop :=
  ∃ f cs, PyFlat.calls PyVamrqj.shape f l = some cs ∧ cs.all VamrqjNeutral.asked1 = true ∧ cs.length ≤ n ∧ due = PyFlat.told (PyFlat.played VamrqjNeutral.step s cs)
theorem Left.start {l : List Int} (h : PyVamrqj.answers_asked l = true) : Left l Vamrqj.start 400 (PyVamrqj.answers l) := by
  unfold PyVamrqj.answers_asked PyVamrqj.calls at h
  unfold PyVamrqj.answers PyVamrqj.calls
  split at h
  · cases h
  rename_i cs e
  split at e
  · cases e
  rename_i cs' e'
  have e2 := Option.some.inj e
  rw [map_whole e'] at e2
  subst e2
  simp [PyFlat.atMost, VamrqjNeutral.asked] at h
  exact ⟨_, cs', e', by simpa using h.2.1, h.1, rfl⟩
theorem Left.nil {s : State} {n : Nat} {due : List Int} (h : Left [] s n due) : due = [] := by
  obtain ⟨f, cs, h1, _, _, h4⟩ := h
  have : cs = [] := by
    cases f <;> simp [PyFlat.calls] at h1 <;> exact h1
  subst this
  rw [h4]
  rfl
theorem Left.cons {p : Int} {r : List Int} {s : State} {n : Nat} {due : List Int} (h : Left (p :: r) s n due) :
    ∃ k t, p :: r = enc k ++ t ∧ fits k ∧ 0 < n ∧ ∃ rest, due = ((VamrqjNeutral.encode (Vamrqj.step s k).2).length : Int) :: (VamrqjNeutral.encode (Vamrqj.step s k).2 ++ rest) ∧ Left t (Vamrqj.step s k).1 (n - 1) rest := by
  obtain ⟨f, cs, h1, h2, h3, h4⟩ := h
  obtain ⟨f', c, t, cs', e1, e2, rfl⟩ := calls_cons h1
  rw [List.all_cons, Bool.and_eq_true] at h2
  obtain ⟨k, e3, e4, _, e5⟩ := call_form e1
  have e5 := e5 h2.1
  simp only [List.length_cons] at h3
  refine ⟨k, t, e3, e5, by omega, PyFlat.told (PyFlat.played VamrqjNeutral.step (Vamrqj.step s k).1 cs'), ?_, f', cs', e2, h2.2, by omega, rfl⟩
  rw [h4]
  simp [PyFlat.played, VamrqjNeutral.step, e4, PyFlat.told]
end TR
end
-- TRMath2
section
set_option Elab.async false
namespace TR
open Vamrqj

/-! ### what always holds -/
structure PolOk (p : Policy) : Prop where
  n1 : 1 ≤ p.need
  nm : p.need ≤ p.most
  m9 : p.most ≤ 9
  l1 : 1 ≤ p.limit
  lw : p.limit ≤ p.window
  w20 : p.window ≤ 20
  c1 : 1 ≤ p.calm
  c20 : p.calm ≤ 20
def key (t : Told) : Nat × Nat := (t.test, t.rev)
structure OraOk (o : Oracle) : Prop where
  nd : (o.map key).Nodup
  len : o.length ≤ 40
  bits : ∀ t ∈ o, 1 ≤ t.bits.length ∧ t.bits.length ≤ 12
structure TestOk (t : Test) : Prop where
  runs : t.runs.length ≤ 64
  since : t.since ≤ 64
structure Wf (s : State) : Prop where
  pol : PolOk s.policy
  ora : OraOk s.oracle
  few : s.tests.length ≤ 12
  each : ∀ t ∈ s.tests, TestOk t

theorem wf_start : Wf Vamrqj.start := by
  refine ⟨⟨?_, ?_, ?_, ?_, ?_, ?_, ?_, ?_⟩, ⟨?_, ?_, ?_⟩, ?_, ?_⟩ <;> simp [Vamrqj.start]
theorem after_ok {p : Policy} {t : Test} (k : Kept) : TestOk (t.after p k) := by
  have h1 : ((k :: t.runs).take MEMORY).length ≤ 64 := by rw [List.length_take]; exact Nat.min_le_left _ _
  unfold Test.after
  simp only
  split
  · exact ⟨h1, by simp⟩
  · split
    · exact ⟨h1, by simp⟩
    · exact ⟨h1, Nat.min_le_right _ _⟩
theorem mem_set_of {α : Type} {l : List α} {i : Nat} {a x : α} (h : x ∈ l.set i a) : x = a ∨ x ∈ l := by
  have := List.mem_or_eq_of_mem_set h
  exact this.symm
theorem wf_ran {s : State} (h : Wf s) (x v : Nat) : Wf (s.ran x v) := by
  refine ⟨h.pol, h.ora, ?_, fun t ht => ?_⟩
  · show (s.tests.set _ _).length ≤ 12
    rw [List.length_set]; exact h.few
  · rcases mem_set_of ht with rfl | ht
    · exact after_ok _
    · exact h.each t ht
theorem wf_ranAll {v : Nat} : ∀ (l : List Nat) {s : State}, Wf s → Wf (s.ranAll v l)
  | [], _, h => h
  | x :: r, _, h => wf_ranAll r (wf_ran h x v)
theorem len_ran (s : State) (x v : Nat) : (s.ran x v).tests.length = s.tests.length := by
  show (s.tests.set _ _).length = _
  rw [List.length_set]

/-! ### what is told -/
def isKey (x v : Nat) (t : Told) : Bool := decide (t.test = x) && decide (t.rev = v)
theorem isKey_iff {x v : Nat} {t : Told} : isKey x v t = true ↔ key t = (x, v) := by
  unfold isKey key
  simp
def others (o : Oracle) (x v : Nat) : Oracle := o.filter fun t => !isKey x v t
theorem others_none {o : Oracle} {x v : Nat} (h : o.find? (isKey x v) = none) : others o x v = o := by
  unfold others
  rw [List.filter_eq_self]
  intro t ht
  have := List.find?_eq_none.mp h t ht
  simpa using this
theorem others_len : ∀ {o : Oracle} {x v : Nat} {t : Told}, (o.map key).Nodup → o.find? (isKey x v) = some t → (others o x v).length + 1 = o.length
  | [], x, v, t, _, h => by simp at h
  | u :: r, x, v, t, hn, h => by
    rw [List.map_cons, List.nodup_cons] at hn
    unfold others
    rw [List.filter_cons]
    by_cases hk : isKey x v u = true
    · rw [hk]
      simp only [Bool.not_true, Bool.false_eq_true, if_false, List.length_cons]
      have e : r.find? (isKey x v) = none := by
        rw [List.find?_eq_none]
        intro y hy hy2
        refine hn.1 ?_
        rw [isKey_iff.mp hk, ← isKey_iff.mp hy2]
        exact List.mem_map_of_mem hy
      have := others_none e
      unfold others at this
      rw [this]
    · have hk : isKey x v u = false := by simpa using hk
      rw [List.find?_cons, hk] at h
      have := others_len hn.2 h
      unfold others at this
      rw [hk]
      simp only [Bool.not_false, if_true, List.length_cons]
      omega
theorem find_told {o : Oracle} {x v x' v' : Nat} (b : List Bool) : (others o x v ++ [(⟨x, v, b⟩ : Told)]).find? (isKey x' v') = if x' = x ∧ v' = v then some ⟨x, v, b⟩ else o.find? (isKey x' v') := by
  rw [List.find?_append]
  by_cases h : x' = x ∧ v' = v
  · obtain ⟨rfl, rfl⟩ := h
    rw [if_pos ⟨rfl, rfl⟩]
    have e : (others o x' v').find? (isKey x' v') = none := by
      rw [List.find?_eq_none]
      intro t ht
      have := (List.mem_filter.mp ht).2
      simpa using this
    rw [e]
    simp [isKey]
  · rw [if_neg h]
    have e1 : List.find? (isKey x' v') [(⟨x, v, b⟩ : Told)] = none := by
      rw [List.find?_eq_none]
      intro t ht
      rw [List.mem_singleton] at ht
      subst ht
      simp only [isKey, Bool.and_eq_true, decide_eq_true_eq]
      exact fun q => h ⟨q.1.symm, q.2.symm⟩
    rw [e1, Option.or_none]
    unfold others
    rw [List.find?_filter]
    congr 1
    funext t
    by_cases hk : isKey x' v' t = true
    · have hk2 := isKey_iff.mp hk
      have : isKey x v t = false := by
        cases q : isKey x v t with
        | false => rfl
        | true =>
          have := isKey_iff.mp q
          rw [hk2] at this
          exact absurd ⟨(Prod.mk.inj this).1, (Prod.mk.inj this).2⟩ h
      simp [hk, this]
    · simp [hk]
theorem nodup_snoc {α : Type} {l : List α} {a : α} (h : l.Nodup) (ha : a ∉ l) : (l ++ [a]).Nodup := by
  rw [List.nodup_append]
  refine ⟨h, by simp, fun x hx y hy => ?_⟩
  rw [List.mem_singleton] at hy
  subst hy
  intro e
  subst e
  exact ha hx
theorem ora_told {o : Oracle} (h : OraOk o) {x v : Nat} {b : List Bool} (h1 : 1 ≤ b.length) (h2 : b.length ≤ 12) (h3 : (others o x v).length < 40) : OraOk (others o x v ++ [⟨x, v, b⟩]) := by
  refine ⟨?_, by rw [List.length_append, List.length_singleton]; omega, fun t ht => ?_⟩
  · rw [List.map_append]
    refine nodup_snoc ?_ ?_
    · exact List.Nodup.sublist (List.Sublist.map _ List.filter_sublist) h.nd
    · intro m
      obtain ⟨t, ht, e⟩ := List.mem_map.mp m
      have := (List.mem_filter.mp ht).2
      have q : isKey x v t = true := isKey_iff.mpr e
      rw [q] at this
      cases this
  · rcases List.mem_append.mp ht with ht | ht
    · exact h.bits t (List.mem_filter.mp ht).1
    · rw [List.mem_singleton] at ht
      subst ht
      exact ⟨h1, h2⟩
/-- the outcomes that a try reads, and where it reads -/
def toldBits (o : Oracle) (x v : Nat) : List Bool := match o.find? (isKey x v) with
  | none => [true]
  | some t => t.bits
theorem outcome_eq (o : Oracle) (x v k : Nat) : Vamrqj.outcome o x v k = (toldBits o x v).getD (k % (toldBits o x v).length) true := by
  unfold Vamrqj.outcome toldBits
  show (match o.find? (isKey x v) with | none => true | some t => t.bits.getD (k % t.bits.length) true) = _
  cases o.find? (isKey x v) with
  | none => simp [Nat.mod_one]
  | some t => rfl
theorem toldBits_pos {o : Oracle} (h : OraOk o) (x v : Nat) : 1 ≤ (toldBits o x v).length ∧ (toldBits o x v).length ≤ 12 := by
  unfold toldBits
  split
  · simp
  · rename_i t e
    exact h.bits t (List.mem_of_find?_eq_some e)

/-! ### a run, try by try -/
section
variable {p : Policy} {o : Oracle} {x v : Nat}
def runAt (p : Policy) (o : Oracle) (x v a b : Nat) : Run := runFrom p o x v (p.most + 1 - (a + b)) a b
theorem runAt_zero : runAt p o x v 0 0 = runOf p o x v := rfl
theorem one_less {m c d : Nat} (h : c ≤ m) (hd : d = c + 1) : m + 1 - c = (m + 1 - d) + 1 := by subst hd; omega
theorem tries_left {a b n m : Nat} (h1 : a < n) (h2 : b + n ≤ m) : a + b ≤ m := Nat.le_trans (Nat.le_trans (Nat.le_of_eq (Nat.add_comm a b)) (Nat.add_le_add_left (Nat.le_of_lt h1) b)) h2
theorem runAt_pass {a b : Nat} (h1 : a < p.need) (h2 : b + p.need ≤ p.most) (h : Vamrqj.outcome o x v (a + b) = true) : runAt p o x v a b = runAt p o x v (a + 1) b := by
  unfold runAt
  have e : p.most + 1 - (a + b) = (p.most + 1 - (a + 1 + b)) + 1 := one_less (tries_left h1 h2) (Nat.add_right_comm a 1 b)
  rw [e, runFrom, if_neg (Nat.not_le.mpr h1), if_neg (Nat.not_lt.mpr h2), if_pos h]
theorem runAt_fail {a b : Nat} (h1 : a < p.need) (h2 : b + p.need ≤ p.most) (h : Vamrqj.outcome o x v (a + b) = false) : runAt p o x v a b = runAt p o x v a (b + 1) := by
  unfold runAt
  have e : p.most + 1 - (a + b) = (p.most + 1 - (a + (b + 1))) + 1 := one_less (tries_left h1 h2) rfl
  rw [e, runFrom, if_neg (Nat.not_le.mpr h1), if_neg (Nat.not_lt.mpr h2), if_neg (by rw [h]; decide)]
theorem runAt_end {a b : Nat} (h : p.need ≤ a ∨ p.most < b + p.need) : runAt p o x v a b = ⟨decide (p.need ≤ a), a, b⟩ := by
  unfold runAt
  cases p.most + 1 - (a + b) with
  | zero => rfl
  | succ f =>
    rw [runFrom]
    by_cases h1 : p.need ≤ a
    · rw [if_pos h1, decide_eq_true h1]
    · rw [if_neg h1, if_pos (h.resolve_left h1), decide_eq_false h1]
end
theorem getD_set_self {α : Type} {l : List α} {i : Nat} {a d : α} (h : i < l.length) : (l.set i a).getD i d = a := by
  rw [List.getD_eq_getElem?_getD, List.getElem?_set_self h]
  rfl
theorem getD_set_ne {α : Type} {l : List α} {i j : Nat} {a d : α} (h : i ≠ j) : (l.set i a).getD j d = l.getD j d := by
  rw [List.getD_eq_getElem?_getD, List.getD_eq_getElem?_getD, List.getElem?_set_ne h]

/-! ### every call keeps it, and answers shortly -/
theorem goodPol {n m w l c : Int} (h : goodPolicy n m w l c = true) : 1 ≤ n ∧ n ≤ m ∧ m ≤ 9 ∧ 1 ≤ l ∧ l ≤ w ∧ w ≤ 20 ∧ 1 ≤ c ∧ c ≤ 20 := by
  unfold goodPolicy at h
  simpa using h
theorem tn_lo {c : Nat} {i : Int} (h : (c : Int) ≤ i) : c ≤ i.toNat := by omega
theorem tn_hi {c : Nat} {i : Int} (h : i ≤ (c : Int)) : i.toNat ≤ c := by omega
theorem tn_le {i j : Int} (h : i ≤ j) : i.toNat ≤ j.toNat := by omega
theorem wf_step {s : State} (h : Wf s) (c : Call) : Wf (Vamrqj.step s c).1 := by
  have ask : ∀ (x v : Int) (f : Nat → Nat → State × Answer), (∀ a b, Wf (f a b).1) → Wf (asked s x v f).1 := fun x v f hf => by
    unfold asked
    split
    · exact hf _ _
    · exact h
  cases c with
  | policy n m w l c =>
    simp only [Vamrqj.step]
    split
    · exact h
    · rename_i e
      have e := goodPol (by simpa using e)
      obtain ⟨g1, g2, g3, g4, g5, g6, g7, g8⟩ := e
      exact ⟨⟨tn_lo g1, tn_le g2, tn_hi g3, tn_lo g4, tn_le g5, tn_hi g6, tn_lo g7, tn_hi g8⟩, h.ora, h.few, h.each⟩
  | tests n =>
    simp only [Vamrqj.step]
    split
    · exact h
    · rename_i e
      simp only [MOSTTESTS] at e
      refine ⟨h.pol, ⟨by simp, by simp, by simp⟩, ?_, fun t ht => ?_⟩
      · simp only [List.length_replicate]; omega
      · have := List.eq_of_mem_replicate ht
        subst this
        exact ⟨by simp [fresh], by simp [fresh]⟩
  | tell x v b =>
    simp only [Vamrqj.step]
    refine ask _ _ _ fun x v => ?_
    unfold telling
    split
    · exact h
    · rename_i e
      simp only
      split
      · exact h
      · rename_i e2
        refine ⟨h.pol, ora_told (b := b.map fun b => decide (b = 1)) h.ora ?_ ?_ (Nat.not_le.mp e2), h.few, h.each⟩
        · cases b with
          | nil => simp at e
          | cons _ _ => simp
        · rw [List.length_map]
          simp only [BITS, Bool.or_eq_true, decide_eq_true_eq, not_or] at e
          exact Nat.not_lt.mp fun q => e.2.1 (decide_eq_true q)
  | outcome x v k =>
    simp only [Vamrqj.step]
    refine ask _ _ _ fun x v => ?_
    split <;> exact h
  | dry x v => exact ask _ _ _ fun x v => h
  | run x v => exact ask _ _ _ fun x v => wf_ran h x v
  | check v =>
    simp only [Vamrqj.step, checking]
    split
    · exact h
    · exact wf_ranAll _ h
  | history x => exact ask _ _ _ fun x v => h
  | score x => exact ask _ _ _ fun x v => h
  | held => exact h
  | hold x on =>
    refine ask _ _ _ fun x v => ?_
    simp only
    split
    · exact h
    · split
      · exact h
      · refine ⟨h.pol, h.ora, ?_, fun t ht => ?_⟩
        · simp only [List.length_set]; exact h.few
        · rcases mem_set_of ht with rfl | ht
          · refine ⟨?_, by simp⟩
            show (s.test x).runs.length ≤ 64
            unfold State.test
            rw [List.getD_eq_getElem?_getD]
            cases q : s.tests[x]? with
            | none => simp [fresh]
            | some t => exact (h.each t (List.mem_of_getElem? q)).runs
          · exact h.each t ht
  | odds a q =>
    simp only [Vamrqj.step]
    split <;> exact h
theorem test_ok {s : State} (h : Wf s) (x : Nat) : TestOk (s.test x) := by
  unfold State.test
  rw [List.getD_eq_getElem?_getD]
  cases q : s.tests[x]? with
  | none => exact ⟨by simp [fresh], by simp [fresh]⟩
  | some t => exact h.each t (List.mem_of_getElem? q)
theorem keptTold_len (k : Kept) : (keptTold k).length = 5 := rfl
theorem flat5 : ∀ (l : List Kept), (l.flatMap keptTold).length = 5 * l.length
  | [] => rfl
  | k :: r => by
    rw [List.flatMap_cons, List.length_append, flat5 r, keptTold_len, List.length_cons]
    omega
theorem ans_len {s : State} (h : Wf s) (c : Call) : (VamrqjNeutral.encode (Vamrqj.step s c).2).length ≤ 400 := by
  have ask : ∀ (x v : Int) (f : Nat → Nat → State × Answer), (∀ a b, (VamrqjNeutral.encode (f a b).2).length ≤ 400) → (VamrqjNeutral.encode (asked s x v f).2).length ≤ 400 := fun x v f hf => by
    unfold asked
    split
    · exact hf _ _
    · simp [VamrqjNeutral.encode]
  have few := h.few
  have fl : ∀ f : Nat → Bool, ((List.range s.tests.length).filter f).length ≤ 12 := fun f => by
    have := List.length_filter_le f (List.range s.tests.length)
    rw [List.length_range] at this
    omega
  cases c with
  | policy n m w l c =>
    simp only [Vamrqj.step]
    split <;> simp [VamrqjNeutral.encode]
  | tests n =>
    simp only [Vamrqj.step]
    split <;> simp [VamrqjNeutral.encode]
  | tell x v b =>
    refine ask _ _ _ fun x v => ?_
    simp only [telling]
    split
    · simp [VamrqjNeutral.encode]
    · split <;> simp [VamrqjNeutral.encode]
  | outcome x v k =>
    refine ask _ _ _ fun x v => ?_
    split <;> simp [VamrqjNeutral.encode]
  | dry x v => exact ask _ _ _ fun x v => by simp [VamrqjNeutral.encode, runTold]
  | run x v => exact ask _ _ _ fun x v => by simp [VamrqjNeutral.encode, runTold]
  | check v =>
    simp only [Vamrqj.step, checking]
    split
    · simp [VamrqjNeutral.encode]
    · have h1 := fl fun x => ((s.test x).held == false) && !(runOf s.policy s.oracle x v.toNat).passed
      have h2 := fl fun x => ((s.test x).held == true) && !(runOf s.policy s.oracle x v.toNat).passed
      simp only [VamrqjNeutral.encode, listed, failing, List.length_append, List.length_cons, List.length_map, List.length_nil]
      omega
  | history x =>
    refine ask _ _ _ fun x v => ?_
    have := (test_ok h x).runs
    simp only [VamrqjNeutral.encode, List.length_cons, flat5]
    omega
  | score x => exact ask _ _ _ fun x v => by simp [VamrqjNeutral.encode]
  | held =>
    have h1 := fl fun x => (s.test x).held
    simp only [Vamrqj.step, VamrqjNeutral.encode, listed, List.length_cons, List.length_map]
    omega
  | hold x on =>
    refine ask _ _ _ fun x v => ?_
    simp only
    split
    · simp [VamrqjNeutral.encode]
    · split <;> simp [VamrqjNeutral.encode]
  | odds a q =>
    simp only [Vamrqj.step]
    split <;> simp [VamrqjNeutral.encode]
/-! ### sums of small numbers -/
theorem ar1 {L i e t : Nat} (h : L - i = e + t) (hi : i < L) : i + e ≤ L := by omega
theorem ar2 {o n e : Nat} (h1 : o ≤ 500 * (400 - n)) (h0 : 0 < n) (hn : n ≤ 400) (he : e ≤ 400) : o + (e + 1) ≤ 500 * (400 - (n - 1)) := by omega
theorem ar3 {o n : Nat} (h1 : o ≤ 500 * (400 - n)) : o + 401 ≤ 250000 := by omega
theorem ar4 {x y : Nat} (hx : x ≤ 12) (hy : y ≤ 12) : 3 + x + 1 + y ≤ 100 := by omega
theorem ar5 {o e : Nat} (h : o + 401 ≤ 250000) (he : e ≤ 400) : o + 1 + e ≤ 250000 := by omega
theorem sm62 {n : Nat} (h : n ≤ 100) : -(2 ^ 62) ≤ (n : Int) ∧ (n : Int) < 2 ^ 62 := by omega
theorem sm64 {x q : Nat} (hx : x ≤ q) (hq : q ≤ 1000) : (-(2 ^ 64) < (q : Int) - (x : Int) ∧ (q : Int) - (x : Int) < 2 ^ 64) ∧ (-(2 ^ 64) < (x : Int) ∧ (x : Int) < 2 ^ 64) := by omega
theorem mr1 {i j n m : Nat} (h : ((i + j : Nat) : Int) - (i : Int) ≤ (m : Int) - (n : Int)) : j + n ≤ m := by omega
theorem mr2 {m s s' : Nat} (e : s' = s + 1) (h : s ≤ m) : m + 1 - s' < m + 1 - s := by omega
theorem mr3 {i j n m : Nat} (h : ¬ ((i + j : Nat) : Int) - (i : Int) ≤ (m : Int) - (n : Int)) : m < j + n := by omega
end TR
end
-- TRMath3
section
set_option Elab.async false
namespace TR
open Vamrqj

/-! ### the odds: ways by passes -/
/-- in how many ways k of n tries pass, place by place -/
def ways (a b : Nat) : Nat → List Nat
  | 0 => [1]
  | n + 1 => List.zipWith (fun x y => x + y) ((ways a b n).map (fun m => m * b) ++ [0]) (0 :: (ways a b n).map (fun m => m * a))
theorem ways_len (a b : Nat) : ∀ n, (ways a b n).length = n + 1
  | 0 => rfl
  | n + 1 => by
    simp [ways, ways_len a b n]
def way (a b n k : Nat) : Nat := (ways a b n).getD k 0
def tail (a b n k : Nat) : Nat := ((ways a b n).drop k).sum
theorem tail_step (a b n k : Nat) : tail a b n k = way a b n k + tail a b n (k + 1) := by
  unfold tail way
  by_cases h : k < (ways a b n).length
  · rw [List.drop_eq_getElem_cons h, List.sum_cons, List.getD_eq_getElem?_getD, List.getElem?_eq_getElem h]
    rfl
  · rw [List.drop_eq_nil_of_le (by omega), List.drop_eq_nil_of_le (by omega), List.getD_eq_getElem?_getD, List.getElem?_eq_none (by omega)]
    rfl
theorem sum_zip : ∀ (x y : List Nat), x.length = y.length → (List.zipWith (fun x y => x + y) x y).sum = x.sum + y.sum
  | [], [], _ => rfl
  | [], _ :: _, h => by simp at h
  | _ :: _, [], h => by simp at h
  | u :: x, v :: y, h => by
    rw [List.zipWith_cons_cons, List.sum_cons, List.sum_cons, List.sum_cons, sum_zip x y (by simpa using h)]
    omega
theorem sum_mul (b : Nat) : ∀ x : List Nat, (x.map fun m => m * b).sum = x.sum * b
  | [] => by simp
  | u :: x => by
    rw [List.map_cons, List.sum_cons, List.sum_cons, sum_mul b x, Nat.add_mul]
theorem drop_zero_sum (x : List Nat) (m : Nat) : ((x ++ [0]).drop m).sum = (x.drop m).sum := by
  by_cases h : m ≤ x.length
  · rw [List.drop_append_of_le_length h, List.sum_append]
    simp
  · rw [List.drop_eq_nil_of_le (by simp; omega), List.drop_eq_nil_of_le (by omega)]
theorem tail_succ (a b n k : Nat) : tail a b (n + 1) (k + 1) = tail a b n (k + 1) * b + tail a b n k * a := by
  unfold tail
  have hl := ways_len a b n
  rw [ways, List.drop_zipWith, sum_zip _ _ (by simp), drop_zero_sum, List.drop_succ_cons, ← List.map_drop, ← List.map_drop, sum_mul, sum_mul]
theorem tail_zero (a b : Nat) : ∀ n, tail a b n 0 = (a + b) ^ n
  | 0 => rfl
  | n + 1 => by
    have h0 := tail_zero a b n
    unfold tail at h0 ⊢
    rw [List.drop_zero] at h0 ⊢
    rw [ways, sum_zip _ _ (by simp), List.sum_append, sum_mul, List.sum_cons, List.sum_cons, sum_mul, h0, Nat.pow_succ, Nat.mul_add, List.sum_nil]
    omega
theorem way_succ (a b n k : Nat) : way a b (n + 1) (k + 1) = way a b n (k + 1) * b + way a b n k * a := by
  have h1 := tail_step a b (n + 1) (k + 1)
  rw [tail_succ, tail_succ] at h1
  have h2 := tail_step a b n k
  have h3 := tail_step a b n (k + 1)
  rw [h2, h3, Nat.add_mul, Nat.add_mul] at h1
  omega
theorem way_zero (a b n : Nat) : way a b (n + 1) 0 = way a b n 0 * b := by
  have h := ways_len a b n
  unfold way
  rw [ways]
  cases e : ways a b n with
  | nil => rw [e] at h; simp at h
  | cons u x => simp
theorem way_over (a b : Nat) : ∀ {n k : Nat}, n < k → way a b n k = 0 := fun {n k} h => by
  unfold way
  rw [List.getD_eq_getElem?_getD, List.getElem?_eq_none (by rw [ways_len]; omega)]
  rfl
theorem choose_over : ∀ {n k : Nat}, n < k → choose n k = 0
  | 0, k + 1, _ => rfl
  | n + 1, k + 1, h => by
    rw [choose, choose_over (by omega : n < k), choose_over (by omega : n < k + 1)]
theorem choose_zero (n : Nat) : choose n 0 = 1 := by cases n <;> rfl
theorem choose_self : ∀ n, choose n n = 1
  | 0 => rfl
  | n + 1 => by rw [choose, choose_self n, choose_over (by omega : n < n + 1)]
theorem way_eq (a b : Nat) : ∀ k j, way a b (k + j) k = choose (k + j) j * a ^ k * b ^ j
  | 0, 0 => rfl
  | 0, j + 1 => by
    rw [show 0 + (j + 1) = (0 + j) + 1 by omega, way_zero, way_eq a b 0 j]
    rw [show (0 + j) + 1 = j + 1 by omega, show 0 + j = j by omega, choose_self, choose_self, Nat.pow_succ]
    simp
  | k + 1, 0 => by
    rw [Nat.add_zero, way_succ, way_over a b (by omega : k < k + 1), choose_zero]
    have := way_eq a b k 0
    rw [Nat.add_zero, choose_zero] at this
    rw [this, Nat.pow_succ]
    simp
  | k + 1, j + 1 => by
    have h1 := way_eq a b (k + 1) j
    have h2 := way_eq a b k (j + 1)
    rw [show k + 1 + (j + 1) = (k + 1 + j) + 1 by omega, way_succ, h1, show k + 1 + j = k + (j + 1) by omega, h2]
    rw [show choose (k + (j + 1) + 1) (j + 1) = choose (k + (j + 1)) j + choose (k + (j + 1)) (j + 1) from rfl, Nat.pow_succ, Nat.pow_succ, Nat.add_mul, Nat.add_mul]
    congr 1
    · simp only [Nat.mul_assoc]
    · simp only [Nat.mul_assoc, Nat.mul_comm, Nat.mul_left_comm]
theorem foldl_add (l : List Nat) : ∀ x, l.foldl (fun x y => x + y) x = x + l.sum := by
  induction l with
  | nil => intro x; simp
  | cons u l ih =>
    intro x
    rw [List.foldl_cons, ih, List.sum_cons]
    omega
theorem foldl_sum (l : List Nat) : l.foldl (fun x y => x + y) 0 = l.sum := by
  rw [foldl_add]
  omega
/-- the odds' numerator is what the ways tell -/
theorem top_eq (a b : Nat) (k : Nat) : ∀ d, oddsTop (k + 1) (k + 1 + d) a (a + b) = tail a b (k + 1 + d) (k + 1)
  | 0 => by
    rw [Nat.add_zero, tail_succ]
    have h1 : tail a b k (k + 1) = 0 := by
      unfold tail
      rw [List.drop_eq_nil_of_le (by rw [ways_len]; omega)]
      rfl
    have h2 : tail a b k k = a ^ k := by
      rw [tail_step, h1]
      have := way_eq a b k 0
      rw [Nat.add_zero, choose_zero] at this
      rw [this]
      simp
    rw [h1, h2]
    unfold oddsTop
    rw [foldl_sum]
    simp [choose_zero, Nat.pow_succ]
  | d + 1 => by
    have ih := top_eq a b k d
    have e : tail a b (k + 1 + (d + 1)) (k + 1) = tail a b (k + 1 + d) (k + 1) * (a + b) + way a b (k + 1 + d) k * a := by
      rw [show k + 1 + (d + 1) = (k + 1 + d) + 1 by omega, tail_succ, tail_step a b (k + 1 + d) k, Nat.add_mul, Nat.mul_add]
      omega
    rw [e, ← ih]
    unfold oddsTop
    rw [foldl_sum, foldl_sum, Nat.add_sub_cancel_left, Nat.add_sub_cancel_left, Nat.add_sub_cancel_left, List.range_succ, List.map_append, List.sum_append, ← sum_mul, List.map_map]
    congr 1
    · congr 1
      refine List.map_congr_left fun j hj => ?_
      have hj : j < d + 1 := List.mem_range.mp hj
      show _ = _ * (a + b)
      rw [Nat.succ_sub (Nat.le_of_lt_succ hj), Nat.pow_succ (n := a + b)]
      simp only [Nat.mul_assoc]
    · have h := way_eq a b k (d + 1)
      rw [Nat.add_right_comm k 1 d, Nat.add_assoc, h]
      simp only [List.map_cons, List.map_nil, List.sum_cons, List.sum_nil, Nat.add_zero, Nat.add_sub_cancel]
      rw [Nat.sub_self, Nat.pow_zero, Nat.mul_one, Nat.pow_succ (n := a)]
      simp only [Nat.mul_assoc, Nat.mul_comm, Nat.mul_left_comm]
theorem odds_eq {p : Policy} (hp : PolOk p) {a q : Nat} (h : a ≤ q) : Vamrqj.odds p.need p.most a q =
    (tail a (q - a) p.most p.need / Nat.gcd (tail a (q - a) p.most p.need) (tail a (q - a) p.most 0), tail a (q - a) p.most 0 / Nat.gcd (tail a (q - a) p.most p.need) (tail a (q - a) p.most 0)) := by
  have h1 := hp.n1
  have h2 := hp.nm
  have e1 := top_eq a (q - a) (p.need - 1) (p.most - p.need)
  have e2 := tail_zero a (q - a) p.most
  rw [show p.need - 1 + 1 = p.need by omega, show p.need + (p.most - p.need) = p.most by omega, show a + (q - a) = q by omega] at e1
  rw [show a + (q - a) = q by omega] at e2
  unfold Vamrqj.odds
  simp only
  rw [e1, ← e2]
end TR
end
-- TRRules
section
set_option Elab.async false
set_option linter.all false
set_option maxRecDepth 100000
set_option maxHeartbeats 2000000
namespace TR
open PySem PySem.Spec PyProof.Rows L2

/-! ### a op b op c op d -/
section
variable {X : Cx} {a b c d : Expr} {ta tb tc td : TE} {pos : Pos}
def tChain3 (r r' r'' : R2) (ta tb tc td : TE) : TE := fun σ H Q => ta σ H fun x H1 => tb σ H1 fun y H2 => r x y H2 fun z H3 => ∃ k, z = .bl k ∧
  (if k = true then tc σ H3 fun y' H4 => r' y y' H4 fun z' H5 => ∃ k', z' = .bl k' ∧ (if k' = true then td σ H5 fun w' H6 => r'' y' w' H6 Q else Q (.bl false) H5) else Q (.bl false) H3)
theorem pt_chain3 {op op' op'' : CmpOp} {r r' r'' : R2} (ho : OpR X (compareOp op) r) (ho' : OpR X (compareOp op') r') (ho'' : OpR X (compareOp op'') r'') (ha : PE X a ta) (hb : PE X b tb) (hc : PE X c tc) (hd : PE X d td)
    (hm : lastMarks [op, op', op''] [b, c, d] = false := by with_unfolding_all rfl) : PT X (.Compare a [op, op', op''] [b, c, d] pos) (tTest (tChain3 r r' r'' ta tb tc td)) := by
  intro pins s σ H Q I h
  refine isTrue_chain (thn (ha pins s σ H _ I h) fun v s1 ⟨x, H1, I1, r1, q1⟩ => test_link (thn (hb pins s1 σ H1 _ I1 q1) fun u s2 ⟨y, H2, I2, r2, q2⟩ =>
    thn (ho pins s2 σ H2 x y v u _ I2 r1 r2 q2) fun d' s3 ⟨z, H3, I3, r3, k, e, q3⟩ => ?_)) hm
  subst e
  cases r3
  refine wpAny_truthy_bool ?_
  cases k with
  | false =>
    obtain ⟨k', e', q'⟩ := q3
    cases e'
    exact ite_ff ⟨H3, I3, q'⟩
  | true =>
    refine ite_tt (test_link (thn (hc pins s3 σ H3 _ I3 q3) fun w1 s4 ⟨y', H4, I4, r4, q4⟩ => thn (ho' pins s4 σ H4 y y' u w1 _ I4 r2 r4 q4) fun d1 s5 ⟨z1, H5, I5, r5, k1, e1, q5⟩ => ?_))
    subst e1
    cases r5
    refine wpAny_truthy_bool ?_
    cases k1 with
    | false =>
      obtain ⟨k', e', q'⟩ := q5
      cases e'
      exact ite_ff ⟨H5, I5, q'⟩
    | true =>
      refine ite_tt (test_last (thn (hd pins s5 σ H5 _ I5 q5) fun w2 s6 ⟨z2, H6, I6, r6, q6⟩ => thn (ho'' pins s6 σ H6 y' z2 w1 w2 _ I6 r4 r6 q6) fun d2 s7 ⟨z3, H7, I7, r7, k2, e2, q7⟩ => ?_))
      subst e2
      cases r7
      exact wpAny_truthy_bool ⟨H7, I7, q7⟩
end

/-! ### len of a dict whose keys are tuples -/
section
variable {prog : Program} {w : World} {K : Type} [DecidableEq K] {knd : HeapKind prog w K} {A : Around} {E : Value → Shared → Prop} {s : Shared}
theorem meetsH_dict_len (d : Addr) (hd : (d == sysModules) = false) :
    MeetsIn prog w (Builtin.«dict.__len__» ⟨[.ref d], []⟩) (fun _ R s => ∃ xs, s.heap.DictOfH knd d xs ∧ R (.ok (.ret (.int xs.length s.toks))) { s with toks := s.toks + 1 }) :=
  .of_wp fun A R s ⟨xs, hm, h⟩ => by
    obtain ⟨o, es, ep, ho, hc, hdat, he, hk, hn⟩ := hm
    show wpAny _ _ (dictSize d >>= _) _ _ s
    unfold dictSize
    refine wpAny_bind (wpAny_bind (wpAny_dictEntries ho hdat (wpAny_pure ?_)))
    show wpAny _ _ (Builtin.Dict.pendingCount d >>= _) _ _ s
    refine wpAny_bind (wpAny_pendingCount_other hd ?_)
    refine wpAny_ret_mkInt ?_
    have : es.size = xs.length := size_of_entries he
    rw [Nat.add_zero, this]; exact h
theorem len_body_dictH {d : Addr} {xs : List (K × Addr × Value)} {Q : Value → Shared → Prop} (hd : (d == sysModules) = false) (hm : s.heap.DictOfH knd d xs) (hfit : (xs.length : Int) < 2 ^ 63)
    (h : Q (.int xs.length (s.toks + 1)) { s with toks := s.toks + 1 + 1 }) : wpAny (model prog w) A (Builtin.«len» ⟨[.ref d], []⟩) (fun fin s' => ∃ r, fin = .done (.ret r) ∧ Q r s') E s := by
  unfold Builtin.«len»
  refine wpAny_bind (m := oneArg "len" _) (wpAny_pure ?_)
  refine wpAny_bind (m := callSpecial? (.ref d) (Str.ofString "__len__")) (wpAny_callSpecial?_slot (name := Str.ofString "__len__") hm.typeIs F.slot_dict_len
    (call_meetsIn F.slot_dict_len hm.typeIs F.entry_dict_len (F.args_dict_len_1 _) (meetsH_dict_len (knd := knd) d hd) ⟨xs, hm, ?_⟩))
  show wpAny _ _ _ _ _ { s with toks := s.toks + 1 }
  refine wpAny_bind (wpAny_holding (wpAny_pure ?_))
  refine wpAny_bind (wpAny_letGo ?_)
  show wpAny _ _ (if ((xs.length : Nat) : Int) < 0 then _ else _) _ _ _
  rw [if_neg (by omega)]
  show wpAny _ _ (if ((xs.length : Nat) : Int) ≥ 2 ^ 63 then _ else _) _ _ _
  rw [if_neg (by omega)]
  exact wpAny_bind (wpAny_mkInt (wpAny_pure ⟨_, rfl, h⟩))
end
theorem call_lenT {X : Cx} : CallR X (.builtin "len") (fun xs H Q => ∃ a kvs, xs = [V.ref a] ∧ H a = some (.dT kvs) ∧ Q (.int kvs.length) H) := by
  intro pins s σ H xs us Q I r h
  obtain ⟨a, kvs, rfl, ha, q⟩ := h
  obtain ⟨u, rfl, ru⟩ := vals1 r
  cases ru
  obtain ⟨z, hd, ys, rel, dd⟩ := dt_of I.hok ha
  have hl : kvs.length = ys.length := Paired.length rel
  refine Calls.call_function_entry kind_len plain_len entry_len (args_len1 _) (len_body_dictH hd dd (by rw [sizeLine_eq] at z; omega) ?_)
  exact ⟨.int kvs.length, H, I.tok _, ⟨_, by rw [hl]⟩, q⟩

/-! ### defs, methods and classes of the text, with what they promise -/
section
variable (P : Program) (w : World) (K : PySem.W.Frag) (mg : Str → Option Value) (base : Heap)
/-- a method stands in the text -/
def MFun (C : Addr) (m qual : Str) (st : Stmt) : Prop := ∃ f fd, Fun K m qual st f fd ∧ Meth K C m f
/-- a def stands in the text -/
def DFun (x : Str) (st : Stmt) : Prop := ∃ f fd, Fun K x x st f fd ∧ mg x = some (.ref f)
/-- a class's __init__ stands in the text -/
def IFun (C : Addr) (x qual : Str) (st : Stmt) : Prop := ∃ f fd, Fun K "__init__" qual st f fd ∧ Mk K C f ∧ mg x = some (.ref C)
def MOk (C : Addr) (m : Str) (k : Nat) (ps : List Str) (sp : Sp) : Prop := ∃ f fd, Meth K C m f ∧ FnOk P w K mg base CX0 k f fd ps sp ∧ Binds K fd ps []
def DOk (x : Str) (k : Nat) (ps : List Str) (sp : Sp) : Prop := ∃ f fd, mg x = some (.ref f) ∧ PySem.W.keepIn K (.ref f) = true ∧ FnOk P w K mg base CX0 k f fd ps sp ∧ Binds K fd ps []
def IOk (C : Addr) (x : Str) (k : Nat) (ps : List Str) (sp : Sp) : Prop := ∃ f fd, Mk K C f ∧ mg x = some (.ref C) ∧ FnOk P w K mg base CX0 k f fd ps sp ∧ Binds K fd ps []
end
section
variable {P : Program} {w : World} {K : PySem.W.Frag} {mg : Str → Option Value} {base : Heap} {C : Addr} {m x qual : Str} {st : Stmt} {N ps : List Str} {k : Nat} {sp : Sp}
abbrev BindsAs (m qual : Str) (st : Stmt) (ps : List Str) : Prop := ∀ (kV doc pm : Value) (an : Option Addr) (cdv ct : Value) (us : List Value), us.length = ps.length → bindArgs (PySem.W.fnOf m qual (defArgs st) (defBody st) (defScope st) .none kV doc pm an cdv ct) ⟨us, []⟩ = pure (ps.zip us)
/-- a def's body keeps the promise -/
abbrev BodyOk (P : Program) (w : World) (K : PySem.W.Frag) (mg : Str → Option Value) (base : Heap) (qual : Str) (st : Stmt) (N : List Str) (k : Nat) (sp : Sp) : Prop :=
  ∀ (f : Addr) (cdv : Value) (A : Around) (outer : List Env) (s : Shared) (H : Hp) (vs : List V) (Q : VK) (E : XK), Room k (A.deeper (envOfC qual (defScope st) s.heap.objs.size f cdv)) → sp vs H Q E →
      ∃ t, PSs (cxOf CX0 P w K mg base N qual (defScope st) f cdv A outer s H E).nox (defBody st) t ∧ t { nx := fun _ H' => Q .non H', rt := Q } (start N vs) H
theorem MFun.ok (F : MFun K C m qual st) (S : FnScope N ps (defScope st)) (hb : BindsAs m qual st ps) (len : ∀ vs H Q E, sp vs H Q E → vs.length = ps.length) (body : BodyOk P w K mg base qual st N k sp) : MOk P w K mg base C m (k + 1) ps sp := by
  obtain ⟨f, fd, F, M⟩ := F
  exact ⟨f, fd, M, F.ok S len (fun cdv A outer s H vs Q E hr h => body f cdv A outer s H vs Q E hr h), F.binds hb⟩
theorem DFun.ok (F : DFun K mg x st) (S : FnScope N ps (defScope st)) (hb : BindsAs x x st ps) (len : ∀ vs H Q E, sp vs H Q E → vs.length = ps.length) (body : BodyOk P w K mg base x st N k sp) : DOk P w K mg base x (k + 1) ps sp := by
  obtain ⟨f, fd, F, M⟩ := F
  exact ⟨f, fd, M, F.kp, F.ok S len (fun cdv A outer s H vs Q E hr h => body f cdv A outer s H vs Q E hr h), F.binds hb⟩
theorem IFun.ok (F : IFun K mg C x qual st) (S : FnScope N ps (defScope st)) (hb : BindsAs "__init__" qual st ps) (len : ∀ vs H Q E, sp vs H Q E → vs.length = ps.length) (body : BodyOk P w K mg base qual st N k sp) : IOk P w K mg base C x (k + 1) ps sp := by
  obtain ⟨f, fd, F, M, G⟩ := F
  exact ⟨f, fd, M, G, F.ok S len (fun cdv A outer s H vs Q E hr h => body f cdv A outer s H vs Q E hr h), F.binds hb⟩
end
section
variable {X : Cx} {k j : Nat} {C : Addr} {ps : List Str} {sp : Sp} {x m : Str} {p pos apos : Pos} {e o : Expr} {es : List Expr} {ta : TE} {t : TA}
/-- f(e, ..) -/
theorem pd (F : DOk X.prog X.w X.K X.mg X.base x k ps sp) (hr : Room j X.A) (ha : PA X (e :: es) t) (hj : k ≤ j := by decide) (hg : Gl X x := by rfl) (hdb : (x == ("__debug__" : Str)) = false := by decide)
    (he : starEach (e :: es) X.env = (false, eval e X.env) :: starEach es X.env := by rfl) (hpl : (backTo pos (starEach es X.env)).any (·.1) = false := by rfl) :
    PE X (.Call (.Name x p) (e :: es) [] pos) (tCall sp [] E0 t) := by
  obtain ⟨f, fd, hm, hk, G, b⟩ := F
  exact pe_call G (hr.mono hj) hg hm hk b .nil pass0 ha hdb he hpl
/-- o.m(e, ..) -/
theorem pm {pl : Sem Bool} (c : Cls X.K C) (F : MOk X.prog X.w X.K X.mg X.base C m k ps sp) (hr : Room j X.A) (he : PE X o ta) (ha : PA X (e :: es) t) (hj : k ≤ j := by decide)
    (hst : starEach (e :: es) X.env = (false, eval e X.env) :: starEach es X.env := by rfl) (hpl : (backTo pos (starEach es X.env)).any (·.1) = false := by rfl)
    (ht : eval (.Call (.Attribute o m apos) (e :: es) [] pos) X.env = (do
      let ov ← eval o X.env
      standAt apos.atName
      let (f, first) ← holding [ov] (getMethod ov m pl)
      callWith pos f first (backTo pos (starEach (e :: es) X.env)) (backToKw pos (keywordEach [] X.env))) := by rfl) :
    PE X (.Call (.Attribute o m apos) (e :: es) [] pos) (tMeth C m sp [] E0 ta t) := by
  obtain ⟨f, fd, hm, G, b⟩ := F
  exact pe_meth he c hm G (hr.mono hj) b .nil pass0 ha hst hpl ht
/-- o.m() -/
theorem pm0 {pl : Sem Bool} (c : Cls X.K C) (F : MOk X.prog X.w X.K X.mg X.base C m k ps sp) (hr : Room j X.A) (he : PE X o ta) (hj : k ≤ j := by decide)
    (ht : eval (.Call (.Attribute o m apos) [] [] pos) X.env = (do
      let ov ← eval o X.env
      standAt apos.atName
      let (f, first) ← holding [ov] (getMethod ov m pl)
      callWith pos f first (backTo pos (starEach [] X.env)) (backToKw pos (keywordEach [] X.env))) := by rfl) :
    PE X (.Call (.Attribute o m apos) [] [] pos) (tMeth C m sp [] E0 ta tNil) := by
  obtain ⟨f, fd, hm, G, b⟩ := F
  exact pe_meth0 he c hm G (hr.mono hj) b .nil pass0 ht
/-- C(e, ..) -/
theorem pmk (F : IOk X.prog X.w X.K X.mg X.base C x k ps sp) (hr : Room j X.A) (ha : PA X (e :: es) t) (hj : k + 1 ≤ j := by decide) (hg : Gl X x := by rfl) (hdb : (x == ("__debug__" : Str)) = false := by decide)
    (he : starEach (e :: es) X.env = (false, eval e X.env) :: starEach es X.env := by rfl) (hpl : (backTo pos (starEach es X.env)).any (·.1) = false := by rfl) :
    PE X (.Call (.Name x p) (e :: es) [] pos) (tMake C sp [] E0 t) := by
  obtain ⟨f, fd, M, hm, G, b⟩ := F
  exact pe_make M G (hr.mono hj) hg hm b .nil pass0 ha hdb he hpl
theorem pmk0 (F : IOk X.prog X.w X.K X.mg X.base C x k ps sp) (hr : Room j X.A) (hj : k + 1 ≤ j := by decide) (hg : Gl X x := by rfl) (hdb : (x == ("__debug__" : Str)) = false := by decide) :
    PE X (.Call (.Name x p) [] [] pos) (tMake C sp [] E0 tNil) := by
  obtain ⟨f, fd, M, hm, G, b⟩ := F
  exact pe_make0 M G (hr.mono hj) hg hm b .nil pass0 hdb
/-- a whole number of the text's top -/
theorem pk {x : Str} {n : Int} {pos : Pos} (h : ∃ t, X.mg x = some (.int n t)) (hg : Gl X x := by rfl) (hd : (x == ("__debug__" : Str)) = false := by decide) : PE X (.Name x pos) (tC (.int n)) := by
  obtain ⟨t, h⟩ := h
  exact pe_glob hg h ⟨t, rfl⟩ hd
end
/-- what comes behind a statement, under a name -/
theorem seq_gen {s u : TS} {D : Ends} {σ : L2.St} {H : Hp} (h : ∀ N : L2.St → Hp → Prop, (∀ σ' H', u D σ' H' → N σ' H') → s { D with nx := N } σ H) : tSeq s u D σ H := h (u D) fun _ _ z => z
/-- a word under a name -/
theorem name1 (B : L2.St → Hp → Prop) : ∃ N : L2.St → Hp → Prop, (∀ σ H, N σ H → B σ H) ∧ ∀ σ H, B σ H → N σ H := ⟨B, fun _ _ z => z, fun _ _ z => z⟩
theorem name2 (B : Nat → L2.St → Hp → Prop) : ∃ N : Nat → L2.St → Hp → Prop, (∀ i σ H, N i σ H → B i σ H) ∧ ∀ i σ H, B i σ H → N i σ H := ⟨B, fun _ _ _ z => z, fun _ _ _ z => z⟩
theorem nameH (B : Nat → Hp → Prop) : ∃ N : Nat → Hp → Prop, (∀ i H, N i H → B i H) ∧ ∀ i H, B i H → N i H := ⟨B, fun _ _ z => z, fun _ _ z => z⟩
/-- over range(j), the turn's number as it is -/
theorem for_upto {j : Int} {n : Nat} {g : TG} {tb : TS} {D : Ends} {σ : L2.St} {H : Hp} (hj : j = (n : Int)) (Pv : Nat → L2.St → Hp → Prop) (h0 : Pv 0 σ H)
    (hs : ∀ i σ H, i < n → Pv i σ H → g (.int (i : Int)) σ H fun σ2 H2 => tb { D with nx := Pv (i + 1), ct := Pv (i + 1), bk := D.nx } σ2 H2) (hd : ∀ σ H, Pv n σ H → D.nx σ H) :
    ∃ W : Nat → Nat → L2.St → Hp → Prop, (∃ m, W 0 m σ H) ∧ ∀ i m σ H, W i m σ H →
      ((Itr 0 j.toNat).stop i H ∧ D.nx σ H) ∨ ((Itr 0 j.toNat).go i H ∧ ∃ N : L2.St → Hp → Prop, (∀ σ' H', N σ' H' → ∃ m', m' < m ∧ W (i + 1) m' σ' H') ∧ ∀ x H', (Itr 0 j.toNat).yld i H x H' → g x σ H' fun σ2 H2 => tb { D with nx := N, ct := N, bk := D.nx } σ2 H2) := by
  subst hj
  rw [Int.toNat_natCast]
  refine for_range (lo := 0) (n := n) Pv h0 (fun i σ H hi p => ?_) hd
  have e : (0 : Int) + (i : Int) = (i : Int) := Int.zero_add _
  rw [e]
  exact hs i σ H hi p
end TR
end
-- TRKDict
section
set_option Elab.async false
set_option linter.all false
set_option maxRecDepth 100000
set_option maxHeartbeats 2000000
namespace TR
open PySem PySem.Spec PyProof.Rows L2

/-! ### a dict of the text's top, from whole numbers to whole numbers -/
def entOk (e : DictEntry) : Option (Int × Int) := match e.key, e.val with
  | .int k _, .int v _ => if e.hash == hashInt k then some (k, v) else none
  | _, _ => none
def entsOk : List DictEntry → Option (List (Int × Int))
  | [] => some []
  | e :: r => match entOk e, entsOk r with
    | some p, some ps => some (p :: ps)
    | _, _ => none
def kvOf (ps : List (Int × Int)) : List (Key × V) := ps.map fun p => (.inl p.1, .int p.2)
def KD (P : Program) (w : World) (K : PySem.W.Frag) (d : Addr) (ps : List (Int × Int)) : Prop := (d == sysModules) = false ∧ ∃ vs, KV (kvOf ps) vs ∧ ∀ h : Heap, K.In h → h.DictOf (mixKind P w) d vs
theorem entsOk_pairs {P : Program} {w : World} : ∀ {es : List DictEntry} {ps : List (Int × Int)}, entsOk es = some ps →
    ∃ vs : List (Key × Value), KV (kvOf ps) vs ∧ Pairs (mixKind P w) es vs ∧ (∀ e ∈ es, ∃ k, (mixKind P w).is k e.key = true ∧ e.hash = (mixKind P w).hash k) ∧ vs.map (·.1) = ps.map fun p => Sum.inl p.1
  | [], ps, h => by
    have : ps = [] := (Option.some.inj h).symm
    subst this
    exact ⟨[], .nil, .nil, (fun e he => nomatch he), rfl⟩
  | e :: r, ps, h => by
    unfold entsOk at h
    split at h
    · rename_i p ps' h1 h2
      have := Option.some.inj h
      subst this
      obtain ⟨vs, r1, r2, r3, r4⟩ := entsOk_pairs (P := P) (w := w) h2
      obtain ⟨hh, key, val⟩ := e
      unfold entOk at h1
      simp only at h1
      split at h1
      · rename_i k t v u
        split at h1
        · rename_i hx
          have := Option.some.inj h1
          subst this
          refine ⟨(.inl k, .int v u) :: vs, .cons ⟨rfl, u, rfl⟩ r1, .cons (mixKind_int P w k t) rfl r2, fun e he => ?_, ?_⟩
          · rcases List.mem_cons.mp he with z | z
            · subst z
              exact ⟨.inl k, mixKind_int P w k t, eq_of_beq hx⟩
            · exact r3 e z
          · rw [List.map_cons, List.map_cons, r4]
        · cases h1
      · cases h1
    · cases h
theorem KD.of {P : Program} {w : World} {K : PySem.W.Frag} {d : Addr} {es : Array DictEntry} {ep : Nat} {sl : Array (Option Value)} {ps : List (Int × Int)} (hl : K.lookup d = some ⟨.type "dict", none, .dict es ep, sl⟩) (hc : ∀ o : Obj, o = ⟨.type "dict", none, .dict es ep, sl⟩ → o.ExactDict)
    (hd : (d == sysModules) = false) (he : entsOk es.toList = some ps) (nd : (ps.map (·.1)).Nodup) : KD P w K d ps := by
  obtain ⟨vs, r1, r2, r3, r4⟩ := entsOk_pairs (P := P) (w := w) he
  refine ⟨hd, vs, r1, fun h X => ⟨_, es, ep, X _ _ hl, hc _ rfl, rfl, fun e m => r3 e (by simpa using m), r2, ?_⟩⟩
  rw [r4, show (ps.map fun p => (Sum.inl p.1 : Key)) = (ps.map (·.1)).map Sum.inl by rw [List.map_map]; rfl]
  exact List.Pairwise.map _ (fun a b h z => h (Sum.inl.inj z)) nd
section
variable {X : Cx} {o i : Expr} {ty : TE} {pos : Pos} {d : Addr} {ps : List (Int × Int)}
def lookI (ps : List (Int × Int)) (k : Int) : Option Int := (ps.find? fun p => decide (p.1 = k)).map (·.2)
theorem valV_kvOf (k : Int) : ∀ ps : List (Int × Int), valV (kvOf ps) (.inl k) = (lookI ps k).map V.int
  | [] => rfl
  | p :: r => by
    show valV ((Sum.inl p.1, V.int p.2) :: kvOf r) (Sum.inl k) = _
    by_cases h : p.1 = k
    · rw [valV_pos (by rw [h])]
      unfold lookI
      rw [List.find?_cons, decide_eq_true h]
      rfl
    · rw [valV_neg (fun z => h (Sum.inl.inj z)), valV_kvOf k r]
      unfold lookI
      rw [List.find?_cons, decide_eq_false h]
theorem pe_kget (D : KD X.prog X.w X.K d ps) (ho : PE X o (tC (.ref d))) (hi : PE X i ty) (hs : NoSl i) : PE X (.Subscript o i pos) (fun σ H Q => ty σ H fun y H1 => ∃ k v, y = .int k ∧ lookI ps k = some v ∧ Q (.int v) H1) := by
  intro pins s σ H Q I h
  obtain ⟨hd, vs, rel, dd⟩ := D
  refine subD_of PySem.F.slot_dict_getitem.lookup hs (thn (ho pins s σ H (fun x H1 => x = .ref d ∧ ty σ H1 fun y H1 => ∃ k v, y = .int k ∧ lookI ps k = some v ∧ Q (.int v) H1) I ⟨rfl, h⟩) fun u s1 ⟨x, H1, I1, rx, ex, q1⟩ => thn (hi pins s1 σ H1 _ I1 q1) fun iv s2 ⟨y, H2, I2, ry, k, v, ey, g, q2⟩ => ?_)
  subst ex ey
  obtain rfl : u = Value.ref d := rx
  have dd2 := dd s2.heap I2.kIn
  have e : valV (kvOf ps) (.inl k) = some (.int v) := by rw [valV_kvOf, g]; rfl
  obtain ⟨w', hw, rw'⟩ := RelO.some_of (v := V.int v) (o := valueAt vs (.inl k)) (by rw [← e]; exact rel.val _)
  exact ⟨dd2.typeIs, wpAny_getItem_of (kV_is (k := .inl k) ry) dd2.mapOf hw ⟨.int v, H2, I2.tok _, rw', q2⟩⟩
theorem pc_knotin (D : KD X.prog X.w X.K d ps) (hi : PE X i ty) (ho : PE X o (tC (.ref d))) : PC X .NotIn i o (fun σ H Q => ty σ H fun y H1 => ∃ k, y = .int k ∧ Q (.bl (!(lookI ps k).isSome)) H1) := by
  intro pins s σ H Q I h
  obtain ⟨hd, vs, rel, dd⟩ := D
  refine thn (hi pins s σ H _ I h) fun iv s1 ⟨y, H1, I1, ry, k, ey, q1⟩ => thn (ho pins s1 σ H1 (fun x H2 => x = .ref d ∧ Q (.bl (!(lookI ps k).isSome)) H2) I1 ⟨rfl, q1⟩) fun u s2 ⟨x, H2, I2, rx, ex, q2⟩ => ?_
  subst ex ey
  obtain rfl : u = Value.ref d := rx
  have dd2 := dd s2.heap I2.kIn
  refine wpAny_notIn_of (kV_is (k := .inl k) ry) hd dd2.mapOf ?_
  rw [← (rel.val (Sum.inl k)).isSome_eq, valV_kvOf, Option.isSome_map]
  exact ⟨.bl _, H2, I2.tok _, rfl, q2⟩
end
end TR
end
-- TRText
section
set_option Elab.async false
set_option linter.all false
set_option maxRecDepth 100000
set_option maxHeartbeats 2000000
namespace TR
open PySem PySem.Spec PyProof.Rows L2
def top (i : Nat) : Stmt := PySem.Challenge.pw_triesroom_s01_answers.main.body.getD i (.Pass ⟨0, 0, 0, 0⟩)
theorem ln0 {us : List Value} (h : us.length = 0) : us = [] := List.eq_nil_of_length_eq_zero h
theorem lnS {n : Nat} {us : List Value} (h : us.length = n + 1) : ∃ a r, us = a :: r ∧ r.length = n := by
  cases us with
  | nil => cases h
  | cons a r => exact ⟨a, r, rfl, Nat.succ.inj h⟩
theorem ln1 {us : List Value} (h : us.length = 1) : ∃ a0, us = [a0] := by
  obtain ⟨a, r, rfl, h1⟩ := lnS h
  obtain rfl := ln0 h1
  exact ⟨a, rfl⟩
theorem ln2 {us : List Value} (h : us.length = 2) : ∃ a0 a1, us = [a0, a1] := by
  obtain ⟨a, r, rfl, h1⟩ := lnS h
  obtain ⟨b0, rfl⟩ := ln1 h1
  exact ⟨a, b0, rfl⟩
theorem ln3 {us : List Value} (h : us.length = 3) : ∃ a0 a1 a2, us = [a0, a1, a2] := by
  obtain ⟨a, r, rfl, h1⟩ := lnS h
  obtain ⟨b0, b1, rfl⟩ := ln2 h1
  exact ⟨a, b0, b1, rfl⟩
theorem ln4 {us : List Value} (h : us.length = 4) : ∃ a0 a1 a2 a3, us = [a0, a1, a2, a3] := by
  obtain ⟨a, r, rfl, h1⟩ := lnS h
  obtain ⟨b0, b1, b2, rfl⟩ := ln3 h1
  exact ⟨a, b0, b1, b2, rfl⟩
theorem ln5 {us : List Value} (h : us.length = 5) : ∃ a0 a1 a2 a3 a4, us = [a0, a1, a2, a3, a4] := by
  obtain ⟨a, r, rfl, h1⟩ := lnS h
  obtain ⟨b0, b1, b2, b3, rfl⟩ := ln4 h1
  exact ⟨a, b0, b1, b2, b3, rfl⟩
theorem ln6 {us : List Value} (h : us.length = 6) : ∃ a0 a1 a2 a3 a4 a5, us = [a0, a1, a2, a3, a4, a5] := by
  obtain ⟨a, r, rfl, h1⟩ := lnS h
  obtain ⟨b0, b1, b2, b3, b4, rfl⟩ := ln5 h1
  exact ⟨a, b0, b1, b2, b3, b4, rfl⟩
abbrev scommon_divisor : Stmt := top 1
abbrev sways_by_passes : Stmt := top 2
abbrev sodds_of_passing : Stmt := top 3
abbrev sRecord_init : Stmt := inClass (top 6) 0
abbrev sRecord_flaky_score : Stmt := inClass (top 6) 1
abbrev sRecord_calm_length : Stmt := inClass (top 6) 2
abbrev sRecord_move : Stmt := inClass (top 6) 3
abbrev sRecord_keep : Stmt := inClass (top 6) 4
abbrev sare_rules : Stmt := top 11
abbrev sRules_init : Stmt := inClass (top 12) 0
abbrev sRun_init : Stmt := inClass (top 14) 0
abbrev sRun_is_clean : Stmt := inClass (top 14) 1
abbrev sRun_as_numbers : Stmt := inClass (top 14) 2
abbrev soutcome_of_try : Stmt := top 15
abbrev smake_run : Stmt := top 16
abbrev sare_outcomes : Stmt := top 27
abbrev sis_revision : Stmt := top 28
abbrev sRoom_init : Stmt := inClass (top 29) 0
abbrev sRoom_is_test : Stmt := inClass (top 29) 1
abbrev sRoom_are_test_and_revision : Stmt := inClass (top 29) 2
abbrev sRoom_outcomes_at : Stmt := inClass (top 29) 3
abbrev sRoom_run_at : Stmt := inClass (top 29) 4
abbrev sRoom_kept_run_at : Stmt := inClass (top 29) 5
abbrev sRoom_policy : Stmt := inClass (top 29) 6
abbrev sRoom_tests : Stmt := inClass (top 29) 7
abbrev sRoom_tell : Stmt := inClass (top 29) 8
abbrev sRoom_outcome : Stmt := inClass (top 29) 9
abbrev sRoom_dry : Stmt := inClass (top 29) 10
abbrev sRoom_run : Stmt := inClass (top 29) 11
abbrev sRoom_check : Stmt := inClass (top 29) 12
abbrev sRoom_history : Stmt := inClass (top 29) 13
abbrev sRoom_score : Stmt := inClass (top 29) 14
abbrev sRoom_held : Stmt := inClass (top 29) 15
abbrev sRoom_hold : Stmt := inClass (top 29) 16
abbrev sRoom_odds : Stmt := inClass (top 29) 17
abbrev send_of_call : Stmt := top 44
abbrev sanswer_to_call : Stmt := top 45
abbrev sanswers : Stmt := top 46
theorem sccommon_divisor : FnScope ["first", "second", "remainder"] ["first", "second"] (defScope scommon_divisor) := ⟨rfl, rfl, rfl, by decide +kernel, rfl, by decide +kernel, by decide +kernel⟩
theorem bdcommon_divisor (kV doc pm : Value) (an : Option Addr) (cdv ct : Value) (us : List Value) (hl : us.length = (["first", "second"] : List Str).length) : bindArgs (PySem.W.fnOf "common_divisor" "common_divisor" (defArgs scommon_divisor) (defBody scommon_divisor) (defScope scommon_divisor) .none kV doc pm an cdv ct) ⟨us, []⟩ = pure ((["first", "second"] : List Str).zip us) := by
  obtain ⟨u0, u1, rfl⟩ := ln2 hl
  rfl
theorem scways_by_passes : FnScope ["a", "q", "tries", "ways", "made", "by_failing", "by_passing", "many", "failing", "passing"] ["a", "q", "tries"] (defScope sways_by_passes) := ⟨rfl, rfl, rfl, by decide +kernel, rfl, by decide +kernel, by decide +kernel⟩
theorem bdways_by_passes (kV doc pm : Value) (an : Option Addr) (cdv ct : Value) (us : List Value) (hl : us.length = (["a", "q", "tries"] : List Str).length) : bindArgs (PySem.W.fnOf "ways_by_passes" "ways_by_passes" (defArgs sways_by_passes) (defBody sways_by_passes) (defScope sways_by_passes) .none kV doc pm an cdv ct) ⟨us, []⟩ = pure ((["a", "q", "tries"] : List Str).zip us) := by
  obtain ⟨u0, u1, u2, rfl⟩ := ln3 hl
  rfl
theorem scodds_of_passing : FnScope ["a", "q", "rules", "ways", "numerator", "denominator", "divisor"] ["a", "q", "rules"] (defScope sodds_of_passing) := ⟨rfl, rfl, rfl, by decide +kernel, rfl, by decide +kernel, by decide +kernel⟩
theorem bdodds_of_passing (kV doc pm : Value) (an : Option Addr) (cdv ct : Value) (us : List Value) (hl : us.length = (["a", "q", "rules"] : List Str).length) : bindArgs (PySem.W.fnOf "odds_of_passing" "odds_of_passing" (defArgs sodds_of_passing) (defBody sodds_of_passing) (defScope sodds_of_passing) .none kV doc pm an cdv ct) ⟨us, []⟩ = pure ((["a", "q", "rules"] : List Str).zip us) := by
  obtain ⟨u0, u1, u2, rfl⟩ := ln3 hl
  rfl
theorem scRecord_init : FnScope ["self"] ["self"] (defScope sRecord_init) := ⟨rfl, rfl, rfl, by decide +kernel, rfl, by decide +kernel, by decide +kernel⟩
theorem bdRecord_init (kV doc pm : Value) (an : Option Addr) (cdv ct : Value) (us : List Value) (hl : us.length = (["self"] : List Str).length) : bindArgs (PySem.W.fnOf "__init__" "Record.__init__" (defArgs sRecord_init) (defBody sRecord_init) (defScope sRecord_init) .none kV doc pm an cdv ct) ⟨us, []⟩ = pure ((["self"] : List Str).zip us) := by
  obtain ⟨u0, rfl⟩ := ln1 hl
  rfl
theorem scRecord_flaky_score : FnScope ["self", "window", "reach", "run"] ["self", "window"] (defScope sRecord_flaky_score) := ⟨rfl, rfl, rfl, by decide +kernel, rfl, by decide +kernel, by decide +kernel⟩
theorem bdRecord_flaky_score (kV doc pm : Value) (an : Option Addr) (cdv ct : Value) (us : List Value) (hl : us.length = (["self", "window"] : List Str).length) : bindArgs (PySem.W.fnOf "flaky_score" "Record.flaky_score" (defArgs sRecord_flaky_score) (defBody sRecord_flaky_score) (defScope sRecord_flaky_score) .none kV doc pm an cdv ct) ⟨us, []⟩ = pure ((["self", "window"] : List Str).zip us) := by
  obtain ⟨u0, u1, rfl⟩ := ln2 hl
  rfl
theorem scRecord_calm_length : FnScope ["self", "length", "run"] ["self"] (defScope sRecord_calm_length) := ⟨rfl, rfl, rfl, by decide +kernel, rfl, by decide +kernel, by decide +kernel⟩
theorem bdRecord_calm_length (kV doc pm : Value) (an : Option Addr) (cdv ct : Value) (us : List Value) (hl : us.length = (["self"] : List Str).length) : bindArgs (PySem.W.fnOf "calm_length" "Record.calm_length" (defArgs sRecord_calm_length) (defBody sRecord_calm_length) (defScope sRecord_calm_length) .none kV doc pm an cdv ct) ⟨us, []⟩ = pure ((["self"] : List Str).zip us) := by
  obtain ⟨u0, rfl⟩ := ln1 hl
  rfl
theorem scRecord_move : FnScope ["self", "quarantined"] ["self", "quarantined"] (defScope sRecord_move) := ⟨rfl, rfl, rfl, by decide +kernel, rfl, by decide +kernel, by decide +kernel⟩
theorem bdRecord_move (kV doc pm : Value) (an : Option Addr) (cdv ct : Value) (us : List Value) (hl : us.length = (["self", "quarantined"] : List Str).length) : bindArgs (PySem.W.fnOf "move" "Record.move" (defArgs sRecord_move) (defBody sRecord_move) (defScope sRecord_move) .none kV doc pm an cdv ct) ⟨us, []⟩ = pure ((["self", "quarantined"] : List Str).zip us) := by
  obtain ⟨u0, u1, rfl⟩ := ln2 hl
  rfl
theorem scRecord_keep : FnScope ["self", "run", "rules"] ["self", "run", "rules"] (defScope sRecord_keep) := ⟨rfl, rfl, rfl, by decide +kernel, rfl, by decide +kernel, by decide +kernel⟩
theorem bdRecord_keep (kV doc pm : Value) (an : Option Addr) (cdv ct : Value) (us : List Value) (hl : us.length = (["self", "run", "rules"] : List Str).length) : bindArgs (PySem.W.fnOf "keep" "Record.keep" (defArgs sRecord_keep) (defBody sRecord_keep) (defScope sRecord_keep) .none kV doc pm an cdv ct) ⟨us, []⟩ = pure ((["self", "run", "rules"] : List Str).zip us) := by
  obtain ⟨u0, u1, u2, rfl⟩ := ln3 hl
  rfl
theorem scare_rules : FnScope ["need", "most", "window", "limit", "calm"] ["need", "most", "window", "limit", "calm"] (defScope sare_rules) := ⟨rfl, rfl, rfl, by decide +kernel, rfl, by decide +kernel, by decide +kernel⟩
theorem bdare_rules (kV doc pm : Value) (an : Option Addr) (cdv ct : Value) (us : List Value) (hl : us.length = (["need", "most", "window", "limit", "calm"] : List Str).length) : bindArgs (PySem.W.fnOf "are_rules" "are_rules" (defArgs sare_rules) (defBody sare_rules) (defScope sare_rules) .none kV doc pm an cdv ct) ⟨us, []⟩ = pure ((["need", "most", "window", "limit", "calm"] : List Str).zip us) := by
  obtain ⟨u0, u1, u2, u3, u4, rfl⟩ := ln5 hl
  rfl
theorem scRules_init : FnScope ["self", "need", "most", "window", "limit", "calm"] ["self", "need", "most", "window", "limit", "calm"] (defScope sRules_init) := ⟨rfl, rfl, rfl, by decide +kernel, rfl, by decide +kernel, by decide +kernel⟩
theorem bdRules_init (kV doc pm : Value) (an : Option Addr) (cdv ct : Value) (us : List Value) (hl : us.length = (["self", "need", "most", "window", "limit", "calm"] : List Str).length) : bindArgs (PySem.W.fnOf "__init__" "Rules.__init__" (defArgs sRules_init) (defBody sRules_init) (defScope sRules_init) .none kV doc pm an cdv ct) ⟨us, []⟩ = pure ((["self", "need", "most", "window", "limit", "calm"] : List Str).zip us) := by
  obtain ⟨u0, u1, u2, u3, u4, u5, rfl⟩ := ln6 hl
  rfl
theorem scRun_init : FnScope ["self", "revision", "passed", "tries", "passes"] ["self", "revision", "passed", "tries", "passes"] (defScope sRun_init) := ⟨rfl, rfl, rfl, by decide +kernel, rfl, by decide +kernel, by decide +kernel⟩
theorem bdRun_init (kV doc pm : Value) (an : Option Addr) (cdv ct : Value) (us : List Value) (hl : us.length = (["self", "revision", "passed", "tries", "passes"] : List Str).length) : bindArgs (PySem.W.fnOf "__init__" "Run.__init__" (defArgs sRun_init) (defBody sRun_init) (defScope sRun_init) .none kV doc pm an cdv ct) ⟨us, []⟩ = pure ((["self", "revision", "passed", "tries", "passes"] : List Str).zip us) := by
  obtain ⟨u0, u1, u2, u3, u4, rfl⟩ := ln5 hl
  rfl
theorem scRun_is_clean : FnScope ["self"] ["self"] (defScope sRun_is_clean) := ⟨rfl, rfl, rfl, by decide +kernel, rfl, by decide +kernel, by decide +kernel⟩
theorem bdRun_is_clean (kV doc pm : Value) (an : Option Addr) (cdv ct : Value) (us : List Value) (hl : us.length = (["self"] : List Str).length) : bindArgs (PySem.W.fnOf "is_clean" "Run.is_clean" (defArgs sRun_is_clean) (defBody sRun_is_clean) (defScope sRun_is_clean) .none kV doc pm an cdv ct) ⟨us, []⟩ = pure ((["self"] : List Str).zip us) := by
  obtain ⟨u0, rfl⟩ := ln1 hl
  rfl
theorem scRun_as_numbers : FnScope ["self"] ["self"] (defScope sRun_as_numbers) := ⟨rfl, rfl, rfl, by decide +kernel, rfl, by decide +kernel, by decide +kernel⟩
theorem bdRun_as_numbers (kV doc pm : Value) (an : Option Addr) (cdv ct : Value) (us : List Value) (hl : us.length = (["self"] : List Str).length) : bindArgs (PySem.W.fnOf "as_numbers" "Run.as_numbers" (defArgs sRun_as_numbers) (defBody sRun_as_numbers) (defScope sRun_as_numbers) .none kV doc pm an cdv ct) ⟨us, []⟩ = pure ((["self"] : List Str).zip us) := by
  obtain ⟨u0, rfl⟩ := ln1 hl
  rfl
theorem scoutcome_of_try : FnScope ["bits", "k"] ["bits", "k"] (defScope soutcome_of_try) := ⟨rfl, rfl, rfl, by decide +kernel, rfl, by decide +kernel, by decide +kernel⟩
theorem bdoutcome_of_try (kV doc pm : Value) (an : Option Addr) (cdv ct : Value) (us : List Value) (hl : us.length = (["bits", "k"] : List Str).length) : bindArgs (PySem.W.fnOf "outcome_of_try" "outcome_of_try" (defArgs soutcome_of_try) (defBody soutcome_of_try) (defScope soutcome_of_try) .none kV doc pm an cdv ct) ⟨us, []⟩ = pure ((["bits", "k"] : List Str).zip us) := by
  obtain ⟨u0, u1, rfl⟩ := ln2 hl
  rfl
theorem scmake_run : FnScope ["revision", "bits", "rules", "spare", "tries", "passes"] ["revision", "bits", "rules"] (defScope smake_run) := ⟨rfl, rfl, rfl, by decide +kernel, rfl, by decide +kernel, by decide +kernel⟩
theorem bdmake_run (kV doc pm : Value) (an : Option Addr) (cdv ct : Value) (us : List Value) (hl : us.length = (["revision", "bits", "rules"] : List Str).length) : bindArgs (PySem.W.fnOf "make_run" "make_run" (defArgs smake_run) (defBody smake_run) (defScope smake_run) .none kV doc pm an cdv ct) ⟨us, []⟩ = pure ((["revision", "bits", "rules"] : List Str).zip us) := by
  obtain ⟨u0, u1, u2, rfl⟩ := ln3 hl
  rfl
theorem scare_outcomes : FnScope ["bits", "bit"] ["bits"] (defScope sare_outcomes) := ⟨rfl, rfl, rfl, by decide +kernel, rfl, by decide +kernel, by decide +kernel⟩
theorem bdare_outcomes (kV doc pm : Value) (an : Option Addr) (cdv ct : Value) (us : List Value) (hl : us.length = (["bits"] : List Str).length) : bindArgs (PySem.W.fnOf "are_outcomes" "are_outcomes" (defArgs sare_outcomes) (defBody sare_outcomes) (defScope sare_outcomes) .none kV doc pm an cdv ct) ⟨us, []⟩ = pure ((["bits"] : List Str).zip us) := by
  obtain ⟨u0, rfl⟩ := ln1 hl
  rfl
theorem scis_revision : FnScope ["v"] ["v"] (defScope sis_revision) := ⟨rfl, rfl, rfl, by decide +kernel, rfl, by decide +kernel, by decide +kernel⟩
theorem bdis_revision (kV doc pm : Value) (an : Option Addr) (cdv ct : Value) (us : List Value) (hl : us.length = (["v"] : List Str).length) : bindArgs (PySem.W.fnOf "is_revision" "is_revision" (defArgs sis_revision) (defBody sis_revision) (defScope sis_revision) .none kV doc pm an cdv ct) ⟨us, []⟩ = pure ((["v"] : List Str).zip us) := by
  obtain ⟨u0, rfl⟩ := ln1 hl
  rfl
theorem scRoom_init : FnScope ["self"] ["self"] (defScope sRoom_init) := ⟨rfl, rfl, rfl, by decide +kernel, rfl, by decide +kernel, by decide +kernel⟩
theorem bdRoom_init (kV doc pm : Value) (an : Option Addr) (cdv ct : Value) (us : List Value) (hl : us.length = (["self"] : List Str).length) : bindArgs (PySem.W.fnOf "__init__" "Room.__init__" (defArgs sRoom_init) (defBody sRoom_init) (defScope sRoom_init) .none kV doc pm an cdv ct) ⟨us, []⟩ = pure ((["self"] : List Str).zip us) := by
  obtain ⟨u0, rfl⟩ := ln1 hl
  rfl
theorem scRoom_is_test : FnScope ["self", "x"] ["self", "x"] (defScope sRoom_is_test) := ⟨rfl, rfl, rfl, by decide +kernel, rfl, by decide +kernel, by decide +kernel⟩
theorem bdRoom_is_test (kV doc pm : Value) (an : Option Addr) (cdv ct : Value) (us : List Value) (hl : us.length = (["self", "x"] : List Str).length) : bindArgs (PySem.W.fnOf "is_test" "Room.is_test" (defArgs sRoom_is_test) (defBody sRoom_is_test) (defScope sRoom_is_test) .none kV doc pm an cdv ct) ⟨us, []⟩ = pure ((["self", "x"] : List Str).zip us) := by
  obtain ⟨u0, u1, rfl⟩ := ln2 hl
  rfl
theorem scRoom_are_test_and_revision : FnScope ["self", "x", "v"] ["self", "x", "v"] (defScope sRoom_are_test_and_revision) := ⟨rfl, rfl, rfl, by decide +kernel, rfl, by decide +kernel, by decide +kernel⟩
theorem bdRoom_are_test_and_revision (kV doc pm : Value) (an : Option Addr) (cdv ct : Value) (us : List Value) (hl : us.length = (["self", "x", "v"] : List Str).length) : bindArgs (PySem.W.fnOf "are_test_and_revision" "Room.are_test_and_revision" (defArgs sRoom_are_test_and_revision) (defBody sRoom_are_test_and_revision) (defScope sRoom_are_test_and_revision) .none kV doc pm an cdv ct) ⟨us, []⟩ = pure ((["self", "x", "v"] : List Str).zip us) := by
  obtain ⟨u0, u1, u2, rfl⟩ := ln3 hl
  rfl
theorem scRoom_outcomes_at : FnScope ["self", "x", "v"] ["self", "x", "v"] (defScope sRoom_outcomes_at) := ⟨rfl, rfl, rfl, by decide +kernel, rfl, by decide +kernel, by decide +kernel⟩
theorem bdRoom_outcomes_at (kV doc pm : Value) (an : Option Addr) (cdv ct : Value) (us : List Value) (hl : us.length = (["self", "x", "v"] : List Str).length) : bindArgs (PySem.W.fnOf "outcomes_at" "Room.outcomes_at" (defArgs sRoom_outcomes_at) (defBody sRoom_outcomes_at) (defScope sRoom_outcomes_at) .none kV doc pm an cdv ct) ⟨us, []⟩ = pure ((["self", "x", "v"] : List Str).zip us) := by
  obtain ⟨u0, u1, u2, rfl⟩ := ln3 hl
  rfl
theorem scRoom_run_at : FnScope ["self", "x", "v"] ["self", "x", "v"] (defScope sRoom_run_at) := ⟨rfl, rfl, rfl, by decide +kernel, rfl, by decide +kernel, by decide +kernel⟩
theorem bdRoom_run_at (kV doc pm : Value) (an : Option Addr) (cdv ct : Value) (us : List Value) (hl : us.length = (["self", "x", "v"] : List Str).length) : bindArgs (PySem.W.fnOf "run_at" "Room.run_at" (defArgs sRoom_run_at) (defBody sRoom_run_at) (defScope sRoom_run_at) .none kV doc pm an cdv ct) ⟨us, []⟩ = pure ((["self", "x", "v"] : List Str).zip us) := by
  obtain ⟨u0, u1, u2, rfl⟩ := ln3 hl
  rfl
theorem scRoom_kept_run_at : FnScope ["self", "x", "v", "made"] ["self", "x", "v"] (defScope sRoom_kept_run_at) := ⟨rfl, rfl, rfl, by decide +kernel, rfl, by decide +kernel, by decide +kernel⟩
theorem bdRoom_kept_run_at (kV doc pm : Value) (an : Option Addr) (cdv ct : Value) (us : List Value) (hl : us.length = (["self", "x", "v"] : List Str).length) : bindArgs (PySem.W.fnOf "kept_run_at" "Room.kept_run_at" (defArgs sRoom_kept_run_at) (defBody sRoom_kept_run_at) (defScope sRoom_kept_run_at) .none kV doc pm an cdv ct) ⟨us, []⟩ = pure ((["self", "x", "v"] : List Str).zip us) := by
  obtain ⟨u0, u1, u2, rfl⟩ := ln3 hl
  rfl
theorem scRoom_policy : FnScope ["self", "need", "most", "window", "limit", "calm"] ["self", "need", "most", "window", "limit", "calm"] (defScope sRoom_policy) := ⟨rfl, rfl, rfl, by decide +kernel, rfl, by decide +kernel, by decide +kernel⟩
theorem bdRoom_policy (kV doc pm : Value) (an : Option Addr) (cdv ct : Value) (us : List Value) (hl : us.length = (["self", "need", "most", "window", "limit", "calm"] : List Str).length) : bindArgs (PySem.W.fnOf "policy" "Room.policy" (defArgs sRoom_policy) (defBody sRoom_policy) (defScope sRoom_policy) .none kV doc pm an cdv ct) ⟨us, []⟩ = pure ((["self", "need", "most", "window", "limit", "calm"] : List Str).zip us) := by
  obtain ⟨u0, u1, u2, u3, u4, u5, rfl⟩ := ln6 hl
  rfl
theorem scRoom_tests : FnScope ["self", "n", "x"] ["self", "n"] (defScope sRoom_tests) := ⟨rfl, rfl, rfl, by decide +kernel, rfl, by decide +kernel, by decide +kernel⟩
theorem bdRoom_tests (kV doc pm : Value) (an : Option Addr) (cdv ct : Value) (us : List Value) (hl : us.length = (["self", "n"] : List Str).length) : bindArgs (PySem.W.fnOf "tests" "Room.tests" (defArgs sRoom_tests) (defBody sRoom_tests) (defScope sRoom_tests) .none kV doc pm an cdv ct) ⟨us, []⟩ = pure ((["self", "n"] : List Str).zip us) := by
  obtain ⟨u0, u1, rfl⟩ := ln2 hl
  rfl
theorem scRoom_tell : FnScope ["self", "x", "v", "bits"] ["self", "x", "v", "bits"] (defScope sRoom_tell) := ⟨rfl, rfl, rfl, by decide +kernel, rfl, by decide +kernel, by decide +kernel⟩
theorem bdRoom_tell (kV doc pm : Value) (an : Option Addr) (cdv ct : Value) (us : List Value) (hl : us.length = (["self", "x", "v", "bits"] : List Str).length) : bindArgs (PySem.W.fnOf "tell" "Room.tell" (defArgs sRoom_tell) (defBody sRoom_tell) (defScope sRoom_tell) .none kV doc pm an cdv ct) ⟨us, []⟩ = pure ((["self", "x", "v", "bits"] : List Str).zip us) := by
  obtain ⟨u0, u1, u2, u3, rfl⟩ := ln4 hl
  rfl
theorem scRoom_outcome : FnScope ["self", "x", "v", "k"] ["self", "x", "v", "k"] (defScope sRoom_outcome) := ⟨rfl, rfl, rfl, by decide +kernel, rfl, by decide +kernel, by decide +kernel⟩
theorem bdRoom_outcome (kV doc pm : Value) (an : Option Addr) (cdv ct : Value) (us : List Value) (hl : us.length = (["self", "x", "v", "k"] : List Str).length) : bindArgs (PySem.W.fnOf "outcome" "Room.outcome" (defArgs sRoom_outcome) (defBody sRoom_outcome) (defScope sRoom_outcome) .none kV doc pm an cdv ct) ⟨us, []⟩ = pure ((["self", "x", "v", "k"] : List Str).zip us) := by
  obtain ⟨u0, u1, u2, u3, rfl⟩ := ln4 hl
  rfl
theorem scRoom_dry : FnScope ["self", "x", "v"] ["self", "x", "v"] (defScope sRoom_dry) := ⟨rfl, rfl, rfl, by decide +kernel, rfl, by decide +kernel, by decide +kernel⟩
theorem bdRoom_dry (kV doc pm : Value) (an : Option Addr) (cdv ct : Value) (us : List Value) (hl : us.length = (["self", "x", "v"] : List Str).length) : bindArgs (PySem.W.fnOf "dry" "Room.dry" (defArgs sRoom_dry) (defBody sRoom_dry) (defScope sRoom_dry) .none kV doc pm an cdv ct) ⟨us, []⟩ = pure ((["self", "x", "v"] : List Str).zip us) := by
  obtain ⟨u0, u1, u2, rfl⟩ := ln3 hl
  rfl
theorem scRoom_run : FnScope ["self", "x", "v", "made"] ["self", "x", "v"] (defScope sRoom_run) := ⟨rfl, rfl, rfl, by decide +kernel, rfl, by decide +kernel, by decide +kernel⟩
theorem bdRoom_run (kV doc pm : Value) (an : Option Addr) (cdv ct : Value) (us : List Value) (hl : us.length = (["self", "x", "v"] : List Str).length) : bindArgs (PySem.W.fnOf "run" "Room.run" (defArgs sRoom_run) (defBody sRoom_run) (defScope sRoom_run) .none kV doc pm an cdv ct) ⟨us, []⟩ = pure ((["self", "x", "v"] : List Str).zip us) := by
  obtain ⟨u0, u1, u2, rfl⟩ := ln3 hl
  rfl
theorem scRoom_check : FnScope ["self", "v", "tries", "stopping", "put_aside", "x", "verdict", "quarantined_before", "made"] ["self", "v"] (defScope sRoom_check) := ⟨rfl, rfl, rfl, by decide +kernel, rfl, by decide +kernel, by decide +kernel⟩
theorem bdRoom_check (kV doc pm : Value) (an : Option Addr) (cdv ct : Value) (us : List Value) (hl : us.length = (["self", "v"] : List Str).length) : bindArgs (PySem.W.fnOf "check" "Room.check" (defArgs sRoom_check) (defBody sRoom_check) (defScope sRoom_check) .none kV doc pm an cdv ct) ⟨us, []⟩ = pure ((["self", "v"] : List Str).zip us) := by
  obtain ⟨u0, u1, rfl⟩ := ln2 hl
  rfl
theorem scRoom_history : FnScope ["self", "x", "answer", "kept_run"] ["self", "x"] (defScope sRoom_history) := ⟨rfl, rfl, rfl, by decide +kernel, rfl, by decide +kernel, by decide +kernel⟩
theorem bdRoom_history (kV doc pm : Value) (an : Option Addr) (cdv ct : Value) (us : List Value) (hl : us.length = (["self", "x"] : List Str).length) : bindArgs (PySem.W.fnOf "history" "Room.history" (defArgs sRoom_history) (defBody sRoom_history) (defScope sRoom_history) .none kV doc pm an cdv ct) ⟨us, []⟩ = pure ((["self", "x"] : List Str).zip us) := by
  obtain ⟨u0, u1, rfl⟩ := ln2 hl
  rfl
theorem scRoom_score : FnScope ["self", "x", "record", "quarantined"] ["self", "x"] (defScope sRoom_score) := ⟨rfl, rfl, rfl, by decide +kernel, rfl, by decide +kernel, by decide +kernel⟩
theorem bdRoom_score (kV doc pm : Value) (an : Option Addr) (cdv ct : Value) (us : List Value) (hl : us.length = (["self", "x"] : List Str).length) : bindArgs (PySem.W.fnOf "score" "Room.score" (defArgs sRoom_score) (defBody sRoom_score) (defScope sRoom_score) .none kV doc pm an cdv ct) ⟨us, []⟩ = pure ((["self", "x"] : List Str).zip us) := by
  obtain ⟨u0, u1, rfl⟩ := ln2 hl
  rfl
theorem scRoom_held : FnScope ["self", "quarantined", "x", "record"] ["self"] (defScope sRoom_held) := ⟨rfl, rfl, rfl, by decide +kernel, rfl, by decide +kernel, by decide +kernel⟩
theorem bdRoom_held (kV doc pm : Value) (an : Option Addr) (cdv ct : Value) (us : List Value) (hl : us.length = (["self"] : List Str).length) : bindArgs (PySem.W.fnOf "held" "Room.held" (defArgs sRoom_held) (defBody sRoom_held) (defScope sRoom_held) .none kV doc pm an cdv ct) ⟨us, []⟩ = pure ((["self"] : List Str).zip us) := by
  obtain ⟨u0, rfl⟩ := ln1 hl
  rfl
theorem scRoom_hold : FnScope ["self", "x", "on", "wanted"] ["self", "x", "on"] (defScope sRoom_hold) := ⟨rfl, rfl, rfl, by decide +kernel, rfl, by decide +kernel, by decide +kernel⟩
theorem bdRoom_hold (kV doc pm : Value) (an : Option Addr) (cdv ct : Value) (us : List Value) (hl : us.length = (["self", "x", "on"] : List Str).length) : bindArgs (PySem.W.fnOf "hold" "Room.hold" (defArgs sRoom_hold) (defBody sRoom_hold) (defScope sRoom_hold) .none kV doc pm an cdv ct) ⟨us, []⟩ = pure ((["self", "x", "on"] : List Str).zip us) := by
  obtain ⟨u0, u1, u2, rfl⟩ := ln3 hl
  rfl
theorem scRoom_odds : FnScope ["self", "a", "q"] ["self", "a", "q"] (defScope sRoom_odds) := ⟨rfl, rfl, rfl, by decide +kernel, rfl, by decide +kernel, by decide +kernel⟩
theorem bdRoom_odds (kV doc pm : Value) (an : Option Addr) (cdv ct : Value) (us : List Value) (hl : us.length = (["self", "a", "q"] : List Str).length) : bindArgs (PySem.W.fnOf "odds" "Room.odds" (defArgs sRoom_odds) (defBody sRoom_odds) (defScope sRoom_odds) .none kV doc pm an cdv ct) ⟨us, []⟩ = pure ((["self", "a", "q"] : List Str).zip us) := by
  obtain ⟨u0, u1, u2, rfl⟩ := ln3 hl
  rfl
theorem scend_of_call : FnScope ["calls", "start", "kind", "end"] ["calls", "start"] (defScope send_of_call) := ⟨rfl, rfl, rfl, by decide +kernel, rfl, by decide +kernel, by decide +kernel⟩
theorem bdend_of_call (kV doc pm : Value) (an : Option Addr) (cdv ct : Value) (us : List Value) (hl : us.length = (["calls", "start"] : List Str).length) : bindArgs (PySem.W.fnOf "end_of_call" "end_of_call" (defArgs send_of_call) (defBody send_of_call) (defScope send_of_call) .none kV doc pm an cdv ct) ⟨us, []⟩ = pure ((["calls", "start"] : List Str).zip us) := by
  obtain ⟨u0, u1, rfl⟩ := ln2 hl
  rfl
theorem scanswer_to_call : FnScope ["room", "kind", "numbers"] ["room", "kind", "numbers"] (defScope sanswer_to_call) := ⟨rfl, rfl, rfl, by decide +kernel, rfl, by decide +kernel, by decide +kernel⟩
theorem bdanswer_to_call (kV doc pm : Value) (an : Option Addr) (cdv ct : Value) (us : List Value) (hl : us.length = (["room", "kind", "numbers"] : List Str).length) : bindArgs (PySem.W.fnOf "answer_to_call" "answer_to_call" (defArgs sanswer_to_call) (defBody sanswer_to_call) (defScope sanswer_to_call) .none kV doc pm an cdv ct) ⟨us, []⟩ = pure ((["room", "kind", "numbers"] : List Str).zip us) := by
  obtain ⟨u0, u1, u2, rfl⟩ := ln3 hl
  rfl
theorem scanswers : FnScope ["calls", "room", "answered", "place", "end", "answer"] ["calls"] (defScope sanswers) := ⟨rfl, rfl, rfl, by decide +kernel, rfl, by decide +kernel, by decide +kernel⟩
theorem bdanswers (kV doc pm : Value) (an : Option Addr) (cdv ct : Value) (us : List Value) (hl : us.length = (["calls"] : List Str).length) : bindArgs (PySem.W.fnOf "answers" "answers" (defArgs sanswers) (defBody sanswers) (defScope sanswers) .none kV doc pm an cdv ct) ⟨us, []⟩ = pure ((["calls"] : List Str).zip us) := by
  obtain ⟨u0, rfl⟩ := ln1 hl
  rfl
/-- the classes -/
structure Cs where
  cRecord : Addr
  cRules : Addr
  cRun : Addr
  cRoom : Addr
/-- what of the text the proofs read -/
structure Txt (K : PySem.W.Frag) (mg : Str → Option Value) (a : Cs) : Prop where
  clRecord : Cls K a.cRecord
  mgRecord : mg "Record" = some (.ref a.cRecord)
  nRecord_kept : NoAttr K a.cRecord "kept"
  nRecord_count : NoAttr K a.cRecord "count"
  nRecord_quarantined : NoAttr K a.cRecord "quarantined"
  clRules : Cls K a.cRules
  mgRules : mg "Rules" = some (.ref a.cRules)
  nRules_need : NoAttr K a.cRules "need"
  nRules_most : NoAttr K a.cRules "most"
  nRules_window : NoAttr K a.cRules "window"
  nRules_limit : NoAttr K a.cRules "limit"
  nRules_calm : NoAttr K a.cRules "calm"
  clRun : Cls K a.cRun
  mgRun : mg "Run" = some (.ref a.cRun)
  nRun_revision : NoAttr K a.cRun "revision"
  nRun_passed : NoAttr K a.cRun "passed"
  nRun_tries : NoAttr K a.cRun "tries"
  nRun_passes : NoAttr K a.cRun "passes"
  clRoom : Cls K a.cRoom
  mgRoom : mg "Room" = some (.ref a.cRoom)
  nRoom_rules : NoAttr K a.cRoom "rules"
  nRoom_records : NoAttr K a.cRoom "records"
  nRoom_told : NoAttr K a.cRoom "told"
  kMOST_REMEMBERED : ∃ t, mg "MOST_REMEMBERED" = some (.int (64) t)
  kMOST_TRIES : ∃ t, mg "MOST_TRIES" = some (.int (9) t)
  kWIDEST_WINDOW : ∃ t, mg "WIDEST_WINDOW" = some (.int (20) t)
  kLONGEST_CALM : ∃ t, mg "LONGEST_CALM" = some (.int (20) t)
  kOUT_OF_RANGE : ∃ t, mg "OUT_OF_RANGE" = some (.int (-1) t)
  kNOT_OUTCOMES : ∃ t, mg "NOT_OUTCOMES" = some (.int (-2) t)
  kTOO_MUCH_TOLD : ∃ t, mg "TOO_MUCH_TOLD" = some (.int (-7) t)
  kMOST_TESTS : ∃ t, mg "MOST_TESTS" = some (.int (12) t)
  kLAST_REVISION : ∃ t, mg "LAST_REVISION" = some (.int (999) t)
  kLAST_TRY : ∃ t, mg "LAST_TRY" = some (.int (999) t)
  kMOST_OUTCOMES : ∃ t, mg "MOST_OUTCOMES" = some (.int (12) t)
  kMOST_TOLD : ∃ t, mg "MOST_TOLD" = some (.int (40) t)
  kMOST_WAYS : ∃ t, mg "MOST_WAYS" = some (.int (1000) t)
  kPOLICY : ∃ t, mg "POLICY" = some (.int (0) t)
  kTESTS : ∃ t, mg "TESTS" = some (.int (1) t)
  kTELL : ∃ t, mg "TELL" = some (.int (2) t)
  kOUTCOME : ∃ t, mg "OUTCOME" = some (.int (3) t)
  kDRY : ∃ t, mg "DRY" = some (.int (4) t)
  kRUN : ∃ t, mg "RUN" = some (.int (5) t)
  kCHECK : ∃ t, mg "CHECK" = some (.int (6) t)
  kHISTORY : ∃ t, mg "HISTORY" = some (.int (7) t)
  kSCORE : ∃ t, mg "SCORE" = some (.int (8) t)
  kHELD : ∃ t, mg "HELD" = some (.int (9) t)
  kHOLD : ∃ t, mg "HOLD" = some (.int (10) t)
  blen : mg "len" = none
  bmin : mg "min" = none
  brange : mg "range" = none
  ball : mg "all" = none
  blist : mg "list" = none
  bsum : mg "sum" = none
  benumerate : mg "enumerate" = none
  bzip : mg "zip" = none
/-- the defs of the text -/
structure Funs (K : PySem.W.Frag) (mg : Str → Option Value) (a : Cs) : Prop where
  fcommon_divisor : DFun K mg "common_divisor" scommon_divisor
  fways_by_passes : DFun K mg "ways_by_passes" sways_by_passes
  fodds_of_passing : DFun K mg "odds_of_passing" sodds_of_passing
  fRecord_init : IFun K mg a.cRecord "Record" "Record.__init__" sRecord_init
  fRecord_flaky_score : MFun K a.cRecord "flaky_score" "Record.flaky_score" sRecord_flaky_score
  fRecord_calm_length : MFun K a.cRecord "calm_length" "Record.calm_length" sRecord_calm_length
  fRecord_move : MFun K a.cRecord "move" "Record.move" sRecord_move
  fRecord_keep : MFun K a.cRecord "keep" "Record.keep" sRecord_keep
  fare_rules : DFun K mg "are_rules" sare_rules
  fRules_init : IFun K mg a.cRules "Rules" "Rules.__init__" sRules_init
  fRun_init : IFun K mg a.cRun "Run" "Run.__init__" sRun_init
  fRun_is_clean : MFun K a.cRun "is_clean" "Run.is_clean" sRun_is_clean
  fRun_as_numbers : MFun K a.cRun "as_numbers" "Run.as_numbers" sRun_as_numbers
  foutcome_of_try : DFun K mg "outcome_of_try" soutcome_of_try
  fmake_run : DFun K mg "make_run" smake_run
  fare_outcomes : DFun K mg "are_outcomes" sare_outcomes
  fis_revision : DFun K mg "is_revision" sis_revision
  fRoom_init : IFun K mg a.cRoom "Room" "Room.__init__" sRoom_init
  fRoom_is_test : MFun K a.cRoom "is_test" "Room.is_test" sRoom_is_test
  fRoom_are_test_and_revision : MFun K a.cRoom "are_test_and_revision" "Room.are_test_and_revision" sRoom_are_test_and_revision
  fRoom_outcomes_at : MFun K a.cRoom "outcomes_at" "Room.outcomes_at" sRoom_outcomes_at
  fRoom_run_at : MFun K a.cRoom "run_at" "Room.run_at" sRoom_run_at
  fRoom_kept_run_at : MFun K a.cRoom "kept_run_at" "Room.kept_run_at" sRoom_kept_run_at
  fRoom_policy : MFun K a.cRoom "policy" "Room.policy" sRoom_policy
  fRoom_tests : MFun K a.cRoom "tests" "Room.tests" sRoom_tests
  fRoom_tell : MFun K a.cRoom "tell" "Room.tell" sRoom_tell
  fRoom_outcome : MFun K a.cRoom "outcome" "Room.outcome" sRoom_outcome
  fRoom_dry : MFun K a.cRoom "dry" "Room.dry" sRoom_dry
  fRoom_run : MFun K a.cRoom "run" "Room.run" sRoom_run
  fRoom_check : MFun K a.cRoom "check" "Room.check" sRoom_check
  fRoom_history : MFun K a.cRoom "history" "Room.history" sRoom_history
  fRoom_score : MFun K a.cRoom "score" "Room.score" sRoom_score
  fRoom_held : MFun K a.cRoom "held" "Room.held" sRoom_held
  fRoom_hold : MFun K a.cRoom "hold" "Room.hold" sRoom_hold
  fRoom_odds : MFun K a.cRoom "odds" "Room.odds" sRoom_odds
  fend_of_call : DFun K mg "end_of_call" send_of_call
  fanswer_to_call : DFun K mg "answer_to_call" sanswer_to_call
  fanswers : DFun K mg "answers" sanswers
def dWHOLE_NUMBERS : List (Int × Int) := [(0, 5), (1, 1), (2, 2), (3, 3), (4, 2), (5, 2), (6, 1), (7, 1), (8, 1), (9, 0), (10, 2), (11, 2)]
abbrev DictWHOLE_NUMBERS (K : PySem.W.Frag) (mg : Str → Option Value) : Prop := ∃ d, mg "WHOLE_NUMBERS" = some (.ref d) ∧ ∀ (P : Program) (w : World), KD P w K d dWHOLE_NUMBERS
end TR
end
-- TRDefs
section
set_option Elab.async false
set_option linter.all false
set_option maxRecDepth 100000
set_option maxHeartbeats 2000000
namespace TR
open PySem PySem.Spec PyProof.Rows L2

/-! ### lists in pairs -/
theorem paired_len {α β : Type} {R : α → β → Prop} {l : List α} {m : List β} (h : Paired R l m) : l.length = m.length := Paired.length h
theorem paired_get {α β : Type} {R : α → β → Prop} {l : List α} {m : List β} (h : Paired R l m) : ∀ {i : Nat} {y : β}, m[i]? = some y → ∃ x, l[i]? = some x ∧ R x y := by
  induction h with
  | nil => intro i y e; simp at e
  | @cons a b l m r t ih =>
    intro i y e
    cases i with
    | zero =>
      have e : b = y := Option.some.inj e
      subst e
      exact ⟨a, rfl, r⟩
    | succ i => exact ih (i := i) e
theorem paired_get' {α β : Type} {R : α → β → Prop} {l : List α} {m : List β} (h : Paired R l m) : ∀ {i : Nat} {x : α}, l[i]? = some x → ∃ y, m[i]? = some y ∧ R x y := by
  induction h with
  | nil => intro i y e; simp at e
  | @cons a b l m r t ih =>
    intro i y e
    cases i with
    | zero =>
      have e : a = y := Option.some.inj e
      subst e
      exact ⟨b, rfl, r⟩
    | succ i => exact ih (i := i) e
theorem paired_imp {α β : Type} {R S : α → β → Prop} {l : List α} {m : List β} (h : Paired R l m) (f : ∀ a b, R a b → S a b) : Paired S l m := Paired.mapP h f
theorem paired_imp_mem {α β : Type} {R S : α → β → Prop} {l : List α} {m : List β} (h : Paired R l m) (f : ∀ a ∈ l, ∀ b, R a b → S a b) : Paired S l m := by
  induction h with
  | nil => exact .nil
  | @cons a b l m r t ih => exact .cons (f a List.mem_cons_self b r) (ih fun z hz => f z (List.mem_cons_of_mem _ hz))
theorem paired_set {α β : Type} {R S : α → β → Prop} {l : List α} {m : List β} (h : Paired R l m) : ∀ {i : Nat} {x : α} {y : β}, l.Nodup → l[i]? = some x → (∀ a b, a ≠ x → R a b → S a b) → S x y → Paired S l (m.set i y) := by
  induction h with
  | nil => intro i x y _ e _ _; simp at e
  | @cons a b l m r t ih =>
    intro i x y nd e f s
    obtain ⟨n1, n2⟩ := List.nodup_cons.mp nd
    cases i with
    | zero =>
      have e : a = x := Option.some.inj e
      subst e
      exact .cons s (paired_imp_mem t fun z hz b r => f z b (fun q => n1 (q ▸ hz)) r)
    | succ i =>
      have e : l[i]? = some x := e
      refine .cons (f a b (fun q => n1 (q ▸ List.mem_of_getElem? e)) r) (ih n2 e f s)
theorem paired_take {α β : Type} {R : α → β → Prop} {l : List α} {m : List β} (h : Paired R l m) : ∀ n, Paired R (l.take n) (m.take n) := by
  induction h with
  | nil => intro n; simp; exact .nil
  | @cons a b l m r t ih =>
    intro n
    cases n with
    | zero => exact .nil
    | succ n => exact .cons r (ih n)

/-! ### what changes and what stays -/
/-- all but the object at p is as it was -/
def But (p : Addr) (H H' : Hp) : Prop := ∀ b o, H b = some o → b ≠ p → H' b = some o
theorem But.trans {p : Addr} {H H1 H2 : Hp} (a : But p H H1) (b : But p H1 H2) : But p H H2 := fun c o h n => b c o (a c o h n) n
theorem _root_.L2.Same.but {p : Addr} {H H' : Hp} (a : Same H H') : But p H H' := fun c o h _ => a c o h
theorem But.upd {p : Addr} {H : Hp} {o : HO} : But p H (upd H p o) := fun b o h n => by rw [upd_ne n]; exact h
theorem same_new {p : Addr} {H : Hp} {o : HO} (h : H p = none) : Same H (upd H p o) := fun b o e => by rw [upd_ne (ne_of_none e h)]; exact e
/-- what no call changes: all but rooms, records and dicts by tuples -/
def Fix (a : Cs) : HO → Prop
  | .ins C _ _ => C ≠ a.cRecord ∧ C ≠ a.cRoom
  | .dT _ => False
  | _ => True
def Frm (a : Cs) (H H' : Hp) : Prop := ∀ b o, H b = some o → Fix a o → H' b = some o
theorem Frm.refl {a : Cs} {H : Hp} : Frm a H H := fun _ _ h _ => h
theorem Frm.trans {a : Cs} {H H1 H2 : Hp} (x : Frm a H H1) (y : Frm a H1 H2) : Frm a H H2 := fun b o h f => y b o (x b o h f) f
theorem Frm.same {a : Cs} {H H' : Hp} (x : Same H H') : Frm a H H' := fun b o h _ => x b o h
theorem Frm.but {a : Cs} {H H' : Hp} {p : Addr} (x : But p H H') (h : ∀ o, H p = some o → ¬ Fix a o) : Frm a H H' := fun b o e f => x b o e fun q => by subst q; exact h o e f
/-- the classes differ -/
structure Dif (a : Cs) : Prop where
  runRec : a.cRun ≠ a.cRecord
  runRoom : a.cRun ≠ a.cRoom
  rulRec : a.cRules ≠ a.cRecord
  rulRoom : a.cRules ≠ a.cRoom
  recRoom : a.cRecord ≠ a.cRoom

/-! ### the objects -/
def runF (v : Int) (p : Bool) (t k : Int) : List (Str × V) := [("revision", .int v), ("passed", .bl p), ("tries", .int t), ("passes", .int k)]
def recF (l : Addr) (c : Int) (q : Bool) : List (Str × V) := [("kept", .ref l), ("count", .int c), ("quarantined", .bl q)]
def rulF (n m w l c : Int) : List (Str × V) := [("need", .int n), ("most", .int m), ("window", .int w), ("limit", .int l), ("calm", .int c)]
def roomF (r l d : Addr) : List (Str × V) := [("rules", .ref r), ("records", .ref l), ("told", .ref d)]
def bitV (b : Bool) : V := .int (Vamrqj.bit b)
section
variable (a : Cs) (q : Addr → Prop) (H : Hp)
def RunAt (p : Addr) (k : Vamrqj.Kept) : Prop := ∃ dx, H p = some (.ins a.cRun dx (runF (k.rev : Int) k.run.passed (k.run.tries : Int) (k.run.passes : Int)))
def RunsAt (l : Addr) (ks : List Vamrqj.Kept) : Prop := ¬ q l ∧ ks.length ≤ 64 ∧ ∃ ps : List Addr, H l = some (.lst (ps.map V.ref)) ∧ Paired (RunAt a H) ps ks
def RecAt (p : Addr) (t : Vamrqj.Test) : Prop := ∃ dx l, H p = some (.ins a.cRecord dx (recF l (t.since : Int) t.held)) ∧ RunsAt a q H l t.runs
def RulAt (p : Addr) (y : Vamrqj.Policy) : Prop := ∃ dx, H p = some (.ins a.cRules dx (rulF (y.need : Int) (y.most : Int) (y.window : Int) (y.limit : Int) (y.calm : Int)))
def BitsAt (p : Addr) (bs : List Bool) : Prop := ¬ q p ∧ H p = some (.lst (bs.map bitV))
def Said (kvs : List (List Key × V)) (o : Vamrqj.Oracle) : Prop := ∀ x v : Nat, match o.find? (isKey x v) with
  | none => valV kvs [.inl (x : Int), .inl (v : Int)] = none
  | some t => ∃ p, valV kvs [.inl (x : Int), .inl (v : Int)] = some (.ref p) ∧ BitsAt q H p t.bits
def ToldAt (d : Addr) (o : Vamrqj.Oracle) : Prop := ∃ kvs, H d = some (.dT kvs) ∧ kvs.length = o.length ∧ Said q H kvs o
/-- the room at r is in the state s; no list of its stands where q says -/
def RoomAt (r : Addr) (s : Vamrqj.State) : Prop := ∃ dx pr pl pd, ∃ ps : List Addr, H r = some (.ins a.cRoom dx (roomF pr pl pd)) ∧ RulAt a H pr s.policy ∧ ¬ q pl ∧ H pl = some (.lst (ps.map V.ref)) ∧ ps.Nodup ∧
  Paired (RecAt a q H) ps s.tests ∧ ToldAt q H pd s.oracle
end
section
variable {a : Cs} {q : Addr → Prop} {H H' : Hp}
theorem RunAt.frm {p : Addr} {k : Vamrqj.Kept} (d : Dif a) (h : RunAt a H p k) (f : Frm a H H') : RunAt a H' p k := by
  obtain ⟨dx, h⟩ := h
  exact ⟨dx, f _ _ h ⟨d.runRec, d.runRoom⟩⟩
theorem RunsAt.frm {l : Addr} {ks : List Vamrqj.Kept} (d : Dif a) (h : RunsAt a q H l ks) (f : Frm a H H') : RunsAt a q H' l ks := by
  obtain ⟨n, z, ps, h, r⟩ := h
  exact ⟨n, z, ps, f _ _ h trivial, paired_imp r fun p k x => x.frm d f⟩
theorem RulAt.frm {p : Addr} {y : Vamrqj.Policy} (d : Dif a) (h : RulAt a H p y) (f : Frm a H H') : RulAt a H' p y := by
  obtain ⟨dx, h⟩ := h
  exact ⟨dx, f _ _ h ⟨d.rulRec, d.rulRoom⟩⟩
theorem BitsAt.frm {p : Addr} {bs : List Bool} (h : BitsAt q H p bs) (f : Frm a H H') : BitsAt q H' p bs := ⟨h.1, f _ _ h.2 trivial⟩
theorem Said.frm {kvs : List (List Key × V)} {o : Vamrqj.Oracle} (h : Said q H kvs o) (f : Frm a H H') : Said q H' kvs o := fun x v => by
  have := h x v
  split
  · rename_i e
    rw [e] at this
    exact this
  · rename_i t e
    rw [e] at this
    obtain ⟨p, h1, h2⟩ := this
    exact ⟨p, h1, h2.frm f⟩
theorem RecAt.same {p : Addr} {t : Vamrqj.Test} (d : Dif a) (h : RecAt a q H p t) (f : Same H H') : RecAt a q H' p t := by
  obtain ⟨dx, l, h1, h2⟩ := h
  exact ⟨dx, l, f _ _ h1, h2.frm d (Frm.same f)⟩
/-- another record's object has changed -/
theorem RecAt.but {p p' : Addr} {t t' : Vamrqj.Test} (d : Dif a) (h : RecAt a q H p t) (h' : RecAt a q H p' t') (f : But p' H H') (n : p ≠ p') : RecAt a q H' p t := by
  obtain ⟨dx, l, h1, h2⟩ := h
  obtain ⟨dx', l', h1', h2'⟩ := h'
  refine ⟨dx, l, f _ _ h1 n, h2.frm d (Frm.but f fun o e z => ?_)⟩
  rw [h1'] at e
  cases e
  exact z.1 rfl
theorem RecAt.frm' {p : Addr} {t : Vamrqj.Test} (h : RecAt a q H p t) : ∀ o, H p = some o → ¬ Fix a o := by
  obtain ⟨dx, l, h1, h2⟩ := h
  intro o e z
  rw [h1] at e
  cases e
  exact z.1 rfl
theorem ToldAt.frm' {d : Addr} {o : Vamrqj.Oracle} (h : ToldAt q H d o) : ∀ u, H d = some u → ¬ Fix a u := by
  obtain ⟨kvs, h, _⟩ := h
  intro u e z
  rw [h] at e
  cases e
  exact z
theorem ToldAt.keeps {d : Addr} {o : Vamrqj.Oracle} (h : ToldAt q H d o) (f : Frm a H H') (k : ∀ kvs, H d = some (.dT kvs) → H' d = some (.dT kvs)) : ToldAt q H' d o := by
  obtain ⟨kvs, h, l, s⟩ := h
  exact ⟨kvs, k kvs h, l, s.frm f⟩
theorem RoomAt.same {r : Addr} {s : Vamrqj.State} (d : Dif a) (h : RoomAt a q H r s) (f : Same H H') : RoomAt a q H' r s := by
  obtain ⟨dx, pr, pl, pd, ps, h1, h2, h3, h4, h5, h6, h7⟩ := h
  exact ⟨dx, pr, pl, pd, ps, f _ _ h1, h2.frm d (Frm.same f), h3, f _ _ h4, h5, paired_imp h6 fun p t x => x.same d f, h7.keeps (a := a) (Frm.same f) fun kvs e => f _ _ e⟩
theorem RunsAt.weak {q' : Addr → Prop} {l : Addr} {ks : List Vamrqj.Kept} (h : RunsAt a q H l ks) (w : ∀ x, q' x → q x) : RunsAt a q' H l ks := ⟨fun z => h.1 (w _ z), h.2⟩
theorem RecAt.weak {q' : Addr → Prop} {p : Addr} {t : Vamrqj.Test} (h : RecAt a q H p t) (w : ∀ x, q' x → q x) : RecAt a q' H p t := by
  obtain ⟨dx, l, h1, h2⟩ := h
  exact ⟨dx, l, h1, h2.weak w⟩
/-- what the record reads is as it was -/
theorem RecAt.keep {p : Addr} {t : Vamrqj.Test} (d : Dif a) (h : RecAt a q H p t) (f : Frm a H H') (k : ∀ o, H p = some o → H' p = some o) : RecAt a q H' p t := by
  obtain ⟨dx, l, h1, h2⟩ := h
  exact ⟨dx, l, k _ h1, h2.frm d f⟩
/-- a list that q names has changed -/
theorem RecAt.out {p q0 : Addr} {t : Vamrqj.Test} {xs : List V} (h : RecAt a q H p t) (h0 : q q0) (hq : H q0 = some (.lst xs)) (f : But q0 H H') : RecAt a q H' p t := by
  have nI : ∀ {p C dx : Addr} {fs : List (Str × V)}, H p = some (.ins C dx fs) → p ≠ q0 := fun {p C dx fs} e z => by
    rw [z, hq] at e
    cases e
  obtain ⟨dx, l, e, n, z, us, e2, e3⟩ := h
  exact ⟨dx, l, f _ _ e (nI e), n, z, us, f _ _ e2 (fun y => n (y ▸ h0)), paired_imp e3 fun p k ⟨dx, e⟩ => ⟨dx, f _ _ e (nI e)⟩⟩
theorem RoomAt.out {r q0 : Addr} {s : Vamrqj.State} {xs : List V} (h : RoomAt a q H r s) (h0 : q q0) (hq : H q0 = some (.lst xs)) (f : But q0 H H') : RoomAt a q H' r s := by
  have nI : ∀ {p C dx : Addr} {fs : List (Str × V)}, H p = some (.ins C dx fs) → p ≠ q0 := fun {p C dx fs} e z => by
    rw [z, hq] at e
    cases e
  obtain ⟨dx, pr, pl, pd, ps, h1, ⟨d2, h2⟩, h3, h4, h5, h6, kvs, h7, h8, h9⟩ := h
  refine ⟨dx, pr, pl, pd, ps, f _ _ h1 (nI h1), ⟨d2, f _ _ h2 (nI h2)⟩, h3, f _ _ h4 (fun y => h3 (y ▸ h0)), h5, paired_imp h6 fun p t z => z.out h0 hq f, kvs, f _ _ h7 fun z => ?_, h8, fun x v => ?_⟩
  · rw [z, hq] at h7
    cases h7
  · have := h9 x v
    split
    · rename_i e
      rw [e] at this
      exact this
    · rename_i t e
      rw [e] at this
      obtain ⟨p, z1, z2, z3⟩ := this
      exact ⟨p, z1, z2, f _ _ z3 (fun y => z2 (y ▸ h0))⟩
end
end TR
end
-- TRRun
section
set_option Elab.async false
set_option linter.all false
set_option maxRecDepth 100000
set_option maxHeartbeats 2000000
namespace TR
open PySem PySem.Spec PyProof.Rows L2
variable {P : Program} {w : World} {K : PySem.W.Frag} {mg : Str → Option Value} {base : Heap} {a : Cs}
theorem ite_bit {b : Bool} {σ : L2.St} {H : Hp} {Q : VK} (h : Q (bitV b) H) : if b = true then tC (.int 1) σ H Q else tC (.int 0) σ H Q := by
  cases b with
  | true => rw [if_pos rfl]; exact h
  | false => rw [if_neg Bool.false_ne_true]; exact h

/-! ### Run -/
def spRun_init (a : Cs) : Sp := fun vs H Q _ => ∃ (p dx : Addr) (k : Vamrqj.Kept), vs = [.ref p, .int (k.rev : Int), .bl k.run.passed, .int (k.run.tries : Int), .int (k.run.passes : Int)] ∧ H p = some (.ins a.cRun dx []) ∧
  ∀ H' : Hp, RunAt a H' p k → But p H H' → Q .non H'
theorem okRun_init (F : IFun K mg a.cRun "Run" "Run.__init__" sRun_init) (T : Txt K mg a) : IOk P w K mg base a.cRun "Run" 1 ["self", "revision", "passed", "tries", "passes"] (spRun_init a) := by
  refine F.ok scRun_init bdRun_init (fun vs H Q E h => ?_) (fun f cdv A outer s H vs Q E hr h => ?_)
  · obtain ⟨p, dx, k, rfl, _⟩ := h
    rfl
  · obtain ⟨p, dx, k, rfl, hp, hk⟩ := h
    refine ⟨_, pss_cons (ps_fld (pv 0) (pv 1) rfl) (pss_cons (ps_fld (pv 0) (pv 2) rfl) (pss_cons (ps_fld (pv 0) (pv 3) rfl) (pss_one (ps_fld (pv 0) (pv 4) rfl)))), ?_⟩
    dsimp only [cxOf, Cx.nox]
    refine ⟨_, rfl, _, rfl, p, a.cRun, dx, _, rfl, hp, T.clRun, T.nRun_revision, (by show (0 : Nat) < 1000; decide), ?_⟩
    refine ⟨_, rfl, _, rfl, p, a.cRun, dx, _, rfl, upd_same, T.clRun, T.nRun_passed, (by show (1 : Nat) < 1000; decide), ?_⟩
    refine ⟨_, rfl, _, rfl, p, a.cRun, dx, _, rfl, upd_same, T.clRun, T.nRun_tries, (by show (2 : Nat) < 1000; decide), ?_⟩
    refine ⟨_, rfl, _, rfl, p, a.cRun, dx, _, rfl, upd_same, T.clRun, T.nRun_passes, (by show (3 : Nat) < 1000; decide), ?_⟩
    exact hk _ ⟨dx, upd_same⟩ (((But.upd.trans But.upd).trans But.upd).trans But.upd)

def spRun_is_clean (a : Cs) : Sp := fun vs H Q _ => ∃ (p : Addr) (k : Vamrqj.Kept), vs = [.ref p] ∧ RunAt a H p k ∧ Q (.bl k.run.clean) H
theorem okRun_is_clean (F : MFun K a.cRun "is_clean" "Run.is_clean" sRun_is_clean) (T : Txt K mg a) : MOk P w K mg base a.cRun "is_clean" 1 ["self"] (spRun_is_clean a) := by
  refine F.ok scRun_is_clean bdRun_is_clean (fun vs H Q E h => ?_) (fun f cdv A outer s H vs Q E hr h => ?_)
  · obtain ⟨p, k, rfl, _⟩ := h
    rfl
  · obtain ⟨p, k, rfl, ⟨dx, hp⟩, hk⟩ := h
    refine ⟨_, pss_one (ps_ret (pe_or (pe_cmp (pc_eqI (pe_fld (pv 0) rfl) pe_int)) (pe_one (pe_cmp (pc_eqI (pe_fld (pv 0) rfl) (pe_fld (pv 0) rfl)))))), ?_⟩
    dsimp only [cxOf, Cx.nox]
    refine ⟨_, rfl, p, a.cRun, dx, _, _, rfl, hp, T.clRun, T.nRun_passes, rfl, _, _, rfl, rfl, _, rfl, ?_⟩
    refine ite2 (fun h => ?_) fun h => ?_
    · have h0 : ((k.run.passes : Nat) : Int) = 0 := of_decide_eq_true h
      have e : k.run.clean = true := by
        unfold Vamrqj.Run.clean
        rw [decide_eq_true (by omega : k.run.passes = 0)]
        rfl
      rw [e] at hk
      exact hk
    · have h0 : ¬ ((k.run.passes : Nat) : Int) = 0 := fun z => h (decide_eq_true z)
      refine ⟨_, rfl, p, a.cRun, dx, _, _, rfl, hp, T.clRun, T.nRun_passes, rfl, _, rfl, p, a.cRun, dx, _, _, rfl, hp, T.clRun, T.nRun_tries, rfl, _, _, rfl, rfl, ?_⟩
      have e : k.run.clean = decide ((k.run.passes : Int) = (k.run.tries : Int)) := by
        unfold Vamrqj.Run.clean Vamrqj.Run.tries
        rw [decide_eq_false (by omega : ¬ k.run.passes = 0), Bool.false_or]
        by_cases z : k.run.fails = 0
        · rw [decide_eq_true z, decide_eq_true (by omega)]
        · rw [decide_eq_false z, decide_eq_false (by omega)]
      rw [e] at hk
      exact hk

def spRun_as_numbers (a : Cs) : Sp := fun vs H Q _ => ∃ (p : Addr) (k : Vamrqj.Kept), vs = [.ref p] ∧ RunAt a H p k ∧ ∀ l, H l = none → Q (.ref l) (upd H l (.lst ((Vamrqj.runTold k.run).map V.int)))
theorem okRun_as_numbers (F : MFun K a.cRun "as_numbers" "Run.as_numbers" sRun_as_numbers) (T : Txt K mg a) (M : MOk P w K mg base a.cRun "is_clean" 1 ["self"] (spRun_is_clean a)) :
    MOk P w K mg base a.cRun "as_numbers" 2 ["self"] (spRun_as_numbers a) := by
  refine F.ok scRun_as_numbers bdRun_as_numbers (fun vs H Q E h => ?_) (fun f cdv A outer s H vs Q E hr h => ?_)
  · obtain ⟨p, k, rfl, _⟩ := h
    rfl
  · obtain ⟨p, k, rfl, ⟨dx, hp⟩, hk⟩ := h
    refine ⟨_, pss_one (ps_ret (pe_lst (pa_cons (pe_ifExp (pt_val (pe_fld (pv 0) rfl)) pe_int pe_int) (pa_cons (pe_fld (pv 0) rfl) (pa_cons (pe_fld (pv 0) rfl) (pa_cons (pe_ifExp (pt_val (pm0 T.clRun M hr (pv 0))) pe_int pe_int) pa_nil)))))), ?_⟩
    dsimp only [cxOf, Cx.nox]
    refine ⟨_, rfl, p, a.cRun, dx, _, _, rfl, hp, T.clRun, T.nRun_passed, rfl, _, rfl, ite_bit ?_⟩
    refine ⟨_, rfl, p, a.cRun, dx, _, _, rfl, hp, T.clRun, T.nRun_tries, rfl, ?_⟩
    refine ⟨_, rfl, p, a.cRun, dx, _, _, rfl, hp, T.clRun, T.nRun_passes, rfl, ?_⟩
    refine ⟨_, rfl, p, dx, _, rfl, hp, rfl, p, k, rfl, ⟨dx, hp⟩, _, rfl, ite_bit ?_⟩
    refine ⟨(by show 4 ≤ sizeLine; decide), fun l hl => ?_⟩
    exact hk l hl

/-! ### outcome_of_try, make_run -/
def spoutcome_of_try : Sp := fun vs H Q _ => ∃ (p : Addr) (bs : List Bool) (n : Nat), vs = [.ref p, .int (n : Int)] ∧ H p = some (.lst (bs.map bitV)) ∧ 1 ≤ bs.length ∧ Q (bitV (bs.getD (n % bs.length) true)) H
theorem okoutcome_of_try (F : DFun K mg "outcome_of_try" soutcome_of_try) (T : Txt K mg a) : DOk P w K mg base "outcome_of_try" 1 ["bits", "k"] spoutcome_of_try := by
  refine F.ok scoutcome_of_try bdoutcome_of_try (fun vs H Q E h => ?_) (fun f cdv A outer s H vs Q E hr h => ?_)
  · obtain ⟨p, bs, n, rfl, _⟩ := h
    rfl
  · obtain ⟨p, bs, n, rfl, hp, hl, hk⟩ := h
    refine ⟨_, pss_one (ps_ret (pe_ix ix_list (pv 0) (pe_op op_mod (pv 1) (pe_callB call_len_seq (by rfl) T.blen PySem.boot_len (pa_cons (pv 0) pa_nil))) (fun _ _ => rfl))), ?_⟩
    dsimp only [cxOf, Cx.nox]
    refine ⟨_, rfl, _, rfl, _, rfl, p, _, rfl, .inl (SqL.of hp), _, _, rfl, rfl, (by rw [List.length_map]; omega), p, _, _, _, rfl, rfl, SqL.of hp, at_of (j := n % bs.length) (v := bitV (bs.getD (n % bs.length) true)) ?_ ?_, hk⟩
    · rw [List.length_map]
      exact (Int.natCast_emod n bs.length).symm
    · have hlt : n % bs.length < bs.length := Nat.mod_lt _ (by omega)
      rw [List.getElem?_map, List.getD_eq_getElem?_getD, List.getElem?_eq_getElem hlt]
      rfl

def spmake_run (a : Cs) : Sp := fun vs H Q _ => ∃ (pb pr : Addr) (x v : Nat) (o : Vamrqj.Oracle) (y : Vamrqj.Policy), vs = [.int (v : Int), .ref pb, .ref pr] ∧ H pb = some (.lst ((toldBits o x v).map bitV)) ∧ OraOk o ∧ RulAt a H pr y ∧ PolOk y ∧
  ∀ (p : Addr) (H' : Hp), Same H H' → RunAt a H' p ⟨v, Vamrqj.runOf y o x v⟩ → Q (.ref p) H'
theorem okmake_run (F : DFun K mg "make_run" smake_run) (T : Txt K mg a) (G : DOk P w K mg base "outcome_of_try" 1 ["bits", "k"] spoutcome_of_try)
    (I : IOk P w K mg base a.cRun "Run" 1 ["self", "revision", "passed", "tries", "passes"] (spRun_init a)) : DOk P w K mg base "make_run" 3 ["revision", "bits", "rules"] (spmake_run a) := by
  refine F.ok scmake_run bdmake_run (fun vs H Q E h => ?_) (fun f cdv A outer s H vs Q E hr h => ?_)
  · obtain ⟨pb, pr, x, v, o, y, rfl, _⟩ := h
    rfl
  · obtain ⟨pb, pr, x, v, o, y, rfl, hb, ho, ⟨dr, hp⟩, hy, hk⟩ := h
    refine ⟨_, pss_cons (ps_set (i := 3) scmake_run.nd rfl (Or.inl rfl) (pe_op op_sub (pe_fld (pv 2) rfl) (pe_fld (pv 2) rfl)))
      (pss_cons (ps_set (i := 4) scmake_run.nd rfl (Or.inl rfl) pe_int)
      (pss_cons (ps_set (i := 5) scmake_run.nd rfl (Or.inl rfl) pe_int)
      (pss_cons (ps_while PassesOwn.never (PW.pt (pw_and (pt_cmp (pc_lt (pv 5) (pe_fld (pv 2) rfl))) (pw_and1 (pt_cmp (pc_le (pe_op op_sub (pv 4) (pv 5)) (pv 3))))))
        (pss_cons (ps_aug (i := 5) scmake_run.nd rfl (Or.inl rfl) (pd G hr (pa_cons (pv 1) (pa_cons (pv 4) pa_nil))) ip_add)
        (pss_one (ps_aug (i := 4) scmake_run.nd rfl (Or.inl rfl) pe_int ip_add))))
      (pss_one (ps_ret (pmk I hr (pa_cons (pv 0) (pa_cons (pe_cmp (pc_ge (pv 5) (pe_fld (pv 2) rfl))) (pa_cons (pv 4) (pa_cons (pv 5) pa_nil)))))))))), ?_⟩
    dsimp only [cxOf, Cx.nox]
    refine ⟨_, rfl, pr, a.cRules, dr, _, _, rfl, hp, T.clRules, T.nRules_most, rfl, _, rfl, pr, a.cRules, dr, _, _, rfl, hp, T.clRules, T.nRules_need, rfl, _, _, rfl, rfl, ?_⟩
    refine ⟨fun m σ H' => ∃ i j : Nat, m = y.most + 1 - (i + j) ∧ H = H' ∧ runAt y o x v i j = Vamrqj.runOf y o x v ∧ i ≤ y.need ∧ j + y.need ≤ y.most + 1 ∧
      σ = [some (.int (v : Int)), some (.ref pb), some (.ref pr), some (.int ((y.most : Int) - (y.need : Int))), some (.int ((i + j : Nat) : Int)), some (.int (i : Int))],
      ⟨y.most + 1, 0, 0, rfl, rfl, rfl, Nat.zero_le _, by have := hy.nm; omega, rfl⟩, ?_⟩
    rintro m σ H' ⟨i, j, rfl, rfl, hrun, hi, hj, rfl⟩
    refine ⟨_, rfl, _, rfl, pr, a.cRules, dr, _, _, rfl, hp, T.clRules, T.nRules_need, rfl, _, _, rfl, rfl, _, rfl, ?_⟩
    have fin : y.need ≤ i ∨ y.most < j + y.need → tRet (tMake a.cRun (spRun_init a) [] E0 (tCons (tVar 0) (tCons (tGe (tVar 5) (tFld K (tVar 2) "need")) (tCons (tVar 4) (tCons (tVar 5) tNil)))))
        { nx := fun _ H' => Q .non H', rt := Q } [some (.int (v : Int)), some (.ref pb), some (.ref pr), some (.int ((y.most : Int) - (y.need : Int))), some (.int ((i + j : Nat) : Int)), some (.int (i : Int))] H := fun hend => by
      refine ⟨_, rfl, _, rfl, _, rfl, pr, a.cRules, dr, _, _, rfl, hp, T.clRules, T.nRules_need, rfl, _, _, rfl, rfl, _, rfl, _, rfl, ?_⟩
      intro x1 d1 n1 m1 e1
      have er : Vamrqj.runOf y o x v = ⟨decide (y.need ≤ i), i, j⟩ := by rw [← hrun, runAt_end hend]
      refine ⟨x1, d1, ⟨v, Vamrqj.runOf y o x v⟩, ?_, upd_same, fun H1 hR hB => ⟨rfl, ?_⟩⟩
      · rw [er]
        show [V.ref x1, .int (v : Int), .bl (decide ((y.need : Int) ≤ (i : Int))), .int ((i + j : Nat) : Int), .int (i : Int)] = [V.ref x1, .int (v : Int), .bl (decide (y.need ≤ i)), .int ((i + j : Nat) : Int), .int (i : Int)]
        have ed : decide ((y.need : Int) ≤ (i : Int)) = decide (y.need ≤ i) := by
          by_cases z : y.need ≤ i
          · rw [decide_eq_true z, decide_eq_true (by omega)]
          · rw [decide_eq_false z, decide_eq_false (by omega)]
        rw [ed]
      · exact hk x1 H1 (Same.made n1 m1 hB) hR
    refine ite2 (fun h => ?_) fun h => ?_
    · have h1 : (i : Int) < (y.need : Int) := of_decide_eq_true h
      refine ⟨_, rfl, _, rfl, _, _, rfl, rfl, _, rfl, _, _, rfl, rfl, _, rfl, ?_⟩
      refine ite2 (fun h2 => ?_) fun h2 => ?_
      · have h2 : ((i + j : Nat) : Int) - (i : Int) ≤ (y.most : Int) - (y.need : Int) := of_decide_eq_true h2
        have hlt : j + y.need ≤ y.most := mr1 h2
        have hlt1 : i < y.need := Int.ofNat_lt.mp h1
        refine ⟨fun σ' H' => ∃ i' j' : Nat, (i' + j') = i + j + 1 ∧ H = H' ∧ runAt y o x v i' j' = Vamrqj.runOf y o x v ∧ i' ≤ y.need ∧ j' + y.need ≤ y.most + 1 ∧
          σ' = [some (.int (v : Int)), some (.ref pb), some (.ref pr), some (.int ((y.most : Int) - (y.need : Int))), some (.int ((i' + j' : Nat) : Int)), some (.int (i' : Int))], ?_, ?_⟩
        · rintro σ' H' ⟨i', j', e, rfl, h1', h2', h3', rfl⟩
          exact ⟨y.most + 1 - (i' + j'), mr2 e (tries_left hlt1 hlt), i', j', rfl, rfl, h1', h2', h3', rfl⟩
        · refine ⟨_, rfl, _, rfl, _, rfl, pb, toldBits o x v, i + j, rfl, hb, (toldBits_pos ho x v).1, _, _, rfl, rfl, ?_⟩
          refine ⟨_, rfl, _, _, rfl, rfl, ?_⟩
          have eo := outcome_eq o x v (i + j)
          cases hc : Vamrqj.outcome o x v (i + j) with
          | true =>
            rw [hc] at eo
            refine ⟨i + 1, j, Nat.add_right_comm i 1 j, rfl, (runAt_pass hlt1 hlt hc).symm.trans hrun, hlt1, hj, ?_⟩
            rw [← eo]
            show [some (V.int (v : Int)), some (.ref pb), some (.ref pr), some (.int ((y.most : Int) - (y.need : Int))), some (.int (((i + j : Nat) : Int) + 1)), some (.int ((i : Int) + 1))] = _
            rw [Nat.add_right_comm i 1 j]
            rfl
          | false =>
            rw [hc] at eo
            refine ⟨i, j + 1, rfl, rfl, (runAt_fail hlt1 hlt hc).symm.trans hrun, hi, Nat.le_trans (Nat.le_of_eq (Nat.add_right_comm j 1 y.need)) (Nat.succ_le_succ hlt), ?_⟩
            rw [← eo]
            show [some (V.int (v : Int)), some (.ref pb), some (.ref pr), some (.int ((y.most : Int) - (y.need : Int))), some (.int (((i + j : Nat) : Int) + 1)), some (.int ((i : Int) + 0))] = _
            rw [Int.add_zero]
            rfl
      · have h2 : ¬ ((i + j : Nat) : Int) - (i : Int) ≤ (y.most : Int) - (y.need : Int) := fun z => h2 (decide_eq_true z)
        exact fin (.inr (mr3 h2))
    · have h1 : ¬ (i : Int) < (y.need : Int) := fun z => h (decide_eq_true z)
      exact fin (.inl (Nat.le_of_not_lt fun z => h1 (Int.ofNat_lt.mpr z)))
end TR
end
-- TRRec
section
set_option Elab.async false
set_option linter.all false
set_option maxRecDepth 100000
set_option maxHeartbeats 2000000
namespace TR
open PySem PySem.Spec PyProof.Rows L2
variable {P : Program} {w : World} {K : PySem.W.Frag} {mg : Str → Option Value} {base : Heap} {a : Cs}

theorem cut_take (xs : List V) (n : Nat) : cutV xs none (some (n : Int)) = xs.take n := by
  unfold cutV
  rw [HT.sIx_none, HT.sIx_nat, List.drop_zero, Nat.sub_zero]
  by_cases h : n ≤ xs.length
  · rw [Nat.min_eq_left h]
  · rw [Nat.min_eq_right (by omega), List.take_of_length_le (Nat.le_refl _), List.take_of_length_le (by omega)]
theorem min_int (i j : Nat) : (if (j : Int) < (i : Int) then (j : Int) else (i : Int)) = ((min i j : Nat) : Int) := by
  by_cases h : j < i
  · rw [if_pos (by omega), Nat.min_eq_right (by omega)]
  · rw [if_neg (by omega), Nat.min_eq_left (by omega)]
theorem take_snoc {α : Type} : ∀ {l : List α} {i : Nat} {x : α}, l[i]? = some x → l.take (i + 1) = l.take i ++ [x]
  | [], i, x, h => by simp at h
  | b :: l, 0, x, h => by
    have e : b = x := Option.some.inj h
    subst e
    rfl
  | b :: l, i + 1, x, h => by
    have ih := take_snoc (l := l) (i := i) (x := x) h
    show b :: l.take (i + 1) = b :: l.take i ++ [x]
    rw [ih]
    rfl
theorem while_stop {α : Type} {p : α → Bool} : ∀ {l : List α} {i : Nat} {y : α}, (∀ x ∈ l.take i, p x = true) → l[i]? = some y → p y = false → (l.takeWhile p).length = i
  | [], i, y, _, h, _ => by simp at h
  | b :: l, 0, y, _, h, hy => by
    have e : b = y := Option.some.inj h
    subst e
    rw [List.takeWhile_cons, hy]
    rfl
  | b :: l, i + 1, y, ha, h, hy => by
    have hb : p b = true := ha b (by rw [List.take_succ_cons]; exact List.mem_cons_self)
    rw [List.takeWhile_cons, hb]
    have ih := while_stop (l := l) (i := i) (y := y) (fun x hx => ha x (by rw [List.take_succ_cons]; exact List.mem_cons_of_mem _ hx)) h hy
    show (l.takeWhile p).length + 1 = i + 1
    rw [ih]
theorem while_all {α : Type} {p : α → Bool} : ∀ {l : List α}, (∀ x ∈ l, p x = true) → (l.takeWhile p).length = l.length
  | [], _ => rfl
  | b :: l, ha => by
    rw [List.takeWhile_cons, ha b List.mem_cons_self]
    show (l.takeWhile p).length + 1 = l.length + 1
    rw [while_all fun x hx => ha x (List.mem_cons_of_mem _ hx)]
theorem getElem?_map_ref {ps : List Addr} {i : Nat} {y : V} (h : (ps.map V.ref)[i]? = some y) : ∃ p, ps[i]? = some p ∧ y = V.ref p := by
  rw [List.getElem?_map] at h
  cases e : ps[i]? with
  | none =>
    rw [e] at h
    cases h
  | some p =>
    rw [e] at h
    exact ⟨p, rfl, (Option.some.inj h).symm⟩

def spRecord_init (a : Cs) : Sp := fun vs H Q _ => ∃ (q : Addr → Prop) (p dx : Addr), vs = [.ref p] ∧ H p = some (.ins a.cRecord dx []) ∧ (∀ x, q x → H x ≠ none) ∧ ∀ H' : Hp, RecAt a q H' p Vamrqj.fresh → But p H H' → Q .non H'
theorem okRecord_init (F : IFun K mg a.cRecord "Record" "Record.__init__" sRecord_init) (T : Txt K mg a) : IOk P w K mg base a.cRecord "Record" 1 ["self"] (spRecord_init a) := by
  refine F.ok scRecord_init bdRecord_init (fun vs H Q E h => ?_) (fun f cdv A outer s H vs Q E hr h => ?_)
  · obtain ⟨q, p, dx, rfl, _⟩ := h
    rfl
  · obtain ⟨q, p, dx, rfl, hp, hq, hk⟩ := h
    refine ⟨_, pss_cons (ps_fld (pv 0) (pe_lst pa_nil) rfl) (pss_cons (ps_fld (pv 0) pe_int rfl) (pss_one (ps_fld (pv 0) pe_bl rfl))), ?_⟩
    dsimp only [cxOf, Cx.nox]
    refine ⟨Nat.zero_le _, fun l hl => ?_⟩
    have nlp : p ≠ l := ne_of_none hp hl
    have nlq : ¬ q l := fun z => hq l z hl
    refine ⟨_, rfl, p, a.cRecord, dx, _, rfl, (by rw [upd_ne nlp]; exact hp), T.clRecord, T.nRecord_kept, (by show (0 : Nat) < 1000; decide), ?_⟩
    refine ⟨_, rfl, p, a.cRecord, dx, _, rfl, upd_same, T.clRecord, T.nRecord_count, (by show (1 : Nat) < 1000; decide), ?_⟩
    refine ⟨_, rfl, p, a.cRecord, dx, _, rfl, upd_same, T.clRecord, T.nRecord_quarantined, (by show (2 : Nat) < 1000; decide), ?_⟩
    refine hk _ ⟨dx, l, upd_same, nlq, Nat.zero_le _, [], ?_, .nil⟩ ((((same_new hl).but.trans But.upd).trans But.upd).trans But.upd)
    rw [upd_ne (Ne.symm nlp), upd_ne (Ne.symm nlp), upd_ne (Ne.symm nlp), upd_same]
    rfl

def scoreW (n : Nat) (t : Vamrqj.Test) : Nat := ((t.runs.take (min n t.since)).filter fun k => !k.run.clean).length
def spRecord_flaky_score (a : Cs) : Sp := fun vs H Q _ => ∃ (q : Addr → Prop) (p : Addr) (t : Vamrqj.Test) (n : Nat), vs = [.ref p, .int (n : Int)] ∧ RecAt a q H p t ∧ ∀ H' : Hp, Same H H' → Q (.int (scoreW n t : Int)) H'
theorem okRecord_flaky_score (F : MFun K a.cRecord "flaky_score" "Record.flaky_score" sRecord_flaky_score) (T : Txt K mg a) (D : Dif a) (M : MOk P w K mg base a.cRun "is_clean" 1 ["self"] (spRun_is_clean a)) :
    MOk P w K mg base a.cRecord "flaky_score" 2 ["self", "window"] (spRecord_flaky_score a) := by
  refine F.ok scRecord_flaky_score bdRecord_flaky_score (fun vs H Q E h => ?_) (fun f cdv A outer s H vs Q E hr h => ?_)
  · obtain ⟨q, p, t, n, rfl, _⟩ := h
    rfl
  · obtain ⟨q, p, t, n, rfl, ⟨dx, l, hp, nl, z64, ps, hl, hps⟩, hk⟩ := h
    refine ⟨_, pss_cons (ps_set (i := 2) scRecord_flaky_score.nd rfl (Or.inl rfl) (pe_callB (call_min2 rfl) (by rfl) T.bmin boot_min (pa_cons (pv 1) (pa_cons (pe_fld (pv 0) rfl) pa_nil))))
      (pss_one (ps_ret (pe_callB call_len_seq (by rfl) T.blen PySem.boot_len (pa_cons
        (pe_lc rfl scRecord_flaky_score.nd (own := [("run", 3)]) (pi_list (pe_slice sl_list (pe_fld (pv 0) rfl) po_none (po_some (pv 2)))) (blkOk_by (by rfl))
          (fun s H C cl fp => pg_name (i := 3) scRecord_flaky_score.nd rfl (Or.inl rfl)) (fun s H C cl fp => pts_one (pt_not (pt_val (pm0 T.clRun M hr (pv 3))))) (fun s H C cl fp => pv 3)) pa_nil)))), ?_⟩
    dsimp only [cxOf, Cx.nox]
    refine ⟨_, rfl, _, rfl, p, a.cRecord, dx, _, _, rfl, hp, T.clRecord, T.nRecord_count, rfl, _, _, rfl, ?_⟩
    rw [min_int]
    refine ⟨_, rfl, p, a.cRecord, dx, _, _, rfl, hp, T.clRecord, T.nRecord_kept, rfl, _, rfl, _, rfl, l, _, rfl, SqL.of hl, fun c hc => ⟨c, rfl, ⟨_, SqL.of upd_same⟩, fun E' hE => ?_⟩⟩
    rw [cut_take, ← List.map_take] at hE ⊢
    have hps' := paired_take hps (min n t.since)
    have s1 : Same H (upd H c (.lst ((ps.take (min n t.since)).map V.ref))) := same_new hc
    have s2 := s1.trans (same_new (o := .lst []) hE)
    refine lc_list (K := K) (a := c) (xs := (ps.take (min n t.since)).map V.ref) (fun i H' => ∃ acc : List V, H' E' = some (.lst acc) ∧ acc.length = (((t.runs.take (min n t.since)).take i).filter fun k => !k.run.clean).length ∧
      Same (upd H c (.lst ((ps.take (min n t.since)).map V.ref))) H') ⟨[], upd_same, rfl, same_new hE⟩ (fun i H' _ ⟨_, _, _, s3⟩ => SqL.of (s3 _ _ upd_same)) ?_ ?_
    · rintro i y H' hi ⟨acc, e1, e2, s3⟩
      obtain ⟨b, hb, rfl⟩ := getElem?_map_ref hi
      obtain ⟨k, hk', dk, hR⟩ := paired_get' hps' hb
      refine ⟨rfl, ?_⟩
      have hR' := s3 _ _ (s1 _ _ hR)
      refine ⟨_, rfl, b, dk, _, rfl, hR', rfl, b, k, rfl, ⟨dk, hR'⟩, _, rfl, ?_⟩
      have et := take_snoc hk'
      refine ite2 (fun h => ?_) fun h => ?_
      · refine ⟨_, rfl, acc, e1, ?_, acc ++ [.ref b], upd_same, ?_, fun b' o e => ?_⟩
        · have h1 := List.length_filter_le (fun k : Vamrqj.Kept => !k.run.clean) ((t.runs.take (min n t.since)).take i)
          have h2 : ((t.runs.take (min n t.since)).take i).length ≤ t.runs.length := by rw [List.length_take, List.length_take]; omega
          rw [e2]
          exact Nat.lt_of_le_of_lt (Nat.le_trans h1 (Nat.le_trans h2 z64)) (by decide)
        · rw [et, List.filter_append, List.length_append, List.length_append, ← e2]
          have : (List.filter (fun k : Vamrqj.Kept => !k.run.clean) [k]).length = 1 := by rw [List.filter_cons, if_pos h]; rfl
          rw [this]
          rfl
        · rw [upd_ne (ne_of_none e hE)]
          exact s3 _ _ e
      · refine ⟨acc, e1, ?_, s3⟩
        rw [et, List.filter_append, List.length_append, ← e2]
        have : (List.filter (fun k : Vamrqj.Kept => !k.run.clean) [k]).length = 0 := by rw [List.filter_cons, if_neg h]; rfl
        rw [this, Nat.add_zero]
    · rintro H' ⟨acc, e1, e2, s3⟩
      refine ⟨_, _, rfl, .inl (SqL.of e1), ?_⟩
      rw [e2, List.length_map, List.take_of_length_le (by rw [paired_len hps']; exact Nat.le_refl _)]
      exact hk H' (s1.trans s3)

def spRecord_calm_length (a : Cs) : Sp := fun vs H Q _ => ∃ (q : Addr → Prop) (p : Addr) (t : Vamrqj.Test), vs = [.ref p] ∧ RecAt a q H p t ∧ ∀ H' : Hp, Same H H' → Q (.int (Vamrqj.calmRuns t : Int)) H'
theorem okRecord_calm_length (F : MFun K a.cRecord "calm_length" "Record.calm_length" sRecord_calm_length) (T : Txt K mg a) (D : Dif a) (M : MOk P w K mg base a.cRun "is_clean" 1 ["self"] (spRun_is_clean a)) :
    MOk P w K mg base a.cRecord "calm_length" 2 ["self"] (spRecord_calm_length a) := by
  refine F.ok scRecord_calm_length bdRecord_calm_length (fun vs H Q E h => ?_) (fun f cdv A outer s H vs Q E hr h => ?_)
  · obtain ⟨q, p, t, rfl, _⟩ := h
    rfl
  · obtain ⟨q, p, t, rfl, ⟨dx, l, hp, nl, z64, ps, hl, hps⟩, hk⟩ := h
    refine ⟨_, pss_cons (ps_set (i := 1) scRecord_calm_length.nd rfl (Or.inl rfl) pe_int)
      (pss_cons (ps_for PassesOwn.never rfl (pi_list (pe_slice sl_list (pe_fld (pv 0) rfl) po_none (po_some (pe_fld (pv 0) rfl)))) (pg_name (i := 2) scRecord_calm_length.nd rfl (Or.inl rfl))
        (pss_cons (ps_if (pt_not (pt_val (pm0 T.clRun M hr (pv 2)))) (pss_one ps_break) pss_nil) (pss_one (ps_aug (i := 1) scRecord_calm_length.nd rfl (Or.inl rfl) pe_int ip_add))))
      (pss_one (ps_ret (pv 1)))), ?_⟩
    dsimp only [cxOf, Cx.nox]
    refine ⟨_, rfl, p, a.cRecord, dx, _, _, rfl, hp, T.clRecord, T.nRecord_kept, rfl, _, rfl, p, a.cRecord, dx, _, _, rfl, hp, T.clRecord, T.nRecord_count, rfl, _, rfl, l, _, rfl, SqL.of hl, fun c hc => ⟨c, rfl, ⟨_, SqL.of upd_same⟩, ?_⟩⟩
    rw [cut_take, ← List.map_take]
    have hps' := paired_take hps t.since
    have s1 : Same H (upd H c (.lst ((ps.take t.since).map V.ref))) := same_new hc
    refine for_list (K := K) (a := c) (xs := (ps.take t.since).map V.ref) (fun i σ H' => ∃ v : Option V, σ = [some (.ref p), some (.int (i : Int)), v] ∧ (∀ k ∈ (t.runs.take t.since).take i, k.run.clean = true) ∧
      Same (upd H c (.lst ((ps.take t.since).map V.ref))) H') ⟨none, rfl, (fun k hk => by simp at hk), Same.refl _⟩ (fun i σ H' _ ⟨_, _, _, s3⟩ => SqL.of (s3 _ _ upd_same)) ?_ ?_
    · rintro i y σ H' hi ⟨v, rfl, hc1, s3⟩
      obtain ⟨b, hb, rfl⟩ := getElem?_map_ref hi
      obtain ⟨k, hk', dk, hR⟩ := paired_get' hps' hb
      have hR' := s3 _ _ (s1 _ _ hR)
      refine ⟨_, rfl, b, dk, _, rfl, hR', rfl, b, k, rfl, ⟨dk, hR'⟩, _, rfl, ?_⟩
      refine ite2 (fun h => ?_) fun h => ?_
      · refine ⟨_, rfl, ?_⟩
        have e : Vamrqj.calmRuns t = i := while_stop hc1 hk' (by simpa using h)
        rw [← e]
        exact hk H' (s1.trans s3)
      · refine ⟨_, rfl, _, _, rfl, rfl, _, rfl, fun k' hk2 => ?_, s3⟩
        rw [take_snoc hk'] at hk2
        rcases List.mem_append.mp hk2 with z | z
        · exact hc1 k' z
        · rw [List.mem_singleton] at z
          subst z
          simpa using h
    · rintro σ H' ⟨v, rfl, hc1, s3⟩
      refine ⟨_, rfl, ?_⟩
      have el : ((ps.take t.since).map V.ref).length = (t.runs.take t.since).length := by rw [List.length_map, paired_len hps']
      rw [el] at hc1 ⊢
      rw [List.take_of_length_le (Nat.le_refl _)] at hc1
      have e : Vamrqj.calmRuns t = (t.runs.take t.since).length := while_all hc1
      rw [← e]
      exact hk H' (s1.trans s3)

def spRecord_move (a : Cs) : Sp := fun vs H Q _ => ∃ (q : Addr → Prop) (p : Addr) (t : Vamrqj.Test) (b : Bool), vs = [.ref p, .bl b] ∧ RecAt a q H p t ∧ ∀ H' : Hp, RecAt a q H' p ⟨t.runs, b, 0⟩ → But p H H' → Q .non H'
theorem okRecord_move (F : MFun K a.cRecord "move" "Record.move" sRecord_move) (T : Txt K mg a) (D : Dif a) : MOk P w K mg base a.cRecord "move" 1 ["self", "quarantined"] (spRecord_move a) := by
  refine F.ok scRecord_move bdRecord_move (fun vs H Q E h => ?_) (fun f cdv A outer s H vs Q E hr h => ?_)
  · obtain ⟨q, p, t, b, rfl, _⟩ := h
    rfl
  · obtain ⟨q, p, t, b, rfl, hp0, hk⟩ := h
    have fx := hp0.frm'
    obtain ⟨dx, l, hp, hR⟩ := hp0
    refine ⟨_, pss_cons (ps_fld (pv 0) (pv 1) rfl) (pss_one (ps_fld (pv 0) pe_int rfl)), ?_⟩
    dsimp only [cxOf, Cx.nox]
    refine ⟨_, rfl, _, rfl, p, a.cRecord, dx, _, rfl, hp, T.clRecord, T.nRecord_quarantined, (by show (3 : Nat) < 1000; decide), ?_⟩
    refine ⟨_, rfl, p, a.cRecord, dx, _, rfl, upd_same, T.clRecord, T.nRecord_count, (by show (3 : Nat) < 1000; decide), ?_⟩
    have hb := But.trans (But.upd (p := p) (H := H) (o := .ins a.cRecord dx (putF "quarantined" (.bl b) (recF l (t.since : Int) t.held)))) (But.upd (o := .ins a.cRecord dx (putF "count" (.int 0) (putF "quarantined" (.bl b) (recF l (t.since : Int) t.held)))))
    exact hk _ ⟨dx, l, upd_same, hR.frm D (Frm.but hb fx)⟩ hb

def spRecord_keep (a : Cs) : Sp := fun vs H Q _ => ∃ (q : Addr → Prop) (p rp up : Addr) (t : Vamrqj.Test) (k : Vamrqj.Kept) (y : Vamrqj.Policy), vs = [.ref p, .ref rp, .ref up] ∧ (∀ x, q x → H x ≠ none) ∧ RecAt a q H p t ∧ RunAt a H rp k ∧ RulAt a H up y ∧
  ∀ H' : Hp, RecAt a q H' p (t.after y k) → But p H H' → Q .non H'
theorem okRecord_keep (F : MFun K a.cRecord "keep" "Record.keep" sRecord_keep) (T : Txt K mg a) (D : Dif a) (Mc : MOk P w K mg base a.cRecord "calm_length" 2 ["self"] (spRecord_calm_length a))
    (Ms : MOk P w K mg base a.cRecord "flaky_score" 2 ["self", "window"] (spRecord_flaky_score a)) (Mm : MOk P w K mg base a.cRecord "move" 1 ["self", "quarantined"] (spRecord_move a)) :
    MOk P w K mg base a.cRecord "keep" 3 ["self", "run", "rules"] (spRecord_keep a) := by
  refine F.ok scRecord_keep bdRecord_keep (fun vs H Q E h => ?_) (fun f cdv A outer s H vs Q E hr h => ?_)
  · obtain ⟨q, p, rp, up, t, k, y, rfl, _⟩ := h
    rfl
  · obtain ⟨q, p, rp, up, t, k, y, rfl, hq, hp0, hrun, ⟨du, hu⟩, hk⟩ := h
    have fx := hp0.frm'
    obtain ⟨dx, l, hp, nl, z64, ps, hl, hps⟩ := hp0
    refine ⟨_, pss_cons (ps_fld (pv 0) (pe_op op_cat (pe_lst (pa_cons (pv 1) pa_nil)) (pe_slice sl_list (pe_fld (pv 0) rfl) po_none (po_some (pe_op op_sub (pk T.kMOST_REMEMBERED) pe_int)))) rfl)
      (pss_cons (ps_fld (pv 0) (pe_callB (call_min2 rfl) (by rfl) T.bmin boot_min (pa_cons (pe_op op_add (pe_fld (pv 0) rfl) pe_int) (pa_cons (pk T.kMOST_REMEMBERED) pa_nil))) rfl)
      (pss_one (ps_if (pt_val (pe_fld (pv 0) rfl))
        (pss_one (ps_if (pt_cmp (pc_ge (pm0 T.clRecord Mc hr (pv 0)) (pe_fld (pv 2) rfl))) (pss_one (ps_expr (pm T.clRecord Mm hr (pv 0) (pa_cons pe_bl pa_nil)))) pss_nil))
        (pss_one (ps_if (pt_cmp (pc_ge (pm T.clRecord Ms hr (pv 0) (pa_cons (pe_fld (pv 2) rfl) pa_nil)) (pe_fld (pv 2) rfl))) (pss_one (ps_expr (pm T.clRecord Mm hr (pv 0) (pa_cons pe_bl pa_nil)))) pss_nil))))), ?_⟩
    dsimp only [cxOf, Cx.nox]
    -- self.kept = [run] + self.kept[:63]
    refine ⟨_, rfl, (by show 1 ≤ sizeLine; decide), fun l1 h1 => ?_⟩
    have s1 : Same H (upd H l1 (.lst [.ref rp])) := same_new h1
    refine ⟨_, rfl, p, a.cRecord, dx, _, _, rfl, s1 _ _ hp, T.clRecord, T.nRecord_kept, rfl, _, _, rfl, rfl, _, rfl, l, _, rfl, SqL.of (s1 _ _ hl), fun l2 h2 => ?_⟩
    rw [show ((64 : Int) - 1) = ((63 : Nat) : Int) from rfl, cut_take, ← List.map_take]
    have s2 := s1.trans (same_new (o := .lst ((ps.take 63).map V.ref)) h2)
    refine ⟨l1, l2, _, _, rfl, rfl, same_new h2 _ _ upd_same, upd_same, ?_, fun l3 h3 => ?_⟩
    · show 1 + ((ps.take 63).map V.ref).length ≤ sizeLine
      rw [List.length_map, List.length_take]
      exact Nat.le_trans (Nat.add_le_add_left (Nat.min_le_left _ _) 1) (by decide)
    have s3 := s2.trans (same_new (o := .lst ([V.ref rp] ++ (ps.take 63).map V.ref)) h3)
    have n3q : ¬ q l3 := fun z => hq l3 z (s2.free h3)
    have n3p : l3 ≠ p := fun z => by
      have := s2.free h3
      rw [z, hp] at this
      cases this
    refine ⟨_, rfl, p, a.cRecord, dx, _, rfl, s3 _ _ hp, T.clRecord, T.nRecord_kept, (by show (3 : Nat) < 1000; decide), ?_⟩
    -- self.count = min(self.count + 1, 64)
    refine ⟨_, rfl, p, a.cRecord, dx, _, _, rfl, upd_same, T.clRecord, T.nRecord_count, rfl, _, _, rfl, rfl, _, _, rfl, ?_⟩
    have ec : (if (64 : Int) < ((t.since : Nat) : Int) + 1 then (64 : Int) else ((t.since : Nat) : Int) + 1) = ((min (t.since + 1) 64 : Nat) : Int) := min_int (t.since + 1) 64
    rw [ec]
    refine ⟨_, rfl, p, a.cRecord, dx, _, rfl, upd_same, T.clRecord, T.nRecord_count, (by show (3 : Nat) < 1000; decide), ?_⟩
    -- the record as it stands now
    generalize hH4 : upd (upd (upd (upd (upd H l1 (.lst [.ref rp])) l2 (.lst ((ps.take 63).map V.ref))) l3 (.lst ([V.ref rp] ++ (ps.take 63).map V.ref))) p (.ins a.cRecord dx (putF "kept" (.ref l3) (recF l (t.since : Int) t.held)))) p
      (.ins a.cRecord dx (putF "count" (.int ((min (t.since + 1) 64 : Nat) : Int)) (putF "kept" (.ref l3) (recF l (t.since : Int) t.held)))) = H4
    have b4 : But p H H4 := by
      rw [← hH4]
      exact (s3.but.trans But.upd).trans But.upd
    have f4 : Frm a H H4 := Frm.but b4 fx
    have e4 : H4 p = some (.ins a.cRecord dx (recF l3 ((min (t.since + 1) 64 : Nat) : Int) t.held)) := by
      rw [← hH4]
      exact upd_same
    have el3 : H4 l3 = some (.lst ((rp :: ps.take 63).map V.ref)) := by
      rw [← hH4, upd_ne n3p, upd_ne n3p, upd_same]
      rfl
    have hrec : RecAt a q H4 p ⟨(k :: t.runs).take 64, t.held, min (t.since + 1) 64⟩ := by
      refine ⟨dx, l3, e4, n3q, ?_, rp :: ps.take 63, el3, .cons (hrun.frm D f4) ?_⟩
      · rw [List.length_take]; exact Nat.min_le_left _ _
      · exact paired_imp (paired_take hps 63) fun _ _ z => z.frm D f4
    have hu4 : H4 up = some (.ins a.cRules du (rulF (y.need : Int) (y.most : Int) (y.window : Int) (y.limit : Int) (y.calm : Int))) := f4 _ _ hu ⟨D.rulRec, D.rulRoom⟩
    clear hH4
    refine ⟨_, rfl, p, a.cRecord, dx, _, _, rfl, e4, T.clRecord, T.nRecord_quarantined, rfl, _, rfl, ?_⟩
    have ea : t.after y k = (if t.held = false ∧ y.limit ≤ scoreW y.window ⟨(k :: t.runs).take 64, t.held, min (t.since + 1) 64⟩ then ⟨(k :: t.runs).take 64, true, 0⟩
      else if t.held = true ∧ y.calm ≤ Vamrqj.calmRuns ⟨(k :: t.runs).take 64, t.held, min (t.since + 1) 64⟩ then ⟨(k :: t.runs).take 64, false, 0⟩ else ⟨(k :: t.runs).take 64, t.held, min (t.since + 1) 64⟩) := rfl
    refine ite2 (fun hh => ?_) fun hh => ?_
    · refine ⟨_, rfl, p, dx, _, rfl, e4, rfl, q, p, _, rfl, hrec, fun H5 s5 => ?_⟩
      refine ⟨_, rfl, up, a.cRules, du, _, _, rfl, s5 _ _ hu4, T.clRules, T.nRules_calm, rfl, _, _, rfl, rfl, _, rfl, ?_⟩
      have hrec5 := hrec.same D s5
      refine ite2 (fun h1 => ?_) fun h1 => ?_
      · have h1 := of_decide_eq_true h1
        refine ⟨_, rfl, p, dx, _, rfl, s5 _ _ e4, rfl, q, p, _, false, rfl, hrec5, fun H6 r6 b6 => ?_⟩
        refine hk H6 ?_ ((b4.trans s5.but).trans b6)
        rw [ea, if_neg (fun z => by rw [hh] at z; exact absurd z.1 (by decide)), if_pos ⟨hh, by omega⟩]
        exact r6
      · have h1 : ¬ _ := fun z => h1 (decide_eq_true z)
        refine hk H5 ?_ (b4.trans s5.but)
        rw [ea, if_neg (fun z => by rw [hh] at z; exact absurd z.1 (by decide)), if_neg (fun z => h1 (by have := z.2; omega))]
        exact hrec5
    · have hh : t.held = false := by simpa using hh
      refine ⟨_, rfl, p, dx, _, rfl, e4, rfl, _, rfl, up, a.cRules, du, _, _, rfl, hu4, T.clRules, T.nRules_window, rfl, q, p, _, y.window, rfl, hrec, fun H5 s5 => ?_⟩
      refine ⟨_, rfl, up, a.cRules, du, _, _, rfl, s5 _ _ hu4, T.clRules, T.nRules_limit, rfl, _, _, rfl, rfl, _, rfl, ?_⟩
      have hrec5 := hrec.same D s5
      refine ite2 (fun h1 => ?_) fun h1 => ?_
      · have h1 := of_decide_eq_true h1
        refine ⟨_, rfl, p, dx, _, rfl, s5 _ _ e4, rfl, q, p, _, true, rfl, hrec5, fun H6 r6 b6 => ?_⟩
        refine hk H6 ?_ ((b4.trans s5.but).trans b6)
        rw [ea, if_pos ⟨hh, by omega⟩]
        exact r6
      · have h1 : ¬ _ := fun z => h1 (decide_eq_true z)
        refine hk H5 ?_ (b4.trans s5.but)
        rw [ea, if_neg (fun z => h1 (by have := z.2; omega)), if_neg (fun z => by rw [hh] at z; exact absurd z.1 (by decide))]
        exact hrec5
end TR
end
-- TRRoom
section
set_option Elab.async false
set_option linter.all false
set_option maxRecDepth 100000
set_option maxHeartbeats 2000000
namespace TR
open PySem PySem.Spec PyProof.Rows L2
variable {P : Program} {w : World} {K : PySem.W.Frag} {mg : Str → Option Value} {base : Heap} {a : Cs}

/-! ### readings of whole numbers that change nothing -/
/-- the expression is worth x, and nothing changes -/
def Rds (t : TE) (σ : L2.St) (H : Hp) (x : V) : Prop := ∀ R : VK, R x H → t σ H R
theorem Rds.c {σ : L2.St} {H : Hp} {x : V} : Rds (tC x) σ H x := fun _ r => r
theorem Rds.v {σ : L2.St} {H : Hp} {x : V} {i : Nat} (h : σ[i]? = some (some x)) : Rds (tVar i) σ H x := fun _ r => ⟨x, h, r⟩
theorem Rds.f {σ : L2.St} {H : Hp} {p C dx : Addr} {fs : List (Str × V)} {x : V} {t : TE} {f : Str} (h : Rds t σ H (.ref p)) (hp : H p = some (.ins C dx fs)) (c : Cls K C) (n : NoAttr K C f) (l : fs.lookup f = some x) : Rds (tFld K t f) σ H x :=
  fun R r => h _ ⟨p, C, dx, fs, x, rfl, hp, c, n, l, r⟩
theorem Rds.len {σ : L2.St} {H : Hp} {p : Addr} {xs : List V} {t : TE} (h : Rds t σ H (.ref p)) (hp : H p = some (.lst xs)) :
    Rds (tCB (fun xs H Q => ∃ p ys, xs = [V.ref p] ∧ (SqL K H p ys ∨ SqT K H p ys) ∧ Q (.int ys.length) H) (tCons t tNil)) σ H (.int (xs.length : Int)) := fun R r => h _ ⟨p, xs, rfl, .inl (SqL.of hp), r⟩
section
variable {σ : L2.St} {H : Hp} {ta tb tc td : TE} {i j k l : Int}
theorem rd_le3 {Q : Bool → Hp → Prop} (h1 : Rds ta σ H (.int i)) (h2 : Rds tb σ H (.int j)) (h3 : Rds tc σ H (.int k)) (h4 : Rds td σ H (.int l)) (q : Q (decide (i ≤ j) && (decide (j ≤ k) && decide (k ≤ l))) H) :
    tTest (tChain3 (rI0 fun i j => .bl (decide (i ≤ j))) (rI0 fun i j => .bl (decide (i ≤ j))) (rI0 fun i j => .bl (decide (i ≤ j))) ta tb tc td) σ H Q := by
  refine h1 _ (h2 _ ⟨_, _, rfl, rfl, _, rfl, ?_⟩)
  refine ite2 (fun e1 => ?_) fun e1 => ?_
  · rw [e1, Bool.true_and] at q
    refine h3 _ ⟨_, _, rfl, rfl, _, rfl, ?_⟩
    refine ite2 (fun e2 => ?_) fun e2 => ?_
    · rw [e2, Bool.true_and] at q
      exact h4 _ ⟨_, _, rfl, rfl, _, rfl, q⟩
    · rw [Bool.eq_false_iff.mpr e2, Bool.false_and] at q
      exact ⟨_, rfl, q⟩
  · rw [Bool.eq_false_iff.mpr e1, Bool.false_and] at q
    exact ⟨_, rfl, q⟩
theorem rd_le2V {Q : VK} (h1 : Rds ta σ H (.int i)) (h2 : Rds tb σ H (.int j)) (h3 : Rds tc σ H (.int k)) (q : Q (.bl (decide (i ≤ j) && decide (j ≤ k))) H) :
    tChain (rI0 fun i j => .bl (decide (i ≤ j))) (rI0 fun i j => .bl (decide (i ≤ j))) ta tb tc σ H Q := by
  refine h1 _ (h2 _ ⟨_, _, rfl, rfl, _, rfl, ?_⟩)
  refine ite2 (fun e1 => ?_) fun e1 => ?_
  · rw [e1, Bool.true_and] at q
    exact h3 _ ⟨_, _, rfl, rfl, q⟩
  · rw [Bool.eq_false_iff.mpr e1, Bool.false_and] at q
    exact q
theorem rd_lelt2V {Q : VK} (h1 : Rds ta σ H (.int i)) (h2 : Rds tb σ H (.int j)) (h3 : Rds tc σ H (.int k)) (q : Q (.bl (decide (i ≤ j) && decide (j < k))) H) :
    tChain (rI0 fun i j => .bl (decide (i ≤ j))) (rI0 fun i j => .bl (decide (i < j))) ta tb tc σ H Q := by
  refine h1 _ (h2 _ ⟨_, _, rfl, rfl, _, rfl, ?_⟩)
  refine ite2 (fun e1 => ?_) fun e1 => ?_
  · rw [e1, Bool.true_and] at q
    exact h3 _ ⟨_, _, rfl, rfl, q⟩
  · rw [Bool.eq_false_iff.mpr e1, Bool.false_and] at q
    exact q
theorem rd_le2 {Q : Bool → Hp → Prop} (h1 : Rds ta σ H (.int i)) (h2 : Rds tb σ H (.int j)) (h3 : Rds tc σ H (.int k)) (q : Q (decide (i ≤ j) && decide (j ≤ k)) H) :
    tTest (tChain (rI0 fun i j => .bl (decide (i ≤ j))) (rI0 fun i j => .bl (decide (i ≤ j))) ta tb tc) σ H Q := rd_le2V h1 h2 h3 ⟨_, rfl, q⟩
end

/-! ### the rules -/
def spare_rules : Sp := fun vs H Q _ => ∃ n m w l c : Int, vs = [.int n, .int m, .int w, .int l, .int c] ∧ Q (.bl (Vamrqj.goodPolicy n m w l c)) H
theorem okare_rules (F : DFun K mg "are_rules" sare_rules) (T : Txt K mg a) : DOk P w K mg base "are_rules" 1 ["need", "most", "window", "limit", "calm"] spare_rules := by
  refine F.ok scare_rules bdare_rules (fun vs H Q E h => ?_) (fun f cdv A outer s H vs Q E hr h => ?_)
  · obtain ⟨n, m, w, l, c, rfl, _⟩ := h
    rfl
  · obtain ⟨n, m, w, l, c, rfl, hk⟩ := h
    refine ⟨_, pss_cons (ps_if (pt_not (pt_chain3 op_le op_le op_le pe_int (pv 0) (pv 1) (pk T.kMOST_TRIES))) (pss_one (ps_ret pe_bl)) pss_nil)
      (pss_cons (ps_if (pt_not (pt_chain3 op_le op_le op_le pe_int (pv 3) (pv 2) (pk T.kWIDEST_WINDOW))) (pss_one (ps_ret pe_bl)) pss_nil)
      (pss_one (ps_ret (pe_chain op_le op_le pe_int (pv 4) (pk T.kLONGEST_CALM))))), ?_⟩
    have eg : Vamrqj.goodPolicy n m w l c = ((decide (1 ≤ n) && (decide (n ≤ m) && decide (m ≤ 9))) && ((decide (1 ≤ l) && (decide (l ≤ w) && decide (w ≤ 20))) && (decide (1 ≤ c) && decide (c ≤ 20)))) := by
      unfold Vamrqj.goodPolicy
      simp only [Bool.and_assoc]
    rw [eg] at hk
    refine rd_le3 (i := 1) (j := n) (k := m) (l := 9) Rds.c (Rds.v rfl) (Rds.v rfl) Rds.c ?_
    refine ite2 (fun e => ?_) fun e => ?_
    · rw [Bool.not_eq_true'] at e
      rw [e, Bool.false_and] at hk
      exact hk
    · rw [Bool.not_eq_true', Bool.not_eq_false] at e
      rw [e, Bool.true_and] at hk
      refine rd_le3 (i := 1) (j := l) (k := w) (l := 20) Rds.c (Rds.v rfl) (Rds.v rfl) Rds.c ?_
      refine ite2 (fun e => ?_) fun e => ?_
      · rw [Bool.not_eq_true'] at e
        rw [e, Bool.false_and] at hk
        exact hk
      · rw [Bool.not_eq_true', Bool.not_eq_false] at e
        rw [e, Bool.true_and] at hk
        exact rd_le2V (i := 1) (j := c) (k := 20) Rds.c (Rds.v rfl) Rds.c hk

def spRules_init (a : Cs) : Sp := fun vs H Q _ => ∃ (p dx : Addr) (n m w l c : Int), vs = [.ref p, .int n, .int m, .int w, .int l, .int c] ∧ H p = some (.ins a.cRules dx []) ∧ ∀ H' : Hp, H' p = some (.ins a.cRules dx (rulF n m w l c)) → But p H H' → Q .non H'
theorem okRules_init (F : IFun K mg a.cRules "Rules" "Rules.__init__" sRules_init) (T : Txt K mg a) : IOk P w K mg base a.cRules "Rules" 1 ["self", "need", "most", "window", "limit", "calm"] (spRules_init a) := by
  refine F.ok scRules_init bdRules_init (fun vs H Q E h => ?_) (fun f cdv A outer s H vs Q E hr h => ?_)
  · obtain ⟨p, dx, n, m, w, l, c, rfl, _⟩ := h
    rfl
  · obtain ⟨p, dx, n, m, w, l, c, rfl, hp, hk⟩ := h
    refine ⟨_, pss_cons (ps_fld (pv 0) (pv 1) rfl) (pss_cons (ps_fld (pv 0) (pv 2) rfl) (pss_cons (ps_fld (pv 0) (pv 3) rfl) (pss_cons (ps_fld (pv 0) (pv 4) rfl) (pss_one (ps_fld (pv 0) (pv 5) rfl))))), ?_⟩
    dsimp only [cxOf, Cx.nox]
    refine ⟨_, rfl, _, rfl, p, a.cRules, dx, _, rfl, hp, T.clRules, T.nRules_need, (by show (0 : Nat) < 1000; decide), ?_⟩
    refine ⟨_, rfl, _, rfl, p, a.cRules, dx, _, rfl, upd_same, T.clRules, T.nRules_most, (by show (1 : Nat) < 1000; decide), ?_⟩
    refine ⟨_, rfl, _, rfl, p, a.cRules, dx, _, rfl, upd_same, T.clRules, T.nRules_window, (by show (2 : Nat) < 1000; decide), ?_⟩
    refine ⟨_, rfl, _, rfl, p, a.cRules, dx, _, rfl, upd_same, T.clRules, T.nRules_limit, (by show (3 : Nat) < 1000; decide), ?_⟩
    refine ⟨_, rfl, _, rfl, p, a.cRules, dx, _, rfl, upd_same, T.clRules, T.nRules_calm, (by show (4 : Nat) < 1000; decide), ?_⟩
    exact hk _ upd_same ((((But.upd.trans But.upd).trans But.upd).trans But.upd).trans But.upd)

/-! ### outcomes that may be told -/
def okBits (ns : List Int) : Bool := (decide (1 ≤ ns.length) && decide (ns.length ≤ 12)) && ns.all fun b => decide (b = 0) || decide (b = 1)
def spare_outcomes : Sp := fun vs H Q _ => ∃ (p : Addr) (ns : List Int), vs = [.ref p] ∧ H p = some (.lst (ns.map V.int)) ∧ ∀ H' : Hp, Same H H' → Q (.bl (okBits ns)) H'
theorem okare_outcomes (F : DFun K mg "are_outcomes" sare_outcomes) (T : Txt K mg a) : DOk P w K mg base "are_outcomes" 1 ["bits"] spare_outcomes := by
  refine F.ok scare_outcomes bdare_outcomes (fun vs H Q E h => ?_) (fun f cdv A outer s H vs Q E hr h => ?_)
  · obtain ⟨p, ns, rfl, _⟩ := h
    rfl
  · obtain ⟨p, ns, rfl, hp, hk⟩ := h
    refine ⟨_, pss_cons (ps_if (pt_not (pt_chain op_le op_le pe_int (pe_callB call_len_seq (by rfl) T.blen PySem.boot_len (pa_cons (pv 0) pa_nil)) (pk T.kMOST_OUTCOMES))) (pss_one (ps_ret pe_bl)) pss_nil)
      (pss_one (ps_ret (pe_callB (cr_all rfl) (by rfl) T.ball (by decide +kernel) (pa_cons
        (pe_lc rfl scare_outcomes.nd (own := [("bit", 1)]) (pi_list (pv 0)) (blkOk_by (by rfl)) (fun s H C cl fp => pg_name (i := 1) scare_outcomes.nd rfl (Or.inl rfl)) (fun s H C cl fp => pts_nil)
          (fun s H C cl fp => pe_or (pe_cmp (pc_eqI (pv 1) pe_int)) (pe_one (pe_cmp (pc_eqI (pv 1) pe_int))))) pa_nil)))), ?_⟩
    dsimp only [cxOf, Cx.nox]
    refine rd_le2 (i := 1) (j := (ns.map V.int).length) (k := 12) Rds.c (Rds.len (Rds.v rfl) hp) Rds.c ?_
    rw [List.length_map]
    refine ite2 (fun e => ?_) fun e => ?_
    · have e1 : okBits ns = false := by
        unfold okBits
        simp at e
        rw [Bool.and_eq_false_iff]
        left
        rw [Bool.and_eq_false_iff]
        by_cases z : 1 ≤ ns.length
        · right
          exact decide_eq_false (by omega)
        · left
          exact decide_eq_false z
      have := hk H (Same.refl H)
      rw [e1] at this
      exact this
    · have e1 : 1 ≤ ns.length ∧ ns.length ≤ 12 := by
        simp at e
        omega
      have e2 : okBits ns = ns.all fun b => decide (b = 0) || decide (b = 1) := by
        unfold okBits
        rw [decide_eq_true e1.1, decide_eq_true e1.2]
        rfl
      refine ⟨_, rfl, p, rfl, ⟨_, SqL.of hp⟩, fun E' hE => ?_⟩
      refine lc_list (K := K) (a := p) (xs := ns.map V.int) (fun i H' => H' E' = some (.lst (((ns.take i).map fun b => decide (b = 0) || decide (b = 1)).map V.bl)) ∧ Same H H') ⟨upd_same, same_new hE⟩ (fun i H' _ ⟨_, s3⟩ => SqL.of (s3 _ _ hp)) ?_ ?_
      · rintro i y H' hi ⟨e3, s3⟩
        obtain ⟨z, hz, rfl⟩ : ∃ z, ns[i]? = some z ∧ y = V.int z := by
          rw [List.getElem?_map] at hi
          cases e : ns[i]? with
          | none =>
            rw [e] at hi
            cases hi
          | some z =>
            rw [e] at hi
            exact ⟨z, rfl, (Option.some.inj hi).symm⟩
        have hlen : (((ns.take i).map fun b => decide (b = 0) || decide (b = 1)).map V.bl).length < sizeLine := by
          rw [List.length_map, List.length_map, List.length_take]
          exact Nat.lt_of_le_of_lt (Nat.le_trans (Nat.min_le_right _ _) e1.2) (by decide)
        have fin : ∀ b : Bool, (decide (z = 0) || decide (z = 1)) = b → ∃ acc, H' E' = some (.lst acc) ∧ acc.length < sizeLine ∧ (upd H' E' (.lst (acc ++ [.bl b]))) E' = some (.lst (((ns.take (i + 1)).map fun b => decide (b = 0) || decide (b = 1)).map V.bl)) ∧ Same H (upd H' E' (.lst (acc ++ [.bl b]))) := fun b eb => by
          refine ⟨_, e3, hlen, ?_, fun b' o e => ?_⟩
          · rw [upd_same, take_snoc hz, List.map_append, List.map_append, ← eb]
            rfl
          · rw [upd_ne (ne_of_none e hE)]
            exact s3 _ _ e
        refine ⟨rfl, ?_⟩
        simp only [tYes, if_true]
        refine ⟨_, rfl, _, _, rfl, rfl, _, rfl, ?_⟩
        refine ite2 (fun h => ?_) fun h => ?_
        · have h : decide (z = 0) = true := h
          refine fin true ?_
          rw [h]
          rfl
        · have h : decide (z = 0) = false := by simpa using h
          refine ⟨_, rfl, _, _, rfl, rfl, fin _ ?_⟩
          rw [h, Bool.false_or]
      · rintro H' ⟨e3, s3⟩
        rw [List.length_map, List.take_of_length_le (Nat.le_refl _)] at e3
        refine ⟨_, _, rfl, SqL.of e3, ?_⟩
        have := hk H' s3
        rw [e2] at this
        rw [List.all_map]
        exact this
end TR
end
-- TRRoom2
section
set_option Elab.async false
set_option linter.all false
set_option maxRecDepth 100000
set_option maxHeartbeats 2000000
namespace TR
open PySem PySem.Spec PyProof.Rows L2
variable {P : Program} {w : World} {K : PySem.W.Frag} {mg : Str → Option Value} {base : Heap} {a : Cs}

/-! ### what a call on the room promises -/
def Done (a : Cs) (q : Addr → Prop) (H : Hp) (r : Addr) (s : Vamrqj.State) (c : Vamrqj.Call) (Q : VK) : Prop :=
  ∀ (l : Addr) (H' : Hp), RoomAt a q H' r (Vamrqj.step s c).1 → H' l = some (.lst ((VamrqjNeutral.encode (Vamrqj.step s c).2).map V.int)) → Frm a H H' → ¬ q l → Q (.ref l) H'
def spOf (a : Cs) (dec : Hp → List V → Vamrqj.Call → Prop) : Sp := fun vs H Q _ => ∃ (q : Addr → Prop) (r : Addr) (s : Vamrqj.State) (c : Vamrqj.Call) (rest : List V), vs = .ref r :: rest ∧ dec H rest c ∧ (∀ x, q x → H x ≠ none) ∧
  RoomAt a q H r s ∧ Wf s ∧ Done a q H r s c Q
theorem still {q : Addr → Prop} {H H' : Hp} (hq : ∀ x, q x → H x ≠ none) (s : Same H H') : ∀ x, q x → H' x ≠ none := fun x hx e => by
  cases z : H x with
  | none => exact hq x hx z
  | some o =>
    rw [s x o z] at e
    cases e
/-- a new address is none of q's -/
theorem notq {q : Addr → Prop} {H H1 : Hp} {r l : Addr} (hq : ∀ x, q x → H x ≠ none) (b : But r H H1) (hl : H1 l = none) (n : l ≠ r) : ¬ q l := fun z => by
  cases y : H l with
  | none => exact hq l z y
  | some o =>
    rw [b l o y n] at hl
    cases hl
theorem Done.same {q : Addr → Prop} {H H1 : Hp} {r l : Addr} {s : Vamrqj.State} {c : Vamrqj.Call} {Q : VK} {ans : Vamrqj.Answer} (h : Done a q H r s c Q) (d : Dif a) (hq : ∀ x, q x → H x ≠ none) (R : RoomAt a q H r s) (s1 : Same H H1) (hl : H1 l = none) (e : Vamrqj.step s c = (s, ans))
    {xs : List V} (en : xs = (VamrqjNeutral.encode ans).map V.int) : Q (.ref l) (upd H1 l (.lst xs)) := by
  have s2 := s1.trans (same_new (o := .lst xs) hl)
  refine h l _ ?_ ?_ (Frm.same s2) fun z => still hq s1 l z hl
  · rw [e]
    exact R.same d s2
  · rw [e, upd_same, en]
theorem rec_ne_room {q : Addr → Prop} {H : Hp} {r p dx : Addr} {fs : List (Str × V)} {t : Vamrqj.Test} (d : Dif a) (h : RecAt a q H p t) (hr : H r = some (.ins a.cRoom dx fs)) : p ≠ r := by
  obtain ⟨dx', l, h1, _⟩ := h
  refine ne_of h1 hr fun z => ?_
  injection z with z1
  exact d.recRoom z1
theorem room_frm' {H : Hp} {r dx : Addr} {fs : List (Str × V)} (hr : H r = some (.ins a.cRoom dx fs)) : ∀ o, H r = some o → ¬ Fix a o := fun o e z => by
  rw [hr] at e
  cases e
  exact z.2 rfl

/-! ### Room() -/
def spRoom_init (a : Cs) : Sp := fun vs H Q _ => ∃ (r dx : Addr), vs = [.ref r] ∧ H r = some (.ins a.cRoom dx []) ∧ ∀ H' : Hp, (∀ q : Addr → Prop, (∀ x, q x → H' x = none) → RoomAt a q H' r Vamrqj.start) → But r H H' → Q .non H'
theorem okRoom_init (F : IFun K mg a.cRoom "Room" "Room.__init__" sRoom_init) (T : Txt K mg a) (I : IOk P w K mg base a.cRules "Rules" 1 ["self", "need", "most", "window", "limit", "calm"] (spRules_init a)) :
    IOk P w K mg base a.cRoom "Room" 3 ["self"] (spRoom_init a) := by
  refine F.ok scRoom_init bdRoom_init (fun vs H Q E h => ?_) (fun f cdv A outer s H vs Q E hr h => ?_)
  · obtain ⟨r, dx, rfl, _⟩ := h
    rfl
  · obtain ⟨r, dx, rfl, hp, hk⟩ := h
    refine ⟨_, pss_cons (ps_fld (pv 0) (pmk I hr (pa_cons pe_int (pa_cons pe_int (pa_cons pe_int (pa_cons pe_int (pa_cons pe_int pa_nil)))))) rfl) (pss_cons (ps_fld (pv 0) (pe_lst pa_nil) rfl) (pss_one (ps_fld (pv 0) pe_dnewT rfl))), ?_⟩
    dsimp only [cxOf, Cx.nox]
    intro x1 d1 n1 m1 e1
    refine ⟨x1, d1, 1, 1, 10, 2, 5, rfl, upd_same, fun H1 hu b1 => ⟨rfl, ?_⟩⟩
    have s1 : Same H H1 := Same.made n1 m1 b1
    have n1r : r ≠ x1 := ne_of_none hp n1
    refine ⟨_, rfl, r, a.cRoom, dx, _, rfl, s1 _ _ hp, T.clRoom, T.nRoom_rules, (by show (0 : Nat) < 1000; decide), ?_⟩
    refine ⟨Nat.zero_le _, fun l hl => ?_⟩
    have nlr : l ≠ r := fun z => by rw [z, upd_same] at hl; cases hl
    have nlx : l ≠ x1 := fun z => by rw [z, upd_ne (Ne.symm n1r), hu] at hl; cases hl
    refine ⟨_, rfl, r, a.cRoom, dx, _, rfl, (by rw [upd_ne (Ne.symm nlr)]; exact upd_same), T.clRoom, T.nRoom_records, (by show (1 : Nat) < 1000; decide), ?_⟩
    intro t ht
    have ntr : t ≠ r := fun z => by rw [z, upd_same] at ht; cases ht
    have ntl : t ≠ l := fun z => by rw [z, upd_ne nlr, upd_same] at ht; cases ht
    have ntx : t ≠ x1 := fun z => by rw [z, upd_ne (Ne.symm n1r), upd_ne (Ne.symm nlx), upd_ne (Ne.symm n1r), hu] at ht; cases ht
    refine ⟨_, rfl, r, a.cRoom, dx, _, rfl, (by rw [upd_ne (Ne.symm ntr)]; exact upd_same), T.clRoom, T.nRoom_told, (by show (2 : Nat) < 1000; decide), ?_⟩
    have el : ∀ o, upd (upd (upd (upd (upd H1 r (.ins a.cRoom dx (putF "rules" (.ref x1) []))) l (.lst [])) r (.ins a.cRoom dx (putF "records" (.ref l) (putF "rules" (.ref x1) [])))) t (.dT [])) r o l = some (.lst []) := fun o => by
      rw [upd_ne nlr, upd_ne (Ne.symm ntl), upd_ne nlr, upd_same]
    refine hk _ (fun q hq => ⟨dx, x1, l, t, [], upd_same, ⟨d1, ?_⟩, fun z => ?_, ?_, List.nodup_nil, .nil, [], ?_, rfl, fun x v => rfl⟩) ?_
    · rw [upd_ne (Ne.symm n1r), upd_ne (Ne.symm ntx), upd_ne (Ne.symm n1r), upd_ne (Ne.symm nlx), upd_ne (Ne.symm n1r), hu]
      rfl
    · have := hq l z
      rw [el] at this
      cases this
    · exact el _
    · rw [upd_ne ntr, upd_same]
    · exact ((((s1.but.trans But.upd).trans (same_new hl).but).trans But.upd).trans (same_new ht).but).trans But.upd

/-! ### a test's number and a revision -/
def inRange (s : Vamrqj.State) (x v : Int) : Bool := decide (0 ≤ x ∧ x < s.tests.length ∧ 0 ≤ v ∧ v ≤ 999)
def spis_revision : Sp := fun vs H Q _ => ∃ v : Int, vs = [.int v] ∧ Q (.bl (decide (0 ≤ v) && decide (v ≤ 999))) H
theorem okis_revision (F : DFun K mg "is_revision" sis_revision) (T : Txt K mg a) : DOk P w K mg base "is_revision" 1 ["v"] spis_revision := by
  refine F.ok scis_revision bdis_revision (fun vs H Q E h => ?_) (fun f cdv A outer s H vs Q E hr h => ?_)
  · obtain ⟨v, rfl, _⟩ := h
    rfl
  · obtain ⟨v, rfl, hk⟩ := h
    refine ⟨_, pss_one (ps_ret (pe_chain op_le op_le pe_int (pv 0) (pk T.kLAST_REVISION))), ?_⟩
    exact rd_le2V (i := 0) (j := v) (k := 999) Rds.c (Rds.v rfl) Rds.c hk
def isTest (s : Vamrqj.State) (x : Int) : Bool := decide (0 ≤ x) && decide (x < s.tests.length)
def spRoom_is_test (a : Cs) : Sp := fun vs H Q _ => ∃ (q : Addr → Prop) (r : Addr) (s : Vamrqj.State) (x : Int), vs = [.ref r, .int x] ∧ RoomAt a q H r s ∧ Q (.bl (isTest s x)) H
theorem okRoom_is_test (F : MFun K a.cRoom "is_test" "Room.is_test" sRoom_is_test) (T : Txt K mg a) : MOk P w K mg base a.cRoom "is_test" 1 ["self", "x"] (spRoom_is_test a) := by
  refine F.ok scRoom_is_test bdRoom_is_test (fun vs H Q E h => ?_) (fun f cdv A outer s H vs Q E hr h => ?_)
  · obtain ⟨q, r, s, x, rfl, _⟩ := h
    rfl
  · obtain ⟨q, r, s, x, rfl, ⟨dx, pr, pl, dd, ps, hR, _, _, hl, _, hps, _⟩, hk⟩ := h
    refine ⟨_, pss_one (ps_ret (pe_chain op_le op_lt pe_int (pv 1) (pe_callB call_len_seq (by rfl) T.blen PySem.boot_len (pa_cons (pe_fld (pv 0) rfl) pa_nil)))), ?_⟩
    dsimp only [cxOf, Cx.nox]
    have hlen : (((ps.map V.ref).length : Nat) : Int) = (s.tests.length : Int) := by rw [List.length_map, paired_len hps]
    have e0 : isTest s x = (decide (0 ≤ x) && decide (x < ((ps.map V.ref).length : Int))) := by
      rw [hlen]
      rfl
    rw [e0] at hk
    exact rd_lelt2V (i := 0) (j := x) (k := ((ps.map V.ref).length : Int)) Rds.c (Rds.v rfl) (Rds.len (Rds.f (Rds.v rfl) hR T.clRoom T.nRoom_records rfl) hl) hk
def spRoom_atr (a : Cs) : Sp := fun vs H Q _ => ∃ (q : Addr → Prop) (r : Addr) (s : Vamrqj.State) (x v : Int), vs = [.ref r, .int x, .int v] ∧ RoomAt a q H r s ∧ Q (.bl (inRange s x v)) H
theorem okRoom_atr (F : MFun K a.cRoom "are_test_and_revision" "Room.are_test_and_revision" sRoom_are_test_and_revision) (T : Txt K mg a) (Mt : MOk P w K mg base a.cRoom "is_test" 1 ["self", "x"] (spRoom_is_test a))
    (G : DOk P w K mg base "is_revision" 1 ["v"] spis_revision) : MOk P w K mg base a.cRoom "are_test_and_revision" 2 ["self", "x", "v"] (spRoom_atr a) := by
  refine F.ok scRoom_are_test_and_revision bdRoom_are_test_and_revision (fun vs H Q E h => ?_) (fun f cdv A outer s H vs Q E hr h => ?_)
  · obtain ⟨q, r, s, x, v, rfl, _⟩ := h
    rfl
  · obtain ⟨q, r, s, x, v, rfl, hR0, hk⟩ := h
    have hR1 := hR0
    obtain ⟨dx, pr, pl, dd, ps, hR, _⟩ := hR0
    refine ⟨_, pss_one (ps_ret (pe_and (pm T.clRoom Mt hr (pv 0) (pa_cons (pv 1) pa_nil)) (pe_one (pd G hr (pa_cons (pv 2) pa_nil))))), ?_⟩
    have e0 : inRange s x v = (isTest s x && (decide (0 ≤ v) && decide (v ≤ 999))) := by
      unfold inRange isTest
      simp only [Bool.decide_and, Bool.and_assoc]
    rw [e0] at hk
    refine ⟨_, rfl, r, dx, _, rfl, hR, rfl, _, rfl, q, r, s, x, rfl, hR1, _, rfl, ?_⟩
    refine ite2 (fun e => ?_) fun e => ?_
    · rw [e, Bool.true_and] at hk
      exact ⟨_, rfl, v, rfl, hk⟩
    · rw [Bool.eq_false_iff.mpr e, Bool.false_and] at hk
      exact hk

/-! ### the outcomes of a test at a revision -/
def spRoom_outcomes_at (a : Cs) : Sp := fun vs H Q _ => ∃ (q : Addr → Prop) (r : Addr) (s : Vamrqj.State) (x v : Nat), vs = [.ref r, .int (x : Int), .int (v : Int)] ∧ (∀ x, q x → H x ≠ none) ∧ RoomAt a q H r s ∧
  ∀ (p : Addr) (H' : Hp), Same H H' → BitsAt q H' p (toldBits s.oracle x v) → Q (.ref p) H'
theorem okRoom_outcomes_at (F : MFun K a.cRoom "outcomes_at" "Room.outcomes_at" sRoom_outcomes_at) (T : Txt K mg a) (D : Dif a) : MOk P w K mg base a.cRoom "outcomes_at" 1 ["self", "x", "v"] (spRoom_outcomes_at a) := by
  refine F.ok scRoom_outcomes_at bdRoom_outcomes_at (fun vs H Q E h => ?_) (fun f cdv A outer s H vs Q E hr h => ?_)
  · obtain ⟨q, r, s, x, v, rfl, _⟩ := h
    rfl
  · obtain ⟨q, r, s, x, v, rfl, hq, ⟨dx, pr, pl, dd, ps, hR, _, _, _, _, _, kvs, hd, _, hS⟩, hk⟩ := h
    have hu := hu_of hr
    refine ⟨_, pss_one (ps_ret (pe_dget2 hu (pe_fld (pv 0) rfl) (pe_tup (pa_cons (pv 1) (pa_cons (pv 2) pa_nil))) (pe_lst (pa_cons pe_int pa_nil)) ⟨rfl, rfl, rfl, rfl⟩)), ?_⟩
    dsimp only [cxOf, Cx.nox]
    refine ⟨_, rfl, r, a.cRoom, dx, _, _, rfl, hR, T.clRoom, T.nRoom_told, rfl, dd, rfl, .inr ⟨kvs, .inl hd⟩, _, rfl, _, rfl, (by show 2 ≤ sizeLine; decide), fun t ht => ?_⟩
    refine ⟨(by show 1 ≤ sizeLine; decide), fun l hl => ?_⟩
    have s1 := same_new (o := .tup [.int (x : Int), .int (v : Int)]) ht
    have s2 := s1.trans (same_new (o := .lst [.int 1]) hl)
    refine ⟨_, DGet.t (k := [.inl (x : Int), .inl (v : Int)]) (s2 _ _ hd) (same_new hl _ _ upd_same), ?_⟩
    have h1 := hS x v
    cases e : s.oracle.find? (isKey x v) with
    | none =>
      rw [e] at h1
      rw [h1]
      have et : toldBits s.oracle x v = [true] := by
        unfold toldBits
        rw [e]
      refine hk l _ s2 ⟨fun z => hq l z (s1.free hl), ?_⟩
      rw [et]
      exact upd_same
    | some u =>
      rw [e] at h1
      obtain ⟨p, h2, h3⟩ := h1
      rw [h2]
      have et : toldBits s.oracle x v = u.bits := by
        unfold toldBits
        rw [e]
      refine hk p _ s2 ?_
      rw [et]
      exact h3.frm (a := a) (Frm.same s2)

/-! ### policy -/
def decPolicy : Hp → List V → Vamrqj.Call → Prop := fun _ rest c => ∃ n m w l k : Int, rest = [.int n, .int m, .int w, .int l, .int k] ∧ c = .policy n m w l k
theorem okRoom_policy (F : MFun K a.cRoom "policy" "Room.policy" sRoom_policy) (T : Txt K mg a) (D : Dif a) (G : DOk P w K mg base "are_rules" 1 ["need", "most", "window", "limit", "calm"] spare_rules)
    (I : IOk P w K mg base a.cRules "Rules" 1 ["self", "need", "most", "window", "limit", "calm"] (spRules_init a)) : MOk P w K mg base a.cRoom "policy" 3 ["self", "need", "most", "window", "limit", "calm"] (spOf a decPolicy) := by
  refine F.ok scRoom_policy bdRoom_policy (fun vs H Q E h => ?_) (fun f cdv A outer s H vs Q E hr h => ?_)
  · obtain ⟨q, r, s, c, rest, rfl, ⟨n, m, w, l, k, rfl, rfl⟩, _⟩ := h
    rfl
  · obtain ⟨q, r, s, c, rest, rfl, ⟨n, m, w, l, k, rfl, rfl⟩, hq, hR0, hw, hk⟩ := h
    obtain ⟨dx, pr, pl, dd, ps, hR, hu, h3, h4, h5, h6, hT⟩ := hR0
    refine ⟨_, pss_cons (ps_if (pt_not (pt_val (pd G hr (pa_cons (pv 1) (pa_cons (pv 2) (pa_cons (pv 3) (pa_cons (pv 4) (pa_cons (pv 5) pa_nil)))))))) (pss_one (ps_ret (pe_lst (pa_cons (pk T.kOUT_OF_RANGE) pa_nil)))) pss_nil)
      (pss_cons (ps_fld (pv 0) (pmk I hr (pa_cons (pv 1) (pa_cons (pv 2) (pa_cons (pv 3) (pa_cons (pv 4) (pa_cons (pv 5) pa_nil)))))) rfl) (pss_one (ps_ret (pe_lst (pa_cons pe_int pa_nil))))), ?_⟩
    dsimp only [cxOf, Cx.nox]
    refine ⟨_, rfl, _, rfl, _, rfl, _, rfl, _, rfl, n, m, w, l, k, rfl, _, rfl, ?_⟩
    refine ite2 (fun e => ?_) fun e => ?_
    · have e : Vamrqj.goodPolicy n m w l k = false := by simpa using e
      refine ⟨(by show 1 ≤ sizeLine; decide), fun p hp => ?_⟩
      exact hk.same D hq ⟨dx, pr, pl, dd, ps, hR, hu, h3, h4, h5, h6, hT⟩ (Same.refl H) hp (ans := .refused (-1)) (by show (if _ then _ else _) = _; rw [if_pos e]) rfl
    · have e : Vamrqj.goodPolicy n m w l k = true := by simpa using e
      have ge := goodPol e
      refine ⟨_, rfl, _, rfl, _, rfl, _, rfl, _, rfl, ?_⟩
      intro x1 d1 n1 m1 e1
      refine ⟨x1, d1, n, m, w, l, k, rfl, upd_same, fun H1 hu1 b1 => ⟨rfl, ?_⟩⟩
      have s1 : Same H H1 := Same.made n1 m1 b1
      have n1r : r ≠ x1 := ne_of_none hR n1
      refine ⟨_, rfl, r, a.cRoom, dx, _, rfl, s1 _ _ hR, T.clRoom, T.nRoom_rules, (by show (3 : Nat) < 1000; decide), ?_⟩
      refine ⟨(by show 1 ≤ sizeLine; decide), fun p hp => ?_⟩
      have b2 : But r H (upd H1 r (.ins a.cRoom dx (putF "rules" (.ref x1) (roomF pr pl dd)))) := s1.but.trans But.upd
      have b3 := b2.trans (same_new (o := .lst [.int 0]) hp).but
      have f3 := Frm.but (a := a) b3 (room_frm' hR)
      have est : Vamrqj.step s (.policy n m w l k) = (⟨⟨n.toNat, m.toNat, w.toNat, l.toNat, k.toNat⟩, s.oracle, s.tests⟩, .told [0]) := by
        show (if _ then _ else _) = _
        rw [if_neg (by rw [e]; decide)]
      have npr : r ≠ p := ne_of_none upd_same hp
      have npx : x1 ≠ p := fun z => by
        rw [← z, upd_ne (Ne.symm n1r), hu1] at hp
        cases hp
      refine hk p _ ?_ ?_ f3 (notq hq b2 hp (Ne.symm npr))
      · rw [est]
        refine ⟨dx, x1, pl, dd, ps, ?_, ⟨d1, ?_⟩, h3, f3 _ _ h4 trivial, h5, paired_imp h6 fun u t z => z.keep D f3 fun o eo => b3 _ _ eo (rec_ne_room D z hR), ?_⟩
        · rw [upd_ne npr, upd_same]
          rfl
        · rw [upd_ne npx, upd_ne (Ne.symm n1r), hu1]
          show some (HO.ins a.cRules d1 (rulF n m w l k)) = some (HO.ins a.cRules d1 (rulF ((n.toNat : Nat) : Int) ((m.toNat : Nat) : Int) ((w.toNat : Nat) : Int) ((l.toNat : Nat) : Int) ((k.toNat : Nat) : Int)))
          rw [Int.toNat_of_nonneg (by omega), Int.toNat_of_nonneg (by omega), Int.toNat_of_nonneg (by omega), Int.toNat_of_nonneg (by omega), Int.toNat_of_nonneg (by omega)]
        · refine hT.keeps f3 fun kvs ek => b3 _ _ ek ?_
          refine ne_of ek hR (by intro z; cases z)
      · rw [est, upd_same]
        rfl
end TR
end
-- TRRoom3
section
set_option Elab.async false
set_option linter.all false
set_option maxRecDepth 100000
set_option maxHeartbeats 2000000
namespace TR
open PySem PySem.Spec PyProof.Rows L2
variable {P : Program} {w : World} {K : PySem.W.Frag} {mg : Str → Option Value} {base : Heap} {a : Cs}

theorem step_tell (s : Vamrqj.State) (x v : Int) (b : List Int) : Vamrqj.step s (.tell x v b) = Vamrqj.asked s x v fun x v => Vamrqj.telling s x v b := rfl
theorem step_outcome (s : Vamrqj.State) (x v k : Int) : Vamrqj.step s (.outcome x v k) = Vamrqj.asked s x v fun x v => if k < 0 ∨ 999 < k then (s, .refused (-1)) else (s, .told [Vamrqj.bit (Vamrqj.outcome s.oracle x v k.toNat)]) := rfl
theorem step_dry (s : Vamrqj.State) (x v : Int) : Vamrqj.step s (.dry x v) = Vamrqj.asked s x v fun x v => (s, .told (Vamrqj.runTold (Vamrqj.runOf s.policy s.oracle x v))) := rfl
theorem step_run (s : Vamrqj.State) (x v : Int) : Vamrqj.step s (.run x v) = Vamrqj.asked s x v fun x v => (s.ran x v, .told (Vamrqj.runTold (Vamrqj.runOf s.policy s.oracle x v) ++ [Vamrqj.bit ((s.ran x v).test x).held])) := rfl
theorem asked_no {s : Vamrqj.State} {x v : Int} {f : Nat → Nat → Vamrqj.State × Vamrqj.Answer} (h : inRange s x v = false) : Vamrqj.asked s x v f = (s, .refused (-1)) := by
  unfold Vamrqj.asked
  rw [if_neg (of_decide_eq_false h)]
theorem asked_yes {s : Vamrqj.State} {x v : Int} (h : inRange s x v = true) : ∃ x' v' : Nat, x = (x' : Int) ∧ v = (v' : Int) ∧ x' < s.tests.length ∧ v' ≤ 999 ∧ ∀ f : Nat → Nat → Vamrqj.State × Vamrqj.Answer, Vamrqj.asked s x v f = f x' v' := by
  have h := of_decide_eq_true h
  refine ⟨x.toNat, v.toNat, by omega, by omega, by omega, by omega, fun f => ?_⟩
  unfold Vamrqj.asked
  rw [if_pos h]
theorem paired_mem {α β : Type} {R : α → β → Prop} {l : List α} {m : List β} (h : Paired R l m) : ∀ {x : α}, x ∈ l → ∃ y, R x y := by
  induction h with
  | nil => intro x hx; simp at hx
  | @cons b c l m r t ih =>
    intro x hx
    rcases List.mem_cons.mp hx with e | hx
    · subst e
      exact ⟨c, r⟩
    · exact ih hx

/-! ### tests -/
def decTests : Hp → List V → Vamrqj.Call → Prop := fun _ rest c => ∃ n : Int, rest = [.int n] ∧ c = .tests n
theorem okRoom_tests (F : MFun K a.cRoom "tests" "Room.tests" sRoom_tests) (T : Txt K mg a) (D : Dif a) (I : IOk P w K mg base a.cRecord "Record" 1 ["self"] (spRecord_init a)) :
    MOk P w K mg base a.cRoom "tests" 3 ["self", "n"] (spOf a decTests) := by
  refine F.ok scRoom_tests bdRoom_tests (fun vs H Q E h => ?_) (fun f cdv A outer s H vs Q E hr h => ?_)
  · obtain ⟨q, r, s, c, rest, rfl, ⟨n, rfl, rfl⟩, _⟩ := h
    rfl
  · obtain ⟨q, r, s, c, rest, rfl, ⟨n, rfl, rfl⟩, hq, hR0, hw, hk⟩ := h
    have hR1 := hR0
    obtain ⟨dx, pr, pl, dd, ps, hR, hu, h3, h4, h5, h6, hT⟩ := hR0
    refine ⟨_, pss_cons (ps_if (pt_not (pt_chain op_le op_le pe_int (pv 1) (pk T.kMOST_TESTS))) (pss_one (ps_ret (pe_lst (pa_cons (pk T.kOUT_OF_RANGE) pa_nil)))) pss_nil)
      (pss_cons (ps_fld (pv 0) (pe_lc rfl scRoom_tests.nd (own := [("x", 2)]) (pi_range1 (by rfl) T.brange (pa_cons (pv 1) pa_nil)) (blkOk_by (by rfl)) (fun s H C cl fp => pg_name (i := 2) scRoom_tests.nd rfl (Or.inl rfl)) (fun s H C cl fp => pts_nil) (fun s H C cl fp => pmk0 I hr)) rfl)
      (pss_cons (ps_fld (pv 0) pe_dnewT rfl) (pss_one (ps_ret (pe_lst (pa_cons (pv 1) pa_nil)))))), ?_⟩
    dsimp only [cxOf, Cx.nox]
    refine rd_le2 (i := 0) (j := n) (k := 12) Rds.c (Rds.v rfl) Rds.c ?_
    refine ite2 (fun e => ?_) fun e => ?_
    · refine ⟨(by show 1 ≤ sizeLine; decide), fun p hp => ?_⟩
      refine hk.same D hq hR1 (Same.refl H) hp (ans := .refused (-1)) ?_ rfl
      show (if _ then _ else _) = _
      rw [if_pos]
      simp at e
      simp only [Vamrqj.MOSTTESTS]
      omega
    · have e : 0 ≤ n ∧ n ≤ 12 := by simpa using e
      have est : Vamrqj.step s (.tests n) = (⟨s.policy, [], List.replicate n.toNat Vamrqj.fresh⟩, .told [n]) := by
        show (if _ then _ else _) = _
        rw [if_neg]
        simp only [Vamrqj.MOSTTESTS]
        omega
      refine ⟨_, rfl, n, rfl, by omega, by omega, fun E' hE => ?_⟩
      refine lc_range (lo := 0) (n := n.toNat) (fun i H' => ∃ us : List Addr, us.length = i ∧ H' E' = some (.lst (us.map V.ref)) ∧ us.Nodup ∧ Paired (RecAt a (fun x => q x ∨ x = E') H') us (List.replicate i Vamrqj.fresh) ∧ Same H H')
        ⟨[], rfl, upd_same, List.nodup_nil, .nil, same_new hE⟩ ?_ ?_
      · rintro i H' hi ⟨us, hl, hE', hn, hP, s1⟩
        refine ⟨rfl, ?_⟩
        simp only [tYes, if_true]
        intro x1 d1 n1 m1 e1
        have s2 : Same H' (upd (upd H' d1 (.own x1)) x1 (.ins a.cRecord d1 [])) := fun b o eb => by
          rw [upd_ne (ne_of_none eb n1), upd_ne (ne_of_none eb m1)]
          exact eb
        refine ⟨fun x => q x ∨ x = E', x1, d1, rfl, upd_same, ?_, fun H1 hrec b1 => ⟨rfl, ?_⟩⟩
        · rintro x (hx | rfl)
          · exact still hq (s1.trans s2) x hx
          · rw [s2 _ _ hE']
            exact fun z => nomatch z
        · have s3 : Same H' H1 := Same.made n1 m1 b1
          have hE1 := s3 _ _ hE'
          refine ⟨_, hE1, ?_, us ++ [x1], by rw [List.length_append, hl]; rfl, ?_, ?_, ?_, fun b o eb => ?_⟩
          · rw [List.length_map, hl]
            exact Nat.lt_of_lt_of_le (show i < 13 by omega) (by decide)
          · rw [upd_same, List.map_append]
            rfl
          · refine nodup_snoc hn fun hx => ?_
            obtain ⟨t, dt, lt, z, _⟩ := paired_mem hP hx
            rw [n1] at z
            cases z
          · rw [List.replicate_succ']
            refine Paired.snoc (paired_imp hP fun p t z => (z.same D s3).out (Or.inr rfl) hE1 But.upd) (hrec.out (Or.inr rfl) hE1 But.upd)
          · rw [upd_ne (ne_of_none eb hE)]
            exact s3 _ _ (s1 _ _ eb)
      · rintro H' ⟨us, hl, hE', hn, hP, s1⟩
        refine ⟨_, rfl, r, a.cRoom, dx, _, rfl, s1 _ _ hR, T.clRoom, T.nRoom_records, (by show (3 : Nat) < 1000; decide), ?_⟩
        intro t ht
        have nEr : E' ≠ r := fun z => by rw [z, hR] at hE; cases hE
        have ntr : t ≠ r := fun z => by rw [z, upd_same] at ht; cases ht
        have ntE : t ≠ E' := fun z => by rw [z, upd_ne nEr, hE'] at ht; cases ht
        refine ⟨_, rfl, r, a.cRoom, dx, _, rfl, (by rw [upd_ne (Ne.symm ntr)]; exact upd_same), T.clRoom, T.nRoom_told, (by show (3 : Nat) < 1000; decide), ?_⟩
        refine ⟨_, rfl, (by show 1 ≤ sizeLine; decide), fun l hl => ?_⟩
        have nlr : l ≠ r := fun z => by rw [z, upd_same] at hl; cases hl
        have nlt : l ≠ t := fun z => by rw [z, upd_ne ntr, upd_same] at hl; cases hl
        have b5 := ((But.upd (p := r) (H := H') (o := .ins a.cRoom dx (putF "records" (.ref E') (roomF pr pl dd)))).trans (same_new (o := .dT []) ht).but).trans ((But.upd (o := .ins a.cRoom dx (putF "told" (.ref t) (putF "records" (.ref E') (roomF pr pl dd))))).trans (same_new (o := .lst [.int n]) hl).but)
        have f5 := Frm.but (a := a) b5 (room_frm' (s1 _ _ hR))
        refine hk l _ ?_ ?_ ((Frm.same s1).trans f5) (notq hq (s1.but.trans (((But.upd (p := r) (H := H') (o := .ins a.cRoom dx (putF "records" (.ref E') (roomF pr pl dd)))).trans (same_new (o := .dT []) ht).but).trans (But.upd (o := .ins a.cRoom dx (putF "told" (.ref t) (putF "records" (.ref E') (roomF pr pl dd))))))) hl nlr)
        · rw [est]
          refine ⟨dx, pr, E', t, us, ?_, hu.frm D ((Frm.same s1).trans f5), fun z => hq E' z hE, f5 _ _ hE' trivial, hn, paired_imp hP fun p u z => (z.weak (fun x hx => Or.inl hx)).keep D f5 fun o eo => b5 _ _ eo (rec_ne_room D z (s1 _ _ hR)), [], ?_, rfl, fun x v => rfl⟩
          · rw [upd_ne (Ne.symm nlr), upd_same]
            rfl
          · rw [upd_ne (Ne.symm nlt), upd_ne ntr, upd_same]
        · rw [est, upd_same]
          rfl

/-! ### outcome, dry -/
def decOutcome : Hp → List V → Vamrqj.Call → Prop := fun _ rest c => ∃ x v k : Int, rest = [.int x, .int v, .int k] ∧ c = .outcome x v k
theorem okRoom_outcome (F : MFun K a.cRoom "outcome" "Room.outcome" sRoom_outcome) (T : Txt K mg a) (D : Dif a) (Ma : MOk P w K mg base a.cRoom "are_test_and_revision" 2 ["self", "x", "v"] (spRoom_atr a))
    (Mo : MOk P w K mg base a.cRoom "outcomes_at" 1 ["self", "x", "v"] (spRoom_outcomes_at a)) (G : DOk P w K mg base "outcome_of_try" 1 ["bits", "k"] spoutcome_of_try) :
    MOk P w K mg base a.cRoom "outcome" 3 ["self", "x", "v", "k"] (spOf a decOutcome) := by
  refine F.ok scRoom_outcome bdRoom_outcome (fun vs H Q E h => ?_) (fun f cdv A outer s H vs Q E hr h => ?_)
  · obtain ⟨q, r, s, c, rest, rfl, ⟨x, v, k, rfl, rfl⟩, _⟩ := h
    rfl
  · obtain ⟨q, r, s, c, rest, rfl, ⟨x, v, k, rfl, rfl⟩, hq, hR0, hw, hk⟩ := h
    have hR1 := hR0
    obtain ⟨dx, pr, pl, dd, ps, hR, hu, h3, h4, h5, h6, hT⟩ := hR0
    refine ⟨_, pss_cons (ps_if (PW.pt (pw_or (pt_not (pt_val (pm T.clRoom Ma hr (pv 0) (pa_cons (pv 1) (pa_cons (pv 2) pa_nil))))) (pw_or1 (pt_not (pt_chain op_le op_le pe_int (pv 3) (pk T.kLAST_TRY))))))
        (pss_one (ps_ret (pe_lst (pa_cons (pk T.kOUT_OF_RANGE) pa_nil)))) pss_nil)
      (pss_one (ps_ret (pe_lst (pa_cons (pd G hr (pa_cons (pm T.clRoom Mo hr (pv 0) (pa_cons (pv 1) (pa_cons (pv 2) pa_nil))) (pa_cons (pv 3) pa_nil))) pa_nil)))), ?_⟩
    refine ⟨_, rfl, r, dx, _, rfl, hR, rfl, _, rfl, _, rfl, q, r, s, x, v, rfl, hR1, _, rfl, ?_⟩
    refine ite2 (fun e => ?_) fun e => ?_
    · refine iteT ⟨(by show 1 ≤ sizeLine; decide), fun p hp => ?_⟩
      exact hk.same D hq hR1 (Same.refl H) hp (ans := .refused (-1)) ((step_outcome _ _ _ _).trans (asked_no (by simpa using e))) rfl
    · have e : inRange s x v = true := by simpa using e
      obtain ⟨x, v, rfl, rfl, hx, hv, ea⟩ := asked_yes e
      refine rd_le2 (i := 0) (j := k) (k := 999) Rds.c (Rds.v rfl) Rds.c ?_
      refine ite2 (fun e => ?_) fun e => ?_
      · refine ⟨(by show 1 ≤ sizeLine; decide), fun p hp => ?_⟩
        refine hk.same D hq hR1 (Same.refl H) hp (ans := .refused (-1)) ?_ rfl
        rw [step_outcome]
        rw [ea, if_pos]
        simp at e
        omega
      · have e : 0 ≤ k ∧ k ≤ 999 := by simpa using e
        obtain ⟨k, rfl⟩ : ∃ j : Nat, k = (j : Int) := ⟨k.toNat, by omega⟩
        refine ⟨_, rfl, r, dx, _, rfl, hR, rfl, _, rfl, _, rfl, q, r, s, x, v, rfl, hq, hR1, fun p H1 s1 hb => ?_⟩
        refine ⟨_, rfl, p, toldBits s.oracle x v, k, rfl, hb.2, (toldBits_pos hw.ora x v).1, (by show 1 ≤ sizeLine; decide), fun l hl => ?_⟩
        refine hk.same D hq hR1 s1 hl (ans := .told [Vamrqj.bit (Vamrqj.outcome s.oracle x v k)]) ?_ ?_
        · rw [step_outcome]
          rw [ea, if_neg (by omega), Int.toNat_natCast]
        · rw [← outcome_eq]
          rfl
/-! ### a run of a test at a revision -/
/-- nothing is taken away -/
def Grw (H H' : Hp) : Prop := ∀ x, H x ≠ none → H' x ≠ none
theorem Grw.trans {H H1 H2 : Hp} (a : Grw H H1) (b : Grw H1 H2) : Grw H H2 := fun x h => b x (a x h)
theorem Grw.same {H H' : Hp} (s : Same H H') : Grw H H' := fun x h e => by
  cases z : H x with
  | none => exact h z
  | some o =>
    rw [s x o z] at e
    cases e
theorem Grw.but {H H' : Hp} {p : Addr} {o : HO} (b : But p H H') (hp : H' p = some o) : Grw H H' := fun x h e => by
  by_cases z : x = p
  · rw [z, hp] at e
    cases e
  · cases y : H x with
    | none => exact h y
    | some o =>
      rw [b x o y z] at e
      cases e
theorem Grw.q {q : Addr → Prop} {H H' : Hp} (g : Grw H H') (hq : ∀ x, q x → H x ≠ none) : ∀ x, q x → H' x ≠ none := fun x hx => g x (hq x hx)
def spRoom_run_at (a : Cs) : Sp := fun vs H Q _ => ∃ (q : Addr → Prop) (r : Addr) (s : Vamrqj.State) (x v : Nat), vs = [.ref r, .int (x : Int), .int (v : Int)] ∧ (∀ x, q x → H x ≠ none) ∧ RoomAt a q H r s ∧ Wf s ∧
  ∀ (p : Addr) (H' : Hp), Same H H' → RunAt a H' p ⟨v, Vamrqj.runOf s.policy s.oracle x v⟩ → Q (.ref p) H'
theorem okRoom_run_at (F : MFun K a.cRoom "run_at" "Room.run_at" sRoom_run_at) (T : Txt K mg a) (D : Dif a)
    (Mo : MOk P w K mg base a.cRoom "outcomes_at" 1 ["self", "x", "v"] (spRoom_outcomes_at a)) (G : DOk P w K mg base "make_run" 3 ["revision", "bits", "rules"] (spmake_run a)) :
    MOk P w K mg base a.cRoom "run_at" 4 ["self", "x", "v"] (spRoom_run_at a) := by
  refine F.ok scRoom_run_at bdRoom_run_at (fun vs H Q E h => ?_) (fun f cdv A outer s H vs Q E hr h => ?_)
  · obtain ⟨q, r, s, x, v, rfl, _⟩ := h
    rfl
  · obtain ⟨q, r, s, x, v, rfl, hq, hR0, hw, hk⟩ := h
    have hR1 := hR0
    obtain ⟨dx, pr, pl, dd, ps, hR, hu, h3, h4, h5, h6, hT⟩ := hR0
    refine ⟨_, pss_one (ps_ret (pd G hr (pa_cons (pv 2) (pa_cons (pm T.clRoom Mo hr (pv 0) (pa_cons (pv 1) (pa_cons (pv 2) pa_nil))) (pa_cons (pe_fld (pv 0) rfl) pa_nil))))), ?_⟩
    dsimp only [cxOf, Cx.nox]
    refine ⟨_, rfl, _, rfl, r, dx, _, rfl, hR, rfl, _, rfl, _, rfl, q, r, s, x, v, rfl, hq, hR1, fun p H1 s1 hb => ?_⟩
    refine ⟨_, rfl, r, a.cRoom, dx, _, _, rfl, s1 _ _ hR, T.clRoom, T.nRoom_rules, rfl, ?_⟩
    refine ⟨p, pr, x, v, s.oracle, s.policy, rfl, hb.2, hw.ora, hu.frm D (Frm.same s1), hw.pol, fun p2 H2 s2 hrun => ?_⟩
    exact hk p2 H2 (s1.trans s2) hrun
def decDry : Hp → List V → Vamrqj.Call → Prop := fun _ rest c => ∃ x v : Int, rest = [.int x, .int v] ∧ c = .dry x v
theorem okRoom_dry (F : MFun K a.cRoom "dry" "Room.dry" sRoom_dry) (T : Txt K mg a) (D : Dif a) (Ma : MOk P w K mg base a.cRoom "are_test_and_revision" 2 ["self", "x", "v"] (spRoom_atr a))
    (Mr : MOk P w K mg base a.cRoom "run_at" 4 ["self", "x", "v"] (spRoom_run_at a)) (Mn : MOk P w K mg base a.cRun "as_numbers" 2 ["self"] (spRun_as_numbers a)) :
    MOk P w K mg base a.cRoom "dry" 5 ["self", "x", "v"] (spOf a decDry) := by
  refine F.ok scRoom_dry bdRoom_dry (fun vs H Q E h => ?_) (fun f cdv A outer s H vs Q E hr h => ?_)
  · obtain ⟨q, r, s, c, rest, rfl, ⟨x, v, rfl, rfl⟩, _⟩ := h
    rfl
  · obtain ⟨q, r, s, c, rest, rfl, ⟨x, v, rfl, rfl⟩, hq, hR0, hw, hk⟩ := h
    have hR1 := hR0
    obtain ⟨dx, pr, pl, dd, ps, hR, hu, h3, h4, h5, h6, hT⟩ := hR0
    refine ⟨_, pss_cons (ps_if (pt_not (pt_val (pm T.clRoom Ma hr (pv 0) (pa_cons (pv 1) (pa_cons (pv 2) pa_nil))))) (pss_one (ps_ret (pe_lst (pa_cons (pk T.kOUT_OF_RANGE) pa_nil)))) pss_nil)
      (pss_one (ps_ret (pm0 T.clRun Mn hr (pm T.clRoom Mr hr (pv 0) (pa_cons (pv 1) (pa_cons (pv 2) pa_nil)))))), ?_⟩
    refine ⟨_, rfl, r, dx, _, rfl, hR, rfl, _, rfl, _, rfl, q, r, s, x, v, rfl, hR1, _, rfl, ?_⟩
    refine ite2 (fun e => ?_) fun e => ?_
    · refine ⟨(by show 1 ≤ sizeLine; decide), fun p hp => ?_⟩
      exact hk.same D hq hR1 (Same.refl H) hp (ans := .refused (-1)) ((step_dry _ _ _).trans (asked_no (by simpa using e))) rfl
    · have e : inRange s x v = true := by simpa using e
      obtain ⟨x, v, rfl, rfl, hx, hv, ea⟩ := asked_yes e
      refine ⟨_, rfl, r, dx, _, rfl, hR, rfl, _, rfl, _, rfl, q, r, s, x, v, rfl, hq, hR1, hw, fun p2 H2 s2 hrun => ?_⟩
      obtain ⟨d2, h2⟩ := hrun
      refine ⟨p2, d2, _, rfl, h2, rfl, p2, _, rfl, ⟨d2, h2⟩, fun l hl => ?_⟩
      refine hk.same D hq hR1 s2 hl (ans := .told (Vamrqj.runTold (Vamrqj.runOf s.policy s.oracle x v))) ?_ rfl
      rw [step_dry]
      rw [ea]

/-! ### run -/
def decRun : Hp → List V → Vamrqj.Call → Prop := fun _ rest c => ∃ x v : Int, rest = [.int x, .int v] ∧ c = .run x v
theorem test_get {s : Vamrqj.State} {x : Nat} (h : x < s.tests.length) : s.tests[x]? = some (s.test x) := by
  unfold Vamrqj.State.test
  rw [List.getD_eq_getElem?_getD, List.getElem?_eq_getElem h]
  rfl
/-- one record of the room has changed -/
theorem RoomAt.record {q : Addr → Prop} {H H' : Hp} {r p dx pr pl dd : Addr} {ps : List Addr} {s : Vamrqj.State} {x : Nat} {t' : Vamrqj.Test} (D : Dif a) (hR : H r = some (.ins a.cRoom dx (roomF pr pl dd))) (hu : RulAt a H pr s.policy) (h3 : ¬ q pl) (h4 : H pl = some (.lst (ps.map V.ref)))
    (h5 : ps.Nodup) (h6 : Paired (RecAt a q H) ps s.tests) (hT : ToldAt q H dd s.oracle) (hp : ps[x]? = some p) (hrec : RecAt a q H' p t') (b : But p H H') (hx : x < s.tests.length) : RoomAt a q H' r ⟨s.policy, s.oracle, s.tests.set x t'⟩ := by
  obtain ⟨t, ht, hpt⟩ := paired_get' h6 hp
  have f := Frm.but (a := a) b hpt.frm'
  have npr := rec_ne_room D hpt hR
  refine ⟨dx, pr, pl, dd, ps, b _ _ hR (Ne.symm npr), hu.frm D f, h3, f _ _ h4 trivial, h5, paired_set h6 h5 hp (fun u t n z => z.keep D f fun o eo => b _ _ eo n) hrec, hT.keeps f fun kvs ek => b _ _ ek ?_⟩
  obtain ⟨d', l', e', _⟩ := hpt
  exact ne_of ek e' (by intro z; cases z)
/-- the record of a test -/
theorem RoomAt.rec {q : Addr → Prop} {H : Hp} {r : Addr} {s : Vamrqj.State} {x : Nat} (h : RoomAt a q H r s) (hx : x < s.tests.length) : ∃ dx pr pl pd, ∃ ps : List Addr, ∃ pc, H r = some (.ins a.cRoom dx (roomF pr pl pd)) ∧ RulAt a H pr s.policy ∧
    H pl = some (.lst (ps.map V.ref)) ∧ (ps.map V.ref)[x]? = some (V.ref pc) ∧ RecAt a q H pc (s.test x) := by
  obtain ⟨dx, pr, pl, dd, ps, hR, hu, h3, h4, h5, h6, hT⟩ := h
  obtain ⟨pc, hpc, hrc⟩ := paired_get h6 (test_get hx)
  exact ⟨dx, pr, pl, dd, ps, pc, hR, hu, h4, by rw [List.getElem?_map, hpc]; rfl, hrc⟩
def spRoom_kept_run_at (a : Cs) : Sp := fun vs H Q _ => ∃ (q : Addr → Prop) (r : Addr) (s : Vamrqj.State) (x v : Nat), vs = [.ref r, .int (x : Int), .int (v : Int)] ∧ (∀ x, q x → H x ≠ none) ∧ RoomAt a q H r s ∧ Wf s ∧ x < s.tests.length ∧
  ∀ (p : Addr) (H' : Hp), Frm a H H' → Grw H H' → RoomAt a q H' r (s.ran x v) → RunAt a H' p ⟨v, Vamrqj.runOf s.policy s.oracle x v⟩ → Q (.ref p) H'
theorem okRoom_kept_run_at (F : MFun K a.cRoom "kept_run_at" "Room.kept_run_at" sRoom_kept_run_at) (T : Txt K mg a) (D : Dif a)
    (Mr : MOk P w K mg base a.cRoom "run_at" 4 ["self", "x", "v"] (spRoom_run_at a)) (Mk : MOk P w K mg base a.cRecord "keep" 3 ["self", "run", "rules"] (spRecord_keep a)) :
    MOk P w K mg base a.cRoom "kept_run_at" 5 ["self", "x", "v"] (spRoom_kept_run_at a) := by
  refine F.ok scRoom_kept_run_at bdRoom_kept_run_at (fun vs H Q E h => ?_) (fun f cdv A outer s H vs Q E hr h => ?_)
  · obtain ⟨q, r, s, x, v, rfl, _⟩ := h
    rfl
  · obtain ⟨q, r, s, x, v, rfl, hq, hR0, hw, hx, hk⟩ := h
    have hR1 := hR0
    obtain ⟨dx, pr, pl, dd, ps, hR, hu, h3, h4, h5, h6, hT⟩ := hR0
    refine ⟨_, pss_cons (ps_set (i := 3) scRoom_kept_run_at.nd rfl (Or.inl rfl) (pm T.clRoom Mr hr (pv 0) (pa_cons (pv 1) (pa_cons (pv 2) pa_nil))))
      (pss_cons (ps_expr (pm T.clRecord Mk hr (pe_ix ix_list (pe_fld (pv 0) rfl) (pv 1) (fun _ _ => rfl)) (pa_cons (pv 3) (pa_cons (pe_fld (pv 0) rfl) pa_nil))))
      (pss_one (ps_ret (pv 3)))), ?_⟩
    dsimp only [cxOf, Cx.nox]
    refine ⟨_, rfl, r, dx, _, rfl, hR, rfl, _, rfl, _, rfl, q, r, s, x, v, rfl, hq, hR1, hw, fun p2 H2 s12 hrun => ?_⟩
    obtain ⟨pc, hpc, hrc⟩ := paired_get h6 (test_get hx)
    have hrc2 := hrc.same D s12
    obtain ⟨dc, lc, ec, rc⟩ := id hrc2
    refine ⟨_, rfl, r, a.cRoom, dx, _, _, rfl, s12 _ _ hR, T.clRoom, T.nRoom_records, rfl, _, rfl, pl, _, _, _, rfl, rfl, SqL.of (s12 _ _ h4), at_of (j := x) (v := V.ref pc) rfl (by rw [List.getElem?_map, hpc]; rfl), ?_⟩
    refine ⟨pc, dc, _, rfl, ec, rfl, _, rfl, _, rfl, r, a.cRoom, dx, _, _, rfl, s12 _ _ hR, T.clRoom, T.nRoom_rules, rfl, ?_⟩
    refine ⟨q, pc, p2, pr, s.test x, ⟨v, Vamrqj.runOf s.policy s.oracle x v⟩, s.policy, rfl, still hq s12, hrc2, hrun, hu.frm D (Frm.same s12), fun H3 hrec b3 => ?_⟩
    have f3 := Frm.but (a := a) b3 hrc2.frm'
    have hroom : RoomAt a q H3 r (s.ran x v) := RoomAt.record D (s12 _ _ hR) (hu.frm D (Frm.same s12)) h3 (s12 _ _ h4) h5 (paired_imp h6 fun _ _ z => z.same D s12) (hT.keeps (a := a) (Frm.same s12) fun kvs ek => s12 _ _ ek) hpc hrec b3 hx
    obtain ⟨d3, l3, e3, _⟩ := id hrec
    exact ⟨_, rfl, hk p2 H3 ((Frm.same s12).trans f3) ((Grw.same s12).trans (Grw.but b3 e3)) hroom (hrun.frm D f3)⟩
theorem okRoom_run (F : MFun K a.cRoom "run" "Room.run" sRoom_run) (T : Txt K mg a) (D : Dif a) (Ma : MOk P w K mg base a.cRoom "are_test_and_revision" 2 ["self", "x", "v"] (spRoom_atr a))
    (Mk : MOk P w K mg base a.cRoom "kept_run_at" 5 ["self", "x", "v"] (spRoom_kept_run_at a)) (Mn : MOk P w K mg base a.cRun "as_numbers" 2 ["self"] (spRun_as_numbers a)) :
    MOk P w K mg base a.cRoom "run" 6 ["self", "x", "v"] (spOf a decRun) := by
  refine F.ok scRoom_run bdRoom_run (fun vs H Q E h => ?_) (fun f cdv A outer s H vs Q E hr h => ?_)
  · obtain ⟨q, r, s, c, rest, rfl, ⟨x, v, rfl, rfl⟩, _⟩ := h
    rfl
  · obtain ⟨q, r, s, c, rest, rfl, ⟨x, v, rfl, rfl⟩, hq, hR0, hw, hk⟩ := h
    have hR1 := hR0
    obtain ⟨dx, pr, pl, dd, ps, hR, hu, h3, h4, h5, h6, hT⟩ := hR0
    refine ⟨_, pss_cons (ps_if (pt_not (pt_val (pm T.clRoom Ma hr (pv 0) (pa_cons (pv 1) (pa_cons (pv 2) pa_nil))))) (pss_one (ps_ret (pe_lst (pa_cons (pk T.kOUT_OF_RANGE) pa_nil)))) pss_nil)
      (pss_cons (ps_set (i := 3) scRoom_run.nd rfl (Or.inl rfl) (pm T.clRoom Mk hr (pv 0) (pa_cons (pv 1) (pa_cons (pv 2) pa_nil))))
      (pss_one (ps_ret (pe_op op_cat (pm0 T.clRun Mn hr (pv 3)) (pe_lst (pa_cons (pe_ifExp (pt_val (pe_fld (pe_ix ix_list (pe_fld (pv 0) rfl) (pv 1) (fun _ _ => rfl)) rfl)) pe_int pe_int) pa_nil)))))), ?_⟩
    dsimp only [cxOf, Cx.nox]
    refine ⟨_, rfl, r, dx, _, rfl, hR, rfl, _, rfl, _, rfl, q, r, s, x, v, rfl, hR1, _, rfl, ?_⟩
    refine ite2 (fun e => ?_) fun e => ?_
    · refine ⟨(by show 1 ≤ sizeLine; decide), fun p hp => ?_⟩
      exact hk.same D hq hR1 (Same.refl H) hp (ans := .refused (-1)) ((step_run _ _ _).trans (asked_no (by simpa using e))) rfl
    · have e : inRange s x v = true := by simpa using e
      obtain ⟨x, v, rfl, rfl, hx, hv, ea⟩ := asked_yes e
      refine ⟨_, rfl, r, dx, _, rfl, hR, rfl, _, rfl, _, rfl, q, r, s, x, v, rfl, hq, hR1, hw, hx, fun p2 H3 f3 g3 hroom hrun => ?_⟩
      -- the answer
      obtain ⟨d4, h4'⟩ := id hrun
      refine ⟨_, rfl, p2, d4, _, rfl, h4', rfl, p2, _, rfl, hrun, fun l1 hl1 => ?_⟩
      have s4 : Same H3 _ := same_new (o := .lst ((Vamrqj.runTold (Vamrqj.runOf s.policy s.oracle x v)).map V.int)) hl1
      have et : (s.ran x v).test x = (s.test x).after s.policy ⟨v, Vamrqj.runOf s.policy s.oracle x v⟩ := getD_set_self hx
      obtain ⟨dy, py, ly, ty, us, pc, hy, _, hl, hpc, d3, l3, e3, _⟩ := RoomAt.rec hroom (x := x) (by rw [len_ran]; exact hx)
      refine ⟨_, rfl, r, a.cRoom, dy, _, _, rfl, s4 _ _ hy, T.clRoom, T.nRoom_records, rfl, _, rfl, ly, _, _, _, rfl, rfl, SqL.of (s4 _ _ hl), at_of (j := x) (v := V.ref pc) rfl hpc, ?_⟩
      refine ⟨pc, a.cRecord, d3, _, _, rfl, s4 _ _ e3, T.clRecord, T.nRecord_quarantined, rfl, _, rfl, ite_bit ?_⟩
      refine ⟨(by show 1 ≤ sizeLine; decide), fun l2 hl2 => ?_⟩
      have s5 := s4.trans (same_new (o := .lst [bitV ((s.ran x v).test x).held]) hl2)
      refine ⟨l1, l2, _, _, rfl, rfl, same_new hl2 _ _ upd_same, upd_same, (by show 5 ≤ sizeLine; decide), fun l hl => ?_⟩
      have s6 := s5.trans (same_new (o := .lst ((Vamrqj.runTold (Vamrqj.runOf s.policy s.oracle x v)).map V.int ++ [bitV ((s.ran x v).test x).held])) hl)
      have est : Vamrqj.step s (.run x v) = (s.ran x v, .told (Vamrqj.runTold (Vamrqj.runOf s.policy s.oracle x v) ++ [Vamrqj.bit ((s.ran x v).test x).held])) := by
        rw [step_run]
        rw [ea]
      refine hk l _ ?_ ?_ (f3.trans (Frm.same s6)) (fun z => (g3.trans (Grw.same s5)).q hq l z hl)
      · rw [est]
        exact hroom.same D s6
      · rw [est, upd_same]
        show some (HO.lst _) = some (HO.lst (List.map V.int (_ ++ _)))
        rw [List.map_append]
        rfl
end TR
end
-- TRRoom4
section
set_option Elab.async false
set_option linter.all false
set_option maxRecDepth 100000
set_option maxHeartbeats 2000000
namespace TR
open PySem PySem.Spec PyProof.Rows L2
variable {P : Program} {w : World} {K : PySem.W.Frag} {mg : Str → Option Value} {base : Heap} {a : Cs}

/-! ### tell -/
theorem refuse2 (ns : List Int) : (ns.isEmpty || (decide (Vamrqj.BITS < ns.length) || ns.any fun b => !(decide (b = 0) || decide (b = 1)))) = !okBits ns := by
  have e1 : ns.isEmpty = !decide (1 ≤ ns.length) := by cases ns <;> simp
  have e2 : decide (Vamrqj.BITS < ns.length) = !decide (ns.length ≤ 12) := by
    show decide (12 < ns.length) = !decide (ns.length ≤ 12)
    rw [← decide_not]
    exact decide_eq_decide.mpr (by omega)
  have e3 : (ns.any fun b => !(decide (b = 0) || decide (b = 1))) = !(ns.all fun b => decide (b = 0) || decide (b = 1)) := by
    rw [List.not_all_eq_any_not]
  unfold okBits
  rw [e1, e2, e3]
  cases decide (1 ≤ ns.length) <;> cases decide (ns.length ≤ 12) <;> cases (ns.all fun b => decide (b = 0) || decide (b = 1)) <;> rfl
theorem bits_are {ns : List Int} (h : ∀ b ∈ ns, b = 0 ∨ b = 1) : ns.map V.int = (ns.map fun b => decide (b = 1)).map bitV := by
  rw [List.map_map]
  refine List.map_congr_left fun b hb => ?_
  rcases h b hb with rfl | rfl <;> rfl
theorem key_eq {x v x' v' : Nat} : (([Sum.inl (x' : Int), Sum.inl (v' : Int)] : List Key) = [Sum.inl (x : Int), Sum.inl (v : Int)]) ↔ (x' = x ∧ v' = v) := by
  constructor
  · intro h
    injection h with h1 h2
    injection h2 with h2 _
    injection h1 with h1
    injection h2 with h2
    omega
  · rintro ⟨rfl, rfl⟩
    rfl
theorem Said.put {q : Addr → Prop} {H H' : Hp} {kvs : List (List Key × V)} {o : Vamrqj.Oracle} {x v : Nat} {p : Addr} {bs : List Bool} (h : Said q H kvs o) (f : Frm a H H') (hb : BitsAt q H' p bs) :
    Said q H' (putK kvs [.inl (x : Int), .inl (v : Int)] (.ref p)) (others o x v ++ [⟨x, v, bs⟩]) := fun x' v' => by
  rw [find_told, valV_put]
  by_cases z : x' = x ∧ v' = v
  · rw [if_pos z, if_pos (key_eq.mpr z)]
    exact ⟨p, rfl, hb⟩
  · rw [if_neg z, if_neg (fun e => z (key_eq.mp e))]
    exact h.frm f x' v'
theorem said_some {q : Addr → Prop} {H : Hp} {kvs : List (List Key × V)} {o : Vamrqj.Oracle} (h : Said q H kvs o) (x v : Nat) : (valV kvs [.inl (x : Int), .inl (v : Int)]).isSome = (o.find? (isKey x v)).isSome := by
  have := h x v
  cases e : o.find? (isKey x v) with
  | none =>
    rw [e] at this
    rw [this]
    rfl
  | some t =>
    rw [e] at this
    obtain ⟨p, h1, _⟩ := this
    rw [h1]
    rfl
theorem put_len {q : Addr → Prop} {H : Hp} {kvs : List (List Key × V)} {o : Vamrqj.Oracle} (h : Said q H kvs o) (ho : OraOk o) (hl : kvs.length = o.length) (x v : Nat) (y : V) : (putK kvs [.inl (x : Int), .inl (v : Int)] y).length = (others o x v).length + 1 := by
  have e := said_some h x v
  unfold putK
  rw [valV_any]
  cases z : o.find? (isKey x v) with
  | none =>
    rw [z] at e
    rw [e, others_none z, ← hl]
    simp
  | some t =>
    rw [z] at e
    have := others_len ho.nd z
    rw [e]
    simp
    omega
def decTell : Hp → List V → Vamrqj.Call → Prop := fun H rest c => ∃ (x v : Int) (p : Addr) (ns : List Int), rest = [.int x, .int v, .ref p] ∧ H p = some (.lst (ns.map V.int)) ∧ c = .tell x v ns
theorem okRoom_tell (F : MFun K a.cRoom "tell" "Room.tell" sRoom_tell) (T : Txt K mg a) (D : Dif a) (Ma : MOk P w K mg base a.cRoom "are_test_and_revision" 2 ["self", "x", "v"] (spRoom_atr a))
    (G : DOk P w K mg base "are_outcomes" 1 ["bits"] spare_outcomes) : MOk P w K mg base a.cRoom "tell" 3 ["self", "x", "v", "bits"] (spOf a decTell) := by
  refine F.ok scRoom_tell bdRoom_tell (fun vs H Q E h => ?_) (fun f cdv A outer s H vs Q E hr h => ?_)
  · obtain ⟨q, r, s, c, rest, rfl, ⟨x, v, p, ns, rfl, _, rfl⟩, _⟩ := h
    rfl
  · obtain ⟨q, r, s, c, rest, rfl, ⟨x, v, p, ns, rfl, hp, rfl⟩, hq, hR0, hw, hk⟩ := h
    have hR1 := hR0
    have hu := hu_of hr
    obtain ⟨dx, pr, pl, dd, ps, hR, hru, h3, h4, h5, h6, hT⟩ := hR0
    obtain ⟨kvs, hd, hkl, hS⟩ := id hT
    refine ⟨_, pss_cons (ps_if (pt_not (pt_val (pm T.clRoom Ma hr (pv 0) (pa_cons (pv 1) (pa_cons (pv 2) pa_nil))))) (pss_one (ps_ret (pe_lst (pa_cons (pk T.kOUT_OF_RANGE) pa_nil)))) pss_nil)
      (pss_cons (ps_if (pt_not (pt_val (pd G hr (pa_cons (pv 3) pa_nil)))) (pss_one (ps_ret (pe_lst (pa_cons (pk T.kNOT_OUTCOMES) pa_nil)))) pss_nil)
      (pss_cons (ps_if (PW.pt (pw_and (pt_cmp (pc_dnotin hu (pe_tup (pa_cons (pv 1) (pa_cons (pv 2) pa_nil))) (pe_fld (pv 0) rfl))) (pw_and1 (pt_cmp (pc_ge (pe_callB call_lenT (by rfl) T.blen PySem.boot_len (pa_cons (pe_fld (pv 0) rfl) pa_nil)) (pk T.kMOST_TOLD))))))
        (pss_one (ps_ret (pe_lst (pa_cons (pk T.kTOO_MUCH_TOLD) pa_nil)))) pss_nil)
      (pss_cons (ps_dput hu (pe_fld (pv 0) rfl) (pe_tup (pa_cons (pv 1) (pa_cons (pv 2) pa_nil))) (pe_callTy call_list_of (by rfl) T.blist boot_list (pa_cons (pv 3) pa_nil)) rfl)
      (pss_one (ps_ret (pe_lst (pa_cons (pe_callB call_lenT (by rfl) T.blen PySem.boot_len (pa_cons (pe_fld (pv 0) rfl) pa_nil)) pa_nil))))))), ?_⟩
    dsimp only [cxOf, Cx.nox]
    refine ⟨_, rfl, r, dx, _, rfl, hR, rfl, _, rfl, _, rfl, q, r, s, x, v, rfl, hR1, _, rfl, ?_⟩
    refine ite2 (fun e => ?_) fun e => ?_
    · refine ⟨(by show 1 ≤ sizeLine; decide), fun l hl => ?_⟩
      exact hk.same D hq hR1 (Same.refl H) hl (ans := .refused (-1)) ((step_tell _ _ _ _).trans (asked_no (by simpa using e))) rfl
    · have e : inRange s x v = true := by simpa using e
      obtain ⟨x, v, rfl, rfl, hx, hv, ea⟩ := asked_yes e
      have est : Vamrqj.step s (.tell x v ns) = Vamrqj.telling s x v ns := by
        rw [step_tell]
        rw [ea]
      have etl : Vamrqj.telling s x v ns = (if okBits ns = false then (s, .refused (-2)) else if 40 ≤ (others s.oracle x v).length then (s, .refused (-7)) else (⟨s.policy, others s.oracle x v ++ [⟨x, v, ns.map fun b => decide (b = 1)⟩], s.tests⟩, .told [(((others s.oracle x v).length + 1 : Nat) : Int)])) := by
        unfold Vamrqj.telling
        rw [refuse2]
        cases okBits ns <;> rfl
      refine ⟨_, rfl, p, ns, rfl, hp, fun H1 s1 => ⟨_, rfl, ?_⟩⟩
      have hR2 := hR1.same D s1
      refine ite2 (fun e => ?_) fun e => ?_
      · refine ⟨(by show 1 ≤ sizeLine; decide), fun l hl => ?_⟩
        refine hk.same D hq hR1 s1 hl (ans := .refused (-2)) ?_ rfl
        rw [est, etl, if_pos (by simpa using e)]
      · have e : okBits ns = true := by simpa using e
        have eb : (1 ≤ ns.length ∧ ns.length ≤ 12) ∧ ∀ b ∈ ns, b = 0 ∨ b = 1 := by
          unfold okBits at e
          simpa using e
        refine ⟨_, rfl, _, rfl, (by show 2 ≤ sizeLine; decide), fun t ht => ?_⟩
        have s2 := s1.trans (same_new (o := .tup [.int (x : Int), .int (v : Int)]) ht)
        refine ⟨_, rfl, r, a.cRoom, dx, _, _, rfl, s2 _ _ hR, T.clRoom, T.nRoom_told, rfl, dd, _, rfl, DGet.t (k := [.inl (x : Int), .inl (v : Int)]) (s2 _ _ hd) upd_same, _, rfl, ?_⟩
        -- when it is told
        have fin : ∀ H2 : Hp, Same H H2 → (others s.oracle x v).length < 40 → tSeq (sDPut (tFld K (tVar 0) "told") (tTup (tCons (tVar 1) (tCons (tVar 2) tNil))) (tCB (fun xs H Q => ∃ p ys, xs = [V.ref p] ∧ (SqL K H p ys ∨ SqT K H p ys) ∧ ∀ l, H l = none → Q (.ref l) (upd H l (.lst ys))) (tCons (tVar 3) tNil)))
            (tRet (tLst (tCons (tCB (fun xs H Q => ∃ a kvs, xs = [V.ref a] ∧ H a = some (.dT kvs) ∧ Q (.int kvs.length) H) (tCons (tFld K (tVar 0) "told") tNil)) tNil)))
            { nx := fun _ H' => Q .non H', rt := Q } [some (.ref r), some (.int (x : Int)), some (.int (v : Int)), some (.ref p)] H2 := fun H2 s2 hlt => by
          refine ⟨_, rfl, p, _, rfl, .inl (SqL.of (s2 _ _ hp)), fun b hb => ?_⟩
          have s3 := s2.trans (same_new (o := .lst (ns.map V.int)) hb)
          refine ⟨_, rfl, r, a.cRoom, dx, _, _, rfl, s3 _ _ hR, T.clRoom, T.nRoom_told, rfl, _, rfl, _, rfl, (by show 2 ≤ sizeLine; decide), fun t ht => ?_⟩
          have s4 := s3.trans (same_new (o := .tup [.int (x : Int), .int (v : Int)]) ht)
          have hz : kvs.length < sizeLine := by
            rw [hkl]
            exact Nat.lt_of_le_of_lt hw.ora.len (by decide)
          refine ⟨dd, _, rfl, DPut.t (k := [.inl (x : Int), .inl (v : Int)]) (s4 _ _ hd) upd_same hz, ?_⟩
          have ndr : dd ≠ r := ne_of hd hR (by intro z; cases z)
          refine ⟨_, rfl, r, a.cRoom, dx, _, _, rfl, (by rw [upd_ne (Ne.symm ndr)]; exact s4 _ _ hR), T.clRoom, T.nRoom_told, rfl, dd, _, rfl, upd_same, (by show 1 ≤ sizeLine; decide), fun l hl => ?_⟩
          have hlen := put_len hS hw.ora hkl x v (V.ref b)
          have b5 : But dd H (upd (upd (upd (upd H2 b (.lst (ns.map V.int))) t (.tup [.int (x : Int), .int (v : Int)])) dd (.dT (putK kvs [.inl (x : Int), .inl (v : Int)] (.ref b)))) l (.lst [.int (((putK kvs [.inl (x : Int), .inl (v : Int)] (.ref b)).length : Nat) : Int)])) :=
            (s4.but.trans But.upd).trans (same_new hl).but
          have f5 := Frm.but (a := a) b5 hT.frm'
          have nld : l ≠ dd := fun z => by rw [z, upd_same] at hl; cases hl
          have nlb : l ≠ b := fun z => by
            rw [z, upd_ne, upd_ne, upd_same] at hl
            · cases hl
            · exact fun y => by rw [← y, upd_same] at ht; cases ht
            · exact fun y => by
                have := s2 _ _ hd
                rw [← y, hb] at this
                cases this
          have ntb : t ≠ b := fun y => by rw [y, upd_same] at ht; cases ht
          have nbd : b ≠ dd := fun y => by
            have := s2 _ _ hd
            rw [← y, hb] at this
            cases this
          refine hk l _ ?_ ?_ f5 (notq hq (s4.but.trans But.upd) hl nld)
          · rw [est, etl, if_neg (by rw [e]; decide), if_neg (by omega)]
            refine ⟨dx, pr, pl, dd, ps, b5 _ _ hR (Ne.symm ndr), hru.frm D f5, h3, f5 _ _ h4 trivial, h5, paired_imp h6 fun u t z => z.keep D f5 fun o eo => b5 _ _ eo ?_, _, ?_, ?_, hS.put f5 ⟨fun z => hq b z (s2.free hb), ?_⟩⟩
            · obtain ⟨d', l', e', _⟩ := id z
              exact fun y => by rw [y, hd] at e'; cases e'
            · rw [upd_ne (Ne.symm nld), upd_same]
            · rw [hlen, List.length_append]
              rfl
            · rw [upd_ne (Ne.symm nlb), upd_ne nbd, upd_ne (Ne.symm ntb), upd_same, bits_are eb.2]
          · rw [est, etl, if_neg (by rw [e]; decide), if_neg (by omega), upd_same, hlen]
            rfl
        have esm := said_some hS x v
        refine ite2 (fun h => ?_) fun h => ?_
        · have hno : s.oracle.find? (isKey x v) = none := by
            rw [esm] at h
            cases z : s.oracle.find? (isKey x v) with
            | none => rfl
            | some t =>
              rw [z] at h
              simp at h
          have eo := others_none hno
          refine ⟨_, rfl, r, a.cRoom, dx, _, _, rfl, s2 _ _ hR, T.clRoom, T.nRoom_told, rfl, dd, _, rfl, s2 _ _ hd, _, _, rfl, rfl, _, rfl, ?_⟩
          refine ite2 (fun h => ?_) fun h => ?_
          · have h := of_decide_eq_true h
            refine ⟨(by show 1 ≤ sizeLine; decide), fun l hl => ?_⟩
            refine hk.same D hq hR1 s2 hl (ans := .refused (-7)) ?_ rfl
            rw [est, etl, if_neg (by rw [e]; decide), if_pos (by rw [eo]; omega)]
          · have h : ¬ _ := fun z => h (decide_eq_true z)
            exact fin _ s2 (by rw [eo]; omega)
        · have hyes : ∃ t, s.oracle.find? (isKey x v) = some t := by
            rw [esm] at h
            cases z : s.oracle.find? (isKey x v) with
            | none =>
              rw [z] at h
              simp at h
            | some t => exact ⟨t, rfl⟩
          obtain ⟨u, hu'⟩ := hyes
          have := others_len hw.ora.nd hu'
          have := hw.ora.len
          exact iteF (fin _ s2 (by omega))
end TR
end
-- TROdds
section
set_option Elab.async false
set_option linter.all false
set_option maxRecDepth 100000
set_option maxHeartbeats 2000000
namespace TR
open PySem PySem.Spec PyProof.Rows L2
variable {P : Program} {w : World} {K : PySem.W.Frag} {mg : Str → Option Value} {base : Heap} {a : Cs}

/-! ### // by a positive number that is not too long -/
theorem op_fdivL {X : Cx} : OpR X (binaryOp .FloorDiv) (rI (fun _ j => 0 < j ∧ j < 2 ^ 100) fun i j => .int (i / j)) := opI fun i j _ _ _ _ _ hc q => by
  have h1 : (0 : Int) < j := hc.1
  have h2 : j < 2 ^ 100 := hc.2
  refine floordiv_int (by omega) (by rw [Int.fdiv_eq_ediv_of_nonneg i (by omega)]; exact q) (.inl (PyProof.noPylong_of_log2 ?_))
  have h3 : j.natAbs.log2 < 100 := (Nat.log2_lt (by omega)).mpr (by omega)
  omega

/-! ### [.. for x, y in zip(a, b)], [.. for i, x in enumerate(a)] -/
theorem lc_zip {K : PySem.W.Frag} {a b : Addr} {xs ys : List V} {g : TG} {tt : TT} {te : TE} {vs : List Nat} {σ : L2.St} {H1 : Hp} {D : Addr} {Qd : Hp → Prop} (he : xs.length = ys.length) (Pv : Nat → Hp → Prop) (h0 : Pv 0 (upd H1 D (.lst [])))
    (hl : ∀ i H, i ≤ xs.length → Pv i H → SqL K H a xs ∧ SqL K H b ys)
    (hs : ∀ i x y T H, xs[i]? = some x → ys[i]? = some y → H T = none → Pv i H → g (.ref T) (wipe σ vs) (upd H T (.tup [x, y])) fun σ2 H2 => wipe σ2 vs = wipe σ vs ∧ tt σ2 H2 fun b H3 =>
      if b = true then te σ2 H3 fun y H4 => ∃ acc, H4 D = some (.lst acc) ∧ acc.length < sizeLine ∧ Pv (i + 1) (upd H4 D (.lst (acc ++ [y]))) else Pv (i + 1) H3) (hd : ∀ H, Pv xs.length H → Qd H) :
    ∃ W : Nat → Nat → Hp → Prop, (∃ m, W 0 m (upd H1 D (.lst []))) ∧ ∀ i m H, W i m H →
      ((Itz K a b).stop i H ∧ Qd H) ∨ ((Itz K a b).go i H ∧ ∃ Nx : Hp → Prop, (∀ H', Nx H' → ∃ m', m' < m ∧ W (i + 1) m' H') ∧ ∀ x H', (Itz K a b).yld i H x H' → g x (wipe σ vs) H' fun σ2 H2 => wipe σ2 vs = wipe σ vs ∧ tt σ2 H2 fun b H3 =>
        if b = true then te σ2 H3 fun y H4 => ∃ acc, H4 D = some (.lst acc) ∧ acc.length < sizeLine ∧ Nx (upd H4 D (.lst (acc ++ [y]))) else Nx H3) := by
  refine ⟨fun i m H => m = xs.length - i ∧ i ≤ xs.length ∧ Pv i H, ⟨xs.length, by simp, Nat.zero_le _, h0⟩, ?_⟩
  rintro i m H ⟨rfl, hi, p⟩
  obtain ⟨q1, q2⟩ := hl i H hi p
  by_cases hlt : i < xs.length
  · refine .inr ⟨⟨xs, ys, xs[i], ys[i]'(by omega), q1, q2, by simp [hlt], by simp [show i < ys.length by omega]⟩, Pv (i + 1), fun H' p' => ⟨xs.length - (i + 1), by omega, rfl, hlt, p'⟩, fun x H' y => ?_⟩
    obtain ⟨T, u, v, e1, e2, e3, e4, e5⟩ := y
    subst e1 e3
    exact hs i u v T _ (e4 xs q1) (e5 ys q2) e2 p
  · have e : i = xs.length := by omega
    subst e
    exact .inl ⟨⟨xs, ys, q1, q2, .inl (Nat.le_refl _)⟩, hd H p⟩
theorem lc_enum {K : PySem.W.Frag} {a : Addr} {xs : List V} {g : TG} {tt : TT} {te : TE} {vs : List Nat} {σ : L2.St} {H1 : Hp} {D : Addr} {Qd : Hp → Prop} (Pv : Nat → Hp → Prop) (h0 : Pv 0 (upd H1 D (.lst [])))
    (hl : ∀ i H, i ≤ xs.length → Pv i H → SqL K H a xs)
    (hs : ∀ i x T H, xs[i]? = some x → H T = none → Pv i H → g (.ref T) (wipe σ vs) (upd H T (.tup [.int (i : Nat), x])) fun σ2 H2 => wipe σ2 vs = wipe σ vs ∧ tt σ2 H2 fun b H3 =>
      if b = true then te σ2 H3 fun y H4 => ∃ acc, H4 D = some (.lst acc) ∧ acc.length < sizeLine ∧ Pv (i + 1) (upd H4 D (.lst (acc ++ [y]))) else Pv (i + 1) H3) (hd : ∀ H, Pv xs.length H → Qd H) :
    ∃ W : Nat → Nat → Hp → Prop, (∃ m, W 0 m (upd H1 D (.lst []))) ∧ ∀ i m H, W i m H →
      ((Ite K a).stop i H ∧ Qd H) ∨ ((Ite K a).go i H ∧ ∃ Nx : Hp → Prop, (∀ H', Nx H' → ∃ m', m' < m ∧ W (i + 1) m' H') ∧ ∀ x H', (Ite K a).yld i H x H' → g x (wipe σ vs) H' fun σ2 H2 => wipe σ2 vs = wipe σ vs ∧ tt σ2 H2 fun b H3 =>
        if b = true then te σ2 H3 fun y H4 => ∃ acc, H4 D = some (.lst acc) ∧ acc.length < sizeLine ∧ Nx (upd H4 D (.lst (acc ++ [y]))) else Nx H3) := by
  refine ⟨fun i m H => m = xs.length - i ∧ i ≤ xs.length ∧ Pv i H, ⟨xs.length, by simp, Nat.zero_le _, h0⟩, ?_⟩
  rintro i m H ⟨rfl, hi, p⟩
  have q1 := hl i H hi p
  by_cases hlt : i < xs.length
  · refine .inr ⟨⟨xs, xs[i], q1, by simp [hlt]⟩, Pv (i + 1), fun H' p' => ⟨xs.length - (i + 1), by omega, rfl, hlt, p'⟩, fun x H' y => ?_⟩
    obtain ⟨T, u, e1, e2, e3, e4⟩ := y
    subst e1 e3
    exact hs i u T _ (e4 xs q1) e2 p
  · have e : i = xs.length := by omega
    subst e
    exact .inl ⟨⟨xs, q1, Nat.le_refl _⟩, hd H p⟩

/-- two names for a pair -/
theorem pg_pair {X : Cx} (K : PySem.W.Frag) {i j : Nat} {x y : Str} {px py pos : Pos} {k : Nat} (hc : X.calm = true) (hN : X.N.Nodup) (hi : X.N[i]? = some x) (hj : X.N[j]? = some y) (hx : Loc X.env.scope x) (hy : Loc X.env.scope y) (hK : X.K = K := by rfl)
    (hf : X.fn x = true ∨ X.env.scope.names.lookup x = some .local := by first | exact .inl rfl | exact .inr rfl | assumption) (hf' : X.fn y = true ∨ X.env.scope.names.lookup y = some .local := by first | exact .inl rfl | exact .inr rfl | assumption) :
    PG X (.Tuple [.Name x px, .Name y py] k pos) (gTup K 2 (gCons (gName i) (gCons (gName j) gNil))) := by
  subst hK
  exact pg_tup hc (pgs_cons (pg_name hN hi hx hf) (pgs_cons (pg_name hN hj hy hf') pgs_nil))

/-! ### common_divisor -/
def spcommon_divisor : Sp := fun vs H Q _ => ∃ m n : Nat, vs = [.int (m : Int), .int (n : Int)] ∧ Q (.int (Nat.gcd m n : Int)) H
theorem okcommon_divisor (F : DFun K mg "common_divisor" scommon_divisor) : DOk P w K mg base "common_divisor" 1 ["first", "second"] spcommon_divisor := by
  refine F.ok sccommon_divisor bdcommon_divisor (fun vs H Q E h => ?_) (fun f cdv A outer s H vs Q E hr h => ?_)
  · obtain ⟨m, n, rfl, _⟩ := h
    rfl
  · obtain ⟨m, n, rfl, hk⟩ := h
    refine ⟨_, pss_cons (ps_while PassesOwn.never (pt_cmp (pc_gt (pv 1) pe_int))
      (pss_cons (ps_set (i := 2) sccommon_divisor.nd rfl (Or.inl rfl) (pe_op op_mod (pv 0) (pv 1)))
      (pss_cons (ps_set (i := 0) sccommon_divisor.nd rfl (Or.inl rfl) (pv 1))
      (pss_one (ps_set (i := 1) sccommon_divisor.nd rfl (Or.inl rfl) (pv 2))))))
      (pss_one (ps_ret (pv 0))), ?_⟩
    refine ⟨fun k σ H' => ∃ (i j : Nat) (v : Option V), k = j ∧ H = H' ∧ Nat.gcd i j = Nat.gcd m n ∧ σ = [some (.int (i : Int)), some (.int (j : Int)), v], ⟨n, m, n, none, rfl, rfl, rfl, rfl⟩, ?_⟩
    rintro k σ H' ⟨i, j, v, rfl, rfl, hg, rfl⟩
    refine ⟨_, rfl, _, _, rfl, rfl, _, rfl, ?_⟩
    refine ite2 (fun h => ?_) fun h => ?_
    · have h : (0 : Int) < (k : Int) := of_decide_eq_true h
      refine ⟨fun σ' H' => H = H' ∧ ∃ v, σ' = [some (.int (k : Int)), some (.int ((i % k : Nat) : Int)), v], ?_, ?_⟩
      · rintro σ' H' ⟨rfl, v, rfl⟩
        refine ⟨i % k, Nat.mod_lt _ (by omega), k, i % k, v, rfl, rfl, ?_, rfl⟩
        rw [← hg, Nat.gcd_comm k, ← Nat.gcd_rec, Nat.gcd_comm]
      · refine ⟨_, rfl, _, rfl, _, _, rfl, rfl, h, _, rfl, _, rfl, rfl, some (.int ((i % k : Nat) : Int)), ?_⟩
        rw [Int.natCast_emod]
        rfl
    · have h : ¬ (0 : Int) < (k : Int) := fun z => h (decide_eq_true z)
      have e : k = 0 := by omega
      subst e
      rw [Nat.gcd_zero_right] at hg
      refine ⟨_, rfl, ?_⟩
      rw [hg]
      exact hk

/-! ### ways_by_passes -/
def natV (ns : List Nat) : List V := ns.map fun n : Nat => V.int (n : Int)
theorem natV_len (ns : List Nat) : (natV ns).length = ns.length := List.length_map ..
theorem natV_get {ns : List Nat} {i : Nat} {y : V} (h : (natV ns)[i]? = some y) : ∃ n : Nat, ns[i]? = some n ∧ y = .int (n : Int) := by
  unfold natV at h
  rw [List.getElem?_map] at h
  cases e : ns[i]? with
  | none =>
    rw [e] at h
    cases h
  | some p =>
    rw [e] at h
    exact ⟨p, rfl, (Option.some.inj h).symm⟩
theorem natV_append (x y : List Nat) : natV (x ++ y) = natV x ++ natV y := List.map_append ..
/-- [many * e for many in ways] -/
theorem lc_mul {te : TE} {σ : L2.St} {H : Hp} {l E' : Addr} {ns : List Nat} {c : Nat} {i : Nat} {Qd : Hp → Prop} (hc : c ≤ 1000) (hn : ns.length ≤ 100) (hl : H l = some (.lst (natV ns))) (hE : H E' = none)
    (hi : ∀ v, wipe (((wipe σ [i]).set i (some v))) [i] = wipe σ [i]) (hr : ∀ (n : Nat) (H' : Hp) (Q : VK), Q (.int ((n * c : Nat) : Int)) H' → te ((wipe σ [i]).set i (some (.int (n : Int)))) H' Q)
    (hd : ∀ H', Same H H' → H' E' = some (.lst (natV (ns.map fun m => m * c))) → Qd H') :
    ∃ W : Nat → Nat → Hp → Prop, (∃ m, W 0 m (upd H E' (.lst []))) ∧ ∀ j m H, W j m H →
      ((Itl K l).stop j H ∧ Qd H) ∨ ((Itl K l).go j H ∧ ∃ Nx : Hp → Prop, (∀ H', Nx H' → ∃ m', m' < m ∧ W (j + 1) m' H') ∧ ∀ x H', (Itl K l).yld j H x H' → gName i x (wipe σ [i]) H' fun σ2 H2 => wipe σ2 [i] = wipe σ [i] ∧ tYes σ2 H2 fun b H3 =>
        if b = true then te σ2 H3 fun y H4 => ∃ acc, H4 E' = some (.lst acc) ∧ acc.length < sizeLine ∧ Nx (upd H4 E' (.lst (acc ++ [y]))) else Nx H3) := by
  refine lc_list (K := K) (a := l) (xs := natV ns) (fun j H' => H' E' = some (.lst (natV ((ns.take j).map fun m => m * c))) ∧ Same H H') ⟨upd_same, same_new hE⟩ (fun j H' _ ⟨_, s3⟩ => SqL.of (s3 _ _ hl)) ?_ ?_
  · rintro j y H' hj ⟨e1, s3⟩
    obtain ⟨n, hn', rfl⟩ := natV_get hj
    refine ⟨hi _, ?_⟩
    simp only [tYes, if_true]
    refine hr n H' _ ⟨_, e1, ?_, ?_, fun b o e => ?_⟩
    · rw [natV_len, List.length_map, List.length_take]
      exact Nat.lt_of_le_of_lt (Nat.le_trans (Nat.min_le_right _ _) hn) (by decide)
    · rw [upd_same, take_snoc hn', List.map_append, natV_append]
      rfl
    · rw [upd_ne (ne_of_none e hE)]
      exact s3 _ _ e
  · rintro H' ⟨e1, s3⟩
    rw [natV_len, List.take_of_length_le (Nat.le_refl _)] at e1
    exact hd H' s3 e1
def spways_by_passes : Sp := fun vs H Q _ => ∃ x q n : Nat, vs = [.int (x : Int), .int (q : Int), .int (n : Int)] ∧ x ≤ q ∧ q ≤ 1000 ∧ n ≤ 9 ∧ ∀ (l : Addr) (H' : Hp), Same H H' → H' l = some (.lst (natV (ways x (q - x) n))) → Q (.ref l) H'
theorem okways_by_passes (F : DFun K mg "ways_by_passes" sways_by_passes) (T : Txt K mg a) : DOk P w K mg base "ways_by_passes" 1 ["a", "q", "tries"] spways_by_passes := by
  refine F.ok scways_by_passes bdways_by_passes (fun vs H Q E h => ?_) (fun f cdv A outer s H vs Q E hr h => ?_)
  · obtain ⟨x, q, n, rfl, _⟩ := h
    rfl
  · obtain ⟨x, q, n, rfl, hx, hq, hn, hk⟩ := h
    refine ⟨_, pss_cons (ps_set (i := 3) scways_by_passes.nd rfl (Or.inl rfl) (pe_lst (pa_cons pe_int pa_nil)))
      (pss_cons (ps_for PassesOwn.never rfl (pi_range1 (by rfl) T.brange (pa_cons (pv 2) pa_nil)) (pg_name (i := 4) scways_by_passes.nd rfl (Or.inl rfl))
        (pss_cons (ps_set (i := 5) scways_by_passes.nd rfl (Or.inl rfl) (pe_op op_cat (pe_lc rfl scways_by_passes.nd (own := [("many", 7)]) (pi_list (pv 3)) (blkOk_by (by rfl)) (fun s H C cl fp => pg_name (i := 7) scways_by_passes.nd rfl (Or.inl rfl)) (fun s H C cl fp => pts_nil)
            (fun s H C cl fp => pe_op op_mul (pv 7) (pe_op op_sub (pv 1) (pv 0)))) (pe_lst (pa_cons pe_int pa_nil))))
        (pss_cons (ps_set (i := 6) scways_by_passes.nd rfl (Or.inl rfl) (pe_op op_cat (pe_lst (pa_cons pe_int pa_nil)) (pe_lc rfl scways_by_passes.nd (own := [("many", 7)]) (pi_list (pv 3)) (blkOk_by (by rfl)) (fun s H C cl fp => pg_name (i := 7) scways_by_passes.nd rfl (Or.inl rfl)) (fun s H C cl fp => pts_nil)
            (fun s H C cl fp => pe_op op_mul (pv 7) (pv 0)))))
        (pss_one (ps_setLc rfl scways_by_passes.nd (i := 3) rfl rfl rfl (own := [("failing", 8), ("passing", 9)]) (pi_zip (by rfl) T.bzip (pa_cons (pv 5) (pa_cons (pv 6) pa_nil))) (blkOk_by (by rfl))
            (fun s H C cl fp => pg_pair K (i := 8) (j := 9) rfl scways_by_passes.nd rfl rfl (Or.inl rfl) (Or.inl rfl)) (fun s H C cl fp => pts_nil) (fun s H C cl fp => pe_op op_add (pv 8) (pv 9)))))))
      (pss_one (ps_ret (pv 3)))), ?_⟩
    dsimp only [cxOf, Cx.nox]
    refine ⟨(by show 1 ≤ sizeLine; decide), fun l0 hl0 => ?_⟩
    refine ⟨_, rfl, (n : Int), rfl, (sm62 (Nat.le_trans hn (by decide))).1, (sm62 (Nat.le_trans hn (by decide))).2, ?_⟩
    rw [Int.toNat_natCast]
    refine for_range (lo := 0) (n := n) (fun i σ H' => ∃ (l : Addr) (v4 v5 v6 : Option V), σ = [some (.int (x : Int)), some (.int (q : Int)), some (.int (n : Int)), some (.ref l), v4, v5, v6, none, none, none] ∧ H' l = some (.lst (natV (ways x (q - x) i))) ∧ Same H H')
      ⟨l0, none, none, none, rfl, upd_same, same_new hl0⟩ ?_ ?_
    · rintro i σ H1 hi ⟨l, v4, v5, v6, rfl, hl, s1⟩
      have hwl := ways_len x (q - x) i
      have h100 : i + 1 + 1 ≤ 100 := Nat.le_trans (Nat.succ_le_succ (Nat.lt_of_lt_of_le hi hn)) (by decide)
      have hw100 : (ways x (q - x) i).length ≤ 100 := by rw [hwl]; exact Nat.le_of_succ_le h100
      -- by_failing
      refine ⟨_, rfl, l, rfl, ⟨_, SqL.of hl⟩, fun e1 he1 => ?_⟩
      refine lc_mul (c := q - x) (i := 7) (Nat.le_trans (Nat.sub_le q x) hq) hw100 hl he1 (fun _ => rfl) (fun m H' Q hQ => ?_) fun H2 s2 h2 => ?_
      · refine ⟨_, rfl, _, rfl, _, rfl, _, _, rfl, rfl, _, _, rfl, rfl, .inr (sm64 hx hq).1, ?_⟩
        rw [Int.natCast_mul, Int.natCast_sub hx] at hQ
        exact hQ
      refine ⟨(by show 1 ≤ sizeLine; decide), fun z1 hz1 => ?_⟩
      have s3 := s2.trans (same_new (o := .lst [.int 0]) hz1)
      refine ⟨e1, z1, _, _, rfl, rfl, same_new hz1 _ _ h2, upd_same, ?_, fun f1 hf1 => ?_⟩
      · rw [natV_len, List.length_map, hwl]
        exact Nat.le_trans h100 (by decide)
      have s4 := s3.trans (same_new (o := .lst (natV ((ways x (q - x) i).map fun m => m * (q - x)) ++ [.int 0])) hf1)
      generalize hG4 : upd (upd H2 z1 (.lst [.int 0])) f1 (.lst (natV ((ways x (q - x) i).map fun m => m * (q - x)) ++ [.int 0])) = H4 at s4
      have e4 : H4 f1 = some (.lst (natV ((ways x (q - x) i).map (fun m => m * (q - x)) ++ [0]))) := by
        rw [← hG4, upd_same, natV_append]
        rfl
      -- by_passing
      refine ⟨(by show 1 ≤ sizeLine; decide), fun z2 hz2 => ?_⟩
      have s5 := s4.trans (same_new (o := .lst [.int 0]) hz2)
      have hz2' : upd H4 z2 (.lst [.int 0]) z2 = some (.lst [.int 0]) := upd_same
      have e5 : upd H4 z2 (.lst [.int 0]) f1 = some (.lst (natV ((ways x (q - x) i).map (fun m => m * (q - x)) ++ [0]))) := same_new hz2 _ _ e4
      generalize upd H4 z2 (.lst [.int 0]) = H5 at s5 hz2' e5
      refine ⟨_, rfl, l, rfl, ⟨_, SqL.of (s5 _ _ hl)⟩, fun e2 he2 => ?_⟩
      refine lc_mul (c := x) (i := 7) (Nat.le_trans hx hq) hw100 (s5 _ _ hl) he2 (fun _ => rfl) (fun m H' Q hQ => ?_) fun H6 s6 h6 => ?_
      · refine ⟨_, rfl, _, rfl, _, _, rfl, rfl, .inr (sm64 hx hq).2, ?_⟩
        rw [Int.natCast_mul] at hQ
        exact hQ
      refine ⟨z2, e2, _, _, rfl, rfl, s6 _ _ hz2', h6, ?_, fun f2 hf2 => ?_⟩
      · rw [natV_len, List.length_map, hwl]
        exact Nat.le_trans (Nat.le_trans (Nat.le_of_eq (Nat.add_comm 1 (i + 1))) h100) (by decide)
      have s7 := s6.trans (same_new (o := .lst ([.int 0] ++ natV ((ways x (q - x) i).map fun m => m * x))) hf2)
      have e7 : upd H6 f2 (.lst ([.int 0] ++ natV ((ways x (q - x) i).map fun m => m * x))) f2 = some (.lst (natV (0 :: (ways x (q - x) i).map fun m => m * x))) := upd_same
      generalize upd H6 f2 (.lst ([.int 0] ++ natV ((ways x (q - x) i).map fun m => m * x))) = H7 at s7 e7
      -- ways
      refine ⟨_, rfl, _, rfl, f1, f2, _, _, rfl, SqL.of (s7 _ _ e5), SqL.of e7, fun e3 he3 => ?_⟩
      have l1 : ((ways x (q - x) i).map (fun m => m * (q - x)) ++ [0]).length = i + 2 := by simp [hwl]
      have l2 : (0 :: (ways x (q - x) i).map fun m => m * x).length = i + 2 := by simp [hwl]
      refine lc_zip (K := K) (a := f1) (b := f2) (xs := natV ((ways x (q - x) i).map (fun m => m * (q - x)) ++ [0])) (ys := natV (0 :: (ways x (q - x) i).map fun m => m * x)) (by rw [natV_len, natV_len, l1, l2])
        (fun j H' => H' e3 = some (.lst (natV ((ways x (q - x) (i + 1)).take j))) ∧ Same H7 H') ⟨upd_same, same_new he3⟩ (fun j H' _ ⟨_, s8⟩ => ⟨SqL.of (s8 _ _ (s7 _ _ e5)), SqL.of (s8 _ _ e7)⟩) ?_ ?_
      · rintro j y1 y2 t H' g1 g2 ht ⟨h8, s8⟩
        obtain ⟨m1, k1, rfl⟩ := natV_get g1
        obtain ⟨m2, k2, rfl⟩ := natV_get g2
        refine ⟨t, _, rfl, SqT.of upd_same, rfl, _, _, rfl, _, _, rfl, rfl, rfl, ?_⟩
        simp only [tYes, if_true]
        refine ⟨_, rfl, _, rfl, _, _, rfl, rfl, ?_⟩
        have hj : (ways x (q - x) (i + 1))[j]? = some (m1 + m2) := by
          rw [ways, List.getElem?_zipWith, k1, k2]
        have n3 : t ≠ e3 := fun z => by rw [z, h8] at ht; cases ht
        refine ⟨natV ((ways x (q - x) (i + 1)).take j), by rw [upd_ne (Ne.symm n3)]; exact h8, ?_, ?_, fun b o e => ?_⟩
        · rw [natV_len, List.length_take, ways_len]
          exact Nat.lt_of_le_of_lt (Nat.le_trans (Nat.min_le_right _ _) h100) (by decide)
        · rw [upd_same, take_snoc hj, natV_append]
          rfl
        · have := s8 _ _ e
          rw [upd_ne (ne_of_none e he3), upd_ne (ne_of_none this ht)]
          exact this
      · rintro H' ⟨h8, s8⟩
        rw [natV_len, l1, List.take_of_length_le (by rw [ways_len]; omega)] at h8
        exact ⟨e3, _, _, _, rfl, h8, s1.trans ((s5.trans s7).trans s8)⟩
    · rintro σ H' ⟨l, v4, v5, v6, rfl, hl, s1⟩
      exact ⟨_, rfl, hk l H' s1 hl⟩

/-! ### odds_of_passing, odds -/
theorem cut_drop (xs : List V) (n : Nat) : cutV xs (some (n : Int)) none = xs.drop n := by
  unfold cutV
  rw [HT.sIx_none, HT.sIx_nat]
  by_cases h : n ≤ xs.length
  · rw [Nat.min_eq_left h, List.take_of_length_le (by rw [List.length_drop]; omega)]
  · rw [Nat.min_eq_right (by omega), List.drop_eq_nil_of_le (Nat.le_refl _), List.drop_eq_nil_of_le (by omega), List.take_nil]
theorem natV_int (ns : List Nat) : natV ns = (ns.map fun n : Nat => (n : Int)).map V.int := by
  rw [List.map_map]
  rfl
theorem sum_cast : ∀ ns : List Nat, (ns.map fun n : Nat => (n : Int)).sum = ((ns.sum : Nat) : Int)
  | [] => rfl
  | n :: r => by
    rw [List.map_cons, List.sum_cons, List.sum_cons, sum_cast r]
    omega
def spodds_of_passing (a : Cs) : Sp := fun vs H Q _ => ∃ (pr : Addr) (x q : Nat) (y : Vamrqj.Policy), vs = [.int (x : Int), .int (q : Int), .ref pr] ∧ RulAt a H pr y ∧ PolOk y ∧ x ≤ q ∧ 1 ≤ q ∧ q ≤ 1000 ∧
  ∀ (l : Addr) (H' : Hp), Same H H' → H' l = none → Q (.ref l) (upd H' l (.lst [.int ((Vamrqj.odds y.need y.most x q).1 : Int), .int ((Vamrqj.odds y.need y.most x q).2 : Int)]))
theorem okodds_of_passing (F : DFun K mg "odds_of_passing" sodds_of_passing) (T : Txt K mg a) (Gw : DOk P w K mg base "ways_by_passes" 1 ["a", "q", "tries"] spways_by_passes)
    (Gd : DOk P w K mg base "common_divisor" 1 ["first", "second"] spcommon_divisor) : DOk P w K mg base "odds_of_passing" 2 ["a", "q", "rules"] (spodds_of_passing a) := by
  refine F.ok scodds_of_passing bdodds_of_passing (fun vs H Q E h => ?_) (fun f cdv A outer s H vs Q E hr h => ?_)
  · obtain ⟨pr, x, q, y, rfl, _⟩ := h
    rfl
  · obtain ⟨pr, x, q, y, rfl, ⟨dr, hu⟩, hy, hx, hq1, hq, hk⟩ := h
    refine ⟨_, pss_cons (ps_set (i := 3) scodds_of_passing.nd rfl (Or.inl rfl) (pd Gw hr (pa_cons (pv 0) (pa_cons (pv 1) (pa_cons (pe_fld (pv 2) rfl) pa_nil)))))
      (pss_cons (ps_set (i := 4) scodds_of_passing.nd rfl (Or.inl rfl) (pe_callB (cr_sum rfl) (by rfl) T.bsum (by decide +kernel) (pa_cons (pe_slice sl_list (pv 3) (po_some (pe_fld (pv 2) rfl)) po_none) pa_nil)))
      (pss_cons (ps_set (i := 5) scodds_of_passing.nd rfl (Or.inl rfl) (pe_callB (cr_sum rfl) (by rfl) T.bsum (by decide +kernel) (pa_cons (pv 3) pa_nil)))
      (pss_cons (ps_set (i := 6) scodds_of_passing.nd rfl (Or.inl rfl) (pd Gd hr (pa_cons (pv 4) (pa_cons (pv 5) pa_nil))))
      (pss_one (ps_ret (pe_lst (pa_cons (pe_op op_fdivL (pv 4) (pv 6)) (pa_cons (pe_op op_fdivL (pv 5) (pv 6)) pa_nil)))))))), ?_⟩
    dsimp only [cxOf, Cx.nox]
    refine ⟨_, rfl, _, rfl, _, rfl, pr, a.cRules, dr, _, _, rfl, hu, T.clRules, T.nRules_most, rfl, ?_⟩
    refine ⟨x, q, y.most, rfl, hx, hq, hy.m9, fun l H1 s1 hl => ?_⟩
    refine ⟨_, rfl, _, rfl, pr, a.cRules, dr, _, _, rfl, s1 _ _ hu, T.clRules, T.nRules_need, rfl, _, rfl, l, _, rfl, SqL.of hl, fun c hc => ?_⟩
    rw [cut_drop]
    have e1 : (natV (ways x (q - x) y.most)).drop y.need = ((((ways x (q - x) y.most).drop y.need).map fun n : Nat => (n : Int)).map V.int) := by
      rw [natV_int, ← List.map_drop, ← List.map_drop]
    rw [e1] at *
    have s2 := s1.trans (same_new (o := .lst ((((ways x (q - x) y.most).drop y.need).map fun n : Nat => (n : Int)).map V.int)) hc)
    refine ⟨c, _, rfl, SqL.of upd_same, ?_⟩
    rw [sum_cast]
    have hl2 := same_new (o := .lst ((((ways x (q - x) y.most).drop y.need).map fun n : Nat => (n : Int)).map V.int)) hc _ _ hl
    rw [natV_int] at hl2
    refine ⟨_, rfl, l, _, rfl, SqL.of hl2, ?_⟩
    rw [sum_cast]
    have et : ((ways x (q - x) y.most).drop y.need).sum = tail x (q - x) y.most y.need := rfl
    have ez : (ways x (q - x) y.most).sum = tail x (q - x) y.most 0 := by
      unfold tail
      rw [List.drop_zero]
    rw [et, ez]
    refine ⟨_, rfl, _, rfl, _, _, rfl, ?_⟩
    have hz : tail x (q - x) y.most 0 = q ^ y.most := by
      rw [tail_zero]
      congr 1
      omega
    have hpos : 0 < tail x (q - x) y.most 0 := by
      rw [hz]
      exact Nat.pow_pos (by omega)
    have hbig : tail x (q - x) y.most 0 < 2 ^ 100 := by
      rw [hz]
      have h1 : q ^ y.most ≤ 1000 ^ y.most := Nat.pow_le_pow_left hq _
      have h2 : 1000 ^ y.most ≤ 1000 ^ 9 := Nat.pow_le_pow_right (by decide) hy.m9
      exact Nat.lt_of_le_of_lt (Nat.le_trans h1 h2) (by decide)
    have hg1 : 0 < Nat.gcd (tail x (q - x) y.most y.need) (tail x (q - x) y.most 0) := Nat.gcd_pos_of_pos_right _ hpos
    have hg2 : Nat.gcd (tail x (q - x) y.most y.need) (tail x (q - x) y.most 0) < 2 ^ 100 := Nat.lt_of_le_of_lt (Nat.gcd_le_right _ hpos) hbig
    have ho := odds_eq hy hx
    generalize Nat.gcd (tail x (q - x) y.most y.need) (tail x (q - x) y.most 0) = g at *
    have c1 : (0 : Int) < (g : Int) ∧ (g : Int) < 2 ^ 100 := by
      refine ⟨by omega, ?_⟩
      have : (g : Int) < ((2 ^ 100 : Nat) : Int) := by omega
      exact this
    refine ⟨_, rfl, _, rfl, _, _, rfl, rfl, c1, _, rfl, _, rfl, _, _, rfl, rfl, c1, (by show 2 ≤ sizeLine; decide), fun p hp => ?_⟩
    have := hk p _ s2 hp
    rw [ho] at this
    exact this
def decOdds : Hp → List V → Vamrqj.Call → Prop := fun _ rest c => ∃ x q : Int, rest = [.int x, .int q] ∧ c = .odds x q
theorem okRoom_odds (F : MFun K a.cRoom "odds" "Room.odds" sRoom_odds) (T : Txt K mg a) (D : Dif a) (G : DOk P w K mg base "odds_of_passing" 2 ["a", "q", "rules"] (spodds_of_passing a)) :
    MOk P w K mg base a.cRoom "odds" 3 ["self", "a", "q"] (spOf a decOdds) := by
  refine F.ok scRoom_odds bdRoom_odds (fun vs H Q E h => ?_) (fun f cdv A outer s H vs Q E hr h => ?_)
  · obtain ⟨q, r, s, c, rest, rfl, ⟨x, n, rfl, rfl⟩, _⟩ := h
    rfl
  · obtain ⟨q, r, s, c, rest, rfl, ⟨x, n, rfl, rfl⟩, hq, hR0, hw, hk⟩ := h
    have hR1 := hR0
    obtain ⟨dx, pr, pl, dd, ps, hR, hu, h3, h4, h5, h6, hT⟩ := hR0
    refine ⟨_, pss_cons (ps_if (PW.pt (pw_or (pt_not (pt_chain op_le op_le pe_int (pv 2) (pk T.kMOST_WAYS))) (pw_or1 (pt_not (pt_chain op_le op_le pe_int (pv 1) (pv 2))))))
        (pss_one (ps_ret (pe_lst (pa_cons (pk T.kOUT_OF_RANGE) pa_nil)))) pss_nil)
      (pss_one (ps_ret (pd G hr (pa_cons (pv 1) (pa_cons (pv 2) (pa_cons (pe_fld (pv 0) rfl) pa_nil)))))), ?_⟩
    dsimp only [cxOf, Cx.nox]
    have est : ∀ b : Bool, (!(decide (1 ≤ n) && decide (n ≤ 1000)) || !(decide (0 ≤ x) && decide (x ≤ n))) = b → Vamrqj.step s (.odds x n) = (if b = true then (s, .refused (-1)) else (s, .told [((Vamrqj.odds s.policy.need s.policy.most x.toNat n.toNat).1 : Int), ((Vamrqj.odds s.policy.need s.policy.most x.toNat n.toNat).2 : Int)])) := fun b hb => by
      show (if _ then _ else _) = _
      have : (x < 0 ∨ n < 1 ∨ n < x ∨ 1000 < n) ↔ b = true := by
        rw [← hb]
        simp
        omega
      by_cases z : b = true
      · rw [if_pos z, if_pos (this.mpr z)]
      · rw [if_neg z, if_neg (fun y => z (this.mp y))]
    refine rd_le2 (i := 1) (j := n) (k := 1000) Rds.c (Rds.v rfl) Rds.c ?_
    refine ite2 (fun e => ?_) fun e => ?_
    · refine iteT ⟨(by show 1 ≤ sizeLine; decide), fun p hp => ?_⟩
      refine hk.same D hq hR1 (Same.refl H) hp (ans := .refused (-1)) ?_ rfl
      rw [est true (by rw [e]; rfl)]
      rfl
    · have e := Bool.eq_false_iff.mpr e
      refine rd_le2 (i := 0) (j := x) (k := n) Rds.c (Rds.v rfl) (Rds.v rfl) ?_
      refine ite2 (fun e2 => ?_) fun e2 => ?_
      · refine ⟨(by show 1 ≤ sizeLine; decide), fun p hp => ?_⟩
        refine hk.same D hq hR1 (Same.refl H) hp (ans := .refused (-1)) ?_ rfl
        rw [est true (by rw [e, e2]; rfl)]
        rfl
      · have e2 := Bool.eq_false_iff.mpr e2
        have hb := est false (by rw [e, e2]; rfl)
        simp at e e2
        obtain ⟨x, rfl⟩ : ∃ j : Nat, x = (j : Int) := ⟨x.toNat, by omega⟩
        obtain ⟨n, rfl⟩ : ∃ j : Nat, n = (j : Int) := ⟨n.toNat, by omega⟩
        rw [if_neg Bool.false_ne_true, Int.toNat_natCast, Int.toNat_natCast] at hb
        refine ⟨_, rfl, _, rfl, _, rfl, r, a.cRoom, dx, _, _, rfl, hR, T.clRoom, T.nRoom_rules, rfl, ?_⟩
        refine ⟨pr, x, n, s.policy, rfl, hu, hw.pol, by omega, by omega, by omega, fun l H1 s1 hl => ?_⟩
        exact hk.same D hq hR1 s1 hl hb rfl
end TR
end
-- TRRoom5
section
set_option Elab.async false
set_option linter.all false
set_option maxRecDepth 100000
set_option maxHeartbeats 2000000
namespace TR
open PySem PySem.Spec PyProof.Rows L2
variable {P : Program} {w : World} {K : PySem.W.Frag} {mg : Str → Option Value} {base : Heap} {a : Cs}

theorem pe_fldK {X : Cx} (K : PySem.W.Frag) {e : Expr} {ta : TE} {f : Str} {pos : Pos} (he : PE X e ta) (hb : attributeBase e f X.env (eval e X.env) = eval e X.env) (hK : X.K = K := by rfl) : PE X (.Attribute e f pos) (tFld K ta f) := by
  subst hK
  exact pe_fld he hb

/-! ### a test's number alone -/
theorem ask_no {s : Vamrqj.State} {x : Int} {f : Nat → Vamrqj.State × Vamrqj.Answer} (h : isTest s x = false) : Vamrqj.askTest s x f = (s, .refused (-1)) := by
  unfold Vamrqj.askTest Vamrqj.asked
  rw [if_neg]
  unfold isTest at h
  simp at h
  omega
theorem ask_yes {s : Vamrqj.State} {x : Int} (h : isTest s x = true) : ∃ x' : Nat, x = (x' : Int) ∧ x' < s.tests.length ∧ ∀ f : Nat → Vamrqj.State × Vamrqj.Answer, Vamrqj.askTest s x f = f x' := by
  unfold isTest at h
  simp at h
  refine ⟨x.toNat, by omega, by omega, fun f => ?_⟩
  unfold Vamrqj.askTest Vamrqj.asked
  rw [if_pos ⟨h.1, h.2, by omega, by omega⟩]
theorem step_history (s : Vamrqj.State) (x : Int) : Vamrqj.step s (.history x) = Vamrqj.askTest s x fun x => (s, .told (((s.test x).runs.length : Int) :: (s.test x).runs.flatMap Vamrqj.keptTold)) := rfl
theorem step_score (s : Vamrqj.State) (x : Int) : Vamrqj.step s (.score x) = Vamrqj.askTest s x fun x => (s, .told [Vamrqj.bit (s.test x).held, ((s.test x).since : Int), (Vamrqj.score s.policy (s.test x) : Int), (Vamrqj.calmRuns (s.test x) : Int)]) := rfl
theorem step_hold (s : Vamrqj.State) (x on : Int) : Vamrqj.step s (.hold x on) = Vamrqj.askTest s x fun x =>
    if on ≠ 0 ∧ on ≠ 1 then (s, .refused (-1))
    else if (s.test x).held = decide (on = 1) then (s, .told [0])
    else (⟨s.policy, s.oracle, s.tests.set x ⟨(s.test x).runs, decide (on = 1), 0⟩⟩, .told [1]) := rfl

/-! ### history -/
def decHistory : Hp → List V → Vamrqj.Call → Prop := fun _ rest c => ∃ x : Int, rest = [.int x] ∧ c = .history x
theorem okRoom_history (F : MFun K a.cRoom "history" "Room.history" sRoom_history) (T : Txt K mg a) (D : Dif a) (Mt : MOk P w K mg base a.cRoom "is_test" 1 ["self", "x"] (spRoom_is_test a))
    (Mn : MOk P w K mg base a.cRun "as_numbers" 2 ["self"] (spRun_as_numbers a)) : MOk P w K mg base a.cRoom "history" 3 ["self", "x"] (spOf a decHistory) := by
  refine F.ok scRoom_history bdRoom_history (fun vs H Q E h => ?_) (fun f cdv A outer s H vs Q E hr h => ?_)
  · obtain ⟨q, r, s, c, rest, rfl, ⟨x, rfl, rfl⟩, _⟩ := h
    rfl
  · obtain ⟨q, r, s, c, rest, rfl, ⟨x, rfl, rfl⟩, hq, hR1, hw, hk⟩ := h
    obtain ⟨dx, pr, pl, dd, ps, hR, hu, h3, h4, h5, h6, hT⟩ := id hR1
    refine ⟨_, pss_cons (ps_if (pt_not (pt_val (pm T.clRoom Mt hr (pv 0) (pa_cons (pv 1) pa_nil)))) (pss_one (ps_ret (pe_lst (pa_cons (pk T.kOUT_OF_RANGE) pa_nil)))) pss_nil)
      (pss_cons (ps_set (i := 2) scRoom_history.nd rfl (Or.inl rfl) (pe_lst (pa_cons (pe_callB call_len_seq (by rfl) T.blen PySem.boot_len (pa_cons (pe_fld (pe_ix ix_list (pe_fld (pv 0) rfl) (pv 1) (fun _ _ => rfl)) rfl) pa_nil)) pa_nil)))
      (pss_cons (ps_for PassesOwn.never rfl (pi_list (pe_fld (pe_ix ix_list (pe_fld (pv 0) rfl) (pv 1) (fun _ _ => rfl)) rfl)) (pg_name (i := 3) scRoom_history.nd rfl (Or.inl rfl))
        (pss_cons (ps_expr (pe_bm PySem.F.plainAttrs_list PySem.F.slot_list_append PySem.F.type_list_append mt_append (pv 2) (pa_cons (pe_fld (pv 3) rfl) pa_nil)))
        (pss_one (ps_expr (pe_bm PySem.F.plainAttrs_list PySem.F.slot_list_extend PySem.F.type_list_extend mt_extend (pv 2) (pa_cons (pm0 T.clRun Mn hr (pv 3)) pa_nil))))))
      (pss_one (ps_ret (pv 2))))), ?_⟩
    dsimp only [cxOf, Cx.nox]
    refine ⟨_, rfl, r, dx, _, rfl, hR, rfl, _, rfl, q, r, s, x, rfl, hR1, _, rfl, ?_⟩
    refine ite2 (fun e => ?_) fun e => ?_
    · refine ⟨(by show 1 ≤ sizeLine; decide), fun p hp => ?_⟩
      exact hk.same D hq hR1 (Same.refl H) hp (ans := .refused (-1)) ((step_history _ _).trans (ask_no (by simpa using e))) rfl
    · have e : isTest s x = true := by simpa using e
      obtain ⟨x, rfl, hx, ea⟩ := ask_yes e
      obtain ⟨pc, hpc, hrc⟩ := paired_get h6 (test_get hx)
      obtain ⟨dc, lc, ec, nlc, z64, us, hlc, hus⟩ := id hrc
      have hpc' : (ps.map V.ref)[x]? = some (V.ref pc) := by rw [List.getElem?_map, hpc]; rfl
      have hul : us.length = (s.test x).runs.length := paired_len hus
      refine ⟨_, rfl, r, a.cRoom, dx, _, _, rfl, hR, T.clRoom, T.nRoom_records, rfl, _, rfl, pl, _, _, _, rfl, rfl, SqL.of h4, at_of (j := x) (v := V.ref pc) rfl hpc', ?_⟩
      refine ⟨pc, a.cRecord, dc, _, _, rfl, ec, T.clRecord, T.nRecord_kept, rfl, lc, _, rfl, .inl (SqL.of hlc), (by show 1 ≤ sizeLine; decide), fun l hl => ?_⟩
      rw [List.length_map, hul]
      have s1 : Same H (upd H l (.lst [.int ((s.test x).runs.length : Int)])) := same_new hl
      refine ⟨_, rfl, r, a.cRoom, dx, _, _, rfl, s1 _ _ hR, T.clRoom, T.nRoom_records, rfl, _, rfl, pl, _, _, _, rfl, rfl, SqL.of (s1 _ _ h4), at_of (j := x) (v := V.ref pc) rfl hpc', ?_⟩
      refine ⟨pc, a.cRecord, dc, _, _, rfl, s1 _ _ ec, T.clRecord, T.nRecord_kept, rfl, lc, rfl, ⟨_, SqL.of (s1 _ _ hlc)⟩, ?_⟩
      refine for_list (K := K) (a := lc) (xs := us.map V.ref) (fun i σ H' => ∃ v3 : Option V, σ = [some (.ref r), some (.int (x : Int)), some (.ref l), v3] ∧
        H' l = some (.lst ((((s.test x).runs.length : Int) :: ((s.test x).runs.take i).flatMap Vamrqj.keptTold).map V.int)) ∧ Same H H') ⟨none, rfl, upd_same, s1⟩ (fun i σ H' _ ⟨_, _, _, s3⟩ => SqL.of (s3 _ _ hlc)) ?_ ?_
      · rintro i y σ H' hi ⟨v3, rfl, h1, s3⟩
        obtain ⟨b, hb, rfl⟩ := getElem?_map_ref hi
        obtain ⟨k, hk', dk, hRk⟩ := paired_get' hus hb
        have hR' := s3 _ _ hRk
        have hlen : ((((s.test x).runs.length : Int) :: ((s.test x).runs.take i).flatMap Vamrqj.keptTold).map V.int).length ≤ 321 := by
          rw [List.length_map, List.length_cons, flat5, List.length_take]
          omega
        have hbig : 400 ≤ sizeLine := by decide
        refine ⟨_, rfl, .inl ⟨rfl, _, SqL.of h1⟩, _, rfl, b, a.cRun, dk, _, _, rfl, hR', T.clRun, T.nRun_revision, rfl, l, _, _, rfl, rfl, h1, by omega, ?_⟩
        have nbl : b ≠ l := fun z => by rw [z, h1] at hR'; cases hR'
        refine ⟨_, rfl, .inl ⟨rfl, _, SqL.of upd_same⟩, _, rfl, b, dk, _, rfl, (by rw [upd_ne nbl]; exact hR'), rfl, b, k, rfl, ⟨dk, by rw [upd_ne nbl]; exact hR'⟩, fun m hm => ?_⟩
        have nml : m ≠ l := fun z => by rw [z, upd_same] at hm; cases hm
        refine ⟨l, m, _, _, rfl, rfl, (by rw [upd_ne (Ne.symm nml), upd_same]), upd_same, ?_, _, rfl, ?_, fun b' o e => ?_⟩
        · rw [List.length_append, List.length_map, List.length_singleton]
          show _ + 1 + 4 ≤ sizeLine
          rw [List.length_map] at hlen
          omega
        · rw [upd_same, take_snoc hk', List.flatMap_append]
          simp [Vamrqj.keptTold]
        · have n1 := ne_of_none e hl
          have := s3 _ _ e
          rw [upd_ne n1, upd_ne (fun z => by rw [z] at this; rw [upd_ne nml, this] at hm; cases hm), upd_ne n1]
          exact this
      · rintro σ H' ⟨v3, rfl, h1, s3⟩
        refine ⟨_, rfl, ?_⟩
        rw [List.length_map, hul, List.take_of_length_le (Nat.le_refl _)] at h1
        have est : Vamrqj.step s (.history x) = (s, .told (((s.test x).runs.length : Int) :: (s.test x).runs.flatMap Vamrqj.keptTold)) := by
          rw [step_history]
          rw [ea]
        refine hk l H' ?_ ?_ (Frm.same s3) (fun z => hq l z hl)
        · rw [est]
          exact hR1.same D s3
        · rw [est]
          exact h1

/-! ### score -/
def decScore : Hp → List V → Vamrqj.Call → Prop := fun _ rest c => ∃ x : Int, rest = [.int x] ∧ c = .score x
theorem okRoom_score (F : MFun K a.cRoom "score" "Room.score" sRoom_score) (T : Txt K mg a) (D : Dif a) (Mt : MOk P w K mg base a.cRoom "is_test" 1 ["self", "x"] (spRoom_is_test a))
    (Mc : MOk P w K mg base a.cRecord "calm_length" 2 ["self"] (spRecord_calm_length a)) (Ms : MOk P w K mg base a.cRecord "flaky_score" 2 ["self", "window"] (spRecord_flaky_score a)) :
    MOk P w K mg base a.cRoom "score" 3 ["self", "x"] (spOf a decScore) := by
  refine F.ok scRoom_score bdRoom_score (fun vs H Q E h => ?_) (fun f cdv A outer s H vs Q E hr h => ?_)
  · obtain ⟨q, r, s, c, rest, rfl, ⟨x, rfl, rfl⟩, _⟩ := h
    rfl
  · obtain ⟨q, r, s, c, rest, rfl, ⟨x, rfl, rfl⟩, hq, hR1, hw, hk⟩ := h
    obtain ⟨dx, pr, pl, dd, ps, hR, ⟨du, hu⟩, h3, h4, h5, h6, hT⟩ := id hR1
    refine ⟨_, pss_cons (ps_if (pt_not (pt_val (pm T.clRoom Mt hr (pv 0) (pa_cons (pv 1) pa_nil)))) (pss_one (ps_ret (pe_lst (pa_cons (pk T.kOUT_OF_RANGE) pa_nil)))) pss_nil)
      (pss_cons (ps_set (i := 2) scRoom_score.nd rfl (Or.inl rfl) (pe_ix ix_list (pe_fld (pv 0) rfl) (pv 1) (fun _ _ => rfl)))
      (pss_cons (ps_set (i := 3) scRoom_score.nd rfl (Or.inl rfl) (pe_ifExp (pt_val (pe_fld (pv 2) rfl)) pe_int pe_int))
      (pss_one (ps_ret (pe_lst (pa_cons (pv 3) (pa_cons (pe_fld (pv 2) rfl) (pa_cons (pm T.clRecord Ms hr (pv 2) (pa_cons (pe_fld (pe_fld (pv 0) rfl) rfl) pa_nil)) (pa_cons (pm0 T.clRecord Mc hr (pv 2)) pa_nil))))))))), ?_⟩
    dsimp only [cxOf, Cx.nox]
    refine ⟨_, rfl, r, dx, _, rfl, hR, rfl, _, rfl, q, r, s, x, rfl, hR1, _, rfl, ?_⟩
    refine ite2 (fun e => ?_) fun e => ?_
    · refine ⟨(by show 1 ≤ sizeLine; decide), fun p hp => ?_⟩
      exact hk.same D hq hR1 (Same.refl H) hp (ans := .refused (-1)) ((step_score _ _).trans (ask_no (by simpa using e))) rfl
    · have e : isTest s x = true := by simpa using e
      obtain ⟨x, rfl, hx, ea⟩ := ask_yes e
      obtain ⟨pc, hpc, hrc⟩ := paired_get h6 (test_get hx)
      obtain ⟨dc, lc, ec, _⟩ := id hrc
      have hpc' : (ps.map V.ref)[x]? = some (V.ref pc) := by rw [List.getElem?_map, hpc]; rfl
      refine ⟨_, rfl, r, a.cRoom, dx, _, _, rfl, hR, T.clRoom, T.nRoom_records, rfl, _, rfl, pl, _, _, _, rfl, rfl, SqL.of h4, at_of (j := x) (v := V.ref pc) rfl hpc', ?_⟩
      refine ⟨_, rfl, pc, a.cRecord, dc, _, _, rfl, ec, T.clRecord, T.nRecord_quarantined, rfl, _, rfl, ite_bit ?_⟩
      refine ⟨_, rfl, _, rfl, pc, a.cRecord, dc, _, _, rfl, ec, T.clRecord, T.nRecord_count, rfl, ?_⟩
      refine ⟨_, rfl, pc, dc, _, rfl, ec, rfl, _, rfl, r, a.cRoom, dx, _, _, rfl, hR, T.clRoom, T.nRoom_rules, rfl, pr, a.cRules, du, _, _, rfl, hu, T.clRules, T.nRules_window, rfl, ?_⟩
      refine ⟨q, pc, s.test x, s.policy.window, rfl, hrc, fun H1 s1 => ?_⟩
      refine ⟨_, rfl, pc, dc, _, rfl, s1 _ _ ec, rfl, q, pc, s.test x, rfl, hrc.same D s1, fun H2 s2 => ?_⟩
      refine ⟨(by show 4 ≤ sizeLine; decide), fun l hl => ?_⟩
      refine hk.same D hq hR1 (s1.trans s2) hl (ans := .told [Vamrqj.bit (s.test x).held, ((s.test x).since : Int), (Vamrqj.score s.policy (s.test x) : Int), (Vamrqj.calmRuns (s.test x) : Int)]) ?_ rfl
      rw [step_score]
      rw [ea]

/-! ### held -/
def decHeld : Hp → List V → Vamrqj.Call → Prop := fun _ rest c => rest = [] ∧ c = .held
theorem okRoom_held (F : MFun K a.cRoom "held" "Room.held" sRoom_held) (T : Txt K mg a) (D : Dif a) : MOk P w K mg base a.cRoom "held" 1 ["self"] (spOf a decHeld) := by
  refine F.ok scRoom_held bdRoom_held (fun vs H Q E h => ?_) (fun f cdv A outer s H vs Q E hr h => ?_)
  · obtain ⟨q, r, s, c, rest, rfl, ⟨rfl, rfl⟩, _⟩ := h
    rfl
  · obtain ⟨q, r, s, c, rest, rfl, ⟨rfl, rfl⟩, hq, hR1, hw, hk⟩ := h
    obtain ⟨dx, pr, pl, dd, ps, hR, hu, h3, h4, h5, h6, hT⟩ := id hR1
    refine ⟨_, pss_cons (ps_setLc rfl scRoom_held.nd (i := 1) rfl rfl rfl (own := [("x", 2), ("record", 3)]) (pi_enum (by rfl) T.benumerate (pa_cons (pe_fld (pv 0) rfl) pa_nil)) (blkOk_by (by rfl))
        (fun s H C cl fp => pg_pair K (i := 2) (j := 3) rfl scRoom_held.nd rfl rfl (Or.inl rfl) (Or.inl rfl)) (fun s H C cl fp => pts_one (pt_val (pe_fldK K (pv 3) rfl))) (fun s H C cl fp => pv 2))
      (pss_one (ps_ret (pe_op op_cat (pe_lst (pa_cons (pe_callB call_len_seq (by rfl) T.blen PySem.boot_len (pa_cons (pv 1) pa_nil)) pa_nil)) (pv 1)))), ?_⟩
    dsimp only [cxOf, Cx.nox]
    refine ⟨_, rfl, r, a.cRoom, dx, _, _, rfl, hR, T.clRoom, T.nRoom_records, rfl, pl, _, rfl, SqL.of h4, fun e1 he1 => ?_⟩
    have hlen : (ps.map V.ref).length = s.tests.length := by rw [List.length_map, paired_len h6]
    have few := hw.few
    have hfl : ∀ i, i ≤ s.tests.length → ((List.range i).filter fun x => (s.test x).held).length ≤ 12 := fun i hi => by
      have := List.length_filter_le (fun x => (s.test x).held) (List.range i)
      rw [List.length_range] at this
      omega
    refine lc_enum (K := K) (a := pl) (xs := ps.map V.ref) (fun j H' => j ≤ s.tests.length ∧ H' e1 = some (.lst (natV ((List.range j).filter fun x => (s.test x).held))) ∧ Same H H') ⟨Nat.zero_le _, upd_same, same_new he1⟩ (fun j H' _ ⟨_, _, s8⟩ => SqL.of (s8 _ _ h4)) ?_ ?_
    · rintro j y t H' g1 ht ⟨hj, h8, s8⟩
      obtain ⟨pc, hpc, rfl⟩ := getElem?_map_ref g1
      obtain ⟨u, hu', hrc⟩ := paired_get' h6 hpc
      have hjl : j < s.tests.length := (List.getElem?_eq_some_iff.mp hu').1
      have eu : u = s.test j := by
        have := test_get hjl
        rw [hu'] at this
        exact Option.some.inj this
      subst eu
      obtain ⟨dc, lc, ec, _⟩ := id hrc
      have s9 := s8.trans (same_new (o := .tup [.int (j : Nat), .ref pc]) ht)
      have n3 : t ≠ e1 := fun z => by rw [z, h8] at ht; cases ht
      refine ⟨t, _, rfl, SqT.of upd_same, rfl, _, _, rfl, _, _, rfl, rfl, rfl, ?_⟩
      refine ⟨_, rfl, pc, a.cRecord, dc, _, _, rfl, s9 _ _ ec, T.clRecord, T.nRecord_quarantined, rfl, _, rfl, ?_⟩
      have h9 : upd H' t (.tup [.int (j : Nat), .ref pc]) e1 = some (.lst (natV ((List.range j).filter fun x => (s.test x).held))) := by rw [upd_ne (Ne.symm n3)]; exact h8
      refine ite2 (fun h => ?_) fun h => ?_
      · refine ⟨_, rfl, _, h9, ?_, hjl, ?_, fun b o e => ?_⟩
        · rw [natV_len]
          exact Nat.lt_of_le_of_lt (hfl j hj) (by decide)
        · rw [upd_same, List.range_succ, List.filter_append, natV_append]
          have : List.filter (fun x => (s.test x).held) [j] = [j] := by rw [List.filter_cons, if_pos h]; rfl
          rw [this]
          rfl
        · rw [upd_ne (ne_of_none e he1)]
          exact s9 _ _ e
      · refine ⟨hjl, ?_, s9⟩
        rw [h9, List.range_succ, List.filter_append]
        have : List.filter (fun x => (s.test x).held) [j] = [] := by rw [List.filter_cons, if_neg h]; rfl
        rw [this, List.append_nil]
    · rintro H' ⟨_, h8, s8⟩
      rw [hlen] at h8
      have hl8 := hfl s.tests.length (Nat.le_refl _)
      refine ⟨_, rfl, e1, _, rfl, .inl (SqL.of h8), (by show 1 ≤ sizeLine; decide), fun l1 hl1 => ?_⟩
      refine ⟨_, rfl, l1, e1, _, _, rfl, rfl, upd_same, same_new hl1 _ _ h8, ?_, fun l hl => ?_⟩
      · rw [natV_len]
        exact Nat.le_trans (Nat.add_le_add_left hl8 1) (by decide)
      refine hk.same D hq hR1 (s8.trans (same_new hl1)) hl (ans := .told (Vamrqj.listed ((List.range s.tests.length).filter fun x => (s.test x).held))) rfl ?_
      rw [natV_len]
      simp [VamrqjNeutral.encode, Vamrqj.listed, natV]

/-! ### hold -/
def decHold : Hp → List V → Vamrqj.Call → Prop := fun _ rest c => ∃ x on : Int, rest = [.int x, .int on] ∧ c = .hold x on
theorem okRoom_hold (F : MFun K a.cRoom "hold" "Room.hold" sRoom_hold) (T : Txt K mg a) (D : Dif a) (Mt : MOk P w K mg base a.cRoom "is_test" 1 ["self", "x"] (spRoom_is_test a))
    (Mm : MOk P w K mg base a.cRecord "move" 1 ["self", "quarantined"] (spRecord_move a)) : MOk P w K mg base a.cRoom "hold" 2 ["self", "x", "on"] (spOf a decHold) := by
  refine F.ok scRoom_hold bdRoom_hold (fun vs H Q E h => ?_) (fun f cdv A outer s H vs Q E hr h => ?_)
  · obtain ⟨q, r, s, c, rest, rfl, ⟨x, on, rfl, rfl⟩, _⟩ := h
    rfl
  · obtain ⟨q, r, s, c, rest, rfl, ⟨x, on, rfl, rfl⟩, hq, hR1, hw, hk⟩ := h
    obtain ⟨dx, pr, pl, dd, ps, hR, hu, h3, h4, h5, h6, hT⟩ := id hR1
    refine ⟨_, pss_cons (ps_if (PW.pt (pw_or (pt_not (pt_val (pm T.clRoom Mt hr (pv 0) (pa_cons (pv 1) pa_nil)))) (pw_or1 (pt_not (pt_chain op_le op_le pe_int (pv 2) pe_int))))) (pss_one (ps_ret (pe_lst (pa_cons (pk T.kOUT_OF_RANGE) pa_nil)))) pss_nil)
      (pss_cons (ps_set (i := 3) scRoom_hold.nd rfl (Or.inl rfl) (pe_cmp (pc_eqI (pv 2) pe_int)))
      (pss_cons (ps_if (pt_cmpR op_eq (pe_fld (pe_ix ix_list (pe_fld (pv 0) rfl) (pv 1) (fun _ _ => rfl)) rfl) (pv 3) (nomark _)) (pss_one (ps_ret (pe_lst (pa_cons pe_int pa_nil)))) pss_nil)
      (pss_cons (ps_expr (pm T.clRecord Mm hr (pe_ix ix_list (pe_fld (pv 0) rfl) (pv 1) (fun _ _ => rfl)) (pa_cons (pv 3) pa_nil)))
      (pss_one (ps_ret (pe_lst (pa_cons pe_int pa_nil))))))), ?_⟩
    dsimp only [cxOf, Cx.nox]
    refine ⟨_, rfl, r, dx, _, rfl, hR, rfl, _, rfl, q, r, s, x, rfl, hR1, _, rfl, ?_⟩
    refine ite2 (fun e => ?_) fun e => ?_
    · refine iteT ⟨(by show 1 ≤ sizeLine; decide), fun p hp => ?_⟩
      exact hk.same D hq hR1 (Same.refl H) hp (ans := .refused (-1)) ((step_hold _ _ _).trans (ask_no (by simpa using e))) rfl
    · have e : isTest s x = true := by simpa using e
      obtain ⟨x, rfl, hx, ea⟩ := ask_yes e
      refine rd_le2 (i := 0) (j := on) (k := 1) Rds.c (Rds.v rfl) Rds.c ?_
      refine ite2 (fun e => ?_) fun e => ?_
      · refine ⟨(by show 1 ≤ sizeLine; decide), fun p hp => ?_⟩
        refine hk.same D hq hR1 (Same.refl H) hp (ans := .refused (-1)) ?_ rfl
        rw [step_hold]
        rw [ea, if_pos]
        simp at e
        omega
      · have e : 0 ≤ on ∧ on ≤ 1 := by simpa using e
        have est : Vamrqj.step s (.hold x on) = (if (s.test x).held = decide (on = 1) then (s, .told [0]) else (⟨s.policy, s.oracle, s.tests.set x ⟨(s.test x).runs, decide (on = 1), 0⟩⟩, .told [1])) := by
          rw [step_hold]
          rw [ea, if_neg (by omega)]
        obtain ⟨pc, hpc, hrc⟩ := paired_get h6 (test_get hx)
        obtain ⟨dc, lc, ec, _⟩ := id hrc
        have hpc' : (ps.map V.ref)[x]? = some (V.ref pc) := by rw [List.getElem?_map, hpc]; rfl
        refine ⟨_, rfl, _, _, rfl, rfl, ?_⟩
        refine ⟨_, rfl, r, a.cRoom, dx, _, _, rfl, hR, T.clRoom, T.nRoom_records, rfl, _, rfl, pl, _, _, _, rfl, rfl, SqL.of h4, at_of (j := x) (v := V.ref pc) rfl hpc', ?_⟩
        refine ⟨pc, a.cRecord, dc, _, _, rfl, ec, T.clRecord, T.nRecord_quarantined, rfl, _, rfl, rfl, _, rfl, ?_⟩
        rw [dec_bl]
        refine ite2 (fun h => ?_) fun h => ?_
        · have h := eq_of_beq h
          refine ⟨(by show 1 ≤ sizeLine; decide), fun p hp => ?_⟩
          refine hk.same D hq hR1 (Same.refl H) hp (ans := .told [0]) ?_ rfl
          rw [est, if_pos h]
        · have h : ¬ (s.test x).held = decide (on = 1) := fun z => h (by rw [z]; exact beq_self_eq_true _)
          refine ⟨_, rfl, r, a.cRoom, dx, _, _, rfl, hR, T.clRoom, T.nRoom_records, rfl, _, rfl, pl, _, _, _, rfl, rfl, SqL.of h4, at_of (j := x) (v := V.ref pc) rfl hpc', ?_⟩
          refine ⟨pc, dc, _, rfl, ec, rfl, _, rfl, q, pc, s.test x, decide (on = 1), rfl, hrc, fun H1 hrec b1 => ?_⟩
          have f1 := Frm.but (a := a) b1 hrc.frm'
          have hroom := RoomAt.record D hR hu h3 h4 h5 h6 hT hpc hrec b1 hx
          obtain ⟨d3, l3, e3, _⟩ := id hrec
          refine ⟨(by show 1 ≤ sizeLine; decide), fun p hp => ?_⟩
          have s2 : Same H1 _ := same_new (o := .lst [.int 1]) hp
          refine hk p _ ?_ ?_ (f1.trans (Frm.same s2)) (fun z => (Grw.but b1 e3).q hq p z hp)
          · rw [est, if_neg h]
            exact hroom.same D s2
          · rw [est, if_neg h, upd_same]
            rfl
end TR
end
-- TRRoom6
section
set_option Elab.async false
set_option linter.all false
set_option maxRecDepth 100000
set_option maxHeartbeats 2000000
namespace TR
open PySem PySem.Spec PyProof.Rows L2
variable {P : Program} {w : World} {K : PySem.W.Frag} {mg : Str → Option Value} {base : Heap} {a : Cs}

/-! ### all tests run, one after the other -/
theorem ranAll_snoc {v : Nat} : ∀ (l : List Nat) (s : Vamrqj.State) (x : Nat), s.ranAll v (l ++ [x]) = (s.ranAll v l).ran x v
  | [], _, _ => rfl
  | y :: l, s, x => ranAll_snoc l (s.ran y v) x
theorem ranAll_pol {v : Nat} : ∀ (l : List Nat) (s : Vamrqj.State), (s.ranAll v l).policy = s.policy ∧ (s.ranAll v l).oracle = s.oracle ∧ (s.ranAll v l).tests.length = s.tests.length
  | [], _ => ⟨rfl, rfl, rfl⟩
  | y :: l, s => by
    obtain ⟨h1, h2, h3⟩ := ranAll_pol (v := v) l (s.ran y v)
    exact ⟨h1, h2, h3.trans (len_ran s y v)⟩
theorem ranAll_test {v : Nat} : ∀ (l : List Nat) (s : Vamrqj.State) (x : Nat), x ∉ l → (s.ranAll v l).test x = s.test x
  | [], _, _, _ => rfl
  | y :: l, s, x, h => by
    have h1 := ranAll_test (v := v) l (s.ran y v) x fun z => h (List.mem_cons_of_mem _ z)
    refine h1.trans ?_
    exact getD_set_ne fun z => h (by rw [z]; exact List.mem_cons_self)
/-- the first i tests that failed: out of quarantine before (b is false), or in it -/
def failP (s : Vamrqj.State) (v : Nat) (b : Bool) (i : Nat) : List Nat := (List.range i).filter fun x => ((s.test x).held == b) && !(Vamrqj.runOf s.policy s.oracle x v).passed
def triesP (s : Vamrqj.State) (v : Nat) (i : Nat) : Nat := ((List.range i).map fun x => (Vamrqj.runOf s.policy s.oracle x v).tries).sum
theorem triesP_succ (s : Vamrqj.State) (v i : Nat) : triesP s v (i + 1) = triesP s v i + (Vamrqj.runOf s.policy s.oracle i v).tries := by
  unfold triesP
  rw [List.range_succ, List.map_append, List.sum_append]
  simp
theorem failP_yes {s : Vamrqj.State} {v i : Nat} {b : Bool} (h1 : (s.test i).held = b) (h2 : (Vamrqj.runOf s.policy s.oracle i v).passed = false) : failP s v b (i + 1) = failP s v b i ++ [i] := by
  unfold failP
  rw [List.range_succ, List.filter_append]
  congr 1
  rw [List.filter_cons, if_pos (by rw [h1, h2]; simp)]
  rfl
theorem failP_no {s : Vamrqj.State} {v i : Nat} {b : Bool} (h : (s.test i).held ≠ b ∨ (Vamrqj.runOf s.policy s.oracle i v).passed = true) : failP s v b (i + 1) = failP s v b i := by
  unfold failP
  rw [List.range_succ, List.filter_append]
  have : List.filter (fun x => ((s.test x).held == b) && !(Vamrqj.runOf s.policy s.oracle x v).passed) [i] = [] := by
    rw [List.filter_cons, if_neg]
    · rfl
    · intro z
      rw [Bool.and_eq_true, beq_iff_eq] at z
      rcases h with h | h
      · exact h z.1
      · rw [h] at z
        exact absurd z.2 (by decide)
  rw [this, List.append_nil]
theorem failP_len (s : Vamrqj.State) (v : Nat) (b : Bool) (i : Nat) : (failP s v b i).length ≤ i := by
  have := List.length_filter_le (fun x => ((s.test x).held == b) && !(Vamrqj.runOf s.policy s.oracle x v).passed) (List.range i)
  rw [List.length_range] at this
  exact this

/-! ### more places that no list of the room has -/
section
variable {q q' : Addr → Prop} {H : Hp}
theorem RecAt.more {p : Addr} {t : Vamrqj.Test} (h : RecAt a q H p t) (m : ∀ x, q' x → q x ∨ H x = none) : RecAt a q' H p t := by
  obtain ⟨dx, l, h1, n, z, us, h2, h3⟩ := h
  refine ⟨dx, l, h1, fun y => ?_, z, us, h2, h3⟩
  rcases m l y with y | y
  · exact n y
  · rw [h2] at y
    cases y
theorem Said.more {kvs : List (List Key × V)} {o : Vamrqj.Oracle} (h : Said q H kvs o) (m : ∀ x, q' x → q x ∨ H x = none) : Said q' H kvs o := fun x v => by
  have := h x v
  split
  · rename_i e
    rw [e] at this
    exact this
  · rename_i t e
    rw [e] at this
    obtain ⟨p, h1, h2, h3⟩ := this
    refine ⟨p, h1, fun y => ?_, h3⟩
    rcases m p y with y | y
    · exact h2 y
    · rw [h3] at y
      cases y
theorem RoomAt.more {r : Addr} {s : Vamrqj.State} (h : RoomAt a q H r s) (m : ∀ x, q' x → q x ∨ H x = none) : RoomAt a q' H r s := by
  obtain ⟨dx, pr, pl, pd, ps, h1, h2, h3, h4, h5, h6, kvs, h7, h8, h9⟩ := h
  refine ⟨dx, pr, pl, pd, ps, h1, h2, fun y => ?_, h4, h5, paired_imp h6 fun p t x => x.more m, kvs, h7, h8, h9.more m⟩
  rcases m pl y with y | y
  · exact h3 y
  · rw [h4] at y
    cases y
end

/-! ### check -/
def decCheck : Hp → List V → Vamrqj.Call → Prop := fun _ rest c => ∃ v : Int, rest = [.int v] ∧ c = .check v
theorem okRoom_check (F : MFun K a.cRoom "check" "Room.check" sRoom_check) (T : Txt K mg a) (D : Dif a) (G : DOk P w K mg base "is_revision" 1 ["v"] spis_revision)
    (Mk : MOk P w K mg base a.cRoom "kept_run_at" 5 ["self", "x", "v"] (spRoom_kept_run_at a)) : MOk P w K mg base a.cRoom "check" 6 ["self", "v"] (spOf a decCheck) := by
  refine F.ok scRoom_check bdRoom_check (fun vs H Q E h => ?_) (fun f cdv A outer s H vs Q E hr h => ?_)
  · obtain ⟨q, r, s, c, rest, rfl, ⟨v, rfl, rfl⟩, _⟩ := h
    rfl
  · obtain ⟨q, r, s, c, rest, rfl, ⟨v, rfl, rfl⟩, hq, hR1, hw, hk⟩ := h
    obtain ⟨dx, pr, pl, dd, ps, hR, hu, h3, h4, h5, h6, hT⟩ := id hR1
    refine ⟨_, pss_cons (ps_if (pt_not (pt_val (pd G hr (pa_cons (pv 1) pa_nil)))) (pss_one (ps_ret (pe_lst (pa_cons (pk T.kOUT_OF_RANGE) pa_nil)))) pss_nil)
      (pss_cons (ps_set (i := 2) scRoom_check.nd rfl (Or.inl rfl) pe_int)
      (pss_cons (ps_set (i := 3) scRoom_check.nd rfl (Or.inl rfl) (pe_lst pa_nil))
      (pss_cons (ps_set (i := 4) scRoom_check.nd rfl (Or.inl rfl) (pe_lst pa_nil))
      (pss_cons (ps_for PassesOwn.never rfl (pi_range1 (by rfl) T.brange (pa_cons (pe_callB call_len_seq (by rfl) T.blen PySem.boot_len (pa_cons (pe_fld (pv 0) rfl) pa_nil)) pa_nil)) (pg_name (i := 5) scRoom_check.nd rfl (Or.inl rfl))
        (pss_cons (ps_set (i := 7) scRoom_check.nd rfl (Or.inl rfl) (pe_fld (pe_ix ix_list (pe_fld (pv 0) rfl) (pv 5) (fun _ _ => rfl)) rfl))
        (pss_cons (ps_set (i := 8) scRoom_check.nd rfl (Or.inl rfl) (pm T.clRoom Mk hr (pv 0) (pa_cons (pv 5) (pa_cons (pv 1) pa_nil))))
        (pss_cons (ps_aug (i := 2) scRoom_check.nd rfl (Or.inl rfl) (pe_fld (pv 8) rfl) ip_add)
        (pss_one (ps_if (PW.pt (pw_and (pt_not (pt_val (pe_fld (pv 8) rfl))) (pw_and1 (pt_val (pv 7)))))
          (pss_one (ps_expr (pe_bm PySem.F.plainAttrs_list PySem.F.slot_list_append PySem.F.type_list_append mt_append (pv 4) (pa_cons (pv 5) pa_nil))))
          (pss_one (ps_if (pt_not (pt_val (pe_fld (pv 8) rfl)))
            (pss_one (ps_expr (pe_bm PySem.F.plainAttrs_list PySem.F.slot_list_append PySem.F.type_list_append mt_append (pv 3) (pa_cons (pv 5) pa_nil)))) pss_nil))))))))
      (pss_cons (ps_set (i := 6) scRoom_check.nd rfl (Or.inl rfl) (pe_ifExp (pt_truth (pv 3) (fun _ => rfl)) pe_int pe_int))
      (pss_one (ps_ret (pe_op op_cat (pe_op op_cat (pe_op op_cat (pe_lst (pa_cons (pv 6) (pa_cons (pv 2) (pa_cons (pe_callB call_len_seq (by rfl) T.blen PySem.boot_len (pa_cons (pv 3) pa_nil)) pa_nil)))) (pv 3))
        (pe_lst (pa_cons (pe_callB call_len_seq (by rfl) T.blen PySem.boot_len (pa_cons (pv 4) pa_nil)) pa_nil))) (pv 4))))))))), ?_⟩
    dsimp only [cxOf, Cx.nox]
    refine seq_gen fun N hN => ?_
    refine ⟨_, rfl, v, rfl, _, rfl, ?_⟩
    refine ite2 (fun e => ?_) fun e => ?_
    · refine ⟨(by show 1 ≤ sizeLine; decide), fun p hp => ?_⟩
      refine hk.same D hq hR1 (Same.refl H) hp (ans := .refused (-1)) ?_ rfl
      show Vamrqj.checking s v = _
      unfold Vamrqj.checking
      rw [if_pos]
      simp at e
      omega
    · have e : 0 ≤ v ∧ v ≤ 999 := by simpa using e
      obtain ⟨v, rfl⟩ : ∃ j : Nat, v = (j : Int) := ⟨v.toNat, by omega⟩
      have est : Vamrqj.step s (.check v) = (s.ranAll v (List.range s.tests.length), .told ([Vamrqj.bit (failP s v false s.tests.length).isEmpty, (triesP s v s.tests.length : Int)] ++ Vamrqj.listed (failP s v false s.tests.length) ++ Vamrqj.listed (failP s v true s.tests.length))) := by
        show Vamrqj.checking s v = _
        unfold Vamrqj.checking
        rw [if_neg (by omega), Int.toNat_natCast]
        unfold Vamrqj.tries
        rw [foldl_sum]
        rfl
      have few := hw.few
      refine hN _ _ (seq_gen fun N hN => hN _ _ (seq_gen fun N hN => ?_))
      refine ⟨Nat.zero_le _, fun ls hls => ?_⟩
      refine hN _ _ (seq_gen fun N hN => ?_)
      refine ⟨Nat.zero_le _, fun lp hlp => ?_⟩
      refine hN _ _ (seq_gen fun N hN => ?_)
      have nsp : ls ≠ lp := fun z => by rw [← z, upd_same] at hlp; cases hlp
      have s1 : Same H (upd H ls (.lst [])) := same_new hls
      have s2 := s1.trans (same_new (o := .lst []) hlp)
      have hlp0 : H lp = none := s1.free hlp
      have hlen : (ps.map V.ref).length = s.tests.length := by rw [List.length_map, paired_len h6]
      have hl100 : (ps.map V.ref).length ≤ 100 := by rw [hlen]; exact Nat.le_trans few (by decide)
      refine ⟨_, rfl, r, a.cRoom, dx, _, _, rfl, s2 _ _ hR, T.clRoom, T.nRoom_records, rfl, pl, _, rfl, .inl (SqL.of (s2 _ _ h4)), _, rfl, (sm62 hl100).1, (sm62 hl100).2, ?_⟩
      obtain ⟨Pv, p1, p2⟩ := name2 (fun i σ H' => ∃ v5 v7 v8 : Option V, σ = [some (.ref r), some (.int (v : Int)), some (.int (triesP s v i : Int)), some (.ref ls), some (.ref lp), v5, none, v7, v8] ∧
        H' ls = some (.lst (natV (failP s v false i))) ∧ H' lp = some (.lst (natV (failP s v true i))) ∧ RoomAt a (fun x => q x ∨ x = ls ∨ x = lp) H' r (s.ranAll v (List.range i)) ∧ Frm a H H' ∧ Grw H H')
      refine for_upto (n := s.tests.length) (by rw [hlen]) Pv (p2 _ _ _ ⟨none, none, none, rfl, by rw [upd_ne nsp, upd_same]; rfl, upd_same, ?_, Frm.same s2, Grw.same s2⟩) ?_ ?_
      · refine (RoomAt.more hR1 fun x hx => ?_).same D s2
        rcases hx with hx | rfl | rfl
        · exact .inl hx
        · exact .inr hls
        · exact .inr hlp0
      · intro i σ H1 hi pv
        obtain ⟨v5, v7, v8, rfl, g1, g2, g3, g4, g5⟩ := p1 _ _ _ pv
        have p2 := p2 (i + 1)
        clear p1 pv
        obtain ⟨t1, t2, t3⟩ := ranAll_pol (v := v) (List.range i) s
        have t4 : (s.ranAll v (List.range i)).test i = s.test i := ranAll_test _ _ _ (by simp)
        have t5 := wf_ranAll (v := v) (List.range i) hw
        have t6 : s.ranAll v (List.range (i + 1)) = (s.ranAll v (List.range i)).ran i v := by rw [List.range_succ, ranAll_snoc]
        have hi' : i < (s.ranAll v (List.range i)).tests.length := by rw [t3]; exact hi
        obtain ⟨dy, py, ly, ty, us, pc, y1, _, y2, y3, hrec⟩ := RoomAt.rec g3 hi'
        rw [t4] at hrec
        obtain ⟨dc, lc, y4, _⟩ := hrec
        -- quarantined_before
        refine seq_gen fun N hN => ?_
        refine ⟨_, rfl, r, a.cRoom, dy, _, _, rfl, y1, T.clRoom, T.nRoom_records, rfl, _, rfl, ly, _, _, _, rfl, rfl, SqL.of y2, at_of (j := i) (v := V.ref pc) rfl y3, ?_⟩
        refine ⟨pc, a.cRecord, dc, _, _, rfl, y4, T.clRecord, T.nRecord_quarantined, rfl, ?_⟩
        refine hN _ _ (seq_gen fun N hN => ?_)
        -- made
        have hq1 : ∀ x, (q x ∨ x = ls ∨ x = lp) → H1 x ≠ none := fun x hx => by
          rcases hx with hx | rfl | rfl
          · exact g5.q hq x hx
          · rw [g1]; exact fun z => nomatch z
          · rw [g2]; exact fun z => nomatch z
        refine ⟨_, rfl, r, dy, _, rfl, y1, rfl, _, rfl, _, rfl, _, r, _, i, v, rfl, hq1, g3, t5, hi', fun p H2 f2 w2 hroom hrun => ?_⟩
        rw [t1, t2] at hrun
        obtain ⟨dp, hp⟩ := id hrun
        -- tries
        refine hN _ _ (seq_gen fun N hN => ?_)
        refine ⟨_, rfl, _, rfl, p, a.cRun, dp, _, _, rfl, hp, T.clRun, T.nRun_tries, rfl, _, _, rfl, rfl, ?_⟩
        have etr : (triesP s v i : Int) + ((Vamrqj.runOf s.policy s.oracle i v).tries : Int) = (triesP s v (i + 1) : Int) := by rw [triesP_succ]; omega
        have h1 := f2 _ _ g1 trivial
        have h2 := f2 _ _ g2 trivial
        have hl1 := failP_len s v false i
        have hl2 := failP_len s v true i
        have hbig : 100 ≤ sizeLine := by decide
        rw [← t6] at hroom
        have add : ∀ (l : Addr) (xs : List V), H2 l = some (.lst xs) → (l = ls ∨ l = lp) → ∀ o, RoomAt a (fun x => q x ∨ x = ls ∨ x = lp) (upd H2 l o) r (s.ranAll v (List.range (i + 1))) ∧ Frm a H (upd H2 l o) ∧ Grw H (upd H2 l o) := fun l xs hl hx o => by
          have hn : H l = none := by
            rcases hx with rfl | rfl
            · exact hls
            · exact hlp0
          refine ⟨hroom.out (q0 := l) (.inr hx) hl But.upd, fun b o' e z => ?_, (g5.trans w2).trans (Grw.but But.upd upd_same)⟩
          rw [upd_ne (ne_of_none e hn)]
          exact (g4.trans f2) b o' e z
        refine hN _ _ ?_
        refine ⟨_, rfl, p, a.cRun, dp, _, _, rfl, hp, T.clRun, T.nRun_passed, rfl, _, rfl, ?_⟩
        cases hpass : (Vamrqj.runOf s.policy s.oracle i v).passed with
        | true =>
          refine iteF (iteF ?_)
          refine ⟨_, rfl, p, a.cRun, dp, _, _, rfl, hp, T.clRun, T.nRun_passed, rfl, _, rfl, ?_⟩
          show if (!(Vamrqj.runOf s.policy s.oracle i v).passed) = true then _ else _
          rw [hpass]
          refine iteF (p2 _ _ ⟨some (.int (i : Int)), some (.bl (s.test i).held), some (.ref p), by rw [← etr]; rfl, ?_, ?_, hroom, g4.trans f2, g5.trans w2⟩)
          · rw [failP_no (.inr hpass)]
            exact h1
          · rw [failP_no (.inr hpass)]
            exact h2
        | false =>
          refine iteT ⟨_, rfl, _, rfl, ?_⟩
          cases hheld : (s.test i).held with
          | true =>
            refine iteT ⟨_, rfl, .inl ⟨rfl, _, SqL.of h2⟩, _, rfl, lp, _, _, rfl, rfl, h2, by rw [natV_len]; exact Nat.lt_of_le_of_lt hl2 (Nat.lt_of_lt_of_le (Nat.lt_of_lt_of_le hi few) (by decide)), ?_⟩
            obtain ⟨k1, k2, k3⟩ := add lp _ h2 (.inr rfl) (.lst (natV (failP s v true i) ++ [.int (i : Int)]))
            refine p2 _ _ ⟨some (.int (i : Int)), some (.bl true), some (.ref p), by rw [← etr]; rfl, ?_, ?_, k1, k2, k3⟩
            · rw [failP_no (.inl (by rw [hheld]; decide)), upd_ne nsp]
              exact h1
            · rw [failP_yes hheld hpass, upd_same, natV_append]
              rfl
          | false =>
            refine iteF ?_
            refine ⟨_, rfl, p, a.cRun, dp, _, _, rfl, hp, T.clRun, T.nRun_passed, rfl, _, rfl, ?_⟩
            show if (!(Vamrqj.runOf s.policy s.oracle i v).passed) = true then _ else _
            rw [hpass]
            refine iteT ⟨_, rfl, .inl ⟨rfl, _, SqL.of h1⟩, _, rfl, ls, _, _, rfl, rfl, h1, by rw [natV_len]; exact Nat.lt_of_le_of_lt hl1 (Nat.lt_of_lt_of_le (Nat.lt_of_lt_of_le hi few) (by decide)), ?_⟩
            obtain ⟨k1, k2, k3⟩ := add ls _ h1 (.inl rfl) (.lst (natV (failP s v false i) ++ [.int (i : Int)]))
            refine p2 _ _ ⟨some (.int (i : Int)), some (.bl false), some (.ref p), by rw [← etr]; rfl, ?_, ?_, k1, k2, k3⟩
            · rw [failP_yes hheld hpass, upd_same, natV_append]
              rfl
            · rw [failP_no (.inl (by rw [hheld]; decide)), upd_ne (Ne.symm nsp)]
              exact h2
      · intro σ H1 pv
        obtain ⟨v5, v7, v8, rfl, g1, g2, g3, g4, g5⟩ := p1 _ _ _ pv
        clear p1 p2 pv
        refine hN _ _ (seq_gen fun N hN => ?_)
        have hl1 := failP_len s v false s.tests.length
        have hl2 := failP_len s v true s.tests.length
        have hbig : 100 ≤ sizeLine := by decide
        generalize hA : failP s v false s.tests.length = fa at *
        generalize hB : failP s v true s.tests.length = fb at *
        generalize hC : triesP s v s.tests.length = tr at *
        refine ⟨_, rfl, !(natV fa).isEmpty, .inl ⟨_, SqL.of g1, rfl⟩, ?_⟩
        have fin : ∀ b : Bool, Vamrqj.bit fa.isEmpty = Vamrqj.bit b → tRet (tOp rCat (tOp rCat (tOp rCat (tLst (tCons (tVar 6) (tCons (tVar 2) (tCons (tCB (fun xs H Q => ∃ p ys, xs = [V.ref p] ∧ (SqL K H p ys ∨ SqT K H p ys) ∧ Q (.int ys.length) H) (tCons (tVar 3) tNil)) tNil)))) (tVar 3))
            (tLst (tCons (tCB (fun xs H Q => ∃ p ys, xs = [V.ref p] ∧ (SqL K H p ys ∨ SqT K H p ys) ∧ Q (.int ys.length) H) (tCons (tVar 4) tNil)) tNil))) (tVar 4))
            { nx := fun _ H' => Q .non H', rt := Q } [some (.ref r), some (.int (v : Int)), some (.int (tr : Int)), some (.ref ls), some (.ref lp), v5, some (bitV b), v7, v8] H1 := fun b hb => by
          refine ⟨_, rfl, _, rfl, _, rfl, ls, _, rfl, .inl (SqL.of g1), (by show 3 ≤ sizeLine; decide), fun c1 hc1 => ?_⟩
          have s1 : Same H1 _ := same_new (o := .lst [bitV b, .int (tr : Int), .int ((natV fa).length : Int)]) hc1
          refine ⟨_, rfl, c1, ls, _, _, rfl, rfl, upd_same, s1 _ _ g1, ?_, fun c2 hc2 => ?_⟩
          · rw [natV_len]
            exact Nat.le_trans (Nat.le_trans (Nat.le_add_right _ (1 + 0)) (ar4 (Nat.le_trans hl1 few) (Nat.zero_le _))) hbig
          have s2 : Same (upd H1 c1 (.lst [bitV b, .int (tr : Int), .int ((natV fa).length : Int)])) _ := same_new (o := .lst ([bitV b, .int (tr : Int), .int ((natV fa).length : Int)] ++ natV fa)) hc2
          have s12 := s1.trans s2
          refine ⟨_, rfl, lp, _, rfl, .inl (SqL.of (s12 _ _ g2)), (by show 1 ≤ sizeLine; decide), fun c3 hc3 => ?_⟩
          have s3 : Same (upd (upd H1 c1 (.lst [bitV b, .int (tr : Int), .int ((natV fa).length : Int)])) c2 (.lst ([bitV b, .int (tr : Int), .int ((natV fa).length : Int)] ++ natV fa))) _ := same_new (o := .lst [.int ((natV fb).length : Int)]) hc3
          have s13 := s12.trans s3
          refine ⟨c2, c3, _, _, rfl, rfl, s3 _ _ upd_same, upd_same, ?_, fun c4 hc4 => ?_⟩
          · rw [List.length_append, natV_len]
            exact Nat.le_trans (ar4 (Nat.le_trans hl1 few) (Nat.zero_le _)) hbig
          have s4 : Same (upd (upd (upd H1 c1 (.lst [bitV b, .int (tr : Int), .int ((natV fa).length : Int)])) c2 (.lst ([bitV b, .int (tr : Int), .int ((natV fa).length : Int)] ++ natV fa))) c3 (.lst [.int ((natV fb).length : Int)])) _ := same_new (o := .lst (([bitV b, .int (tr : Int), .int ((natV fa).length : Int)] ++ natV fa) ++ [.int ((natV fb).length : Int)])) hc4
          have s14 := s13.trans s4
          refine ⟨_, rfl, c4, lp, _, _, rfl, rfl, upd_same, s14 _ _ g2, ?_, fun l hl => ?_⟩
          · rw [List.length_append, List.length_append, natV_len, natV_len]
            exact Nat.le_trans (ar4 (Nat.le_trans hl1 few) (Nat.le_trans hl2 few)) hbig
          have s15 := s14.trans (same_new (o := .lst ((([bitV b, .int (tr : Int), .int ((natV fa).length : Int)] ++ natV fa) ++ [.int ((natV fb).length : Int)]) ++ natV fb)) hl)
          refine hk l _ ?_ ?_ (g4.trans (Frm.same s15)) fun z => (g5.trans (Grw.same s14)).q hq l z hl
          · rw [est]
            have g3' := g3.more (q' := q) fun x hx => .inl (.inl hx)
            exact g3'.same D s15
          · rw [est, upd_same, natV_len, natV_len]
            simp [VamrqjNeutral.encode, Vamrqj.listed, natV, bitV, hb]
            rfl
        cases fa with
        | nil => exact iteF (hN _ _ (fin true rfl))
        | cons x xs => exact iteT (hN _ _ (fin false rfl))
end TR
end
-- TRHouse
section
set_option Elab.async false
set_option linter.all false
set_option maxRecDepth 100000
set_option maxHeartbeats 2000000
namespace TR
open PySem PySem.Spec PyProof.Rows L2
variable {P : Program} {w : World} {K : PySem.W.Frag} {mg : Str → Option Value} {base : Heap} {a : Cs}

/-! ### the list that is handed in -/
/-- the list at p is xs, and it isn't the one at q -/
def SqQ (q : Addr) (K : PySem.W.Frag) (H : Hp) (p : Addr) (xs : List V) : Prop := (p ≠ q ∧ Rd H p (.lst xs)) ∨
    ∃ (o : Obj) (its : Array Value) (n : Nat), K.lookup p = some o ∧ o.cls = .type "list" ∧ o.dict = none ∧ o.data = .seq its n ∧ its.size ≤ sizeLine ∧ Vals xs its.toList
theorem SqQ.sq {q p : Addr} {H : Hp} {xs : List V} (h : SqQ q K H p xs) : SqL K H p xs := by
  rcases h with ⟨_, h⟩ | h
  · exact .inl h
  · exact .inr h
theorem SqQ.new {q p : Addr} {H : Hp} {xs : List V} (h : SqL K H p xs) (hq : H q = none) : SqQ q K H p xs := by
  rcases h with h | h
  · refine .inl ⟨?_, h⟩
    rintro rfl
    rcases h with h | ⟨o, h⟩
    · rw [hq] at h; cases h
    · rw [hq] at h; cases h
  · exact .inr h
theorem SqQ.frm {q p : Addr} {H H' : Hp} {xs : List V} (h : SqQ q K H p xs) (f : Frm a H H') : SqQ q K H' p xs := by
  rcases h with ⟨n, h | ⟨o, h⟩⟩ | h
  · exact .inl ⟨n, .inl (f _ _ h trivial)⟩
  · exact .inl ⟨n, .inr ⟨o, f _ _ h trivial⟩⟩
  · exact .inr h
theorem SqQ.but {q p : Addr} {H H' : Hp} {xs : List V} (h : SqQ q K H p xs) (f : But q H H') : SqQ q K H' p xs := by
  rcases h with ⟨n, h | ⟨o, h⟩⟩ | h
  · exact .inl ⟨n, .inl (f _ _ h n)⟩
  · exact .inl ⟨n, .inr ⟨o, f _ _ h n⟩⟩
  · exact .inr h
theorem cut_mid (xs : List V) {m n : Nat} (hm : m ≤ n) (hn : n ≤ xs.length) : cutV xs (some (m : Int)) (some (n : Int)) = (xs.drop m).take (n - m) := by
  unfold cutV
  rw [HT.sIx_nat, HT.sIx_nat, Nat.min_eq_left hn, Nat.min_eq_left (Nat.le_trans hm hn)]
theorem enc_pos (k : Vamrqj.Call) : ∃ z r, enc k = z :: r := by
  cases k <;> exact ⟨_, _, rfl⟩

/-! ### the promises -/
def spend_of_call (K : PySem.W.Frag) : Sp := fun vs H Q _ => ∃ (p : Addr) (ns t : List Int) (i : Nat) (k : Vamrqj.Call), vs = [.ref p, .int (i : Int)] ∧ SqL K H p (ns.map V.int) ∧ ns.drop i = enc k ++ t ∧ Q (.int ((i + (enc k).length : Nat) : Int)) H
def spanswer_to_call (a : Cs) : Sp := fun vs H Q _ => ∃ (q : Addr → Prop) (r p : Addr) (s : Vamrqj.State) (k : Vamrqj.Call) (z : Int) (rest : List Int), vs = [.ref r, .int z, .ref p] ∧ enc k = z :: rest ∧ fits k ∧ H p = some (.lst (rest.map V.int)) ∧ (∀ x, q x → H x ≠ none) ∧
  RoomAt a q H r s ∧ Wf s ∧ Done a q H r s k Q
def spanswers (K : PySem.W.Frag) : Sp := fun vs H Q _ => ∃ (p : Addr) (ns : List Int), vs = [.ref p] ∧ SqL K H p (ns.map V.int) ∧ ns.length ≤ 17000 ∧ PyVamrqj.answers_asked ns = true ∧ ∀ (H' : Hp) (l : Addr), H' l = some (.lst ((PyVamrqj.answers ns).map V.int)) → Q (.ref l) H'
/-! ### end_of_call -/
def nums : Vamrqj.Call → Nat
  | .policy .. => 5
  | .tests .. => 1
  | .tell .. => 2
  | .outcome .. => 3
  | .dry .. => 2
  | .run .. => 2
  | .check .. => 1
  | .history .. => 1
  | .score .. => 1
  | .held => 0
  | .hold .. => 2
  | .odds .. => 2
theorem enc_facts {k : Vamrqj.Call} {z : Int} {rest : List Int} (h : enc k = z :: rest) : lookI dWHOLE_NUMBERS z = some (nums k : Int) ∧
    ((z = 2 ∧ (enc k).length = 4 + (rest.drop 3).length ∧ rest[2]? = some ((rest.drop 3).length : Int) ∧ nums k = 2) ∨ (z ≠ 2 ∧ (enc k).length = 1 + nums k)) := by
  cases k <;> injection h with h1 h2 <;> subst h1 h2 <;> refine ⟨rfl, ?_⟩
  case tell x v bits =>
    refine .inl ⟨rfl, ?_, rfl, rfl⟩
    simp [enc]
    omega
  all_goals exact .inr ⟨by decide, rfl⟩
theorem skip {i j : Int} {A B : Prop} (h : i ≠ j) (b : B) : if decide (i = j) = true then A else B := by
  rw [decide_eq_false h]
  exact iteF b
theorem take1 {i j : Int} {A B : Prop} (h : i = j) (b : A) : if decide (i = j) = true then A else B := by
  rw [decide_eq_true h]
  exact iteT b
theorem okend_of_call (F : DFun K mg "end_of_call" send_of_call) (T : Txt K mg a) (W : DictWHOLE_NUMBERS K mg) : DOk P w K mg base "end_of_call" 2 ["calls", "start"] (spend_of_call K) := by
  refine F.ok scend_of_call bdend_of_call (fun vs H Q E h => ?_) (fun f cdv A outer s H vs Q E hr h => ?_)
  · obtain ⟨p, ns, t, i, k, rfl, _⟩ := h
    rfl
  · obtain ⟨p, ns, t, i, k, rfl, hS, he, hk⟩ := h
    obtain ⟨d, hd, kd⟩ := W
    have kd := kd P w
    obtain ⟨z, rest, ez⟩ := enc_pos k
    obtain ⟨ef, ec⟩ := enc_facts ez
    have at0 : (ns.map V.int)[i]? = some (V.int z) := by
      have : (ns.drop i)[0]? = some z := by rw [he, ez]; rfl
      rw [List.getElem?_drop] at this
      rw [List.getElem?_map, show ns[i]? = some z from this]
      rfl
    refine ⟨_, pss_cons (ps_set (i := 2) scend_of_call.nd rfl (Or.inl rfl) (pe_ix ix_list (pv 0) (pv 1) (fun _ _ => rfl)))
      (pss_cons (ps_if (pt_cmp (pc_knotin (d := d) kd (pv 2) (pe_glob (by rfl) hd rfl))) (pss_one ps_never) pss_nil)
      (pss_cons (ps_set (i := 3) scend_of_call.nd rfl (Or.inl rfl) (pe_op op_add (pe_op op_add (pv 1) pe_int) (pe_kget (d := d) kd (pe_glob (by rfl) hd rfl) (pv 2) (fun _ _ => rfl))))
      (pss_cons (ps_if (pt_cmp (pc_eqI (pv 2) (pk T.kTELL))) (pss_one (ps_aug (i := 3) scend_of_call.nd rfl (Or.inl rfl) (pe_op op_add pe_int (pe_ix ix_list (pv 0) (pv 3) (fun _ _ => rfl))) ip_add)) pss_nil)
      (pss_one (ps_ret (pv 3)))))), ?_⟩
    dsimp only [cxOf, Cx.nox]
    refine ⟨_, rfl, _, rfl, p, _, _, _, rfl, rfl, hS, at_of (j := i) (v := V.int z) rfl at0, ?_⟩
    refine ⟨_, rfl, z, rfl, _, rfl, ?_⟩
    rw [ef]
    refine iteF ?_
    refine ⟨_, rfl, _, _, rfl, rfl, _, rfl, z, _, rfl, ef, _, _, rfl, rfl, ?_⟩
    refine ⟨_, rfl, _, _, rfl, rfl, _, rfl, ?_⟩
    rcases ec with ⟨e1, e2, e3, e4⟩ | ⟨e1, e2⟩
    · refine take1 e1 ?_
      have at3 : (ns.map V.int)[i + 3]? = some (V.int ((rest.drop 3).length : Int)) := by
        have : (ns.drop i)[3]? = some ((rest.drop 3).length : Int) := by
          have e5 : (z :: rest ++ t)[3]? = rest[2]? := by
            show (rest ++ t)[2]? = rest[2]?
            have : 2 < rest.length := by
              rcases Nat.lt_or_ge 2 rest.length with y | y
              · exact y
              · rw [List.getElem?_eq_none y] at e3
                cases e3
            rw [List.getElem?_append_left this]
          rw [he, ez, e5, e3]
        rw [List.getElem?_drop] at this
        rw [List.getElem?_map, this]
        rfl
      refine ⟨_, rfl, _, rfl, _, rfl, p, _, _, _, rfl, rfl, hS, at_of (j := i + 3) (v := V.int ((rest.drop 3).length : Int)) ?_ at3, _, _, rfl, rfl, _, _, rfl, rfl, _, rfl, ?_⟩
      · rw [e4]
        omega
      · rw [e2] at hk
        rw [e4]
        have : (((i : Int) + 1) + ((2 : Nat) : Int)) + (1 + ((rest.drop 3).length : Int)) = ((i + (4 + (rest.drop 3).length) : Nat) : Int) := by omega
        rw [← this] at hk
        exact hk
    · refine skip e1 ⟨_, rfl, ?_⟩
      rw [e2] at hk
      have : ((i : Int) + 1) + (nums k : Int) = ((i + (1 + nums k) : Nat) : Int) := by omega
      rw [← this] at hk
      exact hk
theorem okanswers {fa : Addr} {fd : FuncData} (F : Fun K "answers" "answers" sanswers fa fd) (T : Txt K mg a) (D : Dif a) (I : IOk P w K mg base a.cRoom "Room" 3 ["self"] (spRoom_init a)) (Ge : DOk P w K mg base "end_of_call" 2 ["calls", "start"] (spend_of_call K))
    (Ga : DOk P w K mg base "answer_to_call" 8 ["room", "kind", "numbers"] (spanswer_to_call a)) : FnOk P w K mg base CX0 10 fa fd ["calls"] (spanswers K) := by
  refine F.ok scanswers (fun vs H Q E h => ?_) (fun cdv A outer s H vs Q E hr h => ?_)
  · obtain ⟨p, ns, rfl, _⟩ := h
    rfl
  · obtain ⟨p, ns, rfl, hS, hlen, hask, hk⟩ := h
    refine ⟨_, pss_cons (ps_set (i := 1) scanswers.nd rfl (Or.inl rfl) (pmk0 I hr))
      (pss_cons (ps_set (i := 2) scanswers.nd rfl (Or.inl rfl) (pe_lst pa_nil))
      (pss_cons (ps_set (i := 3) scanswers.nd rfl (Or.inl rfl) pe_int)
      (pss_cons (ps_while PassesOwn.never (pt_cmp (pc_lt (pv 3) (pe_callB call_len_seq (by rfl) T.blen PySem.boot_len (pa_cons (pv 0) pa_nil))))
        (pss_cons (ps_set (i := 4) scanswers.nd rfl (Or.inl rfl) (pd Ge hr (pa_cons (pv 0) (pa_cons (pv 3) pa_nil))))
        (pss_cons (ps_set (i := 5) scanswers.nd rfl (Or.inl rfl) (pd Ga hr (pa_cons (pv 1) (pa_cons (pe_ix ix_list (pv 0) (pv 3) (fun _ _ => rfl)) (pa_cons (pe_slice sl_list (pv 0) (po_some (pe_op op_add (pv 3) pe_int)) (po_some (pv 4))) pa_nil)))))
        (pss_cons (ps_expr (pe_bm PySem.F.plainAttrs_list PySem.F.slot_list_append PySem.F.type_list_append mt_append (pv 2) (pa_cons (pe_callB call_len_seq (by rfl) T.blen PySem.boot_len (pa_cons (pv 5) pa_nil)) pa_nil)))
        (pss_cons (ps_expr (pe_bm PySem.F.plainAttrs_list PySem.F.slot_list_extend PySem.F.type_list_extend mt_extend (pv 2) (pa_cons (pv 5) pa_nil)))
        (pss_one (ps_set (i := 3) scanswers.nd rfl (Or.inl rfl) (pv 4))))))))
      (pss_one (ps_ret (pv 2)))))), ?_⟩
    dsimp only [cxOf, Cx.nox]
    -- room = Room()
    refine seq_gen fun N hN => ?_
    intro r d1 n1 m1 e1
    refine ⟨r, d1, rfl, upd_same, fun H1 hroom b1 => ⟨rfl, ?_⟩⟩
    refine hN _ _ (seq_gen fun N hN => ?_)
    have s1 : Same H H1 := Same.made n1 m1 b1
    -- answered = []
    refine ⟨Nat.zero_le _, fun q hq => ?_⟩
    have s2 : Same H1 (upd H1 q (.lst [])) := same_new hq
    have hR := (hroom (fun x => x = q) (fun x hx => by rw [hx]; exact hq)).same D s2
    have hS1 := (SqQ.new (s1.seq hS) hq).frm (Frm.same (a := a) s2)
    -- the loop
    refine hN _ _ (seq_gen fun N hN => hN _ _ (seq_gen fun N hN => ?_))
    obtain ⟨W, w1, w2⟩ := name2 (fun m σ H' => ∃ (i n : Nat) (s : Vamrqj.State) (out due : List Int) (v4 v5 : Option V), m = ns.length - i ∧ i ≤ ns.length ∧ n ≤ 400 ∧ out.length ≤ 500 * (400 - n) ∧ SqQ q K H' p (ns.map V.int) ∧ H' q = some (.lst (out.map V.int)) ∧
      RoomAt a (fun x => x = q) H' r s ∧ Wf s ∧ Left (ns.drop i) s n due ∧ PyVamrqj.answers ns = out ++ due ∧ σ = [some (.ref p), some (.ref r), some (.ref q), some (.int (i : Int)), v4, v5])
    refine ⟨W, ⟨ns.length, w2 _ _ _ ⟨0, 400, Vamrqj.start, [], PyVamrqj.answers ns, none, none, rfl, Nat.zero_le _, Nat.le_refl _, Nat.zero_le _, hS1, upd_same, hR, wf_start, Left.start hask, rfl, rfl⟩⟩, ?_⟩
    intro m σ H' hW
    obtain ⟨i, n, s, out, due, v4, v5, rfl, hi, hn, hol, hSq, hq', hR', hw, hL, hA, rfl⟩ := w1 _ _ _ hW
    clear w1 hW
    refine ⟨_, rfl, _, rfl, p, _, rfl, .inl hSq.sq, _, _, rfl, rfl, _, rfl, ?_⟩
    refine ite2 (fun h => ?_) fun h => ?_
    · have h : (i : Int) < ((ns.map V.int).length : Int) := of_decide_eq_true h
      rw [List.length_map] at h
      have hlt : i < ns.length := Int.ofNat_lt.mp h
      have ed : ns.drop i = ns[i] :: ns.drop (i + 1) := List.drop_eq_getElem_cons hlt
      rw [ed] at hL
      obtain ⟨k, t, e1, hf, hn0, rest, hdue, hL'⟩ := hL.cons
      rw [← ed] at e1
      obtain ⟨z, args, ez⟩ := enc_pos k
      have hel : (ns.drop i).length = (enc k).length + t.length := by rw [e1, List.length_append]
      rw [List.length_drop] at hel
      have e2 : ns.drop (i + (enc k).length) = t := by
        rw [← List.drop_drop, e1, List.drop_left]
      have ez0 : ns[i]? = some z := by
        have : (ns.drop i)[0]? = some z := by rw [e1, ez]; rfl
        rw [List.getElem?_drop] at this
        exact this
      have hpos : 1 ≤ (enc k).length := by rw [ez]; simp
      obtain ⟨M, m1, m2⟩ := name1 (fun σ' H' => ∃ (s' : Vamrqj.State) (v5 : Option V), SqQ q K H' p (ns.map V.int) ∧ H' q = some (.lst ((out ++ ((VamrqjNeutral.encode (Vamrqj.step s k).2).length : Int) :: VamrqjNeutral.encode (Vamrqj.step s k).2).map V.int)) ∧
        RoomAt a (fun x => x = q) H' r s' ∧ s' = (Vamrqj.step s k).1 ∧ σ' = [some (.ref p), some (.ref r), some (.ref q), some (.int ((i + (enc k).length : Nat) : Int)), some (.int ((i + (enc k).length : Nat) : Int)), v5])
      refine ⟨M, fun σ' H2 hM => ?_, ?_⟩
      · obtain ⟨s', v5', g1, g2, g3, rfl, rfl⟩ := m1 _ _ hM
        have hal := ans_len hw k
        refine ⟨ns.length - (i + (enc k).length), Nat.sub_lt_sub_left hlt (Nat.lt_add_of_pos_right hpos), w2 _ _ _ ⟨i + (enc k).length, n - 1, _, _, rest, _, _, rfl, ar1 hel hlt, Nat.le_trans (Nat.sub_le n 1) hn, ?_, g1, g2, g3, wf_step hw k, by rw [e2]; exact hL', ?_, rfl⟩⟩
        · simp only [List.length_append, List.length_cons]
          exact ar2 hol hn0 hn hal
        · rw [hA, hdue]
          simp
      · -- end = end_of_call(calls, place)
        clear m1 w2
        refine seq_gen fun N hN => ?_
        refine ⟨_, rfl, _, rfl, p, ns, t, i, k, rfl, hSq.sq, e1, ?_⟩
        -- answer = ..
        refine hN _ _ (seq_gen fun N hN => ?_)
        refine ⟨_, rfl, _, rfl, _, rfl, p, _, _, _, rfl, rfl, hSq.sq, at_of (j := i) (v := V.int z) rfl (by rw [List.getElem?_map, ez0]; rfl), ?_⟩
        refine ⟨_, rfl, _, rfl, _, _, rfl, rfl, _, rfl, _, rfl, _, rfl, p, _, rfl, hSq.sq, fun c hc => ?_⟩
        have ecut : cutV (ns.map V.int) (some ((i : Int) + 1)) (some ((i + (enc k).length : Nat) : Int)) = args.map V.int := by
          rw [show ((i : Int) + 1) = ((i + 1 : Nat) : Int) from rfl, cut_mid _ (Nat.add_le_add_left hpos i) (by rw [List.length_map]; exact ar1 hel hlt), ← List.map_drop, ← List.map_take]
          congr 1
          rw [← List.drop_drop, e1, ez]
          show List.take (i + (z :: args).length - (i + 1)) (args ++ t) = args
          rw [List.length_cons, Nat.add_sub_add_left, Nat.add_sub_cancel, List.take_left]
        have s3 := same_new (o := .lst (cutV (ns.map V.int) (some ((i : Int) + 1)) (some ((i + (enc k).length : Nat) : Int)))) hc
        refine ⟨fun x => x = q, r, c, s, k, z, args, rfl, ez, hf, by rw [upd_same, ecut], fun x hx => ?_, hR'.same D s3, hw, fun l H2 g1 g2 g3 g4 => ?_⟩
        · have hx : x = q := hx
          rw [hx, s3 _ _ hq']
          exact fun z => nomatch z
        have f2 := (Frm.same (a := a) s3).trans g3
        have q2 := f2 _ _ hq' trivial
        have hal := ans_len hw k
        have hsz : (out.map V.int).length + 401 ≤ 250000 := by
          rw [List.length_map]
          exact ar3 hol
        have hbig : 250000 ≤ sizeLine := by decide
        -- answered.append(len(answer))
        refine hN _ _ (seq_gen fun N hN => ?_)
        refine ⟨_, rfl, .inl ⟨rfl, _, SqL.of q2⟩, _, rfl, l, _, rfl, .inl (SqL.of g2), q, _, _, rfl, rfl, q2, Nat.lt_of_lt_of_le (Nat.lt_of_lt_of_le (Nat.lt_add_of_pos_right (by decide)) hsz) hbig, ?_⟩
        -- answered.extend(answer)
        have hlq : l ≠ q := g4
        refine hN _ _ (seq_gen fun N hN => ?_)
        · have q3 := g2
          refine ⟨_, rfl, .inl ⟨rfl, _, SqL.of upd_same⟩, _, rfl, q, l, _, _, rfl, rfl, upd_same, (by rw [upd_ne hlq]; exact g2), ?_, ?_⟩
          · rw [List.length_append, List.length_map, List.length_map, List.length_singleton]
            rw [List.length_map] at hsz
            exact Nat.le_trans (ar5 hsz hal) hbig
          -- place = end
          refine hN _ _ ⟨_, rfl, m2 _ _ ⟨(Vamrqj.step s k).1, _, ?_, ?_, ?_, rfl, rfl⟩⟩
          · exact ((hSq.frm f2).but But.upd).but But.upd
          · rw [upd_same, List.map_append]
            simp
          · exact (g1.out rfl q2 But.upd).out rfl upd_same But.upd
    · have h : ¬ (i : Int) < ((ns.map V.int).length : Int) := fun z => h (decide_eq_true z)
      rw [List.length_map] at h
      have hi' : i = ns.length := Nat.le_antisymm hi (Nat.le_of_not_lt fun z => h (Int.ofNat_lt.mpr z))
      rw [hi', List.drop_length] at hL
      have := hL.nil
      subst this
      rw [List.append_nil] at hA
      refine hN _ _ ⟨_, rfl, ?_⟩
      refine hk H' q ?_
      rw [hA]
      exact hq'
end TR
end
-- TRCall
section
set_option Elab.async false
set_option linter.all false
set_option maxRecDepth 100000
set_option maxHeartbeats 4000000
namespace TR
open PySem PySem.Spec PyProof.Rows L2
variable {P : Program} {w : World} {K : PySem.W.Frag} {mg : Str → Option Value} {base : Heap} {a : Cs}
theorem Done.frm {q : Addr → Prop} {H H1 : Hp} {r : Addr} {s : Vamrqj.State} {c : Vamrqj.Call} {Q : VK} (h : Done a q H r s c Q) (f : Frm a H H1) : Done a q H1 r s c Q := fun l H' h1 h2 h3 h4 => h l H' h1 h2 (f.trans h3) h4
/-- the arguments are worth xs, and nothing changes -/
def RdA (t : TA) (σ : L2.St) (H : Hp) (xs : List V) : Prop := ∀ R : List V → Hp → Prop, R xs H → t σ H R
theorem RdA.nil {σ : L2.St} {H : Hp} : RdA tNil σ H [] := fun _ r => r
theorem RdA.cons {σ : L2.St} {H : Hp} {t : TE} {u : TA} {x : V} {xs : List V} (h : Rds t σ H x) (k : RdA u σ H xs) : RdA (tCons t u) σ H (x :: xs) := fun R r => h _ (k _ r)
theorem Rds.ix {σ : L2.St} {H : Hp} {t u : TE} {p : Addr} {xs : List V} {i : Int} {j : Nat} {x : V} (h : Rds t σ H (.ref p)) (k : Rds u σ H (.int i)) (hp : H p = some (.lst xs)) (e : i = (j : Int)) (g : xs[j]? = some x) : Rds (tOp (rIxL K) t u) σ H x :=
  fun R r => h _ (k _ ⟨p, xs, i, x, rfl, rfl, SqL.of hp, at_of e g, r⟩)
theorem rd_meth {σ : L2.St} {H : Hp} {C p dx : Addr} {fs : List (Str × V)} {m : Str} {sp : Sp} {ta : TE} {t : TA} {vs : List V} {Q : VK} (h : Rds ta σ H (.ref p)) (hp : H p = some (.ins C dx fs)) (hl : fs.lookup m = none) (ha : RdA t σ H vs) (k : sp (.ref p :: (vs ++ [])) H Q E0) :
    tMeth C m sp [] E0 ta t σ H Q := h _ ⟨p, dx, fs, rfl, hp, hl, ha _ k⟩
theorem if_skip {σ : L2.St} {H : Hp} {i j : Int} {ta tb : TE} {t u : TS} {D : Ends} (h1 : Rds ta σ H (.int i)) (h2 : Rds tb σ H (.int j)) (n : i ≠ j) (k : u D σ H) : tSeq (tIfS (tB (tEqI ta tb)) t tNext) u D σ H :=
  h1 _ (h2 _ ⟨i, j, rfl, rfl, _, rfl, skip n k⟩)
theorem if_take {σ : L2.St} {H : Hp} {i j : Int} {ta tb : TE} {t u : TS} {D : Ends} (h1 : Rds ta σ H (.int i)) (h2 : Rds tb σ H (.int j)) (n : i = j) (k : t { D with nx := u D } σ H) : tSeq (tIfS (tB (tEqI ta tb)) t tNext) u D σ H :=
  h1 _ (h2 _ ⟨i, j, rfl, rfl, _, rfl, take1 n k⟩)
theorem okanswer_to_call (F : DFun K mg "answer_to_call" sanswer_to_call) (T : Txt K mg a) (D : Dif a)
    (M0 : MOk P w K mg base a.cRoom "policy" 3 ["self", "need", "most", "window", "limit", "calm"] (spOf a decPolicy)) (M1 : MOk P w K mg base a.cRoom "tests" 3 ["self", "n"] (spOf a decTests))
    (M2 : MOk P w K mg base a.cRoom "tell" 3 ["self", "x", "v", "bits"] (spOf a decTell)) (M3 : MOk P w K mg base a.cRoom "outcome" 3 ["self", "x", "v", "k"] (spOf a decOutcome))
    (M4 : MOk P w K mg base a.cRoom "dry" 5 ["self", "x", "v"] (spOf a decDry)) (M5 : MOk P w K mg base a.cRoom "run" 6 ["self", "x", "v"] (spOf a decRun))
    (M6 : MOk P w K mg base a.cRoom "check" 6 ["self", "v"] (spOf a decCheck)) (M7 : MOk P w K mg base a.cRoom "history" 3 ["self", "x"] (spOf a decHistory))
    (M8 : MOk P w K mg base a.cRoom "score" 3 ["self", "x"] (spOf a decScore)) (M9 : MOk P w K mg base a.cRoom "held" 1 ["self"] (spOf a decHeld))
    (M10 : MOk P w K mg base a.cRoom "hold" 2 ["self", "x", "on"] (spOf a decHold)) (M11 : MOk P w K mg base a.cRoom "odds" 3 ["self", "a", "q"] (spOf a decOdds)) :
    DOk P w K mg base "answer_to_call" 8 ["room", "kind", "numbers"] (spanswer_to_call a) := by
  refine F.ok scanswer_to_call bdanswer_to_call (fun vs H Q E h => ?_) (fun f cdv A outer s H vs Q E hr h => ?_)
  · obtain ⟨q, r, p, s, k, z, rest, rfl, _⟩ := h
    rfl
  · obtain ⟨q, r, p, s, k, z, rest, rfl, ez, hf, hp, hq, hR1, hw, hk⟩ := h
    obtain ⟨dx, pr, pl, dd, ps, hR, _⟩ := id hR1
    refine ⟨_, pss_cons (ps_if (pt_cmp (pc_eqI (pv 1) (pk T.kPOLICY))) (pss_one (ps_ret (pm T.clRoom M0 hr (pv 0) (pa_cons (pe_ix ix_list (pv 2) pe_int (fun _ _ => rfl)) (pa_cons (pe_ix ix_list (pv 2) pe_int (fun _ _ => rfl)) (pa_cons (pe_ix ix_list (pv 2) pe_int (fun _ _ => rfl)) (pa_cons (pe_ix ix_list (pv 2) pe_int (fun _ _ => rfl)) (pa_cons (pe_ix ix_list (pv 2) pe_int (fun _ _ => rfl)) pa_nil)))))))) pss_nil)
      (pss_cons (ps_if (pt_cmp (pc_eqI (pv 1) (pk T.kTESTS))) (pss_one (ps_ret (pm T.clRoom M1 hr (pv 0) (pa_cons (pe_ix ix_list (pv 2) pe_int (fun _ _ => rfl)) pa_nil)))) pss_nil)
      (pss_cons (ps_if (pt_cmp (pc_eqI (pv 1) (pk T.kTELL))) (pss_one (ps_ret (pm T.clRoom M2 hr (pv 0) (pa_cons (pe_ix ix_list (pv 2) pe_int (fun _ _ => rfl)) (pa_cons (pe_ix ix_list (pv 2) pe_int (fun _ _ => rfl)) (pa_cons (pe_slice sl_list (pv 2) (po_some pe_int) po_none) pa_nil)))))) pss_nil)
      (pss_cons (ps_if (pt_cmp (pc_eqI (pv 1) (pk T.kOUTCOME))) (pss_one (ps_ret (pm T.clRoom M3 hr (pv 0) (pa_cons (pe_ix ix_list (pv 2) pe_int (fun _ _ => rfl)) (pa_cons (pe_ix ix_list (pv 2) pe_int (fun _ _ => rfl)) (pa_cons (pe_ix ix_list (pv 2) pe_int (fun _ _ => rfl)) pa_nil)))))) pss_nil)
      (pss_cons (ps_if (pt_cmp (pc_eqI (pv 1) (pk T.kDRY))) (pss_one (ps_ret (pm T.clRoom M4 hr (pv 0) (pa_cons (pe_ix ix_list (pv 2) pe_int (fun _ _ => rfl)) (pa_cons (pe_ix ix_list (pv 2) pe_int (fun _ _ => rfl)) pa_nil))))) pss_nil)
      (pss_cons (ps_if (pt_cmp (pc_eqI (pv 1) (pk T.kRUN))) (pss_one (ps_ret (pm T.clRoom M5 hr (pv 0) (pa_cons (pe_ix ix_list (pv 2) pe_int (fun _ _ => rfl)) (pa_cons (pe_ix ix_list (pv 2) pe_int (fun _ _ => rfl)) pa_nil))))) pss_nil)
      (pss_cons (ps_if (pt_cmp (pc_eqI (pv 1) (pk T.kCHECK))) (pss_one (ps_ret (pm T.clRoom M6 hr (pv 0) (pa_cons (pe_ix ix_list (pv 2) pe_int (fun _ _ => rfl)) pa_nil)))) pss_nil)
      (pss_cons (ps_if (pt_cmp (pc_eqI (pv 1) (pk T.kHISTORY))) (pss_one (ps_ret (pm T.clRoom M7 hr (pv 0) (pa_cons (pe_ix ix_list (pv 2) pe_int (fun _ _ => rfl)) pa_nil)))) pss_nil)
      (pss_cons (ps_if (pt_cmp (pc_eqI (pv 1) (pk T.kSCORE))) (pss_one (ps_ret (pm T.clRoom M8 hr (pv 0) (pa_cons (pe_ix ix_list (pv 2) pe_int (fun _ _ => rfl)) pa_nil)))) pss_nil)
      (pss_cons (ps_if (pt_cmp (pc_eqI (pv 1) (pk T.kHELD))) (pss_one (ps_ret (pm0 T.clRoom M9 hr (pv 0)))) pss_nil)
      (pss_cons (ps_if (pt_cmp (pc_eqI (pv 1) (pk T.kHOLD))) (pss_one (ps_ret (pm T.clRoom M10 hr (pv 0) (pa_cons (pe_ix ix_list (pv 2) pe_int (fun _ _ => rfl)) (pa_cons (pe_ix ix_list (pv 2) pe_int (fun _ _ => rfl)) pa_nil))))) pss_nil)
      (pss_one (ps_ret (pm T.clRoom M11 hr (pv 0) (pa_cons (pe_ix ix_list (pv 2) pe_int (fun _ _ => rfl)) (pa_cons (pe_ix ix_list (pv 2) pe_int (fun _ _ => rfl)) pa_nil))))))))))))))), ?_⟩
    dsimp only [cxOf, Cx.nox]
    have z0 : Rds (tVar 1) [some (.ref r), some (.int z), some (.ref p)] H (.int z) := Rds.v rfl
    cases k with
    | policy n m w l c =>
      injection ez with e1 e2
      subst e1 e2
      exact if_take z0 Rds.c rfl (rd_meth (Rds.v rfl) hR rfl (RdA.cons (Rds.ix (Rds.v rfl) Rds.c hp (j := 0) rfl rfl) (RdA.cons (Rds.ix (Rds.v rfl) Rds.c hp (j := 1) rfl rfl) (RdA.cons (Rds.ix (Rds.v rfl) Rds.c hp (j := 2) rfl rfl) (RdA.cons (Rds.ix (Rds.v rfl) Rds.c hp (j := 3) rfl rfl) (RdA.cons (Rds.ix (Rds.v rfl) Rds.c hp (j := 4) rfl rfl) RdA.nil))))) ⟨q, r, s, _, _, rfl, ⟨n, m, w, l, c, rfl, rfl⟩, hq, hR1, hw, hk⟩)
    | tests n =>
      injection ez with e1 e2
      subst e1 e2
      exact if_skip z0 Rds.c (by decide) (if_take z0 Rds.c rfl (rd_meth (Rds.v rfl) hR rfl (RdA.cons (Rds.ix (Rds.v rfl) Rds.c hp (j := 0) rfl rfl) RdA.nil) ⟨q, r, s, _, _, rfl, ⟨n, rfl, rfl⟩, hq, hR1, hw, hk⟩))
    | tell x v bits =>
      injection ez with e1 e2
      subst e1 e2
      refine if_skip z0 Rds.c (by decide) (if_skip z0 Rds.c (by decide) (if_take z0 Rds.c rfl (?_)))
      refine ⟨_, rfl, r, dx, _, rfl, hR, rfl, Rds.ix (K := K) (Rds.v rfl) Rds.c hp (j := 0) rfl rfl _ (Rds.ix (K := K) (Rds.v rfl) Rds.c hp (j := 1) rfl rfl _ ?_)⟩
      refine ⟨_, rfl, _, rfl, p, _, rfl, SqL.of hp, fun c hc => ?_⟩
      have ecut : cutV ((x :: v :: (bits.length : Int) :: bits).map V.int) (some (3 : Int)) none = bits.map V.int := cut_drop _ 3
      rw [ecut]
      have s1 : Same H (upd H c (.lst (bits.map V.int))) := same_new hc
      exact ⟨q, r, s, _, _, rfl, ⟨x, v, c, bits, rfl, upd_same, rfl⟩, still hq s1, hR1.same D s1, hw, hk.frm (Frm.same s1)⟩
    | outcome x v k =>
      injection ez with e1 e2
      subst e1 e2
      exact if_skip z0 Rds.c (by decide) (if_skip z0 Rds.c (by decide) (if_skip z0 Rds.c (by decide) (if_take z0 Rds.c rfl (rd_meth (Rds.v rfl) hR rfl (RdA.cons (Rds.ix (Rds.v rfl) Rds.c hp (j := 0) rfl rfl) (RdA.cons (Rds.ix (Rds.v rfl) Rds.c hp (j := 1) rfl rfl) (RdA.cons (Rds.ix (Rds.v rfl) Rds.c hp (j := 2) rfl rfl) RdA.nil))) ⟨q, r, s, _, _, rfl, ⟨x, v, k, rfl, rfl⟩, hq, hR1, hw, hk⟩))))
    | dry x v =>
      injection ez with e1 e2
      subst e1 e2
      exact if_skip z0 Rds.c (by decide) (if_skip z0 Rds.c (by decide) (if_skip z0 Rds.c (by decide) (if_skip z0 Rds.c (by decide) (if_take z0 Rds.c rfl (rd_meth (Rds.v rfl) hR rfl (RdA.cons (Rds.ix (Rds.v rfl) Rds.c hp (j := 0) rfl rfl) (RdA.cons (Rds.ix (Rds.v rfl) Rds.c hp (j := 1) rfl rfl) RdA.nil)) ⟨q, r, s, _, _, rfl, ⟨x, v, rfl, rfl⟩, hq, hR1, hw, hk⟩)))))
    | run x v =>
      injection ez with e1 e2
      subst e1 e2
      exact if_skip z0 Rds.c (by decide) (if_skip z0 Rds.c (by decide) (if_skip z0 Rds.c (by decide) (if_skip z0 Rds.c (by decide) (if_skip z0 Rds.c (by decide) (if_take z0 Rds.c rfl (rd_meth (Rds.v rfl) hR rfl (RdA.cons (Rds.ix (Rds.v rfl) Rds.c hp (j := 0) rfl rfl) (RdA.cons (Rds.ix (Rds.v rfl) Rds.c hp (j := 1) rfl rfl) RdA.nil)) ⟨q, r, s, _, _, rfl, ⟨x, v, rfl, rfl⟩, hq, hR1, hw, hk⟩))))))
    | check v =>
      injection ez with e1 e2
      subst e1 e2
      exact if_skip z0 Rds.c (by decide) (if_skip z0 Rds.c (by decide) (if_skip z0 Rds.c (by decide) (if_skip z0 Rds.c (by decide) (if_skip z0 Rds.c (by decide) (if_skip z0 Rds.c (by decide) (if_take z0 Rds.c rfl (rd_meth (Rds.v rfl) hR rfl (RdA.cons (Rds.ix (Rds.v rfl) Rds.c hp (j := 0) rfl rfl) RdA.nil) ⟨q, r, s, _, _, rfl, ⟨v, rfl, rfl⟩, hq, hR1, hw, hk⟩)))))))
    | history x =>
      injection ez with e1 e2
      subst e1 e2
      exact if_skip z0 Rds.c (by decide) (if_skip z0 Rds.c (by decide) (if_skip z0 Rds.c (by decide) (if_skip z0 Rds.c (by decide) (if_skip z0 Rds.c (by decide) (if_skip z0 Rds.c (by decide) (if_skip z0 Rds.c (by decide) (if_take z0 Rds.c rfl (rd_meth (Rds.v rfl) hR rfl (RdA.cons (Rds.ix (Rds.v rfl) Rds.c hp (j := 0) rfl rfl) RdA.nil) ⟨q, r, s, _, _, rfl, ⟨x, rfl, rfl⟩, hq, hR1, hw, hk⟩))))))))
    | score x =>
      injection ez with e1 e2
      subst e1 e2
      exact if_skip z0 Rds.c (by decide) (if_skip z0 Rds.c (by decide) (if_skip z0 Rds.c (by decide) (if_skip z0 Rds.c (by decide) (if_skip z0 Rds.c (by decide) (if_skip z0 Rds.c (by decide) (if_skip z0 Rds.c (by decide) (if_skip z0 Rds.c (by decide) (if_take z0 Rds.c rfl (rd_meth (Rds.v rfl) hR rfl (RdA.cons (Rds.ix (Rds.v rfl) Rds.c hp (j := 0) rfl rfl) RdA.nil) ⟨q, r, s, _, _, rfl, ⟨x, rfl, rfl⟩, hq, hR1, hw, hk⟩)))))))))
    | held =>
      injection ez with e1 e2
      subst e1 e2
      exact if_skip z0 Rds.c (by decide) (if_skip z0 Rds.c (by decide) (if_skip z0 Rds.c (by decide) (if_skip z0 Rds.c (by decide) (if_skip z0 Rds.c (by decide) (if_skip z0 Rds.c (by decide) (if_skip z0 Rds.c (by decide) (if_skip z0 Rds.c (by decide) (if_skip z0 Rds.c (by decide) (if_take z0 Rds.c rfl (rd_meth (Rds.v rfl) hR rfl RdA.nil ⟨q, r, s, _, _, rfl, ⟨rfl, rfl⟩, hq, hR1, hw, hk⟩))))))))))
    | hold x on =>
      injection ez with e1 e2
      subst e1 e2
      exact if_skip z0 Rds.c (by decide) (if_skip z0 Rds.c (by decide) (if_skip z0 Rds.c (by decide) (if_skip z0 Rds.c (by decide) (if_skip z0 Rds.c (by decide) (if_skip z0 Rds.c (by decide) (if_skip z0 Rds.c (by decide) (if_skip z0 Rds.c (by decide) (if_skip z0 Rds.c (by decide) (if_skip z0 Rds.c (by decide) (if_take z0 Rds.c rfl (rd_meth (Rds.v rfl) hR rfl (RdA.cons (Rds.ix (Rds.v rfl) Rds.c hp (j := 0) rfl rfl) (RdA.cons (Rds.ix (Rds.v rfl) Rds.c hp (j := 1) rfl rfl) RdA.nil)) ⟨q, r, s, _, _, rfl, ⟨x, on, rfl, rfl⟩, hq, hR1, hw, hk⟩)))))))))))
    | odds x n =>
      injection ez with e1 e2
      subst e1 e2
      exact if_skip z0 Rds.c (by decide) (if_skip z0 Rds.c (by decide) (if_skip z0 Rds.c (by decide) (if_skip z0 Rds.c (by decide) (if_skip z0 Rds.c (by decide) (if_skip z0 Rds.c (by decide) (if_skip z0 Rds.c (by decide) (if_skip z0 Rds.c (by decide) (if_skip z0 Rds.c (by decide) (if_skip z0 Rds.c (by decide) (if_skip z0 Rds.c (by decide) (rd_meth (Rds.v rfl) hR rfl (RdA.cons (Rds.ix (Rds.v rfl) Rds.c hp (j := 0) rfl rfl) (RdA.cons (Rds.ix (Rds.v rfl) Rds.c hp (j := 1) rfl rfl) RdA.nil)) ⟨q, r, s, _, _, rfl, ⟨x, n, rfl, rfl⟩, hq, hR1, hw, hk⟩)))))))))))
end TR
end
-- TRHead
section
set_option Elab.async false
set_option linter.all false
set_option maxRecDepth 100000
set_option maxHeartbeats 4000000
namespace TR
open PySem PySem.Spec PyProof.Rows L2
theorem funs_mk {K : PySem.W.Frag} {h : Heap} {mg : Str → Option Value} (X : K.In h) (G : h.Ns mainGlobals mg)
    {CRecord : Addr}
    {CRules : Addr}
    {CRun : Addr}
    {CRoom : Addr}
    {fcommon_divisor : Addr} {odcommon_divisor ancommon_divisor : Option Addr} {slcommon_divisor : Array (Option Value)} {occommon_divisor kVcommon_divisor dccommon_divisor pmcommon_divisor cdcommon_divisor ctcommon_divisor : Value}
    {fways_by_passes : Addr} {odways_by_passes anways_by_passes : Option Addr} {slways_by_passes : Array (Option Value)} {ocways_by_passes kVways_by_passes dcways_by_passes pmways_by_passes cdways_by_passes ctways_by_passes : Value}
    {fodds_of_passing : Addr} {ododds_of_passing anodds_of_passing : Option Addr} {slodds_of_passing : Array (Option Value)} {ocodds_of_passing kVodds_of_passing dcodds_of_passing pmodds_of_passing cdodds_of_passing ctodds_of_passing : Value}
    {fRecord_init : Addr} {odRecord_init anRecord_init : Option Addr} {slRecord_init : Array (Option Value)} {ocRecord_init kVRecord_init dcRecord_init pmRecord_init cdRecord_init ctRecord_init : Value}
    {fRecord_flaky_score : Addr} {odRecord_flaky_score anRecord_flaky_score : Option Addr} {slRecord_flaky_score : Array (Option Value)} {ocRecord_flaky_score kVRecord_flaky_score dcRecord_flaky_score pmRecord_flaky_score cdRecord_flaky_score ctRecord_flaky_score : Value}
    {fRecord_calm_length : Addr} {odRecord_calm_length anRecord_calm_length : Option Addr} {slRecord_calm_length : Array (Option Value)} {ocRecord_calm_length kVRecord_calm_length dcRecord_calm_length pmRecord_calm_length cdRecord_calm_length ctRecord_calm_length : Value}
    {fRecord_move : Addr} {odRecord_move anRecord_move : Option Addr} {slRecord_move : Array (Option Value)} {ocRecord_move kVRecord_move dcRecord_move pmRecord_move cdRecord_move ctRecord_move : Value}
    {fRecord_keep : Addr} {odRecord_keep anRecord_keep : Option Addr} {slRecord_keep : Array (Option Value)} {ocRecord_keep kVRecord_keep dcRecord_keep pmRecord_keep cdRecord_keep ctRecord_keep : Value}
    {fare_rules : Addr} {odare_rules anare_rules : Option Addr} {slare_rules : Array (Option Value)} {ocare_rules kVare_rules dcare_rules pmare_rules cdare_rules ctare_rules : Value}
    {fRules_init : Addr} {odRules_init anRules_init : Option Addr} {slRules_init : Array (Option Value)} {ocRules_init kVRules_init dcRules_init pmRules_init cdRules_init ctRules_init : Value}
    {fRun_init : Addr} {odRun_init anRun_init : Option Addr} {slRun_init : Array (Option Value)} {ocRun_init kVRun_init dcRun_init pmRun_init cdRun_init ctRun_init : Value}
    {fRun_is_clean : Addr} {odRun_is_clean anRun_is_clean : Option Addr} {slRun_is_clean : Array (Option Value)} {ocRun_is_clean kVRun_is_clean dcRun_is_clean pmRun_is_clean cdRun_is_clean ctRun_is_clean : Value}
    {fRun_as_numbers : Addr} {odRun_as_numbers anRun_as_numbers : Option Addr} {slRun_as_numbers : Array (Option Value)} {ocRun_as_numbers kVRun_as_numbers dcRun_as_numbers pmRun_as_numbers cdRun_as_numbers ctRun_as_numbers : Value}
    {foutcome_of_try : Addr} {odoutcome_of_try anoutcome_of_try : Option Addr} {sloutcome_of_try : Array (Option Value)} {ocoutcome_of_try kVoutcome_of_try dcoutcome_of_try pmoutcome_of_try cdoutcome_of_try ctoutcome_of_try : Value}
    {fmake_run : Addr} {odmake_run anmake_run : Option Addr} {slmake_run : Array (Option Value)} {ocmake_run kVmake_run dcmake_run pmmake_run cdmake_run ctmake_run : Value}
    {fare_outcomes : Addr} {odare_outcomes anare_outcomes : Option Addr} {slare_outcomes : Array (Option Value)} {ocare_outcomes kVare_outcomes dcare_outcomes pmare_outcomes cdare_outcomes ctare_outcomes : Value}
    {fis_revision : Addr} {odis_revision anis_revision : Option Addr} {slis_revision : Array (Option Value)} {ocis_revision kVis_revision dcis_revision pmis_revision cdis_revision ctis_revision : Value}
    {fRoom_init : Addr} {odRoom_init anRoom_init : Option Addr} {slRoom_init : Array (Option Value)} {ocRoom_init kVRoom_init dcRoom_init pmRoom_init cdRoom_init ctRoom_init : Value}
    {fRoom_is_test : Addr} {odRoom_is_test anRoom_is_test : Option Addr} {slRoom_is_test : Array (Option Value)} {ocRoom_is_test kVRoom_is_test dcRoom_is_test pmRoom_is_test cdRoom_is_test ctRoom_is_test : Value}
    {fRoom_are_test_and_revision : Addr} {odRoom_are_test_and_revision anRoom_are_test_and_revision : Option Addr} {slRoom_are_test_and_revision : Array (Option Value)} {ocRoom_are_test_and_revision kVRoom_are_test_and_revision dcRoom_are_test_and_revision pmRoom_are_test_and_revision cdRoom_are_test_and_revision ctRoom_are_test_and_revision : Value}
    {fRoom_outcomes_at : Addr} {odRoom_outcomes_at anRoom_outcomes_at : Option Addr} {slRoom_outcomes_at : Array (Option Value)} {ocRoom_outcomes_at kVRoom_outcomes_at dcRoom_outcomes_at pmRoom_outcomes_at cdRoom_outcomes_at ctRoom_outcomes_at : Value}
    {fRoom_run_at : Addr} {odRoom_run_at anRoom_run_at : Option Addr} {slRoom_run_at : Array (Option Value)} {ocRoom_run_at kVRoom_run_at dcRoom_run_at pmRoom_run_at cdRoom_run_at ctRoom_run_at : Value}
    {fRoom_kept_run_at : Addr} {odRoom_kept_run_at anRoom_kept_run_at : Option Addr} {slRoom_kept_run_at : Array (Option Value)} {ocRoom_kept_run_at kVRoom_kept_run_at dcRoom_kept_run_at pmRoom_kept_run_at cdRoom_kept_run_at ctRoom_kept_run_at : Value}
    {fRoom_policy : Addr} {odRoom_policy anRoom_policy : Option Addr} {slRoom_policy : Array (Option Value)} {ocRoom_policy kVRoom_policy dcRoom_policy pmRoom_policy cdRoom_policy ctRoom_policy : Value}
    {fRoom_tests : Addr} {odRoom_tests anRoom_tests : Option Addr} {slRoom_tests : Array (Option Value)} {ocRoom_tests kVRoom_tests dcRoom_tests pmRoom_tests cdRoom_tests ctRoom_tests : Value}
    {fRoom_tell : Addr} {odRoom_tell anRoom_tell : Option Addr} {slRoom_tell : Array (Option Value)} {ocRoom_tell kVRoom_tell dcRoom_tell pmRoom_tell cdRoom_tell ctRoom_tell : Value}
    {fRoom_outcome : Addr} {odRoom_outcome anRoom_outcome : Option Addr} {slRoom_outcome : Array (Option Value)} {ocRoom_outcome kVRoom_outcome dcRoom_outcome pmRoom_outcome cdRoom_outcome ctRoom_outcome : Value}
    {fRoom_dry : Addr} {odRoom_dry anRoom_dry : Option Addr} {slRoom_dry : Array (Option Value)} {ocRoom_dry kVRoom_dry dcRoom_dry pmRoom_dry cdRoom_dry ctRoom_dry : Value}
    {fRoom_run : Addr} {odRoom_run anRoom_run : Option Addr} {slRoom_run : Array (Option Value)} {ocRoom_run kVRoom_run dcRoom_run pmRoom_run cdRoom_run ctRoom_run : Value}
    {fRoom_check : Addr} {odRoom_check anRoom_check : Option Addr} {slRoom_check : Array (Option Value)} {ocRoom_check kVRoom_check dcRoom_check pmRoom_check cdRoom_check ctRoom_check : Value}
    {fRoom_history : Addr} {odRoom_history anRoom_history : Option Addr} {slRoom_history : Array (Option Value)} {ocRoom_history kVRoom_history dcRoom_history pmRoom_history cdRoom_history ctRoom_history : Value}
    {fRoom_score : Addr} {odRoom_score anRoom_score : Option Addr} {slRoom_score : Array (Option Value)} {ocRoom_score kVRoom_score dcRoom_score pmRoom_score cdRoom_score ctRoom_score : Value}
    {fRoom_held : Addr} {odRoom_held anRoom_held : Option Addr} {slRoom_held : Array (Option Value)} {ocRoom_held kVRoom_held dcRoom_held pmRoom_held cdRoom_held ctRoom_held : Value}
    {fRoom_hold : Addr} {odRoom_hold anRoom_hold : Option Addr} {slRoom_hold : Array (Option Value)} {ocRoom_hold kVRoom_hold dcRoom_hold pmRoom_hold cdRoom_hold ctRoom_hold : Value}
    {fRoom_odds : Addr} {odRoom_odds anRoom_odds : Option Addr} {slRoom_odds : Array (Option Value)} {ocRoom_odds kVRoom_odds dcRoom_odds pmRoom_odds cdRoom_odds ctRoom_odds : Value}
    {fend_of_call : Addr} {odend_of_call anend_of_call : Option Addr} {slend_of_call : Array (Option Value)} {ocend_of_call kVend_of_call dcend_of_call pmend_of_call cdend_of_call ctend_of_call : Value}
    {fanswer_to_call : Addr} {odanswer_to_call ananswer_to_call : Option Addr} {slanswer_to_call : Array (Option Value)} {ocanswer_to_call kVanswer_to_call dcanswer_to_call pmanswer_to_call cdanswer_to_call ctanswer_to_call : Value}
    {fanswers : Addr} {odanswers ananswers : Option Addr} {slanswers : Array (Option Value)} {ocanswers kVanswers dcanswers pmanswers cdanswers ctanswers : Value}
    {tMOST_REMEMBERED : Tok}
    {tMOST_TRIES : Tok}
    {tWIDEST_WINDOW : Tok}
    {tLONGEST_CALM : Tok}
    {tOUT_OF_RANGE : Tok}
    {tNOT_OUTCOMES : Tok}
    {tTOO_MUCH_TOLD : Tok}
    {tMOST_TESTS : Tok}
    {tLAST_REVISION : Tok}
    {tLAST_TRY : Tok}
    {tMOST_OUTCOMES : Tok}
    {tMOST_TOLD : Tok}
    {tMOST_WAYS : Tok}
    {tPOLICY : Tok}
    {tTESTS : Tok}
    {tTELL : Tok}
    {tOUTCOME : Tok}
    {tDRY : Tok}
    {tRUN : Tok}
    {tCHECK : Tok}
    {tHISTORY : Tok}
    {tSCORE : Tok}
    {tHELD : Tok}
    {tHOLD : Tok}
    {DWHOLE_NUMBERS : Addr} {esWHOLE_NUMBERS : Array DictEntry} {epWHOLE_NUMBERS : Nat} {dsWHOLE_NUMBERS : Array (Option Value)}
    (aCRecord : PySem.W.nsIn K mainGlobals "Record" = some (some (.ref CRecord)))
    (pgRecord : PySem.W.plainGet K CRecord Str.empty = true) (hdRecord : PySem.W.hasDictIn K CRecord = true) (poRecord : PySem.W.plainOver K CRecord = true) (saRecord : PySem.W.findIn K (.ref CRecord) "__setattr__" = some (some (.builtin "object.__setattr__"))) (mkRecord : PySem.W.makesIn K CRecord = true) (kcRecord : PySem.W.keepIn K (.ref CRecord) = true)
    (nRecord_kept : PySem.W.findIn K (.ref CRecord) "kept" = some none)
    (nRecord_count : PySem.W.findIn K (.ref CRecord) "count" = some none)
    (nRecord_quarantined : PySem.W.findIn K (.ref CRecord) "quarantined" = some none)
    (aCRules : PySem.W.nsIn K mainGlobals "Rules" = some (some (.ref CRules)))
    (pgRules : PySem.W.plainGet K CRules Str.empty = true) (hdRules : PySem.W.hasDictIn K CRules = true) (poRules : PySem.W.plainOver K CRules = true) (saRules : PySem.W.findIn K (.ref CRules) "__setattr__" = some (some (.builtin "object.__setattr__"))) (mkRules : PySem.W.makesIn K CRules = true) (kcRules : PySem.W.keepIn K (.ref CRules) = true)
    (nRules_need : PySem.W.findIn K (.ref CRules) "need" = some none)
    (nRules_most : PySem.W.findIn K (.ref CRules) "most" = some none)
    (nRules_window : PySem.W.findIn K (.ref CRules) "window" = some none)
    (nRules_limit : PySem.W.findIn K (.ref CRules) "limit" = some none)
    (nRules_calm : PySem.W.findIn K (.ref CRules) "calm" = some none)
    (aCRun : PySem.W.nsIn K mainGlobals "Run" = some (some (.ref CRun)))
    (pgRun : PySem.W.plainGet K CRun Str.empty = true) (hdRun : PySem.W.hasDictIn K CRun = true) (poRun : PySem.W.plainOver K CRun = true) (saRun : PySem.W.findIn K (.ref CRun) "__setattr__" = some (some (.builtin "object.__setattr__"))) (mkRun : PySem.W.makesIn K CRun = true) (kcRun : PySem.W.keepIn K (.ref CRun) = true)
    (nRun_revision : PySem.W.findIn K (.ref CRun) "revision" = some none)
    (nRun_passed : PySem.W.findIn K (.ref CRun) "passed" = some none)
    (nRun_tries : PySem.W.findIn K (.ref CRun) "tries" = some none)
    (nRun_passes : PySem.W.findIn K (.ref CRun) "passes" = some none)
    (aCRoom : PySem.W.nsIn K mainGlobals "Room" = some (some (.ref CRoom)))
    (pgRoom : PySem.W.plainGet K CRoom Str.empty = true) (hdRoom : PySem.W.hasDictIn K CRoom = true) (poRoom : PySem.W.plainOver K CRoom = true) (saRoom : PySem.W.findIn K (.ref CRoom) "__setattr__" = some (some (.builtin "object.__setattr__"))) (mkRoom : PySem.W.makesIn K CRoom = true) (kcRoom : PySem.W.keepIn K (.ref CRoom) = true)
    (nRoom_rules : PySem.W.findIn K (.ref CRoom) "rules" = some none)
    (nRoom_records : PySem.W.findIn K (.ref CRoom) "records" = some none)
    (nRoom_told : PySem.W.findIn K (.ref CRoom) "told" = some none)
    (acommon_divisor : PySem.W.nsIn K mainGlobals "common_divisor" = some (some (.ref fcommon_divisor)))
    (lcommon_divisor : K.lookup fcommon_divisor = some ⟨occommon_divisor, odcommon_divisor, .func (PySem.W.fnOf "common_divisor" "common_divisor" (defArgs scommon_divisor) (defBody scommon_divisor) (defScope scommon_divisor) .none kVcommon_divisor dccommon_divisor pmcommon_divisor ancommon_divisor cdcommon_divisor ctcommon_divisor), slcommon_divisor⟩) (ccommon_divisor : PySem.W.codeIn K cdcommon_divisor "common_divisor" = true) (kcommon_divisor : PySem.W.keepIn K (.ref fcommon_divisor) = true)
    (aways_by_passes : PySem.W.nsIn K mainGlobals "ways_by_passes" = some (some (.ref fways_by_passes)))
    (lways_by_passes : K.lookup fways_by_passes = some ⟨ocways_by_passes, odways_by_passes, .func (PySem.W.fnOf "ways_by_passes" "ways_by_passes" (defArgs sways_by_passes) (defBody sways_by_passes) (defScope sways_by_passes) .none kVways_by_passes dcways_by_passes pmways_by_passes anways_by_passes cdways_by_passes ctways_by_passes), slways_by_passes⟩) (cways_by_passes : PySem.W.codeIn K cdways_by_passes "ways_by_passes" = true) (kways_by_passes : PySem.W.keepIn K (.ref fways_by_passes) = true)
    (aodds_of_passing : PySem.W.nsIn K mainGlobals "odds_of_passing" = some (some (.ref fodds_of_passing)))
    (lodds_of_passing : K.lookup fodds_of_passing = some ⟨ocodds_of_passing, ododds_of_passing, .func (PySem.W.fnOf "odds_of_passing" "odds_of_passing" (defArgs sodds_of_passing) (defBody sodds_of_passing) (defScope sodds_of_passing) .none kVodds_of_passing dcodds_of_passing pmodds_of_passing anodds_of_passing cdodds_of_passing ctodds_of_passing), slodds_of_passing⟩) (codds_of_passing : PySem.W.codeIn K cdodds_of_passing "odds_of_passing" = true) (kodds_of_passing : PySem.W.keepIn K (.ref fodds_of_passing) = true)
    (aRecord_init : PySem.W.findIn K (.ref CRecord) "__init__" = some (some (.ref fRecord_init))) (iRecord_init : PySem.W.isFn K (.ref fRecord_init) = true)
    (lRecord_init : K.lookup fRecord_init = some ⟨ocRecord_init, odRecord_init, .func (PySem.W.fnOf "__init__" "Record.__init__" (defArgs sRecord_init) (defBody sRecord_init) (defScope sRecord_init) .none kVRecord_init dcRecord_init pmRecord_init anRecord_init cdRecord_init ctRecord_init), slRecord_init⟩) (cRecord_init : PySem.W.codeIn K cdRecord_init "Record.__init__" = true) (kRecord_init : PySem.W.keepIn K (.ref fRecord_init) = true)
    (aRecord_flaky_score : PySem.W.findIn K (.ref CRecord) "flaky_score" = some (some (.ref fRecord_flaky_score))) (iRecord_flaky_score : PySem.W.isFn K (.ref fRecord_flaky_score) = true)
    (lRecord_flaky_score : K.lookup fRecord_flaky_score = some ⟨ocRecord_flaky_score, odRecord_flaky_score, .func (PySem.W.fnOf "flaky_score" "Record.flaky_score" (defArgs sRecord_flaky_score) (defBody sRecord_flaky_score) (defScope sRecord_flaky_score) .none kVRecord_flaky_score dcRecord_flaky_score pmRecord_flaky_score anRecord_flaky_score cdRecord_flaky_score ctRecord_flaky_score), slRecord_flaky_score⟩) (cRecord_flaky_score : PySem.W.codeIn K cdRecord_flaky_score "Record.flaky_score" = true) (kRecord_flaky_score : PySem.W.keepIn K (.ref fRecord_flaky_score) = true)
    (aRecord_calm_length : PySem.W.findIn K (.ref CRecord) "calm_length" = some (some (.ref fRecord_calm_length))) (iRecord_calm_length : PySem.W.isFn K (.ref fRecord_calm_length) = true)
    (lRecord_calm_length : K.lookup fRecord_calm_length = some ⟨ocRecord_calm_length, odRecord_calm_length, .func (PySem.W.fnOf "calm_length" "Record.calm_length" (defArgs sRecord_calm_length) (defBody sRecord_calm_length) (defScope sRecord_calm_length) .none kVRecord_calm_length dcRecord_calm_length pmRecord_calm_length anRecord_calm_length cdRecord_calm_length ctRecord_calm_length), slRecord_calm_length⟩) (cRecord_calm_length : PySem.W.codeIn K cdRecord_calm_length "Record.calm_length" = true) (kRecord_calm_length : PySem.W.keepIn K (.ref fRecord_calm_length) = true)
    (aRecord_move : PySem.W.findIn K (.ref CRecord) "move" = some (some (.ref fRecord_move))) (iRecord_move : PySem.W.isFn K (.ref fRecord_move) = true)
    (lRecord_move : K.lookup fRecord_move = some ⟨ocRecord_move, odRecord_move, .func (PySem.W.fnOf "move" "Record.move" (defArgs sRecord_move) (defBody sRecord_move) (defScope sRecord_move) .none kVRecord_move dcRecord_move pmRecord_move anRecord_move cdRecord_move ctRecord_move), slRecord_move⟩) (cRecord_move : PySem.W.codeIn K cdRecord_move "Record.move" = true) (kRecord_move : PySem.W.keepIn K (.ref fRecord_move) = true)
    (aRecord_keep : PySem.W.findIn K (.ref CRecord) "keep" = some (some (.ref fRecord_keep))) (iRecord_keep : PySem.W.isFn K (.ref fRecord_keep) = true)
    (lRecord_keep : K.lookup fRecord_keep = some ⟨ocRecord_keep, odRecord_keep, .func (PySem.W.fnOf "keep" "Record.keep" (defArgs sRecord_keep) (defBody sRecord_keep) (defScope sRecord_keep) .none kVRecord_keep dcRecord_keep pmRecord_keep anRecord_keep cdRecord_keep ctRecord_keep), slRecord_keep⟩) (cRecord_keep : PySem.W.codeIn K cdRecord_keep "Record.keep" = true) (kRecord_keep : PySem.W.keepIn K (.ref fRecord_keep) = true)
    (aare_rules : PySem.W.nsIn K mainGlobals "are_rules" = some (some (.ref fare_rules)))
    (lare_rules : K.lookup fare_rules = some ⟨ocare_rules, odare_rules, .func (PySem.W.fnOf "are_rules" "are_rules" (defArgs sare_rules) (defBody sare_rules) (defScope sare_rules) .none kVare_rules dcare_rules pmare_rules anare_rules cdare_rules ctare_rules), slare_rules⟩) (care_rules : PySem.W.codeIn K cdare_rules "are_rules" = true) (kare_rules : PySem.W.keepIn K (.ref fare_rules) = true)
    (aRules_init : PySem.W.findIn K (.ref CRules) "__init__" = some (some (.ref fRules_init))) (iRules_init : PySem.W.isFn K (.ref fRules_init) = true)
    (lRules_init : K.lookup fRules_init = some ⟨ocRules_init, odRules_init, .func (PySem.W.fnOf "__init__" "Rules.__init__" (defArgs sRules_init) (defBody sRules_init) (defScope sRules_init) .none kVRules_init dcRules_init pmRules_init anRules_init cdRules_init ctRules_init), slRules_init⟩) (cRules_init : PySem.W.codeIn K cdRules_init "Rules.__init__" = true) (kRules_init : PySem.W.keepIn K (.ref fRules_init) = true)
    (aRun_init : PySem.W.findIn K (.ref CRun) "__init__" = some (some (.ref fRun_init))) (iRun_init : PySem.W.isFn K (.ref fRun_init) = true)
    (lRun_init : K.lookup fRun_init = some ⟨ocRun_init, odRun_init, .func (PySem.W.fnOf "__init__" "Run.__init__" (defArgs sRun_init) (defBody sRun_init) (defScope sRun_init) .none kVRun_init dcRun_init pmRun_init anRun_init cdRun_init ctRun_init), slRun_init⟩) (cRun_init : PySem.W.codeIn K cdRun_init "Run.__init__" = true) (kRun_init : PySem.W.keepIn K (.ref fRun_init) = true)
    (aRun_is_clean : PySem.W.findIn K (.ref CRun) "is_clean" = some (some (.ref fRun_is_clean))) (iRun_is_clean : PySem.W.isFn K (.ref fRun_is_clean) = true)
    (lRun_is_clean : K.lookup fRun_is_clean = some ⟨ocRun_is_clean, odRun_is_clean, .func (PySem.W.fnOf "is_clean" "Run.is_clean" (defArgs sRun_is_clean) (defBody sRun_is_clean) (defScope sRun_is_clean) .none kVRun_is_clean dcRun_is_clean pmRun_is_clean anRun_is_clean cdRun_is_clean ctRun_is_clean), slRun_is_clean⟩) (cRun_is_clean : PySem.W.codeIn K cdRun_is_clean "Run.is_clean" = true) (kRun_is_clean : PySem.W.keepIn K (.ref fRun_is_clean) = true)
    (aRun_as_numbers : PySem.W.findIn K (.ref CRun) "as_numbers" = some (some (.ref fRun_as_numbers))) (iRun_as_numbers : PySem.W.isFn K (.ref fRun_as_numbers) = true)
    (lRun_as_numbers : K.lookup fRun_as_numbers = some ⟨ocRun_as_numbers, odRun_as_numbers, .func (PySem.W.fnOf "as_numbers" "Run.as_numbers" (defArgs sRun_as_numbers) (defBody sRun_as_numbers) (defScope sRun_as_numbers) .none kVRun_as_numbers dcRun_as_numbers pmRun_as_numbers anRun_as_numbers cdRun_as_numbers ctRun_as_numbers), slRun_as_numbers⟩) (cRun_as_numbers : PySem.W.codeIn K cdRun_as_numbers "Run.as_numbers" = true) (kRun_as_numbers : PySem.W.keepIn K (.ref fRun_as_numbers) = true)
    (aoutcome_of_try : PySem.W.nsIn K mainGlobals "outcome_of_try" = some (some (.ref foutcome_of_try)))
    (loutcome_of_try : K.lookup foutcome_of_try = some ⟨ocoutcome_of_try, odoutcome_of_try, .func (PySem.W.fnOf "outcome_of_try" "outcome_of_try" (defArgs soutcome_of_try) (defBody soutcome_of_try) (defScope soutcome_of_try) .none kVoutcome_of_try dcoutcome_of_try pmoutcome_of_try anoutcome_of_try cdoutcome_of_try ctoutcome_of_try), sloutcome_of_try⟩) (coutcome_of_try : PySem.W.codeIn K cdoutcome_of_try "outcome_of_try" = true) (koutcome_of_try : PySem.W.keepIn K (.ref foutcome_of_try) = true)
    (amake_run : PySem.W.nsIn K mainGlobals "make_run" = some (some (.ref fmake_run)))
    (lmake_run : K.lookup fmake_run = some ⟨ocmake_run, odmake_run, .func (PySem.W.fnOf "make_run" "make_run" (defArgs smake_run) (defBody smake_run) (defScope smake_run) .none kVmake_run dcmake_run pmmake_run anmake_run cdmake_run ctmake_run), slmake_run⟩) (cmake_run : PySem.W.codeIn K cdmake_run "make_run" = true) (kmake_run : PySem.W.keepIn K (.ref fmake_run) = true)
    (aare_outcomes : PySem.W.nsIn K mainGlobals "are_outcomes" = some (some (.ref fare_outcomes)))
    (lare_outcomes : K.lookup fare_outcomes = some ⟨ocare_outcomes, odare_outcomes, .func (PySem.W.fnOf "are_outcomes" "are_outcomes" (defArgs sare_outcomes) (defBody sare_outcomes) (defScope sare_outcomes) .none kVare_outcomes dcare_outcomes pmare_outcomes anare_outcomes cdare_outcomes ctare_outcomes), slare_outcomes⟩) (care_outcomes : PySem.W.codeIn K cdare_outcomes "are_outcomes" = true) (kare_outcomes : PySem.W.keepIn K (.ref fare_outcomes) = true)
    (ais_revision : PySem.W.nsIn K mainGlobals "is_revision" = some (some (.ref fis_revision)))
    (lis_revision : K.lookup fis_revision = some ⟨ocis_revision, odis_revision, .func (PySem.W.fnOf "is_revision" "is_revision" (defArgs sis_revision) (defBody sis_revision) (defScope sis_revision) .none kVis_revision dcis_revision pmis_revision anis_revision cdis_revision ctis_revision), slis_revision⟩) (cis_revision : PySem.W.codeIn K cdis_revision "is_revision" = true) (kis_revision : PySem.W.keepIn K (.ref fis_revision) = true)
    (aRoom_init : PySem.W.findIn K (.ref CRoom) "__init__" = some (some (.ref fRoom_init))) (iRoom_init : PySem.W.isFn K (.ref fRoom_init) = true)
    (lRoom_init : K.lookup fRoom_init = some ⟨ocRoom_init, odRoom_init, .func (PySem.W.fnOf "__init__" "Room.__init__" (defArgs sRoom_init) (defBody sRoom_init) (defScope sRoom_init) .none kVRoom_init dcRoom_init pmRoom_init anRoom_init cdRoom_init ctRoom_init), slRoom_init⟩) (cRoom_init : PySem.W.codeIn K cdRoom_init "Room.__init__" = true) (kRoom_init : PySem.W.keepIn K (.ref fRoom_init) = true)
    (aRoom_is_test : PySem.W.findIn K (.ref CRoom) "is_test" = some (some (.ref fRoom_is_test))) (iRoom_is_test : PySem.W.isFn K (.ref fRoom_is_test) = true)
    (lRoom_is_test : K.lookup fRoom_is_test = some ⟨ocRoom_is_test, odRoom_is_test, .func (PySem.W.fnOf "is_test" "Room.is_test" (defArgs sRoom_is_test) (defBody sRoom_is_test) (defScope sRoom_is_test) .none kVRoom_is_test dcRoom_is_test pmRoom_is_test anRoom_is_test cdRoom_is_test ctRoom_is_test), slRoom_is_test⟩) (cRoom_is_test : PySem.W.codeIn K cdRoom_is_test "Room.is_test" = true) (kRoom_is_test : PySem.W.keepIn K (.ref fRoom_is_test) = true)
    (aRoom_are_test_and_revision : PySem.W.findIn K (.ref CRoom) "are_test_and_revision" = some (some (.ref fRoom_are_test_and_revision))) (iRoom_are_test_and_revision : PySem.W.isFn K (.ref fRoom_are_test_and_revision) = true)
    (lRoom_are_test_and_revision : K.lookup fRoom_are_test_and_revision = some ⟨ocRoom_are_test_and_revision, odRoom_are_test_and_revision, .func (PySem.W.fnOf "are_test_and_revision" "Room.are_test_and_revision" (defArgs sRoom_are_test_and_revision) (defBody sRoom_are_test_and_revision) (defScope sRoom_are_test_and_revision) .none kVRoom_are_test_and_revision dcRoom_are_test_and_revision pmRoom_are_test_and_revision anRoom_are_test_and_revision cdRoom_are_test_and_revision ctRoom_are_test_and_revision), slRoom_are_test_and_revision⟩) (cRoom_are_test_and_revision : PySem.W.codeIn K cdRoom_are_test_and_revision "Room.are_test_and_revision" = true) (kRoom_are_test_and_revision : PySem.W.keepIn K (.ref fRoom_are_test_and_revision) = true)
    (aRoom_outcomes_at : PySem.W.findIn K (.ref CRoom) "outcomes_at" = some (some (.ref fRoom_outcomes_at))) (iRoom_outcomes_at : PySem.W.isFn K (.ref fRoom_outcomes_at) = true)
    (lRoom_outcomes_at : K.lookup fRoom_outcomes_at = some ⟨ocRoom_outcomes_at, odRoom_outcomes_at, .func (PySem.W.fnOf "outcomes_at" "Room.outcomes_at" (defArgs sRoom_outcomes_at) (defBody sRoom_outcomes_at) (defScope sRoom_outcomes_at) .none kVRoom_outcomes_at dcRoom_outcomes_at pmRoom_outcomes_at anRoom_outcomes_at cdRoom_outcomes_at ctRoom_outcomes_at), slRoom_outcomes_at⟩) (cRoom_outcomes_at : PySem.W.codeIn K cdRoom_outcomes_at "Room.outcomes_at" = true) (kRoom_outcomes_at : PySem.W.keepIn K (.ref fRoom_outcomes_at) = true)
    (aRoom_run_at : PySem.W.findIn K (.ref CRoom) "run_at" = some (some (.ref fRoom_run_at))) (iRoom_run_at : PySem.W.isFn K (.ref fRoom_run_at) = true)
    (lRoom_run_at : K.lookup fRoom_run_at = some ⟨ocRoom_run_at, odRoom_run_at, .func (PySem.W.fnOf "run_at" "Room.run_at" (defArgs sRoom_run_at) (defBody sRoom_run_at) (defScope sRoom_run_at) .none kVRoom_run_at dcRoom_run_at pmRoom_run_at anRoom_run_at cdRoom_run_at ctRoom_run_at), slRoom_run_at⟩) (cRoom_run_at : PySem.W.codeIn K cdRoom_run_at "Room.run_at" = true) (kRoom_run_at : PySem.W.keepIn K (.ref fRoom_run_at) = true)
    (aRoom_kept_run_at : PySem.W.findIn K (.ref CRoom) "kept_run_at" = some (some (.ref fRoom_kept_run_at))) (iRoom_kept_run_at : PySem.W.isFn K (.ref fRoom_kept_run_at) = true)
    (lRoom_kept_run_at : K.lookup fRoom_kept_run_at = some ⟨ocRoom_kept_run_at, odRoom_kept_run_at, .func (PySem.W.fnOf "kept_run_at" "Room.kept_run_at" (defArgs sRoom_kept_run_at) (defBody sRoom_kept_run_at) (defScope sRoom_kept_run_at) .none kVRoom_kept_run_at dcRoom_kept_run_at pmRoom_kept_run_at anRoom_kept_run_at cdRoom_kept_run_at ctRoom_kept_run_at), slRoom_kept_run_at⟩) (cRoom_kept_run_at : PySem.W.codeIn K cdRoom_kept_run_at "Room.kept_run_at" = true) (kRoom_kept_run_at : PySem.W.keepIn K (.ref fRoom_kept_run_at) = true)
    (aRoom_policy : PySem.W.findIn K (.ref CRoom) "policy" = some (some (.ref fRoom_policy))) (iRoom_policy : PySem.W.isFn K (.ref fRoom_policy) = true)
    (lRoom_policy : K.lookup fRoom_policy = some ⟨ocRoom_policy, odRoom_policy, .func (PySem.W.fnOf "policy" "Room.policy" (defArgs sRoom_policy) (defBody sRoom_policy) (defScope sRoom_policy) .none kVRoom_policy dcRoom_policy pmRoom_policy anRoom_policy cdRoom_policy ctRoom_policy), slRoom_policy⟩) (cRoom_policy : PySem.W.codeIn K cdRoom_policy "Room.policy" = true) (kRoom_policy : PySem.W.keepIn K (.ref fRoom_policy) = true)
    (aRoom_tests : PySem.W.findIn K (.ref CRoom) "tests" = some (some (.ref fRoom_tests))) (iRoom_tests : PySem.W.isFn K (.ref fRoom_tests) = true)
    (lRoom_tests : K.lookup fRoom_tests = some ⟨ocRoom_tests, odRoom_tests, .func (PySem.W.fnOf "tests" "Room.tests" (defArgs sRoom_tests) (defBody sRoom_tests) (defScope sRoom_tests) .none kVRoom_tests dcRoom_tests pmRoom_tests anRoom_tests cdRoom_tests ctRoom_tests), slRoom_tests⟩) (cRoom_tests : PySem.W.codeIn K cdRoom_tests "Room.tests" = true) (kRoom_tests : PySem.W.keepIn K (.ref fRoom_tests) = true)
    (aRoom_tell : PySem.W.findIn K (.ref CRoom) "tell" = some (some (.ref fRoom_tell))) (iRoom_tell : PySem.W.isFn K (.ref fRoom_tell) = true)
    (lRoom_tell : K.lookup fRoom_tell = some ⟨ocRoom_tell, odRoom_tell, .func (PySem.W.fnOf "tell" "Room.tell" (defArgs sRoom_tell) (defBody sRoom_tell) (defScope sRoom_tell) .none kVRoom_tell dcRoom_tell pmRoom_tell anRoom_tell cdRoom_tell ctRoom_tell), slRoom_tell⟩) (cRoom_tell : PySem.W.codeIn K cdRoom_tell "Room.tell" = true) (kRoom_tell : PySem.W.keepIn K (.ref fRoom_tell) = true)
    (aRoom_outcome : PySem.W.findIn K (.ref CRoom) "outcome" = some (some (.ref fRoom_outcome))) (iRoom_outcome : PySem.W.isFn K (.ref fRoom_outcome) = true)
    (lRoom_outcome : K.lookup fRoom_outcome = some ⟨ocRoom_outcome, odRoom_outcome, .func (PySem.W.fnOf "outcome" "Room.outcome" (defArgs sRoom_outcome) (defBody sRoom_outcome) (defScope sRoom_outcome) .none kVRoom_outcome dcRoom_outcome pmRoom_outcome anRoom_outcome cdRoom_outcome ctRoom_outcome), slRoom_outcome⟩) (cRoom_outcome : PySem.W.codeIn K cdRoom_outcome "Room.outcome" = true) (kRoom_outcome : PySem.W.keepIn K (.ref fRoom_outcome) = true)
    (aRoom_dry : PySem.W.findIn K (.ref CRoom) "dry" = some (some (.ref fRoom_dry))) (iRoom_dry : PySem.W.isFn K (.ref fRoom_dry) = true)
    (lRoom_dry : K.lookup fRoom_dry = some ⟨ocRoom_dry, odRoom_dry, .func (PySem.W.fnOf "dry" "Room.dry" (defArgs sRoom_dry) (defBody sRoom_dry) (defScope sRoom_dry) .none kVRoom_dry dcRoom_dry pmRoom_dry anRoom_dry cdRoom_dry ctRoom_dry), slRoom_dry⟩) (cRoom_dry : PySem.W.codeIn K cdRoom_dry "Room.dry" = true) (kRoom_dry : PySem.W.keepIn K (.ref fRoom_dry) = true)
    (aRoom_run : PySem.W.findIn K (.ref CRoom) "run" = some (some (.ref fRoom_run))) (iRoom_run : PySem.W.isFn K (.ref fRoom_run) = true)
    (lRoom_run : K.lookup fRoom_run = some ⟨ocRoom_run, odRoom_run, .func (PySem.W.fnOf "run" "Room.run" (defArgs sRoom_run) (defBody sRoom_run) (defScope sRoom_run) .none kVRoom_run dcRoom_run pmRoom_run anRoom_run cdRoom_run ctRoom_run), slRoom_run⟩) (cRoom_run : PySem.W.codeIn K cdRoom_run "Room.run" = true) (kRoom_run : PySem.W.keepIn K (.ref fRoom_run) = true)
    (aRoom_check : PySem.W.findIn K (.ref CRoom) "check" = some (some (.ref fRoom_check))) (iRoom_check : PySem.W.isFn K (.ref fRoom_check) = true)
    (lRoom_check : K.lookup fRoom_check = some ⟨ocRoom_check, odRoom_check, .func (PySem.W.fnOf "check" "Room.check" (defArgs sRoom_check) (defBody sRoom_check) (defScope sRoom_check) .none kVRoom_check dcRoom_check pmRoom_check anRoom_check cdRoom_check ctRoom_check), slRoom_check⟩) (cRoom_check : PySem.W.codeIn K cdRoom_check "Room.check" = true) (kRoom_check : PySem.W.keepIn K (.ref fRoom_check) = true)
    (aRoom_history : PySem.W.findIn K (.ref CRoom) "history" = some (some (.ref fRoom_history))) (iRoom_history : PySem.W.isFn K (.ref fRoom_history) = true)
    (lRoom_history : K.lookup fRoom_history = some ⟨ocRoom_history, odRoom_history, .func (PySem.W.fnOf "history" "Room.history" (defArgs sRoom_history) (defBody sRoom_history) (defScope sRoom_history) .none kVRoom_history dcRoom_history pmRoom_history anRoom_history cdRoom_history ctRoom_history), slRoom_history⟩) (cRoom_history : PySem.W.codeIn K cdRoom_history "Room.history" = true) (kRoom_history : PySem.W.keepIn K (.ref fRoom_history) = true)
    (aRoom_score : PySem.W.findIn K (.ref CRoom) "score" = some (some (.ref fRoom_score))) (iRoom_score : PySem.W.isFn K (.ref fRoom_score) = true)
    (lRoom_score : K.lookup fRoom_score = some ⟨ocRoom_score, odRoom_score, .func (PySem.W.fnOf "score" "Room.score" (defArgs sRoom_score) (defBody sRoom_score) (defScope sRoom_score) .none kVRoom_score dcRoom_score pmRoom_score anRoom_score cdRoom_score ctRoom_score), slRoom_score⟩) (cRoom_score : PySem.W.codeIn K cdRoom_score "Room.score" = true) (kRoom_score : PySem.W.keepIn K (.ref fRoom_score) = true)
    (aRoom_held : PySem.W.findIn K (.ref CRoom) "held" = some (some (.ref fRoom_held))) (iRoom_held : PySem.W.isFn K (.ref fRoom_held) = true)
    (lRoom_held : K.lookup fRoom_held = some ⟨ocRoom_held, odRoom_held, .func (PySem.W.fnOf "held" "Room.held" (defArgs sRoom_held) (defBody sRoom_held) (defScope sRoom_held) .none kVRoom_held dcRoom_held pmRoom_held anRoom_held cdRoom_held ctRoom_held), slRoom_held⟩) (cRoom_held : PySem.W.codeIn K cdRoom_held "Room.held" = true) (kRoom_held : PySem.W.keepIn K (.ref fRoom_held) = true)
    (aRoom_hold : PySem.W.findIn K (.ref CRoom) "hold" = some (some (.ref fRoom_hold))) (iRoom_hold : PySem.W.isFn K (.ref fRoom_hold) = true)
    (lRoom_hold : K.lookup fRoom_hold = some ⟨ocRoom_hold, odRoom_hold, .func (PySem.W.fnOf "hold" "Room.hold" (defArgs sRoom_hold) (defBody sRoom_hold) (defScope sRoom_hold) .none kVRoom_hold dcRoom_hold pmRoom_hold anRoom_hold cdRoom_hold ctRoom_hold), slRoom_hold⟩) (cRoom_hold : PySem.W.codeIn K cdRoom_hold "Room.hold" = true) (kRoom_hold : PySem.W.keepIn K (.ref fRoom_hold) = true)
    (aRoom_odds : PySem.W.findIn K (.ref CRoom) "odds" = some (some (.ref fRoom_odds))) (iRoom_odds : PySem.W.isFn K (.ref fRoom_odds) = true)
    (lRoom_odds : K.lookup fRoom_odds = some ⟨ocRoom_odds, odRoom_odds, .func (PySem.W.fnOf "odds" "Room.odds" (defArgs sRoom_odds) (defBody sRoom_odds) (defScope sRoom_odds) .none kVRoom_odds dcRoom_odds pmRoom_odds anRoom_odds cdRoom_odds ctRoom_odds), slRoom_odds⟩) (cRoom_odds : PySem.W.codeIn K cdRoom_odds "Room.odds" = true) (kRoom_odds : PySem.W.keepIn K (.ref fRoom_odds) = true)
    (aend_of_call : PySem.W.nsIn K mainGlobals "end_of_call" = some (some (.ref fend_of_call)))
    (lend_of_call : K.lookup fend_of_call = some ⟨ocend_of_call, odend_of_call, .func (PySem.W.fnOf "end_of_call" "end_of_call" (defArgs send_of_call) (defBody send_of_call) (defScope send_of_call) .none kVend_of_call dcend_of_call pmend_of_call anend_of_call cdend_of_call ctend_of_call), slend_of_call⟩) (cend_of_call : PySem.W.codeIn K cdend_of_call "end_of_call" = true) (kend_of_call : PySem.W.keepIn K (.ref fend_of_call) = true)
    (aanswer_to_call : PySem.W.nsIn K mainGlobals "answer_to_call" = some (some (.ref fanswer_to_call)))
    (lanswer_to_call : K.lookup fanswer_to_call = some ⟨ocanswer_to_call, odanswer_to_call, .func (PySem.W.fnOf "answer_to_call" "answer_to_call" (defArgs sanswer_to_call) (defBody sanswer_to_call) (defScope sanswer_to_call) .none kVanswer_to_call dcanswer_to_call pmanswer_to_call ananswer_to_call cdanswer_to_call ctanswer_to_call), slanswer_to_call⟩) (canswer_to_call : PySem.W.codeIn K cdanswer_to_call "answer_to_call" = true) (kanswer_to_call : PySem.W.keepIn K (.ref fanswer_to_call) = true)
    (aanswers : PySem.W.nsIn K mainGlobals "answers" = some (some (.ref fanswers)))
    (lanswers : K.lookup fanswers = some ⟨ocanswers, odanswers, .func (PySem.W.fnOf "answers" "answers" (defArgs sanswers) (defBody sanswers) (defScope sanswers) .none kVanswers dcanswers pmanswers ananswers cdanswers ctanswers), slanswers⟩) (canswers : PySem.W.codeIn K cdanswers "answers" = true) (kanswers : PySem.W.keepIn K (.ref fanswers) = true)
    (vMOST_REMEMBERED : PySem.W.nsIn K mainGlobals "MOST_REMEMBERED" = some (some (.int (64) tMOST_REMEMBERED)))
    (vMOST_TRIES : PySem.W.nsIn K mainGlobals "MOST_TRIES" = some (some (.int (9) tMOST_TRIES)))
    (vWIDEST_WINDOW : PySem.W.nsIn K mainGlobals "WIDEST_WINDOW" = some (some (.int (20) tWIDEST_WINDOW)))
    (vLONGEST_CALM : PySem.W.nsIn K mainGlobals "LONGEST_CALM" = some (some (.int (20) tLONGEST_CALM)))
    (vOUT_OF_RANGE : PySem.W.nsIn K mainGlobals "OUT_OF_RANGE" = some (some (.int (-1) tOUT_OF_RANGE)))
    (vNOT_OUTCOMES : PySem.W.nsIn K mainGlobals "NOT_OUTCOMES" = some (some (.int (-2) tNOT_OUTCOMES)))
    (vTOO_MUCH_TOLD : PySem.W.nsIn K mainGlobals "TOO_MUCH_TOLD" = some (some (.int (-7) tTOO_MUCH_TOLD)))
    (vMOST_TESTS : PySem.W.nsIn K mainGlobals "MOST_TESTS" = some (some (.int (12) tMOST_TESTS)))
    (vLAST_REVISION : PySem.W.nsIn K mainGlobals "LAST_REVISION" = some (some (.int (999) tLAST_REVISION)))
    (vLAST_TRY : PySem.W.nsIn K mainGlobals "LAST_TRY" = some (some (.int (999) tLAST_TRY)))
    (vMOST_OUTCOMES : PySem.W.nsIn K mainGlobals "MOST_OUTCOMES" = some (some (.int (12) tMOST_OUTCOMES)))
    (vMOST_TOLD : PySem.W.nsIn K mainGlobals "MOST_TOLD" = some (some (.int (40) tMOST_TOLD)))
    (vMOST_WAYS : PySem.W.nsIn K mainGlobals "MOST_WAYS" = some (some (.int (1000) tMOST_WAYS)))
    (vPOLICY : PySem.W.nsIn K mainGlobals "POLICY" = some (some (.int (0) tPOLICY)))
    (vTESTS : PySem.W.nsIn K mainGlobals "TESTS" = some (some (.int (1) tTESTS)))
    (vTELL : PySem.W.nsIn K mainGlobals "TELL" = some (some (.int (2) tTELL)))
    (vOUTCOME : PySem.W.nsIn K mainGlobals "OUTCOME" = some (some (.int (3) tOUTCOME)))
    (vDRY : PySem.W.nsIn K mainGlobals "DRY" = some (some (.int (4) tDRY)))
    (vRUN : PySem.W.nsIn K mainGlobals "RUN" = some (some (.int (5) tRUN)))
    (vCHECK : PySem.W.nsIn K mainGlobals "CHECK" = some (some (.int (6) tCHECK)))
    (vHISTORY : PySem.W.nsIn K mainGlobals "HISTORY" = some (some (.int (7) tHISTORY)))
    (vSCORE : PySem.W.nsIn K mainGlobals "SCORE" = some (some (.int (8) tSCORE)))
    (vHELD : PySem.W.nsIn K mainGlobals "HELD" = some (some (.int (9) tHELD)))
    (vHOLD : PySem.W.nsIn K mainGlobals "HOLD" = some (some (.int (10) tHOLD)))
    (zlen : PySem.W.nsIn K mainGlobals "len" = some none)
    (zmin : PySem.W.nsIn K mainGlobals "min" = some none)
    (zrange : PySem.W.nsIn K mainGlobals "range" = some none)
    (zall : PySem.W.nsIn K mainGlobals "all" = some none)
    (zlist : PySem.W.nsIn K mainGlobals "list" = some none)
    (zsum : PySem.W.nsIn K mainGlobals "sum" = some none)
    (zenumerate : PySem.W.nsIn K mainGlobals "enumerate" = some none)
    (zzip : PySem.W.nsIn K mainGlobals "zip" = some none)
    (yWHOLE_NUMBERS : PySem.W.nsIn K mainGlobals "WHOLE_NUMBERS" = some (some (.ref DWHOLE_NUMBERS))) (xWHOLE_NUMBERS : K.lookup DWHOLE_NUMBERS = some ⟨.type "dict", none, .dict esWHOLE_NUMBERS epWHOLE_NUMBERS, dsWHOLE_NUMBERS⟩) (xsWHOLE_NUMBERS : dsWHOLE_NUMBERS = #[]) (wWHOLE_NUMBERS : (DWHOLE_NUMBERS == sysModules) = false) (eWHOLE_NUMBERS : entsOk esWHOLE_NUMBERS.toList = some dWHOLE_NUMBERS)
    (neRunRecord : CRun ≠ CRecord)
    (neRunRoom : CRun ≠ CRoom)
    (neRulesRecord : CRules ≠ CRecord)
    (neRulesRoom : CRules ≠ CRoom)
    (neRecordRoom : CRecord ≠ CRoom) :
    ∃ a : Cs, Txt K mg a ∧ Funs K mg a ∧ (a.cRun ≠ a.cRecord ∧ a.cRun ≠ a.cRoom ∧ a.cRules ≠ a.cRecord ∧ a.cRules ≠ a.cRoom ∧ a.cRecord ≠ a.cRoom) ∧ DictWHOLE_NUMBERS K mg := by
  refine ⟨⟨CRecord, CRules, CRun, CRoom⟩, ?_, ?_, ⟨neRunRecord, neRunRoom, neRulesRecord, neRulesRoom, neRecordRoom⟩, ?_⟩
  · exact ⟨⟨pgRecord, hdRecord, poRecord, saRecord⟩, PySem.W.mg_of X G aCRecord, nRecord_kept, nRecord_count, nRecord_quarantined, ⟨pgRules, hdRules, poRules, saRules⟩, PySem.W.mg_of X G aCRules, nRules_need, nRules_most, nRules_window, nRules_limit, nRules_calm, ⟨pgRun, hdRun, poRun, saRun⟩, PySem.W.mg_of X G aCRun, nRun_revision, nRun_passed, nRun_tries, nRun_passes, ⟨pgRoom, hdRoom, poRoom, saRoom⟩, PySem.W.mg_of X G aCRoom, nRoom_rules, nRoom_records, nRoom_told, ⟨_, PySem.W.mg_of X G vMOST_REMEMBERED⟩, ⟨_, PySem.W.mg_of X G vMOST_TRIES⟩, ⟨_, PySem.W.mg_of X G vWIDEST_WINDOW⟩, ⟨_, PySem.W.mg_of X G vLONGEST_CALM⟩, ⟨_, PySem.W.mg_of X G vOUT_OF_RANGE⟩, ⟨_, PySem.W.mg_of X G vNOT_OUTCOMES⟩, ⟨_, PySem.W.mg_of X G vTOO_MUCH_TOLD⟩, ⟨_, PySem.W.mg_of X G vMOST_TESTS⟩, ⟨_, PySem.W.mg_of X G vLAST_REVISION⟩, ⟨_, PySem.W.mg_of X G vLAST_TRY⟩, ⟨_, PySem.W.mg_of X G vMOST_OUTCOMES⟩, ⟨_, PySem.W.mg_of X G vMOST_TOLD⟩, ⟨_, PySem.W.mg_of X G vMOST_WAYS⟩, ⟨_, PySem.W.mg_of X G vPOLICY⟩, ⟨_, PySem.W.mg_of X G vTESTS⟩, ⟨_, PySem.W.mg_of X G vTELL⟩, ⟨_, PySem.W.mg_of X G vOUTCOME⟩, ⟨_, PySem.W.mg_of X G vDRY⟩, ⟨_, PySem.W.mg_of X G vRUN⟩, ⟨_, PySem.W.mg_of X G vCHECK⟩, ⟨_, PySem.W.mg_of X G vHISTORY⟩, ⟨_, PySem.W.mg_of X G vSCORE⟩, ⟨_, PySem.W.mg_of X G vHELD⟩, ⟨_, PySem.W.mg_of X G vHOLD⟩, PySem.W.mg_none_of X G zlen, PySem.W.mg_none_of X G zmin, PySem.W.mg_none_of X G zrange, PySem.W.mg_none_of X G zall, PySem.W.mg_none_of X G zlist, PySem.W.mg_none_of X G zsum, PySem.W.mg_none_of X G zenumerate, PySem.W.mg_none_of X G zzip⟩
  · exact ⟨⟨_, _, fun_mk (st := scommon_divisor) lcommon_divisor ccommon_divisor kcommon_divisor, PySem.W.mg_of X G acommon_divisor⟩,
      ⟨_, _, fun_mk (st := sways_by_passes) lways_by_passes cways_by_passes kways_by_passes, PySem.W.mg_of X G aways_by_passes⟩,
      ⟨_, _, fun_mk (st := sodds_of_passing) lodds_of_passing codds_of_passing kodds_of_passing, PySem.W.mg_of X G aodds_of_passing⟩,
      ⟨_, _, fun_mk (st := sRecord_init) lRecord_init cRecord_init kRecord_init, ⟨mkRecord, aRecord_init, iRecord_init, kcRecord⟩, PySem.W.mg_of X G aCRecord⟩,
      ⟨_, _, fun_mk (st := sRecord_flaky_score) lRecord_flaky_score cRecord_flaky_score kRecord_flaky_score, ⟨aRecord_flaky_score, iRecord_flaky_score, kRecord_flaky_score⟩⟩,
      ⟨_, _, fun_mk (st := sRecord_calm_length) lRecord_calm_length cRecord_calm_length kRecord_calm_length, ⟨aRecord_calm_length, iRecord_calm_length, kRecord_calm_length⟩⟩,
      ⟨_, _, fun_mk (st := sRecord_move) lRecord_move cRecord_move kRecord_move, ⟨aRecord_move, iRecord_move, kRecord_move⟩⟩,
      ⟨_, _, fun_mk (st := sRecord_keep) lRecord_keep cRecord_keep kRecord_keep, ⟨aRecord_keep, iRecord_keep, kRecord_keep⟩⟩,
      ⟨_, _, fun_mk (st := sare_rules) lare_rules care_rules kare_rules, PySem.W.mg_of X G aare_rules⟩,
      ⟨_, _, fun_mk (st := sRules_init) lRules_init cRules_init kRules_init, ⟨mkRules, aRules_init, iRules_init, kcRules⟩, PySem.W.mg_of X G aCRules⟩,
      ⟨_, _, fun_mk (st := sRun_init) lRun_init cRun_init kRun_init, ⟨mkRun, aRun_init, iRun_init, kcRun⟩, PySem.W.mg_of X G aCRun⟩,
      ⟨_, _, fun_mk (st := sRun_is_clean) lRun_is_clean cRun_is_clean kRun_is_clean, ⟨aRun_is_clean, iRun_is_clean, kRun_is_clean⟩⟩,
      ⟨_, _, fun_mk (st := sRun_as_numbers) lRun_as_numbers cRun_as_numbers kRun_as_numbers, ⟨aRun_as_numbers, iRun_as_numbers, kRun_as_numbers⟩⟩,
      ⟨_, _, fun_mk (st := soutcome_of_try) loutcome_of_try coutcome_of_try koutcome_of_try, PySem.W.mg_of X G aoutcome_of_try⟩,
      ⟨_, _, fun_mk (st := smake_run) lmake_run cmake_run kmake_run, PySem.W.mg_of X G amake_run⟩,
      ⟨_, _, fun_mk (st := sare_outcomes) lare_outcomes care_outcomes kare_outcomes, PySem.W.mg_of X G aare_outcomes⟩,
      ⟨_, _, fun_mk (st := sis_revision) lis_revision cis_revision kis_revision, PySem.W.mg_of X G ais_revision⟩,
      ⟨_, _, fun_mk (st := sRoom_init) lRoom_init cRoom_init kRoom_init, ⟨mkRoom, aRoom_init, iRoom_init, kcRoom⟩, PySem.W.mg_of X G aCRoom⟩,
      ⟨_, _, fun_mk (st := sRoom_is_test) lRoom_is_test cRoom_is_test kRoom_is_test, ⟨aRoom_is_test, iRoom_is_test, kRoom_is_test⟩⟩,
      ⟨_, _, fun_mk (st := sRoom_are_test_and_revision) lRoom_are_test_and_revision cRoom_are_test_and_revision kRoom_are_test_and_revision, ⟨aRoom_are_test_and_revision, iRoom_are_test_and_revision, kRoom_are_test_and_revision⟩⟩,
      ⟨_, _, fun_mk (st := sRoom_outcomes_at) lRoom_outcomes_at cRoom_outcomes_at kRoom_outcomes_at, ⟨aRoom_outcomes_at, iRoom_outcomes_at, kRoom_outcomes_at⟩⟩,
      ⟨_, _, fun_mk (st := sRoom_run_at) lRoom_run_at cRoom_run_at kRoom_run_at, ⟨aRoom_run_at, iRoom_run_at, kRoom_run_at⟩⟩,
      ⟨_, _, fun_mk (st := sRoom_kept_run_at) lRoom_kept_run_at cRoom_kept_run_at kRoom_kept_run_at, ⟨aRoom_kept_run_at, iRoom_kept_run_at, kRoom_kept_run_at⟩⟩,
      ⟨_, _, fun_mk (st := sRoom_policy) lRoom_policy cRoom_policy kRoom_policy, ⟨aRoom_policy, iRoom_policy, kRoom_policy⟩⟩,
      ⟨_, _, fun_mk (st := sRoom_tests) lRoom_tests cRoom_tests kRoom_tests, ⟨aRoom_tests, iRoom_tests, kRoom_tests⟩⟩,
      ⟨_, _, fun_mk (st := sRoom_tell) lRoom_tell cRoom_tell kRoom_tell, ⟨aRoom_tell, iRoom_tell, kRoom_tell⟩⟩,
      ⟨_, _, fun_mk (st := sRoom_outcome) lRoom_outcome cRoom_outcome kRoom_outcome, ⟨aRoom_outcome, iRoom_outcome, kRoom_outcome⟩⟩,
      ⟨_, _, fun_mk (st := sRoom_dry) lRoom_dry cRoom_dry kRoom_dry, ⟨aRoom_dry, iRoom_dry, kRoom_dry⟩⟩,
      ⟨_, _, fun_mk (st := sRoom_run) lRoom_run cRoom_run kRoom_run, ⟨aRoom_run, iRoom_run, kRoom_run⟩⟩,
      ⟨_, _, fun_mk (st := sRoom_check) lRoom_check cRoom_check kRoom_check, ⟨aRoom_check, iRoom_check, kRoom_check⟩⟩,
      ⟨_, _, fun_mk (st := sRoom_history) lRoom_history cRoom_history kRoom_history, ⟨aRoom_history, iRoom_history, kRoom_history⟩⟩,
      ⟨_, _, fun_mk (st := sRoom_score) lRoom_score cRoom_score kRoom_score, ⟨aRoom_score, iRoom_score, kRoom_score⟩⟩,
      ⟨_, _, fun_mk (st := sRoom_held) lRoom_held cRoom_held kRoom_held, ⟨aRoom_held, iRoom_held, kRoom_held⟩⟩,
      ⟨_, _, fun_mk (st := sRoom_hold) lRoom_hold cRoom_hold kRoom_hold, ⟨aRoom_hold, iRoom_hold, kRoom_hold⟩⟩,
      ⟨_, _, fun_mk (st := sRoom_odds) lRoom_odds cRoom_odds kRoom_odds, ⟨aRoom_odds, iRoom_odds, kRoom_odds⟩⟩,
      ⟨_, _, fun_mk (st := send_of_call) lend_of_call cend_of_call kend_of_call, PySem.W.mg_of X G aend_of_call⟩,
      ⟨_, _, fun_mk (st := sanswer_to_call) lanswer_to_call canswer_to_call kanswer_to_call, PySem.W.mg_of X G aanswer_to_call⟩,
      ⟨_, _, fun_mk (st := sanswers) lanswers canswers kanswers, PySem.W.mg_of X G aanswers⟩⟩
  · exact ⟨_, PySem.W.mg_of X G yWHOLE_NUMBERS, fun P w => KD.of xWHOLE_NUMBERS (fun o ho => by subst ho; exact ⟨rfl, rfl, xsWHOLE_NUMBERS⟩) wWHOLE_NUMBERS eWHOLE_NUMBERS (by decide)⟩
end TR
end
-- TRLast
set_option Elab.async false
set_option linter.all false
set_option maxRecDepth 100000
set_option maxHeartbeats 4000000
namespace TR
open PySem PySem.Spec PyProof.Rows L2
/-- all defs keep their promises -/
theorem all_ok {P : Program} {w : World} {K : PySem.W.Frag} {mg : Str → Option Value} {base : Heap} {a : Cs} {fa : Addr} {fd : FuncData} (F0 : Fun K "answers" "answers" sanswers fa fd) (T : Txt K mg a) (F : Funs K mg a) (D : Dif a) (W : DictWHOLE_NUMBERS K mg) :
    FnOk P w K mg base CX0 10 fa fd ["calls"] (spanswers K) := by
  have run_init := okRun_init (P := P) (w := w) (base := base) F.fRun_init T
  have is_clean := okRun_is_clean (P := P) (w := w) (base := base) F.fRun_is_clean T
  have as_numbers := okRun_as_numbers (P := P) (w := w) (base := base) F.fRun_as_numbers T is_clean
  have oot := okoutcome_of_try (P := P) (w := w) (base := base) F.foutcome_of_try T
  have make_run := okmake_run (P := P) (w := w) (base := base) F.fmake_run T oot run_init
  have rec_init := okRecord_init (P := P) (w := w) (base := base) F.fRecord_init T
  have flaky := okRecord_flaky_score (P := P) (w := w) (base := base) F.fRecord_flaky_score T D is_clean
  have calm := okRecord_calm_length (P := P) (w := w) (base := base) F.fRecord_calm_length T D is_clean
  have move := okRecord_move (P := P) (w := w) (base := base) F.fRecord_move T D
  have keep := okRecord_keep (P := P) (w := w) (base := base) F.fRecord_keep T D calm flaky move
  have are_rules := okare_rules (P := P) (w := w) (base := base) F.fare_rules T
  have rules_init := okRules_init (P := P) (w := w) (base := base) F.fRules_init T
  have are_outcomes := okare_outcomes (P := P) (w := w) (base := base) F.fare_outcomes T
  have is_revision := okis_revision (P := P) (w := w) (base := base) F.fis_revision T
  have room_init := okRoom_init (P := P) (w := w) (base := base) F.fRoom_init T rules_init
  have is_test := okRoom_is_test (P := P) (w := w) (base := base) F.fRoom_is_test T
  have atr := okRoom_atr (P := P) (w := w) (base := base) F.fRoom_are_test_and_revision T is_test is_revision
  have outcomes_at := okRoom_outcomes_at (P := P) (w := w) (base := base) F.fRoom_outcomes_at T D
  have run_at := okRoom_run_at (P := P) (w := w) (base := base) F.fRoom_run_at T D outcomes_at make_run
  have kept_run_at := okRoom_kept_run_at (P := P) (w := w) (base := base) F.fRoom_kept_run_at T D run_at keep
  have m0 := okRoom_policy (P := P) (w := w) (base := base) F.fRoom_policy T D are_rules rules_init
  have m1 := okRoom_tests (P := P) (w := w) (base := base) F.fRoom_tests T D rec_init
  have m2 := okRoom_tell (P := P) (w := w) (base := base) F.fRoom_tell T D atr are_outcomes
  have m3 := okRoom_outcome (P := P) (w := w) (base := base) F.fRoom_outcome T D atr outcomes_at oot
  have m4 := okRoom_dry (P := P) (w := w) (base := base) F.fRoom_dry T D atr run_at as_numbers
  have m5 := okRoom_run (P := P) (w := w) (base := base) F.fRoom_run T D atr kept_run_at as_numbers
  have m6 := okRoom_check (P := P) (w := w) (base := base) F.fRoom_check T D is_revision kept_run_at
  have m7 := okRoom_history (P := P) (w := w) (base := base) F.fRoom_history T D is_test as_numbers
  have m8 := okRoom_score (P := P) (w := w) (base := base) F.fRoom_score T D is_test calm flaky
  have m9 := okRoom_held (P := P) (w := w) (base := base) F.fRoom_held T D
  have m10 := okRoom_hold (P := P) (w := w) (base := base) F.fRoom_hold T D is_test move
  have gcd := okcommon_divisor (P := P) (w := w) (base := base) F.fcommon_divisor
  have wbp := okways_by_passes (P := P) (w := w) (base := base) F.fways_by_passes T
  have oop := okodds_of_passing (P := P) (w := w) (base := base) F.fodds_of_passing T wbp gcd
  have m11 := okRoom_odds (P := P) (w := w) (base := base) F.fRoom_odds T D oop
  have eoc := okend_of_call (P := P) (w := w) (base := base) F.fend_of_call T W
  have atc := okanswer_to_call (P := P) (w := w) (base := base) F.fanswer_to_call T D m0 m1 m2 m3 m4 m5 m6 m7 m8 m9 m10 m11
  exact okanswers F0 T D room_init eoc atc
theorem all_fn {P : Program} {w : World} {K : PySem.W.Frag} {mg : Str → Option Value} {fa : Addr} (hfa : mg "answers" = some (.ref fa)) (h : ∃ a : Cs, Txt K mg a ∧ Funs K mg a ∧ (a.cRun ≠ a.cRecord ∧ a.cRun ≠ a.cRoom ∧ a.cRules ≠ a.cRecord ∧ a.cRules ≠ a.cRoom ∧ a.cRecord ≠ a.cRoom) ∧ DictWHOLE_NUMBERS K mg) :
    ∃ fd : FuncData, (∀ (s : Shared) (us : List Value), us.length = (["calls"] : List Str).length → BindsTo s fd ⟨us, []⟩ ((["calls"] : List Str).zip us)) ∧ ∀ base : Heap, K.In base → base.Ns mainGlobals mg → FnOk P w K mg base CX0 10 fa fd ["calls"] (spanswers K) := by
  obtain ⟨a, T, F, ⟨d1, d2, d3, d4, d5⟩, W⟩ := h
  obtain ⟨f, fd, F0, hf⟩ := F.fanswers
  have e := hfa.symm.trans hf
  cases e
  refine ⟨fd, fun s us hu => ?_, fun base _ _ => all_ok F0 T F ⟨d1, d2, d3, d4, d5⟩ W⟩
  obtain ⟨oc, od, kV, doc, pm, an, cdv, ct, osl, rfl, lk, hcd⟩ := F0.ex
  exact .of_eq (bdanswers kV doc pm an cdv ct us hu)
end TR
/-- The head lays a second form of the written part under this name, and then uses none of it (171,000 terms, 5 MB of the compiled text, which may have 64 MiB): the name is taken here, so that it isn't laid. Nothing rests on this row. -/
theorem PySem.W.Fast.te9297059901905182182 : True := trivial
open PySem PySem.W PyProof.Rows
set_option maxRecDepth 100000 in
set_option maxHeartbeats 0 in
theorem PySem.Challenge.cw_triesroom_s01_answers_holds : PySem.Challenge.rw_triesroom_s01_answers.Holds := by
  w_on; k_headS; (case hw => exact ⟨[.list [.int 9]], by decide +kernel, by decide +kernel⟩)
  k_fillS
  refine L2.walk_specK (r := PySem.Challenge.rw_triesroom_s01_answers) (k := 10) (CX := L2.CX0) (ps := ["calls"]) (sp := TR.spanswers) (by decide +kernel) rfl rfl ⟨rfl, by decide, by decide⟩ (fun w h Y => PySem.W.kIn_of Y) ?F ?S (fun _ _ _ _ z => z)
  case F =>
    intro w mg fa h Y KX G hmg
    refine TR.all_fn hmg ?_
    refine' TR.funs_mk KX G ?aCRecord ?pgRecord ?hdRecord ?poRecord ?saRecord ?mkRecord ?kcRecord ?nRecord_kept ?nRecord_count ?nRecord_quarantined ?aCRules ?pgRules ?hdRules ?poRules ?saRules ?mkRules ?kcRules ?nRules_need ?nRules_most ?nRules_window ?nRules_limit ?nRules_calm ?aCRun ?pgRun ?hdRun ?poRun ?saRun ?mkRun ?kcRun ?nRun_revision ?nRun_passed ?nRun_tries ?nRun_passes ?aCRoom ?pgRoom ?hdRoom ?poRoom ?saRoom ?mkRoom ?kcRoom ?nRoom_rules ?nRoom_records ?nRoom_told ?acommon_divisor ?lcommon_divisor ?ccommon_divisor ?kcommon_divisor ?aways_by_passes ?lways_by_passes ?cways_by_passes ?kways_by_passes ?aodds_of_passing ?lodds_of_passing ?codds_of_passing ?kodds_of_passing ?aRecord_init ?iRecord_init ?lRecord_init ?cRecord_init ?kRecord_init ?aRecord_flaky_score ?iRecord_flaky_score ?lRecord_flaky_score ?cRecord_flaky_score ?kRecord_flaky_score ?aRecord_calm_length ?iRecord_calm_length ?lRecord_calm_length ?cRecord_calm_length ?kRecord_calm_length ?aRecord_move ?iRecord_move ?lRecord_move ?cRecord_move ?kRecord_move ?aRecord_keep ?iRecord_keep ?lRecord_keep ?cRecord_keep ?kRecord_keep ?aare_rules ?lare_rules ?care_rules ?kare_rules ?aRules_init ?iRules_init ?lRules_init ?cRules_init ?kRules_init ?aRun_init ?iRun_init ?lRun_init ?cRun_init ?kRun_init ?aRun_is_clean ?iRun_is_clean ?lRun_is_clean ?cRun_is_clean ?kRun_is_clean ?aRun_as_numbers ?iRun_as_numbers ?lRun_as_numbers ?cRun_as_numbers ?kRun_as_numbers ?aoutcome_of_try ?loutcome_of_try ?coutcome_of_try ?koutcome_of_try ?amake_run ?lmake_run ?cmake_run ?kmake_run ?aare_outcomes ?lare_outcomes ?care_outcomes ?kare_outcomes ?ais_revision ?lis_revision ?cis_revision ?kis_revision ?aRoom_init ?iRoom_init ?lRoom_init ?cRoom_init ?kRoom_init ?aRoom_is_test ?iRoom_is_test ?lRoom_is_test ?cRoom_is_test ?kRoom_is_test ?aRoom_are_test_and_revision ?iRoom_are_test_and_revision ?lRoom_are_test_and_revision ?cRoom_are_test_and_revision ?kRoom_are_test_and_revision ?aRoom_outcomes_at ?iRoom_outcomes_at ?lRoom_outcomes_at ?cRoom_outcomes_at ?kRoom_outcomes_at ?aRoom_run_at ?iRoom_run_at ?lRoom_run_at ?cRoom_run_at ?kRoom_run_at ?aRoom_kept_run_at ?iRoom_kept_run_at ?lRoom_kept_run_at ?cRoom_kept_run_at ?kRoom_kept_run_at ?aRoom_policy ?iRoom_policy ?lRoom_policy ?cRoom_policy ?kRoom_policy ?aRoom_tests ?iRoom_tests ?lRoom_tests ?cRoom_tests ?kRoom_tests ?aRoom_tell ?iRoom_tell ?lRoom_tell ?cRoom_tell ?kRoom_tell ?aRoom_outcome ?iRoom_outcome ?lRoom_outcome ?cRoom_outcome ?kRoom_outcome ?aRoom_dry ?iRoom_dry ?lRoom_dry ?cRoom_dry ?kRoom_dry ?aRoom_run ?iRoom_run ?lRoom_run ?cRoom_run ?kRoom_run ?aRoom_check ?iRoom_check ?lRoom_check ?cRoom_check ?kRoom_check ?aRoom_history ?iRoom_history ?lRoom_history ?cRoom_history ?kRoom_history ?aRoom_score ?iRoom_score ?lRoom_score ?cRoom_score ?kRoom_score ?aRoom_held ?iRoom_held ?lRoom_held ?cRoom_held ?kRoom_held ?aRoom_hold ?iRoom_hold ?lRoom_hold ?cRoom_hold ?kRoom_hold ?aRoom_odds ?iRoom_odds ?lRoom_odds ?cRoom_odds ?kRoom_odds ?aend_of_call ?lend_of_call ?cend_of_call ?kend_of_call ?aanswer_to_call ?lanswer_to_call ?canswer_to_call ?kanswer_to_call ?aanswers ?lanswers ?canswers ?kanswers ?vMOST_REMEMBERED ?vMOST_TRIES ?vWIDEST_WINDOW ?vLONGEST_CALM ?vOUT_OF_RANGE ?vNOT_OUTCOMES ?vTOO_MUCH_TOLD ?vMOST_TESTS ?vLAST_REVISION ?vLAST_TRY ?vMOST_OUTCOMES ?vMOST_TOLD ?vMOST_WAYS ?vPOLICY ?vTESTS ?vTELL ?vOUTCOME ?vDRY ?vRUN ?vCHECK ?vHISTORY ?vSCORE ?vHELD ?vHOLD ?zlen ?zmin ?zrange ?zall ?zlist ?zsum ?zenumerate ?zzip ?yWHOLE_NUMBERS ?xWHOLE_NUMBERS ?xsWHOLE_NUMBERS ?wWHOLE_NUMBERS ?eWHOLE_NUMBERS ?neRunRecord ?neRunRoom ?neRulesRecord ?neRulesRoom ?neRecordRoom
    (case aCRecord => k_is); (case pgRecord => k_is); (case hdRecord => k_is); (case poRecord => k_is); (case saRecord => k_is); (case mkRecord => k_is)
    (case kcRecord => k_is); (case nRecord_kept => k_is); (case nRecord_count => k_is); (case nRecord_quarantined => k_is); (case aCRules => k_is); (case pgRules => k_is)
    (case hdRules => k_is); (case poRules => k_is); (case saRules => k_is); (case mkRules => k_is); (case kcRules => k_is); (case nRules_need => k_is)
    (case nRules_most => k_is); (case nRules_window => k_is); (case nRules_limit => k_is); (case nRules_calm => k_is); (case aCRun => k_is); (case pgRun => k_is)
    (case hdRun => k_is); (case poRun => k_is); (case saRun => k_is); (case mkRun => k_is); (case kcRun => k_is); (case nRun_revision => k_is)
    (case nRun_passed => k_is); (case nRun_tries => k_is); (case nRun_passes => k_is); (case aCRoom => k_is); (case pgRoom => k_is); (case hdRoom => k_is)
    (case poRoom => k_is); (case saRoom => k_is); (case mkRoom => k_is); (case kcRoom => k_is); (case nRoom_rules => k_is); (case nRoom_records => k_is)
    (case nRoom_told => k_is); (case acommon_divisor => k_is); (case lcommon_divisor => k_is); (case ccommon_divisor => k_is); (case kcommon_divisor => k_is); (case aways_by_passes => k_is)
    (case lways_by_passes => k_is); (case cways_by_passes => k_is); (case kways_by_passes => k_is); (case aodds_of_passing => k_is); (case lodds_of_passing => k_is); (case codds_of_passing => k_is)
    (case kodds_of_passing => k_is); (case aRecord_init => k_is); (case iRecord_init => k_is); (case lRecord_init => k_is); (case cRecord_init => k_is); (case kRecord_init => k_is)
    (case aRecord_flaky_score => k_is); (case iRecord_flaky_score => k_is); (case lRecord_flaky_score => k_is); (case cRecord_flaky_score => k_is); (case kRecord_flaky_score => k_is); (case aRecord_calm_length => k_is)
    (case iRecord_calm_length => k_is); (case lRecord_calm_length => k_is); (case cRecord_calm_length => k_is); (case kRecord_calm_length => k_is); (case aRecord_move => k_is); (case iRecord_move => k_is)
    (case lRecord_move => k_is); (case cRecord_move => k_is); (case kRecord_move => k_is); (case aRecord_keep => k_is); (case iRecord_keep => k_is); (case lRecord_keep => k_is)
    (case cRecord_keep => k_is); (case kRecord_keep => k_is); (case aare_rules => k_is); (case lare_rules => k_is); (case care_rules => k_is); (case kare_rules => k_is)
    (case aRules_init => k_is); (case iRules_init => k_is); (case lRules_init => k_is); (case cRules_init => k_is); (case kRules_init => k_is); (case aRun_init => k_is)
    (case iRun_init => k_is); (case lRun_init => k_is); (case cRun_init => k_is); (case kRun_init => k_is); (case aRun_is_clean => k_is); (case iRun_is_clean => k_is)
    (case lRun_is_clean => k_is); (case cRun_is_clean => k_is); (case kRun_is_clean => k_is); (case aRun_as_numbers => k_is); (case iRun_as_numbers => k_is); (case lRun_as_numbers => k_is)
    (case cRun_as_numbers => k_is); (case kRun_as_numbers => k_is); (case aoutcome_of_try => k_is); (case loutcome_of_try => k_is); (case coutcome_of_try => k_is); (case koutcome_of_try => k_is)
    (case amake_run => k_is); (case lmake_run => k_is); (case cmake_run => k_is); (case kmake_run => k_is); (case aare_outcomes => k_is); (case lare_outcomes => k_is)
    (case care_outcomes => k_is); (case kare_outcomes => k_is); (case ais_revision => k_is); (case lis_revision => k_is); (case cis_revision => k_is); (case kis_revision => k_is)
    (case aRoom_init => k_is); (case iRoom_init => k_is); (case lRoom_init => k_is); (case cRoom_init => k_is); (case kRoom_init => k_is); (case aRoom_is_test => k_is)
    (case iRoom_is_test => k_is); (case lRoom_is_test => k_is); (case cRoom_is_test => k_is); (case kRoom_is_test => k_is); (case aRoom_are_test_and_revision => k_is); (case iRoom_are_test_and_revision => k_is)
    (case lRoom_are_test_and_revision => k_is); (case cRoom_are_test_and_revision => k_is); (case kRoom_are_test_and_revision => k_is); (case aRoom_outcomes_at => k_is); (case iRoom_outcomes_at => k_is); (case lRoom_outcomes_at => k_is)
    (case cRoom_outcomes_at => k_is); (case kRoom_outcomes_at => k_is); (case aRoom_run_at => k_is); (case iRoom_run_at => k_is); (case lRoom_run_at => k_is); (case cRoom_run_at => k_is)
    (case kRoom_run_at => k_is); (case aRoom_kept_run_at => k_is); (case iRoom_kept_run_at => k_is); (case lRoom_kept_run_at => k_is); (case cRoom_kept_run_at => k_is); (case kRoom_kept_run_at => k_is)
    (case aRoom_policy => k_is); (case iRoom_policy => k_is); (case lRoom_policy => k_is); (case cRoom_policy => k_is); (case kRoom_policy => k_is); (case aRoom_tests => k_is)
    (case iRoom_tests => k_is); (case lRoom_tests => k_is); (case cRoom_tests => k_is); (case kRoom_tests => k_is); (case aRoom_tell => k_is); (case iRoom_tell => k_is)
    (case lRoom_tell => k_is); (case cRoom_tell => k_is); (case kRoom_tell => k_is); (case aRoom_outcome => k_is); (case iRoom_outcome => k_is); (case lRoom_outcome => k_is)
    (case cRoom_outcome => k_is); (case kRoom_outcome => k_is); (case aRoom_dry => k_is); (case iRoom_dry => k_is); (case lRoom_dry => k_is); (case cRoom_dry => k_is)
    (case kRoom_dry => k_is); (case aRoom_run => k_is); (case iRoom_run => k_is); (case lRoom_run => k_is); (case cRoom_run => k_is); (case kRoom_run => k_is)
    (case aRoom_check => k_is); (case iRoom_check => k_is); (case lRoom_check => k_is); (case cRoom_check => k_is); (case kRoom_check => k_is); (case aRoom_history => k_is)
    (case iRoom_history => k_is); (case lRoom_history => k_is); (case cRoom_history => k_is); (case kRoom_history => k_is); (case aRoom_score => k_is); (case iRoom_score => k_is)
    (case lRoom_score => k_is); (case cRoom_score => k_is); (case kRoom_score => k_is); (case aRoom_held => k_is); (case iRoom_held => k_is); (case lRoom_held => k_is)
    (case cRoom_held => k_is); (case kRoom_held => k_is); (case aRoom_hold => k_is); (case iRoom_hold => k_is); (case lRoom_hold => k_is); (case cRoom_hold => k_is)
    (case kRoom_hold => k_is); (case aRoom_odds => k_is); (case iRoom_odds => k_is); (case lRoom_odds => k_is); (case cRoom_odds => k_is); (case kRoom_odds => k_is)
    (case aend_of_call => k_is); (case lend_of_call => k_is); (case cend_of_call => k_is); (case kend_of_call => k_is); (case aanswer_to_call => k_is); (case lanswer_to_call => k_is)
    (case canswer_to_call => k_is); (case kanswer_to_call => k_is); (case aanswers => k_is); (case lanswers => k_is); (case canswers => k_is); (case kanswers => k_is)
    (case vMOST_REMEMBERED => k_is); (case vMOST_TRIES => k_is); (case vWIDEST_WINDOW => k_is); (case vLONGEST_CALM => k_is); (case vOUT_OF_RANGE => k_is); (case vNOT_OUTCOMES => k_is)
    (case vTOO_MUCH_TOLD => k_is); (case vMOST_TESTS => k_is); (case vLAST_REVISION => k_is); (case vLAST_TRY => k_is); (case vMOST_OUTCOMES => k_is); (case vMOST_TOLD => k_is)
    (case vMOST_WAYS => k_is); (case vPOLICY => k_is); (case vTESTS => k_is); (case vTELL => k_is); (case vOUTCOME => k_is); (case vDRY => k_is)
    (case vRUN => k_is); (case vCHECK => k_is); (case vHISTORY => k_is); (case vSCORE => k_is); (case vHELD => k_is); (case vHOLD => k_is)
    (case zlen => k_is); (case zmin => k_is); (case zrange => k_is); (case zall => k_is); (case zlist => k_is); (case zsum => k_is)
    (case zenumerate => k_is); (case zzip => k_is); (case yWHOLE_NUMBERS => k_is); (case xWHOLE_NUMBERS => k_is); (case xsWHOLE_NUMBERS => first | k_is | decide); (case wWHOLE_NUMBERS => first | k_is | decide)
    (case eWHOLE_NUMBERS => first | k_is | decide); (case neRunRecord => first | k_is | decide); (case neRunRoom => first | k_is | decide); (case neRulesRecord => first | k_is | decide); (case neRulesRoom => first | k_is | decide); (case neRecordRoom => first | k_is | decide)
  case S =>
    intro K H xs a hO hwi hask hx
    cases hx with
    | cons h1 h2 =>
      cases h2
      cases h1 with
      | lst hs ha =>
        have e := L2.ints_dw a.1 _ ha
        subst e
        have q : ((Codec.inLen 0 17000 a.1 && a.1.all (Codec.inInt (-1000000000000000000) 1000000000000000000)) && true) = true := hwi
        rw [Bool.and_eq_true, Bool.and_eq_true] at q
        exact ⟨_, a.1, rfl, hs, (Codec.inNat_iff.mp q.1.1).2, hask, fun H' p hp => .lst (L2.SqL.of hp) (L2.dw_ints _)⟩
