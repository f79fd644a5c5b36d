import PyProof.Rows.All
import Wide.All
import OpenK.AllK
import Wide.FinOn
import PyProof.EqAt
import PyProof.EqKinds
import PyProof.TupleCall
import KE.BitLaws
import KE.KStar
import PySem.Challenge.RW_callwishes_k41_broken_tales
set_option Elab.async false
set_option linter.all false
set_option maxRecDepth 100000
namespace L2
open PySem PySem.Spec PyProof.Rows

/-- a key: an int or a str -/
abbrev Key := Sum Int Str
def keyIs : Key → Value → Bool
  | .inl k, v => Value.isInt k v
  | .inr x, v => Value.isStrOf x v
def keyH (w : World) : Key → Int
  | .inl k => hashInt k
  | .inr x => hashStr w x
theorem keyIs_shape : ∀ {k : Key} {v : Value}, keyIs k v = true → (∃ i t, k = Sum.inl i ∧ v = Value.int i t) ∨ (∃ x t, k = Sum.inr x ∧ v = Value.str x t)
  | .inl i, v, h => by
    obtain ⟨t, e⟩ := Value.isInt_shape (k := i) (v := v) h
    exact .inl ⟨i, t, rfl, e⟩
  | .inr x, v, h => by
    obtain ⟨t, e⟩ := Value.isStrOf_shape (x := x) (v := v) h
    exact .inr ⟨x, t, rfl, e⟩
theorem keyIs_int (i : Int) (t : Tok) : keyIs (.inl i) (.int i t) = true := by simp [keyIs, Value.isInt]
theorem keyIs_str (x : Str) (t : Tok) : keyIs (.inr x) (.str x t) = true := by simp [keyIs, Value.isStrOf]
theorem key_ll (a b : Int) : decide ((Sum.inl a : Key) = Sum.inl b) = (a == b) := by
  by_cases e : a = b
  · subst e; simp
  · have h : ¬ (Sum.inl a : Key) = Sum.inl b := fun q => e (Sum.inl.inj q)
    rw [decide_eq_false h]
    exact (beq_eq_false_iff_ne.mpr e).symm
theorem key_rr (a b : Str) : decide ((Sum.inr a : Key) = Sum.inr b) = decide (a = b) := by
  by_cases e : a = b
  · subst e; simp
  · have h : ¬ (Sum.inr a : Key) = Sum.inr b := fun q => e (Sum.inr.inj q)
    rw [decide_eq_false h, decide_eq_false e]
theorem key_lr (a : Int) (b : Str) : decide ((Sum.inl a : Key) = Sum.inr b) = false := decide_eq_false (fun q => nomatch q)
theorem key_rl (a : Str) (b : Int) : decide ((Sum.inr a : Key) = Sum.inl b) = false := decide_eq_false (fun q => nomatch q)

def mixKind (prog : Program) (w : World) : PySem.KeyKind prog w Key where
  is := keyIs
  hash := keyH w
  inj := fun v a b ha hb => by
    rcases keyIs_shape ha with ⟨i, t, rfl, rfl⟩ | ⟨x, t, rfl, rfl⟩
    · rcases keyIs_shape hb with ⟨j, u, rfl, e⟩ | ⟨y, u, rfl, e⟩
      · injection e with e1 _; rw [e1]
      · exact nomatch e
    · rcases keyIs_shape hb with ⟨j, u, rfl, e⟩ | ⟨y, u, rfl, e⟩
      · exact nomatch e
      · injection e with e1 _; rw [e1]
  byValue := fun k v h => by
    rcases keyIs_shape h with ⟨i, t, rfl, rfl⟩ | ⟨x, t, rfl, rfl⟩ <;> rfl
  pyHash := fun hv h => by
    rcases keyIs_shape hv with ⟨i, t, rfl, rfl⟩ | ⟨x, t, rfl, rfl⟩
    · exact wpAny_pyHash_int h
    · exact wpAny_pyHash_str h
  eqBool := fun hu hv h => by
    rcases keyIs_shape hu with ⟨i, t, rfl, rfl⟩ | ⟨x, t, rfl, rfl⟩
    · rcases keyIs_shape hv with ⟨j, u, rfl, rfl⟩ | ⟨y, u, rfl, rfl⟩
      · rw [key_ll] at h; exact wpAny_eqBool_int h
      · rw [key_lr] at h; exact SeqAt.EqAt.int_str i t y u _ _ _ _ h
    · rcases keyIs_shape hv with ⟨j, u, rfl, rfl⟩ | ⟨y, u, rfl, rfl⟩
      · rw [key_rl] at h; exact SeqAt.EqAt.str_int x t j u _ _ _ _ h
      · rw [key_rr] at h; exact wpAny_eqBool_str h
  «strs» := fun k x t v h => by
    rcases keyIs_shape h with ⟨i, u, rfl, e⟩ | ⟨y, u, rfl, e⟩
    · exact nomatch e
    · injection e with e1 _
      subst e1
      cases v <;> rfl

theorem mixKind_int (prog : Program) (w : World) (i : Int) (t : Tok) : (mixKind prog w).is (.inl i) (.int i t) = true := keyIs_int i t
theorem mixKind_str (prog : Program) (w : World) (x : Str) (t : Tok) : (mixKind prog w).is (.inr x) (.str x t) = true := keyIs_str x t
end L2

namespace L2
open PySem PySem.Spec PyProof.Rows

/-- a value, without the heap -/
inductive V where
  | non | bl (b : Bool) | int (i : Int) | str (x : Str) | byt (b : Array UInt8) | flt (b : UInt64) | ref (a : Addr) | ty (n : String)
  deriving DecidableEq

def RelV : V → Value → Prop
  | .non, u => u = Value.none
  | .bl b, u => u = Value.bool b
  | .int i, u => ∃ t, u = Value.int i t
  | .str x, u => ∃ t, u = Value.str x t
  | .byt b, u => ∃ t, u = Value.bytes b t
  | .flt b, u => ∃ t, u = Value.float b t
  | .ref a, u => u = Value.ref a
  | .ty n, u => u = Value.type n

abbrev Vals : List V → List Value → Prop := Paired RelV
theorem Vals.length {xs : List V} {us : List Value} (r : Vals xs us) : xs.length = us.length := Paired.length r
theorem Vals.get : ∀ {xs : List V} {us : List Value} {i : Nat} {x : V}, Vals xs us → xs[i]? = some x → ∃ u, us[i]? = some u ∧ RelV x u
  | _, _, _, _, .nil, e => by simp at e
  | _, _, 0, _, .cons r _, e => by simp at e; subst e; exact ⟨_, rfl, r⟩
  | _, _, i + 1, x, .cons _ t, e => by
    obtain ⟨u, h1, h2⟩ := Vals.get (i := i) (x := x) t (by simpa using e)
    exact ⟨u, by simpa using h1, h2⟩
theorem Vals.set {x : V} {u : Value} (r : RelV x u) : ∀ {xs : List V} {us : List Value} (i : Nat), Vals xs us → Vals (xs.set i x) (us.set i u)
  | _, _, _, .nil => .nil
  | _, _, 0, .cons _ t => .cons r t
  | _, _, i + 1, .cons q t => .cons q (Vals.set r i t)
theorem Vals.append : ∀ {xs ys : List V} {us ws : List Value}, Vals xs us → Vals ys ws → Vals (xs ++ ys) (us ++ ws)
  | _, _, _, _, .nil, s => s
  | _, _, _, _, .cons r t, s => .cons r (Vals.append t s)
theorem Vals.take : ∀ {xs : List V} {us : List Value} (n : Nat), Vals xs us → Vals (xs.take n) (us.take n)
  | _, _, 0, _ => .nil
  | _, _, _ + 1, .nil => .nil
  | _, _, n + 1, .cons r t => .cons r (Vals.take n t)
theorem Vals.drop : ∀ {xs : List V} {us : List Value} (n : Nat), Vals xs us → Vals (xs.drop n) (us.drop n)
  | _, _, 0, r => r
  | _, _, _ + 1, .nil => .nil
  | _, _, n + 1, .cons _ t => Vals.drop n t
theorem Vals.none_of : ∀ {xs : List V} {us : List Value} {i : Nat}, Vals xs us → xs[i]? = none → us[i]? = none := fun {xs us i} r e => by
  have h1 := r.length
  have h2 : xs.length ≤ i := List.getElem?_eq_none_iff.mp e
  exact List.getElem?_eq_none_iff.mpr (by omega)

def RelO : Option V → Option Value → Prop
  | some v, some u => RelV v u
  | none, none => True
  | _, _ => False
def KV {κ : Type} : List (κ × V) → List (κ × Value) → Prop := Paired fun (p : κ × V) (q : κ × Value) => p.1 = q.1 ∧ RelV p.2 q.2

/-- a key of a dict (00_mix): an int or a text -/
def kV : Key → V
  | .inl i => .int i
  | .inr x => .str x

/-- what stands at a tracked address -/
inductive HO where
  /-- a list -/
  | lst (xs : List V)
  /-- a tuple (never changes) -/
  | tup (xs : List V)
  /-- a dict whose keys are ints and texts; one whose keys are tuples of ints and texts (the empty one is both) -/
  | dK (kvs : List (Key × V)) | dT (kvs : List (List Key × V))
  /-- a set of ints: its members, its size -/
  | set (S : Int → Bool) (n : Nat)
  /-- an instance of the class at C, its dict at dx, its attributes -/
  | ins (C dx : Addr) (fs : List (Str × V))
  /-- the dict of the instance at x -/
  | own (x : Addr)
  /-- the dict of an exception -/
  | xd (fs : List (Str × V))
  /-- a bound method, f of x -/
  | met (f x : Addr)
  /-- a range object lo, lo + 1, .. below hi -/
  | rng (lo hi : Int)
  /-- a thing that is known to the object (the script; a dict while a loop walks it): read, never written while it is so -/
  | frz (o : Obj) (u : HO)
  /-- a code object's table -/
  | tbl (ps : Array Value)
  /-- any other thing, by what is true of its one object (a def of one's own: SetO a S n := HO.ext fun h => ..) -/
  | ext (φ : Heap → Prop)

abbrev Hp := Addr → Option HO
def upd (H : Hp) (a : Addr) (o : HO) : Hp := fun b => if b = a then some o else H b
theorem upd_same {H : Hp} {a : Addr} {o : HO} : upd H a o a = some o := by unfold upd; rw [if_pos rfl]
theorem upd_ne {H : Hp} {a b : Addr} {o : HO} (h : b ≠ a) : upd H a o b = H b := by unfold upd; rw [if_neg h]
theorem ne_of_none {H : Hp} {a b : Addr} {o : HO} (h : H a = some o) (h' : H b = none) : a ≠ b := by
  intro e; subst e; rw [h] at h'; cases h'

section
variable (P : Program) (w : World)
def ObjOk (H : Hp) (h : Heap) (a : Addr) : HO → Prop
  | .lst xs => xs.length ≤ sizeLine ∧ ∃ (its : List Value) (n : Nat), Vals xs its ∧ h.get? a = some { cls := .type "list", data := .seq its.toArray n }
  | .tup xs => xs.length ≤ sizeLine ∧ ∃ its : List Value, Vals xs its ∧ IsTup h a its.toArray
  | .dK kvs => kvs.length ≤ sizeLine ∧ (a == sysModules) = false ∧ ∃ vs, KV kvs vs ∧ h.DictOf (mixKind P w) a vs
  | .dT kvs => kvs.length ≤ sizeLine ∧ (a == sysModules) = false ∧ ∃ xs : List (List Key × Addr × Value),
      Paired (fun (p : List Key × V) (q : List Key × Addr × Value) => p.1 = q.1 ∧ H q.2.1 = some (.tup (p.1.map kV)) ∧ RelV p.2 q.2.2) kvs xs ∧
      ∃ o es ep, h.get? a = some o ∧ o.ExactDict ∧ o.data = .dict es ep ∧ es.toList = xs.map (entryOfKey (tupleKind (mixKind P w))) ∧ (xs.map (·.1)).Nodup
  | .set S n => h.SetOf (intKind P w) a S n
  | .ins C dx fs => H dx = some (.own a) ∧ fs.length ≤ 1000 ∧ dx ≠ a ∧ h.get? a = some (PySem.W.instObj C dx) ∧
      ∃ mA, h.Ns1 dx mA ∧ (∀ f, RelO (fs.lookup f) (mA f)) ∧ PySem.Within mA (fs.map (·.1))
  | .own _ => ∃ o, h.get? a = some o
  | .xd fs => ∃ mA, h.Ns1 a mA ∧ ∀ f, RelO (fs.lookup f) (mA f)
  | .rng lo hi => ∃ t u v, h.get? a = some { cls := .type "range", data := .fields #[.int lo t, .int hi u, .int 1 v] }
  | .frz o u => h.get? a = some o ∧ ObjOk H h a u
  | .tbl ps => h.get? a = some { cls := .none, data := .fields ps }
  | .met f x => h.get? a = some (PySem.W.methodObj (.ref f) (.ref x))
  | .ext φ => φ h ∧ (∃ o, h.get? a = some o) ∧ ∀ h1 h2 : Heap, φ h1 → (∀ o, h1.get? a = some o → h2.get? a = some o) → φ h2
/-- the abstract heap is held -/
def HOk (H : Hp) (h : Heap) : Prop := ∀ a o, H a = some o → ObjOk P w H h a o
end

section
variable {P : Program} {w : World} {H H' : Hp} {h h' : Heap} {a : Addr} {o : HO}
theorem ObjOk.lt (x : ObjOk P w H h a o) : a < h.objs.size := by
  cases o with
  | lst xs => obtain ⟨_, _, _, _, e⟩ := x; exact Heap.lt_size e
  | tup xs => obtain ⟨_, _, _, p⟩ := x; exact p.lt
  | dK kvs => obtain ⟨_, _, _, _, o, _, _, e, _⟩ := x; exact Heap.lt_size e
  | dT kvs => obtain ⟨_, _, _, _, o, _, _, e, _⟩ := x; exact Heap.lt_size e
  | set S n => obtain ⟨o, _, _, _, e, _⟩ := x; exact Heap.lt_size e
  | ins C dx fs => obtain ⟨_, _, _, e, _⟩ := x; exact Heap.lt_size e
  | own y => obtain ⟨_, e⟩ := x; exact Heap.lt_size e
  | xd fs => obtain ⟨_, ⟨_, _, _, e, _⟩, _⟩ := x; exact Heap.lt_size e
  | rng lo hi => obtain ⟨_, _, _, e⟩ := x; exact Heap.lt_size e
  | frz ob u => obtain ⟨e, _⟩ := x; exact Heap.lt_size e
  | tbl ps => exact Heap.lt_size (show h.get? a = some _ from x)
  | met f y => exact Heap.lt_size (show h.get? a = some _ from x)
  | ext φ => obtain ⟨_, ⟨_, e⟩, _⟩ := x; exact Heap.lt_size e
theorem Paired.mapP {α β : Type} {F G : α → β → Prop} : ∀ {l₁ : List α} {l₂ : List β}, Paired F l₁ l₂ → (∀ a b, F a b → G a b) → Paired G l₁ l₂
  | _, _, .nil, _ => .nil
  | _, _, .cons r t, f => .cons (f _ _ r) (Paired.mapP t f)
/-- what an object's description leans on: its own object, its own dict, the tuples -/
theorem ObjOk.stay (x : ObjOk P w H h a o) (k : ∀ b u, (b = a ∨ H b = some (.own a)) → h.get? b = some u → h'.get? b = some u)
    (ho : ∀ b, H b = some (.own a) → H' b = some (.own a)) (ht : ∀ b xs, H b = some (.tup xs) → H' b = some (.tup xs)) : ObjOk P w H' h' a o := by
  induction o with
  | lst xs => obtain ⟨z, its, n, r, e⟩ := x; exact ⟨z, its, n, r, k _ _ (.inl rfl) e⟩
  | tup xs => obtain ⟨z, its, r, ob, e, c⟩ := x; exact ⟨z, its, r, ob, k _ _ (.inl rfl) e, c⟩
  | dK kvs => obtain ⟨z, y, vs, r, ob, es, ep, e, c⟩ := x; exact ⟨z, y, vs, r, ob, es, ep, k _ _ (.inl rfl) e, c⟩
  | dT kvs =>
    obtain ⟨z, y, xs, r, ob, es, ep, e, c⟩ := x
    exact ⟨z, y, xs, Paired.mapP r fun p q z => ⟨z.1, ht _ _ z.2.1, z.2.2⟩, ob, es, ep, k _ _ (.inl rfl) e, c⟩
  | set S n => obtain ⟨ob, es, ep, t, e, c⟩ := x; exact ⟨ob, es, ep, t, k _ _ (.inl rfl) e, c⟩
  | ins C dx fs =>
    obtain ⟨d, z, ne, e, mA, ⟨od, es, ep, e2, c⟩, r⟩ := x
    exact ⟨ho _ d, z, ne, k _ _ (.inl rfl) e, mA, ⟨od, es, ep, k _ _ (.inr d) e2, c⟩, r⟩
  | own y => obtain ⟨ob, e⟩ := x; exact ⟨ob, k _ _ (.inl rfl) e⟩
  | xd fs => obtain ⟨mA, ⟨od, es, ep, e, c⟩, r⟩ := x; exact ⟨mA, ⟨od, es, ep, k _ _ (.inl rfl) e, c⟩, r⟩
  | rng lo hi => obtain ⟨t, u, v, e⟩ := x; exact ⟨t, u, v, k _ _ (.inl rfl) e⟩
  | frz ob u ih => obtain ⟨e, q⟩ := x; exact ⟨k _ _ (.inl rfl) e, ih q⟩
  | tbl ps =>
    have e : h.get? a = some { cls := .none, data := .fields ps } := x
    show h'.get? a = some { cls := .none, data := .fields ps }
    exact k a _ (.inl rfl) e
  | met f y =>
    have e : h.get? a = some (PySem.W.methodObj (.ref f) (.ref y)) := x
    show h'.get? a = some (PySem.W.methodObj (.ref f) (.ref y))
    exact k a _ (.inl rfl) e
  | ext φ => obtain ⟨p, ⟨o, e⟩, st⟩ := x; exact ⟨st _ _ p fun o q => k _ _ (.inl rfl) q, ⟨o, k _ _ (.inl rfl) e⟩, st⟩
theorem HOk.lt (x : HOk P w H h) (e : H a = some o) : a < h.objs.size := (x a o e).lt
theorem HOk.fresh (x : HOk P w H h) (e : h.objs.size ≤ a) : H a = none := by
  cases q : H a with
  | none => rfl
  | some u => exact absurd (Nat.lt_of_lt_of_le (x.lt q) e) (Nat.lt_irrefl _)
/-- every object of the heap is kept -/
theorem HOk.kept (x : HOk P w H h) (k : ∀ b u, h.get? b = some u → h'.get? b = some u) : HOk P w H h' := fun a o e =>
  (x a o e).stay (fun b u _ q => k b u q) (fun _ q => q) fun _ _ q => q
/-- a new object is laid and tracked -/
theorem HOk.laid (x : HOk P w H h) (k : ∀ b u, h.get? b = some u → h'.get? b = some u) (hp : h.objs.size ≤ a) (new : ObjOk P w (upd H a o) h' a o) : HOk P w (upd H a o) h' := fun b u e => by
  have hn := x.fresh hp
  by_cases hb : b = a
  · subst hb; rw [upd_same] at e; cases e; exact new
  · rw [upd_ne hb] at e
    exact (x b u e).stay (fun c v _ q => k c v q) (fun c q => by rw [upd_ne (ne_of_none q hn)]; exact q) fun c xs q => by rw [upd_ne (ne_of_none q hn)]; exact q
end

/-- what may be read as u: it is u, or a known u -/
def Rd (H : Hp) (a : Addr) (u : HO) : Prop := H a = some u ∨ ∃ o, H a = some (.frz o u)
theorem Rd.of {H : Hp} {a : Addr} {u : HO} (h : H a = some u) : Rd H a u := .inl h
theorem Rd.ok {P : Program} {w : World} {H : Hp} {h : Heap} {a : Addr} {u : HO} (r : Rd H a u) (x : HOk P w H h) : ObjOk P w H h a u := by
  rcases r with r | ⟨o, r⟩
  · exact x a u r
  · obtain ⟨_, q⟩ := x a _ r
    exact q
/-- what may be written -/
def Mut : Option HO → Prop
  | some (.lst _) => True
  | some (.dK _) => True
  | some (.dT _) => True
  | some (.set _ _) => True
  | some (.ins _ _ _) => True
  | some (.ext _) => True
  | _ => False
section
variable {P : Program} {w : World} {H : Hp} {h h' : Heap} {x e : Addr} {o' : HO}
/-- the object at e is changed: x itself, or the dict of the instance x -/
theorem HOk.write (ok : HOk P w H h) (mu : Mut (H x)) (he : e = x ∨ H e = some (.own x)) (k : ∀ b u, b ≠ e → h.get? b = some u → h'.get? b = some u) (heo : ∃ u, h'.get? e = some u)
    (new : ObjOk P w (upd H x o') h' x o') : HOk P w (upd H x o') h' := fun b u q => by
  have nown : ∀ c y, H c = some (.own y) → c ≠ x := fun c y r z => by subst z; rw [r] at mu; exact mu
  have ntup : ∀ c xs, H c = some (.tup xs) → c ≠ x := fun c xs r z => by subst z; rw [r] at mu; exact mu
  by_cases hb : b = x
  · subst hb; rw [upd_same] at q; cases q; exact new
  · rw [upd_ne hb] at q
    by_cases hbe : b = e
    · have q' : H b = some (.own x) := by
        rcases he with z | z
        · exact absurd (hbe.trans z) hb
        · rw [hbe]; exact z
      rw [q] at q'; cases q'
      obtain ⟨v, hv⟩ := heo
      exact ⟨v, by rw [hbe]; exact hv⟩
    · refine (ok b u q).stay (fun c v hc r => k c v ?_ r) (fun c r => by rw [upd_ne (nown c b r)]; exact r) fun c xs r => by rw [upd_ne (ntup c xs r)]; exact r
      rcases hc with rfl | hc
      · exact hbe
      · rintro rfl
        rcases he with z | z
        · exact nown c b hc z
        · rw [hc] at z; cases z; exact hb rfl
end

structure Un (fs ex : List Addr) (H H' : Hp) (h h' : Heap) : Prop where
  keep : ∀ b o, h.get? b = some o → H b = none → b ∉ fs → b ∉ ex → h'.get? b = some o
  slot : ∀ b o, h.get? b = some o → H b = none → b ∈ fs → b ∉ ex → ∃ sl, h'.get? b = some { o with slots := sl }
  free : ∀ b o, h.get? b = some o → H b = none → b ∉ ex → H' b = none
  there : ∀ b o, h.get? b = some o → b ∉ ex → ∃ o', h'.get? b = some o'
  tups : ∀ b xs, H b = some (.tup xs) → H' b = some (.tup xs)
  frzs : ∀ b o u, H b = some (.frz o u) → H' b = some (.frz o u)
  tbls : ∀ b ps, H b = some (.tbl ps) → ∃ more, H' b = some (.tbl (ps ++ more))
section
variable {fs fs' ex ex' : List Addr} {H H1 H2 : Hp} {h h1 h2 h' : Heap} {a x e : Addr} {o : HO}
theorem Un.any (u : Un fs ex H H1 h h1) {b : Addr} {ob : Obj} (q : h.get? b = some ob) (n : H b = none) (hx : b ∉ ex) : ∃ sl, h1.get? b = some { ob with slots := sl } := by
  by_cases hb : b ∈ fs
  · exact u.slot b ob q n hb hx
  · exact ⟨ob.slots, u.keep b ob q n hb hx⟩
theorem Un.trans (a : Un fs ex H H1 h h1) (b : Un fs ex H1 H2 h1 h2) : Un fs ex H H2 h h2 where
  keep := fun c ob q n hc hx => b.keep c ob (a.keep c ob q n hc hx) (a.free c ob q n hx) hc hx
  slot := fun c ob q n hc hx => by
    obtain ⟨sl, e1⟩ := a.slot c ob q n hc hx
    obtain ⟨sl', e2⟩ := b.slot c _ e1 (a.free c ob q n hx) hc hx
    exact ⟨sl', e2⟩
  free := fun c ob q n hx => by
    obtain ⟨o', e1⟩ := a.there c ob q hx
    exact b.free c o' e1 (a.free c ob q n hx) hx
  there := fun c ob q hx => by
    obtain ⟨o', e1⟩ := a.there c ob q hx
    exact b.there c o' e1 hx
  tups := fun c xs q => b.tups c xs (a.tups c xs q)
  frzs := fun c ob xs q => b.frzs c ob xs (a.frzs c ob xs q)
  tbls := fun c ps q => by
    obtain ⟨m1, e1⟩ := a.tbls c ps q
    obtain ⟨m2, e2⟩ := b.tbls c _ e1
    exact ⟨m1 ++ m2, by rw [e2, Array.append_assoc]⟩
theorem Un.kept (k : ∀ b u, h.get? b = some u → h'.get? b = some u) : Un fs ex H H h h' :=
  ⟨fun b ob q _ _ _ => k b ob q, fun b ob q _ _ _ => ⟨ob.slots, k b ob q⟩, fun _ _ _ n _ => n, fun b ob q _ => ⟨ob, k b ob q⟩, fun _ _ q => q, fun _ _ _ q => q, fun _ ps q => ⟨#[], by rw [q]; simp⟩⟩
theorem Un.refl : Un fs ex H H h h := Un.kept fun _ _ q => q
theorem Un.laid (k : ∀ b u, h.get? b = some u → h'.get? b = some u) (hp : h.objs.size ≤ a) (hn : H a = none) : Un fs ex H (upd H a o) h h' where
  keep := fun b u q _ _ _ => k b u q
  slot := fun b u q _ _ _ => ⟨u.slots, k b u q⟩
  free := fun b u q n _ => by rw [upd_ne (Nat.ne_of_lt (Nat.lt_of_lt_of_le (Heap.lt_size q) hp))]; exact n
  there := fun b u q _ => ⟨u, k b u q⟩
  tups := fun b xs q => by rw [upd_ne (ne_of_none q hn)]; exact q
  frzs := fun b u xs q => by rw [upd_ne (ne_of_none q hn)]; exact q
  tbls := fun b ps q => ⟨#[], by rw [upd_ne (ne_of_none q hn), q]; simp⟩
theorem Un.write (mu : Mut (H x)) (he : e = x ∨ H e = some (.own x)) (k : ∀ b u, b ≠ e → h.get? b = some u → h'.get? b = some u) (heo : ∃ u, h'.get? e = some u) : Un fs ex H (upd H x o) h h' := by
  have hx : ∀ b, H b = none → b ≠ x := fun b n z => by subst z; rw [n] at mu; exact mu
  have hb : ∀ b, H b = none → b ≠ e := fun b n z => by
    subst z
    rcases he with r | r
    · exact hx b n r
    · rw [n] at r; cases r
  have hm : ∀ b u, H b = some u → ¬ Mut (some u) → b ≠ x := fun b u q nm z => by subst z; rw [q] at mu; exact nm mu
  refine ⟨fun b u q n _ _ => k b u (hb b n) q, fun b u q n _ _ => ⟨u.slots, k b u (hb b n) q⟩, fun b u q n _ => by rw [upd_ne (hx b n)]; exact n, fun b u q _ => ?_,
    fun b xs q => by rw [upd_ne (hm b _ q fun z => z)]; exact q, fun b u xs q => by rw [upd_ne (hm b _ q fun z => z)]; exact q, fun b ps q => ⟨#[], by rw [upd_ne (hm b _ q fun z => z), q]; simp⟩⟩
  by_cases hbe : b = e
  · subst hbe; exact heo
  · exact ⟨u, k b u hbe q⟩
theorem Un.mono (u : Un fs ex H H1 h h1) (hs : ∀ b ∈ fs, b ∈ fs') (hx : ∀ b ∈ ex, b ∈ ex') : Un fs' ex' H H1 h h1 :=
  ⟨fun b ob q n hb he => u.keep b ob q n (fun z => hb (hs b z)) fun z => he (hx b z), fun _ _ q n _ he => u.any q n fun z => he (hx _ z), fun b ob q n he => u.free b ob q n fun z => he (hx b z), fun b ob q he => u.there b ob q fun z => he (hx b z), u.tups, u.frzs, u.tbls⟩
end

def trk (h : Heap) (H : Hp) : List Addr := (List.range h.objs.size).filter fun a => (H a).isSome
def hidT (h : Heap) (H : Hp) : Heap := PySem.W.hideAll h (trk h H)
theorem hidT_size (h : Heap) (H : Hp) : (hidT h H).objs.size = h.objs.size := PySem.W.hideAll_size _ _
theorem hidT_get {h : Heap} {H : Hp} {b : Addr} {o : Obj} (e : h.get? b = some o) (n : H b = none) : (hidT h H).get? b = some o :=
  PySem.W.hideAll_get _ e fun hm => by
    have q : (H b).isSome = true := (List.mem_filter.mp hm).2
    rw [n] at q; simp at q
theorem of_hidT {h : Heap} {H : Hp} {b : Addr} {o : Obj} (e : (hidT h H).get? b = some o) : h.get? b = some o ∧ H b = none := by
  have e' : h.get? b = some o := PySem.W.of_hideAll (trk h H) e
  refine ⟨e', ?_⟩
  cases q : H b with
  | none => rfl
  | some x =>
    have hm : b ∈ trk h H := List.mem_filter.mpr ⟨List.mem_range.mpr (Heap.lt_size e'), by simp [q]⟩
    have z : (hidT h H).get? b = none := PySem.W.hideAll_none (trk h H) hm
    rw [z] at e; cases e

def allNews (g h : Heap) (L : Addr) : List (Addr × Obj) := (List.range h.objs.size).filterMap fun a => if a = L ∨ (g.get? a).isSome = true then none else (h.get? a).map fun o => (a, o)
def rest (g h : Heap) (L d : Addr) : List (Addr × Obj) := (allNews g h L).filter fun p => decide (p.1 ≠ d)
end L2

namespace L2
open PySem PySem.Spec PyProof.Rows

/-- the module's facts, over the base: the heap at the law's entry without what is tracked there -/
structure Mod (K : PySem.W.Frag) (mg : Str → Option Value) (base : Heap) : Prop where
  kin : K.In base
  glob : base.Ns mainGlobals mg
  blt : ∃ mb, base.Ns builtinsNs mb ∧ ∀ x : Str, x ≠ "__name__" → mb x = bootBuiltins x
  nolimit : base.NoLimit

/-- the context: a def's body (or a comprehension's block) running. base: fixed through the whole law; s₀, H₀: the entry; outer: the frames whose slots others may change (a def's callers); stack: all frames that run;
   ex: iterators that were made ahead of the entry and are walked here (a comprehension's); fn: the names whose cells were made at the entry (a def: all; a comprehension's block: its own); calm: not within an except suite; pn: pins that every state bears; xe: what is wanted of an exception that leaves the code -/
structure Cx where
  prog : Program
  w : World
  K : PySem.W.Frag
  mg : Str → Option Value
  base : Heap
  A : Around
  N : List Str
  s_0 : Shared
  H_0 : Hp
  env : Env
  outer : List Env
  stack : List Env
  ex : List Addr
  fn : Str → Bool
  calm : Bool
  pn : List (Addr × Obj)
  xe : Value → Shared → Prop
/-- the callers' frames -/
def frs (l : List Env) : List Addr := l.filterMap (·.frame)
abbrev Cx.fs (X : Cx) : List Addr := frs X.outer

def Vis (sc : Scope) (x : Str) : Prop := sc.names.lookup x = some .local ∨ sc.names.lookup x = some .cell ∨ sc.names.lookup x = some .free
def Look (env : Env) (h : Heap) (m : Str → Option Value) (x : Str) (u : Value) : Prop :=
  (env.kindOf x = some .local ∧ m x = some u) ∨ ((env.kindOf x = some .cell ∨ env.kindOf x = some .free) ∧ ∃ c, env.cells.lookup x = some c ∧ h.IsCell c (some u))

structure Cx.Ok (X : Cx) : Prop where
  mod : Mod X.K X.mg X.base
  kind : X.env.scope.kind = .function
  glob : X.env.globals = mainGlobals
  blt : X.env.builtins = builtinsNs
  above : X.s_0.heap.objs.size ≤ X.env.locals
  inj : ∀ x y c, X.env.cells.lookup x = some c → X.env.cells.lookup y = some c → x = y
  has : ∀ x, (X.env.kindOf x = some .cell ∨ X.env.kindOf x = some .free) → ∃ c, X.env.cells.lookup x = some c
  cab : ∀ x c, X.fn x = true → X.env.cells.lookup x = some c → X.s_0.heap.objs.size ≤ c
  hd : X.calm = true → X.A.handled = none
  frames : X.A.frames = some X.stack
  stk : X.stack = X.outer ∨ (X.stack = X.env :: X.outer ∧ X.env.frame = some X.env.locals)
  exf : ∀ b ∈ X.ex, b ≠ X.env.locals ∧ ∀ x c, X.env.cells.lookup x = some c → c ≠ b
  bs : ∀ b o, X.base.get? b = some o → X.s_0.heap.get? b = some o ∧ X.H_0 b = none
  bsz : X.base.objs.size ≤ X.s_0.heap.objs.size
  noex : ∀ b o, X.base.get? b = some o → b ∉ X.ex
  exfs : ∀ b ∈ X.ex, b ∉ X.fs
  funs : X.s_0.heap.FunFrames X.base X.outer
  frf : ∀ b ∈ X.fs, X.H_0 b = none

structure Inv (X : Cx) (pins : List (Addr × Obj)) (σ : List (Option V)) (H : Hp) (s : Shared) : Prop where
  ok : X.Ok
  os : s.os = X.s_0.os
  bare : AllBare s.gens
  base : Un X.fs X.ex X.H_0 H X.s_0.heap s.heap
  loc : ∃ m, s.heap.Ns X.env.locals m ∧ ∀ (i : Nat) (x : Str) (v : V), X.N[i]? = some x → σ[i]? = some (some v) → Vis X.env.scope x → ∃ u, RelV v u ∧ Look X.env s.heap m x u
  cell : ∀ x c, X.env.cells.lookup x = some c → ∃ v, s.heap.IsCell c v
  free : H X.env.locals = none
  freeC : ∀ x c, X.env.cells.lookup x = some c → H c = none
  pin : ∀ p ∈ X.pn ++ pins, s.heap.get? p.1 = some p.2 ∧ H p.1 = none ∧ p.1 ≠ X.env.locals ∧ p.1 ∉ X.fs ∧ ∀ v, p.2.data ≠ .cell v
  hok : HOk X.prog X.w H s.heap
  len : σ.length = X.N.length

section
variable {X : Cx} {pins : List (Addr × Obj)} {σ : List (Option V)} {H H' : Hp} {s : Shared} {h' : Heap}

theorem Cx.Ok.nofr (ok : X.Ok) {b : Addr} {o : Obj} (e : X.base.get? b = some o) : b ∉ X.fs := fun hb => by
  have := (ok.funs.mem hb).1
  rw [e] at this; cases this
theorem Inv.bs (I : Inv X pins σ H s) : ∀ b o, X.base.get? b = some o → s.heap.get? b = some o ∧ H b = none := fun b o e =>
  ⟨I.base.keep b o (I.ok.bs b o e).1 (I.ok.bs b o e).2 (I.ok.nofr e) (I.ok.noex b o e), I.base.free b o (I.ok.bs b o e).1 (I.ok.bs b o e).2 (I.ok.noex b o e)⟩
theorem Inv.bk (I : Inv X pins σ H s) : ∀ b o, X.base.get? b = some o → s.heap.get? b = some o := fun b o e => (I.bs b o e).1
theorem Inv.mod (I : Inv X pins σ H s) : Mod X.K X.mg X.base := I.ok.mod
theorem Inv.kIn (I : Inv X pins σ H s) : X.K.In s.heap := I.ok.mod.kin.keeps I.bk
theorem Inv.nolimit (I : Inv X pins σ H s) : s.heap.NoLimit := I.ok.mod.nolimit.keeps I.bk
/-- the frame over the base: for OpenK's rules (K.In X.base is I.mod.kin) -/
theorem Inv.fr (I : Inv X pins σ H s) : ∃ m, Fr X.base X.env.locals s.heap m :=
  let ⟨m, hn, _⟩ := I.loc
  ⟨m, hn, I.bk, Nat.le_trans I.ok.bsz I.ok.above⟩
theorem Inv.lt (I : Inv X pins σ H s) : X.env.locals < s.heap.objs.size := let ⟨_, hn, _⟩ := I.loc; hn.lt
theorem Inv.sz (I : Inv X pins σ H s) : X.s_0.heap.objs.size ≤ s.heap.objs.size := Nat.le_trans I.ok.above (Nat.le_of_lt I.lt)
theorem Inv.cne (I : Inv X pins σ H s) : ∀ x c, X.env.cells.lookup x = some c → c ≠ X.env.locals := fun x c e z => by
  obtain ⟨v, o, ho, hd⟩ := I.cell x c e
  obtain ⟨m, ⟨o', es, ep, ho', hd', _⟩, _⟩ := I.loc
  rw [z, ho'] at ho; cases ho; rw [hd'] at hd; cases hd
theorem Inv.funs (I : Inv X pins σ H s) : s.heap.FunFrames X.base X.outer := by
  have all : ∀ (l : List Env), (∀ b ∈ frs l, b ∈ X.fs) → X.s_0.heap.FunFrames X.base l → s.heap.FunFrames X.base l := by
    intro l
    induction l with
    | nil => intro _ _; trivial
    | cons env r ih =>
      intro hs hl
      obtain ⟨hk, ⟨L, o, hf, hn, ho, hd⟩, hr⟩ := hl
      have hL : L ∈ X.fs := hs L (by unfold frs; rw [List.filterMap_cons, hf]; exact List.mem_cons_self)
      obtain ⟨sl, e⟩ := I.base.slot L o ho (I.ok.frf L hL) hL fun z => I.ok.exfs L z hL
      exact ⟨hk, ⟨L, _, hf, hn, e, hd⟩, ih (fun b hb => hs b (by unfold frs; rw [List.filterMap_cons, hf]; exact List.mem_cons_of_mem _ hb)) hr⟩
  exact all X.outer (fun _ hb => hb) I.ok.funs

/-- the frames that run, for a call -/
theorem Inv.stack (I : Inv X pins σ H s) : s.heap.FunFrames X.base X.stack := by
  rcases I.ok.stk with e | ⟨e, hf⟩
  · rw [e]; exact I.funs
  · rw [e]
    obtain ⟨m, hn, _⟩ := I.loc
    refine .cons (by rw [I.ok.kind]; decide) hf hn ?_ I.funs
    exact Heap.get?_none_of_le (Nat.le_trans I.ok.bsz I.ok.above)
theorem Inv.stkSub (I : Inv X pins σ H s) : ∀ b ∈ frs X.stack, b ∈ X.env.locals :: X.fs := fun b hb => by
  rcases I.ok.stk with e | ⟨e, hf⟩
  · rw [e] at hb; exact List.mem_cons_of_mem _ hb
  · rw [e] at hb
    unfold frs at hb
    rw [List.filterMap_cons, hf] at hb
    exact hb
/-- THE STEP: the untracked objects but the frame and the records at ch are kept (the callers' frames up to slots), the frame's map is kept, the new abstract heap is held -/
theorem Inv.step {g' : Array GenState} {t' : Nat} {d' : Drawn} {ch : List Addr} (I : Inv X pins σ H s)
    (hch : ∀ b ∈ ch, (b ∈ X.ex ∨ X.s_0.heap.objs.size ≤ b) ∧ b ≠ X.env.locals ∧ (∀ x c, X.env.cells.lookup x = some c → c ≠ b) ∧ ∀ p ∈ X.pn ++ pins, p.1 ≠ b)
    (keep : ∀ b o, b ≠ X.env.locals → b ∉ X.fs → b ∉ ch → s.heap.get? b = some o → H b = none → h'.get? b = some o)
    (slot : ∀ b o, b ≠ X.env.locals → b ∈ X.fs → b ∉ ch → s.heap.get? b = some o → H b = none → ∃ sl, h'.get? b = some { o with slots := sl }) (free : ∀ b o, b ∉ ch → s.heap.get? b = some o → H b = none → H' b = none)
    (there : ∀ b o, b ∉ ch → s.heap.get? b = some o → ∃ o', h'.get? b = some o')
    (tups : ∀ b xs, H b = some (.tup xs) → H' b = some (.tup xs)) (frzs : ∀ b o u, H b = some (.frz o u) → H' b = some (.frz o u)) (tbls : ∀ b ps, H b = some (.tbl ps) → ∃ more, H' b = some (.tbl (ps ++ more)))
    (ns : ∀ m, s.heap.Ns X.env.locals m → h'.Ns X.env.locals m) (hok : HOk X.prog X.w H' h') (hg : AllBare g') :
    Inv X pins σ H' { s with heap := h', gens := g', drawn := d', toks := t' } := by
  have neL : ∀ b o, X.s_0.heap.get? b = some o → b ≠ X.env.locals := fun b o e => Nat.ne_of_lt (Nat.lt_of_lt_of_le (Heap.lt_size e) I.ok.above)
  have neC : ∀ b o, X.s_0.heap.get? b = some o → b ∉ X.ex → b ∉ ch := fun b o e hx hb => by
    rcases (hch b hb).1 with z | z
    · exact hx z
    · exact absurd (Nat.lt_of_lt_of_le (Heap.lt_size e) z) (Nat.lt_irrefl _)
  have cellK : ∀ x c, X.env.cells.lookup x = some c → ∀ v, s.heap.IsCell c v → h'.IsCell c v := fun x c e v ⟨o, ho, hd⟩ => by
    have nch : c ∉ ch := fun z => (hch c z).2.2.1 x c e rfl
    by_cases hc : c ∈ X.fs
    · obtain ⟨sl, q⟩ := slot c o (I.cne x c e) hc nch ho (I.freeC x c e)
      exact ⟨_, q, hd⟩
    · exact ⟨o, keep c o (I.cne x c e) hc nch ho (I.freeC x c e), hd⟩
  refine ⟨I.ok, I.os, hg, ⟨fun b o e n hb hx => ?_, fun b o e n hb hx => ?_, fun b o e n hx => ?_, fun b o e hx => ?_, fun b xs e => tups b xs (I.base.tups b xs e), fun b o xs e => frzs b o xs (I.base.frzs b o xs e), fun b ps e => ?_⟩, ?_, fun x c e => ?_, ?_, fun x c e => ?_, fun p hp => ?_, hok, I.len⟩
  · exact keep b o (neL b o e) hb (neC b o e hx) (I.base.keep b o e n hb hx) (I.base.free b o e n hx)
  · obtain ⟨sl, e1⟩ := I.base.slot b o e n hb hx
    obtain ⟨sl', e2⟩ := slot b _ (neL b o e) hb (neC b o e hx) e1 (I.base.free b o e n hx)
    exact ⟨sl', e2⟩
  · obtain ⟨o', e1⟩ := I.base.there b o e hx
    exact free b o' (neC b o e hx) e1 (I.base.free b o e n hx)
  · obtain ⟨o', e1⟩ := I.base.there b o e hx
    exact there b o' (neC b o e hx) e1
  · obtain ⟨m1, e1⟩ := I.base.tbls b ps e
    obtain ⟨m2, e2⟩ := tbls b _ e1
    exact ⟨m1 ++ m2, by rw [e2, Array.append_assoc]⟩
  · obtain ⟨m, hn, hl⟩ := I.loc
    refine ⟨m, ns m hn, fun i x v e1 e2 e3 => ?_⟩
    obtain ⟨u, r, l⟩ := hl i x v e1 e2 e3
    refine ⟨u, r, ?_⟩
    rcases l with l | ⟨k, c, e, z⟩
    · exact .inl l
    · exact .inr ⟨k, c, e, cellK x c e _ z⟩
  · obtain ⟨v, z⟩ := I.cell x c e
    exact ⟨v, cellK x c e v z⟩
  · obtain ⟨m, ⟨o, _, _, ho, _⟩, _⟩ := I.loc
    exact free _ o (fun z => (hch _ z).2.1 rfl) ho I.free
  · obtain ⟨v, o, ho, hd⟩ := I.cell x c e
    exact free c o (fun z => (hch c z).2.2.1 x c e rfl) ho (I.freeC x c e)
  · obtain ⟨e, n, ne, nf, d⟩ := I.pin p hp
    have nch : p.1 ∉ ch := fun z => (hch p.1 z).2.2.2 p hp rfl
    exact ⟨keep p.1 p.2 ne nf nch e n, free p.1 p.2 nch e n, ne, nf, d⟩
/-- .. where the frame's own object is kept too -/
theorem Inv.un {t' : Nat} (I : Inv X pins σ H s) (u : Un X.fs [] H H' s.heap h') (hok : HOk X.prog X.w H' h') : Inv X pins σ H' { s with heap := h', toks := t' } := by
  obtain ⟨m, ⟨o, es, ep, ho, r⟩, _⟩ := id I.loc
  obtain ⟨sl, hL⟩ := u.any ho I.free (by simp)
  exact I.step (g' := s.gens) (d' := s.drawn) (ch := []) (fun _ z => nomatch z) (fun b o _ hb _ e n => u.keep b o e n hb (by simp)) (fun b o _ hb _ e n => u.slot b o e n hb (by simp)) (fun b o _ e n => u.free b o e n (by simp)) (fun b o _ e => u.there b o e (by simp)) u.tups u.frzs u.tbls (fun m' hm => by
    obtain ⟨o', es', ep', ho', r'⟩ := hm
    rw [ho] at ho'; cases ho'
    exact ⟨_, es', ep', hL, r'⟩) hok I.bare
/-- behind a call (or a comprehension's block): the slots of this frame may have changed too, the records at ch may have turned -/
theorem Inv.call {g' : Array GenState} {t' : Nat} {d' : Drawn} {ch : List Addr} (I : Inv X pins σ H s) (u : Un (frs X.stack) ch H H' s.heap h') (hok : HOk X.prog X.w H' h') (hg : AllBare g')
    (hch : ∀ b ∈ ch, (b ∈ X.ex ∨ X.s_0.heap.objs.size ≤ b) ∧ b ≠ X.env.locals ∧ (∀ x c, X.env.cells.lookup x = some c → c ≠ b) ∧ ∀ p ∈ X.pn ++ pins, p.1 ≠ b) :
    Inv X pins σ H' { s with heap := h', gens := g', drawn := d', toks := t' } := by
  obtain ⟨m, ⟨o, es, ep, ho, r⟩, _⟩ := id I.loc
  obtain ⟨sl, hL⟩ := u.any ho I.free fun z => (hch _ z).2.1 rfl
  exact I.step (ch := ch) hch (fun b o hL hb hc e n => u.keep b o e n (fun z => (List.mem_cons.mp (I.stkSub b z)).elim hL hb) hc) (fun b o _ _ hc e n => u.any e n hc) (fun b o hc e n => u.free b o e n hc) (fun b o hc e => u.there b o e hc) u.tups u.frzs u.tbls (fun m' hm => by
    obtain ⟨o', es', ep', ho', r'⟩ := hm
    rw [ho] at ho'; cases ho'
    exact ⟨_, es', ep', hL, r'⟩) hok hg
/-- an untracked record of ours (an iterator) has turned -/
theorem Inv.turned {t' : Nat} {it : Addr} (I : Inv X pins σ H s) (k : ∀ b o, b ≠ it → s.heap.get? b = some o → h'.get? b = some o) (hn : H it = none) (hL : it ≠ X.env.locals)
    (h1 : it ∈ X.ex ∨ X.s_0.heap.objs.size ≤ it) (h2 : ∀ x c, X.env.cells.lookup x = some c → c ≠ it) (h3 : ∀ p ∈ X.pn ++ pins, p.1 ≠ it) : Inv X pins σ H { s with heap := h', toks := t' } := by
  have nit : ∀ b u, H b = some u → b ≠ it := fun b u e z => by rw [z, hn] at e; cases e
  refine I.step (g' := s.gens) (d' := s.drawn) (ch := [it]) (fun b hb => ?_) (fun b o _ _ hc e _ => k b o (fun z => hc (by simp [z])) e) (fun b o _ _ hc e _ => ⟨o.slots, k b o (fun z => hc (by simp [z])) e⟩) (fun _ _ _ _ n => n)
    (fun b o hc e => ⟨o, k b o (fun z => hc (by simp [z])) e⟩) (fun _ _ e => e) (fun _ _ _ e => e) (fun b ps e => ⟨#[], by rw [e]; simp⟩) (fun m hm => ?_) (fun b u e => ?_) I.bare
  · have e : b = it := by simpa using hb
    subst e
    exact ⟨h1, hL, h2, h3⟩
  · obtain ⟨o, es, ep, ho, r⟩ := hm
    exact ⟨o, es, ep, k _ o (Ne.symm hL) ho, r⟩
  · refine (I.hok b u e).stay (fun c v hc q => k c v ?_ q) (fun _ q => q) fun _ _ q => q
    rcases hc with z | z
    · rw [z]; exact nit b u e
    · exact nit c _ z
theorem Inv.tok (I : Inv X pins σ H s) (t : Nat) : Inv X pins σ H { s with toks := t } := I.un (h' := s.heap) (t' := t) Un.refl I.hok
/-- all objects kept -/
theorem Inv.kept {t' : Nat} (I : Inv X pins σ H s) (k : ∀ b u, s.heap.get? b = some u → h'.get? b = some u) : Inv X pins σ H { s with heap := h', toks := t' } := I.un (Un.kept k) (I.hok.kept k)
/-- a new object laid and tracked -/
theorem Inv.laid {a : Addr} {o : HO} {t' : Nat} (I : Inv X pins σ H s) (k : ∀ b u, s.heap.get? b = some u → h'.get? b = some u) (hp : s.heap.objs.size ≤ a) (new : ObjOk X.prog X.w (upd H a o) h' a o) :
    Inv X pins σ (upd H a o) { s with heap := h', toks := t' } := I.un (Un.laid k hp (I.hok.fresh hp)) (I.hok.laid k hp new)
/-- an object written -/
theorem Inv.write {x e : Addr} {o : HO} {t' : Nat} (I : Inv X pins σ H s) (mu : Mut (H x)) (he : e = x ∨ H e = some (.own x)) (k : ∀ b u, b ≠ e → s.heap.get? b = some u → h'.get? b = some u) (heo : ∃ u, h'.get? e = some u)
    (new : ObjOk X.prog X.w (upd H x o) h' x o) : Inv X pins σ (upd H x o) { s with heap := h', toks := t' } := I.un (Un.write mu he k heo) (I.hok.write mu he k heo new)
theorem Inv.pins_of {pins' : List (Addr × Obj)} (I : Inv X pins σ H s) (h : ∀ p ∈ pins', s.heap.get? p.1 = some p.2 ∧ H p.1 = none ∧ p.1 ≠ X.env.locals ∧ p.1 ∉ X.fs ∧ ∀ v, p.2.data ≠ .cell v) : Inv X pins' σ H s :=
  ⟨I.ok, I.os, I.bare, I.base, I.loc, I.cell, I.free, I.freeC, fun p hp => (List.mem_append.mp hp).elim (fun z => I.pin p (List.mem_append_left _ z)) (h p), I.hok, I.len⟩

end

/-- an exception: its class, its own dict's address (where it has one), the abstract heap behind it -/
abbrev XK := Value → Option Addr → Hp → Prop
abbrev St := List (Option V)
abbrev VK := V → Hp → Prop
/-- an expression's reading; a test's; an argument list's -/
abbrev TE := St → Hp → VK → Prop
abbrev TT := St → Hp → (Bool → Hp → Prop) → Prop
abbrev TA := St → Hp → (List V → Hp → Prop) → Prop
/-- what is wanted behind a statement -/
structure Ends where
  nx : St → Hp → Prop
  rt : VK
  bk : St → Hp → Prop := fun _ _ => False
  ct : St → Hp → Prop := fun _ _ => False
abbrev TS := Ends → St → Hp → Prop

def EP (X : Cx) (pins : List (Addr × Obj)) (σ : St) (Q : VK) (u : Value) (s' : Shared) : Prop := ∃ v H', Inv X pins σ H' s' ∧ RelV v u ∧ Q v H'
def TP (X : Cx) (pins : List (Addr × Obj)) (σ : St) (Q : Bool → Hp → Prop) (b : Bool) (s' : Shared) : Prop := ∃ H', Inv X pins σ H' s' ∧ Q b H'
def AP (X : Cx) (pins : List (Addr × Obj)) (σ : St) (Q : List V → Hp → Prop) (us : List Value) (s' : Shared) : Prop := ∃ vs H', Inv X pins σ H' s' ∧ Vals vs us ∧ Q vs H'
def SP (X : Cx) (pins : List (Addr × Obj)) (D : Ends) (f : Flow) (s' : Shared) : Prop :=
  match f with
  | .next => ∃ σ' H', Inv X pins σ' H' s' ∧ D.nx σ' H'
  | .brk => ∃ σ' H', Inv X pins σ' H' s' ∧ D.bk σ' H'
  | .cont => ∃ σ' H', Inv X pins σ' H' s' ∧ D.ct σ' H'
  | .ret u => ∃ v σ' H', Inv X pins σ' H' s' ∧ RelV v u ∧ D.rt v H'

def PE (X : Cx) (e : Expr) (t : TE) : Prop :=
  ∀ (pins : List (Addr × Obj)) (s : Shared) (σ : St) (H : Hp) (Q : VK), Inv X pins σ H s → t σ H Q → wpAny (model X.prog X.w) X.A (eval e X.env) (EP X pins σ Q) X.xe s
def PT (X : Cx) (e : Expr) (t : TT) : Prop :=
  ∀ (pins : List (Addr × Obj)) (s : Shared) (σ : St) (H : Hp) (Q : Bool → Hp → Prop), Inv X pins σ H s → t σ H Q → wpAny (model X.prog X.w) X.A (isTrue e X.env (eval e X.env)) (TP X pins σ Q) X.xe s
/-- a test whatever its 'whole' is (and, or) -/
def PW (X : Cx) (e : Expr) (t : TT) : Prop :=
  ∀ (whole : Sem Value) (pins : List (Addr × Obj)) (s : Shared) (σ : St) (H : Hp) (Q : Bool → Hp → Prop), Inv X pins σ H s → t σ H Q → wpAny (model X.prog X.w) X.A (isTrue e X.env whole) (TP X pins σ Q) X.xe s
/-- an argument list (no star), from the left -/
def PA (X : Cx) (es : List Expr) (t : TA) : Prop :=
  ∀ (pos : Pos) (pins : List (Addr × Obj)) (s : Shared) (σ : St) (H : Hp) (Q : List V → Hp → Prop), Inv X pins σ H s → t σ H Q → wpAny (model X.prog X.w) X.A (spliced (backTo pos (starEach es X.env))) (AP X pins σ Q) X.xe s
def PS (X : Cx) (st : Stmt) (t : TS) : Prop :=
  ∀ (pins : List (Addr × Obj)) (s : Shared) (σ : St) (H : Hp) (D : Ends), Inv X pins σ H s → t D σ H → wpAny (model X.prog X.w) X.A (exec st X.env) (SP X pins D) X.xe s
def PSs (X : Cx) (st : List Stmt) (t : TS) : Prop :=
  ∀ (pins : List (Addr × Obj)) (s : Shared) (σ : St) (H : Hp) (D : Ends), Inv X pins σ H s → t D σ H → wpAny (model X.prog X.w) X.A (execs st X.env) (SP X pins D) X.xe s
/-- weaken the end -/
theorem thn {α : Type} {t : Sem α} {Q Q' : α → Shared → Prop} {M : Model} {A : Around} {E : Value → Shared → Prop} {s : Shared} (h : wpAny M A t Q E s) (hQ : ∀ a s, Q a s → Q' a s) : wpAny M A t Q' E s := wpAny_mono h hQ fun _ _ x => x
end L2

namespace L2
open PySem PySem.Spec PyProof.Rows
section
variable {X : Cx}

/-- two expressions in a row -/
theorem bin {a b : Expr} {ta tb : TE} (ha : PE X a ta) (hb : PE X b tb) {pins : List (Addr × Obj)} {s : Shared} {σ : St} {H : Hp} {R : V → V → Hp → Prop} (I : Inv X pins σ H s) (h : ta σ H fun x H1 => tb σ H1 fun y H2 => R x y H2)
    {α : Type} {Q : α → Shared → Prop} {f : Value → Value → Sem α}
    (hf : ∀ v u s2 x y H2, Inv X pins σ H2 s2 → RelV x v → RelV y u → R x y H2 → wpAny (model X.prog X.w) X.A (f v u) Q X.xe s2) :
    wpAny (model X.prog X.w) X.A (eval a X.env) (fun v s₁ => wpAny (model X.prog X.w) X.A (eval b X.env) (fun u s₂ => wpAny (model X.prog X.w) X.A (f v u) Q X.xe s₂) X.xe s₁) X.xe s := by
  refine thn (ha pins s σ H _ I h) fun v s1 ⟨x, H1, I1, r1, q1⟩ => ?_
  refine thn (hb pins s1 σ H1 _ I1 q1) fun u s2 ⟨y, H2, I2, r2, q2⟩ => ?_
  exact hf v u s2 x y H2 I2 r1 r2 q2

def tC (v : V) : TE := fun _ H Q => Q v H
/-- a global name of the def -/
def Gl (X : Cx) (x : Str) : Prop := X.env.kindOf x = some .globalImplicit
theorem ld_blt {E : Value → Shared → Prop} {pins : List (Addr × Obj)} {s : Shared} {σ : St} {H : Hp} {x : Str} {u : Value} {pos : Pos} {Q : Value → Shared → Prop} (I : Inv X pins σ H s) (hg : Gl X x) (hm : X.mg x = none) (hv : bootBuiltins x = some u) (h : Q u s)
    (hn : x ≠ "__name__" := by decide) (hd : (x == ("__debug__" : Str)) = false := by decide) : wpAny (model X.prog X.w) X.A (eval (.Name x pos) X.env) Q E s := by
  obtain ⟨mb, h1, h2⟩ := I.mod.blt
  exact Calls.Name_function_global I.ok.kind hg (Calls.loadGlobal_builtin (by rw [I.ok.glob]; exact I.mod.glob.keeps I.bk) hm (by rw [I.ok.blt]; exact h1.keeps I.bk) ((h2 x hn).trans hv) h) hd
theorem pe_bltn {x : Str} {v : V} {u : Value} {pos : Pos} (hg : Gl X x) (hm : X.mg x = none) (hv : bootBuiltins x = some u) (r : RelV v u) (hn : x ≠ "__name__" := by decide) (hd : (x == ("__debug__" : Str)) = false := by decide) : PE X (.Name x pos) (tC v) :=
  fun _ _ _ H _ I h => ld_blt I hg hm hv ⟨v, H, I, r, h⟩ hn hd

variable {a b : Expr} {ta tb : TE} {pos : Pos}
variable {tA tB' : TT} {rest : List Expr}
end
end L2

namespace L2
open PySem PySem.Spec PyProof.Rows

def SqL (K : PySem.W.Frag) (H : Hp) (a : Addr) (xs : List V) : Prop :=
  Rd H a (.lst xs) ∨
    ∃ (o : Obj) (its : Array Value) (n : Nat), K.lookup a = some o ∧ o.cls = .type "list" ∧ o.dict = none ∧ o.data = .seq its n ∧ its.size ≤ sizeLine ∧ Vals xs its.toList
def SqT (K : PySem.W.Frag) (H : Hp) (a : Addr) (xs : List V) : Prop :=
  Rd H a (.tup xs) ∨
    ∃ (o : Obj) (its : Array Value) (n : Nat), K.lookup a = some o ∧ o.cls = .type "tuple" ∧ o.data = .seq its n ∧ its.size ≤ sizeLine ∧ Vals xs its.toList
def absV : Value → Option V
  | .none => some .non
  | .bool b => some (.bl b)
  | .int i _ => some (.int i)
  | .str x _ => some (.str x)
  | .bytes b _ => some (.byt b)
  | .float b _ => some (.flt b)
  | .ref a => some (.ref a)
  | .type n => some (.ty n)
  | _ => none
theorem RelV.abs {x : V} {u : Value} (r : RelV x u) : absV u = some x := by
  cases x with
  | non => cases r; rfl
  | bl _ => cases r; rfl
  | int _ => obtain ⟨t, rfl⟩ := r; rfl
  | str _ => obtain ⟨t, rfl⟩ := r; rfl
  | byt _ => obtain ⟨t, rfl⟩ := r; rfl
  | flt _ => obtain ⟨t, rfl⟩ := r; rfl
  | ref _ => cases r; rfl
  | ty _ => cases r; rfl
theorem RelV.inj {x y : V} {u : Value} (r : RelV x u) (q : RelV y u) : x = y := Option.some.inj (r.abs.symm.trans q.abs)
theorem Vals.inj : ∀ {xs ys : List V} {us : List Value}, Vals xs us → Vals ys us → xs = ys
  | _, _, _, .nil, .nil => rfl
  | _, _, _, .cons r t, .cons r' t' => by rw [r.inj r', Vals.inj t t']
section
variable {X : Cx} {pins : List (Addr × Obj)} {σ : St} {H : Hp} {s : Shared} {a : Addr} {xs ys : List V}
theorem SqL.of {K : PySem.W.Frag} (h : H a = some (.lst xs)) : SqL K H a xs := .inl (.inl h)
theorem SqT.of {K : PySem.W.Frag} (h : H a = some (.tup xs)) : SqT K H a xs := .inl (.inl h)
theorem Inv.list (I : Inv X pins σ H s) (h : SqL X.K H a xs) : ∃ its : List Value, Vals xs its ∧ PlainL s.heap a its.toArray ∧ xs.length ≤ sizeLine := by
  rcases h with h | ⟨o, its, n, hk, hc, hd, hs, hz, r⟩
  · obtain ⟨z, its, n, r, e⟩ := h.ok I.hok
    exact ⟨its, r, ⟨_, n, e, rfl, rfl, rfl⟩, z⟩
  · refine ⟨its.toList, r, ⟨o, n, I.kIn a o hk, hc, hd, by simpa using hs⟩, ?_⟩
    have e := r.length
    simp only [Array.length_toList] at e
    omega
theorem Inv.tuple (I : Inv X pins σ H s) (h : SqT X.K H a xs) : ∃ its : List Value, Vals xs its ∧ IsTup s.heap a its.toArray ∧ xs.length ≤ sizeLine := by
  rcases h with h | ⟨o, its, n, hk, hc, hs, hz, r⟩
  · obtain ⟨z, its, r, p⟩ := h.ok I.hok
    exact ⟨its, r, p, z⟩
  · refine ⟨its.toList, r, ⟨o, I.kIn a o hk, hc, n, by simpa using hs⟩, ?_⟩
    have e := r.length
    simp only [Array.length_toList] at e
    omega
end

abbrev Cx.wish (X : Cx) (E : Value → Shared → Prop) : Cx := { X with xe := E }
/-- no exception leaves -/
abbrev Cx.nox (X : Cx) : Cx := X.wish fun _ _ => False
theorem Cx.Ok.wish {X : Cx} (ok : X.Ok) (E : Value → Shared → Prop) : (X.wish E).Ok :=
  ⟨ok.mod, ok.kind, ok.glob, ok.blt, ok.above, ok.inj, ok.has, ok.cab, ok.hd, ok.frames, ok.stk, ok.exf, ok.bs, ok.bsz, ok.noex, ok.exfs, ok.funs, ok.frf⟩
theorem Cx.Ok.unwish {X : Cx} {E : Value → Shared → Prop} (ok : (X.wish E).Ok) : X.Ok :=
  ⟨ok.mod, ok.kind, ok.glob, ok.blt, ok.above, ok.inj, ok.has, ok.cab, ok.hd, ok.frames, ok.stk, ok.exf, ok.bs, ok.bsz, ok.noex, ok.exfs, ok.funs, ok.frf⟩
section
variable {X : Cx} {pins : List (Addr × Obj)} {σ : St} {H : Hp} {s : Shared} {E : Value → Shared → Prop}
theorem Inv.wish (I : Inv X pins σ H s) (E : Value → Shared → Prop) : Inv (X.wish E) pins σ H s := ⟨I.ok.wish E, I.os, I.bare, I.base, I.loc, I.cell, I.free, I.freeC, I.pin, I.hok, I.len⟩
theorem Inv.unwish (I : Inv (X.wish E) pins σ H s) : Inv X pins σ H s := ⟨I.ok.unwish, I.os, I.bare, I.base, I.loc, I.cell, I.free, I.freeC, I.pin, I.hok, I.len⟩
theorem SP.unwish {D : Ends} {f : Flow} {s' : Shared} (h : SP (X.wish E) pins D f s') : SP X pins D f s' := by
  cases f with
  | next => obtain ⟨σ', H', I, q⟩ := h; exact ⟨σ', H', I.unwish, q⟩
  | brk => obtain ⟨σ', H', I, q⟩ := h; exact ⟨σ', H', I.unwish, q⟩
  | cont => obtain ⟨σ', H', I, q⟩ := h; exact ⟨σ', H', I.unwish, q⟩
  | ret u => obtain ⟨v, σ', H', I, r, q⟩ := h; exact ⟨v, σ', H', I.unwish, r, q⟩
theorem PE.nox {e : Expr} {t : TE} (h : PE X.nox e t) : PE X e t := fun pins s σ H Q I hw =>
  wpAny_mono (h pins s σ H Q (I.wish _) hw) (fun _ _ ⟨v, H', I', r, q⟩ => ⟨v, H', I'.unwish, r, q⟩) fun _ _ z => False.elim z
theorem PT.nox {e : Expr} {t : TT} (h : PT X.nox e t) : PT X e t := fun pins s σ H Q I hw =>
  wpAny_mono (h pins s σ H Q (I.wish _) hw) (fun _ _ ⟨H', I', q⟩ => ⟨H', I'.unwish, q⟩) fun _ _ z => False.elim z
theorem PSs.nox {st : List Stmt} {t : TS} (h : PSs X.nox st t) : PSs X st t := fun pins s σ H D I hw =>
  wpAny_mono (h pins s σ H D (I.wish _) hw) (fun _ _ q => q.unwish) fun _ _ z => False.elim z
end

section
variable {X : Cx} {st : Stmt} {rest : List Stmt} {t u : TS} {e : Expr} {te : TE} {pos : Pos}
end

abbrev TG := V → St → Hp → (St → Hp → Prop) → Prop
abbrev TGs := List V → St → Hp → (St → Hp → Prop) → Prop
def PG (X : Cx) (target : Expr) (t : TG) : Prop :=
  ∀ (pins : List (Addr × Obj)) (s : Shared) (σ : St) (H : Hp) (v : V) (u : Value) (Q : St → Hp → Prop), Inv X pins σ H s → RelV v u → t v σ H Q →
    wpAny (model X.prog X.w) X.A (assign target X.env u) (fun _ s' => ∃ σ' H', Inv X pins σ' H' s' ∧ Q σ' H') X.xe s
/-- several targets, one after another -/
def PGs (X : Cx) (ts : List Expr) (t : TGs) : Prop :=
  ∀ (pins : List (Addr × Obj)) (s : Shared) (σ : St) (H : Hp) (vs : List V) (us : List Value) (Q : St → Hp → Prop), Inv X pins σ H s → Vals vs us → t vs σ H Q →
    wpAny (model X.prog X.w) X.A (assignInOrder ((assignEach ts X.env).map (·.2)) us) (fun _ s' => ∃ σ' H', Inv X pins σ' H' s' ∧ Q σ' H') X.xe s
section
variable {X : Cx} {pos : Pos}
end

section
variable {X : Cx} {pos : Pos}
end

/-- at turn i: it yields x (the heap may grow), or it stops -/
structure It where
  go : Nat → Hp → Prop
  yld : Nat → Hp → V → Hp → Prop
  stop : Nat → Hp → Prop
/-- the iterator's own objects may turn: they are not the frame's, not pinned, younger than the entry (or a comprehension's own) -/
def FpOk (X : Cx) (pins : List (Addr × Obj)) (H : Hp) (b : Addr) : Prop :=
  H b = none ∧ b ≠ X.env.locals ∧ b ∉ X.fs ∧ (b ∈ X.ex ∨ X.s_0.heap.objs.size ≤ b) ∧ (∀ x c, X.env.cells.lookup x = some c → c ≠ b) ∧ ∀ p ∈ X.pn ++ pins, p.1 ≠ b
structure Turn (P : Program) (w : World) (K : PySem.W.Frag) (tg : Expr) (J : It) (fp : List Addr) (it : Addr) (tn : Nat → Heap → Prop) : Prop where
  mem : it ∈ fp
  obj : ∀ i h, tn i h → ∀ b ∈ fp, ∃ o, h.get? b = some o ∧ ∀ v, o.data ≠ .cell v
  keep : ∀ i h h', tn i h → (∀ b ∈ fp, ∀ o, h.get? b = some o → h'.get? b = some o) → tn i h'
  item : ∀ (X : Cx), X.prog = P → X.w = w → X.K = K → X.calm = true → ∀ (i : Nat) (pins : List (Addr × Obj)) (s : Shared) (σ : St) (H : Hp) (E : Value → Shared → Prop), Inv X pins σ H s → (∀ b ∈ fp, FpOk X pins H b) → tn i s.heap → J.go i H →
    wpAny (model P w) X.A (pyNext (.ref it)) (fun r s1 => ∃ u, r = some u ∧
      wpAny (model P w) X.A (letOwnedTupleGo tg (.ref it) u) (fun _ s2 => ∃ x H', Inv X pins σ H' s2 ∧ RelV x u ∧ J.yld i H x H' ∧ tn (i + 1) s2.heap ∧ ∀ b ∈ fp, H' b = none) E s1) E s
  done : ∀ (X : Cx), X.prog = P → X.w = w → X.K = K → X.calm = true → ∀ (i : Nat) (pins : List (Addr × Obj)) (s : Shared) (σ : St) (H : Hp) (E : Value → Shared → Prop), Inv X pins σ H s → (∀ b ∈ fp, FpOk X pins H b) → tn i s.heap → J.stop i H →
    wpAny (model P w) X.A (pyNext (.ref it)) (fun r s1 => r = none ∧ Inv X pins σ H s1) E s
  self : ∀ (A : Around) (i : Nat) (s : Shared) (Q : Value → Shared → Prop) (E : Value → Shared → Prop), tn i s.heap → Q (.ref it) s → wpAny (model P w) A (pyIter (.ref it)) Q E s
abbrev TI := St → Hp → (It → Hp → Prop) → Prop
/-- an iterator has come -/
def PIE (X : Cx) (pins : List (Addr × Obj)) (σ : St) (tg : Expr) (R : It → Hp → Prop) (itv : Value) (s2 : Shared) : Prop :=
  ∃ (it : Addr) (fp : List Addr) (tn : Nat → Heap → Prop) (J : It) (H' : Hp), itv = .ref it ∧ Inv X pins σ H' s2 ∧ Turn X.prog X.w X.K tg J fp it tn ∧ tn 0 s2.heap ∧ (∀ b ∈ fp, FpOk X pins H' b) ∧ R J H'
def PI (X : Cx) (tg iter : Expr) (wi : TI) : Prop :=
  ∀ (pins : List (Addr × Obj)) (s : Shared) (σ : St) (H : Hp) (R : It → Hp → Prop), Inv X pins σ H s → wi σ H R →
    wpAny (model X.prog X.w) X.A (eval iter X.env) (fun v s1 => wpAny (model X.prog X.w) X.A (pyIter v) (PIE X pins σ tg R) X.xe s1) X.xe s

end L2

namespace L2
open PySem PySem.Spec PyProof.Rows
section
variable {X : Cx} {tg : Expr}
/-- the records at fp as they stand -/
def pinsAt (fp : List Addr) (h : Heap) : List (Addr × Obj) := fp.filterMap fun b => (h.get? b).map fun o => (b, o)
theorem of_pinsAt {fp : List Addr} {h : Heap} {p : Addr × Obj} (hp : p ∈ pinsAt fp h) : p.1 ∈ fp ∧ h.get? p.1 = some p.2 := by
  obtain ⟨b, hb, e⟩ := List.mem_filterMap.mp hp
  cases q : h.get? b with
  | none => rw [q] at e; cases e
  | some o =>
    rw [q] at e
    have e' : (b, o) = p := Option.some.inj e
    subst e'
    exact ⟨hb, q⟩
theorem Inv.pinned {pins : List (Addr × Obj)} {σ : St} {H : Hp} {s : Shared} {fp : List Addr} (I : Inv X pins σ H s) (hf : ∀ b ∈ fp, FpOk X pins H b) (ho : ∀ b ∈ fp, ∃ o, s.heap.get? b = some o ∧ ∀ v, o.data ≠ .cell v) : Inv X (pins ++ pinsAt fp s.heap) σ H s :=
  I.pins_of fun p hp => (List.mem_append.mp hp).elim (fun z => I.pin p (List.mem_append_right _ z)) fun z => by
    obtain ⟨hb, e⟩ := of_pinsAt z
    obtain ⟨f0, f1, f2, _⟩ := hf p.1 hb
    obtain ⟨o, e', d⟩ := ho p.1 hb
    rw [e] at e'; cases e'
    exact ⟨e, f0, f1, f2, d⟩
end

end L2

namespace L2
open PySem PySem.Spec PyProof.Rows

abbrev R2 := V → V → Hp → VK → Prop
/-- a two-place operation on values: f is binaryOp op, inplaceOp op or compareOp op -/
def OpR (X : Cx) (f : Value → Value → Sem Value) (r : R2) : Prop :=
  ∀ (pins : List (Addr × Obj)) (s : Shared) (σ : St) (H : Hp) (x y : V) (v u : Value) (Q : VK), Inv X pins σ H s → RelV x v → RelV y u → r x y H Q →
    wpAny (model X.prog X.w) X.A (f v u) (EP X pins σ Q) X.xe s
/-- a call of a value that is known (a builtin, a type) with values -/
def CallR (X : Cx) (f : Value) (r : List V → Hp → VK → Prop) : Prop :=
  ∀ (pins : List (Addr × Obj)) (s : Shared) (σ : St) (H : Hp) (xs : List V) (us : List Value) (Q : VK), Inv X pins σ H s → Vals xs us → r xs H Q →
    wpAny (model X.prog X.w) X.A (call f us) (EP X pins σ Q) X.xe s
section
variable {X : Cx} {a b c : Expr} {ta tb tc : TE} {pos : Pos}

def CMul (i j : Int) : Prop := (-(2 ^ 64) < i ∧ i < 2 ^ 64) ∨ (-(2 ^ 64) < j ∧ j < 2 ^ 64)
theorem CMul.ok {i j : Int} (h : CMul i j) : IntMulOk i j := by
  rcases h with ⟨h1, h2⟩ | ⟨h1, h2⟩
  · exact .of_left (intBits_le_64 h1 h2)
  · exact .of_right (intBits_le_64 h1 h2)
end

section
variable {X : Cx} {a b c : Expr} {ta tb tc : TE} {pos : Pos}
theorem fin_bl {pins : List (Addr × Obj)} {σ : St} {H : Hp} {s : Shared} {Q : VK} {k k' : Bool} (I : Inv X pins σ H s) (q : Q (.bl k) H) (e : k = k') : EP X pins σ Q (.bool k') s := by
  subst e
  exact ⟨.bl k, H, I, rfl, q⟩
/-- is None, is not None: the right side a value none -/
theorem op_isN : OpR X (compareOp .Is) (fun x y H Q => y = .non ∧ Q (.bl (decide (x = .non))) H) := by
  intro pins s σ H x y v u Q I rx ry h
  obtain ⟨rfl, q⟩ := h
  cases ry
  refine is_none_gen (fin_bl I q ?_)
  cases x <;> first
    | (cases rx; rfl)
    | (obtain ⟨t, rfl⟩ := rx; rfl)
/-- is, is not of two objects that are tracked lists or instances -/
def isObj : HO → Bool
  | .lst _ => true
  | .ins _ _ _ => true
  | _ => false
/-- two rules for one operation: by cases -/
theorem OpR.or {f : Value → Value → Sem Value} {r r' : R2} (h : OpR X f r) (h' : OpR X f r') : OpR X f (fun x y H Q => r x y H Q ∨ r' x y H Q) := by
  intro pins s σ H x y v u Q I rx ry q
  rcases q with q | q
  · exact h pins s σ H x y v u Q I rx ry q
  · exact h' pins s σ H x y v u Q I rx ry q

theorem vals2 {x y : V} {us : List Value} (r : Vals [x, y] us) : ∃ u w', us = [u, w'] ∧ RelV x u ∧ RelV y w' := by
  cases r with
  | cons r1 r2 =>
    cases r2 with
    | cons r3 r4 => cases r4; exact ⟨_, _, rfl, r1, r3⟩
end
end L2

namespace L2
open PySem PySem.Spec PyProof.Rows

structure ObjM (h : Heap) (x dx C : Addr) (mA : Str → Option Value) : Prop where
  obj : h.get? x = some (PySem.W.instObj C dx)
  ns : h.Ns1 dx mA
  ne : dx ≠ x

theorem lookIn_ns {h : Heap} {dx : Addr} {mA : Str → Option Value} (n : h.Ns1 dx mA) : ∃ od, h.get? dx = some od ∧ ∀ name, PySem.W.lookIn name od = some (mA name) := by
  obtain ⟨o, es, ep, ho, hd, hk, _, hm⟩ := n
  refine ⟨o, ho, fun name => ?_⟩
  have e := hm name
  unfold nsFind findBy at e
  rw [← Array.find?_toList] at e
  unfold PySem.W.lookIn
  rw [hd]
  dsimp only
  split
  · rename_i y q
    rw [q] at e
    exact congrArg some e
  · rename_i q
    rw [q] at e
    have a : es.toList.any (·.refKey) = false := by
      rw [List.any_eq_false]
      intro y hy
      obtain ⟨z, t, hkey⟩ := hk y (Array.mem_toList_iff.mp hy)
      simp [DictEntry.refKey, hkey]
    have a' : ¬ es.toList.any (·.refKey) = true := by rw [a]; exact Bool.false_ne_true
    rw [if_neg a']
    exact congrArg some e

theorem ObjM.look {h : Heap} {x dx C : Addr} {mA : Str → Option Value} (I : ObjM h x dx C mA) : ∃ od, PySem.W.InstAt h x (PySem.W.instObj C dx) C (some od) ∧ ∀ name, PySem.W.lookIn name od = some (mA name) :=
  let ⟨od, ho, hl⟩ := lookIn_ns I.ns
  ⟨od, ⟨I.obj, rfl, rfl, ho⟩, hl⟩

section
variable {prog : Program} {w : World} {A : Around} {E : Value → Shared → Prop} {s : Shared} {K : PySem.W.Frag} {x dx C f : Addr} {mA : Str → Option Value} {name : Str} {v : Value}

theorem get_meth {pl : Sem Bool} {Q : Value × List Value → Shared → Prop} (X : K.In s.heap) (I : ObjM s.heap x dx C mA) (hg : PySem.W.plainGet K C name = true)
    (hf : PySem.W.findIn K (.ref C) name = some (some (.ref f))) (ht : PySem.W.isFn K (.ref f) = true) (hv : mA name = none) (h : Q (.ref f, [.ref x]) s) :
    wpAny (model prog w) A (getMethod (.ref x) name pl) Q E s := by
  obtain ⟨od, J, hl⟩ := I.look
  exact PySem.W.method_fn X J (PySem.W.plainGet_of hg).1 (PySem.W.plainGet_of hg).2 hf (beq_iff_eq.mp ht) (by show (PySem.W.lookIn name od).map (·.isSome) = some false; rw [hl, hv]; rfl) h

/-- C(..): the dict at the heap's end, the instance behind it; then its __init__ -/
theorem make_map {R : Result → Shared → Prop} {vs : List Value} {kw : List (Str × Value)} (X : K.In s.heap) (hm : PySem.W.makesIn K C = true)
    (hi : PySem.W.findIn K (.ref C) "__init__" = some (some (.ref f))) (hf : PySem.W.typeIn K (.ref f) = some (.type "function"))
    (h : codeAny (model prog w) (A.under (.builtin "type.__call__" ⟨.ref C :: vs, kw⟩)) (.call (.ref f) ⟨.ref (s.heap.objs.size + 1) :: vs, kw⟩) (PySem.W.InitBack (s.heap.objs.size + 1) R)
      { s with heap := (s.heap.push PySem.W.emptyDict).push (PySem.W.instObj C s.heap.objs.size) }) :
    codeAny (model prog w) A (.call (.ref C) ⟨vs, kw⟩) R s := by
  obtain ⟨hh, g, d, t, os⟩ := s
  exact PySem.W.make_core (PySem.W.makes_of X hm) (PySem.W.looks_findIn X hi) (fun self => PySem.W.bind_fn X self hf) (.inl rfl) h
end

theorem RelO.none_of {o : Option Value} (r : RelO none o) : o = none := by
  cases o with
  | none => rfl
  | some u => exact (show False from r).elim
section
variable {P : Program} {w : World} {H H' : Hp} {h h' : Heap} {a C dx : Addr} {fs fs' : List (Str × V)}
theorem ins_get (hok : HOk P w H h) (e : H a = some (.ins C dx fs)) : ∃ mA, ObjM h a dx C mA ∧ (∀ f, RelO (fs.lookup f) (mA f)) ∧ PySem.Within mA (fs.map (·.1)) ∧ fs.length ≤ 1000 ∧ H dx = some (.own a) := by
  obtain ⟨d, z, ne, ob, mA, n, r, q⟩ := (show ObjOk P w H h a (.ins C dx fs) from hok a _ e)
  exact ⟨mA, ⟨ob, n, ne⟩, r, q, z, d⟩
end

structure Cls (K : PySem.W.Frag) (C : Addr) : Prop where
  pg : PySem.W.plainGet K C Str.empty = true
  hd : PySem.W.hasDictIn K C = true
  po : PySem.W.plainOver K C = true
  sa : PySem.W.findIn K (.ref C) "__setattr__" = some (some (.builtin "object.__setattr__"))
theorem Cls.get {K : PySem.W.Frag} {C : Addr} (c : Cls K C) (f : Str) : PySem.W.plainGet K C f = true := c.pg
/-- no class of it has the name -/
def NoAttr (K : PySem.W.Frag) (C : Addr) (f : Str) : Prop := PySem.W.findIn K (.ref C) f = some none
/-- a constant of the class -/
structure Con (K : PySem.W.Frag) (C : Addr) (f : Str) (v : V) (u : Value) : Prop where
  at_ : PySem.W.findIn K (.ref C) f = some (some u)
  rel : RelV v u
  get : PySem.W.specialIn K u "__get__" = some none
  cp : PySem.W.copiedNames.contains f = false
/-- a method: a plain def of the class or of one above it -/
structure Meth (K : PySem.W.Frag) (C : Addr) (m : Str) (f : Addr) : Prop where
  at_ : PySem.W.findIn K (.ref C) m = some (some (.ref f))
  fn : PySem.W.isFn K (.ref f) = true
  kp : PySem.W.keepIn K (.ref f) = true

section
variable {X : Cx} {pins : List (Addr × Obj)} {σ : St} {H : Hp} {s : Shared} {a C dx : Addr} {fs : List (Str × V)} {f : Str} {v : V} {A : Around} {E : Value → Shared → Prop}

theorem getmeth_ok {m : Str} {g : Addr} {pl : Sem Bool} {Q : Value × List Value → Shared → Prop} (I : Inv X pins σ H s) (e : H a = some (.ins C dx fs)) (c : Cls X.K C) (k : Meth X.K C m g) (l : fs.lookup m = none)
    (h : Q (.ref g, [.ref a]) s) : wpAny (model X.prog X.w) A (getMethod (.ref a) m pl) Q E s := by
  obtain ⟨mA, O, r, _, _, _⟩ := ins_get I.hok e
  have hn : mA m = none := RelO.none_of (by rw [← l]; exact r m)
  exact get_meth I.kIn O (c.get m) k.at_ k.fn hn h

/-- a new instance, tracked, without attributes -/
theorem Inv.made (I : Inv X pins σ H s) : Inv X pins σ (upd (upd H s.heap.objs.size (.own (s.heap.objs.size + 1))) (s.heap.objs.size + 1) (.ins C s.heap.objs.size []))
    { s with heap := (s.heap.push PySem.W.emptyDict).push (PySem.W.instObj C s.heap.objs.size) } := by
  have e1 : (s.heap.push PySem.W.emptyDict).get? s.heap.objs.size = some PySem.W.emptyDict := Heap.get?_push_size s.heap rfl
  have e2 : ((s.heap.push PySem.W.emptyDict).push (PySem.W.instObj C s.heap.objs.size)).get? (s.heap.objs.size + 1) = some (PySem.W.instObj C s.heap.objs.size) := by
    have := Heap.get?_push_size (s.heap.push PySem.W.emptyDict) (o := PySem.W.instObj C s.heap.objs.size) rfl
    rwa [Heap.size_push] at this
  have e3 : (s.heap.push PySem.W.emptyDict).Ns s.heap.objs.size (fun _ => none) := ⟨PySem.W.emptyDict, #[], _, e1, rfl, (fun e he => absurd he (by simp)), fun _ => rfl⟩
  have I1 := I.laid (a := s.heap.objs.size) (o := .own (s.heap.objs.size + 1)) (h' := s.heap.push PySem.W.emptyDict) (t' := s.toks) (fun b u q => Heap.get?_push_of_some _ q) (Nat.le_refl _) ⟨_, e1⟩
  refine I1.laid (a := s.heap.objs.size + 1) (o := .ins C s.heap.objs.size []) (t' := s.toks) (fun b u q => Heap.get?_push_of_some _ q) (Nat.le_of_eq (Heap.size_push _ _)) ?_
  have ne : s.heap.objs.size ≠ s.heap.objs.size + 1 := Nat.ne_of_lt (Nat.lt_succ_self _)
  refine ⟨by rw [upd_ne ne, upd_same], Nat.zero_le _, ne, e2, fun _ => none, (Heap.Ns1.of_empty e3).at fun o q => Heap.get?_push_of_some _ q, fun _ => True.intro, fun y hy => absurd rfl hy⟩

end

/-- e.f, an attribute of the instance -/
def tFld (K : PySem.W.Frag) (ta : TE) (f : Str) : TE := fun σ H Q => ta σ H fun x H1 => ∃ a C dx fs v, x = .ref a ∧ H1 a = some (.ins C dx fs) ∧ Cls K C ∧ NoAttr K C f ∧ fs.lookup f = some v ∧ Q v H1
section
variable {X : Cx} {o e value : Expr} {f : Str} {pos pos' tpos : Pos} {ta tv : TE}
/-- what is between an instance and its method: the tree of a method call -/
theorem methcall_of {pl : Sem Bool} {m : Str} {apos : Pos} {args : List Expr} {pins : List (Addr × Obj)} {s : Shared} {σ : St} {H : Hp} {Q : Value → Shared → Prop} {te : TE} (he : PE X e te) (I : Inv X pins σ H s)
    (h : te σ H fun x H1 => ∃ a C dx fs g, x = .ref a ∧ H1 a = some (.ins C dx fs) ∧ Cls X.K C ∧ Meth X.K C m g ∧ fs.lookup m = none ∧
      ∀ s1, Inv X pins σ H1 s1 → wpAny (model X.prog X.w) X.A (callWith pos (.ref g) [.ref a] (backTo pos (starEach args X.env)) (backToKw pos (keywordEach [] X.env))) Q X.xe s1)
    (ht : eval (.Call (.Attribute e m apos) args [] pos) X.env = (do
      let ov ← eval e X.env
      standAt apos.atName
      let (f, first) ← holding [ov] (getMethod ov m pl)
      callWith pos f first (backTo pos (starEach args X.env)) (backToKw pos (keywordEach [] X.env)))) :
    wpAny (model X.prog X.w) X.A (eval (.Call (.Attribute e m apos) args [] pos) X.env) Q X.xe s := by
  refine PySem.W.methodCall_KW (pl := pl) (thn (he pins s σ H _ I h) fun u s1 ⟨x, H1, I1, rx, a, C, dx, fs, g, ex, ea, c, k, l, q⟩ => ?_) ht
  subst ex
  obtain rfl : u = Value.ref a := rx
  exact getmeth_ok I1 ea c k l (q s1 I1)
end

section
variable {X : Cx} {pins : List (Addr × Obj)} {σ : St} {H : Hp} {s : Shared} {A : Around} {E : Value → Shared → Prop} {Q : Value → Shared → Prop} {c : Value} {b : Bool}
/-- the type of a value, as the fragment's deciders take it; for an instance its class -/
inductive TyOf (K : PySem.W.Frag) (H : Hp) : V → Value → Prop where
  | non : TyOf K H .non (.type "NoneType")
  | bl (x : Bool) : TyOf K H (.bl x) (.type "bool")
  | int (i : Int) : TyOf K H (.int i) (.type "int")
  | str (x : Str) : TyOf K H (.str x) (.type "str")
  | flt (x : UInt64) : TyOf K H (.flt x) (.type "float")
  | lst {a : Addr} {xs : List V} (e : H a = some (.lst xs)) : TyOf K H (.ref a) (.type "list")
  | frz {a : Addr} {o : Obj} {xs : List V} (e : H a = some (.frz o (.lst xs))) : TyOf K H (.ref a) (.type "list")
  | tup {a : Addr} {xs : List V} (e : H a = some (.tup xs)) : TyOf K H (.ref a) (.type "tuple")
  | dK {a : Addr} {kvs : List (Key × V)} (e : H a = some (.dK kvs)) : TyOf K H (.ref a) (.type "dict")
  | dT {a : Addr} {kvs : List (List Key × V)} (e : H a = some (.dT kvs)) : TyOf K H (.ref a) (.type "dict")
  | ins {a C dx : Addr} {fs : List (Str × V)} (e : H a = some (.ins C dx fs)) (cl : Cls K C) (ha : PySem.W.findIn K (.ref C) "__class__" = some (some (.builtin "object.__class__")))
      (hn : PySem.W.specialIn K (.builtin "object.__class__") "__get__" = some (some (.builtin "getset_descriptor.__get__"))) (htk : PySem.W.takesIn K (.builtin "object.__class__") = some true)
      (hm : PySem.W.mroIn K C (.type "object") = some true) : TyOf K H (.ref a) (.ref C)
/-- isinstance(x, c) for one class c, a built-in or an own one: kitOne's answer -/
theorem isinst_ok {x : V} {u t : Value} (I : Inv X pins σ H s) (rx : RelV x u) (ty : TyOf X.K H x t) (e : PySem.W.kitOne X.K t c = some b) (h : ∀ tk, Q (.bool b) { s with toks := tk }) :
    wpAny (model X.prog X.w) A (call (.builtin "isinstance") [u, c]) Q E s := by
  cases ty with
  | non => cases (show u = Value.none from rx); exact PySem.W.kia_one PySem.W.kitx_none I.kIn True.intro e (fun z => nomatch z) h
  | bl y => cases (show u = Value.bool y from rx); exact PySem.W.kia_one PySem.W.kitx_bool I.kIn True.intro e (fun z => nomatch z) h
  | int i => obtain ⟨t, q⟩ := (show ∃ t, u = Value.int i t from rx); cases q; exact PySem.W.kia_one PySem.W.kitx_int I.kIn True.intro e (fun z => nomatch z) h
  | str y => obtain ⟨t, q⟩ := (show ∃ t, u = Value.str y t from rx); cases q; exact PySem.W.kia_one PySem.W.kitx_str I.kIn True.intro e (fun z => nomatch z) h
  | flt y => obtain ⟨t, q⟩ := (show ∃ t, u = Value.float y t from rx); cases q; exact PySem.W.kia_one PySem.W.kitx_float I.kIn True.intro e (fun z => nomatch z) h
  | @lst a xs ea =>
    cases (show u = Value.ref a from rx)
    obtain ⟨_, _, n, _, h1⟩ := (show ObjOk X.prog X.w H s.heap a (.lst xs) from I.hok a _ ea)
    exact PySem.W.kia_one PySem.W.kitx_list I.kIn ⟨_, h1, rfl⟩ e (fun z => nomatch z) h
  | @frz a ob xs ea =>
    cases (show u = Value.ref a from rx)
    obtain ⟨_, _, _, n, _, h1⟩ := (show ObjOk X.prog X.w H s.heap a (.frz ob (.lst xs)) from I.hok a _ ea)
    exact PySem.W.kia_one PySem.W.kitx_list I.kIn ⟨_, h1, rfl⟩ e (fun z => nomatch z) h
  | @tup a xs ea =>
    cases (show u = Value.ref a from rx)
    obtain ⟨_, _, _, p⟩ := (show ObjOk X.prog X.w H s.heap a (.tup xs) from I.hok a _ ea)
    obtain ⟨o, h1, h2, _⟩ := p
    exact PySem.W.kia_one PySem.W.kitx_tuple I.kIn ⟨o, h1, h2⟩ e (fun z => nomatch z) h
  | @dK a kvs ea =>
    cases (show u = Value.ref a from rx)
    obtain ⟨_, _, vs, _, p⟩ := (show ObjOk X.prog X.w H s.heap a (.dK kvs) from I.hok a _ ea)
    obtain ⟨o, es, ep, h1, h2, _⟩ := p
    exact PySem.W.kia_one PySem.W.kitx_dict I.kIn ⟨o, h1, h2.1⟩ e (fun z => nomatch z) h
  | @dT a kvs ea =>
    cases (show u = Value.ref a from rx)
    obtain ⟨_, _, xs, _, o, es, ep, h1, h2, _⟩ := (show ObjOk X.prog X.w H s.heap a (.dT kvs) from I.hok a _ ea)
    exact PySem.W.kia_one PySem.W.kitx_dict I.kIn ⟨o, h1, h2.1⟩ e (fun z => nomatch z) h
  | @ins a C dx fs ea cl ha hn htk hm =>
    cases (show u = Value.ref a from rx)
    obtain ⟨mA, O, _⟩ := ins_get I.hok ea
    obtain ⟨od, J, _⟩ := O.look
    exact PySem.W.kia_one (PySem.W.kitx_own (cl.get _) cl.hd ha hn htk hm) I.kIn J e (fun z => nomatch z) h
end
end L2

namespace L2
open PySem PySem.Spec PyProof.Rows

structure Room (k : Nat) (A : Around) : Prop where
  hd : A.handled = none
  dp : A.depth + 3 * k + 5 < recursionLimit
  un : A.units + 16 * k + 200 < cLine
theorem Room.mono {j k : Nat} {A : Around} (r : Room k A) (h : j ≤ k) : Room j A := ⟨r.hd, by have := r.dp; omega, by have := r.un; omega⟩
theorem Room.deeper {k : Nat} {A : Around} (r : Room (k + 1) A) (env : Env) : Room k (A.deeper env) :=
  ⟨r.hd, by have := r.dp; show A.depth + 1 + 3 * k + 5 < _; omega, by have := r.un; show A.units + 3 + 16 * k + 200 < _; omega⟩
theorem make_depth {A : Around} {C : Addr} {us : List Value} {kw : List (Str × Value)} : (A.under (.builtin "type.__call__" ⟨.ref C :: us, kw⟩)).depth = A.depth + 1 := by
  first | rfl | simp [Around.under, Code.weight, Code.isCreation, Code.isGuard, Code.isCaller, Code.frames, Code.isFrame, guardIds]
theorem make_units {A : Around} {C : Addr} {us : List Value} {kw : List (Str × Value)} : (A.under (.builtin "type.__call__" ⟨.ref C :: us, kw⟩)).units = A.units + 1 := by
  first | rfl | simp [Around.under, Code.cUnits, Code.frames, Code.isFrame]
theorem Room.make {k : Nat} {A : Around} (r : Room (k + 1) A) (C : Addr) (us : List Value) (kw : List (Str × Value)) : Room k (A.under (.builtin "type.__call__" ⟨.ref C :: us, kw⟩)) :=
  ⟨r.hd, by have := r.dp; rw [make_depth]; omega, by have := r.un; rw [make_units]; omega⟩
theorem Room.depth {k : Nat} {A : Around} (r : Room k A) : A.depth < recursionLimit := by have := r.dp; omega
theorem Room.units {k : Nat} {A : Around} (r : Room k A) : A.units + 64 < cLine := by have := r.un; omega
def tNil : TA := fun _ H Q => Q [] H
def tCons (ta : TE) (tr : TA) : TA := fun σ H Q => ta σ H fun x H1 => tr σ H1 fun xs H2 => Q (x :: xs) H2
section
variable {X : Cx} {e : Expr} {es : List Expr} {te : TE} {t : TA} {pos : Pos}
theorem pa_nil : PA X [] tNil := fun _ _ _ _ H Q I h => Calls.spliced_nil ⟨[], H, I, .nil, h⟩
theorem pa_cons (ha : PE X e te) (hr : PA X es t) (hs : starEach (e :: es) X.env = (false, eval e X.env) :: starEach es X.env := by rfl) : PA X (e :: es) (tCons te t) := by
  intro pos pins s σ H Q I h
  rw [hs]
  show wpAny _ _ (spliced ((false, eval e X.env) :: backTo pos (starEach es X.env))) _ _ s
  refine Calls.spliced_cons (thn (ha pins s σ H _ I h) fun u s1 ⟨x, H1, I1, r1, q1⟩ => ?_)
  exact thn (hr pos pins s1 σ H1 _ I1 q1) fun us s2 ⟨xs, H2, I2, r2, q2⟩ => ⟨x :: xs, H2, I2, .cons r1 r2, q2⟩

end

/-- a def's promise: the bound arguments in the parameters' order, the heap, the wanted end, the wanted exception -/
abbrev Sp := List V → Hp → VK → XK → Prop
/-- how an exception lies behind a call (file 08 gives it): the callers' frames, abstract heap and state ahead of the call, the wish, the exception, the state -/
abbrev CXT := List Env → Hp → Shared → XK → Value → Shared → Prop

/-- the state at a call -/
structure Env0 (P : Program) (w : World) (K : PySem.W.Frag) (mg : Str → Option Value) (base : Heap) (A : Around) (outer : List Env) (s : Shared) (H : Hp) : Prop where
  frames : A.frames = some outer
  mod : Mod K mg base
  bs : ∀ b o, base.get? b = some o → s.heap.get? b = some o ∧ H b = none
  bsz : base.objs.size ≤ s.heap.objs.size
  funs : s.heap.FunFrames base outer
  frf : ∀ b ∈ frs outer, H b = none
  hok : HOk P w H s.heap
  bare : AllBare s.gens
/-- a call's end -/
def CE (outer : List Env) (P : Program) (w : World) (H : Hp) (s : Shared) (Q : VK) (u : Value) (s' : Shared) : Prop :=
  ∃ v H', s'.os = s.os ∧ AllBare s'.gens ∧ Un (frs outer) [] H H' s.heap s'.heap ∧ HOk P w H' s'.heap ∧ RelV v u ∧ Q v H'
def CR (CX : CXT) (outer : List Env) (P : Program) (w : World) (H : Hp) (s : Shared) (Q : VK) (E : XK) (r : Result) (s' : Shared) : Prop :=
  match r with
  | .ok (.ret u) => CE outer P w H s Q u s'
  | .ok _ => False
  | .error e => CX outer H s E e s'
structure FnOk (P : Program) (w : World) (K : PySem.W.Frag) (mg : Str → Option Value) (base : Heap) (CX : CXT) (k : Nat) (f : Addr) (fd : FuncData) (ps : List Str) (sp : Sp) : Prop where
  len : ∀ vs H Q E, sp vs H Q E → vs.length = ps.length
  run : ∀ (A : Around) (outer : List Env) (s : Shared) (H : Hp) (args : Args) (us : List Value) (vs : List V) (Q : VK) (E : XK), Room k A → Env0 P w K mg base A outer s H → BindsTo s fd args (ps.zip us) → Vals vs us → sp vs H Q E →
    codeAny (model P w) A (.call (.ref f) args) (CR CX outer P w H s Q E) s
theorem FnOk.mono {P : Program} {w : World} {K : PySem.W.Frag} {mg : Str → Option Value} {base : Heap} {CX : CXT} {j k : Nat} {f : Addr} {fd : FuncData} {ps : List Str} {sp : Sp} (F : FnOk P w K mg base CX j f fd ps sp) (h : j ≤ k) :
    FnOk P w K mg base CX k f fd ps sp := ⟨F.len, fun A outer s H args us vs Q E hr => F.run A outer s H args us vs Q E (hr.mono h)⟩
/-- a weaker promise -/
theorem FnOk.imp {P : Program} {w : World} {K : PySem.W.Frag} {mg : Str → Option Value} {base : Heap} {CX : CXT} {k : Nat} {f : Addr} {fd : FuncData} {ps : List Str} {sp sp' : Sp} (F : FnOk P w K mg base CX k f fd ps sp)
    (h : ∀ vs H Q E, sp' vs H Q E → sp vs H Q E) : FnOk P w K mg base CX k f fd ps sp' :=
  ⟨fun vs H Q E q => F.len vs H Q E (h _ _ _ _ q), fun A outer s H args us vs Q E hr he hb hv hs => F.run A outer s H args us vs Q E hr he hb hv (h _ _ _ _ hs)⟩

theorem Env0.make {P : Program} {w : World} {K : PySem.W.Frag} {mg : Str → Option Value} {base : Heap} {A : Around} {outer : List Env} {s : Shared} {H : Hp} (e : Env0 P w K mg base A outer s H) (C : Addr) (us : List Value) (kw : List (Str × Value)) :
    Env0 P w K mg base (A.under (.builtin "type.__call__" ⟨.ref C :: us, kw⟩)) outer s H := ⟨by first | exact e.frames | (simpa [Around.under, Code.envs, Code.isFrame, pushEnvs] using e.frames), e.mod, e.bs, e.bsz, e.funs, e.frf, e.hok, e.bare⟩
section
variable {X : Cx} {pins : List (Addr × Obj)} {σ : St} {H : Hp} {s s' : Shared}
/-- behind a call -/
theorem Inv.after {Q : VK} {u : Value} (I : Inv X pins σ H s) (h : CE X.stack X.prog X.w H s Q u s') : EP X pins σ Q u s' := by
  obtain ⟨v, H', os, bare, un, hok, r, q⟩ := h
  obtain ⟨hh, g, d, t, os'⟩ := s'
  obtain rfl : os' = s.os := os
  exact ⟨v, H', I.call (h' := hh) (g' := g) (d' := d) (t' := t) (ch := []) un hok bare (fun b z => absurd z (by simp)), r, q⟩
end

/-- o.m(..) of an instance of the class at C -/
def tMeth (C : Addr) (m : Str) (sp : Sp) (dvs : List V) (E : XK) (ta : TE) (t : TA) : TE := fun σ H Q => ta σ H fun x H1 => ∃ a dx fs, x = .ref a ∧ H1 a = some (.ins C dx fs) ∧ fs.lookup m = none ∧
  t σ H1 fun vs H2 => sp (x :: (vs ++ dvs)) H2 Q E
/-- C(..): a new instance and its dict, then __init__ -/
def tMake (C : Addr) (sp : Sp) (dvs : List V) (E : XK) (t : TA) : TE := fun σ H Q => t σ H fun vs H1 => ∀ x dx, H1 x = none → H1 dx = none → dx ≠ x →
  sp (.ref x :: (vs ++ dvs)) (upd (upd H1 dx (.own x)) x (.ins C dx [])) (fun v H2 => v = .non ∧ Q (.ref x) H2) E

/-- how the parameters are bound: us the positional arguments, kw the keywords' values by name, ds the defaults that fill up -/
def Binds (K : PySem.W.Frag) (fd : FuncData) (ps : List Str) (ds : List Value) : Prop :=
  ∀ (s : Shared) (us : List Value), K.In s.heap → (us ++ ds).length = ps.length → BindsTo s fd ⟨us, []⟩ (ps.zip (us ++ ds))
/-- every parameter is given -/
theorem Binds.all {K : PySem.W.Frag} {fd : FuncData} {ps : List Str} (h : ∀ us : List Value, us.length = ps.length → bindArgs fd ⟨us, []⟩ = pure (ps.zip us)) : Binds K fd ps [] := fun s us _ hl => by
  rw [List.append_nil] at hl ⊢
  exact .of_eq (h us hl)

section
variable {X : Cx} {CX : CXT} {k : Nat} {f C : Addr} {fd : FuncData} {ps : List Str} {sp : Sp} {dvs : List V} {ds : List Value} {E : XK} {x m : Str} {p pos apos : Pos} {e o : Expr} {es : List Expr} {ta : TE} {t : TA}

/-- what a class must have to be made -/
structure Mk (K : PySem.W.Frag) (C f : Addr) : Prop where
  makes : PySem.W.makesIn K C = true
  init : PySem.W.findIn K (.ref C) "__init__" = some (some (.ref f))
  fn : PySem.W.isFn K (.ref f) = true
  kp : PySem.W.keepIn K (.ref C) = true

end

section
variable {X : Cx} {CX : CXT} {k : Nat} {f C : Addr} {fd : FuncData} {ps ks : List Str} {sp : Sp} {E : XK} {x m : Str} {p pos apos kpos : Pos} {e o : Expr} {es : List Expr} {kws : List Keyword} {te ta : TE} {t tk : TA} {nm : Option Str}
/-- how a call with keywords binds: g puts the positional values us and the keywords' values ws (names ks) in the parameters' order, defaults among them -/
structure KBinds (K : PySem.W.Frag) (fd : FuncData) (ps ks : List Str) (g : List Value → List Value → List Value) (gV : List V → List V → List V) : Prop where
  to : ∀ (s : Shared) (us ws : List Value), K.In s.heap → (g us ws).length = ps.length → BindsTo s fd ⟨us, ks.zip ws⟩ (ps.zip (g us ws))
  rel : ∀ {vs : List V} {us : List Value} {zs : List V} {ws : List Value}, Vals vs us → Vals zs ws → Vals (gV vs zs) (g us ws)
variable {g : List Value → List Value → List Value} {gV : List V → List V → List V}
end

/-- names: the parameters first -/
structure FnScope (N P : List Str) (sc : Scope) : Prop where
  kind : sc.kind = .function
  co : sc.isCoroutine = false
  gen : sc.isGenerator = false
  nd : N.Nodup
  pre : N.take P.length = P
  par : ∀ x ∈ P, sc.names.lookup x = some .local ∨ sc.names.lookup x = some .cell
  nofree : ∀ y ∈ sc.names, y.2 ≠ .free

theorem bindL_out {kindOf : Str → Option NameKind} {x : Str} : ∀ {binds : List (Str × Value)} {m : Str → Option Value}, (∀ v, (x, v) ∉ binds) → bindL kindOf binds m x = m x
  | [], _, _ => rfl
  | (n, v) :: r, m, h => by
    unfold bindL
    rw [bindL_out fun w hw => h w (List.mem_cons_of_mem _ hw)]
    split
    · have : x ≠ n := by rintro rfl; exact h v List.mem_cons_self
      simp [this]
    · rfl
theorem bindC_out {kindOf : Str → Option NameKind} {x : Str} : ∀ {binds : List (Str × Value)} {m : Str → Option Value}, (∀ v, (x, v) ∉ binds) → bindC kindOf binds m x = m x
  | [], _, _ => rfl
  | (n, v) :: r, m, h => by
    unfold bindC
    rw [bindC_out fun w hw => h w (List.mem_cons_of_mem _ hw)]
    split
    · rfl
    · have : x ≠ n := by rintro rfl; exact h v List.mem_cons_self
      simp [this]
theorem bindL_get {kindOf : Str → Option NameKind} {x : Str} {v : Value} : ∀ {P : List Str} {vs : List Value} {i : Nat} {m : Str → Option Value}, P.Nodup → P[i]? = some x → vs[i]? = some v → kindOf x = some .local →
    bindL kindOf (P.zip vs) m x = some v
  | [], _, _, _, _, h, _, _ => by simp at h
  | _ :: _, [], _, _, _, _, h, _ => by simp at h
  | p :: P, w :: vs, 0, m, nd, h1, h2, hk => by
    simp at h1 h2; subst h1; subst h2
    show bindL kindOf ((p, w) :: P.zip vs) m p = _
    unfold bindL
    rw [bindL_out fun v hv => (List.nodup_cons.mp nd).1 (List.of_mem_zip hv).1, if_pos hk]
    simp
  | p :: P, w :: vs, i + 1, m, nd, h1, h2, hk => by
    show bindL kindOf ((p, w) :: P.zip vs) m x = _
    unfold bindL
    exact bindL_get (i := i) (List.nodup_cons.mp nd).2 (by simpa using h1) (by simpa using h2) hk
theorem bindC_get {kindOf : Str → Option NameKind} {x : Str} {v : Value} : ∀ {P : List Str} {vs : List Value} {i : Nat} {m : Str → Option Value}, P.Nodup → P[i]? = some x → vs[i]? = some v → kindOf x ≠ some .local →
    bindC kindOf (P.zip vs) m x = some v
  | [], _, _, _, _, h, _, _ => by simp at h
  | _ :: _, [], _, _, _, _, h, _ => by simp at h
  | p :: P, w :: vs, 0, m, nd, h1, h2, hk => by
    simp at h1 h2; subst h1; subst h2
    show bindC kindOf ((p, w) :: P.zip vs) m p = _
    unfold bindC
    rw [bindC_out fun v hv => (List.nodup_cons.mp nd).1 (List.of_mem_zip hv).1, if_neg hk]
    simp
  | p :: P, w :: vs, i + 1, m, nd, h1, h2, hk => by
    show bindC kindOf ((p, w) :: P.zip vs) m x = _
    unfold bindC
    exact bindC_get (i := i) (List.nodup_cons.mp nd).2 (by simpa using h1) (by simpa using h2) hk

/-- the names' values at the entry -/
def start (N : List Str) (vs : List V) : St := vs.map some ++ List.replicate (N.length - vs.length) none

/-- the context of a def's body, at its entry; an exception leaves the frame, then lies as CX says -/
def cxOf (CX : CXT) (P : Program) (w : World) (K : PySem.W.Frag) (mg : Str → Option Value) (base : Heap) (N : List Str) (qual : Str) (scope : Scope) (f : Addr) (cd : Value) (A : Around) (outer : List Env) (s : Shared) (H : Hp) (E : XK) : Cx where
  prog := P
  w := w
  K := K
  mg := mg
  base := base
  A := A.deeper (envOfC qual scope s.heap.objs.size f cd)
  N := N
  s_0 := s
  H_0 := H
  env := envOfC qual scope s.heap.objs.size f cd
  outer := outer
  stack := envOfC qual scope s.heap.objs.size f cd :: outer
  ex := []
  calm := true
  fn := fun _ => true
  pn := []
  xe := fun e s' => wpAny (model P w) (A.deeper (envOfC qual scope s.heap.objs.size f cd)) (leaving (envOfC qual scope s.heap.objs.size f cd) e) (fun _ s'' => CX outer H s E e s'') (fun e' s'' => CX outer H s E e' s'') s'

theorem cell_has {sc : Scope} {n : Nat} {x : Str} (h : sc.names.lookup x = some .cell) : ∃ c, (cellsFrom n sc.names []).lookup x = some c := by
  have q := PySem.W.cellsFrom_some sc.names n [] (.inl h)
  exact Option.isSome_iff_exists.mp q

theorem inv_start {CX : CXT} {P : Program} {w : World} {K : PySem.W.Frag} {mg : Str → Option Value} {base : Heap} {N ps : List Str} {qual : Str} {scope : Scope} {f : Addr} {cd : Value} {A : Around} {outer : List Env} {s s1 : Shared} {H : Hp} {E : XK} {us : List Value} {vs : List V}
    (S : FnScope N ps scope) (hd : A.handled = none) (e0 : Env0 P w K mg base A outer s H) (hl : vs.length = ps.length) (r : Vals vs us)
    (x : InCallC s s.heap.objs.size (bindL (envOfC qual scope s.heap.objs.size f cd).kindOf (ps.zip us) fun _ => none) (cellsFrom (s.heap.objs.size + 1) scope.names []) (bindC (envOfC qual scope s.heap.objs.size f cd).kindOf (ps.zip us) fun _ => none) s1) :
    Inv (cxOf CX P w K mg base N qual scope f cd A outer s H E) [] (start N vs) H s1 := by
  have hpl : ps.length ≤ N.length := by have := congrArg List.length S.pre; rw [List.length_take] at this; omega
  obtain ⟨h1, tk, rfl, hk⟩ := x.done
  have noA : ∀ b : Addr, b ∉ (cxOf CX P w K mg base N qual scope f cd A outer s H E).ex := fun b z => absurd (show b ∈ ([] : List Addr) from z) (by simp)
  refine ⟨⟨e0.mod, S.kind, rfl, rfl, Nat.le_refl _, fun y z c h1 h2 => ?_, fun y hy => ?_, fun y c _ h => ?_, fun _ => hd, Around.frames_deeper e0.frames, .inr ⟨rfl, rfl⟩, fun b z => absurd z (noA b), e0.bs, e0.bsz, fun b _ _ => noA b, fun b z => absurd z (noA b), e0.funs, e0.frf⟩,
    rfl, e0.bare, Un.kept hk, ⟨_, x.toInCall.ns, fun i y v h1 h2 h3 => ?_⟩, fun y c h => ⟨_, x.cell y c h⟩, e0.hok.fresh (Nat.le_refl _), fun y c h => ?_, fun p hp => absurd (show p ∈ ([] : List (Addr × Obj)) from hp) (by simp), e0.hok.kept hk, ?_⟩
  · exact name_of_addr x.apart (PySem.mem_of_lookup h1) (PySem.mem_of_lookup h2)
  · have hy : scope.names.lookup y = some .cell ∨ scope.names.lookup y = some .free := hy
    rcases hy with hy | hy
    · exact cell_has hy
    · exact absurd rfl (S.nofree _ (PySem.mem_of_lookup hy))
  · exact Nat.le_of_lt (x.above y c (PySem.mem_of_lookup h))
  · have hi : i < vs.length := by
      unfold start at h2
      by_cases hi : i < vs.length
      · exact hi
      · rw [List.getElem?_append_right (by simpa using hi)] at h2
        rw [List.getElem?_replicate] at h2
        split at h2 <;> cases h2
    have ha : vs[i]? = some v := by
      unfold start at h2
      rw [List.getElem?_append_left (by simpa using hi), List.getElem?_map] at h2
      cases e : vs[i]? with
      | none => rw [e] at h2; cases h2
      | some a => rw [e] at h2; cases h2; rfl
    obtain ⟨u, hu, rv⟩ := r.get ha
    have hp : ps[i]? = some y := by
      rw [← S.pre, List.getElem?_take_of_lt (by omega)]; exact h1
    have ndP : ps.Nodup := by rw [← S.pre]; exact S.nd.sublist (List.take_sublist _ _)
    refine ⟨u, rv, ?_⟩
    rcases S.par y (List.mem_of_getElem? hp) with k | k
    · exact .inl ⟨k, bindL_get ndP hp hu k⟩
    · obtain ⟨c, e⟩ := cell_has (n := s.heap.objs.size + 1) k
      refine .inr ⟨.inl k, c, e, ?_⟩
      have q := x.cell y c e
      rw [bindC_get ndP hp hu (by show scope.names.lookup y ≠ _; rw [k]; decide)] at q
      exact q
  · exact e0.hok.fresh (Nat.le_of_lt (x.above y c (PySem.mem_of_lookup h)))
  · unfold start
    show _ = N.length
    rw [List.length_append, List.length_map, List.length_replicate]
    omega

/-- THE RULE: a def (or a method) of the text, by its body. The body's reading t is chosen for each entry; it is run at the parameters' values -/
theorem fn_of {CX : CXT} {P : Program} {w : World} {K : PySem.W.Frag} {mg : Str → Option Value} {base : Heap} {k : Nat} {f : Addr} {name qual : Str} {params : Arguments} {body : List Stmt} {scope : Scope} {dV kV doc pm cdv ct oc : Value} {an od : Option Addr}
    {osl : Array (Option Value)} {N ps : List Str} {sp : Sp} (lk : K.lookup f = some ⟨oc, od, .func (PySem.W.fnOf name qual params body scope dV kV doc pm an cdv ct), osl⟩) (hcd : PySem.W.codeIn K cdv qual = true) (S : FnScope N ps scope)
    (len : ∀ vs H Q E, sp vs H Q E → vs.length = ps.length)
    (hbody : ∀ (A : Around) (outer : List Env) (s : Shared) (H : Hp) (vs : List V) (Q : VK) (E : XK), Room k (A.deeper (envOfC qual scope s.heap.objs.size f cdv)) → sp vs H Q E →
      ∃ t, PSs (cxOf CX P w K mg base N qual scope f cdv A outer s H E) body t ∧ t { nx := fun _ H' => Q .non H', rt := Q } (start N vs) H) :
    FnOk P w K mg base CX (k + 1) f (PySem.W.fnOf name qual params body scope dV kV doc pm an cdv ct) ps sp := by
  refine ⟨len, fun A outer s H args us vs Q E hr e0 hb r hsp => ?_⟩
  have hl := len _ _ _ _ hsp
  have KX : K.In s.heap := e0.mod.kin.keeps fun b o e => (e0.bs b o e).1
  have lim : s.heap.NoLimit := e0.mod.nolimit.keeps fun b o e => (e0.bs b o e).1
  have hkind : ∀ y ∈ ps.zip us, scope.names.lookup y.1 = some .local ∨ (scope.names.lookup y.1 = some .cell ∧ ((cellsFrom (s.heap.objs.size + 1) scope.names []).lookup y.1).isSome = true) := fun ⟨n, v⟩ hy => by
    rcases S.par n (List.of_mem_zip hy).1 with q | q
    · exact .inl q
    · exact .inr ⟨q, PySem.W.cellsFrom_some _ _ _ (.inl q)⟩
  refine codeAny_call_function hr.depth (KX _ _ lk) rfl S.co S.gen rfl (PySem.W.codeRec_of KX hcd) (hb _ _ _ _ ?_)
  refine wpAny_newFunctionEnv_cells S.kind hkind fun env he s1 x => ?_
  subst he
  refine ⟨lim.keeps x.toInCall.keep, codeAny_func ?_⟩
  obtain ⟨t, ht, hq⟩ := hbody A outer s H vs Q E (hr.deeper _) hsp
  have I : Inv (cxOf CX P w K mg base N qual scope f cdv A outer s H E) [] (start N vs) H s1 := inv_start S hr.hd e0 hl r x
  refine wpAny_mono (ht [] s1 (start N vs) H _ I hq) (fun fl s' hs => ?_) fun e s' hs => hs
  have fin : ∀ {σ' : St} {H' : Hp} {v : V} {u : Value}, Inv (cxOf CX P w K mg base N qual scope f cdv A outer s H E) [] σ' H' s' → RelV v u → Q v H' → CE outer P w H s Q u s' :=
    fun {σ' H' v u} J rv q => ⟨v, H', J.os, J.bare, J.base, J.hok, rv, q⟩
  cases fl with
  | ret u =>
    obtain ⟨v, σ', H', J, rv, q⟩ := hs
    exact fin J rv q
  | next =>
    obtain ⟨σ', H', J, q⟩ := hs
    exact fin (v := V.non) (u := Value.none) J rfl q
  | brk =>
    obtain ⟨_, _, _, q⟩ := hs
    exact False.elim q
  | cont =>
    obtain ⟨_, _, _, q⟩ := hs
    exact False.elim q
end L2

namespace L2
open PySem PySem.Spec PyProof.Rows
section
variable {X : Cx} {x : Str} {p pos : Pos} {e : Expr} {es : List Expr} {t : TA} {id T : String} {r : List V → Hp → VK → Prop}

def tCB (r : List V → Hp → VK → Prop) (t : TA) : TE := fun σ H Q => t σ H fun vs H1 => r vs H1 Q
/-- f(e, ..), f a built-in function -/
theorem pe_callB (hc : CallR X (.builtin id) r) (hg : Gl X x) (hm : X.mg x = none) (hv : bootBuiltins x = some (.builtin id)) (ha : PA X (e :: es) t) (hn : x ≠ "__name__" := by decide) (hdb : (x == ("__debug__" : Str)) = false := by decide)
    (he : starEach (e :: es) X.env = (false, eval e X.env) :: starEach es X.env := by rfl) (hpl : (backTo pos (starEach es X.env)).any (·.1) = false := by rfl) : PE X (.Call (.Name x p) (e :: es) [] pos) (tCB r t) := by
  intro pins s σ H Q I h
  refine wpAny_Call_Name_kw (ld_blt I hg hm hv ?_ hn hdb)
  exact PyProof.Rows.callWith_builtin1 (thn (ha pos pins s σ H _ I h) fun us s1 ⟨vs, H1, I1, r1, q1⟩ => hc pins s1 σ H1 vs us Q I1 r1 q1) he hpl
end
end L2

namespace HT
open PySem PyProof.Rows

section
open PySem.SeqAt
open PySem.AutoSeq1 (wpAny_loadPart')
open PySem.MeetsSeq PySem.MeetsSeq2 PySem.MeetsSeq3

end

section
variable {prog : Program} {w : World} {A : Around} {E : Value → Shared → Prop} {s : Shared}

/-- a slice's bound as a place among n (d where it is left out) -/
def sIx (n d : Nat) : Option Int → Nat
  | none => d
  | some v => if v < 0 then (v + (n : Int)).toNat else min v.toNat n
end
end HT

namespace L2
open PySem PySem.Spec PyProof.Rows

abbrev TO := St → Hp → (Option Int → Hp → Prop) → Prop
/-- a slice's part (left out, or an int) -/
def PO (X : Cx) (e : Option Expr) (t : TO) : Prop :=
  ∀ (pins : List (Addr × Obj)) (s : Shared) (σ : St) (H : Hp) (Q : Option Int → Hp → Prop), Inv X pins σ H s → t σ H Q →
    wpAny (model X.prog X.w) X.A (evalPart e X.env) (fun u s' => ∃ o H', Inv X pins σ H' s' ∧ IsPart u o ∧ Q o H') X.xe s
section
variable {X : Cx} {e : Expr} {te : TE} {lo hi : Option Expr} {tl th : TO} {pos p2 : Pos}

/-- what a slice of a value is, by values: the slice object stands at sl -/
def SlR (X : Cx) (r : V → Option Int → Option Int → Hp → VK → Prop) : Prop :=
  ∀ (pins : List (Addr × Obj)) (s : Shared) (σ : St) (H : Hp) (x : V) (v vl vu : Value) (lo hi : Option Int) (sl : Addr) (Q : VK), Inv X pins σ H s → RelV x v → s.heap.IsSliceOf sl vl vu .none → IsPart vl lo → IsPart vu hi → r x lo hi H Q →
    ∃ T id, typeLookup (.type T) "__getitem__" = pure (some (.builtin id)) ∧ s.TypeIs v T ∧ wpAny (model X.prog X.w) X.A (getItem v (.ref sl)) (EP X pins σ Q) X.xe s
theorem SlR.or {r r' : V → Option Int → Option Int → Hp → VK → Prop} (h : SlR X r) (h' : SlR X r') : SlR X (fun x lo hi H Q => r x lo hi H Q ∨ r' x lo hi H Q) := by
  intro pins s σ H x v vl vu lo hi sl Q I rx hs pl pu q
  rcases q with q | q
  · exact h pins s σ H x v vl vu lo hi sl Q I rx hs pl pu q
  · exact h' pins s σ H x v vl vu lo hi sl Q I rx hs pl pu q
/-- the items of xs[lo:hi] -/
def cutV (xs : List V) (lo hi : Option Int) : List V := (xs.drop (HT.sIx xs.length 0 lo)).take (HT.sIx xs.length xs.length hi - HT.sIx xs.length 0 lo)
end
end L2

namespace L2
open PySem PySem.Spec PyProof.Rows

/-- the place that an index of any sign means -/
def ixN (n : Nat) (i : Int) : Option Nat := if 0 ≤ i then (if i < n then some i.toNat else none) else if -(n : Int) ≤ i then some (i + n).toNat else none
def atI {α : Type} (xs : List α) (i : Int) : Option α := (ixN xs.length i).bind fun j => xs[j]?
theorem atI_nat {α : Type} {xs : List α} {j : Nat} {v : α} (h : xs[j]? = some v) : atI xs (j : Int) = some v := by
  have hj : j < xs.length := (List.getElem?_eq_some_iff.mp h).1
  have e : ixN xs.length (j : Int) = some j := by
    unfold ixN
    rw [if_pos (by omega), if_pos (by omega)]; simp
  unfold atI; rw [e]; exact h
/-- a subscript by values -/
def IxR (X : Cx) (r : R2) : Prop :=
  ∀ (value slice : Expr) (pins : List (Addr × Obj)) (s : Shared) (σ : St) (H : Hp) (x y : V) (v u : Value) (Q : VK), Inv X pins σ H s → RelV x v → RelV y u → r x y H Q →
    subscripted slice false v u = operate [v, u] (getItem v u) → wpAny (model X.prog X.w) X.A (subscriptTail value slice v u) (EP X pins σ Q) X.xe s
/-- a call of a builtin's method by values: the receiver, the arguments -/
def MtR (X : Cx) (id : String) (r : V → List V → Hp → VK → Prop) : Prop :=
  ∀ (pins : List (Addr × Obj)) (s : Shared) (σ : St) (H : Hp) (x : V) (xs : List V) (v : Value) (us : List Value) (Q : VK), Inv X pins σ H s → RelV x v → Vals xs us → r x xs H Q →
    wpAny (model X.prog X.w) X.A (call (.builtin id) (v :: us)) (EP X pins σ Q) X.xe s
section
variable {X : Cx} {a b : Expr} {ta tb : TE} {pos : Pos}
theorem IxR.or {r r' : R2} (h : IxR X r) (h' : IxR X r') : IxR X (fun x y H Q => r x y H Q ∨ r' x y H Q) := by
  intro value slice pins s σ H x y v u Q I rx ry q hs
  rcases q with q | q
  · exact h value slice pins s σ H x y v u Q I rx ry q hs
  · exact h' value slice pins s σ H x y v u Q I rx ry q hs
theorem MtR.or {id : String} {r r' : V → List V → Hp → VK → Prop} (h : MtR X id r) (h' : MtR X id r') : MtR X id (fun x xs H Q => r x xs H Q ∨ r' x xs H Q) := by
  intro pins s σ H x xs v us Q I rx rs q
  rcases q with q | q
  · exact h pins s σ H x xs v us Q I rx rs q
  · exact h' pins s σ H x xs v us Q I rx rs q
theorem Inv.lst {pins : List (Addr × Obj)} {σ : St} {H : Hp} {s : Shared} {p : Addr} {xs : List V} (I : Inv X pins σ H s) (h : H p = some (.lst xs)) :
    ∃ (its : List Value) (n : Nat), Vals xs its ∧ s.heap.get? p = some { cls := .type "list", data := .seq its.toArray n } ∧ xs.length ≤ sizeLine := by
  obtain ⟨z, its, n, r, e⟩ := I.hok p _ h
  exact ⟨its, n, r, e, z⟩
theorem CallR.or {f : Value} {r r' : List V → Hp → VK → Prop} (h : CallR X f r) (h' : CallR X f r') : CallR X f (fun xs H Q => r xs H Q ∨ r' xs H Q) := by
  intro pins s σ H xs us Q I rs q
  rcases q with q | q
  · exact h pins s σ H xs us Q I rs q
  · exact h' pins s σ H xs us Q I rs q
variable {o e : Expr} {es : List Expr} {to : TE} {t : TA} {name : Str} {apos cpos : Pos} {T id : String} {r : V → List V → Hp → VK → Prop}
end
end L2

namespace L2
open PySem PySem.Spec PyProof.Rows

theorem Vals.one : ∀ {x : V} {us : List Value}, Vals [x] us → ∃ u, us = [u] ∧ RelV x u
  | _, _, .cons r .nil => ⟨_, rfl, r⟩
theorem Vals.two : ∀ {x y : V} {us : List Value}, Vals [x, y] us → ∃ u v, us = [u, v] ∧ RelV x u ∧ RelV y v
  | _, _, _, .cons r (.cons q .nil) => ⟨_, _, rfl, r, q⟩
theorem Vals.zero : ∀ {us : List Value}, Vals [] us → us = []
  | _, .nil => rfl
section
variable {X : Cx} {pins : List (Addr × Obj)} {σ : St} {H : Hp} {s : Shared} {l b : Addr} {xs ys zs : List V}

theorem Inv.fresh (I : Inv X pins σ H s) : H s.heap.objs.size = none := I.hok.fresh (Nat.le_refl _)
theorem notLongL {n : Nat} (h : n ≤ sizeLine) : Builtin.List.listTooLong n = false := by
  unfold Builtin.List.listTooLong
  exact decide_eq_false (by omega)
end

section
variable {X : Cx}

end

section
variable {prog : Program} {w : World} {A : Around} {E : Value → Shared → Prop} {s : Shared}
theorem bounds_run {a c n : Nat} (hac : a ≤ c) (hc : c ≤ n) : sliceBounds (some (a : Int)) (some (c : Int)) none n = ((a : Int), (c : Int), 1) := by
  simp only [sliceBounds, Option.getD_none]
  have h1 : ¬ ((a : Int) < 0) := by omega
  have h2 : ¬ ((c : Int) < 0) := by omega
  simp only [h1, h2, if_false, show (1 : Int) > 0 by decide, if_true]
  congr 1
  · omega
  · congr 1; omega
set_option maxRecDepth 100000 in
/-- list.__setitem__ with a slice of step one and another list -/
theorem setItem_slice {l b sl : Addr} {items new : Array Value} {n n2 : Nat} {vl vu : Value} {a c : Nat} {Q : Unit → Shared → Prop}
    (e : s.heap.get? l = some { cls := .type "list", data := .seq items n }) (e2 : s.heap.get? b = some { cls := .type "list", data := .seq new n2 }) (hne : l ≠ b)
    (hs : s.heap.IsSliceOf sl vl vu .none) (pl : IsPart vl (some (a : Int))) (pu : IsPart vu (some (c : Int))) (hac : a ≤ c) (hc : c ≤ items.size)
    (hsz : items.size + new.size ≤ sizeLine) (h : Q () { s with heap := s.heap.update l (Obj.mapSeq fun xs => xs.extract 0 a ++ new ++ xs.extract c xs.size) }) :
    wpAny (model prog w) A (setItem (.ref l) (.ref sl) (.ref b)) Q E s := by
  have hl : s.heap.IsList l items := PySem.IsL.isList e
  have hb : s.heap.IsList b new := PySem.IsL.isList e2
  obtain ⟨os, hos, hcs, hds⟩ := id hs
  have hTs : s.TypeIs (.ref sl) "slice" := ⟨os, hos, hcs⟩
  have hstep : ¬ ((rawPart none == rawInt 0) = true) := Bool.false_ne_true
  have hsame : Builtin.List.listSameRef (.ref l) (.ref b) = false := by
    unfold Builtin.List.listSameRef
    exact beq_eq_false_iff_ne.mpr hne
  have hmax : (max (a : Int) (c : Int)).toNat = c := by omega
  have hz' : ((fun xs : Array Value => xs.extract 0 a ++ new ++ xs.extract c xs.size) items).size ≤ sizeLine + 1 := by
    simp only [Array.size_append, Array.size_extract]
    omega
  unfold setItem
  try with_reducible refine wpAny_holding ?_
  first | refine wpAny_bind (wpAny_pure ?_) | skip
  refine wpAny_bind (wpAny_sequenceKey hl.typeIs (by decide) ?_)
  refine wpAny_bind (wpAny_callSpecial?_slot (name := Str.ofString "__setitem__") hl.typeIs slot_list_setitem
    (wpAny_call_entry slot_list_setitem hl.typeIs entry_list_setitem ?_ (args_list_setitem _ _ _)))
  show wpAny _ _ (Builtin.List.listSubscript? (.ref sl) >>= _) _ _ s
  refine wpAny_bind ?_
  unfold Builtin.List.listSubscript?
  refine wpAny_bind (wpAny_specialOf hTs slice_no_index ?_)
  simp only [Option.isNone_none, if_true]
  refine wpAny_pure ?_
  show wpAny _ _ (typeOf (.ref sl) >>= _) _ _ s
  refine wpAny_bind (wpAny_typeOf hTs ?_)
  first
    | rw [if_neg (by decide)]
    | refine PySem.W.KFB.if_not (by decide) ?_
  rw [listSliceParts_eq]
  refine wpAny_bind (wpAny_bind (wpAny_field hos hds (x := .none) rfl (wpAny_bind (wpAny_listPart .none ?_))))
  rw [if_neg hstep]
  refine wpAny_bind (wpAny_field hos hds (x := vl) rfl (wpAny_bind (wpAny_listPart pl ?_)))
  refine wpAny_bind (wpAny_field hos hds (x := vu) rfl (wpAny_bind (wpAny_listPart pu (wpAny_pure ?_))))
  first
    | simp only [hsame, Bool.false_eq_true, if_false]
    | refine PySem.W.KFB.if_not hsame ?_
    | (dsimp only
       rw [if_neg (by rw [hsame]; exact Bool.false_ne_true)])
  refine wpAny_bind (m := Builtin.List.listAllItems (.ref b) "must assign iterable to extended slice") ?_
  unfold Builtin.List.listAllItems
  refine wpAny_bind (wpAny_typeOf hb.typeIs ?_)
  first
    | refine PySem.W.KFB.if_so (by decide) ?_
    | rw [if_pos (by decide)]
    | simp only [beq_self_eq_true, Bool.true_or, if_true]
  unfold Builtin.List.listItems
  refine wpAny_bind (wpAny_seqItems e2 rfl (wpAny_pure ?_))
  refine wpAny_bind (wpAny_bind (wpAny_seqItems e rfl (wpAny_pure ?_)))
  refine wpAny_bind (wpAny_of_eq ((sliceIndices_raw (some (a : Int)) (some (c : Int)) none items.size (by simp)).trans (congrArg (pure : Int × Int × Int → Sem (Int × Int × Int)) (bounds_run hac hc))) ?_)
  show wpAny _ _ (if ((1 : Int) == 1) = true then _ else _) _ _ s
  rw [if_pos (by decide)]
  refine wpAny_bind (wpAny_rule ?_)
  first
    | simp only [notLongL hsz, Bool.false_eq_true, if_false]
    | refine PySem.W.KFB.if_not (notLongL hsz) ?_
  first | refine wpAny_bind (wpAny_pure ?_) | skip
  show wpAny _ _ (updateSeq l (fun xs => xs.extract 0 ((a : Int)).toNat ++ new ++ xs.extract (max (a : Int) (c : Int)).toNat xs.size) >>= _) _ _ s
  rw [hmax, Int.toNat_natCast]
  refine wpAny_bind (wpAny_updateSeq (hz := Nat.le_trans (Nat.le_add_right _ _) hsz) (_hz' := hz') e rfl ?_)
  refine wpAny_bind (wpAny_letGo ?_)
  first
    | exact wpAny_bind (wpAny_pure (wpAny_pure ⟨.none, rfl, wpAny_pure h⟩))
    | exact wpAny_pure ⟨.none, rfl, wpAny_pure h⟩
end

section
variable {X : Cx}
end
end L2

namespace L2
open PySem PySem.Spec PyProof.Rows

theorem Vals.ints : ∀ {ns : List Int} {us : List Value}, Vals (ns.map V.int) us → IntsAre us ns
  | [], us, h => by
    rw [List.map_nil] at h
    cases h
    exact IntsAre.nil
  | n :: ns, us, h => by
    rw [List.map_cons] at h
    cases h with
    | cons r t =>
      obtain ⟨k, rfl⟩ := r
      exact IntsAre.cons n k (Vals.ints t)
theorem Vals.strs : ∀ {xs : List Str} {us : List Value}, Vals (xs.map V.str) us → StrsAre us xs
  | [], us, h => by
    rw [List.map_nil] at h
    cases h
    exact StrsAre.nil
  | x :: xs, us, h => by
    rw [List.map_cons] at h
    cases h with
    | cons r t =>
      obtain ⟨k, rfl⟩ := r
      exact StrsAre.cons x k (Vals.strs t)
section
variable {prog : Program} {w : World} {A : Around} {E : Value → Shared → Prop} {s : Shared} {l : Addr} {its : List Value} {ns : List Int} {Q : Value → Shared → Prop}
end

section
variable {X : Cx}
end

section
variable {X : Cx}
end

section
variable {X : Cx}
end

section
variable {X : Cx}
end

mutual
inductive Dp (K : PySem.W.Frag) (H : Hp) : V → PyData → Prop
  | non : Dp K H .non .none
  | bl (b : Bool) : Dp K H (.bl b) (.bool b)
  | int (i : Int) : Dp K H (.int i) (.int i)
  | str (x : Str) : Dp K H (.str x) (.str x)
  | lst {a : Addr} {xs : List V} {ds : List PyData} : SqL K H a xs → DpAll K H xs ds → Dp K H (.ref a) (.list ds)
  | tup {a : Addr} {xs : List V} {ds : List PyData} : SqT K H a xs → DpAll K H xs ds → Dp K H (.ref a) (.tuple ds)
inductive DpAll (K : PySem.W.Frag) (H : Hp) : List V → List PyData → Prop
  | nil : DpAll K H [] []
  | cons {v : V} {vs : List V} {d : PyData} {ds : List PyData} : Dp K H v d → DpAll K H vs ds → DpAll K H (v :: vs) (d :: ds)
end
section
variable {X : Cx} {pins : List (Addr × Obj)} {σ : St} {H : Hp} {s : Shared}
end
section
variable {X : Cx}
end
end L2

namespace L2
open PySem PySem.Spec PyProof.Rows
/-- the names of a comprehension's block: its own (with their places in N), or captured -/
structure BlkOk (N : List Str) (sc scope : Scope) (own : List (Str × Nat)) : Prop where
  kind : scope.kind = .function
  uniq : ∀ y ∈ scope.names, scope.names.lookup y.1 = some y.2
  ix : ∀ p ∈ own, N[p.2]? = some p.1
  free : ∀ y ∈ scope.names, y.2 = .free → sc.names.lookup y.1 = some .cell ∨ sc.names.lookup y.1 = some .free
  own : ∀ y ∈ scope.names, y.2 = .local ∨ y.2 = .cell → y.1 ∈ own.map (·.1) ∨ y.1 ∉ N
/-- the slots of the block's own names forgotten -/
def wipe (σ : St) : List Nat → St
  | [] => σ
  | v :: vs => (wipe σ vs).set v none
section
variable {X : Cx} {pins : List (Addr × Obj)} {σ : St} {H : Hp} {s : Shared}
/-- a clause's tests -/
def PTs (X : Cx) (ifs : List Expr) (t : TT) : Prop :=
  ∀ (pins : List (Addr × Obj)) (s : Shared) (σ : St) (H : Hp) (Q : Bool → Hp → Prop), Inv X pins σ H s → t σ H Q →
    wpAny (model X.prog X.w) X.A (forIn ifs true fun c r => if r = true then do let ok ← isTrue c X.env (eval c X.env); pure (ForInStep.yield ok) else pure (ForInStep.yield r)) (TP X pins σ Q) X.xe s
end

section
variable {X : Cx}
end

end L2

namespace L2
open PySem PySem.Spec PyProof.Rows

section
variable {prog : Program} {w : World} {A : Around} {R : Result → Shared → Prop} {s : Shared} {elt t0 i0 t1 i1 : Expr} {ifs0 ifs1 : List Expr} {scope : Scope} {pos : Pos} {it acc : Value} {env : Env}
end

section
variable {X : Cx}
end
end L2

namespace L2
open PySem PySem.Spec PyProof.Rows

section
variable {κ : Type} [DecidableEq κ]
def valV (kvs : List (κ × V)) (k : κ) : Option V := (kvs.find? fun kv => decide (kv.1 = k)).map (·.2)
/-- in its place, or at the end -/
def putK (kvs : List (κ × V)) (k : κ) (v : V) : List (κ × V) :=
  if (kvs.any fun kv => decide (kv.1 = k)) = true then kvs.map (fun kv => if kv.1 = k then (kv.1, v) else kv) else kvs ++ [(k, v)]
def dropK (kvs : List (κ × V)) (k : κ) : List (κ × V) := kvs.filter fun kv => decide (kv.1 ≠ k)

theorem valV_pos {p : κ × V} {r : List (κ × V)} {k : κ} (e : p.1 = k) : valV (p :: r) k = some p.2 := by simp [valV, List.find?_cons, e]
theorem valV_neg {p : κ × V} {r : List (κ × V)} {k : κ} (e : ¬ p.1 = k) : valV (p :: r) k = valV r k := by simp [valV, List.find?_cons, e]
theorem RelO.getD {o : Option V} {u : Option Value} {d : V} {d' : Value} (r : RelO o u) (rd : RelV d d') : RelV (o.getD d) (u.getD d') := by
  cases o with
  | none => cases u with
    | none => exact rd
    | some _ => exact (show False from r).elim
  | some _ => cases u with
    | none => exact (show False from r).elim
    | some _ => exact r

/-- raw tables of the same keys -/
theorem KV.val {kvs : List (κ × V)} {vs : List (κ × Value)} (r : KV kvs vs) (k : κ) : RelO (valV kvs k) (valueAt vs k) := by
  unfold KV at r
  induction r with
  | nil => exact True.intro
  | @cons p q ps qs h t ih =>
    obtain ⟨h1, h2⟩ := h
    by_cases e : p.1 = k
    · have e' : q.1 = k := h1.symm.trans e
      have b : valueAt (q :: qs) k = some q.2 := by simp [valueAt, List.find?_cons, e']
      rw [valV_pos e, b]; exact h2
    · have e' : ¬ q.1 = k := fun z => e (h1.trans z)
      have b : valueAt (q :: qs) k = valueAt qs k := by simp [valueAt, List.find?_cons, e']
      rw [valV_neg e, b]; exact ih
theorem KV.any {kvs : List (κ × V)} {vs : List (κ × Value)} (r : KV kvs vs) (k : κ) : (kvs.any fun kv => decide (kv.1 = k)) = vs.any fun kv => decide (kv.1 = k) := by
  unfold KV at r
  induction r with
  | nil => rfl
  | cons h t ih => rw [List.any_cons, List.any_cons, ih, h.1]
theorem KV.drop {kvs : List (κ × V)} {vs : List (κ × Value)} (r : KV kvs vs) (k : κ) : KV (dropK kvs k) (without vs k) := by
  unfold KV at r ⊢
  unfold dropK without
  induction r with
  | nil => exact .nil
  | @cons p q ps qs h t ih =>
    obtain ⟨h1, h2⟩ := h
    rw [List.filter_cons, List.filter_cons]
    by_cases e : p.1 = k
    · have a : ¬ decide (p.1 ≠ k) = true := by simp [e]
      have b : ¬ decide (q.1 ≠ k) = true := by simp [h1.symm.trans e]
      rw [if_neg a, if_neg b]; exact ih
    · have e' : ¬ q.1 = k := fun z => e (h1.trans z)
      have a : decide (p.1 ≠ k) = true := by simp [e]
      have b : decide (q.1 ≠ k) = true := by simp [e']
      rw [if_pos a, if_pos b]; exact .cons ⟨h1, h2⟩ ih
theorem KV.keys {kvs : List (κ × V)} {vs : List (κ × Value)} (r : KV kvs vs) : kvs.map (·.1) = vs.map (·.1) := by
  unfold KV at r
  induction r with
  | nil => rfl
  | cons h t ih => rw [List.map_cons, List.map_cons, ih, h.1]
theorem KV.length {kvs : List (κ × V)} {vs : List (κ × Value)} (r : KV kvs vs) : kvs.length = vs.length := Paired.length r
end


theorem kV_is {P : Program} {w : World} {k : Key} {u : Value} (r : RelV (kV k) u) : (mixKind P w).is k u = true := by
  cases k with
  | inl i => obtain ⟨t, e⟩ := (show ∃ t, u = Value.int i t from r); subst e; exact mixKind_int P w i t
  | inr x => obtain ⟨t, e⟩ := (show ∃ t, u = Value.str x t from r); subst e; exact mixKind_str P w x t
/-- raw entries of a dict with tuple keys -/
abbrev KT (H : Hp) : List (List Key × V) → List (List Key × Addr × Value) → Prop := Paired fun p q => p.1 = q.1 ∧ H q.2.1 = some (.tup (p.1.map kV)) ∧ RelV p.2 q.2.2
theorem KT.val {H : Hp} {kvs : List (List Key × V)} {xs : List (List Key × Addr × Value)} (r : KT H kvs xs) (k : List Key) : RelO (valV kvs k) ((atKey xs k).map (·.2)) := by
  induction r with
  | nil => exact True.intro
  | @cons p q ps qs h t ih =>
    obtain ⟨h1, _, h2⟩ := h
    by_cases e : p.1 = k
    · have e' : q.1 = k := h1.symm.trans e
      have b : atKey (q :: qs) k = some q.2 := by simp [atKey, List.find?_cons, e']
      rw [valV_pos e, b]; exact h2
    · have e' : ¬ q.1 = k := fun z => e (h1.trans z)
      have b : atKey (q :: qs) k = atKey qs k := by simp [atKey, List.find?_cons, e']
      rw [valV_neg e, b]; exact ih
theorem KT.keeps {H H' : Hp} {kvs : List (List Key × V)} {xs : List (List Key × Addr × Value)} (r : KT H kvs xs) (ht : ∀ b ys, H b = some (.tup ys) → H' b = some (.tup ys)) : KT H' kvs xs :=
  Paired.mapP r fun _ _ z => ⟨z.1, ht _ _ z.2.1, z.2.2⟩

section
variable {P : Program} {w : World} {H : Hp} {h : Heap} {a : Addr}
end

/-- what the dict at a holds at the key y -/
def DGet (H : Hp) (a : Addr) (y : V) (r : Option V) : Prop :=
  (∃ kvs k, Rd H a (.dK kvs) ∧ y = kV k ∧ r = valV kvs k) ∨ ∃ kvs k b, Rd H a (.dT kvs) ∧ y = .ref b ∧ H b = some (.tup (k.map kV)) ∧ r = valV kvs k
/-- the heap behind a[y] = v -/
def DPut (H : Hp) (a : Addr) (y v : V) (H' : Hp) : Prop :=
  (∃ kvs k, H a = some (.dK kvs) ∧ y = kV k ∧ kvs.length < sizeLine ∧ H' = upd H a (.dK (putK kvs k v))) ∨
  ∃ kvs k b, H a = some (.dT kvs) ∧ y = .ref b ∧ H b = some (.tup (k.map kV)) ∧ kvs.length < sizeLine ∧ H' = upd H a (.dT (putK kvs k v))
theorem DGet.k {H : Hp} {a : Addr} {kvs : List (Key × V)} {k : Key} (e : H a = some (.dK kvs)) : DGet H a (kV k) (valV kvs k) := .inl ⟨kvs, k, .inl e, rfl, rfl⟩
theorem DGet.t {H : Hp} {a b : Addr} {kvs : List (List Key × V)} {k : List Key} (e : H a = some (.dT kvs)) (eb : H b = some (.tup (k.map kV))) : DGet H a (.ref b) (valV kvs k) := .inr ⟨kvs, k, b, .inl e, rfl, eb, rfl⟩
theorem DPut.k {H : Hp} {a : Addr} {kvs : List (Key × V)} {k : Key} {v : V} (e : H a = some (.dK kvs)) (hl : kvs.length < sizeLine) : DPut H a (kV k) v (upd H a (.dK (putK kvs k v))) := .inl ⟨kvs, k, e, rfl, hl, rfl⟩
theorem DPut.t {H : Hp} {a b : Addr} {kvs : List (List Key × V)} {k : List Key} {v : V} (e : H a = some (.dT kvs)) (eb : H b = some (.tup (k.map kV))) (hl : kvs.length < sizeLine) :
    DPut H a (.ref b) v (upd H a (.dT (putK kvs k v))) := .inr ⟨kvs, k, b, e, rfl, eb, hl, rfl⟩


section
variable {X : Cx} {pins : List (Addr × Obj)} {σ : St} {H : Hp} {s : Shared} {a : Addr} {y v : V} {u r : Value} {o : Option V} {A : Around} {E : Value → Shared → Prop}

end

section
variable {X : Cx} {pins : List (Addr × Obj)} {σ : St} {H : Hp} {s : Shared} {a : Addr} {kvs : List (Key × V)} {k : Key} {u : Value} {A : Around} {E : Value → Shared → Prop}
end


section
variable {X : Cx} {o i e value : Expr} {pos pos' tpos : Pos} {td ty tv : TE}
end


section
variable {X : Cx} {pos : Pos}
end

/-- the pairs of a display, from the left -/
def tPairs : List (TE × TE) → St → Hp → (List (V × V) → Hp → Prop) → Prop
  | [], _, H, Q => Q [] H
  | (tk, tv) :: r, σ, H, Q => tk σ H fun x H1 => tv σ H1 fun y H2 => tPairs r σ H2 fun ps H3 => Q ((x, y) :: ps) H3
abbrev VV : List (V × V) → List (Value × Value) → Prop := Paired fun p q => RelV p.1 q.1 ∧ RelV p.2 q.2
def PPs (X : Cx) (pos : Pos) (keys : List (Option Expr)) (values : List Expr) (trs : List (TE × TE)) : Prop :=
  ∀ (pins : List (Addr × Obj)) (s : Shared) (σ : St) (H : Hp) (Q : List (V × V) → Hp → Prop), Inv X pins σ H s → tPairs trs σ H Q →
    wpAny (model X.prog X.w) X.A (evalPairs (pairTrees keys values X.env pos)) (fun vs s' => ∃ ps H', Inv X pins σ H' s' ∧ VV ps vs ∧ Q ps H') X.xe s
/-- a method call o.m(e) of a built-in, with one argument: what must be seen of the text -/
structure M1 (X : Cx) (o : Expr) (m : Str) (apos : Pos) (e : Expr) (cpos : Pos) : Prop where
  base : attributeBase o m X.env (eval o X.env) = eval o X.env
  few : ((backTo cpos (starEach [e] X.env)).all (fun x => !x.1) && (backToKw cpos (keywordEach [] X.env)).all (fun x => x.1.isSome)
    && decide (([e] : List Expr).length + ([] : List Keyword).length + (if ([] : List Keyword).isEmpty then 0 else 1) < 30)) = true
  line : (apos.endLine == cpos.line) = true
  trees : backTo cpos (starEach [e] X.env) = [(false, eval e X.env)]
structure M2 (X : Cx) (o : Expr) (m : Str) (apos : Pos) (e f : Expr) (cpos : Pos) : Prop where
  base : attributeBase o m X.env (eval o X.env) = eval o X.env
  few : ((backTo cpos (starEach [e, f] X.env)).all (fun x => !x.1) && (backToKw cpos (keywordEach [] X.env)).all (fun x => x.1.isSome)
    && decide (([e, f] : List Expr).length + ([] : List Keyword).length + (if ([] : List Keyword).isEmpty then 0 else 1) < 30)) = true
  line : (apos.endLine == cpos.line) = true
  trees : backTo cpos (starEach [e, f] X.env) = [(false, eval e X.env), (false, eval f X.env)]

section
variable {X : Cx} {pins : List (Addr × Obj)} {σ : St} {H : Hp} {s : Shared} {a : Addr} {y d : V} {u r : Value} {o : Option V} {A : Around} {E : Value → Shared → Prop}
end

section
variable {X : Cx} {o e f : Expr} {apos cpos : Pos} {td ty tx : TE}
end

section
variable {X : Cx} {pins : List (Addr × Obj)} {σ : St} {H : Hp} {s : Shared} {a : Addr} {kvs : List (Key × V)} {A : Around} {E : Value → Shared → Prop}
end


section
variable {X : Cx} {pins : List (Addr × Obj)} {σ : St} {H : Hp} {s : Shared} {a : Addr} {y : V} {u : Value} {A : Around} {E : Value → Shared → Prop}
end
end L2

namespace L2
open PySem PySem.Spec PyProof.Rows

section
variable {prog : Program} {w : World} {A : Around} {E : Value → Shared → Prop}
end

section
variable {X : Cx}
theorem pairs_of {pins : List (Addr × Obj)} {σ : St} {H : Hp} {s : Shared} (I : Inv X pins σ H s) : ∀ {ps : List Addr} {kvs : List (Key × V)}, Paired (fun p kv => SqT X.K H p [kV kv.1, kv.2]) ps kvs →
    ∃ prs : List (Key × Value), KV kvs prs ∧ prs.length = ps.length ∧ ∀ (j : Nat) (q : Key × Value), prs[j]? = some q → ∃ (b : Addr) (u : Value), ps[j]? = some b ∧ IsTup s.heap b #[u, q.2] ∧ keyIs q.1 u = true
  | _, _, .nil => ⟨[], .nil, rfl, fun j q e => by simp at e⟩
  | _, _, .cons (a := p) (b := kv) h t => by
    obtain ⟨prs, r, hl, hp⟩ := pairs_of I t
    obtain ⟨its, rv, ht, _⟩ := I.tuple h
    obtain ⟨u, y, ei, ru, ry⟩ := vals2 rv
    subst ei
    refine ⟨(kv.1, y) :: prs, .cons ⟨rfl, ry⟩ r, by rw [List.length_cons, List.length_cons, hl], fun j q e => ?_⟩
    cases j with
    | zero =>
      have e' : (kv.1, y) = q := Option.some.inj e
      subst e'
      exact ⟨p, u, rfl, ht, kV_is (P := X.prog) (w := X.w) ru⟩
    | succ j =>
      obtain ⟨b, u', e1, e2, e3⟩ := hp j q (by simpa using e)
      exact ⟨b, u', by simpa using e1, e2, e3⟩
end
end L2

namespace L2
open PySem PySem.Spec PyProof.Rows

section
variable {X : Cx} {pins : List (Addr × Obj)} {σ : St} {H : Hp} {s : Shared} {h' : Heap}
end
section
variable {X : Cx}
end

/-- range(i, j, c): small bounds, n items -/
def RgC (i j c : Int) (n : Nat) : Prop := c ≠ 0 ∧ c.natAbs < 1073741824 ∧ Builtin.Range.small i j c = true ∧ Builtin.Range.rangeSize i j c = n
theorem RgC.neg {i j : Int} (ha : -(2 ^ 62) ≤ i) (ha' : i < 2 ^ 62) (hb : -(2 ^ 62) ≤ j) (hb' : j < 2 ^ 62) : RgC i j (-1) (i - j).toNat :=
  ⟨by decide, by decide, PySem.W.small_down ha ha' hb hb', PySem.W.rangeSize_downNat i j⟩
section
variable {X : Cx} {tg : Expr}
end
section
variable {X : Cx} {tg : Expr}
end

section
variable {prog : Program} {w : World} {A : Around} {E : Value → Shared → Prop} {s : Shared}
end

section
variable {X : Cx} {pins : List (Addr × Obj)} {σ : St} {H : Hp} {s : Shared} {d : Addr} {o : Obj}
end

section
variable {P : Program} {w : World} {K : PySem.W.Frag} {tg : Expr} {d : Addr} {o : Obj} {es : Array DictEntry} {ep : Nat}
end

section
variable {X : Cx} {tg e : Expr} {td : TE} {apos cpos : Pos}
end

end L2

section 
namespace Bits
open PySem PyProof.Rows

end Bits
end 

section 
namespace TL
open PySem PySem.Builtin PySem.Builtin.Str PySem.StrLaws

abbrev tl (x : Str) : List Nat := x.cps.toList
/-- S stands at the head of l -/
def pre (S l : List Nat) : Bool := l.take S.length == S
/-- l cut at each S from the left; k signs are still to be passed over -/
def spl (S : List Nat) : Nat → List Nat → List Nat → List (List Nat)
  | _, acc, [] => [acc]
  | 0, acc, c :: r => if pre S (c :: r) = true then acc :: spl S (S.length - 1) [] r else spl S 0 (acc ++ [c]) r
  | k + 1, acc, _ :: r => spl S k acc r
/-- what stands before the first S, and behind it -/
def par (S : List Nat) : List Nat → List Nat → Option (List Nat × List Nat)
  | _, [] => none
  | acc, c :: r => if pre S (c :: r) = true then some (acc, (c :: r).drop S.length) else par S (acc ++ [c]) r

end TL
end 

namespace L2
open PySem PySem.Spec PyProof.Rows

section
variable {X : Cx} {pins : List (Addr × Obj)} {σ : St} {H : Hp} {s : Shared} {Q : VK}
end

section
variable {X : Cx}

end

section
variable {X : Cx} {o e : Expr} {to te : TE}
end
end L2

namespace L2
open PySem PySem.Spec PyProof.Rows

section
variable {X : Cx}
end

theorem IsPart.raw {v : Value} {o : Option Int} (p : IsPart v o) : ∃ l : Option (Int × Tok), v = partValue l ∧ l.map (·.1) = o := by
  cases p with
  | none => exact ⟨none, rfl, rfl⟩
  | int i t => exact ⟨some (i, t), rfl, rfl⟩

/-- z[lo:hi] -/
def cutS (z : Str) (lo hi : Option Int) : Str :=
  ⟨((z.cps.toList.drop (HT.sIx z.length 0 lo)).take (HT.sIx z.length z.length hi - HT.sIx z.length 0 lo)).toArray⟩
end L2

namespace Att
open PySem PySem.W PySem.Calls PyProof.Rows

theorem ints_of_wellAll {P : Params} {h : Heap} : ∀ (ns : List Int) (vs : List Value), WellAll P h vs (ns.map WData.int) → IntsAre vs ns := by
  intro ns
  induction ns with
  | nil =>
    intro vs w
    rw [List.map_nil] at w
    cases w
    exact .nil
  | cons n ns ih =>
    intro vs w
    rw [List.map_cons] at w
    cases w with
    | cons a b =>
      cases a
      exact .cons _ _ (ih _ b)

theorem script_of {l : OpenLaw} {n : Nat} (hn : l.most = some n) {P : Params} {h : Heap} {args : List WData} {vals : List Value}
    (hpre : l.row.toRowW.claim.pre args = true) (hwl : WellAll P h vals args) :
    ∃ a vs ns, vals = [Value.ref a] ∧ args = [WData.list (ns.map WData.int)] ∧ h.get? a = some { cls := .type "list", data := .seq vs.toArray } ∧ IntsAre vs ns ∧ ns.length ≤ n := by
  have hsh : WShape.hasAll [] args [.list .int] = true := (pre_splitW hpre).1
  have hc : l.pre.holds [] { args := args } = true := (pre_splitW hpre).2
  obtain ⟨d, r, rfl, h1, h2⟩ := hasAllW_cons hsh
  obtain rfl := hasAllW_nil h2
  obtain ⟨xs, rfl, h3⟩ := hasW_list h1
  obtain ⟨ns, rfl⟩ := items_int h3
  have hlen : ns.length ≤ n := by
    unfold OpenLaw.pre at hc
    have h4 : (WTm.not (.lt (.lit (.int (n : Int))) (.len (.arg 0)))).holds [] { args := [.list (ns.map .int)] } = true := by
      have h4 := (holds_andW hc).1
      rw [hn] at h4
      exact h4
    have h5 := condW_of h4 (w_not (w_lt w_lit (w_len_list (w_arg rfl))))
    rw [List.length_map] at h5
    refine Nat.le_of_not_lt fun q => ?_
    have q' : (n : Int) < ((ns.length : Nat) : Int) := by omega
    first
      | (rw [decide_eq_true q'] at h5; exact absurd h5 (by decide))
      | (simp at h5; omega)
  cases hwl with
  | cons w1 w2 =>
    cases w2
    cases w1 with
    | list ho hall => exact ⟨_, _, ns, rfl, rfl, ho, ints_of_wellAll ns _ hall, hlen⟩

theorem post_true (l : OpenLaw) (args : List WData) : l.row.toRowW.claim.post args (.bool true) args = true :=
  postW_of (r := l.row.toRowW) (X := (true == true))
    (show WShape.has [] (.bool true) .bool = true by first | rfl | decide | simp [WShape.has, WShape.arms, WShape.armsAll])
    (show (WTm.eq .res (.lit (.bool true))).value [] { args := args, res := some (.bool true), after := args } = some (.bool (true == true)) from w_eq_bool (w_res rfl) w_lit) rfl

/-- the same from a codeAny of the CALL (for a layer whose function contracts speak of calls) -/
theorem attach_call {l : OpenLaw} {n : Nat} {q : Program} {loose : List Str} {XP : (Str → Option Value) → Heap → Prop} {YP : World → Heap → Prop} {d : DefRec}
    (hn : l.most = some n) (hdf : d.params.defaults = [])
    (call : ∀ (w : World) (s₀ s₁ : Shared) (mg mb : Str → Option Value) (fa : Addr) (o : Obj) (pm cd doc : Value) (a : Addr) (vs : List Value) (ns : List Int),
      Ground q loose [] XP w s₀ mg mb s₁.heap → YP w s₁.heap →
      s₁.heap.get? fa = some o → o.data = .func (docDef d.name d.params d.body d.scope pm cd doc) → s₁.heap.CodeRec cd d.name → mg d.name = some (.ref fa) →
      s₁.heap.get? a = some { cls := .type "list", data := .seq vs.toArray } → IntsAre vs ns → ns.length ≤ n → s₁.gens = #[] →
      codeAny (model l.prog w) callerA (.call (.ref fa) ⟨[.ref a], []⟩) (fun r s' => r = .ok (.ret (.bool true)) ∧ OldK s₁.heap s'.heap ∧ s'.os = s₁.os ∧ AllBare s'.gens) s₁) :
    WalkO q loose XP YP l.row.toRowW d [] (fun f vs => PySem.call f vs) := by
  intro w s₀ s₁ mg mb G Y fa o pm cd doc dV kV ho hd hcd hD hmg hg args vals as hpre hlay hrd hwl hlo
  obtain rfl : dV = .none := Dflts.none hD hdf
  obtain rfl : kV = .none := Dflts.noKw hD
  obtain ⟨a, vs, ns, rfl, rfl, hobj, hints, hlen⟩ := script_of hn hpre hwl
  refine enter_call (codeAny_mono (call w s₀ s₁ mg mb fa o pm cd doc a vs ns G Y ho (fd_plain hd) hcd hmg hobj hints hlen hg) fun r s' hq => ?_)
  obtain ⟨rfl, h2, h3, h4⟩ := hq
  exact ⟨.inl ⟨.bool true, .bool true, [], rfl, fun _ => rfl, .bool true, post_true l _, fun _ => ⟨List.Pairwise.nil, fun _ hm => (nomatch hm)⟩⟩, h2, h3, h4⟩

section
variable {prog : Program} {w : World} {A : Around} {E : Value → Shared → Prop} {s : Shared} {K : Frag}

/-- C(..): dict at size, instance at size + 1, then __init__ -/
theorem make_obj {R : Result → Shared → Prop} {C fI : Addr} {rest : List Value} {kw : List (Str × Value)}
    (X : K.In s.heap) (hm : makesIn K C = true) (hi : findIn K (.ref C) "__init__" = some (some (.ref fI))) (hf : isFn K (.ref fI) = true)
    (h : codeAny (model prog w) (A.under (.builtin "type.__call__" ⟨.ref C :: rest, kw⟩)) (.call (.ref fI) ⟨.ref (s.heap.objs.size + 1) :: rest, kw⟩) (InitBack (s.heap.objs.size + 1) R)
      { s with heap := (s.heap.push emptyDict).push (instObj C s.heap.objs.size) }) : codeAny (model prog w) A (.call (.ref C) ⟨rest, kw⟩) R s := by
  obtain ⟨hh, g, d, t, os⟩ := s
  exact make_core (makes_of X hm) (looks_findIn X hi) (fun self => bind_fn X self (beq_iff_eq.mp hf)) (.inl rfl) h

/-- x.name where the instance's dict holds the name and the class does not -/
theorem get_field {x C : Addr} {ox : Obj} {es : List DictEntry} {n : Nat} {name : Str} {expr : Bool} {v : Value} {Q : Value → Shared → Prop}
    (X : K.In s.heap) (I : PySem.W.InstAt s.heap x ox C (some (dictOf es n))) (hg : plainGet K C name = true) (hh : hasDictIn K C = true) (ha : findIn K (.ref C) name = some none)
    (hl : getL name es = some (some v)) (hv : handedIn v = true) (h : Q v { s with toks := s.toks + 1 }) : wpAny (model prog w) A (getAttr (.ref x) name expr) Q E s :=
  get_value X I (plainGet_of hg).1 (findObj_own hh ha rfl hl) hv h

def ledger (h : Heap) (L d : Addr) : List (Addr × Obj) := (List.range h.objs.size).filterMap fun a => if a = L ∨ a = d then none else (h.get? a).map fun o => (a, o)
end
end Att

namespace L2
open PySem PySem.Spec PyProof.Rows

theorem vals_ints : ∀ {vs : List Value} {ns : List Int}, IntsAre vs ns → Vals (ns.map V.int) vs
  | _, _, .nil => .nil
  | _, _, .cons n t h => .cons ⟨t, rfl⟩ (vals_ints h)

/-- nothing is tracked but the script, known to the object (or it is an object of the module) -/
def Only (H : Hp) : Prop := ∀ b, H b = none ∨ ∃ o xs, H b = some (.frz o (.lst xs))

/-- THE HEAD: the law's promise, at the heap behind the top. F, the promise of the law's def, may use that base is part of the heap (so K.In base, base.Ns mainGlobals mg stand in Mod) -/
theorem law_call {P : Program} {w : World} {K : PySem.W.Frag} {mg mb : Str → Option Value} {CX : CXT} {k : Nat} {fa a : Addr} {fd : FuncData} {x : Str} {sp : Sp} {s₁ : Shared} {vs : List Value} {ns : List Int}
    (KX : K.In s₁.heap) (hns : s₁.heap.Ns mainGlobals mg) (hb : s₁.heap.Ns builtinsNs mb) (hbb : ∀ x : Str, x ≠ "__name__" → mb x = bootBuiltins x) (hlim : s₁.heap.NoLimit) (hg : s₁.gens = #[])
    (ha : s₁.heap.get? a = some { cls := .type "list", data := .seq vs.toArray }) (hi : IntsAre vs ns) (hl : ns.length ≤ sizeLine) (hr : Room k callerA)
    (F : ∀ base : Heap, K.In base → base.Ns mainGlobals mg → FnOk P w K mg base CX k fa fd [x] sp) (hbind : ∀ (s : Shared) (u : Value), BindsTo s fd ⟨[u], []⟩ [(x, u)])
    (hsp : ∀ H : Hp, Only H → SqL K H a (ns.map V.int) → sp [.ref a] H (fun v _ => v = .bl true) fun _ _ _ => False)
    (hCX : ∀ H e s', CX [] H s₁ (fun _ _ _ => False) e s' → False) :
    codeAny (model P w) callerA (.call (.ref fa) ⟨[.ref a], []⟩) (fun r s' => r = .ok (.ret (.bool true)) ∧ OldK s₁.heap s'.heap ∧ s'.os = s₁.os ∧ AllBare s'.gens) s₁ := by
  have rv := vals_ints hi
  have lenV := hi.length
  -- from an abstract heap in which nothing but the script may be tracked
  have core : ∀ H : Hp, Only H → SqL K H a (ns.map V.int) → HOk P w H s₁.heap → (∀ b, H b ≠ none → b = a) → (H a ≠ none → K.lookup a = none) →
      codeAny (model P w) callerA (.call (.ref fa) ⟨[.ref a], []⟩) (fun r s' => r = .ok (.ret (.bool true)) ∧ OldK s₁.heap s'.heap ∧ s'.os = s₁.os ∧ AllBare s'.gens) s₁ := by
    intro H hO hS hok hA hK
    have base_of : ∀ {b : Addr} {o : Obj}, s₁.heap.get? b = some o → H b = none → (hidT s₁.heap H).get? b = some o := fun e n => hidT_get e n
    have noA : ∀ {b : Addr} {o : Obj} {es : Array DictEntry} {ep : Nat}, s₁.heap.get? b = some o → o.data = .dict es ep → H b = none := fun {b o es ep} e d => by
      cases q : H b with
      | none => rfl
      | some u =>
        have e' : b = a := hA b (by rw [q]; simp)
        subst e'
        rw [ha] at e; cases e
        have d' : Data.seq vs.toArray _ = Data.dict es ep := d
        cases d'
    have nsK : ∀ {b : Addr} {m : Str → Option Value}, s₁.heap.Ns b m → (hidT s₁.heap H).Ns b m := fun {b m} ⟨o, es, ep, e, d, r⟩ => ⟨o, es, ep, base_of e (noA e d), d, r⟩
    have hKb : K.In (hidT s₁.heap H) := fun b o e => base_of (KX b o e) (by
      cases q : H b with
      | none => rfl
      | some u =>
        have e' : b = a := hA b (by rw [q]; simp)
        subst e'
        rw [hK (by rw [q]; simp)] at e; cases e)
    have hM : Mod K mg (hidT s₁.heap H) := ⟨hKb, nsK hns, ⟨mb, nsK hb, hbb⟩, let ⟨mc, h1, h2⟩ := hlim; ⟨mc, nsK h1, h2⟩⟩
    have e0 : Env0 P w K mg (hidT s₁.heap H) callerA [] s₁ H := ⟨rfl, hM, fun b o e => of_hidT e, Nat.le_of_eq (hidT_size _ _), trivial, fun b hb => absurd (show b ∈ ([] : List Addr) from hb) (by simp), hok, .of_eq hg⟩
    refine codeAny_mono ((F _ hKb (nsK hns)).run callerA [] s₁ H ⟨[.ref a], []⟩ [.ref a] [.ref a] _ _ hr e0 (hbind s₁ (.ref a)) (.cons rfl .nil) (hsp H hO hS)) fun r s' h => ?_
    cases r with
    | error e => exact (hCX H e s' h).elim
    | ok fl =>
      cases fl with
      | next => exact False.elim h
      | brk => exact False.elim h
      | cont => exact False.elim h
      | ret u =>
        obtain ⟨v, H', os, bare, un, hok', r', q⟩ := h
        have q' : v = .bl true := q
        subst q'
        obtain rfl : u = Value.bool true := r'
        refine ⟨rfl, OldK.of_keep fun b o e => ?_, os, bare⟩
        cases q : H b with
        | none => exact un.keep b o e q (by intro z; exact absurd (show b ∈ ([] : List Addr) from z) (by simp)) (by simp)
        | some u =>
          rcases hO b with z | ⟨ob, xs, z⟩
          · rw [q] at z; cases z
          · have z2 := un.frzs b ob _ z
            obtain ⟨e1, _⟩ := hok b _ z
            obtain ⟨e2, _⟩ := hok' b _ z2
            rw [e] at e1; cases e1
            exact e2
  cases hk : K.lookup a with
  | some o =>
    -- the script is one of the module's own objects
    have e := KX a o hk
    rw [ha] at e
    cases e
    refine core (fun _ => none) (fun _ => .inl rfl) (.inr ⟨_, vs.toArray, _, hk, rfl, rfl, rfl, by rw [List.size_toArray, lenV]; exact hl, by simpa using rv⟩) (fun b u z => by have z' : (none : Option HO) = some u := z; cases z') (fun b z => absurd rfl z) fun z => absurd rfl z
  | none =>
    refine core (fun b => if b = a then some (.frz { cls := .type "list", data := .seq vs.toArray } (.lst (ns.map V.int))) else none) (fun b => ?_) (.inl (.inr ⟨{ cls := .type "list", data := .seq vs.toArray }, if_pos rfl⟩)) (fun b u z => ?_) (fun b z => ?_) fun _ => hk
    · by_cases hb : b = a
      · exact .inr ⟨_, _, if_pos hb⟩
      · exact .inl (if_neg hb)
    · by_cases hb : b = a
      · have z' := (if_pos hb).symm.trans z
        cases z'
        subst hb
        exact ⟨ha, by rw [List.length_map]; exact hl, vs, _, rv, ha⟩
      · have z' := (if_neg hb).symm.trans z
        cases z'
    · by_cases hb : b = a
      · exact hb
      · exact absurd (if_neg hb) z
end L2

namespace L2
open PySem PySem.Spec PyProof.Rows

abbrev KOf {K : PySem.W.Frag} {h : Heap} (_ : K.In h) : PySem.W.Frag := K

/-- the goal that k_head leaves (case hc), from the law's promise. F gives the function object fd (K's own) once, then the promise over every base -/
theorem walk_of {l : PySem.W.OpenLaw} {n k : Nat} {q : Program} {loose : List Str} {XP : (Str → Option Value) → Heap → Prop} {YP : World → Heap → Prop} {d : DefRec} {K : Params → PySem.W.Frag} {CX : World → CXT} {sp : World → Sp} {x : Str}
    (hn : l.most = some n) (hn2 : n ≤ sizeLine) (hdf : d.params.defaults = []) (hr : Room k callerA)
    (hY : ∀ (w : World) (h : Heap), YP w h → (K w.params).In h)
    (F : ∀ (w : World) (mg : Str → Option Value) (fa : Addr) (h : Heap), (K w.params).In h → h.Ns mainGlobals mg → mg d.name = some (.ref fa) →
      ∃ fd : FuncData, (∀ (s : Shared) (u : Value), BindsTo s fd ⟨[u], []⟩ [(x, u)]) ∧
        ∀ base : Heap, (K w.params).In base → base.Ns mainGlobals mg → FnOk l.prog w (K w.params) mg base (CX w) k fa fd [x] (sp w))
    (hsp : ∀ (w : World) (H : Hp) (a : Addr) (ns : List Int), ns.length ≤ n → Only H → SqL (K w.params) H a (ns.map V.int) → sp w [.ref a] H (fun v _ => v = .bl true) fun _ _ _ => False)
    (hCX : ∀ (w : World) (H : Hp) (s : Shared) (e : Value) (s' : Shared), CX w [] H s (fun _ _ _ => False) e s' → False) :
    PySem.W.WalkO q loose XP YP l.row.toRowW d [] (fun f vs => PySem.call f vs) := by
  refine Att.attach_call hn hdf fun w s₀ s₁ mg mb fa o pm cd doc a vs ns G Y ho hd hcd hmg hobj hints hlen hg => ?_
  have KX := hY w _ Y
  obtain ⟨fd, hb, hF⟩ := F w mg fa _ KX G.T.g hmg
  exact law_call KX G.T.g G.T.b G.T.builtins G.T.nolimit hg hobj hints (Nat.le_trans hlen hn2) hr hF hb (fun H hO hS => hsp w H a ns hlen hO hS) fun H e s' => hCX w H s₁ e s'
end L2

namespace L2
open PySem PySem.Spec PyProof.Rows

def defArgs (s : Stmt) : Arguments := match s with
  | .FunctionDef _ a _ _ _ _ _ _ _ _ => a
  | _ => { posonlyargs := [], args := [], vararg := none, kwonlyargs := [], kw_defaults := [], kwarg := none, defaults := [] }
def defBody (s : Stmt) : List Stmt := match s with
  | .FunctionDef _ _ b _ _ _ _ _ _ _ => b
  | _ => []
def defScope (s : Stmt) : Scope := match s with
  | .FunctionDef _ _ _ _ _ _ sc _ _ _ => sc
  | _ => { kind := .function, names := [], isGenerator := false, isCoroutine := false }

abbrev CX0 : CXT := fun _ _ _ _ _ _ => False
structure Fun (K : PySem.W.Frag) (x qual : Str) (st : Stmt) (f : Addr) (fd : FuncData) : Prop where
  ex : ∃ (oc : Value) (od : Option Addr) (kV doc pm : Value) (an : Option Addr) (cdv ct : Value) (osl : Array (Option Value)),
    fd = PySem.W.fnOf x qual (defArgs st) (defBody st) (defScope st) .none kV doc pm an cdv ct ∧ K.lookup f = some ⟨oc, od, .func fd, osl⟩ ∧ PySem.W.codeIn K cdv qual = true
  kp : PySem.W.keepIn K (.ref f) = true
section
variable {P : Program} {w : World} {K : PySem.W.Frag} {mg : Str → Option Value} {base : Heap}
/-- THE RULE for a def: its body as a term of rules, and the reading of that term -/
theorem Fun.ok {x qual : Str} {st : Stmt} {f : Addr} {fd : FuncData} {N ps : List Str} {k : Nat} {sp : Sp} (F : Fun K x qual st f fd) (S : FnScope N ps (defScope st)) (len : ∀ vs H Q E, sp vs H Q E → vs.length = ps.length)
    (hbody : ∀ (cdv : Value) (A : Around) (outer : List Env) (s : Shared) (H : Hp) (vs : List V) (Q : VK) (E : XK), Room k (A.deeper (envOfC qual (defScope st) s.heap.objs.size f cdv)) → sp vs H Q E →
      ∃ t, PSs (cxOf CX0 P w K mg base N qual (defScope st) f cdv A outer s H E).nox (defBody st) t ∧ t { nx := fun _ H' => Q .non H', rt := Q } (start N vs) H) : FnOk P w K mg base CX0 (k + 1) f fd ps sp := by
  obtain ⟨oc, od, kV, doc, pm, an, cdv, ct, osl, rfl, lk, hcd⟩ := F.ex
  refine fn_of lk hcd S len fun A outer s H vs Q E hr hsp => ?_
  obtain ⟨t, h, q⟩ := hbody cdv A outer s H vs Q E hr hsp
  exact ⟨t, h.nox, q⟩
/-- how its arguments bind (no defaults): h is «fun _ _ _ _ _ _ us hl => match us, hl with | [_, _], _ => rfl», one _ a parameter -/
theorem Fun.binds {x qual : Str} {st : Stmt} {f : Addr} {fd : FuncData} {ps : List Str} (F : Fun K x qual st f fd)
    (h : ∀ (kV doc pm : Value) (an : Option Addr) (cdv ct : Value) (us : List Value), us.length = ps.length → bindArgs (PySem.W.fnOf x qual (defArgs st) (defBody st) (defScope st) .none kV doc pm an cdv ct) ⟨us, []⟩ = pure (ps.zip us)) : Binds K fd ps [] := by
  obtain ⟨oc, od, kV, doc, pm, an, cdv, ct, osl, rfl, lk, hcd⟩ := F.ex
  exact .all (h kV doc pm an cdv ct)
end
section
variable {X : Cx}
end

theorem iteF {A B : Prop} (h : B) : if false = true then A else B := by
  rw [if_neg Bool.false_ne_true]
  exact h
theorem iteT {A B : Prop} (h : A) : if true = true then A else B := by
  rw [if_pos rfl]
  exact h
theorem ite2 {c A B : Prop} [Decidable c] (h1 : c → A) (h2 : ¬ c → B) : if c then A else B := by
  by_cases h : c
  · rw [if_pos h]
    exact h1 h
  · rw [if_neg h]
    exact h2 h
/-- all that was tracked is as it was -/
def Same (H H' : Hp) : Prop := ∀ b o, H b = some o → H' b = some o
theorem Same.refl (H : Hp) : Same H H := fun _ _ h => h
theorem Same.trans {H H1 H2 : Hp} (a : Same H H1) (b : Same H1 H2) : Same H H2 := fun c o h => b c o (a c o h)
theorem Same.free {H H' : Hp} (e : Same H H') {l : Addr} (h : H' l = Option.none) : H l = Option.none := by
  cases q : H l with
  | none => rfl
  | some o =>
    rw [e l o q] at h
    cases h
theorem Same.seq {K : PySem.W.Frag} {H H' : Hp} {a : Addr} {xs : List V} (e : Same H H') (h : SqL K H a xs) : SqL K H' a xs := by
  rcases h with (h | ⟨o, h⟩) | h
  · exact .inl (.inl (e _ _ h))
  · exact .inl (.inr ⟨o, e _ _ h⟩)
  · exact .inr h

section
variable {κ : Type} [DecidableEq κ]
end
/-- a new instance and its __init__ leave all that was tracked as it was -/
theorem Same.made {H H1 : Hp} {x dx C : Addr} (nx : H x = Option.none) (nd : H dx = Option.none) (k : ∀ b o, (upd (upd H dx (.own x)) x (.ins C dx [])) b = some o → b ≠ x → H1 b = some o) : Same H H1 := fun b o e =>
  k b o (by rw [upd_ne (ne_of_none e nx), upd_ne (ne_of_none e nd)]; exact e) (ne_of_none e nx)
end L2

set_option maxHeartbeats 4000000
namespace CW
open PySem PySem.Spec PyProof.Rows L2

inductive D where
  | non | bl (b : Bool) | int (i : Int) | str (x : Str) | tup (xs : List D) | fl (xs : List D) | ref (l : Nat) | fn (x : Str)
inductive Cell where
  | lst (xs : List D) | dct (kvs : List (Key × D)) | obj (c : Str) (fs : List (Str × D))
abbrev Mu := List Cell
abbrev Env := List (Option D)
abbrev St := L2.St

/-- a list that never changes -/
def Fz (K : PySem.W.Frag) (H : Hp) (a : Addr) (xs : List V) : Prop :=
  (∃ o, H a = some (.frz o (.lst xs))) ∨ ∀ H', SqL K H' a xs
theorem Fz.sq {K : PySem.W.Frag} {H : Hp} {a : Addr} {xs : List V} (h : Fz K H a xs) : SqL K H a xs := by
  rcases h with ⟨o, h⟩ | h
  · exact .inl (.inr ⟨o, h⟩)
  · exact h H
/-- what stays through every step -/
structure Ext (R : List Addr) (H : Hp) (R' : List Addr) (H' : Hp) : Prop where
  pre : ∃ t, R' = R ++ t
  tups : ∀ a xs, H a = some (.tup xs) → H' a = some (.tup xs)
  frzs : ∀ a o u, H a = some (.frz o u) → H' a = some (.frz o u)
theorem Ext.refl {R : List Addr} {H : Hp} : Ext R H R H := ⟨⟨[], by simp⟩, fun _ _ h => h, fun _ _ _ h => h⟩
theorem Ext.trans {R R1 R2 : List Addr} {H H1 H2 : Hp} (a : Ext R H R1 H1) (b : Ext R1 H1 R2 H2) : Ext R H R2 H2 := by
  obtain ⟨t, rfl⟩ := a.pre
  obtain ⟨u, rfl⟩ := b.pre
  exact ⟨⟨t ++ u, by simp⟩, fun x xs h => b.tups x xs (a.tups x xs h), fun x o u h => b.frzs x o u (a.frzs x o u h)⟩
theorem Ext.sqT {K : PySem.W.Frag} {R R1 : List Addr} {H H1 : Hp} (e : Ext R H R1 H1) {a : Addr} {xs : List V} (h : SqT K H a xs) : SqT K H1 a xs := by
  rcases h with (h | ⟨o, h⟩) | h
  · exact .inl (.inl (e.tups a xs h))
  · exact .inl (.inr ⟨o, e.frzs a o _ h⟩)
  · exact .inr h
theorem Ext.fz {K : PySem.W.Frag} {R R1 : List Addr} {H H1 : Hp} (e : Ext R H R1 H1) {a : Addr} {xs : List V} (h : Fz K H a xs) : Fz K H1 a xs := by
  rcases h with ⟨o, h⟩ | h
  · exact .inl ⟨o, e.frzs a o _ h⟩
  · exact .inr h
theorem Ext.get {R R1 : List Addr} {H H1 : Hp} (e : Ext R H R1 H1) {l : Nat} {a : Addr} (h : R[l]? = some a) : R1[l]? = some a := by
  obtain ⟨t, rfl⟩ := e.pre
  have hl : l < R.length := (List.getElem?_eq_some_iff.mp h).1
  rw [List.getElem?_append_left hl]; exact h

mutual
inductive RD (K : PySem.W.Frag) (R : List Addr) (H : Hp) : D → V → Prop
  | non : RD K R H .non .non
  | bl (b : Bool) : RD K R H (.bl b) (.bl b)
  | int (i : Int) : RD K R H (.int i) (.int i)
  | str (x : Str) : RD K R H (.str x) (.str x)
  | tup {a : Addr} {ds : List D} {vs : List V} : SqT K H a vs → RDs K R H ds vs → RD K R H (.tup ds) (.ref a)
  | fl {a : Addr} {ds : List D} {vs : List V} : Fz K H a vs → RDs K R H ds vs → RD K R H (.fl ds) (.ref a)
  | ref {l : Nat} {a : Addr} : R[l]? = some a → RD K R H (.ref l) (.ref a)
  | fn {x : Str} {a : Addr} : PySem.W.nsIn K mainGlobals x = some (some (.ref a)) → RD K R H (.fn x) (.ref a)
inductive RDs (K : PySem.W.Frag) (R : List Addr) (H : Hp) : List D → List V → Prop
  | nil : RDs K R H [] []
  | cons {d : D} {v : V} {ds : List D} {vs : List V} : RD K R H d v → RDs K R H ds vs → RDs K R H (d :: ds) (v :: vs)
end

section
variable {K : PySem.W.Frag} {R R' : List Addr} {H H' : Hp}
mutual
theorem RD.ext (e : Ext R H R' H') : ∀ {d : D} {v : V}, RD K R H d v → RD K R' H' d v
  | _, _, .non => .non
  | _, _, .bl b => .bl b
  | _, _, .int i => .int i
  | _, _, .str x => .str x
  | _, _, .tup h r => .tup (e.sqT h) (RDs.ext e r)
  | _, _, .fl h r => .fl (e.fz h) (RDs.ext e r)
  | _, _, .ref h => .ref (e.get h)
  | _, _, .fn h => .fn h
theorem RDs.ext (e : Ext R H R' H') : ∀ {ds : List D} {vs : List V}, RDs K R H ds vs → RDs K R' H' ds vs
  | _, _, .nil => .nil
  | _, _, .cons r t => .cons (RD.ext e r) (RDs.ext e t)
end
theorem RDs.length : ∀ {ds : List D} {vs : List V}, RDs K R H ds vs → ds.length = vs.length
  | _, _, .nil => rfl
  | _, _, .cons _ t => by simp [RDs.length t]
theorem RDs.get : ∀ {ds : List D} {vs : List V} {i : Nat} {d : D}, RDs K R H ds vs → ds[i]? = some d → ∃ v, vs[i]? = some v ∧ RD K R H d v
  | _, _, _, _, .nil, e => by simp at e
  | _, _, 0, _, .cons r _, e => by simp at e; subst e; exact ⟨_, rfl, r⟩
  | _, _, i + 1, d, .cons _ t, e => by
    obtain ⟨v, h1, h2⟩ := RDs.get (i := i) (d := d) t (by simpa using e)
    exact ⟨v, by simpa using h1, h2⟩
theorem RDs.append : ∀ {ds es : List D} {vs us : List V}, RDs K R H ds vs → RDs K R H es us → RDs K R H (ds ++ es) (vs ++ us)
  | _, _, _, _, .nil, s => s
  | _, _, _, _, .cons r t, s => .cons r (RDs.append t s)
theorem RDs.set {d : D} {v : V} (r : RD K R H d v) : ∀ {ds : List D} {vs : List V} (i : Nat), RDs K R H ds vs → RDs K R H (ds.set i d) (vs.set i v)
  | _, _, _, .nil => .nil
  | _, _, 0, .cons _ t => .cons r t
  | _, _, i + 1, .cons q t => .cons q (RDs.set r i t)
theorem RDs.take : ∀ {ds : List D} {vs : List V} (n : Nat), RDs K R H ds vs → RDs K R H (ds.take n) (vs.take n)
  | _, _, 0, _ => .nil
  | _, _, _ + 1, .nil => .nil
  | _, _, n + 1, .cons r t => .cons r (RDs.take n t)
theorem RDs.drop : ∀ {ds : List D} {vs : List V} (n : Nat), RDs K R H ds vs → RDs K R H (ds.drop n) (vs.drop n)
  | _, _, 0, r => r
  | _, _, _ + 1, .nil => .nil
  | _, _, n + 1, .cons _ t => RDs.drop n t
theorem RDs.ints : ∀ (ns : List Int), RDs K R H (ns.map D.int) (ns.map V.int)
  | [] => .nil
  | n :: ns => .cons (.int n) (RDs.ints ns)
end

/-- dict's pairs -/
inductive RKs (K : PySem.W.Frag) (R : List Addr) (H : Hp) : List (Key × D) → List (Key × V) → Prop
  | nil : RKs K R H [] []
  | cons {k : Key} {d : D} {v : V} {ds : List (Key × D)} {vs : List (Key × V)} : RD K R H d v → RKs K R H ds vs → RKs K R H ((k, d) :: ds) ((k, v) :: vs)
theorem RKs.ext {K : PySem.W.Frag} {R R' : List Addr} {H H' : Hp} (e : Ext R H R' H') : ∀ {ds : List (Key × D)} {vs : List (Key × V)}, RKs K R H ds vs → RKs K R' H' ds vs
  | _, _, .nil => .nil
  | _, _, .cons r t => .cons (r.ext e) (RKs.ext e t)

/-- an object's attributes -/
inductive RFs (K : PySem.W.Frag) (R : List Addr) (H : Hp) : List (Str × D) → List (Str × V) → Prop
  | nil : RFs K R H [] []
  | cons {f : Str} {d : D} {v : V} {ds : List (Str × D)} {vs : List (Str × V)} : RD K R H d v → RFs K R H ds vs → RFs K R H ((f, d) :: ds) ((f, v) :: vs)
theorem RFs.ext {K : PySem.W.Frag} {R R' : List Addr} {H H' : Hp} (e : Ext R H R' H') : ∀ {ds : List (Str × D)} {vs : List (Str × V)}, RFs K R H ds vs → RFs K R' H' ds vs
  | _, _, .nil => .nil
  | _, _, .cons r t => .cons (r.ext e) (RFs.ext e t)

def CellOk (K : PySem.W.Frag) (R : List Addr) (H : Hp) : Cell → Addr → Prop
  | .lst ds, a => ∃ vs, H a = some (.lst vs) ∧ RDs K R H ds vs
  | .dct ks, a => ∃ vs, H a = some (.dK vs) ∧ RKs K R H ks vs
  | .obj c fs, a => ∃ C dx vs, H a = some (.ins C dx vs) ∧ PySem.W.nsIn K mainGlobals c = some (some (.ref C)) ∧ RFs K R H fs vs
theorem CellOk.some {K : PySem.W.Frag} {R : List Addr} {H : Hp} {c : Cell} {a : Addr} (h : CellOk K R H c a) : ∃ o, H a = some o ∧ Mut (some o) := by
  cases c with
  | lst ds => obtain ⟨vs, h, _⟩ := h; exact ⟨_, h, trivial⟩
  | dct ds => obtain ⟨vs, h, _⟩ := h; exact ⟨_, h, trivial⟩
  | obj c fs => obtain ⟨C, dx, vs, h, _⟩ := h; exact ⟨_, h, trivial⟩
theorem CellOk.move {K : PySem.W.Frag} {R R' : List Addr} {H H' : Hp} {c : Cell} {a : Addr} (h : CellOk K R H c a) (e : Ext R H R' H') (s : H' a = H a) : CellOk K R' H' c a := by
  cases c with
  | lst ds => obtain ⟨vs, h, r⟩ := h; exact ⟨vs, s.trans h, r.ext e⟩
  | dct ds => obtain ⟨vs, h, r⟩ := h; exact ⟨vs, s.trans h, r.ext e⟩
  | obj c fs => obtain ⟨C, dx, vs, h, n, r⟩ := h; exact ⟨C, dx, vs, s.trans h, n, r.ext e⟩

def tabOf (vs : Array Value) : Option Addr := match vs.getD 11 .none, vs.getD 18 .none, vs.getD 7 .none, vs.getD 9 .none, vs.getD 10 .none with
  | .ref P, .str _ _, .int _ _, .bool _, .int _ _ => some P
  | _, _, _, _, _ => none
/-- a def of the text, its code at c, the code's table at P -/
structure FnTab (K : PySem.W.Frag) (c P : Addr) : Prop where
  ex : ∃ (f : Addr) (oc : Value) (od : Option Addr) (fd : FuncData) (sl : Array (Option Value)) (od2 : Option Addr) (vs : Array Value) (sl2 : Array (Option Value)),
    K.lookup f = some ⟨oc, od, .func fd, sl⟩ ∧ fd.code = .ref c ∧ K.lookup c = some ⟨.type "code", od2, .fields vs, sl2⟩ ∧ tabOf vs = some P
def TbOk (K : PySem.W.Frag) (H : Hp) : Prop := ∀ c P, FnTab K c P → ∃ ps : Array Value, H P = some (.tbl ps) ∧ TriplesOk ps.toList
theorem TbOk.laid {K : PySem.W.Frag} {H : Hp} (h : TbOk K H) {p : Addr} {o : HO} (hp : H p = none) : TbOk K (upd H p o) := fun c P t => by
  obtain ⟨ps, e, q⟩ := h c P t
  exact ⟨ps, by rw [upd_ne (ne_of_none e hp)]; exact e, q⟩
theorem TbOk.write {K : PySem.W.Frag} {H : Hp} (h : TbOk K H) {p : Addr} {o : HO} (mu : Mut (H p)) : TbOk K (upd H p o) := fun c P t => by
  obtain ⟨ps, e, q⟩ := h c P t
  exact ⟨ps, by rw [upd_ne (fun z => by subst z; rw [e] at mu; exact mu)]; exact e, q⟩
theorem TbOk.table {K : PySem.W.Frag} {H : Hp} (h : TbOk K H) {p : Addr} {ps : Array Value} (q : TriplesOk ps.toList) : TbOk K (upd H p (.tbl ps)) := fun c P t => by
  by_cases z : P = p
  · subst z; exact ⟨ps, upd_same, q⟩
  · obtain ⟨ps', e, q'⟩ := h c P t
    exact ⟨ps', by rw [upd_ne z]; exact e, q'⟩

structure HR (K : PySem.W.Frag) (R : List Addr) (H : Hp) (μ : Mu) : Prop where
  len : R.length = μ.length
  nd : R.Nodup
  tb : TbOk K H
  cell : ∀ (l : Nat) (a : Addr) (c : Cell), R[l]? = some a → μ[l]? = some c → CellOk K R H c a
section
variable {K : PySem.W.Frag} {R R' : List Addr} {H H' : Hp} {μ μ' : Mu}
theorem HR.at_ (h : HR K R H μ) {l : Nat} {c : Cell} (e : μ[l]? = some c) : ∃ a, R[l]? = some a ∧ CellOk K R H c a := by
  have hl : l < μ.length := (List.getElem?_eq_some_iff.mp e).1
  have hl' : l < R.length := by rw [h.len]; exact hl
  exact ⟨_, List.getElem?_eq_getElem hl', h.cell l _ c (List.getElem?_eq_getElem hl') e⟩
theorem HR.cellAt (h : HR K R H μ) {l : Nat} {a : Addr} {c : Cell} (e : μ[l]? = some c) (ea : R[l]? = some a) : CellOk K R H c a := h.cell l a c ea e
theorem HR.mem (h : HR K R H μ) {a : Addr} (ha : a ∈ R) : ∃ o, H a = some o ∧ Mut (some o) := by
  obtain ⟨l, hl, e⟩ := List.getElem_of_mem ha
  have hm : l < μ.length := by rw [← h.len]; exact hl
  exact (h.cell l a _ (by rw [List.getElem?_eq_getElem hl, e]) (List.getElem?_eq_getElem hm)).some
theorem HR.notin (h : HR K R H μ) {p : Addr} (hp : H p = none) : p ∉ R := fun z => by
  obtain ⟨o, e, _⟩ := h.mem z
  rw [hp] at e; cases e
/-- a tuple (or anything that is no cell) is laid -/
theorem ext_laid {p : Addr} {o : HO} (hp : H p = none) : Ext R H R (upd H p o) :=
  ⟨⟨[], by simp⟩, fun a xs h => by rw [upd_ne (ne_of_none h hp)]; exact h, fun a ob u h => by rw [upd_ne (ne_of_none h hp)]; exact h⟩
theorem HR.laid (h : HR K R H μ) {p : Addr} {o : HO} (hp : H p = none) : HR K R (upd H p o) μ :=
  ⟨h.len, h.nd, h.tb.laid hp, fun l a c e1 e2 => (h.cell l a c e1 e2).move (ext_laid hp) (by
    have := h.notin hp
    rw [upd_ne (show a ≠ p from fun z => this (z ▸ List.mem_of_getElem? e1))])⟩
/-- a cell is laid -/
theorem ext_new {p : Addr} {o : HO} (hp : H p = none) : Ext R H (R ++ [p]) (upd H p o) :=
  ⟨⟨[p], rfl⟩, (ext_laid (R := R) hp).tups, (ext_laid (R := R) hp).frzs⟩
theorem HR.new (h : HR K R H μ) {p : Addr} {o : HO} {c : Cell} (hp : H p = none) (ok : CellOk K (R ++ [p]) (upd H p o) c p) : HR K (R ++ [p]) (upd H p o) (μ ++ [c]) := by
  have np := h.notin hp
  refine ⟨by simp [h.len], ?_, h.tb.laid hp, fun l a d e1 e2 => ?_⟩
  · rw [List.nodup_append]
    exact ⟨h.nd, by simp, fun a ha b hb => by simp at hb; subst hb; exact fun z => np (z ▸ ha)⟩
  · by_cases hl : l < R.length
    · rw [List.getElem?_append_left hl] at e1
      rw [List.getElem?_append_left (by rw [← h.len]; exact hl)] at e2
      exact (h.cell l a d e1 e2).move (ext_new hp) (by rw [upd_ne (show a ≠ p from fun z => np (z ▸ List.mem_of_getElem? e1))])
    · have hl2 : l = R.length := by
        have := (List.getElem?_eq_some_iff.mp e1).1
        simp at this; omega
      subst hl2
      rw [List.getElem?_append_right (Nat.le_refl _)] at e1
      rw [List.getElem?_append_right (by rw [h.len]; exact Nat.le_refl _)] at e2
      simp [h.len] at e1 e2
      subst e1; subst e2
      exact ok
/-- a cell is written -/
theorem ext_write {p : Addr} {o : HO} (h : HR K R H μ) (hp : p ∈ R) : Ext R H R (upd H p o) := by
  obtain ⟨u, e, m⟩ := h.mem hp
  refine ⟨⟨[], by simp⟩, fun a xs q => ?_, fun a ob v q => ?_⟩
  · by_cases z : a = p
    · subst z; rw [q] at e; cases e; exact m.elim
    · rw [upd_ne z]; exact q
  · by_cases z : a = p
    · subst z; rw [q] at e; cases e; exact m.elim
    · rw [upd_ne z]; exact q
theorem HR.write (h : HR K R H μ) {p : Addr} {o : HO} {c : Cell} {l : Nat} (hp : R[l]? = some p) (ok : CellOk K R (upd H p o) c p) : HR K R (upd H p o) (μ.set l c) := by
  refine ⟨by simp [h.len], h.nd, h.tb.write (by obtain ⟨u, e, m⟩ := h.mem (List.mem_of_getElem? hp); rw [e]; exact m), fun j a d e1 e2 => ?_⟩
  have pm := List.mem_of_getElem? hp
  by_cases hj : j = l
  · subst hj
    rw [hp] at e1; cases e1
    have hlt : j < μ.length := by rw [← h.len]; exact (List.getElem?_eq_some_iff.mp hp).1
    rw [List.getElem?_set_self hlt] at e2; cases e2
    exact ok
  · rw [List.getElem?_set_ne (Ne.symm hj)] at e2
    refine (h.cell j a d e1 e2).move (ext_write h pm) (by
      refine upd_ne (show a ≠ p from fun z => ?_)
      subst z
      obtain ⟨h1, e1'⟩ := List.getElem?_eq_some_iff.mp e1
      obtain ⟨h2, e2'⟩ := List.getElem?_eq_some_iff.mp hp
      exact hj ((List.getElem_inj h.nd).mp (e1'.trans e2'.symm)))
end

structure RE (K : PySem.W.Frag) (R : List Addr) (H : Hp) (env : Env) (σ : St) : Prop where
  len : env.length = σ.length
  val : ∀ (i : Nat) (d : D), env[i]? = some (some d) → ∃ v, σ[i]? = some (some v) ∧ RD K R H d v
structure Rel (K : PySem.W.Frag) (R : List Addr) (H : Hp) (μ : Mu) (env : Env) (σ : St) : Prop where
  hp : HR K R H μ
  en : RE K R H env σ
section
variable {K : PySem.W.Frag} {R R' : List Addr} {H H' : Hp} {μ μ' : Mu} {env : Env} {σ : St}
theorem RE.ext (h : RE K R H env σ) (e : Ext R H R' H') : RE K R' H' env σ := ⟨h.len, fun i d q => let ⟨v, h1, h2⟩ := h.val i d q; ⟨v, h1, h2.ext e⟩⟩
theorem Rel.ext (h : Rel K R H μ env σ) (e : Ext R H R' H') (hr : HR K R' H' μ') : Rel K R' H' μ' env σ := ⟨hr, h.en.ext e⟩
theorem RE.set (h : RE K R H env σ) {d : D} {v : V} (r : RD K R H d v) (i : Nat) : RE K R H (env.set i (some d)) (σ.set i (some v)) := by
  refine ⟨by simp [h.len], fun j e q => ?_⟩
  by_cases hj : j = i
  · subst hj
    have hlt : j < env.length := by have := (List.getElem?_eq_some_iff.mp q).1; simpa using this
    rw [List.getElem?_set_self hlt] at q
    cases q
    exact ⟨v, List.getElem?_set_self (by rw [← h.len]; exact hlt), r⟩
  · rw [List.getElem?_set_ne (Ne.symm hj)] at q
    obtain ⟨u, h1, h2⟩ := h.val j e q
    exact ⟨u, by rw [List.getElem?_set_ne (Ne.symm hj)]; exact h1, h2⟩
end

abbrev Sm := Env → Mu → Option (D × Mu)
abbrev Tm := Env → Mu → Option (Bool × Mu)
abbrev Am := Env → Mu → Option (List D × Mu)
inductive Fl where
  | nx (env : Env) | rt (d : D) | bk (env : Env) | ct (env : Env)
abbrev Bm := Env → Mu → Option (Fl × Mu)
abbrev Gm := D → Env → Mu → Option (Env × Mu)

def Adq (K : PySem.W.Frag) (t : TE) (f : Sm) : Prop :=
  ∀ {R : List Addr} {H : Hp} {μ : Mu} {env : Env} {σ : St} {d : D} {μ' : Mu}, Rel K R H μ env σ → f env μ = some (d, μ') → ∀ {Q : VK}, (∀ v H' R', Ext R H R' H' → HR K R' H' μ' → RD K R' H' d v → Q v H') → t σ H Q
def AdqT (K : PySem.W.Frag) (t : TT) (f : Tm) : Prop :=
  ∀ {R : List Addr} {H : Hp} {μ : Mu} {env : Env} {σ : St} {b : Bool} {μ' : Mu}, Rel K R H μ env σ → f env μ = some (b, μ') → ∀ {Q : Bool → Hp → Prop}, (∀ H' R', Ext R H R' H' → HR K R' H' μ' → Q b H') → t σ H Q
def AdqA (K : PySem.W.Frag) (t : TA) (f : Am) : Prop :=
  ∀ {R : List Addr} {H : Hp} {μ : Mu} {env : Env} {σ : St} {ds : List D} {μ' : Mu}, Rel K R H μ env σ → f env μ = some (ds, μ') → ∀ {Q : List V → Hp → Prop}, (∀ vs H' R', Ext R H R' H' → HR K R' H' μ' → RDs K R' H' ds vs → Q vs H') → t σ H Q
def Post (K : PySem.W.Frag) (R : List Addr) (H : Hp) (μ' : Mu) (E : Ends) : Fl → Prop
  | .nx env => ∀ σ' H' R', Ext R H R' H' → Rel K R' H' μ' env σ' → E.nx σ' H'
  | .bk env => ∀ σ' H' R', Ext R H R' H' → Rel K R' H' μ' env σ' → E.bk σ' H'
  | .ct env => ∀ σ' H' R', Ext R H R' H' → Rel K R' H' μ' env σ' → E.ct σ' H'
  | .rt d => ∀ v H' R', Ext R H R' H' → HR K R' H' μ' → RD K R' H' d v → E.rt v H'
theorem Post.ext {K : PySem.W.Frag} {R R' : List Addr} {H H' : Hp} {μ' : Mu} {E : Ends} {fl : Fl} (p : Post K R H μ' E fl) (e : Ext R H R' H') : Post K R' H' μ' E fl := by
  cases fl with
  | nx env => exact fun σ2 H2 R2 e2 r => p σ2 H2 R2 (e.trans e2) r
  | bk env => exact fun σ2 H2 R2 e2 r => p σ2 H2 R2 (e.trans e2) r
  | ct env => exact fun σ2 H2 R2 e2 r => p σ2 H2 R2 (e.trans e2) r
  | rt d => exact fun v H2 R2 e2 h r => p v H2 R2 (e.trans e2) h r
def AdqS (K : PySem.W.Frag) (t : TS) (f : Bm) : Prop :=
  ∀ {R : List Addr} {H : Hp} {μ : Mu} {env : Env} {σ : St} {fl : Fl} {μ' : Mu}, Rel K R H μ env σ → f env μ = some (fl, μ') → ∀ {E : Ends}, Post K R H μ' E fl → t E σ H
def AdqG (K : PySem.W.Frag) (t : TG) (f : Gm) : Prop :=
  ∀ {R : List Addr} {H : Hp} {μ : Mu} {env env' : Env} {σ : St} {d : D} {v : V} {μ' : Mu}, Rel K R H μ env σ → RD K R H d v → f d env μ = some (env', μ') → ∀ {Q : St → Hp → Prop}, (∀ σ' H' R', Ext R H R' H' → Rel K R' H' μ' env' σ' → Q σ' H') → t v σ H Q

structure DE (X : Cx) (e : Expr) (f : Sm) : Prop where
  ex : ∃ t, PE X e t ∧ Adq X.K t f
structure DT (X : Cx) (e : Expr) (f : Tm) : Prop where
  ex : ∃ t, PT X e t ∧ AdqT X.K t f
structure DW (X : Cx) (e : Expr) (f : Tm) : Prop where
  ex : ∃ t, PW X e t ∧ AdqT X.K t f
structure DA (X : Cx) (es : List Expr) (f : Am) : Prop where
  ex : ∃ t, PA X es t ∧ AdqA X.K t f
structure DS (X : Cx) (st : Stmt) (f : Bm) : Prop where
  ex : ∃ t, PS X st t ∧ AdqS X.K t f
structure DSs (X : Cx) (st : List Stmt) (f : Bm) : Prop where
  ex : ∃ t, PSs X st t ∧ AdqS X.K t f
structure DG (X : Cx) (tg : Expr) (f : Gm) : Prop where
  ex : ∃ t, PG X tg t ∧ AdqG X.K t f

def vD (i : Nat) : Sm := fun env μ => match env[i]? with
  | some (some d) => some (d, μ)
  | _ => none
def cD (d : D) : Sm := fun _ μ => some (d, μ)
section
variable {X : Cx}
end

def bin (g : D → D → Mu → Option (D × Mu)) (fa fb : Sm) : Sm := fun env μ => match fa env μ with
  | none => none
  | some (x, μ1) => match fb env μ1 with
    | none => none
    | some (y, μ2) => g x y μ2
def una (g : D → Mu → Option (D × Mu)) (fa : Sm) : Sm := fun env μ => match fa env μ with
  | none => none
  | some (x, μ1) => g x μ1
section
variable {X : Cx} {a b : Expr} {fa fb : Sm} {pos : Pos}
/-- a truth as a test -/
def tst (f : Sm) : Tm := fun env μ => match f env μ with
  | some (.bl b, μ1) => some (b, μ1)
  | _ => none
def notT (f : Tm) : Tm := fun env μ => match f env μ with
  | none => none
  | some (b, μ1) => some (!b, μ1)
def andT (f g : Tm) : Tm := fun env μ => match f env μ with
  | none => none
  | some (b, μ1) => if b = true then g env μ1 else some (false, μ1)
def orT (f g : Tm) : Tm := fun env μ => match f env μ with
  | none => none
  | some (b, μ1) => if b = true then some (true, μ1) else g env μ1
def andV (f g : Sm) : Sm := fun env μ => match f env μ with
  | some (.bl b, μ1) => if b = true then g env μ1 else some (.bl false, μ1)
  | _ => none
def orV (f g : Sm) : Sm := fun env μ => match f env μ with
  | some (.bl b, μ1) => if b = true then some (.bl true, μ1) else g env μ1
  | _ => none
def notV (f : Sm) : Sm := fun env μ => match f env μ with
  | some (.bl b, μ1) => some (.bl (!b), μ1)
  | _ => none
def ifV (c : Tm) (f g : Sm) : Sm := fun env μ => match c env μ with
  | none => none
  | some (b, μ1) => if b = true then f env μ1 else g env μ1
end
end CW

namespace CW
open PySem PySem.Spec PyProof.Rows L2

def nilA : Am := fun _ μ => some ([], μ)
def consA (f : Sm) (g : Am) : Am := fun env μ => match f env μ with
  | none => none
  | some (d, μ1) => match g env μ1 with
    | none => none
    | some (ds, μ2) => some (d :: ds, μ2)
/-- a written list of arguments, with its length -/
structure DL (X : Cx) (es : List Expr) (f : Am) : Prop where
  da : DA X es f
  len : ∀ env μ ds μ', f env μ = some (ds, μ') → ds.length = es.length
section
variable {X : Cx} {e : Expr} {es : List Expr} {f : Sm} {g : Am} {pos : Pos}
def tupE (f : Am) : Sm := fun env μ => match f env μ with
  | none => none
  | some (ds, μ1) => some (.tup ds, μ1)
def lstE (f : Am) : Sm := fun env μ => match f env μ with
  | none => none
  | some (ds, μ1) => some (.ref μ1.length, μ1 ++ [.lst ds])
end

/-- the items of a sequence -/
def itemsD (μ : Mu) : D → Option (List D)
  | .tup xs => some xs
  | .fl xs => some xs
  | .ref l => match μ[l]? with
    | some (.lst xs) => some xs
    | _ => none
  | _ => none
def ixD (x y : D) (μ : Mu) : Option (D × Mu) := match y with
  | .int i => match x with
    | .str z => if z.length ≤ 1000000 then match atI z.cps.toList i with
        | some c => some (.str ⟨#[c]⟩, μ)
        | none => none
      else none
    | x => match itemsD μ x with
      | none => none
      | some xs => match atI xs i with
        | some d => some (d, μ)
        | none => none
  | _ => none
section
variable {X : Cx} {a b : Expr} {fa fb : Sm} {pos : Pos}
end

def skS : Bm := fun env μ => some (.nx env, μ)
def seqS (f g : Bm) : Bm := fun env μ => match f env μ with
  | some (.nx env1, μ1) => g env1 μ1
  | r => r
section
variable {X : Cx} {st : Stmt} {rest : List Stmt} {f g : Bm} {pos : Pos}
def bkS : Bm := fun env μ => some (.bk env, μ)
def ctS : Bm := fun env μ => some (.ct env, μ)
def dropS (f : Sm) : Bm := fun env μ => match f env μ with
  | none => none
  | some (_, μ1) => some (.nx env, μ1)
def retS (f : Sm) : Bm := fun env μ => match f env μ with
  | none => none
  | some (d, μ1) => some (.rt d, μ1)
def retN : Bm := fun env μ => some (.rt .non, μ)
variable {e : Expr} {fe : Sm}
def ifS (c : Tm) (f g : Bm) : Bm := fun env μ => match c env μ with
  | none => none
  | some (b, μ1) => if b = true then f env μ1 else g env μ1
end

def nmG (i : Nat) : Gm := fun d env μ => some (env.set i (some d), μ)
abbrev Gms := List D → Env → Mu → Option (Env × Mu)
def nilG : Gms := fun ds env μ => match ds with
  | [] => some (env, μ)
  | _ => none
def consG (g : Gm) (h : Gms) : Gms := fun ds env μ => match ds with
  | [] => none
  | d :: r => match g d env μ with
    | none => none
    | some (env1, μ1) => h r env1 μ1
def AdqGs (K : PySem.W.Frag) (t : TGs) (f : Gms) : Prop :=
  ∀ {R : List Addr} {H : Hp} {μ : Mu} {env env' : Env} {σ : St} {ds : List D} {vs : List V} {μ' : Mu}, Rel K R H μ env σ → RDs K R H ds vs → f ds env μ = some (env', μ') → ∀ {Q : St → Hp → Prop}, (∀ σ' H' R', Ext R H R' H' → Rel K R' H' μ' env' σ' → Q σ' H') → t vs σ H Q
structure DGs (X : Cx) (tgs : List Expr) (f : Gms) : Prop where
  ex : ∃ t, PGs X tgs t ∧ AdqGs X.K t f
section
variable {X : Cx} {pos : Pos}
def tupG (n : Nat) (h : Gms) : Gm := fun d env μ => match d with
  | .tup xs => if xs.length = n then h xs env μ else none
  | _ => none
/-- xs[i] = v -/
def setD (x y d : D) (μ : Mu) : Option Mu := match x, y with
  | .ref l, .int i => match μ[l]? with
    | some (.lst xs) => match ixN xs.length i with
      | some j => some (μ.set l (.lst (xs.set j d)))
      | none => none
    | _ => none
  | _, _ => none
def subG (fo fi : Sm) : Gm := fun d env μ => match fo env μ with
  | none => none
  | some (x, μ1) => match fi env μ1 with
    | none => none
    | some (y, μ2) => match setD x y d μ2 with
      | none => none
      | some μ3 => some (env, μ3)
def asgS (f : Sm) (g : Gm) : Bm := fun env μ => match f env μ with
  | none => none
  | some (d, μ1) => match g d env μ1 with
    | none => none
    | some (env1, μ2) => some (.nx env1, μ2)
def parS (i j : Nat) (f : Am) : Bm := fun env μ => match f env μ with
  | some ([x, y], μ1) => some (.nx ((env.set i (some x)).set j (some y)), μ1)
  | _ => none
end
end CW

namespace CW
open PySem PySem.Spec PyProof.Rows L2

def tSem (K : PySem.W.Frag) (f : Sm) : TE := fun σ H Q => ∃ R μ env d μ', Rel K R H μ env σ ∧ f env μ = some (d, μ') ∧ ∀ v H' R', Ext R H R' H' → HR K R' H' μ' → RD K R' H' d v → Q v H'
theorem DE.pe {X : Cx} {e : Expr} {f : Sm} (h : DE X e f) : PE X e (tSem X.K f) := fun pins s σ H Q I ⟨R, μ, env, d, μ', rl, ef, k⟩ => by
  obtain ⟨t, p, q⟩ := h.ex
  exact p pins s σ H Q I (q rl ef k)
structure ItD where
  item : Nat → Mu → Option (Option D)
  fuel : Nat
abbrev Im := Env → Mu → Option (ItD × Mu)
structure ItOk (K : PySem.W.Frag) (R : List Addr) (H : Hp) (J : It) (it : Nat → Mu → Option (Option D)) : Prop where
  stop : ∀ {R' H' μ' i}, Ext R H R' H' → HR K R' H' μ' → it i μ' = some none → J.stop i H'
  go : ∀ {R' H' μ' i x}, Ext R H R' H' → HR K R' H' μ' → it i μ' = some (some x) → J.go i H' ∧ ∀ v H'', J.yld i H' v H'' → Ext R' H' R' H'' ∧ HR K R' H'' μ' ∧ RD K R' H'' x v
def AdqI (K : PySem.W.Frag) (t : TI) (f : Im) : Prop :=
  ∀ {R : List Addr} {H : Hp} {μ : Mu} {env : Env} {σ : St} {it : ItD} {μ' : Mu}, Rel K R H μ env σ → f env μ = some (it, μ') → ∀ {Q : It → Hp → Prop}, (∀ J H' R', Ext R H R' H' → HR K R' H' μ' → ItOk K R' H' J it.item → Q J H') → t σ H Q
structure DI (X : Cx) (tg iter : Expr) (f : Im) : Prop where
  ex : ∃ t, PI X tg iter t ∧ AdqI X.K t f
theorem ItOk.ext {K : PySem.W.Frag} {R R' : List Addr} {H H' : Hp} {J : It} {it : Nat → Mu → Option (Option D)} (h : ItOk K R H J it) (e : Ext R H R' H') : ItOk K R' H' J it :=
  ⟨fun e2 h2 q => h.stop (e.trans e2) h2 q, fun e2 h2 q => h.go (e.trans e2) h2 q⟩

def fixIt (xs : List D) : ItD := ⟨fun i _ => some xs[i]?, xs.length + 1⟩
def lstIt (l n : Nat) : ItD := ⟨fun i μ => match μ[l]? with
  | some (.lst xs) => some xs[i]?
  | _ => none, n + 1⟩
section
variable {K : PySem.W.Frag} {R : List Addr} {H : Hp}
end
/-- for x in e: a tuple, a list -/
def seqI (f : Sm) : Im := fun env μ => match f env μ with
  | some (.tup xs, μ1) => some (fixIt xs, μ1)
  | some (.fl xs, μ1) => some (fixIt xs, μ1)
  | some (.ref l, μ1) => match μ1[l]? with
    | some (.lst xs) => some (lstIt l xs.length, μ1)
    | _ => none
  | _ => none
section
variable {X : Cx} {tg : Expr} {e : Expr} {f : Sm} {pos : Pos}
def rng1 (g : Am) : Im := fun env μ => match g env μ with
  | some ([.int j], μ1) => if -(2 ^ 62) ≤ j ∧ j < 2 ^ 62 then some (fixIt ((List.range j.toNat).map fun k : Nat => D.int (0 + k)), μ1) else none
  | _ => none
/-- enumerate of a list -/
def enumIt (l n : Nat) : ItD := ⟨fun i μ => match μ[l]? with
  | some (.lst xs) => some (match xs[i]? with
    | some x => some (.tup [.int (i : Nat), x])
    | none => none)
  | _ => none, n + 1⟩
def enumI (g : Am) : Im := fun env μ => match g env μ with
  | some ([.ref l], μ1) => match μ1[l]? with
    | some (.lst xs) => some (enumIt l xs.length, μ1)
    | _ => none
  | _ => none
end

def forGo (it : Nat → Mu → Option (Option D)) (g : Gm) (body : Bm) : Nat → Nat → Env → Mu → Option (Fl × Mu)
  | 0, _, _, _ => none
  | n + 1, i, env, μ => match it i μ with
    | none => none
    | some none => some (.nx env, μ)
    | some (some x) => match g x env μ with
      | none => none
      | some (env1, μ1) => match body env1 μ1 with
        | none => none
        | some (.nx env2, μ2) => forGo it g body n (i + 1) env2 μ2
        | some (.ct env2, μ2) => forGo it g body n (i + 1) env2 μ2
        | some (.bk env2, μ2) => some (.nx env2, μ2)
        | some (.rt d, μ2) => some (.rt d, μ2)
def forS (fi : Im) (g : Gm) (body : Bm) : Bm := fun env μ => match fi env μ with
  | none => none
  | some (it, μ1) => forGo it.item g body it.fuel 0 env μ1
section
variable {X : Cx} {tg : Expr} {pos : Pos} {body : List Stmt} {fb : Bm} {fi : Im} {g : Gm}
end

def wipeE (env : Env) : List Nat → Env
  | [] => env
  | v :: vs => (wipeE env vs).set v none
theorem RE.wipe {K : PySem.W.Frag} {R : List Addr} {H : Hp} {env : Env} {σ : St} (h : RE K R H env σ) : ∀ vs : List Nat, RE K R H (wipeE env vs) (L2.wipe σ vs)
  | [] => h
  | v :: vs => by
    have ih := RE.wipe h vs
    unfold wipeE L2.wipe
    refine ⟨by simp [ih.len], fun j e q => ?_⟩
    by_cases hj : j = v
    · subst hj
      have hlt : j < (wipeE env vs).length := by have := (List.getElem?_eq_some_iff.mp q).1; simpa using this
      rw [List.getElem?_set_self hlt] at q
      cases q
    · rw [List.getElem?_set_ne (Ne.symm hj)] at q
      obtain ⟨u, h1, h2⟩ := ih.val j e q
      exact ⟨u, by rw [List.getElem?_set_ne (Ne.symm hj)]; exact h1, h2⟩
/-- targets of a comprehension: names of its own -/
def AdqGw (K : PySem.W.Frag) (vs : List Nat) (t : TG) (f : Gm) : Prop :=
  ∀ {R : List Addr} {H : Hp} {μ : Mu} {env env' : Env} {σ : St} {d : D} {v : V} {μ' : Mu}, Rel K R H μ env σ → RD K R H d v → f d env μ = some (env', μ') → ∀ {Q : St → Hp → Prop}, (∀ σ' H' R', Ext R H R' H' → Rel K R' H' μ' env' σ' → wipe σ' vs = wipe σ vs → Q σ' H') → t v σ H Q
def AdqGws (K : PySem.W.Frag) (vs : List Nat) (t : TGs) (f : Gms) : Prop :=
  ∀ {R : List Addr} {H : Hp} {μ : Mu} {env env' : Env} {σ : St} {ds : List D} {us : List V} {μ' : Mu}, Rel K R H μ env σ → RDs K R H ds us → f ds env μ = some (env', μ') → ∀ {Q : St → Hp → Prop}, (∀ σ' H' R', Ext R H R' H' → Rel K R' H' μ' env' σ' → wipe σ' vs = wipe σ vs → Q σ' H') → t us σ H Q
def tSemG (K : PySem.W.Frag) (vs : List Nat) (f : Gm) : TG := fun v σ H Q => ∃ R μ env d env' μ', Rel K R H μ env σ ∧ RD K R H d v ∧ f d env μ = some (env', μ') ∧ ∀ σ' H' R', Ext R H R' H' → Rel K R' H' μ' env' σ' → wipe σ' vs = wipe σ vs → Q σ' H'
structure DGw (X : Cx) (vs : List Nat) (tg : Expr) (f : Gm) : Prop where
  ex : ∃ t, PG X tg t ∧ AdqGw X.K vs t f
structure DGws (X : Cx) (vs : List Nat) (tgs : List Expr) (f : Gms) : Prop where
  ex : ∃ t, PGs X tgs t ∧ AdqGws X.K vs t f
theorem DGw.pg {X : Cx} {vs : List Nat} {tg : Expr} {f : Gm} (h : DGw X vs tg f) : PG X tg (tSemG X.K vs f) := fun pins s σ H v u Q I r ⟨R, μ, env, d, env', μ', rl, rd, ef, k⟩ => by
  obtain ⟨t, p, q⟩ := h.ex
  exact p pins s σ H v u Q I r (q rl rd ef k)
section
variable {X : Cx} {vs : List Nat} {pos : Pos}
end
/-- the tests of a comprehension -/
structure DTs (X : Cx) (ifs : List Expr) (f : Tm) : Prop where
  ex : ∃ t, PTs X ifs t ∧ AdqT X.K t f
def yesT : Tm := fun _ μ => some (true, μ)
def compGo (it : Nat → Mu → Option (Option D)) (g : Gm) (tt : Tm) (fe : Sm) (l : Nat) (env : Env) : Nat → Nat → Mu → Option Mu
  | 0, _, _ => none
  | n + 1, i, μ => match it i μ with
    | none => none
    | some none => some μ
    | some (some x) => match g x env μ with
      | none => none
      | some (env1, μ1) => match tt env1 μ1 with
        | none => none
        | some (b, μ2) => if b = true then match fe env1 μ2 with
            | none => none
            | some (y, μ3) => match μ3[l]? with
              | some (.lst acc) => if acc.length < 1000000 then compGo it g tt fe l env n (i + 1) (μ3.set l (.lst (acc ++ [y]))) else none
              | _ => none
          else compGo it g tt fe l env n (i + 1) μ2
def lcE (fi : Im) (g : Gm) (tt : Tm) (fe : Sm) (vs : List Nat) : Sm := fun env μ => match fi env μ with
  | none => none
  | some (it, μ1) => match compGo it.item g tt fe μ1.length (wipeE env vs) it.fuel 0 (μ1 ++ [.lst []]) with
    | none => none
    | some μ2 => some (.ref μ1.length, μ2)
section
variable {X : Cx}
end

def spD (K : PySem.W.Frag) (sem : List D → Mu → Option (D × Mu)) : Sp := fun vs H Q _ => ∃ R μ ds r μ', RDs K R H ds vs ∧ HR K R H μ ∧ sem ds μ = some (r, μ') ∧ ∀ v H' R', Ext R H R' H' → HR K R' H' μ' → RD K R' H' r v → Q v H'
def mkSem (np n : Nat) (fb : Bm) : List D → Mu → Option (D × Mu) := fun ds μ =>
  if ds.length = np then match fb (ds.map some ++ List.replicate (n - np) none) μ with
    | some (.rt d, μ1) => some (d, μ1)
    | some (.nx _, μ1) => some (.non, μ1)
    | _ => none
  else none
/-- a def that is called by its name -/
structure FnK (P : Program) (w : World) (K : PySem.W.Frag) (mg : Str → Option Value) (base : Heap) (k : Nat) (x : Str) (sem : List D → Mu → Option (D × Mu)) : Prop where
  ex : ∃ fa fd ps, FnOk P w K mg base CX0 k fa fd ps (spD K sem) ∧ mg x = some (.ref fa) ∧ PySem.W.keepIn K (.ref fa) = true ∧ Binds K fd ps []
def callE (sem : List D → Mu → Option (D × Mu)) (g : Am) : Sm := fun env μ => match g env μ with
  | none => none
  | some (ds, μ1) => sem ds μ1
section
variable {X : Cx} {k : Nat} {x : Str} {sem : List D → Mu → Option (D × Mu)} {e : Expr} {es : List Expr} {p pos : Pos} {g : Am}
end
section
variable {X : Cx} {x : Str} {id : String} {e : Expr} {es : List Expr} {p pos : Pos} {g : Am} {r : List V → Hp → VK → Prop} {f : List D → Mu → Option (D × Mu)}
end
end CW

namespace CW
open PySem PySem.Spec PyProof.Rows L2

def pyD : Nat → Mu → D → Option PyData
  | _, _, .non => some .none
  | _, _, .bl b => some (.bool b)
  | _, _, .int i => some (.int i)
  | _, _, .str x => if PyData.strOk x = true then some (.str x) else none
  | n + 1, μ, .tup xs => (xs.mapM (pyD n μ)).map .tuple
  | n + 1, μ, .fl xs => (xs.mapM (pyD n μ)).map .list
  | n + 1, μ, .ref l => match μ[l]? with
    | some (.lst xs) => (xs.mapM (pyD n μ)).map .list
    | _ => none
  | _ + 1, _, .fn _ => none
  | 0, _, _ => none
structure PyOk (K : PySem.W.Frag) (H : Hp) (n : Nat) (v : V) (p : PyData) : Prop where
  dp : Dp K H v p
  lay : p.canLay0 = true
  dep : p.depth ≤ n
structure PyOks (K : PySem.W.Frag) (H : Hp) (n : Nat) (vs : List V) (ps : List PyData) : Prop where
  dp : DpAll K H vs ps
  lay : PyData.canLayAll0 ps = true
  dep : PyData.depthAll ps ≤ n
def eqD (x y : D) (μ : Mu) : Option (D × Mu) := match pyD 8 μ x, pyD 8 μ y with
  | some a, some b => some (.bl (PyData.eqv a b), μ)
  | _, _ => none
def neD (x y : D) (μ : Mu) : Option (D × Mu) := match pyD 8 μ x, pyD 8 μ y with
  | some a, some b => some (.bl (!PyData.eqv a b), μ)
  | _, _ => none
section
variable {X : Cx}
end
def inD (neg : Bool) (x y : D) (μ : Mu) : Option (D × Mu) := match pyD 8 μ x, pyD 8 μ y with
  | some d, some (.list ds) => some (.bl (if neg then !ds.any fun z => PyData.eqv z d else ds.any fun z => PyData.eqv z d), μ)
  | some d, some (.tuple ds) => some (.bl (if neg then !ds.any fun z => PyData.eqv z d else ds.any fun z => PyData.eqv z d), μ)
  | _, _ => none
section
variable {X : Cx} {a b : Expr} {fa fb : Sm} {pos : Pos} {k : Nat}
end

def arI (C : Int → Int → Bool) (g : Int → Int → D) (x y : D) (μ : Mu) : Option (D × Mu) := match x, y with
  | .int i, .int j => if C i j = true then some (g i j, μ) else none
  | _, _ => none
def yesI (_ _ : Int) : Bool := true
def subD := arI yesI fun i j => .int (i - j)
def ltD := arI yesI fun i j => .bl (decide (i < j))
def leD := arI yesI fun i j => .bl (decide (i ≤ j))
def gtD := arI yesI fun i j => .bl (decide (j < i))
def geD := arI yesI fun i j => .bl (decide (j ≤ i))
def fdivD := arI (fun _ j => decide (0 < j) && decide (j < 1073741824)) fun i j => .int (i / j)
def modD := arI (fun _ j => decide (0 < j)) fun i j => .int (i % j)
def powD := arI (fun i j => decide (0 ≤ j) && decide (j ≤ 1000000) && decide (i.natAbs < 2 ^ 64)) fun i j => .int (i ^ j.toNat)
def bigI (i : Int) : Bool := decide (i.natAbs < 2 ^ 16000)
def mulG (i j : Int) : Bool := (decide (i.natAbs < 2 ^ 64) || decide (j.natAbs < 2 ^ 64)) || (bigI i && bigI j)
section
variable {X : Cx} {a b : Expr} {fa fb : Sm} {pos : Pos} {k : Nat}
/-- is None, is not None -/
def isND (neg : Bool) (x y : D) (μ : Mu) : Option (D × Mu) := match y with
  | .non => some (.bl (match x with
    | .non => !neg
    | _ => neg), μ)
  | _ => none
end

end CW

namespace CW
open PySem PySem.Spec PyProof.Rows L2

section
variable {X : Cx} {a b c : Expr} {fa fb fc : Sm} {pos : Pos}
end

section
variable {prog : Program} {w : World} {A : Around} {E : Value → Shared → Prop} {s : Shared}
end
section
variable {X : Cx}
end
def addD (x y : D) (μ : Mu) : Option (D × Mu) := match x, y with
  | .int i, .int j => some (.int (i + j), μ)
  | .str a, .str b => if a.length + b.length ≤ 1000000 then some (.str (a ++ b), μ) else none
  | .tup xs, .tup ys => match xs with
    | [] => some (.tup ys, μ)
    | x0 :: xs0 => if (x0 :: xs0).length + ys.length ≤ 1000000 then some (.tup ((x0 :: xs0) ++ ys), μ) else none
  | .ref l, .ref m => match μ[l]?, μ[m]? with
    | some (.lst xs), some (.lst ys) => if xs.length + ys.length ≤ 1000000 then some (.ref μ.length, μ ++ [.lst (xs ++ ys)]) else none
    | _, _ => none
  | _, _ => none
end CW

namespace CW
open PySem PySem.Spec PyProof.Rows L2
open Sem (wp)
section
variable {prog : Program} {w : World} {A : Around} {E : Value → Shared → Prop} {s : Shared}
end
section
variable {prog : Program} {w : World} {A : Around} {E : Value → Shared → Prop} {s : Shared}
end
end CW

namespace CW
open PySem PySem.Spec PyProof.Rows L2
open Builtin
end CW

namespace CW
open PySem PySem.Spec PyProof.Rows L2

section
variable {X : Cx} {a b : Expr} {fa fb : Sm} {pos : Pos} {k : Nat}
def mulD (x y : D) (μ : Mu) : Option (D × Mu) := match x, y with
  | .int i, .int j => if mulG i j = true then some (.int (i * j), μ) else none
  | .tup (x0 :: xs), .int n => if 0 ≤ n ∧ n < 1000000 ∧ ((x0 :: xs).length : Int) * n ≤ 1000000 then some (.tup (List.replicate n.toNat (x0 :: xs)).flatten, μ) else none
  | _, _ => none
end

def cutD {α : Type} (xs : List α) (lo hi : Option Int) : List α := (xs.drop (HT.sIx xs.length 0 lo)).take (HT.sIx xs.length xs.length hi - HT.sIx xs.length 0 lo)
section
variable {prog : Program} {w : World} {A : Around} {E : Value → Shared → Prop} {s : Shared}
end
section
variable {X : Cx} {e : Expr} {fe : Sm} {lo hi : Option Expr} {pos p2 : Pos}
abbrev Pm := Env → Mu → Option (Option Int × Mu)
def AdqO (K : PySem.W.Frag) (t : TO) (f : Pm) : Prop :=
  ∀ {R : List Addr} {H : Hp} {μ : Mu} {env : Env} {σ : St} {o : Option Int} {μ' : Mu}, Rel K R H μ env σ → f env μ = some (o, μ') → ∀ {Q : Option Int → Hp → Prop}, (∀ H' R', Ext R H R' H' → HR K R' H' μ' → Q o H') → t σ H Q
structure DO (X : Cx) (e : Option Expr) (f : Pm) : Prop where
  ex : ∃ t, PO X e t ∧ AdqO X.K t f
def noP : Pm := fun _ μ => some (none, μ)
def somP (f : Sm) : Pm := fun env μ => match f env μ with
  | some (.int i, μ1) => some (some i, μ1)
  | _ => none
def slD (x : D) (lo hi : Option Int) (μ : Mu) : Option (D × Mu) := match x with
  | .tup xs => some (.tup (cutD xs lo hi), μ)
  | .fl xs => some (.ref μ.length, μ ++ [.lst (cutD xs lo hi)])
  | .ref l => match μ[l]? with
    | some (.lst xs) => some (.ref μ.length, μ ++ [.lst (cutD xs lo hi)])
    | _ => none
  | .str z => if z.length ≤ 1000000 then some (.str (cutS z lo hi), μ) else none
  | _ => none
def slE (fe : Sm) (fl fu : Pm) : Sm := fun env μ => match fe env μ with
  | none => none
  | some (x, μ1) => match fl env μ1 with
    | none => none
    | some (l, μ2) => match fu env μ2 with
      | none => none
      | some (u, μ3) => slD x l u μ3
theorem RDs.cut {K : PySem.W.Frag} {R : List Addr} {H : Hp} {xs : List D} {us : List V} (r : RDs K R H xs us) (lo hi : Option Int) : RDs K R H (cutD xs lo hi) (cutV us lo hi) := by
  unfold cutD cutV
  rw [← r.length]
  exact (r.drop _).take _
end

def lenB (ds : List D) (μ : Mu) : Option (D × Mu) := match ds with
  | [.str z] => if z.length ≤ 1000000 then some (.int (z.length : Nat), μ) else none
  | [x] => match itemsD μ x with
    | some xs => some (.int (xs.length : Nat), μ)
    | none => none
  | _ => none
def absB (ds : List D) (μ : Mu) : Option (D × Mu) := match ds with
  | [.int i] => some (.int (if i < 0 then -i else i), μ)
  | _ => none
/-- tuple(x) of a list or a tuple; list(x) -/
def tupB (ds : List D) (μ : Mu) : Option (D × Mu) := match ds with
  | [.tup xs] => some (.tup xs, μ)
  | [.fl xs] => some (.tup xs, μ)
  | [.ref l] => match μ[l]? with
    | some (.lst xs) => some (.tup xs, μ)
    | _ => none
  | _ => none
def lstB (ds : List D) (μ : Mu) : Option (D × Mu) := match ds with
  | [x] => match itemsD μ x with
    | some xs => some (.ref μ.length, μ ++ [.lst xs])
    | none => none
  | _ => none
/-- all, any of a list of truths -/
def blsD : List D → Option (List Bool)
  | [] => some []
  | .bl b :: r => (blsD r).map (b :: ·)
  | _ :: _ => none
def allB (any : Bool) (ds : List D) (μ : Mu) : Option (D × Mu) := match ds with
  | [.ref l] => match μ[l]? with
    | some (.lst xs) => match blsD xs with
      | some bs => some (.bl (if any then bs.any id else bs.all id), μ)
      | none => none
    | _ => none
  | _ => none
section
variable {X : Cx} {e : Expr} {es : List Expr} {p pos : Pos} {g : Am}
end
def tyD (μ : Mu) : D → Option String
  | .non => some "NoneType"
  | .bl _ => some "bool"
  | .int _ => some "int"
  | .str _ => some "str"
  | .tup _ => some "tuple"
  | .fl _ => some "list"
  | .ref l => match μ[l]? with
    | some (.lst _) => some "list"
    | some (.dct _) => some "dict"
    | _ => none
  | .fn _ => none
def isiT (t T : String) : Bool := t == T || (t == "bool" && T == "int")
def isiE (T : String) (f : Sm) : Sm := fun env μ => match f env μ with
  | none => none
  | some (d, μ1) => match tyD μ1 d with
    | none => none
    | some t => some (.bl (isiT t T), μ1)
theorem kit_all (K : PySem.W.Frag) {t T : String} (ht : t ∈ ["NoneType", "bool", "int", "str", "tuple", "list", "dict"]) (hT : T ∈ ["bool", "int", "str", "tuple", "list", "dict"]) : PySem.W.kitOne K (.type t) (.type T) = some (isiT t T) := by
  simp only [List.mem_cons, List.mem_singleton, List.not_mem_nil, or_false] at ht hT
  rcases ht with rfl | rfl | rfl | rfl | rfl | rfl | rfl <;> rcases hT with rfl | rfl | rfl | rfl | rfl | rfl <;> first | rfl | decide | with_unfolding_all rfl
theorem isi_ok {X : Cx} {pins : List (Addr × Obj)} {σ : St} {H : Hp} {s : Shared} {R : List Addr} {μ : Mu} {d : D} {v : V} {u : Value} {t T : String} {A : Around} {E : Value → Shared → Prop} {Q : Value → Shared → Prop} (I : Inv X pins σ H s) (h : HR X.K R H μ) (r : RD X.K R H d v) (rv : RelV v u) (et : tyD μ d = some t)
    (hT : T ∈ ["bool", "int", "str", "tuple", "list", "dict"]) (q : ∀ tk, Q (.bool (isiT t T)) { s with toks := tk }) : wpAny (model X.prog X.w) A (call (.builtin "isinstance") [u, .type T]) Q E s := by
  have hh : t ∈ ["NoneType", "bool", "int", "str", "tuple", "list", "dict"] := by
    cases d with
    | ref l =>
      unfold tyD at et
      simp only at et
      split at et <;> first | (cases et; decide) | cases et
    | fn _ => cases et
    | _ => cases et; decide
  have kk := kit_all X.K hh hT
  cases r with
  | fn _ => cases et
  | non => cases et; exact isinst_ok I rv .non kk q
  | bl b => cases et; exact isinst_ok I rv (.bl b) kk q
  | int b => cases et; exact isinst_ok I rv (.int b) kk q
  | str b => cases et; exact isinst_ok I rv (.str b) kk q
  | @tup a ds vs sq _ =>
    cases et
    cases (show u = Value.ref a from rv)
    obtain ⟨its, _, p, _⟩ := I.tuple sq
    obtain ⟨o, h1, h2, _⟩ := p
    exact PySem.W.kia_one PySem.W.kitx_tuple I.kIn ⟨o, h1, h2⟩ kk (fun z => nomatch z) q
  | @fl a ds vs sq _ =>
    cases et
    cases (show u = Value.ref a from rv)
    obtain ⟨its, _, ⟨o, n, h1, h2, _⟩, _⟩ := I.list sq.sq
    exact PySem.W.kia_one PySem.W.kitx_list I.kIn ⟨o, h1, h2⟩ kk (fun z => nomatch z) q
  | ref hl =>
    unfold tyD at et
    simp only at et
    split at et
    · rename_i xs el
      cases et
      obtain ⟨vs, g1, _⟩ := h.cellAt el hl
      exact isinst_ok I rv (.lst g1) kk q
    · rename_i xs el
      cases et
      obtain ⟨vs, g1, _⟩ := h.cellAt el hl
      exact isinst_ok I rv (.dK g1) kk q
    · cases et
section
variable {X : Cx} {e : Expr} {f : Sm} {p pT pos : Pos} {x : Str} {T : String}
/-- isinstance(e, T) -/
theorem de_isi (hm : X.mg "isinstance" = none) (hmT : X.mg x = none) (h : DE X e f) (hv : bootBuiltins x = some (.type T) := by decide +kernel) (hT : T ∈ ["bool", "int", "str", "tuple", "list", "dict"] := by decide) (hg : Gl X "isinstance" := by show _ = _; kernel_rfl) (hgT : Gl X x := by show _ = _; kernel_rfl)
    (hn : x ≠ "__name__" := by decide) (hdb : (x == ("__debug__" : Str)) = false := by kernel_rfl)
    (he : starEach [e, .Name x pT] X.env = (false, eval e X.env) :: starEach [.Name x pT] X.env := by kernel_rfl) (he2 : starEach [.Name x pT] X.env = (false, eval (.Name x pT) X.env) :: starEach [] X.env := by kernel_rfl) (hpl : (backTo pos (starEach [.Name x pT] X.env)).any (·.1) = false := by kernel_rfl) :
    DE X (.Call (.Name "isinstance" p) [e, .Name x pT] [] pos) (isiE T f) := by
  obtain ⟨t, pe, q⟩ := h.ex
  have hc : CallR X (.builtin "isinstance") (fun xs H Q => ∃ R μ d v t, xs = [v, .ty T] ∧ HR X.K R H μ ∧ RD X.K R H d v ∧ tyD μ d = some t ∧ Q (.bl (isiT t T)) H) := by
    intro pins s σ H xs us Q I r h
    obtain ⟨R, μ, d, v, t, rfl, hr, rd, et, q⟩ := h
    obtain ⟨u, w', rfl, r1, r2⟩ := vals2 r
    cases (show w' = Value.type T from r2)
    exact isi_ok I hr rd r1 et hT fun tk => ⟨.bl _, H, I.tok tk, rfl, q⟩
  refine ⟨_, pe_callB hc hg hm (by decide +kernel) (pa_cons pe (pa_cons (pe_bltn hgT hmT hv (show RelV (.ty T) (.type T) from rfl) hn hdb) pa_nil he2) he) (by decide) (by decide) he hpl, fun {R H μ env σ d μ'} rl ef Q k => ?_⟩
  unfold isiE at ef
  split at ef
  · cases ef
  · rename_i d1 μ1 e1
    split at ef
    · cases ef
    · rename_i ty et
      cases ef
      refine q rl e1 fun v H1 R1 x1 h1 r1 => ?_
      exact ⟨R1, _, d1, v, ty, rfl, h1, r1, et, k _ H1 R1 x1 h1 (.bl _)⟩
end
def appM (x : D) (ds : List D) (μ : Mu) : Option (D × Mu) := match x, ds with
  | .ref l, [y] => match μ[l]? with
    | some (.lst xs) => if xs.length < 1000000 then some (.non, μ.set l (.lst (xs ++ [y]))) else none
    | _ => none
  | _, _ => none
def metE (m : D → List D → Mu → Option (D × Mu)) (fo : Sm) (g : Am) : Sm := fun env μ => match fo env μ with
  | none => none
  | some (x, μ1) => match g env μ1 with
    | none => none
    | some (ds, μ2) => m x ds μ2
/-- the receiver is a list -/
def lstRecv (fo : Sm) : Sm := fun env μ => match fo env μ with
  | some (.ref l, μ1) => match μ1[l]? with
    | some (.lst _) => some (.ref l, μ1)
    | _ => none
  | _ => none
section
variable {X : Cx} {o e : Expr} {es : List Expr} {fo : Sm} {g : Am} {apos cpos : Pos}
end
def zipIt (xs ys : List D) : ItD := ⟨fun i _ => some (match xs[i]?, ys[i]? with
  | some x, some y => some (.tup [x, y])
  | _, _ => none), min xs.length ys.length + 1⟩
def zipI (g : Am) : Im := fun env μ => match g env μ with
  | some ([.tup xs, .tup ys], μ1) => some (zipIt xs ys, μ1)
  | _ => none
end CW

namespace CW
open PySem PySem.Spec PyProof.Rows L2
theorem law_sp {K : PySem.W.Frag} {H : Hp} {a : Addr} {ns : List Int} {sem : List D → Mu → Option (D × Mu)} {E : XK} (h : ∃ μ', sem [.fl (ns.map D.int)] [] = some (.bl true, μ')) (hO : ∀ b xs, H b ≠ some (.lst xs)) (hT : TbOk K H) (hS : SqL K H a (ns.map V.int)) :
    spD K sem [.ref a] H (fun v _ => v = .bl true) E := by
  obtain ⟨μ', e⟩ := h
  have fz : Fz K H a (ns.map V.int) := by
    rcases hS with (h | ⟨o, h⟩) | h
    · exact (hO a _ h).elim
    · exact .inl ⟨o, h⟩
    · exact .inr fun H' => .inr h
  refine ⟨[], [], [.fl (ns.map D.int)], .bl true, μ', .cons (.fl fz (RDs.ints ns)) .nil, ⟨rfl, List.nodup_nil, hT, fun l a c e => nomatch e⟩, e, fun v H' R' _ _ r => ?_⟩
  cases r
  rfl
end CW

namespace CW
open PySem PySem.Spec PyProof.Rows L2

def keyD : D → Option Key
  | .int i => some (.inl i)
  | .str x => some (.inr x)
  | _ => none
def valD (kvs : List (Key × D)) (k : Key) : Option D := (kvs.find? fun kv => decide (kv.1 = k)).map (·.2)
def putD (kvs : List (Key × D)) (k : Key) (v : D) : List (Key × D) :=
  if (kvs.any fun kv => decide (kv.1 = k)) = true then kvs.map (fun kv => if kv.1 = k then (kv.1, v) else kv) else kvs ++ [(k, v)]
def mergeD (kvs more : List (Key × D)) : List (Key × D) := more.foldl (fun acc kv => putD acc kv.1 kv.2) kvs
section
variable {K : PySem.W.Frag} {R : List Addr} {H : Hp}
theorem RKs.length : ∀ {ds : List (Key × D)} {vs : List (Key × V)}, RKs K R H ds vs → ds.length = vs.length
  | _, _, .nil => rfl
  | _, _, .cons _ t => by simp [RKs.length t]
theorem RKs.append : ∀ {ds es : List (Key × D)} {vs us : List (Key × V)}, RKs K R H ds vs → RKs K R H es us → RKs K R H (ds ++ es) (vs ++ us)
  | _, _, _, _, .nil, s => s
  | _, _, _, _, .cons r t, s => .cons r (RKs.append t s)
theorem RKs.any (k : Key) : ∀ {ds : List (Key × D)} {vs : List (Key × V)}, RKs K R H ds vs → (ds.any fun kv => decide (kv.1 = k)) = (vs.any fun kv => decide (kv.1 = k))
  | _, _, .nil => rfl
  | _, _, .cons r t => by simp only [List.any_cons]; rw [RKs.any k t]
theorem RKs.val (k : Key) : ∀ {ds : List (Key × D)} {vs : List (Key × V)} {d : D}, RKs K R H ds vs → valD ds k = some d → ∃ v, valV vs k = some v ∧ RD K R H d v
  | _, _, _, .nil, e => nomatch e
  | _, _, _, @RKs.cons _ _ _ k' d' v' ds' vs' r t, e => by
    by_cases q : k' = k
    · have : valD ((k', d') :: ds') k = some d' := by simp [valD, List.find?_cons, q]
      rw [this] at e; cases e
      exact ⟨v', valV_pos q, r⟩
    · have : valD ((k', d') :: ds') k = valD ds' k := by simp only [valD, List.find?_cons, q, decide_false]
      rw [this] at e
      obtain ⟨v, h1, h2⟩ := RKs.val k t e
      exact ⟨v, by rw [valV_neg q]; exact h1, h2⟩
end
abbrev Km := Env → Mu → Option (List (Key × D) × Mu)
def nilP : Km := fun _ μ => some ([], μ)
def consP (fk fv : Sm) (r : Km) : Km := fun env μ => match fk env μ with
  | none => none
  | some (k, μ1) => match keyD k with
    | none => none
    | some key => match fv env μ1 with
      | none => none
      | some (d, μ2) => match r env μ2 with
        | none => none
        | some (kvs, μ3) => some ((key, d) :: kvs, μ3)
def AdqP (K : PySem.W.Frag) (trs : List (TE × TE)) (f : Km) : Prop :=
  ∀ {R : List Addr} {H : Hp} {μ : Mu} {env : Env} {σ : St} {ds : List (Key × D)} {μ' : Mu}, Rel K R H μ env σ → f env μ = some (ds, μ') → ∀ {Q : List (V × V) → Hp → Prop}, (∀ vs H' R', Ext R H R' H' → HR K R' H' μ' → RKs K R' H' ds vs → Q (vs.map fun kv => (kV kv.1, kv.2)) H') → tPairs trs σ H Q
structure DP (X : Cx) (pos : Pos) (keys : List (Option Expr)) (values : List Expr) (f : Km) : Prop where
  ex : ∃ trs, PPs X pos keys values trs ∧ AdqP X.K trs f
  all : keys.all (·.isSome) = true
  len : keys.length = values.length
  most : ∀ env μ ds μ', f env μ = some (ds, μ') → ds.length = keys.length
section
variable {X : Cx} {pos : Pos} {k v : Expr} {ks : List (Option Expr)} {vs : List Expr} {fk fv : Sm} {r : Km}
def dctE (f : Km) : Sm := fun env μ => match f env (μ ++ [.dct []]) with
  | none => none
  | some (kvs, μ1) => match μ1[μ.length]? with
    | some (.dct []) => some (.ref μ.length, μ1.set μ.length (.dct (mergeD [] kvs)))
    | _ => none
def dgetD (x y : D) (μ : Mu) : Option (D × Mu) := match x, keyD y with
  | .ref l, some k => match μ[l]? with
    | some (.dct kvs) => match valD kvs k with
      | some d => some (d, μ)
      | none => none
    | _ => none
  | _, _ => none
def updM (x : D) (ds : List D) (μ : Mu) : Option (D × Mu) := match x, ds with
  | .ref l, [.ref m] => if l = m then none else match μ[l]?, μ[m]? with
    | some (.dct kvs), some (.dct more) => if kvs.length + more.length ≤ 1000000 then some (.non, μ.set l (.dct (mergeD kvs more))) else none
    | _, _ => none
  | _, _ => none
def dctRecv (fo : Sm) : Sm := fun env μ => match fo env μ with
  | some (.ref l, μ1) => match μ1[l]? with
    | some (.dct _) => some (.ref l, μ1)
    | _ => none
  | _ => none
end
end CW

namespace CW
open PySem PySem.Spec PyProof.Rows L2 PySem.W

def run {α : Type} (lt : Nat → Nat → Bool) : KasT α → α
  | .ret a => a
  | .ask i j k => run lt (k (lt i j))
def AskR {α : Type} (N : Nat) (P : α → Prop) : KasT α → Prop
  | .ret a => P a
  | .ask i j k => i < N ∧ j < N ∧ ∀ b, AskR N P (k b)
theorem AskR.bind {α β : Type} {N : Nat} {P : α → Prop} {Q : β → Prop} {f : α → KasT β} (hf : ∀ a, P a → AskR N Q (f a)) : ∀ (t : KasT α), AskR N P t → AskR N Q (t.bind f)
  | .ret a, h => hf a h
  | .ask i j k, h => ⟨h.1, h.2.1, fun b => AskR.bind hf (k b) (h.2.2 b)⟩
theorem AskR.run {α : Type} {N : Nat} {P : α → Prop} (lt : Nat → Nat → Bool) : ∀ (t : KasT α), AskR N P t → P (CW.run lt t)
  | .ret a, h => h
  | .ask i j k, h => AskR.run lt (k (lt i j)) (h.2.2 _)
def Pm0 (N : Nat) (p : Array Nat) : Prop := p.Perm (List.toArray (List.range N))
theorem Pm0.get {N : Nat} {p : Array Nat} (h : Pm0 N p) (hN : 0 < N) (i : Nat) : p.getD i 0 < N := by
  unfold Array.getD
  split
  · rename_i hi
    have hm : p[i] ∈ p := Array.getElem_mem hi
    have := (h.mem_iff (a := p[i])).mp hm
    simpa using this
  · exact hN
theorem Pm0.rev {N : Nat} {p : Array Nat} (h : Pm0 N p) (i j : Nat) : Pm0 N (kas_rev p i j) := (mirror_perm _ _ _ _).trans h
theorem Pm0.bub {N : Nat} {p : Array Nat} (h : Pm0 N p) (i j : Nat) : Pm0 N (bubble p i j) := (bubble_perm _ _ _).trans h
section
variable {N : Nat}
theorem asc_ok (hN : 0 < N) {p : Array Nat} (h : Pm0 N p) : ∀ (f n : Nat), AskR N (fun _ => True) (kas_asc p f n)
  | 0, n => True.intro
  | f + 1, n => ⟨h.get hN _, h.get hN _, fun b => by cases b with
    | true => (try dsimp only); rw [if_pos rfl]; exact True.intro
    | false => (try dsimp only); rw [if_neg Bool.false_ne_true]; exact asc_ok hN h f (n + 1)⟩
theorem desc_ok (hN : 0 < N) : ∀ (f : Nat) {p : Array Nat} (n q : Nat), Pm0 N p → AskR N (fun r => Pm0 N r.1) (kas_desc f p n q)
  | 0, p, n, q, h => h
  | f + 1, p, n, q, h => ⟨h.get hN _, h.get hN _, fun b => by
    cases b with
    | true =>
      (try dsimp only); rw [if_pos rfl]
      split
      · exact desc_ok hN f _ _ (h.rev _ _)
      · exact desc_ok hN f _ _ h
    | false =>
      (try dsimp only); rw [if_neg Bool.false_ne_true]
      refine ⟨h.get hN _, h.get hN _, fun d => ?_⟩
      cases d with
      | true => (try dsimp only); rw [if_pos rfl]; exact h
      | false => (try dsimp only); rw [if_neg Bool.false_ne_true]; exact desc_ok hN f _ _ h⟩
theorem tail3_ok (hN : 0 < N) {p : Array Nat} (n m : Nat) (h : Pm0 N p) : AskR N (fun r => Pm0 N r.2) (kas_tail3 n m p) := by
  unfold kas_tail3
  refine AskR.bind (P := fun _ => True) (fun a _ => ?_) _ (asc_ok hN (h.rev 0 n) _ _)
  exact h.rev 0 n
theorem descPart_ok (hN : 0 < N) {p : Array Nat} (n m : Nat) (h : Pm0 N p) : AskR N (fun r => Pm0 N r.2) (kas_descPart n m p) :=
  AskR.bind (fun r hr => by
    split
    · exact tail3_ok hN _ _ (hr.rev _ _)
    · exact tail3_ok hN _ _ hr) _ (desc_ok hN _ _ _ h)
theorem count_ok (hN : 0 < N) {p : Array Nat} (m : Nat) (h : Pm0 N p) : AskR N (fun r => Pm0 N r.2) (kas_count m p) :=
  AskR.bind (fun n _ => by
    split
    · exact h
    · split
      · refine ⟨h.get hN _, h.get hN _, fun c => ?_⟩
        cases c with
        | true => (try dsimp only); rw [if_pos rfl]; exact h
        | false => (try dsimp only); rw [if_neg Bool.false_ne_true]; exact descPart_ok hN _ _ (h.rev _ _)
      · exact descPart_ok hN _ _ h) _ (asc_ok hN h _ _)
theorem place_ok (hN : 0 < N) {p : Array Nat} (k : Nat) (h : Pm0 N p) : ∀ (f l r : Nat), AskR N (fun _ => True) (kas_place p k f l r)
  | 0, l, r => True.intro
  | f + 1, l, r => by
    unfold kas_place
    split
    · exact True.intro
    · refine ⟨h.get hN _, h.get hN _, fun c => ?_⟩
      cases c with
      | true => (try dsimp only); rw [if_pos rfl]; exact place_ok hN k h f _ _
      | false => (try dsimp only); rw [if_neg Bool.false_ne_true]; exact place_ok hN k h f _ _
theorem bin_ok (hN : 0 < N) : ∀ (f : Nat) {p : Array Nat} (k : Nat), Pm0 N p → AskR N (Pm0 N) (kas_bin f p k)
  | 0, p, k, h => h
  | f + 1, p, k, h => AskR.bind (fun l _ => bin_ok hN f _ (h.bub _ _)) _ (place_ok hN k h _ _ _)
theorem sort_ok (hN : 0 < N) : AskR N (Pm0 N) (kas_sort N) :=
  AskR.bind (fun r hr => by
    split
    · exact bin_ok hN _ _ hr
    · exact hr) _ (count_ok hN N (Array.Perm.refl _))
end
def lexD (fin : Bool) : List D → List D → Option Bool
  | [], _ => some fin
  | _, [] => some fin
  | .int a :: xs, .int b :: ys => if a = b then lexD fin xs ys else some (decide (a < b))
  | .str a :: xs, .str b :: ys => if a = b then lexD fin xs ys else some (decide (a.cps.toList < b.cps.toList))
  | _ :: _, _ :: _ => none
def tupLt (x y : D) : Option Bool := match x, y with
  | .tup (.int a :: xs), .tup (.int b :: ys) => lexD (decide ((D.int a :: xs).length < (D.int b :: ys).length)) (.int a :: xs) (.int b :: ys)
  | _, _ => none
/-- every two may be compared -/
def cmpAll (xs : List D) : Bool := xs.all fun x => xs.all fun y => (tupLt x y).isSome
def ltAt (xs : List D) (i j : Nat) : Bool := (tupLt (xs.getD i .non) (xs.getD j .non)).getD false
def srtD (xs : List D) : List D := if xs.length < 2 then xs else (run (ltAt xs) (kas_sort xs.length)).toList.map fun i => xs.getD i .non
section
variable {prog : Program} {w : World} {A : Around} {s : Shared} {K : PySem.W.Frag} {R : List Addr} {H : Hp}
end

section
variable {prog : Program} {w : World} {A : Around} {E : Value → Shared → Prop} {s : Shared}
end
theorem srtD_mem {xs : List D} (h : 2 ≤ xs.length) : Pm0 xs.length (run (ltAt xs) (kas_sort xs.length)) := AskR.run _ _ (sort_ok (by omega))
section
variable {prog : Program} {w : World} {A : Around} {E : Value → Shared → Prop} {s : Shared}
end
end CW

namespace CW
open PySem PySem.Spec PyProof.Rows L2

section
variable {X : Cx} {pins : List (Addr × Obj)} {σ : St} {H : Hp} {s : Shared}
end

section
variable {X : Cx} {pins : List (Addr × Obj)} {σ : St} {H : Hp} {s : Shared}
end

abbrev gblk (X : Cx) (A' : Around) (s : Shared) (H : Hp) (scope : Scope) (cenv : PySem.Env) (fp : List Addr) : Cx :=
  { X with A := A', s_0 := s, H_0 := H, env := cenv, outer := X.stack, stack := cenv :: X.stack, ex := fp, fn := fun x => scope.names.lookup x == some .cell, pn := [], xe := fun _ _ => False }
end CW

namespace CW
open PySem PySem.Spec PyProof.Rows L2

/-- the module of built-ins, as the globals name it -/
structure BMd (mg : Str → Option Value) (base : Heap) : Prop where
  ex : ∃ bm o, mg "__builtins__" = some (.ref bm) ∧ bm ≠ builtinsNs ∧ base.get? bm = some o ∧ o.cls = .type "module" ∧ o.dict = some builtinsNs ∧ o.data = .plain

/-- a generator expression as it is written -/
structure GS where
  X : Cx
  pins : List (Addr × Obj)
  σ : St
  vs : List Nat
  scope : Scope
  elt : Expr
  tg : Expr
  iter : Expr
  ifs : List Expr
  gpos : Pos
/-- as it is made -/
structure GV where
  s4 : Shared
  H4 : Hp
  cenv : PySem.Env
  fp : List Addr
  it : Addr
  tn : Nat → Heap → Prop
  J : It
abbrev GS.gen (S : GS) : Expr := .GeneratorExp S.elt [⟨S.tg, S.iter, S.ifs, 0⟩] S.scope S.gpos
abbrev GV.cs (V : GV) (S : GS) : Code := .compStart S.gen 0 (.ref V.it) .none V.cenv
abbrev GV.cl (V : GV) (S : GS) : Code := .compLoop S.gen 0 (.ref V.it) .none V.cenv
abbrev GV.Xg (V : GV) (S : GS) (A' : Around) : Cx := gblk S.X A' V.s4 V.H4 S.scope V.cenv V.fp
structure Made (S : GS) (V : GV) (a : Addr) (g : Nat) (s5 : Shared) : Prop where
  turn : Turn S.X.prog S.X.w S.X.K S.tg V.J V.fp V.it V.tn
  i4 : Inv S.X S.pins S.σ V.H4 V.s4
  f4 : ∀ b ∈ V.fp, FpOk S.X S.pins V.H4 b ∧ b < V.s4.heap.objs.size
  ig : ∀ A' : Around, A'.frames = some (V.cenv :: S.X.stack) → A'.handled = none → Inv (V.Xg S A') [] (wipe S.σ S.vs) V.H4 s5
  t0 : V.tn 0 s5.heap
  gen : s5.gens[g]? = some (.fresh (V.cs S))
  isg : s5.heap.IsGen a g
  lt : V.s4.heap.objs.size < a
  sz : a < s5.heap.objs.size
  loc : V.cenv.locals = V.s4.heap.objs.size
  cel : ∀ x c, V.cenv.cells.lookup x = some c → c < V.s4.heap.objs.size
  co : V.cenv.scope.isCoroutine = false
  env : ∃ cl C code, V.cenv = genEnv S.scope cl C code builtinsNs S.X.env

def genNext (item : Nat → Mu → Option (Option D)) (g : Gm) (tt : Tm) (fe : Sm) (env : Env) : Nat → Nat → Mu → Option (Option (D × Nat × Nat) × Mu)
  | 0, _, _ => none
  | n + 1, i, μ => match item i μ with
    | none => none
    | some none => some (none, μ)
    | some (some x) => match g x env μ with
      | none => none
      | some (env1, μ1) => match tt env1 μ1 with
        | none => none
        | some (b, μ2) => if b = true then match fe env1 μ2 with
            | none => none
            | some (y, μ3) => some (some (y, n, i + 1), μ3)
          else genNext item g tt fe env n (i + 1) μ2

/-- what a walk over a generator leans on -/
structure GW where
  S : GS
  V : GV
  A : Around
  R4 : List Addr
  item : Nat → Mu → Option (Option D)
  g : Gm
  tt : Tm
  fe : Sm
  env : Env
  ad : List Addr
  α : Type
  Want : Option (D × Nat × Nat) × Mu → α → Prop
  Acc : α → Heap → Hp → List Addr → Prop
abbrev GW.Ag (W : GW) : Around := W.A.over (W.V.cl W.S) []
abbrev GW.X (W : GW) : Cx := W.V.Xg W.S W.Ag
abbrev GW.K (W : GW) : PySem.W.Frag := W.S.X.K
structure GW.Ok (W : GW) : Prop where
  turn : Turn W.S.X.prog W.S.X.w W.S.X.K W.S.tg W.V.J W.V.fp W.V.it W.V.tn
  calm : W.S.X.calm = true
  hg : DGw W.X W.S.vs W.S.tg W.g
  ht : DTs W.X W.S.ifs W.tt
  he : DE W.X W.S.elt W.fe
  itok : ItOk W.K W.R4 W.V.H4 W.V.J W.item
  re : RE W.K W.R4 W.V.H4 W.env (wipe W.S.σ W.S.vs)
  co : W.V.cenv.scope.isCoroutine = false
  dis : ∀ b ∈ W.V.fp, b ∉ W.ad
  acc : ∀ a h H R H' R', W.Acc a h H R → Ext R H R' H' → W.Acc a h H' R'
structure GW.In (W : GW) (pins : List (Addr × Obj)) (μ : Mu) (H : Hp) (R : List Addr) (s : Shared) : Prop where
  inv : Inv W.X pins (wipe W.S.σ W.S.vs) H s
  fr : ∀ b ∈ W.V.fp, H b = none
  ext : Ext W.R4 W.V.H4 R H
  hr : HR W.K R H μ
def GW.Pre (W : GW) (k : Nat) (s : Shared) : Prop := ∃ n i μ a r H R, n ≤ k ∧ genNext W.item W.g W.tt W.fe W.env n i μ = some r ∧ W.Want r a ∧ W.In (pinsAt W.ad s.heap) μ H R s ∧ W.V.tn i s.heap ∧ W.Acc a s.heap H R
def GW.Y (W : GW) : Protocol := fun k s0 v s kap => ∃ n i μ a y x H R, n ≤ k ∧ W.Want (some (y, n, i), μ) a ∧ W.In (pinsAt W.ad s0.heap) μ H R s ∧ W.V.tn i s.heap ∧ W.Acc a s0.heap H R ∧ RelV x v ∧ RD W.K R H y x ∧ ∀ s2, W.Pre k s2 → kap (.send .none) s2

end CW

namespace CW
open PySem PySem.Spec PyProof.Rows L2

structure GO (S : GS) (V : GV) (A : Around) (R4 : List Addr) (item : Nat → Mu → Option (Option D)) (g : Gm) (tt : Tm) (fe : Sm) (env : Env) : Prop where
  calm : S.X.calm = true
  frames : (A.over (V.cl S) []).frames = some (V.cenv :: S.X.stack)
  handled : A.handled = none
  depth : A.depth < recursionLimit
  hg : DGw (V.Xg S (A.over (V.cl S) [])) S.vs S.tg g
  ht : DTs (V.Xg S (A.over (V.cl S) [])) S.ifs tt
  he : DE (V.Xg S (A.over (V.cl S) [])) S.elt fe
  itok : ItOk S.X.K R4 V.H4 V.J item
  re : RE S.X.K R4 V.H4 env (wipe S.σ S.vs)
section
variable {S : GS} {V : GV} {A : Around} {R4 : List Addr} {item : Nat → Mu → Option (Option D)} {g : Gm} {tt : Tm} {fe : Sm} {env : Env} {a : Addr} {gn : Nat} {s5 : Shared}
theorem GO.ok (G : GO S V A R4 item g tt fe env) (M : Made S V a gn s5) {ad : List Addr} {α : Type} {Want : Option (D × Nat × Nat) × Mu → α → Prop} {Acc : α → Heap → Hp → List Addr → Prop} (had : ∀ b ∈ ad, V.s4.heap.objs.size < b)
    (acc : ∀ a h H R H' R', Acc a h H R → Ext R H R' H' → Acc a h H' R') : GW.Ok ⟨S, V, A, R4, item, g, tt, fe, env, ad, α, Want, Acc⟩ :=
  ⟨M.turn, G.calm, G.hg, G.ht, G.he, G.itok, G.re, M.co, fun b hb z => absurd (Nat.lt_trans (M.f4 b hb).2 (had b z)) (Nat.lt_irrefl _), acc⟩
end

def allGo (stop : Bool) (item : Nat → Mu → Option (Option D)) (g : Gm) (tt : Tm) (fe : Sm) (env : Env) : Nat → Nat → Mu → Option (Bool × Mu)
  | 0, _, _ => none
  | n + 1, i, μ => match item i μ with
    | none => none
    | some none => some (!stop, μ)
    | some (some x) => match g x env μ with
      | none => none
      | some (env1, μ1) => match tt env1 μ1 with
        | none => none
        | some (b, μ2) => if b = true then match fe env1 μ2 with
            | some (.bl c, μ3) => if c = stop then some (stop, μ3) else allGo stop item g tt fe env n (i + 1) μ3
            | _ => none
          else allGo stop item g tt fe env n (i + 1) μ2
def allE (stop : Bool) (fi : Im) (g : Gm) (tt : Tm) (fe : Sm) (vs : List Nat) : Sm := fun env μ => match fi env μ with
  | none => none
  | some (it, μ1) => match allGo stop it.item g tt fe (wipeE env vs) it.fuel 0 μ1 with
    | none => none
    | some (b, μ2) => some (.bl b, μ2)

section
variable {S : GS} {V : GV} {A : Around} {R4 : List Addr} {item : Nat → Mu → Option (Option D)} {g : Gm} {tt : Tm} {fe : Sm} {env : Env} {a : Addr} {gn : Nat} {s5 : Shared}
end
end CW

namespace CW
open PySem PySem.Spec PyProof.Rows L2

def tupGo (item : Nat → Mu → Option (Option D)) (g : Gm) (tt : Tm) (fe : Sm) (env : Env) : Nat → Nat → Mu → Option (List D × Mu)
  | 0, _, _ => none
  | n + 1, i, μ => match item i μ with
    | none => none
    | some none => some ([], μ)
    | some (some x) => match g x env μ with
      | none => none
      | some (env1, μ1) => match tt env1 μ1 with
        | none => none
        | some (b, μ2) => if b = true then match fe env1 μ2 with
            | none => none
            | some (y, μ3) => match tupGo item g tt fe env n (i + 1) μ3 with
              | none => none
              | some (ys, μ4) => some (y :: ys, μ4)
          else tupGo item g tt fe env n (i + 1) μ2
section
variable {S : GS} {V : GV} {A : Around} {R4 : List Addr} {item : Nat → Mu → Option (Option D)} {g : Gm} {tt : Tm} {fe : Sm} {env : Env} {a L : Addr} {gn : Nat} {s5 : Shared} {tot : List D} {μE : Mu}
end
end CW

namespace CW
open PySem PySem.Spec PyProof.Rows L2

section
variable {S : GS} {V : GV} {A : Around} {R4 : List Addr} {item : Nat → Mu → Option (Option D)} {g : Gm} {tt : Tm} {fe : Sm} {env : Env} {a : Addr} {gn : Nat} {s5 : Shared} {tot : List D} {μE : Mu}
end
end CW

namespace CW
open PySem PySem.Spec PyProof.Rows L2

structure GBlkOk (N : List Str) (sc scope : Scope) (own : List (Str × Nat)) : Prop where
  ok : BlkOk N sc scope own
  nc : ∀ y ∈ scope.names, y.2 ≠ .cell
  d0 : scope.names.lookup (".0" : Str) = some NameKind.local
  co : scope.isCoroutine = false
/-- the def that makes the generator -/
structure GenT (K : PySem.W.Frag) (mg : Str → Option Value) (base : Heap) (c : Addr) : Prop where
  tab : ∃ P, FnTab K c P
  blt : BMd mg base

section
variable {X : Cx} {elt tg iter : Expr} {ifs : List Expr} {scope : Scope} {gpos : Pos} {own : List (Str × Nat)} {k : Nat} {c : Addr} {fi : Im} {g : Gm} {tt : Tm} {fe : Sm}
/-- the parts of a written generator expression -/
structure GenE (X : Cx) (k : Nat) (c : Addr) (own : List (Str × Nat)) (scope : Scope) (elt tg iter : Expr) (ifs : List Expr) (fi : Im) (g : Gm) (tt : Tm) (fe : Sm) : Prop where
  gt : GenT X.K X.mg X.base c
  room : Room (k + 1) X.A
  calm : X.calm = true
  nd : X.N.Nodup
  hi : DI X tg iter fi
  ok : GBlkOk X.N X.env.scope scope own
  hg : ∀ (s : Shared) (H : Hp) (A' : Around) (C : Addr) (cl : List (Str × Addr)) (code : Value) (fp : List Addr), Room k A' → DGw (gblk X A' s H scope (genEnv scope cl C code builtinsNs X.env) fp) (own.map (·.2)) tg g
  ht : ∀ (s : Shared) (H : Hp) (A' : Around) (C : Addr) (cl : List (Str × Addr)) (code : Value) (fp : List Addr), Room k A' → DTs (gblk X A' s H scope (genEnv scope cl C code builtinsNs X.env) fp) ifs tt
  he : ∀ (s : Shared) (H : Hp) (A' : Around) (C : Addr) (cl : List (Str × Addr)) (code : Value) (fp : List Addr), Room k A' → DE (gblk X A' s H scope (genEnv scope cl C code builtinsNs X.env) fp) elt fe
  code : X.env.code = .ref c
  fold : ∀ x, genFold iter X.env x = pure x
end

section
variable {X : Cx} {elt tg iter : Expr} {ifs : List Expr} {scope : Scope} {gpos p pos : Pos} {own : List (Str × Nat)} {k : Nat} {c : Addr} {fi : Im} {g : Gm} {tt : Tm} {fe : Sm}
/-- tuple(..) of a generator -/
def tupGE (fi : Im) (g : Gm) (tt : Tm) (fe : Sm) (vs : List Nat) : Sm := fun env μ => match fi env μ with
  | none => none
  | some (it, μ1) => match tupGo it.item g tt fe (wipeE env vs) it.fuel 0 μ1 with
    | none => none
    | some (ys, μ2) => if ys.length ≤ 1000000 then some (.tup ys, μ2) else none
end

end CW

namespace CW
open PySem PySem.Spec PyProof.Rows L2 PySem.W

/-- nothing is tracked but the script and the tables -/
theorem law_callT {P : Program} {w : World} {K : PySem.W.Frag} {mg mb : Str → Option Value} {k : Nat} {fa a : Addr} {fd : FuncData} {x : Str} {sp : Sp} {s₁ : Shared} {vs : List Value} {ns : List Int}
    (KX : K.In s₁.heap) (hns : s₁.heap.Ns mainGlobals mg) (hb : s₁.heap.Ns builtinsNs mb) (hbb : ∀ x : Str, x ≠ "__name__" → mb x = bootBuiltins x) (hlim : s₁.heap.NoLimit) (hg : s₁.gens = #[])
    (ha : s₁.heap.get? a = some { cls := .type "list", data := .seq vs.toArray }) (hi : IntsAre vs ns) (hl : ns.length ≤ sizeLine) (hr : Room k callerA)
    (htab : ∀ c P, FnTab K c P → s₁.heap.TableAt c P #[]) (hcl : kb_classed K = true) (hB : BMd mg s₁.heap)
    (F : ∀ base : Heap, K.In base → base.Ns mainGlobals mg → BMd mg base → FnOk P w K mg base CX0 k fa fd [x] sp) (hbind : ∀ (s : Shared) (u : Value), BindsTo s fd ⟨[u], []⟩ [(x, u)])
    (hsp : ∀ H : Hp, (∀ b xs, H b ≠ some (.lst xs)) → TbOk K H → SqL K H a (ns.map V.int) → sp [.ref a] H (fun v _ => v = .bl true) fun _ _ _ => False) :
    codeAny (model P w) callerA (.call (.ref fa) ⟨[.ref a], []⟩) (fun r s' => r = .ok (.ret (.bool true)) ∧ OldK s₁.heap s'.heap ∧ s'.os = s₁.os ∧ AllBare s'.gens) s₁ := by
  have rv := vals_ints hi
  have lenV := hi.length
  -- a table is one
  have tobj : ∀ b, (∃ c, FnTab K c b) → ∃ c, s₁.heap.TableAt c b #[] := fun b ⟨c, t⟩ => ⟨c, htab c b t⟩
  have na : ¬ ∃ c, FnTab K c a := fun h => by
    obtain ⟨c, _, t⟩ := tobj a h
    rw [ha] at t; cases t
  have core : ∀ H : Hp, (∀ b, H b = none ∨ (b = a ∧ ∃ o, H b = some (.frz o (.lst (ns.map V.int)))) ∨ (H b = some (.tbl #[]) ∧ ∃ c, s₁.heap.TableAt c b #[])) → TbOk K H → SqL K H a (ns.map V.int) → HOk P w H s₁.heap → (H a ≠ none → K.lookup a = none) →
      codeAny (model P w) callerA (.call (.ref fa) ⟨[.ref a], []⟩) (fun r s' => r = .ok (.ret (.bool true)) ∧ OldK s₁.heap s'.heap ∧ s'.os = s₁.os ∧ AllBare s'.gens) s₁ := by
    intro H hO hT hS hok hK
    have obj_of : ∀ {b : Addr} {o : Obj}, s₁.heap.get? b = some o → o.cls ≠ .none → o.cls ≠ .type "list" → H b = none := fun {b o} e h1 h2 => by
      rcases hO b with z | ⟨rfl, _⟩ | ⟨_, c, _, t⟩
      · exact z
      · rw [ha] at e; cases e; exact (h2 rfl).elim
      · rw [t] at e; cases e; exact (h1 rfl).elim
    have dict_of : ∀ {b : Addr} {o : Obj} {es : Array DictEntry} {ep : Nat}, s₁.heap.get? b = some o → o.data = .dict es ep → H b = none := fun {b o es ep} e d => by
      rcases hO b with z | ⟨rfl, _⟩ | ⟨_, c, _, t⟩
      · exact z
      · rw [ha] at e; cases e; cases d
      · rw [t] at e; cases e; cases d
    have nsK : ∀ {b : Addr} {m : Str → Option Value}, s₁.heap.Ns b m → (hidT s₁.heap H).Ns b m := fun {b m} ⟨o, es, ep, e, d, r⟩ => ⟨o, es, ep, hidT_get e (dict_of e d), d, r⟩
    have hKb : K.In (hidT s₁.heap H) := fun b o e => hidT_get (KX b o e) (by
      rcases hO b with z | ⟨rfl, q, hq⟩ | ⟨q, c, _, t⟩
      · exact z
      · rw [hK (by rw [hq]; simp)] at e; cases e
      · exfalso
        have e2 := KX b o e
        have q2 := List.all_eq_true.mp hcl (b, o) (kb_mem e)
        simp only [Bool.or_eq_true, decide_eq_true_eq, beq_iff_eq] at q2
        rcases q2 with (y | y) | y
        · rw [t] at e2; cases e2; exact y rfl
        · obtain ⟨mc, ⟨o', es, ep, e', d', _⟩, _⟩ := hlim
          rw [← y, t] at e'; cases e'; cases d'
        · obtain ⟨o', es, ep, e', d', _⟩ := hns
          rw [← y, t] at e'; cases e'; cases d')
    have hM : Mod K mg (hidT s₁.heap H) := ⟨hKb, nsK hns, ⟨mb, nsK hb, hbb⟩, let ⟨mc, h1, h2⟩ := hlim; ⟨mc, nsK h1, h2⟩⟩
    have hBb : BMd mg (hidT s₁.heap H) := by
      obtain ⟨bm, o, b1, b2, b3, b4, b5⟩ := hB.ex
      exact ⟨bm, o, b1, b2, hidT_get b3 (obj_of b3 (by rw [b4]; simp) (by rw [b4]; decide)), b4, b5⟩
    have e0 : Env0 P w K mg (hidT s₁.heap H) callerA [] s₁ H := ⟨rfl, hM, fun b o e => of_hidT e, Nat.le_of_eq (hidT_size _ _), trivial, fun b hb => absurd (show b ∈ ([] : List Addr) from hb) (by simp), hok, .of_eq hg⟩
    have noL : ∀ b xs, H b ≠ some (.lst xs) := fun b xs e => by
      rcases hO b with z | ⟨_, q, hq⟩ | ⟨q, _⟩
      · rw [z] at e; cases e
      · rw [hq] at e; cases e
      · rw [q] at e; cases e
    refine codeAny_mono ((F _ hKb (nsK hns) hBb).run callerA [] s₁ H ⟨[.ref a], []⟩ [.ref a] [.ref a] _ _ hr e0 (hbind s₁ (.ref a)) (.cons rfl .nil) (hsp H noL hT hS)) fun r s' h => ?_
    cases r with
    | error e => exact False.elim h
    | ok fl =>
      cases fl with
      | next => exact False.elim h
      | brk => exact False.elim h
      | cont => exact False.elim h
      | ret u =>
        obtain ⟨v, H', os, bare, un, hok', r', q⟩ := h
        have q' : v = .bl true := q
        subst q'
        obtain rfl : u = Value.bool true := r'
        have nofr : ∀ b : Addr, b ∉ frs [] := fun b z => absurd (show b ∈ ([] : List Addr) from z) (by simp)
        refine ⟨rfl, ⟨fun b o e => ?_, fun b o e => un.there b o e (by simp)⟩, os, bare⟩
        rcases hO b with z | ⟨_, q, hq⟩ | ⟨q, c, t⟩
        · exact .inl (un.keep b o e z (nofr b) (by simp))
        · have z2 := un.frzs b _ _ hq
          obtain ⟨e1, _⟩ := hok b _ hq
          obtain ⟨e2, _⟩ := hok' b _ z2
          rw [e] at e1; cases e1
          exact .inl e2
        · obtain ⟨more, hm⟩ := un.tbls b _ q
          have e2 := hok' b _ hm
          have e2 : s'.heap.get? b = some { cls := .none, data := .fields (#[] ++ more) } := e2
          have e3 := t.2
          rw [e] at e3; cases e3
          exact .inr (.inl ⟨t.isCodeTable, rfl, #[], more, rfl, e2⟩)
  classical
  cases hk : K.lookup a with
  | some o =>
    have e := KX a o hk
    rw [ha] at e
    cases e
    refine core (fun b => if ∃ c, FnTab K c b then some (.tbl #[]) else none) (fun b => ?_) (fun c P t => ⟨#[], if_pos ⟨c, t⟩, trivial⟩) (.inr ⟨_, vs.toArray, _, hk, rfl, rfl, rfl, by rw [List.size_toArray, lenV]; exact hl, by simpa using rv⟩) (fun b u z => ?_) fun z => absurd (if_neg na) z
    · by_cases hb : ∃ c, FnTab K c b
      · exact .inr (.inr ⟨if_pos hb, tobj b hb⟩)
      · exact .inl (if_neg hb)
    · by_cases hb : ∃ c, FnTab K c b
      · have z' := (if_pos hb).symm.trans z
        cases z'
        exact (tobj b hb).choose_spec.2
      · have z' := (if_neg hb).symm.trans z
        cases z'
  | none =>
    refine core (fun b => if b = a then some (.frz { cls := .type "list", data := .seq vs.toArray } (.lst (ns.map V.int))) else if ∃ c, FnTab K c b then some (.tbl #[]) else none) (fun b => ?_) (fun c P t => ⟨#[], ?_, trivial⟩) (.inl (.inr ⟨{ cls := .type "list", data := .seq vs.toArray }, if_pos rfl⟩)) (fun b u z => ?_) fun _ => hk
    · by_cases hb : b = a
      · exact .inr (.inl ⟨hb, _, if_pos hb⟩)
      · by_cases hb2 : ∃ c, FnTab K c b
        · exact .inr (.inr ⟨(if_neg hb).trans (if_pos hb2), tobj b hb2⟩)
        · exact .inl ((if_neg hb).trans (if_neg hb2))
    · have hP : P ≠ a := fun z => na (z ▸ ⟨c, t⟩)
      exact (if_neg hP).trans (if_pos ⟨c, t⟩)
    · by_cases hb : b = a
      · have z' := (if_pos hb).symm.trans z
        cases z'
        subst hb
        exact ⟨ha, by rw [List.length_map]; exact hl, vs, _, rv, ha⟩
      · have z := (if_neg hb).symm.trans z
        by_cases hb2 : ∃ c, FnTab K c b
        · have z' := (if_pos hb2).symm.trans z
          cases z'
          exact (tobj b hb2).choose_spec.2
        · have z' := (if_neg hb2).symm.trans z
          cases z'
def kbk (p : Addr × Obj) : Bool := decide (p.2.cls ≠ .none) || p.1 == cStatics || p.1 == mainGlobals
def kbf (K : PySem.W.Frag) : PySem.W.Frag := K.filter kbk
def ascK : List Nat → Bool
  | [] => true
  | a :: r => (match r with
    | [] => true
    | b :: _ => Nat.blt a b) && ascK r
theorem ascK_lt : ∀ {l : List Nat} {a : Nat}, ascK (a :: l) = true → ∀ b ∈ l, a < b
  | [], _, _, b, h => nomatch h
  | c :: r, a, e, b, h => by
    unfold ascK at e
    obtain ⟨e1, e2⟩ := Bool.and_eq_true_iff.mp e
    have h1 : a < c := Nat.blt_eq.mp e1
    rcases List.mem_cons.mp h with z | z
    · subst z; exact h1
    · exact Nat.lt_trans h1 (ascK_lt e2 b z)
theorem ascK_tl {l : List Nat} {a : Nat} (e : ascK (a :: l) = true) : ascK l = true := by
  unfold ascK at e
  exact (Bool.and_eq_true_iff.mp e).2
theorem kbf_lookup : ∀ {K : PySem.W.Frag}, ascK (K.map (·.1)) = true → ∀ {a : Addr} {o : Obj}, (kbf K).lookup a = some o → K.lookup a = some o
  | [], _, _, _, e => by cases e
  | (b, x) :: r, hs, a, o, e => by
    unfold kbf at e
    rw [List.filter_cons] at e
    rw [List.lookup_cons]
    cases h : a == b with
    | true =>
      have hab : a = b := by simpa using h
      subst hab
      split at e
      · rw [List.lookup_cons, h] at e; exact e
      · exfalso
        have hm : (a, o) ∈ r.filter kbk := by
          have := List.lookup_eq_some_iff.mp e
          obtain ⟨l1, l2, e1, _⟩ := this
          rw [e1]; simp
        have hm2 := (List.mem_filter.mp hm).1
        exact absurd (ascK_lt hs a (List.mem_map.mpr ⟨_, hm2, rfl⟩)) (Nat.lt_irrefl a)
    | false =>
      have e' : (kbf r).lookup a = some o := by
        split at e
        · rw [List.lookup_cons, h] at e; exact e
        · exact e
      exact kbf_lookup (ascK_tl hs) e'
theorem kbf_classed {K : PySem.W.Frag} : kb_classed (kbf K) = true := by
  unfold kb_classed kbf
  rw [List.all_filter]
  refine List.all_eq_true.mpr fun p _ => ?_
  unfold kbk
  cases (decide (p.2.cls ≠ .none) || p.1 == cStatics || p.1 == mainGlobals) <;> rfl
theorem kbf_in {K : PySem.W.Frag} {h : Heap} (hs : ascK (K.map (·.1)) = true) (X : K.In h) : (kbf K).In h := fun a o e => X a o (kbf_lookup hs e)
/-- the table of each def's code is there, and empty -/
def tabsOf (K : PySem.W.Frag) : Bool := K.all fun p => match p.2.data with
  | .func fd => match fd.code with
    | .ref c => match K.lookup c with
      | some o => match o.data with
        | .fields vs => match tabOf vs with
          | some P => match K.lookup P with
            | some ⟨.none, none, .fields ws, sl⟩ => ws.isEmpty && sl.isEmpty
            | _ => false
          | none => true
        | _ => true
      | none => true
    | _ => true
  | _ => true
theorem fnTab_at {h : Heap} {K : PySem.W.Frag} (hs : ascK (K.map (·.1)) = true) (KX : K.In h) (ht : tabsOf K = true) {c P : Addr} (t : FnTab (kbf K) c P) : h.TableAt c P #[] := by
  obtain ⟨f, oc, od, fd, sl, od2, vs, sl2, t2, t3, t4, t5⟩ := t.ex
  have l1 := kbf_lookup hs t2
  have l2 := kbf_lookup hs t4
  have hm : (f, (⟨oc, od, .func fd, sl⟩ : Obj)) ∈ K := by
    obtain ⟨a1, a2, e1, _⟩ := List.lookup_eq_some_iff.mp l1
    rw [e1]; simp
  have q := List.all_eq_true.mp ht _ hm
  simp only at q
  rw [t3] at q
  simp only at q
  rw [l2] at q
  simp only at q
  rw [t5] at q
  simp only at q
  split at q
  · rename_i ws sl3 l3
    obtain ⟨q1, q2⟩ := Bool.and_eq_true_iff.mp q
    have e1 : ws = #[] := by simpa using q1
    have e2 : sl3 = #[] := by simpa using q2
    subst e1 e2
    refine ⟨⟨_, vs, KX _ _ l2, rfl, rfl, ?_⟩, KX _ _ l3⟩
    unfold tabOf at t5
    split at t5
    · rename_i P2 _ _ _ _ _ _ _ e11 _ _ _ _
      cases t5
      rw [Array.getD_eq_getD_getElem?] at e11
      cases q : vs[11]? with
      | none => rw [q] at e11; cases e11
      | some v => rw [q] at e11; exact congrArg some e11
    · cases t5
  · cases q
theorem walkT {l : PySem.W.OpenLaw} {n k : Nat} {q : Program} {loose : List Str} {XP : (Str → Option Value) → Heap → Prop} {YP : World → Heap → Prop} {d : DefRec} {K : Params → PySem.W.Frag} {sp : World → Sp} {x : Str}
    (hn : l.most = some n) (hn2 : n ≤ sizeLine) (hdf : d.params.defaults = []) (hr : Room k callerA) (hY : ∀ (w : World) (h : Heap), YP w h → (K w.params).In h)
    (hA : ∀ w : World, ascK ((K w.params).map (·.1)) = true) (hC : ∀ w : World, tabsOf (K w.params) = true)
    (F : ∀ (w : World) (mg : Str → Option Value) (fa : Addr) (h : Heap), (kbf (K w.params)).In h → h.Ns mainGlobals mg → mg d.name = some (.ref fa) →
      ∃ fd : FuncData, (∀ (s : Shared) (u : Value), BindsTo s fd ⟨[u], []⟩ [(x, u)]) ∧ ∀ base : Heap, (kbf (K w.params)).In base → base.Ns mainGlobals mg → BMd mg base → FnOk l.prog w (kbf (K w.params)) mg base CX0 k fa fd [x] (sp w))
    (hsp : ∀ (w : World) (H : Hp) (a : Addr) (ns : List Int), ns.length ≤ n → (∀ b xs, H b ≠ some (.lst xs)) → TbOk (kbf (K w.params)) H → SqL (kbf (K w.params)) H a (ns.map V.int) → sp w [.ref a] H (fun v _ => v = .bl true) fun _ _ _ => False) :
    PySem.W.WalkO q loose XP YP l.row.toRowW d [] (fun f vs => PySem.call f vs) := by
  refine Att.attach_call hn hdf fun w s₀ s₁ mg mb fa o pm cd doc a vs ns G Y ho hd hcd hmg hobj hints hlen hg => ?_
  have KX0 := hY w _ Y
  have KX := kbf_in (hA w) KX0
  obtain ⟨fd, hb, hF⟩ := F w mg fa _ KX G.T.g hmg
  have hB : BMd mg s₁.heap := by
    obtain ⟨bm, ob, B⟩ := bmod_of_top G.T
    obtain ⟨_, b1, b2, b3, b4, b5, b6⟩ := B
    exact ⟨bm, ob, b1, b2, b3, b4, b5, b6⟩
  exact law_callT KX G.T.g G.T.b G.T.builtins G.T.nolimit hg hobj hints (Nat.le_trans hlen hn2) hr (fun c P t => fnTab_at (hA w) KX0 (hC w) t) kbf_classed hB hF hb fun H h1 h2 h3 => hsp w H a ns hlen h1 h2 h3
end CW

namespace CW
open PySem PySem.Spec PyProof.Rows L2

/-- whole numbers alone -/
def intsD : List D → Option (List Int)
  | [] => some []
  | .int i :: r => match intsD r with
    | some ns => some (i :: ns)
    | none => none
  | _ :: _ => none
def sortZ (ns : List Int) : List Int := ns.mergeSort (fun a b => decide (a ≤ b))
def srtB : List D → Mu → Option (D × Mu) := fun ds μ => match ds with
  | [.ref l] => match μ[l]? with
    | some (.lst xs) => if xs.length < 64 then (if cmpAll xs = true then some (.ref μ.length, μ ++ [.lst (srtD xs)]) else match intsD xs with
        | some ns => some (.ref μ.length, μ ++ [.lst ((sortZ ns).map D.int)])
        | none => none) else none
    | _ => none
  | [.tup xs] => match intsD xs with
    | some ns => if ns.length < 64 then some (.ref μ.length, μ ++ [.lst ((sortZ ns).map D.int)]) else none
    | none => none
  | _ => none
def rdK (K : PySem.W.Frag) : Nat → Value → Option D
  | 0, _ => none
  | n + 1, v => match v with
    | .none => some .non
    | .bool b => some (.bl b)
    | .int i _ => some (.int i)
    | .str x _ => some (.str x)
    | .ref a => match K.lookup a with
      | some ⟨.type t, _, .seq its _, _⟩ => if t = "tuple" then (if its.size ≤ 1000 then match its.toList.mapM (rdK K n) with
          | some ds => some (.tup ds)
          | none => none else none) else none
      | some ⟨_, _, .func fd, _⟩ => match PySem.W.nsIn K mainGlobals fd.name with
        | some (some (.ref b)) => if a = b then some (.fn fd.name) else none
        | _ => none
      | _ => none
    | _ => none
/-- a constant of the module: what it is -/
structure GlD (K : PySem.W.Frag) (mg : Str → Option Value) (x : Str) (d : D) : Prop where
  ex : ∃ u v, mg x = some u ∧ RelV v u ∧ ∀ R H, RD K R H d v
def intB : List D → Mu → Option (D × Mu) := fun ds μ => match ds with
  | [.int i] => some (.int i, μ)
  | [.bl b] => some (.int (if b then 1 else 0), μ)
  | _ => none
end CW

namespace CW
open PySem PySem.Spec PyProof.Rows L2 PySem.W

def kdK (K : PySem.W.Frag) : List DictEntry → Option (List (Str × D))
  | [] => some []
  | e :: r => match e.key, rdK K 5 e.val, kdK K r with
    | .str x _, some d, some l => some ((x, d) :: l)
    | _, _, _ => none
structure GlK (K : PySem.W.Frag) (mg : Str → Option Value) (P : Params) (x : Str) (kvs : List (Str × D)) : Prop where
  ex : ∃ a es n, mg x = some (.ref a) ∧ K.lookup a = some ⟨.type "dict", none, .dict es n, #[]⟩ ∧ (a == sysModules) = false ∧ KeysLit P es.toList ∧ kdK K es.toList = some kvs
section
variable {X : Cx}
def kinD (neg : Bool) (kvs : List (Str × D)) : D → Mu → Option (D × Mu) := fun d μ => match d with
  | .str k => some (.bl (neg ^^ (kvs.lookup k).isSome), μ)
  | _ => none
def kgetD (kvs : List (Str × D)) : D → Mu → Option (D × Mu) := fun d μ => match d with
  | .str k => match kvs.lookup k with
    | some d => some (d, μ)
    | none => none
  | _ => none
end
section
variable {X : Cx} {a b : Expr} {fa fb : Sm} {pos : Pos}
/-- d[k] = v -/
def putS (fv fo fi : Sm) : Bm := fun env μ => match fv env μ with
  | none => none
  | some (v, μ1) => match fo env μ1 with
    | some (.ref l, μ2) => match fi env μ2 with
      | none => none
      | some (y, μ3) => match keyD y, μ3[l]? with
        | some k, some (.dct kvs) => if kvs.length < 1000000 then some (.nx env, μ3.set l (.dct (putD kvs k v))) else none
        | _, _ => none
    | _ => none
end
end CW

namespace CW
open PySem L2

def wp {α : Type} (m : Option (α × Mu)) (Q : α → Mu → Prop) : Prop := ∃ a μ, m = some (a, μ) ∧ Q a μ
def ws (m : Option (Fl × Mu)) (N : Env → Mu → Prop) (Rt : D → Mu → Prop) (B C : Env → Mu → Prop) : Prop :=
  ∃ fl μ, m = some (fl, μ) ∧ match fl with
    | .nx e => N e μ
    | .rt d => Rt d μ
    | .bk e => B e μ
    | .ct e => C e μ
section
variable {α : Type} {Q Q' : α → Mu → Prop} {μ : Mu} {env : Env}
theorem wp_eq {m : Option (α × Mu)} {a : α} {μ : Mu} (h : m = some (a, μ)) (q : Q a μ) : wp m Q := ⟨a, μ, h, q⟩
theorem wp_mono {m : Option (α × Mu)} (h : wp m Q) (k : ∀ a μ, Q a μ → Q' a μ) : wp m Q' := let ⟨a, μ, e, q⟩ := h; ⟨a, μ, e, k a μ q⟩
end
section
variable {Q : D → Mu → Prop} {μ : Mu} {env : Env} {f g : Sm} {i : Nat} {d : D}
theorem wp_v (h : env[i]? = some (some d)) (q : Q d μ) : wp (vD i env μ) Q := by
  refine wp_eq (a := d) (μ := μ) ?_ q
  unfold vD
  rw [h]
theorem wp_c (q : Q d μ) : wp (cD d env μ) Q := wp_eq rfl q
theorem wp_bin {o : D → D → Mu → Option (D × Mu)} (h : wp (f env μ) fun x μ1 => wp (g env μ1) fun y μ2 => wp (o x y μ2) Q) : wp (bin o f g env μ) Q := by
  obtain ⟨x, μ1, e1, y, μ2, e2, z, μ3, e3, q⟩ := h
  refine wp_eq (a := z) (μ := μ3) ?_ q
  unfold bin
  rw [e1]; simp only; rw [e2]; exact e3
theorem wp_una {o : D → Mu → Option (D × Mu)} (h : wp (f env μ) fun x μ1 => wp (o x μ1) Q) : wp (una o f env μ) Q := by
  obtain ⟨x, μ1, e1, z, μ3, e3, q⟩ := h
  refine wp_eq (a := z) (μ := μ3) ?_ q
  unfold una
  rw [e1]; exact e3
theorem wp_tst {Q : Bool → Mu → Prop} (h : wp (f env μ) fun x μ1 => ∃ b, x = .bl b ∧ Q b μ1) : wp (tst f env μ) Q := by
  obtain ⟨x, μ1, e1, b, rfl, q⟩ := h
  refine wp_eq (a := b) (μ := μ1) ?_ q
  unfold tst
  rw [e1]
theorem wp_notT {Q : Bool → Mu → Prop} {f : Tm} (h : wp (f env μ) fun b μ1 => Q (!b) μ1) : wp (notT f env μ) Q := by
  obtain ⟨b, μ1, e1, q⟩ := h
  refine wp_eq (a := !b) (μ := μ1) ?_ q
  unfold notT
  rw [e1]
theorem wp_andT {Q : Bool → Mu → Prop} {f g : Tm} (h : wp (f env μ) fun b μ1 => if b = true then wp (g env μ1) Q else Q false μ1) : wp (andT f g env μ) Q := by
  obtain ⟨b, μ1, e1, q⟩ := h
  unfold andT
  rw [e1]; simp only
  cases b with
  | true => rw [if_pos rfl] at q ⊢; exact q
  | false => rw [if_neg Bool.false_ne_true] at q ⊢; exact wp_eq rfl q
theorem wp_orT {Q : Bool → Mu → Prop} {f g : Tm} (h : wp (f env μ) fun b μ1 => if b = true then Q true μ1 else wp (g env μ1) Q) : wp (orT f g env μ) Q := by
  obtain ⟨b, μ1, e1, q⟩ := h
  unfold orT
  rw [e1]; simp only
  cases b with
  | false => rw [if_neg Bool.false_ne_true] at q ⊢; exact q
  | true => rw [if_pos rfl] at q ⊢; exact wp_eq rfl q
theorem wp_andV (h : wp (f env μ) fun x μ1 => ∃ b, x = .bl b ∧ if b = true then wp (g env μ1) Q else Q (.bl false) μ1) : wp (andV f g env μ) Q := by
  obtain ⟨x, μ1, e1, b, rfl, q⟩ := h
  unfold andV
  rw [e1]; simp only
  cases b with
  | true => rw [if_pos rfl] at q ⊢; exact q
  | false => rw [if_neg Bool.false_ne_true] at q ⊢; exact wp_eq rfl q
theorem wp_orV (h : wp (f env μ) fun x μ1 => ∃ b, x = .bl b ∧ if b = true then Q (.bl true) μ1 else wp (g env μ1) Q) : wp (orV f g env μ) Q := by
  obtain ⟨x, μ1, e1, b, rfl, q⟩ := h
  unfold orV
  rw [e1]; simp only
  cases b with
  | false => rw [if_neg Bool.false_ne_true] at q ⊢; exact q
  | true => rw [if_pos rfl] at q ⊢; exact wp_eq rfl q
theorem wp_notV (h : wp (f env μ) fun x μ1 => ∃ b, x = .bl b ∧ Q (.bl (!b)) μ1) : wp (notV f env μ) Q := by
  obtain ⟨x, μ1, e1, b, rfl, q⟩ := h
  unfold notV
  rw [e1]; exact wp_eq rfl q
theorem wp_ifV {c : Tm} (h : wp (c env μ) fun b μ1 => if b = true then wp (f env μ1) Q else wp (g env μ1) Q) : wp (ifV c f g env μ) Q := by
  obtain ⟨b, μ1, e1, q⟩ := h
  unfold ifV
  rw [e1]; simp only
  cases b with
  | false => rw [if_neg Bool.false_ne_true] at q ⊢; exact q
  | true => rw [if_pos rfl] at q ⊢; exact q
theorem wp_nilA {Q : List D → Mu → Prop} (q : Q [] μ) : wp (nilA env μ) Q := wp_eq rfl q
theorem wp_consA {Q : List D → Mu → Prop} {a : Am} (h : wp (f env μ) fun x μ1 => wp (a env μ1) fun xs μ2 => Q (x :: xs) μ2) : wp (consA f a env μ) Q := by
  obtain ⟨x, μ1, e1, xs, μ2, e2, q⟩ := h
  refine wp_eq (a := x :: xs) (μ := μ2) ?_ q
  unfold consA
  rw [e1]; simp only; rw [e2]
theorem wp_tupE {a : Am} (h : wp (a env μ) fun xs μ1 => Q (.tup xs) μ1) : wp (tupE a env μ) Q := by
  obtain ⟨xs, μ1, e1, q⟩ := h
  refine wp_eq (a := .tup xs) (μ := μ1) ?_ q
  unfold tupE
  rw [e1]
theorem wp_lstE {a : Am} (h : wp (a env μ) fun xs μ1 => Q (.ref μ1.length) (μ1 ++ [.lst xs])) : wp (lstE a env μ) Q := by
  obtain ⟨xs, μ1, e1, q⟩ := h
  refine wp_eq (a := .ref μ1.length) (μ := μ1 ++ [.lst xs]) ?_ q
  unfold lstE
  rw [e1]
theorem wp_callE {sem : List D → Mu → Option (D × Mu)} {a : Am} (h : wp (a env μ) fun xs μ1 => wp (sem xs μ1) Q) : wp (callE sem a env μ) Q := by
  obtain ⟨xs, μ1, e1, z, μ2, e2, q⟩ := h
  refine wp_eq (a := z) (μ := μ2) ?_ q
  unfold callE
  rw [e1]; exact e2
theorem wp_metE {m : D → List D → Mu → Option (D × Mu)} {a : Am} (h : wp (f env μ) fun x μ1 => wp (a env μ1) fun xs μ2 => wp (m x xs μ2) Q) : wp (metE m f a env μ) Q := by
  obtain ⟨x, μ1, e1, xs, μ2, e2, z, μ3, e3, q⟩ := h
  refine wp_eq (a := z) (μ := μ3) ?_ q
  unfold metE
  rw [e1]; simp only; rw [e2]; exact e3
theorem wp_lstRecv {l : Nat} {xs : List D} (h : wp (f env μ) fun x μ1 => ∃ l xs, x = .ref l ∧ μ1[l]? = some (.lst xs) ∧ Q (.ref l) μ1) : wp (lstRecv f env μ) Q := by
  obtain ⟨x, μ1, e1, l, xs, rfl, hl, q⟩ := h
  refine wp_eq (a := .ref l) (μ := μ1) ?_ q
  unfold lstRecv
  rw [e1]; simp only; rw [hl]
theorem wp_isi {T : String} (h : wp (f env μ) fun x μ1 => ∃ t, tyD μ1 x = some t ∧ Q (.bl (isiT t T)) μ1) : wp (isiE T f env μ) Q := by
  obtain ⟨x, μ1, e1, t, ht, q⟩ := h
  refine wp_eq (a := .bl (isiT t T)) (μ := μ1) ?_ q
  unfold isiE
  rw [e1]; simp only; rw [ht]
theorem wp_int2 {C : Int → Int → Bool} {o : Int → Int → D} {a b : Int} (h : C a b = true) (q : Q (o a b) μ) : wp (arI C o (.int a) (.int b) μ) Q := by
  refine wp_eq (a := o a b) (μ := μ) ?_ q
  show (if C a b = true then some (o a b, μ) else none) = _
  rw [if_pos h]
theorem wp_add {a b : Int} (q : Q (.int (a + b)) μ) : wp (addD (.int a) (.int b) μ) Q := wp_eq rfl q
theorem wp_sub {a b : Int} (q : Q (.int (a - b)) μ) : wp (subD (.int a) (.int b) μ) Q := wp_int2 rfl q
theorem wp_lt {a b : Int} (q : Q (.bl (decide (a < b))) μ) : wp (ltD (.int a) (.int b) μ) Q := wp_int2 rfl q
theorem wp_le {a b : Int} (q : Q (.bl (decide (a ≤ b))) μ) : wp (leD (.int a) (.int b) μ) Q := wp_int2 rfl q
theorem wp_gt {a b : Int} (q : Q (.bl (decide (b < a))) μ) : wp (gtD (.int a) (.int b) μ) Q := wp_int2 rfl q
theorem wp_ge {a b : Int} (q : Q (.bl (decide (b ≤ a))) μ) : wp (geD (.int a) (.int b) μ) Q := wp_int2 rfl q
theorem wp_mod {a b : Int} (h : 0 < b) (q : Q (.int (a % b)) μ) : wp (modD (.int a) (.int b) μ) Q := wp_int2 (decide_eq_true h) q
theorem wp_fdiv {a b : Int} (h : 0 < b) (h2 : b < 1073741824) (q : Q (.int (a / b)) μ) : wp (fdivD (.int a) (.int b) μ) Q := wp_int2 (by simp [h, h2]) q
theorem wp_pow {a b : Int} (h : (decide (0 ≤ b) && decide (b ≤ 1000000) && decide (a.natAbs < 2 ^ 64)) = true) (q : Q (.int (a ^ b.toNat)) μ) : wp (powD (.int a) (.int b) μ) Q := wp_int2 h q
theorem wp_mul {a b : Int} (h : mulG a b = true) (q : Q (.int (a * b)) μ) : wp (mulD (.int a) (.int b) μ) Q := by
  refine wp_eq (a := .int (a * b)) (μ := μ) ?_ q
  show (if mulG a b = true then _ else none) = _
  rw [if_pos h]
theorem mulG_l {a b : Int} (h1 : -(2 ^ 64) < a) (h2 : a < 2 ^ 64) : mulG a b = true := by
  have h : a.natAbs < 2 ^ 64 := by omega
  simp [mulG, h]
theorem mulG_r {a b : Int} (h1 : -(2 ^ 64) < b) (h2 : b < 2 ^ 64) : mulG a b = true := by
  have h : b.natAbs < 2 ^ 64 := by omega
  simp [mulG, h]
theorem wp_eqI {a b : Int} (q : Q (.bl (a == b)) μ) : wp (eqD (.int a) (.int b) μ) Q := by
  refine wp_eq (a := .bl (a == b)) (μ := μ) ?_ q
  simp [eqD, pyD, PyData.eqv]
theorem wp_neI {a b : Int} (q : Q (.bl (!(a == b))) μ) : wp (neD (.int a) (.int b) μ) Q := by
  refine wp_eq (a := .bl (!(a == b))) (μ := μ) ?_ q
  simp [neD, pyD, PyData.eqv]
theorem wp_ixL {l : Nat} {xs : List D} {k : Int} (hl : μ[l]? = some (.lst xs)) (h : atI xs k = some d) (q : Q d μ) : wp (ixD (.ref l) (.int k) μ) Q := by
  refine wp_eq (a := d) (μ := μ) ?_ q
  unfold ixD itemsD
  simp only
  rw [hl]; simp only; rw [h]
theorem wp_ixT {xs : List D} {k : Int} (h : atI xs k = some d) (q : Q d μ) : wp (ixD (.tup xs) (.int k) μ) Q := by
  refine wp_eq (a := d) (μ := μ) ?_ q
  unfold ixD itemsD
  simp only
  rw [h]
theorem wp_ixF {xs : List D} {k : Int} (h : atI xs k = some d) (q : Q d μ) : wp (ixD (.fl xs) (.int k) μ) Q := by
  refine wp_eq (a := d) (μ := μ) ?_ q
  unfold ixD itemsD
  simp only
  rw [h]
theorem wp_lenT {xs : List D} (q : Q (.int (xs.length : Nat)) μ) : wp (lenB [.tup xs] μ) Q := wp_eq rfl q
theorem wp_lenF {xs : List D} (q : Q (.int (xs.length : Nat)) μ) : wp (lenB [.fl xs] μ) Q := wp_eq rfl q
theorem wp_lenL {l : Nat} {xs : List D} (hl : μ[l]? = some (.lst xs)) (q : Q (.int (xs.length : Nat)) μ) : wp (lenB [.ref l] μ) Q := by
  refine wp_eq (a := .int (xs.length : Nat)) (μ := μ) ?_ q
  unfold lenB itemsD
  simp only
  rw [hl]
theorem wp_absB {a : Int} (q : Q (.int (if a < 0 then -a else a)) μ) : wp (absB [.int a] μ) Q := wp_eq rfl q
theorem wp_tupL {l : Nat} {xs : List D} (hl : μ[l]? = some (.lst xs)) (q : Q (.tup xs) μ) : wp (tupB [.ref l] μ) Q := by
  refine wp_eq (a := .tup xs) (μ := μ) ?_ q
  unfold tupB
  simp only
  rw [hl]
theorem wp_app {l : Nat} {xs : List D} {y : D} (hl : μ[l]? = some (.lst xs)) (hz : xs.length < 1000000) (q : Q .non (μ.set l (.lst (xs ++ [y])))) : wp (appM (.ref l) [y] μ) Q := by
  refine wp_eq (a := .non) (μ := μ.set l (.lst (xs ++ [y]))) ?_ q
  unfold appM
  simp only
  rw [hl]; simp only; rw [if_pos hz]
theorem wp_slF {xs : List D} {lo hi : Option Int} (q : Q (.ref μ.length) (μ ++ [.lst (cutD xs lo hi)])) : wp (slD (.fl xs) lo hi μ) Q := wp_eq rfl q
theorem wp_slT {xs : List D} {lo hi : Option Int} (q : Q (.tup (cutD xs lo hi)) μ) : wp (slD (.tup xs) lo hi μ) Q := wp_eq rfl q
theorem wp_noP {Q : Option Int → Mu → Prop} (q : Q none μ) : wp (noP env μ) Q := wp_eq rfl q
theorem wp_somP {Q : Option Int → Mu → Prop} (h : wp (f env μ) fun x μ1 => ∃ i, x = .int i ∧ Q (some i) μ1) : wp (somP f env μ) Q := by
  obtain ⟨x, μ1, e1, i, rfl, q⟩ := h
  refine wp_eq (a := some i) (μ := μ1) ?_ q
  unfold somP
  rw [e1]
theorem wp_slE {a b : Pm} (h : wp (f env μ) fun x μ1 => wp (a env μ1) fun lo μ2 => wp (b env μ2) fun hi μ3 => wp (slD x lo hi μ3) Q) : wp (slE f a b env μ) Q := by
  obtain ⟨x, μ1, e1, lo, μ2, e2, hi, μ3, e3, z, μ4, e4, q⟩ := h
  refine wp_eq (a := z) (μ := μ4) ?_ q
  unfold slE
  rw [e1]; simp only; rw [e2]; simp only; rw [e3]; exact e4
theorem wp_nm {Q : Env → Mu → Prop} (q : Q (env.set i (some d)) μ) : wp (nmG i d env μ) Q := wp_eq rfl q
theorem wp_tupG2 {Q : Env → Mu → Prop} {i j : Nat} {x y : D} (q : Q ((env.set i (some x)).set j (some y)) μ) : wp (tupG 2 (consG (nmG i) (consG (nmG j) nilG)) (.tup [x, y]) env μ) Q := wp_eq rfl q
theorem wp_subG {Q : Env → Mu → Prop} (h : wp (f env μ) fun x μ1 => wp (g env μ1) fun y μ2 => ∃ l k xs j, x = .ref l ∧ y = .int k ∧ μ2[l]? = some (.lst xs) ∧ ixN xs.length k = some j ∧ Q env (μ2.set l (.lst (xs.set j d)))) : wp (subG f g d env μ) Q := by
  obtain ⟨x, μ1, e1, y, μ2, e2, l, k, xs, j, rfl, rfl, hl, hj, q⟩ := h
  refine wp_eq (a := env) (μ := μ2.set l (.lst (xs.set j d))) ?_ q
  unfold subG
  rw [e1]; simp only; rw [e2]; simp only [setD]; rw [hl]; simp only; rw [hj]
end
section
variable {N : Env → Mu → Prop} {Rt : D → Mu → Prop} {B C : Env → Mu → Prop} {μ : Mu} {env : Env} {f : Sm} {s t : Bm}
theorem ws_seq (h : ws (s env μ) (fun e1 μ1 => ws (t e1 μ1) N Rt B C) Rt B C) : ws (seqS s t env μ) N Rt B C := by
  obtain ⟨fl, μ1, e1, q⟩ := h
  unfold seqS
  rw [e1]
  cases fl with
  | nx e => exact q
  | rt d => exact ⟨_, _, rfl, q⟩
  | bk e => exact ⟨_, _, rfl, q⟩
  | ct e => exact ⟨_, _, rfl, q⟩
theorem ws_sk (q : N env μ) : ws (skS env μ) N Rt B C := ⟨_, _, rfl, q⟩
theorem ws_bk (q : B env μ) : ws (bkS env μ) N Rt B C := ⟨_, _, rfl, q⟩
theorem ws_ct (q : C env μ) : ws (ctS env μ) N Rt B C := ⟨_, _, rfl, q⟩
theorem ws_ret (h : wp (f env μ) Rt) : ws (retS f env μ) N Rt B C := by
  obtain ⟨d, μ1, e1, q⟩ := h
  refine ⟨.rt d, μ1, ?_, q⟩
  unfold retS
  rw [e1]
theorem ws_drop (h : wp (f env μ) fun _ μ1 => N env μ1) : ws (dropS f env μ) N Rt B C := by
  obtain ⟨d, μ1, e1, q⟩ := h
  refine ⟨.nx env, μ1, ?_, q⟩
  unfold dropS
  rw [e1]
theorem ws_asg {g : Gm} (h : wp (f env μ) fun d μ1 => wp (g d env μ1) N) : ws (asgS f g env μ) N Rt B C := by
  obtain ⟨d, μ1, e1, e2, μ2, e3, q⟩ := h
  refine ⟨.nx e2, μ2, ?_, q⟩
  unfold asgS
  rw [e1]; simp only; rw [e3]
theorem ws_par {i j : Nat} {a : Am} (h : wp (a env μ) fun ds μ1 => ∃ x y, ds = [x, y] ∧ N ((env.set i (some x)).set j (some y)) μ1) : ws (parS i j a env μ) N Rt B C := by
  obtain ⟨ds, μ1, e1, x, y, rfl, q⟩ := h
  refine ⟨.nx _, μ1, ?_, q⟩
  unfold parS
  rw [e1]
theorem ws_if {c : Tm} (h : wp (c env μ) fun b μ1 => if b = true then ws (s env μ1) N Rt B C else ws (t env μ1) N Rt B C) : ws (ifS c s t env μ) N Rt B C := by
  obtain ⟨b, μ1, e1, q⟩ := h
  unfold ifS
  rw [e1]; simp only
  cases b with
  | false => rw [if_neg Bool.false_ne_true] at q ⊢; exact q
  | true => rw [if_pos rfl] at q ⊢; exact q
theorem wp_def {Q : D → Mu → Prop} {np n : Nat} {ds : List D} (hl : ds.length = np) (h : ws (s (ds.map some ++ List.replicate (n - np) none) μ) (fun _ μ1 => Q .non μ1) Q (fun _ _ => False) (fun _ _ => False)) : wp (mkSem np n s ds μ) Q := by
  obtain ⟨fl, μ1, e1, q⟩ := h
  unfold mkSem
  rw [if_pos hl, e1]
  cases fl with
  | nx e => exact wp_eq rfl q
  | rt d => exact wp_eq rfl q
  | bk e => exact q.elim
  | ct e => exact q.elim
/-- for, over items that stand still -/
theorem forGo_fix {xs : List D} {g : Gm} (I : Nat → Env → Mu → Prop) (hs : ∀ (i : Nat) (x : D) (e : Env) (m : Mu), xs[i]? = some x → I i e m → wp (g x e m) fun e1 m1 => ws (s e1 m1) (I (i + 1)) Rt N (I (i + 1)))
    (hN : ∀ e m, I xs.length e m → N e m) : ∀ (n i : Nat) (e : Env) (m : Mu), i ≤ xs.length → n = xs.length + 1 - i → I i e m → ws (forGo (fixIt xs).item g s n i e m) N Rt B C := by
  intro n
  induction n with
  | zero => intro i e m hi hn _; omega
  | succ n ih =>
    intro i e m hi hn inv
    unfold forGo
    by_cases hlt : i < xs.length
    · have ex : xs[i]? = some xs[i] := List.getElem?_eq_getElem hlt
      have e0 : (fixIt xs).item i m = some (some xs[i]) := by show some xs[i]? = _; rw [ex]
      rw [e0]; simp only
      obtain ⟨e1, m1, h1, fl, m2, h2, q⟩ := hs i _ e m ex inv
      rw [h1]; simp only; rw [h2]
      cases fl with
      | nx e2 => exact ih (i + 1) e2 m2 hlt (by omega) q
      | ct e2 => exact ih (i + 1) e2 m2 hlt (by omega) q
      | bk e2 => exact ⟨_, _, rfl, q⟩
      | rt d => exact ⟨_, _, rfl, q⟩
    · have el : i = xs.length := by omega
      have ex : xs[i]? = none := List.getElem?_eq_none_iff.mpr (by omega)
      have e0 : (fixIt xs).item i m = some none := by show some xs[i]? = _; rw [ex]
      rw [e0]
      exact ⟨_, _, rfl, hN e m (el ▸ inv)⟩
theorem ws_for_fix {fi : Im} {g : Gm} (h : wp (fi env μ) fun it μ1 => ∃ xs : List D, it = fixIt xs ∧ ∃ I : Nat → Env → Mu → Prop, I 0 env μ1 ∧
    (∀ (i : Nat) (x : D) (e : Env) (m : Mu), xs[i]? = some x → I i e m → wp (g x e m) fun e1 m1 => ws (s e1 m1) (I (i + 1)) Rt N (I (i + 1))) ∧ ∀ e m, I xs.length e m → N e m) : ws (forS fi g s env μ) N Rt B C := by
  obtain ⟨it, μ1, e1, xs, rfl, I, i0, hs, hN⟩ := h
  unfold forS
  rw [e1]
  exact forGo_fix I hs hN _ 0 env μ1 (Nat.zero_le _) rfl i0
/-- for, over a list of the store that stays -/
theorem forGo_lst {xs : List D} {l k : Nat} {g : Gm} (I : Nat → Env → Mu → Prop) (hl : ∀ i e m, I i e m → m[l]? = some (.lst xs)) (hs : ∀ (i : Nat) (x : D) (e : Env) (m : Mu), xs[i]? = some x → I i e m → wp (g x e m) fun e1 m1 => ws (s e1 m1) (I (i + 1)) Rt N (I (i + 1)))
    (hN : ∀ e m, I xs.length e m → N e m) : ∀ (n i : Nat) (e : Env) (m : Mu), i ≤ xs.length → n = xs.length + 1 - i → I i e m → ws (forGo (lstIt l k).item g s n i e m) N Rt B C := by
  intro n
  induction n with
  | zero => intro i e m hi hn _; omega
  | succ n ih =>
    intro i e m hi hn inv
    have hm := hl i e m inv
    have e0 : (lstIt l k).item i m = some xs[i]? := by unfold lstIt; simp only; rw [hm]
    unfold forGo
    by_cases hlt : i < xs.length
    · have ex : xs[i]? = some xs[i] := List.getElem?_eq_getElem hlt
      rw [e0, ex]; simp only
      obtain ⟨e1, m1, h1, fl, m2, h2, q⟩ := hs i _ e m ex inv
      rw [h1]; simp only; rw [h2]
      cases fl with
      | nx e2 => exact ih (i + 1) e2 m2 hlt (by omega) q
      | ct e2 => exact ih (i + 1) e2 m2 hlt (by omega) q
      | bk e2 => exact ⟨_, _, rfl, q⟩
      | rt d => exact ⟨_, _, rfl, q⟩
    · have el : i = xs.length := by omega
      have ex : xs[i]? = none := List.getElem?_eq_none_iff.mpr (by omega)
      rw [e0, ex]
      exact ⟨_, _, rfl, hN e m (el ▸ inv)⟩
theorem ws_for_lst {fi : Im} {g : Gm} (h : wp (fi env μ) fun it μ1 => ∃ (l : Nat) (xs : List D), it = lstIt l xs.length ∧ ∃ I : Nat → Env → Mu → Prop, I 0 env μ1 ∧ (∀ i e m, I i e m → m[l]? = some (.lst xs)) ∧
    (∀ (i : Nat) (x : D) (e : Env) (m : Mu), xs[i]? = some x → I i e m → wp (g x e m) fun e1 m1 => ws (s e1 m1) (I (i + 1)) Rt N (I (i + 1))) ∧ ∀ e m, I xs.length e m → N e m) : ws (forS fi g s env μ) N Rt B C := by
  obtain ⟨it, μ1, e1, l, xs, rfl, I, i0, hl, hs, hN⟩ := h
  unfold forS
  rw [e1]
  exact forGo_lst I hl hs hN _ 0 env μ1 (Nat.zero_le _) rfl i0
/-- enumerate over such -/
theorem forGo_enum {xs : List D} {l k : Nat} {g : Gm} (I : Nat → Env → Mu → Prop) (hl : ∀ i e m, I i e m → m[l]? = some (.lst xs)) (hs : ∀ (i : Nat) (x : D) (e : Env) (m : Mu), xs[i]? = some x → I i e m → wp (g (.tup [.int (i : Nat), x]) e m) fun e1 m1 => ws (s e1 m1) (I (i + 1)) Rt N (I (i + 1)))
    (hN : ∀ e m, I xs.length e m → N e m) : ∀ (n i : Nat) (e : Env) (m : Mu), i ≤ xs.length → n = xs.length + 1 - i → I i e m → ws (forGo (enumIt l k).item g s n i e m) N Rt B C := by
  intro n
  induction n with
  | zero => intro i e m hi hn _; omega
  | succ n ih =>
    intro i e m hi hn inv
    have hm := hl i e m inv
    unfold forGo
    by_cases hlt : i < xs.length
    · have ex : xs[i]? = some xs[i] := List.getElem?_eq_getElem hlt
      have e0 : (enumIt l k).item i m = some (some (.tup [.int (i : Nat), xs[i]])) := by unfold enumIt; simp only; rw [hm]; simp only; rw [ex]
      rw [e0]; simp only
      obtain ⟨e1, m1, h1, fl, m2, h2, q⟩ := hs i _ e m ex inv
      rw [h1]; simp only; rw [h2]
      cases fl with
      | nx e2 => exact ih (i + 1) e2 m2 hlt (by omega) q
      | ct e2 => exact ih (i + 1) e2 m2 hlt (by omega) q
      | bk e2 => exact ⟨_, _, rfl, q⟩
      | rt d => exact ⟨_, _, rfl, q⟩
    · have el : i = xs.length := by omega
      have ex : xs[i]? = none := List.getElem?_eq_none_iff.mpr (by omega)
      have e0 : (enumIt l k).item i m = some none := by unfold enumIt; simp only; rw [hm]; simp only; rw [ex]
      rw [e0]
      exact ⟨_, _, rfl, hN e m (el ▸ inv)⟩
theorem ws_for_enum {fi : Im} {g : Gm} (h : wp (fi env μ) fun it μ1 => ∃ (l : Nat) (xs : List D), it = enumIt l xs.length ∧ ∃ I : Nat → Env → Mu → Prop, I 0 env μ1 ∧ (∀ i e m, I i e m → m[l]? = some (.lst xs)) ∧
    (∀ (i : Nat) (x : D) (e : Env) (m : Mu), xs[i]? = some x → I i e m → wp (g (.tup [.int (i : Nat), x]) e m) fun e1 m1 => ws (s e1 m1) (I (i + 1)) Rt N (I (i + 1))) ∧ ∀ e m, I xs.length e m → N e m) : ws (forS fi g s env μ) N Rt B C := by
  obtain ⟨it, μ1, e1, l, xs, rfl, I, i0, hl, hs, hN⟩ := h
  unfold forS
  rw [e1]
  exact forGo_enum I hl hs hN _ 0 env μ1 (Nat.zero_le _) rfl i0
end
section
variable {μ : Mu} {env : Env} {f : Sm} {Q : ItD → Mu → Prop}
theorem wp_rng1 {a : Am} (h : wp (a env μ) fun ds μ1 => ∃ j : Int, ds = [.int j] ∧ -(2 ^ 62) ≤ j ∧ j < 2 ^ 62 ∧ Q (fixIt ((List.range j.toNat).map fun k : Nat => D.int (0 + k))) μ1) : wp (rng1 a env μ) Q := by
  obtain ⟨ds, μ1, e1, j, rfl, h1, h2, q⟩ := h
  refine wp_eq (a := _) (μ := μ1) ?_ q
  unfold rng1
  rw [e1]; simp only; rw [if_pos ⟨h1, h2⟩]
theorem wp_seqIT (h : wp (f env μ) fun d μ1 => ∃ xs, d = .tup xs ∧ Q (fixIt xs) μ1) : wp (seqI f env μ) Q := by
  obtain ⟨d, μ1, e1, xs, rfl, q⟩ := h
  refine wp_eq (a := _) (μ := μ1) ?_ q
  unfold seqI
  rw [e1]
theorem wp_seqIL (h : wp (f env μ) fun d μ1 => ∃ l xs, d = .ref l ∧ μ1[l]? = some (.lst xs) ∧ Q (lstIt l xs.length) μ1) : wp (seqI f env μ) Q := by
  obtain ⟨d, μ1, e1, l, xs, rfl, hl, q⟩ := h
  refine wp_eq (a := _) (μ := μ1) ?_ q
  unfold seqI
  rw [e1]; simp only; rw [hl]
theorem wp_enumI {a : Am} (h : wp (a env μ) fun ds μ1 => ∃ l xs, ds = [.ref l] ∧ μ1[l]? = some (.lst xs) ∧ Q (enumIt l xs.length) μ1) : wp (enumI a env μ) Q := by
  obtain ⟨ds, μ1, e1, l, xs, rfl, hl, q⟩ := h
  refine wp_eq (a := _) (μ := μ1) ?_ q
  unfold enumI
  rw [e1]; simp only; rw [hl]
theorem wp_zipI {a : Am} (h : wp (a env μ) fun ds μ1 => ∃ xs ys, ds = [.tup xs, .tup ys] ∧ Q (zipIt xs ys) μ1) : wp (zipI a env μ) Q := by
  obtain ⟨ds, μ1, e1, xs, ys, rfl, q⟩ := h
  refine wp_eq (a := _) (μ := μ1) ?_ q
  unfold zipI
  rw [e1]
theorem compGo_by {it : Nat → Mu → Option (Option D)} {xs : List D} {g : Gm} {tt : Tm} {fe : Sm} {l : Nat} {Qm : Mu → Prop} (I : Nat → Mu → List D → Prop)
    (hit : ∀ i m acc, I i m acc → it i m = some xs[i]?) (hl : ∀ i m acc, I i m acc → m[l]? = some (.lst acc) ∧ acc.length ≤ i) (hx : xs.length < 1000000)
    (hs : ∀ (i : Nat) (x : D) (m : Mu) (acc : List D), xs[i]? = some x → I i m acc → wp (g x env m) fun e1 m1 => wp (tt e1 m1) fun b m2 => if b = true then wp (fe e1 m2) fun y m3 => m3[l]? = some (.lst acc) ∧ I (i + 1) (m3.set l (.lst (acc ++ [y]))) (acc ++ [y]) else I (i + 1) m2 acc)
    (hN : ∀ m acc, I xs.length m acc → Qm m) : ∀ (n i : Nat) (m : Mu) (acc : List D), i ≤ xs.length → n = xs.length + 1 - i → I i m acc → ∃ m', compGo it g tt fe l env n i m = some m' ∧ Qm m' := by
  intro n
  induction n with
  | zero => intro i m acc hi hn _; omega
  | succ n ih =>
    intro i m acc hi hn inv
    have e0 := hit i m acc inv
    unfold compGo
    by_cases hlt : i < xs.length
    · have ex : xs[i]? = some xs[i] := List.getElem?_eq_getElem hlt
      rw [e0, ex]; simp only
      obtain ⟨e1, m1, h1, b, m2, h2, q⟩ := hs i _ m acc ex inv
      rw [h1]; simp only; rw [h2]; simp only
      cases b with
      | true =>
        rw [if_pos rfl] at q ⊢
        obtain ⟨y, m3, h3, h4, q⟩ := q
        have hacc := (hl i m acc inv).2
        rw [h3]; simp only; rw [h4]; simp only; rw [if_pos (by omega)]
        exact ih (i + 1) _ _ hlt (by omega) q
      | false =>
        rw [if_neg Bool.false_ne_true] at q ⊢
        exact ih (i + 1) m2 acc hlt (by omega) q
    · have el : i = xs.length := by omega
      have ex : xs[i]? = none := List.getElem?_eq_none_iff.mpr (by omega)
      rw [e0, ex]
      exact ⟨m, rfl, hN m acc (el ▸ inv)⟩
theorem wp_lc {Q : D → Mu → Prop} {fi : Im} {g : Gm} {tt : Tm} {fe : Sm} {vs : List Nat} (h : wp (fi env μ) fun it μ1 => ∃ xs : List D, it.fuel = xs.length + 1 ∧ xs.length < 1000000 ∧ ∃ I : Nat → Mu → List D → Prop, I 0 (μ1 ++ [.lst []]) [] ∧
    (∀ i m acc, I i m acc → it.item i m = some xs[i]?) ∧ (∀ i m acc, I i m acc → m[μ1.length]? = some (.lst acc) ∧ acc.length ≤ i) ∧
    (∀ (i : Nat) (x : D) (m : Mu) (acc : List D), xs[i]? = some x → I i m acc → wp (g x (wipeE env vs) m) fun e1 m1 => wp (tt e1 m1) fun b m2 => if b = true then wp (fe e1 m2) fun y m3 => m3[μ1.length]? = some (.lst acc) ∧ I (i + 1) (m3.set μ1.length (.lst (acc ++ [y]))) (acc ++ [y]) else I (i + 1) m2 acc) ∧
    ∀ m acc, I xs.length m acc → Q (.ref μ1.length) m) : wp (lcE fi g tt fe vs env μ) Q := by
  obtain ⟨it, μ1, e1, xs, hf, hx, I, i0, hit, hl, hs, hN⟩ := h
  obtain ⟨m', e2, q⟩ := compGo_by (it := it.item) (l := μ1.length) (Qm := fun m => Q (.ref μ1.length) m) I hit hl hx hs hN (it.fuel) 0 (μ1 ++ [.lst []]) [] (Nat.zero_le _) (by rw [hf]; rfl) i0
  refine wp_eq (a := .ref μ1.length) (μ := m') ?_ q
  unfold lcE
  rw [e1]; simp only; rw [e2]
theorem wp_yes {Q : Bool → Mu → Prop} (q : Q true μ) : wp (yesT env μ) Q := wp_eq rfl q
end
theorem wp_dctE {Q : D → Mu → Prop} {env : Env} {μ : Mu} {f : Km} (h : wp (f env (μ ++ [.dct []])) fun kvs m => m[μ.length]? = some (.dct []) ∧ Q (.ref μ.length) (m.set μ.length (.dct (mergeD [] kvs)))) : wp (dctE f env μ) Q := by
  obtain ⟨kvs, m, e, h1, q⟩ := h
  refine wp_eq (a := .ref μ.length) (μ := m.set μ.length (.dct (mergeD [] kvs))) ?_ q
  unfold dctE
  rw [e]; simp only; rw [h1]
theorem wp_nilP {Q : List (Key × D) → Mu → Prop} {env : Env} {μ : Mu} (q : Q [] μ) : wp (nilP env μ) Q := wp_eq rfl q
theorem wp_consP {Q : List (Key × D) → Mu → Prop} {env : Env} {μ : Mu} {fk fv : Sm} {r : Km} (h : wp (fk env μ) fun k μ1 => ∃ x, k = .str x ∧ wp (fv env μ1) fun d μ2 => wp (r env μ2) fun kvs μ3 => Q ((.inr x, d) :: kvs) μ3) : wp (consP fk fv r env μ) Q := by
  obtain ⟨k, μ1, e1, x, rfl, d, μ2, e2, kvs, μ3, e3, q⟩ := h
  refine wp_eq (a := (.inr x, d) :: kvs) (μ := μ3) ?_ q
  unfold consP
  rw [e1]; simp only [keyD]; rw [e2]; simp only; rw [e3]
theorem wp_dctRecv {Q : D → Mu → Prop} {env : Env} {μ : Mu} {f : Sm} (h : wp (f env μ) fun x μ1 => ∃ l kvs, x = .ref l ∧ μ1[l]? = some (.dct kvs) ∧ Q (.ref l) μ1) : wp (dctRecv f env μ) Q := by
  obtain ⟨x, μ1, e1, l, xs, rfl, hl, q⟩ := h
  refine wp_eq (a := .ref l) (μ := μ1) ?_ q
  unfold dctRecv
  rw [e1]; simp only; rw [hl]
theorem wp_updM {Q : D → Mu → Prop} {μ : Mu} {l m : Nat} {kvs more : List (Key × D)} (hl : μ[l]? = some (.dct kvs)) (hm : μ[m]? = some (.dct more)) (hne : l ≠ m) (hz : kvs.length + more.length ≤ 1000000) (q : Q .non (μ.set l (.dct (mergeD kvs more)))) : wp (updM (.ref l) [.ref m] μ) Q := by
  refine wp_eq (a := .non) (μ := μ.set l (.dct (mergeD kvs more))) ?_ q
  unfold updM
  simp only
  rw [if_neg hne, hl, hm]; simp only; rw [if_pos hz]
theorem wp_dget {Q : D → Mu → Prop} {μ : Mu} {l : Nat} {kvs : List (Key × D)} {x : Str} {d : D} (hl : μ[l]? = some (.dct kvs)) (h : valD kvs (.inr x) = some d) (q : Q d μ) : wp (dgetD (.ref l) (.str x) μ) Q := by
  refine wp_eq (a := d) (μ := μ) ?_ q
  unfold dgetD
  simp only [keyD]
  rw [hl]; simp only; rw [h]
theorem wp_catL {Q : D → Mu → Prop} {μ : Mu} {l m : Nat} {xs ys : List D} (hl : μ[l]? = some (.lst xs)) (hm : μ[m]? = some (.lst ys)) (hz : xs.length + ys.length ≤ 1000000) (q : Q (.ref μ.length) (μ ++ [.lst (xs ++ ys)])) : wp (addD (.ref l) (.ref m) μ) Q := by
  refine wp_eq (a := .ref μ.length) (μ := μ ++ [.lst (xs ++ ys)]) ?_ q
  unfold addD
  simp only
  rw [hl, hm]; simp only; rw [if_pos hz]
end CW

namespace CW
open PySem PySem.Spec PyProof.Rows L2
section
variable {X : Cx} {o e : Expr} {es : List Expr} {fo : Sm} {g : Am} {apos cpos : Pos}
end
end CW

namespace CW
open PySem PySem.Spec PyProof.Rows L2
open Sem (wp)
open AutoSeq1 (wpAny_loadPart')
section
variable {prog : Program} {w : World} {A : Around} {E : Value → Shared → Prop} {s : Shared}
end
def enumD (xs : List D) : List D := xs.mapIdx fun i x => D.tup [.int (i : Nat), x]
def enumTI (g : Am) : Im := fun env μ => match g env μ with
  | some ([.tup xs], μ1) => some (fixIt (enumD xs), μ1)
  | _ => none
theorem enumD_get {xs : List D} {i : Nat} : (enumD xs)[i]? = match xs[i]? with
    | some x => some (.tup [.int (i : Nat), x])
    | none => none := by
  unfold enumD
  rw [List.getElem?_mapIdx]
  cases xs[i]? <;> rfl
section
variable {X : Cx} {e : Expr}
end
theorem wp_enumTI {env : Env} {μ : Mu} {Q : ItD → Mu → Prop} {a : Am} (h : CW.wp (a env μ) fun ds μ1 => ∃ xs, ds = [.tup xs] ∧ Q (fixIt (enumD xs)) μ1) : CW.wp (enumTI a env μ) Q := by
  obtain ⟨ds, μ1, e1, xs, rfl, q⟩ := h
  refine wp_eq (a := _) (μ := μ1) ?_ q
  unfold enumTI
  rw [e1]
end CW

namespace CW
open PySem PySem.Spec PyProof.Rows L2
section
variable {X : Cx} {a : Expr} {pos : Pos}
end
section
variable {X : Cx} {o e : Expr} {es : List Expr} {fo : Sm} {g : Am} {apos cpos : Pos}
end
end CW

namespace CW
open PySem PySem.Spec PyProof.Rows L2
/-- a def that may be called as a value -/
structure FnV (P : Program) (w : World) (K : PySem.W.Frag) (mg : Str → Option Value) (base : Heap) (k : Nat) (x : Str) (sem : List D → Mu → Option (D × Mu)) : Prop where
  ex : ∃ fa fd ps, FnOk P w K mg base CX0 k fa fd ps (spD K sem) ∧ PySem.W.nsIn K mainGlobals x = some (some (.ref fa)) ∧ PySem.W.keepIn K (.ref fa) = true ∧ Binds K fd ps []
abbrev Tab := List (Str × (List D → Mu → Option (D × Mu)))
def semOf (tab : Tab) (x : Str) : Option (List D → Mu → Option (D × Mu)) := (tab.find? fun p => p.1 == x).map (·.2)
def callV (tab : Tab) (f : Sm) (g : Am) : Sm := fun env μ => match f env μ with
  | some (.fn x, μ1) => match semOf tab x with
    | some sem => callE sem g env μ1
    | none => none
  | _ => none
section
variable {X : Cx} {k : Nat} {x : Str} {e : Expr} {es : List Expr} {p pos : Pos} {g : Am} {f : Sm}
end
theorem wp_callV {Q : D → Mu → Prop} {env : Env} {μ : Mu} {tab : Tab} {f : Sm} {a : Am} (h : wp (f env μ) fun d m1 => ∃ x sem, d = .fn x ∧ semOf tab x = some sem ∧ wp (callE sem a env m1) Q) : wp (callV tab f a env μ) Q := by
  obtain ⟨d, m1, e1, x, sem, rfl, e2, z, m2, e3, q⟩ := h
  refine wp_eq (a := z) (μ := m2) ?_ q
  unfold callV
  rw [e1]; simp only; rw [e2]; exact e3
end CW

namespace CW
open PySem PySem.Spec PyProof.Rows L2
def putFD (f : Str) (d : D) : List (Str × D) → List (Str × D)
  | [] => [(f, d)]
  | (k, x) :: r => if k = f then (k, d) :: r else (k, x) :: putFD f d r
section
variable {K : PySem.W.Frag} {R : List Addr} {H : Hp}
theorem RFs.get {f : Str} : ∀ {ds : List (Str × D)} {vs : List (Str × V)} {d : D}, RFs K R H ds vs → ds.lookup f = some d → ∃ v, vs.lookup f = some v ∧ RD K R H d v
  | _, _, _, .nil, e => by cases e
  | _, _, d, .cons (f := g) r t, e => by
    rw [List.lookup_cons] at e ⊢
    cases h : f == g with
    | true => rw [h] at e; cases e; exact ⟨_, rfl, r⟩
    | false => rw [h] at e; exact RFs.get t e
theorem RFs.length : ∀ {ds : List (Str × D)} {vs : List (Str × V)}, RFs K R H ds vs → ds.length = vs.length
  | _, _, .nil => rfl
  | _, _, .cons _ t => by simp [RFs.length t]
end
/-- a class of the text: what its objects need -/
structure ClsK (K : PySem.W.Frag) (c : Str) (flds : List Str) : Prop where
  ex : ∃ C, PySem.W.nsIn K mainGlobals c = some (some (.ref C)) ∧ Cls K C ∧ ∀ f ∈ flds, NoAttr K C f
/-- o.f -/
def fldD (c f : Str) (x : D) (μ : Mu) : Option (D × Mu) := match x with
  | .ref l => match μ[l]? with
    | some (.obj c' fs) => if c' = c then match fs.lookup f with
        | some d => some (d, μ)
        | none => none
      else none
    | _ => none
  | _ => none
/-- o.f = d -/
def putO (c f : Str) (x d : D) (μ : Mu) : Option Mu := match x with
  | .ref l => match μ[l]? with
    | some (.obj c' fs) => if c' = c then (if fs.length < 1000 then some (μ.set l (.obj c' (putFD f d fs))) else none) else none
    | _ => none
  | _ => none
def fldS (c f : Str) (fv fo : Sm) : Bm := fun env μ => match fv env μ with
  | none => none
  | some (d, μ1) => match fo env μ1 with
    | none => none
    | some (x, μ2) => match putO c f x d μ2 with
      | none => none
      | some μ3 => some (.nx env, μ3)
def fldG (c f : Str) (fo : Sm) : Gm := fun d env μ => match fo env μ with
  | none => none
  | some (x, μ1) => match putO c f x d μ1 with
    | none => none
    | some μ2 => some (env, μ2)
section
variable {X : Cx} {c f : Str} {flds : List Str} {o value : Expr} {fo fv : Sm} {pos pos' : Pos}
end
/-- a method of a class, called with the defaults dfs behind what is handed in -/
structure MtK (P : Program) (w : World) (K : PySem.W.Frag) (mg : Str → Option Value) (base : Heap) (k : Nat) (c m : Str) (sem : List D → Mu → Option (D × Mu)) (dfs : List D) : Prop where
  ex : ∃ C g fd ps dvs us, PySem.W.nsIn K mainGlobals c = some (some (.ref C)) ∧ Cls K C ∧ Meth K C m g ∧ FnOk P w K mg base CX0 k g fd ps (spD K sem) ∧ Binds K fd ps us ∧ Vals dvs us ∧ ∀ R H, RDs K R H dfs dvs
def metO (c m : Str) (sem : List D → Mu → Option (D × Mu)) (dfs : List D) (fo : Sm) (g : Am) : Sm := fun env μ => match fo env μ with
  | some (.ref l, μ1) => match μ1[l]? with
    | some (.obj c' fs) => if c' = c then match fs.lookup m with
        | some _ => none
        | none => match g env μ1 with
          | some (ds, μ2) => sem (.ref l :: (ds ++ dfs)) μ2
          | none => none
      else none
    | _ => none
  | _ => none
section
variable {X : Cx} {c m : Str} {sem : List D → Mu → Option (D × Mu)} {dfs : List D} {o e : Expr} {es : List Expr} {fo : Sm} {g : Am} {pos apos : Pos} {k : Nat}
end
structure MkK (P : Program) (w : World) (K : PySem.W.Frag) (mg : Str → Option Value) (base : Heap) (k : Nat) (c : Str) (sem : List D → Mu → Option (D × Mu)) : Prop where
  ex : ∃ C g fd ps, PySem.W.nsIn K mainGlobals c = some (some (.ref C)) ∧ mg c = some (.ref C) ∧ Mk K C g ∧ FnOk P w K mg base CX0 k g fd ps (spD K sem) ∧ Binds K fd ps []
def makE (c : Str) (sem : List D → Mu → Option (D × Mu)) (g : Am) : Sm := fun env μ => match g env μ with
  | none => none
  | some (ds, μ1) => match sem (.ref μ1.length :: ds) (μ1 ++ [.obj c []]) with
    | some (.non, μ2) => some (.ref μ1.length, μ2)
    | _ => none
end CW

namespace CW
open PySem PySem.Spec PyProof.Rows L2
section
variable {X : Cx} {e : Expr} {es : List Expr} {te : TE} {t : TA} {p pos : Pos}
end
def starA (f : Sm) (g : Am) : Am := fun env μ => match f env μ with
  | none => none
  | some (x, μ1) => match itemsD μ1 x with
    | none => none
    | some xs => match g env μ1 with
      | none => none
      | some (ys, μ2) => some (xs ++ ys, μ2)
def tupS (f : Am) : Sm := fun env μ => match f env μ with
  | none => none
  | some (ds, μ1) => if ds.length ≤ 1000000 then some (.tup ds, μ1) else none
def lstS (f : Am) : Sm := fun env μ => match f env μ with
  | none => none
  | some (ds, μ1) => if ds.length ≤ 1000000 then some (.ref μ1.length, μ1 ++ [.lst ds]) else none
section
variable {X : Cx} {e : Expr} {es : List Expr} {f : Sm} {g : Am} {p pos : Pos}
end
section
open PySem.AutoSeq1 (wpAny_loadPart')
open PySem.SeqAt PySem.MeetsSeq
end
section
variable {X : Cx} {o e : Expr} {es : List Expr} {fo : Sm} {g : Am} {apos cpos : Pos} {k : Nat}
end
end CW

namespace CW
open PySem PySem.Spec PyProof.Rows L2
def codesOk (K : PySem.W.Frag) : Bool := K.all fun p => kbk p || (match p.2.data with
  | .fields vs => (match vs.toList with
    | _ :: .str _ _ :: _ => false
    | _ => true)
  | _ => true)
def kOk (K : PySem.W.Frag) : Bool := ascK (K.map (·.1)) && (tabsOf K && codesOk K)
theorem kOk.asc {K : PySem.W.Frag} (h : kOk K = true) : ascK (K.map (·.1)) = true := (Bool.and_eq_true_iff.mp h).1
theorem kOk.tabs {K : PySem.W.Frag} (h : kOk K = true) : tabsOf K = true := (Bool.and_eq_true_iff.mp (Bool.and_eq_true_iff.mp h).2).1
structure FunD (K : PySem.W.Frag) (x qual : Str) (st : Stmt) (f : Addr) (fd : FuncData) (dV : Value) : Prop where
  ex : ∃ (oc : Value) (od : Option Addr) (kV doc pm : Value) (an : Option Addr) (cdv ct : Value) (osl : Array (Option Value)), fd = PySem.W.fnOf x qual (defArgs st) (defBody st) (defScope st) dV kV doc pm an cdv ct ∧ K.lookup f = some ⟨oc, od, .func fd, osl⟩ ∧ PySem.W.codeIn K cdv qual = true
  kp : PySem.W.keepIn K (.ref f) = true
theorem FnK.mono {P : Program} {w : World} {K : PySem.W.Frag} {mg : Str → Option Value} {base : Heap} {j k : Nat} {x : Str} {sem : List D → Mu → Option (D × Mu)} (F : FnK P w K mg base j x sem) (h : j ≤ k) : FnK P w K mg base k x sem :=
  let ⟨fa, fd, ps, h1, h2, h3, h4⟩ := F.ex; ⟨fa, fd, ps, h1.mono h, h2, h3, h4⟩
theorem Fun.d {K : PySem.W.Frag} {x qual : Str} {st : Stmt} {f : Addr} {fd : FuncData} (F : Fun K x qual st f fd) : FunD K x qual st f fd .none := ⟨F.ex, F.kp⟩
end CW

namespace CW
open PySem PySem.Spec PyProof.Rows L2
end CW

namespace CW
open PySem PySem.Spec PyProof.Rows L2
def extM (x : D) (ds : List D) (μ : Mu) : Option (D × Mu) := match x, ds with
  | .ref l, [.ref b] => match μ[l]?, μ[b]? with
    | some (.lst xs), some (.lst zs) => if xs.length + zs.length < 1000000 then some (.non, μ.set l (.lst (xs ++ zs))) else none
    | _, _ => none
  | _, _ => none
section
variable {X : Cx} {o e : Expr} {es : List Expr} {fo : Sm} {g : Am} {apos cpos : Pos}
end
end CW

namespace CW
open PySem PySem.Spec PyProof.Rows L2
def enumBI (g : Am) : Im := fun env μ => match g env μ with
  | some ([.tup xs], μ1) => some (fixIt (enumD xs), μ1)
  | some ([.ref l], μ1) => match μ1[l]? with
    | some (.lst xs) => some (enumIt l xs.length, μ1)
    | _ => none
  | _ => none
section
variable {X : Cx} {e : Expr}
end
theorem wp_enumBT {env : Env} {μ : Mu} {Q : ItD → Mu → Prop} {a : Am} (h : CW.wp (a env μ) fun ds μ1 => ∃ xs, ds = [.tup xs] ∧ Q (fixIt (enumD xs)) μ1) : CW.wp (enumBI a env μ) Q := by
  obtain ⟨ds, μ1, e1, xs, rfl, q⟩ := h
  refine wp_eq (a := _) (μ := μ1) ?_ q
  unfold enumBI
  rw [e1]
theorem wp_enumBL {env : Env} {μ : Mu} {Q : ItD → Mu → Prop} {a : Am} (h : CW.wp (a env μ) fun ds μ1 => ∃ l xs, ds = [.ref l] ∧ μ1[l]? = some (.lst xs) ∧ Q (enumIt l xs.length) μ1) : CW.wp (enumBI a env μ) Q := by
  obtain ⟨ds, μ1, e1, l, xs, rfl, el, q⟩ := h
  refine wp_eq (a := _) (μ := μ1) ?_ q
  unfold enumBI
  rw [e1]
  simp only [el]
end CW

namespace Lw
open PySem PySem.Spec PyProof.Rows L2 CW
def c_HOWS_AT_BOTH_ENDS : D := (.tup [(.str ("ring" : Str)), (.str ("show" : Str)), (.str ("talk" : Str)), (.str ("hold0" : Str)), (.str ("hold1" : Str))])
def sm_is_in : List D → Mu → Option (D × Mu) := mkSem 2 2 (retS (orV (bin eqD (bin ixD (vD 0) (cD (.int 0))) (vD 1)) (andV (bin eqD (bin ixD (vD 0) (cD (.int 1))) (vD 1)) (bin (inD false) (bin ixD (vD 0) (cD (.int 2))) (cD c_HOWS_AT_BOTH_ENDS)))))
def sm_is_talk_of : List D → Mu → Option (D × Mu) := mkSem 2 2 (retS (andV (bin eqD (bin ixD (vD 0) (cD (.int 2))) (cD (.str ("talk" : Str)))) (bin (inD false) (vD 1) (slE (vD 0) noP (somP (cD (.int 2)))))))
def sm_is_held_by : List D → Mu → Option (D × Mu) := mkSem 2 2 (retS (orV (andV (bin eqD (bin ixD (vD 0) (cD (.int 0))) (vD 1)) (bin eqD (bin ixD (vD 0) (cD (.int 2))) (cD (.str ("hold0" : Str))))) (andV (bin eqD (bin ixD (vD 0) (cD (.int 1))) (vD 1)) (bin eqD (bin ixD (vD 0) (cD (.int 2))) (cD (.str ("hold1" : Str)))))))
def sm_calls_of : List D → Mu → Option (D × Mu) := mkSem 2 3 (retS (tupGE (seqI (vD 0)) (nmG 2) (tst (callE sm_is_in (consA (vD 2) (consA (vD 1) nilA)))) (vD 2) [2]))
def sm_talks_of : List D → Mu → Option (D × Mu) := mkSem 2 3 (retS (tupGE (seqI (vD 0)) (nmG 2) (tst (callE sm_is_talk_of (consA (vD 2) (consA (vD 1) nilA)))) (vD 2) [2]))
def sm_holds_of : List D → Mu → Option (D × Mu) := mkSem 2 3 (retS (tupGE (seqI (vD 0)) (nmG 2) (tst (callE sm_is_held_by (consA (vD 2) (consA (vD 1) nilA)))) (vD 2) [2]))
def sm_has_free_hands : List D → Mu → Option (D × Mu) := mkSem 2 3 (retS (allE false (seqI (vD 0)) (nmG 2) (tst (callE sm_is_in (consA (vD 2) (consA (vD 1) nilA)))) (callE sm_is_held_by (consA (vD 2) (consA (vD 1) nilA))) [2]))
def sm_is_free : List D → Mu → Option (D × Mu) := mkSem 2 3 (retS (notV (allE true (seqI (vD 0)) (nmG 2) yesT (callE sm_is_in (consA (vD 2) (consA (vD 1) nilA))) [2])))
def sm_L_hand : List D → Mu → Option (D × Mu) := mkSem 1 6 (seqS (asgS (lstE (consA (cD (.int 0)) (consA (cD (.int 0)) (consA (cD (.int 0)) nilA)))) (nmG 1))
      (seqS (ifS (andT (tst (bin gtD (callE lenB (consA (vD 0) nilA)) (cD (.int 0)))) (tst (bin geD (bin ixD (vD 0) (cD (.int 0))) (bin powD (cD (.int 10)) (cD (.int 18)))))) (seqS (asgS (cD (.int 1)) (nmG 2))
      (forS (seqI (slE (vD 0) noP (somP (cD (.int 63))))) (nmG 3) (seqS (asgS (bin addD (bin ixD (vD 1) (cD (.int 0))) (bin mulD (bin modD (callE absB (consA (vD 3) nilA)) (bin powD (cD (.int 10)) (cD (.int 60)))) (vD 2))) (subG (vD 1) (cD (.int 0))))
      (asgS (bin mulD (vD 2) (bin powD (cD (.int 10)) (cD (.int 60)))) (nmG 2))))) skS)
      (seqS (forS (enumI (consA (slE (vD 0) noP (somP (cD (.int 63)))) nilA)) (tupG 2 (consG (nmG 4) (consG (nmG 3) nilG))) (seqS (asgS (bin addD (bin addD (bin modD (vD 3) (cD (.int 2305843009213693951))) (bin mulD (cD (.int 7919)) (vD 4))) (cD (.int 3))) (nmG 5))
      (asgS (bin modD (bin addD (bin mulD (bin ixD (vD 1) (cD (.int 1))) (cD (.int 48271))) (vD 5)) (cD (.int 2305843009213693951))) (subG (vD 1) (cD (.int 1))))))
      (retS (vD 1)))))
def sm_L_take : List D → Mu → Option (D × Mu) := mkSem 2 4 (seqS (ifS (tst (bin gtD (bin ixD (vD 0) (cD (.int 0))) (cD (.int 0)))) (seqS (asgS (bin modD (bin ixD (vD 0) (cD (.int 0))) (vD 1)) (nmG 3))
      (seqS (asgS (bin fdivD (bin ixD (vD 0) (cD (.int 0))) (vD 1)) (subG (vD 0) (cD (.int 0))))
      (retS (vD 3)))) skS)
      (seqS (asgS (bin addD (bin ixD (vD 0) (cD (.int 2))) (cD (.int 1))) (subG (vD 0) (cD (.int 2))))
      (seqS (asgS (bin modD (bin mulD (bin addD (bin addD (bin ixD (vD 0) (cD (.int 1))) (bin mulD (bin mulD (cD (.int 65537)) (bin ixD (vD 0) (cD (.int 2)))) (bin ixD (vD 0) (cD (.int 2))))) (cD (.int 11))) (cD (.int 48271))) (cD (.int 2305843009213693921))) (nmG 2))
      (seqS (asgS (bin modD (bin mulD (vD 2) (bin addD (bin modD (vD 2) (cD (.int 1000003))) (bin mulD (cD (.int 99991)) (bin ixD (vD 0) (cD (.int 2)))))) (cD (.int 2305843009213693907))) (nmG 2))
      (retS (bin modD (bin addD (bin fdivD (vD 2) (cD (.int 97))) (bin fdivD (vD 2) (cD (.int 1000033)))) (vD 1)))))))
def sm_L_calls : List D → Mu → Option (D × Mu) := mkSem 2 7 (seqS (asgS (lstE (consA (cD (.str ("ring" : Str))) (consA (cD (.str ("show" : Str))) (consA (cD (.str ("talk" : Str))) (consA (cD (.str ("hold0" : Str))) (consA (cD (.str ("hold1" : Str))) (consA (cD (.str ("busy" : Str))) (consA (cD (.str ("shut" : Str))) (consA (cD (.str ("back" : Str))) nilA))))))))) (nmG 2))
      (seqS (asgS (lstE nilA) (nmG 3))
      (seqS (forS (rng1 (consA (vD 1) nilA)) (nmG 4) (forS (rng1 (consA (vD 4) nilA)) (nmG 5) (ifS (tst (bin gtD (callE sm_L_take (consA (vD 0) (consA (cD (.int 3)) nilA))) (cD (.int 0)))) (seqS (asgS (bin ixD (lstE (consA (tupE (consA (vD 5) (consA (vD 4) nilA))) (consA (tupE (consA (vD 4) (consA (vD 5) nilA))) nilA))) (callE sm_L_take (consA (vD 0) (consA (cD (.int 2)) nilA)))) (nmG 6))
      (dropS (metE appM (lstRecv (vD 3)) (consA (bin addD (vD 6) (tupE (consA (bin ixD (vD 2) (callE sm_L_take (consA (vD 0) (consA (cD (.int 8)) nilA)))) (consA (callE sm_L_take (consA (vD 0) (consA (cD (.int 2)) nilA))) nilA)))) nilA)))) skS)))
      (retS (callE tupB (consA (callE srtB (consA (vD 3) nilA)) nilA))))))
def sm_L_same : Nat → List D → Mu → Option (D × Mu)
  | 0 => fun _ _ => none
  | n + 1 => mkSem 2 4 (seqS (ifS (tst (isiE "tuple" (vD 1))) (seqS (ifS (orT (notT (tst (isiE "tuple" (vD 0)))) (tst (bin neD (callE lenB (consA (vD 0) nilA)) (callE lenB (consA (vD 1) nilA))))) (retS (cD (.bl false))) skS)
      (retS (callE (allB false) (consA (lcE (zipI (consA (vD 0) (consA (vD 1) nilA))) (tupG 2 (consG (nmG 2) (consG (nmG 3) nilG))) yesT (callE (sm_L_same n) (consA (vD 2) (consA (vD 3) nilA))) [2, 3]) nilA)))) skS)
      (seqS (ifS (tst (bin (isND false) (vD 1) (cD .non))) (retS (bin (isND false) (vD 0) (cD .non))) skS)
      (seqS (ifS (tst (isiE "str" (vD 1))) (retS (andV (isiE "str" (vD 0)) (bin eqD (vD 0) (vD 1)))) skS)
      (seqS (ifS (orT (tst (isiE "bool" (vD 1))) (tst (isiE "bool" (vD 0)))) (retS (andV (isiE "bool" (vD 0)) (andV (isiE "bool" (vD 1)) (bin eqD (vD 0) (vD 1))))) skS)
      (retS (andV (isiE "int" (vD 0)) (bin eqD (vD 0) (vD 1))))))))
def sm_is_shown_to : List D → Mu → Option (D × Mu) := mkSem 2 2 (retS (andV (bin eqD (bin ixD (vD 0) (cD (.int 1))) (vD 1)) (bin eqD (bin ixD (vD 0) (cD (.int 2))) (cD (.str ("show" : Str))))))
def sm_is_ringing_at : List D → Mu → Option (D × Mu) := mkSem 2 2 (retS (orV (andV (bin eqD (bin ixD (vD 0) (cD (.int 1))) (vD 1)) (bin eqD (bin ixD (vD 0) (cD (.int 2))) (cD (.str ("ring" : Str))))) (andV (bin eqD (bin ixD (vD 0) (cD (.int 0))) (vD 1)) (bin eqD (bin ixD (vD 0) (cD (.int 2))) (cD (.str ("back" : Str)))))))
def sm_shown_to : List D → Mu → Option (D × Mu) := mkSem 2 3 (seqS (forS (seqI (vD 0)) (nmG 2) (ifS (tst (callE sm_is_shown_to (consA (vD 2) (consA (vD 1) nilA)))) (retS (vD 2)) skS))
      (retS (cD .non)))
def sm_rings_at : List D → Mu → Option (D × Mu) := mkSem 2 3 (seqS (forS (seqI (vD 0)) (nmG 2) (ifS (tst (callE sm_is_ringing_at (consA (vD 2) (consA (vD 1) nilA)))) (retS (vD 2)) skS))
      (retS (cD .non)))
def sm_between : List D → Mu → Option (D × Mu) := mkSem 3 4 (seqS (forS (seqI (vD 0)) (nmG 3) (ifS (tst (bin (inD false) (slE (vD 3) noP (somP (cD (.int 2)))) (tupE (consA (tupE (consA (vD 1) (consA (vD 2) nilA))) (consA (tupE (consA (vD 2) (consA (vD 1) nilA))) nilA))))) (retS (vD 3)) skS))
      (retS (cD .non)))
def c_OPPOSITES : List (Str × D) := [(("day" : Str), (.str ("night" : Str))), (("mute" : Str), (.str ("talk" : Str))), (("bare" : Str), (.str ("held" : Str))), (("clear" : Str), (.str ("shown" : Str))), (("used" : Str), (.str ("idle" : Str))), (("named" : Str), (.str ("hid" : Str)))]
def sm_has_talk : List D → Mu → Option (D × Mu) := mkSem 2 3 (retS (allE true (seqI (vD 0)) (nmG 2) yesT (callE sm_is_talk_of (consA (vD 2) (consA (vD 1) nilA))) [2]))
def sm_has_hold : List D → Mu → Option (D × Mu) := mkSem 2 3 (retS (allE true (seqI (vD 0)) (nmG 2) yesT (callE sm_is_held_by (consA (vD 2) (consA (vD 1) nilA))) [2]))
def sm_is_so : Nat → List D → Mu → Option (D × Mu)
  | 0 => fun _ _ => none
  | n + 1 => mkSem 5 5 (seqS (ifS (tst (una (kinD false c_OPPOSITES) (vD 4))) (retS (notV (callE (sm_is_so n) (consA (vD 0) (consA (vD 1) (consA (vD 2) (consA (vD 3) (consA (una (kgetD c_OPPOSITES) (vD 4)) nilA)))))))) skS)
      (seqS (ifS (tst (bin eqD (vD 4) (cD (.str ("night" : Str))))) (retS (bin eqD (vD 1) (cD (.int 1)))) skS)
      (seqS (ifS (tst (bin eqD (vD 4) (cD (.str ("talk" : Str))))) (retS (callE sm_has_talk (consA (vD 0) (consA (vD 2) nilA)))) skS)
      (seqS (ifS (tst (bin eqD (vD 4) (cD (.str ("held" : Str))))) (retS (callE sm_has_hold (consA (vD 0) (consA (vD 2) nilA)))) skS)
      (seqS (ifS (tst (bin eqD (vD 4) (cD (.str ("shown" : Str))))) (retS (bin (isND true) (callE sm_shown_to (consA (vD 0) (consA (vD 2) nilA))) (cD .non))) skS)
      (seqS (ifS (tst (bin eqD (vD 4) (cD (.str ("idle" : Str))))) (retS (callE sm_is_free (consA (vD 0) (consA (vD 2) nilA)))) skS)
      (retS (bin eqD (vD 3) (cD (.int 1))))))))))
end Lw

namespace Lw
open PySem PySem.Spec PyProof.Rows L2 CW
def sm_fits : List D → Mu → Option (D × Mu) := mkSem 2 2 (retS (orV (bin (isND false) (vD 0) (cD .non)) (bin (inD false) (vD 1) (vD 0))))
def sm_are_so : List D → Mu → Option (D × Mu) := mkSem 5 6 (retS (allE false (seqI (vD 4)) (nmG 5) yesT (callE (sm_is_so 8) (consA (vD 0) (consA (vD 1) (consA (vD 2) (consA (vD 3) (consA (vD 5) nilA)))))) [5]))
def sm_all_fit : List D → Mu → Option (D × Mu) := mkSem 2 4 (retS (allE false (zipI (consA (vD 0) (consA (vD 1) nilA))) (tupG 2 (consG (nmG 2) (consG (nmG 3) nilG))) yesT (callE sm_fits (consA (vD 2) (consA (vD 3) nilA))) [2, 3]))
def sm_state_behind : List D → Mu → Option (D × Mu) := mkSem 5 12 (seqS (asgS (vD 4) (tupG 3 (consG (nmG 6) (consG (nmG 7) (consG (nmG 8) nilG)))))
      (seqS (asgS (vD 0) (tupG 3 (consG (nmG 9) (consG (nmG 10) (consG (nmG 11) nilG)))))
      (seqS (forS (seqI (vD 11)) (nmG 5) (ifS (andT (tst (bin eqD (bin ixD (vD 5) (cD (.int 0))) (vD 1))) (andT (tst (bin eqD (bin ixD (vD 5) (cD (.int 1))) (vD 6))) (andT (tst (callE sm_all_fit (consA (bin ixD (vD 5) (cD (.int 2))) (consA (vD 7) nilA)))) (tst (callE sm_are_so (consA (vD 2) (consA (vD 3) (consA (vD 9) (consA (vD 8) (consA (bin ixD (vD 5) (cD (.int 3))) nilA)))))))))) (retS (bin ixD (vD 5) (cD (.int 4)))) skS))
      (retS (vD 1)))))
def sm_told_on : List D → Mu → Option (D × Mu) := mkSem 5 7 (retS (tupGE (zipI (consA (bin ixD (vD 0) (cD (.int 1))) (consA (vD 1) nilA))) (tupG 2 (consG (nmG 5) (consG (nmG 6) nilG))) yesT (callE sm_state_behind (consA (vD 5) (consA (vD 6) (consA (vD 2) (consA (vD 3) (consA (vD 4) nilA)))))) [5, 6]))
def sm_L_pattern : List D → Mu → Option (D × Mu) := mkSem 2 4 (seqS (ifS (tst (bin eqD (callE sm_L_take (consA (vD 0) (consA (cD (.int 2)) nilA))) (cD (.int 0)))) (retS (cD .non)) skS)
      (seqS (asgS (callE sm_L_take (consA (vD 0) (consA (vD 1) nilA))) (nmG 2))
      (retS (callE tupB (consA (lcE (rng1 (consA (vD 1) nilA)) (nmG 3) (orT (tst (bin eqD (vD 3) (vD 2))) (tst (bin eqD (callE sm_L_take (consA (vD 0) (consA (cD (.int 3)) nilA))) (cD (.int 0))))) (vD 3) [3]) nilA)))))
def sm_L_tests : List D → Mu → Option (D × Mu) := mkSem 1 6 (seqS (asgS (lstE (consA (cD (.str ("night" : Str))) (consA (cD (.str ("day" : Str))) (consA (cD (.str ("talk" : Str))) (consA (cD (.str ("mute" : Str))) (consA (cD (.str ("held" : Str))) (consA (cD (.str ("bare" : Str))) (consA (cD (.str ("shown" : Str))) (consA (cD (.str ("clear" : Str))) (consA (cD (.str ("idle" : Str))) (consA (cD (.str ("used" : Str))) (consA (cD (.str ("hid" : Str))) (consA (cD (.str ("named" : Str))) nilA))))))))))))) (nmG 1))
      (seqS (asgS (bin ixD (lstE (consA (cD (.int 0)) (consA (cD (.int 0)) (consA (cD (.int 0)) (consA (cD (.int 1)) (consA (cD (.int 1)) (consA (cD (.int 1)) (consA (cD (.int 2)) (consA (cD (.int 3)) nilA))))))))) (callE sm_L_take (consA (vD 0) (consA (cD (.int 8)) nilA)))) (nmG 2))
      (seqS (asgS (lcE (rng1 (consA (vD 2) nilA)) (nmG 4) yesT (bin ixD (vD 1) (callE sm_L_take (consA (vD 0) (consA (cD (.int 12)) nilA)))) [4]) (nmG 3))
      (retS (callE tupB (consA (lcE (seqI (vD 1)) (nmG 5) (tst (bin (inD false) (vD 5) (vD 3))) (vD 5) [5]) nilA))))))
def sm_L_words : List D → Mu → Option (D × Mu) := mkSem 0 3 (seqS (asgS (lstE (consA (cD (.str ("comes" : Str))) (consA (cD (.str ("rings" : Str))) (consA (cD (.str ("shows" : Str))) (consA (cD (.str ("busy" : Str))) (consA (cD (.str ("shut" : Str))) (consA (cD (.str ("talks" : Str))) (consA (cD (.str ("ends" : Str))) (consA (cD (.str ("waits" : Str))) (consA (cD (.str ("holds" : Str))) (consA (cD (.str ("backs" : Str))) (consA (cD (.str ("dial" : Str))) nilA)))))))))))) (nmG 0))
      (seqS (asgS (bin addD (lcE (seqI (vD 0)) (nmG 2) yesT (tupE (consA (vD 2) (consA (cD (.int 2)) nilA))) [2]) (lstE (consA (tupE (consA (cD (.str ("sent" : Str))) (consA (cD (.int 3)) nilA))) nilA))) (nmG 1))
      (seqS (asgS (bin addD (vD 1) (lcE (seqI (lstE (consA (cD (.str ("take" : Str))) (consA (cD (.str ("drop" : Str))) (consA (cD (.str ("flash" : Str))) (consA (cD (.str ("joins" : Str))) (consA (cD (.str ("frees" : Str))) nilA))))))) (nmG 2) yesT (tupE (consA (vD 2) (consA (cD (.int 1)) nilA))) [2])) (nmG 1))
      (retS (bin addD (vD 1) (lcE (seqI (lstE (consA (cD (.str ("wait" : Str))) (consA (cD (.str ("turn" : Str))) (consA (cD (.str ("night" : Str))) (consA (cD (.str ("day" : Str))) (consA (cD (.str ("done" : Str))) nilA))))))) (nmG 2) yesT (tupE (consA (vD 2) (consA (cD (.int 0)) nilA))) [2]))))))
def sm_L_tale_rule : List D → Mu → Option (D × Mu) := mkSem 3 9 (seqS (asgS (callE sm_L_words nilA) (nmG 3))
      (seqS (asgS (bin ixD (vD 3) (bin ixD (lstE (consA (callE sm_L_take (consA (vD 0) (consA (cD (.int 22)) nilA))) (consA (cD (.int 0)) (consA (cD (.int 1)) (consA (cD (.int 5)) nilA))))) (callE sm_L_take (consA (vD 0) (consA (cD (.int 4)) nilA))))) (tupG 2 (consG (nmG 6) (consG (nmG 7) nilG))))
      (seqS (asgS (callE tupB (consA (lcE (rng1 (consA (vD 7) nilA)) (nmG 8) yesT (callE sm_L_pattern (consA (vD 0) (consA (vD 1) nilA))) [8]) nilA)) (nmG 4))
      (seqS (asgS (bin ixD (lstE (consA (cD .non) (consA (cD (.int 0)) (consA (bin modD (cD (.int 1)) (vD 2)) (consA (callE sm_L_take (consA (vD 0) (consA (vD 2) nilA))) (consA (callE sm_L_take (consA (vD 0) (consA (vD 2) nilA))) nilA)))))) (callE sm_L_take (consA (vD 0) (consA (cD (.int 5)) nilA)))) (nmG 5))
      (retS (tupE (consA (callE sm_L_take (consA (vD 0) (consA (vD 2) nilA))) (consA (vD 6) (consA (vD 4) (consA (callE sm_L_tests (consA (vD 0) nilA)) (consA (vD 5) nilA)))))))))))
end Lw

namespace Lw
open PySem PySem.Spec PyProof.Rows L2 CW
def c_ACTS_THAT_GO_ON : D := (.tup [(.str ("hide" : Str)), (.str ("also" : Str))])
def sm_other_of : List D → Mu → Option (D × Mu) := mkSem 2 2 (retS (ifV (tst (bin eqD (bin ixD (vD 0) (cD (.int 0))) (vD 1))) (bin ixD (vD 0) (cD (.int 1))) (bin ixD (vD 0) (cD (.int 0)))))
def sm_is_asked : List D → Mu → Option (D × Mu) := mkSem 2 6 (seqS (asgS (vD 1) (tupG 4 (consG (nmG 2) (consG (nmG 3) (consG (nmG 4) (consG (nmG 5) nilG))))))
      (seqS (ifS (tst (bin eqD (vD 2) (cD (.str ("free" : Str))))) (retS (bin neD (vD 0) (vD 4))) skS)
      (retS (bin eqD (vD 0) (vD 3)))))
def sm_rule_taken : List D → Mu → Option (D × Mu) := mkSem 5 13 (seqS (asgS (vD 4) (tupG 4 (consG (nmG 6) (consG (nmG 7) (consG (nmG 8) (consG (nmG 9) nilG))))))
      (seqS (asgS (vD 0) (tupG 3 (consG (nmG 10) (consG (nmG 11) (consG (nmG 12) nilG)))))
      (seqS (forS (seqI (vD 11)) (nmG 5) (ifS (andT (tst (bin eqD (bin ixD (vD 5) (cD (.int 0))) (vD 1))) (andT (tst (bin eqD (bin ixD (vD 5) (cD (.int 1))) (vD 6))) (andT (tst (callE sm_fits (consA (bin ixD (vD 5) (cD (.int 2))) (consA (vD 8) nilA)))) (tst (callE sm_are_so (consA (vD 2) (consA (vD 3) (consA (vD 10) (consA (vD 9) (consA (bin ixD (vD 5) (cD (.int 3))) nilA)))))))))) (retS (vD 5)) skS))
      (retS (cD .non)))))
def sm_can_also : List D → Mu → Option (D × Mu) := mkSem 4 7 (seqS (asgS (bin ixD (vD 2) (cD (.int 1))) (nmG 4))
      (seqS (ifS (orT (tst (bin eqD (vD 4) (vD 1))) (orT (notT (tst (callE sm_is_free (consA (vD 0) (consA (vD 4) nilA))))) (tst (bin (isND true) (callE sm_between (consA (vD 0) (consA (vD 4) (consA (vD 1) nilA)))) (cD .non))))) (retS (cD (.bl false))) skS)
      (retS (allE false (seqI (vD 3)) (tupG 2 (consG (nmG 5) (consG (nmG 6) nilG))) yesT (bin neD (vD 6) (vD 2)) [5, 6]))))
def sm_can_swap : List D → Mu → Option (D × Mu) := mkSem 2 2 (retS (orV (callE sm_has_talk (consA (vD 0) (consA (vD 1) nilA))) (andV (callE sm_has_hold (consA (vD 0) (consA (vD 1) nilA))) (callE sm_has_free_hands (consA (vD 0) (consA (vD 1) nilA))))))
def sm_can_join : List D → Mu → Option (D × Mu) := mkSem 2 3 (seqS (ifS (notT (tst (callE sm_has_talk (consA (vD 0) (consA (vD 1) nilA))))) (retS (cD (.bl false))) skS)
      (retS (allE true (seqI (callE sm_holds_of (consA (vD 0) (consA (vD 1) nilA)))) (nmG 2) yesT (notV (callE sm_has_talk (consA (vD 0) (consA (callE sm_other_of (consA (vD 2) (consA (vD 1) nilA))) nilA)))) [2])))
def sm_can_be_done : List D → Mu → Option (D × Mu) := mkSem 5 6 (seqS (asgS (bin ixD (vD 3) (cD (.int 0))) (nmG 5))
      (seqS (ifS (tst (bin eqD (vD 5) (cD (.str ("also" : Str))))) (retS (callE sm_can_also (consA (vD 0) (consA (vD 2) (consA (vD 3) (consA (vD 4) nilA)))))) skS)
      (seqS (ifS (tst (bin eqD (vD 5) (cD (.str ("show" : Str))))) (retS (andV (callE sm_has_talk (consA (vD 0) (consA (vD 1) nilA))) (bin (isND false) (callE sm_shown_to (consA (vD 0) (consA (vD 1) nilA))) (cD .non)))) skS)
      (seqS (ifS (tst (bin eqD (vD 5) (cD (.str ("ring" : Str))))) (retS (callE sm_is_free (consA (vD 0) (consA (vD 1) nilA)))) skS)
      (seqS (ifS (tst (bin eqD (vD 5) (cD (.str ("swap" : Str))))) (retS (callE sm_can_swap (consA (vD 0) (consA (vD 1) nilA)))) skS)
      (seqS (ifS (tst (bin eqD (vD 5) (cD (.str ("join" : Str))))) (retS (callE sm_can_join (consA (vD 0) (consA (vD 1) nilA)))) skS)
      (seqS (ifS (tst (bin eqD (vD 5) (cD (.str ("keep" : Str))))) (retS (callE sm_has_talk (consA (vD 0) (consA (vD 1) nilA)))) skS)
      (retS (cD (.bl true))))))))))
def sm_asked : List D → Mu → Option (D × Mu) := mkSem 3 12 (seqS (asgS (vD 1) (tupG 4 (consG (nmG 5) (consG (nmG 6) (consG (nmG 3) (consG (nmG 7) nilG))))))
      (seqS (asgS (callE lstB (consA (vD 3) nilA)) (nmG 3))
      (seqS (asgS (lstE nilA) (nmG 4))
      (seqS (forS (enumTI (consA (bin ixD (vD 0) (cD (.int 1))) nilA)) (tupG 2 (consG (nmG 8) (consG (nmG 9) nilG))) (seqS (ifS (notT (tst (callE sm_is_asked (consA (bin ixD (vD 9) (cD (.int 0))) (consA (vD 2) nilA))))) ctS skS)
      (seqS (asgS (callE sm_rule_taken (consA (vD 9) (consA (bin ixD (vD 3) (vD 8)) (consA (vD 5) (consA (vD 6) (consA (vD 2) nilA)))))) (nmG 10))
      (seqS (ifS (tst (bin (isND false) (vD 10) (cD .non))) ctS skS)
      (seqS (asgS (bin ixD (vD 10) (cD (.int 5))) (subG (vD 3) (vD 8)))
      (seqS (asgS (bin ixD (vD 10) (cD (.int 4))) (nmG 11))
      (seqS (ifS (orT (tst (bin eqD (bin ixD (vD 11) (cD (.int 0))) (cD (.str ("pass" : Str))))) (notT (tst (callE sm_can_be_done (consA (vD 5) (consA (bin ixD (vD 9) (cD (.int 0))) (consA (bin ixD (vD 2) (cD (.int 2))) (consA (vD 11) (consA (vD 4) nilA))))))))) ctS skS)
      (seqS (dropS (metE appM (lstRecv (vD 4)) (consA (tupE (consA (vD 8) (consA (vD 11) nilA))) nilA)))
      (ifS (tst (bin (inD true) (bin ixD (vD 11) (cD (.int 0))) (cD c_ACTS_THAT_GO_ON))) bkS skS)))))))))
      (retS (tupE (consA (callE tupB (consA (vD 4) nilA)) (consA (callE tupB (consA (vD 3) nilA)) nilA))))))))
end Lw

namespace Lw
open PySem PySem.Spec PyProof.Rows L2 CW
def c_WORD_OF_HOW : List (Str × D) := [(("ring" : Str), (.str ("rings" : Str))), (("show" : Str), (.str ("shows" : Str))), (("talk" : Str), (.str ("talks" : Str))), (("busy" : Str), (.str ("busy" : Str))), (("shut" : Str), (.str ("shut" : Str))), (("back" : Str), (.str ("backs" : Str)))]
def c_HOWS_THAT_A_TALK_ENDS : D := (.tup [(.str ("ring" : Str)), (.str ("show" : Str)), (.str ("busy" : Str)), (.str ("shut" : Str))])
def c_DOINGS : List (Str × D) := [(("dial" : Str), (.fn "dial")), (("take" : Str), (.fn "take")), (("drop" : Str), (.fn "drop")), (("flash" : Str), (.fn "flash")), (("wait" : Str), (.fn "wait")), (("turn" : Str), (.fn "turn"))]
def sm_Course_tell : List D → Mu → Option (D × Mu) := mkSem 4 5 (seqS (asgS (tupE (consA (vD 1) (consA (vD 2) (consA (vD 3) nilA)))) (nmG 4))
      (seqS (dropS (metE appM (lstRecv (una (fldD "Course" "events") (vD 0))) (consA (vD 4) nilA)))
      (fldS "Course" "tales" (callE sm_told_on (consA (una (fldD "Course" "house") (vD 0)) (consA (una (fldD "Course" "tales") (vD 0)) (consA (una (fldD "Course" "calls") (vD 0)) (consA (una (fldD "Course" "night") (vD 0)) (consA (vD 4) nilA)))))) (vD 0))))
def sm_Course_place : List D → Mu → Option (D × Mu) := mkSem 2 4 (seqS (asgS (lcE (seqI (una (fldD "Course" "calls") (vD 0))) (nmG 3) (tst (bin neD (slE (vD 3) noP (somP (cD (.int 2)))) (slE (vD 1) noP (somP (cD (.int 2)))))) (vD 3) [3]) (nmG 2))
      (fldS "Course" "calls" (callE tupB (consA (callE srtB (consA (lstS (starA (vD 2) (consA (vD 1) nilA))) nilA)) nilA)) (vD 0)))
def sm_Course_bring : List D → Mu → Option (D × Mu) := mkSem 2 2 (seqS (dropS (metO "Course" "place" sm_Course_place [] (vD 0) (consA (vD 1) nilA)))
      (dropS (metO "Course" "tell" sm_Course_tell [] (vD 0) (consA (una (kgetD c_WORD_OF_HOW) (bin ixD (vD 1) (cD (.int 2)))) (consA (slE (vD 1) noP (somP (cD (.int 2)))) (consA (bin ixD (vD 1) (cD (.int 3))) nilA))))))
def sm_Course_scene : List D → Mu → Option (D × Mu) := mkSem 1 1 (retS (tupE (consA (una (fldD "Course" "calls") (vD 0)) (consA (una (fldD "Course" "night") (vD 0)) (consA (una (fldD "Course" "minds") (vD 0)) (consA (una (fldD "Course" "tales") (vD 0)) nilA))))))
def sm_Course_ask : List D → Mu → Option (D × Mu) := mkSem 5 6 (seqS (asgS (callE sm_asked (consA (una (fldD "Course" "house") (vD 0)) (consA (metO "Course" "scene" sm_Course_scene [] (vD 0) nilA) (consA (tupE (consA (vD 1) (consA (vD 2) (consA (vD 3) (consA (vD 4) nilA))))) nilA)))) (tupG 2 (consG (nmG 5) (consG (fldG "Course" "minds" (vD 0)) nilG))))
      (retS (vD 5)))
def sm_be_busy : List D → Mu → Option (D × Mu) := mkSem 3 6 (seqS (asgS (vD 1) (tupG 3 (consG (nmG 3) (consG (nmG 4) (consG (nmG 5) nilG)))))
      (seqS (dropS (metO "Course" "bring" sm_Course_bring [] (vD 0) (consA (tupE (consA (vD 3) (consA (vD 2) (consA (cD (.str ("busy" : Str))) (consA (vD 4) nilA))))) nilA)))
      (dropS (metO "Course" "ask" sm_Course_ask [] (vD 0) (consA (cD (.str ("met" : Str))) (consA (vD 3) (consA (vD 2) (consA (vD 4) nilA))))))))
def sm_send (FC : List D → Mu → Option (D × Mu)) : List D → Mu → Option (D × Mu) := mkSem 4 7 (seqS (asgS (vD 1) (tupG 3 (consG (nmG 4) (consG (nmG 5) (consG (nmG 6) nilG)))))
      (seqS (dropS (metO "Course" "tell" sm_Course_tell [] (vD 0) (consA (cD (.str ("sent" : Str))) (consA (tupE (consA (vD 4) (consA (vD 2) (consA (vD 3) nilA)))) (consA (vD 5) nilA)))))
      (ifS (orT (tst (bin eqD (vD 3) (vD 4))) (orT (tst (bin (inD false) (vD 3) (vD 6))) (tst (bin (isND true) (callE sm_between (consA (una (fldD "Course" "calls") (vD 0)) (consA (vD 4) (consA (vD 3) nilA)))) (cD .non))))) (dropS (callE sm_be_busy (consA (vD 0) (consA (vD 1) (consA (vD 2) nilA))))) (dropS (callE FC (consA (vD 0) (consA (tupE (consA (vD 4) (consA (vD 5) (consA (tupS (starA (vD 6) (consA (vD 2) nilA))) nilA)))) (consA (vD 3) nilA))))))))
def sm_turn_away (FC : List D → Mu → Option (D × Mu)) : List D → Mu → Option (D × Mu) := mkSem 4 7 (seqS (asgS (vD 1) (tupG 3 (consG (nmG 4) (consG (nmG 5) (consG (nmG 6) nilG)))))
      (ifS (tst (bin eqD (bin ixD (vD 3) (cD (.int 0))) (cD (.str ("shut" : Str))))) (dropS (metO "Course" "bring" sm_Course_bring [] (vD 0) (consA (tupE (consA (vD 4) (consA (vD 2) (consA (cD (.str ("shut" : Str))) (consA (vD 5) nilA))))) nilA))) (dropS (callE (sm_send FC) (consA (vD 0) (consA (vD 1) (consA (vD 2) (consA (bin ixD (vD 3) (cD (.int 1))) nilA))))))))
def sm_come_to_used (FC : List D → Mu → Option (D × Mu)) : List D → Mu → Option (D × Mu) := mkSem 3 8 (seqS (asgS (vD 1) (tupG 3 (consG (nmG 5) (consG (nmG 6) (consG (nmG 7) nilG)))))
      (seqS (asgS (metO "Course" "ask" sm_Course_ask [] (vD 0) (consA (cD (.str ("full" : Str))) (consA (vD 2) (consA (vD 5) (consA (vD 6) nilA))))) (nmG 3))
      (seqS (ifS (tst (bin eqD (callE lenB (consA (vD 3) nilA)) (cD (.int 0)))) (seqS (dropS (callE sm_be_busy (consA (vD 0) (consA (vD 1) (consA (vD 2) nilA)))))
      retN) skS)
      (seqS (asgS (bin ixD (bin ixD (vD 3) (cD (.int 0))) (cD (.int 1))) (nmG 4))
      (ifS (tst (bin eqD (bin ixD (vD 4) (cD (.int 0))) (cD (.str ("show" : Str))))) (dropS (metO "Course" "bring" sm_Course_bring [] (vD 0) (consA (tupE (consA (vD 5) (consA (vD 2) (consA (cD (.str ("show" : Str))) (consA (vD 6) nilA))))) nilA))) (dropS (callE (sm_turn_away FC) (consA (vD 0) (consA (vD 1) (consA (vD 2) (consA (vD 4) nilA)))))))))))
def sm_come : Nat → List D → Mu → Option (D × Mu)
  | 0 => fun _ _ => none
  | n + 1 => mkSem 3 9 (seqS (asgS (vD 1) (tupG 3 (consG (nmG 4) (consG (nmG 5) (consG (nmG 6) nilG)))))
      (seqS (dropS (metO "Course" "tell" sm_Course_tell [] (vD 0) (consA (cD (.str ("comes" : Str))) (consA (tupE (consA (vD 4) (consA (vD 2) nilA))) (consA (vD 5) nilA)))))
      (seqS (asgS (metO "Course" "ask" sm_Course_ask [] (vD 0) (consA (cD (.str ("in" : Str))) (consA (vD 2) (consA (vD 4) (consA (vD 5) nilA))))) (nmG 3))
      (seqS (forS (seqI (vD 3)) (tupG 2 (consG (nmG 7) (consG (nmG 8) nilG))) (seqS (ifS (tst (bin neD (bin ixD (vD 8) (cD (.int 0))) (cD (.str ("also" : Str))))) (seqS (dropS (callE (sm_turn_away (sm_come n)) (consA (vD 0) (consA (vD 1) (consA (vD 2) (consA (vD 8) nilA))))))
      retN) skS)
      (dropS (metO "Course" "bring" sm_Course_bring [] (vD 0) (consA (tupE (consA (vD 4) (consA (bin ixD (vD 8) (cD (.int 1))) (consA (cD (.str ("ring" : Str))) (consA (vD 5) nilA))))) nilA)))))
      (ifS (tst (callE sm_is_free (consA (una (fldD "Course" "calls") (vD 0)) (consA (vD 2) nilA)))) (dropS (metO "Course" "bring" sm_Course_bring [] (vD 0) (consA (tupE (consA (vD 4) (consA (vD 2) (consA (cD (.str ("ring" : Str))) (consA (vD 5) nilA))))) nilA))) (dropS (callE (sm_come_to_used (sm_come n)) (consA (vD 0) (consA (vD 1) (consA (vD 2) nilA))))))))))
def sm_Course___init : List D → Mu → Option (D × Mu) := mkSem 3 3 (seqS (fldS "Course" "house" (vD 1) (vD 0))
      (seqS (asgS (vD 2) (tupG 4 (consG (fldG "Course" "calls" (vD 0)) (consG (fldG "Course" "night" (vD 0)) (consG (fldG "Course" "minds" (vD 0)) (consG (fldG "Course" "tales" (vD 0)) nilG))))))
      (fldS "Course" "events" (lstE nilA) (vD 0))))
def sm_Course_lift : List D → Mu → Option (D × Mu) := mkSem 2 3 (fldS "Course" "calls" (tupGE (seqI (una (fldD "Course" "calls") (vD 0))) (nmG 2) (tst (bin neD (vD 2) (vD 1))) (vD 2) [2]) (vD 0))
def sm_Course_end : List D → Mu → Option (D × Mu) := mkSem 2 3 (forS (seqI (vD 1)) (nmG 2) (seqS (dropS (metO "Course" "lift" sm_Course_lift [] (vD 0) (consA (vD 2) nilA)))
      (dropS (metO "Course" "tell" sm_Course_tell [(.int 0)] (vD 0) (consA (cD (.str ("ends" : Str))) (consA (slE (vD 2) noP (somP (cD (.int 2)))) nilA))))))
def sm_changed : List D → Mu → Option (D × Mu) := mkSem 2 2 (retS (tupE (consA (bin ixD (vD 0) (cD (.int 0))) (consA (bin ixD (vD 0) (cD (.int 1))) (consA (vD 1) (consA (bin ixD (vD 0) (cD (.int 3))) nilA))))))
def sm_call_out : List D → Mu → Option (D × Mu) := mkSem 3 7 (seqS (asgS (lcE (seqI (metO "Course" "ask" sm_Course_ask [] (vD 0) (consA (cD (.str ("out" : Str))) (consA (vD 1) (consA (vD 2) (consA (cD (.int 0)) nilA)))))) (tupG 2 (consG (nmG 5) (consG (nmG 6) nilG))) yesT (bin ixD (vD 6) (cD (.int 0))) [5, 6]) (nmG 3))
      (seqS (asgS (ifV (tst (bin (inD false) (cD (.str ("hide" : Str))) (vD 3))) (cD (.int 1)) (cD (.int 0))) (nmG 4))
      (ifS (tst (bin (inD false) (cD (.str ("bar" : Str))) (vD 3))) (dropS (metO "Course" "bring" sm_Course_bring [] (vD 0) (consA (tupE (consA (vD 1) (consA (vD 2) (consA (cD (.str ("shut" : Str))) (consA (vD 4) nilA))))) nilA))) (dropS (callE (sm_come 8) (consA (vD 0) (consA (tupE (consA (vD 1) (consA (vD 4) (consA (tupE nilA) nilA)))) (consA (vD 2) nilA))))))))
def sm_dial : List D → Mu → Option (D × Mu) := mkSem 2 4 (seqS (asgS (vD 1) (tupG 2 (consG (nmG 2) (consG (nmG 3) nilG))))
      (ifS (andT (tst (callE sm_has_free_hands (consA (una (fldD "Course" "calls") (vD 0)) (consA (vD 2) nilA)))) (tst (bin (isND false) (callE sm_between (consA (una (fldD "Course" "calls") (vD 0)) (consA (vD 2) (consA (vD 3) nilA)))) (cD .non)))) (dropS (callE sm_call_out (consA (vD 0) (consA (vD 2) (consA (vD 3) nilA))))) skS))
def sm_answer : List D → Mu → Option (D × Mu) := mkSem 2 3 (seqS (dropS (metO "Course" "bring" sm_Course_bring [] (vD 0) (consA (callE sm_changed (consA (vD 1) (consA (cD (.str ("talk" : Str))) nilA))) nilA)))
      (dropS (metO "Course" "end" sm_Course_end [] (vD 0) (consA (lcE (seqI (una (fldD "Course" "calls") (vD 0))) (nmG 2) (andT (tst (bin eqD (bin ixD (vD 2) (cD (.int 0))) (bin ixD (vD 1) (cD (.int 0))))) (tst (bin (inD false) (bin ixD (vD 2) (cD (.int 2))) (cD c_HOWS_THAT_A_TALK_ENDS)))) (vD 2) [2]) nilA))))
def sm_take : List D → Mu → Option (D × Mu) := mkSem 2 4 (seqS (asgS (bin ixD (vD 1) (cD (.int 0))) (nmG 2))
      (seqS (asgS (callE sm_rings_at (consA (una (fldD "Course" "calls") (vD 0)) (consA (vD 2) nilA))) (nmG 3))
      (seqS (ifS (orT (tst (bin (isND false) (vD 3) (cD .non))) (tst (callE sm_has_talk (consA (una (fldD "Course" "calls") (vD 0)) (consA (vD 2) nilA))))) retN skS)
      (ifS (tst (bin eqD (bin ixD (vD 3) (cD (.int 2))) (cD (.str ("back" : Str))))) (seqS (dropS (metO "Course" "lift" sm_Course_lift [] (vD 0) (consA (vD 3) nilA)))
      (dropS (callE sm_call_out (consA (vD 0) (consA (vD 2) (consA (bin ixD (vD 3) (cD (.int 1))) nilA)))))) (dropS (callE sm_answer (consA (vD 0) (consA (vD 3) nilA))))))))
def sm_hold_talks : List D → Mu → Option (D × Mu) := mkSem 2 4 (seqS (asgS (callE sm_talks_of (consA (una (fldD "Course" "calls") (vD 0)) (consA (vD 1) nilA))) (nmG 2))
      (forS (seqI (vD 2)) (nmG 3) (seqS (dropS (metO "Course" "place" sm_Course_place [] (vD 0) (consA (callE sm_changed (consA (vD 3) (consA (ifV (tst (bin eqD (bin ixD (vD 3) (cD (.int 0))) (vD 1))) (cD (.str ("hold0" : Str))) (cD (.str ("hold1" : Str)))) nilA))) nilA)))
      (dropS (metO "Course" "tell" sm_Course_tell [(.int 0)] (vD 0) (consA (cD (.str ("holds" : Str))) (consA (tupE (consA (vD 1) (consA (callE sm_other_of (consA (vD 3) (consA (vD 1) nilA))) nilA))) nilA)))))))
def sm_stays_at_drop : List D → Mu → Option (D × Mu) := mkSem 3 3 (retS (orV (callE sm_is_ringing_at (consA (vD 0) (consA (vD 1) nilA))) (orV (callE sm_is_shown_to (consA (vD 0) (consA (vD 1) nilA))) (andV (vD 2) (callE sm_is_held_by (consA (vD 0) (consA (vD 1) nilA)))))))
def sm_drop : List D → Mu → Option (D × Mu) := mkSem 2 6 (seqS (asgS (bin ixD (vD 1) (cD (.int 0))) (nmG 2))
      (seqS (asgS (bin gtD (callE lenB (consA (metO "Course" "ask" sm_Course_ask [] (vD 0) (consA (cD (.str ("drop" : Str))) (consA (vD 2) (consA (cD .non) (consA (cD (.int 0)) nilA))))) nilA)) (cD (.int 0))) (nmG 3))
      (seqS (ifS (tst (vD 3)) (dropS (callE sm_hold_talks (consA (vD 0) (consA (vD 2) nilA)))) skS)
      (seqS (asgS (lcE (seqI (callE sm_calls_of (consA (una (fldD "Course" "calls") (vD 0)) (consA (vD 2) nilA)))) (nmG 5) (notT (tst (callE sm_stays_at_drop (consA (vD 5) (consA (vD 2) (consA (vD 3) nilA)))))) (vD 5) [5]) (nmG 4))
      (dropS (metO "Course" "end" sm_Course_end [] (vD 0) (consA (vD 4) nilA)))))))
def sm_swap : List D → Mu → Option (D × Mu) := mkSem 2 5 (seqS (asgS (callE sm_holds_of (consA (una (fldD "Course" "calls") (vD 0)) (consA (vD 1) nilA))) (nmG 2))
      (seqS (dropS (callE sm_hold_talks (consA (vD 0) (consA (vD 1) nilA))))
      (seqS (asgS (callE sm_shown_to (consA (una (fldD "Course" "calls") (vD 0)) (consA (vD 1) nilA))) (nmG 3))
      (seqS (ifS (tst (bin (isND true) (vD 3) (cD .non))) (seqS (dropS (callE sm_answer (consA (vD 0) (consA (vD 3) nilA))))
      retN) skS)
      (forS (seqI (vD 2)) (nmG 4) (ifS (notT (tst (callE sm_has_talk (consA (una (fldD "Course" "calls") (vD 0)) (consA (callE sm_other_of (consA (vD 4) (consA (vD 1) nilA))) nilA))))) (seqS (dropS (metO "Course" "bring" sm_Course_bring [] (vD 0) (consA (callE sm_changed (consA (vD 4) (consA (cD (.str ("talk" : Str))) nilA))) nilA)))
      retN) skS))))))
def sm_join : List D → Mu → Option (D × Mu) := mkSem 2 4 (seqS (asgS (callE sm_holds_of (consA (una (fldD "Course" "calls") (vD 0)) (consA (vD 1) nilA))) (nmG 2))
      (seqS (forS (seqI (vD 2)) (nmG 3) (ifS (notT (tst (callE sm_has_talk (consA (una (fldD "Course" "calls") (vD 0)) (consA (callE sm_other_of (consA (vD 3) (consA (vD 1) nilA))) nilA))))) (dropS (metO "Course" "bring" sm_Course_bring [] (vD 0) (consA (callE sm_changed (consA (vD 3) (consA (cD (.str ("talk" : Str))) nilA))) nilA))) skS))
      (dropS (metO "Course" "tell" sm_Course_tell [(.int 0)] (vD 0) (consA (cD (.str ("joins" : Str))) (consA (tupE (consA (vD 1) nilA)) nilA))))))
def sm_flash : List D → Mu → Option (D × Mu) := mkSem 2 6 (seqS (asgS (bin ixD (vD 1) (cD (.int 0))) (nmG 2))
      (seqS (asgS (metO "Course" "ask" sm_Course_ask [] (vD 0) (consA (cD (.str ("flash" : Str))) (consA (vD 2) (consA (cD .non) (consA (cD (.int 0)) nilA))))) (nmG 3))
      (forS (seqI (vD 3)) (tupG 2 (consG (nmG 4) (consG (nmG 5) nilG))) (ifS (tst (bin eqD (bin ixD (vD 5) (cD (.int 0))) (cD (.str ("swap" : Str))))) (dropS (callE sm_swap (consA (vD 0) (consA (vD 2) nilA)))) (dropS (callE sm_join (consA (vD 0) (consA (vD 2) nilA))))))))
def sm_ring_long : List D → Mu → Option (D × Mu) := mkSem 2 9 (seqS (asgS (vD 1) (tupG 4 (consG (nmG 3) (consG (nmG 4) (consG (nmG 5) (consG (nmG 6) nilG))))))
      (seqS (dropS (metO "Course" "tell" sm_Course_tell [] (vD 0) (consA (cD (.str ("waits" : Str))) (consA (tupE (consA (vD 3) (consA (vD 4) nilA))) (consA (vD 6) nilA)))))
      (seqS (asgS (metO "Course" "ask" sm_Course_ask [] (vD 0) (consA (cD (.str ("long" : Str))) (consA (vD 4) (consA (vD 3) (consA (vD 6) nilA))))) (nmG 2))
      (forS (seqI (vD 2)) (tupG 2 (consG (nmG 7) (consG (nmG 8) nilG))) (seqS (dropS (metO "Course" "lift" sm_Course_lift [] (vD 0) (consA (vD 1) nilA)))
      (dropS (callE (sm_turn_away (sm_come 8)) (consA (vD 0) (consA (tupE (consA (vD 3) (consA (vD 6) (consA (tupE nilA) nilA)))) (consA (vD 4) (consA (vD 8) nilA)))))))))))
def sm_wait : List D → Mu → Option (D × Mu) := mkSem 2 5 (seqS (asgS (lcE (seqI (una (fldD "Course" "calls") (vD 0))) (nmG 4) (tst (bin eqD (bin ixD (vD 4) (cD (.int 2))) (cD (.str ("ring" : Str))))) (vD 4) [4]) (nmG 2))
      (seqS (asgS (lcE (seqI (una (fldD "Course" "calls") (vD 0))) (nmG 4) (tst (bin eqD (bin ixD (vD 4) (cD (.int 2))) (cD (.str ("back" : Str))))) (vD 4) [4]) (nmG 3))
      (seqS (forS (seqI (vD 2)) (nmG 4) (ifS (tst (bin (inD false) (vD 4) (una (fldD "Course" "calls") (vD 0)))) (dropS (callE sm_ring_long (consA (vD 0) (consA (vD 4) nilA)))) skS))
      (dropS (metO "Course" "end" sm_Course_end [] (vD 0) (consA (vD 3) nilA))))))
def sm_turn : List D → Mu → Option (D × Mu) := mkSem 2 2 (seqS (fldS "Course" "night" (bin subD (cD (.int 1)) (una (fldD "Course" "night") (vD 0))) (vD 0))
      (dropS (metO "Course" "tell" sm_Course_tell [(.int 0)] (vD 0) (consA (ifV (tst (bin eqD (una (fldD "Course" "night") (vD 0)) (cD (.int 1)))) (cD (.str ("night" : Str))) (cD (.str ("day" : Str)))) (consA (tupE nilA) nilA)))))
def sm_ring_shown : List D → Mu → Option (D × Mu) := mkSem 1 3 (seqS (asgS (lcE (seqI (una (fldD "Course" "calls") (vD 0))) (nmG 2) (tst (bin eqD (bin ixD (vD 2) (cD (.int 2))) (cD (.str ("show" : Str))))) (vD 2) [2]) (nmG 1))
      (forS (seqI (vD 1)) (nmG 2) (ifS (andT (notT (tst (callE sm_has_talk (consA (una (fldD "Course" "calls") (vD 0)) (consA (bin ixD (vD 2) (cD (.int 1))) nilA))))) (tst (bin (isND false) (callE sm_rings_at (consA (una (fldD "Course" "calls") (vD 0)) (consA (bin ixD (vD 2) (cD (.int 1))) nilA))) (cD .non)))) (dropS (metO "Course" "bring" sm_Course_bring [] (vD 0) (consA (callE sm_changed (consA (vD 2) (consA (cD (.str ("ring" : Str))) nilA))) nilA))) skS)))
def sm_ring_back : List D → Mu → Option (D × Mu) := mkSem 2 6 (seqS (asgS (metO "Course" "ask" sm_Course_ask [] (vD 0) (consA (cD (.str ("free" : Str))) (consA (cD .non) (consA (vD 1) (consA (cD (.int 0)) nilA))))) (nmG 2))
      (forS (seqI (vD 2)) (tupG 2 (consG (nmG 3) (consG (nmG 4) nilG))) (seqS (asgS (bin ixD (bin ixD (bin ixD (una (fldD "Course" "house") (vD 0)) (cD (.int 1))) (vD 3)) (cD (.int 0))) (nmG 5))
      (dropS (metO "Course" "bring" sm_Course_bring [] (vD 0) (consA (tupE (consA (vD 5) (consA (vD 1) (consA (cD (.str ("back" : Str))) (consA (cD (.int 0)) nilA))))) nilA))))))
def sm_free_lines : List D → Mu → Option (D × Mu) := mkSem 2 3 (forS (rng1 (consA (bin ixD (una (fldD "Course" "house") (vD 0)) (cD (.int 0))) nilA)) (nmG 2) (ifS (andT (notT (tst (callE sm_is_free (consA (vD 1) (consA (vD 2) nilA))))) (tst (callE sm_is_free (consA (una (fldD "Course" "calls") (vD 0)) (consA (vD 2) nilA))))) (seqS (dropS (metO "Course" "tell" sm_Course_tell [(.int 0)] (vD 0) (consA (cD (.str ("frees" : Str))) (consA (tupE (consA (vD 2) nilA)) nilA))))
      (dropS (callE sm_ring_back (consA (vD 0) (consA (vD 2) nilA))))) skS))
def sm_stepped : List D → Mu → Option (D × Mu) := mkSem 3 6 (seqS (asgS (makE "Course" sm_Course___init (consA (vD 0) (consA (vD 1) nilA))) (nmG 3))
      (seqS (asgS (slE (vD 2) (somP (cD (.int 1))) noP) (nmG 4))
      (seqS (dropS (metO "Course" "tell" sm_Course_tell [(.int 0)] (vD 3) (consA (bin ixD (vD 2) (cD (.int 0))) (consA (vD 4) nilA))))
      (seqS (asgS (una (kgetD c_DOINGS) (bin ixD (vD 2) (cD (.int 0)))) (nmG 5))
      (seqS (dropS (callV [("dial", sm_dial), ("take", sm_take), ("drop", sm_drop), ("flash", sm_flash), ("wait", sm_wait), ("turn", sm_turn)] (vD 5) (consA (vD 3) (consA (vD 4) nilA))))
      (seqS (dropS (callE sm_ring_shown (consA (vD 3) nilA)))
      (seqS (dropS (callE sm_free_lines (consA (vD 3) (consA (bin ixD (vD 1) (cD (.int 0))) nilA))))
      (seqS (dropS (metO "Course" "tell" sm_Course_tell [(.int 0)] (vD 3) (consA (cD (.str ("done" : Str))) (consA (tupE nilA) nilA))))
      (retS (tupE (consA (metO "Course" "scene" sm_Course_scene [] (vD 3) nilA) (consA (callE tupB (consA (una (fldD "Course" "events") (vD 3)) nilA)) nilA))))))))))))
end Lw

namespace Lw
open PySem PySem.Spec PyProof.Rows L2 CW
def sm_begun : List D → Mu → Option (D × Mu) := mkSem 1 2 (seqS (asgS (bin mulD (tupE (consA (cD (.int 0)) nilA)) (callE lenB (consA (bin ixD (vD 0) (cD (.int 1))) nilA))) (nmG 1))
      (retS (tupE (consA (tupE nilA) (consA (cD (.int 0)) (consA (vD 1) (consA (vD 1) nilA)))))))
def sm_ran : List D → Mu → Option (D × Mu) := mkSem 2 6 (seqS (asgS (callE sm_begun (consA (vD 0) nilA)) (nmG 2))
      (seqS (asgS (lstE nilA) (nmG 3))
      (seqS (forS (seqI (vD 1)) (nmG 4) (seqS (asgS (callE sm_stepped (consA (vD 0) (consA (vD 2) (consA (vD 4) nilA)))) (tupG 2 (consG (nmG 2) (consG (nmG 5) nilG))))
      (dropS (metE appM (lstRecv (vD 3)) (consA (vD 5) nilA)))))
      (retS (tupE (consA (vD 2) (consA (callE tupB (consA (vD 3) nilA)) nilA)))))))
def sm_L_far_2 : List D → Mu → Option (D × Mu) := mkSem 3 3 (retS (bin modD (bin addD (bin addD (vD 2) (cD (.int 1))) (callE sm_L_take (consA (vD 0) (consA (bin subD (vD 1) (cD (.int 1))) nilA)))) (vD 1)))
def sm_L_rule_2 : List D → Mu → Option (D × Mu) := mkSem 4 10 (seqS (asgS (lstE (consA (cD (.str ("in" : Str))) (consA (cD (.str ("full" : Str))) (consA (cD (.str ("in" : Str))) (consA (cD (.str ("flash" : Str))) (consA (cD (.str ("out" : Str))) (consA (cD (.str ("met" : Str))) (consA (cD (.str ("long" : Str))) (consA (cD (.str ("drop" : Str))) (consA (cD (.str ("free" : Str))) (consA (cD (.str ("flash" : Str))) (consA (cD (.str ("full" : Str))) (consA (cD (.str ("long" : Str))) nilA))))))))))))) (nmG 4))
      (seqS (asgS (bin ixD (vD 4) (callE sm_L_take (consA (vD 0) (consA (cD (.int 12)) nilA)))) (nmG 5))
      (seqS (asgS (dctE (consP (cD (.str ("out" : Str))) (lstE (consA (cD (.str ("bar" : Str))) (consA (cD (.str ("hide" : Str))) nilA))) (consP (cD (.str ("in" : Str))) (lstE (consA (cD (.str ("shut" : Str))) (consA (cD (.str ("send" : Str))) (consA (cD (.str ("also" : Str))) nilA)))) (consP (cD (.str ("full" : Str))) (lstE (consA (cD (.str ("shut" : Str))) (consA (cD (.str ("send" : Str))) (consA (cD (.str ("show" : Str))) nilA)))) (consP (cD (.str ("met" : Str))) (lstE nilA) nilP))))) (nmG 6))
      (seqS (dropS (metE updM (dctRecv (vD 6)) (consA (dctE (consP (cD (.str ("long" : Str))) (lstE (consA (cD (.str ("shut" : Str))) (consA (cD (.str ("send" : Str))) nilA))) (consP (cD (.str ("flash" : Str))) (lstE (consA (cD (.str ("swap" : Str))) (consA (cD (.str ("join" : Str))) nilA))) (consP (cD (.str ("drop" : Str))) (lstE (consA (cD (.str ("keep" : Str))) nilA)) (consP (cD (.str ("free" : Str))) (lstE (consA (cD (.str ("ring" : Str))) nilA)) nilP))))) nilA)))
      (seqS (asgS (bin addD (bin addD (bin dgetD (vD 6) (vD 5)) (bin dgetD (vD 6) (vD 5))) (lstE (consA (cD (.str ("pass" : Str))) nilA))) (nmG 7))
      (seqS (asgS (tupE (consA (bin ixD (vD 7) (callE sm_L_take (consA (vD 0) (consA (callE lenB (consA (vD 7) nilA)) nilA)))) nilA)) (nmG 8))
      (seqS (ifS (tst (bin (inD false) (bin ixD (vD 8) (cD (.int 0))) (tupE (consA (cD (.str ("send" : Str))) (consA (cD (.str ("also" : Str))) nilA))))) (asgS (bin addD (vD 8) (tupE (consA (callE sm_L_far_2 (consA (vD 0) (consA (vD 1) (consA (vD 2) nilA)))) nilA))) (nmG 8)) skS)
      (seqS (asgS (callE sm_L_pattern (consA (vD 0) (consA (vD 1) nilA))) (nmG 9))
      (seqS (ifS (tst (bin (inD false) (vD 5) (tupE (consA (cD (.str ("flash" : Str))) (consA (cD (.str ("drop" : Str))) nilA))))) (asgS (cD .non) (nmG 9)) skS)
      (retS (tupE (consA (callE sm_L_take (consA (vD 0) (consA (vD 3) nilA))) (consA (vD 5) (consA (vD 9) (consA (callE sm_L_tests (consA (vD 0) nilA)) (consA (vD 8) (consA (callE sm_L_take (consA (vD 0) (consA (vD 3) nilA))) nilA)))))))))))))))))
def sm_L_deeds : List D → Mu → Option (D × Mu) := mkSem 1 5 (seqS (asgS (lstE nilA) (nmG 1))
      (seqS (forS (rng1 (consA (vD 0) nilA)) (nmG 2) (dropS (metE extM (lstRecv (vD 1)) (consA (lcE (rng1 (consA (vD 0) nilA)) (nmG 4) (tst (bin neD (vD 4) (vD 2))) (tupE (consA (cD (.str ("dial" : Str))) (consA (vD 2) (consA (vD 4) nilA)))) [4]) nilA))))
      (seqS (forS (seqI (tupE (consA (cD (.str ("take" : Str))) (consA (cD (.str ("drop" : Str))) (consA (cD (.str ("flash" : Str))) nilA))))) (nmG 3) (dropS (metE extM (lstRecv (vD 1)) (consA (lcE (rng1 (consA (vD 0) nilA)) (nmG 2) yesT (tupE (consA (vD 3) (consA (vD 2) nilA))) [2]) nilA))))
      (retS (bin addD (vD 1) (lstE (consA (tupE (consA (cD (.str ("wait" : Str))) nilA)) (consA (tupE (consA (cD (.str ("turn" : Str))) nilA)) nilA))))))))
def sm_L_house : List D → Mu → Option (D × Mu) := mkSem 4 11 (seqS (asgS (lstE nilA) (nmG 4))
      (seqS (forS (rng1 (consA (vD 2) nilA)) (nmG 5) (seqS (asgS (tupE (consA (callE sm_L_take (consA (vD 0) (consA (vD 1) nilA))) (consA (bin addD (cD (.int 1)) (callE sm_L_take (consA (vD 0) (consA (cD (.int 3)) nilA)))) nilA))) (tupG 2 (consG (nmG 8) (consG (nmG 9) nilG))))
      (seqS (asgS (lcE (rng1 (consA (callE sm_L_take (consA (vD 0) (consA (bin addD (vD 3) (cD (.int 1))) nilA))) nilA)) (nmG 10) yesT (callE sm_L_rule_2 (consA (vD 0) (consA (vD 1) (consA (vD 8) (consA (vD 9) nilA))))) [10]) (nmG 6))
      (seqS (asgS (lcE (rng1 (consA (callE sm_L_take (consA (vD 0) (consA (bin addD (vD 3) (cD (.int 1))) nilA))) nilA)) (nmG 10) yesT (callE sm_L_tale_rule (consA (vD 0) (consA (vD 1) (consA (vD 9) nilA)))) [10]) (nmG 7))
      (dropS (metE appM (lstRecv (vD 4)) (consA (tupE (consA (vD 8) (consA (callE tupB (consA (vD 6) nilA)) (consA (callE tupB (consA (vD 7) nilA)) nilA)))) nilA)))))))
      (retS (tupE (consA (vD 1) (consA (callE tupB (consA (vD 4) nilA)) (consA (callE tupB (consA (callE sm_L_deeds (consA (vD 1) nilA)) nilA)) nilA)))))))
def sm_broken : List D → Mu → Option (D × Mu) := mkSem 1 3 (retS (tupGE (enumTI (consA (bin ixD (vD 0) (cD (.int 3))) nilA)) (tupG 2 (consG (nmG 1) (consG (nmG 2) nilG))) (tst (bin (isND false) (vD 2) (cD .non))) (vD 1) [1, 2]))
end Lw

namespace Lw
open PySem PySem.Spec PyProof.Rows L2 CW
def top (i : Nat) : Stmt := PySem.Challenge.pw_callwishes_k41_broken_tales.main.body.getD i (.Pass ⟨0, 0, 0, 0⟩)
structure Tx (mg : Str → Option Value) : Prop where
  abs : mg "abs" = none
  all : mg "all" = none
  any : mg "any" = none
  bool : mg "bool" = none
  enumerate : mg "enumerate" = none
  «int» : mg "int" = none
  isinstance : mg "isinstance" = none
  len : mg "len" = none
  «list» : mg "list" = none
  range : mg "range" = none
  sorted : mg "sorted" = none
  str : mg "str" = none
  tuple : mg "tuple" = none
  zip : mg "zip" = none
structure Cs (K : PySem.W.Frag) (mg : Str → Option Value) (P : Params) : Prop where
  ACTS_THAT_GO_ON : GlD K mg "ACTS_THAT_GO_ON" c_ACTS_THAT_GO_ON
  DOINGS : GlK K mg P "DOINGS" c_DOINGS
  HOWS_AT_BOTH_ENDS : GlD K mg "HOWS_AT_BOTH_ENDS" c_HOWS_AT_BOTH_ENDS
  HOWS_THAT_A_TALK_ENDS : GlD K mg "HOWS_THAT_A_TALK_ENDS" c_HOWS_THAT_A_TALK_ENDS
  OPPOSITES : GlK K mg P "OPPOSITES" c_OPPOSITES
  WORD_OF_HOW : GlK K mg P "WORD_OF_HOW" c_WORD_OF_HOW
  cls_Course : ClsK K "Course" ["house", "events", "calls", "night", "minds", "tales"]

section
variable {P : Program} {w : World} {K : PySem.W.Frag} {mg : Str → Option Value} {base : Heap}
def sm_L_due : List D → Mu → Option (D × Mu) := mkSem 1 3 (retS (callE tupB (consA (lcE (enumBI (consA (vD 0) nilA)) (tupG 2 (consG (nmG 1) (consG (nmG 2) nilG))) (tst (bin (isND false) (vD 2) (cD .non))) (vD 1) [1, 2]) nilA)))
def sm_law : List D → Mu → Option (D × Mu) := mkSem 1 16 (seqS (asgS (callE sm_L_hand (consA (vD 0) nilA)) (nmG 1))
      (seqS (asgS (bin addD (cD (.int 2)) (callE sm_L_take (consA (vD 1) (consA (cD (.int 3)) nilA)))) (nmG 2))
      (seqS (forS (rng1 (consA (bin addD (cD (.int 1)) (callE sm_L_take (consA (vD 1) (consA (cD (.int 6)) nilA)))) nilA)) (nmG 3) (seqS (asgS (tupE (consA (callE sm_L_take (consA (vD 1) (consA (cD (.int 7)) nilA))) (consA (callE sm_L_take (consA (vD 1) (consA (cD (.int 4)) nilA))) nilA))) (tupG 2 (consG (nmG 12) (consG (nmG 13) nilG))))
      (seqS (asgS (callE tupB (consA (lcE (rng1 (consA (vD 12) nilA)) (nmG 14) yesT (callE sm_L_take (consA (vD 1) (consA (cD (.int 8)) nilA))) [14]) nilA)) (nmG 7))
      (seqS (asgS (lcE (rng1 (consA (vD 12) nilA)) (nmG 14) yesT (bin ixD (lstE (consA (cD .non) (consA (callE sm_L_take (consA (vD 1) (consA (cD (.int 8)) nilA))) (consA (cD (.int 0)) (consA (cD .non) nilA))))) (bin ixD (lstE (consA (vD 13) (consA (callE sm_L_take (consA (vD 1) (consA (cD (.int 4)) nilA))) nilA))) (callE intB (consA (bin ltD (vD 13) (cD (.int 2))) nilA)))) [14]) (nmG 8))
      (seqS (asgS (tupE (consA (callE sm_L_calls (consA (vD 1) (consA (vD 2) nilA))) (consA (callE sm_L_take (consA (vD 1) (consA (cD (.int 2)) nilA))) (consA (vD 7) (consA (callE tupB (consA (vD 8) nilA)) nilA))))) (nmG 9))
      (ifS (notT (tst (callE (sm_L_same 8) (consA (callE sm_broken (consA (vD 9) nilA)) (consA (callE sm_L_due (consA (vD 8) nilA)) nilA))))) (retS (cD (.bl false))) skS))))))
      (seqS (asgS (callE sm_L_house (consA (vD 1) (consA (vD 2) (consA (callE sm_L_take (consA (vD 1) (consA (cD (.int 5)) nilA))) (consA (cD (.int 6)) nilA))))) (nmG 4))
      (seqS (asgS (callE tupB (consA (lcE (rng1 (consA (callE sm_L_take (consA (vD 1) (consA (cD (.int 21)) nilA))) nilA)) (nmG 14) yesT (bin ixD (bin ixD (vD 4) (cD (.int 2))) (callE sm_L_take (consA (vD 1) (consA (callE lenB (consA (bin ixD (vD 4) (cD (.int 2))) nilA)) nilA)))) [14]) nilA)) (nmG 5))
      (seqS (parS 9 10 (consA (callE sm_begun (consA (vD 4) nilA)) (consA (tupE nilA) nilA)))
      (seqS (forS (seqI (vD 5)) (nmG 6) (seqS (asgS (bin ixD (callE sm_stepped (consA (vD 4) (consA (vD 9) (consA (vD 6) nilA)))) (cD (.int 0))) (nmG 9))
      (seqS (asgS (callE sm_broken (consA (vD 9) nilA)) (nmG 11))
      (seqS (ifS (orT (notT (tst (callE (sm_L_same 8) (consA (vD 11) (consA (callE sm_L_due (consA (bin ixD (vD 9) (cD (.int 3))) nilA)) nilA))))) (notT (tst (callE (allB false) (consA (lcE (seqI (vD 10)) (nmG 15) yesT (bin (inD false) (vD 15) (vD 11)) [15]) nilA))))) (retS (cD (.bl false))) skS)
      (asgS (vD 11) (nmG 10))))))
      (retS (bin eqD (callE sm_broken (consA (bin ixD (callE sm_ran (consA (vD 4) (consA (vD 5) nilA))) (cD (.int 0))) nilA)) (vD 10))))))))))
end

theorem walk {l : PySem.W.OpenLaw} {q : Program} {loose : List Str} {XP : (Str → Option Value) → Heap → Prop} {YP : World → Heap → Prop} {d : DefRec} {K : Params → PySem.W.Frag} (hn : l.most = some 63) (hdf : d.params.defaults = [])
    (hY : ∀ (w : World) (h : Heap), YP w h → (K w.params).In h) (hC : ∀ w : World, kOk (K w.params) = true)
    (F : ∀ (w : World) (mg : Str → Option Value) (fa : Addr) (h : Heap), kOk (K w.params) = true → (kbf (K w.params)).In h → h.Ns mainGlobals mg → mg d.name = some (.ref fa) →
      ∃ fd : FuncData, (∀ (s : Shared) (u : Value), BindsTo s fd ⟨[u], []⟩ [("_law_script", u)]) ∧ ∀ base : Heap, (kbf (K w.params)).In base → base.Ns mainGlobals mg → BMd mg base → FnOk l.prog w (kbf (K w.params)) mg base CX0 59 fa fd ["_law_script"] (spD (kbf (K w.params)) sm_law))
    (law_true : ∀ ns : List Int, ns.length ≤ 63 → ∃ μ', sm_law [.fl (ns.map D.int)] [] = some (.bl true, μ')) :
    PySem.W.WalkO q loose XP YP l.row.toRowW d [] (fun f vs => PySem.call f vs) :=
  walkT (n := 63) (k := 59) (x := "_law_script") (sp := fun w => spD (kbf (K w.params)) sm_law) hn (by decide) hdf ⟨rfl, by decide, by decide⟩ hY (fun w => kOk.asc (hC w)) (fun w => kOk.tabs (hC w)) (fun w mg fa h => F w mg fa h (hC w)) (fun w H a ns hl h1 h2 h3 => law_sp (law_true ns hl) h1 h2 h3)
end Lw


namespace CW
open PySem L2
local macro_rules | `(tactic| trivial) => `(tactic| first
  | with_reducible refine ws_seq ?_ | with_reducible refine ws_asg ?_ | with_reducible refine ws_ret ?_ | with_reducible refine ws_drop ?_ | with_reducible refine ws_if ?_ | with_reducible refine ws_sk ?_
  | with_reducible refine wp_bin ?_ | with_reducible refine wp_v (by with_unfolding_all rfl) ?_ | with_reducible refine wp_c ?_ | with_reducible refine wp_tst ?_ | with_reducible refine wp_consA ?_ | with_reducible refine wp_nilA ?_
  | with_reducible refine wp_callE ?_ | with_reducible refine wp_nm ?_ | with_reducible refine wp_subG ?_ | with_reducible refine wp_tupE ?_ | with_reducible refine wp_lstE ?_ | with_reducible refine wp_andT ?_ | with_reducible refine wp_orT ?_ | with_reducible refine wp_notT ?_
  | with_reducible refine wp_add ?_ | with_reducible refine wp_sub ?_ | with_reducible refine wp_gt ?_ | with_reducible refine wp_lt ?_ | with_reducible refine wp_ge ?_ | with_reducible refine wp_le ?_ | with_reducible refine wp_eqI ?_ | with_reducible refine wp_neI ?_
  | with_reducible refine ⟨_, rfl, ?_⟩ | with_reducible refine wp_slE ?_ | with_reducible refine wp_noP ?_ | with_reducible refine wp_somP ?_ | with_reducible refine wp_slF ?_ | with_reducible refine wp_lenF ?_ | with_reducible refine wp_absB ?_ | with_reducible refine wp_yes ?_)
def take0 : List D → Mu → Option (D × Mu) := mkSem 2 4 (seqS (ifS (tst (bin gtD (bin ixD (vD 0) (cD (.int 0))) (cD (.int 0)))) (seqS (asgS (bin modD (bin ixD (vD 0) (cD (.int 0))) (vD 1)) (nmG 3))
      (seqS (asgS (bin fdivD (bin ixD (vD 0) (cD (.int 0))) (vD 1)) (subG (vD 0) (cD (.int 0))))
      (retS (vD 3)))) skS)
      (seqS (asgS (bin addD (bin ixD (vD 0) (cD (.int 2))) (cD (.int 1))) (subG (vD 0) (cD (.int 2))))
      (seqS (asgS (bin modD (bin mulD (bin addD (bin addD (bin ixD (vD 0) (cD (.int 1))) (bin mulD (bin mulD (cD (.int 65537)) (bin ixD (vD 0) (cD (.int 2)))) (bin ixD (vD 0) (cD (.int 2))))) (cD (.int 11))) (cD (.int 48271))) (cD (.int 2305843009213693921))) (nmG 2))
      (seqS (asgS (bin modD (bin mulD (vD 2) (bin addD (bin modD (vD 2) (cD (.int 1000003))) (bin mulD (cD (.int 99991)) (bin ixD (vD 0) (cD (.int 2)))))) (cD (.int 2305843009213693907))) (nmG 2))
      (retS (bin modD (bin addD (bin fdivD (vD 2) (cD (.int 97))) (bin fdivD (vD 2) (cD (.int 1000033)))) (vD 1)))))))
theorem set_get {μ : Mu} {l : Nat} {c d : Cell} (h : μ[l]? = some c) : (μ.set l d)[l]? = some d := List.getElem?_set_self (List.getElem?_eq_some_iff.mp h).1
theorem take_spec {l : Nat} {m a b c : Int} {μ : Mu} (hl : μ[l]? = some (.lst [.int a, .int b, .int c])) (ha : 0 ≤ a) (hb : 0 ≤ b) (hb2 : b < 2305843009213693951) (hc : 0 ≤ c) (hc2 : c < 1000000000000) (hm : 0 < m) (hm2 : m < 1073741824) :
    wp (take0 [.ref l, .int m] μ) fun r μ' => ∃ v a' c', r = .int v ∧ 0 ≤ v ∧ v < m ∧ μ' = μ.set l (.lst [.int a', .int b, .int c']) ∧ 0 ≤ a' ∧ 0 ≤ c' ∧ c' ≤ c + 1 := by
  refine wp_def rfl ?_
  trivial; trivial; trivial; trivial; trivial; trivial; trivial
  refine wp_ixL hl rfl ?_
  trivial; trivial; trivial
  by_cases h0 : 0 < a
  · rw [if_pos (decide_eq_true h0)]
    repeat trivial
    refine wp_ixL hl rfl ?_
    repeat trivial
    refine wp_mod hm ?_
    repeat trivial
    refine wp_ixL hl rfl ?_
    repeat trivial
    refine wp_fdiv hm hm2 ?_
    repeat trivial
    refine ⟨l, 0, _, 0, rfl, rfl, hl, rfl, ?_⟩
    repeat trivial
    exact ⟨_, a / m, c, rfl, Int.emod_nonneg _ (by omega), Int.emod_lt_of_pos _ hm, rfl, Int.ediv_nonneg ha (by omega), hc, by omega⟩
  · rw [if_neg (by simpa using h0)]
    repeat trivial
    refine wp_ixL hl rfl ?_
    repeat trivial
    refine ⟨l, 2, _, 2, rfl, rfl, hl, rfl, ?_⟩
    have hl' := set_get (d := Cell.lst (([.int a, .int b, .int c] : List D).set 2 (.int (c + 1)))) hl
    repeat trivial
    refine wp_ixL hl' rfl ?_
    repeat trivial
    refine wp_ixL hl' rfl ?_
    refine wp_mul (mulG_l (by decide) (by decide)) ?_
    repeat trivial
    refine wp_ixL hl' rfl ?_
    refine wp_mul (mulG_r (by omega) (by omega)) ?_
    repeat trivial
    refine wp_mul (mulG_r (by decide) (by decide)) ?_
    repeat trivial
    refine wp_mod (by decide) ?_
    repeat trivial
    refine wp_mod (by decide) ?_
    repeat trivial
    refine wp_ixL hl' rfl ?_
    refine wp_mul (mulG_l (by decide) (by decide)) ?_
    repeat trivial
    refine wp_mul (mulG_l ?_ ?_) ?_
    · have := Int.emod_nonneg ((b + 65537 * (c + 1) * (c + 1) + 11) * 48271) (show (2305843009213693921 : Int) ≠ 0 by decide)
      omega
    · have := Int.emod_lt_of_pos ((b + 65537 * (c + 1) * (c + 1) + 11) * 48271) (show (0 : Int) < 2305843009213693921 by decide)
      omega
    repeat trivial
    refine wp_mod (by decide) ?_
    repeat trivial
    refine wp_fdiv (by decide) (by decide) ?_
    repeat trivial
    refine wp_fdiv (by decide) (by decide) ?_
    repeat trivial
    refine wp_mod hm ?_
    exact ⟨_, a, c + 1, rfl, Int.emod_nonneg _ (by omega), Int.emod_lt_of_pos _ hm, rfl, ha, by omega, by omega⟩
structure Gr (μ m : Mu) : Prop where
  len : μ.length ≤ m.length
  old : ∀ j, j < μ.length → m[j]? = μ[j]?
theorem Gr.refl {μ : Mu} : Gr μ μ := ⟨Nat.le_refl _, fun _ _ => rfl⟩
theorem Gr.trans {μ m k : Mu} (a : Gr μ m) (b : Gr m k) : Gr μ k := ⟨Nat.le_trans a.len b.len, fun j h => (b.old j (Nat.lt_of_lt_of_le h a.len)).trans (a.old j h)⟩
theorem Gr.push {μ m : Mu} (a : Gr μ m) (c : Cell) : Gr μ (m ++ [c]) := ⟨by simp; have := a.len; omega, fun j h => by rw [List.getElem?_append_left (Nat.lt_of_lt_of_le h a.len)]; exact a.old j h⟩
theorem Gr.set {μ m : Mu} (a : Gr μ m) {l : Nat} (h : μ.length ≤ l) (c : Cell) : Gr μ (m.set l c) := ⟨by simp [a.len], fun j hj => by rw [List.getElem?_set_ne (by omega)]; exact a.old j hj⟩
theorem Gr.get {μ m : Mu} (a : Gr μ m) {l : Nat} {c : Cell} (h : μ[l]? = some c) : m[l]? = some c := by rw [a.old l (List.getElem?_eq_some_iff.mp h).1]; exact h
theorem get_last (m : Mu) (c : Cell) : (m ++ [c])[m.length]? = some c := by simp
theorem get_old {m : Mu} {c d : Cell} {l : Nat} (h : m[l]? = some d) : (m ++ [c])[l]? = some d := by rw [List.getElem?_append_left (List.getElem?_eq_some_iff.mp h).1]; exact h
theorem set_other {m : Mu} {c d : Cell} {l k : Nat} (h : m[l]? = some d) (n : l ≠ k) : (m.set k c)[l]? = some d := by rw [List.getElem?_set_ne (Ne.symm n)]; exact h
def hand0 : List D → Mu → Option (D × Mu) := mkSem 1 6 (seqS (asgS (lstE (consA (cD (.int 0)) (consA (cD (.int 0)) (consA (cD (.int 0)) nilA)))) (nmG 1))
      (seqS (ifS (andT (tst (bin gtD (callE lenB (consA (vD 0) nilA)) (cD (.int 0)))) (tst (bin geD (bin ixD (vD 0) (cD (.int 0))) (bin powD (cD (.int 10)) (cD (.int 18)))))) (seqS (asgS (cD (.int 1)) (nmG 2))
      (forS (seqI (slE (vD 0) noP (somP (cD (.int 63))))) (nmG 3) (seqS (asgS (bin addD (bin ixD (vD 1) (cD (.int 0))) (bin mulD (bin modD (callE absB (consA (vD 3) nilA)) (bin powD (cD (.int 10)) (cD (.int 60)))) (vD 2))) (subG (vD 1) (cD (.int 0))))
      (asgS (bin mulD (vD 2) (bin powD (cD (.int 10)) (cD (.int 60)))) (nmG 2))))) skS)
      (seqS (forS (enumI (consA (slE (vD 0) noP (somP (cD (.int 63)))) nilA)) (tupG 2 (consG (nmG 4) (consG (nmG 3) nilG))) (seqS (asgS (bin addD (bin addD (bin modD (vD 3) (cD (.int 2305843009213693951))) (bin mulD (cD (.int 7919)) (vD 4))) (cD (.int 3))) (nmG 5))
      (asgS (bin modD (bin addD (bin mulD (bin ixD (vD 1) (cD (.int 1))) (cD (.int 48271))) (vD 5)) (cD (.int 2305843009213693951))) (subG (vD 1) (cD (.int 1))))))
      (retS (vD 1)))))
theorem cut63 (ns : List Int) : ∃ ms : List Int, cutD (ns.map D.int) none (some 63) = ms.map D.int ∧ ms.length ≤ 63 := by
  refine ⟨(ns.drop (HT.sIx ns.length 0 none)).take (HT.sIx ns.length ns.length (some 63) - HT.sIx ns.length 0 none), ?_, ?_⟩
  · unfold cutD
    simp only [List.length_map, List.map_take, List.map_drop]
  · rw [List.length_take]
    have : HT.sIx ns.length ns.length (some 63) ≤ 63 := by
      simp only [HT.sIx]
      rw [if_neg (by decide)]
      exact Nat.min_le_left _ _
    omega
theorem big_far {i : Nat} (h : i ≤ 63) : bigI ((10 : Int) ^ (60 * i)) = true := by
  have h1 : ((10 : Int) ^ (60 * i)).natAbs = 10 ^ (60 * i) := by rw [Int.natAbs_pow]; rfl
  have h2 : (10 : Nat) ^ (60 * i) ≤ 10 ^ (60 * 63) := Nat.pow_le_pow_right (by decide) (by omega)
  have h3 : (10 : Nat) ^ (60 * 63) < 2 ^ 16000 := by decide +kernel
  simp only [bigI, h1, decide_eq_true_eq]
  omega
theorem item_int {ms : List Int} {i : Nat} {x : D} (h : (ms.map D.int)[i]? = some x) : ∃ z, x = .int z ∧ i < ms.length := by
  rw [List.getElem?_map] at h
  cases e : ms[i]? with
  | none => rw [e] at h; cases h
  | some z => rw [e] at h; cases h; exact ⟨z, rfl, (List.getElem?_eq_some_iff.mp e).1⟩
/-- what the hand holds between two draws -/
structure Hand (n : Int) (l : Nat) (m : Mu) : Prop where
  ex : ∃ a b c, m[l]? = some (.lst [.int a, .int b, .int c]) ∧ 0 ≤ a ∧ 0 ≤ b ∧ b < 2305843009213693951 ∧ 0 ≤ c ∧ c + n ≤ 999999999999
theorem hand_spec (ns : List Int) (μ : Mu) : wp (hand0 [.fl (ns.map D.int)] μ) fun r m => r = .ref μ.length ∧ Gr μ m ∧ Hand 999999999999 μ.length m := by
  obtain ⟨ms, ec, hms⟩ := cut63 ns
  refine wp_def rfl ?_
  repeat trivial
  have loop2 : ∀ (e : Env) (m : Mu) (a : Int) (x2 x3 x4 x5 : Option D), e = [some (.fl (ns.map D.int)), some (.ref μ.length), x2, x3, x4, x5] → 0 ≤ a → m[μ.length]? = some (.lst [.int a, .int 0, .int 0]) → Gr μ m →
      ws (seqS (forS (enumI (consA (slE (vD 0) noP (somP (cD (.int 63)))) nilA)) (tupG 2 (consG (nmG 4) (consG (nmG 3) nilG))) (seqS (asgS (bin addD (bin addD (bin modD (vD 3) (cD (.int 2305843009213693951))) (bin mulD (cD (.int 7919)) (vD 4))) (cD (.int 3))) (nmG 5))
      (asgS (bin modD (bin addD (bin mulD (bin ixD (vD 1) (cD (.int 1))) (cD (.int 48271))) (vD 5)) (cD (.int 2305843009213693951))) (subG (vD 1) (cD (.int 1))))))
      (retS (vD 1)) e m) (fun x μ1 => D.non = D.ref μ.length ∧ Gr μ μ1 ∧ Hand 999999999999 μ.length μ1) (fun r m => r = D.ref μ.length ∧ Gr μ m ∧ Hand 999999999999 μ.length m) (fun _ _ => False) (fun _ _ => False) := by
    intro e m a x2 x3 x4 x5 he ha hm g
    subst he
    refine ws_seq (ws_for_enum ?_)
    refine wp_enumI ?_
    repeat trivial
    rw [ec]
    have hlt : μ.length < m.length := (List.getElem?_eq_some_iff.mp hm).1
    refine ⟨m.length, ms.map D.int, rfl, get_last _ _, m.length, ms.map D.int, rfl, fun i e k => ∃ b y3 y4 y5, e = [some (.fl (ns.map D.int)), some (.ref μ.length), x2, y3, y4, y5] ∧ 0 ≤ b ∧ b < 2305843009213693951 ∧ k[μ.length]? = some (.lst [.int a, .int b, .int 0]) ∧ k[m.length]? = some (.lst (ms.map D.int)) ∧ Gr μ k ∧ m.length < k.length, ?_, ?_, ?_, ?_⟩
    · exact ⟨0, _, _, _, rfl, by decide, by decide, get_old hm, get_last _ _, g.push _, by simp⟩
    · rintro i e k ⟨b, y3, y4, y5, _, _, _, _, h, _⟩; exact h
    · rintro i x e k hx ⟨b, y3, y4, y5, rfl, hb, hb2, hk, hk2, gk, hlen⟩
      obtain ⟨z, rfl, hi⟩ := item_int hx
      refine wp_tupG2 ?_
      repeat trivial
      refine wp_mod (by decide) ?_
      repeat trivial
      refine wp_mul (mulG_l (by decide) (by decide)) ?_
      repeat trivial
      refine wp_ixL hk rfl ?_
      repeat trivial
      refine wp_mul (mulG_r (by decide) (by decide)) ?_
      repeat trivial
      refine wp_mod (by decide) ?_
      repeat trivial
      refine ⟨μ.length, 1, _, 1, rfl, rfl, hk, rfl, ?_⟩
      exact ⟨_, _, _, _, rfl, Int.emod_nonneg _ (by decide), Int.emod_lt_of_pos _ (by decide), set_get hk, set_other hk2 (by omega), gk.set (Nat.le_refl _) _, by simpa using hlen⟩
    · rintro e k ⟨b, y3, y4, y5, rfl, hb, hb2, hk, hk2, gk, hlen⟩
      repeat trivial
      exact ⟨rfl, gk, ⟨a, b, 0, hk, ha, hb, hb2, by decide, by decide⟩⟩
  have start : (μ ++ [Cell.lst [.int 0, .int 0, .int 0]])[μ.length]? = some (.lst [.int 0, .int 0, .int 0]) := get_last _ _
  by_cases h0 : (0 : Int) < ((ns.map D.int).length : Nat)
  · rw [if_pos (decide_eq_true h0)]
    have hn : ∃ z r, ns = z :: r := by
      cases ns with
      | nil => simp at h0
      | cons z r => exact ⟨z, r, rfl⟩
    obtain ⟨z, r, rfl⟩ := hn
    repeat trivial
    refine wp_ixF (d := .int z) (by simp [atI, ixN]) ?_
    repeat trivial
    refine wp_pow (by decide) ?_
    repeat trivial
    split
    · repeat trivial
      refine ws_for_lst ?_
      refine wp_seqIL ?_
      repeat trivial
      rw [ec]
      have el : (μ ++ [Cell.lst [.int 0, .int 0, .int 0]]).length = μ.length + 1 := by simp
      refine ⟨_, ms.map D.int, rfl, get_last _ _, μ.length + 1, ms.map D.int, by rw [el], fun i e k => ∃ a y3 y4 y5, e = [some (.fl ((z :: r).map D.int)), some (.ref μ.length), some (.int (10 ^ (60 * i))), y3, y4, y5] ∧ i ≤ 63 ∧ 0 ≤ a ∧ k[μ.length]? = some (.lst [.int a, .int 0, .int 0]) ∧ k[μ.length + 1]? = some (.lst (ms.map D.int)) ∧ Gr μ k, ?_, ?_, ?_, ?_⟩
      · exact ⟨0, _, _, _, rfl, by decide, by decide, get_old start, by rw [← el]; exact get_last _ _, (Gr.refl.push _).push _⟩
      · rintro i e k ⟨a, y3, y4, y5, _, _, _, _, h, _⟩; exact h
      · rintro i x e k hx ⟨a, y3, y4, y5, rfl, hi63, ha, hk, hk2, gk⟩
        obtain ⟨z, rfl, hi⟩ := item_int hx
        repeat trivial
        refine wp_ixL hk rfl ?_
        repeat trivial
        refine wp_pow (by decide) ?_
        refine wp_mod (by decide +kernel) ?_
        repeat trivial
        have hmm : 0 ≤ (if z < 0 then -z else z) % (10 : Int) ^ (60 : Int).toNat := Int.emod_nonneg _ (by decide +kernel)
        have hm2 : (if z < 0 then -z else z) % (10 : Int) ^ (60 : Int).toNat < 10 ^ (60 : Int).toNat := Int.emod_lt_of_pos _ (by decide +kernel)
        refine wp_mul ?_ ?_
        · have b1 : bigI ((if z < 0 then -z else z) % (10 : Int) ^ (60 : Int).toNat) = true := by
            simp only [bigI, decide_eq_true_eq]
            have h3 : (10 : Int) ^ (60 : Int).toNat < 2 ^ 16000 := by decide +kernel
            omega
          simp only [mulG, b1, big_far hi63, Bool.and_true, Bool.or_true]
        repeat trivial
        refine ⟨μ.length, 0, _, 0, rfl, rfl, hk, rfl, ?_⟩
        repeat trivial
        refine wp_pow (by decide) ?_
        refine wp_mul ?_ ?_
        · have b2 : bigI ((10 : Int) ^ (60 : Int).toNat) = true := big_far (i := 1) (by decide)
          simp only [mulG, b2, big_far hi63, Bool.and_true, Bool.or_true]
        repeat trivial
        have e3 : (10 : Int) ^ (60 * i) * 10 ^ (60 : Int).toNat = 10 ^ (60 * (i + 1)) := by
          rw [Nat.mul_add, Int.pow_add]; rfl
        have hpos : 0 ≤ (10 : Int) ^ (60 * i) := Int.le_of_lt (Int.pow_pos (by decide))
        refine ⟨_, _, _, _, by rw [← e3]; rfl, by omega, ?_, set_get hk, set_other hk2 (by omega), gk.set (Nat.le_refl _) _⟩
        exact Int.add_nonneg ha (Int.mul_nonneg hmm hpos)
      · rintro e k ⟨a, y3, y4, y5, rfl, hi63, ha, hk, hk2, gk⟩
        exact loop2 _ _ a _ _ _ _ rfl ha hk gk
    · refine ws_sk ?_
      exact loop2 _ _ 0 _ _ _ _ rfl (by decide) start (Gr.refl.push _)
  · rw [if_neg (by simpa using h0), if_neg Bool.false_ne_true]
    refine ws_sk ?_
    exact loop2 _ _ 0 _ _ _ _ rfl (by decide) start (Gr.refl.push _)
/-- a draw -/
theorem draw {n : Int} {l : Nat} {μ : Mu} {m : Int} {Q : D → Mu → Prop} (h : Hand n l μ) (hn : 1 ≤ n) (hm : 0 < m) (hm2 : m < 1073741824)
    (q : ∀ v μ', 0 ≤ v → v < m → Hand (n - 1) l μ' → μ'.length = μ.length → (∀ j, j ≠ l → μ'[j]? = μ[j]?) → Q (.int v) μ') : wp (take0 [.ref l, .int m] μ) Q := by
  obtain ⟨a, b, c, hl, ha, hb, hb2, hc, hcn⟩ := h.ex
  refine wp_mono (take_spec hl ha hb hb2 hc (by omega) hm hm2) ?_
  rintro r μ' ⟨v, a', c', rfl, h1, h2, rfl, h3, h4, h5⟩
  exact q v _ h1 h2 ⟨a', b, c', set_get hl, h3, hb, hb2, h4, by omega⟩ (by simp) fun j hj => by rw [List.getElem?_set_ne (Ne.symm hj)]
/-- all but the hand's own list is as it was -/
structure Fr (l : Nat) (μ m : Mu) : Prop where
  len : μ.length ≤ m.length
  old : ∀ j, j ≠ l → j < μ.length → m[j]? = μ[j]?
theorem Fr.refl {l : Nat} {μ : Mu} : Fr l μ μ := ⟨Nat.le_refl _, fun _ _ _ => rfl⟩
theorem Fr.trans {l : Nat} {μ m k : Mu} (a : Fr l μ m) (b : Fr l m k) : Fr l μ k := ⟨Nat.le_trans a.len b.len, fun j n h => (b.old j n (Nat.lt_of_lt_of_le h a.len)).trans (a.old j n h)⟩
theorem Fr.push {l : Nat} {μ m : Mu} (a : Fr l μ m) (c : Cell) : Fr l μ (m ++ [c]) := ⟨by simp; have := a.len; omega, fun j n h => by rw [List.getElem?_append_left (Nat.lt_of_lt_of_le h a.len)]; exact a.old j n h⟩
theorem Fr.set {l : Nat} {μ m : Mu} (a : Fr l μ m) {k : Nat} (h : μ.length ≤ k) (c : Cell) : Fr l μ (m.set k c) := ⟨by simp [a.len], fun j n hj => by rw [List.getElem?_set_ne (by omega)]; exact a.old j n hj⟩
theorem Fr.get {l : Nat} {μ m : Mu} (a : Fr l μ m) {k : Nat} {c : Cell} (n : k ≠ l) (h : μ[k]? = some c) : m[k]? = some c := by rw [a.old k n (List.getElem?_eq_some_iff.mp h).1]; exact h
theorem Gr.fr {l : Nat} {μ m : Mu} (a : Gr μ m) : Fr l μ m := ⟨a.len, fun j _ h => a.old j h⟩
theorem Hand.lt {n : Int} {l : Nat} {m : Mu} (h : Hand n l m) : l < m.length := let ⟨_, _, _, e, _⟩ := h.ex; (List.getElem?_eq_some_iff.mp e).1
theorem Hand.gr {n : Int} {l : Nat} {m k : Mu} (h : Hand n l m) (g : Gr m k) : Hand n l k := let ⟨a, b, c, e, r⟩ := h.ex; ⟨a, b, c, g.get e, r⟩
theorem Hand.push {n : Int} {l : Nat} {m : Mu} (h : Hand n l m) (c : Cell) : Hand n l (m ++ [c]) := h.gr (Gr.refl.push c)
theorem Hand.set {n : Int} {l k : Nat} {m : Mu} (h : Hand n l m) (ne : l ≠ k) (c : Cell) : Hand n l (m.set k c) := let ⟨a, b, d, e, r⟩ := h.ex; ⟨a, b, d, set_other e ne, r⟩
theorem Hand.mono {n n' : Int} {l : Nat} {m : Mu} (h : Hand n l m) (le : n' ≤ n) : Hand n' l m := let ⟨a, b, c, e, h1, h2, h3, h4, h5⟩ := h.ex; ⟨a, b, c, e, h1, h2, h3, h4, by omega⟩
/-- a draw, with what stays -/
theorem drawF {n : Int} {l : Nat} {μ : Mu} {m : Int} {Q : D → Mu → Prop} (h : Hand n l μ) (hn : 1 ≤ n) (hm : 0 < m) (hm2 : m < 1073741824)
    (q : ∀ v μ', 0 ≤ v → v < m → Hand (n - 1) l μ' → Fr l μ μ' → μ'.length = μ.length → Q (.int v) μ') : wp (take0 [.ref l, .int m] μ) Q :=
  draw h hn hm hm2 fun v μ' h1 h2 h3 h4 h5 => q v μ' h1 h2 h3 ⟨by omega, fun j n _ => h5 j n⟩ h4
end CW

namespace CW
open PySem L2 PySem.W
local macro_rules | `(tactic| walk_at "w") => `(tactic| first
  | with_reducible refine ws_seq ?_ | with_reducible refine ws_asg ?_ | with_reducible refine ws_ret ?_ | with_reducible refine ws_drop ?_ | with_reducible refine ws_if ?_ | with_reducible refine ws_sk ?_
  | with_reducible refine wp_bin ?_ | with_reducible refine wp_v (by with_unfolding_all rfl) ?_ | with_reducible refine wp_c ?_ | with_reducible refine wp_tst ?_ | with_reducible refine wp_consA ?_ | with_reducible refine wp_nilA ?_
  | with_reducible refine wp_callE ?_ | with_reducible refine wp_nm ?_ | with_reducible refine wp_subG ?_ | with_reducible refine wp_tupE ?_ | with_reducible refine wp_lstE ?_ | with_reducible refine wp_andT ?_ | with_reducible refine wp_orT ?_ | with_reducible refine wp_notT ?_ | with_reducible refine wp_andV ?_ | with_reducible refine wp_orV ?_ | with_reducible refine wp_notV ?_ | with_reducible refine wp_isi ?_ | with_reducible refine wp_metE ?_
  | with_reducible refine wp_add ?_ | with_reducible refine wp_sub ?_ | with_reducible refine wp_gt ?_ | with_reducible refine wp_lt ?_ | with_reducible refine wp_ge ?_ | with_reducible refine wp_le ?_ | with_reducible refine wp_eqI ?_ | with_reducible refine wp_neI ?_
  | with_reducible refine ⟨_, rfl, ?_⟩ | with_reducible refine wp_slE ?_ | with_reducible refine wp_noP ?_ | with_reducible refine wp_somP ?_ | with_reducible refine wp_slF ?_ | with_reducible refine wp_lenF ?_ | with_reducible refine wp_lenT ?_ | with_reducible refine wp_absB ?_ | with_reducible refine wp_yes ?_ | with_reducible refine wp_dctE ?_ | with_reducible refine wp_consP ?_ | with_reducible refine wp_nilP ?_ | with_reducible refine wp_dctRecv ?_)

def hows : List Str := ["ring", "show", "talk", "hold0", "hold1", "busy", "shut", "back"]
abbrev callD (i j : Int) (how : Str) (h : Int) : D := .tup [.int i, .int j, .str how, .int h]
structure Call1 (n : Int) (d : D) : Prop where
  ex : ∃ i j how h, d = callD i j how h ∧ 0 ≤ i ∧ i < n ∧ 0 ≤ j ∧ j < n ∧ i ≠ j ∧ how ∈ hows ∧ 0 ≤ h ∧ h ≤ 1
/-- the two lines of a call, the greater one first -/
def pairD : D → Option (Int × Int)
  | .tup [.int i, .int j, .str _, .int _] => some (if i < j then (j, i) else (i, j))
  | _ => none
def Apart (a b : D) : Prop := pairD a ≠ pairD b
def calls0 : List D → Mu → Option (D × Mu) := mkSem 2 7 (seqS (asgS (lstE (consA (cD (.str ("ring" : Str))) (consA (cD (.str ("show" : Str))) (consA (cD (.str ("talk" : Str))) (consA (cD (.str ("hold0" : Str))) (consA (cD (.str ("hold1" : Str))) (consA (cD (.str ("busy" : Str))) (consA (cD (.str ("shut" : Str))) (consA (cD (.str ("back" : Str))) nilA))))))))) (nmG 2))
      (seqS (asgS (lstE nilA) (nmG 3))
      (seqS (forS (rng1 (consA (vD 1) nilA)) (nmG 4) (forS (rng1 (consA (vD 4) nilA)) (nmG 5) (ifS (tst (bin gtD (callE take0 (consA (vD 0) (consA (cD (.int 3)) nilA))) (cD (.int 0)))) (seqS (asgS (bin ixD (lstE (consA (tupE (consA (vD 5) (consA (vD 4) nilA))) (consA (tupE (consA (vD 4) (consA (vD 5) nilA))) nilA))) (callE take0 (consA (vD 0) (consA (cD (.int 2)) nilA)))) (nmG 6))
      (dropS (metE appM (lstRecv (vD 3)) (consA (bin addD (vD 6) (tupE (consA (bin ixD (vD 2) (callE take0 (consA (vD 0) (consA (cD (.int 8)) nilA)))) (consA (callE take0 (consA (vD 0) (consA (cD (.int 2)) nilA))) nilA)))) nilA)))) skS)))
      (retS (callE tupB (consA (callE srtB (consA (vD 3) nilA)) nilA))))))
theorem srt_perm (xs : List D) : (srtD xs).Perm xs := by
  unfold srtD
  split
  · exact .refl _
  · rename_i h
    have pm := srtD_mem (xs := xs) (by omega)
    have p2 : (run (ltAt xs) (kas_sort xs.length)).toList.Perm (List.range xs.length) := by
      have := (Array.perm_iff_toList_perm.mp pm)
      simpa using this
    have p3 := p2.map fun i => xs.getD i D.non
    refine p3.trans ?_
    rw [show ((List.range xs.length).map fun i => xs.getD i D.non) = xs from List.ext_getElem (by simp) fun i h1 h2 => by simp [List.getD_eq_getElem?_getD, List.getElem?_eq_getElem h2]]
theorem lex_calls {fin : Bool} {i j i' j' h h' : Int} {w w' : Str} : (lexD fin [.int i, .int j, .str w, .int h] [.int i', .int j', .str w', .int h']).isSome = true := by
  unfold lexD
  split
  · unfold lexD
    split
    · unfold lexD
      split
      · unfold lexD
        split
        · rfl
        · rfl
      · rfl
    · rfl
  · rfl
theorem cmp_calls {n : Int} {xs : List D} (h : ∀ x ∈ xs, Call1 n x) : cmpAll xs = true := by
  unfold cmpAll
  refine List.all_eq_true.mpr fun x hx => List.all_eq_true.mpr fun y hy => ?_
  obtain ⟨i, j, w, a, rfl, _⟩ := (h x hx).ex
  obtain ⟨i', j', w', a', rfl, _⟩ := (h y hy).ex
  exact lex_calls
theorem wp_srt {n : Int} {l : Nat} {xs : List D} {μ : Mu} {Q : D → Mu → Prop} (hl : μ[l]? = some (.lst xs)) (h64 : xs.length < 64) (hc : cmpAll xs = true) (q : Q (.ref μ.length) (μ ++ [.lst (srtD xs)])) : wp (srtB [.ref l] μ) Q := by
  refine wp_eq (a := .ref μ.length) (μ := μ ++ [.lst (srtD xs)]) ?_ q
  unfold srtB
  simp only
  rw [hl]; simp only; rw [if_pos h64, if_pos hc]
theorem ix_hows {v : Int} (h0 : 0 ≤ v) (h1 : v < 8) : ∃ how, atI (hows.map D.str) v = some (.str how) ∧ how ∈ hows := by
  have : v = 0 ∨ v = 1 ∨ v = 2 ∨ v = 3 ∨ v = 4 ∨ v = 5 ∨ v = 6 ∨ v = 7 := by omega
  rcases this with rfl | rfl | rfl | rfl | rfl | rfl | rfl | rfl <;> exact ⟨_, rfl, by decide⟩
theorem ix_two {a b : D} {v : Int} (h0 : 0 ≤ v) (h1 : v < 2) : ∃ d, atI [a, b] v = some d ∧ (d = a ∨ d = b) := by
  have : v = 0 ∨ v = 1 := by omega
  rcases this with rfl | rfl
  · exact ⟨a, rfl, .inl rfl⟩
  · exact ⟨b, rfl, .inr rfl⟩
/-- all calls so far stand ahead of the pair j, i -/
def Ahead (j i : Int) (d : D) : Prop := ∃ a b, pairD d = some (a, b) ∧ (a < j ∨ (a = j ∧ b < i))
theorem calls_spec {N : Int} {l : Nat} {n : Int} {μ : Mu} (h : Hand N l μ) (hN : 100 ≤ N) (h2 : 2 ≤ n) (h4 : n ≤ 4) : wp (calls0 [.ref l, .int n] μ) fun r m => (∃ xs, r = .tup xs ∧ xs.length ≤ 16 ∧ (∀ x ∈ xs, Call1 n x) ∧ xs.Pairwise Apart) ∧ Hand (N - 100) l m ∧ Fr l μ m := by
  refine wp_def rfl ?_
  have hl := h.lt
  repeat walk_at "w"
  refine ws_for_fix (wp_rng1 ?_)
  repeat walk_at "w"
  have el : ((μ ++ [Cell.lst (hows.map D.str)]) ++ [Cell.lst []]).length = μ.length + 2 := by simp
  refine ⟨by omega, by omega, _, rfl, fun jj e k => ∃ x4 x5 x6 acc, e = [some (.ref l), some (.int n), some (.ref μ.length), some (.ref (μ.length + 1)), x4, x5, x6] ∧ Hand (N - 24 * jj) l k ∧ Fr l μ k ∧ k[μ.length]? = some (.lst (hows.map D.str)) ∧ k[μ.length + 1]? = some (.lst acc) ∧ acc.length ≤ 4 * jj ∧ (∀ x ∈ acc, Call1 n x ∧ Ahead jj 0 x) ∧ acc.Pairwise Apart, ?_, ?_, ?_⟩
  · refine ⟨none, none, none, [], by simp, ((h.push _).push _).mono (by omega), (Fr.refl.push _).push _, get_old (get_last _ _), ?_, by simp, (fun x hx => nomatch hx), .nil⟩
    have := get_last (μ ++ [Cell.lst (hows.map D.str)]) (.lst [])
    simpa using this
  · rintro jj x e k hx ⟨x4, x5, x6, acc, rfl, hk, fk, c1, c2, la, hc, hp⟩
    have hj : jj < n.toNat ∧ x = .int (jj : Nat) := by
      rw [List.getElem?_map] at hx
      cases e : (List.range n.toNat)[jj]? with
      | none => rw [e] at hx; cases hx
      | some q =>
        rw [e] at hx
        obtain ⟨h1, h2⟩ := List.getElem?_eq_some_iff.mp e
        simp at h1 h2
        subst h2
        cases hx
        exact ⟨by omega, by simp⟩
    obtain ⟨hj, rfl⟩ := hj
    repeat walk_at "w"
    refine ws_for_fix (wp_rng1 ?_)
    repeat walk_at "w"
    refine ⟨by omega, by omega, _, rfl, fun ii e k' => ∃ x5 x6 acc', e = [some (.ref l), some (.int n), some (.ref μ.length), some (.ref (μ.length + 1)), some (.int (jj : Nat)), x5, x6] ∧ Hand (N - 24 * jj - 6 * ii) l k' ∧ Fr l μ k' ∧ k'[μ.length]? = some (.lst (hows.map D.str)) ∧ k'[μ.length + 1]? = some (.lst acc') ∧ acc'.length ≤ 4 * jj + ii ∧ (∀ x ∈ acc', Call1 n x ∧ Ahead jj ii x) ∧ acc'.Pairwise Apart, ?_, ?_, ?_⟩
    · exact ⟨_, _, acc, rfl, hk.mono (by omega), fk, c1, c2, by omega, hc, hp⟩
    · rintro ii x e k' hx' ⟨x5, x6, acc', rfl, hk', fk', c1', c2', la', hc', hp'⟩
      have hi : ii < jj ∧ x = .int (ii : Nat) := by
        rw [List.getElem?_map] at hx'
        cases e : (List.range ((jj : Nat) : Int).toNat)[ii]? with
        | none => rw [e] at hx'; cases hx'
        | some q =>
          rw [e] at hx'
          obtain ⟨h1, h2⟩ := List.getElem?_eq_some_iff.mp e
          simp at h1 h2
          subst h2
          cases hx'
          exact ⟨by omega, by simp⟩
      obtain ⟨hi, rfl⟩ := hi
      have up : ∀ x ∈ acc', Call1 n x ∧ Ahead jj (ii + 1 : Nat) x := fun x hx => ⟨(hc' x hx).1, by
        obtain ⟨a, b, e, o⟩ := (hc' x hx).2
        exact ⟨a, b, e, by rcases o with o | ⟨o1, o2⟩; exact .inl o; exact .inr ⟨o1, by omega⟩⟩⟩
      repeat walk_at "w"
      refine drawF hk' (by omega) (by decide) (by decide) fun v k1 v0 v1 hk1 fk1 ek1 => ?_
      repeat walk_at "w"
      have d1 := fk1.get (k := μ.length) (by omega) c1'
      have d2 := fk1.get (k := μ.length + 1) (by omega) c2'
      by_cases hv : 0 < v
      · rw [if_pos (decide_eq_true hv)]
        repeat walk_at "w"
        refine drawF (hk1.push _) (by omega) (by decide) (by decide) fun w k2 w0 w1 hk2 fk2 ek2 => ?_
        have lk1 : l < k1.length := hk1.lt
        have e1 := fk2.get (by omega) (get_last k1 (Cell.lst [.tup [.int (ii : Nat), .int (jj : Nat)], .tup [.int (jj : Nat), .int (ii : Nat)]]))
        obtain ⟨pd, ep, hpd⟩ := ix_two (a := D.tup [.int (ii : Nat), .int (jj : Nat)]) (b := D.tup [.int (jj : Nat), .int (ii : Nat)]) w0 w1
        refine wp_ixL e1 ep ?_
        repeat walk_at "w"
        have f1 := fk2.get (k := μ.length) (by omega) (get_old d1)
        have f2 := fk2.get (k := μ.length + 1) (by omega) (get_old d2)
        refine wp_lstRecv (l := 0) (xs := []) ?_
        repeat walk_at "w"
        refine ⟨_, acc', rfl, f2, ?_⟩
        repeat walk_at "w"
        refine drawF hk2 (by omega) (by decide) (by decide) fun q k3 q0 q1 hk3 fk3 ek3 => ?_
        have g1 := fk3.get (k := μ.length) (by omega) f1
        have g2 := fk3.get (k := μ.length + 1) (by omega) f2
        obtain ⟨how, eh, hh⟩ := ix_hows q0 q1
        refine wp_ixL g1 eh ?_
        repeat walk_at "w"
        refine drawF hk3 (by omega) (by decide) (by decide) fun hd k4 hd0 hd1 hk4 fk4 ek4 => ?_
        have m1 := fk4.get (k := μ.length) (by omega) g1
        have m2 := fk4.get (k := μ.length + 1) (by omega) g2
        repeat walk_at "w"
        have hadd : ∃ c : D, addD pd (.tup [.str how, .int hd]) k4 = some (c, k4) ∧ Call1 n c ∧ pairD c = some ((jj : Int), (ii : Int)) := by
          rcases hpd with rfl | rfl
          · refine ⟨callD ii jj how hd, rfl, ⟨_, _, _, _, rfl, by omega, by omega, by omega, by omega, by omega, hh, by omega, by omega⟩, ?_⟩
            simp [pairD, hi]
          · refine ⟨callD jj ii how hd, rfl, ⟨_, _, _, _, rfl, by omega, by omega, by omega, by omega, by omega, hh, by omega, by omega⟩, ?_⟩
            simp [pairD]; omega
        obtain ⟨c, ec, hcl, hpr⟩ := hadd
        refine wp_eq ec ?_
        repeat walk_at "w"
        refine wp_app m2 (by omega) ?_
        have fall := ((((fk'.trans fk1).trans (Fr.refl.push _)).trans fk2).trans fk3).trans fk4
        refine ⟨_, _, acc' ++ [c], rfl, (hk4.set (by omega) _).mono (by omega), fall.set (by omega) _, set_other m1 (by omega), set_get m2, by simp; omega, fun x hx => ?_, ?_⟩
        · rcases List.mem_append.mp hx with hx | hx
          · exact up x hx
          · rw [List.mem_singleton.mp hx]
            exact ⟨hcl, _, _, hpr, .inr ⟨rfl, by omega⟩⟩
        · refine List.pairwise_append.mpr ⟨hp', List.pairwise_singleton _ _, fun x hx y hy => ?_⟩
          rw [List.mem_singleton.mp hy]
          obtain ⟨a, b, e, o⟩ := (hc' x hx).2
          unfold Apart
          rw [e, hpr]
          intro z
          have z1 := Option.some.inj z
          rw [Prod.mk.injEq] at z1
          omega
      · rw [if_neg (by simpa using hv)]
        refine ws_sk ?_
        exact ⟨_, _, acc', rfl, hk1.mono (by omega), fk'.trans fk1, d1, d2, by omega, up, hp'⟩
    · rintro e k' ⟨x5, x6, acc', rfl, hk', fk', c1', c2', la', hc', hp'⟩
      simp only [List.length_map, List.length_range, Int.toNat_natCast] at hk' la' hc'
      refine ⟨_, _, _, acc', rfl, hk'.mono (by omega), fk', c1', c2', by omega, fun x hx => ⟨(hc' x hx).1, ?_⟩, hp'⟩
      obtain ⟨a, b, e, o⟩ := (hc' x hx).2
      exact ⟨a, b, e, .inl (by rcases o with o | ⟨o1, o2⟩ <;> omega)⟩
  · rintro e k ⟨x4, x5, x6, acc, rfl, hk, fk, c1, c2, la, hc, hp⟩
    simp only [List.length_map, List.length_range] at hk la
    repeat walk_at "w"
    have hall : ∀ x ∈ acc, Call1 n x := fun x hx => (hc x hx).1
    refine wp_srt (n := n) c2 (by omega) (cmp_calls hall) ?_
    repeat walk_at "w"
    refine wp_tupL (get_last _ _) ?_
    have pm := srt_perm acc
    refine ⟨⟨_, rfl, by rw [pm.length_eq]; omega, fun x hx => hall x (pm.mem_iff.mp hx), (pm.pairwise_iff fun {a b} (z : Apart a b) => Ne.symm z).mpr hp⟩, (hk.push _).mono (by omega), fk.push _⟩
end CW

namespace CW
open PySem L2

def Ev (f : Sm) (env : Env) (d : D) : Prop := ∀ m, f env m = some (d, m)
def EvT (f : Tm) (env : Env) (b : Bool) : Prop := ∀ m, f env m = some (b, m)
def EvA (f : Am) (env : Env) (ds : List D) : Prop := ∀ m, f env m = some (ds, m)
def EvP (f : Pm) (env : Env) (o : Option Int) : Prop := ∀ m, f env m = some (o, m)
def EvS (f : Bm) (env : Env) (r : Fl) : Prop := ∀ m, f env m = some (r, m)
def PF (sem : List D → Mu → Option (D × Mu)) (ds : List D) (d : D) : Prop := ∀ m, sem ds m = some (d, m)
def OpV (o : D → D → Mu → Option (D × Mu)) (x y z : D) : Prop := ∀ m, o x y m = some (z, m)
section
variable {env env1 : Env} {f g : Sm} {t u : Tm} {s s2 : Bm} {d x y z : D} {ds : List D} {a b : Bool} {i : Nat} {r : Fl}
theorem ev_v (h : env[i]? = some (some d)) : Ev (vD i) env d := fun m => by unfold vD; rw [h]
theorem ev_c : Ev (cD d) env d := fun _ => rfl
theorem ev_bin {o : D → D → Mu → Option (D × Mu)} (hx : Ev f env x) (hy : Ev g env y) (ho : OpV o x y z) : Ev (CW.bin o f g) env z := fun m => by unfold CW.bin; rw [hx m]; simp only; rw [hy m]; exact ho m
theorem ev_orV (hx : Ev f env (.bl a)) (hy : a = false → Ev g env (.bl b)) : Ev (orV f g) env (.bl (a || b)) := fun m => by
  unfold orV; rw [hx m]; simp only
  cases a with
  | true => rfl
  | false => rw [if_neg Bool.false_ne_true]; exact hy rfl m
theorem ev_andV (hx : Ev f env (.bl a)) (hy : a = true → Ev g env (.bl b)) : Ev (andV f g) env (.bl (a && b)) := fun m => by
  unfold andV; rw [hx m]; simp only
  cases a with
  | false => rfl
  | true => rw [if_pos rfl]; exact hy rfl m
theorem ev_notV (hx : Ev f env (.bl a)) : Ev (notV f) env (.bl (!a)) := fun m => by unfold notV; rw [hx m]
theorem ev_ifV (hc : EvT t env a) (h1 : a = true → Ev f env x) (h2 : a = false → Ev g env y) : Ev (ifV t f g) env (if a = true then x else y) := fun m => by
  unfold ifV; rw [hc m]; simp only
  cases a with
  | true => rw [if_pos rfl, if_pos rfl]; exact h1 rfl m
  | false => rw [if_neg Bool.false_ne_true, if_neg Bool.false_ne_true]; exact h2 rfl m
theorem evt_tst (hx : Ev f env (.bl a)) : EvT (tst f) env a := fun m => by unfold tst; rw [hx m]
theorem evt_not (hx : EvT t env a) : EvT (notT t) env (!a) := fun m => by unfold notT; rw [hx m]
theorem evt_and (hx : EvT t env a) (hy : a = true → EvT u env b) : EvT (andT t u) env (a && b) := fun m => by
  unfold andT; rw [hx m]; simp only
  cases a with
  | false => rfl
  | true => rw [if_pos rfl]; exact hy rfl m
theorem evt_or (hx : EvT t env a) (hy : a = false → EvT u env b) : EvT (orT t u) env (a || b) := fun m => by
  unfold orT; rw [hx m]; simp only
  cases a with
  | true => rfl
  | false => rw [if_neg Bool.false_ne_true]; exact hy rfl m
theorem evt_yes : EvT yesT env true := fun _ => rfl
theorem eva_nil : EvA nilA env [] := fun _ => rfl
theorem eva_cons {k : Am} (hx : Ev f env x) (hy : EvA k env ds) : EvA (consA f k) env (x :: ds) := fun m => by unfold consA; rw [hx m]; simp only; rw [hy m]
theorem ev_tup {k : Am} (h : EvA k env ds) : Ev (tupE k) env (.tup ds) := fun m => by unfold tupE; rw [h m]
theorem ev_call {k : Am} {sem : List D → Mu → Option (D × Mu)} (h : EvA k env ds) (p : PF sem ds d) : Ev (callE sem k) env d := fun m => by unfold callE; rw [h m]; exact p m
theorem evp_no : EvP noP env none := fun _ => rfl
theorem evp_som {k : Int} (h : Ev f env (.int k)) : EvP (somP f) env (some k) := fun m => by unfold somP; rw [h m]
theorem ev_slT {xs : List D} {lo hi : Option Int} {p q : Pm} (h : Ev f env (.tup xs)) (hp : EvP p env lo) (hq : EvP q env hi) : Ev (slE f p q) env (.tup (cutD xs lo hi)) := fun m => by
  unfold slE; rw [h m]; simp only; rw [hp m]; simp only; rw [hq m]; rfl
theorem ev_to (h : Ev f env x) (e : x = d) : Ev f env d := e ▸ h
theorem pf_to {sem : List D → Mu → Option (D × Mu)} (h : PF sem ds x) (e : x = d) : PF sem ds d := e ▸ h
theorem evt_to (h : EvT t env a) (e : a = b) : EvT t env b := e ▸ h
theorem op_eqI {p q : Int} : OpV eqD (.int p) (.int q) (.bl (p == q)) := fun m => by simp [eqD, pyD, PyData.eqv]
theorem op_neI {p q : Int} : OpV neD (.int p) (.int q) (.bl (!(p == q))) := fun m => by simp [neD, pyD, PyData.eqv]
theorem op_eqS {p q : Str} (hp : PyData.strOk p = true) (hq : PyData.strOk q = true) : OpV eqD (.str p) (.str q) (.bl (p == q)) := fun m => by simp [eqD, pyD, PyData.eqv, hp, hq]
theorem op_neS {p q : Str} (hp : PyData.strOk p = true) (hq : PyData.strOk q = true) : OpV neD (.str p) (.str q) (.bl (!(p == q))) := fun m => by simp [neD, pyD, PyData.eqv, hp, hq]
theorem op_ixT {xs : List D} {k : Int} (h : atI xs k = some d) : OpV ixD (.tup xs) (.int k) d := fun m => by unfold ixD itemsD; simp only; rw [h]
theorem op_isN {neg : Bool} : OpV (isND neg) .non .non (.bl (!neg)) := fun _ => rfl
theorem op_isT {neg : Bool} {xs : List D} : OpV (isND neg) (.tup xs) .non (.bl neg) := fun _ => rfl
theorem op_isI {neg : Bool} {k : Int} : OpV (isND neg) (.int k) .non (.bl neg) := fun _ => rfl
theorem pf_len {xs : List D} : PF lenB [.tup xs] (.int (xs.length : Nat)) := fun _ => rfl
theorem pf_intB : PF intB [.bl a] (.int (if a = true then 1 else 0)) := fun _ => rfl
theorem py_strs {n : Nat} {m : Mu} : ∀ {ys : List Str}, (∀ y ∈ ys, PyData.strOk y = true) → (ys.map D.str).mapM (pyD n m) = some (ys.map PyData.str)
  | [], _ => rfl
  | y :: ys, h => by
    rw [List.map_cons, List.mapM_cons]
    have h1 : pyD n m (.str y) = some (.str y) := by cases n <;> simp [pyD, h y List.mem_cons_self]
    rw [h1, py_strs fun z hz => h z (List.mem_cons_of_mem _ hz)]
    rfl
theorem py_ints {n : Nat} {m : Mu} : ∀ (ys : List Int), (ys.map D.int).mapM (pyD n m) = some (ys.map PyData.int)
  | [] => rfl
  | y :: ys => by
    rw [List.map_cons, List.mapM_cons]
    have h1 : pyD n m (.int y) = some (.int y) := by cases n <;> rfl
    rw [h1, py_ints ys]
    rfl
theorem op_inS {neg : Bool} {w : Str} {xs : List D} (ys : List Str) (hw : PyData.strOk w = true) (h : (ys.all fun y => PyData.strOk y) = true) (e : xs = ys.map D.str) : OpV (inD neg) (.str w) (.tup xs) (.bl (neg ^^ ys.any fun y => y == w)) := fun m => by
  subst e
  have h1 : pyD 8 m (.str w) = some (.str w) := by simp [pyD, hw]
  have h2 : pyD 8 m (.tup (ys.map D.str)) = some (.tuple (ys.map PyData.str)) := by
    show (List.mapM (pyD 7 m) (ys.map D.str)).map PyData.tuple = _
    rw [py_strs fun y hy => List.all_eq_true.mp h y hy]; rfl
  have h3 : ((ys.map PyData.str).any fun z => z.eqv (.str w)) = ys.any fun y => y == w := by rw [List.any_map]; rfl
  unfold inD
  rw [h1, h2]; simp only; rw [h3]
  cases neg <;> simp
theorem op_inI {neg : Bool} {w : Int} {xs : List D} (ys : List Int) (e : xs = ys.map D.int) : OpV (inD neg) (.int w) (.tup xs) (.bl (neg ^^ ys.any fun y => y == w)) := fun m => by
  subst e
  have h1 : pyD 8 m (.int w) = some (.int w) := rfl
  have h2 : pyD 8 m (.tup (ys.map D.int)) = some (.tuple (ys.map PyData.int)) := by
    show (List.mapM (pyD 7 m) (ys.map D.int)).map PyData.tuple = _
    rw [py_ints ys]; rfl
  have h3 : ((ys.map PyData.int).any fun z => z.eqv (.int w)) = ys.any fun y => y == w := by rw [List.any_map]; rfl
  unfold inD
  rw [h1, h2]; simp only; rw [h3]
  cases neg <;> simp
theorem evs_ret (h : Ev f env d) : EvS (retS f) env (.rt d) := fun m => by unfold retS; rw [h m]
theorem evs_nx (h : EvS s env (.nx env1)) (h2 : EvS s2 env1 r) : EvS (seqS s s2) env r := fun m => by unfold seqS; rw [h m]; exact h2 m
theorem pf_def {np n : Nat} (hl : ds.length = np) (h : EvS s (ds.map some ++ List.replicate (n - np) none) (.rt d)) : PF (mkSem np n s) ds d := fun m => by unfold mkSem; rw [if_pos hl, h m]
/-- for x in xs: if p: return x -/
theorem evs_find {xs : List D} {j : Nat} {p : D → Bool} (hf : Ev f env (.tup xs)) (ht : ∀ x ∈ xs, EvT t (env.set j (some x)) (p x)) (hj : j < env.length) (hr : ∀ e, EvS s2 e (.rt d)) :
    EvS (seqS (forS (seqI f) (nmG j) (ifS t (retS (vD j)) skS)) s2) env (.rt ((xs.find? p).getD d)) := fun m => by
  have go : ∀ (ys : List D) (i : Nat) (e : Env), xs.drop i = ys → e.set j none = env.set j none → ∃ r, forGo (fixIt xs).item (nmG j) (ifS t (retS (vD j)) skS) (ys.length + 1) i e m = some (r, m) ∧ match ys.find? p with
      | some x => r = .rt x
      | none => ∃ e', r = .nx e' := by
    intro ys
    induction ys with
    | nil =>
      intro i e hd _
      have hx : xs[i]? = none := by
        have := List.drop_eq_nil_iff.mp hd
        exact List.getElem?_eq_none_iff.mpr this
      refine ⟨.nx e, ?_, e, rfl⟩
      unfold forGo
      have e0 : (fixIt xs).item i m = some none := by show some xs[i]? = _; rw [hx]
      rw [e0]
    | cons y ys ih =>
      intro i e hd he
      have hx : xs[i]? = some y := by
        have := congrArg (fun l => l[0]?) hd
        simpa using this
      have hd' : xs.drop (i + 1) = ys := by
        have := congrArg List.tail hd
        simpa [List.tail_drop] using this
      have e1 : e.set j (some y) = env.set j (some y) := by
        have := congrArg (fun l => l.set j (some y)) he
        simpa using this
      have e0 : (fixIt xs).item i m = some (some y) := by show some xs[i]? = _; rw [hx]
      have hp := ht y (List.mem_of_getElem? hx) m
      rw [List.length_cons]
      unfold forGo
      rw [e0]; simp only
      have e2 : nmG j y e m = some (env.set j (some y), m) := by unfold nmG; rw [e1]
      rw [e2]; simp only
      rw [List.find?_cons]
      cases hpy : p y with
      | true =>
        rw [hpy] at hp
        have e3 : ifS t (retS (vD j)) skS (env.set j (some y)) m = some (.rt y, m) := by
          unfold ifS; rw [hp]; simp only [if_true]; unfold retS vD; rw [List.getElem?_set_self hj]
        rw [e3]
        exact ⟨_, rfl, rfl⟩
      | false =>
        rw [hpy] at hp
        have e3 : ifS t (retS (vD j)) skS (env.set j (some y)) m = some (.nx (env.set j (some y)), m) := by
          unfold ifS; rw [hp]; simp only [Bool.false_eq_true, if_false]; rfl
        rw [e3]
        exact ih (i + 1) _ hd' (by rw [List.set_set])
  obtain ⟨r, e1, e2⟩ := go xs 0 env rfl rfl
  have e3 : seqI f env m = some (fixIt xs, m) := by unfold seqI; rw [hf m]
  unfold seqS forS
  rw [e3]; simp only
  rw [show (fixIt xs).fuel = xs.length + 1 from rfl, e1]
  cases h : xs.find? p with
  | some x =>
    rw [h] at e2
    rw [show r = .rt x from e2]
    rfl
  | none =>
    rw [h] at e2
    obtain ⟨e', rfl⟩ := e2
    exact hr e' m
/-- generators -/
theorem ev_tupG {xs : List D} {j : Nat} {vs : List Nat} {p : D → Bool} {k : D → D} (hf : Ev f env (.tup xs)) (ht : ∀ x ∈ xs, EvT t ((wipeE env vs).set j (some x)) (p x)) (he : ∀ x ∈ xs, p x = true → Ev g ((wipeE env vs).set j (some x)) (k x)) (hz : xs.length ≤ 1000000) :
    Ev (tupGE (seqI f) (nmG j) t g vs) env (.tup ((xs.filter p).map k)) := fun m => by
  have go : ∀ (ys : List D) (i : Nat), xs.drop i = ys → tupGo (fixIt xs).item (nmG j) t g (wipeE env vs) (ys.length + 1) i m = some ((ys.filter p).map k, m) := by
    intro ys
    induction ys with
    | nil =>
      intro i hd
      have hx : xs[i]? = none := List.getElem?_eq_none_iff.mpr (List.drop_eq_nil_iff.mp hd)
      unfold tupGo
      have e0 : (fixIt xs).item i m = some none := by show some xs[i]? = _; rw [hx]
      rw [e0]; rfl
    | cons y ys ih =>
      intro i hd
      have hx : xs[i]? = some y := by
        have := congrArg (fun l => l[0]?) hd
        simpa using this
      have hd' : xs.drop (i + 1) = ys := by
        have := congrArg List.tail hd
        simpa [List.tail_drop] using this
      have e0 : (fixIt xs).item i m = some (some y) := by show some xs[i]? = _; rw [hx]
      have hm := List.mem_of_getElem? hx
      have hp := ht y hm m
      rw [List.length_cons]
      unfold tupGo
      rw [e0]; simp only
      rw [show nmG j y (wipeE env vs) m = some ((wipeE env vs).set j (some y), m) from rfl]; simp only
      rw [hp]; simp only
      cases hpy : p y with
      | true =>
        rw [if_pos rfl, he y hm hpy m]; simp only
        rw [ih (i + 1) hd', List.filter_cons, if_pos hpy]; rfl
      | false =>
        rw [if_neg Bool.false_ne_true, ih (i + 1) hd', List.filter_cons, if_neg (by rw [hpy]; exact Bool.false_ne_true)]
  unfold tupGE
  have e3 : seqI f env m = some (fixIt xs, m) := by unfold seqI; rw [hf m]
  rw [e3]; simp only
  rw [show (fixIt xs).fuel = xs.length + 1 from rfl, go xs 0 rfl]; simp only
  rw [if_pos (by rw [List.length_map]; exact Nat.le_trans (List.length_filter_le _ _) hz)]
theorem ev_allG {stop : Bool} {xs : List D} {j : Nat} {vs : List Nat} {p k : D → Bool} (hf : Ev f env (.tup xs)) (ht : ∀ x ∈ xs, EvT t ((wipeE env vs).set j (some x)) (p x)) (he : ∀ x ∈ xs, p x = true → Ev g ((wipeE env vs).set j (some x)) (.bl (k x))) :
    Ev (allE stop (seqI f) (nmG j) t g vs) env (.bl (if stop = true then (xs.filter p).any k else (xs.filter p).all k)) := fun m => by
  have go : ∀ (ys : List D) (i : Nat), xs.drop i = ys → allGo stop (fixIt xs).item (nmG j) t g (wipeE env vs) (ys.length + 1) i m = some (if stop = true then (ys.filter p).any k else (ys.filter p).all k, m) := by
    intro ys
    induction ys with
    | nil =>
      intro i hd
      have hx : xs[i]? = none := List.getElem?_eq_none_iff.mpr (List.drop_eq_nil_iff.mp hd)
      unfold allGo
      have e0 : (fixIt xs).item i m = some none := by show some xs[i]? = _; rw [hx]
      rw [e0]; cases stop <;> rfl
    | cons y ys ih =>
      intro i hd
      have hx : xs[i]? = some y := by
        have := congrArg (fun l => l[0]?) hd
        simpa using this
      have hd' : xs.drop (i + 1) = ys := by
        have := congrArg List.tail hd
        simpa [List.tail_drop] using this
      have e0 : (fixIt xs).item i m = some (some y) := by show some xs[i]? = _; rw [hx]
      have hm := List.mem_of_getElem? hx
      have hp := ht y hm m
      rw [List.length_cons]
      unfold allGo
      rw [e0]; simp only
      rw [show nmG j y (wipeE env vs) m = some ((wipeE env vs).set j (some y), m) from rfl]; simp only
      rw [hp]; simp only
      cases hpy : p y with
      | true =>
        have ef : (y :: ys).filter p = y :: ys.filter p := by rw [List.filter_cons, if_pos hpy]
        rw [if_pos rfl, he y hm hpy m]; simp only
        rw [ih (i + 1) hd', ef]
        cases stop <;> cases hk : k y <;> simp [hk]
      | false =>
        have ef : (y :: ys).filter p = ys.filter p := by rw [List.filter_cons, if_neg (by rw [hpy]; exact Bool.false_ne_true)]
        rw [if_neg Bool.false_ne_true, ih (i + 1) hd', ef]
  unfold allE
  have e3 : seqI f env m = some (fixIt xs, m) := by unfold seqI; rw [hf m]
  rw [e3]; simp only
  rw [show (fixIt xs).fuel = xs.length + 1 from rfl, go xs 0 rfl]
/-- a list comprehension whose parts leave the store -/
theorem wp_lcP {Q : D → Mu → Prop} {μ : Mu} {fi : Im} {j : Nat} {vs : List Nat} {p : D → Bool} {k : D → D} (h : wp (fi env μ) fun it μ1 => ∃ xs, it = fixIt xs ∧ xs.length < 1000000 ∧ (∀ x ∈ xs, EvT t ((wipeE env vs).set j (some x)) (p x)) ∧ (∀ x ∈ xs, p x = true → Ev g ((wipeE env vs).set j (some x)) (k x)) ∧
    Q (.ref μ1.length) (μ1 ++ [.lst ((xs.filter p).map k)])) : wp (lcE fi (nmG j) t g vs env μ) Q := by
  obtain ⟨it, μ1, e1, xs, rfl, hz, ht, he, q⟩ := h
  refine wp_lc ⟨_, μ1, e1, xs, rfl, hz, fun i m acc => m = μ1 ++ [.lst acc] ∧ acc = ((xs.take i).filter p).map k ∧ acc.length ≤ i, ⟨rfl, rfl, Nat.le_refl _⟩, fun i m acc _ => rfl, fun i m acc ⟨h1, _, h3⟩ => ⟨by rw [h1]; exact get_last _ _, h3⟩, fun i x m acc hx ⟨h1, h2, h3⟩ => ?_, fun m acc ⟨h1, h2, _⟩ => ?_⟩
  · have hm := List.mem_of_getElem? hx
    have htk : xs.take (i + 1) = xs.take i ++ [x] := by rw [List.take_add_one, hx]; rfl
    refine wp_nm (wp_eq (ht x hm m) ?_)
    cases hp : p x with
    | true =>
      rw [if_pos rfl]
      refine wp_eq (he x hm hp m) ⟨by rw [h1]; exact get_last _ _, by rw [h1]; simp, ?_, by simp; exact h3⟩
      rw [h2, htk, List.filter_append, List.map_append, List.filter_cons, if_pos hp]; rfl
    | false =>
      rw [if_neg Bool.false_ne_true]
      refine ⟨h1, ?_, by omega⟩
      rw [h2, htk, List.filter_append, List.filter_cons, if_neg (by rw [hp]; exact Bool.false_ne_true)]; simp
  · rw [List.take_of_length_le (Nat.le_refl _)] at h2
    rw [h1, h2]; exact q
end
theorem wp_pf {Q : D → Mu → Prop} {sem : List D → Mu → Option (D × Mu)} {ds : List D} {d : D} {μ : Mu} (h : PF sem ds d) (q : Q d μ) : wp (sem ds μ) Q := wp_eq (h μ) q
theorem wp_ev {Q : D → Mu → Prop} {f : Sm} {env : Env} {d : D} {μ : Mu} (h : Ev f env d) (q : Q d μ) : wp (f env μ) Q := wp_eq (h μ) q
end CW

namespace CW
open PySem L2
local macro_rules | `(tactic| walk_at "w") => `(tactic| first
  | with_reducible refine ws_seq ?_ | with_reducible refine ws_asg ?_ | with_reducible refine ws_ret ?_ | with_reducible refine ws_drop ?_ | with_reducible refine ws_if ?_ | with_reducible refine ws_sk ?_
  | with_reducible refine wp_bin ?_ | with_reducible refine wp_v (by with_unfolding_all rfl) ?_ | with_reducible refine wp_c ?_ | with_reducible refine wp_tst ?_ | with_reducible refine wp_consA ?_ | with_reducible refine wp_nilA ?_
  | with_reducible refine wp_callE ?_ | with_reducible refine wp_nm ?_ | with_reducible refine wp_subG ?_ | with_reducible refine wp_tupE ?_ | with_reducible refine wp_lstE ?_ | with_reducible refine wp_andT ?_ | with_reducible refine wp_orT ?_ | with_reducible refine wp_notT ?_ | with_reducible refine wp_andV ?_ | with_reducible refine wp_orV ?_ | with_reducible refine wp_notV ?_ | with_reducible refine wp_isi ?_ | with_reducible refine wp_metE ?_
  | with_reducible refine wp_add ?_ | with_reducible refine wp_sub ?_ | with_reducible refine wp_gt ?_ | with_reducible refine wp_lt ?_ | with_reducible refine wp_ge ?_ | with_reducible refine wp_le ?_ | with_reducible refine wp_eqI ?_ | with_reducible refine wp_neI ?_
  | with_reducible refine ⟨_, rfl, ?_⟩ | with_reducible refine wp_slE ?_ | with_reducible refine wp_noP ?_ | with_reducible refine wp_somP ?_ | with_reducible refine wp_slF ?_ | with_reducible refine wp_lenF ?_ | with_reducible refine wp_lenT ?_ | with_reducible refine wp_absB ?_ | with_reducible refine wp_yes ?_)
def same0 : Nat → List D → Mu → Option (D × Mu)
  | 0 => fun _ _ => none
  | n + 1 => mkSem 2 4 (seqS (ifS (tst (isiE "tuple" (vD 1))) (seqS (ifS (orT (notT (tst (isiE "tuple" (vD 0)))) (tst (CW.bin neD (callE lenB (consA (vD 0) nilA)) (callE lenB (consA (vD 1) nilA))))) (retS (cD (.bl false))) skS)
      (retS (callE (allB false) (consA (lcE (zipI (consA (vD 0) (consA (vD 1) nilA))) (tupG 2 (consG (nmG 2) (consG (nmG 3) nilG))) yesT (callE (same0 n) (consA (vD 2) (consA (vD 3) nilA))) [2, 3]) nilA)))) skS)
      (seqS (ifS (tst (CW.bin (isND false) (vD 1) (cD .non))) (retS (CW.bin (isND false) (vD 0) (cD .non))) skS)
      (seqS (ifS (tst (isiE "str" (vD 1))) (retS (andV (isiE "str" (vD 0)) (CW.bin eqD (vD 0) (vD 1)))) skS)
      (seqS (ifS (orT (tst (isiE "bool" (vD 1))) (tst (isiE "bool" (vD 0)))) (retS (andV (isiE "bool" (vD 0)) (andV (isiE "bool" (vD 1)) (CW.bin eqD (vD 0) (vD 1))))) skS)
      (retS (andV (isiE "int" (vD 0)) (CW.bin eqD (vD 0) (vD 1))))))))
theorem bls_rep : ∀ n, blsD (List.replicate n (.bl true)) = some (List.replicate n true)
  | 0 => rfl
  | n + 1 => by rw [List.replicate_succ, List.replicate_succ]; show (blsD (List.replicate n (.bl true))).map _ = _; rw [bls_rep n]; rfl
theorem ok_hows : ∀ {x : Str}, x ∈ hows → PyData.strOk x = true := by decide +kernel
end CW

namespace CW
open PySem L2
def both (how : Str) : Bool := (["ring", "show", "talk", "hold0", "hold1"] : List Str).any fun y => y == how
def fIn (line : Int) : D → Bool
  | .tup [.int i, .int j, .str how, .int _] => i == line || (j == line && both how)
  | _ => false
def fTalk (line : Int) : D → Bool
  | .tup [.int i, .int j, .str how, .int _] => how == "talk" && (i == line || j == line)
  | _ => false
def fHeld (line : Int) : D → Bool
  | .tup [.int i, .int j, .str how, .int _] => (i == line && how == "hold0") || (j == line && how == "hold1")
  | _ => false
def fShown (line : Int) : D → Bool
  | .tup [.int _, .int j, .str how, .int _] => j == line && how == "show"
  | _ => false
def fRing (line : Int) : D → Bool
  | .tup [.int i, .int j, .str how, .int _] => (j == line && how == "ring") || (i == line && how == "back")
  | _ => false
def fPair (p q : Int) : D → Bool
  | .tup [.int i, .int j, .str _, .int _] => (p == i && q == j) || (q == i && p == j)
  | _ => false
section
variable {n line : Int} {xs : List D}
theorem pf_of {sem : List D → Mu → Option (D × Mu)} {p : D → Bool} (h : ∀ {i j hd : Int} {how : Str}, how ∈ hows → PF sem [callD i j how hd, .int line] (.bl (p (callD i j how hd)))) {x : D} (hx : Call1 n x) : PF sem [x, .int line] (.bl (p x)) := by
  obtain ⟨i, j, how, hd, rfl, _, _, _, _, _, hw, _, _⟩ := hx.ex
  exact h hw
theorem py_call {k : Nat} (hk : 1 ≤ k) {m : Mu} {x : D} (hx : Call1 n x) : ∃ p, pyD k m x = some p := by
  obtain ⟨i, j, how, hd, rfl, _, _, _, _, _, hw, _, _⟩ := hx.ex
  obtain ⟨k, rfl⟩ : ∃ k', k = k' + 1 := ⟨k - 1, by omega⟩
  refine ⟨.tuple [.int i, .int j, .str how, .int hd], ?_⟩
  have h1 : ∀ z : Int, pyD k m (.int z) = some (.int z) := fun z => by cases k <;> rfl
  have h2 : pyD k m (.str how) = some (.str how) := by cases k <;> simp [pyD, ok_hows hw]
  show (List.mapM (pyD k m) [.int i, .int j, .str how, .int hd]).map PyData.tuple = _
  simp [List.mapM_cons, h1, h2]
end
section
variable {env : Env} {f g : Sm} {t : Tm} {s s2 : Bm} {d x z : D} {r : Fl} {a : Bool}
theorem ev_una {o : D → Mu → Option (D × Mu)} (h : Ev f env x) (ho : ∀ m, o x m = some (z, m)) : Ev (una o f) env z := fun m => by unfold una; rw [h m]; exact ho m
theorem evs_no (h : EvT t env false) (h2 : EvS s2 env r) : EvS (seqS (ifS t s skS) s2) env r := fun m => by
  unfold seqS ifS; rw [h m]; simp only [Bool.false_eq_true, if_false]; exact h2 m
theorem evs_yes (h : EvT t env true) (h2 : Ev f env d) : EvS (seqS (ifS t (retS f) skS) s2) env (.rt d) := fun m => by
  unfold seqS ifS; rw [h m]; simp only [if_true]; unfold retS; rw [h2 m]
/-- (number, text) == (number, text) -/
theorem op_eqIS {p q : Int} {v w : Str} (hv : PyData.strOk v = true) (hw : PyData.strOk w = true) : OpV eqD (.tup [.int p, .str v]) (.tup [.int q, .str w]) (.bl (p == q && v == w)) := fun m => by
  have h1 : pyD 8 m (.tup [.int p, .str v]) = some (.tuple [.int p, .str v]) := by
    show (List.mapM (pyD 7 m) [.int p, .str v]).map PyData.tuple = _
    simp [List.mapM_cons, pyD, hv]
  have h2 : pyD 8 m (.tup [.int q, .str w]) = some (.tuple [.int q, .str w]) := by
    show (List.mapM (pyD 7 m) [.int q, .str w]).map PyData.tuple = _
    simp [List.mapM_cons, pyD, hw]
  unfold eqD
  rw [h1, h2]
  simp [PyData.eqv, PyData.eqvAll]
end
theorem ws_put {N : Env → Mu → Prop} {Rt : D → Mu → Prop} {B C : Env → Mu → Prop} {env : Env} {μ : Mu} {fv fo fi : Sm} (h : wp (fv env μ) fun v μ1 => wp (fo env μ1) fun x μ2 => ∃ l, x = .ref l ∧ wp (fi env μ2) fun y μ3 => ∃ k kvs, y = .str k ∧ μ3[l]? = some (.dct kvs) ∧ kvs.length < 1000000 ∧ N env (μ3.set l (.dct (putD kvs (.inr k) v)))) : ws (putS fv fo fi env μ) N Rt B C := by
  obtain ⟨v, μ1, e1, x, μ2, e2, l, rfl, y, μ3, e3, k, kvs, rfl, hl, hz, q⟩ := h
  refine ⟨.nx env, μ3.set l (.dct (putD kvs (.inr k) v)), ?_, q⟩
  unfold putS
  rw [e1]; simp only; rw [e2]; simp only; rw [e3]; simp only [keyD]; rw [hl]; simp only; rw [if_pos hz]
theorem op_inPair {i j p q : Int} : OpV (inD false) (.tup [.int i, .int j]) (.tup [.tup [.int p, .int q], .tup [.int q, .int p]]) (.bl ((p == i && q == j) || (q == i && p == j))) := fun m => by
  have h1 : pyD 8 m (.tup [.int i, .int j]) = some (.tuple [.int i, .int j]) := rfl
  have h2 : pyD 8 m (.tup [.tup [.int p, .int q], .tup [.int q, .int p]]) = some (.tuple [.tuple [.int p, .int q], .tuple [.int q, .int p]]) := rfl
  unfold inD
  rw [h1, h2]
  simp [PyData.eqv, PyData.eqvAll]
end CW

namespace CW
open PySem L2
section
variable {Q : Env → Mu → Prop} {env : Env} {μ : Mu} {g : Gm} {gs : Gms} {d : D} {ds r : List D} {n : Nat}
theorem wp_tupGL (hn : ds.length = n) (h : wp (gs ds env μ) Q) : wp (tupG n gs (.tup ds) env μ) Q := by
  unfold tupG; simp only; rw [if_pos hn]; exact h
theorem wp_consG (h : wp (g d env μ) fun e1 m1 => wp (gs r e1 m1) Q) : wp (consG g gs (d :: r) env μ) Q := by
  obtain ⟨e1, m1, h1, h2⟩ := h
  unfold consG; simp only; rw [h1]; exact h2
theorem wp_nilG (q : Q env μ) : wp (nilG [] env μ) Q := wp_eq rfl q
theorem ws_parL {N : Env → Mu → Prop} {Rt : D → Mu → Prop} {B C : Env → Mu → Prop} {i j : Nat} {f1 f2 : Sm} (h : wp (f1 env μ) fun x m1 => wp (f2 env m1) fun y m2 => N ((env.set i (some x)).set j (some y)) m2) : ws (parS i j (consA f1 (consA f2 nilA)) env μ) N Rt B C := by
  obtain ⟨x, m1, e1, y, m2, e2, q⟩ := h
  exact ws_par (wp_consA ⟨x, m1, e1, wp_consA ⟨y, m2, e2, wp_nilA ⟨x, y, rfl, q⟩⟩⟩)
end
theorem Gr.nil {m : Mu} : Gr [] m := ⟨Nat.zero_le _, fun _ h => nomatch h⟩
def EvG (μ : Mu) (f : Sm) (env : Env) (d : D) : Prop := ∀ m, Gr μ m → wp (f env m) fun r m' => r = d ∧ Gr m m'
def EvTG (μ : Mu) (f : Tm) (env : Env) (b : Bool) : Prop := ∀ m, Gr μ m → wp (f env m) fun r m' => r = b ∧ Gr m m'
def EvAG (μ : Mu) (f : Am) (env : Env) (ds : List D) : Prop := ∀ m, Gr μ m → wp (f env m) fun r m' => r = ds ∧ Gr m m'
def PG (sem : List D → Mu → Option (D × Mu)) (ds : List D) (d : D) : Prop := ∀ m, wp (sem ds m) fun r m' => r = d ∧ Gr m m'
def PGm (μ : Mu) (sem : List D → Mu → Option (D × Mu)) (ds : List D) (d : D) : Prop := ∀ m, Gr μ m → wp (sem ds m) fun r m' => r = d ∧ Gr m m'
theorem PG.m {μ : Mu} {sem : List D → Mu → Option (D × Mu)} {ds : List D} {d : D} (h : PG sem ds d) : PGm μ sem ds d := fun m _ => h m
theorem PF.g {sem : List D → Mu → Option (D × Mu)} {ds : List D} {d : D} (h : PF sem ds d) : PG sem ds d := fun m => wp_eq (h m) ⟨rfl, Gr.refl⟩
section
variable {μ : Mu} {env : Env} {f g : Sm} {t u : Tm} {d x y z : D} {ds : List D} {a b : Bool} {i : Nat}
theorem ev_g (h : Ev f env d) : EvG μ f env d := fun m _ => wp_eq (h m) ⟨rfl, Gr.refl⟩
theorem evt_g (h : EvT t env a) : EvTG μ t env a := fun m _ => wp_eq (h m) ⟨rfl, Gr.refl⟩
theorem eg_v (h : env[i]? = some (some d)) : EvG μ (vD i) env d := ev_g (ev_v h)
theorem eg_c : EvG μ (cD d) env d := ev_g ev_c
theorem eg_bin {o : D → D → Mu → Option (D × Mu)} (hx : EvG μ f env x) (hy : EvG μ g env y) (ho : ∀ m, Gr μ m → wp (o x y m) fun r m' => r = z ∧ Gr m m') : EvG μ (CW.bin o f g) env z := fun m q => by
  refine wp_bin (wp_mono (hx m q) ?_)
  rintro _ m1 ⟨rfl, g1⟩
  refine wp_mono (hy m1 (q.trans g1)) ?_
  rintro _ m2 ⟨rfl, g2⟩
  refine wp_mono (ho m2 ((q.trans g1).trans g2)) ?_
  rintro _ m3 ⟨rfl, g3⟩
  exact ⟨rfl, (g1.trans g2).trans g3⟩
theorem egt_tst (h : EvG μ f env (.bl a)) : EvTG μ (tst f) env a := fun m q => by
  refine wp_tst (wp_mono (h m q) ?_)
  rintro _ m1 ⟨rfl, g1⟩
  exact ⟨a, rfl, rfl, g1⟩
theorem egt_yes : EvTG μ yesT env true := evt_g evt_yes
theorem ega_nil : EvAG μ nilA env [] := fun m _ => wp_nilA ⟨rfl, Gr.refl⟩
theorem ega_cons {k : Am} (hx : EvG μ f env x) (hy : EvAG μ k env ds) : EvAG μ (consA f k) env (x :: ds) := fun m q => by
  refine wp_consA (wp_mono (hx m q) ?_)
  rintro _ m1 ⟨rfl, g1⟩
  refine wp_mono (hy m1 (q.trans g1)) ?_
  rintro _ m2 ⟨rfl, g2⟩
  exact ⟨rfl, g1.trans g2⟩
theorem eg_tup {k : Am} (h : EvAG μ k env ds) : EvG μ (tupE k) env (.tup ds) := fun m q => by
  refine wp_tupE (wp_mono (h m q) ?_)
  rintro _ m1 ⟨rfl, g1⟩
  exact ⟨rfl, g1⟩
theorem wp_pg {Q : D → Mu → Prop} {sem : List D → Mu → Option (D × Mu)} {m : Mu} (h : PG sem ds d) (q : ∀ m', Gr m m' → Q d m') : wp (sem ds m) Q := by
  refine wp_mono (h m) ?_
  rintro _ m1 ⟨rfl, g1⟩
  exact q m1 g1
/-- a comprehension over still items, each part growing -/
theorem wp_lcE {Q : D → Mu → Prop} {fi : Im} {gt : Gm} {vs : List Nat} {p : D → Bool} {k : D → D} {m0 : Mu} (h : wp (fi env m0) fun it μ1 => ∃ xs : List D, it.fuel = xs.length + 1 ∧ (∀ i m, Gr μ1 m → it.item i m = some xs[i]?) ∧ xs.length < 1000000 ∧
    (∀ x ∈ xs, ∀ m, Gr μ1 m → wp (gt x (wipeE env vs) m) fun e1 m1 => Gr m m1 ∧ EvTG μ1 t e1 (p x) ∧ (p x = true → EvG μ1 g e1 (k x))) ∧
    ∀ m, Gr μ1 m → m[μ1.length]? = some (.lst ((xs.filter p).map k)) → Q (.ref μ1.length) m) : wp (lcE fi gt t g vs env m0) Q := by
  obtain ⟨it, μ1, e1, xs, hf, hi, hz, hs, q⟩ := h
  refine wp_lc ⟨_, μ1, e1, xs, hf, hz, fun i m acc => Gr μ1 m ∧ m[μ1.length]? = some (.lst acc) ∧ acc = ((xs.take i).filter p).map k ∧ acc.length ≤ i, ⟨Gr.refl.push _, get_last _ _, rfl, Nat.le_refl _⟩, fun i m acc h => hi i m h.1, fun i m acc ⟨_, h2, _, h4⟩ => ⟨h2, h4⟩, fun i x m acc hx ⟨h1, h2, h3, h4⟩ => ?_, fun m acc ⟨h1, h2, h3, _⟩ => ?_⟩
  · have hm := List.mem_of_getElem? hx
    have htk : xs.take (i + 1) = xs.take i ++ [x] := by rw [List.take_add_one, hx]; rfl
    refine wp_mono (hs x hm m h1) ?_
    rintro e2 m1 ⟨g1, ht, he⟩
    refine wp_mono (ht m1 (h1.trans g1)) ?_
    rintro b m2 ⟨rfl, g2⟩
    have h2' := (g1.trans g2).get h2
    have ha := (h1.trans g1).trans g2
    cases hp : p x with
    | true =>
      rw [if_pos rfl]
      refine wp_mono (he hp m2 ha) ?_
      rintro _ m3 ⟨rfl, g3⟩
      have h3' := g3.get h2'
      refine ⟨h3', (ha.trans g3).set (Nat.le_refl _) _, set_get h3', ?_, by simp; exact h4⟩
      rw [h3, htk, List.filter_append, List.map_append, List.filter_cons, if_pos hp]; rfl
    | false =>
      rw [if_neg Bool.false_ne_true]
      refine ⟨ha, h2', ?_, by omega⟩
      rw [h3, htk, List.filter_append, List.filter_cons, if_neg (by rw [hp]; exact Bool.false_ne_true)]; simp
  · rw [List.take_of_length_le (Nat.le_refl _)] at h3
    exact q m h1 (by rw [h2, h3])
end

end CW
namespace CW
open PySem L2
theorem ix_mem {xs : List D} {v : Int} (h0 : 0 ≤ v) (h1 : v < xs.length) : ∃ d, atI xs v = some d ∧ d ∈ xs := by
  obtain ⟨k, rfl⟩ := Int.eq_ofNat_of_zero_le h0
  have hk : k < xs.length := by omega
  refine ⟨xs[k], ?_, List.getElem_mem hk⟩
  unfold atI ixN
  simp [hk]
theorem rng_mem {j : Int} {x : D} (h : x ∈ (List.range j.toNat).map fun k : Nat => D.int (0 + k)) : ∃ v : Int, x = .int v ∧ 0 ≤ v ∧ v < j := by
  obtain ⟨k, hk, rfl⟩ := List.mem_map.mp h
  rw [List.mem_range] at hk
  exact ⟨0 + k, rfl, by omega, by omega⟩
theorem ints_of : ∀ {ys : List D}, (∀ y ∈ ys, ∃ v, y = .int v) → ∃ vs : List Int, ys = vs.map D.int ∧ vs.length = ys.length
  | [], _ => ⟨[], rfl, rfl⟩
  | y :: ys, h => by
    obtain ⟨v, rfl⟩ := h y List.mem_cons_self
    obtain ⟨vs, rfl, e⟩ := ints_of (ys := ys) fun z hz => h z (List.mem_cons_of_mem _ hz)
    exact ⟨v :: vs, rfl, by simp⟩
theorem strs_of {S : List Str} : ∀ {ys : List D}, (∀ y ∈ ys, ∃ w, y = .str w ∧ w ∈ S) → ∃ ws : List Str, ys = ws.map D.str ∧ (∀ w ∈ ws, w ∈ S) ∧ ws.length = ys.length
  | [], _ => ⟨[], rfl, (fun _ h => nomatch h), rfl⟩
  | y :: ys, h => by
    obtain ⟨v, rfl, hv⟩ := h y List.mem_cons_self
    obtain ⟨vs, rfl, e2, e⟩ := strs_of (S := S) (ys := ys) fun z hz => h z (List.mem_cons_of_mem _ hz)
    refine ⟨v :: vs, rfl, fun w hw => ?_, by simp⟩
    rcases List.mem_cons.mp hw with rfl | hw
    · exact hv
    · exact e2 w hw
theorem lst_item {l n : Nat} {xs : List D} {m : Mu} (h : m[l]? = some (.lst xs)) (i : Nat) : (lstIt l n).item i m = some xs[i]? := by
  show (match m[l]? with
    | some (.lst xs) => some xs[i]?
    | _ => none) = _
  rw [h]
theorem py_ref {n : Nat} {m : Mu} {l : Nat} {xs : List D} {ps : List PyData} (hl : m[l]? = some (.lst xs)) (h : xs.mapM (pyD n m) = some ps) : pyD (n + 1) m (.ref l) = some (.list ps) := by
  unfold pyD
  rw [hl]; simp only; rw [h]; rfl
theorem wp_inLS {Q : D → Mu → Prop} {neg : Bool} {w : Str} {l : Nat} {ys : List Str} {m : Mu} (hl : m[l]? = some (.lst (ys.map D.str))) (hw : PyData.strOk w = true) (h : ∀ y ∈ ys, PyData.strOk y = true) (q : Q (.bl (neg ^^ ys.any fun y => y == w)) m) : wp (inD neg (.str w) (.ref l) m) Q := by
  refine wp_eq ?_ q
  have h1 : pyD 8 m (.str w) = some (.str w) := by simp [pyD, hw]
  have h2 := py_ref (n := 7) hl (py_strs h)
  have h3 : ((ys.map PyData.str).any fun z => z.eqv (.str w)) = ys.any fun y => y == w := by rw [List.any_map]; rfl
  unfold inD
  rw [h1, h2]; simp only; rw [h3]
  cases neg <;> simp
end CW

namespace CW
open PySem L2
/-- items that stand still -/
structure Still (it : ItD) (xs : List D) : Prop where
  fuel : it.fuel = xs.length + 1
  item : ∀ i m, it.item i m = some xs[i]?
theorem still_fix {xs : List D} : Still (fixIt xs) xs := ⟨rfl, fun _ _ => rfl⟩
def zipD (xs ys : List D) : List D := (xs.zip ys).map fun p => D.tup [p.1, p.2]
theorem still_zip {xs ys : List D} : Still (zipIt xs ys) (zipD xs ys) := by
  refine ⟨by simp [zipIt, zipD, List.length_zip], fun i m => ?_⟩
  show some _ = some _
  unfold zipD
  rw [List.getElem?_map, List.zip, List.getElem?_zipWith]
  cases xs[i]? <;> cases ys[i]? <;> rfl
theorem mem_zipD {xs ys : List D} {z : D} (h : z ∈ zipD xs ys) : ∃ x y, z = .tup [x, y] ∧ x ∈ xs ∧ y ∈ ys ∧ (x, y) ∈ xs.zip ys := by
  unfold zipD at h
  obtain ⟨⟨x, y⟩, h1, rfl⟩ := List.mem_map.mp h
  exact ⟨x, y, rfl, (List.of_mem_zip h1).1, (List.of_mem_zip h1).2, h1⟩
section
variable {env : Env} {f g : Sm} {t : Tm} {s2 : Bm} {d : D} {fi : Im} {gt : Gm} {it : ItD} {xs : List D} {vs : List Nat} {p : D → Bool}
/-- generators over still items, all parts leaving the store -/
theorem ev_tupGS {e : D → Env} {k : D → D} (hi : ∀ m, fi env m = some (it, m)) (hS : Still it xs) (hg : ∀ x ∈ xs, ∀ m, gt x (wipeE env vs) m = some (e x, m)) (ht : ∀ x ∈ xs, EvT t (e x) (p x)) (he : ∀ x ∈ xs, p x = true → Ev g (e x) (k x)) (hz : xs.length ≤ 1000000) :
    Ev (tupGE fi gt t g vs) env (.tup ((xs.filter p).map k)) := fun m => by
  have go : ∀ (ys : List D) (i : Nat), xs.drop i = ys → tupGo it.item gt t g (wipeE env vs) (ys.length + 1) i m = some ((ys.filter p).map k, m) := by
    intro ys
    induction ys with
    | nil =>
      intro i hd
      have hx : xs[i]? = none := List.getElem?_eq_none_iff.mpr (List.drop_eq_nil_iff.mp hd)
      unfold tupGo
      rw [hS.item i m, hx]; rfl
    | cons y ys ih =>
      intro i hd
      have hx : xs[i]? = some y := by
        have := congrArg (fun l => l[0]?) hd
        simpa using this
      have hd' : xs.drop (i + 1) = ys := by
        have := congrArg List.tail hd
        simpa [List.tail_drop] using this
      have hm := List.mem_of_getElem? hx
      rw [List.length_cons]
      unfold tupGo
      rw [hS.item i m, hx]; simp only
      rw [hg y hm m]; simp only
      rw [ht y hm m]; simp only
      cases hpy : p y with
      | true =>
        rw [if_pos rfl, he y hm hpy m]; simp only
        rw [ih (i + 1) hd', List.filter_cons, if_pos hpy]; rfl
      | false =>
        rw [if_neg Bool.false_ne_true, ih (i + 1) hd', List.filter_cons, if_neg (by rw [hpy]; exact Bool.false_ne_true)]
  unfold tupGE
  rw [hi m]; simp only
  rw [hS.fuel, go xs 0 rfl]; simp only
  rw [if_pos (by rw [List.length_map]; exact Nat.le_trans (List.length_filter_le _ _) hz)]
theorem ev_allGS {stop : Bool} {e : D → Env} {k : D → Bool} (hi : ∀ m, fi env m = some (it, m)) (hS : Still it xs) (hg : ∀ x ∈ xs, ∀ m, gt x (wipeE env vs) m = some (e x, m)) (ht : ∀ x ∈ xs, EvT t (e x) (p x)) (he : ∀ x ∈ xs, p x = true → Ev g (e x) (.bl (k x))) :
    Ev (allE stop fi gt t g vs) env (.bl (if stop = true then (xs.filter p).any k else (xs.filter p).all k)) := fun m => by
  have go : ∀ (ys : List D) (i : Nat), xs.drop i = ys → allGo stop it.item gt t g (wipeE env vs) (ys.length + 1) i m = some (if stop = true then (ys.filter p).any k else (ys.filter p).all k, m) := by
    intro ys
    induction ys with
    | nil =>
      intro i hd
      have hx : xs[i]? = none := List.getElem?_eq_none_iff.mpr (List.drop_eq_nil_iff.mp hd)
      unfold allGo
      rw [hS.item i m, hx]; cases stop <;> rfl
    | cons y ys ih =>
      intro i hd
      have hx : xs[i]? = some y := by
        have := congrArg (fun l => l[0]?) hd
        simpa using this
      have hd' : xs.drop (i + 1) = ys := by
        have := congrArg List.tail hd
        simpa [List.tail_drop] using this
      have hm := List.mem_of_getElem? hx
      rw [List.length_cons]
      unfold allGo
      rw [hS.item i m, hx]; simp only
      rw [hg y hm m]; simp only
      rw [ht y hm m]; simp only
      cases hpy : p y with
      | true =>
        have ef : (y :: ys).filter p = y :: ys.filter p := by rw [List.filter_cons, if_pos hpy]
        rw [if_pos rfl, he y hm hpy m]; simp only
        rw [ih (i + 1) hd', ef]
        cases stop <;> cases hk : k y <;> simp [hk]
      | false =>
        have ef : (y :: ys).filter p = ys.filter p := by rw [List.filter_cons, if_neg (by rw [hpy]; exact Bool.false_ne_true)]
        rw [if_neg Bool.false_ne_true, ih (i + 1) hd', ef]
  unfold allE
  rw [hi m]; simp only
  rw [hS.fuel, go xs 0 rfl]
/-- for x in xs: if p: return g -/
theorem evs_findG {j : Nat} {k : D → D} (hf : Ev f env (.tup xs)) (ht : ∀ x ∈ xs, EvT t (env.set j (some x)) (p x)) (hk : ∀ x ∈ xs, p x = true → Ev g (env.set j (some x)) (k x)) (hr : ∀ x, EvS s2 (env.set j x) (.rt d)) (hr0 : EvS s2 env (.rt d)) :
    EvS (seqS (forS (seqI f) (nmG j) (ifS t (retS g) skS)) s2) env (.rt (((xs.find? p).map k).getD d)) := fun m => by
  have go : ∀ (ys : List D) (i : Nat) (e : Env), xs.drop i = ys → (e = env ∨ ∃ x, e = env.set j x) → ∃ r, forGo (fixIt xs).item (nmG j) (ifS t (retS g) skS) (ys.length + 1) i e m = some (r, m) ∧ match ys.find? p with
      | some x => r = .rt (k x)
      | none => ∃ e', r = .nx e' ∧ (e' = env ∨ ∃ x, e' = env.set j x) := by
    intro ys
    induction ys with
    | nil =>
      intro i e hd he
      have hx : xs[i]? = none := List.getElem?_eq_none_iff.mpr (List.drop_eq_nil_iff.mp hd)
      refine ⟨.nx e, ?_, e, rfl, he⟩
      unfold forGo
      have e0 : (fixIt xs).item i m = some none := by show some xs[i]? = _; rw [hx]
      rw [e0]
    | cons y ys ih =>
      intro i e hd he
      have hx : xs[i]? = some y := by
        have := congrArg (fun l => l[0]?) hd
        simpa using this
      have hd' : xs.drop (i + 1) = ys := by
        have := congrArg List.tail hd
        simpa [List.tail_drop] using this
      have e1 : e.set j (some y) = env.set j (some y) := by
        rcases he with rfl | ⟨x, rfl⟩
        · rfl
        · rw [List.set_set]
      have e0 : (fixIt xs).item i m = some (some y) := by show some xs[i]? = _; rw [hx]
      have hm := List.mem_of_getElem? hx
      have hp := ht y hm m
      rw [List.length_cons]
      unfold forGo
      rw [e0]; simp only
      have e2 : nmG j y e m = some (env.set j (some y), m) := by unfold nmG; rw [e1]
      rw [e2]; simp only
      rw [List.find?_cons]
      cases hpy : p y with
      | true =>
        rw [hpy] at hp
        have e3 : ifS t (retS g) skS (env.set j (some y)) m = some (.rt (k y), m) := by
          unfold ifS; rw [hp]; simp only [if_true]; unfold retS; rw [hk y hm hpy m]
        rw [e3]
        exact ⟨_, rfl, rfl⟩
      | false =>
        rw [hpy] at hp
        have e3 : ifS t (retS g) skS (env.set j (some y)) m = some (.nx (env.set j (some y)), m) := by
          unfold ifS; rw [hp]; simp only [Bool.false_eq_true, if_false]; rfl
        rw [e3]
        exact ih (i + 1) _ hd' (.inr ⟨_, rfl⟩)
  obtain ⟨r, e1, e2⟩ := go xs 0 env rfl (.inl rfl)
  have e3 : seqI f env m = some (fixIt xs, m) := by unfold seqI; rw [hf m]
  unfold seqS forS
  rw [e3]; simp only
  rw [show (fixIt xs).fuel = xs.length + 1 from rfl, e1]
  cases h : xs.find? p with
  | some x =>
    rw [h] at e2
    rw [show r = .rt (k x) from e2]
    rfl
  | none =>
    rw [h] at e2
    obtain ⟨e', rfl, he⟩ := e2
    rcases he with rfl | ⟨x, rfl⟩
    · exact hr0 m
    · exact hr x m
end
/-- a loop that returns at the first item of a kind -/
theorem ws_for_first {N : Env → Mu → Prop} {Rt : D → Mu → Prop} {B C : Env → Mu → Prop} {μ : Mu} {env : Env} {s : Bm} {fi : Im} {g : Gm} {p : D → Bool} (h : wp (fi env μ) fun it μ1 => ∃ xs : List D, it = fixIt xs ∧ ∃ I : Env → Mu → Prop, I env μ1 ∧
    (∀ x ∈ xs, ∀ e m, I e m → wp (g x e m) fun e1 m1 => ws (s e1 m1) (fun e2 m2 => p x = false ∧ I e2 m2) (fun d m2 => p x = true ∧ (xs.find? p = some x → Rt d m2)) (fun _ _ => False) (fun e2 m2 => p x = false ∧ I e2 m2)) ∧
    ∀ e m, I e m → xs.find? p = none → N e m) : ws (forS fi g s env μ) N Rt B C := by
  obtain ⟨it, μ1, e1, xs, rfl, I, i0, hs, hN⟩ := h
  refine ws_for_fix ⟨_, μ1, e1, xs, rfl, fun i e m => I e m ∧ ∀ y ∈ xs.take i, p y = false, ⟨i0, fun y hy => by simp at hy⟩, ?_, ?_⟩
  · rintro i x e m hx ⟨hI, hp⟩
    have hm := List.mem_of_getElem? hx
    have htk : xs.take (i + 1) = xs.take i ++ [x] := by rw [List.take_add_one, hx]; rfl
    have up : p x = false → ∀ y ∈ xs.take (i + 1), p y = false := fun h y hy => by
      rw [htk] at hy
      rcases List.mem_append.mp hy with hy | hy
      · exact hp y hy
      · rw [List.mem_singleton.mp hy]; exact h
    obtain ⟨e1, m1, h1, fl, m2, h2, q⟩ := hs x hm e m hI
    refine ⟨e1, m1, h1, fl, m2, h2, ?_⟩
    cases fl with
    | nx e2 => exact ⟨q.2, up q.1⟩
    | ct e2 => exact ⟨q.2, up q.1⟩
    | bk e2 => exact q.elim
    | rt d =>
      refine q.2 ?_
      have hlt := (List.getElem?_eq_some_iff.mp hx).1
      have e3 : xs = xs.take i ++ x :: xs.drop (i + 1) := by
        have := List.take_append_drop (i + 1) xs
        rw [htk] at this
        simpa using this.symm
      rw [e3, List.find?_append, List.find?_eq_none.mpr (fun y hy => by rw [hp y hy]; exact Bool.false_ne_true), Option.none_or, List.find?_cons, q.1]
  · rintro e m ⟨hI, hp⟩
    rw [List.take_of_length_le (Nat.le_refl _)] at hp
    exact hN e m hI (List.find?_eq_none.mpr fun y hy => by rw [hp y hy]; exact Bool.false_ne_true)
/-- a comprehension that draws, with a test -/
theorem wp_lcD {Q : D → Mu → Prop} {fi : Im} {g : Gm} {tt : Tm} {fe : Sm} {vs : List Nat} {env : Env} {μ : Mu} {l : Nat} {N c : Int} {P : D → D → Prop} (h : wp (fi env μ) fun it μ1 => ∃ xs : List D, Still it xs ∧ xs.length < 1000000 ∧ Hand N l μ1 ∧ 0 ≤ c ∧ c * xs.length ≤ N ∧
    (∀ x ∈ xs, ∀ m M, Hand M l m → c ≤ M → Fr l μ1 m → wp (g x (wipeE env vs) m) fun e1 m1 => wp (tt e1 m1) fun b m2 => if b = true then wp (fe e1 m2) fun y m3 => P x y ∧ Hand (M - c) l m3 ∧ Fr l m m3 else Hand (M - c) l m2 ∧ Fr l m m2) ∧
    (∀ ys m, (∀ y ∈ ys, ∃ x ∈ xs, P x y) → ys.length ≤ xs.length → m[μ1.length]? = some (.lst ys) → Hand (N - c * xs.length) l m → Fr l μ1 m → Q (.ref μ1.length) m)) : wp (lcE fi g tt fe vs env μ) Q := by
  obtain ⟨it, μ1, e1, xs, hS, hz, hH, hc, hN, hs, q⟩ := h
  have hl := hH.lt
  refine wp_lc ⟨_, μ1, e1, xs, hS.fuel, hz, fun i m acc => Hand (N - c * i) l m ∧ Fr l μ1 m ∧ m[μ1.length]? = some (.lst acc) ∧ acc.length ≤ i ∧ (∀ y ∈ acc, ∃ x ∈ xs, P x y), ⟨(hH.push _).mono (by simp), Fr.refl.push _, get_last _ _, Nat.le_refl _, fun y hy => nomatch hy⟩, fun i m acc _ => hS.item i m, fun i m acc ⟨_, _, h3, h4, _⟩ => ⟨h3, h4⟩, fun i x m acc hx ⟨h1, h2, h3, h4, h5⟩ => ?_, fun m acc ⟨h1, h2, h3, h4, h5⟩ => ?_⟩
  · have hm := List.mem_of_getElem? hx
    have hlt := (List.getElem?_eq_some_iff.mp hx).1
    have hle : c * ((i : Int) + 1) ≤ c * (xs.length : Int) := Int.mul_le_mul_of_nonneg_left (by omega) hc
    have hex : c * ((i : Int) + 1) = c * i + c := by rw [Int.mul_add, Int.mul_one]
    have hex2 : c * (((i + 1 : Nat) : Int)) = c * i + c := by rw [Int.natCast_add, Int.mul_add]; simp
    refine wp_mono (hs x hm m _ h1 (by omega) h2) ?_
    intro e2 m1 w1
    refine wp_mono w1 ?_
    intro b m2 w2
    cases b with
    | true =>
      rw [if_pos rfl] at w2 ⊢
      refine wp_mono w2 ?_
      rintro y m3 ⟨py, hh, fr⟩
      have k3 := fr.get (k := μ1.length) (by omega) h3
      exact ⟨k3, (hh.set (by omega) _).mono (by omega), (h2.trans fr).set (Nat.le_refl _) _, set_get k3, by simp; exact h4, fun z hz => by
        rcases List.mem_append.mp hz with hz | hz
        · exact h5 z hz
        · rw [List.mem_singleton.mp hz]; exact ⟨x, hm, py⟩⟩
    | false =>
      rw [if_neg Bool.false_ne_true] at w2 ⊢
      obtain ⟨hh, fr⟩ := w2
      exact ⟨hh.mono (by omega), h2.trans fr, fr.get (by omega) h3, by omega, h5⟩
  · exact q acc m h5 h4 h3 h1 h2
/-- a comprehension that draws, without a test -/
theorem wp_lcDY {Q : D → Mu → Prop} {fi : Im} {g : Gm} {fe : Sm} {vs : List Nat} {env : Env} {μ : Mu} {l : Nat} {N c : Int} {P : D → D → Prop} (h : wp (fi env μ) fun it μ1 => ∃ xs : List D, Still it xs ∧ xs.length < 1000000 ∧ Hand N l μ1 ∧ 0 ≤ c ∧ c * xs.length ≤ N ∧
    (∀ x ∈ xs, ∀ m M, Hand M l m → c ≤ M → Fr l μ1 m → wp (g x (wipeE env vs) m) fun e1 m2 => wp (fe e1 m2) fun y m3 => P x y ∧ Hand (M - c) l m3 ∧ Fr l m m3) ∧
    (∀ ys m, (∀ y ∈ ys, ∃ x ∈ xs, P x y) → ys.length = xs.length → m[μ1.length]? = some (.lst ys) → Hand (N - c * xs.length) l m → Fr l μ1 m → Q (.ref μ1.length) m)) : wp (lcE fi g yesT fe vs env μ) Q := by
  obtain ⟨it, μ1, e1, xs, hS, hz, hH, hc, hN, hs, q⟩ := h
  have hl := hH.lt
  refine wp_lc ⟨_, μ1, e1, xs, hS.fuel, hz, fun i m acc => Hand (N - c * i) l m ∧ Fr l μ1 m ∧ m[μ1.length]? = some (.lst acc) ∧ acc.length = i ∧ (∀ y ∈ acc, ∃ x ∈ xs, P x y), ⟨(hH.push _).mono (by simp), Fr.refl.push _, get_last _ _, rfl, fun y hy => nomatch hy⟩, fun i m acc _ => hS.item i m, fun i m acc ⟨_, _, h3, h4, _⟩ => ⟨h3, by omega⟩, fun i x m acc hx ⟨h1, h2, h3, h4, h5⟩ => ?_, fun m acc ⟨h1, h2, h3, h4, h5⟩ => ?_⟩
  · have hm := List.mem_of_getElem? hx
    have hlt := (List.getElem?_eq_some_iff.mp hx).1
    have hle : c * ((i : Int) + 1) ≤ c * (xs.length : Int) := Int.mul_le_mul_of_nonneg_left (by omega) hc
    have hex : c * ((i : Int) + 1) = c * i + c := by rw [Int.mul_add, Int.mul_one]
    have hex2 : c * (((i + 1 : Nat) : Int)) = c * i + c := by rw [Int.natCast_add, Int.mul_add]; simp
    refine wp_mono (hs x hm m _ h1 (by omega) h2) ?_
    intro e2 m1 w1
    refine wp_yes ?_
    rw [if_pos rfl]
    refine wp_mono w1 ?_
    rintro y m3 ⟨py, hh, fr⟩
    have k3 := fr.get (k := μ1.length) (by omega) h3
    exact ⟨k3, (hh.set (by omega) _).mono (by omega), (h2.trans fr).set (Nat.le_refl _) _, set_get k3, by simp; exact h4, fun z hz => by
      rcases List.mem_append.mp hz with hz | hz
      · exact h5 z hz
      · rw [List.mem_singleton.mp hz]; exact ⟨x, hm, py⟩⟩
  · exact q acc m h5 h4 h3 h1 h2
end CW

namespace CW
open PySem L2
section
variable {Q : D → Mu → Prop} {env : Env} {μ : Mu} {c f m : Str} {fo fv : Sm}
theorem wp_fld {l : Nat} {fs : List (Str × D)} {d : D} (hl : μ[l]? = some (.obj c fs)) (h : fs.lookup f = some d) (q : Q d μ) : wp (fldD c f (.ref l) μ) Q := by
  refine wp_eq ?_ q
  unfold fldD
  simp only
  rw [hl]; simp only [if_true]; rw [h]
theorem ws_fld {N : Env → Mu → Prop} {Rt : D → Mu → Prop} {B C : Env → Mu → Prop} (h : wp (fv env μ) fun d m1 => wp (fo env m1) fun x m2 => ∃ l fs, x = .ref l ∧ m2[l]? = some (.obj c fs) ∧ fs.length < 1000 ∧ N env (m2.set l (.obj c (putFD f d fs)))) : ws (fldS c f fv fo env μ) N Rt B C := by
  obtain ⟨d, m1, e1, x, m2, e2, l, fs, rfl, hl, hz, q⟩ := h
  refine ⟨.nx env, _, ?_, q⟩
  unfold fldS
  rw [e1]; simp only; rw [e2]; simp only
  unfold putO
  simp only
  rw [hl]; simp only [if_true]; rw [if_pos hz]
theorem wp_fldG {Q : Env → Mu → Prop} {d : D} (h : wp (fo env μ) fun x m2 => ∃ l fs, x = .ref l ∧ m2[l]? = some (.obj c fs) ∧ fs.length < 1000 ∧ Q env (m2.set l (.obj c (putFD f d fs)))) : wp (fldG c f fo d env μ) Q := by
  obtain ⟨x, m2, e2, l, fs, rfl, hl, hz, q⟩ := h
  refine wp_eq (a := env) ?_ q
  unfold fldG
  rw [e2]; simp only
  unfold putO
  simp only
  rw [hl]; simp only [if_true]; rw [if_pos hz]
theorem wp_metO {sem : List D → Mu → Option (D × Mu)} {dfs : List D} {g : Am} (h : wp (fo env μ) fun x m1 => ∃ l fs, x = .ref l ∧ m1[l]? = some (.obj c fs) ∧ fs.lookup m = none ∧ wp (g env m1) fun ds m2 => wp (sem (.ref l :: (ds ++ dfs)) m2) Q) : wp (metO c m sem dfs fo g env μ) Q := by
  obtain ⟨x, m1, e1, l, fs, rfl, hl, hn, ds, m2, e2, d, m3, e3, q⟩ := h
  refine wp_eq (a := d) ?_ q
  unfold metO
  rw [e1]; simp only; rw [hl]; simp only [if_true]; rw [hn]; simp only; rw [e2]; exact e3
theorem wp_makE {sem : List D → Mu → Option (D × Mu)} {g : Am} (h : wp (g env μ) fun ds m1 => wp (sem (.ref m1.length :: ds) (m1 ++ [.obj c []])) fun r m2 => r = .non ∧ Q (.ref m1.length) m2) : wp (makE c sem g env μ) Q := by
  obtain ⟨ds, m1, e1, r, m2, e2, rfl, q⟩ := h
  refine wp_eq (a := .ref m1.length) ?_ q
  unfold makE
  rw [e1]; simp only; rw [e2]
theorem wp_starA {Q : List D → Mu → Prop} {g : Am} (h : wp (fo env μ) fun x m1 => ∃ xs, itemsD m1 x = some xs ∧ wp (g env m1) fun ys m2 => Q (xs ++ ys) m2) : wp (starA fo g env μ) Q := by
  obtain ⟨x, m1, e1, xs, ex, ys, m2, e2, q⟩ := h
  refine wp_eq (a := xs ++ ys) ?_ q
  unfold starA
  rw [e1]; simp only; rw [ex]; simp only; rw [e2]
theorem wp_tupS {g : Am} (h : wp (g env μ) fun ds m1 => ds.length ≤ 1000000 ∧ Q (.tup ds) m1) : wp (tupS g env μ) Q := by
  obtain ⟨ds, m1, e1, hz, q⟩ := h
  refine wp_eq (a := .tup ds) ?_ q
  unfold tupS
  rw [e1]; simp only; rw [if_pos hz]
theorem wp_lstS {g : Am} (h : wp (g env μ) fun ds m1 => ds.length ≤ 1000000 ∧ Q (.ref m1.length) (m1 ++ [.lst ds])) : wp (lstS g env μ) Q := by
  obtain ⟨ds, m1, e1, hz, q⟩ := h
  refine wp_eq (a := .ref m1.length) ?_ q
  unfold lstS
  rw [e1]; simp only; rw [if_pos hz]
end
end CW

namespace CW
open PySem L2 PySem.W
abbrev Kn := List (Nat × Nat)
def bt (C : Kn) (a b : Nat) : Bool := C.any fun p => Nat.beq p.1 a && Nat.beq p.2 b
def addC (N : Nat) (C : Kn) (i j : Nat) : Kn := (List.range N).foldl (fun D x => if (Nat.beq x i || bt C x i) = true then (List.range N).foldl (fun D y => if ((Nat.beq y j || bt C j y) && !bt C x y) = true then (x, y) :: D else D) D else D) C
def adjB (C : Kn) : List Nat → Bool
  | [] => true
  | a :: r => (match r with
    | [] => true
    | b :: _ => bt C a b) && adjB C r
def chkS (N : Nat) : KasT (Array Nat) → Kn → Bool
  | .ret p, C => adjB C p.toList
  | .ask i j k, C => if bt C i j = true then chkS N (k true) C else if (bt C j i || Nat.beq i j) = true then chkS N (k false) C
    else chkS N (k true) (addC N C i j) && chkS N (k false) (addC N C j i)
structure Strict (lt : Nat → Nat → Bool) : Prop where
  irr : ∀ a, lt a a = false
  tot : ∀ a b, a ≠ b → lt b a = !lt a b
  tra : ∀ a b c, lt a b = true → lt b c = true → lt a c = true
def KnOk (lt : Nat → Nat → Bool) (C : Kn) : Prop := ∀ p ∈ C, lt p.1 p.2 = true
theorem bt_ok {lt : Nat → Nat → Bool} {C : Kn} (h : KnOk lt C) {a b : Nat} (e : bt C a b = true) : lt a b = true := by
  obtain ⟨p, hp, e⟩ := List.any_eq_true.mp e
  obtain ⟨e1, e2⟩ := Bool.and_eq_true_iff.mp e
  rw [← Nat.eq_of_beq_eq_true e1, ← Nat.eq_of_beq_eq_true e2]
  exact h p hp
theorem addC_ok {lt : Nat → Nat → Bool} (S : Strict lt) {N : Nat} {C : Kn} (h : KnOk lt C) {i j : Nat} (e : lt i j = true) : KnOk lt (addC N C i j) := by
  have inner : ∀ (x : Nat), (Nat.beq x i || bt C x i) = true → ∀ (l : List Nat) (D : Kn), KnOk lt D → KnOk lt (l.foldl (fun D y => if ((Nat.beq y j || bt C j y) && !bt C x y) = true then (x, y) :: D else D) D) := by
    intro x hx l
    induction l with
    | nil => intro D hD; exact hD
    | cons y l ih =>
      intro D hD
      refine ih _ ?_
      dsimp only
      split
      · rename_i hy
        have hy1 := (Bool.and_eq_true_iff.mp hy).1
        intro p hp
        rcases List.mem_cons.mp hp with z | z
        · subst z
          have h1 : x = i ∨ lt x i = true := by
            rcases Bool.or_eq_true_iff.mp hx with q | q
            · exact .inl (Nat.eq_of_beq_eq_true q)
            · exact .inr (bt_ok h q)
          have h2 : y = j ∨ lt j y = true := by
            rcases Bool.or_eq_true_iff.mp hy1 with q | q
            · exact .inl (Nat.eq_of_beq_eq_true q)
            · exact .inr (bt_ok h q)
          show lt x y = true
          rcases h1 with rfl | h1
          · rcases h2 with rfl | h2
            · exact e
            · exact S.tra _ _ _ e h2
          · rcases h2 with rfl | h2
            · exact S.tra _ _ _ h1 e
            · exact S.tra _ _ _ (S.tra _ _ _ h1 e) h2
        · exact hD p z
      · exact hD
  unfold addC
  have outer : ∀ (l : List Nat) (D : Kn), KnOk lt D → KnOk lt (l.foldl (fun D x => if (Nat.beq x i || bt C x i) = true then (List.range N).foldl (fun D y => if ((Nat.beq y j || bt C j y) && !bt C x y) = true then (x, y) :: D else D) D else D) D) := by
    intro l
    induction l with
    | nil => intro D hD; exact hD
    | cons x l ih =>
      intro D hD
      refine ih _ ?_
      dsimp only
      split
      · rename_i hx; exact inner x hx _ D hD
      · exact hD
  exact outer _ C h
theorem adjB_ok {lt : Nat → Nat → Bool} (S : Strict lt) {C : Kn} (h : KnOk lt C) : ∀ {l : List Nat}, adjB C l = true → l.Pairwise fun a b => lt a b = true
  | [], _ => .nil
  | [a], _ => List.pairwise_singleton _ _
  | a :: b :: r, e => by
    unfold adjB at e
    obtain ⟨e1, e2⟩ := Bool.and_eq_true_iff.mp e
    have ih := adjB_ok S h e2
    have hab := bt_ok h e1
    refine List.pairwise_cons.mpr ⟨fun c hc => ?_, ih⟩
    rcases List.mem_cons.mp hc with z | z
    · subst z; exact hab
    · exact S.tra _ _ _ hab ((List.pairwise_cons.mp ih).1 c z)
theorem chkS_ok {lt : Nat → Nat → Bool} (S : Strict lt) {N : Nat} : ∀ (t : KasT (Array Nat)) (C : Kn), KnOk lt C → chkS N t C = true → (run lt t).toList.Pairwise fun a b => lt a b = true
  | .ret p, C, h, e => adjB_ok S h e
  | .ask i j k, C, h, e => by
    unfold chkS at e
    show (run lt (k (lt i j))).toList.Pairwise _
    split at e
    · rename_i e1
      rw [bt_ok h e1]
      exact chkS_ok S (k true) C h e
    · split at e
      · rename_i e1 e2
        have hf : lt i j = false := by
          rcases Bool.or_eq_true_iff.mp e2 with q | q
          · have := bt_ok h q
            by_cases hij : i = j
            · subst hij; exact S.irr i
            · have := S.tot j i (Ne.symm hij); rw [this, bt_ok h q]; rfl
          · rw [Nat.eq_of_beq_eq_true q]; exact S.irr j
        rw [hf]
        exact chkS_ok S (k false) C h e
      · rename_i e1 e2
        obtain ⟨q1, q2⟩ := Bool.and_eq_true_iff.mp e
        have hij : i ≠ j := fun z => by
          subst z
          apply e2
          rw [Bool.or_eq_true]
          exact .inr (Nat.beq_refl i)
        cases hl : lt i j with
        | true => exact chkS_ok S (k true) _ (addC_ok S h hl) q1
        | false => exact chkS_ok S (k false) _ (addC_ok S h (by rw [S.tot i j hij, hl]; rfl)) q2
theorem sort2 : chkS 2 (kas_sort 2) [] = true := by decide +kernel
theorem sort3 : chkS 3 (kas_sort 3) [] = true := by decide +kernel
theorem sort4 : chkS 4 (kas_sort 4) [] = true := by decide +kernel
theorem sort5 : chkS 5 (kas_sort 5) [] = true := by decide +kernel
theorem sort6 : chkS 6 (kas_sort 6) [] = true := by decide +kernel
def cI : D → Int
  | .tup [.int i, .int _, .str _, .int _] => i
  | _ => 0
def cJ : D → Int
  | .tup [.int _, .int j, .str _, .int _] => j
  | _ => 0
def cW : D → Str
  | .tup [.int _, .int _, .str w, .int _] => w
  | _ => ""
def cH : D → Int
  | .tup [.int _, .int _, .str _, .int h] => h
  | _ => 0
/-- a call ahead of another by its two lines -/
def kLt (x y : D) : Bool := decide (cI x < cI y) || (cI x == cI y && decide (cJ x < cJ y))
def KeyNe (x y : D) : Prop := ¬ (cI x = cI y ∧ cJ x = cJ y)
theorem tupLt_key {i j i' j' h h' : Int} {w w' : Str} (hne : ¬ (i = i' ∧ j = j')) : tupLt (callD i j w h) (callD i' j' w' h') = some (decide (i < i') || (i == i' && decide (j < j'))) := by
  unfold tupLt
  simp only
  unfold lexD
  split
  · rename_i e
    subst e
    unfold lexD
    split
    · rename_i e2; exact absurd ⟨rfl, e2⟩ hne
    · simp
  · rename_i e
    have : (i == i') = false := by simpa using e
    rw [this]; simp
theorem apart_key {n : Int} {x y : D} (hx : Call1 n x) (hy : Call1 n y) (h : Apart x y) : KeyNe x y := by
  obtain ⟨i, j, how, hd, rfl, _⟩ := hx.ex
  obtain ⟨i', j', how', hd', rfl, _⟩ := hy.ex
  rintro ⟨e1, e2⟩
  simp only [cI, cJ] at e1 e2
  subst e1 e2
  exact h rfl
section
variable {n : Int} {xs : List D}
theorem get_call (hx : ∀ x ∈ xs, Call1 n x) {i : Nat} (hi : i < xs.length) : Call1 n (xs.getD i .non) := by
  rw [List.getD_eq_getElem?_getD, List.getElem?_eq_getElem hi]
  exact hx _ (List.getElem_mem hi)
theorem run_congr {α : Type} {N : Nat} {P : α → Prop} {l1 l2 : Nat → Nat → Bool} (h : ∀ i j, i < N → j < N → l1 i j = l2 i j) : ∀ (t : KasT α), AskR N P t → run l1 t = run l2 t
  | .ret a, _ => rfl
  | .ask i j k, q => by
    show run l1 (k (l1 i j)) = run l2 (k (l2 i j))
    rw [h i j q.1 q.2.1]
    exact run_congr h (k (l2 i j)) (q.2.2 _)
theorem key_of_ne (hp : xs.Pairwise KeyNe) {a b : Nat} (ha : a < xs.length) (hb : b < xs.length) (hne : a ≠ b) : KeyNe (xs.getD a .non) (xs.getD b .non) := by
  have ea : xs.getD a .non = xs[a] := by rw [List.getD_eq_getElem?_getD, List.getElem?_eq_getElem ha]; rfl
  have eb : xs.getD b .non = xs[b] := by rw [List.getD_eq_getElem?_getD, List.getElem?_eq_getElem hb]; rfl
  rw [ea, eb]
  have hq := List.pairwise_iff_getElem.mp hp
  by_cases h : a < b
  · exact hq a b ha hb h
  · have := hq b a hb ha (by omega)
    exact fun z => this ⟨z.1.symm, z.2.symm⟩
theorem kLt_irr {x : D} : kLt x x = false := by unfold kLt; simp
theorem kLt_tra {x y z : D} (h1 : kLt x y = true) (h2 : kLt y z = true) : kLt x z = true := by
  unfold kLt at *
  simp only [Bool.or_eq_true, Bool.and_eq_true, decide_eq_true_eq, beq_iff_eq] at *
  omega
theorem kLt_tot {x y : D} (h : KeyNe x y) : kLt y x = !kLt x y := by
  unfold KeyNe at h
  unfold kLt
  rw [Bool.eq_iff_iff]
  simp only [Bool.or_eq_true, Bool.and_eq_true, decide_eq_true_eq, beq_iff_eq, Bool.not_eq_true', Bool.or_eq_false_iff, Bool.and_eq_false_iff, decide_eq_false_iff_not, beq_eq_false_iff_ne]
  omega
theorem ltP_strict (hp : xs.Pairwise KeyNe) : Strict (fun a b => if a < xs.length then (if b < xs.length then kLt (xs.getD a .non) (xs.getD b .non) else true) else (if b < xs.length then false else decide (a < b))) := by
  refine ⟨fun a => ?_, fun a b hne => ?_, fun a b c h1 h2 => ?_⟩
  · split
    · exact kLt_irr
    · simp
  · split
    · rename_i hb
      split
      · rename_i ha
        exact kLt_tot (key_of_ne hp ha hb hne)
      · rfl
    · rename_i hb
      split
      · rfl
      · simp only [← decide_not, decide_eq_decide]; omega
  · by_cases ha : a < xs.length
    · rw [if_pos ha] at h1 ⊢
      by_cases hc : c < xs.length
      · rw [if_pos hc]
        by_cases hb : b < xs.length
        · rw [if_pos hb] at h1
          rw [if_pos hb, if_pos hc] at h2
          exact kLt_tra h1 h2
        · rw [if_neg hb, if_pos hc] at h2; cases h2
      · rw [if_neg hc]
    · rw [if_neg ha] at h1 ⊢
      by_cases hb : b < xs.length
      · rw [if_pos hb] at h1; cases h1
      · rw [if_neg hb] at h1
        rw [if_neg hb] at h2
        by_cases hc : c < xs.length
        · rw [if_pos hc] at h2; cases h2
        · rw [if_neg hc] at h2 ⊢
          simp only [decide_eq_true_eq] at *
          omega
theorem chk_all {N : Nat} (h2 : 2 ≤ N) (h6 : N ≤ 6) : chkS N (kas_sort N) [] = true := by
  obtain rfl | rfl | rfl | rfl | rfl : N = 2 ∨ N = 3 ∨ N = 4 ∨ N = 5 ∨ N = 6 := by omega
  · exact sort2
  · exact sort3
  · exact sort4
  · exact sort5
  · exact sort6
theorem srt_sorted (hx : ∀ x ∈ xs, Call1 n x) (hp : xs.Pairwise KeyNe) (h6 : xs.length ≤ 6) : (srtD xs).Pairwise fun a b => kLt a b = true := by
  unfold srtD
  split
  · rename_i h
    match xs, h with
    | [], _ => exact .nil
    | [a], _ => exact List.pairwise_singleton _ _
  · rename_i h
    have h2 : 2 ≤ xs.length := by omega
    have hr := run_congr (N := xs.length) (P := Pm0 xs.length) (l1 := ltAt xs) (l2 := fun a b => if a < xs.length then (if b < xs.length then kLt (xs.getD a .non) (xs.getD b .non) else true) else (if b < xs.length then false else decide (a < b))) (fun i j hi hj => by
      rw [if_pos hi, if_pos hj]
      unfold ltAt
      by_cases hij : i = j
      · subst hij
        obtain ⟨a, b, w, c, e, _⟩ := (get_call hx hi).ex
        rw [e]
        have : kLt (callD a b w c) (callD a b w c) = false := kLt_irr
        rw [this]
        simp [tupLt, lexD]
      · have kn := key_of_ne hp hi hj hij
        obtain ⟨a, b, w, c, e, _⟩ := (get_call hx hi).ex
        obtain ⟨a', b', w', c', e', _⟩ := (get_call hx hj).ex
        rw [e, e'] at kn ⊢
        rw [tupLt_key (i := a) (j := b) (i' := a') (j' := b') kn]
        rfl) (kas_sort xs.length) (sort_ok (by omega))
    rw [hr]
    have ps := chkS_ok (ltP_strict hp) (N := xs.length) (kas_sort xs.length) [] (fun _ h => nomatch h) (chk_all h2 h6)
    have pm := srtD_mem (xs := xs) h2
    rw [hr] at pm
    have hin : ∀ i ∈ (run (fun a b => if a < xs.length then (if b < xs.length then kLt (xs.getD a .non) (xs.getD b .non) else true) else (if b < xs.length then false else decide (a < b))) (kas_sort xs.length)).toList, i < xs.length := fun i hi => by
      have := (Array.perm_iff_toList_perm.mp pm).mem_iff.mp hi
      simpa using this
    refine List.pairwise_map.mpr (List.Pairwise.imp_of_mem (fun {a b} ha hb hab => ?_) ps)
    rw [if_pos (hin a ha), if_pos (hin b hb)] at hab
    exact hab
/-- calls that stand as they should: in order, each two lines with one at most -/
structure CS (n : Int) (xs : List D) : Prop where
  call : ∀ x ∈ xs, Call1 n x
  apart : xs.Pairwise Apart
  srt : xs.Pairwise fun a b => kLt a b = true
theorem keys_of (hx : ∀ x ∈ xs, Call1 n x) (h : xs.Pairwise Apart) : xs.Pairwise KeyNe := h.imp_of_mem fun ha hb hab => apart_key (hx _ ha) (hx _ hb) hab
theorem apart_sym {x y : D} (h : Apart x y) : Apart y x := fun z => h z.symm
theorem pairs_of {x : D} (hx : Call1 n x) (h4 : n ≤ 4) : pairD x ∈ [some ((1 : Int), (0 : Int)), some (2, 0), some (2, 1), some (3, 0), some (3, 1), some (3, 2)] := by
  obtain ⟨i, j, how, hd, rfl, a, b, c, d, e, _⟩ := hx.ex
  have hi : i = 0 ∨ i = 1 ∨ i = 2 ∨ i = 3 := by omega
  have hj : j = 0 ∨ j = 1 ∨ j = 2 ∨ j = 3 := by omega
  rcases hi with rfl | rfl | rfl | rfl <;> rcases hj with rfl | rfl | rfl | rfl <;> first | (exact absurd rfl e) | (simp [pairD])
theorem six (hx : ∀ x ∈ xs, Call1 n x) (h : xs.Pairwise Apart) (h4 : n ≤ 4) : xs.length ≤ 6 := by
  have nd : (xs.map pairD).Nodup := List.pairwise_map.mpr (h.imp fun q => q)
  have hs : ∀ p ∈ xs.map pairD, p ∈ [some ((1 : Int), (0 : Int)), some (2, 0), some (2, 1), some (3, 0), some (3, 1), some (3, 2)] := fun p hp => by
    obtain ⟨x, hxm, rfl⟩ := List.mem_map.mp hp
    exact pairs_of (hx x hxm) h4
  have := nd.length_le_of_subset hs
  simpa using this
theorem CS.six (h : CS n xs) (h4 : n ≤ 4) : xs.length ≤ 6 := CW.six h.call h.apart h4
theorem CS.make {ys : List D} (hy : ∀ y ∈ ys, Call1 n y) (ha : ys.Pairwise Apart) (h4 : n ≤ 4) : CS n (srtD ys) := by
  have p := srt_perm ys
  exact ⟨fun x hx => hy x (p.mem_iff.mp hx), p.symm.pairwise ha fun q => apart_sym q, srt_sorted hy (keys_of hy ha) (CW.six hy ha h4)⟩
theorem CS.filter (h : CS n xs) (q : D → Bool) : CS n (xs.filter q) :=
  ⟨fun x hx => h.call x (List.mem_filter.mp hx).1, h.apart.filter _, h.srt.filter _⟩
end
end CW

namespace Lw
open PySem L2 CW
local macro_rules | `(tactic| walk_at "w") => `(tactic| first
  | with_reducible refine ws_seq ?_ | with_reducible refine ws_asg ?_ | with_reducible refine ws_ret ?_ | with_reducible refine ws_drop ?_ | with_reducible refine ws_if ?_ | with_reducible refine ws_sk ?_
  | with_reducible refine wp_bin ?_ | with_reducible refine wp_v (by with_unfolding_all rfl) ?_ | with_reducible refine wp_c ?_ | with_reducible refine wp_tst ?_ | with_reducible refine wp_consA ?_ | with_reducible refine wp_nilA ?_
  | with_reducible refine wp_callE ?_ | with_reducible refine wp_nm ?_ | with_reducible refine wp_subG ?_ | with_reducible refine wp_tupE ?_ | with_reducible refine wp_lstE ?_ | with_reducible refine wp_andT ?_ | with_reducible refine wp_orT ?_ | with_reducible refine wp_notT ?_ | with_reducible refine wp_andV ?_ | with_reducible refine wp_orV ?_ | with_reducible refine wp_notV ?_ | with_reducible refine wp_isi ?_ | with_reducible refine wp_metE ?_
  | with_reducible refine wp_add ?_ | with_reducible refine wp_sub ?_ | with_reducible refine wp_gt ?_ | with_reducible refine wp_lt ?_ | with_reducible refine wp_ge ?_ | with_reducible refine wp_le ?_ | with_reducible refine wp_eqI ?_ | with_reducible refine wp_neI ?_
  | with_reducible refine ⟨_, rfl, ?_⟩ | with_reducible refine wp_slE ?_ | with_reducible refine wp_noP ?_ | with_reducible refine wp_somP ?_ | with_reducible refine wp_slF ?_ | with_reducible refine wp_slT ?_ | with_reducible refine wp_lenF ?_ | with_reducible refine wp_lenT ?_ | with_reducible refine wp_absB ?_ | with_reducible refine wp_yes ?_ | with_reducible refine wp_dctE ?_ | with_reducible refine wp_consP ?_ | with_reducible refine wp_nilP ?_ | with_reducible refine ws_put ?_)
local macro_rules | `(tactic| walk_at "e") => `(tactic| first
  | with_reducible exact ev_v (by with_unfolding_all rfl) | with_reducible exact ev_c | with_reducible apply ev_bin | with_reducible apply ev_orV | with_reducible apply ev_andV | with_reducible apply ev_notV | with_reducible apply ev_tup | with_reducible apply ev_call
  | with_reducible exact eva_nil | with_reducible apply eva_cons | with_reducible apply evs_ret | with_reducible apply evt_tst | with_reducible apply evt_and | with_reducible apply evt_or | with_reducible apply evt_not | with_reducible exact evt_yes | with_reducible apply ev_slT | with_reducible exact evp_no | with_reducible apply evp_som
  | with_reducible exact op_eqI | with_reducible exact op_ixT (by with_unfolding_all rfl) | with_reducible exact op_eqS (by first | assumption | decide +kernel) (by first | assumption | decide +kernel) | with_reducible exact op_eqIS (by first | assumption | decide +kernel) (by first | assumption | decide +kernel) | with_reducible exact pf_intB | with_reducible exact pf_len | (with_reducible intro _))
section
variable {i j h line : Int} {how : Str}
theorem ev_is_in (hh : how ∈ hows) : PF sm_is_in [callD i j how h, .int line] (.bl (fIn line (callD i j how h))) := by
  have hw := ok_hows hh
  apply pf_to
  · apply pf_def rfl
    repeat walk_at "e"
    exact op_inS ["ring", "show", "talk", "hold0", "hold1"] hw (by decide +kernel) rfl
  · simp [both, fIn]
theorem ev_is_talk (hh : how ∈ hows) : PF sm_is_talk_of [callD i j how h, .int line] (.bl (fTalk line (callD i j how h))) := by
  have hw := ok_hows hh
  apply pf_to
  · apply pf_def rfl
    repeat walk_at "e"
    exact op_inI [i, j] rfl
  · simp [fTalk]
theorem ev_is_held (hh : how ∈ hows) : PF sm_is_held_by [callD i j how h, .int line] (.bl (fHeld line (callD i j how h))) := by
  have hw := ok_hows hh
  apply pf_to
  · apply pf_def rfl
    repeat walk_at "e"
  · simp [fHeld]
theorem ev_is_shown (hh : how ∈ hows) : PF sm_is_shown_to [callD i j how h, .int line] (.bl (fShown line (callD i j how h))) := by
  have hw := ok_hows hh
  apply pf_to
  · apply pf_def rfl
    repeat walk_at "e"
  · simp [fShown]
theorem ev_is_ringing (hh : how ∈ hows) : PF sm_is_ringing_at [callD i j how h, .int line] (.bl (fRing line (callD i j how h))) := by
  have hw := ok_hows hh
  apply pf_to
  · apply pf_def rfl
    repeat walk_at "e"
  · simp [fRing]
end
section
variable {n line : Int} {xs : List D}
theorem ev_calls_of (hx : ∀ x ∈ xs, Call1 n x) (hl : xs.length ≤ 16) : PF sm_calls_of [.tup xs, .int line] (.tup (xs.filter (fIn line))) := by
  apply pf_to
  · apply pf_def rfl
    apply evs_ret
    refine ev_tupG (xs := xs) (p := fIn line) (k := id) (ev_v rfl) (fun x hm => ?_) (fun x hm _ => ev_v rfl) (by omega)
    exact evt_tst (ev_call (eva_cons (ev_v rfl) (eva_cons (ev_v rfl) eva_nil)) (pf_of ev_is_in (hx x hm)))
  · rw [List.map_id]
theorem ev_talks_of (hx : ∀ x ∈ xs, Call1 n x) (hl : xs.length ≤ 16) : PF sm_talks_of [.tup xs, .int line] (.tup (xs.filter (fTalk line))) := by
  apply pf_to
  · apply pf_def rfl
    apply evs_ret
    refine ev_tupG (xs := xs) (p := fTalk line) (k := id) (ev_v rfl) (fun x hm => ?_) (fun x hm _ => ev_v rfl) (by omega)
    exact evt_tst (ev_call (eva_cons (ev_v rfl) (eva_cons (ev_v rfl) eva_nil)) (pf_of ev_is_talk (hx x hm)))
  · rw [List.map_id]
theorem ev_holds_of (hx : ∀ x ∈ xs, Call1 n x) (hl : xs.length ≤ 16) : PF sm_holds_of [.tup xs, .int line] (.tup (xs.filter (fHeld line))) := by
  apply pf_to
  · apply pf_def rfl
    apply evs_ret
    refine ev_tupG (xs := xs) (p := fHeld line) (k := id) (ev_v rfl) (fun x hm => ?_) (fun x hm _ => ev_v rfl) (by omega)
    exact evt_tst (ev_call (eva_cons (ev_v rfl) (eva_cons (ev_v rfl) eva_nil)) (pf_of ev_is_held (hx x hm)))
  · rw [List.map_id]
theorem ev_has_talk (hx : ∀ x ∈ xs, Call1 n x) : PF sm_has_talk [.tup xs, .int line] (.bl (xs.any (fTalk line))) := by
  apply pf_to
  · apply pf_def rfl
    apply evs_ret
    refine ev_allG (xs := xs) (p := fun _ => true) (k := fTalk line) (ev_v rfl) (fun x hm => evt_yes) (fun x hm _ => ?_)
    exact ev_call (eva_cons (ev_v rfl) (eva_cons (ev_v rfl) eva_nil)) (pf_of ev_is_talk (hx x hm))
  · simp
theorem ev_has_hold (hx : ∀ x ∈ xs, Call1 n x) : PF sm_has_hold [.tup xs, .int line] (.bl (xs.any (fHeld line))) := by
  apply pf_to
  · apply pf_def rfl
    apply evs_ret
    refine ev_allG (xs := xs) (p := fun _ => true) (k := fHeld line) (ev_v rfl) (fun x hm => evt_yes) (fun x hm _ => ?_)
    exact ev_call (eva_cons (ev_v rfl) (eva_cons (ev_v rfl) eva_nil)) (pf_of ev_is_held (hx x hm))
  · simp
theorem ev_is_free (hx : ∀ x ∈ xs, Call1 n x) : PF sm_is_free [.tup xs, .int line] (.bl (!xs.any (fIn line))) := by
  apply pf_to
  · apply pf_def rfl
    apply evs_ret
    apply ev_notV
    refine ev_allG (xs := xs) (p := fun _ => true) (k := fIn line) (ev_v rfl) (fun x hm => evt_yes) (fun x hm _ => ?_)
    exact ev_call (eva_cons (ev_v rfl) (eva_cons (ev_v rfl) eva_nil)) (pf_of ev_is_in (hx x hm))
  · simp
theorem ev_free_hands (hx : ∀ x ∈ xs, Call1 n x) : PF sm_has_free_hands [.tup xs, .int line] (.bl ((xs.filter (fIn line)).all (fHeld line))) := by
  apply pf_to
  · apply pf_def rfl
    apply evs_ret
    refine ev_allG (xs := xs) (p := fIn line) (k := fHeld line) (ev_v rfl) (fun x hm => ?_) (fun x hm _ => ?_)
    · exact evt_tst (ev_call (eva_cons (ev_v rfl) (eva_cons (ev_v rfl) eva_nil)) (pf_of ev_is_in (hx x hm)))
    · exact ev_call (eva_cons (ev_v rfl) (eva_cons (ev_v rfl) eva_nil)) (pf_of ev_is_held (hx x hm))
  · simp
theorem ev_shown_to (hx : ∀ x ∈ xs, Call1 n x) : PF sm_shown_to [.tup xs, .int line] ((xs.find? (fShown line)).getD .non) := by
  apply pf_def rfl
  refine evs_find (xs := xs) (p := fShown line) (ev_v rfl) (fun x hm => ?_) (by simp) (fun e => evs_ret ev_c)
  exact evt_tst (ev_call (eva_cons (ev_v rfl) (eva_cons (ev_v rfl) eva_nil)) (pf_of ev_is_shown (hx x hm)))
theorem ev_rings_at (hx : ∀ x ∈ xs, Call1 n x) : PF sm_rings_at [.tup xs, .int line] ((xs.find? (fRing line)).getD .non) := by
  apply pf_def rfl
  refine evs_find (xs := xs) (p := fRing line) (ev_v rfl) (fun x hm => ?_) (by simp) (fun e => evs_ret ev_c)
  exact evt_tst (ev_call (eva_cons (ev_v rfl) (eva_cons (ev_v rfl) eva_nil)) (pf_of ev_is_ringing (hx x hm)))
end
section
variable {n line night me hid : Int} {xs : List D}
theorem find_some {p : D → Bool} (hx : ∀ x ∈ xs, Call1 n x) : ∃ z, OpV (isND true) ((xs.find? p).getD .non) .non z ∧ z = .bl (xs.any p) := by
  cases h : xs.find? p with
  | none =>
    refine ⟨_, op_isN, ?_⟩
    rw [← List.isSome_find?, h]; rfl
  | some x =>
    obtain ⟨i, j, how, hd, rfl, _⟩ := (hx x (List.mem_of_find?_eq_some h)).ex
    refine ⟨_, op_isT, ?_⟩
    rw [← List.isSome_find?, h]; rfl
theorem kin_not {w : Str} (h : (c_OPPOSITES.lookup w).isSome = false) {env : CW.Env} {f : Sm} (e : Ev f env (.str w)) : EvT (tst (una (kinD false c_OPPOSITES) f)) env false := evt_tst (ev_una e fun m => by unfold kinD; simp only; rw [h]; rfl)
theorem kin_yes {w v : Str} (h : c_OPPOSITES.lookup w = some (.str v)) {env : CW.Env} {f : Sm} (e : Ev f env (.str w)) : EvT (tst (una (kinD false c_OPPOSITES) f)) env true := evt_tst (ev_una e fun m => by unfold kinD; simp only; rw [h]; rfl)
theorem kget_yes {w v : Str} (h : c_OPPOSITES.lookup w = some (.str v)) {env : CW.Env} {f : Sm} (e : Ev f env (.str w)) : Ev (una (kgetD c_OPPOSITES) f) env (.str v) := ev_una e fun m => by unfold kgetD; simp only; rw [h]
theorem is_no {w v : Str} (h : (w == v) = false) (hw : PyData.strOk w = true) (hv : PyData.strOk v = true) {env : CW.Env} {f : Sm} (e : Ev f env (.str w)) : EvT (tst (CW.bin eqD f (cD (.str v)))) env false := evt_to (evt_tst (ev_bin e ev_c (op_eqS hw hv))) h
theorem is_yes {w v : Str} (h : (w == v) = true) (hw : PyData.strOk w = true) (hv : PyData.strOk v = true) {env : CW.Env} {f : Sm} (e : Ev f env (.str w)) : EvT (tst (CW.bin eqD f (cD (.str v)))) env true := evt_to (evt_tst (ev_bin e ev_c (op_eqS hw hv))) h
theorem so_night (k : Nat) : PF (sm_is_so (k + 1)) [.tup xs, .int night, .int me, .int hid, .str "night"] (.bl (night == 1)) := by
  refine pf_def rfl (evs_no (kin_not (by decide +kernel) (ev_v rfl)) (evs_yes (is_yes (by decide +kernel) (by decide +kernel) (by decide +kernel) (ev_v rfl)) (ev_bin (ev_v rfl) ev_c op_eqI)))
theorem so_talk (hx : ∀ x ∈ xs, Call1 n x) (k : Nat) : PF (sm_is_so (k + 1)) [.tup xs, .int night, .int me, .int hid, .str "talk"] (.bl (xs.any (fTalk me))) := by
  refine pf_def rfl (evs_no (kin_not (by decide +kernel) (ev_v rfl)) (evs_no (is_no (by decide +kernel) (by decide +kernel) (by decide +kernel) (ev_v rfl)) (evs_yes (is_yes (by decide +kernel) (by decide +kernel) (by decide +kernel) (ev_v rfl)) (ev_call (eva_cons (ev_v rfl) (eva_cons (ev_v rfl) eva_nil)) (ev_has_talk hx)))))
theorem so_held (hx : ∀ x ∈ xs, Call1 n x) (k : Nat) : PF (sm_is_so (k + 1)) [.tup xs, .int night, .int me, .int hid, .str "held"] (.bl (xs.any (fHeld me))) := by
  refine pf_def rfl (evs_no (kin_not (by decide +kernel) (ev_v rfl)) (evs_no (is_no (by decide +kernel) (by decide +kernel) (by decide +kernel) (ev_v rfl)) (evs_no (is_no (by decide +kernel) (by decide +kernel) (by decide +kernel) (ev_v rfl)) (evs_yes (is_yes (by decide +kernel) (by decide +kernel) (by decide +kernel) (ev_v rfl)) (ev_call (eva_cons (ev_v rfl) (eva_cons (ev_v rfl) eva_nil)) (ev_has_hold hx))))))
theorem so_shown (hx : ∀ x ∈ xs, Call1 n x) (k : Nat) : PF (sm_is_so (k + 1)) [.tup xs, .int night, .int me, .int hid, .str "shown"] (.bl (xs.any (fShown me))) := by
  obtain ⟨z, hz, rfl⟩ := find_some (p := fShown me) hx
  refine pf_def rfl (evs_no (kin_not (by decide +kernel) (ev_v rfl)) (evs_no (is_no (by decide +kernel) (by decide +kernel) (by decide +kernel) (ev_v rfl)) (evs_no (is_no (by decide +kernel) (by decide +kernel) (by decide +kernel) (ev_v rfl)) (evs_no (is_no (by decide +kernel) (by decide +kernel) (by decide +kernel) (ev_v rfl)) (evs_yes (is_yes (by decide +kernel) (by decide +kernel) (by decide +kernel) (ev_v rfl)) (ev_bin (ev_call (eva_cons (ev_v rfl) (eva_cons (ev_v rfl) eva_nil)) (ev_shown_to hx)) ev_c hz))))))
theorem so_idle (hx : ∀ x ∈ xs, Call1 n x) (k : Nat) : PF (sm_is_so (k + 1)) [.tup xs, .int night, .int me, .int hid, .str "idle"] (.bl (!xs.any (fIn me))) := by
  refine pf_def rfl (evs_no (kin_not (by decide +kernel) (ev_v rfl)) (evs_no (is_no (by decide +kernel) (by decide +kernel) (by decide +kernel) (ev_v rfl)) (evs_no (is_no (by decide +kernel) (by decide +kernel) (by decide +kernel) (ev_v rfl)) (evs_no (is_no (by decide +kernel) (by decide +kernel) (by decide +kernel) (ev_v rfl)) (evs_no (is_no (by decide +kernel) (by decide +kernel) (by decide +kernel) (ev_v rfl)) (evs_yes (is_yes (by decide +kernel) (by decide +kernel) (by decide +kernel) (ev_v rfl)) (ev_call (eva_cons (ev_v rfl) (eva_cons (ev_v rfl) eva_nil)) (ev_is_free hx))))))))
theorem so_hid (k : Nat) : PF (sm_is_so (k + 1)) [.tup xs, .int night, .int me, .int hid, .str "hid"] (.bl (hid == 1)) := by
  refine pf_def rfl (evs_no (kin_not (by decide +kernel) (ev_v rfl)) (evs_no (is_no (by decide +kernel) (by decide +kernel) (by decide +kernel) (ev_v rfl)) (evs_no (is_no (by decide +kernel) (by decide +kernel) (by decide +kernel) (ev_v rfl)) (evs_no (is_no (by decide +kernel) (by decide +kernel) (by decide +kernel) (ev_v rfl)) (evs_no (is_no (by decide +kernel) (by decide +kernel) (by decide +kernel) (ev_v rfl)) (evs_no (is_no (by decide +kernel) (by decide +kernel) (by decide +kernel) (ev_v rfl)) (evs_ret (ev_bin (ev_v rfl) ev_c op_eqI))))))))
theorem so_opp {w v : Str} {b : Bool} {k : Nat} (h : c_OPPOSITES.lookup w = some (.str v)) (hb : PF (sm_is_so k) [.tup xs, .int night, .int me, .int hid, .str v] (.bl b)) : PF (sm_is_so (k + 1)) [.tup xs, .int night, .int me, .int hid, .str w] (.bl (!b)) :=
  pf_def rfl (evs_yes (kin_yes h (ev_v rfl)) (ev_notV (ev_call (eva_cons (ev_v rfl) (eva_cons (ev_v rfl) (eva_cons (ev_v rfl) (eva_cons (ev_v rfl) (eva_cons (kget_yes h (ev_v rfl)) eva_nil))))) hb)))
def words12 : List Str := ["night", "day", "talk", "mute", "held", "bare", "shown", "clear", "idle", "used", "hid", "named"]
/-- what a test is told to be -/
def soB (xs : List D) (night me hid : Int) (w : Str) : Bool :=
  if w = "night" then night == 1 else if w = "day" then !(night == 1) else if w = "talk" then xs.any (fTalk me) else if w = "mute" then !xs.any (fTalk me) else if w = "held" then xs.any (fHeld me) else if w = "bare" then !xs.any (fHeld me)
  else if w = "shown" then xs.any (fShown me) else if w = "clear" then !xs.any (fShown me) else if w = "idle" then !xs.any (fIn me) else if w = "used" then !(!xs.any (fIn me)) else if w = "hid" then hid == 1 else !(hid == 1)
theorem so_all (hx : ∀ x ∈ xs, Call1 n x) : ∀ w ∈ words12, PF (sm_is_so 8) [.tup xs, .int night, .int me, .int hid, .str w] (.bl (soB xs night me hid w)) := by
  intro w hw
  simp only [words12, List.mem_cons, List.not_mem_nil, or_false] at hw
  rcases hw with rfl | rfl | rfl | rfl | rfl | rfl | rfl | rfl | rfl | rfl | rfl | rfl
  · exact pf_to (so_night 7) (congrArg D.bl (by unfold soB; simp))
  · exact pf_to (so_opp (by with_unfolding_all rfl) (so_night 6)) (congrArg D.bl (by unfold soB; simp (decide := true)))
  · exact pf_to (so_talk hx 7) (congrArg D.bl (by unfold soB; simp (decide := true)))
  · exact pf_to (so_opp (by with_unfolding_all rfl) (so_talk hx 6)) (congrArg D.bl (by unfold soB; simp (decide := true)))
  · exact pf_to (so_held hx 7) (congrArg D.bl (by unfold soB; simp (decide := true)))
  · exact pf_to (so_opp (by with_unfolding_all rfl) (so_held hx 6)) (congrArg D.bl (by unfold soB; simp (decide := true)))
  · exact pf_to (so_shown hx 7) (congrArg D.bl (by unfold soB; simp (decide := true)))
  · exact pf_to (so_opp (by with_unfolding_all rfl) (so_shown hx 6)) (congrArg D.bl (by unfold soB; simp (decide := true)))
  · exact pf_to (so_idle hx 7) (congrArg D.bl (by unfold soB; simp (decide := true)))
  · exact pf_to (so_opp (by with_unfolding_all rfl) (so_idle hx 6)) (congrArg D.bl (by unfold soB; simp (decide := true)))
  · exact pf_to (so_hid 7) (congrArg D.bl (by unfold soB; simp (decide := true)))
  · exact pf_to (so_opp (by with_unfolding_all rfl) (so_hid 6)) (congrArg D.bl (by unfold soB; simp (decide := true)))
def turned : List (Key × D) := [(.inr "day", .str "night"), (.inr "named", .str "hid"), (.inr "mute", .str "talk"), (.inr "bare", .str "held"), (.inr "clear", .str "shown"), (.inr "idle", .str "used")]
end
end Lw

namespace Lw
open PySem L2 CW
local macro_rules | `(tactic| walk_at "w") => `(tactic| first
  | with_reducible refine ws_seq ?_ | with_reducible refine ws_asg ?_ | with_reducible refine ws_ret ?_ | with_reducible refine ws_drop ?_ | with_reducible refine ws_if ?_ | with_reducible refine ws_sk ?_
  | with_reducible refine wp_bin ?_ | with_reducible refine wp_v (by with_unfolding_all rfl) ?_ | with_reducible refine wp_c ?_ | with_reducible refine wp_tst ?_ | with_reducible refine wp_consA ?_ | with_reducible refine wp_nilA ?_
  | with_reducible refine wp_callE ?_ | with_reducible refine wp_nm ?_ | with_reducible refine wp_subG ?_ | with_reducible refine wp_tupE ?_ | with_reducible refine wp_lstE ?_ | with_reducible refine wp_andT ?_ | with_reducible refine wp_orT ?_ | with_reducible refine wp_notT ?_ | with_reducible refine wp_andV ?_ | with_reducible refine wp_orV ?_ | with_reducible refine wp_notV ?_ | with_reducible refine wp_isi ?_ | with_reducible refine wp_metE ?_
  | with_reducible refine wp_add ?_ | with_reducible refine wp_sub ?_ | with_reducible refine wp_gt ?_ | with_reducible refine wp_lt ?_ | with_reducible refine wp_ge ?_ | with_reducible refine wp_le ?_ | with_reducible refine wp_eqI ?_ | with_reducible refine wp_neI ?_
  | with_reducible refine ⟨_, rfl, ?_⟩ | with_reducible refine wp_slE ?_ | with_reducible refine wp_noP ?_ | with_reducible refine wp_somP ?_ | with_reducible refine wp_slF ?_ | with_reducible refine wp_slT ?_ | with_reducible refine wp_lenF ?_ | with_reducible refine wp_lenT ?_ | with_reducible refine wp_absB ?_ | with_reducible refine wp_yes ?_ | with_reducible refine wp_dctE ?_ | with_reducible refine wp_consP ?_ | with_reducible refine wp_nilP ?_ | with_reducible refine ws_put ?_)
local macro_rules | `(tactic| walk_at "e") => `(tactic| first
  | with_reducible exact ev_v (by with_unfolding_all rfl) | with_reducible exact ev_c | with_reducible apply ev_bin | with_reducible apply ev_orV | with_reducible apply ev_andV | with_reducible apply ev_notV | with_reducible apply ev_tup | with_reducible apply ev_call
  | with_reducible exact eva_nil | with_reducible apply eva_cons | with_reducible apply evs_ret | with_reducible apply evt_tst | with_reducible apply evt_and | with_reducible apply evt_or | with_reducible apply evt_not | with_reducible exact evt_yes | with_reducible apply ev_slT | with_reducible exact evp_no | with_reducible apply evp_som
  | with_reducible exact op_eqI | with_reducible exact op_ixT (by with_unfolding_all rfl) | with_reducible exact op_eqS (by first | assumption | decide +kernel) (by first | assumption | decide +kernel) | with_reducible exact op_eqIS (by first | assumption | decide +kernel) (by first | assumption | decide +kernel) | with_reducible exact pf_intB | with_reducible exact pf_len | (with_reducible intro _))
local macro_rules | `(tactic| walk_at "x") => `(tactic| first
  | with_reducible refine ws_seq ?_ | with_reducible refine ws_asg ?_ | with_reducible refine ws_ret ?_ | with_reducible refine ws_drop ?_ | with_reducible refine ws_if ?_ | with_reducible refine ws_sk ?_
  | with_reducible refine wp_bin ?_ | with_reducible refine wp_v (by with_unfolding_all rfl) ?_ | with_reducible refine wp_c ?_ | with_reducible refine wp_tst ?_ | with_reducible refine wp_consA ?_ | with_reducible refine wp_nilA ?_
  | with_reducible refine wp_callE ?_ | with_reducible refine wp_nm ?_ | with_reducible refine wp_subG ?_ | with_reducible refine wp_tupE ?_ | with_reducible refine wp_lstE ?_ | with_reducible refine wp_andT ?_ | with_reducible refine wp_orT ?_ | with_reducible refine wp_notT ?_ | with_reducible refine wp_andV ?_ | with_reducible refine wp_orV ?_ | with_reducible refine wp_notV ?_ | with_reducible refine wp_isi ?_ | with_reducible refine wp_metE ?_
  | with_reducible refine wp_add ?_ | with_reducible refine wp_sub ?_ | with_reducible refine wp_gt ?_ | with_reducible refine wp_lt ?_ | with_reducible refine wp_ge ?_ | with_reducible refine wp_le ?_ | with_reducible refine wp_eqI ?_ | with_reducible refine wp_neI ?_
  | with_reducible refine ⟨_, rfl, ?_⟩ | with_reducible refine wp_slE ?_ | with_reducible refine wp_noP ?_ | with_reducible refine wp_somP ?_ | with_reducible refine wp_slF ?_ | with_reducible refine wp_slT ?_ | with_reducible refine wp_lenF ?_ | with_reducible refine wp_lenT ?_ | with_reducible refine wp_absB ?_ | with_reducible refine wp_yes ?_ | with_reducible refine wp_dctE ?_ | with_reducible refine wp_consP ?_ | with_reducible refine wp_nilP ?_ | with_reducible refine ws_put ?_
  | with_reducible refine wp_ixT (by with_unfolding_all rfl) ?_ | with_reducible refine wp_tupGL rfl ?_ | with_reducible refine wp_consG ?_ | with_reducible refine wp_nilG ?_ | with_reducible refine wp_ifV ?_ | with_reducible refine wp_una ?_ | with_reducible refine ws_parL ?_)
def PatD (d : D) : Prop := d = .non ∨ ∃ vs : List Int, d = .tup (vs.map D.int) ∧ vs.length ≤ 16
def fitD : D → D → Bool
  | .non, _ => true
  | .tup xs, .int v => xs.any fun x => match x with
    | .int u => u == v
    | _ => false
  | _, _ => false
theorem ev_fits {p : D} {v : Int} (h : PatD p) : PF sm_fits [p, .int v] (.bl (fitD p (.int v))) := by
  rcases h with rfl | ⟨vs, rfl, _⟩
  · refine pf_def (np := 2) (n := 2) rfl ?_
    refine evs_ret (ev_to (ev_orV (a := true) (b := true) (ev_bin (ev_v rfl) ev_c op_isN) (fun h => nomatch h)) ?_)
    rfl
  · apply pf_def rfl
    refine evs_ret (ev_to (ev_orV (a := false) (ev_bin (ev_v rfl) ev_c op_isT) (fun _ => ev_bin (ev_v rfl) (ev_v rfl) (op_inI vs rfl))) ?_)
    simp only [fitD, List.any_map, Bool.false_or, Bool.false_xor, Bool.false_bne]
    rfl
def zfit (pats lines : List D) : Bool := (zipD pats lines).all fun z => match z with
  | .tup [p, l] => fitD p l
  | _ => false
def IntsD (ls : List D) : Prop := ∃ vs : List Int, ls = vs.map D.int
theorem IntsD.mem {ls : List D} (h : IntsD ls) {x : D} (hx : x ∈ ls) : ∃ v, x = .int v := by
  obtain ⟨vs, rfl⟩ := h
  obtain ⟨v, _, rfl⟩ := List.mem_map.mp hx
  exact ⟨v, rfl⟩
theorem ev_all_fit {pats lines : List D} (hp : ∀ p ∈ pats, PatD p) (hl : IntsD lines) : PF sm_all_fit [.tup pats, .tup lines] (.bl (zfit pats lines)) := by
  apply pf_def rfl
  apply evs_ret
  refine ev_to (ev_allGS (it := zipIt pats lines) (xs := zipD pats lines) (p := fun _ => true) (k := fun z => match z with
    | .tup [p, l] => fitD p l
    | _ => false) (e := fun z => match z with
    | .tup [p, l] => [some (.tup pats), some (.tup lines), some p, some l]
    | _ => []) (fun m => rfl) still_zip (fun z hz m => ?_) (fun z hz => evt_yes) (fun z hz _ => ?_)) ?_
  · obtain ⟨p, l, rfl, h1, h2, _⟩ := mem_zipD hz
    rfl
  · obtain ⟨p, l, rfl, h1, h2, _⟩ := mem_zipD hz
    obtain ⟨v, rfl⟩ := hl.mem h2
    exact ev_call (eva_cons (ev_v rfl) (eva_cons (ev_v rfl) eva_nil)) (ev_fits (hp p h1))
  · rw [List.filter_eq_self.mpr fun _ _ => rfl]; rfl
def soD (xs : List D) (night me hid : Int) : D → Bool
  | .str w => soB xs night me hid w
  | _ => false
def TestsD (ts : List D) : Prop := ∃ ws : List Str, ts = ws.map D.str ∧ (∀ w ∈ ws, w ∈ words12) ∧ ws.length ≤ 12
theorem TestsD.mem {ts : List D} (h : TestsD ts) {x : D} (hx : x ∈ ts) : ∃ w, x = .str w ∧ w ∈ words12 := by
  obtain ⟨vs, rfl, h2, _⟩ := h
  obtain ⟨v, h3, rfl⟩ := List.mem_map.mp hx
  exact ⟨v, rfl, h2 v h3⟩
section
variable {n night me hid : Int} {xs : List D}
theorem ev_are_so (hx : ∀ x ∈ xs, Call1 n x) {ts : List D} (ht : TestsD ts) : PF sm_are_so [.tup xs, .int night, .int me, .int hid, .tup ts] (.bl (ts.all (soD xs night me hid))) := by
  apply pf_def rfl
  apply evs_ret
  refine ev_to (ev_allG (xs := ts) (p := fun _ => true) (k := soD xs night me hid) (ev_v rfl) (fun x hm => evt_yes) (fun x hm _ => ?_)) ?_
  · obtain ⟨w, rfl, hw⟩ := ht.mem hm
    exact ev_call (eva_cons (ev_v rfl) (eva_cons (ev_v rfl) (eva_cons (ev_v rfl) (eva_cons (ev_v rfl) (eva_cons (ev_v rfl) eva_nil))))) (so_all hx w hw)
  · rw [List.filter_eq_self.mpr fun _ _ => rfl]; rfl
end
def wtab : List (Str × Nat) := (["comes", "rings", "shows", "busy", "shut", "talks", "ends", "waits", "holds", "backs", "dial"] : List Str).map (fun w => (w, 2)) ++ [(("sent" : Str), 3)] ++ (["take", "drop", "flash", "joins", "frees"] : List Str).map (fun w => (w, 1)) ++ (["wait", "turn", "night", "day", "done"] : List Str).map (fun w => (w, 0))
def wtabD : List D := wtab.map fun p => .tup [.str p.1, .int (p.2 : Nat)]
theorem wtab_ok : ∀ p ∈ wtab, PyData.strOk p.1 = true := by decide +kernel
theorem wtab_le : ∀ p ∈ wtab, p.2 ≤ 3 := by decide +kernel
def StD (d : D) : Prop := d = .non ∨ ∃ v, d = .int v
structure TRule (d : D) : Prop where
  ex : ∃ st w k pats tests aft, d = .tup [.int st, .str w, .tup pats, .tup tests, aft] ∧ (w, k) ∈ wtab ∧ pats.length = k ∧ (∀ p ∈ pats, PatD p) ∧ TestsD tests ∧ StD aft
structure TWish (d : D) : Prop where
  ex : ∃ me rules tale, d = .tup [.int me, rules, .tup tale] ∧ (∀ r ∈ tale, TRule r) ∧ tale.length ≤ 100
structure TEvent (d : D) : Prop where
  ex : ∃ w k lines hid, d = .tup [.str w, .tup lines, .int hid] ∧ (w, k) ∈ wtab ∧ lines.length = k ∧ IntsD lines
def stEq (st : Int) : D → Bool
  | .int s => st == s
  | _ => false
def rcond (xs : List D) (night me hid : Int) (state : D) (word : Str) (lines : List D) : D → Bool
  | .tup [.int st, .str w, .tup pats, .tup tests, _] => stEq st state && (w == word && (zfit pats lines && tests.all (soD xs night me hid)))
  | _ => false
def aftD : D → D
  | .tup [_, _, _, _, a] => a
  | _ => .non
/-- where a wish's tale goes -/
def sbD (xs : List D) (night : Int) (event wish state : D) : D := match event, wish with
  | .tup [.str word, .tup lines, .int hid], .tup [.int me, _, .tup tale] => ((tale.find? (rcond xs night me hid state word lines)).map aftD).getD state
  | _, _ => .non
theorem op_eqSt {st : Int} {s : D} (h : StD s) : OpV eqD (.int st) s (.bl (stEq st s)) := by
  rcases h with rfl | ⟨v, rfl⟩
  · exact fun m => rfl
  · exact op_eqI
section
variable {n night : Int} {xs : List D}
theorem ev_state_behind (hx : ∀ x ∈ xs, Call1 n x) {wish state event : D} (hw : TWish wish) (hs : StD state) (he : TEvent event) : PF sm_state_behind [wish, state, .tup xs, .int night, event] (sbD xs night event wish state) := by
  obtain ⟨me, rules, tale, rfl, hr, _⟩ := hw.ex
  obtain ⟨w, k, lines, hid, rfl, hwk, hlen, hli⟩ := he.ex
  apply pf_def rfl
  refine evs_nx (env1 := [some (.tup [.int me, rules, .tup tale]), some state, some (.tup xs), some (.int night), some (.tup [.str w, .tup lines, .int hid]), none, some (.str w), some (.tup lines), some (.int hid), none, none, none]) (fun m => rfl) ?_
  refine evs_nx (env1 := [some (.tup [.int me, rules, .tup tale]), some state, some (.tup xs), some (.int night), some (.tup [.str w, .tup lines, .int hid]), none, some (.str w), some (.tup lines), some (.int hid), some (.int me), some rules, some (.tup tale)]) (fun m => rfl) ?_
  show EvS _ _ (.rt (((tale.find? (rcond xs night me hid state w lines)).map aftD).getD state))
  refine evs_findG (xs := tale) (ev_v rfl) (fun x hm => ?_) (fun x hm hp => ?_) (fun x => evs_ret (ev_v rfl)) (evs_ret (ev_v rfl))
  · obtain ⟨st, w2, k2, pats, tests, aft, rfl, hwk2, hlen2, hpat, htst, _⟩ := (hr x hm).ex
    refine evt_and (evt_tst (ev_bin (ev_bin (ev_v rfl) ev_c (op_ixT rfl)) (ev_v rfl) (op_eqSt hs))) fun _ => ?_
    refine evt_and (evt_tst (ev_bin (ev_bin (ev_v rfl) ev_c (op_ixT rfl)) (ev_v rfl) (op_eqS (wtab_ok _ hwk2) (wtab_ok _ hwk)))) fun _ => ?_
    refine evt_and (evt_tst (ev_call (eva_cons (ev_bin (ev_v rfl) ev_c (op_ixT rfl)) (eva_cons (ev_v rfl) eva_nil)) (ev_all_fit hpat hli))) fun _ => ?_
    exact evt_tst (ev_call (eva_cons (ev_v rfl) (eva_cons (ev_v rfl) (eva_cons (ev_v rfl) (eva_cons (ev_v rfl) (eva_cons (ev_bin (ev_v rfl) ev_c (op_ixT rfl)) eva_nil))))) (ev_are_so hx htst))
  · obtain ⟨st, w2, k2, pats, tests, aft, rfl, _⟩ := (hr x hm).ex
    exact ev_bin (ev_v rfl) ev_c (op_ixT rfl)
def toD (xs : List D) (night : Int) (event : D) : D → D
  | .tup [w, s] => sbD xs night event w s
  | _ => .non
theorem ev_told_on (hx : ∀ x ∈ xs, Call1 n x) {nD dD event : D} {wishes tales : List D} (hw : ∀ w ∈ wishes, TWish w) (hs : ∀ s ∈ tales, StD s) (he : TEvent event) (hl : wishes.length ≤ 1000) : PF sm_told_on [.tup [nD, .tup wishes, dD], .tup tales, .tup xs, .int night, event] (.tup ((zipD wishes tales).map (toD xs night event))) := by
  apply pf_def rfl
  apply evs_ret
  have hz : (zipD wishes tales).length ≤ 1000000 := by unfold zipD; rw [List.length_map, List.length_zip]; omega
  refine ev_to (ev_tupGS (it := zipIt wishes tales) (xs := zipD wishes tales) (p := fun _ => true) (k := toD xs night event) (e := fun z => match z with
    | .tup [w, s] => [some (.tup [nD, .tup wishes, dD]), some (.tup tales), some (.tup xs), some (.int night), some event, some w, some s]
    | _ => []) (fun m => rfl) still_zip (fun z hz m => ?_) (fun z hz => evt_yes) (fun z hz _ => ?_) hz) ?_
  · obtain ⟨p, l, rfl, h1, h2, _⟩ := mem_zipD hz
    rfl
  · obtain ⟨p, l, rfl, h1, h2, _⟩ := mem_zipD hz
    exact ev_call (eva_cons (ev_v rfl) (eva_cons (ev_v rfl) (eva_cons (ev_v rfl) (eva_cons (ev_v rfl) (eva_cons (ev_v rfl) eva_nil))))) (ev_state_behind hx (hw p h1) (hs l h2) he)
  · rw [List.filter_eq_self.mpr fun _ _ => rfl]
theorem sb_st {event wish state : D} (hw : TWish wish) (hs : StD state) (he : TEvent event) : StD (sbD xs night event wish state) := by
  obtain ⟨me, rules, tale, rfl, hr, _⟩ := hw.ex
  obtain ⟨w, k, lines, hid, rfl, hwk, hlen, hli⟩ := he.ex
  unfold sbD
  simp only
  cases h : tale.find? (rcond xs night me hid state w lines) with
  | none => exact hs
  | some r =>
    obtain ⟨st, w2, k2, pats, tests, aft, rfl, _, _, _, _, ha⟩ := (hr r (List.mem_of_find?_eq_some h)).ex
    exact ha
end
end Lw

namespace Lw
open PySem L2 CW
local macro_rules | `(tactic| walk_at "w") => `(tactic| first
  | with_reducible refine ws_seq ?_ | with_reducible refine ws_asg ?_ | with_reducible refine ws_ret ?_ | with_reducible refine ws_drop ?_ | with_reducible refine ws_if ?_ | with_reducible refine ws_sk ?_
  | with_reducible refine wp_bin ?_ | with_reducible refine wp_v (by with_unfolding_all rfl) ?_ | with_reducible refine wp_c ?_ | with_reducible refine wp_tst ?_ | with_reducible refine wp_consA ?_ | with_reducible refine wp_nilA ?_
  | with_reducible refine wp_callE ?_ | with_reducible refine wp_nm ?_ | with_reducible refine wp_subG ?_ | with_reducible refine wp_tupE ?_ | with_reducible refine wp_lstE ?_ | with_reducible refine wp_andT ?_ | with_reducible refine wp_orT ?_ | with_reducible refine wp_notT ?_ | with_reducible refine wp_andV ?_ | with_reducible refine wp_orV ?_ | with_reducible refine wp_notV ?_ | with_reducible refine wp_isi ?_ | with_reducible refine wp_metE ?_
  | with_reducible refine wp_add ?_ | with_reducible refine wp_sub ?_ | with_reducible refine wp_gt ?_ | with_reducible refine wp_lt ?_ | with_reducible refine wp_ge ?_ | with_reducible refine wp_le ?_ | with_reducible refine wp_eqI ?_ | with_reducible refine wp_neI ?_
  | with_reducible refine ⟨_, rfl, ?_⟩ | with_reducible refine wp_slE ?_ | with_reducible refine wp_noP ?_ | with_reducible refine wp_somP ?_ | with_reducible refine wp_slF ?_ | with_reducible refine wp_slT ?_ | with_reducible refine wp_lenF ?_ | with_reducible refine wp_lenT ?_ | with_reducible refine wp_absB ?_ | with_reducible refine wp_yes ?_ | with_reducible refine wp_dctE ?_ | with_reducible refine wp_consP ?_ | with_reducible refine wp_nilP ?_ | with_reducible refine ws_put ?_)
local macro_rules | `(tactic| walk_at "e") => `(tactic| first
  | with_reducible exact ev_v (by with_unfolding_all rfl) | with_reducible exact ev_c | with_reducible apply ev_bin | with_reducible apply ev_orV | with_reducible apply ev_andV | with_reducible apply ev_notV | with_reducible apply ev_tup | with_reducible apply ev_call
  | with_reducible exact eva_nil | with_reducible apply eva_cons | with_reducible apply evs_ret | with_reducible apply evt_tst | with_reducible apply evt_and | with_reducible apply evt_or | with_reducible apply evt_not | with_reducible exact evt_yes | with_reducible apply ev_slT | with_reducible exact evp_no | with_reducible apply evp_som
  | with_reducible exact op_eqI | with_reducible exact op_ixT (by with_unfolding_all rfl) | with_reducible exact op_eqS (by first | assumption | decide +kernel) (by first | assumption | decide +kernel) | with_reducible exact op_eqIS (by first | assumption | decide +kernel) (by first | assumption | decide +kernel) | with_reducible exact pf_intB | with_reducible exact pf_len | (with_reducible intro _))
local macro_rules | `(tactic| walk_at "x") => `(tactic| first
  | with_reducible refine ws_seq ?_ | with_reducible refine ws_asg ?_ | with_reducible refine ws_ret ?_ | with_reducible refine ws_drop ?_ | with_reducible refine ws_if ?_ | with_reducible refine ws_sk ?_
  | with_reducible refine wp_bin ?_ | with_reducible refine wp_v (by with_unfolding_all rfl) ?_ | with_reducible refine wp_c ?_ | with_reducible refine wp_tst ?_ | with_reducible refine wp_consA ?_ | with_reducible refine wp_nilA ?_
  | with_reducible refine wp_callE ?_ | with_reducible refine wp_nm ?_ | with_reducible refine wp_subG ?_ | with_reducible refine wp_tupE ?_ | with_reducible refine wp_lstE ?_ | with_reducible refine wp_andT ?_ | with_reducible refine wp_orT ?_ | with_reducible refine wp_notT ?_ | with_reducible refine wp_andV ?_ | with_reducible refine wp_orV ?_ | with_reducible refine wp_notV ?_ | with_reducible refine wp_isi ?_ | with_reducible refine wp_metE ?_
  | with_reducible refine wp_add ?_ | with_reducible refine wp_sub ?_ | with_reducible refine wp_gt ?_ | with_reducible refine wp_lt ?_ | with_reducible refine wp_ge ?_ | with_reducible refine wp_le ?_ | with_reducible refine wp_eqI ?_ | with_reducible refine wp_neI ?_
  | with_reducible refine ⟨_, rfl, ?_⟩ | with_reducible refine wp_slE ?_ | with_reducible refine wp_noP ?_ | with_reducible refine wp_somP ?_ | with_reducible refine wp_slF ?_ | with_reducible refine wp_slT ?_ | with_reducible refine wp_lenF ?_ | with_reducible refine wp_lenT ?_ | with_reducible refine wp_absB ?_ | with_reducible refine wp_yes ?_ | with_reducible refine wp_dctE ?_ | with_reducible refine wp_consP ?_ | with_reducible refine wp_nilP ?_ | with_reducible refine ws_put ?_
  | with_reducible refine wp_ixT (by with_unfolding_all rfl) ?_ | with_reducible refine wp_tupGL rfl ?_ | with_reducible refine wp_consG ?_ | with_reducible refine wp_nilG ?_ | with_reducible refine wp_ifV ?_ | with_reducible refine wp_una ?_ | with_reducible refine ws_parL ?_)
section
variable {N n : Int} {l : Nat} {μ : Mu}
theorem pattern_spec (h : Hand N l μ) (hN : 10 ≤ N) (h2 : 2 ≤ n) (h4 : n ≤ 4) : wp (sm_L_pattern [.ref l, .int n] μ) fun r m => PatD r ∧ Hand (N - 10) l m ∧ Fr l μ m := by
  refine wp_def rfl ?_
  repeat walk_at "x"
  refine drawF h (by omega) (by decide) (by decide) fun v m1 v0 v1 hm1 f1 e1 => ?_
  repeat walk_at "x"
  refine ite2 (fun hv => ?_) (fun hv => ?_)
  · repeat walk_at "x"
    exact ⟨.inl rfl, hm1.mono (by omega), f1⟩
  · repeat walk_at "x"
    refine drawF hm1 (by omega) (by omega) (by omega) fun w m2 w0 w1 hm2 f2 e2 => ?_
    repeat walk_at "x"
    refine wp_lcD (l := l) (N := N - 1 - 1) (c := 1) (P := fun x y => y = x) (wp_rng1 ?_)
    repeat walk_at "x"
    refine ⟨by omega, by omega, _, still_fix, by simp; omega, hm2, by decide, by simp; omega, ?_, ?_⟩
    · intro x hx m M hM cM fr
      obtain ⟨k, rfl, k0, k1⟩ := rng_mem hx
      repeat walk_at "x"
      refine ite2 (fun hc => ?_) (fun hc => ?_)
      · refine iteT ?_
        repeat walk_at "x"
        exact ⟨rfl, hM.mono (by omega), Fr.refl⟩
      · repeat walk_at "x"
        refine drawF hM (by omega) (by decide) (by decide) fun u m3 u0 u1 hm3 f3 e3 => ?_
        repeat walk_at "x"
        refine ite2 (fun hc => ?_) (fun hc => ?_)
        · repeat walk_at "x"
          exact ⟨rfl, hm3.mono (by omega), f3⟩
        · exact ⟨hm3.mono (by omega), f3⟩
    · intro ys m hy hlen hcell hh fr
      repeat walk_at "x"
      refine wp_tupL hcell ?_
      obtain ⟨vs, rfl, hvl⟩ := ints_of (ys := ys) fun y hy' => by
        obtain ⟨x, hx, rfl⟩ := hy y hy'
        obtain ⟨k, rfl, _, _⟩ := rng_mem hx
        exact ⟨k, rfl⟩
      simp only [List.length_map, List.length_range] at hh hlen
      exact ⟨.inr ⟨vs, rfl, by omega⟩, hh.mono (by omega), (f1.trans f2).trans fr⟩
theorem words12_ok : ∀ w ∈ words12, PyData.strOk w = true := by decide +kernel
theorem tests_spec (h : Hand N l μ) (hN : 10 ≤ N) : wp (sm_L_tests [.ref l] μ) fun r m => (∃ ts, r = .tup ts ∧ TestsD ts) ∧ Hand (N - 10) l m ∧ Fr l μ m := by
  have hl := h.lt
  refine wp_def rfl ?_
  repeat walk_at "x"
  refine drawF ((h.push _).push _) (by omega) (by decide) (by decide) fun v m1 v0 v1 hm1 f1 e1 => ?_
  have c0 : (μ ++ [Cell.lst (words12.map D.str)])[μ.length]? = some (.lst (words12.map D.str)) := get_last _ _
  have c1 := f1.get (k := μ.length) (by omega) (get_old c0)
  have c2 := f1.get (k := (μ ++ [Cell.lst (words12.map D.str)]).length) (by simp; omega) (get_last _ _)
  obtain ⟨d, ed, hd⟩ := ix_mem (xs := [D.int 0, .int 0, .int 0, .int 1, .int 1, .int 1, .int 2, .int 3]) v0 (by simpa using v1)
  have hd' : ∃ j : Int, d = .int j ∧ 0 ≤ j ∧ j ≤ 3 := by
    simp only [List.mem_cons, List.not_mem_nil, or_false] at hd
    rcases hd with rfl | rfl | rfl | rfl | rfl | rfl | rfl | rfl <;> exact ⟨_, rfl, by decide, by decide⟩
  obtain ⟨j, rfl, j0, j3⟩ := hd'
  refine wp_ixL c2 ed ?_
  repeat walk_at "x"
  have fa : Fr l μ m1 := ((Fr.refl.push _).push _).trans f1
  refine wp_lcDY (l := l) (N := N - 1) (c := 1) (P := fun x y => ∃ w, y = .str w ∧ w ∈ words12) (wp_rng1 ?_)
  repeat walk_at "x"
  refine ⟨by omega, by omega, _, still_fix, by simp; omega, hm1, by decide, by simp; omega, ?_, ?_⟩
  · intro x hx m M hM cM fr
    repeat walk_at "x"
    refine drawF hM (by omega) (by decide) (by decide) fun u m3 u0 u1 hm3 f3 e3 => ?_
    have c3 := (fr.trans f3).get (k := μ.length) (by omega) c1
    obtain ⟨d, ed, hd⟩ := ix_mem (xs := words12.map D.str) u0 (by simpa [words12] using u1)
    obtain ⟨w, hw, rfl⟩ := List.mem_map.mp hd
    exact wp_ixL c3 ed ⟨⟨w, rfl, hw⟩, hm3, f3⟩
  · intro ys m hy hlen hcell hh fr
    have c4 := fr.get (k := μ.length) (by omega) c1
    obtain ⟨ws, rfl, hws, hwl⟩ := strs_of (S := words12) (ys := ys) fun y hy' => by
      obtain ⟨_, _, h⟩ := hy y hy'
      exact h
    repeat walk_at "x"
    refine wp_lcE (p := fun d => match d with
      | .str w => ws.any fun y => y == w
      | _ => false) (k := id) (wp_seqIL ?_)
    repeat walk_at "x"
    refine ⟨_, words12.map D.str, rfl, c4, words12.map D.str, rfl, fun i m' g => lst_item (g.get c4) i, by decide, fun x hx m' g => ?_, fun m' g hc => ?_⟩
    · obtain ⟨w, hw, rfl⟩ := List.mem_map.mp hx
      refine wp_nm ⟨Gr.refl, egt_tst (eg_bin (eg_v rfl) (eg_v rfl) fun m2 g2 => ?_), fun _ => eg_v rfl⟩
      refine wp_inLS (g2.get hcell) (words12_ok w hw) (fun y hy => words12_ok y (hws y hy)) ⟨?_, Gr.refl⟩
      simp
    · repeat walk_at "x"
      refine wp_tupL hc ?_
      simp only [List.length_map, List.length_range] at hh hlen
      refine ⟨⟨_, rfl, ?_⟩, (hh.gr g).mono (by omega), (fa.trans fr).trans g.fr⟩
      rw [List.map_id, List.filter_map]
      refine ⟨_, rfl, fun w hw => (List.mem_filter.mp hw).1, ?_⟩
      exact Nat.le_trans (List.length_filter_le _ _) (by decide)
theorem words_spec : wp (sm_L_words [] μ) fun r m => ∃ k, r = .ref k ∧ m[k]? = some (.lst wtabD) ∧ Gr μ m ∧ μ.length ≤ k := by
  refine wp_def rfl ?_
  repeat walk_at "x"
  refine wp_lcE (p := fun _ => true) (k := fun d => .tup [d, .int 2]) (wp_seqIL ?_)
  repeat walk_at "x"
  refine ⟨_, _, rfl, get_last _ _, _, rfl, fun i m' g => lst_item (g.get (get_last _ _)) i, by decide, fun x hx m' g => ?_, fun m g hc => ?_⟩
  · refine wp_nm ⟨Gr.refl, egt_yes, fun _ => eg_tup (ega_cons (eg_v rfl) (ega_cons eg_c ega_nil))⟩
  repeat walk_at "x"
  have g0 : Gr μ m := (Gr.refl.push _).trans g
  refine wp_catL (get_old hc) (get_last _ _) (by decide) ?_
  repeat walk_at "x"
  refine wp_lcE (p := fun _ => true) (k := fun d => .tup [d, .int 1]) (wp_seqIL ?_)
  repeat walk_at "x"
  refine ⟨_, _, rfl, get_last _ _, _, rfl, fun i m' g => lst_item (g.get (get_last _ _)) i, by decide, fun x hx m' g => ?_, fun m2 g2 hc2 => ?_⟩
  · refine wp_nm ⟨Gr.refl, egt_yes, fun _ => eg_tup (ega_cons (eg_v rfl) (ega_cons eg_c ega_nil))⟩
  refine wp_catL (g2.get (get_old (get_last _ _))) hc2 (by decide) ?_
  repeat walk_at "x"
  refine wp_lcE (p := fun _ => true) (k := fun d => .tup [d, .int 0]) (wp_seqIL ?_)
  repeat walk_at "x"
  refine ⟨_, _, rfl, get_last _ _, _, rfl, fun i m' g => lst_item (g.get (get_last _ _)) i, by decide, fun x hx m' g => ?_, fun m3 g3 hc3 => ?_⟩
  · refine wp_nm ⟨Gr.refl, egt_yes, fun _ => eg_tup (ega_cons (eg_v rfl) (ega_cons eg_c ega_nil))⟩
  refine wp_catL (g3.get (get_old (get_last _ _))) hc3 (by decide) ?_
  have gA : Gr μ m3 := (((((g0.push _).push _).push _).trans g2).push _ |>.push _).trans g3
  refine ⟨_, rfl, ?_, gA.push _, gA.len⟩
  rw [get_last]; rfl
end
end Lw

namespace Lw
open PySem L2 CW
local macro_rules | `(tactic| walk_at "w") => `(tactic| first
  | with_reducible refine ws_seq ?_ | with_reducible refine ws_asg ?_ | with_reducible refine ws_ret ?_ | with_reducible refine ws_drop ?_ | with_reducible refine ws_if ?_ | with_reducible refine ws_sk ?_
  | with_reducible refine wp_bin ?_ | with_reducible refine wp_v (by with_unfolding_all rfl) ?_ | with_reducible refine wp_c ?_ | with_reducible refine wp_tst ?_ | with_reducible refine wp_consA ?_ | with_reducible refine wp_nilA ?_
  | with_reducible refine wp_callE ?_ | with_reducible refine wp_nm ?_ | with_reducible refine wp_subG ?_ | with_reducible refine wp_tupE ?_ | with_reducible refine wp_lstE ?_ | with_reducible refine wp_andT ?_ | with_reducible refine wp_orT ?_ | with_reducible refine wp_notT ?_ | with_reducible refine wp_andV ?_ | with_reducible refine wp_orV ?_ | with_reducible refine wp_notV ?_ | with_reducible refine wp_isi ?_ | with_reducible refine wp_metE ?_
  | with_reducible refine wp_add ?_ | with_reducible refine wp_sub ?_ | with_reducible refine wp_gt ?_ | with_reducible refine wp_lt ?_ | with_reducible refine wp_ge ?_ | with_reducible refine wp_le ?_ | with_reducible refine wp_eqI ?_ | with_reducible refine wp_neI ?_
  | with_reducible refine ⟨_, rfl, ?_⟩ | with_reducible refine wp_slE ?_ | with_reducible refine wp_noP ?_ | with_reducible refine wp_somP ?_ | with_reducible refine wp_slF ?_ | with_reducible refine wp_slT ?_ | with_reducible refine wp_lenF ?_ | with_reducible refine wp_lenT ?_ | with_reducible refine wp_absB ?_ | with_reducible refine wp_yes ?_ | with_reducible refine wp_dctE ?_ | with_reducible refine wp_consP ?_ | with_reducible refine wp_nilP ?_ | with_reducible refine ws_put ?_)
local macro_rules | `(tactic| walk_at "e") => `(tactic| first
  | with_reducible exact ev_v (by with_unfolding_all rfl) | with_reducible exact ev_c | with_reducible apply ev_bin | with_reducible apply ev_orV | with_reducible apply ev_andV | with_reducible apply ev_notV | with_reducible apply ev_tup | with_reducible apply ev_call
  | with_reducible exact eva_nil | with_reducible apply eva_cons | with_reducible apply evs_ret | with_reducible apply evt_tst | with_reducible apply evt_and | with_reducible apply evt_or | with_reducible apply evt_not | with_reducible exact evt_yes | with_reducible apply ev_slT | with_reducible exact evp_no | with_reducible apply evp_som
  | with_reducible exact op_eqI | with_reducible exact op_ixT (by with_unfolding_all rfl) | with_reducible exact op_eqS (by first | assumption | decide +kernel) (by first | assumption | decide +kernel) | with_reducible exact op_eqIS (by first | assumption | decide +kernel) (by first | assumption | decide +kernel) | with_reducible exact pf_intB | with_reducible exact pf_len | (with_reducible intro _))
local macro_rules | `(tactic| walk_at "x") => `(tactic| first
  | with_reducible refine ws_seq ?_ | with_reducible refine ws_asg ?_ | with_reducible refine ws_ret ?_ | with_reducible refine ws_drop ?_ | with_reducible refine ws_if ?_ | with_reducible refine ws_sk ?_
  | with_reducible refine wp_bin ?_ | with_reducible refine wp_v (by with_unfolding_all rfl) ?_ | with_reducible refine wp_c ?_ | with_reducible refine wp_tst ?_ | with_reducible refine wp_consA ?_ | with_reducible refine wp_nilA ?_
  | with_reducible refine wp_callE ?_ | with_reducible refine wp_nm ?_ | with_reducible refine wp_subG ?_ | with_reducible refine wp_tupE ?_ | with_reducible refine wp_lstE ?_ | with_reducible refine wp_andT ?_ | with_reducible refine wp_orT ?_ | with_reducible refine wp_notT ?_ | with_reducible refine wp_andV ?_ | with_reducible refine wp_orV ?_ | with_reducible refine wp_notV ?_ | with_reducible refine wp_isi ?_ | with_reducible refine wp_metE ?_
  | with_reducible refine wp_add ?_ | with_reducible refine wp_sub ?_ | with_reducible refine wp_gt ?_ | with_reducible refine wp_lt ?_ | with_reducible refine wp_ge ?_ | with_reducible refine wp_le ?_ | with_reducible refine wp_eqI ?_ | with_reducible refine wp_neI ?_
  | with_reducible refine ⟨_, rfl, ?_⟩ | with_reducible refine wp_slE ?_ | with_reducible refine wp_noP ?_ | with_reducible refine wp_somP ?_ | with_reducible refine wp_slF ?_ | with_reducible refine wp_slT ?_ | with_reducible refine wp_lenF ?_ | with_reducible refine wp_lenT ?_ | with_reducible refine wp_absB ?_ | with_reducible refine wp_yes ?_ | with_reducible refine wp_dctE ?_ | with_reducible refine wp_consP ?_ | with_reducible refine wp_nilP ?_ | with_reducible refine ws_put ?_
  | with_reducible refine wp_ixT (by with_unfolding_all rfl) ?_ | with_reducible refine wp_tupGL rfl ?_ | with_reducible refine wp_consG ?_ | with_reducible refine wp_nilG ?_ | with_reducible refine wp_ifV ?_ | with_reducible refine wp_una ?_ | with_reducible refine ws_parL ?_)
section
variable {N n s : Int} {l : Nat} {μ : Mu}
theorem mem_wtabD {d : D} (h : d ∈ wtabD) : ∃ w k, d = .tup [.str w, .int (k : Nat)] ∧ (w, k) ∈ wtab := by
  obtain ⟨p, hp, rfl⟩ := List.mem_map.mp h
  exact ⟨p.1, p.2, rfl, hp⟩
theorem pick22 {v u : Int} (v0 : 0 ≤ v) (v1 : v < 22) (u0 : 0 ≤ u) (u1 : u < 4) : ∃ j : Int, atI [D.int v, .int 0, .int 1, .int 5] u = some (.int j) ∧ 0 ≤ j ∧ j < 22 := by
  obtain ⟨d, ed, hd⟩ := ix_mem (xs := [D.int v, .int 0, .int 1, .int 5]) u0 (by simpa using u1)
  simp only [List.mem_cons, List.not_mem_nil, or_false] at hd
  rcases hd with rfl | rfl | rfl | rfl
  · exact ⟨_, ed, v0, v1⟩
  all_goals exact ⟨_, ed, by decide, by decide⟩
theorem tale_rule_spec (h : Hand N l μ) (hN : 60 ≤ N) (h2 : 2 ≤ n) (h4 : n ≤ 4) (s1 : 1 ≤ s) (s8 : s ≤ 8) : wp (sm_L_tale_rule [.ref l, .int n, .int s] μ) fun r m => TRule r ∧ Hand (N - 60) l m ∧ Fr l μ m := by
  have hl := h.lt
  refine wp_def rfl ?_
  repeat walk_at "x"
  refine wp_mono words_spec ?_
  rintro r m ⟨k, rfl, ck, g, hk⟩
  have hm := h.gr g
  have lm := hm.lt
  repeat walk_at "x"
  refine drawF hm (by omega) (by decide) (by decide) fun v m1 v0 v1 hm1 f1 e1 => ?_
  repeat walk_at "x"
  refine drawF (hm1.push _) (by omega) (by decide) (by decide) fun u m2 u0 u1 hm2 f2 e2 => ?_
  obtain ⟨j, ej, j0, j1⟩ := pick22 v0 v1 u0 u1
  refine wp_ixL (f2.get (k := m1.length) (by omega) (get_last _ _)) ej ?_
  have ck2 := f2.get (k := k) (by omega) (get_old (c := Cell.lst [.int v, .int 0, .int 1, .int 5]) (f1.get (k := k) (by omega) ck))
  obtain ⟨d, ed, hd⟩ := ix_mem (xs := wtabD) j0 (by simpa [wtabD, wtab] using j1)
  obtain ⟨w, ar, rfl, hwa⟩ := mem_wtabD hd
  have har := wtab_le _ hwa
  refine wp_ixL ck2 ed ?_
  repeat walk_at "x"
  have fa : Fr l μ m2 := ((g.fr.trans f1).trans (Fr.refl.push _)).trans f2
  refine wp_lcDY (l := l) (N := N - 1 - 1) (c := 10) (P := fun x y => PatD y) (wp_rng1 ?_)
  repeat walk_at "x"
  simp only at har
  refine ⟨by omega, by omega, _, still_fix, by simp; omega, hm2, by decide, by simp; omega, ?_, ?_⟩
  · intro x hx m M hM cM fr
    repeat walk_at "x"
    exact pattern_spec hM cM h2 h4
  intro ys m3 hy hlen hcell hh fr
  repeat walk_at "x"
  refine wp_tupL hcell ?_
  simp only [List.length_map, List.length_range] at hh hlen
  have h3 : Hand (N - 32) l m3 := hh.mono (by omega)
  repeat walk_at "x"
  refine wp_mod (by omega) ?_
  repeat walk_at "x"
  refine drawF h3 (by omega) (by omega) (by omega) fun p m4 p0 p1 hm4 f4 e4 => ?_
  repeat walk_at "x"
  refine drawF hm4 (by omega) (by omega) (by omega) fun q m5 q0 q1 hm5 f5 e5 => ?_
  repeat walk_at "x"
  refine drawF (hm5.push _) (by omega) (by omega) (by omega) fun t m6 t0 t1 hm6 f6 e6 => ?_
  have l5 := hm5.lt
  obtain ⟨aft, ea, ha⟩ := ix_mem (xs := [D.non, .int 0, .int (1 % s), .int p, .int q]) t0 (by simpa using t1)
  have hst : StD aft := by
    simp only [List.mem_cons, List.not_mem_nil, or_false] at ha
    rcases ha with rfl | rfl | rfl | rfl | rfl
    · exact .inl rfl
    all_goals exact .inr ⟨_, rfl⟩
  refine wp_ixL (f6.get (k := m5.length) (by omega) (get_last _ _)) ea ?_
  repeat walk_at "x"
  refine drawF hm6 (by omega) (by omega) (by omega) fun st m7 st0 st1 hm7 f7 e7 => ?_
  repeat walk_at "x"
  refine wp_mono (tests_spec hm7 (by omega)) ?_
  rintro _ m8 ⟨⟨ts, rfl, hts⟩, hm8, f8⟩
  repeat walk_at "x"
  refine ⟨⟨st, w, ar, ys, ts, aft, rfl, hwa, by omega, fun p hp => by obtain ⟨_, _, h⟩ := hy p hp; exact h, hts, hst⟩, hm8.mono (by omega), ?_⟩
  exact (((((fa.trans fr).trans f4).trans f5).trans (Fr.refl.push _)).trans f6).trans (f7.trans f8)
end
end Lw

namespace Lw
open PySem L2 CW
local macro_rules | `(tactic| walk_at "w") => `(tactic| first
  | with_reducible refine ws_seq ?_ | with_reducible refine ws_asg ?_ | with_reducible refine ws_ret ?_ | with_reducible refine ws_drop ?_ | with_reducible refine ws_if ?_ | with_reducible refine ws_sk ?_
  | with_reducible refine wp_bin ?_ | with_reducible refine wp_v (by with_unfolding_all rfl) ?_ | with_reducible refine wp_c ?_ | with_reducible refine wp_tst ?_ | with_reducible refine wp_consA ?_ | with_reducible refine wp_nilA ?_
  | with_reducible refine wp_callE ?_ | with_reducible refine wp_nm ?_ | with_reducible refine wp_subG ?_ | with_reducible refine wp_tupE ?_ | with_reducible refine wp_lstE ?_ | with_reducible refine wp_andT ?_ | with_reducible refine wp_orT ?_ | with_reducible refine wp_notT ?_ | with_reducible refine wp_andV ?_ | with_reducible refine wp_orV ?_ | with_reducible refine wp_notV ?_ | with_reducible refine wp_isi ?_ | with_reducible refine wp_metE ?_
  | with_reducible refine wp_add ?_ | with_reducible refine wp_sub ?_ | with_reducible refine wp_gt ?_ | with_reducible refine wp_lt ?_ | with_reducible refine wp_ge ?_ | with_reducible refine wp_le ?_ | with_reducible refine wp_eqI ?_ | with_reducible refine wp_neI ?_
  | with_reducible refine ⟨_, rfl, ?_⟩ | with_reducible refine wp_slE ?_ | with_reducible refine wp_noP ?_ | with_reducible refine wp_somP ?_ | with_reducible refine wp_slF ?_ | with_reducible refine wp_slT ?_ | with_reducible refine wp_lenF ?_ | with_reducible refine wp_lenT ?_ | with_reducible refine wp_absB ?_ | with_reducible refine wp_yes ?_ | with_reducible refine wp_dctE ?_ | with_reducible refine wp_consP ?_ | with_reducible refine wp_nilP ?_ | with_reducible refine ws_put ?_)
local macro_rules | `(tactic| walk_at "e") => `(tactic| first
  | with_reducible exact ev_v (by with_unfolding_all rfl) | with_reducible exact ev_c | with_reducible apply ev_bin | with_reducible apply ev_orV | with_reducible apply ev_andV | with_reducible apply ev_notV | with_reducible apply ev_tup | with_reducible apply ev_call
  | with_reducible exact eva_nil | with_reducible apply eva_cons | with_reducible apply evs_ret | with_reducible apply evt_tst | with_reducible apply evt_and | with_reducible apply evt_or | with_reducible apply evt_not | with_reducible exact evt_yes | with_reducible apply ev_slT | with_reducible exact evp_no | with_reducible apply evp_som
  | with_reducible exact op_eqI | with_reducible exact op_ixT (by with_unfolding_all rfl) | with_reducible exact op_eqS (by first | assumption | decide +kernel) (by first | assumption | decide +kernel) | with_reducible exact op_eqIS (by first | assumption | decide +kernel) (by first | assumption | decide +kernel) | with_reducible exact pf_intB | with_reducible exact pf_len | (with_reducible intro _))
local macro_rules | `(tactic| walk_at "x") => `(tactic| first
  | with_reducible refine ws_seq ?_ | with_reducible refine ws_asg ?_ | with_reducible refine ws_ret ?_ | with_reducible refine ws_drop ?_ | with_reducible refine ws_if ?_ | with_reducible refine ws_sk ?_
  | with_reducible refine wp_bin ?_ | with_reducible refine wp_v (by with_unfolding_all rfl) ?_ | with_reducible refine wp_c ?_ | with_reducible refine wp_tst ?_ | with_reducible refine wp_consA ?_ | with_reducible refine wp_nilA ?_
  | with_reducible refine wp_callE ?_ | with_reducible refine wp_nm ?_ | with_reducible refine wp_subG ?_ | with_reducible refine wp_tupE ?_ | with_reducible refine wp_lstE ?_ | with_reducible refine wp_andT ?_ | with_reducible refine wp_orT ?_ | with_reducible refine wp_notT ?_ | with_reducible refine wp_andV ?_ | with_reducible refine wp_orV ?_ | with_reducible refine wp_notV ?_ | with_reducible refine wp_isi ?_ | with_reducible refine wp_metE ?_
  | with_reducible refine wp_add ?_ | with_reducible refine wp_sub ?_ | with_reducible refine wp_gt ?_ | with_reducible refine wp_lt ?_ | with_reducible refine wp_ge ?_ | with_reducible refine wp_le ?_ | with_reducible refine wp_eqI ?_ | with_reducible refine wp_neI ?_
  | with_reducible refine ⟨_, rfl, ?_⟩ | with_reducible refine wp_slE ?_ | with_reducible refine wp_noP ?_ | with_reducible refine wp_somP ?_ | with_reducible refine wp_slF ?_ | with_reducible refine wp_slT ?_ | with_reducible refine wp_lenF ?_ | with_reducible refine wp_lenT ?_ | with_reducible refine wp_absB ?_ | with_reducible refine wp_yes ?_ | with_reducible refine wp_dctE ?_ | with_reducible refine wp_consP ?_ | with_reducible refine wp_nilP ?_ | with_reducible refine ws_put ?_
  | with_reducible refine wp_ixT (by with_unfolding_all rfl) ?_ | with_reducible refine wp_tupGL rfl ?_ | with_reducible refine wp_consG ?_ | with_reducible refine wp_nilG ?_ | with_reducible refine wp_ifV ?_ | with_reducible refine wp_una ?_ | with_reducible refine ws_parL ?_)
local macro_rules | `(tactic| walk_at "y") => `(tactic| first
  | with_reducible refine ws_seq ?_ | with_reducible refine ws_asg ?_ | with_reducible refine ws_ret ?_ | with_reducible refine ws_drop ?_ | with_reducible refine ws_if ?_ | with_reducible refine ws_sk ?_
  | with_reducible refine wp_bin ?_ | with_reducible refine wp_v (by with_unfolding_all rfl) ?_ | with_reducible refine wp_c ?_ | with_reducible refine wp_tst ?_ | with_reducible refine wp_consA ?_ | with_reducible refine wp_nilA ?_
  | with_reducible refine wp_callE ?_ | with_reducible refine wp_nm ?_ | with_reducible refine wp_subG ?_ | with_reducible refine wp_tupE ?_ | with_reducible refine wp_lstE ?_ | with_reducible refine wp_andT ?_ | with_reducible refine wp_orT ?_ | with_reducible refine wp_notT ?_ | with_reducible refine wp_andV ?_ | with_reducible refine wp_orV ?_ | with_reducible refine wp_notV ?_ | with_reducible refine wp_isi ?_ | with_reducible refine wp_metE ?_
  | with_reducible refine wp_add ?_ | with_reducible refine wp_sub ?_ | with_reducible refine wp_gt ?_ | with_reducible refine wp_lt ?_ | with_reducible refine wp_ge ?_ | with_reducible refine wp_le ?_ | with_reducible refine wp_eqI ?_ | with_reducible refine wp_neI ?_
  | with_reducible refine ⟨_, rfl, ?_⟩ | with_reducible refine wp_slE ?_ | with_reducible refine wp_noP ?_ | with_reducible refine wp_somP ?_ | with_reducible refine wp_slF ?_ | with_reducible refine wp_slT ?_ | with_reducible refine wp_lenF ?_ | with_reducible refine wp_lenT ?_ | with_reducible refine wp_absB ?_ | with_reducible refine wp_yes ?_ | with_reducible refine wp_consP ?_ | with_reducible refine wp_nilP ?_ | with_reducible refine ws_put ?_
  | with_reducible refine wp_ixT (by with_unfolding_all rfl) ?_ | with_reducible refine wp_tupGL rfl ?_ | with_reducible refine wp_consG ?_ | with_reducible refine wp_nilG ?_ | with_reducible refine wp_ifV ?_ | with_reducible refine wp_una ?_ | with_reducible refine ws_parL ?_)
def kinds8 : List Str := ["out", "in", "full", "met", "long", "flash", "drop", "free"]
def actws : List Str := ["bar", "hide", "shut", "send", "also", "show", "swap", "join", "keep", "ring", "pass"]
theorem kinds8_ok : ∀ w ∈ kinds8, PyData.strOk w = true := by decide +kernel
theorem actws_ok : ∀ w ∈ actws, PyData.strOk w = true := by decide +kernel
structure Rule where
  st : Int
  kind : Str
  pat : D
  tests : List D
  w : Str
  ln : Option Int
  nx : Int
def lnD : Option Int → List D
  | none => []
  | some x => [.int x]
def actD (w : Str) (ln : Option Int) : D := .tup (.str w :: lnD ln)
def Rule.d (r : Rule) : D := .tup [.int r.st, .str r.kind, r.pat, .tup r.tests, actD r.w r.ln, .int r.nx]
structure Rule.Ok (r : Rule) : Prop where
  kind : r.kind ∈ kinds8
  pat : PatD r.pat
  tests : TestsD r.tests
  act : r.w ∈ actws
  also : r.w = "also" → r.kind = "in" ∧ ∃ x, r.ln = some x
  non : r.kind = "flash" ∨ r.kind = "drop" → r.pat = .non
structure Wish where
  me : Int
  rules : List Rule
  tale : D
  gb : Bool := false
def Wish.d (w : Wish) : D := .tup [.int w.me, .tup (w.rules.map Rule.d), w.tale]
def Wish.Ok (w : Wish) : Prop := (∀ r ∈ w.rules, r.Ok) ∧ w.rules.length ≤ 100
/-- a point -/
structure Point where
  kind : Str
  me : D
  other : D
  hid : Int
def Point.d (p : Point) : D := .tup [.str p.kind, p.me, p.other, .int p.hid]
structure Point.Ok (p : Point) : Prop where
  kind : p.kind ∈ kinds8
  me : StD p.me
  other : StD p.other
  free : p.kind = "free" → p.me = .non
  int : p.other = .non → p.kind = "flash" ∨ p.kind = "drop"
def oI : D → Int
  | .int v => v
  | _ => 0
def askedB (p : Point) (me : Int) : Bool := if p.kind = "free" then !(stEq me p.other) else stEq me p.me
def takesD (xs : List D) (night : Int) (p : Point) (me mind : Int) : D → Bool
  | .tup [.int st, .str k, pat, .tup tests, _, _] => st == mind && (k == p.kind && (fitD pat p.other && tests.all (soD xs night me p.hid)))
  | _ => false
def farI (line : Int) : D → Int
  | .tup [.int i, .int j, .str _, .int _] => if i == line then j else i
  | _ => 0
abbrev Told := Nat × Str × Option Int
def toldD (t : Told) : D := .tup [.int (t.1 : Nat), actD t.2.1 t.2.2]
def canB (xs : List D) (me o : Int) (told : List Told) (w : Str) (ln : Option Int) : Bool :=
  if w = "also" then (match ln with
    | some x => !(x == o) && (!xs.any (fIn x) && (!xs.any (fPair x o) && told.all fun t => !(t.2.1 == w && t.2.2 == ln)))
    | none => false)
  else if w = "show" then xs.any (fTalk me) && !xs.any (fShown me)
  else if w = "ring" then !xs.any (fIn me)
  else if w = "swap" then xs.any (fTalk me) || (xs.any (fHeld me) && (xs.filter (fIn me)).all (fHeld me))
  else if w = "join" then xs.any (fTalk me) && (xs.filter (fHeld me)).any fun c => !xs.any (fTalk (farI me c))
  else if w = "keep" then xs.any (fTalk me)
  else true
def goOn (w : Str) : Bool := (["hide", "also"] : List Str).any fun y => y == w
def askGo (xs : List D) (night : Int) (p : Point) : Nat → List Wish → List Int → List Told → List Told × List Int
  | _, [], minds, acts => (acts, minds)
  | i, w :: ws, minds, acts =>
    if askedB p w.me = true then
      match w.rules.find? (fun r => takesD xs night p w.me (minds.getD i 0) r.d) with
      | none => askGo xs night p (i + 1) ws minds acts
      | some r =>
        if (r.w == "pass" || !canB xs w.me (oI p.other) acts r.w r.ln) = true then askGo xs night p (i + 1) ws (minds.set i r.nx) acts
        else if goOn r.w = true then askGo xs night p (i + 1) ws (minds.set i r.nx) (acts ++ [(i, r.w, r.ln)])
        else (acts ++ [(i, r.w, r.ln)], minds.set i r.nx)
    else askGo xs night p (i + 1) ws minds acts
theorem atI0 {d : D} {r : List D} : atI (d :: r) 0 = some d := by simp [atI, ixN]
theorem op_neSt {st : Int} {s : D} (h : StD s) : OpV neD (.int st) s (.bl (!stEq st s)) := by
  rcases h with rfl | ⟨v, rfl⟩
  · exact fun m => rfl
  · exact op_neI
theorem py_act {k : Nat} {m : Mu} {w : Str} {ln : Option Int} (hw : PyData.strOk w = true) : pyD (k + 1) m (actD w ln) = some (.tuple (.str w :: match ln with
    | none => []
    | some x => [.int x])) := by
  have h1 : ∀ z : Int, pyD k m (.int z) = some (.int z) := fun z => by cases k <;> rfl
  have h2 : pyD k m (.str w) = some (.str w) := by cases k <;> simp [pyD, hw]
  cases ln with
  | none =>
    show (List.mapM (pyD k m) [.str w]).map PyData.tuple = _
    simp [List.mapM_cons, h2]
  | some x =>
    show (List.mapM (pyD k m) [.str w, .int x]).map PyData.tuple = _
    simp [List.mapM_cons, h1, h2]
theorem eqv_act {w w' : Str} {ln ln' : Option Int} : (PyData.tuple (.str w :: match ln with
    | none => []
    | some x => [.int x])).eqv (.tuple (.str w' :: match ln' with
    | none => []
    | some x => [.int x])) = (w == w' && ln == ln') := by
  cases ln <;> cases ln' <;> simp [PyData.eqv, PyData.eqvAll]
theorem op_neAct {w w' : Str} {ln ln' : Option Int} (hw : PyData.strOk w = true) (hw' : PyData.strOk w' = true) : OpV neD (actD w ln) (actD w' ln') (.bl (!(w == w' && ln == ln'))) := fun m => by
  unfold neD
  rw [py_act (k := 7) hw, py_act (k := 7) hw']
  simp only
  rw [eqv_act]
section
variable {n night : Int} {xs : List D} {p : Point}
theorem ev_between (hx : ∀ x ∈ xs, Call1 n x) {a b : Int} : PF sm_between [.tup xs, .int a, .int b] ((xs.find? (fPair a b)).getD .non) := by
  apply pf_def rfl
  refine evs_find (xs := xs) (p := fPair a b) (ev_v rfl) (fun x hm => ?_) (by simp) (fun e => evs_ret ev_c)
  obtain ⟨i, j, how, hd, rfl, _⟩ := (hx x hm).ex
  refine evt_tst ?_
  refine ev_to (ev_bin (ev_slT (ev_v rfl) evp_no (evp_som ev_c)) (ev_tup (eva_cons (ev_tup (eva_cons (ev_v rfl) (eva_cons (ev_v rfl) eva_nil))) (eva_cons (ev_tup (eva_cons (ev_v rfl) (eva_cons (ev_v rfl) eva_nil))) eva_nil))) op_inPair) ?_
  simp only [fPair]
theorem ev_other {x : D} {me : Int} (hx : Call1 n x) : PF sm_other_of [x, .int me] (.int (farI me x)) := by
  obtain ⟨i, j, how, hd, rfl, _⟩ := hx.ex
  apply pf_def rfl
  refine evs_ret (ev_to (ev_ifV (a := i == me) (x := .int j) (y := .int i) (evt_tst (ev_bin (ev_bin (ev_v rfl) ev_c (op_ixT rfl)) (ev_v rfl) op_eqI)) (fun _ => ev_bin (ev_v rfl) ev_c (op_ixT rfl)) (fun _ => ev_bin (ev_v rfl) ev_c (op_ixT rfl))) ?_)
  simp only [farI]
  split <;> rfl
theorem find_none {p : D → Bool} (hx : ∀ x ∈ xs, Call1 n x) {neg : Bool} : OpV (isND neg) ((xs.find? p).getD .non) .non (.bl (neg ^^ !xs.any p)) := by
  cases h : xs.find? p with
  | none =>
    have e : xs.any p = false := by rw [← List.isSome_find?, h]; rfl
    rw [e]
    exact fun m => by cases neg <;> rfl
  | some x =>
    obtain ⟨i, j, how, hd, rfl, _⟩ := (hx x (List.mem_of_find?_eq_some h)).ex
    have e : xs.any p = true := by rw [← List.isSome_find?, h]; rfl
    rw [e]
    exact fun m => by cases neg <;> rfl
theorem ev_swap (hx : ∀ x ∈ xs, Call1 n x) {me : Int} : PF sm_can_swap [.tup xs, .int me] (.bl (xs.any (fTalk me) || (xs.any (fHeld me) && (xs.filter (fIn me)).all (fHeld me)))) := by
  apply pf_def rfl
  refine evs_ret (ev_orV (ev_call (eva_cons (ev_v rfl) (eva_cons (ev_v rfl) eva_nil)) (ev_has_talk hx)) fun _ => ev_andV (ev_call (eva_cons (ev_v rfl) (eva_cons (ev_v rfl) eva_nil)) (ev_has_hold hx)) fun _ => ev_call (eva_cons (ev_v rfl) (eva_cons (ev_v rfl) eva_nil)) (ev_free_hands hx))
theorem ev_join (hx : ∀ x ∈ xs, Call1 n x) (hl : xs.length ≤ 16) {me : Int} : PF sm_can_join [.tup xs, .int me] (.bl (xs.any (fTalk me) && (xs.filter (fHeld me)).any fun c => !xs.any (fTalk (farI me c)))) := by
  apply pf_def rfl
  cases h : xs.any (fTalk me) with
  | false => exact evs_yes (evt_to (evt_not (evt_tst (ev_call (eva_cons (ev_v rfl) (eva_cons (ev_v rfl) eva_nil)) (ev_has_talk hx)))) (by rw [h]; rfl)) ev_c
  | true =>
    refine evs_no (evt_to (evt_not (evt_tst (ev_call (eva_cons (ev_v rfl) (eva_cons (ev_v rfl) eva_nil)) (ev_has_talk hx)))) (by rw [h]; rfl)) ?_
    refine evs_ret (ev_to (ev_allG (stop := true) (xs := xs.filter (fHeld me)) (p := fun _ => true) (k := fun c => !xs.any (fTalk (farI me c))) (ev_call (eva_cons (ev_v rfl) (eva_cons (ev_v rfl) eva_nil)) (ev_holds_of hx hl)) (fun x hm => evt_yes) (fun x hm _ => ?_)) ?_)
    · exact ev_notV (ev_call (eva_cons (ev_v rfl) (eva_cons (ev_call (eva_cons (ev_v rfl) (eva_cons (ev_v rfl) eva_nil)) (ev_other (hx x (List.mem_filter.mp hm).1))) eva_nil)) (ev_has_talk hx))
    · rw [List.filter_eq_self.mpr fun _ _ => rfl]; rfl
/-- all of a list of the store, at one store -/
theorem allE_lst {f : Sm} {env : CW.Env} {m : Mu} {l : Nat} {ys : List D} {gt : Gm} {g : Sm} {vs : List Nat} {e : D → CW.Env} {k : D → Bool} (hf : f env m = some (.ref l, m)) (hl : m[l]? = some (.lst ys)) (hg : ∀ x ∈ ys, gt x (wipeE env vs) m = some (e x, m)) (he : ∀ x ∈ ys, g (e x) m = some (.bl (k x), m)) :
    allE false (seqI f) gt yesT g vs env m = some (.bl (ys.all k), m) := by
  have go : ∀ (zs : List D) (i : Nat), ys.drop i = zs → allGo false (lstIt l ys.length).item gt yesT g (wipeE env vs) (zs.length + 1) i m = some (zs.all k, m) := by
    intro zs
    induction zs with
    | nil =>
      intro i hd
      have hx : ys[i]? = none := List.getElem?_eq_none_iff.mpr (List.drop_eq_nil_iff.mp hd)
      unfold allGo
      rw [lst_item hl i, hx]; rfl
    | cons y zs ih =>
      intro i hd
      have hx : ys[i]? = some y := by
        have := congrArg (fun l => l[0]?) hd
        simpa using this
      have hd' : ys.drop (i + 1) = zs := by
        have := congrArg List.tail hd
        simpa [List.tail_drop] using this
      have hm := List.mem_of_getElem? hx
      rw [List.length_cons]
      unfold allGo
      rw [lst_item hl i, hx]; simp only
      rw [hg y hm]; simp only
      rw [show yesT (e y) m = some (true, m) from rfl]; simp only [if_true]
      rw [he y hm]; simp only
      rw [ih (i + 1) hd']
      cases hk : k y <;> simp [hk]
  unfold allE
  have e3 : seqI f env m = some (lstIt l ys.length, m) := by unfold seqI; rw [hf]; simp only; rw [hl]
  rw [e3]; simp only
  rw [show (lstIt l ys.length).fuel = ys.length + 1 from rfl, go ys 0 rfl]
theorem ev_is_asked (hp : p.Ok) {me : Int} : PF sm_is_asked [.int me, p.d] (.bl (askedB p me)) := by
  apply pf_def rfl
  refine evs_nx (env1 := [some (.int me), some p.d, some (.str p.kind), some p.me, some p.other, some (.int p.hid)]) (fun m => rfl) ?_
  unfold askedB
  by_cases h : p.kind = "free"
  · rw [if_pos h]
    exact evs_yes (is_yes (by rw [h]; decide +kernel) (kinds8_ok _ hp.kind) (by decide +kernel) (ev_v rfl)) (ev_bin (ev_v rfl) (ev_v rfl) (op_neSt hp.other))
  · rw [if_neg h]
    exact evs_no (is_no (by simpa using h) (kinds8_ok _ hp.kind) (by decide +kernel) (ev_v rfl)) (evs_ret (ev_bin (ev_v rfl) (ev_v rfl) (op_eqSt hp.me)))
theorem ev_rule_taken (hx : ∀ x ∈ xs, Call1 n x) (hp : p.Ok) {w : Wish} (hw : w.Ok) {mind : Int} : PF sm_rule_taken [w.d, .int mind, .tup xs, .int night, p.d] (((w.rules.find? (fun r => takesD xs night p w.me mind r.d)).map Rule.d).getD .non) := by
  apply pf_def rfl
  refine evs_nx (env1 := [some w.d, some (.int mind), some (.tup xs), some (.int night), some p.d, none, some (.str p.kind), some p.me, some p.other, some (.int p.hid), none, none, none]) (fun m => rfl) ?_
  refine evs_nx (env1 := [some w.d, some (.int mind), some (.tup xs), some (.int night), some p.d, none, some (.str p.kind), some p.me, some p.other, some (.int p.hid), some (.int w.me), some (.tup (w.rules.map Rule.d)), some w.tale]) (fun m => rfl) ?_
  have e : (w.rules.find? (fun r => takesD xs night p w.me mind r.d)).map Rule.d = (w.rules.map Rule.d).find? (takesD xs night p w.me mind) := by rw [List.find?_map]; rfl
  rw [e]
  refine evs_find (xs := w.rules.map Rule.d) (ev_v rfl) (fun x hm => ?_) (by simp) (fun e => evs_ret ev_c)
  obtain ⟨r, hr, rfl⟩ := List.mem_map.mp hm
  have ok := hw.1 r hr
  refine evt_and (evt_tst (ev_bin (ev_bin (ev_v rfl) ev_c (op_ixT rfl)) (ev_v rfl) op_eqI)) fun _ => ?_
  refine evt_and (evt_tst (ev_bin (ev_bin (ev_v rfl) ev_c (op_ixT rfl)) (ev_v rfl) (op_eqS (kinds8_ok _ ok.kind) (kinds8_ok _ hp.kind)))) fun hk => ?_
  refine evt_and (evt_tst (ev_call (eva_cons (ev_bin (ev_v rfl) ev_c (op_ixT rfl)) (eva_cons (ev_v rfl) eva_nil)) ?_)) fun _ => ?_
  · show PF sm_fits [r.pat, p.other] (.bl (fitD r.pat p.other))
    rcases hp.other with ho | ⟨v, ho⟩
    · have hkk : r.kind = p.kind := by simpa using hk
      have hn : r.pat = .non := ok.non (by rw [hkk]; exact hp.int ho)
      rw [ho, hn]
      refine pf_def (np := 2) (n := 2) rfl ?_
      refine evs_ret (ev_to (ev_orV (a := true) (b := true) (ev_bin (ev_v rfl) ev_c op_isN) (fun h => nomatch h)) ?_)
      rfl
    · rw [ho]; exact ev_fits ok.pat
  · exact evt_tst (ev_call (eva_cons (ev_v rfl) (eva_cons (ev_v rfl) (eva_cons (ev_v rfl) (eva_cons (ev_v rfl) (eva_cons (ev_bin (ev_v rfl) ev_c (op_ixT rfl)) eva_nil))))) (ev_are_so hx ok.tests))
theorem can_also_ok (hx : ∀ x ∈ xs, Call1 n x) {o x me : Int} {told : List Told} {l : Nat} {m : Mu} {Q : D → Mu → Prop} (hl : m[l]? = some (.lst (told.map toldD))) (ht : ∀ t ∈ told, t.2.1 ∈ actws) (q : Q (.bl (canB xs me o told "also" (some x))) m) : wp (sm_can_also [.tup xs, .int o, actD "also" (some x), .ref l] m) Q := by
  have ec : canB xs me o told "also" (some x) = (!(x == o) && (!xs.any (fIn x) && (!xs.any (fPair x o) && told.all fun t => !(t.2.1 == "also" && t.2.2 == some x)))) := by unfold canB; rw [if_pos rfl]
  rw [ec] at q
  have h1 : EvT (orT (tst (CW.bin eqD (vD 4) (vD 1))) (orT (notT (tst (callE sm_is_free (consA (vD 0) (consA (vD 4) nilA))))) (tst (CW.bin (isND true) (callE sm_between (consA (vD 0) (consA (vD 4) (consA (vD 1) nilA)))) (cD .non))))) [some (.tup xs), some (.int o), some (actD "also" (some x)), some (.ref l), some (.int x), none, none] ((x == o) || (!(!xs.any (fIn x)) || (true ^^ !xs.any (fPair x o)))) :=
    evt_or (evt_tst (ev_bin (ev_v rfl) (ev_v rfl) op_eqI)) fun _ => evt_or (evt_not (evt_tst (ev_call (eva_cons (ev_v rfl) (eva_cons (ev_v rfl) eva_nil)) (ev_is_free hx)))) fun _ => evt_tst (ev_bin (ev_call (eva_cons (ev_v rfl) (eva_cons (ev_v rfl) (eva_cons (ev_v rfl) eva_nil))) (ev_between hx)) ev_c (find_none hx))
  have h3 : allE false (seqI (vD 3)) (tupG 2 (consG (nmG 5) (consG (nmG 6) nilG))) yesT (CW.bin neD (vD 6) (vD 2)) [5, 6] [some (.tup xs), some (.int o), some (actD "also" (some x)), some (.ref l), some (.int x), none, none] m = some (.bl (told.all fun t => !(t.2.1 == "also" && t.2.2 == some x)), m) := by
    have := allE_lst (f := vD 3) (env := [some (.tup xs), some (.int o), some (actD "also" (some x)), some (.ref l), some (.int x), none, none]) (m := m) (l := l) (ys := told.map toldD) (gt := tupG 2 (consG (nmG 5) (consG (nmG 6) nilG))) (g := CW.bin neD (vD 6) (vD 2)) (vs := [5, 6])
      (e := fun d => match d with
        | .tup [a, b] => [some (.tup xs), some (.int o), some (actD "also" (some x)), some (.ref l), some (.int x), some a, some b]
        | _ => []) (k := fun d => match d with
        | .tup [_, .tup (.str w :: r)] => !(w == "also" && (match r with
          | [] => none
          | .int z :: _ => some z
          | _ => none) == some x)
        | _ => false) rfl hl (fun d hd => by
          obtain ⟨t, _, rfl⟩ := List.mem_map.mp hd
          rfl) (fun d hd => by
          obtain ⟨t, ht', rfl⟩ := List.mem_map.mp hd
          have := (ev_bin (f := vD 6) (g := vD 2) (env := [some (.tup xs), some (.int o), some (actD "also" (some x)), some (.ref l), some (.int x), some (.int (t.1 : Nat)), some (actD t.2.1 t.2.2)]) (ev_v rfl) (ev_v rfl) (op_neAct (actws_ok _ (ht t ht')) (by decide +kernel))) m
          refine this.trans ?_
          obtain ⟨i, w, ln⟩ := t
          cases ln <;> rfl)
    rw [this]
    congr 3
    rw [List.all_map]
    congr 1
    funext t
    obtain ⟨i, w, ln⟩ := t
    cases ln <;> rfl
  refine wp_def rfl ?_
  refine ws_seq (ws_asg (wp_bin (wp_v rfl (wp_c (wp_ixT rfl (wp_nm ?_))))))
  refine ws_seq (ws_if (wp_eq (h1 m) ?_))
  refine ite2 (fun h => ?_) (fun h => ?_)
  · refine ws_ret (wp_c ?_)
    have e : (!(x == o) && (!xs.any (fIn x) && (!xs.any (fPair x o) && told.all fun t => !(t.2.1 == "also" && t.2.2 == some x)))) = false := by
      revert h
      generalize (x == o) = a
      generalize xs.any (fIn x) = b
      generalize xs.any (fPair x o) = c
      cases a <;> cases b <;> cases c <;> simp
    rw [e] at q; exact q
  · refine ws_sk (ws_ret (wp_eq h3 ?_))
    have e : (!(x == o) && (!xs.any (fIn x) && (!xs.any (fPair x o) && told.all fun t => !(t.2.1 == "also" && t.2.2 == some x)))) = told.all fun t => !(t.2.1 == "also" && t.2.2 == some x) := by
      revert h
      generalize (x == o) = a
      generalize xs.any (fIn x) = b
      generalize xs.any (fPair x o) = c
      cases a <;> cases b <;> cases c <;> simp
    rw [e] at q; exact q
theorem can_ok (hx : ∀ x ∈ xs, Call1 n x) (hl16 : xs.length ≤ 16) (hp : p.Ok) {r : Rule} (hr : r.Ok) (hk : r.kind = p.kind) {me : Int} {told : List Told} {l : Nat} {m : Mu} {Q : D → Mu → Prop} (hl : m[l]? = some (.lst (told.map toldD))) (ht : ∀ t ∈ told, t.2.1 ∈ actws) (q : Q (.bl (canB xs me (oI p.other) told r.w r.ln)) m) : wp (sm_can_be_done [.tup xs, .int me, p.other, actD r.w r.ln, .ref l] m) Q := by
  have hw := actws_ok _ hr.act
  refine wp_def rfl ?_
  refine ws_seq (ws_asg (wp_bin (wp_v rfl (wp_c (wp_ixT atI0 (wp_nm ?_))))))
  have two : EvA (consA (vD 0) (consA (vD 1) nilA)) [some (.tup xs), some (.int me), some p.other, some (actD r.w r.ln), some (.ref l), some (.str r.w)] [.tup xs, .int me] := eva_cons (ev_v rfl) (eva_cons (ev_v rfl) eva_nil)
  unfold canB at q
  by_cases h1 : r.w = "also"
  · obtain ⟨hin, x, hxl⟩ := hr.also h1
    refine ws_seq (ws_if (wp_eq (is_yes (by rw [h1]; decide +kernel) hw (by decide +kernel) (ev_v rfl) m) ?_))
    refine iteT ?_
    have ho : ∃ o, p.other = .int o := by
      rcases hp.other with h | h
      · have := hp.int h
        rw [← hk, hin] at this
        exact absurd this (by decide)
      · exact h
    obtain ⟨o, ho⟩ := ho
    refine ws_ret (wp_callE (wp_consA (wp_v rfl (wp_consA (wp_v rfl (wp_consA (wp_v rfl (wp_consA (wp_v rfl (wp_nilA ?_))))))))))
    rw [ho, h1, hxl]
    refine can_also_ok (me := me) hx hl ht ?_
    rw [ho, h1, hxl] at q
    unfold canB
    exact q
  rw [if_neg h1] at q
  refine ws_seq (ws_if (wp_eq (is_no (by simpa using h1) hw (by decide +kernel) (ev_v rfl) m) (iteF (ws_sk ?_))))
  by_cases h2 : r.w = "show"
  · rw [if_pos h2] at q
    refine ws_seq (ws_if (wp_eq (is_yes (by rw [h2]; decide +kernel) hw (by decide +kernel) (ev_v rfl) m) (iteT ?_)))
    refine ws_ret (wp_ev (ev_andV (ev_call two (ev_has_talk hx)) fun _ => ev_bin (ev_call two (ev_shown_to hx)) ev_c (find_none hx)) ?_)
    simpa using q
  rw [if_neg h2] at q
  refine ws_seq (ws_if (wp_eq (is_no (by simpa using h2) hw (by decide +kernel) (ev_v rfl) m) (iteF (ws_sk ?_))))
  by_cases h3 : r.w = "ring"
  · rw [if_pos h3] at q
    refine ws_seq (ws_if (wp_eq (is_yes (by rw [h3]; decide +kernel) hw (by decide +kernel) (ev_v rfl) m) (iteT ?_)))
    exact ws_ret (wp_ev (ev_call two (ev_is_free hx)) q)
  rw [if_neg h3] at q
  refine ws_seq (ws_if (wp_eq (is_no (by simpa using h3) hw (by decide +kernel) (ev_v rfl) m) (iteF (ws_sk ?_))))
  by_cases h4 : r.w = "swap"
  · rw [if_pos h4] at q
    refine ws_seq (ws_if (wp_eq (is_yes (by rw [h4]; decide +kernel) hw (by decide +kernel) (ev_v rfl) m) (iteT ?_)))
    exact ws_ret (wp_ev (ev_call two (ev_swap hx)) q)
  rw [if_neg h4] at q
  refine ws_seq (ws_if (wp_eq (is_no (by simpa using h4) hw (by decide +kernel) (ev_v rfl) m) (iteF (ws_sk ?_))))
  by_cases h5 : r.w = "join"
  · rw [if_pos h5] at q
    refine ws_seq (ws_if (wp_eq (is_yes (by rw [h5]; decide +kernel) hw (by decide +kernel) (ev_v rfl) m) (iteT ?_)))
    exact ws_ret (wp_ev (ev_call two (ev_join hx hl16)) q)
  rw [if_neg h5] at q
  refine ws_seq (ws_if (wp_eq (is_no (by simpa using h5) hw (by decide +kernel) (ev_v rfl) m) (iteF (ws_sk ?_))))
  by_cases h6 : r.w = "keep"
  · rw [if_pos h6] at q
    refine ws_seq (ws_if (wp_eq (is_yes (by rw [h6]; decide +kernel) hw (by decide +kernel) (ev_v rfl) m) (iteT ?_)))
    exact ws_ret (wp_ev (ev_call two (ev_has_talk hx)) q)
  rw [if_neg h6] at q
  refine ws_seq (ws_if (wp_eq (is_no (by simpa using h6) hw (by decide +kernel) (ev_v rfl) m) (iteF (ws_sk ?_))))
  exact ws_ret (wp_c q)
theorem wp_act0 {w : Str} {ln : Option Int} {m : Mu} {Q : D → Mu → Prop} (q : Q (.str w) m) : wp (ixD (actD w ln) (.int 0) m) Q := wp_ixT atI0 q
theorem wp_lstT {ys : List D} {m : Mu} {Q : D → Mu → Prop} (q : Q (.ref m.length) (m ++ [.lst ys])) : wp (lstB [.tup ys] m) Q := wp_eq rfl q
theorem goOn_op {w : Str} (hw : w ∈ actws) : OpV (inD true) (.str w) c_ACTS_THAT_GO_ON (.bl (!goOn w)) := by
  have := op_inS (neg := true) (w := w) (xs := [.str "hide", .str "also"]) ["hide", "also"] (actws_ok _ hw) (by decide +kernel) rfl
  have e : c_ACTS_THAT_GO_ON = .tup [.str "hide", .str "also"] := rfl
  rw [e]
  simpa [goOn] using this
/-- asked -/
theorem asked_ok (hx : ∀ x ∈ xs, Call1 n x) (hl16 : xs.length ≤ 16) (hp : p.Ok) {ws0 : List Wish} (hw : ∀ w ∈ ws0, w.Ok) (hwl : ws0.length ≤ 100) {minds : List Int} (hml : minds.length = ws0.length) {nD dD tales : D} :
    PG sm_asked [.tup [nD, .tup (ws0.map Wish.d), dD], .tup [.tup xs, .int night, .tup (minds.map D.int), tales], p.d] (.tup [.tup ((askGo xs night p 0 ws0 minds []).1.map toldD), .tup ((askGo xs night p 0 ws0 minds []).2.map D.int)]) := fun μ => by
  generalize hfin : askGo xs night p 0 ws0 minds [] = fin
  refine wp_def rfl ?_
  repeat walk_at "x"
  refine wp_lstT ?_
  repeat walk_at "x"
  refine ws_for_fix (wp_enumTI ?_)
  repeat walk_at "x"
  have hN : ∀ (e : CW.Env) (m : Mu), (∃ x8 x9 x10 x11, e = [some (.tup [nD, .tup (ws0.map Wish.d), dD]), some (.tup [.tup xs, .int night, .tup (minds.map D.int), tales]), some p.d, some (.ref μ.length), some (.ref (μ ++ [Cell.lst (minds.map D.int)]).length), some (.tup xs), some (.int night), some tales, x8, x9, x10, x11]) → m[μ.length]? = some (.lst (fin.2.map D.int)) → m[(μ ++ [Cell.lst (minds.map D.int)]).length]? = some (.lst (fin.1.map toldD)) → Gr μ m →
      ws (retS (tupE (consA (callE tupB (consA (vD 4) nilA)) (consA (callE tupB (consA (vD 3) nilA)) nilA))) e m) (fun x μ1 => D.non = .tup [.tup (fin.1.map toldD), .tup (fin.2.map D.int)] ∧ Gr μ μ1) (fun r m' => r = .tup [.tup (fin.1.map toldD), .tup (fin.2.map D.int)] ∧ Gr μ m') (fun _ _ => False) (fun _ _ => False) := by
    rintro e m ⟨x8, x9, x10, x11, rfl⟩ h1 h2 g
    repeat walk_at "x"
    refine wp_tupL h2 ?_
    repeat walk_at "x"
    refine wp_tupL h1 ?_
    repeat walk_at "x"
    exact ⟨rfl, g⟩
  refine ⟨fun i e m => ∃ x8 x9 x10 x11 mi acts, e = [some (.tup [nD, .tup (ws0.map Wish.d), dD]), some (.tup [.tup xs, .int night, .tup (minds.map D.int), tales]), some p.d, some (.ref μ.length), some (.ref (μ ++ [Cell.lst (minds.map D.int)]).length), some (.tup xs), some (.int night), some tales, x8, x9, x10, x11] ∧
    m[μ.length]? = some (.lst (mi.map D.int)) ∧ m[(μ ++ [Cell.lst (minds.map D.int)]).length]? = some (.lst (acts.map toldD)) ∧ Gr μ m ∧ mi.length = ws0.length ∧ acts.length ≤ i ∧ (∀ t ∈ acts, t.2.1 ∈ actws) ∧ askGo xs night p i (ws0.drop i) mi acts = fin, ?_, ?_, ?_⟩
  · exact ⟨_, _, _, _, minds, [], rfl, get_old (get_last _ _), get_last _ _, (Gr.refl.push _).push _, hml, Nat.le_refl _, (fun t h => nomatch h), hfin⟩
  · rintro i x e m hxi ⟨x8, x9, x10, x11, mi, acts, rfl, c1, c2, g, hmi, hal, hact, hgo⟩
    rw [enumD_get] at hxi
    rw [List.getElem?_map] at hxi
    have hi : ∃ w, ws0[i]? = some w ∧ x = .tup [.int (i : Nat), w.d] := by
      cases hw0 : ws0[i]? with
      | none => rw [hw0] at hxi; cases hxi
      | some w => rw [hw0] at hxi; cases hxi; exact ⟨w, rfl, rfl⟩
    obtain ⟨w, hw0, rfl⟩ := hi
    have hwm := List.mem_of_getElem? hw0
    have hlt : i < ws0.length := (List.getElem?_eq_some_iff.mp hw0).1
    have hdrop : ws0.drop i = w :: ws0.drop (i + 1) := by
      rw [List.drop_eq_getElem_cons hlt]
      rw [(List.getElem?_eq_some_iff.mp hw0).2]
    rw [hdrop] at hgo
    unfold askGo at hgo
    have ne12 : μ.length ≠ (μ ++ [Cell.lst (minds.map D.int)]).length := by simp
    repeat walk_at "x"
    refine wp_ixT rfl ?_
    repeat walk_at "x"
    refine wp_pf (ev_is_asked hp) ?_
    repeat walk_at "x"
    refine ite2 (fun ha => ?_) (fun ha => ?_)
    · rw [if_neg (by simpa using ha)] at hgo
      exact ws_ct ⟨_, _, _, _, mi, acts, rfl, c1, c2, g, hmi, by omega, hact, hgo⟩
    · rw [if_pos (by simpa using ha)] at hgo
      repeat walk_at "x"
      have hmg : atI (mi.map D.int) ((i : Nat) : Int) = some (.int (mi.getD i 0)) := by
        have hil : i < mi.length := by omega
        unfold atI ixN
        simp [hil]
      refine wp_ixL c1 hmg ?_
      repeat walk_at "x"
      refine wp_pf (ev_rule_taken hx hp (hw w hwm)) ?_
      repeat walk_at "x"
      cases hf : w.rules.find? (fun r => takesD xs night p w.me (mi.getD i 0) r.d) with
      | none =>
        rw [hf] at hgo
        refine wp_eq (a := .bl true) (μ := m) rfl ?_
        repeat walk_at "x"
        refine iteT ?_
        exact ws_ct ⟨_, _, _, _, mi, acts, rfl, c1, c2, g, hmi, by omega, hact, hgo⟩
      | some r =>
        rw [hf] at hgo
        simp only at hgo
        have hrm := List.mem_of_find?_eq_some hf
        have hrok := (hw w hwm).1 r hrm
        have hrk : r.kind = p.kind := by
          have := List.find?_some hf
          simp only [takesD, Rule.d, Bool.and_eq_true, beq_iff_eq] at this
          exact this.2.1
        simp only [Option.map_some, Option.getD_some, Rule.d]
        refine wp_eq (a := .bl false) (μ := m) rfl ?_
        repeat walk_at "x"
        refine iteF ?_
        repeat walk_at "x"
        have hset : ixN (mi.map D.int).length ((i : Nat) : Int) = some i := by
          have hil : i < mi.length := by omega
          unfold ixN
          simp [hil]
        refine ⟨μ.length, i, _, i, rfl, rfl, c1, hset, ?_⟩
        have c1' : (m.set μ.length (.lst ((mi.map D.int).set i (.int r.nx))))[μ.length]? = some (.lst ((mi.set i r.nx).map D.int)) := by rw [set_get c1, List.map_set]
        have c2' := set_other (c := .lst ((mi.map D.int).set i (.int r.nx))) c2 (Ne.symm ne12)
        have g' := g.set (Nat.le_refl _) (.lst ((mi.map D.int).set i (.int r.nx)))
        repeat walk_at "x"
        refine wp_act0 ?_
        repeat walk_at "x"
        refine wp_eq (op_eqS (actws_ok _ hrok.act) (by decide +kernel) _) ?_
        repeat walk_at "x"
        have hmi' : (mi.set i r.nx).length = ws0.length := by simp [hmi]
        have skip : (r.w == "pass" || !canB xs w.me (oI p.other) acts r.w r.ln) = true → askGo xs night p (i + 1) (ws0.drop (i + 1)) (mi.set i r.nx) acts = fin := fun h => by rw [if_pos h] at hgo; exact hgo
        refine ite2 (fun hpass => ?_) (fun hpass => ?_)
        · refine iteT (ws_ct ?_)
          exact ⟨_, _, _, _, mi.set i r.nx, acts, rfl, c1', c2', g', hmi', by omega, hact, skip (by rw [hpass]; rfl)⟩
        · repeat walk_at "x"
          refine wp_ixT rfl ?_
          repeat walk_at "x"
          refine wp_ixT rfl ?_
          repeat walk_at "x"
          refine can_ok hx hl16 hp hrok hrk c2' hact ?_
          repeat walk_at "x"
          refine ite2 (fun hc => ?_) (fun hc => ?_)
          · refine ws_ct ?_
            exact ⟨_, _, _, _, mi.set i r.nx, acts, rfl, c1', c2', g', hmi', by omega, hact, skip (by rw [hc]; simp)⟩
          · have hno : ¬ (r.w == "pass" || !canB xs w.me (oI p.other) acts r.w r.ln) = true := by
              simp only [Bool.or_eq_true, not_or]
              exact ⟨hpass, hc⟩
            rw [if_neg hno] at hgo
            repeat walk_at "x"
            refine wp_lstRecv (l := 0) (xs := []) ?_
            repeat walk_at "x"
            refine ⟨_, _, rfl, c2', ?_⟩
            repeat walk_at "x"
            refine wp_app c2' (by simp; omega) ?_
            have c1s := set_other (c := .lst (acts.map toldD ++ [.tup [.int (i : Nat), actD r.w r.ln]])) c1' ne12
            have c2s : ((m.set μ.length (.lst ((mi.map D.int).set i (.int r.nx)))).set (μ ++ [Cell.lst (minds.map D.int)]).length (.lst (acts.map toldD ++ [.tup [.int (i : Nat), actD r.w r.ln]])))[(μ ++ [Cell.lst (minds.map D.int)]).length]? = some (.lst ((acts ++ [(i, r.w, r.ln)]).map toldD)) := by rw [set_get c2', List.map_append]; rfl
            have gs := g'.set (l := (μ ++ [Cell.lst (minds.map D.int)]).length) (by simp) (.lst (acts.map toldD ++ [.tup [.int (i : Nat), actD r.w r.ln]]))
            have hact' : ∀ t ∈ acts ++ [(i, r.w, r.ln)], t.2.1 ∈ actws := fun t ht => by
              rcases List.mem_append.mp ht with h | h
              · exact hact t h
              · rw [List.mem_singleton.mp h]; exact hrok.act
            repeat walk_at "x"
            refine wp_act0 ?_
            repeat walk_at "x"
            refine wp_eq (goOn_op hrok.act _) ?_
            repeat walk_at "x"
            refine ite2 (fun hg => ?_) (fun hg => ?_)
            · rw [if_neg (by simpa using hg)] at hgo
              refine ws_bk ?_
              exact hN _ _ ⟨_, _, _, _, rfl⟩ (by rw [← hgo]; exact c1s) (by rw [← hgo]; exact c2s) gs
            · rw [if_pos (by simpa using hg)] at hgo
              refine ws_sk ?_
              exact ⟨_, _, _, _, mi.set i r.nx, acts ++ [(i, r.w, r.ln)], rfl, c1s, c2s, gs, hmi', by simp; omega, hact', hgo⟩
  · rintro e m ⟨x8, x9, x10, x11, mi, acts, rfl, c1, c2, g, hmi, hal, hact, hgo⟩
    have hlen : (enumD (ws0.map Wish.d)).length = ws0.length := by simp [enumD]
    rw [hlen, List.drop_eq_nil_of_le (Nat.le_refl _)] at hgo
    unfold askGo at hgo
    subst hgo
    exact hN _ _ ⟨_, _, _, _, rfl⟩ c1 c2 g
end

section
variable {N n : Int} {l : Nat} {μ : Mu}
def kinds12 : List Str := ["in", "full", "in", "flash", "out", "met", "long", "drop", "free", "flash", "full", "long"]
theorem kinds12_8 : ∀ k ∈ kinds12, k ∈ kinds8 := by decide +kernel
def actsOf (k : Str) : List Str :=
  if k = "out" then ["bar", "hide"] else if k = "in" then ["shut", "send", "also"] else if k = "full" then ["shut", "send", "show"] else if k = "met" then [] else if k = "long" then ["shut", "send"] else if k = "flash" then ["swap", "join"] else if k = "drop" then ["keep"] else ["ring"]
theorem actsOf_ok : ∀ k ∈ kinds8, ∀ w ∈ actsOf k ++ actsOf k ++ (["pass"] : List Str), w ∈ actws ∧ (w = "also" → k = "in") := by decide +kernel
theorem actsOf_len : ∀ k ∈ kinds8, (actsOf k).length ≤ 3 := by decide +kernel
/-- a dict display, the store behind it by what it holds -/
theorem wp_dctA {Q : D → Mu → Prop} {env : CW.Env} {μ : Mu} {f : Km} (h : wp (f env (μ ++ [.dct []])) fun kvs m => m[μ.length]? = some (.dct []) ∧ ∀ M : Mu, M.length = m.length → M[μ.length]? = some (.dct (mergeD [] kvs)) → (∀ j, j ≠ μ.length → M[j]? = m[j]?) → Q (.ref μ.length) M) : wp (dctE f env μ) Q := by
  refine wp_dctE (wp_mono h ?_)
  rintro kvs m ⟨h1, h2⟩
  exact ⟨h1, h2 _ (by simp) (set_get h1) fun j hj => List.getElem?_set_ne (Ne.symm hj)⟩
theorem gr_of {μ M m : Mu} (h : Gr μ m) (hl : M.length = m.length) {k : Nat} (hk : μ.length ≤ k) (he : ∀ j, j ≠ k → M[j]? = m[j]?) : Gr μ M := ⟨by rw [hl]; exact h.len, fun j hj => by rw [he j (by omega)]; exact h.old j hj⟩
theorem wp_updA {Q : D → Mu → Prop} {μ : Mu} {l m : Nat} {kvs more : List (Key × D)} (hl : μ[l]? = some (.dct kvs)) (hm : μ[m]? = some (.dct more)) (hne : l ≠ m) (hz : kvs.length + more.length ≤ 1000000) (q : ∀ M : Mu, M.length = μ.length → M[l]? = some (.dct (mergeD kvs more)) → (∀ j, j ≠ l → M[j]? = μ[j]?) → Q .non M) : wp (updM (.ref l) [.ref m] μ) Q :=
  wp_updM hl hm hne hz (q _ (by simp) (set_get hl) fun j hj => List.getElem?_set_ne (Ne.symm hj))
theorem wp_catT {Q : D → Mu → Prop} {μ : Mu} {x : D} {xs ys : List D} (hz : (x :: xs).length + ys.length ≤ 1000000) (q : Q (.tup (x :: xs ++ ys)) μ) : wp (addD (.tup (x :: xs)) (.tup ys) μ) Q := by
  refine wp_eq ?_ q
  show (if (x :: xs).length + ys.length ≤ 1000000 then _ else none) = _
  rw [if_pos hz]
end

def hallK (nD : D) (wsD : List D) (lc : Nat) (night : Int) (lm lt le : Nat) : List (Key × D) := [(.inr "n", nD), (.inr "wishes", .tup wsD), (.inr "calls", .ref lc), (.inr "night", .int night), (.inr "minds", .ref lm), (.inr "tales", .ref lt), (.inr "events", .ref le)]
structure HallIn (m : Mu) (h lc lm : Nat) (wsD : List D) (xs : List D) (night : Int) (mi : List Int) : Prop where
  ex : ∃ nD lt le, m[h]? = some (.dct (hallK nD wsD lc night lm lt le))
  calls : m[lc]? = some (.lst xs)
  minds : m[lm]? = some (.lst (mi.map D.int))
  hm : h ≠ lm
  cm : lc ≠ lm
theorem HallIn.gr {m m' : Mu} {h lc lm : Nat} {wsD xs : List D} {night : Int} {mi : List Int} (H : HallIn m h lc lm wsD xs night mi) (g : Gr m m') : HallIn m' h lc lm wsD xs night mi :=
  ⟨let ⟨a, b, c, e⟩ := H.ex; ⟨a, b, c, g.get e⟩, g.get H.calls, g.get H.minds, H.hm, H.cm⟩
theorem HallIn.other {m : Mu} {h lc lm k : Nat} {wsD xs : List D} {night : Int} {mi : List Int} (H : HallIn m h lc lm wsD xs night mi) (c : Cell) (n1 : h ≠ k) (n2 : lc ≠ k) (n3 : lm ≠ k) : HallIn (m.set k c) h lc lm wsD xs night mi :=
  ⟨let ⟨a, b, c, e⟩ := H.ex; ⟨a, b, c, set_other e n1⟩, set_other H.calls n2, set_other H.minds n3, H.hm, H.cm⟩
theorem HallIn.lt {m : Mu} {h lc lm : Nat} {wsD xs : List D} {night : Int} {mi : List Int} (H : HallIn m h lc lm wsD xs night mi) : h < m.length ∧ lc < m.length ∧ lm < m.length :=
  ⟨let ⟨_, _, _, e⟩ := H.ex; (List.getElem?_eq_some_iff.mp e).1, (List.getElem?_eq_some_iff.mp H.calls).1, (List.getElem?_eq_some_iff.mp H.minds).1⟩
section
variable {n night : Int} {xs wsD : List D} {mi : List Int} {m : Mu} {h lc lm : Nat}
end

section
variable {n night : Int} {xs wsD : List D} {mi : List Int} {m : Mu} {h lc lm : Nat}
end

section
variable {n night : Int} {xs wsD : List D} {mi : List Int} {m : Mu} {h lc lm : Nat} {p : Point}
end

section
variable {n night : Int} {xs wsD : List D} {mi : List Int} {m : Mu} {h lc lm : Nat} {p : Point}
end

section
variable {n night : Int} {xs : List D} {mi : List Int} {m : Mu} {h lc lm : Nat} {p : Point}
end

section
variable {N n : Int} {l : Nat} {μ : Mu}
theorem wp_mulT {Q : D → Mu → Prop} {μ : Mu} {k : Nat} (hz : k ≤ 1000) (q : Q (.tup (List.replicate k (.int 0))) μ) : wp (mulD (.tup [.int 0]) (.int (k : Nat)) μ) Q := by
  refine wp_eq ?_ q
  show (if 0 ≤ ((k : Nat) : Int) ∧ ((k : Nat) : Int) < 1000000 ∧ (([D.int 0].length : Nat) : Int) * ((k : Nat) : Int) ≤ 1000000 then some (D.tup (List.replicate ((k : Nat) : Int).toNat [D.int 0]).flatten, μ) else none) = _
  rw [if_pos ⟨by omega, by omega, by simp; omega⟩]
  simp
end

theorem askGo_len {xs : List D} {night : Int} {p : Point} : ∀ (ws : List Wish) (i : Nat) (mi : List Int) (acts : List Told), (∀ w ∈ ws, w.Ok) → (∀ t ∈ acts, t.2.1 ∈ actws) →
    (askGo xs night p i ws mi acts).1.length ≤ acts.length + ws.length ∧ (askGo xs night p i ws mi acts).2.length = mi.length ∧ ∀ t ∈ (askGo xs night p i ws mi acts).1, t.2.1 ∈ actws
  | [], i, mi, acts, _, h => ⟨by simp [askGo], rfl, h⟩
  | w :: ws, i, mi, acts, hw, h => by
    have hw' : ∀ w ∈ ws, w.Ok := fun u hu => hw u (List.mem_cons_of_mem _ hu)
    unfold askGo
    split
    · split
      · obtain ⟨a, b, c⟩ := askGo_len ws (i + 1) mi acts hw' h
        exact ⟨by simp; omega, b, c⟩
      · rename_i r hf
        have hr := (hw w List.mem_cons_self).1 r (List.mem_of_find?_eq_some hf)
        have h' : ∀ t ∈ acts ++ [(i, r.w, r.ln)], t.2.1 ∈ actws := fun t ht => by
          rcases List.mem_append.mp ht with q | q
          · exact h t q
          · rw [List.mem_singleton.mp q]; exact hr.act
        split
        · obtain ⟨a, b, c⟩ := askGo_len ws (i + 1) (mi.set i r.nx) acts hw' h
          exact ⟨by simp; omega, by rw [b]; simp, c⟩
        · split
          · obtain ⟨a, b, c⟩ := askGo_len ws (i + 1) (mi.set i r.nx) (acts ++ [(i, r.w, r.ln)]) hw' h'
            exact ⟨by simp at a ⊢; first | done | omega, by rw [b]; simp, c⟩
          · exact ⟨by simp, by simp, h'⟩
    · obtain ⟨a, b, c⟩ := askGo_len ws (i + 1) mi acts hw' h
      exact ⟨by simp; omega, b, c⟩
structure Sc where
  xs : List D
  night : Int
  mi : List Int
  tl : List D
  ev : List D
def evD (w : Str) (ls : List Int) (hid : Int) : D := .tup [.str w, .tup (ls.map D.int), .int hid]
def toldF (ws : List Wish) (xs : List D) (night : Int) (e : D) (tl : List D) : List D := (zipD (ws.map Wish.d) tl).map (toD xs night e)
def tellF (ws : List Wish) (w : Str) (ls : List Int) (hid : Int) (s : Sc) : Sc := { s with tl := toldF ws s.xs s.night (evD w ls hid) s.tl, ev := s.ev ++ [evD w ls hid] }
def askR (ws : List Wish) (p : Point) (s : Sc) : List Told × List Int := askGo s.xs s.night p 0 ws s.mi []
def askS (ws : List Wish) (p : Point) (s : Sc) : Sc := { s with mi := (askR ws p s).2 }
def keyB (c x : D) : Bool := cI x == cI c && cJ x == cJ c
def ceqB (c x : D) : Bool := cI x == cI c && (cJ x == cJ c && (cW x == cW c && cH x == cH c))
def placeF (c : D) (s : Sc) : Sc := { s with xs := srtD (s.xs.filter (fun x => !keyB c x) ++ [c]) }
def liftF (c : D) (s : Sc) : Sc := { s with xs := s.xs.filter fun x => !ceqB c x }
def wordOf (how : Str) : Str := if how = "ring" then "rings" else if how = "show" then "shows" else if how = "talk" then "talks" else if how = "busy" then "busy" else if how = "shut" then "shut" else "backs"
def bringF (ws : List Wish) (c : D) (s : Sc) : Sc := tellF ws (wordOf (cW c)) [cI c, cJ c] (cH c) (placeF c s)
def endF (ws : List Wish) : List D → Sc → Sc
  | [], s => s
  | c :: cs, s => endF ws cs (tellF ws "ends" [cI c, cJ c] 0 (liftF c s))
/-- what a house must be -/
structure RuleN (n me : Int) (r : Rule) : Prop where
  ln : ∀ x, r.ln = some x → 0 ≤ x ∧ x < n ∧ x ≠ me
  has : r.w = "send" ∨ r.w = "also" → ∃ x, r.ln = some x
  k_in : r.kind = "in" → r.w = "shut" ∨ r.w = "send" ∨ r.w = "also" ∨ r.w = "pass"
  k_full : r.kind = "full" → r.w = "shut" ∨ r.w = "send" ∨ r.w = "show" ∨ r.w = "pass"
  k_long : r.kind = "long" → r.w = "shut" ∨ r.w = "send" ∨ r.w = "pass"
  k_out : r.kind = "out" → r.w = "bar" ∨ r.w = "hide" ∨ r.w = "pass"
  k_flash : r.kind = "flash" → r.w = "swap" ∨ r.w = "join" ∨ r.w = "pass"
  k_drop : r.kind = "drop" → r.w = "keep" ∨ r.w = "pass"
  k_free : r.kind = "free" → r.w = "ring" ∨ r.w = "pass"
  k_met : r.kind = "met" → r.w = "pass"
structure Hs (n : Int) (ws : List Wish) : Prop where
  n2 : 2 ≤ n
  n4 : n ≤ 4
  len : ws.length ≤ 20
  ok : ∀ w ∈ ws, w.Ok
  tw : ∀ w ∈ ws, TWish w.d
  me : ∀ w ∈ ws, 0 ≤ w.me ∧ w.me < n
  rule : ∀ w ∈ ws, ∀ r ∈ w.rules, RuleN n w.me r
/-- a scene on its way, with room for b events -/
structure Sk (n : Int) (ws : List Wish) (b : Nat) (s : Sc) : Prop where
  cs : CS n s.xs
  mi : s.mi.length = ws.length
  tl : s.tl.length = ws.length
  st : ∀ d ∈ s.tl, StD d
  ev : s.ev.length + b ≤ 1000000
  te : ∀ d ∈ s.ev, TEvent d
  br : ∀ (i : Nat) (w : Wish), ws[i]? = some w → w.gb = true → s.tl[i]? = some .non
theorem Sk.less {n : Int} {ws : List Wish} {b c : Nat} {s : Sc} (h : Sk n ws b s) (q : c ≤ b) : Sk n ws c s := ⟨h.cs, h.mi, h.tl, h.st, by have := h.ev; omega, h.te, h.br⟩
theorem sb_non {xs : List D} {night : Int} {e w : D} (hw : TWish w) (he : TEvent e) : sbD xs night e w .non = .non := by
  obtain ⟨me, rules, tale, rfl, ht, _⟩ := hw.ex
  obtain ⟨wd, k, lines, hid, rfl, _, _, _⟩ := he.ex
  show ((tale.find? (rcond xs night me hid .non wd lines)).map aftD).getD .non = .non
  have : tale.find? (rcond xs night me hid .non wd lines) = none := List.find?_eq_none.mpr fun r hr => by
    obtain ⟨st, w', k', pats, tests, aft, rfl, _⟩ := (ht r hr).ex
    simp [rcond, stEq]
  rw [this]; rfl
theorem tell_sk {n : Int} {ws : List Wish} {b : Nat} {s : Sc} (H : Hs n ws) (h : Sk n ws (b + 1) s) {w : Str} {ls : List Int} {hid : Int} (he : TEvent (evD w ls hid)) : Sk n ws b (tellF ws w ls hid s) := by
  refine ⟨h.cs, h.mi, ?_, ?_, ?_, ?_, ?_⟩
  · show (toldF ws s.xs s.night (evD w ls hid) s.tl).length = ws.length
    unfold toldF zipD
    simp [h.tl]
  · intro d hd
    have hd : d ∈ toldF ws s.xs s.night (evD w ls hid) s.tl := hd
    unfold toldF at hd
    obtain ⟨z, hz, rfl⟩ := List.mem_map.mp hd
    obtain ⟨x, y, rfl, h1, h2, _⟩ := mem_zipD hz
    obtain ⟨w0, hw0, rfl⟩ := List.mem_map.mp h1
    exact sb_st (H.tw w0 hw0) (h.st y h2) he
  · show (s.ev ++ [evD w ls hid]).length + b ≤ 1000000
    have := h.ev
    simp
    omega
  · intro d hd
    have hd : d ∈ s.ev ++ [evD w ls hid] := hd
    rcases List.mem_append.mp hd with hd | hd
    · exact h.te d hd
    · rw [List.mem_singleton.mp hd]; exact he
  · intro i w0 hw0 hg
    have h1 := h.br i w0 hw0 hg
    show (toldF ws s.xs s.night (evD w ls hid) s.tl)[i]? = some .non
    unfold toldF zipD
    rw [List.getElem?_map, List.getElem?_map, List.zip, List.getElem?_zipWith, List.getElem?_map, hw0, h1]
    show some (toD s.xs s.night (evD w ls hid) (.tup [w0.d, .non])) = some .non
    exact congrArg some (sb_non (H.tw w0 (List.mem_of_getElem? hw0)) he)
theorem evD_ok {w : Str} {k : Nat} {ls : List Int} {hid : Int} (h : (w, k) ∈ wtab) (hl : ls.length = k) : TEvent (evD w ls hid) := ⟨w, k, ls.map D.int, hid, rfl, h, by simpa using hl, ⟨ls, rfl⟩⟩
theorem ev2 {w : Str} {a b hid : Int} (h : (w, 2) ∈ wtab) : TEvent (evD w [a, b] hid) := evD_ok h rfl
def crsK (hD : D) (s : Sc) (le : Nat) : List (Str × D) := [("house", hD), ("calls", .tup s.xs), ("night", .int s.night), ("minds", .tup (s.mi.map D.int)), ("tales", .tup s.tl), ("events", .ref le)]
theorem put_tales {hD : D} {s : Sc} {le : Nat} {tl : List D} : putFD "tales" (.tup tl) (crsK hD s le) = crsK hD { s with tl := tl } le := by kernel_rfl
theorem put_calls {hD : D} {s : Sc} {le : Nat} {xs : List D} : putFD "calls" (.tup xs) (crsK hD s le) = crsK hD { s with xs := xs } le := by kernel_rfl
theorem put_minds {hD : D} {s : Sc} {le : Nat} {mi : List Int} : putFD "minds" (.tup (mi.map D.int)) (crsK hD s le) = crsK hD { s with mi := mi } le := by kernel_rfl
theorem put_night {hD : D} {s : Sc} {le : Nat} {v : Int} : putFD "night" (.int v) (crsK hD s le) = crsK hD { s with night := v } le := by kernel_rfl
theorem crs_len {hD : D} {s : Sc} {le : Nat} : (crsK hD s le).length < 1000 := by simp [crsK]
structure Crs (m : Mu) (l le : Nat) (hD : D) (s : Sc) : Prop where
  obj : m[l]? = some (.obj "Course" (crsK hD s le))
  ev : m[le]? = some (.lst s.ev)
  ne : l ≠ le
/-- all but the course's two cells stays -/
structure Fc (l le : Nat) (m m' : Mu) : Prop where
  len : m.length ≤ m'.length
  old : ∀ j, j ≠ l → j ≠ le → j < m.length → m'[j]? = m[j]?
theorem Fc.refl {l le : Nat} {m : Mu} : Fc l le m m := ⟨Nat.le_refl _, fun _ _ _ _ => rfl⟩
theorem Fc.trans {l le : Nat} {m m1 m2 : Mu} (a : Fc l le m m1) (b : Fc l le m1 m2) : Fc l le m m2 := ⟨Nat.le_trans a.len b.len, fun j h1 h2 h3 => (b.old j h1 h2 (Nat.lt_of_lt_of_le h3 a.len)).trans (a.old j h1 h2 h3)⟩
theorem Fc.set1 {l le : Nat} {m m1 : Mu} (a : Fc l le m m1) {c : Cell} : Fc l le m (m1.set l c) := ⟨by simp [a.len], fun j h1 h2 h3 => by rw [List.getElem?_set_ne (Ne.symm h1)]; exact a.old j h1 h2 h3⟩
theorem Fc.set2 {l le : Nat} {m m1 : Mu} (a : Fc l le m m1) {c : Cell} : Fc l le m (m1.set le c) := ⟨by simp [a.len], fun j h1 h2 h3 => by rw [List.getElem?_set_ne (Ne.symm h2)]; exact a.old j h1 h2 h3⟩
theorem Fc.gr {l le : Nat} {m m1 m2 : Mu} (a : Fc l le m m1) (g : Gr m1 m2) : Fc l le m m2 := a.trans ⟨g.len, fun j _ _ h => g.old j h⟩
theorem Fc.push {l le : Nat} {m m1 : Mu} (a : Fc l le m m1) (c : Cell) : Fc l le m (m1 ++ [c]) := a.gr (Gr.refl.push c)
theorem Fc.get {l le : Nat} {m m1 : Mu} (a : Fc l le m m1) {k : Nat} {c : Cell} (h1 : k ≠ l) (h2 : k ≠ le) (h : m[k]? = some c) : m1[k]? = some c := by rw [a.old k h1 h2 (List.getElem?_eq_some_iff.mp h).1]; exact h
theorem Crs.gr {m m' : Mu} {l le : Nat} {hD : D} {s : Sc} (C : Crs m l le hD s) (g : Gr m m') : Crs m' l le hD s := ⟨g.get C.obj, g.get C.ev, C.ne⟩
theorem Crs.push {m : Mu} {l le : Nat} {hD : D} {s : Sc} (C : Crs m l le hD s) (c : Cell) : Crs (m ++ [c]) l le hD s := C.gr (Gr.refl.push c)
section
variable {m : Mu} {l le : Nat} {hD : D} {s : Sc} {env : CW.Env} {Q : D → Mu → Prop} {i : Nat}
theorem wp_calls (C : Crs m l le hD s) (hv : env[i]? = some (some (.ref l))) (q : Q (.tup s.xs) m) : wp (una (fldD "Course" "calls") (vD i) env m) Q := wp_una (wp_v hv (wp_fld C.obj rfl q))
theorem wp_night (C : Crs m l le hD s) (hv : env[i]? = some (some (.ref l))) (q : Q (.int s.night) m) : wp (una (fldD "Course" "night") (vD i) env m) Q := wp_una (wp_v hv (wp_fld C.obj rfl q))
theorem wp_house (C : Crs m l le hD s) (hv : env[i]? = some (some (.ref l))) (q : Q hD m) : wp (una (fldD "Course" "house") (vD i) env m) Q := wp_una (wp_v hv (wp_fld C.obj rfl q))
theorem wp_minds (C : Crs m l le hD s) (hv : env[i]? = some (some (.ref l))) (q : Q (.tup (s.mi.map D.int)) m) : wp (una (fldD "Course" "minds") (vD i) env m) Q := wp_una (wp_v hv (wp_fld C.obj rfl q))
theorem wp_tales (C : Crs m l le hD s) (hv : env[i]? = some (some (.ref l))) (q : Q (.tup s.tl) m) : wp (una (fldD "Course" "tales") (vD i) env m) Q := wp_una (wp_v hv (wp_fld C.obj rfl q))
theorem wp_events (C : Crs m l le hD s) (hv : env[i]? = some (some (.ref l))) (q : Q (.ref le) m) : wp (una (fldD "Course" "events") (vD i) env m) Q := wp_una (wp_v hv (wp_fld C.obj rfl q))
theorem wp_mt {nm : Str} {sem : List D → Mu → Option (D × Mu)} {dfs : List D} {g : Am} (C : Crs m l le hD s) (hv : env[i]? = some (some (.ref l))) (hn : (crsK hD s le).lookup nm = none) (h : wp (g env m) fun ds m2 => wp (sem (.ref l :: (ds ++ dfs)) m2) Q) : wp (metO "Course" nm sem dfs (vD i) g env m) Q :=
  wp_metO (wp_v hv ⟨l, _, rfl, C.obj, hn, h⟩)
end
section
variable {n : Int} {ws : List Wish} {dD : D} {b : Nat} {s : Sc} {m : Mu} {l le : Nat}
abbrev houD (n : Int) (ws : List Wish) (dD : D) : D := .tup [.int n, .tup (ws.map Wish.d), dD]
theorem Hs.tws (H : Hs n ws) : ∀ w ∈ ws.map Wish.d, TWish w := fun w hw => by
  obtain ⟨u, hu, rfl⟩ := List.mem_map.mp hw
  exact H.tw u hu
theorem tell_ok (H : Hs n ws) (h : Sk n ws (b + 1) s) (C : Crs m l le (houD n ws dD) s) {w : Str} {ls : List Int} {hid : Int} (he : TEvent (evD w ls hid)) :
    wp (sm_Course_tell [.ref l, .str w, .tup (ls.map D.int), .int hid] m) fun r m' => r = .non ∧ Crs m' l le (houD n ws dD) (tellF ws w ls hid s) ∧ Fc l le m m' := by
  refine wp_def rfl ?_
  repeat walk_at "y"
  refine wp_lstRecv (l := le) (xs := s.ev) (wp_events C rfl ⟨le, s.ev, rfl, C.ev, ?_⟩)
  repeat walk_at "y"
  refine wp_app C.ev (by have := h.ev; omega) ?_
  have C1 : (m.set le (.lst (s.ev ++ [evD w ls hid])))[l]? = some (.obj "Course" (crsK (houD n ws dD) s le)) := set_other C.obj C.ne
  have C2 : (m.set le (.lst (s.ev ++ [evD w ls hid])))[le]? = some (.lst (s.ev ++ [evD w ls hid])) := set_get C.ev
  have Cm : Crs (m.set le (.lst (s.ev ++ [evD w ls hid]))) l le (houD n ws dD) { s with ev := s.ev ++ [evD w ls hid] } := ⟨C1, C2, C.ne⟩
  refine ws_fld ?_
  refine wp_callE (wp_consA (wp_house Cm rfl (wp_consA (wp_tales Cm rfl (wp_consA (wp_calls Cm rfl (wp_consA (wp_night Cm rfl ?_))))))))
  repeat walk_at "y"
  refine wp_pf (ev_told_on h.cs.call H.tws h.st he (by have := H.len; simp; omega)) ?_
  refine wp_v rfl ⟨l, _, rfl, C1, crs_len, rfl, ⟨?_, ?_, C.ne⟩, ?_⟩
  · rw [put_tales]; exact set_get C1
  · exact set_other C2 (Ne.symm C.ne)
  · exact (Fc.refl.set2).set1
end
section
variable {Q : D → Mu → Prop} {env : CW.Env} {μ : Mu} {fi : Im} {t : Tm} {g : Sm} {vs : List Nat} {j : Nat} {p : D → Bool} {k : D → D}
theorem wp_tupGT (h : wp (fi env μ) fun it μ1 => ∃ xs, it = fixIt xs ∧ xs.length ≤ 1000000 ∧ (∀ x ∈ xs, EvT t ((wipeE env vs).set j (some x)) (p x)) ∧ (∀ x ∈ xs, p x = true → Ev g ((wipeE env vs).set j (some x)) (k x)) ∧ Q (.tup ((xs.filter p).map k)) μ1) : wp (tupGE fi (nmG j) t g vs env μ) Q := by
  obtain ⟨it, μ1, e1, xs, rfl, hz, ht, he, q⟩ := h
  have E := ev_tupGS (env := env) (vs := vs) (gt := nmG j) (fi := fun _ m => some (fixIt xs, m)) (it := fixIt xs) (xs := xs) (e := fun x => (wipeE env vs).set j (some x)) (fun m => rfl) still_fix (fun x _ m => rfl) ht he hz μ1
  refine wp_eq ?_ q
  unfold tupGE at E ⊢
  rw [e1]
  exact E
end
section
variable {n : Int} {ws : List Wish} {dD : D} {b : Nat} {s : Sc} {m : Mu} {l le : Nat}
theorem op_nePair {i j a c : Int} : OpV neD (.tup [.int i, .int j]) (.tup [.int a, .int c]) (.bl (!(i == a && j == c))) := fun m => by
  simp [neD, pyD, PyData.eqv, PyData.eqvAll, List.mapM_cons]
theorem op_neCall {c x : D} (hc : Call1 n c) (hx : Call1 n x) : OpV neD x c (.bl (!ceqB c x)) := fun m => by
  obtain ⟨i, j, w, h, rfl, _, _, _, _, _, hw, _⟩ := hc.ex
  obtain ⟨i', j', w', h', rfl, _, _, _, _, _, hw', _⟩ := hx.ex
  simp [neD, pyD, PyData.eqv, PyData.eqvAll, List.mapM_cons, ok_hows hw, ok_hows hw', ceqB, cI, cJ, cW, cH]
theorem ceq_eq {c x : D} (hc : Call1 n c) (hx : Call1 n x) : ceqB c x = true ↔ x = c := by
  obtain ⟨i, j, w, h, rfl, _⟩ := hc.ex
  obtain ⟨i', j', w', h', rfl, _⟩ := hx.ex
  simp [ceqB, cI, cJ, cW, cH]
/-- a call may stand: no other between its lines but one that it takes the place of -/
def Fits (c : D) (xs : List D) : Prop := ∀ x ∈ xs, Apart x c ∨ keyB c x = true
theorem place_cs {xs : List D} (h : CS n xs) {c : D} (hc : Call1 n c) (hf : Fits c xs) (h4 : n ≤ 4) : CS n (srtD (xs.filter (fun x => !keyB c x) ++ [c])) := by
  refine CS.make (fun y hy => ?_) ?_ h4
  · rcases List.mem_append.mp hy with z | z
    · exact h.call y (List.mem_filter.mp z).1
    · rw [List.mem_singleton.mp z]; exact hc
  · refine List.pairwise_append.mpr ⟨h.apart.filter _, List.pairwise_singleton _ _, fun x hx y hy => ?_⟩
    rw [List.mem_singleton.mp hy]
    obtain ⟨h1, h2⟩ := List.mem_filter.mp hx
    rcases hf x h1 with q | q
    · exact q
    · rw [q] at h2; cases h2
theorem place_sk (H : Hs n ws) (h : Sk n ws b s) {c : D} (hc : Call1 n c) (hf : Fits c s.xs) : Sk n ws b (placeF c s) := ⟨place_cs h.cs hc hf H.n4, h.mi, h.tl, h.st, h.ev, h.te, h.br⟩
theorem lift_sk (h : Sk n ws b s) {c : D} : Sk n ws b (liftF c s) := ⟨h.cs.filter _, h.mi, h.tl, h.st, h.ev, h.te, h.br⟩
theorem place_ok (H : Hs n ws) (h : Sk n ws b s) (C : Crs m l le (houD n ws dD) s) {c : D} (hc : Call1 n c) :
    wp (sm_Course_place [.ref l, c] m) fun r m' => r = .non ∧ Crs m' l le (houD n ws dD) (placeF c s) ∧ Fc l le m m' := by
  have h6 := h.cs.six H.n4
  obtain ⟨ci, cj, cw, ch, rfl, _⟩ := hc.ex
  refine wp_def rfl ?_
  refine ws_seq (ws_asg ?_)
  refine wp_lcP (p := fun x => !keyB (callD ci cj cw ch) x) (k := id) (wp_seqIT (wp_calls C rfl ⟨_, rfl, s.xs, rfl, by omega, fun x hx => ?_, fun x hx _ => ev_v rfl, ?_⟩))
  · obtain ⟨i, j, w, hh, rfl, _⟩ := (h.cs.call x hx).ex
    exact evt_tst (ev_bin (ev_slT (ev_v rfl) evp_no (evp_som ev_c)) (ev_slT (ev_v rfl) evp_no (evp_som ev_c)) op_nePair)
  rw [List.map_id]
  refine wp_nm ?_
  have C1 := C.push (.lst (s.xs.filter fun x => !keyB (callD ci cj cw ch) x))
  refine ws_fld (wp_callE (wp_consA (wp_callE (wp_consA (wp_lstS (wp_starA (wp_v rfl ?_)))))))
  have hc0 := get_last m (.lst (s.xs.filter fun x => !keyB (callD ci cj cw ch) x))
  refine ⟨s.xs.filter (fun x => !keyB (callD ci cj cw ch) x), by show (match _ with | some (Cell.lst xs) => some xs | _ => none) = _; rw [hc0], ?_⟩
  repeat walk_at "y"
  have hlf := List.length_filter_le (fun x => !keyB (callD ci cj cw ch) x) s.xs
  have hlen : (s.xs.filter (fun x => !keyB (callD ci cj cw ch) x) ++ [callD ci cj cw ch]).length ≤ 7 := by simp; omega
  refine ⟨by omega, ?_⟩
  repeat walk_at "y"
  have hall : ∀ y ∈ s.xs.filter (fun x => !keyB (callD ci cj cw ch) x) ++ [callD ci cj cw ch], Call1 n y := fun y hy => by
    rcases List.mem_append.mp hy with z | z
    · exact h.cs.call y (List.mem_filter.mp z).1
    · rw [List.mem_singleton.mp z]; exact hc
  refine wp_srt (n := n) (get_last _ _) (by omega) (cmp_calls hall) ?_
  repeat walk_at "y"
  refine wp_tupL (get_last _ _) ?_
  have C2 := (C1.push (.lst (s.xs.filter (fun x => !keyB (callD ci cj cw ch) x) ++ [callD ci cj cw ch]))).push (.lst (srtD (s.xs.filter (fun x => !keyB (callD ci cj cw ch) x) ++ [callD ci cj cw ch])))
  refine wp_v rfl ⟨l, _, rfl, C2.obj, crs_len, rfl, ⟨?_, set_other C2.ev (Ne.symm C.ne), C.ne⟩, ?_⟩
  · rw [put_calls]; exact set_get C2.obj
  · exact (((Fc.refl.push _).push _).push _).set1
theorem lift_ok (H : Hs n ws) (h : Sk n ws b s) (C : Crs m l le (houD n ws dD) s) {c : D} (hc : Call1 n c) :
    wp (sm_Course_lift [.ref l, c] m) fun r m' => r = .non ∧ Crs m' l le (houD n ws dD) (liftF c s) ∧ Fc l le m m' := by
  have h6 := h.cs.six H.n4
  refine wp_def rfl ?_
  refine ws_fld (wp_tupGT (p := fun x => !ceqB c x) (k := id) (wp_seqIT (wp_calls C rfl ⟨_, rfl, s.xs, rfl, by omega, fun x hx => ?_, fun x hx _ => ev_v rfl, ?_⟩)))
  · exact evt_tst (ev_bin (ev_v rfl) (ev_v rfl) (op_neCall hc (h.cs.call x hx)))
  rw [List.map_id]
  refine wp_v rfl ⟨l, _, rfl, C.obj, crs_len, rfl, ⟨?_, set_other C.ev (Ne.symm C.ne), C.ne⟩, Fc.refl.set1⟩
  rw [put_calls]; exact set_get C.obj
def bringW : List Str := ["ring", "show", "talk", "busy", "shut", "back"]
theorem word_get : ∀ how ∈ bringW, ∀ m, kgetD c_WORD_OF_HOW (.str how) m = some (.str (wordOf how), m) := by
  intro how hh m
  simp only [bringW, List.mem_cons, List.not_mem_nil, or_false] at hh
  rcases hh with rfl | rfl | rfl | rfl | rfl | rfl <;> rfl
theorem word_tab : ∀ how ∈ bringW, (wordOf how, 2) ∈ wtab := by decide +kernel
theorem bring_ev {c : D} (hw : cW c ∈ bringW) : TEvent (evD (wordOf (cW c)) [cI c, cJ c] (cH c)) := ev2 (word_tab _ hw)
theorem bring_sk (H : Hs n ws) (h : Sk n ws (b + 1) s) {c : D} (hc : Call1 n c) (hf : Fits c s.xs) (hw : cW c ∈ bringW) : Sk n ws b (bringF ws c s) := tell_sk H (place_sk H h hc hf) (bring_ev hw)
theorem bring_ok (H : Hs n ws) (h : Sk n ws (b + 1) s) (C : Crs m l le (houD n ws dD) s) {c : D} (hc : Call1 n c) (hf : Fits c s.xs) (hw : cW c ∈ bringW) :
    wp (sm_Course_bring [.ref l, c] m) fun r m' => r = .non ∧ Crs m' l le (houD n ws dD) (bringF ws c s) ∧ Fc l le m m' := by
  obtain ⟨ci, cj, cw, ch, rfl, _⟩ := hc.ex
  refine wp_def rfl ?_
  refine ws_seq (ws_drop (wp_mt C rfl rfl ?_))
  repeat walk_at "y"
  refine wp_mono (place_ok H h C hc) ?_
  rintro r m1 ⟨rfl, C1, f1⟩
  refine ws_drop (wp_mt C1 rfl rfl ?_)
  refine wp_consA (wp_una ?_)
  repeat walk_at "y"
  refine wp_eq (word_get cw hw _) ?_
  repeat walk_at "y"
  refine wp_mono (tell_ok (ls := [ci, cj]) H (place_sk H h hc hf) C1 (bring_ev (c := callD ci cj cw ch) hw)) ?_
  rintro r m2 ⟨rfl, C2, f2⟩
  exact ⟨rfl, C2, f1.trans f2⟩
theorem ask_len (H : Hs n ws) (h : Sk n ws b s) (p : Point) : (askR ws p s).2.length = ws.length ∧ (askR ws p s).1.length ≤ ws.length := by
  obtain ⟨h1, h2, h3⟩ := askGo_len (xs := s.xs) (night := s.night) (p := p) ws 0 s.mi [] H.ok (fun t ht => nomatch ht)
  exact ⟨h2.trans h.mi, by unfold askR; simpa using h1⟩
theorem ask_sk (H : Hs n ws) (h : Sk n ws b s) (p : Point) : Sk n ws b (askS ws p s) := ⟨h.cs, (ask_len H h p).1, h.tl, h.st, h.ev, h.te, h.br⟩
theorem ask_ok (H : Hs n ws) (h : Sk n ws b s) (C : Crs m l le (houD n ws dD) s) {p : Point} (hp : p.Ok) :
    wp (sm_Course_ask [.ref l, .str p.kind, p.me, p.other, .int p.hid] m) fun r m' => r = .tup ((askR ws p s).1.map toldD) ∧ Crs m' l le (houD n ws dD) (askS ws p s) ∧ Fc l le m m' := by
  have h6 := h.cs.six H.n4
  refine wp_def rfl ?_
  refine ws_seq (ws_asg (wp_callE (wp_consA (wp_house C rfl (wp_consA (wp_mt C rfl rfl (wp_nilA ?_)))))))
  refine wp_def rfl (ws_ret (wp_tupE (wp_consA (wp_calls C rfl (wp_consA (wp_night C rfl (wp_consA (wp_minds C rfl (wp_consA (wp_tales C rfl ?_))))))))))
  repeat walk_at "y"
  refine wp_pg (asked_ok (xs := s.xs) (night := s.night) (p := p) (minds := s.mi) h.cs.call (by omega) hp H.ok (by have := H.len; omega) h.mi) fun m1 g1 => ?_
  have C1 := C.gr g1
  refine wp_tupGL rfl (wp_consG (wp_nm (wp_consG (wp_fldG (wp_v rfl ⟨l, _, rfl, C1.obj, crs_len, wp_nilG ?_⟩)))))
  repeat walk_at "y"
  refine ⟨rfl, ⟨?_, set_other C1.ev (Ne.symm C.ne), C.ne⟩, (Fc.refl.gr g1).set1⟩
  rw [put_minds]; exact set_get C1.obj
theorem end_sk (H : Hs n ws) : ∀ (cs : List D) {b : Nat} {s : Sc}, Sk n ws (b + cs.length) s → Sk n ws b (endF ws cs s)
  | [], _, _, h => h
  | c :: cs, b, s, h => end_sk H cs (tell_sk H (lift_sk (h.less (by simp; omega))) (ev2 (by decide +kernel)))
theorem end_ok (H : Hs n ws) {cs : List D} (h : Sk n ws (b + cs.length) s) (C : Crs m l le (houD n ws dD) s) (hc : ∀ c ∈ cs, Call1 n c) {k : Nat} (hk : m[k]? = some (.lst cs)) (k1 : k ≠ l) (k2 : k ≠ le) :
    wp (sm_Course_end [.ref l, .ref k] m) fun r m' => r = .non ∧ Crs m' l le (houD n ws dD) (endF ws cs s) ∧ Fc l le m m' := by
  refine wp_def rfl ?_
  refine ws_for_lst (wp_seqIL (wp_v rfl ⟨k, cs, rfl, hk, k, cs, rfl, fun i e q => ∃ x2 s', e = [some (.ref l), some (.ref k), x2] ∧ Crs q l le (houD n ws dD) s' ∧ Sk n ws (b + (cs.length - i)) s' ∧ Fc l le m q ∧ endF ws (cs.drop i) s' = endF ws cs s, ?_, ?_, ?_, ?_⟩))
  · exact ⟨_, s, rfl, C, h, Fc.refl, rfl⟩
  · rintro i e q ⟨_, s', _, _, _, f, _⟩; exact f.get k1 k2 hk
  · rintro i c e q hci ⟨x2, s', rfl, C1, h1, f1, e1⟩
    have hcm := List.mem_of_getElem? hci
    have hcc := hc c hcm
    have hil : i < cs.length := (List.getElem?_eq_some_iff.mp hci).1
    have hdr : cs.drop i = c :: cs.drop (i + 1) := by
      rw [List.drop_eq_getElem_cons hil]
      rw [List.getElem?_eq_getElem hil] at hci
      cases hci; rfl
    obtain ⟨ci, cj, cw, ch, rfl, _⟩ := hcc.ex
    refine wp_nm (ws_seq (ws_drop (wp_mt C1 rfl rfl ?_)))
    repeat walk_at "y"
    refine wp_mono (lift_ok H h1 C1 hcc) ?_
    rintro r m2 ⟨rfl, C2, f2⟩
    refine ws_drop (wp_mt C2 rfl rfl ?_)
    repeat walk_at "y"
    have h2 : Sk n ws ((b + (cs.length - (i + 1))) + 1) (liftF (callD ci cj cw ch) s') := lift_sk (h1.less (by omega))
    refine wp_mono (tell_ok (w := "ends") (ls := [ci, cj]) (hid := 0) H h2 C2 (ev2 (by decide +kernel))) ?_
    rintro r m3 ⟨rfl, C3, f3⟩
    exact ⟨_, _, rfl, C3, tell_sk H h2 (ev2 (by decide +kernel)), (f1.trans f2).trans f3, by rw [hdr] at e1; exact e1⟩
  · rintro e q ⟨x2, s', rfl, C1, h1, f1, e1⟩
    rw [List.drop_length] at e1
    have e1 : s' = endF ws cs s := e1
    subst e1
    exact ⟨rfl, C1, f1⟩
end

structure Act1 (ws : List Wish) (xs : List D) (p : Point) (t : Told) (told : List Told) : Prop where
  ex : ∃ w r, ws[t.1]? = some w ∧ askedB p w.me = true ∧ r ∈ w.rules ∧ r.kind = p.kind ∧ t.2 = (r.w, r.ln) ∧ r.w ≠ "pass" ∧ canB xs w.me (oI p.other) told r.w r.ln = true
/-- each told behind those ahead of it; all but the last go on -/
inductive Row (ws : List Wish) (xs : List D) (p : Point) : List Told → Prop
  | nil : Row ws xs p []
  | snoc {ts : List Told} {t : Told} : Row ws xs p ts → (∀ u ∈ ts, goOn u.2.1 = true) → Act1 ws xs p t ts → Row ws xs p (ts ++ [t])
theorem takes_kind {xs : List D} {night : Int} {p : Point} {me mind : Int} {r : Rule} (h : takesD xs night p me mind r.d = true) : r.kind = p.kind := by
  unfold Rule.d takesD at h
  simp only [Bool.and_eq_true, beq_iff_eq] at h
  exact h.2.1
theorem askGo_row {ws0 : List Wish} {xs : List D} {night : Int} {p : Point} : ∀ (ws : List Wish) (i : Nat) (mi : List Int) (acts : List Told), (∀ t, ws[t]? = ws0[i + t]?) → Row ws0 xs p acts → (∀ u ∈ acts, goOn u.2.1 = true) → Row ws0 xs p (askGo xs night p i ws mi acts).1
  | [], i, mi, acts, _, h, _ => by unfold askGo; exact h
  | w :: ws, i, mi, acts, hw, h, hg => by
    have hw' : ∀ t, ws[t]? = ws0[i + 1 + t]? := fun t => by
      have := hw (t + 1)
      rw [List.getElem?_cons_succ] at this
      rw [this]; congr 1; omega
    have h0 : ws0[i]? = some w := by
      have := hw 0
      rw [List.getElem?_cons_zero] at this
      exact this.symm
    unfold askGo
    split
    · rename_i ha
      split
      · exact askGo_row ws (i + 1) mi acts hw' h hg
      · rename_i r hr
        have hm := List.mem_of_find?_eq_some hr
        have ht : takesD xs night p w.me (mi.getD i 0) r.d = true := by simpa using List.find?_some hr
        split
        · exact askGo_row ws (i + 1) _ acts hw' h hg
        · rename_i hc
          simp only [Bool.or_eq_true, beq_iff_eq, Bool.not_eq_true', not_or, Bool.not_eq_false] at hc
          have a1 : Act1 ws0 xs p (i, r.w, r.ln) acts := ⟨w, r, h0, ha, hm, takes_kind ht, rfl, hc.1, hc.2⟩
          split
          · rename_i hgo
            refine askGo_row ws (i + 1) _ _ hw' (.snoc h hg a1) fun u hu => ?_
            rcases List.mem_append.mp hu with z | z
            · exact hg u z
            · rw [List.mem_singleton.mp z]; exact hgo
          · exact .snoc h hg a1
    · exact askGo_row ws (i + 1) mi acts hw' h hg
theorem ask_row {ws : List Wish} {p : Point} {s : Sc} : Row ws s.xs p (askR ws p s).1 := askGo_row ws 0 s.mi [] (fun t => by simp) .nil (fun _ h => nomatch h)
theorem Row.mem {ws : List Wish} {xs : List D} {p : Point} {ts : List Told} (h : Row ws xs p ts) {t : Told} (ht : t ∈ ts) : ∃ told, Act1 ws xs p t told := by
  induction h with
  | nil => cases ht
  | snoc _ _ a ih =>
    rcases List.mem_append.mp ht with z | z
    · exact ih z
    · rw [List.mem_singleton.mp z]; exact ⟨_, a⟩
def lnI (t : Told) : Int := t.2.2.getD 0
section
variable {n : Int} {ws : List Wish}
/-- what a told act is, by its point's kind -/
theorem act_rule (H : Hs n ws) {xs : List D} {p : Point} {t : Told} {told : List Told} (a : Act1 ws xs p t told) : ∃ w r, ws[t.1]? = some w ∧ w ∈ ws ∧ askedB p w.me = true ∧ RuleN n w.me r ∧ r.kind = p.kind ∧ t.2.1 = r.w ∧ t.2.2 = r.ln ∧ r.w ≠ "pass" ∧ canB xs w.me (oI p.other) told t.2.1 t.2.2 = true := by
  obtain ⟨w, r, h1, h2, h3, h4, h5, h6, h7⟩ := a.ex
  have hw := List.mem_of_getElem? h1
  have e1 : t.2.1 = r.w := by rw [h5]
  have e2 : t.2.2 = r.ln := by rw [h5]
  exact ⟨w, r, h1, hw, h2, H.rule w hw r h3, h4, e1, e2, h6, by rw [e1, e2]; exact h7⟩
theorem asked_int {k : Str} {b : Int} {o : D} {hid me : Int} (hk : k ≠ "free") (h : askedB ⟨k, .int b, o, hid⟩ me = true) : me = b := by
  unfold askedB at h
  rw [if_neg hk] at h
  simpa [stEq] using h
/-- an act at an in point -/
theorem act_in (H : Hs n ws) {xs : List D} {a b hid : Int} {t : Told} {told : List Told} (q : Act1 ws xs ⟨"in", .int b, .int a, hid⟩ t told) :
    (t.2.1 = "shut" ∨ (t.2.1 = "send" ∧ t.2.2 = some (lnI t) ∧ 0 ≤ lnI t ∧ lnI t < n ∧ lnI t ≠ b) ∨ (t.2.1 = "also" ∧ t.2.2 = some (lnI t) ∧ 0 ≤ lnI t ∧ lnI t < n ∧ lnI t ≠ b ∧ lnI t ≠ a ∧ xs.any (fIn (lnI t)) = false ∧ xs.any (fPair (lnI t) a) = false ∧ ∀ u ∈ told, u.2.1 = "also" → u.2.2 ≠ t.2.2)) := by
  obtain ⟨w, r, _, _, ha, rn, hk, e1, e2, hp, hc⟩ := act_rule H q
  have hme := asked_int (by decide) ha
  subst hme
  rcases rn.k_in hk with z | z | z | z
  · exact .inl (e1.trans z)
  · obtain ⟨x, hx⟩ := rn.has (.inl z)
    have hl : lnI t = x := by unfold lnI; rw [e2, hx]; rfl
    obtain ⟨l1, l2, l3⟩ := rn.ln x hx
    exact .inr (.inl ⟨e1.trans z, by rw [e2, hx, hl], by rw [hl]; exact l1, by rw [hl]; exact l2, by rw [hl]; exact l3⟩)
  · obtain ⟨x, hx⟩ := rn.has (.inr z)
    have hl : lnI t = x := by unfold lnI; rw [e2, hx]; rfl
    obtain ⟨l1, l2, l3⟩ := rn.ln x hx
    rw [e1, z, e2, hx] at hc
    unfold canB at hc
    rw [if_pos rfl] at hc
    simp only [oI, Bool.and_eq_true, Bool.not_eq_true', beq_eq_false_iff_ne, List.all_eq_true] at hc
    refine .inr (.inr ⟨e1.trans z, by rw [e2, hx, hl], by rw [hl]; exact l1, by rw [hl]; exact l2, by rw [hl]; exact l3, by rw [hl]; exact hc.1, by rw [hl]; exact hc.2.1, by rw [hl]; exact hc.2.2.1, fun u hu hau hz => ?_⟩)
    have := hc.2.2.2 u hu
    rw [hau, hz, e2, hx] at this
    simp at this
  · exact absurd z hp
theorem act_full (H : Hs n ws) {xs : List D} {a b hid : Int} {t : Told} {told : List Told} (q : Act1 ws xs ⟨"full", .int b, .int a, hid⟩ t told) :
    (t.2.1 = "shut" ∨ (t.2.1 = "send" ∧ t.2.2 = some (lnI t) ∧ 0 ≤ lnI t ∧ lnI t < n ∧ lnI t ≠ b) ∨ t.2.1 = "show") := by
  obtain ⟨w, r, _, _, ha, rn, hk, e1, e2, hp, hc⟩ := act_rule H q
  have hme := asked_int (by decide) ha
  subst hme
  rcases rn.k_full hk with z | z | z | z
  · exact .inl (e1.trans z)
  · obtain ⟨x, hx⟩ := rn.has (.inl z)
    have hl : lnI t = x := by unfold lnI; rw [e2, hx]; rfl
    obtain ⟨l1, l2, l3⟩ := rn.ln x hx
    exact .inr (.inl ⟨e1.trans z, by rw [e2, hx, hl], by rw [hl]; exact l1, by rw [hl]; exact l2, by rw [hl]; exact l3⟩)
  · exact .inr (.inr (e1.trans z))
  · exact absurd z hp
theorem act_long (H : Hs n ws) {xs : List D} {a b hid : Int} {t : Told} {told : List Told} (q : Act1 ws xs ⟨"long", .int b, .int a, hid⟩ t told) :
    (t.2.1 = "shut" ∨ (t.2.1 = "send" ∧ t.2.2 = some (lnI t) ∧ 0 ≤ lnI t ∧ lnI t < n ∧ lnI t ≠ b)) := by
  obtain ⟨w, r, _, _, ha, rn, hk, e1, e2, hp, hc⟩ := act_rule H q
  have hme := asked_int (by decide) ha
  subst hme
  rcases rn.k_long hk with z | z | z
  · exact .inl (e1.trans z)
  · obtain ⟨x, hx⟩ := rn.has (.inl z)
    have hl : lnI t = x := by unfold lnI; rw [e2, hx]; rfl
    obtain ⟨l1, l2, l3⟩ := rn.ln x hx
    exact .inr ⟨e1.trans z, by rw [e2, hx, hl], by rw [hl]; exact l1, by rw [hl]; exact l2, by rw [hl]; exact l3⟩
  · exact absurd z hp
end
def busyF (ws : List Wish) (a hid b : Int) (s : Sc) : Sc := askS ws ⟨"met", .int a, .int b, hid⟩ (bringF ws (callD a b "busy" hid) s)
def alsoF (ws : List Wish) (a hid : Int) : List Told → Sc → Sc
  | [], s => s
  | t :: ts, s => if (t.2.1 == "also") = true then alsoF ws a hid ts (bringF ws (callD a (lnI t) "ring" hid) s) else s
def lastA (ts : List Told) : Option Told := ts.find? fun t => !(t.2.1 == "also")
def sendF (cf : List Int → Int → Sc → Sc) (ws : List Wish) (a hid : Int) (ways : List Int) (b to : Int) (s : Sc) : Sc :=
  if (to == a || (ways.any (fun y => y == to) || s.xs.any (fPair a to))) = true then busyF ws a hid b (tellF ws "sent" [a, b, to] hid s) else cf (ways ++ [b]) to (tellF ws "sent" [a, b, to] hid s)
def turnF (cf : List Int → Int → Sc → Sc) (ws : List Wish) (a hid : Int) (ways : List Int) (b : Int) (t : Told) (s : Sc) : Sc :=
  if (t.2.1 == "shut") = true then bringF ws (callD a b "shut" hid) s else sendF cf ws a hid ways b (lnI t) s
def usedF (cf : List Int → Int → Sc → Sc) (ws : List Wish) (a hid : Int) (ways : List Int) (b : Int) (s : Sc) : Sc :=
  match (askR ws ⟨"full", .int b, .int a, hid⟩ s).1 with
  | [] => busyF ws a hid b (askS ws ⟨"full", .int b, .int a, hid⟩ s)
  | t :: _ => if (t.2.1 == "show") = true then bringF ws (callD a b "show" hid) (askS ws ⟨"full", .int b, .int a, hid⟩ s) else turnF cf ws a hid ways b t (askS ws ⟨"full", .int b, .int a, hid⟩ s)
def inF (cf : List Int → Int → Sc → Sc) (ws : List Wish) (a hid : Int) (ways : List Int) (b : Int) (acts : List Told) (s : Sc) : Sc :=
  match lastA acts with
  | some t => turnF cf ws a hid ways b t (alsoF ws a hid acts s)
  | none => if (!(alsoF ws a hid acts s).xs.any (fIn b)) = true then bringF ws (callD a b "ring" hid) (alsoF ws a hid acts s) else usedF cf ws a hid ways b (alsoF ws a hid acts s)
def comeF (ws : List Wish) (a hid : Int) : Nat → List Int → Int → Sc → Sc
  | 0, _, _, s => s
  | k + 1, ways, b, s => inF (comeF ws a hid k) ws a hid ways b (askR ws ⟨"in", .int b, .int a, hid⟩ (tellF ws "comes" [a, b] hid s)).1 (askS ws ⟨"in", .int b, .int a, hid⟩ (tellF ws "comes" [a, b] hid s))
section
variable {n : Int} {xs : List D} {c : D}
theorem placed_any {q : D → Bool} {s : Sc} : (placeF c s).xs.any q = ((s.xs.filter fun x => !keyB c x).any q || q c) := by
  show (srtD _).any q = _
  rw [(srt_perm _).any_eq, List.any_append]
  simp
theorem any_filter_false {q p : D → Bool} (h : xs.any q = false) : (xs.filter p).any q = false := by
  rw [List.any_eq_false] at h ⊢
  exact fun x hx => h x (List.mem_filter.mp hx).1
theorem placed_false {q : D → Bool} {s : Sc} (h : s.xs.any q = false) (hc : q c = false) : (placeF c s).xs.any q = false := by
  rw [placed_any, any_filter_false h, hc]; rfl
theorem bring_false {ws : List Wish} {q : D → Bool} {s : Sc} (h : s.xs.any q = false) (hc : q c = false) : (bringF ws c s).xs.any q = false := placed_false h hc
theorem pair_call {a b i j h : Int} {w : Str} : fPair a b (callD i j w h) = ((a == i && b == j) || (b == i && a == j)) := rfl
theorem fits_of {a b hid : Int} {w : Str} (hx : ∀ x ∈ xs, Call1 n x) (h : xs.any (fPair a b) = false) : Fits (callD a b w hid) xs := fun x hm => by
  refine .inl ?_
  have := List.any_eq_false.mp h x hm
  obtain ⟨i, j, how, hd, rfl, _⟩ := (hx x hm).ex
  rw [pair_call] at this
  simp only [Bool.or_eq_true, Bool.and_eq_true, beq_iff_eq, not_or, not_and] at this
  intro z
  simp only [pairD, Option.some.injEq] at z
  split at z <;> split at z <;> simp only [Prod.mk.injEq] at z <;> omega
theorem pair_sym {a b : Int} : fPair a b = fPair b a := by
  funext x
  unfold fPair
  split
  · rw [Bool.or_comm]
  · rfl
theorem call_mk {a b hid : Int} {w : Str} (a0 : 0 ≤ a) (an : a < n) (b0 : 0 ≤ b) (bn : b < n) (ab : a ≠ b) (hw : w ∈ hows) (h0 : 0 ≤ hid) (h1 : hid ≤ 1) : Call1 n (callD a b w hid) := ⟨a, b, w, hid, rfl, a0, an, b0, bn, ab, hw, h0, h1⟩
end
/-- lines that a call has not come by -/
def left (ways : List Int) : Nat := ([0, 1, 2, 3] : List Int).countP fun i => !ways.any fun y => y == i
theorem left_less {ways : List Int} {b : Int} (b0 : 0 ≤ b) (b4 : b < 4) (hb : (ways.any fun y => y == b) = false) : left (ways ++ [b]) + 1 ≤ left ways := by
  have hb4 : b = 0 ∨ b = 1 ∨ b = 2 ∨ b = 3 := by omega
  unfold left
  simp only [List.any_append, List.any_cons, List.any_nil, Bool.or_false, List.countP_cons, List.countP_nil]
  have key : ∀ p0 p1 p2 p3 : Bool, ∀ j ∈ ([0, 1, 2, 3] : List Int), ([p0, p1, p2, p3].getD j.toNat true) = false → 0 + (if (!(p3 || j == 3)) = true then 1 else 0) + (if (!(p2 || j == 2)) = true then 1 else 0) + (if (!(p1 || j == 1)) = true then 1 else 0) + (if (!(p0 || j == 0)) = true then 1 else 0) + 1 ≤
      0 + (if (!p3) = true then 1 else 0) + (if (!p2) = true then 1 else 0) + (if (!p1) = true then 1 else 0) + (if (!p0) = true then 1 else 0) := by decide
  refine key _ _ _ _ b (by simp; omega) ?_
  rcases hb4 with rfl | rfl | rfl | rfl <;> exact hb

structure Way (n a hid : Int) : Prop where
  a0 : 0 ≤ a
  an : a < n
  h0 : 0 ≤ hid
  h1 : hid ≤ 1
/-- a line that the call may come to -/
structure Goal (n a b : Int) (s : Sc) : Prop where
  b0 : 0 ≤ b
  bn : b < n
  ba : b ≠ a
  nb : s.xs.any (fPair a b) = false
structure Also (n a b : Int) (ts : List Told) (s : Sc) : Prop where
  each : ∀ t ∈ ts, t.2.1 = "also" → t.2.2 = some (lnI t) ∧ 0 ≤ lnI t ∧ lnI t < n ∧ lnI t ≠ b ∧ lnI t ≠ a ∧ s.xs.any (fPair a (lnI t)) = false
  two : ts.Pairwise fun (t u : Told) => t.2.1 = ("also" : Str) → u.2.1 = ("also" : Str) → lnI t ≠ lnI u
  last : ∀ t ∈ ts, t.2.1 ≠ "also" → t.2.1 = "shut" ∨ (t.2.1 = "send" ∧ t.2.2 = some (lnI t) ∧ 0 ≤ lnI t ∧ lnI t < n ∧ lnI t ≠ b)
section
variable {n : Int} {ws : List Wish} {a hid : Int} {bb e : Nat} {s : Sc} {b : Int} {ways : List Int}
theorem Goal.tell {w : Str} {ls : List Int} {h : Int} (g : Goal n a b s) : Goal n a b (tellF ws w ls h s) := ⟨g.b0, g.bn, g.ba, g.nb⟩
theorem Goal.ask {p : Point} (g : Goal n a b s) : Goal n a b (askS ws p s) := ⟨g.b0, g.bn, g.ba, g.nb⟩
theorem Goal.call (A : Way n a hid) (g : Goal n a b s) {w : Str} (hw : w ∈ hows) : Call1 n (callD a b w hid) := call_mk A.a0 A.an g.b0 g.bn (Ne.symm g.ba) hw A.h0 A.h1
theorem Goal.bring {x : Int} {w : Str} (g : Goal n a b s) (hx : x ≠ b) (hxa : x ≠ a) : Goal n a b (bringF ws (callD a x w hid) s) := ⟨g.b0, g.bn, g.ba, bring_false g.nb (by
  rw [pair_call]
  have h1 : (b == x) = false := by simpa using fun z => hx z.symm
  have h2 : (a == x) = false := by simpa using fun z => hxa z.symm
  simp [h1, h2])⟩
theorem row_also (H : Hs n ws) {xs : List D} {ts : List Told} (h : Row ws xs ⟨"in", .int b, .int a, hid⟩ ts) (hs : s.xs = xs) : Also n a b ts s := by
  induction h with
  | nil => exact ⟨fun _ h => (nomatch h), List.Pairwise.nil, fun _ h => (nomatch h)⟩
  | @snoc ts t hr hg q ih =>
    have qa := act_in H q
    refine ⟨fun u hu hal => ?_, List.pairwise_append.mpr ⟨ih.two, List.pairwise_singleton _ _, fun u hu v hv hau hav => ?_⟩, fun u hu hn => ?_⟩
    · rcases List.mem_append.mp hu with z | z
      · exact ih.each u z hal
      · rw [List.mem_singleton.mp z] at hal ⊢
        rcases qa with z | z | z
        · rw [z] at hal; exact absurd hal (by decide)
        · rw [z.1] at hal; exact absurd hal (by decide)
        · obtain ⟨_, h1, h2, h3, h4, h5, _, h7, _⟩ := z
          exact ⟨h1, h2, h3, h4, h5, by rw [hs, pair_sym]; exact h7⟩
    · rw [List.mem_singleton.mp hv] at hav ⊢
      rcases qa with z | z | z
      · rw [z] at hav; exact absurd hav (by decide)
      · rw [z.1] at hav; exact absurd hav (by decide)
      · intro he
        refine z.2.2.2.2.2.2.2.2 u hu hau ?_
        rw [(ih.each u hu hau).1, z.2.1, he]
    · rcases List.mem_append.mp hu with z | z
      · exact ih.last u z hn
      · rw [List.mem_singleton.mp z] at hn ⊢
        rcases qa with z | z | z
        · exact .inl z
        · exact .inr z
        · exact absurd z.1 hn
theorem Also.tail {t : Told} {ts : List Told} (h : Also n a b (t :: ts) s) (ht : t.2.1 = "also") : Also n a b ts (bringF ws (callD a (lnI t) "ring" hid) s) := by
  obtain ⟨p1, p2⟩ := List.pairwise_cons.mp h.two
  refine ⟨fun u hu hal => ?_, p2, fun u hu => h.last u (List.mem_cons_of_mem _ hu)⟩
  obtain ⟨h1, h2, h3, h4, h5, h6⟩ := h.each u (List.mem_cons_of_mem _ hu) hal
  refine ⟨h1, h2, h3, h4, h5, bring_false h6 ?_⟩
  have hne := p1 u hu ht hal
  obtain ⟨_, _, _, _, k5, _⟩ := h.each t List.mem_cons_self ht
  rw [pair_call]
  have e1 : (lnI u == lnI t) = false := by simpa using fun z => hne z.symm
  have e2 : (a == lnI t) = false := by simpa using fun z => k5 z.symm
  simp [e1, e2]
theorem ring_mem : ("ring" : Str) ∈ hows ∧ ("show" : Str) ∈ hows ∧ ("talk" : Str) ∈ hows ∧ ("busy" : Str) ∈ hows ∧ ("shut" : Str) ∈ hows ∧ ("back" : Str) ∈ hows ∧ ("hold0" : Str) ∈ hows ∧ ("hold1" : Str) ∈ hows := by decide +kernel
theorem ring_mem2 : ("ring" : Str) ∈ bringW ∧ ("show" : Str) ∈ bringW ∧ ("talk" : Str) ∈ bringW ∧ ("busy" : Str) ∈ bringW ∧ ("shut" : Str) ∈ bringW ∧ ("back" : Str) ∈ bringW := by decide +kernel
theorem goal_sk (H : Hs n ws) (A : Way n a hid) (h : Sk n ws (bb + 1) s) (g : Goal n a b s) {w : Str} (hw : w ∈ hows) (hb : w ∈ bringW) : Sk n ws bb (bringF ws (callD a b w hid) s) := bring_sk H h (g.call A hw) (fits_of h.cs.call g.nb) hb
theorem also_goal {t : Told} {ts : List Told} (h : Also n a b (t :: ts) s) (ht : t.2.1 = "also") : Goal n a (lnI t) s := by
  obtain ⟨_, h2, h3, _, h5, h6⟩ := h.each t List.mem_cons_self ht
  exact ⟨h2, h3, h5, h6⟩
theorem also_sk (H : Hs n ws) (A : Way n a hid) : ∀ (ts : List Told) {s : Sc} {bb : Nat}, Also n a b ts s → Sk n ws (bb + ts.length) s → Goal n a b s → Sk n ws bb (alsoF ws a hid ts s) ∧ Goal n a b (alsoF ws a hid ts s)
  | [], _, _, _, h, g => ⟨h, g⟩
  | t :: ts, s, bb, al, h, g => by
    unfold alsoF
    split
    · rename_i ht
      have ht : t.2.1 = "also" := by simpa using ht
      obtain ⟨_, _, _, h4, h5, _⟩ := al.each t List.mem_cons_self ht
      exact also_sk H A ts (al.tail ht) (goal_sk H A (h.less (by simp; omega)) (also_goal al ht) ring_mem.1 ring_mem2.1) (g.bring h4 h5)
    · exact ⟨h.less (by omega), g⟩
theorem busy_sk (H : Hs n ws) (A : Way n a hid) (h : Sk n ws (bb + 1) s) (g : Goal n a b s) : Sk n ws bb (busyF ws a hid b s) := ask_sk H (goal_sk H A h g ring_mem.2.2.2.1 ring_mem2.2.2.2.1) _
abbrev CfSk (n : Int) (ws : List Wish) (a : Int) (e : Nat) (cf : List Int → Int → Sc → Sc) : Prop := ∀ {ways : List Int} {b : Int} {s : Sc} {bb : Nat}, Sk n ws (bb + e) s → Goal n a b s → Sk n ws bb (cf ways b s)
theorem send_sk (H : Hs n ws) (A : Way n a hid) {cf : List Int → Int → Sc → Sc} (hcf : CfSk n ws a e cf) {to : Int} (t0 : 0 ≤ to) (tn : to < n) (h : Sk n ws (bb + (e + 2)) s) (g : Goal n a b s) : Sk n ws bb (sendF cf ws a hid ways b to s) := by
  have h1 : Sk n ws (bb + (e + 1)) (tellF ws "sent" [a, b, to] hid s) := tell_sk H h (evD_ok (k := 3) (by decide +kernel) rfl)
  unfold sendF
  split
  · exact busy_sk H A (h1.less (by omega)) g.tell
  · rename_i hc
    simp only [Bool.not_eq_true, Bool.or_eq_false_iff] at hc
    exact hcf (h1.less (by omega)) ⟨t0, tn, beq_eq_false_iff_ne.mp hc.1, hc.2.2⟩
theorem turn_sk (H : Hs n ws) (A : Way n a hid) {cf : List Int → Int → Sc → Sc} (hcf : CfSk n ws a e cf) {t : Told} (ht : t.2.1 = "shut" ∨ (t.2.1 = "send" ∧ t.2.2 = some (lnI t) ∧ 0 ≤ lnI t ∧ lnI t < n ∧ lnI t ≠ b)) (h : Sk n ws (bb + (e + 2)) s) (g : Goal n a b s) : Sk n ws bb (turnF cf ws a hid ways b t s) := by
  unfold turnF
  split
  · exact goal_sk H A (h.less (by omega)) g ring_mem.2.2.2.2.1 ring_mem2.2.2.2.2.1
  · rename_i hs
    rcases ht with z | z
    · rw [z] at hs; exact absurd rfl hs
    · exact send_sk H A hcf z.2.2.1 z.2.2.2.1 h g
theorem used_sk (H : Hs n ws) (A : Way n a hid) {cf : List Int → Int → Sc → Sc} (hcf : CfSk n ws a e cf) (h : Sk n ws (bb + (e + 2)) s) (g : Goal n a b s) : Sk n ws bb (usedF cf ws a hid ways b s) := by
  have hr := ask_row (ws := ws) (p := ⟨"full", .int b, .int a, hid⟩) (s := s)
  have h1 := ask_sk H h ⟨"full", .int b, .int a, hid⟩
  unfold usedF
  split
  · exact busy_sk H A (h1.less (by omega)) g.ask
  · rename_i t ts he
    rw [he] at hr
    obtain ⟨told, q⟩ := hr.mem List.mem_cons_self
    split
    · exact goal_sk H A (h1.less (by omega)) g.ask ring_mem.2.1 ring_mem2.2.1
    · rename_i hs
      refine turn_sk H A hcf ?_ h1 g.ask
      rcases act_full H q with z | z | z
      · exact .inl z
      · exact .inr z
      · rw [z] at hs; exact absurd rfl hs
theorem in_sk (H : Hs n ws) (A : Way n a hid) {cf : List Int → Int → Sc → Sc} (hcf : CfSk n ws a e cf) {acts : List Told} (al : Also n a b acts s) (hl : acts.length ≤ 20) (h : Sk n ws (bb + (e + 22)) s) (g : Goal n a b s) : Sk n ws bb (inF cf ws a hid ways b acts s) := by
  obtain ⟨h1, g1⟩ := also_sk (bb := bb + (e + 2)) H A acts al (h.less (by omega)) g
  unfold inF
  split
  · rename_i t ht
    have hm := List.mem_of_find?_eq_some ht
    have hn : t.2.1 ≠ "also" := by simpa using List.find?_some ht
    exact turn_sk H A hcf (al.last t hm hn) h1 g1
  · split
    · exact goal_sk H A (h1.less (by omega)) g1 ring_mem.1 ring_mem2.1
    · exact used_sk H A hcf h1 g1
def eB (k : Nat) : Nat := 23 * k + 1
theorem come_sk (H : Hs n ws) (A : Way n a hid) : ∀ k : Nat, CfSk n ws a (eB k) (comeF ws a hid k)
  | 0 => by
    rename_i ways b s bb
    intro h g
    exact h.less (by omega)
  | k + 1 => by
    rename_i ways b s bb
    intro h g
    unfold comeF
    have h1 : Sk n ws (bb + (eB k + 22)) (tellF ws "comes" [a, b] hid s) := tell_sk H (h.less (by unfold eB; omega)) (ev2 (by decide +kernel))
    have h2 := ask_sk H h1 ⟨"in", .int b, .int a, hid⟩
    have hl := (ask_len H h1 ⟨"in", .int b, .int a, hid⟩).2
    exact in_sk H A (come_sk H A k) (row_also H ask_row rfl) (by have := H.len; omega) h2 g.tell.ask
end
section
variable {env : CW.Env} {m : Mu}
theorem wp_orB {f g : Tm} {x y : Bool} {Q : Bool → Mu → Prop} (hf : wp (f env m) fun r m' => r = x ∧ m' = m) (hg : x = false → wp (g env m) fun r m' => r = y ∧ m' = m) (q : Q (x || y) m) : wp (orT f g env m) Q := by
  obtain ⟨x0, m0, e1, h1, h2⟩ := hf
  subst h1 h2
  refine wp_orT (wp_eq e1 ?_)
  cases x0 with
  | true => exact iteT q
  | false =>
    obtain ⟨y0, m1, e2, h1, h2⟩ := hg rfl
    subst h1 h2
    exact iteF (wp_eq e2 q)
theorem wp_andB {f g : Tm} {x y : Bool} {Q : Bool → Mu → Prop} (hf : wp (f env m) fun r m' => r = x ∧ m' = m) (hg : x = true → wp (g env m) fun r m' => r = y ∧ m' = m) (q : Q (x && y) m) : wp (andT f g env m) Q := by
  obtain ⟨x0, m0, e1, h1, h2⟩ := hf
  subst h1 h2
  refine wp_andT (wp_eq e1 ?_)
  cases x0 with
  | false => exact iteF q
  | true =>
    obtain ⟨y0, m1, e2, h1, h2⟩ := hg rfl
    subst h1 h2
    exact iteT (wp_eq e2 q)
end
section
variable {n : Int} {ws : List Wish} {dD : D} {a hid : Int} {bb e : Nat} {s : Sc} {b : Int} {ways : List Int} {m : Mu} {l le : Nat}
abbrev wayD (a hid : Int) (ways : List Int) : D := .tup [.int a, .int hid, .tup (ways.map D.int)]
theorem point_ok1 {k : Str} {me o hid : Int} (hk : k ∈ kinds8) (hf : k ≠ "free") : (Point.mk k (.int me) (.int o) hid).Ok := ⟨hk, .inr ⟨me, rfl⟩, .inr ⟨o, rfl⟩, fun z => absurd z hf, fun z => nomatch z⟩
theorem busy_ok (H : Hs n ws) (A : Way n a hid) (h : Sk n ws (bb + 1) s) (g : Goal n a b s) (C : Crs m l le (houD n ws dD) s) :
    wp (sm_be_busy [.ref l, wayD a hid ways, .int b] m) fun r m' => r = .non ∧ Crs m' l le (houD n ws dD) (busyF ws a hid b s) ∧ Fc l le m m' := by
  refine wp_def rfl ?_
  repeat walk_at "y"
  refine wp_mt C rfl rfl ?_
  repeat walk_at "y"
  refine wp_mono (bring_ok H h C (g.call A ring_mem.2.2.2.1) (fits_of h.cs.call g.nb) ring_mem2.2.2.2.1) ?_
  rintro r m1 ⟨rfl, C1, f1⟩
  refine ws_drop (wp_mt C1 rfl rfl ?_)
  repeat walk_at "y"
  refine wp_mono (ask_ok H (goal_sk H A h g ring_mem.2.2.2.1 ring_mem2.2.2.2.1) C1 (point_ok1 (k := "met") (me := a) (o := b) (hid := hid) (by decide +kernel) (by decide))) ?_
  rintro r m2 ⟨rfl, C2, f2⟩
  exact ⟨rfl, C2, f1.trans f2⟩
/-- what a call's coming on is to be -/
abbrev CfOk (n : Int) (ws : List Wish) (dD : D) (a hid : Int) (e k : Nat) (l le : Nat) (FC : List D → Mu → Option (D × Mu)) (cf : List Int → Int → Sc → Sc) : Prop :=
  ∀ {ways : List Int} {b : Int} {s : Sc} {m : Mu} {bb : Nat}, Sk n ws (bb + e) s → Goal n a b s → (ways.any fun y => y == b) = false → left ways ≤ k → ways.length + left ways ≤ 4 → Crs m l le (houD n ws dD) s →
    wp (FC [.ref l, wayD a hid ways, .int b] m) fun r m' => r = .non ∧ Crs m' l le (houD n ws dD) (cf ways b s) ∧ Fc l le m m'
theorem send_ok (H : Hs n ws) (A : Way n a hid) {FC : List D → Mu → Option (D × Mu)} {cf : List Int → Int → Sc → Sc} {k : Nat} (hcf : CfOk n ws dD a hid e k l le FC cf) {to : Int} (t0 : 0 ≤ to) (tn : to < n) (tb : to ≠ b) (h : Sk n ws (bb + (e + 2)) s) (g : Goal n a b s) (hw : (ways.any fun y => y == b) = false) (hk : left ways ≤ k + 1) (hwl : ways.length + left ways ≤ 4) (C : Crs m l le (houD n ws dD) s) :
    wp (sm_send FC [.ref l, wayD a hid ways, .int b, .int to] m) fun r m' => r = .non ∧ Crs m' l le (houD n ws dD) (sendF cf ws a hid ways b to s) ∧ Fc l le m m' := by
  have he : TEvent (evD "sent" [a, b, to] hid) := evD_ok (k := 3) (by decide +kernel) rfl
  have h1 : Sk n ws (bb + (e + 1)) (tellF ws "sent" [a, b, to] hid s) := tell_sk H h he
  refine wp_def rfl ?_
  repeat walk_at "y"
  refine wp_mt C rfl rfl ?_
  repeat walk_at "y"
  refine wp_mono (tell_ok (ls := [a, b, to]) H h C he) ?_
  rintro r m1 ⟨rfl, C1, f1⟩
  refine ws_if (wp_orB (x := to == a) ?_ (fun _ => wp_orB (x := ways.any fun y => y == to) (y := s.xs.any (fPair a to)) ?_ (fun _ => ?_) ⟨rfl, rfl⟩) ?_)
  · repeat walk_at "y"
    exact ⟨rfl, rfl⟩
  · refine wp_tst (wp_ev (ev_bin (ev_v rfl) (ev_v rfl) (op_inI ways rfl)) ⟨_, rfl, ?_, rfl⟩)
    simp
  · refine wp_tst (wp_bin (wp_callE (wp_consA (wp_calls C1 rfl ?_))))
    repeat walk_at "y"
    refine wp_pf (ev_between h.cs.call) (wp_c (wp_eq (find_none (neg := true) h.cs.call _) ⟨_, rfl, ?_, rfl⟩))
    simp
  · unfold sendF
    refine ite2 (fun hc => ?_) (fun hc => ?_)
    · rw [if_pos hc]
      repeat walk_at "y"
      refine wp_mono (busy_ok (bb := bb) (ways := ways) H A (h1.less (by omega)) g.tell C1) ?_
      rintro r m2 ⟨rfl, C2, f2⟩
      exact ⟨rfl, C2, f1.trans f2⟩
    · rw [if_neg hc]
      simp only [Bool.not_eq_true, Bool.or_eq_false_iff] at hc
      refine ws_drop (wp_callE (wp_consA (wp_v rfl (wp_consA (wp_tupE (wp_consA (wp_v rfl (wp_consA (wp_v rfl (wp_consA (wp_tupS (wp_starA (wp_v rfl ⟨ways.map D.int, rfl, ?_⟩)))))))))))))
      repeat walk_at "y"
      refine ⟨by simp; omega, ?_⟩
      repeat walk_at "y"
      have hb4 : b < 4 := by have := g.bn; have := H.n4; omega
      have hl := left_less g.b0 hb4 hw
      have hto : ((ways ++ [b]).any fun y => y == to) = false := by
        rw [List.any_append]
        rw [hc.2.1]
        simpa using fun z : b = to => tb z.symm
      have hq := hcf (ways := ways ++ [b]) (b := to) (s := tellF ws "sent" [a, b, to] hid s) (m := m1) (bb := bb) (h1.less (by omega)) ⟨t0, tn, beq_eq_false_iff_ne.mp hc.1, hc.2.2⟩ hto (by omega) (by simp; omega) C1
      rw [show wayD a hid (ways ++ [b]) = .tup [.int a, .int hid, .tup (ways.map D.int ++ [.int b])] from by simp [wayD]] at hq
      refine wp_mono hq ?_
      rintro r m2 ⟨rfl, C2, f2⟩
      exact ⟨rfl, C2, f1.trans f2⟩
theorem turn_ok (H : Hs n ws) (A : Way n a hid) {FC : List D → Mu → Option (D × Mu)} {cf : List Int → Int → Sc → Sc} {k : Nat} (hcf : CfOk n ws dD a hid e k l le FC cf) {t : Told} (hta : t.2.1 ∈ actws) (ht : t.2.1 = "shut" ∨ (t.2.1 = "send" ∧ t.2.2 = some (lnI t) ∧ 0 ≤ lnI t ∧ lnI t < n ∧ lnI t ≠ b)) (h : Sk n ws (bb + (e + 2)) s) (g : Goal n a b s) (hw : (ways.any fun y => y == b) = false) (hk : left ways ≤ k + 1) (hwl : ways.length + left ways ≤ 4) (C : Crs m l le (houD n ws dD) s) :
    wp (sm_turn_away FC [.ref l, wayD a hid ways, .int b, actD t.2.1 t.2.2] m) fun r m' => r = .non ∧ Crs m' l le (houD n ws dD) (turnF cf ws a hid ways b t s) ∧ Fc l le m m' := by
  refine wp_def rfl ?_
  repeat walk_at "y"
  refine wp_act0 ?_
  repeat walk_at "y"
  refine wp_eq (op_eqS (actws_ok _ hta) (by decide +kernel) _) ⟨_, rfl, ?_⟩
  unfold turnF
  refine ite2 (fun hc => ?_) (fun hc => ?_)
  · rw [if_pos hc]
    refine ws_drop (wp_mt C rfl rfl ?_)
    repeat walk_at "y"
    refine wp_mono (bring_ok (b := bb) H (h.less (by omega)) C (g.call A ring_mem.2.2.2.2.1) (fits_of h.cs.call g.nb) ring_mem2.2.2.2.2.1) ?_
    rintro r m1 ⟨rfl, C1, f1⟩
    exact ⟨rfl, C1, f1⟩
  · rw [if_neg hc]
    rcases ht with z | z
    · rw [z] at hc; exact absurd rfl hc
    · repeat walk_at "y"
      refine wp_ixT (d := .int (lnI t)) (by rw [z.2.1]; rfl) ?_
      repeat walk_at "y"
      refine wp_mono (send_ok H A hcf z.2.2.1 z.2.2.2.1 z.2.2.2.2 h g hw hk hwl C) ?_
      rintro r m1 ⟨rfl, C1, f1⟩
      exact ⟨rfl, C1, f1⟩
end

theorem ws_retN {N : CW.Env → Mu → Prop} {Rt : D → Mu → Prop} {B C : CW.Env → Mu → Prop} {μ : Mu} {env : CW.Env} (q : Rt .non μ) : ws (retN env μ) N Rt B C := ⟨_, _, rfl, q⟩
theorem iteP {c A B : Prop} [Decidable c] (hc : c) (h : A) : if c then A else B := by rw [if_pos hc]; exact h
theorem iteN {c A B : Prop} [Decidable c] (hc : ¬ c) (h : B) : if c then A else B := by rw [if_neg hc]; exact h
theorem wp_told1 {t : Told} {m : Mu} {Q : D → Mu → Prop} (q : Q (actD t.2.1 t.2.2) m) : wp (ixD (toldD t) (.int 1) m) Q := wp_ixT rfl q
theorem wp_tolds {t : Told} {i j : Nat} {m : Mu} {env : CW.Env} {Q : CW.Env → Mu → Prop} (q : Q ((env.set i (some (.int (t.1 : Nat)))).set j (some (actD t.2.1 t.2.2))) m) : wp (tupG 2 (consG (nmG i) (consG (nmG j) nilG)) (toldD t) env m) Q := wp_tupG2 q
section
variable {n : Int} {ws : List Wish} {dD : D} {a hid : Int} {bb e : Nat} {s : Sc} {b : Int} {ways : List Int} {m : Mu} {l le : Nat}
theorem ask_acts (H : Hs n ws) (p : Point) {t : Told} (ht : t ∈ (askR ws p s).1) : t.2.1 ∈ actws := by
  obtain ⟨h1, h2, h3⟩ := askGo_len (xs := s.xs) (night := s.night) (p := p) ws 0 s.mi [] H.ok (fun t ht => nomatch ht)
  exact h3 t ht
theorem used_ok (H : Hs n ws) (A : Way n a hid) {FC : List D → Mu → Option (D × Mu)} {cf : List Int → Int → Sc → Sc} {k : Nat} (hcf : CfOk n ws dD a hid e k l le FC cf) (h : Sk n ws (bb + (e + 2)) s) (g : Goal n a b s) (hw : (ways.any fun y => y == b) = false) (hk : left ways ≤ k + 1) (hwl : ways.length + left ways ≤ 4) (C : Crs m l le (houD n ws dD) s) :
    wp (sm_come_to_used FC [.ref l, wayD a hid ways, .int b] m) fun r m' => r = .non ∧ Crs m' l le (houD n ws dD) (usedF cf ws a hid ways b s) ∧ Fc l le m m' := by
  have h1 := ask_sk H h ⟨"full", .int b, .int a, hid⟩
  have hr := ask_row (ws := ws) (p := ⟨"full", .int b, .int a, hid⟩) (s := s)
  have ha := fun t => ask_acts (s := s) H ⟨"full", .int b, .int a, hid⟩ (t := t)
  refine wp_def rfl ?_
  repeat walk_at "y"
  refine wp_mt C rfl rfl ?_
  repeat walk_at "y"
  refine wp_mono (ask_ok H h C (point_ok1 (k := "full") (me := b) (o := a) (hid := hid) (by decide +kernel) (by decide))) ?_
  rintro r m1 ⟨rfl, C1, f1⟩
  unfold usedF
  generalize (askR ws ⟨"full", .int b, .int a, hid⟩ s).1 = acts at hr ha ⊢
  repeat walk_at "y"
  cases acts with
  | nil =>
    refine iteP rfl ?_
    repeat walk_at "y"
    refine wp_mono (busy_ok (bb := bb) (ways := ways) H A (h1.less (by omega)) g.ask C1) ?_
    rintro r m2 ⟨rfl, C2, f2⟩
    exact ws_retN ⟨rfl, C2, f1.trans f2⟩
  | cons t ts =>
    refine iteN (by simp; omega) ?_
    obtain ⟨told, q⟩ := hr.mem List.mem_cons_self
    have hta := ha t List.mem_cons_self
    repeat walk_at "y"
    refine wp_ixT (d := toldD t) (by simp [atI, ixN]) (wp_c (wp_told1 ?_))
    repeat walk_at "y"
    refine wp_act0 ?_
    repeat walk_at "y"
    refine wp_eq (op_eqS (actws_ok _ hta) (by decide +kernel) _) ⟨_, rfl, ?_⟩
    refine ite2 (fun hc => ?_) (fun hc => ?_)
    · simp only [hc, if_true]
      refine ws_drop (wp_mt C1 rfl rfl ?_)
      repeat walk_at "y"
      refine wp_mono (bring_ok (b := bb) H (h1.less (by omega)) C1 (g.call A ring_mem.2.1) (fits_of h.cs.call g.nb) ring_mem2.2.1) ?_
      rintro r m2 ⟨rfl, C2, f2⟩
      exact ⟨by trivial, C2, f1.trans f2⟩
    · simp only [hc]
      repeat walk_at "y"
      refine wp_mono (turn_ok (bb := bb) H A hcf hta ?_ h1 g.ask hw hk hwl C1) ?_
      · rcases act_full H q with z | z | z
        · exact .inl z
        · exact .inr z
        · rw [z] at hc; exact absurd rfl hc
      · rintro r m2 ⟨rfl, C2, f2⟩
        exact ⟨by trivial, C2, f1.trans f2⟩
theorem drop_cons {α : Type} {xs : List α} {i : Nat} {x : α} (h : xs[i]? = some x) : xs.drop i = x :: xs.drop (i + 1) := by
  obtain ⟨hi, rfl⟩ := List.getElem?_eq_some_iff.mp h
  exact List.drop_eq_getElem_cons hi
theorem come_ok (H : Hs n ws) (A : Way n a hid) : ∀ k : Nat, CfOk n ws dD a hid (eB k) k l le (sm_come k) (comeF ws a hid k)
  | 0 => by
    rename_i ways b s m bb
    intro h g hw hk hwl C
    have hb4 : b < 4 := by have := g.bn; have := H.n4; omega
    have := left_less g.b0 hb4 hw
    omega
  | k + 1 => by
    rename_i ways b s m bb
    intro h g hw hk hwl C
    have he : TEvent (evD "comes" [a, b] hid) := ev2 (by decide +kernel)
    have h1 : Sk n ws (bb + (eB k + 22)) (tellF ws "comes" [a, b] hid s) := tell_sk H (h.less (by unfold eB; omega)) he
    have h2 := ask_sk H h1 ⟨"in", .int b, .int a, hid⟩
    have hl := (ask_len H h1 ⟨"in", .int b, .int a, hid⟩).2
    have hal : Also n a b (askR ws ⟨"in", .int b, .int a, hid⟩ (tellF ws "comes" [a, b] hid s)).1 (askS ws ⟨"in", .int b, .int a, hid⟩ (tellF ws "comes" [a, b] hid s)) := row_also H ask_row rfl
    have ha := fun t => ask_acts (s := tellF ws "comes" [a, b] hid s) H ⟨"in", .int b, .int a, hid⟩ (t := t)
    have hcf : CfOk n ws dD a hid (eB k) k l le (sm_come k) (comeF ws a hid k) := come_ok H A k
    refine wp_def rfl ?_
    repeat walk_at "y"
    refine wp_mt C rfl rfl ?_
    repeat walk_at "y"
    refine wp_mono (tell_ok (b := bb + (eB k + 22)) (ls := [a, b]) H (h.less (by unfold eB; omega)) C he) ?_
    rintro r m1 ⟨rfl, C1, f1⟩
    refine ws_seq (ws_asg (wp_mt C1 rfl rfl ?_))
    repeat walk_at "y"
    refine wp_mono (ask_ok H h1 C1 (point_ok1 (k := "in") (me := b) (o := a) (hid := hid) (by decide +kernel) (by decide))) ?_
    rintro r m2 ⟨rfl, C2, f2⟩
    refine wp_nm ?_
    unfold comeF
    have g2 : Goal n a b (askS ws ⟨"in", .int b, .int a, hid⟩ (tellF ws "comes" [a, b] hid s)) := g.tell.ask
    generalize (askS ws ⟨"in", .int b, .int a, hid⟩ (tellF ws "comes" [a, b] hid s)) = s2 at hal C2 h2 g2 ⊢
    generalize (askR ws ⟨"in", .int b, .int a, hid⟩ (tellF ws "comes" [a, b] hid s)).1 = acts at hl hal ha ⊢
    have hl20 : acts.length ≤ 20 := by have := H.len; omega
    refine ws_seq (ws_for_fix (wp_seqIT (wp_v rfl ⟨acts.map toldD, rfl, acts.map toldD, rfl, fun i ev q => ∃ x7 x8 s', ev = [some (.ref l), some (wayD a hid ways), some (.int b), some (.tup (acts.map toldD)), some (.int a), some (.int hid), some (.tup (ways.map D.int)), x7, x8] ∧ Crs q l le (houD n ws dD) s' ∧ Sk n ws (bb + (eB k + 2) + (acts.length - i)) s' ∧ Goal n a b s' ∧ Also n a b (acts.drop i) s' ∧ Fc l le m q ∧ alsoF ws a hid (acts.drop i) s' = alsoF ws a hid acts s2 ∧ lastA (acts.drop i) = lastA acts, ?_, ?_, ?_⟩)))
    · exact ⟨none, none, s2, rfl, C2, h2.less (by omega), g2, hal, f1.trans f2, rfl, rfl⟩
    · rintro i d ev q hd ⟨x7, x8, s', rfl, C3, h3, g3, al3, f3, ea, el⟩
      rw [List.getElem?_map] at hd
      obtain ⟨t, ht, rfl⟩ := Option.map_eq_some_iff.mp hd
      have hil : i < acts.length := (List.getElem?_eq_some_iff.mp ht).1
      rw [drop_cons ht] at ea el al3
      have hta := ha t (List.mem_of_getElem? ht)
      refine wp_tolds ?_
      repeat walk_at "y"
      refine wp_act0 ?_
      repeat walk_at "y"
      refine wp_eq (op_neS (actws_ok _ hta) (by decide +kernel) _) ⟨_, rfl, ?_⟩
      refine ite2 (fun hc => ?_) (fun hc => ?_)
      · have hne : t.2.1 ≠ "also" := by simpa using hc
        have hb : (t.2.1 == "also") = false := by simpa using hc
        have el : some t = lastA acts := by rw [← el]; unfold lastA; rw [List.find?_cons_of_pos (by simp [hb])]
        have ea : s' = alsoF ws a hid acts s2 := by rw [← ea]; unfold alsoF; rw [if_neg (by simp [hb])]
        repeat walk_at "y"
        refine wp_mono (turn_ok (bb := bb) H A hcf hta (al3.last t List.mem_cons_self hne) (h3.less (by omega)) g3 hw hk hwl C3) ?_
        rintro r m4 ⟨rfl, C4, f4⟩
        refine ws_retN ⟨rfl, ?_, f3.trans f4⟩
        unfold inF
        rw [← el, ← ea]
        exact C4
      · have hb : (t.2.1 == "also") = true := by simpa using hc
        have hta' : t.2.1 = "also" := by simpa using hb
        have el : lastA (acts.drop (i + 1)) = lastA acts := by rw [← el]; unfold lastA; rw [List.find?_cons_of_neg (by simp [hb])]
        have ea : alsoF ws a hid (acts.drop (i + 1)) (bringF ws (callD a (lnI t) "ring" hid) s') = alsoF ws a hid acts s2 := (if_pos hb).symm.trans ea
        obtain ⟨z1, z2, z3, z4, z5, z6⟩ := al3.each t List.mem_cons_self hta'
        refine ws_sk (ws_drop (wp_mt C3 rfl rfl ?_))
        repeat walk_at "y"
        refine wp_ixT (d := .int (lnI t)) (by rw [z1]; rfl) ?_
        repeat walk_at "y"
        have gl := also_goal al3 hta'
        have h3' : Sk n ws (bb + (eB k + 2) + (acts.length - (i + 1)) + 1) s' := h3.less (by omega)
        refine wp_mono (bring_ok H h3' C3 (gl.call A ring_mem.1) (fits_of h3.cs.call gl.nb) ring_mem2.1) ?_
        rintro r m4 ⟨rfl, C4, f4⟩
        exact ⟨_, _, _, rfl, C4, goal_sk H A h3' gl ring_mem.1 ring_mem2.1, g3.bring z4 z5, al3.tail hta', f3.trans f4, ea, el⟩
    · rintro ev q ⟨x7, x8, s', rfl, C3, h3, g3, al3, f3, ea, el⟩
      rw [List.length_map, List.drop_length] at ea el
      have el : lastA acts = none := el.symm
      have ea : s' = alsoF ws a hid acts s2 := ea
      have h3 : Sk n ws (bb + (eB k + 2)) s' := h3.less (by omega)
      unfold inF
      rw [el, ← ea]
      refine ws_if (wp_tst (wp_callE (wp_consA (wp_calls C3 rfl ?_))))
      repeat walk_at "y"
      refine wp_pf (ev_is_free h3.cs.call) ⟨_, rfl, ?_⟩
      refine ite2 (fun hc => ?_) (fun hc => ?_)
      · simp only [hc, if_true]
        refine ws_drop (wp_mt C3 rfl rfl ?_)
        repeat walk_at "y"
        refine wp_mono (bring_ok (b := bb) H (h3.less (by omega)) C3 (g3.call A ring_mem.1) (fits_of h3.cs.call g3.nb) ring_mem2.1) ?_
        rintro r m4 ⟨rfl, C4, f4⟩
        exact ⟨by trivial, C4, f3.trans f4⟩
      · simp only [hc]
        repeat walk_at "y"
        refine wp_mono (used_ok (bb := bb) H A hcf h3 g3 hw hk hwl C3) ?_
        rintro r m4 ⟨rfl, C4, f4⟩
        exact ⟨by trivial, C4, f3.trans f4⟩
end

def chg (c : D) (w : Str) : D := callD (cI c) (cJ c) w (cH c)
def talkEnds : List Str := ["ring", "show", "busy", "shut"]
def outF (ws : List Wish) (a to : Int) (s : Sc) : Sc :=
  if ((askR ws ⟨"out", .int a, .int to, 0⟩ s).1.any fun t => t.2.1 == "bar") = true then bringF ws (callD a to "shut" (if ((askR ws ⟨"out", .int a, .int to, 0⟩ s).1.any fun t => t.2.1 == "hide") = true then 1 else 0)) (askS ws ⟨"out", .int a, .int to, 0⟩ s)
  else comeF ws a (if ((askR ws ⟨"out", .int a, .int to, 0⟩ s).1.any fun t => t.2.1 == "hide") = true then 1 else 0) 8 [] to (askS ws ⟨"out", .int a, .int to, 0⟩ s)
def dialF (ws : List Wish) (a to : Int) (s : Sc) : Sc := if ((s.xs.filter (fIn a)).all (fHeld a) && !s.xs.any (fPair a to)) = true then outF ws a to s else s
def answerF (ws : List Wish) (c : D) (s : Sc) : Sc := endF ws ((bringF ws (chg c "talk") s).xs.filter fun x => cI x == cI c && talkEnds.any fun y => y == cW x) (bringF ws (chg c "talk") s)
def takeF (ws : List Wish) (line : Int) (s : Sc) : Sc :=
  match s.xs.find? (fRing line) with
  | none => s
  | some c => if s.xs.any (fTalk line) = true then s else if (cW c == "back") = true then outF ws line (cJ c) (liftF c s) else answerF ws c s
def hold1 (line : Int) (c : D) : D := chg c (if (cI c == line) = true then "hold0" else "hold1")
def holdGo (ws : List Wish) (line : Int) : List D → Sc → Sc
  | [], s => s
  | c :: cs, s => holdGo ws line cs (tellF ws "holds" [line, farI line c] 0 (placeF (hold1 line c) s))
def holdF (ws : List Wish) (line : Int) (s : Sc) : Sc := holdGo ws line (s.xs.filter (fTalk line)) s
def dropE (ws : List Wish) (line : Int) (kept : Bool) (s : Sc) : Sc := endF ws ((s.xs.filter (fIn line)).filter fun c => !(fRing line c || (fShown line c || (kept && fHeld line c)))) s
def dropF (ws : List Wish) (line : Int) (s : Sc) : Sc :=
  if ((askR ws ⟨"drop", .int line, .non, 0⟩ s).1.isEmpty) = true then dropE ws line false (askS ws ⟨"drop", .int line, .non, 0⟩ s) else dropE ws line true (holdF ws line (askS ws ⟨"drop", .int line, .non, 0⟩ s))
def swapF (ws : List Wish) (line : Int) (s : Sc) : Sc :=
  match (holdF ws line s).xs.find? (fShown line) with
  | some c => answerF ws c (holdF ws line s)
  | none => match (s.xs.filter (fHeld line)).find? fun c => !(holdF ws line s).xs.any (fTalk (farI line c)) with
    | some c => bringF ws (chg c "talk") (holdF ws line s)
    | none => holdF ws line s
def joinGo (ws : List Wish) (line : Int) : List D → Sc → Sc
  | [], s => s
  | c :: cs, s => joinGo ws line cs (if (!s.xs.any (fTalk (farI line c))) = true then bringF ws (chg c "talk") s else s)
def joinF (ws : List Wish) (line : Int) (s : Sc) : Sc := tellF ws "joins" [line] 0 (joinGo ws line (s.xs.filter (fHeld line)) s)
def flashF (ws : List Wish) (line : Int) (s : Sc) : Sc :=
  match (askR ws ⟨"flash", .int line, .non, 0⟩ s).1 with
  | [] => askS ws ⟨"flash", .int line, .non, 0⟩ s
  | t :: _ => if (t.2.1 == "swap") = true then swapF ws line (askS ws ⟨"flash", .int line, .non, 0⟩ s) else joinF ws line (askS ws ⟨"flash", .int line, .non, 0⟩ s)
def longF (ws : List Wish) (c : D) (s : Sc) : Sc :=
  match (askR ws ⟨"long", .int (cJ c), .int (cI c), cH c⟩ (tellF ws "waits" [cI c, cJ c] (cH c) s)).1 with
  | [] => askS ws ⟨"long", .int (cJ c), .int (cI c), cH c⟩ (tellF ws "waits" [cI c, cJ c] (cH c) s)
  | t :: _ => turnF (comeF ws (cI c) (cH c) 8) ws (cI c) (cH c) [] (cJ c) t (liftF c (askS ws ⟨"long", .int (cJ c), .int (cI c), cH c⟩ (tellF ws "waits" [cI c, cJ c] (cH c) s)))
def ringsGo (ws : List Wish) : List D → Sc → Sc
  | [], s => s
  | c :: cs, s => ringsGo ws cs (if (s.xs.any (ceqB c)) = true then longF ws c s else s)
def waitF (ws : List Wish) (s : Sc) : Sc := endF ws (s.xs.filter fun c => cW c == "back") (ringsGo ws (s.xs.filter fun c => cW c == "ring") s)
def turnS (s : Sc) : Sc := { s with night := 1 - s.night }
def nightF (ws : List Wish) (s : Sc) : Sc := tellF ws (if ((turnS s).night == 1) = true then "night" else "day") [] 0 (turnS s)
def shownGo (ws : List Wish) : List D → Sc → Sc
  | [], s => s
  | c :: cs, s => shownGo ws cs (if (!s.xs.any (fTalk (cJ c)) && !s.xs.any (fRing (cJ c))) = true then bringF ws (chg c "ring") s else s)
def shownF (ws : List Wish) (s : Sc) : Sc := shownGo ws (s.xs.filter fun c => cW c == "show") s
def backF (ws : List Wish) (line : Int) (s : Sc) : Sc :=
  match (askR ws ⟨"free", .non, .int line, 0⟩ s).1 with
  | [] => askS ws ⟨"free", .non, .int line, 0⟩ s
  | t :: _ => bringF ws (callD ((ws.getD t.1 ⟨0, [], .non, false⟩).me) line "back" 0) (askS ws ⟨"free", .non, .int line, 0⟩ s)
def freeGo (ws : List Wish) (xs0 : List D) : List Int → Sc → Sc
  | [], s => s
  | x :: ls, s => freeGo ws xs0 ls (if (xs0.any (fIn x) && !s.xs.any (fIn x)) = true then backF ws x (tellF ws "frees" [x] 0 s) else s)
inductive Deed
  | dial (a b : Int) | take (a : Int) | drop (a : Int) | flash (a : Int) | wait | turn
def Deed.w : Deed → Str
  | .dial _ _ => "dial" | .take _ => "take" | .drop _ => "drop" | .flash _ => "flash" | .wait => "wait" | .turn => "turn"
def Deed.ls : Deed → List Int
  | .dial a b => [a, b] | .take a => [a] | .drop a => [a] | .flash a => [a] | .wait => [] | .turn => []
def Deed.d (d : Deed) : D := .tup (.str d.w :: d.ls.map D.int)
def doF (ws : List Wish) : Deed → Sc → Sc
  | .dial a b, s => dialF ws a b s
  | .take a, s => takeF ws a s
  | .drop a, s => dropF ws a s
  | .flash a, s => flashF ws a s
  | .wait, s => waitF ws s
  | .turn, s => nightF ws s
def Deed.Ok (n : Int) : Deed → Prop
  | .dial a b => 0 ≤ a ∧ a < n ∧ 0 ≤ b ∧ b < n ∧ a ≠ b
  | .take a => 0 ≤ a ∧ a < n
  | .drop a => 0 ≤ a ∧ a < n
  | .flash a => 0 ≤ a ∧ a < n
  | .wait => True
  | .turn => True
def lines (n : Int) : List Int := (List.range n.toNat).map fun k : Nat => (k : Int)
def stepF (n : Int) (ws : List Wish) (d : Deed) (s : Sc) : Sc := tellF ws "done" [] 0 (freeGo ws s.xs (lines n) (shownF ws (doF ws d (tellF ws d.w d.ls 0 s))))
def scD (s : Sc) : D := .tup [.tup s.xs, .int s.night, .tup (s.mi.map D.int), .tup s.tl]
section
variable {n : Int} {ws : List Wish} {bb : Nat} {s : Sc} {xs : List D}
theorem chg_call {c : D} (hc : Call1 n c) {w : Str} (hw : w ∈ hows) : Call1 n (chg c w) := by
  obtain ⟨i, j, w0, h, rfl, a, b, c, d, e, _, f, g⟩ := hc.ex
  exact ⟨i, j, w, h, rfl, a, b, c, d, e, hw, f, g⟩
theorem key_chg {c x : D} {w : Str} : keyB (chg c w) x = keyB c x := rfl
theorem apart_chg {c x : D} (hc : Call1 n c) {w : Str} : Apart x (chg c w) ↔ Apart x c := by
  obtain ⟨i, j, w0, h, rfl, _⟩ := hc.ex
  exact Iff.rfl
/-- a call that stands, changed, fits -/
theorem fits_chg (h : CS n xs) {c : D} (hc : c ∈ xs) {w : Str} : Fits (chg c w) xs := fun x hx => by
  by_cases e : x = c
  · subst e
    exact .inr (by rw [key_chg]; unfold keyB; simp)
  · refine .inl ((apart_chg (h.call c hc)).mpr ?_)
    obtain ⟨i, hi⟩ := List.getElem?_of_mem hx
    obtain ⟨j, hj⟩ := List.getElem?_of_mem hc
    obtain ⟨hi1, rfl⟩ := List.getElem?_eq_some_iff.mp hi
    obtain ⟨hj1, rfl⟩ := List.getElem?_eq_some_iff.mp hj
    have hp := List.pairwise_iff_getElem.mp h.apart
    rcases Nat.lt_trichotomy i j with z | z | z
    · exact hp i j hi1 hj1 z
    · subst z; exact absurd rfl e
    · exact apart_sym (hp j i hj1 hi1 z)
/-- a call that stands has a key of its own -/
theorem key_eq (h : CS n xs) {c x : D} (hc : c ∈ xs) (hx : x ∈ xs) (hk : keyB c x = true) : x = c := by
  rcases Classical.em (x = c) with z | z
  · exact z
  · have hf : Apart x c := by
      obtain ⟨i, hi⟩ := List.getElem?_of_mem hx
      obtain ⟨j, hj⟩ := List.getElem?_of_mem hc
      obtain ⟨hi1, rfl⟩ := List.getElem?_eq_some_iff.mp hi
      obtain ⟨hj1, rfl⟩ := List.getElem?_eq_some_iff.mp hj
      have hp := List.pairwise_iff_getElem.mp h.apart
      rcases Nat.lt_trichotomy i j with y | y | y
      · exact hp i j hi1 hj1 y
      · subst y; exact absurd rfl z
      · exact apart_sym (hp j i hj1 hi1 y)
    obtain ⟨i, j, w, q, rfl, _⟩ := (h.call c hc).ex
    obtain ⟨i', j', w', q', rfl, _⟩ := (h.call x hx).ex
    simp only [keyB, cI, cJ, Bool.and_eq_true, beq_iff_eq] at hk
    obtain ⟨rfl, rfl⟩ := hk
    exact absurd rfl hf
theorem mem_place {c x : D} : x ∈ (placeF c s).xs ↔ (x ∈ s.xs ∧ keyB c x = false) ∨ x = c := by
  show x ∈ srtD _ ↔ _
  rw [(srt_perm _).mem_iff, List.mem_append, List.mem_filter, List.mem_singleton]
  simp
theorem mem_lift {c x : D} : x ∈ (liftF c s).xs ↔ x ∈ s.xs ∧ ceqB c x = false := by
  show x ∈ List.filter _ _ ↔ _
  rw [List.mem_filter]
  simp
/-- another call stays, where one is changed -/
theorem stay_chg (h : CS n s.xs) {c x : D} {w : Str} (hc : c ∈ s.xs) (hx : x ∈ s.xs) (hne : x ≠ c) : x ∈ (placeF (chg c w) s).xs := mem_place.mpr (.inl ⟨hx, by
  rw [key_chg]
  cases hk : keyB c x with
  | false => rfl
  | true => exact absurd (key_eq h hc hx hk) hne⟩)
theorem chg_sk (H : Hs n ws) (h : Sk n ws (bb + 1) s) {c : D} (hc : c ∈ s.xs) {w : Str} (hw : w ∈ hows) (hb : w ∈ bringW) : Sk n ws bb (bringF ws (chg c w) s) := bring_sk H h (chg_call (h.cs.call c hc) hw) (fits_chg h.cs hc) hb
theorem answer_sk (H : Hs n ws) (h : Sk n ws (bb + 7) s) {c : D} (hc : c ∈ s.xs) : Sk n ws bb (answerF ws c s) := by
  have h1 : Sk n ws (bb + 6) (bringF ws (chg c "talk") s) := chg_sk H h hc ring_mem.2.2.1 ring_mem2.2.2.1
  refine end_sk H _ (h1.less ?_)
  have := h1.cs.six H.n4
  have := List.length_filter_le (fun x => cI x == cI c && talkEnds.any fun y => y == cW x) (bringF ws (chg c "talk") s).xs
  omega
theorem out_way {a to : Int} (a0 : 0 ≤ a) (an : a < n) : Way n a (if ((askR ws ⟨"out", .int a, .int to, 0⟩ s).1.any fun t => t.2.1 == "hide") = true then 1 else 0) := ⟨a0, an, by split <;> omega, by split <;> omega⟩
theorem out_sk (H : Hs n ws) (h : Sk n ws (bb + 185) s) {a to : Int} (a0 : 0 ≤ a) (an : a < n) (g : Goal n a to s) : Sk n ws bb (outF ws a to s) := by
  unfold outF
  split
  · exact goal_sk H (out_way a0 an) (ask_sk H (h.less (by omega)) _) g.ask ring_mem.2.2.2.2.1 ring_mem2.2.2.2.2.1
  · exact come_sk H (out_way a0 an) 8 (ask_sk H (h.less (by simp [eB])) _) g.ask
theorem dial_sk (H : Hs n ws) (h : Sk n ws (bb + 185) s) {a to : Int} (a0 : 0 ≤ a) (an : a < n) (t0 : 0 ≤ to) (tn : to < n) (hne : a ≠ to) : Sk n ws bb (dialF ws a to s) := by
  unfold dialF
  split
  · rename_i hc
    simp only [Bool.and_eq_true, Bool.not_eq_true'] at hc
    exact out_sk H h a0 an ⟨t0, tn, Ne.symm hne, hc.2⟩
  · exact h.less (by omega)
theorem ring_in {line : Int} {c : D} (hc : Call1 n c) (h : fRing line c = true) : cW c = "ring" ∧ cJ c = line ∨ cW c = "back" ∧ cI c = line := by
  obtain ⟨i, j, w, q, rfl, _⟩ := hc.ex
  simp only [fRing, Bool.or_eq_true, Bool.and_eq_true, beq_iff_eq] at h
  rcases h with h | h
  · exact .inl ⟨h.2, h.1⟩
  · exact .inr ⟨h.2, h.1⟩
/-- where a call is lifted, its lines have none between them -/
theorem lift_goal (h : CS n s.xs) {c : D} (hc : c ∈ s.xs) : (liftF c s).xs.any (fPair (cI c) (cJ c)) = false := by
  rw [List.any_eq_false]
  intro x hx hp
  obtain ⟨hx1, hx2⟩ := mem_lift.mp hx
  have hne : x ≠ c := fun e => by
    rw [(ceq_eq (h.call c hc) (h.call x hx1)).mpr e] at hx2; cases hx2
  have ha : Apart x (chg c "ring") ∨ keyB (chg c "ring") x = true := fits_chg h hc x hx1
  rcases ha with z | z
  · refine (apart_chg (h.call c hc)).mp z ?_
    obtain ⟨i, j, w, q, rfl, _⟩ := (h.call c hc).ex
    obtain ⟨i', j', w', q', rfl, _⟩ := (h.call x hx1).ex
    rw [pair_call] at hp
    simp only [cI, cJ, Bool.or_eq_true, Bool.and_eq_true, beq_iff_eq] at hp
    simp only [pairD, Option.some.injEq]
    split <;> split <;> simp only [Prod.mk.injEq] <;> omega
  · exact hne (key_eq h hc hx1 z)
theorem lift_goal2 (h : CS n s.xs) {c : D} (hc : c ∈ s.xs) : Goal n (cI c) (cJ c) (liftF c s) := by
  have := lift_goal h hc
  obtain ⟨i, j, w, q, rfl, a1, a2, a3, a4, a5, _⟩ := (h.call c hc).ex
  exact ⟨a3, a4, fun z => a5 z.symm, this⟩
theorem take_sk (H : Hs n ws) (h : Sk n ws (bb + 185) s) {line : Int} (l0 : 0 ≤ line) (ln : line < n) : Sk n ws bb (takeF ws line s) := by
  unfold takeF
  split
  · exact h.less (by omega)
  · rename_i c hf
    have hc := List.mem_of_find?_eq_some hf
    have hr := List.find?_some hf
    split
    · exact h.less (by omega)
    · split
      · rename_i hb
        rcases ring_in (h.cs.call c hc) hr with z | z
        · rw [z.1] at hb; exact absurd hb (by decide)
        · have g := lift_goal2 h.cs hc
          rw [z.2] at g
          exact out_sk H (lift_sk h) l0 ln g
      · exact answer_sk H (h.less (by omega)) hc
theorem hold_hows (line : Int) (c : D) : (if (cI c == line) = true then ("hold0" : Str) else "hold1") ∈ hows := by
  split
  · exact ring_mem.2.2.2.2.2.2.1
  · exact ring_mem.2.2.2.2.2.2.2
theorem holds_ev {line x : Int} : TEvent (evD "holds" [line, x] 0) := ev2 (by decide +kernel)
theorem holdGo_sk (H : Hs n ws) {line : Int} : ∀ (cs : List D) {s : Sc} {bb : Nat}, cs.Nodup → (∀ c ∈ cs, c ∈ s.xs) → Sk n ws (bb + cs.length) s → Sk n ws bb (holdGo ws line cs s)
  | [], _, _, _, _, h => h
  | c :: cs, s, bb, hd, hm, h => by
    have hc := hm c List.mem_cons_self
    have h1 : Sk n ws (bb + cs.length + 1) (placeF (hold1 line c) s) := place_sk H (h.less (by simp; omega)) (chg_call (h.cs.call c hc) (hold_hows line c)) (fits_chg h.cs hc)
    exact holdGo_sk H cs (List.nodup_cons.mp hd).2 (fun x hx => stay_chg h.cs hc (hm x (List.mem_cons_of_mem _ hx)) (fun e => (List.nodup_cons.mp hd).1 (e ▸ hx))) (tell_sk H h1 holds_ev)
theorem holdGo_stay (H : Hs n ws) {line : Int} {x : D} : ∀ (cs : List D) {s : Sc} {bb : Nat}, cs.Nodup → (∀ c ∈ cs, c ∈ s.xs) → Sk n ws (bb + cs.length) s → x ∈ s.xs → x ∉ cs → x ∈ (holdGo ws line cs s).xs
  | [], _, _, _, _, _, hx, _ => hx
  | c :: cs, s, bb, hd, hm, h, hx, hn => by
    have hc := hm c List.mem_cons_self
    have h1 : Sk n ws (bb + cs.length + 1) (placeF (hold1 line c) s) := place_sk H (h.less (by simp; omega)) (chg_call (h.cs.call c hc) (hold_hows line c)) (fits_chg h.cs hc)
    refine holdGo_stay H (bb := bb) cs (List.nodup_cons.mp hd).2 (fun x hx => stay_chg h.cs hc (hm x (List.mem_cons_of_mem _ hx)) (fun e => (List.nodup_cons.mp hd).1 (e ▸ hx))) (tell_sk H h1 holds_ev) ?_ (fun z => hn (List.mem_cons_of_mem _ z))
    exact stay_chg h.cs hc hx fun e => hn (e ▸ List.mem_cons_self)
theorem cs_nodup (h : CS n xs) : xs.Nodup := h.srt.imp fun {a b} q e => by subst e; rw [kLt_irr] at q; cases q
theorem filt6 (H : Hs n ws) (h : Sk n ws bb s) (p : D → Bool) : (s.xs.filter p).length ≤ 6 := by
  have := h.cs.six H.n4
  have := List.length_filter_le p s.xs
  omega
theorem hold_sk (H : Hs n ws) (h : Sk n ws (bb + 6) s) {line : Int} : Sk n ws bb (holdF ws line s) :=
  holdGo_sk H _ ((cs_nodup h.cs).filter _) (fun c hc => (List.mem_filter.mp hc).1) (h.less (by have := filt6 H h (fTalk line); omega))
theorem dropE_sk (H : Hs n ws) (h : Sk n ws (bb + 6) s) {line : Int} {k : Bool} : Sk n ws bb (dropE ws line k s) := by
  refine end_sk H _ (h.less ?_)
  have := filt6 H h (fIn line)
  have := List.length_filter_le (fun c => !(fRing line c || (fShown line c || (k && fHeld line c)))) (s.xs.filter (fIn line))
  omega
theorem drop_sk (H : Hs n ws) (h : Sk n ws (bb + 12) s) {line : Int} : Sk n ws bb (dropF ws line s) := by
  unfold dropF
  split
  · exact dropE_sk H (ask_sk H (h.less (by omega)) _)
  · exact dropE_sk H (hold_sk H (ask_sk H (h.less (by omega)) _))
theorem talk_held {line : Int} {c : D} (hc : Call1 n c) (h : fHeld line c = true) : fTalk line c = false := by
  obtain ⟨i, j, w, q, rfl, _⟩ := hc.ex
  simp only [fHeld, Bool.or_eq_true, Bool.and_eq_true, beq_iff_eq] at h
  simp only [fTalk]
  rcases h with h | h <;> rw [h.2] <;> simp <;> exact fun z => absurd z (by decide)
/-- what is held stays, where the talks are held -/
theorem held_stay (H : Hs n ws) (h : Sk n ws (bb + 6) s) {line : Int} {c : D} (hc : c ∈ s.xs.filter (fHeld line)) : c ∈ (holdF ws line s).xs := by
  obtain ⟨h1, h2⟩ := List.mem_filter.mp hc
  refine holdGo_stay (bb := bb) H _ ((cs_nodup h.cs).filter _) (fun c hc => (List.mem_filter.mp hc).1) (h.less (by have := filt6 H h (fTalk line); omega)) h1 fun z => ?_
  have := (List.mem_filter.mp z).2
  rw [talk_held (h.cs.call c h1) h2] at this; cases this
theorem swap_sk (H : Hs n ws) (h : Sk n ws (bb + 13) s) {line : Int} : Sk n ws bb (swapF ws line s) := by
  have h1 : Sk n ws (bb + 7) (holdF ws line s) := hold_sk H (h.less (by omega))
  unfold swapF
  split
  · rename_i c hf
    exact answer_sk H h1 (List.mem_of_find?_eq_some hf)
  · split
    · rename_i c hf
      exact chg_sk H (h1.less (by omega)) (held_stay H h (List.mem_of_find?_eq_some hf)) ring_mem.2.2.1 ring_mem2.2.2.1
    · exact h1.less (by omega)
theorem joinGo_sk (H : Hs n ws) {line : Int} : ∀ (cs : List D) {s : Sc} {bb : Nat}, cs.Nodup → (∀ c ∈ cs, c ∈ s.xs) → Sk n ws (bb + cs.length) s → Sk n ws bb (joinGo ws line cs s)
  | [], _, _, _, _, h => h
  | c :: cs, s, bb, hd, hm, h => by
    have hc := hm c List.mem_cons_self
    unfold joinGo
    split
    · exact joinGo_sk H cs (List.nodup_cons.mp hd).2 (fun x hx => stay_chg h.cs hc (hm x (List.mem_cons_of_mem _ hx)) (fun e => (List.nodup_cons.mp hd).1 (e ▸ hx))) (chg_sk H (h.less (by simp only [List.length_cons]; omega)) hc ring_mem.2.2.1 ring_mem2.2.2.1)
    · exact joinGo_sk H cs (List.nodup_cons.mp hd).2 (fun x hx => hm x (List.mem_cons_of_mem _ hx)) (h.less (by simp only [List.length_cons]; omega))
theorem join_sk (H : Hs n ws) (h : Sk n ws (bb + 7) s) {line : Int} : Sk n ws bb (joinF ws line s) :=
  tell_sk H (joinGo_sk (bb := bb + 1) H _ ((cs_nodup h.cs).filter _) (fun c hc => (List.mem_filter.mp hc).1) (h.less (by have := filt6 H h (fHeld line); omega))) (evD_ok (k := 1) (by decide +kernel) rfl)
theorem flash_sk (H : Hs n ws) (h : Sk n ws (bb + 13) s) {line : Int} : Sk n ws bb (flashF ws line s) := by
  unfold flashF
  split
  · exact ask_sk H (h.less (by omega)) _
  · split
    · exact swap_sk H (ask_sk H (h.less (by omega)) _)
    · exact join_sk H (ask_sk H (h.less (by omega)) _)
theorem row_one {p : Point} {ts : List Told} (h : Row ws xs p ts) (hn : ∀ t ∈ ts, goOn t.2.1 = false) : ts = [] ∨ ∃ t, ts = [t] := by
  cases h with
  | nil => exact .inl rfl
  | @snoc ts t _ hg _ =>
    cases ts with
    | nil => exact .inr ⟨t, rfl⟩
    | cons u us =>
      have h1 := hg u List.mem_cons_self
      have h2 := hn u (by simp)
      rw [h1] at h2; cases h2
theorem waits_ev {a b h : Int} : TEvent (evD "waits" [a, b] h) := ev2 (by decide +kernel)
theorem call_way {c : D} (hc : Call1 n c) : Way n (cI c) (cH c) := by
  obtain ⟨i, j, w, q, rfl, a1, a2, a3, a4, a5, _, a6, a7⟩ := hc.ex
  exact ⟨a1, a2, a6, a7⟩
theorem long_sk (H : Hs n ws) (h : Sk n ws (bb + 188) s) {c : D} (hc : c ∈ s.xs) : Sk n ws bb (longF ws c s) := by
  have h1 : Sk n ws (bb + 187) (tellF ws "waits" [cI c, cJ c] (cH c) s) := tell_sk H h waits_ev
  have hr := ask_row (ws := ws) (p := ⟨"long", .int (cJ c), .int (cI c), cH c⟩) (s := tellF ws "waits" [cI c, cJ c] (cH c) s)
  unfold longF
  split
  · exact ask_sk H (h1.less (by omega)) _
  · rename_i t ts he
    rw [he] at hr
    obtain ⟨told, q⟩ := hr.mem List.mem_cons_self
    exact turn_sk (e := eB 8) H (call_way (h.cs.call c hc)) (come_sk H (call_way (h.cs.call c hc)) 8) (act_long H q) (lift_sk (ask_sk H (h1.less (by simp [eB])) _)) (lift_goal2 (s := askS ws ⟨"long", .int (cJ c), .int (cI c), cH c⟩ (tellF ws "waits" [cI c, cJ c] (cH c) s)) h.cs hc)
theorem ceq_any (h : CS n xs) {c : D} (hc : Call1 n c) : xs.any (ceqB c) = true ↔ c ∈ xs := by
  rw [List.any_eq_true]
  constructor
  · rintro ⟨x, hx, e⟩
    exact (ceq_eq hc (h.call x hx)).mp e ▸ hx
  · exact fun h1 => ⟨c, h1, (ceq_eq hc hc).mpr rfl⟩
theorem rings_sk (H : Hs n ws) : ∀ (cs : List D) {s : Sc} {bb : Nat}, (∀ c ∈ cs, Call1 n c) → Sk n ws (bb + 188 * cs.length) s → Sk n ws bb (ringsGo ws cs s)
  | [], _, _, _, h => h
  | c :: cs, s, bb, hm, h => by
    unfold ringsGo
    split
    · rename_i hc
      exact rings_sk H cs (fun x hx => hm x (List.mem_cons_of_mem _ hx)) (long_sk H (h.less (by simp; omega)) ((ceq_any h.cs (hm c List.mem_cons_self)).mp hc))
    · exact rings_sk H cs (fun x hx => hm x (List.mem_cons_of_mem _ hx)) (h.less (by simp; omega))
theorem wait_sk (H : Hs n ws) (h : Sk n ws (bb + 1200) s) : Sk n ws bb (waitF ws s) := by
  have f1 := filt6 H h (fun c => cW c == "ring")
  have f2 := filt6 H h (fun c => cW c == "back")
  exact end_sk H _ ((rings_sk (bb := bb + 6) H _ (fun c hc => h.cs.call c (List.mem_filter.mp hc).1) (h.less (by omega))).less (by omega))
theorem night_ev {s : Sc} : TEvent (evD (if ((turnS s).night == 1) = true then "night" else "day") [] 0) := by
  split
  · exact evD_ok (k := 0) (by decide +kernel) rfl
  · exact evD_ok (k := 0) (by decide +kernel) rfl
theorem turnS_sk (h : Sk n ws bb s) : Sk n ws bb (turnS s) := ⟨h.cs, h.mi, h.tl, h.st, h.ev, h.te, h.br⟩
theorem night_sk (H : Hs n ws) (h : Sk n ws (bb + 1) s) : Sk n ws bb (nightF ws s) := tell_sk H (turnS_sk h) night_ev
theorem shownGo_sk (H : Hs n ws) : ∀ (cs : List D) {s : Sc} {bb : Nat}, cs.Nodup → (∀ c ∈ cs, c ∈ s.xs) → Sk n ws (bb + cs.length) s → Sk n ws bb (shownGo ws cs s)
  | [], _, _, _, _, h => h
  | c :: cs, s, bb, hd, hm, h => by
    have hc := hm c List.mem_cons_self
    unfold shownGo
    split
    · exact shownGo_sk H cs (List.nodup_cons.mp hd).2 (fun x hx => stay_chg h.cs hc (hm x (List.mem_cons_of_mem _ hx)) (fun e => (List.nodup_cons.mp hd).1 (e ▸ hx))) (chg_sk H (h.less (by simp only [List.length_cons]; omega)) hc ring_mem.1 ring_mem2.1)
    · exact shownGo_sk H cs (List.nodup_cons.mp hd).2 (fun x hx => hm x (List.mem_cons_of_mem _ hx)) (h.less (by simp only [List.length_cons]; omega))
theorem shown_sk (H : Hs n ws) (h : Sk n ws (bb + 6) s) : Sk n ws bb (shownF ws s) :=
  shownGo_sk H _ ((cs_nodup h.cs).filter _) (fun c hc => (List.mem_filter.mp hc).1) (h.less (by have := filt6 H h (fun c => cW c == "show"); omega))
/-- an act at a free point -/
theorem act_free (H : Hs n ws) {line : Int} {t : Told} {told : List Told} (q : Act1 ws xs ⟨"free", .non, .int line, 0⟩ t told) : ∃ w, ws[t.1]? = some w ∧ t.2.1 = "ring" ∧ w.me ≠ line ∧ 0 ≤ w.me ∧ w.me < n ∧ xs.any (fIn w.me) = false := by
  obtain ⟨w, r, h1, hw, ha, rn, hk, e1, e2, hp, hc⟩ := act_rule H q
  have hr : r.w = "ring" := by
    rcases rn.k_free hk with z | z
    · exact z
    · exact absurd z hp
  have hne : w.me ≠ line := by
    unfold askedB at ha
    rw [if_pos rfl] at ha
    intro z
    rw [z] at ha
    simp [stEq] at ha
  rw [e1, hr] at hc
  unfold canB at hc
  rw [if_neg (by decide), if_neg (by decide), if_pos rfl] at hc
  exact ⟨w, h1, e1.trans hr, hne, (H.me w hw).1, (H.me w hw).2, by simpa using hc⟩
theorem free_goal (hx : ∀ x ∈ xs, Call1 n x) {me line : Int} (hs : s.xs = xs) (l0 : 0 ≤ line) (ln : line < n) (hne : me ≠ line) (h1 : xs.any (fIn me) = false) (h2 : xs.any (fIn line) = false) : Goal n me line s := by
  refine ⟨l0, ln, Ne.symm hne, ?_⟩
  rw [hs, List.any_eq_false]
  intro x hm hp
  have a1 := List.any_eq_false.mp h1 x hm
  have a2 := List.any_eq_false.mp h2 x hm
  obtain ⟨i, j, w, q, rfl, _⟩ := (hx x hm).ex
  rw [pair_call] at hp
  simp only [fIn, Bool.or_eq_true, Bool.and_eq_true, beq_iff_eq, not_or] at hp a1 a2
  rcases hp with z | z
  · exact a1.1 z.1.symm
  · exact a2.1 z.1.symm
theorem free_row (H : Hs n ws) {line : Int} {ts : List Told} (h : Row ws xs ⟨"free", .non, .int line, 0⟩ ts) : ts = [] ∨ ∃ t, ts = [t] := by
  refine row_one h fun t ht => ?_
  obtain ⟨told, q⟩ := h.mem ht
  obtain ⟨w, _, e, _⟩ := act_free H q
  rw [e]; rfl
theorem back_goal (H : Hs n ws) (h : Sk n ws bb s) {line : Int} (l0 : 0 ≤ line) (ln : line < n) (hf : s.xs.any (fIn line) = false) {t : Told} (ht : t ∈ (askR ws ⟨"free", .non, .int line, 0⟩ s).1) : Goal n ((ws.getD t.1 ⟨0, [], .non, false⟩).me) line (askS ws ⟨"free", .non, .int line, 0⟩ s) ∧ Way n ((ws.getD t.1 ⟨0, [], .non, false⟩).me) 0 ∧ ∃ w, ws[t.1]? = some w ∧ (ws.getD t.1 ⟨0, [], .non, false⟩) = w := by
  obtain ⟨told, q⟩ := (ask_row (ws := ws) (p := ⟨"free", .non, .int line, 0⟩) (s := s)).mem ht
  obtain ⟨w, hw, e, hne, m0, mn, hi⟩ := act_free H q
  have ew : ws.getD t.1 ⟨0, [], .non, false⟩ = w := by rw [List.getD_eq_getElem?_getD, hw]; rfl
  rw [ew]
  exact ⟨free_goal (xs := s.xs) (s := askS ws ⟨"free", .non, .int line, 0⟩ s) h.cs.call rfl l0 ln hne hi hf, ⟨m0, mn, by omega, by omega⟩, w, hw, rfl⟩
theorem back_sk (H : Hs n ws) (h : Sk n ws (bb + 1) s) {line : Int} (l0 : 0 ≤ line) (ln : line < n) (hf : s.xs.any (fIn line) = false) : Sk n ws bb (backF ws line s) := by
  have hb := fun t => back_goal (t := t) H h l0 ln hf
  unfold backF
  split
  · exact ask_sk H (h.less (by omega)) _
  · rename_i t ts he
    rw [he] at hb
    obtain ⟨g, A, _⟩ := hb t List.mem_cons_self
    exact goal_sk H A (ask_sk H h _) g ring_mem.2.2.2.2.2.1 ring_mem2.2.2.2.2.2
theorem frees_ev {x : Int} : TEvent (evD "frees" [x] 0) := evD_ok (k := 1) (by decide +kernel) rfl
theorem freeGo_sk (H : Hs n ws) {xs0 : List D} : ∀ (ls : List Int) {s : Sc} {bb : Nat}, (∀ x ∈ ls, 0 ≤ x ∧ x < n) → Sk n ws (bb + 2 * ls.length) s → Sk n ws bb (freeGo ws xs0 ls s)
  | [], _, _, _, h => h
  | x :: ls, s, bb, hm, h => by
    unfold freeGo
    split
    · rename_i hc
      simp only [Bool.and_eq_true, Bool.not_eq_true'] at hc
      obtain ⟨l0, ln⟩ := hm x List.mem_cons_self
      have h1 : Sk n ws (bb + 2 * ls.length + 1) (tellF ws "frees" [x] 0 s) := tell_sk H (h.less (by simp; omega)) frees_ev
      exact freeGo_sk H ls (fun y hy => hm y (List.mem_cons_of_mem _ hy)) (back_sk H h1 l0 ln hc.2)
    · exact freeGo_sk H ls (fun y hy => hm y (List.mem_cons_of_mem _ hy)) (h.less (by simp; omega))
theorem do_sk (H : Hs n ws) (h : Sk n ws (bb + 1200) s) {d : Deed} (hd : d.Ok n) : Sk n ws bb (doF ws d s) := by
  cases d with
  | dial a b => exact dial_sk H (h.less (by omega)) hd.1 hd.2.1 hd.2.2.1 hd.2.2.2.1 hd.2.2.2.2
  | take a => exact take_sk H (h.less (by omega)) hd.1 hd.2
  | drop a => exact drop_sk H (h.less (by omega))
  | flash a => exact flash_sk H (h.less (by omega))
  | wait => exact wait_sk H h
  | turn => exact night_sk H (h.less (by omega))
theorem mem_lines {x : Int} (h : x ∈ lines n) : 0 ≤ x ∧ x < n := by
  unfold lines at h
  obtain ⟨k, hk, rfl⟩ := List.mem_map.mp h
  have := List.mem_range.mp hk
  omega
theorem lines_len (H : Hs n ws) : (lines n).length ≤ 4 := by
  unfold lines
  have := H.n4
  simp
  omega
theorem deed_ev (d : Deed) : TEvent (evD d.w d.ls 0) := by
  cases d
  · exact evD_ok (w := "dial") (k := 2) (by decide +kernel) rfl
  · exact evD_ok (w := "take") (k := 1) (by decide +kernel) rfl
  · exact evD_ok (w := "drop") (k := 1) (by decide +kernel) rfl
  · exact evD_ok (w := "flash") (k := 1) (by decide +kernel) rfl
  · exact evD_ok (w := "wait") (k := 0) (by decide +kernel) rfl
  · exact evD_ok (w := "turn") (k := 0) (by decide +kernel) rfl
theorem step1_sk (H : Hs n ws) (h : Sk n ws (bb + 1300) s) {d : Deed} (hd : d.Ok n) : Sk n ws (bb + 20) (doF ws d (tellF ws d.w d.ls 0 s)) := do_sk H (tell_sk (b := bb + 1220) H (h.less (by omega)) (deed_ev d)) hd
theorem step2_sk (H : Hs n ws) (h : Sk n ws (bb + 1300) s) {d : Deed} (hd : d.Ok n) : Sk n ws (bb + 10) (shownF ws (doF ws d (tellF ws d.w d.ls 0 s))) := shown_sk H ((step1_sk H h hd).less (by omega))
theorem step3_sk (H : Hs n ws) (h : Sk n ws (bb + 1300) s) {d : Deed} (hd : d.Ok n) : Sk n ws (bb + 1) (freeGo ws s.xs (lines n) (shownF ws (doF ws d (tellF ws d.w d.ls 0 s)))) := freeGo_sk H (lines n) (fun x hx => mem_lines hx) ((step2_sk H h hd).less (by have := lines_len (n := n) (ws := ws) H; omega))
theorem done_ev : TEvent (evD "done" [] 0) := evD_ok (k := 0) (by decide +kernel) rfl
theorem step_sk (H : Hs n ws) (h : Sk n ws (bb + 1300) s) {d : Deed} (hd : d.Ok n) : Sk n ws bb (stepF n ws d s) := tell_sk H (step3_sk H h hd) done_ev
end

def headW : D → D
  | .tup [_, .tup (w :: _)] => w
  | _ => .non
theorem headW_map {acts : List Told} : (acts.map toldD).map headW = (acts.map fun t => t.2.1).map D.str := by
  rw [List.map_map, List.map_map]; rfl
theorem words_any {acts : List Told} {w : Str} : ((acts.map fun t => t.2.1).any fun y => y == w) = acts.any fun t => t.2.1 == w := by rw [List.any_map]; rfl
/-- [act[0] for number, act in acts] -/
theorem wp_words {Q : D → Mu → Prop} {fi : Im} {env : CW.Env} {m0 : Mu} {i j : Nat} {acts : List Told} (hj : ∀ a b : Option D, (((wipeE env [i, j]).set i a).set j b)[j]? = some b) (hl : acts.length ≤ 1000)
    (h : wp (fi env m0) fun it μ1 => (it.fuel = acts.length + 1 ∧ ∀ k m, Gr μ1 m → it.item k m = some (acts.map toldD)[k]?) ∧ ∀ m, Gr μ1 m → m[μ1.length]? = some (.lst ((acts.map fun t => t.2.1).map D.str)) → Q (.ref μ1.length) m) : wp (lcE fi (tupG 2 (consG (nmG i) (consG (nmG j) nilG))) yesT (CW.bin ixD (vD j) (cD (.int 0))) [i, j] env m0) Q := by
  refine wp_lcE (p := fun _ => true) (k := headW) (wp_mono h ?_)
  rintro it μ1 ⟨⟨hf, hi⟩, q⟩
  refine ⟨acts.map toldD, by rw [List.length_map]; exact hf, hi, by rw [List.length_map]; omega, fun x hx m g => ?_, fun m g e => q m g ?_⟩
  · obtain ⟨t, _, rfl⟩ := List.mem_map.mp hx
    refine wp_tolds ⟨Gr.refl, evt_g evt_yes, fun _ => ev_g (ev_bin (ev_v (hj _ _)) ev_c (op_ixT atI0))⟩
  · rw [e, List.filter_eq_self.mpr fun _ _ => rfl, headW_map]
theorem wp_ifI {t : Tm} {x y : Int} {Q : D → Mu → Prop} {env : CW.Env} {m : Mu} (h : wp (t env m) fun b m1 => Q (.int (if b = true then x else y)) m1) : wp (ifV t (cD (.int x)) (cD (.int y)) env m) Q := by
  refine wp_ifV (wp_mono h fun b m1 q => ?_)
  cases b with
  | true => exact iteT (wp_c q)
  | false => exact iteF (wp_c q)
theorem wp_ifX {t : Tm} {x y : Str} {Q : D → Mu → Prop} {env : CW.Env} {m : Mu} (h : wp (t env m) fun b m1 => Q (.str (if b = true then x else y)) m1) : wp (ifV t (cD (.str x)) (cD (.str y)) env m) Q := by
  refine wp_ifV (wp_mono h fun b m1 q => ?_)
  cases b with
  | true => exact iteT (wp_c q)
  | false => exact iteF (wp_c q)
theorem words_ok {acts : List Told} (ha : ∀ t ∈ acts, t.2.1 ∈ actws) : ∀ y ∈ (acts.map fun t => t.2.1), PyData.strOk y = true := fun y hy => by
  obtain ⟨t, ht, rfl⟩ := List.mem_map.mp hy
  exact actws_ok _ (ha t ht)
theorem Crs.lt {m : Mu} {l le : Nat} {hD : D} {s : Sc} (C : Crs m l le hD s) : l < m.length ∧ le < m.length := ⟨(List.getElem?_eq_some_iff.mp C.obj).1, (List.getElem?_eq_some_iff.mp C.ev).1⟩
section
variable {n : Int} {ws : List Wish} {dD : D} {bb : Nat} {s : Sc} {m : Mu} {l le : Nat}
theorem ev_changed {c : D} (hc : Call1 n c) {w : Str} : PF sm_changed [c, .str w] (chg c w) := by
  obtain ⟨i, j, w0, h, rfl, _⟩ := hc.ex
  refine pf_def (np := 2) (n := 2) rfl ?_
  exact evs_ret (ev_tup (eva_cons (ev_bin (ev_v rfl) ev_c (op_ixT rfl)) (eva_cons (ev_bin (ev_v rfl) ev_c (op_ixT rfl)) (eva_cons (ev_v rfl) (eva_cons (ev_bin (ev_v rfl) ev_c (op_ixT rfl)) eva_nil)))))
theorem out_ok (H : Hs n ws) (h : Sk n ws (bb + 185) s) {a to : Int} (a0 : 0 ≤ a) (an : a < n) (g : Goal n a to s) (C : Crs m l le (houD n ws dD) s) :
    wp (sm_call_out [.ref l, .int a, .int to] m) fun r m' => r = .non ∧ Crs m' l le (houD n ws dD) (outF ws a to s) ∧ Fc l le m m' := by
  have h1 := ask_sk H h ⟨"out", .int a, .int to, 0⟩
  have ha := fun t => ask_acts (s := s) H ⟨"out", .int a, .int to, 0⟩ (t := t)
  have hl := (ask_len H h ⟨"out", .int a, .int to, 0⟩).2
  have A := out_way (ws := ws) (s := s) (to := to) a0 an
  unfold outF
  refine wp_def rfl ?_
  refine ws_seq (ws_asg (wp_words (acts := (askR ws ⟨"out", .int a, .int to, 0⟩ s).1) (fun _ _ => rfl) (by have := H.len; omega) (wp_seqIT (wp_mt C rfl rfl ?_))))
  repeat walk_at "y"
  refine wp_mono (ask_ok H h C (point_ok1 (k := "out") (me := a) (o := to) (hid := 0) (by decide +kernel) (by decide))) ?_
  rintro r m1 ⟨rfl, C1, f1⟩
  refine ⟨_, rfl, ⟨by show _ + 1 = _; rw [List.length_map], fun _ _ _ => rfl⟩, fun m2 g2 hw => wp_nm ?_⟩
  have C2 := C1.gr g2
  have f2 := f1.gr g2
  generalize (askR ws ⟨"out", .int a, .int to, 0⟩ s).1 = acts at ha hl A hw ⊢
  refine ws_seq (ws_asg (wp_ifI (wp_tst (wp_bin (wp_c (wp_v rfl (wp_inLS hw (by decide +kernel) (words_ok ha) ⟨_, rfl, ?_⟩)))))))
  rw [Bool.false_xor, words_any]
  refine wp_nm (ws_if (wp_tst (wp_bin (wp_c (wp_v rfl (wp_inLS hw (by decide +kernel) (words_ok ha) ⟨_, rfl, ?_⟩))))))
  rw [Bool.false_xor, words_any]
  refine ite2 (fun hc => ?_) (fun hc => ?_)
  · rw [if_pos hc]
    refine ws_drop (wp_mt C2 rfl rfl ?_)
    repeat walk_at "y"
    refine wp_mono (bring_ok (b := bb) H (h1.less (by omega)) C2 (g.call A ring_mem.2.2.2.2.1) (fits_of h.cs.call g.nb) ring_mem2.2.2.2.2.1) ?_
    rintro r m3 ⟨rfl, C3, f3⟩
    exact ⟨rfl, C3, f2.trans f3⟩
  · rw [if_neg hc]
    repeat walk_at "y"
    refine wp_mono (come_ok H A 8 (ways := []) (bb := bb) (h1.less (by simp [eB])) g.ask rfl (by decide) (by decide) C2) ?_
    rintro r m3 ⟨rfl, C3, f3⟩
    exact ⟨rfl, C3, f2.trans f3⟩
theorem dial_ok (H : Hs n ws) (h : Sk n ws (bb + 185) s) {a to : Int} (a0 : 0 ≤ a) (an : a < n) (t0 : 0 ≤ to) (tn : to < n) (hne : a ≠ to) (C : Crs m l le (houD n ws dD) s) :
    wp (sm_dial [.ref l, .tup [.int a, .int to]] m) fun r m' => r = .non ∧ Crs m' l le (houD n ws dD) (dialF ws a to s) ∧ Fc l le m m' := by
  unfold dialF
  refine wp_def rfl ?_
  refine ws_seq (ws_asg (wp_v rfl (wp_tupGL rfl (wp_consG (wp_nm (wp_consG (wp_nm (wp_nilG ?_))))))))
  refine ws_if (wp_andB (x := (s.xs.filter (fIn a)).all (fHeld a)) (y := !s.xs.any (fPair a to)) ?_ (fun _ => ?_) ?_)
  · refine wp_tst (wp_callE (wp_consA (wp_calls C rfl ?_)))
    repeat walk_at "y"
    exact wp_pf (ev_free_hands h.cs.call) ⟨_, rfl, rfl, rfl⟩
  · refine wp_tst (wp_bin (wp_callE (wp_consA (wp_calls C rfl ?_))))
    repeat walk_at "y"
    refine wp_pf (ev_between h.cs.call) (wp_c (wp_eq (find_none (neg := false) h.cs.call _) ⟨_, rfl, ?_, rfl⟩))
    simp
  · refine ite2 (fun hc => ?_) (fun hc => ?_)
    · rw [if_pos hc]
      simp only [Bool.and_eq_true, Bool.not_eq_true'] at hc
      repeat walk_at "y"
      exact wp_mono (out_ok H h a0 an ⟨t0, tn, Ne.symm hne, hc.2⟩ C) fun _ _ q => ⟨rfl, q.2⟩
    · rw [if_neg hc]
      exact ws_sk ⟨rfl, C, Fc.refl⟩
theorem answer_ok (H : Hs n ws) (h : Sk n ws (bb + 7) s) {c : D} (hc : c ∈ s.xs) (C : Crs m l le (houD n ws dD) s) :
    wp (sm_answer [.ref l, c] m) fun r m' => r = .non ∧ Crs m' l le (houD n ws dD) (answerF ws c s) ∧ Fc l le m m' := by
  have hcc := h.cs.call c hc
  have h1 : Sk n ws (bb + 6) (bringF ws (chg c "talk") s) := chg_sk H h hc ring_mem.2.2.1 ring_mem2.2.2.1
  have f6 := filt6 H h1 (fun x => cI x == cI c && talkEnds.any fun y => y == cW x)
  have h6 := h1.cs.six H.n4
  unfold answerF
  refine wp_def rfl ?_
  refine ws_seq (ws_drop (wp_mt C rfl rfl ?_))
  repeat walk_at "y"
  refine wp_pf (ev_changed hcc) ?_
  repeat walk_at "y"
  refine wp_mono (bring_ok H h C (chg_call hcc ring_mem.2.2.1) (fits_chg h.cs hc) ring_mem2.2.2.1) ?_
  rintro r m1 ⟨rfl, C1, f1⟩
  refine ws_drop (wp_mt C1 rfl rfl (wp_consA ?_))
  refine wp_lcP (p := fun x => cI x == cI c && talkEnds.any fun y => y == cW x) (k := id) (wp_seqIT (wp_calls C1 rfl ⟨_, rfl, (bringF ws (chg c "talk") s).xs, rfl, by omega, fun x hx => ?_, fun x hx _ => ev_v rfl, ?_⟩))
  · obtain ⟨i, j, w, hh, rfl, _, _, _, _, _, hw, _⟩ := (h1.cs.call x hx).ex
    obtain ⟨i0, j0, w0, hh0, rfl, _⟩ := hcc.ex
    refine evt_and (evt_tst (ev_bin (ev_bin (ev_v rfl) ev_c (op_ixT rfl)) (ev_bin (ev_v rfl) ev_c (op_ixT rfl)) op_eqI)) fun _ => evt_tst (ev_to (ev_bin (ev_bin (ev_v rfl) ev_c (op_ixT rfl)) ev_c (op_inS talkEnds (ok_hows hw) (by decide +kernel) rfl)) ?_)
    rw [Bool.false_xor]; rfl
  rw [List.map_id]
  refine wp_nilA ?_
  have hlt := C1.lt
  have C2 := C1.push (.lst ((bringF ws (chg c "talk") s).xs.filter fun x => cI x == cI c && talkEnds.any fun y => y == cW x))
  refine wp_mono (end_ok (b := bb) H (h1.less (by omega)) C2 (fun x hx => h1.cs.call x (List.mem_filter.mp hx).1) (get_last _ _) (by omega) (by omega)) ?_
  rintro r m3 ⟨rfl, C3, f3⟩
  exact ⟨rfl, C3, (f1.push _).trans f3⟩
theorem take_ok (H : Hs n ws) (h : Sk n ws (bb + 185) s) {line : Int} (l0 : 0 ≤ line) (ln : line < n) (C : Crs m l le (houD n ws dD) s) :
    wp (sm_take [.ref l, .tup [.int line]] m) fun r m' => r = .non ∧ Crs m' l le (houD n ws dD) (takeF ws line s) ∧ Fc l le m m' := by
  unfold takeF
  refine wp_def rfl ?_
  repeat walk_at "y"
  refine wp_fld C.obj rfl ?_
  repeat walk_at "y"
  refine wp_pf (ev_rings_at h.cs.call) (wp_nm ?_)
  cases hf : s.xs.find? (fRing line) with
  | none =>
    repeat walk_at "y"
    refine wp_eq (op_isN (neg := false) _) ⟨_, rfl, ?_⟩
    refine iteT ?_
    exact iteT (ws_retN ⟨rfl, C, Fc.refl⟩)
  | some c =>
    have hc := List.mem_of_find?_eq_some hf
    have hr := List.find?_some hf
    have hcc := h.cs.call c hc
    have hri := ring_in hcc hr
    have hlg := lift_goal2 h.cs hc
    obtain ⟨i, j, w, hh, rfl, _, _, _, _, _, hw, _⟩ := hcc.ex
    have hcc := h.cs.call _ hc
    rw [Option.getD_some]
    repeat walk_at "y"
    refine wp_eq (op_isT (neg := false) _) ⟨_, rfl, ?_⟩
    refine iteF ?_
    refine wp_tst (wp_callE (wp_consA (wp_calls C rfl ?_)))
    repeat walk_at "y"
    refine wp_pf (ev_has_talk h.cs.call) ⟨_, rfl, ?_⟩
    refine ite2 (fun ht => ?_) (fun ht => ?_)
    · simp only [ht, if_true]
      exact ws_retN ⟨by trivial, C, Fc.refl⟩
    · simp only [ht]
      repeat walk_at "y"
      refine wp_eq (op_eqS (ok_hows hw) (by decide +kernel) _) ⟨_, rfl, ?_⟩
      refine ite2 (fun hb => ?_) (fun hb => ?_)
      · have hb' : (cW (callD i j w hh) == "back") = true := hb
        simp only [hb', if_true]
        rcases hri with z | z
        · rw [z.1] at hb'; exact absurd hb' (by decide)
        · have hi : i = line := z.2
          refine ws_seq (ws_drop (wp_mt C rfl rfl ?_))
          repeat walk_at "y"
          refine wp_mono (lift_ok H h C hcc) ?_
          rintro r m1 ⟨rfl, C1, f1⟩
          repeat walk_at "y"
          rw [z.2] at hlg
          refine wp_mono (out_ok (bb := bb) H (lift_sk h) l0 ln hlg C1) ?_
          rintro r m2 ⟨rfl, C2, f2⟩
          exact ⟨by trivial, C2, f1.trans f2⟩
      · have hb' : ¬ (cW (callD i j w hh) == "back") = true := hb
        simp only [hb']
        repeat walk_at "y"
        refine wp_mono (answer_ok (bb := bb) H (h.less (by omega)) hc C) ?_
        rintro r m2 ⟨rfl, C2, f2⟩
        exact ⟨by trivial, C2, f2⟩
theorem hold_ok (H : Hs n ws) (h : Sk n ws (bb + 6) s) {line : Int} (C : Crs m l le (houD n ws dD) s) :
    wp (sm_hold_talks [.ref l, .int line] m) fun r m' => r = .non ∧ Crs m' l le (houD n ws dD) (holdF ws line s) ∧ Fc l le m m' := by
  have f6 := filt6 H h (fTalk line)
  have hnd : (s.xs.filter (fTalk line)).Nodup := (cs_nodup h.cs).filter _
  unfold holdF
  refine wp_def rfl ?_
  refine ws_seq (ws_asg (wp_callE (wp_consA (wp_calls C rfl ?_))))
  repeat walk_at "y"
  refine wp_pf (ev_talks_of h.cs.call (by have := h.cs.six H.n4; omega)) (wp_nm ?_)
  have hsub : ∀ c ∈ s.xs.filter (fTalk line), c ∈ s.xs := fun c hc => (List.mem_filter.mp hc).1
  generalize s.xs.filter (fTalk line) = cs at f6 hnd hsub ⊢
  refine ws_for_fix (wp_seqIT (wp_v rfl ⟨cs, rfl, cs, rfl, fun i e q => ∃ x3 s', e = [some (.ref l), some (.int line), some (.tup cs), x3] ∧ Crs q l le (houD n ws dD) s' ∧ Sk n ws (bb + (cs.length - i)) s' ∧ (∀ c ∈ cs.drop i, c ∈ s'.xs) ∧ Fc l le m q ∧ holdGo ws line (cs.drop i) s' = holdGo ws line cs s, ?_, ?_, ?_⟩))
  · exact ⟨none, s, rfl, C, h.less (by omega), hsub, Fc.refl, rfl⟩
  · rintro i c e q hci ⟨x3, s', rfl, C1, h1, hs1, f1, e1⟩
    have hil : i < cs.length := (List.getElem?_eq_some_iff.mp hci).1
    have hnd' : (cs.drop i).Nodup := hnd.sublist (List.drop_sublist _ _)
    rw [drop_cons hci] at hs1 e1 hnd'
    have hc := hs1 c List.mem_cons_self
    have hcc := h1.cs.call c hc
    have h1' : Sk n ws (bb + (cs.length - (i + 1)) + 1) (placeF (hold1 line c) s') := place_sk H (h1.less (by omega)) (chg_call hcc (hold_hows line c)) (fits_chg h1.cs hc)
    have hk : ∀ x ∈ cs.drop (i + 1), x ∈ (placeF (hold1 line c) s').xs := fun x hx => stay_chg h1.cs hc (hs1 x (List.mem_cons_of_mem _ hx)) (fun e => (List.nodup_cons.mp hnd').1 (e ▸ hx))
    have ech : ∀ w, PF sm_changed [c, .str w] (chg c w) := fun w => ev_changed hcc
    have eo := ev_other (me := line) hcc
    have hd : hold1 line c = chg c (if (cI c == line) = true then "hold0" else "hold1") := rfl
    have hcall := chg_call (w := if (cI c == line) = true then "hold0" else "hold1") hcc (hold_hows line c)
    have hfit := fits_chg (w := if (cI c == line) = true then "hold0" else "hold1") h1.cs hc
    obtain ⟨ci, cj, cw, ch, rfl, _⟩ := hcc.ex
    refine wp_nm (ws_seq (ws_drop (wp_mt C1 rfl rfl ?_)))
    refine wp_consA (wp_callE (wp_consA (wp_v rfl (wp_consA (wp_ifX (wp_tst ?_))))))
    repeat walk_at "y"
    refine wp_pf (ech _) ?_
    repeat walk_at "y"
    refine wp_mono (place_ok H h1 C1 hcall) ?_
    rintro r m2 ⟨rfl, C2, f2⟩
    refine ws_drop (wp_mt C2 rfl rfl ?_)
    repeat walk_at "y"
    refine wp_pf eo ?_
    repeat walk_at "y"
    refine wp_mono (tell_ok (w := "holds") (ls := [line, farI line (callD ci cj cw ch)]) (hid := 0) H h1' C2 holds_ev) ?_
    rintro r m3 ⟨rfl, C3, f3⟩
    exact ⟨_, _, rfl, C3, tell_sk H h1' holds_ev, hk, (f1.trans f2).trans f3, e1⟩
  · rintro e q ⟨x3, s', rfl, C1, h1, hs1, f1, e1⟩
    rw [List.drop_length] at e1
    have e1 : s' = holdGo ws line cs s := e1
    subst e1
    exact ⟨rfl, C1, f1⟩
end

section
variable {n : Int} {ws : List Wish} {dD : D} {bb : Nat} {s : Sc} {m : Mu} {l le : Nat}
theorem point_ok2 {k : Str} {me : Int} (hk : k ∈ kinds8) (hf : k = "flash" ∨ k = "drop") : (Point.mk k (.int me) .non 0).Ok := ⟨hk, .inr ⟨me, rfl⟩, .inl rfl, fun z => by subst z; rcases hf with z | z <;> exact absurd z (by decide), fun _ => hf⟩
theorem point_ok3 {o : Int} : (Point.mk "free" .non (.int o) 0).Ok := ⟨by show ("free" : Str) ∈ kinds8; decide +kernel, .inl rfl, .inr ⟨o, rfl⟩, fun _ => rfl, fun z => nomatch z⟩
theorem ev_stays {c : D} (hc : Call1 n c) {line : Int} {k : Bool} : PF sm_stays_at_drop [c, .int line, .bl k] (.bl (fRing line c || (fShown line c || (k && fHeld line c)))) := by
  obtain ⟨i, j, w, h, rfl, _, _, _, _, _, hw, _⟩ := hc.ex
  refine pf_def (np := 3) (n := 3) rfl ?_
  exact evs_ret (ev_orV (ev_call (eva_cons (ev_v rfl) (eva_cons (ev_v rfl) eva_nil)) (ev_is_ringing hw)) fun _ => ev_orV (ev_call (eva_cons (ev_v rfl) (eva_cons (ev_v rfl) eva_nil)) (ev_is_shown hw)) fun _ => ev_andV (ev_v rfl) fun _ => ev_call (eva_cons (ev_v rfl) (eva_cons (ev_v rfl) eva_nil)) (ev_is_held hw))
theorem dropE_ok (H : Hs n ws) (h : Sk n ws (bb + 6) s) {line : Int} {k : Bool} (C : Crs m l le (houD n ws dD) s) {x1 x4 x5 : Option D} {Q : D → Mu → Prop} (q : ∀ m', Crs m' l le (houD n ws dD) (dropE ws line k s) → Fc l le m m' → Q .non m') :
    CW.ws (seqS (asgS (lcE (seqI (callE sm_calls_of (consA (una (fldD "Course" "calls") (vD 0)) (consA (vD 2) nilA)))) (nmG 5) (notT (tst (callE sm_stays_at_drop (consA (vD 5) (consA (vD 2) (consA (vD 3) nilA)))))) (vD 5) [5]) (nmG 4)) (dropS (metO "Course" "end" sm_Course_end [] (vD 0) (consA (vD 4) nilA))) [some (.ref l), x1, some (.int line), some (.bl k), x4, x5] m) (fun _ m' => Q .non m') Q (fun _ _ => False) (fun _ _ => False) := by
  have h6 := h.cs.six H.n4
  have f6 := filt6 H h (fIn line)
  have f7 := List.length_filter_le (fun c => !(fRing line c || (fShown line c || (k && fHeld line c)))) (s.xs.filter (fIn line))
  refine ws_seq (ws_asg (wp_lcP (p := fun c => !(fRing line c || (fShown line c || (k && fHeld line c)))) (k := id) (wp_seqIT (wp_callE (wp_consA (wp_calls C rfl ?_))))))
  repeat walk_at "y"
  refine wp_pf (ev_calls_of h.cs.call (by omega)) ⟨_, rfl, s.xs.filter (fIn line), rfl, by omega, fun x hx => ?_, fun x hx _ => ev_v rfl, ?_⟩
  · exact evt_not (evt_tst (ev_call (eva_cons (ev_v rfl) (eva_cons (ev_v rfl) (eva_cons (ev_v rfl) eva_nil))) (ev_stays (h.cs.call x (List.mem_filter.mp hx).1))))
  rw [List.map_id]
  have hlt := C.lt
  have C2 := C.push (.lst ((s.xs.filter (fIn line)).filter fun c => !(fRing line c || (fShown line c || (k && fHeld line c)))))
  refine wp_nm (ws_drop (wp_mt C2 rfl rfl ?_))
  repeat walk_at "y"
  refine wp_mono (end_ok (b := bb) H (h.less (by omega)) C2 (fun x hx => h.cs.call x (List.mem_filter.mp (List.mem_filter.mp hx).1).1) (get_last _ _) (by omega) (by omega)) ?_
  rintro r m3 ⟨rfl, C3, f3⟩
  exact q m3 C3 ((Fc.refl.push _).trans f3)
theorem drop_ok (H : Hs n ws) (h : Sk n ws (bb + 12) s) {line : Int} (C : Crs m l le (houD n ws dD) s) :
    wp (sm_drop [.ref l, .tup [.int line]] m) fun r m' => r = .non ∧ Crs m' l le (houD n ws dD) (dropF ws line s) ∧ Fc l le m m' := by
  have h1 := ask_sk H h ⟨"drop", .int line, .non, 0⟩
  unfold dropF
  refine wp_def rfl ?_
  repeat walk_at "y"
  refine wp_mt C rfl rfl ?_
  repeat walk_at "y"
  refine wp_mono (ask_ok H h C (point_ok2 (k := "drop") (me := line) (by decide +kernel) (.inr rfl))) ?_
  rintro r m1 ⟨rfl, C1, f1⟩
  generalize (askR ws ⟨"drop", .int line, .non, 0⟩ s).1 = acts at ⊢
  repeat walk_at "y"
  cases acts with
  | nil =>
    refine iteN (by simp) (ws_sk ?_)
    exact dropE_ok (bb := bb) (Q := fun r m' => r = .non ∧ Crs m' l le (houD n ws dD) (dropE ws line false (askS ws ⟨"drop", .int line, .non, 0⟩ s)) ∧ Fc l le m m') H (h1.less (by omega)) C1 fun m' c f => ⟨rfl, c, f1.trans f⟩
  | cons t ts =>
    have hd : decide ((0 : Int) < (((t :: ts).map toldD).length : Nat)) = true := by simp
    rw [hd]
    refine iteT ?_
    repeat walk_at "y"
    refine wp_mono (hold_ok (bb := bb + 6) H h1 C1) ?_
    rintro r m2 ⟨rfl, C2, f2⟩
    exact dropE_ok (Q := fun r m' => r = .non ∧ Crs m' l le (houD n ws dD) (dropE ws line true (holdF ws line (askS ws ⟨"drop", .int line, .non, 0⟩ s))) ∧ Fc l le m m') H (hold_sk H h1) C2 fun m' c f => ⟨rfl, c, (f1.trans f2).trans f⟩
theorem swap_ok (H : Hs n ws) (h : Sk n ws (bb + 13) s) {line : Int} (C : Crs m l le (houD n ws dD) s) :
    wp (sm_swap [.ref l, .int line] m) fun r m' => r = .non ∧ Crs m' l le (houD n ws dD) (swapF ws line s) ∧ Fc l le m m' := by
  have h6 := h.cs.six H.n4
  have h1 : Sk n ws (bb + 7) (holdF ws line s) := hold_sk H (h.less (by omega))
  have hh := fun c => held_stay (line := line) (c := c) H (h.less (by omega) : Sk n ws (bb + 6) s)
  unfold swapF
  refine wp_def rfl ?_
  refine ws_seq (ws_asg (wp_callE (wp_consA (wp_calls C rfl ?_))))
  repeat walk_at "y"
  refine wp_pf (ev_holds_of h.cs.call (by omega)) ?_
  repeat walk_at "y"
  refine wp_mono (hold_ok (bb := bb + 7) H (h.less (by omega)) C) ?_
  rintro r m1 ⟨rfl, C1, f1⟩
  refine ws_seq (ws_asg (wp_callE (wp_consA (wp_calls C1 rfl ?_))))
  repeat walk_at "y"
  refine wp_pf (ev_shown_to h1.cs.call) (wp_nm ?_)
  cases hf : (holdF ws line s).xs.find? (fShown line) with
  | some c =>
    have hc := List.mem_of_find?_eq_some hf
    obtain ⟨i, j, w, q, e, _⟩ := (h1.cs.call c hc).ex
    rw [Option.getD_some]
    refine ws_seq (ws_if (wp_tst (wp_bin (wp_v rfl (wp_c (wp_eq (by rw [e]; exact op_isT (neg := true) _) ⟨_, rfl, iteT ?_⟩))))))
    repeat walk_at "y"
    refine wp_mono (answer_ok (bb := bb) H h1 hc C1) ?_
    rintro r m2 ⟨rfl, C2, f2⟩
    exact ws_retN ⟨rfl, C2, f1.trans f2⟩
  | none =>
    refine ws_seq (ws_if (wp_tst (wp_bin (wp_v rfl (wp_c (wp_eq (op_isN (neg := true) _) ⟨_, rfl, iteF (ws_sk ?_)⟩))))))
    refine ws_for_first (p := fun c => !(holdF ws line s).xs.any (fTalk (farI line c))) (wp_seqIT (wp_v rfl ⟨_, rfl, s.xs.filter (fHeld line), rfl, fun e q => ∃ x4, e = [some (.ref l), some (.int line), some (.tup (s.xs.filter (fHeld line))), some .non, x4] ∧ q = m1, ⟨none, rfl, rfl⟩, ?_, ?_⟩))
    · rintro c hc e q ⟨x4, rfl, rfl⟩
      have hcc := h.cs.call c (List.mem_filter.mp hc).1
      refine wp_nm (ws_if (wp_notT (wp_tst (wp_callE (wp_consA (wp_calls C1 rfl ?_))))))
      repeat walk_at "y"
      refine wp_pf (ev_other hcc) ?_
      repeat walk_at "y"
      refine wp_pf (ev_has_talk h1.cs.call) ⟨_, rfl, ?_⟩
      refine ite2 (fun hb => ?_) (fun hb => ?_)
      · refine ws_seq (ws_drop (wp_mt C1 rfl rfl ?_))
        repeat walk_at "y"
        refine wp_pf (ev_changed hcc) ?_
        repeat walk_at "y"
        refine wp_mono (bring_ok (b := bb) H (h1.less (by omega)) C1 (chg_call hcc ring_mem.2.2.1) (fits_chg h1.cs (hh c hc)) ring_mem2.2.2.1) ?_
        rintro r m2 ⟨rfl, C2, f2⟩
        exact ws_retN ⟨hb, fun hfd => ⟨rfl, by rw [hfd]; exact C2, f1.trans f2⟩⟩
      · exact ws_sk ⟨by simpa using hb, _, rfl, rfl⟩
    · rintro e q ⟨x4, rfl, rfl⟩ hn
      exact ⟨rfl, by rw [hn]; exact C1, f1⟩
theorem join_ok (H : Hs n ws) (h : Sk n ws (bb + 7) s) {line : Int} (C : Crs m l le (houD n ws dD) s) :
    wp (sm_join [.ref l, .int line] m) fun r m' => r = .non ∧ Crs m' l le (houD n ws dD) (joinF ws line s) ∧ Fc l le m m' := by
  have h6 := h.cs.six H.n4
  have f6 := filt6 H h (fHeld line)
  have hnd : (s.xs.filter (fHeld line)).Nodup := (cs_nodup h.cs).filter _
  unfold joinF
  refine wp_def rfl ?_
  refine ws_seq (ws_asg (wp_callE (wp_consA (wp_calls C rfl ?_))))
  repeat walk_at "y"
  refine wp_pf (ev_holds_of h.cs.call (by omega)) (wp_nm ?_)
  have hsub : ∀ c ∈ s.xs.filter (fHeld line), c ∈ s.xs := fun c hc => (List.mem_filter.mp hc).1
  generalize s.xs.filter (fHeld line) = cs at f6 hnd hsub ⊢
  refine ws_seq (ws_for_fix (wp_seqIT (wp_v rfl ⟨cs, rfl, cs, rfl, fun i e q => ∃ x3 s', e = [some (.ref l), some (.int line), some (.tup cs), x3] ∧ Crs q l le (houD n ws dD) s' ∧ Sk n ws (bb + 1 + (cs.length - i)) s' ∧ (∀ c ∈ cs.drop i, c ∈ s'.xs) ∧ Fc l le m q ∧ joinGo ws line (cs.drop i) s' = joinGo ws line cs s, ?_, ?_, ?_⟩)))
  · exact ⟨none, s, rfl, C, h.less (by omega), hsub, Fc.refl, rfl⟩
  · rintro i c e q hci ⟨x3, s', rfl, C1, h1, hs1, f1, e1⟩
    have hil : i < cs.length := (List.getElem?_eq_some_iff.mp hci).1
    have hnd' : (cs.drop i).Nodup := hnd.sublist (List.drop_sublist _ _)
    rw [drop_cons hci] at hs1 e1 hnd'
    have hc := hs1 c List.mem_cons_self
    have hcc := h1.cs.call c hc
    have e1 : joinGo ws line (cs.drop (i + 1)) (if (!s'.xs.any (fTalk (farI line c))) = true then bringF ws (chg c "talk") s' else s') = joinGo ws line cs s := e1
    refine wp_nm (ws_if (wp_notT (wp_tst (wp_callE (wp_consA (wp_calls C1 rfl ?_))))))
    repeat walk_at "y"
    refine wp_pf (ev_other hcc) ?_
    repeat walk_at "y"
    refine wp_pf (ev_has_talk h1.cs.call) ⟨_, rfl, ?_⟩
    refine ite2 (fun hb => ?_) (fun hb => ?_)
    · rw [if_pos hb] at e1
      have h1' : Sk n ws (bb + 1 + (cs.length - (i + 1)) + 1) s' := h1.less (by omega)
      have hk : ∀ x ∈ cs.drop (i + 1), x ∈ (placeF (chg c "talk") s').xs := fun x hx => stay_chg h1.cs hc (hs1 x (List.mem_cons_of_mem _ hx)) (fun e => (List.nodup_cons.mp hnd').1 (e ▸ hx))
      refine ws_drop (wp_mt C1 rfl rfl ?_)
      repeat walk_at "y"
      refine wp_pf (ev_changed hcc) ?_
      repeat walk_at "y"
      refine wp_mono (bring_ok H h1' C1 (chg_call hcc ring_mem.2.2.1) (fits_chg h1.cs hc) ring_mem2.2.2.1) ?_
      rintro r m2 ⟨rfl, C2, f2⟩
      exact ⟨_, _, rfl, C2, chg_sk H h1' hc ring_mem.2.2.1 ring_mem2.2.2.1, hk, f1.trans f2, e1⟩
    · rw [if_neg hb] at e1
      exact ws_sk ⟨_, _, rfl, C1, h1.less (by omega), fun x hx => hs1 x (List.mem_cons_of_mem _ hx), f1, e1⟩
  · rintro e q ⟨x3, s', rfl, C1, h1, hs1, f1, e1⟩
    rw [List.drop_length] at e1
    have e1 : s' = joinGo ws line cs s := e1
    subst e1
    refine ws_drop (wp_mt C1 rfl rfl ?_)
    repeat walk_at "y"
    refine wp_mono (tell_ok (b := bb) (w := "joins") (ls := [line]) (hid := 0) H (h1.less (by omega)) C1 (evD_ok (k := 1) (by decide +kernel) rfl)) ?_
    rintro r m2 ⟨rfl, C2, f2⟩
    exact ⟨rfl, C2, f1.trans f2⟩
/-- an act at a flash point -/
theorem flash_row (H : Hs n ws) {xs : List D} {line : Int} {ts : List Told} (h : Row ws xs ⟨"flash", .int line, .non, 0⟩ ts) : ts = [] ∨ ∃ t, ts = [t] := by
  refine row_one h fun t ht => ?_
  obtain ⟨told, q⟩ := h.mem ht
  obtain ⟨w, r, h1, hw, ha, rn, hk, e1, e2, hp, hc⟩ := act_rule H q
  rcases rn.k_flash hk with z | z | z
  · rw [e1, z]; rfl
  · rw [e1, z]; rfl
  · exact absurd z hp
theorem long_row (H : Hs n ws) {xs : List D} {a b hid : Int} {ts : List Told} (h : Row ws xs ⟨"long", .int b, .int a, hid⟩ ts) : ts = [] ∨ ∃ t, ts = [t] := by
  refine row_one h fun t ht => ?_
  obtain ⟨told, q⟩ := h.mem ht
  rcases act_long H q with z | z
  · rw [z]; rfl
  · rw [z.1]; rfl
/-- for over one act at most -/
theorem ws_for_one {N : CW.Env → Mu → Prop} {Rt : D → Mu → Prop} {B C : CW.Env → Mu → Prop} {μ : Mu} {env : CW.Env} {b : Bm} {fi : Im} {g : Gm} {acts : List Told} (ha : acts = [] ∨ ∃ t, acts = [t]) (h : wp (fi env μ) fun it μ1 => it = fixIt (acts.map toldD) ∧ (acts = [] → N env μ1) ∧ ∀ t, acts = [t] → wp (g (toldD t) env μ1) fun e1 m1 => CW.ws (b e1 m1) N Rt N N) : CW.ws (forS fi g b env μ) N Rt B C := by
  refine ws_for_fix (wp_mono h ?_)
  rintro it μ1 ⟨rfl, h0, h1⟩
  rcases ha with rfl | ⟨t, rfl⟩
  · exact ⟨[], rfl, fun _ => N, h0 rfl, fun i x e m hx => by simp at hx, fun e m q => q⟩
  · refine ⟨[toldD t], rfl, fun i e m => if i = 0 then e = env ∧ m = μ1 else N e m, by simp, fun i x e m hx hi => ?_, fun e m q => ?_⟩
    · cases i with
      | zero =>
        rw [if_pos rfl] at hi
        obtain ⟨rfl, rfl⟩ := hi
        cases hx
        refine wp_mono (h1 t rfl) fun e1 m1 q => ?_
        simp only [Nat.zero_add, Nat.one_ne_zero, if_false]
        exact q
      | succ i => simp at hx
    · simpa using q
end

section
variable {n : Int} {ws : List Wish} {dD : D} {bb : Nat} {s : Sc} {m : Mu} {l le : Nat}
theorem flash_ok (H : Hs n ws) (h : Sk n ws (bb + 13) s) {line : Int} (C : Crs m l le (houD n ws dD) s) :
    wp (sm_flash [.ref l, .tup [.int line]] m) fun r m' => r = .non ∧ Crs m' l le (houD n ws dD) (flashF ws line s) ∧ Fc l le m m' := by
  have h1 := ask_sk H h ⟨"flash", .int line, .non, 0⟩
  have hr := flash_row H (ask_row (ws := ws) (p := ⟨"flash", .int line, .non, 0⟩) (s := s))
  have ha := fun t => ask_acts (s := s) H ⟨"flash", .int line, .non, 0⟩ (t := t)
  unfold flashF
  refine wp_def rfl ?_
  repeat walk_at "y"
  refine wp_mt C rfl rfl ?_
  repeat walk_at "y"
  refine wp_mono (ask_ok H h C (point_ok2 (k := "flash") (me := line) (by decide +kernel) (.inl rfl))) ?_
  rintro r m1 ⟨rfl, C1, f1⟩
  generalize (askR ws ⟨"flash", .int line, .non, 0⟩ s).1 = acts at hr ha ⊢
  refine wp_nm (ws_for_one hr (wp_seqIT (wp_v rfl ⟨_, rfl, rfl, fun e => ?_, fun t e => wp_tolds ?_⟩)))
  · subst e; exact ⟨rfl, C1, f1⟩
  · subst e
    have hta := ha t List.mem_cons_self
    repeat walk_at "y"
    refine wp_act0 ?_
    repeat walk_at "y"
    refine wp_eq (op_eqS (actws_ok _ hta) (by decide +kernel) _) ⟨_, rfl, ?_⟩
    refine ite2 (fun hc => ?_) (fun hc => ?_)
    · simp only [hc, if_true]
      repeat walk_at "y"
      refine wp_mono (swap_ok (bb := bb) H h1 C1) ?_
      rintro r m2 ⟨rfl, C2, f2⟩
      exact ⟨by trivial, C2, f1.trans f2⟩
    · simp only [hc]
      repeat walk_at "y"
      refine wp_mono (join_ok (bb := bb) H (h1.less (by omega)) C1) ?_
      rintro r m2 ⟨rfl, C2, f2⟩
      exact ⟨by trivial, C2, f1.trans f2⟩
theorem long_ok (H : Hs n ws) (h : Sk n ws (bb + 188) s) {c : D} (hc : c ∈ s.xs) (C : Crs m l le (houD n ws dD) s) :
    wp (sm_ring_long [.ref l, c] m) fun r m' => r = .non ∧ Crs m' l le (houD n ws dD) (longF ws c s) ∧ Fc l le m m' := by
  have hcc := h.cs.call c hc
  have A := call_way hcc
  have h1 : Sk n ws (bb + 187) (tellF ws "waits" [cI c, cJ c] (cH c) s) := tell_sk H h waits_ev
  have h2 := ask_sk H h1 ⟨"long", .int (cJ c), .int (cI c), cH c⟩
  have hr := ask_row (ws := ws) (p := ⟨"long", .int (cJ c), .int (cI c), cH c⟩) (s := tellF ws "waits" [cI c, cJ c] (cH c) s)
  have ha := fun t => ask_acts (s := tellF ws "waits" [cI c, cJ c] (cH c) s) H ⟨"long", .int (cJ c), .int (cI c), cH c⟩ (t := t)
  have g := lift_goal2 (s := askS ws ⟨"long", .int (cJ c), .int (cI c), cH c⟩ (tellF ws "waits" [cI c, cJ c] (cH c) s)) h.cs hc
  unfold longF
  obtain ⟨ci, cj, cw, ch, rfl, _⟩ := hcc.ex
  have hcc := h.cs.call _ hc
  refine wp_def rfl ?_
  refine ws_seq (ws_asg (wp_v rfl (wp_tupGL rfl (wp_consG (wp_nm (wp_consG (wp_nm (wp_consG (wp_nm (wp_consG (wp_nm (wp_nilG ?_))))))))))))
  refine ws_seq (ws_drop (wp_mt C rfl rfl ?_))
  repeat walk_at "y"
  refine wp_mono (tell_ok (w := "waits") (ls := [ci, cj]) (hid := ch) H h C waits_ev) ?_
  rintro r m1 ⟨rfl, C1, f1⟩
  refine ws_seq (ws_asg (wp_mt C1 rfl rfl ?_))
  repeat walk_at "y"
  refine wp_mono (ask_ok H h1 C1 (point_ok1 (k := "long") (me := cj) (o := ci) (hid := ch) (by decide +kernel) (by decide))) ?_
  rintro r m2 ⟨rfl, C2, f2⟩
  refine wp_nm ?_
  have hone := long_row H hr
  dsimp only [cI, cJ, cH] at h1 h2 hr ha hone g C1 C2 ⊢
  generalize (askR ws ⟨"long", .int cj, .int ci, ch⟩ (tellF ws "waits" [ci, cj] ch s)).1 = acts at hr ha hone ⊢
  refine ws_for_one hone (wp_seqIT (wp_v rfl ⟨_, rfl, rfl, fun e => ?_, fun t e => wp_tolds ?_⟩))
  · subst e; exact ⟨rfl, C2, f1.trans f2⟩
  · subst e
    have hta := ha t List.mem_cons_self
    obtain ⟨told, q⟩ := hr.mem List.mem_cons_self
    refine ws_seq (ws_drop (wp_mt C2 rfl rfl ?_))
    repeat walk_at "y"
    refine wp_mono (lift_ok H h2 C2 hcc) ?_
    rintro r m3 ⟨rfl, C3, f3⟩
    repeat walk_at "y"
    have hcf : CfOk n ws dD ci ch (eB 8) 8 l le (sm_come 8) (comeF ws ci ch 8) := come_ok H A 8
    refine wp_mono (turn_ok (bb := bb) (e := eB 8) (k := 8) (ways := []) H A hcf hta (act_long H q) (lift_sk (h2.less (by simp [eB]))) g rfl (by decide) (by decide) C3) ?_
    rintro r m4 ⟨rfl, C4, f4⟩
    exact ⟨rfl, C4, ((f1.trans f2).trans f3).trans f4⟩
def callP (c : D) : PyData := .tuple [.int (cI c), .int (cJ c), .str (cW c), .int (cH c)]
theorem py_call {k : Nat} {c : D} (hc : Call1 n c) : pyD (k + 1) m c = some (callP c) := by
  obtain ⟨i, j, w, h, rfl, _, _, _, _, _, hw, _⟩ := hc.ex
  have h1 : ∀ z : Int, pyD k m (.int z) = some (.int z) := fun z => by cases k <;> rfl
  have h2 : pyD k m (.str w) = some (.str w) := by cases k <;> simp [pyD, ok_hows hw]
  show (List.mapM (pyD k m) [.int i, .int j, .str w, .int h]).map PyData.tuple = _
  simp [List.mapM_cons, h1, h2, callP, cI, cJ, cW, cH]
theorem py_callsP {k : Nat} : ∀ {xs : List D}, (∀ x ∈ xs, Call1 n x) → xs.mapM (pyD (k + 1) m) = some (xs.map callP)
  | [], _ => rfl
  | x :: xs, h => by
    rw [List.mapM_cons, py_call (h x List.mem_cons_self), py_callsP fun z hz => h z (List.mem_cons_of_mem _ hz)]
    rfl
theorem eqv_call {c x : D} : (callP x).eqv (callP c) = ceqB c x := by
  simp [callP, PyData.eqv, PyData.eqvAll, ceqB]
theorem op_inCalls {xs : List D} {c : D} (hx : ∀ x ∈ xs, Call1 n x) (hc : Call1 n c) : OpV (inD false) c (.tup xs) (.bl (xs.any (ceqB c))) := fun m => by
  have h1 : pyD 8 m c = some (callP c) := py_call hc
  have h2 : pyD 8 m (.tup xs) = some (.tuple (xs.map callP)) := by
    show (List.mapM (pyD 7 m) xs).map PyData.tuple = _
    rw [py_callsP hx]; rfl
  unfold inD
  rw [h1, h2]
  simp only [List.any_map]
  rw [if_neg (by decide)]
  congr 4
  funext x
  exact eqv_call
theorem wait_ok (H : Hs n ws) (h : Sk n ws (bb + 1200) s) (C : Crs m l le (houD n ws dD) s) {x1 : D} :
    wp (sm_wait [.ref l, x1] m) fun r m' => r = .non ∧ Crs m' l le (houD n ws dD) (waitF ws s) ∧ Fc l le m m' := by
  have h6 := h.cs.six H.n4
  have f1 := filt6 H h (fun c => cW c == "ring")
  have f2 := filt6 H h (fun c => cW c == "back")
  have hlt := C.lt
  unfold waitF
  have test : ∀ (w : Str), PyData.strOk w = true → ∀ (env : CW.Env), ∀ x ∈ s.xs, env[4]? = some (some x) → EvT (tst (CW.bin eqD (CW.bin ixD (vD 4) (cD (.int 2))) (cD (.str w)))) env (cW x == w) := fun w hw env x hx he => by
    obtain ⟨i, j, w', q, rfl, _, _, _, _, _, hw', _⟩ := (h.cs.call x hx).ex
    exact evt_tst (ev_bin (ev_bin (ev_v he) ev_c (op_ixT rfl)) ev_c (op_eqS (ok_hows hw') hw))
  refine wp_def rfl ?_
  refine ws_seq (ws_asg (wp_lcP (p := fun c => cW c == "ring") (k := id) (wp_seqIT (wp_calls C rfl ⟨_, rfl, s.xs, rfl, by omega, fun x hx => test "ring" (by decide +kernel) _ x hx rfl, fun x hx _ => ev_v rfl, wp_nm ?_⟩))))
  rw [List.map_id]
  have C1 := C.push (.lst (s.xs.filter fun c => cW c == "ring"))
  refine ws_seq (ws_asg (wp_lcP (p := fun c => cW c == "back") (k := id) (wp_seqIT (wp_calls C1 rfl ⟨_, rfl, s.xs, rfl, by omega, fun x hx => test "back" (by decide +kernel) _ x hx rfl, fun x hx _ => ev_v rfl, wp_nm ?_⟩))))
  rw [List.map_id]
  have C2 := C1.push (.lst (s.xs.filter fun c => cW c == "back"))
  have hk1 : ((m ++ [Cell.lst (s.xs.filter fun c => cW c == "ring")]) ++ [Cell.lst (s.xs.filter fun c => cW c == "back")])[m.length]? = some (.lst (s.xs.filter fun c => cW c == "ring")) := by simp
  have hk2 := get_last (m ++ [Cell.lst (s.xs.filter fun c => cW c == "ring")]) (Cell.lst (s.xs.filter fun c => cW c == "back"))
  have hl2 : (m ++ [Cell.lst (s.xs.filter fun c => cW c == "ring")]).length = m.length + 1 := by simp
  rw [hl2] at hk2 ⊢
  have hcr : ∀ c ∈ s.xs.filter fun c => cW c == "ring", Call1 n c := fun c hc => h.cs.call c (List.mem_filter.mp hc).1
  have hcb : ∀ c ∈ s.xs.filter fun c => cW c == "back", Call1 n c := fun c hc => h.cs.call c (List.mem_filter.mp hc).1
  have F2 : Fc l le m ((m ++ [Cell.lst (s.xs.filter fun c => cW c == "ring")]) ++ [Cell.lst (s.xs.filter fun c => cW c == "back")]) := (Fc.refl.push _).push _
  generalize ((m ++ [Cell.lst (s.xs.filter fun c => cW c == "ring")]) ++ [Cell.lst (s.xs.filter fun c => cW c == "back")]) = m2 at C2 hk1 hk2 F2 ⊢
  generalize (s.xs.filter fun c => cW c == "ring") = rs at f1 hk1 hcr ⊢
  generalize (s.xs.filter fun c => cW c == "back") = bs at f2 hk2 hcb ⊢
  refine ws_seq (ws_for_lst (wp_seqIL (wp_v rfl ⟨m.length, rs, rfl, hk1, m.length, rs, rfl, fun i e q => ∃ x4 s', e = [some (.ref l), some x1, some (.ref m.length), some (.ref (m.length + 1)), x4] ∧ Crs q l le (houD n ws dD) s' ∧ Sk n ws (bb + 6 + 188 * (rs.length - i)) s' ∧ Fc l le m2 q ∧ ringsGo ws (rs.drop i) s' = ringsGo ws rs s, ?_, ?_, ?_, ?_⟩)))
  · exact ⟨none, s, rfl, C2, h.less (by omega), Fc.refl, rfl⟩
  · rintro i e q ⟨_, s', _, _, _, f, _⟩
    exact f.get (by omega) (by omega) hk1
  · rintro i c e q hci ⟨x4, s', rfl, C3, h3, f3, e3⟩
    have hil : i < rs.length := (List.getElem?_eq_some_iff.mp hci).1
    rw [drop_cons hci] at e3
    have e3 : ringsGo ws (rs.drop (i + 1)) (if (s'.xs.any (ceqB c)) = true then longF ws c s' else s') = ringsGo ws rs s := e3
    have hcc := hcr c (List.mem_of_getElem? hci)
    refine wp_nm (ws_if (wp_tst (wp_bin (wp_v rfl (wp_calls C3 rfl (wp_eq (op_inCalls h3.cs.call hcc _) ⟨_, rfl, ?_⟩))))))
    refine ite2 (fun hb => ?_) (fun hb => ?_)
    · rw [if_pos hb] at e3
      have h3' : Sk n ws (bb + 6 + 188 * (rs.length - (i + 1)) + 188) s' := h3.less (by omega)
      have hcm := (ceq_any h3.cs hcc).mp hb
      repeat walk_at "y"
      refine wp_mono (long_ok H h3' hcm C3) ?_
      rintro r m4 ⟨rfl, C4, f4⟩
      exact ⟨_, _, rfl, C4, long_sk H h3' hcm, f3.trans f4, e3⟩
    · rw [if_neg hb] at e3
      exact ws_sk ⟨_, _, rfl, C3, h3.less (by omega), f3, e3⟩
  · rintro e q ⟨x4, s', rfl, C3, h3, f3, e3⟩
    rw [List.drop_length] at e3
    have e3 : s' = ringsGo ws rs s := e3
    subst e3
    refine ws_drop (wp_mt C3 rfl rfl ?_)
    repeat walk_at "y"
    refine wp_mono (end_ok (b := bb) H (h3.less (by omega)) C3 hcb (f3.get (by omega) (by omega) hk2) (by omega) (by omega)) ?_
    rintro r m4 ⟨rfl, C4, f4⟩
    exact ⟨rfl, C4, (F2.trans f3).trans f4⟩
end

section
variable {n : Int} {ws : List Wish} {dD : D} {bb : Nat} {s : Sc} {m : Mu} {l le : Nat}
theorem night_ok (H : Hs n ws) (h : Sk n ws (bb + 1) s) (C : Crs m l le (houD n ws dD) s) {x1 : D} :
    wp (sm_turn [.ref l, x1] m) fun r m' => r = .non ∧ Crs m' l le (houD n ws dD) (nightF ws s) ∧ Fc l le m m' := by
  unfold nightF
  refine wp_def rfl ?_
  refine ws_seq (ws_fld (wp_bin (wp_c (wp_night C rfl (wp_sub (wp_v rfl ⟨l, _, rfl, C.obj, crs_len, ?_⟩))))))
  rw [put_night]
  have C1 : Crs (m.set l (.obj "Course" (crsK (houD n ws dD) (turnS s) le))) l le (houD n ws dD) (turnS s) := ⟨set_get C.obj, set_other C.ev (Ne.symm C.ne), C.ne⟩
  have F1 : Fc l le m (m.set l (.obj "Course" (crsK (houD n ws dD) (turnS s) le))) := Fc.refl.set1
  refine ws_drop (wp_mt C1 rfl rfl (wp_consA (wp_ifX (wp_tst (wp_bin (wp_night C1 rfl (wp_c (wp_eqI ⟨_, rfl, ?_⟩))))))))
  repeat walk_at "y"
  refine wp_mono (tell_ok (ls := []) (hid := 0) H (turnS_sk h) C1 night_ev) ?_
  rintro r m2 ⟨rfl, C2, f2⟩
  exact ⟨rfl, C2, F1.trans f2⟩
theorem shown_ok (H : Hs n ws) (h : Sk n ws (bb + 6) s) (C : Crs m l le (houD n ws dD) s) :
    wp (sm_ring_shown [.ref l] m) fun r m' => r = .non ∧ Crs m' l le (houD n ws dD) (shownF ws s) ∧ Fc l le m m' := by
  have h6 := h.cs.six H.n4
  have f6 := filt6 H h (fun c => cW c == "show")
  have hnd : (s.xs.filter fun c => cW c == "show").Nodup := (cs_nodup h.cs).filter _
  have hlt := C.lt
  unfold shownF
  refine wp_def rfl ?_
  refine ws_seq (ws_asg (wp_lcP (p := fun c => cW c == "show") (k := id) (wp_seqIT (wp_calls C rfl ⟨_, rfl, s.xs, rfl, by omega, fun x hx => ?_, fun x hx _ => ev_v rfl, wp_nm ?_⟩))))
  · obtain ⟨i, j, w', q, rfl, _, _, _, _, _, hw', _⟩ := (h.cs.call x hx).ex
    exact evt_tst (ev_bin (ev_bin (ev_v rfl) ev_c (op_ixT rfl)) ev_c (op_eqS (ok_hows hw') (by decide +kernel)))
  rw [List.map_id]
  have hsub : ∀ c ∈ s.xs.filter fun c => cW c == "show", c ∈ s.xs := fun c hc => (List.mem_filter.mp hc).1
  generalize (s.xs.filter fun c => cW c == "show") = cs at f6 hnd hsub ⊢
  have C0 := C.push (.lst cs)
  have hk := get_last m (.lst cs)
  have F0 : Fc l le m (m ++ [.lst cs]) := Fc.refl.push _
  generalize m ++ [Cell.lst cs] = m0 at C0 hk F0 ⊢
  refine ws_for_lst (wp_seqIL (wp_v rfl ⟨m.length, cs, rfl, hk, m.length, cs, rfl, fun i e q => ∃ x2 s', e = [some (.ref l), some (.ref m.length), x2] ∧ Crs q l le (houD n ws dD) s' ∧ Sk n ws (bb + (cs.length - i)) s' ∧ (∀ c ∈ cs.drop i, c ∈ s'.xs) ∧ Fc l le m0 q ∧ shownGo ws (cs.drop i) s' = shownGo ws cs s, ?_, ?_, ?_, ?_⟩))
  · exact ⟨none, s, rfl, C0, h.less (by omega), hsub, Fc.refl, rfl⟩
  · rintro i e q ⟨_, s', _, _, _, _, f, _⟩
    exact f.get (by omega) (by omega) hk
  · rintro i c e q hci ⟨x2, s', rfl, C1, h1, hs1, f1, e1⟩
    have hil : i < cs.length := (List.getElem?_eq_some_iff.mp hci).1
    have hnd' : (cs.drop i).Nodup := hnd.sublist (List.drop_sublist _ _)
    rw [drop_cons hci] at hs1 e1 hnd'
    have hc := hs1 c List.mem_cons_self
    have hcc := h1.cs.call c hc
    have e1 : shownGo ws (cs.drop (i + 1)) (if (!s'.xs.any (fTalk (cJ c)) && !s'.xs.any (fRing (cJ c))) = true then bringF ws (chg c "ring") s' else s') = shownGo ws cs s := e1
    have ej : ∀ m, ixD c (.int 1) m = some (.int (cJ c), m) := fun m => by
      obtain ⟨i, j, w', q, rfl, _⟩ := hcc.ex
      exact op_ixT rfl m
    refine wp_nm (ws_if (wp_andB (x := !s'.xs.any (fTalk (cJ c))) (y := !s'.xs.any (fRing (cJ c))) ?_ (fun _ => ?_) ?_))
    · refine wp_notT (wp_tst (wp_callE (wp_consA (wp_calls C1 rfl (wp_consA (wp_bin (wp_v rfl (wp_c (wp_eq (ej _) (wp_nilA ?_)))))))))) 
      exact wp_pf (ev_has_talk h1.cs.call) ⟨_, rfl, rfl, rfl⟩
    · refine wp_tst (wp_bin (wp_callE (wp_consA (wp_calls C1 rfl (wp_consA (wp_bin (wp_v rfl (wp_c (wp_eq (ej _) (wp_nilA ?_))))))))))
      refine wp_pf (ev_rings_at h1.cs.call) (wp_c (wp_eq (find_none (neg := false) h1.cs.call _) ⟨_, rfl, ?_, rfl⟩))
      simp
    · refine ite2 (fun hb => ?_) (fun hb => ?_)
      · rw [if_pos hb] at e1
        have h1' : Sk n ws (bb + (cs.length - (i + 1)) + 1) s' := h1.less (by omega)
        have hk : ∀ x ∈ cs.drop (i + 1), x ∈ (placeF (chg c "ring") s').xs := fun x hx => stay_chg h1.cs hc (hs1 x (List.mem_cons_of_mem _ hx)) (fun e => (List.nodup_cons.mp hnd').1 (e ▸ hx))
        refine ws_drop (wp_mt C1 rfl rfl ?_)
        repeat walk_at "y"
        refine wp_pf (ev_changed hcc) ?_
        repeat walk_at "y"
        refine wp_mono (bring_ok H h1' C1 (chg_call hcc ring_mem.1) (fits_chg h1.cs hc) ring_mem2.1) ?_
        rintro r m2 ⟨rfl, C2, f2⟩
        exact ⟨_, _, rfl, C2, chg_sk H h1' hc ring_mem.1 ring_mem2.1, hk, f1.trans f2, e1⟩
      · rw [if_neg hb] at e1
        exact ws_sk ⟨_, _, rfl, C1, h1.less (by omega), fun x hx => hs1 x (List.mem_cons_of_mem _ hx), f1, e1⟩
  · rintro e q ⟨x3, s', rfl, C1, h1, hs1, f1, e1⟩
    rw [List.drop_length] at e1
    have e1 : s' = shownGo ws cs s := e1
    subst e1
    exact ⟨rfl, C1, F0.trans f1⟩
theorem back_ok (H : Hs n ws) (h : Sk n ws (bb + 1) s) {line : Int} (l0 : 0 ≤ line) (ln : line < n) (hf : s.xs.any (fIn line) = false) (C : Crs m l le (houD n ws dD) s) :
    wp (sm_ring_back [.ref l, .int line] m) fun r m' => r = .non ∧ Crs m' l le (houD n ws dD) (backF ws line s) ∧ Fc l le m m' := by
  have h1 := ask_sk H h ⟨"free", .non, .int line, 0⟩
  have hr := free_row H (ask_row (ws := ws) (p := ⟨"free", .non, .int line, 0⟩) (s := s))
  have hb := fun t => back_goal (t := t) H h l0 ln hf
  unfold backF
  refine wp_def rfl ?_
  repeat walk_at "y"
  refine wp_mt C rfl rfl ?_
  repeat walk_at "y"
  refine wp_mono (ask_ok H h C (point_ok3 (o := line))) ?_
  rintro r m1 ⟨rfl, C1, f1⟩
  generalize (askR ws ⟨"free", .non, .int line, 0⟩ s).1 = acts at hr hb ⊢
  refine wp_nm (ws_for_one hr (wp_seqIT (wp_v rfl ⟨_, rfl, rfl, fun e => ?_, fun t e => wp_tolds ?_⟩)))
  · subst e; exact ⟨rfl, C1, f1⟩
  · subst e
    obtain ⟨g, A, w, hw, ew⟩ := hb t List.mem_cons_self
    have hil : t.1 < ws.length := (List.getElem?_eq_some_iff.mp hw).1
    refine ws_seq (ws_asg (wp_bin (wp_bin (wp_bin (wp_house C1 rfl (wp_c (wp_ixT rfl (wp_v rfl (wp_ixT (d := w.d) ?_ (wp_c (wp_ixT rfl (wp_nm ?_))))))))))))
    · exact atI_nat (by rw [List.getElem?_map, hw]; rfl)
    · simp only [ew]
      rw [ew] at g A
      refine ws_drop (wp_mt C1 rfl rfl ?_)
      repeat walk_at "y"
      refine wp_mono (bring_ok (b := bb) H h1 C1 (g.call A ring_mem.2.2.2.2.2.1) (fits_of h1.cs.call g.nb) ring_mem2.2.2.2.2.2) ?_
      rintro r m2 ⟨rfl, C2, f2⟩
      exact ⟨by trivial, C2, f1.trans f2⟩
theorem free_ok (H : Hs n ws) (h : Sk n ws (bb + 8) s) {xs0 : List D} (hx0 : ∀ x ∈ xs0, Call1 n x) (C : Crs m l le (houD n ws dD) s) :
    wp (sm_free_lines [.ref l, .tup xs0] m) fun r m' => r = .non ∧ Crs m' l le (houD n ws dD) (freeGo ws xs0 (lines n) s) ∧ Fc l le m m' := by
  have hn2 := H.n2
  have hn4 := H.n4
  have h4 := lines_len (n := n) (ws := ws) H
  have hml := fun x => mem_lines (n := n) (x := x)
  have hel : (List.range n.toNat).map (fun k : Nat => D.int (0 + k)) = (lines n).map D.int := by
    unfold lines
    rw [List.map_map]
    refine List.map_congr_left fun k _ => ?_
    simp
  refine wp_def rfl ?_
  refine ws_for_fix (wp_rng1 (wp_consA (wp_bin (wp_house C rfl (wp_c (wp_ixT rfl (wp_nilA ⟨n, rfl, by omega, by omega, ?_⟩)))))))
  rw [hel]
  generalize lines n = ls at h4 hml ⊢
  refine ⟨_, rfl, fun i e q => ∃ x2 s', e = [some (.ref l), some (.tup xs0), x2] ∧ Crs q l le (houD n ws dD) s' ∧ Sk n ws (bb + 2 * (ls.length - i)) s' ∧ Fc l le m q ∧ freeGo ws xs0 (ls.drop i) s' = freeGo ws xs0 ls s, ?_, ?_, ?_⟩
  · exact ⟨none, s, rfl, C, h.less (by omega), Fc.refl, rfl⟩
  · rintro i d e q hd ⟨x2, s', rfl, C1, h1, f1, e1⟩
    rw [List.getElem?_map] at hd
    obtain ⟨x, hx, rfl⟩ := Option.map_eq_some_iff.mp hd
    have hil : i < ls.length := (List.getElem?_eq_some_iff.mp hx).1
    obtain ⟨l0, ln⟩ := hml x (List.mem_of_getElem? hx)
    rw [drop_cons hx] at e1
    have e1 : freeGo ws xs0 (ls.drop (i + 1)) (if (xs0.any (fIn x) && !s'.xs.any (fIn x)) = true then backF ws x (tellF ws "frees" [x] 0 s') else s') = freeGo ws xs0 ls s := e1
    refine wp_nm (ws_if (wp_andB (x := xs0.any (fIn x)) (y := !s'.xs.any (fIn x)) ?_ (fun _ => ?_) ?_))
    · refine wp_notT (wp_tst (wp_callE ?_))
      repeat walk_at "y"
      exact wp_pf (ev_is_free hx0) ⟨_, rfl, Bool.not_not _, rfl⟩
    · refine wp_tst (wp_callE (wp_consA (wp_calls C1 rfl ?_)))
      repeat walk_at "y"
      exact wp_pf (ev_is_free h1.cs.call) ⟨_, rfl, rfl, rfl⟩
    · refine ite2 (fun hb => ?_) (fun hb => ?_)
      · rw [if_pos hb] at e1
        simp only [Bool.and_eq_true, Bool.not_eq_true'] at hb
        have h1' : Sk n ws (bb + 2 * (ls.length - (i + 1)) + 1 + 1) s' := h1.less (by omega)
        have h2 : Sk n ws (bb + 2 * (ls.length - (i + 1)) + 1) (tellF ws "frees" [x] 0 s') := tell_sk H h1' frees_ev
        refine ws_seq (ws_drop (wp_mt C1 rfl rfl ?_))
        repeat walk_at "y"
        refine wp_mono (tell_ok (w := "frees") (ls := [x]) (hid := 0) H h1' C1 frees_ev) ?_
        rintro r m2 ⟨rfl, C2, f2⟩
        repeat walk_at "y"
        refine wp_mono (back_ok H h2 l0 ln hb.2 C2) ?_
        rintro r m3 ⟨rfl, C3, f3⟩
        exact ⟨_, _, rfl, C3, back_sk H h2 l0 ln hb.2, (f1.trans f2).trans f3, e1⟩
      · rw [if_neg hb] at e1
        exact ws_sk ⟨_, _, rfl, C1, h1.less (by omega), f1, e1⟩
  · rintro e q ⟨x3, s', rfl, C1, h1, f1, e1⟩
    rw [List.length_map, List.drop_length] at e1
    have e1 : s' = freeGo ws xs0 ls s := e1
    subst e1
    exact ⟨rfl, C1, f1⟩
theorem set_last {m : Mu} {c d : Cell} : (m ++ [c]).set m.length d = m ++ [d] := by
  rw [List.set_append_right _ _ (Nat.le_refl _)]
  simp
theorem putFD_lt {f : Str} {d : D} : ∀ {fs : List (Str × D)} {k : Nat}, fs.length < k → (putFD f d fs).length < k + 1
  | [], k, h => by simp [putFD]; omega
  | (g, x) :: fs, k, h => by
    unfold putFD
    split
    · simp at h ⊢; omega
    · have := putFD_lt (f := f) (d := d) (fs := fs) (k := k - 1) (by simp at h; omega)
      simp at h ⊢; omega
theorem init_ok {hD : D} (he : s.ev = []) : wp (sm_Course___init [.ref m.length, hD, scD s] (m ++ [.obj "Course" []])) fun r m' => r = .non ∧ Crs m' m.length (m.length + 1) hD s ∧ Gr m m' := by
  refine wp_def rfl ?_
  refine ws_seq (ws_fld (wp_v rfl (wp_v rfl ⟨m.length, [], rfl, get_last _ _, by simp, ?_⟩)))
  rw [set_last]
  refine ws_seq (ws_asg (wp_v rfl (wp_tupGL rfl (wp_consG (wp_fldG (wp_v rfl ⟨m.length, _, rfl, get_last _ _, putFD_lt (Nat.lt_of_lt_of_le Nat.zero_lt_one (by decide)), ?_⟩))))))
  rw [set_last]
  refine wp_consG (wp_fldG (wp_v rfl ⟨m.length, _, rfl, get_last _ _, putFD_lt (putFD_lt (Nat.lt_of_lt_of_le Nat.zero_lt_one (by decide))), ?_⟩))
  rw [set_last]
  refine wp_consG (wp_fldG (wp_v rfl ⟨m.length, _, rfl, get_last _ _, putFD_lt (putFD_lt (putFD_lt (Nat.lt_of_lt_of_le Nat.zero_lt_one (by decide)))), ?_⟩))
  rw [set_last]
  refine wp_consG (wp_fldG (wp_v rfl ⟨m.length, _, rfl, get_last _ _, putFD_lt (putFD_lt (putFD_lt (putFD_lt (Nat.lt_of_lt_of_le Nat.zero_lt_one (by decide))))), wp_nilG ?_⟩))
  rw [set_last]
  refine ws_fld (wp_lstE (wp_nilA ?_))
  have h0 : ∀ (c d : Cell), ((m ++ [c]) ++ [d])[m.length]? = some c := fun c d => by simp
  have hl : ∀ c : Cell, (m ++ [c]).length = m.length + 1 := fun c => by simp
  refine wp_v rfl ⟨m.length, _, rfl, h0 _ _, putFD_lt (putFD_lt (putFD_lt (putFD_lt (putFD_lt (Nat.lt_of_lt_of_le Nat.zero_lt_one (by decide)))))), rfl, ⟨?_, ?_, by omega⟩, ?_⟩
  · rw [set_get (h0 _ _), hl]
    rfl
  · rw [List.getElem?_set_ne (by omega), he, ← hl]
    exact get_last _ _
  · refine ⟨by simp, fun j hj => ?_⟩
    rw [List.getElem?_set_ne (by omega), List.getElem?_append_left (by simp; omega), List.getElem?_append_left hj]
theorem do_ok (H : Hs n ws) (h : Sk n ws (bb + 1200) s) {d : Deed} (hd : d.Ok n) (C : Crs m l le (houD n ws dD) s) {env : CW.Env} (h3 : env[3]? = some (some (.ref l))) (h4 : env[4]? = some (some (.tup (d.ls.map D.int)))) (h5 : env[5]? = some (some (.fn d.w))) :
    wp (callV [("dial", sm_dial), ("take", sm_take), ("drop", sm_drop), ("flash", sm_flash), ("wait", sm_wait), ("turn", sm_turn)] (vD 5) (consA (vD 3) (consA (vD 4) nilA)) env m) fun _ m' => Crs m' l le (houD n ws dD) (doF ws d s) ∧ Fc l le m m' := by
  cases d with
  | dial a b => exact wp_callV (wp_v h5 ⟨"dial", sm_dial, rfl, rfl, wp_callE (wp_consA (wp_v h3 (wp_consA (wp_v h4 (wp_nilA (wp_mono (dial_ok (bb := bb) H (h.less (by omega)) hd.1 hd.2.1 hd.2.2.1 hd.2.2.2.1 hd.2.2.2.2 C) fun _ _ q => q.2))))))⟩)
  | take a => exact wp_callV (wp_v h5 ⟨"take", sm_take, rfl, rfl, wp_callE (wp_consA (wp_v h3 (wp_consA (wp_v h4 (wp_nilA (wp_mono (take_ok (bb := bb) H (h.less (by omega)) hd.1 hd.2 C) fun _ _ q => q.2))))))⟩)
  | drop a => exact wp_callV (wp_v h5 ⟨"drop", sm_drop, rfl, rfl, wp_callE (wp_consA (wp_v h3 (wp_consA (wp_v h4 (wp_nilA (wp_mono (drop_ok (bb := bb) H (h.less (by omega)) C) fun _ _ q => q.2))))))⟩)
  | flash a => exact wp_callV (wp_v h5 ⟨"flash", sm_flash, rfl, rfl, wp_callE (wp_consA (wp_v h3 (wp_consA (wp_v h4 (wp_nilA (wp_mono (flash_ok (bb := bb) H (h.less (by omega)) C) fun _ _ q => q.2))))))⟩)
  | wait => exact wp_callV (wp_v h5 ⟨"wait", sm_wait, rfl, rfl, wp_callE (wp_consA (wp_v h3 (wp_consA (wp_v h4 (wp_nilA (wp_mono (wait_ok H h C) fun _ _ q => q.2))))))⟩)
  | turn => exact wp_callV (wp_v h5 ⟨"turn", sm_turn, rfl, rfl, wp_callE (wp_consA (wp_v h3 (wp_consA (wp_v h4 (wp_nilA (wp_mono (night_ok (bb := bb) H (h.less (by omega)) C) fun _ _ q => q.2))))))⟩)
theorem doings_get (d : Deed) (m : Mu) : kgetD c_DOINGS (.str d.w) m = some (.fn d.w, m) := by cases d <;> rfl
theorem cut_deed (d : Deed) : cutD (.str d.w :: d.ls.map D.int) (some 1) none = d.ls.map D.int := by cases d <;> rfl
theorem stepped_ok (H : Hs n ws) (h : Sk n ws (bb + 1300) s) {d : Deed} (hd : d.Ok n) (he : s.ev = []) :
    PG sm_stepped [houD n ws dD, scD s, d.d] (.tup [scD (stepF n ws d s), .tup (stepF n ws d s).ev]) := fun m => by
  have h0 := h
  refine wp_def rfl ?_
  refine ws_seq (ws_asg (wp_makE (wp_consA (wp_v rfl (wp_consA (wp_v rfl (wp_nilA (wp_mono (init_ok he) ?_))))))))
  rintro r m1 ⟨rfl, C1, g1⟩
  refine ⟨rfl, wp_nm ?_⟩
  have h1 : Sk n ws (bb + 1299) (tellF ws d.w d.ls 0 s) := tell_sk H h (deed_ev d)
  have h2 : Sk n ws (bb + 20) (doF ws d (tellF ws d.w d.ls 0 s)) := step1_sk H h hd
  have h3 := step2_sk H h hd
  have h4 := step3_sk H h hd
  have h5 := step_sk H h hd
  refine ws_seq (ws_asg (wp_slE (wp_v rfl (wp_somP (wp_c ⟨_, rfl, wp_noP (wp_slT ?_)⟩)))))
  rw [cut_deed]
  refine wp_nm (ws_seq (ws_drop (wp_mt C1 rfl rfl (wp_consA (wp_bin (wp_v rfl (wp_c (wp_ixT (d := .str d.w) atI0 ?_))))))))
  repeat walk_at "y"
  refine wp_mono (tell_ok (w := d.w) (ls := d.ls) (hid := 0) H h C1 (deed_ev d)) ?_
  rintro r m2 ⟨rfl, C2, f2⟩
  refine ws_seq (ws_asg (wp_una (wp_bin (wp_v rfl (wp_c (wp_ixT (d := .str d.w) atI0 (wp_eq (doings_get d _) (wp_nm ?_))))))))
  refine ws_seq (ws_drop (wp_mono (do_ok (bb := bb + 20) H (h1.less (by omega)) hd C2 rfl rfl rfl) ?_))
  rintro r m3 ⟨C3, f3⟩
  refine ws_seq (ws_drop (wp_callE (wp_consA (wp_v rfl (wp_nilA (wp_mono (shown_ok (bb := bb + 14) H (h2.less (by omega)) C3) ?_))))))
  rintro r m4 ⟨rfl, C4, f4⟩
  refine ws_seq (ws_drop (wp_callE (wp_consA (wp_v rfl (wp_consA (wp_bin (wp_v rfl (wp_c (wp_ixT (d := .tup s.xs) rfl (wp_nilA (wp_mono (free_ok (bb := bb + 1) H (h3.less (by omega)) h.cs.call C4) ?_)))))))))))
  rintro r m5 ⟨rfl, C5, f5⟩
  refine ws_seq (ws_drop (wp_mt C5 rfl rfl ?_))
  repeat walk_at "y"
  refine wp_mono (tell_ok (w := "done") (ls := []) (hid := 0) H h4 C5 done_ev) ?_
  rintro r m6 ⟨rfl, C6, f6⟩
  have C6 : Crs m6 m.length (m.length + 1) (houD n ws dD) (stepF n ws d s) := C6
  refine ws_ret (wp_tupE (wp_consA (wp_mt C6 rfl rfl (wp_nilA ?_))))
  refine wp_def rfl (ws_ret (wp_tupE (wp_consA (wp_calls C6 rfl (wp_consA (wp_night C6 rfl (wp_consA (wp_minds C6 rfl (wp_consA (wp_tales C6 rfl (wp_nilA ?_)))))))))))
  refine wp_consA (wp_callE (wp_consA (wp_events C6 rfl (wp_nilA (wp_tupL C6.ev (wp_nilA ⟨rfl, ?_⟩))))))
  have F := (((f2.trans f3).trans f4).trans f5).trans f6
  exact ⟨Nat.le_trans g1.len F.len, fun j hj => by rw [F.old j (by omega) (by omega) (Nat.lt_of_lt_of_le hj g1.len)]; exact g1.old j hj⟩
end

theorem actsOf_k : ∀ k ∈ kinds8, ∀ w ∈ actsOf k ++ actsOf k ++ (["pass"] : List Str), (k = "in" → w = "shut" ∨ w = "send" ∨ w = "also" ∨ w = "pass") ∧ (k = "full" → w = "shut" ∨ w = "send" ∨ w = "show" ∨ w = "pass") ∧ (k = "long" → w = "shut" ∨ w = "send" ∨ w = "pass") ∧ (k = "out" → w = "bar" ∨ w = "hide" ∨ w = "pass") ∧ (k = "flash" → w = "swap" ∨ w = "join" ∨ w = "pass") ∧ (k = "drop" → w = "keep" ∨ w = "pass") ∧ (k = "free" → w = "ring" ∨ w = "pass") ∧ (k = "met" → w = "pass") := by decide +kernel
theorem far_ok {n me z : Int} (h2 : 2 ≤ n) (h4 : n ≤ 4) (m0 : 0 ≤ me) (m1 : me < n) (z0 : 0 ≤ z) (z1 : z < n - 1) : 0 ≤ (me + 1 + z) % n ∧ (me + 1 + z) % n < n ∧ (me + 1 + z) % n ≠ me := by
  have : n = 2 ∨ n = 3 ∨ n = 4 := by omega
  rcases this with rfl | rfl | rfl <;> omega
section
variable {N n : Int} {l : Nat} {μ : Mu}
theorem rule2_spec {me s : Int} (h : Hand N l μ) (hN : 40 ≤ N) (h2 : 2 ≤ n) (h4 : n ≤ 4) (hm0 : 0 ≤ me) (hmn : me < n) (s1 : 1 ≤ s) (s8 : s ≤ 8) : wp (sm_L_rule_2 [.ref l, .int n, .int me, .int s] μ) fun r m => (∃ q : Rule, r = q.d ∧ q.Ok ∧ RuleN n me q) ∧ Hand (N - 40) l m ∧ Fr l μ m := by
  have hl := h.lt
  refine wp_def rfl ?_
  repeat walk_at "y"
  refine drawF (h.push _) (by omega) (by decide) (by decide) fun v m1 v0 v1 hm1 f1 e1 => ?_
  have c0 : (μ ++ [Cell.lst (kinds12.map D.str)])[μ.length]? = some (.lst (kinds12.map D.str)) := get_last _ _
  have c1 := f1.get (k := μ.length) (by omega) c0
  obtain ⟨d, ed, hd⟩ := ix_mem (xs := kinds12.map D.str) v0 (by simpa [kinds12] using v1)
  obtain ⟨kd, hkd, rfl⟩ := List.mem_map.mp hd
  have hk8 := kinds12_8 kd hkd
  refine wp_ixL c1 ed ?_
  have lm1 := hm1.lt
  repeat walk_at "y"
  refine wp_dctA ?_
  repeat walk_at "y"
  simp only [List.append_assoc, List.length_append, List.cons_append, List.nil_append, List.length_cons, List.length_nil]
  refine ⟨by simp, fun M1 lM1 k0 kO => ?_⟩
  have g1 : Gr m1 M1 := gr_of ⟨by simp, fun j hj => by rw [List.getElem?_append_left hj]⟩ (by rw [lM1]; simp) (Nat.le_refl _) kO
  have k1 := (kO (m1.length + 1) (by omega)).trans (by simp; rfl)
  have k2 := (kO (m1.length + 2) (by omega)).trans (by simp; rfl)
  have k3 := (kO (m1.length + 3) (by omega)).trans (by simp; rfl)
  have k4 := (kO (m1.length + 4) (by omega)).trans (by simp; rfl)
  clear kO
  repeat walk_at "y"
  refine wp_dctRecv ?_
  repeat walk_at "y"
  refine ⟨_, _, rfl, k0, ?_⟩
  repeat walk_at "y"
  refine wp_dctA ?_
  repeat walk_at "y"
  simp only [List.append_assoc, List.length_append, List.cons_append, List.nil_append, List.length_cons, List.length_nil]
  refine ⟨by simp, fun M2 lM2 q0 qO => ?_⟩
  have g2 : Gr M1 M2 := gr_of ⟨by simp, fun j hj => by rw [List.getElem?_append_left hj]⟩ (by rw [lM2]; simp) (Nat.le_refl _) qO
  have q1 := (qO (M1.length + 1) (by omega)).trans (by simp; rfl)
  have q2 := (qO (M1.length + 2) (by omega)).trans (by simp; rfl)
  have q3 := (qO (M1.length + 3) (by omega)).trans (by simp; rfl)
  have q4 := (qO (M1.length + 4) (by omega)).trans (by simp; rfl)
  clear qO
  have k0' := g2.get k0
  have k1' := g2.get k1
  have k2' := g2.get k2
  have k3' := g2.get k3
  have k4' := g2.get k4
  repeat walk_at "y"
  refine wp_updA k0' q0 (by omega) (show 4 + 4 ≤ 1000000 by decide) fun M lM z0 zO => ?_
  have gM : Gr m1 M := gr_of (g1.trans g2) lM (Nat.le_refl _) zO
  have fM : Fr l μ M := ((Fr.refl.push _).trans f1).trans gM.fr
  have hM : Hand (N - 1) l M := hm1.gr gM
  have hlen : m1.length < M.length := by rw [lM]; have := g2.len; omega
  have look : ∃ k, valD (mergeD (mergeD [] [((.inr "out" : Key), .ref (m1.length + (0 + 1))), (.inr "in", .ref (m1.length + (0 + 1 + 1))), (.inr "full", .ref (m1.length + (0 + 1 + 1 + 1))), (.inr "met", .ref (m1.length + (0 + 1 + 1 + 1 + 1)))]) (mergeD [] [((.inr "long" : Key), .ref (M1.length + (0 + 1))), (.inr "flash", .ref (M1.length + (0 + 1 + 1))), (.inr "drop", .ref (M1.length + (0 + 1 + 1 + 1))), (.inr "free", .ref (M1.length + (0 + 1 + 1 + 1 + 1)))])) (.inr kd) = some (.ref k) ∧ M[k]? = some (.lst ((actsOf kd).map D.str)) := by
    simp only [kinds8, List.mem_cons, List.not_mem_nil, or_false] at hk8
    rcases hk8 with rfl | rfl | rfl | rfl | rfl | rfl | rfl | rfl
    · exact ⟨_, rfl, (zO _ (by omega)).trans k1'⟩
    · exact ⟨_, rfl, (zO _ (by omega)).trans k2'⟩
    · exact ⟨_, rfl, (zO _ (by omega)).trans k3'⟩
    · exact ⟨_, rfl, (zO _ (by omega)).trans k4'⟩
    · exact ⟨_, rfl, (zO _ (by omega)).trans q1⟩
    · exact ⟨_, rfl, (zO _ (by omega)).trans q2⟩
    · exact ⟨_, rfl, (zO _ (by omega)).trans q3⟩
    · exact ⟨_, rfl, (zO _ (by omega)).trans q4⟩
  obtain ⟨k, ek, ck⟩ := look
  have hal := actsOf_len kd hk8
  repeat walk_at "y"
  refine wp_dget z0 ek ?_
  repeat walk_at "y"
  refine wp_dget z0 ek ?_
  refine wp_catL ck ck (by simp; omega) ?_
  repeat walk_at "y"
  refine wp_catL (get_old (get_last _ _)) (get_last _ _) (by simp; omega) ?_
  have hMa := ((hM.push (.lst ((actsOf kd).map D.str ++ (actsOf kd).map D.str))).push (.lst [.str "pass"])).push (.lst ((actsOf kd).map D.str ++ (actsOf kd).map D.str ++ [.str "pass"]))
  have fMa := ((fM.push (.lst ((actsOf kd).map D.str ++ (actsOf kd).map D.str))).push (.lst [.str "pass"])).push (.lst ((actsOf kd).map D.str ++ (actsOf kd).map D.str ++ [.str "pass"]))
  have cw := get_last (M ++ [Cell.lst ((actsOf kd).map D.str ++ (actsOf kd).map D.str)] ++ [Cell.lst [.str "pass"]]) (.lst ((actsOf kd).map D.str ++ (actsOf kd).map D.str ++ [.str "pass"]))
  generalize hLa : (M ++ [Cell.lst ((actsOf kd).map D.str ++ (actsOf kd).map D.str)] ++ [Cell.lst [.str "pass"]]).length = La at cw
  have hLa2 : La = M.length + 2 := by rw [← hLa]; simp
  rw [show List.map D.str (actsOf kd) ++ List.map D.str (actsOf kd) ++ [D.str "pass"] = (actsOf kd ++ actsOf kd ++ ([("pass" : Str)] : List Str)).map D.str from by simp] at *
  repeat walk_at "y"
  refine wp_lenL cw ?_
  repeat walk_at "y"
  have lM0 := hM.lt
  refine drawF hMa (by omega) (by simp; omega) (by simp; omega) fun u m2 u0 u1 hm2 f2 e2 => ?_
  obtain ⟨d, ed2, hd2⟩ := ix_mem u0 u1
  obtain ⟨w, hw, rfl⟩ := List.mem_map.mp hd2
  obtain ⟨wok, walso⟩ := actsOf_ok kd hk8 w hw
  refine wp_ixL (f2.get (k := La) (by omega) cw) ed2 ?_
  have fm2 := fMa.trans f2
  repeat walk_at "y"
  refine wp_eq (op_inS (neg := false) ["send", "also"] (actws_ok _ wok) (by decide +kernel) rfl _) ?_
  repeat walk_at "y"
  have kfacts := actsOf_k kd hk8 w hw
  have tail : ∀ (ln : Option Int) (m : Mu), (w = "send" ∨ w = "also" → ∃ x, ln = some x) → (∀ x, ln = some x → 0 ≤ x ∧ x < n ∧ x ≠ me) → Hand (N - 3) l m → Fr l μ m → ws (seqS (asgS (callE sm_L_pattern (consA (vD 0) (consA (vD 1) nilA))) (nmG 9))
      (seqS (ifS (tst (CW.bin (inD false) (vD 5) (tupE (consA (cD (.str ("flash" : Str))) (consA (cD (.str ("drop" : Str))) nilA))))) (asgS (cD .non) (nmG 9)) skS)
      (retS (tupE (consA (callE sm_L_take (consA (vD 0) (consA (vD 3) nilA))) (consA (vD 5) (consA (vD 9) (consA (callE sm_L_tests (consA (vD 0) nilA)) (consA (vD 8) (consA (callE sm_L_take (consA (vD 0) (consA (vD 3) nilA))) nilA))))))))) 
      [some (.ref l), some (.int n), some (.int me), some (.int s), some (.ref μ.length), some (.str kd), some (.ref m1.length), some (.ref La), some (actD w ln), none] m)
      (fun _ μ1 => (∃ q : Rule, D.non = q.d ∧ q.Ok ∧ RuleN n me q) ∧ Hand (N - 40) l μ1 ∧ Fr l μ μ1) (fun r m => (∃ q : Rule, r = q.d ∧ q.Ok ∧ RuleN n me q) ∧ Hand (N - 40) l m ∧ Fr l μ m) (fun _ _ => False) (fun _ _ => False) := by
    intro ln m hln hlb hm fm
    have ret : ∀ (pat : D) (m : Mu), PatD pat → (kd = "flash" ∨ kd = "drop" → pat = .non) → Hand (N - 13) l m → Fr l μ m → ws (retS (tupE (consA (callE sm_L_take (consA (vD 0) (consA (vD 3) nilA))) (consA (vD 5) (consA (vD 9) (consA (callE sm_L_tests (consA (vD 0) nilA)) (consA (vD 8) (consA (callE sm_L_take (consA (vD 0) (consA (vD 3) nilA))) nilA))))))) 
      [some (.ref l), some (.int n), some (.int me), some (.int s), some (.ref μ.length), some (.str kd), some (.ref m1.length), some (.ref La), some (actD w ln), some pat] m)
      (fun _ μ1 => (∃ q : Rule, D.non = q.d ∧ q.Ok ∧ RuleN n me q) ∧ Hand (N - 40) l μ1 ∧ Fr l μ μ1) (fun r m => (∃ q : Rule, r = q.d ∧ q.Ok ∧ RuleN n me q) ∧ Hand (N - 40) l m ∧ Fr l μ m) (fun _ _ => False) (fun _ _ => False) := by
      intro pat m hpat hpn hm fm
      repeat walk_at "y"
      refine drawF hm (by omega) (by omega) (by omega) fun st m3 st0 st1 hm3 f3 e3 => ?_
      repeat walk_at "y"
      refine wp_mono (tests_spec hm3 (by omega)) ?_
      rintro _ m4 ⟨⟨ts, rfl, hts⟩, hm4, f4⟩
      repeat walk_at "y"
      refine drawF hm4 (by omega) (by omega) (by omega) fun nx m5 nx0 nx1 hm5 f5 e5 => ?_
      repeat walk_at "y"
      obtain ⟨k1, k2, k3, k4, k5, k6, k7, k8⟩ := kfacts
      exact ⟨⟨⟨st, kd, pat, ts, w, ln, nx⟩, rfl, ⟨hk8, hpat, hts, wok, fun hw => ⟨walso hw, hln (.inr hw)⟩, hpn⟩, ⟨hlb, hln, k1, k2, k3, k4, k5, k6, k7, k8⟩⟩, hm5.mono (by omega), ((fm.trans f3).trans f4).trans f5⟩
    repeat walk_at "y"
    refine wp_mono (pattern_spec hm (by omega) h2 h4) ?_
    rintro pat m3 ⟨hpat, hm3, f3⟩
    refine wp_nm ?_
    repeat walk_at "y"
    refine wp_eq (op_inS (neg := false) ["flash", "drop"] (kinds8_ok _ hk8) (by decide +kernel) rfl _) ?_
    repeat walk_at "y"
    refine ite2 (fun hc => ?_) (fun hc => ?_)
    · refine ws_asg (wp_c (wp_nm ?_))
      exact ret .non m3 (.inl rfl) (fun _ => rfl) (hm3.mono (by omega)) (fm.trans f3)
    · refine ws_sk ?_
      refine ret pat m3 hpat (fun hk => ?_) (hm3.mono (by omega)) (fm.trans f3)
      rcases hk with rfl | rfl
      · exact absurd (show (false ^^ (["flash", "drop"] : List Str).any fun y => y == "flash") = true by decide +kernel) hc
      · exact absurd (show (false ^^ (["flash", "drop"] : List Str).any fun y => y == "drop") = true by decide +kernel) hc
  refine ite2 (fun hc => ?_) (fun hc => ?_)
  · repeat walk_at "y"
    refine wp_def rfl ?_
    repeat walk_at "y"
    refine drawF hm2 (by omega) (by omega) (by omega) fun z m3 z0 z1 hm3 f3 e3 => ?_
    repeat walk_at "y"
    refine wp_mod (by omega) ?_
    repeat walk_at "y"
    refine wp_catT (by simp) ?_
    refine wp_nm ?_
    refine tail (some _) m3 (fun _ => ⟨_, rfl⟩) (fun x hx => ?_) (hm3.mono (by omega)) (fm2.trans f3)
    cases hx
    exact far_ok h2 h4 hm0 hmn z0 z1
  · refine ws_sk ?_
    refine tail none m2 (fun hw => ?_) (fun x hx => nomatch hx) (hm2.mono (by omega)) fm2
    rcases hw with rfl | rfl
    · exact absurd (show (false ^^ (["send", "also"] : List Str).any fun y => y == "send") = true by decide +kernel) hc
    · exact absurd (show (false ^^ (["send", "also"] : List Str).any fun y => y == "also") = true by decide +kernel) hc
end

theorem wp_ext {Q : D → Mu → Prop} {μ : Mu} {l b : Nat} {xs zs : List D} (hl : μ[l]? = some (.lst xs)) (hb : μ[b]? = some (.lst zs)) (hz : xs.length + zs.length < 1000000) (q : Q .non (μ.set l (.lst (xs ++ zs)))) : wp (extM (.ref l) [.ref b] μ) Q := by
  refine wp_eq ?_ q
  unfold extM
  simp only [hl, hb]
  rw [if_pos hz]
theorem rng_at {k : Nat} {x : D} {i : Nat} (hx : ((List.range k).map fun j : Nat => D.int (0 + j))[i]? = some x) : i < k ∧ x = .int (i : Nat) := by
  rw [List.getElem?_map] at hx
  cases e : (List.range k)[i]? with
  | none => rw [e] at hx; cases hx
  | some q =>
    rw [e] at hx
    obtain ⟨h1, h2⟩ := List.getElem?_eq_some_iff.mp e
    simp at h1 h2
    subst h2
    cases hx
    exact ⟨by omega, by simp⟩
theorem rng_mem {k : Nat} {x : D} (hx : x ∈ (List.range k).map fun j : Nat => D.int (0 + j)) : ∃ j : Nat, j < k ∧ x = .int (j : Nat) := by
  obtain ⟨j, hj, rfl⟩ := List.mem_map.mp hx
  exact ⟨j, List.mem_range.mp hj, by simp⟩
theorem deeds_of {n : Int} : ∀ {ys : List D}, (∀ y ∈ ys, ∃ d : Deed, y = d.d ∧ d.Ok n) → ∃ ds : List Deed, ys = ds.map Deed.d ∧ (∀ d ∈ ds, d.Ok n) ∧ ds.length = ys.length
  | [], _ => ⟨[], rfl, (fun _ h => nomatch h), rfl⟩
  | y :: ys, h => by
    obtain ⟨q, rfl, hq⟩ := h y List.mem_cons_self
    obtain ⟨rs, e, h3, h4⟩ := deeds_of fun z hz => h z (List.mem_cons_of_mem _ hz)
    refine ⟨q :: rs, by rw [e]; rfl, fun r hr => ?_, by simp [h4]⟩
    rcases List.mem_cons.mp hr with rfl | hr
    · exact hq
    · exact h3 r hr
section
variable {N n : Int} {l : Nat} {μ : Mu}
theorem deeds_spec (h2 : 2 ≤ n) (h4 : n ≤ 4) : wp (sm_L_deeds [.int n] μ) fun r m => ∃ (k : Nat) (ds : List Deed), r = .ref k ∧ m[k]? = some (.lst (ds.map Deed.d)) ∧ (∀ d ∈ ds, d.Ok n) ∧ ds.length ≤ 100 ∧ 1 ≤ ds.length ∧ Gr μ m := by
  refine wp_def rfl ?_
  repeat walk_at "y"
  refine ws_for_fix (wp_rng1 ?_)
  repeat walk_at "y"
  refine ⟨by omega, by omega, _, rfl, fun i e q => ∃ (x2 x3 x4 : Option D) (acc : List Deed), e = [some (.int n), some (.ref μ.length), x2, x3, x4] ∧ Gr μ q ∧ q[μ.length]? = some (.lst (acc.map Deed.d)) ∧ (∀ d ∈ acc, d.Ok n) ∧ acc.length ≤ 4 * i, ?_, ?_, ?_⟩
  · exact ⟨_, _, _, [], rfl, Gr.refl.push _, get_last _ _, (fun _ h => nomatch h), by simp⟩
  · rintro i x e q hx ⟨x2, x3, x4, acc, rfl, gq, cq, hok, hal⟩
    obtain ⟨hi, rfl⟩ := rng_at hx
    repeat walk_at "y"
    refine wp_lstRecv (l := 0) (xs := []) ?_
    repeat walk_at "y"
    refine ⟨_, _, rfl, cq, ?_⟩
    repeat walk_at "y"
    refine wp_lcP (p := fun d => match d with | .int j => !(j == (i : Int)) | _ => false) (k := fun d => .tup [.str "dial", .int (i : Nat), d]) (wp_rng1 ?_)
    repeat walk_at "y"
    refine ⟨by omega, by omega, _, rfl, by simp; omega, fun x hx => ?_, fun x hx _ => ?_, ?_⟩
    · obtain ⟨j, hj, rfl⟩ := rng_mem hx
      exact evt_tst (ev_bin (ev_v rfl) (ev_v rfl) op_neI)
    · exact ev_tup (eva_cons ev_c (eva_cons (ev_v rfl) (eva_cons (ev_v rfl) eva_nil)))
    obtain ⟨ds, eds, hds, hdl⟩ := deeds_of (n := n) (ys := (((List.range n.toNat).map fun k : Nat => D.int (0 + k)).filter fun d => match d with | .int j => !(j == (i : Int)) | _ => false).map fun d => D.tup [.str "dial", .int (i : Nat), d]) fun y hy => by
      obtain ⟨x, hx, rfl⟩ := List.mem_map.mp hy
      obtain ⟨hx1, hx2⟩ := List.mem_filter.mp hx
      obtain ⟨j, hj, rfl⟩ := rng_mem hx1
      refine ⟨.dial i j, rfl, by omega, by omega, by omega, by omega, fun z => ?_⟩
      simp at hx2
      omega
    have hlen : ds.length ≤ 4 := by
      rw [hdl, List.length_map]
      refine Nat.le_trans (List.length_filter_le _ _) ?_
      simp; omega
    repeat walk_at "y"
    have cq2 : (q ++ [Cell.lst (ds.map Deed.d)])[μ.length]? = some (.lst (acc.map Deed.d)) := get_old cq
    rw [eds]
    refine wp_ext cq2 (get_last _ _) (by simp; omega) ?_
    refine ⟨_, _, _, acc ++ ds, rfl, (gq.push _).set (Nat.le_refl _) _, by rw [set_get cq2, List.map_append], fun d hd => ?_, by simp; omega⟩
    rcases List.mem_append.mp hd with hd | hd
    · exact hok d hd
    · exact hds d hd
  · rintro e q ⟨x2, x3, x4, acc, rfl, gq, cq, hok, hal⟩
    simp only [List.length_map, List.length_range] at hal
    repeat walk_at "y"
    refine ws_for_fix (wp_seqIT ?_)
    repeat walk_at "y"
    refine ⟨fun i e q => ∃ (x2 x3 x4 : Option D) (acc : List Deed), e = [some (.int n), some (.ref μ.length), x2, x3, x4] ∧ Gr μ q ∧ q[μ.length]? = some (.lst (acc.map Deed.d)) ∧ (∀ d ∈ acc, d.Ok n) ∧ acc.length ≤ 16 + 4 * i, ?_, ?_, ?_⟩
    · exact ⟨_, _, _, acc, rfl, gq, cq, hok, by omega⟩
    · rintro i x e q hx ⟨x2, x3, x4, acc, rfl, gq, cq, hok, hal⟩
      have hx' : x ∈ [D.str "take", .str "drop", .str "flash"] := List.mem_of_getElem? hx
      have hi : i < 3 := (List.getElem?_eq_some_iff.mp hx).1
      repeat walk_at "y"
      refine wp_lstRecv (l := 0) (xs := []) ?_
      repeat walk_at "y"
      refine ⟨_, _, rfl, cq, ?_⟩
      repeat walk_at "y"
      refine wp_lcP (p := fun _ => true) (k := fun d => .tup [x, d]) (wp_rng1 ?_)
      repeat walk_at "y"
      refine ⟨by omega, by omega, _, rfl, by simp; omega, fun x hx => evt_yes, fun y hy _ => ?_, ?_⟩
      · exact ev_tup (eva_cons (ev_v rfl) (eva_cons (ev_v rfl) eva_nil))
      obtain ⟨ds, eds, hds, hdl⟩ := deeds_of (n := n) (ys := (((List.range n.toNat).map fun k : Nat => D.int (0 + k)).filter fun _ => true).map fun d => D.tup [x, d]) fun y hy => by
        obtain ⟨z, hz, rfl⟩ := List.mem_map.mp hy
        obtain ⟨j, hj, rfl⟩ := rng_mem (List.mem_filter.mp hz).1
        simp only [List.mem_cons, List.not_mem_nil, or_false] at hx'
        rcases hx' with rfl | rfl | rfl
        · exact ⟨.take j, rfl, by omega, by omega⟩
        · exact ⟨.drop j, rfl, by omega, by omega⟩
        · exact ⟨.flash j, rfl, by omega, by omega⟩
      have hlen : ds.length ≤ 4 := by
        rw [hdl, List.length_map]
        refine Nat.le_trans (List.length_filter_le _ _) ?_
        simp; omega
      repeat walk_at "y"
      have cq2 : (q ++ [Cell.lst (ds.map Deed.d)])[μ.length]? = some (.lst (acc.map Deed.d)) := get_old cq
      rw [eds]
      refine wp_ext cq2 (get_last _ _) (by simp; omega) ?_
      refine ⟨_, _, _, acc ++ ds, rfl, (gq.push _).set (Nat.le_refl _) _, by rw [set_get cq2, List.map_append], fun d hd => ?_, by simp; omega⟩
      rcases List.mem_append.mp hd with hd | hd
      · exact hok d hd
      · exact hds d hd
    · rintro e q ⟨x2, x3, x4, acc, rfl, gq, cq, hok, hal⟩
      simp only [List.length_cons, List.length_nil] at hal
      repeat walk_at "y"
      refine wp_catL (get_old cq) (get_last _ _) (by simp; omega) ?_
      refine ⟨_, acc ++ [.wait, .turn], rfl, by rw [get_last]; simp [Deed.d, Deed.w, Deed.ls], fun d hd => ?_, by simp; omega, by simp, (gq.push _).push _⟩
      rcases List.mem_append.mp hd with hd | hd
      · exact hok d hd
      · simp only [List.mem_cons, List.not_mem_nil, or_false] at hd
        rcases hd with rfl | rfl <;> trivial
theorem rules_of {n me : Int} : ∀ {ys : List D}, (∀ y ∈ ys, ∃ q : Rule, y = q.d ∧ q.Ok ∧ RuleN n me q) → ∃ rs : List Rule, ys = rs.map Rule.d ∧ (∀ r ∈ rs, r.Ok ∧ RuleN n me r) ∧ rs.length = ys.length
  | [], _ => ⟨[], rfl, (fun _ h => nomatch h), rfl⟩
  | y :: ys, h => by
    obtain ⟨q, rfl, hq⟩ := h y List.mem_cons_self
    obtain ⟨rs, e, h3, h4⟩ := rules_of fun z hz => h z (List.mem_cons_of_mem _ hz)
    refine ⟨q :: rs, by rw [e]; rfl, fun r hr => ?_, by simp [h4]⟩
    rcases List.mem_cons.mp hr with rfl | hr
    · exact hq
    · exact h3 r hr
/-- a wish of a house -/
structure WOk (n : Int) (w : Wish) : Prop where
  ok : w.Ok
  tw : TWish w.d
  me : 0 ≤ w.me ∧ w.me < n
  rule : ∀ r ∈ w.rules, RuleN n w.me r
  gb : w.gb = false
theorem hs_of {ws : List Wish} (h2 : 2 ≤ n) (h4 : n ≤ 4) (hl : ws.length ≤ 20) (h : ∀ w ∈ ws, WOk n w) : Hs n ws := ⟨h2, h4, hl, fun w hw => (h w hw).ok, fun w hw => (h w hw).tw, fun w hw => (h w hw).me, fun w hw => (h w hw).rule⟩
theorem house_spec {many most : Int} (h : Hand N l μ) (hN : 20000 ≤ N) (h2 : 2 ≤ n) (h4 : n ≤ 4) (k0 : 0 ≤ many) (k8 : many ≤ 8) (p0 : 0 ≤ most) (p15 : most ≤ 15) : wp (sm_L_house [.ref l, .int n, .int many, .int most] μ) fun r m => (∃ (ws : List Wish) (ds : List Deed), r = houD n ws (.tup (ds.map Deed.d)) ∧ Hs n ws ∧ (∀ w ∈ ws, w.gb = false) ∧ (∀ d ∈ ds, d.Ok n) ∧ 1 ≤ ds.length ∧ ds.length ≤ 100 ∧ ws.length ≤ 8) ∧ Hand (N - 20000) l m ∧ Fr l μ m := by
  have hl := h.lt
  refine wp_def rfl ?_
  repeat walk_at "y"
  refine ws_for_fix (wp_rng1 ?_)
  repeat walk_at "y"
  refine ⟨by omega, by omega, _, rfl, fun i e q => ∃ (x5 x6 x7 x8 x9 x10 : Option D) (acc : List Wish), e = [some (.ref l), some (.int n), some (.int many), some (.int most), some (.ref μ.length), x5, x6, x7, x8, x9, x10] ∧ Hand (N - 2000 * i) l q ∧ Fr l μ q ∧ q[μ.length]? = some (.lst (acc.map Wish.d)) ∧ acc.length = i ∧ ∀ w ∈ acc, WOk n w, ?_, ?_, ?_⟩
  · exact ⟨_, _, _, _, _, _, [], rfl, (h.push _).mono (by omega), Fr.refl.push _, get_last _ _, rfl, fun _ h => nomatch h⟩
  · rintro i x e q hx ⟨x5, x6, x7, x8, x9, x10, acc, rfl, hq, fq, cq, hal, hacc⟩
    have hi : i < many.toNat := (rng_at hx).1
    have lq := hq.lt
    have lm := fq.len
    repeat walk_at "y"
    refine drawF hq (by omega) (by omega) (by omega) fun me q1 me0 me1 hq1 f1 e1 => ?_
    repeat walk_at "y"
    refine drawF hq1 (by omega) (by omega) (by omega) fun s q2 s0 s1 hq2 f2 e2 => ?_
    repeat walk_at "y"
    refine wp_lcDY (l := l) (N := N - 2000 * i - 1 - 1 - 1) (c := 40) (P := fun x y => ∃ q : Rule, y = q.d ∧ q.Ok ∧ RuleN n me q) (wp_rng1 ?_)
    repeat walk_at "y"
    refine drawF hq2 (by omega) (by omega) (by omega) fun u q3 u0 u1 hq3 f3 e3 => ?_
    repeat walk_at "y"
    refine ⟨by omega, by omega, _, still_fix, by simp; omega, hq3, by decide, by simp; omega, ?_, ?_⟩
    · intro x hx m M hM cM fr
      repeat walk_at "y"
      exact rule2_spec hM cM h2 h4 me0 me1 (by omega) (by omega)
    intro ys q4 hy hlen hcell hh fr
    simp only [List.length_map, List.length_range] at hh hlen
    obtain ⟨rs, rfl, hrs, hrl⟩ := rules_of fun y hy' => by obtain ⟨_, _, h⟩ := hy y hy'; exact h
    have f04 : Fr l q q4 := ((f1.trans f2).trans f3).trans fr
    have hq4 : Hand (N - 2000 * i - 700) l q4 := hh.mono (by omega)
    repeat walk_at "y"
    refine wp_lcDY (l := l) (N := N - 2000 * i - 700 - 1) (c := 60) (P := fun x y => TRule y) (wp_rng1 ?_)
    repeat walk_at "y"
    refine drawF hq4 (by omega) (by omega) (by omega) fun v q5 v0 v1 hq5 f5 e5 => ?_
    repeat walk_at "y"
    refine ⟨by omega, by omega, _, still_fix, by simp; omega, hq5, by decide, by simp; omega, ?_, ?_⟩
    · intro x hx m M hM cM fr
      repeat walk_at "y"
      exact tale_rule_spec hM cM h2 h4 (by omega) (by omega)
    intro ts q6 ht htl htc hh6 fr6
    simp only [List.length_map, List.length_range] at hh6 htl
    have f06 : Fr l q q6 := (f04.trans f5).trans fr6
    have cq6 := f06.get (k := μ.length) (by omega) cq
    have lq3 : q3.length ≤ q4.length := fr.len
    have lq1 := f1.len
    have crs := (f5.trans fr6).get (k := q3.length) (by omega) hcell
    repeat walk_at "y"
    refine wp_lstRecv (l := 0) (xs := []) ?_
    repeat walk_at "y"
    refine ⟨_, _, rfl, cq6, ?_⟩
    repeat walk_at "y"
    refine wp_tupL crs ?_
    repeat walk_at "y"
    refine wp_tupL htc ?_
    repeat walk_at "y"
    refine wp_app cq6 (by simp; omega) ?_
    refine ⟨_, _, _, _, _, _, acc ++ [⟨me, rs, .tup ts, false⟩], rfl, (hh6.set (by omega) _).mono (by omega), (fq.trans f06).set (Nat.le_refl _) _, by rw [set_get cq6, List.map_append]; rfl, by simp; omega, fun w hw => ?_⟩
    rcases List.mem_append.mp hw with hw | hw
    · exact hacc w hw
    · rw [List.mem_singleton.mp hw]
      simp only [List.length_map] at hrl hlen
      exact ⟨⟨fun r hr => (hrs r hr).1, by show rs.length ≤ 100; omega⟩, ⟨_, _, ts, rfl, fun r hr => by obtain ⟨_, _, h⟩ := ht r hr; exact h, by omega⟩, ⟨me0, me1⟩, fun r hr => (hrs r hr).2, rfl⟩
  · rintro e q ⟨x5, x6, x7, x8, x9, x10, acc, rfl, hq, fq, cq, hal, hacc⟩
    simp only [List.length_map, List.length_range] at hq hal
    repeat walk_at "y"
    refine wp_tupL cq ?_
    repeat walk_at "y"
    refine wp_mono (deeds_spec h2 h4) ?_
    rintro r m ⟨k, ds, rfl, ck, hds, hd1, hd2, gm⟩
    repeat walk_at "y"
    refine wp_tupL ck ?_
    repeat walk_at "y"
    exact ⟨⟨acc, ds, rfl, hs_of h2 h4 (by omega) hacc, (fun w hw => (hacc w hw).gb), hds, hd2, hd1, by omega⟩, (hq.gr gm).mono (by omega), fq.trans gm.fr⟩
end

def Good3 : Nat → D → Prop
  | 0, _ => False
  | k + 1, .int _ => True
  | k + 1, .bl _ => True
  | k + 1, .non => True
  | k + 1, .str x => PyData.strOk x = true
  | k + 1, .tup xs => xs.length < 100000 ∧ ∀ x ∈ xs, Good3 k x
  | _ + 1, _ => False
theorem bls_rep3 : ∀ n, blsD (List.replicate n (.bl true)) = some (List.replicate n true)
  | 0 => rfl
  | n + 1 => by rw [List.replicate_succ, List.replicate_succ]; show (blsD (List.replicate n (.bl true))).map _ = _; rw [bls_rep3 n]; rfl
theorem same3_ok : ∀ (k : Nat) (x : D) (μ : Mu), Good3 k x → wp (same0 k [x, x] μ) fun r m => r = .bl true ∧ Gr μ m
  | 0, _, _, h => h.elim
  | k + 1, .int i, μ, _ => by
    refine wp_def rfl ?_
    repeat walk_at "w"
    refine iteF ?_
    repeat walk_at "w"
    refine wp_eq rfl ?_
    repeat walk_at "w"
    refine iteF ?_
    repeat walk_at "w"
    refine iteF ?_
    repeat walk_at "w"
    refine iteF ?_
    repeat walk_at "w"
    refine iteF ?_
    repeat walk_at "w"
    refine iteT ?_
    repeat walk_at "w"
    exact ⟨by simp, Gr.refl⟩
  | k + 1, .bl b, μ, _ => by
    refine wp_def rfl ?_
    repeat walk_at "w"
    refine iteF ?_
    repeat walk_at "w"
    refine wp_eq rfl ?_
    repeat walk_at "w"
    refine iteF ?_
    repeat walk_at "w"
    refine iteF ?_
    repeat walk_at "w"
    refine iteT ?_
    repeat walk_at "w"
    refine iteT ?_
    repeat walk_at "w"
    refine iteT ?_
    repeat walk_at "w"
    refine wp_eq (a := .bl true) (μ := μ) ?_ ⟨rfl, Gr.refl⟩
    simp [CW.bin, vD, eqD, pyD, PyData.eqv]
  | k + 1, .non, μ, _ => by
    refine wp_def rfl ?_
    repeat walk_at "w"
    refine iteF ?_
    repeat walk_at "w"
    refine wp_eq rfl ?_
    repeat walk_at "w"
    refine iteT ?_
    repeat walk_at "w"
    exact wp_eq rfl ⟨rfl, Gr.refl⟩
  | k + 1, .str w, μ, h => by
    have hw : PyData.strOk w = true := h
    refine wp_def rfl ?_
    repeat walk_at "w"
    refine iteF ?_
    repeat walk_at "w"
    refine wp_eq rfl ?_
    repeat walk_at "w"
    refine iteF ?_
    repeat walk_at "w"
    refine iteT ?_
    repeat walk_at "w"
    refine iteT ?_
    repeat walk_at "w"
    refine wp_eq (a := .bl true) (μ := μ) ?_ ⟨rfl, Gr.refl⟩
    simp [eqD, pyD, PyData.eqv, hw]
  | k + 1, .fl _, μ, h => h.elim
  | k + 1, .ref _, μ, h => h.elim
  | k + 1, .fn _, μ, h => h.elim
  | k + 1, .tup xs, μ, h => by
    obtain ⟨hx, hg⟩ := h
    refine wp_def rfl ?_
    repeat walk_at "w"
    refine iteT ?_
    repeat walk_at "w"
    refine iteF ?_
    repeat walk_at "w"
    rw [beq_self_eq_true]
    refine iteF ?_
    repeat walk_at "w"
    refine wp_lc (wp_zipI ?_)
    repeat walk_at "w"
    refine ⟨xs, xs, rfl, xs.map fun x => .tup [x, x], ?_, ?_, fun i m acc => acc = List.replicate i (.bl true) ∧ m[μ.length]? = some (.lst acc) ∧ Gr μ m, ?_, ?_, ?_, ?_, ?_⟩
    · simp [zipIt]
    · simpa using Nat.lt_trans hx (by decide)
    · exact ⟨rfl, get_last _ _, Gr.refl.push _⟩
    · rintro i m acc _
      show some _ = _
      rw [List.getElem?_map]
      cases xs[i]? <;> rfl
    · rintro i m acc ⟨rfl, h2, _⟩
      exact ⟨h2, by simp⟩
    · rintro i x m acc hx2 ⟨rfl, h2, g⟩
      rw [List.getElem?_map] at hx2
      cases e : xs[i]? with
      | none => rw [e] at hx2; cases hx2
      | some y =>
        rw [e] at hx2
        cases hx2
        refine wp_tupG2 ?_
        repeat walk_at "w"
        refine iteT ?_
        repeat walk_at "w"
        refine wp_mono (same3_ok k y m (hg y (List.mem_of_getElem? e))) ?_
        rintro r m' ⟨rfl, g2⟩
        have h3 := g2.get h2
        exact ⟨h3, (List.replicate_succ' ..).symm, set_get h3, (g.trans g2).set (Nat.le_refl _) _⟩
    · rintro m acc ⟨rfl, h2, g⟩
      repeat walk_at "w"
      refine wp_eq (a := .bl true) (μ := m) ?_ ⟨rfl, g⟩
      unfold allB
      simp only
      rw [h2]; simp only; rw [bls_rep]
      simp
theorem same3_to {sm : Nat → List D → Mu → Option (D × Mu)} (e : ∀ k, sm k = same0 k) {k : Nat} {x y : D} {μ : Mu} {Q : D → Mu → Prop} (g : Good3 k x) (hxy : x = y) (q : ∀ m, Gr μ m → Q (.bl true) m) : wp (sm k [x, y] μ) Q := by
  subst hxy
  rw [e k]
  refine wp_mono (same3_ok k x μ g) ?_
  rintro r m ⟨rfl, g2⟩
  exact q m g2
theorem same_eq3 : ∀ k, sm_L_same k = same0 k := by
  intro k
  induction k with
  | zero => rfl
  | succ k ih => unfold sm_L_same same0; rw [ih]
def clr (s : Sc) : Sc := { s with ev := [] }
def nextF (n : Int) (ws : List Wish) (d : Deed) (s : Sc) : Sc := clr (stepF n ws d s)
def evF (n : Int) (ws : List Wish) (d : Deed) (s : Sc) : List D := (stepF n ws d s).ev
def runS (n : Int) (ws : List Wish) (ds : List Deed) (s : Sc) : Sc := ds.foldl (fun s d => nextF n ws d s) s
def evsL (n : Int) (ws : List Wish) : List Deed → Sc → List D
  | [], _ => []
  | d :: ds, s => .tup (evF n ws d s) :: evsL n ws ds (nextF n ws d s)
def s0 (ws : List Wish) : Sc := ⟨[], 0, List.replicate ws.length 0, List.replicate ws.length (.int 0), []⟩
section
variable {n : Int} {ws : List Wish} {s : Sc} {dD : D} {b : Nat}
theorem clr_sk (h : Sk n ws b s) : Sk n ws 1000000 (clr s) := ⟨h.cs, h.mi, h.tl, h.st, by simp [clr], (fun d hd => nomatch hd), h.br⟩
theorem s0_sk (hg : ∀ w ∈ ws, w.gb = false) : Sk n ws 1000000 (s0 ws) := ⟨⟨(fun _ h => nomatch h), .nil, .nil⟩, by simp [s0], by simp [s0], fun d hd => by
  have := List.eq_of_mem_replicate hd
  exact .inr ⟨0, this⟩, by simp [s0], (fun d hd => nomatch hd), fun i w hw hg' => by rw [hg w (List.mem_of_getElem? hw)] at hg'; cases hg'⟩
theorem stp_ok (H : Hs n ws) (h : Sk n ws 1000000 s) {d : Deed} (hd : d.Ok n) : PG sm_stepped [houD n ws dD, scD s, d.d] (.tup [scD (nextF n ws d s), .tup (evF n ws d s)]) := by
  have he : s.ev = [] := by have := h.ev; exact List.eq_nil_of_length_eq_zero (by omega)
  exact stepped_ok (bb := 998700) H h hd he
theorem next_sk (H : Hs n ws) (h : Sk n ws 1000000 s) {d : Deed} (hd : d.Ok n) : Sk n ws 1000000 (nextF n ws d s) := clr_sk (step_sk (bb := 998700) H h hd)
theorem run_sk (H : Hs n ws) : ∀ (ds : List Deed) (s : Sc), Sk n ws 1000000 s → (∀ d ∈ ds, d.Ok n) → Sk n ws 1000000 (runS n ws ds s)
  | [], _, h, _ => h
  | d :: ds, s, h, hd => run_sk H ds _ (next_sk H h (hd d List.mem_cons_self)) fun x hx => hd x (List.mem_cons_of_mem _ hx)
theorem run_snoc (ds : List Deed) (d : Deed) (s : Sc) : runS n ws (ds ++ [d]) s = nextF n ws d (runS n ws ds s) := by
  unfold runS; rw [List.foldl_append]; rfl
theorem evs_snoc : ∀ (ds : List Deed) (d : Deed) (s : Sc), evsL n ws (ds ++ [d]) s = evsL n ws ds s ++ [.tup (evF n ws d (runS n ws ds s))]
  | [], d, s => rfl
  | x :: ds, d, s => by
    show _ :: evsL n ws (ds ++ [d]) _ = _
    rw [evs_snoc ds d]
    rfl
theorem evs_len : ∀ (ds : List Deed) (s : Sc), (evsL n ws ds s).length = ds.length
  | [], _ => rfl
  | d :: ds, s => by simp [evsL, evs_len ds]
theorem begun_ok {μ : Mu} {Q : D → Mu → Prop} (H : Hs n ws) (q : Q (scD (s0 ws)) μ) : wp (sm_begun [houD n ws dD] μ) Q := by
  have hl := H.len
  refine wp_def rfl ?_
  repeat walk_at "y"
  refine wp_mulT (by simp; omega) ?_
  repeat walk_at "y"
  simpa [s0, scD] using q
theorem ran_ok (H : Hs n ws) (hg : ∀ w ∈ ws, w.gb = false) {ds : List Deed} (hd : ∀ d ∈ ds, d.Ok n) (hz : ds.length ≤ 1000) : PG sm_ran [houD n ws dD, .tup (ds.map Deed.d)] (.tup [scD (runS n ws ds (s0 ws)), .tup (evsL n ws ds (s0 ws))]) := fun μ => by
  refine wp_def rfl ?_
  repeat walk_at "y"
  refine begun_ok H ?_
  repeat walk_at "y"
  refine ws_for_fix (wp_seqIT ?_)
  repeat walk_at "y"
  refine ⟨fun i e q => ∃ (x4 x5 : Option D), e = [some (houD n ws dD), some (.tup (ds.map Deed.d)), some (scD (runS n ws (ds.take i) (s0 ws))), some (.ref μ.length), x4, x5] ∧ Gr μ q ∧ q[μ.length]? = some (.lst (evsL n ws (ds.take i) (s0 ws))), ?_, ?_, ?_⟩
  · exact ⟨_, _, rfl, Gr.refl.push _, get_last _ _⟩
  · rintro i x e q hx ⟨x4, x5, rfl, gq, cq⟩
    rw [List.getElem?_map] at hx
    cases ed : ds[i]? with
    | none => rw [ed] at hx; cases hx
    | some d =>
    rw [ed] at hx
    cases hx
    have hmem := List.mem_of_getElem? ed
    have hi := (List.getElem?_eq_some_iff.mp ed).1
    have htk : ds.take (i + 1) = ds.take i ++ [d] := by rw [List.take_add_one, ed]; rfl
    have hs := run_sk H (ds.take i) _ (s0_sk (ws := ws) hg) fun d h => hd d (List.mem_of_mem_take h)
    repeat walk_at "y"
    refine wp_mono (stp_ok H hs (hd d hmem) q) ?_
    rintro _ q2 ⟨rfl, g2⟩
    repeat walk_at "y"
    refine wp_lstRecv (l := 0) (xs := []) ?_
    repeat walk_at "y"
    refine ⟨_, _, rfl, g2.get cq, ?_⟩
    repeat walk_at "y"
    refine wp_app (g2.get cq) (by rw [evs_len, List.length_take]; omega) ?_
    refine ⟨_, _, by rw [htk, run_snoc]; rfl, (gq.trans g2).set (Nat.le_refl _) _, by rw [set_get (g2.get cq), htk, evs_snoc]⟩
  · rintro e q ⟨x4, x5, rfl, gq, cq⟩
    rw [List.length_map, List.take_of_length_le (Nat.le_refl _)] at *
    repeat walk_at "y"
    refine wp_tupL cq ?_
    repeat walk_at "y"
    exact ⟨rfl, gq⟩
end
def isBrk : D → Bool
  | .tup [_, .non] => true
  | _ => false
def numD : D → D
  | .tup [i, _] => i
  | _ => .non
def brkD (tl : List D) : List D := ((enumD tl).filter isBrk).map numD
theorem mem_enumD {xs : List D} {x : D} (h : x ∈ enumD xs) : ∃ (i : Nat) (y : D), x = .tup [.int (i : Nat), y] ∧ xs[i]? = some y := by
  obtain ⟨j, hj⟩ := List.mem_iff_getElem?.mp h
  rw [enumD_get] at hj
  split at hj
  · rename_i y hy
    cases hj
    exact ⟨j, y, rfl, hy⟩
  · cases hj
theorem brk_mem {tl : List D} {x : D} : x ∈ brkD tl ↔ ∃ i : Nat, x = .int (i : Nat) ∧ tl[i]? = some .non := by
  unfold brkD
  constructor
  · intro h
    obtain ⟨z, hz, rfl⟩ := List.mem_map.mp h
    obtain ⟨h1, h2⟩ := List.mem_filter.mp hz
    obtain ⟨i, y, rfl, hy⟩ := mem_enumD h1
    refine ⟨i, rfl, ?_⟩
    cases y <;> simp [isBrk] at h2
    exact hy
  · rintro ⟨i, rfl, hi⟩
    refine List.mem_map.mpr ⟨.tup [.int (i : Nat), .non], List.mem_filter.mpr ⟨List.mem_iff_getElem?.mpr ⟨i, by rw [enumD_get, hi]⟩, rfl⟩, rfl⟩
theorem brk_len (tl : List D) : (brkD tl).length ≤ tl.length := by
  unfold brkD
  rw [List.length_map]
  refine Nat.le_trans (List.length_filter_le _ _) ?_
  unfold enumD
  rw [List.length_mapIdx]
  exact Nat.le_refl _
theorem brk_good {tl : List D} (hz : tl.length < 1000) {k : Nat} (hk : 2 ≤ k) : Good3 k (.tup (brkD tl)) := by
  obtain ⟨k, rfl⟩ : ∃ k', k = k' + 2 := ⟨k - 2, by omega⟩
  have := brk_len tl
  refine ⟨by omega, fun x hx => ?_⟩
  obtain ⟨i, rfl, _⟩ := brk_mem.mp hx
  trivial
theorem ev_tupGG {fi : Im} {gt : Gm} {t : Tm} {g : Sm} {env : CW.Env} {ge : D → CW.Env} {xs : List D} {vs : List Nat} {p : D → Bool} {k : D → D} (hf : ∀ m, fi env m = some (fixIt xs, m)) (hg : ∀ x ∈ xs, ∀ m, gt x (wipeE env vs) m = some (ge x, m)) (ht : ∀ x ∈ xs, EvT t (ge x) (p x)) (he : ∀ x ∈ xs, p x = true → Ev g (ge x) (k x)) (hz : xs.length ≤ 1000000) :
    Ev (tupGE fi gt t g vs) env (.tup ((xs.filter p).map k)) := fun m => by
  have go : ∀ (ys : List D) (i : Nat), xs.drop i = ys → tupGo (fixIt xs).item gt t g (wipeE env vs) (ys.length + 1) i m = some ((ys.filter p).map k, m) := by
    intro ys
    induction ys with
    | nil =>
      intro i hd
      have hx : xs[i]? = none := List.getElem?_eq_none_iff.mpr (List.drop_eq_nil_iff.mp hd)
      unfold tupGo
      have e0 : (fixIt xs).item i m = some none := by show some xs[i]? = _; rw [hx]
      rw [e0]; rfl
    | cons y ys ih =>
      intro i hd
      have hx : xs[i]? = some y := by
        have := congrArg (fun l => l[0]?) hd
        simpa using this
      have hd' : xs.drop (i + 1) = ys := by
        have := congrArg List.tail hd
        simpa [List.tail_drop] using this
      have e0 : (fixIt xs).item i m = some (some y) := by show some xs[i]? = _; rw [hx]
      have hm := List.mem_of_getElem? hx
      have hp := ht y hm m
      rw [List.length_cons]
      unfold tupGo
      rw [e0]; simp only
      rw [hg y hm m]; simp only
      rw [hp]; simp only
      cases hpy : p y with
      | true =>
        rw [if_pos rfl, he y hm hpy m]; simp only
        rw [ih (i + 1) hd', List.filter_cons, if_pos hpy]; rfl
      | false =>
        rw [if_neg Bool.false_ne_true, ih (i + 1) hd', List.filter_cons, if_neg (by rw [hpy]; exact Bool.false_ne_true)]
  unfold tupGE
  rw [hf m]; simp only
  rw [show (fixIt xs).fuel = xs.length + 1 from rfl, go xs 0 rfl]; simp only
  rw [if_pos (by rw [List.length_map]; exact Nat.le_trans (List.length_filter_le _ _) hz)]
theorem broken_pf {a b c : D} {tl : List D} (h : ∀ d ∈ tl, StD d) (hz : tl.length ≤ 1000) : PF sm_broken [.tup [a, b, c, .tup tl]] (.tup (brkD tl)) := by
  apply pf_def rfl
  apply evs_ret
  refine ev_tupGG (xs := enumD tl) (ge := fun d => match d with
    | .tup [i, y] => [some (.tup [a, b, c, .tup tl]), some i, some y]
    | _ => []) (fun m => by unfold enumTI; rfl) (fun x hx m => ?_) (fun x hx => ?_) (fun x hx _ => ?_) (by unfold enumD; rw [List.length_mapIdx]; omega)
  · obtain ⟨i, y, rfl, _⟩ := mem_enumD hx
    rfl
  · obtain ⟨i, y, rfl, hy⟩ := mem_enumD hx
    rcases h y (List.mem_of_getElem? hy) with rfl | ⟨v, rfl⟩
    · exact evt_tst (ev_bin (ev_v rfl) ev_c op_isN)
    · exact evt_tst (ev_bin (ev_v rfl) ev_c op_isI)
  · obtain ⟨i, y, rfl, _⟩ := mem_enumD hx
    exact ev_v rfl

theorem due_T {tl : List D} {μ : Mu} (h : ∀ d ∈ tl, StD d) (hz : tl.length ≤ 1000) : wp (sm_L_due [.tup tl] μ) fun r m => r = .tup (brkD tl) ∧ Gr μ m := by
  refine wp_def rfl ?_
  repeat walk_at "y"
  refine wp_lcE (p := isBrk) (k := numD) (wp_enumBT ?_)
  repeat walk_at "y"
  refine ⟨fun i m _ => rfl, by unfold enumD; rw [List.length_mapIdx]; omega, fun x hx m g => ?_, fun m g hc => ?_⟩
  · obtain ⟨i, y, rfl, hy⟩ := mem_enumD hx
    refine wp_tupGL rfl (wp_consG (wp_nm (wp_consG (wp_nm (wp_nilG ⟨Gr.refl, ?_, fun _ => ev_g (ev_v rfl)⟩)))))
    rcases h y (List.mem_of_getElem? hy) with rfl | ⟨v, rfl⟩
    · exact evt_g (evt_tst (ev_bin (ev_v rfl) ev_c op_isN))
    · exact evt_g (evt_tst (ev_bin (ev_v rfl) ev_c op_isI))
  · repeat walk_at "y"
    refine wp_tupL hc ?_
    exact ⟨rfl, g⟩
theorem due_L {tl : List D} {μ : Mu} {l : Nat} (hl : μ[l]? = some (.lst tl)) (h : ∀ d ∈ tl, StD d) (hz : tl.length ≤ 1000) : wp (sm_L_due [.ref l] μ) fun r m => r = .tup (brkD tl) ∧ Gr μ m := by
  refine wp_def rfl ?_
  repeat walk_at "y"
  refine wp_lcE (p := isBrk) (k := numD) (wp_enumBL ?_)
  repeat walk_at "y"
  refine ⟨l, tl, rfl, hl, enumD tl, by unfold enumD; rw [List.length_mapIdx]; rfl, fun i m g => ?_, by unfold enumD; rw [List.length_mapIdx]; omega, fun x hx m g => ?_, fun m g hc => ?_⟩
  · show (match m[l]? with
      | some (.lst xs) => some (match xs[i]? with
        | some x => some (D.tup [.int (i : Nat), x])
        | none => none)
      | _ => none) = _
    rw [g.get hl, enumD_get]
    all_goals rfl
  · obtain ⟨i, y, rfl, hy⟩ := mem_enumD hx
    refine wp_tupGL rfl (wp_consG (wp_nm (wp_consG (wp_nm (wp_nilG ⟨Gr.refl, ?_, fun _ => ev_g (ev_v rfl)⟩)))))
    rcases h y (List.mem_of_getElem? hy) with rfl | ⟨v, rfl⟩
    · exact evt_g (evt_tst (ev_bin (ev_v rfl) ev_c op_isN))
    · exact evt_g (evt_tst (ev_bin (ev_v rfl) ev_c op_isI))
  · repeat walk_at "y"
    refine wp_tupL hc ?_
    exact ⟨rfl, g⟩
/-- a broken tale stays so -/
def markW (tl : List D) (ws : List Wish) : List Wish := ws.mapIdx fun i w => { w with gb := match tl[i]? with | some .non => true | _ => false }
theorem mark_d {tl : List D} {ws : List Wish} : (markW tl ws).map Wish.d = ws.map Wish.d := by
  unfold markW
  apply List.ext_getElem?
  intro i
  simp only [List.getElem?_map, List.getElem?_mapIdx]
  cases ws[i]? <;> rfl
theorem mark_hs {n : Int} {ws : List Wish} (H : Hs n ws) (tl : List D) : Hs n (markW tl ws) := by
  have mem : ∀ w ∈ markW tl ws, ∃ w0 ∈ ws, w.me = w0.me ∧ w.rules = w0.rules ∧ w.tale = w0.tale := fun w hw => by
    obtain ⟨i, hi⟩ := List.mem_iff_getElem?.mp hw
    unfold markW at hi
    rw [List.getElem?_mapIdx] at hi
    cases e : ws[i]? with
    | none => rw [e] at hi; cases hi
    | some w0 =>
      rw [e] at hi
      cases hi
      exact ⟨w0, List.mem_of_getElem? e, rfl, rfl, rfl⟩
  refine ⟨H.n2, H.n4, by unfold markW; rw [List.length_mapIdx]; exact H.len, fun w hw => ?_, fun w hw => ?_, fun w hw => ?_, fun w hw => ?_⟩
  all_goals obtain ⟨w0, h0, e1, e2, e3⟩ := mem w hw
  · unfold Wish.Ok; rw [e2]; exact H.ok w0 h0
  · unfold Wish.d; rw [e1, e2, e3]; exact H.tw w0 h0
  · rw [e1]; exact H.me w0 h0
  · rw [e1, e2]; exact H.rule w0 h0
theorem brk_stays {n : Int} {ws : List Wish} {s : Sc} {d : Deed} (H : Hs n ws) (h : Sk n ws 1000000 s) (hd : d.Ok n) {i : Nat} (hi : s.tl[i]? = some .non) : (nextF n ws d s).tl[i]? = some .non := by
  have hM : Sk n (markW s.tl ws) 1000000 s := ⟨h.cs, by unfold markW; rw [List.length_mapIdx]; exact h.mi, by unfold markW; rw [List.length_mapIdx]; exact h.tl, h.st, h.ev, h.te, fun j w hw hg => by
    unfold markW at hw
    rw [List.getElem?_mapIdx] at hw
    cases e : ws[j]? with
    | none => rw [e] at hw; cases hw
    | some w0 =>
      rw [e] at hw
      cases hw
      revert hg
      show (match s.tl[j]? with | some .non => true | _ => false) = true → _
      split
      · rename_i e2; intro _; exact e2
      · intro z; cases z⟩
  obtain ⟨a, m1, e1, r1, _⟩ := stp_ok (dD := .non) H h hd []
  obtain ⟨b, m2, e2, r2, _⟩ := stp_ok (dD := .non) (mark_hs H s.tl) hM hd []
  have e3 : houD n (markW s.tl ws) .non = houD n ws .non := by unfold houD; rw [mark_d]
  rw [e3, e1] at e2
  have e4 := (Prod.mk.inj (Option.some.inj e2)).1
  rw [r1, r2] at e4
  have e5 : (nextF n ws d s).tl = (nextF n (markW s.tl ws) d s).tl := by
    have z := e4
    unfold scD at z
    injection z with z
    injection z with z1 z2
    injection z1 with z1
    injection z1 with _ z1
    injection z1 with _ z1
    injection z1 with _ z1
    injection z1 with z1 _
    injection z1
  rw [e5]
  have hlt : i < ws.length := by
    have := (List.getElem?_eq_some_iff.mp hi).1
    rw [h.tl] at this; exact this
  refine (next_sk (mark_hs H s.tl) hM hd).br i { ws[i] with gb := true } ?_ rfl
  unfold markW
  rw [List.getElem?_mapIdx, List.getElem?_eq_getElem hlt]
  show some _ = some _
  rw [hi]
theorem deeds_in {ds : List Deed} : ∀ {ys : List D}, (∀ y ∈ ys, y ∈ ds.map Deed.d) → ∃ row : List Deed, ys = row.map Deed.d ∧ (∀ d ∈ row, d ∈ ds)
  | [], _ => ⟨[], rfl, (fun _ h => nomatch h)⟩
  | y :: ys, h => by
    obtain ⟨q, hq, rfl⟩ := List.mem_map.mp (h y List.mem_cons_self)
    obtain ⟨rs, e, h3⟩ := deeds_in fun z hz => h z (List.mem_cons_of_mem _ hz)
    refine ⟨q :: rs, by rw [e]; rfl, fun r hr => ?_⟩
    rcases List.mem_cons.mp hr with rfl | hr
    · exact hq
    · exact h3 r hr
theorem brk_ints (tl : List D) : ∃ ys : List Int, brkD tl = ys.map D.int := by
  have : ∀ zs : List D, (∀ z ∈ zs, ∃ i : Nat, z = .int (i : Nat)) → ∃ ys : List Int, zs = ys.map D.int := by
    intro zs
    induction zs with
    | nil => exact fun _ => ⟨[], rfl⟩
    | cons z zs ih =>
      intro h
      obtain ⟨i, rfl⟩ := h z List.mem_cons_self
      obtain ⟨ys, e⟩ := ih fun y hy => h y (List.mem_cons_of_mem _ hy)
      exact ⟨(i : Int) :: ys, by rw [e]; rfl⟩
  exact this _ fun z hz => by obtain ⟨i, e, _⟩ := brk_mem.mp hz; exact ⟨i, e⟩
theorem brk_s0 (wl : List Wish) : brkD (s0 wl).tl = [] := by
  apply List.eq_nil_iff_forall_not_mem.mpr
  intro x hx
  obtain ⟨i, rfl, hi⟩ := brk_mem.mp hx
  have := List.eq_of_mem_replicate (List.mem_of_getElem? hi)
  cases this
theorem eq_ints {ys : List Int} {μ : Mu} {Q : D → Mu → Prop} (q : Q (.bl true) μ) : wp (eqD (.tup (ys.map D.int)) (.tup (ys.map D.int)) μ) Q := by
  refine wp_eq ?_ q
  have e : ∀ zs : List Int, PyData.eqvAll (zs.map PyData.int) (zs.map PyData.int) = true := by
    intro zs
    induction zs with
    | nil => rfl
    | cons z zs ih => simp [PyData.eqvAll, PyData.eqv, ih]
  have e2 : pyD 8 μ (.tup (ys.map D.int)) = some (.tuple (ys.map PyData.int)) := by
    show Option.map PyData.tuple ((ys.map D.int).mapM (pyD 7 μ)) = _
    rw [py_ints]; rfl
  unfold eqD
  rw [e2]
  show some (D.bl (PyData.eqvAll (ys.map PyData.int) (ys.map PyData.int)), μ) = _
  rw [e]
theorem law_true (ns : List Int) (_ : ns.length ≤ 63) : ∃ μ', sm_law [.fl (ns.map D.int)] [] = some (.bl true, μ') := by
  suffices h : wp (sm_law [.fl (ns.map D.int)] []) fun r _ => r = .bl true by
    obtain ⟨r, m, e, rfl⟩ := h
    exact ⟨m, e⟩
  refine wp_def rfl ?_
  repeat walk_at "y"
  refine wp_mono (hand_spec ns []) ?_
  rintro r m ⟨rfl, g, hm⟩
  repeat walk_at "y"
  refine drawF hm (by omega) (by decide) (by decide) fun v m1 v0 v1 hm1 fm1 em1 => ?_
  repeat walk_at "y"
  refine ws_for_fix (wp_rng1 ?_)
  repeat walk_at "y"
  refine drawF hm1 (by omega) (by decide) (by decide) fun t m2 t0 t1 hm2 fm2 em2 => ?_
  repeat walk_at "y"
  refine ⟨by omega, by omega, _, rfl, fun i e k => ∃ x3 x4 x5 x6 x7 x8 x9 x10 x11 x12 x13 x14 x15, e = [some (.fl (ns.map D.int)), some (.ref 0), some (.int (2 + v)), x3, x4, x5, x6, x7, x8, x9, x10, x11, x12, x13, x14, x15] ∧ Hand (999999900000 - 400 * i) 0 k, ?_, ?_, ?_⟩
  · exact ⟨_, _, _, _, _, _, _, _, _, _, _, _, _, rfl, hm2.mono (by omega)⟩
  · rintro i x e k hx ⟨x3, x4, x5, x6, x7, x8, x9, x10, x11, x12, x13, x14, x15, rfl, hk⟩
    have hi : i < (1 + t).toNat := (rng_at hx).1
    repeat walk_at "y"
    refine drawF hk (by omega) (by decide) (by decide) fun many k1 a0 a1 hk1 f1 e1 => ?_
    repeat walk_at "y"
    refine drawF hk1 (by omega) (by decide) (by decide) fun way k2 b0 b1 hk2 f2 e2 => ?_
    repeat walk_at "y"
    refine wp_lcDY (l := 0) (N := 999999900000 - 400 * i - 1 - 1) (c := 1) (P := fun x y => ∃ u : Int, y = .int u) (wp_rng1 ?_)
    repeat walk_at "y"
    refine ⟨by omega, by omega, _, still_fix, by simp; omega, hk2, by decide, by simp; omega, ?_, ?_⟩
    · intro x hx m M hM cM fr
      repeat walk_at "y"
      exact drawF hM cM (by decide) (by decide) fun u q u0 u1 hq fq eq => ⟨⟨u, rfl⟩, hq, fq⟩
    intro mi k3 hmi hml hmc hh3 fr3
    simp only [List.length_map, List.length_range] at hh3 hml
    have hk3 : Hand (999999900000 - 400 * i - 20) 0 k3 := hh3.mono (by omega)
    repeat walk_at "y"
    refine wp_tupL hmc ?_
    repeat walk_at "y"
    refine wp_lcDY (l := 0) (N := 999999900000 - 400 * i - 20) (c := 3) (P := fun x y => StD y) (wp_rng1 ?_)
    repeat walk_at "y"
    refine ⟨by omega, by omega, _, still_fix, by simp; omega, hk3, by decide, by simp; omega, ?_, ?_⟩
    · intro x hx m M hM cM fr
      repeat walk_at "y"
      refine drawF hM (by omega) (by decide) (by decide) fun p q1 p0 p1 hq1 g1 z1 => ?_
      have lq1 := hq1.lt
      repeat walk_at "y"
      refine drawF (hq1.push _) (by omega) (by decide) (by decide) fun u q2 u0 u1 hq2 g2 z2 => ?_
      have c1 := g2.get (k := q1.length) (by omega) (get_last q1 (Cell.lst [.non, .int p, .int 0, .non]))
      repeat walk_at "y"
      have hix : ∃ w : Int, 0 ≤ w ∧ w < 4 ∧ atI [D.int way, .int u] (if decide (way < 2) = true then 1 else 0) = some (.int w) := by
        by_cases hw : way < 2
        · exact ⟨u, u0, u1, by rw [if_pos (decide_eq_true hw)]; rfl⟩
        · exact ⟨way, b0, b1, by rw [if_neg (by simpa using hw)]; rfl⟩
      obtain ⟨w, w0, w1, ew⟩ := hix
      refine wp_eq (pf_intB _) ?_
      repeat walk_at "y"
      refine wp_ixL (get_last _ _) ew ?_
      obtain ⟨d, ed, hd⟩ := ix_mem (xs := [D.non, .int p, .int 0, .non]) w0 (by simpa using w1)
      refine wp_ixL (get_old c1) ed ⟨?_, (hq2.push _).mono (by omega), ((g1.trans (Fr.refl.push _)).trans g2).push _⟩
      simp only [List.mem_cons, List.not_mem_nil, or_false] at hd
      rcases hd with rfl | rfl | rfl | rfl
      all_goals first
        | exact .inl rfl
        | exact .inr ⟨_, rfl⟩
    intro tl k4 htl htll htc hh4 fr4
    simp only [List.length_map, List.length_range] at hh4 htll
    have hst : ∀ s ∈ tl, StD s := fun s hs => by obtain ⟨_, _, h⟩ := htl s hs; exact h
    have lk3 := hk3.lt
    repeat walk_at "y"
    refine wp_mono (calls_spec (N := 999999900000 - 400 * i - 60) (hh4.mono (by omega)) (by omega) (by omega) (by omega)) ?_
    rintro _ k5 ⟨⟨xs, rfl, lx, hx, _⟩, hk5, f5⟩
    repeat walk_at "y"
    refine drawF hk5 (by omega) (by decide) (by decide) fun night k6 n0 n1 hk6 f6 e6 => ?_
    have c6 := (f5.trans f6).get (k := k3.length) (by omega) htc
    repeat walk_at "y"
    refine wp_tupL c6 ?_
    repeat walk_at "y"
    refine wp_pf (broken_pf hst (by omega)) ?_
    repeat walk_at "y"
    refine wp_mono (due_L c6 hst (by omega)) ?_
    rintro _ k7 ⟨rfl, g7⟩
    repeat walk_at "y"
    refine same3_to (sm := sm_L_same) same_eq3 (brk_good (by omega) (by decide)) rfl fun k8 g8 => ?_
    repeat walk_at "y"
    rw [if_neg (by decide)]
    exact ws_sk ⟨_, _, _, _, _, _, _, _, _, _, _, _, _, rfl, ((hk6.gr g7).gr g8).mono (by omega)⟩
  · rintro e k ⟨x3, x4, x5, x6, x7, x8, x9, x10, x11, x12, x13, x14, x15, rfl, hk⟩
    simp only [List.length_map, List.length_range] at hk
    repeat walk_at "y"
    refine drawF hk (by omega) (by decide) (by decide) fun w k1 w0 w1 hk1 f1 e1 => ?_
    repeat walk_at "y"
    refine wp_mono (house_spec hk1 (by omega) (by omega) (by omega) (by omega) (by omega) (by omega) (by omega)) ?_
    rintro _ k2 ⟨⟨wl, ds, rfl, H, hgb, hds, d1, d2, _⟩, hk2, f2⟩
    repeat walk_at "y"
    refine wp_lcDY (l := 0) (N := 999999000000) (c := 1) (P := fun x y => y ∈ ds.map Deed.d) (wp_rng1 ?_)
    repeat walk_at "y"
    refine drawF hk2 (by omega) (by decide) (by decide) fun t' k3 c0 c1 hk3 f3 e3 => ?_
    repeat walk_at "y"
    refine ⟨by omega, by omega, _, still_fix, by simp; omega, hk3.mono (by omega), by decide, by simp; omega, ?_, ?_⟩
    · intro x hx m M hM cM fr
      repeat walk_at "y"
      refine drawF hM cM (by simp; omega) (by simp; omega) fun u q u0 u1 hq fq eq => ?_
      obtain ⟨d, ed, hd⟩ := ix_mem (xs := ds.map Deed.d) u0 (by simpa using u1)
      exact wp_ixT ed ⟨hd, hq, fq⟩
    intro ys k4 hy hlen hcell hh fr
    obtain ⟨row, rfl, hrow⟩ := deeds_in fun y hy' => by obtain ⟨_, _, h⟩ := hy y hy'; exact h
    simp only [List.length_map, List.length_range] at hlen
    have hok : ∀ d ∈ row, d.Ok (2 + v) := fun d hd => hds d (hrow d hd)
    have hl31 : row.length ≤ 31 := by omega
    have hwl := H.len
    repeat walk_at "y"
    refine wp_tupL hcell ?_
    repeat walk_at "y"
    refine begun_ok H ?_
    repeat walk_at "y"
    refine ws_for_fix (wp_seqIT ?_)
    repeat walk_at "y"
    refine ⟨fun i e k => ∃ x3 x6 x7 x8 x11 x12 x13 x14 x15, e = [some (.fl (ns.map D.int)), some (.ref 0), some (.int (2 + v)), x3, some (houD (2 + v) wl (.tup (ds.map Deed.d))), some (.tup (row.map Deed.d)), x6, x7, x8, some (scD (runS (2 + v) wl (row.take i) (s0 wl))), some (.tup (brkD (runS (2 + v) wl (row.take i) (s0 wl)).tl)), x11, x12, x13, x14, x15], ?_, ?_, ?_⟩
    · refine ⟨x3, x6, x7, x8, x11, x12, x13, x14, x15, ?_⟩
      rw [show brkD (runS (2 + v) wl (row.take 0) (s0 wl)).tl = [] from brk_s0 wl]
      rfl
    · rintro i x e k hx ⟨x3, x6, x7, x8, x11, x12, x13, x14, x15, rfl⟩
      rw [List.getElem?_map] at hx
      cases ed : row[i]? with
      | none => rw [ed] at hx; cases hx
      | some d =>
      rw [ed] at hx
      cases hx
      have hmem := List.mem_of_getElem? ed
      have htk1 : row.take (i + 1) = row.take i ++ [d] := by rw [List.take_add_one, ed]; rfl
      have hs := run_sk H (row.take i) _ (s0_sk (n := 2 + v) (ws := wl) hgb) fun d h => hok d (List.mem_of_mem_take h)
      have hs2 := next_sk H hs (hok d hmem)
      have hgrow : ∀ x ∈ brkD (runS (2 + v) wl (row.take i) (s0 wl)).tl, x ∈ brkD (nextF (2 + v) wl d (runS (2 + v) wl (row.take i) (s0 wl))).tl := fun x hx => by
        obtain ⟨j, rfl, hj⟩ := brk_mem.mp hx
        exact brk_mem.mpr ⟨j, rfl, brk_stays H hs (hok d hmem) hj⟩
      generalize hS : runS (2 + v) wl (row.take i) (s0 wl) = S at hs hs2 hgrow ⊢
      obtain ⟨ys, ey⟩ := brk_ints (nextF (2 + v) wl d S).tl
      have htl := hs2.tl
      have htl0 := hs.tl
      have hbl := brk_len S.tl
      repeat walk_at "y"
      refine wp_mono (stp_ok H hs (hok d hmem) k) ?_
      rintro _ q2 ⟨rfl, g2⟩
      repeat walk_at "y"
      refine wp_pf (broken_pf hs2.st (by omega)) ?_
      repeat walk_at "y"
      refine wp_ixT (d := .tup (nextF (2 + v) wl d S).tl) rfl ?_
      repeat walk_at "y"
      refine wp_mono (due_T hs2.st (by omega)) ?_
      rintro _ q3 ⟨rfl, g3⟩
      repeat walk_at "y"
      refine same3_to (sm := sm_L_same) same_eq3 (brk_good (by omega) (by decide)) rfl fun q4 g4 => ?_
      repeat walk_at "y"
      rw [if_neg (by decide)]
      repeat walk_at "y"
      refine wp_lcP (p := fun _ => true) (k := fun _ => .bl true) (wp_seqIT ?_)
      repeat walk_at "y"
      refine ⟨by omega, fun x hx => evt_yes, fun x hx _ => ?_, ?_⟩
      · obtain ⟨j, rfl, hj⟩ := brk_mem.mp hx
        refine ev_to (ev_bin (ev_v rfl) (ev_v rfl) (op_inI (neg := false) ys ey)) ?_
        have hm := hgrow _ hx
        rw [ey] at hm
        obtain ⟨z, hz, ez⟩ := List.mem_map.mp hm
        have ez : z = (j : Int) := by injection ez
        have : (ys.any fun y => y == (j : Int)) = true := List.any_eq_true.mpr ⟨z, hz, by rw [ez]; simp⟩
        rw [this]; rfl
      repeat walk_at "y"
      refine wp_eq (a := .bl true) (μ := q4 ++ [.lst ((List.filter (fun _ => true) (brkD S.tl)).map fun _ => D.bl true)]) ?_ ?_
      · unfold allB
        simp only
        rw [get_last]; simp only
        rw [show ((List.filter (fun _ => true) (brkD S.tl)).map fun _ => D.bl true) = List.replicate (brkD S.tl).length (D.bl true) from by rw [List.filter_eq_self.mpr (fun _ _ => rfl)]; exact List.map_const' .., bls_rep3]
        simp
      repeat walk_at "y"
      rw [if_neg (by decide)]
      refine ws_sk ?_
      repeat walk_at "y"
      have e9 : runS (2 + v) wl (row.take (i + 1)) (s0 wl) = nextF (2 + v) wl d S := by rw [htk1, run_snoc, hS]
      dsimp only
      rw [e9]
      exact ⟨_, _, _, _, _, _, _, _, _, rfl⟩
    · rintro e k ⟨x3, x6, x7, x8, x11, x12, x13, x14, x15, rfl⟩
      rw [List.length_map, List.take_of_length_le (Nat.le_refl _)]
      have hs := run_sk H row _ (s0_sk (n := 2 + v) (ws := wl) hgb) hok
      have htl := hs.tl
      repeat walk_at "y"
      refine wp_mono (ran_ok H hgb hok (by omega) k) ?_
      rintro _ q2 ⟨rfl, g2⟩
      repeat walk_at "y"
      refine wp_pf (broken_pf hs.st (by omega)) ?_
      obtain ⟨ys, ey⟩ := brk_ints (runS (2 + v) wl row (s0 wl)).tl
      repeat walk_at "y"
      rw [ey]
      exact eq_ints rfl

end Lw
open PySem PySem.W PyProof.Rows